import PyProof.Rows.All
import Wide.All
import OpenK.AllK
import Wide.FinOn
import Lean
import PyProof.EqAt
import PyProof.EqKinds
import PyProof.TupleCall
import PyProof.EqLayable
import PyProof.SumAny
import PyProof.ListRange
import PyProof.WalksEnum
import PyProof.ZipIter
import PyProof.EnumMake
import PyProof.ConsumeS
import PyProof.SeqI3
import PyProof.MaxThree
import PyProof.Rows.TupAdd
import PyProof.DictRoadsH
import PyProof.MeetsDict
import PyProof.FactsAll.dict
import PyProof.Rows.TupDisplay
import PyProof.Rows.SortWalk
import PyProof.MinMaxWalk
import PyProof.WalksMore
import PySem.Challenge.RW_chargeyard_k94_whole_no_filling_is_faire
set_option Elab.async false
set_option linter.all false
set_option maxRecDepth 100000
set_option maxHeartbeats 4000000
set_option compiler.extract_closed false
set_option genSizeOf false
section
open PySem PySem.Spec PyProof.Rows
def Xa:=@if_neg
def Xb:=@List.mem_cons_self
def Xc:=@if_pos
def Xd:=@List.mem_cons_of_mem
def Xe:=@List.getElem?_eq_some_iff
def Xf:=@List.mem_cons
def Xg:=@Int.mul_assoc
def Xh:=@wpAny_bind
def Xi:=@List.getElem?_map
def Xj:=@List.length_map
def Xk:=@Int.mul_comm
def Xl:=@List.mem_range
def Xm:=@List.mem_singleton
def Xn:=@Int.toNat_natCast
def Xo:=@Heap.lt_size
def Xp:=@absurd
def Xq:=@Bool.false_ne_true
def Xr:=@List.map_cons
def Xs:=@Nat.ne_of_lt
def Xt:=@List.length_append
def Xu:=@Int.mul_le_mul_of_nonneg_left
def Xv:=@Heap.get?_push_of_some
def Xw:=@Nat.le_refl
def Xx:=@List.mem_map
def Xy:=@decide_eq_false
def Xz:=@List.map_append
def XA:=@List.find?_cons
def XB:=@wpAny_pure
def XC:=@List.size_toArray
def XD:=@of_decide_eq_true
def XF:=@Int.toNat_of_nonneg
def XG:=@Nat.lt_of_lt_of_le
def XH:=@List.getElem?_eq_getElem
def XI:=@List.mem_append
def XJ:=@List.mem_append_right
def XL:=@List.nodup_cons
def XM:=@List.getElem_mem
def XN:=@List.getElem?_set_self
def XO:=@List.lookup_cons
def XQ:=@List.map_map
def XR:=@Int.mul_le_mul_of_nonneg_right
def XS:=@Nat.le_trans
def XU:=@List.getElem?_set_ne
def XV:=@Int.lt_of_le_of_lt
def XW:=@List.length_cons
def XX:=@List.map_congr_left
def XY:=@Nat.le_of_lt
def XZ:=@Heap.get?_push_size
def X0:=@Nat.zero_le
def X4:=@List.append_nil
def X5:=@of_decide_eq_false
def X6:=@Nat.add_sub_cancel
def X7:=@Int.lt_trans
def X8:=@Option.map_some
def X9:=@decide_eq_true
def Xaa:=@List.mem_filter
def Xab:=@List.getElem?_append_left
def Xac:=@Int.le_of_mul_le_mul_left
def Xad:=@List.not_mem_nil
def Xae:=@List.mem_append_left
def Xaf:=@congrArg
def Xag:=@Bool.false_eq_true
def Xah:=@List.range_succ
def Xai:=@Int.natCast_mul
def Xaj:=@Int.mul_one
def Xak:=@Int.le_refl
def Xal:=@Int.mul_nonneg
def Xam:=@List.mem_flatMap
def Xan:=@List.flatMap_append
def Xao:=@Int.zero_add
def Xap:=@List.take_length
def Xaq:=@Nat.ne_of_gt
def Xar:=@List.getElem?_append_right
def Xas:=@Int.ofNat_lt
def Xat:=@Int.ofNat_le
def Xau:=@List.take_succ
def Xav:=@List.append_assoc
def Xaw:=@List.replicate_succ
def Xax:=@Int.emod_nonneg
def Xay:=@List.drop_eq_getElem_cons
def Xaz:=@List.pairwise_cons
def XaA:=@Nat.lt_irrefl
def XaB:=@Int.mul_sub
def XaC:=@Option.isSome_map
def XaD:=@Int.ediv_nonneg
def XaE:=@Nat.lt_succ_self
def XaF:=@Bool.and_eq_true
def XaG:=@Option.getD_some
def XaH:=@Nat.pow_le_pow_right
def XaI:=@List.flatten_cons
def XaJ:=@List.sum_cons
def XaK:=@List.cons_append
def XaL:=@Int.emod_lt_of_pos
def XaM:=@Int.mul_zero
def XaN:=@Int.le_trans
def XaO:=@Bool.eq_iff_iff
def XaP:=@Nat.mul_assoc
def XaQ:=@Int.le_of_mul_le_mul_right
def XaR:=@List.length_range
def XaS:=@List.nodup_append
def XaT:=@List.getElem?_eq_none_iff
def XaU:=@Bool.and_eq_true_iff
def XaV:=@Int.mul_add
def XaW:=@List.nodup_nil
def XaX:=@List.length_take
def XaY:=@List.map_nil
def XaZ:=@Nat.mul_comm
def Xa0:=@List.filter_cons
def Xa1:=@Int.add_zero
def Xa2:=@Int.mul_ediv_cancel_left
def Xa3:=@List.getElem?_cons_succ
def Xa4:=@Bool.not_true
def Xa5:=@Nat.lt_of_le_of_lt
def Xa6:=@List.sum_append
def Xa7:=@Heap.get?_update_other
def Xa8:=@List.flatMap_cons
def Xa9:=@Nat.gcd_dvd_right
def Xba:=@List.pairwise_flatMap
def Xbb:=@Int.mul_le_mul
def Xbc:=@Nat.le_add_right
def Xbd:=@List.mem_of_mem_take
def Xbe:=@List.nodup_range
def Xbf:=@List.countP_cons
def Xbg:=@List.any_cons
def Xbh:=@Int.add_mul
def Xbi:=@List.length_pos_iff
def Xbj:=@List.takeWhile_cons
def Xbk:=@List.mem_map_of_mem
def Xbl:=@List.nil_append
def Xbm:=@List.filter_append
def Xbn:=@Bool.eq_false_or_eq_true
def Xbo:=@Bool.not_false
def Xbp:=@List.foldl_append
def Xbq:=@Nat.dvd_mul_left
end
namespace L2
open PySem PySem.Spec PyProof.Rows
abbrev Key:=Sum Int Str
def ZlJ:Key->Value->Bool
 |.inl k,v=>Value.isInt k v
 |.inr x,v=>Value.isStrOf x v
def Zvo (w:World):Key->Int
 |.inl k=>hashInt k
 |.inr x=>hashStr w x
theorem Zbq:∀{k:Key} {v:Value},ZlJ k v=true->(∃i t,k=Sum.inl i/\v=Value.int i t)\/(∃x t,k=Sum.inr x/\v=Value.str x t)
 |.inl i,v,h=>by
   obtain⟨t,e⟩:=Value.isInt_shape (k:=i) (v:=v) h
   exact .inl ⟨i,t,rfl,e⟩
 |.inr x,v,h=>by
   obtain⟨t,e⟩:=Value.isStrOf_shape (x:=x) (v:=v) h
   exact .inr ⟨x,t,rfl,e⟩
theorem Znl (i:Int)(t:Tok):ZlJ (.inl i) (.int i t)=true:=by simp[ZlJ,Value.isInt]
theorem Znn (x:Str)(t:Tok):ZlJ (.inr x) (.str x t)=true:=by simp[ZlJ,Value.isStrOf]
theorem ZtW (a b:Int):decide ((Sum.inl a:Key)=Sum.inl b)=(a==b):=by
 by_cases e:a=b
 ·subst e;simp
 ·have h:¬(Sum.inl a:Key)=Sum.inl b:=fun q=>e (Sum.inl.inj q)
  rw[Xy h];exact(beq_eq_false_iff_ne.mpr e).symm
theorem Ztl (a b:Str):decide ((Sum.inr a:Key)=Sum.inr b)=decide (a=b):=by
 by_cases e:a=b
 ·subst e;simp
 ·have h:¬(Sum.inr a:Key)=Sum.inr b:=fun q=>e (Sum.inr.inj q)
  rw[Xy h,Xy e]
theorem ZsU (a:Int)(b:Str):decide ((Sum.inl a:Key)=Sum.inr b)=false:=Xy (fun q=>nomatch q)
theorem Ztt (a:Str)(b:Int):decide ((Sum.inr a:Key)=Sum.inl b)=false:=Xy (fun q=>nomatch q)
def Zbh (prog:Program)(w:World):PySem.KeyKind prog w Key where
 is:=ZlJ
 hash:=Zvo w
 inj:=fun v a b ha hb=>by
  rcases Zbq ha with ⟨i,t,rfl,rfl⟩|⟨x,t,rfl,rfl⟩
  ·rcases Zbq hb with ⟨j,u,rfl,e⟩|⟨y,u,rfl,e⟩
   ·injection e with e1 _;rw[e1]
   ·exact nomatch e
  ·rcases Zbq hb with ⟨j,u,rfl,e⟩|⟨y,u,rfl,e⟩
   ·exact nomatch e
   ·injection e with e1 _;rw[e1]
 byValue:=fun k v h=>by
  rcases Zbq h with ⟨i,t,rfl,rfl⟩|⟨x,t,rfl,rfl⟩<;>rfl
 pyHash:=fun hv h=>by
  rcases Zbq hv with ⟨i,t,rfl,rfl⟩|⟨x,t,rfl,rfl⟩
  ·exact wpAny_pyHash_int h
  ·exact wpAny_pyHash_str h
 eqBool:=fun hu hv h=>by
  rcases Zbq hu with ⟨i,t,rfl,rfl⟩|⟨x,t,rfl,rfl⟩
  ·rcases Zbq hv with ⟨j,u,rfl,rfl⟩|⟨y,u,rfl,rfl⟩
   ·rw[ZtW]at h;exact wpAny_eqBool_int h
   ·rw[ZsU]at h;exact SeqAt.EqAt.int_str i t y u _ _ _ _ h
  ·rcases Zbq hv with ⟨j,u,rfl,rfl⟩|⟨y,u,rfl,rfl⟩
   ·rw[Ztt]at h;exact SeqAt.EqAt.str_int x t j u _ _ _ _ h
   ·rw[Ztl]at h;exact wpAny_eqBool_str h
 «strs» := fun k x t v h=>by
  rcases Zbq h with ⟨i,u,rfl,e⟩|⟨y,u,rfl,e⟩
  ·exact nomatch e
  ·injection e with e1 _
   subst e1;cases v<;>rfl
theorem Zkx (prog:Program)(w:World)(i:Int)(t:Tok):(Zbh prog w).is (.inl i) (.int i t)=true:=Znl i t
theorem Zkp (prog:Program)(w:World)(x:Str)(t:Tok):(Zbh prog w).is (.inr x) (.str x t)=true:=Znn x t
inductive V where
 |non|bl (b:Bool)|int (i:Int)|str (x:Str)|byt (b:Array UInt8)|flt (b:UInt64)|ref (a:Addr)|ty (n:String)
 deriving DecidableEq
def Zbl:V->Value->Prop
 |.non,u=>u=Value.none
 |.bl b,u=>u=Value.bool b
 |.int i,u=>∃t,u=Value.int i t
 |.str x,u=>∃t,u=Value.str x t
 |.byt b,u=>∃t,u=Value.bytes b t
 |.flt b,u=>∃t,u=Value.float b t
 |.ref a,u=>u=Value.ref a
 |.ty n,u=>u=Value.type n
abbrev Zb7:List V->List Value->Prop:=Paired Zbl
theorem Zb7.length {xs:List V}{us:List Value}(r:Zb7 xs us):xs.length=us.length:=Paired.length r
theorem Zb7.get:∀{xs:List V} {us:List Value} {i:Nat} {x:V},Zb7 xs us->xs[i]?=some x->∃u,us[i]?=some u/\Zbl x u
 |_,_,_,_,.nil,e=>by simp at e
 |_,_,0,_,.cons r _,e=>by simp at e;subst e;exact⟨_,rfl,r⟩
 |_,_,i+1,x,.cons _ t,e=>by
   obtain⟨u,h1,h2⟩:=Zb7.get (i:=i) (x:=x) t (by simpa using e)
   exact⟨u,by simpa using h1,h2⟩
theorem Zb7.set {x:V}{u:Value}(r:Zbl x u):∀{xs:List V} {us:List Value} (i:Nat),Zb7 xs us->Zb7 (xs.set i x) (us.set i u)
 |_,_,_,.nil=>.nil
 |_,_,0,.cons _ t=>.cons r t
 |_,_,i+1,.cons q t=>.cons q (Zb7.set r i t)
theorem Zb7.append:∀{xs ys:List V} {us ws:List Value},Zb7 xs us->Zb7 ys ws->Zb7 (xs++ys) (us++ws)
 |_,_,_,_,.nil,s=>s
 |_,_,_,_,.cons r t,s=>.cons r (Zb7.append t s)
theorem Zb7.take:∀{xs:List V} {us:List Value} (n:Nat),Zb7 xs us->Zb7 (xs.take n) (us.take n)
 |_,_,0,_=>.nil
 |_,_,_+1,.nil=>.nil
 |_,_,n+1,.cons r t=>.cons r (Zb7.take n t)
theorem Zb7.drop:∀{xs:List V} {us:List Value} (n:Nat),Zb7 xs us->Zb7 (xs.drop n) (us.drop n)
 |_,_,0,r=>r
 |_,_,_+1,.nil=>.nil
 |_,_,n+1,.cons _ t=>Zb7.drop n t
def Zg8:Option V->Option Value->Prop
 |some v,some u=>Zbl v u
 |none,none=>True
 |_,_=>False
def KV {κ:Type}:List (κ×V)->List (κ×Value)->Prop:=Paired fun(p:κ×V) (q:κ×Value)=>p.1=q.1/\Zbl p.2 q.2
def kV:Key->V
 |.inl i=>.int i
 |.inr x=>.str x
inductive HO where
 |lst (xs:List V)
 |tup (xs:List V)
 |dK (kvs:List (Key×V))|dT (kvs:List (List Key×V))
 |set (S:Int->Bool) (n:Nat)
 |ins (C dx:Addr) (fs:List (Str×V))
 |own (x:Addr)
 |xd (fs:List (Str×V))
 |met (f x:Addr)
 |rng (lo hi:Int)
 |frz (o:Obj) (u:HO)
 |tbl (ps:Array Value)
 |ext (φ:Heap->Prop)
abbrev Hp:=Addr->Option HO
def upd (H:Hp)(a:Addr)(o:HO):Hp:=fun b=>if b=a then some o else H b
theorem Zam {H:Hp}{a:Addr}{o:HO}:upd H a o a=some o:=by unfold upd;rw[Xc rfl]
theorem Zak {H:Hp}{a b:Addr}{o:HO}(h:b≠a):upd H a o b=H b:=by unfold upd;rw[Xa h]
theorem ZtH {H:Hp}{a b:Addr}{o u:HO}(h:H a=some o)(h':H b=some u)(d:o≠u):a≠b:=by
 intro e;subst e;rw[h]at h';exact d (Option.some.inj h')
theorem Za2 {H:Hp}{a b:Addr}{o:HO}(h:H a=some o)(h':H b=none):a≠b:=by
 intro e;subst e;rw[h]at h';cases h'
section
variable (P:Program)(w:World)
def Zcw (H:Hp)(h:Heap)(a:Addr):HO->Prop
 |.lst xs=>xs.length<=sizeLine/\∃(its:List Value) (n:Nat),Zb7 xs its/\h.get? a=some { cls:=.type "list",data:=.seq its.toArray n }
 |.tup xs=>xs.length<=sizeLine/\∃its:List Value,Zb7 xs its/\IsTup h a its.toArray
 |.dK kvs=>kvs.length<=sizeLine/\(a==sysModules)=false/\∃vs,KV kvs vs/\h.DictOf (Zbh P w) a vs
 |.dT kvs=>kvs.length<=sizeLine/\(a==sysModules)=false/\∃xs:List (List Key×Addr×Value),
  Paired (fun(p:List Key×V) (q:List Key×Addr×Value)=>p.1=q.1/\H q.2.1=some (.tup (p.1.map kV))/\Zbl p.2 q.2.2) kvs xs /\
  ∃o es ep,h.get? a=some o/\o.ExactDict/\o.data=.dict es ep/\es.toList=xs.map (entryOfKey (tupleKind (Zbh P w)))/\(xs.map (·.1)).Nodup
 |.set S n=>h.SetOf (intKind P w) a S n
 |.ins C dx fs=>H dx=some (.own a)/\fs.length<=1000/\dx≠a/\h.get? a=some (W.instObj C dx) /\
  ∃mA,h.Ns1 dx mA/\(∀f,Zg8 (fs.lookup f) (mA f))/\PySem.Within mA (fs.map (·.1))
 |.own _=>∃o,h.get? a=some o
 |.xd fs=>∃mA,h.Ns1 a mA/\∀f,Zg8 (fs.lookup f) (mA f)
 |.rng lo hi=>∃t u v,h.get? a=some { cls:=.type "range",data:=.fields #[.int lo t,.int hi u,.int 1 v] }
 |.frz o u=>h.get? a=some o/\Zcw H h a u
 |.tbl ps=>h.get? a=some { cls:=.none,data:=.fields ps }
 |.met f x=>h.get? a=some (W.methodObj (.ref f) (.ref x))
 |.ext φ=>φ h/\(∃o,h.get? a=some o)/\∀h1 h2:Heap,φ h1->(∀o,h1.get? a=some o->h2.get? a=some o)->φ h2
def HOk (H:Hp)(h:Heap):Prop := ∀a o,H a=some o->Zcw P w H h a o
end
section
variable {P:Program}{w:World}{H H':Hp}{h h':Heap}{a:Addr}{o:HO}
theorem Zcw.lt (x:Zcw P w H h a o):a<h.objs.size:=by
 cases o with
 |lst xs=>obtain⟨_,_,_,_,e⟩:=x;exact Xo e
 |tup xs=>obtain⟨_,_,_,p⟩:=x;exact p.lt
 |dK kvs=>obtain⟨_,_,_,_,o,_,_,e,_⟩:=x;exact Xo e
 |dT kvs=>obtain⟨_,_,_,_,o,_,_,e,_⟩:=x;exact Xo e
 |set S n=>obtain⟨o,_,_,_,e,_⟩:=x;exact Xo e
 |ins C dx fs=>obtain⟨_,_,_,e,_⟩:=x;exact Xo e
 |own y=>obtain⟨_,e⟩:=x;exact Xo e
 |xd fs=>obtain⟨_,⟨_,_,_,e,_⟩,_⟩:=x;exact Xo e
 |rng lo hi=>obtain⟨_,_,_,e⟩:=x;exact Xo e
 |frz ob u=>obtain⟨e,_⟩:=x;exact Xo e
 |tbl ps=>exact Xo (show h.get? a=some _ from x)
 |met f y=>exact Xo (show h.get? a=some _ from x)
 |ext φ=>obtain⟨_,⟨_,e⟩,_⟩:=x;exact Xo e
theorem Paired.mapP {α β:Type}{F G:α->β->Prop}:∀{l₁:List α} {l₂:List β},Paired F l₁ l₂->(∀a b,F a b->G a b)->Paired G l₁ l₂
 |_,_,.nil,_=>.nil
 |_,_,.cons r t,f=>.cons (f _ _ r) (Paired.mapP t f)
theorem Zcw.stay (x:Zcw P w H h a o)(k:∀b u,(b=a\/H b=some (.own a))->h.get? b=some u->h'.get? b=some u)
 (ho:∀b,H b=some (.own a)->H' b=some (.own a)) (ht:∀b xs,H b=some (.tup xs)->H' b=some (.tup xs)):Zcw P w H' h' a o:=by
 induction o with
 |lst xs=>obtain⟨z,its,n,r,e⟩:=x;exact⟨z,its,n,r,k _ _ (.inl rfl) e⟩
 |tup xs=>obtain⟨z,its,r,ob,e,c⟩:=x;exact⟨z,its,r,ob,k _ _ (.inl rfl) e,c⟩
 |dK kvs=>obtain⟨z,y,vs,r,ob,es,ep,e,c⟩:=x;exact⟨z,y,vs,r,ob,es,ep,k _ _ (.inl rfl) e,c⟩
 |dT kvs =>
   obtain⟨z,y,xs,r,ob,es,ep,e,c⟩:=x
   exact⟨z,y,xs,Paired.mapP r fun p q z=>⟨z.1,ht _ _ z.2.1,z.2.2⟩,ob,es,ep,k _ _ (.inl rfl) e,c⟩
 |set S n=>obtain⟨ob,es,ep,t,e,c⟩:=x;exact⟨ob,es,ep,t,k _ _ (.inl rfl) e,c⟩
 |ins C dx fs =>
   obtain⟨d,z,ne,e,mA,⟨od,es,ep,e2,c⟩,r⟩:=x
   exact⟨ho _ d,z,ne,k _ _ (.inl rfl) e,mA,⟨od,es,ep,k _ _ (.inr d) e2,c⟩,r⟩
 |own y=>obtain⟨ob,e⟩:=x;exact⟨ob,k _ _ (.inl rfl) e⟩
 |xd fs=>obtain⟨mA,⟨od,es,ep,e,c⟩,r⟩:=x;exact⟨mA,⟨od,es,ep,k _ _ (.inl rfl) e,c⟩,r⟩
 |rng lo hi=>obtain⟨t,u,v,e⟩:=x;exact⟨t,u,v,k _ _ (.inl rfl) e⟩
 |frz ob u ih=>obtain⟨e,q⟩:=x;exact⟨k _ _ (.inl rfl) e,ih q⟩
 |tbl ps =>
   have e:h.get? a=some { cls:=.none,data:=.fields ps }:=x
   show h'.get? a=some { cls:=.none,data:=.fields ps }
   exact k a _ (.inl rfl) e
 |met f y =>
   have e:h.get? a=some (W.methodObj (.ref f) (.ref y)):=x
   show h'.get? a=some (W.methodObj (.ref f) (.ref y))
   exact k a _ (.inl rfl) e
 |ext φ=>obtain⟨p,⟨o,e⟩,st⟩:=x;exact⟨st _ _ p fun o q=>k _ _ (.inl rfl) q,⟨o,k _ _ (.inl rfl) e⟩,st⟩
theorem HOk.lt (x:HOk P w H h)(e:H a=some o):a<h.objs.size:=(x a o e).lt
theorem HOk.fresh (x:HOk P w H h)(e:h.objs.size<=a):H a=none:=by
 cases q:H a with
 |none=>rfl
 |some u=>exact Xp (XG (x.lt q) e) (XaA _)
theorem HOk.kept (x:HOk P w H h)(k:∀b u,h.get? b=some u->h'.get? b=some u):HOk P w H h':=fun a o e =>
 (x a o e).stay (fun b u _ q=>k b u q) (fun _ q=>q) fun _ _ q=>q
theorem HOk.laid (x:HOk P w H h)(k:∀b u,h.get? b=some u->h'.get? b=some u)(hp:h.objs.size<=a)(new:Zcw P w (upd H a o) h' a o):HOk P w (upd H a o) h':=fun b u e=>by
 have hn:=x.fresh hp
 by_cases hb:b=a
 ·subst hb;rw[Zam]at e;cases e;exact new
 ·rw[Zak hb]at e
  exact(x b u e).stay (fun c v _ q=>k c v q) (fun c q=>by rw[Zak (Za2 q hn)];exact q) fun c xs q=>by rw[Zak (Za2 q hn)];exact q
end
def Rd (H:Hp)(a:Addr)(u:HO):Prop:=H a=some u\/∃o,H a=some (.frz o u)
theorem Rd.of {H:Hp}{a:Addr}{u:HO}(h:H a=some u):Rd H a u:=.inl h
theorem Rd.ok {P:Program}{w:World}{H:Hp}{h:Heap}{a:Addr}{u:HO}(r:Rd H a u)(x:HOk P w H h):Zcw P w H h a u:=by
 rcases r with r|⟨o,r⟩
 ·exact x a u r
 ·obtain⟨_,q⟩:=x a _ r
  exact q
def Mut:Option HO->Prop
 |some (.lst _)=>True
 |some (.dK _)=>True
 |some (.dT _)=>True
 |some (.set _ _)=>True
 |some (.ins _ _ _)=>True
 |some (.ext _)=>True
 |_=>False
section
variable {P:Program}{w:World}{H:Hp}{h h':Heap}{x e:Addr}{o':HO}
theorem HOk.write (ok:HOk P w H h)(mu:Mut (H x))(he:e=x\/H e=some (.own x))(k:∀b u,b≠e->h.get? b=some u->h'.get? b=some u)(heo:∃u,h'.get? e=some u)
 (new:Zcw P w (upd H x o') h' x o'):HOk P w (upd H x o') h':=fun b u q=>by
 have nown:∀c y,H c=some (.own y)->c≠x:=fun c y r z=>by subst z;rw[r]at mu;exact mu
 have ntup:∀c xs,H c=some (.tup xs)->c≠x:=fun c xs r z=>by subst z;rw[r]at mu;exact mu
 by_cases hb:b=x
 ·subst hb;rw[Zam]at q;cases q;exact new
 ·rw[Zak hb]at q
  by_cases hbe:b=e
  ·have q':H b=some (.own x):=by
    rcases he with z|z
    ·exact Xp (hbe.trans z) hb
    ·rw[hbe];exact z
   rw[q]at q';cases q';obtain⟨v,hv⟩:=heo
   exact⟨v,by rw[hbe];exact hv⟩
  ·refine(ok b u q).stay (fun c v hc r=>k c v ?_ r) (fun c r=>by rw[Zak (nown c b r)];exact r) fun c xs r=>by rw[Zak (ntup c xs r)];exact r
   rcases hc with rfl|hc
   ·exact hbe
   ·rintro rfl
    rcases he with z|z
    ·exact nown c b hc z
    ·rw[hc]at z;cases z;exact hb rfl
end
structure Un (fs ex:List Addr)(H H':Hp)(h h':Heap):Prop where
 keep:∀b o,h.get? b=some o->H b=none->b∉fs->b∉ex->h'.get? b=some o
 slot:∀b o,h.get? b=some o->H b=none->b∈fs->b∉ex->∃sl,h'.get? b=some { o with slots:=sl }
 free:∀b o,h.get? b=some o->H b=none->b∉ex->H' b=none
 there:∀b o,h.get? b=some o->b∉ex->∃o',h'.get? b=some o'
 tups:∀b xs,H b=some (.tup xs)->H' b=some (.tup xs)
 frzs:∀b o u,H b=some (.frz o u)->H' b=some (.frz o u)
 tupo:∀b xs o,H b=some (.tup xs)->h.get? b=some o->b∉ex->h'.get? b=some o
 tbls:∀b ps,H b=some (.tbl ps)->∃more,H' b=some (.tbl (ps++more))
section
variable {fs fs' ex ex':List Addr}{H H1 H2:Hp}{h h1 h2 h':Heap}{a x e:Addr}{o:HO}
theorem Un.any (u:Un fs ex H H1 h h1){b:Addr}{ob:Obj}(q:h.get? b=some ob)(n:H b=none)(hx:b∉ex):∃sl,h1.get? b=some { ob with slots:=sl }:=by
 by_cases hb:b∈fs
 ·exact u.slot b ob q n hb hx
 ·exact⟨ob.slots,u.keep b ob q n hb hx⟩
theorem Un.kept (k:∀b u,h.get? b=some u->h'.get? b=some u):Un fs ex H H h h' :=
 ⟨fun b ob q _ _ _=>k b ob q,fun b ob q _ _ _=>⟨ob.slots,k b ob q⟩,fun _ _ _ n _=>n,fun b ob q _=>⟨ob,k b ob q⟩,fun _ _ q=>q,fun _ _ _ q=>q,fun b _ ob _ e _=>k b ob e,fun _ ps q=>⟨#[],by rw[q];simp⟩⟩
theorem Un.refl:Un fs ex H H h h:=Un.kept fun _ _ q=>q
theorem Un.laid (k:∀b u,h.get? b=some u->h'.get? b=some u)(hp:h.objs.size<=a)(hn:H a=none):Un fs ex H (upd H a o) h h' where
 keep:=fun b u q _ _ _=>k b u q
 slot:=fun b u q _ _ _=>⟨u.slots,k b u q⟩
 free:=fun b u q n _=>by rw[Zak (Xs (XG (Xo q) hp))];exact n
 there:=fun b u q _=>⟨u,k b u q⟩
 tups:=fun b xs q=>by rw[Zak (Za2 q hn)];exact q
 frzs:=fun b u xs q=>by rw[Zak (Za2 q hn)];exact q
 tupo:=fun b _ ob _ e _=>k b ob e
 tbls:=fun b ps q=>⟨#[],by rw[Zak (Za2 q hn),q];simp⟩
theorem Un.write (mu:Mut (H x))(he:e=x\/H e=some (.own x))(k:∀b u,b≠e->h.get? b=some u->h'.get? b=some u)(heo:∃u,h'.get? e=some u):Un fs ex H (upd H x o) h h':=by
 have hx:∀b,H b=none->b≠x:=fun b n z=>by subst z;rw[n]at mu;exact mu
 have hb:∀b,H b=none->b≠e:=fun b n z=>by
  subst z;rcases he with r|r
  ·exact hx b n r
  ·rw[n]at r;cases r
 have hm:∀b u,H b=some u->¬Mut (some u)->b≠x:=fun b u q nm z=>by subst z;rw[q]at mu;exact nm mu
 refine⟨fun b u q n _ _=>k b u (hb b n) q,fun b u q n _ _=>⟨u.slots,k b u (hb b n) q⟩,fun b u q n _=>by rw[Zak (hx b n)];exact n,fun b u q _=>?_,
  fun b xs q=>by rw[Zak (hm b _ q fun z=>z)];exact q,fun b u xs q=>by rw[Zak (hm b _ q fun z=>z)];exact q,fun b xs u q e' _=>k b u (fun z=>by
   rcases he with r|r
   ·exact hm b _ q (fun y=>y) (z.trans r)
   ·rw[<- z,q]at r;cases r) e',fun b ps q=>⟨#[],by rw[Zak (hm b _ q fun z=>z),q];simp⟩⟩
 by_cases hbe:b=e
 ·subst hbe;exact heo
 ·exact⟨u,k b u hbe q⟩
end
def trk (h:Heap)(H:Hp):List Addr:=(List.range h.objs.size).filter fun a=>(H a).isSome
def Zqe (h:Heap)(H:Hp):Heap:=W.hideAll h (trk h H)
theorem ZnK (h:Heap)(H:Hp):(Zqe h H).objs.size=h.objs.size:=W.hideAll_size _ _
theorem Zqy {h:Heap}{H:Hp}{b:Addr}{o:Obj}(e:h.get? b=some o)(n:H b=none):(Zqe h H).get? b=some o :=
 W.hideAll_get _ e fun hm=>by
  have q:(H b).isSome=true:=(Xaa.mp hm).2
  rw[n]at q;simp at q
theorem Zsd {h:Heap}{H:Hp}{b:Addr}{o:Obj}(e:(Zqe h H).get? b=some o):h.get? b=some o/\H b=none:=by
 have e':h.get? b=some o:=W.of_hideAll (trk h H) e
 refine⟨e',?_⟩
 cases q:H b with
 |none=>rfl
 |some x =>
   have hm:b∈trk h H:=Xaa.mpr ⟨Xl.mpr (Xo e'),by simp[q]⟩
   have z:(Zqe h H).get? b=none:=W.hideAll_none (trk h H) hm
   rw[z]at e;cases e
structure Mod (K:W.Frag)(mg:Str->Option Value)(base:Heap):Prop where
 kin:K.In base
 glob:base.Ns mainGlobals mg
 blt:∃mb,base.Ns builtinsNs mb/\∀x:Str,x ≠ "__name__" -> mb x=bootBuiltins x
 nolimit:base.NoLimit
structure Cx where
 prog:Program
 w:World
 K:W.Frag
 mg:Str->Option Value
 base:Heap
 A:Around
 N:List Str
 s₀:Shared
 H₀:Hp
 env:Env
 outer:List Env
 stack:List Env
 ex:List Addr
 fn:Str->Bool
 calm:Bool
 pn:List (Addr×Obj)
 xe:Value->Shared->Prop
def frs (l:List Env):List Addr:=l.filterMap (·.frame)
abbrev Cx.fs (X:Cx):List Addr:=frs X.outer
def Vis (sc:Scope)(x:Str):Prop:=sc.names.lookup x=some .local\/sc.names.lookup x=some .cell\/sc.names.lookup x=some .free
def Loc (sc:Scope)(x:Str):Prop:=sc.names.lookup x=some .local\/sc.names.lookup x=some .cell
def Zvp (env:Env)(h:Heap)(m:Str->Option Value)(x:Str)(u:Value):Prop :=
 (env.kindOf x=some .local/\m x=some u)\/((env.kindOf x=some .cell\/env.kindOf x=some .free)/\∃c,env.cells.lookup x=some c/\h.IsCell c (some u))
structure Cx.Ok (X:Cx):Prop where
 mod:Mod X.K X.mg X.base
 kind:X.env.scope.kind=.function
 glob:X.env.globals=mainGlobals
 blt:X.env.builtins=builtinsNs
 above:X.s₀.heap.objs.size<=X.env.locals
 inj:∀x y c,X.env.cells.lookup x=some c->X.env.cells.lookup y=some c->x=y
 has:∀x,(X.env.kindOf x=some .cell\/X.env.kindOf x=some .free)->∃c,X.env.cells.lookup x=some c
 cab:∀x c,X.fn x=true->X.env.cells.lookup x=some c->X.s₀.heap.objs.size<=c
 hd:X.calm=true->X.A.handled=none
 frames:X.A.frames=some X.stack
 stk:X.stack=X.outer\/(X.stack=X.env::X.outer/\X.env.frame=some X.env.locals)
 exf:∀b∈X.ex,b≠X.env.locals/\∀x c,X.env.cells.lookup x=some c->c≠b
 bs:∀b o,X.base.get? b=some o->X.s₀.heap.get? b=some o/\(X.H₀ b=none\/∃xs,X.H₀ b=some (.tup xs))
 bsz:X.base.objs.size<=X.s₀.heap.objs.size
 noex:∀b o,X.base.get? b=some o->b∉X.ex
 exfs:∀b∈X.ex,b∉X.fs
 funs:X.s₀.heap.FunFrames X.base X.outer
 frf:∀b∈X.fs,X.H₀ b=none
structure Inv (X:Cx)(Xbr:List (Addr×Obj))(σ:List (Option V))(H:Hp)(s:Shared):Prop where
 ok:X.Ok
 os:s.os=X.s₀.os
 bare:AllBare s.gens
 base:Un X.fs X.ex X.H₀ H X.s₀.heap s.heap
 loc:∃m,s.heap.Ns X.env.locals m/\∀(i:Nat) (x:Str) (v:V),X.N[i]?=some x->σ[i]?=some (some v)->Vis X.env.scope x->∃u,Zbl v u/\Zvp X.env s.heap m x u
 cell:∀x c,X.env.cells.lookup x=some c->∃v,s.heap.IsCell c v
 free:H X.env.locals=none
 freeC:∀x c,X.env.cells.lookup x=some c->H c=none
 pin:∀p∈X.pn++Xbr,s.heap.get? p.1=some p.2/\H p.1=none/\p.1≠X.env.locals/\p.1∉X.fs/\∀v,p.2.data≠.cell v
 hok:HOk X.prog X.w H s.heap
 len:σ.length=X.N.length
section
variable {X:Cx}{Xbr:List (Addr×Obj)}{σ:List (Option V)}{H H':Hp}{s:Shared}{h':Heap}
theorem Cx.Ok.nofr (ok:X.Ok){b:Addr}{o:Obj}(e:X.base.get? b=some o):b∉X.fs:=fun hb=>by
 have:=(ok.funs.mem hb).1
 rw[e]at this;cases this
theorem Inv.bs (I:Inv X Xbr σ H s):∀b o,X.base.get? b=some o->s.heap.get? b=some o/\(H b=none\/∃xs,H b=some (.tup xs)):=fun b o e=>by
 obtain⟨e1,e2⟩:=I.ok.bs b o e
 rcases e2 with e2|⟨xs,e2⟩
 ·exact⟨I.base.keep b o e1 e2 (I.ok.nofr e) (I.ok.noex b o e),.inl (I.base.free b o e1 e2 (I.ok.noex b o e))⟩
 ·exact⟨I.base.tupo b xs o e2 e1 (I.ok.noex b o e),.inr ⟨xs,I.base.tups b xs e2⟩⟩
theorem Inv.bk (I:Inv X Xbr σ H s):∀b o,X.base.get? b=some o->s.heap.get? b=some o:=fun b o e=>(I.bs b o e).1
theorem Inv.mod (I:Inv X Xbr σ H s):Mod X.K X.mg X.base:=I.ok.mod
theorem Inv.kIn (I:Inv X Xbr σ H s):X.K.In s.heap:=I.ok.mod.kin.keeps I.bk
theorem Inv.lt (I:Inv X Xbr σ H s):X.env.locals<s.heap.objs.size:=let ⟨_,hn,_⟩:=I.loc;hn.lt
theorem Inv.sz (I:Inv X Xbr σ H s):X.s₀.heap.objs.size<=s.heap.objs.size:=XS I.ok.above (XY I.lt)
theorem Inv.nofs (I:Inv X Xbr σ H s){a:Addr}(h:s.heap.objs.size<=a):a∉X.fs:=fun hb=>by
 obtain⟨_,o,ho,_⟩:=I.ok.funs.mem hb
 exact Xp (XG (Xo ho) (XS I.sz h)) (XaA _)
theorem Inv.cne (I:Inv X Xbr σ H s):∀x c,X.env.cells.lookup x=some c->c≠X.env.locals:=fun x c e z=>by
 obtain⟨v,o,ho,hd⟩:=I.cell x c e
 obtain⟨m,⟨o',es,ep,ho',hd',_⟩,_⟩:=I.loc
 rw[z,ho']at ho;cases ho;rw[hd']at hd;cases hd
theorem Inv.funs (I:Inv X Xbr σ H s):s.heap.FunFrames X.base X.outer:=by
 have all:∀(l:List Env),(∀b∈frs l,b∈X.fs)->X.s₀.heap.FunFrames X.base l->s.heap.FunFrames X.base l:=by
  intro l;induction l with
  |nil=>intro _ _;trivial
  |cons env r ih =>
    intro hs hl;obtain⟨hk,⟨L,o,hf,hn,ho,hd⟩,hr⟩:=hl
    have hL:L∈X.fs:=hs L (by unfold frs;rw[List.filterMap_cons,hf];exact Xb)
    obtain⟨sl,e⟩:=I.base.slot L o ho (I.ok.frf L hL) hL fun z=>I.ok.exfs L z hL
    exact⟨hk,⟨L,_,hf,hn,e,hd⟩,ih (fun b hb=>hs b (by unfold frs;rw[List.filterMap_cons,hf];exact Xd _ hb)) hr⟩
 exact all X.outer (fun _ hb=>hb) I.ok.funs
theorem Inv.stack (I:Inv X Xbr σ H s):s.heap.FunFrames X.base X.stack:=by
 rcases I.ok.stk with e|⟨e,hf⟩
 ·rw[e];exact I.funs
 ·rw[e]
  obtain⟨m,hn,_⟩:=I.loc
  refine .cons (by rw[I.ok.kind];decide) hf hn ?_ I.funs
  exact Heap.get?_none_of_le (XS I.ok.bsz I.ok.above)
theorem Inv.stkSub (I:Inv X Xbr σ H s):∀b∈frs X.stack,b∈X.env.locals::X.fs:=fun b hb=>by
 rcases I.ok.stk with e|⟨e,hf⟩
 ·rw[e]at hb;exact Xd _ hb
 ·rw[e]at hb
  unfold frs at hb;rw[List.filterMap_cons,hf]at hb;exact hb
theorem Inv.stkFree (I:Inv X Xbr σ H s):∀b∈frs X.stack,H b=none:=fun b hb=>by
 rcases Xf.mp (I.stkSub b hb) with e|hb
 ·rw[e];exact I.free
 ·obtain⟨_,o,ho,_⟩:=I.ok.funs.mem hb
  exact I.base.free b o ho (I.ok.frf b hb) fun z=>I.ok.exfs b z hb
theorem Inv.step {g':Array GenState}{t':Nat}{d':Drawn}{ch:List Addr}(I:Inv X Xbr σ H s)
 (hch:∀b∈ch,(b∈X.ex\/X.s₀.heap.objs.size<=b)/\b≠X.env.locals/\(∀x c,X.env.cells.lookup x=some c->c≠b)/\∀p∈X.pn++Xbr,p.1≠b)
 (keep:∀b o,b≠X.env.locals->b∉X.fs->b∉ch->s.heap.get? b=some o->H b=none->h'.get? b=some o)
 (slot:∀b o,b≠X.env.locals->b∈X.fs->b∉ch->s.heap.get? b=some o->H b=none->∃sl,h'.get? b=some { o with slots:=sl }) (free:∀b o,b∉ch->s.heap.get? b=some o->H b=none->H' b=none)
 (there:∀b o,b∉ch->s.heap.get? b=some o->∃o',h'.get? b=some o')
 (tups:∀b xs,H b=some (.tup xs)->H' b=some (.tup xs)) (frzs:∀b o u,H b=some (.frz o u)->H' b=some (.frz o u)) (tbls:∀b ps,H b=some (.tbl ps)->∃more,H' b=some (.tbl (ps++more)))
 (ns:∀m,s.heap.Ns X.env.locals m->h'.Ns X.env.locals m) (hok:HOk X.prog X.w H' h') (hg:AllBare g') (tupo:∀b xs o,b∉ch->H b=some (.tup xs)->s.heap.get? b=some o->h'.get? b=some o) :
 Inv X Xbr σ H' { s with heap:=h',gens:=g',drawn:=d',toks:=t' }:=by
 have neL:∀b o,X.s₀.heap.get? b=some o->b≠X.env.locals:=fun b o e=>Xs (XG (Xo e) I.ok.above)
 have neC:∀b o,X.s₀.heap.get? b=some o->b∉X.ex->b∉ch:=fun b o e hx hb=>by
  rcases(hch b hb).1 with z|z
  ·exact hx z
  ·exact Xp (XG (Xo e) z) (XaA _)
 have cellK:∀x c,X.env.cells.lookup x=some c->∀v,s.heap.IsCell c v->h'.IsCell c v:=fun x c e v ⟨o,ho,hd⟩=>by
  have nch:c∉ch:=fun z=>(hch c z).2.2.1 x c e rfl
  by_cases hc:c∈X.fs
  ·obtain⟨sl,q⟩:=slot c o (I.cne x c e) hc nch ho (I.freeC x c e)
   exact⟨_,q,hd⟩
  ·exact⟨o,keep c o (I.cne x c e) hc nch ho (I.freeC x c e),hd⟩
 refine⟨I.ok,I.os,hg,⟨fun b o e n hb hx=>?_,fun b o e n hb hx=>?_,fun b o e n hx=>?_,fun b o e hx=>?_,fun b xs e=>tups b xs (I.base.tups b xs e),fun b o xs e=>frzs b o xs (I.base.frzs b o xs e),fun b xs o q e hx=>tupo b xs o (neC b o e hx) (I.base.tups b xs q) (I.base.tupo b xs o q e hx),fun b ps e=>?_⟩,?_,fun x c e=>?_,?_,fun x c e=>?_,fun p hp=>?_,hok,I.len⟩
 ·exact keep b o (neL b o e) hb (neC b o e hx) (I.base.keep b o e n hb hx) (I.base.free b o e n hx)
 ·obtain⟨sl,e1⟩:=I.base.slot b o e n hb hx
  obtain⟨sl',e2⟩:=slot b _ (neL b o e) hb (neC b o e hx) e1 (I.base.free b o e n hx)
  exact⟨sl',e2⟩
 ·obtain⟨o',e1⟩:=I.base.there b o e hx
  exact free b o' (neC b o e hx) e1 (I.base.free b o e n hx)
 ·obtain⟨o',e1⟩:=I.base.there b o e hx
  exact there b o' (neC b o e hx) e1
 ·obtain⟨m1,e1⟩:=I.base.tbls b ps e
  obtain⟨m2,e2⟩:=tbls b _ e1
  exact⟨m1++m2,by rw[e2,Array.append_assoc]⟩
 ·obtain⟨m,hn,hl⟩:=I.loc
  refine⟨m,ns m hn,fun i x v e1 e2 e3=>?_⟩
  obtain⟨u,r,l⟩:=hl i x v e1 e2 e3
  refine⟨u,r,?_⟩
  rcases l with l|⟨k,c,e,z⟩
  ·exact .inl l
  ·exact .inr ⟨k,c,e,cellK x c e _ z⟩
 ·obtain⟨v,z⟩:=I.cell x c e
  exact⟨v,cellK x c e v z⟩
 ·obtain⟨m,⟨o,_,_,ho,_⟩,_⟩:=I.loc
  exact free _ o (fun z=>(hch _ z).2.1 rfl) ho I.free
 ·obtain⟨v,o,ho,hd⟩:=I.cell x c e
  exact free c o (fun z=>(hch c z).2.2.1 x c e rfl) ho (I.freeC x c e)
 ·obtain⟨e,n,ne,nf,d⟩:=I.pin p hp
  have nch:p.1∉ch:=fun z=>(hch p.1 z).2.2.2 p hp rfl
  exact⟨keep p.1 p.2 ne nf nch e n,free p.1 p.2 nch e n,ne,nf,d⟩
theorem Inv.un {t':Nat}(I:Inv X Xbr σ H s)(u:Un X.fs [] H H' s.heap h')(hok:HOk X.prog X.w H' h'):Inv X Xbr σ H' { s with heap:=h',toks:=t' }:=by
 obtain⟨m,⟨o,es,ep,ho,r⟩,_⟩:=id I.loc
 obtain⟨sl,hL⟩:=u.any ho I.free (by simp)
 exact I.step (g':=s.gens) (d':=s.drawn) (ch:=[]) (fun _ z=>nomatch z) (fun b o _ hb _ e n=>u.keep b o e n hb (by simp)) (fun b o _ hb _ e n=>u.slot b o e n hb (by simp)) (fun b o _ e n=>u.free b o e n (by simp)) (fun b o _ e=>u.there b o e (by simp)) u.tups u.frzs u.tbls (fun m' hm=>by
  obtain⟨o',es',ep',ho',r'⟩:=hm
  rw[ho]at ho';cases ho';exact⟨_,es',ep',hL,r'⟩) hok I.bare (fun b xs o _ q e=>u.tupo b xs o q e (by simp))
theorem Inv.call {g':Array GenState}{t':Nat}{d':Drawn}{ch:List Addr}(I:Inv X Xbr σ H s)(u:Un (frs X.stack) ch H H' s.heap h')(hok:HOk X.prog X.w H' h')(hg:AllBare g')
 (hch:∀b∈ch,(b∈X.ex\/X.s₀.heap.objs.size<=b)/\b≠X.env.locals/\(∀x c,X.env.cells.lookup x=some c->c≠b)/\∀p∈X.pn++Xbr,p.1≠b) :
 Inv X Xbr σ H' { s with heap:=h',gens:=g',drawn:=d',toks:=t' }:=by
 obtain⟨m,⟨o,es,ep,ho,r⟩,_⟩:=id I.loc
 obtain⟨sl,hL⟩:=u.any ho I.free fun z=>(hch _ z).2.1 rfl
 exact I.step (ch:=ch) hch (fun b o hL hb hc e n=>u.keep b o e n (fun z=>(Xf.mp (I.stkSub b z)).elim hL hb) hc) (fun b o _ _ hc e n=>u.any e n hc) (fun b o hc e n=>u.free b o e n hc) (fun b o hc e=>u.there b o e hc) u.tups u.frzs u.tbls (fun m' hm=>by
  obtain⟨o',es',ep',ho',r'⟩:=hm
  rw[ho]at ho';cases ho';exact⟨_,es',ep',hL,r'⟩) hok hg (fun b xs o hc q e=>u.tupo b xs o q e hc)
theorem Inv.turned {t':Nat}{it:Addr}(I:Inv X Xbr σ H s)(k:∀b o,b≠it->s.heap.get? b=some o->h'.get? b=some o)(hn:H it=none)(hL:it≠X.env.locals)
 (h1:it∈X.ex\/X.s₀.heap.objs.size<=it) (h2:∀x c,X.env.cells.lookup x=some c->c≠it) (h3:∀p∈X.pn++Xbr,p.1≠it):Inv X Xbr σ H { s with heap:=h',toks:=t' }:=by
 have nit:∀b u,H b=some u->b≠it:=fun b u e z=>by rw[z,hn]at e;cases e
 refine I.step (g':=s.gens) (d':=s.drawn) (ch:=[it]) (fun b hb=>?_) (fun b o _ _ hc e _=>k b o (fun z=>hc (by simp[z])) e) (fun b o _ _ hc e _=>⟨o.slots,k b o (fun z=>hc (by simp[z])) e⟩) (fun _ _ _ _ n=>n)
  (fun b o hc e=>⟨o,k b o (fun z=>hc (by simp[z])) e⟩) (fun _ _ e=>e) (fun _ _ _ e=>e) (fun b ps e=>⟨#[],by rw[e];simp⟩) (fun m hm=>?_) (fun b u e=>?_) I.bare (fun b _ o hc _ e=>k b o (fun z=>hc (by simp[z])) e)
 ·have e:b=it:=by simpa using hb
  subst e;exact⟨h1,hL,h2,h3⟩
 ·obtain⟨o,es,ep,ho,r⟩:=hm
  exact⟨o,es,ep,k _ o (Ne.symm hL) ho,r⟩
 ·refine(I.hok b u e).stay (fun c v hc q=>k c v ?_ q) (fun _ q=>q) fun _ _ q=>q
  rcases hc with z|z
  ·rw[z];exact nit b u e
  ·exact nit c _ z
theorem Inv.tok (I:Inv X Xbr σ H s)(t:Nat):Inv X Xbr σ H { s with toks:=t }:=I.un (h':=s.heap) (t':=t) Un.refl I.hok
theorem Inv.kept {t':Nat}(I:Inv X Xbr σ H s)(k:∀b u,s.heap.get? b=some u->h'.get? b=some u):Inv X Xbr σ H { s with heap:=h',toks:=t' }:=I.un (Un.kept k) (I.hok.kept k)
theorem Inv.laid {a:Addr}{o:HO}{t':Nat}(I:Inv X Xbr σ H s)(k:∀b u,s.heap.get? b=some u->h'.get? b=some u)(hp:s.heap.objs.size<=a)(new:Zcw X.prog X.w (upd H a o) h' a o) :
 Inv X Xbr σ (upd H a o) { s with heap:=h',toks:=t' }:=I.un (Un.laid k hp (I.hok.fresh hp)) (I.hok.laid k hp new)
theorem Inv.write {x e:Addr}{o:HO}{t':Nat}(I:Inv X Xbr σ H s)(mu:Mut (H x))(he:e=x\/H e=some (.own x))(k:∀b u,b≠e->s.heap.get? b=some u->h'.get? b=some u)(heo:∃u,h'.get? e=some u)
 (new:Zcw X.prog X.w (upd H x o) h' x o):Inv X Xbr σ (upd H x o) { s with heap:=h',toks:=t' }:=I.un (Un.write mu he k heo) (I.hok.write mu he k heo new)
theorem Inv.weak {σ':List (Option V)}(I:Inv X Xbr σ H s)(hl:σ'.length=σ.length)(w:∀(i:Nat) v,σ'[i]?=some (some v)->σ[i]?=some (some v)):Inv X Xbr σ' H s :=
 ⟨I.ok,I.os,I.bare,I.base,let ⟨m,hn,hl'⟩:=I.loc;⟨m,hn,fun i x v e1 e2 e3=>hl' i x v e1 (w i v e2) e3⟩,I.cell,I.free,I.freeC,I.pin,I.hok,hl.trans I.len⟩
theorem Inv.pins_of {pins':List (Addr×Obj)}(I:Inv X Xbr σ H s)(h:∀p∈pins',s.heap.get? p.1=some p.2/\H p.1=none/\p.1≠X.env.locals/\p.1∉X.fs/\∀v,p.2.data≠.cell v):Inv X pins' σ H s :=
 ⟨I.ok,I.os,I.bare,I.base,I.loc,I.cell,I.free,I.freeC,fun p hp=>(XI.mp hp).elim (fun z=>I.pin p (Xae _ z)) (h p),I.hok,I.len⟩
theorem ZkW {N:List Str}(hN:N.Nodup){i j:Nat}{x:Str}(a:N[i]?=some x)(b:N[j]?=some x):i=j:=by
 obtain⟨h1,e1⟩:=Xe.mp a
 obtain⟨h2,e2⟩:=Xe.mp b
 exact(List.getElem_inj hN).mp (e1.trans e2.symm)
theorem Zji {M:Model}{A:Around}{E:Value->Shared->Prop}{i:Nat}{x:Str}{v:V}{u:Value}{Q:Unit->Shared->Prop}(I:Inv X Xbr σ H s)(hN:X.N.Nodup)(hi:X.N[i]?=some x)(hx:Loc X.env.scope x)(r:Zbl v u)
 (h:∀s',Inv X Xbr (σ.set i (some v)) H s'->(∃a,Heap.SameBut a s.heap s'.heap/\(a=X.env.locals\/X.env.cells.lookup x=some a))->Q () s') (hf:X.fn x=true\/X.env.scope.names.lookup x=some .local:=by first|exact .inl rfl|exact .inr rfl|assumption):wpAny M A (storeName X.env x u) Q E s:=by
 obtain⟨m,hn,hl⟩:=id I.loc
 have hcls:(X.env.scope.kind==.class||(X.env.scope.kind==.module&&X.env.locals != X.env.globals))=false:=by rw[I.ok.kind];rfl
 have hiσ:i<σ.length:=by rw[I.len];exact(Xe.mp hi).1
 have cne:=I.cne
 have tracked:∀{a:Addr} {h':Heap},(∃o,s.heap.get? a=some o/\H a=none)->Heap.SameBut a s.heap h'->HOk X.prog X.w H h':=fun{a h'} ha hs b ob e=>by
  obtain⟨_,_,hfree⟩:=ha
  refine(I.hok b ob e).stay (fun c w' hc q=>(hs.2 c ?_).trans q) (fun _ q=>q) fun _ _ q=>q
  rintro rfl
  rcases hc with rfl|hc
  ·rw[hfree]at e;cases e
  ·rw[hfree]at hc;cases hc
 rcases hx with hk|hk
 ·refine wpAny_storeName_local hk hn (fun h' hn' hs=>?_) hcls
  obtain⟨oL,_,_,hoL,_⟩:=id hn
  refine h _ ⟨I.ok,I.os,I.bare,⟨fun b o e n hb hx=>?_,fun b o e n hb hx=>?_,I.base.free,fun b o e hx=>?_,I.base.tups,I.base.frzs,fun b xs o q e hx=>(hs.2 b (Xs (XG (Xo e) I.ok.above))).trans (I.base.tupo b xs o q e hx),I.base.tbls⟩,⟨_,hn',fun j y v' e1 e2 e3=>?_⟩,fun y c e=>?_,I.free,I.freeC,fun p hp=>?_,tracked ⟨oL,hoL,I.free⟩ hs,by simpa using I.len⟩ ⟨_,hs,.inl rfl⟩
  ·exact(hs.2 b (Xs (XG (Xo e) I.ok.above))).trans (I.base.keep b o e n hb hx)
  ·obtain⟨sl,e1⟩:=I.base.slot b o e n hb hx
   exact⟨sl,(hs.2 b (Xs (XG (Xo e) I.ok.above))).trans e1⟩
  ·obtain⟨o',e1⟩:=I.base.there b o e hx
   exact⟨o',(hs.2 b (Xs (XG (Xo e) I.ok.above))).trans e1⟩
  ·by_cases hj:j=i
   ·subst hj
    rw[hi]at e1;cases e1;rw[XN hiσ]at e2;cases e2
    exact⟨u,r,.inl ⟨hk,by simp⟩⟩
   ·rw[XU (Ne.symm hj)]at e2
    obtain⟨u',r',q⟩:=hl j y v' e1 e2 e3
    refine⟨u',r',?_⟩
    rcases q with ⟨k,e⟩|⟨k,c,e,z⟩
    ·refine .inl ⟨k,?_⟩
     have:y≠x:=fun e=>hj (ZkW hN e1 (e▸hi))
     simp[this,e]
    ·exact .inr ⟨k,c,e,z.sameBut hs (cne y c e)⟩
  ·obtain⟨w',z⟩:=I.cell y c e
   exact⟨w',z.sameBut hs (cne y c e)⟩
  ·obtain⟨e,n,ne,nf,d⟩:=I.pin p hp
   exact⟨(hs.2 p.1 ne).trans e,n,ne,nf,d⟩
 ·have hfn:X.fn x=true:=by
   rcases hf with z|z
   ·exact z
   ·rw[z]at hk;cases hk
  obtain⟨c,hc⟩:=I.ok.has x (.inl hk)
  obtain⟨w',z⟩:=I.cell x c hc
  refine wpAny_storeName_cell I.ok.kind hk hc z (fun h' hc' hs=>?_)
  obtain⟨oc,hoc,hocd⟩:=id z
  refine h { s with heap:=h' } ⟨I.ok,I.os,I.bare,⟨fun b o e n hb hx=>?_,fun b o e n hb hx=>?_,I.base.free,fun b o e hx=>?_,I.base.tups,I.base.frzs,fun b xs o q e hx=>(hs.2 b (Xs (XG (Xo e) (I.ok.cab x c hfn hc)))).trans (I.base.tupo b xs o q e hx),I.base.tbls⟩,⟨m,hn.sameBut hs (Ne.symm (cne x c hc)),fun j y v' e1 e2 e3=>?_⟩,fun y c' e=>?_,I.free,I.freeC,fun p hp=>?_,tracked ⟨oc,hoc,I.freeC x c hc⟩ hs,by simpa using I.len⟩ ⟨c,hs,.inr hc⟩
  ·exact(hs.2 b (Xs (XG (Xo e) (I.ok.cab x c hfn hc)))).trans (I.base.keep b o e n hb hx)
  ·obtain⟨sl,e1⟩:=I.base.slot b o e n hb hx
   exact⟨sl,(hs.2 b (Xs (XG (Xo e) (I.ok.cab x c hfn hc)))).trans e1⟩
  ·obtain⟨o',e1⟩:=I.base.there b o e hx
   exact⟨o',(hs.2 b (Xs (XG (Xo e) (I.ok.cab x c hfn hc)))).trans e1⟩
  ·by_cases hj:j=i
   ·subst hj
    rw[hi]at e1;cases e1;rw[XN hiσ]at e2;cases e2
    exact⟨u,r,.inr ⟨.inl hk,c,hc,hc'⟩⟩
   ·rw[XU (Ne.symm hj)]at e2
    obtain⟨u',r',q⟩:=hl j y v' e1 e2 e3
    refine⟨u',r',?_⟩
    rcases q with q|⟨k,c',e,z'⟩
    ·exact .inl q
    ·refine .inr ⟨k,c',e,z'.sameBut hs ?_⟩
     rintro rfl
     exact hj (ZkW hN e1 (I.ok.inj _ _ _ e hc▸hi))
  ·by_cases hcc:c'=c
   ·subst hcc;exact⟨_,hc'⟩
   ·obtain⟨w2,z2⟩:=I.cell y c' e
    exact⟨w2,z2.sameBut hs hcc⟩
  ·obtain⟨e,n,ne,nf,d⟩:=I.pin p hp
   refine⟨(hs.2 p.1 ?_).trans e,n,ne,nf,d⟩
   intro q;rw[q,hoc]at e;have q':oc=p.2:=Option.some.inj e
   exact d w' (by rw[<- q'];exact hocd)
theorem Zfa {M:Model}{A:Around}{E:Value->Shared->Prop}{i:Nat}{x:Str}{v:V}{u:Value}{Q:Unit->Shared->Prop}(I:Inv X Xbr σ H s)(hN:X.N.Nodup)(hi:X.N[i]?=some x)(hx:Loc X.env.scope x)(r:Zbl v u)
 (h:∀s',Inv X Xbr (σ.set i (some v)) H s'->Q () s') (hf:X.fn x=true\/X.env.scope.names.lookup x=some .local:=by first|exact .inl rfl|exact .inr rfl|assumption):wpAny M A (storeName X.env x u) Q E s :=
 Zji I hN hi hx r (fun s' I' _=>h s' I') hf
theorem Inv.call' {s':Shared}{ch:List Addr}(I:Inv X Xbr σ H s)(ho:s'.os=s.os)(u:Un (frs X.stack) ch H H' s.heap s'.heap)(hok:HOk X.prog X.w H' s'.heap)(hg:AllBare s'.gens)
 (hch:∀b∈ch,(b∈X.ex\/X.s₀.heap.objs.size<=b)/\b≠X.env.locals/\(∀x c,X.env.cells.lookup x=some c->c≠b)/\∀p∈X.pn++Xbr,p.1≠b):Inv X Xbr σ H' s':=by
 obtain⟨h',g',d',t',o'⟩:=s'
 have e:o'=s.os:=ho
 subst e;exact I.call (g':=g') (t':=t') (d':=d') u hok hg hch
end
abbrev XK:=Value->Option Addr->Hp->Prop
abbrev St:=List (Option V)
abbrev VK:=V->Hp->Prop
abbrev TE:=St->Hp->VK->Prop
abbrev TT:=St->Hp->(Bool->Hp->Prop)->Prop
abbrev TA:=St->Hp->(List V->Hp->Prop)->Prop
structure Ends where
 nx:St->Hp->Prop
 rt:VK
 bk:St->Hp->Prop:=fun _ _=>False
 ct:St->Hp->Prop:=fun _ _=>False
abbrev TS:=Ends->St->Hp->Prop
def EP (X:Cx)(Xbr:List (Addr×Obj))(σ:St)(Q:VK)(u:Value)(s':Shared):Prop := ∃v H',Inv X Xbr σ H' s'/\Zbl v u/\Q v H'
def TP (X:Cx)(Xbr:List (Addr×Obj))(σ:St)(Q:Bool->Hp->Prop)(b:Bool)(s':Shared):Prop := ∃H',Inv X Xbr σ H' s'/\Q b H'
def AP (X:Cx)(Xbr:List (Addr×Obj))(σ:St)(Q:List V->Hp->Prop)(us:List Value)(s':Shared):Prop := ∃vs H',Inv X Xbr σ H' s'/\Zb7 vs us/\Q vs H'
def SP (X:Cx)(Xbr:List (Addr×Obj))(D:Ends)(f:Flow)(s':Shared):Prop :=
 match f with
 |.next=>∃σ' H',Inv X Xbr σ' H' s'/\D.nx σ' H'
 |.brk=>∃σ' H',Inv X Xbr σ' H' s'/\D.bk σ' H'
 |.cont=>∃σ' H',Inv X Xbr σ' H' s'/\D.ct σ' H'
 |.ret u=>∃v σ' H',Inv X Xbr σ' H' s'/\Zbl v u/\D.rt v H'
def PE (X:Cx)(e:Expr)(t:TE):Prop :=
 ∀(Xbr:List (Addr×Obj)) (s:Shared) (σ:St) (H:Hp) (Q:VK),Inv X Xbr σ H s->t σ H Q->wpAny (model X.prog X.w) X.A (eval e X.env) (EP X Xbr σ Q) X.xe s
def PT (X:Cx)(e:Expr)(t:TT):Prop :=
 ∀(Xbr:List (Addr×Obj)) (s:Shared) (σ:St) (H:Hp) (Q:Bool->Hp->Prop),Inv X Xbr σ H s->t σ H Q->wpAny (model X.prog X.w) X.A (isTrue e X.env (eval e X.env)) (TP X Xbr σ Q) X.xe s
def PW (X:Cx)(e:Expr)(t:TT):Prop :=
 ∀(whole:Sem Value) (Xbr:List (Addr×Obj)) (s:Shared) (σ:St) (H:Hp) (Q:Bool->Hp->Prop),Inv X Xbr σ H s->t σ H Q->wpAny (model X.prog X.w) X.A (isTrue e X.env whole) (TP X Xbr σ Q) X.xe s
theorem PW.pt {X:Cx}{e:Expr}{t:TT}(h:PW X e t):PT X e t:=h _
def PA (X:Cx)(es:List Expr)(t:TA):Prop :=
 ∀(pos:Pos) (Xbr:List (Addr×Obj)) (s:Shared) (σ:St) (H:Hp) (Q:List V->Hp->Prop),Inv X Xbr σ H s->t σ H Q->wpAny (model X.prog X.w) X.A (spliced (backTo pos (starEach es X.env))) (AP X Xbr σ Q) X.xe s
def PS (X:Cx)(st:Stmt)(t:TS):Prop :=
 ∀(Xbr:List (Addr×Obj)) (s:Shared) (σ:St) (H:Hp) (D:Ends),Inv X Xbr σ H s->t D σ H->wpAny (model X.prog X.w) X.A (exec st X.env) (SP X Xbr D) X.xe s
def PSs (X:Cx)(st:List Stmt)(t:TS):Prop :=
 ∀(Xbr:List (Addr×Obj)) (s:Shared) (σ:St) (H:Hp) (D:Ends),Inv X Xbr σ H s->t D σ H->wpAny (model X.prog X.w) X.A (execs st X.env) (SP X Xbr D) X.xe s
theorem thn {α:Type}{t:Sem α}{Q Q':α->Shared->Prop}{M:Model}{A:Around}{E:Value->Shared->Prop}{s:Shared}(h:wpAny M A t Q E s)(hQ:∀a s,Q a s->Q' a s):wpAny M A t Q' E s:=wpAny_mono h hQ fun _ _ x=>x
section
variable {X:Cx}
def Zb8 (i:Nat):TE:=fun σ H Q=>∃v,σ[i]?=some (some v)/\Q v H
def tC (v:V):TE:=fun _ H Q=>Q v H
theorem Zui {i:Nat} {x:Str} {pos:Pos} (hN:X.N[i]?=some x) (hv:Vis X.env.scope x) (hd:(x==("__debug__" : Str))=false:=by decide) (hcd:(x==("__classdict__" : Str))=false:=by decide):PE X (.Name x pos) (Zb8 i):=by
 intro Xbr s σ H Q I h;obtain⟨v,e,h⟩:=h
 obtain⟨m,hn,hl⟩:=I.loc
 obtain⟨u,r,l⟩:=hl i x v hN e hv
 have fin:EP X Xbr σ Q u s:=⟨v,H,I,r,h⟩
 rcases l with ⟨hk,hm⟩|⟨hk,c,hc,hcell⟩
 ·exact wpAny_Name (wpAny_loadName_local I.ok.kind hk hn hm fin) hd
 ·rcases hk with hk|hk
  ·exact wpAny_Name (wpAny_loadName_cell I.ok.kind hk hc hcell fin) hd
  ·exact wpAny_Name (wpAny_loadName_free I.ok.kind hk hc hcell fin hcd) hd
theorem Zah {i j pos}:PE X (.Constant (.int i) j pos) (tC (.int i)):=fun _ _ _ H _ I h=>wpAny_Constant_int ⟨.int i,H,I.tok _,⟨_,rfl⟩,h⟩
theorem Zhg {b j pos}:PE X (.Constant (.bool b) j pos) (tC (.bl b)):=fun _ _ _ H _ I h=>Constant_bool ⟨.bl b,H,I,rfl,h⟩
theorem Zq2 {j pos}:PE X (.Constant .none j pos) (tC .non):=fun _ _ _ H _ I h=>Constant_none ⟨.non,H,I,rfl,h⟩
theorem Zq9 {x j pos}:PE X (.Constant (.str x) j pos) (tC (.str x)):=fun _ _ _ H _ I h=>Calls.Constant_str ⟨.str x,H,I.tok _,⟨_,rfl⟩,h⟩
def Gl (X:Cx)(x:Str):Prop:=X.env.kindOf x=some .globalImplicit
theorem Zkj {E:Value->Shared->Prop}{Xbr:List (Addr×Obj)}{s:Shared}{σ:St}{H:Hp}{x:Str}{u:Value}{pos:Pos}{Q:Value->Shared->Prop}(I:Inv X Xbr σ H s)(hg:Gl X x)(hm:X.mg x=some u)(h:Q u s)
 (hd:(x==("__debug__" : Str))=false:=by decide):wpAny (model X.prog X.w) X.A (eval (.Name x pos) X.env) Q E s :=
 Calls.Name_function_global I.ok.kind hg (Calls.loadGlobal_global (by rw[I.ok.glob];exact I.mod.glob.keeps I.bk) hm h) hd
theorem Zg9 {E:Value->Shared->Prop}{Xbr:List (Addr×Obj)}{s:Shared}{σ:St}{H:Hp}{x:Str}{u:Value}{pos:Pos}{Q:Value->Shared->Prop}(I:Inv X Xbr σ H s)(hg:Gl X x)(hm:X.mg x=none)(hv:bootBuiltins x=some u)(h:Q u s)
 (hn:x ≠ "__name__" := by decide) (hd:(x==("__debug__" : Str))=false:=by decide):wpAny (model X.prog X.w) X.A (eval (.Name x pos) X.env) Q E s:=by
 obtain⟨mb,h1,h2⟩:=I.mod.blt
 exact Calls.Name_function_global I.ok.kind hg (Calls.loadGlobal_builtin (by rw[I.ok.glob];exact I.mod.glob.keeps I.bk) hm (by rw[I.ok.blt];exact h1.keeps I.bk) ((h2 x hn).trans hv) h) hd
theorem Zgx {x:Str} {v:V} {u:Value} {pos:Pos} (hg:Gl X x) (hm:X.mg x=some u) (r:Zbl v u) (hd:(x==("__debug__" : Str))=false:=by decide):PE X (.Name x pos) (tC v) :=
 fun _ _ _ H _ I h=>Zkj I hg hm ⟨v,H,I,r,h⟩ hd
variable {a b:Expr}{ta tb:TE}{pos:Pos}
def PC (X:Cx)(op:CmpOp)(a b:Expr)(t:TE):Prop :=
 ∀(Xbr:List (Addr×Obj)) (s:Shared) (σ:St) (H:Hp) (Q:VK),Inv X Xbr σ H s->t σ H Q ->
  wpAny (model X.prog X.w) X.A (eval a X.env) (fun v s₁=>wpAny (model X.prog X.w) X.A (eval b X.env) (fun u s₂=>wpAny (model X.prog X.w) X.A (compareOp op v u) (EP X Xbr σ Q) X.xe s₂) X.xe s₁) X.xe s
theorem Zpw (b:Expr){op:CmpOp}(h:op≠.In)(h2:op≠.NotIn):behindInMarks op b=false:=by
 have e1:(op==CmpOp.In)=false:=by cases op<;>first|rfl|exact Xp rfl h
 have e2:(op==CmpOp.NotIn)=false:=by cases op<;>first|rfl|exact Xp rfl h2
 cases b<;>simp[behindInMarks,e1,e2]
def Ztk (ta:TE):TE:=fun σ H Q=>ta σ H fun x H1=>Q (.bl (!decide (x=.non))) H1
theorem Zbl.none_iff {x:V}{v:Value}(r:Zbl x v):(v==Value.none)=decide (x=.non):=by
 cases x with
 |non=>cases r;rfl
 |bl _=>cases r;rfl
 |int _=>obtain⟨t,rfl⟩:=r;rfl
 |str _=>obtain⟨t,rfl⟩:=r;rfl
 |byt _=>obtain⟨t,rfl⟩:=r;rfl
 |flt _=>obtain⟨t,rfl⟩:=r;rfl
 |ref _=>cases r;rfl
 |ty _=>cases r;rfl
theorem Zit {j pos'}(ha:PE X a ta):PC X .IsNot a (.Constant .none j pos') (Ztk ta):=by
 intro Xbr s σ H Q I h;refine thn (ha Xbr s σ H _ I h) fun v s1 ⟨x,H1,I1,r1,q1⟩=>?_
 exact Constant_none (isnot_none_gen ⟨.bl _,H1,I1,by rw[r1.none_iff];rfl,q1⟩)
def tB (t:TE):TT:=fun σ H Q=>t σ H fun x H1=>∃c,x=.bl c/\Q c H1
theorem Zfp {op:CmpOp}{t:TE}(h:PC X op a b t)(h1:behindInMarks op b=false:=by first|exact Zpw _ (by decide) (by decide)|rfl):PT X (.Compare a [op] [b] pos) (tB t):=by
 intro Xbr s σ H Q I hw;refine wpAny_isTrue_Compare1 (thn (h Xbr s σ H _ I hw) fun v s1 h1=>thn h1 fun u s2 h2=>thn h2 fun c s3 ⟨x,H1,I1,r1,q1⟩=>?_) h1
 obtain⟨d,rfl,q⟩:=q1
 cases r1
 exact wpAny_truthy_bool ⟨H1,I1,q⟩
theorem ZgD {e:Expr}{t:TE}(h:PE X e t)(he:∀whole,isTrue e X.env whole=(do let v <- whole;standAt e.pos;holding [v] (truthy v)):=by intro _;rfl):PT X e (tB t):=by
 intro Xbr s σ H Q I hw;refine isTrue_plain (thn (h Xbr s σ H _ I hw) fun v s1 ⟨x,H1,I1,r1,q1⟩=>?_) (he _)
 obtain⟨d,rfl,q⟩:=q1
 cases r1
 exact wpAny_truthy_bool ⟨H1,I1,q⟩
variable {tA tB':TT}{rest:List Expr}
def Zvf (t u:TT):TT:=fun σ H Q=>t σ H fun c H1=>if c=true then u σ H1 Q else Q false H1
def tOr (t u:TT):TT:=fun σ H Q=>t σ H fun c H1=>if c=true then Q true H1 else u σ H1 Q
def ZuU (t:TT):TT:=fun σ H Q=>t σ H fun c H1=>Q (!c) H1
theorem Zic (ha:PT X a tA):PW X (.BoolOp .And [a] pos) tA:=by
 intro wh Xbr s σ H Q I h;refine isTrue_and (thn (ha Xbr s σ H Q I h) fun c s1 e=>?_)
 cases c with
 |true=>exact isTrue_and_nil e
 |false=>exact e
theorem Zor (ha:PT X a tA):PW X (.BoolOp .Or [a] pos) tA:=by
 intro wh Xbr s σ H Q I h;refine isTrue_or (thn (ha Xbr s σ H Q I h) fun c s1 e=>?_)
 cases c with
 |false=>exact isTrue_or_nil e
 |true=>exact e
theorem ZkM (ha:PT X a tA)(hb:PW X (.BoolOp .And (b::rest) pos) tB'):PW X (.BoolOp .And (a::b::rest) pos) (Zvf tA tB'):=by
 intro wh Xbr s σ H Q I h;refine isTrue_and (thn (ha Xbr s σ H _ I h) fun c s1 ⟨H1,I1,q1⟩=>?_)
 cases c with
 |true=>exact hb wh Xbr s1 σ H1 Q I1 q1
 |false=>exact⟨H1,I1,q1⟩
theorem ZrT (ha:PT X a tA)(hb:PW X (.BoolOp .Or (b::rest) pos) tB'):PW X (.BoolOp .Or (a::b::rest) pos) (tOr tA tB'):=by
 intro wh Xbr s σ H Q I h;refine isTrue_or (thn (ha Xbr s σ H _ I h) fun c s1 ⟨H1,I1,q1⟩=>?_)
 cases c with
 |true=>exact⟨H1,I1,q1⟩
 |false=>exact hb wh Xbr s1 σ H1 Q I1 q1
theorem Zli (ha:PT X a tA):PT X (.UnaryOp .Not a pos) (ZuU tA):=by
 intro Xbr s σ H Q I h;exact isTrue_not (ha Xbr s σ H (fun c H1=>Q (!c) H1) I h)
end
def SqL (K:W.Frag)(H:Hp)(a:Addr)(xs:List V):Prop :=
 Rd H a (.lst xs) \/
  ∃(o:Obj) (its:Array Value) (n:Nat),K.lookup a=some o/\o.cls=.type "list" /\ o.dict=none/\o.data=.seq its n/\its.size<=sizeLine/\Zb7 xs its.toList
def SqT (K:W.Frag)(H:Hp)(a:Addr)(xs:List V):Prop :=
 Rd H a (.tup xs) \/
  ∃(o:Obj) (its:Array Value) (n:Nat),K.lookup a=some o/\o.cls=.type "tuple" /\ o.data=.seq its n/\its.size<=sizeLine/\Zb7 xs its.toList
def Zvr:Value->Option V
 |.none=>some .non
 |.bool b=>some (.bl b)
 |.int i _=>some (.int i)
 |.str x _=>some (.str x)
 |.bytes b _=>some (.byt b)
 |.float b _=>some (.flt b)
 |.ref a=>some (.ref a)
 |.type n=>some (.ty n)
 |_=>none
theorem Zbl.abs {x:V}{u:Value}(r:Zbl x u):Zvr u=some x:=by
 cases x with
 |non=>cases r;rfl
 |bl _=>cases r;rfl
 |int _=>obtain⟨t,rfl⟩:=r;rfl
 |str _=>obtain⟨t,rfl⟩:=r;rfl
 |byt _=>obtain⟨t,rfl⟩:=r;rfl
 |flt _=>obtain⟨t,rfl⟩:=r;rfl
 |ref _=>cases r;rfl
 |ty _=>cases r;rfl
theorem Zbl.inj {x y:V}{u:Value}(r:Zbl x u)(q:Zbl y u):x=y:=Option.some.inj (r.abs.symm.trans q.abs)
theorem Zb7.inj:∀{xs ys:List V} {us:List Value},Zb7 xs us->Zb7 ys us->xs=ys
 |_,_,_,.nil,.nil=>rfl
 |_,_,_,.cons r t,.cons r' t'=>by rw[r.inj r',Zb7.inj t t']
section
variable {X:Cx}{Xbr:List (Addr×Obj)}{σ:St}{H:Hp}{s:Shared}{a:Addr}{xs ys:List V}
theorem SqL.of {K:W.Frag}(h:H a=some (.lst xs)):SqL K H a xs:=.inl (.inl h)
theorem SqT.of {K:W.Frag}(h:H a=some (.tup xs)):SqT K H a xs:=.inl (.inl h)
theorem Inv.list (I:Inv X Xbr σ H s)(h:SqL X.K H a xs):∃its:List Value,Zb7 xs its/\PlainL s.heap a its.toArray/\xs.length<=sizeLine:=by
 rcases h with h|⟨o,its,n,hk,hc,hd,hs,hz,r⟩
 ·obtain⟨z,its,n,r,e⟩:=h.ok I.hok
  exact⟨its,r,⟨_,n,e,rfl,rfl,rfl⟩,z⟩
 ·refine⟨its.toList,r,⟨o,n,I.kIn a o hk,hc,hd,by simpa using hs⟩,?_⟩
  have e:=r.length
  simp only[Array.length_toList]at e;omega
theorem Inv.tuple (I:Inv X Xbr σ H s)(h:SqT X.K H a xs):∃its:List Value,Zb7 xs its/\IsTup s.heap a its.toArray/\xs.length<=sizeLine:=by
 rcases h with h|⟨o,its,n,hk,hc,hs,hz,r⟩
 ·obtain⟨z,its,r,p⟩:=h.ok I.hok
  exact⟨its,r,p,z⟩
 ·refine⟨its.toList,r,⟨o,I.kIn a o hk,hc,n,by simpa using hs⟩,?_⟩
  have e:=r.length
  simp only[Array.length_toList]at e;omega
theorem Inv.list_inj (I:Inv X Xbr σ H s)(h:SqL X.K H a xs)(h':SqL X.K H a ys):xs=ys:=by
 obtain⟨its,r,⟨o,n,e,_,_,d⟩,_⟩:=I.list h
 obtain⟨its',r',⟨o',n',e',_,_,d'⟩,_⟩:=I.list h'
 rw[e]at e';cases e';rw[d]at d';injection d' with d1 _
 have:its=its':=by simpa using Xaf Array.toList d1
 subst this;exact r.inj r'
theorem Inv.tuple_inj (I:Inv X Xbr σ H s)(h:SqT X.K H a xs)(h':SqT X.K H a ys):xs=ys:=by
 obtain⟨its,r,⟨o,e,_,n,d⟩,_⟩:=I.tuple h
 obtain⟨its',r',⟨o',e',_,n',d'⟩,_⟩:=I.tuple h'
 rw[e]at e';cases e';rw[d]at d';injection d' with d1 _
 have:its=its':=by simpa using Xaf Array.toList d1
 subst this;exact r.inj r'
end
abbrev Cx.wish (X:Cx)(E:Value->Shared->Prop):Cx:={ X with xe:=E }
abbrev Cx.nox (X:Cx):Cx:=X.wish fun _ _=>False
theorem Cx.Ok.wish {X:Cx}(ok:X.Ok)(E:Value->Shared->Prop):(X.wish E).Ok :=
 ⟨ok.mod,ok.kind,ok.glob,ok.blt,ok.above,ok.inj,ok.has,ok.cab,ok.hd,ok.frames,ok.stk,ok.exf,ok.bs,ok.bsz,ok.noex,ok.exfs,ok.funs,ok.frf⟩
theorem Cx.Ok.unwish {X:Cx}{E:Value->Shared->Prop}(ok:(X.wish E).Ok):X.Ok :=
 ⟨ok.mod,ok.kind,ok.glob,ok.blt,ok.above,ok.inj,ok.has,ok.cab,ok.hd,ok.frames,ok.stk,ok.exf,ok.bs,ok.bsz,ok.noex,ok.exfs,ok.funs,ok.frf⟩
section
variable {X:Cx}{Xbr:List (Addr×Obj)}{σ:St}{H:Hp}{s:Shared}{E:Value->Shared->Prop}
theorem Inv.wish (I:Inv X Xbr σ H s)(E:Value->Shared->Prop):Inv (X.wish E) Xbr σ H s:=⟨I.ok.wish E,I.os,I.bare,I.base,I.loc,I.cell,I.free,I.freeC,I.pin,I.hok,I.len⟩
theorem Inv.unwish (I:Inv (X.wish E) Xbr σ H s):Inv X Xbr σ H s:=⟨I.ok.unwish,I.os,I.bare,I.base,I.loc,I.cell,I.free,I.freeC,I.pin,I.hok,I.len⟩
theorem SP.unwish {D:Ends}{f:Flow}{s':Shared}(h:SP (X.wish E) Xbr D f s'):SP X Xbr D f s':=by
 cases f with
 |next=>obtain⟨σ',H',I,q⟩:=h;exact⟨σ',H',I.unwish,q⟩
 |brk=>obtain⟨σ',H',I,q⟩:=h;exact⟨σ',H',I.unwish,q⟩
 |cont=>obtain⟨σ',H',I,q⟩:=h;exact⟨σ',H',I.unwish,q⟩
 |ret u=>obtain⟨v,σ',H',I,r,q⟩:=h;exact⟨v,σ',H',I.unwish,r,q⟩
theorem PSs.nox {st:List Stmt}{t:TS}(h:PSs X.nox st t):PSs X st t:=fun Xbr s σ H D I hw =>
 wpAny_mono (h Xbr s σ H D (I.wish _) hw) (fun _ _ q=>q.unwish) fun _ _ z=>False.elim z
end
section
variable {X:Cx}{st:Stmt}{rest:List Stmt}{t u:TS}{e:Expr}{te:TE}{pos:Pos}
def ZtL:TS:=fun D σ H=>D.nx σ H
def Zu0 (t u:TS):TS:=fun D σ H=>t { D with nx:=u D } σ H
theorem Zb3:PSs X [] ZtL:=fun _ _ σ H _ I h=>wpAny_execs_nil ⟨σ,H,I,h⟩
theorem Zae (h1:PS X st t)(h2:PSs X rest u):PSs X (st::rest) (Zu0 t u):=by
 intro Xbr s σ H D I h;refine wpAny_execs_cons (thn (h1 Xbr s σ H { D with nx:=u D } I h) fun f s1 q=>?_)
 cases f with
 |next =>
   obtain⟨σ',H',I',q⟩:=q
   exact h2 Xbr s1 σ' H' D I' q
 |ret v=>exact q
 |brk=>exact q
 |cont=>exact q
theorem Zai (h1:PS X st t):PSs X [st] t:=by
 intro Xbr s σ H D I h;refine wpAny_execs_cons (thn (h1 Xbr s σ H D I h) fun f s1 q=>?_)
 cases f with
 |next=>exact wpAny_execs_nil q
 |ret v=>exact q
 |brk=>exact q
 |cont=>exact q
theorem Inv.quiet {Xbr:List (Addr×Obj)}{σ:St}{H:Hp}{s:Shared}(I:Inv X Xbr σ H s):interactive X.env=false:=by simp[interactive,I.ok.kind]
def Zi8 (te:TE):TS:=fun D σ H=>te σ H fun _ H1=>D.nx σ H1
theorem Zbb (he:PE X e te)(hs:swapsWith e none pos.line X.env=pure false:=by rfl):PS X (.Expr e pos) (Zi8 te):=by
 intro Xbr s σ H D I h;exact wpAny_Expr_any (thn (he Xbr s σ H _ I h) fun v s1 ⟨x,H1,I1,r1,q1⟩=>⟨σ,H1,I1,q1⟩) I.quiet hs
def Zr6 (te:TE):TS:=fun D σ H=>te σ H D.rt
theorem Zax (he:PE X e te):PS X (.Return (some e) pos) (Zr6 te):=by
 intro Xbr s σ H D I h;exact wpAny_Return_some (thn (he Xbr s σ H _ I h) fun v s1 ⟨x,H1,I1,r1,q1⟩=>⟨x,σ,H1,I1,r1,q1⟩)
def Zva (c:TT)(t u:TS):TS:=fun D σ H=>c σ H fun b H1=>if b=true then t D σ H1 else u D σ H1
theorem ZdZ {c:Expr}{a b:List Stmt}{tc:TT}(hc:PT X c tc)(ha:PSs X a t)(hb:PSs X b u):PS X (.If c a b pos) (Zva tc t u):=by
 intro Xbr s σ H D I h;refine wpAny_If (thn (hc Xbr s σ H _ I h) fun d s1 ⟨H1,I1,q1⟩=>?_)
 cases d with
 |true=>exact ha Xbr s1 σ H1 D I1 q1
 |false=>exact hb Xbr s1 σ H1 D I1 q1
end
abbrev TG:=V->St->Hp->(St->Hp->Prop)->Prop
abbrev TGs:=List V->St->Hp->(St->Hp->Prop)->Prop
def PG (X:Cx)(target:Expr)(t:TG):Prop :=
 ∀(Xbr:List (Addr×Obj)) (s:Shared) (σ:St) (H:Hp) (v:V) (u:Value) (Q:St->Hp->Prop),Inv X Xbr σ H s->Zbl v u->t v σ H Q ->
  wpAny (model X.prog X.w) X.A (assign target X.env u) (fun _ s'=>∃σ' H',Inv X Xbr σ' H' s'/\Q σ' H') X.xe s
def PGs (X:Cx)(ts:List Expr)(t:TGs):Prop :=
 ∀(Xbr:List (Addr×Obj)) (s:Shared) (σ:St) (H:Hp) (vs:List V) (us:List Value) (Q:St->Hp->Prop),Inv X Xbr σ H s->Zb7 vs us->t vs σ H Q ->
  wpAny (model X.prog X.w) X.A (assignInOrder ((assignEach ts X.env).map (·.2)) us) (fun _ s'=>∃σ' H',Inv X Xbr σ' H' s'/\Q σ' H') X.xe s
abbrev Ztn:=V->V->V->Hp->(Hp->Prop)->Prop
def Zu8 (X:Cx)(t:Ztn):Prop :=
 ∀(Xbr:List (Addr×Obj)) (s:Shared) (σ:St) (H:Hp) (o i v:V) (ov iv u:Value) (Q:Hp->Prop),Inv X Xbr σ H s->Zbl o ov->Zbl i iv->Zbl v u->t o i v H Q ->
  wpAny (model X.prog X.w) X.A (setItem ov iv u) (fun _ s'=>∃H',Inv X Xbr σ H' s'/\Q H') X.xe s
abbrev TIp:=V->V->Hp->VK->Prop
def PIp (X:Cx)(op:Operator)(t:TIp):Prop :=
 ∀(Xbr:List (Addr×Obj)) (s:Shared) (σ:St) (H:Hp) (x y:V) (v u:Value) (Q:VK),Inv X Xbr σ H s->Zbl x v->Zbl y u->t x y H Q ->
  wpAny (model X.prog X.w) X.A (inplaceOp op v u) (EP X Xbr σ Q) X.xe s
section
variable {X:Cx}{pos:Pos}
def ZhX (i:Nat):TG:=fun v σ H Q=>Q (σ.set i (some v)) H
theorem Zao {i:Nat}{x:Str}(hN:X.N.Nodup)(hi:X.N[i]?=some x)(hx:Loc X.env.scope x)(hf:X.fn x=true\/X.env.scope.names.lookup x=some .local:=by first|exact .inl rfl|exact .inr rfl|assumption):PG X (.Name x pos) (ZhX i):=by
 intro Xbr s σ H v u Q I r h;exact wpAny_assign_Name (Zfa I hN hi hx r (fun s' I'=>⟨_,H,I',h⟩) hf)
def Zuu:TGs:=fun vs σ H Q=>vs=[]/\Q σ H
def Zs3 (t:TG)(u:TGs):TGs:=fun vs σ H Q=>∃v r,vs=v::r/\t v σ H fun σ' H'=>u r σ' H' Q
theorem Zcd:PGs X [] Zuu:=by
 intro Xbr s σ H vs us Q I r h;obtain⟨e,h⟩:=h
 subst e;cases r
 exact assignInOrder_nil ⟨σ,H,I,h⟩
theorem Za1 {e:Expr}{es:List Expr}{t:TG}{u:TGs}(h1:PG X e t)(h2:PGs X es u)
 (hs:(assignEach (e::es) X.env).map (·.2)=assign e X.env::(assignEach es X.env).map (·.2):=by rfl):PGs X (e::es) (Zs3 t u):=by
 intro Xbr s σ H vs us Q I r h;obtain⟨v,vr,e1,h⟩:=h
 subst e1;cases r with
 |cons r rr =>
   rw[hs];refine assignInOrder_cons (thn (h1 Xbr s σ H _ _ _ I r h) fun _ s1 ⟨σ1,H1,I1,q1⟩=>?_)
   exact h2 Xbr s1 σ1 H1 _ _ Q I1 rr q1
def Zuy (K:W.Frag)(n:Nat)(t:TGs):TG:=fun v σ H Q=>∃a xs,v=.ref a/\SqT K H a xs/\xs.length=n/\t xs σ H Q
theorem ZcZ {es:List Expr}{k:Nat}{t:TGs}{n:Nat}(hc:X.calm=true)(h:PGs X es t)
 (hn:(assignEach es X.env).length=n:=by rfl) (hst:(assignEach es X.env).findIdx? (·.1)=none:=by rfl):PG X (.Tuple es k pos) (Zuy X.K n t):=by
 intro Xbr s σ H v u Q I r hw;obtain⟨a,xs,e1,hq,hl,hw⟩:=hw
 subst e1;cases r
 obtain⟨its,rv,ht,hz⟩:=I.tuple hq
 refine assign_Tuple_tuple (I.ok.hd hc) ht (by simp[hn,<- hl,rv.length]) hst fun h' hx=>?_
 have I1:Inv X Xbr σ H { s with heap:=h' }:=I.kept (t':=s.toks) fun b o e=>hx b o (Xs (Xo e)) e
 exact h Xbr _ σ H xs _ Q I1 (by simpa using rv) hw
def Zvc (to ti:TE)(t:Ztn):TG:=fun v σ H Q=>to σ H fun o H1=>ti σ H1 fun i H2=>t o i v H2 fun H3=>Q σ H3
theorem ZnI {o i:Expr}{to ti:TE}{t:Ztn}(ho:PE X o to)(hi:PE X i ti)(hs:Zu8 X t)
 (ha:∀v,assign (.Subscript o i pos) X.env v=(do
  let ov <- holding [v] (eval o X.env)
  let iv <- holding [v,ov] (eval i X.env)
  standAt pos
  holding [v,ov,iv] (setItem ov iv v)
  release [v,ov,iv] []):=by intro _;rfl):PG X (.Subscript o i pos) (Zvc to ti t):=by
 intro Xbr s σ H v u Q I r h;rw[ha];refine Xh (wpAny_holding (thn (ho Xbr s σ H _ I h) fun ov s1 ⟨x,H1,I1,r1,q1⟩=>?_))
 refine Xh (wpAny_holding (thn (hi Xbr s1 σ H1 _ I1 q1) fun iv s2 ⟨y,H2,I2,r2,q2⟩=>?_))
 refine Xh (wpAny_standAt (Xh (wpAny_holding (thn (hs Xbr s2 σ H2 x y v ov iv u _ I2 r1 r2 r q2) fun _ s3 ⟨H3,I3,q3⟩=>?_))))
 exact wpAny_release ⟨σ,H3,I3,q3⟩
def ZoV (te:TE)(g:TG):TS:=fun D σ H=>te σ H fun x H1=>g x σ H1 D.nx
theorem ZeA {tg e:Expr}{te:TE}{g:TG}(he:PE X e te)(hg:PG X tg g)(hs:swapsWithSole [tg] e pos.line X.env=pure false:=by rfl)(hw:swappedStores [tg] e X.env=pure none:=by rfl)
 (h1:(assignEach [tg] X.env).map (·.2)=[assign tg X.env]:=by rfl):PS X (.Assign [tg] e pos) (ZoV te g):=by
 intro Xbr s σ H D I h;refine wpAny_Assign_stores (thn (he Xbr s σ H _ I h) fun v s1 ⟨x,H1,I1,r1,q1⟩=>?_) hs hw
 rw[h1];exact thn (hg Xbr s1 σ H1 x v _ I1 r1 q1) fun _ s2 q=>q
theorem Zar {i:Nat}{x:Str}{e:Expr}{te:TE}{pos':Pos}(hN:X.N.Nodup)(hi:X.N[i]?=some x)(hx:Loc X.env.scope x)(he:PE X e te)(hs:swapsWith e (some (.Name x pos')) pos.line X.env=pure false:=by rfl)(hf:X.fn x=true\/X.env.scope.names.lookup x=some .local:=by first|exact .inl rfl|exact .inr rfl|assumption) :
 PS X (.Assign [.Name x pos'] e pos) (ZoV te (ZhX i)):=by
 intro Xbr s σ H D I h;refine wpAny_Assign_Name (thn (he Xbr s σ H _ I h) fun v s1 ⟨y,H1,I1,r1,q1⟩=>?_) hs
 exact Zfa I1 hN hi hx r1 (fun s2 I2=>⟨_,H1,I2,q1⟩) hf
def Zvi (i j:Nat)(ta:TA):TS:=fun D σ H=>ta σ H fun vs H1=>∃v w,vs=[v,w]/\D.nx ((σ.set i (some v)).set j (some w)) H1
theorem ZsM {i j:Nat}{x y:Str}{a b:Expr}{ta:TA}{px py pt:Pos}{kt k2 pt2}(hc:X.calm=true)(hN:X.N.Nodup)(hi:X.N[i]?=some x)(hj:X.N[j]?=some y)(hij:i≠j)
 (hx:X.env.scope.names.lookup x=some .local) (hy:X.env.scope.names.lookup y=some .local) (ha:PA X [a,b] ta)
 (hw:swappedStores [.Tuple [.Name x px,.Name y py] kt pt] (.Tuple [a,b] k2 pt2) X.env=pure (some [x,y]))
 (hs:swapsWithSole [.Tuple [.Name x px,.Name y py] kt pt] (.Tuple [a,b] k2 pt2) pos.line X.env=pure false:=by rfl) :
 PS X (.Assign [.Tuple [.Name x px,.Name y py] kt pt] (.Tuple [a,b] k2 pt2) pos) (Zvi i j ta):=by
 intro Xbr s σ H D I h;rw[exec_Assign_arm];refine Xh (wpAny_standAt ?_)
 rw[hs];refine Xh (XB ?_)
 rw[Xa (by decide)];refine Xh (Tuple_ (thn (ha _ Xbr s σ H _ I h) fun us s1 ⟨vs,H1,I1,r1,q1⟩=>?_))
 obtain⟨v,w,e1,q1⟩:=q1
 subst e1;obtain⟨u1,u2,rfl,rv,rw'⟩:∃u1 u2,us=[u1,u2]/\Zbl v u1/\Zbl w u2:=by
  cases r1 with
  |cons p q =>
    cases q with
    |cons p' q' =>
      cases q'
      exact⟨_,_,rfl,p,p'⟩
 refine wpAny_newObj_type ?_ (by show 2<=sizeLine;decide)
 have I2:Inv X Xbr σ H1 { s1 with heap:=s1.heap.push { cls:=.type "tuple",data:=.seq [u1,u2].toArray } }:=I1.kept (t':=s1.toks) fun b o e=>Xv _ e
 rw[hw];refine Xh (XB ?_)
 show wpAny (model X.prog X.w) X.A (do rule "assign.swapped-stores";let items <- unpackItems (.ref s1.heap.objs.size) 2 none;assignInOrder [fun v=>bindName X.env y v,fun v=>bindName X.env x v] items.reverse;pure Flow.next) _ _ _
 refine Xh (wpAny_rule (Xh (unpackItems_tuple (items := #[u1,u2]) (I.ok.hd hc) (IsTup.new s1.heap _) fun h' hx'=>?_)))
 have I3:=I2.kept (h':=h') (t':=s1.toks) fun b o e=>hx' b o (Xs (Xo e)) e
 show wpAny _ _ (assignInOrder [fun v=>bindName X.env y v,fun v=>bindName X.env x v] [u2,u1] >>= fun _=>pure Flow.next) _ _ _
 refine Xh (assignInOrder_cons (wpAny_bindName (Zfa I3 hN hj (.inl hy) rw' (fun s2 I4=>?_) (.inr hy))))
 refine assignInOrder_cons (wpAny_bindName (Zfa I4 hN hi (.inl hx) rv (fun s3 I5=>assignInOrder_nil (XB ?_)) (.inr hx)))
 rw[List.set_comm _ _ (Ne.symm hij)]at I5;exact⟨_,H1,I5,q1⟩
def ZuX (i:Nat)(te:TE)(ti:TIp):TS:=fun D σ H=>∃x,σ[i]?=some (some x)/\te σ H fun y H1=>ti x y H1 fun z H2=>D.nx (σ.set i (some z)) H2
theorem Zuh {i:Nat}{x:Str}{e:Expr}{te:TE}{op:Operator}{ti:TIp}{pos':Pos}(hN:X.N.Nodup)(hi:X.N[i]?=some x)(hx:Loc X.env.scope x)(he:PE X e te)(ho:PIp X op ti)(hf:X.fn x=true\/X.env.scope.names.lookup x=some .local:=by first|exact .inl rfl|exact .inr rfl|assumption) :
 PS X (.AugAssign (.Name x pos') op e pos) (ZuX i te ti):=by
 intro Xbr s σ H D I h;obtain⟨v,e1,h⟩:=h
 obtain⟨m,hn,hl⟩:=I.loc
 have vis:Vis X.env.scope x:=by rcases hx with k|k;exact .inl k;exact .inr (.inl k)
 obtain⟨u,r,l⟩:=hl i x v hi e1 vis
 refine wpAny_AugAssign_Name ?_
 have go:wpAny (model X.prog X.w) X.A (eval e X.env) (fun w s₂=>wpAny (model X.prog X.w) X.A (inplaceOp op u w) (fun r s₃=>wpAny (model X.prog X.w) X.A (storeName X.env x r) (fun _=>SP X Xbr D .next) X.xe s₃) X.xe s₂) X.xe s:=by
  refine thn (he Xbr s σ H _ I h) fun w s1 ⟨y,H1,I1,r1,q1⟩=>?_
  refine thn (ho Xbr s1 σ H1 v y u w _ I1 r r1 q1) fun z s2 ⟨zv,H2,I2,r2,q2⟩=>?_
  exact Zfa I2 hN hi hx r2 (fun s3 I3=>⟨_,H2,I3,q2⟩) hf
 rcases l with ⟨hk,hm⟩|⟨hk,c,hc,hcell⟩
 ·exact wpAny_loadName_local I.ok.kind hk hn hm go
 ·rcases hk with hk|hk
  ·exact wpAny_loadName_cell I.ok.kind hk hc hcell go
  ·rcases hx with k|k
   ·have:X.env.scope.names.lookup x=some .free:=hk
    rw[k]at this;cases this
   ·have:X.env.scope.names.lookup x=some .free:=hk
    rw[k]at this;cases this
def ZrH (to ti te:TE)(tget:V->V->Hp->VK->Prop)(tip:TIp)(tset:Ztn):TS:=fun D σ H=>to σ H fun o H1=>ti σ H1 fun i H2=>tget o i H2 fun x H3=>te σ H3 fun y H4=>tip x y H4 fun z H5=>tset o i z H5 fun H6=>D.nx σ H6
def ZuS (X:Cx)(t:V->V->Hp->VK->Prop):Prop :=
 ∀(Xbr:List (Addr×Obj)) (s:Shared) (σ:St) (H:Hp) (o i:V) (ov iv:Value) (Q:VK),Inv X Xbr σ H s->Zbl o ov->Zbl i iv->t o i H Q ->
  wpAny (model X.prog X.w) X.A (getItem ov iv) (EP X Xbr σ Q) X.xe s
theorem Ziw {o i e:Expr}{to ti te:TE}{tget:V->V->Hp->VK->Prop}{tip:TIp}{tset:Ztn}{op:Operator}{tpos:Pos}(ho:PE X o to)(hi:PE X i ti)(hg:ZuS X tget)(he:PE X e te)(hp:PIp X op tip)(hs:Zu8 X tset)
 (ha:∀ov iv new,augStore i ov iv new=(do holding [new,ov,iv] (setItem ov iv new);release [new,ov,iv] [];pure .next):=by intros;rfl):PS X (.AugAssign (.Subscript o i tpos) op e pos) (ZrH to ti te tget tip tset):=by
 intro Xbr s σ H D I h;refine wpAny_AugAssign_SubscriptAny (thn (ho Xbr s σ H _ I h) fun ov s1 ⟨x1,H1,I1,r1,q1⟩=>?_) ha
 refine thn (hi Xbr s1 σ H1 _ I1 q1) fun iv s2 ⟨x2,H2,I2,r2,q2⟩=>?_
 refine thn (hg Xbr s2 σ H2 x1 x2 ov iv _ I2 r1 r2 q2) fun old s3 ⟨x3,H3,I3,r3,q3⟩=>?_
 refine thn (he Xbr s3 σ H3 _ I3 q3) fun v s4 ⟨x4,H4,I4,r4,q4⟩=>?_
 refine thn (hp Xbr s4 σ H4 x3 x4 old v _ I4 r3 r4 q4) fun new s5 ⟨x5,H5,I5,r5,q5⟩=>?_
 exact thn (hs Xbr s5 σ H5 x1 x2 x5 ov iv new _ I5 r1 r2 r5 q5) fun _ s6 ⟨H6,I6,q6⟩=>⟨σ,H6,I6,q6⟩
def ipI (f:Int->Int->Int):TIp:=fun x y H Q=>∃i j,x=.int i/\y=.int j/\Q (.int (f i j)) H
theorem ZnR:PIp X .Add (ipI fun i j=>i+j):=by
 intro Xbr s σ H x y v u Q I r1 r2 h;obtain⟨i,j,e1,e2,q⟩:=h
 subst e1;subst e2;obtain⟨t,rfl⟩:=r1
 obtain⟨t',rfl⟩:=r2
 exact iadd_int ⟨.int _,H,I.tok _,⟨_,rfl⟩,q⟩
theorem Ztw:PIp X .Sub (ipI fun i j=>i-j):=by
 intro Xbr s σ H x y v u Q I r1 r2 h;obtain⟨i,j,e1,e2,q⟩:=h
 subst e1;subst e2;obtain⟨t,rfl⟩:=r1
 obtain⟨t',rfl⟩:=r2
 exact isub_int ⟨.int _,H,I.tok _,⟨_,rfl⟩,q⟩
end
section
variable {X:Cx}{pos:Pos}
def ZqN (c:TT)(tb:TS):TS:=fun D σ H=>∃W:Nat->St->Hp->Prop,(∃m,W m σ H)/\∀m σ H,W m σ H ->
 c σ H fun b H1=>if b=true then ∃N:St->Hp->Prop,(∀σ' H',N σ' H'->∃m',m'<m/\W m' σ' H')/\tb { D with nx:=N,ct:=N,bk:=D.nx } σ H1 else D.nx σ H1
theorem Zcj {c:Expr}{body:List Stmt}{tc:TT}{tb:TS}(hp:PassesOwn (model X.prog X.w) X.A X.env X.xe)(hc:PT X c tc)(hb:PSs X body tb):PS X (.While c body [] pos) (ZqN tc tb):=by
 intro Xbr s σ H D I h;obtain⟨W,⟨m0,w0⟩,turn⟩:=h
 refine wpAny_While (codeAny_whileLoop (fun n s'=>∃σ' H',Inv X Xbr σ' H' s'/\W n σ' H') ?_ m0 ⟨σ,H,I,w0⟩)
 rintro n s1 ⟨σ1,H1,I1,w1⟩
 refine wpAny_passesOwn hp (thn (hc Xbr s1 σ1 H1 _ I1 (turn n σ1 H1 w1)) fun b s2 ⟨H2,I2,q2⟩=>?_)
 cases b with
 |true =>
   obtain⟨N,hN,q2⟩:=q2
   rw[Xc rfl];refine wpAny_passesOwn hp (thn (hb Xbr s2 σ1 H2 _ I2 q2) fun f s3 q3=>?_)
   cases f with
   |next =>
     obtain⟨σ3,H3,I3,n3⟩:=q3
     obtain⟨m',hm,w3⟩:=hN σ3 H3 n3
     exact⟨m',hm,σ3,H3,I3,w3⟩
   |cont =>
     obtain⟨σ3,H3,I3,n3⟩:=q3
     obtain⟨m',hm,w3⟩:=hN σ3 H3 n3
     exact⟨m',hm,σ3,H3,I3,w3⟩
   |brk=>exact q3
   |ret v=>exact q3
 |false =>
   rw[Xa Xq];exact wpAny_execs_nil ⟨σ1,H2,I2,q2⟩
end
structure It where
 go:Nat->Hp->Prop
 yld:Nat->Hp->V->Hp->Prop
 stop:Nat->Hp->Prop
def Zm1 (X:Cx)(Xbr:List (Addr×Obj))(H:Hp)(b:Addr):Prop :=
 H b=none/\b≠X.env.locals/\b∉X.fs/\(b∈X.ex\/X.s₀.heap.objs.size<=b)/\(∀x c,X.env.cells.lookup x=some c->c≠b)/\∀p∈X.pn++Xbr,p.1≠b
theorem Inv.fpOk {X:Cx}{Xbr:List (Addr×Obj)}{σ:St}{H H':Hp}{s:Shared}{b:Addr}(I:Inv X Xbr σ H s)(hb:s.heap.objs.size<=b)(hn:H' b=none):Zm1 X Xbr H' b:=by
 refine⟨hn,Xaq (XG I.lt hb),I.nofs hb,.inr (XS I.sz hb),fun x c e z=>?_,fun p hp z=>?_⟩
 ·obtain⟨v,q⟩:=I.cell x c e
  exact Xp (XG q.lt (by rw[z];exact hb)) (XaA _)
 ·exact Xp (XG (Xo (I.pin p hp).1) (by rw[z];exact hb)) (XaA _)
structure Turn (P:Program)(w:World)(K:W.Frag)(tg:Expr)(J:It)(fp:List Addr)(it:Addr)(tn:Nat->Heap->Prop):Prop where
 mem:it∈fp
 obj:∀i h,tn i h->∀b∈fp,∃o,h.get? b=some o/\∀v,o.data≠.cell v
 keep:∀i h h',tn i h->(∀b∈fp,∀o,h.get? b=some o->h'.get? b=some o)->tn i h'
 item:∀(X:Cx),X.prog=P->X.w=w->X.K=K->X.calm=true->∀(i:Nat) (Xbr:List (Addr×Obj)) (s:Shared) (σ:St) (H:Hp) (E:Value->Shared->Prop),Inv X Xbr σ H s->(∀b∈fp,Zm1 X Xbr H b)->tn i s.heap->J.go i H ->
  wpAny (model P w) X.A (pyNext (.ref it)) (fun r s1=>∃u,r=some u /\
   wpAny (model P w) X.A (letOwnedTupleGo tg (.ref it) u) (fun _ s2=>∃x H',Inv X Xbr σ H' s2/\Zbl x u/\J.yld i H x H'/\tn (i+1) s2.heap/\∀b∈fp,H' b=none) E s1) E s
 done:∀(X:Cx),X.prog=P->X.w=w->X.K=K->X.calm=true->∀(i:Nat) (Xbr:List (Addr×Obj)) (s:Shared) (σ:St) (H:Hp) (E:Value->Shared->Prop),Inv X Xbr σ H s->(∀b∈fp,Zm1 X Xbr H b)->tn i s.heap->J.stop i H ->
  wpAny (model P w) X.A (pyNext (.ref it)) (fun r s1=>r=none/\Inv X Xbr σ H s1) E s
 self:∀(A:Around) (i:Nat) (s:Shared) (Q:Value->Shared->Prop) (E:Value->Shared->Prop),tn i s.heap->Q (.ref it) s->wpAny (model P w) A (pyIter (.ref it)) Q E s
abbrev TI:=St->Hp->(It->Hp->Prop)->Prop
def PIE (X:Cx)(Xbr:List (Addr×Obj))(σ:St)(tg:Expr)(R:It->Hp->Prop)(itv:Value)(s2:Shared):Prop :=
 ∃(it:Addr) (fp:List Addr) (tn:Nat->Heap->Prop) (J:It) (H':Hp),itv=.ref it/\Inv X Xbr σ H' s2/\Turn X.prog X.w X.K tg J fp it tn/\tn 0 s2.heap/\(∀b∈fp,Zm1 X Xbr H' b)/\R J H'
def PI (X:Cx)(tg iter:Expr)(wi:TI):Prop :=
 ∀(Xbr:List (Addr×Obj)) (s:Shared) (σ:St) (H:Hp) (R:It->Hp->Prop),Inv X Xbr σ H s->wi σ H R ->
  wpAny (model X.prog X.w) X.A (eval iter X.env) (fun v s1=>wpAny (model X.prog X.w) X.A (pyIter v) (PIE X Xbr σ tg R) X.xe s1) X.xe s
theorem Zqx {M:Model}{A:Around}{E:Value->Shared->Prop}{s:Shared}{tg:Expr}{it:Addr}{u:Value}{o:Obj}{n:String}{vs:Array Value}{Q:Unit->Shared->Prop}(ho:s.heap.get? it=some o)(hc:o.cls=.type n)(hd:o.data=.fields vs)
 (hn:["enumerate", "zip", "dict_itemiterator", "dict_reverseitemiterator", "odict_iterator", "itertools.zip_longest", "itertools.pairwise"].contains n=false) (hQ:Q () s):wpAny M A (letOwnedTupleGo tg (.ref it) u) Q E s:=by
 unfold letOwnedTupleGo;cases tg<;>first
  |exact XB hQ
  | (cases u<;>first
   |exact XB hQ
   | (refine Xh (wpAny_load ho ?_)
      rw[hc,hd];show wpAny M A (if (["enumerate", "zip", "dict_itemiterator", "dict_reverseitemiterator", "odict_iterator", "itertools.zip_longest", "itertools.pairwise"].contains n&&vs[0]?==some (rawInt _))=true then _ else _) Q E s
      rw[Xa (by intro h;rw[hn,Bool.false_and]at h;cases h)];exact XB hQ))
def Itl (K:W.Frag)(a:Addr):It :=
 ⟨fun i H=>∃xs x,SqL K H a xs/\xs[i]?=some x,fun i H x H'=>H'=H/\∀xs,SqL K H a xs->xs[i]?=some x,fun i H=>∃xs,SqL K H a xs/\xs.length<=i⟩
def Itt (K:W.Frag)(a:Addr):It :=
 ⟨fun i H=>∃xs x,SqT K H a xs/\xs[i]?=some x,fun i H x H'=>H'=H/\∀xs,SqT K H a xs->xs[i]?=some x,fun i H=>∃xs,SqT K H a xs/\xs.length<=i⟩
def Itr (lo:Int)(n:Nat):It:=⟨fun i _=>i<n,fun i H x H'=>H'=H/\x=.int (lo+i),fun i _=>n<=i⟩
theorem ZmN {P:Program}{w:World}{K:W.Frag}{tg:Expr}(a it:Addr):Turn P w K tg (Itl K a) [it] it (fun i h=>h.IsListIter it a i) where
 mem:=by simp
 obj:=fun i h st b hb=>by
  have e:b=it:=by simpa using hb
  subst e;obtain⟨o,e,c,d⟩:=st
  exact⟨o,e,fun v z=>by rw[d]at z;cases z⟩
 keep:=fun i h h' st k=>st.at fun o e=>k it (by simp) o e
 item:=by
  intro X hP hw hK hc i Xbr s σ H E I hf st hg;subst hP hw hK;obtain⟨xs,x,hq,hx⟩:=hg
  obtain⟨its,rv,p,hz⟩:=I.list hq
  obtain⟨u,hu,ru⟩:=rv.get hx
  obtain⟨f0,f1,f2,f3,f4,f5⟩:=hf it (by simp)
  refine wpAny_pyNext_list_item st p.isList (x:=u) (by simpa using hu) fun h' st' sb=>?_
  have I1:Inv X Xbr σ H { s with heap:=h' }:=I.turned (t':=s.toks) (fun b o hb e=>(sb.2 b hb).trans e) f0 f1 f3 f4 f5
  obtain⟨o,e,c,d⟩:=id st'
  exact⟨u,rfl,Zqx (s:={ s with heap:=h' }) e c d (by decide) ⟨x,H,I1,ru,⟨rfl,fun ys hy=>by rw[I.list_inj hy hq];exact hx⟩,st',fun b hb=>(hf b hb).1⟩⟩
 done:=by
  intro X hP hw hK hc i Xbr s σ H E I hf st hg;subst hP hw hK;obtain⟨xs,hq,hx⟩:=hg
  obtain⟨its,rv,p,hz⟩:=I.list hq
  obtain⟨f0,f1,f2,f3,f4,f5⟩:=hf it (by simp)
  have hl:=rv.length
  exact wpAny_pyNext_list_end (I.ok.hd hc) st p.isList (by simp;omega) fun h' eb=>⟨rfl,I.turned (t':=s.toks) (fun b o hb e=>eb b o hb e) f0 f1 f3 f4 f5⟩
 self:=fun _ _ _ _ _ st h=>wpAny_pyIter_listiter st h
theorem Zmt {P:Program}{w:World}{K:W.Frag}{tg:Expr}(a it:Addr):Turn P w K tg (Itt K a) [it] it (fun i h=>h.IsTupleIter it a i) where
 mem:=by simp
 obj:=fun i h st b hb=>by
  have e:b=it:=by simpa using hb
  subst e;obtain⟨o,e,c,d⟩:=st
  exact⟨o,e,fun v z=>by rw[d]at z;cases z⟩
 keep:=fun i h h' st k=>st.at fun o e=>k it (by simp) o e
 item:=by
  intro X hP hw hK hc i Xbr s σ H E I hf st hg;subst hP hw hK;obtain⟨xs,x,hq,hx⟩:=hg
  obtain⟨its,rv,p,hz⟩:=I.tuple hq
  obtain⟨u,hu,ru⟩:=rv.get hx
  obtain⟨f0,f1,f2,f3,f4,f5⟩:=hf it (by simp)
  refine wpAny_pyNext_tuple_item st (show s.heap.IsTuple a its.toArray from p) (x:=u) (by simpa using hu) fun h' st' sb=>?_
  have I1:Inv X Xbr σ H { s with heap:=h' }:=I.turned (t':=s.toks) (fun b o hb e=>(sb.2 b hb).trans e) f0 f1 f3 f4 f5
  obtain⟨o,e,c,d⟩:=id st'
  exact⟨u,rfl,Zqx (s:={ s with heap:=h' }) e c d (by decide) ⟨x,H,I1,ru,⟨rfl,fun ys hy=>by rw[I.tuple_inj hy hq];exact hx⟩,st',fun b hb=>(hf b hb).1⟩⟩
 done:=by
  intro X hP hw hK hc i Xbr s σ H E I hf st hg;subst hP hw hK;obtain⟨xs,hq,hx⟩:=hg
  obtain⟨its,rv,p,hz⟩:=I.tuple hq
  obtain⟨f0,f1,f2,f3,f4,f5⟩:=hf it (by simp)
  have hl:=rv.length
  exact wpAny_pyNext_tuple_end (I.ok.hd hc) st (show s.heap.IsTuple a its.toArray from p) (by simp;omega) fun h' eb=>⟨rfl,I.turned (t':=s.toks) (fun b o hb e=>eb b o hb e) f0 f1 f3 f4 f5⟩
 self:=fun _ _ _ _ _ st h=>wpAny_pyIter_tupleiter st h
theorem Zmm {P:Program}{w:World}{K:W.Frag}{tg:Expr}(it:Addr)(lo:Int)(n:Nat):Turn P w K tg (Itr lo n) [it] it (fun i h=>IsRangeIter h it (lo+(i:Nat)*1) ((n:Int)-(i:Nat)) 1) where
 mem:=by simp
 obj:=fun i h st b hb=>by
  have e:b=it:=by simpa using hb
  subst e;exact⟨_,st,fun v z=>by
   have z':Data.fields _=Data.cell v:=z
   cases z'⟩
 keep:=fun i h h' st k=>k it (by simp) _ st
 item:=by
  intro X hP hw hK hc i Xbr s σ H E I hf st hg;subst hP hw hK;obtain⟨f0,f1,f2,f3,f4,f5⟩:=hf it (by simp)
  have W:=Walks.range (prog:=X.prog) (w:=X.w) (I.ok.hd hc) it lo 1 n
  refine W.item i s _ _ hg st fun v h' tk hv st' kk=>?_
  obtain⟨t,rfl⟩:=hv
  have I1:Inv X Xbr σ H { s with heap:=h',toks:=tk }:=I.turned (fun b o hb e=>kk b o (by simpa using hb) e) f0 f1 f3 f4 f5
  refine⟨_,rfl,Zqx (s:={ s with heap:=h',toks:=tk }) (n := "range_iterator") st' rfl rfl (by decide) ⟨.int (lo+i),H,I1,⟨t,?_⟩,⟨rfl,rfl⟩,st',fun b hb=>(hf b hb).1⟩⟩
  rw[Xaj]
 done:=by
  intro X hP hw hK hc i Xbr s σ H E I hf st hg;subst hP hw hK;obtain⟨f0,f1,f2,f3,f4,f5⟩:=hf it (by simp)
  exact wpAny_pyNext_range_end (I.ok.hd hc) st (by have:n<=i:=hg;omega) fun h' eb=>⟨rfl,I.turned (t':=s.toks) (fun b o hb e=>eb b o hb e) f0 f1 f3 f4 f5⟩
 self:=fun _ _ _ _ _ st h=>wpAny_pyIter_rangeiter st h
section
variable {X:Cx}{tg:Expr}
def ZrL (K:W.Frag)(tl:TE):TI:=fun σ H R=>tl σ H fun x H1=>∃a,x=.ref a/\(∃xs,SqL K H1 a xs)/\R (Itl K a) H1
def Zvh (K:W.Frag)(tl:TE):TI:=fun σ H R=>tl σ H fun x H1=>∃a,x=.ref a/\(∃xs,SqT K H1 a xs)/\R (Itt K a) H1
theorem ZbM {l:Expr}{tl:TE}(hl:PE X l tl):PI X tg l (ZrL X.K tl):=by
 intro Xbr s σ H R I h;refine thn (hl Xbr s σ H _ I h) fun v s1 ⟨x,H1,I1,r1,q1⟩=>?_
 obtain⟨a,e,⟨xs,hq⟩,q⟩:=q1
 subst e;cases r1
 obtain⟨its,rv,p,hz⟩:=I1.list hq
 refine wpAny_pyIter_list p.isList ?_
 refine⟨s1.heap.objs.size,[s1.heap.objs.size],_,_,H1,rfl,I1.kept (t':=s1.toks) fun b o e=>Xv _ e,ZmN a _,⟨_,XZ _ rfl,rfl,rfl⟩,fun b hb=>?_,q⟩
 have e:b=s1.heap.objs.size:=by simpa using hb
 subst e;exact I1.fpOk (Xw _) (I1.hok.fresh (Xw _))
theorem Zl5 {l:Expr}{tl:TE}(hl:PE X l tl):PI X tg l (Zvh X.K tl):=by
 intro Xbr s σ H R I h;refine thn (hl Xbr s σ H _ I h) fun v s1 ⟨x,H1,I1,r1,q1⟩=>?_
 obtain⟨a,e,⟨xs,hq⟩,q⟩:=q1
 subst e;cases r1
 obtain⟨its,rv,p,hz⟩:=I1.tuple hq
 refine wpAny_pyIter_tuple (show s1.heap.IsTuple a its.toArray from p) ?_
 refine⟨s1.heap.objs.size,[s1.heap.objs.size],_,_,H1,rfl,I1.kept (t':=s1.toks) fun b o e=>Xv _ e,Zmt a _,⟨_,XZ _ rfl,rfl,rfl⟩,fun b hb=>?_,q⟩
 have e:b=s1.heap.objs.size:=by simpa using hb
 subst e;exact I1.fpOk (Xw _) (I1.hok.fresh (Xw _))
theorem ZkL {Xbr:List (Addr×Obj)}{σ:St}{H:Hp}{s:Shared}{R:It->Hp->Prop}{E:Value->Shared->Prop}{lo hi:Int}{t u v:Tok}{tk:Nat}(I:Inv X Xbr σ H s)(h1 : -(2^62)<=lo)(h2:lo<2^62)(h3 : -(2^62)<=hi)(h4:hi<2^62)
 (q:R (Itr lo (hi-lo).toNat) H):wpAny (model X.prog X.w) X.A (pyIter (.ref s.heap.objs.size)) (PIE X Xbr σ tg R) E { s with heap:=s.heap.push { cls:=.type "range",data:=.fields #[.int lo t,.int hi u,.int 1 v] },toks:=tk }:=by
 refine wpAny_pyIter_range (IsRange.new ..) (small_one h1 h2 h3 h4) ?_
 have I1:Inv X Xbr σ H { s with heap:=s.heap.push { cls:=.type "range",data:=.fields #[.int lo t,.int hi u,.int 1 v] },toks:=tk }:=I.kept fun b o e=>Xv _ e
 refine⟨(s.heap.push { cls:=.type "range",data:=.fields #[.int lo t,.int hi u,.int 1 v] }).objs.size,[(s.heap.push { cls:=.type "range",data:=.fields #[.int lo t,.int hi u,.int 1 v] }).objs.size],_,_,H,rfl,
  I1.kept (t':=tk) fun b o e=>Xv _ e,Zmm _ lo (hi-lo).toNat,?_,fun b hb=>?_,q⟩
 ·have e1:lo+((0:Nat):Int)*1=lo:=by simp
  have e2:(((hi-lo).toNat:Nat):Int)-((0:Nat):Int)=Builtin.Range.rangeSize lo hi 1:=by rw[rangeSize_one];split<;>omega
  show IsRangeIter _ _ (lo+((0:Nat):Int)*1) ((((hi-lo).toNat:Nat):Int)-((0:Nat):Int)) 1
  rw[e1,e2];exact XZ _ rfl
 ·have e:b=(s.heap.push { cls:=.type "range",data:=.fields #[.int lo t,.int hi u,.int 1 v] }).objs.size:=by simpa using hb
  subst e;exact I1.fpOk (Xw _) (I1.hok.fresh (Xw _))
def Zub (ta:TA):TI:=fun σ H R=>ta σ H fun vs H1=>∃j:Int,vs=[.int j] /\ -(2^62)<=j/\j<2^62/\R (Itr 0 j.toNat) H1
def ZtC (ta:TA):TI:=fun σ H R=>ta σ H fun vs H1=>∃i j:Int,vs=[.int i,.int j]/\(-(2^62)<=i/\i<2^62 /\ -(2^62)<=j/\j<2^62)/\R (Itr i (j-i).toNat) H1
theorem ZaQ {a:Expr} {ta:TA} {p pos:Pos} (hg:Gl X "range") (hm:X.mg "range"=none) (ha:PA X [a] ta) (hs:starEach [a] X.env=[(false,eval a X.env)]:=by rfl):PI X tg (.Call (.Name "range" p) [a] [] pos) (Zub ta):=by
 intro Xbr s σ H R I h;refine Call_ (Zg9 I hg hm boot_range (PyProof.Rows.callWith_type1 (thn (ha pos Xbr s σ H _ I h) fun us s1 ⟨vs,H1,I1,r1,q1⟩=>?_) hs rfl))
 obtain⟨j,e,q1,q2,q⟩:=q1
 subst e;cases r1 with
 |cons r rr =>
   cases rr
   obtain⟨t,rfl⟩:=r
   exact call_range_1 (ZkL I1 (by omega) (by omega) q1 q2 (by simpa using q))
theorem ZiG {a b:Expr} {ta:TA} {p pos:Pos} (hg:Gl X "range") (hm:X.mg "range"=none) (ha:PA X [a,b] ta) (hs:starEach [a,b] X.env=[(false,eval a X.env),(false,eval b X.env)]:=by rfl) (hs2:starEach [b] X.env=[(false,eval b X.env)]:=by rfl) :
 PI X tg (.Call (.Name "range" p) [a,b] [] pos) (ZtC ta):=by
 intro Xbr s σ H R I h;refine Call_ (Zg9 I hg hm boot_range (PyProof.Rows.callWith_type1 (thn (ha pos Xbr s σ H _ I h) fun us s1 ⟨vs,H1,I1,r1,q1⟩=>?_) (by rw[hs,hs2]) (by rw[hs2];rfl)))
 obtain⟨i,j,e,⟨q1,q2,q3,q4⟩,q⟩:=q1
 subst e;cases r1 with
 |cons r rr =>
   cases rr with
   |cons r' rr =>
     cases rr
     obtain⟨t,rfl⟩:=r
     obtain⟨t',rfl⟩:=r'
     exact call_range_2 (ZkL I1 q1 q2 q3 q4 q)
def Ztp (wi:TI)(g:TG)(tb:TS):TS:=fun D σ H=>wi σ H fun J H1=>∃W:Nat->Nat->St->Hp->Prop,(∃m,W 0 m σ H1)/\∀i m σ H,W i m σ H ->
 (J.stop i H/\D.nx σ H)\/(J.go i H/\∃N:St->Hp->Prop,(∀σ' H',N σ' H'->∃m',m'<m/\W (i+1) m' σ' H')/\∀x H',J.yld i H x H'->g x σ H' fun σ2 H2=>tb { D with nx:=N,ct:=N,bk:=D.nx } σ2 H2)
def ZiI (fp:List Addr)(h:Heap):List (Addr×Obj):=fp.filterMap fun b=>(h.get? b).map fun o=>(b,o)
theorem Ze6 {fp:List Addr}{h:Heap}{b:Addr}{o:Obj}(hb:b∈fp)(e:h.get? b=some o):(b,o)∈ZiI fp h:=List.mem_filterMap.mpr ⟨b,hb,by rw[e];rfl⟩
theorem Zo5 {fp:List Addr}{h:Heap}{p:Addr×Obj}(hp:p∈ZiI fp h):p.1∈fp/\h.get? p.1=some p.2:=by
 obtain⟨b,hb,e⟩:=List.mem_filterMap.mp hp
 cases q:h.get? b with
 |none=>rw[q]at e;cases e
 |some o =>
   rw[q]at e;have e':(b,o)=p:=Option.some.inj e
   subst e';exact⟨hb,q⟩
theorem Inv.pinned {Xbr:List (Addr×Obj)}{σ:St}{H:Hp}{s:Shared}{fp:List Addr}(I:Inv X Xbr σ H s)(hf:∀b∈fp,Zm1 X Xbr H b)(ho:∀b∈fp,∃o,s.heap.get? b=some o/\∀v,o.data≠.cell v):Inv X (Xbr++ZiI fp s.heap) σ H s :=
 I.pins_of fun p hp=>(XI.mp hp).elim (fun z=>I.pin p (XJ _ z)) fun z=>by
  obtain⟨hb,e⟩:=Zo5 z
  obtain⟨f0,f1,f2,_⟩:=hf p.1 hb
  obtain⟨o,e',d⟩:=ho p.1 hb
  rw[e]at e';cases e';exact⟨e,f0,f1,f2,d⟩
theorem Inv.unpinned {Xbr pl:List (Addr×Obj)}{σ:St}{H:Hp}{s:Shared}(I:Inv X (Xbr++pl) σ H s):Inv X Xbr σ H s:=I.pins_of fun p hp=>I.pin p (XJ _ (Xae _ hp))
theorem Zbp {iter:Expr}{body:List Stmt}{wi:TI}{g:TG}{tb:TS}{pos:Pos}(hp:PassesOwn (model X.prog X.w) X.A X.env X.xe)(hc:X.calm=true)(hi:PI X tg iter wi)(hg:PG X tg g)(hb:PSs X body tb)
 (hs:∀x,foldedSetIterable iter X.env x=pure x:=by intro _;rfl):PS X (.For tg iter body [] pos) (Ztp wi g tb):=by
 intro Xbr s σ H D I h;refine wpAny_For (thn (hi Xbr s σ H _ I h) fun v s1 h1=>thn h1 fun itv s2 h2=>?_) hs
 obtain⟨it,fp,tn,J,H2,e,I2,T,st2,f2,W,⟨m0,w0⟩,turn⟩:=h2
 subst e;have stat:∀{H':Hp},(∀b∈fp,H' b=none)->∀b∈fp,Zm1 X Xbr H' b:=fun hn b hb=>⟨hn b hb,(f2 b hb).2⟩
 refine codeAny_forLoop_any (fun n s'=>∃i σ' H',Inv X Xbr σ' H' s'/\tn i s'.heap/\(∀b∈fp,H' b=none)/\W i n σ' H') ?_ m0 ⟨0,σ,H2,I2,st2,fun b hb=>(f2 b hb).1,w0⟩
 rintro n s3 ⟨i,σ3,H3,I3,st3,fr3,w3⟩
 rcases turn i n σ3 H3 w3 with ⟨stop,qn⟩|⟨go,N,hN,step⟩
 ·refine wpAny_passesOwn hp (thn (T.done X rfl rfl rfl hc i Xbr s3 σ3 H3 X.xe I3 (stat fr3) st3 stop) fun r s4 ⟨hr,I4⟩=>?_)
  subst hr;exact wpAny_execs_nil ⟨σ3,H3,I4,qn⟩
 ·refine wpAny_passesOwn hp (thn (T.item X rfl rfl rfl hc i Xbr s3 σ3 H3 X.xe I3 (stat fr3) st3 go) fun r s4 ⟨u,hr,h4⟩=>?_)
  subst hr;refine wpAny_passesOwn hp (thn h4 fun _ s5 ⟨x,H5,I5,r5,y5,st5,fr5⟩=>?_)
  have I5':=I5.pinned (stat fr5) (T.obj _ _ st5)
  refine wpAny_passesOwn hp (thn (hg _ s5 σ3 H5 x u _ I5' r5 (step x H5 y5)) fun _ s6 ⟨σ6,H6,I6,q6⟩=>?_)
  refine wpAny_passesOwn hp (thn (hb _ s6 σ6 H6 _ I6 q6) fun f s7 q7=>?_)
  have again:∀{σ7:St} {H7:Hp},Inv X (Xbr++ZiI fp s5.heap) σ7 H7 s7->N σ7 H7->∃m,m<n/\∃i σ' H',Inv X Xbr σ' H' s7/\tn i s7.heap/\(∀b∈fp,H' b=none)/\W i m σ' H':=fun{σ7 H7} I7 n7=>by
   obtain⟨m',hm,w7⟩:=hN σ7 H7 n7
   refine⟨m',hm,i+1,σ7,H7,I7.unpinned,T.keep _ _ _ st5 fun b hb o e=>(I7.pin (b,o) (XJ _ (XJ _ (Ze6 hb e)))).1,fun b hb=>?_,w7⟩
   obtain⟨o,e,d⟩:=T.obj _ _ st5 b hb
   exact(I7.pin (b,o) (XJ _ (XJ _ (Ze6 hb e)))).2.1
  cases f with
  |next=>obtain⟨σ7,H7,I7,n7⟩:=q7;exact again I7 n7
  |cont=>obtain⟨σ7,H7,I7,n7⟩:=q7;exact again I7 n7
  |brk=>obtain⟨σ7,H7,I7,q7⟩:=q7;exact⟨σ7,H7,I7.unpinned,q7⟩
  |ret v=>obtain⟨x7,σ7,H7,I7,r7,q7⟩:=q7;exact⟨x7,σ7,H7,I7.unpinned,r7,q7⟩
end
abbrev R2:=V->V->Hp->VK->Prop
def OpR (X:Cx)(f:Value->Value->Sem Value)(r:R2):Prop :=
 ∀(Xbr:List (Addr×Obj)) (s:Shared) (σ:St) (H:Hp) (x y:V) (v u:Value) (Q:VK),Inv X Xbr σ H s->Zbl x v->Zbl y u->r x y H Q ->
  wpAny (model X.prog X.w) X.A (f v u) (EP X Xbr σ Q) X.xe s
def UnR (X:Cx)(f:Value->Sem Value)(r:V->Hp->VK->Prop):Prop :=
 ∀(Xbr:List (Addr×Obj)) (s:Shared) (σ:St) (H:Hp) (x:V) (v:Value) (Q:VK),Inv X Xbr σ H s->Zbl x v->r x H Q ->
  wpAny (model X.prog X.w) X.A (f v) (EP X Xbr σ Q) X.xe s
def Zd1 (X:Cx)(f:Value)(r:List V->Hp->VK->Prop):Prop :=
 ∀(Xbr:List (Addr×Obj)) (s:Shared) (σ:St) (H:Hp) (xs:List V) (us:List Value) (Q:VK),Inv X Xbr σ H s->Zb7 xs us->r xs H Q ->
  wpAny (model X.prog X.w) X.A (call f us) (EP X Xbr σ Q) X.xe s
def Zvt (X:Cx)(r:V->Hp->(Bool->Hp->Prop)->Prop):Prop :=
 ∀(Xbr:List (Addr×Obj)) (s:Shared) (σ:St) (H:Hp) (x:V) (v:Value) (Q:Bool->Hp->Prop),Inv X Xbr σ H s->Zbl x v->r x H Q ->
  wpAny (model X.prog X.w) X.A (truthy v) (TP X Xbr σ Q) X.xe s
def tOp (r:R2)(ta tb:TE):TE:=fun σ H Q=>ta σ H fun x H1=>tb σ H1 fun y H2=>r x y H2 Q
def tUn (r:V->Hp->VK->Prop)(ta:TE):TE:=fun σ H Q=>ta σ H fun x H1=>r x H1 Q
def rI (C:Int->Int->Prop)(g:Int->Int->V):R2:=fun x y H Q=>∃i j,x=.int i/\y=.int j/\C i j/\Q (g i j) H
def rI0 (g:Int->Int->V):R2:=fun x y H Q=>∃i j,x=.int i/\y=.int j/\Q (g i j) H
def rU (g:Int->V):V->Hp->VK->Prop:=fun x H Q=>∃i,x=.int i/\Q (g i) H
section
variable {X:Cx}{a b c:Expr}{ta tb tc:TE}{pos:Pos}
theorem Zu4 (ha:PE X a ta)(hb:PE X b tb){Xbr:List (Addr×Obj)}{s:Shared}{σ:St}{H:Hp}{R:V->V->Hp->Prop}(I:Inv X Xbr σ H s)
 (h:ta σ H fun x H1=>tb σ H1 fun y H2=>R x y H2) {Q:Value->Shared->Prop} {f:Value->Value->Sem Value}
 (hf:∀v u s2 x y H2,Inv X Xbr σ H2 s2->Zbl x v->Zbl y u->R x y H2->wpAny (model X.prog X.w) X.A (f v u) Q X.xe s2) :
 wpAny (model X.prog X.w) X.A (eval a X.env) (fun v s₁=>wpAny (model X.prog X.w) X.A (eval b X.env) (fun u s₂=>wpAny (model X.prog X.w) X.A (f v u) Q X.xe s₂) X.xe s₁) X.xe s:=by
 refine thn (ha Xbr s σ H _ I h) fun v s1 ⟨x,H1,I1,r1,q1⟩=>?_
 refine thn (hb Xbr s1 σ H1 _ I1 q1) fun u s2 ⟨y,H2,I2,r2,q2⟩=>?_
 exact hf v u s2 x y H2 I2 r1 r2 q2
theorem Zat {op:Operator}{r:R2}(ho:OpR X (binaryOp op) r)(ha:PE X a ta)(hb:PE X b tb):PE X (.BinOp a op b pos) (tOp r ta tb):=by
 intro Xbr s σ H Q I h;exact wpAny_BinOp (Zu4 ha hb I h fun v u s2 x y H2 I2 rx ry q=>ho Xbr s2 σ H2 x y v u Q I2 rx ry q)
theorem ZuC {op:UnaryOp}{r:V->Hp->VK->Prop}(ho:UnR X (unaryOp op) r)(ha:PE X a ta):PE X (.UnaryOp op a pos) (tUn r ta):=by
 intro Xbr s σ H Q I h;exact UnaryOp_ (thn (ha Xbr s σ H _ I h) fun v s1 ⟨x,H1,I1,r1,q1⟩=>ho Xbr s1 σ H1 x v Q I1 r1 q1)
theorem opI {f:Value->Value->Sem Value}{C:Int->Int->Prop}{g:Int->Int->Int}
 (rule:∀(i j:Int) (t u:Tok) (s:Shared) (Q:Value->Shared->Prop) (E:Value->Shared->Prop),C i j->Q (.int (g i j) s.toks) { s with toks:=s.toks+1 }->wpAny (model X.prog X.w) X.A (f (.int i t) (.int j u)) Q E s) :
 OpR X f (rI C fun i j=>.int (g i j)):=by
 intro Xbr s σ H x y v u Q I rx ry h;obtain⟨i,j,rfl,rfl,hc,q⟩:=h
 obtain⟨t,rfl⟩:=rx
 obtain⟨t',rfl⟩:=ry
 exact rule i j t t' s _ _ hc ⟨.int (g i j),H,I.tok _,⟨_,rfl⟩,q⟩
theorem Zuw {f:Value->Value->Sem Value}{g:Int->Int->Int}
 (rule:∀(i j:Int) (t u:Tok) (s:Shared) (Q:Value->Shared->Prop) (E:Value->Shared->Prop),Q (.int (g i j) s.toks) { s with toks:=s.toks+1 }->wpAny (model X.prog X.w) X.A (f (.int i t) (.int j u)) Q E s) :
 OpR X f (rI0 fun i j=>.int (g i j)):=by
 intro Xbr s σ H x y v u Q I rx ry h;obtain⟨i,j,rfl,rfl,q⟩:=h
 obtain⟨t,rfl⟩:=rx
 obtain⟨t',rfl⟩:=ry
 exact rule i j t t' s _ _ ⟨.int (g i j),H,I.tok _,⟨_,rfl⟩,q⟩
theorem ZuJ {f:Value->Value->Sem Value}{g:Int->Int->Bool}
 (rule:∀(i j:Int) (t u:Tok) (s:Shared) (Q:Value->Shared->Prop) (E:Value->Shared->Prop),Q (.bool (g i j)) s->wpAny (model X.prog X.w) X.A (f (.int i t) (.int j u)) Q E s) :
 OpR X f (rI0 fun i j=>.bl (g i j)):=by
 intro Xbr s σ H x y v u Q I rx ry h;obtain⟨i,j,rfl,rfl,q⟩:=h
 obtain⟨t,rfl⟩:=rx
 obtain⟨t',rfl⟩:=ry
 exact rule i j t t' s _ _ ⟨.bl (g i j),H,I,rfl,q⟩
def ZuP (i j:Int):Prop:=0<=j/\j<=1000000/\i.natAbs<2^64
def ZtM (i j:Int):Prop:=(-(2^64)<i/\i<2^64)\/(-(2^64)<j/\j<2^64)
theorem ZtM.ok {i j:Int}(h:ZtM i j):IntMulOk i j:=by
 rcases h with ⟨h1,h2⟩|⟨h1,h2⟩
 ·exact .of_left (intBits_le_64 h1 h2)
 ·exact .of_right (intBits_le_64 h1 h2)
theorem Zch:OpR X (binaryOp .Add) (rI0 fun i j=>.int (i+j)):=Zuw fun _ _ _ _ _ _ _ q=>add_int q
theorem Zg4:OpR X (binaryOp .Sub) (rI0 fun i j=>.int (i-j)):=Zuw fun _ _ _ _ _ _ _ q=>sub_int q
theorem ZfR:OpR X (binaryOp .Mult) (rI ZtM fun i j=>.int (i*j)):=opI fun _ _ _ _ _ _ _ hc q=>mul_int q hc.ok
theorem Zb5:OpR X (binaryOp .Mod) (rI (fun _ j=>0<j) fun i j=>.int (i%j)):=opI fun i j _ _ _ _ _ hc q=>by
 have h1:(0:Int)<j:=hc
 exact mod_int' (by omega) (by rw[Int.fmod_eq_emod_of_nonneg i (by omega)];exact q)
theorem ZqP:OpR X (binaryOp .Pow) (rI ZuP fun i j=>.int (i^j.toNat)):=opI fun _ _ _ _ _ _ _ hc q=>pow_int_small hc.1 hc.2.1 hc.2.2 q
theorem Zn5:OpR X (binaryOp .BitXor) (rI0 fun i j=>.int (Builtin.bitXor i j)):=Zuw fun _ _ _ _ _ _ _ q=>xor_int q
theorem unI {f:Value->Sem Value}{g:Int->Int}
 (rule:∀(i:Int) (t:Tok) (s:Shared) (Q:Value->Shared->Prop) (E:Value->Shared->Prop),Q (.int (g i) s.toks) { s with toks:=s.toks+1 }->wpAny (model X.prog X.w) X.A (f (.int i t)) Q E s) :
 UnR X f (rU fun i=>.int (g i)):=by
 intro Xbr s σ H x v Q I rx h;obtain⟨i,rfl,q⟩:=h
 obtain⟨t,rfl⟩:=rx
 exact rule i t s _ _ ⟨.int (g i),H,I.tok _,⟨_,rfl⟩,q⟩
theorem Ztq:UnR X (unaryOp .USub) (rU fun i=>.int (-i)):=unI fun _ _ _ _ _ q=>neg_int q
end
def Zvd:V->V->Bool
 |.non,.non=>true|.non,.int _=>true|.int _,.non=>true|.non,.bl _=>true|.bl _,.non=>true|.non,.str _=>true|.str _,.non=>true
 |.int _,.int _=>true|.bl _,.bl _=>true|.str _,.str _=>true|.byt _,.byt _=>true
 |.int _,.str _=>true|.str _,.int _=>true|.bl _,.str _=>true|.str _,.bl _=>true
 |_,_=>false
def rEq:R2:=fun x y H Q=>Zvd x y=true/\Q (.bl (decide (x=y))) H
def rNe:R2:=fun x y H Q=>Zvd x y=true/\Q (.bl (!decide (x=y))) H
theorem ZnP {i j:Int}:decide (V.int i=V.int j)=(i==j):=by
 rw[XaO];simp
theorem ZqG {i j:Bool}:decide (V.bl i=V.bl j)=(i==j):=by
 rw[XaO];simp
theorem ZoM {i j:Str}:decide (V.str i=V.str j)=(i==j):=by
 rw[XaO];simp
theorem ZnO {i j:Array UInt8}:decide (V.byt i=V.byt j)=(i.toList==j.toList):=by
 rw[XaO];cases i
 cases j
 simp
section
variable {X:Cx}{a b c:Expr}{ta tb tc:TE}{pos:Pos}
theorem Zbd {Xbr:List (Addr×Obj)}{σ:St}{H:Hp}{s:Shared}{Q:VK}{k k':Bool}(I:Inv X Xbr σ H s)(q:Q (.bl k) H)(e:k=k'):EP X Xbr σ Q (.bool k') s:=by
 subst e;exact⟨.bl k,H,I,rfl,q⟩
theorem ZrI:OpR X (compareOp .Eq) rEq:=by
 intro Xbr s σ H x y v u Q I rx ry h;obtain⟨hs,q⟩:=h
 cases x with
 |non =>
   cases rx
   cases y with
   |non=>cases ry;exact PySem.EqNone.eq_none_none (Zbd I q (by simp))
   |bl j=>cases ry;exact PySem.EqNone.eq_none_bool (Zbd I q (by simp))
   |int j=>obtain⟨t',rfl⟩:=ry;exact PySem.EqNone.eq_none_int (Zbd I q (by simp))
   |str j=>obtain⟨t',rfl⟩:=ry;exact PySem.EqNone.eq_none_str (Zbd I q (by simp))
   |_=>exact Xp (show false=true from hs) Xq
 |bl i =>
   cases rx
   cases y with
   |non=>cases ry;exact PySem.EqNone.eq_bool_none (Zbd I q (by simp))
   |bl j=>cases ry;exact eq_bool (Zbd I q ZqG)
   |str j=>obtain⟨t',rfl⟩:=ry;exact PySem.EqMixed.eq_bool_str (Zbd I q (by simp))
   |_=>exact Xp (show false=true from hs) Xq
 |int i =>
   obtain⟨t,rfl⟩:=rx
   cases y with
   |non=>cases ry;exact PySem.EqNone.eq_int_none (Zbd I q (by simp))
   |int j=>obtain⟨t',rfl⟩:=ry;exact eq_int (Zbd I q ZnP)
   |str j=>obtain⟨t',rfl⟩:=ry;exact PySem.EqMixed.eq_int_str (Zbd I q (by simp))
   |_=>exact Xp (show false=true from hs) Xq
 |str i =>
   obtain⟨t,rfl⟩:=rx
   cases y with
   |non=>cases ry;exact PySem.EqNone.eq_str_none (Zbd I q (by simp))
   |bl j=>cases ry;exact PySem.EqMixed.eq_str_bool (Zbd I q (by simp))
   |int j=>obtain⟨t',rfl⟩:=ry;exact PySem.EqMixed.eq_str_int (Zbd I q (by simp))
   |str j=>obtain⟨t',rfl⟩:=ry;exact eq_str (Zbd I q ZoM)
   |_=>exact Xp (show false=true from hs) Xq
 |byt i =>
   obtain⟨t,rfl⟩:=rx
   cases y with
   |byt j=>obtain⟨t',rfl⟩:=ry;exact W.eq_bytes (Zbd I q ZnO)
   |_=>exact Xp (show false=true from hs) Xq
 |_=>cases y<;>exact Xp (show false=true from hs) Xq
theorem Zuc:OpR X (compareOp .NotEq) rNe:=by
 intro Xbr s σ H x y v u Q I rx ry h;obtain⟨hs,q⟩:=h
 cases x with
 |non =>
   cases rx
   cases y with
   |non=>cases ry;exact PySem.EqNone.ne_none_none (Zbd I q (by simp))
   |bl j=>cases ry;exact PySem.EqNone.ne_none_bool (Zbd I q (by simp))
   |int j=>obtain⟨t',rfl⟩:=ry;exact PySem.EqNone.ne_none_int (Zbd I q (by simp))
   |str j=>obtain⟨t',rfl⟩:=ry;exact PySem.EqNone.ne_none_str (Zbd I q (by simp))
   |_=>exact Xp (show false=true from hs) Xq
 |bl i =>
   cases rx
   cases y with
   |non=>cases ry;exact PySem.EqNone.ne_bool_none (Zbd I q (by simp))
   |bl j=>cases ry;exact ne_bool (Zbd I q (Xaf not ZqG))
   |str j=>obtain⟨t',rfl⟩:=ry;exact PySem.EqMixed.ne_bool_str (Zbd I q (by simp))
   |_=>exact Xp (show false=true from hs) Xq
 |int i =>
   obtain⟨t,rfl⟩:=rx
   cases y with
   |non=>cases ry;exact PySem.EqNone.ne_int_none (Zbd I q (by simp))
   |int j=>obtain⟨t',rfl⟩:=ry;exact ne_int (Zbd I q (Xaf not ZnP))
   |str j=>obtain⟨t',rfl⟩:=ry;exact PySem.EqMixed.ne_int_str (Zbd I q (by simp))
   |_=>exact Xp (show false=true from hs) Xq
 |str i =>
   obtain⟨t,rfl⟩:=rx
   cases y with
   |non=>cases ry;exact PySem.EqNone.ne_str_none (Zbd I q (by simp))
   |bl j=>cases ry;exact PySem.EqMixed.ne_str_bool (Zbd I q (by simp))
   |int j=>obtain⟨t',rfl⟩:=ry;exact PySem.EqMixed.ne_str_int (Zbd I q (by simp))
   |str j=>obtain⟨t',rfl⟩:=ry;exact ne_str (Zbd I q (Xaf not ZoM))
   |_=>exact Xp (show false=true from hs) Xq
 |byt i =>
   obtain⟨t,rfl⟩:=rx
   cases y with
   |byt j=>obtain⟨t',rfl⟩:=ry;exact W.ne_bytes (Zbd I q (Xaf not ZnO))
   |_=>exact Xp (show false=true from hs) Xq
 |_=>cases y<;>exact Xp (show false=true from hs) Xq
theorem Zo7:OpR X (compareOp .Lt) (rI0 fun i j=>.bl (decide (i<j))):=ZuJ fun _ _ _ _ _ _ _ q=>lt_int q
theorem Zmq:OpR X (compareOp .LtE) (rI0 fun i j=>.bl (decide (i<=j))):=ZuJ fun _ _ _ _ _ _ _ q=>le_int q
theorem Zmc:OpR X (compareOp .Gt) (rI0 fun i j=>.bl (decide (j<i))):=ZuJ fun _ _ _ _ _ _ _ q=>gt_int q
theorem ZbT (b:Expr){op:CmpOp}(h:op≠.In:=by decide)(h2:op≠.NotIn:=by decide):behindInMarks op b=false:=by
 have e1:(op==CmpOp.In)=false:=by cases op<;>first|rfl|exact Xp rfl h
 have e2:(op==CmpOp.NotIn)=false:=by cases op<;>first|rfl|exact Xp rfl h2
 cases b<;>simp[behindInMarks,e1,e2]
theorem ZjY {op:CmpOp}{r:R2}(ho:OpR X (compareOp op) r)(ha:PE X a ta)(hb:PE X b tb)(hm:behindInMarks op b=false):PE X (.Compare a [op] [b] pos) (tOp r ta tb):=by
 intro Xbr s σ H Q I h;exact wpAny_Compare1 (Zu4 ha hb I h fun v u s2 x y H2 I2 rx ry q=>ho Xbr s2 σ H2 x y v u Q I2 rx ry q) hm
def Zpi (t:TE):TT:=fun σ H Q=>t σ H fun x H'=>∃k,x=.bl k/\Q k H'
theorem Zbm {op:CmpOp}{r:R2}(ho:OpR X (compareOp op) r)(ha:PE X a ta)(hb:PE X b tb)(hm:behindInMarks op b=false):PT X (.Compare a [op] [b] pos) (Zpi (tOp r ta tb)):=by
 intro Xbr s σ H Q I h;refine wpAny_isTrue_Compare1 (thn (ha Xbr s σ H _ I h) fun v s1 ⟨x,H1,I1,r1,q1⟩=>thn (hb Xbr s1 σ H1 _ I1 q1) fun u s2 ⟨y,H2,I2,r2,q2⟩ =>
  thn (ho Xbr s2 σ H2 x y v u _ I2 r1 r2 q2) fun c s3 ⟨z,H3,I3,r3,k,e,q3⟩=>?_) hm
 subst e;cases r3
 exact wpAny_truthy_bool ⟨H3,I3,q3⟩
def ZnL (r r':R2)(ta tb tc:TE):TE:=fun σ H Q=>ta σ H fun x H1=>tb σ H1 fun y H2=>r x y H2 fun z H3=>∃k,z=.bl k /\
 (if k=true then tc σ H3 fun w' H4=>r' y w' H4 Q else Q (.bl false) H3)
theorem ZkY {op op':CmpOp}{r r':R2}(ho:OpR X (compareOp op) r)(ho':OpR X (compareOp op') r')(ha:PE X a ta)(hb:PE X b tb)(hc:PE X c tc)
 (hm:lastMarks [op,op'] [b,c]=false:=by with_unfolding_all rfl):PE X (.Compare a [op,op'] [b,c] pos) (ZnL r r' ta tb tc):=by
 intro Xbr s σ H Q I h;refine Compare_chain (thn (ha Xbr s σ H _ I h) fun v s1 ⟨x,H1,I1,r1,q1⟩=>chain_link (thn (hb Xbr s1 σ H1 _ I1 q1) fun u s2 ⟨y,H2,I2,r2,q2⟩ =>
  thn (ho Xbr s2 σ H2 x y v u _ I2 r1 r2 q2) fun d s3 ⟨z,H3,I3,r3,k,e,q3⟩=>?_)) hm
 subst e;cases r3
 refine wpAny_truthy_bool ?_
 cases k with
 |false=>exact ite_ff ⟨.bl false,H3,I3,rfl,q3⟩
 |true=>exact ite_tt (chain_last (thn (hc Xbr s3 σ H3 _ I3 q3) fun w' s4 ⟨z',H4,I4,r4,q4⟩=>ho' Xbr s4 σ H4 y z' u w' Q I4 r2 r4 q4))
theorem Zpb {op op':CmpOp}{r r':R2}(ho:OpR X (compareOp op) r)(ho':OpR X (compareOp op') r')(ha:PE X a ta)(hb:PE X b tb)(hc:PE X c tc)
 (hm:lastMarks [op,op'] [b,c]=false:=by with_unfolding_all rfl):PT X (.Compare a [op,op'] [b,c] pos) (Zpi (ZnL r r' ta tb tc)):=by
 intro Xbr s σ H Q I h;refine isTrue_chain (thn (ha Xbr s σ H _ I h) fun v s1 ⟨x,H1,I1,r1,q1⟩=>test_link (thn (hb Xbr s1 σ H1 _ I1 q1) fun u s2 ⟨y,H2,I2,r2,q2⟩ =>
  thn (ho Xbr s2 σ H2 x y v u _ I2 r1 r2 q2) fun d s3 ⟨z,H3,I3,r3,k,e,q3⟩=>?_)) hm
 subst e;cases r3
 refine wpAny_truthy_bool ?_
 cases k with
 |false =>
   obtain⟨k',e',q'⟩:=q3
   cases e'
   exact ite_ff ⟨H3,I3,q'⟩
 |true =>
   refine ite_tt (test_last (thn (hc Xbr s3 σ H3 _ I3 q3) fun w' s4 ⟨z',H4,I4,r4,q4⟩=>thn (ho' Xbr s4 σ H4 y z' u w' _ I4 r2 r4 q4) fun d' s5 ⟨z2,H5,I5,r5,k2,e2,q5⟩=>?_))
   subst e2;cases r5
   exact wpAny_truthy_bool ⟨H5,I5,q5⟩
def ZuL (K:W.Frag)(x:V)(H:Hp)(k:Bool):Prop :=
 match x with
 |.non=>k=false
 |.bl b=>k=b
 |.int i=>k=(i != 0)
 |.str y=>y.length<=sizeLine/\k=((y.length:Int) != 0)
 |.byt y=>y.size<=sizeLine/\k=((y.size:Int) != 0)
 |.ref p=>(∃xs,SqL K H p xs/\k = !xs.isEmpty)\/(∃xs,SqT K H p xs/\k = !xs.isEmpty)\/∃kvs,H p=some (.dK kvs)/\k = !kvs.isEmpty
 |_=>False
theorem Zma {κ:Type}{kvs:List (κ×V)}{vs:List (κ×Value)}(r:KV kvs vs):(!vs.isEmpty) = !kvs.isEmpty:=by
 cases r<;>rfl
theorem Zhv {xs:List V}{its:List Value}(r:Zb7 xs its):(!its.toArray.isEmpty) = !xs.isEmpty:=by
 cases r<;>simp
theorem Zgt:(sizeLine:Nat)<2^63:=by rw[sizeLine_eq];decide
theorem Zty:Zvt X (fun x H Q=>∃k,ZuL X.K x H k/\Q k H):=by
 intro Xbr s σ H x v Q I rx h;obtain⟨k,e,q⟩:=h
 have hl:=Zgt
 have hs:sizeLine=16777216:=sizeLine_eq
 cases x with
 |non =>
   cases rx
   have e':k=false:=e
   subst e';exact truthy_none ⟨H,I,q⟩
 |bl b =>
   cases rx
   have e':k=b:=e
   subst e';exact wpAny_truthy_bool ⟨H,I,q⟩
 |int i =>
   obtain⟨t,rfl⟩:=rx
   have e':k=(i != 0):=e
   subst e';exact PySem.P.truthy_int ⟨H,I,q⟩
 |str y =>
   obtain⟨t,rfl⟩:=rx
   obtain⟨hy,e'⟩:y.length<=sizeLine/\k=((y.length:Int) != 0):=e
   subst e';exact PySem.P.truthy_str (by omega) ⟨H,I.tok _,q⟩
 |byt y =>
   obtain⟨t,rfl⟩:=rx
   obtain⟨hy,e'⟩:y.size<=sizeLine/\k=((y.size:Int) != 0):=e
   subst e';exact W.truthy_bytes (by omega) ⟨H,I.tok _,q⟩
 |ref p =>
   cases rx
   have e':(∃xs,SqL X.K H p xs/\k = !xs.isEmpty)\/(∃xs,SqT X.K H p xs/\k = !xs.isEmpty)\/∃kvs,H p=some (.dK kvs)/\k = !kvs.isEmpty:=e
   rcases e' with ⟨xs,hx,e'⟩|⟨xs,hx,e'⟩|⟨kvs,hx,e'⟩
   ·subst e'
    obtain⟨its,r,pl,hz⟩:=I.list hx
    have hlen:=r.length
    exact wpAny_truthy_list pl.isList (by simp only[XC];omega) ⟨H,I.tok _,by rw[Zhv r];exact q⟩
   ·subst e'
    obtain⟨its,r,pl,hz⟩:=I.tuple hx
    have hlen:=r.length
    exact truthy_tuple pl (by simp only[XC];omega) ⟨H,I.tok _,by rw[Zhv r];exact q⟩
   ·subst e'
    obtain⟨hz,hS,vs,r,m⟩:kvs.length<=sizeLine/\(p==sysModules)=false/\∃vs,KV kvs vs/\s.heap.DictOf (Zbh X.prog X.w) p vs:=I.hok p _ hx
    have hlen:kvs.length=vs.length:=Paired.length r
    exact wpAny_truthy_dict hS m (by omega) ⟨H,I.tok _,by rw[Zma r];exact q⟩
 |_=>exact(show False from e).elim
theorem ZkU (ha:PE X a ta)(he:∀whole,isTrue a X.env whole=(do let v <- whole;standAt a.pos;holding [v] (truthy v))) :
 PT X a (fun σ H Q=>ta σ H fun x H'=>∃k,ZuL X.K x H' k/\Q k H'):=by
 intro Xbr s σ H Q I h;exact isTrue_plain (thn (ha Xbr s σ H _ I h) fun v s1 ⟨x,H1,I1,r1,q1⟩=>Zty Xbr s1 σ H1 x v Q I1 r1 q1) (he _)
theorem Zhf {x:V}{us:List Value}(r:Zb7 [x] us):∃u,us=[u]/\Zbl x u:=by
 cases r with
 |cons r1 r2=>cases r2;exact⟨_,rfl,r1⟩
theorem ZpO {x y:V}{us:List Value}(r:Zb7 [x,y] us):∃u w',us=[u,w']/\Zbl x u/\Zbl y w':=by
 cases r with
 |cons r1 r2 =>
   cases r2 with
   |cons r3 r4=>cases r4;exact⟨_,_,rfl,r1,r3⟩
theorem Zqk:Zd1 X (.builtin "abs") (fun xs H Q=>∃i,xs=[.int i]/\Q (.int (if i<0 then -i else i)) H):=by
 intro Xbr s σ H xs us Q I r h;obtain⟨i,rfl,q⟩:=h
 obtain⟨u,rfl,t,rfl⟩:=Zhf r
 exact call_abs_int fun u tk=>⟨.int (if i<0 then -i else i),H,I.tok _,⟨_,rfl⟩,q⟩
theorem Zod (hc:X.calm=true):Zd1 X (.builtin "max") (fun xs H Q=>∃i j,xs=[.int i,.int j]/\Q (.int (if j > i then j else i)) H):=by
 intro Xbr s σ H xs us Q I r h;obtain⟨i,j,rfl,q⟩:=h
 obtain⟨u,w',rfl,⟨t,rfl⟩,⟨t',rfl⟩⟩:=ZpO r
 refine max_two_ints (I.ok.hd hc) fun h' tk k=>⟨_,H,I.kept k,?_,q⟩
 by_cases hj:j > i
 ·rw[Xc hj,Xc hj];exact⟨_,rfl⟩
 ·rw[Xa hj,Xa hj];exact⟨_,rfl⟩
theorem Znf (hc:X.calm=true):Zd1 X (.builtin "min") (fun xs H Q=>∃i j,xs=[.int i,.int j]/\Q (.int (if j<i then j else i)) H):=by
 intro Xbr s σ H xs us Q I r h;obtain⟨i,j,rfl,q⟩:=h
 obtain⟨u,w',rfl,⟨t,rfl⟩,⟨t',rfl⟩⟩:=ZpO r
 refine min_two_ints (I.ok.hd hc) fun h' tk k=>⟨_,H,I.kept k,?_,q⟩
 by_cases hj:j<i
 ·rw[Xc hj,Xc hj];exact⟨_,rfl⟩
 ·rw[Xa hj,Xa hj];exact⟨_,rfl⟩
theorem ZmW:Zd1 X (.type "int") (fun xs H Q=>(∃i,xs=[.int i]/\Q (.int i) H)\/∃k,xs=[.bl k]/\Q (.int (if k then 1 else 0)) H):=by
 intro Xbr s σ H xs us Q I r h;rcases h with ⟨i,rfl,q⟩|⟨k,rfl,q⟩
 ·obtain⟨u,rfl,t,rfl⟩:=Zhf r
  exact call_int_int ⟨.int i,H,I,⟨_,rfl⟩,q⟩
 ·obtain⟨u,rfl,r1⟩:=Zhf r
  cases r1
  exact call_int_bool ⟨.int (if k then 1 else 0),H,I.tok _,⟨_,rfl⟩,q⟩
end
structure ObjM (h:Heap)(x dx C:Addr)(mA:Str->Option Value):Prop where
 obj:h.get? x=some (W.instObj C dx)
 ns:h.Ns1 dx mA
 ne:dx≠x
theorem Zn3 {h:Heap}{dx:Addr}{mA:Str->Option Value}(n:h.Ns1 dx mA):∃od,h.get? dx=some od/\∀name,W.lookIn name od=some (mA name):=by
 obtain⟨o,es,ep,ho,hd,hk,_,hm⟩:=n
 refine⟨o,ho,fun name=>?_⟩
 have e:=hm name
 unfold nsFind findBy at e;rw[<- Array.find?_toList]at e;unfold W.lookIn;rw[hd];dsimp only;split
 ·rename_i y q
  rw[q]at e;exact Xaf some e
 ·rename_i q
  rw[q]at e;have a:es.toList.any (·.refKey)=false:=by
   rw[List.any_eq_false];intro y hy;obtain⟨z,t,hkey⟩:=hk y (Array.mem_toList_iff.mp hy)
   simp[DictEntry.refKey,hkey]
  have a':¬es.toList.any (·.refKey)=true:=by rw[a];exact Xq
  rw[Xa a'];exact Xaf some e
theorem ObjM.look {h:Heap}{x dx C:Addr}{mA:Str->Option Value}(I:ObjM h x dx C mA):∃od,W.InstAt h x (W.instObj C dx) C (some od)/\∀name,W.lookIn name od=some (mA name) :=
 let ⟨od,ho,hl⟩:=Zn3 I.ns
 ⟨od,⟨I.obj,rfl,rfl,ho⟩,hl⟩
section
variable {prog:Program}{w:World}{A:Around}{E:Value->Shared->Prop}{s:Shared}{K:W.Frag}{x dx C f:Addr}{mA:Str->Option Value}{name:Str}{v:Value}
theorem Zsq {expr:Bool}{Q:Value->Shared->Prop}(X:K.In s.heap)(I:ObjM s.heap x dx C mA)(hg:W.plainGet K C name=true)(hh:W.hasDictIn K C=true)
 (ha:W.findIn K (.ref C) name=some none) (hv:mA name=some v) (hv':W.handedIn v=true) (h:Q v { s with toks:=s.toks+1 }) :
 wpAny (model prog w) A (getAttr (.ref x) name expr) Q E s:=by
 obtain⟨od,J,hl⟩:=I.look
 exact W.get_value X J (W.plainGet_of hg).1 (W.findObj_own hh ha rfl (by rw[hl,hv])) hv' h
theorem Zp3 {pl:Sem Bool}{Q:Value×List Value->Shared->Prop}(X:K.In s.heap)(I:ObjM s.heap x dx C mA)(hg:W.plainGet K C name=true)
 (hf:W.findIn K (.ref C) name=some (some (.ref f))) (ht:W.isFn K (.ref f)=true) (hv:mA name=none) (h:Q (.ref f,[.ref x]) s) :
 wpAny (model prog w) A (getMethod (.ref x) name pl) Q E s:=by
 obtain⟨od,J,hl⟩:=I.look
 exact W.method_fn X J (W.plainGet_of hg).1 (W.plainGet_of hg).2 hf (beq_iff_eq.mp ht) (by show(W.lookIn name od).map (·.isSome)=some false;rw[hl,hv];rfl) h
theorem Zs1 {ns:List Str}{Q:Unit->Shared->Prop}(X:K.In s.heap)(I:ObjM s.heap x dx C mA)
 (hs:W.findIn K (.ref C) "__setattr__"=some (some (.builtin "object.__setattr__"))) (hp:W.plainOver K C=true) (ht:W.takerIn K C name=some none) (hh:W.hasDictIn K C=true)
 (hw:PySem.Within mA ns) (hsz:ns.length<=sizeLine)
 (h:∀h',ObjM h' x dx C (fun y=>if y=name then some v else mA y)->Heap.SameBut dx s.heap h'->Q () { s with heap:=h',toks:=s.toks+2 }) :
 wpAny (model prog w) A (setAttr (.ref x) name v) Q E s:=by
 obtain⟨od,J,hl⟩:=I.look
 refine W.set_plain X J hs (W.osa_open (s:={ s with toks:=s.toks+1 }) (r:=none) X J hp ht fun b=>?_)
 obtain⟨cd,hc,hd'⟩:=W.any_some hh
 have hx:s.heap.get? x=some ⟨.ref C,some dx,.plain,#[]⟩:=I.obj
 refine Xh (XB (Xh (Xh (wpAny_loadPart hx (Xh (W.Looks.here (s:={ s with toks:=s.toks+1 }) (W.looks_clsIn X hc) ?_))))))
 rw[hd'];refine XB (a:=some dx) (Xh (XB (Xh ?_)))
 refine wpAny_nsSet1 (s:={ s with toks:=s.toks+1 }) I.ns fun h' hn2 hs2=>?_
 obtain⟨oD,esD,epD,hoD,hdD,hcD⟩:=hn2.count (PySem.Within.cons name v hw)
 refine Xh (wpAny_lookBehind hoD (by rw[hdD];exact pastItsLine_dict (XS hcD (by rw[XW];omega))) ?_)
 exact XB (h _ ⟨(hs2.2 _ (Ne.symm I.ne)).trans I.obj,hn2,I.ne⟩ hs2)
theorem ZpE {R:Result->Shared->Prop}{vs:List Value}{kw:List (Str×Value)}(X:K.In s.heap)(hm:W.makesIn K C=true)
 (hi:W.findIn K (.ref C) "__init__"=some (some (.ref f))) (hf:W.typeIn K (.ref f)=some (.type "function"))
 (h:codeAny (model prog w) (A.under (.builtin "type.__call__" ⟨.ref C::vs,kw⟩)) (.call (.ref f) ⟨.ref (s.heap.objs.size+1)::vs,kw⟩) (W.InitBack (s.heap.objs.size+1) R)
  { s with heap:=(s.heap.push W.emptyDict).push (W.instObj C s.heap.objs.size) }) :
 codeAny (model prog w) A (.call (.ref C) ⟨vs,kw⟩) R s:=by
 obtain⟨hh,g,d,t,os⟩:=s
 exact W.make_core (W.makes_of X hm) (W.looks_findIn X hi) (fun self=>W.bind_fn X self hf) (.inl rfl) h
end
def ZjL (f:Str)(v:V):List (Str×V)->List (Str×V)
 |[]=>[(f,v)]
 |(g,x)::r=>if g=f then (g,v)::r else (g,x)::ZjL f v r
theorem ZgM (f g:Str)(v:V):∀fs:List (Str×V),(ZjL f v fs).lookup g=if g=f then some v else fs.lookup g
 |[]=>by
   show List.lookup g [(f,v)]=_
   by_cases h:g=f
   ·have hb:(g==f)=true:=beq_iff_eq.mpr h
    simp only[List.lookup,hb,Xc h]
   ·have hb:(g==f)=false:=beq_eq_false_iff_ne.mpr h
    simp only[List.lookup,hb,Xa h]
 |(k,x)::r=>by
   have ih:=ZgM f g v r
   rw[show ZjL f v ((k,x)::r)=(if k=f then (k,v)::r else (k,x)::ZjL f v r) from rfl];by_cases hk:k=f
   ·rw[Xc hk]
    by_cases h:g=k
    ·have hb:(g==k)=true:=beq_iff_eq.mpr h
     simp only[List.lookup,hb,Xc (h.trans hk)]
    ·have hb:(g==k)=false:=beq_eq_false_iff_ne.mpr h
     simp only[List.lookup,hb,Xa (fun e:g=f=>h (e.trans hk.symm))]
   ·rw[Xa hk]
    by_cases h:g=k
    ·have hb:(g==k)=true:=beq_iff_eq.mpr h
     simp only[List.lookup,hb,Xa (fun e:g=f=>hk (h.symm.trans e))]
    ·have hb:(g==k)=false:=beq_eq_false_iff_ne.mpr h
     simp only[List.lookup,hb];exact ih
theorem Zgy (f:Str)(v:V):∀fs:List (Str×V),f∈(ZjL f v fs).map (·.1)/\∀g,g∈fs.map (·.1)->g∈(ZjL f v fs).map (·.1)
 |[]=>⟨by simp[ZjL],fun g h=>by simp at h⟩
 |(k,x)::r=>by
   obtain⟨i1,i2⟩:=Zgy f v r
   rw[show ZjL f v ((k,x)::r)=(if k=f then (k,v)::r else (k,x)::ZjL f v r) from rfl];by_cases hk:k=f
   ·rw[Xc hk]
    subst hk;exact⟨by simp,fun g h=>by simpa using h⟩
   ·rw[Xa hk]
    refine⟨?_,fun g h=>?_⟩
    ·rw[Xr]
     exact Xd _ i1
    ·rw[Xr]at h ⊢
     rcases Xf.mp h with e|e
     ·exact Xf.mpr (.inl e)
     ·exact Xd _ (i2 g e)
theorem ZgI (f:Str)(v:V):∀fs:List (Str×V),(ZjL f v fs).length<=fs.length+1
 |[]=>by simp[ZjL]
 |(k,x)::r=>by
   have ih:=ZgI f v r
   rw[show ZjL f v ((k,x)::r)=(if k=f then (k,v)::r else (k,x)::ZjL f v r) from rfl];by_cases hk:k=f
   ·rw[Xc hk,XW,XW];omega
   ·rw[Xa hk,XW,XW];omega
theorem Zg8.some_of {v:V}{o:Option Value}(r:Zg8 (some v) o):∃u,o=some u/\Zbl v u:=by
 cases o with
 |none=>exact(show False from r).elim
 |some u=>exact⟨u,rfl,r⟩
theorem Zg8.none_of {o:Option Value}(r:Zg8 none o):o=none:=by
 cases o with
 |none=>rfl
 |some u=>exact(show False from r).elim
theorem ZnD {v:V}{u:Value}(r:Zbl v u):W.handedIn u=true:=by
 cases v with
 |non=>cases (show u=Value.none from r);rfl
 |bl b=>cases (show u=Value.bool b from r);rfl
 |int i=>obtain⟨t,e⟩:=(show ∃t,u=Value.int i t from r);cases e;rfl
 |str x=>obtain⟨t,e⟩:=(show ∃t,u=Value.str x t from r);cases e;rfl
 |byt b=>obtain⟨t,e⟩:=(show ∃t,u=Value.bytes b t from r);cases e;rfl
 |flt b=>obtain⟨t,e⟩:=(show ∃t,u=Value.float b t from r);cases e;rfl
 |ref a=>cases (show u=Value.ref a from r);rfl
 |ty n=>cases (show u=Value.type n from r);rfl
section
variable {P:Program}{w:World}{H H':Hp}{h h':Heap}{a C dx:Addr}{fs fs':List (Str×V)}
theorem ZjQ (hok:HOk P w H h)(e:H a=some (.ins C dx fs)):∃mA,ObjM h a dx C mA/\(∀f,Zg8 (fs.lookup f) (mA f))/\PySem.Within mA (fs.map (·.1))/\fs.length<=1000/\H dx=some (.own a):=by
 obtain⟨d,z,ne,ob,mA,n,r,q⟩:=(show Zcw P w H h a (.ins C dx fs) from hok a _ e)
 exact⟨mA,⟨ob,n,ne⟩,r,q,z,d⟩
end
structure Cls (K:W.Frag)(C:Addr):Prop where
 pg:W.plainGet K C Str.empty=true
 hd:W.hasDictIn K C=true
 po:W.plainOver K C=true
 sa:W.findIn K (.ref C) "__setattr__"=some (some (.builtin "object.__setattr__"))
theorem Cls.get {K:W.Frag}{C:Addr}(c:Cls K C)(f:Str):W.plainGet K C f=true:=c.pg
def Ze9 (K:W.Frag)(C:Addr)(f:Str):Prop:=W.findIn K (.ref C) f=some none
theorem Ze9.taker {K:W.Frag}{C:Addr}{f:Str}(n:Ze9 K C f):W.takerIn K C f=some none:=by
 unfold W.takerIn;rw[show W.findIn K (.ref C) f=some none from n];rfl
structure Meth (K:W.Frag)(C:Addr)(m:Str)(f:Addr):Prop where
 at_:W.findIn K (.ref C) m=some (some (.ref f))
 fn:W.isFn K (.ref f)=true
 kp:W.keepIn K (.ref f)=true
section
variable {X:Cx}{Xbr:List (Addr×Obj)}{σ:St}{H:Hp}{s:Shared}{a C dx:Addr}{fs:List (Str×V)}{f:Str}{v:V}{A:Around}{E:Value->Shared->Prop}
theorem ZlK {b:Bool}{Q:Value->Shared->Prop}(I:Inv X Xbr σ H s)(e:H a=some (.ins C dx fs))(c:Cls X.K C)(n:Ze9 X.K C f)(l:fs.lookup f=some v)
 (h:∀u s',Inv X Xbr σ H s'->Zbl v u->Q u s'):wpAny (model X.prog X.w) A (getAttr (.ref a) f b) Q E s:=by
 obtain⟨mA,O,r,_,_,_⟩:=ZjQ I.hok e
 obtain⟨u,hu,ru⟩:=Zg8.some_of (v:=v) (o:=mA f) (by rw[<- l];exact r f)
 exact Zsq I.kIn O (c.get f) c.hd n hu (ZnD ru) (h u _ (I.tok _) ru)
theorem Zmg {m:Str}{g:Addr}{pl:Sem Bool}{Q:Value×List Value->Shared->Prop}(I:Inv X Xbr σ H s)(e:H a=some (.ins C dx fs))(c:Cls X.K C)(k:Meth X.K C m g)(l:fs.lookup m=none)
 (h:Q (.ref g,[.ref a]) s):wpAny (model X.prog X.w) A (getMethod (.ref a) m pl) Q E s:=by
 obtain⟨mA,O,r,_,_,_⟩:=ZjQ I.hok e
 have hn:mA m=none:=Zg8.none_of (by rw[<- l];exact r m)
 exact Zp3 I.kIn O (c.get m) k.at_ k.fn hn h
theorem Zmb {y:V}{u:Value}{Q:Unit->Shared->Prop}(I:Inv X Xbr σ H s)(e:H a=some (.ins C dx fs))(c:Cls X.K C)(n:Ze9 X.K C f)(hl:fs.length<1000)(ry:Zbl y u)
 (h:∀s',Inv X Xbr σ (upd H a (.ins C dx (ZjL f y fs))) s'->Q () s'):wpAny (model X.prog X.w) A (setAttr (.ref a) f u) Q E s:=by
 obtain⟨mA,O,r,wi,_,ho⟩:=ZjQ I.hok e
 have hz:(fs.map (·.1)).length<=sizeLine:=by rw[Xj,sizeLine_eq];omega
 refine Zs1 I.kIn O c.sa c.po n.taker c.hd wi hz fun h' O' sb=>h _ ?_
 have hd:∃o,h'.get? dx=some o:=let ⟨o,_,_,e',_⟩:=O'.ns;⟨o,e'⟩
 refine I.write (x:=a) (e:=dx) (by rw[e];exact True.intro) (.inr ho) (fun b q hb z=>(sb.2 b hb).trans z) hd ?_
 refine⟨by rw[Zak O.ne];exact ho,?_,O.ne,O'.obj,_,O'.ns,fun g=>?_,fun g hg=>?_⟩
 ·have:=ZgI f y fs;omega
 ·show Zg8 ((ZjL f y fs).lookup g) (if g=f then some u else mA g)
  rw[ZgM];by_cases q:g=f
  ·rw[Xc q,Xc q];exact ry
  ·rw[Xa q,Xa q];exact r g
 ·by_cases q:g=f
  ·rw[q];exact(Zgy f y fs).1
  ·refine(Zgy f y fs).2 g (wi g fun z=>hg ?_)
   show(if g=f then some u else mA g)=none
   rw[Xa q];exact z
theorem Inv.made (I:Inv X Xbr σ H s):Inv X Xbr σ (upd (upd H s.heap.objs.size (.own (s.heap.objs.size+1))) (s.heap.objs.size+1) (.ins C s.heap.objs.size []))
 { s with heap:=(s.heap.push W.emptyDict).push (W.instObj C s.heap.objs.size) }:=by
 have e1:(s.heap.push W.emptyDict).get? s.heap.objs.size=some W.emptyDict:=XZ s.heap rfl
 have e2:((s.heap.push W.emptyDict).push (W.instObj C s.heap.objs.size)).get? (s.heap.objs.size+1)=some (W.instObj C s.heap.objs.size):=by
  have:=XZ (s.heap.push W.emptyDict) (o:=W.instObj C s.heap.objs.size) rfl
  rwa [Heap.size_push]at this
 have e3:(s.heap.push W.emptyDict).Ns s.heap.objs.size (fun _=>none):=⟨W.emptyDict,#[],_,e1,rfl,(fun e he=>Xp he (by simp)),fun _=>rfl⟩
 have I1:=I.laid (a:=s.heap.objs.size) (o:=.own (s.heap.objs.size+1)) (h':=s.heap.push W.emptyDict) (t':=s.toks) (fun b u q=>Xv _ q) (Xw _) ⟨_,e1⟩
 refine I1.laid (a:=s.heap.objs.size+1) (o:=.ins C s.heap.objs.size []) (t':=s.toks) (fun b u q=>Xv _ q) (Nat.le_of_eq (Heap.size_push _ _)) ?_
 have ne:s.heap.objs.size≠s.heap.objs.size+1:=Xs (XaE _)
 refine⟨by rw[Zak ne,Zam],X0 _,ne,e2,fun _=>none,(Heap.Ns1.of_empty e3).at fun o q=>Xv _ q,fun _=>True.intro,fun y hy=>Xp rfl hy⟩
theorem ZrO {prog:Program}{w:World}{env:Env}{e:Expr}{f:Str}{pos:Pos}{s:Shared}{Q:Value->Shared->Prop}(hb:attributeBase e f env (eval e env)=eval e env)
 (h:wpAny (model prog w) A (eval e env) (fun o s₁=>wpAny (model prog w) A (getAttr o f true) Q E s₁) E s):wpAny (model prog w) A (eval (.Attribute e f pos) env) Q E s :=
 Attribute_any_ h (by rw[arm_eval_Attribute,hb])
end
def Zmn (K:W.Frag)(ta:TE)(f:Str):TE:=fun σ H Q=>ta σ H fun x H1=>∃a C dx fs v,x=.ref a/\H1 a=some (.ins C dx fs)/\Cls K C/\Ze9 K C f/\fs.lookup f=some v/\Q v H1
def Zvw (K:W.Frag)(ta tv:TE)(f:Str):TS:=fun D σ H=>tv σ H fun y H1=>ta σ H1 fun x H2=>∃a C dx fs,x=.ref a/\H2 a=some (.ins C dx fs)/\Cls K C/\Ze9 K C f/\fs.length<1000 /\
 D.nx σ (upd H2 a (.ins C dx (ZjL f y fs)))
section
variable {X:Cx}{o e value:Expr}{f:Str}{pos pos' tpos:Pos}{ta tv:TE}
theorem Zcy (he:PE X e ta)(hb:attributeBase e f X.env (eval e X.env)=eval e X.env):PE X (.Attribute e f pos) (Zmn X.K ta f):=by
 intro Xbr s σ H Q I h;refine ZrO hb (thn (he Xbr s σ H _ I h) fun u s1 ⟨x,H1,I1,rx,a,C,dx,fs,v,ex,ea,c,n,l,q⟩=>?_)
 subst ex;obtain rfl:u=Value.ref a:=rx
 exact ZlK I1 ea c n l fun u' s2 I2 ru=>⟨v,H1,I2,ru,q⟩
theorem Zlu (ha:PE X o ta)(hv:PE X value tv)(hs:swapsWith value (some (.Attribute o f pos')) pos.line X.env=pure false):PS X (.Assign [.Attribute o f pos'] value pos) (Zvw X.K ta tv f):=by
 intro Xbr s σ H D I h;refine plainObj_wpAny_Assign_Attribute (thn (hv Xbr s σ H _ I h) fun u s1 ⟨y,H1,I1,ry,q⟩=>thn (ha Xbr s1 σ H1 _ I1 q) fun ov s2 ⟨x,H2,I2,rx,a,C,dx,fs,ex,ea,c,n,l,q2⟩=>?_) hs
 subst ex;obtain rfl:ov=Value.ref a:=rx
 exact Zmb I2 ea c n l ry fun s3 I3=>⟨σ,_,I3,q2⟩
end
section
variable {X:Cx}{Xbr:List (Addr×Obj)}{σ:St}{H:Hp}{s:Shared}{A:Around}{E:Value->Shared->Prop}{Q:Value->Shared->Prop}{c:Value}{b:Bool}
end
structure Room (k:Nat)(A:Around):Prop where
 hd:A.handled=none
 dp:A.depth+3*k+5<recursionLimit
 un:A.units+16*k+200<cLine
theorem Room.mono {j k:Nat}{A:Around}(r:Room k A)(h:j<=k):Room j A:=⟨r.hd,by have:=r.dp;omega,by have:=r.un;omega⟩
theorem Room.deeper {k:Nat}{A:Around}(r:Room (k+1) A)(env:Env):Room k (A.deeper env) :=
 ⟨r.hd,by have:=r.dp;show A.depth+1+3*k+5<_;omega,by have:=r.un;show A.units+3+16*k+200<_;omega⟩
theorem ZlL {A:Around} {C:Addr} {us:List Value} {kw:List (Str×Value)}:(A.under (.builtin "type.__call__" ⟨.ref C::us,kw⟩)).depth=A.depth+1:=by
 first|rfl|simp[Around.under,Code.weight,Code.isCreation,Code.isGuard,Code.isCaller,Code.frames,Code.isFrame,guardIds]
theorem Zmp {A:Around} {C:Addr} {us:List Value} {kw:List (Str×Value)}:(A.under (.builtin "type.__call__" ⟨.ref C::us,kw⟩)).units=A.units+1:=by
 first|rfl|simp[Around.under,Code.cUnits,Code.frames,Code.isFrame]
theorem Room.make {k:Nat} {A:Around} (r:Room (k+1) A) (C:Addr) (us:List Value) (kw:List (Str×Value)):Room k (A.under (.builtin "type.__call__" ⟨.ref C::us,kw⟩)) :=
 ⟨r.hd,by have:=r.dp;rw[ZlL];omega,by have:=r.un;rw[Zmp];omega⟩
theorem Room.depth {k:Nat}{A:Around}(r:Room k A):A.depth<recursionLimit:=by have:=r.dp;omega
theorem Room.units {k:Nat}{A:Around}(r:Room k A):A.units+64<cLine:=by have:=r.un;omega
def Zd8:TA:=fun _ H Q=>Q [] H
def ZaM (ta:TE)(tr:TA):TA:=fun σ H Q=>ta σ H fun x H1=>tr σ H1 fun xs H2=>Q (x::xs) H2
section
variable {X:Cx}{e:Expr}{es:List Expr}{te:TE}{t:TA}{pos:Pos}
theorem Zad:PA X [] Zd8:=fun _ _ _ _ H Q I h=>Calls.spliced_nil ⟨[],H,I,.nil,h⟩
theorem Zaa (ha:PE X e te)(hr:PA X es t)(hs:starEach (e::es) X.env=(false,eval e X.env)::starEach es X.env:=by rfl):PA X (e::es) (ZaM te t):=by
 intro pos Xbr s σ H Q I h;rw[hs];show wpAny _ _ (spliced ((false,eval e X.env)::backTo pos (starEach es X.env))) _ _ s
 refine Calls.spliced_cons (thn (ha Xbr s σ H _ I h) fun u s1 ⟨x,H1,I1,r1,q1⟩=>?_)
 exact thn (hr pos Xbr s1 σ H1 _ I1 q1) fun us s2 ⟨xs,H2,I2,r2,q2⟩=>⟨x::xs,H2,I2,.cons r1 r2,q2⟩
def Zuq (t:TA):TE:=fun σ H Q=>t σ H fun xs H1=>xs.length<=sizeLine/\∀p,H1 p=none->Q (.ref p) (upd H1 p (.tup xs))
def Zuo (t:TA):TE:=fun σ H Q=>t σ H fun xs H1=>xs.length<=sizeLine/\∀p,H1 p=none->Q (.ref p) (upd H1 p (.lst xs))
theorem ZbK {x1}(h:PA X es t):PE X (.Tuple es x1 pos) (Zuq t):=by
 intro Xbr s σ H Q I hq;refine wpAny_Tuple_spliced (thn (h pos Xbr s σ H _ I hq) fun us s1 ⟨xs,H1,I1,r,z,q⟩=>⟨by rw[<- r.length];exact z,?_⟩)
 have hf:H1 s1.heap.objs.size=none:=I1.hok.fresh (Xw _)
 refine⟨.ref s1.heap.objs.size,upd H1 s1.heap.objs.size (.tup xs),I1.laid (t':=s1.toks) (fun b u e=>Xv _ e) (Xw _) ?_,rfl,q _ hf⟩
 exact⟨z,us,r,⟨_,XZ _ rfl,rfl,_,rfl⟩⟩
theorem ZbL (h:PA X es t):PE X (.List es pos) (Zuo t):=by
 intro Xbr s σ H Q I hq;refine wpAny_List_spliced (thn (h pos Xbr s σ H _ I hq) fun us s1 ⟨xs,H1,I1,r,z,q⟩=>⟨by rw[<- r.length];exact z,?_⟩)
 have hf:H1 s1.heap.objs.size=none:=I1.hok.fresh (Xw _)
 refine⟨.ref s1.heap.objs.size,upd H1 s1.heap.objs.size (.lst xs),I1.laid (t':=s1.toks) (fun b u e=>Xv _ e) (Xw _) ?_,rfl,q _ hf⟩
 exact⟨z,us,0,r,XZ _ rfl⟩
end
abbrev Sp:=List V->Hp->VK->XK->Prop
abbrev CXT:=List Env->Hp->Shared->XK->Value->Shared->Prop
structure Env0 (P:Program)(w:World)(K:W.Frag)(mg:Str->Option Value)(base:Heap)(A:Around)(outer:List Env)(s:Shared)(H:Hp):Prop where
 frames:A.frames=some outer
 mod:Mod K mg base
 bs:∀b o,base.get? b=some o->s.heap.get? b=some o/\(H b=none\/∃xs,H b=some (.tup xs))
 bsz:base.objs.size<=s.heap.objs.size
 funs:s.heap.FunFrames base outer
 frf:∀b∈frs outer,H b=none
 hok:HOk P w H s.heap
 bare:AllBare s.gens
def CE (outer:List Env)(P:Program)(w:World)(H:Hp)(s:Shared)(Q:VK)(u:Value)(s':Shared):Prop :=
 ∃v H',s'.os=s.os/\AllBare s'.gens/\Un (frs outer) [] H H' s.heap s'.heap/\HOk P w H' s'.heap/\Zbl v u/\Q v H'
def CR (CX:CXT)(outer:List Env)(P:Program)(w:World)(H:Hp)(s:Shared)(Q:VK)(E:XK)(r:Result)(s':Shared):Prop :=
 match r with
 |.ok (.ret u)=>CE outer P w H s Q u s'
 |.ok _=>False
 |.error e=>CX outer H s E e s'
structure FnOk (P:Program)(w:World)(K:W.Frag)(mg:Str->Option Value)(base:Heap)(CX:CXT)(k:Nat)(f:Addr)(fd:FuncData)(ps:List Str)(sp:Sp):Prop where
 len:∀vs H Q E,sp vs H Q E->vs.length=ps.length
 run:∀(A:Around) (outer:List Env) (s:Shared) (H:Hp) (args:Args) (us:List Value) (vs:List V) (Q:VK) (E:XK),Room k A->Env0 P w K mg base A outer s H->BindsTo s fd args (ps.zip us)->Zb7 vs us->sp vs H Q E ->
  codeAny (model P w) A (.call (.ref f) args) (CR CX outer P w H s Q E) s
theorem Env0.make {P:Program}{w:World}{K:W.Frag}{mg:Str->Option Value}{base:Heap}{A:Around}{outer:List Env}{s:Shared}{H:Hp}(e:Env0 P w K mg base A outer s H)(C:Addr)(us:List Value)(kw:List (Str×Value)) :
 Env0 P w K mg base (A.under (.builtin "type.__call__" ⟨.ref C::us,kw⟩)) outer s H:=⟨by first|exact e.frames|(simpa [Around.under,Code.envs,Code.isFrame,pushEnvs] using e.frames),e.mod,e.bs,e.bsz,e.funs,e.frf,e.hok,e.bare⟩
section
variable {X:Cx}{Xbr:List (Addr×Obj)}{σ:St}{H:Hp}{s s':Shared}
theorem Inv.env0 (I:Inv X Xbr σ H s):Env0 X.prog X.w X.K X.mg X.base X.A X.stack s H :=
 ⟨I.ok.frames,I.ok.mod,I.bs,XS I.ok.bsz I.sz,I.stack,I.stkFree,I.hok,I.bare⟩
theorem Inv.after {Q:VK}{u:Value}(I:Inv X Xbr σ H s)(h:CE X.stack X.prog X.w H s Q u s'):EP X Xbr σ Q u s':=by
 obtain⟨v,H',os,bare,un,hok,r,q⟩:=h
 obtain⟨hh,g,d,t,os'⟩:=s'
 obtain rfl:os'=s.os:=os
 exact⟨v,H',I.call (h':=hh) (g':=g) (d':=d) (t':=t) (ch:=[]) un hok bare (fun b z=>Xp z (by simp)),r,q⟩
end
def Zih (sp:Sp)(dvs:List V)(E:XK)(t:TA):TE:=fun σ H Q=>t σ H fun vs H1=>sp (vs++dvs) H1 Q E
def Zmr (C:Addr)(m:Str)(sp:Sp)(dvs:List V)(E:XK)(ta:TE)(t:TA):TE:=fun σ H Q=>ta σ H fun x H1=>∃a dx fs,x=.ref a/\H1 a=some (.ins C dx fs)/\fs.lookup m=none /\
 t σ H1 fun vs H2=>sp (x::(vs++dvs)) H2 Q E
def Zru (C:Addr)(sp:Sp)(dvs:List V)(E:XK)(t:TA):TE:=fun σ H Q=>t σ H fun vs H1=>∀x dx,H1 x=none->H1 dx=none->dx≠x ->
 sp (.ref x::(vs++dvs)) (upd (upd H1 dx (.own x)) x (.ins C dx [])) (fun v H2=>v=.non/\Q (.ref x) H2) E
def ZfG (K:W.Frag)(fd:FuncData)(ps:List Str)(ds:List Value):Prop :=
 ∀(s:Shared) (us:List Value),K.In s.heap->(us++ds).length=ps.length->BindsTo s fd ⟨us,[]⟩ (ps.zip (us++ds))
theorem ZfG.all {K:W.Frag}{fd:FuncData}{ps:List Str}(h:∀us:List Value,us.length=ps.length->bindArgs fd ⟨us,[]⟩=pure (ps.zip us)):ZfG K fd ps []:=fun s us _ hl=>by
 rw[X4]at hl ⊢;exact .of_eq (h us hl)
def Zh6 (CX:CXT)(X:Cx)(E:XK):Prop := ∀(Xbr:List (Addr×Obj)) (σ:St) (H:Hp) (s:Shared) (e:Value) (s':Shared),Inv X Xbr σ H s->CX X.stack H s E e s'->X.xe e s'
section
variable {X:Cx}{CX:CXT}{k:Nat}{f C:Addr}{fd:FuncData}{ps:List Str}{sp:Sp}{dvs:List V}{ds:List Value}{E:XK}{x m:Str}{p pos apos:Pos}{e o:Expr}{es:List Expr}{ta:TE}{t:TA}
theorem Zq8 {Xbr:List (Addr×Obj)}{σ:St}{H:Hp}{s:Shared}{Q:VK}{us:List Value}{vs:List V}(F:FnOk X.prog X.w X.K X.mg X.base CX k f fd ps sp)(hr:Room k X.A)(hb:ZfG X.K fd ps ds)(hd:Zb7 dvs ds)(hx:Zh6 CX X E)
 (I:Inv X Xbr σ H s) (r:Zb7 vs us) (h:sp (vs++dvs) H Q E):wpAny (model X.prog X.w) X.A (call (.ref f) us) (EP X Xbr σ Q) X.xe s:=by
 have r2:Zb7 (vs++dvs) (us++ds):=r.append hd
 have hl:(us++ds).length=ps.length:=by rw[<- r2.length];exact F.len _ _ _ _ h
 refine wpAny_call (codeAny_mono (F.run X.A X.stack s H ⟨us,[]⟩ (us++ds) (vs++dvs) Q E hr I.env0 (hb s us I.kIn hl) r2 h) fun r s' hq=>?_)
 cases r with
 |error e=>exact hx Xbr σ H s e s' I hq
 |ok fl =>
   cases fl with
   |ret u=>exact I.after hq
   |next=>exact False.elim hq
   |brk=>exact False.elim hq
   |cont=>exact False.elim hq
theorem Zsu (F:FnOk X.prog X.w X.K X.mg X.base CX k f fd ps sp)(hr:Room k X.A)(hg:Gl X x)(hm:X.mg x=some (.ref f))(hk:W.keepIn X.K (.ref f)=true)(hb:ZfG X.K fd ps ds)(hd:Zb7 dvs ds)(hx:Zh6 CX X E)
 (ha:PA X (e::es) t) (hdb:(x==("__debug__" : Str))=false:=by decide) (he:starEach (e::es) X.env=(false,eval e X.env)::starEach es X.env:=by rfl) (hpl:(backTo pos (starEach es X.env)).any (·.1)=false:=by rfl) :
 PE X (.Call (.Name x p) (e::es) [] pos) (Zih sp dvs E t):=by
 intro Xbr s σ H Q I h;refine wpAny_Call_Name_kw (Zkj I hg hm ?_ hdb)
 refine W.callWith_K (h₀:=X.base) I.ok.mod.kin hk (thn (ha pos Xbr s σ H _ I h) fun us s1 ⟨vs,H1,I1,r,q⟩=>⟨I1.kIn,?_⟩) he hpl
 exact Zq8 F hr hb hd hx I1 r q
theorem Zr4 {pl:Sem Bool}(he:PE X o ta)(c:Cls X.K C)(hm:Meth X.K C m f)(F:FnOk X.prog X.w X.K X.mg X.base CX k f fd ps sp)(hr:Room k X.A)(hb:ZfG X.K fd ps ds)(hd:Zb7 dvs ds)(hx:Zh6 CX X E)(ha:PA X (e::es) t)
 (hst:starEach (e::es) X.env=(false,eval e X.env)::starEach es X.env:=by rfl) (hpl:(backTo pos (starEach es X.env)).any (·.1)=false:=by rfl)
 (ht:eval (.Call (.Attribute o m apos) (e::es) [] pos) X.env=(do
  let ov <- eval o X.env
  standAt apos.atName
  let (f,first) <- holding [ov] (getMethod ov m pl)
  callWith pos f first (backTo pos (starEach (e::es) X.env)) (backToKw pos (keywordEach [] X.env))):=by rfl) :
 PE X (.Call (.Attribute o m apos) (e::es) [] pos) (Zmr C m sp dvs E ta t):=by
 intro Xbr s σ H Q I h;refine W.methodCall_KW (pl:=pl) (thn (he Xbr s σ H _ I h) fun u s1 ⟨x,H1,I1,rx,a,dx,fs,ex,ea,l,q⟩=>?_) ht
 subst ex;obtain rfl:u=Value.ref a:=rx
 refine Zmg I1 ea c hm l ?_
 refine W.callWith_K (first:=[.ref a]) (h₀:=X.base) I.ok.mod.kin hm.kp (thn (ha pos Xbr s1 σ H1 _ I1 q) fun us s2 ⟨vs,H2,I2,r,q2⟩=>⟨I2.kIn,?_⟩) hst hpl
 exact Zq8 (us:=.ref a::us) (vs:=.ref a::vs) F hr hb hd hx I2 (.cons rfl r) q2
structure Mk (K:W.Frag)(C f:Addr):Prop where
 makes:W.makesIn K C=true
 init:W.findIn K (.ref C) "__init__"=some (some (.ref f))
 fn:W.isFn K (.ref f)=true
 kp:W.keepIn K (.ref C)=true
theorem ZpU {Xbr:List (Addr×Obj)}{σ:St}{H:Hp}{s:Shared}{Q:VK}{us:List Value}{vs:List V}(M:Mk X.K C f)(F:FnOk X.prog X.w X.K X.mg X.base CX k f fd ps sp)(hr:Room (k+1) X.A)(hb:ZfG X.K fd ps ds)(hd:Zb7 dvs ds)
 (hx:Zh6 CX X E) (I:Inv X Xbr σ H s) (r:Zb7 vs us)
 (h:∀x dx,H x=none->H dx=none->dx≠x->sp (.ref x::(vs++dvs)) (upd (upd H dx (.own x)) x (.ins C dx [])) (fun v H2=>v=.non/\Q (.ref x) H2) E) :
 wpAny (model X.prog X.w) X.A (call (.ref C) us) (EP X Xbr σ Q) X.xe s:=by
 have hq:=h (s.heap.objs.size+1) s.heap.objs.size (I.hok.fresh (Nat.le_succ _)) (I.hok.fresh (Xw _)) (Xs (XaE _))
 have I2:=Inv.made (C:=C) I
 have r2:Zb7 (V.ref (s.heap.objs.size+1)::(vs++dvs)) (Value.ref (s.heap.objs.size+1)::(us++ds)):=.cons rfl (r.append hd)
 have hl:(Value.ref (s.heap.objs.size+1)::us++ds).length=ps.length:=by
  have e:=r2.length
  rw[F.len _ _ _ _ hq]at e;exact e.symm
 refine wpAny_call (ZpE (f:=f) I.kIn M.makes M.init (beq_iff_eq.mp M.fn) (codeAny_mono (F.run _ X.stack _ _ ⟨Value.ref (s.heap.objs.size+1)::us,[]⟩ (Value.ref (s.heap.objs.size+1)::(us++ds)) _ _ E (hr.make C us [])
  (I2.env0.make C us []) (hb _ (Value.ref (s.heap.objs.size+1)::us) I2.kIn hl) r2 hq) fun r s' hq'=>?_))
 cases r with
 |error e=>exact hx Xbr σ _ _ e s' I2 hq'
 |ok fl =>
   cases fl with
   |ret u =>
     obtain⟨v,H',I3,rv,ev,q3⟩:=I2.after hq'
     subst ev;exact⟨rv,⟨V.ref (s.heap.objs.size+1),H',I3,rfl,q3⟩⟩
   |next=>exact False.elim hq'
   |brk=>exact False.elim hq'
   |cont=>exact False.elim hq'
theorem ZpC (M:Mk X.K C f)(F:FnOk X.prog X.w X.K X.mg X.base CX k f fd ps sp)(hr:Room (k+1) X.A)(hg:Gl X x)(hm:X.mg x=some (.ref C))(hb:ZfG X.K fd ps ds)(hd:Zb7 dvs ds)(hx:Zh6 CX X E)
 (hdb:(x==("__debug__" : Str))=false:=by decide):PE X (.Call (.Name x p) [] [] pos) (Zru C sp dvs E Zd8):=by
 intro Xbr s σ H Q I h;refine wpAny_Call_Name_kw (Zkj I hg hm ?_ hdb)
 exact W.callWith_K0 I.kIn M.kp (ZpU (us:=[]) M F hr hb hd hx I .nil h)
end
section
variable {X:Cx}{CX:CXT}{k:Nat}{f C:Addr}{fd:FuncData}{ps ks:List Str}{sp:Sp}{E:XK}{x m:Str}{p pos apos kpos:Pos}{e o:Expr}{es:List Expr}{kws:List Keyword}{te ta:TE}{t tk:TA}{nm:Option Str}
variable {g:List Value->List Value->List Value}{gV:List V->List V->List V}
end
structure FnScope (N P:List Str)(sc:Scope):Prop where
 kind:sc.kind=.function
 co:sc.isCoroutine=false
 gen:sc.isGenerator=false
 nd:N.Nodup
 pre:N.take P.length=P
 par:∀x∈P,sc.names.lookup x=some .local\/sc.names.lookup x=some .cell
 nofree:∀y∈sc.names,y.2≠.free
theorem ZiY {kindOf:Str->Option NameKind}{x:Str}:∀{binds:List (Str×Value)} {m:Str->Option Value},(∀v,(x,v)∉binds)->bindL kindOf binds m x=m x
 |[],_,_=>rfl
 |(n,v)::r,m,h=>by
   unfold bindL;rw[ZiY fun w hw=>h w (Xd _ hw)]
   split
   ·have:x≠n:=by rintro rfl;exact h v Xb
    simp[this]
   ·rfl
theorem Zjv {kindOf:Str->Option NameKind}{x:Str}:∀{binds:List (Str×Value)} {m:Str->Option Value},(∀v,(x,v)∉binds)->bindC kindOf binds m x=m x
 |[],_,_=>rfl
 |(n,v)::r,m,h=>by
   unfold bindC;rw[Zjv fun w hw=>h w (Xd _ hw)]
   split
   ·rfl
   ·have:x≠n:=by rintro rfl;exact h v Xb
    simp[this]
theorem ZiR {kindOf:Str->Option NameKind}{x:Str}{v:Value}:∀{P:List Str} {vs:List Value} {i:Nat} {m:Str->Option Value},P.Nodup->P[i]?=some x->vs[i]?=some v->kindOf x=some .local ->
 bindL kindOf (P.zip vs) m x=some v
 |[],_,_,_,_,h,_,_=>by simp at h
 |_::_,[],_,_,_,_,h,_=>by simp at h
 |p::P,w::vs,0,m,nd,h1,h2,hk=>by
   simp at h1 h2;subst h1;subst h2
   show bindL kindOf ((p,w)::P.zip vs) m p=_
   unfold bindL;rw[ZiY fun v hv=>(XL.mp nd).1 (List.of_mem_zip hv).1,Xc hk]
   simp
 |p::P,w::vs,i+1,m,nd,h1,h2,hk=>by
   show bindL kindOf ((p,w)::P.zip vs) m x=_
   unfold bindL;exact ZiR (i:=i) (XL.mp nd).2 (by simpa using h1) (by simpa using h2) hk
theorem ZiX {kindOf:Str->Option NameKind}{x:Str}{v:Value}:∀{P:List Str} {vs:List Value} {i:Nat} {m:Str->Option Value},P.Nodup->P[i]?=some x->vs[i]?=some v->kindOf x≠some .local ->
 bindC kindOf (P.zip vs) m x=some v
 |[],_,_,_,_,h,_,_=>by simp at h
 |_::_,[],_,_,_,_,h,_=>by simp at h
 |p::P,w::vs,0,m,nd,h1,h2,hk=>by
   simp at h1 h2;subst h1;subst h2
   show bindC kindOf ((p,w)::P.zip vs) m p=_
   unfold bindC;rw[Zjv fun v hv=>(XL.mp nd).1 (List.of_mem_zip hv).1,Xa hk]
   simp
 |p::P,w::vs,i+1,m,nd,h1,h2,hk=>by
   show bindC kindOf ((p,w)::P.zip vs) m x=_
   unfold bindC;exact ZiX (i:=i) (XL.mp nd).2 (by simpa using h1) (by simpa using h2) hk
def start (N:List Str)(vs:List V):St:=vs.map some++List.replicate (N.length-vs.length) none
def ZjN (CX:CXT)(P:Program)(w:World)(K:W.Frag)(mg:Str->Option Value)(base:Heap)(N:List Str)(qual:Str)(scope:Scope)(f:Addr)(cd:Value)(A:Around)(outer:List Env)(s:Shared)(H:Hp)(E:XK):Cx where
 prog:=P
 w:=w
 K:=K
 mg:=mg
 base:=base
 A:=A.deeper (envOfC qual scope s.heap.objs.size f cd)
 N:=N
 s₀:=s
 H₀:=H
 env:=envOfC qual scope s.heap.objs.size f cd
 outer:=outer
 stack:=envOfC qual scope s.heap.objs.size f cd::outer
 ex:=[]
 calm:=true
 fn:=fun _=>true
 pn:=[]
 xe:=fun e s'=>wpAny (model P w) (A.deeper (envOfC qual scope s.heap.objs.size f cd)) (leaving (envOfC qual scope s.heap.objs.size f cd) e) (fun _ s''=>CX outer H s E e s'') (fun e' s''=>CX outer H s E e' s'') s'
theorem ZkQ {sc:Scope}{n:Nat}{x:Str}(h:sc.names.lookup x=some .cell):∃c,(cellsFrom n sc.names []).lookup x=some c:=by
 have q:=W.cellsFrom_some sc.names n [] (.inl h)
 exact Option.isSome_iff_exists.mp q
theorem Zo2 {CX:CXT}{P:Program}{w:World}{K:W.Frag}{mg:Str->Option Value}{base:Heap}{N ps:List Str}{qual:Str}{scope:Scope}{f:Addr}{cd:Value}{A:Around}{outer:List Env}{s s1:Shared}{H:Hp}{E:XK}{us:List Value}{vs:List V}
 (S:FnScope N ps scope) (hd:A.handled=none) (e0:Env0 P w K mg base A outer s H) (hl:vs.length=ps.length) (r:Zb7 vs us)
 (x:InCallC s s.heap.objs.size (bindL (envOfC qual scope s.heap.objs.size f cd).kindOf (ps.zip us) fun _=>none) (cellsFrom (s.heap.objs.size+1) scope.names []) (bindC (envOfC qual scope s.heap.objs.size f cd).kindOf (ps.zip us) fun _=>none) s1) :
 Inv (ZjN CX P w K mg base N qual scope f cd A outer s H E) [] (start N vs) H s1:=by
 have hpl:ps.length<=N.length:=by have:=Xaf List.length S.pre;rw[XaX]at this;omega
 obtain⟨h1,tk,rfl,hk⟩:=x.done
 have noA:∀b:Addr,b∉(ZjN CX P w K mg base N qual scope f cd A outer s H E).ex:=fun b z=>Xp (show b∈([]:List Addr) from z) (by simp)
 refine⟨⟨e0.mod,S.kind,rfl,rfl,Xw _,fun y z c h1 h2=>?_,fun y hy=>?_,fun y c _ h=>?_,fun _=>hd,Around.frames_deeper e0.frames,.inr ⟨rfl,rfl⟩,fun b z=>Xp z (noA b),e0.bs,e0.bsz,fun b _ _=>noA b,fun b z=>Xp z (noA b),e0.funs,e0.frf⟩,
  rfl,e0.bare,Un.kept hk,⟨_,x.toInCall.ns,fun i y v h1 h2 h3=>?_⟩,fun y c h=>⟨_,x.cell y c h⟩,e0.hok.fresh (Xw _),fun y c h=>?_,fun p hp=>Xp (show p∈([]:List (Addr×Obj)) from hp) (by simp),e0.hok.kept hk,?_⟩
 ·exact name_of_addr x.apart (PySem.mem_of_lookup h1) (PySem.mem_of_lookup h2)
 ·have hy:scope.names.lookup y=some .cell\/scope.names.lookup y=some .free:=hy
  rcases hy with hy|hy
  ·exact ZkQ hy
  ·exact Xp rfl (S.nofree _ (PySem.mem_of_lookup hy))
 ·exact XY (x.above y c (PySem.mem_of_lookup h))
 ·have hi:i<vs.length:=by
   unfold start at h2;by_cases hi:i<vs.length
   ·exact hi
   ·rw[Xar (by simpa using hi)]at h2
    rw[List.getElem?_replicate]at h2;split at h2<;>cases h2
  have ha:vs[i]?=some v:=by
   unfold start at h2;rw[Xab (by simpa using hi),Xi]at h2;cases e:vs[i]? with
   |none=>rw[e]at h2;cases h2
   |some a=>rw[e]at h2;cases h2;rfl
  obtain⟨u,hu,rv⟩:=r.get ha
  have hp:ps[i]?=some y:=by
   rw[<- S.pre,List.getElem?_take_of_lt (by omega)];exact h1
  have ndP:ps.Nodup:=by rw[<- S.pre];exact S.nd.sublist (List.take_sublist _ _)
  refine⟨u,rv,?_⟩
  rcases S.par y (List.mem_of_getElem? hp) with k|k
  ·exact .inl ⟨k,ZiR ndP hp hu k⟩
  ·obtain⟨c,e⟩:=ZkQ (n:=s.heap.objs.size+1) k
   refine .inr ⟨.inl k,c,e,?_⟩
   have q:=x.cell y c e
   rw[ZiX ndP hp hu (by show scope.names.lookup y≠_;rw[k];decide)]at q;exact q
 ·exact e0.hok.fresh (XY (x.above y c (PySem.mem_of_lookup h)))
 ·unfold start
  show _=N.length
  rw[Xt,Xj,List.length_replicate];omega
theorem Zu2 {CX:CXT}{P:Program}{w:World}{K:W.Frag}{mg:Str->Option Value}{base:Heap}{k:Nat}{f:Addr}{name qual:Str}{params:Arguments}{body:List Stmt}{scope:Scope}{dV kV doc pm cdv ct oc:Value}{an od:Option Addr}
 {osl:Array (Option Value)} {N ps:List Str} {sp:Sp} (lk:K.lookup f=some ⟨oc,od,.func (W.fnOf name qual params body scope dV kV doc pm an cdv ct),osl⟩) (hcd:W.codeIn K cdv qual=true) (S:FnScope N ps scope)
 (len:∀vs H Q E,sp vs H Q E->vs.length=ps.length)
 (Xbs:∀(A:Around) (outer:List Env) (s:Shared) (H:Hp) (vs:List V) (Q:VK) (E:XK),Room k (A.deeper (envOfC qual scope s.heap.objs.size f cdv))->sp vs H Q E ->
  ∃t,PSs (ZjN CX P w K mg base N qual scope f cdv A outer s H E) body t/\t { nx:=fun _ H'=>Q .non H',rt:=Q } (start N vs) H) :
 FnOk P w K mg base CX (k+1) f (W.fnOf name qual params body scope dV kV doc pm an cdv ct) ps sp:=by
 refine⟨len,fun A outer s H args us vs Q E hr e0 hb r hsp=>?_⟩
 have hl:=len _ _ _ _ hsp
 have KX:K.In s.heap:=e0.mod.kin.keeps fun b o e=>(e0.bs b o e).1
 have lim:s.heap.NoLimit:=e0.mod.nolimit.keeps fun b o e=>(e0.bs b o e).1
 have hkind:∀y∈ps.zip us,scope.names.lookup y.1=some .local\/(scope.names.lookup y.1=some .cell/\((cellsFrom (s.heap.objs.size+1) scope.names []).lookup y.1).isSome=true):=fun⟨n,v⟩ hy=>by
  rcases S.par n (List.of_mem_zip hy).1 with q|q
  ·exact .inl q
  ·exact .inr ⟨q,W.cellsFrom_some _ _ _ (.inl q)⟩
 refine codeAny_call_function hr.depth (KX _ _ lk) rfl S.co S.gen rfl (W.codeRec_of KX hcd) (hb _ _ _ _ ?_)
 refine wpAny_newFunctionEnv_cells S.kind hkind fun env he s1 x=>?_
 subst he;refine⟨lim.keeps x.toInCall.keep,codeAny_func ?_⟩
 obtain⟨t,ht,hq⟩:=Xbs A outer s H vs Q E (hr.deeper _) hsp
 have I:Inv (ZjN CX P w K mg base N qual scope f cdv A outer s H E) [] (start N vs) H s1:=Zo2 S hr.hd e0 hl r x
 refine wpAny_mono (ht [] s1 (start N vs) H _ I hq) (fun fl s' hs=>?_) fun e s' hs=>hs
 have fin:∀{σ':St} {H':Hp} {v:V} {u:Value},Inv (ZjN CX P w K mg base N qual scope f cdv A outer s H E) [] σ' H' s'->Zbl v u->Q v H'->CE outer P w H s Q u s' :=
  fun{σ' H' v u} J rv q=>⟨v,H',J.os,J.bare,J.base,J.hok,rv,q⟩
 cases fl with
 |ret u =>
   obtain⟨v,σ',H',J,rv,q⟩:=hs
   exact fin J rv q
 |next =>
   obtain⟨σ',H',J,q⟩:=hs
   exact fin (v:=V.non) (u:=Value.none) J rfl q
 |brk =>
   obtain⟨_,_,_,q⟩:=hs
   exact False.elim q
 |cont =>
   obtain⟨_,_,_,q⟩:=hs
   exact False.elim q
section
variable {X:Cx}{x:Str}{p pos:Pos}{e:Expr}{es:List Expr}{t:TA}{id T:String}{r:List V->Hp->VK->Prop}
def tCB (r:List V->Hp->VK->Prop)(t:TA):TE:=fun σ H Q=>t σ H fun vs H1=>r vs H1 Q
theorem Zaz (hc:Zd1 X (.builtin id) r) (hg:Gl X x) (hm:X.mg x=none) (hv:bootBuiltins x=some (.builtin id)) (ha:PA X (e::es) t) (hn:x ≠ "__name__" := by decide) (hdb:(x==("__debug__" : Str))=false:=by decide)
 (he:starEach (e::es) X.env=(false,eval e X.env)::starEach es X.env:=by rfl) (hpl:(backTo pos (starEach es X.env)).any (·.1)=false:=by rfl):PE X (.Call (.Name x p) (e::es) [] pos) (tCB r t):=by
 intro Xbr s σ H Q I h;refine wpAny_Call_Name_kw (Zg9 I hg hm hv ?_ hn hdb)
 exact PyProof.Rows.callWith_builtin1 (thn (ha pos Xbr s σ H _ I h) fun us s1 ⟨vs,H1,I1,r1,q1⟩=>hc Xbr s1 σ H1 vs us Q I1 r1 q1) he hpl
theorem ZcD (hc:Zd1 X (.type T) r) (hg:Gl X x) (hm:X.mg x=none) (hv:bootBuiltins x=some (.type T)) (ha:PA X (e::es) t) (hn:x ≠ "__name__" := by decide) (hdb:(x==("__debug__" : Str))=false:=by decide)
 (he:starEach (e::es) X.env=(false,eval e X.env)::starEach es X.env:=by rfl) (hpl:(backTo pos (starEach es X.env)).any (·.1)=false:=by rfl):PE X (.Call (.Name x p) (e::es) [] pos) (tCB r t):=by
 intro Xbr s σ H Q I h;refine wpAny_Call_Name_kw (Zg9 I hg hm hv ?_ hn hdb)
 exact PyProof.Rows.callWith_type1 (thn (ha pos Xbr s σ H _ I h) fun us s1 ⟨vs,H1,I1,r1,q1⟩=>hc Xbr s1 σ H1 vs us Q I1 r1 q1) he hpl
end
end L2
namespace HT
open PySem PyProof.Rows
section
open PySem.SeqAt
open PySem.AutoSeq1 (wpAny_loadPart')
open PySem.MeetsSeq PySem.MeetsSeq2 PySem.MeetsSeq3
end
section
variable {prog:Program}{w:World}{A:Around}{E:Value->Shared->Prop}{s:Shared}
def sIx (n d:Nat):Option Int->Nat
 |none=>d
 |some v=>if v<0 then (v+(n:Int)).toNat else min v.toNat n
end
end HT
namespace L2
open PySem PySem.Spec PyProof.Rows
theorem Zd9 {ns:List Int}:∀{us:List Value},Zb7 (ns.map V.int) us->IntsAre us ns:=by
 induction ns with
 |nil=>intro us r;rw[XaY]at r;cases r;exact .nil
 |cons n ns ih =>
   intro us r;rw[Xr]at r;cases r with
   |cons r1 r2 =>
     obtain⟨t,e⟩:=r1
     subst e;exact .cons n t (ih r2)
section
variable {X:Cx}{e:Expr}{te:TE}{lo hi:Option Expr}{tl th:TO}{pos p2:Pos}
end
def ixN (n:Nat)(i:Int):Option Nat:=if 0<=i then (if i<n then some i.toNat else none) else if -(n:Int)<=i then some (i+n).toNat else none
def atI {α:Type}(xs:List α)(i:Int):Option α:=(ixN xs.length i).bind fun j=>xs[j]?
theorem ZoL {n:Nat}{i:Int}{j:Nat}(h:ixN n i=some j):seqIndex? i n=some j/\j<n /\ -(n:Int)<=i/\i<n:=by
 unfold ixN at h;by_cases h0:0<=i
 ·rw[Xc h0]at h
  by_cases h1:i<n
  ·rw[Xc h1]at h
   have e:i.toNat=j:=Option.some.inj h
   exact⟨by rw[seqIndex_of h0 h1,e],by omega,by omega,h1⟩
  ·rw[Xa h1]at h;cases h
 ·rw[Xa h0]at h
  by_cases h1 : -(n:Int)<=i
  ·rw[Xc h1]at h
   have e:(i+n).toNat=j:=Option.some.inj h
   exact⟨by rw[seqIndex_neg (by omega) h1,e],by omega,h1,by omega⟩
  ·rw[Xa h1]at h;cases h
theorem Zki {α:Type}{xs:List α}{i:Int}{v:α}(h:atI xs i=some v):∃j,seqIndex? i xs.length=some j/\xs[j]?=some v/\j<xs.length /\ -(xs.length:Int)<=i/\i<xs.length:=by
 unfold atI at h;cases e:ixN xs.length i with
 |none=>rw[e]at h;cases h
 |some j =>
   rw[e]at h;obtain⟨h1,h2,h3,h4⟩:=ZoL e
   exact⟨j,h1,h,h2,h3,h4⟩
theorem Zcu {α:Type}{xs:List α}{j:Nat}{v:α}(h:xs[j]?=some v):atI xs (j:Int)=some v:=by
 have hj:j<xs.length:=(Xe.mp h).1
 have e:ixN xs.length (j:Int)=some j:=by
  unfold ixN;rw[Xc (by omega),Xc (by omega)];simp
 unfold atI;rw[e];exact h
def ZrF (b:Expr):Prop := ∀o i,subscripted b false o i=operate [o,i] (getItem o i)
def IxR (X:Cx)(r:R2):Prop :=
 ∀(value slice:Expr) (Xbr:List (Addr×Obj)) (s:Shared) (σ:St) (H:Hp) (x y:V) (v u:Value) (Q:VK),Inv X Xbr σ H s->Zbl x v->Zbl y u->r x y H Q ->
  subscripted slice false v u=operate [v,u] (getItem v u)->wpAny (model X.prog X.w) X.A (subscriptTail value slice v u) (EP X Xbr σ Q) X.xe s
def MtR (X:Cx)(id:String)(r:V->List V->Hp->VK->Prop):Prop :=
 ∀(Xbr:List (Addr×Obj)) (s:Shared) (σ:St) (H:Hp) (x:V) (xs:List V) (v:Value) (us:List Value) (Q:VK),Inv X Xbr σ H s->Zbl x v->Zb7 xs us->r x xs H Q ->
  wpAny (model X.prog X.w) X.A (call (.builtin id) (v::us)) (EP X Xbr σ Q) X.xe s
section
variable {X:Cx}{a b:Expr}{ta tb:TE}{pos:Pos}
theorem IxR.or {r r':R2}(h:IxR X r)(h':IxR X r'):IxR X (fun x y H Q=>r x y H Q\/r' x y H Q):=by
 intro value slice Xbr s σ H x y v u Q I rx ry q hs;rcases q with q|q
 ·exact h value slice Xbr s σ H x y v u Q I rx ry q hs
 ·exact h' value slice Xbr s σ H x y v u Q I rx ry q hs
theorem Zav {r:R2}(hr:IxR X r)(ha:PE X a ta)(hb:PE X b tb)(hs:ZrF b):PE X (.Subscript a b pos) (tOp r ta tb):=by
 intro Xbr s σ H Q I h;exact Subscript_ (Zu4 ha hb I h fun v u s2 x y H2 I2 rx ry q=>hr a b Xbr s2 σ H2 x y v u Q I2 rx ry q (hs _ _))
def Zvb (K:W.Frag):R2:=fun x y H Q=>∃p xs i v,x=.ref p/\y=.int i/\SqL K H p xs/\atI xs i=some v/\Q v H
def ZuR (K:W.Frag):R2:=fun x y H Q=>∃p xs i v,x=.ref p/\y=.int i/\SqT K H p xs/\atI xs i=some v/\Q v H
def ZuV:R2:=fun x y H Q=>∃z i c,x=.str z/\y=.int i/\z.length<=sizeLine/\atI z.cps.toList i=some c/\Q (.str ⟨#[c]⟩) H
theorem Zra:IxR X (Zvb X.K):=by
 intro value slice Xbr s σ H x y v u Q I rx ry h hs;obtain⟨p,xs,i,z,rfl,rfl,hq,he,q⟩:=h
 cases rx
 obtain⟨t,rfl⟩:=ry
 obtain⟨its,r,pl,hz⟩:=I.list hq
 obtain⟨j,h1,h2,h3,h4,h5⟩:=Zki he
 obtain⟨w,ew,rw'⟩:=r.get h2
 have hl:=r.length
 have hn:=Zgt
 have fin:EP X Xbr σ Q w s:=⟨z,H,I,rw',q⟩
 by_cases h0:0<=i
 ·have hj:i.toNat=j:=by
   rw[seqIndex_of h0 h5]at h1;exact Option.some.inj h1
  exact item_listR pl.isList h0 (by omega) (by rw[hj];simpa using ew) fin hs
 ·have hj:(i+(its.toArray.size:Int)).toNat=j:=by
   rw[seqIndex_neg (by omega) h4]at h1;rw[XC,<- hl];exact Option.some.inj h1
  exact subscriptTail_builtinR (x:=w) pl.isList.typeIs slot_list_getitem.lookup
   (wpAny_getItem_list_neg (Q:=fun r s'=>r=w/\EP X Xbr σ Q r s') pl.isList (by omega) (by rw[XC]<;>omega) (by omega) (by rw[hj];simpa using ew) ⟨rfl,fin⟩) hs
theorem Ztr:IxR X (ZuR X.K):=by
 intro value slice Xbr s σ H x y v u Q I rx ry h hs;obtain⟨p,xs,i,z,rfl,rfl,hq,he,q⟩:=h
 cases rx
 obtain⟨t,rfl⟩:=ry
 obtain⟨its,r,pl,hz⟩:=I.tuple hq
 obtain⟨j,h1,h2,h3,h4,h5⟩:=Zki he
 obtain⟨w,ew,rw'⟩:=r.get h2
 have hl:=r.length
 have hn:=Zgt
 have fin:EP X Xbr σ Q w s:=⟨z,H,I,rw',q⟩
 exact subscriptTail_builtinR (x:=w) pl.typeIs slot_tuple_getitem.lookup
  (getItem_tuple (j:=j) (Q:=fun r s'=>r=w/\EP X Xbr σ Q r s') pl (by omega) (by omega) (by rw[XC,<- hl];exact h1) (by simpa using ew) ⟨rfl,fin⟩) hs
theorem ZsZ:IxR X ZuV:=by
 intro value slice Xbr s σ H x y v u Q I rx ry h hs;obtain⟨z,i,c,rfl,rfl,hz,he,q⟩:=h
 obtain⟨t,rfl⟩:=rx
 obtain⟨t',rfl⟩:=ry
 obtain⟨j,h1,h2,h3,h4,h5⟩:=Zki he
 have hl:z.cps.toList.length=z.length:=by simp[Str.length]
 rw[hl]at h1 h4 h5;have hn:=Zgt
 exact tail_any (typeIs_str s z t) slot_str_getitem.lookup (getItem_str (c:=c) (by
  have e1:decide (i < -(2^63:Int))=false:=Xy (by omega)
  have e2:decide (i>=2^63)=false:=Xy (by omega)
  rw[e1,e2,Bool.or_false]) (by rw[h1];simpa using h2) ⟨.str ⟨#[c]⟩,H,I.tok _,⟨_,rfl⟩,q⟩) hs
def rIx (K:W.Frag):R2:=fun x y H Q=>Zvb K x y H Q\/ZuR K x y H Q\/ZuV x y H Q
theorem Zal:IxR X (rIx X.K):=Zra.or (Ztr.or ZsZ)
theorem ZlO (its:List Value) (n j:Nat) (u:Value):Obj.mapSeq (·.setIfInBounds j u) { cls:=.type "list",data:=.seq its.toArray n }={ cls:=.type "list",data:=.seq (its.set j u).toArray n }:=by
 simp[Obj.mapSeq]
theorem Inv.lst {Xbr:List (Addr×Obj)}{σ:St}{H:Hp}{s:Shared}{p:Addr}{xs:List V}(I:Inv X Xbr σ H s)(h:H p=some (.lst xs)) :
 ∃(its:List Value) (n:Nat),Zb7 xs its/\s.heap.get? p=some { cls:=.type "list",data:=.seq its.toArray n }/\xs.length<=sizeLine:=by
 obtain⟨z,its,n,r,e⟩:=I.hok p _ h
 exact⟨its,n,r,e,z⟩
theorem Inv.lstUpd {Xbr:List (Addr×Obj)}{σ:St}{H:Hp}{s:Shared}{p:Addr}{xs ys:List V}{its its':List Value}{n n':Nat}{f:Obj->Obj}(I:Inv X Xbr σ H s)(h:H p=some (.lst xs))
 (ho:s.heap.get? p=some { cls:=.type "list",data:=.seq its.toArray n }) (hf:f { cls:=.type "list",data:=.seq its.toArray n }={ cls:=.type "list",data:=.seq its'.toArray n' }) (r:Zb7 ys its') (hz:ys.length<=sizeLine) (t:Nat) :
 Inv X Xbr σ (upd H p (.lst ys)) { s with heap:=s.heap.update p f,toks:=t }:=by
 have e:(s.heap.update p f).get? p=some { cls:=.type "list",data:=.seq its'.toArray n' }:=by
  rw[Heap.get?_update_self f ho (by rw[hf]<;>rfl),hf]
 refine I.write (x:=p) (e:=p) (by rw[h];trivial) (.inl rfl) (fun b u hb q=>(Xa7 _ _ (Ne.symm hb)).trans q) ⟨_,e⟩ ?_
 exact⟨hz,its',n',r,e⟩
def Zpj:V->V->V->Hp->(Hp->Prop)->Prop:=fun o i v H Q=>∃p xs k j,o=.ref p/\i=.int k/\H p=some (.lst xs)/\ixN xs.length k=some j/\Q (upd H p (.lst (xs.set j v)))
theorem ZdJ:Zu8 X Zpj:=by
 intro Xbr s σ H o i v ov iv u Q I ro ri rv h;obtain⟨p,xs,k,j,rfl,rfl,hp,hj,q⟩:=h
 cases ro
 obtain⟨t,rfl⟩:=ri
 obtain⟨its,n,r,ho,hz⟩:=I.lst hp
 obtain⟨h1,h2,h3,h4⟩:=ZoL hj
 have hl:=r.length
 have hn:=Zgt
 have I':Inv X Xbr σ (upd H p (.lst (xs.set j v))) { s with heap:=s.heap.update p (Obj.mapSeq (·.setIfInBounds j u)) } :=
  I.lstUpd hp ho (ZlO its n j u) (r.set rv j) (by rw[List.length_set];exact hz) s.toks
 by_cases h0:0<=k
 ·have hk:k.toNat=j:=by
   rw[seqIndex_of h0 h4]at h1;exact Option.some.inj h1
  exact W.ki_setAt ho h0 (by omega) (by rw[XC,<- hl];exact h4) (by rw[hk];exact⟨_,I',q⟩)
 ·have hk:(k+(its.toArray.size:Int)).toNat=j:=by
   rw[seqIndex_neg (by omega) h3]at h1;rw[XC,<- hl];exact Option.some.inj h1
  exact W.ki_setBack ho (by omega) (by rw[XC,<- hl];exact h3) (by omega) (by rw[hk];exact⟨_,I',q⟩)
def Zjp:V->Bool
 |.non=>true
 |.bl _=>true
 |.int _=>true
 |.str _=>true
 |_=>false
def eqV:V->V->Bool
 |.non,.non=>true
 |.bl a,.bl b=>a==b
 |.bl a,.int b=>(if a then 1 else 0)==b
 |.int a,.bl b=>a==(if b then 1 else 0)
 |.int a,.int b=>a==b
 |.str a,.str b=>a==b
 |_,_=>false
theorem Ztm {A:Around}{s:Shared}{y x:V}{u v:Value}(ry:Zbl y u)(rx:Zbl x v)(fy:Zjp y=true)(fx:Zjp x=true):SeqAt.EqAt A s u v (eqV y x):=by
 cases y with
 |non =>
   cases ry
   cases x with
   |non=>cases rx;exact SeqAt.EqAt.same _
   |bl b=>cases rx;exact SeqAt.EqAt.none_bool b
   |int b=>obtain⟨t,rfl⟩:=rx;exact SeqAt.EqAt.none_int b t
   |str b=>obtain⟨t,rfl⟩:=rx;exact SeqAt.EqAt.none_str b t
   |_=>exact Xp (show false=true from fx) Xq
 |bl a =>
   cases ry
   cases x with
   |non=>cases rx;exact SeqAt.EqAt.bool_none a
   |bl b=>cases rx;exact SeqAt.EqAt.bool_bool a b
   |int b=>obtain⟨t,rfl⟩:=rx;exact SeqAt.EqAt.bool_int a b t
   |str b=>obtain⟨t,rfl⟩:=rx;exact SeqAt.EqAt.bool_str a b t
   |_=>exact Xp (show false=true from fx) Xq
 |int a =>
   obtain⟨t',rfl⟩:=ry
   cases x with
   |non=>cases rx;exact SeqAt.EqAt.int_none a t'
   |bl b=>cases rx;exact SeqAt.EqAt.int_bool a t' b
   |int b=>obtain⟨t,rfl⟩:=rx;exact SeqAt.EqAt.int_int a t' b t
   |str b=>obtain⟨t,rfl⟩:=rx;exact SeqAt.EqAt.int_str a t' b t
   |_=>exact Xp (show false=true from fx) Xq
 |str a =>
   obtain⟨t',rfl⟩:=ry
   cases x with
   |non=>cases rx;exact SeqAt.EqAt.str_none a t'
   |bl b=>cases rx;exact SeqAt.EqAt.str_bool a t' b
   |int b=>obtain⟨t,rfl⟩:=rx;exact SeqAt.EqAt.str_int a t' b t
   |str b=>obtain⟨t,rfl⟩:=rx;exact SeqAt.EqAt.str_str a t' b t
   |_=>exact Xp (show false=true from fx) Xq
 |_=>exact Xp (show false=true from fy) Xq
def eqU (x:V)(u:Value):Bool:=match u with
 |.none=>eqV .non x
 |.bool b=>eqV (.bl b) x
 |.int i _=>eqV (.int i) x
 |.str z _=>eqV (.str z) x
 |_=>false
theorem ZqJ {x y:V}{u:Value}(r:Zbl y u)(f:Zjp y=true):eqU x u=eqV y x:=by
 cases y with
 |non=>cases r;rfl
 |bl b=>cases r;rfl
 |int i=>obtain⟨t,rfl⟩:=r;rfl
 |str z=>obtain⟨t,rfl⟩:=r;rfl
 |_=>exact Xp (show false=true from f) Xq
theorem Zk4 {x:V}:∀{xs:List V} {us:List Value},Zb7 xs us->xs.all Zjp=true->us.any (eqU x)=xs.any fun y=>eqV y x
 |_,_,.nil,_=>rfl
 |y::xs,u::us,.cons r t,f=>by
   rw[List.all_cons,XaF]at f;rw[Xbg,Xbg,ZqJ r f.1,Zk4 t f.2]
theorem ZhW {A:Around}{s:Shared}{x:V}{v:Value}(rx:Zbl x v)(fx:Zjp x=true):∀{xs:List V} {us:List Value},Zb7 xs us->xs.all Zjp=true->∀u∈us,SeqAt.EqAt A s u v (eqU x u)
 |_,_,.nil,_=>fun u hu=>by cases hu
 |y::xs,u::us,.cons r t,f=>fun u' hu=>by
   rw[List.all_cons,XaF]at f;rcases Xf.mp hu with rfl|hu
   ·rw[ZqJ r f.1];exact Ztm r rx f.1 fx
   ·exact ZhW rx fx t f.2 u' hu
def inV (x:V)(xs:List V):Bool:=xs.any fun y=>eqV y x
def rIn (K:W.Frag)(neg:Bool):R2:=fun x y H Q=>∃p xs,y=.ref p/\(SqL K H p xs\/SqT K H p xs)/\Zjp x=true/\xs.all Zjp=true/\Q (.bl (if neg then !inV x xs else inV x xs)) H
theorem ZfU:OpR X (compareOp .NotIn) (rIn X.K true):=by
 intro Xbr s σ H x y v u Q I rx ry h;obtain⟨p,xs,rfl,hq,fx,fs,q⟩:=h
 cases ry
 rcases hq with hq|hq
 ·obtain⟨its,r,pl,hz⟩:=I.list hq
  refine SeqAt.notIn_listAt (eqU x) pl.isList (fun w hw=>ZhW rx fx r fs w (by simpa using hw)) ⟨.bl _,H,I,rfl,?_⟩
  rw[show its.toArray.any (eqU x)=its.any (eqU x) by simp,Zk4 r fs]
  exact q
 ·obtain⟨its,r,pl,hz⟩:=I.tuple hq
  refine SeqAt.notIn_tupleAt (eqU x) pl (fun w hw=>ZhW rx fx r fs w (by simpa using hw)) ⟨.bl _,H,I,rfl,?_⟩
  rw[show its.toArray.any (eqU x)=its.any (eqU x) by simp,Zk4 r fs]
  exact q
theorem Zjc:Zd1 X (.builtin "len") (fun xs H Q=>∃p ys,xs=[.ref p]/\(SqL X.K H p ys\/SqT X.K H p ys)/\Q (.int ys.length) H):=by
 intro Xbr s σ H xs us Q I r h;obtain⟨p,ys,rfl,hq,q⟩:=h
 obtain⟨u,rfl,rx⟩:=Zhf r
 cases rx
 have hn:=Zgt
 rcases hq with hq|hq
 ·obtain⟨its,r',pl,hz⟩:=I.list hq
  have hlen:=r'.length
  exact Calls.call_len_list pl.isList (by simp only[XC]<;>omega) ⟨.int ys.length,H,I.tok _,⟨s.toks+1,by rw[XC,hlen]⟩,q⟩
 ·obtain⟨its,r',pl,hz⟩:=I.tuple hq
  have hlen:=r'.length
  exact len_tuple pl (by simp only[XC]<;>omega) ⟨.int ys.length,H,I.tok _,⟨s.toks+1,by rw[XC,hlen]⟩,q⟩
theorem Zjy:Zd1 X (.type "list") (fun xs H Q=>∃p ys,xs=[.ref p]/\(SqL X.K H p ys\/SqT X.K H p ys)/\∀l,H l=none->Q (.ref l) (upd H l (.lst ys))):=by
 intro Xbr s σ H xs us Q I r h;obtain⟨p,ys,rfl,hq,q⟩:=h
 obtain⟨u,rfl,rx⟩:=Zhf r
 cases rx
 have fin:∀(its:List Value),Zb7 ys its->ys.length<=sizeLine->∀(h':Heap) (c':Nat),(∀b o',s.heap.get? b=some o'->h'.get? b=some o') ->
  h'.get? s.heap.objs.size=some { cls:=.type "list",dict:=none,data:=.seq its.toArray c',slots := #[] }->EP X Xbr σ Q (.ref s.heap.objs.size) { s with heap:=h' }:=fun its r' hz h' c' kp e =>
  ⟨.ref s.heap.objs.size,_,I.laid (t':=s.toks) kp (Xw _) (show Zcw X.prog X.w _ h' _ (.lst ys) from⟨hz,its,c',r',e⟩),rfl,q _ (I.hok.fresh (Xw _))⟩
 rcases hq with hq|hq
 ·obtain⟨its,r',pl,hz⟩:=I.list hq
  have hlen:=r'.length
  obtain⟨o,ho,hc,n,hd⟩:=pl.isList
  exact call_list_seq p (.inl rfl) ho hc hd (fun h' c' kp e=>fin its r' hz h' c' kp e) (by simp only[XC]<;>omega)
 ·obtain⟨its,r',pl,hz⟩:=I.tuple hq
  have hlen:=r'.length
  obtain⟨o,ho,hc,n,hd⟩:=pl
  exact call_list_seq p (.inr rfl) ho hc hd (fun h' c' kp e=>fin its r' hz h' c' kp e) (by simp only[XC]<;>omega)
theorem Zij:Zd1 X (.type "tuple") (fun xs H Q=>∃p ys,xs=[.ref p]/\((SqL X.K H p ys/\∀l,H l=none->Q (.ref l) (upd H l (.tup ys)))\/(SqT X.K H p ys/\Q (.ref p) H))):=by
 intro Xbr s σ H xs us Q I r h;obtain⟨p,ys,rfl,h⟩:=h
 obtain⟨u,rfl,rx⟩:=Zhf r
 cases rx
 rcases h with ⟨hq,q⟩|⟨hq,q⟩
 ·obtain⟨its,r',pl,hz⟩:=I.list hq
  have hlen:=r'.length
  refine call_tuple_list pl.isList (fun h' kp=>?_) (by simp only[XC]<;>omega)
  have I1:Inv X Xbr σ H { s with heap:=h' }:=I.kept (t':=s.toks) kp
  have I2:Inv X Xbr σ (upd H h'.objs.size (.tup ys)) { s with heap:=h'.push { cls:=.type "tuple",data:=.seq its.toArray } } :=
   I1.laid (t':=s.toks) (fun b o e=>Xv _ e) (Xw _) (show Zcw X.prog X.w _ _ _ (.tup ys) from⟨hz,its,r',IsTup.new _ _⟩)
  exact⟨.ref h'.objs.size,_,I2,rfl,q _ (I1.hok.fresh (Xw _))⟩
 ·obtain⟨its,r',pl,hz⟩:=I.tuple hq
  exact call_tuple_same pl ⟨.ref p,H,I,rfl,q⟩
def tyV (K:W.Frag)(T:String)(x:V)(H:Hp):Prop:=match x with
 |.str _=>T = "str"
 |.int _=>T = "int"
 | .ref p=>(T = "list" /\ ∃xs,SqL K H p xs)\/(T = "tuple" /\ ∃o,K.lookup p=some o/\o.cls=.type "tuple" /\ o.dict=none) \/
  (T = "dict" /\ ((∃kvs,H p=some (.dK kvs))\/∃kvs,H p=some (.dT kvs)))\/(T = "set" /\ ∃S n,H p=some (.set S n))
 |_=>False
theorem ZqF {Xbr:List (Addr×Obj)}{σ:St}{H:Hp}{s:Shared}{T:String}{x:V}{v:Value}(I:Inv X Xbr σ H s)(r:Zbl x v)(ty:tyV X.K T x H) :
 s.TypeIs v T/\∀a,v=.ref a->∃ob,s.heap.get? a=some ob/\ob.dict=none:=by
 cases x with
 |str z =>
   obtain⟨t,rfl⟩:=r
   cases (show T = "str" from ty)
   exact⟨typeIs_str s z t,fun _ e=>nomatch e⟩
 |int i =>
   obtain⟨t,rfl⟩:=r
   cases (show T = "int" from ty)
   exact⟨typeIs_int s i t,fun _ e=>nomatch e⟩
 |ref p =>
   cases r
   rcases ty with ⟨rfl,xs,hq⟩|⟨rfl,o,hk,hc,hd⟩|⟨rfl,hk⟩|⟨rfl,S,n,hk⟩
   ·obtain⟨its,_,pl,_⟩:=I.list hq
    refine⟨pl.isList.typeIs,fun a e=>?_⟩
    cases e
    obtain⟨o,n,e,c,hd,_⟩:=pl
    exact⟨o,e,hd⟩
   ·refine⟨⟨o,I.kIn p o hk,hc⟩,fun a e=>?_⟩
    cases e
    exact⟨o,I.kIn _ o hk,hd⟩
   ·have z:∃o,s.heap.get? p=some o/\o.ExactDict:=by
     rcases hk with ⟨kvs,hk⟩|⟨kvs,hk⟩
     ·obtain⟨_,_,_,_,o,_,_,e,ex,_⟩:=I.hok p _ hk
      exact⟨o,e,ex⟩
     ·obtain⟨_,_,_,_,o,_,_,e,ex,_⟩:=I.hok p _ hk
      exact⟨o,e,ex⟩
    obtain⟨o,e,ex⟩:=z
    refine⟨⟨o,e,ex.1⟩,fun a e2=>?_⟩
    cases e2
    exact⟨o,e,ex.2.1⟩
   ·obtain⟨o,_,_,_,e,ex,_⟩:=I.hok p _ hk
    refine⟨⟨o,e,ex.1⟩,fun a e2=>?_⟩
    cases e2
    exact⟨o,e,ex.2.1⟩
 |_=>exact False.elim ty
def ZuQ (K:W.Frag)(T:String)(r:V->List V->Hp->VK->Prop)(to:TE):TE:=fun σ H Q=>to σ H fun x H1=>tyV K T x H1/\r x [] H1 Q
def tBM (K:W.Frag)(T:String)(r:V->List V->Hp->VK->Prop)(to:TE)(t:TA):TE:=fun σ H Q=>to σ H fun x H1=>tyV K T x H1/\t σ H1 fun xs H2=>r x xs H2 Q
variable {o e:Expr}{es:List Expr}{to:TE}{t:TA}{name:Str}{apos cpos:Pos}{T id:String}{r:V->List V->Hp->VK->Prop}
theorem Zt9 (pa:PlainAttrs T) (slot:Slot T name id) (hty:typeOf (.builtin id)=pure (.type "method_descriptor")) (hm:MtR X id r) (ho:PE X o to)
 (hbase:attributeBase o name X.env (eval o X.env)=eval o X.env:=by rfl) (hline:(apos.endLine==cpos.line)=true:=by rfl):PE X (.Call (.Attribute o name apos) [] [] cpos) (ZuQ X.K T r to):=by
 intro Xbr s σ H Q I h;refine wpAny_Call_method0_late hbase hline (thn (ho Xbr s σ H _ I h) fun v s1 ⟨x,H1,I1,r1,ty,q1⟩=>?_)
 obtain⟨h1,h2⟩:=ZqF I1 r1 ty
 exact⟨T,id,pa,slot,hty,h1,h2,Calls.callWith_builtin rfl (PySem.evalArgs_none (hm Xbr s1 σ H1 x [] v [] Q I1 r1 .nil q1))⟩
theorem Zgb (pa:PlainAttrs T) (slot:Slot T name id) (hty:typeOf (.builtin id)=pure (.type "method_descriptor")) (hm:MtR X id r) (ho:PE X o to) (ha:PA X (e::es) t)
 (hbase:attributeBase o name X.env (eval o X.env)=eval o X.env:=by rfl)
 (hfew:((backTo cpos (starEach (e::es) X.env)).all (fun x => !x.1)&&(backToKw cpos (keywordEach [] X.env)).all (fun x=>x.1.isSome)
  && decide ((e::es).length+([]:List Keyword).length+(if ([]:List Keyword).isEmpty then 0 else 1)<30))=true:=by rfl)
 (hline:(apos.endLine==cpos.line)=true:=by rfl) (hs:starEach (e::es) X.env=(false,eval e X.env)::starEach es X.env:=by rfl) (hplain:(backTo cpos (starEach es X.env)).any (·.1)=false:=by rfl) :
 PE X (.Call (.Attribute o name apos) (e::es) [] cpos) (tBM X.K T r to t):=by
 intro Xbr s σ H Q I h;refine wpAny_Call_method_late hbase hfew hline rfl (thn (ho Xbr s σ H _ I h) fun v s1 ⟨x,H1,I1,r1,ty,q1⟩=>?_)
 obtain⟨h1,h2⟩:=ZqF I1 r1 ty
 refine⟨T,id,pa,slot,hty,h1,h2,?_⟩
 have hA:=ha cpos Xbr s1 σ H1 _ I1 q1
 rw[hs]at hA ⊢;refine Calls.callWith_builtin (by show(false||(backTo cpos (starEach es X.env)).any (·.1))=false;rw[hplain]<;>rfl) (Calls.evalArgs_plain ?_)
 exact thn hA fun us s2 ⟨vs,H2,I2,r2,q2⟩=>hm Xbr s2 σ H2 x vs v us Q I2 r1 r2 q2
end
def MtM (X:Cx)(id:String)(r:V->List V->Hp->VK->Prop):Prop :=
 ∀(Xbr:List (Addr×Obj)) (s:Shared) (σ:St) (H:Hp) (x:V) (xs:List V) (v:Value) (us:List Value) (Q:VK),Inv X Xbr σ H s->Zbl x v->Zb7 xs us->r x xs H Q ->
  wpAny (model X.prog X.w) X.A (call (.builtin id) (v::us)) (EP X Xbr σ Q) X.xe s
theorem Zb7.one:∀{x:V} {us:List Value},Zb7 [x] us->∃u,us=[u]/\Zbl x u
 |_,_,.cons r .nil=>⟨_,rfl,r⟩
theorem Zb7.rep {xs:List V}{us:List Value}(h:Zb7 xs us):∀k:Nat,Zb7 (List.replicate k xs).flatten (List.replicate k us).flatten
 |0=>.nil
 |k+1=>by
   rw[Xaw,Xaw,XaI,XaI];exact Zb7.append h (Zb7.rep h k)
theorem ZjE (its:List Value):∀(k:Nat) (acc:List Value),
 List.foldl (fun x1 x2=>x1++x2) acc.toArray (List.replicate k its.toArray)=(acc++(List.replicate k its).flatten).toArray
 |0,acc=>by simp
 |k+1,acc=>by
   have e:acc.toArray++its.toArray=(acc++its).toArray:=by simp
   have e2:(acc++its)++(List.replicate k its).flatten=acc++(List.replicate (k+1) its).flatten:=by
    rw[Xaw,XaI,Xav]
   rw[<- e2,<- ZjE its k (acc++its),<- e,Xaw,List.foldl_cons]
section
variable {X:Cx}{Xbr:List (Addr×Obj)}{σ:St}{H:Hp}{s:Shared}{l b:Addr}{xs ys zs:List V}
theorem Inv.lset {its its':List Value}{n:Nat}{f:Array Value->Array Value}{t':Nat}(I:Inv X Xbr σ H s)(hH:H l=some (.lst xs))
 (e:s.heap.get? l=some { cls:=.type "list",data:=.seq its.toArray n }) (hf:f its.toArray=its'.toArray) (hv:Zb7 ys its') (hz:ys.length<=sizeLine) :
 Inv X Xbr σ (upd H l (.lst ys)) { s with heap:=s.heap.update l (Obj.mapSeq f),toks:=t' }:=by
 have q:=PySem.IsL.update e f
 rw[hf]at q;refine I.write (x:=l) (e:=l) (by rw[hH];exact trivial) (.inl rfl) (fun b' u hb hu=>(Xa7 s.heap (Obj.mapSeq f) (Ne.symm hb)).trans hu) ⟨_,q⟩ ?_
 exact⟨hz,its',_,hv,q⟩
theorem Inv.lnew {its:List Value}{t':Nat}(I:Inv X Xbr σ H s)(hv:Zb7 ys its)(hz:ys.length<=sizeLine) :
 Inv X Xbr σ (upd H s.heap.objs.size (.lst ys)) { s with heap:=s.heap.push { cls:=.type "list",data:=.seq its.toArray },toks:=t' } :=
 I.laid (fun _ _ q=>Xv _ q) (Xw _) ⟨hz,its,0,hv,XZ _ rfl⟩
theorem Inv.fresh (I:Inv X Xbr σ H s):H s.heap.objs.size=none:=I.hok.fresh (Xw _)
theorem Inv.lstM (I:Inv X Xbr σ H s) (hH:H l=some (.lst xs)):xs.length<=sizeLine/\∃(its:List Value) (n:Nat),Zb7 xs its/\xs.length=its.length/\s.heap.get? l=some { cls:=.type "list",data:=.seq its.toArray n }:=by
 obtain⟨z,its,n,r,e⟩:=I.hok l _ hH
 exact⟨z,its,n,r,r.length,e⟩
theorem Zp1 {n:Nat}(h:n<=sizeLine):Builtin.List.listTooLong n=false:=by
 unfold Builtin.List.listTooLong;exact Xy (by omega)
end
section
variable {X:Cx}
def Zf0:V->List V->Hp->VK->Prop:=fun x vs H Q=>∃l xs y,x=.ref l/\vs=[y]/\H l=some (.lst xs)/\xs.length<sizeLine/\Q .non (upd H l (.lst (xs++[y])))
theorem ZbA:MtM X "list.append" Zf0:=by
 intro Xbr s σ H x vs v us Q I rx rv h;obtain⟨l,xs,y,rfl,rfl,hH,hz,q⟩:=h
 cases rx
 obtain⟨u,rfl,ru⟩:=rv.one
 obtain⟨z,its,n,r,hl,e⟩:=I.lstM hH
 refine call_meets F.slot_list_append ⟨_,e,rfl⟩ F.entry_list_append (F.args_list_append_2 _ _) (PySem.list_append l its.toArray n u (by rw[XC];omega)) ⟨e,?_⟩
 refine⟨.non,_,I.lset (its':=its++[u]) hH e (by simp) (r.append (.cons ru .nil)) ?_,rfl,q⟩
 rw[Xt,List.length_singleton];omega
def Zvk:R2:=fun x y H Q=>∃l b xs zs,x=.ref l/\y=.ref b/\H l=some (.lst xs)/\H b=some (.lst zs)/\xs.length+zs.length<=sizeLine/\∀p,H p=none->Q (.ref p) (upd H p (.lst (xs++zs)))
theorem ZnZ:OpR X (binaryOp .Add) Zvk:=by
 intro Xbr s σ H x y v u Q I rx ry h;obtain⟨l,b,xs,zs,rfl,rfl,hH,hB,hz,q⟩:=h
 cases rx
 cases ry
 obtain⟨z,its,n,r,hl,e⟩:=I.lstM hH
 obtain⟨z2,its2,n2,r2,hl2,e2⟩:=I.lstM hB
 refine PySem.P.add_list e e2 ?_ (by rw[XC,XC];omega)
 have ea:its.toArray++its2.toArray=(its++its2).toArray:=by simp
 rw[ea];exact⟨.ref _,_,I.lnew (t':=s.toks) (r.append r2) (by rw[Xt];omega),rfl,q _ I.fresh⟩
def ZuY:R2:=fun x y H Q=>∃l k xs,x=.ref l/\y=.int k/\H l=some (.lst xs) /\ -(2^63)<=k/\k<2^63/\xs.length*k.toNat<=sizeLine /\
 ∀p,H p=none->Q (.ref p) (upd H p (.lst (List.replicate k.toNat xs).flatten))
theorem ZrM {α:Type}(xs:List α)(k:Nat):(List.replicate k xs).flatten.length=k*xs.length:=by
 induction k with
 |zero=>simp
 |succ k ih=>rw[Xaw,XaI,Xt,ih,Nat.succ_mul,Nat.add_comm]
theorem ZnE:OpR X (binaryOp .Mult) ZuY:=by
 intro Xbr s σ H x y v u Q I rx ry h;obtain⟨l,k,xs,rfl,rfl,hH,h1,h2,hz,q⟩:=h
 cases rx
 obtain⟨t,rfl⟩:=ry
 obtain⟨z,its,n,r,hl,e⟩:=I.lstM hH
 have hlen:its.toArray.size*k.toNat<=sizeLine:=by rw[XC,<- hl];exact hz
 have hcap:¬its.toArray.size*k.toNat > (2^63-1)/8:=by
  have:(sizeLine:Nat)<=(2^63-1)/8:=by decide
  omega
 have hfit:¬(!Builtin.List.listFitsIndex k)=true:=by
  rw[fitsIndex_both h1 h2];exact Xq
 have hlong:¬Builtin.List.listTooLong (its.toArray.size*k.toNat)=true:=by
  rw[Zp1 hlen];exact Xq
 have hnew:List.foldl (fun x1 x2=>x1++x2) #[] (List.replicate (if its.toArray.isEmpty=true then 0 else k.toNat) its.toArray)=(List.replicate k.toNat its).flatten.toArray:=by
  have f0:∀m:Nat,List.foldl (fun x1 x2=>x1++x2) #[] (List.replicate m its.toArray)=(List.replicate m its).flatten.toArray:=fun m=>by
   have:=ZjE its m []
   rw[Xbl]at this;exact this
  rw[f0];cases its with
  |nil=>simp
  |cons a r'=>rw[Xa (by simp)]
 refine wpAny_binaryOp_repeat_ref (T := "list") (U := "int") (by decide) ⟨_,e,rfl⟩ (fun s'=>typeIs_int s' k t) noFill_list_mul F.fills_int_mul F.slot_int_rmul repeat_list F.slot_int_index.lookup
  (call_meets F.slot_int_rmul (typeIs_int s k t) F.entry_int_rmul (F.args_int_rmul_2 _ _) (int___rmul___int_list k t l its.toArray n)
   ⟨e,rfl,⟨_,e,rfl⟩,call_meets F.slot_list_mul ⟨_,e,rfl⟩ F.entry_list_mul (F.args_list_mul_2 _ _) (AutoListH.list___mul___list_int_3 l its.toArray n k t hfit hcap hlong) ⟨e,?_⟩⟩)
 rw[hnew];exact⟨.ref _,_,I.lnew (t':=s.toks) (r.rep k.toNat) (by rw[ZrM,XaZ];exact hz),rfl,q _ I.fresh⟩
end
section
variable {prog:Program}{w:World}{A:Around}{E:Value->Shared->Prop}{s:Shared}
end
section
variable {X:Cx}
end
end L2
namespace Att
open PySem PySem.W PySem.Calls PyProof.Rows
theorem ZgY {P:Params}{h:Heap}:∀(ns:List Int) (vs:List Value),WellAll P h vs (ns.map WData.int)->IntsAre vs ns:=by
 intro ns;induction ns with
 |nil =>
   intro vs w;rw[XaY]at w;cases w
   exact .nil
 |cons n ns ih =>
   intro vs w;rw[Xr]at w;cases w with
   |cons a b =>
     cases a
     exact .cons _ _ (ih _ b)
theorem ZnF {l:OpenLaw}{n:Nat}(hn:l.most=some n){P:Params}{h:Heap}{args:List WData}{vals:List Value}
 (hpre:l.row.toRowW.claim.pre args=true) (hwl:WellAll P h vals args) :
 ∃a vs ns,vals=[Value.ref a]/\args=[WData.list (ns.map WData.int)]/\h.get? a=some { cls:=.type "list",data:=.seq vs.toArray }/\IntsAre vs ns/\ns.length<=n:=by
 have hsh:WShape.hasAll [] args [.list .int]=true:=(pre_splitW hpre).1
 have hc:l.pre.holds [] { args:=args }=true:=(pre_splitW hpre).2
 obtain⟨d,r,rfl,h1,h2⟩:=hasAllW_cons hsh
 obtain rfl:=hasAllW_nil h2
 obtain⟨xs,rfl,h3⟩:=hasW_list h1
 obtain⟨ns,rfl⟩:=items_int h3
 have hlen:ns.length<=n:=by
  unfold OpenLaw.pre at hc;have h4:(WTm.not (.lt (.lit (.int (n:Int))) (.len (.arg 0)))).holds [] { args:=[.list (ns.map .int)] }=true:=by
   have h4:=(holds_andW hc).1
   rw[hn]at h4;exact h4
  have h5:=condW_of h4 (w_not (w_lt w_lit (w_len_list (w_arg rfl))))
  rw[Xj]at h5;refine Nat.le_of_not_lt fun q=>?_
  have q':(n:Int)<((ns.length:Nat):Int):=by omega
  first
   |(rw[X9 q']at h5;exact Xp h5 (by decide))
   |(simp at h5;omega)
 cases hwl with
 |cons w1 w2 =>
   cases w2
   cases w1 with
   |list ho hall=>exact⟨_,_,ns,rfl,rfl,ho,ZgY ns _ hall,hlen⟩
theorem Zof (l:OpenLaw)(args:List WData):l.row.toRowW.claim.post args (.bool true) args=true :=
 postW_of (r:=l.row.toRowW) (X:=(true==true))
  (show WShape.has [] (.bool true) .bool=true by first|rfl|decide|simp[WShape.has,WShape.arms,WShape.armsAll])
  (show(WTm.eq .res (.lit (.bool true))).value [] { args:=args,res:=some (.bool true),after:=args }=some (.bool (true==true)) from w_eq_bool (w_res rfl) w_lit) rfl
section
variable {prog:Program}{w:World}{A:Around}{E:Value->Shared->Prop}{s:Shared}{K:Frag}
end
end Att
namespace L2
open PySem PySem.Spec PyProof.Rows
theorem ZjJ:∀{vs:List Value} {ns:List Int},IntsAre vs ns->Zb7 (ns.map V.int) vs
 |_,_,.nil=>.nil
 |_,_,.cons n t h=>.cons ⟨t,rfl⟩ (ZjJ h)
def Zvu (H:Hp):Prop := ∀b,H b=none\/∃o xs,H b=some (.frz o (.lst xs))
abbrev KOf {K:W.Frag}{h:Heap}(_:K.In h):W.Frag:=K
def Zei (s:Stmt)(j:Nat):Stmt:=match s with
 |.ClassDef _ _ _ body _ _ _ _ _ _ _=>body.getD j (.Pass ⟨0,0,0,0⟩)
 |_=>.Pass ⟨0,0,0,0⟩
def ZbO (s:Stmt):Arguments:=match s with
 |.FunctionDef _ a _ _ _ _ _ _ _ _=>a
 |_=>{ posonlyargs:=[],args:=[],vararg:=none,kwonlyargs:=[],kw_defaults:=[],kwarg:=none,defaults:=[] }
def ZaS (s:Stmt):List Stmt:=match s with
 |.FunctionDef _ _ b _ _ _ _ _ _ _=>b
 |_=>[]
def Zaf (s:Stmt):Scope:=match s with
 |.FunctionDef _ _ _ _ _ _ sc _ _ _=>sc
 |_=>{ kind:=.function,names:=[],isGenerator:=false,isCoroutine:=false }
abbrev CX0:CXT:=fun _ _ _ _ _ _=>False
abbrev E0:XK:=fun _ _ _=>False
theorem ZsA {X:Cx}:Zh6 CX0 X E0:=fun _ _ _ _ _ _ _ h=>h.elim
structure Fun (K:W.Frag)(x qual:Str)(st:Stmt)(f:Addr)(fd:FuncData):Prop where
 ex:∃(oc:Value) (od:Option Addr) (kV doc pm:Value) (an:Option Addr) (cdv ct:Value) (osl:Array (Option Value)),
  fd=W.fnOf x qual (ZbO st) (ZaS st) (Zaf st) .none kV doc pm an cdv ct/\K.lookup f=some ⟨oc,od,.func fd,osl⟩/\W.codeIn K cdv qual=true
 kp:W.keepIn K (.ref f)=true
section
variable {P:Program}{w:World}{K:W.Frag}{mg:Str->Option Value}{base:Heap}
theorem Fun.ok {x qual:Str}{st:Stmt}{f:Addr}{fd:FuncData}{N ps:List Str}{k:Nat}{sp:Sp}(F:Fun K x qual st f fd)(S:FnScope N ps (Zaf st))(len:∀vs H Q E,sp vs H Q E->vs.length=ps.length)
 (Xbs:∀(cdv:Value) (A:Around) (outer:List Env) (s:Shared) (H:Hp) (vs:List V) (Q:VK) (E:XK),Room k (A.deeper (envOfC qual (Zaf st) s.heap.objs.size f cdv))->sp vs H Q E ->
  ∃t,PSs (ZjN CX0 P w K mg base N qual (Zaf st) f cdv A outer s H E).nox (ZaS st) t/\t { nx:=fun _ H'=>Q .non H',rt:=Q } (start N vs) H):FnOk P w K mg base CX0 (k+1) f fd ps sp:=by
 obtain⟨oc,od,kV,doc,pm,an,cdv,ct,osl,rfl,lk,hcd⟩:=F.ex
 refine Zu2 lk hcd S len fun A outer s H vs Q E hr hsp=>?_
 obtain⟨t,h,q⟩:=Xbs cdv A outer s H vs Q E hr hsp
 exact⟨t,h.nox,q⟩
theorem Fun.binds {x qual:Str}{st:Stmt}{f:Addr}{fd:FuncData}{ps:List Str}(F:Fun K x qual st f fd)
 (h:∀(kV doc pm:Value) (an:Option Addr) (cdv ct:Value) (us:List Value),us.length=ps.length->bindArgs (W.fnOf x qual (ZbO st) (ZaS st) (Zaf st) .none kV doc pm an cdv ct) ⟨us,[]⟩=pure (ps.zip us)):ZfG K fd ps []:=by
 obtain⟨oc,od,kV,doc,pm,an,cdv,ct,osl,rfl,lk,hcd⟩:=F.ex
 exact .all (h kV doc pm an cdv ct)
theorem Zel {x qual:Str}{st:Stmt}{f:Addr}{oc:Value}{od an:Option Addr}{osl:Array (Option Value)}{kV doc pm cdv ct:Value}(l:K.lookup f=some ⟨oc,od,.func (W.fnOf x qual (ZbO st) (ZaS st) (Zaf st) .none kV doc pm an cdv ct),osl⟩)
 (c:W.codeIn K cdv qual=true) (k:W.keepIn K (.ref f)=true):Fun K x qual st f (W.fnOf x qual (ZbO st) (ZaS st) (Zaf st) .none kV doc pm an cdv ct):=⟨⟨oc,od,kV,doc,pm,an,cdv,ct,osl,rfl,l,c⟩,k⟩
end
theorem ZgQ {A:Around}{k:Nat}(hr:Room k A):A.units+1<cLine:=Xa5 (Nat.add_le_add_left (by decide:1<=64) _) hr.units
theorem ZaO {n:Nat}(h:n<=1000):n<sizeLine:=Xa5 h (by decide)
section
variable {X:Cx}
theorem pv (i:Nat) {x:Str} {pos:Pos} (hN:X.N[i]?=some x:=by rfl) (hv:Vis X.env.scope x:=by first|exact Or.inl rfl|exact Or.inr (Or.inl rfl)|exact Or.inr (Or.inr rfl)) (hd:(x==("__debug__" : Str))=false:=by decide)
 (hcd:(x==("__classdict__" : Str))=false:=by decide):PE X (.Name x pos) (Zb8 i):=Zui hN hv hd hcd
end
def ZaP (H H':Hp):Prop := ∀b o,H b=some o->H' b=some o
theorem ZaP.refl (H:Hp):ZaP H H:=fun _ _ h=>h
theorem ZaP.trans {H H1 H2:Hp}(a:ZaP H H1)(b:ZaP H1 H2):ZaP H H2:=fun c o h=>b c o (a c o h)
theorem ZaP.free {H H':Hp}(e:ZaP H H'){l:Addr}(h:H' l=Option.none):H l=Option.none:=by
 cases q:H l with
 |none=>rfl
 |some o =>
   rw[e l o q]at h;cases h
theorem ZaP.seq {K:W.Frag}{H H':Hp}{a:Addr}{xs:List V}(e:ZaP H H')(h:SqL K H a xs):SqL K H' a xs:=by
 rcases h with (h|⟨o,h⟩)|h
 ·exact .inl (.inl (e _ _ h))
 ·exact .inl (.inr ⟨o,e _ _ h⟩)
 ·exact .inr h
end L2
section
namespace L2
open PySem PySem.Spec PyProof.Rows
theorem Zf6 {env:Env}{F:Str×NameKind->List (Str×Addr)->Sem (ForInStep (List (Str×Addr)))}
 (h1:∀n c cs,env.cells.lookup n=some c->F (n,NameKind.free) cs=pure (.yield ((n,c)::cs)))
 (h2:∀n k cs,k≠NameKind.free->F (n,k) cs=pure (.yield cs)) :
 ∀(l:List (Str×NameKind)) (cs:List (Str×Addr)),(∀p∈l,p.2=NameKind.free->∃c,env.cells.lookup p.1=some c)->(∀x c,cs.lookup x=some c->env.cells.lookup x=some c) ->
  ∃cl,forIn l cs F=pure cl/\(∀x c,cl.lookup x=some c->env.cells.lookup x=some c)/\(∀x c,cs.lookup x=some c->∃c',cl.lookup x=some c')/\∀p∈l,p.2=NameKind.free->∃c,cl.lookup p.1=some c
 |[],cs,_,hc=>⟨cs,by rw[List.forIn_nil],hc,fun x c h=>⟨c,h⟩,fun p hp=>Xp hp (by simp)⟩
 |(n,k)::l,cs,hl,hc=>by
   have hl':∀p∈l,p.2=NameKind.free->∃c,env.cells.lookup p.1=some c:=fun p hp=>hl p (Xd _ hp)
   by_cases hk:k=NameKind.free
   ·subst hk
    obtain⟨c,e⟩:=hl (n,NameKind.free) Xb rfl
    have hc':∀x d,((n,c)::cs).lookup x=some d->env.cells.lookup x=some d:=fun x d q=>by
     cases hx:x==n with
     |true =>
       simp only[XO,hx]at q;cases q
       rw[eq_of_beq hx];exact e
     |false =>
       simp only[XO,hx]at q;exact hc x d q
    obtain⟨cl,a1,a2,a3,a4⟩:=Zf6 h1 h2 l ((n,c)::cs) hl' hc'
    have up:∀x d,cs.lookup x=some d->∃d',((n,c)::cs).lookup x=some d':=fun x d q=>by
     cases hx:x==n with
     |true=>exact⟨c,by simp only[XO,hx]⟩
     |false=>exact⟨d,by simp only[XO,hx];exact q⟩
    refine⟨cl,by rw[List.forIn_cons,h1 n c cs e,pure_bind];exact a1,a2,fun x d q=>?_,fun p hp hf=>?_⟩
    ·obtain⟨d',q'⟩:=up x d q
     exact a3 x d' q'
    ·rcases Xf.mp hp with rfl|hp
     ·exact a3 n c (by simp only[XO,beq_self_eq_true])
     ·exact a4 p hp hf
   ·obtain⟨cl,a1,a2,a3,a4⟩:=Zf6 h1 h2 l cs hl' hc
    refine⟨cl,by rw[List.forIn_cons,h2 n k cs hk,pure_bind];exact a1,a2,a3,fun p hp hf=>?_⟩
    rcases Xf.mp hp with rfl|hp
    ·exact Xp hf hk
    ·exact a4 p hp hf
theorem ZhA {scope:Scope}{env:Env}(h:∀p∈scope.names,p.2=NameKind.free->∃c,env.cells.lookup p.1=some c) :
 ∃cl,closureFor scope env=pure cl/\(∀x c,cl.lookup x=some c->env.cells.lookup x=some c)/\∀p∈scope.names,p.2=NameKind.free->∃c,cl.lookup p.1=some c:=by
 simp only[closureFor];obtain⟨cl,a1,a2,_,a4⟩:=Zf6 (env:=env) (F:=fun x r=>match x with|(name,kind)=>if (kind==NameKind.free)=true then do let a <- cellOf env name;pure (ForInStep.yield ((name,a)::r)) else pure (ForInStep.yield r))
  (fun n c cs e=>by
   show(if (NameKind.free==NameKind.free)=true then _ else _)=_
   rw[Xc (show(NameKind.free==NameKind.free)=true from rfl)];unfold cellOf;rw[e];rfl)
  (fun n k cs hk=>by
   have:(k==NameKind.free)=false:=by simpa using hk
   show(if (k==NameKind.free)=true then _ else _)=_
   rw[this,Xa Xq]) scope.names [] h (fun x c q=>by simp at q)
 refine⟨cl,?_,a2,a4⟩
 first
  |exact a1
  |(rw[bind_pure];exact a1)
  |(simp only[bind_pure]at *;exact a1)
  |(rw[show(forIn scope.names ([]:List (Str×Addr)) _ >>= fun r=>pure r)=_ from bind_pure _];exact a1)
theorem ZcX {env:Env}:∀{names:List (Str×NameKind)} {x:Str},names.lookup x=some .free ->
 (names.map fun(n,k)=>if (k==NameKind.free&&env.scope.kind==.function&&env.kindOf n==some .cell) then (n,NameKind.cell) else (n,k)).lookup x=some .cell \/
 (names.map fun(n,k)=>if (k==NameKind.free&&env.scope.kind==.function&&env.kindOf n==some .cell) then (n,NameKind.cell) else (n,k)).lookup x=some .free
 |[],_,h=>by simp at h
 |(n,k)::r,x,h=>by
   have ih:=@ZcX env r x
   show List.lookup x ((if (k==NameKind.free&&env.scope.kind==.function&&env.kindOf n==some .cell)=true then (n,NameKind.cell) else (n,k))::_)=_\/List.lookup x ((if (k==NameKind.free&&env.scope.kind==.function&&env.kindOf n==some .cell)=true then (n,NameKind.cell) else (n,k))::_)=_
   cases hx:x==n with
   |true =>
     simp only[XO,hx]at h;cases h
     by_cases hc:(NameKind.free==NameKind.free&&env.scope.kind==.function&&env.kindOf n==some .cell)=true
     ·rw[Xc hc];left;simp only[XO,hx]
     ·rw[Xa hc];right;simp only[XO,hx]
   |false =>
     simp only[XO,hx]at h;by_cases hc:(k==NameKind.free&&env.scope.kind==.function&&env.kindOf n==some .cell)=true
     ·rw[Xc hc];simp only[XO,hx];exact ih h
     ·rw[Xa hc];simp only[XO,hx];exact ih h
theorem Zdk {env:Env}:∀{names:List (Str×NameKind)} {x:Str},((names.map fun(n,k)=>if (k==NameKind.free&&env.scope.kind==.function&&env.kindOf n==some .cell) then (n,NameKind.cell) else (n,k)).lookup x=some .cell \/
 (names.map fun(n,k)=>if (k==NameKind.free&&env.scope.kind==.function&&env.kindOf n==some .cell) then (n,NameKind.cell) else (n,k)).lookup x=some .free)->names.lookup x=some .free\/names.lookup x=some .cell
 |[],_,h=>by simp at h
 |(n,k)::r,x,h=>by
   have ih:=@Zdk env r x
   have h:List.lookup x ((if (k==NameKind.free&&env.scope.kind==.function&&env.kindOf n==some .cell)=true then (n,NameKind.cell) else (n,k))::_)=_\/List.lookup x ((if (k==NameKind.free&&env.scope.kind==.function&&env.kindOf n==some .cell)=true then (n,NameKind.cell) else (n,k))::_)=_:=h
   cases hx:x==n with
   |true =>
     simp only[XO,hx];by_cases hc:(k==NameKind.free&&env.scope.kind==.function&&env.kindOf n==some .cell)=true
     ·have:k=NameKind.free:=by
       rw[XaF,XaF]at hc;exact eq_of_beq hc.1.1
      left;rw[this]
     ·rw[Xa hc]at h
      simp only[XO,hx]at h;exact h.symm
   |false =>
     simp only[XO,hx];by_cases hc:(k==NameKind.free&&env.scope.kind==.function&&env.kindOf n==some .cell)=true
     ·rw[Xc hc]at h;simp only[XO,hx]at h;exact ih h
     ·rw[Xa hc]at h;simp only[XO,hx]at h;exact ih h
structure CIn where
 cl:List (Str×Addr)
 C:Addr
 s₀:Shared
 H₀:Hp
 ex:List Addr
 pn:List (Addr×Obj)
def Zci (X:Cx)(N:List Str)(scope:Scope)(c:CIn):Cx where
 prog:=X.prog
 w:=X.w
 K:=X.K
 mg:=X.mg
 base:=X.base
 A:=X.A
 N:=N
 s₀:=c.s₀
 H₀:=c.H₀
 env:=compEnvC scope c.cl c.C X.env
 outer:=X.stack
 stack:=X.stack
 ex:=c.ex
 fn:=fun _=>false
 calm:=X.calm
 pn:=c.pn
 xe:=fun _ _=>False
def Zlp (f:List (Option Nat))(σ:St):St:=f.map fun o=>match o with|some i=>(σ[i]?).join|none=>none
structure CompOk (NX:List Str)(sc:Scope)(N:List Str)(f:List (Option Nat))(scope:Scope):Prop where
 kind:scope.kind=.function
 nocell:∀y∈scope.names,y.2≠NameKind.cell
 names:∀y∈scope.names,y.2=NameKind.local->scope.names.lookup y.1=some .local
 free:∀y∈scope.names,y.2=NameKind.free->sc.names.lookup y.1=some .cell\/sc.names.lookup y.1=some .free
 len:f.length=N.length
 ix:∀(j i:Nat),f[j]?=some (some i)->∃x,N[j]?=some x/\NX[i]?=some x/\scope.names.lookup x=some .free
def Zii (NX:List Str)(sc:Scope)(N:List Str)(f:List (Option Nat))(scope:Scope):Bool :=
 decide (scope.kind=.function)&&(scope.names.all fun y=>decide (y.2≠NameKind.cell)&&(decide (y.2≠NameKind.local)||decide (scope.names.lookup y.1=some .local)) &&
  (decide (y.2≠NameKind.free)||decide (sc.names.lookup y.1=some .cell)||decide (sc.names.lookup y.1=some .free)))&&decide (f.length=N.length) &&
 (List.range f.length).all fun j=>match f[j]? with
  | some (some i)=>(match N[j]? with
    |some x=>decide (NX[i]?=some x)&&decide (scope.names.lookup x=some .free)
    |none=>false)
  |_=>true
theorem ZiO {NX:List Str}{sc:Scope}{N:List Str}{f:List (Option Nat)}{scope:Scope}(h:Zii NX sc N f scope=true):CompOk NX sc N f scope:=by
 unfold Zii at h;simp only[XaF,List.all_eq_true,decide_eq_true_eq,Bool.or_eq_true]at h;obtain⟨⟨⟨h1,h2⟩,h3⟩,h4⟩:=h
 refine⟨h1,fun y hy=>(h2 y hy).1.1,fun y hy e=>?_,fun y hy e=>?_,h3,fun j i e=>?_⟩
 ·rcases(h2 y hy).1.2 with z|z
  ·exact Xp e z
  ·exact z
 ·rcases(h2 y hy).2 with (z|z)|z
  ·exact Xp e z
  ·exact .inl z
  ·exact .inr z
 ·have hj:j<f.length:=(Xe.mp e).1
  have q:=h4 j (Xl.mpr hj)
  rw[e]at q;cases hN:N[j]? with
  |none=>rw[hN]at q;simp at q
  |some x =>
    rw[hN]at q;simp only[XaF,decide_eq_true_eq]at q;exact⟨x,rfl,q.1,q.2⟩
def ZuN (f:List (Option Nat))(σ σ':St):Prop:=σ'.length=σ.length/\∀(i j:Nat),f[i]?=some (some j)->σ'[i]?=σ[i]?
structure TgOk (f:List (Option Nat))(g:TG):Prop where
 keep:∀x σ H Q,g x σ H Q->g x σ H fun σ2 H2=>ZuN f σ σ2/\Q σ2 H2
 mono:∀x σ H Q Q',(∀σ H,Q σ H->Q' σ H)->g x σ H Q->g x σ H Q'
structure TgsOk (f:List (Option Nat))(g:TGs):Prop where
 keep:∀xs σ H Q,g xs σ H Q->g xs σ H fun σ2 H2=>ZuN f σ σ2/\Q σ2 H2
 mono:∀xs σ H Q Q',(∀σ H,Q σ H->Q' σ H)->g xs σ H Q->g xs σ H Q'
theorem ZaX {f:List (Option Nat)}{j:Nat}(h:f[j]?=some none:=by rfl):TgOk f (ZhX j) where
 keep:=fun x σ H Q q=>⟨⟨List.length_set ..,fun i k e=>XU (by rintro rfl;rw[h]at e;cases e)⟩,q⟩
 mono:=fun x σ H Q Q' m q=>m _ _ q
theorem Zkt {f:List (Option Nat)}:TgsOk f Zuu where
 keep:=fun xs σ H Q ⟨e,q⟩=>⟨e,⟨rfl,fun _ _ _=>rfl⟩,q⟩
 mono:=fun xs σ H Q Q' m ⟨e,q⟩=>⟨e,m _ _ q⟩
theorem Ze2 {f:List (Option Nat)}{t:TG}{u:TGs}(h1:TgOk f t)(h2:TgsOk f u):TgsOk f (Zs3 t u) where
 keep:=fun xs σ H Q ⟨v,r,e,q⟩=>⟨v,r,e,h1.mono _ _ _ _ _ (fun σ1 H1 z=>h2.mono _ _ _ _ _ (fun σ2 H2 y=>⟨⟨y.1.1.trans z.1.1,fun i j ef=>(y.1.2 i j ef).trans (z.1.2 i j ef)⟩,y.2⟩) (h2.keep _ _ _ _ z.2)) (h1.keep _ _ _ _ q)⟩
 mono:=fun xs σ H Q Q' m ⟨v,r,e,q⟩=>⟨v,r,e,h1.mono _ _ _ _ _ (fun σ1 H1 z=>h2.mono _ _ _ _ _ m z) q⟩
theorem ZmF {f:List (Option Nat)}{K:W.Frag}{n:Nat}{t:TGs}(h:TgsOk f t):TgOk f (Zuy K n t) where
 keep:=fun x σ H Q ⟨a,xs,e,q,l,z⟩=>⟨a,xs,e,q,l,h.keep _ _ _ _ z⟩
 mono:=fun x σ H Q Q' m ⟨a,xs,e,q,l,z⟩=>⟨a,xs,e,q,l,h.mono _ _ _ _ _ m z⟩
def PCs (X:Cx)(ifs:List Expr)(tc:TT):Prop :=
 ∀(Xbr:List (Addr×Obj)) (s:Shared) (σ:St) (H:Hp) (Q:Bool->Hp->Prop),Inv X Xbr σ H s->tc σ H Q ->
  wpAny (model X.prog X.w) X.A (forIn ifs true fun c r=>if r=true then do let ok <- isTrue c X.env (eval c X.env);pure (ForInStep.yield ok) else pure (ForInStep.yield r)) (TP X Xbr σ Q) X.xe s
def ZrC:TT:=fun _ H Q=>Q true H
theorem Zb2 {X:Cx}:PCs X [] ZrC:=fun _ _ _ H _ I h=>wpAny_tests_nil ⟨H,I,h⟩
theorem Zk2 {X:Cx}{c:Expr}{tc:TT}(h:PT X c tc):PCs X [c] tc:=fun Xbr s σ H Q I q=>wpAny_tests_one (h Xbr s σ H Q I q)
theorem Zjw {prog:Program}{w:World}{A:Around}{R:Result->Shared->Prop}{s:Shared}{elt target iter:Expr}{ifs:List Expr}{scope:Scope}{pos:Pos}{it acc:Value}{env:Env}(I:Nat->Shared->Prop)
 (turn:∀n s,I n s->wpAny (model prog w) A (pyNext it) (fun r s₁=>match r with
  |none=>R (.ok .next) s₁
  | some v=>wpAny (model prog w) A (letOwnedTupleGo target it v) (fun _ s₁'=>wpAny (model prog w) A (assign target env v) (fun _ s₂ =>
   wpAny (model prog w) A (forIn ifs true fun c r=>if r=true then do let ok <- isTrue c env (eval c env);pure (ForInStep.yield ok) else pure (ForInStep.yield r)) (fun ok s₃ =>
    if ok=true then wpAny (model prog w) A (eval elt env) (fun x s₄ =>
     wpAny (model prog w) A (call (.builtin "list.append") [acc,x]) (fun _ s₅ => ∃m,m<n/\I m s₅) (fun _ _=>False) s₄) (fun _ _=>False) s₃
    else ∃m,m<n/\I m s₃) (fun _ _=>False) s₂) (fun _ _=>False) s₁') (fun _ _=>False) s₁) (fun _ _=>False) s)
 (n:Nat) (h:I n s) :
 codeAny (model prog w) A (.compLoop (.ListComp elt [⟨target,iter,ifs,0⟩] scope pos) 0 it acc env) R s:=by
 refine codeAny_loop rfl I (fun n s hI=>?_) n h
 show wpAny _ A ((compTurn (.ListComp elt [⟨target,iter,ifs,0⟩] scope pos) 0 it acc env).onRaise (fun x=>do noteFrame x env;theTreesLotGoes x)) _ _ s
 refine wpAny_noted ?_
 rw[compTurn_list];refine Xh (wpAny_standAt (Xh (wpAny_mono (turn n s hI) (fun r s₁ h₁=>?_) fun _ _ h'=>h'.elim)))
 cases r with
 |none=>exact XB h₁
 |some v =>
   refine Xh (wpAny_mono h₁ (fun _ s₁' h₁'=>?_) fun _ _ h'=>h'.elim)
   refine Xh (wpAny_mono h₁' (fun _ s₂ h₂=>Xh (wpAny_mono h₂ (fun ok s₃ h₃=>?_) fun _ _ h'=>h'.elim)) fun _ _ h'=>h'.elim)
   cases ok with
   |false=>exact XB ⟨rfl,h₃⟩
   |true =>
     exact Xh (Xh (wpAny_mono h₃ (fun x s₄ h₄=>Xh (wpAny_mono h₄ (fun _ s₅ h₅=>XB (XB ⟨rfl,h₅⟩)) fun _ _ h'=>h'.elim)) fun _ _ h'=>h'.elim))
theorem Inv.track {X:Cx}{Xbr:List (Addr×Obj)}{σ:St}{H:Hp}{s:Shared}{a:Addr}{o:HO}(I:Inv X Xbr σ H s)(hn:H a=none)(h0:X.s₀.heap.objs.size<=a)(hL:a≠X.env.locals)(hC:∀x c,X.env.cells.lookup x=some c->c≠a)
 (hp:∀p∈X.pn++Xbr,p.1≠a) (new:Zcw X.prog X.w (upd H a o) s.heap a o):Inv X Xbr σ (upd H a o) s where
 ok:=I.ok
 os:=I.os
 bare:=I.bare
 base :=
  { keep:=I.base.keep
    slot:=I.base.slot
    free:=fun b ob q n hx=>by rw[Zak (Xs (XG (Xo q) h0))];exact I.base.free b ob q n hx
    there:=I.base.there
    tups:=fun b xs q=>by have z:=I.base.tups b xs q;rw[Zak (Za2 z hn)];exact z
    tupo:=I.base.tupo
    frzs:=fun b u xs q=>by have z:=I.base.frzs b u xs q;rw[Zak (Za2 z hn)];exact z
    tbls:=fun b ps q=>by obtain⟨more,z⟩:=I.base.tbls b ps q;exact⟨more,by rw[Zak (Za2 z hn)];exact z⟩ }
 loc:=I.loc
 cell:=I.cell
 free:=by rw[Zak hL.symm];exact I.free
 freeC:=fun x c e=>by rw[Zak (hC x c e)];exact I.freeC x c e
 pin:=fun p hp'=>by obtain⟨e,n,r⟩:=I.pin p hp';exact⟨e,by rw[Zak (hp p hp')];exact n,r⟩
 hok:=fun b u e=>by
  by_cases hb:b=a
  ·subst hb;rw[Zam]at e;cases e;exact new
  ·rw[Zak hb]at e
   exact(I.hok b u e).stay (fun _ _ _ q=>q) (fun c q=>by rw[Zak (Za2 q hn)];exact q) fun c xs q=>by rw[Zak (Za2 q hn)];exact q
 len:=I.len
def LCw (f:List (Option Nat))(g:TG)(tc:TT)(te:TE)(σ:St)(J:It)(Q:VK)(H1:Hp):Prop :=
 ∃W:Nat->Nat->List V->Hp->Prop,(∃m,W 0 m [] H1)/\∀i m ys H,W i m ys H ->
  (J.stop i H/\∀p,H p=none->Q (.ref p) (upd H p (.lst ys))) \/
  (J.go i H/\∀x H',J.yld i H x H'->g x (Zlp f σ) H' fun σ2 H2=>tc σ2 H2 fun b H3 =>
   if b=true then te σ2 H3 fun y H4=>ys.length<sizeLine/\∃m',m'<m/\W (i+1) m' (ys++[y]) H4
   else ∃m',m'<m/\W (i+1) m' ys H3)
def tLC (f:List (Option Nat))(wi:TI)(g:CIn->TG)(tc:CIn->TT)(te:CIn->TE):TE:=fun σ H Q=>wi σ H fun J H1=>∀c:CIn,LCw f (g c) (tc c) (te c) σ J Q H1
abbrev Zmz (its:List Value) (k:Nat):Obj:={ cls:=.type "list",data:=.seq its.toArray k }
section
variable {X:Cx}{Xbr:List (Addr×Obj)}{σ:St}{H2:Hp}{s₂:Shared}
theorem ZqH {tg iter elt:Expr}{ifs:List Expr}{scope:Scope}{pos:Pos}{N:List Str}{f:List (Option Nat)}{g:CIn->TG}{tc:CIn->TT}{te:CIn->TE}{cl:List (Str×Addr)}
 (hc:X.calm=true) (ck:CompOk X.N X.env.scope N f scope)
 (hg:∀c,PG (Zci X N scope c) tg (g c)) (ht:∀c,TgOk f (g c)) (hcs:∀c,PCs (Zci X N scope c) ifs (tc c)) (he:∀c,PE (Zci X N scope c) elt (te c))
 (I2:Inv X Xbr σ H2 s₂) {it:Addr} {fp:List Addr} {tn:Nat->Heap->Prop} {J:It} (T:Turn X.prog X.w X.K tg J fp it tn) (st:tn 0 s₂.heap) (f2:∀b∈fp,Zm1 X Xbr H2 b)
 {Q:VK} (hq:∀c:CIn,LCw f (g c) (tc c) (te c) σ J Q H2)
 (hcl1:∀x c,cl.lookup x=some c->X.env.cells.lookup x=some c) (hcl2:∀p∈scope.names,p.2=NameKind.free->∃c,cl.lookup p.1=some c)
 {RR:Value->Addr->Result->Shared->Prop} {E:Value->Shared->Prop}
 (hRR:∀(acc C:Addr) (H':Hp) (s':Shared) (m':Str->Option Value),s'.heap.Ns C m'->Inv X Xbr σ H' s'->H' C=none->C≠X.env.locals->X.s₀.heap.objs.size<=C->(∀x c,X.env.cells.lookup x=some c->c≠C) ->
  (∀p∈X.pn++Xbr,p.1≠C)->Q (.ref acc) H'->RR (.ref acc) C (.ok .next) s') :
 wpAny (model X.prog X.w) X.A (newList []) (fun acc s₃=>wpAny (model X.prog X.w) X.A (newFunctionEnv scope X.env.globals cl [] X.env.qual none .none (some X.env)) (fun cenv s₄ =>
  codeAny (model X.prog X.w) X.A (.compStart (.ListComp elt [⟨tg,iter,ifs,0⟩] scope pos) 0 (.ref it) acc { cenv with scope:=relabel scope X.env }) (RR acc cenv.locals) s₄) E s₃) E s₂:=by
 refine wpAny_newObj_type (wpAny_newFunctionEnv ck.nocell (by intro y hy;simp at hy) (fun h₁ hns₁ hsb₁=>?_) ck.kind)
 dsimp only at hns₁ hsb₁ ⊢;have I3:Inv X Xbr σ H2 { s₂ with heap:=s₂.heap.push (Zmz [] 0) }:=I2.kept (t':=s₂.toks) fun b u e=>Xv _ e
 have hD:(s₂.heap.push (Zmz [] 0)).get? s₂.heap.objs.size=some (Zmz [] 0):=XZ _ rfl
 generalize hs3:({ s₂ with heap:=s₂.heap.push (Zmz [] 0) }:Shared)=s₃ at I3 hns₁ hsb₁ ⊢
 have hp3:s₂.heap.push (Zmz [] 0)=s₃.heap:=by rw[<- hs3]
 have hp3':s₂.heap.push { cls:=.type "list",dict:=none,data:=.seq ([]:List Value).toArray }=s₃.heap:=hp3
 rw[hp3]at hD;simp only[hp3']at hns₁ hsb₁ ⊢;have sz3:s₂.heap.objs.size<s₃.heap.objs.size:=by rw[<- hp3,Heap.size_push];exact XaE _
 have k3:∀b u,s₂.heap.get? b=some u->s₃.heap.get? b=some u:=fun b u e=>by rw[<- hp3];exact Xv _ e
 have k1:∀b u,s₃.heap.get? b=some u->h₁.get? b=some u:=fun b u e =>
  hsb₁.extBut b u (Xs (Xo e)) (Xv _ e)
 have fpo:∀b∈fp,b<s₂.heap.objs.size:=fun b hb=>by
  obtain⟨o,e,_⟩:=T.obj 0 _ st b hb
  exact Xo e
 have st1:tn 0 h₁:=T.keep _ _ _ st fun b hb o e=>k1 b o (k3 b o e)
 have fneC:∀b∈fp,b≠s₃.heap.objs.size:=fun b hb=>Xs (Nat.lt_trans (fpo b hb) sz3)
 have fneD:∀b∈fp,b≠s₂.heap.objs.size:=fun b hb=>Xs (fpo b hb)
 have cneD:∀x d,X.env.cells.lookup x=some d->d≠s₂.heap.objs.size:=fun x d e=>by
  obtain⟨v,z⟩:=I2.cell x d e
  exact Xs z.lt
 have pneD:∀p∈X.pn++Xbr,p.1≠s₂.heap.objs.size:=fun p hp=>Xs (Xo (I2.pin p hp).1)
 have freeD:H2 s₂.heap.objs.size=none:=I2.fresh
 have stk:∀b,b≠X.env.locals->b∉X.fs->b∉frs X.stack:=fun b h1 h2 hb=>by
  rcases Xf.mp (I3.stkSub b hb) with z|z
  ·exact h1 z
  ·exact h2 z
 have exD:∀b,b∈s₂.heap.objs.size::fp->b=s₂.heap.objs.size\/b∈fp:=fun b hb=>Xf.mp hb
 let c:CIn:=⟨cl,s₃.heap.objs.size,s₃,H2,s₂.heap.objs.size::fp,X.pn++Xbr⟩
 have okX:(Zci X N scope c).Ok :=
  { mod:=I3.ok.mod
    kind:=ck.kind
    glob:=I3.ok.glob
    blt:=I3.ok.blt
    above:=Xw _
    inj:=fun x y d h1 h2=>I3.ok.inj x y d (hcl1 x d h1) (hcl1 y d h2)
    has:=fun x hx=>by
     rcases Zdk hx with z|z
     ·exact hcl2 (x,.free) (PySem.mem_of_lookup z) rfl
     ·exact Xp rfl (ck.nocell (x,.cell) (PySem.mem_of_lookup z))
    cab:=fun x d h=>Xp (show false=true from h) Xq
    hd:=I3.ok.hd
    frames:=I3.ok.frames
    stk:=.inl rfl
    exf:=fun b hb=>by
     rcases exD b hb with rfl|hb
     ·exact⟨Xs sz3,fun x d e=>cneD x d (hcl1 x d e)⟩
     ·exact⟨fneC b hb,fun x d e=>(f2 b hb).2.2.2.2.1 x d (hcl1 x d e)⟩
    bs:=fun b o e=>I3.bs b o e
    bsz:=XS I3.ok.bsz I3.sz
    noex:=fun b o e hb=>by
     rcases exD b hb with rfl|hb
     ·exact Xp (Xo (I2.bk _ _ e)) (XaA _)
     ·rcases(f2 b hb).2.2.2.1 with z|z
      ·exact I3.ok.noex b o e z
      ·exact Xp (XG (Xo (I3.ok.bs b o e).1) z) (XaA _)
    exfs:=fun b hb=>by
     rcases exD b hb with rfl|hb
     ·exact stk _ (Xaq I2.lt) (I2.nofs (Xw _))
     ·exact stk b (f2 b hb).2.1 (f2 b hb).2.2.1
    funs:=I3.stack
    frf:=I3.stkFree }
 have I4:Inv (Zci X N scope c) [(s₂.heap.objs.size,Zmz [] 0)] (Zlp f σ) H2 { s₃ with heap:=h₁,toks:=s₃.toks+([]:List (Str×Value)).length } :=
  { ok:=okX
    os:=rfl
    bare:=I3.bare
    base:=Un.kept k1
    loc:=⟨_,hns₁,fun i x v e1 e2 e3=>by
     have hfi:∃j,f[i]?=some (some j)/\σ[j]?=some (some v):=by
      unfold Zlp at e2;rw[Xi]at e2;cases ef:f[i]? with
      |none=>rw[ef]at e2;cases e2
      |some o =>
        rw[ef]at e2;cases o with
        |none=>cases e2
        |some j =>
          refine⟨j,rfl,?_⟩
          have e2':(σ[j]?).join=some v:=Option.some.inj e2
          cases es:σ[j]? with
          |none=>rw[es]at e2';cases e2'
          |some o2 =>
            rw[es]at e2';have:o2=some v:=e2'
            rw[this]
     obtain⟨j,ef,es⟩:=hfi
     obtain⟨x',n1,n2,n3⟩:=ck.ix i j ef
     have:x'=x:=Option.some.inj (n1.symm.trans e1)
     subst this;have hfr:=ck.free (x',.free) (PySem.mem_of_lookup n3) rfl
     obtain⟨m0,hm0,hl0⟩:=I3.loc
     obtain⟨u,ru,lk⟩:=hl0 j x' v n2 es (hfr.elim (fun z=>.inr (.inl z)) fun z=>.inr (.inr z))
     refine⟨u,ru,.inr ⟨ZcX n3,?_⟩⟩
     rcases lk with ⟨kl,_⟩|⟨_,d,ed,hd⟩
     ·have kl':X.env.scope.names.lookup x'=some .local:=kl
      rcases hfr with z|z
      ·rw[kl']at z;cases z
      ·rw[kl']at z;cases z
     ·obtain⟨d',ed'⟩:=hcl2 (x',.free) (PySem.mem_of_lookup n3) rfl
      have:d'=d:=Option.some.inj ((hcl1 x' d' ed').symm.trans ed)
      subst this;exact⟨d',ed',hd.keeps k1⟩⟩
    cell:=fun x d e=>by
     obtain⟨v,z⟩:=I3.cell x d (hcl1 x d e)
     exact⟨v,z.keeps k1⟩
    free:=I3.fresh
    freeC:=fun x d e=>I3.freeC x d (hcl1 x d e)
    pin:=fun p hp=>by
     rcases XI.mp (show p∈(X.pn++Xbr)++[(s₂.heap.objs.size,Zmz [] 0)] from hp) with hp'|hp'
     ·obtain⟨e,n,ne,nf,d⟩:=I3.pin p hp'
      exact⟨k1 _ _ e,n,Xs (Xo e),stk p.1 ne nf,d⟩
     ·have z:p=(s₂.heap.objs.size,Zmz [] 0):=Xm.mp hp'
      subst z;exact⟨k1 _ _ hD,freeD,Xs sz3,stk _ (Xaq I2.lt) (I2.nofs (Xw _)),fun v z=>nomatch (show Data.seq _ _=Data.cell v from z)⟩
    hok:=I3.hok.kept k1
    len:=by
     show(Zlp f σ).length=N.length
     unfold Zlp;rw[Xj];exact ck.len }
 have back:∀{σ':St} {H':Hp} {s':Shared} {ps:List (Addr×Obj)},Inv (Zci X N scope c) ps σ' H' s'->Inv X Xbr σ H' s':=fun{σ' H' s' ps} J' =>
  I3.call' (ch:=s₂.heap.objs.size::fp) J'.os J'.base J'.hok J'.bare fun b hb=>by
   rcases exD b hb with rfl|hb
   ·exact⟨.inr I2.sz,Xaq I2.lt,cneD,pneD⟩
   ·exact⟨(f2 b hb).2.2.2.1,(f2 b hb).2.1,(f2 b hb).2.2.2.2.1,(f2 b hb).2.2.2.2.2⟩
 have fpX:∀{H':Hp} {ob:Obj},(∀b∈fp,H' b=none)->∀b∈fp,Zm1 (Zci X N scope c) [(s₂.heap.objs.size,ob)] H' b:=fun{H' ob} hn b hb =>
  ⟨hn b hb,(okX.exf b (Xd _ hb)).1,okX.exfs b (Xd _ hb),.inl (Xd _ hb),(okX.exf b (Xd _ hb)).2,fun p hp=>by
   rcases XI.mp (show p∈(X.pn++Xbr)++[(s₂.heap.objs.size,ob)] from hp) with z|z
   ·exact(f2 b hb).2.2.2.2.2 p z
   ·have z:p=(s₂.heap.objs.size,ob):=Xm.mp z
    subst z;exact(fneD b hb).symm⟩
 obtain⟨W,⟨m0,w0⟩,turn⟩:=hq c
 have loop:∀s,s=({ s₃ with heap:=h₁,toks:=s₃.toks+([]:List (Str×Value)).length }:Shared) ->
  codeAny (model X.prog X.w) X.A (.compLoop (.ListComp elt [⟨tg,iter,ifs,0⟩] scope pos) 0 (.ref it) (.ref s₂.heap.objs.size) (compEnvC scope cl s₃.heap.objs.size X.env)) (RR (.ref s₂.heap.objs.size) s₃.heap.objs.size) s:=by
  rintro s rfl
  refine Zjw (fun n s'=>∃i H' ys its k,Inv (Zci X N scope c) [(s₂.heap.objs.size,Zmz its k)] (Zlp f σ) H' s'/\Zb7 ys its/\ys.length<=sizeLine/\tn i s'.heap/\(∀b∈fp,H' b=none)/\W i n ys H') ?_ m0 ⟨0,_,[],[],0,I4,.nil,X0 _,st1,fun b hb=>(f2 b hb).1,w0⟩
  rintro n s5 ⟨i,H5,ys,its,k,I5,rv5,hz5,st5,fr5,w5⟩
  rcases turn i n ys H5 w5 with ⟨stop,qn⟩|⟨go,step⟩
  ·refine thn (T.done (Zci X N scope c) rfl rfl rfl hc i _ s5 (Zlp f σ) H5 _ I5 (fpX fr5) st5 stop) fun r s6 ⟨hr,I6⟩=>?_
   subst hr;obtain⟨m6,hn6,_⟩:=id I6.loc
   obtain⟨eD,nD,_⟩:=I6.pin (s₂.heap.objs.size,Zmz its k) (XJ _ (Xm.mpr rfl))
   have I7:Inv X Xbr σ (upd H5 s₂.heap.objs.size (.lst ys)) s6:=(back I6).track nD I2.sz (Xaq I2.lt) cneD pneD ⟨hz5,its,k,rv5,eD⟩
   refine hRR _ _ _ s6 m6 hn6 I7 (by rw[Zak (Xaq sz3)];exact I6.free) (Xaq I3.lt) I3.sz (fun x d e=>?_) (fun p hp=>?_) (qn _ nD)
   ·obtain⟨v,z⟩:=I3.cell x d e
    exact Xs z.lt
   ·exact Xs (Xo (I3.pin p hp).1)
  ·refine thn (T.item (Zci X N scope c) rfl rfl rfl hc i _ s5 (Zlp f σ) H5 _ I5 (fpX fr5) st5 go) fun r s6 ⟨u,hr,h6⟩=>?_
   subst hr;refine thn h6 fun _ s7 ⟨x,H7,I7,r7,y7,st7,fr7⟩=>?_
   have I7':=I7.pinned (fpX fr7) (T.obj _ _ st7)
   refine thn (hg c _ s7 (Zlp f σ) H7 x u _ I7' r7 ((ht c).keep _ _ _ _ (step x H7 y7))) fun _ s8 ⟨σ8,H8,I8,kp8,q8⟩=>?_
   have wk:∀(j:Nat) v,(Zlp f σ)[j]?=some (some v)->σ8[j]?=some (some v):=fun j v e=>by
    have ef:∃k,f[j]?=some (some k):=by
     have e':=e
     unfold Zlp at e';rw[Xi]at e';cases q:f[j]? with
     |none=>rw[q]at e';cases e'
     |some o =>
       cases o with
       |none=>rw[q]at e';cases e'
       |some k=>exact⟨k,rfl⟩
    obtain⟨k,ef⟩:=ef
    rw[kp8.2 j k ef];exact e
   have recs:∀{H9:Hp} {s9:Shared} {ob:Obj},Inv (Zci X N scope c) ([(s₂.heap.objs.size,ob)]++ZiI fp s7.heap) σ8 H9 s9->tn (i+1) s9.heap/\∀b∈fp,H9 b=none:=fun{H9 s9 ob} I9 =>
    ⟨T.keep _ _ _ st7 fun b hb o e=>(I9.pin (b,o) (XJ _ (XJ _ (Ze6 hb e)))).1,fun b hb=>by
     obtain⟨o,e,d⟩:=T.obj _ _ st7 b hb
     exact(I9.pin (b,o) (XJ _ (XJ _ (Ze6 hb e)))).2.1⟩
   refine thn (hcs c _ s8 σ8 H8 _ I8 q8) fun ok s9 ⟨H9,I9,q9⟩=>?_
   cases ok with
   |false =>
     obtain⟨m',hm,w9⟩:=(show ∃m',m'<n/\W (i+1) m' ys H9 from q9)
     obtain⟨z1,z2⟩:=recs I9
     exact⟨m',hm,i+1,H9,ys,its,k,(I9.unpinned).weak kp8.1.symm wk,rv5,hz5,z1,z2,w9⟩
   |true =>
     refine thn (he c _ s9 σ8 H9 _ I9 (show te c σ8 H9 _ from q9)) fun v s10 ⟨y,H10,I10,r10,hlen,m',hm,w10⟩=>?_
     obtain⟨eD,nD,neD,nfD,dD⟩:=I10.pin (s₂.heap.objs.size,Zmz its k) (XJ _ (Xae _ (Xm.mpr rfl)))
     obtain⟨z1,z2⟩:=recs I10
     have lv:=rv5.length
     refine call_meets F.slot_list_append ⟨_,eD,rfl⟩ F.entry_list_append (F.args_list_append_2 _ _) (PySem.list_append s₂.heap.objs.size its.toArray k v (by rw[XC];omega)) ⟨eD,?_⟩
     have q:=PySem.IsL.update eD (·.push v)
     have hf:its.toArray.push v=(its++[v]).toArray:=by simp
     rw[hf]at q;have I11:Inv (Zci X N scope c) [] σ8 H10 { s10 with heap:=s10.heap.update s₂.heap.objs.size (Obj.mapSeq (·.push v)) } :=
      (I10.pins_of (pins':=[]) fun p hp=>Xp hp (by simp)).turned (t':=s10.toks) (it:=s₂.heap.objs.size) (fun b o hb e=>(Xa7 s10.heap (Obj.mapSeq (·.push v)) (Ne.symm hb)).trans e) nD neD (.inl Xb) (okX.exf _ Xb).2 fun p hp=>by
       have z:p∈(X.pn++Xbr)++[]:=hp
       rw[X4]at z;exact pneD p z
     have I12:Inv (Zci X N scope c) [(s₂.heap.objs.size,Zmz (its++[v]) _)] σ8 H10 { s10 with heap:=s10.heap.update s₂.heap.objs.size (Obj.mapSeq (·.push v)) } :=
      I11.pins_of fun p hp=>by
       have z:p=(s₂.heap.objs.size,_):=Xm.mp hp
       subst z;exact⟨q,nD,neD,nfD,fun v z=>nomatch (show Data.seq _ _=Data.cell v from z)⟩
     refine⟨m',hm,i+1,H10,ys++[y],its++[v],_,I12.weak kp8.1.symm wk,rv5.append (.cons r10 .nil),by rw[Xt,List.length_singleton];omega,?_,z2,w10⟩
     exact T.keep _ _ _ z1 fun b hb o e=>(Xa7 s10.heap (Obj.mapSeq (·.push v)) (fneD b hb).symm).trans e
 exact codeAny_compStart_list (loop _ (by rw[<- hs3])) (T.self _ 0 _ _ _ st1 (loop _ (by rw[<- hs3])))
theorem Zfv {tg iter elt:Expr}{ifs:List Expr}{scope:Scope}{pos:Pos}{NX:List Str}{sc:Scope}{N:List Str}{f:List (Option Nat)}{wi:TI}{g:CIn->TG}{tc:CIn->TT}{te:CIn->TE}
 (hc:X.calm=true) (ck:Zii NX sc N f scope=true) (hNX:X.N=NX) (hsc:X.env.scope=sc) (hi:PI X tg iter wi)
 (hg:∀c,PG (Zci X N scope c) tg (g c)) (ht:∀c,TgOk f (g c)) (hcs:∀c,PCs (Zci X N scope c) ifs (tc c)) (he:∀c,PE (Zci X N scope c) elt (te c))
 (hs:∀x,foldedSetIterable iter X.env x=pure x:=by intro _;rfl):PE X (.ListComp elt [⟨tg,iter,ifs,0⟩] scope pos) (tLC f wi g tc te):=by
 subst hNX hsc;intro Xbr s σ H Q I h;have ck':=ZiO ck
 obtain⟨cl,hclos,hcl1,hcl2⟩:=ZhA (scope:=scope) (env:=X.env) fun p hp hf=>I.ok.has p.1 (ck'.free p hp hf)
 rw[eval_ListComp];refine wpAny_comprehension_free (use:=none) rfl hs hclos ck'.kind ck'.names (thn (hi Xbr s σ H _ I h) fun xv s₁ h₁=>thn h₁ fun itv s₂ h₂=>?_)
 obtain⟨it,fp,tn,J,H2,e,I2,T,st,f2,hq⟩:=h₂
 subst e;refine ZqH (RR:=fun acc C=>compPost (model X.prog X.w) X.A X.xe none (EP X Xbr σ Q) acc C) hc ck' hg ht hcs he I2 T st f2 hq hcl1 hcl2 ?_
 intro acc C H' s' m' hn I' hC hL h0 h1 h2 q;exact⟨m',hn,fun h'' hs''=>⟨.ref acc,H',I'.turned (t':=s'.toks) (fun b o hb e=>(hs''.2 b hb).trans e) hC hL (.inr h0) h1 h2,rfl,q⟩⟩
theorem Zdo {i:Nat}{x:Str}{px spos:Pos}{tg iter elt:Expr}{ifs:List Expr}{scope:Scope}{pos:Pos}{NX:List Str}{sc:Scope}{N:List Str}{f:List (Option Nat)}{wi:TI}{g:CIn->TG}{tc:CIn->TT}{te:CIn->TE}
 (hN:X.N.Nodup) (hix:X.N[i]?=some x) (hx:X.env.scope.names.lookup x=some .local)
 (hc:X.calm=true) (ck:Zii NX sc N f scope=true) (hNX:X.N=NX) (hsc:X.env.scope=sc) (hi:PI X tg iter wi)
 (hg:∀c,PG (Zci X N scope c) tg (g c)) (ht:∀c,TgOk f (g c)) (hcs:∀c,PCs (Zci X N scope c) ifs (tc c)) (he:∀c,PE (Zci X N scope c) elt (te c))
 (hsw:swapsWith (.ListComp elt [⟨tg,iter,ifs,0⟩] scope pos) (some (.Name x px)) spos.line X.env=pure true)
 (hs:∀x,foldedSetIterable iter X.env x=pure x:=by intro _;rfl):PS X (.Assign [.Name x px] (.ListComp elt [⟨tg,iter,ifs,0⟩] scope pos) spos) (ZoV (tLC f wi g tc te) (ZhX i)):=by
 subst hNX hsc;intro Xbr s σ H D I h;have ck':=ZiO ck
 obtain⟨cl,hclos,hcl1,hcl2⟩:=ZhA (scope:=scope) (env:=X.env) fun p hp hf=>I.ok.has p.1 (ck'.free p hp hf)
 rw[exec_Assign_Name_used _ _ _ _ hsw];refine Xh (wpAny_standAt (Xh ?_))
 show wpAny _ X.A (do let _ <- comprehension (.ListComp elt [⟨tg,iter,ifs,0⟩] scope pos) scope X.env _ (newList []) false (eval iter X.env) (some (assign (.Name x px) X.env))) _ _ s
 refine Xh (wpAny_mono (wpAny_comprehension_free (use:=some (assign (.Name x px) X.env)) (Q:=fun _ s'=>SP X Xbr D .next s') rfl hs hclos ck'.kind ck'.names
  (thn (hi Xbr s σ H _ I h) fun xv s₁ h₁=>thn h₁ fun itv s₂ h₂=>?_)) (fun _ s' hq=>XB (XB hq)) fun _ _ e=>e)
 obtain⟨it,fp,tn,J,H2,e,I2,T,st,f2,hq⟩:=h₂
 subst e;refine ZqH (RR:=fun acc C=>compPost (model X.prog X.w) X.A X.xe (some (assign (.Name x px) X.env)) (fun _ s'=>SP X Xbr D .next s') acc C) hc ck' hg ht hcs he I2 T st f2 hq hcl1 hcl2 ?_
 intro acc C H' s' m' hn I' hC hL h0 h1 h2 q;show wpAny _ X.A (assign (.Name x px) X.env (.ref acc)) _ _ _
 refine wpAny_assign_Name (Zji I' hN hix (.inl hx) (v:=.ref acc) rfl (fun s'' I'' ⟨a,sb,ha⟩=>?_) (.inr hx))
 have nC:C≠a:=by
  rcases ha with z|z
  ·rw[z];exact hL
  ·exact(h1 _ _ z).symm
 refine⟨m',hn.sameBut sb nC,fun h'' hs''=>?_⟩
 exact⟨_,H',I''.turned (t':=s''.toks) (fun b o hb e=>(hs''.2 b hb).trans e) hC hL (.inr h0) h1 h2,q⟩
end
section
variable {f:List (Option Nat)}{g:TG}{tc:TT}{te:TE}{σ:St}{Q:VK}{H1:Hp}{K:W.Frag}{a:Addr}{xs:List V}
end
mutual
inductive Rep (H:Hp):V->PyData->Prop
 |non:Rep H .non .none
 |bl (b:Bool):Rep H (.bl b) (.bool b)
 |int (i:Int):Rep H (.int i) (.int i)
 |str (x:Str):Rep H (.str x) (.str x)
 |lst {a:Addr} {xs:List V} {ds:List PyData}:H a=some (.lst xs)->Reps H xs ds->Rep H (.ref a) (.list ds)
 |tup {a:Addr} {xs:List V} {ds:List PyData}:H a=some (.tup xs)->Reps H xs ds->Rep H (.ref a) (.tuple ds)
 |dct {a:Addr}:H a=some (.dK [])->Rep H (.ref a) (.dict [])
inductive Reps (H:Hp):List V->List PyData->Prop
 |nil:Reps H [] []
 |cons {x:V} {xs:List V} {d:PyData} {ds:List PyData}:Rep H x d->Reps H xs ds->Reps H (x::xs) (d::ds)
end
mutual
theorem Rep.mono {H H':Hp}(s:ZaP H H'):∀{v:V} {d:PyData},Rep H v d->Rep H' v d
 |_,_,.non=>.non
 |_,_,.bl b=>.bl b
 |_,_,.int i=>.int i
 |_,_,.str x=>.str x
 |_,_,.lst h r=>.lst (s _ _ h) (Reps.mono s r)
 |_,_,.tup h r=>.tup (s _ _ h) (Reps.mono s r)
 |_,_,.dct h=>.dct (s _ _ h)
theorem Reps.mono {H H':Hp}(s:ZaP H H'):∀{vs:List V} {ds:List PyData},Reps H vs ds->Reps H' vs ds
 |_,_,.nil=>.nil
 |_,_,.cons r t=>.cons (Rep.mono s r) (Reps.mono s t)
end
theorem Reps.length {H:Hp}:∀{vs:List V} {ds:List PyData},Reps H vs ds->vs.length=ds.length
 |_,_,.nil=>rfl
 |_,_,.cons _ t=>by simp[Reps.length t]
theorem Reps.get {H:Hp}:∀{vs:List V} {ds:List PyData} {i:Nat} {d:PyData},Reps H vs ds->ds[i]?=some d->∃v,vs[i]?=some v/\Rep H v d
 |_,_,_,_,.nil,e=>by simp at e
 |_,_,0,_,.cons r _,e=>by simp at e;subst e;exact⟨_,rfl,r⟩
 |_,_,i+1,d,.cons _ t,e=>by
   obtain⟨u,h1,h2⟩:=Reps.get (i:=i) (d:=d) t (by simpa using e)
   exact⟨u,by simpa using h1,h2⟩
theorem Reps.snoc {H:Hp}{v:V}{d:PyData}:∀{vs:List V} {ds:List PyData},Reps H vs ds->Rep H v d->Reps H (vs++[v]) (ds++[d])
 |_,_,.nil,h=>.cons h .nil
 |_,_,.cons r t,h=>.cons r (Reps.snoc t h)
theorem Reps.append {H:Hp}:∀{vs ws:List V} {ds es:List PyData},Reps H vs ds->Reps H ws es->Reps H (vs++ws) (ds++es)
 |_,_,_,_,.nil,s=>s
 |_,_,_,_,.cons r t,s=>.cons r (Reps.append t s)
theorem Reps.set {H:Hp}{v:V}{d:PyData}(r:Rep H v d):∀{vs:List V} {ds:List PyData} (i:Nat),Reps H vs ds->Reps H (vs.set i v) (ds.set i d)
 |_,_,_,.nil=>.nil
 |_,_,0,.cons _ t=>.cons r t
 |_,_,i+1,.cons q t=>.cons q (Reps.set r i t)
theorem ZcY {H:Hp}:∀{vs:List V} {l:List Int},Reps H vs (l.map PyData.int)->vs=l.map V.int
 |_,[],.nil=>rfl
 |_,i::l,.cons (.int _) t=>by rw[Xr,ZcY t]
theorem Zjj {H:Hp}:∀(l:List Int),Reps H (l.map V.int) (l.map PyData.int)
 |[]=>.nil
 |i::l=>.cons (.int i) (Zjj l)
section
variable {X:Cx}{Xbr:List (Addr×Obj)}{σ:St}{H:Hp}{s:Shared}
mutual
theorem Rep.reads (I:Inv X Xbr σ H s):∀{v:V} {d:PyData} {u:Value},Rep H v d->Zbl v u->∃as,Reads s.heap u d as
 |_,_,_,.non,r=>by cases r;exact⟨_,.none⟩
 |_,_,_,.bl b,r=>by cases r;exact⟨_,.bool b⟩
 |_,_,_,.int i,r=>by obtain⟨t,rfl⟩:=r;exact⟨_,.int i t⟩
 |_,_,_,.str x,r=>by obtain⟨t,rfl⟩:=r;exact⟨_,.str x t⟩
 |_,_,_,.lst h q,r=>by
   cases r
   obtain⟨z,its,n,rv,e⟩:=I.hok _ _ h
   obtain⟨as,ra⟩:=Reps.reads I q rv
   exact⟨_,.list e rfl rfl (by simpa using ra)⟩
 |_,_,_,.tup h q,r=>by
   cases r
   obtain⟨z,its,rv,o,e,c,n,dd⟩:=I.hok _ _ h
   obtain⟨as,ra⟩:=Reps.reads I q rv
   exact⟨_,.tuple e c dd (by simpa using ra)⟩
 |_,_,_,.dct h,r=>by
   cases r
   obtain⟨z,y,vs,kv,ob,es,ep,e,c,dd,_,pr,_⟩:=I.hok _ _ h
   cases kv
   have ee:es.toList=[]:=List.eq_nil_of_length_eq_zero pr.length
   exact⟨_,.dict (kvs:=[]) e c.1 dd (by rw[ee];exact .nil) (by rw[ee];exact .nil)⟩
theorem Reps.reads (I:Inv X Xbr σ H s):∀{vs:List V} {ds:List PyData} {us:List Value},Reps H vs ds->Zb7 vs us->∃as,ReadsAll s.heap us ds as
 |_,_,_,.nil,r=>by cases r;exact⟨_,.nil⟩
 |_,_,_,.cons q t,r=>by
   cases r with
   |cons r1 r2 =>
     obtain⟨as,ra⟩:=Rep.reads I q r1
     obtain⟨bs,rb⟩:=Reps.reads I t r2
     exact⟨_,.cons ra rb⟩
end
def Zsv (d:PyData):Prop:=d.canLay0=true/\d.depth<=60
def Zur:R2:=fun x y H Q=>∃d e,Rep H x d/\Rep H y e/\Zsv d/\Zsv e/\Q (.bl (!PyData.eqv d e)) H
theorem Zlm (hu:X.A.units+64<cLine):OpR X (compareOp .NotEq) Zur:=by
 intro Xbr s σ H x y v u Q I rx ry h;obtain⟨d,e,hd,he,fd,fe,q⟩:=h
 obtain⟨as,ra⟩:=hd.reads I rx
 obtain⟨bs,rb⟩:=he.reads I ry
 refine SeqAt.compareNe_reads ra rb fd.1 fe.1 ?_ ⟨.bl (!PyData.eqv d e),H,I,rfl,q⟩
 have h1:=fd.2
 have h2:min d.depth e.depth<=d.depth:=Nat.min_le_left _ _
 omega
end
theorem ZqC {α:Type}{xs:List α}{i:Int}{v:α}(h:atI xs i=some v):∃j:Nat,xs[j]?=some v/\ixN xs.length i=some j:=by
 unfold atI at h;cases e:ixN xs.length i with
 |none=>rw[e]at h;cases h
 |some j=>rw[e]at h;exact⟨j,h,rfl⟩
section
variable {X:Cx}
end
section
variable {X:Cx}
def ZfZ (_ j:Int):Prop:=0<j/\j<2^8000
theorem Zr8 {j:Int}(h:ZfZ 0 j):j.natAbs.log2<9000:=by
 have h0:j.natAbs≠0:=by have:=h.1;omega
 have h1:j.natAbs<2^8000:=by have:=h.2;have:=h.1;omega
 have:=(Nat.log2_lt h0).mpr h1
 omega
theorem ZaE:OpR X (binaryOp .FloorDiv) (rI ZfZ fun i j=>.int (i/j)):=opI fun i j _ _ _ _ _ hc q=>by
 have e:i.fdiv j=i/j:=Int.fdiv_eq_ediv_of_nonneg _ (Int.le_of_lt hc.1)
 refine floordiv_int (Int.ne_of_gt hc.1) ?_ (.inl (PyProof.noPylong_of_log2 (Zr8 hc)))
 rw[e];exact q
def ZuW (i j:Int):Prop:=0<=j/\(Builtin.Int.intBits i:Int)+j<=2^27
theorem ZrY:OpR X (binaryOp .LShift) (rI ZuW fun i j=>.int (i*2^j.toNat)):=opI fun _ _ _ _ _ _ _ hc q=>lshift_int hc.1 hc.2 q
theorem Zbn:OpR X (binaryOp .Mult) (rI IntMulOk fun i j=>.int (i*j)):=opI fun _ _ _ _ _ _ _ hc q=>mul_int q hc
theorem Zrv:MtR X "int.bit_length" (fun x xs H Q=>∃i,x=.int i/\xs=[]/\Q (.int (Builtin.Int.intBits i)) H):=by
 intro Xbr s σ H x xs v us Q I rx rv h;obtain⟨i,rfl,rfl,q⟩:=h
 obtain⟨t,rfl⟩:=rx
 cases rv
 exact call_givesAt F.slot_int_bit_length (typeIs_int s i t) F.entry_int_bit_length (F.args_int_bit_length_1 _) (Gives.at (P:=fun _=>True) (AutoIntG2.int_bit_length_int_0 i t)) trivial (show EP X Xbr σ Q _ _ from⟨.int (Builtin.Int.intBits i),H,I.tok _,⟨_,rfl⟩,q⟩)
end
theorem ZaP.upd {H H':Hp}{a:Addr}{o:HO}(s:ZaP H H')(h:H a=none):ZaP H (L2.upd H' a o):=fun b u e=>by
 rw[Zak (Za2 e h)];exact s b u e
theorem ZaP.new {H:Hp}{a:Addr}{o:HO}(h:H a=none):ZaP H (L2.upd H a o):=(ZaP.refl H).upd h
end L2
end
section
namespace Att
open PySem PySem.W PySem.Calls PyProof.Rows
theorem ZhD:∀(ns:List Int) (i:Int),i∈ns->Builtin.Int.intBits i<=WData.weightAll (ns.map WData.int)
 |[],i,h=>by simp at h
 |n::ns,i,h=>by
   rw[Xr,WData.weightAll];rcases Xf.mp h with rfl|h
   ·have:WData.weight (.int i)=Builtin.Int.intBits i:=by rw[WData.weight];rfl
    omega
   ·have:=ZhD ns i h
    omega
theorem Zsk {ns:List Int}(h:WData.layableAll [WData.list (ns.map WData.int)]=true):∀i∈ns,Builtin.Int.intBits i<=2^20:=fun i hi=>by
 have h1:=layableW_arg h (WData.list (ns.map WData.int)) (Xm.mpr rfl)
 obtain⟨_,_,h2⟩:=layableW_iff.mp h1
 rw[WData.weight]at h2;exact XS (ZhD ns i hi) h2
theorem attach_callW {l:OpenLaw}{n:Nat}{q:Program}{loose:List Str}{XP:(Str->Option Value)->Heap->Prop}{YP:World->Heap->Prop}{d:DefRec}
 (hn:l.most=some n) (hdf:d.params.defaults=[])
 (call:∀(w:World) (s₀ s₁:Shared) (mg mb:Str->Option Value) (fa:Addr) (o:Obj) (pm cd doc:Value) (a:Addr) (vs:List Value) (ns:List Int),
  Ground q loose [] XP w s₀ mg mb s₁.heap->YP w s₁.heap ->
  s₁.heap.get? fa=some o->o.data=.func (docDef d.name d.params d.body d.scope pm cd doc)->s₁.heap.CodeRec cd d.name->mg d.name=some (.ref fa) ->
  s₁.heap.get? a=some { cls:=.type "list",data:=.seq vs.toArray }->IntsAre vs ns->ns.length<=n->(∀i∈ns,Builtin.Int.intBits i<=2^20)->s₁.gens=#[] ->
  codeAny (model l.prog w) callerA (.call (.ref fa) ⟨[.ref a],[]⟩) (fun r s'=>r=.ok (.ret (.bool true))/\OldK s₁.heap s'.heap/\s'.os=s₁.os/\AllBare s'.gens) s₁) :
 WalkO q loose XP YP l.row.toRowW d [] (fun f vs=>PySem.call f vs):=by
 intro w s₀ s₁ mg mb G Y fa o pm cd doc dV kV ho hd hcd hD hmg hg args vals as hpre hlay hrd hwl hlo;obtain rfl:dV=.none:=Dflts.none hD hdf
 obtain rfl:kV=.none:=Dflts.noKw hD
 obtain⟨a,vs,ns,rfl,rfl,hobj,hints,hlen⟩:=ZnF hn hpre hwl
 refine enter_call (codeAny_mono (call w s₀ s₁ mg mb fa o pm cd doc a vs ns G Y ho (fd_plain hd) hcd hmg hobj hints hlen (Zsk hlay) hg) fun r s' hq=>?_)
 obtain⟨rfl,h2,h3,h4⟩:=hq
 exact⟨.inl ⟨.bool true,.bool true,[],rfl,fun _=>rfl,.bool true,Zof l _,fun _=>⟨List.Pairwise.nil,fun _ hm=>(nomatch hm)⟩⟩,h2,h3,h4⟩
end Att
namespace L2
open PySem PySem.Spec PyProof.Rows
structure Scr (K:W.Frag)(H:Hp)(a:Addr)(ns:List Int):Prop where
 sq:SqL K H a (ns.map V.int)
 len:ns.length<=63
 bits:∀i∈ns,Builtin.Int.intBits i<=2^20
theorem Scr.mono {K:W.Frag}{H H':Hp}{a:Addr}{ns:List Int}(h:Scr K H a ns)(s:ZaP H H'):Scr K H' a ns:=⟨s.seq h.sq,h.len,h.bits⟩
structure Df (K:W.Frag)(mg:Str->Option Value)(x:Str)(st:Stmt)(ps:List Str):Prop where
 ex:∃f fd,Fun K x x st f fd/\mg x=some (.ref f)/\ZfG K fd ps []
def Cal (P:Program)(w:World)(K:W.Frag)(mg:Str->Option Value)(base:Heap)(x:Str)(ps:List Str)(k:Nat)(sp:Sp):Prop :=
 ∃f fd,mg x=some (.ref f)/\W.keepIn K (.ref f)=true/\ZfG K fd ps []/\FnOk P w K mg base CX0 k f fd ps sp
theorem Df.cal {P:Program}{w:World}{K:W.Frag}{mg:Str->Option Value}{base:Heap}{x:Str}{st:Stmt}{N ps:List Str}{k:Nat}{sp:Sp}(D:Df K mg x st ps)(S:FnScope N ps (Zaf st))(len:∀vs H Q E,sp vs H Q E->vs.length=ps.length)
 (Xbs:∀(f:Addr) (cdv:Value) (A:Around) (outer:List Env) (s:Shared) (H:Hp) (vs:List V) (Q:VK) (E:XK),Room k (A.deeper (envOfC x (Zaf st) s.heap.objs.size f cdv))->sp vs H Q E ->
  ∃t,PSs (ZjN CX0 P w K mg base N x (Zaf st) f cdv A outer s H E).nox (ZaS st) t/\t { nx:=fun _ H'=>Q .non H',rt:=Q } (start N vs) H):Cal P w K mg base x ps (k+1) sp:=by
 obtain⟨f,fd,F,hm,hb⟩:=D.ex
 exact⟨f,fd,hm,F.kp,hb,F.ok S len fun cdv A outer s H vs Q E hr h=>Xbs f cdv A outer s H vs Q E hr h⟩
section
variable {X:Cx}
theorem Zap {x:Str}{p pos:Pos}{e:Expr}{es:List Expr}{t:TA}{ps:List Str}{j k:Nat}{sp:Sp}(C:Cal X.prog X.w X.K X.mg X.base x ps j sp)(hr:Room k X.A)(ha:PA X (e::es) t)(hj:j<=k:=by decide)(hg:Gl X x:=by rfl)
 (hdb:(x==("__debug__" : Str))=false:=by decide +kernel)
 (he:starEach (e::es) X.env=(false,eval e X.env)::starEach es X.env:=by rfl) (hpl:(backTo pos (starEach es X.env)).any (·.1)=false:=by rfl):PE X (.Call (.Name x p) (e::es) [] pos) (Zih sp [] E0 t):=by
 obtain⟨f,fd,hm,hk,hb,F⟩:=C
 exact Zsu F (hr.mono hj) hg hm hk hb .nil ZsA ha hdb he hpl
end
theorem Zlk:bootBuiltins "abs"=some (.builtin "abs"):=by decide +kernel
theorem Zck:bootBuiltins "len"=some (.builtin "len"):=by decide +kernel
theorem ZmE:bootBuiltins "max"=some (.builtin "max"):=by decide +kernel
theorem ZhB:bootBuiltins "min"=some (.builtin "min"):=by decide +kernel
theorem Zh9:bootBuiltins "sum"=some (.builtin "sum"):=by decide +kernel
theorem Zuj:bootBuiltins "int"=some (.type "int"):=by decide +kernel
theorem Zkn:bootBuiltins "list"=some (.type "list"):=by decide +kernel
theorem Zgh:bootBuiltins "tuple"=some (.type "tuple"):=by decide +kernel
mutual
theorem Rep.uniq {H:Hp}:∀{v:V} {d e:PyData},Rep H v d->Rep H v e->d=e
 |_,_,_,.non,.non=>rfl
 |_,_,_,.bl b,.bl _=>rfl
 |_,_,_,.int b,.int _=>rfl
 |_,_,_,.str b,.str _=>rfl
 |_,_,_,.lst h r,.lst h' r'=>by
   rw[h]at h';cases h';rw[Reps.uniq r r']
 |_,_,_,.tup h r,.tup h' r'=>by
   rw[h]at h';cases h';rw[Reps.uniq r r']
 |_,_,_,.lst h r,.tup h' r'=>by rw[h]at h';cases h'
 |_,_,_,.tup h r,.lst h' r'=>by rw[h]at h';cases h'
 |_,_,_,.dct h,.dct h'=>rfl
 |_,_,_,.lst h r,.dct h'=>by rw[h]at h';cases h'
 |_,_,_,.tup h r,.dct h'=>by rw[h]at h';cases h'
 |_,_,_,.dct h,.lst h' r'=>by rw[h]at h';cases h'
 |_,_,_,.dct h,.tup h' r'=>by rw[h]at h';cases h'
theorem Reps.uniq {H:Hp}:∀{vs:List V} {ds es:List PyData},Reps H vs ds->Reps H vs es->ds=es
 |_,_,_,.nil,.nil=>rfl
 |_,_,_,.cons r t,.cons r' t'=>by rw[Rep.uniq r r',Reps.uniq t t']
end
section
variable {X:Cx}{tg:Expr}
end
section
variable {v:V}{ds:List PyData}{g:TG}{tb:TS}{D:Ends}{σ:St}{H:Hp}
end
section
variable {f:List (Option Nat)}{g:TG}{tc:TT}{te:TE}{σ:St}{Q:VK}{H1:Hp}{v:V}{ds:List PyData}
end
mutual
def noL:PyData->Bool
 |.none=>true
 |.bool _=>true
 |.int _=>true
 |.str _=>true
 |.list _=>false
 |.dict _=>false
 |.tuple ds=>noLs ds
def noLs:List PyData->Bool
 |[]=>true
 |d::ds=>noL d&&noLs ds
end
mutual
theorem Rep.updL {H:Hp}{l:Addr}{us zs:List V}(hl:H l=some (.lst us)):∀{v:V} {d:PyData},noL d=true->Rep H v d->Rep (L2.upd H l (.lst zs)) v d
 |_,_,_,.non=>.non
 |_,_,_,.bl b=>.bl b
 |_,_,_,.int i=>.int i
 |_,_,_,.str x=>.str x
 |_,_,h,.lst _ _=>by simp[noL]at h
 |_,_,h,.tup ha r=>.tup (by rw[Zak (ZtH ha hl (by intro z;cases z))];exact ha) (Reps.updL hl (by simpa [noL] using h) r)
theorem Reps.updL {H:Hp}{l:Addr}{us zs:List V}(hl:H l=some (.lst us)):∀{vs:List V} {ds:List PyData},noLs ds=true->Reps H vs ds->Reps (L2.upd H l (.lst zs)) vs ds
 |_,_,_,.nil=>.nil
 |_,_,h,.cons r t=>.cons (Rep.updL hl (by simp[noLs]at h;exact h.1) r) (Reps.updL hl (by simp[noLs]at h;exact h.2) t)
end
theorem Zh2 (a b:Int):Builtin.Range.rangeSize a b (-1)=((a-b).toNat:Int):=by
 unfold Builtin.Range.rangeSize;simp only[show ¬((-1:Int) > 0) by decide,if_false,show(-(-1):Int)=1 from rfl,Int.ediv_one]
 split<;>omega
theorem ZjZ {a b:Int}(ha : -(2^62)<=a)(ha':a<2^62)(hb : -(2^62)<=b)(hb':b<2^62):Builtin.Range.small a b (-1)=true:=by
 unfold Builtin.Range.small;rw[Zh2];simp only[Builtin.Range.rangeFitsLong,XaF,Bool.or_eq_true,decide_eq_true_eq,beq_iff_eq,show ¬((-1:Int) > 0) by decide,if_false]
 omega
def Zuz (hi:Int)(n:Nat):It:=⟨fun i _=>i<n,fun i H x H'=>H'=H/\x=.int (hi-i),fun i _=>n<=i⟩
theorem ZkB {P:Program}{w:World}{K:W.Frag}{tg:Expr}(it:Addr)(hi:Int)(n:Nat):Turn P w K tg (Zuz hi n) [it] it (fun i h=>IsRangeIter h it (hi+(i:Nat)*(-1)) ((n:Int)-(i:Nat)) (-1)) where
 mem:=by simp
 obj:=fun i h st b hb=>by
  have e:b=it:=by simpa using hb
  subst e;exact⟨_,st,fun v z=>by
   have z':Data.fields _=Data.cell v:=z
   cases z'⟩
 keep:=fun i h h' st k=>k it (by simp) _ st
 item:=by
  intro X hP hw hK hc i Xbr s σ H E I hf st hg;subst hP hw hK;obtain⟨f0,f1,f2,f3,f4,f5⟩:=hf it (by simp)
  have W:=Walks.range (prog:=X.prog) (w:=X.w) (I.ok.hd hc) it hi (-1) n
  refine W.item i s _ _ hg st fun v h' tk hv st' kk=>?_
  obtain⟨t,rfl⟩:=hv
  have I1:Inv X Xbr σ H { s with heap:=h',toks:=tk }:=I.turned (fun b o hb e=>kk b o (by simpa using hb) e) f0 f1 f3 f4 f5
  refine⟨_,rfl,Zqx (s:={ s with heap:=h',toks:=tk }) (n := "range_iterator") st' rfl rfl (by decide) ⟨.int (hi-i),H,I1,⟨t,?_⟩,⟨rfl,rfl⟩,st',fun b hb=>(hf b hb).1⟩⟩
  rw[show hi+(i:Int)*(-1)=hi-i by omega]
 done:=by
  intro X hP hw hK hc i Xbr s σ H E I hf st hg;subst hP hw hK;obtain⟨f0,f1,f2,f3,f4,f5⟩:=hf it (by simp)
  exact wpAny_pyNext_range_end (I.ok.hd hc) st (by have:n<=i:=hg;omega) fun h' eb=>⟨rfl,I.turned (t':=s.toks) (fun b o hb e=>eb b o hb e) f0 f1 f3 f4 f5⟩
 self:=fun _ _ _ _ _ st h=>wpAny_pyIter_rangeiter st h
section
variable {X:Cx}{tg:Expr}
theorem Zny {Xbr:List (Addr×Obj)}{σ:St}{H:Hp}{s:Shared}{R:It->Hp->Prop}{E:Value->Shared->Prop}{lo hi:Int}{t u v:Tok}{tk:Nat}(I:Inv X Xbr σ H s)(h1 : -(2^62)<=hi)(h2:hi<2^62)(h3 : -(2^62)<=lo)(h4:lo<2^62)
 (q:R (Zuz hi (hi-lo).toNat) H):wpAny (model X.prog X.w) X.A (pyIter (.ref s.heap.objs.size)) (PIE X Xbr σ tg R) E { s with heap:=s.heap.push { cls:=.type "range",data:=.fields #[.int hi t,.int lo u,.int (-1) v] },toks:=tk }:=by
 refine wpAny_pyIter_range (IsRange.new ..) (ZjZ h1 h2 h3 h4) ?_
 have I1:Inv X Xbr σ H { s with heap:=s.heap.push { cls:=.type "range",data:=.fields #[.int hi t,.int lo u,.int (-1) v] },toks:=tk }:=I.kept fun b o e=>Xv _ e
 refine⟨(s.heap.push { cls:=.type "range",data:=.fields #[.int hi t,.int lo u,.int (-1) v] }).objs.size,[(s.heap.push { cls:=.type "range",data:=.fields #[.int hi t,.int lo u,.int (-1) v] }).objs.size],_,_,H,rfl,
  I1.kept (t':=tk) fun b o e=>Xv _ e,ZkB _ hi (hi-lo).toNat,?_,fun b hb=>?_,q⟩
 ·have e1:hi+((0:Nat):Int)*(-1)=hi:=by simp
  have e2:(((hi-lo).toNat:Nat):Int)-((0:Nat):Int)=Builtin.Range.rangeSize hi lo (-1):=by rw[Zh2];omega
  show IsRangeIter _ _ (hi+((0:Nat):Int)*(-1)) ((((hi-lo).toNat:Nat):Int)-((0:Nat):Int)) (-1)
  rw[e1,e2];exact XZ _ rfl
 ·have e:b=(s.heap.push { cls:=.type "range",data:=.fields #[.int hi t,.int lo u,.int (-1) v] }).objs.size:=by simpa using hb
  subst e;exact I1.fpOk (Xw _) (I1.hok.fresh (Xw _))
def Zt1 (ta:TA):TI:=fun σ H R=>ta σ H fun vs H1=>∃i j:Int,vs=[.int i,.int j,.int (-1)]/\(-(2^62)<=i/\i<2^62 /\ -(2^62)<=j/\j<2^62)/\R (Zuz i (i-j).toNat) H1
theorem ZoD {a b c:Expr} {ta:TA} {p pos:Pos} (hg:Gl X "range") (hm:X.mg "range"=none) (ha:PA X [a,b,c] ta) (hs:starEach [a,b,c] X.env=[(false,eval a X.env),(false,eval b X.env),(false,eval c X.env)]:=by rfl)
 (hs2:starEach [b,c] X.env=[(false,eval b X.env),(false,eval c X.env)]:=by rfl):PI X tg (.Call (.Name "range" p) [a,b,c] [] pos) (Zt1 ta):=by
 intro Xbr s σ H R I h;refine Call_ (Zg9 I hg hm boot_range (PyProof.Rows.callWith_type1 (thn (ha pos Xbr s σ H _ I h) fun us s1 ⟨vs,H1,I1,r1,q1⟩=>?_) (by rw[hs,hs2]) (by rw[hs2];rfl)))
 obtain⟨i,j,e,⟨q1,q2,q3,q4⟩,q⟩:=q1
 subst e;cases r1 with
 |cons r rr =>
   cases rr with
   |cons r' rr =>
     cases rr with
     |cons r2 rr =>
       cases rr
       obtain⟨t,rfl⟩:=r
       obtain⟨t',rfl⟩:=r'
       obtain⟨t2,rfl⟩:=r2
       exact call_range_3 (by decide) (Zny I1 q1 q2 q3 q4 q) (.inl (PyProof.noPylong_small (by decide)))
end
def ZrX (K:W.Frag):V->V->Hp->VK->Prop:=fun o i H Q=>∃p xs k v,o=.ref p/\i=.int k/\SqL K H p xs/\0<=k/\xs[k.toNat]?=some v/\Q v H
theorem Zke (ns:List Int):preSum (fun i=>ns.getD i 0) ns.length=ns.sum:=by
 have key:∀k,k<=ns.length->preSum (fun i=>ns.getD i 0) k=(ns.take k).sum:=by
  intro k;induction k with
  |zero=>intro _;simp[preSum]
  |succ k ih =>
    intro hk;have h1:k<ns.length:=by omega
    rw[Xau,Xa6,<- ih (by omega)];simp[preSum,h1]
 rw[key ns.length (Xw _),Xap]
theorem Ziv:∀{vs:List Value} {ns:List Int} {i:Nat} {v:Value},IntsAre vs ns->vs[i]?=some v->∃t,v=.int (ns.getD i 0) t
 |_,_,_,_,.nil,e=>by simp at e
 |_,_,0,_,.cons n t h,e=>by simp at e;exact⟨t,by simp[<- e]⟩
 |_,_,i+1,v,.cons n t h,e=>by
   obtain⟨t',z⟩:=Ziv (i:=i) (v:=v) h (by simpa using e)
   exact⟨t',by simpa using z⟩
theorem Zjd {prog:Program}{w:World}{A:Around}{E:Value->Shared->Prop}{s:Shared}{l:Addr}{vs:List Value}{ns:List Int}{Q:Value->Shared->Prop}(hh:A.handled=none)(hl:s.heap.IsList l vs.toArray)(hi:IntsAre vs ns)
 (h:∀h' tk t',(∀b o,s.heap.get? b=some o->h'.get? b=some o)->Q (.int ns.sum t') { s with heap:=h',toks:=tk }):wpAny (model prog w) A (call (.builtin "sum") [.ref l]) Q E s:=by
 obtain⟨o,ho,hc,n,hd⟩:=id hl
 have hne:l≠s.heap.objs.size:=Xs (Xo ho)
 have W:=(Walks.list (prog:=prog) (w:=w) (A:=A.in1) hh s.heap.objs.size l hne vs.toArray).toS
 refine call_sum_walkAnyS (wpAny_pyIter_list hl ?_)
 refine⟨s.heap.objs.size,_,_,_,_,_,_,fun i=>ns.getD i 0,rfl,W,⟨⟨_,XZ _ rfl,rfl,rfl⟩,hl.at fun o e=>Xv _ e⟩,fun b hb=>?_,fun i v hP=>Ziv hi (by simpa using hP),fun s' t' hm=>?_⟩
 ·rcases Xf.mp hb with rfl|hb
  ·exact Xo (XZ _ rfl)
  ·obtain rfl:=Xm.mp hb
   exact Xo (Xv _ ho)
 ·obtain⟨h',g',d',tk',os'⟩:=s'
  have e1:g'=s.gens:=hm.gens
  have e2:d'=s.drawn:=hm.drawn
  have e3:os'=s.os:=hm.os
  subst e1 e2 e3;have es:vs.toArray.size=ns.length:=by rw[XC,hi.length]
  rw[es,Zke];exact h h' tk' t' fun b o e=>hm.heap b o (fun hb=>Xp (Xo e) ((Xm.mp hb)▸XaA _)) (Xv _ e)
section
variable {X:Cx}
theorem Zgn:ZuS X (ZrX X.K):=by
 intro Xbr s σ H o i ov iv Q I ro ri h;obtain⟨p,xs,k,v,rfl,rfl,hq,h0,hv,q⟩:=h
 cases ro
 obtain⟨t,rfl⟩:=ri
 obtain⟨its,r,pl,hz⟩:=I.list hq
 obtain⟨w,ew,rw'⟩:=r.get hv
 have hl:=r.length
 have hn:=Zgt
 have hlt:k.toNat<xs.length:=(Xe.mp hv).1
 exact wpAny_getItem_list pl.isList h0 (by omega) (by simpa using ew) ⟨v,H,I,rw',q⟩
theorem ZmR:Zd1 X (.builtin "sum") (fun xs H Q=>X.calm=true/\∃(x:V) (ns:List Int),xs=[x]/\Rep H x (.list (ns.map PyData.int))/\Q (.int ns.sum) H):=by
 intro Xbr s σ H xs us Q I r h;obtain⟨hc,x,ns,rfl,hx,q⟩:=h
 obtain⟨u,rfl,rx⟩:=Zhf r
 cases hx with
 |lst ha rr =>
   cases rx
   have er:=ZcY rr
   subst er;obtain⟨its,rv,p,hz⟩:=I.list (SqL.of (K:=X.K) ha)
   exact Zjd (I.ok.hd hc) p.isList (Zd9 rv) fun h' tk t' k=>⟨.int ns.sum,H,I.kept k,⟨_,rfl⟩,q⟩
end
section
variable {X:Cx}
end
theorem Inv.turnedL {X:Cx}{Xbr:List (Addr×Obj)}{σ:St}{H:Hp}{s:Shared}{h':Heap}{t':Nat}{ch:List Addr}(I:Inv X Xbr σ H s)(k:∀b o,b∉ch->s.heap.get? b=some o->h'.get? b=some o)(hch:∀b∈ch,Zm1 X Xbr H b):Inv X Xbr σ H { s with heap:=h',toks:=t' }:=by
 refine I.step (g':=s.gens) (d':=s.drawn) (ch:=ch) (fun b hb=>?_) (fun b o _ _ hc e _=>k b o hc e) (fun b o _ _ hc e _=>⟨o.slots,k b o hc e⟩) (fun _ _ _ _ n=>n)
  (fun b o hc e=>⟨o,k b o hc e⟩) (fun _ _ e=>e) (fun _ _ _ e=>e) (fun b ps e=>⟨#[],by rw[e];simp⟩) (fun m hm=>?_) (fun b u e=>?_) I.bare (fun b _ o hc _ e=>k b o hc e)
 ·obtain⟨f0,f1,f2,f3,f4,f5⟩:=hch b hb
  exact⟨f3,f1,f4,f5⟩
 ·obtain⟨o,es,ep,ho,r⟩:=hm
  exact⟨o,es,ep,k _ o (fun z=>(hch _ z).2.1 rfl) ho,r⟩
 ·refine(I.hok b u e).stay (fun c v hc q=>k c v (fun z=>?_) q) (fun _ q=>q) fun _ _ q=>q
  have hn:=(hch c z).1
  rcases hc with rfl|hc
  ·rw[hn]at e;cases e
  ·rw[hn]at hc;cases hc
theorem Inv.trackTup {X:Cx}{Xbr:List (Addr×Obj)}{σ:St}{H:Hp}{s0 s:Shared}{T:Addr}{x y:V}{u v:Value}(I0:Inv X Xbr σ H s0)(I:Inv X Xbr σ H s)(hT:s0.heap.objs.size<=T)(rx:Zbl x u)(ry:Zbl y v)(tup:s.heap.IsTuple T #[u,v]):Inv X Xbr σ (upd H T (.tup [x,y])) s:=by
 refine I.track (I0.hok.fresh hT) (XS I0.sz hT) (Xaq (XG I0.lt hT)) (fun z c e q=>?_) (fun p hp q=>?_) ⟨by show 2<=sizeLine;decide,[u,v],.cons rx (.cons ry .nil),tup⟩
 ·obtain⟨w,hw⟩:=I0.cell z c e
  exact Xp (XG hw.lt (by rw[q];exact hT)) (XaA _)
 ·exact Xp (XG (Xo (I0.pin p hp).1) (by rw[q];exact hT)) (XaA _)
def Itz (K:W.Frag)(a b:Addr):It :=
 ⟨fun i H=>∃xs ys x y,SqL K H a xs/\SqL K H b ys/\xs[i]?=some x/\ys[i]?=some y,
  fun i H v H'=>∃p x y,H p=none/\v=.ref p/\H'=upd H p (.tup [x,y])/\(∀xs,SqL K H a xs->xs[i]?=some x)/\∀ys,SqL K H b ys->ys[i]?=some y,
  fun i H=>∃xs ys,SqL K H a xs/\SqL K H b ys/\i=min xs.length ys.length⟩
def Ite (K:W.Frag)(a:Addr):It :=
 ⟨fun i H=>∃xs x,SqL K H a xs/\xs[i]?=some x,
  fun i H v H'=>∃p x,H p=none/\v=.ref p/\H'=upd H p (.tup [.int (i:Int),x])/\∀xs,SqL K H a xs->xs[i]?=some x,
  fun i H=>∃xs,SqL K H a xs/\i=xs.length⟩
theorem ZpJ {P:Program}{w:World}{K:W.Frag}{elts:List Expr}{k:Nat}{pos:Pos}{z TI TO i1 i2 a b:Addr}(D:ZipApart z TI TO i1 i2 a b) :
 Turn P w K (.Tuple elts k pos) (Itz K a b) [z,TI,TO,i1,i2] z (fun i h=>IsZip h z TI TO .none/\IsPair h TI (.ref i1) (.ref i2)/\(∃p q,IsPair h TO p q)/\h.IsListIter i1 a i/\h.IsListIter i2 b i) where
 mem:=by simp
 obj:=fun i h st c hc=>by
  obtain⟨hz,hTI,⟨p,q,hTO⟩,⟨o1,e1,c1,d1⟩,o2,e2,c2,d2⟩:=st
  simp only[Xf,Xad,or_false]at hc;rcases hc with rfl|rfl|rfl|rfl|rfl
  ·exact⟨_,hz,fun v z=>nomatch z⟩
  ·exact⟨_,hTI,fun v z=>nomatch z⟩
  ·exact⟨_,hTO,fun v z=>nomatch z⟩
  ·exact⟨_,e1,fun v z=>by rw[d1]at z;cases z⟩
  ·exact⟨_,e2,fun v z=>by rw[d2]at z;cases z⟩
 keep:=fun i h h' st kk=>by
  obtain⟨hz,hTI,⟨p,q,hTO⟩,h1,h2⟩:=st
  exact⟨kk z (by simp) _ hz,kk TI (by simp) _ hTI,⟨p,q,kk TO (by simp) _ hTO⟩,h1.at fun o e=>kk i1 (by simp) o e,h2.at fun o e=>kk i2 (by simp) o e⟩
 item:=by
  intro X hP hw hK hc i Xbr s σ H E I hf st hg;subst hP hw hK;obtain⟨xs,ys,x,y,hq1,hq2,hx,hy⟩:=hg
  obtain⟨its1,rv1,p1,hz1⟩:=I.list hq1
  obtain⟨its2,rv2,p2,hz2⟩:=I.list hq2
  obtain⟨u1,hu1,ru1⟩:=rv1.get hx
  obtain⟨u2,hu2,ru2⟩:=rv2.get hy
  obtain⟨hz,hTI,hTO,h1,h2⟩:=st
  have W:=WalksT.zip2 (prog:=X.prog) (w:=X.w) (A:=X.A) (I.ok.hd hc) z TI TO i1 i2 a b D its1.toArray its2.toArray
  have l1:i<its1.length:=(Xe.mp hu1).1
  have l2:i<its2.length:=(Xe.mp hu2).1
  have wr:∀c∈[z,TO,i1,i2],Zm1 X Xbr H c:=fun c hc=>hf c (by
   simp only[Xf,Xad,or_false]at hc ⊢;rcases hc with rfl|rfl|rfl|rfl<;>simp)
  refine W.item i s _ _ (by simp only[XC];omega) ⟨hz,hTI,hTO,h1,h2,p1.isList,p2.isList⟩ fun T vals h' tk pt hT tup mid kp=>?_
  obtain⟨v1,v2,e1,e2,rfl⟩:=pt
  have ev1:v1=u1:=by
   have:its1[i]?=some v1:=by simpa using e1
   rw[hu1]at this;exact(Option.some.inj this).symm
  have ev2:v2=u2:=by
   have:its2[i]?=some v2:=by simpa using e2
   rw[hu2]at this;exact(Option.some.inj this).symm
  subst ev1 ev2;have I1:Inv X Xbr σ H { s with heap:=h',toks:=tk }:=I.turnedL kp wr
  refine⟨.ref T,rfl,W.go elts k pos i T { s with heap:=h',toks:=tk } _ _ mid fun h'' st' kp2=>?_⟩
  have I2:Inv X Xbr σ H { s with heap:=h'',toks:=tk }:=I1.turnedL (t':=tk) kp2 wr
  have tup2:h''.IsTuple T #[v1,v2]:=by
   obtain⟨o,ho,hcl,n,hd⟩:=tup
   exact⟨o,kp2 T o (W.apart i T h' mid) ho,hcl,n,hd⟩
  have I3:=I.trackTup I2 hT ru1 ru2 tup2
  obtain⟨sz,sTI,sTO,s1,s2,_,_⟩:=st'
  refine⟨.ref T,_,I3,rfl,⟨T,x,y,I.hok.fresh hT,rfl,rfl,fun xs' h=>by rw[I.list_inj h hq1];exact hx,fun ys' h=>by rw[I.list_inj h hq2];exact hy⟩,⟨sz,sTI,sTO,s1,s2⟩,fun c hc'=>?_⟩
  have hlt:c<s.heap.objs.size:=by
   simp only[Xf,Xad,or_false]at hc';obtain⟨p,q,hTO⟩:=hTO
   rcases hc' with rfl|rfl|rfl|rfl|rfl
   ·exact Xo hz
   ·exact Xo hTI
   ·exact Xo hTO
   ·obtain⟨_,e,_⟩:=h1;exact Xo e
   ·obtain⟨_,e,_⟩:=h2;exact Xo e
  rw[Zak (Xs (XG hlt hT))];exact(hf c hc').1
 done:=by
  intro X hP hw hK hc i Xbr s σ H E I hf st hg;subst hP hw hK;obtain⟨xs,ys,hq1,hq2,rfl⟩:=hg
  obtain⟨its1,rv1,p1,hz1⟩:=I.list hq1
  obtain⟨its2,rv2,p2,hz2⟩:=I.list hq2
  obtain⟨hz,hTI,hTO,h1,h2⟩:=st
  have W:=WalksT.zip2 (prog:=X.prog) (w:=X.w) (A:=X.A) (I.ok.hd hc) z TI TO i1 i2 a b D its1.toArray its2.toArray
  have wr:∀c∈[z,TO,i1,i2],Zm1 X Xbr H c:=fun c hc=>hf c (by
   simp only[Xf,Xad,or_false]at hc ⊢;rcases hc with rfl|rfl|rfl|rfl<;>simp)
  have en:min xs.length ys.length=min its1.toArray.size its2.toArray.size:=by simp[rv1.length,rv2.length]
  refine W.done s _ _ (by rw[<- en];exact⟨hz,hTI,hTO,h1,h2,p1.isList,p2.isList⟩) fun h' tk kp=>⟨rfl,I.turnedL kp wr⟩
 self:=fun _ _ _ _ _ st h=>wpAny_pyIter_zip st.1 h
theorem ZoF {P:Program}{w:World}{K:W.Frag}{elts:List Expr}{k:Nat}{pos:Pos}{e it a:Addr}(hei:e≠it)(hle:a≠e)(hli:a≠it) :
 Turn P w K (.Tuple elts k pos) (Ite K a) [e,it] e (fun i h=>(∃old,IsEnum h e it i old)/\h.IsListIter it a i) where
 mem:=by simp
 obj:=fun i h st c hc=>by
  obtain⟨⟨old,he⟩,o1,e1,c1,d1⟩:=st
  simp only[Xf,Xad,or_false]at hc;rcases hc with rfl|rfl
  ·exact⟨_,he,fun v z=>nomatch z⟩
  ·exact⟨_,e1,fun v z=>by rw[d1]at z;cases z⟩
 keep:=fun i h h' st kk=>by
  obtain⟨⟨old,he⟩,h1⟩:=st
  exact⟨⟨old,kk e (by simp) _ he⟩,h1.at fun o x=>kk it (by simp) o x⟩
 item:=by
  intro X hP hw hK hc i Xbr s σ H E I hf st hg;subst hP hw hK;obtain⟨xs,x,hq1,hx⟩:=hg
  obtain⟨its1,rv1,p1,hz1⟩:=I.list hq1
  obtain⟨u1,hu1,ru1⟩:=rv1.get hx
  obtain⟨he,h1⟩:=st
  have W:=WalksT.enumerate (prog:=X.prog) (w:=X.w) (A:=X.A) (I.ok.hd hc) e it a hei hle hli its1.toArray
  have l1:i<its1.length:=(Xe.mp hu1).1
  have wr:∀c∈[e,it],Zm1 X Xbr H c:=hf
  refine W.item i s _ _ (by simp only[XC];omega) ⟨he,h1,p1.isList⟩ fun T vals h' tk pt hT tup mid kp=>?_
  obtain⟨t,v1,e1,rfl⟩:=pt
  have ev1:v1=u1:=by
   have:its1[i]?=some v1:=by simpa using e1
   rw[hu1]at this;exact(Option.some.inj this).symm
  subst ev1;have I1:Inv X Xbr σ H { s with heap:=h',toks:=tk }:=I.turnedL kp wr
  refine⟨.ref T,rfl,W.go elts k pos i T { s with heap:=h',toks:=tk } _ _ mid fun h'' st' kp2=>?_⟩
  have I2:Inv X Xbr σ H { s with heap:=h'',toks:=tk }:=I1.turnedL (t':=tk) kp2 wr
  have tup2:h''.IsTuple T #[.int (i:Int) t,v1]:=by
   obtain⟨o,ho,hcl,n,hd⟩:=tup
   exact⟨o,kp2 T o (W.apart i T h' mid) ho,hcl,n,hd⟩
  have I3:=I.trackTup I2 hT (x:=.int (i:Int)) ⟨t,rfl⟩ ru1 tup2
  obtain⟨s1,s2,_⟩:=st'
  refine⟨.ref T,_,I3,rfl,⟨T,x,I.hok.fresh hT,rfl,rfl,fun xs' h=>by rw[I.list_inj h hq1];exact hx⟩,⟨s1,s2⟩,fun c hc'=>?_⟩
  have hlt:c<s.heap.objs.size:=by
   simp only[Xf,Xad,or_false]at hc';obtain⟨old,he⟩:=he
   rcases hc' with rfl|rfl
   ·exact Xo he
   ·obtain⟨_,z,_⟩:=h1;exact Xo z
  rw[Zak (Xs (XG hlt hT))];exact(hf c hc').1
 done:=by
  intro X hP hw hK hc i Xbr s σ H E I hf st hg;subst hP hw hK;obtain⟨xs,hq1,rfl⟩:=hg
  obtain⟨its1,rv1,p1,hz1⟩:=I.list hq1
  obtain⟨he,h1⟩:=st
  have W:=WalksT.enumerate (prog:=X.prog) (w:=X.w) (A:=X.A) (I.ok.hd hc) e it a hei hle hli its1.toArray
  have en:xs.length=its1.toArray.size:=by simp[rv1.length]
  refine W.done s _ _ (by rw[<- en];exact⟨he,h1,p1.isList⟩) fun h' tk kp=>⟨rfl,I.turnedL kp hf⟩
 self:=fun _ _ _ _ _ st h=>by
  obtain⟨⟨old,he⟩,_⟩:=st
  exact wpAny_pyIter_enum he h
theorem ZtD {n x y:Nat}(hx:x<n)(hy:y<n):ZipApart (n+4) (n+2) (n+3) n (n+1) x y :=
 ⟨Xs (by omega),Xs (by omega),Xs (by omega),Xs (by omega),Xs (by omega),Xaq (by omega),Xaq (by omega),Xaq (by omega),Xaq (by omega),Xs (by omega),
  Xs (by omega),Xs (by omega),Xs (by omega),Xs (by omega),Xs (by omega),Xs (by omega),Xs (by omega),Xs (by omega)⟩
section
variable {X:Cx}
def Zvm (K:W.Frag)(ta:TA):TI:=fun σ H R=>ta σ H fun vs H1=>∃a b,vs=[.ref a,.ref b]/\(∃xs,SqL K H1 a xs)/\(∃ys,SqL K H1 b ys)/\R (Itz K a b) H1
def ZtY (K:W.Frag)(ta:TA):TI:=fun σ H R=>ta σ H fun vs H1=>∃a,vs=[.ref a]/\(∃xs,SqL K H1 a xs)/\R (Ite K a) H1
theorem Znw:bootBuiltins "enumerate"=some (.type "enumerate"):=by decide +kernel
theorem Zon:bootBuiltins "zip"=some (.type "zip"):=by decide +kernel
theorem Zja {a b:Expr} {ta:TA} {p pos:Pos} {elts:List Expr} {k:Nat} {tpos:Pos} (hg:Gl X "zip") (hm:X.mg "zip"=none) (ha:PA X [a,b] ta) (hs:starEach [a,b] X.env=[(false,eval a X.env),(false,eval b X.env)]:=by rfl) (hs2:starEach [b] X.env=[(false,eval b X.env)]:=by rfl) :
 PI X (.Tuple elts k tpos) (.Call (.Name "zip" p) [a,b] [] pos) (Zvm X.K ta):=by
 intro Xbr s σ H R I h;refine Call_ (Zg9 I hg hm Zon (PyProof.Rows.callWith_type1 (thn (ha pos Xbr s σ H _ I h) fun us s1 ⟨vs,H1,I1,r1,q1⟩=>?_) (by rw[hs,hs2]) (by rw[hs2];rfl)))
 obtain⟨x,y,e,⟨xs,hx⟩,⟨ys,hy⟩,q⟩:=q1
 subst e;obtain⟨u,v,rfl,rx,ry⟩:=ZpO r1
 cases rx
 cases ry
 obtain⟨its1,rv1,p1,hz1⟩:=I1.list hx
 obtain⟨its2,rv2,p2,hz2⟩:=I1.list hy
 refine call_zip_2 p1.isList p2.isList fun h' hz hTI hTO h1 h2 hsz kp=>wpAny_pyIter_zip hz ?_
 have lx:x<s1.heap.objs.size:=by obtain⟨o,ho,_⟩:=p1.isList;exact Xo ho
 have ly:y<s1.heap.objs.size:=by obtain⟨o,ho,_⟩:=p2.isList;exact Xo ho
 have I2:Inv X Xbr σ H1 { s1 with heap:=h' }:=I1.kept (t':=s1.toks) kp
 refine⟨_,[s1.heap.objs.size+4,s1.heap.objs.size+2,s1.heap.objs.size+3,s1.heap.objs.size,s1.heap.objs.size+1],_,_,H1,rfl,I2,ZpJ (TI:=s1.heap.objs.size+2) (TO:=s1.heap.objs.size+3) (i1:=s1.heap.objs.size) (i2:=s1.heap.objs.size+1) (a:=x) (b:=y) ?_,⟨hz,hTI,⟨_,_,hTO⟩,h1,h2⟩,fun c hc=>?_,q⟩
 ·exact ZtD lx ly
 ·have hle:s1.heap.objs.size<=c:=by
   simp only[Xf,Xad,or_false]at hc;rcases hc with rfl|rfl|rfl|rfl|rfl
   ·exact Xbc _ _
   ·exact Xbc _ _
   ·exact Xbc _ _
   ·exact Xw _
   ·exact Xbc _ _
  exact I1.fpOk hle (I1.hok.fresh hle)
theorem ZfV {a:Expr} {ta:TA} {p pos:Pos} {elts:List Expr} {k:Nat} {tpos:Pos} (hg:Gl X "enumerate") (hm:X.mg "enumerate"=none) (ha:PA X [a] ta) (hs:starEach [a] X.env=[(false,eval a X.env)]:=by rfl) :
 PI X (.Tuple elts k tpos) (.Call (.Name "enumerate" p) [a] [] pos) (ZtY X.K ta):=by
 intro Xbr s σ H R I h;refine Call_ (Zg9 I hg hm Znw (PyProof.Rows.callWith_type1 (thn (ha pos Xbr s σ H _ I h) fun us s1 ⟨vs,H1,I1,r1,q1⟩=>?_) hs rfl))
 obtain⟨x,e,⟨xs,hx⟩,q⟩:=q1
 subst e;obtain⟨u,rfl,rx⟩:=Zhf r1
 cases rx
 obtain⟨its1,rv1,p1,hz1⟩:=I1.list hx
 refine call_enumerate_list p1.isList fun h' he h1 hsz kp=>wpAny_pyIter_enum he ?_
 have lx:x<s1.heap.objs.size:=by obtain⟨o,ho,_⟩:=p1.isList;exact Xo ho
 have I2:Inv X Xbr σ H1 { s1 with heap:=h' }:=I1.kept (t':=s1.toks) kp
 refine⟨_,[s1.heap.objs.size+1,s1.heap.objs.size],_,_,H1,rfl,I2,ZoF (e:=s1.heap.objs.size+1) (it:=s1.heap.objs.size) (a:=x) (Nat.succ_ne_self _) (Xs (Nat.lt_succ_of_lt lx)) (Xs lx),⟨⟨_,he⟩,h1⟩,fun c hc=>?_,q⟩
 have hle:s1.heap.objs.size<=c:=by
  simp only[Xf,Xad,or_false]at hc;rcases hc with rfl|rfl
  ·exact Xbc _ _
  ·exact Xw _
 exact I1.fpOk hle (I1.hok.fresh hle)
end
theorem Zrt {s:Shared}{h':Heap}{o:Obj}(hk:∀b x,b∉[s.heap.objs.size]->(s.heap.push o).get? b=some x->h'.get? b=some x):∀b x,s.heap.get? b=some x->h'.get? b=some x :=
 fun b x e=>hk b x (fun hm=>by rw[Xm.mp hm]at e;exact XaA _ (Xo e)) (Xv _ e)
def ZkI:List Int->Int
 |[]=>0
 |[a]=>a
 |a::b::r=>min a (ZkI (b::r))
theorem Zfn:∀{ns:List Int},ns≠[]->ZkI ns∈ns/\∀a∈ns,ZkI ns<=a
 |[],h=>Xp rfl h
 |[a],_=>by simp[ZkI]
 |a::b::r,_=>by
   obtain⟨h1,h2⟩:=Zfn (ns:=b::r) (by simp)
   simp only[ZkI];refine⟨?_,fun c hc=>?_⟩
   ·by_cases h:a<=ZkI (b::r)
    ·rw[Int.min_eq_left h];exact Xb
    ·rw[Int.min_eq_right (by omega)];exact Xd _ h1
   ·rcases Xf.mp hc with rfl|hc
    ·omega
    ·have:=h2 c hc
     omega
theorem ZrA {ns:List Int}{M:Int}(h1:M∈ns)(h2:∀a∈ns,M<=a):M=ZkI ns:=by
 obtain⟨g1,g2⟩:=Zfn (ns:=ns) (fun z=>by rw[z]at h1;cases h1)
 have:=h2 _ g1
 have:=g2 _ h1
 omega
section
variable {X:Cx}
def Zud (X:Cx):List V->Hp->VK->Prop:=fun xs H Q=>X.calm=true/\∃(x:V) (ns:List Int),xs=[x]/\Rep H x (.list (ns.map PyData.int))/\ns≠[]/\Q (.int (ZkI ns)) H
def Ztv (X:Cx):List V->Hp->VK->Prop:=fun xs H Q=>X.calm=true/\∃a b c,xs=[.int a,.int b,.int c]/\Q (.int (min a (min b c))) H
theorem ZnA:Zd1 X (.builtin "min") (Zud X):=by
 intro Xbr s σ H xs us Q I r h;obtain⟨hc,x,ns,rfl,hx,hne,q⟩:=h
 obtain⟨u,rfl,rx⟩:=Zhf r
 cases hx with
 |@lst l ys _ ha rr =>
   cases rx
   have er:=ZcY rr
   subst er;obtain⟨its,rv,p,hz⟩:=I.list (SqL.of (K:=X.K) ha)
   have hl:=p.isList
   have hi:=Zd9 rv
   have hlen:its.length=ns.length:=hi.length
   have hpos:0<ns.length:=Xbi.mpr hne
   have hlt:l<s.heap.objs.size:=by obtain⟨_,e,_⟩:=hl;exact Xo e
   refine call_min_walk (wpAny_pyIter_list hl ?_)
   refine⟨s.heap.objs.size,[s.heap.objs.size,l],[s.heap.objs.size],its.toArray.size,_,_,_,rfl,Walks.list (A:=X.A.in1) (I.ok.hd hc) _ l (Xs hlt) its.toArray,
    ⟨⟨_,XZ _ rfl,rfl,rfl⟩,hl.push _⟩,fun b hb=>?_,by simp only[XC];omega,CmpOf.ints_lt (fun i=>ns.getD i 0) (fun i v hP=>Ziv hi (by simpa using hP)),fun v h' tk hP hk=>?_⟩
   ·show b<(s.heap.push _).objs.size
    rw[Heap.size_push];rcases Xf.mp hb with rfl|hb
    ·exact XaE _
    ·rcases Xf.mp hb with rfl|hb
     ·exact Nat.lt_succ_of_lt hlt
     ·cases hb
   ·rw[List.getElem?_toArray]at hP
    obtain⟨t,rfl⟩:=Ziv hi hP
    obtain⟨g1,g2⟩:=argBest_lt (fun i=>ns.getD i 0) (its.toArray.size-1)
    have hsz:its.toArray.size=its.length:=by simp
    generalize argBest (fun i j=>decide (ns.getD i 0<ns.getD j 0)) (its.toArray.size-1)=k at g1 g2 ⊢
    rw[hsz]at g1 g2;have hk2:k<ns.length:=by omega
    have em:ns.getD k 0=ZkI ns:=by
     refine ZrA (by simp[hk2]) fun a ha'=>?_
     obtain⟨j,hj,rfl⟩:=List.mem_iff_getElem.mp ha'
     have:=g2 j (by omega)
     simpa [hj,hk2] using this
    exact⟨.int (ZkI ns),H,I.kept (Zrt hk),⟨t,by rw[em]⟩,q⟩
theorem Zrd:Zd1 X (.builtin "min") (Ztv X):=by
 intro Xbr s σ H xs us Q I r h;obtain⟨hc,a,b,c,rfl,q⟩:=h
 cases r with
 |cons r1 r =>
   cases r with
   |cons r2 r =>
     cases r with
     |cons r3 r =>
       cases r
       obtain⟨t,rfl⟩:=r1
       obtain⟨t2,rfl⟩:=r2
       obtain⟨t3,rfl⟩:=r3
       refine min_three_ints (I.ok.hd hc) fun h' tk hk=>⟨.int (min a (min b c)),H,I.kept hk,?_,q⟩
       by_cases h1:b<a
       ·rw[Xc h1]
        by_cases h2:c<b
        ·rw[Xc h2];exact⟨t3,by rw[show min a (min b c)=c by omega]⟩
        ·rw[Xa h2];exact⟨t2,by rw[show min a (min b c)=b by omega]⟩
       ·rw[Xa h1]
        by_cases h2:c<a
        ·rw[Xc h2];exact⟨t3,by rw[show min a (min b c)=c by omega]⟩
        ·rw[Xa h2];exact⟨t,by rw[show min a (min b c)=a by omega]⟩
end
end L2
end
namespace Mir
def Zbe (ns:List Int)(k:Int):Int:=ns.getD k.toNat 0
def Ztz (x:Int):Nat:=if x==0 then 0 else x.natAbs.log2+1
def ZgW (i:Int):Int:=if i<0 then -i else i
def mix (head k:Int):Nat->Int×Int×Int
 |0=>(head%2147483629+7919*k,69621*k+5,0)
 |i+1 =>
   ((((mix head k i).1*48271+11+(i:Int)*k)%2147483647),
    (((mix head k i).2.1*16807+((mix head k i).1*48271+11+(i:Int)*k)%2147483647)%2147483629),
    (mix head k i).2.2*2147483629+(((mix head k i).2.1*16807+((mix head k i).1*48271+11+(i:Int)*k)%2147483647)%2147483629*(((mix head k i).2.1*16807+((mix head k i).1*48271+11+(i:Int)*k)%2147483647)%2147483629)+((mix head k i).1*48271+11+(i:Int)*k)%2147483647)%2147483587)
def Zcf (ns:List Int)(k:Int):Int :=
 if Zbe ns 0/720%2=1 then (mix (Zbe ns 0) k 30).2.2 else ZgW (Zbe ns k)+(mix (Zbe ns 0) k 30).2.2*2^Ztz (ZgW (Zbe ns k))
theorem Zf7 (i:Int):0<=ZgW i:=by unfold ZgW;split<;>omega
theorem Zfe (head k:Int):∀i,0<=(mix head k i).2.2/\(mix head k i).2.2<2147483629^i
 |0=>by simp[mix]
 |i+1=>by
   obtain⟨h1,h2⟩:=Zfe head k i
   have e:(2147483629:Int)^(i+1)=2147483629^i*2147483629:=Int.pow_succ ..
   simp only[mix];generalize (((mix head k i).2.1*16807+((mix head k i).1*48271+11+(i:Int)*k)%2147483647)%2147483629*(((mix head k i).2.1*16807+((mix head k i).1*48271+11+(i:Int)*k)%2147483647)%2147483629)+((mix head k i).1*48271+11+(i:Int)*k)%2147483647)=q;rw[e];generalize (2147483629:Int)^i=M at h2 ⊢;generalize (mix head k i).2.2=t at h1 h2 ⊢;omega
theorem Zpq (head k:Int):(mix head k 30).2.2<2^930:=by
 have h:=(Zfe head k 30).2
 have:(2147483629:Int)^30<=2^930:=by decide +kernel
 omega
theorem Zet (ns:List Int)(k:Int):0<=Zcf ns k:=by
 unfold Zcf;have h:=(Zfe (Zbe ns 0) k 30).1
 split
 ·exact h
 ·have h2:(0:Int)<=2^Ztz (ZgW (Zbe ns k)):=Int.pow_nonneg (by decide)
  have:=Xal h h2
  have:=Zf7 (Zbe ns k)
  omega
def Zcx (n:Int):Int×Int :=
 if n%8=0 then (0,n/8) else if n%8<6 then (n/8%10,n/8/10) else if n%8=6 then (n/8%100,n/8/100) else (n/8%10^30,n/8/10^30)
theorem Zdb {n:Int}(h:0<=n):0<=(Zcx n).1/\(Zcx n).1<10^30/\0<=(Zcx n).2:=by
 unfold Zcx;have e:(10:Int)^30=1000000000000000000000000000000:=by decide
 rw[e];split
 ·simp only;omega
 ·split
  ·simp only;omega
  ·split
   ·simp only;omega
   ·simp only;omega
def bnd (n:Int):Nat->List Int×Int
 |0=>([],n)
 |i+1=>((bnd n i).1++[(Zcx (bnd n i).2).1],(Zcx (bnd n i).2).2)
theorem Zes {n:Int}(h:0<=n):∀i,(bnd n i).1.length=i/\0<=(bnd n i).2/\∀b∈(bnd n i).1,0<=b/\b<10^30
 |0=>⟨rfl,h,by simp[bnd]⟩
 |i+1=>by
   obtain⟨h1,h2,h3⟩:=Zes h i
   obtain⟨a1,a2,a3⟩:=Zdb h2
   refine⟨by simp[bnd,h1],a3,fun b hb=>?_⟩
   simp only[bnd,XI,Xm]at hb;rcases hb with hb|hb
   ·exact h3 b hb
   ·subst hb;exact⟨a1,a2⟩
structure Ln where
 up:Option Nat
 bs:List Int
structure Yd where
 T:Nat
 ls:List Ln
def ZdU (ns:List Int)(T k:Nat):Ln :=
 if k=0 then ⟨none,(bnd (Zcf ns (1+(k:Int))) T).1⟩ else ⟨some (Zcf ns (1+(k:Int))%(k:Int)).toNat,(bnd (Zcf ns (1+(k:Int))/(k:Int)) T).1⟩
def ZbC (ns:List Int):Nat:=(1+ZgW (Zbe ns 0)%8).toNat
def Zdy (ns:List Int):Nat:=(1+ZgW (Zbe ns 0)/8%5).toNat
def ZdX (ns:List Int):Yd:=⟨ZbC ns,(List.range (Zdy ns)).map (ZdU ns (ZbC ns))⟩
def Zb9 (y:Yd)(k:Nat):Option Nat:=(y.ls[k]?).bind (·.up)
structure Yd.Ok (y:Yd):Prop where
 t1:1<=y.T
 t8:y.T<=8
 l1:1<=y.ls.length
 l5:y.ls.length<=5
 up0:Zb9 y 0=none
 ups:∀k,0<k->k<y.ls.length->∃a,Zb9 y k=some a/\a<k
 bl:∀l∈y.ls,l.bs.length=y.T
 bb:∀l∈y.ls,∀b∈l.bs,0<=b/\b<10^300
theorem Zil {b:Int}(h:b<10^30):b<10^300:=X7 h (by decide +kernel)
theorem Zho (ns:List Int):1<=ZbC ns/\ZbC ns<=8:=by unfold ZbC;have:=Zf7 (Zbe ns 0);omega
theorem Zhx (ns:List Int):1<=Zdy ns/\Zdy ns<=5:=by unfold Zdy;have:=Zf7 (Zbe ns 0);omega
theorem ZoG (ns:List Int):(ZdX ns).Ok:=by
 obtain⟨t1,t2⟩:=Zho ns
 obtain⟨c1,c2⟩:=Zhx ns
 have bo:∀k,0<=Zcf ns (1+(k:Int)):=fun k=>Zet _ _
 refine⟨t1,t2,by simpa [ZdX] using c1,by simpa [ZdX] using c2,?_,fun k h0 hk=>?_,fun l hl=>?_,fun l hl=>?_⟩
 ·simp only[Zb9,ZdX,Xi]
  cases e:(List.range (Zdy ns))[0]? with
  |none=>rfl
  |some z =>
    have:z=0:=by
     have:=Xe.mp e
     obtain⟨h1,h2⟩:=this
     simpa using h2.symm
    subst this;simp[ZdU]
 ·have hk':k<Zdy ns:=by simpa [ZdX] using hk
  have e:(List.range (Zdy ns))[k]?=some k:=by simp[hk']
  refine⟨(Zcf ns (1+(k:Int))%(k:Int)).toNat,?_,?_⟩
  ·simp only[Zb9,ZdX,Xi,e]
   simp[ZdU,Xaq h0]
  ·have h1:(0:Int)<k:=by omega
   have:=XaL (Zcf ns (1+(k:Int))) h1
   have:=Xax (Zcf ns (1+(k:Int))) (Int.ne_of_gt h1)
   omega
 ·simp only[ZdX,Xx,Xl]at hl
  obtain⟨k,_,rfl⟩:=hl
  unfold ZdU;split
  ·exact(Zes (bo k) _).1
  ·exact(Zes (XaD (bo k) (by omega)) _).1
 ·simp only[ZdX,Xx,Xl]at hl
  obtain⟨k,_,rfl⟩:=hl
  unfold ZdU;split
  ·exact fun b hb=>⟨((Zes (bo k) _).2.2 b hb).1,Zil ((Zes (bo k) _).2.2 b hb).2⟩
  ·exact fun b hb=>⟨((Zes (XaD (bo k) (by omega)) _).2.2 b hb).1,Zil ((Zes (XaD (bo k) (by omega)) _).2.2 b hb).2⟩
theorem Zm3 (ns:List Int):∀l∈(ZdX ns).ls,∀b∈l.bs,b<10^30:=fun l hl b hb=>by
 have bo:∀k,0<=Zcf ns (1+(k:Int)):=fun k=>Zet _ _
 simp only[ZdX,Xx,Xl]at hl;obtain⟨k,_,rfl⟩:=hl
 unfold ZdU at hb;split at hb
 ·exact((Zes (bo k) _).2.2 b hb).2
 ·exact((Zes (XaD (bo k) (by omega)) _).2.2 b hb).2
def upL (y:Yd)(k:Nat):List Nat :=
 k::match Zb9 y k with
  |none=>[]
  |some a=>if a<k then upL y a else []
termination_by k
theorem Zoa {y:Yd}(ok:y.Ok){k:Nat}(hk:k<y.ls.length):upL y k=if k=0 then [0] else k::upL y ((Zb9 y k).getD 0):=by
 rw[upL];by_cases h0:k=0
 ·subst h0;simp[ok.up0]
 ·obtain⟨a,e,l⟩:=ok.ups k (by omega) hk
  simp[e,l,h0]
theorem Zle (y:Yd):∀k,∀j∈upL y k,j<=k:=by
 intro k;induction k using Nat.strongRecOn with
 |ind k ih =>
   intro j hj;rw[upL]at hj;rcases Xf.mp hj with rfl|hj
   ·exact Xw _
   ·cases e:Zb9 y k with
    |none=>rw[e]at hj;simp at hj
    |some a =>
      rw[e]at hj;by_cases hl:a<k
      ·simp only[hl,if_true]at hj
       have:=ih a hl j hj
       omega
      ·simp only[hl,if_false]at hj;simp at hj
theorem Zgo (y:Yd)(k:Nat):k∈upL y k:=by rw[upL];exact Xb
theorem Zos {y:Yd}(ok:y.Ok){k:Nat}(h0:0<k)(hk:k<y.ls.length){a:Nat}(e:Zb9 y k=some a)(l:Nat)(hl:l≠k):l∈upL y k↔l∈upL y a:=by
 rw[Zoa ok hk,Xa (by omega),e];simp only[XaG,Xf];constructor
 ·rintro(h|h)
  ·exact Xp h hl
  ·exact h
 ·exact .inr
end Mir
namespace Mir
structure Gs where
 line:Nat
 first:Nat
 last:Nat
 want:Int
 most:Int
structure Gs.Ok (y:Yd)(g:Gs):Prop where
 ln:g.line<y.ls.length
 fl:g.first<=g.last
 lt:g.last<y.T
 w1:1<=g.want
 w2:g.want<10^300
 m1:1<=g.most
 m2:g.most<10^300
def Zpx (i:Int):Int:=if i > 1 then i else 1
theorem Zig {i:Int}(h:i<10^30):1<=Zpx i/\Zpx i<10^30:=by
 have e:(10:Int)^30=1000000000000000000000000000000:=by decide
 rw[e]at h ⊢;unfold Zpx;split<;>omega
def gn0 (ns:List Int)(k:Nat):Int:=Zcf ns (6+(k:Int))
def gn1 (ns:List Int)(y:Yd)(k:Nat):Int:=gn0 ns k/(y.ls.length:Int)
def gn2 (ns:List Int)(y:Yd)(k:Nat):Int:=gn1 ns y k/(y.T:Int)
def gf (ns:List Int)(y:Yd)(k:Nat):Int:=gn1 ns y k%(y.T:Int)
def gl (ns:List Int)(y:Yd)(k:Nat):Int:=gf ns y k+gn2 ns y k%((y.T:Int)-gf ns y k)
def gn3 (ns:List Int)(y:Yd)(k:Nat):Int:=gn2 ns y k/((y.T:Int)-gf ns y k)
def Zd7 (ns:List Int)(y:Yd)(k:Nat):Gs :=
 ⟨(gn0 ns k%(y.ls.length:Int)).toNat,(gf ns y k).toNat,(gl ns y k).toNat,Zpx (Zcx (gn3 ns y k)).1,Zpx (Zcx (Zcx (gn3 ns y k)).2).1⟩
def ZcT (ns:List Int):Nat:=(ZgW (Zbe ns 0)/40%9).toNat
def Zdj (ns:List Int)(y:Yd):List Gs:=(List.range (ZcT ns)).map (Zd7 ns y)
theorem ZpI {y:Yd}(ok:y.Ok)(ns:List Int)(k:Nat):0<=gf ns y k/\gf ns y k<y.T:=by
 have h:(0:Int)<(y.T:Int):=by have:=ok.t1;omega
 exact⟨Xax _ (Int.ne_of_gt h),XaL _ h⟩
theorem Zry {y:Yd}(ok:y.Ok)(ns:List Int)(k:Nat):0<=gn0 ns k/\0<=gn1 ns y k/\0<=gn2 ns y k/\0<=gn3 ns y k:=by
 have h0:=Zet ns (6+(k:Int))
 have h1:0<=gn1 ns y k:=XaD h0 (by omega)
 have h2:0<=gn2 ns y k:=XaD h1 (by omega)
 obtain⟨f0,f1⟩:=ZpI ok ns k
 exact⟨h0,h1,h2,XaD h2 (by omega)⟩
theorem ZtE {y:Yd}(ok:y.Ok)(ns:List Int)(k:Nat):gf ns y k<=gl ns y k/\gl ns y k<y.T:=by
 obtain⟨f0,f1⟩:=ZpI ok ns k
 have h:(0:Int)<(y.T:Int)-gf ns y k:=by omega
 have a:=Xax (gn2 ns y k) (Int.ne_of_gt h)
 have b:=XaL (gn2 ns y k) h
 unfold gl;omega
theorem Zmx {y:Yd}(ok:y.Ok)(ns:List Int)(k:Nat):(Zd7 ns y k).Ok y:=by
 obtain⟨f0,f1⟩:=ZpI ok ns k
 obtain⟨l0,l1⟩:=ZtE ok ns k
 obtain⟨n0,n1,n2,n3⟩:=Zry ok ns k
 obtain⟨a1,a2,a3⟩:=Zdb n3
 obtain⟨b1,b2,b3⟩:=Zdb a3
 obtain⟨m1,m2⟩:=Zig a2
 obtain⟨m3,m4⟩:=Zig b2
 have hl:(0:Int)<(y.ls.length:Int):=by have:=ok.l1;omega
 have c1:=Xax (gn0 ns k) (Int.ne_of_gt hl)
 have c2:=XaL (gn0 ns k) hl
 refine⟨?_,?_,?_,m1,Zil m2,m3,Zil m4⟩
 ·simp only[Zd7];omega
 ·simp only[Zd7];omega
 ·simp only[Zd7];omega
theorem Zl7 {y:Yd}(ok:y.Ok)(ns:List Int)(k:Nat):(Zd7 ns y k).want<10^30/\(Zd7 ns y k).most<10^30:=by
 obtain⟨n0,n1,n2,n3⟩:=Zry ok ns k
 obtain⟨a1,a2,a3⟩:=Zdb n3
 obtain⟨b1,b2,b3⟩:=Zdb a3
 obtain⟨m1,m2⟩:=Zig a2
 obtain⟨m3,m4⟩:=Zig b2
 exact⟨m2,m4⟩
theorem ZkA {y:Yd}(ok:y.Ok)(ns:List Int):∀g∈Zdj ns y,g.Ok y:=fun g hg=>by
 simp only[Zdj,Xx,Xl]at hg;obtain⟨k,_,rfl⟩:=hg
 exact Zmx ok ns k
theorem Zka {y:Yd}(ok:y.Ok)(ns:List Int):∀g∈Zdj ns y,g.want<10^30/\g.most<10^30:=fun g hg=>by
 simp only[Zdj,Xx,Xl]at hg;obtain⟨k,_,rfl⟩:=hg
 exact Zl7 ok ns k
theorem Zj6 (ns:List Int)(y:Yd):(Zdj ns y).length<=8:=by
 simp only[Zdj,Xj,XaR,ZcT];have:=Zf7 (Zbe ns 0)
 omega
def ZaY (g:Gs)(t:Int):Bool:=decide ((g.first:Int)<=t)&&decide (t<=(g.last:Int))
def Za9 (y:Yd)(l:Nat)(t:Nat):Int:=(((y.ls[l]?).map (·.bs)).getD []).getD t 0
def Zbf (gs:List Gs)(t:Int)(l:Nat):List Nat->Int
 |[]=>0
 |k::r=>(match gs[k]? with|some g=>if g.line=l/\ZaY g t=true then g.most else 0|none=>0)+Zbf gs t l r
theorem ZcG (gs:List Gs)(t:Int)(l:Nat)(a b:List Nat):Zbf gs t l (a++b)=Zbf gs t l a+Zbf gs t l b:=by
 induction a with
 |nil=>simp[Zbf]
 |cons k r ih=>simp only[XaK,Zbf,ih];omega
def ZgN (y:Yd)(b:Nat->Int)(st:Nat->Int)(j:Nat):Nat->Int:=fun l=>st l+(if Zb9 y j=some l then min (st j) (b j) else 0)
def Zbj (y:Yd)(b own:Nat->Int):Nat->Nat->Int
 |0=>own
 |i+1=>ZgN y b (Zbj y b own i) (y.ls.length-1-i)
def ZdY (y:Yd)(b own:Nat->Int)(l:Nat):Int:=Zbj y b own (y.ls.length-1) l
def Zba (y:Yd)(b own:Nat->Int)(l:Nat):Int:=min (ZdY y b own l) (b l)
def ZbH (y:Yd)(b own:Nat->Int)(l:Nat):Nat->Int
 |0=>0
 |n+1=>ZbH y b own l n+(if Zb9 y (l+1+n)=some l then Zba y b own (l+1+n) else 0)
theorem Zh7 (y:Yd)(ok:y.Ok)(b own:Nat->Int)(l:Nat):∀i,i<=y.ls.length-1->y.ls.length-1-i<=l->∀d,i+d<=y.ls.length-1->Zbj y b own (i+d) l=Zbj y b own i l
 |i,hi,hl,0,_=>rfl
 |i,hi,hl,d+1,hd=>by
   have ih:=Zh7 y ok b own l i hi hl d (by omega)
   show ZgN y b (Zbj y b own (i+d)) (y.ls.length-1-(i+d)) l=_
   unfold ZgN;rw[ih];by_cases h0:0<y.ls.length-1-(i+d)
   ·obtain⟨a,ea,la⟩:=ok.ups (y.ls.length-1-(i+d)) h0 (by omega)
    rw[ea];have:¬some a=some l:=by
     intro z;injection z with z
     omega
    rw[Xa this];omega
   ·have:y.ls.length-1-(i+d)=0:=by omega
    omega
theorem ZlC {y:Yd}(ok:y.Ok)(b own:Nat->Int){j:Nat}(hj:j<y.ls.length):Zbj y b own (y.ls.length-1-j) j=ZdY y b own j:=by
 unfold ZdY;have:=Zh7 y ok b own j (y.ls.length-1-j) (by omega) (by omega) j (by omega)
 rw[show y.ls.length-1-j+j=y.ls.length-1 by omega]at this
 exact this.symm
theorem Zjz {y:Yd}(ok:y.Ok)(b own:Nat->Int)(l:Nat):∀i,i<=y.ls.length-1->Zbj y b own i l+ZbH y b own l (y.ls.length-1-i-l)=own l+ZbH y b own l (y.ls.length-1-l)
 |0,_=>by simp[Zbj]
 |i+1,hi=>by
   have ih:=Zjz ok b own l i (by omega)
   have e:Zbj y b own (i+1) l=Zbj y b own i l+(if Zb9 y (y.ls.length-1-i)=some l then Zba y b own (y.ls.length-1-i) else 0):=by
    show ZgN y b (Zbj y b own i) (y.ls.length-1-i) l=_
    unfold ZgN Zba;have hj:y.ls.length-1-i<y.ls.length:=by have:=ok.l1;omega
    have rf:=ZlC ok b own hj
    rw[show y.ls.length-1-(y.ls.length-1-i)=i by omega]at rf
    rw[rf]
   rw[e];by_cases hl:l<y.ls.length-1-i
   ·obtain⟨d,ed⟩:∃d,y.ls.length-1-i-l=d+1:=⟨y.ls.length-1-i-l-1,by omega⟩
    rw[ed]at ih;have e2:y.ls.length-1-(i+1)-l=d:=by omega
    rw[e2];have e3:l+1+d=y.ls.length-1-i:=by omega
    simp only[ZbH,e3]at ih;omega
   ·have e1:y.ls.length-1-i-l=0:=by omega
    have e2:y.ls.length-1-(i+1)-l=0:=by omega
    rw[e1]at ih;rw[e2];have:¬Zb9 y (y.ls.length-1-i)=some l:=by
     intro z;have h0:0<y.ls.length-1-i:=by omega
     obtain⟨a,ea,la⟩:=ok.ups (y.ls.length-1-i) h0 (by omega)
     rw[ea]at z;injection z with z
     omega
    rw[Xa this];simp only[ZbH]at ih ⊢;omega
theorem Zqn {y:Yd}(ok:y.Ok)(b own:Nat->Int)(l:Nat):ZdY y b own l=own l+ZbH y b own l (y.ls.length-1-l):=by
 have h:=Zjz ok b own l (y.ls.length-1) (Xw _)
 rw[show y.ls.length-1-(y.ls.length-1)-l=0 by omega]at h
 simp only[ZbH]at h;unfold ZdY;omega
end Mir
namespace Mir
def Zas (f:Nat->Int):Nat->Int
 |0=>0
 |n+1=>Zas f n+f n
theorem Zag {f g:Nat->Int}:∀{n:Nat},(∀k,k<n->f k=g k)->Zas f n=Zas g n
 |0,_=>rfl
 |n+1,h=>by
   simp only[Zas];rw[Zag (n:=n) fun k hk=>h k (by omega),h n (by omega)]
theorem ZaW {f g:Nat->Int}:∀{n:Nat},(∀k,k<n->f k<=g k)->Zas f n<=Zas g n
 |0,_=>Xak _
 |n+1,h=>by
   simp only[Zas];have:=ZaW (n:=n) fun k hk=>h k (by omega)
   have:=h n (by omega)
   omega
theorem Zbt (f g:Nat->Int):∀n,Zas (fun k=>f k+g k) n=Zas f n+Zas g n
 |0=>rfl
 |n+1=>by simp only[Zas];rw[Zbt f g n];omega
theorem Zc5 (c:Int)(f:Nat->Int):∀n,Zas (fun k=>c*f k) n=c*Zas f n
 |0=>by simp[Zas]
 |n+1=>by simp only[Zas];rw[Zc5 c f n,XaV]
theorem Za8:∀n,Zas (fun _=>0) n=0
 |0=>rfl
 |n+1=>by simp only[Zas];rw[Za8 n];rfl
theorem Zd3 {a:Nat}{v:Int}:∀{n:Nat},Zas (fun l=>if l=a then v else 0) n=if a<n then v else 0
 |0=>by simp[Zas]
 |n+1=>by
   simp only[Zas];rw[Zd3 (n:=n)]
   by_cases h:n=a
   ·subst h;simp
   ·by_cases h2:a<n
    ·simp[h,h2];omega
    ·have:¬a<n+1:=by omega
     simp[h,h2,this]
theorem ZgP {f:Nat->Int}{n:Nat}(h:∀k,k<n->0<=f k):0<=Zas f n:=by
 have:=ZaW (f:=fun _=>0) (g:=f) (n:=n) h
 rw[Za8]at this;exact this
theorem ZaH (f:Nat->Int)(n:Nat):((List.range n).map f).sum=Zas f n:=by
 induction n with
 |zero=>rfl
 |succ n ih=>rw[Xah,Xz,Xa6,ih];simp[Zas]
theorem ZeX {y:Yd}{b b' own own':Nat->Int}(hb:∀l,b l<=b' l)(h:∀l,own l<=own' l):∀i l,Zbj y b own i l<=Zbj y b' own' i l
 |0,l=>h l
 |i+1,l=>by
   simp only[Zbj,ZgN];have h1:=ZeX (y:=y) hb h i l
   have h2:=ZeX (y:=y) hb h i (y.ls.length-1-i)
   have h3:=hb (y.ls.length-1-i)
   split<;>omega
theorem ZjP {y:Yd}{b b' own own':Nat->Int}(hb:∀l,b l<=b' l)(h:∀l,own l<=own' l)(l:Nat):Zba y b own l<=Zba y b' own' l:=by
 have h1:=ZeX (y:=y) hb h (y.ls.length-1) l
 have h2:=hb l
 unfold Zba ZdY;omega
structure Quad (u n a b:Nat->Int):Prop where
 q:∀l,n l<=a l/\n l<=b l/\a l<=u l/\b l<=u l/\u l+n l<=a l+b l
theorem ZeP {y:Yd}{c u n a b:Nat->Int}(h:Quad u n a b):∀i,Quad (Zbj y c u i) (Zbj y c n i) (Zbj y c a i) (Zbj y c b i)
 |0=>h
 |i+1=>⟨fun l=>by
   have h1:=(ZeP (y:=y) (c:=c) h i).q l
   have h2:=(ZeP (y:=y) (c:=c) h i).q (y.ls.length-1-i)
   simp only[Zbj,ZgN];split
   ·omega
   ·omega⟩
theorem Zkz {y:Yd}{c u n a b:Nat->Int}(h:Quad u n a b):Zba y c u 0+Zba y c n 0<=Zba y c a 0+Zba y c b 0:=by
 have:=(ZeP (y:=y) (c:=c) h (y.ls.length-1)).q 0
 unfold Zba ZdY;omega
def wgt (gs:List Gs)(t:Int)(l k:Nat):Int:=match gs[k]? with|some g=>if g.line=l/\ZaY g t=true then g.most else 0|none=>0
theorem Zop (gs:List Gs)(t:Int)(l k:Nat):Zbf gs t l [k]=wgt gs t l k:=by
 simp only[Zbf,wgt];cases gs[k]? with
 |none=>rfl
 |some g=>simp
theorem Zf3 (gs:List Gs)(t:Int)(l:Nat)(p:Nat->Bool)(m:Nat):Zbf gs t l ((List.range m).filter p)=Zas (fun k=>if p k=true then wgt gs t l k else 0) m:=by
 induction m with
 |zero=>rfl
 |succ m ih =>
   rw[Xah,Xbm,ZcG,ih];simp only[Zas];cases e:p m with
   |true=>simp only[Xa0,e,if_true,List.filter_nil,Zop]
   |false=>simp only[Xa0,e,List.filter_nil,Zbf,Xag,if_false]
theorem Zue {gs:List Gs}(h:∀g∈gs,1<=g.most)(t:Int)(l k:Nat):0<=wgt gs t l k:=by
 unfold wgt;split
 ·rename_i g e
  have:=h g (List.mem_of_getElem? e)
  split<;>omega
 ·omega
theorem Zqz {gs:List Gs}(h:∀g∈gs,1<=g.most)(t:Int)(p q:Nat->Bool)(m:Nat) :
 Quad (fun l=>Zbf gs t l ((List.range m).filter fun k=>p k||q k)) (fun l=>Zbf gs t l ((List.range m).filter fun k=>p k&&q k)) (fun l=>Zbf gs t l ((List.range m).filter p)) (fun l=>Zbf gs t l ((List.range m).filter q)):=⟨fun l=>by
 simp only[Zf3];have w:=fun k=>Zue h t l k
 refine⟨ZaW fun k _=>?_,ZaW fun k _=>?_,ZaW fun k _=>?_,ZaW fun k _=>?_,?_⟩
 ·have:=w k;cases p k<;>cases q k<;>simp<;>omega
 ·have:=w k;cases p k<;>cases q k<;>simp<;>omega
 ·have:=w k;cases p k<;>cases q k<;>simp<;>omega
 ·have:=w k;cases p k<;>cases q k<;>simp<;>omega
 ·rw[<- Zbt,<- Zbt]
  refine ZaW fun k _=>?_
  have:=w k
  cases p k<;>cases q k<;>simp⟩
theorem Zeu (f:Nat->Nat->Int)(n:Nat):∀m,Zas (fun l=>Zas (fun k=>f l k) m) n=Zas (fun k=>Zas (fun l=>f l k) n) m
 |0=>by simp only[Zas];exact Za8 n
 |m+1=>by
   simp only[Zas];rw[Zbt,Zeu f n m]
end Mir
namespace Mir
theorem ZsT {y:Yd}(ok:y.Ok){k c:Nat}(hk:k<y.ls.length)(hc:c∈upL y k):c<y.ls.length:=by
 have:=Zle y k c hc
 omega
section
variable {y:Yd}{b b' own:Nat->Int}{l0:Nat}
end
theorem Zng {k a b:Int}(h:0<=k):min (a*k) (b*k)=min a b*k:=by
 rcases Int.le_total a b with h1|h1
 ·rw[Int.min_eq_left h1,Int.min_eq_left (XR h1 h)]
 ·rw[Int.min_eq_right h1,Int.min_eq_right (XR h1 h)]
theorem ZfL {y y':Yd}{k:Int}(h:0<=k)(hu:∀j,Zb9 y' j=Zb9 y j)(hn:y'.ls.length=y.ls.length)(b own:Nat->Int):∀i l,Zbj y' (fun l=>b l*k) (fun l=>own l*k) i l=Zbj y b own i l*k
 |0,l=>rfl
 |i+1,l=>by
   simp only[Zbj,ZgN,hu,hn];rw[ZfL h hu hn b own i l,ZfL h hu hn b own i (y.ls.length-1-i)];by_cases e:Zb9 y (y.ls.length-1-i)=some l
   ·rw[Xc e,Xc e,Zng h,Xbh]
   ·rw[Xa e,Xa e,Xa1,Xa1]
theorem Zhp {y y':Yd}{k:Int}(h:0<=k)(hu:∀j,Zb9 y' j=Zb9 y j)(hn:y'.ls.length=y.ls.length)(b own:Nat->Int)(l:Nat):Zba y' (fun l=>b l*k) (fun l=>own l*k) l=Zba y b own l*k:=by
 unfold Zba ZdY;rw[ZfL h hu hn,hn,Zng h]
end Mir
section
namespace L2
open PySem PySem.Spec PyProof.Rows
structure Ext (F H F' H':Hp):Prop where
 hh:ZaP H H'
 ff:ZaP F F'
 fh:ZaP F' H'
 fr:∀a,F' a≠none->F a≠none\/H a=none
theorem Ext.refl {F H:Hp}(s:ZaP F H):Ext F H F H:=⟨ZaP.refl _,ZaP.refl _,s,fun _ h=>.inl h⟩
theorem Ext.trans {F H F1 H1 F2 H2:Hp}(a:Ext F H F1 H1)(b:Ext F1 H1 F2 H2):Ext F H F2 H2 :=
 ⟨a.hh.trans b.hh,a.ff.trans b.ff,b.fh,fun p h=>by
  rcases b.fr p h with z|z
  ·exact a.fr p z
  ·exact .inr (a.hh.free z)⟩
theorem ZaR {H:Hp}{a:Addr}{o:HO}(h:H a=some o):H a≠none:=by rw[h];exact fun z=>nomatch z
theorem ZfB {H:Hp}{a:Addr}(h:H a≠none):∃o,H a=some o:=by
 cases e:H a with
 |none=>exact Xp e h
 |some o=>exact⟨o,rfl⟩
theorem ZpZ {F H:Hp}{p:Addr}{o:HO}(s:ZaP F H):ZaP (upd F p o) (upd H p o):=fun b u e=>by
 by_cases h:b=p
 ·subst h;rw[Zam]at e ⊢;exact e
 ·rw[Zak h]at e ⊢;exact s b u e
theorem Ext.new {F H:Hp}{p:Addr}{o:HO}(s:ZaP F H)(hp:H p=none):Ext F H (upd F p o) (upd H p o) :=
 ⟨ZaP.new hp,ZaP.new (s.free hp),ZpZ s,fun a h=>by
  by_cases e:a=p
  ·subst e;exact .inr hp
  ·rw[Zak e]at h;exact .inl h⟩
theorem Ext.own {F H:Hp}{p:Addr}{o:HO}(s:ZaP F H)(hp:H p=none):Ext F H F (upd H p o) :=
 ⟨ZaP.new hp,ZaP.refl _,s.upd (s.free hp),fun _ h=>.inl h⟩
theorem Ext.freeze {F0 H0 F H:Hp}{a:Addr}{o:HO}(x:Ext F0 H0 F H)(hf:F a=none)(ho:H a=some o)(h0:H0 a=none):Ext F0 H0 (upd F a o) H :=
 ⟨x.hh,x.ff.trans (ZaP.new hf),fun b u e=>by
  by_cases h:b=a
  ·subst h;rw[Zam]at e;rw[ho];exact e
  ·rw[Zak h]at e;exact x.fh b u e,fun b h=>by
  by_cases e:b=a
  ·subst e;exact .inr h0
  ·rw[Zak e]at h;exact x.fr b h⟩
theorem Ext.free {F H F' H':Hp}{a:Addr}(x:Ext F H F' H')(hf:F a=none)(hh:H a≠none):F' a=none:=by
 cases e:F' a with
 |none=>rfl
 |some o =>
   rcases x.fr a (ZaR e) with z|z
   ·exact Xp hf z
   ·exact Xp z hh
structure OwnP where
 ok:W.Frag->Hp->Hp->V->List Addr->Prop
 there:∀{K:W.Frag} {F H:Hp} {v:V} {p:List Addr},ok K F H v p->∀a∈p,F a=none/\H a≠none
 mono:∀{K:W.Frag} {F F' H H':Hp} {v:V} {p:List Addr},ZaP F F'->(∀a∈p,F' a=none)->(∀a∈p,H' a=H a)->ok K F H v p->ok K F' H' v p
 uniq:∀{K:W.Frag} {F H:Hp} {v:V} {p q:List Addr},ok K F H v p->ok K F H v q->∀a∈q,a∈p
structure ZP where
 ok:W.Frag->Hp->V->Prop
 mono:∀{K:W.Frag} {F F':Hp} {v:V},ZaP F F'->ok K F v->ok K F' v
inductive OT where
 |zow (Ψ:ZP)
 |fz (d:PyData)
 |ol (ds:List PyData)
 |oll (dss:List (List PyData))
 |scr (ns:List Int)
 |own (v:V) (Φ:OwnP)
abbrev ZaZ:=List (Option OT)
def Zhe (F H:Hp)(a:Addr)(ds:List PyData):Prop:=F a=none/\∃xs,H a=some (.lst xs)/\Reps F xs ds
def Za7 (F H:Hp):List Addr->List (List PyData)->Prop
 |[],[]=>True
 |a::as,ds::dss=>Zhe F H a ds/\Za7 F H as dss
 |_,_=>False
def ZaN (K:W.Frag)(F H:Hp)(v:V):OT->List Addr->Prop
 |.fz d,p=>p=[]/\Rep F v d
 |.ol ds,p=>∃a,v=.ref a/\p=[a]/\Zhe F H a ds
 |.oll dss,p=>∃a as,v=.ref a/\p=a::as/\(a::as).Nodup/\F a=none/\H a=some (.lst (as.map V.ref))/\Za7 F H as dss
 |.scr ns,p=>p=[]/\∃a,v=.ref a/\Scr K F a ns
 |.own v0 Φ,p=>v=v0/\Φ.ok K F H v p
 |.zow Ψ,p=>p=[]/\Ψ.ok K F v
theorem ZaP.at_eq {H H':Hp}(s:ZaP H H'){a:Addr}(h:H a≠none):H' a=H a:=by
 cases e:H a with
 |none=>exact Xp e h
 |some o=>exact s _ _ e
theorem Zhe.ext {F H F' H':Hp}{a:Addr}{ds:List PyData}(h:Zhe F H a ds)(x:Ext F H F' H'):Zhe F' H' a ds:=by
 obtain⟨h1,xs,h2,h3⟩:=h
 exact⟨x.free h1 (ZaR h2),xs,x.hh _ _ h2,h3.mono x.ff⟩
theorem Za7.ext {F H F' H':Hp}(x:Ext F H F' H'):∀{as:List Addr} {dss:List (List PyData)},Za7 F H as dss->Za7 F' H' as dss
 |[],[],_=>trivial
 |_::_,_::_,h=>⟨h.1.ext x,Za7.ext x h.2⟩
 |[],_::_,h=>False.elim h
 |_::_,[],h=>False.elim h
theorem Za7.mem {F H:Hp}:∀{as:List Addr} {dss:List (List PyData)},Za7 F H as dss->∀a∈as,F a=none/\H a≠none
 |[],[],_,a,ha=>by cases ha
 |b::as,_::_,h,a,ha=>by
   rcases Xf.mp ha with rfl|ha
   ·obtain⟨h1,xs,h2,_⟩:=h.1
    exact⟨h1,ZaR h2⟩
   ·exact Za7.mem h.2 a ha
 |[],_::_,h,_,_=>False.elim h
 |_::_,[],h,_,_=>False.elim h
theorem ZaN.ext {K:W.Frag}{F H F' H':Hp}{v:V}{t:OT}{p:List Addr}(h:ZaN K F H v t p)(x:Ext F H F' H'):ZaN K F' H' v t p:=by
 cases t with
 |fz d=>exact⟨h.1,h.2.mono x.ff⟩
 |zow Ψ=>exact⟨h.1,Ψ.mono x.ff h.2⟩
 |ol ds=>obtain⟨a,h1,h2,h3⟩:=h;exact⟨a,h1,h2,h3.ext x⟩
 |oll dss=>obtain⟨a,as,h1,h2,h3,h4,h5,h6⟩:=h;exact⟨a,as,h1,h2,h3,x.free h4 (ZaR h5),x.hh _ _ h5,h6.ext x⟩
 |scr ns=>obtain⟨h1,a,h2,h3⟩:=h;exact⟨h1,a,h2,h3.mono x.ff⟩
 |own v0 Φ=>exact⟨h.1,Φ.mono x.ff (fun a ha=>x.free (Φ.there h.2 a ha).1 (Φ.there h.2 a ha).2) (fun a ha=>x.hh.at_eq (Φ.there h.2 a ha).2) h.2⟩
theorem ZaN.there {K:W.Frag}{F H:Hp}{v:V}{t:OT}{p:List Addr}(h:ZaN K F H v t p):∀a∈p,F a=none/\H a≠none:=by
 cases t with
 |fz d=>obtain⟨rfl,_⟩:=h;intro a ha;cases ha
 |zow Ψ=>obtain⟨rfl,_⟩:=h;intro a ha;cases ha
 |ol ds =>
   obtain⟨a,h1,rfl,h3,xs,h4,_⟩:=h
   intro b hb;have e:b=a:=by simpa using hb
   subst e;exact⟨h3,ZaR h4⟩
 |oll dss =>
   obtain⟨a,as,h1,rfl,h3,h4,h5,h6⟩:=h
   intro b hb;rcases Xf.mp hb with rfl|hb
   ·exact⟨h4,ZaR h5⟩
   ·exact h6.mem b hb
 |scr ns=>obtain⟨rfl,_⟩:=h;intro a ha;cases ha
 |own v0 Φ=>exact Φ.there h.2
theorem Zhe.other {F H:Hp}{a b:Addr}{o:HO}{ds:List PyData}(h:Zhe F H a ds)(n:a≠b):Zhe F (upd H b o) a ds:=by
 obtain⟨h1,xs,h2,h3⟩:=h
 exact⟨h1,xs,by rw[Zak n];exact h2,h3⟩
theorem Za7.other {F H:Hp}{b:Addr}{o:HO}:∀{as:List Addr} {dss:List (List PyData)},Za7 F H as dss->b∉as->Za7 F (upd H b o) as dss
 |[],[],_,_=>trivial
 |a::as,_::_,h,n=>⟨h.1.other (fun z=>n (by rw[z];exact Xb)),Za7.other h.2 fun z=>n (Xd _ z)⟩
 |[],_::_,h,_=>False.elim h
 |_::_,[],h,_=>False.elim h
theorem ZaN.other {K:W.Frag}{F H:Hp}{v:V}{t:OT}{p:List Addr}{b:Addr}{o:HO}(h:ZaN K F H v t p)(n:b∉p):ZaN K F (upd H b o) v t p:=by
 cases t with
 |fz d=>exact h
 |zow Ψ=>exact h
 |ol ds=>obtain⟨a,h1,rfl,h3⟩:=h;exact⟨a,h1,rfl,h3.other (fun z=>n (by simp[z]))⟩
 |oll dss =>
   obtain⟨a,as,h1,rfl,h3,h4,h5,h6⟩:=h
   exact⟨a,as,h1,rfl,h3,h4,by rw[Zak (fun z=>n (by simp[z]))];exact h5,h6.other fun z=>n (Xd _ z)⟩
 |scr ns=>exact h
 |own v0 Φ=>exact⟨h.1,Φ.mono (ZaP.refl _) (fun a ha=>(Φ.there h.2 a ha).1) (fun a ha=>Zak fun z=>n (by rw[<- z];exact ha)) h.2⟩
def KTs (K:W.Frag) (F:Hp):Prop := ∃gS gE,W.nsIn K mainGlobals "START"=some (some (.ref gS))/\W.nsIn K mainGlobals "END"=some (some (.ref gE))/\F gS=some (.tup [.str "start"])/\F gE=some (.tup [.str "end"])
theorem KTs.mono {K:W.Frag}{F F':Hp}(h:KTs K F)(s:ZaP F F'):KTs K F':=by
 obtain⟨gS,gE,h1,h2,h3,h4⟩:=h
 exact⟨gS,gE,h1,h2,s _ _ h3,s _ _ h4⟩
structure Sta (K:W.Frag)(H0 F:Hp)(ρ:ZaZ)(σ:St)(H:Hp):Prop where
 kt:KTs K F
 sub:ZaP F H
 len:σ.length=ρ.length
 fp:∃fp:Nat->List Addr,(∀(i:Nat) (t:OT),ρ[i]?=some (some t)->∃v,σ[i]?=some (some v)/\ZaN K F H v t (fp i)) /\
  (∀(i j:Nat) (a:Addr),a∈fp i->a∈fp j->i=j)/\∀(i:Nat) (a:Addr),a∈fp i->H0 a=none/\H a≠none
theorem Sta.ext {K:W.Frag}{H0 F F' H H':Hp}{ρ:ZaZ}{σ:St}(s:Sta K H0 F ρ σ H)(x:Ext F H F' H'):Sta K H0 F' ρ σ H':=by
 obtain⟨kt,h1,h2,fp,h3,h4,h5⟩:=s
 refine⟨kt.mono x.ff,x.fh,h2,fp,fun i t e=>?_,h4,fun i a ha=>?_⟩
 ·obtain⟨v,e1,e2⟩:=h3 i t e
  exact⟨v,e1,e2.ext x⟩
 ·obtain⟨e1,e2⟩:=h5 i a ha
  obtain⟨o,e3⟩:=ZfB e2
  exact⟨e1,ZaR (x.hh _ _ e3)⟩
def Fgt:ZaZ->ZaZ->Prop
 |[],[]=>True
 |_::r,none::r'=>Fgt r r'
 |s::r,some x::r'=>s=some x/\Fgt r r'
 |_,_=>False
theorem Fgt.len:∀{ρ ρ':ZaZ},Fgt ρ ρ'->ρ.length=ρ'.length
 |[],[],_=>rfl
 |_::r,none::r',h=>by
   have h':Fgt r r':=h
   simp[Fgt.len h']
 |s::r,some x::r',h=>by
   have h':s=some x/\Fgt r r':=h
   simp[Fgt.len h'.2]
 |[],none::_,h=>False.elim h
 |[],some _::_,h=>False.elim h
 |_::_,[],h=>False.elim h
theorem Fgt.get:∀{ρ ρ':ZaZ},Fgt ρ ρ'->∀(i:Nat) (t:OT),ρ'[i]?=some (some t)->ρ[i]?=some (some t)
 |[],[],_,i,t,e=>by simp at e
 |_::r,none::r',h,0,t,e=>by simp at e
 |_::r,none::r',h,i+1,t,e=>by
   have h':Fgt r r':=h
   have:=Fgt.get h' i t (by simpa using e)
   simpa using this
 |s::r,some x::r',h,0,t,e=>by
   have h':s=some x/\Fgt r r':=h
   simp at e;subst e;simp[h'.1]
 |s::r,some x::r',h,i+1,t,e=>by
   have h':s=some x/\Fgt r r':=h
   have:=Fgt.get h'.2 i t (by simpa using e)
   simpa using this
 |[],none::_,h,_,_,_=>False.elim h
 |[],some _::_,h,_,_,_=>False.elim h
 |_::_,[],h,_,_,_=>False.elim h
theorem Sta.fgt {K:W.Frag}{H0 F H:Hp}{ρ ρ':ZaZ}{σ:St}(s:Sta K H0 F ρ σ H)(f:Fgt ρ ρ'):Sta K H0 F ρ' σ H:=by
 obtain⟨kt,h1,h2,fp,h3,h4,h5⟩:=s
 exact⟨kt,h1,h2.trans f.len,fp,fun i t e=>h3 i t (f.get i t e),h4,h5⟩
theorem Sta.set {K:W.Frag}{H0 F H:Hp}{ρ:ZaZ}{σ:St}{i:Nat}{v:V}{t:OT}{p:List Addr}(s:Sta K H0 F ρ σ H)(ok:ZaN K F H v t p)
 (hp:∀(a:Addr),a∈p->H0 a=none)
 (hn:∀(a:Addr),a∈p->∀(j:Nat) (u:V) (t':OT) (q:List Addr),ρ[j]?=some (some t')->σ[j]?=some (some u)->ZaN K F H u t' q->a∉q) :
 Sta K H0 F (ρ.set i (some t)) (σ.set i (some v)) H:=by
 obtain⟨kt,h1,h2,fp,h3,h4,h5⟩:=s
 refine⟨kt,h1,by simp[h2],fun j=>if j=i then p else if (ρ[j]?).join.isSome then fp j else [],fun j t' e=>?_,fun j k a ha hb=>?_,fun j a ha=>?_⟩
 ·by_cases hj:j=i
  ·subst hj
   have hlt:j<ρ.length:=by
    have:=(Xe.mp e).1
    simpa using this
   rw[XN hlt]at e;cases e
   refine⟨v,XN (by omega),?_⟩
   dsimp only;rw[Xc rfl];exact ok
  ·rw[XU (Ne.symm hj)]at e
   obtain⟨u,e1,e2⟩:=h3 j t' e
   refine⟨u,by rw[XU (Ne.symm hj)];exact e1,?_⟩
   dsimp only;rw[Xa hj,e,Xc (by rfl)];exact e2
 ·have key:∀(j:Nat),j≠i->a∈(if j=i then p else if (ρ[j]?).join.isSome then fp j else [])->∃t' u,ρ[j]?=some (some t')/\σ[j]?=some (some u)/\ZaN K F H u t' (fp j)/\a∈fp j:=fun j hj hm=>by
   rw[Xa hj]at hm;cases e:(ρ[j]?).join with
   |none=>rw[e]at hm;simp at hm
   |some t' =>
     rw[e]at hm;have e':ρ[j]?=some (some t'):=by
      cases z:ρ[j]? with
      |none=>rw[z]at e;simp at e
      |some w=>rw[z]at e;simp at e;rw[e]
     obtain⟨u,e1,e2⟩:=h3 j t' e'
     exact⟨t',u,e',e1,e2,by simpa using hm⟩
  by_cases hj:j=i
  ·by_cases hk:k=i
   ·omega
   ·obtain⟨t',u,e1,e2,e3,e4⟩:=key k hk hb
    have ha':a∈p:=by simpa [hj] using ha
    exact Xp e4 (hn a ha' k u t' _ e1 e2 e3)
  ·obtain⟨t',u,e1,e2,e3,e4⟩:=key j hj ha
   by_cases hk:k=i
   ·have hb':a∈p:=by simpa [hk] using hb
    exact Xp e4 (hn a hb' j u t' _ e1 e2 e3)
   ·obtain⟨t2,u2,f1,f2,f3,f4⟩:=key k hk hb
    exact h4 j k a e4 f4
 ·by_cases hj:j=i
  ·have ha':a∈p:=by simpa [hj] using ha
   exact⟨hp a ha',(ok.there a ha').2⟩
  ·simp only[Xa hj]at ha
   split at ha
   ·exact h5 j a ha
   ·cases ha
theorem Sta.setF {K:W.Frag}{H0 F H:Hp}{ρ:ZaZ}{σ:St}{i:Nat}{v:V}{d:PyData}(s:Sta K H0 F ρ σ H)(r:Rep F v d):Sta K H0 F (ρ.set i (some (.fz d))) (σ.set i (some v)) H :=
 s.set (p:=[]) ⟨rfl,r⟩ (fun a ha=>nomatch ha) (hn:=fun a ha=>nomatch ha)
theorem Sta.write {K:W.Frag}{H0 F H:Hp}{ρ:ZaZ}{σ:St}{i:Nat}{ds:List PyData}(s:Sta K H0 F ρ σ H)(e:ρ[i]?=some (some (.ol ds))) :
 ∃a xs,σ[i]?=some (some (.ref a))/\H a=some (.lst xs)/\Reps F xs ds/\H0 a=none/\F a=none/\∀xs' ds',Reps F xs' ds'->Sta K H0 F (ρ.set i (some (.ol ds'))) σ (upd H a (.lst xs')):=by
 obtain⟨kt,h1,h2,fp,h3,h4,h5⟩:=s
 obtain⟨v,e1,a,rfl,e2,e3,xs,e4,e5⟩:=h3 i _ e
 have ha:a∈fp i:=by rw[e2];exact Xb
 refine⟨a,xs,e1,e4,e5,(h5 i a ha).1,e3,fun xs' ds' r=>?_⟩
 have hlt:=(Xe.mp e).1
 refine⟨kt,h1.upd e3,by simp[h2],fp,fun j t' e'=>?_,h4,fun j b hb=>?_⟩
 ·by_cases hj:j=i
  ·subst hj
   rw[XN hlt]at e';cases e'
   exact⟨_,e1,a,rfl,e2,e3,xs',Zam,r⟩
  ·rw[XU (Ne.symm hj)]at e'
   obtain⟨u,f1,f2⟩:=h3 j t' e'
   exact⟨u,f1,f2.other fun z=>hj (h4 j i a z ha)⟩
 ·obtain⟨f1,f2⟩:=h5 j b hb
  refine⟨f1,?_⟩
  by_cases z:b=a
  ·subst z;rw[Zam];exact fun q=>nomatch q
  ·rw[Zak z];exact f2
theorem Sta.freeze {K:W.Frag}{H0 F H:Hp}{ρ:ZaZ}{σ:St}{i:Nat}{ds:List PyData}(s:Sta K H0 F ρ σ H)(e:ρ[i]?=some (some (.ol ds))) :
 ∃a xs,F a=none/\H a=some (.lst xs)/\H0 a=none/\σ[i]?=some (some (.ref a))/\Reps F xs ds/\Sta K H0 (upd F a (.lst xs)) (ρ.set i (some (.fz (.list ds)))) σ H:=by
 obtain⟨kt,h1,h2,fp,h3,h4,h5⟩:=s
 obtain⟨v,e1,a,rfl,e2,e3,xs,e4,e5⟩:=h3 i _ e
 have ha:a∈fp i:=by rw[e2];exact Xb
 have hlt:=(Xe.mp e).1
 have sm:ZaP F (upd F a (.lst xs)):=ZaP.new e3
 refine⟨a,xs,e3,e4,(h5 i a ha).1,e1,e5,kt.mono sm,?_,by simp[h2],fun j=>if j=i then [] else fp j,fun j t' e'=>?_,fun j k b hb hc=>?_,fun j b hb=>?_⟩
 ·intro b u hb
  by_cases z:b=a
  ·subst z;rw[Zam]at hb;rw[e4];exact hb
  ·rw[Zak z]at hb;exact h1 b u hb
 ·by_cases hj:j=i
  ·subst hj
   rw[XN hlt]at e';cases e'
   refine⟨_,e1,?_,.lst Zam (e5.mono sm)⟩
   dsimp only;rw[Xc rfl]
  ·rw[XU (Ne.symm hj)]at e'
   obtain⟨u,f1,f2⟩:=h3 j t' e'
   refine⟨u,f1,?_⟩
   dsimp only;rw[Xa hj];have na:a∉fp j:=fun z=>hj (h4 j i a z ha)
   have nb:∀b,F b=none->b≠a->upd F a (.lst xs) b=none:=fun b hb hn=>by rw[Zak hn];exact hb
   have go:∀{b:Addr} {es:List PyData},b≠a->Zhe F H b es->Zhe (upd F a (.lst xs)) H b es:=fun{b es} hn ⟨z1,zs,z2,z3⟩=>⟨nb _ z1 hn,zs,z2,z3.mono sm⟩
   cases t' with
   |fz d=>exact⟨f2.1,f2.2.mono sm⟩
   |zow Ψ=>exact⟨f2.1,Ψ.mono sm f2.2⟩
   |ol es =>
     obtain⟨b,g1,g2,g3⟩:=f2
     exact⟨b,g1,g2,go (fun z=>na (by rw[g2,z];exact Xb)) g3⟩
   |oll dss =>
     obtain⟨b,bs,g1,g2,g3,g4,g5,g6⟩:=f2
     refine⟨b,bs,g1,g2,g3,nb _ g4 (fun z=>na (by rw[g2,z];exact Xb)),g5,?_⟩
     have nbs:a∉bs:=fun z=>na (by rw[g2];exact Xd _ z)
     clear g1 g2 g3 g5;have all:∀(bs:List Addr) (dss:List (List PyData)),a∉bs->Za7 F H bs dss->Za7 (upd F a (.lst xs)) H bs dss:=by
      intro bs;induction bs with
      |nil =>
        intro dss _ h;cases dss with
        |nil=>exact trivial
        |cons _ _=>exact False.elim h
      |cons c cs ih =>
        intro dss hn h;cases dss with
        |nil=>exact False.elim h
        |cons es ess=>exact⟨go (fun z=>hn (by rw[z];exact Xb)) h.1,ih ess (fun z=>hn (Xd _ z)) h.2⟩
     exact all bs dss nbs g6
   |scr ns =>
     obtain⟨g1,b,g2,g3⟩:=f2
     exact⟨g1,b,g2,g3.mono sm⟩
   |own v0 Φ=>exact⟨f2.1,Φ.mono sm (fun b hb=>nb b (Φ.there f2.2 b hb).1 fun z=>na (by rw[<- z];exact hb)) (fun _ _=>rfl) f2.2⟩
 ·by_cases hj:j=i
  ·simp[hj]at hb
  ·by_cases hk:k=i
   ·simp[hk]at hc
   ·simp only[Xa hj]at hb
    simp only[Xa hk]at hc;exact h4 j k b hb hc
 ·by_cases hj:j=i
  ·simp[hj]at hb
  ·simp only[Xa hj]at hb
   exact h5 j b hb
inductive Args (K:W.Frag)(F:Hp):List V->List OT->Prop
 |nil:Args K F [] []
 |fz {v:V} {d:PyData} {vs:List V} {ts:List OT}:Rep F v d->Args K F vs ts->Args K F (v::vs) (.fz d::ts)
 |zow {v:V} {Ψ:ZP} {vs:List V} {ts:List OT}:Ψ.ok K F v->Args K F vs ts->Args K F (v::vs) (.zow Ψ::ts)
 |scr {a:Addr} {ns:List Int} {vs:List V} {ts:List OT}:Scr K F a ns->Args K F vs ts->Args K F (.ref a::vs) (.scr ns::ts)
theorem Args.length {K:W.Frag}{F:Hp}:∀{vs:List V} {ts:List OT},Args K F vs ts->vs.length=ts.length
 |_,_,.nil=>rfl
 |_,_,.fz _ t=>by simp[Args.length t]
 |_,_,.scr _ t=>by simp[Args.length t]
 |_,_,.zow _ t=>by simp[Args.length t]
theorem Args.get {K:W.Frag}{F H:Hp}:∀{vs:List V} {ts:List OT},Args K F vs ts->∀(i:Nat) (t:OT),ts[i]?=some t->∃v,vs[i]?=some v/\ZaN K F H v t []
 |_,_,.nil,i,t,e=>by simp at e
 |_,_,.fz r _,0,t,e=>by simp at e;subst e;exact⟨_,rfl,rfl,r⟩
 |_,_,.scr r _,0,t,e=>by simp at e;subst e;exact⟨_,rfl,rfl,_,rfl,r⟩
 |_,_,.zow r _,0,t,e=>by simp at e;subst e;exact⟨_,rfl,rfl,r⟩
 |_,_,.zow _ q,i+1,t,e=>by
   obtain⟨v,h1,h2⟩:=Args.get (H:=H) q i t (by simpa using e)
   exact⟨v,by simpa using h1,h2⟩
 |_,_,.fz _ q,i+1,t,e=>by
   obtain⟨v,h1,h2⟩:=Args.get (H:=H) q i t (by simpa using e)
   exact⟨v,by simpa using h1,h2⟩
 |_,_,.scr _ q,i+1,t,e=>by
   obtain⟨v,h1,h2⟩:=Args.get (H:=H) q i t (by simpa using e)
   exact⟨v,by simpa using h1,h2⟩
section
variable (K:W.Frag)
def EvE (t:TE)(ρ:ZaZ)(d:PyData):Prop := ∀(H0 F:Hp) (σ:St) (H:Hp) (Q:VK),Sta K H0 F ρ σ H->(∀F' H' v,Ext F H F' H'->Rep F' v d->Q v H')->t σ H Q
def EvO (t:TE)(ρ:ZaZ)(r:OT):Prop := ∀(H0 F:Hp) (σ:St) (H:Hp) (Q:VK),Sta K H0 F ρ σ H->(∀F' H' v p,Ext F H F' H'->(∀a∈p,H a=none)->ZaN K F' H' v r p->Q v H')->t σ H Q
def EvT (t:TT)(ρ:ZaZ)(b:Bool):Prop := ∀(H0 F:Hp) (σ:St) (H:Hp) (Q:Bool->Hp->Prop),Sta K H0 F ρ σ H->(∀F' H',Ext F H F' H'->Q b H')->t σ H Q
def EvA (t:TA)(ρ:ZaZ)(ts:List OT):Prop := ∀(H0 F:Hp) (σ:St) (H:Hp) (Q:List V->Hp->Prop),Sta K H0 F ρ σ H->(∀F' H' vs,Ext F H F' H'->Args K F' vs ts->Q vs H')->t σ H Q
def Znm (F':Hp)(J:It)(ds:List PyData):Prop := ∀(F'' H'':Hp),ZaP F' F''->ZaP F'' H''->J.stop ds.length H'' /\
 ∀(i:Nat) (d:PyData),ds[i]?=some d->J.go i H''/\∀x H3,J.yld i H'' x H3->∃F3,Ext F'' H'' F3 H3/\Rep F3 x d
def EvI (wi:TI)(ρ:ZaZ)(ds:List PyData):Prop := ∀(H0 F:Hp) (σ:St) (H:Hp) (R:It->Hp->Prop),Sta K H0 F ρ σ H->(∀F' H' J,Ext F H F' H'->Znm F' J ds->R J H')->wi σ H R
def GTo (g:TG)(d:PyData)(ρ ρ':ZaZ):Prop := ∀(H0 F:Hp) (σ:St) (H:Hp) (x:V) (Q:St->Hp->Prop),Sta K H0 F ρ σ H->Rep F x d->(∀σ',Sta K H0 F ρ' σ' H->Q σ' H)->g x σ H Q
def Zun (g:TGs)(ds:List PyData)(ρ ρ':ZaZ):Prop := ∀(H0 F:Hp) (σ:St) (H:Hp) (xs:List V) (Q:St->Hp->Prop),Sta K H0 F ρ σ H->Reps F xs ds->(∀σ',Sta K H0 F ρ' σ' H->Q σ' H)->g xs σ H Q
structure PEnds where
 nx:ZaZ->Prop
 rt:OT->Prop
 bk:ZaZ->Prop:=fun _=>False
 ct:ZaZ->Prop:=fun _=>False
structure Cnv (F0 H0:Hp)(D:PEnds)(E:Ends):Prop where
 nx:∀F σ H ρ,Ext F0 H0 F H->Sta K H0 F ρ σ H->D.nx ρ->E.nx σ H
 rt:∀F H v r p,Ext F0 H0 F H->(∀a∈p,H0 a=none)->ZaN K F H v r p->D.rt r->E.rt v H
 bk:∀F σ H ρ,Ext F0 H0 F H->Sta K H0 F ρ σ H->D.bk ρ->E.bk σ H
 ct:∀F σ H ρ,Ext F0 H0 F H->Sta K H0 F ρ σ H->D.ct ρ->E.ct σ H
def EvS (t:TS)(ρ:ZaZ)(D:PEnds):Prop := ∀(F0 H0 F:Hp) (σ:St) (H:Hp) (E:Ends),Ext F0 H0 F H->Sta K H0 F ρ σ H->Cnv K F0 H0 D E->t E σ H
end
section
variable {K:W.Frag}{ρ:ZaZ}{ta tb tc:TE}{tA tB':TT}
theorem EvE.o {t:TE}{d:PyData}(h:EvE K t ρ d):EvO K t ρ (.fz d):=fun H0 F σ H Q S q=>h H0 F σ H Q S fun F' H' v x r=>q F' H' v [] x (fun _ z=>nomatch z) ⟨rfl,r⟩
theorem EvO.e {t:TE}{d:PyData}(h:EvO K t ρ (.fz d)):EvE K t ρ d:=fun H0 F σ H Q S q=>h H0 F σ H Q S fun F' H' v p x _ r=>q F' H' v x r.2
theorem EvO.fz {t:TE}{ds:List PyData}(h:EvO K t ρ (.ol ds)):EvE K t ρ (.list ds):=fun H0 F σ H Q S q=>h H0 F σ H Q S fun F' H' v p x hp r=>by
 obtain⟨a,rfl,rfl,r1,xs,r2,r3⟩:=r
 refine q (upd F' a (.lst xs)) H' _ (x.freeze r1 r2 (hp a Xb)) (.lst Zam (r3.mono (ZaP.new r1)))
theorem Zab {i:Nat}{d:PyData}(e:ρ[i]?=some (some (.fz d))):EvE K (Zb8 i) ρ d:=fun H0 F σ H Q S q=>by
 obtain⟨fp,h,_⟩:=S.fp
 obtain⟨v,e1,e2⟩:=h i _ e
 exact⟨v,e1,q F H v (Ext.refl S.sub) e2.2⟩
theorem Zay {i:Int}:EvE K (tC (.int i)) ρ (.int i):=fun H0 F σ H Q S q=>q F H _ (Ext.refl S.sub) (.int i)
theorem ZqY {b:Bool}:EvE K (tC (.bl b)) ρ (.bool b):=fun H0 F σ H Q S q=>q F H _ (Ext.refl S.sub) (.bl b)
theorem Zto:EvE K (tC .non) ρ .none:=fun H0 F σ H Q S q=>q F H _ (Ext.refl S.sub) .non
theorem Zq1 {x:Str}:EvE K (tC (.str x)) ρ (.str x):=fun H0 F σ H Q S q=>q F H _ (Ext.refl S.sub) (.str x)
theorem ZdW {a b:PyData}{Q:VK}{r:R2}{H0 F H:Hp}{σ:St}(ha:EvE K ta ρ a)(hb:EvE K tb ρ b)(S:Sta K H0 F ρ σ H)
 (h:∀F' H' x y,Ext F H F' H'->Rep F' x a->Rep F' y b->r x y H' Q):tOp r ta tb σ H Q :=
 ha H0 F σ H _ S fun F1 H1 x x1 r1=>hb H0 F1 σ H1 _ (S.ext x1) fun F2 H2 y x2 r2=>h F2 H2 x y (x1.trans x2) (r1.mono x2.ff) r2
theorem ZdC {g:Int->Int->Int}{x y:Int}(ha:EvE K ta ρ (.int x))(hb:EvE K tb ρ (.int y)):EvE K (tOp (rI0 fun i j=>.int (g i j)) ta tb) ρ (.int (g x y)):=fun H0 F σ H Q S q =>
 ZdW ha hb S fun F' H' u v e r1 r2=>by cases r1;cases r2;exact⟨x,y,rfl,rfl,q F' H' _ e (.int _)⟩
theorem Zfs {g:Int->Int->Bool}{x y:Int}(ha:EvE K ta ρ (.int x))(hb:EvE K tb ρ (.int y)):EvE K (tOp (rI0 fun i j=>.bl (g i j)) ta tb) ρ (.bool (g x y)):=fun H0 F σ H Q S q =>
 ZdW ha hb S fun F' H' u v e r1 r2=>by cases r1;cases r2;exact⟨x,y,rfl,rfl,q F' H' _ e (.bl _)⟩
theorem ZaG {C:Int->Int->Prop}{g:Int->Int->Int}{x y:Int}(ha:EvE K ta ρ (.int x))(hb:EvE K tb ρ (.int y))(hc:C x y):EvE K (tOp (rI C fun i j=>.int (g i j)) ta tb) ρ (.int (g x y)):=fun H0 F σ H Q S q =>
 ZdW ha hb S fun F' H' u v e r1 r2=>by cases r1;cases r2;exact⟨x,y,rfl,rfl,hc,q F' H' _ e (.int _)⟩
theorem Zvv {g:Int->Int}{x:Int}(ha:EvE K ta ρ (.int x)):EvE K (tUn (rU fun i=>.int (g i)) ta) ρ (.int (g x)):=fun H0 F σ H Q S q =>
 ha H0 F σ H _ S fun F1 H1 v x1 r1=>by cases r1;exact⟨x,rfl,q F1 H1 _ x1 (.int _)⟩
def Zef:PyData->Option V
 |.none=>some .non
 |.bool b=>some (.bl b)
 |.int i=>some (.int i)
 |.str x=>some (.str x)
 |_=>Option.none
theorem Rep.flat {H:Hp}{x v:V}{d:PyData}(r:Rep H x d)(e:Zef d=some v):x=v:=by
 cases r<;>simp[Zef]at e<;>exact e
theorem ZtT {a b:PyData}{v w:V}(ha:EvE K ta ρ a)(hb:EvE K tb ρ b)(e1:Zef a=some v)(e2:Zef b=some w)(hs:∀(H:Hp) (Q:VK),Q (.bl (decide (v=w))) H->rEq v w H Q) :
 EvE K (tOp rEq ta tb) ρ (.bool (decide (v=w))):=fun H0 F σ H Q S q =>
 ZdW ha hb S fun F' H' x y e r1 r2=>by rw[r1.flat e1,r2.flat e2];exact hs _ _ (q F' H' _ e (.bl _))
theorem ZsN {a b:PyData}{v w:V}(ha:EvE K ta ρ a)(hb:EvE K tb ρ b)(e1:Zef a=some v)(e2:Zef b=some w)(hs:∀(H:Hp) (Q:VK),Q (.bl (!decide (v=w))) H->rNe v w H Q) :
 EvE K (tOp rNe ta tb) ρ (.bool (!decide (v=w))):=fun H0 F σ H Q S q =>
 ZdW ha hb S fun F' H' x y e r1 r2=>by rw[r1.flat e1,r2.flat e2];exact hs _ _ (q F' H' _ e (.bl _))
theorem ZkR {x y:Int}:decide (V.int x=V.int y)=decide (x=y):=by
 by_cases h:x=y
 ·subst h;simp
 ·rw[Xy h,Xy (fun z=>h (by injection z))]
theorem ZuM {x y:Int}(ha:EvE K ta ρ (.int x))(hb:EvE K tb ρ (.int y)):EvE K (tOp rEq ta tb) ρ (.bool (decide (x=y))):=by
 rw[<- ZkR];exact ZtT ha hb rfl rfl fun H Q q=>⟨rfl,q⟩
theorem ZsJ {x y:Int}(ha:EvE K ta ρ (.int x))(hb:EvE K tb ρ (.int y)):EvE K (tOp rNe ta tb) ρ (.bool (!decide (x=y))):=by
 rw[<- ZkR];exact ZsN ha hb rfl rfl fun H Q q=>⟨rfl,q⟩
theorem Zn0 {a b:PyData}(ha:EvE K ta ρ a)(hb:EvE K tb ρ b)(fa:Zsv a)(fb:Zsv b):EvE K (tOp Zur ta tb) ρ (.bool (!PyData.eqv a b)):=fun H0 F σ H Q S q =>
 ZdW ha hb S fun F' H' x y e r1 r2=>⟨a,b,r1.mono e.fh,r2.mono e.fh,fa,fb,q F' H' _ e (.bl _)⟩
def Zt6:PyData->Bool
 |.none=>true
 |_=>false
theorem Rep.isNon {H:Hp}{x:V}{d:PyData}(r:Rep H x d):decide (x=.non)=Zt6 d:=by cases r<;>rfl
theorem Zgv {a:PyData}(ha:EvE K ta ρ a):EvE K (Ztk ta) ρ (.bool (!Zt6 a)):=fun H0 F σ H Q S q =>
 ha H0 F σ H _ S fun F1 H1 v x1 r1=>by rw[r1.isNon];exact q F1 H1 _ x1 (.bl _)
theorem Zco {b:Bool}(h:EvE K ta ρ (.bool b)):EvT K (Zpi ta) ρ b:=fun H0 F σ H Q S q=>h H0 F σ H _ S fun F1 H1 v x1 r1=>by cases r1;exact⟨b,rfl,q F1 H1 x1⟩
theorem ZiK {b:Bool}(h:EvE K ta ρ (.bool b)):EvT K (tB ta) ρ b:=fun H0 F σ H Q S q=>h H0 F σ H _ S fun F1 H1 v x1 r1=>by cases r1;exact⟨b,rfl,q F1 H1 x1⟩
theorem Zt8:EvT K ZrC ρ true:=fun H0 F σ H Q S q=>q F H (Ext.refl S.sub)
theorem Zh5 {b c:Bool}(h1:EvT K tA ρ b)(h2:b=true->EvT K tB' ρ c):EvT K (Zvf tA tB') ρ (b&&c):=fun H0 F σ H Q S q=>h1 H0 F σ H _ S fun F1 H1 x1=>by
 cases b with
 |true=>rw[Xc rfl];exact h2 rfl H0 F1 σ H1 Q (S.ext x1) fun F2 H2 x2=>by simpa using q F2 H2 (x1.trans x2)
 |false=>rw[Xa Xq];simpa using q F1 H1 x1
theorem ZrE {b c:Bool}(h1:EvT K tA ρ b)(h2:b=false->EvT K tB' ρ c):EvT K (tOr tA tB') ρ (b||c):=fun H0 F σ H Q S q=>h1 H0 F σ H _ S fun F1 H1 x1=>by
 cases b with
 |false=>rw[Xa Xq];exact h2 rfl H0 F1 σ H1 Q (S.ext x1) fun F2 H2 x2=>by simpa using q F2 H2 (x1.trans x2)
 |true=>rw[Xc rfl];simpa using q F1 H1 x1
theorem ZkK {b:Bool}(h1:EvT K tA ρ b):EvT K (ZuU tA) ρ (!b):=fun H0 F σ H Q S q=>h1 H0 F σ H _ S fun F1 H1 x1=>q F1 H1 x1
theorem Zln {g g':Int->Int->Bool}{x y z:Int}(ha:EvE K ta ρ (.int x))(hb:EvE K tb ρ (.int y))(hc:EvE K tc ρ (.int z)) :
 EvE K (ZnL (rI0 fun i j=>.bl (g i j)) (rI0 fun i j=>.bl (g' i j)) ta tb tc) ρ (.bool (g x y&&g' y z)):=fun H0 F σ H Q S q =>
 ha H0 F σ H _ S fun F1 H1 v x1 r1=>hb H0 F1 σ H1 _ (S.ext x1) fun F2 H2 w x2 r2=>by
  cases r1;cases r2
  refine⟨x,y,rfl,rfl,g x y,rfl,?_⟩
  cases e:g x y with
  |true=>rw[Xc rfl];exact hc H0 F2 σ H2 _ (S.ext (x1.trans x2)) fun F3 H3 u x3 r3=>by cases r3;exact⟨y,z,rfl,rfl,by simpa [e] using q F3 H3 _ ((x1.trans x2).trans x3) (by rw[e];exact .bl _)⟩
  |false=>rw[Xa Xq];simpa [e] using q F2 H2 _ (x1.trans x2) (by rw[e];exact .bl _)
theorem Zan:EvA K Zd8 ρ []:=fun H0 F σ H Q S q=>q F H [] (Ext.refl S.sub) .nil
theorem Zac {t:TA}{d:PyData}{ts:List OT}(h1:EvE K ta ρ d)(h2:EvA K t ρ ts):EvA K (ZaM ta t) ρ (.fz d::ts):=fun H0 F σ H Q S q =>
 h1 H0 F σ H _ S fun F1 H1 v x1 r1=>h2 H0 F1 σ H1 _ (S.ext x1) fun F2 H2 vs x2 r2=>q F2 H2 _ (x1.trans x2) (.fz (r1.mono x2.ff) r2)
theorem Zvl {t:TA}{i:Nat}{ns:List Int}{ts:List OT}(e:ρ[i]?=some (some (.scr ns)))(h2:EvA K t ρ ts):EvA K (ZaM (Zb8 i) t) ρ (.scr ns::ts):=fun H0 F σ H Q S q=>by
 obtain⟨fp,h,_⟩:=S.fp
 obtain⟨v,e1,_,a,rfl,e3⟩:=h i _ e
 exact⟨_,e1,h2 H0 F σ H _ S fun F2 H2 vs x2 r2=>q F2 H2 _ x2 (.scr (e3.mono x2.ff) r2)⟩
theorem ZqV {t:TA}{i:Nat}{Ψ:ZP}{ts:List OT}(e:ρ[i]?=some (some (.zow Ψ)))(h2:EvA K t ρ ts):EvA K (ZaM (Zb8 i) t) ρ (.zow Ψ::ts):=fun H0 F σ H Q S q=>by
 obtain⟨fp,h,_⟩:=S.fp
 obtain⟨v,e1,_,e3⟩:=h i _ e
 exact⟨_,e1,h2 H0 F σ H _ S fun F2 H2 vs x2 r2=>q F2 H2 _ x2 (.zow (Ψ.mono x2.ff e3) r2)⟩
def fzs (ds:List PyData):List OT:=ds.map OT.fz
theorem Args.reps {F:Hp}:∀{vs:List V} {ds:List PyData},Args K F vs (fzs ds)->Reps F vs ds
 |_,[],.nil=>.nil
 |_,_::_,.fz r t=>.cons r (Args.reps t)
theorem ZdV {t:TA}{ds:List PyData}(h:EvA K t ρ (fzs ds))(hl:ds.length<=1000):EvE K (Zuq t) ρ (.tuple ds):=fun H0 F σ H Q S q =>
 h H0 F σ H _ S fun F1 H1 vs x1 r1=>⟨by rw[r1.reps.length];exact XY (ZaO hl),fun p hp=>by
  have s1:=x1.fh
  exact q _ _ _ (x1.trans (Ext.new s1 hp)) (.tup Zam (r1.reps.mono (ZaP.new (s1.free hp))))⟩
theorem ZfD {F0 H0 F H:Hp}{p:Addr}{xs:List V}{ds:List PyData}(x:Ext F0 H0 F H)(hp:H p=none)(r:Reps F xs ds):Ext F0 H0 F (upd H p (.lst xs))/\(∀a∈[p],H0 a=none)/\ZaN K F (upd H p (.lst xs)) (.ref p) (.ol ds) [p] :=
 ⟨x.trans (Ext.own x.fh hp),fun a ha=>by
  have e:a=p:=by simpa using ha
  subst e;exact x.hh.free hp,p,rfl,rfl,x.fh.free hp,xs,Zam,r⟩
theorem Zdp {t:TA}{ds:List PyData}(h:EvA K t ρ (fzs ds))(hl:ds.length<=1000):EvO K (Zuo t) ρ (.ol ds):=fun H0 F σ H Q S q =>
 h H0 F σ H _ S fun F1 H1 vs x1 r1=>⟨by rw[r1.reps.length];exact XY (ZaO hl),fun p hp=>by
  obtain⟨a,b,c⟩:=ZfD (K:=K) x1 hp r1.reps
  exact q _ _ _ _ a b c⟩
theorem ZbD {F H:Hp}{x:V}{ds:List PyData}(r:Rep F x (.list ds))(s:ZaP F H):∃a xs,x=.ref a/\SqL K H a xs/\Reps F xs ds/\H a=some (.lst xs):=by
 cases r with
 |lst ha rr=>exact⟨_,_,rfl,SqL.of (s _ _ ha),rr,s _ _ ha⟩
theorem Zgd {F H:Hp}{x:V}{ds:List PyData}(r:Rep F x (.tuple ds))(s:ZaP F H):∃a xs,x=.ref a/\SqT K H a xs/\Reps F xs ds/\H a=some (.tup xs):=by
 cases r with
 |tup ha rr=>exact⟨_,_,rfl,SqT.of (s _ _ ha),rr,s _ _ ha⟩
theorem Zfj {F:Hp}{xs:List V}{ds:List PyData}{i:Int}{d:PyData}(r:Reps F xs ds)(e:atI ds i=some d):∃z,atI xs i=some z/\Rep F z d:=by
 obtain⟨j,e1,e2⟩:=ZqC e
 obtain⟨z,z1,z2⟩:=r.get e1
 refine⟨z,?_,z2⟩
 unfold atI;rw[r.length,e2];exact z1
theorem ZdT {ds:List PyData}{i:Int}{d:PyData}(ha:EvE K ta ρ (.list ds))(hb:EvE K tb ρ (.int i))(e:atI ds i=some d):EvE K (tOp (rIx K) ta tb) ρ d:=fun H0 F σ H Q S q =>
 ZdW ha hb S fun F' H' x y x1 r1 r2=>by
  obtain⟨a,xs,rfl,h1,h2,_⟩:=ZbD (K:=K) r1 x1.fh
  obtain⟨z,z1,z2⟩:=Zfj h2 e
  cases r2
  exact .inl ⟨a,xs,i,z,rfl,rfl,h1,z1,q F' H' z x1 z2⟩
theorem ZaK {ds:List PyData}{i:Int}{d:PyData}(ha:EvE K ta ρ (.tuple ds))(hb:EvE K tb ρ (.int i))(e:atI ds i=some d):EvE K (tOp (rIx K) ta tb) ρ d:=fun H0 F σ H Q S q =>
 ZdW ha hb S fun F' H' x y x1 r1 r2=>by
  obtain⟨a,xs,rfl,h1,h2,_⟩:=Zgd (K:=K) r1 x1.fh
  obtain⟨z,z1,z2⟩:=Zfj h2 e
  cases r2
  exact .inr (.inl ⟨a,xs,i,z,rfl,rfl,h1,z1,q F' H' z x1 z2⟩)
theorem ZtS {i:Nat}{ds:List PyData}{k:Int}{d:PyData}(e0:ρ[i]?=some (some (.ol ds)))(hb:EvE K tb ρ (.int k))(e:atI ds k=some d):EvE K (tOp (rIx K) (Zb8 i) tb) ρ d:=fun H0 F σ H Q S q=>by
 obtain⟨fp,h,_⟩:=S.fp
 obtain⟨v,e1,a,rfl,_,o1⟩:=h i _ e0
 refine⟨_,e1,hb H0 F σ H _ S fun F1 H1 y x1 r1=>?_⟩
 obtain⟨f1,xs,f2,f3⟩:=o1.ext x1
 obtain⟨z,z1,z2⟩:=Zfj f3 e
 cases r1
 exact .inl ⟨a,xs,k,z,rfl,rfl,SqL.of f2,z1,q F1 H1 z x1 z2⟩
theorem Zvj {i:Nat}{ns:List Int}{k n:Int}(e0:ρ[i]?=some (some (.scr ns)))(hb:EvE K tb ρ (.int k))(e:atI ns k=some n):EvE K (tOp (rIx K) (Zb8 i) tb) ρ (.int n):=fun H0 F σ H Q S q=>by
 obtain⟨fp,h,_⟩:=S.fp
 obtain⟨v,e1,_,a,rfl,sc⟩:=h i _ e0
 refine⟨_,e1,hb H0 F σ H _ S fun F1 H1 y x1 r1=>?_⟩
 cases r1
 obtain⟨j,j1,j2⟩:=ZqC e
 have z1:atI (ns.map V.int) k=some (.int n):=by
  unfold atI;rw[Xj,j2];show(ns.map V.int)[j]?=_
  rw[Xi,j1];rfl
 exact .inl ⟨a,_,k,_,rfl,rfl,(x1.ff.trans x1.fh).seq sc.sq,z1,q F1 H1 _ x1 (.int n)⟩
def spO (R:List OT->OT->Prop):Sp:=fun vs H Q _=>∃F ts r,KTs K F/\ZaP F H/\Args K F vs ts/\R ts r/\∀F' H' v p,Ext F H F' H'->(∀a∈p,H a=none)->ZaN K F' H' v r p->Q v H'
theorem ZfF {R:List OT->OT->Prop}{t:TA}{E:XK}{ts:List OT}{r:OT}(h:EvA K t ρ ts)(hR:R ts r):EvO K (Zih (spO (K:=K) R) [] E t) ρ r:=fun H0 F σ H Q S q =>
 h H0 F σ H _ S fun F1 H1 vs x1 r1=>by
  refine⟨F1,ts,r,(S.ext x1).kt,x1.fh,by rw[X4];exact r1,hR,fun F2 H2 v p x2 hp ok=>q F2 H2 v p (x1.trans x2) (fun a ha=>x1.hh.free (hp a ha)) ok⟩
theorem Za0 {R:List OT->OT->Prop}{t:TA}{E:XK}{ts:List OT}{d:PyData}(h:EvA K t ρ ts)(hR:R ts (.fz d)):EvE K (Zih (spO (K:=K) R) [] E t) ρ d:=(ZfF h hR).e
theorem Zds {R:List OT->OT->Prop}{t:TA}{E:XK}{ts:List OT}{ds:List PyData}(h:EvA K t ρ ts)(hR:R ts (.ol ds)):EvE K (Zih (spO (K:=K) R) [] E t) ρ (.list ds):=(ZfF h hR).fz
end
theorem Df.ev {P:Program}{w:World}{K:W.Frag}{mg:Str->Option Value}{base:Heap}{x:Str}{st:Stmt}{N ps:List Str}{k:Nat}{R:List OT->OT->Prop}(D:Df K mg x st ps)(S:FnScope N ps (Zaf st))(len:∀ts r,R ts r->ts.length=ps.length)
 (Xbs:∀(f:Addr) (cdv:Value) (A:Around) (outer:List Env) (s:Shared) (H:Hp) (E:XK) (ts:List OT) (r:OT),Room k (A.deeper (envOfC x (Zaf st) s.heap.objs.size f cdv))->R ts r ->
  ∃t,PSs (ZjN CX0 P w K mg base N x (Zaf st) f cdv A outer s H E).nox (ZaS st) t/\EvS K t (ts.map some++List.replicate (N.length-ts.length) none) { nx:=fun _=>r=.fz .none,rt:=fun r'=>r'=r }):Cal P w K mg base x ps (k+1) (spO (K:=K) R):=by
 refine D.cal S (fun vs H Q E ⟨F,ts,r,_,_,ha,hR,_⟩=>ha.length.trans (len ts r hR)) fun f cdv A outer s H vs Q E hr ⟨F,ts,r,kt,sm,ha,hR,q⟩=>?_
 obtain⟨t,h1,h2⟩:=Xbs f cdv A outer s H E ts r hr hR
 refine⟨t,h1,h2 F H F (start N vs) H _ (Ext.refl sm) ⟨kt,sm,?_,fun _=>[],fun i t' e=>?_,fun i j a h=>(nomatch h),fun i a h=>(nomatch h)⟩ ⟨fun F' σ' H' ρ' x' _ e=>?_,fun F' H' v r' p x' hp ok e=>?_,fun _ _ _ _ _ _ z=>False.elim z,fun _ _ _ _ _ _ z=>False.elim z⟩⟩
 ·unfold start
  simp[ha.length]
 ·have hlt:i<ts.length:=by
   by_cases z:i<ts.length
   ·exact z
   ·rw[Xar (by simpa using z)]at e
    have:=List.mem_of_getElem? e
    simp at this
  rw[Xab (by simpa using hlt),Xi]at e;have e':ts[i]?=some t':=by
   cases z:ts[i]? with
   |none=>rw[z]at e;simp at e
   |some w=>rw[z]at e;simp at e;rw[e]
  obtain⟨v,e1,e2⟩:=ha.get (H:=H) i t' e'
  refine⟨v,?_,e2⟩
  unfold start;have hl2:i<vs.length:=by rw[ha.length];exact hlt
  rw[Xab (by simpa using hl2),Xi,e1];rfl
 ·subst e
  exact q F' H' _ [] x' (fun _ z=>nomatch z) ⟨rfl,.non⟩
 ·subst e
  exact q F' H' v p x' hp ok
theorem Zg0:∀{as bs:List Addr},as.map V.ref=bs.map V.ref->as=bs
 |[],[],_=>rfl
 |[],_::_,h=>by simp at h
 |_::_,[],h=>by simp at h
 |a::as,b::bs,h=>by
   simp only[Xr,List.cons.injEq]at h;obtain⟨h1,h2⟩:=h
   injection h1 with h1
   rw[h1,Zg0 h2]
theorem ZpA (x:Int)(ns:List Int):inV (.int x) (ns.map V.int)=decide (x∈ns):=by
 induction ns with
 |nil=>rfl
 |cons b l ih =>
   show(eqV (.int b) (.int x)||inV (.int x) (l.map V.int))=_
   rw[ih];show((b==x)||decide (x∈l))=_
   by_cases hx:x=b
   ·subst hx;simp
   ·have:(b==x)=false:=by rw[beq_eq_false_iff_ne];exact fun z=>hx z.symm
    rw[this];simp[hx]
section
variable {K:W.Frag}{ρ:ZaZ}{ta tb tc te:TE}{tA:TT}{t u:TS}{D:PEnds}
theorem Zb1 (h:D.nx ρ):EvS K ZtL ρ D:=fun F0 H0 F σ H E x S C=>C.nx F σ H ρ x S h
theorem Zaq (h:EvS K t ρ { D with nx:=fun ρ'=>EvS K u ρ' D }):EvS K (Zu0 t u) ρ D:=fun F0 H0 F σ H E x S C =>
 h F0 H0 F σ H { E with nx:=u E } x S ⟨fun F' σ' H' ρ' x' S' q=>q F0 H0 F' σ' H' E x' S' C,C.rt,C.bk,C.ct⟩
theorem Zhr (M:ZaZ->Prop)(h:EvS K t ρ { D with nx:=M })(h2:∀ρ',M ρ'->EvS K u ρ' D):EvS K (Zu0 t u) ρ D:=fun F0 H0 F σ H E x S C =>
 h F0 H0 F σ H { E with nx:=u E } x S ⟨fun F' σ' H' ρ' x' S' q=>h2 ρ' q F0 H0 F' σ' H' E x' S' C,C.rt,C.bk,C.ct⟩
theorem ZcW {ρ':ZaZ}(f:Fgt ρ ρ')(h:EvS K t ρ' D):EvS K t ρ D:=fun F0 H0 F σ H E x S C=>h F0 H0 F σ H E x (S.fgt f) C
theorem ZeR (i:Nat){ds:List PyData}(e:ρ[i]?=some (some (.ol ds)))(h:EvS K t (ρ.set i (some (.fz (.list ds)))) D):EvS K t ρ D:=fun F0 H0 F σ H E x S C=>by
 obtain⟨a,xs,e1,e2,e3,_,_,S'⟩:=S.freeze e
 exact h F0 H0 _ σ H E (x.freeze e1 e2 e3) S' C
theorem ZeG {r:OT}(h:EvO K te ρ r)(hr:D.rt r):EvS K (Zr6 te) ρ D:=fun F0 H0 F σ H E x S C =>
 h H0 F σ H _ S fun F' H' v p x' hp ok=>C.rt F' H' v r p (x.trans x') (fun a ha=>x.hh.free (hp a ha)) ok hr
theorem Zbs {d:PyData}(h:EvE K te ρ d)(hr:D.rt (.fz d)):EvS K (Zr6 te) ρ D:=ZeG h.o hr
theorem ZhR {i:Nat}{ds:List PyData}(e:ρ[i]?=some (some (.ol ds)))(hr:D.rt (.ol ds)):EvS K (Zr6 (Zb8 i)) ρ D:=fun F0 H0 F σ H E x S C=>by
 obtain⟨fp,h,_,h5⟩:=S.fp
 obtain⟨v,e1,ok⟩:=h i _ e
 exact⟨v,e1,C.rt F H v _ _ x (fun a ha=>(h5 i a ha).1) ok hr⟩
theorem ZpQ {i:Nat}{ds:List (List PyData)}(e:ρ[i]?=some (some (.oll ds)))(hr:D.rt (.oll ds)):EvS K (Zr6 (Zb8 i)) ρ D:=fun F0 H0 F σ H E x S C=>by
 obtain⟨fp,h,_,h5⟩:=S.fp
 obtain⟨v,e1,ok⟩:=h i _ e
 exact⟨v,e1,C.rt F H v _ _ x (fun a ha=>(h5 i a ha).1) ok hr⟩
theorem Zga {b:Bool}(h:EvT K tA ρ b)(h1:b=true->EvS K t ρ D)(h2:b=false->EvS K u ρ D):EvS K (Zva tA t u) ρ D:=fun F0 H0 F σ H E x S C =>
 h H0 F σ H _ S fun F' H' x'=>by
  cases b with
  |true=>rw[Xc rfl];exact h1 rfl F0 H0 F' σ H' E (x.trans x') (S.ext x') C
  |false=>rw[Xa Xq];exact h2 rfl F0 H0 F' σ H' E (x.trans x') (S.ext x') C
theorem ZbP {i:Nat}{r:OT}(h:EvO K te ρ r)(hn:D.nx (ρ.set i (some r))):EvS K (ZoV te (ZhX i)) ρ D:=fun F0 H0 F σ H E x S C =>
 h H0 F σ H _ S fun F' H' v p x' hp ok=>by
  refine C.nx F' _ H' _ (x.trans x') ((S.ext x').set ok (fun a ha=>x.hh.free (hp a ha)) (hn:=fun a ha j w t' q e1 e2 ok'=>?_)) hn
  obtain⟨fp,g1,g2,g3⟩:=S.fp
  obtain⟨w',f1,f2⟩:=g1 j t' e1
  intro hq;have f3:=f2.ext x'
  rw[e2]at f1;cases f1
  have same:∀b∈q,b∈fp j:=by
   cases t' with
   |fz d=>rw[ok'.1];intro b hb;cases hb
   |zow Ψ=>rw[ok'.1];intro b hb;cases hb
   |ol ds =>
     obtain⟨b1,z1,z2,z3⟩:=ok'
     obtain⟨b2,y1,y2,y3⟩:=f3
     rw[z1]at y1;cases y1
     rw[z2,y2];exact fun _ z=>z
   |oll dss =>
     obtain⟨b1,bs1,z1,z2,z3,z4,z5,z6⟩:=ok'
     obtain⟨b2,bs2,y1,y2,y3,y4,y5,y6⟩:=f3
     rw[z1]at y1;cases y1
     rw[z5]at y5;have e5:bs1.map V.ref=bs2.map V.ref:=by injection y5 with z;injection z
     have e6:bs1=bs2:=Zg0 e5
     rw[z2,y2,e6];exact fun _ z=>z
   |scr ns=>rw[ok'.1];intro b hb;cases hb
   |own v0 Φ=>exact fun b hb=>Φ.uniq f3.2 ok'.2 b hb
  exact(g3 j a (same a hq)).2 (hp a ha)
theorem ZaT {i:Nat}{d:PyData}(h:EvE K te ρ d)(hn:D.nx (ρ.set i (some (.fz d)))):EvS K (ZoV te (ZhX i)) ρ D:=ZbP h.o hn
theorem ZaB {i:Nat}{d:PyData}:GTo K (ZhX i) d ρ (ρ.set i (some (.fz d))):=fun H0 F σ H x Q S r q=>q _ (S.setF r)
theorem Zep:Zun K Zuu [] ρ ρ:=fun H0 F σ H xs Q S r q=>by cases r;exact⟨rfl,q _ S⟩
theorem ZaL {g:TG}{gs:TGs}{d:PyData}{ds:List PyData}{ρ1 ρ2:ZaZ}(h1:GTo K g d ρ ρ1)(h2:Zun K gs ds ρ1 ρ2):Zun K (Zs3 g gs) (d::ds) ρ ρ2:=fun H0 F σ H xs Q S r q=>by
 cases r with
 |cons r1 r2=>exact⟨_,_,rfl,h1 H0 F σ H _ _ S r1 fun σ1 S1=>h2 H0 F σ1 H _ _ S1 r2 q⟩
theorem Zg1 {n:Nat}{gs:TGs}{ds:List PyData}{ρ1:ZaZ}(h:Zun K gs ds ρ ρ1)(hn:ds.length=n):GTo K (Zuy K n gs) (.tuple ds) ρ ρ1:=fun H0 F σ H x Q S r q=>by
 obtain⟨a,xs,rfl,h1,h2,_⟩:=Zgd (K:=K) r S.sub
 exact⟨a,xs,rfl,h1,by rw[h2.length,hn],h H0 F σ H xs Q S h2 q⟩
theorem Zn1 {g:TG}{d:PyData}{ρ':ZaZ}(h:EvE K te ρ d)(hg:GTo K g d ρ ρ')(hn:D.nx ρ'):EvS K (ZoV te g) ρ D:=fun F0 H0 F σ H E x S C =>
 h H0 F σ H _ S fun F' H' v x' r=>hg H0 F' σ H' v _ (S.ext x') r fun σ' S'=>C.nx F' σ' H' ρ' (x.trans x') S' hn
theorem Ext.wr {F0 H0 F H:Hp}{a:Addr}{o:HO}(x:Ext F0 H0 F H)(h0:H0 a=none)(hf:F a=none):Ext F0 H0 F (upd H a o) :=
 ⟨x.hh.upd h0,x.ff,x.fh.upd hf,x.fr⟩
theorem Zeh {i:Nat}{ds:List PyData}{d:PyData}(e:ρ[i]?=some (some (.ol ds)))(h:EvE K te ρ d)(hl:ds.length<1000)(hn:D.nx (ρ.set i (some (.ol (ds++[d]))))) :
 EvS K (Zi8 (tBM K "list" Zf0 (Zb8 i) (ZaM te Zd8))) ρ D:=fun F0 H0 F σ H E x S C=>by
 obtain⟨a,xs,e1,e2,e3,_⟩:=S.write e
 refine⟨_,e1,.inl ⟨rfl,_,SqL.of e2⟩,h H0 F σ H _ S fun F1 H1 v x1 r1=>?_⟩
 obtain⟨a',xs',f1,f2,f3,f4,f5,f6⟩:=(S.ext x1).write e
 rw[e1]at f1;cases f1
 refine⟨a,xs',v,rfl,rfl,f2,by rw[f3.length];exact ZaO (by omega),?_⟩
 exact C.nx F1 σ _ _ ((x.trans x1).wr f4 f5) (f6 _ _ (f3.snoc r1)) hn
theorem Zn9 {f:Int->Int->Int}{i:Nat}{ds:List PyData}{k m n:Int}(e:ρ[i]?=some (some (.ol ds)))(hi:EvE K tb ρ (.int k))(h0:0<=k)(hm:ds[k.toNat]?=some (.int m))(h:EvE K te ρ (.int n))
 (hn:D.nx (ρ.set i (some (.ol (ds.set k.toNat (.int (f m n))))))):EvS K (ZrH (Zb8 i) tb te (ZrX K) (ipI f) Zpj) ρ D:=fun F0 H0 F σ H E x S C=>by
 obtain⟨a,xs,e1,e2,e3,_⟩:=S.write e
 refine⟨_,e1,hi H0 F σ H _ S fun F1 H1 y x1 r1=>?_⟩
 cases r1
 obtain⟨a1,xs1,f1,f2,f3,_⟩:=(S.ext x1).write e
 rw[e1]at f1;cases f1
 obtain⟨z,z1,z2⟩:=f3.get hm
 refine⟨a,xs1,k,z,rfl,rfl,SqL.of f2,h0,z1,h H0 F1 σ H1 _ (S.ext x1) fun F2 H2 w x2 r2=>?_⟩
 cases r2
 cases z2
 refine⟨m,n,rfl,rfl,?_⟩
 obtain⟨a2,xs2,g1,g2,g3,g4,g5,g6⟩:=(S.ext (x1.trans x2)).write e
 rw[e1]at g1;cases g1
 have hlt:k.toNat<ds.length:=(Xe.mp hm).1
 refine⟨a,xs2,k,k.toNat,rfl,rfl,g2,?_,?_⟩
 ·rw[g3.length]
  unfold ixN;rw[Xc h0,Xc (by omega)]
 ·exact C.nx F2 σ _ _ ((x.trans (x1.trans x2)).wr g4 g5) (g6 _ _ (g3.set (.int _) _)) hn
theorem Ext.base {F0 H0 F H:Hp}(x:Ext F0 H0 F H):Ext F H0 F H:=⟨x.hh,ZaP.refl _,x.fh,fun _ h=>.inl h⟩
theorem Ext.rebase {F0 H0 F H F' H':Hp}(x:Ext F0 H0 F H)(y:Ext F H0 F' H'):Ext F0 H0 F' H' :=
 ⟨y.hh,x.ff.trans y.ff,y.fh,fun a h=>(y.fr a h).elim (fun z=>x.fr a z) .inr⟩
theorem ZeF {wi:TI}{g:TG}{tbd:TS}{ds:List PyData}(P:Nat->ZaZ->Prop)(hi:EvI K wi ρ ds)(h0:P 0 ρ)
 (hs:∀(i:Nat) (d:PyData) (ρ':ZaZ),ds[i]?=some d->P i ρ'->∃ρ2,GTo K g d ρ' ρ2/\EvS K tbd ρ2 { nx:=P (i+1),ct:=P (i+1),bk:=D.nx,rt:=D.rt }) (hd:∀ρ',P ds.length ρ'->D.nx ρ'):EvS K (Ztp wi g tbd) ρ D:=fun F0 H0 F σ H E x S C =>
 hi H0 F σ H _ S fun F1 H1 J x1 W=>by
  refine⟨fun i m σ H=>m=ds.length-i/\i<=ds.length/\∃F ρ',Ext F0 H0 F H/\ZaP F1 F/\Sta K H0 F ρ' σ H/\P i ρ',⟨ds.length,by simp,X0 _,F1,ρ,x.trans x1,ZaP.refl _,S.ext x1,h0⟩,?_⟩
  rintro i m σ' H' ⟨rfl,hle,F',ρ',x',s',S',p⟩
  obtain⟨w1,w2⟩:=W F' H' s' S'.sub
  by_cases hlt:i<ds.length
  ·have e:ds[i]?=some ds[i]:=by simp[hlt]
   obtain⟨go,yl⟩:=w2 i _ e
   refine .inr ⟨go,fun σ2 H2=>∃F2 ρ2,Ext F0 H0 F2 H2/\ZaP F1 F2/\Sta K H0 F2 ρ2 σ2 H2/\P (i+1) ρ2,fun σ2 H2 q=>⟨ds.length-(i+1),by omega,rfl,hlt,q⟩,fun v H3 y=>?_⟩
   obtain⟨F3,x3,r3⟩:=yl v H3 y
   obtain⟨ρ2,hg,hb⟩:=hs i _ ρ' e p
   refine hg H0 F3 σ' H3 v _ (S'.ext x3) r3 fun σ2 S2=>?_
   have big:Ext F0 H0 F3 H3:=x'.trans x3
   have s13:=s'.trans x3.ff
   exact hb F3 H0 F3 σ2 H3 _ big.base S2 ⟨fun F4 σ4 H4 ρ4 x4 S4 q4=>⟨F4,ρ4,big.rebase x4,s13.trans x4.ff,S4,q4⟩,fun F4 H4 v4 r4 p4 x4=>C.rt F4 H4 v4 r4 p4 (big.rebase x4),
    fun F4 σ4 H4 ρ4 x4=>C.nx F4 σ4 H4 ρ4 (big.rebase x4),fun F4 σ4 H4 ρ4 x4 S4 q4=>⟨F4,ρ4,big.rebase x4,s13.trans x4.ff,S4,q4⟩⟩
  ·have e:i=ds.length:=by omega
   subst e;exact .inl ⟨w1,C.nx F' σ' H' ρ' x' S' (hd ρ' p)⟩
theorem ZbN {wi:TI}{g:TG}{tbd:TS}{ds:List PyData}(R:Nat->ZaZ)(hi:EvI K wi ρ ds)(h0:Fgt ρ (R 0))
 (hs:∀(i:Nat) (d:PyData),ds[i]?=some d->∃ρ2,GTo K g d (R i) ρ2/\EvS K tbd ρ2 { nx:=fun ρ'=>Fgt ρ' (R (i+1)),ct:=fun ρ'=>Fgt ρ' (R (i+1)),bk:=D.nx,rt:=D.rt }) (hd:∀ρ',Fgt ρ' (R ds.length)->D.nx ρ'):EvS K (Ztp wi g tbd) ρ D:=by
 refine ZeF (fun i ρ'=>Fgt ρ' (R i)) hi h0 (fun i d ρ' e f=>?_) hd
 obtain⟨ρ2,h1,h2⟩:=hs i d e
 exact⟨ρ2,fun H0 F σ H x Q S r q=>h1 H0 F σ H x Q (S.fgt f) r q,h2⟩
theorem Zc6 {c:TT}{tbd:TS}(P:Nat->ZaZ->Prop)(m0:Nat)(h0:P m0 ρ)
 (hs:∀(m:Nat) (ρ':ZaZ),P m ρ'->∃b,EvT K c ρ' b/\(b=true->EvS K tbd ρ' { nx:=fun ρ2=>∃m',m'<m/\P m' ρ2,ct:=fun ρ2=>∃m',m'<m/\P m' ρ2,bk:=D.nx,rt:=D.rt })/\(b=false->D.nx ρ')):EvS K (ZqN c tbd) ρ D:=fun F0 H0 F σ H E x S C=>by
 refine⟨fun m σ H=>∃F ρ',Ext F0 H0 F H/\Sta K H0 F ρ' σ H/\P m ρ',⟨m0,F,ρ,x,S,h0⟩,?_⟩
 rintro m σ' H' ⟨F',ρ',x',S',p⟩
 obtain⟨b,h1,h2,h3⟩:=hs m ρ' p
 refine h1 H0 F' σ' H' _ S' fun F1 H1 x1=>?_
 have X1:=x'.trans x1
 have S1:=S'.ext x1
 cases b with
 |false=>rw[Xa Xq];exact C.nx F1 σ' H1 ρ' X1 S1 (h3 rfl)
 |true =>
   rw[Xc rfl];refine⟨fun σ2 H2=>∃m',m'<m/\∃F2 ρ2,Ext F0 H0 F2 H2/\Sta K H0 F2 ρ2 σ2 H2/\P m' ρ2,fun σ2 H2 h=>h,?_⟩
   have go:∀F4 σ4 H4 ρ4,Ext F0 H0 F4 H4->Sta K H0 F4 ρ4 σ4 H4->(∃m',m'<m/\P m' ρ4)->∃m',m'<m/\∃F2 ρ2,Ext F0 H0 F2 H4/\Sta K H0 F2 ρ2 σ4 H4/\P m' ρ2:=fun F4 σ4 H4 ρ4 x4 S4 ⟨m',q1,q2⟩=>⟨m',q1,F4,ρ4,x4,S4,q2⟩
   exact h2 rfl F0 H0 F1 σ' H1 _ X1 S1 ⟨go,C.rt,C.nx,go⟩
theorem Zcn {ds:List PyData}(h:EvE K ta ρ (.list ds)):EvI K (ZrL K ta) ρ ds:=fun H0 F σ H R S q =>
 h H0 F σ H _ S fun F1 H1 v x1 r1=>by
  obtain⟨a,xs,rfl,h1,h2,h3⟩:=ZbD (K:=K) r1 x1.fh
  have hF:F1 a=some (.lst xs):=by
   cases r1 with
   |lst ha rr =>
     have:=x1.fh _ _ ha
     rw[h3]at this;cases this
     exact ha
  refine⟨a,rfl,⟨xs,h1⟩,q F1 H1 _ x1 fun F2 H2 s2 s3=>?_⟩
  have hq:SqL K H2 a xs:=SqL.of (s3 _ _ (s2 _ _ hF))
  refine⟨⟨xs,hq,by rw[h2.length];exact Xw _⟩,fun i d e=>?_⟩
  obtain⟨z,z1,z2⟩:=h2.get e
  refine⟨⟨xs,z,hq,z1⟩,fun y H3 hy=>?_⟩
  obtain⟨rfl,hy⟩:=hy
  have e2:=hy xs hq
  rw[z1]at e2;cases e2
  exact⟨F2,Ext.refl s3,z2.mono s2⟩
theorem Zq4 {ds:List PyData}(h:EvE K ta ρ (.tuple ds)):EvI K (Zvh K ta) ρ ds:=fun H0 F σ H R S q =>
 h H0 F σ H _ S fun F1 H1 v x1 r1=>by
  obtain⟨a,xs,rfl,h1,h2,h3⟩:=Zgd (K:=K) r1 x1.fh
  have hF:F1 a=some (.tup xs):=by
   cases r1 with
   |tup ha rr =>
     have:=x1.fh _ _ ha
     rw[h3]at this;cases this
     exact ha
  refine⟨a,rfl,⟨xs,h1⟩,q F1 H1 _ x1 fun F2 H2 s2 s3=>?_⟩
  have hq:SqT K H2 a xs:=SqT.of (s3 _ _ (s2 _ _ hF))
  refine⟨⟨xs,hq,by rw[h2.length];exact Xw _⟩,fun i d e=>?_⟩
  obtain⟨z,z1,z2⟩:=h2.get e
  refine⟨⟨xs,z,hq,z1⟩,fun y H3 hy=>?_⟩
  obtain⟨rfl,hy⟩:=hy
  have e2:=hy xs hq
  rw[z1]at e2;cases e2
  exact⟨F2,Ext.refl s3,z2.mono s2⟩
def ZfX (lo:Int)(n:Nat):List PyData:=(List.range n).map fun(i:Nat)=>PyData.int (lo+(i:Int))
theorem Zb6 {lo:Int}{n i:Nat}{d:PyData}(e:(ZfX lo n)[i]?=some d):i<n/\d=.int (lo+(i:Int)):=by
 unfold ZfX at e;rw[Xi]at e;by_cases h:i<n
 ·simp[h]at e;exact⟨h,e.symm⟩
 ·simp[h]at e
theorem Zcl {lo:Int}{n:Nat}:(ZfX lo n).length=n:=by simp[ZfX]
theorem ZiZ {F:Hp}{lo:Int}{n:Nat}:Znm F (Itr lo n) (ZfX lo n):=fun F2 H2 s2 s3=>by
 refine⟨by show n<=_;rw[Zcl];exact Xw _,fun i d e=>?_⟩
 obtain⟨h1,rfl⟩:=Zb6 e
 refine⟨h1,fun x H3 hy=>?_⟩
 obtain⟨rfl,rfl⟩:=hy
 exact⟨F2,Ext.refl s3,.int _⟩
theorem ZbQ {t:TA}{n:Int}(h:EvA K t ρ [.fz (.int n)])(h1 : -(2^62)<=n)(h2:n<2^62):EvI K (Zub t) ρ (ZfX 0 n.toNat):=fun H0 F σ H R S q =>
 h H0 F σ H _ S fun F1 H1 vs x1 r1=>by
  cases r1 with
  |fz r r1=>cases r1;cases r;exact⟨n,rfl,h1,h2,q F1 H1 _ x1 ZiZ⟩
theorem ZiT {t:TA}{m n:Int}(h:EvA K t ρ [.fz (.int m),.fz (.int n)])(h1 : -(2^62)<=m/\m<2^62 /\ -(2^62)<=n/\n<2^62):EvI K (ZtC t) ρ (ZfX m (n-m).toNat):=fun H0 F σ H R S q =>
 h H0 F σ H _ S fun F1 H1 vs x1 r1=>by
  cases r1 with
  |fz r r1 =>
    cases r1 with
    |fz r' r1=>cases r1;cases r;cases r';exact⟨m,n,rfl,h1,q F1 H1 _ x1 ZiZ⟩
def ZsG (hi:Int)(n:Nat):List PyData:=(List.range n).map fun(i:Nat)=>PyData.int (hi-(i:Int))
theorem Zlh {hi:Int}{n i:Nat}{d:PyData}(e:(ZsG hi n)[i]?=some d):i<n/\d=.int (hi-(i:Int)):=by
 unfold ZsG at e;rw[Xi]at e;by_cases h:i<n
 ·simp[h]at e;exact⟨h,e.symm⟩
 ·simp[h]at e
theorem ZkF {hi:Int}{n:Nat}:(ZsG hi n).length=n:=by simp[ZsG]
theorem ZsY {t:TA}{m n:Int}(h:EvA K t ρ [.fz (.int m),.fz (.int n),.fz (.int (-1))])(h1 : -(2^62)<=m/\m<2^62 /\ -(2^62)<=n/\n<2^62):EvI K (Zt1 t) ρ (ZsG m (m-n).toNat):=fun H0 F σ H R S q =>
 h H0 F σ H _ S fun F1 H1 vs x1 r1=>by
  cases r1 with
  |fz r r1 =>
    cases r1 with
    |fz r' r1 =>
      cases r1 with
      |fz r2 r1 =>
        cases r1;cases r;cases r';cases r2
        refine⟨m,n,rfl,h1,q F1 H1 _ x1 fun F2 H2 s2 s3=>⟨by show _<=_;rw[ZkF];exact Xw _,fun i d e=>?_⟩⟩
        obtain⟨h1,rfl⟩:=Zlh e
        refine⟨h1,fun x H3 hy=>?_⟩
        obtain⟨rfl,rfl⟩:=hy
        exact⟨F2,Ext.refl s3,.int _⟩
def ZeD:Option OT->Option OT
 |some (.fz d)=>some (.fz d)
 |some (.scr ns)=>some (.scr ns)
 |some (.zow Ψ)=>some (.zow Ψ)
 |_=>none
def ZiS (f:List (Option Nat))(ρ:ZaZ):ZaZ:=f.map fun o=>match o with|some i=>ZeD (ρ[i]?).join|none=>none
theorem Sta.inner {H0 F H:Hp}{σ:St}(f:List (Option Nat))(S:Sta K H0 F ρ σ H):Sta K H0 F (ZiS f ρ) (Zlp f σ) H:=by
 obtain⟨kt,h1,h2,fp,h3,h4,h5⟩:=S
 refine⟨kt,h1,by simp[ZiS,Zlp],fun _=>[],fun i t e=>?_,fun i j a h=>(nomatch h),fun i a h=>(nomatch h)⟩
 unfold ZiS at e;rw[Xi]at e;cases z:f[i]? with
 |none=>rw[z]at e;simp at e
 |some o =>
   rw[z]at e;simp only[X8,Option.some.injEq]at e;cases o with
   |none=>cases e
   |some k =>
     simp only at e
     have e':ρ[k]?=some (some t)/\((∃d,t=.fz d)\/(∃ns,t=.scr ns)\/∃Ψ,t=.zow Ψ):=by
      cases y:ρ[k]? with
      |none=>rw[y]at e;simp[ZeD]at e
      |some w =>
        rw[y]at e;simp only[Option.join_some]at e;cases w with
        |none=>simp[ZeD]at e
        |some w =>
          cases w with
          |fz d=>simp[ZeD]at e;subst e;exact⟨rfl,.inl ⟨_,rfl⟩⟩
          |scr ns=>simp[ZeD]at e;subst e;exact⟨rfl,.inr (.inl ⟨_,rfl⟩)⟩
          |zow Ψ=>simp[ZeD]at e;subst e;exact⟨rfl,.inr (.inr ⟨_,rfl⟩)⟩
          |ol ds=>simp[ZeD]at e
          |oll ds=>simp[ZeD]at e
          |own v0 Φ=>simp[ZeD]at e
     obtain⟨v,e1,e2⟩:=h3 k t e'.1
     refine⟨v,?_,?_⟩
     ·unfold Zlp
      rw[Xi,z];simp[e1]
     ·rcases e'.2 with ⟨d,rfl⟩|⟨ns,rfl⟩|⟨Ψ,rfl⟩
      ·exact⟨rfl,e2.2⟩
      ·exact⟨rfl,e2.2⟩
      ·exact⟨rfl,e2.2⟩
theorem Zl1 {α:Type}{f:List (Option Nat)}{wi:TI}{g:CIn->TG}{tcc:CIn->TT}{tee:CIn->TE}{xs:List α}{enc h:α->PyData}{p:α->Bool}(hi:EvI K wi ρ (xs.map enc))(hl:xs.length<=1000)
 (hs:∀x∈xs,∀c,∃ρ2,GTo K (g c) (enc x) (ZiS f ρ) ρ2/\EvT K (tcc c) ρ2 (p x)/\(p x=true->EvE K (tee c) ρ2 (h x))):EvO K (tLC f wi g tcc tee) ρ (.ol ((xs.filter p).map h)):=fun H0 F σ H Q S q =>
 hi H0 F σ H _ S fun F1 H1 J x1 W c=>by
  have hn:xs.length<=sizeLine:=XY (ZaO hl)
  refine⟨fun i m ys H=>m=xs.length-i/\i<=xs.length/\∃F',Ext F1 H1 F' H/\Reps F' ys (((xs.take i).filter p).map h),⟨xs.length,by simp,X0 _,F1,Ext.refl x1.fh,.nil⟩,?_⟩
  rintro i m ys H' ⟨rfl,hle,F',x',r'⟩
  obtain⟨w1,w2⟩:=W F' H' x'.ff x'.fh
  by_cases hlt:i<xs.length
  ·have e:(xs.map enc)[i]?=some (enc xs[i]):=by simp[hlt]
   obtain⟨go,yl⟩:=w2 i _ e
   refine .inr ⟨go,fun v H3 y=>?_⟩
   obtain⟨F3,x3,r3⟩:=yl v H3 y
   obtain⟨ρ2,k1,k2,k3⟩:=hs xs[i] (XM hlt) c
   have S3:=(S.ext (x1.trans (x'.trans x3))).inner f
   have tk:xs.take (i+1)=xs.take i++[xs[i]]:=by rw[Xau];simp[hlt]
   have ly:=r'.length
   have ly2:ys.length<=i:=by
    rw[ly,Xj];refine XS (List.length_filter_le _ _) ?_
    rw[XaX];omega
   refine k1 H0 F3 _ H3 v _ S3 r3 fun σ2 S4=>k2 H0 F3 σ2 H3 _ S4 fun F4 H4 x4=>?_
   cases ep:p xs[i] with
   |true =>
     rw[Xc rfl];refine k3 ep H0 F4 σ2 H4 _ (S4.ext x4) fun F5 H5 z x5 r5=>⟨by omega,xs.length-(i+1),by omega,rfl,hlt,F5,x'.trans (x3.trans (x4.trans x5)),?_⟩
     rw[tk,Xbm,Xz];simp only[Xa0,ep,if_true,List.filter_nil,Xr,XaY];exact(r'.mono (x3.trans (x4.trans x5)).ff).snoc r5
   |false =>
     rw[Xa Xq];refine⟨xs.length-(i+1),by omega,rfl,hlt,F4,x'.trans (x3.trans x4),?_⟩
     rw[tk,Xbm,Xz];simp only[Xa0,ep,List.filter_nil,XaY,X4,Xag,if_false];exact r'.mono (x3.trans x4).ff
  ·have e:i=xs.length:=by omega
   subst e;refine .inl ⟨by simpa using w1,fun a ha=>?_⟩
   rw[Xap]at r';obtain⟨z1,z2,z3⟩:=ZfD (K:=K) (x1.trans x') ha r'
   exact q _ _ _ _ z1 z2 z3
theorem ZeZ {α:Type}{f:List (Option Nat)}{wi:TI}{g:CIn->TG}{tee:CIn->TE}{xs:List α}{enc h:α->PyData}(hi:EvI K wi ρ (xs.map enc))(hl:xs.length<=1000)
 (hs:∀x∈xs,∀c,∃ρ2,GTo K (g c) (enc x) (ZiS f ρ) ρ2/\EvE K (tee c) ρ2 (h x)):EvO K (tLC f wi g (fun _=>ZrC) tee) ρ (.ol (xs.map h)):=by
 have:=Zl1 (K:=K) (ρ:=ρ) (f:=f) (wi:=wi) (g:=g) (tcc:=fun _=>ZrC) (tee:=tee) (xs:=xs) (enc:=enc) (h:=h) (p:=fun _=>true) hi hl fun x hx c=>by
  obtain⟨ρ2,h1,h2⟩:=hs x hx c
  exact⟨ρ2,h1,Zt8,fun _=>h2⟩
 have e:xs.filter (fun _=>true)=xs:=List.filter_eq_self.mpr fun _ _=>rfl
 rw[e]at this;exact this
def Zu3:List V->Hp->VK->Prop:=fun xs H Q=>∃i,xs=[.int i]/\Q (.int (if i<0 then -i else i)) H
def Zsa:List V->Hp->VK->Prop:=fun xs H Q=>∃i j,xs=[.int i,.int j]/\Q (.int (if j > i then j else i)) H
def Zse:List V->Hp->VK->Prop:=fun xs H Q=>∃i j,xs=[.int i,.int j]/\Q (.int (if j<i then j else i)) H
def ZsK:List V->Hp->VK->Prop:=fun xs H Q=>(∃i,xs=[.int i]/\Q (.int i) H)\/∃k,xs=[.bl k]/\Q (.int (if k then 1 else 0)) H
def ZqR (K:W.Frag):List V->Hp->VK->Prop:=fun xs H Q=>∃p ys,xs=[.ref p]/\(SqL K H p ys\/SqT K H p ys)/\Q (.int ys.length) H
def ZmH (K:W.Frag):List V->Hp->VK->Prop:=fun xs H Q=>∃p ys,xs=[.ref p]/\(SqL K H p ys\/SqT K H p ys)/\∀l,H l=none->Q (.ref l) (upd H l (.lst ys))
def Zox (K:W.Frag):List V->Hp->VK->Prop:=fun xs H Q=>∃p ys,xs=[.ref p]/\((SqL K H p ys/\∀l,H l=none->Q (.ref l) (upd H l (.tup ys)))\/(SqT K H p ys/\Q (.ref p) H))
def Zvg (X:Cx):List V->Hp->VK->Prop:=fun xs H Q=>X.calm=true/\∃(x:V) (ns:List Int),xs=[x]/\Rep H x (.list (ns.map PyData.int))/\Q (.int ns.sum) H
def ZtK:V->List V->Hp->VK->Prop:=fun x xs H Q=>∃i,x=.int i/\xs=[]/\Q (.int (Builtin.Int.intBits i)) H
theorem Zlw {X:Cx}:Zd1 X (.builtin "abs") Zu3:=Zqk
theorem Znq {X:Cx} (h:X.calm=true):Zd1 X (.builtin "max") Zsa:=Zod h
theorem Zoc {X:Cx} (h:X.calm=true):Zd1 X (.builtin "min") Zse:=Znf h
theorem ZtF {X:Cx}:Zd1 X (.type "int") ZsK:=ZmW
theorem Zcq {X:Cx}:Zd1 X (.builtin "len") (ZqR X.K):=Zjc
theorem Zkr {X:Cx}:Zd1 X (.type "list") (ZmH X.K):=Zjy
theorem Zgm {X:Cx}:Zd1 X (.type "tuple") (Zox X.K):=Zij
theorem Zhs {X:Cx}:Zd1 X (.builtin "sum") (Zvg X):=ZmR
theorem Zr1 {X:Cx}:MtR X "int.bit_length" ZtK:=Zrv
theorem Zte {x:Int}(h:EvE K ta ρ (.int x)):EvE K (tCB Zu3 (ZaM ta Zd8)) ρ (.int (if x<0 then -x else x)):=fun H0 F σ H Q S q =>
 h H0 F σ H _ S fun F1 H1 v x1 r1=>by cases r1;exact⟨x,rfl,q F1 H1 _ x1 (.int _)⟩
theorem ZqS {x y:Int}{r:List V->Hp->VK->Prop}{H0 F H:Hp}{σ:St}{Q:VK}(ha:EvE K ta ρ (.int x))(hb:EvE K tb ρ (.int y))(S:Sta K H0 F ρ σ H)(h:∀F' H',Ext F H F' H'->r [.int x,.int y] H' Q):tCB r (ZaM ta (ZaM tb Zd8)) σ H Q :=
 ha H0 F σ H _ S fun F1 H1 v x1 r1=>hb H0 F1 σ H1 _ (S.ext x1) fun F2 H2 w x2 r2=>by cases r1;cases r2;exact h F2 H2 (x1.trans x2)
theorem Zti {x y:Int}(ha:EvE K ta ρ (.int x))(hb:EvE K tb ρ (.int y)):EvE K (tCB Zsa (ZaM ta (ZaM tb Zd8))) ρ (.int (if y > x then y else x)):=fun H0 F σ H Q S q =>
 ZqS ha hb S fun F' H' e=>⟨x,y,rfl,q F' H' _ e (.int _)⟩
theorem ZsO {x y:Int}(ha:EvE K ta ρ (.int x))(hb:EvE K tb ρ (.int y)):EvE K (tCB Zse (ZaM ta (ZaM tb Zd8))) ρ (.int (if y<x then y else x)):=fun H0 F σ H Q S q =>
 ZqS ha hb S fun F' H' e=>⟨x,y,rfl,q F' H' _ e (.int _)⟩
theorem Zr9 {b:Bool}(h:EvE K ta ρ (.bool b)):EvE K (tCB ZsK (ZaM ta Zd8)) ρ (.int (if b then 1 else 0)):=fun H0 F σ H Q S q =>
 h H0 F σ H _ S fun F1 H1 v x1 r1=>by cases r1;exact .inr ⟨b,rfl,q F1 H1 _ x1 (.int _)⟩
theorem Zer {ds:List PyData}(h:EvE K ta ρ (.list ds)):EvE K (tCB (ZqR K) (ZaM ta Zd8)) ρ (.int (ds.length:Int)):=fun H0 F σ H Q S q =>
 h H0 F σ H _ S fun F1 H1 v x1 r1=>by
  obtain⟨a,xs,rfl,h1,h2,_⟩:=ZbD (K:=K) r1 x1.fh
  exact⟨a,xs,rfl,.inl h1,by rw[h2.length];exact q F1 H1 _ x1 (.int _)⟩
theorem Zu5 {ds:List PyData}(h:EvE K ta ρ (.tuple ds)):EvE K (tCB (ZqR K) (ZaM ta Zd8)) ρ (.int (ds.length:Int)):=fun H0 F σ H Q S q =>
 h H0 F σ H _ S fun F1 H1 v x1 r1=>by
  obtain⟨a,xs,rfl,h1,h2,_⟩:=Zgd (K:=K) r1 x1.fh
  exact⟨a,xs,rfl,.inr h1,by rw[h2.length];exact q F1 H1 _ x1 (.int _)⟩
theorem ZuA {i:Nat}{ns:List Int}(e0:ρ[i]?=some (some (.scr ns))):EvE K (tCB (ZqR K) (ZaM (Zb8 i) Zd8)) ρ (.int (ns.length:Int)):=fun H0 F σ H Q S q=>by
 obtain⟨fp,h,_⟩:=S.fp
 obtain⟨v,e1,_,a,rfl,sc⟩:=h i _ e0
 exact⟨_,e1,a,ns.map V.int,rfl,.inl (S.sub.seq sc.sq),by rw[Xj];exact q F H _ (Ext.refl S.sub) (.int _)⟩
theorem ZoB {i:Nat}{ds:List PyData}(e0:ρ[i]?=some (some (.ol ds))):EvE K (tCB (ZqR K) (ZaM (Zb8 i) Zd8)) ρ (.int (ds.length:Int)):=fun H0 F σ H Q S q=>by
 obtain⟨fp,h,_⟩:=S.fp
 obtain⟨v,e1,a,rfl,_,_,xs,o2,o3⟩:=h i _ e0
 exact⟨_,e1,a,xs,rfl,.inl (SqL.of o2),by rw[o3.length];exact q F H _ (Ext.refl S.sub) (.int _)⟩
theorem ZhN {ds:List PyData}(h:EvE K ta ρ (.list ds)):EvO K (tCB (ZmH K) (ZaM ta Zd8)) ρ (.ol ds):=fun H0 F σ H Q S q =>
 h H0 F σ H _ S fun F1 H1 v x1 r1=>by
  obtain⟨a,xs,rfl,h1,h2,_⟩:=ZbD (K:=K) r1 x1.fh
  refine⟨a,xs,rfl,.inl h1,fun p hp=>?_⟩
  obtain⟨z1,z2,z3⟩:=ZfD (K:=K) x1 hp h2
  exact q _ _ _ _ z1 z2 z3
theorem ZmI {ds:List PyData}(h:EvE K ta ρ (.list ds)):EvE K (tCB (Zox K) (ZaM ta Zd8)) ρ (.tuple ds):=fun H0 F σ H Q S q =>
 h H0 F σ H _ S fun F1 H1 v x1 r1=>by
  obtain⟨a,xs,rfl,h1,h2,_⟩:=ZbD (K:=K) r1 x1.fh
  refine⟨a,xs,rfl,.inl ⟨h1,fun p hp=>?_⟩⟩
  have s1:=x1.fh
  exact q _ _ _ (x1.trans (Ext.new s1 hp)) (.tup Zam (h2.mono (ZaP.new (s1.free hp))))
theorem Zu6 {i:Nat}{ds:List PyData}(e0:ρ[i]?=some (some (.ol ds))):EvE K (tCB (Zox K) (ZaM (Zb8 i) Zd8)) ρ (.tuple ds):=fun H0 F σ H Q S q=>by
 obtain⟨fp,h,_⟩:=S.fp
 obtain⟨v,e1,a,rfl,_,_,xs,o2,o3⟩:=h i _ e0
 refine⟨_,e1,a,xs,rfl,.inl ⟨SqL.of o2,fun p hp=>?_⟩⟩
 exact q _ _ _ (Ext.new S.sub hp) (.tup Zam (o3.mono (ZaP.new (S.sub.free hp))))
theorem ZhE {X:Cx}{ns:List Int}(h:EvE K ta ρ (.list (ns.map PyData.int)))(hc:X.calm=true):EvE K (tCB (Zvg X) (ZaM ta Zd8)) ρ (.int ns.sum):=fun H0 F σ H Q S q =>
 h H0 F σ H _ S fun F1 H1 v x1 r1=>⟨hc,v,ns,rfl,r1.mono x1.fh,q F1 H1 _ x1 (.int _)⟩
theorem Zrz {x:Int} (h:EvE K ta ρ (.int x)):EvE K (ZuQ K "int" ZtK ta) ρ (.int (Builtin.Int.intBits x:Int)):=fun H0 F σ H Q S q =>
 h H0 F σ H _ S fun F1 H1 v x1 r1=>by cases r1;exact⟨rfl,x,rfl,rfl,q F1 H1 _ x1 (.int _)⟩
theorem Zne {as bs:List PyData}(ha:EvE K ta ρ (.list as))(hb:EvE K tb ρ (.list bs))(hl:as.length+bs.length<=1000):EvO K (tOp Zvk ta tb) ρ (.ol (as++bs)):=fun H0 F σ H Q S q =>
 ZdW ha hb S fun F' H' x y e r1 r2=>by
  obtain⟨a,xs,rfl,h1,h2,h3⟩:=ZbD (K:=K) r1 e.fh
  obtain⟨b,ys,rfl,g1,g2,g3⟩:=ZbD (K:=K) r2 e.fh
  refine⟨a,b,xs,ys,rfl,rfl,h3,g3,by rw[h2.length,g2.length];exact XY (ZaO hl),fun p hp=>?_⟩
  obtain⟨z1,z2,z3⟩:=ZfD (K:=K) e hp (h2.append g2)
  exact q _ _ _ _ z1 z2 z3
end
theorem ZaJ {K:W.Frag}{ρ:ZaZ}{ta:TE}{t:TA}{d:PyData}{ds:List PyData}(h1:EvE K ta ρ d)(h2:EvA K t ρ (fzs ds)):EvA K (ZaM ta t) ρ (fzs (d::ds)):=Zac h1 h2
theorem EvI.cast {K:W.Frag}{wi:TI}{ρ:ZaZ}{ds ds':List PyData}(h:EvI K wi ρ ds)(e:ds=ds'):EvI K wi ρ ds':=e▸h
theorem ZbW {a b:Int}{m n:Nat}(h:a=b)(h2:m=n):ZfX a m=ZfX b n:=by rw[h,h2]
theorem Zus {K:W.Frag}{ρ:ZaZ}{ta:TE}{x:Int}(h:EvE K ta ρ (.int x)):EvE K (tCB Zu3 (ZaM ta Zd8)) ρ (.int (Mir.ZgW x)):=Zte h
theorem Zs7 {K:W.Frag}{ρ:ZaZ}{ta tb:TE}{x y:Int}(ha:EvE K ta ρ (.int x))(hb:EvE K tb ρ (.int y)):EvE K (tCB Zsa (ZaM ta (ZaM tb Zd8))) ρ (.int (max x y)):=by
 have e:max x y=if y > x then y else x:=by split<;>omega
 rw[e];exact Zti ha hb
theorem ZrQ {K:W.Frag}{ρ:ZaZ}{ta tb:TE}{x y:Int}(ha:EvE K ta ρ (.int x))(hb:EvE K tb ρ (.int y)):EvE K (tCB Zse (ZaM ta (ZaM tb Zd8))) ρ (.int (min x y)):=by
 have e:min x y=if y<x then y else x:=by split<;>omega
 rw[e];exact ZsO ha hb
theorem ZmD {K:W.Frag}{ρ:ZaZ}{f:List (Option Nat)}{wi:TI}{g:CIn->TG}{tee:CIn->TE}{lo:Int}{n:Nat}{h:Nat->PyData}(hi:EvI K wi ρ (ZfX lo n))(hl:n<=1000)
 (hs:∀(x:Nat),x<n->∀c,∃ρ2,GTo K (g c) (.int (lo+(x:Int))) (ZiS f ρ) ρ2/\EvE K (tee c) ρ2 (h x)):EvO K (tLC f wi g (fun _=>ZrC) tee) ρ (.ol ((List.range n).map h)) :=
 ZeZ (xs:=List.range n) (enc:=fun(i:Nat)=>PyData.int (lo+(i:Int))) hi (by simpa using hl) fun x hx c=>hs x (Xl.mp hx) c
theorem EvE.cast {K:W.Frag}{t:TE}{ρ:ZaZ}{d d':PyData}(h:EvE K t ρ d)(e:d=d'):EvE K t ρ d':=e▸h
theorem EvO.cast {K:W.Frag}{t:TE}{ρ:ZaZ}{d d':OT}(h:EvO K t ρ d)(e:d=d'):EvO K t ρ d':=e▸h
theorem EvT.cast {K:W.Frag}{t:TT}{ρ:ZaZ}{d d':Bool}(h:EvT K t ρ d)(e:d=d'):EvT K t ρ d':=e▸h
def Zl0 (K:W.Frag):Sp:=fun vs H Q _=>∃(a:Addr) (ns:List Int),vs=[.ref a]/\KTs K H/\Scr K H a ns/\∀H',Q (.bl true) H'
theorem Fun.evLaw {P:Program}{w:World}{K:W.Frag}{mg:Str->Option Value}{base:Heap}{x qual p:Str}{st:Stmt}{f:Addr}{fd:FuncData}{N:List Str}{k:Nat}(F:Fun K x qual st f fd)(S:FnScope N [p] (Zaf st))
 (Xbs:∀(cdv:Value) (A:Around) (outer:List Env) (s:Shared) (H:Hp) (E:XK) (ns:List Int),Room k (A.deeper (envOfC qual (Zaf st) s.heap.objs.size f cdv))->ns.length<=63->(∀i∈ns,Builtin.Int.intBits i<=2^20) ->
  ∃t,PSs (ZjN CX0 P w K mg base N qual (Zaf st) f cdv A outer s H E).nox (ZaS st) t/\EvS K t (some (.scr ns)::List.replicate (N.length-1) none) { nx:=fun _=>False,rt:=fun r=>r=.fz (.bool true) }):FnOk P w K mg base CX0 (k+1) f fd [p] (Zl0 K):=by
 refine F.ok S (fun vs H Q E ⟨a,ns,e,_⟩=>by rw[e];rfl) fun cdv A outer s H vs Q E hr ⟨a,ns,e,kt,sc,q⟩=>?_
 subst e;obtain⟨t,h1,h2⟩:=Xbs cdv A outer s H E ns hr sc.len sc.bits
 refine⟨t,h1,h2 H H H (start N [.ref a]) H _ (Ext.refl (ZaP.refl _)) ⟨kt,ZaP.refl _,?_,fun _=>[],fun i t' e=>?_,fun i j a h=>(nomatch h),fun i a h=>(nomatch h)⟩ ⟨fun F' σ' H' ρ' x' _ e=>False.elim e,fun F' H' v r' p x' hp ok e=>?_,fun _ _ _ _ _ _ z=>False.elim z,fun _ _ _ _ _ _ z=>False.elim z⟩⟩
 ·unfold start
  simp
 ·cases i with
  |zero =>
    simp at e
    subst e;exact⟨_,rfl,rfl,a,rfl,sc⟩
  |succ i =>
    rw[Xa3]at e;have:=List.mem_of_getElem? e
    simp at this
 ·subst e
  obtain⟨_,r⟩:=ok
  cases r
  exact q H'
theorem Fgt.trans:∀{a b c:ZaZ},Fgt a b->Fgt b c->Fgt a c
 |[],[],[],_,_=>trivial
 |_::r,none::r',none::r2,h,h2=>by
   have h':Fgt r r':=h
   have h2':Fgt r' r2:=h2
   exact(show Fgt r r2 from Fgt.trans h' h2')
 |s::r,some x::r',none::r2,h,h2=>by
   have h':s=some x/\Fgt r r':=h
   have h2':Fgt r' r2:=h2
   exact(show Fgt r r2 from Fgt.trans h'.2 h2')
 |_::r,none::r',some z::r2,h,h2=>by
   have h2':none=some z/\Fgt r' r2:=h2
   exact Xp h2'.1 (by simp)
 |s::r,some x::r',some z::r2,h,h2=>by
   have h':s=some x/\Fgt r r':=h
   have h2':some x=some z/\Fgt r' r2:=h2
   exact⟨h'.1.trans h2'.1,Fgt.trans h'.2 h2'.2⟩
 |[],none::_,_,h,_=>False.elim h
 |[],some _::_,_,h,_=>False.elim h
 |_::_,[],_,h,_=>False.elim h
 |[],[],none::_,_,h=>False.elim h
 |[],[],some _::_,_,h=>False.elim h
 |_::_,none::_,[],_,h=>False.elim h
 |_::_,some _::_,[],_,h=>False.elim h
theorem ZaU {K:W.Frag}{ρ:ZaZ}:EvA K Zd8 ρ (fzs []):=Zan
theorem Zth {i j:Int}(h1 : -18446744073709551616<j)(h2:j<18446744073709551616):ZtM i j:=.inr ⟨h1,h2⟩
theorem z62:(2:Int)^62=4611686018427387904:=by decide
theorem ZuZ:ZuP 10 30:=⟨by decide,by decide,by decide⟩
theorem ZtA {CX:CXT}{P:Program}{w:World}{K:W.Frag}{mg:Str->Option Value}{base:Heap}{N:List Str}{q:Str}{sc:Scope}{f:Addr}{cd:Value}{A:Around}{o:List Env}{s:Shared}{H:Hp}{E:XK}:(ZjN CX P w K mg base N q sc f cd A o s H E).nox.K=K:=rfl
theorem ZpP {X:Cx}{N:List Str}{sc:Scope}{c:CIn}:(Zci X N sc c).K=X.K:=rfl
section
variable {K:W.Frag}{ρ:ZaZ}{ta tb te:TE}
def cut {α:Type}(xs:List α)(lo hi:Option Int):List α:=(xs.drop (HT.sIx xs.length 0 lo)).take (HT.sIx xs.length xs.length hi-HT.sIx xs.length 0 lo)
theorem Reps.drop {F:Hp}:∀{xs:List V} {ds:List PyData} (n:Nat),Reps F xs ds->Reps F (xs.drop n) (ds.drop n)
 |_,_,0,r=>r
 |_,_,_+1,.nil=>.nil
 |_,_,n+1,.cons _ t=>Reps.drop n t
theorem Reps.take {F:Hp}:∀{xs:List V} {ds:List PyData} (n:Nat),Reps F xs ds->Reps F (xs.take n) (ds.take n)
 |_,_,0,_=>.nil
 |_,_,_+1,.nil=>.nil
 |_,_,n+1,.cons r t=>.cons r (Reps.take n t)
theorem Zrk {a b:Int}{m n:Nat}(h0:0<=a)(h1:a<2^m)(h2:0<=b)(h3:b<2^n)(h4:m+n<=100000):IntMulOk a b:=by
 have bl:∀{x:Int} {m:Nat},0<=x->x<2^m->Builtin.Int.intBits x<=m:=fun{x m} h0 h=>by
  unfold Builtin.Int.intBits;by_cases e:x=0
  ·subst e;simp
  ·have e1:(x==0)=false:=by simpa using e
   rw[e1];have h1:x.natAbs≠0:=by omega
   have h2:x.natAbs<2^m:=by
    have:((x.natAbs:Nat):Int)<((2^m:Nat):Int):=by
     have e2:((2^m:Nat):Int)=(2:Int)^m:=by rw[Int.natCast_pow];rfl
     rw[e2];omega
    exact Xas.mp this
   have:=(Nat.log2_lt h1).mpr h2
   simp only[Xag,if_false];omega
 have ba:=bl h0 h1
 have bb:=bl h2 h3
 unfold IntMulOk;have:Builtin.Int.intTooBig (Builtin.Int.intBits a+Builtin.Int.intBits b)=false:=by
  unfold Builtin.Int.intTooBig;have hb:(100000:Nat)<=bitsLine:=by decide
  exact Xy (by omega)
 rw[this];simp
end
section
variable {K:W.Frag}{ρ:ZaZ}{ta tb te:TE}
def Zmd (as bs:List PyData):List PyData:=(as.zip bs).map fun p=>PyData.tuple [p.1,p.2]
theorem ZiA (as bs:List PyData):(Zmd as bs).length=min as.length bs.length:=by simp[Zmd]
theorem ZhZ {as bs:List PyData}{i:Nat}{d:PyData}(e:(Zmd as bs)[i]?=some d):∃a b,as[i]?=some a/\bs[i]?=some b/\d=.tuple [a,b]:=by
 unfold Zmd at e;rw[Xi]at e;cases z:(as.zip bs)[i]? with
 |none=>rw[z]at e;cases e
 |some p =>
   rw[z]at e;have e':=Option.some.inj e
   obtain⟨h1,h2⟩:=List.getElem?_zip_eq_some.mp z
   exact⟨p.1,p.2,h1,h2,e'.symm⟩
def Zkl (as:List PyData):List PyData:=as.zipIdx.map fun p=>PyData.tuple [.int (p.2:Int),p.1]
theorem ZiM (as:List PyData):(Zkl as).length=as.length:=by simp[Zkl]
theorem Zj3 {as:List PyData}{i:Nat}{d:PyData}(e:(Zkl as)[i]?=some d):∃a,as[i]?=some a/\d=.tuple [.int (i:Int),a]:=by
 unfold Zkl at e;rw[Xi,List.getElem?_zipIdx]at e;cases z:as[i]? with
 |none=>rw[z]at e;cases e
 |some a=>rw[z]at e;simp at e;exact⟨a,rfl,e.symm⟩
theorem Zha {F H:Hp}{x:V}{ds:List PyData}(r:Rep F x (.list ds)):∃a xs,x=.ref a/\F a=some (.lst xs)/\Reps F xs ds:=by
 cases r with
 |lst ha rr=>exact⟨_,_,rfl,ha,rr⟩
theorem Zh1 {t:TA}{as bs:List PyData}(h:EvA K t ρ [.fz (.list as),.fz (.list bs)]):EvI K (Zvm K t) ρ (Zmd as bs):=fun H0 F σ H R S q =>
 h H0 F σ H _ S fun F1 H1 vs x1 r1=>by
  cases r1 with
  |fz r r1 =>
    cases r1 with
    |fz r' r1 =>
      cases r1
      obtain⟨a,xs,rfl,ha,ra⟩:=Zha (H:=H1) r
      obtain⟨b,ys,rfl,hb,rb⟩:=Zha (H:=H1) r'
      refine⟨a,b,rfl,⟨xs,SqL.of (x1.fh _ _ ha)⟩,⟨ys,SqL.of (x1.fh _ _ hb)⟩,q F1 H1 _ x1 fun F2 H2 s2 s3=>?_⟩
      have qa:SqL K H2 a xs:=SqL.of (s3 _ _ (s2 _ _ ha))
      have qb:SqL K H2 b ys:=SqL.of (s3 _ _ (s2 _ _ hb))
      refine⟨⟨xs,ys,qa,qb,by rw[ZiA,ra.length,rb.length]⟩,fun i d e=>?_⟩
      obtain⟨d1,d2,e1,e2,rfl⟩:=ZhZ e
      obtain⟨z1,f1,g1⟩:=ra.get e1
      obtain⟨z2,f2,g2⟩:=rb.get e2
      refine⟨⟨xs,ys,z1,z2,qa,qb,f1,f2⟩,fun v H3 hy=>?_⟩
      obtain⟨p,x,y,hp,rfl,rfl,k1,k2⟩:=hy
      have ex:=k1 xs qa
      rw[f1]at ex;cases ex;have ey:=k2 ys qb
      rw[f2]at ey;cases ey;have sn:ZaP F2 (upd F2 p (.tup [z1,z2])):=ZaP.new (s3.free hp)
      exact⟨_,Ext.new s3 hp,.tup Zam (.cons ((g1.mono s2).mono sn) (.cons ((g2.mono s2).mono sn) .nil))⟩
theorem Zo4 {t:TA}{as:List PyData}(h:EvA K t ρ [.fz (.list as)]):EvI K (ZtY K t) ρ (Zkl as):=fun H0 F σ H R S q =>
 h H0 F σ H _ S fun F1 H1 vs x1 r1=>by
  cases r1 with
  |fz r r1 =>
    cases r1
    obtain⟨a,xs,rfl,ha,ra⟩:=Zha (H:=H1) r
    refine⟨a,rfl,⟨xs,SqL.of (x1.fh _ _ ha)⟩,q F1 H1 _ x1 fun F2 H2 s2 s3=>?_⟩
    have qa:SqL K H2 a xs:=SqL.of (s3 _ _ (s2 _ _ ha))
    refine⟨⟨xs,qa,by rw[ZiM,ra.length]⟩,fun i d e=>?_⟩
    obtain⟨d1,e1,rfl⟩:=Zj3 e
    obtain⟨z1,f1,g1⟩:=ra.get e1
    refine⟨⟨xs,z1,qa,f1⟩,fun v H3 hy=>?_⟩
    obtain⟨p,x,hp,rfl,rfl,k1⟩:=hy
    have ex:=k1 xs qa
    rw[f1]at ex;cases ex;have sn:ZaP F2 (upd F2 p (.tup [.int (i:Int),z1])):=ZaP.new (s3.free hp)
    exact⟨_,Ext.new s3 hp,.tup Zam (.cons (.int _) (.cons ((g1.mono s2).mono sn) .nil))⟩
theorem Zna {X:Cx}{ns:List Int}(h:EvE K ta ρ (.list (ns.map PyData.int)))(hc:X.calm=true)(hn:ns≠[]):EvE K (tCB (Zud X) (ZaM ta Zd8)) ρ (.int (ZkI ns)):=fun H0 F σ H Q S q =>
 h H0 F σ H _ S fun F1 H1 v x1 r1=>⟨hc,v,ns,rfl,r1.mono x1.fh,hn,q F1 H1 _ x1 (.int _)⟩
theorem Zsp {X:Cx}{tc:TE}{a b c:Int}(ha:EvE K ta ρ (.int a))(hb:EvE K tb ρ (.int b))(hc':EvE K tc ρ (.int c))(hc:X.calm=true):EvE K (tCB (Ztv X) (ZaM ta (ZaM tb (ZaM tc Zd8)))) ρ (.int (min a (min b c))):=fun H0 F σ H Q S q =>
 ha H0 F σ H _ S fun F1 H1 v x1 r1=>hb H0 F1 σ H1 _ (S.ext x1) fun F2 H2 u x2 r2=>hc' H0 F2 σ H2 _ (S.ext (x1.trans x2)) fun F3 H3 w x3 r3=>by
  cases r1;cases r2;cases r3
  exact⟨hc,a,b,c,rfl,q F3 H3 _ (x1.trans (x2.trans x3)) (.int _)⟩
theorem Zr7 {x:Int}{ns:List Int}(ha:EvE K ta ρ (.int x))(hb:EvE K tb ρ (.list (ns.map PyData.int))):EvE K (tOp (rIn K true) ta tb) ρ (.bool (!decide (x∈ns))):=fun H0 F σ H Q S q =>
 ZdW ha hb S fun F' H' u y e r1 r2=>by
  obtain⟨a,xs,rfl,h1,h2,h3⟩:=ZbD (K:=K) r2 e.fh
  cases r1
  have ex:=ZcY h2
  subst ex;refine⟨a,_,rfl,.inl h1,rfl,?_,?_⟩
  ·rw[List.all_eq_true]
   intro v hv;obtain⟨j,_,rfl⟩:=Xx.mp hv
   rfl
  ·rw[Xc rfl,ZpA]
   exact q F' H' _ e (.bl _)
def ZsD:OT->Option PyData
 |.fz d=>some d
 |.ol ds=>some (.list ds)
 |.oll dss=>some (.list (dss.map PyData.list))
 |.scr _=>none
 |.own _ _=>none
 |.zow _=>none
def frF (F H:Hp)(p:List Addr):Hp:=fun b=>if b∈p then H b else F b
theorem Zfq {F H:Hp}{p:List Addr}{b:Addr}(h:b∈p):frF F H p b=H b:=by unfold frF;rw[Xc h]
theorem Zc1 {F H:Hp}{p:List Addr}{b:Addr}(h:b∉p):frF F H p b=F b:=by unfold frF;rw[Xa h]
theorem ZcN {F H:Hp}{p:List Addr}(h:∀a∈p,F a=none):ZaP F (frF F H p):=fun b u e=>by
 rw[Zc1 fun z=>by rw[h b z]at e;cases e];exact e
theorem ZgG {F H:Hp}{p:List Addr}(s:ZaP F H):ZaP (frF F H p) H:=fun b u e=>by
 by_cases z:b∈p
 ·rw[Zfq z]at e;exact e
 ·rw[Zc1 z]at e;exact s b u e
theorem Zi3 {F F' H:Hp}(sm:ZaP F F'):∀{as:List Addr} {dss:List (List PyData)},Za7 F H as dss->(∀a∈as,F' a=H a)->Reps F' (as.map V.ref) (dss.map PyData.list)
 |[],[],_,_=>.nil
 |a::as,ds::dss,h,he=>by
   obtain⟨⟨h1,xs,h2,h3⟩,h4⟩:=h
   exact .cons (.lst (by rw[he a Xb];exact h2) (h3.mono sm)) (Zi3 sm h4 fun b hb=>he b (Xd _ hb))
 |[],_::_,h,_=>False.elim h
 |_::_,[],h,_=>False.elim h
theorem ZaN.frz {F H:Hp}{v:V}{t:OT}{p:List Addr}{d:PyData}(ok:ZaN K F H v t p)(e:ZsD t=some d):Rep (frF F H p) v d:=by
 have sm:ZaP F (frF F H p):=ZcN fun a ha=>(ok.there a ha).1
 cases t with
 |fz d'=>cases e;exact ok.2.mono sm
 |ol ds =>
   cases e
   obtain⟨a,rfl,rfl,h1,xs,h2,h3⟩:=ok
   exact .lst (by rw[Zfq Xb];exact h2) (h3.mono sm)
 |oll dss =>
   cases e
   obtain⟨a,as,rfl,rfl,hn,h1,h2,h3⟩:=ok
   exact .lst (by rw[Zfq Xb];exact h2) (Zi3 sm h3 fun b hb=>Zfq (Xd _ hb))
 |scr ns=>cases e
 |own v0 Φ=>cases e
 |zow Ψ=>cases e
theorem Za7.frOther {F H:Hp}{p:List Addr}(sm:ZaP F (frF F H p)):∀{as:List Addr} {dss:List (List PyData)},(∀a∈as,a∉p)->Za7 F H as dss->Za7 (frF F H p) H as dss
 |[],[],_,_=>trivial
 |a::as,ds::dss,hn,h=>by
   obtain⟨⟨h1,xs,h2,h3⟩,h4⟩:=h
   exact⟨⟨by rw[Zc1 (hn a Xb)];exact h1,xs,h2,h3.mono sm⟩,Za7.frOther sm (fun b hb=>hn b (Xd _ hb)) h4⟩
 |[],_::_,_,h=>False.elim h
 |_::_,[],_,h=>False.elim h
theorem ZaN.frOther {F H:Hp}{v:V}{t:OT}{p q:List Addr}(sm:ZaP F (frF F H p))(ok:ZaN K F H v t q)(hn:∀a∈q,a∉p):ZaN K (frF F H p) H v t q:=by
 cases t with
 |fz d=>exact⟨ok.1,ok.2.mono sm⟩
 |zow Ψ=>exact⟨ok.1,Ψ.mono sm ok.2⟩
 |ol ds =>
   obtain⟨a,rfl,rfl,h1,xs,h2,h3⟩:=ok
   exact⟨a,rfl,rfl,by rw[Zc1 (hn a Xb)];exact h1,xs,h2,h3.mono sm⟩
 |oll dss =>
   obtain⟨a,as,rfl,rfl,hd,h1,h2,h3⟩:=ok
   exact⟨a,as,rfl,rfl,hd,by rw[Zc1 (hn a Xb)];exact h1,h2,h3.frOther sm fun b hb=>hn b (Xd _ hb)⟩
 |scr ns=>obtain⟨h1,a,h2,h3⟩:=ok;exact⟨h1,a,h2,h3.mono sm⟩
 |own v0 Φ=>exact⟨ok.1,Φ.mono sm (fun a ha=>by rw[Zc1 (hn a ha)];exact(Φ.there ok.2 a ha).1) (fun _ _=>rfl) ok.2⟩
theorem Sta.freezeG {H0 F H:Hp}{σ:St}{i:Nat}{t:OT}{d:PyData}(s:Sta K H0 F ρ σ H)(e:ρ[i]?=some (some t))(ed:ZsD t=some d) :
 ∃p,(∀a∈p,F a=none/\H a≠none/\H0 a=none)/\Sta K H0 (frF F H p) (ρ.set i (some (.fz d))) σ H:=by
 obtain⟨kt,h1,h2,fp,h3,h4,h5⟩:=s
 obtain⟨v,e1,ok⟩:=h3 i _ e
 have hlt:=(Xe.mp e).1
 have sm:ZaP F (frF F H (fp i)):=ZcN fun a ha=>(ok.there a ha).1
 refine⟨fp i,fun a ha=>⟨(ok.there a ha).1,(ok.there a ha).2,(h5 i a ha).1⟩,kt.mono sm,ZgG h1,by simp[h2],fun j=>if j=i then [] else fp j,fun j t' e'=>?_,fun j k b hb hc=>?_,fun j b hb=>?_⟩
 ·by_cases hj:j=i
  ·subst hj
   rw[XN hlt]at e';cases e'
   refine⟨_,e1,?_,ok.frz ed⟩
   dsimp only;rw[Xc rfl]
  ·rw[XU (Ne.symm hj)]at e'
   obtain⟨u,f1,f2⟩:=h3 j t' e'
   refine⟨u,f1,?_⟩
   dsimp only;rw[Xa hj];exact f2.frOther sm fun a ha z=>hj (h4 j i a ha z)
 ·by_cases hj:j=i
  ·simp[hj]at hb
  ·by_cases hk:k=i
   ·simp[hk]at hc
   ·simp only[Xa hj]at hb
    simp only[Xa hk]at hc;exact h4 j k b hb hc
 ·by_cases hj:j=i
  ·simp[hj]at hb
  ·simp only[Xa hj]at hb
   exact h5 j b hb
theorem ZqQ {t:TS}{D:PEnds}(i:Nat){r:OT}{d:PyData}(e:ρ[i]?=some (some r))(ed:ZsD r=some d)(h:EvS K t (ρ.set i (some (.fz d))) D):EvS K t ρ D:=fun F0 H0 F σ H E x S C=>by
 obtain⟨p,hp,S'⟩:=S.freezeG e ed
 refine h F0 H0 _ σ H E ⟨x.hh,x.ff.trans (ZcN fun a ha=>(hp a ha).1),S'.sub,fun a ha=>?_⟩ S' C
 by_cases z:a∈p
 ·exact .inr (hp a z).2.2
 ·rw[Zc1 z]at ha;exact x.fr a ha
theorem Zi6 {F H F' H':Hp}{p:List Addr}(hp:∀a∈p,F a=none/\H a≠none)(x:Ext (frF F H p) H F' H'):Ext F H (fun b=>if b∈p then none else F' b) H' :=
 ⟨x.hh,fun b u hb=>by
  have nb:b∉p:=fun z=>by rw[(hp b z).1]at hb;cases hb
  simp only[Xa nb];exact x.ff b u (by rw[Zc1 nb];exact hb),fun b u hb=>by
  by_cases z:b∈p
  ·simp[z]at hb
  ·simp only[Xa z]at hb;exact x.fh b u hb,fun b hb=>by
  by_cases z:b∈p
  ·simp[z]at hb
  ·simp only[Xa z]at hb
   rcases x.fr b hb with y|y
   ·rw[Zc1 z]at y;exact .inl y
   ·exact .inr y⟩
theorem Zie {t:TE}(i:Nat){r:OT}{d0 d:PyData}{w:V}(e:ρ[i]?=some (some r))(ed:ZsD r=some d0)(hf:Zef d=some w)(h:EvE K t (ρ.set i (some (.fz d0))) d):EvE K t ρ d:=fun H0 F σ H Q S q=>by
 obtain⟨p,hp,S'⟩:=S.freezeG e ed
 refine h H0 _ σ H Q S' fun F' H' v x rr=>?_
 have hv:=rr.flat hf
 refine q _ H' v (Zi6 (fun a ha=>⟨(hp a ha).1,(hp a ha).2.1⟩) x) ?_
 subst hv;cases rr<;>simp[Zef]at hf
 ·exact .non
 ·exact .bl _
 ·exact .int _
 ·exact .str _
theorem ZpH {t:TT}(i:Nat){r:OT}{d0:PyData}{b:Bool}(e:ρ[i]?=some (some r))(ed:ZsD r=some d0)(h:EvT K t (ρ.set i (some (.fz d0))) b):EvT K t ρ b:=fun H0 F σ H Q S q=>by
 obtain⟨p,hp,S'⟩:=S.freezeG e ed
 exact h H0 _ σ H Q S' fun F' H' x=>q _ H' (Zi6 (fun a ha=>⟨(hp a ha).1,(hp a ha).2.1⟩) x)
def ZqT (ds:List PyData):Prop := ∀d∈ds,∃w,Zef d=some w
theorem Reps.flats {F F':Hp}:∀{xs:List V} {ds:List PyData},ZqT ds->Reps F xs ds->Reps F' xs ds
 |_,_,_,.nil=>.nil
 |_::_,d::_,h,.cons r t=>by
   obtain⟨w,e⟩:=h d Xb
   refine .cons ?_ (Reps.flats (fun c hc=>h c (Xd _ hc)) t)
   cases r<;>simp[Zef]at e
   ·exact .non
   ·exact .bl _
   ·exact .int _
   ·exact .str _
end
section
variable {K:W.Frag}{ρ:ZaZ}{ta tb tc te ti tj:TE}{D:PEnds}
theorem Za7.snoc {F H:Hp}{b:Addr}{ds:List PyData}:∀{as:List Addr} {dss:List (List PyData)},Za7 F H as dss->Zhe F H b ds->Za7 F H (as++[b]) (dss++[ds])
 |[],[],_,h=>⟨h,trivial⟩
 |_::_,_::_,h,h2=>⟨h.1,Za7.snoc h.2 h2⟩
 |[],_::_,h,_=>False.elim h
 |_::_,[],h,_=>False.elim h
theorem Za7.length {F H:Hp}:∀{as:List Addr} {dss:List (List PyData)},Za7 F H as dss->as.length=dss.length
 |[],[],_=>rfl
 |_::_,_::_,h=>by simp[Za7.length h.2]
 |[],_::_,h=>False.elim h
 |_::_,[],h=>False.elim h
theorem Za7.get {F H:Hp}:∀{as:List Addr} {dss:List (List PyData)} {k:Nat} {ds:List PyData},Za7 F H as dss->dss[k]?=some ds->∃c,as[k]?=some c/\Zhe F H c ds
 |[],[],_,_,_,e=>by simp at e
 |a::_,_::_,0,ds,h,e=>by simp at e;subst e;exact⟨a,rfl,h.1⟩
 |_::as,_::dss,k+1,ds,h,e=>by
   obtain⟨c,h1,h2⟩:=Za7.get (k:=k) (ds:=ds) h.2 (by simpa using e)
   exact⟨c,by simpa using h1,h2⟩
 |[],_::_,_,_,h,_=>False.elim h
 |_::_,[],_,_,h,_=>False.elim h
theorem Za7.set {F H:Hp}{c:Addr}{xs:List V}{ds:List PyData}(r:Reps F xs ds)(hf:F c=none):∀{as:List Addr} {dss:List (List PyData)} {k:Nat},Za7 F H as dss->as.Nodup->as[k]?=some c->Za7 F (upd H c (.lst xs)) as (dss.set k ds)
 |[],[],_,_,_,e=>by simp at e
 |a::as,d::dss,0,h,hn,e=>by
   simp at e
   subst e;exact⟨⟨hf,xs,Zam,r⟩,h.2.other (XL.mp hn).1⟩
 |a::as,d::dss,k+1,h,hn,e=>by
   have e':as[k]?=some c:=by simpa using e
   have hm:=List.mem_of_getElem? e'
   exact⟨h.1.other (fun z=>(XL.mp hn).1 (by rw[z];exact hm)),Za7.set r hf h.2 (XL.mp hn).2 e'⟩
 |[],_::_,_,h,_,_=>False.elim h
 |_::_,[],_,h,_,_=>False.elim h
theorem Zh0 {i:Nat}{dss:List (List PyData)}{ds:List PyData}{d:PyData}{k m:Int}{k' m':Nat}(e:ρ[i]?=some (some (.oll dss)))(h:EvE K te ρ d)(hk:EvE K ti ρ (.int k))(hm:EvE K tj ρ (.int m))(e1:ixN dss.length k=some k')(e2:dss[k']?=some ds)(e3:ixN ds.length m=some m')
 (hn:D.nx (ρ.set i (some (.oll (dss.set k' (ds.set m' d)))))):EvS K (ZoV te (Zvc (tOp (rIx K) (Zb8 i) ti) tj Zpj)) ρ D:=fun F0 H0 F σ H E x S C =>
 h H0 F σ H _ S fun F1 H1 v x1 r1=>by
  have S1:=S.ext x1
  obtain⟨fp1,g1,g2,g3⟩:=S1.fp
  obtain⟨v1,q1,a,as,rfl,p1,nd1,fa1,ha1,oa1⟩:=g1 i _ e
  refine⟨_,q1,hk H0 F1 σ H1 _ S1 fun F2 H2 y x2 r2=>?_⟩
  cases r2
  obtain⟨c,hc,oc⟩:=(oa1.ext x2).get e2
  have ea:atI (as.map V.ref) k=some (.ref c):=by
   unfold atI;rw[Xj,oa1.length,e1];show(as.map V.ref)[k']?=_
   rw[Xi,hc];rfl
  refine .inl ⟨a,as.map V.ref,k,.ref c,rfl,rfl,SqL.of (x2.hh _ _ ha1),ea,hm H0 F2 σ H2 _ (S1.ext x2) fun F3 H3 z x3 r3=>?_⟩
  cases r3
  have x23:=x2.trans x3
  obtain⟨oc1,xs,oc2,oc3⟩:=oc.ext x3
  refine⟨c,xs,m,m',rfl,rfl,oc2,by rw[oc3.length];exact e3,?_⟩
  have S3:=S1.ext x23
  have X3:=x.trans (x1.trans x23)
  have hcm:c∈fp1 i:=by rw[p1];exact Xd _ (List.mem_of_getElem? hc)
  have nca:c≠a:=fun z=>(XL.mp nd1).1 (by rw[<- z];exact List.mem_of_getElem? hc)
  have hlt:=(Xe.mp e).1
  have rr:=(oc3.set (r1.mono x23.ff) m')
  refine C.nx F3 σ _ _ (X3.wr (g3 i c hcm).1 oc1) ⟨S3.kt,S3.sub.upd oc1,by simp[S3.len],fp1,fun j t ej=>?_,g2,fun j b hb=>?_⟩ hn
  ·by_cases hj:j=i
   ·subst hj
    rw[XN hlt]at ej;cases ej
    have ok3:=(g1 j _ e)
    refine⟨_,q1,a,as,rfl,p1,nd1,x23.free fa1 (ZaR ha1),by rw[Zak nca.symm];exact x23.hh _ _ ha1,(oa1.ext x23).set rr oc1 (XL.mp nd1).2 hc⟩
   ·rw[XU (Ne.symm hj)]at ej
    obtain⟨u,f1,f2⟩:=g1 j t ej
    exact⟨u,f1,(f2.ext x23).other fun z=>hj (g2 j i c z hcm)⟩
  ·obtain⟨f1,f2⟩:=g3 j b hb
   refine⟨f1,?_⟩
   by_cases z:b=c
   ·subst z;rw[Zam];exact fun q=>nomatch q
   ·rw[Zak z]
    obtain⟨o,ho⟩:=ZfB f2
    exact ZaR (x23.hh _ _ ho)
theorem Zlr {α:Type}{f:List (Option Nat)}{wi:TI}{g:CIn->TG}{tee:CIn->TE}{xs:List α}{enc:α->PyData}{h:α->List PyData}(hi:EvI K wi ρ (xs.map enc))(hl:xs.length<=1000)
 (hs:∀x∈xs,∀c,∃ρ2,GTo K (g c) (enc x) (ZiS f ρ) ρ2/\EvO K (tee c) ρ2 (.ol (h x))):EvO K (tLC f wi g (fun _=>ZrC) tee) ρ (.oll (xs.map h)):=fun H0 F σ H Q S q =>
 hi H0 F σ H _ S fun F1 H1 J x1 W c=>by
  have hn:xs.length<=sizeLine:=XY (ZaO hl)
  refine⟨fun i m ys H=>m=xs.length-i/\i<=xs.length/\∃F' as,Ext F1 H1 F' H/\ys=as.map V.ref/\as.Nodup/\(∀a∈as,H1 a=none)/\Za7 F' H as ((xs.take i).map h),⟨xs.length,by simp,X0 _,F1,[],Ext.refl x1.fh,rfl,by simp,fun a ha=>(nomatch ha),trivial⟩,?_⟩
  rintro i m ys H' ⟨rfl,hle,F',as,x',rfl,nd,hfr,oa⟩
  obtain⟨w1,w2⟩:=W F' H' x'.ff x'.fh
  by_cases hlt:i<xs.length
  ·have e:(xs.map enc)[i]?=some (enc xs[i]):=by simp[hlt]
   obtain⟨go,yl⟩:=w2 i _ e
   refine .inr ⟨go,fun v H3 y=>?_⟩
   obtain⟨F3,x3,r3⟩:=yl v H3 y
   obtain⟨ρ2,k1,k2⟩:=hs xs[i] (XM hlt) c
   have S3:=(S.ext (x1.trans (x'.trans x3))).inner f
   have tk:xs.take (i+1)=xs.take i++[xs[i]]:=by rw[Xau];simp[hlt]
   have ol:=oa.length
   refine k1 H0 F3 _ H3 v _ S3 r3 fun σ2 S4=>?_
   dsimp only[ZrC];rw[Xc rfl];refine k2 H0 F3 σ2 H3 _ S4 fun F5 H5 z p x5 hp ok=>⟨?_,xs.length-(i+1),by omega,rfl,hlt,F5,as++[?_],x'.trans (x3.trans x5),?_,?_,?_,?_⟩
   ·rw[Xj,ol,Xj,XaX];omega
   ·exact(match z with|.ref b=>b|_=>0)
   all_goals obtain⟨b,rfl,rfl,o1⟩:=ok
   ·simp
   ·rw[XaS]
    refine⟨nd,by simp,fun c' hc' d hd=>?_⟩
    have hd':d=b:=by simpa using hd
    subst hd';intro z;subst z;have hb:H3 c'=none:=hp c' Xb
    have:=(oa.mem c' hc').2
    obtain⟨o,ho⟩:=ZfB this
    rw[x3.hh _ _ ho]at hb;cases hb
   ·intro c' hc'
    rcases XI.mp hc' with hc'|hc'
    ·exact hfr c' hc'
    ·have:c'=b:=by simpa using hc'
     subst this;exact(x'.trans x3).hh.free (hp c' Xb)
   ·rw[tk,Xz]
    exact(oa.ext (x3.trans x5)).snoc o1
  ·have e:i=xs.length:=by omega
   subst e;refine .inl ⟨by simpa using w1,fun a ha=>?_⟩
   rw[Xap]at oa;have na:a∉as:=fun z=>(oa.mem a z).2 ha
   refine q F' _ _ (a::as) ((x1.trans x').trans (Ext.own x'.fh ha)) (fun b hb=>?_) ⟨a,as,rfl,rfl,XL.mpr ⟨na,nd⟩,x'.fh.free ha,Zam,oa.other na⟩
   rcases Xf.mp hb with rfl|hb
   ·exact(x1.trans x').hh.free ha
   ·exact x1.hh.free (hfr b hb)
theorem ZnY {ds:List PyData}{k:Int}(ha:EvE K ta ρ (.list ds))(hb:EvE K tb ρ (.int k))(h0:0<=k)(hl:ds.length*k.toNat<=1000)(hk:k<=1000000):EvO K (tOp ZuY ta tb) ρ (.ol (List.replicate k.toNat ds).flatten):=fun H0 F σ H Q S q =>
 ZdW ha hb S fun F' H' x y e r1 r2=>by
  obtain⟨a,xs,rfl,h1,h2,h3⟩:=ZbD (K:=K) r1 e.fh
  cases r2
  have h63:(2:Int)^63=9223372036854775808:=by decide
  refine⟨a,k,xs,rfl,rfl,h3,by rw[h63];omega,by rw[h63];omega,by rw[h2.length];exact XY (ZaO hl),fun p hp=>?_⟩
  have rr:∀n:Nat,Reps F' (List.replicate n xs).flatten (List.replicate n ds).flatten:=fun n=>by
   induction n with
   |zero=>exact .nil
   |succ n ih=>rw[Xaw,Xaw,XaI,XaI];exact h2.append ih
  obtain⟨z1,z2,z3⟩:=ZfD (K:=K) e hp (rr k.toNat)
  exact q _ _ _ _ z1 z2 z3
theorem Zkf {α:Type}(d:α):∀n:Nat,(List.replicate n [d]).flatten=List.replicate n d
 |0=>rfl
 |n+1=>by rw[Xaw,XaI,Zkf d n];rfl
end
end L2
end
namespace L2
open PySem PySem.Spec PyProof.Rows
section
variable {κ:Type} [DecidableEq κ]
def Zec (kvs:List (κ×V))(k:κ):Option V:=(kvs.find? fun kv=>decide (kv.1=k)).map (·.2)
def ZjO (kvs:List (κ×V))(k:κ)(v:V):List (κ×V) :=
 if (kvs.any fun kv=>decide (kv.1=k))=true then kvs.map (fun kv=>if kv.1=k then (kv.1,v) else kv) else kvs++[(k,v)]
theorem Zca {p:κ×V}{r:List (κ×V)}{k:κ}(e:p.1=k):Zec (p::r) k=some p.2:=by simp[Zec,XA,e]
theorem ZbZ {p:κ×V}{r:List (κ×V)}{k:κ}(e:¬p.1=k):Zec (p::r) k=Zec r k:=by simp[Zec,XA,e]
theorem Zls (k:κ):∀kvs:List (κ×V),(kvs.any fun kv=>decide (kv.1=k))=(Zec kvs k).isSome
 |[]=>rfl
 |p::r=>by
   rw[Xbg];by_cases e:p.1=k
   ·simp only[Zca e,X9 e,Bool.true_or,Option.isSome_some]
   ·rw[ZbZ e,Xy e,Bool.false_or];exact Zls k r
theorem ZjA (k j:κ)(y:V):∀kvs:List (κ×V),Zec kvs k=none->Zec (kvs++[(k,y)]) j=if j=k then some y else Zec kvs j
 |[],_=>by
   by_cases e:k=j
   ·rw[Xc e.symm];exact Zca (p:=(k,y)) e
   ·rw[Xa (fun z=>e z.symm)];exact ZbZ (p:=(k,y)) e
 |p::r,hn=>by
   rw[XaK];have hk:¬p.1=k:=fun z=>by rw[Zca z]at hn;cases hn
   rw[ZbZ hk]at hn;have ih:=ZjA k j y r hn
   by_cases e:p.1=j
   ·rw[Zca e,Zca e,Xa (fun z=>hk (e.trans z))]
   ·rw[ZbZ e,ZbZ e,ih]
theorem Zgs (kvs:List (κ×V))(k:κ)(v:V):(ZjO kvs k v).length<=kvs.length+1:=by
 unfold ZjO;split
 ·rw[Xj];omega
 ·rw[Xt,XW,List.length_nil];omega
theorem Zg8.isSome_eq {o:Option V}{u:Option Value}(r:Zg8 o u):o.isSome=u.isSome:=by
 cases o with
 |none=>cases u with
   |none=>rfl
   |some _=>exact(show False from r).elim
 |some _=>cases u with
   |none=>exact(show False from r).elim
   |some _=>rfl
theorem Zg8.getD {o:Option V}{u:Option Value}{d:V}{d':Value}(r:Zg8 o u)(rd:Zbl d d'):Zbl (o.getD d) (u.getD d'):=by
 cases o with
 |none=>cases u with
   |none=>exact rd
   |some _=>exact(show False from r).elim
 |some _=>cases u with
   |none=>exact(show False from r).elim
   |some _=>exact r
theorem KV.val {kvs:List (κ×V)}{vs:List (κ×Value)}(r:KV kvs vs)(k:κ):Zg8 (Zec kvs k) (valueAt vs k):=by
 unfold KV at r;induction r with
 |nil=>exact True.intro
 |@cons p q ps qs h t ih =>
   obtain⟨h1,h2⟩:=h
   by_cases e:p.1=k
   ·have e':q.1=k:=h1.symm.trans e
    have b:valueAt (q::qs) k=some q.2:=by simp[valueAt,XA,e']
    rw[Zca e,b];exact h2
   ·have e':¬q.1=k:=fun z=>e (h1.trans z)
    have b:valueAt (q::qs) k=valueAt qs k:=by simp[valueAt,XA,e']
    rw[ZbZ e,b];exact ih
theorem KV.any {kvs:List (κ×V)}{vs:List (κ×Value)}(r:KV kvs vs)(k:κ):(kvs.any fun kv=>decide (kv.1=k))=vs.any fun kv=>decide (kv.1=k):=by
 unfold KV at r;induction r with
 |nil=>rfl
 |cons h t ih=>rw[Xbg,Xbg,ih,h.1]
theorem KV.repl {kvs:List (κ×V)}{vs:List (κ×Value)}(r:KV kvs vs)(k:κ){y:V}{u:Value}(ry:Zbl y u) :
 KV (kvs.map fun kv=>if kv.1=k then (kv.1,y) else kv) (vs.map fun kv=>if kv.1=k then (kv.1,u) else kv):=by
 unfold KV at r ⊢;induction r with
 |nil=>exact .nil
 |@cons p q ps qs h t ih =>
   rw[Xr,Xr];refine .cons ?_ ih
   obtain⟨h1,h2⟩:=h
   by_cases e:p.1=k
   ·rw[Xc e,Xc (h1.symm.trans e)];exact⟨h1,ry⟩
   ·rw[Xa e,Xa (fun z=>e (h1.trans z))];exact⟨h1,h2⟩
theorem KV.put {kvs:List (κ×V)}{vs:List (κ×Value)}(r:KV kvs vs)(k:κ){y:V}{u:Value}(ry:Zbl y u):KV (ZjO kvs k y) (stored vs k u):=by
 unfold ZjO stored;rw[r.any k];by_cases e:(vs.any fun kv=>decide (kv.1=k))=true
 ·rw[Xc e,Xc e];exact r.repl k ry
 ·rw[Xa e,Xa e];exact Paired.snoc r ⟨rfl,ry⟩
theorem KV.length {kvs:List (κ×V)}{vs:List (κ×Value)}(r:KV kvs vs):kvs.length=vs.length:=Paired.length r
end
theorem ZlM {P:Program}{w:World}{k:Key}{u:Value}(r:Zbl (kV k) u):(Zbh P w).is k u=true:=by
 cases k with
 |inl i=>obtain⟨t,e⟩:=(show ∃t,u=Value.int i t from r);subst e;exact Zkx P w i t
 |inr x=>obtain⟨t,e⟩:=(show ∃t,u=Value.str x t from r);subst e;exact Zkp P w x t
theorem Zjm {P:Program}{w:World}:∀{ks:List Key} {us:List Value},Zb7 (ks.map kV) us->ItemsAre (Zbh P w) ks us
 |[],_,r=>by rw[XaY]at r;cases r;exact .nil
 |k::ks,_,r=>by
   rw[Xr]at r;cases r with
   |cons h t=>exact .cons (ZlM h) (Zjm t)
abbrev KT (H:Hp):List (List Key×V)->List (List Key×Addr×Value)->Prop:=Paired fun p q=>p.1=q.1/\H q.2.1=some (.tup (p.1.map kV))/\Zbl p.2 q.2.2
theorem KT.val {H:Hp}{kvs:List (List Key×V)}{xs:List (List Key×Addr×Value)}(r:KT H kvs xs)(k:List Key):Zg8 (Zec kvs k) ((atKey xs k).map (·.2)):=by
 induction r with
 |nil=>exact True.intro
 |@cons p q ps qs h t ih =>
   obtain⟨h1,_,h2⟩:=h
   by_cases e:p.1=k
   ·have e':q.1=k:=h1.symm.trans e
    have b:atKey (q::qs) k=some q.2:=by simp[atKey,XA,e']
    rw[Zca e,b];exact h2
   ·have e':¬q.1=k:=fun z=>e (h1.trans z)
    have b:atKey (q::qs) k=atKey qs k:=by simp[atKey,XA,e']
    rw[ZbZ e,b];exact ih
theorem KT.repl {H:Hp}{kvs:List (List Key×V)}{xs:List (List Key×Addr×Value)}(r:KT H kvs xs)(k:List Key){y:V}{u:Value}(ry:Zbl y u) :
 KT H (kvs.map fun kv=>if kv.1=k then (kv.1,y) else kv) (xs.map (putAt k u)):=by
 induction r with
 |nil=>exact .nil
 |@cons p q ps qs h t ih =>
   rw[Xr,Xr];refine .cons ?_ ih
   obtain⟨h1,h2,h3⟩:=h
   unfold putAt;by_cases e:p.1=k
   ·rw[Xc e,Xc (h1.symm.trans e)];exact⟨h1,h2,ry⟩
   ·rw[Xa e,Xa (fun z=>e (h1.trans z))];exact⟨h1,h2,h3⟩
theorem KT.put {H:Hp}{kvs:List (List Key×V)}{xs:List (List Key×Addr×Value)}(r:KT H kvs xs)(k:List Key){b:Addr}{y:V}{u:Value}(hb:H b=some (.tup (k.map kV)))(ry:Zbl y u) :
 KT H (ZjO kvs k y) (storedH xs k b u):=by
 have e:(kvs.any fun kv=>decide (kv.1=k))=(atKey xs k).isSome:=by
  rw[Zls,(r.val k).isSome_eq,XaC]
 unfold ZjO storedH;rw[e];by_cases q:(atKey xs k).isSome=true
 ·rw[Xc q,Xc q];exact r.repl k ry
 ·rw[Xa q,Xa q];exact Paired.snoc r ⟨rfl,hb,ry⟩
theorem KT.keeps {H H':Hp}{kvs:List (List Key×V)}{xs:List (List Key×Addr×Value)}(r:KT H kvs xs)(ht:∀b ys,H b=some (.tup ys)->H' b=some (.tup ys)):KT H' kvs xs :=
 Paired.mapP r fun _ _ z=>⟨z.1,ht _ _ z.2.1,z.2.2⟩
section
variable {P:Program}{w:World}{H:Hp}{h:Heap}{a:Addr}
theorem ZsV {u:HO}(ok:HOk P w H h)(e:Rd H a u):Zcw P w H h a u:=e.ok ok
theorem ZjS {kvs:List (Key×V)}(ok:HOk P w H h)(e:Rd H a (.dK kvs)):kvs.length<=sizeLine/\(a==sysModules)=false/\∃vs,KV kvs vs/\h.DictOf (Zbh P w) a vs :=
 show Zcw P w H h a (.dK kvs) from ZsV ok e
theorem Zut {kvs:List (Key×V)}(ok:HOk P w H h)(e:H a=some (.dK kvs)):kvs.length<=sizeLine/\(a==sysModules)=false/\∃vs,KV kvs vs/\h.DictOf (Zbh P w) a vs:=ZjS ok (.inl e)
theorem ZeC {ks:List Key}(ok:HOk P w H h)(e:H a=some (.tup (ks.map kV))):(tupleKind (Zbh P w)).is h ks a:=by
 obtain⟨_,its,r,o,h1,h2,n,h3⟩:=(show Zcw P w H h a (.tup (ks.map kV)) from ok a _ e)
 exact⟨o,its.toArray,n,h1,h2,h3,by simpa using Zjm r⟩
theorem ZjU {kvs:List (List Key×V)}(ok:HOk P w H h)(e:Rd H a (.dT kvs)):kvs.length<=sizeLine/\(a==sysModules)=false /\
 ∃xs,KT H kvs xs/\h.DictOfH (tupleKind (Zbh P w)) a xs:=by
 obtain⟨z,y,xs,r,o,es,ep,h1,h2,h3,h4,h5⟩:=(show Zcw P w H h a (.dT kvs) from ZsV ok e)
 refine⟨z,y,xs,r,o,es,ep,h1,h2,h3,h4,fun x hx=>?_,h5⟩
 have all:∀{l:List (List Key×V)} {m:List (List Key×Addr×Value)},KT H l m->∀x∈m,(tupleKind (Zbh P w)).is h x.1 x.2.1:=by
  intro l m q;induction q with
  |nil=>intro x hx;exact nomatch hx
  |@cons p q ps qs hq t ih =>
    intro x hx;rcases Xf.mp hx with e|hx
    ·subst e
     exact ZeC ok (by rw[<- hq.1];exact hq.2.1)
    ·exact ih x hx
 exact all r x hx
theorem ZrV {kvs:List (List Key×V)}(ok:HOk P w H h)(e:H a=some (.dT kvs)):kvs.length<=sizeLine/\(a==sysModules)=false /\
 ∃xs,KT H kvs xs/\h.DictOfH (tupleKind (Zbh P w)) a xs:=ZjU ok (.inl e)
end
def Zix (H:Hp)(a:Addr)(y:V)(r:Option V):Prop :=
 (∃kvs k,Rd H a (.dK kvs)/\y=kV k/\r=Zec kvs k)\/∃kvs k b,Rd H a (.dT kvs)/\y=.ref b/\H b=some (.tup (k.map kV))/\r=Zec kvs k
def ZqE (H:Hp)(a:Addr)(y v:V)(H':Hp):Prop :=
 (∃kvs k,H a=some (.dK kvs)/\y=kV k/\kvs.length<sizeLine/\H'=upd H a (.dK (ZjO kvs k v))) \/
 ∃kvs k b,H a=some (.dT kvs)/\y=.ref b/\H b=some (.tup (k.map kV))/\kvs.length<sizeLine/\H'=upd H a (.dT (ZjO kvs k v))
theorem Zix.k {H:Hp}{a:Addr}{kvs:List (Key×V)}{k:Key}(e:H a=some (.dK kvs)):Zix H a (kV k) (Zec kvs k):=.inl ⟨kvs,k,.inl e,rfl,rfl⟩
theorem Zix.t {H:Hp}{a b:Addr}{kvs:List (List Key×V)}{k:List Key}(e:H a=some (.dT kvs))(eb:H b=some (.tup (k.map kV))):Zix H a (.ref b) (Zec kvs k):=.inr ⟨kvs,k,b,.inl e,rfl,eb,rfl⟩
theorem ZqE.k {H:Hp}{a:Addr}{kvs:List (Key×V)}{k:Key}{v:V}(e:H a=some (.dK kvs))(hl:kvs.length<sizeLine):ZqE H a (kV k) v (upd H a (.dK (ZjO kvs k v))):=.inl ⟨kvs,k,e,rfl,hl,rfl⟩
theorem ZqE.t {H:Hp}{a b:Addr}{kvs:List (List Key×V)}{k:List Key}{v:V}(e:H a=some (.dT kvs))(eb:H b=some (.tup (k.map kV)))(hl:kvs.length<sizeLine) :
 ZqE H a (.ref b) v (upd H a (.dT (ZjO kvs k v))):=.inr ⟨kvs,k,b,e,rfl,eb,hl,rfl⟩
section
variable {X:Cx}{Xbr:List (Addr×Obj)}{σ:St}{H:Hp}{s:Shared}{a:Addr}{y v:V}{u r:Value}{o:Option V}{A:Around}{E:Value->Shared->Prop}
theorem Inv.big (I:Inv X Xbr σ H s):sysModules<s.heap.objs.size:=by
 have h:mainGlobals<s.heap.objs.size:=(I.mod.glob.keeps I.bk).lt
 exact Nat.lt_trans (by decide) h
theorem Znk {Q:Value->Shared->Prop}(hu:A.units+1<cLine)(I:Inv X Xbr σ H s)(g:Zix H a y (some v))(ry:Zbl y u)(h:∀w' s',Inv X Xbr σ H s'->Zbl v w'->Q w' s') :
 wpAny (model X.prog X.w) A (getItem (.ref a) u) Q E s:=by
 rcases g with ⟨kvs,k,e,ey,l⟩|⟨kvs,k,b,e,ey,eb,l⟩
 ·subst ey
  obtain⟨z,hd,vs,rel,dd⟩:=ZjS I.hok e
  obtain⟨w',hw,rw'⟩:=Zg8.some_of (v:=v) (o:=valueAt vs k) (by rw[l];exact rel.val k)
  exact wpAny_getItem_of (ZlM ry) dd.mapOf hw (h w' _ (I.tok _) rw')
 ·subst ey
  cases (show u=Value.ref b from ry)
  obtain⟨z,hd,xs,rel,dd⟩:=ZjU I.hok e
  obtain⟨w',hw,rw'⟩:=Zg8.some_of (v:=v) (o:=(atKey xs k).map (·.2)) (by rw[l];exact rel.val k)
  obtain⟨p,hp,hp2⟩:=Option.map_eq_some_iff.mp hw
  refine wpAny_getItem_heap (tupleKind_room_in1 hu) (ZeC I.hok eb) dd hp ?_
  rw[hp2];exact h w' _ (I.tok _) rw'
theorem Zvn {Q:Value->Shared->Prop}(hu:A.units+1<cLine)(I:Inv X Xbr σ H s)(g:Zix H a y o)(ry:Zbl y u)(h:∀s',Inv X Xbr σ H s'->Q (.bool o.isSome) s') :
 wpAny (model X.prog X.w) A (compareOp .In u (.ref a)) Q E s:=by
 rcases g with ⟨kvs,k,e,ey,l⟩|⟨kvs,k,b,e,ey,eb,l⟩
 ·subst ey
  obtain⟨z,hd,vs,rel,dd⟩:=ZjS I.hok e
  refine wpAny_in_of (ZlM ry) hd dd.mapOf ?_
  rw[<- (rel.val k).isSome_eq,<- l];exact h _ (I.tok _)
 ·subst ey
  cases (show u=Value.ref b from ry)
  obtain⟨z,hd,xs,rel,dd⟩:=ZjU I.hok e
  refine wpAny_in_heap (tupleKind_room_in1 hu) (ZeC I.hok eb) hd dd ?_
  have q:=(rel.val k).isSome_eq
  rw[XaC]at q;rw[<- q,<- l];exact h _ (I.tok _)
theorem Zs8 {Q:Value->Shared->Prop}(hu:A.units+1<cLine)(I:Inv X Xbr σ H s)(g:Zix H a y o)(ry:Zbl y u)(h:∀s',Inv X Xbr σ H s'->Q (.bool (!o.isSome)) s') :
 wpAny (model X.prog X.w) A (compareOp .NotIn u (.ref a)) Q E s:=by
 rcases g with ⟨kvs,k,e,ey,l⟩|⟨kvs,k,b,e,ey,eb,l⟩
 ·subst ey
  obtain⟨z,hd,vs,rel,dd⟩:=ZjS I.hok e
  refine wpAny_notIn_of (ZlM ry) hd dd.mapOf ?_
  rw[<- (rel.val k).isSome_eq,<- l];exact h _ (I.tok _)
 ·subst ey
  cases (show u=Value.ref b from ry)
  obtain⟨z,hd,xs,rel,dd⟩:=ZjU I.hok e
  refine wpAny_notIn_heap (tupleKind_room_in1 hu) (ZeC I.hok eb) hd dd ?_
  have q:=(rel.val k).isSome_eq
  rw[XaC]at q;rw[<- q,<- l];exact h _ (I.tok _)
theorem ZgV {h':Heap}{t':Nat}{ob:HO}(I:Inv X Xbr σ H s)(mu:Mut (H a))(hs:Heap.SameBut a s.heap h')(he:∃q,h'.get? a=some q)(new:Zcw X.prog X.w (upd H a ob) h' a ob) :
 Inv X Xbr σ (upd H a ob) { s with heap:=h',toks:=t' } :=
 I.write (x:=a) (e:=a) mu (.inl rfl) (fun b q hb z=>(hs.2 b hb).trans z) he new
theorem ZtX {P:Program}{w:World}{H':Hp}{h':Heap}{kvs:List (Key×V)}{vs:List (Key×Value)}(z:kvs.length<=sizeLine)(hd:(a==sysModules)=false)(rel:KV kvs vs)(dd:h'.DictOf (Zbh P w) a vs) :
 Zcw P w H' h' a (.dK kvs):=⟨z,hd,vs,rel,dd⟩
theorem Zm8 {H':Hp}{Q:Unit->Shared->Prop}(hu:A.units+1<cLine)(I:Inv X Xbr σ H s)(g:ZqE H a y v H')(ry:Zbl y u)(rv:Zbl v r)(h:∀s',Inv X Xbr σ H' s'->Q () s') :
 wpAny (model X.prog X.w) A (setItem (.ref a) u r) Q E s:=by
 rcases g with ⟨kvs,k,e,ey,l,eH⟩|⟨kvs,k,b,e,ey,eb,l,eH⟩
 ·subst ey eH
  obtain⟨z,hd,vs,rel,dd⟩:=Zut I.hok e
  have hz:vs.length<=sizeLine:=by rw[<- rel.length];exact z
  have hl:(ZjO kvs k v).length<=sizeLine:=by have:=Zgs kvs k v;omega
  refine wpAny_setItem_pairs (hsz:=hz) (ZlM ry) dd fun h' dd' hs=>h _ ?_
  have he:∃q,h'.get? a=some q:=let ⟨q,_,_,hq,_⟩:=dd';⟨q,hq⟩
  exact ZgV I (by rw[e];exact True.intro) hs he (ZtX hl hd (rel.put k rv) dd')
 ·subst ey eH
  cases (show u=Value.ref b from ry)
  obtain⟨z,hd,xs,rel,dd⟩:=ZrV I.hok e
  have hz:xs.length<=sizeLine:=by rw[<- Paired.length rel];exact z
  have hl:(ZjO kvs k v).length<=sizeLine:=by have:=Zgs kvs k v;omega
  refine wpAny_setItem_heap (hsz:=hz) (tupleKind_room_in1 hu) (ZeC I.hok eb) dd fun h' dd' hs=>h _ ?_
  obtain⟨q,es,ep,hq,h2,h3,h4,_,h5⟩:=dd'
  refine ZgV I (by rw[e];exact True.intro) hs ⟨q,hq⟩ ⟨hl,hd,_,(rel.put k eb rv).keeps fun c ys ec=>?_,q,es,ep,hq,h2,h3,h4,h5⟩
  rw[Zak (ZtH ec e (fun z=>nomatch z))]
  exact ec
end
section
variable {X:Cx}{Xbr:List (Addr×Obj)}{σ:St}{H:Hp}{s:Shared}{a:Addr}{kvs:List (Key×V)}{k:Key}{u:Value}{A:Around}{E:Value->Shared->Prop}
end
def Zu1 (i:Expr):Prop := ∀ov iv,subscripted i false ov iv=operate [ov,iv] (getItem ov iv)
theorem ZnJ {prog:Program}{w:World}{A:Around}{E:Value->Shared->Prop}{s:Shared}{env:Env}{value slice:Expr}{pos:Pos}{T id:String}{Q:Value->Shared->Prop}
 (hl:typeLookup (.type T) "__getitem__"=pure (some (.builtin id))) (hs:Zu1 slice)
 (h:wpAny (model prog w) A (eval value env) (fun o s₁=>wpAny (model prog w) A (eval slice env) (fun i s₂=>s₂.TypeIs o T/\wpAny (model prog w) A (getItem o i) Q E s₂) E s₁) E s) :
 wpAny (model prog w) A (eval (.Subscript value slice pos) env) Q E s:=by
 refine Subscript_ (wpAny_mono h (fun o s₁ h₁=>wpAny_mono h₁ (fun i s₂ h₂=>?_) fun _ _ x=>x) fun _ _ x=>x)
 obtain⟨hT,h₂⟩:=h₂
 unfold subscriptTail;refine Xh ?_
 rw[getitemInPython_of_ne hT.not_modules];refine Xh (wpAny_specialOf hT hl ?_)
 have fin:wpAny (model prog w) A (subscripted slice false o i) (fun r s₃=>wpAny (model prog w) A (letTemporaryGo value o r >>= fun _=>pure r) Q E s₃) E s₂:=by
  rw[hs o i];exact wpAny_operating (wpAny_mono h₂ (fun r s₃ h₃=>Xh (wpAny_letTemporaryGo (XB h₃))) fun _ _ x=>x)
 first
  |exact XB (Xh fin)
  |exact Xh (XB (Xh fin))
  |exact Xh fin
theorem Zk6 {X:Cx} {Xbr:List (Addr×Obj)} {σ:St} {H:Hp} {s:Shared} {a:Addr} {y:V} {o:Option V} (I:Inv X Xbr σ H s) (g:Zix H a y o):s.TypeIs (.ref a) "dict" := by
 rcases g with ⟨kvs,k,e,_,_⟩|⟨kvs,k,b,e,_,_,_⟩
 ·obtain⟨_,_,vs,_,dd⟩:=ZjS I.hok e
  exact dd.typeIs
 ·obtain⟨_,_,xs,_,dd⟩:=ZjU I.hok e
  exact dd.typeIs
def ZrJ (td ty:TE):TE:=fun σ H Q=>td σ H fun x H1=>ty σ H1 fun y H2=>∃a v,x=.ref a/\Zix H2 a y (some v)/\Q v H2
def ZuE (ty td:TE):TE:=fun σ H Q=>ty σ H fun y H1=>td σ H1 fun x H2=>∃a o,x=.ref a/\Zix H2 a y o/\Q (.bl o.isSome) H2
def ZmV (ty td:TE):TE:=fun σ H Q=>ty σ H fun y H1=>td σ H1 fun x H2=>∃a o,x=.ref a/\Zix H2 a y o/\Q (.bl (!o.isSome)) H2
def Zs6 (td ty tv:TE):TS:=fun D σ H=>tv σ H fun v H1=>td σ H1 fun x H2=>ty σ H2 fun y H3=>∃a H4,x=.ref a/\ZqE H3 a y v H4/\D.nx σ H4
section
variable {X:Cx}{o i e value:Expr}{pos pos' tpos:Pos}{td ty tv:TE}
theorem Zk0 (hu:X.A.units+1<cLine)(ho:PE X o td)(hi:PE X i ty)(hs:Zu1 i):PE X (.Subscript o i pos) (ZrJ td ty):=by
 intro Xbr s σ H Q I h;refine ZnJ PySem.F.slot_dict_getitem.lookup hs (thn (ho Xbr s σ H _ I h) fun u s1 ⟨x,H1,I1,rx,q1⟩=>thn (hi Xbr s1 σ H1 _ I1 q1) fun iv s2 ⟨y,H2,I2,ry,a,v,ex,g,q2⟩=>?_)
 subst ex;obtain rfl:u=Value.ref a:=rx
 exact⟨Zk6 I2 g,Znk hu I2 g ry fun w' s3 I3 rw'=>⟨v,H2,I3,rw',q2⟩⟩
theorem Zq6 (hu:X.A.units+1<cLine)(hi:PE X i ty)(ho:PE X o td):PC X .In i o (ZuE ty td):=by
 intro Xbr s σ H Q I h;refine thn (hi Xbr s σ H _ I h) fun iv s1 ⟨y,H1,I1,ry,q1⟩=>thn (ho Xbr s1 σ H1 _ I1 q1) fun u s2 ⟨x,H2,I2,rx,a,ov,ex,g,q2⟩=>?_
 subst ex;obtain rfl:u=Value.ref a:=rx
 exact Zvn hu I2 g ry fun s3 I3=>⟨.bl ov.isSome,H2,I3,rfl,q2⟩
theorem Zob (hu:X.A.units+1<cLine)(hi:PE X i ty)(ho:PE X o td):PC X .NotIn i o (ZmV ty td):=by
 intro Xbr s σ H Q I h;refine thn (hi Xbr s σ H _ I h) fun iv s1 ⟨y,H1,I1,ry,q1⟩=>thn (ho Xbr s1 σ H1 _ I1 q1) fun u s2 ⟨x,H2,I2,rx,a,ov,ex,g,q2⟩=>?_
 subst ex;obtain rfl:u=Value.ref a:=rx
 exact Zs8 hu I2 g ry fun s3 I3=>⟨.bl (!ov.isSome),H2,I3,rfl,q2⟩
theorem Zow (hu:X.A.units+1<cLine)(ho:PE X o td)(hi:PE X i ty)(hv:PE X value tv)(hs:swapsWith value (some (.Subscript o i pos')) pos.line X.env=pure false) :
 PS X (.Assign [.Subscript o i pos'] value pos) (Zs6 td ty tv):=by
 intro Xbr s σ H D I h;refine wpAny_Assign_Subscript (thn (hv Xbr s σ H _ I h) fun r s1 ⟨v,H1,I1,rv,q1⟩=>thn (ho Xbr s1 σ H1 _ I1 q1) fun u s2 ⟨x,H2,I2,rx,q2⟩=>thn (hi Xbr s2 σ H2 _ I2 q2) fun iv s3 ⟨y,H3,I3,ry,a,H4,ex,g,q3⟩=>?_) hs
 subst ex;obtain rfl:u=Value.ref a:=rx
 exact Zm8 hu I3 g ry rv fun s4 I4=>⟨σ,H4,I4,q3⟩
end
theorem Zpd {P:Program} {w:World} {H:Hp} (h:Heap) (hb:sysModules<h.objs.size):Zcw P w H (h.push { cls:=.type "dict",data:=.dict #[] }) h.objs.size (.dK []) :=
 ⟨X0 _,beq_eq_false_iff_ne.mpr (Ne.symm (Xs hb)),[],.nil,Heap.DictOf.new h⟩
theorem ZkV {P:Program} {w:World} {H:Hp} (h:Heap) (hb:sysModules<h.objs.size):Zcw P w H (h.push { cls:=.type "dict",data:=.dict #[] }) h.objs.size (.dT []) :=
 ⟨X0 _,beq_eq_false_iff_ne.mpr (Ne.symm (Xs hb)),[],.nil,_,#[],0,XZ _ rfl,⟨rfl,rfl,rfl⟩,rfl,rfl,XaW⟩
def Zq7:TE:=fun _ H Q=>∀p,H p=none->Q (.ref p) (upd H p (.dK []))
def ZtU:TE:=fun _ H Q=>∀p,H p=none->Q (.ref p) (upd H p (.dT []))
section
variable {X:Cx}{pos:Pos}
theorem Zqi:PE X (.Dict [] [] pos) Zq7:=fun Xbr s σ H Q I h =>
 wpAny_Dict_empty ⟨.ref s.heap.objs.size,_,I.laid (a:=s.heap.objs.size) (o:=.dK []) (t':=s.toks) (fun _ _ q=>Xv _ q) (Xw _) (Zpd s.heap I.big),rfl,h _ (I.hok.fresh (Xw _))⟩
theorem ZpY:PE X (.Dict [] [] pos) ZtU:=fun Xbr s σ H Q I h =>
 wpAny_Dict_empty ⟨.ref s.heap.objs.size,_,I.laid (a:=s.heap.objs.size) (o:=.dT []) (t':=s.toks) (fun _ _ q=>Xv _ q) (Xw _) (ZkV s.heap I.big),rfl,h _ (I.hok.fresh (Xw _))⟩
end
structure M2 (X:Cx)(o:Expr)(m:Str)(apos:Pos)(e f:Expr)(cpos:Pos):Prop where
 base:attributeBase o m X.env (eval o X.env)=eval o X.env
 few:((backTo cpos (starEach [e,f] X.env)).all (fun x => !x.1)&&(backToKw cpos (keywordEach [] X.env)).all (fun x=>x.1.isSome)
  && decide (([e,f]:List Expr).length+([]:List Keyword).length+(if ([]:List Keyword).isEmpty then 0 else 1)<30))=true
 line:(apos.endLine==cpos.line)=true
 trees:backTo cpos (starEach [e,f] X.env)=[(false,eval e X.env),(false,eval f X.env)]
def IsD (H:Hp)(a:Addr):Prop:=(∃kvs,Rd H a (.dK kvs))\/∃kvs,Rd H a (.dT kvs)
theorem ZqO {X:Cx}{Xbr:List (Addr×Obj)}{σ:St}{H:Hp}{s:Shared}{a:Addr}(I:Inv X Xbr σ H s)(d:IsD H a) :
 s.TypeIs (.ref a) "dict" /\ (∀b,Value.ref a=.ref b->∃ob,s.heap.get? b=some ob/\ob.dict=none)/\(a==sysModules)=false:=by
 rcases d with ⟨kvs,e⟩|⟨kvs,e⟩
 ·obtain⟨_,hd,vs,_,dd⟩:=ZjS I.hok e
  refine⟨dd.typeIs,fun b q=>?_,hd⟩
  cases q
  obtain⟨ob,_,_,h1,h2,_⟩:=dd
  exact⟨ob,h1,h2.2.1⟩
 ·obtain⟨_,hd,xs,_,dd⟩:=ZjU I.hok e
  refine⟨dd.typeIs,fun b q=>?_,hd⟩
  cases q
  obtain⟨ob,_,_,h1,h2,_⟩:=dd
  exact⟨ob,h1,h2.2.1⟩
section
variable {X:Cx}{Xbr:List (Addr×Obj)}{σ:St}{H:Hp}{s:Shared}{a:Addr}{y d:V}{u r:Value}{o:Option V}{A:Around}{E:Value->Shared->Prop}
theorem ZtI {Q:Value->Shared->Prop}(hu:A.units+1<cLine)(I:Inv X Xbr σ H s)(g:Zix H a y o)(ry:Zbl y u)(rd:Zbl d r)(h:∀w' s',Inv X Xbr σ H s'->Zbl (o.getD d) w'->Q w' s') :
 wpAny (model X.prog X.w) A (call (.builtin "dict.get") [.ref a,u,r]) Q E s:=by
 rcases g with ⟨kvs,k,e,ey,l⟩|⟨kvs,k,b,e,ey,eb,l⟩
 ·subst ey
  obtain⟨z,hd,vs,rel,dd⟩:=ZjS I.hok e
  refine call_meetsIn PySem.F.slot_dict_get dd.typeIs PySem.F.entry_dict_get (PySem.F.args_dict_get_3 _ _ _) (meets_dict_get_default (Zbh X.prog X.w) a (ZlM ry) hd r) ⟨_,dd.mapOf,h _ _ (I.tok _) ?_⟩
  rw[l];exact(rel.val k).getD rd
 ·subst ey
  cases (show u=Value.ref b from ry)
  obtain⟨z,hd,xs,rel,dd⟩:=ZjU I.hok e
  refine call_meetsIn PySem.F.slot_dict_get dd.typeIs PySem.F.entry_dict_get (PySem.F.args_dict_get_3 _ _ _) (meetsH_dict_get_default (tupleKind (Zbh X.prog X.w)) a b hd r) ⟨tupleKind_room_in1 hu,k,xs,ZeC I.hok eb,dd,h _ _ (I.tok _) ?_⟩
  rw[l];exact(rel.val k).getD rd
end
def ZqW (td ty tx:TE):TE:=fun σ H Q=>td σ H fun x H1=>∃a,x=.ref a/\IsD H1 a/\ty σ H1 fun y H2=>tx σ H2 fun z H3=>∃o,Zix H3 a y o/\Q (o.getD z) H3
section
variable {X:Cx}{o e f:Expr}{apos cpos:Pos}{td ty tx:TE}
theorem Zpl (hu:X.A.units+1<cLine) (ho:PE X o td) (he:PE X e ty) (hf:PE X f tx) (m:M2 X o "get" apos e f cpos):PE X (.Call (.Attribute o "get" apos) [e,f] [] cpos) (ZqW td ty tx):=by
 intro Xbr s σ H Q I h;refine wpAny_Call_method m.base m.few m.line PySem.F.plainAttrs_dict PySem.F.slot_dict_get PySem.F.type_dict_get (thn (ho Xbr s σ H _ I h) fun u s1 ⟨x,H1,I1,rx,a,ex,d,q1⟩=>?_)
 subst ex;obtain rfl:u=Value.ref a:=rx
 obtain⟨t1,t2,_⟩:=ZqO I1 d
 refine⟨t1,t2,?_⟩
 rw[m.trees];refine Calls.callWith_builtin rfl (Calls.evalArgs_plain (Calls.spliced_cons (thn (he Xbr s1 σ H1 _ I1 q1) fun iv s2 ⟨y,H2,I2,ry,q2⟩ =>
  Calls.spliced_cons (thn (hf Xbr s2 σ H2 _ I2 q2) fun fv s3 ⟨z,H3,I3,rz,ov,g,q3⟩=>Calls.spliced_nil ?_))))
 exact ZtI hu I3 g ry rz fun w' s4 I4 rw'=>⟨_,H3,I4,rw',q3⟩
end
section
variable {X:Cx}{Xbr:List (Addr×Obj)}{σ:St}{H:Hp}{s:Shared}{a:Addr}{kvs:List (Key×V)}{A:Around}{E:Value->Shared->Prop}
end
section
variable {X:Cx}{Xbr:List (Addr×Obj)}{σ:St}{H:Hp}{s:Shared}{a:Addr}{y:V}{u:Value}{A:Around}{E:Value->Shared->Prop}
end
end L2
namespace Mir
theorem Zjl {g:Nat->Int}{l:Nat}(h:∀c,c<=l->g c=0):∀m,Zas g (l+1+m)=Zas (fun j=>g (l+1+j)) m
 |0=>by
   show Zas g (l+1)=0
   rw[Zag (g:=fun _=>0) fun k hk=>h k (by omega),Za8]
 |m+1=>by
   show Zas g (l+1+m)+g (l+1+m)=_
   rw[Zjl h m];rfl
theorem ZfO (y:Yd)(b own:Nat->Int)(l:Nat):∀m,ZbH y b own l m=Zas (fun j=>if Zb9 y (l+1+j)=some l then Zba y b own (l+1+j) else 0) m
 |0=>rfl
 |m+1=>by simp only[ZbH,Zas];rw[ZfO y b own l m]
theorem Zjf {y:Yd}(ok:y.Ok){c l:Nat}(hc:c<y.ls.length)(e:Zb9 y c=some l):l<c:=by
 by_cases h0:c=0
 ·subst h0;rw[ok.up0]at e;cases e
 ·obtain⟨a,ea,la⟩:=ok.ups c (by omega) hc
  rw[ea]at e;cases e
  exact la
theorem Zjq {y:Yd}(ok:y.Ok)(b own:Nat->Int){l:Nat}(hl:l<y.ls.length):ZdY y b own l=own l+Zas (fun c=>if Zb9 y c=some l then Zba y b own c else 0) y.ls.length:=by
 rw[Zqn ok,ZfO];have e:y.ls.length=l+1+(y.ls.length-1-l):=by omega
 have h:=Zjl (g:=fun c=>if Zb9 y c=some l then Zba y b own c else 0) (l:=l) (fun c hc=>Xa fun z=>by
  have:=Zjf ok (by omega) z
  omega) (y.ls.length-1-l)
 rw[<- e]at h;rw[h]
section
variable (y:Yd)(b own:Nat->Int)
end
section
variable {y:Yd}{b own:Nat->Int}
theorem Zia (ok:y.Ok){c a:Nat}(hc:c<y.ls.length)(e:Zb9 y c=some a):upL y c=c::upL y a:=by
 have:=Zjf ok hc e
 rw[Zoa ok hc,Xa (by omega),e];rfl
theorem Zgj (ok:y.Ok):upL y 0=[0]:=by
 have:=ok.l1
 rw[Zoa ok (by omega),Xc rfl]
end
end Mir
namespace Mir
def ind (p:Prop) [Decidable p]:Int:=if p then 1 else 0
theorem Zlv {y:Yd}(ok:y.Ok)(l:Nat)(hl:l<y.ls.length):∀n j,j<n->j<y.ls.length ->
 ind (l∈upL y j)=ind (j=l)+Zas (fun c=>if Zb9 y c=some l then ind (c∈upL y j) else 0) y.ls.length
 |0,j,h,_=>by omega
 |n+1,j,h,hj=>by
   by_cases e:j=l
   ·subst e
    have z:Zas (fun c=>if Zb9 y c=some j then ind (c∈upL y j) else 0) y.ls.length=0:=by
     rw[Zag (g:=fun _=>0) fun c hc=>?_,Za8]
     by_cases u:Zb9 y c=some j
     ·have:=Zjf ok hc u
      have w:¬c∈upL y j:=fun z=>by have:=Zle y j c z;omega
      simp[u,ind,w]
     ·simp[u]
    rw[z];simp[ind,Zgo]
   ·by_cases j0:j=0
    ·subst j0
     have w:¬l∈upL y 0:=fun z=>by rw[Zgj ok]at z;simp at z;exact e z.symm
     have z:Zas (fun c=>if Zb9 y c=some l then ind (c∈upL y 0) else 0) y.ls.length=0:=by
      rw[Zag (g:=fun _=>0) fun c hc=>?_,Za8]
      by_cases u:Zb9 y c=some l
      ·have c0:¬c∈upL y 0:=fun z=>by
        rw[Zgj ok]at z;simp at z
        subst z;rw[ok.up0]at u;cases u
       simp[u,ind,c0]
      ·simp[u]
     rw[z];simp[ind,w,e]
    ·obtain⟨a,ea,la⟩:=ok.ups j (by omega) hj
     have ih:=Zlv ok l hl n a (by omega) (by omega)
     have m1:(l∈upL y j)↔(l∈upL y a):=Zos ok (by omega) hj ea l (fun z=>e z.symm)
     have e1:ind (l∈upL y j)=ind (l∈upL y a):=by unfold ind;simp only[m1]
     have e2:∀c,c<y.ls.length->(if Zb9 y c=some l then ind (c∈upL y j) else 0)=(if Zb9 y c=some l then ind (c∈upL y a) else 0)+(if c=j then ind (a=l) else 0):=by
      intro c hc;by_cases z:c=j
      ·subst z
       have w:¬c∈upL y a:=fun q=>by have:=Zle y a c q;omega
       rw[ea];by_cases q:a=l
       ·subst q;simp[ind,Zgo,w]
       ·have:¬some a=some l:=fun z=>q (by injection z)
        simp[ind,q]
      ·have m2:(c∈upL y j)↔(c∈upL y a):=Zos ok (by omega) hj ea c z
       have:ind (c∈upL y j)=ind (c∈upL y a):=by unfold ind;simp only[m2]
       rw[this,Xa z,Xa1]
     rw[e1,ih,Zag e2,Zbt,Zd3,Xc hj];have:ind (j=l)=0:=by unfold ind;rw[Xa e]
     omega
def Zeb (y:Yd)(m:Nat)(ln:Nat->Nat)(f:Nat->Int)(l:Nat):Int:=Zas (fun k=>f k*ind (l∈upL y (ln k))) m
theorem Zeq {y:Yd}(ok:y.Ok){m:Nat}{ln:Nat->Nat}(hln:∀k,k<m->ln k<y.ls.length)(f:Nat->Int){l:Nat}(hl:l<y.ls.length) :
 Zeb y m ln f l=Zas (fun k=>f k*ind (ln k=l)) m+Zas (fun c=>if Zb9 y c=some l then Zeb y m ln f c else 0) y.ls.length:=by
 unfold Zeb;have h1:∀k,k<m->f k*ind (l∈upL y (ln k))=f k*ind (ln k=l)+Zas (fun c=>if Zb9 y c=some l then f k*ind (c∈upL y (ln k)) else 0) y.ls.length:=by
  intro k hk;rw[Zlv ok l hl _ (ln k) (XaE _) (hln k hk),XaV,<- Zc5];congr 1
  refine Zag fun c _=>?_
  by_cases u:Zb9 y c=some l
  ·rw[Xc u,Xc u]
  ·rw[Xa u,Xa u,XaM]
 rw[Zag h1,Zbt,Zeu];congr 1
 refine Zag fun c _=>?_
 by_cases u:Zb9 y c=some l
 ·simp only[Xc u]
 ·simp only[Xa u]
  rw[Za8]
theorem no_more {y:Yd}(ok:y.Ok){m:Nat}{ln:Nat->Nat}(hln:∀k,k<m->ln k<y.ls.length){f:Nat->Int}{b own:Nat->Int}(ho:∀l,l<y.ls.length->Zas (fun k=>f k*ind (ln k=l)) m<=own l)(hb:∀l,l<y.ls.length->Zeb y m ln f l<=b l) :
 ∀n l,y.ls.length<=l+n->l<y.ls.length->Zeb y m ln f l<=Zba y b own l
 |0,l,h,hl=>by omega
 |n+1,l,h,hl=>by
   have h1:Zeb y m ln f l<=ZdY y b own l:=by
    rw[Zeq ok hln f hl,Zjq ok b own hl];refine Int.add_le_add (ho l hl) (ZaW fun c hc=>?_)
    by_cases u:Zb9 y c=some l
    ·rw[Xc u,Xc u]
     have:=Zjf ok hc u
     exact no_more ok hln ho hb n c (by omega) hc
    ·rw[Xa u,Xa u]
     exact Xak _
   have h2:=hb l hl
   unfold Zba;omega
theorem Zeo {m:Nat}(f:Nat->Int):∀{sm:List Nat},sm.Nodup->(∀k∈sm,k<m)->(sm.map f).sum=Zas (fun k=>if k∈sm then f k else 0) m
 |[],_,_=>by
   rw[Zag (g:=fun _=>0) fun k _=>?_,Za8]
   ·rfl
   ·simp
 |k::r,hd,hm=>by
   obtain⟨h1,h2⟩:=XL.mp hd
   rw[Xr,XaJ,Zeo f h2 fun j hj=>hm j (Xd _ hj)]
   have:∀j,j<m->(if j∈k::r then f j else 0)=(if j=k then f k else 0)+(if j∈r then f j else 0):=by
    intro j _;by_cases z:j=k
    ·subst z;simp[h1]
    ·simp[z]
   rw[Zag this,Zbt,Zd3,Xc (hm k Xb)]
end Mir
namespace Mir
theorem ZoP {y:Yd}(ok:y.Ok):∀n j,j<n->j<y.ls.length->0∈upL y j
 |0,j,h,_=>by omega
 |n+1,j,h,hj=>by
   by_cases j0:j=0
   ·subst j0;exact Zgo y 0
   ·obtain⟨a,ea,la⟩:=ok.ups j (by omega) hj
    rw[Zia ok hj ea];exact Xd _ (ZoP ok n a (by omega) (by omega))
def Zgg (f:Nat->Nat->Int)(a t:Nat)(v:Int):Nat->Nat->Int:=fun k s=>if k=a/\s=t then v else f k s
def Zdg (y:Yd)(line t:Nat)(v:Int)(g:Nat->Nat->Int):Nat->Nat->Int:=fun l s=>if s=t/\l∈upL y line then g l s+v else g l s
theorem ZhT {f:Nat->Int}{t:Nat}{v:Int}:∀{n:Nat},t<n->Zas (fun s=>if s=t then v else f s) n=Zas f n-f t+v
 |0,h=>by omega
 |n+1,h=>by
   simp only[Zas];by_cases z:t=n
   ·subst z
    rw[Xc rfl,Zag (g:=f) fun k hk=>Xa (by omega)]
    omega
   ·rw[ZhT (n:=n) (by omega),Xa (fun q=>z q.symm)]
    omega
structure FSt where
 f:Nat->Nat->Int
 g:Nat->Nat->Int
 num:Int
section
variable (y:Yd)(lf:(Nat->Nat->Int)->Nat->Nat->Int)(gs:Nat->Gs)
def Zg3 (a t:Nat)(s:FSt):Int:=min (gs a).most (min ((gs a).want-Zas (s.f a) y.T) (lf s.g (gs a).line t))*min (s.num%11) 8/8
def ZmT (a t:Nat)(s:FSt):FSt:=⟨Zgg s.f a t (Zg3 y lf gs a t s),Zdg y (gs a).line t (Zg3 y lf gs a t s) s.g,s.num/11⟩
def ZdQ (a:Nat)(s:FSt):Nat->FSt
 |0=>s
 |i+1=>ZmT y lf gs a ((gs a).first+i) (ZdQ a s i)
def ZiN (a:Nat)(s:FSt):FSt:=ZdQ y lf gs a s ((gs a).last+1-(gs a).first)
structure FInv (m:Nat)(s:FSt):Prop where
 cell:∀k,k<m->∀t,t<y.T->0<=s.f k t/\s.f k t<=if ZaY (gs k) (t:Int)=true then (gs k).most else 0
 load:∀l,l<y.ls.length->∀t,t<y.T->Zeb y m (fun k=>(gs k).line) (fun k=>s.f k t) l<=s.g l t/\s.g l t<=Za9 y l t
 want:∀k,k<m->Zas (s.f k) y.T<=(gs k).want
 num:0<=s.num
end
section
variable {y:Yd}{lf:(Nat->Nat->Int)->Nat->Nat->Int}{gs:Nat->Gs}{m:Nat}
theorem Zt7 (ok:y.Ok)(hgs:∀k,k<m->(gs k).Ok y)(hlf:∀g line t,(∀l∈upL y line,lf g line t<=Za9 y l t-g l t)/\∃l∈upL y line,lf g line t=Za9 y l t-g l t){s:FSt}(I:FInv y gs m s){a t:Nat}(ha:a<m)(ht:t<y.T) :
 0<=Zg3 y lf gs a t s/\Zg3 y lf gs a t s<=(gs a).most/\Zg3 y lf gs a t s<=(gs a).want-Zas (s.f a) y.T/\∀l∈upL y (gs a).line,Zg3 y lf gs a t s<=Za9 y l t-s.g l t:=by
 have gok:=hgs a ha
 obtain⟨h1,u,hu,h2⟩:=hlf s.g (gs a).line t
 have w:=I.want a ha
 have bu:=(I.load u (ZsT ok gok.ln hu) t ht).2
 have m1:=gok.m1
 have n0:=I.num
 have q0:0<=min (s.num%11) 8/\min (s.num%11) 8<=8:=by omega
 have a0:0<=min (gs a).most (min ((gs a).want-Zas (s.f a) y.T) (lf s.g (gs a).line t)):=by omega
 have k1:min (gs a).most (min ((gs a).want-Zas (s.f a) y.T) (lf s.g (gs a).line t))*min (s.num%11) 8<=min (gs a).most (min ((gs a).want-Zas (s.f a) y.T) (lf s.g (gs a).line t))*8:=Xu q0.2 a0
 have k0:0<=min (gs a).most (min ((gs a).want-Zas (s.f a) y.T) (lf s.g (gs a).line t))*min (s.num%11) 8:=Xal a0 q0.1
 unfold Zg3;generalize min (gs a).most (min ((gs a).want-Zas (s.f a) y.T) (lf s.g (gs a).line t))*min (s.num%11) 8=X at k0 k1;refine⟨by omega,by omega,by omega,fun l hl=>?_⟩
 have:=h1 l hl
 omega
theorem Zqs (ok:y.Ok)(hgs:∀k,k<m->(gs k).Ok y)(hlf:∀g line t,(∀l∈upL y line,lf g line t<=Za9 y l t-g l t)/\∃l∈upL y line,lf g line t=Za9 y l t-g l t){s:FSt}(I:FInv y gs m s){a t:Nat}(ha:a<m)(h1:(gs a).first<=t)(h2:t<=(gs a).last):FInv y gs m (ZmT y lf gs a t s):=by
 have gok:=hgs a ha
 have ht:t<y.T:=by have:=gok.lt;omega
 obtain⟨a0,a1,a2,a3⟩:=Zt7 ok hgs hlf I ha ht
 unfold ZmT;generalize Zg3 y lf gs a t s=v at a0 a1 a2 a3;have th:ZaY (gs a) (t:Int)=true:=by simp[ZaY];omega
 refine⟨fun k hk s' hs'=>?_,fun l hl s' hs'=>?_,fun k hk=>?_,by have:=I.num;show 0<=s.num/11;omega⟩
 ·dsimp only[Zgg]
  by_cases z:k=a/\s'=t
  ·obtain⟨rfl,rfl⟩:=z
   rw[Xc ⟨rfl,rfl⟩,Xc th];exact⟨a0,a1⟩
  ·rw[Xa z]
   exact I.cell k hk s' hs'
 ·dsimp only
  obtain⟨b1,b2⟩:=I.load l hl s' hs'
  by_cases z:s'=t
  ·subst z
   have e:Zeb y m (fun k=>(gs k).line) (fun k=>Zgg s.f a s' v k s') l=Zeb y m (fun k=>(gs k).line) (fun k=>s.f k s') l-s.f a s'*ind (l∈upL y (gs a).line)+v*ind (l∈upL y (gs a).line):=by
    unfold Zeb;have:∀k,k<m->Zgg s.f a s' v k s'*ind (l∈upL y (gs k).line)=if k=a then v*ind (l∈upL y (gs a).line) else s.f k s'*ind (l∈upL y (gs k).line):=by
     intro k _;unfold Zgg;by_cases q:k=a
     ·subst q;simp
     ·simp[q]
    rw[Zag this,ZhT (f:=fun k=>s.f k s'*ind (l∈upL y (gs k).line)) ha]
   rw[e];have c0:=(I.cell a ha s' hs').1
   unfold Zdg ind;by_cases q:l∈upL y (gs a).line
   ·have:=a3 l q
    simp only[q,and_self,if_true,Xaj];omega
   ·simp only[q,and_false,if_false,XaM]
    omega
  ·have e:Zeb y m (fun k=>(gs k).line) (fun k=>Zgg s.f a t v k s') l=Zeb y m (fun k=>(gs k).line) (fun k=>s.f k s') l:=by
    unfold Zeb;refine Zag fun k _=>?_
    have w:¬(k=a/\s'=t):=fun q=>z q.2
    simp[Zgg,w]
   rw[e];have w:¬(s'=t/\l∈upL y (gs a).line):=fun q=>z q.1
   unfold Zdg;rw[Xa w];exact⟨b1,b2⟩
 ·dsimp only
  by_cases q:k=a
  ·subst q
   have e:Zas (Zgg s.f k t v k) y.T=Zas (s.f k) y.T-s.f k t+v:=by
    have:∀s',s'<y.T->Zgg s.f k t v k s'=if s'=t then v else s.f k s':=fun s' _=>by unfold Zgg;simp
    rw[Zag this,ZhT ht]
   rw[e];have:=(I.cell k hk t ht).1
   omega
  ·have e:Zas (Zgg s.f a t v k) y.T=Zas (s.f k) y.T:=Zag fun s' _=>by unfold Zgg;rw[Xa (fun z=>q z.1)]
   rw[e];exact I.want k hk
theorem Zf1 (ok:y.Ok)(hgs:∀k,k<m->(gs k).Ok y)(hlf:∀g line t,(∀l∈upL y line,lf g line t<=Za9 y l t-g l t)/\∃l∈upL y line,lf g line t=Za9 y l t-g l t){s:FSt}(I:FInv y gs m s){a:Nat}(ha:a<m):∀i,i<=(gs a).last+1-(gs a).first->FInv y gs m (ZdQ y lf gs a s i)
 |0,_=>I
 |i+1,hi=>Zqs ok hgs hlf (Zf1 ok hgs hlf I ha i (by omega)) ha (by omega) (by omega)
theorem Znz (gl:List Gs)(t:Int)(l:Nat):∀sm:List Nat,Zbf gl t l sm=(sm.map (wgt gl t l)).sum
 |[]=>rfl
 |k::r=>by
   rw[Xr,XaJ,<- Znz gl t l r,<- Zop,<- ZcG];rfl
theorem Ztb {gl:List Gs}(ok:y.Ok)(hgs:∀k,k<m->(gs k).Ok y)(hgl:∀k,k<m->gl[k]?=some (gs k)){s:FSt}(I:FInv y gs m s){sm:List Nat}(nd:sm.Nodup)(hm:∀k∈sm,k<m){t:Nat}(ht:t<y.T) :
 (sm.map fun k=>s.f k t).sum<=Zba y (fun k=>Za9 y k t) (fun l=>Zbf gl (t:Int) l sm) 0:=by
 have l1:=ok.l1
 rw[Zeo (m:=m) _ nd hm]
 have h:=no_more (y:=y) ok (m:=m) (ln:=fun k=>(gs k).line) (fun k hk=>(hgs k hk).ln) (f:=fun k=>if k∈sm then s.f k t else 0) (b:=fun k=>Za9 y k t) (own:=fun l=>Zbf gl (t:Int) l sm) ?ho ?hb y.ls.length 0 (by omega) (by omega)
 case ho =>
  intro l hl;rw[Znz,Zeo (m:=m) _ nd hm]
  refine ZaW fun k hk=>?_
  obtain⟨c0,c1⟩:=I.cell k hk t ht
  by_cases z:k∈sm
  ·rw[Xc z,Xc z]
   unfold wgt ind;rw[hgl k hk];dsimp only;have m1:=(hgs k hk).m1
   by_cases q:(gs k).line=l
   ·by_cases r:ZaY (gs k) (t:Int)=true
    ·rw[Xc r]at c1
     simp only[q,r,and_self,if_true,Xaj];exact c1
    ·rw[Xa r]at c1
     simp only[q,r,and_false,if_true,if_false,Xaj];exact c1
   ·simp only[q,false_and,if_false,XaM]
    exact Xak _
  ·rw[Xa z,Xa z,Int.zero_mul]
   exact Xak _
 case hb =>
  intro l hl;obtain⟨b1,b2⟩:=I.load l hl t ht
  refine XaN (XaN ?_ b1) b2
  unfold Zeb;refine ZaW fun k hk=>?_
  have c0:=(I.cell k hk t ht).1
  by_cases z:k∈sm
  ·simp only[z,if_true]
   exact Xak _
  ·simp only[z,if_false,Int.zero_mul]
   unfold ind;split<;>omega
 refine XaN (Int.le_of_eq ?_) h
 unfold Zeb;refine Zag fun k hk=>?_
 have:=ZoP ok _ (gs k).line (XaE _) (hgs k hk).ln
 simp[ind,this]
end
end Mir
namespace Mir
structure Fr where
 t:Nat
 b:Nat
 deriving DecidableEq
def Fr.Ok (f:Fr):Prop:=0<f.b/\Nat.gcd f.t f.b=1
def phi (B:Nat)(f:Fr):Nat:=f.t*(B/f.b)
theorem Zin {B:Nat}{f:Fr}(h:f.b∣B):phi B f*f.b=f.t*B:=by
 unfold phi;rw[XaP,Nat.div_mul_cancel h]
theorem ZjC {B:Nat}(hB:0<B){f g:Fr}(hf:f.b∣B)(hg:g.b∣B)(f0:0<f.b)(g0:0<g.b):g.t*f.b<f.t*g.b↔phi B g<phi B f:=by
 have e1:=Zin hf
 have e2:=Zin hg
 have p:0<f.b*g.b:=Nat.mul_pos f0 g0
 have k1:phi B g*(f.b*g.b)=(g.t*f.b)*B:=by
  rw[XaZ f.b g.b,<- XaP,e2,XaP,XaZ B,<- XaP]
 have k2:phi B f*(f.b*g.b)=(f.t*g.b)*B:=by
  rw[<- XaP,e1,XaP,XaZ B,<- XaP]
 constructor
 ·intro h
  have:(g.t*f.b)*B<(f.t*g.b)*B:=Nat.mul_lt_mul_of_pos_right h hB
  rw[<- k1,<- k2]at this;exact Nat.lt_of_mul_lt_mul_right this
 ·intro h
  have:phi B g*(f.b*g.b)<phi B f*(f.b*g.b):=Nat.mul_lt_mul_of_pos_right h p
  rw[k1,k2]at this;exact Nat.lt_of_mul_lt_mul_right this
theorem ZuK {f g:Fr}(hf:f.Ok)(hg:g.Ok)(h:f.t*g.b=g.t*f.b):f=g:=by
 have d1:f.b∣g.b:=by
  have:f.b∣f.t*g.b:=by rw[h];exact Xbq ..
  exact(Nat.Coprime.dvd_of_dvd_mul_left (show Nat.Coprime f.b f.t by rw[Nat.Coprime,Nat.gcd_comm];exact hf.2) this)
 have d2:g.b∣f.b:=by
  have:g.b∣g.t*f.b:=by rw[<- h];exact Xbq ..
  exact(Nat.Coprime.dvd_of_dvd_mul_left (show Nat.Coprime g.b g.t by rw[Nat.Coprime,Nat.gcd_comm];exact hg.2) this)
 have e:f.b=g.b:=Nat.dvd_antisymm d1 d2
 have e2:f.t=g.t:=by
  rw[e]at h;exact Nat.eq_of_mul_eq_mul_right hg.1 h
 cases f
 cases g
 simp at e e2
 rw[e,e2]
theorem Zo8 {B:Nat}(hB:0<B){f g:Fr}(hf:f.Ok)(hg:g.Ok)(df:f.b∣B)(dg:g.b∣B)(h:phi B f=phi B g):f=g:=by
 have a:=ZjC hB df dg hf.1 hg.1
 have b:=ZjC hB dg df hg.1 hf.1
 refine ZuK hf hg ?_
 have n1:¬g.t*f.b<f.t*g.b:=fun z=>by have:=a.mp z;omega
 have n2:¬f.t*g.b<g.t*f.b:=fun z=>by have:=b.mp z;omega
 omega
def ZiQ (f g:Fr):Bool:=decide (g.t*f.b<f.t*g.b)
def ZfP (f:Fr)(rows:List Fr):Nat:=(rows.takeWhile (ZiQ f)).length
def Znv (f:Fr)(rows:List Fr):List Fr:=rows.take (ZfP f rows)++f::rows.drop (ZfP f rows)
def Zdf (xs:List Fr):List Fr:=xs.foldl (fun rows f=>Znv f rows) []
theorem Znu (f:Fr)(rows:List Fr):ZfP f rows<=rows.length:=by
 unfold ZfP;exact(List.takeWhile_sublist _).length_le
theorem Zjx (f:Fr)(rows:List Fr):(Znv f rows).Perm (f::rows):=by
 unfold Znv;have h:=List.perm_middle (a:=f) (l₁:=rows.take (ZfP f rows)) (l₂:=rows.drop (ZfP f rows))
 rwa [List.take_append_drop]at h
theorem Zh8:∀(xs acc:List Fr),(xs.foldl (fun rows f=>Znv f rows) acc).Perm (acc++xs)
 |[],acc=>by simp
 |f::xs,acc=>by
   have h:=Zh8 xs (Znv f acc)
   refine h.trans ?_
   refine((Zjx f acc).append_right xs).trans ?_
   exact(List.perm_middle (a:=f) (l₁:=acc) (l₂:=xs)).symm
theorem ZaI (xs:List Fr):(Zdf xs).Perm xs:=by
 have:=Zh8 xs []
 simpa [Zdf] using this
theorem ZhL (f:Fr):∀rows:List Fr,∀g∈rows.take (ZfP f rows),ZiQ f g=true
 |[],g,h=>by simp at h
 |r::rows,g,h=>by
   unfold ZfP at h;by_cases c:ZiQ f r=true
   ·rw[Xbj,Xc c,XW,List.take_succ_cons]at h
    rcases Xf.mp h with rfl|h
    ·exact c
    ·exact ZhL f rows g h
   ·rw[Xbj,Xa c]at h
    simp at h
theorem ZhV (f:Fr):∀rows:List Fr,∀g r,rows.drop (ZfP f rows)=g::r->ZiQ f g=false
 |[],g,r,h=>by simp at h
 |x::rows,g,r,h=>by
   unfold ZfP at h;by_cases c:ZiQ f x=true
   ·rw[Xbj,Xc c,XW,List.drop_succ_cons]at h
    exact ZhV f rows g r h
   ·rw[Xbj,Xa c]at h
    simp at h
    rw[<- h.1];simpa using c
section
variable {B:Nat}(hB:0<B)
theorem Zmy (hB:0<B){f:Fr}{rows:List Fr}(hf:f.b∣B)(f0:0<f.b)(hr:∀g∈rows,g.b∣B/\0<g.b)(h:rows.Pairwise (fun a b=>phi B a<=phi B b)):(Znv f rows).Pairwise (fun a b=>phi B a<=phi B b):=by
 have lt:∀g∈rows.take (ZfP f rows),phi B g<phi B f:=fun g hg=>by
  obtain⟨d,p⟩:=hr g (Xbd hg)
  exact(ZjC hB hf d f0 p).mp (XD (ZhL f rows g hg))
 have hp:=h
 rw[<- List.take_append_drop (ZfP f rows) rows,List.pairwise_append]at hp;obtain⟨p1,p2,p3⟩:=hp
 have ge:∀g∈rows.drop (ZfP f rows),phi B f<=phi B g:=by
  cases e:rows.drop (ZfP f rows) with
  |nil=>intro g hg;cases hg
  |cons x r =>
    have hx:=X5 (ZhV f rows x r e)
    obtain⟨d,p⟩:=hr x (List.mem_of_mem_drop (by rw[e];exact Xb))
    have h1:phi B f<=phi B x:=by
     have:¬phi B x<phi B f:=fun z=>hx ((ZjC hB hf d f0 p).mpr z)
     omega
    rw[e]at p2;obtain⟨q1,q2⟩:=Xaz.mp p2
    intro g hg;rcases Xf.mp hg with rfl|hg
    ·exact h1
    ·exact XS h1 (q1 g hg)
 unfold Znv;rw[List.pairwise_append];refine⟨p1,Xaz.mpr ⟨ge,p2⟩,fun a ha b hb=>?_⟩
 rcases Xf.mp hb with rfl|hb
 ·exact XY (lt a ha)
 ·exact XS (XY (lt a ha)) (ge b hb)
theorem Zg7 (hB:0<B):∀(xs acc:List Fr),(∀g∈xs,g.b∣B/\0<g.b)->(∀g∈acc,g.b∣B/\0<g.b)->acc.Pairwise (fun a b=>phi B a<=phi B b)->(xs.foldl (fun rows f=>Znv f rows) acc).Pairwise (fun a b=>phi B a<=phi B b)
 |[],acc,_,_,h=>h
 |f::xs,acc,hx,ha,h=>by
   obtain⟨d,p⟩:=hx f Xb
   refine Zg7 hB xs (Znv f acc) (fun g hg=>hx g (Xd _ hg)) (fun g hg=>?_) (Zmy hB d p ha h)
   rcases Xf.mp ((Zjx f acc).mem_iff.mp hg) with rfl|hg
   ·exact⟨d,p⟩
   ·exact ha g hg
theorem Zhq (hB:0<B){xs:List Fr}(hx:∀g∈xs,g.b∣B/\0<g.b):(Zdf xs).Pairwise (fun a b=>phi B a<=phi B b):=Zg7 hB xs [] hx (fun g hg=>(nomatch hg)) List.Pairwise.nil
end
def Zm0:List Fr->List Fr->Bool
 |f::fs,g::gs=>if f=g then Zm0 fs gs else decide (g.t*f.b<f.t*g.b)
 |_,_=>false
theorem Zp6 (f:Fr)(rows:List Fr)(i:Nat)(h:i<ZfP f rows):∃g,rows[i]?=some g/\ZiQ f g=true:=by
 have hl:=Znu f rows
 have hi:i<rows.length:=by omega
 refine⟨rows[i],XH hi,ZhL f rows _ ?_⟩
 exact List.mem_take_iff_getElem.mpr ⟨i,by omega,rfl⟩
theorem Zsn (f:Fr)(rows:List Fr)(h:ZfP f rows<rows.length):∃g,rows[ZfP f rows]?=some g/\ZiQ f g=false:=by
 refine⟨rows[ZfP f rows],XH h,?_⟩
 exact ZhV f rows _ _ (Xay h)
theorem ZpB {B:Nat}(hB:0<B){f g:Fr}(hf:f.Ok)(hg:g.Ok)(df:f.b∣B)(dg:g.b∣B):((phi B f:Int)=(phi B g:Int)↔f=g)/\((phi B g:Int)<(phi B f:Int)↔g.t*f.b<f.t*g.b):=by
 refine⟨⟨fun h=>Zo8 hB hf hg df dg (by omega),fun h=>by rw[h]⟩,?_⟩
 rw[ZjC hB df dg hf.1 hg.1];omega
end Mir
namespace Mir
theorem Zoq {y:Yd}{m:Nat}{ln:Nat->Nat}{f g:Nat->Int}(h:∀k,k<m->f k<=g k)(l:Nat):Zeb y m ln f l<=Zeb y m ln g l :=
 ZaW fun k hk=>by
  unfold ind;split
  ·have:=h k hk;omega
  ·omega
theorem Zre {y:Yd}{m:Nat}{ln:Nat->Nat}{f:Nat->Int}(h:∀k,k<m->0<=f k)(l:Nat):0<=Zeb y m ln f l :=
 ZgP fun k hk=>by
  unfold ind;split
  ·have:=h k hk;omega
  ·omega
structure Shut (y:Yd)(m:Nat)(ln:Nat->Nat)(f mo:Nat->Int)(b:Nat->Int)(S R:Nat->Bool):Prop where
 nn:∀k,k<m->0<=f k
 full:∀k,k<m->S k=true->R (ln k)=false->f k=mo k
 none:∀k,k<m->S k=false->R (ln k)=true->f k=0
 top:R 0=true->Zeb y m ln f 0=b 0
 out:∀c a,c<y.ls.length->Zb9 y c=some a->R c=true->R a=false->Zeb y m ln f c=b c
 inn:∀c a,c<y.ls.length->Zb9 y c=some a->R c=false->R a=true->Zeb y m ln f c=0
def Zaw (S:Nat->Bool)(f:Nat->Int):Nat->Int:=fun k=>if S k=true then f k else 0
theorem ZhI {S:Nat->Bool}{f:Nat->Int}{k:Nat}(h:0<=f k):Zaw S f k<=f k:=by
 unfold Zaw;split<;>omega
theorem Zlt {S:Nat->Bool}{f:Nat->Int}{k:Nat}(h:0<=f k):0<=Zaw S f k:=by
 unfold Zaw;split<;>omega
theorem Shut.alike {y:Yd}(ok:y.Ok){m:Nat}{ln:Nat->Nat}(hln:∀k,k<m->ln k<y.ls.length){f mo b:Nat->Int}{S R:Nat->Bool}(h:Shut y m ln f mo b S R) :
 ∀n l,y.ls.length<=l+n->l<y.ls.length->R l=true->Zeb y m ln f l=Zeb y m ln (Zaw S f) l
 |0,l,h0,hl,_=>by omega
 |n+1,l,h0,hl,hR=>by
   rw[Zeq ok hln f hl,Zeq ok hln (Zaw S f) hl];congr 1
   ·refine Zag fun k hk=>?_
    by_cases e:ln k=l
    ·have:f k=Zaw S f k:=by
      unfold Zaw;cases s:S k with
      |true=>simp
      |false=>simp;exact h.none k hk s (by rw[e];exact hR)
     rw[this]
    ·simp[ind,e]
   ·refine Zag fun c hc=>?_
    by_cases u:Zb9 y c=some l
    ·rw[Xc u,Xc u]
     have:=Zjf ok hc u
     cases r:R c with
     |true=>exact Shut.alike ok hln h n c (by omega) hc r
     |false =>
       have e:=h.inn c l hc u r hR
       have q1:=Zoq (y:=y) (ln:=ln) (f:=Zaw S f) (g:=f) (fun k hk=>ZhI (S:=S) (h.nn k hk)) c
       have q2:=Zre (y:=y) (ln:=ln) (f:=Zaw S f) (fun k hk=>Zlt (S:=S) (h.nn k hk)) c
       omega
    ·rw[Xa u,Xa u]
theorem Shut.all {y:Yd}(ok:y.Ok){m:Nat}{ln:Nat->Nat}(hln:∀k,k<m->ln k<y.ls.length){f mo b own:Nat->Int}{S R:Nat->Bool}(h:Shut y m ln f mo b S R)
 (ho:∀l,l<y.ls.length->own l=Zas (fun k=>Zaw S mo k*ind (ln k=l)) m) :
 ∀n l,y.ls.length<=l+n->l<y.ls.length->(R l=true->l=0\/∃a,Zb9 y l=some a/\R a=false)->Zba y b own l<=Zeb y m ln (Zaw S f) l
 |0,l,h0,hl,_=>by omega
 |n+1,l,h0,hl,hU=>by
   cases r:R l with
   |true =>
     have e:Zeb y m ln f l=b l:=by
      rcases hU r with z|⟨a,u,ra⟩
      ·subst z;exact h.top r
      ·exact h.out l a hl u r ra
     rw[<- h.alike ok hln (n+1) l h0 hl r,e];unfold Zba;omega
   |false =>
     have h1:ZdY y b own l<=Zeb y m ln (Zaw S f) l:=by
      rw[Zeq ok hln _ hl,Zjq ok b own hl];refine Int.add_le_add ?_ (ZaW fun c hc=>?_)
      ·rw[ho l hl]
       refine ZaW fun k hk=>?_
       by_cases e:ln k=l
       ·have:Zaw S mo k=Zaw S f k:=by
         unfold Zaw;cases s:S k with
         |true=>simp;exact(h.full k hk s (by rw[e];exact r)).symm
         |false=>simp
        rw[this];exact Xak _
       ·simp[ind,e]
      ·by_cases u:Zb9 y c=some l
       ·rw[Xc u,Xc u]
        have:=Zjf ok hc u
        exact Shut.all ok hln h ho n c (by omega) hc (fun _=>.inr ⟨l,u,r⟩)
       ·rw[Xa u,Xa u]
        exact Xak _
     unfold Zba;omega
end Mir
namespace Mir
section
variable {ν:Type} [DecidableEq ν]
abbrev Lay (ν:Type):=List (ν×ν×Int)
abbrev Phi (ν:Type):=ν->ν->Int
def Zhj (L:Lay ν):List ν:=L.flatMap fun x=>[x.2.1,x.1]
def Zcp (L:Lay ν)(φ:Phi ν):List Int:=L.flatMap fun x=>[x.2.2-φ x.1 x.2.1,φ x.1 x.2.1]
def Dis (L:Lay ν):Prop:=(L.map fun x=>(x.1,x.2.1)).Nodup
def ZiH (φ:Phi ν)(s e:ν)(a:Int):Phi ν:=fun p q=>if p=s/\q=e then φ p q+a else φ p q
theorem Znx {α β:Type}(f g:α->β):∀(L:List α) (e:Nat),(L.flatMap fun x=>[f x,g x])[e]?=L[e/2]?.map (if e%2=0 then f else g)
 |[],e=>by simp
 |x::L,0=>by simp
 |x::L,1=>by simp
 |x::L,e+2=>by
   have h:=Znx f g L e
   have e1:(e+2)/2=e/2+1:=by omega
   have e2:(e+2)%2=e%2:=by omega
   rw[e1,e2,Xa8,Xa3];simpa using h
def hdE (L:Lay ν)(e:Nat):Option ν:=L[e/2]?.map fun x=>if e%2=0 then x.2.1 else x.1
def tlE (L:Lay ν)(e:Nat):Option ν:=L[e/2]?.map fun x=>if e%2=0 then x.1 else x.2.1
def rmE (L:Lay ν)(φ:Phi ν)(e:Nat):Option Int:=L[e/2]?.map fun x=>if e%2=0 then x.2.2-φ x.1 x.2.1 else φ x.1 x.2.1
theorem ZjW (L:Lay ν)(e:Nat):(Zhj L)[e]?=hdE L e:=by
 unfold Zhj hdE;rw[Znx];congr 1
 split<;>rfl
theorem Ze5 (L:Lay ν)(φ:Phi ν)(e:Nat):(Zcp L φ)[e]?=rmE L φ e:=by
 unfold Zcp rmE;rw[Znx];congr 1
 split<;>rfl
def Zfl (e:Nat):Nat:=if e%2=0 then e+1 else e-1
theorem Zov (L:Lay ν)(e:Nat):(Zhj L)[Zfl e]?=tlE L e:=by
 rw[ZjW];unfold hdE tlE Zfl;by_cases h:e%2=0
 ·have h1:(e+1)/2=e/2:=by omega
  have h2:¬(e+1)%2=0:=by omega
  simp only[h,if_true,h1,h2,if_false]
 ·have h1:(e-1)/2=e/2:=by omega
  have h2:(e-1)%2=0:=by omega
  simp only[h,if_false,h1,h2,if_true]
def Zg6 (L:Lay ν)(F:ν->ν->Int):Int:=(L.map fun x=>F x.1 x.2.1).sum
def ZhY (L:Lay ν)(φ:Phi ν)(n:ν):Int:=Zg6 L fun s e=>φ s e*(ind (s=n)-ind (e=n))
theorem ZlG {φ:Phi ν}{s e:ν}{a:Int}{L:Lay ν}(h:(s,e)∉L.map fun x=>(x.1,x.2.1))(G:Int->ν->ν->Int) :
 Zg6 L (fun p q=>G (ZiH φ s e a p q) p q)=Zg6 L fun p q=>G (φ p q) p q:=by
 unfold Zg6;congr 1
 refine XX fun x hx=>?_
 have:¬(x.1=s/\x.2.1=e):=fun⟨z1,z2⟩=>h (Xx.mpr ⟨x,hx,by rw[z1,z2]⟩)
 unfold ZiH;dsimp only;rw[Xa this]
theorem Zjt {φ:Phi ν}{a:Int}(G:Int->ν->ν->Int):∀{L:Lay ν},Dis L->∀{x:ν×ν×Int},x∈L ->
 Zg6 L (fun p q=>G (ZiH φ x.1 x.2.1 a p q) p q)=Zg6 L (fun p q=>G (φ p q) p q)-G (φ x.1 x.2.1) x.1 x.2.1+G (φ x.1 x.2.1+a) x.1 x.2.1
 |[],_,_,h=>by cases h
 |y::L,hd,x,h=>by
   unfold Dis at hd;rw[Xr,XL]at hd;rcases Xf.mp h with rfl|h
   ·have:=ZlG (φ:=φ) (a:=a) hd.1 G
    have e:ZiH φ x.1 x.2.1 a x.1 x.2.1=φ x.1 x.2.1+a:=by unfold ZiH;rw[Xc ⟨rfl,rfl⟩]
    unfold Zg6 at this ⊢;rw[Xr,XaJ,Xr,XaJ,this];dsimp only;rw[e];omega
   ·have ih:=Zjt (φ:=φ) (a:=a) G (L:=L) hd.2 h
    have ne:¬(y.1=x.1/\y.2.1=x.2.1):=fun⟨z1,z2⟩=>hd.1 (Xx.mpr ⟨x,h,by rw[z1,z2]⟩)
    have e:ZiH φ x.1 x.2.1 a y.1 y.2.1=φ y.1 y.2.1:=by unfold ZiH;rw[Xa ne]
    unfold Zg6 at ih ⊢;rw[Xr,XaJ,Xr,XaJ,ih];dsimp only;rw[e];omega
def Ze7 (L:Lay ν)(a:Int)(φ:Phi ν)(e:Nat):Phi ν :=
 match L[e/2]? with
 |some x=>ZiH φ x.1 x.2.1 (if e%2=0 then a else -a)
 |none=>φ
theorem Znc {L:Lay ν}(hd:Dis L){φ:Phi ν}{a:Int}{e:Nat}{s t:ν}(ht:hdE L e=some t)(hs:tlE L e=some s)(n:ν) :
 ZhY L (Ze7 L a φ e) n=ZhY L φ n+a*(ind (s=n)-ind (t=n)):=by
 unfold hdE at ht;unfold tlE at hs;cases ex:L[e/2]? with
 |none=>rw[ex]at ht;cases ht
 |some x =>
   rw[ex]at ht hs;have hx:x∈L:=List.mem_of_getElem? ex
   have hp:Ze7 L a φ e=ZiH φ x.1 x.2.1 (if e%2=0 then a else -a):=by unfold Ze7;rw[ex]
   rw[hp];unfold ZhY;rw[Zjt (fun v p q=>v*(ind (p=n)-ind (q=n))) hd hx]
   simp only[X8,Option.some.injEq]at ht hs;by_cases z:e%2=0
   ·rw[Xc z]at ht hs ⊢
    subst ht hs;rw[Xbh];omega
   ·rw[Xa z]at ht hs ⊢
    subst ht hs;rw[Xbh,Int.neg_mul,XaB a,XaB a];omega
inductive Chain (L:Lay ν)(s:ν):ν->List Nat->Prop
 |nil:Chain L s s []
 |cons {n m:ν} {e:Nat} {w:List Nat} (h:hdE L e=some n) (t:tlE L e=some m) (c:Chain L s m w):Chain L s n (e::w)
def Zg5 (L:Lay ν)(a:Int)(φ:Phi ν)(w:List Nat):Phi ν:=w.foldl (Ze7 L a) φ
theorem Zi1 {L:Lay ν}(hd:Dis L){s:ν}{a:Int}(p:ν):∀{w:List Nat} {n:ν} {φ:Phi ν},Chain L s n w->ZhY L (Zg5 L a φ w) p=ZhY L φ p+a*(ind (s=p)-ind (n=p))
 |_,_,φ,.nil=>by
   show ZhY L φ p=_
   rw[Int.sub_self,XaM,Xa1]
 |e::w,n,φ,.cons (m:=m) h t c=>by
   show ZhY L (Zg5 L a (Ze7 L a φ e) w) p=_
   rw[Zi1 hd p c,Znc hd h t,XaB,XaB,XaB];omega
def Within (L:Lay ν)(φ:Phi ν):Prop := ∀x∈L,0<=φ x.1 x.2.1/\φ x.1 x.2.1<=x.2.2
theorem Zk9:∀{L:Lay ν},Dis L->∀{i j:Nat} {x y:ν×ν×Int},L[i]?=some x->L[j]?=some y->x.1=y.1->x.2.1=y.2.1->i=j:=fun{L} hd {i j x y} hi hj e1 e2=>by
 have a:(L.map fun x=>(x.1,x.2.1))[i]?=some (x.1,x.2.1):=by rw[Xi,hi];rfl
 have b:(L.map fun x=>(x.1,x.2.1))[j]?=some (x.1,x.2.1):=by rw[Xi,hj,e1,e2];rfl
 have li:i<(L.map fun x=>(x.1,x.2.1)).length:=(Xe.mp a).1
 exact(List.getElem?_inj li hd).mp (a.trans b.symm)
theorem Zkh {L:Lay ν}(hd:Dis L){φ:Phi ν}(h:Within L φ){a:Int}(ha:0<=a){e:Nat}{r:Int}(he:rmE L φ e=some r)(hr:a<=r):Within L (Ze7 L a φ e):=by
 unfold rmE at he;cases ex:L[e/2]? with
 |none=>rw[ex]at he;cases he
 |some x =>
   rw[ex]at he;simp only[X8,Option.some.injEq]at he;have hx:=h x (List.mem_of_getElem? ex)
   intro y hy;have hyv:=h y hy
   have hp:Ze7 L a φ e=ZiH φ x.1 x.2.1 (if e%2=0 then a else -a):=by unfold Ze7;rw[ex]
   rw[hp];unfold ZiH;by_cases z:y.1=x.1/\y.2.1=x.2.1
   ·rw[Xc z]
    obtain⟨j,hj⟩:=List.mem_iff_getElem?.mp hy
    have ij:=Zk9 hd hj ex z.1 z.2
    subst ij;rw[ex]at hj;cases hj
    by_cases q:e%2=0
    ·rw[Xc q]at he ⊢;omega
    ·rw[Xa q]at he ⊢;omega
   ·rw[Xa z];exact hyv
theorem Zm2 {L:Lay ν}(hd:Dis L){φ:Phi ν}{a:Int}(ha:0<=a){e e':Nat}(ne:e'≠e){r:Int}(he:rmE L φ e'=some r):∃r',rmE L (Ze7 L a φ e) e'=some r'/\r<=r':=by
 unfold rmE at he ⊢;cases ey:L[e'/2]? with
 |none=>rw[ey]at he;cases he
 |some y =>
   rw[ey]at he;simp only[X8,Option.some.injEq]at he ⊢;refine⟨_,rfl,?_⟩
   unfold Ze7;cases ex:L[e/2]? with
   |none=>simp only[];omega
   |some x =>
     simp only[];unfold ZiH;by_cases z:y.1=x.1/\y.2.1=x.2.1
     ·rw[Xc z]
      have ij:=Zk9 hd ey ex z.1 z.2
      by_cases q:e%2=0
      ·have q':¬e'%2=0:=by omega
       rw[Xa q']at he ⊢;rw[Xc q];omega
      ·have q':e'%2=0:=by omega
       rw[Xc q']at he ⊢;rw[Xa q];omega
     ·rw[Xa z];omega
theorem Zh3 {L:Lay ν}(hd:Dis L){a:Int}(ha:0<=a):∀{w:List Nat} {φ:Phi ν},Within L φ->w.Nodup->(∀e∈w,∃r,rmE L φ e=some r/\a<=r)->Within L (Zg5 L a φ w)
 |[],_,h,_,_=>h
 |e::w,φ,h,hn,hw=>by
   obtain⟨h1,h2⟩:=XL.mp hn
   obtain⟨r,er,lr⟩:=hw e Xb
   show Within L (Zg5 L a (Ze7 L a φ e) w)
   refine Zh3 hd ha (Zkh hd h ha er lr) h2 fun e' he'=>?_
   obtain⟨r',er',lr'⟩:=hw e' (Xd _ he')
   obtain⟨q,eq,lq⟩:=Zm2 hd ha (e:=e) (fun z=>h1 (z▸he')) er'
   exact⟨q,eq,by omega⟩
abbrev Got (ν:Type):=List (ν×Option Nat)
def ZaC (es:Got ν):List ν:=es.map (·.1)
inductive Tree (L:Lay ν)(φ:Phi ν)(s:ν):Got ν->Prop
 |root:Tree L φ s [(s,none)]
 |add {es:Got ν} {e:Nat} {n m:ν} {r:Int} (t:Tree L φ s es) (hn:n∉ZaC es) (hh:hdE L e=some n) (ht:tlE L e=some m) (hm:m∈ZaC es) (hr:rmE L φ e=some r) (h0:0<r):Tree L φ s (es++[(n,some e)])
def ZjD (es:Got ν)(n:ν):Option (Option Nat):=es.lookup n
theorem ZjX {es:Got ν}{n:ν}:n∉ZaC es->es.lookup n=none:=by
 induction es with
 |nil=>intro _;rfl
 |cons p es ih =>
   intro h;have h1:n≠p.1:=fun z=>h (by rw[z];exact Xb)
   have h2:n∉ZaC es:=fun z=>h (Xd _ z)
   obtain⟨k,v⟩:=p
   rw[XO];have:(n==k)=false:=by rw[beq_eq_false_iff_ne];exact h1
   rw[this];exact ih h2
theorem Zfx {es fs:Got ν}{n:ν}:(es++fs).lookup n=(es.lookup n).or (fs.lookup n):=by
 induction es with
 |nil=>rfl
 |cons p es ih =>
   obtain⟨k,v⟩:=p
   rw[XaK,XO,XO];cases (n==k)
   ·exact ih
   ·rfl
inductive Back (L:Lay ν)(es:Got ν):ν->List Nat->Prop
 |nil {n:ν} (h:ZjD es n=some none):Back L es n []
 |cons {n m:ν} {e:Nat} {w:List Nat} (h:ZjD es n=some (some e)) (t:tlE L e=some m) (b:Back L es m w):Back L es n (e::w)
theorem Back.app {L:Lay ν}{es fs:Got ν}:∀{w:List Nat} {n:ν},Back L es n w->Back L (es++fs) n w
 |_,_,.nil h=>.nil (by unfold ZjD at h ⊢;rw[Zfx,h];rfl)
 |_,_,.cons h t b=>.cons (by unfold ZjD at h ⊢;rw[Zfx,h];rfl) t b.app
structure WayOk (L:Lay ν)(φ:Phi ν)(s:ν)(es:Got ν)(n:ν)(w:List Nat):Prop where
 back:Back L es n w
 chain:Chain L s n w
 nodup:w.Nodup
 room:∀e∈w,∃r,rmE L φ e=some r/\0<r
 heads:∀e∈w,∃m,hdE L e=some m/\m∈ZaC es
theorem Tree.way {L:Lay ν}{φ:Phi ν}{s:ν}:∀{es:Got ν},Tree L φ s es->∀n∈ZaC es,∃w,WayOk L φ s es n w
 |_,.root,n,hn=>by
   have e:n=s:=by simpa [ZaC] using hn
   subst e;exact⟨[],.nil (by simp[ZjD]),.nil,XaW,(fun e h=>nomatch h),(fun e h=>nomatch h)⟩
 |_,.add (es:=es) (e:=e) (n:=k) (m:=m) t hk hh ht hm hr h0,n,hn=>by
   have hn':n∈ZaC es\/n=k:=by simpa [ZaC] using hn
   have sub:∀p,p∈ZaC es->p∈ZaC (es++[(k,some e)]):=fun p hp=>by
    unfold ZaC at hp ⊢;rw[Xz];exact Xae _ hp
   rcases hn' with hn'|rfl
   ·obtain⟨w,q⟩:=t.way n hn'
    exact⟨w,q.back.app,q.chain,q.nodup,q.room,fun e' he'=>let ⟨m',a,b⟩:=q.heads e' he';⟨m',a,sub _ b⟩⟩
   ·obtain⟨w,q⟩:=t.way m hm
    refine⟨e::w,.cons ?_ ht q.back.app,.cons hh ht q.chain,XL.mpr ⟨fun z=>?_,q.nodup⟩,fun e' he'=>?_,fun e' he'=>?_⟩
    ·unfold ZjD
     rw[Zfx,ZjX hk];simp
    ·obtain⟨m',a,b⟩:=q.heads e z
     rw[hh]at a;cases a
     exact hk b
    ·rcases Xf.mp he' with rfl|he'
     ·exact⟨_,hr,h0⟩
     ·exact q.room e' he'
    ·rcases Xf.mp he' with rfl|he'
     ·exact⟨n,hh,by simp[ZaC]⟩
     ·obtain⟨m',a,b⟩:=q.heads e' he'
      exact⟨m',a,sub _ b⟩
theorem Tree.nodup {L:Lay ν}{φ:Phi ν}{s:ν}:∀{es:Got ν},Tree L φ s es->(ZaC es).Nodup
 |_,.root=>by simp[ZaC]
 |_,.add (n:=k) t hk _ _ _ _ _=>by
   have:=t.nodup
   unfold ZaC at this hk ⊢;rw[Xz,XaS];refine⟨this,by simp,fun a ha b hb=>?_⟩
   have e:b=k:=by simpa using hb
   exact fun z=>hk (e▸z▸ha)
theorem Tree.start {L:Lay ν}{φ:Phi ν}{s:ν}:∀{es:Got ν},Tree L φ s es->s∈ZaC es
 |_,.root=>by simp[ZaC]
 |_,.add t _ _ _ _ _ _=>by
   have:=t.start
   unfold ZaC at this ⊢;rw[Xz];exact Xae _ this
theorem Tree.sub {L:Lay ν}{φ:Phi ν}{s:ν}:∀{es:Got ν},Tree L φ s es->∀n∈ZaC es,n∈s::Zhj L
 |_,.root,n,hn=>by
   have e:n=s:=by simpa [ZaC] using hn
   rw[e];exact Xb
 |_,.add (es:=es) (n:=k) t hk hh _ _ _ _,n,hn=>by
   have hn':n∈ZaC es\/n=k:=by simpa [ZaC] using hn
   rcases hn' with hn'|rfl
   ·exact t.sub n hn'
   ·exact Xd _ (List.mem_of_getElem? ((ZjW L _).trans hh))
theorem ZgH {α:Type} [DecidableEq α]:∀{xs ys:List α},xs.Nodup->(∀x∈xs,x∈ys)->xs.length<=ys.length
 |[],_,_,_=>X0 _
 |x::xs,ys,hd,h=>by
   obtain⟨h1,h2⟩:=XL.mp hd
   have hx:=h x Xb
   have:=ZgH (xs:=xs) (ys:=ys.erase x) h2 fun z hz=>by
    have ne:z≠x:=fun q=>h1 (q▸hz)
    exact(List.mem_erase_of_ne ne).mpr (h z (Xd _ hz))
   rw[List.length_erase_of_mem hx]at this;have:0<ys.length:=List.length_pos_of_mem hx
   rw[XW];omega
theorem Tree.len {L:Lay ν}{φ:Phi ν}{s:ν}{es:Got ν}(t:Tree L φ s es):es.length<=(Zhj L).length+1:=by
 have:=ZgH t.nodup t.sub
 simpa [ZaC] using this
def ZcL (L:Lay ν)(φ:Phi ν)(es:Got ν):Prop := ∀e m n r,tlE L e=some m->hdE L e=some n->rmE L φ e=some r->0<r->m∈ZaC es->n∈ZaC es
end
end Mir
namespace Mir
inductive Nd where
 |start|fin
 |guest (k:Nat)
 |line (l t:Nat)
deriving DecidableEq
structure Gv where
 m:Nat
 ln:Nat->Nat
 wa:Nat->Int
 mo:Nat->Int
 th:Nat->Nat->Bool
def upN (y:Yd)(l:Nat):Nat:=(Zb9 y l).getD 0
def ZgA (y:Yd)(G:Gv)(k:Nat):Lay Nd:=(.start,.guest k,G.wa k)::(List.range y.T).flatMap fun t=>if G.th k t=true then [(.guest k,.line (G.ln k) t,G.mo k)] else []
def ZiD (y:Yd)(t:Nat):Lay Nd:=(.line 0 t,.fin,Za9 y 0 t)::(List.range (y.ls.length-1)).flatMap fun i=>[(.line (i+1) t,.line (upN y (i+1)) t,Za9 y (i+1) t)]
def ZcI (y:Yd)(G:Gv):Lay Nd:=(List.range G.m).flatMap (ZgA y G)++(List.range y.T).flatMap (ZiD y)
theorem ZkS (A B:Lay Nd)(F:Nd->Nd->Int):Zg6 (A++B) F=Zg6 A F+Zg6 B F:=by
 unfold Zg6;rw[Xz,Xa6]
theorem ZdB (f:Nat->Lay Nd)(F:Nd->Nd->Int):∀n,Zg6 ((List.range n).flatMap f) F=Zas (fun k=>Zg6 (f k) F) n
 |0=>rfl
 |n+1=>by
   rw[Xah,Xan,ZkS,ZdB f F n];simp[Zas]
theorem ZkO (x:Nd×Nd×Int)(F:Nd->Nd->Int):Zg6 [x] F=F x.1 x.2.1:=by simp[Zg6]
theorem Zjh (x:Nd×Nd×Int)(L:Lay Nd)(F:Nd->Nd->Int):Zg6 (x::L) F=F x.1 x.2.1+Zg6 L F:=by simp[Zg6]
theorem ZmJ (y:Yd)(G:Gv)(F:Nd->Nd->Int)(k:Nat):Zg6 (ZgA y G k) F=F .start (.guest k)+Zas (fun t=>if G.th k t=true then F (.guest k) (.line (G.ln k) t) else 0) y.T:=by
 unfold ZgA;rw[Zjh,ZdB];congr 1
 refine Zag fun t _=>?_
 split
 ·rw[ZkO]
 ·rfl
theorem Zm9 (y:Yd)(F:Nd->Nd->Int)(t:Nat):Zg6 (ZiD y t) F=F (.line 0 t) .fin+Zas (fun i=>F (.line (i+1) t) (.line (upN y (i+1)) t)) (y.ls.length-1):=by
 unfold ZiD;rw[Zjh,ZdB];congr 1
 refine Zag fun t _=>?_
 rw[ZkO]
theorem ZgL (y:Yd)(G:Gv)(F:Nd->Nd->Int):Zg6 (ZcI y G) F =
 Zas (fun k=>F .start (.guest k)+Zas (fun t=>if G.th k t=true then F (.guest k) (.line (G.ln k) t) else 0) y.T) G.m +
 Zas (fun t=>F (.line 0 t) .fin+Zas (fun i=>F (.line (i+1) t) (.line (upN y (i+1)) t)) (y.ls.length-1)) y.T:=by
 unfold ZcI;rw[ZkS,ZdB,ZdB];congr 1
 ·exact Zag fun k _=>ZmJ y G F k
 ·exact Zag fun t _=>Zm9 y F t
theorem Zcs {y:Yd}{G:Gv}{x:Nd×Nd×Int}{k:Nat}:x∈ZgA y G k↔x=(.start,.guest k,G.wa k)\/∃t,t<y.T/\G.th k t=true/\x=(.guest k,.line (G.ln k) t,G.mo k):=by
 unfold ZgA;rw[Xf,Xam];refine or_congr Iff.rfl ⟨fun⟨t,ht,hx⟩=>?_,fun⟨t,ht,hc,hx⟩=>⟨t,Xl.mpr ht,by rw[Xc hc];exact Xm.mpr hx⟩⟩
 by_cases c:G.th k t=true
 ·rw[Xc c]at hx
  exact⟨t,Xl.mp ht,c,Xm.mp hx⟩
 ·rw[Xa c]at hx;cases hx
theorem ZcP {y:Yd}{x:Nd×Nd×Int}{t:Nat}:x∈ZiD y t↔x=(.line 0 t,.fin,Za9 y 0 t)\/∃i,i<y.ls.length-1/\x=(.line (i+1) t,.line (upN y (i+1)) t,Za9 y (i+1) t):=by
 unfold ZiD;rw[Xf,Xam];exact or_congr Iff.rfl ⟨fun⟨i,hi,hx⟩=>⟨i,Xl.mp hi,Xm.mp hx⟩,fun⟨i,hi,hx⟩=>⟨i,Xl.mpr hi,Xm.mpr hx⟩⟩
theorem Ze3 {y:Yd}{G:Gv}{x:Nd×Nd×Int}:x∈ZcI y G↔(∃k,k<G.m/\x∈ZgA y G k)\/∃t,t<y.T/\x∈ZiD y t:=by
 unfold ZcI;rw[XI,Xam,Xam];simp only[Xl]
theorem Zgk (n:Nat):(List.range n).Pairwise (· ≠ ·):=Xbe
theorem Zgp (y:Yd)(G:Gv):Dis (ZcI y G):=by
 unfold Dis List.Nodup;rw[List.pairwise_map];unfold ZcI;rw[List.pairwise_append];refine⟨?_,?_,?_⟩
 ·rw[Xba]
  refine⟨fun k _=>?_,(Zgk _).imp fun{k j} hkj x hx z hz=>?_⟩
  ·unfold ZgA
   rw[Xaz];refine⟨fun x hx=>?_,?_⟩
   ·obtain⟨t,_,hx⟩:=Xam.mp hx
    split at hx
    ·rw[Xm.mp hx];intro q;cases q
    ·cases hx
   ·rw[Xba]
    refine⟨fun t _=>?_,(Zgk _).imp fun{t u} htu x hx z hz=>?_⟩
    ·split
     ·exact List.pairwise_singleton _ _
     ·exact List.Pairwise.nil
    ·split at hx
     ·split at hz
      ·rw[Xm.mp hx,Xm.mp hz]
       intro q;simp at q
       exact htu q
      ·cases hz
     ·cases hx
  ·rcases Zcs.mp hx with rfl|⟨t,_,_,rfl⟩<;>rcases Zcs.mp hz with rfl|⟨u,_,_,rfl⟩<;>intro q<;>simp at q
   ·exact hkj q
   ·exact hkj q.1
 ·rw[Xba]
  refine⟨fun t _=>?_,(Zgk _).imp fun{t u} htu x hx z hz=>?_⟩
  ·unfold ZiD
   rw[Xaz];refine⟨fun x hx=>?_,?_⟩
   ·obtain⟨i,_,hx⟩:=Xam.mp hx
    rw[Xm.mp hx];intro q;cases q
   ·rw[Xba]
    refine⟨fun t _=>List.pairwise_singleton _ _,(Zgk _).imp fun{i j} hij x hx z hz=>?_⟩
    rw[Xm.mp hx,Xm.mp hz];intro q;simp at q
    exact hij q.1
  ·rcases ZcP.mp hx with rfl|⟨i,_,rfl⟩<;>rcases ZcP.mp hz with rfl|⟨j,_,rfl⟩<;>intro q<;>simp at q
   ·exact htu q
   ·exact htu q.1.2
 ·intro x hx z hz
  obtain⟨k,_,hx⟩:=Xam.mp hx
  obtain⟨t,_,hz⟩:=Xam.mp hz
  rcases Zcs.mp hx with rfl|⟨t',_,_,rfl⟩<;>rcases ZcP.mp hz with rfl|⟨j,_,rfl⟩<;>intro q<;>simp at q
end Mir
namespace Mir
def ZcH (G:Gv)(φ:Phi Nd)(t k:Nat):Int:=if G.th k t=true then φ (.guest k) (.line (G.ln k) t) else 0
def upF (y:Yd)(φ:Phi Nd)(t l:Nat):Int:=if l=0 then φ (.line 0 t) .fin else φ (.line l t) (.line (upN y l) t)
theorem Zg2 (f:Nat->Int):∀n,Zas f (n+1)=f 0+Zas (fun i=>f (i+1)) n
 |0=>by simp[Zas]
 |n+1=>by
   show Zas f (n+1)+f (n+1)=_
   rw[Zg2 f n];simp[Zas]
   omega
theorem Zby {p:Prop} [Decidable p] (h:¬p):ind p=0:=Xa h
theorem ZeI {p q:Prop} [Decidable p] [Decidable q] (h:p↔q):ind p=ind q:=by unfold ind;simp only[h]
theorem ZlY (y:Yd)(G:Gv)(φ:Phi Nd){k0:Nat}(hk:k0<G.m):ZhY (ZcI y G) φ (.guest k0)=Zas (fun t=>ZcH G φ t k0) y.T-φ .start (.guest k0):=by
 unfold ZhY;rw[ZgL];have h2:Zas (fun t=>φ (.line 0 t) .fin*(ind (Nd.line 0 t=.guest k0)-ind (Nd.fin=.guest k0))+Zas (fun i=>φ (.line (i+1) t) (.line (upN y (i+1)) t)*(ind (Nd.line (i+1) t=.guest k0)-ind (Nd.line (upN y (i+1)) t=.guest k0))) (y.ls.length-1)) y.T=0:=by
  rw[Zag (g:=fun _=>0) fun t _=>?_,Za8]
  rw[Zby (fun z=>nomatch z),Zby (fun z=>nomatch z),Zag (g:=fun _=>0) fun i _=>?_,Za8]
  ·simp
  ·rw[Zby (fun z=>nomatch z),Zby (fun z=>nomatch z)];simp
 rw[h2,Xa1];rw[Zag (g:=fun k=>if k=k0 then Zas (fun t=>ZcH G φ t k0) y.T-φ .start (.guest k0) else 0) fun k _=>?_,Zd3,Xc hk]
 rw[Zby (p:=Nd.start=.guest k0) (fun z=>nomatch z)]
 by_cases e:k=k0
 ·subst e
  rw[Xc rfl];have:Zas (fun t=>if G.th k t=true then φ (.guest k) (.line (G.ln k) t)*(ind (Nd.guest k=.guest k)-ind (Nd.line (G.ln k) t=.guest k)) else 0) y.T=Zas (fun t=>ZcH G φ t k) y.T:=by
   refine Zag fun t _=>?_
   unfold ZcH;split
   ·rw[Zby (p:=Nd.line (G.ln k) t=.guest k) (fun z=>nomatch z)]
    simp[ind]
   ·rfl
  rw[this];simp[ind]
  omega
 ·have ne:¬Nd.guest k=.guest k0:=fun z=>e (by injection z)
  rw[Xa e,Zby ne,Zag (g:=fun _=>0) fun t _=>?_,Za8]
  ·simp
  ·rw[Zby (p:=Nd.line (G.ln k) t=.guest k0) (fun z=>nomatch z)]
   simp
theorem ZhU {y:Yd}(ok:y.Ok){c l:Nat}(h0:0<c)(hc:c<y.ls.length):upN y c=l↔Zb9 y c=some l:=by
 obtain⟨a,ea,_⟩:=ok.ups c h0 hc
 unfold upN;rw[ea];simp
theorem ZoR {y:Yd}(ok:y.Ok)(G:Gv)(φ:Phi Nd){l t0:Nat}(hl:l<y.ls.length)(ht:t0<y.T):ZhY (ZcI y G) φ (.line l t0) =
 upF y φ t0 l-Zas (fun k=>ZcH G φ t0 k*ind (G.ln k=l)) G.m-Zas (fun c=>if Zb9 y c=some l then upF y φ t0 c else 0) y.ls.length:=by
 unfold ZhY;rw[ZgL];have h1:Zas (fun k=>φ .start (.guest k)*(ind (Nd.start=.line l t0)-ind (Nd.guest k=.line l t0))+Zas (fun t=>if G.th k t=true then φ (.guest k) (.line (G.ln k) t)*(ind (Nd.guest k=.line l t0)-ind (Nd.line (G.ln k) t=.line l t0)) else 0) y.T) G.m = - Zas (fun k=>ZcH G φ t0 k*ind (G.ln k=l)) G.m:=by
  rw[show-Zas (fun k=>ZcH G φ t0 k*ind (G.ln k=l)) G.m=(-1)*Zas (fun k=>ZcH G φ t0 k*ind (G.ln k=l)) G.m by omega,<- Zc5]
  refine Zag fun k _=>?_
  rw[Zby (p:=Nd.start=.line l t0) (fun z=>nomatch z),Zby (p:=Nd.guest k=.line l t0) (fun z=>nomatch z)]
  rw[Zag (g:=fun t=>if t=t0 then-(ZcH G φ t0 k*ind (G.ln k=l)) else 0) fun t _=>?_,Zd3,Xc ht]
  ·simp
  ·by_cases e:t=t0
   ·subst e
    rw[Xc rfl,ZeI (p:=Nd.line (G.ln k) t=.line l t) (q:=G.ln k=l) (by simp)]
    unfold ZcH;split
    ·rw[Int.zero_sub,Int.mul_neg]
    ·simp
   ·rw[Xa e,Zby (p:=Nd.line (G.ln k) t=.line l t0) (fun z=>e (by injection z))]
    simp
 rw[h1];have h2:Zas (fun t=>φ (.line 0 t) .fin*(ind (Nd.line 0 t=.line l t0)-ind (Nd.fin=.line l t0))+Zas (fun i=>φ (.line (i+1) t) (.line (upN y (i+1)) t)*(ind (Nd.line (i+1) t=.line l t0)-ind (Nd.line (upN y (i+1)) t=.line l t0))) (y.ls.length-1)) y.T
  = upF y φ t0 l-Zas (fun c=>if Zb9 y c=some l then upF y φ t0 c else 0) y.ls.length:=by
  rw[Zag (g:=fun t=>if t=t0 then upF y φ t0 l-Zas (fun c=>if Zb9 y c=some l then upF y φ t0 c else 0) y.ls.length else 0) fun t _=>?_,Zd3,Xc ht]
  rw[Zby (p:=Nd.fin=.line l t0) (fun z=>nomatch z)]
  by_cases e:t=t0
  ·subst e
   rw[Xc rfl,ZeI (p:=Nd.line 0 t=.line l t) (q:=0=l) (by simp)]
   have hn:y.ls.length=(y.ls.length-1)+1:=by omega
   have e1:upF y φ t l=Zas (fun c=>if c=l then upF y φ t l else 0) y.ls.length:=by rw[Zd3,Xc hl]
   have e2:∀c,c<y.ls.length->(if c=l then upF y φ t l else 0)=upF y φ t c*ind (c=l):=fun c _=>by
    by_cases q:c=l
    ·subst q;simp[ind]
    ·simp[ind,q]
   rw[e1,Zag e2,hn,Zg2,Zg2];have u0:¬Zb9 y 0=some l:=fun z=>by rw[ok.up0]at z;cases z
   have f0:upF y φ t 0=φ (.line 0 t) .fin:=by unfold upF;rw[Xc rfl]
   rw[Xa u0,f0,<- hn];have e3:Zas (fun i=>φ (.line (i+1) t) (.line (upN y (i+1)) t)*(ind (Nd.line (i+1) t=.line l t)-ind (Nd.line (upN y (i+1)) t=.line l t))) (y.ls.length-1)
    = Zas (fun i=>upF y φ t (i+1)*ind (i+1=l)) (y.ls.length-1)+Zas (fun i => -1*(if Zb9 y (i+1)=some l then upF y φ t (i+1) else 0)) (y.ls.length-1):=by
    rw[<- Zbt];refine Zag fun i hi=>?_
    rw[ZeI (p:=Nd.line (i+1) t=.line l t) (q:=i+1=l) (by simp),ZeI (p:=Nd.line (upN y (i+1)) t=.line l t) (q:=Zb9 y (i+1)=some l) (by rw[<- ZhU ok (by omega) (by omega)];simp)]
    have:upF y φ t (i+1)=φ (.line (i+1) t) (.line (upN y (i+1)) t):=by unfold upF;rw[Xa (by omega)]
    rw[this,XaB];by_cases q:Zb9 y (i+1)=some l
    ·rw[Xc q];simp[ind,q];omega
    ·rw[Xa q];simp[ind,q]
   rw[e3,Zc5];simp only[Int.sub_zero];omega
  ·rw[Xa e,Zby (p:=Nd.line 0 t=.line l t0) (fun z=>e (by injection z)),Zag (g:=fun _=>0) fun i _=>?_,Za8]
   ·simp
   ·rw[Zby (p:=Nd.line (i+1) t=.line l t0) (fun z=>e (by injection z)),Zby (p:=Nd.line (upN y (i+1)) t=.line l t0) (fun z=>e (by injection z))]
    simp
 rw[h2];omega
end Mir
namespace Mir
section
variable {ν:Type} [DecidableEq ν]
theorem ZcL.fwd {L:Lay ν}{φ:Phi ν}(hw:Within L φ){es:Got ν}(hc:ZcL L φ es){x:ν×ν×Int}(hx:x∈L)(h1:x.1∈ZaC es)(h2:x.2.1∉ZaC es):φ x.1 x.2.1=x.2.2:=by
 obtain⟨i,hi⟩:=List.mem_iff_getElem?.mp hx
 have e:(2*i)/2=i:=by omega
 have e2:(2*i)%2=0:=by omega
 by_cases z:φ x.1 x.2.1=x.2.2
 ·exact z
 ·have:=hw x hx
  exact Xp (hc (2*i) x.1 x.2.1 (x.2.2-φ x.1 x.2.1) (by unfold tlE;rw[e,hi,e2];rfl) (by unfold hdE;rw[e,hi,e2];rfl) (by unfold rmE;rw[e,hi,e2];rfl) (by omega) h1) h2
theorem ZcL.bwd {L:Lay ν}{φ:Phi ν}(hw:Within L φ){es:Got ν}(hc:ZcL L φ es){x:ν×ν×Int}(hx:x∈L)(h1:x.1∉ZaC es)(h2:x.2.1∈ZaC es):φ x.1 x.2.1=0:=by
 obtain⟨i,hi⟩:=List.mem_iff_getElem?.mp hx
 have e:(2*i+1)/2=i:=by omega
 have e2:¬(2*i+1)%2=0:=by omega
 by_cases z:φ x.1 x.2.1=0
 ·exact z
 ·have:=hw x hx
  exact Xp (hc (2*i+1) x.2.1 x.1 (φ x.1 x.2.1) (by unfold tlE;rw[e,hi];simp[e2]) (by unfold hdE;rw[e,hi];simp[e2]) (by unfold rmE;rw[e,hi];simp[e2]) (by omega) h2) h1
end
structure Flow (y:Yd)(G:Gv)(φ:Phi Nd):Prop where
 wi:Within (ZcI y G) φ
 kp:∀n,n≠.start->n≠.fin->ZhY (ZcI y G) φ n=0
theorem ZoN {y:Yd}{G:Gv}{k:Nat}(hk:k<G.m):((.start,.guest k,G.wa k):Nd×Nd×Int)∈ZcI y G:=Ze3.mpr (.inl ⟨k,hk,Zcs.mpr (.inl rfl)⟩)
theorem ZhO {y:Yd}{G:Gv}{k t:Nat}(hk:k<G.m)(ht:t<y.T)(h:G.th k t=true):((.guest k,.line (G.ln k) t,G.mo k):Nd×Nd×Int)∈ZcI y G:=Ze3.mpr (.inl ⟨k,hk,Zcs.mpr (.inr ⟨t,ht,h,rfl⟩)⟩)
theorem Zq3 {y:Yd}{G:Gv}{t:Nat}(ht:t<y.T):((.line 0 t,.fin,Za9 y 0 t):Nd×Nd×Int)∈ZcI y G:=Ze3.mpr (.inr ⟨t,ht,ZcP.mpr (.inl rfl)⟩)
theorem ZrD {y:Yd}{G:Gv}{t l:Nat}(ht:t<y.T)(h0:0<l)(hl:l<y.ls.length):((.line l t,.line (upN y l) t,Za9 y l t):Nd×Nd×Int)∈ZcI y G :=
 Ze3.mpr (.inr ⟨t,ht,ZcP.mpr (.inr ⟨l-1,by omega,by rw[show l-1+1=l by omega]⟩)⟩)
def moT (G:Gv)(t k:Nat):Int:=if G.th k t=true then G.mo k else 0
section
variable {y:Yd}{G:Gv}{φ:Phi Nd}(F:Flow y G φ)
include F
theorem Flow.tak {k t:Nat}(hk:k<G.m)(ht:t<y.T):0<=ZcH G φ t k/\ZcH G φ t k<=moT G t k:=by
 unfold ZcH moT;by_cases c:G.th k t=true
 ·rw[Xc c,Xc c]
  exact F.wi _ (ZhO hk ht c)
 ·rw[Xa c,Xa c]
  omega
theorem Flow.total {k:Nat}(hk:k<G.m):Zas (fun t=>ZcH G φ t k) y.T=φ .start (.guest k):=by
 have:=F.kp (.guest k) (fun z=>nomatch z) (fun z=>nomatch z)
 rw[ZlY y G φ hk]at this;omega
theorem Flow.want {k:Nat}(hk:k<G.m):0<=φ .start (.guest k)/\φ .start (.guest k)<=G.wa k:=F.wi _ (ZoN hk)
theorem Flow.up (ok:y.Ok)(hln:∀k,k<G.m->G.ln k<y.ls.length){t:Nat}(ht:t<y.T):∀n l,y.ls.length<=l+n->l<y.ls.length->upF y φ t l=Zeb y G.m G.ln (ZcH G φ t) l
 |0,l,h,hl=>by omega
 |n+1,l,h,hl=>by
   have z:=F.kp (.line l t) (fun z=>nomatch z) (fun z=>nomatch z)
   rw[ZoR ok G φ hl ht]at z;have e:Zas (fun c=>if Zb9 y c=some l then upF y φ t c else 0) y.ls.length=Zas (fun c=>if Zb9 y c=some l then Zeb y G.m G.ln (ZcH G φ t) c else 0) y.ls.length:=by
    refine Zag fun c hc=>?_
    by_cases u:Zb9 y c=some l
    ·rw[Xc u,Xc u]
     have:=Zjf ok hc u
     exact Flow.up ok hln ht n c (by omega) hc
    ·rw[Xa u,Xa u]
   rw[Zeq ok hln _ hl,<- e];omega
theorem Flow.up_ok (ok:y.Ok){t l:Nat}(ht:t<y.T)(hl:l<y.ls.length):0<=upF y φ t l/\upF y φ t l<=Za9 y l t:=by
 unfold upF;by_cases z:l=0
 ·subst z
  rw[Xc rfl];exact F.wi _ (Zq3 ht)
 ·rw[Xa z]
  exact F.wi _ (ZrD ht (by omega) hl)
theorem Flow.load (ok:y.Ok)(hln:∀k,k<G.m->G.ln k<y.ls.length){t l:Nat}(ht:t<y.T)(hl:l<y.ls.length):Zeb y G.m G.ln (ZcH G φ t) l<=Za9 y l t:=by
 rw[<- F.up ok hln ht y.ls.length l (by omega) hl];exact(F.up_ok ok ht hl).2
def Zd0 (es:Got Nd)(k:Nat):Bool:=decide (Nd.guest k∈ZaC es)
def Zvq (es:Got Nd)(t l:Nat):Bool:=decide (Nd.line l t∈ZaC es)
omit F in
theorem ZjB {p:Prop} [Decidable p] (h:decide p=false):¬p:=X5 h
theorem Flow.shut (ok:y.Ok)(hln:∀k,k<G.m->G.ln k<y.ls.length){es:Got Nd}(hc:ZcL (ZcI y G) φ es)(hf:Nd.fin∉ZaC es){t:Nat}(ht:t<y.T) :
 Shut y G.m G.ln (ZcH G φ t) (moT G t) (fun l=>Za9 y l t) (Zd0 es) (Zvq es t) where
 nn k hk:=(F.tak hk ht).1
 full k hk hS hR:=by
  unfold ZcH moT;by_cases c:G.th k t=true
  ·rw[Xc c,Xc c]
   exact hc.fwd F.wi (ZhO hk ht c) (XD hS) (ZjB hR)
  ·rw[Xa c,Xa c]
 none k hk hS hR:=by
  unfold ZcH;by_cases c:G.th k t=true
  ·rw[Xc c]
   exact hc.bwd F.wi (ZhO hk ht c) (ZjB hS) (XD hR)
  ·rw[Xa c]
 top hR:=by
  have h0:=ok.l1
  rw[<- F.up ok hln ht y.ls.length 0 (by omega) (by omega)];unfold upF;rw[Xc rfl];exact hc.fwd F.wi (Zq3 ht) (XD hR) hf
 out c a hcl u h1 h2:=by
  have c0:c≠0:=fun z=>by subst z;rw[ok.up0]at u;cases u
  have ea:upN y c=a:=(ZhU ok (by omega) hcl).mpr u
  rw[<- F.up ok hln ht y.ls.length c (by omega) hcl];unfold upF;rw[Xa c0];exact hc.fwd F.wi (ZrD ht (by omega) hcl) (XD h1) (by rw[ea];exact ZjB h2)
 inn c a hcl u h1 h2:=by
  have c0:c≠0:=fun z=>by subst z;rw[ok.up0]at u;cases u
  have ea:upN y c=a:=(ZhU ok (by omega) hcl).mpr u
  rw[<- F.up ok hln ht y.ls.length c (by omega) hcl];unfold upF;rw[Xa c0];exact hc.bwd F.wi (ZrD ht (by omega) hcl) (ZjB h1) (by rw[ea];exact XD h2)
theorem Flow.filled {es:Got Nd}(hc:ZcL (ZcI y G) φ es)(hs:Nd.start∈ZaC es){k:Nat}(hk:k<G.m)(hS:Zd0 es k=false):Zas (fun t=>ZcH G φ t k) y.T=G.wa k:=by
 rw[F.total hk];exact hc.fwd F.wi (ZoN hk) hs (ZjB hS)
def ZpR (G:Gv)(S:Nat->Bool)(t l:Nat):Int:=Zas (fun k=>Zaw S (moT G t) k*ind (G.ln k=l)) G.m
omit F in
theorem Zno {y:Yd}(ok:y.Ok):∀n j,j<n->j<y.ls.length->0∈upL y j
 |0,j,h,_=>by omega
 |n+1,j,h,hj=>by
   by_cases z:j=0
   ·subst z;exact Zgo y 0
   ·obtain⟨a,ea,la⟩:=ok.ups j (by omega) hj
    exact(Zos ok (by omega) hj ea 0 (fun q=>z q.symm)).mpr (Zno ok n a (by omega) (by omega))
omit F in
theorem Zl6 {y:Yd}(ok:y.Ok){m:Nat}{ln:Nat->Nat}(hln:∀k,k<m->ln k<y.ls.length)(f:Nat->Int):Zeb y m ln f 0=Zas f m :=
 Zag fun k hk=>by
  unfold ind;rw[Xc (Zno ok _ _ (XaE _) (hln k hk)),Xaj]
theorem Flow.no_more (ok:y.Ok)(hln:∀k,k<G.m->G.ln k<y.ls.length)(S:Nat->Bool){t:Nat}(ht:t<y.T):Zas (Zaw S (ZcH G φ t)) G.m<=Zba y (fun l=>Za9 y l t) (ZpR G S t) 0:=by
 have l1:=ok.l1
 rw[<- Zl6 ok hln];refine Mir.no_more ok hln (fun l hl=>?_) (fun l hl=>?_) y.ls.length 0 (by omega) (by omega)
 ·refine ZaW fun k hk=>?_
  have q:=F.tak hk ht
  by_cases e:G.ln k=l
  ·unfold Zaw ind
   rw[Xc e];split<;>omega
  ·rw[Zby e];omega
 ·have q:=F.load ok hln ht hl
  have q2:=Zoq (y:=y) (ln:=G.ln) (f:=Zaw S (ZcH G φ t)) (g:=ZcH G φ t) (fun k hk=>ZhI (F.tak hk ht).1) l
  omega
theorem Flow.meet (ok:y.Ok)(hln:∀k,k<G.m->G.ln k<y.ls.length){es:Got Nd}(hc:ZcL (ZcI y G) φ es)(hf:Nd.fin∉ZaC es){t:Nat}(ht:t<y.T) :
 Zba y (fun l=>Za9 y l t) (ZpR G (Zd0 es) t) 0=Zas (Zaw (Zd0 es) (ZcH G φ t)) G.m:=by
 have l1:=ok.l1
 have a:=F.no_more ok hln (Zd0 es) ht
 have b:=(F.shut ok hln hc hf ht).all ok hln (own:=ZpR G (Zd0 es) t) (fun l hl=>rfl) y.ls.length 0 (by omega) (by omega) (fun _=>.inl rfl)
 rw[Zl6 ok hln]at b;omega
omit F in
theorem ZhM (f g:Nat->Int):∀n,Zas (fun k=>f k-g k) n=Zas f n-Zas g n
 |0=>rfl
 |n+1=>by
   simp only[Zas];rw[ZhM f g n];omega
theorem Flow.lack (ok:y.Ok)(hln:∀k,k<G.m->G.ln k<y.ls.length){es:Got Nd}(hc:ZcL (ZcI y G) φ es)(hs:Nd.start∈ZaC es)(hf:Nd.fin∉ZaC es) :
 Zas (fun k=>G.wa k-Zas (fun t=>ZcH G φ t k) y.T) G.m=Zas (Zaw (Zd0 es) G.wa) G.m-Zas (fun t=>Zba y (fun l=>Za9 y l t) (ZpR G (Zd0 es) t) 0) y.T:=by
 rw[Zag (n:=y.T) fun t ht=>F.meet ok hln hc hf ht,Zeu,<- ZhM]
 refine Zag fun k hk=>?_
 cases s:Zd0 es k with
 |true =>
   have:Zas (fun t=>Zaw (Zd0 es) (ZcH G φ t) k) y.T=Zas (fun t=>ZcH G φ t k) y.T:=Zag fun t _=>by unfold Zaw;rw[Xc s]
   rw[this];unfold Zaw;rw[Xc s]
 |false =>
   have:Zas (fun t=>Zaw (Zd0 es) (ZcH G φ t) k) y.T=0:=by
    rw[Zag (g:=fun _=>0) fun t _=>?_,Za8]
    unfold Zaw;rw[Xa (by rw[s];decide)]
   rw[this,F.filled hc hs hk s];unfold Zaw;rw[Xa (by rw[s];decide)];omega
omit F in
theorem ZlA (y:Yd)(G:Gv)(φ:Phi Nd):ZhY (ZcI y G) φ .start=Zas (fun k=>φ .start (.guest k)) G.m:=by
 unfold ZhY;rw[ZgL];have h2:Zas (fun t=>φ (.line 0 t) .fin*(ind (Nd.line 0 t=.start)-ind (Nd.fin=.start))+Zas (fun i=>φ (.line (i+1) t) (.line (upN y (i+1)) t)*(ind (Nd.line (i+1) t=.start)-ind (Nd.line (upN y (i+1)) t=.start))) (y.ls.length-1)) y.T=0:=by
  rw[Zag (g:=fun _=>0) fun t _=>?_,Za8]
  rw[Zby (fun z=>nomatch z),Zby (fun z=>nomatch z),Zag (g:=fun _=>0) fun i _=>?_,Za8]
  ·simp
  ·rw[Zby (fun z=>nomatch z),Zby (fun z=>nomatch z)];simp
 rw[h2,Xa1];refine Zag fun k _=>?_
 rw[Zby (p:=Nd.guest k=.start) (fun z=>nomatch z),Zag (g:=fun _=>0) fun t _=>?_,Za8]
 ·simp[ind]
 ·rw[Zby (p:=Nd.line (G.ln k) t=.start) (fun z=>nomatch z)];simp
theorem Flow.push {a:Int}(ha:0<=a){w:List Nat}(hw:Chain (ZcI y G) .start .fin w)(hn:w.Nodup)(hr:∀e∈w,∃r,rmE (ZcI y G) φ e=some r/\a<=r) :
 Flow y G (Zg5 (ZcI y G) a φ w)/\ZhY (ZcI y G) (Zg5 (ZcI y G) a φ w) .start=ZhY (ZcI y G) φ .start+a:=by
 refine⟨⟨Zh3 (Zgp y G) ha F.wi hn hr,fun n h1 h2=>?_⟩,?_⟩
 ·rw[Zi1 (Zgp y G) n hw,F.kp n h1 h2,Zby (fun z=>h1 z.symm),Zby (fun z=>h2 z.symm)]
  simp
 ·rw[Zi1 (Zgp y G) .start hw,Zby (p:=Nd.fin=.start) (fun z=>nomatch z)]
  simp[ind]
theorem Flow.most:ZhY (ZcI y G) φ .start<=Zas G.wa G.m:=by
 rw[ZlA];exact ZaW fun k hk=>(F.want hk).2
end
theorem ZuD {y:Yd}{G:Gv}(h:∀x∈ZcI y G,0<=x.2.2):Flow y G (fun _ _=>0):=by
 refine⟨fun x hx=>⟨Xak _,h x hx⟩,fun n _ _=>?_⟩
 unfold ZhY Zg6;have:∀L:Lay Nd,(L.map fun x=>(0:Int)*(ind (x.1=n)-ind (x.2.1=n))).sum=0:=fun L=>by
  induction L with
  |nil=>rfl
  |cons x L ih=>rw[Xr,XaJ,ih];simp
 exact this _
end Mir
namespace Mir
structure Giv (m:Nat)(w:Nat->Int)(g:(Nat->Bool)->Int):Prop where
 w1:∀k,k<m->1<=w k
 g0:∀S,(∀k,k<m->S k=false)->g S=0
 nn:∀S,0<=g S
 ext:∀S U,(∀k,k<m->S k=U k)->g S=g U
 sub:∀S U,g (fun k=>S k||U k)+g (fun k=>S k&&U k)<=g S+g U
def wS (m:Nat)(w:Nat->Int)(S:Nat->Bool):Int:=Zas (Zaw S w) m
section
variable {m:Nat}{w:Nat->Int}{g:(Nat->Bool)->Int}
theorem ZmC {S U:Nat->Bool}(h:∀k,k<m->S k=U k):wS m w S=wS m w U:=Zag fun k hk=>by unfold Zaw;rw[h k hk]
theorem Zhb {S U R:Nat->Bool}(h:∀k,k<m->(R k=true↔S k=true\/U k=true)/\¬(S k=true/\U k=true)):wS m w R=wS m w S+wS m w U:=by
 unfold wS;rw[<- Zbt];refine Zag fun k hk=>?_
 obtain⟨h1,h2⟩:=h k hk
 unfold Zaw;cases e1:S k<;>cases e2:U k<;>cases e3:R k<;>simp[e1,e2,e3]at h1 h2 ⊢
theorem Giv.w0 (G:Giv m w g)(S:Nat->Bool):0<=wS m w S:=ZgP fun k hk=>Zlt (by have:=G.w1 k hk;omega)
theorem Giv.wp (G:Giv m w g){S:Nat->Bool}{j:Nat}(hj:j<m)(h:S j=true):1<=wS m w S:=by
 have e:wS m w S=wS m w (fun k=>decide (k=j))+wS m w (fun k=>S k && !decide (k=j)):=Zhb fun k hk=>by
  by_cases c:k=j
  ·subst c;simp[h]
  ·simp[c]
 have h1:=G.w0 (fun k=>S k && !decide (k=j))
 have h2:wS m w (fun k=>decide (k=j))=w j:=by
  unfold wS;have:Zas (Zaw (fun k=>decide (k=j)) w) m=Zas (fun l=>if l=j then w j else 0) m:=Zag fun k _=>by
   unfold Zaw;by_cases c:k=j
   ·subst c;simp
   ·simp[c]
  rw[this,Zd3,Xc hj]
 have:=G.w1 j hj
 omega
theorem ZrU {S:Nat->Bool}(h:∀k,k<m->S k=false):wS m w S=0:=by
 unfold wS;rw[Zag (g:=fun _=>0) fun k hk=>by unfold Zaw;rw[h k hk];rfl]
 exact Za8 m
variable (m w g) in
def Low (A:Nat->Bool)(p q:Int):Prop := ∀S:Nat->Bool,(∀k,k<m->S k=true->A k=true)->q*(g A-g S)<=p*wS m w (fun k=>A k && !S k)
variable (m w g) in
def Up (A:Nat->Bool)(p q:Int):Prop := ∀S:Nat->Bool,(∀k,k<m->S k=true->A k=false)->p*wS m w S<=q*(g (fun k=>A k||S k)-g A)
theorem ZuG {p q t b X Y:Int}(h:q*X<=p*Y)(hq:0<q)(hb:0<b)(hy:0<=Y)(hs:p*b<=t*q):b*X<=t*Y:=by
 have h1:b*(q*X)<=b*(p*Y):=Xu h (by omega)
 have h2:p*b*Y<=t*q*Y:=XR hs hy
 have e1:b*(p*Y)=p*b*Y:=by rw[<- Xg,Xk b p]
 have e2:t*q*Y=q*(t*Y):=by rw[Xk t q,Xg]
 have e3:b*(q*X)=q*(b*X):=by rw[<- Xg,Xk b q,Xg]
 have h3:q*(b*X)<=q*(t*Y):=by omega
 exact Xac h3 hq
theorem Low.more (G:Giv m w g){A:Nat->Bool}{p q t b:Int}(h:Low m w g A p q)(hq:0<q)(hb:0<b)(hs:p*b<=t*q):Low m w g A t b:=fun S hS=>ZuG (h S hS) hq hb (G.w0 _) hs
theorem Up.nn {A:Nat->Bool}(G:Giv m w g)(hA:∀k,k<m->A k=false):Up m w g A 0 1:=fun S _=>by
 have e:g A=0:=G.g0 A hA
 have:=G.nn (fun k=>A k||S k)
 omega
theorem Low.nil {A:Nat->Bool}(G:Giv m w g)(hA:∀k,k<m->A k=false):Low m w g A 0 1:=fun S hS=>by
 have e:g A=0:=G.g0 A hA
 have e2:g S=0:=G.g0 S fun k hk=>by
  cases c:S k with
  |false=>rfl
  |true=>exact Xp ((hA k hk).symm.trans (hS k hk c)) (by decide)
 rw[e,e2];omega
theorem Low.step (G:Giv m w g){A T:Nat->Bool}{p q t b:Int}(h:Low m w g A p q)(hu:Up m w g A t b)(hT:∀k,k<m->T k=true->A k=false)(ht:t*wS m w T=b*(g (fun k=>A k||T k)-g A))(hq:0<q)(hb:0<b)(hs:p*b<=t*q):Low m w g (fun k=>A k||T k) t b:=fun S hS=>by
 have h1:=hu (fun k=>S k && !A k) (fun k _ e=>by cases c:A k with|false=>rfl|true=>simp[c]at e)
 have e1:g (fun k=>A k||(S k && !A k))=g (fun k=>A k||S k):=G.ext _ _ fun k _=>by cases A k<;>cases S k<;>rfl
 rw[e1]at h1;have h2:=G.sub A S
 have h3:=(h.more G hq hb hs) (fun k=>A k&&S k) (fun k _ e=>by cases c:A k with|true=>rfl|false=>simp[c]at e)
 have e2:wS m w (fun k=>A k && !(A k&&S k))=wS m w (fun k=>A k && !S k):=ZmC fun k _=>by cases A k<;>cases S k<;>rfl
 rw[e2]at h3;have e3:wS m w (fun k=>(A k||T k) && !S k)=wS m w (fun k=>A k && !S k)+wS m w (fun k=>T k && !S k):=Zhb fun k hk=>by
  have:=hT k hk
  cases c1:A k<;>cases c2:T k<;>cases c3:S k<;>simp[c1,c2]at this ⊢
 have e4:wS m w T=wS m w (fun k=>S k && !A k)+wS m w (fun k=>T k && !S k):=Zhb fun k hk=>by
  have:=hT k hk
  have:=hS k hk
  cases c1:A k<;>cases c2:T k<;>cases c3:S k<;>simp_all
 rw[e3];rw[e4]at ht;have h2':b*(g (fun k=>A k||S k)+g (fun k=>A k&&S k))<=b*(g A+g S):=Xu h2 (by omega)
 simp only[XaB,XaV]at *;omega
theorem Up.step (G:Giv m w g){A T:Nat->Bool}{t b:Int}(hu:Up m w g A t b)(hT:∀k,k<m->T k=true->A k=false)(ht:t*wS m w T=b*(g (fun k=>A k||T k)-g A)):Up m w g (fun k=>A k||T k) t b:=fun S hS=>by
 have h1:=hu (fun k=>T k||S k) (fun k hk e=>by
  have h1:=hT k hk
  have h2:=hS k hk
  cases c1:A k<;>cases c2:T k<;>cases c3:S k<;>simp_all)
 have e1:wS m w (fun k=>T k||S k)=wS m w T+wS m w S:=Zhb fun k hk=>by
  have h2:=hS k hk
  cases c1:A k<;>cases c2:T k<;>cases c3:S k<;>simp_all
 have e2:g (fun k=>A k||(T k||S k))=g (fun k=>(A k||T k)||S k):=G.ext _ _ fun k _=>by cases A k<;>cases T k<;>cases S k<;>rfl
 rw[e1,e2]at h1;show t*wS m w S<=b*(g (fun k=>(A k||T k)||S k)-g (fun k=>A k||T k))
 simp only[XaB,XaV]at *;omega
theorem Zm7 (G:Giv m w g){A S:Nat->Bool}{p q:Int}(hl:Low m w g A p q)(hq:0<q)(hm:∀U:Nat->Bool,p*wS m w U-q*g U<=p*wS m w S-q*g S)(U:Nat->Bool)(hU:∀k,k<m->U k=true->A k=false) :
 p*wS m w U-q*(g (fun k=>A k||U k)-g A)<=p*wS m w (fun k=>S k && !A k)-q*(g (fun k=>A k||(S k && !A k))-g A):=by
 have h1:=hm (fun k=>A k||U k)
 have e1:wS m w (fun k=>A k||U k)=wS m w A+wS m w U:=Zhb fun k hk=>by
  have:=hU k hk
  cases c1:A k<;>cases c2:U k<;>simp_all
 have h2:=G.sub A S
 have h3:=hl (fun k=>A k&&S k) (fun k _ e=>by cases c:A k with|true=>rfl|false=>simp[c]at e)
 have e2:wS m w (fun k=>A k && !(A k&&S k))=wS m w (fun k=>A k && !S k):=ZmC fun k _=>by cases A k<;>cases S k<;>rfl
 rw[e2]at h3;have e3:g (fun k=>A k||(S k && !A k))=g (fun k=>A k||S k):=G.ext _ _ fun k _=>by cases A k<;>cases S k<;>rfl
 rw[e3];have e4:wS m w S=wS m w (fun k=>A k&&S k)+wS m w (fun k=>S k && !A k):=Zhb fun k _=>by cases c1:A k<;>cases c2:S k<;>simp
 have e5:wS m w A=wS m w (fun k=>A k&&S k)+wS m w (fun k=>A k && !S k):=Zhb fun k _=>by cases c1:A k<;>cases c2:S k<;>simp
 have h2':q*(g (fun k=>A k||S k)+g (fun k=>A k&&S k))<=q*(g A+g S):=Xu h2 (by omega)
 rw[e1,e4,e5]at h1;simp only[XaB,XaV]at *;omega
theorem ZlP {A T:Nat->Bool}{p q:Int}(hm:∀U:Nat->Bool,(∀k,k<m->U k=true->A k=false)->p*wS m w U-q*(g (fun k=>A k||U k)-g A)<=p*wS m w T-q*(g (fun k=>A k||T k)-g A))(h0:p*wS m w T<=q*(g (fun k=>A k||T k)-g A)):Up m w g A p q:=fun U hU=>by
 have:=hm U hU
 omega
theorem ZnT {p q p' q' W W' x x':Int}(hq:0<q)(hq':0<q')(hl:p'*q<p*q')(ht:p'*W=q'*x)(h1:p*W'-q*x'<=p*W-q*x)(h2:q'*x'<p'*W'):W'<W:=by
 refine Int.lt_of_not_ge fun c=>?_
 have a1:q'*(p*W'-q*x')<=q'*(p*W-q*x):=Xu h1 (by omega)
 have a2:q*(q'*x')<q*(p'*W'):=Int.mul_lt_mul_of_pos_left h2 hq
 have a3:q*(p'*W)=q*(q'*x):=by rw[ht]
 have a4:0<=(p*q'-p'*q)*(W'-W):=Xal (by omega) (by omega)
 have b1:q'*(q*x')=q*(q'*x'):=by rw[<- Xg,Xk q' q,Xg]
 have b2:q'*(q*x)=q*(q'*x):=by rw[<- Xg,Xk q' q,Xg]
 have b3:q'*(p*W')=p*q'*W':=by rw[<- Xg,Xk q' p]
 have b4:q'*(p*W)=p*q'*W:=by rw[<- Xg,Xk q' p]
 have b5:q*(p'*W')=p'*q*W':=by rw[<- Xg,Xk q p']
 have b6:q*(p'*W)=p'*q*W:=by rw[<- Xg,Xk q p']
 simp only[XaB,Int.sub_mul]at a1 a4;rw[b1,b2,b3,b4]at a1;rw[b5]at a2;rw[b6]at a3;omega
end
end Mir
section
namespace L2
open PySem PySem.Spec PyProof.Rows
theorem Zb7.at {xs:List V}{us:List Value}(r:Zb7 xs us):∀i:Nat,(xs[i]?=none/\us[i]?=none)\/∃x u,xs[i]?=some x/\us[i]?=some u/\Zbl x u:=by
 induction r with
 |nil=>intro i;exact .inl ⟨rfl,rfl⟩
 |cons a b ih =>
   intro i;cases i with
   |zero=>exact .inr ⟨_,_,rfl,rfl,a⟩
   |succ i=>exact ih i
section
variable {X:Cx}{e:Expr}{te:TE}{lo hi:Option Expr}{se:Expr}{tl th ts:TO}{pos p2:Pos}
end
section
variable {K:W.Frag}{ρ:ZaZ}{te:TE}
end
section
variable {K:W.Frag}{ρ:ZaZ}{D:PEnds}
end
section
variable {es:List Expr}{env:Env}
end
section
variable {X:Cx}{e:Expr}{es:List Expr}{te:TE}{t:TA}{pos:Pos}
end
section
variable {X:Cx}{a:Expr}{ta:TE}
def Zt3 (b:Bool)(ta:TE):TE:=fun σ H Q=>ta σ H fun x H1=>∃c,x=.bl c/\Q (.bl (c != b)) H1
theorem Zrf {b:Bool}{j pos'}(ha:PE X a ta):PC X .IsNot a (.Constant (.bool b) j pos') (Zt3 b ta):=fun Xbr s σ H Q I h =>
 thn (ha Xbr s σ H _ I h) fun v s1 ⟨x,H1,I1,r1,c,e,q1⟩=>by
  subst e;cases r1
  exact Constant_bool (isnot_bool ⟨.bl _,H1,I1,rfl,q1⟩)
end
section
variable {K:W.Frag}{ρ:ZaZ}{ta tb tc td:TE}
theorem Zsl {b c:Bool}(h:EvE K ta ρ (.bool c)):EvE K (Zt3 b ta) ρ (.bool (c != b)):=fun H0 F σ H Q S q=>h H0 F σ H _ S fun F1 H1 v x1 r1=>by
 cases r1;exact⟨c,rfl,q F1 H1 _ x1 (.bl _)⟩
end
theorem Zum {K:W.Frag}{ρ:ZaZ}{D:PEnds}{ta:TA}{i j:Nat}{d1 d2:PyData}(h:EvA K ta ρ [.fz d1,.fz d2])(hn:D.nx ((ρ.set i (some (.fz d1))).set j (some (.fz d2)))):EvS K (Zvi i j ta) ρ D:=fun F0 H0 F σ H E x S C =>
 h H0 F σ H _ S fun F1 H1 vs x1 r1=>by
  cases r1 with
  |fz r1 r2 =>
    cases r2 with
    |fz r2 r3 =>
      cases r3
      exact⟨_,_,rfl,C.nx F1 _ H1 _ (x.trans x1) (((S.ext x1).setF r1).setF r2) hn⟩
section
variable {X:Cx}{a b c d:Expr}{ta tb tc td:TE}{pos:Pos}
end
section
variable {K:W.Frag}{ρ:ZaZ}{ta tb tc td:TE}
end
theorem ZfS:∀{us:List Value} {ns:List Int},IntsAre us ns->Zb7 (ns.map V.int) us
 |_,_,.nil=>.nil
 |_,_,.cons n t h=>.cons ⟨t,rfl⟩ (ZfS h)
section
variable {X:Cx}
def Znp:List V->Hp->VK->Prop:=fun xs H Q=>∃(x:V) (ns:List Int),xs=[x]/\Rep H x (.list (ns.map PyData.int))/\ns.length<64/\∀(p:Addr) (ms:List Int),H p=none->ms.Perm ns->ms.Pairwise (· <= ·)->Q (.ref p) (upd H p (.lst (ms.map V.int)))
theorem Znr:Zd1 X (.builtin "sorted") Znp:=by
 intro Xbr s σ H xs us Q I r h;obtain⟨x,ns,rfl,rx,h64,q⟩:=h
 obtain⟨u,rfl,ru⟩:=Zhf r
 cases rx with
 |@lst a ys _ ha ra =>
   cases ru
   obtain⟨z,its,n,rv,e⟩:=I.hok _ _ ha
   have ey:ys=ns.map V.int:=ZcY ra
   have hI:IntsAre its ns:=Zd9 (by rw[<- ey];exact rv)
   have hl:its.length=ns.length:=by rw[<- rv.length,ey];simp
   refine sorted_ints ⟨_,e,rfl,n,rfl⟩ hI (by omega) fun out ms a1 a2 a3=>?_
   obtain⟨k,hk⟩:=sortedAll_at s.heap its out
   have ln:ms.length=ns.length:=a2.length_eq
   refine⟨.ref (s.heap.objs.size+1),_,I.laid (t':=s.toks) (a:=s.heap.objs.size+1) (o:=.lst (ms.map V.int)) (fun b ob q=>sortedAll_old q) (Nat.le_succ _) ?_,rfl,q _ ms (I.hok.fresh (Nat.le_succ _)) a2 a3⟩
   refine⟨by rw[Xj,ln];exact XY (XG h64 (by decide)),out.toList,k,ZfS a1,?_⟩
   rw[hk]
end
def Zdi:List Int->List Int->Bool
 |a::as,b::bs=>if a=b then Zdi as bs else decide (b<a)
 |_,_=>false
theorem Zk3:∀{us:List Value} {ns:List Int},IntsAre us ns->∀{i:Nat} {n:Int},ns[i]?=some n->∃t,us[i]?=some (.int n t)
 |_,_,.nil,i,n,e=>by simp at e
 |_,_,.cons m t h,0,n,e=>by
   simp at e
   exact⟨t,by simp[e]⟩
 |_,_,.cons m t h,i+1,n,e=>by
   obtain⟨t',h'⟩:=Zk3 h (i:=i) (n:=n) (by simpa using e)
   exact⟨t',by simpa using h'⟩
section
theorem Zss (l b:Addr)(xs ys:Array Value)(n n2:Nat)(dd dd2:Option Addr)(sl sl2:Array (Option Value))(ns ms:List Int)(hsz:ns.length=ms.length)(hx:IntsAre xs.toList ns)(hy:IntsAre ys.toList ms)(k:Nat) :
 ∀i:Nat,ns.length-i=k->Meets (Builtin.«list.__eq__.loop» ⟨[.ref l,.ref b,rawInt i,rawInt 4],[]⟩)
  (fun A R s=>s.heap.get? l=some { cls:=.type "list",dict:=dd,data:=.seq xs n,slots:=sl }/\s.heap.get? b=some { cls:=.type "list",dict:=dd2,data:=.seq ys n2,slots:=sl2 } /\
   R (.ok (.ret (.bool (Zdi (ns.drop i) (ms.drop i))))) s):=by
 have lx:xs.size=ns.length:=by have:=IntsAre.length hx;simpa using this
 have ly:ys.size=ms.length:=by have:=IntsAre.length hy;simpa using this
 induction k with
 |zero =>
   intro i hk prog w A R s h;obtain⟨hp,g,d,tk,os⟩:=s
   obtain⟨ja,jb,q⟩:=h
   wp_walk using AutoSeq1.wpAny_loadPart' ja,AutoSeq1.wpAny_loadPart' jb
   have e1:xs[((i:Nat):Int).toNat]?=none:=by simp;omega
   have e2:ys[((i:Nat):Int).toNat]?=none:=by simp;omega
   have e3:ns.drop i=[]:=by simp;omega
   rw[e3]at q;rw[e1,e2];wp_walk using AutoSeq1.wpAny_loadPart' ja,AutoSeq1.wpAny_loadPart' jb
   show R (.ok (.ret (.bool (decide (xs.size > ys.size))))) _
   rw[Xy (show ¬xs.size > ys.size by omega)]
   exact q
 |succ k ih =>
   intro i hk prog w A R s h;obtain⟨hp,g,d,tk,os⟩:=s
   obtain⟨ja,jb,q⟩:=h
   wp_walk using AutoSeq1.wpAny_loadPart' ja,AutoSeq1.wpAny_loadPart' jb
   have l1:i<ns.length:=by omega
   have l2:i<ms.length:=by omega
   obtain⟨ta,e1⟩:∃t,xs[((i:Nat):Int).toNat]?=some (.int ns[i] t):=by
    have:=Zk3 hx (i:=i) (n:=ns[i]) (by simp[l1])
    simpa using this
   obtain⟨tb,e2⟩:∃t,ys[((i:Nat):Int).toNat]?=some (.int ms[i] t):=by
    have:=Zk3 hy (i:=i) (n:=ms[i]) (by simp[l2])
    simpa using this
   have d1:ns.drop i=ns[i]::ns.drop (i+1):=Xay l1
   have d2:ms.drop i=ms[i]::ms.drop (i+1):=Xay l2
   rw[d1,d2]at q;rw[e1,e2];refine Xh (SeqAt.EqAt.int_int ns[i] ta ms[i] tb prog w _ _ ?_)
   have hc:((i:Int)+1)=((i+1:Nat):Int):=by omega
   by_cases hab:ns[i]=ms[i]
   ·have hb:(ns[i]==ms[i])=true:=by simp[hab]
    rw[hb];wp_walk
    rw[hc];exact⟨plainId_quiet MeetsSeq3.plain_eq_loop _,codeAny_builtin MeetsSeq3.entry_eq_loop (by
     rw[Around.under_plainId MeetsSeq3.plain_eq_loop _];exact ih (i+1) (by omega) prog w A R _ ⟨ja,jb,by simpa [Zdi,hab] using q⟩)⟩
   ·have hb:(ns[i]==ms[i])=false:=by simp[hab]
    rw[hb];wp_walk using AutoSeq1.wpAny_loadPart' ja,AutoSeq1.wpAny_loadPart' jb
    rw[e1,e2];show wpAny _ _ (richCompare .Gt (.int ns[i] ta) (.int ms[i] tb) >>= fun v=>ret v) _ _ _
    refine Xh (gt_int (XB ?_))
    show R (.ok (.ret (.bool (decide (ms[i]<ns[i]))))) _
    have e9:Zdi (ns[i]::ns.drop (i+1)) (ms[i]::ms.drop (i+1))=decide (ms[i]<ns[i]):=by
     show(if ns[i]=ms[i] then _ else decide (ms[i]<ns[i]))=_
     rw[Xa hab]
    rw[e9]at q;exact q
theorem ZrG (l b:Addr)(xs ys:Array Value)(n n2:Nat)(dd dd2:Option Addr)(sl sl2:Array (Option Value))(ns ms:List Int)(hsz:ns.length=ms.length)(hx:IntsAre xs.toList ns)(hy:IntsAre ys.toList ms) :
 Meets (Builtin.«list.__gt__» ⟨[.ref l,.ref b],[]⟩)
  (fun A R s=>s.heap.get? l=some { cls:=.type "list",dict:=dd,data:=.seq xs n,slots:=sl }/\s.heap.get? b=some { cls:=.type "list",dict:=dd2,data:=.seq ys n2,slots:=sl2 } /\
   R (.ok (.ret (.bool (Zdi ns ms)))) s):=by
 intro prog w A R s h;obtain⟨hp,g,d,tk,os⟩:=s
 obtain⟨ja,jb,q⟩:=h
 have f3:=AutoSeq1.sub_list_list
 wp_walk using AutoSeq1.wpAny_loadPart' ja,AutoSeq1.wpAny_loadPart' jb
 exact⟨plainId_quiet MeetsSeq3.plain_eq_loop _,codeAny_builtin MeetsSeq3.entry_eq_loop (by
  rw[Around.under_plainId MeetsSeq3.plain_eq_loop _];exact Zss l b xs ys n n2 dd dd2 sl sl2 ns ms hsz hx hy _ 0 rfl prog w A R _ ⟨ja,jb,by simpa using q⟩)⟩
variable {X:Cx}
def ZuO (K:W.Frag):R2:=fun x y H Q=>∃ns ms,Rep H x (.list (ns.map PyData.int))/\Rep H y (.list (ms.map PyData.int))/\ns.length=ms.length/\Q (.bl (Zdi ns ms)) H
theorem Zuk (hu:X.A.units+64<cLine):OpR X (compareOp .Gt) (ZuO X.K):=by
 intro Xbr s σ H x y v u Q I rx ry h;obtain⟨ns,ms,r1,r2,hl,q⟩:=h
 cases r1 with
 |@lst a xs _ ha ra =>
   cases r2 with
   |@lst b ys _ hb rb =>
     cases rx
     cases ry
     obtain⟨z,its,n,rv,e⟩:=I.hok _ _ ha
     obtain⟨z',its',n',rv',e'⟩:=I.hok _ _ hb
     have ex:xs=ns.map V.int:=ZcY ra
     have ey:ys=ms.map V.int:=ZcY rb
     have i1:IntsAre its.toArray.toList ns:=Zd9 (by rw[<- ex];exact rv)
     have i2:IntsAre its'.toArray.toList ms:=Zd9 (by rw[<- ey];exact rv')
     exact richCompare_meets_room (op:=.Gt) ⟨_,e,rfl⟩ ⟨_,e',rfl⟩ PySem.F.slot_list_gt PySem.F.entry_list_gt (PySem.F.args_list_gt_2 _ _) (ZrG a b _ _ n n' none none #[] #[] ns ms hl i1 i2)
      ⟨e,e',show Value.bool (Zdi ns ms)≠Value.notImplemented/\_ from⟨(fun x=>nomatch x),⟨.bl (Zdi ns ms),H,I,rfl,q⟩⟩⟩ (by omega)
end
section
variable {K:W.Frag}{ρ:ZaZ}{ta tb:TE}{D:PEnds}
theorem ZsP {ns ms:List Int}(ha:EvE K ta ρ (.list (ns.map PyData.int)))(hb:EvE K tb ρ (.list (ms.map PyData.int)))(hl:ns.length=ms.length):EvE K (tOp (ZuO K) ta tb) ρ (.bool (Zdi ns ms)):=fun H0 F σ H Q S q =>
 ZdW ha hb S fun F' H' x y e r1 r2=>⟨ns,ms,r1.mono e.fh,r2.mono e.fh,hl,q F' H' _ e (.bl _)⟩
theorem Zqh:∀{l m:List Int},l.Perm m->l.Pairwise (· <= ·)->m.Pairwise (· <= ·)->l=m:=fun p h1 h2=>by
 exact p.eq_of_pairwise (le:=(· <= ·)) (fun a b _ _ h h'=>Int.le_antisymm h h') h1 h2
theorem Zo9 {ns ms:List Int}(h:EvE K ta ρ (.list (ns.map PyData.int)))(hp:ms.Perm ns)(hs:ms.Pairwise (· <= ·))(hn:ns.length<64):EvO K (tCB Znp (ZaM ta Zd8)) ρ (.ol (ms.map PyData.int)):=fun H0 F σ H Q S q =>
 h H0 F σ H _ S fun F1 H1 v x1 r1=>⟨v,ns,rfl,r1.mono x1.fh,hn,fun p ks hp' k1 k2=>by
  have e:ks=ms:=Zqh (k1.trans hp.symm) k2 hs
  subst e;obtain⟨a,b,c⟩:=ZfD (K:=K) x1 hp' (Zjj (H:=F1) ks)
  exact q _ _ _ _ a b c⟩
end
theorem ZoH:bootBuiltins "sorted"=some (.builtin "sorted"):=by decide +kernel
section
variable {X:Cx}
def ipM:TIp:=fun x y H Q=>∃i j,x=.int i/\y=.int j/\IntMulOk i j/\Q (.int (i*j)) H
theorem Zsj:PIp X .Mult ipM:=by
 intro Xbr s σ H x y v u Q I r1 r2 h;obtain⟨i,j,rfl,rfl,hc,q⟩:=h
 obtain⟨t,rfl⟩:=r1
 obtain⟨t',rfl⟩:=r2
 exact imul_int ⟨.int (i*j),H,I.tok _,⟨_,rfl⟩,q⟩ hc
def Zni:V->List V->Hp->VK->Prop:=fun x vs H Q=>∃l xs k y,x=.ref l/\vs=[.int k,y]/\H l=some (.lst xs)/\0<=k/\k.toNat<=xs.length/\xs.length<1000/\Q .non (upd H l (.lst (xs.take k.toNat++y::xs.drop k.toNat)))
theorem Zns:MtM X "list.insert" Zni:=by
 intro Xbr s σ H x vs v us Q I rx rv h;obtain⟨l,xs,k,y,rfl,rfl,hH,h0,h1,h2,q⟩:=h
 cases rx
 obtain⟨u,w,rfl,ru,rw'⟩:=ZpO rv
 obtain⟨t,rfl⟩:=ru
 obtain⟨z,its,n,r,hl,e⟩:=I.lstM hH
 have hn:¬(!Builtin.List.listFitsIndex k)=true:=by
  rw[fitsIndex_both (by omega) (by omega)];exact Xq
 refine call_meets F.slot_list_insert ⟨_,e,rfl⟩ F.entry_list_insert (F.args_list_insert_3 _ _ _) (AutoListH.list_insert_list_int_val_1 l its.toArray n k t w hn (by rw[XC];omega)) ⟨e,?_⟩
 refine⟨.non,_,I.lset (its':=its.take k.toNat++w::its.drop k.toNat) hH e ?_ ((r.take k.toNat).append (.cons rw' (r.drop k.toNat))) ?_,rfl,q⟩
 ·have hm:min k.toNat its.toArray.size=k.toNat:=by rw[XC,<- hl];omega
  dsimp only;rw[Xa (by omega),hm];apply Array.toList_inj.mp
  simp
  exact List.take_of_length_le (by rw[List.length_drop];exact Xw _)
 ·rw[Xt,XaX,XW,List.length_drop]
  exact XY (ZaO (by omega))
end
section
variable {K:W.Frag}{ρ:ZaZ}{te ti:TE}{D:PEnds}
theorem Zsx {i:Nat}{m n:Int}(e:ρ[i]?=some (some (.fz (.int m))))(h:EvE K te ρ (.int n))(hc:IntMulOk m n)(hn:D.nx (ρ.set i (some (.fz (.int (m*n)))))):EvS K (ZuX i te ipM) ρ D:=fun F0 H0 F σ H E x S C=>by
 obtain⟨fp,g,_⟩:=S.fp
 obtain⟨v,e1,_,r⟩:=g i _ e
 cases r
 refine⟨_,e1,h H0 F σ H _ S fun F1 H1 y x1 r1=>?_⟩
 cases r1
 exact⟨m,n,rfl,rfl,hc,C.nx F1 _ H1 _ (x.trans x1) ((S.ext x1).setF (.int _)) hn⟩
theorem Zoy {i:Nat}{ds:List PyData}{d:PyData}{k:Int}(e:ρ[i]?=some (some (.ol ds)))(hk:EvE K ti ρ (.int k))(h:EvE K te ρ d)(h0:0<=k)(h1:k.toNat<=ds.length)(hl:ds.length<1000)(hn:D.nx (ρ.set i (some (.ol (ds.take k.toNat++d::ds.drop k.toNat))))) :
 EvS K (Zi8 (tBM K "list" Zni (Zb8 i) (ZaM ti (ZaM te Zd8)))) ρ D:=fun F0 H0 F σ H E x S C=>by
 obtain⟨a,xs,e1,e2,e3,_⟩:=S.write e
 refine⟨_,e1,.inl ⟨rfl,_,SqL.of e2⟩,hk H0 F σ H _ S fun F1 H1 v x1 r1=>h H0 F1 σ H1 _ (S.ext x1) fun F2 H2 w x2 r2=>?_⟩
 cases r1
 have X2:=x1.trans x2
 obtain⟨a',xs',f1,f2,f3,f4,f5,f6⟩:=(S.ext X2).write e
 rw[e1]at f1;cases f1
 refine⟨a,xs',k,w,rfl,rfl,f2,h0,by rw[f3.length];exact h1,by rw[f3.length];exact hl,?_⟩
 exact C.nx F2 σ _ _ ((x.trans X2).wr f4 f5) (f6 _ _ ((f3.take k.toNat).append (.cons r2 (f3.drop k.toNat)))) hn
end
end L2
end
namespace PySem
section
variable {prog:Program}{w:World}{K:Type} [DecidableEq K] (knd:KeyKind prog w K)
def Zbc (h:Heap) (xy:List K×List K) (a:Addr):Prop := ∃o n p q,h.get? a=some o/\o.cls=.type "tuple" /\ o.data=.seq #[.ref p,.ref q] n/\IsTupleKey knd h xy.1 p/\IsTupleKey knd h xy.2 q
variable {knd}
theorem Zbc.typeIs {s:Shared} {ks:List K×List K} {a:Addr} (x:Zbc knd s.heap ks a):s.TypeIs (.ref a) "tuple" := let ⟨o,_,_,_,ho,hc,_⟩:=x;⟨o,ho,hc⟩
theorem Zbc.inj {h:Heap}{a:Addr}{x y:List K×List K}(hx:Zbc knd h x a)(hy:Zbc knd h y a):x=y:=by
 obtain⟨o,n,p,q,ho,_,hd,h1,h2⟩:=hx
 obtain⟨o',n',p',q',ho',_,hd',h1',h2'⟩:=hy
 cases Option.some.inj (ho.symm.trans ho')
 rw[hd]at hd';injection hd' with z _
 have z1:=Xaf Array.toList z
 simp at z1
 obtain⟨rfl,rfl⟩:=z1
 exact Prod.ext (h1.inj h1') (h2.inj h2')
theorem Zbc.keeps {h h':Heap}{ks:List K×List K}{a d:Addr}{o:Obj}{es ep}(x:Zbc knd h ks a)(ho:h.get? d=some o)(hd:o.data=.dict es ep)(hs:Heap.SameBut d h h'):Zbc knd h' ks a:=by
 obtain⟨o',n,p,q,ho',hc,hd',h1,h2⟩:=x
 have hne:a≠d:=fun z=>by
  subst z;cases Option.some.inj (ho'.symm.trans ho)
  rw[hd]at hd';exact nomatch hd'
 exact⟨o',n,p,q,(hs.2 a hne).trans ho',hc,hd',h1.keeps ho hd hs,h2.keeps ho hd hs⟩
def Zis (knd:KeyKind prog w K)(ks:List K×List K):Int:=reduceHash (Builtin.Tuple.tupleHashOf [tupleKeyHash knd ks.1,tupleKeyHash knd ks.2])
variable {A:Around}{E:Value->Shared->Prop}{s:Shared}
theorem Zfw {ks:List K×List K}{a:Addr}{Q:Int->Shared->Prop}(hu:A.units+5<cLine)(hk:Zbc knd s.heap ks a)(h:Q (Zis knd ks) { s with toks:=s.toks+(ks.1.length+ks.2.length+3) }) :
 wpAny (model prog w) A (pyHash (.ref a)) Q E s:=by
 have hT:=hk.typeIs
 obtain⟨o,n,p,q,ho,_,hd,h1,h2⟩:=hk
 unfold pyHash pyHashByItsType;refine Xh (wpAny_cRoomFor_or (.inr (by omega)) ?_)
 refine Xh (wpAny_specialOf hT F.slot_tuple_hash.lookup ?_)
 show wpAny _ _ (if (some (Value.builtin "tuple.__hash__")==some Value.none)=true then _ else _) Q E s
 rw[Xa (by rw[beq_builtin_none];exact Xq)];refine Xh (wpAny_specialOf hT F.slot_tuple_hash.lookup ?_)
 show wpAny _ _ (callSpecialIfBoundUnlessNone? (.ref a) "__hash__" _ >>= _) Q E s
 refine Xh (wpAny_callSpecialIfBoundUnlessNone?_slot hT F.slot_tuple_hash (wpAny_call_entry F.slot_tuple_hash hT F.entry_tuple_hash ?_ (F.args_tuple_hash_1 _)))
 show wpAny _ _ (Builtin.Tuple.tupleItemsOf (.ref a) >>= _) _ _ s
 refine Xh (wpAny_tupleItemsOf ho hd ?_)
 refine Xh ?_
 rw[<- Array.forIn_toList];refine wpAny_forIn_list _
  (fun rest (b:Array Int) s'=>(rest=[.ref p,.ref q]/\b.toList=[]/\s'=s)\/(rest=[.ref q]/\b.toList=[tupleKeyHash knd ks.1]/\s'={ s with toks:=s.toks+(ks.1.length+1) }) \/
   (rest=[]/\b.toList=[tupleKeyHash knd ks.1,tupleKeyHash knd ks.2]/\s'={ s with toks:=s.toks+(ks.1.length+1)+(ks.2.length+1) }))
  _ ?_ ?_ _ _ (.inl ⟨rfl,rfl,rfl⟩)
 ·rintro x rest b s' (⟨hr,hb,rfl⟩|⟨hr,hb,rfl⟩|⟨hr,_⟩)
  ·injection hr with e1 e2
   subst e1 e2;refine Xh (wpAny_pyHash_tuple ?hu1 h1 ?_)
   case hu1=>show A.units+1<cLine;omega
   exact XB (.inr (.inl ⟨rfl,by simp[hb],rfl⟩))
  ·injection hr with e1 e2
   subst e1 e2;refine Xh (wpAny_pyHash_tuple ?hu2 h2 ?_)
   case hu2=>show A.units+1<cLine;omega
   exact XB (.inr (.inr ⟨rfl,by simp[hb],rfl⟩))
  ·cases hr
 ·rintro b s' (⟨hr,_⟩|⟨hr,_⟩|⟨_,hb,rfl⟩)
  ·cases hr
  ·cases hr
  show wpAny _ _ (retInt (Builtin.Tuple.tupleHashOf b.toList)) _ _ _
  rw[hb];refine wpAny_ret_mkInt ?_
  show wpAny _ _ (if (decide (-(2:Int)^63<=Builtin.Tuple.tupleHashOf [tupleKeyHash knd ks.1,tupleKeyHash knd ks.2])&&decide (Builtin.Tuple.tupleHashOf [tupleKeyHash knd ks.1,tupleKeyHash knd ks.2]<2^63))=true then _ else _) Q E _
  unfold Zis reduceHash at h;have et:s.toks+(ks.1.length+ks.2.length+3)=s.toks+(ks.1.length+1)+(ks.2.length+1)+1:=by omega
  rw[et]at h;split
  ·rename_i hr
   rw[Xc hr]at h;exact XB h
  ·rename_i hr
   rw[Xa hr]at h;exact Xh (wpAny_rule (XB h))
theorem Zjk {x y:List K×List K}{a b:Addr}{P:Fin->Shared->Prop}(hu:A.units+1<cLine)(hx:Zbc knd s.heap x a)(hy:Zbc knd s.heap y b)(h:P (.done (.ret (.bool (decide (x=y))))) s) :
 wpAny (model prog w) A (Builtin.«tuple.__eq__» ⟨[.ref a,.ref b],[]⟩) P E s:=by
 have hTb:=hy.typeIs
 obtain⟨oa,na,p,q,hoa,_,hda,ha1,ha2⟩:=hx
 obtain⟨ob,nb,p',q',hob,_,hdb,hb1,hb2⟩:=hy
 show wpAny _ _ (isInstance (.ref b) (.type "tuple") >>= _) _ _ s
 refine Xh (wpAny_isInstance hTb isSubtype_tuple_tuple ?_)
 simp only[Xa4,Xag,if_false];refine Xh (wpAny_tupleItemsOf hoa hda ?_)
 refine Xh (wpAny_tupleItemsOf hob hdb ?_)
 refine Xh ?_
 have e2:decide (x=y)=(decide (x.1=y.1)&&decide (x.2=y.2)):=by
  obtain⟨x1,x2⟩:=x
  obtain⟨y1,y2⟩:=y
  simp
 refine wpAny_forIn_list _
  (fun rest r s'=>r.1=none/\s'=s/\((rest=[(.ref p,.ref p'),(.ref q,.ref q')])\/(rest=[(.ref q,.ref q')]/\x.1=y.1)\/(rest=[]/\x=y)))
  _ ?_ ?_ _ _ ⟨rfl,rfl,.inl rfl⟩
 ·rintro⟨u,v⟩ rest r s' ⟨hr,rfl,(hz|⟨hz,e1⟩|⟨hz,_⟩)⟩
  ·injection hz with z1 z2
   injection z1 with z3 z4
   subst z2 z3 z4;refine Xh (wpAny_eqBool_tuple (by omega) ha1 hb1 ?_)
   by_cases hk:x.1=y.1
   ·rw[X9 hk]
    simp only[Xa4,Xag,if_false];exact XB ⟨rfl,rfl,.inr (.inl ⟨trivial,hk⟩)⟩
   ·rw[Xy hk]
    simp only[Xbo,if_true];rw[e2,Xy hk,Bool.false_and]at h;exact Xh (XB (XB (XB h)))
  ·injection hz with z1 z2
   injection z1 with z3 z4
   subst z2 z3 z4;refine Xh (wpAny_eqBool_tuple (by omega) ha2 hb2 ?_)
   by_cases hk:x.2=y.2
   ·rw[X9 hk]
    simp only[Xa4,Xag,if_false];exact XB ⟨rfl,rfl,.inr (.inr ⟨trivial,Prod.ext e1 hk⟩)⟩
   ·rw[Xy hk]
    simp only[Xbo,if_true];rw[e2,Xy hk,Bool.and_false]at h;exact Xh (XB (XB (XB h)))
  ·cases hz
 ·rintro⟨r1,r2⟩ s' ⟨hr,rfl,(hz|⟨hz,_⟩|⟨_,e⟩)⟩
  ·cases hz
  ·cases hz
  simp only at hr
  subst hr;refine XB ?_
  rw[X9 e]at h;exact h
theorem ZfA {x y:List K×List K}{a b:Addr}{Q:Bool->Shared->Prop}(hu:A.units+5<cLine)(hx:Zbc knd s.heap x a)(hy:Zbc knd s.heap y b)(h:Q (decide (x=y)) s) :
 wpAny (model prog w) A (eqBool (.ref a) (.ref b)) Q E s:=by
 unfold eqBool;try with_reducible refine wpAny_holding ?_
 show wpAny _ _ (if (Value.ref a==Value.ref b)=true then _ else _) Q E s
 by_cases hab:(Value.ref a==Value.ref b)=true
 ·rw[Xc hab]
  have e:a=b:=by have:=eq_of_beq hab;injection this
  subst e;cases hx.inj hy
  exact Xh (wpAny_rule (XB (by simpa using h)))
 ·rw[Xa hab]
  exact Xh (wpAny_richCompare_same_room (op:=.Eq) hx.typeIs hy.typeIs F.slot_tuple_eq
   (wpAny_call_entry F.slot_tuple_eq hx.typeIs F.entry_tuple_eq (Zjk (by show _+1<cLine;simp;omega) hx hy ⟨_,rfl,(fun e=>nomatch e),wpAny_truthy_bool h⟩) (F.args_tuple_eq_2 _ _)) (by omega))
theorem ZkE (n:Nat){ks:List K}{a:Addr}{Q:Bool->Shared->Prop}(hk:IsTupleKey knd s.heap ks a)(h:Q true s):wpAny (model prog w) A (eqIsQuiet (n+1) (.ref a)) Q E s:=by
 have hT:=hk.typeIs
 obtain⟨o,items,m,ho,_,hd,hi⟩:=hk
 unfold eqIsQuiet;refine Xh (wpAny_specialOf hT F.slot_tuple_eq.lookup ?_)
 show wpAny _ _ (isInstance (.ref a) (.type "tuple") >>= _) _ _ s
 refine Xh (wpAny_isInstance hT isSubtype_tuple_tuple ?_)
 simp only[Xa4,Xag,if_false];refine Xh (wpAny_seqItems ho hd ?_)
 refine Xh ?_
 show wpAny _ _ (forIn items _ _) _ _ s
 rw[<- Array.forIn_toList];refine wpAny_forIn_list _ (fun rest r s'=>r.1=none/\s'=s/\∀v∈rest,carriedByValue v=true) _ ?_ ?_ _ _ ⟨rfl,rfl,hi.byValue⟩
 ·rintro v rest r s' ⟨hr,rfl,hall⟩
  rw[eqIsQuiet_byValue _ (hall v Xb)];refine Xh (XB ?_)
  simp only[Xa4,Xag,if_false];exact XB ⟨rfl,rfl,fun u hu'=>hall u (Xd _ hu')⟩
 ·rintro⟨r1,r2⟩ s' ⟨hr,rfl,_⟩
  simp only at hr
  subst hr;exact XB h
theorem Ze8 {ks:List K×List K}{a:Addr}{Q:Bool->Shared->Prop}(hk:Zbc knd s.heap ks a)(h:Q true s):wpAny (model prog w) A (eqIsQuiet 8 (.ref a)) Q E s:=by
 have hT:=hk.typeIs
 obtain⟨o,n,p,q,ho,_,hd,h1,h2⟩:=hk
 unfold eqIsQuiet;refine Xh (wpAny_specialOf hT F.slot_tuple_eq.lookup ?_)
 show wpAny _ _ (isInstance (.ref a) (.type "tuple") >>= _) _ _ s
 refine Xh (wpAny_isInstance hT isSubtype_tuple_tuple ?_)
 simp only[Xa4,Xag,if_false];refine Xh (wpAny_seqItems ho hd ?_)
 refine Xh ?_
 show wpAny _ _ (forIn #[Value.ref p,Value.ref q] _ _) _ _ s
 rw[<- Array.forIn_toList];refine wpAny_forIn_list _ (fun rest r s'=>r.1=none/\s'=s/\∀v∈rest,∃z zs,v=.ref z/\IsTupleKey knd s.heap zs z) _ ?_ ?_ _ _ ⟨rfl,rfl,fun v hv=>?_⟩
 ·rintro v rest r s' ⟨hr,rfl,hall⟩
  obtain⟨z,zs,rfl,hz⟩:=hall v Xb
  refine Xh (ZkE 6 hz ?_)
  simp only[Xa4,Xag,if_false];exact XB ⟨rfl,rfl,fun u hu'=>hall u (Xd _ hu')⟩
 ·rintro⟨r1,r2⟩ s' ⟨hr,rfl,_⟩
  simp only at hr
  subst hr;exact XB h
 ·rcases Xf.mp hv with rfl|hv
  ·exact⟨p,_,rfl,h1⟩
  ·rcases Xf.mp hv with rfl|hv
   ·exact⟨q,_,rfl,h2⟩
   ·cases hv
end
def Zi9 {prog:Program}{w:World}{K:Type} [DecidableEq K] (knd:KeyKind prog w K):HeapKind prog w (List K×List K) where
 is:=Zbc knd
 hash:=Zis knd
 draws:=fun ks=>ks.1.length+ks.2.length+3
 room:=fun A=>A.units+5<cLine
 inj:=fun hx hy=>hx.inj hy
 keeps:=fun x ho hd hs=>x.keeps ho hd hs
 pyHash:=fun hu hk h=>Zfw hu hk h
 eqBool:=fun hu hx hy h=>ZfA hu hx hy h
 quiet:=fun hk h=>Ze8 hk h
section
variable {prog:Program}{w:World}{K:Type} [DecidableEq K] {knd:HeapKind prog w K}{A:Around}{E:Value->Shared->Prop}{s:Shared}
theorem Zdv {d a:Addr}{xs:List (K×Addr×Value)}{k:K}{dflt:Value}{Q:Value->Shared->Prop}(hu:knd.room A)(hkey:knd.is s.heap k a)(hm:s.heap.DictOfH knd d xs)
 (hthere:∀p,atKey xs k=some p->Q p.2 { s with toks:=s.toks+knd.draws k })
 (hnew:atKey xs k=none->∀h',h'.DictOfH knd d (xs++[(k,a,dflt)])->Heap.SameBut d s.heap h'->Q dflt { s with heap:=h',toks:=s.toks+knd.draws k })
 (hsz:xs.length<=sizeLine) :
 wpAny (model prog w) A (dictSetDefault d (.ref a) dflt) Q E s:=by
 obtain⟨o,es,ep,ho,hc,hd,he,his,hn⟩:=hm
 unfold dictSetDefault;try with_reducible refine wpAny_holding ?_
 refine Xh (knd.pyHash hu hkey ?_)
 refine Xh (wpAny_dictFind_heap (s:={ s with toks:=s.toks+knd.draws k }) hu hkey ho hd he his hn ?_ ?_)
 ·intro hno
  have hnot:k∉xs.map (·.1):=not_mem_keys_of_get hno
  refine Xh (wpAny_rule (Xh (wpAny_updateDictKeys (hz:=by have e:=size_of_entries he;omega) (s:={ s with toks:=s.toks+knd.draws k }) ho hd (XB (hnew (atKey_none_of_get hno) _ ⟨_,_,ep+1,Heap.get?_update_self _ ho (Obj.isFreed_of_dict (Obj.data_mapDictKeys hd _)),
   hc.mapDictKeys _,Obj.data_mapDictKeys hd _,?_,?_,?_⟩ (Heap.SameBut.update ..))))))
  ·simp[he,entryOfKey]
  ·intro x hx
   rcases XI.mp hx with hx|hx
   ·exact knd.keeps (his x hx) ho hd (Heap.SameBut.update ..)
   ·simp only[Xm]at hx
    subst hx;exact knd.keeps hkey ho hd (Heap.SameBut.update ..)
  ·rw[Xz,XaS]
   refine⟨hn,by simp,?_⟩
   intro x hx y hy;simp only[Xr,XaY,Xm]at hy;subst hy;exact fun e=>hnot (e▸hx)
 ·intro j p hj
  refine Xh (wpAny_dictEntries (s:={ s with toks:=s.toks+knd.draws k }) ho hd ?_)
  rw[entry_at he j,hj];exact Xh (wpAny_rule (XB (hthere _ (atKey_of_get hn hj))))
theorem Zea (knd:HeapKind prog w K)(d a:Addr)(hd:(d==sysModules)=false)(dflt:Value) :
 MeetsIn prog w (Builtin.«dict.setdefault» ⟨[.ref d,.ref a,dflt],[]⟩) (fun A R s=>knd.room A.in1/\∃k xs,knd.is s.heap k a/\s.heap.DictOfH knd d xs/\xs.length<=sizeLine /\
  (∀p,atKey xs k=some p->R (.ok (.ret p.2)) { s with toks:=s.toks+knd.draws k }) /\
  (atKey xs k=none->∀h',h'.DictOfH knd d (xs++[(k,a,dflt)])->Heap.SameBut d s.heap h'->R (.ok (.ret dflt)) { s with heap:=h',toks:=s.toks+knd.draws k })) :=
 .of_wp fun A R s ⟨hu,k,xs,hkey,hm,hz,h1,h2⟩=>by
  unfold Builtin.«dict.setdefault»;refine Xh ?_
  unfold Builtin.Dict.keyAndDefault;refine Xh (wpAny_notOrdered_dict hm.typeIs ?_)
  show wpAny _ _ (pure (d,Value.ref a,some dflt)) _ _ s
  refine XB ?_
  show wpAny _ _ (if (d==sysModules)=true then _ else (dictSetDefault d (.ref a) dflt >>= _)) _ _ s
  rw[Xa (by rw[hd];exact Xq)];exact Xh (Zdv hu hkey hm (fun p hp=>XB ⟨p.2,rfl,h1 p hp⟩) (fun hn h' hm' hs'=>XB ⟨dflt,rfl,h2 hn h' hm' hs'⟩) hz)
end
end PySem
theorem Ztx:1<=1000:=by decide
theorem ZoX:2<=1000:=by decide
namespace My
end My
namespace L2
open PySem
theorem Za7.keep {F H H':Hp}:∀{as:List Addr} {dss:List (List PyData)},(∀b∈as,H' b=H b)->Za7 F H as dss->Za7 F H' as dss
 |[],[],_,_=>trivial
 |a::as,_::_,h,o=>by
   obtain⟨⟨h1,xs,h2,h3⟩,o2⟩:=o
   exact⟨⟨h1,xs,by rw[h a Xb];exact h2,h3⟩,Za7.keep (fun b hb=>h b (Xd _ hb)) o2⟩
 |[],_::_,_,h=>False.elim h
 |_::_,[],_,h=>False.elim h
theorem ZaN.keep {K:W.Frag}{F H H':Hp}{v:V}{t:OT}{p:List Addr}(k:∀b∈p,H' b=H b)(h:ZaN K F H v t p):ZaN K F H' v t p:=by
 cases t with
 |fz d=>exact h
 |zow Ψ=>exact h
 |ol ds =>
   obtain⟨a,rfl,rfl,h1,xs,h2,h3⟩:=h
   exact⟨a,rfl,rfl,h1,xs,by rw[k a Xb];exact h2,h3⟩
 |oll dss =>
   obtain⟨a,as,rfl,rfl,h1,h2,h3,h4⟩:=h
   exact⟨a,as,rfl,rfl,h1,h2,by rw[k a Xb];exact h3,h4.keep fun b hb=>k b (Xd _ hb)⟩
 |scr ns=>exact h
 |own v0 Φ =>
   obtain⟨h1,h2⟩:=h
   exact⟨h1,Φ.mono (ZaP.refl _) (fun a ha=>(Φ.there h2 a ha).1) k h2⟩
theorem Sta.writeOwn {K:W.Frag}{H0 F H:Hp}{ρ:ZaZ}{σ:St}{i:Nat}{v:V}{Φ:OwnP}(s:Sta K H0 F ρ σ H)(e:ρ[i]?=some (some (.own v Φ))) :
 σ[i]?=some (some v)/\∃p,Φ.ok K F H v p/\(∀a∈p,H0 a=none/\F a=none/\H a≠none) /\
  ∀(H':Hp) (Φ':OwnP) (p':List Addr),ZaP F H'->(∀b,b∉p->H b≠none->H' b=H b)->(∀b,H b≠none->H' b≠none)->Φ'.ok K F H' v p'->(∀a∈p',a∈p\/(H a=none/\H0 a=none)) ->
   Sta K H0 F (ρ.set i (some (.own v Φ'))) σ H':=by
 obtain⟨kt,h1,h2,fp,h3,h4,h5⟩:=s
 obtain⟨u,e1,rfl,e2⟩:=h3 i _ e
 refine⟨e1,fp i,e2,fun a ha=>⟨(h5 i a ha).1,(Φ.there e2 a ha).1,(h5 i a ha).2⟩,fun H' Φ' p' sm kp st ok sub=>?_⟩
 have hlt:=(Xe.mp e).1
 refine⟨kt,sm,by simp[h2],fun j=>if j=i then p' else fp j,fun j t' e'=>?_,fun j k a ha hb=>?_,fun j a ha=>?_⟩
 ·by_cases hj:j=i
  ·subst hj
   rw[XN hlt]at e';cases e'
   refine⟨_,e1,rfl,?_⟩
   simp only[if_true];exact ok
  ·rw[XU (Ne.symm hj)]at e'
   obtain⟨u',f1,f2⟩:=h3 j t' e'
   refine⟨u',f1,?_⟩
   simp only[Xa hj];exact f2.keep fun b hb=>kp b (fun z=>hj (h4 j i b hb z)) (h5 j b hb).2
 ·by_cases hj:j=i
  ·by_cases hk:k=i
   ·omega
   ·simp only[Xc hj]at ha
    simp only[Xa hk]at hb;rcases sub a ha with z|z
    ·exact Xp (h4 k i a hb z) hk
    ·exact Xp z.1 (h5 k a hb).2
  ·simp only[Xa hj]at ha
   by_cases hk:k=i
   ·simp only[Xc hk]at hb
    rcases sub a hb with z|z
    ·exact Xp (h4 j i a ha z) hj
    ·exact Xp z.1 (h5 j a ha).2
   ·simp only[Xa hk]at hb
    exact h4 j k a ha hb
 ·by_cases hj:j=i
  ·simp only[Xc hj]at ha
   rcases sub a ha with z|z
   ·exact⟨(h5 i a z).1,st a (h5 i a z).2⟩
   ·exact⟨z.2,(Φ'.there ok a ha).2⟩
  ·simp only[Xa hj]at ha
   exact⟨(h5 j a ha).1,st a (h5 j a ha).2⟩
end L2
namespace L2
open PySem
def Ztu:Key->PyData
 |.inl i=>.int i
 |.inr x=>.str x
def ZbF (k:List Key):PyData:=.tuple (k.map Ztu)
theorem ZhJ {F:Hp}{y:V}{k:Key}(r:Rep F y (Ztu k)):y=kV k:=by
 cases k with
 |inl i=>cases r;rfl
 |inr x=>cases r;rfl
theorem Zjg {F:Hp}:∀{ys:List V} {k:List Key},Reps F ys (k.map Ztu)->ys=k.map kV
 |_,[],.nil=>rfl
 |_,k::ks,.cons r rs=>by rw[ZhJ r,Zjg rs];rfl
theorem Zdz {F:Hp}{y:V}{k:List Key}(r:Rep F y (ZbF k)):∃b,y=.ref b/\F b=some (.tup (k.map kV)):=by
 unfold ZbF at r;cases r with
 |tup h rs=>exact⟨_,rfl,by rw[h,Zjg rs]⟩
abbrev Zge:=List (List Key×PyData)
def ZjM (kvs:Zge)(k:List Key):Option PyData:=(kvs.find? fun kv=>decide (kv.1=k)).map (·.2)
def ZsH (kvs:Zge)(k:List Key)(d:PyData):Zge:=if (kvs.any fun kv=>decide (kv.1=k))=true then kvs.map (fun kv=>if kv.1=k then (kv.1,d) else kv) else kvs++[(k,d)]
inductive PairD (F:Hp):List (List Key×V)->Zge->Prop
 |nil:PairD F [] []
 |cons {k:List Key} {x:V} {d:PyData} {xs:List (List Key×V)} {kvs:Zge}:Rep F x d->PairD F xs kvs->PairD F ((k,x)::xs) ((k,d)::kvs)
theorem PairD.mono {F F':Hp}(s:ZaP F F'):∀{xs:List (List Key×V)} {kvs:Zge},PairD F xs kvs->PairD F' xs kvs
 |_,_,.nil=>.nil
 |_,_,.cons r t=>.cons (r.mono s) (t.mono s)
theorem PairD.length {F:Hp}:∀{xs:List (List Key×V)} {kvs:Zge},PairD F xs kvs->xs.length=kvs.length
 |_,_,.nil=>rfl
 |_,_,.cons _ t=>by simp[t.length]
theorem PairD.val {F:Hp}(k:List Key):∀{xs:List (List Key×V)} {kvs:Zge},PairD F xs kvs->(Zec xs k=none/\ZjM kvs k=none)\/∃x d,Zec xs k=some x/\ZjM kvs k=some d/\Rep F x d
 |_,_,.nil=>.inl ⟨rfl,rfl⟩
 |_,_,.cons (k:=k') (x:=x) (d:=d) (xs:=xs) (kvs:=kvs) r t=>by
   by_cases e:k'=k
   ·exact .inr ⟨x,d,Zca e,by simp[ZjM,XA,e],r⟩
   ·have q:ZjM ((k',d)::kvs) k=ZjM kvs k:=by simp[ZjM,XA,e]
    rw[ZbZ (p:=(k',x)) e,q]
    exact t.val k
theorem PairD.any {F:Hp}(k:List Key):∀{xs:List (List Key×V)} {kvs:Zge},PairD F xs kvs->(xs.any fun kv=>decide (kv.1=k))=(kvs.any fun kv=>decide (kv.1=k))
 |_,_,.nil=>rfl
 |_,_,.cons _ t=>by simp[t.any k]
theorem PairD.mapP {F:Hp}(k:List Key){y:V}{d:PyData}(r:Rep F y d):∀{xs:List (List Key×V)} {kvs:Zge},PairD F xs kvs->PairD F (xs.map fun kv=>if kv.1=k then (kv.1,y) else kv) (kvs.map fun kv=>if kv.1=k then (kv.1,d) else kv)
 |_,_,.nil=>.nil
 |_,_,.cons (k:=k') r' t=>by
   rw[Xr,Xr];by_cases e:k'=k
   ·simp only[e,if_true]
    exact .cons r (t.mapP k r)
   ·simp only[e,if_false]
    exact .cons r' (t.mapP k r)
theorem PairD.snoc {F:Hp}(k:List Key){y:V}{d:PyData}(r:Rep F y d):∀{xs:List (List Key×V)} {kvs:Zge},PairD F xs kvs->PairD F (xs++[(k,y)]) (kvs++[(k,d)])
 |_,_,.nil=>.cons r .nil
 |_,_,.cons r' t=>.cons r' (t.snoc k r)
theorem PairD.put {F:Hp}(k:List Key){y:V}{d:PyData}(r:Rep F y d){xs:List (List Key×V)}{kvs:Zge}(t:PairD F xs kvs):PairD F (ZjO xs k y) (ZsH kvs k d):=by
 unfold ZjO ZsH;rw[t.any k];split
 ·exact t.mapP k r
 ·exact t.snoc k r
def Zik (kvs:Zge):OwnP where
 ok K F H v p := ∃a xs,v=.ref a/\p=[a]/\F a=none/\H a=some (.dT xs)/\PairD F xs kvs
 there:=by
  rintro K F H v p ⟨a,xs,rfl,rfl,h1,h2,h3⟩ b hb
  cases Xm.mp hb
  exact⟨h1,ZaR h2⟩
 mono:=by
  rintro K F F' H H' v p s hF hH ⟨a,xs,rfl,rfl,h1,h2,h3⟩
  exact⟨a,xs,rfl,rfl,hF a Xb,by rw[hH a Xb];exact h2,h3.mono s⟩
 uniq:=by
  rintro K F H v p q ⟨a,xs,rfl,rfl,_⟩ ⟨b,ys,e,rfl,_⟩ c hc
  cases e
  exact hc
section
variable {K:W.Frag}{ρ:ZaZ}{te ty tv:TE}{D:PEnds}{i:Nat}{v:V}{kvs:Zge}{k:List Key}{d:PyData}
theorem Sta.dct {H0 F H:Hp}{σ:St}(S:Sta K H0 F ρ σ H)(e:ρ[i]?=some (some (.own v (Zik kvs)))) :
 ∃a xs,v=.ref a/\σ[i]?=some (some (.ref a))/\F a=none/\H0 a=none/\H a=some (.dT xs)/\PairD F xs kvs:=by
 obtain⟨e1,p,⟨a,xs,rfl,rfl,h1,h2,h3⟩,hp,_⟩:=S.writeOwn e
 exact⟨a,xs,rfl,e1,h1,(hp a Xb).1,h2,h3⟩
theorem ZfE {F:Hp}{xs:List (List Key×V)}(t:PairD F xs kvs):(Zec xs k).isSome=(ZjM kvs k).isSome:=by
 rcases t.val k with ⟨z1,z2⟩|⟨x,d',z1,z2,_⟩<;>rw[z1,z2]<;>rfl
theorem Zrg (hy:EvE K ty ρ (ZbF k))(e:ρ[i]?=some (some (.own v (Zik kvs)))):EvE K (ZuE ty (Zb8 i)) ρ (.bool (ZjM kvs k).isSome):=fun H0 F σ H Q S q =>
 hy H0 F σ H _ S fun F1 H1 y x1 r1=>by
  obtain⟨a,xs,rfl,e1,_,_,f2,f3⟩:=(S.ext x1).dct e
  obtain⟨b,rfl,hb⟩:=Zdz r1
  exact⟨_,e1,a,_,rfl,Zix.t f2 (x1.fh _ _ hb),q F1 H1 _ x1 (by rw[ZfE f3];exact .bl _)⟩
theorem Zmv (hy:EvE K ty ρ (ZbF k))(e:ρ[i]?=some (some (.own v (Zik kvs)))):EvE K (ZmV ty (Zb8 i)) ρ (.bool (!(ZjM kvs k).isSome)):=fun H0 F σ H Q S q =>
 hy H0 F σ H _ S fun F1 H1 y x1 r1=>by
  obtain⟨a,xs,rfl,e1,_,_,f2,f3⟩:=(S.ext x1).dct e
  obtain⟨b,rfl,hb⟩:=Zdz r1
  exact⟨_,e1,a,_,rfl,Zix.t f2 (x1.fh _ _ hb),q F1 H1 _ x1 (by rw[ZfE f3];exact .bl _)⟩
theorem ZpF (e:ρ[i]?=some (some (.own v (Zik kvs))))(hv:EvE K tv ρ d)(hy:EvE K ty ρ (ZbF k))(hz:kvs.length<sizeLine)(hn:D.nx (ρ.set i (some (.own v (Zik (ZsH kvs k d)))))):EvS K (Zs6 (Zb8 i) ty tv) ρ D:=fun F0 H0 F σ H E x S C =>
 hv H0 F σ H _ S fun F1 H1 u x1 r1=>by
  obtain⟨a,xs,rfl,e1,_⟩:=(S.ext x1).dct e
  refine⟨_,e1,hy H0 F1 σ H1 _ (S.ext x1) fun F2 H2 y x2 r2=>?_⟩
  have S2:=S.ext (x1.trans x2)
  obtain⟨a',xs',ea,_,g1,g0,g2,g3⟩:=S2.dct e
  cases ea
  obtain⟨b,rfl,hb⟩:=Zdz r2
  refine⟨a,_,rfl,ZqE.t g2 (x2.fh _ _ hb) (by rw[g3.length];exact hz),?_⟩
  obtain⟨_,p,ok,hp,w⟩:=S2.writeOwn e
  obtain⟨a'',xs'',ea,rfl,_,g4,_⟩:=ok
  cases ea
  refine C.nx F2 σ _ _ ((x.trans (x1.trans x2)).wr g0 g1) (w _ (Zik (ZsH kvs k d)) [a] (S2.sub.upd g1) (fun c hc _=>Zak fun z=>hc (by rw[z];exact Xb)) (fun c hc=>?_) ⟨a,_,rfl,rfl,g1,Zam,g3.put k (r1.mono x2.ff)⟩ (fun c hc=>.inl hc)) hn
  by_cases z:c=a
  ·subst z;rw[Zam];exact fun q=>nomatch q
  ·rw[Zak z];exact hc
def EvX (K:W.Frag)(t:TE)(ρ:ZaZ)(Φ:OwnP):Prop := ∀(H0 F:Hp) (σ:St) (H:Hp) (Q:VK),Sta K H0 F ρ σ H->(∀F' H' v p,Ext F H F' H'->(∀a∈p,H a=none)->Φ.ok K F' H' v p->Q v H')->t σ H Q
theorem Zll:∀{as bs:List Addr},as.map V.ref=bs.map V.ref->as=bs
 |[],[],_=>rfl
 |a::as,b::bs,h=>by
   rw[Xr,Xr]at h;injection h with h1 h2
   cases h1
   rw[Zll h2]
 |[],_::_,h=>by cases h
 |_::_,[],h=>by cases h
theorem ZjK {F H:Hp}{w:V}{t:OT}{p q:List Addr}(h:ZaN K F H w t p)(h':ZaN K F H w t q):∀b∈q,b∈p:=by
 cases t with
 |fz d=>rw[h'.1];intro b hb;cases hb
 |zow Ψ=>rw[h'.1];intro b hb;cases hb
 |ol ds =>
   obtain⟨b1,z1,z2,z3⟩:=h'
   obtain⟨b2,y1,y2,y3⟩:=h
   rw[z1]at y1;cases y1
   rw[z2,y2];exact fun _ z=>z
 |oll dss =>
   obtain⟨a,as,z1,z2,_,_,z3,_⟩:=h'
   obtain⟨b,bs,y1,y2,_,_,y3,_⟩:=h
   rw[z1]at y1;cases y1
   rw[z3]at y3;injection y3 with y4
   injection y4 with y5
   rw[z2,y2,Zll y5];exact fun _ z=>z
 |scr ns=>rw[h'.1];intro b hb;cases hb
 |own v0 Φ=>exact Φ.uniq h.2 h'.2
theorem ZnM {Φ:OwnP}(h:EvX K te ρ Φ)(hn:∀v,D.nx (ρ.set i (some (.own v Φ)))):EvS K (ZoV te (ZhX i)) ρ D:=fun F0 H0 F σ H E x S C =>
 h H0 F σ H _ S fun F' H' v p x' hp ok=>by
  refine C.nx F' _ H' _ (x.trans x') ((S.ext x').set (t:=.own v Φ) ⟨rfl,ok⟩ (fun a ha=>x.hh.free (hp a ha)) (hn:=fun a ha j w t' q e1 e2 ok'=>?_)) (hn v)
  obtain⟨fp,g1,g2,g3⟩:=S.fp
  obtain⟨w',f1,f2⟩:=g1 j t' e1
  intro hq;have f3:=f2.ext x'
  rw[e2]at f1;cases f1
  exact(g3 j a (ZjK (K:=K) f3 ok' a hq)).2 (hp a ha)
end
end L2
namespace Mir
open PySem
theorem Zme (e:Nat):Builtin.bitAnd (e:Int) 1=((e%2:Nat):Int):=by
 unfold Builtin.bitAnd;have h1:decide ((0:Int)<=(e:Int))=true:=X9 (by omega)
 have h2:decide ((0:Int)<=1)=true:=rfl
 rw[h1,h2];show((((e:Int).toNat &&& (1:Int).toNat:Nat)):Int)=_
 rw[Xn,show(1:Int).toNat=1 from rfl,Nat.and_one_is_mod]
theorem Zt0 (e:Nat):e ||| 1=e+1-e%2:=by
 apply Nat.eq_of_testBit_eq
 intro i;rw[Nat.testBit_or];have h2:e%2=0\/e%2=1:=by omega
 cases i with
 |zero =>
   rw[Nat.testBit_zero,Nat.testBit_zero,Nat.testBit_zero];have:(e+1-e%2)%2=1:=by omega
   rw[this];rcases h2 with h|h<;>rw[h]<;>rfl
 |succ i =>
   rw[Nat.testBit_succ,Nat.testBit_succ,Nat.testBit_succ];have:(e+1-e%2)/2=e/2:=by omega
   rw[this];simp
theorem ZnW (e:Nat):Builtin.bitOr (e:Int) 1=((e+1-e%2:Nat):Int):=by
 unfold Builtin.bitOr;have a:Builtin.bitNot (e:Int) = -(e:Int)-1:=rfl
 have b:Builtin.bitNot 1 = -2:=rfl
 have c:Builtin.bitAnd (Builtin.bitNot (e:Int)) (Builtin.bitNot 1)=Builtin.bitNot (((e ||| 1:Nat)):Int):=by
  rw[a,b];unfold Builtin.bitAnd;have h1:decide ((0:Int) <= -(e:Int)-1)=false:=Xy (by omega)
  have h2:decide ((0:Int) <= -2)=false:=rfl
  rw[h1,h2];show Builtin.bitNot ((((Builtin.bitNot (-(e:Int)-1)).toNat ||| (Builtin.bitNot (-2)).toNat:Nat)):Int)=_
  have e1:(Builtin.bitNot (-(e:Int)-1)).toNat=e:=by show(-(-(e:Int)-1)-1).toNat=e;omega
  have e2:(Builtin.bitNot (-2)).toNat=1:=rfl
  rw[e1,e2]
 rw[c,Zt0];show -(-(((e+1-e%2:Nat)):Int)-1)-1=_
 omega
theorem ZeQ (e:Nat):Builtin.bitXor (e:Int) 1=(Zfl e:Int):=by
 unfold Builtin.bitXor;rw[Zme,ZnW];unfold Zfl;split<;>omega
end Mir
namespace L2
open PySem PySem.Spec PyProof.Rows
abbrev KK:=List Key×List Key
def Zq5 (P:Program)(w:World)(a:Addr)(xs:List (KK×Addr×V))(h:Heap):Prop:=xs.length<=sizeLine/\(a==sysModules)=false/\∃vs:List (KK×Addr×Value),
 Paired (fun(x:KK×Addr×V) (y:KK×Addr×Value)=>x.1=y.1/\x.2.1=y.2.1/\Zbl x.2.2 y.2.2) xs vs /\
 ∃o es ep,h.get? a=some o/\o.ExactDict/\o.data=.dict es ep/\es.toList=vs.map (entryOfKey (Zi9 (Zbh P w)))/\(vs.map (·.1)).Nodup
def pdO (P:Program)(w:World)(a:Addr)(xs:List (KK×Addr×V)):HO:=.ext (Zq5 P w a xs)
theorem Zq5.move {P:Program}{w:World}{a:Addr}{xs:List (KK×Addr×V)}{h1 h2:Heap}(x:Zq5 P w a xs h1)(k:∀o,h1.get? a=some o->h2.get? a=some o):Zq5 P w a xs h2:=by
 obtain⟨z,y,vs,r,o,es,ep,e1,e2,e3,e4,e5⟩:=x
 exact⟨z,y,vs,r,o,es,ep,k _ e1,e2,e3,e4,e5⟩
theorem Zq5.ok {P:Program}{w:World}{a:Addr}{xs:List (KK×Addr×V)}{H:Hp}{h:Heap}(x:Zq5 P w a xs h):Zcw P w H h a (pdO P w a xs):=by
 refine⟨x,?_,fun h1 h2 y k=>y.move k⟩
 obtain⟨z,y,vs,r,o,es,ep,e1,_⟩:=x
 exact⟨o,e1⟩
def ZbJ (H:Hp)(k:KK)(b:Addr):Prop := ∃p q,H b=some (.tup [.ref p,.ref q])/\H p=some (.tup (k.1.map kV))/\H q=some (.tup (k.2.map kV))
theorem ZbJ.mono {H H':Hp}(s:∀b ys,H b=some (.tup ys)->H' b=some (.tup ys)){k:KK}{b:Addr}(x:ZbJ H k b):ZbJ H' k b:=by
 obtain⟨p,q,h1,h2,h3⟩:=x
 exact⟨p,q,s _ _ h1,s _ _ h2,s _ _ h3⟩
section
variable {P:Program}{w:World}{H:Hp}{h:Heap}{a b:Addr}
theorem Zgf {k:KK}(ok:HOk P w H h)(x:ZbJ H k b):(Zi9 (Zbh P w)).is h k b:=by
 obtain⟨p,q,h1,h2,h3⟩:=x
 obtain⟨_,its,r,o,e1,e2,n,e3⟩:=(show Zcw P w H h b (.tup [.ref p,.ref q]) from ok b _ h1)
 cases r with
 |cons r1 r =>
   cases r with
   |cons r2 r =>
     cases r
     cases (show _=Value.ref p from r1)
     cases (show _=Value.ref q from r2)
     exact⟨o,n,p,q,e1,e2,e3,ZeC ok h2,ZeC ok h3⟩
theorem Zsi {xs:List (KK×Addr×V)}(ok:HOk P w H h)(e:H a=some (pdO P w a xs))(hk:∀x∈xs,ZbJ H x.1 x.2.1):xs.length<=sizeLine/\(a==sysModules)=false/\∃vs,
 Paired (fun(x:KK×Addr×V) (y:KK×Addr×Value)=>x.1=y.1/\x.2.1=y.2.1/\Zbl x.2.2 y.2.2) xs vs/\h.DictOfH (Zi9 (Zbh P w)) a vs:=by
 obtain⟨⟨z,y,vs,r,o,es,ep,e1,e2,e3,e4,e5⟩,hst⟩:=(show Zcw P w H h a (pdO P w a xs) from ok a _ e)
 refine⟨z,y,vs,r,o,es,ep,e1,e2,e3,e4,?_,e5⟩
 clear e5 e4 z e hst;induction r with
 |nil=>intro x hx;exact nomatch hx
 |@cons p q ps qs hq t ih =>
   intro x hx;rcases Xf.mp hx with rfl|hx
   ·have:=Zgf ok (hk p Xb)
    rw[hq.1,hq.2.1]at this;exact this
   ·exact ih (fun z hz=>hk z (Xd _ hz)) x hx
end
def ZjV (xs:List (KK×Addr×V))(k:KK):Option V:=(xs.find? fun x=>decide (x.1=k)).map (·.2.2)
abbrev RPD:=Paired (fun(x:KK×Addr×V) (y:KK×Addr×Value)=>x.1=y.1/\x.2.1=y.2.1/\Zbl x.2.2 y.2.2)
theorem RPD.val (k:KK){xs:List (KK×Addr×V)}{vs:List (KK×Addr×Value)}(r:RPD xs vs):Zg8 (ZjV xs k) ((atKey vs k).map (·.2)):=by
 induction r with
 |nil=>exact True.intro
 |@cons p q ps qs hq t ih =>
   by_cases e:p.1=k
   ·have e1:ZjV (p::ps) k=some p.2.2:=by simp[ZjV,XA,e]
    have e2:(atKey (q::qs) k).map (·.2)=some q.2.2:=by simp[atKey,XA,<- hq.1,e]
    rw[e1,e2];exact hq.2.2
   ·have e1:ZjV (p::ps) k=ZjV ps k:=by simp[ZjV,XA,e]
    have e2:(atKey (q::qs) k).map (·.2)=(atKey qs k).map (·.2):=by simp[atKey,XA,<- hq.1,e]
    rw[e1,e2];exact ih
def ZqB (xs:List (KK×Addr×V))(k:KK)(b:Addr)(v:V):List (KK×Addr×V):=if (ZjV xs k).isSome=true then xs.map (fun x=>if x.1=k then (x.1,x.2.1,v) else x) else xs++[(k,b,v)]
theorem RPD.repl (k:KK){v:V}{u:Value}(rv:Zbl v u){xs:List (KK×Addr×V)}{vs:List (KK×Addr×Value)}(r:RPD xs vs):RPD (xs.map fun x=>if x.1=k then (x.1,x.2.1,v) else x) (vs.map (putAt k u)):=by
 induction r with
 |nil=>exact .nil
 |@cons p q ps qs hq t ih =>
   rw[Xr,Xr];refine .cons ?_ ih
   unfold putAt;by_cases e:p.1=k
   ·rw[Xc e,Xc (hq.1▸e)]
    exact⟨hq.1,hq.2.1,rv⟩
   ·rw[Xa e,Xa (hq.1▸e)]
    exact hq
theorem Zg8.some_eq:∀{x:Option V} {y:Option Value},Zg8 x y->x.isSome=y.isSome
 |none,none,_=>rfl
 |some _,some _,_=>rfl
 |none,some _,h=>by cases h
 |some _,none,h=>by cases h
theorem RPD.put (k:KK)(b:Addr){v:V}{u:Value}(rv:Zbl v u){xs:List (KK×Addr×V)}{vs:List (KK×Addr×Value)}(r:RPD xs vs):RPD (ZqB xs k b v) (storedH vs k b u):=by
 have e:=Zg8.some_eq (r.val k)
 rw[XaC]at e;unfold ZqB storedH;rw[e];split
 ·exact r.repl k rv
 ·exact Paired.snoc r ⟨rfl,rfl,rv⟩
theorem Zku (xs:List (KK×Addr×V))(k:KK)(b:Addr)(v:V):(ZqB xs k b v).length<=xs.length+1:=by
 unfold ZqB;split<;>simp
section
variable {X:Cx}{Xbr:List (Addr×Obj)}{σ:St}{H:Hp}{s:Shared}{a b:Addr}{v:V}{r:Value}{A:Around}{E:Value->Shared->Prop}{xs:List (KK×Addr×V)}{k:KK}
theorem ZnC {Q:Unit->Shared->Prop}(hu:A.units+6<cLine)(I:Inv X Xbr σ H s)(e:H a=some (pdO X.prog X.w a xs))(hk:∀x∈xs,ZbJ H x.1 x.2.1)(hb:ZbJ H k b)(l:xs.length<sizeLine)(rv:Zbl v r)
 (h:∀s',Inv X Xbr σ (upd H a (pdO X.prog X.w a (ZqB xs k b v))) s'->Q () s'):wpAny (model X.prog X.w) A (setItem (.ref a) (.ref b) r) Q E s:=by
 obtain⟨z,hd,vs,rel,dd⟩:=Zsi I.hok e hk
 have hz:vs.length<=sizeLine:=by rw[<- Paired.length rel];exact z
 refine wpAny_setItem_heap (hsz:=hz) (show A.units+1+5<cLine by omega) (Zgf I.hok hb) dd fun h' dd' hs=>h _ ?_
 obtain⟨q,es,ep,hq,h2,h3,h4,_,h5⟩:=dd'
 exact ZgV I (by rw[e];exact True.intro) hs ⟨q,hq⟩ (Zq5.ok ⟨by have:=Zku xs k b v;omega,hd,_,RPD.put k b rv rel,q,es,ep,hq,h2,h3,h4,h5⟩)
theorem Zo0 {Q:Value->Shared->Prop}(hu:A.units+6<cLine)(I:Inv X Xbr σ H s)(e:H a=some (pdO X.prog X.w a xs))(hk:∀x∈xs,ZbJ H x.1 x.2.1)(hb:ZbJ H k b)(hv:ZjV xs k=some v)
 (h:∀u s',Inv X Xbr σ H s'->Zbl v u->Q u s'):wpAny (model X.prog X.w) A (getItem (.ref a) (.ref b)) Q E s:=by
 obtain⟨z,hd,vs,rel,dd⟩:=Zsi I.hok e hk
 have rr:=RPD.val k rel
 rw[hv]at rr;cases ek:atKey vs k with
 |none=>rw[ek]at rr;cases rr
 |some p =>
   rw[ek]at rr;exact wpAny_getItem_heap (show A.units+1+5<cLine by omega) (Zgf I.hok hb) dd ek (h _ _ (I.tok _) rr)
theorem ZrB {Q:Value->Shared->Prop}(hu:A.units+6<cLine)(I:Inv X Xbr σ H s)(e:H a=some (pdO X.prog X.w a xs))(hk:∀x∈xs,ZbJ H x.1 x.2.1)(hb:ZbJ H k b)
 (h:∀s',Inv X Xbr σ H s'->Q (.bool (!(ZjV xs k).isSome)) s'):wpAny (model X.prog X.w) A (compareOp .NotIn (.ref b) (.ref a)) Q E s:=by
 obtain⟨z,hd,vs,rel,dd⟩:=Zsi I.hok e hk
 have rr:=Zg8.some_eq (RPD.val k rel)
 rw[XaC]at rr;refine wpAny_notIn_heap (show A.units+1+5<cLine by omega) (Zgf I.hok hb) hd dd ?_
 rw[<- rr];exact h _ (I.tok _)
end
section
variable {X:Cx}{Xbr:List (Addr×Obj)}{σ:St}{H:Hp}{s:Shared}{a b:Addr}{d:V}{r:Value}{A:Around}{E:Value->Shared->Prop}{kvs:List (List Key×V)}{k:List Key}
theorem Zp5 {Q:Value->Shared->Prop}(hu:A.units+1<cLine)(I:Inv X Xbr σ H s)(e:H a=some (.dT kvs))(eb:H b=some (.tup (k.map kV)))(l:kvs.length<sizeLine)(rd:Zbl d r)
 (h1:∀v u s',Zec kvs k=some v->Inv X Xbr σ H s'->Zbl v u->Q u s') (h2:Zec kvs k=none->∀s',Inv X Xbr σ (upd H a (.dT (kvs++[(k,d)]))) s'->Q r s') :
 wpAny (model X.prog X.w) A (call (.builtin "dict.setdefault") [.ref a,.ref b,r]) Q E s:=by
 obtain⟨z,hd,xs,rel,dd⟩:=ZrV I.hok e
 have hz:xs.length<=sizeLine:=by rw[<- Paired.length rel];exact z
 have rr:=rel.val k
 refine call_meetsIn PySem.F.slot_dict_setdefault dd.typeIs PySem.F.entry_dict_setdefault (PySem.F.args_dict_setdefault_3 _ _ _) (Zea (tupleKind (Zbh X.prog X.w)) a b hd r)
  ⟨tupleKind_room_in1 hu,k,xs,ZeC I.hok eb,dd,hz,fun p hp=>?_,fun hn h' dd' hs=>?_⟩
 ·rw[hp]at rr
  cases ev:Zec kvs k with
  |none=>rw[ev]at rr;cases rr
  |some v=>rw[ev]at rr;exact h1 v _ _ ev (I.tok _) rr
 ·have ev:Zec kvs k=none:=by
   rw[hn]at rr;cases ev:Zec kvs k with
   |none=>rfl
   |some v=>rw[ev]at rr;cases rr
  refine h2 ev _ ?_
  obtain⟨q,es,ep,hq,g2,g3,g4,_,g5⟩:=dd'
  refine ZgV I (by rw[e];exact True.intro) hs ⟨q,hq⟩ ⟨by simp;omega,hd,_,(show KT H (kvs++[(k,d)]) (xs++[(k,b,r)]) from Paired.snoc rel ⟨rfl,eb,rd⟩).keeps fun c ys ec=>?_,q,es,ep,hq,g2,g3,g4,g5⟩
  rw[Zak (fun z=>by subst z;rw[e]at ec;cases ec)]
  exact ec
end
def Zq0 (td ty tx:TE):TE:=fun σ H Q=>td σ H fun x H1=>∃a,x=.ref a/\IsD H1 a/\ty σ H1 fun y H2=>tx σ H2 fun z H3=>∃kvs k b,y=.ref b/\H3 a=some (.dT kvs)/\H3 b=some (.tup (k.map kV))/\kvs.length<sizeLine /\
 (∀v,Zec kvs k=some v->Q v H3)/\(Zec kvs k=none->Q z (upd H3 a (.dT (kvs++[(k,z)]))))
section
variable {X:Cx}{o e f value:Expr}{apos cpos pos pos':Pos}{td ty tx tv:TE}
theorem ZpX (hu:X.A.units+1<cLine) (ho:PE X o td) (he:PE X e ty) (hf:PE X f tx) (m:M2 X o "setdefault" apos e f cpos):PE X (.Call (.Attribute o "setdefault" apos) [e,f] [] cpos) (Zq0 td ty tx):=by
 intro Xbr s σ H Q I h;refine wpAny_Call_method m.base m.few m.line PySem.F.plainAttrs_dict PySem.F.slot_dict_setdefault PySem.F.type_dict_setdefault (thn (ho Xbr s σ H _ I h) fun u s1 ⟨x,H1,I1,rx,a,ex,d,q1⟩=>?_)
 subst ex;obtain rfl:u=Value.ref a:=rx
 obtain⟨t1,t2,_⟩:=ZqO I1 d
 refine⟨t1,t2,?_⟩
 rw[m.trees];refine Calls.callWith_builtin rfl (Calls.evalArgs_plain (Calls.spliced_cons (thn (he Xbr s1 σ H1 _ I1 q1) fun iv s2 ⟨y,H2,I2,ry,q2⟩ =>
  Calls.spliced_cons (thn (hf Xbr s2 σ H2 _ I2 q2) fun fv s3 ⟨z,H3,I3,rz,kvs,k,b,ey,e1,e2,l,q3,q4⟩=>Calls.spliced_nil ?_))))
 subst ey;cases (show iv=Value.ref b from ry)
 exact Zp5 hu I3 e1 e2 l rz (fun v u s' ev I4 rv=>⟨v,H3,I4,rv,q3 v ev⟩) (fun ev s' I4=>⟨z,_,I4,rz,q4 ev⟩)
def Ztd (P:Program)(w:World)(td ty:TE):TE:=fun σ H Q=>td σ H fun x H1=>ty σ H1 fun y H2=>∃a b xs k v,x=.ref a/\y=.ref b/\H2 a=some (pdO P w a xs)/\(∀x∈xs,ZbJ H2 x.1 x.2.1)/\ZbJ H2 k b/\ZjV xs k=some v/\Q v H2
def Znb (P:Program)(w:World)(ty td:TE):TE:=fun σ H Q=>ty σ H fun y H1=>td σ H1 fun x H2=>∃a b xs k,x=.ref a/\y=.ref b/\H2 a=some (pdO P w a xs)/\(∀x∈xs,ZbJ H2 x.1 x.2.1)/\ZbJ H2 k b/\Q (.bl (!(ZjV xs k).isSome)) H2
def Ztj (P:Program)(w:World)(td ty tv:TE):TS:=fun D σ H=>tv σ H fun v H1=>td σ H1 fun x H2=>ty σ H2 fun y H3=>∃a b xs k,x=.ref a/\y=.ref b/\H3 a=some (pdO P w a xs)/\(∀x∈xs,ZbJ H3 x.1 x.2.1)/\ZbJ H3 k b/\xs.length<sizeLine /\
 D.nx σ (upd H3 a (pdO P w a (ZqB xs k b v)))
theorem ZnX {Xbr:List (Addr×Obj)} {σ:St} {H:Hp} {s:Shared} {a:Addr} {xs:List (KK×Addr×V)} (I:Inv X Xbr σ H s) (e:H a=some (pdO X.prog X.w a xs)):s.TypeIs (.ref a) "dict" := by
 obtain⟨⟨_,_,vs,_,o,es,ep,e1,e2,_⟩,_⟩:=(show Zcw X.prog X.w H s.heap a (pdO X.prog X.w a xs) from I.hok a _ e)
 exact⟨o,e1,e2.1⟩
theorem Zr0 (hu:X.A.units+6<cLine)(ho:PE X o td)(hi:PE X e ty)(hs:Zu1 e):PE X (.Subscript o e pos) (Ztd X.prog X.w td ty):=by
 intro Xbr s σ H Q I h;refine ZnJ PySem.F.slot_dict_getitem.lookup hs (thn (ho Xbr s σ H _ I h) fun u s1 ⟨x,H1,I1,rx,q1⟩=>thn (hi Xbr s1 σ H1 _ I1 q1) fun iv s2 ⟨y,H2,I2,ry,a,b,xs,k,v,ex,ey,e1,e2,e3,e4,q2⟩=>?_)
 subst ex ey;obtain rfl:u=Value.ref a:=rx
 obtain rfl:iv=Value.ref b:=ry
 exact⟨ZnX I2 e1,Zo0 hu I2 e1 e2 e3 e4 fun w' s3 I3 rw'=>⟨v,H2,I3,rw',q2⟩⟩
theorem ZoU (hu:X.A.units+6<cLine)(hi:PE X e ty)(ho:PE X o td):PC X .NotIn e o (Znb X.prog X.w ty td):=by
 intro Xbr s σ H Q I h;refine thn (hi Xbr s σ H _ I h) fun iv s1 ⟨y,H1,I1,ry,q1⟩=>thn (ho Xbr s1 σ H1 _ I1 q1) fun u s2 ⟨x,H2,I2,rx,a,b,xs,k,ex,ey,e1,e2,e3,q2⟩=>?_
 subst ex ey;obtain rfl:u=Value.ref a:=rx
 obtain rfl:iv=Value.ref b:=ry
 exact ZrB hu I2 e1 e2 e3 fun s3 I3=>⟨.bl (!(ZjV xs k).isSome),H2,I3,rfl,q2⟩
theorem Zsb (hu:X.A.units+6<cLine)(ho:PE X o td)(hi:PE X e ty)(hv:PE X value tv)(hs:swapsWith value (some (.Subscript o e pos')) pos.line X.env=pure false) :
 PS X (.Assign [.Subscript o e pos'] value pos) (Ztj X.prog X.w td ty tv):=by
 intro Xbr s σ H D I h;refine wpAny_Assign_Subscript (thn (hv Xbr s σ H _ I h) fun r s1 ⟨v,H1,I1,rv,q1⟩=>thn (ho Xbr s1 σ H1 _ I1 q1) fun u s2 ⟨x,H2,I2,rx,q2⟩=>thn (hi Xbr s2 σ H2 _ I2 q2) fun iv s3 ⟨y,H3,I3,ry,a,b,xs,k,ex,ey,e1,e2,e3,l,q3⟩=>?_) hs
 subst ex ey;obtain rfl:u=Value.ref a:=rx
 obtain rfl:iv=Value.ref b:=ry
 exact ZnC hu I3 e1 e2 e3 l rv fun s4 I4=>⟨σ,_,I4,q3⟩
end
def Ztf (P:Program)(w:World):TE:=fun _ H Q=>∀p,H p=none->Q (.ref p) (upd H p (pdO P w p []))
theorem Zpr {X:Cx}{pos:Pos}:PE X (.Dict [] [] pos) (Ztf X.prog X.w):=fun Xbr s σ H Q I h =>
 wpAny_Dict_empty ⟨.ref s.heap.objs.size,_,I.laid (a:=s.heap.objs.size) (o:=pdO X.prog X.w s.heap.objs.size []) (t':=s.toks) (fun _ _ q=>Xv _ q) (Xw _)
  (Zq5.ok ⟨X0 _,beq_eq_false_iff_ne.mpr (Ne.symm (Xs I.big)),[],.nil,_,#[],0,XZ _ rfl,⟨rfl,rfl,rfl⟩,rfl,rfl,XaW⟩),rfl,h _ (I.hok.fresh (Xw _))⟩
structure NetS where
 ends:List (List Key)
 rooms:List Int
 leav:List (List Key×List Int)
 laid:List (KK×Int)
inductive LaidD (F:Hp):List (KK×Addr×V)->List (KK×Int)->Prop
 |nil:LaidD F [] []
 |cons {k:KK} {b:Addr} {n:Int} {xs:List (KK×Addr×V)} {ls:List (KK×Int)}:ZbJ F k b->LaidD F xs ls->LaidD F ((k,b,.int n)::xs) ((k,n)::ls)
theorem LaidD.mono {F F':Hp}(s:ZaP F F'):∀{xs:List (KK×Addr×V)} {ls:List (KK×Int)},LaidD F xs ls->LaidD F' xs ls
 |_,_,.nil=>.nil
 |_,_,.cons h t=>.cons (h.mono fun b ys e=>s _ _ e) (t.mono s)
theorem LaidD.at {F H:Hp}(s:ZaP F H):∀{xs:List (KK×Addr×V)} {ls:List (KK×Int)},LaidD F xs ls->∀x∈xs,ZbJ H x.1 x.2.1
 |_,_,.nil,x,hx=>nomatch hx
 |_,_,.cons h t,x,hx=>by
   rcases Xf.mp hx with rfl|hx
   ·exact h.mono fun b ys e=>s _ _ e
   ·exact t.at s x hx
inductive LeavD (F H:Hp):List (List Key×V)->List (List Key×List Int)->List Addr->Prop
 |nil:LeavD F H [] [] []
 |cons {k:List Key} {a:Addr} {ns:List Int} {xs:List (List Key×V)} {ls:List (List Key×List Int)} {as:List Addr}:Zhe F H a (ns.map PyData.int)->LeavD F H xs ls as->LeavD F H ((k,.ref a)::xs) ((k,ns)::ls) (a::as)
theorem LeavD.mem {F H:Hp}:∀{xs:List (List Key×V)} {ls:List (List Key×List Int)} {as:List Addr},LeavD F H xs ls as->∀a∈as,F a=none/\H a≠none
 |_,_,_,.nil,a,ha=>nomatch ha
 |_,_,_,.cons h t,a,ha=>by
   rcases Xf.mp ha with rfl|ha
   ·obtain⟨h1,xs,h2,_⟩:=h
    exact⟨h1,ZaR h2⟩
   ·exact t.mem a ha
theorem LeavD.mono {F F' H H':Hp}(s:ZaP F F'):∀{xs:List (List Key×V)} {ls:List (List Key×List Int)} {as:List Addr},(∀a∈as,F' a=none)->(∀a∈as,H' a=H a)->LeavD F H xs ls as->LeavD F' H' xs ls as
 |_,_,_,_,_,.nil=>.nil
 |_,_,_,hF,hH,.cons h t=>by
   obtain⟨h1,xs,h2,h3⟩:=h
   exact .cons ⟨hF _ Xb,xs,by rw[hH _ Xb];exact h2,h3.mono s⟩ (t.mono s (fun a ha=>hF a (Xd _ ha)) (fun a ha=>hH a (Xd _ ha)))
theorem LeavD.addrs {F F' H H':Hp}:∀{xs:List (List Key×V)} {ls ls':List (List Key×List Int)} {as bs:List Addr},LeavD F H xs ls as->LeavD F' H' xs ls' bs->as=bs
 |_,_,_,_,_,.nil,.nil=>rfl
 |_,_,_,_,_,.cons _ t,.cons _ t'=>by rw[t.addrs t']
structure NetOk (P:Program)(w:World)(C:Addr)(N:NetS)(F H:Hp)(a dx e r l d:Addr)(xs:List (List Key×V))(ys:List (KK×Addr×V))(as:List Addr):Prop where
 nd:(a::dx::e::r::l::d::as).Nodup
 ins:F a=none/\H a=some (.ins C dx [("ends",.ref e),("rooms",.ref r),("leaving",.ref l),("laid",.ref d)])
 own:F dx=none/\H dx=some (.own a)
 ends:Zhe F H e (N.ends.map ZbF)
 rooms:Zhe F H r (N.rooms.map PyData.int)
 leav:F l=none/\H l=some (.dT xs)/\LeavD F H xs N.leav as
 laid:F d=none/\H d=some (pdO P w d ys)/\LaidD F ys N.laid
def Zc7 (P:Program)(w:World)(C:Addr)(N:NetS):OwnP where
 ok K F H v p := ∃a dx e r l d xs ys as,v=.ref a/\p=a::dx::e::r::l::d::as/\NetOk P w C N F H a dx e r l d xs ys as
 there:=by
  rintro K F H v p ⟨a,dx,e,r,l,d,xs,ys,as,rfl,rfl,o⟩ b hb
  obtain⟨_,⟨i1,i2⟩,⟨o1,o2⟩,⟨e1,ex,e2,_⟩,⟨r1,rx,r2,_⟩,⟨l1,l2,l3⟩,⟨d1,d2,_⟩⟩:=o
  simp only[Xf]at hb;rcases hb with rfl|rfl|rfl|rfl|rfl|rfl|hb
  ·exact⟨i1,ZaR i2⟩
  ·exact⟨o1,ZaR o2⟩
  ·exact⟨e1,ZaR e2⟩
  ·exact⟨r1,ZaR r2⟩
  ·exact⟨l1,ZaR l2⟩
  ·exact⟨d1,ZaR d2⟩
  ·exact l3.mem b hb
 mono:=by
  rintro K F F' H H' v p s hF hH ⟨a,dx,e,r,l,d,xs,ys,as,rfl,rfl,o⟩
  obtain⟨nd,⟨i1,i2⟩,⟨o1,o2⟩,⟨e1,ex,e2,e3⟩,⟨r1,rx,r2,r3⟩,⟨l1,l2,l3⟩,⟨d1,d2,d3⟩⟩:=o
  refine⟨a,dx,e,r,l,d,xs,ys,as,rfl,rfl,nd,⟨hF _ (by simp),by rw[hH _ (by simp)];exact i2⟩,⟨hF _ (by simp),by rw[hH _ (by simp)];exact o2⟩,⟨hF _ (by simp),ex,by rw[hH _ (by simp)];exact e2,e3.mono s⟩,
   ⟨hF _ (by simp),rx,by rw[hH _ (by simp)];exact r2,r3.mono s⟩,⟨hF _ (by simp),by rw[hH _ (by simp)];exact l2,l3.mono s (fun b hb=>hF b (by simp[hb])) (fun b hb=>hH b (by simp[hb]))⟩,⟨hF _ (by simp),by rw[hH _ (by simp)];exact d2,d3.mono s⟩⟩
 uniq:=by
  rintro K F H v p q ⟨a,dx,e,r,l,d,xs,ys,as,rfl,rfl,o⟩ ⟨a',dx',e',r',l',d',xs',ys',as',ev,rfl,o'⟩ c hc
  cases ev
  have i:=o.ins.2.symm.trans o'.ins.2
  injection i with i
  injection i with _ i1 i2
  subst i1;simp only[List.cons.injEq,Prod.mk.injEq,true_and,and_true,V.ref.injEq]at i2;obtain⟨rfl,rfl,rfl,rfl⟩:=i2
  have j:=o.leav.2.1.symm.trans o'.leav.2.1
  injection j with j
  injection j with j
  subst j;rw[o.leav.2.2.addrs o'.leav.2.2];exact hc
structure NetC (K:W.Frag)(C:Addr):Prop where
 cl:Cls K C
 ends:Ze9 K C "ends"
 rooms:Ze9 K C "rooms"
 leav:Ze9 K C "leaving"
 laid:Ze9 K C "laid"
section
variable {K:W.Frag}{ρ:ZaZ}{tb te ty tx:TE}{D:PEnds}{i:Nat}{v:V}{P:Program}{w:World}{C:Addr}{N:NetS}
theorem Sta.net {H0 F H:Hp}{σ:St}(S:Sta K H0 F ρ σ H)(e:ρ[i]?=some (some (.own v (Zc7 P w C N)))) :
 ∃a dx el r l d xs ys as,v=.ref a/\σ[i]?=some (some (.ref a))/\NetOk P w C N F H a dx el r l d xs ys as/\(∀b∈a::dx::el::r::l::d::as,H0 b=none/\F b=none/\H b≠none) /\
  ∀(H':Hp) (N':NetS) (xs':List (List Key×V)) (ys':List (KK×Addr×V)) (as':List Addr),ZaP F H'->(∀b,b∉a::dx::el::r::l::d::as->H b≠none->H' b=H b)->(∀b,H b≠none->H' b≠none) ->
   NetOk P w C N' F H' a dx el r l d xs' ys' as'->(∀b∈as',b∈as\/(H b=none/\H0 b=none))->Sta K H0 F (ρ.set i (some (.own v (Zc7 P w C N')))) σ H':=by
 obtain⟨e1,p,⟨a,dx,el,r,l,d,xs,ys,as,rfl,rfl,ok⟩,hp,w'⟩:=S.writeOwn e
 refine⟨a,dx,el,r,l,d,xs,ys,as,rfl,e1,ok,hp,fun H' N' xs' ys' as' h1 h2 h3 h4 h5=>w' H' _ _ h1 h2 h3 ⟨a,dx,el,r,l,d,xs',ys',as',rfl,rfl,h4⟩ fun b hb=>?_⟩
 simp only[Xf]at hb ⊢;rcases hb with h|h|h|h|h|h|hb
 ·exact .inl (.inl h)
 ·exact .inl (.inr (.inl h))
 ·exact .inl (.inr (.inr (.inl h)))
 ·exact .inl (.inr (.inr (.inr (.inl h))))
 ·exact .inl (.inr (.inr (.inr (.inr (.inl h)))))
 ·exact .inl (.inr (.inr (.inr (.inr (.inr (.inl h))))))
 ·rcases h5 b hb with z|z
  ·exact .inl (.inr (.inr (.inr (.inr (.inr (.inr z))))))
  ·exact .inr z
theorem LeavD.other {F H:Hp}{b:Addr}{o:HO}{xs:List (List Key×V)}{ls:List (List Key×List Int)}{as:List Addr}(h:LeavD F H xs ls as)(n:b∉as):LeavD F (upd H b o) xs ls as :=
 h.mono (ZaP.refl _) (fun a ha=>(h.mem a ha).1) (fun a ha=>Zak fun z=>n (z▸ha))
theorem NetOk.setRooms {F H:Hp}{a dx el r l d:Addr}{xs:List (List Key×V)}{ys:List (KK×Addr×V)}{as:List Addr}(ok:NetOk P w C N F H a dx el r l d xs ys as){ns:List Int}{zs:List V}(hr:Reps F zs (ns.map PyData.int)) :
 NetOk P w C { N with rooms:=ns } F (upd H r (.lst zs)) a dx el r l d xs ys as:=by
 obtain⟨nd,⟨i1,i2⟩,⟨o1,o2⟩,⟨e1,ex,e2,e3⟩,⟨r1,rx,r2,r3⟩,⟨l1,l2,l3⟩,⟨d1,d2,d3⟩⟩:=ok
 have nd':=nd
 simp only[XL,Xf,not_or]at nd';obtain⟨⟨a1,a2,a3,_⟩,⟨b1,b2,_⟩,⟨c1,_⟩,⟨g1,g2,g3⟩,_⟩:=nd'
 exact⟨nd,⟨i1,by rw[Zak a3];exact i2⟩,⟨o1,by rw[Zak b2];exact o2⟩,⟨e1,ex,by rw[Zak c1];exact e2,e3⟩,⟨r1,zs,Zam,hr⟩,⟨l1,by rw[Zak (Ne.symm g1)];exact l2,l3.other g3⟩,⟨d1,by rw[Zak (Ne.symm g2)];exact d2,d3⟩⟩
theorem ZcE {H:Hp}{a:Addr}{o:HO}:∀b,H b≠none->upd H a o b≠none:=fun b hb=>by
 by_cases z:b=a
 ·subst z;rw[Zam];exact fun q=>nomatch q
 ·rw[Zak z];exact hb
theorem ZiP {f:Int->Int->Int}(c:NetC K C)(e:ρ[i]?=some (some (.own v (Zc7 P w C N)))){k m n:Int}(hi:EvE K tb ρ (.int k))(h0:0<=k)(hm:N.rooms[k.toNat]?=some m)(h:EvE K te ρ (.int n))
 (hn:D.nx (ρ.set i (some (.own v (Zc7 P w C { N with rooms:=N.rooms.set k.toNat (f m n) }))))):EvS K (ZrH (Zmn K (Zb8 i) "rooms") tb te (ZrX K) (ipI f) Zpj) ρ D:=fun F0 H0 F σ H E x S C'=>by
 obtain⟨a,dx,el,r,l,d,xs,ys,as,rfl,e1,ok,_⟩:=S.net e
 refine⟨_,e1,a,C,dx,_,.ref r,rfl,ok.ins.2,c.cl,c.rooms,rfl,hi H0 F σ H _ S fun F1 H1 y x1 r1=>?_⟩
 cases r1
 obtain⟨_,rx,r2,r3⟩:=ok.rooms
 have hm':(N.rooms.map PyData.int)[k.toNat]?=some (.int m):=by rw[Xi,hm];rfl
 obtain⟨z,z1,z2⟩:=(r3.mono x1.ff).get hm'
 refine⟨r,rx,k,z,rfl,rfl,SqL.of (x1.hh _ _ r2),h0,z1,h H0 F1 σ H1 _ (S.ext x1) fun F2 H2 u x2 r2'=>?_⟩
 cases r2'
 cases z2
 refine⟨m,n,rfl,rfl,?_⟩
 obtain⟨a',dx',el',r',l',d',xs',ys',as',ea,g1,ok',hp,wr⟩:=(S.ext (x1.trans x2)).net e
 cases ea
 have hi2:=ok'.ins.2.symm.trans ((x1.trans x2).hh _ _ ok.ins.2)
 injection hi2 with hi2
 injection hi2 with _ _ hi3
 simp only[List.cons.injEq,Prod.mk.injEq,true_and,and_true,V.ref.injEq]at hi3;obtain⟨rfl,rfl,rfl,rfl⟩:=hi3
 obtain⟨q1,qx,q2,q3⟩:=ok'.rooms
 have hlt:k.toNat<N.rooms.length:=(Xe.mp hm).1
 have hr:Reps F2 (qx.set k.toNat (.int (f m n))) ((N.rooms.set k.toNat (f m n)).map PyData.int):=by
  rw[List.map_set];exact q3.set (.int _) _
 refine⟨r',qx,k,k.toNat,rfl,rfl,q2,?_,?_⟩
 ·rw[q3.length,Xj]
  unfold ixN;rw[Xc h0,Xc (by omega)]
 ·have hr0:=hp r' (by simp)
  exact C'.nx F2 σ _ _ ((x.trans (x1.trans x2)).wr hr0.1 hr0.2.1) (wr _ { N with rooms:=N.rooms.set k.toNat (f m n) } xs' ys' as' ((S.ext (x1.trans x2)).sub.upd hr0.2.1) (fun b hb _=>Zak fun z=>hb (by rw[z];simp)) ZcE (ok'.setRooms hr) (fun b hb=>.inl hb)) hn
end
section
variable {K:W.Frag}{ρ:ZaZ}{tb te ty tx:TE}{D:PEnds}{i:Nat}{v:V}{P:Program}{w:World}{C:Addr}{N:NetS}
theorem NetOk.same {N':NetS}{F H F' H':Hp}{a dx el r l d dx' el' r' l' d':Addr}{xs xs':List (List Key×V)}{ys ys':List (KK×Addr×V)}{as as':List Addr}
 (ok:NetOk P w C N F H a dx el r l d xs ys as) (ok':NetOk P w C N' F' H' a dx' el' r' l' d' xs' ys' as') (s:H' a=H a):dx'=dx/\el'=el/\r'=r/\l'=l/\d'=d:=by
 have h:=ok'.ins.2
 rw[s,ok.ins.2]at h;injection h with h
 injection h with _ h1 h2
 simp only[List.cons.injEq,Prod.mk.injEq,true_and,and_true,V.ref.injEq]at h2;obtain⟨z1,z2,z3,z4⟩:=h2
 exact⟨h1.symm,z1.symm,z2.symm,z3.symm,z4.symm⟩
theorem NetOk.setEnds {F H:Hp}{a dx el r l d:Addr}{xs:List (List Key×V)}{ys:List (KK×Addr×V)}{as:List Addr}(ok:NetOk P w C N F H a dx el r l d xs ys as){ns:List (List Key)}{zs:List V}(hr:Reps F zs (ns.map ZbF)) :
 NetOk P w C { N with ends:=ns } F (upd H el (.lst zs)) a dx el r l d xs ys as:=by
 obtain⟨nd,⟨i1,i2⟩,⟨o1,o2⟩,⟨e1,ex,e2,e3⟩,⟨r1,rx,r2,r3⟩,⟨l1,l2,l3⟩,⟨d1,d2,d3⟩⟩:=ok
 have nd':=nd
 simp only[XL,Xf,not_or]at nd';obtain⟨⟨a1,a2,a3,_⟩,⟨b1,b2,_⟩,⟨c1,c2,c3,c4⟩,_⟩:=nd'
 exact⟨nd,⟨i1,by rw[Zak a2];exact i2⟩,⟨o1,by rw[Zak b1];exact o2⟩,⟨e1,zs,Zam,hr⟩,⟨r1,rx,by rw[Zak (Ne.symm c1)];exact r2,r3⟩,⟨l1,by rw[Zak (Ne.symm c2)];exact l2,l3.other c4⟩,⟨d1,by rw[Zak (Ne.symm c3)];exact d2,d3⟩⟩
theorem ZlV (c:NetC K C)(e:ρ[i]?=some (some (.own v (Zc7 P w C N)))){n:Int}(h:EvE K te ρ (.int n))(hl:N.rooms.length<1000)
 (hn:D.nx (ρ.set i (some (.own v (Zc7 P w C { N with rooms:=N.rooms++[n] }))))):EvS K (Zi8 (tBM K "list" Zf0 (Zmn K (Zb8 i) "rooms") (ZaM te Zd8))) ρ D:=fun F0 H0 F σ H E x S C'=>by
 obtain⟨a,dx,el,r,l,d,xs,ys,as,rfl,e1,ok,_⟩:=S.net e
 refine⟨_,e1,a,C,dx,_,.ref r,rfl,ok.ins.2,c.cl,c.rooms,rfl,.inl ⟨rfl,_,SqL.of ok.rooms.2.choose_spec.1⟩,h H0 F σ H _ S fun F1 H1 u x1 r1=>?_⟩
 cases r1
 obtain⟨a',dx',el',r',l',d',xs',ys',as',ea,g1,ok',hp,wr⟩:=(S.ext x1).net e
 cases ea
 obtain⟨rfl,rfl,rfl,rfl,rfl⟩:=ok.same ok' ((x1.hh _ _ ok.ins.2).trans ok.ins.2.symm)
 obtain⟨q1,qx,q2,q3⟩:=ok'.rooms
 have hr0:=hp r' (by simp)
 refine⟨r',qx,.int n,rfl,rfl,q2,by rw[q3.length,Xj];exact ZaO (by omega),?_⟩
 exact C'.nx F1 σ _ _ ((x.trans x1).wr hr0.1 hr0.2.1) (wr _ { N with rooms:=N.rooms++[n] } xs' ys' as' ((S.ext x1).sub.upd hr0.2.1) (fun b hb _=>Zak fun z=>hb (by rw[z];simp)) ZcE (ok'.setRooms (by rw[Xz];exact q3.snoc (.int n))) (fun b hb=>.inl hb)) hn
theorem Zmj (c:NetC K C)(e:ρ[i]?=some (some (.own v (Zc7 P w C N)))){n:List Key}(h:EvE K te ρ (ZbF n))(hl:N.ends.length<1000)
 (hn:D.nx (ρ.set i (some (.own v (Zc7 P w C { N with ends:=N.ends++[n] }))))):EvS K (Zi8 (tBM K "list" Zf0 (Zmn K (Zb8 i) "ends") (ZaM te Zd8))) ρ D:=fun F0 H0 F σ H E x S C'=>by
 obtain⟨a,dx,el,r,l,d,xs,ys,as,rfl,e1,ok,_⟩:=S.net e
 refine⟨_,e1,a,C,dx,_,.ref el,rfl,ok.ins.2,c.cl,c.ends,rfl,.inl ⟨rfl,_,SqL.of ok.ends.2.choose_spec.1⟩,h H0 F σ H _ S fun F1 H1 u x1 r1=>?_⟩
 obtain⟨a',dx',el',r',l',d',xs',ys',as',ea,g1,ok',hp,wr⟩:=(S.ext x1).net e
 cases ea
 obtain⟨rfl,rfl,rfl,rfl,rfl⟩:=ok.same ok' ((x1.hh _ _ ok.ins.2).trans ok.ins.2.symm)
 obtain⟨q1,qx,q2,q3⟩:=ok'.ends
 have hr0:=hp el' (by simp)
 refine⟨el',qx,u,rfl,rfl,q2,by rw[q3.length,Xj];exact ZaO (by omega),?_⟩
 exact C'.nx F1 σ _ _ ((x.trans x1).wr hr0.1 hr0.2.1) (wr _ { N with ends:=N.ends++[n] } xs' ys' as' ((S.ext x1).sub.upd hr0.2.1) (fun b hb _=>Zak fun z=>hb (by rw[z];simp)) ZcE (ok'.setEnds (by rw[Xz];exact q3.snoc r1)) (fun b hb=>.inl hb)) hn
theorem Zju (c:NetC K C) (e:ρ[i]?=some (some (.own v (Zc7 P w C N)))):EvE K (tCB (ZqR K) (ZaM (Zmn K (Zb8 i) "ends") Zd8)) ρ (.int (N.ends.length:Int)):=fun H0 F σ H Q S q=>by
 obtain⟨a,dx,el,r,l,d,xs,ys,as,rfl,e1,ok,_⟩:=S.net e
 obtain⟨_,ex,e2,e3⟩:=ok.ends
 refine⟨_,e1,a,C,dx,_,.ref el,rfl,ok.ins.2,c.cl,c.ends,rfl,el,ex,rfl,.inl (SqL.of e2),?_⟩
 have:ex.length=N.ends.length:=by rw[e3.length,Xj]
 rw[this];exact q F H _ (Ext.refl S.sub) (.int _)
end
def ZfW (ls:List (KK×Int))(k:KK):Option Int:=(ls.find? fun x=>decide (x.1=k)).map (·.2)
def Zmu (ls:List (KK×Int))(k:KK)(n:Int):List (KK×Int):=if (ZfW ls k).isSome=true then ls.map (fun x=>if x.1=k then (x.1,n) else x) else ls++[(k,n)]
theorem LaidD.val {F:Hp}(k:KK):∀{xs:List (KK×Addr×V)} {ls:List (KK×Int)},LaidD F xs ls->ZjV xs k=(ZfW ls k).map V.int
 |_,_,.nil=>rfl
 |_,_,.cons (k:=k') h t=>by
   by_cases e:k'=k
   ·simp[ZjV,ZfW,XA,e]
   ·have:=t.val k
    simpa [ZjV,ZfW,XA,e] using this
theorem LaidD.length {F:Hp}:∀{xs:List (KK×Addr×V)} {ls:List (KK×Int)},LaidD F xs ls->xs.length=ls.length
 |_,_,.nil=>rfl
 |_,_,.cons h t=>by simp[t.length]
theorem LaidD.repl {F:Hp}(k:KK)(n:Int):∀{xs:List (KK×Addr×V)} {ls:List (KK×Int)},LaidD F xs ls->LaidD F (xs.map fun x=>if x.1=k then (x.1,x.2.1,.int n) else x) (ls.map fun x=>if x.1=k then (x.1,n) else x)
 |_,_,.nil=>.nil
 |_,_,.cons (k:=k') h t=>by
   rw[Xr,Xr];by_cases e:k'=k
   ·simp only[e,if_true]
    exact .cons (e▸h) (t.repl k n)
   ·simp only[e,if_false]
    exact .cons h (t.repl k n)
theorem LaidD.snoc {F:Hp}{k:KK}{b:Addr}(n:Int)(hb:ZbJ F k b):∀{xs:List (KK×Addr×V)} {ls:List (KK×Int)},LaidD F xs ls->LaidD F (xs++[(k,b,.int n)]) (ls++[(k,n)])
 |_,_,.nil=>.cons hb .nil
 |_,_,.cons h t=>.cons h (t.snoc n hb)
theorem LaidD.put {F:Hp}{k:KK}{b:Addr}(n:Int)(hb:ZbJ F k b){xs:List (KK×Addr×V)}{ls:List (KK×Int)}(t:LaidD F xs ls):LaidD F (ZqB xs k b (.int n)) (Zmu ls k n):=by
 unfold ZqB Zmu;rw[t.val k,XaC];split
 ·exact t.repl k n
 ·exact t.snoc n hb
theorem Ziq {F:Hp}{y:V}{k1 k2:List Key}(r:Rep F y (.tuple [ZbF k1,ZbF k2])):∃b,y=.ref b/\ZbJ F (k1,k2) b:=by
 cases r with
 |tup h rs =>
   cases rs with
   |cons r1 rs =>
     cases rs with
     |cons r2 rs =>
       cases rs
       obtain⟨p,rfl,hp⟩:=Zdz r1
       obtain⟨q,rfl,hq⟩:=Zdz r2
       exact⟨_,rfl,p,q,h,hp,hq⟩
section
variable {K:W.Frag}{ρ:ZaZ}{tb te ty tx tv:TE}{D:PEnds}{i:Nat}{v:V}{P:Program}{w:World}{C:Addr}{N:NetS}{k1 k2:List Key}
theorem NetOk.setLaid {F H:Hp}{a dx el r l d:Addr}{xs:List (List Key×V)}{ys ys':List (KK×Addr×V)}{as:List Addr}(ok:NetOk P w C N F H a dx el r l d xs ys as){ls:List (KK×Int)}(hr:LaidD F ys' ls) :
 NetOk P w C { N with laid:=ls } F (upd H d (pdO P w d ys')) a dx el r l d xs ys' as:=by
 obtain⟨nd,⟨i1,i2⟩,⟨o1,o2⟩,⟨e1,ex,e2,e3⟩,⟨r1,rx,r2,r3⟩,⟨l1,l2,l3⟩,⟨d1,d2,d3⟩⟩:=ok
 have nd':=nd
 simp only[XL,Xf,not_or]at nd';obtain⟨⟨a1,a2,a3,a4,a5,_⟩,⟨b1,b2,b3,b4,_⟩,⟨c1,c2,c3,c4⟩,⟨g1,g2,g3⟩,⟨h1,h2⟩,f1,_⟩:=nd'
 exact⟨nd,⟨i1,by rw[Zak a5];exact i2⟩,⟨o1,by rw[Zak b4];exact o2⟩,⟨e1,ex,by rw[Zak c3];exact e2,e3⟩,⟨r1,rx,by rw[Zak g2];exact r2,r3⟩,⟨l1,by rw[Zak h1];exact l2,l3.other f1⟩,⟨d1,Zam,hr⟩⟩
theorem Zn6 (c:NetC K C)(e:ρ[i]?=some (some (.own v (Zc7 P w C N)))){n:Int}(hv:EvE K tv ρ (.int n))(hy:EvE K ty ρ (.tuple [ZbF k1,ZbF k2]))(hl:N.laid.length<1000)
 (hn:D.nx (ρ.set i (some (.own v (Zc7 P w C { N with laid:=Zmu N.laid (k1,k2) n }))))):EvS K (Ztj P w (Zmn K (Zb8 i) "laid") ty tv) ρ D:=fun F0 H0 F σ H E x S C' =>
 hv H0 F σ H _ S fun F1 H1 u x1 r1=>by
  cases r1
  obtain⟨a,dx,el,r,l,d,xs,ys,as,rfl,e1,ok,_⟩:=(S.ext x1).net e
  refine⟨_,e1,a,C,dx,_,.ref d,rfl,ok.ins.2,c.cl,c.laid,rfl,hy H0 F1 σ H1 _ (S.ext x1) fun F2 H2 y x2 r2=>?_⟩
  have S2:=S.ext (x1.trans x2)
  obtain⟨a',dx',el',r',l',d',xs',ys',as',ea,g1,ok',hp,wr⟩:=S2.net e
  cases ea
  obtain⟨rfl,rfl,rfl,rfl,rfl⟩:=ok.same ok' ((x2.hh _ _ ok.ins.2).trans ok.ins.2.symm)
  obtain⟨b,rfl,hb⟩:=Ziq r2
  obtain⟨d1,d2,d3⟩:=ok'.laid
  refine⟨d',b,ys',(k1,k2),rfl,rfl,d2,d3.at S2.sub,hb.mono fun c' z ez=>S2.sub _ _ ez,by rw[d3.length];exact ZaO (by omega),?_⟩
  have hr0:=hp d' (by simp)
  exact C'.nx F2 σ _ _ ((x.trans (x1.trans x2)).wr hr0.1 hr0.2.1) (wr _ { N with laid:=Zmu N.laid (k1,k2) n } xs' _ as' (S2.sub.upd hr0.2.1) (fun b' hb' _=>Zak fun z=>hb' (by rw[z];simp)) ZcE (ok'.setLaid (d3.put n hb)) (fun b' hb'=>.inl hb')) hn
end
def Zbx (ls:List (List Key×List Int))(k:List Key):Option (List Int):=(ls.find? fun x=>decide (x.1=k)).map (·.2)
def Zj0:List (List Key×List Int)->List Key->Int->List (List Key×List Int)
 |[],_,_=>[]
 |(k',ns)::r,k,n=>if k'=k then (k',ns++[n])::r else (k',ns)::Zj0 r k n
theorem LeavD.val {F H:Hp}(k:List Key):∀{xs:List (List Key×V)} {ls:List (List Key×List Int)} {as:List Addr},LeavD F H xs ls as->(Zec xs k=none/\Zbx ls k=none) \/
 ∃a ns,Zec xs k=some (.ref a)/\Zbx ls k=some ns/\a∈as/\Zhe F H a (ns.map PyData.int)
 |_,_,_,.nil=>.inl ⟨rfl,rfl⟩
 |_,_,_,.cons (k:=k') (a:=a) (ns:=ns) (xs:=xs) (ls:=ls) h t=>by
   by_cases e:k'=k
   ·exact .inr ⟨a,ns,Zca e,by simp[Zbx,XA,e],Xb,h⟩
   ·have q:Zbx ((k',ns)::ls) k=Zbx ls k:=by simp[Zbx,XA,e]
    rw[ZbZ (p:=(k',V.ref a)) e,q]
    rcases t.val k with z|⟨a',ns',z1,z2,z3,z4⟩
    ·exact .inl z
    ·exact .inr ⟨a',ns',z1,z2,Xd _ z3,z4⟩
theorem LeavD.app {F H:Hp}(k:List Key){a:Addr}{n:Int}{zs:List V}:∀{xs:List (List Key×V)} {ls:List (List Key×List Int)} {as:List Addr} {ns:List Int},LeavD F H xs ls as->as.Nodup->Zec xs k=some (.ref a)->Zbx ls k=some ns ->
 Reps F zs ((ns++[n]).map PyData.int)->LeavD F (upd H a (.lst zs)) xs (Zj0 ls k n) as
 |_,_,_,_,.nil,_,h,_,_=>by cases h
 |_,_,_,ns,.cons (k:=k') (a:=a') (ns:=ns') (xs:=xs) (ls:=ls) (as:=as) h t,nd,hv,he,hr=>by
   obtain⟨n1,n2⟩:=XL.mp nd
   unfold Zj0;by_cases e:k'=k
   ·rw[Zca (p:=(k',V.ref a')) e]at hv
    have q:Zbx ((k',ns')::ls) k=some ns':=by simp[Zbx,XA,e]
    rw[q]at he;cases hv
    cases he
    rw[Xc e];exact .cons ⟨h.1,zs,Zam,hr⟩ (t.other n1)
   ·rw[ZbZ (p:=(k',V.ref a')) e]at hv
    have q:Zbx ((k',ns')::ls) k=Zbx ls k:=by simp[Zbx,XA,e]
    rw[q]at he;rw[Xa e];have ha:a∈as:=by
     rcases t.val k with z|⟨a2,ns2,z1,z2,z3,z4⟩
     ·rw[hv]at z;cases z.1
     ·rw[hv]at z1;cases z1;exact z3
    refine .cons ?_ (t.app k n2 hv he hr)
    obtain⟨h1,xs',h2,h3⟩:=h
    have ne:a'≠a:=fun z=>n1 (by rw[z];exact ha)
    exact⟨h1,xs',by rw[Zak ne];exact h2,h3⟩
theorem LeavD.snoc {F H:Hp}(k:List Key){a:Addr}(o:Zhe F H a []):∀{xs:List (List Key×V)} {ls:List (List Key×List Int)} {as:List Addr},LeavD F H xs ls as->LeavD F H (xs++[(k,.ref a)]) (ls++[(k,[])]) (as++[a])
 |_,_,_,.nil=>.cons o .nil
 |_,_,_,.cons h t=>.cons h (t.snoc k o)
theorem LeavD.length {F H:Hp}:∀{xs:List (List Key×V)} {ls:List (List Key×List Int)} {as:List Addr},LeavD F H xs ls as->xs.length=ls.length
 |_,_,_,.nil=>rfl
 |_,_,_,.cons h t=>by simp[t.length]
def Zj1 (ls:List (List Key×List Int))(k:List Key):List (List Key×List Int):=if (Zbx ls k).isSome=true then ls else ls++[(k,[])]
section
variable {K:W.Frag}{ρ:ZaZ}{tb te ty tx tv:TE}{D:PEnds}{i:Nat}{v:V}{P:Program}{w:World}{C:Addr}{N:NetS}{k:List Key}
theorem NetOk.appLeav {F H:Hp}{a dx el r l d:Addr}{xs:List (List Key×V)}{ys:List (KK×Addr×V)}{as:List Addr}(ok:NetOk P w C N F H a dx el r l d xs ys as){b:Addr}{ns:List Int}{n:Int}{zs:List V}
 (hv:Zec xs k=some (.ref b)) (he:Zbx N.leav k=some ns) (hb:b∈as) (hr:Reps F zs ((ns++[n]).map PyData.int)):NetOk P w C { N with leav:=Zj0 N.leav k n } F (upd H b (.lst zs)) a dx el r l d xs ys as:=by
 obtain⟨nd,⟨i1,i2⟩,⟨o1,o2⟩,⟨e1,ex,e2,e3⟩,⟨r1,rx,r2,r3⟩,⟨l1,l2,l3⟩,⟨d1,d2,d3⟩⟩:=ok
 have nd':=nd
 simp only[XL,Xf,not_or]at nd';obtain⟨⟨a1,a2,a3,a4,a5,a6⟩,⟨b1,b2,b3,b4,b5⟩,⟨c1,c2,c3,c4⟩,⟨g1,g2,g3⟩,⟨h1,h2⟩,f1,f2⟩:=nd'
 have ne:∀{x:Addr},x∉as->x≠b:=fun h z=>h (by rw[z];exact hb)
 exact⟨nd,⟨i1,by rw[Zak (ne a6)];exact i2⟩,⟨o1,by rw[Zak (ne b5)];exact o2⟩,⟨e1,ex,by rw[Zak (ne c4)];exact e2,e3⟩,⟨r1,rx,by rw[Zak (ne g3)];exact r2,r3⟩,⟨l1,by rw[Zak (ne h2)];exact l2,l3.app k f2 hv he hr⟩,⟨d1,by rw[Zak (ne f1)];exact d2,d3⟩⟩
end
section
variable {K:W.Frag}{ρ:ZaZ}{tb te ty tx tv:TE}{D:PEnds}{i:Nat}{v:V}{P:Program}{w:World}{C:Addr}{N:NetS}{k:List Key}
theorem Zoh (c:NetC K C)(e:ρ[i]?=some (some (.own v (Zc7 P w C N)))){n:Int}(h:EvE K te ρ (.int n)){ns:List Int}(he:Zbx N.leav k=some ns)(hz:ns.length<1000)
 (hn:D.nx (ρ.set i (some (.own v (Zc7 P w C { N with leav:=Zj0 N.leav k n }))))) {F0 H0 F H:Hp} {σ:St} {E:Ends} (x:Ext F0 H0 F H) (S:Sta K H0 F ρ σ H) (C':Cnv K F0 H0 D E)
 {a dx el r l d:Addr} {xs:List (List Key×V)} {ys:List (KK×Addr×V)} {as:List Addr} {al:Addr} (ok:NetOk P w C N F H a dx el r l d xs ys as) (ev:v=.ref a) (hv:Zec xs k=some (.ref al)) :
 tyV K "list" (.ref al) H/\ZaM te Zd8 σ H fun vs H2=>Zf0 (.ref al) vs H2 fun _ H3=>E.nx σ H3:=by
 have find:∀{F H:Hp} {a dx el r l d:Addr} {xs:List (List Key×V)} {ys:List (KK×Addr×V)} {as:List Addr},NetOk P w C N F H a dx el r l d xs ys as->Zec xs k=some (.ref al)->al∈as/\Zhe F H al (ns.map PyData.int):=fun ok hv=>by
  rcases ok.leav.2.2.val k with z|⟨a2,ns2,z1,z2,z3,z4⟩
  ·rw[hv]at z;cases z.1
  ·rw[hv]at z1
   rw[he]at z2;cases z1
   cases z2
   exact⟨z3,z4⟩
 obtain⟨_,_,zs,hz1,_⟩:=find ok hv
 refine⟨.inl ⟨rfl,_,SqL.of hz1⟩,h H0 F σ H _ S fun F1 H1 u x1 r1=>?_⟩
 cases r1
 obtain⟨a',dx',el',r',l',d',xs',ys',as',ea,g1,ok',hp,wr⟩:=(S.ext x1).net e
 rw[ev]at ea;cases ea
 obtain⟨rfl,rfl,rfl,rfl,rfl⟩:=ok.same ok' ((x1.hh _ _ ok.ins.2).trans ok.ins.2.symm)
 have el2:=ok'.leav.2.1.symm.trans (x1.hh _ _ ok.leav.2.1)
 injection el2 with el2
 injection el2 with el2
 subst el2;obtain⟨m1,m2,zs2,m3,m4⟩:=find ok' hv
 have hr0:=hp al (by simp[m1])
 refine⟨al,zs2,.int n,rfl,rfl,m3,by rw[m4.length,Xj];exact ZaO (by omega),?_⟩
 exact C'.nx F1 σ _ _ ((x.trans x1).wr hr0.1 hr0.2.1) (wr _ { N with leav:=Zj0 N.leav k n } _ ys' as' ((S.ext x1).sub.upd hr0.2.1) (fun b hb _=>Zak fun z=>hb (by rw[z];simp[m1])) ZcE
  (ok'.appLeav hv he m1 (by rw[Xz];exact m4.snoc (.int n))) (fun b hb=>.inl hb)) hn
theorem Zjo (ls:List (List Key×List Int))(h:Zbx ls k=none):Zbx (ls++[(k,[])]) k=some []:=by
 induction ls with
 |nil=>simp[Zbx]
 |cons x ls ih =>
   obtain⟨k',ns⟩:=x
   by_cases e:k'=k
   ·simp[Zbx,XA,e]at h
   ·have q:Zbx ((k',ns)::ls) k=Zbx ls k:=by simp[Zbx,XA,e]
    rw[q]at h;have q2:Zbx ((k',ns)::ls++[(k,[])]) k=Zbx (ls++[(k,[])]) k:=by simp[Zbx,XA,e]
    rw[q2];exact ih h
theorem Zl9 (c:NetC K C)(e:ρ[i]?=some (some (.own v (Zc7 P w C N)))){n:Int}(hy:EvE K ty ρ (ZbF k))(hl:N.leav.length<1000)(hz:∀ns,Zbx (Zj1 N.leav k) k=some ns->ns.length<1000)
 (h:EvE K te (ρ.set i (some (.own v (Zc7 P w C { N with leav:=Zj1 N.leav k })))) (.int n)) (hn:D.nx (ρ.set i (some (.own v (Zc7 P w C { N with leav:=Zj0 (Zj1 N.leav k) k n }))))) :
 EvS K (Zi8 (tBM K "list" Zf0 (Zq0 (Zmn K (Zb8 i) "leaving") ty (Zuo Zd8)) (ZaM te Zd8))) ρ D:=fun F0 H0 F σ H E x S C'=>by
 obtain⟨a,dx,el,r,l,d,xs,ys,as,rfl,e1,ok,hp0,_⟩:=S.net e
 refine⟨_,e1,a,C,dx,_,.ref l,rfl,ok.ins.2,c.cl,c.leav,rfl,l,rfl,.inr ⟨xs,Rd.of ok.leav.2.1⟩,hy H0 F σ H _ S fun F1 H1 y x1 r1=>⟨X0 _,fun p hp=>?_⟩⟩
 have S1:=S.ext x1
 have x2:Ext F1 H1 F1 (upd H1 p (.lst [])):=Ext.own S1.sub hp
 obtain⟨a',dx',el',r',l',d',xs',ys',as',ea,g1,ok',hp',wr⟩:=S1.net e
 cases ea
 obtain⟨rfl,rfl,rfl,rfl,rfl⟩:=ok.same ok' ((x1.hh _ _ ok.ins.2).trans ok.ins.2.symm)
 have hlt:i<ρ.length:=(Xe.mp e).1
 obtain⟨b,rfl,hb⟩:=Zdz r1
 obtain⟨l1,l2,l3⟩:=ok'.leav
 have np:∀q∈a::dx'::el'::r'::l'::d'::as',q≠p:=fun q hq z=>by rw[z]at hq;exact(hp' p hq).2.2 hp
 have lp:l'≠p:=np l' (by simp)
 have bp:b≠p:=fun z=>by rw[z]at hb;rw[S1.sub _ _ hb]at hp;cases hp
 have h0p:H0 p=none:=(x.trans x1).hh.free hp
 refine⟨xs',k,b,rfl,by rw[Zak lp];exact l2,by rw[Zak bp];exact S1.sub _ _ hb,by rw[l3.length];exact ZaO (by omega),fun v0 hv0=>?_,fun hv0=>?_⟩
 ·rcases l3.val k with z|⟨al,ns,z1,z2,z3,z4⟩
  ·rw[hv0]at z;cases z.1
  ·rw[hv0]at z1
   cases z1
   have ens:Zj1 N.leav k=N.leav:=by unfold Zj1;rw[z2];rfl
   rw[ens]at h hn hz;have S3:=S1.ext x2
   have ok3:NetOk P w C N F1 (upd H1 p (.lst [])) a dx' el' r' l' d' xs' ys' as':=by
    obtain⟨q0,q1,q2,q3,q4,q5,q6⟩:=ok'
    obtain⟨e1',ex,e2,e3⟩:=q3
    obtain⟨r1',rx,r2,r3⟩:=q4
    exact⟨q0,⟨q1.1,by rw[Zak (np a (by simp))];exact q1.2⟩,⟨q2.1,by rw[Zak (np dx' (by simp))];exact q2.2⟩,⟨e1',ex,by rw[Zak (np el' (by simp))];exact e2,e3⟩,⟨r1',rx,by rw[Zak (np r' (by simp))];exact r2,r3⟩,
     ⟨q5.1,by rw[Zak lp];exact q5.2.1,q5.2.2.other fun z=>np p (by simp[z]) rfl⟩,⟨q6.1,by rw[Zak (np d' (by simp))];exact q6.2.1,q6.2.2⟩⟩
   have S4:Sta K H0 F1 (ρ.set i (some (.own (.ref a) (Zc7 P w C N)))) σ (upd H1 p (.lst [])):=wr _ N xs' ys' as' S3.sub (fun b' _ hb'=>Zak fun z=>hb' (by rw[z];exact hp)) ZcE ok3 (fun b' hb'=>.inl hb')
   exact Zoh (N:=N) c (XN hlt) h z2 (hz ns z2) (by rw[List.set_set];exact hn) (x.trans (x1.trans x2)) S4 C' ok3 rfl hv0
 ·have z2:Zbx N.leav k=none:=by
   rcases l3.val k with z|⟨al,ns,z1,z2,z3,z4⟩
   ·exact z.2
   ·rw[hv0]at z1;cases z1
  have ens:Zj1 N.leav k=N.leav++[(k,[])]:=by unfold Zj1;rw[z2];rfl
  rw[ens]at h hn hz;have fp:F1 p=none:=S1.sub.free hp
  have ok3:NetOk P w C { N with leav:=N.leav++[(k,[])] } F1 (upd (upd H1 p (.lst [])) l' (.dT (xs'++[(k,.ref p)]))) a dx' el' r' l' d' (xs'++[(k,.ref p)]) ys' (as'++[p]):=by
   have ok2:=ok'
   obtain⟨q0,q1,q2,q3,q4,q5,q6⟩:=ok'
   obtain⟨e1',ex,e2,e3⟩:=q3
   obtain⟨r1',rx,r2,r3⟩:=q4
   have nd':=q0
   simp only[XL,Xf,not_or]at nd';obtain⟨⟨a1,a2,a3,a4,a5,a6⟩,⟨b1,b2,b3,b4,b5⟩,⟨c1,c2,c3,c4⟩,⟨g1',g2,g3⟩,⟨h1,h2⟩,f1,f2⟩:=nd'
   have up:∀{q:Addr},q∈a::dx'::el'::r'::l'::d'::as'->q≠l'->upd (upd H1 p (.lst [])) l' (.dT (xs'++[(k,.ref p)])) q=H1 q:=fun hq ne=>by rw[Zak ne,Zak (np _ hq)]
   refine⟨?_,⟨q1.1,by rw[up (by simp) a4];exact q1.2⟩,⟨q2.1,by rw[up (by simp) b3];exact q2.2⟩,⟨e1',ex,by rw[up (by simp) c2];exact e2,e3⟩,⟨r1',rx,by rw[up (by simp) g1'];exact r2,r3⟩,⟨l1,Zam,?_⟩,⟨q6.1,by rw[up (by simp) (Ne.symm h1)];exact q6.2.1,q6.2.2⟩⟩
   ·have:(a::dx'::el'::r'::l'::d'::(as'++[p]))=(a::dx'::el'::r'::l'::d'::as')++[p]:=by simp
    rw[this,XaS];refine⟨q0,by simp,fun u hu t ht=>?_⟩
    cases Xm.mp ht
    exact np u hu
   ·refine LeavD.snoc k ⟨fp,[],by rw[Zak (Ne.symm lp),Zam],.nil⟩ ?_
    exact(l3.other fun z=>np p (by simp[z]) rfl).other h2
  have S4:Sta K H0 F1 (ρ.set i (some (.own (.ref a) (Zc7 P w C { N with leav:=N.leav++[(k,[])] })))) σ (upd (upd H1 p (.lst [])) l' (.dT (xs'++[(k,.ref p)]))) :=
   wr _ _ _ ys' (as'++[p]) ((S1.sub.upd fp).upd l1) (fun b' hb1 hb2=>by rw[Zak (fun z=>hb1 (by rw[z];simp)),Zak (fun z=>hb2 (by rw[z];exact hp))]) (fun b' hb'=>ZcE b' (ZcE b' hb')) ok3 (fun b' hb'=>by
    rcases XI.mp hb' with z|z
    ·exact .inl z
    ·cases Xm.mp z;exact .inr ⟨hp,h0p⟩)
  have hl0:=hp' l' (by simp)
  exact Zoh (N:={ N with leav:=N.leav++[(k,[])] }) c (XN hlt) h (Zjo _ z2) (hz [] (Zjo _ z2)) (by rw[List.set_set];exact hn) ((x.trans (x1.trans x2)).wr hl0.1 hl0.2.1) S4 C' ok3 rfl (by
   rw[ZjA k k (.ref p) xs' hv0,Xc rfl])
end
end L2
section
namespace L2
open PySem PySem.Spec PyProof.Rows
structure KTup (K:W.Frag)(g:Addr)(x:Str):Prop where
 ex:∃(d:Option Addr) (t:Nat) (n:Nat) (sl:Array (Option Value)),K.lookup g=some ⟨.type "tuple",d,.seq #[.str x t] n,sl⟩
theorem ZoE {P:Program}{w:World}{K:W.Frag}{mg mb:Str->Option Value}{k:Nat}{fa a gS gE:Addr}{fd:FuncData}{x:Str}{sp:Sp}{s₁:Shared}{vs:List Value}{ns:List Int}
 (KX:K.In s₁.heap) (hns:s₁.heap.Ns mainGlobals mg) (hb:s₁.heap.Ns builtinsNs mb) (hbb:∀x:Str,x ≠ "__name__" -> mb x=bootBuiltins x) (hlim:s₁.heap.NoLimit) (hg:s₁.gens=#[])
 (ha:s₁.heap.get? a=some { cls:=.type "list",data:=.seq vs.toArray }) (hi:IntsAre vs ns) (hl:ns.length<=sizeLine) (hr:Room k callerA) (tS:KTup K gS "start") (tE:KTup K gE "end")
 (F:∀base:Heap,K.In base->base.Ns mainGlobals mg->FnOk P w K mg base CX0 k fa fd [x] sp) (hbind:∀(s:Shared) (u:Value),BindsTo s fd ⟨[u],[]⟩ [(x,u)])
 (hsp:∀H:Hp,SqL K H a (ns.map V.int)->H gS=some (.tup [.str "start"])->H gE=some (.tup [.str "end"])->sp [.ref a] H (fun v _=>v=.bl true) fun _ _ _=>False) :
 codeAny (model P w) callerA (.call (.ref fa) ⟨[.ref a],[]⟩) (fun r s'=>r=.ok (.ret (.bool true))/\OldK s₁.heap s'.heap/\s'.os=s₁.os/\AllBare s'.gens) s₁:=by
 have rv:=ZjJ hi
 have lenV:=hi.length
 obtain⟨dS,kS,cS,slS,lS⟩:=tS.ex
 obtain⟨dE,kE,cE,slE,lE⟩:=tE.ex
 have hS0:=KX gS _ lS
 have hE0:=KX gE _ lE
 have naS:gS≠a:=fun z=>by
  rw[z,ha]at hS0;injection hS0 with z1
  injection z1 with z2
  injection z2 with z3
  exact Xp z3 (by decide)
 have naE:gE≠a:=fun z=>by
  rw[z,ha]at hE0;injection hE0 with z1
  injection z1 with z2
  injection z2 with z3
  exact Xp z3 (by decide)
 have nSE:gE≠gS:=fun z=>by
  rw[z,lS]at lE;injection lE with z1
  injection z1 with _ _ z2 _
  injection z2 with z3 _
  have z4:=Xaf Array.toList z3
  simp only[List.cons.injEq,Value.str.injEq,and_true]at z4;exact Xp z4.1 (by decide)
 have core:∀Hs:Hp,Zvu Hs->SqL K Hs a (ns.map V.int)->HOk P w Hs s₁.heap->(∀b,Hs b≠none->b=a)->(Hs a≠none->K.lookup a=none) ->
  codeAny (model P w) callerA (.call (.ref fa) ⟨[.ref a],[]⟩) (fun r s'=>r=.ok (.ret (.bool true))/\OldK s₁.heap s'.heap/\s'.os=s₁.os/\AllBare s'.gens) s₁:=by
  intro Hs hO hSq hok hA hK;have fS:Hs gS=none:=by
   cases q:Hs gS with
   |none=>rfl
   |some u=>exact Xp (hA gS (by rw[q];simp)) naS
  have fE:Hs gE=none:=by
   cases q:Hs gE with
   |none=>rfl
   |some u=>exact Xp (hA gE (by rw[q];simp)) naE
  have base_of:∀{b:Addr} {o:Obj},s₁.heap.get? b=some o->Hs b=none->(Zqe s₁.heap Hs).get? b=some o:=fun e n=>Zqy e n
  have noA:∀{b:Addr} {o:Obj} {es:Array DictEntry} {ep:Nat},s₁.heap.get? b=some o->o.data=.dict es ep->Hs b=none:=fun{b o es ep} e d=>by
   cases q:Hs b with
   |none=>rfl
   |some u =>
     have e':b=a:=hA b (by rw[q];simp)
     subst e';rw[ha]at e;cases e;have d':Data.seq vs.toArray _=Data.dict es ep:=d
     cases d'
  have nsK:∀{b:Addr} {m:Str->Option Value},s₁.heap.Ns b m->(Zqe s₁.heap Hs).Ns b m:=fun{b m} ⟨o,es,ep,e,d,r⟩=>⟨o,es,ep,base_of e (noA e d),d,r⟩
  have hKb:K.In (Zqe s₁.heap Hs):=fun b o e=>base_of (KX b o e) (by
   cases q:Hs b with
   |none=>rfl
   |some u =>
     have e':b=a:=hA b (by rw[q];simp)
     subst e';rw[hK (by rw[q];simp)]at e;cases e)
  have hM:Mod K mg (Zqe s₁.heap Hs):=⟨hKb,nsK hns,⟨mb,nsK hb,hbb⟩,let ⟨mc,h1,h2⟩:=hlim;⟨mc,nsK h1,h2⟩⟩
  let H:Hp:=upd (upd Hs gS (.tup [.str "start"])) gE (.tup [.str "end"])
  have hHS:H gS=some (.tup [.str "start"]):=by show upd _ _ _ gS=_;rw[Zak (Ne.symm nSE),Zam]
  have hHE:H gE=some (.tup [.str "end"]):=Zam
  have hHo:∀b,b≠gS->b≠gE->H b=Hs b:=fun b h1 h2=>by show upd _ _ _ b=_;rw[Zak h2,Zak h1]
  have sm:ZaP Hs H:=fun b u e=>by
   rw[hHo b (fun z=>by rw[z,fS]at e;cases e) (fun z=>by rw[z,fE]at e;cases e)]
   exact e
  have l1:∀x:Str,[V.str x].length<=sizeLine:=fun _=>XY (ZaO Ztx)
  have hokH:HOk P w H s₁.heap:=fun b u e=>by
   by_cases h1:b=gS
   ·subst h1
    rw[hHS]at e;cases e
    exact⟨l1 _,[.str "start" kS],.cons ⟨kS,rfl⟩ .nil,⟨_,hS0,rfl,_,rfl⟩⟩
   ·by_cases h2:b=gE
    ·subst h2
     rw[hHE]at e;cases e
     exact⟨l1 _,[.str "end" kE],.cons ⟨kE,rfl⟩ .nil,⟨_,hE0,rfl,_,rfl⟩⟩
    ·rw[hHo b h1 h2]at e
     rcases hO b with z|⟨o,xs,z⟩
     ·rw[z]at e;cases e
     ·rw[z]at e
      cases e
      obtain⟨q1,q2⟩:=hok b _ z
      exact⟨q1,q2⟩
  have e0:Env0 P w K mg (Zqe s₁.heap Hs) callerA [] s₁ H:=⟨rfl,hM,fun b o e=>by
   obtain⟨e1,e2⟩:=Zsd e
   refine⟨e1,?_⟩
   by_cases h1:b=gS
   ·exact .inr ⟨_,by rw[h1];exact hHS⟩
   ·by_cases h2:b=gE
    ·exact .inr ⟨_,by rw[h2];exact hHE⟩
    ·exact .inl (by rw[hHo b h1 h2];exact e2),Nat.le_of_eq (ZnK _ _),trivial,fun b hb=>Xp (show b∈([]:List Addr) from hb) (by simp),hokH,.of_eq hg⟩
  refine codeAny_mono ((F _ hKb (nsK hns)).run callerA [] s₁ H ⟨[.ref a],[]⟩ [.ref a] [.ref a] _ _ hr e0 (hbind s₁ (.ref a)) (.cons rfl .nil) (hsp H (sm.seq hSq) hHS hHE)) fun r s' h=>?_
  cases r with
  |error e=>exact False.elim h
  |ok fl =>
    cases fl with
    |next=>exact False.elim h
    |brk=>exact False.elim h
    |cont=>exact False.elim h
    |ret u =>
      obtain⟨v,H',os,bare,un,hok',r',q⟩:=h
      have q':v=.bl true:=q
      subst q';obtain rfl:u=Value.bool true:=r'
      refine⟨rfl,OldK.of_keep fun b o e=>?_,os,bare⟩
      by_cases h1:b=gS
      ·subst h1
       exact un.tupo b _ o hHS e (by simp)
      ·by_cases h2:b=gE
       ·subst h2
        exact un.tupo b _ o hHE e (by simp)
       ·rcases hO b with z|⟨ob,xs,z⟩
        ·exact un.keep b o e (by rw[hHo b h1 h2];exact z) (by intro z;exact Xp (show b∈([]:List Addr) from z) (by simp)) (by simp)
        ·have z2:=un.frzs b ob _ (by rw[hHo b h1 h2];exact z)
         obtain⟨e1,_⟩:=hok b _ z
         obtain⟨e2,_⟩:=hok' b _ z2
         rw[e]at e1;cases e1;exact e2
 cases hk:K.lookup a with
 |some o =>
   have e:=KX a o hk
   rw[ha]at e;cases e
   refine core (fun _=>none) (fun _=>.inl rfl) (.inr ⟨_,vs.toArray,_,hk,rfl,rfl,rfl,by rw[XC,lenV];exact hl,by simpa using rv⟩) (fun b u z=>by have z':(none:Option HO)=some u:=z;cases z') (fun b z=>Xp rfl z) fun z=>Xp rfl z
 |none =>
   refine core (fun b=>if b=a then some (.frz { cls:=.type "list",data:=.seq vs.toArray } (.lst (ns.map V.int))) else none) (fun b=>?_) (.inl (.inr ⟨{ cls:=.type "list",data:=.seq vs.toArray },Xc rfl⟩)) (fun b u z=>?_) (fun b z=>?_) fun _=>hk
   ·by_cases hb:b=a
    ·exact .inr ⟨_,_,Xc hb⟩
    ·exact .inl (Xa hb)
   ·by_cases hb:b=a
    ·have z':=(Xc hb).symm.trans z
     cases z'
     subst hb;exact⟨ha,by rw[Xj];exact hl,vs,_,rv,ha⟩
    ·have z':=(Xa hb).symm.trans z
     cases z'
   ·by_cases hb:b=a
    ·exact hb
    ·exact Xp (Xa hb) z
theorem Zn7 {l:W.OpenLaw}{k:Nat}{q:Program}{loose:List Str}{XP:(Str->Option Value)->Heap->Prop}{YP:World->Heap->Prop}{d:DefRec}{K:Params->W.Frag}{x:Str}
 (hn:l.most=some 63) (hdf:d.params.defaults=[]) (hr:Room k callerA)
 (hY:∀(w:World) (h:Heap),YP w h->(K w.params).In h)
 (F:∀(w:World) (mg:Str->Option Value) (fa:Addr) (h:Heap),(K w.params).In h->h.Ns mainGlobals mg->mg d.name=some (.ref fa) ->
  (∃gS gE,W.nsIn (K w.params) mainGlobals "START"=some (some (.ref gS))/\W.nsIn (K w.params) mainGlobals "END"=some (some (.ref gE))/\KTup (K w.params) gS "start" /\ KTup (K w.params) gE "end") /\
  ∃fd:FuncData,(∀(s:Shared) (u:Value),BindsTo s fd ⟨[u],[]⟩ [(x,u)]) /\
   ∀base:Heap,(K w.params).In base->base.Ns mainGlobals mg->FnOk l.prog w (K w.params) mg base CX0 k fa fd [x] (Zl0 (K w.params))) :
 W.WalkO q loose XP YP l.row.toRowW d [] (fun f vs=>PySem.call f vs):=by
 refine Att.attach_callW hn hdf fun w s₀ s₁ mg mb fa o pm cd doc a vs ns G Y ho hd hcd hmg hobj hints hlen hbits hg=>?_
 have KX:=hY w _ Y
 obtain⟨⟨gS,gE,n1,n2,t1,t2⟩,fd,hb,hF⟩:=F w mg fa _ KX G.T.g hmg
 exact ZoE KX G.T.g G.T.b G.T.builtins G.T.nolimit hg hobj hints (XS hlen (by decide)) hr t1 t2 hF hb (fun H hS h1 h2=>⟨a,ns,rfl,⟨gS,gE,n1,n2,h1,h2⟩,⟨hS,hlen,hbits⟩,fun _=>rfl⟩)
theorem Ziy {K:W.Frag} {ρ:ZaZ} {g:Addr} (a:W.nsIn K mainGlobals "START"=some (some (.ref g))):EvE K (tC (.ref g)) ρ (ZbF [.inr "start"]):=fun H0 F σ H Q S q=>by
 obtain⟨gS,gE,h1,h2,h3,h4⟩:=S.kt
 rw[h1]at a;cases a
 exact q F H _ (Ext.refl S.sub) (.tup h3 (.cons (.str _) .nil))
theorem ZqM {K:W.Frag} {ρ:ZaZ} {g:Addr} (a:W.nsIn K mainGlobals "END"=some (some (.ref g))):EvE K (tC (.ref g)) ρ (ZbF [.inr "end"]):=fun H0 F σ H Q S q=>by
 obtain⟨gS,gE,h1,h2,h3,h4⟩:=S.kt
 rw[h2]at a;cases a
 exact q F H _ (Ext.refl S.sub) (.tup h4 (.cons (.str _) .nil))
theorem Zoo {A:Around}{k:Nat}(hr:Room k A):A.units+6<cLine:=Xa5 (Nat.add_le_add_left (by decide:6<=64) _) hr.units
def ZqD (tk tv:TE):TE:=fun σ H Q=>∀p,H p=none->tk σ (upd H p (.dT [])) fun x H1=>tv σ H1 fun y H2=>∃k b,x=.ref b/\H2 p=some (.dT [])/\H2 b=some (.tup (k.map kV))/\Q (.ref p) (upd H2 p (.dT [(k,y)]))
theorem Zqt {X:Cx}{pos:Pos}{ke ve:Expr}{tk tv:TE}(hu:X.A.units+1<cLine)(hk:PE X ke tk)(hv:PE X ve tv):PE X (.Dict [some ke] [ve] pos) (ZqD tk tv):=by
 intro Xbr s σ H Q I q;have hn:=I.hok.fresh (Xw s.heap.objs.size)
 have I1:=I.laid (a:=s.heap.objs.size) (o:=.dT []) (h':=s.heap.push { cls:=.type "dict",data:=.dict #[] }) (t':=s.toks) (fun _ _ q=>Xv _ q) (Xw _) (ZkV s.heap I.big)
 refine wpAny_Dict_any rfl rfl (by simp) (by show(1:Nat)<=15;decide) (pairTrees_cons_walk (thn (hk Xbr _ σ _ _ I1 (q _ hn)) fun kv s1 ⟨x,H1,I2,rx,q1⟩=>thn (hv Xbr s1 σ H1 _ I2 q1) fun vv s2 ⟨y,H2,I3,ry,k,b,ex,e,eb,q2⟩=>pairTrees_nil_walk ?_))
 subst ex;obtain rfl:kv=Value.ref b:=rx
 obtain⟨z,hd,xs,rel,dd⟩:=ZrV I3.hok e
 have hx:xs=[]:=by cases rel;rfl
 subst hx;unfold storeAll;rw[List.forIn_cons];refine Xh (Xh (wpAny_dictSet_heap (hsz:=X0 _) (knd:=tupleKind (Zbh X.prog X.w)) (show X.A.units<cLine by omega) (ZeC I3.hok eb) dd fun h' dd' hs=>XB ?_))
 obtain⟨q',es,ep,hq,g2,g3,g4,_,g5⟩:=dd'
 show wpAny _ _ (forIn [] PUnit.unit _) _ _ _
 rw[List.forIn_nil];refine XB ⟨.ref s.heap.objs.size,upd H2 s.heap.objs.size (.dT [(k,y)]),ZgV (ob:=.dT [(k,y)]) I3 (by rw[e];exact True.intro) hs ⟨q',hq⟩ ⟨XY (ZaO Ztx),hd,_,(show KT H2 [(k,y)] [(k,b,vv)] from .cons ⟨rfl,eb,ry⟩ .nil).keeps fun c ys ec=>?_,q',es,ep,hq,g2,g3,g4,g5⟩,rfl,q2⟩
 rw[Zak (fun z=>by subst z;rw[e]at ec;cases ec)]
 exact ec
theorem ZpL {K:W.Frag}{ρ:ZaZ}{tk tv:TE}{k:List Key}{d:PyData}(hk:EvE K tk ρ (ZbF k))(hv:EvE K tv ρ d):EvX K (ZqD tk tv) ρ (Zik [(k,d)]):=fun H0 F σ H Q S q=>fun p hp=>by
 have x0:Ext F H F (upd H p (.dT [])):=Ext.own S.sub hp
 have f0:F p=none:=S.sub.free hp
 refine hk H0 F σ _ _ (S.ext x0) fun F1 H1 x x1 r1=>hv H0 F1 σ H1 _ (S.ext (x0.trans x1)) fun F2 H2 y x2 r2=>?_
 obtain⟨b,rfl,hb⟩:=Zdz r1
 have X:=x1.trans x2
 have hp2:H2 p=some (.dT []):=X.hh _ _ Zam
 have fp2:F2 p=none:=X.free f0 (by rw[Zam];exact fun z=>nomatch z)
 have X':=x0.trans X
 refine⟨k,b,rfl,hp2,X.fh _ _ (x2.ff _ _ hb),q F2 _ (.ref p) [p] (X'.wr hp fp2) (fun a ha=>by cases Xm.mp ha;exact hp) ⟨p,_,rfl,rfl,fp2,Zam,.cons r2 .nil⟩⟩
inductive LeavZ (F:Hp):List (List Key×V)->List (List Key×List Int)->Prop
 |nil:LeavZ F [] []
 |cons {k:List Key} {a:Addr} {ns:List Int} {zs:List V} {xs:List (List Key×V)} {ls:List (List Key×List Int)}:F a=some (.lst zs)->Reps F zs (ns.map PyData.int)->LeavZ F xs ls->LeavZ F ((k,.ref a)::xs) ((k,ns)::ls)
theorem LeavZ.mono {F F':Hp}(s:ZaP F F'):∀{xs:List (List Key×V)} {ls:List (List Key×List Int)},LeavZ F xs ls->LeavZ F' xs ls
 |_,_,.nil=>.nil
 |_,_,.cons h r t=>.cons (s _ _ h) (r.mono s) (t.mono s)
theorem LeavZ.val {F:Hp}(k:List Key):∀{xs:List (List Key×V)} {ls:List (List Key×List Int)},LeavZ F xs ls->(Zec xs k=none/\Zbx ls k=none)\/∃a ns zs,Zec xs k=some (.ref a)/\Zbx ls k=some ns/\F a=some (.lst zs)/\Reps F zs (ns.map PyData.int)
 |_,_,.nil=>.inl ⟨rfl,rfl⟩
 |_,_,.cons (k:=k') (a:=a) (ns:=ns) (zs:=zs) (xs:=xs) (ls:=ls) h r t=>by
   by_cases e:k'=k
   ·exact .inr ⟨a,ns,zs,Zca e,by simp[Zbx,XA,e],h,r⟩
   ·have q:Zbx ((k',ns)::ls) k=Zbx ls k:=by simp[Zbx,XA,e]
    rw[ZbZ (p:=(k',V.ref a)) e,q]
    exact t.val k
theorem LeavD.fz {F F' H:Hp}(s:ZaP F F'):∀{xs:List (List Key×V)} {ls:List (List Key×List Int)} {as:List Addr},LeavD F H xs ls as->(∀b∈as,F' b=H b)->LeavZ F' xs ls
 |_,_,_,.nil,_=>.nil
 |_,_,_,.cons h t,he=>by
   obtain⟨h1,xs,h2,h3⟩:=h
   exact .cons (by rw[he _ Xb];exact h2) (h3.mono s) (t.fz s fun b hb=>he b (Xd _ hb))
structure NetFz (P:Program)(w:World)(C:Addr)(N:NetS)(F:Hp)(a dx e r l d:Addr)(xs:List (List Key×V))(ys:List (KK×Addr×V)):Prop where
 ins:F a=some (.ins C dx [("ends",.ref e),("rooms",.ref r),("leaving",.ref l),("laid",.ref d)])
 ends:∃ex,F e=some (.lst ex)/\Reps F ex (N.ends.map ZbF)
 rooms:∃rx,F r=some (.lst rx)/\Reps F rx (N.rooms.map PyData.int)
 leav:F l=some (.dT xs)/\LeavZ F xs N.leav
 laid:F d=some (pdO P w d ys)/\LaidD F ys N.laid
theorem NetFz.mono {P:Program}{w:World}{C:Addr}{N:NetS}{F F':Hp}{a dx e r l d:Addr}{xs:List (List Key×V)}{ys:List (KK×Addr×V)}(s:ZaP F F')(h:NetFz P w C N F a dx e r l d xs ys):NetFz P w C N F' a dx e r l d xs ys:=by
 obtain⟨h1,⟨ex,h2,h3⟩,⟨rx,h4,h5⟩,⟨h6,h7⟩,⟨h8,h9⟩⟩:=h
 exact⟨s _ _ h1,⟨ex,s _ _ h2,h3.mono s⟩,⟨rx,s _ _ h4,h5.mono s⟩,⟨s _ _ h6,h7.mono s⟩,⟨s _ _ h8,h9.mono s⟩⟩
def Zgq (P:Program)(w:World)(C:Addr)(N:NetS):ZP where
 ok K F v := ∃a dx e r l d xs ys,v=.ref a/\NetFz P w C N F a dx e r l d xs ys
 mono:=by
  rintro K F F' v s ⟨a,dx,e,r,l,d,xs,ys,rfl,h⟩
  exact⟨a,dx,e,r,l,d,xs,ys,rfl,h.mono s⟩
theorem NetOk.fz {P:Program}{w:World}{C:Addr}{N:NetS}{F F' H:Hp}{a dx el r l d:Addr}{xs:List (List Key×V)}{ys:List (KK×Addr×V)}{as:List Addr}(ok:NetOk P w C N F H a dx el r l d xs ys as)(s:ZaP F F')(he:∀b∈a::dx::el::r::l::d::as,F' b=H b) :
 NetFz P w C N F' a dx el r l d xs ys:=by
 obtain⟨nd,⟨i1,i2⟩,⟨o1,o2⟩,⟨e1,ex,e2,e3⟩,⟨r1,rx,r2,r3⟩,⟨l1,l2,l3⟩,⟨d1,d2,d3⟩⟩:=ok
 exact⟨by rw[he _ (by simp)];exact i2,⟨ex,by rw[he _ (by simp)];exact e2,e3.mono s⟩,⟨rx,by rw[he _ (by simp)];exact r2,r3.mono s⟩,⟨by rw[he _ (by simp)];exact l2,l3.fz s fun b hb=>he b (by simp[hb])⟩,⟨by rw[he _ (by simp)];exact d2,d3.mono s⟩⟩
theorem Zc7.fz {P:Program}{w:World}{C:Addr}{N:NetS}{K:W.Frag}{F F' H:Hp}{v:V}{p:List Addr}(h:(Zc7 P w C N).ok K F H v p)(s:ZaP F F')(he:∀b∈p,F' b=H b):(Zgq P w C N).ok K F' v:=by
 obtain⟨a,dx,e,r,l,d,xs,ys,as,rfl,rfl,o⟩:=h
 exact⟨a,dx,e,r,l,d,xs,ys,rfl,o.fz s he⟩
def Zrr (kvs:Zge):ZP where
 ok K F v := ∃a xs,v=.ref a/\F a=some (.dT xs)/\PairD F xs kvs
 mono:=by
  rintro K F F' v s ⟨a,xs,rfl,h1,h2⟩
  exact⟨a,xs,rfl,s _ _ h1,h2.mono s⟩
theorem Zik.fz {kvs:Zge}{K:W.Frag}{F F' H:Hp}{v:V}{p:List Addr}(h:(Zik kvs).ok K F H v p)(s:ZaP F F')(he:∀b∈p,F' b=H b):(Zrr kvs).ok K F' v:=by
 obtain⟨a,xs,rfl,rfl,h1,h2,h3⟩:=h
 exact⟨a,xs,rfl,by rw[he a Xb];exact h2,h3.mono s⟩
section
variable {K:W.Frag}{ρ:ZaZ}{D:PEnds}
theorem Sta.freezeZ {H0 F H:Hp}{σ:St}{i:Nat}{v:V}{Φ:OwnP}{Ψ:ZP}(s:Sta K H0 F ρ σ H)(e:ρ[i]?=some (some (.own v Φ)))
 (hz:∀{F F' H:Hp} {u:V} {p:List Addr},Φ.ok K F H u p->ZaP F F'->(∀b∈p,F' b=H b)->Ψ.ok K F' u) :
 ∃p,(∀a∈p,F a=none/\H a≠none/\H0 a=none)/\Sta K H0 (frF F H p) (ρ.set i (some (.zow Ψ))) σ H:=by
 obtain⟨kt,h1,h2,fp,h3,h4,h5⟩:=s
 obtain⟨u,e1,rfl,ok⟩:=h3 i _ e
 have hlt:=(Xe.mp e).1
 have th:=fun a ha=>Φ.there ok a ha
 have sm:ZaP F (frF F H (fp i)):=ZcN fun a ha=>(th a ha).1
 refine⟨fp i,fun a ha=>⟨(th a ha).1,(th a ha).2,(h5 i a ha).1⟩,kt.mono sm,ZgG h1,by simp[h2],fun j=>if j=i then [] else fp j,fun j t' e'=>?_,fun j k b hb hc=>?_,fun j b hb=>?_⟩
 ·by_cases hj:j=i
  ·subst hj
   rw[XN hlt]at e';cases e'
   refine⟨_,e1,?_,hz ok sm fun b hb=>Zfq hb⟩
   dsimp only;rw[Xc rfl]
  ·rw[XU (Ne.symm hj)]at e'
   obtain⟨u',f1,f2⟩:=h3 j t' e'
   refine⟨u',f1,?_⟩
   dsimp only;rw[Xa hj];exact f2.frOther sm fun a ha z=>hj (h4 j i a ha z)
 ·by_cases hj:j=i
  ·simp[hj]at hb
  ·by_cases hk:k=i
   ·simp[hk]at hc
   ·simp only[Xa hj]at hb
    simp only[Xa hk]at hc;exact h4 j k b hb hc
 ·by_cases hj:j=i
  ·simp[hj]at hb
  ·simp only[Xa hj]at hb
   exact h5 j b hb
theorem ZmM {t:TS}(i:Nat){v:V}{Φ:OwnP}{Ψ:ZP}(e:ρ[i]?=some (some (.own v Φ)))(hz:∀{F F' H:Hp} {u:V} {p:List Addr},Φ.ok K F H u p->ZaP F F'->(∀b∈p,F' b=H b)->Ψ.ok K F' u)
 (h:EvS K t (ρ.set i (some (.zow Ψ))) D):EvS K t ρ D:=fun F0 H0 F σ H E x S C=>by
 obtain⟨p,hp,S'⟩:=S.freezeZ e hz
 refine h F0 H0 _ σ H E ⟨x.hh,x.ff.trans (ZcN fun a ha=>(hp a ha).1),S'.sub,fun a ha=>?_⟩ S' C
 by_cases z:a∈p
 ·exact .inr (hp a z).2.2
 ·rw[Zc1 z]at ha;exact x.fr a ha
theorem Zps {t:TS}{P:Program}{w:World}{C:Addr}{N:NetS}{v:V}(i:Nat)(e:ρ[i]?=some (some (.own v (Zc7 P w C N))))(h:EvS K t (ρ.set i (some (.zow (Zgq P w C N)))) D):EvS K t ρ D:=ZmM i e (fun a b c=>Zc7.fz a b c) h
theorem ZkX {t:TS}{kvs:Zge}{v:V}(i:Nat)(e:ρ[i]?=some (some (.own v (Zik kvs))))(h:EvS K t (ρ.set i (some (.zow (Zrr kvs)))) D):EvS K t ρ D:=ZmM i e (fun a b c=>Zik.fz a b c) h
def EvD (K:W.Frag)(t:TE)(ρ:ZaZ)(Φ:OT->Prop):Prop := ∀(H0 F:Hp) (σ:St) (H:Hp) (Q:VK),Sta K H0 F ρ σ H->(∀F' H' v p r,Φ r->Ext F H F' H'->(∀a∈p,H a=none)->ZaN K F' H' v r p->Q v H')->t σ H Q
theorem EvO.d {t:TE}{r:OT}{Φ:OT->Prop}(h:EvO K t ρ r)(hr:Φ r):EvD K t ρ Φ:=fun H0 F σ H Q S q=>h H0 F σ H Q S fun F' H' v p x hp ok=>q F' H' v p r hr x hp ok
theorem EvD.o {t:TE}{r:OT}(h:EvD K t ρ (fun r'=>r'=r)):EvO K t ρ r:=fun H0 F σ H Q S q=>h H0 F σ H Q S fun F' H' v p r' e x hp ok=>by subst e;exact q F' H' v p x hp ok
theorem EvX.d {t:TE}{Φ0:OwnP}{Φ:OT->Prop}(h:EvX K t ρ Φ0)(hr:∀v,Φ (.own v Φ0)):EvD K t ρ Φ:=fun H0 F σ H Q S q=>h H0 F σ H Q S fun F' H' v p x hp ok=>q F' H' v p (.own v Φ0) (hr v) x hp ⟨rfl,ok⟩
theorem Zd6 {te:TE}{i:Nat}{Φ:OT->Prop}(h:EvD K te ρ Φ)(hn:∀r,Φ r->D.nx (ρ.set i (some r))):EvS K (ZoV te (ZhX i)) ρ D:=fun F0 H0 F σ H E x S C =>
 h H0 F σ H _ S fun F' H' v p r hr x' hp ok=>by
  refine C.nx F' _ H' _ (x.trans x') ((S.ext x').set ok (fun a ha=>x.hh.free (hp a ha)) (hn:=fun a ha j w t' q e1 e2 ok'=>?_)) (hn r hr)
  obtain⟨fp,g1,g2,g3⟩:=S.fp
  obtain⟨w',f1,f2⟩:=g1 j t' e1
  intro hq;have f3:=f2.ext x'
  rw[e2]at f1;cases f1
  exact(g3 j a (ZjK (K:=K) f3 ok' a hq)).2 (hp a ha)
theorem Zko {te:TE}{Φ:OT->Prop}(h:EvD K te ρ Φ)(hr:∀r,Φ r->D.rt r):EvS K (Zr6 te) ρ D:=fun F0 H0 F σ H E x S C =>
 h H0 F σ H _ S fun F' H' v p r e x' hp ok=>C.rt F' H' v r p (x.trans x') (fun a ha=>x.hh.free (hp a ha)) ok (hr r e)
theorem ZoI {i:Nat}{v:V}{Φ:OwnP}(e:ρ[i]?=some (some (.own v Φ)))(hr:D.rt (.own v Φ)):EvS K (Zr6 (Zb8 i)) ρ D:=fun F0 H0 F σ H E x S C=>by
 obtain⟨fp,h,_,h5⟩:=S.fp
 obtain⟨u,e1,e2⟩:=h i _ e
 exact⟨_,e1,C.rt F H u (.own v Φ) (fp i) x (fun a ha=>(h5 i a ha).1) e2 hr⟩
def Zuf (r:OT):Prop := ∀(K:W.Frag) (F F' H:Hp) (v:V) (p:List Addr),(∀a∈p,F' a=none)->ZaN K F H v r p->ZaN K F' H v r p
theorem Rep.thin {F F':Hp}{v w:V}{d:PyData}(r:Rep F v d)(h:Zef d=some w):Rep F' v d:=by
 cases r<;>simp[Zef]at h
 ·exact .non
 ·exact .bl _
 ·exact .int _
 ·exact .str _
theorem ZmS {d:PyData}{w:V}(h:Zef d=some w):Zuf (.fz d):=fun K F F' H v p _ ok=>⟨ok.1,ok.2.thin h⟩
theorem Zrq {ds:List PyData}(h:ZqT ds):Zuf (.ol ds):=fun K F F' H v p hp ok=>by
 obtain⟨a,rfl,rfl,h1,xs,h2,h3⟩:=ok
 exact⟨a,rfl,rfl,hp a Xb,xs,h2,h3.flats h⟩
def ZoJ (kvs:Zge):Prop := ∀x∈kvs,∃w,Zef x.2=some w
theorem PairD.flats {F F':Hp}:∀{xs:List (List Key×V)} {kvs:Zge},ZoJ kvs->PairD F xs kvs->PairD F' xs kvs
 |_,_,_,.nil=>.nil
 |_,_,h,.cons r t=>by
   obtain⟨w,e⟩:=h _ Xb
   exact .cons (r.thin e) (t.flats fun x hx=>h x (Xd _ hx))
theorem ZpN {kvs:Zge}{v:V}(h:ZoJ kvs):Zuf (.own v (Zik kvs)):=fun K F F' H u p hp ok=>by
 obtain⟨e,a,xs,rfl,rfl,h1,h2,h3⟩:=ok
 exact⟨e,a,xs,rfl,rfl,hp a Xb,h2,h3.flats h⟩
theorem Zp4 {t:TE}{v:V}{Φ0:OwnP}{Ψ:ZP}{Φ:OT->Prop}(i:Nat)(e:ρ[i]?=some (some (.own v Φ0)))(hz:∀{F F' H:Hp} {u:V} {p:List Addr},Φ0.ok K F H u p->ZaP F F'->(∀b∈p,F' b=H b)->Ψ.ok K F' u)
 (hf:∀r,Φ r->Zuf r) (h:EvD K t (ρ.set i (some (.zow Ψ))) Φ):EvD K t ρ Φ:=fun H0 F σ H Q S q=>by
 obtain⟨p,hp,S'⟩:=S.freezeZ e hz
 refine h H0 _ σ H Q S' fun F' H' u pp r hr x hpp ok=>?_
 refine q _ H' u pp r hr (Zi6 (fun a ha=>⟨(hp a ha).1,(hp a ha).2.1⟩) x) hpp (hf r hr K F' _ H' u pp (fun a ha=>?_) ok)
 by_cases z:a∈p
 ·show(if a∈p then none else F' a)=none
  rw[Xc z]
 ·show(if a∈p then none else F' a)=none
  rw[Xa z];exact(ok.there a ha).1
theorem ZfC {t:TE}{P:Program}{w:World}{C:Addr}{N:NetS}{v:V}{Φ:OT->Prop}(i:Nat)(e:ρ[i]?=some (some (.own v (Zc7 P w C N))))(hf:∀r,Φ r->Zuf r)(h:EvD K t (ρ.set i (some (.zow (Zgq P w C N)))) Φ):EvD K t ρ Φ :=
 Zp4 i e (fun a b c=>Zc7.fz a b c) hf h
theorem ZlF {t:TE}{P:Program}{w:World}{C:Addr}{N:NetS}{v:V}{d:PyData}{u:V}(i:Nat)(e:ρ[i]?=some (some (.own v (Zc7 P w C N))))(hf:Zef d=some u)(h:EvE K t (ρ.set i (some (.zow (Zgq P w C N)))) d):EvE K t ρ d :=
 EvO.e (EvD.o (ZfC (Φ:=fun r=>r=.fz d) i e (fun r hr=>by subst hr;exact ZmS hf) (h.o.d rfl)))
section
variable {tb te ty tx:TE}{i:Nat}{P:Program}{w:World}{C:Addr}{N:NetS}{k:List Key}
theorem Sta.netz {H0 F H:Hp}{σ:St}(S:Sta K H0 F ρ σ H)(e:ρ[i]?=some (some (.zow (Zgq P w C N)))):∃a dx el r l d xs ys,σ[i]?=some (some (.ref a))/\NetFz P w C N F a dx el r l d xs ys:=by
 obtain⟨fp,h,_⟩:=S.fp
 obtain⟨v,e1,_,a,dx,el,r,l,d,xs,ys,rfl,h1⟩:=h i _ e
 exact⟨a,dx,el,r,l,d,xs,ys,e1,h1⟩
theorem Zi2 (c:NetC K C) (e:ρ[i]?=some (some (.zow (Zgq P w C N)))) {k m:Int} (hb:EvE K tb ρ (.int k)) (hm:atI (N.rooms.map PyData.int) k=some (.int m)):EvE K (tOp (rIx K) (Zmn K (Zb8 i) "rooms") tb) ρ (.int m):=fun H0 F σ H Q S q=>by
 obtain⟨a,dx,el,r,l,d,xs,ys,e1,ok⟩:=S.netz e
 refine⟨_,e1,a,C,dx,_,.ref r,rfl,S.sub _ _ ok.ins,c.cl,c.rooms,rfl,hb H0 F σ H _ S fun F1 H1 y x1 r1=>?_⟩
 cases r1
 obtain⟨rx,r2,r3⟩:=ok.rooms
 obtain⟨z,z1,z2⟩:=Zfj (r3.mono x1.ff) hm
 exact .inl ⟨r,rx,k,z,rfl,rfl,SqL.of (x1.fh _ _ (x1.ff _ _ r2)),z1,q F1 H1 z x1 z2⟩
theorem ZmL (c:NetC K C) (e:ρ[i]?=some (some (.zow (Zgq P w C N)))) {k:Int} {n:PyData} (hb:EvE K tb ρ (.int k)) (hm:atI (N.ends.map ZbF) k=some n):EvE K (tOp (rIx K) (Zmn K (Zb8 i) "ends") tb) ρ n:=fun H0 F σ H Q S q=>by
 obtain⟨a,dx,el,r,l,d,xs,ys,e1,ok⟩:=S.netz e
 refine⟨_,e1,a,C,dx,_,.ref el,rfl,S.sub _ _ ok.ins,c.cl,c.ends,rfl,hb H0 F σ H _ S fun F1 H1 y x1 r1=>?_⟩
 cases r1
 obtain⟨rx,r2,r3⟩:=ok.ends
 obtain⟨z,z1,z2⟩:=Zfj (r3.mono x1.ff) hm
 exact .inl ⟨el,rx,k,z,rfl,rfl,SqL.of (x1.fh _ _ (x1.ff _ _ r2)),z1,q F1 H1 z x1 z2⟩
theorem Zql (c:NetC K C) (e:ρ[i]?=some (some (.zow (Zgq P w C N)))) (hy:EvE K ty ρ (ZbF k)):EvE K (ZqW (Zmn K (Zb8 i) "leaving") ty (Zuo Zd8)) ρ (.list (((Zbx N.leav k).getD []).map PyData.int)):=fun H0 F σ H Q S q=>by
 obtain⟨a,dx,el,r,l,d,xs,ys,e1,ok⟩:=S.netz e
 refine⟨_,e1,a,C,dx,_,.ref l,rfl,S.sub _ _ ok.ins,c.cl,c.leav,rfl,l,rfl,.inr ⟨xs,Rd.of (S.sub _ _ ok.leav.1)⟩,hy H0 F σ H _ S fun F1 H1 y x1 r1=>⟨X0 _,fun p hp=>?_⟩⟩
 obtain⟨b,rfl,hb⟩:=Zdz r1
 have S1:=S.ext x1
 have x2:Ext F1 H1 (upd F1 p (.lst [])) (upd H1 p (.lst [])):=Ext.new S1.sub hp
 have xx:=x1.trans x2
 have lH:upd H1 p (.lst []) l=some (.dT xs):=xx.fh _ _ (xx.ff _ _ ok.leav.1)
 have bH:upd H1 p (.lst []) b=some (.tup (k.map kV)):=x2.fh _ _ (x2.ff _ _ hb)
 refine⟨Zec xs k,Zix.t lH bH,?_⟩
 rcases ok.leav.2.val k with ⟨z1,z2⟩|⟨c1,ns,zs,z1,z2,z3,z4⟩
 ·rw[z1]
  exact q _ _ _ xx (by rw[z2];exact .lst Zam .nil)
 ·rw[z1]
  exact q _ _ _ xx (by rw[z2];exact .lst (xx.ff _ _ z3) (z4.mono xx.ff))
theorem Zpv (c:NetC K C) (e:ρ[i]?=some (some (.zow (Zgq P w C N)))) {k1 k2:List Key} {n:Int} (hy:EvE K ty ρ (.tuple [ZbF k1,ZbF k2])) (hn:ZfW N.laid (k1,k2)=some n):EvE K (Ztd P w (Zmn K (Zb8 i) "laid") ty) ρ (.int n):=fun H0 F σ H Q S q=>by
 obtain⟨a,dx,el,r,l,d,xs,ys,e1,ok⟩:=S.netz e
 refine⟨_,e1,a,C,dx,_,.ref d,rfl,S.sub _ _ ok.ins,c.cl,c.laid,rfl,hy H0 F σ H _ S fun F2 H2 y x2 r2=>?_⟩
 obtain⟨b,rfl,hb⟩:=Ziq r2
 have S2:=S.ext x2
 have d3:=ok.laid.2.mono x2.ff
 exact⟨d,b,ys,(k1,k2),.int n,rfl,rfl,x2.fh _ _ (x2.ff _ _ ok.laid.1),d3.at S2.sub,hb.mono fun c' z ez=>S2.sub _ _ ez,by rw[d3.val,hn];rfl,q F2 H2 _ x2 (.int n)⟩
theorem ZnQ (c:NetC K C) {k1 k2:List Key} (hy:EvE K ty ρ (.tuple [ZbF k1,ZbF k2])) (e:ρ[i]?=some (some (.zow (Zgq P w C N)))):EvE K (Znb P w ty (Zmn K (Zb8 i) "laid")) ρ (.bool (!(ZfW N.laid (k1,k2)).isSome)):=fun H0 F σ H Q S q =>
 hy H0 F σ H _ S fun F2 H2 y x2 r2=>by
  have S2:=S.ext x2
  obtain⟨a,dx,el,r,l,d,xs,ys,e1,ok⟩:=S2.netz e
  obtain⟨b,rfl,hb⟩:=Ziq r2
  have d3:=ok.laid.2
  refine⟨_,e1,a,C,dx,_,.ref d,rfl,S2.sub _ _ ok.ins,c.cl,c.laid,rfl,d,b,ys,(k1,k2),rfl,rfl,S2.sub _ _ ok.laid.1,d3.at S2.sub,hb.mono fun c' z ez=>S2.sub _ _ ez,q F2 H2 _ x2 ?_⟩
  rw[d3.val,XaC];exact .bl _
theorem Sta.dctz {H0 F H:Hp}{σ:St}{kvs:Zge}(S:Sta K H0 F ρ σ H)(e:ρ[i]?=some (some (.zow (Zrr kvs)))):∃a xs,σ[i]?=some (some (.ref a))/\F a=some (.dT xs)/\PairD F xs kvs:=by
 obtain⟨fp,h,_⟩:=S.fp
 obtain⟨v,e1,_,a,xs,rfl,h1,h2⟩:=h i _ e
 exact⟨a,xs,e1,h1,h2⟩
theorem ZnG {kvs:Zge}{d:PyData}(e:ρ[i]?=some (some (.zow (Zrr kvs))))(hy:EvE K ty ρ (ZbF k))(hd:ZjM kvs k=some d):EvE K (ZrJ (Zb8 i) ty) ρ d:=fun H0 F σ H Q S q=>by
 obtain⟨a,xs,e1,_⟩:=S.dctz e
 refine⟨_,e1,hy H0 F σ H _ S fun F1 H1 y x1 r1=>?_⟩
 obtain⟨a',xs',e1',f2,f3⟩:=(S.ext x1).dctz e
 rw[e1]at e1';cases e1'
 obtain⟨b,rfl,hb⟩:=Zdz r1
 rcases f3.val k with ⟨_,z⟩|⟨x,d',z1,z2,z3⟩
 ·rw[hd]at z;cases z
 ·rw[hd]at z2
  cases z2
  exact⟨a,x,rfl,z1▸Zix.t (x1.fh _ _ f2) (x1.fh _ _ hb),q F1 H1 x x1 z3⟩
theorem Zt4 {kvs:Zge}(hy:EvE K ty ρ (ZbF k))(e:ρ[i]?=some (some (.zow (Zrr kvs)))):EvE K (ZuE ty (Zb8 i)) ρ (.bool (ZjM kvs k).isSome):=fun H0 F σ H Q S q =>
 hy H0 F σ H _ S fun F1 H1 y x1 r1=>by
  obtain⟨a,xs,e1,f2,f3⟩:=(S.ext x1).dctz e
  obtain⟨b,rfl,hb⟩:=Zdz r1
  exact⟨_,e1,a,_,rfl,Zix.t (x1.fh _ _ f2) (x1.fh _ _ hb),q F1 H1 _ x1 (by rw[ZfE f3];exact .bl _)⟩
end
end
def spD (K:W.Frag)(R:List OT->(OT->Prop)->Prop):Sp:=fun vs H Q _=>∃F ts Φ,KTs K F/\ZaP F H/\Args K F vs ts/\R ts Φ/\∀F' H' v p r,Φ r->Ext F H F' H'->(∀a∈p,H a=none)->ZaN K F' H' v r p->Q v H'
def Zup (K:W.Frag)(t:TA)(ρ:ZaZ)(Φ:List OT->Prop):Prop := ∀(H0 F:Hp) (σ:St) (H:Hp) (Q:List V->Hp->Prop),Sta K H0 F ρ σ H->(∀F' H' vs ts,Φ ts->Ext F H F' H'->Args K F' vs ts->Q vs H')->t σ H Q
section
variable {K:W.Frag}{ρ:ZaZ}{D:PEnds}
theorem ZcJ {R:List OT->(OT->Prop)->Prop}{t:TA}{E:XK}{ts:List OT}{Φ:OT->Prop}(h:EvA K t ρ ts)(hR:R ts Φ):EvD K (Zih (spD K R) [] E t) ρ Φ:=fun H0 F σ H Q S q =>
 h H0 F σ H _ S fun F1 H1 vs x1 r1=>⟨F1,ts,Φ,(S.ext x1).kt,x1.fh,by rw[X4];exact r1,hR,fun F2 H2 v p r hr x2 hp ok=>q F2 H2 v p r hr (x1.trans x2) (fun a ha=>x1.hh.free (hp a ha)) ok⟩
theorem Zfo {t:TA}{ts:List OT}{Φ:List OT->Prop}(h:EvA K t ρ ts)(hp:Φ ts):Zup K t ρ Φ:=fun H0 F σ H Q S q=>h H0 F σ H Q S fun F' H' vs x r=>q F' H' vs ts hp x r
theorem ZsR {ta:TE}{Φ:OT->Prop}{Φ':List OT->Prop}(h:EvD K ta ρ Φ)(hi:∀r,Φ r->∃ds,r=.ol ds/\Φ' [.fz (.list ds)]):Zup K (ZaM ta Zd8) ρ Φ':=fun H0 F σ H Q S q =>
 h H0 F σ H _ S fun F1 H1 v p r hr x hp ok=>by
  obtain⟨ds,rfl,hp'⟩:=hi r hr
  obtain⟨a,rfl,rfl,r1,xs,r2,r3⟩:=ok
  exact q (upd F1 a (.lst xs)) H1 [.ref a] _ hp' (x.freeze r1 r2 (hp a Xb)) (.fz (.lst Zam (r3.mono (ZaP.new r1))) .nil)
section
variable {P:Program}{w:World}{C:Addr}{N:NetS}{i:Nat}{m:Str}
def NoF (m:Str):Prop := ∀e r l d:Addr,([("ends",V.ref e),("rooms",V.ref r),("leaving",V.ref l),("laid",V.ref d)]:List (Str×V)).lookup m=none
theorem Zi4 {R:List OT->(OT->Prop)->Prop}{t:TA}{E:XK}{ts:List OT}{Φ:OT->Prop}(hm:NoF m)(e:ρ[i]?=some (some (.zow (Zgq P w C N))))(h:EvA K t ρ ts)(hR:R (.zow (Zgq P w C N)::ts) Φ) :
 EvD K (Zmr C m (spD K R) [] E (Zb8 i) t) ρ Φ:=fun H0 F σ H Q S q=>by
 obtain⟨a,dx,el,r,l,d,xs,ys,e1,ok⟩:=S.netz e
 refine⟨_,e1,a,dx,_,rfl,S.sub _ _ ok.ins,hm _ _ _ _,h H0 F σ H _ S fun F1 H1 vs x1 r1=>?_⟩
 refine⟨F1,_,Φ,(S.ext x1).kt,x1.fh,.zow (Ψ:=Zgq P w C N) ⟨a,dx,el,r,l,d,xs,ys,rfl,ok.mono x1.ff⟩ (by rw[X4];exact r1),hR,fun F2 H2 v p r' hr x2 hp ok'=>q F2 H2 v p r' hr (x1.trans x2) (fun b hb=>x1.hh.free (hp b hb)) ok'⟩
theorem Zqg {R:List OT->(OT->Prop)->Prop}{ta:TE}{t:TA}{E:XK}{ts:List OT}{Φ1 Φ:OT->Prop}(hm:NoF m)(h1:EvD K ta ρ Φ1)(hz:∀r,Φ1 r->∃v N,r=.own v (Zc7 P w C N)/\∃Φ2,R (.zow (Zgq P w C N)::ts) Φ2/\∀r,Φ2 r->Φ r)
 (h:EvA K t ρ ts):EvD K (Zmr C m (spD K R) [] E ta t) ρ Φ:=fun H0 F σ H Q S q =>
 h1 H0 F σ H _ S fun F1 H1 v p r hr x1 hp ok=>by
  obtain⟨v0,N,rfl,Φ2,hR,hi⟩:=hz r hr
  obtain⟨rfl,ok⟩:=ok
  have th:=fun a ha=>(Zc7 P w C N).there ok a ha
  have sm:ZaP F1 (frF F1 H1 p):=ZcN fun a ha=>(th a ha).1
  have x1':Ext F H (frF F1 H1 p) H1:=⟨x1.hh,x1.ff.trans sm,ZgG x1.fh,fun a ha=>by
   by_cases z:a∈p
   ·exact .inr (hp a z)
   ·rw[Zc1 z]at ha;exact x1.fr a ha⟩
  obtain⟨a,dx,el,r,l,d,xs,ys,as,rfl,rfl,o⟩:=ok
  refine⟨a,dx,_,rfl,o.ins.2,hm _ _ _ _,h H0 _ σ H1 _ (S.ext x1') fun F2 H2 vs x2 r2=>?_⟩
  have z:=o.fz sm (fun b hb=>Zfq hb)
  exact⟨F2,_,Φ2,(S.ext (x1'.trans x2)).kt,x2.fh,.zow (Ψ:=Zgq P w C N) ⟨a,dx,el,r,l,d,xs,ys,rfl,z.mono x2.ff⟩ (by rw[X4];exact r2),hR,fun F3 H3 v p' r' hr' x3 hp' ok'=>q F3 H3 v p' r' (hi r' hr') ((x1'.trans x2).trans x3) (fun b hb=>(x1'.trans x2).hh.free (hp' b hb)) ok'⟩
structure ExtN (p:List Addr)(F H F' H':Hp):Prop where
 hh:∀b o,b∉p->H b=some o->H' b=some o
 ff:ZaP F F'
 fh:ZaP F' H'
 fr:∀b,F' b≠none->F b≠none\/H b=none\/b∈p
def spN (K:W.Frag)(P:Program)(w:World)(C:Addr)(R:NetS->List OT->(NetS->Prop)->Prop):Sp:=fun vs H Q _=>∃F a vs' p ts N Ψ,vs=.ref a::vs'/\KTs K F/\ZaP F H/\Args K F vs' ts/\(Zc7 P w C N).ok K F H (.ref a) p/\R N ts Ψ /\
 ∀F' H' p' N',Ψ N'->ExtN p F H F' H'->(Zc7 P w C N').ok K F' H' (.ref a) p'->(∀b∈p',b∈p\/H b=none)->Q .non H'
theorem Za7.move {F F' H H':Hp}(s:ZaP F F'):∀{as:List Addr} {dss:List (List PyData)},(∀a∈as,F' a=none)->(∀a∈as,H' a=H a)->Za7 F H as dss->Za7 F' H' as dss
 |[],[],_,_,_=>trivial
 |a::as,_::_,hF,hH,o=>by
   obtain⟨⟨h1,xs,h2,h3⟩,o2⟩:=o
   exact⟨⟨hF a Xb,xs,by rw[hH a Xb];exact h2,h3.mono s⟩,Za7.move s (fun b hb=>hF b (Xd _ hb)) (fun b hb=>hH b (Xd _ hb)) o2⟩
 |[],_::_,_,_,h=>False.elim h
 |_::_,[],_,_,h=>False.elim h
theorem ZaN.move {F F' H H':Hp}{v:V}{t:OT}{p:List Addr}(s:ZaP F F')(hF:∀a∈p,F' a=none)(hH:∀a∈p,H' a=H a)(h:ZaN K F H v t p):ZaN K F' H' v t p:=by
 cases t with
 |fz d=>exact⟨h.1,h.2.mono s⟩
 |zow Ψ=>exact⟨h.1,Ψ.mono s h.2⟩
 |ol ds =>
   obtain⟨a,rfl,rfl,h1,xs,h2,h3⟩:=h
   exact⟨a,rfl,rfl,hF a Xb,xs,by rw[hH a Xb];exact h2,h3.mono s⟩
 |oll dss =>
   obtain⟨a,as,rfl,rfl,h1,h2,h3,h4⟩:=h
   exact⟨a,as,rfl,rfl,h1,hF a Xb,by rw[hH a Xb];exact h3,h4.move s (fun b hb=>hF b (Xd _ hb)) fun b hb=>hH b (Xd _ hb)⟩
 |scr ns=>obtain⟨h1,a,h2,h3⟩:=h;exact⟨h1,a,h2,h3.mono s⟩
 |own v0 Φ=>exact⟨h.1,Φ.mono s hF hH h.2⟩
theorem Zl2 {F0 H0 F H:Hp}{σ:St}{E:Ends}{v:V}{Ψ:NetS->Prop}(S:Sta K H0 F ρ σ H)(x:Ext F0 H0 F H)(e:ρ[i]?=some (some (.own v (Zc7 P w C N))))(hn:∀N',Ψ N'->D.nx (ρ.set i (some (.own v (Zc7 P w C N')))))(C':Cnv K F0 H0 D E) :
 ∃a p,v=.ref a/\(Zc7 P w C N).ok K F H (.ref a) p/\∀F' H' p' N',Ψ N'->ExtN p F H F' H'->(Zc7 P w C N').ok K F' H' (.ref a) p'->(∀b∈p',b∈p\/H b=none)->E.nx σ H':=by
 obtain⟨kt,h1,h2,fp,h3,h4,h5⟩:=S
 obtain⟨u,e1,rfl,ok⟩:=h3 i _ e
 obtain⟨a,_,_,_,_,_,_,_,_,rfl,_⟩:=id ok
 have hlt:=(Xe.mp e).1
 refine⟨a,fp i,rfl,ok,fun F' H' p' N' hN xn ok' sub=>?_⟩
 have out:∀j,j≠i->∀b∈fp j,b∉fp i:=fun j hj b hb z=>hj (h4 j i b hb z)
 have hH:∀j,j≠i->∀b∈fp j,H' b=H b:=fun j hj b hb=>by
  obtain⟨o,ho⟩:=ZfB (h5 j b hb).2
  rw[xn.hh b o (out j hj b hb) ho,ho]
 refine C'.nx F' σ H' _ ⟨fun b o hb=>xn.hh b o (fun z=>by rw[(h5 i b z).1]at hb;cases hb) (x.hh b o hb),x.ff.trans xn.ff,xn.fh,fun b hb=>?_⟩ ⟨kt.mono xn.ff,xn.fh,by simp[h2],fun j=>if j=i then p' else fp j,fun j t' e'=>?_,fun j k b hb hc=>?_,fun j b hb=>?_⟩ (hn N' hN)
 ·rcases xn.fr b hb with z|z|z
  ·exact x.fr b z
  ·exact .inr (x.hh.free z)
  ·exact .inr (h5 i b z).1
 ·by_cases hj:j=i
  ·subst hj
   rw[XN hlt]at e';cases e'
   refine⟨_,e1,rfl,?_⟩
   simp only[if_true];exact ok'
  ·rw[XU (Ne.symm hj)]at e'
   obtain⟨u',f1,f2⟩:=h3 j t' e'
   refine⟨u',f1,?_⟩
   simp only[Xa hj];refine f2.move xn.ff (fun b hb=>?_) (hH j hj)
   cases z:F' b with
   |none=>rfl
   |some o =>
     rcases xn.fr b (ZaR z) with y|y|y
     ·exact Xp (f2.there b hb).1 y
     ·exact Xp y (h5 j b hb).2
     ·exact Xp y (out j hj b hb)
 ·by_cases hj:j=i
  ·by_cases hk:k=i
   ·omega
   ·simp only[Xc hj]at hb
    simp only[Xa hk]at hc;rcases sub b hb with z|z
    ·exact Xp (h4 k i b hc z) hk
    ·exact Xp z (h5 k b hc).2
  ·simp only[Xa hj]at hb
   by_cases hk:k=i
   ·simp only[Xc hk]at hc
    rcases sub b hc with z|z
    ·exact Xp (h4 j i b hb z) hj
    ·exact Xp z (h5 j b hb).2
   ·simp only[Xa hk]at hc
    exact h4 j k b hb hc
 ·by_cases hj:j=i
  ·simp only[Xc hj]at hb
   refine⟨?_,((Zc7 P w C N').there ok' b hb).2⟩
   rcases sub b hb with z|z
   ·exact(h5 i b z).1
   ·exact x.hh.free z
  ·simp only[Xa hj]at hb
   exact⟨(h5 j b hb).1,by rw[hH j hj b hb];exact(h5 j b hb).2⟩
theorem Zdn {R:NetS->List OT->(NetS->Prop)->Prop}{t:TA}{E':XK}{v:V}{ΦA:List OT->Prop}(hm:NoF m)(e:ρ[i]?=some (some (.own v (Zc7 P w C N))))(hA:Zup K t ρ ΦA)
 (hR:∀ts,ΦA ts->∃Ψ,R N ts Ψ/\∀N',Ψ N'->D.nx (ρ.set i (some (.own v (Zc7 P w C N'))))):EvS K (Zi8 (Zmr C m (spN K P w C R) [] E' (Zb8 i) t)) ρ D:=fun F0 H0 F σ H E x S C'=>by
 obtain⟨a,dx,el,r,l,d,xs,ys,as,rfl,e1,ok,_⟩:=S.net e
 refine⟨_,e1,a,dx,_,rfl,ok.ins.2,hm _ _ _ _,hA H0 F σ H _ S fun F1 H1 vs ts ht x1 r1=>?_⟩
 obtain⟨Ψ,hR',hn⟩:=hR ts ht
 obtain⟨a',p,ea,okp,fin⟩:=Zl2 (S.ext x1) (x.trans x1) e hn C'
 cases ea
 exact⟨F1,a,vs++[],p,ts,N,Ψ,rfl,(S.ext x1).kt,x1.fh,by rw[X4];exact r1,okp,hR',fin⟩
theorem ZkJ {R:NetS->List OT->(NetS->Prop)->Prop}{t:TA}{E':XK}{v:V}{ΦA:List OT->Prop}(e:ρ[i]?=some (some (.own v (Zc7 P w C N))))(hA:Zup K t ρ ΦA)
 (hR:∀ts,ΦA ts->∃Ψ,R N ts Ψ/\∀N',Ψ N'->D.nx (ρ.set i (some (.own v (Zc7 P w C N'))))):EvS K (Zi8 (Zih (spN K P w C R) [] E' (ZaM (Zb8 i) t))) ρ D:=fun F0 H0 F σ H E x S C'=>by
 obtain⟨a,dx,el,r,l,d,xs,ys,as,rfl,e1,ok,_⟩:=S.net e
 refine⟨_,e1,hA H0 F σ H _ S fun F1 H1 vs ts ht x1 r1=>?_⟩
 obtain⟨Ψ,hR',hn⟩:=hR ts ht
 obtain⟨a',p,ea,okp,fin⟩:=Zl2 (S.ext x1) (x.trans x1) e hn C'
 cases ea
 exact⟨F1,a,vs++[],p,ts,N,Ψ,rfl,(S.ext x1).kt,x1.fh,by rw[X4];exact r1,okp,hR',fin⟩
def spI (P:Program)(w:World)(C:Addr):Sp:=fun vs H Q _=>∃x dx,vs=[.ref x]/\H x=some (.ins C dx [])/\∀e r l d H',H e=none->H r=none->H l=none->H d=none->[x,e,r,l,d].Nodup ->
 H' x=some (.ins C dx [("ends",.ref e),("rooms",.ref r),("leaving",.ref l),("laid",.ref d)])->H' e=some (.lst [])->H' r=some (.lst [])->H' l=some (.dT [])->H' d=some (pdO P w d [])->(∀b,b∉[x,e,r,l,d]->H' b=H b)->Q .non H'
theorem ZrR {E:XK}:EvX K (Zru C (spI P w C) [] E Zd8) ρ (Zc7 P w C ⟨[],[],[],[]⟩):=fun H0 F σ H Q S q=>fun x dx hx hdx ne=>by
 refine⟨x,dx,rfl,Zam,fun e r l d H' he hr hl hd nd h1 h2 h3 h4 h5 ho=>⟨rfl,?_⟩⟩
 have un:∀{b:Addr},upd (upd H dx (.own x)) x (.ins C dx []) b=none->H b=none/\b≠x/\b≠dx:=fun{b} hb=>by
  have n1:b≠x:=fun z=>by rw[z,Zam]at hb;cases hb
  rw[Zak n1]at hb;have n2:b≠dx:=fun z=>by rw[z,Zam]at hb;cases hb
  rw[Zak n2]at hb;exact⟨hb,n1,n2⟩
 obtain⟨e1,e2,e3⟩:=un he
 obtain⟨r1,r2,r3⟩:=un hr
 obtain⟨l1,l2,l3⟩:=un hl
 obtain⟨d1,d2,d3⟩:=un hd
 have hdx':H' dx=some (.own x):=by
  rw[ho dx (by simp only[Xf,Xad,or_false,not_or];exact⟨ne,Ne.symm e3,Ne.symm r3,Ne.symm l3,Ne.symm d3⟩),Zak ne,Zam]
 have kp:∀b o,H b=some o->H' b=some o:=fun b o hb=>by
  have nb:∀{c:Addr},H c=none->b≠c:=fun hc z=>by rw[z,hc]at hb;cases hb
  rw[ho b (by simp only[Xf,Xad,or_false,not_or];exact⟨nb hx,nb e1,nb r1,nb l1,nb d1⟩),Zak (nb hx),Zak (nb hdx)];exact hb
 have fr:∀{b:Addr},H b=none->F b=none:=fun hb=>S.sub.free hb
 refine q F H' (.ref x) [x,dx,e,r,l,d] ⟨kp,ZaP.refl _,fun b o hb=>kp b o (S.sub b o hb),fun _ h=>.inl h⟩ (fun b hb=>?_) ⟨x,dx,e,r,l,d,[],[],[],rfl,rfl,?_,⟨fr hx,h1⟩,⟨fr hdx,hdx'⟩,⟨fr e1,[],h2,.nil⟩,⟨fr r1,[],h3,.nil⟩,⟨fr l1,h4,.nil⟩,⟨fr d1,h5,.nil⟩⟩
 ·simp only[Xf,Xad,or_false]at hb
  rcases hb with rfl|rfl|rfl|rfl|rfl|rfl
  ·exact hx
  ·exact hdx
  ·exact e1
  ·exact r1
  ·exact l1
  ·exact d1
 ·simp only[XL,Xf,Xad,or_false,not_or,not_false_eq_true,XaW,and_true]at nd ⊢
  obtain⟨⟨a1,a2,a3,a4⟩,b1,c1,f1⟩:=nd
  exact⟨⟨Ne.symm ne,a1,a2,a3,a4⟩,⟨Ne.symm e3,Ne.symm r3,Ne.symm l3,Ne.symm d3⟩,b1,c1,f1⟩
end
end
section
variable {P:Program}{w:World}{K:W.Frag}{mg:Str->Option Value}{base:Heap}
theorem Fun.evD {x qual:Str}{st:Stmt}{f:Addr}{fd:FuncData}{N ps:List Str}{k:Nat}{R:List OT->(OT->Prop)->Prop}(F:Fun K x qual st f fd)(S:FnScope N ps (Zaf st))(len:∀ts Φ,R ts Φ->ts.length=ps.length)
 (Xbs:∀(cdv:Value) (A:Around) (outer:List Env) (s:Shared) (H:Hp) (E:XK) (ts:List OT) (Φ:OT->Prop),Room k (A.deeper (envOfC qual (Zaf st) s.heap.objs.size f cdv))->R ts Φ ->
  ∃t,PSs (ZjN CX0 P w K mg base N qual (Zaf st) f cdv A outer s H E).nox (ZaS st) t/\EvS K t (ts.map some++List.replicate (N.length-ts.length) none) { nx:=fun _=>Φ (.fz .none),rt:=Φ }):FnOk P w K mg base CX0 (k+1) f fd ps (spD K R):=by
 refine F.ok S (fun vs H Q E ⟨F,ts,Φ,_,_,ha,hR,_⟩=>ha.length.trans (len ts Φ hR)) fun cdv A outer s H vs Q E hr ⟨F,ts,Φ,kt,sm,ha,hR,q⟩=>?_
 obtain⟨t,h1,h2⟩:=Xbs cdv A outer s H E ts Φ hr hR
 refine⟨t,h1,h2 F H F (start N vs) H _ (Ext.refl sm) ⟨kt,sm,?_,fun _=>[],fun i t' e=>?_,fun i j a h=>(nomatch h),fun i a h=>(nomatch h)⟩ ⟨fun F' σ' H' ρ' x' _ e=>?_,fun F' H' v r' p x' hp ok e=>q F' H' v p r' e x' hp ok,fun _ _ _ _ _ _ z=>False.elim z,fun _ _ _ _ _ _ z=>False.elim z⟩⟩
 ·unfold start
  simp[ha.length]
 ·have hlt:i<ts.length:=by
   by_cases z:i<ts.length
   ·exact z
   ·rw[Xar (by simpa using z)]at e
    have:=List.mem_of_getElem? e
    simp at this
  rw[Xab (by simpa using hlt),Xi]at e;have e':ts[i]?=some t':=by
   cases z:ts[i]? with
   |none=>rw[z]at e;simp at e
   |some w=>rw[z]at e;simp at e;rw[e]
  obtain⟨v,e1,e2⟩:=ha.get (H:=H) i t' e'
  refine⟨v,?_,e2⟩
  unfold start;have hl2:i<vs.length:=by rw[ha.length];exact hlt
  rw[Xab (by simpa using hl2),Xi,e1];rfl
 ·exact q F' H' _ [] _ e x' (fun _ z=>nomatch z) ⟨rfl,.non⟩
theorem Fun.evN {C:Addr}{x qual:Str}{st:Stmt}{f:Addr}{fd:FuncData}{N ps:List Str}{k:Nat}{R:NetS->List OT->(NetS->Prop)->Prop}(F:Fun K x qual st f fd)(S:FnScope N ps (Zaf st))(len:∀M ts Ψ,R M ts Ψ->ts.length+1=ps.length)
 (Xbs:∀(cdv:Value) (A:Around) (outer:List Env) (s:Shared) (H:Hp) (E:XK) (v:V) (M:NetS) (ts:List OT) (Ψ:NetS->Prop),Room k (A.deeper (envOfC qual (Zaf st) s.heap.objs.size f cdv))->R M ts Ψ ->
  ∃t,PSs (ZjN CX0 P w K mg base N qual (Zaf st) f cdv A outer s H E).nox (ZaS st) t/\EvS K t (some (.own v (Zc7 P w C M))::(ts.map some++List.replicate (N.length-(ts.length+1)) none)) { nx:=fun ρ'=>∃M',Ψ M'/\ρ'[0]?=some (some (.own v (Zc7 P w C M'))),rt:=fun _=>False }) :
 FnOk P w K mg base CX0 (k+1) f fd ps (spN K P w C R):=by
 refine F.ok S (fun vs H Q E ⟨F,a,vs',p,ts,M,Ψ,e,_,_,ha,_,hR,_⟩=>by rw[e,XW,ha.length];exact len _ _ _ hR) fun cdv A outer s H vs Q E hr ⟨F,a,vs',p,ts,M,Ψ,e,kt,sm,ha,ok,hR,q⟩=>?_
 subst e;obtain⟨t,h1,h2⟩:=Xbs cdv A outer s H E (.ref a) M ts Ψ hr hR
 have h0:∀b,(fun b=>if b∈p then none else H b:Hp) b=none->b∈p\/H b=none:=fun b hb=>by
  by_cases z:b∈p
  ·exact .inl z
  ·simp only[Xa z]at hb;exact .inr hb
 have th:=fun b hb=>(Zc7 P w C M).there ok b hb
 refine⟨t,h1,h2 F (fun b=>if b∈p then none else H b) F (start N (.ref a::vs')) H _ ⟨fun b o hb=>?_,ZaP.refl _,sm,fun _ h=>.inl h⟩ ⟨kt,sm,?_,fun j=>if j=0 then p else [],fun j t' e=>?_,fun j k' b hb hc=>?_,fun j b hb=>?_⟩
  ⟨fun F' σ' H' ρ' x' S' ⟨M',hM,e0⟩=>?_,fun F' H' v r' p x' hp ok e=>False.elim e,fun _ _ _ _ _ _ z=>False.elim z,fun _ _ _ _ _ _ z=>False.elim z⟩⟩
 ·by_cases z:b∈p
  ·simp[z]at hb
  ·simp only[Xa z]at hb;exact hb
 ·unfold start
  simp[ha.length]
 ·cases j with
  |zero =>
    simp at e
    subst e;refine⟨.ref a,?_,rfl,?_⟩
    ·unfold start
     simp
    ·simp only[if_true]
     exact ok
  |succ i =>
    rw[Xa3]at e;have hlt:i<ts.length:=by
     by_cases z:i<ts.length
     ·exact z
     ·rw[Xar (by simpa using z)]at e
      have:=List.mem_of_getElem? e
      simp at this
    rw[Xab (by simpa using hlt),Xi]at e;have e':ts[i]?=some t':=by
     cases z:ts[i]? with
     |none=>rw[z]at e;simp at e
     |some w=>rw[z]at e;simp at e;rw[e]
    obtain⟨v,e1,e2⟩:=ha.get (H:=H) i t' e'
    refine⟨v,?_,?_⟩
    ·unfold start
     have hl2:i<vs'.length:=by rw[ha.length];exact hlt
     rw[Xr,XaK,Xa3,Xab (by simpa using hl2),Xi,e1];rfl
    ·simp only[Nat.add_one_ne_zero,if_false]
     exact e2
 ·by_cases hj:j=0
  ·by_cases hk:k'=0
   ·rw[hj,hk]
   ·simp[hk]at hc
  ·simp[hj]at hb
 ·by_cases hj:j=0
  ·simp only[Xc hj]at hb
   exact⟨by simp[hb],(th b hb).2⟩
  ·simp[hj]at hb
 ·obtain⟨fp,g1,g2,g3⟩:=S'.fp
  obtain⟨u,u1,rfl,ok'⟩:=g1 0 _ e0
  refine q F' H' (fp 0) M' hM ⟨fun b o nb hb=>x'.hh b o (by simp only[Xa nb];exact hb),x'.ff,x'.fh,fun b hb=>?_⟩ ok' (fun b hb=>h0 b (g3 0 b hb).1)
  rcases x'.fr b hb with z|z
  ·exact .inl z
  ·exact .inr ((h0 b z).symm)
structure Mf (K:W.Frag)(C:Addr)(m qual:Str)(st:Stmt)(ps:List Str):Prop where
 ex:∃f fd,Fun K m qual st f fd/\Meth K C m f/\ZfG K fd ps []
def Zi0 (P:Program)(w:World)(K:W.Frag)(mg:Str->Option Value)(base:Heap)(C:Addr)(m:Str)(ps:List Str)(k:Nat)(sp:Sp):Prop :=
 ∃f fd,Meth K C m f/\ZfG K fd ps []/\FnOk P w K mg base CX0 k f fd ps sp
theorem Mf.evD {C:Addr}{m qual:Str}{st:Stmt}{N ps:List Str}{k:Nat}{R:List OT->(OT->Prop)->Prop}(D:Mf K C m qual st ps)(S:FnScope N ps (Zaf st))(len:∀ts Φ,R ts Φ->ts.length=ps.length)
 (Xbs:∀(f:Addr) (cdv:Value) (A:Around) (outer:List Env) (s:Shared) (H:Hp) (E:XK) (ts:List OT) (Φ:OT->Prop),Room k (A.deeper (envOfC qual (Zaf st) s.heap.objs.size f cdv))->R ts Φ ->
  ∃t,PSs (ZjN CX0 P w K mg base N qual (Zaf st) f cdv A outer s H E).nox (ZaS st) t/\EvS K t (ts.map some++List.replicate (N.length-ts.length) none) { nx:=fun _=>Φ (.fz .none),rt:=Φ }):Zi0 P w K mg base C m ps (k+1) (spD K R):=by
 obtain⟨f,fd,F,hm,hb⟩:=D.ex
 exact⟨f,fd,hm,hb,F.evD S len fun cdv A outer s H E ts Φ=>Xbs f cdv A outer s H E ts Φ⟩
theorem Mf.evN {C:Addr}{m qual:Str}{st:Stmt}{N ps:List Str}{k:Nat}{R:NetS->List OT->(NetS->Prop)->Prop}(D:Mf K C m qual st ps)(S:FnScope N ps (Zaf st))(len:∀M ts Ψ,R M ts Ψ->ts.length+1=ps.length)
 (Xbs:∀(f:Addr) (cdv:Value) (A:Around) (outer:List Env) (s:Shared) (H:Hp) (E:XK) (v:V) (M:NetS) (ts:List OT) (Ψ:NetS->Prop),Room k (A.deeper (envOfC qual (Zaf st) s.heap.objs.size f cdv))->R M ts Ψ ->
  ∃t,PSs (ZjN CX0 P w K mg base N qual (Zaf st) f cdv A outer s H E).nox (ZaS st) t/\EvS K t (some (.own v (Zc7 P w C M))::(ts.map some++List.replicate (N.length-(ts.length+1)) none)) { nx:=fun ρ'=>∃M',Ψ M'/\ρ'[0]?=some (some (.own v (Zc7 P w C M'))),rt:=fun _=>False }) :
 Zi0 P w K mg base C m ps (k+1) (spN K P w C R):=by
 obtain⟨f,fd,F,hm,hb⟩:=D.ex
 exact⟨f,fd,hm,hb,F.evN S len fun cdv A outer s H E v M ts Ψ=>Xbs f cdv A outer s H E v M ts Ψ⟩
theorem Df.evD {x:Str}{st:Stmt}{N ps:List Str}{k:Nat}{R:List OT->(OT->Prop)->Prop}(D:Df K mg x st ps)(S:FnScope N ps (Zaf st))(len:∀ts Φ,R ts Φ->ts.length=ps.length)
 (Xbs:∀(f:Addr) (cdv:Value) (A:Around) (outer:List Env) (s:Shared) (H:Hp) (E:XK) (ts:List OT) (Φ:OT->Prop),Room k (A.deeper (envOfC x (Zaf st) s.heap.objs.size f cdv))->R ts Φ ->
  ∃t,PSs (ZjN CX0 P w K mg base N x (Zaf st) f cdv A outer s H E).nox (ZaS st) t/\EvS K t (ts.map some++List.replicate (N.length-ts.length) none) { nx:=fun _=>Φ (.fz .none),rt:=Φ }):Cal P w K mg base x ps (k+1) (spD K R):=by
 obtain⟨f,fd,F,hm,hb⟩:=D.ex
 exact⟨f,fd,hm,F.kp,hb,F.evD S len fun cdv A outer s H E ts Φ=>Xbs f cdv A outer s H E ts Φ⟩
theorem Df.evN {C:Addr}{x:Str}{st:Stmt}{N ps:List Str}{k:Nat}{R:NetS->List OT->(NetS->Prop)->Prop}(D:Df K mg x st ps)(S:FnScope N ps (Zaf st))(len:∀M ts Ψ,R M ts Ψ->ts.length+1=ps.length)
 (Xbs:∀(f:Addr) (cdv:Value) (A:Around) (outer:List Env) (s:Shared) (H:Hp) (E:XK) (v:V) (M:NetS) (ts:List OT) (Ψ:NetS->Prop),Room k (A.deeper (envOfC x (Zaf st) s.heap.objs.size f cdv))->R M ts Ψ ->
  ∃t,PSs (ZjN CX0 P w K mg base N x (Zaf st) f cdv A outer s H E).nox (ZaS st) t/\EvS K t (some (.own v (Zc7 P w C M))::(ts.map some++List.replicate (N.length-(ts.length+1)) none)) { nx:=fun ρ'=>∃M',Ψ M'/\ρ'[0]?=some (some (.own v (Zc7 P w C M'))),rt:=fun _=>False }) :
 Cal P w K mg base x ps (k+1) (spN K P w C R):=by
 obtain⟨f,fd,F,hm,hb⟩:=D.ex
 exact⟨f,fd,hm,F.kp,hb,F.evN S len fun cdv A outer s H E v M ts Ψ=>Xbs f cdv A outer s H E v M ts Ψ⟩
def Zu7 (P:Program)(w:World)(K:W.Frag)(mg:Str->Option Value)(base:Heap)(x:Str)(C:Addr)(k:Nat):Prop :=
 ∃f fd,Mk K C f/\mg x=some (.ref C)/\ZfG K fd ["self"] []/\FnOk P w K mg base CX0 k f fd ["self"] (spI P w C)
end
section
variable {X:Cx}
theorem Zc2 {C:Addr}{m:Str}{pos apos:Pos}{o e:Expr}{es:List Expr}{ta:TE}{t:TA}{ps:List Str}{j k:Nat}{sp:Sp}{pl:Sem Bool}(M:Zi0 X.prog X.w X.K X.mg X.base C m ps j sp)(c:NetC X.K C)(hr:Room k X.A)(he:PE X o ta)(ha:PA X (e::es) t)(hj:j<=k:=by decide)
 (hst:starEach (e::es) X.env=(false,eval e X.env)::starEach es X.env:=by rfl) (hpl:(backTo pos (starEach es X.env)).any (·.1)=false:=by rfl)
 (ht:eval (.Call (.Attribute o m apos) (e::es) [] pos) X.env=(do
  let ov <- eval o X.env
  standAt apos.atName
  let (f,first) <- holding [ov] (getMethod ov m pl)
  callWith pos f first (backTo pos (starEach (e::es) X.env)) (backToKw pos (keywordEach [] X.env))):=by rfl) :
 PE X (.Call (.Attribute o m apos) (e::es) [] pos) (Zmr C m sp [] E0 ta t):=by
 obtain⟨f,fd,hm,hb,F⟩:=M
 exact Zr4 (pl:=pl) he c.cl hm F (hr.mono hj) hb .nil ZsA ha hst hpl ht
theorem Zrn {C:Addr} {x:Str} {p pos:Pos} {j k:Nat} (M:Zu7 X.prog X.w X.K X.mg X.base x C j) (hr:Room k X.A) (hj:j+1<=k:=by decide) (hg:Gl X x:=by rfl) (hdb:(x==("__debug__" : Str))=false:=by decide +kernel) :
 PE X (.Call (.Name x p) [] [] pos) (Zru C (spI X.prog X.w C) [] E0 Zd8):=by
 obtain⟨f,fd,M,hm,hb,F⟩:=M
 exact ZpC M F (hr.mono hj) hg hm hb .nil ZsA hdb
end
end L2
end
section
namespace Mir
open PySem L2
def nk:Nd->List Key
 |.start=>[.inr "start"]
 |.fin=>[.inr "end"]
 |.guest k=>[.inr "guest",.inl (k:Int)]
 |.line l t=>[.inr "line",.inl (l:Int),.inl (t:Int)]
theorem ZgR:∀{a b:Nd},nk a=nk b->a=b
 |.start,.start,_=>rfl
 |.fin,.fin,_=>rfl
 |.start,.fin,h=>Xp h (by decide)
 |.fin,.start,h=>Xp h (by decide)
 |.guest a,.guest b,h=>by
   injection h with _ h
   injection h with h _
   injection h with h
   have:a=b:=by omega
   rw[this]
 |.line a b,.line c d,h=>by
   injection h with _ h
   injection h with h1 h
   injection h with h2 _
   injection h1 with h1
   injection h2 with h2
   have e1:a=c:=by omega
   have e2:b=d:=by omega
   rw[e1,e2]
 |.start,.guest _,h=>by have q:=Xaf List.length h;simp[nk]at q
 |.start,.line _ _,h=>by have q:=Xaf List.length h;simp[nk]at q
 |.fin,.guest _,h=>by have q:=Xaf List.length h;simp[nk]at q
 |.fin,.line _ _,h=>by have q:=Xaf List.length h;simp[nk]at q
 |.guest _,.start,h=>by have q:=Xaf List.length h;simp[nk]at q
 |.guest _,.fin,h=>by have q:=Xaf List.length h;simp[nk]at q
 |.guest _,.line _ _,h=>by have q:=Xaf List.length h;simp[nk]at q
 |.line _ _,.start,h=>by have q:=Xaf List.length h;simp[nk]at q
 |.line _ _,.fin,h=>by have q:=Xaf List.length h;simp[nk]at q
 |.line _ _,.guest _,h=>by have q:=Xaf List.length h;simp[nk]at q
theorem Ztc {a b:Nd}:nk a=nk b↔a=b:=⟨ZgR,fun h=>by rw[h]⟩
def ZsE:Option Nat->PyData
 |none=>.none
 |some e=>.int (e:Int)
def kvG (es:Got Nd):Zge:=es.map fun x=>(nk x.1,ZsE x.2)
theorem ZhK (n:Nd):∀es:Got Nd,ZjM (kvG es) (nk n)=(ZjD es n).map ZsE
 |[]=>rfl
 |(k,v)::es=>by
   have ih:=ZhK n es
   unfold ZjD at ih ⊢;rw[XO];unfold kvG ZjM at ih ⊢;rw[Xr,XA];by_cases e:k=n
   ·subst e
    simp
   ·have e1:¬nk k=nk n:=fun z=>e (ZgR z)
    have e2:(n==k)=false:=by rw[beq_eq_false_iff_ne];exact fun z=>e z.symm
    rw[e2];simp only[e1,decide_false];exact ih
theorem Zkq {es:Got Nd}{n:Nd}:(es.lookup n).isSome=decide (n∈ZaC es):=by
 induction es with
 |nil=>rfl
 |cons p es ih =>
   obtain⟨k,v⟩:=p
   rw[XO];by_cases e:n=k
   ·subst e
    simp[ZaC]
   ·have e2:(n==k)=false:=by rw[beq_eq_false_iff_ne];exact e
    rw[e2];have:decide (n∈ZaC ((k,v)::es))=decide (n∈ZaC es):=by
     apply decide_eq_decide.mpr
     unfold ZaC;rw[Xr,Xf];exact⟨fun z=>z.resolve_left e,.inr⟩
    rw[this];exact ih
theorem Zj7 (n:Nd)(es:Got Nd):(ZjM (kvG es) (nk n)).isSome=decide (n∈ZaC es):=by
 rw[ZhK,XaC];exact Zkq
theorem Zpy (es:Got Nd):ZoJ (kvG es):=fun x hx=>by
 obtain⟨y,_,rfl⟩:=Xx.mp hx
 cases h:y.2 with
 |none=>exact⟨.non,by simp[h,ZsE,Zef]⟩
 |some e=>exact⟨.int (e:Int),by simp[h,ZsE,Zef]⟩
theorem Zpf {es:Got Nd}{n:Nd}{e:Nat}(h:n∉ZaC es):ZsH (kvG es) (nk n) (.int (e:Int))=kvG (es++[(n,some e)]):=by
 unfold ZsH;have:¬((kvG es).any fun kv=>decide (kv.1=nk n))=true:=fun z=>by
  obtain⟨x,hx,hz⟩:=List.any_eq_true.mp z
  obtain⟨y,hy,rfl⟩:=Xx.mp hx
  have q:y.1=n:=ZgR (XD hz)
  exact h (by rw[<- q];exact Xx.mpr ⟨y,hy,rfl⟩)
 rw[Xa this];unfold kvG;rw[Xz];rfl
structure NetR (N:NetS)(L:Lay Nd)(φ:Phi Nd):Prop where
 ends:N.ends=(Zhj L).map nk
 rooms:N.rooms=Zcp L φ
 leav:∀(n:Nd) (e:Int),e∈(Zbx N.leav (nk n)).getD [] ↔ ∃j:Nat,e=(j:Int)/\tlE L j=some n
 laid:∀(i:Nat) (x:Nd×Nd×Int),L[i]?=some x->ZfW N.laid (nk x.1,nk x.2.1)=some ((2*i:Nat):Int)
 laid0:∀p q:Nd,(p,q)∉L.map (fun x=>(x.1,x.2.1))->ZfW N.laid (nk p,nk q)=none
 l1:N.leav.length<=2*L.length
 l2:N.laid.length<=L.length
 l3:∀k ns,Zbx N.leav k=some ns->ns.length<=2*L.length
theorem ZuI (φ:Phi Nd):NetR ⟨[],[],[],[]⟩ [] φ where
 ends:=rfl
 rooms:=rfl
 leav n e:=by
  constructor
  ·intro h;simp[Zbx]at h
  ·rintro⟨j,_,h⟩;simp[tlE]at h
 laid i x h:=by simp at h
 laid0 p q _:=rfl
 l1:=X0 _
 l2:=X0 _
 l3 k ns h:=by simp[Zbx]at h
theorem ZbY {k k':List Key}{ns:List Int}{ls:List (List Key×List Int)}:Zbx ((k',ns)::ls) k=if k'=k then some ns else Zbx ls k:=by
 by_cases e:k'=k
 ·simp[Zbx,XA,e]
 ·simp[Zbx,XA,e]
theorem Zlg (k k':List Key)(x:Int):∀ls:List (List Key×List Int),Zbx (Zj0 ls k x) k'=if k'=k then (Zbx ls k).map (· ++ [x]) else Zbx ls k'
 |[]=>by
   unfold Zj0;by_cases e:k'=k
   ·rw[Xc e];simp[Zbx]
   ·rw[Xa e]
 |(j,ns)::ls=>by
   unfold Zj0;have ih:=Zlg k k' x ls
   by_cases e:j=k
   ·rw[Xc e,ZbY,ZbY,ZbY,Xc e]
    by_cases e2:k'=k
    ·rw[Xc e2,Xc (e.trans e2.symm)];rfl
    ·rw[Xa e2,Xa (fun z=>e2 (z.symm.trans e)),Xa (fun z=>e2 (z.symm.trans e))]
   ·rw[Xa e,ZbY,ZbY,ZbY,Xa e,ih]
    by_cases e2:k'=k
    ·rw[Xc e2,Xa (fun z=>e (z.trans e2)),Xc e2]
    ·rw[Xa e2,Xa e2]
theorem Zgl (k:List Key)(x:Int):∀ls:List (List Key×List Int),(Zj0 ls k x).length=ls.length
 |[]=>rfl
 |(j,ns)::ls=>by
   unfold Zj0;split
   ·simp
   ·simp[Zgl k x ls]
theorem Zhy (k k':List Key):∀ls:List (List Key×List Int),Zbx ls k=none->Zbx (ls++[(k,[])]) k'=if k'=k then some [] else Zbx ls k'
 |[],_=>by
   rw[Xbl,ZbY];by_cases e:k'=k
   ·rw[Xc e,Xc e.symm]
   ·rw[Xa e,Xa (fun z=>e z.symm)]
 |(j,ns)::ls,h=>by
   rw[ZbY]at h;by_cases e:j=k
   ·rw[Xc e]at h;cases h
   ·rw[Xa e]at h
    rw[XaK,ZbY,ZbY,Zhy k k' ls h];by_cases e2:k'=k
    ·rw[Xc e2,Xa (fun z=>e (z.trans e2)),Xc e2]
    ·rw[Xa e2,Xa e2]
theorem Zif (ls:List (List Key×List Int))(k k':List Key):Zbx (Zj1 ls k) k'=if k'=k then some ((Zbx ls k).getD []) else Zbx ls k':=by
 unfold Zj1;cases h:Zbx ls k with
 |some ns =>
   rw[Xc (by rfl)];by_cases e:k'=k
   ·rw[Xc e,e,h];rfl
   ·rw[Xa e]
 |none =>
   rw[Xa (by simp),Zhy k k' ls h];rfl
theorem ZkC (ls:List (List Key×List Int))(k:List Key):(Zj1 ls k).length<=ls.length+1:=by
 unfold Zj1;split
 ·omega
 ·simp
def ZsI (N:NetS)(s e:List Key)(r:Int):NetS:={ N with ends:=N.ends++[e],rooms:=N.rooms++[r],leav:=Zj0 (Zj1 N.leav s) s (N.ends.length:Int) }
def ZqX (N:NetS)(s e:List Key)(r:Int):NetS:=ZsI (ZsI { N with laid:=Zmu N.laid (s,e) (N.ends.length:Int) } s e r) e s 0
theorem ZdD (N:NetS)(s e:List Key)(r:Int)(k:List Key):Zbx (ZsI N s e r).leav k=if k=s then some ((Zbx N.leav s).getD []++[(N.ends.length:Int)]) else Zbx N.leav k:=by
 show Zbx (Zj0 (Zj1 N.leav s) s _) k=_
 rw[Zlg,Zif,Xc rfl,Zif];by_cases e:k=s
 ·rw[Xc e,Xc e];rfl
 ·rw[Xa e,Xa e,Xa e]
theorem ZbR {k k':KK}{n:Int}{ls:List (KK×Int)}:ZfW ((k',n)::ls) k=if k'=k then some n else ZfW ls k:=by
 by_cases e:k'=k
 ·simp[ZfW,XA,e]
 ·simp[ZfW,XA,e]
theorem Zlx (k k':KK)(n:Int):∀ls:List (KK×Int),ZfW (ls.map fun x=>if x.1=k then (x.1,n) else x) k'=if k'=k then (ZfW ls k).map fun _=>n else ZfW ls k'
 |[]=>by
   by_cases e:k'=k
   ·rw[Xc e];rfl
   ·rw[Xa e];rfl
 |(j,m)::ls=>by
   rw[Xr];have ih:=Zlx k k' n ls
   by_cases e:j=k
   ·simp only[e,if_true]
    rw[ZbR,ZbR,ZbR,ih];by_cases e2:k'=k
    ·simp[e2]
    ·have:¬k=k':=fun z=>e2 z.symm
     simp[e2,this]
   ·simp only[e,if_false]
    rw[ZbR,ZbR,ZbR,ih];by_cases e2:k'=k
    ·simp[e2,e]
    ·simp[e2]
theorem Zj8 (k k':KK)(n:Int):∀ls:List (KK×Int),ZfW ls k=none->ZfW (ls++[(k,n)]) k'=if k'=k then some n else ZfW ls k'
 |[],_=>by
   rw[Xbl,ZbR];by_cases e:k'=k
   ·rw[Xc e,Xc e.symm]
   ·rw[Xa e,Xa (fun z=>e z.symm)]
 |(j,m)::ls,h=>by
   rw[ZbR]at h;by_cases e:j=k
   ·rw[Xc e]at h;cases h
   ·rw[Xa e]at h
    rw[XaK,ZbR,ZbR,Zj8 k k' n ls h];by_cases e2:k'=k
    ·rw[Xc e2,Xa (fun z=>e (z.trans e2)),Xc e2]
    ·rw[Xa e2,Xa e2]
theorem Zlz (ls:List (KK×Int))(k k':KK)(n:Int):ZfW (Zmu ls k n) k'=if k'=k then some n else ZfW ls k':=by
 unfold Zmu;cases h:ZfW ls k with
 |some m=>rw[Xc (by rfl),Zlx,h];rfl
 |none=>rw[Xa (by simp),Zj8 k k' n ls h]
theorem Zpg (ls:List (KK×Int))(k:KK)(n:Int):(Zmu ls k n).length<=ls.length+1:=by
 unfold Zmu;split
 ·simp
 ·simp
theorem ZiL {ν:Type} [DecidableEq ν] (L:Lay ν):(Zhj L).length=2*L.length:=by
 unfold Zhj;induction L with
 |nil=>rfl
 |cons x L ih=>rw[Xa8,Xt,ih,XW];simp;omega
theorem NetR.elen {N:NetS}{L:Lay Nd}{φ:Phi Nd}(h:NetR N L φ):N.ends.length=2*L.length:=by rw[h.ends,Xj,ZiL]
theorem Zf2 {ν:Type} [DecidableEq ν] (L:Lay ν)(φ:Phi ν):(Zcp L φ).length=2*L.length:=by
 unfold Zcp;induction L with
 |nil=>rfl
 |cons x L ih=>rw[Xa8,Xt,ih,XW];simp;omega
theorem Zgc {L:Lay Nd}{x:Nd×Nd×Int}{j:Nat}{n:Nd}:tlE (L++[x]) j=some n↔tlE L j=some n\/(j=2*L.length/\n=x.1)\/(j=2*L.length+1/\n=x.2.1):=by
 unfold tlE;by_cases h:j/2<L.length
 ·rw[Xab h]
  constructor
  ·exact .inl
  ·rintro(z|⟨z,_⟩|⟨z,_⟩)
   ·exact z
   ·omega
   ·omega
 ·rw[Xar (by omega),XaT.mpr (show L.length<=j/2 by omega)]
  by_cases h2:j/2=L.length
  ·rw[h2,Nat.sub_self]
   simp only[List.getElem?_cons_zero,X8,Option.map_none,Option.some.injEq];by_cases p:j%2=0
   ·rw[Xc p]
    constructor
    ·intro z;exact .inr (.inl ⟨by omega,z.symm⟩)
    ·rintro(z|⟨_,z⟩|⟨z,_⟩)
     ·cases z
     ·exact z.symm
     ·omega
   ·rw[Xa p]
    constructor
    ·intro z;exact .inr (.inr ⟨by omega,z.symm⟩)
    ·rintro(z|⟨z,_⟩|⟨_,z⟩)
     ·cases z
     ·omega
     ·exact z.symm
  ·have:([x]:Lay Nd)[j/2-L.length]?=none:=XaT.mpr (by simp;omega)
   rw[this];constructor
   ·intro z;cases z
   ·rintro(z|⟨z,_⟩|⟨z,_⟩)
    ·cases z
    ·omega
    ·omega
theorem ZpT {N:NetS}{L:Lay Nd}{φ:Phi Nd}(h:NetR N L φ){s e:Nd}{r:Int}(h0:φ s e=0)(new:(s,e)∉L.map (fun x=>(x.1,x.2.1))):NetR (ZqX N (nk s) (nk e) r) (L++[(s,e,r)]) φ where
 ends:=by
  show(N.ends++[nk e])++[nk s]=_
  unfold Zhj;rw[Xan,Xz,h.ends];simp[Zhj]
 rooms:=by
  show(N.rooms++[r])++[0]=_
  unfold Zcp;rw[Xan,h.rooms];simp[Zcp,h0]
 leav n e':=by
  have le:=h.elen
  have l1:(ZsI { N with laid:=Zmu N.laid (nk s,nk e) (N.ends.length:Int) } (nk s) (nk e) r).ends.length=2*L.length+1:=by
   show(N.ends++[nk e]).length=_
   rw[Xt,le];rfl
  have q:(Zbx (ZqX N (nk s) (nk e) r).leav (nk n)).getD []=((Zbx N.leav (nk n)).getD []++(if n=s then [((2*L.length:Nat):Int)] else []))++(if n=e then [((2*L.length+1:Nat):Int)] else []):=by
   unfold ZqX;rw[ZdD,l1,ZdD,ZdD];show Option.getD (if nk n=nk e then some ((if nk e=nk s then some ((Zbx N.leav (nk s)).getD []++[(N.ends.length:Int)]) else Zbx N.leav (nk e)).getD []++[((2*L.length+1:Nat):Int)]) else if nk n=nk s then some ((Zbx N.leav (nk s)).getD []++[(N.ends.length:Int)]) else Zbx N.leav (nk n)) []=_
   rw[le];simp only[Ztc];by_cases e1:n=e
   ·subst e1
    by_cases e2:n=s
    ·subst e2;simp
    ·simp[e2]
   ·by_cases e2:n=s
    ·subst e2;simp[e1]
    ·simp[e1,e2]
  rw[q,XI,XI,h.leav n e'];constructor
  ·rintro((⟨j,rfl,hj⟩|z)|z)
   ·exact⟨j,rfl,Zgc.mpr (.inl hj)⟩
   ·by_cases e2:n=s
    ·rw[Xc e2]at z
     exact⟨2*L.length,Xm.mp z,Zgc.mpr (.inr (.inl ⟨rfl,e2⟩))⟩
    ·rw[Xa e2]at z;cases z
   ·by_cases e2:n=e
    ·rw[Xc e2]at z
     exact⟨2*L.length+1,Xm.mp z,Zgc.mpr (.inr (.inr ⟨rfl,e2⟩))⟩
    ·rw[Xa e2]at z;cases z
  ·rintro⟨j,rfl,hj⟩
   rcases Zgc.mp hj with z|⟨rfl,z⟩|⟨rfl,z⟩
   ·exact .inl (.inl ⟨j,rfl,z⟩)
   ·exact .inl (.inr (by rw[Xc z];exact Xm.mpr rfl))
   ·exact .inr (by rw[Xc z];exact Xm.mpr rfl)
 laid i x hx:=by
  show ZfW (Zmu N.laid (nk s,nk e) (N.ends.length:Int)) (nk x.1,nk x.2.1)=_
  rw[Zlz,h.elen];by_cases hi:i<L.length
  ·rw[Xab hi]at hx
   have ne:¬(nk x.1,nk x.2.1)=(nk s,nk e):=fun z=>new (by
    injection z with z1 z2
    exact Xx.mpr ⟨x,List.mem_of_getElem? hx,by rw[ZgR z1,ZgR z2]⟩)
   rw[Xa ne];exact h.laid i x hx
  ·rw[Xar (by omega)]at hx
   have hi2:i=L.length:=by
    have:=(Xe.mp hx).1
    simp at this
    omega
   subst hi2;rw[Nat.sub_self]at hx;cases hx
   rw[Xc rfl]
 laid0 p q hn:=by
  show ZfW (Zmu N.laid (nk s,nk e) (N.ends.length:Int)) (nk p,nk q)=_
  rw[Xz,XI,not_or]at hn;rw[Zlz,Xa (fun z=>?_)]
  ·exact h.laid0 p q hn.1
  ·injection z with z1 z2
   exact hn.2 (by rw[ZgR z1,ZgR z2];simp)
 l1:=by
  have a:=h.l1
  have b:(ZqX N (nk s) (nk e) r).leav.length<=N.leav.length+2:=by
   unfold ZqX;show(Zj0 (Zj1 (Zj0 (Zj1 N.leav (nk s)) (nk s) _) (nk e)) (nk e) _).length<=_
   rw[Zgl];refine XS (ZkC _ _) ?_
   rw[Zgl];have:=ZkC N.leav (nk s)
   omega
  rw[Xt];simp
  omega
 l2:=by
  have a:=h.l2
  have b:(ZqX N (nk s) (nk e) r).laid.length<=N.laid.length+1:=Zpg _ _ _
  rw[Xt];simp
  omega
 l3 k ns hk:=by
  have g:∀k',((Zbx N.leav k').getD []).length<=2*L.length:=fun k'=>by
   cases z:Zbx N.leav k' with
   |none=>exact X0 _
   |some m=>exact h.l3 k' m z
  have g1:∀k',((Zbx (ZsI { N with laid:=Zmu N.laid (nk s,nk e) (N.ends.length:Int) } (nk s) (nk e) r).leav k').getD []).length<=2*L.length+1:=fun k'=>by
   rw[ZdD];by_cases z:k'=nk s
   ·rw[Xc z]
    have:=g (nk s)
    simpa using this
   ·rw[Xa z]
    have:=g k'
    show((Zbx N.leav k').getD []).length<=_
    omega
  unfold ZqX at hk;rw[ZdD]at hk;rw[Xt];by_cases z:k=nk e
  ·rw[Xc z]at hk
   cases hk
   have:=g1 (nk e)
   simp at this ⊢
   omega
  ·rw[Xa z]at hk
   have:=g1 k
   rw[hk]at this;simp at this ⊢
   omega
theorem ZlZ {L:Lay Nd}(hd:Dis L){φ:Phi Nd}{a r r':Int}{e:Nat}(h1:(Zcp L φ)[e]?=some r)(h2:(Zcp L φ)[Zfl e]?=some r'):Zcp L (Ze7 L a φ e)=((Zcp L φ).set e (r-a)).set (Zfl e) (r'+a):=by
 have me:Zfl e≠e:=by unfold Zfl;split<;>omega
 have mh:Zfl e/2=e/2:=by unfold Zfl;split<;>omega
 rw[Ze5]at h1 h2;have h1':=h1
 unfold rmE at h1 h2;rw[mh]at h2;cases ex:L[e/2]? with
 |none=>rw[ex]at h1;cases h1
 |some x =>
   rw[ex]at h1 h2;simp only[X8,Option.some.injEq]at h1 h2;have hp:Ze7 L a φ e=ZiH φ x.1 x.2.1 (if e%2=0 then a else -a):=by unfold Ze7;rw[ex]
   have bx:ZiH φ x.1 x.2.1 (if e%2=0 then a else -a) x.1 x.2.1=φ x.1 x.2.1+(if e%2=0 then a else -a):=by unfold ZiH;rw[Xc ⟨rfl,rfl⟩]
   have le:e/2<L.length:=(Xe.mp ex).1
   have lr:=Zf2 L φ
   have le2:e<(Zcp L φ).length:=by omega
   have lm:Zfl e<(Zcp L φ).length:=by omega
   refine List.ext_getElem? fun i=>?_
   rw[Ze5,List.getElem?_set,List.getElem?_set,Ze5,hp];by_cases im:Zfl e=i
   ·subst im
    rw[Xc rfl,Xc (show Zfl e<((Zcp L φ).set e (r-a)).length by simpa using lm)]
    unfold rmE;rw[mh,ex];simp only[X8,Option.some.injEq];rw[bx];have pm:(Zfl e%2=0)=¬(e%2=0):=by
     apply propext
     unfold Zfl;split<;>omega
    by_cases p:e%2=0
    ·have p2:¬Zfl e%2=0:=by rw[pm];exact fun z=>z p
     rw[Xa p2]at h2 ⊢;rw[Xc p];omega
    ·have p2:Zfl e%2=0:=by rw[pm];exact p
     rw[Xc p2]at h2 ⊢;rw[Xa p];omega
   ·rw[Xa im]
    by_cases ie:e=i
    ·subst ie
     rw[Xc rfl,Xc le2];unfold rmE;rw[ex];simp only[X8,Option.some.injEq];rw[bx];by_cases p:e%2=0
     ·rw[Xc p]at h1 ⊢
      rw[Xc p];omega
     ·rw[Xa p]at h1 ⊢
      rw[Xa p];omega
    ·rw[Xa ie]
     unfold rmE;cases ey:L[i/2]? with
     |none=>rfl
     |some y =>
       have ne:¬(y.1=x.1/\y.2.1=x.2.1):=fun⟨z1,z2⟩=>by
        have q:=Zk9 hd ey ex z1 z2
        unfold Zfl at im;split at im<;>omega
       have by':ZiH φ x.1 x.2.1 (if e%2=0 then a else -a) y.1 y.2.1=φ y.1 y.2.1:=by unfold ZiH;rw[Xa ne]
       simp only[X8,by']
def ZsC (L:Lay Nd)(φ:Phi Nd)(es:Got Nd)(U:List Nd):Prop := ∀e m n r,tlE L e=some m->hdE L e=some n->rmE L φ e=some r->0<r->m∈ZaC es->m∉U->n∈ZaC es
theorem ZsC.closed {L:Lay Nd}{φ:Phi Nd}{es:Got Nd}(h:ZsC L φ es []):ZcL L φ es:=fun e m n r h1 h2 h3 h4 h5=>h e m n r h1 h2 h3 h4 h5 (fun z=>nomatch z)
theorem Zce {es:Got Nd}{x:Nd×Option Nat}{n:Nd}:n∈ZaC (es++[x])↔n∈ZaC es\/n=x.1:=by
 unfold ZaC;rw[Xz,XI];simp
theorem ZsC.add {L:Lay Nd}{φ:Phi Nd}{es:Got Nd}{U V:List Nd}(h:ZsC L φ es (U++V))(n:Nd)(o:Option Nat):ZsC L φ (es++[(n,o)]) (U++(V++[n])):=fun e m k r h1 h2 h3 h4 h5 h6=>by
 rw[<- Xav,XI,not_or]at h6;have ne:m≠n:=fun z=>h6.2 (by simp[z])
 rcases Zce.mp h5 with z|z
 ·exact Zce.mpr (.inl (h e m k r h1 h2 h3 h4 z h6.1))
 ·exact Xp z ne
theorem Tree.inClosed {L:Lay Nd}{φ:Phi Nd}{s:Nd}{fs:Got Nd}(hc:ZcL L φ fs)(hs:s∈ZaC fs):∀{es:Got Nd},Tree L φ s es->∀n∈ZaC es,n∈ZaC fs
 |_,.root,n,hn=>by
   have e:n=s:=by simpa [ZaC] using hn
   rw[e];exact hs
 |_,.add t hn hh ht hm hr h0,n,hx=>by
   rcases Zce.mp hx with z|z
   ·exact t.inClosed hc hs n z
   ·rw[z]
    exact hc _ _ _ _ ht hh hr h0 (t.inClosed hc hs _ hm)
end Mir
end
section
namespace L2
open PySem PySem.Spec PyProof.Rows
section
variable {K:W.Frag}{ρ:ZaZ}{ta tb tc te:TE}{D:PEnds}
end
abbrev Zhc:=List (Key×PyData)
def ZjI (kvs:Zhc)(k:Key):Option PyData:=(kvs.find? fun kv=>decide (kv.1=k)).map (·.2)
def ZiE (kvs:Zhc)(k:Key)(d:PyData):Zhc:=if (kvs.any fun kv=>decide (kv.1=k))=true then kvs.map (fun kv=>if kv.1=k then (kv.1,d) else kv) else kvs++[(k,d)]
inductive PairK (F:Hp):List (Key×V)->Zhc->Prop
 |nil:PairK F [] []
 |cons {k:Key} {x:V} {d:PyData} {xs:List (Key×V)} {kvs:Zhc}:Rep F x d->PairK F xs kvs->PairK F ((k,x)::xs) ((k,d)::kvs)
theorem PairK.mono {F F':Hp}(s:ZaP F F'):∀{xs:List (Key×V)} {kvs:Zhc},PairK F xs kvs->PairK F' xs kvs
 |_,_,.nil=>.nil
 |_,_,.cons r t=>.cons (r.mono s) (t.mono s)
theorem PairK.length {F:Hp}:∀{xs:List (Key×V)} {kvs:Zhc},PairK F xs kvs->xs.length=kvs.length
 |_,_,.nil=>rfl
 |_,_,.cons _ t=>by simp[t.length]
theorem PairK.val {F:Hp}(k:Key):∀{xs:List (Key×V)} {kvs:Zhc},PairK F xs kvs->(Zec xs k=none/\ZjI kvs k=none)\/∃x d,Zec xs k=some x/\ZjI kvs k=some d/\Rep F x d
 |_,_,.nil=>.inl ⟨rfl,rfl⟩
 |_,_,.cons (k:=k') (x:=x) (d:=d) (xs:=xs) (kvs:=kvs) r t=>by
   by_cases e:k'=k
   ·exact .inr ⟨x,d,Zca e,by simp[ZjI,XA,e],r⟩
   ·have q:ZjI ((k',d)::kvs) k=ZjI kvs k:=by simp[ZjI,XA,e]
    rw[ZbZ (p:=(k',x)) e,q]
    exact t.val k
theorem PairK.any {F:Hp}(k:Key):∀{xs:List (Key×V)} {kvs:Zhc},PairK F xs kvs->(xs.any fun kv=>decide (kv.1=k))=(kvs.any fun kv=>decide (kv.1=k))
 |_,_,.nil=>rfl
 |_,_,.cons _ t=>by simp[t.any k]
theorem PairK.mapP {F:Hp}(k:Key){y:V}{d:PyData}(r:Rep F y d):∀{xs:List (Key×V)} {kvs:Zhc},PairK F xs kvs->PairK F (xs.map fun kv=>if kv.1=k then (kv.1,y) else kv) (kvs.map fun kv=>if kv.1=k then (kv.1,d) else kv)
 |_,_,.nil=>.nil
 |_,_,.cons (k:=k') r' t=>by
   rw[Xr,Xr];by_cases e:k'=k
   ·simp only[e,if_true]
    exact .cons r (t.mapP k r)
   ·simp only[e,if_false]
    exact .cons r' (t.mapP k r)
theorem PairK.snoc {F:Hp}(k:Key){y:V}{d:PyData}(r:Rep F y d):∀{xs:List (Key×V)} {kvs:Zhc},PairK F xs kvs->PairK F (xs++[(k,y)]) (kvs++[(k,d)])
 |_,_,.nil=>.cons r .nil
 |_,_,.cons r' t=>.cons r' (t.snoc k r)
theorem PairK.put {F:Hp}(k:Key){y:V}{d:PyData}(r:Rep F y d){xs:List (Key×V)}{kvs:Zhc}(t:PairK F xs kvs):PairK F (ZjO xs k y) (ZiE kvs k d):=by
 unfold ZjO ZiE;rw[t.any k];split
 ·exact t.mapP k r
 ·exact t.snoc k r
def dkP (kvs:Zhc):OwnP where
 ok K F H v p := ∃a xs,v=.ref a/\p=[a]/\F a=none/\H a=some (.dK xs)/\PairK F xs kvs
 there:=by
  rintro K F H v p ⟨a,xs,rfl,rfl,h1,h2,h3⟩ b hb
  cases Xm.mp hb
  exact⟨h1,ZaR h2⟩
 mono:=by
  rintro K F F' H H' v p s hF hH ⟨a,xs,rfl,rfl,h1,h2,h3⟩
  exact⟨a,xs,rfl,rfl,hF a Xb,by rw[hH a Xb];exact h2,h3.mono s⟩
 uniq:=by
  rintro K F H v p q ⟨a,xs,rfl,rfl,_⟩ ⟨b,ys,e,rfl,_⟩ c hc
  cases e
  exact hc
section
variable {K:W.Frag}{ρ:ZaZ}{te ty tv:TE}{D:PEnds}{i:Nat}{v:V}{kvs:Zhc}{k:Key}{d:PyData}
theorem Sta.dk {H0 F H:Hp}{σ:St}(S:Sta K H0 F ρ σ H)(e:ρ[i]?=some (some (.own v (dkP kvs)))) :
 ∃a xs,v=.ref a/\σ[i]?=some (some (.ref a))/\F a=none/\H0 a=none/\H a=some (.dK xs)/\PairK F xs kvs:=by
 obtain⟨e1,p,⟨a,xs,rfl,rfl,h1,h2,h3⟩,hp,_⟩:=S.writeOwn e
 exact⟨a,xs,rfl,e1,h1,(hp a Xb).1,h2,h3⟩
theorem Zqd (e:ρ[i]?=some (some (.own v (dkP kvs))))(hv:EvE K tv ρ d)(hy:EvE K ty ρ (Ztu k))(hz:kvs.length<sizeLine)(hn:D.nx (ρ.set i (some (.own v (dkP (ZiE kvs k d)))))):EvS K (Zs6 (Zb8 i) ty tv) ρ D:=fun F0 H0 F σ H E x S C =>
 hv H0 F σ H _ S fun F1 H1 u x1 r1=>by
  obtain⟨a,xs,rfl,e1,_⟩:=(S.ext x1).dk e
  refine⟨_,e1,hy H0 F1 σ H1 _ (S.ext x1) fun F2 H2 y x2 r2=>?_⟩
  have S2:=S.ext (x1.trans x2)
  obtain⟨a',xs',ea,_,g1,g0,g2,g3⟩:=S2.dk e
  cases ea
  rw[ZhJ r2];refine⟨a,_,rfl,ZqE.k g2 (by rw[g3.length];exact hz),?_⟩
  obtain⟨_,p,ok,hp,w⟩:=S2.writeOwn e
  obtain⟨a'',xs'',ea,rfl,_,g4,_⟩:=ok
  cases ea
  refine C.nx F2 σ _ _ ((x.trans (x1.trans x2)).wr g0 g1) (w _ (dkP (ZiE kvs k d)) [a] (S2.sub.upd g1) (fun c hc _=>Zak fun z=>hc (by rw[z];exact Xb)) (fun c hc=>?_) ⟨a,_,rfl,rfl,g1,Zam,g3.put k (r1.mono x2.ff)⟩ (fun c hc=>.inl hc)) hn
  by_cases z:c=a
  ·subst z;rw[Zam];exact fun q=>nomatch q
  ·rw[Zak z];exact hc
theorem Zqo:EvX K Zq7 ρ (dkP []):=fun H0 F σ H Q S q=>fun p hp=>by
 have fp:F p=none:=by
  cases z:F p with
  |none=>rfl
  |some o=>rw[S.sub _ _ z]at hp;cases hp
 refine q F _ (.ref p) [p] (Ext.own S.sub hp) (fun a ha=>by cases Xm.mp ha;exact hp) ⟨p,[],rfl,rfl,fp,Zam,.nil⟩
end
def DkZ (kvs:Zhc):ZP where
 ok K F v := ∃a xs,v=.ref a/\F a=some (.dK xs)/\PairK F xs kvs
 mono:=by
  rintro K F F' v s ⟨a,xs,rfl,h1,h2⟩
  exact⟨a,xs,rfl,s _ _ h1,h2.mono s⟩
theorem dkP.fz {kvs:Zhc}{K:W.Frag}{F F' H:Hp}{v:V}{p:List Addr}(h:(dkP kvs).ok K F H v p)(s:ZaP F F')(he:∀b∈p,F' b=H b):(DkZ kvs).ok K F' v:=by
 obtain⟨a,xs,rfl,rfl,h1,h2,h3⟩:=h
 exact⟨a,xs,rfl,by rw[he a Xb];exact h2,h3.mono s⟩
section
variable {K:W.Frag}{ρ:ZaZ}{ty:TE}{D:PEnds}{i:Nat}{k:Key}
theorem ZqZ {t:TS}{kvs:Zhc}{v:V}(i:Nat)(e:ρ[i]?=some (some (.own v (dkP kvs))))(h:EvS K t (ρ.set i (some (.zow (DkZ kvs)))) D):EvS K t ρ D:=ZmM i e (fun a b c=>dkP.fz a b c) h
theorem Sta.dkz {H0 F H:Hp}{σ:St}{kvs:Zhc}(S:Sta K H0 F ρ σ H)(e:ρ[i]?=some (some (.zow (DkZ kvs)))):∃a xs,σ[i]?=some (some (.ref a))/\F a=some (.dK xs)/\PairK F xs kvs:=by
 obtain⟨fp,h,_⟩:=S.fp
 obtain⟨v,e1,_,a,xs,rfl,h1,h2⟩:=h i _ e
 exact⟨a,xs,e1,h1,h2⟩
theorem Zqf {kvs:Zhc}{d:PyData}(e:ρ[i]?=some (some (.zow (DkZ kvs))))(hy:EvE K ty ρ (Ztu k))(hd:ZjI kvs k=some d):EvE K (ZrJ (Zb8 i) ty) ρ d:=fun H0 F σ H Q S q=>by
 obtain⟨a,xs,e1,_⟩:=S.dkz e
 refine⟨_,e1,hy H0 F σ H _ S fun F1 H1 y x1 r1=>?_⟩
 obtain⟨a',xs',e1',f2,f3⟩:=(S.ext x1).dkz e
 rw[e1]at e1';cases e1'
 rw[ZhJ r1];rcases f3.val k with ⟨_,z⟩|⟨x,d',z1,z2,z3⟩
 ·rw[hd]at z;cases z
 ·rw[hd]at z2
  cases z2
  exact⟨a,x,rfl,z1▸Zix.k ((S.ext x1).sub _ _ f2),q F1 H1 x x1 z3⟩
end
end L2
end
namespace L2
open PySem PySem.Spec PyProof.Rows
def Zj2 (d:PyData)(dss:List (List PyData)):OwnP where
 ok _ F H v p := ∃a b as v0,v=.ref a/\p=a::b::as/\(a::b::as).Nodup/\F a=none/\F b=none/\H a=some (.tup [v0,.ref b])/\H b=some (.lst (as.map V.ref))/\Rep F v0 d/\Za7 F H as dss
 there:=by
  rintro K F H v p ⟨a,b,as,v0,rfl,rfl,nd,fa,fb,ha,hb,r1,oa⟩ c hc
  rcases Xf.mp hc with rfl|hc
  ·exact⟨fa,ZaR ha⟩
  rcases Xf.mp hc with rfl|hc
  ·exact⟨fb,ZaR hb⟩
  ·exact oa.mem c hc
 mono:=by
  rintro K F F' H H' v p sm hf hh ⟨a,b,as,v0,rfl,rfl,nd,fa,fb,ha,hb,r1,oa⟩
  exact⟨a,b,as,v0,rfl,rfl,nd,hf a (by simp),hf b (by simp),by rw[hh a (by simp)];exact ha,by rw[hh b (by simp)];exact hb,r1.mono sm,oa.move sm (fun c hc=>hf c (by simp[hc])) (fun c hc=>hh c (by simp[hc]))⟩
 uniq:=by
  rintro K F H v p q ⟨a,b,as,v0,rfl,rfl,nd,fa,fb,ha,hb,r1,oa⟩ ⟨a',b',as',v0',e,rfl,nd',fa',fb',ha',hb',r1',oa'⟩ c hc
  cases e
  rw[ha]at ha';cases ha'
  rw[hb]at hb';injection hb' with hb'
  injection hb' with hb'
  have inj:∀{xs ys:List Addr},xs.map V.ref=ys.map V.ref->xs=ys:=fun{xs}=>by
   induction xs with
   |nil=>intro ys h;cases ys with|nil=>rfl|cons _ _=>cases h
   |cons x xs ih =>
     intro ys h;cases ys with
     |nil=>cases h
     |cons y ys =>
       rw[Xr,Xr]at h;injection h with h1 h2
       cases h1
       rw[ih h2]
  rw[inj hb'];exact hc
section
variable {K:W.Frag}{ρ:ZaZ}{ta tb tc te:TE}{D:PEnds}{d:PyData}{dss:List (List PyData)}
theorem Zp8 {Φ:OT->Prop}{Ψ:List (List PyData)->Prop}(ha:EvE K ta ρ d)(hb:EvD K tb ρ Φ)(hi:∀r,Φ r->∃dss,r=.oll dss/\Ψ dss):EvD K (Zuq (ZaM ta (ZaM tb Zd8))) ρ (fun r=>∃v dss,r=.own v (Zj2 d dss)/\Ψ dss):=fun H0 F σ H Q S q =>
 ha H0 F σ H _ S fun F1 H1 v0 x1 r1=>hb H0 F1 σ H1 _ (S.ext x1) fun F2 H2 v p r hr x2 hp ok=>by
  obtain⟨dss,rfl,hψ⟩:=hi r hr
  obtain⟨b,as,rfl,rfl,nd,fb,hb2,oa⟩:=ok
  refine⟨XY (ZaO (n:=2) (by decide)),fun a ha2=>?_⟩
  have ab:a∉b::as:=fun z=>by
   rcases Xf.mp z with rfl|z
   ·rw[ha2]at hb2;cases hb2
   ·exact(oa.mem a z).2 ha2
  have x12:=x1.trans x2
  exact q F2 (upd H2 a (.tup [v0,.ref b])) (.ref a) (a::b::as) _ ⟨_,dss,rfl,hψ⟩ (x12.trans (Ext.own x12.fh ha2)) (fun c hc=>by
   rcases Xf.mp hc with rfl|hc
   ·exact x12.hh.free ha2
   ·exact x1.hh.free (hp c hc)) ⟨rfl,a,b,as,v0,rfl,rfl,XL.mpr ⟨ab,nd⟩,x12.fh.free ha2,fb,Zam,by rw[Zak (fun z=>ab (by rw[<- z];exact Xb))];exact hb2,r1.mono x2.ff,oa.other fun z=>ab (Xd _ z)⟩
theorem Zj2.frz {F H:Hp}{v:V}{p:List Addr}(ok:(Zj2 d dss).ok K F H v p):Rep (frF F H p) v (.tuple [d,.list (dss.map PyData.list)]):=by
 have sm:ZaP F (frF F H p):=ZcN fun a ha=>((Zj2 d dss).there ok a ha).1
 obtain⟨a,b,as,v0,rfl,rfl,nd,fa,fb,ha,hb,r1,oa⟩:=ok
 exact .tup (xs:=[v0,.ref b]) (by rw[Zfq (by simp)];exact ha) (.cons (r1.mono sm) (.cons (.lst (by rw[Zfq (by simp)];exact hb) (Zi3 sm oa fun c hc=>Zfq (by simp[hc]))) .nil))
theorem ZrK {g:TG}{Φ:OT->Prop}(h:EvD K ta ρ Φ)(hi:∀r,Φ r->∃v d dss,r=.own v (Zj2 d dss)/\∃ρ',GTo K g (.tuple [d,.list (dss.map PyData.list)]) ρ ρ'/\D.nx ρ'):EvS K (ZoV ta g) ρ D:=fun F0 H0 F σ H E x S C =>
 h H0 F σ H _ S fun F1 H1 v p r hr x1 hp ok=>by
  obtain⟨v',d,dss,rfl,ρ',hg,hn⟩:=hi r hr
  obtain⟨rfl,ok⟩:=ok
  have X1:Ext F H (frF F1 H1 p) H1:=⟨x1.hh,x1.ff.trans (ZcN fun a ha=>((Zj2 d dss).there ok a ha).1),ZgG x1.fh,fun a ha=>by
   by_cases z:a∈p
   ·exact .inr (hp a z)
   ·rw[Zc1 z]at ha;exact x1.fr a ha⟩
  exact hg H0 _ σ H1 v _ (S.ext X1) (Zj2.frz ok) fun σ' S'=>C.nx _ σ' H1 ρ' (x.trans X1) S' hn
end
def ZuT (K:W.Frag)(wi:TI)(ρ:ZaZ)(Ψ:List PyData->Prop):Prop := ∀(H0 F:Hp) (σ:St) (H:Hp) (R:It->Hp->Prop),Sta K H0 F ρ σ H->(∀F' H' J ds,Ψ ds->Ext F H F' H'->Znm F' J ds->R J H')->wi σ H R
section
variable {K:W.Frag}{ρ:ZaZ}{ta:TE}{D:PEnds}
theorem Zp2 {Φ:OT->Prop}{Ψ:List PyData->Prop}(h:EvD K ta ρ Φ)(hi:∀r,Φ r->∃ds,ZsD r=some (.list ds)/\Ψ ds):ZuT K (ZrL K ta) ρ Ψ:=fun H0 F σ H R S q =>
 h H0 F σ H _ S fun F1 H1 v p r hr x hp ok=>by
  obtain⟨ds,ed,hψ⟩:=hi r hr
  have X1:Ext F H (frF F1 H1 p) H1:=⟨x.hh,x.ff.trans (ZcN fun a ha=>(ok.there a ha).1),ZgG x.fh,fun a ha=>by
   by_cases z:a∈p
   ·exact .inr (hp a z)
   ·rw[Zc1 z]at ha;exact x.fr a ha⟩
  have r1:Rep (frF F1 H1 p) v (.list ds):=ok.frz ed
  generalize frF F1 H1 p=F1 at X1 r1;obtain⟨a,xs,rfl,h1,h2,h3⟩:=ZbD (K:=K) r1 X1.fh
  have hF:F1 a=some (.lst xs):=by
   cases r1 with
   |lst ha rr =>
     have:=X1.fh _ _ ha
     rw[h3]at this;cases this
     exact ha
  refine⟨a,rfl,⟨xs,h1⟩,q F1 H1 _ ds hψ X1 fun F2 H2 s2 s3=>?_⟩
  have hq:SqL K H2 a xs:=SqL.of (s3 _ _ (s2 _ _ hF))
  refine⟨⟨xs,hq,by rw[h2.length];exact Xw _⟩,fun i d e=>?_⟩
  obtain⟨z,z1,z2⟩:=h2.get e
  refine⟨⟨xs,z,hq,z1⟩,fun y H3 hy=>?_⟩
  obtain⟨rfl,hy⟩:=hy
  have e2:=hy xs hq
  rw[z1]at e2;cases e2
  exact⟨F2,Ext.refl s3,z2.mono s2⟩
theorem Zrj {wi:TI}{g:TG}{tbd:TS}{Ψ:List PyData->Prop}(hi:ZuT K wi ρ Ψ)
 (hs:∀ds,Ψ ds->∃P:Nat->ZaZ->Prop,P 0 ρ/\(∀(i:Nat) (d:PyData) (ρ':ZaZ),ds[i]?=some d->P i ρ'->∃ρ2,GTo K g d ρ' ρ2/\EvS K tbd ρ2 { nx:=P (i+1),ct:=P (i+1),bk:=D.nx,rt:=D.rt })/\∀ρ',P ds.length ρ'->D.nx ρ'):EvS K (Ztp wi g tbd) ρ D:=fun F0 H0 F σ H E x S C =>
 hi H0 F σ H _ S fun F1 H1 J ds hψ x1 W=>by
  obtain⟨P,h0,hs,hd⟩:=hs ds hψ
  refine⟨fun i m σ H=>m=ds.length-i/\i<=ds.length/\∃F ρ',Ext F0 H0 F H/\ZaP F1 F/\Sta K H0 F ρ' σ H/\P i ρ',⟨ds.length,by simp,X0 _,F1,ρ,x.trans x1,ZaP.refl _,S.ext x1,h0⟩,?_⟩
  rintro i m σ' H' ⟨rfl,hle,F',ρ',x',s',S',p⟩
  obtain⟨w1,w2⟩:=W F' H' s' S'.sub
  by_cases hlt:i<ds.length
  ·have e:ds[i]?=some ds[i]:=by simp[hlt]
   obtain⟨go,yl⟩:=w2 i _ e
   refine .inr ⟨go,fun σ2 H2=>∃F2 ρ2,Ext F0 H0 F2 H2/\ZaP F1 F2/\Sta K H0 F2 ρ2 σ2 H2/\P (i+1) ρ2,fun σ2 H2 q=>⟨ds.length-(i+1),by omega,rfl,hlt,q⟩,fun v H3 y=>?_⟩
   obtain⟨F3,x3,r3⟩:=yl v H3 y
   obtain⟨ρ2,hg,hb⟩:=hs i _ ρ' e p
   refine hg H0 F3 σ' H3 v _ (S'.ext x3) r3 fun σ2 S2=>?_
   have big:Ext F0 H0 F3 H3:=x'.trans x3
   have s13:=s'.trans x3.ff
   exact hb F3 H0 F3 σ2 H3 _ big.base S2 ⟨fun F4 σ4 H4 ρ4 x4 S4 q4=>⟨F4,ρ4,big.rebase x4,s13.trans x4.ff,S4,q4⟩,fun F4 H4 v4 r4 p4 x4=>C.rt F4 H4 v4 r4 p4 (big.rebase x4),
    fun F4 σ4 H4 ρ4 x4=>C.nx F4 σ4 H4 ρ4 (big.rebase x4),fun F4 σ4 H4 ρ4 x4 S4 q4=>⟨F4,ρ4,big.rebase x4,s13.trans x4.ff,S4,q4⟩⟩
  ·have e:i=ds.length:=by omega
   subst e;exact .inl ⟨w1,C.nx F' σ' H' ρ' x' S' (hd ρ' p)⟩
end
theorem Zp9 (kvs:Zhc)(k k':Key)(d:PyData):ZjI (ZiE kvs k d) k'=if k'=k then some d else ZjI kvs k':=by
 have m:∀kvs:Zhc,ZjI (kvs.map fun kv=>if kv.1=k then (kv.1,d) else kv) k'=if k'=k then (if (kvs.any fun kv=>decide (kv.1=k))=true then some d else none) else ZjI kvs k':=fun kvs=>by
  induction kvs with
  |nil=>simp[ZjI]
  |cons kv r ih =>
    obtain⟨a,b⟩:=kv
    unfold ZjI at ih ⊢;rw[Xr,XA,XA,Xbg];by_cases e:a=k
    ·subst e
     by_cases e2:k'=a
     ·subst e2;simp
     ·have e3:¬a=k':=fun z=>e2 z.symm
      simp only[if_true,Xy e3];rw[ih,Xa e2,Xa e2]
    ·simp only[Xa e,Xy e,Bool.false_or]
     by_cases e2:a=k'
     ·subst e2
      simp[e]
     ·simp only[Xy e2]
      exact ih
 unfold ZiE;split
 ·rename_i c
  rw[m kvs];simp only[c,if_true]
 ·rename_i c
  have n:∀kv∈kvs,¬kv.1=k:=fun kv hkv e=>c (List.any_eq_true.mpr ⟨kv,hkv,X9 e⟩)
  unfold ZjI;rw[List.find?_append];by_cases e:k'=k
  ·subst e
   have f:(kvs.find? fun kv=>decide (kv.1=k'))=none:=List.find?_eq_none.mpr fun kv hkv=>by simpa using n kv hkv
   rw[f];simp
  ·have e3:¬k=k':=fun z=>e z.symm
   rw[Xa e];cases kvs.find? fun kv=>decide (kv.1=k') with
   |none=>simp[e3]
   |some x=>rfl
theorem Znd (kvs:Zhc)(k:Key)(d:PyData):(ZiE kvs k d).length<=kvs.length+1:=by
 unfold ZiE;split
 ·simp
 ·simp
end L2
section
namespace L2
open PySem PySem.Spec PyProof.Rows
structure Tab2 (F H:Hp)(a:Addr)(as:List Addr)(dss:List (List PyData)):Prop where
 nd:(a::as).Nodup
 fa:F a=none
 ha:H a=some (.lst (as.map V.ref))
 rows:Za7 F H as dss
structure ExtB (p:List Addr)(F H F' H':Hp):Prop where
 hh:∀b o,b∉p->H b=some o->H' b=some o
 ff:ZaP F F'
 fh:ZaP F' H'
 fr:∀b,F' b≠none->F b≠none\/H b=none
theorem ExtB.refl {p:List Addr}{F H:Hp}(s:ZaP F H):ExtB p F H F H:=⟨fun _ _ _ h=>h,ZaP.refl _,s,fun _ h=>.inl h⟩
theorem ExtB.ext {p:List Addr}{F H F1 H1 F2 H2:Hp}(x:ExtB p F H F1 H1)(y:Ext F1 H1 F2 H2)(hp:∀b∈p,H1 b≠none)(hf:∀b∈p,F b=none->F1 b=none):ExtB p F H F2 H2 :=
 ⟨fun b o nb h=>y.hh _ _ (x.hh b o nb h),x.ff.trans y.ff,y.fh,fun b hb=>by
  rcases y.fr b hb with z|z
  ·exact x.fr b z
  ·by_cases q:b∈p
   ·exact Xp z (hp b q)
   ·cases e:H b with
    |none=>exact .inr rfl
    |some o=>rw[x.hh b o q e]at z;cases z⟩
theorem ExtB.wr {p:List Addr}{F H F1 H1:Hp}{c:Addr}{o:HO}(x:ExtB p F H F1 H1)(hc:c∈p)(hf:F1 c=none):ExtB p F H F1 (upd H1 c o) :=
 ⟨fun b u nb h=>by rw[Zak (fun z=>nb (by rw[z];exact hc))];exact x.hh b u nb h,x.ff,x.fh.upd hf,x.fr⟩
theorem Tab2.ext {F H F' H':Hp}{a:Addr}{as:List Addr}{dss:List (List PyData)}(t:Tab2 F H a as dss)(x:Ext F H F' H'):Tab2 F' H' a as dss :=
 ⟨t.nd,x.free t.fa (ZaR t.ha),x.hh _ _ t.ha,t.rows.ext x⟩
theorem Zhe.extB {p:List Addr}{F H F' H':Hp}{a:Addr}{ds:List PyData}(h:Zhe F H a ds)(x:ExtB p F H F' H')(n:a∉p):Zhe F' H' a ds:=by
 obtain⟨h1,xs,h2,h3⟩:=h
 refine⟨?_,xs,x.hh _ _ n h2,h3.mono x.ff⟩
 cases e:F' a with
 |none=>rfl
 |some o =>
   rcases x.fr a (ZaR e) with z|z
   ·exact Xp h1 z
   ·rw[h2]at z;cases z
theorem Za7.extB {p:List Addr}{F H F' H':Hp}(x:ExtB p F H F' H'):∀{as:List Addr} {dss:List (List PyData)},Za7 F H as dss->(∀a∈as,a∉p)->Za7 F' H' as dss
 |[],[],_,_=>trivial
 |a::as,_::_,h,n=>⟨h.1.extB x (n a Xb),Za7.extB x h.2 fun b hb=>n b (Xd _ hb)⟩
 |[],_::_,h,_=>False.elim h
 |_::_,[],h,_=>False.elim h
theorem ZaN.extB {K:W.Frag}{q:List Addr}{F H F' H':Hp}{v:V}{t:OT}{p:List Addr}(h:ZaN K F H v t p)(x:ExtB q F H F' H')(n:∀a∈p,a∉q):ZaN K F' H' v t p:=by
 cases t with
 |fz d=>exact⟨h.1,h.2.mono x.ff⟩
 |zow Ψ=>exact⟨h.1,Ψ.mono x.ff h.2⟩
 |ol ds=>obtain⟨a,h1,h2,h3⟩:=h;exact⟨a,h1,h2,h3.extB x (n a (by rw[h2];exact Xb))⟩
 |oll dss =>
   obtain⟨a,as,h1,h2,h3,h4,h5,h6⟩:=h
   have na:=n a (by rw[h2];exact Xb)
   refine⟨a,as,h1,h2,h3,?_,x.hh _ _ na h5,h6.extB x fun b hb=>n b (by rw[h2];exact Xd _ hb)⟩
   cases e:F' a with
   |none=>rfl
   |some o =>
     rcases x.fr a (ZaR e) with z|z
     ·exact Xp h4 z
     ·rw[h5]at z;cases z
 |scr ns=>obtain⟨h1,a,h2,h3⟩:=h;exact⟨h1,a,h2,h3.mono x.ff⟩
 |own v0 Φ =>
   refine⟨h.1,Φ.mono x.ff (fun a ha=>?_) (fun a ha=>?_) h.2⟩
   ·cases e:F' a with
    |none=>rfl
    |some o =>
      rcases x.fr a (ZaR e) with z|z
      ·exact Xp (Φ.there h.2 a ha).1 z
      ·exact Xp z (Φ.there h.2 a ha).2
   ·obtain⟨o,ho⟩:=ZfB (Φ.there h.2 a ha).2
    rw[x.hh a o (n a ha) ho,ho]
def Zu9 (K:W.Frag)(R:PyData->PyData->PyData->PyData->List (List PyData)->List (List PyData)->Prop):Sp:=fun vs H Q _=>∃(F:Hp) (v0 v2 v3 v4:V) (a:Addr) (as:List Addr) (d0 d2 d3 d4:PyData) (dss dss':List (List PyData)),
 vs=[v0,.ref a,v2,v3,v4]/\KTs K F/\ZaP F H/\Rep F v0 d0/\Rep F v2 d2/\Rep F v3 d3/\Rep F v4 d4/\Tab2 F H a as dss/\R d0 d2 d3 d4 dss dss'/\∀F' H',ExtB as F H F' H'->Tab2 F' H' a as dss'->Q .non H'
theorem Zoj {K:W.Frag}{ρ:ZaZ}{D:PEnds}{R:PyData->PyData->PyData->PyData->List (List PyData)->List (List PyData)->Prop}{t0 t2 t3 t4:TE}{E':XK}{i:Nat}{d0 d2 d3 d4:PyData}{dss dss':List (List PyData)}(e:ρ[i]?=some (some (.oll dss)))(h0:EvE K t0 ρ d0)(h2:EvE K t2 ρ d2)(h3:EvE K t3 ρ d3)(h4:EvE K t4 ρ d4)(hR:R d0 d2 d3 d4 dss dss')
 (hn:D.nx (ρ.set i (some (.oll dss')))):EvS K (Zi8 (Zih (Zu9 K R) [] E' (ZaM t0 (ZaM (Zb8 i) (ZaM t2 (ZaM t3 (ZaM t4 Zd8))))))) ρ D:=fun F0 H0 F σ H E x S C=>by
 obtain⟨fp0,g1,g2,g3⟩:=S.fp
 obtain⟨v1,q1,a,as,rfl,p1,nd1,fa1,ha1,oa1⟩:=g1 i _ e
 refine h0 H0 F σ H _ S fun F1 H1 v0 x1 r0=>⟨_,q1,h2 H0 F1 σ H1 _ (S.ext x1) fun F2 H2 v2 x2 r2=>h3 H0 F2 σ H2 _ (S.ext (x1.trans x2)) fun F3 H3 v3 x3 r3=>h4 H0 F3 σ H3 _ (S.ext ((x1.trans x2).trans x3)) fun F4 H4 v4 x4 r4=>?_⟩
 have X:=((x1.trans x2).trans x3).trans x4
 have S4:=S.ext X
 have tb:Tab2 F4 H4 a as dss:=Tab2.ext ⟨nd1,fa1,ha1,oa1⟩ X
 refine⟨F4,v0,v2,v3,v4,a,as,d0,d2,d3,d4,dss,dss',rfl,S4.kt,X.fh,r0.mono ((x2.trans x3).trans x4).ff,r2.mono (x3.trans x4).ff,r3.mono x4.ff,r4,tb,hR,fun F' H' xb tb'=>?_⟩
 have hil:=(Xe.mp e).1
 have hm:∀b∈as,b∈fp0 i:=fun b hb=>by rw[p1];exact Xd _ hb
 have XE:=x.trans X
 refine C.nx F' σ H' _ ⟨fun b o hb=>xb.hh b o (fun z=>by rw[(g3 i b (hm b z)).1]at hb;cases hb) (XE.hh _ _ hb),XE.ff.trans xb.ff,xb.fh,fun b hb=>?_⟩ ⟨S4.kt.mono xb.ff,xb.fh,by simp[S.len],fp0,fun j t ej=>?_,g2,fun j b hb=>?_⟩ hn
 ·rcases xb.fr b hb with z|z
  ·exact XE.fr b z
  ·exact .inr (XE.hh.free z)
 ·by_cases hj:j=i
  ·subst hj
   rw[XN hil]at ej;cases ej
   exact⟨_,q1,a,as,rfl,p1,tb'.nd,tb'.fa,tb'.ha,tb'.rows⟩
  ·rw[XU (Ne.symm hj)]at ej
   obtain⟨u,f1,f2⟩:=g1 j t ej
   exact⟨u,f1,(f2.ext X).extB xb fun b hb hz=>hj (g2 j i b hb (hm b hz))⟩
 ·obtain⟨f1,f2⟩:=g3 j b hb
  refine⟨f1,?_⟩
  obtain⟨o,ho⟩:=ZfB f2
  have h4':=X.hh _ _ ho
  by_cases z:b∈as
  ·exact(tb'.rows.mem b z).2
  ·exact ZaR (xb.hh _ _ z h4')
theorem Sta.plain {K:W.Frag}{F H:Hp}{ρ:ZaZ}{σ:St}(kt:KTs K F)(s:ZaP F H)(hl:σ.length=ρ.length)(h:∀(i:Nat) (t:OT),ρ[i]?=some (some t)->∃v d,t=.fz d/\σ[i]?=some (some v)/\Rep F v d):Sta K (fun _=>none) F ρ σ H :=
 ⟨kt,s,hl,fun _=>[],fun i t e=>by
  obtain⟨v,d,rfl,h1,h2⟩:=h i t e
  exact⟨v,h1,rfl,h2⟩,fun i j a z=>(nomatch z),fun i a z=>(nomatch z)⟩
end L2
end
section
namespace My
open PySem L2 Mir
local macro_rules | `(tactic| walk_at "d") => `(tactic| dsimp only [List.set])
local macro_rules | `(tactic| walk_at "e") => `(tactic| dsimp only [List.set,ZiS,List.map,ZeD])
local macro_rules | `(tactic| walk_at "x") => `(tactic| try dsimp only [ZtA,ZpP])
local macro_rules | `(tactic| walk_at "p") => `(tactic| exact ⟨rfl,rfl,rfl,by decide +kernel,rfl,by decide +kernel,by decide +kernel⟩)
local macro_rules | `(tactic| walk_at "j") => `(tactic| first | decide | omega)
seal PA PE PI PS PSs PT PG
def top (i:Nat):Stmt:=PySem.Challenge.pw_chargeyard_k94_whole_no_filling_is_faire.main.body.getD i (.Pass ⟨0,0,0,0⟩)
abbrev Zfu:Stmt:=top 1
abbrev Zex:Stmt:=top 2
abbrev Zf9:Stmt:=top 3
abbrev ZfI:Stmt:=top 4
abbrev ZgO:Stmt:=top 5
abbrev ZfK:Stmt:=top 6
abbrev ZgT:Stmt:=top 7
abbrev ZgB:Stmt:=top 8
abbrev ZeS:Stmt:=top 9
abbrev Zdr:Stmt:=top 10
abbrev Zdl:Stmt:=top 11
abbrev ZdI:Stmt:=top 12
abbrev Zc4:Stmt:=top 13
abbrev Zeg:Stmt:=top 18
abbrev ZeT:Stmt:=top 19
abbrev ZeL:Stmt:=top 20
abbrev ZfH:Stmt:=top 21
abbrev Zee:Stmt:=top 22
abbrev Ze1:Stmt:=top 23
abbrev Zb4:Stmt:=top 24
abbrev Zcb:Stmt:=top 25
abbrev ZcM:Stmt:=top 27
abbrev Zfy:Stmt:=top 28
abbrev Zdq:Stmt:=top 29
abbrev Zd2:Stmt:=top 31
abbrev ZdL:Stmt:=top 32
abbrev Zcm:Stmt:=top 34
abbrev Zf5:Stmt:=top 35
abbrev Zde:Stmt:=top 36
abbrev ZdR:Stmt:=top 37
abbrev ZeU:Stmt:=top 38
abbrev Zfh:Stmt:=top 40
abbrev Zdm:Stmt:=top 41
abbrev ZcF:Stmt:=top 42
abbrev Zdt:Stmt:=top 43
abbrev ZdN:Stmt:=top 44
abbrev ZcO:Stmt:=top 45
abbrev Zfk:Stmt:=top 46
abbrev Zdu:Stmt:=top 48
abbrev ZdS:Stmt:=top 49
abbrev ZdP:Stmt:=top 50
abbrev ZeM:Stmt:=top 51
abbrev ZdG:Stmt:=top 52
abbrev ZbG:Stmt:=top 53
abbrev Zd5:Stmt:=top 54
abbrev ZdM:Stmt:=top 55
abbrev Zd4:Stmt:=top 56
abbrev ZdK:Stmt:=top 57
abbrev Zek:Stmt:=top 58
abbrev ZeH:Stmt:=top 59
abbrev Zc9:Stmt:=top 60
abbrev Zhh:Stmt:=top 61
abbrev Zbz:Stmt:=Zei (top 17) 0
abbrev Zda:Stmt:=Zei (top 17) 1
abbrev Zbw:Stmt:=Zei (top 17) 2
abbrev Zc0:Stmt:=Zei (top 17) 3
abbrev Zbv:Stmt:=Zei (top 17) 4
abbrev Zcg:Stmt:=Zei (top 17) 5
abbrev Zcz:Stmt:=Zei (top 17) 6
abbrev ZbB:Stmt:=Zei (top 17) 7
structure Bl (mg:Str->Option Value):Prop where
 abs:mg "abs"=none
 len:mg "len"=none
 max:mg "max"=none
 min:mg "min"=none
 sum:mg "sum"=none
 any:mg "any"=none
 all:mg "all"=none
 isi:mg "isinstance"=none
 int:mg "int"=none
 bool:mg "bool"=none
 list:mg "list"=none
 tuple:mg "tuple"=none
 range:mg "range"=none
 zip:mg "zip"=none
 enumerate:mg "enumerate"=none
 sorted:mg "sorted"=none
structure Tx (K:W.Frag)(mg:Str->Option Value)(C gS gE:Addr):Prop where
 net:NetC K C
 mSTART:mg "START"=some (.ref gS)
 mEND:mg "END"=some (.ref gE)
 aS:W.nsIn K mainGlobals "START"=some (some (.ref gS))
 aE:W.nsIn K mainGlobals "END"=some (some (.ref gE))
def upD:Option Nat->PyData
 |none=>.none
 |some a=>.int (a:Int)
def eLn (l:Ln):PyData:=.tuple [upD l.up,.tuple (l.bs.map PyData.int)]
def eYd (y:Yd):PyData:=.tuple [.int (y.T:Int),.tuple (y.ls.map eLn)]
def Zcv (l:List Nat):List PyData:=l.map fun(j:Nat)=>PyData.int (j:Int)
theorem mdl {j:Int}(h:0<j):0<j:=h
theorem cdl {i j:Int}(h1:0<j)(h2:j<=10^60):ZfZ i j:=⟨h1,XV h2 (by decide +kernel)⟩
theorem ZcC {a b:Int}(h0:0<=a)(h1:a<10^300)(h2:0<=b)(h3:b<10^300):IntMulOk a b:=Zrk (m:=1000) (n:=1000) h0 (X7 h1 (by decide +kernel)) h2 (X7 h3 (by decide +kernel)) (by decide)
theorem z60:(10:Int)^60=1000000000000000000000000000000000000000000000000000000000000:=by decide +kernel
theorem ZsF {i j:Int}(h1:0<j)(h2:j<=1000000000000000000000000000000000000000000000000000000000000):ZfZ i j:=cdl h1 (by rw[z60];exact h2)
theorem ZfM {α:Type} [Inhabited α] {f:α->PyData}{xs:List α}{k:Int}(h0:0<=k)(h1:k<(xs.length:Int)):atI (xs.map f) k=some (f (xs.getD k.toNat default)):=by
 have h:k.toNat<xs.length:=by omega
 have e:(xs.map f)[k.toNat]?=some (f (xs.getD k.toNat default)):=by simp[h]
 have e2:=Zcu e
 rwa [XF h0]at e2
theorem Zgr {xs:List Int}{k:Int}(h0:0<=k)(h1:k<(xs.length:Int)):atI (xs.map PyData.int) k=some (.int (xs.getD k.toNat 0)):=by
 have h:k.toNat<xs.length:=by omega
 have e:(xs.map PyData.int)[k.toNat]?=some (.int (xs.getD k.toNat 0)):=by simp[h]
 have e2:=Zcu e
 rwa [XF h0]at e2
theorem Zuv {xs:List Int}{k:Int}(h0:0<=k)(h1:k<(xs.length:Int)):atI xs k=some (xs.getD k.toNat 0):=by
 have h:k.toNat<xs.length:=by omega
 have e:xs[k.toNat]?=some (xs.getD k.toNat 0):=by simp[h]
 have e2:=Zcu e
 rwa [XF h0]at e2
theorem Zi7 {f:Nat->PyData}{n:Nat}{k:Int}(h0:0<=k)(h1:k<(n:Int)):atI ((List.range n).map f) k=some (f k.toNat):=by
 have h:k.toNat<n:=by omega
 have e:((List.range n).map f)[k.toNat]?=some (f k.toNat):=by simp[h]
 have e2:=Zcu e
 rwa [XF h0]at e2
theorem ZhH {n:Nat}{k:Int}(h0:0<=k)(h1:k<(n:Int)):ixN n k=some k.toNat:=by
 unfold ixN;rw[Xc h0,Xc h1]
theorem ZgC {α β:Type}(xs:List α)(c:β):xs.map (fun _=>c)=(List.range xs.length).map fun _=>c:=by
 apply List.ext_getElem?
 intro i;by_cases h:i<xs.length
 ·simp[h]
 ·simp[h]
instance:Inhabited Ln:=⟨⟨none,[]⟩⟩
structure ScrOk (ns:List Int):Prop where
 len:ns.length<=63
 bits:∀i∈ns,Builtin.Int.intBits i<=2^20
def eGs (g:Gs):PyData:=.tuple [.int (g.line:Int),.int (g.first:Int),.int (g.last:Int),.int g.want,.int g.most]
instance:Inhabited Gs:=⟨⟨0,0,0,1,1⟩⟩
theorem ZfY {ds:List PyData}{m:Nat}(h:∀d∈ds,d.canLay0=true/\d.depth<=m):PyData.canLayAll0 ds=true/\PyData.depthAll ds<=m:=by
 induction ds with
 |nil=>exact⟨rfl,X0 _⟩
 |cons d ds ih =>
   obtain⟨a,b⟩:=h d Xb
   obtain⟨c,e⟩:=ih fun x hx=>h x (Xd _ hx)
   refine⟨by rw[PyData.canLayAll0,a,c];rfl,?_⟩
   rw[PyData.depthAll];omega
def Zf4 (m:Nat)(d:PyData):Prop:=d.canLay0=true/\d.depth<=m
theorem Zf4.fine {m:Nat}{d:PyData}(h:Zf4 m d)(hm:m<=60):Zsv d:=⟨h.1,XS h.2 hm⟩
theorem Zqc {ds:List PyData}{m:Nat}(h:∀d∈ds,Zf4 m d):Zf4 (m+1) (.tuple ds):=by
 obtain⟨a,b⟩:=ZfY h
 refine⟨by rw[PyData.canLay0];exact a,?_⟩
 rw[PyData.depth];omega
theorem Zrc {ds:List PyData}{m:Nat}(h:∀d∈ds,Zf4 m d):Zf4 (m+1) (.list ds):=by
 obtain⟨a,b⟩:=ZfY h
 refine⟨by rw[PyData.canLay0];exact a,?_⟩
 rw[PyData.depth];omega
theorem ZqI (i:Int)(m:Nat):Zf4 m (.int i):=⟨rfl,X0 _⟩
theorem Zm6 (b:Bool)(m:Nat):Zf4 m (.bool b):=⟨rfl,X0 _⟩
theorem ZsQ {m:Nat}:∀d∈([]:List PyData),Zf4 m d:=fun d hd=>(nomatch hd)
theorem ZoC {m:Nat}{d:PyData}{ds:List PyData}(h:Zf4 m d)(h2:∀d∈ds,Zf4 m d):∀x∈d::ds,Zf4 m x:=fun x hx=>by
 rcases Xf.mp hx with rfl|hx
 ·exact h
 ·exact h2 x hx
theorem Zpz (l:List Nat):Zcv l=(l.map fun(j:Nat)=>(j:Int)).map PyData.int:=by
 unfold Zcv;rw[XQ];rfl
theorem ZoY {a:Nat}{l:List Nat}:((a:Int)∈l.map fun(j:Nat)=>(j:Int))↔a∈l:=by
 constructor
 ·intro h
  obtain⟨j,hj,e⟩:=Xx.mp h
  have:j=a:=by omega
  subst this;exact hj
 ·intro h
  exact Xx.mpr ⟨a,h,rfl⟩
theorem ZjG {K:W.Frag}{ρ:ZaZ}{ta tb:TE}{a:Nat}{l:List Nat}(ha:EvE K ta ρ (.int (a:Int)))(hb:EvE K tb ρ (.list (Zcv l))):EvE K (tOp (rIn K true) ta tb) ρ (.bool (!decide (a∈l))):=by
 rw[Zpz]at hb;have:=Zr7 ha hb
 rwa [decide_eq_decide.mpr ZoY]at this
theorem p10 (n:Nat):(10:Int)^n=((10^n:Nat):Int):=by rw[Int.natCast_pow];rfl
theorem ZmP (n:Nat):(0:Int)<10^n:=by
 rw[p10];have:0<10^n:=Nat.pow_pos (by decide)
 omega
theorem Zvx {i j:Int}(h0:0<=j)(h1:j<=1000):ZfZ i (10^j.toNat):=⟨ZmP _,by
 have h:(10:Nat)^j.toNat<=10^1000:=XaH (by decide) (by omega)
 have h2:(10:Int)^j.toNat<=10^1000:=by
  rw[p10,p10];exact Xat.mpr h
 exact XV h2 (by decide +kernel)⟩
theorem Zvy {j:Int}:0<(10:Int)^j.toNat:=ZmP _
def ZuF (w:String):Lean.MacroM (Lean.TSyntax `tactic):=do
 let n:=Lean.mkIdent (w.drop 1).toString.toName
 match w.front with
 |'@' => `(tactic| with_reducible apply $n)
 |'!' => `(tactic| with_reducible exact $n)
 |'~' => `(tactic| apply $n)
 |_ => `(tactic| walk_at $(Lean.Syntax.mkStrLit w))
def ZiW (s:String):Lean.MacroM (Lean.TSyntax `tactic):=do
 let l ← (s.splitOn "|").mapM fun a=>do
  match a.splitOn "<" with
  |[x,z] => `(tactic| ($(← ZuF x):tactic <;> $(← ZuF z):tactic))
  |_ =>
    let ts ← (a.splitOn " ").mapM ZuF
    `(tactic| ($[$ts.toArray:tactic];*))
 `(tactic| first $[| $l.toArray:tactic]*)
local macro_rules | `(tactic| walk_at "rfl") => `(tactic| rfl)
local macro_rules | `(tactic| walk_at "hc") => `(tactic| intro hc)
local macro_rules | `(tactic| walk_at "ls") => `(tactic| dsimp only [List.set])
local macro_rules | `(tactic| walk_at "om") => `(tactic| first | lia | omega)
local macro_rules | `(tactic| walk_at "asm") => `(tactic| with_reducible assumption)
local macro_rules | `(tactic| walk_at "ble") => `(tactic| first | with_reducible rfl | decide | exact Nat.le_of_ble_eq_true rfl)
local macro_rules | `(tactic| walk_at "smo") => `(tactic| (focus (simp; (first | done | walk_at "om"))))
local macro_rules | `(tactic| walk_at "dso") => `(tactic| (focus (dsimp only; walk_at "om")))
local macro_rules | `(tactic| walk_at "r4") => `(tactic| (refine ⟨?_,?_,?_,?_⟩ <;> walk_at "r62"))
local macro_rules | `(tactic| walk_at "r62") => `(tactic| (rw [z62]; walk_at "side"))
local macro_rules | `(tactic| walk_at "ss") => `(tactic| repeat walk_at "s1")
local macro_rules | `(tactic| walk_at "call") => `(tactic| (constructor <;> walk_at "side"))
local macro_rules | `(tactic| walk_at "rg") => `(tactic| first | with_reducible rfl | (apply ZbW <;> walk_at "rs") | (apply rngU_cong <;> walk_at "rs"))
local macro_rules | `(tactic| walk_at "rs")=>ZiW "om|smo"
local macro_rules | `(tactic| walk_at "side")=>ZiW "om|asm|ble|smo"
local macro_rules | `(tactic| walk_at "arith")=>ZiW "om|asm|ble|smo"
local macro_rules | `(tactic| walk_at "ev")=>ZiW "@Zab rfl|!Zay|!ZqY|!Zto|!Zq1|@ZdC ev ev|@Zfs ev ev|@ZaG ev ev cond|@Zvv ev|@ZuM ev ev|@ZsJ ev ev|@Zgv ev|@Zln ev ev ev|@ZtS rfl ev item|@Zvj rfl ev item|@ZaK evd ev item|@ZdT evd ev item|@ZdV eas side|@Za0 ea call|@Zds ea call|@Zus ev|@Zs7 ev ev|@ZrQ ev ev|@Zr9 ev|@ZuA rfl|@ZoB rfl|@Zu5 evd|@Zer evd|@Zu6 rfl|@ZmI evd|@Zrz ev|@ZjG ev evd|@Zsp ev ev ev rfl|@Zn0 ev ev fine fine|@ZhE ev rfl|@EvO.fz eo"
local macro_rules | `(tactic| walk_at "evd")=>ZiW "~Zab rfl|ev|@EvO.fz eo"
local macro_rules | `(tactic| walk_at "ea")=>ZiW "!Zan|@Zvl rfl ea|@Zac ev ea"
local macro_rules | `(tactic| walk_at "eas")=>ZiW "~ZaU|~ZaJ ev eas"
local macro_rules | `(tactic| walk_at "eo")=>ZiW "@Zdp eas side|@ZfF ea call|@ZhN evd|@Zne evd evd side"
local macro_rules | `(tactic| walk_at "et")=>ZiW "!Zt8|@Zco ev|@ZiK ev|@Zh5 et hc et|@ZrE et hc et|@ZkK et"
local macro_rules | `(tactic| walk_at "g")=>ZiW "!ZaB|!Zep|@ZaL g g|@Zg1 g rfl|~Zg1 g rfl"
local macro_rules | `(tactic| walk_at "ei")=>ZiW "@ZbQ ea r62 r62|@ZiT ea r4|@ZsY ea r4|@Zh1 ea|@Zo4 ea|@Zcn evd|@Zq4 evd"
local macro_rules | `(tactic| walk_at "s1")=>ZiW "@Zaq s1|@ZbP eo ls|@ZaT ev ls|@Zn1 ev g ls|@Zeh rfl ev side ls"
local macro_rules | `(tactic| walk_at "ret")=>ZiW "@ZhR rfl|@Zbs evd|@ZeG eo"
local macro_rules | `(tactic| walk_at "if")=>ZiW "@Zaq if|@Zga et"
local macro_rules | `(tactic| walk_at "eir")=>ZiW "~EvI.cast ei rg"
local macro_rules | `(tactic| walk_at "item")=>ZiW "rfl|asm|@Zgr<arith|@Zuv<arith|@Zi7<arith|@ZhH<arith|~ZfM<arith"
local macro_rules | `(tactic| walk_at "cond")=>ZiW "asm|@Zth<om|@ZsF<om|!ZuZ|@Zvx<om|!Zvy|@mdl<om|om|dso"
section
variable {P:Program}{w:World}{K:W.Frag}{mg:Str->Option Value}{base:Heap}{C gS gE YR CR fR:Addr}
inductive R_cell:List OT->OT->Prop
 |mk {ns:List Int} {k:Int} (h:0<=k):R_cell [.scr ns,.fz (.int k)] (.fz (.int (Zbe ns k)))
theorem ZgK:FnScope ["_law_script", "_law_k"] ["_law_script", "_law_k"] (Zaf Zdu):=by walk_at"p"
theorem Zsz (T:Bl mg) (D:Df K mg "_law_cell_at" Zdu ["_law_script", "_law_k"]):Cal P w K mg base "_law_cell_at" ["_law_script", "_law_k"] 1 (spO (K:=K) R_cell):=by
 refine D.ev ZgK (fun ts r h=>by cases h;rfl) (fun _ _ _ _ s H E ts r hr h=>?_)
 cases h with
 |@mk ns k h0 =>
   refine⟨_,(Zae (ZdZ (Zbm Zo7 (pv 1) (Zaz Zcq (by rfl) T.len Zck (Zaa (pv 0) Zad)) (ZbT _)) (Zai (Zax (Zav Zal (pv 0) (pv 1) (fun _ _=>rfl)))) Zb3)
 (Zai (Zax Zah))),?_⟩
   show EvS K _ [some _,some _] _
   walk_at"x"
   walk_at"if"
   ·
    intro c;have c:=XD c
    walk_at"ret"
    rfl
   ·
    intro c;have c:=X5 c
    refine Zb1 ?_
    walk_at"ret"
    have e:Zbe ns k=0:=by
     have:ns.length<=k.toNat:=by omega
     simp[Zbe,List.getD,this]
    rw[e]
inductive R_amount:List OT->OT->Prop
 |mk {n:Int} (h:0<=n):R_amount [.fz (.int n)] (.fz (.tuple [.int (Zcx n).1,.int (Zcx n).2]))
theorem Zdx:FnScope ["_law_number_here", "_law_way"] ["_law_number_here"] (Zaf ZdP):=by walk_at"p"
theorem ZoA (T:Bl mg) (D:Df K mg "_law_amount" ZdP ["_law_number_here"]):Cal P w K mg base "_law_amount" ["_law_number_here"] 1 (spO (K:=K) R_amount):=by
 refine D.ev Zdx (fun ts r h=>by cases h;rfl) (fun _ _ _ _ s H E ts r hr h=>?_)
 cases h with
 |@mk n h0 =>
   refine⟨_,(Zae (Zar (i:=1) Zdx.nd rfl (Or.inl rfl) (Zat Zb5 (pv 0) Zah))
 (Zae (Zar (i:=0) Zdx.nd rfl (Or.inl rfl) (Zat ZaE (pv 0) Zah))
 (Zae (ZdZ (Zbm ZrI (pv 1) Zah (ZbT _)) (Zai (Zax (ZbK (Zaa Zah (Zaa (pv 0) Zad))))) Zb3)
 (Zae (ZdZ (Zbm Zo7 (pv 1) Zah (ZbT _)) (Zai (Zax (ZbK (Zaa (Zat Zb5 (pv 0) Zah) (Zaa (Zat ZaE (pv 0) Zah) Zad))))) Zb3)
 (Zae (ZdZ (Zbm ZrI (pv 1) Zah (ZbT _)) (Zai (Zax (ZbK (Zaa (Zat Zb5 (pv 0) Zah) (Zaa (Zat ZaE (pv 0) Zah) Zad))))) Zb3)
 (Zai (Zax (ZbK (Zaa (Zat Zb5 (pv 0) (Zat ZqP Zah Zah)) (Zaa (Zat ZaE (pv 0) (Zat ZqP Zah Zah)) Zad)))))))))),?_⟩
   show EvS K _ [some _,none] _
   walk_at"ss"
   walk_at"if"
   ·
    intro c;have c:=XD c
    walk_at"ret"
    show _=_
    unfold Zcx;rw[Xc c]
   ·
    intro c;have c:=X5 c
    refine Zb1 ?_
    walk_at"if"
    ·
     intro c2;have c2:=XD c2
     walk_at"ret"
     show _=_
     unfold Zcx;rw[Xa c,Xc c2]
    ·
     intro c2;have c2:=X5 c2
     refine Zb1 ?_
     walk_at"if"
     ·
      intro c3;have c3:=XD c3
      walk_at"ret"
      show _=_
      unfold Zcx;rw[Xa c,Xa c2,Xc c3]
     ·
      intro c3;have c3:=X5 c3
      refine Zb1 ?_
      walk_at"ret"
      show _=_
      unfold Zcx;rw[Xa c,Xa c2,Xa c3];rfl
inductive R_number:List OT->OT->Prop
 |mk {ns:List Int} {k:Int} (hs:ScrOk ns) (h0:0<=k) (h1:k<1000):R_number [.scr ns,.fz (.int k)] (.fz (.int (Zcf ns k)))
theorem Zsg {x:Int}{m:Nat}(h0:0<=x)(h:x<2^m):Builtin.Int.intBits x<=m:=by
 unfold Builtin.Int.intBits;by_cases e:x=0
 ·subst e;simp
 ·have e1:(x==0)=false:=by simpa using e
  rw[e1];have h1:x.natAbs≠0:=by omega
  have h2:x.natAbs<2^m:=by
   have:((x.natAbs:Nat):Int)<((2^m:Nat):Int):=by
    have e2:((2^m:Nat):Int)=(2:Int)^m:=by rw[Int.natCast_pow];rfl
    rw[e2];omega
   exact Xas.mp this
  have:=(Nat.log2_lt h1).mpr h2
  simp only[Xag,if_false];omega
theorem ZoS {ns:List Int}(hs:ScrOk ns)(k:Int):Builtin.Int.intBits (ZgW (Zbe ns k))<=2^20:=by
 have e:Builtin.Int.intBits (ZgW (Zbe ns k))=Builtin.Int.intBits (Zbe ns k):=by
  unfold ZgW;split
  ·unfold Builtin.Int.intBits
   simp
  ·rfl
 rw[e];by_cases h:k.toNat<ns.length
 ·refine hs.bits _ ?_
  simp[Zbe,h]
 ·have:Zbe ns k=0:=by
   have:ns.length<=k.toNat:=by omega
   simp[Zbe,List.getD,this]
  rw[this];decide
theorem ZaF:FnScope ["_law_script", "_law_k", "_law_head", "_law_one", "_law_other", "_law_total", "_law_turn", "_law_cell"] ["_law_script", "_law_k"] (Zaf ZdS):=by walk_at"p"
theorem Zo1 (T:Bl mg) (D:Df K mg "_law_number" ZdS ["_law_script", "_law_k"]) (Xbw:Cal P w K mg base "_law_cell_at" ["_law_script", "_law_k"] 1 (spO (K:=K) R_cell)):Cal P w K mg base "_law_number" ["_law_script", "_law_k"] 2 (spO (K:=K) R_number):=by
 refine D.ev ZaF (fun ts r h=>by cases h;rfl) (fun _ _ _ _ s H E ts r hr h=>?_)
 cases h with
 |@mk ns k hs h0 h1 =>
   refine⟨_,(Zae (Zar (i:=2) ZaF.nd rfl (Or.inl rfl) (Zap Xbw hr (Zaa (pv 0) (Zaa Zah Zad)) (hj:=by walk_at"j")))
 (Zae (Zar (i:=3) ZaF.nd rfl (Or.inl rfl) (Zat Zch (Zat Zb5 (pv 2) Zah) (Zat ZfR Zah (pv 1))))
 (Zae (Zar (i:=4) ZaF.nd rfl (Or.inl rfl) (Zat Zch (Zat ZfR Zah (pv 1)) Zah))
 (Zae (Zar (i:=5) ZaF.nd rfl (Or.inl rfl) Zah)
 (Zae (Zbp PassesOwn.never rfl (ZaQ rfl T.range (Zaa Zah Zad)) (Zao (i:=6) ZaF.nd rfl (Or.inl rfl)) (Zae (Zar (i:=3) ZaF.nd rfl (Or.inl rfl) (Zat Zb5 (Zat Zch (Zat Zch (Zat ZfR (pv 3) Zah) Zah) (Zat ZfR (pv 6) (pv 1))) Zah))
 (Zae (Zar (i:=4) ZaF.nd rfl (Or.inl rfl) (Zat Zb5 (Zat Zch (Zat ZfR (pv 4) Zah) (pv 3)) Zah))
 (Zai (Zar (i:=5) ZaF.nd rfl (Or.inl rfl) (Zat Zch (Zat ZfR (pv 5) Zah) (Zat Zb5 (Zat Zch (Zat ZfR (pv 4) (pv 4)) (pv 3)) Zah)))))))
 (Zae (ZdZ (Zbm ZrI (Zat Zb5 (Zat ZaE (pv 2) Zah) Zah) Zah (ZbT _)) (Zai (Zax (pv 5))) Zb3)
 (Zae (Zar (i:=7) ZaF.nd rfl (Or.inl rfl) (Zaz Zlw (by rfl) T.abs Zlk (Zaa (Zap Xbw hr (Zaa (pv 0) (Zaa (pv 1) Zad)) (hj:=by walk_at"j")) Zad)))
 (Zai (Zax (Zat Zch (pv 7) (Zat ZrY (pv 5) (Zt9 PySem.F.plainAttrs_int PySem.F.slot_int_bit_length PySem.F.type_int_bit_length Zr1 (pv 7))))))))))))),?_⟩
   show EvS K _ [some _,some _,none,none,none,none,none,none] _
   walk_at"x"
   walk_at"ss"
   refine Zaq (ZbN (fun i=>[some (.scr ns),some (.fz (.int k)),some (.fz (.int (Zbe ns 0))),some (.fz (.int (mix (Zbe ns 0) k i).1)),some (.fz (.int (mix (Zbe ns 0) k i).2.1)),some (.fz (.int (mix (Zbe ns 0) k i).2.2)),none,none]) (by walk_at"ei") ⟨rfl,rfl,rfl,rfl,rfl,rfl,trivial⟩ ?_ ?_)
   ·intro i d hd
    obtain⟨hi,rfl⟩:=Zb6 hd
    refine⟨_,by walk_at"g",?_⟩
    walk_at"d"
    have hi2:i<30:=hi
    have o1:0<=((mix (Zbe ns 0) k i).1*48271+11+(0+(i:Int))*k)%2147483647/\((mix (Zbe ns 0) k i).1*48271+11+(0+(i:Int))*k)%2147483647<2147483647:=by omega
    have o2:0<=((mix (Zbe ns 0) k i).2.1*16807+((mix (Zbe ns 0) k i).1*48271+11+(0+(i:Int))*k)%2147483647)%2147483629/\((mix (Zbe ns 0) k i).2.1*16807+((mix (Zbe ns 0) k i).1*48271+11+(0+(i:Int))*k)%2147483647)%2147483629<2147483629:=by omega
    walk_at"ss"
    refine⟨rfl,rfl,rfl,?_,?_,?_,trivial⟩<;>simp only[mix,Xao]
   ·intro ρ' hf
    refine ZcW hf ?_
    have hn:=Zfe (Zbe ns 0) k 30
    have e30:(ZfX 0 (30:Int).toNat).length=30:=Zcl
    rw[e30];walk_at"if"
    ·
     intro c;have c:=XD c
     walk_at"ret"
     show _=_
     unfold Zcf;rw[Xc c]
    ·
     intro c;have c:=X5 c
     refine Zb1 ?_
     have cb:=ZoS hs k
     have tb:Builtin.Int.intBits (mix (Zbe ns 0) k 30).2.2<=930:=Zsg hn.1 (Zpq _ _)
     have sh:ZuW (mix (Zbe ns 0) k 30).2.2 (Builtin.Int.intBits (ZgW (Zbe ns k)):Int):=⟨by omega,by
      have:(2:Int)^27=134217728:=by decide
      have:(2:Nat)^20=1048576:=by decide
      omega⟩
     walk_at"s1";refine Zbs (ZdC (Zab rfl) (ZaG (Zab rfl) (Zrz (Zab rfl)) sh)) ?_
     show _=_
     unfold Zcf;rw[Xa c];rfl
inductive R_yard:List OT->OT->Prop
 |mk {ns:List Int} (hs:ScrOk ns):R_yard [.scr ns] (.fz (eYd (ZdX ns)))
theorem ZaD:FnScope ["_law_script", "_law_head", "_law_turns", "_law_lines", "_law_k", "_law_number_here", "_law_above", "_law_bounds", "_law_turn", "_law_bound"] ["_law_script"] (Zaf ZeM):=by walk_at"p"
theorem ZrW (T:Bl mg) (D:Df K mg "_law_yard" ZeM ["_law_script"]) (Xbw:Cal P w K mg base "_law_cell_at" ["_law_script", "_law_k"] 1 (spO (K:=K) R_cell)) (Xbz:Cal P w K mg base "_law_number" ["_law_script", "_law_k"] 2 (spO (K:=K) R_number))
 (XbC:Cal P w K mg base "_law_amount" ["_law_number_here"] 1 (spO (K:=K) R_amount)):Cal P w K mg base "_law_yard" ["_law_script"] 3 (spO (K:=K) R_yard):=by
 refine D.ev ZaD (fun ts r h=>by cases h;rfl) (fun _ _ _ _ s H E ts r hr h=>?_)
 cases h with
 |@mk ns hs =>
   refine⟨_,(Zae (Zar (i:=1) ZaD.nd rfl (Or.inl rfl) (Zaz Zlw (by rfl) T.abs Zlk (Zaa (Zap Xbw hr (Zaa (pv 0) (Zaa Zah Zad)) (hj:=by walk_at"j")) Zad)))
 (Zae (Zar (i:=2) ZaD.nd rfl (Or.inl rfl) (Zat Zch Zah (Zat Zb5 (pv 1) Zah)))
 (Zae (Zar (i:=3) ZaD.nd rfl (Or.inl rfl) (ZbL Zad))
 (Zae (Zbp PassesOwn.never rfl (ZaQ rfl T.range (Zaa (Zat Zch Zah (Zat Zb5 (Zat ZaE (pv 1) Zah) Zah)) Zad)) (Zao (i:=4) ZaD.nd rfl (Or.inl rfl)) (Zae (Zar (i:=5) ZaD.nd rfl (Or.inl rfl) (Zap Xbz hr (Zaa (pv 0) (Zaa (Zat Zch Zah (pv 4)) Zad)) (hj:=by walk_at"j")))
 (Zae (Zar (i:=6) ZaD.nd rfl (Or.inl rfl) Zq2)
 (Zae (ZdZ (Zbm Zmc (pv 4) Zah (ZbT _)) (Zae (Zar (i:=6) ZaD.nd rfl (Or.inl rfl) (Zat Zb5 (pv 5) (pv 4)))
 (Zai (Zar (i:=5) ZaD.nd rfl (Or.inl rfl) (Zat ZaE (pv 5) (pv 4))))) Zb3)
 (Zae (Zar (i:=7) ZaD.nd rfl (Or.inl rfl) (ZbL Zad))
 (Zae (Zbp PassesOwn.never rfl (ZaQ rfl T.range (Zaa (pv 2) Zad)) (Zao (i:=8) ZaD.nd rfl (Or.inl rfl)) (Zae (ZeA (Zap XbC hr (Zaa (pv 5) Zad) (hj:=by walk_at"j")) (ZcZ (n:=2) rfl (Za1 (Zao (i:=9) ZaD.nd rfl (Or.inl rfl)) (Za1 (Zao (i:=5) ZaD.nd rfl (Or.inl rfl)) Zcd))))
 (Zai (Zbb (Zgb PySem.F.plainAttrs_list PySem.F.slot_list_append PySem.F.type_list_append ZbA (pv 7) (Zaa (pv 9) Zad))))))
 (Zai (Zbb (Zgb PySem.F.plainAttrs_list PySem.F.slot_list_append PySem.F.type_list_append ZbA (pv 3) (Zaa (ZbK (Zaa (pv 6) (Zaa (ZcD Zgm (by rfl) T.tuple Zgh (Zaa (pv 7) Zad)) Zad))) Zad))))))))))
 (Zai (Zax (ZbK (Zaa (pv 2) (Zaa (ZcD Zgm (by rfl) T.tuple Zgh (Zaa (pv 3) Zad)) Zad))))))))),?_⟩
   show EvS K _ [some _,none,none,none,none,none,none,none,none,none] _
   walk_at"x"
   obtain⟨t1,t8⟩:=Zho ns
   obtain⟨c1,c5⟩:=Zhx ns
   have hn:=Zf7 (Zbe ns 0)
   walk_at"ss"
   have et:1+ZgW (Zbe ns 0)%8=((ZbC ns:Nat):Int):=by unfold ZbC;omega
   have ec:1+ZgW (Zbe ns 0)/8%5=((Zdy ns:Nat):Int):=by unfold Zdy;omega
   rw[et];refine Zaq (ZbN (ds:=ZfX 0 (Zdy ns)) (fun i=>[some (.scr ns),some (.fz (.int (ZgW (Zbe ns 0)))),some (.fz (.int (ZbC ns:Int))),some (.ol (((List.range i).map (ZdU ns (ZbC ns))).map eLn)),none,none,none,none,none,none]) ?ei ⟨rfl,rfl,rfl,rfl,trivial⟩ ?st ?fin)
   case ei=>walk_at"eir"
   case st =>
    intro i d hd;obtain⟨hi,rfl⟩:=Zb6 hd
    refine⟨_,by walk_at"g",?_⟩
    walk_at"d"
    rw[Xao];have nn:=Zet ns (1+(i:Int))
    walk_at"ss"
    refine Zhr (fun ρ'=>∃(ab:Option Nat) (nm:Int),0<=nm/\ZdU ns (ZbC ns) i=⟨ab,(bnd nm (ZbC ns)).1⟩ /\
     ρ'=[some (.scr ns),some (.fz (.int (ZgW (Zbe ns 0)))),some (.fz (.int (ZbC ns:Int))),some (.ol (((List.range i).map (ZdU ns (ZbC ns))).map eLn)),some (.fz (.int (i:Int))),some (.fz (.int nm)),some (.fz (upD ab)),none,none,none]) ?h ?z
    case h =>
     walk_at"if"
     ·
      intro c;have c:(0:Int)<(i:Int):=XD c
      walk_at"ss"
      refine⟨some (Zcf ns (1+(i:Int))%(i:Int)).toNat,Zcf ns (1+(i:Int))/(i:Int),XaD nn (by omega),?_,?_⟩
      ·unfold ZdU
       rw[Xa (by omega)]
      ·have:(((Zcf ns (1+(i:Int))%(i:Int)).toNat:Nat):Int)=Zcf ns (1+(i:Int))%(i:Int):=XF (Xax _ (by omega))
       simp only[upD,this]
     ·
      intro c;have c:¬(0:Int)<(i:Int):=X5 c
      refine Zb1 ⟨none,Zcf ns (1+(i:Int)),nn,?_,rfl⟩
      unfold ZdU;rw[Xc (by omega)]
    case z =>
     rintro ρ' ⟨ab,nm,hnm,eln,rfl⟩
     walk_at"ss"
     refine Zaq (ZbN (ds:=ZfX 0 (ZbC ns)) (fun j=>[some (.scr ns),some (.fz (.int (ZgW (Zbe ns 0)))),some (.fz (.int (ZbC ns:Int))),some (.ol (((List.range i).map (ZdU ns (ZbC ns))).map eLn)),some (.fz (.int (i:Int))),some (.fz (.int (bnd nm j).2)),some (.fz (upD ab)),some (.ol ((bnd nm j).1.map PyData.int)),none,none]) ?ei2 ⟨rfl,rfl,rfl,rfl,rfl,rfl,rfl,rfl,trivial⟩ ?st2 ?fin2)
     case ei2=>walk_at"eir"
     case st2 =>
      intro j d hd;obtain⟨hj,rfl⟩:=Zb6 hd
      obtain⟨b1,b2,b3⟩:=Zes hnm j
      refine⟨_,by walk_at"g",?_⟩
      walk_at"d"
      walk_at"ss"
      exact⟨rfl,rfl,rfl,rfl,rfl,rfl,rfl,by simp[bnd],trivial⟩
     case fin2 =>
      intro ρ' hf;refine ZcW hf ?_
      obtain⟨b1,b2,b3⟩:=Zes hnm (ZbC ns)
      walk_at"ss"
      refine⟨rfl,rfl,rfl,?_,trivial⟩
      rw[Xah,Xz,Xz,Zcl];simp only[Xr,XaY,eln];rfl
   case fin =>
    intro ρ' hf;refine ZcW hf ?_
    walk_at"ret"
    rw[Zcl];rfl
inductive R_guests:List OT->OT->Prop
 |mk {ns:List Int} {y:Yd} (hs:ScrOk ns) (ok:y.Ok):R_guests [.scr ns,.fz (eYd y)] (.ol ((Zdj ns y).map eGs))
theorem Za5:FnScope ["_law_script", "_law_yard_here", "_law_guests_here", "_law_k", "_law_number_here", "_law_line", "_law_first", "_law_last", "_law_want", "_law_most"] ["_law_script", "_law_yard_here"] (Zaf ZdG):=by walk_at"p"
theorem Znj (T:Bl mg) (D:Df K mg "_law_guests" ZdG ["_law_script", "_law_yard_here"]) (Xbw:Cal P w K mg base "_law_cell_at" ["_law_script", "_law_k"] 1 (spO (K:=K) R_cell)) (Xbz:Cal P w K mg base "_law_number" ["_law_script", "_law_k"] 2 (spO (K:=K) R_number))
 (XbC:Cal P w K mg base "_law_amount" ["_law_number_here"] 1 (spO (K:=K) R_amount)):Cal P w K mg base "_law_guests" ["_law_script", "_law_yard_here"] 3 (spO (K:=K) R_guests):=by
 refine D.ev Za5 (fun ts r h=>by cases h;rfl) (fun _ _ _ _ s H E ts r hr h=>?_)
 cases h with
 |@mk ns y hs ok =>
   refine⟨_,(Zae (Zar (i:=2) Za5.nd rfl (Or.inl rfl) (ZbL Zad))
 (Zae (Zbp PassesOwn.never rfl (ZaQ rfl T.range (Zaa (Zat Zb5 (Zat ZaE (Zaz Zlw (by rfl) T.abs Zlk (Zaa (Zap Xbw hr (Zaa (pv 0) (Zaa Zah Zad)) (hj:=by walk_at"j")) Zad)) Zah) Zah) Zad)) (Zao (i:=3) Za5.nd rfl (Or.inl rfl)) (Zae (Zar (i:=4) Za5.nd rfl (Or.inl rfl) (Zap Xbz hr (Zaa (pv 0) (Zaa (Zat Zch Zah (pv 3)) Zad)) (hj:=by walk_at"j")))
 (Zae (Zar (i:=5) Za5.nd rfl (Or.inl rfl) (Zat Zb5 (pv 4) (Zaz Zcq (by rfl) T.len Zck (Zaa (Zav Zal (pv 1) Zah (fun _ _=>rfl)) Zad))))
 (Zae (Zar (i:=4) Za5.nd rfl (Or.inl rfl) (Zat ZaE (pv 4) (Zaz Zcq (by rfl) T.len Zck (Zaa (Zav Zal (pv 1) Zah (fun _ _=>rfl)) Zad))))
 (Zae (Zar (i:=6) Za5.nd rfl (Or.inl rfl) (Zat Zb5 (pv 4) (Zav Zal (pv 1) Zah (fun _ _=>rfl))))
 (Zae (Zar (i:=4) Za5.nd rfl (Or.inl rfl) (Zat ZaE (pv 4) (Zav Zal (pv 1) Zah (fun _ _=>rfl))))
 (Zae (Zar (i:=7) Za5.nd rfl (Or.inl rfl) (Zat Zch (pv 6) (Zat Zb5 (pv 4) (Zat Zg4 (Zav Zal (pv 1) Zah (fun _ _=>rfl)) (pv 6)))))
 (Zae (Zar (i:=4) Za5.nd rfl (Or.inl rfl) (Zat ZaE (pv 4) (Zat Zg4 (Zav Zal (pv 1) Zah (fun _ _=>rfl)) (pv 6))))
 (Zae (ZeA (Zap XbC hr (Zaa (pv 4) Zad) (hj:=by walk_at"j")) (ZcZ (n:=2) rfl (Za1 (Zao (i:=8) Za5.nd rfl (Or.inl rfl)) (Za1 (Zao (i:=4) Za5.nd rfl (Or.inl rfl)) Zcd))))
 (Zae (ZeA (Zap XbC hr (Zaa (pv 4) Zad) (hj:=by walk_at"j")) (ZcZ (n:=2) rfl (Za1 (Zao (i:=9) Za5.nd rfl (Or.inl rfl)) (Za1 (Zao (i:=4) Za5.nd rfl (Or.inl rfl)) Zcd))))
 (Zai (Zbb (Zgb PySem.F.plainAttrs_list PySem.F.slot_list_append PySem.F.type_list_append ZbA (pv 2) (Zaa (ZbK (Zaa (pv 5) (Zaa (pv 6) (Zaa (pv 7) (Zaa (Zaz (Znq rfl) (by rfl) T.max ZmE (Zaa Zah (Zaa (pv 8) Zad))) (Zaa (Zaz (Znq rfl) (by rfl) T.max ZmE (Zaa Zah (Zaa (pv 9) Zad))) Zad)))))) Zad))))))))))))))
 (Zai (Zax (pv 2))))),?_⟩
   show EvS K _ [some _,some _,none,none,none,none,none,none,none,none] _
   walk_at"x"
   have l1:=ok.l1
   have l5:=ok.l5
   have t1:=ok.t1
   have t8:=ok.t8
   have hn:=Zf7 (Zbe ns 0)
   have gc:ZcT ns<=8:=by unfold ZcT;omega
   have eg:ZcT ns=(ZgW (Zbe ns 0)/40%9).toNat:=rfl
   walk_at"ss"
   refine Zaq (ZbN (ds:=ZfX 0 (ZcT ns)) (fun i=>[some (.scr ns),some (.fz (eYd y)),some (.ol (((List.range i).map (Zd7 ns y)).map eGs)),none,none,none,none,none,none,none]) ?ei ⟨rfl,rfl,rfl,trivial⟩ ?st ?fin)
   case ei=>walk_at"eir"
   case st =>
    intro i d hd;obtain⟨hi,rfl⟩:=Zb6 hd
    refine⟨_,by walk_at"g",?_⟩
    walk_at"d"
    rw[Xao];obtain⟨f0,f1⟩:=ZpI ok ns i
    obtain⟨e0,e1⟩:=ZtE ok ns i
    obtain⟨n0,n1,n2,n3⟩:=Zry ok ns i
    obtain⟨a1,a2,a3⟩:=Zdb n3
    obtain⟨b1,b2,b3⟩:=Zdb a3
    have lp:(0:Int)<(((y.ls.map eLn).length:Nat):Int):=by rw[Xj];omega
    have lp2:(((y.ls.map eLn).length:Nat):Int)<=5:=by rw[Xj];omega
    have tp:(0:Int)<(y.T:Int):=by omega
    have fp:(0:Int)<(y.T:Int)-gf ns y i:=by omega
    walk_at"s1";walk_at"s1"
    walk_at"s1";rw[Xj]
    change EvS K _ [_,_,_,_,some (.fz (.int (gn1 ns y i))),some (.fz (.int (gn0 ns i%(y.ls.length:Int)))),_,_,_,_] _
    walk_at"s1";walk_at"s1"
    change EvS K _ [_,_,_,_,some (.fz (.int (gn2 ns y i))),_,some (.fz (.int (gf ns y i))),_,_,_] _
    walk_at"s1";walk_at"s1"
    change EvS K _ [_,_,_,_,some (.fz (.int (gn3 ns y i))),_,_,some (.fz (.int (gl ns y i))),_,_] _
    walk_at"ss"
    refine⟨rfl,rfl,?_,trivial⟩
    rw[Xah,Xz,Xz];simp only[Xr,XaY];have c1:=Xax (gn0 ns i) (show(y.ls.length:Int)≠0 by omega)
    have hg:eGs (Zd7 ns y i)=.tuple [.int (gn0 ns i%(y.ls.length:Int)),.int (gf ns y i),.int (gl ns y i),.int (Zpx (Zcx (gn3 ns y i)).1),.int (Zpx (Zcx (Zcx (gn3 ns y i)).2).1)]:=by
     unfold eGs Zd7;dsimp only;rw[XF c1,XF f0,XF (by omega)]
    have m1:∀i:Int,max 1 i=Zpx i:=fun i=>by unfold Zpx;split<;>omega
    rw[hg,<- m1,<- m1]
   case fin =>
    intro ρ' hf;refine ZcW hf ?_
    walk_at"ret"
    rw[Zcl];rfl
def ZeE (y:Yd)(k:Nat):Ln:=y.ls.getD k default
def upN (y:Yd)(k:Nat):Nat:=(Zb9 y k).getD 0
theorem Zen {y:Yd}{k:Nat}(h:k<y.ls.length):Zb9 y k=(ZeE y k).up:=by simp[Zb9,ZeE,h]
theorem Zc3 {y:Yd}{k t:Nat}(h:k<y.ls.length):Za9 y k t=(ZeE y k).bs.getD t 0:=by simp[Za9,ZeE,h]
theorem Ze0 {y:Yd}(ok:y.Ok){k:Nat}(h:k<y.ls.length):(ZeE y k).bs.length=y.T:=ok.bl _ (by simp[ZeE,h])
inductive R_turns:List OT->OT->Prop
 |mk {y:Yd}:R_turns [.fz (eYd y)] (.fz (.int (y.T:Int)))
theorem Zk8:FnScope ["yard"] ["yard"] (Zaf Zfu):=by walk_at"p"
theorem Zph (T:Bl mg) (D:Df K mg "turns_of" Zfu ["yard"]):Cal P w K mg base "turns_of" ["yard"] 1 (spO (K:=K) R_turns):=by
 refine D.ev Zk8 (fun ts r h=>by cases h;rfl) (fun _ _ _ _ s H E ts r hr h=>?_)
 cases h with
 |@mk y =>
   refine⟨_,(Zai (Zax (Zav Zal (pv 0) Zah (fun _ _=>rfl)))),?_⟩
   show EvS K _ [some _] _
   walk_at"x"
   walk_at"ret"
   rfl
inductive R_count:List OT->OT->Prop
 |mk {y:Yd}:R_count [.fz (eYd y)] (.fz (.int (y.ls.length:Int)))
theorem Zib:FnScope ["yard"] ["yard"] (Zaf Zex):=by walk_at"p"
theorem ZpS (T:Bl mg) (D:Df K mg "line_count" Zex ["yard"]):Cal P w K mg base "line_count" ["yard"] 1 (spO (K:=K) R_count):=by
 refine D.ev Zib (fun ts r h=>by cases h;rfl) (fun _ _ _ _ s H E ts r hr h=>?_)
 cases h with
 |@mk y =>
   refine⟨_,(Zai (Zax (Zaz Zcq (by rfl) T.len Zck (Zaa (Zav Zal (pv 0) Zah (fun _ _=>rfl)) Zad)))),?_⟩
   show EvS K _ [some _] _
   walk_at"x"
   walk_at"ret"
   show _=_
   rw[Xj]
inductive R_above:List OT->OT->Prop
 |mk {y:Yd} {k:Int} (ok:y.Ok) (h0:0<k) (h1:k<(y.ls.length:Int)):R_above [.fz (eYd y),.fz (.int k)] (.fz (.int (upN y k.toNat:Int)))
 |zero {y:Yd} (ok:y.Ok):R_above [.fz (eYd y),.fz (.int 0)] (.fz .none)
theorem ZjT:FnScope ["yard", "line"] ["yard", "line"] (Zaf Zf9):=by walk_at"p"
theorem Zqw (T:Bl mg) (D:Df K mg "above_of" Zf9 ["yard", "line"]):Cal P w K mg base "above_of" ["yard", "line"] 1 (spO (K:=K) R_above):=by
 refine D.ev ZjT (fun ts r h=>by cases h<;>rfl) (fun _ _ _ _ s H E ts r hr h=>?_)
 cases h with
 |@mk y k ok h0 h1 =>
   refine⟨_,(Zai (Zax (Zav Zal (Zav Zal (Zav Zal (pv 0) Zah (fun _ _=>rfl)) (pv 1) (fun _ _=>rfl)) Zah (fun _ _=>rfl)))),?_⟩
   show EvS K _ [some _,some _] _
   walk_at"x"
   walk_at"ret"
   obtain⟨a,e,l⟩:=ok.ups k.toNat (by omega) (by omega)
   have e2:(ZeE y k.toNat).up=some a:=by rw[<- Zen (by omega)];exact e
   show OT.fz (upD (ZeE y k.toNat).up)=_
   rw[e2];simp[upN,e,upD]
 |@zero y ok =>
   refine⟨_,(Zai (Zax (Zav Zal (Zav Zal (Zav Zal (pv 0) Zah (fun _ _=>rfl)) (pv 1) (fun _ _=>rfl)) Zah (fun _ _=>rfl)))),?_⟩
   show EvS K _ [some _,some _] _
   walk_at"x"
   have l1:=ok.l1
   walk_at"ret"
   have e2:(ZeE y 0).up=none:=by rw[<- Zen (by omega)];exact ok.up0
   show OT.fz (upD (ZeE y 0).up)=_
   rw[e2];rfl
inductive R_bound:List OT->OT->Prop
 |mk {y:Yd} {k t:Int} (ok:y.Ok) (h0:0<=k) (h1:k<(y.ls.length:Int)) (h2:0<=t) (h3:t<(y.T:Int)):R_bound [.fz (eYd y),.fz (.int k),.fz (.int t)] (.fz (.int (Za9 y k.toNat t.toNat)))
theorem Zk5:FnScope ["yard", "line", "turn"] ["yard", "line", "turn"] (Zaf ZfI):=by walk_at"p"
theorem Zpu (T:Bl mg) (D:Df K mg "bound_at" ZfI ["yard", "line", "turn"]):Cal P w K mg base "bound_at" ["yard", "line", "turn"] 1 (spO (K:=K) R_bound):=by
 refine D.ev Zk5 (fun ts r h=>by cases h;rfl) (fun _ _ _ _ s H E ts r hr h=>?_)
 cases h with
 |@mk y k t ok h0 h1 h2 h3 =>
   refine⟨_,(Zai (Zax (Zav Zal (Zav Zal (Zav Zal (Zav Zal (pv 0) Zah (fun _ _=>rfl)) (pv 1) (fun _ _=>rfl)) Zah (fun _ _=>rfl)) (pv 2) (fun _ _=>rfl)))),?_⟩
   show EvS K _ [some _,some _,some _] _
   walk_at"x"
   have hl:(y.ls.getD k.toNat default).bs.length=y.T:=Ze0 ok (by omega)
   walk_at"ret"
   show _=_
   rw[Zc3 (by omega)];rfl
inductive R_lineof:List OT->OT->Prop
 |mk {g:Gs}:R_lineof [.fz (eGs g)] (.fz (.int (g.line:Int)))
theorem ZlN:FnScope ["guest"] ["guest"] (Zaf ZgO):=by walk_at"p"
theorem ZoQ (T:Bl mg) (D:Df K mg "line_of" ZgO ["guest"]):Cal P w K mg base "line_of" ["guest"] 1 (spO (K:=K) R_lineof):=by
 refine D.ev ZlN (fun ts r h=>by cases h;rfl) (fun _ _ _ _ s H E ts r hr h=>?_)
 cases h with
 |@mk g =>
   refine⟨_,(Zai (Zax (Zav Zal (pv 0) Zah (fun _ _=>rfl)))),?_⟩
   show EvS K _ [some _] _
   walk_at"x"
   walk_at"ret"
   rfl
inductive R_there:List OT->OT->Prop
 |mk {g:Gs} {t:Int}:R_there [.fz (eGs g),.fz (.int t)] (.fz (.bool (ZaY g t)))
theorem Zkw:FnScope ["guest", "turn"] ["guest", "turn"] (Zaf ZfK):=by walk_at"p"
theorem ZpD (T:Bl mg) (D:Df K mg "is_there" ZfK ["guest", "turn"]):Cal P w K mg base "is_there" ["guest", "turn"] 1 (spO (K:=K) R_there):=by
 refine D.ev Zkw (fun ts r h=>by cases h;rfl) (fun _ _ _ _ s H E ts r hr h=>?_)
 cases h with
 |@mk g t =>
   refine⟨_,(Zai (Zax (ZkY Zmq Zmq (Zav Zal (pv 0) Zah (fun _ _=>rfl)) (pv 1) (Zav Zal (pv 0) Zah (fun _ _=>rfl))))),?_⟩
   show EvS K _ [some _,some _] _
   walk_at"x"
   walk_at"ret"
   rfl
inductive R_most:List OT->OT->Prop
 |mk {g:Gs}:R_most [.fz (eGs g)] (.fz (.int g.most))
theorem ZlB:FnScope ["guest"] ["guest"] (Zaf ZgB):=by walk_at"p"
theorem Zsr (T:Bl mg) (D:Df K mg "most_of" ZgB ["guest"]):Cal P w K mg base "most_of" ["guest"] 1 (spO (K:=K) R_most):=by
 refine D.ev ZlB (fun ts r h=>by cases h;rfl) (fun _ _ _ _ s H E ts r hr h=>?_)
 cases h with
 |@mk g =>
   refine⟨_,(Zai (Zax (Zav Zal (pv 0) Zah (fun _ _=>rfl)))),?_⟩
   show EvS K _ [some _] _
   walk_at"x"
   walk_at"ret"
   rfl
inductive R_want:List OT->OT->Prop
 |mk {g:Gs}:R_want [.fz (eGs g)] (.fz (.int g.want))
theorem ZlD:FnScope ["guest"] ["guest"] (Zaf ZgT):=by walk_at"p"
theorem Zsh (T:Bl mg) (D:Df K mg "want_of" ZgT ["guest"]):Cal P w K mg base "want_of" ["guest"] 1 (spO (K:=K) R_want):=by
 refine D.ev ZlD (fun ts r h=>by cases h;rfl) (fun _ _ _ _ s H E ts r hr h=>?_)
 cases h with
 |@mk g =>
   refine⟨_,(Zai (Zax (Zav Zal (pv 0) Zah (fun _ _=>rfl)))),?_⟩
   show EvS K _ [some _] _
   walk_at"x"
   walk_at"ret"
   rfl
structure SetOk (gs:List Gs)(some:List Nat):Prop where
 mem:∀k∈some,k<gs.length
 len:some.length<=8
def Zej (gs:List Gs)(t:Nat)(sm:List Nat):Nat->Int:=fun l=>Zbf gs (t:Int) l sm
def Zhz (y:Yd)(gs:List Gs)(sm:List Nat)(t:Nat):List Int:=(List.range y.ls.length).map fun l=>ZdY y (fun k=>Za9 y k t) (Zej gs t sm) l
inductive R_reaching:List OT->OT->Prop
 |mk {y:Yd} {gs:List Gs} {sm:List Nat} {t:Int} (ok:y.Ok) (hg:∀g∈gs,g.Ok y) (hs:SetOk gs sm) (h0:0<=t) (h1:t<(y.T:Int)) :
  R_reaching [.fz (eYd y),.fz (.list (gs.map eGs)),.fz (.list (Zcv sm)),.fz (.int t)] (.ol ((Zhz y gs sm t.toNat).map PyData.int))
theorem ZmX {n j:Nat}{f g:Nat->Int}(hj:j<n)(e1:∀l,l<n->l≠j->g l=f l){v:Int}(e2:g j=v) :
 (((List.range n).map fun l=>PyData.int (f l)).set j (.int v))=(List.range n).map fun l=>PyData.int (g l):=by
 apply List.ext_getElem?
 intro i;by_cases hi:i=j
 ·subst hi
  rw[XN (by simpa using hj)];simp[hj,e2]
 ·rw[XU (Ne.symm hi)]
  by_cases h:i<n
  ·simp[h,e1 i h hi]
  ·simp[h]
theorem ZbS:FnScope ["yard", "guests", "some", "turn", "reaching", "number", "guest", "line"] ["yard", "guests", "some", "turn"] (Zaf ZcM):=by walk_at"p"
theorem Zkk (T:Bl mg) (D:Df K mg "reaching_at" ZcM ["yard", "guests", "some", "turn"]) (XbD:Cal P w K mg base "line_count" ["yard"] 1 (spO (K:=K) R_count)) (XbG:Cal P w K mg base "is_there" ["guest", "turn"] 1 (spO (K:=K) R_there))
 (XbA:Cal P w K mg base "line_of" ["guest"] 1 (spO (K:=K) R_lineof)) (XbH:Cal P w K mg base "most_of" ["guest"] 1 (spO (K:=K) R_most)) (XbI:Cal P w K mg base "above_of" ["yard", "line"] 1 (spO (K:=K) R_above))
 (Xbx:Cal P w K mg base "bound_at" ["yard", "line", "turn"] 1 (spO (K:=K) R_bound)):Cal P w K mg base "reaching_at" ["yard", "guests", "some", "turn"] 2 (spO (K:=K) R_reaching):=by
 refine D.ev ZbS (fun ts r h=>by cases h;rfl) (fun _ _ _ _ s H E ts r hr h=>?_)
 cases h with
 |@mk y gs sm t ok hg hs h0 h1 =>
   refine⟨_,(Zae (Zdo (i:=4) ZbS.nd rfl rfl (NX:=["yard", "guests", "some", "turn", "reaching", "number", "guest", "line"]) (sc:=Zaf ZcM) (N:=["line"]) (f:=[none]) rfl (by decide +kernel) rfl rfl (ZaQ rfl T.range (Zaa (Zap XbD hr (Zaa (pv 0) Zad) (hj:=by walk_at"j")) Zad)) (fun _=>(Zao (i:=0) (show(["line"]:List Str).Nodup by decide +kernel) rfl (Or.inl rfl))) (fun _=>ZaX) (fun _=>Zb2) (fun _=>Zah) rfl)
 (Zae (Zbp PassesOwn.never rfl (ZbM (pv 2)) (Zao (i:=5) ZbS.nd rfl (Or.inl rfl)) (Zae (Zar (i:=6) ZbS.nd rfl (Or.inl rfl) (Zav Zal (pv 1) (pv 5) (fun _ _=>rfl)))
 (Zai (ZdZ (ZgD (Zap XbG hr (Zaa (pv 6) (Zaa (pv 3) Zad)) (hj:=by walk_at"j"))) (Zai (Ziw (pv 4) (Zap XbA hr (Zaa (pv 6) Zad) (hj:=by walk_at"j")) Zgn (Zap XbH hr (Zaa (pv 6) Zad) (hj:=by walk_at"j")) ZnR ZdJ)) Zb3))))
 (Zae (Zbp PassesOwn.never rfl (ZoD rfl T.range (Zaa (Zat Zg4 (Zap XbD hr (Zaa (pv 0) Zad) (hj:=by walk_at"j")) Zah) (Zaa Zah (Zaa (ZuC Ztq Zah) Zad)))) (Zao (i:=7) ZbS.nd rfl (Or.inl rfl)) (Zai (Ziw (pv 4) (Zap XbI hr (Zaa (pv 0) (Zaa (pv 7) Zad)) (hj:=by walk_at"j")) Zgn (Zaz (Zoc rfl) (by rfl) T.min ZhB (Zaa (Zav Zal (pv 4) (pv 7) (fun _ _=>rfl)) (Zaa (Zap Xbx hr (Zaa (pv 0) (Zaa (pv 7) (Zaa (pv 3) Zad))) (hj:=by walk_at"j")) Zad))) ZnR ZdJ)))
 (Zai (Zax (pv 4)))))),?_⟩
   show EvS K _ [some _,some _,some _,some _,none,none,none,none] _
   walk_at"x"
   have l1:=ok.l1
   have l5:=ok.l5
   have n8:=hs.len
   refine Zaq (ZbP (ZmD (lo:=0) (n:=y.ls.length) (h:=fun _=>.int 0) ?ei (by omega) ?el) ?_)
   case ei=>walk_at"eir"
   case el =>
    intro x hx c;exact⟨_,by walk_at"g",by walk_at"ev"⟩
   walk_at"d"
   refine Zaq (ZbN (fun i=>[some (.fz (eYd y)),some (.fz (.list (gs.map eGs))),some (.fz (.list (Zcv sm))),some (.fz (.int t)),some (.ol ((List.range y.ls.length).map fun l=>PyData.int (Zbf gs t l (sm.take i)))),none,none,none]) (by walk_at"ei") ⟨rfl,rfl,rfl,rfl,rfl,trivial⟩ ?st ?fin)
   case st =>
    intro i d hd;have hi:i<sm.length:=by
     have:=(Xe.mp hd).1
     simpa [Zcv] using this
    obtain rfl:d=.int ((sm[i]:Nat):Int):=by simpa [Zcv,hi] using hd.symm
    have hk:sm[i]<gs.length:=hs.mem _ (XM hi)
    refine⟨_,by walk_at"g",?_⟩
    walk_at"d"
    walk_at"s1";have eg:gs.getD ((sm[i]:Nat):Int).toNat default=gs[sm[i]]:=by simp[hk]
    rw[eg];have gok:=hg gs[sm[i]] (XM hk)
    have gl:=gok.ln
    have tk:sm.take (i+1)=sm.take i++[sm[i]]:=by rw[Xau];simp[hi]
    refine Zga (by walk_at"et") (fun c=>?_) (fun c=>?_)
    ·refine Zn9 (m:=Zbf gs t gs[sm[i]].line (sm.take i)) rfl (by walk_at"ev") (by omega) ?_ (by walk_at"ev") ?_
     ·simp[gl]
     ·walk_at"d"
      refine⟨rfl,rfl,rfl,rfl,?_,trivial⟩
      rw[Xn];congr 2
      refine ZmX gl (fun l hl hn=>?_) ?_
      ·rw[tk,ZcG]
       simp[Zbf,hk,Ne.symm hn]
      ·rw[tk,ZcG]
       simp[Zbf,hk,c]
    ·refine Zb1 ⟨rfl,rfl,rfl,rfl,?_,trivial⟩
     refine Xaf (fun z=>some (OT.ol z)) (XX fun l _=>?_)
     rw[tk,ZcG];simp[Zbf,hk,c]
   case fin =>
    intro ρ' hf;refine ZcW hf ?_
    have el:(Zcv sm).length=sm.length:=by simp[Zcv]
    rw[el,Xap];refine Zaq (ZbN (fun i=>[some (.fz (eYd y)),some (.fz (.list (gs.map eGs))),some (.fz (.list (Zcv sm))),some (.fz (.int t)),some (.ol ((List.range y.ls.length).map fun l=>PyData.int (Zbj y (fun k=>Za9 y k t.toNat) (fun l=>Zbf gs t l sm) i l))),none,none,none]) (by walk_at"ei") ⟨rfl,rfl,rfl,rfl,rfl,trivial⟩ ?st2 ?fin2)
    case st2 =>
     intro i d hd;obtain⟨hi,rfl⟩:=Zlh hd
     have hi2:i<y.ls.length-1:=by omega
     refine⟨_,by walk_at"g",?_⟩
     walk_at"d"
     have ej:((y.ls.length:Int)-1-(i:Int)).toNat=y.ls.length-1-i:=by omega
     obtain⟨a,ea,la⟩:=ok.ups (y.ls.length-1-i) (by omega) (by omega)
     have un:upN y ((y.ls.length:Int)-1-(i:Int)).toNat=a:=by rw[ej];simp[upN,ea]
     refine Zn9 (m:=Zbj y (fun k=>Za9 y k t.toNat) (fun l=>Zbf gs t l sm) i a) rfl (by walk_at"ev") (by omega) ?_ (by walk_at"ev") ?_
     ·rw[un,Xn]
      have:a<y.ls.length:=by omega
      simp[this]
     ·walk_at"d"
      refine⟨rfl,rfl,rfl,rfl,?_,trivial⟩
      rw[un,Xn];refine Xaf (fun z=>some (OT.ol z)) (ZmX (by omega) (fun l hl hn=>?_) ?_)
      ·simp only[Zbj,ZgN]
       rw[ea,Xa (by simpa using fun z=>hn z.symm)]
       omega
      ·simp only[Zbj,ZgN]
       rw[ea,Xc rfl,ej]
    case fin2 =>
     intro ρ' hf;refine ZcW hf ?_
     walk_at"ret"
     show _=_
     have e2:(ZsG ((y.ls.length:Int)-1) ((y.ls.length:Int)-1-0).toNat).length=y.ls.length-1:=by rw[ZkF];omega
     rw[e2];unfold Zhz ZdY Zej;rw[XF h0,XQ];rfl
theorem Zmk (y:Yd)(gs:List Gs)(sm:List Nat)(t:Nat):(Zhz y gs sm t).length=y.ls.length:=by simp[Zhz]
theorem ZnN {y:Yd}{gs:List Gs}{sm:List Nat}{t l:Nat}(h:l<y.ls.length):(Zhz y gs sm t).getD l 0=ZdY y (fun k=>Za9 y k t) (Zej gs t sm) l:=by simp[Zhz,List.getD,h]
def ZcK (y:Yd)(gs:List Gs)(sm:List Nat)(t:Nat):Int:=Zba y (fun k=>Za9 y k t) (Zej gs t sm) 0
def Za6 (y:Yd)(gs:List Gs)(sm:List Nat):Int:=((List.range y.T).map fun t=>ZcK y gs sm t).sum
theorem Zrp (y:Yd)(gs:List Gs)(t:Nat):Zej gs t []=fun _=>0:=rfl
theorem Zhn {y:Yd}(ok:y.Ok)(t:Nat):∀i l,Zbj y (fun k=>Za9 y k t) (fun _=>0) i l=0
 |0,l=>rfl
 |i+1,l=>by
   have b0:∀k,0<=Za9 y k t:=fun k=>by
    unfold Za9;cases e:y.ls[k]? with
    |none=>simp
    |some ln =>
      have:=ok.bb ln (List.mem_of_getElem? e)
      simp only[X8,XaG];by_cases h:t<ln.bs.length
      ·have h2:=this (ln.bs[t]) (XM h)
       simp only[List.getD,XH h,XaG];exact h2.1
      ·simp[List.getD,h]
   simp only[Zbj,ZgN,Zhn ok t i];have:=b0 (y.ls.length-1-i)
   split<;>omega
theorem ZqL {y:Yd}(ok:y.Ok)(k t:Nat):0<=Za9 y k t:=by
 unfold Za9;cases e:y.ls[k]? with
 |none=>simp
 |some ln =>
   have:=ok.bb ln (List.mem_of_getElem? e)
   simp only[X8,XaG];by_cases h:t<ln.bs.length
   ·have h2:=this (ln.bs[t]) (XM h)
    simp only[List.getD,XH h,XaG];exact h2.1
   ·simp[List.getD,h]
theorem Zff {y:Yd}(ok:y.Ok)(gs:List Gs):Za6 y gs []=0:=by
 have g0:∀t,ZcK y gs [] t=0:=fun t=>by
  unfold ZcK Zba ZdY;rw[Zrp y,Zhn ok];have:=ZqL ok 0 t
  dsimp only;omega
 unfold Za6;rw[ZaH,Zag (g:=fun _=>0) fun t _=>g0 t,Za8]
inductive R_given:List OT->OT->Prop
 |mk {y:Yd} {gs:List Gs} {sm:List Nat} {t:Int} (ok:y.Ok) (hg:∀g∈gs,g.Ok y) (hs:SetOk gs sm) (h0:0<=t) (h1:t<(y.T:Int)) :
  R_given [.fz (eYd y),.fz (.list (gs.map eGs)),.fz (.list (Zcv sm)),.fz (.int t)] (.fz (.int (ZcK y gs sm t.toNat)))
theorem Zkg:FnScope ["yard", "guests", "some", "turn"] ["yard", "guests", "some", "turn"] (Zaf Zfy):=by walk_at"p"
theorem Zqm (T:Bl mg) (D:Df K mg "given_at" Zfy ["yard", "guests", "some", "turn"]) (XbY:Cal P w K mg base "reaching_at" ["yard", "guests", "some", "turn"] 2 (spO (K:=K) R_reaching)) (Xbx:Cal P w K mg base "bound_at" ["yard", "line", "turn"] 1 (spO (K:=K) R_bound)) :
 Cal P w K mg base "given_at" ["yard", "guests", "some", "turn"] 3 (spO (K:=K) R_given):=by
 refine D.ev Zkg (fun ts r h=>by cases h;rfl) (fun _ _ _ _ s H E ts r hr h=>?_)
 cases h with
 |@mk y gs sm t ok hg hs h0 h1 =>
   refine⟨_,(Zai (Zax (Zaz (Zoc rfl) (by rfl) T.min ZhB (Zaa (Zav Zal (Zap XbY hr (Zaa (pv 0) (Zaa (pv 1) (Zaa (pv 2) (Zaa (pv 3) Zad)))) (hj:=by walk_at"j")) Zah (fun _ _=>rfl)) (Zaa (Zap Xbx hr (Zaa (pv 0) (Zaa Zah (Zaa (pv 3) Zad))) (hj:=by walk_at"j")) Zad))))),?_⟩
   show EvS K _ [some _,some _,some _,some _] _
   walk_at"x"
   have l1:=ok.l1
   have rl:=Zmk y gs sm t.toNat
   walk_at"ret"
   show _=_
   rw[show(0:Int).toNat=0 from rfl,ZnN (by omega)];rfl
inductive R_givenm:List OT->OT->Prop
 |mk {y:Yd} {gs:List Gs} {sm:List Nat} (ok:y.Ok) (hg:∀g∈gs,g.Ok y) (hs:SetOk gs sm) :
  R_givenm [.fz (eYd y),.fz (.list (gs.map eGs)),.fz (.list (Zcv sm))] (.fz (.int (Za6 y gs sm)))
theorem ZhS:FnScope ["yard", "guests", "some"] ["yard", "guests", "some"] (Zaf Zdq):=by walk_at"p"
theorem ZmU (T:Bl mg) (D:Df K mg "given_most" Zdq ["yard", "guests", "some"]) (Xbt:Cal P w K mg base "turns_of" ["yard"] 1 (spO (K:=K) R_turns)) (XbZ:Cal P w K mg base "given_at" ["yard", "guests", "some", "turn"] 3 (spO (K:=K) R_given)) :
 Cal P w K mg base "given_most" ["yard", "guests", "some"] 4 (spO (K:=K) R_givenm):=by
 refine D.ev ZhS (fun ts r h=>by cases h;rfl) (fun _ _ _ _ s H E ts r hr h=>?_)
 cases h with
 |@mk y gs sm ok hg hs =>
   refine⟨_,(Zai (Zax (Zaz Zhs (by rfl) T.sum Zh9 (Zaa (Zfv (NX:=["yard", "guests", "some"]) (sc:=Zaf Zdq) (N:=["turn", "yard", "guests", "some"]) (f:=[none,some 0,some 1,some 2]) rfl (by decide +kernel) rfl rfl (ZaQ rfl T.range (Zaa (Zap Xbt hr (Zaa (pv 0) Zad) (hj:=by walk_at"j")) Zad)) (fun _=>(Zao (i:=0) (show(["turn", "yard", "guests", "some"]:List Str).Nodup by decide +kernel) rfl (Or.inl rfl))) (fun _=>ZaX) (fun _=>Zb2) (fun _=>(Zap XbZ hr (Zaa (pv 1) (Zaa (pv 2) (Zaa (pv 3) (Zaa (pv 0) Zad)))) (hj:=by walk_at"j")))) Zad)))),?_⟩
   show EvS K _ [some _,some _,some _] _
   walk_at"x"
   have t8:=ok.t8
   refine Zbs (ZhE (ns:=(List.range y.T).map fun t=>ZcK y gs sm t) ?_ rfl) rfl
   refine EvO.fz ?_
   rw[XQ];refine ZmD (lo:=0) (n:=y.T) ?_ (by omega) ?_
   ·walk_at"eir"
   ·intro x hx c
    refine⟨_,by walk_at"g",?_⟩
    walk_at"e"
    rw[Xao];have h:R_given [.fz (eYd y),.fz (.list (gs.map eGs)),.fz (.list (Zcv sm)),.fz (.int (x:Int))] (.fz (.int (ZcK y gs sm x))):=R_given.mk (t:=(x:Int)) ok hg hs (by omega) (by omega)
    exact Za0 (by walk_at"ea") h
def Zem (l:Ln)(k:Int):Ln:=⟨l.up,l.bs.map fun b=>b*k⟩
def Zaj (y:Yd)(k:Int):Yd:=⟨y.T,y.ls.map fun l=>Zem l k⟩
def Zbo (g:Gs)(k:Int):Gs:=⟨g.line,g.first,g.last,g.want*k,g.most*k⟩
theorem Zf8 {y:Yd}(ok:y.Ok){k:Int}(h0:0<=k)(hb:∀l∈y.ls,∀b∈l.bs,b*k<10^300):(Zaj y k).Ok:=by
 have hu:∀j,Zb9 (Zaj y k) j=Zb9 y j:=fun j=>by
  simp only[Zb9,Zaj,Xi];cases y.ls[j]?<;>rfl
 refine⟨ok.t1,ok.t8,by simpa [Zaj] using ok.l1,by simpa [Zaj] using ok.l5,by rw[hu];exact ok.up0,fun j h1 h2=>?_,fun l hl=>?_,fun l hl b hb'=>?_⟩
 ·rw[hu]
  exact ok.ups j h1 (by simpa [Zaj] using h2)
 ·simp only[Zaj,Xx]at hl
  obtain⟨l0,h1,rfl⟩:=hl
  simpa [Zem,Zaj] using ok.bl l0 h1
 ·simp only[Zaj,Xx]at hl
  obtain⟨l0,h1,rfl⟩:=hl
  simp only[Zem,Xx]at hb';obtain⟨b0,h2,rfl⟩:=hb'
  exact⟨Xal (ok.bb l0 h1 b0 h2).1 h0,hb l0 h1 b0 h2⟩
inductive R_lntimes:List OT->OT->Prop
 |mk {l:Ln} {k:Int} (hb:∀b∈l.bs,IntMulOk b k) (hl:l.bs.length<=8):R_lntimes [.fz (eLn l),.fz (.int k)] (.fz (eLn (Zem l k)))
theorem ZhQ:FnScope ["line", "k"] ["line", "k"] (Zaf Zdr):=by walk_at"p"
theorem Zmi (T:Bl mg) (D:Df K mg "line_times" Zdr ["line", "k"]):Cal P w K mg base "line_times" ["line", "k"] 1 (spO (K:=K) R_lntimes):=by
 refine D.ev ZhQ (fun ts r h=>by cases h;rfl) (fun _ _ _ _ s H E ts r hr h=>?_)
 cases h with
 |@mk l k hb hl =>
   refine⟨_,(Zai (Zax (ZbK (Zaa (Zav Zal (pv 0) Zah (fun _ _=>rfl)) (Zaa (ZcD Zgm (by rfl) T.tuple Zgh (Zaa (Zfv (NX:=["line", "k"]) (sc:=Zaf Zdr) (N:=["bound", "k"]) (f:=[none,some 1]) rfl (by decide +kernel) rfl rfl (Zl5 (Zav Zal (pv 0) Zah (fun _ _=>rfl))) (fun _=>(Zao (i:=0) (show(["bound", "k"]:List Str).Nodup by decide +kernel) rfl (Or.inl rfl))) (fun _=>ZaX) (fun _=>Zb2) (fun _=>(Zat Zbn (pv 0) (pv 1)))) Zad)) Zad))))),?_⟩
   show EvS K _ [some _,some _] _
   walk_at"x"
   refine Zbs (ZdV (ZaJ (by walk_at"ev") (ZaJ (ZmI (EvO.fz (ZeZ (xs:=l.bs) (enc:=PyData.int) (h:=fun b=>.int (b*k)) ?ei (by omega) ?el))) ZaU)) (Nat.le_of_ble_eq_true rfl)) ?_
   case ei=>walk_at"ei"
   case el =>
    intro x hx c;have hm:=hb x hx
    refine⟨_,by walk_at"g",?_⟩
    walk_at"e"
    walk_at"ev"
   show _=_
   unfold eLn Zem;rw[XQ];rfl
inductive R_ydtimes:List OT->OT->Prop
 |mk {y:Yd} {k:Int} (hb:∀l∈y.ls,∀b∈l.bs,IntMulOk b k) (hl:∀l∈y.ls,l.bs.length<=8) (h5:y.ls.length<=5):R_ydtimes [.fz (eYd y),.fz (.int k)] (.fz (eYd (Zaj y k)))
theorem ZhP:FnScope ["yard", "k"] ["yard", "k"] (Zaf Zdl):=by walk_at"p"
theorem Zmo (T:Bl mg) (D:Df K mg "yard_times" Zdl ["yard", "k"]) (Xb0:Cal P w K mg base "line_times" ["line", "k"] 1 (spO (K:=K) R_lntimes)):Cal P w K mg base "yard_times" ["yard", "k"] 2 (spO (K:=K) R_ydtimes):=by
 refine D.ev ZhP (fun ts r h=>by cases h;rfl) (fun _ _ _ _ s H E ts r hr h=>?_)
 cases h with
 |@mk y k hb hl h5 =>
   refine⟨_,(Zai (Zax (ZbK (Zaa (Zav Zal (pv 0) Zah (fun _ _=>rfl)) (Zaa (ZcD Zgm (by rfl) T.tuple Zgh (Zaa (Zfv (NX:=["yard", "k"]) (sc:=Zaf Zdl) (N:=["line", "k"]) (f:=[none,some 1]) rfl (by decide +kernel) rfl rfl (Zl5 (Zav Zal (pv 0) Zah (fun _ _=>rfl))) (fun _=>(Zao (i:=0) (show(["line", "k"]:List Str).Nodup by decide +kernel) rfl (Or.inl rfl))) (fun _=>ZaX) (fun _=>Zb2) (fun _=>(Zap Xb0 hr (Zaa (pv 0) (Zaa (pv 1) Zad)) (hj:=by walk_at"j")))) Zad)) Zad))))),?_⟩
   show EvS K _ [some _,some _] _
   walk_at"x"
   refine Zbs (ZdV (ZaJ (by walk_at"ev") (ZaJ (ZmI (EvO.fz (ZeZ (xs:=y.ls) (enc:=eLn) (h:=fun l=>eLn (Zem l k)) ?ei (by omega) ?el))) ZaU)) (Nat.le_of_ble_eq_true rfl)) ?_
   case ei=>walk_at"ei"
   case el =>
    intro x hx c;have hm:=hb x hx
    have hn:=hl x hx
    refine⟨_,by walk_at"g",?_⟩
    walk_at"e"
    walk_at"ev"
   show _=_
   unfold eYd Zaj;rw[XQ];rfl
inductive R_gstimes:List OT->OT->Prop
 |mk {g:Gs} {k:Int} (hw:IntMulOk g.want k) (hm:IntMulOk g.most k):R_gstimes [.fz (eGs g),.fz (.int k)] (.fz (eGs (Zbo g k)))
theorem Zhd:FnScope ["guest", "k"] ["guest", "k"] (Zaf ZdI):=by walk_at"p"
theorem Zl8 (T:Bl mg) (D:Df K mg "guest_times" ZdI ["guest", "k"]):Cal P w K mg base "guest_times" ["guest", "k"] 1 (spO (K:=K) R_gstimes):=by
 refine D.ev Zhd (fun ts r h=>by cases h;rfl) (fun _ _ _ _ s H E ts r hr h=>?_)
 cases h with
 |@mk g k hw hm =>
   refine⟨_,(Zai (Zax (ZbK (Zaa (Zav Zal (pv 0) Zah (fun _ _=>rfl)) (Zaa (Zav Zal (pv 0) Zah (fun _ _=>rfl)) (Zaa (Zav Zal (pv 0) Zah (fun _ _=>rfl)) (Zaa (Zat Zbn (Zav Zal (pv 0) Zah (fun _ _=>rfl)) (pv 1)) (Zaa (Zat Zbn (Zav Zal (pv 0) Zah (fun _ _=>rfl)) (pv 1)) Zad)))))))),?_⟩
   show EvS K _ [some _,some _] _
   walk_at"x"
   walk_at"ret"
   rfl
inductive R_gsstimes:List OT->OT->Prop
 |mk {gs:List Gs} {k:Int} (hw:∀g∈gs,IntMulOk g.want k/\IntMulOk g.most k) (h8:gs.length<=8):R_gsstimes [.fz (.list (gs.map eGs)),.fz (.int k)] (.ol ((gs.map fun g=>Zbo g k).map eGs))
theorem ZgZ:FnScope ["guests", "k"] ["guests", "k"] (Zaf Zc4):=by walk_at"p"
theorem Zkd (T:Bl mg) (D:Df K mg "guests_times" Zc4 ["guests", "k"]) (Xb1:Cal P w K mg base "guest_times" ["guest", "k"] 1 (spO (K:=K) R_gstimes)):Cal P w K mg base "guests_times" ["guests", "k"] 2 (spO (K:=K) R_gsstimes):=by
 refine D.ev ZgZ (fun ts r h=>by cases h;rfl) (fun _ _ _ _ s H E ts r hr h=>?_)
 cases h with
 |@mk gs k hw h8 =>
   refine⟨_,(Zai (Zax (Zfv (NX:=["guests", "k"]) (sc:=Zaf Zc4) (N:=["guest", "k"]) (f:=[none,some 1]) rfl (by decide +kernel) rfl rfl (ZbM (pv 0)) (fun _=>(Zao (i:=0) (show(["guest", "k"]:List Str).Nodup by decide +kernel) rfl (Or.inl rfl))) (fun _=>ZaX) (fun _=>Zb2) (fun _=>(Zap Xb1 hr (Zaa (pv 0) (Zaa (pv 1) Zad)) (hj:=by walk_at"j")))))),?_⟩
   show EvS K _ [some _,some _] _
   walk_at"x"
   refine ZeG (ZeZ (xs:=gs) (enc:=eGs) (h:=fun g=>eGs (Zbo g k)) ?ei (by omega) ?el) ?_
   case ei=>walk_at"ei"
   case el =>
    intro x hx c;have h1:=(hw x hx).1
    have h2:=(hw x hx).2
    refine⟨_,by walk_at"g",?_⟩
    walk_at"e"
    walk_at"ev"
   show _=_
   rw[XQ];rfl
theorem ZiC:NoF "lay" := fun _ _ _ _=>rfl
theorem Zla:NoF "lay_one" := fun _ _ _ _=>rfl
theorem Zpm:NoF "flow" := fun _ _ _ _=>rfl
theorem ZgJ:NoF "reached" := fun _ _ _ _=>rfl
theorem Zqp:NoF "push" := fun _ _ _ _=>rfl
theorem Zpe:NoF "fill" := fun _ _ _ _=>rfl
theorem Zsy:NoF "way_to" := fun _ _ _ _=>rfl
theorem ZgU:FnScope ["self"] ["self"] (Zaf Zbz):=by walk_at"p"
theorem Zta {f:Addr} {fd:FuncData} (T:Bl mg) (U:Tx K mg C gS gE) (F:Fun K "__init__" "Net.__init__" Zbz f fd):FnOk P w K mg base CX0 1 f fd ["self"] (spI P w C):=by
 refine F.ok ZgU (fun vs H Q E ⟨x,dx,e,_⟩=>by rw[e];rfl) fun cdv A outer s H vs Q E hr ⟨x,dx,e,hx,q⟩=>?_
 subst e;refine⟨_,(Zae (Zlu (pv 0) (ZbL Zad) rfl)
 (Zae (Zlu (pv 0) (ZbL Zad) rfl)
 (Zae (Zlu (pv 0) ZpY rfl)
 (Zai (Zlu (pv 0) Zpr rfl))))),?_⟩
 refine⟨X0 _,fun e he=>⟨_,rfl,x,C,dx,[],rfl,?_,U.net.cl,U.net.ends,by decide,?_⟩⟩
 ·rw[Zak (Za2 hx he)];exact hx
 have xe:x≠e:=Za2 hx he
 refine⟨X0 _,fun r hr'=>⟨_,rfl,x,C,dx,[("ends",.ref e)],rfl,?_,U.net.cl,U.net.rooms,(by show(1:Nat)<1000;decide),?_⟩⟩
 ·have xr:x≠r:=Za2 Zam hr'
  rw[Zak xr,Zam];rfl
 have xr:x≠r:=Za2 Zam hr'
 have rr:upd H e (.lst []) r=none:=by rw[Zak (Ne.symm xr)]at hr';exact hr'
 have er:e≠r:=Za2 Zam rr
 have r0:H r=none:=by rw[Zak (Ne.symm er)]at rr;exact rr
 refine fun l hl=>⟨_,rfl,x,C,dx,[("ends",.ref e),("rooms",.ref r)],rfl,?_,U.net.cl,U.net.leav,(by show(2:Nat)<1000;decide),?_⟩
 ·have xl:x≠l:=Za2 Zam hl
  rw[Zak xl,Zam];rfl
 have xl:x≠l:=Za2 Zam hl
 rw[Zak (Ne.symm xl)]at hl;have rl:r≠l:=Za2 Zam hl
 rw[Zak (Ne.symm rl),Zak (Ne.symm xl)]at hl;have el:e≠l:=Za2 Zam hl
 rw[Zak (Ne.symm el)]at hl;refine fun d hd=>⟨_,rfl,x,C,dx,[("ends",.ref e),("rooms",.ref r),("leaving",.ref l)],rfl,?_,U.net.cl,U.net.laid,(by show(3:Nat)<1000;decide),?_⟩
 ·have xd:x≠d:=Za2 Zam hd
  rw[Zak xd,Zam];rfl
 have xd:x≠d:=Za2 Zam hd
 rw[Zak (Ne.symm xd)]at hd;have ld:l≠d:=Za2 Zam hd
 rw[Zak (Ne.symm ld),Zak (Ne.symm xd)]at hd;have rd:r≠d:=Za2 Zam hd
 rw[Zak (Ne.symm rd),Zak (Ne.symm xd)]at hd;have ed:e≠d:=Za2 Zam hd
 rw[Zak (Ne.symm ed)]at hd;refine q e r l d _ he r0 hl hd ?_ ?_ ?_ ?_ ?_ ?_ (fun b hb=>?_)
 ·simp only[XL,Xf,Xad,or_false,not_or,not_false_eq_true,XaW,and_true]
  exact⟨⟨xe,xr,xl,xd⟩,⟨er,el,ed⟩,⟨rl,rd⟩,ld⟩
 ·rw[Zam];rfl
 ·rw[Zak (Ne.symm xe),Zak ed,Zak (Ne.symm xe),Zak el,Zak (Ne.symm xe),Zak er,Zak (Ne.symm xe),Zam]
 ·rw[Zak (Ne.symm xr),Zak rd,Zak (Ne.symm xr),Zak rl,Zak (Ne.symm xr),Zam]
 ·rw[Zak (Ne.symm xl),Zak ld,Zak (Ne.symm xl),Zam]
 ·rw[Zak (Ne.symm xd),Zam];rfl
 ·simp only[Xf,Xad,or_false,not_or]at hb
  obtain⟨b1,b2,b3,b4,b5⟩:=hb
  rw[Zak b1,Zak b5,Zak b1,Zak b4,Zak b1,Zak b3,Zak b1,Zak b2]
inductive R_lay1:NetS->List OT->(NetS->Prop)->Prop
 |mk {N:NetS} {s e:List Key} {r:Int} (h1:N.ends.length<900) (h2:N.rooms.length<900) (h3:N.leav.length<900) (h4:∀k ns,Zbx N.leav k=some ns->ns.length<900):R_lay1 N [.fz (ZbF s),.fz (ZbF e),.fz (.int r)] (fun N'=>N'=ZsI N s e r)
theorem Zhl:FnScope ["self", "start", "end", "room"] ["self", "start", "end", "room"] (Zaf Zbw):=by walk_at"p"
theorem Zsm (T:Bl mg) (U:Tx K mg C gS gE) (D:Mf K C "lay_one" "Net.lay_one" Zbw ["self", "start", "end", "room"]):Zi0 P w K mg base C "lay_one" ["self", "start", "end", "room"] 1 (spN K P w C R_lay1):=by
 refine D.evN Zhl (fun M ts Ψ h=>by cases h;rfl) (fun f cdv A outer s H E v M ts Ψ hr h=>?_)
 cases h with
 |@mk s' e r h1 h2 h3 h4 =>
   refine⟨_,(Zae (Zbb (Zgb PySem.F.plainAttrs_list PySem.F.slot_list_append PySem.F.type_list_append ZbA (ZpX (ZgQ hr) (Zcy (pv 0) rfl) (pv 1) (ZbL Zad) ⟨rfl,rfl,rfl,rfl⟩) (Zaa (Zaz Zcq (by rfl) T.len Zck (Zaa (Zcy (pv 0) rfl) Zad)) Zad)))
 (Zae (Zbb (Zgb PySem.F.plainAttrs_list PySem.F.slot_list_append PySem.F.type_list_append ZbA (Zcy (pv 0) rfl) (Zaa (pv 2) Zad)))
 (Zai (Zbb (Zgb PySem.F.plainAttrs_list PySem.F.slot_list_append PySem.F.type_list_append ZbA (Zcy (pv 0) rfl) (Zaa (pv 3) Zad)))))),?_⟩
   show EvS K _ [some _,some _,some _,some _] _
   walk_at"x"
   refine Zaq (Zl9 (N:=M) (n:=(M.ends.length:Int)) U.net rfl (Zab rfl) (by omega) (fun ns hns=>?_) (Zju (N:={ M with leav:=Zj1 M.leav s' }) U.net rfl) ?_)
   ·rw[Zif,Xc rfl]at hns
    cases hns
    cases z:Zbx M.leav s' with
    |none=>decide
    |some ms=>have:=h4 s' ms z;show ms.length<1000;omega
   walk_at"d"
   refine Zaq (Zmj U.net rfl (Zab rfl) (show M.ends.length<1000 by omega) ?_)
   walk_at"d"
   refine ZlV U.net rfl (Zab rfl) (show M.rooms.length<1000 by omega) ?_
   walk_at"d"
   exact⟨_,rfl,rfl⟩
abbrev ZgE:Phi Nd:=fun _ _=>0
inductive R_lay:NetS->List OT->(NetS->Prop)->Prop
 |mk {N:NetS} {L:Lay Nd} {s e:Nd} {r:Int} (h:NetR N L ZgE) (new:(s,e)∉L.map (fun x=>(x.1,x.2.1))) (l:L.length<400):R_lay N [.fz (ZbF (nk s)),.fz (ZbF (nk e)),.fz (.int r)] (fun N'=>NetR N' (L++[(s,e,r)]) ZgE)
theorem Zmw:FnScope ["self", "start", "end", "room"] ["self", "start", "end", "room"] (Zaf Zda):=by walk_at"p"
theorem ZsW (T:Bl mg) (U:Tx K mg C gS gE) (D:Mf K C "lay" "Net.lay" Zda ["self", "start", "end", "room"]) (XbP:Zi0 P w K mg base C "lay_one" ["self", "start", "end", "room"] 1 (spN K P w C R_lay1)):Zi0 P w K mg base C "lay" ["self", "start", "end", "room"] 2 (spN K P w C R_lay):=by
 refine D.evN Zmw (fun M ts Ψ h=>by cases h;rfl) (fun f cdv A outer s H E v M ts Ψ hr h=>?_)
 cases h with
 |@mk L s' e r h new l =>
   refine⟨_,(Zae (Zsb (Zoo hr) (Zcy (pv 0) rfl) (ZbK (Zaa (pv 1) (Zaa (pv 2) Zad))) (Zaz Zcq (by rfl) T.len Zck (Zaa (Zcy (pv 0) rfl) Zad)) rfl)
 (Zae (Zbb (Zc2 XbP U.net hr (pv 0) (Zaa (pv 1) (Zaa (pv 2) (Zaa (pv 3) Zad))) (hj:=by walk_at"j")))
 (Zai (Zbb (Zc2 XbP U.net hr (pv 0) (Zaa (pv 2) (Zaa (pv 1) (Zaa Zah Zad))) (hj:=by walk_at"j")))))),?_⟩
   show EvS K _ [some _,some _,some _,some _] _
   walk_at"x"
   have le:=h.elen
   have lr:M.rooms.length=2*L.length:=by rw[h.rooms,Zf2]
   have l1:=h.l1
   have l2:=h.l2
   have l3:=h.l3
   refine Zaq (Zn6 (N:=M) (n:=(M.ends.length:Int)) (k1:=nk s') (k2:=nk e) U.net rfl (Zju U.net rfl) (ZdV (ZaJ (Zab rfl) (ZaJ (Zab rfl) ZaU)) ZoX) (by omega) ?_)
   walk_at"d"
   refine Zaq (Zdn (ΦA:=fun ts=>ts=[.fz (ZbF (nk s')),.fz (ZbF (nk e)),.fz (.int r)]) Zla rfl (Zfo (Zac (Zab rfl) (Zac (Zab rfl) (Zac (Zab rfl) Zan))) rfl) (fun ts hts=>?_))
   subst hts;refine⟨_,R_lay1.mk (show M.ends.length<900 by omega) (show M.rooms.length<900 by omega) (show M.leav.length<900 by omega) (fun k ns hk=>by have:=l3 k ns hk;omega),fun N' hN=>?_⟩
   subst hN;walk_at"d"
   refine Zdn (ΦA:=fun ts=>ts=[.fz (ZbF (nk e)),.fz (ZbF (nk s')),.fz (.int 0)]) Zla rfl (Zfo (Zac (Zab rfl) (Zac (Zab rfl) (Zac Zay Zan))) rfl) (fun ts hts=>?_)
   subst hts;refine⟨_,R_lay1.mk ?a1 ?a2 ?a3 ?a4,fun N' hN=>?_⟩
   case a1=>show(M.ends++[nk e]).length<900;rw[Xt,le];show 2*L.length+1<900;omega
   case a2=>show(M.rooms++[r]).length<900;rw[Xt,lr];show 2*L.length+1<900;omega
   case a3 =>
    show(Zj0 (Zj1 M.leav (nk s')) (nk s') _).length<900
    rw[Zgl];have:=ZkC M.leav (nk s')
    omega
   case a4 =>
    intro k ns hk;rw[ZdD]at hk;by_cases z:k=nk s'
    ·rw[Xc z]at hk
     cases hk
     have:((Zbx M.leav (nk s')).getD []).length<=2*L.length:=by
      cases q:Zbx M.leav (nk s') with
      |none=>exact X0 _
      |some ms=>exact l3 _ ms q
     show((Zbx M.leav (nk s')).getD []++[_]).length<900
     rw[Xt];show _+1<900
     omega
    ·rw[Xa z]at hk
     have:=l3 k ns hk
     omega
   subst hN;walk_at"d"
   exact⟨_,ZpT (r:=r) h rfl new,rfl⟩
def Zje (L:Lay Nd)(φ:Phi Nd)(p q:Nd):Int:=if (p,q)∈L.map (fun x=>(x.1,x.2.1)) then φ p q else 0
inductive R_flow (P:Program)(w:World)(C:Addr):List OT->(OT->Prop)->Prop
 |mk {N:NetS} {L:Lay Nd} {φ:Phi Nd} {p q:Nd} (h:NetR N L φ):R_flow P w C [.zow (Zgq P w C N),.fz (ZbF (nk p)),.fz (ZbF (nk q))] (fun r=>r=.fz (.int (Zje L φ p q)))
theorem Zkv:FnScope ["self", "start", "end"] ["self", "start", "end"] (Zaf Zc0):=by walk_at"p"
theorem Zr5 (T:Bl mg) (U:Tx K mg C gS gE) (D:Mf K C "flow" "Net.flow" Zc0 ["self", "start", "end"]):Zi0 P w K mg base C "flow" ["self", "start", "end"] 1 (spD K (R_flow P w C)):=by
 refine D.evD Zkv (fun ts Φ h=>by cases h;rfl) (fun _ _ _ _ s H E ts Φ hr h=>?_)
 cases h with
 |@mk N L φ p q h =>
   refine⟨_,(Zae (ZdZ (Zfp (ZoU (Zoo hr) (ZbK (Zaa (pv 1) (Zaa (pv 2) Zad))) (Zcy (pv 0) rfl))) (Zai (Zax Zah)) Zb3)
 (Zai (Zax (Zav Zal (Zcy (pv 0) rfl) (Zat Zn5 (Zr0 (Zoo hr) (Zcy (pv 0) rfl) (ZbK (Zaa (pv 1) (Zaa (pv 2) Zad))) (fun _ _=>rfl)) Zah) (fun _ _=>rfl))))),?_⟩
   show EvS K _ [some _,some _,some _] _
   walk_at"x"
   have key:∀{ρ:ZaZ},ρ[1]?=some (some (.fz (ZbF (nk p))))->ρ[2]?=some (some (.fz (ZbF (nk q))))->EvE K (Zuq (ZaM (Zb8 1) (ZaM (Zb8 2) Zd8))) ρ (.tuple [ZbF (nk p),ZbF (nk q)]):=fun e1 e2=>ZdV (ZaJ (Zab e1) (ZaJ (Zab e2) ZaU)) ZoX
   refine Zaq (Zga (b := !(ZfW N.laid (nk p,nk q)).isSome) (ZiK (ZnQ U.net (key rfl rfl) rfl)) (fun c=>Zbs Zay ?_) (fun c=>Zb1 ?_))
   ·have c:ZfW N.laid (nk p,nk q)=none:=by
     cases z:ZfW N.laid (nk p,nk q) with
     |none=>rfl
     |some n=>rw[z]at c;cases c
    show OT.fz (.int 0)=_
    unfold Zje;rw[Xa (fun hm=>?_)]
    obtain⟨x,hx,ex⟩:=Xx.mp hm
    obtain⟨i,hi⟩:=List.mem_iff_getElem?.mp hx
    have:=h.laid i x hi
    injection ex with e1 e2
    rw[e1,e2,c]at this;cases this
   ·have hm:(p,q)∈L.map (fun x=>(x.1,x.2.1)):=by
     apply Classical.byContradiction
     intro hn;rw[h.laid0 p q hn]at c;cases c
    obtain⟨x,hx,ex⟩:=Xx.mp hm
    obtain⟨i,hi⟩:=List.mem_iff_getElem?.mp hx
    have hl:=h.laid i x hi
    injection ex with e1 e2
    rw[e1,e2]at hl;have hr':N.rooms[2*i+1]?=some (φ p q):=by
     rw[h.rooms,Ze5];unfold rmE;have a:(2*i+1)/2=i:=by omega
     have b:¬(2*i+1)%2=0:=by omega
     rw[a,hi];simp only[X8,Xa b,e1,e2]
    have ea:atI (N.rooms.map PyData.int) (Builtin.bitXor ((2*i:Nat):Int) 1)=some (.int (φ p q)):=by
     rw[ZeQ];have a:Zfl (2*i)=2*i+1:=by unfold Zfl;rw[Xc (by omega)]
     rw[a];exact Zcu (by rw[Xi,hr'];rfl)
    refine Zbs (Zi2 (N:=N) U.net rfl (ZdC (g:=Builtin.bitXor) (Zpv (n:=((2*i:Nat):Int)) U.net rfl (key rfl rfl) hl) Zay) ea) ?_
    unfold Zje;rw[Xc hm]
theorem Zol {K:W.Frag}{ρ:ZaZ}{ta:TE}{ds:List PyData}(h:EvE K ta ρ (.list ds)):EvT K (fun σ H Q=>ta σ H fun x H'=>∃k,ZuL K x H' k/\Q k H') ρ (!ds.isEmpty):=fun H0 F σ H Q S q=>h H0 F σ H _ S fun F1 H1 v x1 r1=>by
 obtain⟨a,xs,rfl,h1,h2,_⟩:=ZbD (K:=K) r1 x1.fh
 refine⟨_,.inl ⟨xs,h1,rfl⟩,?_⟩
 have e:xs.isEmpty=ds.isEmpty:=by
  have:=h2.length
  cases xs<;>cases ds<;>simp at this ⊢
 rw[e];exact q F1 H1 x1
def ZoW (n:Nd):PyData:=ZbF (nk n)
inductive R_reached (P:Program)(w:World)(C:Addr):List OT->(OT->Prop)->Prop
 |mk {N:NetS} {L:Lay Nd} {φ:Phi Nd} {s:Nd} (h:NetR N L φ) (l:L.length<400):R_reached P w C [.zow (Zgq P w C N),.fz (ZbF (nk s))] (fun r=>∃v es,r=.own v (Zik (kvG es))/\Tree L φ s es/\ZcL L φ es)
structure ReachI (L:Lay Nd)(φ:Phi Nd)(s:Nd)(es0 es:Got Nd)(U fu:List Nd):Prop where
 tree:Tree L φ s es
 fin:∀n∈fu,n∈ZaC es
 sub:∀n∈ZaC es0,n∈ZaC es
 done:ZsC L φ es (U++fu)
 len:es.length=es0.length+fu.length
theorem Zbg:FnScope ["self", "start", "edges", "latest", "further", "node", "edge"] ["self", "start"] (Zaf Zbv):=by walk_at"p"
theorem Zml (T:Bl mg) (U:Tx K mg C gS gE) (D:Mf K C "reached" "Net.reached" Zbv ["self", "start"]):Zi0 P w K mg base C "reached" ["self", "start"] 1 (spD K (R_reached P w C)):=by
 refine D.evD Zbg (fun ts Φ h=>by cases h;rfl) (fun _ _ _ _ s H E ts Φ hr h=>?_)
 cases h with
 |@mk N L φ s' h l =>
   refine⟨_,(Zae (Zar (i:=2) Zbg.nd rfl (Or.inl rfl) (Zqt (ZgQ hr) (pv 1) Zq2))
 (Zae (Zar (i:=3) Zbg.nd rfl (Or.inl rfl) (ZbL (Zaa (pv 1) Zad)))
 (Zae (Zcj PassesOwn.never (ZkU (pv 3) (fun _=>rfl)) (Zae (Zar (i:=4) Zbg.nd rfl (Or.inl rfl) (ZbL Zad))
 (Zae (Zbp PassesOwn.never rfl (ZbM (pv 3)) (Zao (i:=5) Zbg.nd rfl (Or.inl rfl)) (Zai (Zbp PassesOwn.never rfl (ZbM (Zpl (ZgQ hr) (Zcy (pv 0) rfl) (pv 5) (ZbL Zad) ⟨rfl,rfl,rfl,rfl⟩)) (Zao (i:=6) Zbg.nd rfl (Or.inl rfl)) (Zai (ZdZ (PW.pt (ZkM (Zbm Zmc (Zav Zal (Zcy (pv 0) rfl) (pv 6) (fun _ _=>rfl)) Zah (ZbT _)) (Zic (Zfp (Zob (ZgQ hr) (Zav Zal (Zcy (pv 0) rfl) (pv 6) (fun _ _=>rfl)) (pv 2)))))) (Zae (Zow (ZgQ hr) (pv 2) (Zav Zal (Zcy (pv 0) rfl) (pv 6) (fun _ _=>rfl)) (pv 6) rfl)
 (Zai (Zbb (Zgb PySem.F.plainAttrs_list PySem.F.slot_list_append PySem.F.type_list_append ZbA (pv 4) (Zaa (Zav Zal (Zcy (pv 0) rfl) (pv 6) (fun _ _=>rfl)) Zad))))) Zb3)))))
 (Zai (Zar (i:=3) Zbg.nd rfl (Or.inl rfl) (pv 4))))))
 (Zai (Zax (pv 2)))))),?_⟩
   show EvS K _ [some _,some _,none,none,none,none,none] _
   walk_at"x"
   refine Zaq (ZnM (ZpL (k:=nk s') (d:=.none) (Zab rfl) Zto) (fun v=>?_))
   walk_at"d"
   refine Zaq (ZbP (Zdp (ds:=[ZbF (nk s')]) (ZaJ (Zab rfl) ZaU) Ztx) ?_)
   walk_at"d"
   refine ZeR 3 rfl ?_
   walk_at"d"
   have bnd:∀es,Tree L φ s' es->es.length<=2*L.length+1:=fun es t=>by have:=t.len;rw[ZiL]at this;exact this
   refine Zaq (Zc6 (fun m ρ'=>∃(es:Got Nd) (lt:List Nd) (u4 u5 u6:Option OT),Tree L φ s' es/\(∀n∈lt,n∈ZaC es)/\ZsC L φ es lt/\m=2*(2*L.length+2-es.length)+(if lt=[] then 0 else 1) /\
    ρ'=[some (.zow (Zgq P w C N)),some (.fz (ZbF (nk s'))),some (.own v (Zik (kvG es))),some (.fz (.list (lt.map ZoW))),u4,u5,u6]) _ ⟨[(s',none)],[s'],none,none,none,.root,(fun n hn=>by simpa [ZaC] using hn),?d0,rfl,rfl⟩ ?ws)
   case d0 =>
    intro e m n r h1 h2 h3 h4 h5 h6;have:m=s':=by simpa [ZaC] using h5
    exact Xp (by rw[this];exact Xb) h6
   case ws =>
    rintro m _ ⟨es,lt,u4,u5,u6,tr,sb,dn,rfl,rfl⟩
    refine⟨_,Zol (ds:=lt.map ZoW) (Zab rfl),fun c=>?_,fun c=>?_⟩
    ·have hlt:lt≠[]:=fun z=>by rw[z]at c;cases c
     rw[Xa hlt];refine Zaq (ZbP (Zdp (ds:=[]) ZaU (by decide)) ?_)
     walk_at"d"
     refine Zaq (ZeF (ds:=lt.map ZoW) (fun i ρ'=>∃(es':Got Nd) (fu:List Nd) (u5 u6:Option OT),ReachI L φ s' es es' (lt.drop i) fu /\
      ρ'=[some (.zow (Zgq P w C N)),some (.fz (ZbF (nk s'))),some (.own v (Zik (kvG es'))),some (.fz (.list (lt.map ZoW))),some (.ol (fu.map ZoW)),u5,u6]) (Zcn (Zab rfl)) ⟨es,[],_,_,⟨tr,(fun n hn=>nomatch hn),fun n hn=>hn,by rw[List.drop_zero,X4];exact dn,by simp⟩,rfl⟩ ?st ?fin)
     case fin =>
      rintro _ ⟨es',fu,w5,w6,I,rfl⟩
      rw[Xj]at I;have dn':=I.done
      rw[List.drop_length,Xbl]at dn';refine ZeR 4 rfl ?_
      walk_at"d"
      refine ZaT (Zab rfl) ?_
      walk_at"d"
      refine⟨2*(2*L.length+2-es'.length)+(if fu=[] then 0 else 1),?_,es',fu,_,_,_,I.tree,I.fin,dn',rfl,rfl⟩
      have b1:=bnd es' I.tree
      have b2:=I.len
      by_cases z:fu=[]
      ·rw[Xc z]
       rw[z]at b2;simp at b2
       omega
      ·rw[Xa z]
       have:0<fu.length:=Xbi.mpr z
       omega
     case st =>
      rintro i d _ hd ⟨es1,fu1,w5,w6,I1,rfl⟩
      have hi:i<lt.length:=by
       have:=(Xe.mp hd).1
       simpa using this
      obtain rfl:d=ZoW lt[i]:=by simpa [hi] using hd.symm
      have hdr:lt.drop i=lt[i]::lt.drop (i+1):=Xay hi
      generalize lt[i]=x at hdr;refine⟨_,ZaB,?_⟩
      walk_at"d"
      refine ZeF (ds:=((Zbx N.leav (nk x)).getD []).map PyData.int) (fun j ρ'=>∃(es2:Got Nd) (fu2:List Nd) (u6:Option OT),ReachI L φ s' es es2 (lt.drop i) fu2 /\
       (∀(k:Nat) (n:Nd) (r:Int),(k:Int)∈((Zbx N.leav (nk x)).getD []).take j->hdE L k=some n->rmE L φ k=some r->0<r->n∈ZaC es2) /\
       ρ'=[some (.zow (Zgq P w C N)),some (.fz (ZbF (nk s'))),some (.own v (Zik (kvG es2))),some (.fz (.list (lt.map ZoW))),some (.ol (fu2.map ZoW)),some (.fz (ZoW x)),u6]) (Zcn (Zql (k:=nk x) U.net rfl (Zab rfl))) ⟨es1,fu1,_,I1,(fun k n r hk=>by simp at hk),rfl⟩ ?st2 ?fin2
      case fin2 =>
       rintro _ ⟨es2,fu2,w6,I2,dn2,rfl⟩
       refine⟨es2,fu2,_,_,⟨I2.tree,I2.fin,I2.sub,?_,I2.len⟩,rfl⟩
       rw[Xj,Xap]at dn2;intro e m n r h1 h2 h3 h4 h5 h6;by_cases z:m=x
       ·subst z
        exact dn2 e n r ((h.leav m (e:Int)).mpr ⟨e,rfl,h1⟩) h2 h3 h4
       ·refine I2.done e m n r h1 h2 h3 h4 h5 ?_
        rw[hdr,XaK,Xf,not_or];exact⟨z,h6⟩
      case st2 =>
       rintro j d2 _ hd2 ⟨es2,fu2,w6,I2,dn2,rfl⟩
       have hj:j<((Zbx N.leav (nk x)).getD []).length:=by
        have:=(Xe.mp hd2).1
        simpa using this
       obtain⟨k,ek,tk⟩:=(h.leav x _).mp (XM hj)
       obtain rfl:d2=.int (k:Int):=by
        rw[Xi,XH hj]at hd2;rw[ek]at hd2;simpa using hd2.symm
       obtain⟨y,hy⟩:∃y,L[k/2]?=some y:=by
        unfold tlE at tk;cases z:L[k/2]? with
        |none=>rw[z]at tk;cases tk
        |some y=>exact⟨y,rfl⟩
       obtain⟨n,hn⟩:∃n,hdE L k=some n:=⟨_,by unfold hdE;rw[hy];rfl⟩
       obtain⟨r,hr'⟩:∃r,rmE L φ k=some r:=⟨_,by unfold rmE;rw[hy];rfl⟩
       have ra:atI (N.rooms.map PyData.int) (k:Int)=some (.int r):=Zcu (by rw[Xi,h.rooms,Ze5,hr'];rfl)
       have ea:atI (N.ends.map ZbF) (k:Int)=some (ZbF (nk n)):=Zcu (by rw[h.ends,XQ,Xi,ZjW,hn];rfl)
       have tks:((Zbx N.leav (nk x)).getD []).take (j+1)=((Zbx N.leav (nk x)).getD []).take j++[(k:Int)]:=by rw[Xau,XH hj,ek];rfl
       have bes:=bnd es2 I2.tree
       have ben:=I2.len
       refine⟨_,ZaB,?_⟩
       walk_at"d"
       have eend:∀{ρ:ZaZ},ρ[0]?=some (some (.zow (Zgq P w C N)))->ρ[6]?=some (some (.fz (.int (k:Int))))->EvE K (tOp (rIx K) (Zmn K (Zb8 0) "ends") (Zb8 6)) ρ (ZbF (nk n)):=fun e0 e6=>ZmL U.net e0 (Zab e6) ea
       refine Zga (b:=decide (r > 0) && !(ZjM (kvG es2) (nk n)).isSome) (Zh5 (Zco (Zfs (Zi2 U.net rfl (Zab rfl) ra) Zay)) (fun _=>ZiK (Zmv (eend rfl rfl) rfl))) (fun c=>?_) (fun c=>Zb1 ?_)
       ·rw[Zj7]at c
        have c1:r > 0:=XD (XaU.mp c).1
        have c2:n∉ZaC es2:=by simpa using (XaU.mp c).2
        refine Zaq (ZpF rfl (Zab rfl) (eend rfl rfl) (by rw[show(kvG es2).length=es2.length from Xj _];exact ZaO (by omega)) ?_)
        walk_at"d"
        rw[Zpf c2];refine Zeh (ds:=fu2.map ZoW) rfl (eend rfl rfl) (by rw[Xj];omega) ?_
        walk_at"d"
        have km:x∈ZaC es2:=I2.sub x (sb x (List.mem_of_mem_drop (by rw[hdr];exact Xb)))
        refine⟨es2++[(n,some k)],fu2++[n],_,⟨I2.tree.add c2 hn tk km hr' c1,fun z hz=>?_,fun z hz=>Zce.mpr (.inl (I2.sub z hz)),?_,by simp;omega⟩,fun k' n' r' hk' q1 q2 q3=>?_,by rw[Xz];rfl⟩
        ·rcases XI.mp hz with hz|hz
         ·exact Zce.mpr (.inl (I2.fin z hz))
         ·exact Zce.mpr (.inr (by simpa using hz))
        ·exact I2.done.add n (some k)
        ·rw[tks]at hk'
         rcases XI.mp hk' with z|z
         ·exact Zce.mpr (.inl (dn2 k' n' r' z q1 q2 q3))
         ·have:k'=k:=by have:=Xm.mp z;omega
          subst this;rw[hn]at q1;cases q1
          exact Zce.mpr (.inr rfl)
       ·rw[Zj7]at c
        refine⟨es2,fu2,_,I2,fun k' n' r' hk' q1 q2 q3=>?_,rfl⟩
        rw[tks]at hk';rcases XI.mp hk' with z|z
        ·exact dn2 k' n' r' z q1 q2 q3
        ·have:k'=k:=by have:=Xm.mp z;omega
         subst this;rw[hn]at q1;rw[hr']at q2;cases q1
         cases q2
         apply Classical.byContradiction
         intro hq;have q3':r > 0:=q3
         simp[q3',hq]at c
    ·have hlt:lt=[]:=by
      cases lt with
      |nil=>rfl
      |cons a b=>cases c
     subst hlt;exact ZoI rfl ⟨v,es,rfl,tr,dn.closed⟩
def ZlR (w:List Nat):List PyData:=w.map fun(e:Nat)=>PyData.int (e:Int)
theorem Zj9 {L:Lay Nd}{es:Got Nd}{n:Nd}{w:List Nat}(b:Back L es n w):ZjM (kvG es) (nk n)=some (ZsE w.head?):=by
 rw[ZhK];cases b with
 |nil h=>rw[h];rfl
 |cons h t b=>rw[h];rfl
theorem ZtQ {L:Lay Nd}{φ:Phi Nd}{e:Nat}{r:Int}(h:rmE L φ e=some r):e<2*L.length:=by
 unfold rmE at h;cases z:L[e/2]? with
 |none=>rw[z]at h;cases h
 |some x=>have:=(Xe.mp z).1;omega
theorem ZmA {L:Lay Nd}{φ:Phi Nd}{s n:Nd}{es:Got Nd}{w:List Nat}(q:WayOk L φ s es n w):w.length<=2*L.length:=by
 have:=ZgH (ys:=List.range (2*L.length)) q.nodup fun e he=>by
  obtain⟨r,hr,_⟩:=q.room e he
  exact Xl.mpr (ZtQ hr)
 simpa using this
inductive R_way (P:Program)(w:World)(C:Addr):List OT->(OT->Prop)->Prop
 |mk {N:NetS} {L:Lay Nd} {φ:Phi Nd} {s n:Nd} {es:Got Nd} {wy:List Nat} (h:NetR N L φ) (l:L.length<400) (q:WayOk L φ s es n wy):R_way P w C [.zow (Zgq P w C N),.zow (Zrr (kvG es)),.fz (ZbF (nk n))] (fun r=>r=.ol (ZlR wy))
theorem ZcQ:FnScope ["self", "edges", "end", "way", "edge"] ["self", "edges", "end"] (Zaf ZbB):=by walk_at"p"
theorem ZtV (T:Bl mg) (U:Tx K mg C gS gE) (D:Mf K C "way_to" "Net.way_to" ZbB ["self", "edges", "end"]):Zi0 P w K mg base C "way_to" ["self", "edges", "end"] 1 (spD K (R_way P w C)):=by
 refine D.evD ZcQ (fun ts Φ h=>by cases h;rfl) (fun _ _ _ _ s H E ts Φ hr h=>?_)
 cases h with
 |@mk N L φ s' n es wy h l q =>
   refine⟨_,(Zae (Zar (i:=3) ZcQ.nd rfl (Or.inl rfl) (ZbL Zad))
 (Zae (Zar (i:=4) ZcQ.nd rfl (Or.inl rfl) (Zk0 (ZgQ hr) (pv 1) (pv 2) (fun _ _=>rfl)))
 (Zae (Zcj PassesOwn.never (Zfp (Zit (pv 4))) (Zae (Zbb (Zgb PySem.F.plainAttrs_list PySem.F.slot_list_append PySem.F.type_list_append ZbA (pv 3) (Zaa (pv 4) Zad)))
 (Zai (Zar (i:=4) ZcQ.nd rfl (Or.inl rfl) (Zk0 (ZgQ hr) (pv 1) (Zav Zal (Zcy (pv 0) rfl) (Zat Zn5 (pv 4) Zah) (fun _ _=>rfl)) (fun _ _=>rfl))))))
 (Zai (Zax (pv 3)))))),?_⟩
   show EvS K _ [some _,some _,some _,none,none] _
   walk_at"x"
   have wl:=ZmA q
   refine Zaq (ZbP (Zdp (ds:=[]) ZaU (by decide)) ?_)
   walk_at"d"
   refine Zaq (ZaT (ZnG rfl (Zab rfl) (Zj9 q.back)) ?_)
   walk_at"d"
   refine Zaq (Zc6 (fun m ρ'=>∃(dn rs:List Nat) (n':Nd),m=rs.length/\dn++rs=wy/\Back L es n' rs/\ρ'=[some (.zow (Zgq P w C N)),some (.zow (Zrr (kvG es))),some (.fz (ZbF (nk n))),some (.ol (ZlR dn)),some (.fz (ZsE rs.head?))]) wy.length ⟨[],wy,n,rfl,rfl,q.back,rfl⟩ ?ws)
   case ws =>
    rintro m _ ⟨dn,rs,n',rfl,hw,b,rfl⟩
    refine⟨_,ZiK (Zgv (Zab rfl)),fun c=>?_,fun c=>?_⟩
    ·cases b with
     |nil h0=>cases c
     |@cons _ m' e rs' h0 t0 b0 =>
       have dl:dn.length<1000:=by
        have:=Xaf List.length hw
        rw[Xt]at this;omega
       refine Zaq (Zeh (ds:=ZlR dn) (d:=.int (e:Int)) rfl (Zab rfl) (by unfold ZlR;rw[Xj];exact dl) ?_)
       walk_at"d"
       have ea:atI (N.ends.map ZbF) (Builtin.bitXor (e:Int) 1)=some (ZbF (nk m')):=by
        rw[ZeQ];exact Zcu (by rw[h.ends,XQ,Xi,Zov,t0];rfl)
       refine ZaT (ZnG rfl (ZmL U.net rfl (ZdC (g:=Builtin.bitXor) (Zab rfl) Zay) ea) (Zj9 b0)) ?_
       walk_at"d"
       refine⟨rs'.length,XaE _,dn++[e],rs',m',rfl,by rw[<- hw,Xav];rfl,b0,?_⟩
       unfold ZlR;rw[Xz];rfl
    ·have:rs=[]:=by
      cases rs with
      |nil=>rfl
      |cons a b=>cases c
     subst this;rw[X4]at hw;subst hw;exact ZhR rfl rfl
def amt (L:Lay Nd)(φ:Phi Nd)(w:List Nat):Int:=ZkI (w.map fun e=>(rmE L φ e).getD 0)
inductive R_push:NetS->List OT->(NetS->Prop)->Prop
 |mk {N:NetS} {L:Lay Nd} {φ:Phi Nd} {wy:List Nat} (h:NetR N L φ) (hd:Dis L) (ne:wy≠[]) (hin:∀e∈wy,∃r,rmE L φ e=some r) (hl:wy.length<900):R_push N [.fz (.list (ZlR wy))] (fun N'=>NetR N' L (Zg5 L (amt L φ wy) φ wy))
theorem NetR.rm {N:NetS}{L:Lay Nd}{φ:Phi Nd}(h:NetR N L φ){e:Nat}(he:e<2*L.length):∃r,N.rooms[e]?=some r/\(Zcp L φ)[e]?=some r:=by
 have:e<(Zcp L φ).length:=by rw[Zf2];exact he
 exact⟨(Zcp L φ)[e],by rw[h.rooms,XH this],XH this⟩
theorem NetR.push {N:NetS}{L:Lay Nd}{φ:Phi Nd}(h:NetR N L φ)(hd:Dis L){a r r':Int}{e:Nat}(h1:(Zcp L φ)[e]?=some r)(h2:(Zcp L φ)[Zfl e]?=some r'):NetR { N with rooms:=(N.rooms.set e (r-a)).set (Zfl e) (r'+a) } L (Ze7 L a φ e) :=
 ⟨h.ends,by show(N.rooms.set e (r-a)).set (Zfl e) (r'+a)=_;rw[h.rooms,ZlZ hd h1 h2],h.leav,h.laid,h.laid0,h.l1,h.l2,h.l3⟩
theorem ZlT {L:Lay Nd}{a:Int}{φ:Phi Nd}{wy:List Nat}{i e:Nat}(h:wy[i]?=some e):Zg5 L a φ (wy.take (i+1))=Ze7 L a (Zg5 L a φ (wy.take i)) e:=by
 have t:wy.take (i+1)=wy.take i++[e]:=by rw[Xau,h];rfl
 rw[t];unfold Zg5;rw[Xbp];rfl
theorem ZeW:FnScope ["self", "way", "amount", "edge"] ["self", "way"] (Zaf Zcg):=by walk_at"p"
theorem Zrh (T:Bl mg) (U:Tx K mg C gS gE) (D:Mf K C "push" "Net.push" Zcg ["self", "way"]):Zi0 P w K mg base C "push" ["self", "way"] 1 (spN K P w C R_push):=by
 refine D.evN ZeW (fun M ts Ψ h=>by cases h;rfl) (fun f cdv A outer s H E v M ts Ψ hr h=>?_)
 cases h with
 |@mk L φ wy h hd ne hin hl =>
   refine⟨_,(Zae (Zar (i:=2) ZeW.nd rfl (Or.inl rfl) (Zaz ZnA (by rfl) T.min ZhB (Zaa (Zfv (NX:=["self", "way", "amount", "edge"]) (sc:=Zaf Zcg) (N:=["edge", "self"]) (f:=[none,some 0]) rfl (by decide +kernel) rfl rfl (ZbM (pv 1)) (fun _=>(Zao (i:=0) (show(["edge", "self"]:List Str).Nodup by decide +kernel) rfl (Or.inl rfl))) (fun _=>ZaX) (fun _=>Zb2) (fun _=>(Zav Zal (Zcy (pv 1) rfl) (pv 0) (fun _ _=>rfl)))) Zad)))
 (Zai (Zbp PassesOwn.never rfl (ZbM (pv 1)) (Zao (i:=3) ZeW.nd rfl (Or.inl rfl)) (Zae (Ziw (Zcy (pv 0) rfl) (pv 3) Zgn (pv 2) Ztw ZdJ)
 (Zai (Ziw (Zcy (pv 0) rfl) (Zat Zn5 (pv 3) Zah) Zgn (pv 2) ZnR ZdJ)))))),?_⟩
   show EvS K _ [some _,some _,none,none] _
   walk_at"x"
   refine Zaq (ZaT (d:=.int (amt L φ wy)) (ZlF 0 rfl rfl (Zna (ns:=wy.map fun e=>(rmE L φ e).getD 0) (EvE.cast (EvO.fz (ZeZ (xs:=wy) (enc:=fun(e:Nat)=>PyData.int (e:Int)) (h:=fun e=>.int ((rmE L φ e).getD 0)) ?ei (by omega) ?el)) (by rw[XQ];rfl)) rfl (fun z=>ne (List.map_eq_nil_iff.mp z)))) ?_)
   case ei=>exact Zcn (Zab rfl)
   case el =>
    intro e he c;refine⟨_,ZaB,?_⟩
    walk_at"e"
    obtain⟨r,hr'⟩:=hin e he
    refine EvE.cast (Zi2 (N:=M) (m:=r) U.net rfl (Zab rfl) ?_) (by rw[hr'];rfl)
    exact Zcu (by rw[Xi,h.rooms,Ze5,hr'];rfl)
   walk_at"d"
   generalize amt L φ wy=a;refine ZeF (ds:=ZlR wy) (fun i ρ'=>∃(N':NetS) (u3:Option OT),NetR N' L (Zg5 L a φ (wy.take i))/\ρ'=[some (.own v (Zc7 P w C N')),some (.fz (.list (ZlR wy))),some (.fz (.int a)),u3]) (Zcn (Zab rfl)) ⟨M,_,h,rfl⟩ ?st ?fin
   case fin =>
    rintro _ ⟨N',u3,hN,rfl⟩
    unfold ZlR at hN;rw[Xj,Xap]at hN;exact⟨N',hN,rfl⟩
   case st =>
    rintro i d _ hd' ⟨N',u3,hN,rfl⟩
    have hi:i<wy.length:=by
     have:=(Xe.mp hd').1
     unfold ZlR at this;simpa using this
    obtain rfl:d=.int (wy[i]:Int):=by
     unfold ZlR at hd';simpa [hi] using hd'.symm
    obtain⟨r0,hr0⟩:=hin wy[i] (XM hi)
    have el:=ZtQ hr0
    rw[ZlT (XH hi)];generalize wy[i]=e at el;have em:Zfl e<2*L.length:=by unfold Zfl;split<;>omega
    have me:Zfl e≠e:=by unfold Zfl;split<;>omega
    obtain⟨r,h1,h2⟩:=My.NetR.rm hN el
    obtain⟨r',h3,h4⟩:=My.NetR.rm hN em
    refine⟨_,ZaB,?_⟩
    walk_at"d"
    refine Zaq (ZiP (N:=N') (f:=fun i j=>i-j) (k:=(e:Int)) (m:=r) (n:=a) U.net rfl (Zab rfl) (by omega) (by rw[Xn];exact h1) (Zab rfl) ?_)
    walk_at"d"
    rw[Xn];refine ZiP (f:=fun i j=>i+j) (k:=(Zfl e:Int)) (m:=r') (n:=a) U.net rfl (EvE.cast (ZdC (g:=Builtin.bitXor) (Zab rfl) Zay) (by rw[ZeQ])) (by omega) (by rw[Xn];show(N'.rooms.set e (r-a))[Zfl e]?=_;rw[XU (Ne.symm me)];exact h3) (Zab rfl) ?_
    walk_at"d"
    rw[Xn];exact⟨_,_,My.NetR.push hN hd h2 h4,rfl⟩
inductive R_fill:NetS->List OT->(NetS->Prop)->Prop
 |mk {N:NetS} {y:Yd} {G:Gv} {φ:Phi Nd} (h:NetR N (ZcI y G) φ) (F:Flow y G φ) (l:(ZcI y G).length<400):R_fill N [.fz (ZbF (nk .start)),.fz (ZbF (nk .fin))] (fun N'=>∃φ' es,NetR N' (ZcI y G) φ'/\Flow y G φ'/\Nd.start∈ZaC es/\ZcL (ZcI y G) φ' es/\Nd.fin∉ZaC es)
theorem ZeO:FnScope ["self", "start", "end", "edges"] ["self", "start", "end"] (Zaf Zcz):=by walk_at"p"
theorem ZrZ (T:Bl mg) (U:Tx K mg C gS gE) (D:Mf K C "fill" "Net.fill" Zcz ["self", "start", "end"]) (XbE:Zi0 P w K mg base C "reached" ["self", "start"] 1 (spD K (R_reached P w C))) (Xb2:Zi0 P w K mg base C "push" ["self", "way"] 1 (spN K P w C R_push)) (Xb3:Zi0 P w K mg base C "way_to" ["self", "edges", "end"] 1 (spD K (R_way P w C))) :
 Zi0 P w K mg base C "fill" ["self", "start", "end"] 2 (spN K P w C R_fill):=by
 refine D.evN ZeO (fun M ts Ψ h=>by cases h;rfl) (fun f cdv A outer s H E v M ts Ψ hr h=>?_)
 cases h with
 |@mk y G φ h F l =>
   refine⟨_,(Zae (Zar (i:=3) ZeO.nd rfl (Or.inl rfl) (Zc2 XbE U.net hr (pv 0) (Zaa (pv 1) Zad) (hj:=by walk_at"j")))
 (Zai (Zcj PassesOwn.never (Zfp (Zq6 (ZgQ hr) (pv 2) (pv 3))) (Zae (Zbb (Zc2 Xb2 U.net hr (pv 0) (Zaa (Zc2 Xb3 U.net hr (pv 0) (Zaa (pv 3) (Zaa (pv 2) Zad)) (hj:=by walk_at"j")) Zad) (hj:=by walk_at"j")))
 (Zai (Zar (i:=3) ZeO.nd rfl (Or.inl rfl) (Zc2 XbE U.net hr (pv 0) (Zaa (pv 1) Zad) (hj:=by walk_at"j")))))))),?_⟩
   show EvS K _ [some _,some _,some _,none] _
   walk_at"x"
   have ZdY:∀{M:NetS} {φ:Phi Nd} {u:Option OT} {E':XK},NetR M (ZcI y G) φ->EvD K (Zmr C "reached" (spD K (R_reached P w C)) [] E' (Zb8 0) (ZaM (Zb8 1) Zd8)) [some (.own v (Zc7 P w C M)),some (.fz (ZbF (nk .start))),some (.fz (ZbF (nk .fin))),u] (fun r=>∃v' es,r=.own v' (Zik (kvG es))/\Tree (ZcI y G) φ .start es/\ZcL (ZcI y G) φ es):=fun h' =>
    ZfC 0 rfl (fun r ⟨v',es,e,_⟩=>by subst e;exact ZpN (Zpy es)) (Zi4 ZgJ rfl (Zac (Zab rfl) Zan) (R_reached.mk h' l))
   refine Zaq (Zd6 (ZdY h) (fun r hr'=>?_))
   obtain⟨v3,es,rfl,tr,cl⟩:=hr'
   walk_at"d"
   refine Zc6 (fun m ρ'=>∃(M:NetS) (φ:Phi Nd) (es:Got Nd) (v3:V),NetR M (ZcI y G) φ/\Flow y G φ/\Tree (ZcI y G) φ .start es/\ZcL (ZcI y G) φ es/\m=(Zas G.wa G.m-ZhY (ZcI y G) φ .start).toNat /\
    ρ'=[some (.own v (Zc7 P w C M)),some (.fz (ZbF (nk .start))),some (.fz (ZbF (nk .fin))),some (.own v3 (Zik (kvG es)))]) _ ⟨M,φ,es,v3,h,F,tr,cl,rfl,rfl⟩ ?ws
   clear tr cl es v3 h F;rintro m _ ⟨M,φ,es,v3,h,F,tr,cl,rfl,rfl⟩
   refine⟨_,ZiK (Zrg (k:=nk .fin) (Zab rfl) rfl),fun c=>?_,fun c=>?_⟩
   ·rw[Zj7]at c
    obtain⟨wy,q⟩:=tr.way .fin (XD c)
    have wl:=ZmA q
    have wne:wy≠[]:=fun z=>by
     have:=q.chain
     rw[z]at this;cases this
    refine ZkX 3 rfl ?_
    walk_at"d"
    refine Zaq (Zdn (ΦA:=fun ts=>ts=[.fz (.list (ZlR wy))]) Zqp rfl (ZsR (Φ:=fun r=>r=.ol (ZlR wy)) (ZfC 0 rfl (fun r e=>by subst e;exact Zrq (fun d hd=>by
     obtain⟨e,_,rfl⟩:=Xx.mp hd
     exact⟨_,rfl⟩)) (Zi4 Zsy rfl (ZqV rfl (Zac (Zab rfl) Zan)) (R_way.mk h l q))) (fun r e=>⟨_,e,rfl⟩)) (fun ts hts=>?_))
    subst hts;refine⟨_,R_push.mk h (Zgp y G) wne (fun e he=>let ⟨r,a,_⟩:=q.room e he;⟨r,a⟩) (by omega),fun N' hN=>?_⟩
    walk_at"d"
    obtain⟨m1,m2⟩:=Zfn (ns:=wy.map fun e=>(rmE (ZcI y G) φ e).getD 0) (fun z=>wne (List.map_eq_nil_iff.mp z))
    have a0:0<amt (ZcI y G) φ wy:=by
     obtain⟨e,he,ee⟩:=Xx.mp m1
     obtain⟨r,hr1,hr2⟩:=q.room e he
     rw[hr1]at ee;show 0<ZkI _
     rw[<- ee];exact hr2
    obtain⟨F',nd⟩:=F.push (a:=amt (ZcI y G) φ wy) (by omega) q.chain q.nodup (fun e he=>by
     obtain⟨r,hr1,_⟩:=q.room e he
     refine⟨r,hr1,?_⟩
     have:=m2 _ (Xx.mpr ⟨e,he,rfl⟩)
     rw[hr1]at this;exact this)
    refine Zd6 (ZdY hN) (fun r hr'=>?_)
    obtain⟨v4,es',rfl,tr',cl'⟩:=hr'
    walk_at"d"
    refine⟨_,?_,N',_,es',v4,hN,F',tr',cl',rfl,rfl⟩
    have:=F'.most
    rw[nd]at this ⊢;omega
   ·rw[Zj7]at c
    exact⟨M,⟨φ,es,h,F,tr.start,cl,X5 c⟩,rfl⟩
structure GOk (y:Yd)(g:Gs):Prop where
 ln:g.line<y.ls.length
 w0:0<=g.want
 m0:0<=g.most
def Zbi (gs:List Gs):Gv:={ m:=gs.length,ln:=fun k=>(gs.getD k default).line,wa:=fun k=>(gs.getD k default).want,mo:=fun k=>(gs.getD k default).most,th:=fun k t=>ZaY (gs.getD k default) (t:Int) }
theorem Zdd {gs:List Gs}{k:Nat}(h:k<gs.length):gs.getD k default=gs[k]:=by simp[List.getD,h]
theorem ZpW (y:Yd)(G:Gv)(k:Nat):(ZgA y G k).length<=1+y.T:=by
 unfold ZgA;rw[XW];have:∀n,((List.range n).flatMap fun t=>if G.th k t=true then [((.guest k,.line (G.ln k) t,G.mo k):Nd×Nd×Int)] else []).length<=n:=by
  intro n;induction n with
  |zero=>simp
  |succ n ih =>
    rw[Xah,Xan,Xt];have:([n].flatMap fun t=>if G.th k t=true then [((.guest k,.line (G.ln k) t,G.mo k):Nd×Nd×Int)] else []).length<=1:=by
     simp only[Xa8,List.flatMap_nil,X4];split<;>simp
    omega
 have:=this y.T
 omega
theorem Zqq {y:Yd}(h:1<=y.ls.length)(t:Nat):(ZiD y t).length=y.ls.length:=by
 unfold ZiD;rw[XW];have:∀n,((List.range n).flatMap fun i=>[((.line (i+1) t,.line (Mir.upN y (i+1)) t,Za9 y (i+1) t):Nd×Nd×Int)]).length=n:=by
  intro n;induction n with
  |zero=>simp
  |succ n ih=>rw[Xah,Xan,Xt,ih];simp
 rw[this];omega
theorem Zfi {f:Nat->Lay Nd}{c:Nat}(h:∀k,(f k).length<=c):∀n,((List.range n).flatMap f).length<=n*c
 |0=>by simp
 |n+1=>by
   rw[Xah,Xan,Xt];have a:=Zfi h n
   have b:([n].flatMap f).length<=c:=by simpa using h n
   rw[Nat.add_mul];omega
theorem Zew (f:Nat->Lay Nd)(n:Nat):(List.range (n+1)).flatMap f=(List.range n).flatMap f++f n:=by rw[Xah,Xan];simp
theorem Zi5 {f:Nat->Lay Nd}{n:Nat}{x:Nd×Nd×Int}:x∈(List.range n).flatMap f ↔ ∃k,k<n/\x∈f k:=by
 rw[Xam];simp only[Xl]
theorem Ze4 {y:Yd}(ok:y.Ok)(G:Gv){n:Nat}(h:n<=8):((List.range n).flatMap (ZgA y G)).length<=72:=by
 have a:=Zfi (f:=ZgA y G) (c:=9) (fun k=>by have:=ZpW y G k;have:=ok.t8;omega) n
 omega
theorem ZgX {y:Yd}(ok:y.Ok){n:Nat}(h:n<=8):((List.range n).flatMap (ZiD y)).length<=40:=by
 have a:=Zfi (f:=ZiD y) (c:=5) (fun k=>by rw[Zqq ok.l1 k];exact ok.l5) n
 omega
inductive R_gnode:List OT->OT->Prop
 |mk {k:Nat}:R_gnode [.fz (.int (k:Int))] (.fz (ZbF (nk (.guest k))))
theorem Zir:FnScope ["number"] ["number"] (Zaf Zeg):=by walk_at"p"
theorem Zqb (T:Bl mg) (D:Df K mg "guest_node" Zeg ["number"]):Cal P w K mg base "guest_node" ["number"] 1 (spO (K:=K) R_gnode):=by
 refine D.ev Zir (fun ts r h=>by cases h;rfl) (fun _ _ _ _ s H E ts r hr h=>?_)
 cases h with
 |@mk k =>
   refine⟨_,(Zai (Zax (ZbK (Zaa Zq9 (Zaa (pv 0) Zad))))),?_⟩
   show EvS K _ [some _] _
   walk_at"x"
   exact Zbs (ZdV (ds:=[.str "guest",.int (k:Int)]) (ZaJ Zq1 (ZaJ (Zab rfl) ZaU)) ZoX) rfl
inductive R_lnode:List OT->OT->Prop
 |mk {l t:Nat}:R_lnode [.fz (.int (l:Int)),.fz (.int (t:Int))] (.fz (ZbF (nk (.line l t))))
theorem ZjH:FnScope ["line", "turn"] ["line", "turn"] (Zaf ZeT):=by walk_at"p"
theorem ZoZ (T:Bl mg) (D:Df K mg "line_node" ZeT ["line", "turn"]):Cal P w K mg base "line_node" ["line", "turn"] 1 (spO (K:=K) R_lnode):=by
 refine D.ev ZjH (fun ts r h=>by cases h;rfl) (fun _ _ _ _ s H E ts r hr h=>?_)
 cases h with
 |@mk l t =>
   refine⟨_,(Zai (Zax (ZbK (Zaa Zq9 (Zaa (pv 0) (Zaa (pv 1) Zad)))))),?_⟩
   show EvS K _ [some _,some _] _
   walk_at"x"
   exact Zbs (ZdV (ds:=[.str "line",.int (l:Int),.int (t:Int)]) (ZaJ Zq1 (ZaJ (Zab rfl) (ZaJ (Zab rfl) ZaU))) (by show(3:Nat)<=1000;decide)) rfl
inductive R_lguest:NetS->List OT->(NetS->Prop)->Prop
 |mk {N:NetS} {y:Yd} {gs:List Gs} {k:Nat} (ok:y.Ok) (g8:gs.length<=8) (hk:k<gs.length) (h:NetR N ((List.range k).flatMap (ZgA y (Zbi gs))) ZgE) :
  R_lguest N [.fz (eYd y),.fz (.int (k:Int)),.fz (eGs gs[k])] (fun N'=>NetR N' ((List.range (k+1)).flatMap (ZgA y (Zbi gs))) ZgE)
theorem ZfN:FnScope ["net", "yard", "number", "guest", "turn"] ["net", "yard", "number", "guest"] (Zaf ZeL):=by walk_at"p"
theorem Zot (T:Bl mg) (U:Tx K mg C gS gE) (D:Df K mg "lay_guest" ZeL ["net", "yard", "number", "guest"]) (XbB:Zi0 P w K mg base C "lay" ["self", "start", "end", "room"] 2 (spN K P w C R_lay)) (Xbu:Cal P w K mg base "want_of" ["guest"] 1 (spO (K:=K) R_want)) (Xby:Cal P w K mg base "guest_node" ["number"] 1 (spO (K:=K) R_gnode))
 (Xbt:Cal P w K mg base "turns_of" ["yard"] 1 (spO (K:=K) R_turns)) (XbG:Cal P w K mg base "is_there" ["guest", "turn"] 1 (spO (K:=K) R_there)) (XbH:Cal P w K mg base "most_of" ["guest"] 1 (spO (K:=K) R_most)) (Xbv:Cal P w K mg base "line_node" ["line", "turn"] 1 (spO (K:=K) R_lnode)) (XbA:Cal P w K mg base "line_of" ["guest"] 1 (spO (K:=K) R_lineof)) :
 Cal P w K mg base "lay_guest" ["net", "yard", "number", "guest"] 3 (spN K P w C R_lguest):=by
 refine D.evN ZfN (fun M ts Ψ h=>by cases h;rfl) (fun f cdv A outer s H E v M ts Ψ hr h=>?_)
 cases h with
 |@mk y gs k ok g8 hk h =>
   refine⟨_,(Zae (Zbb (Zc2 XbB U.net hr (pv 0) (Zaa (Zgx (v:=.ref _) rfl U.mSTART rfl) (Zaa (Zap Xby hr (Zaa (pv 2) Zad) (hj:=by walk_at"j")) (Zaa (Zap Xbu hr (Zaa (pv 3) Zad) (hj:=by walk_at"j")) Zad))) (hj:=by walk_at"j")))
 (Zai (Zbp PassesOwn.never rfl (ZaQ rfl T.range (Zaa (Zap Xbt hr (Zaa (pv 1) Zad) (hj:=by walk_at"j")) Zad)) (Zao (i:=4) ZfN.nd rfl (Or.inl rfl)) (Zai (ZdZ (ZgD (Zap XbG hr (Zaa (pv 3) (Zaa (pv 4) Zad)) (hj:=by walk_at"j"))) (Zai (Zbb (Zc2 XbB U.net hr (pv 0) (Zaa (Zap Xby hr (Zaa (pv 2) Zad) (hj:=by walk_at"j")) (Zaa (Zap Xbv hr (Zaa (Zap XbA hr (Zaa (pv 3) Zad) (hj:=by walk_at"j")) (Zaa (pv 4) Zad)) (hj:=by walk_at"j")) (Zaa (Zap XbH hr (Zaa (pv 3) Zad) (hj:=by walk_at"j")) Zad))) (hj:=by walk_at"j")))) Zb3))))),?_⟩
   show EvS K _ [some _,some _,some _,some _,none] _
   walk_at"x"
   have t8:=ok.t8
   have gl:=Ze4 ok (Zbi gs) (n:=k) (by omega)
   have gk:=Zdd hk
   have ew:(Zbi gs).wa k=gs[k].want:=by show(gs.getD k default).want=_;rw[gk]
   have glb:∀x∈(List.range k).flatMap (ZgA y (Zbi gs)),∃j,j<k/\x∈ZgA y (Zbi gs) j:=fun x hx=>Zi5.mp hx
   refine Zaq (Zdn (ΦA:=fun ts=>ts=[.fz (ZbF (nk .start)),.fz (ZbF (nk (.guest k))),.fz (.int gs[k].want)]) ZiC rfl (Zfo (Zac (Ziy U.aS) (Zac (Za0 (Zac (Zab rfl) Zan) R_gnode.mk) (Zac (Za0 (Zac (Zab rfl) Zan) R_want.mk) Zan))) rfl) (fun ts hts=>?_))
   subst hts;refine⟨_,R_lay.mk h ?n0 (by omega),fun N1 hN1=>?_⟩
   case n0 =>
    intro hm;obtain⟨x,hx,ex⟩:=Xx.mp hm
    obtain⟨j,hj,hx⟩:=glb x hx
    injection ex with e1 e2
    rcases Zcs.mp hx with rfl|⟨t,_,_,rfl⟩
    ·injection e2 with e2
     omega
    ·cases e1
   walk_at"d"
   refine ZeF (ds:=ZfX 0 y.T) (fun i ρ'=>∃(N':NetS) (u4:Option OT),NetR N' ((List.range k).flatMap (ZgA y (Zbi gs))++((.start,.guest k,(Zbi gs).wa k)::(List.range i).flatMap fun t=>if (Zbi gs).th k t=true then [(.guest k,.line ((Zbi gs).ln k) t,(Zbi gs).mo k)] else [])) ZgE /\
    ρ'=[some (.own v (Zc7 P w C N')),some (.fz (eYd y)),some (.fz (.int (k:Int))),some (.fz (eGs gs[k])),u4]) ?ei ⟨N1,none,by rw[ew];exact hN1,rfl⟩ ?st ?fin
   case ei=>exact EvI.cast (ZbQ (Zac (Za0 (Zac (Zab rfl) Zan) R_turns.mk) Zan) (by rw[z62];omega) (by rw[z62];omega)) (ZbW rfl (by omega))
   case fin =>
    rintro _ ⟨N',u4,hN,rfl⟩
    rw[Zcl]at hN;refine⟨N',?_,rfl⟩
    rw[Zew];exact hN
   case st =>
    rintro t d _ hd ⟨N',u4,hN,rfl⟩
    obtain⟨ht,rfl⟩:=Zb6 hd
    rw[Xao];refine⟨_,ZaB,?_⟩
    walk_at"d"
    have et:ZaY gs[k] (t:Int)=(Zbi gs).th k t:=by show _=ZaY (gs.getD k default) (t:Int);rw[gk]
    refine Zga (b:=(Zbi gs).th k t) (EvT.cast (ZiK (Za0 (Zac (Zab rfl) (Zac (Zab rfl) Zan)) R_there.mk)) et) (fun c=>?_) (fun c=>Zb1 ?_)
    ·refine Zdn (ΦA:=fun ts=>ts=[.fz (ZbF (nk (.guest k))),.fz (ZbF (nk (.line gs[k].line t))),.fz (.int gs[k].most)]) ZiC rfl (Zfo (Zac (Za0 (Zac (Zab rfl) Zan) R_gnode.mk) (Zac (Za0 (Zac (Za0 (Zac (Zab rfl) Zan) R_lineof.mk) (Zac (Zab rfl) Zan)) R_lnode.mk) (Zac (Za0 (Zac (Zab rfl) Zan) R_most.mk) Zan))) rfl) (fun ts hts=>?_)
     subst hts;refine⟨_,R_lay.mk hN ?n1 ?l1,fun N2 hN2=>?_⟩
     case n1 =>
      intro hm;obtain⟨x,hx,ex⟩:=Xx.mp hm
      injection ex with e1 e2
      rcases XI.mp hx with hx|hx
      ·obtain⟨j,hj,hx⟩:=glb x hx
       rcases Zcs.mp hx with rfl|⟨t',_,_,rfl⟩
       ·cases e1
       ·injection e1 with e1
        omega
      ·rcases Xf.mp hx with rfl|hx
       ·cases e1
       ·obtain⟨t',ht',hx⟩:=Xam.mp hx
        split at hx
        ·rw[Xm.mp hx]at e2
         injection e2 with _ e2
         have:=Xl.mp ht'
         omega
        ·cases hx
     case l1 =>
      rw[Xt];have:(((.start,.guest k,(Zbi gs).wa k):Nd×Nd×Int)::(List.range t).flatMap fun t=>if (Zbi gs).th k t=true then [((.guest k,.line ((Zbi gs).ln k) t,(Zbi gs).mo k):Nd×Nd×Int)] else []).length<=1+t*1:=by
       rw[XW];have:=Zfi (f:=fun t=>if (Zbi gs).th k t=true then [((.guest k,.line ((Zbi gs).ln k) t,(Zbi gs).mo k):Nd×Nd×Int)] else []) (c:=1) (fun t=>by split<;>simp) t
       omega
      omega
     walk_at"d"
     refine⟨N2,_,?_,rfl⟩
     rw[Zew,Xc c];have e1:(Zbi gs).ln k=gs[k].line:=by show(gs.getD k default).line=_;rw[gk]
     have e2:(Zbi gs).mo k=gs[k].most:=by show(gs.getD k default).most=_;rw[gk]
     rw[<- e1,<- e2,Xav]at hN2;exact hN2
    ·refine⟨N',_,?_,rfl⟩
     rw[Zew,Xa (by rw[c];decide),X4];exact hN
inductive R_lturn:NetS->List OT->(NetS->Prop)->Prop
 |mk {N:NetS} {y:Yd} {G:Gv} {t:Nat} (ok:y.Ok) (g8:G.m<=8) (ht:t<y.T) (h:NetR N ((List.range G.m).flatMap (ZgA y G)++(List.range t).flatMap (ZiD y)) ZgE) :
  R_lturn N [.fz (eYd y),.fz (.int (t:Int))] (fun N'=>NetR N' ((List.range G.m).flatMap (ZgA y G)++(List.range (t+1)).flatMap (ZiD y)) ZgE)
theorem Zgz:FnScope ["net", "yard", "turn", "line"] ["net", "yard", "turn"] (Zaf ZfH):=by walk_at"p"
theorem Zqj (T:Bl mg) (U:Tx K mg C gS gE) (D:Df K mg "lay_turn" ZfH ["net", "yard", "turn"]) (XbB:Zi0 P w K mg base C "lay" ["self", "start", "end", "room"] 2 (spN K P w C R_lay)) (Xbx:Cal P w K mg base "bound_at" ["yard", "line", "turn"] 1 (spO (K:=K) R_bound)) (Xbv:Cal P w K mg base "line_node" ["line", "turn"] 1 (spO (K:=K) R_lnode))
 (XbD:Cal P w K mg base "line_count" ["yard"] 1 (spO (K:=K) R_count)) (XbI:Cal P w K mg base "above_of" ["yard", "line"] 1 (spO (K:=K) R_above)):Cal P w K mg base "lay_turn" ["net", "yard", "turn"] 3 (spN K P w C R_lturn):=by
 refine D.evN Zgz (fun M ts Ψ h=>by cases h;rfl) (fun f cdv A outer s H E v M ts Ψ hr h=>?_)
 cases h with
 |@mk y G t ok g8 ht h =>
   refine⟨_,(Zae (Zbb (Zc2 XbB U.net hr (pv 0) (Zaa (Zap Xbv hr (Zaa Zah (Zaa (pv 2) Zad)) (hj:=by walk_at"j")) (Zaa (Zgx (v:=.ref _) rfl U.mEND rfl) (Zaa (Zap Xbx hr (Zaa (pv 1) (Zaa Zah (Zaa (pv 2) Zad))) (hj:=by walk_at"j")) Zad))) (hj:=by walk_at"j")))
 (Zai (Zbp PassesOwn.never rfl (ZiG rfl T.range (Zaa Zah (Zaa (Zap XbD hr (Zaa (pv 1) Zad) (hj:=by walk_at"j")) Zad))) (Zao (i:=3) Zgz.nd rfl (Or.inl rfl)) (Zai (Zbb (Zc2 XbB U.net hr (pv 0) (Zaa (Zap Xbv hr (Zaa (pv 3) (Zaa (pv 2) Zad)) (hj:=by walk_at"j")) (Zaa (Zap Xbv hr (Zaa (Zap XbI hr (Zaa (pv 1) (Zaa (pv 3) Zad)) (hj:=by walk_at"j")) (Zaa (pv 2) Zad)) (hj:=by walk_at"j")) (Zaa (Zap Xbx hr (Zaa (pv 1) (Zaa (pv 3) (Zaa (pv 2) Zad))) (hj:=by walk_at"j")) Zad))) (hj:=by walk_at"j"))))))),?_⟩
   show EvS K _ [some _,some _,some _,none] _
   walk_at"x"
   have t8:=ok.t8
   have l1:=ok.l1
   have l5:=ok.l5
   have gl:=Ze4 ok G g8
   have tl:=ZgX ok (n:=t) (by omega)
   have glb:∀x∈(List.range G.m).flatMap (ZgA y G)++(List.range t).flatMap (ZiD y),(∃j,x∈ZgA y G j)\/∃t',t'<t/\x∈ZiD y t':=fun x hx=>by
    rcases XI.mp hx with hx|hx
    ·obtain⟨j,_,hx⟩:=Zi5.mp hx
     exact .inl ⟨j,hx⟩
    ·obtain⟨j,hj,hx⟩:=Zi5.mp hx
     exact .inr ⟨j,hj,hx⟩
   refine Zaq (Zdn (ΦA:=fun ts=>ts=[.fz (ZbF (nk (.line 0 t))),.fz (ZbF (nk .fin)),.fz (.int (Za9 y 0 t))]) ZiC rfl (Zfo (Zac (Za0 (Zac Zay (Zac (Zab rfl) Zan)) (R_lnode.mk (l:=0))) (Zac (ZqM U.aE) (Zac (Za0 (Zac (Zab rfl) (Zac Zay (Zac (Zab rfl) Zan))) (R_bound.mk (k:=0) (t:=(t:Int)) ok (by decide) (by omega) (by omega) (by omega))) Zan))) ?e0) (fun ts hts=>?_))
   case e0=>rw[Xn];rfl
   subst hts;refine⟨_,R_lay.mk h ?n0 (by rw[Xt];omega),fun N1 hN1=>?_⟩
   case n0 =>
    intro hm;obtain⟨x,hx,ex⟩:=Xx.mp hm
    injection ex with e1 e2
    rcases glb x hx with ⟨j,hx⟩|⟨t',ht',hx⟩
    ·rcases Zcs.mp hx with rfl|⟨u,_,_,rfl⟩<;>cases e1
    ·rcases ZcP.mp hx with rfl|⟨i,_,rfl⟩
     ·injection e1 with _ e1
      omega
     ·cases e2
   walk_at"d"
   refine ZeF (ds:=ZfX 1 (y.ls.length-1)) (fun i ρ'=>∃(N':NetS) (u3:Option OT),NetR N' (((List.range G.m).flatMap (ZgA y G)++(List.range t).flatMap (ZiD y))++((.line 0 t,.fin,Za9 y 0 t)::(List.range i).flatMap fun i=>[(.line (i+1) t,.line (Mir.upN y (i+1)) t,Za9 y (i+1) t)])) ZgE /\
    ρ'=[some (.own v (Zc7 P w C N')),some (.fz (eYd y)),some (.fz (.int (t:Int))),u3]) ?ei ⟨N1,none,by simpa using hN1,rfl⟩ ?st ?fin
   case ei=>exact EvI.cast (ZiT (Zac Zay (Zac (Za0 (Zac (Zab rfl) Zan) R_count.mk) Zan)) (by rw[z62];omega)) (ZbW rfl (by omega))
   case fin =>
    rintro _ ⟨N',u3,hN,rfl⟩
    rw[Zcl]at hN;refine⟨N',?_,rfl⟩
    rw[Zew,<- Xav];exact hN
   case st =>
    rintro i d _ hd ⟨N',u3,hN,rfl⟩
    obtain⟨hi,rfl⟩:=Zb6 hd
    have ei:(1:Int)+(i:Int)=((i+1:Nat):Int):=by omega
    rw[ei];refine⟨_,ZaB,?_⟩
    walk_at"d"
    refine Zdn (ΦA:=fun ts=>ts=[.fz (ZbF (nk (.line (i+1) t))),.fz (ZbF (nk (.line (Mir.upN y (i+1)) t))),.fz (.int (Za9 y (i+1) t))]) ZiC rfl (Zfo (Zac (Za0 (Zac (Zab rfl) (Zac (Zab rfl) Zan)) (R_lnode.mk (l:=i+1))) (Zac (Za0 (Zac (Za0 (Zac (Zab rfl) (Zac (Zab rfl) Zan)) (R_above.mk (k:=((i+1:Nat):Int)) ok (by omega) (by omega))) (Zac (Zab rfl) Zan)) (R_lnode.mk (l:=upN y (((i+1:Nat):Int)).toNat))) (Zac (Za0 (Zac (Zab rfl) (Zac (Zab rfl) (Zac (Zab rfl) Zan))) (R_bound.mk (k:=((i+1:Nat):Int)) (t:=(t:Int)) ok (by omega) (by omega) (by omega) (by omega))) Zan))) ?e1) (fun ts hts=>?_)
    case e1=>rw[Xn,Xn];rfl
    subst hts;refine⟨_,R_lay.mk hN ?n1 ?l1,fun N2 hN2=>?_⟩
    case n1 =>
     intro hm;obtain⟨x,hx,ex⟩:=Xx.mp hm
     injection ex with e1 e2
     rcases XI.mp hx with hx|hx
     ·rcases glb x hx with ⟨j,hx⟩|⟨t',ht',hx⟩
      ·rcases Zcs.mp hx with rfl|⟨u,_,_,rfl⟩<;>cases e1
      ·rcases ZcP.mp hx with rfl|⟨i',_,rfl⟩
       ·cases e2
       ·injection e1 with _ e1
        omega
     ·rcases Xf.mp hx with rfl|hx
      ·cases e2
      ·obtain⟨i',hi',hx⟩:=Xam.mp hx
       rw[Xm.mp hx]at e1;injection e1 with e1 _
       have:=Xl.mp hi'
       omega
    case l1 =>
     rw[Xt,Xt,XW];have:=Zfi (f:=fun i=>[((.line (i+1) t,.line (Mir.upN y (i+1)) t,Za9 y (i+1) t):Nd×Nd×Int)]) (c:=1) (fun i=>by simp) i
     omega
    walk_at"d"
    refine⟨N2,_,?_,rfl⟩
    rw[Zew];rw[Xav]at hN2;exact hN2
def ZuB (y:Yd)(G:Gv)(φ:Phi Nd):Prop:=Flow y G φ/\∃es:Got Nd,Nd.start∈ZaC es/\ZcL (ZcI y G) φ es/\Nd.fin∉ZaC es
inductive R_filled (P:Program)(w:World)(C:Addr):List OT->(OT->Prop)->Prop
 |mk {y:Yd} {gs:List Gs} (ok:y.Ok) (hg:∀g∈gs,GOk y g) (g8:gs.length<=8):R_filled P w C [.fz (eYd y),.fz (.list (gs.map eGs))] (fun r=>∃v N φ,r=.own v (Zc7 P w C N)/\NetR N (ZcI y (Zbi gs)) φ/\ZuB y (Zbi gs) φ)
theorem Zua {y:Yd}(ok:y.Ok){l t:Nat}(hl:l<y.ls.length)(ht:t<y.T):0<=Za9 y l t:=by
 rw[Zc3 hl];have h1:=Ze0 ok hl
 have hm:ZeE y l∈y.ls:=by simp[ZeE,hl]
 have:(ZeE y l).bs.getD t 0=(ZeE y l).bs[t]'(by omega):=by simp[List.getD,show t<(ZeE y l).bs.length by omega]
 rw[this];exact(ok.bb _ hm _ (XM _)).1
theorem Zs2 {y:Yd}(ok:y.Ok){gs:List Gs}(hg:∀g∈gs,GOk y g):∀x∈ZcI y (Zbi gs),0<=x.2.2:=fun x hx=>by
 have l1:=ok.l1
 rcases Ze3.mp hx with ⟨k,hk,hx⟩|⟨t,ht,hx⟩
 ·have gk:GOk y (gs.getD k default):=by rw[Zdd hk];exact hg _ (XM _)
  rcases Zcs.mp hx with rfl|⟨t,_,_,rfl⟩
  ·exact gk.w0
  ·exact gk.m0
 ·rcases ZcP.mp hx with rfl|⟨i,hi,rfl⟩
  ·exact Zua ok (by omega) ht
  ·exact Zua ok (by omega) ht
theorem Zcr:FnScope ["yard", "guests", "net", "number", "guest", "turn"] ["yard", "guests"] (Zaf Zee):=by walk_at"p"
theorem Zm4 (T:Bl mg) (U:Tx K mg C gS gE) (D:Df K mg "filled_net" Zee ["yard", "guests"]) (Xb4:Zu7 P w K mg base "Net" C 1) (Xb5:Cal P w K mg base "lay_guest" ["net", "yard", "number", "guest"] 3 (spN K P w C R_lguest)) (Xbt:Cal P w K mg base "turns_of" ["yard"] 1 (spO (K:=K) R_turns))
 (Xb6:Cal P w K mg base "lay_turn" ["net", "yard", "turn"] 3 (spN K P w C R_lturn)) (Xb7:Zi0 P w K mg base C "fill" ["self", "start", "end"] 2 (spN K P w C R_fill)):Cal P w K mg base "filled_net" ["yard", "guests"] 4 (spD K (R_filled P w C)):=by
 refine D.evD Zcr (fun ts Φ h=>by cases h;rfl) (fun _ _ _ _ s H E ts Φ hr h=>?_)
 cases h with
 |@mk y gs ok hg g8 =>
   refine⟨_,(Zae (Zar (i:=2) Zcr.nd rfl (Or.inl rfl) (Zrn Xb4 hr (hj:=by walk_at"j")))
 (Zae (Zbp PassesOwn.never rfl (ZfV rfl T.enumerate (Zaa (pv 1) Zad)) (ZcZ (n:=2) rfl (Za1 (Zao (i:=3) Zcr.nd rfl (Or.inl rfl)) (Za1 (Zao (i:=4) Zcr.nd rfl (Or.inl rfl)) Zcd))) (Zai (Zbb (Zap Xb5 hr (Zaa (pv 2) (Zaa (pv 0) (Zaa (pv 3) (Zaa (pv 4) Zad)))) (hj:=by walk_at"j")))))
 (Zae (Zbp PassesOwn.never rfl (ZaQ rfl T.range (Zaa (Zap Xbt hr (Zaa (pv 0) Zad) (hj:=by walk_at"j")) Zad)) (Zao (i:=5) Zcr.nd rfl (Or.inl rfl)) (Zai (Zbb (Zap Xb6 hr (Zaa (pv 2) (Zaa (pv 0) (Zaa (pv 5) Zad))) (hj:=by walk_at"j")))))
 (Zae (Zbb (Zc2 Xb7 U.net hr (pv 2) (Zaa (Zgx (v:=.ref _) rfl U.mSTART rfl) (Zaa (Zgx (v:=.ref _) rfl U.mEND rfl) Zad)) (hj:=by walk_at"j")))
 (Zai (Zax (pv 2))))))),?_⟩
   show EvS K _ [some _,some _,none,none,none,none] _
   walk_at"x"
   have t8:=ok.t8
   refine Zaq (ZnM ZrR (fun v=>?_))
   walk_at"d"
   refine Zaq (ZeF (ds:=Zkl (gs.map eGs)) (fun i ρ'=>∃(N':NetS) (u3 u4:Option OT),NetR N' ((List.range i).flatMap (ZgA y (Zbi gs))) ZgE/\ρ'=[some (.fz (eYd y)),some (.fz (.list (gs.map eGs))),some (.own v (Zc7 P w C N')),u3,u4,none]) (Zo4 (Zac (Zab rfl) Zan)) ⟨_,none,none,ZuI _,rfl⟩ ?st ?fin)
   case st =>
    rintro i d _ hd ⟨N',u3,u4,hN,rfl⟩
    obtain⟨a,ha,rfl⟩:=Zj3 hd
    have hi:i<gs.length:=by
     have:=(Xe.mp ha).1
     simpa using this
    obtain rfl:a=eGs gs[i]:=by simpa [hi] using ha.symm
    refine⟨_,Zg1 (ds:=[.int (i:Int),eGs gs[i]]) (ZaL ZaB (ZaL ZaB Zep)) rfl,?_⟩
    walk_at"d"
    refine ZkJ (ΦA:=fun ts=>ts=[.fz (eYd y),.fz (.int (i:Int)),.fz (eGs gs[i])]) rfl (Zfo (Zac (Zab rfl) (Zac (Zab rfl) (Zac (Zab rfl) Zan))) rfl) (fun ts hts=>?_)
    subst hts;refine⟨_,R_lguest.mk ok g8 hi hN,fun N2 hN2=>?_⟩
    walk_at"d"
    exact⟨N2,_,_,hN2,rfl⟩
   case fin =>
    rintro _ ⟨N1,u3,u4,hN1,rfl⟩
    rw[ZiM,Xj]at hN1;refine Zaq (ZeF (ds:=ZfX 0 y.T) (fun i ρ'=>∃(N':NetS) (u5:Option OT),NetR N' ((List.range (Zbi gs).m).flatMap (ZgA y (Zbi gs))++(List.range i).flatMap (ZiD y)) ZgE/\ρ'=[some (.fz (eYd y)),some (.fz (.list (gs.map eGs))),some (.own v (Zc7 P w C N')),u3,u4,u5]) ?ei2 ⟨N1,none,by rw[show(List.range 0).flatMap (ZiD y)=[] from rfl,X4];exact hN1,rfl⟩ ?st2 ?fin2)
    case ei2=>exact EvI.cast (ZbQ (Zac (Za0 (Zac (Zab rfl) Zan) R_turns.mk) Zan) (by rw[z62];omega) (by rw[z62];omega)) (ZbW rfl (by omega))
    case st2 =>
     rintro t d _ hd ⟨N',u5,hN,rfl⟩
     obtain⟨ht,rfl⟩:=Zb6 hd
     rw[Xao];refine⟨_,ZaB,?_⟩
     walk_at"d"
     refine ZkJ (ΦA:=fun ts=>ts=[.fz (eYd y),.fz (.int (t:Int))]) rfl (Zfo (Zac (Zab rfl) (Zac (Zab rfl) Zan)) rfl) (fun ts hts=>?_)
     subst hts;refine⟨_,R_lturn.mk ok g8 ht hN,fun N2 hN2=>?_⟩
     walk_at"d"
     exact⟨N2,_,hN2,rfl⟩
    case fin2 =>
     rintro _ ⟨N',u5,hN,rfl⟩
     rw[Zcl]at hN;have hN:NetR N' (ZcI y (Zbi gs)) ZgE:=hN
     have ll:(ZcI y (Zbi gs)).length<400:=by
      unfold ZcI;rw[Xt];have a:=Ze4 ok (Zbi gs) (n:=(Zbi gs).m) g8
      have b:=ZgX ok t8
      omega
     refine Zaq (Zdn (ΦA:=fun ts=>ts=[.fz (ZbF (nk .start)),.fz (ZbF (nk .fin))]) Zpe rfl (Zfo (Zac (Ziy U.aS) (Zac (ZqM U.aE) Zan)) rfl) (fun ts hts=>?_))
     subst hts;refine⟨_,R_fill.mk hN (ZuD (Zs2 ok hg)) ll,fun N2 hN2=>?_⟩
     obtain⟨φ',es,h1,h2,h3,h4,h5⟩:=hN2
     walk_at"d"
     exact ZoI rfl ⟨v,N2,φ',rfl,h1,h2,es,h3,h4,h5⟩
def ZiU (y:Yd)(G:Gv)(φ:Phi Nd):List (List Int):=(List.range G.m).map fun k=>(List.range y.T).map fun t=>ZcH G φ t k
theorem Zn4 {y:Yd}{G:Gv}{φ:Phi Nd}{k t:Nat}(hk:k<G.m)(ht:t<y.T):Zje (ZcI y G) φ (.guest k) (.line (G.ln k) t)=ZcH G φ t k:=by
 unfold Zje ZcH;by_cases c:G.th k t=true
 ·rw[Xc c,Xc (Xx.mpr ⟨_,ZhO hk ht c,rfl⟩)]
 ·rw[Xa c,Xa (fun hm=>?_)]
  obtain⟨x,hx,ex⟩:=Xx.mp hm
  injection ex with e1 e2
  rcases Ze3.mp hx with ⟨j,_,hx⟩|⟨t',_,hx⟩
  ·rcases Zcs.mp hx with rfl|⟨t',_,c',rfl⟩
   ·cases e1
   ·injection e1 with e1
    injection e2 with _ e2
    subst e1 e2;exact c c'
  ·rcases ZcP.mp hx with rfl|⟨i,_,rfl⟩<;>cases e1
inductive R_takes (P:Program)(w:World)(C:Addr):List OT->OT->Prop
 |mk {N:NetS} {y:Yd} {gs:List Gs} {φ:Phi Nd} {k:Nat} (ok:y.Ok) (h:NetR N (ZcI y (Zbi gs)) φ) (hk:k<gs.length):R_takes P w C [.zow (Zgq P w C N),.fz (eYd y),.fz (.int (k:Int)),.fz (eGs gs[k])] (.ol ((List.range y.T).map fun t=>PyData.int (ZcH (Zbi gs) φ t k)))
theorem Zkc:FnScope ["net", "yard", "number", "guest"] ["net", "yard", "number", "guest"] (Zaf Ze1):=by walk_at"p"
theorem Zqu (T:Bl mg) (U:Tx K mg C gS gE) (D:Df K mg "takes_by" Ze1 ["net", "yard", "number", "guest"]) (Xbt:Cal P w K mg base "turns_of" ["yard"] 1 (spO (K:=K) R_turns)) (Xb8:Zi0 P w K mg base C "flow" ["self", "start", "end"] 1 (spD K (R_flow P w C))) (Xbv:Cal P w K mg base "line_node" ["line", "turn"] 1 (spO (K:=K) R_lnode)) (XbA:Cal P w K mg base "line_of" ["guest"] 1 (spO (K:=K) R_lineof)) (Xby:Cal P w K mg base "guest_node" ["number"] 1 (spO (K:=K) R_gnode)) :
 Cal P w K mg base "takes_by" ["net", "yard", "number", "guest"] 2 (spO (K:=K) (R_takes P w C)):=by
 refine D.ev Zkc (fun ts r h=>by cases h;rfl) (fun _ _ _ _ s H E ts r hr h=>?_)
 cases h with
 |@mk N y gs φ k ok h hk =>
   refine⟨_,(Zai (Zax (Zfv (NX:=["net", "yard", "number", "guest"]) (sc:=Zaf Ze1) (N:=["turn", "net", "number", "guest"]) (f:=[none,some 0,some 2,some 3]) rfl (by decide +kernel) rfl rfl (ZaQ rfl T.range (Zaa (Zap Xbt hr (Zaa (pv 1) Zad) (hj:=by walk_at"j")) Zad)) (fun _=>(Zao (i:=0) (show(["turn", "net", "number", "guest"]:List Str).Nodup by decide +kernel) rfl (Or.inl rfl))) (fun _=>ZaX) (fun _=>Zb2) (fun _=>(Zc2 Xb8 U.net hr (pv 1) (Zaa (Zap Xby hr (Zaa (pv 2) Zad) (hj:=by walk_at"j")) (Zaa (Zap Xbv hr (Zaa (Zap XbA hr (Zaa (pv 3) Zad) (hj:=by walk_at"j")) (Zaa (pv 0) Zad)) (hj:=by walk_at"j")) Zad)) (hj:=by walk_at"j")))))),?_⟩
   show EvS K _ [some _,some _,some _,some _] _
   walk_at"x"
   have t8:=ok.t8
   refine ZeG (ZmD (lo:=0) (n:=y.T) (h:=fun t=>PyData.int (ZcH (Zbi gs) φ t k)) ?ei (by omega) ?el) rfl
   case ei=>exact EvI.cast (ZbQ (Zac (Za0 (Zac (Zab rfl) Zan) R_turns.mk) Zan) (by rw[z62];omega) (by rw[z62];omega)) (ZbW rfl (by omega))
   case el =>
    intro t ht c;refine⟨_,ZaB,?_⟩
    walk_at"e"
    rw[Xao];have eL:(Zbi gs).ln k=gs[k].line:=by show(gs.getD k default).line=_;rw[Zdd hk]
    have ef:=Zn4 (y:=y) (G:=Zbi gs) (φ:=φ) (k:=k) hk ht
    rw[eL]at ef;exact EvE.cast (EvO.e (EvD.o (Zi4 Zpm rfl (Zac (Za0 (Zac (Zab rfl) Zan) R_gnode.mk) (Zac (Za0 (Zac (Za0 (Zac (Zab rfl) Zan) R_lineof.mk) (Zac (Zab rfl) Zan)) R_lnode.mk) Zan)) (R_flow.mk (p:=.guest k) (q:=.line gs[k].line t) h)))) (by rw[ef])
inductive R_great:List OT->(OT->Prop)->Prop
 |mk {y:Yd} {gs:List Gs} (ok:y.Ok) (hg:∀g∈gs,GOk y g) (g8:gs.length<=8):R_great [.fz (eYd y),.fz (.list (gs.map eGs))] (fun r=>∃φ,ZuB y (Zbi gs) φ/\r=.oll ((ZiU y (Zbi gs) φ).map fun row=>row.map PyData.int))
theorem ZcV:FnScope ["yard", "guests", "net"] ["yard", "guests"] (Zaf Zb4):=by walk_at"p"
theorem Zpt (T:Bl mg) (U:Tx K mg C gS gE) (D:Df K mg "greatest_filling" Zb4 ["yard", "guests"]) (XbJ:Cal P w K mg base "filled_net" ["yard", "guests"] 4 (spD K (R_filled P w C))) (Xb9:Cal P w K mg base "takes_by" ["net", "yard", "number", "guest"] 2 (spO (K:=K) (R_takes P w C))):Cal P w K mg base "greatest_filling" ["yard", "guests"] 5 (spD K R_great):=by
 refine D.evD ZcV (fun ts Φ h=>by cases h;rfl) (fun _ _ _ _ s H E ts Φ hr h=>?_)
 cases h with
 |@mk y gs ok hg g8 =>
   refine⟨_,(Zae (Zar (i:=2) ZcV.nd rfl (Or.inr rfl) (Zap XbJ hr (Zaa (pv 0) (Zaa (pv 1) Zad)) (hj:=by walk_at"j")))
 (Zai (Zax (Zfv (NX:=["yard", "guests", "net"]) (sc:=Zaf Zb4) (N:=["number", "guest", "net", "yard"]) (f:=[none,none,some 2,some 0]) rfl (by decide +kernel) rfl rfl (ZfV rfl T.enumerate (Zaa (pv 1) Zad)) (fun _=>(ZcZ (n:=2) rfl (Za1 (Zao (i:=0) (show(["number", "guest", "net", "yard"]:List Str).Nodup by decide +kernel) rfl (Or.inl rfl)) (Za1 (Zao (i:=1) (show(["number", "guest", "net", "yard"]:List Str).Nodup by decide +kernel) rfl (Or.inl rfl)) Zcd)))) (fun _=>(ZmF (n:=2) (Ze2 ZaX (Ze2 ZaX Zkt)))) (fun _=>Zb2) (fun _=>(Zap Xb9 hr (Zaa (pv 2) (Zaa (pv 3) (Zaa (pv 0) (Zaa (pv 1) Zad)))) (hj:=by walk_at"j"))))))),?_⟩
   show EvS K _ [some _,some _,none] _
   walk_at"x"
   refine Zaq (Zd6 (ZcJ (Zac (Zab rfl) (Zac (Zab rfl) Zan)) (R_filled.mk ok hg g8)) (fun r hr'=>?_))
   obtain⟨v,N,φ,rfl,hN,full⟩:=hr'
   walk_at"d"
   refine Zps 2 rfl ?_
   walk_at"d"
   refine ZeG (r:=.oll ((ZiU y (Zbi gs) φ).map fun row=>row.map PyData.int)) (EvO.cast (Zlr (xs:=gs.zipIdx) (enc:=fun p=>PyData.tuple [.int (p.2:Int),eGs p.1]) (h:=fun p=>(List.range y.T).map fun t=>PyData.int (ZcH (Zbi gs) φ t p.2)) ?ei (by simp;omega) ?el) ?eq) ⟨φ,full,rfl⟩
   case ei =>
    refine EvI.cast (Zo4 (Zac (Zab rfl) Zan)) ?_
    unfold Zkl;rw[List.zipIdx_map,XQ];rfl
   case eq =>
    congr 1
    unfold ZiU;rw[XQ];have:(Zbi gs).m=gs.length:=rfl
    rw[this];apply List.ext_getElem?
    intro i;by_cases hi:i<gs.length
    ·simp[hi,XQ,Function.comp_def]
    ·simp[hi]
   case el =>
    intro p hp c;obtain⟨hk,e2⟩:∃h:p.2<gs.length,p.1=gs[p.2]:=by
     have:=List.mem_zipIdx hp
     simp at this
     exact⟨this.1,this.2⟩
    obtain⟨g,k⟩:=p
    simp only at hk e2
    subst e2;refine⟨_,Zg1 (ds:=[.int (k:Int),eGs gs[k]]) (ZaL ZaB (ZaL ZaB Zep)) rfl,?_⟩
    walk_at"e"
    exact ZfF (ZqV rfl (Zac (Zab rfl) (Zac (Zab rfl) (Zac (Zab rfl) Zan)))) (R_takes.mk ok hN hk)
theorem Zgu:FnScope ["yard", "guests"] ["yard", "guests"] (Zaf Zd2):=by walk_at"p"
theorem Zrx (T:Bl mg) (D:Df K mg "best_filling" Zd2 ["yard", "guests"]) (Xca:Cal P w K mg base "greatest_filling" ["yard", "guests"] 5 (spD K R_great)):Cal P w K mg base "best_filling" ["yard", "guests"] 6 (spD K R_great):=by
 refine D.evD Zgu (fun ts Φ h=>by cases h;rfl) (fun _ _ _ _ s H E ts Φ hr h=>?_)
 have h0:=h
 cases h with
 |@mk y gs ok hg g8 =>
   refine⟨_,(Zai (Zax (Zap Xca hr (Zaa (pv 0) (Zaa (pv 1) Zad)) (hj:=by walk_at"j")))),?_⟩
   show EvS K _ [some _,some _] _
   walk_at"x"
   exact Zko (ZcJ (Zac (Zab rfl) (Zac (Zab rfl) Zan)) h0) (fun r hr'=>hr')
def ZeY (y:Yd)(G:Gv)(S:Nat->Bool):Int:=Zas (Zaw S G.wa) G.m-Zas (fun t=>Zba y (fun l=>Za9 y l t) (ZpR G S t) 0) y.T
def ZlX (y:Yd)(G:Gv)(φ:Phi Nd):Int:=Zas (fun k=>G.wa k-Zas (fun t=>ZcH G φ t k) y.T) G.m
theorem ZmB {y:Yd}{G:Gv}{φ:Phi Nd}(F:Flow y G φ)(ok:y.Ok)(hln:∀k,k<G.m->G.ln k<y.ls.length)(S:Nat->Bool):ZeY y G S<=ZlX y G φ:=by
 have nn:∀k,k<G.m->0<=G.wa k-Zas (fun t=>ZcH G φ t k) y.T:=fun k hk=>by
  rw[F.total hk];have:=F.want hk
  omega
 have h1:Zas (Zaw S fun k=>G.wa k-Zas (fun t=>ZcH G φ t k) y.T) G.m<=ZlX y G φ:=ZaW fun k hk=>ZhI (nn k hk)
 have h2:Zas (Zaw S fun k=>G.wa k-Zas (fun t=>ZcH G φ t k) y.T) G.m=Zas (Zaw S G.wa) G.m-Zas (Zaw S fun k=>Zas (fun t=>ZcH G φ t k) y.T) G.m:=by
  rw[<- ZhM];refine Zag fun k _=>?_
  unfold Zaw;dsimp only;split<;>omega
 have h3:Zas (fun t=>Zas (Zaw S (ZcH G φ t)) G.m) y.T=Zas (Zaw S fun k=>Zas (fun t=>ZcH G φ t k) y.T) G.m:=by
  rw[Zeu (fun t k=>Zaw S (ZcH G φ t) k) y.T G.m]
  refine Zag fun k _=>?_
  unfold Zaw;cases S k with
  |true=>rfl
  |false=>simp only[Xag,if_false];exact Za8 _
 have h4:Zas (fun t=>Zas (Zaw S (ZcH G φ t)) G.m) y.T<=Zas (fun t=>Zba y (fun l=>Za9 y l t) (ZpR G S t) 0) y.T:=ZaW fun t ht=>F.no_more ok hln S ht
 unfold ZeY;omega
theorem ZkP {y:Yd}{gs:List Gs}(hg:∀g∈gs,GOk y g):∀k,k<(Zbi gs).m->(Zbi gs).ln k<y.ls.length:=fun k hk=>by
 show(gs.getD k default).line<_
 rw[Zdd hk];exact(hg _ (XM _)).ln
def Zb0 (gs:List Gs)(S:Nat->Bool):List Nat:=(List.range gs.length).filter S
theorem Zlj {gs:List Gs}(g8:gs.length<=8)(S:Nat->Bool):SetOk gs (Zb0 gs S) :=
 ⟨fun k hk=>Xl.mp (Xaa.mp hk).1,XS (List.length_filter_le _ _) (by simpa using g8)⟩
theorem ZaH (f:Nat->Int):∀n,((List.range n).map f).sum=Zas f n
 |0=>rfl
 |n+1=>by rw[Xah,Xz,Xa6,ZaH f n];simp[Zas]
theorem ZcU (f:Nat->Int)(p:Nat->Bool):∀n,(((List.range n).filter p).map f).sum=Zas (Zaw p f) n
 |0=>rfl
 |n+1=>by
   rw[Xah,Xbm,Xz,Xa6,ZcU f p n];show _=Zas (Zaw p f) n+Zaw p f n
   unfold Zaw;cases e:p n with
   |true=>simp[Xa0,e]
   |false=>simp[Xa0,e]
theorem Zri (gs:List Gs)(S:Nat->Bool)(t l:Nat):ZpR (Zbi gs) S t l=Zej gs t (Zb0 gs S) l:=by
 show _=Zbf gs (t:Int) l ((List.range gs.length).filter S)
 rw[Zf3];unfold ZpR;refine Zag fun k hk=>?_
 have hk:k<gs.length:=hk
 unfold Zaw moT wgt ind;rw[XH hk];have e1:(Zbi gs).th k t=ZaY gs[k] (t:Int):=by show ZaY (gs.getD k default) _=_;rw[Zdd hk]
 have e2:(Zbi gs).mo k=gs[k].most:=by show(gs.getD k default).most=_;rw[Zdd hk]
 have e3:(Zbi gs).ln k=gs[k].line:=by show(gs.getD k default).line=_;rw[Zdd hk]
 rw[e1,e2,e3];cases S k with
 |false=>simp
 |true =>
   simp only[if_true];by_cases c:gs[k].line=l
   ·by_cases d:ZaY gs[k] (t:Int)=true
    ·simp[c,d]
    ·simp[c,d]
   ·simp[c]
def ZgF (gs:List Gs)(sm:List Nat):Int:=(sm.map fun k=>(gs.getD k default).want).sum
theorem Zjs (y:Yd)(gs:List Gs)(S:Nat->Bool):ZeY y (Zbi gs) S=ZgF gs (Zb0 gs S)-Za6 y gs (Zb0 gs S):=by
 unfold ZeY;congr 1
 ·exact(ZcU _ S gs.length).symm
 ·unfold Za6
  rw[ZaH];refine Zag fun t _=>?_
  unfold ZcK;rw[show ZpR (Zbi gs) S t=Zej gs t (Zb0 gs S) from funext fun l=>Zri gs S t l]
def ZoO (y:Yd)(G:Gv)(φ:Phi Nd)(es:Got Nd):Prop:=Flow y G φ/\Nd.start∈ZaC es/\ZcL (ZcI y G) φ es/\Nd.fin∉ZaC es
inductive R_lset:List OT->(OT->Prop)->Prop
 |mk {y:Yd} {gs:List Gs} (ok:y.Ok) (hg:∀g∈gs,GOk y g) (g8:gs.length<=8):R_lset [.fz (eYd y),.fz (.list (gs.map eGs))] (fun r=>∃φ es,ZoO y (Zbi gs) φ es/\r=.ol (Zcv (Zb0 gs (Zd0 es))))
theorem ZdA:FnScope ["yard", "guests", "edges"] ["yard", "guests"] (Zaf Zcb):=by walk_at"p"
theorem Zks (T:Bl mg) (U:Tx K mg C gS gE) (D:Df K mg "guests_reached" Zcb ["yard", "guests"]) (XbJ:Cal P w K mg base "filled_net" ["yard", "guests"] 4 (spD K (R_filled P w C))) (XbE:Zi0 P w K mg base C "reached" ["self", "start"] 1 (spD K (R_reached P w C))) (Xby:Cal P w K mg base "guest_node" ["number"] 1 (spO (K:=K) R_gnode)) :
 Cal P w K mg base "guests_reached" ["yard", "guests"] 5 (spD K R_lset):=by
 refine D.evD ZdA (fun ts Φ h=>by cases h;rfl) (fun _ _ _ _ s H E ts Φ hr h=>?_)
 cases h with
 |@mk y gs ok hg g8 =>
   refine⟨_,(Zae (Zar (i:=2) ZdA.nd rfl (Or.inr rfl) (Zc2 XbE U.net hr (Zap XbJ hr (Zaa (pv 0) (Zaa (pv 1) Zad)) (hj:=by walk_at"j")) (Zaa (Zgx (v:=.ref _) rfl U.mSTART rfl) Zad) (hj:=by walk_at"j")))
 (Zai (Zax (Zfv (NX:=["yard", "guests", "edges"]) (sc:=Zaf Zcb) (N:=["number", "edges"]) (f:=[none,some 2]) rfl (by decide +kernel) rfl rfl (ZaQ rfl T.range (Zaa (Zaz Zcq (by rfl) T.len Zck (Zaa (pv 1) Zad)) Zad)) (fun _=>(Zao (i:=0) (show(["number", "edges"]:List Str).Nodup by decide +kernel) rfl (Or.inl rfl))) (fun _=>ZaX) (fun _=>(Zk2 (Zfp (Zq6 (ZgQ hr) (Zap Xby hr (Zaa (pv 0) Zad) (hj:=by walk_at"j")) (pv 1))))) (fun _=>(pv 0)))))),?_⟩
   show EvS K _ [some _,some _,none] _
   walk_at"x"
   have ll:(ZcI y (Zbi gs)).length<400:=by
    unfold ZcI;rw[Xt];have a:=Ze4 ok (Zbi gs) (n:=(Zbi gs).m) g8
    have b:=ZgX ok ok.t8
    omega
   refine Zaq (Zd6 (Φ:=fun r=>∃v φ es,r=.own v (Zik (kvG es))/\ZoO y (Zbi gs) φ es) (Zqg (P:=P) (w:=w) ZgJ (ZcJ (Zac (Zab rfl) (Zac (Zab rfl) Zan)) (R_filled.mk ok hg g8)) (fun r hr'=>?_) (Zac (Ziy U.aS) Zan)) (fun r hr'=>?_))
   ·obtain⟨v,N,φ,rfl,hN,F,es0,h1,h2,h3⟩:=hr'
    refine⟨v,N,rfl,_,R_reached.mk (s:=.start) hN ll,fun r ⟨v',es,e,tr,cl⟩=>⟨v',φ,es,e,F,tr.start,cl,fun z=>h3 (tr.inClosed h2 h1 _ z)⟩⟩
   ·obtain⟨v,φ,es,rfl,fb⟩:=hr'
    walk_at"d"
    refine ZkX 2 rfl ?_
    walk_at"d"
    refine ZeG (r:=.ol (Zcv (Zb0 gs (Zd0 es)))) (Zl1 (xs:=List.range gs.length) (enc:=fun(j:Nat)=>PyData.int (j:Int)) (h:=fun(j:Nat)=>PyData.int (j:Int)) (p:=Zd0 es) ?ei (by simp;omega) ?el) ⟨φ,es,fb,rfl⟩
    case ei =>
     have e:(gs.map eGs).length=gs.length:=by simp
     refine EvI.cast (ZbQ (Zac (Zer (Zab rfl)) Zan) (by rw[z62,e];omega) (by rw[z62,e];omega)) ?_
     rw[e,Xn];unfold ZfX;refine XX fun i _=>?_
     rw[Xao]
    case el =>
     intro k hk c;refine⟨_,ZaB,?_,fun _=>?_⟩
     ·walk_at"e"
      exact EvT.cast (ZiK (Zt4 (k:=nk (.guest k)) (Za0 (Zac (Zab rfl) Zan) R_gnode.mk) rfl)) (Zj7 _ _)
     ·walk_at"e"
      exact Zab rfl
theorem Zhk:FnScope ["yard", "guests"] ["yard", "guests"] (Zaf ZdL):=by walk_at"p"
theorem Zr2 (T:Bl mg) (D:Df K mg "lacking_set" ZdL ["yard", "guests"]) (Xcb:Cal P w K mg base "guests_reached" ["yard", "guests"] 5 (spD K R_lset)):Cal P w K mg base "lacking_set" ["yard", "guests"] 6 (spD K R_lset):=by
 refine D.evD Zhk (fun ts Φ h=>by cases h;rfl) (fun _ _ _ _ s H E ts Φ hr h=>?_)
 have h0:=h
 cases h with
 |@mk y gs ok hg g8 =>
   refine⟨_,(Zai (Zax (Zap Xcb hr (Zaa (pv 0) (Zaa (pv 1) Zad)) (hj:=by walk_at"j")))),?_⟩
   show EvS K _ [some _,some _] _
   walk_at"x"
   exact Zko (ZcJ (Zac (Zab rfl) (Zac (Zab rfl) Zan)) h0) (fun r hr'=>hr')
theorem ZkZ {x y a b:Nat}(h:Nat.gcd x y=Nat.gcd a b):Nat.gcd y (x%y)=Nat.gcd a b:=by
 rw[<- h,Nat.gcd_comm x y,Nat.gcd_rec y x,Nat.gcd_comm]
inductive R_ldiv:List OT->OT->Prop
 |mk {a b:Nat}:R_ldiv [.fz (.int (a:Int)),.fz (.int (b:Int))] (.fz (.int ((Nat.gcd a b:Nat):Int)))
theorem Zev:FnScope ["_law_one", "_law_other"] ["_law_one", "_law_other"] (Zaf Zd5):=by walk_at"p"
theorem Zsw (T:Bl mg) (D:Df K mg "_law_divisor" Zd5 ["_law_one", "_law_other"]):Cal P w K mg base "_law_divisor" ["_law_one", "_law_other"] 1 (spO (K:=K) R_ldiv):=by
 refine D.ev Zev (fun ts r h=>by cases h;rfl) (fun _ _ _ _ s H E ts r hr h=>?_)
 cases h with
 |@mk a b =>
   refine⟨_,(Zae (Zcj PassesOwn.never (Zbm Zmc (pv 1) Zah (ZbT _)) (Zai (ZsM (i:=0) (j:=1) rfl Zev.nd rfl rfl (by decide) rfl rfl (Zaa (pv 1) (Zaa (Zat Zb5 (pv 0) (pv 1)) Zad)) rfl)))
 (Zai (Zax (pv 0)))),?_⟩
   show EvS K _ [some _,some _] _
   walk_at"x"
   refine Zhr (fun ρ'=>ρ'=[some (.fz (.int ((Nat.gcd a b:Nat):Int))),some (.fz (.int 0))]) (Zc6 (fun m ρ'=>∃(x y:Nat),y=m/\Nat.gcd x y=Nat.gcd a b/\ρ'=[some (.fz (.int (x:Int))),some (.fz (.int (y:Int)))]) b ⟨a,b,rfl,rfl,rfl⟩ ?w) ?z
   case w =>
    rintro m _ ⟨x,y,rfl,hg,rfl⟩
    refine⟨_,by walk_at"et",fun c=>?_,fun c=>?_⟩
    ·have c:(0:Int)<(y:Int):=XD c
     have y0:0<y:=by omega
     refine Zum (by walk_at"ea") ?_
     walk_at"d"
     exact⟨x%y,Nat.mod_lt _ y0,y,x%y,rfl,ZkZ hg,rfl⟩
    ·have c:¬(0:Int)<(y:Int):=X5 c
     have y0:y=0:=by omega
     subst y0;rw[Nat.gcd_zero_right]at hg;rw[hg];rfl
   case z =>
    rintro _ rfl
    walk_at"ret"
    rfl
def ZaV (f:Fr):PyData:=.tuple [.int (f.t:Int),.int (f.b:Int)]
structure FrB (f:Fr):Prop where
 ok:f.Ok
 t:f.t<2^103
 b:f.b<=2^103
structure FrG (f:Fr):Prop where
 ok:f.Ok
 t:f.t<2^970
 b:f.b<=2^970
theorem FrB.g {f:Fr}(h:FrB f):FrG f:=⟨h.ok,Nat.lt_trans h.t (Nat.pow_lt_pow_right (by decide) (by decide)),XS h.b (XaH (by decide) (by decide))⟩
theorem p2c {m:Nat}:(2:Int)^m=((2^m:Nat):Int):=by rw[Int.natCast_pow];rfl
theorem Zhw {a b:Nat}(h1:a<2^16000)(h3:b<2^16000):IntMulOk (a:Int) (b:Int):=Zrk (m:=16000) (n:=16000) (by omega) (by rw[p2c];exact Xas.mpr h1) (by omega) (by rw[p2c];exact Xas.mpr h3) (by decide)
theorem ltG {a:Nat}(h:a<=2^15600):a<2^16000:=Xa5 h (Nat.pow_lt_pow_right (by decide) (by decide))
theorem leG {a:Nat}(h:a<=2^970):a<=2^15600:=XS h (XaH (by decide) (by decide))
theorem Zl4 {f g:Fr}:PyData.eqv (ZaV f) (ZaV g)=decide (f=g):=by
 show((f.t:Int)==(g.t:Int)&&((f.b:Int)==(g.b:Int)&&true))=_
 rw[XaO];simp only[Bool.and_true,XaF,beq_iff_eq,decide_eq_true_eq];constructor
 ·rintro⟨a,b⟩
  have a:f.t=g.t:=by omega
  have b:f.b=g.b:=by omega
  cases f
  cases g
  simp at a b
  rw[a,b]
 ·rintro rfl
  exact⟨rfl,rfl⟩
theorem Zve (f:Fr):Zf4 1 (ZaV f):=Zqc (ZoC (ZqI _ _) (ZoC (ZqI _ _) ZsQ))
theorem ZqU (f:Fr):Zsv (ZaV f):=(Zve f).fine (by decide)
def ZeJ (B:Nat)(fs:List Fr):Nat:=fs.foldl (fun B f=>B*(f.b/Nat.gcd B f.b)) B
theorem ZpV (B:Nat)(f:Fr)(fs:List Fr):ZeJ B (f::fs)=ZeJ (B*(f.b/Nat.gcd B f.b)) fs:=rfl
theorem Zj4 (B b:Nat):b∣B*(b/Nat.gcd B b):=by
 obtain⟨c,hc⟩:=Nat.gcd_dvd_left B b
 have e:Nat.gcd B b*(b/Nat.gcd B b)=b:=Nat.mul_div_cancel' (Xa9 B b)
 refine⟨c,?_⟩
 have q:B*(b/Nat.gcd B b)=(Nat.gcd B b*c)*(b/Nat.gcd B b):=by rw[<- hc]
 rw[q,XaZ (Nat.gcd B b) c,XaP,e,XaZ]
theorem ZiV:∀(fs:List Fr) (B:Nat),B∣ZeJ B fs
 |[],B=>Nat.dvd_refl _
 |f::fs,B=>Nat.dvd_trans (Nat.dvd_mul_right _ _) (ZiV fs _)
theorem ZeK:∀{fs:List Fr} {B:Nat} {f:Fr},f∈fs->f.b∣ZeJ B fs
 |g::fs,B,f,h=>by
   rcases Xf.mp h with rfl|h
   ·exact Nat.dvd_trans (Zj4 B f.b) (ZiV fs _)
   ·exact ZeK (fs:=fs) h
theorem Zfz:∀{fs:List Fr} {B:Nat},0<B->(∀f∈fs,0<f.b)->0<ZeJ B fs
 |[],_,h,_=>h
 |f::fs,B,h,hf=>Zfz (fs:=fs) (Nat.mul_pos h (Nat.div_pos (Nat.le_of_dvd (hf f Xb) (Xa9 _ _)) (Nat.gcd_pos_of_pos_left _ h))) (fun g hg=>hf g (Xd _ hg))
theorem Zo3 {e:Nat}:∀{fs:List Fr} {B c:Nat},B<=2^c->(∀f∈fs,f.b<=2^e)->ZeJ B fs<=2^(c+e*fs.length)
 |[],_,_,h,_=>h
 |f::fs,B,c,h,hf=>by
   have h1:B*(f.b/Nat.gcd B f.b)<=2^(c+e):=by
    rw[Nat.pow_add];exact Nat.mul_le_mul h (XS (Nat.div_le_self _ _) (hf f Xb))
   have h2:=Zo3 (fs:=fs) h1 (fun g hg=>hf g (Xd _ hg))
   rw[ZpV,XW,Nat.mul_add,Nat.mul_one,Nat.add_comm (e*fs.length),<- Nat.add_assoc];exact h2
theorem ZpK {fs:List Fr}{i:Nat}{f:Fr}(h:fs[i]?=some f):ZeJ 1 (fs.take (i+1))=ZeJ 1 (fs.take i)*(f.b/Nat.gcd (ZeJ 1 (fs.take i)) f.b):=by
 have e:fs.take (i+1)=fs.take i++[f]:=by rw[Xau,h];rfl
 rw[e];unfold ZeJ;rw[Xbp];rfl
theorem Zh4 {fs:List Fr}(h:∀f∈fs,f.b<=2^970)(hl:fs.length<=16):ZeJ 1 fs<=2^15600 :=
 XS (Zo3 (c:=0) (by decide) h) (XaH (by decide) (by omega))
inductive R_gdiv:List OT->OT->Prop
 |mk {a b:Nat}:R_gdiv [.fz (.int (a:Int)),.fz (.int (b:Int))] (.fz (.int ((Nat.gcd a b:Nat):Int)))
theorem Zbu:FnScope ["one", "other", "rest"] ["one", "other"] (Zaf Zcm):=by walk_at"p"
theorem Zrm (T:Bl mg) (D:Df K mg "greatest_divisor" Zcm ["one", "other"]):Cal P w K mg base "greatest_divisor" ["one", "other"] 1 (spO (K:=K) R_gdiv):=by
 refine D.ev Zbu (fun ts r h=>by cases h;rfl) (fun _ _ _ _ s H E ts r hr h=>?_)
 cases h with
 |@mk a b =>
   refine⟨_,(Zae (Zcj PassesOwn.never (Zbm Zuc (pv 1) Zah (ZbT _)) (Zae (Zar (i:=2) Zbu.nd rfl (Or.inl rfl) (Zat Zb5 (pv 0) (pv 1)))
 (Zae (Zar (i:=0) Zbu.nd rfl (Or.inl rfl) (pv 1))
 (Zai (Zar (i:=1) Zbu.nd rfl (Or.inl rfl) (pv 2))))))
 (Zai (Zax (pv 0)))),?_⟩
   show EvS K _ [some _,some _,none] _
   walk_at"x"
   refine Zhr (fun ρ'=>∃u:Option OT,ρ'=[some (.fz (.int ((Nat.gcd a b:Nat):Int))),some (.fz (.int 0)),u]) (Zc6 (fun m ρ'=>∃(x y:Nat) (u:Option OT),y=m/\Nat.gcd x y=Nat.gcd a b/\ρ'=[some (.fz (.int (x:Int))),some (.fz (.int (y:Int))),u]) b ⟨a,b,none,rfl,rfl,rfl⟩ ?w) ?z
   case w =>
    rintro m _ ⟨x,y,u,rfl,hg,rfl⟩
    refine⟨_,by walk_at"et",fun c=>?_,fun c=>?_⟩
    ·have c:¬(y:Int)=0:=by simpa using c
     have y0:0<y:=by omega
     have y1:(0:Int)<(y:Int):=by omega
     walk_at"ss"
     exact⟨x%y,Nat.mod_lt _ y0,y,x%y,_,rfl,ZkZ hg,rfl⟩
    ·have c:(y:Int)=0:=by simpa using c
     have y0:y=0:=by omega
     subst y0;rw[Nat.gcd_zero_right]at hg;rw[hg];exact⟨u,rfl⟩
   case z =>
    rintro _ ⟨u,rfl⟩
    walk_at"ret"
    rfl
inductive R_cbot:List OT->OT->Prop
 |mk {fs:List Fr} (h:∀f∈fs,0<f.b/\f.b<=2^970) (hl:fs.length<=16):R_cbot [.fz (.list (fs.map ZaV))] (.fz (.int (ZeJ 1 fs:Int)))
theorem Zcc:FnScope ["parts", "bottom", "part"] ["parts"] (Zaf Zde):=by walk_at"p"
theorem ZrS (T:Bl mg) (D:Df K mg "common_bottom" Zde ["parts"]) (XbK:Cal P w K mg base "greatest_divisor" ["one", "other"] 1 (spO (K:=K) R_gdiv)):Cal P w K mg base "common_bottom" ["parts"] 2 (spO (K:=K) R_cbot):=by
 refine D.ev Zcc (fun ts r h=>by cases h;rfl) (fun _ _ _ _ s H E ts r hr h=>?_)
 cases h with
 |@mk fs h hl =>
   refine⟨_,(Zae (Zar (i:=1) Zcc.nd rfl (Or.inl rfl) Zah)
 (Zae (Zbp PassesOwn.never rfl (ZbM (pv 0)) (Zao (i:=2) Zcc.nd rfl (Or.inl rfl)) (Zai (Zuh (i:=1) Zcc.nd rfl (Or.inl rfl) (Zat ZaE (Zav Zal (pv 2) Zah (fun _ _=>rfl)) (Zap XbK hr (Zaa (pv 1) (Zaa (Zav Zal (pv 2) Zah (fun _ _=>rfl)) Zad)) (hj:=by walk_at"j"))) Zsj)))
 (Zai (Zax (pv 1))))),?_⟩
   show EvS K _ [some _,none,none] _
   walk_at"x"
   refine Zaq (ZaT (d:=.int 1) Zay ?_)
   walk_at"d"
   refine Zaq (ZbN (ds:=fs.map ZaV) (fun i=>[some (.fz (.list (fs.map ZaV))),some (.fz (.int (ZeJ 1 (fs.take i):Int))),none]) ?ei ⟨rfl,rfl,trivial⟩ ?st ?fin)
   case ei=>exact Zcn (Zab rfl)
   case st =>
    intro i d hd;have hi:i<fs.length:=by
     have:=(Xe.mp hd).1
     simpa using this
    obtain rfl:d=ZaV fs[i]:=by simpa [hi] using hd.symm
    have hm:=h fs[i] (XM hi)
    have hp:ZeJ 1 (fs.take i)<=2^15600:=Zh4 (fun f hf=>(h f (Xbd hf)).2) (by rw[XaX];omega)
    have hp0:0<ZeJ 1 (fs.take i):=Zfz (by decide) (fun f hf=>(h f (Xbd hf)).1)
    have et:=ZpK (XH hi)
    rw[et];generalize ZeJ 1 (fs.take i)=B at hp hp0;refine⟨_,by walk_at"g",?_⟩
    walk_at"d"
    have g0:0<Nat.gcd B fs[i].b:=Nat.gcd_pos_of_pos_left _ hp0
    have g1:Nat.gcd B fs[i].b<=2^970:=XS (Nat.le_of_dvd hm.1 (Xa9 _ _)) hm.2
    have cb:ZfZ (fs[i].b:Int) ((Nat.gcd B fs[i].b:Nat):Int):=⟨by omega,by
     have:((Nat.gcd B fs[i].b:Nat):Int)<=((2^970:Nat):Int):=Xat.mpr g1
     exact XV this (by decide +kernel)⟩
    have qb:fs[i].b/Nat.gcd B fs[i].b<=2^970:=XS (Nat.div_le_self _ _) hm.2
    refine Zsx (m:=(B:Int)) (n:=((fs[i].b/Nat.gcd B fs[i].b:Nat):Int)) rfl (EvE.cast (ZaG (ZaK (ds:=[.int (fs[i].t:Int),.int (fs[i].b:Int)]) (Zab rfl) Zay rfl) (Za0 (Zac (Zab rfl) (Zac (ZaK (ds:=[.int (fs[i].t:Int),.int (fs[i].b:Int)]) (Zab rfl) Zay rfl) Zan)) R_gdiv.mk) cb) rfl) (Zhw (ltG hp) (ltG (leG qb))) ?_
    walk_at"d"
    refine⟨rfl,?_,trivial⟩
    rw[Xai]
   case fin =>
    intro ρ' hf;refine ZcW hf ?_
    rw[Xj,Xap];exact Zbs (Zab rfl) rfl
def Zc8 (B:Nat)(f:Fr):Int:=(phi B f:Int)
inductive R_tops:List OT->OT->Prop
 |mk {fs:List Fr} {B:Nat} (h:∀f∈fs,FrG f) (hd:∀f∈fs,f.b∣B) (hB:0<B) (h2:B<=2^15600) (hl:fs.length<=8):R_tops [.fz (.list (fs.map ZaV)),.fz (.int (B:Int))] (.ol (((Zdf fs).map (Zc8 B)).map PyData.int))
theorem Zjb:FnScope ["parts", "bottom"] ["parts", "bottom"] (Zaf ZdR):=by walk_at"p"
theorem ZrP (T:Bl mg) (D:Df K mg "tops_over" ZdR ["parts", "bottom"]):Cal P w K mg base "tops_over" ["parts", "bottom"] 1 (spO (K:=K) R_tops):=by
 refine D.ev Zjb (fun ts r h=>by cases h;rfl) (fun _ _ _ _ s H E ts r hr h=>?_)
 cases h with
 |@mk fs B h hd hB h2 hl =>
   refine⟨_,(Zai (Zax (Zaz Znr (by rfl) T.sorted ZoH (Zaa (Zfv (NX:=["parts", "bottom"]) (sc:=Zaf ZdR) (N:=["part", "bottom"]) (f:=[none,some 1]) rfl (by decide +kernel) rfl rfl (ZbM (pv 0)) (fun _=>(Zao (i:=0) (show(["part", "bottom"]:List Str).Nodup by decide +kernel) rfl (Or.inl rfl))) (fun _=>ZaX) (fun _=>Zb2) (fun _=>(Zat Zbn (Zav Zal (pv 0) Zah (fun _ _=>rfl)) (Zat ZaE (pv 1) (Zav Zal (pv 0) Zah (fun _ _=>rfl)))))) Zad)))),?_⟩
   show EvS K _ [some _,some _] _
   walk_at"x"
   refine ZeG (Zo9 (ns:=fs.map (Zc8 B)) (ms:=(Zdf fs).map (Zc8 B)) (EvE.cast (EvO.fz (ZeZ (xs:=fs) (enc:=ZaV) (h:=fun f=>.int (Zc8 B f)) ?ei (by omega) ?el)) (by rw[XQ];rfl)) ((ZaI fs).map _) ?so (by rw[Xj];omega)) rfl
   case ei=>exact Zcn (Zab rfl)
   case so =>
    rw[List.pairwise_map];exact(Zhq hB fun g hg=>⟨hd g hg,(h g hg).ok.1⟩).imp fun{a b} z=>Xat.mpr z
   case el =>
    intro x hx c;have hm:=h x hx
    have b0:=hm.ok.1
    refine⟨_,by walk_at"g",?_⟩
    walk_at"e"
    have cb:ZfZ (B:Int) (x.b:Int):=⟨by omega,by
     have:(x.b:Int)<=((2^970:Nat):Int):=Xat.mpr hm.b
     exact XV this (by decide +kernel)⟩
    have q:B/x.b<=2^15600:=XS (Nat.div_le_self _ _) h2
    have mk:=Zhw (a:=x.t) (b:=B/x.b) (ltG (leG (XY hm.t))) (ltG q)
    exact EvE.cast (ZaG (ZaK (ds:=[.int (x.t:Int),.int (x.b:Int)]) (Zab rfl) Zay rfl) (EvE.cast (d':=.int ((B/x.b:Nat):Int)) (ZaG (Zab rfl) (ZaK (ds:=[.int (x.t:Int),.int (x.b:Int)]) (Zab rfl) Zay rfl) cb) rfl) mk) (by unfold Zc8 phi;rw[Xai])
theorem Zio {B:Nat}(hB:0<B):∀{as bs:List Fr},(∀f∈as,f.Ok/\f.b∣B)->(∀f∈bs,f.Ok/\f.b∣B)->Zdi (as.map (Zc8 B)) (bs.map (Zc8 B))=Zm0 as bs
 |[],[],_,_=>rfl
 |[],_::_,_,_=>rfl
 |_::_,[],_,_=>rfl
 |f::as,g::bs,ha,hb=>by
   obtain⟨k1,k2⟩:=ZpB hB (ha f Xb).1 (hb g Xb).1 (ha f Xb).2 (hb g Xb).2
   have k1:Zc8 B f=Zc8 B g↔f=g:=k1
   have k2:Zc8 B g<Zc8 B f↔g.t*f.b<f.t*g.b:=k2
   have ih:=Zio hB (as:=as) (bs:=bs) (fun f hf=>ha f (Xd _ hf)) (fun f hf=>hb f (Xd _ hf))
   show(if Zc8 B f=Zc8 B g then Zdi (as.map (Zc8 B)) (bs.map (Zc8 B)) else decide (Zc8 B g<Zc8 B f))=if f=g then Zm0 as bs else decide (g.t*f.b<f.t*g.b)
   by_cases e:f=g
   ·rw[Xc e,Xc (k1.mpr e),ih]
   ·rw[Xa e,Xa (fun z=>e (k1.mp z))]
    exact decide_eq_decide.mpr k2
inductive R_fairer:List OT->OT->Prop
 |mk {as bs:List Fr} (ha:∀f∈as,FrG f) (hb:∀f∈bs,FrG f) (hl:as.length=bs.length) (h8:as.length<=8):R_fairer [.fz (.list (as.map ZaV)),.fz (.list (bs.map ZaV))] (.fz (.bool (Zm0 (Zdf as) (Zdf bs))))
theorem ZfT:FnScope ["one", "other", "bottom"] ["one", "other"] (Zaf ZeU):=by walk_at"p"
theorem ZnU (T:Bl mg) (D:Df K mg "is_fairer" ZeU ["one", "other"]) (XbL:Cal P w K mg base "common_bottom" ["parts"] 2 (spO (K:=K) R_cbot)) (XbQ:Cal P w K mg base "tops_over" ["parts", "bottom"] 1 (spO (K:=K) R_tops)):Cal P w K mg base "is_fairer" ["one", "other"] 3 (spO (K:=K) R_fairer):=by
 refine D.ev ZfT (fun ts r h=>by cases h;rfl) (fun _ _ _ _ s H E ts r hr h=>?_)
 cases h with
 |@mk as bs ha hb hl h8 =>
   have hu:=hr.units
   refine⟨_,(Zae (Zar (i:=2) ZfT.nd rfl (Or.inl rfl) (Zap XbL hr (Zaa (Zat ZnZ (pv 0) (pv 1)) Zad) (hj:=by walk_at"j")))
 (Zai (Zax (ZjY (Zuk hu) (Zap XbQ hr (Zaa (pv 0) (Zaa (pv 2) Zad)) (hj:=by walk_at"j")) (Zap XbQ hr (Zaa (pv 1) (Zaa (pv 2) Zad)) (hj:=by walk_at"j")) (ZbT _))))),?_⟩
   show EvS K _ [some _,some _,none] _
   walk_at"x"
   have hab:∀f∈as++bs,FrG f:=fun f hf=>by
    rcases XI.mp hf with hf|hf
    ·exact ha f hf
    ·exact hb f hf
   have l16:(as++bs).length<=16:=by rw[Xt];omega
   refine Zaq (ZaT (Za0 (Zac (EvE.cast (d':=.list ((as++bs).map ZaV)) (EvO.fz (Zne (as:=as.map ZaV) (bs:=bs.map ZaV) (Zab rfl) (Zab rfl) (by simp;omega))) (by rw[Xz])) Zan) (R_cbot.mk (fun f hf=>⟨(hab f hf).ok.1,(hab f hf).b⟩) l16)) ?_)
   walk_at"d"
   have hB:0<ZeJ 1 (as++bs):=Zfz (by decide) fun f hf=>(hab f hf).ok.1
   have h2:=Zh4 (fun f hf=>(hab f hf).b) l16
   have da:∀f∈as,f.b∣ZeJ 1 (as++bs):=fun f hf=>ZeK (Xae _ hf)
   have db:∀f∈bs,f.b∣ZeJ 1 (as++bs):=fun f hf=>ZeK (XJ _ hf)
   generalize ZeJ 1 (as++bs)=B at hB h2 da db;refine Zbs (ZsP (ns:=(Zdf as).map (Zc8 B)) (ms:=(Zdf bs).map (Zc8 B)) (Zds (Zac (Zab rfl) (Zac (Zab rfl) Zan)) (R_tops.mk ha da hB h2 h8)) (Zds (Zac (Zab rfl) (Zac (Zab rfl) Zan)) (R_tops.mk hb db hB h2 (by omega))) (by rw[Xj,Xj,(ZaI as).length_eq,(ZaI bs).length_eq,hl])) ?_
   rw[Zio hB (fun f hf=>have m:=(ZaI as).mem_iff.mp hf;⟨(ha f m).ok,da f m⟩) (fun f hf=>have m:=(ZaI bs).mem_iff.mp hf;⟨(hb f m).ok,db f m⟩)]
def frT (t:Int)(b:Nat):Int:=t/((Nat.gcd t.natAbs b:Nat):Int)
def frB (t:Int)(b:Nat):Nat:=b/Nat.gcd t.natAbs b
theorem Zid (t:Int){b:Nat}(h0:0<b):∃g:Nat,0<g/\g<=b/\Nat.gcd t.natAbs b=g/\t=(g:Int)*frT t b/\b=g*frB t b/\0<frB t b/\Nat.gcd (frT t b).natAbs (frB t b)=1:=by
 have hg:0<Nat.gcd t.natAbs b:=Nat.gcd_pos_of_pos_right _ h0
 have d1:Nat.gcd t.natAbs b∣t.natAbs:=Nat.gcd_dvd_left _ _
 have d2:Nat.gcd t.natAbs b∣b:=Xa9 _ _
 have d3:((Nat.gcd t.natAbs b:Nat):Int)∣t:=Int.ofNat_dvd_left.mpr d1
 have e1:((Nat.gcd t.natAbs b:Nat):Int)*frT t b=t:=Int.mul_ediv_cancel' d3
 have e2:Nat.gcd t.natAbs b*frB t b=b:=Nat.mul_div_cancel' d2
 have e3:t.natAbs=Nat.gcd t.natAbs b*(frT t b).natAbs:=by
  have:=Xaf Int.natAbs e1
  rw[Int.natAbs_mul,Int.natAbs_natCast]at this;exact this.symm
 have p0:0<frB t b:=Nat.pos_of_ne_zero fun z=>by rw[z,Nat.mul_zero]at e2;omega
 refine⟨Nat.gcd t.natAbs b,hg,Nat.le_of_dvd h0 d2,rfl,e1.symm,e2.symm,p0,?_⟩
 have e4:Nat.gcd (Nat.gcd t.natAbs b*(frT t b).natAbs) (Nat.gcd t.natAbs b*frB t b)=Nat.gcd t.natAbs b:=by rw[<- e3,e2]
 rw[Nat.gcd_mul_left]at e4;exact Nat.eq_of_mul_eq_mul_left hg (by rw[Nat.mul_one];exact e4)
theorem Zk7 (t:Int):ZgW t=((t.natAbs:Nat):Int):=by
 unfold ZgW;split<;>omega
inductive R_frac:List OT->OT->Prop
 |mk {t:Int} {b:Nat} (h0:0<b) (h1:(b:Int)<2^8000):R_frac [.fz (.int t),.fz (.int (b:Int))] (.fz (.tuple [.int (frT t b),.int (frB t b:Int)]))
theorem Zgw:FnScope ["top", "bottom", "divisor"] ["top", "bottom"] (Zaf Zf5):=by walk_at"p"
theorem Zs5 (T:Bl mg) (D:Df K mg "fraction" Zf5 ["top", "bottom"]) (XbK:Cal P w K mg base "greatest_divisor" ["one", "other"] 1 (spO (K:=K) R_gdiv)):Cal P w K mg base "fraction" ["top", "bottom"] 2 (spO (K:=K) R_frac):=by
 refine D.ev Zgw (fun ts r h=>by cases h;rfl) (fun _ _ _ _ s H E ts r hr h=>?_)
 cases h with
 |@mk t b h0 h1 =>
   refine⟨_,(Zae (Zar (i:=2) Zgw.nd rfl (Or.inl rfl) (Zap XbK hr (Zaa (Zaz Zlw (by rfl) T.abs Zlk (Zaa (pv 0) Zad)) (Zaa (pv 1) Zad)) (hj:=by walk_at"j")))
 (Zai (Zax (ZbK (Zaa (Zat ZaE (pv 0) (pv 2)) (Zaa (Zat ZaE (pv 1) (pv 2)) Zad)))))),?_⟩
   show EvS K _ [some _,some _,none] _
   walk_at"x"
   obtain⟨g,g1,g2,e,_⟩:=Zid t h0
   have e0:PyData.int (ZgW t)=PyData.int ((t.natAbs:Nat):Int):=by rw[Zk7]
   refine Zaq (ZaT (Za0 (Zac (EvE.cast (d:=.int (ZgW t)) (by walk_at"ev") e0) (Zac (by walk_at"ev") Zan)) R_gdiv.mk) ?_)
   walk_at"d"
   have c1:ZfZ t ((Nat.gcd t.natAbs b:Nat):Int):=⟨by omega,by omega⟩
   have c2:ZfZ (b:Int) ((Nat.gcd t.natAbs b:Nat):Int):=⟨by omega,by omega⟩
   refine Zbs (ZdV (ZaJ (ZaG (Zab rfl) (Zab rfl) c1) (ZaJ (ZaG (Zab rfl) (Zab rfl) c2) ZaU)) ZoX) ?_
   rfl
def gvS (y:Yd)(gs:List Gs)(S:Nat->Bool):Int:=Za6 y gs (Zb0 gs S)
def waN (gs:List Gs)(k:Nat):Int:=(gs.getD k default).want
def Za4 (sm:List Nat):Nat->Bool:=fun k=>decide (k∈sm)
theorem Zj5 {gs:List Gs}{S U:Nat->Bool}(h:∀k,k<gs.length->S k=U k):Zb0 gs S=Zb0 gs U:=List.filter_congr fun k hk=>h k (Xl.mp hk)
theorem ZtP {y:Yd}{gs:List Gs}(ok:y.Ok)(hg:∀g∈gs,g.Ok y):Giv gs.length (waN gs) (gvS y gs) where
 w1 k hk:=by
  show 1<=(gs.getD k default).want
  rw[Zdd hk];exact(hg _ (XM hk)).w1
 g0 S hS:=by
  unfold gvS;have e:Zb0 gs S=[]:=List.filter_eq_nil_iff.mpr fun k hk=>by rw[hS k (Xl.mp hk)];decide
  rw[e];exact Zff ok gs
 nn S:=by
  have e:Za6 y gs []=0:=Zff ok gs
  unfold gvS;rw[<- e];unfold Za6;rw[ZaH,ZaH];refine ZaW fun t _=>ZjP (fun _=>Xak _) (fun l=>?_) 0
  show(0:Int)<=Zbf gs (t:Int) l ((List.range gs.length).filter S)
  rw[Zf3];refine ZgP fun k hk=>?_
  split
  ·unfold wgt
   cases e:gs[k]? with
   |none=>simp
   |some g =>
     have:=(hg g (List.mem_of_getElem? e)).m1
     dsimp only;split<;>omega
  ·exact Xak _
 ext S U h:=by
  unfold gvS;rw[Zj5 h]
 sub S U:=by
  unfold gvS Za6;rw[ZaH,ZaH,ZaH,ZaH,<- Zbt,<- Zbt];exact ZaW fun t _=>Zkz (y:=y) (c:=fun k=>Za9 y k t) (Zqz (gs:=gs) (fun g h=>(hg g h).m1) (t:Int) S U gs.length)
theorem ZlS (gs:List Gs)(t:Int)(l:Nat){a b:List Nat}(h:a.Perm b):Zbf gs t l a=Zbf gs t l b:=by
 induction h with
 |nil=>rfl
 |cons x _ ih=>simp only[Zbf,ih]
 |swap x z r=>simp only[Zbf];omega
 |trans _ _ h1 h2=>rw[h1,h2]
theorem Zpp (f:Nat->Int){a b:List Nat}(h:a.Perm b):(a.map f).sum=(b.map f).sum:=by
 induction h with
 |nil=>rfl
 |cons x _ ih=>simp only[Xr,XaJ,ih]
 |swap x z r=>simp only[Xr,XaJ];omega
 |trans _ _ h1 h2=>rw[h1,h2]
structure NdS (gs:List Gs)(sm:List Nat):Prop where
 mem:∀k∈sm,k<gs.length
 nd:sm.Nodup
theorem NdS.perm {gs:List Gs}{sm:List Nat}(h:NdS gs sm):sm.Perm (Zb0 gs (Za4 sm)):=by
 refine(List.perm_ext_iff_of_nodup h.nd (Xbe.filter _)).mpr fun k=>?_
 rw[Xaa,Xl];unfold Za4;rw[decide_eq_true_eq];exact⟨fun z=>⟨h.mem k z,z⟩,fun z=>z.2⟩
theorem NdS.ok {gs:List Gs}{sm:List Nat}(h:NdS gs sm)(g8:gs.length<=8):SetOk gs sm:=⟨h.mem,by
 have:=h.perm.length_eq
 have h2:=(Zlj g8 (Za4 sm)).len
 omega⟩
theorem NdS.given {y:Yd}{gs:List Gs}{sm:List Nat}(h:NdS gs sm):Za6 y gs sm=gvS y gs (Za4 sm):=by
 unfold gvS Za6;congr 1
 refine XX fun t _=>?_
 unfold ZcK;rw[show Zej gs t sm=Zej gs t (Zb0 gs (Za4 sm)) from funext fun l=>ZlS gs (t:Int) l h.perm]
theorem NdS.wants {gs:List Gs}{sm:List Nat}(h:NdS gs sm):(sm.map (waN gs)).sum=wS gs.length (waN gs) (Za4 sm):=by
 rw[Zpp (waN gs) h.perm];exact ZcU (waN gs) (Za4 sm) gs.length
theorem ZdO (a b:List Nat)(k:Nat):Za4 (a++b) k=(Za4 a k||Za4 b k):=by
 unfold Za4;by_cases h1:k∈a<;>by_cases h2:k∈b<;>simp[h1,h2]
theorem ZfJ {y:Yd}{gs:List Gs}(a b:List Nat):gvS y gs (Za4 (a++b))=gvS y gs (fun k=>Za4 a k||Za4 b k):=by
 unfold gvS;rw[Zj5 fun k _=>ZdO a b k]
def ZdE (p q:Int)(g:Gs):Gs:=⟨g.line,g.first,g.last,g.want*p,g.most*q⟩
theorem ZiF (gs:List Gs)(p q:Int)(t:Int)(l:Nat):∀sm:List Nat,Zbf (gs.map (ZdE p q)) t l sm=Zbf gs t l sm*q
 |[]=>by simp[Zbf]
 |j::r=>by
   simp only[Zbf];rw[ZiF gs p q t l r,Xbh];congr 1
   rw[Xi];cases gs[j]? with
   |none=>simp
   |some g =>
     simp only[X8];by_cases h:g.line=l/\ZaY g t=true
     ·rw[Xc (show(ZdE p q g).line=l/\ZaY (ZdE p q g) t=true from h),Xc h]
      rfl
     ·rw[Xa (show ¬((ZdE p q g).line=l/\ZaY (ZdE p q g) t=true) from h),Xa h]
      simp
theorem Zfc {y:Yd}(gs:List Gs)(sm:List Nat){p q:Int}(h:0<=q):Za6 (Zaj y q) (gs.map (ZdE p q)) sm=q*Za6 y gs sm:=by
 rw[Za6,Za6,ZaH,ZaH,<- Zc5];refine Zag fun t _=>?_
 unfold ZcK Zej;have hu:∀j,Zb9 (Zaj y q) j=Zb9 y j:=fun j=>by
  simp only[Zb9,Zaj,Xi];cases y.ls[j]?<;>rfl
 have hb:(fun j=>Za9 (Zaj y q) j t)=fun j=>Za9 y j t*q:=by
  funext j
  simp only[Za9,Zaj,Xi];cases y.ls[j]? with
  |none=>simp
  |some ln =>
    simp only[X8,XaG,Zem,List.getD,Xi];cases ln.bs[t]?<;>simp
 have ho:(fun l=>Zbf (gs.map (ZdE p q)) (t:Int) l sm)=fun l=>Zbf gs (t:Int) l sm*q:=by
  funext l
  exact ZiF gs p q t l sm
 rw[hb,ho,Zhp h hu (by simp[Zaj]),Xk]
theorem ZnB (gs:List Gs)(p q:Int)(S:Nat->Bool):ZgF (gs.map (ZdE p q)) (Zb0 gs S)=p*wS gs.length (waN gs) S:=by
 unfold ZgF;have e:((Zb0 gs S).map fun k=>((gs.map (ZdE p q)).getD k default).want)=(Zb0 gs S).map fun k=>p*waN gs k:=XX fun k hk=>by
  have hk':k<gs.length:=Xl.mp (Xaa.mp hk).1
  unfold waN;simp only[List.getD,Xi,XH hk',X8,XaG];exact Xk _ _
 rw[e];unfold wS;rw[<- Zc5];have h:=ZcU (fun k=>p*waN gs k) S gs.length
 have h2:Zas (Zaw S fun k=>p*waN gs k) gs.length=Zas (fun k=>p*Zaw S (waN gs) k) gs.length:=Zag fun k _=>by
  unfold Zaw;dsimp only;split
  ·rfl
  ·simp
 rw[<- h2];exact h
theorem Zfb {gs gs':List Gs}(h:gs'.length=gs.length)(S:Nat->Bool):Zb0 gs' S=Zb0 gs S:=by
 unfold Zb0;rw[h]
theorem Zrs {y:Yd}{gs:List Gs}{p q:Int}(hq:0<=q)(ok':(Zaj y q).Ok)(hg':∀g∈gs.map (ZdE p q),GOk (Zaj y q) g){φ:Phi Nd}{es:Got Nd}(h:ZoO (Zaj y q) (Zbi (gs.map (ZdE p q))) φ es)(U:Nat->Bool) :
 p*wS gs.length (waN gs) U-q*gvS y gs U<=p*wS gs.length (waN gs) (Zd0 es)-q*gvS y gs (Zd0 es):=by
 have e:∀S,ZeY (Zaj y q) (Zbi (gs.map (ZdE p q))) S=p*wS gs.length (waN gs) S-q*gvS y gs S:=fun S=>by
  rw[Zjs,Zfb (gs:=gs) (gs':=gs.map (ZdE p q)) (by simp) S,ZnB,Zfc gs _ hq]
  rfl
 rw[<- e,<- e];have h1:=ZmB h.1 ok' (ZkP hg') U
 have h2:ZlX (Zaj y q) (Zbi (gs.map (ZdE p q))) φ=ZeY (Zaj y q) (Zbi (gs.map (ZdE p q))) (Zd0 es):=h.1.lack ok' (ZkP hg') h.2.2.1 h.2.1 h.2.2.2
 omega
structure Sml (y:Yd)(gs:List Gs):Prop where
 ok:y.Ok
 hg:∀g∈gs,g.Ok y
 g8:gs.length<=8
 b30:∀l∈y.ls,∀b∈l.bs,b<10^30
 w30:∀g∈gs,g.want<10^30/\g.most<10^30
theorem Sml.giv {y:Yd}{gs:List Gs}(h:Sml y gs):Giv gs.length (waN gs) (gvS y gs):=ZtP h.ok h.hg
inductive R_wwant:List OT->OT->Prop
 |mk {g:Gs} {n:Int}:R_wwant [.fz (eGs g),.fz (.int n)] (.fz (eGs ⟨g.line,g.first,g.last,n,g.most⟩))
theorem ZjF:FnScope ["guest", "want"] ["guest", "want"] (Zaf ZeS):=by walk_at"p"
theorem Zp0 (T:Bl mg) (D:Df K mg "with_want" ZeS ["guest", "want"]):Cal P w K mg base "with_want" ["guest", "want"] 1 (spO (K:=K) R_wwant):=by
 refine D.ev ZjF (fun ts r h=>by cases h;rfl) (fun _ _ _ _ s H E ts r hr h=>?_)
 cases h with
 |@mk g n =>
   refine⟨_,(Zai (Zax (ZbK (Zaa (Zav Zal (pv 0) Zah (fun _ _=>rfl)) (Zaa (Zav Zal (pv 0) Zah (fun _ _=>rfl)) (Zaa (Zav Zal (pv 0) Zah (fun _ _=>rfl)) (Zaa (pv 1) (Zaa (Zav Zal (pv 0) Zah (fun _ _=>rfl)) Zad)))))))),?_⟩
   show EvS K _ [some _,some _] _
   walk_at"x"
   have ix:∀{ρ:ZaZ} {k:Int} {d:PyData},ρ[0]?=some (some (.fz (eGs g)))->atI [.int (g.line:Int),.int (g.first:Int),.int (g.last:Int),.int g.want,.int g.most] k=some d->EvE K (tOp (rIx K) (Zb8 0) (tC (.int k))) ρ d:=fun e h=>ZaK (ds:=[.int (g.line:Int),.int (g.first:Int),.int (g.last:Int),.int g.want,.int g.most]) (Zab e) Zay h
   exact Zbs (ZdV (ZaJ (ix rfl rfl) (ZaJ (ix rfl rfl) (ZaJ (ix rfl rfl) (ZaJ (Zab rfl) (ZaJ (ix rfl rfl) ZaU))))) (by show(5:Nat)<=1000;decide)) rfl
def Zdh (gs:List Gs)(tf:Nat->Fr)(k:Int):List Gs:=(List.range gs.length).map fun i=>⟨(gs.getD i default).line,(gs.getD i default).first,(gs.getD i default).last,((tf i).t:Int)*k/((tf i).b:Int),(gs.getD i default).most*k⟩
theorem ZnV (gs:List Gs)(f:Gs->PyData)(g:Nat->PyData):Zmd (gs.map f) ((List.range gs.length).map g)=(List.range gs.length).map fun i=>.tuple [f (gs.getD i default),g i]:=by
 unfold Zmd;refine List.ext_getElem (by simp) fun i h1 h2=>?_
 have hi:i<gs.length:=by simpa using h2
 simp[List.getD,hi]
inductive R_asking:List OT->OT->Prop
 |mk {gs:List Gs} {p q:Int} (q1:1<=q) (q2:q<10^100) (p0:0<=p) (p2:p<10^100) (hw:∀g∈gs,(0<=g.want/\g.want<10^100)/\0<=g.most/\g.most<10^100) (g8:gs.length<=8) :
  R_asking [.fz (.list (gs.map eGs)),.fz (.list (gs.map fun g=>.tuple [.int (g.want*p),.int q])),.fz (.int q)] (.ol ((gs.map (ZdE p q)).map eGs))
 |mkF {gs:List Gs} {tf:Nat->Fr} {k:Int} (k1:1<=k) (k2:k<10^260) (ht:∀i,i<gs.length->0<(tf i).b/\(tf i).b<=2^103/\(tf i).t<2^210) (hw:∀g∈gs,(0<=g.want/\g.want<10^30)/\0<=g.most/\g.most<10^30) (g8:gs.length<=8) :
  R_asking [.fz (.list (gs.map eGs)),.fz (.list ((List.range gs.length).map fun i=>ZaV (tf i))),.fz (.int k)] (.ol ((Zdh gs tf k).map eGs))
theorem ZqK {a b:Int}(h0:0<=a)(h1:a<10^100)(h2:0<=b)(h3:b<10^100):0<=a*b/\a*b<10^200:=by
 refine⟨Xal h0 h2,?_⟩
 have e1:a*b<=(10^100-1)*(10^100-1):=Xbb (by omega) (by omega) h2 (by decide +kernel)
 exact XV e1 (by decide +kernel)
theorem ZcS {a:Int}(h:a<10^100):a<10^300:=X7 h (by decide +kernel)
theorem Zl3 {a:Int}(h:a<10^200):a<10^300:=X7 h (by decide +kernel)
theorem Zs0 (gs:List Gs)(p q:Int):Zmd ((gs.map fun g=>Zbo g q).map eGs) (gs.map fun g=>PyData.int (g.want*p))=gs.map fun g=>.tuple [eGs (Zbo g q),.int (g.want*p)]:=by
 unfold Zmd;rw[XQ];induction gs with
 |nil=>rfl
 |cons g gs ih =>
   simp only[Xr,List.zip_cons_cons];rw[ih];rfl
theorem Zjr:FnScope ["guests", "totals", "k", "wants"] ["guests", "totals", "k"] (Zaf Zfh):=by walk_at"p"
theorem ZnH (T:Bl mg) (D:Df K mg "asking" Zfh ["guests", "totals", "k"]) (Xcc:Cal P w K mg base "guests_times" ["guests", "k"] 2 (spO (K:=K) R_gsstimes)) (Xcd:Cal P w K mg base "with_want" ["guest", "want"] 1 (spO (K:=K) R_wwant)):Cal P w K mg base "asking" ["guests", "totals", "k"] 3 (spO (K:=K) R_asking):=by
 refine D.ev Zjr (fun ts r h=>by cases h<;>rfl) (fun _ _ _ _ s H E ts r hr h=>?_)
 refine⟨_,(Zae (Zdo (i:=3) Zjr.nd rfl rfl (NX:=["guests", "totals", "k", "wants"]) (sc:=Zaf Zfh) (N:=["total", "k"]) (f:=[none,some 2]) rfl (by decide +kernel) rfl rfl (ZbM (pv 1)) (fun _=>(Zao (i:=0) (show(["total", "k"]:List Str).Nodup by decide +kernel) rfl (Or.inl rfl))) (fun _=>ZaX) (fun _=>Zb2) (fun _=>(Zat ZaE (Zat Zbn (Zav Zal (pv 0) Zah (fun _ _=>rfl)) (pv 1)) (Zav Zal (pv 0) Zah (fun _ _=>rfl)))) rfl)
 (Zai (Zax (Zfv (NX:=["guests", "totals", "k", "wants"]) (sc:=Zaf Zfh) (N:=["guest", "want"]) (f:=[none,none]) rfl (by decide +kernel) rfl rfl (Zja rfl T.zip (Zaa (Zap Xcc hr (Zaa (pv 0) (Zaa (pv 2) Zad)) (hj:=by walk_at"j")) (Zaa (pv 3) Zad))) (fun _=>(ZcZ (n:=2) rfl (Za1 (Zao (i:=0) (show(["guest", "want"]:List Str).Nodup by decide +kernel) rfl (Or.inl rfl)) (Za1 (Zao (i:=1) (show(["guest", "want"]:List Str).Nodup by decide +kernel) rfl (Or.inl rfl)) Zcd)))) (fun _=>(ZmF (n:=2) (Ze2 ZaX (Ze2 ZaX Zkt)))) (fun _=>Zb2) (fun _=>(Zap Xcd hr (Zaa (pv 0) (Zaa (pv 1) Zad)) (hj:=by walk_at"j"))))))),?_⟩
 cases h with
 |@mk gs p q q1 q2 p0 p2 hw g8 =>
   show EvS K _ [some _,some _,some _,none] _
   walk_at"x"
   refine Zaq (ZbP (ZeZ (xs:=gs) (enc:=fun g=>.tuple [.int (g.want*p),.int q]) (h:=fun g=>.int (g.want*p)) ?ei (by omega) ?el) ?_)
   case ei=>exact Zcn (Zab rfl)
   case el =>
    intro g hg c;obtain⟨⟨w0,w1⟩,m0,m1⟩:=hw g hg
    have m:=ZqK w0 w1 p0 p2
    refine⟨_,ZaB,?_⟩
    walk_at"e"
    have cd:ZfZ (g.want*p*q) q:=⟨by omega,X7 q2 (by decide +kernel)⟩
    exact EvE.cast (ZaG (ZaG (ZaK (ds:=[.int (g.want*p),.int q]) (Zab rfl) Zay rfl) (Zab rfl) (ZcC m.1 (Zl3 m.2) (by omega) (ZcS q2))) (ZaK (ds:=[.int (g.want*p),.int q]) (Zab rfl) Zay rfl) cd) (by rw[Int.mul_ediv_cancel _ (by omega)])
   walk_at"d"
   refine ZeR 3 rfl ?_
   walk_at"d"
   refine ZeG (ZeZ (xs:=gs) (enc:=fun g=>.tuple [eGs (Zbo g q),.int (g.want*p)]) (h:=fun g=>eGs (ZdE p q g)) ?ei2 (by omega) ?el2) (by rw[XQ];rfl)
   case ei2 =>
    refine EvI.cast (Zh1 (Zac (Zds (Zac (Zab rfl) (Zac (Zab rfl) Zan)) (R_gsstimes.mk (k:=q) (fun g hg=>?_) g8)) (Zac (Zab rfl) Zan))) (Zs0 gs p q)
    obtain⟨⟨w0,w1⟩,m0,m1⟩:=hw g hg
    exact⟨ZcC w0 (ZcS w1) (by omega) (ZcS q2),ZcC m0 (ZcS m1) (by omega) (ZcS q2)⟩
   case el2 =>
    intro g hg c;refine⟨_,Zg1 (ds:=[eGs (Zbo g q),.int (g.want*p)]) (ZaL ZaB (ZaL ZaB Zep)) rfl,?_⟩
    walk_at"e"
    exact Za0 (Zac (Zab rfl) (Zac (Zab rfl) Zan)) (R_wwant.mk (g:=Zbo g q))
 |@mkF gs tf k k1 k2 ht hw g8 =>
   show EvS K _ [some _,some _,some _,none] _
   walk_at"x"
   have p30:∀{a:Int},a<10^30->a<10^300:=fun h=>X7 h (by decide +kernel)
   have k300:k<10^300:=X7 k2 (by decide +kernel)
   refine Zaq (ZbP (ZeZ (xs:=List.range gs.length) (enc:=fun i=>ZaV (tf i)) (h:=fun i=>.int (((tf i).t:Int)*k/((tf i).b:Int))) ?ei (by simp;omega) ?el) ?_)
   case ei=>exact Zcn (Zab rfl)
   case el =>
    intro i hi c;obtain⟨t1,t2,t3⟩:=ht i (Xl.mp hi)
    refine⟨_,ZaB,?_⟩
    walk_at"e"
    have cd:ZfZ (((tf i).t:Int)*k) ((tf i).b:Int):=⟨by omega,by
     have:((tf i).b:Int)<=((2^103:Nat):Int):=Xat.mpr t2
     exact XV this (by decide +kernel)⟩
    have tt:((tf i).t:Int)<10^300:=by
     have:((tf i).t:Int)<((2^210:Nat):Int):=Xas.mpr t3
     exact X7 this (by decide +kernel)
    exact ZaG (ZaG (ZaK (ds:=[.int ((tf i).t:Int),.int ((tf i).b:Int)]) (Zab rfl) Zay rfl) (Zab rfl) (ZcC (by omega) tt (by omega) k300)) (ZaK (ds:=[.int ((tf i).t:Int),.int ((tf i).b:Int)]) (Zab rfl) Zay rfl) cd
   walk_at"d"
   refine ZeR 3 rfl ?_
   walk_at"d"
   refine ZeG (ZeZ (xs:=List.range gs.length) (enc:=fun i=>.tuple [eGs (Zbo (gs.getD i default) k),.int (((tf i).t:Int)*k/((tf i).b:Int))]) (h:=fun i=>eGs ⟨(gs.getD i default).line,(gs.getD i default).first,(gs.getD i default).last,((tf i).t:Int)*k/((tf i).b:Int),(gs.getD i default).most*k⟩) ?ei2 (by simp;omega) ?el2) (by unfold Zdh;rw[XQ];rfl)
   case ei2 =>
    refine EvI.cast (Zh1 (Zac (Zds (Zac (Zab rfl) (Zac (Zab rfl) Zan)) (R_gsstimes.mk (k:=k) (fun g hg=>?_) g8)) (Zac (Zab rfl) Zan))) ?ez
    ·obtain⟨⟨w0,w1⟩,m0,m1⟩:=hw g hg
     exact⟨ZcC w0 (p30 w1) (by omega) k300,ZcC m0 (p30 m1) (by omega) k300⟩
    case ez =>
     rw[XQ];exact ZnV gs (fun g=>eGs (Zbo g k)) _
   case el2 =>
    intro i hi c;refine⟨_,Zg1 (ds:=[eGs (Zbo (gs.getD i default) k),.int (((tf i).t:Int)*k/((tf i).b:Int))]) (ZaL ZaB (ZaL ZaB Zep)) rfl,?_⟩
    walk_at"e"
    exact Za0 (Zac (Zab rfl) (Zac (Zab rfl) Zan)) (R_wwant.mk (g:=Zbo (gs.getD i default) k))
def shF (n m:Nat):Fr:=⟨(frT (n:Int) m).natAbs,frB (n:Int) m⟩
theorem Zfg {n m:Nat}(h:0<m):(shF n m).Ok/\((shF n m).t:Int)=frT (n:Int) m/\((shF n m).t:Int)*(m:Int)=((shF n m).b:Int)*(n:Int)/\(shF n m).b<=m:=by
 obtain⟨g,g1,g2,e,et,eb,p0,cp⟩:=Zid (n:Int) h
 have n0:0<=frT (n:Int) m:=Xac (show(g:Int)*0<=(g:Int)*frT (n:Int) m by rw[XaM,<- et];omega) (by omega)
 have en:((shF n m).t:Int)=frT (n:Int) m:=Int.natAbs_of_nonneg n0
 refine⟨⟨p0,cp⟩,en,?_,?_⟩
 ·rw[en]
  have eb':(m:Int)=(g:Int)*((shF n m).b:Int):=by
   show(m:Int)=(g:Int)*(frB (n:Int) m:Int)
   rw[<- Xai,<- eb]
  rw[eb'];have e2:((shF n m).b:Int)*(n:Int)=((shF n m).b:Int)*((g:Int)*frT (n:Int) m):=by rw[<- et]
  rw[e2];generalize frT (n:Int) m=a;generalize ((shF n m).b:Int)=b;rw[<- Xg,Xk a,Xk b,Xg,Xk a,<- Xg]
 ·show frB (n:Int) m<=m
  exact Nat.div_le_self _ _
def Zbk (y:Yd)(gs:List Gs)(A T:List Nat):Int:=gvS y gs (fun k=>Za4 A k||Za4 T k)-gvS y gs (Za4 A)
theorem NdS.app {gs:List Gs}{A T:List Nat}(hA:NdS gs A)(hT:NdS gs T)(hd:∀k∈T,k∉A):NdS gs (A++T):=⟨fun k hk=>by
 rcases XI.mp hk with h|h
 ·exact hA.mem k h
 ·exact hT.mem k h,XaS.mpr ⟨hA.nd,hT.nd,fun a ha b hb e=>hd b hb (e▸ha)⟩⟩
theorem Sml.want {y:Yd}{gs:List Gs}(h:Sml y gs)(S:Nat->Bool):wS gs.length (waN gs) S<=8*10^30:=by
 have h1:wS gs.length (waN gs) S<=Zas (fun _=>10^30) gs.length:=ZaW fun k hk=>by
  have h2:=h.w30 (gs.getD k default) (by rw[Zdd hk];exact XM hk)
  have h3:=h.giv.w1 k hk
  unfold Zaw;split
  ·show(gs.getD k default).want<=_
   omega
  ·decide +kernel
 have h2:∀n:Nat,Zas (fun _=>(10:Int)^30) n=10^30*(n:Int):=fun n=>by
  induction n with
  |zero=>rfl
  |succ n ih =>
    simp only[Zas];rw[ih,Int.natCast_add,XaV];omega
 rw[h2]at h1;have:=h.g8
 omega
theorem Zgi {y:Yd}{gs:List Gs}(h:Sml y gs)(S:Nat->Bool):((wS gs.length (waN gs) S).toNat:Int)=wS gs.length (waN gs) S:=XF (h.giv.w0 S)
theorem ZtB {y:Yd}{gs:List Gs}(h:Sml y gs){S:Nat->Bool}{n:Nat}(hp:1<=wS gs.length (waN gs) S)(hn:(n:Int)<=wS gs.length (waN gs) S):FrB (shF n (wS gs.length (waN gs) S).toNat):=by
 have hm:0<(wS gs.length (waN gs) S).toNat:=by omega
 obtain⟨a,b,c,d⟩:=Zfg (n:=n) hm
 have h8:=h.want S
 have e103:(8*10^30:Nat)<2^103:=by decide +kernel
 have h8':(wS gs.length (waN gs) S).toNat<=8*10^30:=by omega
 refine⟨a,?_,by omega⟩
 have:(shF n (wS gs.length (waN gs) S).toNat).t<=(shF n (wS gs.length (waN gs) S).toNat).b:=by
  rw[Zgi h]at c;have h3:((shF n (wS gs.length (waN gs) S).toNat).b:Int)*(n:Int)<=((shF n (wS gs.length (waN gs) S).toNat).b:Int)*wS gs.length (waN gs) S:=Xu hn (by omega)
  have h4:((shF n (wS gs.length (waN gs) S).toNat).t:Int)*wS gs.length (waN gs) S<=((shF n (wS gs.length (waN gs) S).toNat).b:Int)*wS gs.length (waN gs) S:=by omega
  have:=XaQ h4 (by omega)
  omega
 omega
inductive R_shleft:List OT->OT->Prop
 |mk {y:Yd} {gs:List Gs} {A T:List Nat} (h:Sml y gs) (hA:NdS gs A) (hT:NdS gs T) (hd:∀k∈T,k∉A) (ne:T≠[]) (hl:0<=Zbk y gs A T) :
  R_shleft [.fz (eYd y),.fz (.list (gs.map eGs)),.fz (.list (Zcv A)),.fz (.list (Zcv T))] (.fz (ZaV (shF (Zbk y gs A T).toNat (wS gs.length (waN gs) (Za4 T)).toNat)))
theorem NdS.pos {y:Yd}{gs:List Gs}(h:Sml y gs){T:List Nat}(hT:NdS gs T)(ne:T≠[]):1<=wS gs.length (waN gs) (Za4 T):=by
 obtain⟨k,hk⟩:=List.exists_mem_of_ne_nil T ne
 exact h.giv.wp (hT.mem k hk) (by unfold Za4;exact X9 hk)
theorem ZkG (a b:List Nat):Zcv (a++b)=Zcv a++Zcv b:=Xz
theorem Zfd:FnScope ["yard", "guests", "ahead", "some", "left"] ["yard", "guests", "ahead", "some"] (Zaf Zdm):=by walk_at"p"
theorem ZnS (T:Bl mg) (D:Df K mg "share_left" Zdm ["yard", "guests", "ahead", "some"]) (XbR:Cal P w K mg base "given_most" ["yard", "guests", "some"] 4 (spO (K:=K) R_givenm)) (XbM:Cal P w K mg base "fraction" ["top", "bottom"] 2 (spO (K:=K) R_frac)) (Xbu:Cal P w K mg base "want_of" ["guest"] 1 (spO (K:=K) R_want)):Cal P w K mg base "share_left" ["yard", "guests", "ahead", "some"] 5 (spO (K:=K) R_shleft):=by
 refine D.ev Zfd (fun ts r h=>by cases h;rfl) (fun _ _ _ _ s H E ts r hr h=>?_)
 cases h with
 |@mk y gs A T' h hA hT hd ne hl =>
   refine⟨_,(Zae (Zar (i:=4) Zfd.nd rfl (Or.inl rfl) (Zat Zg4 (Zap XbR hr (Zaa (pv 0) (Zaa (pv 1) (Zaa (Zat ZnZ (pv 2) (pv 3)) Zad))) (hj:=by walk_at"j")) (Zap XbR hr (Zaa (pv 0) (Zaa (pv 1) (Zaa (pv 2) Zad))) (hj:=by walk_at"j"))))
 (Zai (Zax (Zap XbM hr (Zaa (pv 4) (Zaa (Zaz Zhs (by rfl) T.sum Zh9 (Zaa (Zfv (NX:=["yard", "guests", "ahead", "some", "left"]) (sc:=Zaf Zdm) (N:=["number", "guests"]) (f:=[none,some 1]) rfl (by decide +kernel) rfl rfl (ZbM (pv 3)) (fun _=>(Zao (i:=0) (show(["number", "guests"]:List Str).Nodup by decide +kernel) rfl (Or.inl rfl))) (fun _=>ZaX) (fun _=>Zb2) (fun _=>(Zap Xbu hr (Zaa (Zav Zal (pv 1) (pv 0) (fun _ _=>rfl)) Zad) (hj:=by walk_at"j")))) Zad)) Zad)) (hj:=by walk_at"j"))))),?_⟩
   show EvS K _ [some _,some _,some _,some _,none] _
   walk_at"x"
   have g8:=h.g8
   have hAT:=hA.app hT hd
   have lA:=(hA.ok g8).len
   have lT:=(hT.ok g8).len
   have lnA:(Zcv A).length=A.length:=by simp[Zcv]
   have lnT:(Zcv T').length=T'.length:=by simp[Zcv]
   have hp:=NdS.pos h hT ne
   refine Zaq (ZaT (d:=.int (Zbk y gs A T')) (EvE.cast (ZdC (Za0 (Zac (Zab rfl) (Zac (Zab rfl) (Zac (EvE.cast (d':=.list (Zcv (A++T'))) (EvO.fz (Zne (Zab rfl) (Zab rfl) (by omega))) (by rw[ZkG])) Zan))) (R_givenm.mk h.ok h.hg (hAT.ok g8))) (Za0 (Zac (Zab rfl) (Zac (Zab rfl) (Zac (Zab rfl) Zan))) (R_givenm.mk h.ok h.hg (hA.ok g8)))) ?e1) ?_)
   case e1 =>
    rw[hAT.given,hA.given,ZfJ];rfl
   walk_at"d"
   have eb:(T'.map (waN gs)).sum=(((wS gs.length (waN gs) (Za4 T')).toNat:Nat):Int):=by rw[hT.wants,Zgi h]
   have et:Zbk y gs A T'=(((Zbk y gs A T').toNat:Nat):Int):=(XF hl).symm
   have h8:=h.want (Za4 T')
   refine Zbs (EvE.cast (Za0 (Zac (EvE.cast (Zab rfl) (Xaf PyData.int et)) (Zac (EvE.cast (ZhE (ns:=T'.map (waN gs)) (EvE.cast (EvO.fz (ZeZ (xs:=T') (enc:=fun(k:Nat)=>PyData.int (k:Int)) (h:=fun k=>.int (waN gs k)) ?ei (by omega) ?el)) (by rw[XQ];rfl)) rfl) (by rw[eb])) Zan)) (R_frac.mk (t:=((Zbk y gs A T').toNat:Int)) (b:=(wS gs.length (waN gs) (Za4 T')).toNat) (by omega) ?_)) ?eq) rfl
   case ei=>exact Zcn (Zab rfl)
   case el =>
    intro k hk c;have hk':=hT.mem k hk
    refine⟨_,ZaB,?_⟩
    walk_at"e"
    have it:atI (gs.map eGs) (k:Int)=some (eGs (gs.getD k default)):=by rw[ZfM (f:=eGs) (by omega) (by omega),Xn]
    exact Za0 (Zac (ZdT (Zab rfl) (Zab rfl) it) Zan) R_want.mk
   case eq =>
    show PyData.tuple [_,_]=_
    unfold ZaV;rw[(Zfg (n:=(Zbk y gs A T').toNat) (m:=(wS gs.length (waN gs) (Za4 T')).toNat) (by omega)).2.1]
    rfl
   ·have:((wS gs.length (waN gs) (Za4 T')).toNat:Int)<=8*10^30:=by omega
    exact XV this (by decide +kernel)
def Zs9 (y:Yd)(gs:List Gs)(A:List Nat)(f:Fr)(T:List Nat):Prop :=
 ∀U:Nat->Bool,(∀k,k<gs.length->U k=true->Za4 A k=false)->(f.t:Int)*wS gs.length (waN gs) U-(f.b:Int)*(gvS y gs (fun k=>Za4 A k||U k)-gvS y gs (Za4 A))<=(f.t:Int)*wS gs.length (waN gs) (Za4 T)-(f.b:Int)*Zbk y gs A T
inductive R_mshort:List OT->(OT->Prop)->Prop
 |mk {y:Yd} {gs:List Gs} {A:List Nat} {f:Fr} (h:Sml y gs) (hA:NdS gs A) (hf:FrB f) (hl:Low gs.length (waN gs) (gvS y gs) (Za4 A) f.t f.b) :
  R_mshort [.fz (eYd y),.fz (.list (gs.map eGs)),.fz (.list (Zcv A)),.fz (ZaV f)] (fun r=>∃T:List Nat,NdS gs T/\(∀k∈T,k∉A)/\Zs9 y gs A f T/\r=.ol (Zcv T))
theorem ZdH:FnScope ["yard", "guests", "ahead", "share", "totals", "some"] ["yard", "guests", "ahead", "share"] (Zaf ZcF):=by walk_at"p"
theorem ZoK (T:Bl mg) (D:Df K mg "most_short" ZcF ["yard", "guests", "ahead", "share"]) (Xbu:Cal P w K mg base "want_of" ["guest"] 1 (spO (K:=K) R_want)) (Xce:Cal P w K mg base "lacking_set" ["yard", "guests"] 6 (spD K R_lset)) (XbN:Cal P w K mg base "yard_times" ["yard", "k"] 2 (spO (K:=K) R_ydtimes)) (XbO:Cal P w K mg base "asking" ["guests", "totals", "k"] 3 (spO (K:=K) R_asking)):Cal P w K mg base "most_short" ["yard", "guests", "ahead", "share"] 7 (spD K R_mshort):=by
 refine D.evD ZdH (fun ts Φ h=>by cases h;rfl) (fun _ _ _ _ s H E ts Φ hr h=>?_)
 cases h with
 |@mk y gs A f h hA hf hl =>
   refine⟨_,(Zae (Zdo (i:=4) ZdH.nd rfl rfl (NX:=["yard", "guests", "ahead", "share", "totals", "some"]) (sc:=Zaf ZcF) (N:=["guest", "share"]) (f:=[none,some 3]) rfl (by decide +kernel) rfl rfl (ZbM (pv 1)) (fun _=>(Zao (i:=0) (show(["guest", "share"]:List Str).Nodup by decide +kernel) rfl (Or.inl rfl))) (fun _=>ZaX) (fun _=>Zb2) (fun _=>(ZbK (Zaa (Zat Zbn (Zap Xbu hr (Zaa (pv 0) Zad) (hj:=by walk_at"j")) (Zav Zal (pv 1) Zah (fun _ _=>rfl))) (Zaa (Zav Zal (pv 1) Zah (fun _ _=>rfl)) Zad)))) rfl)
 (Zae (Zar (i:=5) ZdH.nd rfl (Or.inl rfl) (Zap Xce hr (Zaa (Zap XbN hr (Zaa (pv 0) (Zaa (Zav Zal (pv 3) Zah (fun _ _=>rfl)) Zad)) (hj:=by walk_at"j")) (Zaa (Zap XbO hr (Zaa (pv 1) (Zaa (pv 4) (Zaa (Zav Zal (pv 3) Zah (fun _ _=>rfl)) Zad))) (hj:=by walk_at"j")) Zad)) (hj:=by walk_at"j")))
 (Zai (Zax (Zfv (NX:=["yard", "guests", "ahead", "share", "totals", "some"]) (sc:=Zaf ZcF) (N:=["number", "ahead"]) (f:=[none,some 2]) rfl (by decide +kernel) rfl rfl (ZbM (pv 5)) (fun _=>(Zao (i:=0) (show(["number", "ahead"]:List Str).Nodup by decide +kernel) rfl (Or.inl rfl))) (fun _=>ZaX) (fun _=>(Zk2 (Zbm ZfU (pv 0) (pv 1) rfl))) (fun _=>(pv 0))))))),?_⟩
   show EvS K _ [some _,some _,some _,some _,none,none] _
   walk_at"x"
   have g8:=h.g8
   have ok:=h.ok
   have b1:=hf.ok.1
   have e103:(2^103:Nat)<10^100:=by decide +kernel
   have f2:(f.b:Int)<10^100:=by
    have:=hf.b
    have:f.b<10^100:=by omega
    have e:(10:Int)^100=((10^100:Nat):Int):=by decide +kernel
    rw[e];exact Xas.mpr this
   have f1:(f.t:Int)<10^100:=by
    have:=hf.t
    have:f.t<10^100:=by omega
    have e:(10:Int)^100=((10^100:Nat):Int):=by decide +kernel
    rw[e];exact Xas.mpr this
   have p30:∀{a:Int},a<10^30->a<10^100:=fun h=>X7 h (by decide +kernel)
   have hw:∀g∈gs,(0<=g.want/\g.want<10^100)/\0<=g.most/\g.most<10^100:=fun g hg=>⟨⟨by have:=(h.hg g hg).w1;omega,p30 (h.w30 g hg).1⟩,by have:=(h.hg g hg).m1;omega,p30 (h.w30 g hg).2⟩
   have ix:∀{ρ:ZaZ} {i:Nat} {k:Int} {d:PyData},ρ[i]?=some (some (.fz (ZaV f)))->atI [.int (f.t:Int),.int (f.b:Int)] k=some d->EvE K (tOp (rIx K) (Zb8 i) (tC (.int k))) ρ d:=fun e h=>ZaK (ds:=[.int (f.t:Int),.int (f.b:Int)]) (Zab e) Zay h
   refine Zaq (ZbP (ZeZ (xs:=gs) (enc:=eGs) (h:=fun g=>.tuple [.int (g.want*(f.t:Int)),.int (f.b:Int)]) ?ei (by omega) ?el) ?_)
   case ei=>exact Zcn (Zab rfl)
   case el =>
    intro g hg c;obtain⟨⟨w0,w1⟩,m0,m1⟩:=hw g hg
    refine⟨_,ZaB,?_⟩
    walk_at"e"
    exact ZdV (ZaJ (ZaG (Za0 (Zac (Zab rfl) Zan) R_want.mk) (ix rfl rfl) (ZcC w0 (ZcS w1) (by omega) (ZcS f1))) (ZaJ (ix rfl rfl) ZaU)) ZoX
   walk_at"d"
   refine ZeR 4 rfl ?_
   walk_at"d"
   have bb:∀l∈y.ls,∀b∈l.bs,0<=b/\b<10^100:=fun l hl b hb=>⟨(ok.bb l hl b hb).1,p30 (h.b30 l hl b hb)⟩
   have ok':(Zaj y (f.b:Int)).Ok:=Zf8 ok (by omega) fun l hl b hb=>Zl3 (ZqK (bb l hl b hb).1 (bb l hl b hb).2 (by omega) f2).2
   have hg':∀g∈gs.map (ZdE (f.t:Int) (f.b:Int)),GOk (Zaj y (f.b:Int)) g:=fun g hg=>by
    obtain⟨g0,h0,rfl⟩:=Xx.mp hg
    obtain⟨⟨w0,w1⟩,m0,m1⟩:=hw g0 h0
    exact⟨by have:=(h.hg g0 h0).ln;simpa [Zaj,ZdE] using this,Xal w0 (by omega),Xal m0 (by omega)⟩
   refine Zaq (Zd6 (ZcJ (Zac (Za0 (Zac (Zab rfl) (Zac (ix rfl rfl) Zan)) (R_ydtimes.mk (fun l hl b hb=>ZcC (bb l hl b hb).1 (ZcS (bb l hl b hb).2) (by omega) (ZcS f2)) (fun l hl=>by rw[ok.bl l hl];exact ok.t8) ok.l5)) (Zac (Zds (Zac (Zab rfl) (Zac (Zab rfl) (Zac (ix rfl rfl) Zan))) (R_asking.mk (p:=(f.t:Int)) (q:=(f.b:Int)) (by omega) f2 (by omega) f1 hw g8)) Zan)) (R_lset.mk ok' hg' (by simpa using g8))) (fun r hr'=>?_))
   obtain⟨φ,es,fb,rfl⟩:=hr'
   walk_at"d"
   refine ZeR 5 rfl ?_
   walk_at"d"
   have esl:Zb0 (gs.map (ZdE (f.t:Int) (f.b:Int))) (Zd0 es)=Zb0 gs (Zd0 es):=Zfb (by simp) _
   rw[esl];have sl:=(Zlj g8 (Zd0 es)).len
   have mx:=Zrs (by omega) ok' hg' fb
   refine ZeG (r:=.ol (Zcv ((Zb0 gs (Zd0 es)).filter fun k => !decide (k∈A)))) (Zl1 (xs:=Zb0 gs (Zd0 es)) (enc:=fun(k:Nat)=>PyData.int (k:Int)) (h:=fun(k:Nat)=>PyData.int (k:Int)) (p:=fun k => !decide (k∈A)) ?ei2 (by omega) ?el2) ?fin
   case ei2=>exact Zcn (Zab rfl)
   case el2 =>
    intro k hk c;refine⟨_,ZaB,?_,fun _=>?_⟩
    ·walk_at"e"
     exact Zco (ZjG (Zab rfl) (Zab rfl))
    ·walk_at"e"
     exact Zab rfl
   case fin =>
    have em:∀k,k<gs.length->Za4 ((Zb0 gs (Zd0 es)).filter fun k => !decide (k∈A)) k=(Zd0 es k && !Za4 A k):=fun k hk=>by
     unfold Za4 Zb0;have:(k∈((List.range gs.length).filter (Zd0 es)).filter fun k => !decide (k∈A))↔(Zd0 es k=true/\¬k∈A):=by
      rw[Xaa,Xaa,Xl];simp[hk]
     rw[XaO,decide_eq_true_eq,this];simp
    refine⟨(Zb0 gs (Zd0 es)).filter fun k => !decide (k∈A),⟨fun k hk=>Xl.mp (Xaa.mp (Xaa.mp hk).1).1,(Xbe.filter _).filter _⟩,fun k hk=>by have:=(Xaa.mp hk).2;simpa using this,?_,rfl⟩
    intro U hU;have h1:=Zm7 h.giv hl (by omega) mx U hU
    have e1:wS gs.length (waN gs) (Za4 ((Zb0 gs (Zd0 es)).filter fun k => !decide (k∈A)))=wS gs.length (waN gs) (fun k=>Zd0 es k && !Za4 A k):=ZmC em
    have e2:gvS y gs (fun k=>Za4 A k||Za4 ((Zb0 gs (Zd0 es)).filter fun k => !decide (k∈A)) k)=gvS y gs (fun k=>Za4 A k||(Zd0 es k && !Za4 A k)):=h.giv.ext _ _ fun k hk=>by rw[em k hk]
    unfold Zbk;rw[e1,e2];exact h1
def ZlI (gs:List Gs)(A:List Nat):List Nat:=(List.range gs.length).filter fun k => !decide (k∈A)
theorem ZkT {gs:List Gs}{A:List Nat}{k:Nat}(hk:k<gs.length)(c:k∉A):k∈ZlI gs A:=Xaa.mpr ⟨Xl.mpr hk,by simp[c]⟩
structure NextOk (y:Yd)(gs:List Gs)(A:List Nat)(p q:Int)(f:Fr)(T:List Nat):Prop where
 fr:FrB f
 le:f.t<=f.b
 low:p*(f.b:Int)<=(f.t:Int)*q
 up:Up gs.length (waN gs) (gvS y gs) (Za4 A) f.t f.b
 nd:NdS gs T
 dis:∀k∈T,k∉A
 ne:T≠[]
 tight:f.t<f.b->(f.t:Int)*wS gs.length (waN gs) (Za4 T)=(f.b:Int)*Zbk y gs A T
 all:f.t=f.b->T=ZlI gs A
inductive R_nlevel:List OT->(OT->Prop)->Prop
 |mk {y:Yd} {gs:List Gs} {A:List Nat} {p q:Int} (h:Sml y gs) (hA:NdS gs A) (p0:0<=p) (pq:p<=q) (q0:0<q) (hl:Low gs.length (waN gs) (gvS y gs) (Za4 A) p q) (hu:Up gs.length (waN gs) (gvS y gs) (Za4 A) p q) (hm:A.length<gs.length) :
  R_nlevel [.fz (eYd y),.fz (.list (gs.map eGs)),.fz (.list (Zcv A))] (fun r=>∃f T,NextOk y gs A p q f T/\r=.fz (.tuple [ZaV f,.list (Zcv T)]))
theorem Zrl (a b:Fr):Zm0 (Zdf [a]) (Zdf [b])=decide (b.t*a.b<a.t*b.b):=by
 have e:∀x:Fr,Zdf [x]=[x]:=fun x=>rfl
 rw[e,e];show(if a=b then false else decide (b.t*a.b<a.t*b.b))=_
 by_cases c:a=b
 ·subst c
  rw[Xc rfl];exact(Xy (by omega)).symm
 ·rw[Xa c]
theorem Ziu {y:Yd}{gs:List Gs}(h:Sml y gs){A T:List Nat}{p q:Int}(p0:0<=p)(q0:0<q)(hu:Up gs.length (waN gs) (gvS y gs) (Za4 A) p q)(hd:∀k∈T,k∉A):p*wS gs.length (waN gs) (Za4 T)<=q*Zbk y gs A T/\0<=Zbk y gs A T:=by
 have h1:=hu (Za4 T) (fun k _ e=>Xy (hd k (XD e)))
 refine⟨h1,?_⟩
 have h2:0<=p*wS gs.length (waN gs) (Za4 T):=Xal p0 (h.giv.w0 _)
 refine Xac (a:=q) ?_ q0
 rw[XaM];show 0<=q*(gvS y gs (fun k=>Za4 A k||Za4 T k)-gvS y gs (Za4 A))
 omega
theorem ZhC {y:Yd}{gs:List Gs}(h:Sml y gs){A T:List Nat}{p q:Int}{f:Fr}(p0:0<=p)(q0:0<q)(hu:Up gs.length (waN gs) (gvS y gs) (Za4 A) p q)(hT:NdS gs T)(hd:∀k∈T,k∉A)(ne:T≠[])(f1:f.t<=f.b)(fb:0<f.b)
 (lt:(shF (Zbk y gs A T).toNat (wS gs.length (waN gs) (Za4 T)).toNat).t*f.b<f.t*(shF (Zbk y gs A T).toNat (wS gs.length (waN gs) (Za4 T)).toNat).b) :
 ∃n:Fr,n=shF (Zbk y gs A T).toNat (wS gs.length (waN gs) (Za4 T)).toNat/\FrB n/\n.t<n.b/\p*(n.b:Int)<=(n.t:Int)*q/\(n.t:Int)*wS gs.length (waN gs) (Za4 T)=(n.b:Int)*Zbk y gs A T/\(n.t:Int)*(f.b:Int)<(f.t:Int)*(n.b:Int)/\(f.b:Int)*Zbk y gs A T<(f.t:Int)*wS gs.length (waN gs) (Za4 T):=by
 obtain⟨l1,l2⟩:=Ziu h p0 q0 hu hd
 have hp:=NdS.pos h hT ne
 have hm:0<(wS gs.length (waN gs) (Za4 T)).toNat:=by omega
 obtain⟨a,b,c,d⟩:=Zfg (n:=(Zbk y gs A T).toNat) hm
 have eL:(((Zbk y gs A T).toNat:Nat):Int)=Zbk y gs A T:=XF l2
 rw[Zgi h,eL]at c;have hfb:=fun hn=>ZtB h (S:=Za4 T) (n:=(Zbk y gs A T).toNat) hp hn
 generalize hn:shF (Zbk y gs A T).toNat (wS gs.length (waN gs) (Za4 T)).toNat=n at a c d lt hfb;generalize hW:wS gs.length (waN gs) (Za4 T)=W at c l1 hp hfb;generalize hL:Zbk y gs A T=L at c l1 l2 eL hfb;have b1:=a.1
 have lt':(n.t:Int)*(f.b:Int)<(f.t:Int)*(n.b:Int):=by rw[<- Xai,<- Xai];exact Xas.mpr lt
 have tb:n.t<n.b:=by
  refine Nat.lt_of_not_le fun z=>?_
  have h1:f.t*n.b<=n.t*f.b:=XS (Nat.mul_le_mul_right _ f1) (by rw[XaZ];exact Nat.mul_le_mul_right _ z)
  omega
 have s1:(f.b:Int)*L<(f.t:Int)*W:=by
  have h1:(n.t:Int)*(f.b:Int)*W<(f.t:Int)*(n.b:Int)*W:=Int.mul_lt_mul_of_pos_right lt' (by omega)
  have e1:(n.t:Int)*(f.b:Int)*W=(n.b:Int)*((f.b:Int)*L):=by
   rw[Xk (n.t:Int),Xg,c,<- Xg,Xk (f.b:Int),Xg]
  have e2:(f.t:Int)*(n.b:Int)*W=(n.b:Int)*((f.t:Int)*W):=by rw[Xk (f.t:Int),Xg]
  rw[e1,e2]at h1;exact Int.lt_of_mul_lt_mul_left h1 (by omega)
 have LW:L<=W:=by
  have h2:(f.t:Int)*W<=(f.b:Int)*W:=XR (by omega) (by omega)
  have h3:(f.b:Int)*L<(f.b:Int)*W:=by omega
  exact Int.le_of_lt (Int.lt_of_mul_lt_mul_left h3 (by omega))
 refine⟨n,hn.symm▸rfl,hfb (by rw[eL];exact LW),tb,?_,c,lt',s1⟩
 have h1:(n.b:Int)*(p*W)<=(n.b:Int)*(q*L):=Xu l1 (by omega)
 have e1:(n.b:Int)*(q*L)=q*((n.t:Int)*W):=by rw[c,<- Xg,Xk (n.b:Int),Xg]
 rw[e1]at h1;have h2:p*(n.b:Int)*W<=(n.t:Int)*q*W:=by
  have e2:p*(n.b:Int)*W=(n.b:Int)*(p*W):=by rw[Xk p,Xg]
  have e3:(n.t:Int)*q*W=q*((n.t:Int)*W):=by rw[Xk (n.t:Int),Xg]
  omega
 exact XaQ h2 (by omega)
theorem Zul:∀n:Nat,Zas (fun _=>(10:Int)^30) n=10^30*(n:Int)
 |0=>rfl
 |n+1=>by
   simp only[Zas];rw[Zul n,Int.natCast_add,XaV];omega
theorem Sml.gv8 {y:Yd}{gs:List Gs}(h:Sml y gs)(S:Nat->Bool):gvS y gs S<=8*10^30:=by
 have h1:gvS y gs S<=Zas (fun _=>(10:Int)^30) y.T:=by
  unfold gvS;rw[Za6,ZaH];refine ZaW fun t ht=>?_
  have hb:Za9 y 0 t<10^30:=by
   have l1:=h.ok.l1
   have hb:Za9 y 0 t=(ZeE y 0).bs.getD t 0:=Zc3 (by omega)
   rw[hb];have e:ZeE y 0∈y.ls:=by
    have:ZeE y 0=y.ls[0]:=by unfold ZeE;rw[List.getD,XH (by omega)];rfl
    rw[this];exact XM _
   have e2:t<(ZeE y 0).bs.length:=by rw[h.ok.bl _ e];exact ht
   have e3:(ZeE y 0).bs.getD t 0=(ZeE y 0).bs[t]:=by simp[List.getD,e2]
   rw[e3];exact h.b30 _ e _ (XM e2)
  unfold ZcK Zba;dsimp only;omega
 rw[Zul]at h1;have:=h.ok.t8
 omega
theorem Zsf {y:Yd}{gs:List Gs}(h:Sml y gs)(A T:List Nat):Zbk y gs A T<=8*10^30:=by
 have h1:=h.gv8 (fun k=>Za4 A k||Za4 T k)
 have h2:=h.giv.nn (Za4 A)
 unfold Zbk;omega
theorem Zrb {y:Yd}{gs:List Gs}(h:Sml y gs){S:Nat->Bool}{n:Nat}(hp:1<=wS gs.length (waN gs) S)(hn:(n:Int)<=8*10^30):FrB (shF n (wS gs.length (waN gs) S).toNat):=by
 have hm:0<(wS gs.length (waN gs) S).toNat:=by omega
 obtain⟨a,b,c,d⟩:=Zfg (n:=n) hm
 obtain⟨g,g1,g2,e,et,eb,p0,cp⟩:=Zid (n:Int) hm
 have h8:=h.want S
 have e103:(8*10^30:Nat)<2^103:=by decide +kernel
 have h8':(wS gs.length (waN gs) S).toNat<=8*10^30:=by omega
 refine⟨a,?_,by omega⟩
 have:((shF n (wS gs.length (waN gs) S).toNat).t:Int)<=(n:Int):=by
  rw[b];have x0:0<=frT (n:Int) (wS gs.length (waN gs) S).toNat:=by rw[<- b];omega
  generalize frT (n:Int) (wS gs.length (waN gs) S).toNat=x at et x0;have:1*x<=(g:Int)*x:=XR (by omega) x0
  omega
 omega
structure LoopN (y:Yd)(gs:List Gs)(A:List Nat)(p q:Int)(f:Fr)(L T:List Nat):Prop where
 fr:FrB f
 le:f.t<=f.b
 low:p*(f.b:Int)<=(f.t:Int)*q
 nd:NdS gs L
 dis:∀k∈L,k∉A
 ne:L≠[]
 tight:f.t<f.b->(f.t:Int)*wS gs.length (waN gs) (Za4 L)=(f.b:Int)*Zbk y gs A L
 all:f.t=f.b->L=ZlI gs A
 tnd:NdS gs T
 tdis:∀k∈T,k∉A
 most:Zs9 y gs A f T
def ZeB (y:Yd)(gs:List Gs)(A:List Nat)(f:Fr)(T:List Nat):Bool := !T.isEmpty&&decide ((shF (Zbk y gs A T).toNat (wS gs.length (waN gs) (Za4 T)).toNat).t*f.b<f.t*(shF (Zbk y gs A T).toNat (wS gs.length (waN gs) (Za4 T)).toNat).b)
theorem Zqr {y:Yd}{gs:List Gs}(h:Sml y gs){A L T:List Nat}{p q:Int}{f:Fr}(p0:0<=p)(q0:0<q)(hu:Up gs.length (waN gs) (gvS y gs) (Za4 A) p q)(I:LoopN y gs A p q f L T)(hg:ZeB y gs A f T=false):NextOk y gs A p q f L:=by
 refine⟨I.fr,I.le,I.low,?_,I.nd,I.dis,I.ne,I.tight,I.all⟩
 refine ZlP (T:=Za4 T) I.most ?_
 by_cases ne:T=[]
 ·subst ne
  have e1:wS gs.length (waN gs) (Za4 [])=0:=ZrU fun k _=>rfl
  have e2:gvS y gs (fun k=>Za4 A k||Za4 [] k)=gvS y gs (Za4 A):=h.giv.ext _ _ fun k _=>by simp[Za4]
  rw[e1,e2];omega
 ·have ne':T.isEmpty=false:=by cases T with|nil=>exact Xp rfl ne|cons _ _=>rfl
  unfold ZeB at hg;rw[ne']at hg;rw[Xbo,Bool.true_and]at hg;have hg:=X5 hg
  obtain⟨l1,l2⟩:=Ziu h p0 q0 hu I.tdis
  have hp:=NdS.pos h I.tnd ne
  have hm:0<(wS gs.length (waN gs) (Za4 T)).toNat:=by omega
  obtain⟨a,b,c,d⟩:=Zfg (n:=(Zbk y gs A T).toNat) hm
  rw[Zgi h,XF l2]at c;generalize shF (Zbk y gs A T).toNat (wS gs.length (waN gs) (Za4 T)).toNat=n at a c d hg;have b1:=a.1
  have hg':(f.t:Int)*(n.b:Int)<=(n.t:Int)*(f.b:Int):=by rw[<- Xai,<- Xai];exact Xat.mpr (by omega)
  show(f.t:Int)*wS gs.length (waN gs) (Za4 T)<=(f.b:Int)*Zbk y gs A T
  generalize wS gs.length (waN gs) (Za4 T)=W at c hp;generalize Zbk y gs A T=L at c;have h1:(f.t:Int)*(n.b:Int)*W<=(n.t:Int)*(f.b:Int)*W:=XR hg' (by omega)
  have e1:(n.t:Int)*(f.b:Int)*W=(n.b:Int)*((f.b:Int)*L):=by
   rw[Xk (n.t:Int),Xg,c,<- Xg,Xk (f.b:Int),Xg]
  have e2:(f.t:Int)*(n.b:Int)*W=(n.b:Int)*((f.t:Int)*W):=by rw[Xk (f.t:Int),Xg]
  rw[e1,e2]at h1;exact Xac h1 (by omega)
def Zt5 (y:Yd)(gs:List Gs)(A:List Nat)(f:Fr)(T:List Nat):Nat:=if ZeB y gs A f T=true then (wS gs.length (waN gs) (Za4 T)).toNat+1 else 0
theorem Zoz {y:Yd}{gs:List Gs}(h:Sml y gs){A T T':List Nat}{p q:Int}{f n:Fr}(p0:0<=p)(q0:0<q)(hu:Up gs.length (waN gs) (gvS y gs) (Za4 A) p q)(hT:NdS gs T)(hd':∀k∈T',k∉A)(hT':NdS gs T')(mo:Zs9 y gs A f T)(fb:0<f.b)(nb:0<n.b)(nt:n.t<=n.b)
 (tight:(n.t:Int)*wS gs.length (waN gs) (Za4 T)=(n.b:Int)*Zbk y gs A T) (lt:(n.t:Int)*(f.b:Int)<(f.t:Int)*(n.b:Int)) (hg:ZeB y gs A f T=true):Zt5 y gs A n T'<Zt5 y gs A f T:=by
 unfold Zt5;rw[Xc hg];by_cases c:ZeB y gs A n T'=true
 ·rw[Xc c]
  unfold ZeB at c;obtain⟨c1,c2⟩:=XaU.mp c
  have ne:T'≠[]:=fun z=>by subst z;simp at c1
  obtain⟨n',_,_,_,_,_,_,s2⟩:=ZhC h p0 q0 hu hT' hd' ne nt nb (XD c2)
  have m1:=mo (Za4 T') (fun k _ e=>Xy (hd' k (XD e)))
  have:=ZnT (p:=(f.t:Int)) (q:=(f.b:Int)) (p':=(n.t:Int)) (q':=(n.b:Int)) (W:=wS gs.length (waN gs) (Za4 T)) (W':=wS gs.length (waN gs) (Za4 T')) (x:=Zbk y gs A T) (x':=Zbk y gs A T') (by omega) (by omega) lt tight m1 s2
  have:=h.giv.w0 (Za4 T')
  omega
 ·rw[Xa c]
  omega
theorem Zbr:FnScope ["yard", "guests", "ahead", "share", "level", "some"] ["yard", "guests", "ahead"] (Zaf Zdt):=by walk_at"p"
theorem ZoT (T:Bl mg) (D:Df K mg "next_level" Zdt ["yard", "guests", "ahead"]) (XbS:Cal P w K mg base "most_short" ["yard", "guests", "ahead", "share"] 7 (spD K R_mshort)) (XbF:Cal P w K mg base "is_fairer" ["one", "other"] 3 (spO (K:=K) R_fairer)) (XbT:Cal P w K mg base "share_left" ["yard", "guests", "ahead", "some"] 5 (spO (K:=K) R_shleft)):Cal P w K mg base "next_level" ["yard", "guests", "ahead"] 8 (spD K R_nlevel):=by
 refine D.evD Zbr (fun ts Φ h=>by cases h;rfl) (fun _ _ _ _ s H E ts Φ hr h=>?_)
 cases h with
 |@mk y gs A p q h hA p0 pq q0 hl hu hm =>
   refine⟨_,(Zae (Zar (i:=3) Zbr.nd rfl (Or.inl rfl) (ZbK (Zaa Zah (Zaa Zah Zad))))
 (Zae (Zdo (i:=4) Zbr.nd rfl rfl (NX:=["yard", "guests", "ahead", "share", "level", "some"]) (sc:=Zaf Zdt) (N:=["number", "ahead"]) (f:=[none,some 2]) rfl (by decide +kernel) rfl rfl (ZaQ rfl T.range (Zaa (Zaz Zcq (by rfl) T.len Zck (Zaa (pv 1) Zad)) Zad)) (fun _=>(Zao (i:=0) (show(["number", "ahead"]:List Str).Nodup by decide +kernel) rfl (Or.inl rfl))) (fun _=>ZaX) (fun _=>(Zk2 (Zbm ZfU (pv 0) (pv 1) rfl))) (fun _=>(pv 0)) rfl)
 (Zae (Zar (i:=5) Zbr.nd rfl (Or.inl rfl) (Zap XbS hr (Zaa (pv 0) (Zaa (pv 1) (Zaa (pv 2) (Zaa (pv 3) Zad)))) (hj:=by walk_at"j")))
 (Zae (Zcj PassesOwn.never (PW.pt (ZkM (ZkU (pv 5) (fun _=>rfl)) (Zic (ZgD (Zap XbF hr (Zaa (ZbL (Zaa (pv 3) Zad)) (Zaa (ZbL (Zaa (Zap XbT hr (Zaa (pv 0) (Zaa (pv 1) (Zaa (pv 2) (Zaa (pv 5) Zad)))) (hj:=by walk_at"j")) Zad)) Zad)) (hj:=by walk_at"j")))))) (Zae (Zar (i:=3) Zbr.nd rfl (Or.inl rfl) (Zap XbT hr (Zaa (pv 0) (Zaa (pv 1) (Zaa (pv 2) (Zaa (pv 5) Zad)))) (hj:=by walk_at"j")))
 (Zae (Zar (i:=4) Zbr.nd rfl (Or.inl rfl) (pv 5))
 (Zai (Zar (i:=5) Zbr.nd rfl (Or.inl rfl) (Zap XbS hr (Zaa (pv 0) (Zaa (pv 1) (Zaa (pv 2) (Zaa (pv 3) Zad)))) (hj:=by walk_at"j")))))))
 (Zai (Zax (ZbK (Zaa (pv 3) (Zaa (pv 4) Zad))))))))),?_⟩
   show EvS K _ [some _,some _,some _,none,none,none] _
   walk_at"x"
   have g8:=h.g8
   have gl:(gs.map eGs).length=gs.length:=by simp
   have one:FrB ⟨1,1⟩:=⟨⟨by decide,by decide⟩,by decide,by decide⟩
   have hlow:∀{f:Fr},0<f.b->p*(f.b:Int)<=(f.t:Int)*q->Low gs.length (waN gs) (gvS y gs) (Za4 A) f.t f.b:=fun b1 lo=>hl.more h.giv q0 (by omega) lo
   refine Zaq (ZaT (d:=ZaV ⟨1,1⟩) (ZdV (ZaJ Zay (ZaJ Zay ZaU)) ZoX) ?_)
   walk_at"d"
   refine Zaq (ZbP (r:=.ol (Zcv (ZlI gs A))) (Zl1 (xs:=List.range gs.length) (enc:=fun(k:Nat)=>PyData.int (k:Int)) (h:=fun(k:Nat)=>PyData.int (k:Int)) (p:=fun k => !decide (k∈A)) ?ei (by simp;omega) ?el) ?_)
   case ei =>
    refine EvI.cast (ZbQ (Zac (Zer (Zab rfl)) Zan) (by rw[z62,gl];omega) (by rw[z62,gl];omega)) ?_
    rw[gl,Xn];unfold ZfX;refine XX fun i _=>?_
    rw[Xao]
   case el =>
    intro k hk c;refine⟨_,ZaB,?_,fun _=>?_⟩
    ·walk_at"e"
     exact Zco (ZjG (Zab rfl) (Zab rfl))
    ·walk_at"e"
     exact Zab rfl
   walk_at"d"
   refine ZeR 4 rfl ?_
   walk_at"d"
   refine Zaq (Zd6 (ZcJ (Zac (Zab rfl) (Zac (Zab rfl) (Zac (Zab rfl) (Zac (Zab rfl) Zan)))) (R_mshort.mk h hA one (hlow (by decide) (by show p*1<=1*q;omega)))) (fun r hr'=>?_))
   obtain⟨T1,t1,t2,t3,rfl⟩:=hr'
   walk_at"d"
   have I0:LoopN y gs A p q ⟨1,1⟩ (ZlI gs A) T1:=⟨one,Xw _,by show p*1<=1*q;omega,⟨fun k hk=>Xl.mp (Xaa.mp hk).1,Xbe.filter _⟩,fun k hk=>by have:=(Xaa.mp hk).2;simpa using this,fun z=>by
    have:∀k,k<gs.length->k∈A:=fun k hk=>Decidable.byContradiction fun c=>by
     have:k∈ZlI gs A:=Xaa.mpr ⟨Xl.mpr hk,by simp[c]⟩
     rw[z]at this;cases this
    have l1:=hA.perm.length_eq
    have l2:Zb0 gs (Za4 A)=List.range gs.length:=List.filter_eq_self.mpr fun k hk=>X9 (this k (Xl.mp hk))
    rw[l2,XaR]at l1;omega,fun c=>Xp c (by decide),fun _=>rfl,t1,t2,t3⟩
   have esl:∀{ρ:ZaZ} {E':XK} {T':List Nat},ρ[0]?=some (some (.fz (eYd y)))->ρ[1]?=some (some (.fz (.list (gs.map eGs))))->ρ[2]?=some (some (.fz (.list (Zcv A))))->ρ[5]?=some (some (.fz (.list (Zcv T'))))->NdS gs T'->(∀k∈T',k∉A)->T'≠[] ->
    EvE K (Zih (spO (K:=K) R_shleft) [] E' (ZaM (Zb8 0) (ZaM (Zb8 1) (ZaM (Zb8 2) (ZaM (Zb8 5) Zd8))))) ρ (ZaV (shF (Zbk y gs A T').toNat (wS gs.length (waN gs) (Za4 T')).toNat)):=fun e0 e1 e2 e5 n1 n2 n3=>Za0 (Zac (Zab e0) (Zac (Zab e1) (Zac (Zab e2) (Zac (Zab e5) Zan)))) (R_shleft.mk h hA n1 n2 n3 (Ziu h p0 q0 hu n2).2)
   refine Zhr (fun ρ'=>∃f' L' u,NextOk y gs A p q f' L'/\ρ'=[some (.fz (eYd y)),some (.fz (.list (gs.map eGs))),some (.fz (.list (Zcv A))),some (.fz (ZaV f')),some (.fz (.list (Zcv L'))),u]) ?wh ?rt
   case rt =>
    rintro _ ⟨f',L',u,hN,rfl⟩
    exact Zbs (ZdV (ZaJ (Zab rfl) (ZaJ (Zab rfl) ZaU)) ZoX) ⟨f',L',hN,rfl⟩
   case wh =>
    refine Zc6 (fun m ρ'=>∃f' L' T',m=Zt5 y gs A f' T'/\LoopN y gs A p q f' L' T'/\ρ'=[some (.fz (eYd y)),some (.fz (.list (gs.map eGs))),some (.fz (.list (Zcv A))),some (.fz (ZaV f')),some (.fz (.list (Zcv L'))),some (.ol (Zcv T'))]) _ ⟨_,_,_,rfl,I0,rfl⟩ ?_
    rintro m _ ⟨f',L',T',rfl,I,rfl⟩
    refine⟨ZeB y gs A f' T',?tst,fun c=>?_,fun c=>⟨f',L',_,Zqr h p0 q0 hu I c,rfl⟩⟩
    case tst =>
     refine ZpH 5 (r:=.ol (Zcv T')) rfl rfl ?_
     walk_at"d"
     refine EvT.cast (Zh5 (b := !(Zcv T').isEmpty) (c:=ZeB y gs A f' T') (Zol (ds:=Zcv T') (Zab rfl)) (fun c=>?_)) ?_
     ·have ne:T'≠[]:=fun z=>by subst z;simp[Zcv]at c
      have ne':T'.isEmpty=false:=by cases T' with|nil=>exact Xp rfl ne|cons _ _=>rfl
      have hp:=NdS.pos h I.tnd ne
      have l2:=(Ziu h p0 q0 hu I.tdis).2
      have hx:=I.fr
      have hsh:FrB (shF (Zbk y gs A T').toNat (wS gs.length (waN gs) (Za4 T')).toNat):=Zrb h hp (by rw[XF l2];exact Zsf h A T')
      refine EvT.cast (ZiK (Za0 (Zac (EvO.fz (Zdp (ds:=[ZaV f']) (ZaJ (Zab rfl) ZaU) Ztx)) (Zac (EvO.fz (Zdp (ds:=[ZaV (shF (Zbk y gs A T').toNat (wS gs.length (waN gs) (Za4 T')).toNat)]) (ZaJ (esl rfl rfl rfl rfl I.tnd I.tdis ne) ZaU) Ztx)) Zan)) (R_fairer.mk (as:=[f']) (bs:=[shF (Zbk y gs A T').toNat (wS gs.length (waN gs) (Za4 T')).toNat]) (fun x hx'=>?_) (fun x hx'=>?_) rfl (by show(1:Nat)<=8;decide)))) ?_
      ·exact(Xm.mp hx').symm▸hx.g
      ·exact(Xm.mp hx').symm▸hsh.g
      ·rw[Zrl]
       unfold ZeB;rw[ne',Xbo,Bool.true_and]
     ·unfold ZeB
      have:(Zcv T').isEmpty=T'.isEmpty:=by cases T'<;>rfl
      rw[this];cases T'.isEmpty<;>simp
    ·obtain⟨c1,c2⟩:=XaU.mp c
     have ne:T'≠[]:=fun z=>by subst z;simp at c1
     obtain⟨n,en,n1,n2,n3,n4,n5,n6⟩:=ZhC h p0 q0 hu I.tnd I.tdis ne I.le I.fr.ok.1 (XD c2)
     refine ZeR 5 rfl ?_
     walk_at"d"
     refine Zaq (ZaT (d:=ZaV n) (EvE.cast (esl rfl rfl rfl rfl I.tnd I.tdis ne) (by rw[en])) ?_)
     walk_at"d"
     refine Zaq (ZaT (Zab rfl) ?_)
     walk_at"d"
     refine Zd6 (ZcJ (Zac (Zab rfl) (Zac (Zab rfl) (Zac (Zab rfl) (Zac (Zab rfl) Zan)))) (R_mshort.mk h hA n1 (hlow n1.ok.1 n3))) (fun r hr'=>?_)
     obtain⟨T2,u1,u2,u3,rfl⟩:=hr'
     walk_at"d"
     refine⟨Zt5 y gs A n T2,Zoz h p0 q0 hu I.tnd u2 u1 I.most I.fr.ok.1 n1.ok.1 (XY n2) n4 n5 c,n,T',T2,rfl,⟨n1,XY n2,n3,I.tnd,I.tdis,ne,fun _=>n4,fun e=>Xp e (by omega),u1,u2,u3⟩,rfl⟩
def ZmO (l:Fr×List Nat):PyData:=.tuple [ZaV l.1,.list (Zcv l.2)]
inductive Lev (y:Yd)(gs:List Gs):List Nat->Int->Int->List (Fr×List Nat)->Prop
 |nil {A:List Nat} {p q:Int} (h:∀k,k<gs.length->k∈A):Lev y gs A p q []
 |cons {A:List Nat} {p q:Int} {f:Fr} {T:List Nat} {lv:List (Fr×List Nat)} (h:NextOk y gs A p q f T) (r:Lev y gs (A++T) f.t f.b lv):Lev y gs A p q ((f,T)::lv)
inductive R_levels:List OT->(OT->Prop)->Prop
 |mk {y:Yd} {gs:List Gs} (h:Sml y gs):R_levels [.fz (eYd y),.fz (.list (gs.map eGs))] (fun r=>∃lv,Lev y gs [] 0 1 lv/\lv.length<=8/\r=.ol (lv.map ZmO))
theorem ZlH {gs:List Gs}{A:List Nat}(hA:NdS gs A)(h:¬A.length<gs.length):∀k,k<gs.length->k∈A:=fun k hk=>Decidable.byContradiction fun c=>by
 have l1:=hA.perm.length_eq
 have l2:(Zb0 gs (Za4 A)).length<(List.range gs.length).length:=by
  unfold Zb0;refine Nat.lt_of_le_of_ne (List.length_filter_le _ _) fun e=>?_
  have:=List.length_filter_eq_length_iff.mp e k (Xl.mpr hk)
  exact c (XD this)
 rw[XaR]at l2;omega
structure LoopL (y:Yd)(gs:List Gs)(lv:List (Fr×List Nat))(A:List Nat)(p q:Int):Prop where
 nd:NdS gs A
 len:lv.length<=A.length
 on:∀rest,Lev y gs A p q rest->Lev y gs [] 0 1 (lv++rest)
 go:A.length<gs.length->(0<=p/\p<=q/\0<q)/\Low gs.length (waN gs) (gvS y gs) (Za4 A) p q/\Up gs.length (waN gs) (gvS y gs) (Za4 A) p q
theorem LoopL.step {y:Yd}{gs:List Gs}(h:Sml y gs){lv:List (Fr×List Nat)}{A T:List Nat}{p q:Int}{f:Fr}(I:LoopL y gs lv A p q)(hm:A.length<gs.length)(N:NextOk y gs A p q f T):LoopL y gs (lv++[(f,T)]) (A++T) f.t f.b:=by
 have hAT:=I.nd.app N.nd N.dis
 have tp:0<T.length:=Xbi.mpr N.ne
 refine⟨hAT,?_,fun rest r=>?_,fun hm'=>?_⟩
 ·have:=I.len
  simp only[Xt,XW,List.length_nil];omega
 ·rw[Xav]
  exact I.on _ (.cons N r)
 ·obtain⟨⟨p0,pq,q0⟩,hl,hu⟩:=I.go hm
  have b1:=N.fr.ok.1
  have lt:f.t<f.b:=by
   refine Nat.lt_of_le_of_ne N.le fun e=>?_
   have ha:=N.all e
   have hall:∀k,k<gs.length->k∈A++T:=fun k hk=>by
    by_cases c:k∈A
    ·exact Xae _ c
    ·exact XJ _ (ha▸ZkT hk c)
   have l1:=hAT.perm.length_eq
   have l2:Zb0 gs (Za4 (A++T))=List.range gs.length:=List.filter_eq_self.mpr fun k hk=>X9 (hall k (Xl.mp hk))
   rw[l2,XaR]at l1;omega
  have hT:∀k,k<gs.length->Za4 T k=true->Za4 A k=false:=fun k _ e=>Xy (N.dis k (XD e))
  have ti:=N.tight lt
  have e1:gvS y gs (Za4 (A++T))=gvS y gs (fun k=>Za4 A k||Za4 T k):=ZfJ A T
  have l1:=Low.step h.giv hl N.up hT ti q0 (by omega) N.low
  have u1:=Up.step h.giv N.up hT ti
  have em:Za4 (A++T)=fun k=>Za4 A k||Za4 T k:=funext fun k=>ZdO A T k
  rw[em];exact⟨⟨by omega,by have:=N.le;omega,by omega⟩,l1,u1⟩
theorem ZbV:FnScope ["yard", "guests", "levels", "ahead", "level"] ["yard", "guests"] (Zaf ZdN):=by walk_at"p"
theorem Zou (T:Bl mg) (D:Df K mg "fair_levels" ZdN ["yard", "guests"]) (Xcf:Cal P w K mg base "next_level" ["yard", "guests", "ahead"] 8 (spD K R_nlevel)):Cal P w K mg base "fair_levels" ["yard", "guests"] 9 (spD K R_levels):=by
 refine D.evD ZbV (fun ts Φ h=>by cases h;rfl) (fun _ _ _ _ s H E ts Φ hr h=>?_)
 cases h with
 |@mk y gs h =>
   refine⟨_,(Zae (Zar (i:=2) ZbV.nd rfl (Or.inl rfl) (ZbL Zad))
 (Zae (Zar (i:=3) ZbV.nd rfl (Or.inl rfl) (ZbL Zad))
 (Zae (Zcj PassesOwn.never (Zbm Zo7 (Zaz Zcq (by rfl) T.len Zck (Zaa (pv 3) Zad)) (Zaz Zcq (by rfl) T.len Zck (Zaa (pv 1) Zad)) (ZbT _)) (Zae (Zar (i:=4) ZbV.nd rfl (Or.inl rfl) (Zap Xcf hr (Zaa (pv 0) (Zaa (pv 1) (Zaa (pv 3) Zad))) (hj:=by walk_at"j")))
 (Zae (Zbb (Zgb PySem.F.plainAttrs_list PySem.F.slot_list_append PySem.F.type_list_append ZbA (pv 2) (Zaa (pv 4) Zad)))
 (Zai (Zar (i:=3) ZbV.nd rfl (Or.inl rfl) (Zat ZnZ (pv 3) (Zav Zal (pv 4) Zah (fun _ _=>rfl))))))))
 (Zai (Zax (pv 2)))))),?_⟩
   show EvS K _ [some _,some _,none,none,none] _
   walk_at"x"
   have g8:=h.g8
   have gl:(gs.map eGs).length=gs.length:=by simp
   refine Zaq (ZbP (Zdp (ds:=[]) ZaU (by decide)) ?_)
   walk_at"d"
   refine Zaq (ZbP (Zdp (ds:=[]) ZaU (by decide)) ?_)
   walk_at"d"
   have I0:LoopL y gs [] [] 0 1:=⟨⟨(fun k hk=>nomatch hk),XaW⟩,Xw _,fun rest r=>r,fun _=>⟨⟨by decide,by decide,by decide⟩,Low.nil h.giv fun k _=>rfl,Up.nn h.giv fun k _=>rfl⟩⟩
   refine Zhr (fun ρ'=>∃lv a u,Lev y gs [] 0 1 lv/\lv.length<=8/\ρ'=[some (.fz (eYd y)),some (.fz (.list (gs.map eGs))),some (.ol (lv.map ZmO)),a,u]) ?wh ?rt
   case rt =>
    rintro _ ⟨lv,a,u,hN,l8,rfl⟩
    exact ZhR rfl ⟨lv,hN,l8,rfl⟩
   case wh =>
    refine Zc6 (fun m ρ'=>∃lv A p q u,m=gs.length-A.length/\LoopL y gs lv A p q/\ρ'=[some (.fz (eYd y)),some (.fz (.list (gs.map eGs))),some (.ol (lv.map ZmO)),some (.ol (Zcv A)),u]) _ ⟨[],[],0,1,none,rfl,I0,rfl⟩ ?_
    rintro m _ ⟨lv,A,p,q,u,rfl,I,rfl⟩
    have lA:=(I.nd.ok g8).len
    have lnA:(Zcv A).length=A.length:=by simp[Zcv]
    refine⟨decide (A.length<gs.length),?tst,fun c=>?_,fun c=>?_⟩
    case tst =>
     refine EvT.cast (Zco (Zfs (ZoB rfl) (Zer (Zab rfl)))) ?_
     rw[gl,lnA];exact decide_eq_decide.mpr Xas
    ·have hm:=XD c
     obtain⟨⟨p0,pq,q0⟩,hl,hu⟩:=I.go hm
     refine ZeR 3 rfl ?_
     walk_at"d"
     refine Zaq (Zd6 (ZcJ (Zac (Zab rfl) (Zac (Zab rfl) (Zac (Zab rfl) Zan))) (R_nlevel.mk h I.nd p0 pq q0 hl hu hm)) (fun r hr'=>?_))
     obtain⟨f',T',N,rfl⟩:=hr'
     walk_at"d"
     have J:=I.step h hm N
     have lAT:=(J.nd.ok g8).len
     have tp:0<T'.length:=Xbi.mpr N.ne
     rw[Xt]at lAT;have lnT:(Zcv T').length=T'.length:=by simp[Zcv]
     have ll:=I.len
     refine Zaq (Zeh rfl (Zab rfl) (by rw[Xj];omega) ?_)
     walk_at"d"
     refine ZbP (r:=.ol (Zcv (A++T'))) (EvO.cast (Zne (Zab rfl) (ZaK (ds:=[ZaV f',.list (Zcv T')]) (Zab rfl) Zay rfl) (by omega)) (by rw[ZkG])) ?_
     walk_at"d"
     refine⟨gs.length-(A++T').length,by rw[Xt];omega,lv++[(f',T')],A++T',f'.t,f'.b,some (.fz (.tuple [ZaV f',.list (Zcv T')])),rfl,J,?_⟩
     rw[Xz];rfl
    ·have hm:=X5 c
     have:=I.len
     exact⟨lv,_,u,by have:=I.on [] (.nil (ZlH I.nd hm));rwa [X4]at this,by omega,rfl⟩
section
variable (Q:Int)(gs:List Gs)
def tkL (lv:List (Fr×List Nat))(k:Nat):Int:=match lv with
 |[]=>0
 |(f,T)::r=>if k∈T then waN gs k*(f.t:Int)*(Q/(f.b:Int)) else tkL r k
end
theorem Lev.dis {y:Yd}{gs:List Gs}{A:List Nat}{p q:Int}{lv:List (Fr×List Nat)}(h:Lev y gs A p q lv):∀l∈lv,∀k∈l.2,k∉A:=by
 induction h with
 |nil _=>exact fun l hl=>(nomatch hl)
 |cons N r ih =>
   intro l hl k hk;rcases Xf.mp hl with rfl|hl
   ·exact N.dis k hk
   ·exact fun z=>ih l hl k hk (Xae _ z)
theorem Lev.fr {y:Yd}{gs:List Gs}{A:List Nat}{p q:Int}{lv:List (Fr×List Nat)}(h:Lev y gs A p q lv):∀l∈lv,FrB l.1/\l.1.t<=l.1.b/\NdS gs l.2:=by
 induction h with
 |nil _=>exact fun l hl=>(nomatch hl)
 |cons N r ih =>
   intro l hl;rcases Xf.mp hl with rfl|hl
   ·exact⟨N.fr,N.le,N.nd⟩
   ·exact ih l hl
def shL (lv:List (Fr×List Nat))(k:Nat):PyData:=lv.foldl (fun d l=>if k∈l.2 then ZaV l.1 else d) .none
theorem Zmf {lv:List (Fr×List Nat)}{k:Nat}(h:∀l∈lv,k∉l.2):∀d:PyData,lv.foldl (fun d l=>if k∈l.2 then ZaV l.1 else d) d=d:=by
 induction lv with
 |nil=>exact fun d=>rfl
 |cons l r ih =>
   intro d;rw[List.foldl_cons,Xa (h l Xb)];exact ih (fun x hx=>h x (Xd _ hx)) d
theorem Lev.share {y:Yd}{gs:List Gs}{Q:Int}{A:List Nat}{p q:Int}{lv:List (Fr×List Nat)}(h:Lev y gs A p q lv):∀(k:Nat),k<gs.length->k∉A->∀d:PyData,∃l∈lv,k∈l.2/\lv.foldl (fun d l=>if k∈l.2 then ZaV l.1 else d) d=ZaV l.1/\tkL Q gs lv k=waN gs k*(l.1.t:Int)*(Q/(l.1.b:Int)):=by
 induction h with
 |nil h=>exact fun k hk c=>Xp (h k hk) c
 |@cons A p q f T lv N r ih =>
   intro k hk c d;by_cases z:k∈T
   ·refine⟨(f,T),Xb,z,?_,?_⟩
    ·rw[List.foldl_cons,Xc z]
     exact Zmf (fun l hl c'=>r.dis l hl k c' (XJ _ z)) _
    ·show(if k∈T then _ else _)=_
     rw[Xc z]
   ·obtain⟨l,hl,e1,e2,e3⟩:=ih k hk (fun c'=>(XI.mp c').elim c z) d
    refine⟨l,Xd _ hl,e1,?_,?_⟩
    ·rw[List.foldl_cons,Xa z]
     exact e2
    ·show(if k∈T then _ else _)=_
     rw[Xa z];exact e3
theorem Zpa {lv:List (Fr×List Nat)}{i:Nat}(hi:i<lv.length)(k:Nat):shL (lv.take (i+1)) k=if k∈lv[i].2 then ZaV lv[i].1 else shL (lv.take i) k:=by
 unfold shL;rw[Xau,XH hi,Xbp];rfl
theorem Zr3 {Q t b W x:Int}(hb:0<b)(hd:b∣Q)(hQ:0<Q)(h:t*W<=b*x):W*t*(Q/b)<=Q*x:=by
 obtain⟨e,rfl⟩:=hd
 rw[Xa2 _ (by omega)];have e0:0<=e:=by
  refine Int.le_of_lt (Int.pos_of_mul_pos_right ?_ hb)
  exact hQ
 have h1:t*W*e<=b*x*e:=XR h e0
 have e1:W*t*e=t*W*e:=by rw[Xk W]
 have e2:b*e*x=b*x*e:=by rw[Xg,Xk e,<- Xg]
 rw[e1,e2];exact h1
theorem Zs4 {Q t b W x:Int}(hb:0<b)(hd:b∣Q)(h:t*W=b*x):W*t*(Q/b)=Q*x:=by
 obtain⟨e,rfl⟩:=hd
 rw[Xa2 _ (by omega)];rw[Xk W,h,Xg,Xk x,<- Xg]
theorem Zom (S:Nat->Bool)(w:Nat->Int)(c d:Int)(n:Nat):Zas (Zaw S fun k=>w k*c*d) n=Zas (Zaw S w) n*c*d:=by
 induction n with
 |zero=>simp[Zas]
 |succ n ih =>
   simp only[Zas];rw[ih,Xbh,Xbh];congr 1
   unfold Zaw;split
   ·rfl
   ·simp
theorem Lev.within {y:Yd}{gs:List Gs}(h:Sml y gs){Q:Int}(hQ:0<Q){A:List Nat}{p q:Int}{lv:List (Fr×List Nat)}(hL:Lev y gs A p q lv):(∀l∈lv,(l.1.b:Int)∣Q)->∀S:Nat->Bool,Zas (Zaw (fun k=>S k && !Za4 A k) (tkL Q gs lv)) gs.length<=Q*(gvS y gs (fun k=>Za4 A k||S k)-gvS y gs (Za4 A)):=by
 induction hL with
 |@nil A p q hA =>
   intro _ S;have e1:Zas (Zaw (fun k=>S k && !Za4 A k) (tkL Q gs [])) gs.length=0:=by
    rw[Zag (g:=fun _=>0) fun k _=>by unfold Zaw tkL;split<;>rfl]
    exact Za8 _
   have e2:gvS y gs (fun k=>Za4 A k||S k)=gvS y gs (Za4 A):=h.giv.ext _ _ fun k hk=>by
    have:Za4 A k=true:=X9 (hA k hk)
    rw[this];rfl
   rw[e1,e2];simp
 |@cons A p q f T lv N r ih =>
   intro hd S;have i1:=ih (fun l hl=>hd l (Xd _ hl)) S
   have b1:=N.fr.ok.1
   have em:Za4 (A++T)=fun k=>Za4 A k||Za4 T k:=funext fun k=>ZdO A T k
   simp only[em]at i1;have dis:∀k,Za4 T k=true->Za4 A k=false:=fun k e=>Xy (N.dis k (XD e))
   have u1:=N.up (fun k=>S k&&Za4 T k) (fun k _ e=>dis k (XaU.mp e).2)
   have u2:=Zr3 (Q:=Q) (b:=(f.b:Int)) (by omega) (hd (f,T) Xb) hQ u1
   have sb:=h.giv.sub (fun k=>Za4 A k||S k) (fun k=>Za4 A k||Za4 T k)
   have g1:gvS y gs (fun k=>(Za4 A k||S k)||(Za4 A k||Za4 T k))=gvS y gs (fun k=>(Za4 A k||Za4 T k)||S k):=h.giv.ext _ _ fun k _=>by cases Za4 A k<;>cases Za4 T k<;>cases S k<;>rfl
   have g2:gvS y gs (fun k=>(Za4 A k||S k)&&(Za4 A k||Za4 T k))=gvS y gs (fun k=>Za4 A k||(S k&&Za4 T k)):=h.giv.ext _ _ fun k _=>by cases Za4 A k<;>cases Za4 T k<;>cases S k<;>rfl
   rw[g1,g2]at sb;have e1:Zas (Zaw (fun k=>S k && !Za4 A k) (tkL Q gs ((f,T)::lv))) gs.length=wS gs.length (waN gs) (fun k=>S k&&Za4 T k)*(f.t:Int)*(Q/(f.b:Int))+Zas (Zaw (fun k=>S k && !(Za4 A k||Za4 T k)) (tkL Q gs lv)) gs.length:=by
    unfold wS;rw[<- Zom,<- Zbt];refine Zag fun k _=>?_
    unfold Zaw;dsimp only;have tk:tkL Q gs ((f,T)::lv) k=if k∈T then waN gs k*(f.t:Int)*(Q/(f.b:Int)) else tkL Q gs lv k:=rfl
    rw[tk];by_cases c2:k∈T
    ·have m2:Za4 T k=true:=X9 c2
     have m1:=dis k m2
     rcases Xbn (S k) with c3|c3<;>simp[c2,m2,m1,c3]
    ·have m2:Za4 T k=false:=Xy c2
     rcases Xbn (S k) with c3|c3<;>rcases Xbn (Za4 A k) with c4|c4<;>simp[c2,m2,c3,c4]
   rw[e1];have sb':Q*(gvS y gs (fun k=>(Za4 A k||Za4 T k)||S k)+gvS y gs (fun k=>Za4 A k||(S k&&Za4 T k)))<=Q*(gvS y gs (fun k=>Za4 A k||S k)+gvS y gs (fun k=>Za4 A k||Za4 T k)):=Xu sb (by omega)
   simp only[XaB,XaV]at *;omega
def Zdc (lv:List (Fr×List Nat)):List Nat:=lv.flatMap (·.2)
theorem Lev.ahead {y:Yd}{gs:List Gs}{A:List Nat}{p q:Int}{lv:List (Fr×List Nat)}(hL:Lev y gs A p q lv):NdS gs A->NdS gs (A++Zdc lv):=by
 induction hL with
 |nil _=>intro hA;simpa [Zdc] using hA
 |@cons A p q f T lv N r ih =>
   intro hA;have:=ih (hA.app N.nd N.dis)
   have e:Zdc ((f,T)::lv)=T++Zdc lv:=Xa8
   rw[e,<- Xav];exact this
theorem NdS.left {gs:List Gs}{a b:List Nat}(h:NdS gs (a++b)):NdS gs a:=⟨fun k hk=>h.mem k (Xae _ hk),(XaS.mp h.nd).1⟩
theorem ZlW {y:Yd}{gs:List Gs}{lv:List (Fr×List Nat)}(hL:Lev y gs [] 0 1 lv)(i:Nat):NdS gs (Zdc (lv.take i)):=by
 have h1:=hL.ahead ⟨(fun k hk=>nomatch hk),XaW⟩
 rw[Xbl]at h1;have e:Zdc lv=Zdc (lv.take i)++Zdc (lv.drop i):=by
  unfold Zdc;rw[<- Xan,List.take_append_drop]
 rw[e]at h1;exact h1.left
theorem ZrN {f g:Fr}(hf:f.Ok)(hg:g.Ok)(e:f.t*g.b=g.t*f.b):f=g:=by
 have d1:f.b∣g.b:=by
  have:f.b∣f.t*g.b:=by rw[e];exact Xbq _ _
  exact Nat.Coprime.dvd_of_dvd_mul_left (Nat.Coprime.symm hf.2) this
 have d2:g.b∣f.b:=by
  have:g.b∣g.t*f.b:=by rw[<- e];exact Xbq _ _
  exact Nat.Coprime.dvd_of_dvd_mul_left (Nat.Coprime.symm hg.2) this
 have eb:f.b=g.b:=Nat.dvd_antisymm d1 d2
 have et:f.t=g.t:=Nat.eq_of_mul_eq_mul_right hg.1 (by rw[e,eb])
 cases f
 cases g
 simp only at eb et
 rw[eb,et]
theorem Lev.later {y:Yd}{gs:List Gs}{A:List Nat}{p q:Int}{lv:List (Fr×List Nat)}(h:Lev y gs A p q lv)(q0:0<q):∀l∈lv,∃B p' q',NextOk y gs B p' q' l.1 l.2/\(∀k,k∈A->k∈B)/\p*(l.1.b:Int)<=(l.1.t:Int)*q:=by
 induction h with
 |nil _=>exact fun l hl=>(nomatch hl)
 |@cons A p q f T lv N r ih =>
   intro l hl;rcases Xf.mp hl with rfl|hl
   ·exact⟨A,p,q,N,fun k z=>z,N.low⟩
   ·have b1:=N.fr.ok.1
    obtain⟨B,p',q',N',h1,h2⟩:=ih (by omega) l hl
    refine⟨B,p',q',N',fun k z=>h1 k (Xae _ z),?_⟩
    have c1:=N'.fr.ok.1
    have n1:=N.low
    have a1:(l.1.b:Int)*(p*(f.b:Int))<=(l.1.b:Int)*((f.t:Int)*q):=Xu n1 (by omega)
    have a2:q*((f.t:Int)*(l.1.b:Int))<=q*((l.1.t:Int)*(f.b:Int)):=Xu h2 (by omega)
    have e1:(l.1.b:Int)*((f.t:Int)*q)=q*((f.t:Int)*(l.1.b:Int)):=by rw[Xk,Xk (f.t:Int) q,Xg]
    have e2:(l.1.b:Int)*(p*(f.b:Int))=(f.b:Int)*(p*(l.1.b:Int)):=by rw[Xk,Xk p (f.b:Int),Xg]
    have e3:q*((l.1.t:Int)*(f.b:Int))=(f.b:Int)*((l.1.t:Int)*q):=by rw[Xk,Xk (l.1.t:Int) (f.b:Int),Xg]
    exact Xac (show(f.b:Int)*(p*(l.1.b:Int))<=(f.b:Int)*((l.1.t:Int)*q) by omega) (by omega)
def ZjR (t:Int)(xs:List Int):Nat:=xs.countP fun x=>decide (x<=t)
theorem Znh:∀{as bs:List Int},as.Pairwise (· <= ·)->bs.Pairwise (· <= ·)->as.length=bs.length->Zdi as bs=true->∃θ,(∀t,t < θ->ZjR t as=ZjR t bs)/\ZjR θ as<ZjR θ bs
 |[],[],_,_,_,h=>by cases h
 |[],_::_,_,_,h,_=>by cases h
 |_::_,[],_,_,h,_=>by cases h
 |x::as,z::bs,ha,hb,hl,h=>by
   have h':(if x=z then Zdi as bs else decide (z<x))=true:=h
   clear h;by_cases c:x=z
   ·rw[Xc c]at h'
    subst c;obtain⟨θ,h1,h2⟩:=Znh (Xaz.mp ha).2 (Xaz.mp hb).2 (by simpa using hl) h'
    refine⟨θ,fun t ht=>?_,?_⟩
    ·have:=h1 t ht
     unfold ZjR at *;rw[Xbf,Xbf,this]
    ·unfold ZjR at *
     rw[Xbf,Xbf];omega
   ·rw[Xa c]at h'
    have h:=XD h'
    have g1:∀e∈x::as,x<=e:=fun e he=>by
     rcases Xf.mp he with rfl|he
     ·exact Xak _
     ·exact(Xaz.mp ha).1 e he
    have g2:∀e∈z::bs,z<=e:=fun e he=>by
     rcases Xf.mp he with rfl|he
     ·exact Xak _
     ·exact(Xaz.mp hb).1 e he
    have z1:∀t,t<x->ZjR t (x::as)=0:=fun t ht=>List.countP_eq_zero.mpr fun e he=>by
     have:=g1 e he
     simp
     omega
    have z2:∀t,t<z->ZjR t (z::bs)=0:=fun t ht=>List.countP_eq_zero.mpr fun e he=>by
     have:=g2 e he
     simp
     omega
    refine⟨z,fun t ht=>by rw[z1 t (by omega),z2 t ht],?_⟩
    rw[z1 z h];unfold ZjR;rw[Xbf];simp
theorem Zlb {t:Int}{as bs:List Int}(h:as.Perm bs):ZjR t as=ZjR t bs:=h.countP_eq _
def Zlo (m:Nat)(f:Nat->Int)(t:Int):Int:=Zas (fun k=>if f k<=t then 1 else 0) m
theorem Zky (f:Nat->Int)(t:Int):∀m,(ZjR t ((List.range m).map f):Int)=Zlo m f t
 |0=>rfl
 |m+1=>by
   have ih:=Zky f t m
   unfold ZjR Zlo at *;rw[Xah,Xz,List.countP_append,Int.natCast_add,ih];simp only[Zas];congr 1
   by_cases c:f m<=t<;>simp[c]
theorem ZtG {m:Nat}{f g:Nat->Int}{t s:Int}(h:∀k,k<m->f k<=t->g k<=s):Zlo m f t<=Zlo m g s:=ZaW fun k hk=>by
 by_cases c:f k<=t
 ·rw[Xc c,Xc (h k hk c)]
  exact Xak _
 ·rw[Xa c]
  split<;>omega
theorem ZtJ {m:Nat}{f g:Nat->Int}{t s:Int}(h:∀k,k<m->f k<=t->g k<=s){j:Nat}(hj:j<m)(h1:¬f j<=t)(h2:g j<=s):Zlo m f t<Zlo m g s:=by
 have e:Zas (fun k=>(if f k<=t then (1:Int) else 0)+if k=j then 1 else 0) m<=Zlo m g s:=ZaW fun k hk=>by
  by_cases c:k=j
  ·subst c
   rw[Xa h1,Xc rfl,Xc h2];omega
  ·rw[Xa c,Xa1]
   by_cases d:f k<=t
   ·rw[Xc d,Xc (h k hk d)]
    exact Xak _
   ·rw[Xa d]
    split<;>omega
 rw[Zbt,Zd3,Xc hj]at e;unfold Zlo at *;omega
theorem Zt2 {m:Nat}{w f:Nat->Int}{S:Nat->Bool}{c:Int}(hw:∀k,k<m->1<=w k)(hf:∀k,k<m->S k=true->c<=f k)(hs:Zas (Zaw S fun k=>w k*f k) m<=c*Zas (Zaw S w) m):∀k,k<m->S k=true->f k=c:=by
 intro j hj hS;refine Int.le_antisymm (Int.not_lt.mp fun lt=>?_) (hf j hj hS)
 have e:Zas (fun k=>c*Zaw S w k+if k=j then 1 else 0) m<=Zas (Zaw S fun k=>w k*f k) m:=ZaW fun k hk=>by
  unfold Zaw;dsimp only;by_cases z:k=j
  ·subst z
   rw[Xc hS,Xc hS,Xc rfl];have h1:w k*(c+1)<=w k*f k:=Xu (by omega) (by have:=hw k hk;omega)
   have h2:=hw k hk
   rw[XaV,Xk (w k) c]at h1;omega
  ·rw[Xa z,Xa1]
   by_cases d:S k=true
   ·rw[Xc d,Xc d,Xk c]
    exact Xu (hf k hk d) (by have:=hw k hk;omega)
   ·rw[Xa d,Xa d]
    simp
 rw[Zbt,Zd3,Xc hj,Zc5]at e;omega
def phL (Q:Int)(lv:List (Fr×List Nat))(k:Nat):Int:=match lv with
 |[]=>0
 |(f,T)::r=>if k∈T then (f.t:Int)*(Q/(f.b:Int)) else phL Q r k
theorem Zug (Q:Int)(gs:List Gs):∀(lv:List (Fr×List Nat)) (k:Nat),tkL Q gs lv k=waN gs k*phL Q lv k
 |[],k=>by simp[tkL,phL]
 |(f,T)::r,k=>by
   unfold tkL phL;split
   ·rw[Xg]
   ·exact Zug Q gs r k
theorem Zux {y:Yd}{gs:List Gs}{Q:Int}{A:List Nat}{p q:Int}{lv:List (Fr×List Nat)}(h:Lev y gs A p q lv):∀l∈lv,∀k∈l.2,phL Q lv k=(l.1.t:Int)*(Q/(l.1.b:Int)):=by
 induction h with
 |nil _=>exact fun l hl=>(nomatch hl)
 |@cons A p q f T lv N r ih =>
   intro l hl k hk;unfold phL;rcases Xf.mp hl with rfl|hl
   ·rw[Xc hk]
   ·rw[Xa (fun z=>r.dis l hl k hk (XJ _ z))]
    exact ih l hl k hk
theorem Zo6 {Q t b t' b':Int}(hb:0<b)(hb':0<b')(hd:b∣Q)(hd':b'∣Q)(hQ:0<Q)(h:t*b'<=t'*b):t*(Q/b)<=t'*(Q/b'):=by
 obtain⟨e,he⟩:=hd
 obtain⟨e',he'⟩:=hd'
 have q1:Q/b=e:=by rw[he];exact Xa2 _ (by omega)
 have q2:Q/b'=e':=by rw[he'];exact Xa2 _ (by omega)
 rw[q1,q2];have h1:t*b'*Q<=t'*b*Q:=XR h (by omega)
 have e1:t*b'*Q=b*b'*(t*e):=by
  rw[he];rw[Xk t b',Xg,Xk b b',Xg,<- Xg t b e,Xk t b,Xg]
 have e2:t'*b*Q=b*b'*(t'*e'):=by
  rw[he'];rw[Xk t' b,Xg,Xg,<- Xg t' b' e',Xk t' b',Xg]
 rw[e1,e2]at h1;exact Xac h1 (Int.mul_pos hb hb')
def frL (lv:List (Fr×List Nat))(k:Nat):Fr:=match lv with
 |[]=>⟨0,1⟩
 |(f,T)::r=>if k∈T then f else frL r k
theorem Lev.fr_at {y:Yd}{gs:List Gs}{Q:Int}{A:List Nat}{p q:Int}{lv:List (Fr×List Nat)}(h:Lev y gs A p q lv):∀(k:Nat),k<gs.length->k∉A->∃l∈lv,k∈l.2/\frL lv k=l.1/\phL Q lv k=(l.1.t:Int)*(Q/(l.1.b:Int)):=by
 induction h with
 |nil h=>exact fun k hk c=>Xp (h k hk) c
 |@cons A p q f T lv N r ih =>
   intro k hk c;unfold frL phL;by_cases z:k∈T
   ·exact⟨(f,T),Xb,z,by rw[Xc z],by rw[Xc z]⟩
   ·obtain⟨l,hl,e1,e2,e3⟩:=ih k hk (fun c'=>(XI.mp c').elim c z)
    exact⟨l,Xd _ hl,e1,by rw[Xa z];exact e2,by rw[Xa z];exact e3⟩
theorem Lev.alike_self {y:Yd}{gs:List Gs}{A:List Nat}{p q:Int}{lv:List (Fr×List Nat)}(hL:Lev y gs A p q lv):∀l∈lv,∀l'∈lv,∀k,k∈l.2->k∈l'.2->l.1=l'.1:=by
 induction hL with
 |nil _=>exact fun l hl=>(nomatch hl)
 |@cons A p q f T lv N r ih =>
   intro l hl l' hl' k hk hk';rcases Xf.mp hl with rfl|hl
   ·rcases Xf.mp hl' with rfl|hl'
    ·rfl
    ·exact Xp (XJ _ hk) (r.dis l' hl' k hk')
   ·rcases Xf.mp hl' with rfl|hl'
    ·exact Xp (XJ _ hk') (r.dis l hl k hk)
    ·exact ih l hl l' hl' k hk hk'
theorem Lev.sh_fr {y:Yd}{gs:List Gs}{lv:List (Fr×List Nat)}(h:Lev y gs [] 0 1 lv){k:Nat}(hk:k<gs.length):shL lv k=ZaV (frL lv k):=by
 obtain⟨l,h1,h2,h3,_⟩:=h.share (Q:=1) k hk (fun z=>nomatch z) .none
 obtain⟨l',h1',h2',h3',_⟩:=h.fr_at (Q:=1) k hk (fun z=>nomatch z)
 rw[show shL lv k=ZaV l.1 from h3,h3'];have:=h.alike_self l h1 l' h1' k h2 h2'
 rw[this]
def ZfQ (m:Nat)(lv:List (Fr×List Nat)):List Fr:=(List.range m).map (frL lv)
theorem ZqA {y:Yd}{gs:List Gs}{lv:List (Fr×List Nat)}(h:Lev y gs [] 0 1 lv):(List.range gs.length).map (shL lv)=(ZfQ gs.length lv).map ZaV/\(∀f∈ZfQ gs.length lv,FrB f/\f.t<=f.b/\∃l∈lv,l.1=f)/\(ZfQ gs.length lv).length=gs.length:=by
 refine⟨?_,fun f hf=>?_,by simp[ZfQ]⟩
 ·unfold ZfQ
  rw[XQ];exact XX fun k hk=>h.sh_fr (Xl.mp hk)
 ·obtain⟨k,hk,rfl⟩:=Xx.mp hf
  obtain⟨l,h1,h2,h3,_⟩:=h.fr_at (Q:=1) k (Xl.mp hk) (fun z=>nomatch z)
  rw[h3];exact⟨(h.fr l h1).1,(h.fr l h1).2.1,l,h1,rfl⟩
theorem Lev.best {y:Yd}{gs:List Gs}(h:Sml y gs){Q:Int}(hQ:0<Q){A:List Nat}{p q:Int}{lv:List (Fr×List Nat)}(hL:Lev y gs A p q lv){x X:Nat->Int}
 (hx:∀S:Nat->Bool,Zas (Zaw S fun k=>waN gs k*x k) gs.length<=Q*gvS y gs S) (x1:∀k,k<gs.length->x k<=Q) :
 (∀l∈lv,(l.1.b:Int)∣Q)->(∀l∈lv,∀k∈l.2,X k=(l.1.t:Int)*(Q/(l.1.b:Int)))->(∀k,k<gs.length->k∈A->x k=X k)->Zas (Zaw (Za4 A) fun k=>waN gs k*x k) gs.length=Q*gvS y gs (Za4 A) ->
 (∀k,k<gs.length->x k=X k)\/∃k,k<gs.length/\∃τ,x k<τ/\τ<=X k/\∀j,j<gs.length->X j<τ->x j=X j:=by
 induction hL with
 |nil hA =>
   intro _ _ hA' _;exact .inl fun k hk=>hA' k hk (hA k hk)
 |@cons A p q f T lv N r ih =>
   intro hd hX hA ti;have b1:=N.fr.ok.1
   have dv:(f.b:Int)∣Q:=hd (f,T) Xb
   have XT:∀k∈T,X k=(f.t:Int)*(Q/(f.b:Int)):=hX (f,T) Xb
   have ge:∀k,k<gs.length->k∉A->(f.t:Int)*(Q/(f.b:Int))<=X k:=fun k hk c=>by
    by_cases z:k∈T
    ·rw[XT k z]
     exact Xak _
    ·obtain⟨l,hl,e1,_,_⟩:=r.share (Q:=Q) k hk (fun z'=>(XI.mp z').elim c z) .none
     obtain⟨B,p',q',N',h1,h2⟩:=r.later (by omega) l hl
     rw[hX l (Xd _ hl) k e1];have c1:=N'.fr.ok.1
     exact Zo6 (by omega) (by omega) dv (hd l (Xd _ hl)) hQ h2
   generalize hτ:(f.t:Int)*(Q/(f.b:Int))=τ at XT ge;by_cases low:∃k,k<gs.length/\k∉A/\x k<τ
   ·obtain⟨k,hk,c,lt⟩:=low
    refine .inr ⟨k,hk,τ,lt,ge k hk c,fun j hj e=>hA j hj (Decidable.byContradiction fun c'=>?_)⟩
    have:=ge j hj c'
    omega
   have xge:∀j,j<gs.length->j∉A->τ<=x j:=fun j hj c=>Int.not_lt.mp fun lt=>low ⟨j,hj,c,lt⟩
   by_cases lt:f.t<f.b
   ·have tt:=N.tight lt
    have pe:=Zs4 (Q:=Q) (by omega) dv tt
    have sp:Zas (Zaw (Za4 (A++T)) fun k=>waN gs k*x k) gs.length=Zas (Zaw (Za4 A) fun k=>waN gs k*x k) gs.length+Zas (Zaw (Za4 T) fun k=>waN gs k*x k) gs.length:=by
     rw[<- Zbt];refine Zag fun k _=>?_
     have dis:Za4 T k=true->Za4 A k=false:=fun e=>Xy (N.dis k (XD e))
     unfold Zaw;rw[ZdO];cases c1:Za4 A k<;>cases c2:Za4 T k<;>simp_all
    have fe:=hx (Za4 (A++T))
    have eg:gvS y gs (Za4 (A++T))=gvS y gs (fun k=>Za4 A k||Za4 T k):=ZfJ A T
    have eT:τ*Zas (Zaw (Za4 T) (waN gs)) gs.length=Q*Zbk y gs A T:=by
     rw[<- pe,<- hτ];show(f.t:Int)*(Q/(f.b:Int))*wS gs.length (waN gs) (Za4 T)=_
     rw[Xk,<- Xg]
    have lw:Zas (Zaw (Za4 T) fun k=>waN gs k*x k) gs.length<=τ*Zas (Zaw (Za4 T) (waN gs)) gs.length:=by
     rw[eT];unfold Zbk;rw[sp,ti,eg]at fe;rw[XaB];omega
    have xT:∀k,k<gs.length->Za4 T k=true->x k=τ:=Zt2 h.giv.w1 (fun k hk e=>xge k hk (N.dis k (XD e))) lw
    have sT:Zas (Zaw (Za4 T) fun k=>waN gs k*x k) gs.length=τ*Zas (Zaw (Za4 T) (waN gs)) gs.length:=by
     rw[<- Zc5];refine Zag fun k hk=>?_
     unfold Zaw;dsimp only;by_cases c:Za4 T k=true
     ·rw[Xc c,Xc c,xT k hk c,Xk]
     ·rw[Xa c,Xa c,XaM]
    refine ih (fun l hl=>hd l (Xd _ hl)) (fun l hl=>hX l (Xd _ hl)) (fun k hk z=>?_) ?_
    ·by_cases zA:k∈A
     ·exact hA k hk zA
     ·have zT:k∈T:=(XI.mp z).resolve_left zA
      rw[xT k hk (X9 zT),XT k zT]
    ·rw[sp,ti,sT,eT,eg]
     unfold Zbk;rw[XaB];omega
   ·have fe:f.t=f.b:=Nat.le_antisymm N.le (Nat.not_lt.mp lt)
    have τQ:τ=Q:=by
     rw[<- hτ,fe];exact Int.mul_ediv_cancel' dv
    refine .inl fun k hk=>?_
    by_cases c:k∈A
    ·exact hA k hk c
    ·have zT:k∈T:=N.all fe▸ZkT hk c
     have a:=xge k hk c
     have b:=x1 k hk
     rw[XT k zT];omega
theorem Lev.bears {y:Yd}{gs:List Gs}(h:Sml y gs){Q:Int}(hQ:0<Q){lv:List (Fr×List Nat)}(hL:Lev y gs [] 0 1 lv)(hd:∀l∈lv,(l.1.b:Int)∣Q)(S:Nat->Bool):Zas (Zaw S fun k=>waN gs k*phL Q lv k) gs.length<=Q*gvS y gs S:=by
 have w1:=hL.within h hQ hd S
 have e1:Zas (Zaw (fun k=>S k && !Za4 [] k) (tkL Q gs lv)) gs.length=Zas (Zaw S fun k=>waN gs k*phL Q lv k) gs.length:=by
  refine Zag fun k hk=>?_
  have:Za4 [] k=false:=rfl
  simp only[Zaw,this,Xbo,Bool.and_true];rw[Zug]
 have e2:gvS y gs (fun k=>Za4 [] k||S k)=gvS y gs S:=h.giv.ext _ _ fun k _=>rfl
 have e3:gvS y gs (Za4 [])=0:=h.giv.g0 _ fun k _=>rfl
 rw[e1,e2,e3,Int.sub_zero]at w1;exact w1
theorem Lev.best0 {y:Yd}{gs:List Gs}(h:Sml y gs){Q:Int}(hQ:0<Q){lv:List (Fr×List Nat)}(hL:Lev y gs [] 0 1 lv)(hd:∀l∈lv,(l.1.b:Int)∣Q){x:Nat->Int}
 (hx:∀S:Nat->Bool,Zas (Zaw S fun k=>waN gs k*x k) gs.length<=Q*gvS y gs S) (x1:∀k,k<gs.length->x k<=Q) :
 (∀k,k<gs.length->x k=phL Q lv k)\/∃k,k<gs.length/\∃τ,x k<τ/\τ<=phL Q lv k/\∀j,j<gs.length->phL Q lv j<τ->x j=phL Q lv j :=
 hL.best h hQ hx x1 hd (Zux hL) (fun k _ z=>nomatch z) (by
  have e3:gvS y gs (Za4 [])=0:=h.giv.g0 _ fun k _=>rfl
  rw[e3,XaM];rw[Zag (g:=fun _=>0) fun k _=>by unfold Zaw;rfl]
  exact Za8 _)
def ZaA (n T:Nat)(f:Nat->Nat->Int):List (List PyData):=(List.range n).map fun k=>(List.range T).map fun t=>PyData.int (f k t)
theorem ZdF (n T:Nat)(f:Nat->Nat->Int):(ZaA n T f).length=n:=by simp[ZaA]
theorem ZcA {n T k:Nat}(f:Nat->Nat->Int)(hk:k<n):(ZaA n T f)[k]?=some ((List.range T).map fun t=>PyData.int (f k t)):=by simp[ZaA,hk]
theorem Zlc {α:Type}{n j:Nat}{f g:Nat->α}(hj:j<n)(e1:∀l,l<n->l≠j->g l=f l){v:α}(e2:g j=v):((List.range n).map f).set j v=(List.range n).map g:=by
 apply List.ext_getElem?
 intro i;by_cases hi:i=j
 ·subst hi
  rw[XN (by simpa using hj)];simp[hj,e2]
 ·rw[XU (Ne.symm hi)]
  by_cases h:i<n
  ·simp[h,e1 i h hi]
  ·simp[h]
theorem ZgS {n T a t:Nat}(f:Nat->Nat->Int)(v:Int)(ha:a<n)(ht:t<T):(ZaA n T f).set a (((List.range T).map fun s=>PyData.int (f a s)).set t (.int v))=ZaA n T (Zgg f a t v):=by
 unfold ZaA;refine Zlc ha (fun l hl hn=>XX fun s _=>?_) ?_
 ·unfold Zgg
  rw[Xa (fun z=>hn z.1)]
 ·symm
  refine Zlc ht (fun s hs hn=>?_) ?_
  ·unfold Zgg
   rw[Xa (fun z=>hn z.2)]
  ·unfold Zgg
   rw[Xc ⟨rfl,rfl⟩]
theorem Zhm {y:Yd}(ok:y.Ok){j a t:Nat}{v:Int}(hj:j<y.ls.length)(e:Zb9 y j=some a)(g:Nat->Nat->Int):Zdg y j t v g=Zdg y a t v (Zgg g j t (g j t+v)):=by
 have la:=Zjf ok hj e
 funext l s
 unfold Zdg Zgg;rw[Zia ok hj e];have nj:¬j∈upL y a:=fun z=>by have:=Zle y a j z;omega
 by_cases hs:s=t
 ·subst hs
  by_cases hl:l=j
  ·subst hl
   simp[nj]
  ·simp[hl]
 ·simp[hs]
theorem Zht {y:Yd}(ok:y.Ok){t:Nat}{v:Int}(g:Nat->Nat->Int):Zdg y 0 t v g=Zgg g 0 t (g 0 t+v):=by
 funext l s
 unfold Zdg Zgg;rw[Zgj ok];by_cases hs:s=t
 ·subst hs
  by_cases hl:l=0
  ·subst hl;simp
  ·simp[hl]
 ·simp[hs]
theorem ZeN {n T:Nat}{f g:Nat->Nat->Int}(h:∀k t,k<n->t<T->f k t=g k t):ZaA n T f=ZaA n T g:=by
 unfold ZaA;refine XX fun k hk=>XX fun t ht=>?_
 rw[h k t (Xl.mp hk) (Xl.mp ht)]
theorem Zvs (n:Nat):(List.replicate n [PyData.int 0]).flatten=(List.range n).map fun _=>PyData.int 0:=by
 rw[Zkf];apply List.ext_getElem?
 intro i;by_cases h:i<n
 ·simp[h]
 ·simp[h]
def gAt (gs:List Gs)(i:Nat):Gs:=gs.getD i default
structure FillOk (y:Yd)(gs:List Gs)(k:Int)(f:Nat->Nat->Int):Prop where
 sum:∀i,i<gs.length->Zas (f i) y.T<=(gAt gs i).want*k
 item:∀i t,i<gs.length->t<y.T->0<=f i t/\f i t<=(gAt gs i).most*k*(if ZaY (gAt gs i) (t:Int)=true then 1 else 0)
 load:∀l t,l<y.ls.length->t<y.T->Zeb y gs.length (fun i=>(gAt gs i).line) (fun i=>f i t) l<=Za9 y l t*k
structure GBd (y:Yd)(g:Gs):Prop where
 ln:g.line<y.ls.length
 w0:0<=g.want
 w1:g.want<10^300
 m0:0<=g.most
 m1:g.most<10^300
theorem ZsS {y:Yd}{g:Gs}(h:g.Ok y):GBd y g:=⟨h.ln,by have:=h.w1;omega,h.w2,by have:=h.m1;omega,h.m2⟩
def Zly (y:Yd)(gs:List Gs)(f:Nat->Nat->Int)(i:Nat):Nat->Nat->Int:=fun l t=>Zeb y i (fun j=>(gAt gs j).line) (fun j=>f j t) l
def ZmK (y:Yd)(gs:List Gs)(f:Nat->Nat->Int)(i t:Nat):Nat->Nat->Int:=fun l s=>Zly y gs f i l s+if s<t then f i s*ind (l∈upL y (gAt gs i).line) else 0
theorem Zpo {y:Yd}{gs:List Gs}{f:Nat->Nat->Int}{i:Nat}:ZaA y.ls.length y.T (ZmK y gs f i y.T)=ZaA y.ls.length y.T (Zly y gs f (i+1)):=ZeN fun l t _ ht=>by
 unfold ZmK Zly Zeb;rw[Xc ht];rfl
theorem Zp7 {y:Yd}{gs:List Gs}{f:Nat->Nat->Int}{i t:Nat}:ZaA y.ls.length y.T (Zdg y (gAt gs i).line t (f i t) (ZmK y gs f i t))=ZaA y.ls.length y.T (ZmK y gs f i (t+1)):=ZeN fun l s _ _=>by
 unfold Zdg ZmK;by_cases e:s=t
 ·subst e
  by_cases h:l∈upL y (gAt gs i).line
  ·rw[Xc ⟨rfl,h⟩,Xa (by omega),Xc (by omega)]
   simp[ind,h]
  ·rw[Xa (fun z=>h z.2),Xa (by omega),Xc (by omega)]
   simp[ind,h]
 ·rw[Xa (fun z=>e z.1)]
  by_cases h:s<t
  ·rw[Xc h,Xc (by omega)]
  ·rw[Xa h,Xa (by omega)]
inductive R_isfill:List OT->OT->Prop
 |mk {y:Yd} {gs:List Gs} {k:Int} {f:Nat->Nat->Int} (ok:y.Ok) (hg:∀g∈gs,GBd y g) (g8:gs.length<=8) (k0:0<=k) (k1:k<10^300) (h:FillOk y gs k f):R_isfill [.fz (eYd y),.fz (.list (gs.map eGs)),.fz (.int k),.fz (.list ((ZaA gs.length y.T f).map PyData.list))] (.fz (.bool true))
theorem ZtN {a b:Int}(h0:0<=a)(h1:a<10^600)(h2:0<=b)(h3:b<=1):IntMulOk a b:=Zrk (m:=2000) (n:=1) h0 (X7 h1 (by decide +kernel)) h2 (by omega) (by decide)
theorem Zsc {a b:Int}(h0:0<=a)(h1:a<10^300)(h2:0<=b)(h3:b<10^300):a*b<10^600:=by
 have e:(10:Int)^600=10^300*10^300:=by decide +kernel
 rw[e];exact XV (Xu (by omega) h0) (Int.mul_lt_mul_of_pos_right h1 (by decide +kernel))
theorem Zau:FnScope ["_law_yard_here", "_law_guests_here", "_law_k", "_law_filling", "_law_loads", "_law_guest", "_law_row", "_law_line", "_law_first", "_law_last", "_law_want", "_law_most", "_law_turn", "_law_here"] ["_law_yard_here", "_law_guests_here", "_law_k", "_law_filling"] (Zaf ZbG):=by walk_at"p"
theorem Znt (T:Bl mg) (D:Df K mg "_law_is_filling" ZbG ["_law_yard_here", "_law_guests_here", "_law_k", "_law_filling"]):Cal P w K mg base "_law_is_filling" ["_law_yard_here", "_law_guests_here", "_law_k", "_law_filling"] 1 (spO (K:=K) R_isfill):=by
 refine D.ev Zau (fun ts r h=>by cases h;rfl) (fun _ _ _ _ s H E ts r hr h=>?_)
 cases h with
 |@mk y gs k f ok hg g8 k0 k1 h =>
   refine⟨_,(Zae (Zdo (i:=4) Zau.nd rfl rfl (NX:=["_law_yard_here", "_law_guests_here", "_law_k", "_law_filling", "_law_loads", "_law_guest", "_law_row", "_law_line", "_law_first", "_law_last", "_law_want", "_law_most", "_law_turn", "_law_here"]) (sc:=Zaf ZbG) (N:=["_law_line", "_law_yard_here"]) (f:=[none,some 0]) rfl (by decide +kernel) rfl rfl (Zl5 (Zav Zal (pv 0) Zah (fun _ _=>rfl))) (fun _=>(Zao (i:=0) (show(["_law_line", "_law_yard_here"]:List Str).Nodup by decide +kernel) rfl (Or.inl rfl))) (fun _=>ZaX) (fun _=>Zb2) (fun _=>(Zat ZnE (ZbL (Zaa Zah Zad)) (Zav Zal (pv 1) Zah (fun _ _=>rfl)))) rfl)
 (Zae (Zbp PassesOwn.never rfl (Zja rfl T.zip (Zaa (pv 1) (Zaa (pv 3) Zad))) (ZcZ (n:=2) rfl (Za1 (Zao (i:=5) Zau.nd rfl (Or.inl rfl)) (Za1 (Zao (i:=6) Zau.nd rfl (Or.inl rfl)) Zcd))) (Zae (ZeA (pv 5) (ZcZ (n:=5) rfl (Za1 (Zao (i:=7) Zau.nd rfl (Or.inl rfl)) (Za1 (Zao (i:=8) Zau.nd rfl (Or.inl rfl)) (Za1 (Zao (i:=9) Zau.nd rfl (Or.inl rfl)) (Za1 (Zao (i:=10) Zau.nd rfl (Or.inl rfl)) (Za1 (Zao (i:=11) Zau.nd rfl (Or.inl rfl)) Zcd)))))))
 (Zae (ZdZ (Zbm Zmc (Zaz Zhs (by rfl) T.sum Zh9 (Zaa (pv 6) Zad)) (Zat Zbn (pv 10) (pv 2)) (ZbT _)) (Zai (Zax Zhg)) Zb3)
 (Zai (Zbp PassesOwn.never rfl (ZaQ rfl T.range (Zaa (Zav Zal (pv 0) Zah (fun _ _=>rfl)) Zad)) (Zao (i:=12) Zau.nd rfl (Or.inl rfl)) (Zae (ZdZ (Zli (Zpb Zmq Zmq Zah (Zav Zal (pv 6) (pv 12) (fun _ _=>rfl)) (Zat Zbn (Zat Zbn (pv 11) (pv 2)) (ZcD ZtF (by rfl) T.int Zuj (Zaa (ZkY Zmq Zmq (pv 8) (pv 12) (pv 9)) Zad))))) (Zai (Zax Zhg)) Zb3)
 (Zae (Zar (i:=13) Zau.nd rfl (Or.inl rfl) (pv 7))
 (Zai (Zcj PassesOwn.never (Zfp (Zit (pv 13))) (Zae (ZeA (Zat Zch (Zav Zal (Zav Zal (pv 4) (pv 13) (fun _ _=>rfl)) (pv 12) (fun _ _=>rfl)) (Zav Zal (pv 6) (pv 12) (fun _ _=>rfl))) (ZnI (Zav Zal (pv 4) (pv 13) (fun _ _=>rfl)) (pv 12) ZdJ))
 (Zai (Zar (i:=13) Zau.nd rfl (Or.inl rfl) (Zav Zal (Zav Zal (Zav Zal (pv 0) Zah (fun _ _=>rfl)) (pv 13) (fun _ _=>rfl)) Zah (fun _ _=>rfl))))))))))))))
 (Zae (Zbp PassesOwn.never rfl (ZaQ rfl T.range (Zaa (Zaz Zcq (by rfl) T.len Zck (Zaa (pv 4) Zad)) Zad)) (Zao (i:=7) Zau.nd rfl (Or.inl rfl)) (Zai (Zbp PassesOwn.never rfl (ZaQ rfl T.range (Zaa (Zav Zal (pv 0) Zah (fun _ _=>rfl)) Zad)) (Zao (i:=12) Zau.nd rfl (Or.inl rfl)) (Zai (ZdZ (Zbm Zmc (Zav Zal (Zav Zal (pv 4) (pv 7) (fun _ _=>rfl)) (pv 12) (fun _ _=>rfl)) (Zat Zbn (Zav Zal (Zav Zal (Zav Zal (Zav Zal (pv 0) Zah (fun _ _=>rfl)) (pv 7) (fun _ _=>rfl)) Zah (fun _ _=>rfl)) (pv 12) (fun _ _=>rfl)) (pv 2)) (ZbT _)) (Zai (Zax Zhg)) Zb3)))))
 (Zai (Zax Zhg))))),?_⟩
   show EvS K _ [some _,some _,some _,some _,none,none,none,none,none,none,none,none,none,none] _
   walk_at"x"
   have l5:=ok.l5
   have t8:=ok.t8
   have eT:∀{ρ:ZaZ},ρ[0]?=some (some (.fz (eYd y)))->EvE K (tOp (rIx K) (Zb8 0) (tC (.int 0))) ρ (.int (y.T:Int)):=fun e=>ZaK (ds:=[PyData.int (y.T:Int),.tuple (y.ls.map eLn)]) (Zab e) Zay rfl
   have eLs:∀{ρ:ZaZ},ρ[0]?=some (some (.fz (eYd y)))->EvE K (tOp (rIx K) (Zb8 0) (tC (.int 1))) ρ (.tuple (y.ls.map eLn)):=fun e=>ZaK (ds:=[PyData.int (y.T:Int),.tuple (y.ls.map eLn)]) (Zab e) Zay rfl
   refine Zaq (ZbP (EvO.cast (Zlr (xs:=y.ls) (enc:=eLn) (h:=fun _=>(List.range y.T).map fun _=>PyData.int 0) ?ei0 (by omega) ?el0) (show _=OT.oll (ZaA y.ls.length y.T (Zly y gs f 0)) by unfold ZaA;rw[ZgC];rfl)) ?_)
   case ei0=>exact Zq4 (eLs rfl)
   case el0 =>
    intro x hx c;refine⟨_,by walk_at"g",?_⟩
    walk_at"e"
    exact EvO.cast (ZnY (ds:=[.int 0]) (k:=(y.T:Int)) (EvO.fz (Zdp (ZaJ Zay ZaU) (by decide))) (ZaK (ds:=[PyData.int (y.T:Int),.tuple (y.ls.map eLn)]) (Zab rfl) Zay rfl) (by omega) (by simp;omega) (by omega)) (by rw[Xn,Zvs])
   walk_at"d"
   refine Zaq (ZbN (ds:=Zmd (gs.map eGs) ((ZaA gs.length y.T f).map PyData.list)) (fun i=>[some (.fz (eYd y)),some (.fz (.list (gs.map eGs))),some (.fz (.int k)),some (.fz (.list ((ZaA gs.length y.T f).map PyData.list))),some (.oll (ZaA y.ls.length y.T (Zly y gs f i))),none,none,none,none,none,none,none,none,none]) ?ei ⟨rfl,rfl,rfl,rfl,rfl,trivial⟩ ?st ?fin)
   case ei=>exact Zh1 (Zac (Zab rfl) (Zac (Zab rfl) Zan))
   case fin =>
    intro ρ' hf;refine ZcW hf ?_
    have el:(Zmd (gs.map eGs) ((ZaA gs.length y.T f).map PyData.list)).length=gs.length:=by rw[ZiA,Xj,Xj,ZdF];omega
    rw[el];refine ZqQ 4 rfl rfl ?_
    walk_at"d"
    have tl:((ZaA y.ls.length y.T (Zly y gs f gs.length)).map PyData.list).length=y.ls.length:=by rw[Xj,ZdF]
    refine Zaq (ZbN (ds:=ZfX 0 y.ls.length) (fun i=>[some (.fz (eYd y)),some (.fz (.list (gs.map eGs))),some (.fz (.int k)),some (.fz (.list ((ZaA gs.length y.T f).map PyData.list))),some (.fz (.list ((ZaA y.ls.length y.T (Zly y gs f gs.length)).map PyData.list))),none,none,none,none,none,none,none,none,none]) ?ei5 ⟨rfl,rfl,rfl,rfl,rfl,trivial⟩ ?st5 ?fin5)
    case ei5=>exact EvI.cast (ZbQ (Zac (Zer (Zab rfl)) Zan) (by rw[z62,tl];omega) (by rw[z62,tl];omega)) (ZbW rfl (by rw[tl];omega))
    case fin5 =>
     intro ρ' hf;exact ZcW hf (Zbs ZqY rfl)
    case st5 =>
     intro l d hd;obtain⟨hl,rfl⟩:=Zb6 hd
     rw[Xao];refine⟨_,by walk_at"g",?_⟩
     walk_at"d"
     refine ZbN (ds:=ZfX 0 y.T) (fun i=>[some (.fz (eYd y)),some (.fz (.list (gs.map eGs))),some (.fz (.int k)),some (.fz (.list ((ZaA gs.length y.T f).map PyData.list))),some (.fz (.list ((ZaA y.ls.length y.T (Zly y gs f gs.length)).map PyData.list))),none,none,some (.fz (.int (l:Int))),none,none,none,none,none,none]) ?ei6 ⟨rfl,rfl,rfl,rfl,rfl,rfl,trivial⟩ ?st6 ?fin6
     case ei6=>exact EvI.cast (ZbQ (Zac (eT rfl) Zan) (by rw[z62];omega) (by rw[z62];omega)) (ZbW rfl (by omega))
     case fin6 =>
      intro ρ' hf;exact Fgt.trans hf ⟨rfl,rfl,rfl,rfl,rfl,trivial⟩
     case st6 =>
      intro t d hd;obtain⟨ht,rfl⟩:=Zb6 hd
      rw[Xao];refine⟨_,by walk_at"g",?_⟩
      walk_at"d"
      have a1:atI ((ZaA y.ls.length y.T (Zly y gs f gs.length)).map PyData.list) (l:Int)=some (.list ((List.range y.T).map fun t=>PyData.int (Zly y gs f gs.length l t))):=Zcu (by rw[Xi,ZcA _ hl];rfl)
      have a2:atI ((List.range y.T).map fun t=>PyData.int (Zly y gs f gs.length l t)) (t:Int)=some (.int (Zly y gs f gs.length l t)):=by rw[Zi7 (by omega) (by omega),Xn]
      have hbl:(y.ls.getD ((l:Nat):Int).toNat default).bs.length=y.T:=by rw[Xn];exact Ze0 ok hl
      have hb:(y.ls.getD ((l:Nat):Int).toNat default).bs.getD ((t:Nat):Int).toNat 0=Za9 y l t:=by
       rw[Xn,Xn];exact(Zc3 hl).symm
      have lm:ZeE y l∈y.ls:=by simp[ZeE,hl]
      have bb:0<=Za9 y l t/\Za9 y l t<10^300:=by
       rw[Zc3 hl];have ll:=Ze0 ok hl
       have:(ZeE y l).bs.getD t 0=(ZeE y l).bs[t]'(by omega):=by simp[List.getD,show t<(ZeE y l).bs.length by omega]
       rw[this];exact ok.bb _ lm _ (XM _)
      refine Zga (b:=false) (EvT.cast (Zco (Zfs (ZdT (ZdT (Zab rfl) (Zab rfl) a1) (Zab rfl) a2) (ZaG (x:=Za9 y l t) (EvE.cast (ZaK (ds:=(y.ls.getD ((l:Nat):Int).toNat default).bs.map PyData.int) (ZaK (ds:=[upD (y.ls.getD ((l:Nat):Int).toNat default).up,.tuple ((y.ls.getD ((l:Nat):Int).toNat default).bs.map PyData.int)]) (ZaK (eLs rfl) (Zab rfl) (ZfM (f:=eLn) (by omega) (by omega))) Zay rfl) (Zab rfl) (Zgr (by omega) (by omega))) (by rw[hb])) (Zab rfl) (ZcC bb.1 bb.2 k0 k1)))) ?eq6) (fun c=>nomatch c) (fun _=>Zb1 ⟨rfl,rfl,rfl,rfl,rfl,rfl,trivial⟩)
      case eq6 =>
       have:=h.load l t hl ht
       exact Xy (by unfold Zly;omega)
   case st =>
    intro i d hd;obtain⟨a,b,e1,e2,rfl⟩:=ZhZ hd
    have hi:i<gs.length:=by
     have:=(Xe.mp e1).1
     simpa using this
    have eg:gAt gs i=gs[i]:=by simp[gAt,List.getD,hi]
    obtain rfl:a=eGs (gAt gs i):=by rw[eg];simpa [hi] using e1.symm
    obtain rfl:b=.list ((List.range y.T).map fun t=>PyData.int (f i t)):=by
     rw[Xi,ZcA _ hi]at e2;simpa using e2.symm
    have gb:GBd y (gAt gs i):=by rw[eg];exact hg _ (XM _)
    have hitem:=h.item i
    have hsum:=h.sum i hi
    have ste:∀t,ZaA y.ls.length y.T (Zdg y (gAt gs i).line t (f i t) (ZmK y gs f i t))=ZaA y.ls.length y.T (ZmK y gs f i (t+1)):=fun t=>Zp7
    have sta:ZaA y.ls.length y.T (ZmK y gs f i 0)=ZaA y.ls.length y.T (Zly y gs f i):=ZeN fun l t _ _=>by unfold ZmK;rw[Xa (by omega)];omega
    have sto:=Zpo (y:=y) (gs:=gs) (f:=f) (i:=i)
    refine⟨_,by walk_at"g",?_⟩
    walk_at"d"
    generalize gAt gs i=g at gb hitem hsum ste;refine Zaq (Zn1 (Zab rfl) (Zg1 (ds:=[.int (g.line:Int),.int (g.first:Int),.int (g.last:Int),.int g.want,.int g.most]) (ZaL ZaB (ZaL ZaB (ZaL ZaB (ZaL ZaB (ZaL ZaB Zep))))) rfl) ?_)
    walk_at"d"
    refine Zaq (Zga (b:=false) (EvT.cast (Zco (Zfs (ZhE (ns:=(List.range y.T).map (f i)) (EvE.cast (Zab rfl) (by rw[XQ];rfl)) rfl) (ZaG (Zab rfl) (Zab rfl) (ZcC gb.w0 gb.w1 k0 k1)))) ?eqs) (fun c=>nomatch c) (fun _=>Zb1 ?_))
    case eqs =>
     have e:∀n,((List.range n).map (f i)).sum=Zas (f i) n:=fun n=>by
      induction n with
      |zero=>rfl
      |succ n ih=>rw[Xah,Xz,Xa6,ih];simp[Zas]
     rw[e];exact Xy (by omega)
    rw[<- sta];refine ZbN (ds:=ZfX 0 y.T) (fun t=>[some (.fz (eYd y)),some (.fz (.list (gs.map eGs))),some (.fz (.int k)),some (.fz (.list ((ZaA gs.length y.T f).map PyData.list))),some (.oll (ZaA y.ls.length y.T (ZmK y gs f i t))),some (.fz (eGs g)),some (.fz (.list ((List.range y.T).map fun t=>PyData.int (f i t)))),some (.fz (.int (g.line:Int))),some (.fz (.int (g.first:Int))),some (.fz (.int (g.last:Int))),some (.fz (.int g.want)),some (.fz (.int g.most)),none,none]) ?ei2 ⟨rfl,rfl,rfl,rfl,rfl,rfl,rfl,rfl,rfl,rfl,rfl,rfl,trivial⟩ ?st2 ?fin2
    case ei2=>exact EvI.cast (ZbQ (Zac (eT rfl) Zan) (by rw[z62];omega) (by rw[z62];omega)) (ZbW rfl (by omega))
    case fin2 =>
     intro ρ' hf;rw[Zcl,sto]at hf;exact Fgt.trans hf ⟨rfl,rfl,rfl,rfl,rfl,trivial⟩
    case st2 =>
     intro t d hd;obtain⟨ht,rfl⟩:=Zb6 hd
     rw[Xao];refine⟨_,by walk_at"g",?_⟩
     walk_at"d"
     obtain⟨i1,i2⟩:=hitem t hi ht
     have ar:∀{ρ:ZaZ},ρ[6]?=some (some (.fz (.list ((List.range y.T).map fun t=>PyData.int (f i t)))))->ρ[12]?=some (some (.fz (.int (t:Int))))->EvE K (tOp (rIx K) (Zb8 6) (Zb8 12)) ρ (.int (f i t)):=fun e6 e12=>ZdT (Zab e6) (Zab e12) (by rw[Zi7 (by omega) (by omega),Xn])
     have mk0:0<=g.most*k:=Xal gb.m0 k0
     refine Zaq (Zga (b:=false) (EvT.cast (ZkK (Zco (Zln Zay (ar rfl rfl) (ZaG (ZaG (Zab rfl) (Zab rfl) (ZcC gb.m0 gb.m1 k0 k1)) (Zr9 (Zln (Zab rfl) (Zab rfl) (Zab rfl))) (ZtN mk0 (Zsc gb.m0 gb.m1 k0 k1) (by split<;>omega) (by split<;>omega)))))) ?eq3) (fun c=>nomatch c) (fun _=>Zb1 ?_))
     case eq3 =>
      have i2':f i t<=g.most*k*(if (decide ((g.first:Int)<=(t:Int))&&decide ((t:Int)<=(g.last:Int)))=true then 1 else 0):=i2
      rw[X9 i1,X9 i2'];rfl
     refine Zaq (ZaT (Zab rfl) ?_)
     walk_at"d"
     rw[<- ste t];have hgl:=gb.ln
     generalize ZmK y gs f i t=W;refine Zc6 (fun m ρ'=>∃W':Nat->Nat->Int,m<=y.ls.length/\(if m=0 then W' else Zdg y (m-1) t (f i t) W')=Zdg y g.line t (f i t) W /\
      ρ'=[some (.fz (eYd y)),some (.fz (.list (gs.map eGs))),some (.fz (.int k)),some (.fz (.list ((ZaA gs.length y.T f).map PyData.list))),some (.oll (ZaA y.ls.length y.T W')),some (.fz (eGs g)),some (.fz (.list ((List.range y.T).map fun t=>PyData.int (f i t)))),some (.fz (.int (g.line:Int))),some (.fz (.int (g.first:Int))),some (.fz (.int (g.last:Int))),some (.fz (.int g.want)),some (.fz (.int g.most)),some (.fz (.int (t:Int))),some (.fz (if m=0 then .none else .int ((m-1:Nat):Int)))]) (g.line+1) ⟨W,by omega,by rw[Xa (by omega),X6],by rw[Xa (by omega),X6]⟩ ?ws
     rintro m ρ' ⟨W',hm,he,rfl⟩
     by_cases m0:m=0
     ·subst m0
      rw[Xc rfl]at he;refine⟨false,ZiK (Zgv (a:=.none) (Zab rfl)),fun c=>(nomatch c),fun _=>?_⟩
      rw[he];exact⟨rfl,rfl,rfl,rfl,rfl,rfl,rfl,rfl,rfl,rfl,rfl,rfl,trivial⟩
     ·obtain⟨j,rfl⟩:∃j,m=j+1:=⟨m-1,by omega⟩
      rw[Xa (by omega),X6]at he;rw[Xa (by omega),X6];have hj:j<y.ls.length:=by omega
      refine⟨true,ZiK (Zgv (a:=.int (j:Int)) (Zab rfl)),fun _=>?_,fun c=>(nomatch c)⟩
      have a1:atI ((ZaA y.ls.length y.T W').map PyData.list) (j:Int)=some (.list ((List.range y.T).map fun t=>PyData.int (W' j t))):=Zcu (by rw[Xi,ZcA _ hj];rfl)
      have a2:atI ((List.range y.T).map fun t=>PyData.int (W' j t)) (t:Int)=some (.int (W' j t)):=by rw[Zi7 (by omega) (by omega),Xn]
      have ix:ixN (ZaA y.ls.length y.T W').length (j:Int)=some j:=by
       rw[ZdF];have:=ZhH (n:=y.ls.length) (k:=(j:Int)) (by omega) (by omega)
       rwa [Xn]at this
      have ixt:ixN ((List.range y.T).map fun t=>PyData.int (W' j t)).length (t:Int)=some t:=by
       rw[Xj,XaR];have:=ZhH (n:=y.T) (k:=(t:Int)) (by omega) (by omega)
       rwa [Xn]at this
      refine Zaq (Zh0 (d:=.int (W' j t+f i t)) (k:=(j:Int)) (m:=(t:Int)) rfl (ZdC (Zie 4 rfl rfl rfl (ZdT (ZdT (Zab rfl) (Zab rfl) a1) (Zab rfl) a2)) (ar rfl rfl)) (Zab rfl) (Zab rfl) ix (ZcA _ hj) ixt ?_)
      walk_at"d"
      rw[ZgS W' _ hj ht];have hup:(y.ls.getD ((j:Nat):Int).toNat default).up=Zb9 y j:=by rw[Xn];exact(Zen hj).symm
      refine ZaT (d:=upD (Zb9 y j)) (EvE.cast (ZaK (ds:=[upD (y.ls.getD ((j:Nat):Int).toNat default).up,.tuple ((y.ls.getD ((j:Nat):Int).toNat default).bs.map PyData.int)]) (ZaK (eLs rfl) (Zab rfl) (ZfM (f:=eLn) (by omega) (by omega))) Zay rfl) (by rw[hup])) ?_
      walk_at"d"
      by_cases j0:j=0
      ·subst j0
       refine⟨0,by omega,Zgg W' 0 t (W' 0 t+f i t),by omega,?_,?_⟩
       ·rw[Xc rfl,<- he,Zht ok]
       ·rw[ok.up0,Xc rfl]
        rfl
      ·obtain⟨a,ea,la⟩:=ok.ups j (by omega) hj
       refine⟨a+1,by omega,Zgg W' j t (W' j t+f i t),by omega,?_,?_⟩
       ·rw[Xa (by omega),X6,<- he,Zhm ok hj ea]
       ·rw[ea,Xa (by omega),X6]
        rfl
theorem Zpk (y:Yd)(G:Gv)(φ:Phi Nd):((ZiU y G φ).map fun row=>row.map PyData.int)=ZaA G.m y.T fun k t=>ZcH G φ t k:=by
 unfold ZiU ZaA;rw[XQ];refine XX fun k _=>?_
 show((List.range y.T).map _).map PyData.int=_
 rw[XQ];rfl
theorem ZmQ {y:Yd}{gs:List Gs}{φ:Phi Nd}(ok:y.Ok)(hg:∀g∈gs,GOk y g)(F:Flow y (Zbi gs) φ):FillOk y gs 1 fun k t=>ZcH (Zbi gs) φ t k where
 sum i hi:=by
  rw[F.total (show i<(Zbi gs).m from hi),Xaj];exact(F.want (show i<(Zbi gs).m from hi)).2
 item i t hi ht:=by
  obtain⟨a,b⟩:=F.tak (show i<(Zbi gs).m from hi) ht
  refine⟨a,?_⟩
  rw[Xaj];unfold moT at b;have e:(Zbi gs).th i t=ZaY (gAt gs i) (t:Int):=rfl
  have e2:(Zbi gs).mo i=(gAt gs i).most:=rfl
  rw[e,e2]at b;by_cases c:ZaY (gAt gs i) (t:Int)=true
  ·rw[Xc c]at b ⊢
   omega
  ·rw[Xa c]at b ⊢
   omega
 load l t hl ht:=by
  rw[Xaj];exact F.load ok (ZkP hg) ht hl
theorem ZmG {y:Yd}{gs:List Gs}{lv:List (Fr×List Nat)}(hL:Lev y gs [] 0 1 lv)(g8:gs.length<=8)(i:Nat):(Zdc (lv.take i)).length<=8:=((ZlW hL i).ok g8).len
theorem Zjn {lv:List (Fr×List Nat)}{i:Nat}(hi:i<lv.length):(Zdc (lv.take (i+1))).length=(Zdc (lv.take i)).length+lv[i].2.length:=by
 unfold Zdc;rw[Xau,XH hi,Xan,Xt];simp
inductive R_fshares:List OT->(OT->Prop)->Prop
 |mk {y:Yd} {gs:List Gs} (h:Sml y gs):R_fshares [.fz (eYd y),.fz (.list (gs.map eGs))] (fun r=>∃lv,Lev y gs [] 0 1 lv/\r=.ol ((List.range gs.length).map fun k=>ZaV (frL lv k)))
theorem ZbX:FnScope ["yard", "guests", "shares", "share", "some", "number"] ["yard", "guests"] (Zaf ZcO):=by walk_at"p"
theorem ZlQ (T:Bl mg) (D:Df K mg "fair_shares" ZcO ["yard", "guests"]) (Xcg:Cal P w K mg base "fair_levels" ["yard", "guests"] 9 (spD K R_levels)):Cal P w K mg base "fair_shares" ["yard", "guests"] 10 (spD K R_fshares):=by
 refine D.evD ZbX (fun ts Φ h=>by cases h;rfl) (fun _ _ _ _ s H E ts Φ hr h=>?_)
 cases h with
 |@mk y gs h =>
   refine⟨_,(Zae (Zar (i:=2) ZbX.nd rfl (Or.inr rfl) Zqi)
 (Zae (Zbp PassesOwn.never rfl (ZbM (Zap Xcg hr (Zaa (pv 0) (Zaa (pv 1) Zad)) (hj:=by walk_at"j"))) (ZcZ (n:=2) rfl (Za1 (Zao (i:=3) ZbX.nd rfl (Or.inl rfl)) (Za1 (Zao (i:=4) ZbX.nd rfl (Or.inl rfl)) Zcd))) (Zai (Zbp PassesOwn.never rfl (ZbM (pv 4)) (Zao (i:=5) ZbX.nd rfl (Or.inl rfl)) (Zai (Zow (ZgQ hr) (pv 2) (pv 5) (pv 3) rfl)))))
 (Zai (Zax (Zfv (NX:=["yard", "guests", "shares", "share", "some", "number"]) (sc:=Zaf ZcO) (N:=["number", "shares"]) (f:=[none,some 2]) rfl (by decide +kernel) rfl rfl (ZaQ rfl T.range (Zaa (Zaz Zcq (by rfl) T.len Zck (Zaa (pv 1) Zad)) Zad)) (fun _=>(Zao (i:=0) (show(["number", "shares"]:List Str).Nodup by decide +kernel) rfl (Or.inl rfl))) (fun _=>ZaX) (fun _=>Zb2) (fun _=>(Zk0 (ZgQ hr) (pv 1) (pv 0) (fun _ _=>rfl)))))))),?_⟩
   show EvS K _ [some _,some _,none,none,none,none] _
   walk_at"x"
   have g8:=h.g8
   have gl:(gs.map eGs).length=gs.length:=by simp
   refine Zaq (Zd6 (Φ:=fun r=>∃v,r=.own v (dkP [])) (EvX.d Zqo fun v=>⟨v,rfl⟩) (fun r hr'=>?_))
   obtain⟨v,rfl⟩:=hr'
   walk_at"d"
   refine Zaq (Zrj (Ψ:=fun ds=>∃lv,Lev y gs [] 0 1 lv/\ds=lv.map ZmO) (Zp2 (ZcJ (Zac (Zab rfl) (Zac (Zab rfl) Zan)) (R_levels.mk h)) ?im) (fun ds hds=>?_))
   case im =>
    rintro r ⟨lv,hL,_,rfl⟩
    exact⟨_,rfl,lv,hL,rfl⟩
   obtain⟨lv,hL,rfl⟩:=hds
   refine⟨fun i ρ'=>∃kvs a b c,(∀k:Nat,(ZjI kvs (.inl (k:Int))).getD .none=shL (lv.take i) k)/\kvs.length<=(Zdc (lv.take i)).length/\ρ'=[some (.fz (eYd y)),some (.fz (.list (gs.map eGs))),some (.own v (dkP kvs)),a,b,c],⟨[],none,none,none,fun k=>rfl,X0 _,rfl⟩,?stE,?finE⟩
   case stE =>
    rintro i d _ hd ⟨kvs,a,b,c,hv,hl,rfl⟩
    have hi:i<lv.length:=by
     have:=(Xe.mp hd).1
     simpa using this
    obtain rfl:d=ZmO lv[i]:=by simpa [hi] using hd.symm
    have l8:=ZmG hL g8 (i+1)
    rw[Zjn hi]at l8;refine⟨_,Zg1 (ds:=[ZaV lv[i].1,.list (Zcv lv[i].2)]) (ZaL ZaB (ZaL ZaB Zep)) rfl,?_⟩
    walk_at"d"
    refine ZeF (ds:=Zcv lv[i].2) (fun j ρ'=>∃kvs c,(∀k:Nat,(ZjI kvs (.inl (k:Int))).getD .none=if k∈lv[i].2.take j then ZaV lv[i].1 else shL (lv.take i) k)/\kvs.length<=(Zdc (lv.take i)).length+j/\ρ'=[some (.fz (eYd y)),some (.fz (.list (gs.map eGs))),some (.own v (dkP kvs)),some (.fz (ZaV lv[i].1)),some (.fz (.list (Zcv lv[i].2))),c]) (Zcn (Zab rfl)) ⟨kvs,c,fun k=>by simpa using hv k,hl,rfl⟩ ?st2 ?fin2
    case st2 =>
     rintro j d _ hd2 ⟨kvs,c,hv,hl,rfl⟩
     have hj:j<lv[i].2.length:=by
      have:=(Xe.mp hd2).1
      simpa [Zcv] using this
     obtain rfl:d=.int ((lv[i].2[j]:Nat):Int):=by simpa [Zcv,hj] using hd2.symm
     refine⟨_,ZaB,?_⟩
     walk_at"d"
     refine Zqd (k:=.inl ((lv[i].2[j]:Nat):Int)) rfl (Zab rfl) (Zab rfl) (ZaO (by omega)) ?_
     refine⟨_,_,fun k=>?_,?_,rfl⟩
     ·rw[Zp9]
      have em:k∈lv[i].2.take (j+1)↔k∈lv[i].2.take j\/k=lv[i].2[j]:=by
       rw[Xau,XH hj,XI];simp
      by_cases c:k=lv[i].2[j]
      ·rw[Xc (by rw[c]),Xc (em.mpr (.inr c))]
       rfl
      ·rw[Xa (fun z=>c (by injection z with z;omega)),hv k]
       by_cases c2:k∈lv[i].2.take j
       ·rw[Xc c2,Xc (em.mpr (.inl c2))]
       ·rw[Xa c2,Xa (fun z=>(em.mp z).elim c2 c)]
     ·have:=Znd kvs (.inl ((lv[i].2[j]:Nat):Int)) (ZaV lv[i].1)
      omega
    case fin2 =>
     rintro _ ⟨kvs,c,hv,hl,rfl⟩
     have ln:(Zcv lv[i].2).length=lv[i].2.length:=by simp[Zcv]
     rw[ln]at hv hl;rw[Xap]at hv;refine⟨kvs,_,_,_,fun k=>?_,?_,rfl⟩
     ·rw[hv k,Zpa hi k]
     ·rw[Zjn hi]
      exact hl
   case finE =>
    rintro _ ⟨kvs,a,b,c,hv,hl,rfl⟩
    rw[Xj,Xap]at hv;refine ZqZ 2 rfl ?_
    walk_at"d"
    refine ZeG (ZeZ (xs:=List.range gs.length) (enc:=fun(k:Nat)=>PyData.int (k:Int)) (h:=fun k=>ZaV (frL lv k)) ?ei (by simp;omega) ?el) ⟨lv,hL,rfl⟩
    case ei =>
     refine EvI.cast (ZbQ (Zac (Zer (Zab rfl)) Zan) (by rw[z62,gl];omega) (by rw[z62,gl];omega)) ?_
     rw[gl,Xn];unfold ZfX;refine XX fun i _=>?_
     rw[Xao]
    case el =>
     intro k hk c;refine⟨_,ZaB,?_⟩
     walk_at"e"
     refine Zqf (k:=.inl (k:Int)) rfl (Zab rfl) ?_
     have e:=hv k
     rw[hL.sh_fr (Xl.mp hk)]at e;cases z:ZjI kvs (.inl (k:Int)) with
     |none=>rw[z]at e;cases e
     |some d=>rw[z]at e;rw[<- e];rfl
def ttF (gs:List Gs)(lv:List (Fr×List Nat))(i:Nat):Fr:=shF (waN gs i*((frL lv i).t:Int)).toNat (frL lv i).b
def awF (gs:List Gs)(lv:List (Fr×List Nat))(k:Int)(i:Nat):Int:=((ttF gs lv i).t:Int)*k/((ttF gs lv i).b:Int)
theorem ZkH {y:Yd}{gs:List Gs}(s:Sml y gs){i:Nat}(hi:i<gs.length):1<=waN gs i/\waN gs i<10^30:=by
 refine⟨s.giv.w1 i hi,?_⟩
 show(gs.getD i default).want<_
 rw[Zdd hi];exact(s.w30 _ (XM hi)).1
theorem ZpG {y:Yd}{gs:List Gs}(s:Sml y gs){lv:List (Fr×List Nat)}(hL:Lev y gs [] 0 1 lv){i:Nat}(hi:i<gs.length):(0<(frL lv i).b/\(frL lv i).t<=(frL lv i).b)/\(0<(ttF gs lv i).b/\(ttF gs lv i).b<=2^103/\(ttF gs lv i).t<2^210)/\((ttF gs lv i).t:Int)*((frL lv i).b:Int)=((ttF gs lv i).b:Int)*(waN gs i*((frL lv i).t:Int)):=by
 obtain⟨l,h1,h2,h3,_⟩:=hL.fr_at (Q:=1) i hi (fun z=>nomatch z)
 obtain⟨fr,le,_⟩:=hL.fr l h1
 obtain⟨w1,w2⟩:=ZkH s hi
 unfold ttF;rw[h3];have b1:=fr.ok.1
 have n0:0<=waN gs i*(l.1.t:Int):=Xal (by omega) (by omega)
 obtain⟨a,b,c,d⟩:=Zfg (n:=(waN gs i*(l.1.t:Int)).toNat) (m:=l.1.b) b1
 rw[XF n0]at c;refine⟨⟨b1,le⟩,⟨a.1,XS d fr.b,?_⟩,c⟩
 have t1:((shF (waN gs i*(l.1.t:Int)).toNat l.1.b).t:Int)<=waN gs i*(l.1.t:Int):=by
  generalize shF (waN gs i*(l.1.t:Int)).toNat l.1.b=g at c d;have h5:(g.b:Int)*(waN gs i*(l.1.t:Int))<=(l.1.b:Int)*(waN gs i*(l.1.t:Int)):=XR (by omega) n0
  rw[<- c,Xk]at h5;exact Xac h5 (by omega)
 have t2:waN gs i*(l.1.t:Int)<=10^30*((2^103:Nat):Int):=Xbb (by omega) (Xat.mpr (XY fr.t)) (by omega) (by decide +kernel)
 have t3:(10:Int)^30*((2^103:Nat):Int)<((2^210:Nat):Int):=by decide +kernel
 have t4:=XV (XaN t1 t2) t3
 exact Xas.mp t4
theorem Zrw {y:Yd}{gs:List Gs}(s:Sml y gs){lv:List (Fr×List Nat)}(hL:Lev y gs [] 0 1 lv){k:Int}{i:Nat}(hi:i<gs.length)(hd:((ttF gs lv i).b:Int)∣k):awF gs lv k i*((frL lv i).b:Int)=k*(waN gs i*((frL lv i).t:Int)):=by
 obtain⟨_,⟨b1,_,_⟩,c⟩:=ZpG s hL hi
 obtain⟨e,rfl⟩:=hd
 unfold awF;generalize ((ttF gs lv i).t:Int)=t at c;have b0:((ttF gs lv i).b:Int)≠0:=by omega
 generalize ((ttF gs lv i).b:Int)=b at c b0;have e1:t*(b*e)=t*e*b:=by rw[Xk b,Xg]
 rw[e1,Int.mul_ediv_cancel _ b0,Xg,Xk e,<- Xg,c,Xg,Xk (waN gs i*_),<- Xg]
theorem ZsL {y:Yd}{gs:List Gs}(s:Sml y gs){lv:List (Fr×List Nat)}(hL:Lev y gs [] 0 1 lv){k:Int}(k1:1<=k){i:Nat}(hi:i<gs.length)(hd:((ttF gs lv i).b:Int)∣k):0<=awF gs lv k i/\awF gs lv k i<=waN gs i*k:=by
 obtain⟨⟨f1,f2⟩,⟨b1,_,_⟩,_⟩:=ZpG s hL hi
 have e:=Zrw s hL hi hd
 obtain⟨w1,_⟩:=ZkH s hi
 refine⟨XaD (Xal (by omega) (by omega)) (by omega),?_⟩
 have h1:k*(waN gs i*((frL lv i).t:Int))<=k*(waN gs i*((frL lv i).b:Int)):=Xu (Xu (by omega) (by omega)) (by omega)
 rw[<- e,<- Xg,Xk k]at h1;exact XaQ h1 (by omega)
theorem ZeV (S:Nat->Bool)(w:Nat->Int)(c:Int)(n:Nat):Zas (Zaw S fun i=>c*w i) n=c*Zas (Zaw S w) n:=by
 rw[<- Zc5];refine Zag fun i _=>?_
 unfold Zaw;split
 ·rfl
 ·simp
theorem ZpM {y:Yd}{gs:List Gs}(s:Sml y gs){lv:List (Fr×List Nat)}(hL:Lev y gs [] 0 1 lv){k:Int}(k1:1<=k)(hd:∀i,i<gs.length->((ttF gs lv i).b:Int)∣k)(S:Nat->Bool):Zas (Zaw S (awF gs lv k)) gs.length<=k*gvS y gs S:=by
 have ffr:∀f∈lv.map (·.1),0<f.b:=fun f hf=>by
  obtain⟨l,hl,rfl⟩:=Xx.mp hf
  exact(hL.fr l hl).1.ok.1
 have q1:0<ZeJ 1 (lv.map (·.1)):=Zfz (by decide) ffr
 have qd:∀l∈lv,l.1.b∣ZeJ 1 (lv.map (·.1)):=fun l hl=>ZeK (Xbk hl)
 generalize ZeJ 1 (lv.map (·.1))=B at q1 qd;have qk:0<k*(B:Int):=Int.mul_pos (by omega) (by omega)
 have dI:∀l∈lv,(l.1.b:Int)∣(B:Int):=fun l hl=>Int.ofNat_dvd.mpr (qd l hl)
 have h1:=hL.bears s qk (fun l hl=>Int.dvd_trans (dI l hl) ⟨k,Xk _ _⟩) S
 have e1:Zas (Zaw S fun i=>waN gs i*phL (k*(B:Int)) lv i) gs.length=(B:Int)*Zas (Zaw S (awF gs lv k)) gs.length:=by
  rw[<- ZeV];refine Zag fun i hi=>?_
  unfold Zaw;split
  ·obtain⟨l,l1,l2,l3,l4⟩:=hL.fr_at (Q:=k*(B:Int)) i hi (fun z=>nomatch z)
   have ae:=Zrw s hL hi (hd i hi)
   rw[l3]at ae;have b1:=(hL.fr l l1).1.ok.1
   obtain⟨c,hc⟩:=dI l l1
   show waN gs i*phL (k*(B:Int)) lv i=(B:Int)*awF gs lv k i
   rw[l4,hc];have e2:k*((l.1.b:Int)*c)=k*c*(l.1.b:Int):=by rw[Xk (l.1.b:Int),Xg]
   rw[e2,Int.mul_ediv_cancel _ (by omega)];have e3:(l.1.b:Int)*c*awF gs lv k i=c*(awF gs lv k i*(l.1.b:Int)):=by rw[Xk (l.1.b:Int),Xg,Xk (l.1.b:Int)]
   rw[e3,ae,Xk k c];generalize waN gs i=u;generalize (l.1.t:Int)=t;rw[<- Xg,Xk,Xg]
  ·rfl
 rw[e1,Xk k,Xg]at h1;exact Xac h1 (by omega)
theorem Zct (gs:List Gs)(tf:Nat->Fr)(k:Int):(Zdh gs tf k).length=gs.length:=by simp[Zdh]
theorem ZiB {gs:List Gs}{tf:Nat->Fr}{k:Int}{i:Nat}(hi:i<gs.length):(Zdh gs tf k).getD i default=⟨(gs.getD i default).line,(gs.getD i default).first,(gs.getD i default).last,((tf i).t:Int)*k/((tf i).b:Int),(gs.getD i default).most*k⟩:=by
 unfold Zdh;simp[List.getD,hi]
theorem Zhu (gs:List Gs)(tf:Nat->Fr)(k:Int)(t:Int)(l:Nat):∀sm:List Nat,Zbf (Zdh gs tf k) t l sm=Zbf gs t l sm*k
 |[]=>by simp[Zbf]
 |j::r=>by
   simp only[Zbf];rw[Zhu gs tf k t l r,Xbh];congr 1
   by_cases hj:j<gs.length
   ·have e1:(Zdh gs tf k)[j]?=some ((Zdh gs tf k).getD j default):=by simp[List.getD,Zct,hj]
    have e2:gs[j]?=some (gs.getD j default):=by simp[List.getD,hj]
    rw[e1,e2,ZiB hj];generalize gs.getD j default=g;show(if g.line=l/\ZaY g t=true then g.most*k else 0)=(if g.line=l/\ZaY g t=true then g.most else 0)*k
    split
    ·rfl
    ·simp
   ·have e1:(Zdh gs tf k)[j]?=none:=XaT.mpr (by rw[Zct];omega)
    have e2:gs[j]?=none:=XaT.mpr (by omega)
    rw[e1,e2];simp
theorem Zld (y:Yd)(q:Int)(j:Nat):Zb9 (Zaj y q) j=Zb9 y j:=by
 simp only[Zb9,Zaj,Xi];cases y.ls[j]?<;>rfl
theorem Zft (y:Yd)(q:Int)(j t:Nat):Za9 (Zaj y q) j t=Za9 y j t*q:=by
 simp only[Za9,Zaj,Xi];cases y.ls[j]? with
 |none=>simp
 |some ln =>
   simp only[X8,XaG,Zem,List.getD,Xi];cases ln.bs[t]?<;>simp
theorem Zhi {y:Yd}(gs:List Gs)(tf:Nat->Fr)(sm:List Nat){k:Int}(h:0<=k):Za6 (Zaj y k) (Zdh gs tf k) sm=k*Za6 y gs sm:=by
 rw[Za6,Za6,ZaH,ZaH,<- Zc5];refine Zag fun t _=>?_
 unfold ZcK Zej;have hb:(fun j=>Za9 (Zaj y k) j t)=fun j=>Za9 y j t*k:=funext fun j=>Zft y k j t
 have ho:(fun l=>Zbf (Zdh gs tf k) (t:Int) l sm)=fun l=>Zbf gs (t:Int) l sm*k:=funext fun l=>Zhu gs tf k t l sm
 rw[hb,ho,Zhp h (Zld y k) (by simp[Zaj]),Xk]
theorem Zfr (y:Yd)(k:Int):∀j,upL (Zaj y k) j=upL y j:=by
 intro j;induction j using Nat.strongRecOn with
 |ind j ih =>
   rw[upL,upL,Zld];cases e:Zb9 y j with
   |none=>rfl
   |some a =>
     dsimp only;split
     ·rename_i c
      rw[ih a c]
     ·rfl
theorem ZlE {f:Nat->Int}(n:Nat):(∀i,i<n->0<=f i)->Zas f n<=0->∀i,i<n->f i=0:=by
 induction n with
 |zero=>exact fun _ _ i hi=>Xp hi (by omega)
 |succ n ih =>
   intro h0 h1 i hi;have s0:0<=Zas f n:=ZgP fun j hj=>h0 j (by omega)
   have l0:=h0 n (by omega)
   have h1:Zas f n+f n<=0:=h1
   by_cases c:i=n
   ·subst c;omega
   ·exact ih (fun j hj=>h0 j (by omega)) (by omega) i (by omega)
theorem ZeI {p q:Prop} [Decidable p] [Decidable q] (h:p↔q):ind p=ind q:=by
 unfold ind;by_cases c:p
 ·rw[Xc c,Xc (h.mp c)]
 ·rw[Xa c,Xa (fun z=>c (h.mpr z))]
theorem Zoi {y:Yd}{gs:List Gs}(s:Sml y gs){lv:List (Fr×List Nat)}(hL:Lev y gs [] 0 1 lv){k:Int}(k1:1<=k)(hd:∀i,i<gs.length->((ttF gs lv i).b:Int)∣k)
 (ok':(Zaj y k).Ok) (hg':∀g∈Zdh gs (ttF gs lv) k,GOk (Zaj y k) g) {φ:Phi Nd} (h:ZuB (Zaj y k) (Zbi (Zdh gs (ttF gs lv) k)) φ) :
 FillOk y gs k (fun i t=>ZcH (Zbi (Zdh gs (ttF gs lv) k)) φ t i)/\∀i,i<gs.length->Zas (fun t=>ZcH (Zbi (Zdh gs (ttF gs lv) k)) φ t i) y.T=awF gs lv k i:=by
 obtain⟨F,es,hs,hc,hf⟩:=h
 have FO:=ZmQ ok' hg' F
 have wa:∀i,i<gs.length->(Zbi (Zdh gs (ttF gs lv) k)).wa i=awF gs lv k i:=fun i hi=>by
  show((Zdh gs (ttF gs lv) k).getD i default).want=_
  rw[ZiB hi];rfl
 have lk:ZlX (Zaj y k) (Zbi (Zdh gs (ttF gs lv) k)) φ=ZeY (Zaj y k) (Zbi (Zdh gs (ttF gs lv) k)) (Zd0 es):=F.lack ok' (ZkP hg') hc hs hf
 have sh:ZeY (Zaj y k) (Zbi (Zdh gs (ttF gs lv) k)) (Zd0 es)<=0:=by
  have e1:ZeY (Zaj y k) (Zbi (Zdh gs (ttF gs lv) k)) (Zd0 es)=Zas (Zaw (Zd0 es) (Zbi (Zdh gs (ttF gs lv) k)).wa) gs.length-k*gvS y gs (Zd0 es):=by
   have e2:=Zjs (Zaj y k) (Zdh gs (ttF gs lv) k) (Zd0 es)
   have e3:ZgF (Zdh gs (ttF gs lv) k) (Zb0 (Zdh gs (ttF gs lv) k) (Zd0 es))=Zas (Zaw (Zd0 es) (Zbi (Zdh gs (ttF gs lv) k)).wa) gs.length:=by
    have:=ZcU (fun i=>((Zdh gs (ttF gs lv) k).getD i default).want) (Zd0 es) (Zdh gs (ttF gs lv) k).length
    rw[Zct]at this;unfold ZgF;rw[Zfb (gs:=gs) (Zct _ _ _)]
    exact this
   rw[e2,e3,Zhi gs _ _ (by omega),Zfb (gs:=gs) (Zct _ _ _)]
   rfl
  rw[e1];have e4:Zas (Zaw (Zd0 es) (Zbi (Zdh gs (ttF gs lv) k)).wa) gs.length=Zas (Zaw (Zd0 es) (awF gs lv k)) gs.length:=Zag fun i hi=>by
   unfold Zaw;rw[wa i hi]
  rw[e4];have:=ZpM s hL k1 hd (Zd0 es)
  omega
 have nn:∀i,i<gs.length->0<=(Zbi (Zdh gs (ttF gs lv) k)).wa i-Zas (fun t=>ZcH (Zbi (Zdh gs (ttF gs lv) k)) φ t i) y.T:=fun i hi=>by
  have:=FO.sum i (by rw[Zct];exact hi)
  rw[Xaj]at this;have this:Zas (fun t=>ZcH (Zbi (Zdh gs (ttF gs lv) k)) φ t i) y.T<=(Zbi (Zdh gs (ttF gs lv) k)).wa i:=this
  omega
 have z:ZlX (Zaj y k) (Zbi (Zdh gs (ttF gs lv) k)) φ=Zas (fun i=>(Zbi (Zdh gs (ttF gs lv) k)).wa i-Zas (fun t=>ZcH (Zbi (Zdh gs (ttF gs lv) k)) φ t i) y.T) gs.length:=by
  unfold ZlX;have:(Zbi (Zdh gs (ttF gs lv) k)).m=gs.length:=Zct _ _ _
  rw[this];rfl
 have all0:=ZlE _ nn (by rw[<- z,lk];exact sh)
 have tot:∀i,i<gs.length->Zas (fun t=>ZcH (Zbi (Zdh gs (ttF gs lv) k)) φ t i) y.T=awF gs lv k i:=fun i hi=>by
  have:=all0 i hi
  rw[wa i hi]at this;omega
 refine⟨⟨fun i hi=>?_,fun i t hi ht=>?_,fun l t hl ht=>?_⟩,tot⟩
 ·rw[tot i hi]
  exact(ZsL s hL k1 hi (hd i hi)).2
 ·obtain⟨a,b⟩:=FO.item i t (by rw[Zct];exact hi) ht
  refine⟨a,?_⟩
  have e:gAt (Zdh gs (ttF gs lv) k) i=_:=ZiB hi
  rw[e,Xaj]at b;exact b
 ·have b:=FO.load l t (by simpa [Zaj] using hl) ht
  rw[Zft,Xaj]at b;refine XaN (Int.le_of_eq ?_) b
  unfold Zeb;rw[Zct];refine Zag fun i hi=>?_
  have e:(gAt (Zdh gs (ttF gs lv) k) i).line=(gAt gs i).line:=by
   show((Zdh gs (ttF gs lv) k).getD i default).line=_
   rw[ZiB hi];rfl
  dsimp only;rw[ZeI (p:=l∈upL y (gAt gs i).line) (q:=l∈upL (Zaj y k) (gAt (Zdh gs (ttF gs lv) k) i).line) (by rw[e,Zfr])]
structure FairF (y:Yd)(gs:List Gs)(k:Int)(f:Nat->Nat->Int)(lv:List (Fr×List Nat)):Prop where
 k1:1<=k
 k2:k<10^260
 fill:FillOk y gs k f
 lev:Lev y gs [] 0 1 lv
 tot:∀i,i<gs.length->Zas (f i) y.T*((frL lv i).b:Int)=k*(waN gs i*((frL lv i).t:Int))
inductive R_fairest:List OT->(OT->Prop)->Prop
 |mk {y:Yd} {gs:List Gs} (h:Sml y gs):R_fairest [.fz (eYd y),.fz (.list (gs.map eGs))] (fun r=>∃v k f lv,r=.own v (Zj2 (.int k) (ZaA gs.length y.T f))/\FairF y gs k f lv)
theorem Zez:FnScope ["yard", "guests", "shares", "totals", "k"] ["yard", "guests"] (Zaf Zfk):=by walk_at"p"
theorem Zms (T:Bl mg) (D:Df K mg "fairest" Zfk ["yard", "guests"]) (Xch:Cal P w K mg base "fair_shares" ["yard", "guests"] 10 (spD K R_fshares)) (Xbu:Cal P w K mg base "want_of" ["guest"] 1 (spO (K:=K) R_want)) (XbM:Cal P w K mg base "fraction" ["top", "bottom"] 2 (spO (K:=K) R_frac)) (XbL:Cal P w K mg base "common_bottom" ["parts"] 2 (spO (K:=K) R_cbot))
 (Xci:Cal P w K mg base "best_filling" ["yard", "guests"] 6 (spD K R_great)) (XbN:Cal P w K mg base "yard_times" ["yard", "k"] 2 (spO (K:=K) R_ydtimes)) (XbO:Cal P w K mg base "asking" ["guests", "totals", "k"] 3 (spO (K:=K) R_asking)):Cal P w K mg base "fairest" ["yard", "guests"] 11 (spD K R_fairest):=by
 refine D.evD Zez (fun ts Φ h=>by cases h;rfl) (fun _ _ _ _ s H E ts Φ hr h=>?_)
 cases h with
 |@mk y gs h =>
   refine⟨_,(Zae (Zar (i:=2) Zez.nd rfl (Or.inl rfl) (Zap Xch hr (Zaa (pv 0) (Zaa (pv 1) Zad)) (hj:=by walk_at"j")))
 (Zae (Zdo (i:=3) Zez.nd rfl rfl (NX:=["yard", "guests", "shares", "totals", "k"]) (sc:=Zaf Zfk) (N:=["guest", "share"]) (f:=[none,none]) rfl (by decide +kernel) rfl rfl (Zja rfl T.zip (Zaa (pv 1) (Zaa (pv 2) Zad))) (fun _=>(ZcZ (n:=2) rfl (Za1 (Zao (i:=0) (show(["guest", "share"]:List Str).Nodup by decide +kernel) rfl (Or.inl rfl)) (Za1 (Zao (i:=1) (show(["guest", "share"]:List Str).Nodup by decide +kernel) rfl (Or.inl rfl)) Zcd)))) (fun _=>(ZmF (n:=2) (Ze2 ZaX (Ze2 ZaX Zkt)))) (fun _=>Zb2) (fun _=>(Zap XbM hr (Zaa (Zat Zbn (Zap Xbu hr (Zaa (pv 0) Zad) (hj:=by walk_at"j")) (Zav Zal (pv 1) Zah (fun _ _=>rfl))) (Zaa (Zav Zal (pv 1) Zah (fun _ _=>rfl)) Zad)) (hj:=by walk_at"j"))) rfl)
 (Zae (Zar (i:=4) Zez.nd rfl (Or.inl rfl) (Zap XbL hr (Zaa (pv 3) Zad) (hj:=by walk_at"j")))
 (Zai (Zax (ZbK (Zaa (pv 4) (Zaa (Zap Xci hr (Zaa (Zap XbN hr (Zaa (pv 0) (Zaa (pv 4) Zad)) (hj:=by walk_at"j")) (Zaa (Zap XbO hr (Zaa (pv 1) (Zaa (pv 3) (Zaa (pv 4) Zad))) (hj:=by walk_at"j")) Zad)) (hj:=by walk_at"j")) Zad)))))))),?_⟩
   show EvS K _ [some _,some _,none,none,none] _
   walk_at"x"
   have g8:=h.g8
   have ok:=h.ok
   refine Zaq (Zd6 (ZcJ (Zac (Zab rfl) (Zac (Zab rfl) Zan)) (R_fshares.mk h)) (fun r hr'=>?_))
   obtain⟨lv,hL,rfl⟩:=hr'
   walk_at"d"
   refine ZeR 2 rfl ?_
   walk_at"d"
   refine Zaq (ZbP (ZeZ (xs:=List.range gs.length) (enc:=fun i=>.tuple [eGs (gs.getD i default),ZaV (frL lv i)]) (h:=fun i=>ZaV (ttF gs lv i)) ?ei (by simp;omega) ?el) ?_)
   case ei=>exact EvI.cast (Zh1 (Zac (Zab rfl) (Zac (Zab rfl) Zan))) (ZnV gs eGs _)
   case el =>
    intro i hi c;have hi:=Xl.mp hi
    obtain⟨w1,w2⟩:=ZkH h hi
    obtain⟨l,l1,_,l3,_⟩:=hL.fr_at (Q:=1) i hi (fun z=>nomatch z)
    obtain⟨fr,le,_⟩:=hL.fr l l1
    rw[<- l3]at fr le;have b1:=fr.ok.1
    have ix:∀{ρ:ZaZ} {j:Nat} {n:Int} {d:PyData},ρ[j]?=some (some (.fz (ZaV (frL lv i))))->atI [.int ((frL lv i).t:Int),.int ((frL lv i).b:Int)] n=some d->EvE K (tOp (rIx K) (Zb8 j) (tC (.int n))) ρ d:=fun e h=>ZaK (ds:=[.int ((frL lv i).t:Int),.int ((frL lv i).b:Int)]) (Zab e) Zay h
    refine⟨_,Zg1 (ds:=[eGs (gs.getD i default),ZaV (frL lv i)]) (ZaL ZaB (ZaL ZaB Zep)) rfl,?_⟩
    walk_at"e"
    have t300:((frL lv i).t:Int)<10^300:=by
     have:((frL lv i).t:Int)<((2^103:Nat):Int):=Xas.mpr fr.t
     exact X7 this (by decide +kernel)
    have w300:waN gs i<10^300:=X7 w2 (by decide +kernel)
    have b8:((frL lv i).b:Int)<2^8000:=by
     have:((frL lv i).b:Int)<=((2^103:Nat):Int):=Xat.mpr fr.b
     exact XV this (by decide +kernel)
    have n0:0<=waN gs i*((frL lv i).t:Int):=Xal (by omega) (by omega)
    refine EvE.cast (Za0 (Zac (ZaG (x:=waN gs i) (Za0 (Zac (Zab rfl) Zan) R_want.mk) (ix rfl rfl) (ZcC (by omega) w300 (by omega) t300)) (Zac (ix rfl rfl) Zan)) (R_frac.mk (t:=waN gs i*((frL lv i).t:Int)) (b:=(frL lv i).b) b1 b8)) ?eq
    case eq =>
     have e:=XF n0
     unfold ZaV ttF;rw[(Zfg (n:=(waN gs i*((frL lv i).t:Int)).toNat) b1).2.1]
     show _=PyData.tuple [.int (frT _ _),.int (frB _ _:Int)]
     rw[e]
   walk_at"d"
   refine ZeR 3 rfl ?_
   walk_at"d"
   have tb:∀f∈(List.range gs.length).map (ttF gs lv),0<f.b/\f.b<=2^103:=fun f hf=>by
    obtain⟨i,hi,rfl⟩:=Xx.mp hf
    obtain⟨_,⟨a,b,_⟩,_⟩:=ZpG h hL (Xl.mp hi)
    exact⟨a,b⟩
   refine Zaq (ZaT (Za0 (Zac (EvE.cast (d':=.list (((List.range gs.length).map (ttF gs lv)).map ZaV)) (Zab rfl) (by rw[XQ];rfl)) Zan) (R_cbot.mk (fun f hf=>⟨(tb f hf).1,XS (tb f hf).2 (XaH (by decide) (by decide))⟩) (by simp;omega))) ?_)
   walk_at"d"
   have kp:0<ZeJ 1 ((List.range gs.length).map (ttF gs lv)):=Zfz (by decide) fun f hf=>(tb f hf).1
   have kl:ZeJ 1 ((List.range gs.length).map (ttF gs lv))<=2^824:=XS (Zo3 (c:=0) (by decide) fun f hf=>(tb f hf).2) (XaH (by decide) (by simp;omega))
   have kd:∀i,i<gs.length->(ttF gs lv i).b∣ZeJ 1 ((List.range gs.length).map (ttF gs lv)):=fun i hi=>ZeK (Xbk (Xl.mpr hi))
   generalize ZeJ 1 ((List.range gs.length).map (ttF gs lv))=k at kp kl kd;have k1:1<=(k:Int):=by omega
   have k2:(k:Int)<10^260:=by
    have:(k:Int)<=((2^824:Nat):Int):=Xat.mpr kl
    exact XV this (by decide +kernel)
   have k3:(k:Int)<10^300:=X7 k2 (by decide +kernel)
   have hd:∀i,i<gs.length->((ttF gs lv i).b:Int)∣(k:Int):=fun i hi=>Int.ofNat_dvd.mpr (kd i hi)
   have p30:∀{a:Int},a<10^30->a<10^300:=fun h=>X7 h (by decide +kernel)
   have bm:∀l∈y.ls,∀b∈l.bs,b*(k:Int)<10^300:=fun l hl b hb=>by
    have h1:=h.b30 l hl b hb
    have h2:b*(k:Int)<=10^30*(k:Int):=XR (by omega) (by omega)
    have h3:(10:Int)^30*(k:Int)<=10^30*10^260:=Xu (by omega) (by decide +kernel)
    exact XV (XaN h2 h3) (by decide +kernel)
   have ok':(Zaj y (k:Int)).Ok:=Zf8 ok (by omega) bm
   have hg':∀g∈Zdh gs (ttF gs lv) (k:Int),GOk (Zaj y (k:Int)) g:=fun g hg=>by
    obtain⟨i,hi,rfl⟩:=Xx.mp hg
    have hi:=Xl.mp hi
    have gm:gs.getD i default∈gs:=by rw[Zdd hi];exact XM hi
    have go:=h.hg _ gm
    exact⟨by have:=go.ln;simpa [Zaj] using this,(ZsL h hL k1 hi (hd i hi)).1,Xal (by have:=go.m1;omega) (by omega)⟩
   refine Zko (Zp8 (Ψ:=fun dss=>∃f lv,dss=ZaA gs.length y.T f/\FairF y gs (k:Int) f lv) (Zab rfl) (ZcJ (Zac (Za0 (Zac (Zab rfl) (Zac (Zab rfl) Zan)) (R_ydtimes.mk (fun l hl b hb=>ZcC (ok.bb l hl b hb).1 (p30 (h.b30 l hl b hb)) (by omega) k3) (fun l hl=>by rw[ok.bl l hl];exact ok.t8) ok.l5)) (Zac (Zds (Zac (Zab rfl) (Zac (Zab rfl) (Zac (Zab rfl) Zan))) (R_asking.mkF (tf:=ttF gs lv) k1 k2 (fun i hi=>(ZpG h hL hi).2.1) (fun g hg=>⟨⟨by have:=(h.hg g hg).w1;omega,(h.w30 g hg).1⟩,by have:=(h.hg g hg).m1;omega,(h.w30 g hg).2⟩) g8)) Zan)) (R_great.mk ok' hg' (by rw[Zct];exact g8))) ?im) (fun r hr'=>?_)
   case im =>
    rintro r ⟨φ,full,rfl⟩
    obtain⟨fo,tot⟩:=Zoi h hL k1 hd ok' hg' full
    refine⟨_,rfl,_,lv,?_,k1,k2,fo,hL,fun i hi=>?_⟩
    ·rw[Zpk]
     show ZaA (Zdh gs (ttF gs lv) (k:Int)).length y.T _=_
     rw[Zct]
    ·rw[tot i hi]
     exact Zrw h hL hi (hd i hi)
   obtain⟨v,dss,rfl,f,lv,rfl,ff⟩:=hr'
   exact⟨v,_,f,lv,rfl,ff⟩
def ZbI (y:Yd)(g:Nat->Nat->Int)(line t:Nat):Int:=ZkI ((upL y line).map fun l=>Za9 y l t-g l t)
theorem ZiJ (y:Yd)(g:Nat->Nat->Int)(line t:Nat):(∀l∈upL y line,ZbI y g line t<=Za9 y l t-g l t)/\∃l∈upL y line,ZbI y g line t=Za9 y l t-g l t:=by
 obtain⟨h1,h2⟩:=Zfn (ns:=(upL y line).map fun l=>Za9 y l t-g l t) (by rw[upL];simp)
 obtain⟨l,hl,e⟩:=Xx.mp h1
 exact⟨fun l hl=>h2 _ (Xx.mpr ⟨l,hl,rfl⟩),l,hl,e.symm⟩
inductive R_left:List OT->OT->Prop
 |mk {y:Yd} {g:Nat->Nat->Int} {k t:Nat} {q:Int} (ok:y.Ok) (hk:k<y.ls.length) (ht:t<y.T) (q0:0<=q) (q1:q<10^300):R_left [.fz (eYd y),.fz (.list ((ZaA y.ls.length y.T g).map PyData.list)),.fz (.int (k:Int)),.fz (.int (t:Int)),.fz (.int q)] (.fz (.int (ZbI (Zaj y q) g k t)))
theorem ZcB:FnScope ["_law_yard_here", "_law_loads", "_law_line", "_law_turn", "_law_k", "_law_rooms", "_law_above", "_law_bounds"] ["_law_yard_here", "_law_loads", "_law_line", "_law_turn", "_law_k"] (Zaf ZeH):=by walk_at"p"
theorem Zst (T:Bl mg) (D:Df K mg "_law_left" ZeH ["_law_yard_here", "_law_loads", "_law_line", "_law_turn", "_law_k"]):Cal P w K mg base "_law_left" ["_law_yard_here", "_law_loads", "_law_line", "_law_turn", "_law_k"] 1 (spO (K:=K) R_left):=by
 refine D.ev ZcB (fun ts r h=>by cases h;rfl) (fun _ _ _ _ s H E ts r hr h=>?_)
 cases h with
 |@mk y g k t q ok hk ht q0 q1 =>
   refine⟨_,(Zae (Zar (i:=5) ZcB.nd rfl (Or.inl rfl) (ZbL Zad))
 (Zae (Zcj PassesOwn.never (Zfp (Zit (pv 2))) (Zae (ZeA (Zav Zal (Zav Zal (pv 0) Zah (fun _ _=>rfl)) (pv 2) (fun _ _=>rfl)) (ZcZ (n:=2) rfl (Za1 (Zao (i:=6) ZcB.nd rfl (Or.inl rfl)) (Za1 (Zao (i:=7) ZcB.nd rfl (Or.inl rfl)) Zcd))))
 (Zae (Zbb (Zgb PySem.F.plainAttrs_list PySem.F.slot_list_append PySem.F.type_list_append ZbA (pv 5) (Zaa (Zat Zg4 (Zat Zbn (Zav Zal (pv 7) (pv 3) (fun _ _=>rfl)) (pv 4)) (Zav Zal (Zav Zal (pv 1) (pv 2) (fun _ _=>rfl)) (pv 3) (fun _ _=>rfl))) Zad)))
 (Zai (Zar (i:=2) ZcB.nd rfl (Or.inl rfl) (pv 6))))))
 (Zai (Zax (Zaz ZnA (by rfl) T.min ZhB (Zaa (pv 5) Zad)))))),?_⟩
   show EvS K _ [some _,some _,some _,some _,some _,none,none,none] _
   walk_at"x"
   have l5:=ok.l5
   walk_at"s1";refine Zaq (Zc6 (fun m ρ'=>∃(pre:List Nat) (u v:Option OT),m<=y.ls.length/\pre.length+m<=10/\pre++(if m=0 then [] else upL y (m-1))=upL y k/\ρ'=[some (.fz (eYd y)),some (.fz (.list ((ZaA y.ls.length y.T g).map PyData.list))),some (.fz (if m=0 then .none else .int ((m-1:Nat):Int))),some (.fz (.int (t:Int))),some (.fz (.int q)),some (.ol ((pre.map fun l=>Za9 y l t*q-g l t).map PyData.int)),u,v]) (k+1) ⟨[],none,none,by omega,by simp;omega,by simp,by simp⟩ ?_)
   rintro m ρ' ⟨pre,u,v,hm,hl,he,rfl⟩
   by_cases m0:m=0
   ·subst m0
    refine⟨false,?_,fun c=>(nomatch c),fun _=>?_⟩
    ·show EvT K _ [some _,some _,some (.fz .none),some _,some _,some _,_,_] _
     exact ZiK (Zgv (a:=.none) (Zab rfl))
    ·rw[Xc rfl,X4]at he
     refine ZeR 5 rfl ?_
     walk_at"d"
     refine Zbs (Zna (ns:=pre.map fun l=>Za9 y l t*q-g l t) (Zab rfl) rfl (by rw[he,upL];simp)) ?_
     rw[he];unfold ZbI;simp only[Zfr,Zft]
   ·obtain⟨j,rfl⟩:∃j,m=j+1:=⟨m-1,by omega⟩
    rw[Xa (by omega),X6];rw[Xa (by omega),X6]at he;have hj:j<y.ls.length:=by omega
    refine⟨true,ZiK (Zgv (a:=.int (j:Int)) (Zab rfl)),fun _=>?_,fun c=>(nomatch c)⟩
    have hbl:(y.ls.getD ((j:Nat):Int).toNat default).bs.length=y.T:=by rw[Xn];exact Ze0 ok hj
    have hb:(y.ls.getD ((j:Nat):Int).toNat default).bs.getD ((t:Nat):Int).toNat 0=Za9 y j t:=by
     rw[Xn,Xn];exact(Zc3 hj).symm
    have lm:ZeE y j∈y.ls:=by simp[ZeE,hj]
    have bb:0<=Za9 y j t/\Za9 y j t<10^300:=by
     rw[Zc3 hj];have ll:=Ze0 ok hj
     have:(ZeE y j).bs.getD t 0=(ZeE y j).bs[t]'(by omega):=by simp[List.getD,show t<(ZeE y j).bs.length by omega]
     rw[this];exact ok.bb _ lm _ (XM _)
    have hup:(y.ls.getD ((j:Nat):Int).toNat default).up=Zb9 y j:=by rw[Xn];exact(Zen hj).symm
    refine Zaq (Zn1 (ZaK (ZaK (ds:=[PyData.int (y.T:Int),.tuple (y.ls.map eLn)]) (Zab rfl) Zay rfl) (Zab rfl) (ZfM (f:=eLn) (by omega) (by omega))) (Zg1 (ZaL ZaB (ZaL ZaB Zep)) rfl) ?_)
    walk_at"d"
    rw[hup];have el:atI ((ZaA y.ls.length y.T g).map PyData.list) (j:Int)=some (.list ((List.range y.T).map fun t=>PyData.int (g j t))):=by
     have e0:((ZaA y.ls.length y.T g).map PyData.list)[j]?=some (.list ((List.range y.T).map fun t=>PyData.int (g j t))):=by rw[Xi,ZcA g hj];rfl
     exact Zcu e0
    have et:atI ((List.range y.T).map fun t=>PyData.int (g j t)) (t:Int)=some (.int (g j t)):=by
     rw[Zi7 (by omega) (by omega),Xn]
    refine Zaq (Zeh (ds:=(pre.map fun l=>Za9 y l t*q-g l t).map PyData.int) (d:=.int (Za9 y j t*q-g j t)) rfl (ZdC (ZaG (x:=Za9 y j t) (EvE.cast (ZaK (ds:=(y.ls.getD ((j:Nat):Int).toNat default).bs.map PyData.int) (Zab rfl) (Zab rfl) (Zgr (by omega) (by omega))) (by rw[hb])) (Zab rfl) (ZcC bb.1 bb.2 q0 q1)) (ZdT (ZdT (Zab rfl) (Zab rfl) el) (Zab rfl) et)) (by simp;omega) ?_)
    walk_at"d"
    refine ZaT (Zab rfl) ?_
    walk_at"d"
    by_cases j0:j=0
    ·subst j0
     refine⟨0,by omega,pre++[0],some (.fz (upD (Zb9 y 0))),some (.fz (.tuple ((y.ls.getD ((0:Nat):Int).toNat default).bs.map PyData.int))),by omega,by simp;omega,?_,?_⟩
     ·rw[Xc rfl,X4,<- he,Zgj ok]
     ·rw[Xc rfl,ok.up0]
      simp[upD]
    ·obtain⟨a,ea,la⟩:=ok.ups j (by omega) hj
     refine⟨a+1,by omega,pre++[j],some (.fz (upD (Zb9 y j))),some (.fz (.tuple ((y.ls.getD ((j:Nat):Int).toNat default).bs.map PyData.int))),by omega,by simp;omega,?_,?_⟩
     ·rw[Xa (by omega),X6,<- he,Zia ok hj ea,Xav]
      rfl
     ·rw[Xa (by omega),X6,ea]
      simp[upD]
inductive RT_taken:PyData->PyData->PyData->PyData->List (List PyData)->List (List PyData)->Prop
 |mk {y:Yd} {g:Nat->Nat->Int} {k t:Nat} {v:Int} (ok:y.Ok) (hk:k<y.ls.length) (ht:t<y.T):RT_taken (eYd y) (.int (k:Int)) (.int (t:Int)) (.int v) (ZaA y.ls.length y.T g) (ZaA y.ls.length y.T (Zdg y k t v g))
theorem Zfm:FnScope ["_law_yard_here", "_law_loads", "_law_line", "_law_turn", "_law_amount_here"] ["_law_yard_here", "_law_loads", "_law_line", "_law_turn", "_law_amount_here"] (Zaf Zek):=by walk_at"p"
theorem Zpn (T:Bl mg) (D:Df K mg "_law_taken" Zek ["_law_yard_here", "_law_loads", "_law_line", "_law_turn", "_law_amount_here"]):Cal P w K mg base "_law_taken" ["_law_yard_here", "_law_loads", "_law_line", "_law_turn", "_law_amount_here"] 1 (Zu9 K RT_taken):=by
 refine D.cal Zfm (fun vs H Q E ⟨F,v0,v2,v3,v4,a,as,d0,d2,d3,d4,dss,dss',e,_⟩=>by rw[e];rfl) fun f cdv A outer s H vs Q E hr ⟨F,v0,v2,v3,v4,a,as,d0,d2,d3,d4,dss,dss',e,kt,sm,r0,r2,r3,r4,tb,hR,q⟩=>?_
 subst e;cases hR with
 |@mk y g k t v ok hk ht =>
   cases r2
   cases r3
   cases r4
   refine⟨_,(Zai (Zcj PassesOwn.never (Zfp (Zit (pv 2))) (Zae (ZeA (Zat Zch (Zav Zal (Zav Zal (pv 1) (pv 2) (fun _ _=>rfl)) (pv 3) (fun _ _=>rfl)) (pv 4)) (ZnI (Zav Zal (pv 1) (pv 2) (fun _ _=>rfl)) (pv 3) ZdJ))
 (Zai (Zar (i:=2) Zfm.nd rfl (Or.inl rfl) (Zav Zal (Zav Zal (Zav Zal (pv 0) Zah (fun _ _=>rfl)) (pv 2) (fun _ _=>rfl)) Zah (fun _ _=>rfl))))))),?_⟩
   walk_at"x"
   have lenT:∀g',(ZaA y.ls.length y.T g').length=y.ls.length:=fun g'=>ZdF ..
   refine⟨fun m σ H'=>∃(F':Hp) (g':Nat->Nat->Int),m<=y.ls.length/\σ=[some v0,some (.ref a),some (if m=0 then .non else .int ((m-1:Nat):Int)),some (.int (t:Int)),some (.int v)]/\ExtB as F H F' H'/\Tab2 F' H' a as (ZaA y.ls.length y.T g')/\(if m=0 then g' else Zdg y (m-1) t v g')=Zdg y k t v g,⟨k+1,F,g,by omega,by simp[L2.start],ExtB.refl sm,tb,by simp⟩,?_⟩
   rintro m σ H' ⟨F',g',hm,rfl,xb,tb',hg'⟩
   by_cases m0:m=0
   ·subst m0
    rw[Xc rfl]at hg';refine⟨_,rfl,_,rfl,?_⟩
    simp only[if_true];refine(Xa (by simp)).mpr ?_
    rw[hg']at tb';exact q F' H' xb tb'
   ·obtain⟨j,rfl⟩:∃j,m=j+1:=⟨m-1,by omega⟩
    rw[Xa (by omega),X6]at hg';simp only[Xa (show ¬j+1=0 by omega),X6]
    have hj:j<y.ls.length:=by omega
    refine⟨_,rfl,_,rfl,?_⟩
    refine(Xc (by simp)).mpr ?_
    refine⟨fun σ' H2=>∃m',m'<j+1/\∃(F2:Hp) (g2:Nat->Nat->Int),m'<=y.ls.length/\σ'=[some v0,some (.ref a),some (if m'=0 then .non else .int ((m'-1:Nat):Int)),some (.int (t:Int)),some (.int v)]/\ExtB as F H F2 H2/\Tab2 F2 H2 a as (ZaA y.ls.length y.T g2)/\(if m'=0 then g2 else Zdg y (m'-1) t v g2)=Zdg y k t v g,fun _ _ h=>h,?_⟩
    obtain⟨c,hc,oc⟩:=tb'.rows.get (ZcA g' hj)
    obtain⟨oc1,xs,oc2,oc3⟩:=id oc
    have ix:ixN y.ls.length (j:Int)=some j:=by
     have:=ZhH (n:=y.ls.length) (k:=(j:Int)) (by omega) (by omega)
     rwa [Xn]at this
    have ixt:ixN y.T (t:Int)=some t:=by
     have:=ZhH (n:=y.T) (k:=(t:Int)) (by omega) (by omega)
     rwa [Xn]at this
    have ea:atI (as.map V.ref) (j:Int)=some (.ref c):=by
     unfold atI;rw[Xj,tb'.rows.length,lenT,ix];show(as.map V.ref)[j]?=_
     rw[Xi,hc];rfl
    have xl:xs.length=y.T:=by rw[oc3.length];simp
    have ev:atI xs (t:Int)=some (.int (g' j t)):=by
     obtain⟨u,hu,ru⟩:=oc3.get (i:=t) (d:=.int (g' j t)) (by simp[ht])
     cases ru
     unfold atI;rw[xl,ixt];exact hu
    have cm:c∈as:=List.mem_of_getElem? hc
    have nca:a≠c:=fun z=>(XL.mp tb'.nd).1 (by rw[z];exact cm)
    refine⟨_,rfl,_,rfl,.inl ⟨a,as.map V.ref,(j:Int),.ref c,rfl,rfl,SqL.of tb'.ha,ea,?_⟩⟩
    refine⟨_,rfl,.inl ⟨c,xs,(t:Int),.int (g' j t),rfl,rfl,SqL.of oc2,ev,?_⟩⟩
    refine⟨_,rfl,⟨g' j t,v,rfl,rfl,?_⟩⟩
    refine⟨_,rfl,_,rfl,.inl ⟨a,as.map V.ref,(j:Int),.ref c,rfl,rfl,SqL.of tb'.ha,ea,?_⟩⟩
    refine⟨_,rfl,⟨c,xs,(t:Int),t,rfl,rfl,oc2,by rw[xl];exact ixt,?_⟩⟩
    have tb2:Tab2 F' (upd H' c (.lst (xs.set t (.int (g' j t+v))))) a as (ZaA y.ls.length y.T (Zgg g' j t (g' j t+v))):=by
     refine⟨tb'.nd,tb'.fa,by rw[Zak nca];exact tb'.ha,?_⟩
     rw[<- ZgS g' _ hj ht];exact tb'.rows.set (oc3.set (.int _) t) oc1 (XL.mp tb'.nd).2 hc
    have xb2:ExtB as F H F' (upd H' c (.lst (xs.set t (.int (g' j t+v))))):=xb.wr cm oc1
    generalize upd H' c (.lst (xs.set t (.int (g' j t+v))))=H2 at tb2 xb2;have Sp:Sta K (fun _=>none) F' [some (.fz (eYd y)),none,some (.fz (.int (j:Int))),none,none] [some v0,some (.ref a),some (.int (j:Int)),some (.int (t:Int)),some (.int v)] H2:=by
     refine Sta.plain (kt.mono xb2.ff) xb2.fh rfl fun i t' e=>?_
     match i,e with
     |0,e=>cases e;exact⟨_,_,rfl,rfl,r0.mono xb.ff⟩
     |2,e=>cases e;exact⟨_,_,rfl,rfl,.int _⟩
     |1,e=>cases e
     |3,e=>cases e
     |4,e=>cases e
     |n+5,e=>simp at e
    have hup:(y.ls.getD ((j:Nat):Int).toNat default).up=Zb9 y j:=by rw[Xn];exact(Zen hj).symm
    have eu:EvE K (tOp (rIx K) (tOp (rIx K) (tOp (rIx K) (Zb8 0) (tC (.int 1))) (Zb8 2)) (tC (.int 0))) [some (.fz (eYd y)),none,some (.fz (.int (j:Int))),none,none] (upD (Zb9 y j)):=by
     apply EvE.cast
     ·exact ZaK (ZaK (ZaK (ds:=[PyData.int (y.T:Int),.tuple (y.ls.map eLn)]) (Zab rfl) Zay rfl) (Zab rfl) (ZfM (f:=eLn) (by omega) (by omega))) Zay rfl
     ·rw[hup]
    refine eu _ F' _ H2 _ Sp fun F3 H3 w x3 r3=>?_
    have tb3:=tb2.ext x3
    have xb3:ExtB as F H F3 H3:=xb2.ext x3 (fun b hb=>(tb2.rows.mem b hb).2) (fun b hb _=>(tb2.rows.mem b hb).1)
    show ∃m',_
    by_cases j0:j=0
    ·subst j0
     rw[ok.up0]at r3;cases r3
     refine⟨0,by omega,F3,_,by omega,rfl,xb3,tb3,?_⟩
     rw[Xc rfl,<- hg',Zht ok]
    ·obtain⟨a',ea',la⟩:=ok.ups j (by omega) hj
     rw[ea']at r3;cases r3
     refine⟨a'+1,by omega,F3,_,by omega,?_,xb3,tb3,?_⟩
     ·rw[Xa (by omega),X6]
      rfl
     ·rw[Xa (by omega),X6,<- hg',Zhm ok hj ea']
theorem Zlf {α:Type}{l:List α}{d:α}{i:Nat}(h:i<l.length):l.getD i d=l[i]:=by simp[List.getD,h]
def gat (gs:List Gs)(k:Nat):Gs:=gs.getD k default
def stp (gs:List Gs)(n:Int):Int:=([1,(gs.length:Int)-1]:List Int).getD (n/8%2).toNat 0
def ZhG (y:Yd)(gs:List Gs)(n:Int):Nat->FSt×Nat
 |0=>(⟨fun _ _=>0,fun _ _=>0,n/16⟩,(n%max 1 (gs.length:Int)).toNat)
 |i+1=>(ZiN y (ZbI y) (gat gs) (ZhG y gs n i).2 (ZhG y gs n i).1,((((ZhG y gs n i).2:Int)+stp gs n)%(gs.length:Int)).toNat)
theorem ZhF {y:Yd}{gs:List Gs}(hg:∀g∈gs,g.Ok y):∀k,k<gs.length->(gat gs k).Ok y:=fun k hk=>by
 unfold gat;rw[Zlf hk];exact hg _ (XM hk)
theorem Zso {gs:List Gs}:∀k,k<gs.length->gs[k]?=some (gat gs k):=fun k hk=>by
 unfold gat;rw[Zlf hk];exact XH hk
theorem Zoe {y:Yd}{gs:List Gs}(n:Int)(h:0<gs.length):∀i,(ZhG y gs n i).2<gs.length
 |0=>by
   show(n%max 1 (gs.length:Int)).toNat<gs.length
   have e:max 1 (gs.length:Int)=(gs.length:Int):=by omega
   rw[e];have:=XaL n (show(0:Int)<(gs.length:Int) by omega)
   have:=Xax n (show(gs.length:Int)≠0 by omega)
   omega
 |i+1=>by
   show((((ZhG y gs n i).2:Int)+stp gs n)%(gs.length:Int)).toNat<gs.length
   generalize ((ZhG y gs n i).2:Int)+stp gs n=x;have:=XaL x (show(0:Int)<(gs.length:Int) by omega)
   have:=Xax x (show(gs.length:Int)≠0 by omega)
   omega
theorem ZuH {y:Yd}(ok:y.Ok){gs:List Gs}(hg:∀g∈gs,g.Ok y){n:Int}(hn:0<=n):FInv y (gat gs) gs.length ⟨fun _ _=>0,fun _ _=>0,n⟩:=by
 refine⟨fun k hk t ht=>?_,fun l hl t ht=>?_,fun k hk=>?_,hn⟩
 ·have:=(ZhF hg k hk).m1
  dsimp only;split<;>omega
 ·dsimp only
  refine⟨?_,ZqL ok l t⟩
  unfold Zeb;rw[Zag (g:=fun _=>0) fun k _=>by rw[Int.zero_mul],Za8]
  exact Xak _
 ·have:=(ZhF hg k hk).w1
  dsimp only;rw[Za8];omega
theorem ZkD {y:Yd}(ok:y.Ok){gs:List Gs}(hg:∀g∈gs,g.Ok y){n:Int}(hn:0<=n):∀i,i<=gs.length->FInv y (gat gs) gs.length (ZhG y gs n i).1
 |0,_=>ZuH ok hg (show 0<=n/16 by omega)
 |i+1,hi=>Zf1 ok (ZhF hg) (ZiJ y) (ZkD ok hg hn i (by omega)) (Zoe n (by omega) i) _ (Xw _)
theorem ZkN (T:Nat):(List.replicate T ([PyData.int 0]:List PyData)).flatten=(List.range T).map fun _=>PyData.int 0:=by
 rw[Zkf];apply List.ext_getElem?
 intro i;by_cases h:i<T
 ·simp[h]
 ·simp[h]
theorem Zro (f:Nat->Int)(T:Nat):((List.range T).map fun t=>PyData.int (f t))=((List.range T).map f).map PyData.int:=by rw[XQ];rfl
def ZcR (gs:List Gs)(q:Int):List Gs:=gs.map fun g=>Zbo g q
theorem Zey (gs:List Gs)(q:Int):(ZcR gs q).length=gs.length:=by simp[ZcR]
theorem Ziz {gs:List Gs}{q:Int}{i:Nat}(hi:i<gs.length):gat (ZcR gs q) i=Zbo (gat gs i) q:=by
 unfold gat ZcR;simp[List.getD,hi]
theorem Zkb (y:Yd)(q:Int)(l t:Nat)(v:Int)(g:Nat->Nat->Int):Zdg (Zaj y q) l t v g=Zdg y l t v g:=by
 unfold Zdg;rw[Zfr]
inductive R_drawn:List OT->OT->Prop
 |mk {y:Yd} {gs:List Gs} {n q:Int} (ok:y.Ok) (ok':(Zaj y q).Ok) (hg:∀g∈gs,g.Ok y) (hg':∀g∈ZcR gs q,g.Ok (Zaj y q)) (g8:gs.length<=8) (hn:0<=n) (q0:0<=q) (q1:q<10^300):R_drawn [.fz (eYd y),.fz (.list (gs.map eGs)),.fz (.int n),.fz (.int q)] (.oll (ZaA gs.length y.T (ZhG (Zaj y q) (ZcR gs q) n gs.length).1.f))
theorem Za3:FnScope ["_law_yard_here", "_law_guests_here", "_law_number_here", "_law_k", "_law_rows", "_law_loads", "_law_at", "_law_step", "_law_turned", "_law_line", "_law_first", "_law_last", "_law_want", "_law_most", "_law_turn", "_law_amount_here"] ["_law_yard_here", "_law_guests_here", "_law_number_here", "_law_k"] (Zaf Zc9):=by walk_at"p"
theorem Zpc (T:Bl mg) (D:Df K mg "_law_drawn" Zc9 ["_law_yard_here", "_law_guests_here", "_law_number_here", "_law_k"]) (Xcj:Cal P w K mg base "_law_left" ["_law_yard_here", "_law_loads", "_law_line", "_law_turn", "_law_k"] 1 (spO (K:=K) R_left)) (Xck:Cal P w K mg base "_law_taken" ["_law_yard_here", "_law_loads", "_law_line", "_law_turn", "_law_amount_here"] 1 (Zu9 K RT_taken)):Cal P w K mg base "_law_drawn" ["_law_yard_here", "_law_guests_here", "_law_number_here", "_law_k"] 2 (spO (K:=K) R_drawn):=by
 refine D.ev Za3 (fun ts r h=>by cases h;rfl) (fun _ _ _ _ s H E ts r hr h=>?_)
 cases h with
 |@mk y gs n q ok ok' hg hg' g8 hn q0 q1 =>
   refine⟨_,(Zae (Zdo (i:=4) Za3.nd rfl rfl (NX:=["_law_yard_here", "_law_guests_here", "_law_number_here", "_law_k", "_law_rows", "_law_loads", "_law_at", "_law_step", "_law_turned", "_law_line", "_law_first", "_law_last", "_law_want", "_law_most", "_law_turn", "_law_amount_here"]) (sc:=Zaf Zc9) (N:=["_law_guest", "_law_yard_here"]) (f:=[none,some 0]) rfl (by decide +kernel) rfl rfl (ZbM (pv 1)) (fun _=>(Zao (i:=0) (show(["_law_guest", "_law_yard_here"]:List Str).Nodup by decide +kernel) rfl (Or.inl rfl))) (fun _=>ZaX) (fun _=>Zb2) (fun _=>(Zat ZnE (ZbL (Zaa Zah Zad)) (Zav Zal (pv 1) Zah (fun _ _=>rfl)))) rfl)
 (Zae (Zdo (i:=5) Za3.nd rfl rfl (NX:=["_law_yard_here", "_law_guests_here", "_law_number_here", "_law_k", "_law_rows", "_law_loads", "_law_at", "_law_step", "_law_turned", "_law_line", "_law_first", "_law_last", "_law_want", "_law_most", "_law_turn", "_law_amount_here"]) (sc:=Zaf Zc9) (N:=["_law_line", "_law_yard_here"]) (f:=[none,some 0]) rfl (by decide +kernel) rfl rfl (Zl5 (Zav Zal (pv 0) Zah (fun _ _=>rfl))) (fun _=>(Zao (i:=0) (show(["_law_line", "_law_yard_here"]:List Str).Nodup by decide +kernel) rfl (Or.inl rfl))) (fun _=>ZaX) (fun _=>Zb2) (fun _=>(Zat ZnE (ZbL (Zaa Zah Zad)) (Zav Zal (pv 1) Zah (fun _ _=>rfl)))) rfl)
 (Zae (Zar (i:=6) Za3.nd rfl (Or.inl rfl) (Zat Zb5 (pv 2) (Zaz (Znq rfl) (by rfl) T.max ZmE (Zaa Zah (Zaa (Zaz Zcq (by rfl) T.len Zck (Zaa (pv 1) Zad)) Zad)))))
 (Zae (Zar (i:=7) Za3.nd rfl (Or.inl rfl) (Zav Zal (ZbL (Zaa Zah (Zaa (Zat Zg4 (Zaz Zcq (by rfl) T.len Zck (Zaa (pv 1) Zad)) Zah) Zad))) (Zat Zb5 (Zat ZaE (pv 2) Zah) Zah) (fun _ _=>rfl)))
 (Zae (Zar (i:=2) Za3.nd rfl (Or.inl rfl) (Zat ZaE (pv 2) Zah))
 (Zae (Zbp PassesOwn.never rfl (ZaQ rfl T.range (Zaa (Zaz Zcq (by rfl) T.len Zck (Zaa (pv 1) Zad)) Zad)) (Zao (i:=8) Za3.nd rfl (Or.inl rfl)) (Zae (ZeA (Zav Zal (pv 1) (pv 6) (fun _ _=>rfl)) (ZcZ (n:=5) rfl (Za1 (Zao (i:=9) Za3.nd rfl (Or.inl rfl)) (Za1 (Zao (i:=10) Za3.nd rfl (Or.inl rfl)) (Za1 (Zao (i:=11) Za3.nd rfl (Or.inl rfl)) (Za1 (Zao (i:=12) Za3.nd rfl (Or.inl rfl)) (Za1 (Zao (i:=13) Za3.nd rfl (Or.inl rfl)) Zcd)))))))
 (Zae (Zbp PassesOwn.never rfl (ZiG rfl T.range (Zaa (pv 10) (Zaa (Zat Zch (pv 11) Zah) Zad))) (Zao (i:=14) Za3.nd rfl (Or.inl rfl)) (Zae (Zar (i:=15) Za3.nd rfl (Or.inl rfl) (Zaz Zrd (by rfl) T.min ZhB (Zaa (Zat Zbn (pv 13) (pv 3)) (Zaa (Zat Zg4 (Zat Zbn (pv 12) (pv 3)) (Zaz Zhs (by rfl) T.sum Zh9 (Zaa (Zav Zal (pv 4) (pv 6) (fun _ _=>rfl)) Zad))) (Zaa (Zap Xcj hr (Zaa (pv 0) (Zaa (pv 5) (Zaa (pv 9) (Zaa (pv 14) (Zaa (pv 3) Zad))))) (hj:=by walk_at"j")) Zad)))))
 (Zae (Zar (i:=15) Za3.nd rfl (Or.inl rfl) (Zat ZaE (Zat ZfR (pv 15) (Zaz (Zoc rfl) (by rfl) T.min ZhB (Zaa (Zat Zb5 (pv 2) Zah) (Zaa Zah Zad)))) Zah))
 (Zae (Zar (i:=2) Za3.nd rfl (Or.inl rfl) (Zat ZaE (pv 2) Zah))
 (Zae (ZeA (pv 15) (ZnI (Zav Zal (pv 4) (pv 6) (fun _ _=>rfl)) (pv 14) ZdJ))
 (Zai (Zbb (Zap Xck hr (Zaa (pv 0) (Zaa (pv 5) (Zaa (pv 9) (Zaa (pv 14) (Zaa (pv 15) Zad))))) (hj:=by walk_at"j")))))))))
 (Zai (Zar (i:=6) Za3.nd rfl (Or.inl rfl) (Zat Zb5 (Zat Zch (pv 6) (pv 7)) (Zaz Zcq (by rfl) T.len Zck (Zaa (pv 1) Zad))))))))
 (Zai (Zax (pv 4))))))))),?_⟩
   show EvS K _ [some _,some _,some _,some _,none,none,none,none,none,none,none,none,none,none,none,none] _
   walk_at"x"
   have l5:=ok.l5
   have t8:=ok.t8
   have gl:(gs.map eGs).length=gs.length:=by simp
   have lg:=Zey gs q
   have ly:(Zaj y q).ls.length=y.ls.length:=by simp[Zaj]
   have es:stp (ZcR gs q) n=stp gs n:=by unfold stp;rw[lg]
   refine Zaq (ZbP (EvO.cast (Zlr (xs:=gs) (enc:=eGs) (h:=fun _=>(List.range y.T).map fun _=>PyData.int 0) ?ei (by omega) ?el) (show _=OT.oll (ZaA gs.length y.T fun _ _=>0) by unfold ZaA;rw[ZgC])) ?_)
   case ei=>exact Zcn (Zab rfl)
   case el =>
    intro x hx c;refine⟨_,by walk_at"g",?_⟩
    walk_at"e"
    exact EvO.cast (ZnY (ds:=[.int 0]) (k:=(y.T:Int)) (EvO.fz (Zdp (ZaJ Zay ZaU) (by decide))) (ZaK (ds:=[PyData.int (y.T:Int),.tuple (y.ls.map eLn)]) (Zab rfl) Zay rfl) (by omega) (by simp;omega) (by omega)) (by rw[Xn,ZkN])
   walk_at"d"
   refine Zaq (ZbP (EvO.cast (Zlr (xs:=y.ls) (enc:=eLn) (h:=fun _=>(List.range y.T).map fun _=>PyData.int 0) ?ei2 (by omega) ?el2) (show _=OT.oll (ZaA y.ls.length y.T fun _ _=>0) by unfold ZaA;rw[ZgC])) ?_)
   case ei2=>exact Zq4 (ZaK (ds:=[PyData.int (y.T:Int),.tuple (y.ls.map eLn)]) (Zab rfl) Zay rfl)
   case el2 =>
    intro x hx c;refine⟨_,by walk_at"g",?_⟩
    walk_at"e"
    exact EvO.cast (ZnY (ds:=[.int 0]) (k:=(y.T:Int)) (EvO.fz (Zdp (ZaJ Zay ZaU) (by decide))) (ZaK (ds:=[PyData.int (y.T:Int),.tuple (y.ls.map eLn)]) (Zab rfl) Zay rfl) (by omega) (by simp;omega) (by omega)) (by rw[Xn,ZkN])
   walk_at"d"
   have hlen:∀ρ:ZaZ,ρ[1]?=some (some (.fz (.list (gs.map eGs))))->EvE K (tCB (ZqR K) (ZaM (Zb8 1) Zd8)) ρ (.int (gs.length:Int)):=fun ρ h=>by
    apply EvE.cast
    ·exact Zer (ds:=gs.map eGs) (Zab h)
    ·rw[gl]
   have mp:0<max 1 (gs.length:Int):=by omega
   have en:n%max 1 (gs.length:Int)=(((n%max 1 (gs.length:Int)).toNat:Nat):Int):=(XF (Xax _ (by omega))).symm
   refine Zaq (ZaT (d:=.int (n%max 1 (gs.length:Int))) (ZaG (Zab rfl) (Zs7 Zay (hlen _ rfl)) mp) ?_)
   walk_at"d"
   rw[en];refine Zaq (ZaT (d:=.int (stp gs n)) (ZdT (ds:=([1,(gs.length:Int)-1]:List Int).map PyData.int) (EvO.fz (Zdp (ZaJ Zay (ZaJ (ZdC (hlen _ rfl) Zay) ZaU)) ZoX)) (ZaG (ZaG (Zab rfl) Zay (ZsF (by decide) (by decide))) Zay (mdl (by decide))) (Zgr (by omega) (by show n/8%2<2;omega))) ?_)
   walk_at"d"
   refine Zaq (ZaT (d:=.int (n/16)) (ZaG (Zab rfl) Zay (ZsF (by decide) (by decide))) ?_)
   walk_at"d"
   refine Zaq (ZbN (ds:=ZfX 0 gs.length) (fun i=>[some (.fz (eYd y)),some (.fz (.list (gs.map eGs))),some (.fz (.int (ZhG (Zaj y q) (ZcR gs q) n i).1.num)),some (.fz (.int q)),some (.oll (ZaA gs.length y.T (ZhG (Zaj y q) (ZcR gs q) n i).1.f)),some (.oll (ZaA y.ls.length y.T (ZhG (Zaj y q) (ZcR gs q) n i).1.g)),some (.fz (.int ((ZhG (Zaj y q) (ZcR gs q) n i).2:Int))),some (.fz (.int (stp gs n))),none,none,none,none,none,none,none,none]) ?ei3 ⟨rfl,rfl,rfl,rfl,rfl,rfl,?za,rfl,trivial⟩ ?st3 ?fin3)
   case za =>
    show some (OT.fz (.int _))=some (.fz (.int (((n%max 1 ((ZcR gs q).length:Int)).toNat:Nat):Int)))
    rw[lg]
   case ei3=>exact EvI.cast (ZbQ (Zac (hlen _ rfl) Zan) (by rw[z62];omega) (by rw[z62];omega)) (ZbW rfl (by omega))
   case fin3 =>
    intro ρ' hf;refine ZcW hf ?_
    rw[Zcl];exact ZpQ rfl rfl
   case st3 =>
    intro i d hd;obtain⟨hi,rfl⟩:=Zb6 hd
    have hi0:0<gs.length:=by omega
    have ha:=Zoe (y:=Zaj y q) (gs:=ZcR gs q) n (by omega) i
    have I:=ZkD ok' hg' hn i (by omega)
    have e2:(ZhG (Zaj y q) (ZcR gs q) n (i+1)).1=ZiN (Zaj y q) (ZbI (Zaj y q)) (gat (ZcR gs q)) (ZhG (Zaj y q) (ZcR gs q) n i).2 (ZhG (Zaj y q) (ZcR gs q) n i).1:=rfl
    have e3:(ZhG (Zaj y q) (ZcR gs q) n (i+1)).2=((((ZhG (Zaj y q) (ZcR gs q) n i).2:Int)+stp gs n)%(gs.length:Int)).toNat:=by rw[<- es,<- lg];rfl
    rw[e2,e3];clear e2 e3;generalize (ZhG (Zaj y q) (ZcR gs q) n i).1=S at I;generalize (ZhG (Zaj y q) (ZcR gs q) n i).2=a at ha;have haG:=ha
    rw[lg]at ha;have eg:=Ziz (q:=q) ha
    have ef:(gat (ZcR gs q) a).first=(gat gs a).first:=by rw[eg];rfl
    have el:(gat (ZcR gs q) a).last=(gat gs a).last:=by rw[eg];rfl
    have eln:(gat (ZcR gs q) a).line=(gat gs a).line:=by rw[eg];rfl
    have ew:(gat (ZcR gs q) a).want=(gat gs a).want*q:=by rw[eg];rfl
    have em:(gat (ZcR gs q) a).most=(gat gs a).most*q:=by rw[eg];rfl
    have gok:=ZhF hg a ha
    refine⟨_,by walk_at"g",?_⟩
    walk_at"d"
    refine Zaq (Zn1 (ZdT (d:=eGs (gat gs a)) (Zab rfl) (Zab rfl) (by rw[ZfM (f:=eGs) (by omega) (by omega),Xn];rfl)) (Zg1 (ds:=[.int ((gat gs a).line:Int),.int ((gat gs a).first:Int),.int ((gat gs a).last:Int),.int (gat gs a).want,.int (gat gs a).most]) (ZaL ZaB (ZaL ZaB (ZaL ZaB (ZaL ZaB (ZaL ZaB Zep))))) rfl) ?_)
    walk_at"d"
    have g1:=gok.fl
    have g2:=gok.lt
    have g3:=gok.ln
    refine Zaq (ZbN (ds:=ZfX ((gat gs a).first:Int) ((gat gs a).last+1-(gat gs a).first)) (fun j=>[some (.fz (eYd y)),some (.fz (.list (gs.map eGs))),some (.fz (.int (ZdQ (Zaj y q) (ZbI (Zaj y q)) (gat (ZcR gs q)) a S j).num)),some (.fz (.int q)),some (.oll (ZaA gs.length y.T (ZdQ (Zaj y q) (ZbI (Zaj y q)) (gat (ZcR gs q)) a S j).f)),some (.oll (ZaA y.ls.length y.T (ZdQ (Zaj y q) (ZbI (Zaj y q)) (gat (ZcR gs q)) a S j).g)),some (.fz (.int (a:Int))),some (.fz (.int (stp gs n))),none,some (.fz (.int ((gat gs a).line:Int))),some (.fz (.int ((gat gs a).first:Int))),some (.fz (.int ((gat gs a).last:Int))),some (.fz (.int (gat gs a).want)),some (.fz (.int (gat gs a).most)),none,none]) ?ei4 ⟨rfl,rfl,rfl,rfl,rfl,rfl,rfl,rfl,rfl,rfl,rfl,rfl,rfl,trivial⟩ ?st4 ?fin4)
    case ei4=>exact EvI.cast (ZiT (Zac (Zab rfl) (Zac (ZdC (Zab rfl) Zay) Zan)) ⟨by rw[z62];omega,by rw[z62];omega,by rw[z62];omega,by rw[z62];omega⟩) (ZbW rfl (by omega))
    case fin4 =>
     intro ρ' hf;refine ZcW hf ?_
     rw[Zcl];have m0:(0:Int)<(gs.length:Int):=by omega
     refine ZaT (d:=.int (((a:Int)+stp gs n)%(gs.length:Int))) (ZaG (ZdC (Zab rfl) (Zab rfl)) (hlen _ rfl) m0) ?_
     walk_at"d"
     refine⟨rfl,rfl,?_,rfl,?_,?_,?_,rfl,trivial⟩
     ·unfold ZiN;rw[ef,el]
     ·unfold ZiN;rw[ef,el]
     ·unfold ZiN;rw[ef,el]
     ·rw[XF (Xax _ (by omega))]
    case st4 =>
     intro j d hd;obtain⟨hj,rfl⟩:=Zb6 hd
     have I2:=Zf1 ok' (ZhF hg') (ZiJ (Zaj y q)) I haG j (by omega)
     have et:((gat gs a).first:Int)+(j:Int)=(((gat gs a).first+j:Nat):Int):=by omega
     have e5:ZdQ (Zaj y q) (ZbI (Zaj y q)) (gat (ZcR gs q)) a S (j+1)=ZmT (Zaj y q) (ZbI (Zaj y q)) (gat (ZcR gs q)) a ((gat gs a).first+j) (ZdQ (Zaj y q) (ZbI (Zaj y q)) (gat (ZcR gs q)) a S j):=by rw[<- ef];rfl
     rw[e5,et];clear e5;have ht:(gat gs a).first+j<y.T:=by omega
     generalize (gat gs a).first+j=t at ht;generalize ZdQ (Zaj y q) (ZbI (Zaj y q)) (gat (ZcR gs q)) a S j=s at I2;obtain⟨F',G',m⟩:=s
     have m0:0<=m:=I2.num
     refine⟨_,by walk_at"g",?_⟩
     walk_at"d"
     have er:atI ((ZaA gs.length y.T F').map PyData.list) (a:Int)=some (.list (((List.range y.T).map (F' a)).map PyData.int)):=by
      have e0:((ZaA gs.length y.T F').map PyData.list)[a]?=some (.list (((List.range y.T).map (F' a)).map PyData.int)):=by rw[Xi,ZcA F' ha,Zro];rfl
      exact Zcu e0
     have ix:ixN gs.length (a:Int)=some a:=by
      have:=ZhH (n:=gs.length) (k:=(a:Int)) (by omega) (by omega)
      rwa [Xn]at this
     have ixt:ixN y.T (t:Int)=some t:=by
      have:=ZhH (n:=y.T) (k:=(t:Int)) (by omega) (by omega)
      rwa [Xn]at this
     refine Zaq (ZaT (d:=.int (min ((gat gs a).most*q) (min ((gat gs a).want*q-Zas (F' a) y.T) (ZbI (Zaj y q) G' (gat gs a).line t)))) (Zie 4 rfl rfl rfl (Zie 5 rfl rfl rfl ?_)) ?_)
     ·walk_at"d"
      rw[<- ZaH];exact Zsp (ZaG (Zab rfl) (Zab rfl) (ZcC (by have:=gok.m1;omega) gok.m2 q0 q1)) (ZdC (ZaG (Zab rfl) (Zab rfl) (ZcC (by have:=gok.w1;omega) gok.w2 q0 q1)) (ZhE (ns:=(List.range y.T).map (F' a)) (ZdT (Zab rfl) (Zab rfl) er) rfl)) (Za0 (Zac (Zab rfl) (Zac (Zab rfl) (Zac (Zab rfl) (Zac (Zab rfl) (Zac (Zab rfl) Zan))))) (R_left.mk ok g3 ht q0 q1)) rfl
     walk_at"d"
     have cm:ZtM (min ((gat gs a).most*q) (min ((gat gs a).want*q-Zas (F' a) y.T) (ZbI (Zaj y q) G' (gat gs a).line t))) (min (m%11) 8):=Zth (by omega) (by omega)
     have ea:Zg3 (Zaj y q) (ZbI (Zaj y q)) (gat (ZcR gs q)) a t ⟨F',G',m⟩=min ((gat gs a).most*q) (min ((gat gs a).want*q-Zas (F' a) y.T) (ZbI (Zaj y q) G' (gat gs a).line t))*min (m%11) 8/8:=by rw[<- em,<- ew,<- eln];rfl
     refine Zaq (ZaT (d:=.int (min ((gat gs a).most*q) (min ((gat gs a).want*q-Zas (F' a) y.T) (ZbI (Zaj y q) G' (gat gs a).line t))*min (m%11) 8/8)) (ZaG (ZaG (Zab rfl) (ZrQ (ZaG (Zab rfl) Zay (mdl (by decide))) Zay) cm) Zay (ZsF (by decide) (by decide))) ?_)
     walk_at"d"
     have e6:ZmT (Zaj y q) (ZbI (Zaj y q)) (gat (ZcR gs q)) a t ⟨F',G',m⟩=⟨Zgg F' a t (Zg3 (Zaj y q) (ZbI (Zaj y q)) (gat (ZcR gs q)) a t ⟨F',G',m⟩),Zdg y (gat gs a).line t (Zg3 (Zaj y q) (ZbI (Zaj y q)) (gat (ZcR gs q)) a t ⟨F',G',m⟩) G',m/11⟩:=by
      rw[<- eln,<- Zkb y q];rfl
     rw[e6,ea];clear e6 ea;generalize min ((gat gs a).most*q) (min ((gat gs a).want*q-Zas (F' a) y.T) (ZbI (Zaj y q) G' (gat gs a).line t))*min (m%11) 8/8=v;refine Zaq (ZaT (d:=.int (m/11)) (ZaG (Zab rfl) Zay (ZsF (by decide) (by decide))) ?_)
     walk_at"d"
     refine Zaq (Zh0 (i:=4) (k':=a) (m':=t) (ds:=(List.range y.T).map fun t=>PyData.int (F' a t)) rfl (Zab rfl) (Zab rfl) (Zab rfl) (by rw[ZdF];exact ix) (ZcA F' ha) (by simpa using ixt) ?_)
     walk_at"d"
     rw[ZgS F' v ha ht];refine Zoj (i:=5) rfl (Zab rfl) (Zab rfl) (Zab rfl) (Zab rfl) (RT_taken.mk ok g3 ht) ?_
     walk_at"d"
     exact⟨rfl,rfl,rfl,rfl,rfl,rfl,rfl,rfl,rfl,rfl,rfl,rfl,rfl,trivial⟩
theorem ZmZ {y:Yd}{gs:List Gs}{S:FSt}(I:FInv y (gat gs) gs.length S):FillOk y gs 1 S.f where
 sum i hi:=by rw[Xaj];exact I.want i hi
 item i t hi ht:=by
  obtain⟨a,b⟩:=I.cell i hi t ht
  refine⟨a,?_⟩
  rw[Xaj];by_cases c:ZaY (gat gs i) (t:Int)=true
  ·rw[Xc c]at b
   have c':ZaY (gAt gs i) (t:Int)=true:=c
   rw[Xc c',Xaj];exact b
  ·rw[Xa c]at b
   have c':¬ZaY (gAt gs i) (t:Int)=true:=c
   rw[Xa c',XaM];exact b
 load l t hl ht:=by
  rw[Xaj];have:=I.load l hl t ht
  exact XaN this.1 this.2
theorem ZlU {y:Yd}{gs:List Gs}{q:Int}{f:Nat->Nat->Int}(h:FillOk (Zaj y q) (ZcR gs q) 1 f):FillOk y gs q f where
 sum i hi:=by
  have:=h.sum i (by rw[Zey];exact hi)
  have e:gAt (ZcR gs q) i=Zbo (gAt gs i) q:=Ziz hi
  rw[e,Xaj]at this;exact this
 item i t hi ht:=by
  have:=h.item i t (by rw[Zey];exact hi) ht
  have e:gAt (ZcR gs q) i=Zbo (gAt gs i) q:=Ziz hi
  rw[e,Xaj]at this;exact this
 load l t hl ht:=by
  have b:=h.load l t (by simpa [Zaj] using hl) ht
  rw[Zft,Xaj]at b;refine XaN (Int.le_of_eq ?_) b
  unfold Zeb;rw[Zey];refine Zag fun i hi=>?_
  have e:(gAt (ZcR gs q) i).line=(gAt gs i).line:=by
   show(gat (ZcR gs q) i).line=_
   rw[Ziz hi];rfl
  dsimp only;rw[ZeI (p:=l∈upL y (gAt gs i).line) (q:=l∈upL (Zaj y q) (gAt (ZcR gs q) i).line) (by rw[e,Zfr])]
theorem Zn8 {y:Yd}(ok:y.Ok){gs:List Gs}(hg:∀g∈gs,g.Ok y){S:FSt}(I:FInv y (gat gs) gs.length S){sm:List Nat}(nd:sm.Nodup)(mem:∀k∈sm,k<gs.length):(sm.map fun k=>Zas (S.f k) y.T).sum<=Za6 y gs sm:=by
 have at1:∀t,t<y.T->(sm.map fun k=>S.f k t).sum<=ZcK y gs sm t:=fun t ht=>Ztb ok (ZhF hg) Zso I nd mem ht
 unfold Za6;rw[ZaH,Zeo (m:=gs.length) _ nd mem]
 have e1:∀k,k<gs.length->(if k∈sm then Zas (S.f k) y.T else 0)=Zas (fun t=>if k∈sm then S.f k t else 0) y.T:=fun k _=>by
  by_cases z:k∈sm
  ·simp[z]
  ·simp only[z,if_false]
   rw[Za8]
 rw[Zag e1,Zeu];refine ZaW fun t ht=>?_
 rw[<- Zeo (m:=gs.length) (fun k=>S.f k t) nd mem]
 exact at1 t ht
theorem Zkm {y:Yd}{gs:List Gs}{q:Int}(q0:0<=q)(ok':(Zaj y q).Ok)(hg':∀g∈ZcR gs q,g.Ok (Zaj y q)){S:FSt}(I:FInv (Zaj y q) (gat (ZcR gs q)) (ZcR gs q).length S)(U:Nat->Bool):Zas (Zaw U fun i=>Zas (S.f i) y.T) gs.length<=q*gvS y gs U:=by
 have h:=Zn8 ok' hg' I (sm:=Zb0 gs U) (Xbe.filter _) (fun k hk=>by rw[Zey];exact Xl.mp (Xaa.mp hk).1)
 have e:Za6 (Zaj y q) (ZcR gs q) (Zb0 gs U)=q*Za6 y gs (Zb0 gs U):=Zfc gs _ q0
 have e2:((Zb0 gs U).map fun i=>Zas (S.f i) (Zaj y q).T).sum=Zas (Zaw U fun i=>Zas (S.f i) y.T) gs.length:=ZcU _ U gs.length
 rw[e,e2]at h;exact h
def shX (gs:List Gs)(q:Int)(f:Nat->Nat->Int)(T:Nat)(i:Nat):Fr:=shF (Zas (f i) T).toNat (q*waN gs i).toNat
structure ShOk (gs:List Gs)(q:Int)(f:Nat->Nat->Int)(T:Nat):Prop where
 q1:1<=q
 q2:q<10^260
 w1:∀i,i<gs.length->1<=waN gs i/\waN gs i<10^30
 s1:∀i,i<gs.length->0<=Zas (f i) T/\Zas (f i) T<=q*waN gs i
theorem ShOk.of {y:Yd}{gs:List Gs}(s:Sml y gs){q:Int}{f:Nat->Nat->Int}(q1:1<=q)(q2:q<10^260)(h:FillOk y gs q f):ShOk gs q f y.T:=⟨q1,q2,fun i hi=>ZkH s hi,fun i hi=>⟨ZgP fun t ht=>(h.item i t hi ht).1,by
 have:=h.sum i hi
 rw[Xk]at this;exact this⟩⟩
theorem ShOk.qw {gs:List Gs}{q:Int}{f:Nat->Nat->Int}{T:Nat}(h:ShOk gs q f T){i:Nat}(hi:i<gs.length):1<=q*waN gs i/\q*waN gs i<10^290:=by
 have q1:=h.q1
 have q2:=h.q2
 obtain⟨w1,w2⟩:=h.w1 i hi
 refine⟨Xbb q1 w1 (by decide) (by omega),?_⟩
 have h1:q*waN gs i<=(10^260-1)*10^30:=Xbb (by omega) (by omega) (by omega) (by decide +kernel)
 exact XV h1 (by decide +kernel)
theorem ShOk.fr {gs:List Gs}{q:Int}{f:Nat->Nat->Int}{T:Nat}(h:ShOk gs q f T){i:Nat}(hi:i<gs.length):FrG (shX gs q f T i)/\(shX gs q f T i).t<=(shX gs q f T i).b/\((shX gs q f T i).t:Int)*(q*waN gs i)=((shX gs q f T i).b:Int)*Zas (f i) T:=by
 obtain⟨m1,m2⟩:=h.qw hi
 obtain⟨s0,s1⟩:=h.s1 i hi
 have mp:0<(q*waN gs i).toNat:=by omega
 obtain⟨a,b,c,d⟩:=Zfg (n:=(Zas (f i) T).toNat) mp
 rw[XF s0,XF (show 0<=q*waN gs i by omega)]at c
 have e:shX gs q f T i=shF (Zas (f i) T).toNat (q*waN gs i).toNat:=rfl
 rw[<- e]at a b c d;have b1:=a.1
 have le:(shX gs q f T i).t<=(shX gs q f T i).b:=by
  have h3:((shX gs q f T i).b:Int)*Zas (f i) T<=((shX gs q f T i).b:Int)*(q*waN gs i):=Xu s1 (by omega)
  rw[<- c]at h3;have:=XaQ h3 (by omega)
  omega
 have bm:(shX gs q f T i).b<2^970:=by
  have h4:((shX gs q f T i).b:Int)<=q*waN gs i:=by
   have:((shX gs q f T i).b:Int)<=(((q*waN gs i).toNat:Nat):Int):=Xat.mpr d
   rw[XF (by omega)]at this;exact this
  have h5:((shX gs q f T i).b:Int)<((2^970:Nat):Int):=XV h4 (X7 m2 (by decide +kernel))
  exact Xas.mp h5
 exact⟨⟨a,Xa5 le bm,XY bm⟩,le,c⟩
theorem ZtR {y:Yd}{gs:List Gs}(s:Sml y gs){k:Int}{f:Nat->Nat->Int}{lv:List (Fr×List Nat)}(h:FairF y gs k f lv){i:Nat}(hi:i<gs.length):shX gs k f y.T i=frL lv i:=by
 have so:=ShOk.of s h.k1 h.k2 h.fill
 obtain⟨fg,_,c⟩:=so.fr hi
 obtain⟨m1,_⟩:=so.qw hi
 obtain⟨l,l1,_,l3,_⟩:=h.lev.fr_at (Q:=1) i hi (fun z=>nomatch z)
 have fo:=(h.lev.fr l l1).1.ok
 rw[<- l3]at fo;refine ZrN fg.ok fo ?_
 have tot:=h.tot i hi
 generalize shX gs k f y.T i=g at c;have e1:((g.t:Int)*((frL lv i).b:Int))*(k*waN gs i)=(((frL lv i).t:Int)*(g.b:Int))*(k*waN gs i):=by
  have:((g.t:Int)*((frL lv i).b:Int))*(k*waN gs i)=(g.t:Int)*(k*waN gs i)*((frL lv i).b:Int):=by rw[Xg,Xk ((frL lv i).b:Int),<- Xg]
  rw[this,c,Xg,tot];generalize (g.b:Int)=b;generalize ((frL lv i).t:Int)=t;generalize waN gs i=u;rw[<- Xg k,Xk (k*u) t,<- Xg,Xk b t]
 have e2:=Int.eq_of_mul_eq_mul_right (by omega) e1
 rw[<- Xai,<- Xai]at e2;exact Int.ofNat_inj.mp e2
theorem Zk1:∀as:List Int,Zdi as as=false
 |[]=>rfl
 |a::as=>by
   show(if a=a then Zdi as as else decide (a<a))=false
   rw[Xc rfl];exact Zk1 as
theorem Zok:∀{as bs:List Int},as.length=bs.length->Zdi as bs=false->Zdi bs as=false->as=bs
 |[],[],_,_,_=>rfl
 |[],_::_,h,_,_=>by cases h
 |_::_,[],h,_,_=>by cases h
 |a::as,b::bs,h,h1,h2=>by
   have h1:(if a=b then Zdi as bs else decide (b<a))=false:=h1
   have h2:(if b=a then Zdi bs as else decide (a<b))=false:=h2
   by_cases e:a=b
   ·subst e
    rw[Xc rfl]at h1 h2;rw[Zok (by simpa using h) h1 h2]
   ·rw[Xa e]at h1
    rw[Xa (Ne.symm e)]at h2;have:=X5 h1
    have:=X5 h2
    omega
theorem Zqv {y:Yd}{gs:List Gs}(s:Sml y gs){lv:List (Fr×List Nat)}(hL:Lev y gs [] 0 1 lv){sh:Nat->Fr}(ho:∀i,i<gs.length->(sh i).Ok/\(sh i).t<=(sh i).b)
 (hb:∀Q:Nat,0<Q->(∀i,i<gs.length->(sh i).b∣Q)->∀S:Nat->Bool,Zas (Zaw S fun i=>waN gs i*Zc8 Q (sh i)) gs.length<=(Q:Int)*gvS y gs S) :
 Zm0 (Zdf ((List.range gs.length).map sh)) (Zdf (ZfQ gs.length lv))=false/\Zm0 (Zdf (ZfQ gs.length lv)) (Zdf ((List.range gs.length).map sh)) = !decide ((List.range gs.length).map sh=ZfQ gs.length lv):=by
 have f1:=ZqA hL
 have p1:∀f∈(List.range gs.length).map sh++lv.map (·.1),0<f.b:=fun f hf=>by
  rcases XI.mp hf with hf|hf
  ·obtain⟨i,hi,rfl⟩:=Xx.mp hf
   exact(ho i (Xl.mp hi)).1.1
  ·obtain⟨l,hl,rfl⟩:=Xx.mp hf
   exact(hL.fr l hl).1.ok.1
 have q1:0<ZeJ 1 ((List.range gs.length).map sh++lv.map (·.1)):=Zfz (by decide) p1
 have qs:∀i,i<gs.length->(sh i).b∣ZeJ 1 ((List.range gs.length).map sh++lv.map (·.1)):=fun i hi=>ZeK (Xae _ (Xbk (Xl.mpr hi)))
 have qd:∀l∈lv,l.1.b∣ZeJ 1 ((List.range gs.length).map sh++lv.map (·.1)):=fun l hl=>ZeK (XJ _ (Xbk hl))
 generalize ZeJ 1 ((List.range gs.length).map sh++lv.map (·.1))=Q at q1 qs qd;have QI:(0:Int)<(Q:Int):=by omega
 have qI:∀l∈lv,(l.1.b:Int)∣(Q:Int):=fun l hl=>Int.ofNat_dvd.mpr (qd l hl)
 have o1:∀f∈Zdf ((List.range gs.length).map sh),f.Ok/\f.b∣Q:=fun f hf=>by
  obtain⟨i,hi,rfl⟩:=Xx.mp ((ZaI _).mem_iff.mp hf)
  exact⟨(ho i (Xl.mp hi)).1,qs i (Xl.mp hi)⟩
 have o2:∀f∈Zdf (ZfQ gs.length lv),f.Ok/\f.b∣Q:=fun f hf=>by
  obtain⟨a,_,l,hl,e⟩:=f1.2.1 f ((ZaI _).mem_iff.mp hf)
  exact⟨a.ok,e▸qd l hl⟩
 have ph:∀k,k<gs.length->phL (Q:Int) lv k=Zc8 Q (frL lv k)/\(frL lv k).Ok/\(frL lv k).b∣Q:=fun k hk=>by
  obtain⟨l,h1,h2,h3,h4⟩:=hL.fr_at (Q:=(Q:Int)) k hk (fun z=>nomatch z)
  rw[h3,h4];refine⟨?_,(hL.fr l h1).1.ok,qd l h1⟩
  unfold Zc8 phi;rw[Xai];rfl
 have x1:∀k,k<gs.length->Zc8 Q (sh k)<=(Q:Int):=fun k hk=>by
  obtain⟨ok,le⟩:=ho k hk
  have e:=Zin (qs k hk)
  have b1:=ok.1
  have h1:phi Q (sh k)*(sh k).b<=Q*(sh k).b:=by
   rw[e,XaZ Q];exact Nat.mul_le_mul_right _ le
  exact Xat.mpr (Nat.le_of_mul_le_mul_right h1 b1)
 have cA:∀t,(ZjR t ((Zdf ((List.range gs.length).map sh)).map (Zc8 Q)):Int)=Zlo gs.length (fun k=>Zc8 Q (sh k)) t:=fun t=>by
  rw[Zlb ((ZaI _).map _),XQ,<- Zky];rfl
 have cB:∀t,(ZjR t ((Zdf (ZfQ gs.length lv)).map (Zc8 Q)):Int)=Zlo gs.length (phL (Q:Int) lv) t:=fun t=>by
  have e:(ZfQ gs.length lv).map (Zc8 Q)=(List.range gs.length).map (phL (Q:Int) lv):=by
   unfold ZfQ;rw[XQ];exact XX fun k hk=>((ph k (Xl.mp hk)).1).symm
  rw[Zlb ((ZaI _).map _),e,Zky]
 have srt:∀fs:List Fr,(∀f∈Zdf fs,f.Ok/\f.b∣Q)->((Zdf fs).map (Zc8 Q)).Pairwise (· <= ·):=fun fs ho=>by
  rw[List.pairwise_map];exact(Zhq q1 fun g hg=>⟨(ho g ((ZaI fs).mem_iff.mpr hg)).2,(ho g ((ZaI fs).mem_iff.mpr hg)).1.1⟩).imp fun{a b} z=>Xat.mpr z
 have len:((Zdf ((List.range gs.length).map sh)).map (Zc8 Q)).length=((Zdf (ZfQ gs.length lv)).map (Zc8 Q)).length:=by
  rw[Xj,Xj,(ZaI _).length_eq,(ZaI _).length_eq,f1.2.2];simp
 rw[<- Zio q1 o1 o2,<- Zio q1 o2 o1];rcases hL.best0 s QI qI (x:=fun k=>Zc8 Q (sh k)) (hb Q q1 qs) x1 with e|⟨k,hk,τ,e1,e2,e3⟩
 ·have es:(List.range gs.length).map sh=ZfQ gs.length lv:=XX fun k hk=>by
   have hk:=Xl.mp hk
   obtain⟨a,b,c⟩:=ph k hk
   have:=e k hk
   rw[a]at this;exact Zo8 q1 (ho k hk).1 b (qs k hk) c (Int.ofNat_inj.mp this)
  rw[es,X9 rfl];exact⟨Zk1 _,Zk1 _⟩
 ·have lt:Zlo gs.length (phL (Q:Int) lv) (Zc8 Q (sh k))<Zlo gs.length (fun k=>Zc8 Q (sh k)) (Zc8 Q (sh k)):=ZtJ (fun j hj h=>by
   have:=e3 j hj (by omega)
   omega) hk (by omega) (Xak _)
  have le:∀t,t<τ->Zlo gs.length (phL (Q:Int) lv) t<=Zlo gs.length (fun k=>Zc8 Q (sh k)) t:=fun t ht=>ZtG fun j hj h=>by
   have:=e3 j hj (by omega)
   omega
  have no:Zdi ((Zdf ((List.range gs.length).map sh)).map (Zc8 Q)) ((Zdf (ZfQ gs.length lv)).map (Zc8 Q))=false:=by
   cases hd:Zdi ((Zdf ((List.range gs.length).map sh)).map (Zc8 Q)) ((Zdf (ZfQ gs.length lv)).map (Zc8 Q)) with
   |false=>rfl
   |true =>
     exfalso
     obtain⟨θ,c1,c2⟩:=Znh (srt _ o1) (srt _ o2) len hd
     have a1:=cA θ
     have a2:=cB θ
     by_cases c:θ < τ
     ·have:=le θ c
      omega
     ·have b1:=cA (Zc8 Q (sh k))
      have b2:=cB (Zc8 Q (sh k))
      have:=c1 (Zc8 Q (sh k)) (by omega)
      omega
  have ne:¬(List.range gs.length).map sh=ZfQ gs.length lv:=fun z=>by
   have hz:sh k=frL lv k:=by
    have:=Xaf (·[k]?) z
    simpa [ZfQ,hk] using this
   have:=(ph k hk).1
   rw[<- hz]at this;omega
  refine⟨no,?_⟩
  rw[Xy ne];cases hd:Zdi ((Zdf (ZfQ gs.length lv)).map (Zc8 Q)) ((Zdf ((List.range gs.length).map sh)).map (Zc8 Q)) with
  |true=>rfl
  |false =>
    exfalso
    have:=Zok len no hd
    have b1:=cA (Zc8 Q (sh k))
    have b2:=cB (Zc8 Q (sh k))
    rw[this]at b1;omega
theorem Zog {y:Yd}{gs:List Gs}{q:Int}{f:Nat->Nat->Int}(h:ShOk gs q f y.T)(hs:∀S:Nat->Bool,Zas (Zaw S fun i=>Zas (f i) y.T) gs.length<=q*gvS y gs S)(Q:Nat)(hQ:0<Q)(hd:∀i,i<gs.length->(shX gs q f y.T i).b∣Q)(S:Nat->Bool):Zas (Zaw S fun i=>waN gs i*Zc8 Q (shX gs q f y.T i)) gs.length<=(Q:Int)*gvS y gs S:=by
 have q1:=h.q1
 have e:q*Zas (Zaw S fun i=>waN gs i*Zc8 Q (shX gs q f y.T i)) gs.length=(Q:Int)*Zas (Zaw S fun i=>Zas (f i) y.T) gs.length:=by
  rw[<- ZeV,<- ZeV];refine Zag fun i hi=>?_
  unfold Zaw;split
  ·obtain⟨fg,_,c⟩:=h.fr hi
   have b1:=fg.ok.1
   have pm:=Zin (hd i hi)
   show q*(waN gs i*Zc8 Q (shX gs q f y.T i))=(Q:Int)*Zas (f i) y.T
   generalize shX gs q f y.T i=g at c b1 pm;have pm':Zc8 Q g*(g.b:Int)=(g.t:Int)*(Q:Int):=by
    unfold Zc8;rw[<- Xai,pm,Xai]
   refine Int.eq_of_mul_eq_mul_right (a:=(g.b:Int)) (by omega) ?_
   have l:q*(waN gs i*Zc8 Q g)*(g.b:Int)=(q*waN gs i)*(Zc8 Q g*(g.b:Int)):=by rw[<- Xg,Xg]
   have r:(Q:Int)*Zas (f i) y.T*(g.b:Int)=(Q:Int)*((g.b:Int)*Zas (f i) y.T):=by rw[Xg,Xk (Zas (f i) y.T)]
   rw[l,pm',r,<- c,Xk (q*waN gs i),<- Xg (Q:Int),Xk (Q:Int) (g.t:Int)]
  ·rfl
 have h2:(Q:Int)*Zas (Zaw S fun i=>Zas (f i) y.T) gs.length<=(Q:Int)*(q*gvS y gs S):=Xu (hs S) (by omega)
 rw[<- e,<- Xg,Xk (Q:Int) q,Xg]at h2;exact Xac h2 (by omega)
theorem ZmY (n T:Nat)(f:Nat->Nat->Int):(ZaA n T f).map PyData.list=(List.range n).map fun i=>PyData.list (((List.range T).map (f i)).map PyData.int):=by
 unfold ZaA;rw[XQ];refine XX fun i _=>?_
 show PyData.list _=_
 rw[XQ];rfl
inductive R_lsh:List OT->OT->Prop
 |mk {gs:List Gs} {q:Int} {f:Nat->Nat->Int} {T':Nat} (h:ShOk gs q f T') (g8:gs.length<=8):R_lsh [.fz (.list (gs.map eGs)),.fz (.int q),.fz (.list ((ZaA gs.length T' f).map PyData.list))] (.ol (((List.range gs.length).map (shX gs q f T')).map ZaV))
theorem ZbU:FnScope ["_law_guests_here", "_law_k", "_law_filling", "_law_shares_here", "_law_guest", "_law_row", "_law_by"] ["_law_guests_here", "_law_k", "_law_filling"] (Zaf ZdM):=by walk_at"p"
theorem ZtO (T:Bl mg) (D:Df K mg "_law_shares" ZdM ["_law_guests_here", "_law_k", "_law_filling"]) (Xcl:Cal P w K mg base "_law_divisor" ["_law_one", "_law_other"] 1 (spO (K:=K) R_ldiv)):Cal P w K mg base "_law_shares" ["_law_guests_here", "_law_k", "_law_filling"] 2 (spO (K:=K) R_lsh):=by
 refine D.ev ZbU (fun ts r h=>by cases h;rfl) (fun _ _ _ _ s H E ts r hr h=>?_)
 cases h with
 |@mk gs q f T' h g8 =>
   refine⟨_,(Zae (Zar (i:=3) ZbU.nd rfl (Or.inl rfl) (ZbL Zad))
 (Zae (Zbp PassesOwn.never rfl (Zja rfl T.zip (Zaa (pv 0) (Zaa (pv 2) Zad))) (ZcZ (n:=2) rfl (Za1 (Zao (i:=4) ZbU.nd rfl (Or.inl rfl)) (Za1 (Zao (i:=5) ZbU.nd rfl (Or.inl rfl)) Zcd))) (Zae (Zar (i:=6) ZbU.nd rfl (Or.inl rfl) (Zap Xcl hr (Zaa (Zaz Zhs (by rfl) T.sum Zh9 (Zaa (pv 5) Zad)) (Zaa (Zat Zbn (pv 1) (Zav Zal (pv 4) Zah (fun _ _=>rfl))) Zad)) (hj:=by walk_at"j")))
 (Zai (Zbb (Zgb PySem.F.plainAttrs_list PySem.F.slot_list_append PySem.F.type_list_append ZbA (pv 3) (Zaa (ZbK (Zaa (Zat ZaE (Zaz Zhs (by rfl) T.sum Zh9 (Zaa (pv 5) Zad)) (pv 6)) (Zaa (Zat ZaE (Zat Zbn (pv 1) (Zav Zal (pv 4) Zah (fun _ _=>rfl))) (pv 6)) Zad))) Zad))))))
 (Zai (Zax (pv 3))))),?_⟩
   show EvS K _ [some _,some _,some _,none,none,none,none] _
   walk_at"x"
   refine Zaq (ZbP (Zdp (ds:=[]) ZaU (by decide)) ?_)
   walk_at"d"
   refine Zaq (ZbN (ds:=(List.range gs.length).map fun i=>.tuple [eGs (gs.getD i default),.list (((List.range T').map (f i)).map PyData.int)]) (fun i=>[some (.fz (.list (gs.map eGs))),some (.fz (.int q)),some (.fz (.list ((ZaA gs.length T' f).map PyData.list))),some (.ol (((List.range i).map (shX gs q f T')).map ZaV)),none,none,none]) ?ei ⟨rfl,rfl,rfl,rfl,trivial⟩ ?stE ?finE)
   case ei =>
    refine EvI.cast (Zh1 (Zac (Zab rfl) (Zac (Zab rfl) Zan))) ?_
    rw[ZmY];exact ZnV gs eGs _
   case finE =>
    intro ρ' hf;refine ZcW hf ?_
    rw[Xj,XaR];exact ZhR rfl rfl
   case stE =>
    intro i d hd;have hi:i<gs.length:=by
     have:=(Xe.mp hd).1
     simpa using this
    obtain rfl:d=.tuple [eGs (gs.getD i default),.list (((List.range T').map (f i)).map PyData.int)]:=by
     have:((List.range gs.length).map fun i=>PyData.tuple [eGs (gs.getD i default),.list (((List.range T').map (f i)).map PyData.int)])[i]?=some (.tuple [eGs (gs.getD i default),.list (((List.range T').map (f i)).map PyData.int)]):=by rw[Xi,List.getElem?_range hi];rfl
     rw[this]at hd;exact(Option.some.inj hd).symm
    obtain⟨m1,m2⟩:=h.qw hi
    obtain⟨s0,s1⟩:=h.s1 i hi
    obtain⟨w1,w2⟩:=h.w1 i hi
    have q1:=h.q1
    have q3:q<10^300:=X7 h.q2 (by decide +kernel)
    have mp:0<(q*waN gs i).toNat:=by omega
    have eS:Zas (f i) T'=(((Zas (f i) T').toNat:Nat):Int):=(XF s0).symm
    have eM:q*waN gs i=(((q*waN gs i).toNat:Nat):Int):=(XF (by omega)).symm
    have eg:∀{ρ:ZaZ},ρ[1]?=some (some (.fz (.int q)))->ρ[4]?=some (some (.fz (eGs (gs.getD i default))))->EvE K (tOp (rI IntMulOk fun i j=>.int (i*j)) (Zb8 1) (tOp (rIx K) (Zb8 4) (tC (.int 3)))) ρ (.int (((q*waN gs i).toNat:Nat):Int)):=fun e1 e4=>EvE.cast (d:=.int (q*waN gs i)) (ZaG (Zab e1) (ZaK (ds:=[.int ((gs.getD i default).line:Int),.int ((gs.getD i default).first:Int),.int ((gs.getD i default).last:Int),.int (gs.getD i default).want,.int (gs.getD i default).most]) (Zab e4) Zay rfl) (ZcC (by omega) q3 (by show 0<=waN gs i;omega) (X7 w2 (by decide +kernel)))) (by rw[<- eM])
    refine⟨_,Zg1 (ds:=[eGs (gs.getD i default),.list (((List.range T').map (f i)).map PyData.int)]) (ZaL ZaB (ZaL ZaB Zep)) rfl,?_⟩
    walk_at"d"
    refine Zaq (ZaT (Za0 (Zac (EvE.cast (d':=.int (((Zas (f i) T').toNat:Nat):Int)) (ZhE (Zab rfl) rfl) (by rw[ZaH,<- eS])) (Zac (eg rfl rfl) Zan)) R_ldiv.mk) ?_)
    walk_at"d"
    have gp:0<Nat.gcd (Zas (f i) T').toNat (q*waN gs i).toNat:=Nat.gcd_pos_of_pos_right _ mp
    have gm:Nat.gcd (Zas (f i) T').toNat (q*waN gs i).toNat<=(q*waN gs i).toNat:=Nat.le_of_dvd mp (Xa9 _ _)
    have gI:((Nat.gcd (Zas (f i) T').toNat (q*waN gs i).toNat:Nat):Int)<2^8000:=by
     have h1:((Nat.gcd (Zas (f i) T').toNat (q*waN gs i).toNat:Nat):Int)<=q*waN gs i:=by rw[eM];exact Xat.mpr gm
     exact XV h1 (X7 m2 (by decide +kernel))
    have cd:∀{x:Int},ZfZ x ((Nat.gcd (Zas (f i) T').toNat (q*waN gs i).toNat:Nat):Int):=⟨by omega,gI⟩
    refine Zeh (d:=ZaV (shX gs q f T' i)) rfl (EvE.cast (ZdV (ZaJ (ZaG (EvE.cast (d':=.int (((Zas (f i) T').toNat:Nat):Int)) (ZhE (Zab rfl) rfl) (by rw[ZaH,<- eS])) (Zab rfl) cd) (ZaJ (ZaG (eg rfl rfl) (Zab rfl) cd) ZaU)) ZoX) ?eq) (by simp;omega) ?_
    case eq =>
     unfold ZaV shX;rw[(Zfg (n:=(Zas (f i) T').toNat) mp).2.1]
     show _=PyData.tuple [.int (frT _ _),.int (frB _ _:Int)]
     unfold frT frB;rw[Int.natAbs_natCast];rfl
    walk_at"d"
    refine⟨rfl,rfl,rfl,?_,trivial⟩
    rw[Xah,Xz,Xz];rfl
theorem ZsB {ρ:ZaZ}{D:PEnds}{wi:TI}{g:TG}{tbd:TS}{ds:List PyData}(R:Nat->ZaZ)(Q:Nat->Prop)(hi:EvI K wi ρ ds)(h0:Fgt ρ (R 0))(q0:Q 0)
 (hs:∀(i:Nat) (d:PyData),ds[i]?=some d->Q i->∃ρ2,GTo K g d (R i) ρ2/\EvS K tbd ρ2 { nx:=fun ρ'=>Fgt ρ' (R (i+1))/\Q (i+1),ct:=fun ρ'=>Fgt ρ' (R (i+1))/\Q (i+1),bk:=D.nx,rt:=D.rt }) (hd:∀ρ',Fgt ρ' (R ds.length)->Q ds.length->D.nx ρ'):EvS K (Ztp wi g tbd) ρ D:=by
 refine ZeF (fun i ρ'=>Fgt ρ' (R i)/\Q i) hi ⟨h0,q0⟩ (fun i d ρ' e f=>?_) (fun ρ' h=>hd ρ' h.1 h.2)
 obtain⟨ρ2,h1,h2⟩:=hs i d e f.2
 exact⟨ρ2,fun H0 F σ H x Q S r q=>h1 H0 F σ H x Q (S.fgt f.1) r q,h2⟩
theorem Zn2 {fs:List Fr}{i:Nat}{f:Fr}(h:fs[i]?=some f):Zdf (fs.take (i+1))=Znv f (Zdf (fs.take i)):=by
 have e:fs.take (i+1)=fs.take i++[f]:=by rw[Xau,h];rfl
 rw[e];unfold Zdf;rw[Xbp];rfl
theorem Zts {a b c d:Nat}:decide ((a:Int)*(b:Int)<(c:Int)*(d:Int))=decide (a*b<c*d):=by
 rw[<- Xai,<- Xai];exact decide_eq_decide.mpr Xas
inductive R_ordered:List OT->OT->Prop
 |mk {fs:List Fr} (h:∀f∈fs,FrG f) (hl:fs.length<=8):R_ordered [.fz (.list (fs.map ZaV))] (.ol ((Zdf fs).map ZaV))
theorem ZbE:FnScope ["_law_some", "_law_rows", "_law_one", "_law_at"] ["_law_some"] (Zaf Zd4):=by walk_at"p"
theorem Zmh (T:Bl mg) (D:Df K mg "_law_ordered" Zd4 ["_law_some"]):Cal P w K mg base "_law_ordered" ["_law_some"] 1 (spO (K:=K) R_ordered):=by
 refine D.ev ZbE (fun ts r h=>by cases h;rfl) (fun _ _ _ _ s H E ts r hr h=>?_)
 cases h with
 |@mk fs h hl =>
   refine⟨_,(Zae (Zar (i:=1) ZbE.nd rfl (Or.inl rfl) (ZbL Zad))
 (Zae (Zbp PassesOwn.never rfl (ZbM (pv 0)) (Zao (i:=2) ZbE.nd rfl (Or.inl rfl)) (Zae (Zar (i:=3) ZbE.nd rfl (Or.inl rfl) Zah)
 (Zae (Zcj PassesOwn.never (PW.pt (ZkM (Zbm Zo7 (pv 3) (Zaz Zcq (by rfl) T.len Zck (Zaa (pv 1) Zad)) (ZbT _)) (Zic (Zbm Zo7 (Zat Zbn (Zav Zal (Zav Zal (pv 1) (pv 3) (fun _ _=>rfl)) Zah (fun _ _=>rfl)) (Zav Zal (pv 2) Zah (fun _ _=>rfl))) (Zat Zbn (Zav Zal (pv 2) Zah (fun _ _=>rfl)) (Zav Zal (Zav Zal (pv 1) (pv 3) (fun _ _=>rfl)) Zah (fun _ _=>rfl))) (ZbT _))))) (Zai (Zar (i:=3) ZbE.nd rfl (Or.inl rfl) (Zat Zch (pv 3) Zah))))
 (Zai (Zbb (Zgb PySem.F.plainAttrs_list PySem.F.slot_list_insert PySem.F.type_list_insert Zns (pv 1) (Zaa (pv 3) (Zaa (pv 2) Zad))))))))
 (Zai (Zax (pv 1))))),?_⟩
   show EvS K _ [some _,none,none,none] _
   walk_at"x"
   refine Zaq (ZbP (Zdp ZaU (by decide)) ?_)
   walk_at"d"
   refine Zaq (ZbN (ds:=fs.map ZaV) (fun i=>[some (.fz (.list (fs.map ZaV))),some (.ol ((Zdf (fs.take i)).map ZaV)),none,none]) ?ei ⟨rfl,rfl,trivial⟩ ?st ?fin)
   case ei=>exact Zcn (Zab rfl)
   case fin =>
    intro ρ' hf;refine ZcW hf ?_
    rw[Xj,Xap];exact ZhR rfl rfl
   case st =>
    intro i d hd;have hi:i<fs.length:=by
     have:=(Xe.mp hd).1
     simpa using this
    obtain rfl:d=ZaV fs[i]:=by simpa [hi] using hd.symm
    have hm:=h fs[i] (XM hi)
    rw[Zn2 (XH hi)];have hr:∀g∈Zdf (fs.take i),FrG g:=fun g hg=>h g (Xbd ((ZaI _).mem_iff.mp hg))
    have rl:(Zdf (fs.take i)).length<=8:=by rw[(ZaI _).length_eq,XaX];omega
    generalize Zdf (fs.take i)=rows at hr rl;generalize fs[i]=f at hm;have pl:=Znu f rows
    refine⟨_,by walk_at"g",?_⟩
    walk_at"d"
    refine Zaq (ZaT (d:=.int 0) Zay ?_)
    walk_at"d"
    have item:∀(ρ:ZaZ) (at':Nat) (g:Fr),ρ[1]?=some (some (.ol (rows.map ZaV)))->ρ[3]?=some (some (.fz (.int (at':Int))))->rows[at']?=some g->EvE K (tOp (rIx K) (Zb8 1) (Zb8 3)) ρ (ZaV g):=fun ρ at' g e1 e3 e=>ZtS e1 (Zab e3) (by
     have h:(rows.map ZaV)[at']?=some (ZaV g):=by rw[Xi,e];rfl
     exact Zcu h)
    refine Zhr (fun ρ'=>ρ'=[some (.fz (.list (fs.map ZaV))),some (.ol (rows.map ZaV)),some (.fz (ZaV f)),some (.fz (.int (ZfP f rows:Int)))]) (Zc6 (fun m ρ'=>∃at':Nat,at'<=ZfP f rows/\m=ZfP f rows-at'/\ρ'=[some (.fz (.list (fs.map ZaV))),some (.ol (rows.map ZaV)),some (.fz (ZaV f)),some (.fz (.int (at':Int)))]) (ZfP f rows) ⟨0,X0 _,rfl,rfl⟩ ?wl) ?zl
    case wl =>
     rintro m _ ⟨at',ha,rfl,rfl⟩
     have len:EvE K (tCB (ZqR K) (ZaM (Zb8 1) Zd8)) [some (.fz (.list (fs.map ZaV))),some (.ol (rows.map ZaV)),some (.fz (ZaV f)),some (.fz (.int (at':Int)))] (.int (rows.length:Int)):=EvE.cast (ZoB rfl) (by rw[Xj])
     have test:∀g,rows[at']?=some g->EvT K (Zpi (tOp (rI0 fun i j=>.bl (decide (i<j))) (tOp (rI IntMulOk fun i j=>.int (i*j)) (tOp (rIx K) (tOp (rIx K) (Zb8 1) (Zb8 3)) (tC (.int 0))) (tOp (rIx K) (Zb8 2) (tC (.int 1)))) (tOp (rI IntMulOk fun i j=>.int (i*j)) (tOp (rIx K) (Zb8 2) (tC (.int 0))) (tOp (rIx K) (tOp (rIx K) (Zb8 1) (Zb8 3)) (tC (.int 1)))))) [some (.fz (.list (fs.map ZaV))),some (.ol (rows.map ZaV)),some (.fz (ZaV f)),some (.fz (.int (at':Int)))] (ZiQ f g):=fun g hg=>by
      have hg':=hr g (List.mem_of_getElem? hg)
      have m1:=Zhw (a:=g.t) (b:=f.b) (ltG (leG (XY hg'.t))) (ltG (leG hm.b))
      have m2:=Zhw (a:=f.t) (b:=g.b) (ltG (leG (XY hm.t))) (ltG (leG hg'.b))
      apply EvT.cast
      ·exact Zco (Zfs (ZaG (ZaK (ds:=[.int (g.t:Int),.int (g.b:Int)]) (item _ _ g rfl rfl hg) Zay rfl) (ZaK (ds:=[.int (f.t:Int),.int (f.b:Int)]) (Zab rfl) Zay rfl) m1) (ZaG (ZaK (ds:=[.int (f.t:Int),.int (f.b:Int)]) (Zab rfl) Zay rfl) (ZaK (ds:=[.int (g.t:Int),.int (g.b:Int)]) (item _ _ g rfl rfl hg) Zay rfl) m2))
      ·exact Zts
     by_cases c:at'<ZfP f rows
     ·obtain⟨g,hg,lg⟩:=Zp6 f rows at' c
      refine⟨true,?_,fun _=>?_,fun z=>(nomatch z)⟩
      ·apply EvT.cast
       ·exact Zh5 (Zco (Zfs (Zab rfl) len)) (fun _=>test g hg)
       ·rw[lg,X9 (show(at':Int)<(rows.length:Int) by omega)]
        rfl
      ·refine ZaT (d:=.int ((at'+1:Nat):Int)) (EvE.cast (ZdC (Zab rfl) Zay) (by rw[Int.natCast_add];rfl)) ?_
       walk_at"d"
       exact⟨ZfP f rows-(at'+1),by omega,at'+1,c,rfl,rfl⟩
     ·have e:at'=ZfP f rows:=by omega
      refine⟨false,?_,fun z=>(nomatch z),fun _=>by rw[e]⟩
      by_cases c2:at'<rows.length
      ·obtain⟨g,hg,lg⟩:=Zsn f rows (by omega)
       rw[<- e]at hg;apply EvT.cast
       ·exact Zh5 (Zco (Zfs (Zab rfl) len)) (fun _=>test g hg)
       ·rw[lg]
        simp
      ·exact Zh5 (b:=false) (c:=false) (EvT.cast (Zco (Zfs (Zab rfl) len)) (Xy (by omega))) (fun z=>nomatch z)
    case zl =>
     rintro _ rfl
     refine Zoy (ds:=rows.map ZaV) (d:=ZaV f) (k:=(ZfP f rows:Int)) rfl (Zab rfl) (Zab rfl) (by omega) (by rw[Xn,Xj];exact pl) (by rw[Xj];omega) ?_
     walk_at"d"
     refine⟨rfl,?_,trivial⟩
     rw[Xn];unfold Znv;rw[Xz,Xr,List.map_take,List.map_drop]
inductive R_ldueF:List OT->OT->Prop
 |mk {as bs:List Fr} (ha:∀f∈as,FrG f) (hb:∀f∈bs,FrG f) (hl:as.length=bs.length) (h8:as.length<=8):R_ldueF [.fz (.list (as.map ZaV)),.fz (.list (bs.map ZaV))] (.fz (.bool (Zm0 (Zdf as) (Zdf bs))))
theorem Zdw:FnScope ["_law_one", "_law_other", "_law_here", "_law_there"] ["_law_one", "_law_other"] (Zaf ZdK):=by walk_at"p"
theorem Zqa (T:Bl mg) (D:Df K mg "_law_fairer" ZdK ["_law_one", "_law_other"]) (XbU:Cal P w K mg base "_law_ordered" ["_law_some"] 1 (spO (K:=K) R_ordered)):Cal P w K mg base "_law_fairer" ["_law_one", "_law_other"] 2 (spO (K:=K) R_ldueF):=by
 refine D.ev Zdw (fun ts r h=>by cases h;rfl) (fun _ _ _ _ s H E ts r hr h=>?_)
 cases h with
 |@mk as bs ha hb hl h8 =>
   have hu:=hr.units
   refine⟨_,(Zae (Zbp PassesOwn.never rfl (Zja rfl T.zip (Zaa (Zap XbU hr (Zaa (pv 0) Zad) (hj:=by walk_at"j")) (Zaa (Zap XbU hr (Zaa (pv 1) Zad) (hj:=by walk_at"j")) Zad))) (ZcZ (n:=2) rfl (Za1 (Zao (i:=2) Zdw.nd rfl (Or.inl rfl)) (Za1 (Zao (i:=3) Zdw.nd rfl (Or.inl rfl)) Zcd))) (Zai (ZdZ (Zbm (Zlm hu) (pv 2) (pv 3) (ZbT _)) (Zai (Zax (ZjY Zmc (Zat Zbn (Zav Zal (pv 2) Zah (fun _ _=>rfl)) (Zav Zal (pv 3) Zah (fun _ _=>rfl))) (Zat Zbn (Zav Zal (pv 3) Zah (fun _ _=>rfl)) (Zav Zal (pv 2) Zah (fun _ _=>rfl))) (ZbT _)))) Zb3)))
 (Zai (Zax Zhg))),?_⟩
   show EvS K _ [some _,some _,none,none] _
   walk_at"x"
   have fa:∀f∈Zdf as,FrG f:=fun f hf=>ha f ((ZaI as).mem_iff.mp hf)
   have fb:∀f∈Zdf bs,FrG f:=fun f hf=>hb f ((ZaI bs).mem_iff.mp hf)
   have ea:=R_ordered.mk ha h8
   have eb:=R_ordered.mk hb (by omega)
   have ll:(Zdf as).length=(Zdf bs).length:=by rw[(ZaI as).length_eq,(ZaI bs).length_eq,hl]
   generalize Zdf as=xs at fa ea ll;generalize Zdf bs=ys at fb eb ll;refine Zaq (ZsB (ds:=Zmd (xs.map ZaV) (ys.map ZaV)) (fun i=>[some (.fz (.list (as.map ZaV))),some (.fz (.list (bs.map ZaV))),none,none]) (fun i=>Zm0 xs ys=Zm0 (xs.drop i) (ys.drop i)) ?ei ⟨rfl,rfl,trivial⟩ rfl ?st ?fin)
   case ei=>exact Zh1 (Zac (Zds (Zac (Zab rfl) Zan) ea) (Zac (Zds (Zac (Zab rfl) Zan) eb) Zan))
   case fin =>
    intro ρ' hf q;refine ZcW hf ?_
    have e:(Zmd (xs.map ZaV) (ys.map ZaV)).length=xs.length:=by rw[ZiA,Xj,Xj];omega
    rw[e,List.drop_length]at q;refine Zbs ZqY ?_
    rw[q];rfl
   case st =>
    intro i d hd q;obtain⟨a,b,e1,e2,rfl⟩:=ZhZ hd
    rw[Xi]at e1 e2;obtain⟨f,hf,rfl⟩:∃f,xs[i]?=some f/\a=ZaV f:=by
     cases z:xs[i]? with
     |none=>rw[z]at e1;cases e1
     |some f=>rw[z]at e1;cases e1;exact⟨f,rfl,rfl⟩
    obtain⟨g,hg,rfl⟩:∃g,ys[i]?=some g/\b=ZaV g:=by
     cases z:ys[i]? with
     |none=>rw[z]at e2;cases e2
     |some g=>rw[z]at e2;cases e2;exact⟨g,rfl,rfl⟩
    obtain⟨i1,f1⟩:=Xe.mp hf
    obtain⟨i2,g1⟩:=Xe.mp hg
    have bf:=fa f (List.mem_of_getElem? hf)
    have bg:=fb g (List.mem_of_getElem? hg)
    have dx:xs.drop i=f::xs.drop (i+1):=by rw[Xay i1,f1]
    have dy:ys.drop i=g::ys.drop (i+1):=by rw[Xay i2,g1]
    rw[dx,dy]at q;have q:Zm0 xs ys=if f=g then Zm0 (xs.drop (i+1)) (ys.drop (i+1)) else decide (g.t*f.b<f.t*g.b):=q
    refine⟨_,by walk_at"g",?_⟩
    walk_at"d"
    refine Zga (b := !decide (f=g)) ?t1 (fun c=>?_) (fun c=>Zb1 ⟨⟨rfl,rfl,trivial⟩,?_⟩)
    case t1=>exact EvT.cast (ZiK (Zn0 (a:=ZaV f) (b:=ZaV g) (Zab rfl) (Zab rfl) (ZqU f) (ZqU g))) (by rw[Zl4])
    ·have c:¬f=g:=by simpa using c
     rw[Xa c]at q;have m1:=Zhw (a:=f.t) (b:=g.b) (ltG (leG (XY bf.t))) (ltG (leG bg.b))
     have m2:=Zhw (a:=g.t) (b:=f.b) (ltG (leG (XY bg.t))) (ltG (leG bf.b))
     refine Zbs (Zfs (ZaG (ZaK (ds:=[.int (f.t:Int),.int (f.b:Int)]) (Zab rfl) Zay rfl) (ZaK (ds:=[.int (g.t:Int),.int (g.b:Int)]) (Zab rfl) Zay rfl) m1) (ZaG (ZaK (ds:=[.int (g.t:Int),.int (g.b:Int)]) (Zab rfl) Zay rfl) (ZaK (ds:=[.int (f.t:Int),.int (f.b:Int)]) (Zab rfl) Zay rfl) m2)) ?_
     rw[q,Zts]
    ·have c:f=g:=by simpa using c
     rw[Xc c]at q;exact q
theorem Zm5:∀as bs:List Fr,PyData.eqv (.list (as.map ZaV)) (.list (bs.map ZaV))=decide (as=bs)
 |[],[]=>rfl
 |[],_::_=>rfl
 |_::_,[]=>rfl
 |a::as,b::bs=>by
   have ih:=Zm5 as bs
   have e:PyData.eqv (.list ((a::as).map ZaV)) (.list ((b::bs).map ZaV))=(PyData.eqv (ZaV a) (ZaV b)&&PyData.eqv (.list (as.map ZaV)) (.list (bs.map ZaV))):=rfl
   rw[e,ih,Zl4,XaO];simp
theorem Zlq (as:List Fr):Zsv (.list (as.map ZaV)):=(Zrc fun d hd=>by
 obtain⟨f,_,rfl⟩:=Xx.mp hd
 exact Zve f).fine (by decide)
theorem ZtZ {y:Yd}{g:Gs}(h:g.Ok y){k:Int}(h1:1<=k)(hw:g.want*k<10^300)(hm:g.most*k<10^300):(Zbo g k).Ok (Zaj y k):=by
 have w:=Xbb h.w1 h1 (by decide) (by have:=h.w1;omega)
 have m:=Xbb h.m1 h1 (by decide) (by have:=h.m1;omega)
 exact⟨by simpa [Zaj,Zbo] using h.ln,h.fl,h.lt,by simpa [Zbo] using w,hw,by simpa [Zbo] using m,hm⟩
theorem Zim {a k:Int}(a1:a<10^30)(k0:1<=k)(k1:k<10^260):a*k<10^300:=by
 have h2:a*k<=10^30*k:=XR (by omega) (by omega)
 have h3:(10:Int)^30*k<=10^30*10^260:=Xu (by omega) (by decide +kernel)
 exact XV (XaN h2 h3) (by decide +kernel)
theorem Zed:FnScope ["_law_script", "_law_yard_here", "_law_guests_here", "_law_k", "_law_filling", "_law_due", "_law_turned", "_law_number_here", "_law_part", "_law_drawn_here", "_law_shares_here"] ["_law_script"] (Zaf Zhh):=by walk_at"p"
theorem Ztg {f:Addr} {fd:FuncData} (T:Bl mg) (F:Fun K "law" "law" Zhh f fd) (Xcm:Cal P w K mg base "_law_yard" ["_law_script"] 3 (spO (K:=K) R_yard)) (Xcn:Cal P w K mg base "_law_guests" ["_law_script", "_law_yard_here"] 3 (spO (K:=K) R_guests)) (Xbz:Cal P w K mg base "_law_number" ["_law_script", "_law_k"] 2 (spO (K:=K) R_number)) (Xco:Cal P w K mg base "fairest" ["yard", "guests"] 11 (spD K R_fairest))
 (XbV:Cal P w K mg base "_law_is_filling" ["_law_yard_here", "_law_guests_here", "_law_k", "_law_filling"] 1 (spO (K:=K) R_isfill)) (XbW:Cal P w K mg base "_law_shares" ["_law_guests_here", "_law_k", "_law_filling"] 2 (spO (K:=K) R_lsh)) (Xcp:Cal P w K mg base "_law_drawn" ["_law_yard_here", "_law_guests_here", "_law_number_here", "_law_k"] 2 (spO (K:=K) R_drawn)) (XbX:Cal P w K mg base "_law_fairer" ["_law_one", "_law_other"] 2 (spO (K:=K) R_ldueF)) (XbF:Cal P w K mg base "is_fairer" ["one", "other"] 3 (spO (K:=K) R_fairer)) :
 FnOk P w K mg base CX0 12 f fd ["_law_script"] (Zl0 K):=by
 refine F.evLaw Zed (fun cdv A outer s H E ns hr hl hb=>?_)
 have hs:ScrOk ns:=⟨hl,hb⟩
 have hu:=hr.units
 refine⟨_,(Zae (Zar (i:=1) Zed.nd rfl (Or.inl rfl) (Zap Xcm hr (Zaa (pv 0) Zad) (hj:=by walk_at"j")))
 (Zae (Zar (i:=2) Zed.nd rfl (Or.inl rfl) (Zap Xcn hr (Zaa (pv 0) (Zaa (pv 1) Zad)) (hj:=by walk_at"j")))
 (Zae (ZeA (Zap Xco hr (Zaa (pv 1) (Zaa (ZcD Zkr (by rfl) T.list Zkn (Zaa (pv 2) Zad)) Zad)) (hj:=by walk_at"j")) (ZcZ (n:=2) rfl (Za1 (Zao (i:=3) Zed.nd rfl (Or.inl rfl)) (Za1 (Zao (i:=4) Zed.nd rfl (Or.inl rfl)) Zcd))))
 (Zae (ZdZ (PW.pt (ZrT (Zbm Zuc (Zaz Zcq (by rfl) T.len Zck (Zaa (pv 4) Zad)) (Zaz Zcq (by rfl) T.len Zck (Zaa (pv 2) Zad)) (ZbT _)) (Zor (Zli (ZgD (Zap XbV hr (Zaa (pv 1) (Zaa (pv 2) (Zaa (pv 3) (Zaa (pv 4) Zad)))) (hj:=by walk_at"j"))))))) (Zai (Zax Zhg)) Zb3)
 (Zae (Zar (i:=5) Zed.nd rfl (Or.inl rfl) (Zap XbW hr (Zaa (pv 2) (Zaa (pv 3) (Zaa (pv 4) Zad))) (hj:=by walk_at"j")))
 (Zae (Zbp PassesOwn.never rfl (ZaQ rfl T.range (Zaa Zah Zad)) (Zao (i:=6) Zed.nd rfl (Or.inl rfl)) (Zae (Zar (i:=7) Zed.nd rfl (Or.inl rfl) (Zap Xbz hr (Zaa (pv 0) (Zaa (Zat Zch Zah (pv 6)) Zad)) (hj:=by walk_at"j")))
 (Zae (Zar (i:=8) Zed.nd rfl (Or.inl rfl) (Zav Zal (ZbL (Zaa (Zat Zch Zah (Zat Zb5 (pv 7) Zah)) (Zaa (pv 3) Zad))) (Zat Zb5 (Zat ZaE (pv 7) Zah) Zah) (fun _ _=>rfl)))
 (Zae (Zar (i:=9) Zed.nd rfl (Or.inl rfl) (Zap Xcp hr (Zaa (pv 1) (Zaa (pv 2) (Zaa (Zat ZaE (pv 7) Zah) (Zaa (pv 8) Zad)))) (hj:=by walk_at"j")))
 (Zae (Zar (i:=10) Zed.nd rfl (Or.inl rfl) (Zap XbW hr (Zaa (pv 2) (Zaa (pv 8) (Zaa (pv 9) Zad))) (hj:=by walk_at"j")))
 (Zae (ZdZ (PW.pt (ZrT (Zli (ZgD (Zap XbV hr (Zaa (pv 1) (Zaa (pv 2) (Zaa (pv 8) (Zaa (pv 9) Zad)))) (hj:=by walk_at"j")))) (Zor (ZgD (Zap XbX hr (Zaa (pv 10) (Zaa (pv 5) Zad)) (hj:=by walk_at"j")))))) (Zai (Zax Zhg)) Zb3)
 (Zae (ZdZ (PW.pt (ZkM (Zli (ZgD (Zap XbX hr (Zaa (pv 5) (Zaa (pv 10) Zad)) (hj:=by walk_at"j")))) (Zic (Zbm (Zlm hu) (pv 10) (pv 5) (ZbT _))))) (Zai (Zax Zhg)) Zb3)
 (Zai (ZdZ (PW.pt (ZrT (Zfp (Zrf (Zap XbF hr (Zaa (ZcD Zkr (by rfl) T.list Zkn (Zaa (pv 10) Zad)) (Zaa (ZcD Zkr (by rfl) T.list Zkn (Zaa (pv 5) Zad)) Zad)) (hj:=by walk_at"j")))) (Zor (Zbm (Zlm hu) (Zap XbF hr (Zaa (pv 5) (Zaa (pv 10) Zad)) (hj:=by walk_at"j")) (ZjY (Zlm hu) (pv 10) (pv 5) (ZbT _)) (ZbT _))))) (Zai (Zax Zhg)) Zb3)))))))))
 (Zai (Zax Zhg)))))))),?_⟩
 show EvS K _ [some _,none,none,none,none,none,none,none,none,none,none] _
 walk_at"x"
 have ok:=ZoG ns
 have y30:=Zm3 ns
 generalize hy:ZdX ns=y at ok y30;have hg:=ZkA ok ns
 have g8:=Zj6 ns y
 have g30:=Zka ok ns
 generalize hgs:Zdj ns y=gs at hg g8 g30;have gl:(gs.map eGs).length=gs.length:=by simp
 have t8:=ok.t8
 have sm:Sml y gs:=⟨ok,hg,g8,fun l hl b hb=>y30 l hl b hb,g30⟩
 have gb:∀g∈gs,GBd y g:=fun g h=>ZsS (hg g h)
 walk_at"s1";rw[hy]
 walk_at"s1";rw[hgs]
 refine ZeR 2 rfl ?_
 walk_at"d"
 refine Zaq (ZrK (ZcJ (Zac (Zab rfl) (Zac (EvO.fz (ZhN (Zab rfl))) Zan)) (R_fairest.mk sm)) (fun r hr'=>?_))
 obtain⟨v,k,fl,lv,rfl,ff⟩:=hr'
 refine⟨v,_,_,rfl,_,Zg1 (ds:=[.int k,.list ((ZaA gs.length y.T fl).map PyData.list)]) (ZaL ZaB (ZaL ZaB Zep)) rfl,?_⟩
 walk_at"d"
 have tl:∀f,((ZaA gs.length y.T f).map PyData.list).length=gs.length:=fun f=>by rw[Xj,ZdF]
 have k1:=ff.k1
 have k2:=ff.k2
 have p300:∀{a:Int},a<10^260->a<10^300:=fun h=>X7 h (by decide +kernel)
 refine Zaq (Zga (b:=false) (ZrE (b:=false) (c:=false) (EvT.cast (Zco (ZsJ (x:=(gs.length:Int)) (y:=(gs.length:Int)) (EvE.cast (Zer (Zab rfl)) (by rw[tl])) (EvE.cast (Zer (Zab rfl)) (by rw[gl])))) (by simp)) (fun _=>ZkK (b:=true) (ZiK (Za0 (Zac (Zab rfl) (Zac (Zab rfl) (Zac (Zab rfl) (Zac (Zab rfl) Zan)))) (R_isfill.mk ok gb g8 (by omega) (p300 k2) ff.fill))))) (fun c=>nomatch c) (fun _=>Zb1 ?_))
 have so:=ShOk.of sm k1 k2 ff.fill
 refine Zaq (ZbP (EvO.cast (ZfF (Zac (Zab rfl) (Zac (Zab rfl) (Zac (Zab rfl) Zan))) (R_lsh.mk so g8)) (show _=OT.ol ((ZfQ gs.length lv).map ZaV) from by
  unfold ZfQ;rw[XX (fun i hi=>ZtR sm ff (Xl.mp hi))])) ?_)
 walk_at"d"
 refine ZeR 5 rfl ?_
 walk_at"d"
 have f1:=ZqA ff.lev
 have dG:∀f∈ZfQ gs.length lv,FrG f:=fun f hf=>(f1.2.1 f hf).1.g
 have dl:=f1.2.2
 refine Zaq (ZbN (ds:=ZfX 0 6) (fun i=>[some (.scr ns),some (.fz (eYd y)),some (.fz (.list (gs.map eGs))),some (.fz (.int k)),some (.fz (.list ((ZaA gs.length y.T fl).map PyData.list))),some (.fz (.list ((ZfQ gs.length lv).map ZaV))),none,none,none,none,none]) ?ei ⟨rfl,rfl,rfl,rfl,rfl,rfl,trivial⟩ ?stE ?finE)
 case ei=>walk_at"eir"
 case finE =>
  intro ρ' hf;exact ZcW hf (Zbs ZqY rfl)
 case stE =>
  intro i d hd;obtain⟨hi,rfl⟩:=Zb6 hd
  rw[Xao];refine⟨_,ZaB,?_⟩
  walk_at"d"
  walk_at"s1";have hn:=Zet ns (14+(i:Int))
  generalize Zcf ns (14+(i:Int))=N at hn;have hq:∃q:Int,q=([1+N%12,k]:List Int).getD (N/12%2).toNat 0/\1<=q/\q<10^260:=by
   refine⟨_,rfl,?_⟩
   have:(N/12%2).toNat=0\/(N/12%2).toNat=1:=by omega
   rcases this with e|e<;>rw[e]
   ·show 1<=1+N%12/\1+N%12<10^260
    refine⟨by omega,XV (show 1+N%12<=12 by omega) (by decide +kernel)⟩
   ·exact⟨k1,k2⟩
  obtain⟨q,eq,q1,q2⟩:=hq
  refine Zaq (ZaT (d:=.int q) (EvE.cast (ZdT (ds:=([1+N%12,k]:List Int).map PyData.int) (EvO.fz (Zdp (ZaJ (ZdC Zay (ZaG (Zab rfl) Zay (mdl (by decide)))) (ZaJ (Zab rfl) ZaU)) ZoX)) (ZaG (ZaG (Zab rfl) Zay (ZsF (by decide) (by decide))) Zay (mdl (by decide))) (Zgr (by omega) (by show N/12%2<2;omega))) (by rw[eq])) ?_)
  walk_at"d"
  have ok':(Zaj y q).Ok:=Zf8 ok (by omega) fun l hl b hb=>Zim (y30 l hl b hb) q1 q2
  have hg':∀g∈ZcR gs q,g.Ok (Zaj y q):=fun g hm=>by
   obtain⟨g0,h0,rfl⟩:=Xx.mp hm
   exact ZtZ (hg g0 h0) q1 (Zim (g30 g0 h0).1 q1 q2) (Zim (g30 g0 h0).2 q1 q2)
  refine Zaq (ZbP (ZfF (Zac (Zab rfl) (Zac (Zab rfl) (Zac (ZaG (Zab rfl) Zay (ZsF (by decide) (by decide))) (Zac (Zab rfl) Zan)))) (R_drawn.mk ok ok' hg hg' g8 (show 0<=N/24 by omega) (by omega) (p300 q2))) ?_)
  walk_at"d"
  have I:=ZkD ok' hg' (show 0<=N/24 by omega) gs.length (by rw[Zey];exact Xw _)
  generalize (ZhG (Zaj y q) (ZcR gs q) (N/24) gs.length).1=S at I;have fo:FillOk y gs q S.f:=ZlU (ZmZ I)
  have so2:=ShOk.of sm q1 q2 fo
  obtain⟨c1,c2⟩:=Zqv sm ff.lev (sh:=shX gs q S.f y.T) (fun i hi=>⟨(so2.fr hi).1.ok,(so2.fr hi).2.1⟩) (Zog so2 (Zkm (by omega) ok' hg' I))
  have sG:∀f∈(List.range gs.length).map (shX gs q S.f y.T),FrG f:=fun f hf=>by
   obtain⟨i,hi,rfl⟩:=Xx.mp hf
   exact(so2.fr (Xl.mp hi)).1
  have sl:((List.range gs.length).map (shX gs q S.f y.T)).length=(ZfQ gs.length lv).length:=by rw[dl];simp
  have s8:((List.range gs.length).map (shX gs q S.f y.T)).length<=8:=by simpa using g8
  have d8:(ZfQ gs.length lv).length<=8:=by rw[dl];exact g8
  refine ZqQ 9 rfl rfl ?_
  walk_at"d"
  refine Zaq (ZbP (ZfF (Zac (Zab rfl) (Zac (Zab rfl) (Zac (Zab rfl) Zan))) (R_lsh.mk so2 g8)) ?_)
  walk_at"d"
  refine ZeR 10 rfl ?_
  walk_at"d"
  generalize (List.range gs.length).map (shX gs q S.f y.T)=sh at c1 c2 sG sl s8;generalize ZfQ gs.length lv=du at c1 c2 sl dG d8;refine Zaq (Zga (b:=false) (ZrE (b:=false) (c:=false) (ZkK (b:=true) (ZiK (Za0 (Zac (Zab rfl) (Zac (Zab rfl) (Zac (Zab rfl) (Zac (Zab rfl) Zan)))) (R_isfill.mk ok gb g8 (by omega) (p300 q2) fo)))) (fun _=>EvT.cast (ZiK (Za0 (Zac (Zab rfl) (Zac (Zab rfl) Zan)) (R_ldueF.mk sG dG sl s8))) c1)) (fun c=>nomatch c) (fun _=>Zb1 ?_))
  have ne:∀{ρ:ZaZ},ρ[5]?=some (some (.fz (.list (du.map ZaV))))->ρ[10]?=some (some (.fz (.list (sh.map ZaV))))->EvE K (tOp Zur (Zb8 10) (Zb8 5)) ρ (.bool (!decide (sh=du))):=fun e5 e10=>EvE.cast (Zn0 (Zab e10) (Zab e5) (Zlq _) (Zlq _)) (by rw[Zm5])
  refine Zaq (Zga (b:=false) (EvT.cast (Zh5 (ZkK (ZiK (Za0 (Zac (Zab rfl) (Zac (Zab rfl) Zan)) (R_ldueF.mk dG sG sl.symm d8)))) (fun _=>Zco (ne rfl rfl))) ?t2) (fun c=>nomatch c) (fun _=>Zb1 ?_))
  case t2 =>
   rw[c2];cases decide (sh=du)<;>rfl
  refine Zga (b:=false) (ZrE (b:=false) (c:=false) (EvT.cast (ZiK (Zsl (Za0 (Zac (EvO.fz (ZhN (Zab rfl))) (Zac (EvO.fz (ZhN (Zab rfl))) Zan)) (R_fairer.mk sG dG sl s8)))) ?t3) (fun _=>EvT.cast (Zco (Zn0 (Za0 (Zac (Zab rfl) (Zac (Zab rfl) Zan)) (R_fairer.mk dG sG sl.symm d8)) (ne rfl rfl) ((Zm6 _ 0).fine (by decide)) ((Zm6 _ 0).fine (by decide)))) ?t4)) (fun c=>nomatch c) (fun _=>Zb1 ⟨rfl,rfl,rfl,rfl,rfl,rfl,trivial⟩)
  case t3 =>
   rw[c1];rfl
  case t4 =>
   rw[c2];cases decide (sh=du)<;>rfl
end
inductive DH (K:W.Frag)(x:Str)(st:Stmt):Prop
 |mk {f:Addr} {oc kV dc pm cd ct:Value} {od an:Option Addr} {sl:Array (Option Value)} (a:W.nsIn K mainGlobals x=some (some (.ref f))) (l:K.lookup f=some ⟨oc,od,.func (W.fnOf x x (ZbO st) (ZaS st) (Zaf st) .none kV dc pm an cd ct),sl⟩) (c:W.codeIn K cd x=true) (k:W.keepIn K (.ref f)=true):DH K x st
theorem DH.df {K:W.Frag}{h:Heap}{mg:Str->Option Value}{x:Str}{st:Stmt}{ps:List Str}(X:K.In h)(G:h.Ns mainGlobals mg)(H:DH K x st)(hb:∀(z:Value×Value×Value×Option Addr×Value×Value) (us:List Value),us.length=ps.length->bindArgs (W.fnOf x x (ZbO st) (ZaS st) (Zaf st) .none z.1 z.2.1 z.2.2.1 z.2.2.2.1 z.2.2.2.2.1 z.2.2.2.2.2) ⟨us,[]⟩=pure (ps.zip us)):Df K mg x st ps:=by
 cases H with
 |mk a l c k=>exact⟨_,_,Zel l c k,W.mg_of X G a,(Zel l c k).binds fun kV dc pm an cd ct us hl=>hb (kV,dc,pm,an,cd,ct) us hl⟩
@[elab_as_elim] theorem ln1 {α:Type}{p:List α->Prop}{us:List α}(h:us.length=1)(k:∀a0,p [a0]):p us:=by
 match us,h with
 |[a0],_=>exact k a0
@[elab_as_elim] theorem ln2 {α:Type}{p:List α->Prop}{us:List α}(h:us.length=2)(k:∀a0 a1,p [a0,a1]):p us:=by
 match us,h with
 |[a0,a1],_=>exact k a0 a1
@[elab_as_elim] theorem ln3 {α:Type}{p:List α->Prop}{us:List α}(h:us.length=3)(k:∀a0 a1 a2,p [a0,a1,a2]):p us:=by
 match us,h with
 |[a0,a1,a2],_=>exact k a0 a1 a2
@[elab_as_elim] theorem ln4 {α:Type}{p:List α->Prop}{us:List α}(h:us.length=4)(k:∀a0 a1 a2 a3,p [a0,a1,a2,a3]):p us:=by
 match us,h with
 |[a0,a1,a2,a3],_=>exact k a0 a1 a2 a3
@[elab_as_elim] theorem ln5 {α:Type}{p:List α->Prop}{us:List α}(h:us.length=5)(k:∀a0 a1 a2 a3 a4,p [a0,a1,a2,a3,a4]):p us:=by
 match us,h with
 |[a0,a1,a2,a3,a4],_=>exact k a0 a1 a2 a3 a4
theorem ZsX {P:Program} {w:World} {K:W.Frag} {h:Heap} {mg:Str->Option Value} {fa C gS gE:Addr} (X:K.In h) (G:h.Ns mainGlobals mg) (hfa:mg "law"=some (.ref fa))
 {f51 f52 f53 f54 f55 f56 f57 f58 f59:Addr} {od51 an51 od52 an52 od53 an53 od54 an54 od55 an55 od56 an56 od57 an57 od58 an58 od59 an59 dS dE:Option Addr} {sl51 sl52 sl53 sl54 sl55 sl56 sl57 sl58 sl59 slS slE:Array (Option Value)} {oc51 kV51 dc51 pm51 cd51 ct51 oc52 kV52 dc52 pm52 cd52 ct52 oc53 kV53 dc53 pm53 cd53 ct53 oc54 kV54 dc54 pm54 cd54 ct54 oc55 kV55 dc55 pm55 cd55 ct55 oc56 kV56 dc56 pm56 cd56 ct56 oc57 kV57 dc57 pm57 cd57 ct57 oc58 kV58 dc58 pm58 cd58 ct58 oc59 kV59 dc59 pm59 cd59 ct59:Value} {tS tE nS nE:Nat}
 (aC:W.nsIn K mainGlobals "Net"=some (some (.ref C)))
 (h0:DH K "turns_of" Zfu)
 (h1:DH K "line_count" Zex)
 (h2:DH K "above_of" Zf9)
 (h3:DH K "bound_at" ZfI)
 (h4:DH K "line_of" ZgO)
 (h5:DH K "is_there" ZfK)
 (h6:DH K "want_of" ZgT)
 (h7:DH K "most_of" ZgB)
 (h8:DH K "with_want" ZeS)
 (h9:DH K "line_times" Zdr)
 (h10:DH K "yard_times" Zdl)
 (h11:DH K "guest_times" ZdI)
 (h12:DH K "guests_times" Zc4)
 (h13:DH K "guest_node" Zeg)
 (h14:DH K "line_node" ZeT)
 (h15:DH K "lay_guest" ZeL)
 (h16:DH K "lay_turn" ZfH)
 (h17:DH K "filled_net" Zee)
 (h18:DH K "takes_by" Ze1)
 (h19:DH K "greatest_filling" Zb4)
 (h20:DH K "guests_reached" Zcb)
 (h21:DH K "reaching_at" ZcM)
 (h22:DH K "given_at" Zfy)
 (h23:DH K "given_most" Zdq)
 (h24:DH K "best_filling" Zd2)
 (h25:DH K "lacking_set" ZdL)
 (h26:DH K "greatest_divisor" Zcm)
 (h27:DH K "fraction" Zf5)
 (h28:DH K "common_bottom" Zde)
 (h29:DH K "tops_over" ZdR)
 (h30:DH K "is_fairer" ZeU)
 (h31:DH K "asking" Zfh)
 (h32:DH K "share_left" Zdm)
 (h33:DH K "most_short" ZcF)
 (h34:DH K "next_level" Zdt)
 (h35:DH K "fair_levels" ZdN)
 (h36:DH K "fair_shares" ZcO)
 (h37:DH K "fairest" Zfk)
 (h38:DH K "_law_cell_at" Zdu)
 (h39:DH K "_law_number" ZdS)
 (h40:DH K "_law_amount" ZdP)
 (h41:DH K "_law_yard" ZeM)
 (h42:DH K "_law_guests" ZdG)
 (h43:DH K "_law_is_filling" ZbG)
 (h44:DH K "_law_divisor" Zd5)
 (h45:DH K "_law_shares" ZdM)
 (h46:DH K "_law_ordered" Zd4)
 (h47:DH K "_law_fairer" ZdK)
 (h48:DH K "_law_taken" Zek)
 (h49:DH K "_law_left" ZeH)
 (h50:DH K "_law_drawn" Zc9)
 (a51:W.nsIn K mainGlobals "law"=some (some (.ref f51)))
 (l51:K.lookup f51=some ⟨oc51,od51,.func (W.fnOf "law" "law" (ZbO Zhh) (ZaS Zhh) (Zaf Zhh) .none kV51 dc51 pm51 an51 cd51 ct51),sl51⟩)
 (c51:W.codeIn K cd51 "law"=true)
 (k51:W.keepIn K (.ref f51)=true)
 (a52:W.findIn K (.ref C) "lay"=some (some (.ref f52)))
 (i52:W.isFn K (.ref f52)=true)
 (l52:K.lookup f52=some ⟨oc52,od52,.func (W.fnOf "lay" "Net.lay" (ZbO Zda) (ZaS Zda) (Zaf Zda) .none kV52 dc52 pm52 an52 cd52 ct52),sl52⟩)
 (c52:W.codeIn K cd52 "Net.lay"=true)
 (k52:W.keepIn K (.ref f52)=true)
 (a53:W.findIn K (.ref C) "lay_one"=some (some (.ref f53)))
 (i53:W.isFn K (.ref f53)=true)
 (l53:K.lookup f53=some ⟨oc53,od53,.func (W.fnOf "lay_one" "Net.lay_one" (ZbO Zbw) (ZaS Zbw) (Zaf Zbw) .none kV53 dc53 pm53 an53 cd53 ct53),sl53⟩)
 (c53:W.codeIn K cd53 "Net.lay_one"=true)
 (k53:W.keepIn K (.ref f53)=true)
 (a54:W.findIn K (.ref C) "flow"=some (some (.ref f54)))
 (i54:W.isFn K (.ref f54)=true)
 (l54:K.lookup f54=some ⟨oc54,od54,.func (W.fnOf "flow" "Net.flow" (ZbO Zc0) (ZaS Zc0) (Zaf Zc0) .none kV54 dc54 pm54 an54 cd54 ct54),sl54⟩)
 (c54:W.codeIn K cd54 "Net.flow"=true)
 (k54:W.keepIn K (.ref f54)=true)
 (a55:W.findIn K (.ref C) "reached"=some (some (.ref f55)))
 (i55:W.isFn K (.ref f55)=true)
 (l55:K.lookup f55=some ⟨oc55,od55,.func (W.fnOf "reached" "Net.reached" (ZbO Zbv) (ZaS Zbv) (Zaf Zbv) .none kV55 dc55 pm55 an55 cd55 ct55),sl55⟩)
 (c55:W.codeIn K cd55 "Net.reached"=true)
 (k55:W.keepIn K (.ref f55)=true)
 (a56:W.findIn K (.ref C) "push"=some (some (.ref f56)))
 (i56:W.isFn K (.ref f56)=true)
 (l56:K.lookup f56=some ⟨oc56,od56,.func (W.fnOf "push" "Net.push" (ZbO Zcg) (ZaS Zcg) (Zaf Zcg) .none kV56 dc56 pm56 an56 cd56 ct56),sl56⟩)
 (c56:W.codeIn K cd56 "Net.push"=true)
 (k56:W.keepIn K (.ref f56)=true)
 (a57:W.findIn K (.ref C) "fill"=some (some (.ref f57)))
 (i57:W.isFn K (.ref f57)=true)
 (l57:K.lookup f57=some ⟨oc57,od57,.func (W.fnOf "fill" "Net.fill" (ZbO Zcz) (ZaS Zcz) (Zaf Zcz) .none kV57 dc57 pm57 an57 cd57 ct57),sl57⟩)
 (c57:W.codeIn K cd57 "Net.fill"=true)
 (k57:W.keepIn K (.ref f57)=true)
 (a58:W.findIn K (.ref C) "way_to"=some (some (.ref f58)))
 (i58:W.isFn K (.ref f58)=true)
 (l58:K.lookup f58=some ⟨oc58,od58,.func (W.fnOf "way_to" "Net.way_to" (ZbO ZbB) (ZaS ZbB) (Zaf ZbB) .none kV58 dc58 pm58 an58 cd58 ct58),sl58⟩)
 (c58:W.codeIn K cd58 "Net.way_to"=true)
 (k58:W.keepIn K (.ref f58)=true)
 (a59:W.findIn K (.ref C) "__init__"=some (some (.ref f59)))
 (i59:W.isFn K (.ref f59)=true)
 (l59:K.lookup f59=some ⟨oc59,od59,.func (W.fnOf "__init__" "Net.__init__" (ZbO Zbz) (ZaS Zbz) (Zaf Zbz) .none kV59 dc59 pm59 an59 cd59 ct59),sl59⟩)
 (c59:W.codeIn K cd59 "Net.__init__"=true)
 (k59:W.keepIn K (.ref f59)=true)
 (pg:W.plainGet K C Str.empty=true)
 (hd:W.hasDictIn K C=true)
 (po:W.plainOver K C=true)
 (sa:W.findIn K (.ref C) "__setattr__"=some (some (.builtin "object.__setattr__")))
 (mk:W.makesIn K C=true)
 (kc:W.keepIn K (.ref C)=true)
 (n0:W.findIn K (.ref C) "ends"=some none)
 (n1:W.findIn K (.ref C) "rooms"=some none)
 (n2:W.findIn K (.ref C) "leaving"=some none)
 (n3:W.findIn K (.ref C) "laid"=some none)
 (aS:W.nsIn K mainGlobals "START"=some (some (.ref gS)))
 (lS:K.lookup gS=some ⟨.type "tuple",dS,.seq #[.str "start" tS] nS,slS⟩)
 (aE:W.nsIn K mainGlobals "END"=some (some (.ref gE)))
 (lE:K.lookup gE=some ⟨.type "tuple",dE,.seq #[.str "end" tE] nE,slE⟩)
 (z0:W.nsIn K mainGlobals "abs"=some none)
 (z1:W.nsIn K mainGlobals "len"=some none)
 (z2:W.nsIn K mainGlobals "max"=some none)
 (z3:W.nsIn K mainGlobals "min"=some none)
 (z4:W.nsIn K mainGlobals "sum"=some none)
 (z5:W.nsIn K mainGlobals "any"=some none)
 (z6:W.nsIn K mainGlobals "all"=some none)
 (z7:W.nsIn K mainGlobals "isinstance"=some none)
 (z8:W.nsIn K mainGlobals "int"=some none)
 (z9:W.nsIn K mainGlobals "bool"=some none)
 (z10:W.nsIn K mainGlobals "list"=some none)
 (z11:W.nsIn K mainGlobals "tuple"=some none)
 (z12:W.nsIn K mainGlobals "range"=some none)
 (z13:W.nsIn K mainGlobals "zip"=some none)
 (z14:W.nsIn K mainGlobals "enumerate"=some none)
 (z15:W.nsIn K mainGlobals "sorted"=some none)
 : (∃gS gE,W.nsIn K mainGlobals "START"=some (some (.ref gS))/\W.nsIn K mainGlobals "END"=some (some (.ref gE))/\KTup K gS "start" /\ KTup K gE "end")/\∃fd:FuncData,(∀(s:Shared) (v:Value),BindsTo s fd ⟨[v],[]⟩ [("_law_script",v)])/\∀base:Heap,K.In base->base.Ns mainGlobals mg->FnOk P w K mg base CX0 12 fa fd ["_law_script"] (Zl0 K):=by
 have e:=hfa.symm.trans (W.mg_of X G a51)
 cases e
 have T:Bl mg:=⟨W.mg_none_of X G z0,W.mg_none_of X G z1,W.mg_none_of X G z2,W.mg_none_of X G z3,W.mg_none_of X G z4,W.mg_none_of X G z5,W.mg_none_of X G z6,W.mg_none_of X G z7,W.mg_none_of X G z8,W.mg_none_of X G z9,W.mg_none_of X G z10,W.mg_none_of X G z11,W.mg_none_of X G z12,W.mg_none_of X G z13,W.mg_none_of X G z14,W.mg_none_of X G z15⟩
 have U:Tx K mg C gS gE:=⟨⟨⟨pg,hd,po,sa⟩,n0,n1,n2,n3⟩,W.mg_of X G aS,W.mg_of X G aE,aS,aE⟩
 have Xcz:=h0.df (ps:=["yard"]) X G fun _ us hl=>ln1 hl fun _=>rfl
 have XcA:=h1.df (ps:=["yard"]) X G fun _ us hl=>ln1 hl fun _=>rfl
 have XcB:=h2.df (ps:=["yard", "line"]) X G fun _ us hl=>ln2 hl fun _ _=>rfl
 have XcC:=h3.df (ps:=["yard", "line", "turn"]) X G fun _ us hl=>ln3 hl fun _ _ _=>rfl
 have XcD:=h4.df (ps:=["guest"]) X G fun _ us hl=>ln1 hl fun _=>rfl
 have XcE:=h5.df (ps:=["guest", "turn"]) X G fun _ us hl=>ln2 hl fun _ _=>rfl
 have XcF:=h6.df (ps:=["guest"]) X G fun _ us hl=>ln1 hl fun _=>rfl
 have XcG:=h7.df (ps:=["guest"]) X G fun _ us hl=>ln1 hl fun _=>rfl
 have XcH:=h8.df (ps:=["guest", "want"]) X G fun _ us hl=>ln2 hl fun _ _=>rfl
 have XcI:=h9.df (ps:=["line", "k"]) X G fun _ us hl=>ln2 hl fun _ _=>rfl
 have XcJ:=h10.df (ps:=["yard", "k"]) X G fun _ us hl=>ln2 hl fun _ _=>rfl
 have XcK:=h11.df (ps:=["guest", "k"]) X G fun _ us hl=>ln2 hl fun _ _=>rfl
 have XcL:=h12.df (ps:=["guests", "k"]) X G fun _ us hl=>ln2 hl fun _ _=>rfl
 have XcM:=h13.df (ps:=["number"]) X G fun _ us hl=>ln1 hl fun _=>rfl
 have XcN:=h14.df (ps:=["line", "turn"]) X G fun _ us hl=>ln2 hl fun _ _=>rfl
 have XcO:=h15.df (ps:=["net", "yard", "number", "guest"]) X G fun _ us hl=>ln4 hl fun _ _ _ _=>rfl
 have XcP:=h16.df (ps:=["net", "yard", "turn"]) X G fun _ us hl=>ln3 hl fun _ _ _=>rfl
 have XcQ:=h17.df (ps:=["yard", "guests"]) X G fun _ us hl=>ln2 hl fun _ _=>rfl
 have XcR:=h18.df (ps:=["net", "yard", "number", "guest"]) X G fun _ us hl=>ln4 hl fun _ _ _ _=>rfl
 have XcS:=h19.df (ps:=["yard", "guests"]) X G fun _ us hl=>ln2 hl fun _ _=>rfl
 have XcT:=h20.df (ps:=["yard", "guests"]) X G fun _ us hl=>ln2 hl fun _ _=>rfl
 have XcU:=h21.df (ps:=["yard", "guests", "some", "turn"]) X G fun _ us hl=>ln4 hl fun _ _ _ _=>rfl
 have XcV:=h22.df (ps:=["yard", "guests", "some", "turn"]) X G fun _ us hl=>ln4 hl fun _ _ _ _=>rfl
 have XcW:=h23.df (ps:=["yard", "guests", "some"]) X G fun _ us hl=>ln3 hl fun _ _ _=>rfl
 have XcX:=h24.df (ps:=["yard", "guests"]) X G fun _ us hl=>ln2 hl fun _ _=>rfl
 have XcY:=h25.df (ps:=["yard", "guests"]) X G fun _ us hl=>ln2 hl fun _ _=>rfl
 have XcZ:=h26.df (ps:=["one", "other"]) X G fun _ us hl=>ln2 hl fun _ _=>rfl
 have Xc0:=h27.df (ps:=["top", "bottom"]) X G fun _ us hl=>ln2 hl fun _ _=>rfl
 have Xc1:=h28.df (ps:=["parts"]) X G fun _ us hl=>ln1 hl fun _=>rfl
 have Xc2:=h29.df (ps:=["parts", "bottom"]) X G fun _ us hl=>ln2 hl fun _ _=>rfl
 have Xc3:=h30.df (ps:=["one", "other"]) X G fun _ us hl=>ln2 hl fun _ _=>rfl
 have Xc4:=h31.df (ps:=["guests", "totals", "k"]) X G fun _ us hl=>ln3 hl fun _ _ _=>rfl
 have Xc5:=h32.df (ps:=["yard", "guests", "ahead", "some"]) X G fun _ us hl=>ln4 hl fun _ _ _ _=>rfl
 have Xc6:=h33.df (ps:=["yard", "guests", "ahead", "share"]) X G fun _ us hl=>ln4 hl fun _ _ _ _=>rfl
 have Xc7:=h34.df (ps:=["yard", "guests", "ahead"]) X G fun _ us hl=>ln3 hl fun _ _ _=>rfl
 have Xc8:=h35.df (ps:=["yard", "guests"]) X G fun _ us hl=>ln2 hl fun _ _=>rfl
 have Xc9:=h36.df (ps:=["yard", "guests"]) X G fun _ us hl=>ln2 hl fun _ _=>rfl
 have Xda:=h37.df (ps:=["yard", "guests"]) X G fun _ us hl=>ln2 hl fun _ _=>rfl
 have Xdb:=h38.df (ps:=["_law_script", "_law_k"]) X G fun _ us hl=>ln2 hl fun _ _=>rfl
 have Xdc:=h39.df (ps:=["_law_script", "_law_k"]) X G fun _ us hl=>ln2 hl fun _ _=>rfl
 have Xdd:=h40.df (ps:=["_law_number_here"]) X G fun _ us hl=>ln1 hl fun _=>rfl
 have Xde:=h41.df (ps:=["_law_script"]) X G fun _ us hl=>ln1 hl fun _=>rfl
 have Xdf:=h42.df (ps:=["_law_script", "_law_yard_here"]) X G fun _ us hl=>ln2 hl fun _ _=>rfl
 have Xdg:=h43.df (ps:=["_law_yard_here", "_law_guests_here", "_law_k", "_law_filling"]) X G fun _ us hl=>ln4 hl fun _ _ _ _=>rfl
 have Xdh:=h44.df (ps:=["_law_one", "_law_other"]) X G fun _ us hl=>ln2 hl fun _ _=>rfl
 have Xdi:=h45.df (ps:=["_law_guests_here", "_law_k", "_law_filling"]) X G fun _ us hl=>ln3 hl fun _ _ _=>rfl
 have Xdj:=h46.df (ps:=["_law_some"]) X G fun _ us hl=>ln1 hl fun _=>rfl
 have Xdk:=h47.df (ps:=["_law_one", "_law_other"]) X G fun _ us hl=>ln2 hl fun _ _=>rfl
 have Xdl:=h48.df (ps:=["_law_yard_here", "_law_loads", "_law_line", "_law_turn", "_law_amount_here"]) X G fun _ us hl=>ln5 hl fun _ _ _ _ _=>rfl
 have Xdm:=h49.df (ps:=["_law_yard_here", "_law_loads", "_law_line", "_law_turn", "_law_k"]) X G fun _ us hl=>ln5 hl fun _ _ _ _ _=>rfl
 have Xdn:=h50.df (ps:=["_law_yard_here", "_law_guests_here", "_law_number_here", "_law_k"]) X G fun _ us hl=>ln4 hl fun _ _ _ _=>rfl
 have Xcq:=Zel (st:=Zhh) l51 c51 k51
 have D_law:Df K mg "law" Zhh ["_law_script"]:=⟨_,_,Xcq,W.mg_of X G a51,Xcq.binds (ps:=["_law_script"]) fun _ _ _ _ _ _ us hl=>ln1 hl fun _=>rfl⟩
 have Xcr:=Zel (st:=Zda) l52 c52 k52
 have Xdo:Mf K C "lay" "Net.lay" Zda ["self", "start", "end", "room"]:=⟨_,_,Xcr,⟨a52,i52,k52⟩,Xcr.binds (ps:=["self", "start", "end", "room"]) fun _ _ _ _ _ _ us hl=>ln4 hl fun _ _ _ _=>rfl⟩
 have Xcs:=Zel (st:=Zbw) l53 c53 k53
 have Xdp:Mf K C "lay_one" "Net.lay_one" Zbw ["self", "start", "end", "room"]:=⟨_,_,Xcs,⟨a53,i53,k53⟩,Xcs.binds (ps:=["self", "start", "end", "room"]) fun _ _ _ _ _ _ us hl=>ln4 hl fun _ _ _ _=>rfl⟩
 have Xct:=Zel (st:=Zc0) l54 c54 k54
 have Xdq:Mf K C "flow" "Net.flow" Zc0 ["self", "start", "end"]:=⟨_,_,Xct,⟨a54,i54,k54⟩,Xct.binds (ps:=["self", "start", "end"]) fun _ _ _ _ _ _ us hl=>ln3 hl fun _ _ _=>rfl⟩
 have Xcu:=Zel (st:=Zbv) l55 c55 k55
 have Xdr:Mf K C "reached" "Net.reached" Zbv ["self", "start"]:=⟨_,_,Xcu,⟨a55,i55,k55⟩,Xcu.binds (ps:=["self", "start"]) fun _ _ _ _ _ _ us hl=>ln2 hl fun _ _=>rfl⟩
 have Xcv:=Zel (st:=Zcg) l56 c56 k56
 have Xds:Mf K C "push" "Net.push" Zcg ["self", "way"]:=⟨_,_,Xcv,⟨a56,i56,k56⟩,Xcv.binds (ps:=["self", "way"]) fun _ _ _ _ _ _ us hl=>ln2 hl fun _ _=>rfl⟩
 have Xcw:=Zel (st:=Zcz) l57 c57 k57
 have Xdt:Mf K C "fill" "Net.fill" Zcz ["self", "start", "end"]:=⟨_,_,Xcw,⟨a57,i57,k57⟩,Xcw.binds (ps:=["self", "start", "end"]) fun _ _ _ _ _ _ us hl=>ln3 hl fun _ _ _=>rfl⟩
 have Xcx:=Zel (st:=ZbB) l58 c58 k58
 have Xdu:Mf K C "way_to" "Net.way_to" ZbB ["self", "edges", "end"]:=⟨_,_,Xcx,⟨a58,i58,k58⟩,Xcx.binds (ps:=["self", "edges", "end"]) fun _ _ _ _ _ _ us hl=>ln3 hl fun _ _ _=>rfl⟩
 have Xcy:=Zel (st:=Zbz) l59 c59 k59
 have B_Net:=Xcy.binds (ps:=["self"]) fun _ _ _ _ _ _ us hl=>ln1 hl fun _=>rfl
 refine⟨⟨gS,gE,aS,aE,⟨_,_,_,_,lS⟩,⟨_,_,_,_,lE⟩⟩,W.fnOf "law" "law" (ZbO Zhh) (ZaS Zhh) (Zaf Zhh) .none kV51 dc51 pm51 an51 cd51 ct51,fun s v=>.of_eq rfl,fun base _ _=>?_⟩
 have Xbw:=Zsz (P:=P) (w:=w) (base:=base) T Xdb
 have Xbz:=Zo1 (P:=P) (w:=w) (base:=base) T Xdc Xbw
 have XbC:=ZoA (P:=P) (w:=w) (base:=base) T Xdd
 have Xcm:=ZrW (P:=P) (w:=w) (base:=base) T Xde Xbw Xbz XbC
 have Xcn:=Znj (P:=P) (w:=w) (base:=base) T Xdf Xbw Xbz XbC
 have Xbu:=Zsh (P:=P) (w:=w) (base:=base) T XcF
 have Xb4:Zu7 P w K mg base "Net" C 1:=⟨_,_,⟨mk,a59,i59,kc⟩,W.mg_of X G aC,B_Net,Zta (P:=P) (w:=w) (base:=base) T U Xcy⟩
 have XbP:=Zsm (P:=P) (w:=w) (base:=base) T U Xdp
 have XbB:=ZsW (P:=P) (w:=w) (base:=base) T U Xdo XbP
 have Xby:=Zqb (P:=P) (w:=w) (base:=base) T XcM
 have Xbt:=Zph (P:=P) (w:=w) (base:=base) T Xcz
 have XbG:=ZpD (P:=P) (w:=w) (base:=base) T XcE
 have XbH:=Zsr (P:=P) (w:=w) (base:=base) T XcG
 have Xbv:=ZoZ (P:=P) (w:=w) (base:=base) T XcN
 have XbA:=ZoQ (P:=P) (w:=w) (base:=base) T XcD
 have Xb5:=Zot (P:=P) (w:=w) (base:=base) T U XcO XbB Xbu Xby Xbt XbG XbH Xbv XbA
 have Xbx:=Zpu (P:=P) (w:=w) (base:=base) T XcC
 have XbD:=ZpS (P:=P) (w:=w) (base:=base) T XcA
 have XbI:=Zqw (P:=P) (w:=w) (base:=base) T XcB
 have Xb6:=Zqj (P:=P) (w:=w) (base:=base) T U XcP XbB Xbx Xbv XbD XbI
 have XbE:=Zml (P:=P) (w:=w) (base:=base) T U Xdr
 have Xb2:=Zrh (P:=P) (w:=w) (base:=base) T U Xds
 have Xb3:=ZtV (P:=P) (w:=w) (base:=base) T U Xdu
 have Xb7:=ZrZ (P:=P) (w:=w) (base:=base) T U Xdt XbE Xb2 Xb3
 have XbJ:=Zm4 (P:=P) (w:=w) (base:=base) T U XcQ Xb4 Xb5 Xbt Xb6 Xb7
 have Xcb:=Zks (P:=P) (w:=w) (base:=base) T U XcT XbJ XbE Xby
 have Xce:=Zr2 (P:=P) (w:=w) (base:=base) T XcY Xcb
 have Xb0:=Zmi (P:=P) (w:=w) (base:=base) T XcI
 have XbN:=Zmo (P:=P) (w:=w) (base:=base) T XcJ Xb0
 have Xb1:=Zl8 (P:=P) (w:=w) (base:=base) T XcK
 have Xcc:=Zkd (P:=P) (w:=w) (base:=base) T XcL Xb1
 have Xcd:=Zp0 (P:=P) (w:=w) (base:=base) T XcH
 have XbO:=ZnH (P:=P) (w:=w) (base:=base) T Xc4 Xcc Xcd
 have XbS:=ZoK (P:=P) (w:=w) (base:=base) T Xc6 Xbu Xce XbN XbO
 have XbK:=Zrm (P:=P) (w:=w) (base:=base) T XcZ
 have XbL:=ZrS (P:=P) (w:=w) (base:=base) T Xc1 XbK
 have XbQ:=ZrP (P:=P) (w:=w) (base:=base) T Xc2
 have XbF:=ZnU (P:=P) (w:=w) (base:=base) T Xc3 XbL XbQ
 have XbY:=Zkk (P:=P) (w:=w) (base:=base) T XcU XbD XbG XbA XbH XbI Xbx
 have XbZ:=Zqm (P:=P) (w:=w) (base:=base) T XcV XbY Xbx
 have XbR:=ZmU (P:=P) (w:=w) (base:=base) T XcW Xbt XbZ
 have XbM:=Zs5 (P:=P) (w:=w) (base:=base) T Xc0 XbK
 have XbT:=ZnS (P:=P) (w:=w) (base:=base) T Xc5 XbR XbM Xbu
 have Xcf:=ZoT (P:=P) (w:=w) (base:=base) T Xc7 XbS XbF XbT
 have Xcg:=Zou (P:=P) (w:=w) (base:=base) T Xc8 Xcf
 have Xch:=ZlQ (P:=P) (w:=w) (base:=base) T Xc9 Xcg
 have Xb8:=Zr5 (P:=P) (w:=w) (base:=base) T U Xdq
 have Xb9:=Zqu (P:=P) (w:=w) (base:=base) T U XcR Xbt Xb8 Xbv XbA Xby
 have Xca:=Zpt (P:=P) (w:=w) (base:=base) T U XcS XbJ Xb9
 have Xci:=Zrx (P:=P) (w:=w) (base:=base) T XcX Xca
 have Xco:=Zms (P:=P) (w:=w) (base:=base) T Xda Xch Xbu XbM XbL Xci XbN XbO
 have XbV:=Znt (P:=P) (w:=w) (base:=base) T Xdg
 have Xcl:=Zsw (P:=P) (w:=w) (base:=base) T Xdh
 have XbW:=ZtO (P:=P) (w:=w) (base:=base) T Xdi Xcl
 have Xcj:=Zst (P:=P) (w:=w) (base:=base) T Xdm
 have Xck:=Zpn (P:=P) (w:=w) (base:=base) T Xdl
 have Xcp:=Zpc (P:=P) (w:=w) (base:=base) T Xdn Xcj Xck
 have XbU:=Zmh (P:=P) (w:=w) (base:=base) T Xdj
 have XbX:=Zqa (P:=P) (w:=w) (base:=base) T Xdk XbU
 exact Ztg T Xcq Xcm Xcn Xbz Xco XbV XbW Xcp XbX XbF
end My
namespace PySem.W.Fast
def tw11664559725218640758:=0
def tw8203106600135570953:=0
def tw11394083964167880181:=0
def tw3039559328448264631:=0
def tw12163297467887247346:=0
def tw11357005604782806052:=0
def tw13944219710899844282:=0
def tw15581662578676376593:=0
def tw13836506534596068851:=0
def tw13950543806690545074:=0
def tw3456009577924917094:=0
def tw1525297035534799668:=0
def tw4900856782458515407:=0
def tw7693265928609433443:=0
def tw13077906133120961229:=0
def tw11374984707521410872:=0
def tw8763247040128189634:=0
def tw7321177766842060111:=0
def tw1135991327629039162:=0
def tw12884975920544200068:=0
def tw5886416103287228162:=0
def tw17804259280263829637:=0
def tw4939456181263647395:=0
def tw2007558009824572093:=0
def tw9918080197173847328:=0
def tw8746416504351968650:=0
def tw329581424320747254:=0
def tw11516630987749690848:=0
def tw12852187954077867976:=0
def tw2874248445180020859:=0
def tw13513978128228521289:=0
def tw6360343697628035312:=0
def tw3312820743947034387:=0
def tw13937142552519236084:=0
def tw5499284639361487030:=0
def tw2644225723030524385:=0
def tw16136299612333368021:=0
def tw3754369633124486164:=0
def tw12628424710190809669:=0
def tw10000026354661878379:=0
def tw888199537866350719:=0
def tw8863346257417830948:=0
def tw2339291582704018842:=0
def tw10067702205650945524:=0
def tw12092846345968944517:=0
def tw1308265028022735513:=0
def tw4960307939826214893:=0
def tw5654449228076172301:=0
def tw2839024647038887243:=0
def tw2072968583208938694:=0
def tw4048847610453508397:=0
def tw5331338744813186109:=0
def tw8630999689419839369:=0
def tw1330264735819876663:=0
def tw3861571677051098726:=0
def tw5646452336476250655:=0
def tw15422310237241246623:=0
def tw5606053300017765472:=0
def tw8622355225246759796:=0
def tw9778368796235452127:=0
def tw8782246129138930911:=0
def tw9050703659270418775:=0
def tw4760923674746156268:=0
def tw9344166413242342740:=0
def tw15997400400234216197:=0
def tw253412649024018132:=0
def tw5753443225871277684:=0
def tw853648564141413949:=0
def tw4311225126749999128:=0
def tw4155849217269243755:=0
def tw1064035200368645661:=0
def tw17491578951478797268:=0
def tw10080260405949883876:=0
def tw4512474067430842686:=0
def tw951929814803342570:=0
def tw15406934252961957984:=0
def tw15721794821175112973:=0
def tw1418191586437218409:=0
def tw16647165568825312206:=0
def tw4013255331688450444:=0
def tw12478969898938750572:=0
def tw6059408255189345114:=0
end PySem.W.Fast
open PySem PySem.W PyProof.Rows
set_option maxRecDepth 100000 in
set_option maxHeartbeats 0 in
theorem PySem.Challenge.cw_chargeyard_k94_whole_no_filling_is_faire_holds : PySem.Challenge.rw_chargeyard_k94_whole_no_filling_is_faire.Holds := by
 w_on; o_law; k_head; (case hw=>w_witness2)
 k_fill
 refine L2.Zn7 (l:=PySem.Challenge.rw_chargeyard_k94_whole_no_filling_is_faire) (k:=12) (x := "_law_script") rfl rfl ⟨rfl,by decide,by decide⟩ (fun w h Y=>W.kIn_of Y) ?F
 case F =>
  intro w mg fa h KX G hmg
  refine' My.ZsX KX G hmg ?aC ?h0 ?h1 ?h2 ?h3 ?h4 ?h5 ?h6 ?h7 ?h8 ?h9 ?h10 ?h11 ?h12 ?h13 ?h14 ?h15 ?h16 ?h17 ?h18 ?h19 ?h20 ?h21 ?h22 ?h23 ?h24 ?h25 ?h26 ?h27 ?h28 ?h29 ?h30 ?h31 ?h32 ?h33 ?h34 ?h35 ?h36 ?h37 ?h38 ?h39 ?h40 ?h41 ?h42 ?h43 ?h44 ?h45 ?h46 ?h47 ?h48 ?h49 ?h50 ?a51 ?l51 ?c51 ?k51 ?a52 ?i52 ?l52 ?c52 ?k52 ?a53 ?i53 ?l53 ?c53 ?k53 ?a54 ?i54 ?l54 ?c54 ?k54 ?a55 ?i55 ?l55 ?c55 ?k55 ?a56 ?i56 ?l56 ?c56 ?k56 ?a57 ?i57 ?l57 ?c57 ?k57 ?a58 ?i58 ?l58 ?c58 ?k58 ?a59 ?i59 ?l59 ?c59 ?k59 ?pg ?hd ?po ?sa ?mk ?kc ?n0 ?n1 ?n2 ?n3 ?aS ?lS ?aE ?lE ?z0 ?z1 ?z2 ?z3 ?z4 ?z5 ?z6 ?z7 ?z8 ?z9 ?z10 ?z11 ?z12 ?z13 ?z14 ?z15
  case aC | a51 | l51 | c51 | k51 | a52 | i52 | l52 | c52 | k52 | a53 | i53 | l53 | c53 | k53 | a54 | i54 | l54 | c54 | k54 | a55 | i55 | l55 | c55 | k55 | a56 | i56 | l56 | c56 | k56 | a57 | i57 | l57 | c57 | k57 | a58 | i58 | l58 | c58 | k58 | a59 | i59 | l59 | c59 | k59 | pg | hd | po | sa | mk | kc | n0 | n1 | n2 | n3 | aS | lS | aE | lE | z0 | z1 | z2 | z3 | z4 | z5 | z6 | z7 | z8 | z9 | z10 | z11 | z12 | z13 | z14 | z15=>k_is
  case h0 | h1 | h2 | h3 | h4 | h5 | h6 | h7 | h8 | h9 | h10 | h11 | h12 | h13 | h14 | h15 | h16 | h17 | h18 | h19 | h20 | h21 | h22 | h23 | h24 | h25 | h26 | h27 | h28 | h29 | h30 | h31 | h32 | h33 | h34 | h35 | h36 | h37 | h38 | h39 | h40 | h41 | h42 | h43 | h44 | h45 | h46 | h47 | h48 | h49 | h50 =>
   refine' My.DH.mk ?a ?l ?c ?k
   case a | l | c | k=>k_is
end
