import PyProof.Rows.All
import Wide.All
import OpenK.AllK
import Wide.FinOn
import Lean
import PyProof.EqAt
import PyProof.EqKinds
import PyProof.TupleCall
import PyProof.EqLayable
import PyProof.SumAny
import PyProof.ListRange
import PyProof.WalksEnum
import PyProof.ZipIter
import PyProof.EnumMake
import PyProof.ConsumeS
import PyProof.SeqI3
import PyProof.MaxThree
import PyProof.Rows.TupAdd
import OpenK.KOwn
import PyProof.DictRoadsH
import PyProof.ExcBaseAll.ValueError
import PyProof.ExcClass3
import PyProof.FactsAll.dict
import PyProof.InstSpecial
import PyProof.MeetsDict
import PyProof.MinMaxWalk
import PyProof.Rows.CatchBare
import PyProof.Rows.SortWalk
import PyProof.Rows.TupDisplay
import PyProof.StationsW
import PyProof.WalksMore
import PySem.Challenge.RW_chargeyard_k95_whole_turned_about_and_ti
set_option Elab.async false
set_option linter.all false
set_option maxRecDepth 100000
set_option maxHeartbeats 4000000
set_option compiler.extract_closed false
set_option genSizeOf false
section
open PySem PySem.Spec PyProof.Rows
theorem Qa {α:Sort _}{a:α}{q:Prop}:a=a\/q:=Or.inl rfl
abbrev Qb:=Value->Shared->Prop
abbrev Qc:=List (Addr×Obj)
abbrev Qd:=List PyData
abbrev Qe:=List Value
abbrev Qf:=Option Value
abbrev Qg:=List Addr
abbrev Qh:=List Str
abbrev Qi:=List Expr
abbrev Qj:=Option Addr
abbrev Qk:=List Nat
abbrev Ql:=List Int
abbrev Qm:=Nat->Bool
abbrev Qn:=Nat->Int
def Xa:=@wpAny_bind
def Xb:=@if_neg
def Xc:=@if_pos
def Xd:=@List.mem_cons_self
def Xe:=@List.mem_cons_of_mem
def Xf:=@Heap.get?_push_of_some
def Xg:=@List.mem_cons
def Xh:=@List.getElem?_eq_some_iff
def Xi:=@wpAny_pure
def Xj:=@Heap.lt_size
def Xk:=@List.getElem?_map
def Xl:=@absurd
def Xm:=@List.length_map
def Xn:=@List.mem_singleton
def Xo:=@Nat.ne_of_lt
def Xp:=@Bool.false_ne_true
def Xq:=@List.length_append
def Xr:=@List.mem_range
def Xs:=@Nat.le_refl
def Xt:=@List.map_cons
def Xu:=@List.size_toArray
def Xv:=@Nat.lt_of_lt_of_le
def Xw:=@List.mem_map
def Xx:=@List.getElem?_eq_getElem
def Xy:=@List.map_append
def Xz:=@of_decide_eq_true
def XA:=@List.find?_cons
def XB:=@Int.mul_assoc
def XD:=@Int.mul_comm
def XF:=@decide_eq_false
def XG:=@List.mem_append
def XH:=@Int.toNat_natCast
def XI:=@List.map_map
def XJ:=@List.length_cons
def XL:=@List.getElem_mem
def XM:=@List.lookup_cons
def XN:=@Nat.le_trans
def XO:=@Int.mul_le_mul_of_nonneg_left
def XQ:=@Heap.get?_push_size
def XS:=@Option.map_some
def XT:=@List.mem_append_right
def XU:=@List.getElem?_set_self
def XV:=@List.append_nil
def XX:=@List.getElem?_append_left
def XY:=@Int.toNat_of_nonneg
def XZ:=@Nat.le_of_lt
def X0:=@List.getElem?_set_ne
def X3:=@List.nodup_cons
def X4:=@List.map_congr_left
def X5:=@Heap.get?_update_other
def X6:=@List.mem_filter
def X7:=@Nat.ne_of_gt
def X8:=@Bool.false_eq_true
def X9:=@Int.lt_of_le_of_lt
def ZD:=@congrArg
def Vl:=@Nat.zero_le
def Yr:=@List.not_mem_nil
def YU:=@of_decide_eq_false
def Yk:=@decide_eq_true
def Y6:=@List.range_succ
def YT:=@Bool.and_eq_true
def Ut:=@List.getElem?_append_right
def Gb:=@Int.mul_le_mul_of_nonneg_right
def Wn:=@List.take_length
def Wm:=@Option.getD_some
def Ye:=@Int.mul_sub
def Wl:=@List.mem_flatMap
def Y5:=@Nat.lt_irrefl
def JB:=@Heap.get?_update_self
def JA:=@List.mem_append_left
def YS:=@Int.zero_add
def WB:=@List.take_succ
def Us:=@Bool.and_eq_true_iff
def J9:=@List.length_range
def J8:=@Option.isSome_map
def Jf:=@Int.natCast_mul
def Ur:=@List.flatMap_append
def YQ:=@Int.one_mul
def WA:=@List.sum_cons
def J7:=@List.filter_cons
def Bq:=@Int.le_of_mul_le_mul_left
def WE:=@Int.lt_trans
def JI:=@Int.emod_nonneg
def JG:=@Int.ediv_nonneg
def Gf:=@List.filterMap_cons
def Uy:=@Nat.lt_succ_self
def Ux:=@List.length_take
def JF:=@Int.mul_nonneg
def Uw:=@List.cons_append
def WD:=@wpAny_field
def WC:=@Int.mul_add
def Ge:=@Int.emod_lt_of_pos
def Uv:=@Bool.eq_iff_iff
def JE:=@Nat.mul_assoc
def Gd:=@List.append_assoc
def Gc:=@Int.mul_left_comm
def MR:=@List.exists_mem_of_ne_nil
def Jg:=@Int.le_refl
def JD:=@List.map_nil
def JC:=@Int.ofNat_lt
def MQ:=@List.filterMap_cons_none
def MP:=@List.filterMap_cons_some
def MO:=@List.getElem?_cons_succ
def Uu:=@Bool.not_true
def Bp:=@List.filterMap_map
def Bo:=@List.filter_append
def No:=@List.eq_nil_of_length_eq_zero
def Bt:=@List.nodup_append
def Gh:=@Heap.size_push
def U0:=@Int.add_zero
def Gg:=@List.nodup_nil
def Uz:=@Nat.mul_comm
def MT:=@List.pairwise_flatMap
def Bs:=@List.length_drop
def Br:=@Nat.le_add_right
def MS:=@List.mem_of_mem_drop
def Bn:=@List.nodup_range
def MN:=@Nat.pow_le_pow_right
def Nn:=@Int.le_of_mul_le_mul_right
def Uq:=@Int.add_mul
def MM:=@List.length_pos_iff
def ML:=@List.takeWhile_cons
def Bm:=@List.sum_append
def Nm:=@List.getElem?_eq_none_iff
def Nl:=@List.drop_eq_getElem_cons
def Nk:=@Int.lt_of_mul_lt_mul_left
def MK:=@Nat.lt_of_le_of_lt
def MJ:=@List.pairwise_cons
def Ga:=@Int.ofNat_le
def Bk:=@Int.mul_le_mul
def MI:=@List.flatMap_cons
def MH:=@Nat.gcd_dvd_right
def Bj:=@List.any_cons
def MG:=@List.ext_getElem
end
namespace L2
open PySem PySem.Spec PyProof.Rows
abbrev Key:=Sum Int Str
def UD:Key->Value->Bool
 |.inl k,v=>Value.isInt k v
 |.inr x,v=>Value.isStrOf x v
def LH (w:World):Key->Int
 |.inl k=>hashInt k
 |.inr x=>hashStr w x
theorem Jc:∀{k:Key} {v:Value},UD k v=true->(∃i t,k=Sum.inl i/\v=Value.int i t)\/(∃x t,k=Sum.inr x/\v=Value.str x t)
 |.inl i,v,h=>by
   obtain⟨t,e⟩:=Value.isInt_shape (k:=i) (v:=v) h
   exact .inl ⟨i,t,rfl,e⟩
 |.inr x,v,h=>by
   obtain⟨t,e⟩:=Value.isStrOf_shape (x:=x) (v:=v) h
   exact .inr ⟨x,t,rfl,e⟩
theorem O3 (i:Int)(t:Tok):UD (.inl i) (.int i t)=true:=by simp[UD,Value.isInt]
theorem Oz (x:Str)(t:Tok):UD (.inr x) (.str x t)=true:=by simp[UD,Value.isStrOf]
theorem FT (a b:Int):decide ((Sum.inl a:Key)=Sum.inl b)=(a==b):=by
 by_cases e:a=b
 ·subst e;simp
 ·have h:¬(Sum.inl a:Key)=Sum.inl b:=fun q=>e (Sum.inl.inj q)
  rw[XF h];exact(beq_eq_false_iff_ne.mpr e).symm
theorem F9 (a b:Str):decide ((Sum.inr a:Key)=Sum.inr b)=decide (a=b):=by
 by_cases e:a=b
 ·subst e;simp
 ·have h:¬(Sum.inr a:Key)=Sum.inr b:=fun q=>e (Sum.inr.inj q)
  rw[XF h,XF e]
theorem FD (a:Int)(b:Str):decide ((Sum.inl a:Key)=Sum.inr b)=false:=XF (fun q=>nomatch q)
theorem FE (a:Str)(b:Int):decide ((Sum.inr a:Key)=Sum.inl b)=false:=XF (fun q=>nomatch q)
def Ve (prog:Program)(w:World):PySem.KeyKind prog w Key where
 is:=UD
 hash:=LH w
 inj:=fun v a b ha hb=>by
  rcases Jc ha with ⟨i,t,rfl,rfl⟩|⟨x,t,rfl,rfl⟩
  ·rcases Jc hb with ⟨j,u,rfl,e⟩|⟨y,u,rfl,e⟩
   ·injection e with e1 _;rw[e1]
   ·exact nomatch e
  ·rcases Jc hb with ⟨j,u,rfl,e⟩|⟨y,u,rfl,e⟩
   ·exact nomatch e
   ·injection e with e1 _;rw[e1]
 byValue:=fun k v h=>by
  rcases Jc h with ⟨i,t,rfl,rfl⟩|⟨x,t,rfl,rfl⟩<;>rfl
 pyHash:=fun hv h=>by
  rcases Jc hv with ⟨i,t,rfl,rfl⟩|⟨x,t,rfl,rfl⟩
  ·exact wpAny_pyHash_int h
  ·exact wpAny_pyHash_str h
 eqBool:=fun hu hv h=>by
  rcases Jc hu with ⟨i,t,rfl,rfl⟩|⟨x,t,rfl,rfl⟩
  ·rcases Jc hv with ⟨j,u,rfl,rfl⟩|⟨y,u,rfl,rfl⟩
   ·rw[FT]at h;exact wpAny_eqBool_int h
   ·rw[FD]at h;exact SeqAt.EqAt.int_str i t y u _ _ _ _ h
  ·rcases Jc hv with ⟨j,u,rfl,rfl⟩|⟨y,u,rfl,rfl⟩
   ·rw[FE]at h;exact SeqAt.EqAt.str_int x t j u _ _ _ _ h
   ·rw[F9]at h;exact wpAny_eqBool_str h
 «strs» := fun k x t v h=>by
  rcases Jc h with ⟨i,u,rfl,e⟩|⟨y,u,rfl,e⟩
  ·exact nomatch e
  ·injection e with e1 _
   subst e1;cases v<;>rfl
theorem Zkm (prog:Program)(w:World)(i:Int)(t:Tok):(Ve prog w).is (.inl i) (.int i t)=true:=O3 i t
theorem ZjY (prog:Program)(w:World)(x:Str)(t:Tok):(Ve prog w).is (.inr x) (.str x t)=true:=Oz x t
inductive V where
 |non|bl (b:Bool)|int (i:Int)|str (x:Str)|byt (b:Array UInt8)|flt (b:UInt64)|ref (a:Addr)|ty (n:String)
 deriving DecidableEq
def QK:V->Value->Prop
 |.non,u=>u=Value.none
 |.bl b,u=>u=Value.bool b
 |.int i,u=>∃t,u=Value.int i t
 |.str x,u=>∃t,u=Value.str x t
 |.byt b,u=>∃t,u=Value.bytes b t
 |.flt b,u=>∃t,u=Value.float b t
 |.ref a,u=>u=Value.ref a
 |.ty n,u=>u=Value.type n
abbrev QP:List V->Qe->Prop:=Paired QK
theorem QP.length {xs:List V}{us:Qe}(r:QP xs us):xs.length=us.length:=Paired.length r
theorem QP.get:∀{xs:List V} {us:Qe} {i:Nat} {x:V},QP xs us->xs[i]?=some x->∃u,us[i]?=some u/\QK x u
 |_,_,_,_,.nil,e=>by simp at e
 |_,_,0,_,.cons r _,e=>by simp at e;subst e;exact⟨_,rfl,r⟩
 |_,_,i+1,x,.cons _ t,e=>by
   obtain⟨u,h1,h2⟩:=QP.get (i:=i) (x:=x) t (by simpa using e)
   exact⟨u,by simpa using h1,h2⟩
theorem QP.set {x:V}{u:Value}(r:QK x u):∀{xs:List V} {us:Qe} (i:Nat),QP xs us->QP (xs.set i x) (us.set i u)
 |_,_,_,.nil=>.nil
 |_,_,0,.cons _ t=>.cons r t
 |_,_,i+1,.cons q t=>.cons q (QP.set r i t)
theorem QP.append:∀{xs ys:List V} {us ws:Qe},QP xs us->QP ys ws->QP (xs++ys) (us++ws)
 |_,_,_,_,.nil,s=>s
 |_,_,_,_,.cons r t,s=>.cons r (QP.append t s)
theorem QP.take:∀{xs:List V} {us:Qe} (n:Nat),QP xs us->QP (xs.take n) (us.take n)
 |_,_,0,_=>.nil
 |_,_,_+1,.nil=>.nil
 |_,_,n+1,.cons r t=>.cons r (QP.take n t)
theorem QP.drop:∀{xs:List V} {us:Qe} (n:Nat),QP xs us->QP (xs.drop n) (us.drop n)
 |_,_,0,r=>r
 |_,_,_+1,.nil=>.nil
 |_,_,n+1,.cons _ t=>QP.drop n t
def ZQ:Option V->Qf->Prop
 |some v,some u=>QK v u
 |none,none=>True
 |_,_=>False
def KV {κ:Type}:List (κ×V)->List (κ×Value)->Prop:=Paired fun(p:κ×V) (q:κ×Value)=>p.1=q.1/\QK p.2 q.2
def kV:Key->V
 |.inl i=>.int i
 |.inr x=>.str x
inductive HO where
 |lst (xs:List V)
 |tup (xs:List V)
 |dK (kvs:List (Key×V))|dT (kvs:List (List Key×V))
 |set (S:Int->Bool) (n:Nat)
 |ins (C dx:Addr) (fs:List (Str×V))
 |own (x:Addr)
 |xd (fs:List (Str×V))
 |met (f x:Addr)
 |rng (lo hi:Int)
 |frz (o:Obj) (u:HO)
 |tbl (ps:Array Value)
 |ext (φ:Heap->Prop)
abbrev Hp:=Addr->Option HO
def upd (H:Hp)(a:Addr)(o:HO):Hp:=fun b=>if b=a then some o else H b
theorem QR {H:Hp}{a:Addr}{o:HO}:upd H a o a=some o:=by unfold upd;rw[Xc rfl]
theorem Qx {H:Hp}{a b:Addr}{o:HO}(h:b≠a):upd H a o b=H b:=by unfold upd;rw[Xb h]
theorem NN {H:Hp}{a b:Addr}{o u:HO}(h:H a=some o)(h':H b=some u)(d:o≠u):a≠b:=by
 intro e;subst e;rw[h]at h';exact d (Option.some.inj h')
theorem ZM {H:Hp}{a b:Addr}{o:HO}(h:H a=some o)(h':H b=none):a≠b:=by
 intro e;subst e;rw[h]at h';cases h'
section
variable (P:Program)(w:World)
def Z7 (H:Hp)(h:Heap)(a:Addr):HO->Prop
 |.lst xs=>xs.length<=sizeLine/\∃(its:Qe) (n:Nat),QP xs its/\h.get? a=some { cls:=.type "list",data:=.seq its.toArray n }
 |.tup xs=>xs.length<=sizeLine/\∃its:Qe,QP xs its/\IsTup h a its.toArray
 |.dK kvs=>kvs.length<=sizeLine/\(a==sysModules)=false/\∃vs,KV kvs vs/\h.DictOf (Ve P w) a vs
 |.dT kvs=>kvs.length<=sizeLine/\(a==sysModules)=false/\∃xs:List (List Key×Addr×Value),
  Paired (fun(p:List Key×V) (q:List Key×Addr×Value)=>p.1=q.1/\H q.2.1=some (.tup (p.1.map kV))/\QK p.2 q.2.2) kvs xs /\
  ∃o es ep,h.get? a=some o/\o.ExactDict/\o.data=.dict es ep/\es.toList=xs.map (entryOfKey (tupleKind (Ve P w)))/\(xs.map (·.1)).Nodup
 |.set S n=>h.SetOf (intKind P w) a S n
 |.ins C dx fs=>H dx=some (.own a)/\fs.length<=1000/\dx≠a/\h.get? a=some (W.instObj C dx) /\
  ∃mA,h.Ns1 dx mA/\(∀f,ZQ (fs.lookup f) (mA f))/\PySem.Within mA (fs.map (·.1))
 |.own _=>∃o,h.get? a=some o
 |.xd fs=>∃mA,h.Ns1 a mA/\∀f,ZQ (fs.lookup f) (mA f)
 |.rng lo hi=>∃t u v,h.get? a=some { cls:=.type "range",data:=.fields #[.int lo t,.int hi u,.int 1 v] }
 |.frz o u=>h.get? a=some o/\Z7 H h a u
 |.tbl ps=>h.get? a=some { cls:=.none,data:=.fields ps }
 |.met f x=>h.get? a=some (W.methodObj (.ref f) (.ref x))
 |.ext φ=>φ h/\(∃o,h.get? a=some o)/\∀h1 h2:Heap,φ h1->(∀o,h1.get? a=some o->h2.get? a=some o)->φ h2
def HOk (H:Hp)(h:Heap):Prop := ∀a o,H a=some o->Z7 P w H h a o
end
section
variable {P:Program}{w:World}{H H':Hp}{h h':Heap}{a:Addr}{o:HO}
theorem Z7.lt (x:Z7 P w H h a o):a<h.objs.size:=by
 cases o with
 |lst xs=>obtain⟨_,_,_,_,e⟩:=x;exact Xj e
 |tup xs=>obtain⟨_,_,_,p⟩:=x;exact p.lt
 |dK kvs=>obtain⟨_,_,_,_,o,_,_,e,_⟩:=x;exact Xj e
 |dT kvs=>obtain⟨_,_,_,_,o,_,_,e,_⟩:=x;exact Xj e
 |set S n=>obtain⟨o,_,_,_,e,_⟩:=x;exact Xj e
 |ins C dx fs=>obtain⟨_,_,_,e,_⟩:=x;exact Xj e
 |own y=>obtain⟨_,e⟩:=x;exact Xj e
 |xd fs=>obtain⟨_,⟨_,_,_,e,_⟩,_⟩:=x;exact Xj e
 |rng lo hi=>obtain⟨_,_,_,e⟩:=x;exact Xj e
 |frz ob u=>obtain⟨e,_⟩:=x;exact Xj e
 |tbl ps=>exact Xj (show h.get? a=some _ from x)
 |met f y=>exact Xj (show h.get? a=some _ from x)
 |ext φ=>obtain⟨_,⟨_,e⟩,_⟩:=x;exact Xj e
theorem Paired.mapP {α β:Type}{F G:α->β->Prop}:∀{l₁:List α} {l₂:List β},Paired F l₁ l₂->(∀a b,F a b->G a b)->Paired G l₁ l₂
 |_,_,.nil,_=>.nil
 |_,_,.cons r t,f=>.cons (f _ _ r) (Paired.mapP t f)
theorem Z7.stay (x:Z7 P w H h a o)(k:∀b u,(b=a\/H b=some (.own a))->h.get? b=some u->h'.get? b=some u)
 (ho:∀b,H b=some (.own a)->H' b=some (.own a)) (ht:∀b xs,H b=some (.tup xs)->H' b=some (.tup xs)):Z7 P w H' h' a o:=by
 induction o with
 |lst xs=>obtain⟨z,its,n,r,e⟩:=x;exact⟨z,its,n,r,k _ _ (.inl rfl) e⟩
 |tup xs=>obtain⟨z,its,r,ob,e,c⟩:=x;exact⟨z,its,r,ob,k _ _ (.inl rfl) e,c⟩
 |dK kvs=>obtain⟨z,y,vs,r,ob,es,ep,e,c⟩:=x;exact⟨z,y,vs,r,ob,es,ep,k _ _ (.inl rfl) e,c⟩
 |dT kvs =>
   obtain⟨z,y,xs,r,ob,es,ep,e,c⟩:=x
   exact⟨z,y,xs,Paired.mapP r fun p q z=>⟨z.1,ht _ _ z.2.1,z.2.2⟩,ob,es,ep,k _ _ (.inl rfl) e,c⟩
 |set S n=>obtain⟨ob,es,ep,t,e,c⟩:=x;exact⟨ob,es,ep,t,k _ _ (.inl rfl) e,c⟩
 |ins C dx fs =>
   obtain⟨d,z,ne,e,mA,⟨od,es,ep,e2,c⟩,r⟩:=x
   exact⟨ho _ d,z,ne,k _ _ (.inl rfl) e,mA,⟨od,es,ep,k _ _ (.inr d) e2,c⟩,r⟩
 |own y=>obtain⟨ob,e⟩:=x;exact⟨ob,k _ _ (.inl rfl) e⟩
 |xd fs=>obtain⟨mA,⟨od,es,ep,e,c⟩,r⟩:=x;exact⟨mA,⟨od,es,ep,k _ _ (.inl rfl) e,c⟩,r⟩
 |rng lo hi=>obtain⟨t,u,v,e⟩:=x;exact⟨t,u,v,k _ _ (.inl rfl) e⟩
 |frz ob u ih=>obtain⟨e,q⟩:=x;exact⟨k _ _ (.inl rfl) e,ih q⟩
 |tbl ps =>
   have e:h.get? a=some { cls:=.none,data:=.fields ps }:=x
   show h'.get? a=some { cls:=.none,data:=.fields ps }
   exact k a _ (.inl rfl) e
 |met f y =>
   have e:h.get? a=some (W.methodObj (.ref f) (.ref y)):=x
   show h'.get? a=some (W.methodObj (.ref f) (.ref y))
   exact k a _ (.inl rfl) e
 |ext φ=>obtain⟨p,⟨o,e⟩,st⟩:=x;exact⟨st _ _ p fun o q=>k _ _ (.inl rfl) q,⟨o,k _ _ (.inl rfl) e⟩,st⟩
theorem HOk.lt (x:HOk P w H h)(e:H a=some o):a<h.objs.size:=(x a o e).lt
theorem HOk.fresh (x:HOk P w H h)(e:h.objs.size<=a):H a=none:=by
 cases q:H a with
 |none=>rfl
 |some u=>exact Xl (Xv (x.lt q) e) (Y5 _)
theorem HOk.kept (x:HOk P w H h)(k:∀b u,h.get? b=some u->h'.get? b=some u):HOk P w H h':=fun a o e =>
 (x a o e).stay (fun b u _ q=>k b u q) (fun _ q=>q) fun _ _ q=>q
theorem HOk.laid (x:HOk P w H h)(k:∀b u,h.get? b=some u->h'.get? b=some u)(hp:h.objs.size<=a)(new:Z7 P w (upd H a o) h' a o):HOk P w (upd H a o) h':=fun b u e=>by
 have hn:=x.fresh hp
 by_cases hb:b=a
 ·subst hb;rw[QR]at e;cases e;exact new
 ·rw[Qx hb]at e
  exact(x b u e).stay (fun c v _ q=>k c v q) (fun c q=>by rw[Qx (ZM q hn)];exact q) fun c xs q=>by rw[Qx (ZM q hn)];exact q
end
def Rd (H:Hp)(a:Addr)(u:HO):Prop:=H a=some u\/∃o,H a=some (.frz o u)
theorem Rd.of {H:Hp}{a:Addr}{u:HO}(h:H a=some u):Rd H a u:=.inl h
theorem Rd.ok {P:Program}{w:World}{H:Hp}{h:Heap}{a:Addr}{u:HO}(r:Rd H a u)(x:HOk P w H h):Z7 P w H h a u:=by
 rcases r with r|⟨o,r⟩
 ·exact x a u r
 ·obtain⟨_,q⟩:=x a _ r
  exact q
def Mut:Option HO->Prop
 |some (.lst _)=>True
 |some (.dK _)=>True
 |some (.dT _)=>True
 |some (.set _ _)=>True
 |some (.ins _ _ _)=>True
 |some (.ext _)=>True
 |_=>False
section
variable {P:Program}{w:World}{H:Hp}{h h':Heap}{x e:Addr}{o':HO}
theorem HOk.write (ok:HOk P w H h)(mu:Mut (H x))(he:e=x\/H e=some (.own x))(k:∀b u,b≠e->h.get? b=some u->h'.get? b=some u)(heo:∃u,h'.get? e=some u)
 (new:Z7 P w (upd H x o') h' x o'):HOk P w (upd H x o') h':=fun b u q=>by
 have nown:∀c y,H c=some (.own y)->c≠x:=fun c y r z=>by subst z;rw[r]at mu;exact mu
 have ntup:∀c xs,H c=some (.tup xs)->c≠x:=fun c xs r z=>by subst z;rw[r]at mu;exact mu
 by_cases hb:b=x
 ·subst hb;rw[QR]at q;cases q;exact new
 ·rw[Qx hb]at q
  by_cases hbe:b=e
  ·have q':H b=some (.own x):=by
    rcases he with z|z
    ·exact Xl (hbe.trans z) hb
    ·rw[hbe];exact z
   rw[q]at q';cases q';obtain⟨v,hv⟩:=heo
   exact⟨v,by rw[hbe];exact hv⟩
  ·refine(ok b u q).stay (fun c v hc r=>k c v ?_ r) (fun c r=>by rw[Qx (nown c b r)];exact r) fun c xs r=>by rw[Qx (ntup c xs r)];exact r
   rcases hc with rfl|hc
   ·exact hbe
   ·rintro rfl
    rcases he with z|z
    ·exact nown c b hc z
    ·rw[hc]at z;cases z;exact hb rfl
end
structure Un (fs ex:Qg)(H H':Hp)(h h':Heap):Prop where
 keep:∀b o,h.get? b=some o->H b=none->b∉fs->b∉ex->h'.get? b=some o
 slot:∀b o,h.get? b=some o->H b=none->b∈fs->b∉ex->∃sl,h'.get? b=some { o with slots:=sl }
 free:∀b o,h.get? b=some o->H b=none->b∉ex->H' b=none
 there:∀b o,h.get? b=some o->b∉ex->∃o',h'.get? b=some o'
 tups:∀b xs,H b=some (.tup xs)->H' b=some (.tup xs)
 frzs:∀b o u,H b=some (.frz o u)->H' b=some (.frz o u)
 tupo:∀b xs o,H b=some (.tup xs)->h.get? b=some o->b∉ex->h'.get? b=some o
 tbls:∀b ps,H b=some (.tbl ps)->∃more,H' b=some (.tbl (ps++more))
section
variable {fs fs' ex ex':Qg}{H H1 H2:Hp}{h h1 h2 h':Heap}{a x e:Addr}{o:HO}
theorem Un.any (u:Un fs ex H H1 h h1){b:Addr}{ob:Obj}(q:h.get? b=some ob)(n:H b=none)(hx:b∉ex):∃sl,h1.get? b=some { ob with slots:=sl }:=by
 by_cases hb:b∈fs
 ·exact u.slot b ob q n hb hx
 ·exact⟨ob.slots,u.keep b ob q n hb hx⟩
theorem Un.kept (k:∀b u,h.get? b=some u->h'.get? b=some u):Un fs ex H H h h' :=
 ⟨fun b ob q _ _ _=>k b ob q,fun b ob q _ _ _=>⟨ob.slots,k b ob q⟩,fun _ _ _ n _=>n,fun b ob q _=>⟨ob,k b ob q⟩,fun _ _ q=>q,fun _ _ _ q=>q,fun b _ ob _ e _=>k b ob e,fun _ ps q=>⟨#[],by rw[q];simp⟩⟩
theorem Un.refl:Un fs ex H H h h:=Un.kept fun _ _ q=>q
theorem Un.laid (k:∀b u,h.get? b=some u->h'.get? b=some u)(hp:h.objs.size<=a)(hn:H a=none):Un fs ex H (upd H a o) h h' where
 keep:=fun b u q _ _ _=>k b u q
 slot:=fun b u q _ _ _=>⟨u.slots,k b u q⟩
 free:=fun b u q n _=>by rw[Qx (Xo (Xv (Xj q) hp))];exact n
 there:=fun b u q _=>⟨u,k b u q⟩
 tups:=fun b xs q=>by rw[Qx (ZM q hn)];exact q
 frzs:=fun b u xs q=>by rw[Qx (ZM q hn)];exact q
 tupo:=fun b _ ob _ e _=>k b ob e
 tbls:=fun b ps q=>⟨#[],by rw[Qx (ZM q hn),q];simp⟩
theorem Un.write (mu:Mut (H x))(he:e=x\/H e=some (.own x))(k:∀b u,b≠e->h.get? b=some u->h'.get? b=some u)(heo:∃u,h'.get? e=some u):Un fs ex H (upd H x o) h h':=by
 have hx:∀b,H b=none->b≠x:=fun b n z=>by subst z;rw[n]at mu;exact mu
 have hb:∀b,H b=none->b≠e:=fun b n z=>by
  subst z;rcases he with r|r
  ·exact hx b n r
  ·rw[n]at r;cases r
 have hm:∀b u,H b=some u->¬Mut (some u)->b≠x:=fun b u q nm z=>by subst z;rw[q]at mu;exact nm mu
 refine⟨fun b u q n _ _=>k b u (hb b n) q,fun b u q n _ _=>⟨u.slots,k b u (hb b n) q⟩,fun b u q n _=>by rw[Qx (hx b n)];exact n,fun b u q _=>?_,
  fun b xs q=>by rw[Qx (hm b _ q fun z=>z)];exact q,fun b u xs q=>by rw[Qx (hm b _ q fun z=>z)];exact q,fun b xs u q e' _=>k b u (fun z=>by
   rcases he with r|r
   ·exact hm b _ q (fun y=>y) (z.trans r)
   ·rw[<- z,q]at r;cases r) e',fun b ps q=>⟨#[],by rw[Qx (hm b _ q fun z=>z),q];simp⟩⟩
 by_cases hbe:b=e
 ·subst hbe;exact heo
 ·exact⟨u,k b u hbe q⟩
end
def trk (h:Heap)(H:Hp):Qg:=(List.range h.objs.size).filter fun a=>(H a).isSome
def WH (h:Heap)(H:Hp):Heap:=W.hideAll h (trk h H)
theorem IY (h:Heap)(H:Hp):(WH h H).objs.size=h.objs.size:=W.hideAll_size _ _
theorem EU {h:Heap}{H:Hp}{b:Addr}{o:Obj}(e:h.get? b=some o)(n:H b=none):(WH h H).get? b=some o :=
 W.hideAll_get _ e fun hm=>by
  have q:(H b).isSome=true:=(X6.mp hm).2
  rw[n]at q;simp at q
theorem Cg {h:Heap}{H:Hp}{b:Addr}{o:Obj}(e:(WH h H).get? b=some o):h.get? b=some o/\H b=none:=by
 have e':h.get? b=some o:=W.of_hideAll (trk h H) e
 refine⟨e',?_⟩
 cases q:H b with
 |none=>rfl
 |some x =>
   have hm:b∈trk h H:=X6.mpr ⟨Xr.mpr (Xj e'),by simp[q]⟩
   have z:(WH h H).get? b=none:=W.hideAll_none (trk h H) hm
   rw[z]at e;cases e
structure Mod (K:W.Frag)(mg:Str->Qf)(base:Heap):Prop where
 kin:K.In base
 glob:base.Ns mainGlobals mg
 blt:∃mb,base.Ns builtinsNs mb/\∀x:Str,x ≠ "__name__" -> mb x=bootBuiltins x
 nolimit:base.NoLimit
structure Cx where
 prog:Program
 w:World
 K:W.Frag
 mg:Str->Qf
 base:Heap
 A:Around
 N:Qh
 s₀:Shared
 H₀:Hp
 env:Env
 outer:List Env
 stack:List Env
 ex:Qg
 fn:Str->Bool
 calm:Bool
 pn:Qc
 xe:Qb
def frs (l:List Env):Qg:=l.filterMap (·.frame)
abbrev Cx.fs (X:Cx):Qg:=frs X.outer
def Vis (sc:Scope)(x:Str):Prop:=sc.names.lookup x=some .local\/sc.names.lookup x=some .cell\/sc.names.lookup x=some .free
def Loc (sc:Scope)(x:Str):Prop:=sc.names.lookup x=some .local\/sc.names.lookup x=some .cell
def LD (env:Env)(h:Heap)(m:Str->Qf)(x:Str)(u:Value):Prop :=
 (env.kindOf x=some .local/\m x=some u)\/((env.kindOf x=some .cell\/env.kindOf x=some .free)/\∃c,env.cells.lookup x=some c/\h.IsCell c (some u))
structure Cx.Ok (X:Cx):Prop where
 mod:Mod X.K X.mg X.base
 kind:X.env.scope.kind=.function
 glob:X.env.globals=mainGlobals
 blt:X.env.builtins=builtinsNs
 above:X.s₀.heap.objs.size<=X.env.locals
 inj:∀x y c,X.env.cells.lookup x=some c->X.env.cells.lookup y=some c->x=y
 has:∀x,(X.env.kindOf x=some .cell\/X.env.kindOf x=some .free)->∃c,X.env.cells.lookup x=some c
 cab:∀x c,X.fn x=true->X.env.cells.lookup x=some c->X.s₀.heap.objs.size<=c
 hd:X.calm=true->X.A.handled=none
 frames:X.A.frames=some X.stack
 stk:X.stack=X.outer\/(X.stack=X.env::X.outer/\X.env.frame=some X.env.locals)
 exf:∀b∈X.ex,b≠X.env.locals/\∀x c,X.env.cells.lookup x=some c->c≠b
 bs:∀b o,X.base.get? b=some o->X.s₀.heap.get? b=some o/\(X.H₀ b=none\/∃xs,X.H₀ b=some (.tup xs))
 bsz:X.base.objs.size<=X.s₀.heap.objs.size
 noex:∀b o,X.base.get? b=some o->b∉X.ex
 exfs:∀b∈X.ex,b∉X.fs
 funs:X.s₀.heap.FunFrames X.base X.outer
 frf:∀b∈X.fs,X.H₀ b=none
structure Qr (X:Cx)(Xbs:Qc)(σ:List (Option V))(H:Hp)(s:Shared):Prop where
 ok:X.Ok
 os:s.os=X.s₀.os
 bare:AllBare s.gens
 base:Un X.fs X.ex X.H₀ H X.s₀.heap s.heap
 loc:∃m,s.heap.Ns X.env.locals m/\∀(i:Nat) (x:Str) (v:V),X.N[i]?=some x->σ[i]?=some (some v)->Vis X.env.scope x->∃u,QK v u/\LD X.env s.heap m x u
 cell:∀x c,X.env.cells.lookup x=some c->∃v,s.heap.IsCell c v
 free:H X.env.locals=none
 freeC:∀x c,X.env.cells.lookup x=some c->H c=none
 pin:∀p∈X.pn++Xbs,s.heap.get? p.1=some p.2/\H p.1=none/\p.1≠X.env.locals/\p.1∉X.fs/\∀v,p.2.data≠.cell v
 hok:HOk X.prog X.w H s.heap
 len:σ.length=X.N.length
section
variable {X:Cx}{Xbs:Qc}{σ:List (Option V)}{H H':Hp}{s:Shared}{h':Heap}
theorem Cx.Ok.nofr (ok:X.Ok){b:Addr}{o:Obj}(e:X.base.get? b=some o):b∉X.fs:=fun hb=>by
 have:=(ok.funs.mem hb).1
 rw[e]at this;cases this
theorem Qr.bs (I:Qr X Xbs σ H s):∀b o,X.base.get? b=some o->s.heap.get? b=some o/\(H b=none\/∃xs,H b=some (.tup xs)):=fun b o e=>by
 obtain⟨e1,e2⟩:=I.ok.bs b o e
 rcases e2 with e2|⟨xs,e2⟩
 ·exact⟨I.base.keep b o e1 e2 (I.ok.nofr e) (I.ok.noex b o e),.inl (I.base.free b o e1 e2 (I.ok.noex b o e))⟩
 ·exact⟨I.base.tupo b xs o e2 e1 (I.ok.noex b o e),.inr ⟨xs,I.base.tups b xs e2⟩⟩
theorem Qr.bk (I:Qr X Xbs σ H s):∀b o,X.base.get? b=some o->s.heap.get? b=some o:=fun b o e=>(I.bs b o e).1
theorem Qr.mod (I:Qr X Xbs σ H s):Mod X.K X.mg X.base:=I.ok.mod
theorem Qr.kIn (I:Qr X Xbs σ H s):X.K.In s.heap:=I.ok.mod.kin.keeps I.bk
theorem Qr.fr (I:Qr X Xbs σ H s):∃m,Fr X.base X.env.locals s.heap m :=
 let ⟨m,hn,_⟩:=I.loc
 ⟨m,hn,I.bk,XN I.ok.bsz I.ok.above⟩
theorem Qr.lt (I:Qr X Xbs σ H s):X.env.locals<s.heap.objs.size:=let ⟨_,hn,_⟩:=I.loc;hn.lt
theorem Qr.sz (I:Qr X Xbs σ H s):X.s₀.heap.objs.size<=s.heap.objs.size:=XN I.ok.above (XZ I.lt)
theorem Qr.nofs (I:Qr X Xbs σ H s){a:Addr}(h:s.heap.objs.size<=a):a∉X.fs:=fun hb=>by
 obtain⟨_,o,ho,_⟩:=I.ok.funs.mem hb
 exact Xl (Xv (Xj ho) (XN I.sz h)) (Y5 _)
theorem Qr.cne (I:Qr X Xbs σ H s):∀x c,X.env.cells.lookup x=some c->c≠X.env.locals:=fun x c e z=>by
 obtain⟨v,o,ho,hd⟩:=I.cell x c e
 obtain⟨m,⟨o',es,ep,ho',hd',_⟩,_⟩:=I.loc
 rw[z,ho']at ho;cases ho;rw[hd']at hd;cases hd
theorem Qr.funs (I:Qr X Xbs σ H s):s.heap.FunFrames X.base X.outer:=by
 have all:∀(l:List Env),(∀b∈frs l,b∈X.fs)->X.s₀.heap.FunFrames X.base l->s.heap.FunFrames X.base l:=by
  intro l;induction l with
  |nil=>intro _ _;trivial
  |cons env r ih =>
    intro hs hl;obtain⟨hk,⟨L,o,hf,hn,ho,hd⟩,hr⟩:=hl
    have hL:L∈X.fs:=hs L (by unfold frs;rw[Gf,hf];exact Xd)
    obtain⟨sl,e⟩:=I.base.slot L o ho (I.ok.frf L hL) hL fun z=>I.ok.exfs L z hL
    exact⟨hk,⟨L,_,hf,hn,e,hd⟩,ih (fun b hb=>hs b (by unfold frs;rw[Gf,hf];exact Xe _ hb)) hr⟩
 exact all X.outer (fun _ hb=>hb) I.ok.funs
theorem Qr.stack (I:Qr X Xbs σ H s):s.heap.FunFrames X.base X.stack:=by
 rcases I.ok.stk with e|⟨e,hf⟩
 ·rw[e];exact I.funs
 ·rw[e]
  obtain⟨m,hn,_⟩:=I.loc
  refine .cons (by rw[I.ok.kind];decide) hf hn ?_ I.funs
  exact Heap.get?_none_of_le (XN I.ok.bsz I.ok.above)
theorem Qr.stkSub (I:Qr X Xbs σ H s):∀b∈frs X.stack,b∈X.env.locals::X.fs:=fun b hb=>by
 rcases I.ok.stk with e|⟨e,hf⟩
 ·rw[e]at hb;exact Xe _ hb
 ·rw[e]at hb
  unfold frs at hb;rw[Gf,hf]at hb;exact hb
theorem Qr.stkFree (I:Qr X Xbs σ H s):∀b∈frs X.stack,H b=none:=fun b hb=>by
 rcases Xg.mp (I.stkSub b hb) with e|hb
 ·rw[e];exact I.free
 ·obtain⟨_,o,ho,_⟩:=I.ok.funs.mem hb
  exact I.base.free b o ho (I.ok.frf b hb) fun z=>I.ok.exfs b z hb
theorem Qr.step {g':Array GenState}{t':Nat}{d':Drawn}{ch:Qg}(I:Qr X Xbs σ H s)
 (hch:∀b∈ch,(b∈X.ex\/X.s₀.heap.objs.size<=b)/\b≠X.env.locals/\(∀x c,X.env.cells.lookup x=some c->c≠b)/\∀p∈X.pn++Xbs,p.1≠b)
 (keep:∀b o,b≠X.env.locals->b∉X.fs->b∉ch->s.heap.get? b=some o->H b=none->h'.get? b=some o)
 (slot:∀b o,b≠X.env.locals->b∈X.fs->b∉ch->s.heap.get? b=some o->H b=none->∃sl,h'.get? b=some { o with slots:=sl }) (free:∀b o,b∉ch->s.heap.get? b=some o->H b=none->H' b=none)
 (there:∀b o,b∉ch->s.heap.get? b=some o->∃o',h'.get? b=some o')
 (tups:∀b xs,H b=some (.tup xs)->H' b=some (.tup xs)) (frzs:∀b o u,H b=some (.frz o u)->H' b=some (.frz o u)) (tbls:∀b ps,H b=some (.tbl ps)->∃more,H' b=some (.tbl (ps++more)))
 (ns:∀m,s.heap.Ns X.env.locals m->h'.Ns X.env.locals m) (hok:HOk X.prog X.w H' h') (hg:AllBare g') (tupo:∀b xs o,b∉ch->H b=some (.tup xs)->s.heap.get? b=some o->h'.get? b=some o) :
 Qr X Xbs σ H' { s with heap:=h',gens:=g',drawn:=d',toks:=t' }:=by
 have neL:∀b o,X.s₀.heap.get? b=some o->b≠X.env.locals:=fun b o e=>Xo (Xv (Xj e) I.ok.above)
 have neC:∀b o,X.s₀.heap.get? b=some o->b∉X.ex->b∉ch:=fun b o e hx hb=>by
  rcases(hch b hb).1 with z|z
  ·exact hx z
  ·exact Xl (Xv (Xj e) z) (Y5 _)
 have cellK:∀x c,X.env.cells.lookup x=some c->∀v,s.heap.IsCell c v->h'.IsCell c v:=fun x c e v ⟨o,ho,hd⟩=>by
  have nch:c∉ch:=fun z=>(hch c z).2.2.1 x c e rfl
  by_cases hc:c∈X.fs
  ·obtain⟨sl,q⟩:=slot c o (I.cne x c e) hc nch ho (I.freeC x c e)
   exact⟨_,q,hd⟩
  ·exact⟨o,keep c o (I.cne x c e) hc nch ho (I.freeC x c e),hd⟩
 refine⟨I.ok,I.os,hg,⟨fun b o e n hb hx=>?_,fun b o e n hb hx=>?_,fun b o e n hx=>?_,fun b o e hx=>?_,fun b xs e=>tups b xs (I.base.tups b xs e),fun b o xs e=>frzs b o xs (I.base.frzs b o xs e),fun b xs o q e hx=>tupo b xs o (neC b o e hx) (I.base.tups b xs q) (I.base.tupo b xs o q e hx),fun b ps e=>?_⟩,?_,fun x c e=>?_,?_,fun x c e=>?_,fun p hp=>?_,hok,I.len⟩
 ·exact keep b o (neL b o e) hb (neC b o e hx) (I.base.keep b o e n hb hx) (I.base.free b o e n hx)
 ·obtain⟨sl,e1⟩:=I.base.slot b o e n hb hx
  obtain⟨sl',e2⟩:=slot b _ (neL b o e) hb (neC b o e hx) e1 (I.base.free b o e n hx)
  exact⟨sl',e2⟩
 ·obtain⟨o',e1⟩:=I.base.there b o e hx
  exact free b o' (neC b o e hx) e1 (I.base.free b o e n hx)
 ·obtain⟨o',e1⟩:=I.base.there b o e hx
  exact there b o' (neC b o e hx) e1
 ·obtain⟨m1,e1⟩:=I.base.tbls b ps e
  obtain⟨m2,e2⟩:=tbls b _ e1
  exact⟨m1++m2,by rw[e2,Array.append_assoc]⟩
 ·obtain⟨m,hn,hl⟩:=I.loc
  refine⟨m,ns m hn,fun i x v e1 e2 e3=>?_⟩
  obtain⟨u,r,l⟩:=hl i x v e1 e2 e3
  refine⟨u,r,?_⟩
  rcases l with l|⟨k,c,e,z⟩
  ·exact .inl l
  ·exact .inr ⟨k,c,e,cellK x c e _ z⟩
 ·obtain⟨v,z⟩:=I.cell x c e
  exact⟨v,cellK x c e v z⟩
 ·obtain⟨m,⟨o,_,_,ho,_⟩,_⟩:=I.loc
  exact free _ o (fun z=>(hch _ z).2.1 rfl) ho I.free
 ·obtain⟨v,o,ho,hd⟩:=I.cell x c e
  exact free c o (fun z=>(hch c z).2.2.1 x c e rfl) ho (I.freeC x c e)
 ·obtain⟨e,n,ne,nf,d⟩:=I.pin p hp
  have nch:p.1∉ch:=fun z=>(hch p.1 z).2.2.2 p hp rfl
  exact⟨keep p.1 p.2 ne nf nch e n,free p.1 p.2 nch e n,ne,nf,d⟩
theorem Qr.un {t':Nat}(I:Qr X Xbs σ H s)(u:Un X.fs [] H H' s.heap h')(hok:HOk X.prog X.w H' h'):Qr X Xbs σ H' { s with heap:=h',toks:=t' }:=by
 obtain⟨m,⟨o,es,ep,ho,r⟩,_⟩:=id I.loc
 obtain⟨sl,hL⟩:=u.any ho I.free (by simp)
 exact I.step (g':=s.gens) (d':=s.drawn) (ch:=[]) (fun _ z=>nomatch z) (fun b o _ hb _ e n=>u.keep b o e n hb (by simp)) (fun b o _ hb _ e n=>u.slot b o e n hb (by simp)) (fun b o _ e n=>u.free b o e n (by simp)) (fun b o _ e=>u.there b o e (by simp)) u.tups u.frzs u.tbls (fun m' hm=>by
  obtain⟨o',es',ep',ho',r'⟩:=hm
  rw[ho]at ho';cases ho';exact⟨_,es',ep',hL,r'⟩) hok I.bare (fun b xs o _ q e=>u.tupo b xs o q e (by simp))
theorem Qr.call {g':Array GenState}{t':Nat}{d':Drawn}{ch:Qg}(I:Qr X Xbs σ H s)(u:Un (frs X.stack) ch H H' s.heap h')(hok:HOk X.prog X.w H' h')(hg:AllBare g')
 (hch:∀b∈ch,(b∈X.ex\/X.s₀.heap.objs.size<=b)/\b≠X.env.locals/\(∀x c,X.env.cells.lookup x=some c->c≠b)/\∀p∈X.pn++Xbs,p.1≠b) :
 Qr X Xbs σ H' { s with heap:=h',gens:=g',drawn:=d',toks:=t' }:=by
 obtain⟨m,⟨o,es,ep,ho,r⟩,_⟩:=id I.loc
 obtain⟨sl,hL⟩:=u.any ho I.free fun z=>(hch _ z).2.1 rfl
 exact I.step (ch:=ch) hch (fun b o hL hb hc e n=>u.keep b o e n (fun z=>(Xg.mp (I.stkSub b z)).elim hL hb) hc) (fun b o _ _ hc e n=>u.any e n hc) (fun b o hc e n=>u.free b o e n hc) (fun b o hc e=>u.there b o e hc) u.tups u.frzs u.tbls (fun m' hm=>by
  obtain⟨o',es',ep',ho',r'⟩:=hm
  rw[ho]at ho';cases ho';exact⟨_,es',ep',hL,r'⟩) hok hg (fun b xs o hc q e=>u.tupo b xs o q e hc)
theorem Qr.turned {t':Nat}{it:Addr}(I:Qr X Xbs σ H s)(k:∀b o,b≠it->s.heap.get? b=some o->h'.get? b=some o)(hn:H it=none)(hL:it≠X.env.locals)
 (h1:it∈X.ex\/X.s₀.heap.objs.size<=it) (h2:∀x c,X.env.cells.lookup x=some c->c≠it) (h3:∀p∈X.pn++Xbs,p.1≠it):Qr X Xbs σ H { s with heap:=h',toks:=t' }:=by
 have nit:∀b u,H b=some u->b≠it:=fun b u e z=>by rw[z,hn]at e;cases e
 refine I.step (g':=s.gens) (d':=s.drawn) (ch:=[it]) (fun b hb=>?_) (fun b o _ _ hc e _=>k b o (fun z=>hc (by simp[z])) e) (fun b o _ _ hc e _=>⟨o.slots,k b o (fun z=>hc (by simp[z])) e⟩) (fun _ _ _ _ n=>n)
  (fun b o hc e=>⟨o,k b o (fun z=>hc (by simp[z])) e⟩) (fun _ _ e=>e) (fun _ _ _ e=>e) (fun b ps e=>⟨#[],by rw[e];simp⟩) (fun m hm=>?_) (fun b u e=>?_) I.bare (fun b _ o hc _ e=>k b o (fun z=>hc (by simp[z])) e)
 ·have e:b=it:=by simpa using hb
  subst e;exact⟨h1,hL,h2,h3⟩
 ·obtain⟨o,es,ep,ho,r⟩:=hm
  exact⟨o,es,ep,k _ o (Ne.symm hL) ho,r⟩
 ·refine(I.hok b u e).stay (fun c v hc q=>k c v ?_ q) (fun _ q=>q) fun _ _ q=>q
  rcases hc with z|z
  ·rw[z];exact nit b u e
  ·exact nit c _ z
theorem Qr.tok (I:Qr X Xbs σ H s)(t:Nat):Qr X Xbs σ H { s with toks:=t }:=I.un (h':=s.heap) (t':=t) Un.refl I.hok
theorem Qr.kept {t':Nat}(I:Qr X Xbs σ H s)(k:∀b u,s.heap.get? b=some u->h'.get? b=some u):Qr X Xbs σ H { s with heap:=h',toks:=t' }:=I.un (Un.kept k) (I.hok.kept k)
theorem Qr.laid {a:Addr}{o:HO}{t':Nat}(I:Qr X Xbs σ H s)(k:∀b u,s.heap.get? b=some u->h'.get? b=some u)(hp:s.heap.objs.size<=a)(new:Z7 X.prog X.w (upd H a o) h' a o) :
 Qr X Xbs σ (upd H a o) { s with heap:=h',toks:=t' }:=I.un (Un.laid k hp (I.hok.fresh hp)) (I.hok.laid k hp new)
theorem Qr.write {x e:Addr}{o:HO}{t':Nat}(I:Qr X Xbs σ H s)(mu:Mut (H x))(he:e=x\/H e=some (.own x))(k:∀b u,b≠e->s.heap.get? b=some u->h'.get? b=some u)(heo:∃u,h'.get? e=some u)
 (new:Z7 X.prog X.w (upd H x o) h' x o):Qr X Xbs σ (upd H x o) { s with heap:=h',toks:=t' }:=I.un (Un.write mu he k heo) (I.hok.write mu he k heo new)
theorem Qr.weak {σ':List (Option V)}(I:Qr X Xbs σ H s)(hl:σ'.length=σ.length)(w:∀(i:Nat) v,σ'[i]?=some (some v)->σ[i]?=some (some v)):Qr X Xbs σ' H s :=
 ⟨I.ok,I.os,I.bare,I.base,let ⟨m,hn,hl'⟩:=I.loc;⟨m,hn,fun i x v e1 e2 e3=>hl' i x v e1 (w i v e2) e3⟩,I.cell,I.free,I.freeC,I.pin,I.hok,hl.trans I.len⟩
theorem Qr.pins_of {pins':Qc}(I:Qr X Xbs σ H s)(h:∀p∈pins',s.heap.get? p.1=some p.2/\H p.1=none/\p.1≠X.env.locals/\p.1∉X.fs/\∀v,p.2.data≠.cell v):Qr X pins' σ H s :=
 ⟨I.ok,I.os,I.bare,I.base,I.loc,I.cell,I.free,I.freeC,fun p hp=>(XG.mp hp).elim (fun z=>I.pin p (JA _ z)) (h p),I.hok,I.len⟩
theorem SV {N:Qh}(hN:N.Nodup){i j:Nat}{x:Str}(a:N[i]?=some x)(b:N[j]?=some x):i=j:=by
 obtain⟨h1,e1⟩:=Xh.mp a
 obtain⟨h2,e2⟩:=Xh.mp b
 exact(List.getElem_inj hN).mp (e1.trans e2.symm)
theorem Tn {M:Model}{A:Around}{E:Qb}{i:Nat}{x:Str}{v:V}{u:Value}{Q:Unit->Shared->Prop}(I:Qr X Xbs σ H s)(hN:X.N.Nodup)(hi:X.N[i]?=some x)(hx:Loc X.env.scope x)(r:QK v u)
 (h:∀s',Qr X Xbs (σ.set i (some v)) H s'->(∃a,Heap.SameBut a s.heap s'.heap/\(a=X.env.locals\/X.env.cells.lookup x=some a))->Q () s') (hf:X.fn x=true\/X.env.scope.names.lookup x=some .local:=by first|exact .inl rfl|exact .inr rfl|assumption):wpAny M A (storeName X.env x u) Q E s:=by
 obtain⟨m,hn,hl⟩:=id I.loc
 have hcls:(X.env.scope.kind==.class||(X.env.scope.kind==.module&&X.env.locals != X.env.globals))=false:=by rw[I.ok.kind];rfl
 have hiσ:i<σ.length:=by rw[I.len];exact(Xh.mp hi).1
 have cne:=I.cne
 have tracked:∀{a:Addr} {h':Heap},(∃o,s.heap.get? a=some o/\H a=none)->Heap.SameBut a s.heap h'->HOk X.prog X.w H h':=fun{a h'} ha hs b ob e=>by
  obtain⟨_,_,hfree⟩:=ha
  refine(I.hok b ob e).stay (fun c w' hc q=>(hs.2 c ?_).trans q) (fun _ q=>q) fun _ _ q=>q
  rintro rfl
  rcases hc with rfl|hc
  ·rw[hfree]at e;cases e
  ·rw[hfree]at hc;cases hc
 rcases hx with hk|hk
 ·refine wpAny_storeName_local hk hn (fun h' hn' hs=>?_) hcls
  obtain⟨oL,_,_,hoL,_⟩:=id hn
  refine h _ ⟨I.ok,I.os,I.bare,⟨fun b o e n hb hx=>?_,fun b o e n hb hx=>?_,I.base.free,fun b o e hx=>?_,I.base.tups,I.base.frzs,fun b xs o q e hx=>(hs.2 b (Xo (Xv (Xj e) I.ok.above))).trans (I.base.tupo b xs o q e hx),I.base.tbls⟩,⟨_,hn',fun j y v' e1 e2 e3=>?_⟩,fun y c e=>?_,I.free,I.freeC,fun p hp=>?_,tracked ⟨oL,hoL,I.free⟩ hs,by simpa using I.len⟩ ⟨_,hs,.inl rfl⟩
  ·exact(hs.2 b (Xo (Xv (Xj e) I.ok.above))).trans (I.base.keep b o e n hb hx)
  ·obtain⟨sl,e1⟩:=I.base.slot b o e n hb hx
   exact⟨sl,(hs.2 b (Xo (Xv (Xj e) I.ok.above))).trans e1⟩
  ·obtain⟨o',e1⟩:=I.base.there b o e hx
   exact⟨o',(hs.2 b (Xo (Xv (Xj e) I.ok.above))).trans e1⟩
  ·by_cases hj:j=i
   ·subst hj
    rw[hi]at e1;cases e1;rw[XU hiσ]at e2;cases e2
    exact⟨u,r,.inl ⟨hk,by simp⟩⟩
   ·rw[X0 (Ne.symm hj)]at e2
    obtain⟨u',r',q⟩:=hl j y v' e1 e2 e3
    refine⟨u',r',?_⟩
    rcases q with ⟨k,e⟩|⟨k,c,e,z⟩
    ·refine .inl ⟨k,?_⟩
     have:y≠x:=fun e=>hj (SV hN e1 (e▸hi))
     simp[this,e]
    ·exact .inr ⟨k,c,e,z.sameBut hs (cne y c e)⟩
  ·obtain⟨w',z⟩:=I.cell y c e
   exact⟨w',z.sameBut hs (cne y c e)⟩
  ·obtain⟨e,n,ne,nf,d⟩:=I.pin p hp
   exact⟨(hs.2 p.1 ne).trans e,n,ne,nf,d⟩
 ·have hfn:X.fn x=true:=by
   rcases hf with z|z
   ·exact z
   ·rw[z]at hk;cases hk
  obtain⟨c,hc⟩:=I.ok.has x (.inl hk)
  obtain⟨w',z⟩:=I.cell x c hc
  refine wpAny_storeName_cell I.ok.kind hk hc z (fun h' hc' hs=>?_)
  obtain⟨oc,hoc,hocd⟩:=id z
  refine h { s with heap:=h' } ⟨I.ok,I.os,I.bare,⟨fun b o e n hb hx=>?_,fun b o e n hb hx=>?_,I.base.free,fun b o e hx=>?_,I.base.tups,I.base.frzs,fun b xs o q e hx=>(hs.2 b (Xo (Xv (Xj e) (I.ok.cab x c hfn hc)))).trans (I.base.tupo b xs o q e hx),I.base.tbls⟩,⟨m,hn.sameBut hs (Ne.symm (cne x c hc)),fun j y v' e1 e2 e3=>?_⟩,fun y c' e=>?_,I.free,I.freeC,fun p hp=>?_,tracked ⟨oc,hoc,I.freeC x c hc⟩ hs,by simpa using I.len⟩ ⟨c,hs,.inr hc⟩
  ·exact(hs.2 b (Xo (Xv (Xj e) (I.ok.cab x c hfn hc)))).trans (I.base.keep b o e n hb hx)
  ·obtain⟨sl,e1⟩:=I.base.slot b o e n hb hx
   exact⟨sl,(hs.2 b (Xo (Xv (Xj e) (I.ok.cab x c hfn hc)))).trans e1⟩
  ·obtain⟨o',e1⟩:=I.base.there b o e hx
   exact⟨o',(hs.2 b (Xo (Xv (Xj e) (I.ok.cab x c hfn hc)))).trans e1⟩
  ·by_cases hj:j=i
   ·subst hj
    rw[hi]at e1;cases e1;rw[XU hiσ]at e2;cases e2
    exact⟨u,r,.inr ⟨.inl hk,c,hc,hc'⟩⟩
   ·rw[X0 (Ne.symm hj)]at e2
    obtain⟨u',r',q⟩:=hl j y v' e1 e2 e3
    refine⟨u',r',?_⟩
    rcases q with q|⟨k,c',e,z'⟩
    ·exact .inl q
    ·refine .inr ⟨k,c',e,z'.sameBut hs ?_⟩
     rintro rfl
     exact hj (SV hN e1 (I.ok.inj _ _ _ e hc▸hi))
  ·by_cases hcc:c'=c
   ·subst hcc;exact⟨_,hc'⟩
   ·obtain⟨w2,z2⟩:=I.cell y c' e
    exact⟨w2,z2.sameBut hs hcc⟩
  ·obtain⟨e,n,ne,nf,d⟩:=I.pin p hp
   refine⟨(hs.2 p.1 ?_).trans e,n,ne,nf,d⟩
   intro q;rw[q,hoc]at e;have q':oc=p.2:=Option.some.inj e
   exact d w' (by rw[<- q'];exact hocd)
theorem HG {M:Model}{A:Around}{E:Qb}{i:Nat}{x:Str}{v:V}{u:Value}{Q:Unit->Shared->Prop}(I:Qr X Xbs σ H s)(hN:X.N.Nodup)(hi:X.N[i]?=some x)(hx:Loc X.env.scope x)(r:QK v u)
 (h:∀s',Qr X Xbs (σ.set i (some v)) H s'->Q () s') (hf:X.fn x=true\/X.env.scope.names.lookup x=some .local:=by first|exact .inl rfl|exact .inr rfl|assumption):wpAny M A (storeName X.env x u) Q E s :=
 Tn I hN hi hx r (fun s' I' _=>h s' I') hf
theorem Qr.call' {s':Shared}{ch:Qg}(I:Qr X Xbs σ H s)(ho:s'.os=s.os)(u:Un (frs X.stack) ch H H' s.heap s'.heap)(hok:HOk X.prog X.w H' s'.heap)(hg:AllBare s'.gens)
 (hch:∀b∈ch,(b∈X.ex\/X.s₀.heap.objs.size<=b)/\b≠X.env.locals/\(∀x c,X.env.cells.lookup x=some c->c≠b)/\∀p∈X.pn++Xbs,p.1≠b):Qr X Xbs σ H' s':=by
 obtain⟨h',g',d',t',o'⟩:=s'
 have e:o'=s.os:=ho
 subst e;exact I.call (g':=g') (t':=t') (d':=d') u hok hg hch
end
abbrev XK:=Value->Qj->Hp->Prop
abbrev St:=List (Option V)
abbrev VK:=V->Hp->Prop
abbrev TE:=St->Hp->VK->Prop
abbrev TT:=St->Hp->(Bool->Hp->Prop)->Prop
abbrev TA:=St->Hp->(List V->Hp->Prop)->Prop
structure Ends where
 nx:St->Hp->Prop
 rt:VK
 bk:St->Hp->Prop:=fun _ _=>False
 ct:St->Hp->Prop:=fun _ _=>False
abbrev TS:=Ends->St->Hp->Prop
def EP (X:Cx)(Xbs:Qc)(σ:St)(Q:VK)(u:Value)(s':Shared):Prop := ∃v H',Qr X Xbs σ H' s'/\QK v u/\Q v H'
def TP (X:Cx)(Xbs:Qc)(σ:St)(Q:Bool->Hp->Prop)(b:Bool)(s':Shared):Prop := ∃H',Qr X Xbs σ H' s'/\Q b H'
def AP (X:Cx)(Xbs:Qc)(σ:St)(Q:List V->Hp->Prop)(us:Qe)(s':Shared):Prop := ∃vs H',Qr X Xbs σ H' s'/\QP vs us/\Q vs H'
def SP (X:Cx)(Xbs:Qc)(D:Ends)(f:Flow)(s':Shared):Prop :=
 match f with
 |.next=>∃σ' H',Qr X Xbs σ' H' s'/\D.nx σ' H'
 |.brk=>∃σ' H',Qr X Xbs σ' H' s'/\D.bk σ' H'
 |.cont=>∃σ' H',Qr X Xbs σ' H' s'/\D.ct σ' H'
 |.ret u=>∃v σ' H',Qr X Xbs σ' H' s'/\QK v u/\D.rt v H'
def PE (X:Cx)(e:Expr)(t:TE):Prop :=
 ∀(Xbs:Qc) (s:Shared) (σ:St) (H:Hp) (Q:VK),Qr X Xbs σ H s->t σ H Q->wpAny (model X.prog X.w) X.A (eval e X.env) (EP X Xbs σ Q) X.xe s
def PT (X:Cx)(e:Expr)(t:TT):Prop :=
 ∀(Xbs:Qc) (s:Shared) (σ:St) (H:Hp) (Q:Bool->Hp->Prop),Qr X Xbs σ H s->t σ H Q->wpAny (model X.prog X.w) X.A (isTrue e X.env (eval e X.env)) (TP X Xbs σ Q) X.xe s
def PW (X:Cx)(e:Expr)(t:TT):Prop :=
 ∀(whole:Sem Value) (Xbs:Qc) (s:Shared) (σ:St) (H:Hp) (Q:Bool->Hp->Prop),Qr X Xbs σ H s->t σ H Q->wpAny (model X.prog X.w) X.A (isTrue e X.env whole) (TP X Xbs σ Q) X.xe s
theorem PW.pt {X:Cx}{e:Expr}{t:TT}(h:PW X e t):PT X e t:=h _
def PA (X:Cx)(es:Qi)(t:TA):Prop :=
 ∀(pos:Pos) (Xbs:Qc) (s:Shared) (σ:St) (H:Hp) (Q:List V->Hp->Prop),Qr X Xbs σ H s->t σ H Q->wpAny (model X.prog X.w) X.A (spliced (backTo pos (starEach es X.env))) (AP X Xbs σ Q) X.xe s
def PS (X:Cx)(st:Stmt)(t:TS):Prop :=
 ∀(Xbs:Qc) (s:Shared) (σ:St) (H:Hp) (D:Ends),Qr X Xbs σ H s->t D σ H->wpAny (model X.prog X.w) X.A (exec st X.env) (SP X Xbs D) X.xe s
def PSs (X:Cx)(st:List Stmt)(t:TS):Prop :=
 ∀(Xbs:Qc) (s:Shared) (σ:St) (H:Hp) (D:Ends),Qr X Xbs σ H s->t D σ H->wpAny (model X.prog X.w) X.A (execs st X.env) (SP X Xbs D) X.xe s
theorem Q8 {α:Type}{t:Sem α}{Q Q':α->Shared->Prop}{M:Model}{A:Around}{E:Qb}{s:Shared}(h:wpAny M A t Q E s)(hQ:∀a s,Q a s->Q' a s):wpAny M A t Q' E s:=wpAny_mono h hQ fun _ _ x=>x
section
variable {X:Cx}
def Zc (i:Nat):TE:=fun σ H Q=>∃v,σ[i]?=some (some v)/\Q v H
def tC (v:V):TE:=fun _ H Q=>Q v H
theorem RN {i:Nat} {x:Str} {pos:Pos} (hN:X.N[i]?=some x) (hv:Vis X.env.scope x) (hd:(x==("__debug__" : Str))=false:=by decide) (hcd:(x==("__classdict__" : Str))=false:=by decide):PE X (.Name x pos) (Zc i):=by
 intro Xbs s σ H Q I h;obtain⟨v,e,h⟩:=h
 obtain⟨m,hn,hl⟩:=I.loc
 obtain⟨u,r,l⟩:=hl i x v hN e hv
 have fin:EP X Xbs σ Q u s:=⟨v,H,I,r,h⟩
 rcases l with ⟨hk,hm⟩|⟨hk,c,hc,hcell⟩
 ·exact wpAny_Name (wpAny_loadName_local I.ok.kind hk hn hm fin) hd
 ·rcases hk with hk|hk
  ·exact wpAny_Name (wpAny_loadName_cell I.ok.kind hk hc hcell fin) hd
  ·exact wpAny_Name (wpAny_loadName_free I.ok.kind hk hc hcell fin hcd) hd
theorem Qy {i j pos}:PE X (.Constant (.int i) j pos) (tC (.int i)):=fun _ _ _ H _ I h=>wpAny_Constant_int ⟨.int i,H,I.tok _,⟨_,rfl⟩,h⟩
theorem L6 {b j pos}:PE X (.Constant (.bool b) j pos) (tC (.bl b)):=fun _ _ _ H _ I h=>Constant_bool ⟨.bl b,H,I,rfl,h⟩
theorem GD {j pos}:PE X (.Constant .none j pos) (tC .non):=fun _ _ _ H _ I h=>Constant_none ⟨.non,H,I,rfl,h⟩
theorem DY {x j pos}:PE X (.Constant (.str x) j pos) (tC (.str x)):=fun _ _ _ H _ I h=>Calls.Constant_str ⟨.str x,H,I.tok _,⟨_,rfl⟩,h⟩
def Gl (X:Cx)(x:Str):Prop:=X.env.kindOf x=some .globalImplicit
theorem UO {E:Qb}{Xbs:Qc}{s:Shared}{σ:St}{H:Hp}{x:Str}{u:Value}{pos:Pos}{Q:Qb}(I:Qr X Xbs σ H s)(hg:Gl X x)(hm:X.mg x=some u)(h:Q u s)
 (hd:(x==("__debug__" : Str))=false:=by decide):wpAny (model X.prog X.w) X.A (eval (.Name x pos) X.env) Q E s :=
 Calls.Name_function_global I.ok.kind hg (Calls.loadGlobal_global (by rw[I.ok.glob];exact I.mod.glob.keeps I.bk) hm h) hd
theorem Jt {E:Qb}{Xbs:Qc}{s:Shared}{σ:St}{H:Hp}{x:Str}{u:Value}{pos:Pos}{Q:Qb}(I:Qr X Xbs σ H s)(hg:Gl X x)(hm:X.mg x=none)(hv:bootBuiltins x=some u)(h:Q u s)
 (hn:x ≠ "__name__" := by decide) (hd:(x==("__debug__" : Str))=false:=by decide):wpAny (model X.prog X.w) X.A (eval (.Name x pos) X.env) Q E s:=by
 obtain⟨mb,h1,h2⟩:=I.mod.blt
 exact Calls.Name_function_global I.ok.kind hg (Calls.loadGlobal_builtin (by rw[I.ok.glob];exact I.mod.glob.keeps I.bk) hm (by rw[I.ok.blt];exact h1.keeps I.bk) ((h2 x hn).trans hv) h) hd
theorem GI {x:Str} {v:V} {u:Value} {pos:Pos} (hg:Gl X x) (hm:X.mg x=some u) (r:QK v u) (hd:(x==("__debug__" : Str))=false:=by decide):PE X (.Name x pos) (tC v) :=
 fun _ _ _ H _ I h=>UO I hg hm ⟨v,H,I,r,h⟩ hd
theorem SN {x:Str} {v:V} {u:Value} {pos:Pos} (hg:Gl X x) (hm:X.mg x=none) (hv:bootBuiltins x=some u) (r:QK v u) (hn:x ≠ "__name__" := by decide) (hd:(x==("__debug__" : Str))=false:=by decide):PE X (.Name x pos) (tC v) :=
 fun _ _ _ H _ I h=>Jt I hg hm hv ⟨v,H,I,r,h⟩ hn hd
variable {a b:Expr}{ta tb:TE}{pos:Pos}
def PC (X:Cx)(op:CmpOp)(a b:Expr)(t:TE):Prop :=
 ∀(Xbs:Qc) (s:Shared) (σ:St) (H:Hp) (Q:VK),Qr X Xbs σ H s->t σ H Q ->
  wpAny (model X.prog X.w) X.A (eval a X.env) (fun v b7=>wpAny (model X.prog X.w) X.A (eval b X.env) (fun u b8=>wpAny (model X.prog X.w) X.A (compareOp op v u) (EP X Xbs σ Q) X.xe b8) X.xe b7) X.xe s
theorem Pk (b:Expr){op:CmpOp}(h:op≠.In)(h2:op≠.NotIn):behindInMarks op b=false:=by
 have e1:(op==CmpOp.In)=false:=by cases op<;>first|rfl|exact Xl rfl h
 have e2:(op==CmpOp.NotIn)=false:=by cases op<;>first|rfl|exact Xl rfl h2
 cases b<;>simp[behindInMarks,e1,e2]
def Bv (ta:TE):TE:=fun σ H Q=>ta σ H fun x H1=>Q (.bl (decide (x=.non))) H1
def NE (ta:TE):TE:=fun σ H Q=>ta σ H fun x H1=>Q (.bl (!decide (x=.non))) H1
theorem QK.none_iff {x:V}{v:Value}(r:QK x v):(v==Value.none)=decide (x=.non):=by
 cases x with
 |non=>cases r;rfl
 |bl _=>cases r;rfl
 |int _=>obtain⟨t,rfl⟩:=r;rfl
 |str _=>obtain⟨t,rfl⟩:=r;rfl
 |byt _=>obtain⟨t,rfl⟩:=r;rfl
 |flt _=>obtain⟨t,rfl⟩:=r;rfl
 |ref _=>cases r;rfl
 |ty _=>cases r;rfl
theorem DV {j pos'}(ha:PE X a ta):PC X .Is a (.Constant .none j pos') (Bv ta):=by
 intro Xbs s σ H Q I h;refine Q8 (ha Xbs s σ H _ I h) fun v s1 ⟨x,H1,I1,r1,q1⟩=>?_
 exact Constant_none (is_none_gen ⟨.bl _,H1,I1,by rw[r1.none_iff];rfl,q1⟩)
theorem C8 {j pos'}(ha:PE X a ta):PC X .IsNot a (.Constant .none j pos') (NE ta):=by
 intro Xbs s σ H Q I h;refine Q8 (ha Xbs s σ H _ I h) fun v s1 ⟨x,H1,I1,r1,q1⟩=>?_
 exact Constant_none (isnot_none_gen ⟨.bl _,H1,I1,by rw[r1.none_iff];rfl,q1⟩)
def tB (t:TE):TT:=fun σ H Q=>t σ H fun x H1=>∃c,x=.bl c/\Q c H1
theorem RY {op:CmpOp}{t:TE}(h:PC X op a b t)(h1:behindInMarks op b=false:=by first|exact Pk _ (by decide) (by decide)|rfl):PE X (.Compare a [op] [b] pos) t:=fun Xbs s σ H Q I hw=>wpAny_Compare1 (h Xbs s σ H Q I hw) h1
theorem UG {op:CmpOp}{t:TE}(h:PC X op a b t)(h1:behindInMarks op b=false:=by first|exact Pk _ (by decide) (by decide)|rfl):PT X (.Compare a [op] [b] pos) (tB t):=by
 intro Xbs s σ H Q I hw;refine wpAny_isTrue_Compare1 (Q8 (h Xbs s σ H _ I hw) fun v s1 h1=>Q8 h1 fun u s2 h2=>Q8 h2 fun c s3 ⟨x,H1,I1,r1,q1⟩=>?_) h1
 obtain⟨d,rfl,q⟩:=q1
 cases r1
 exact wpAny_truthy_bool ⟨H1,I1,q⟩
theorem DI {e:Expr}{t:TE}(h:PE X e t)(he:∀whole,isTrue e X.env whole=(do let v <- whole;standAt e.pos;holding [v] (truthy v)):=by intro _;rfl):PT X e (tB t):=by
 intro Xbs s σ H Q I hw;refine isTrue_plain (Q8 (h Xbs s σ H _ I hw) fun v s1 ⟨x,H1,I1,r1,q1⟩=>?_) (he _)
 obtain⟨d,rfl,q⟩:=q1
 cases r1
 exact wpAny_truthy_bool ⟨H1,I1,q⟩
variable {tA tB':TT}{rest:Qi}
def Nu (t u:TT):TT:=fun σ H Q=>t σ H fun c H1=>if c=true then u σ H1 Q else Q false H1
def tOr (t u:TT):TT:=fun σ H Q=>t σ H fun c H1=>if c=true then Q true H1 else u σ H1 Q
theorem Sr (ha:PT X a tA):PW X (.BoolOp .And [a] pos) tA:=by
 intro wh Xbs s σ H Q I h;refine isTrue_and (Q8 (ha Xbs s σ H Q I h) fun c s1 e=>?_)
 cases c with
 |true=>exact isTrue_and_nil e
 |false=>exact e
theorem LR (ha:PT X a tA):PW X (.BoolOp .Or [a] pos) tA:=by
 intro wh Xbs s σ H Q I h;refine isTrue_or (Q8 (ha Xbs s σ H Q I h) fun c s1 e=>?_)
 cases c with
 |false=>exact isTrue_or_nil e
 |true=>exact e
theorem RT (ha:PT X a tA)(hb:PW X (.BoolOp .And (b::rest) pos) tB'):PW X (.BoolOp .And (a::b::rest) pos) (Nu tA tB'):=by
 intro wh Xbs s σ H Q I h;refine isTrue_and (Q8 (ha Xbs s σ H _ I h) fun c s1 ⟨H1,I1,q1⟩=>?_)
 cases c with
 |true=>exact hb wh Xbs s1 σ H1 Q I1 q1
 |false=>exact⟨H1,I1,q1⟩
theorem NJ (ha:PT X a tA)(hb:PW X (.BoolOp .Or (b::rest) pos) tB'):PW X (.BoolOp .Or (a::b::rest) pos) (tOr tA tB'):=by
 intro wh Xbs s σ H Q I h;refine isTrue_or (Q8 (ha Xbs s σ H _ I h) fun c s1 ⟨H1,I1,q1⟩=>?_)
 cases c with
 |true=>exact⟨H1,I1,q1⟩
 |false=>exact hb wh Xbs s1 σ H1 Q I1 q1
def NK (ta tb:TE):TE:=fun σ H Q=>ta σ H fun x H1=>∃c,x=.bl c/\if c=true then tb σ H1 Q else Q (.bl false) H1
def NP (ta:TE):TE:=fun σ H Q=>ta σ H fun x H1=>∃c,x=.bl c/\Q (.bl (!c)) H1
theorem DJ {op}{t:TE}(h:PE X a t):PE X (.BoolOp op [a] pos) t:=fun Xbs s σ H Q I hw=>BoolOp_one (h Xbs s σ H Q I hw)
theorem Hb (ha:PE X a ta)(hb:PE X (.BoolOp .And (b::rest) pos) tb):PE X (.BoolOp .And (a::b::rest) pos) (NK ta tb):=by
 intro Xbs s σ H Q I h;refine BoolOp_and (Q8 (ha Xbs s σ H _ I h) fun v s1 ⟨x,H1,I1,r1,q1⟩=>?_)
 obtain⟨c,rfl,q1⟩:=q1
 cases r1
 refine wpAny_truthy_bool ?_
 cases c with
 |true=>exact hb Xbs s1 σ H1 Q I1 q1
 |false=>exact⟨.bl false,H1,I1,rfl,q1⟩
theorem Fv (ha:PE X a ta):PE X (.UnaryOp .Not a pos) (NP ta):=by
 intro Xbs s σ H Q I h;refine UnaryOp_ (Q8 (ha Xbs s σ H _ I h) fun v s1 ⟨x,H1,I1,r1,q1⟩=>?_)
 obtain⟨c,rfl,q1⟩:=q1
 cases r1
 exact not_of (wpAny_truthy_bool ⟨.bl (!c),H1,I1,rfl,q1⟩)
end
def SqL (K:W.Frag)(H:Hp)(a:Addr)(xs:List V):Prop :=
 Rd H a (.lst xs) \/
  ∃(o:Obj) (its:Array Value) (n:Nat),K.lookup a=some o/\o.cls=.type "list" /\ o.dict=none/\o.data=.seq its n/\its.size<=sizeLine/\QP xs its.toList
def SqT (K:W.Frag)(H:Hp)(a:Addr)(xs:List V):Prop :=
 Rd H a (.tup xs) \/
  ∃(o:Obj) (its:Array Value) (n:Nat),K.lookup a=some o/\o.cls=.type "tuple" /\ o.data=.seq its n/\its.size<=sizeLine/\QP xs its.toList
def LF:Value->Option V
 |.none=>some .non
 |.bool b=>some (.bl b)
 |.int i _=>some (.int i)
 |.str x _=>some (.str x)
 |.bytes b _=>some (.byt b)
 |.float b _=>some (.flt b)
 |.ref a=>some (.ref a)
 |.type n=>some (.ty n)
 |_=>none
theorem QK.abs {x:V}{u:Value}(r:QK x u):LF u=some x:=by
 cases x with
 |non=>cases r;rfl
 |bl _=>cases r;rfl
 |int _=>obtain⟨t,rfl⟩:=r;rfl
 |str _=>obtain⟨t,rfl⟩:=r;rfl
 |byt _=>obtain⟨t,rfl⟩:=r;rfl
 |flt _=>obtain⟨t,rfl⟩:=r;rfl
 |ref _=>cases r;rfl
 |ty _=>cases r;rfl
theorem QK.inj {x y:V}{u:Value}(r:QK x u)(q:QK y u):x=y:=Option.some.inj (r.abs.symm.trans q.abs)
theorem QP.inj:∀{xs ys:List V} {us:Qe},QP xs us->QP ys us->xs=ys
 |_,_,_,.nil,.nil=>rfl
 |_,_,_,.cons r t,.cons r' t'=>by rw[r.inj r',QP.inj t t']
section
variable {X:Cx}{Xbs:Qc}{σ:St}{H:Hp}{s:Shared}{a:Addr}{xs ys:List V}
theorem SqL.of {K:W.Frag}(h:H a=some (.lst xs)):SqL K H a xs:=.inl (.inl h)
theorem SqT.of {K:W.Frag}(h:H a=some (.tup xs)):SqT K H a xs:=.inl (.inl h)
theorem Qr.list (I:Qr X Xbs σ H s)(h:SqL X.K H a xs):∃its:Qe,QP xs its/\PlainL s.heap a its.toArray/\xs.length<=sizeLine:=by
 rcases h with h|⟨o,its,n,hk,hc,hd,hs,hz,r⟩
 ·obtain⟨z,its,n,r,e⟩:=h.ok I.hok
  exact⟨its,r,⟨_,n,e,rfl,rfl,rfl⟩,z⟩
 ·refine⟨its.toList,r,⟨o,n,I.kIn a o hk,hc,hd,by simpa using hs⟩,?_⟩
  have e:=r.length
  simp only[Array.length_toList]at e;omega
theorem Qr.tuple (I:Qr X Xbs σ H s)(h:SqT X.K H a xs):∃its:Qe,QP xs its/\IsTup s.heap a its.toArray/\xs.length<=sizeLine:=by
 rcases h with h|⟨o,its,n,hk,hc,hs,hz,r⟩
 ·obtain⟨z,its,r,p⟩:=h.ok I.hok
  exact⟨its,r,p,z⟩
 ·refine⟨its.toList,r,⟨o,I.kIn a o hk,hc,n,by simpa using hs⟩,?_⟩
  have e:=r.length
  simp only[Array.length_toList]at e;omega
theorem Qr.list_inj (I:Qr X Xbs σ H s)(h:SqL X.K H a xs)(h':SqL X.K H a ys):xs=ys:=by
 obtain⟨its,r,⟨o,n,e,_,_,d⟩,_⟩:=I.list h
 obtain⟨its',r',⟨o',n',e',_,_,d'⟩,_⟩:=I.list h'
 rw[e]at e';cases e';rw[d]at d';injection d' with d1 _
 have:its=its':=by simpa using ZD Array.toList d1
 subst this;exact r.inj r'
theorem Qr.tuple_inj (I:Qr X Xbs σ H s)(h:SqT X.K H a xs)(h':SqT X.K H a ys):xs=ys:=by
 obtain⟨its,r,⟨o,e,_,n,d⟩,_⟩:=I.tuple h
 obtain⟨its',r',⟨o',e',_,n',d'⟩,_⟩:=I.tuple h'
 rw[e]at e';cases e';rw[d]at d';injection d' with d1 _
 have:its=its':=by simpa using ZD Array.toList d1
 subst this;exact r.inj r'
end
abbrev Cx.wish (X:Cx)(E:Qb):Cx:={ X with xe:=E }
abbrev Cx.nox (X:Cx):Cx:=X.wish fun _ _=>False
theorem Cx.Ok.wish {X:Cx}(ok:X.Ok)(E:Qb):(X.wish E).Ok :=
 ⟨ok.mod,ok.kind,ok.glob,ok.blt,ok.above,ok.inj,ok.has,ok.cab,ok.hd,ok.frames,ok.stk,ok.exf,ok.bs,ok.bsz,ok.noex,ok.exfs,ok.funs,ok.frf⟩
theorem Cx.Ok.unwish {X:Cx}{E:Qb}(ok:(X.wish E).Ok):X.Ok :=
 ⟨ok.mod,ok.kind,ok.glob,ok.blt,ok.above,ok.inj,ok.has,ok.cab,ok.hd,ok.frames,ok.stk,ok.exf,ok.bs,ok.bsz,ok.noex,ok.exfs,ok.funs,ok.frf⟩
section
variable {X:Cx}{Xbs:Qc}{σ:St}{H:Hp}{s:Shared}{E:Qb}
theorem Qr.wish (I:Qr X Xbs σ H s)(E:Qb):Qr (X.wish E) Xbs σ H s:=⟨I.ok.wish E,I.os,I.bare,I.base,I.loc,I.cell,I.free,I.freeC,I.pin,I.hok,I.len⟩
theorem Qr.unwish (I:Qr (X.wish E) Xbs σ H s):Qr X Xbs σ H s:=⟨I.ok.unwish,I.os,I.bare,I.base,I.loc,I.cell,I.free,I.freeC,I.pin,I.hok,I.len⟩
theorem SP.unwish {D:Ends}{f:Flow}{s':Shared}(h:SP (X.wish E) Xbs D f s'):SP X Xbs D f s':=by
 cases f with
 |next=>obtain⟨σ',H',I,q⟩:=h;exact⟨σ',H',I.unwish,q⟩
 |brk=>obtain⟨σ',H',I,q⟩:=h;exact⟨σ',H',I.unwish,q⟩
 |cont=>obtain⟨σ',H',I,q⟩:=h;exact⟨σ',H',I.unwish,q⟩
 |ret u=>obtain⟨v,σ',H',I,r,q⟩:=h;exact⟨v,σ',H',I.unwish,r,q⟩
theorem PSs.nox {st:List Stmt}{t:TS}(h:PSs X.nox st t):PSs X st t:=fun Xbs s σ H D I hw =>
 wpAny_mono (h Xbs s σ H D (I.wish _) hw) (fun _ _ q=>q.unwish) fun _ _ z=>False.elim z
end
section
variable {X:Cx}{st:Stmt}{rest:List Stmt}{t u:TS}{e:Expr}{te:TE}{pos:Pos}
def Ra:TS:=fun D σ H=>D.nx σ H
def U2 (t u:TS):TS:=fun D σ H=>t { D with nx:=u D } σ H
theorem Yb:PSs X [] Ra:=fun _ _ σ H _ I h=>wpAny_execs_nil ⟨σ,H,I,h⟩
theorem Q2 (h1:PS X st t)(h2:PSs X rest u):PSs X (st::rest) (U2 t u):=by
 intro Xbs s σ H D I h;refine wpAny_execs_cons (Q8 (h1 Xbs s σ H { D with nx:=u D } I h) fun f s1 q=>?_)
 cases f with
 |next =>
   obtain⟨σ',H',I',q⟩:=q
   exact h2 Xbs s1 σ' H' D I' q
 |ret v=>exact q
 |brk=>exact q
 |cont=>exact q
theorem QB (h1:PS X st t):PSs X [st] t:=by
 intro Xbs s σ H D I h;refine wpAny_execs_cons (Q8 (h1 Xbs s σ H D I h) fun f s1 q=>?_)
 cases f with
 |next=>exact wpAny_execs_nil q
 |ret v=>exact q
 |brk=>exact q
 |cont=>exact q
theorem Qr.quiet {Xbs:Qc}{σ:St}{H:Hp}{s:Shared}(I:Qr X Xbs σ H s):interactive X.env=false:=by simp[interactive,I.ok.kind]
def Wa (te:TE):TS:=fun D σ H=>te σ H fun _ H1=>D.nx σ H1
theorem ZV (he:PE X e te)(hs:swapsWith e none pos.line X.env=pure false:=by rfl):PS X (.Expr e pos) (Wa te):=by
 intro Xbs s σ H D I h;exact wpAny_Expr_any (Q8 (he Xbs s σ H _ I h) fun v s1 ⟨x,H1,I1,r1,q1⟩=>⟨σ,H1,I1,q1⟩) I.quiet hs
def UA (te:TE):TS:=fun D σ H=>te σ H D.rt
theorem QV (he:PE X e te):PS X (.Return (some e) pos) (UA te):=by
 intro Xbs s σ H D I h;exact wpAny_Return_some (Q8 (he Xbs s σ H _ I h) fun v s1 ⟨x,H1,I1,r1,q1⟩=>⟨x,σ,H1,I1,r1,q1⟩)
def Dh (c:TT)(t u:TS):TS:=fun D σ H=>c σ H fun b H1=>if b=true then t D σ H1 else u D σ H1
theorem VW {c:Expr}{a b:List Stmt}{tc:TT}(hc:PT X c tc)(ha:PSs X a t)(hb:PSs X b u):PS X (.If c a b pos) (Dh tc t u):=by
 intro Xbs s σ H D I h;refine wpAny_If (Q8 (hc Xbs s σ H _ I h) fun d s1 ⟨H1,I1,q1⟩=>?_)
 cases d with
 |true=>exact ha Xbs s1 σ H1 D I1 q1
 |false=>exact hb Xbs s1 σ H1 D I1 q1
end
abbrev TG:=V->St->Hp->(St->Hp->Prop)->Prop
abbrev TGs:=List V->St->Hp->(St->Hp->Prop)->Prop
def PG (X:Cx)(target:Expr)(t:TG):Prop :=
 ∀(Xbs:Qc) (s:Shared) (σ:St) (H:Hp) (v:V) (u:Value) (Q:St->Hp->Prop),Qr X Xbs σ H s->QK v u->t v σ H Q ->
  wpAny (model X.prog X.w) X.A (assign target X.env u) (fun _ s'=>∃σ' H',Qr X Xbs σ' H' s'/\Q σ' H') X.xe s
def PGs (X:Cx)(ts:Qi)(t:TGs):Prop :=
 ∀(Xbs:Qc) (s:Shared) (σ:St) (H:Hp) (vs:List V) (us:Qe) (Q:St->Hp->Prop),Qr X Xbs σ H s->QP vs us->t vs σ H Q ->
  wpAny (model X.prog X.w) X.A (assignInOrder ((assignEach ts X.env).map (·.2)) us) (fun _ s'=>∃σ' H',Qr X Xbs σ' H' s'/\Q σ' H') X.xe s
abbrev Gi:=V->V->V->Hp->(Hp->Prop)->Prop
def Dm (X:Cx)(t:Gi):Prop :=
 ∀(Xbs:Qc) (s:Shared) (σ:St) (H:Hp) (o i v:V) (ov iv u:Value) (Q:Hp->Prop),Qr X Xbs σ H s->QK o ov->QK i iv->QK v u->t o i v H Q ->
  wpAny (model X.prog X.w) X.A (setItem ov iv u) (fun _ s'=>∃H',Qr X Xbs σ H' s'/\Q H') X.xe s
abbrev TIp:=V->V->Hp->VK->Prop
def PIp (X:Cx)(op:Operator)(t:TIp):Prop :=
 ∀(Xbs:Qc) (s:Shared) (σ:St) (H:Hp) (x y:V) (v u:Value) (Q:VK),Qr X Xbs σ H s->QK x v->QK y u->t x y H Q ->
  wpAny (model X.prog X.w) X.A (inplaceOp op v u) (EP X Xbs σ Q) X.xe s
section
variable {X:Cx}{pos:Pos}
def Ws (i:Nat):TG:=fun v σ H Q=>Q (σ.set i (some v)) H
theorem Za {i:Nat}{x:Str}(hN:X.N.Nodup)(hi:X.N[i]?=some x)(hx:Loc X.env.scope x)(hf:X.fn x=true\/X.env.scope.names.lookup x=some .local:=by first|exact .inl rfl|exact .inr rfl|assumption):PG X (.Name x pos) (Ws i):=by
 intro Xbs s σ H v u Q I r h;exact wpAny_assign_Name (HG I hN hi hx r (fun s' I'=>⟨_,H,I',h⟩) hf)
def Di:TGs:=fun vs σ H Q=>vs=[]/\Q σ H
def D4 (t:TG)(u:TGs):TGs:=fun vs σ H Q=>∃v r,vs=v::r/\t v σ H fun σ' H'=>u r σ' H' Q
theorem YN:PGs X [] Di:=by
 intro Xbs s σ H vs us Q I r h;obtain⟨e,h⟩:=h
 subst e;cases r
 exact assignInOrder_nil ⟨σ,H,I,h⟩
theorem ZI {e:Expr}{es:Qi}{t:TG}{u:TGs}(h1:PG X e t)(h2:PGs X es u)
 (hs:(assignEach (e::es) X.env).map (·.2)=assign e X.env::(assignEach es X.env).map (·.2):=by rfl):PGs X (e::es) (D4 t u):=by
 intro Xbs s σ H vs us Q I r h;obtain⟨v,vr,e1,h⟩:=h
 subst e1;cases r with
 |cons r rr =>
   rw[hs];refine assignInOrder_cons (Q8 (h1 Xbs s σ H _ _ _ I r h) fun _ s1 ⟨σ1,H1,I1,q1⟩=>?_)
   exact h2 Xbs s1 σ1 H1 _ _ Q I1 rr q1
def MV (K:W.Frag)(n:Nat)(t:TGs):TG:=fun v σ H Q=>∃a xs,v=.ref a/\SqT K H a xs/\xs.length=n/\t xs σ H Q
theorem YJ {es:Qi}{k:Nat}{t:TGs}{n:Nat}(hc:X.calm=true)(h:PGs X es t)
 (hn:(assignEach es X.env).length=n:=by rfl) (hst:(assignEach es X.env).findIdx? (·.1)=none:=by rfl):PG X (.Tuple es k pos) (MV X.K n t):=by
 intro Xbs s σ H v u Q I r hw;obtain⟨a,xs,e1,hq,hl,hw⟩:=hw
 subst e1;cases r
 obtain⟨its,rv,ht,hz⟩:=I.tuple hq
 refine assign_Tuple_tuple (I.ok.hd hc) ht (by simp[hn,<- hl,rv.length]) hst fun h' hx=>?_
 have I1:Qr X Xbs σ H { s with heap:=h' }:=I.kept (t':=s.toks) fun b o e=>hx b o (Xo (Xj e)) e
 exact h Xbs _ σ H xs _ Q I1 (by simpa using rv) hw
def N9 (to ti:TE)(t:Gi):TG:=fun v σ H Q=>to σ H fun o H1=>ti σ H1 fun i H2=>t o i v H2 fun H3=>Q σ H3
theorem Fx {o i:Expr}{to ti:TE}{t:Gi}(ho:PE X o to)(hi:PE X i ti)(hs:Dm X t)
 (ha:∀v,assign (.Subscript o i pos) X.env v=(do
  let ov <- holding [v] (eval o X.env)
  let iv <- holding [v,ov] (eval i X.env)
  standAt pos
  holding [v,ov,iv] (setItem ov iv v)
  release [v,ov,iv] []):=by intro _;rfl):PG X (.Subscript o i pos) (N9 to ti t):=by
 intro Xbs s σ H v u Q I r h;rw[ha];refine Xa (wpAny_holding (Q8 (ho Xbs s σ H _ I h) fun ov s1 ⟨x,H1,I1,r1,q1⟩=>?_))
 refine Xa (wpAny_holding (Q8 (hi Xbs s1 σ H1 _ I1 q1) fun iv s2 ⟨y,H2,I2,r2,q2⟩=>?_))
 refine Xa (wpAny_standAt (Xa (wpAny_holding (Q8 (hs Xbs s2 σ H2 x y v ov iv u _ I2 r1 r2 r q2) fun _ s3 ⟨H3,I3,q3⟩=>?_))))
 exact wpAny_release ⟨σ,H3,I3,q3⟩
def Wq (te:TE)(g:TG):TS:=fun D σ H=>te σ H fun x H1=>g x σ H1 D.nx
theorem UI {tg e:Expr}{te:TE}{g:TG}(he:PE X e te)(hg:PG X tg g)(hs:swapsWithSole [tg] e pos.line X.env=pure false:=by rfl)(hw:swappedStores [tg] e X.env=pure none:=by rfl)
 (h1:(assignEach [tg] X.env).map (·.2)=[assign tg X.env]:=by rfl):PS X (.Assign [tg] e pos) (Wq te g):=by
 intro Xbs s σ H D I h;refine wpAny_Assign_stores (Q8 (he Xbs s σ H _ I h) fun v s1 ⟨x,H1,I1,r1,q1⟩=>?_) hs hw
 rw[h1];exact Q8 (hg Xbs s1 σ H1 x v _ I1 r1 q1) fun _ s2 q=>q
theorem QJ {i:Nat}{x:Str}{e:Expr}{te:TE}{pos':Pos}(hN:X.N.Nodup)(hi:X.N[i]?=some x)(hx:Loc X.env.scope x)(he:PE X e te)(hs:swapsWith e (some (.Name x pos')) pos.line X.env=pure false:=by rfl)(hf:X.fn x=true\/X.env.scope.names.lookup x=some .local:=by first|exact .inl rfl|exact .inr rfl|assumption) :
 PS X (.Assign [.Name x pos'] e pos) (Wq te (Ws i)):=by
 intro Xbs s σ H D I h;refine wpAny_Assign_Name (Q8 (he Xbs s σ H _ I h) fun v s1 ⟨y,H1,I1,r1,q1⟩=>?_) hs
 exact HG I1 hN hi hx r1 (fun s2 I2=>⟨_,H1,I2,q1⟩) hf
def Dt (i:Nat)(te:TE)(ti:TIp):TS:=fun D σ H=>∃x,σ[i]?=some (some x)/\te σ H fun y H1=>ti x y H1 fun z H2=>D.nx (σ.set i (some z)) H2
theorem Hc {i:Nat}{x:Str}{e:Expr}{te:TE}{op:Operator}{ti:TIp}{pos':Pos}(hN:X.N.Nodup)(hi:X.N[i]?=some x)(hx:Loc X.env.scope x)(he:PE X e te)(ho:PIp X op ti)(hf:X.fn x=true\/X.env.scope.names.lookup x=some .local:=by first|exact .inl rfl|exact .inr rfl|assumption) :
 PS X (.AugAssign (.Name x pos') op e pos) (Dt i te ti):=by
 intro Xbs s σ H D I h;obtain⟨v,e1,h⟩:=h
 obtain⟨m,hn,hl⟩:=I.loc
 have vis:Vis X.env.scope x:=by rcases hx with k|k;exact .inl k;exact .inr (.inl k)
 obtain⟨u,r,l⟩:=hl i x v hi e1 vis
 refine wpAny_AugAssign_Name ?_
 have go:wpAny (model X.prog X.w) X.A (eval e X.env) (fun w b8=>wpAny (model X.prog X.w) X.A (inplaceOp op u w) (fun r bj=>wpAny (model X.prog X.w) X.A (storeName X.env x r) (fun _=>SP X Xbs D .next) X.xe bj) X.xe b8) X.xe s:=by
  refine Q8 (he Xbs s σ H _ I h) fun w s1 ⟨y,H1,I1,r1,q1⟩=>?_
  refine Q8 (ho Xbs s1 σ H1 v y u w _ I1 r r1 q1) fun z s2 ⟨zv,H2,I2,r2,q2⟩=>?_
  exact HG I2 hN hi hx r2 (fun s3 I3=>⟨_,H2,I3,q2⟩) hf
 rcases l with ⟨hk,hm⟩|⟨hk,c,hc,hcell⟩
 ·exact wpAny_loadName_local I.ok.kind hk hn hm go
 ·rcases hk with hk|hk
  ·exact wpAny_loadName_cell I.ok.kind hk hc hcell go
  ·rcases hx with k|k
   ·have:X.env.scope.names.lookup x=some .free:=hk
    rw[k]at this;cases this
   ·have:X.env.scope.names.lookup x=some .free:=hk
    rw[k]at this;cases this
def Dx (to ti te:TE)(tget:V->V->Hp->VK->Prop)(tip:TIp)(tset:Gi):TS:=fun D σ H=>to σ H fun o H1=>ti σ H1 fun i H2=>tget o i H2 fun x H3=>te σ H3 fun y H4=>tip x y H4 fun z H5=>tset o i z H5 fun H6=>D.nx σ H6
def Nv (X:Cx)(t:V->V->Hp->VK->Prop):Prop :=
 ∀(Xbs:Qc) (s:Shared) (σ:St) (H:Hp) (o i:V) (ov iv:Value) (Q:VK),Qr X Xbs σ H s->QK o ov->QK i iv->t o i H Q ->
  wpAny (model X.prog X.w) X.A (getItem ov iv) (EP X Xbs σ Q) X.xe s
theorem BN {o i e:Expr}{to ti te:TE}{tget:V->V->Hp->VK->Prop}{tip:TIp}{tset:Gi}{op:Operator}{tpos:Pos}(ho:PE X o to)(hi:PE X i ti)(hg:Nv X tget)(he:PE X e te)(hp:PIp X op tip)(hs:Dm X tset)
 (ha:∀ov iv new,augStore i ov iv new=(do holding [new,ov,iv] (setItem ov iv new);release [new,ov,iv] [];pure .next):=by intros;rfl):PS X (.AugAssign (.Subscript o i tpos) op e pos) (Dx to ti te tget tip tset):=by
 intro Xbs s σ H D I h;refine wpAny_AugAssign_SubscriptAny (Q8 (ho Xbs s σ H _ I h) fun ov s1 ⟨x1,H1,I1,r1,q1⟩=>?_) ha
 refine Q8 (hi Xbs s1 σ H1 _ I1 q1) fun iv s2 ⟨x2,H2,I2,r2,q2⟩=>?_
 refine Q8 (hg Xbs s2 σ H2 x1 x2 ov iv _ I2 r1 r2 q2) fun old s3 ⟨x3,H3,I3,r3,q3⟩=>?_
 refine Q8 (he Xbs s3 σ H3 _ I3 q3) fun v s4 ⟨x4,H4,I4,r4,q4⟩=>?_
 refine Q8 (hp Xbs s4 σ H4 x3 x4 old v _ I4 r3 r4 q4) fun new s5 ⟨x5,H5,I5,r5,q5⟩=>?_
 exact Q8 (hs Xbs s5 σ H5 x1 x2 x5 ov iv new _ I5 r1 r2 r5 q5) fun _ s6 ⟨H6,I6,q6⟩=>⟨σ,H6,I6,q6⟩
def ipI (f:Int->Int->Int):TIp:=fun x y H Q=>∃i j,x=.int i/\y=.int j/\Q (.int (f i j)) H
theorem G4:PIp X .Add (ipI fun i j=>i+j):=by
 intro Xbs s σ H x y v u Q I r1 r2 h;obtain⟨i,j,e1,e2,q⟩:=h
 subst e1;subst e2;obtain⟨t,rfl⟩:=r1
 obtain⟨t',rfl⟩:=r2
 exact iadd_int ⟨.int _,H,I.tok _,⟨_,rfl⟩,q⟩
theorem FR:PIp X .Sub (ipI fun i j=>i-j):=by
 intro Xbs s σ H x y v u Q I r1 r2 h;obtain⟨i,j,e1,e2,q⟩:=h
 subst e1;subst e2;obtain⟨t,rfl⟩:=r1
 obtain⟨t',rfl⟩:=r2
 exact isub_int ⟨.int _,H,I.tok _,⟨_,rfl⟩,q⟩
end
section
variable {X:Cx}{pos:Pos}
def RX (c:TT)(tb:TS):TS:=fun D σ H=>∃W:Nat->St->Hp->Prop,(∃m,W m σ H)/\∀m σ H,W m σ H ->
 c σ H fun b H1=>if b=true then ∃N:St->Hp->Prop,(∀σ' H',N σ' H'->∃m',m'<m/\W m' σ' H')/\tb { D with nx:=N,ct:=N,bk:=D.nx } σ H1 else D.nx σ H1
theorem Jz {c:Expr}{body:List Stmt}{tc:TT}{tb:TS}(hp:PassesOwn (model X.prog X.w) X.A X.env X.xe)(hc:PT X c tc)(hb:PSs X body tb):PS X (.While c body [] pos) (RX tc tb):=by
 intro Xbs s σ H D I h;obtain⟨W,⟨m0,w0⟩,turn⟩:=h
 refine wpAny_While (codeAny_whileLoop (fun n s'=>∃σ' H',Qr X Xbs σ' H' s'/\W n σ' H') ?_ m0 ⟨σ,H,I,w0⟩)
 rintro n s1 ⟨σ1,H1,I1,w1⟩
 refine wpAny_passesOwn hp (Q8 (hc Xbs s1 σ1 H1 _ I1 (turn n σ1 H1 w1)) fun b s2 ⟨H2,I2,q2⟩=>?_)
 cases b with
 |true =>
   obtain⟨N,hN,q2⟩:=q2
   rw[Xc rfl];refine wpAny_passesOwn hp (Q8 (hb Xbs s2 σ1 H2 _ I2 q2) fun f s3 q3=>?_)
   cases f with
   |next =>
     obtain⟨σ3,H3,I3,n3⟩:=q3
     obtain⟨m',hm,w3⟩:=hN σ3 H3 n3
     exact⟨m',hm,σ3,H3,I3,w3⟩
   |cont =>
     obtain⟨σ3,H3,I3,n3⟩:=q3
     obtain⟨m',hm,w3⟩:=hN σ3 H3 n3
     exact⟨m',hm,σ3,H3,I3,w3⟩
   |brk=>exact q3
   |ret v=>exact q3
 |false =>
   rw[Xb Xp];exact wpAny_execs_nil ⟨σ1,H2,I2,q2⟩
end
structure It where
 go:Nat->Hp->Prop
 yld:Nat->Hp->V->Hp->Prop
 stop:Nat->Hp->Prop
def Y8 (X:Cx)(Xbs:Qc)(H:Hp)(b:Addr):Prop :=
 H b=none/\b≠X.env.locals/\b∉X.fs/\(b∈X.ex\/X.s₀.heap.objs.size<=b)/\(∀x c,X.env.cells.lookup x=some c->c≠b)/\∀p∈X.pn++Xbs,p.1≠b
theorem Qr.fpOk {X:Cx}{Xbs:Qc}{σ:St}{H H':Hp}{s:Shared}{b:Addr}(I:Qr X Xbs σ H s)(hb:s.heap.objs.size<=b)(hn:H' b=none):Y8 X Xbs H' b:=by
 refine⟨hn,X7 (Xv I.lt hb),I.nofs hb,.inr (XN I.sz hb),fun x c e z=>?_,fun p hp z=>?_⟩
 ·obtain⟨v,q⟩:=I.cell x c e
  exact Xl (Xv q.lt (by rw[z];exact hb)) (Y5 _)
 ·exact Xl (Xv (Xj (I.pin p hp).1) (by rw[z];exact hb)) (Y5 _)
structure Turn (P:Program)(w:World)(K:W.Frag)(tg:Expr)(J:It)(fp:Qg)(it:Addr)(tn:Nat->Heap->Prop):Prop where
 mem:it∈fp
 obj:∀i h,tn i h->∀b∈fp,∃o,h.get? b=some o/\∀v,o.data≠.cell v
 keep:∀i h h',tn i h->(∀b∈fp,∀o,h.get? b=some o->h'.get? b=some o)->tn i h'
 item:∀(X:Cx),X.prog=P->X.w=w->X.K=K->X.calm=true->∀(i:Nat) (Xbs:Qc) (s:Shared) (σ:St) (H:Hp) (E:Qb),Qr X Xbs σ H s->(∀b∈fp,Y8 X Xbs H b)->tn i s.heap->J.go i H ->
  wpAny (model P w) X.A (pyNext (.ref it)) (fun r s1=>∃u,r=some u /\
   wpAny (model P w) X.A (letOwnedTupleGo tg (.ref it) u) (fun _ s2=>∃x H',Qr X Xbs σ H' s2/\QK x u/\J.yld i H x H'/\tn (i+1) s2.heap/\∀b∈fp,H' b=none) E s1) E s
 done:∀(X:Cx),X.prog=P->X.w=w->X.K=K->X.calm=true->∀(i:Nat) (Xbs:Qc) (s:Shared) (σ:St) (H:Hp) (E:Qb),Qr X Xbs σ H s->(∀b∈fp,Y8 X Xbs H b)->tn i s.heap->J.stop i H ->
  wpAny (model P w) X.A (pyNext (.ref it)) (fun r s1=>r=none/\Qr X Xbs σ H s1) E s
 self:∀(A:Around) (i:Nat) (s:Shared) (Q:Qb) (E:Qb),tn i s.heap->Q (.ref it) s->wpAny (model P w) A (pyIter (.ref it)) Q E s
abbrev TI:=St->Hp->(It->Hp->Prop)->Prop
def PIE (X:Cx)(Xbs:Qc)(σ:St)(tg:Expr)(R:It->Hp->Prop)(itv:Value)(s2:Shared):Prop :=
 ∃(it:Addr) (fp:Qg) (tn:Nat->Heap->Prop) (J:It) (H':Hp),itv=.ref it/\Qr X Xbs σ H' s2/\Turn X.prog X.w X.K tg J fp it tn/\tn 0 s2.heap/\(∀b∈fp,Y8 X Xbs H' b)/\R J H'
def PI (X:Cx)(tg iter:Expr)(wi:TI):Prop :=
 ∀(Xbs:Qc) (s:Shared) (σ:St) (H:Hp) (R:It->Hp->Prop),Qr X Xbs σ H s->wi σ H R ->
  wpAny (model X.prog X.w) X.A (eval iter X.env) (fun v s1=>wpAny (model X.prog X.w) X.A (pyIter v) (PIE X Xbs σ tg R) X.xe s1) X.xe s
theorem B7 {M:Model}{A:Around}{E:Qb}{s:Shared}{tg:Expr}{it:Addr}{u:Value}{o:Obj}{n:String}{vs:Array Value}{Q:Unit->Shared->Prop}(ho:s.heap.get? it=some o)(hc:o.cls=.type n)(hd:o.data=.fields vs)
 (hn:["enumerate","zip","dict_itemiterator","dict_reverseitemiterator","odict_iterator","itertools.zip_longest","itertools.pairwise"].contains n=false) (hQ:Q () s):wpAny M A (letOwnedTupleGo tg (.ref it) u) Q E s:=by
 unfold letOwnedTupleGo;cases tg<;>first
  |exact Xi hQ
  | (cases u<;>first
   |exact Xi hQ
   | (refine Xa (wpAny_load ho ?_)
      rw[hc,hd];show wpAny M A (if (["enumerate","zip","dict_itemiterator","dict_reverseitemiterator","odict_iterator","itertools.zip_longest","itertools.pairwise"].contains n&&vs[0]?==some (rawInt _))=true then _ else _) Q E s
      rw[Xb (by intro h;rw[hn,Bool.false_and]at h;cases h)];exact Xi hQ))
def Itl (K:W.Frag)(a:Addr):It :=
 ⟨fun i H=>∃xs x,SqL K H a xs/\xs[i]?=some x,fun i H x H'=>H'=H/\∀xs,SqL K H a xs->xs[i]?=some x,fun i H=>∃xs,SqL K H a xs/\xs.length<=i⟩
def Itt (K:W.Frag)(a:Addr):It :=
 ⟨fun i H=>∃xs x,SqT K H a xs/\xs[i]?=some x,fun i H x H'=>H'=H/\∀xs,SqT K H a xs->xs[i]?=some x,fun i H=>∃xs,SqT K H a xs/\xs.length<=i⟩
def Itr (lo:Int)(n:Nat):It:=⟨fun i _=>i<n,fun i H x H'=>H'=H/\x=.int (lo+i),fun i _=>n<=i⟩
theorem Oy {P:Program}{w:World}{K:W.Frag}{tg:Expr}(a it:Addr):Turn P w K tg (Itl K a) [it] it (fun i h=>h.IsListIter it a i) where
 mem:=by simp
 obj:=fun i h st b hb=>by
  have e:b=it:=by simpa using hb
  subst e;obtain⟨o,e,c,d⟩:=st
  exact⟨o,e,fun v z=>by rw[d]at z;cases z⟩
 keep:=fun i h h' st k=>st.at fun o e=>k it (by simp) o e
 item:=by
  intro X hP hw hK hc i Xbs s σ H E I hf st hg;subst hP hw hK;obtain⟨xs,x,hq,hx⟩:=hg
  obtain⟨its,rv,p,hz⟩:=I.list hq
  obtain⟨u,hu,ru⟩:=rv.get hx
  obtain⟨f0,f1,f2,f3,f4,f5⟩:=hf it (by simp)
  refine wpAny_pyNext_list_item st p.isList (x:=u) (by simpa using hu) fun h' st' sb=>?_
  have I1:Qr X Xbs σ H { s with heap:=h' }:=I.turned (t':=s.toks) (fun b o hb e=>(sb.2 b hb).trans e) f0 f1 f3 f4 f5
  obtain⟨o,e,c,d⟩:=id st'
  exact⟨u,rfl,B7 (s:={ s with heap:=h' }) e c d (by decide) ⟨x,H,I1,ru,⟨rfl,fun ys hy=>by rw[I.list_inj hy hq];exact hx⟩,st',fun b hb=>(hf b hb).1⟩⟩
 done:=by
  intro X hP hw hK hc i Xbs s σ H E I hf st hg;subst hP hw hK;obtain⟨xs,hq,hx⟩:=hg
  obtain⟨its,rv,p,hz⟩:=I.list hq
  obtain⟨f0,f1,f2,f3,f4,f5⟩:=hf it (by simp)
  have hl:=rv.length
  exact wpAny_pyNext_list_end (I.ok.hd hc) st p.isList (by simp;omega) fun h' eb=>⟨rfl,I.turned (t':=s.toks) (fun b o hb e=>eb b o hb e) f0 f1 f3 f4 f5⟩
 self:=fun _ _ _ _ _ st h=>wpAny_pyIter_listiter st h
theorem OC {P:Program}{w:World}{K:W.Frag}{tg:Expr}(a it:Addr):Turn P w K tg (Itt K a) [it] it (fun i h=>h.IsTupleIter it a i) where
 mem:=by simp
 obj:=fun i h st b hb=>by
  have e:b=it:=by simpa using hb
  subst e;obtain⟨o,e,c,d⟩:=st
  exact⟨o,e,fun v z=>by rw[d]at z;cases z⟩
 keep:=fun i h h' st k=>st.at fun o e=>k it (by simp) o e
 item:=by
  intro X hP hw hK hc i Xbs s σ H E I hf st hg;subst hP hw hK;obtain⟨xs,x,hq,hx⟩:=hg
  obtain⟨its,rv,p,hz⟩:=I.tuple hq
  obtain⟨u,hu,ru⟩:=rv.get hx
  obtain⟨f0,f1,f2,f3,f4,f5⟩:=hf it (by simp)
  refine wpAny_pyNext_tuple_item st (show s.heap.IsTuple a its.toArray from p) (x:=u) (by simpa using hu) fun h' st' sb=>?_
  have I1:Qr X Xbs σ H { s with heap:=h' }:=I.turned (t':=s.toks) (fun b o hb e=>(sb.2 b hb).trans e) f0 f1 f3 f4 f5
  obtain⟨o,e,c,d⟩:=id st'
  exact⟨u,rfl,B7 (s:={ s with heap:=h' }) e c d (by decide) ⟨x,H,I1,ru,⟨rfl,fun ys hy=>by rw[I.tuple_inj hy hq];exact hx⟩,st',fun b hb=>(hf b hb).1⟩⟩
 done:=by
  intro X hP hw hK hc i Xbs s σ H E I hf st hg;subst hP hw hK;obtain⟨xs,hq,hx⟩:=hg
  obtain⟨its,rv,p,hz⟩:=I.tuple hq
  obtain⟨f0,f1,f2,f3,f4,f5⟩:=hf it (by simp)
  have hl:=rv.length
  exact wpAny_pyNext_tuple_end (I.ok.hd hc) st (show s.heap.IsTuple a its.toArray from p) (by simp;omega) fun h' eb=>⟨rfl,I.turned (t':=s.toks) (fun b o hb e=>eb b o hb e) f0 f1 f3 f4 f5⟩
 self:=fun _ _ _ _ _ st h=>wpAny_pyIter_tupleiter st h
theorem OU {P:Program}{w:World}{K:W.Frag}{tg:Expr}(it:Addr)(lo:Int)(n:Nat):Turn P w K tg (Itr lo n) [it] it (fun i h=>IsRangeIter h it (lo+(i:Nat)*1) ((n:Int)-(i:Nat)) 1) where
 mem:=by simp
 obj:=fun i h st b hb=>by
  have e:b=it:=by simpa using hb
  subst e;exact⟨_,st,fun v z=>by
   have z':Data.fields _=Data.cell v:=z
   cases z'⟩
 keep:=fun i h h' st k=>k it (by simp) _ st
 item:=by
  intro X hP hw hK hc i Xbs s σ H E I hf st hg;subst hP hw hK;obtain⟨f0,f1,f2,f3,f4,f5⟩:=hf it (by simp)
  have W:=Walks.range (prog:=X.prog) (w:=X.w) (I.ok.hd hc) it lo 1 n
  refine W.item i s _ _ hg st fun v h' tk hv st' kk=>?_
  obtain⟨t,rfl⟩:=hv
  have I1:Qr X Xbs σ H { s with heap:=h',toks:=tk }:=I.turned (fun b o hb e=>kk b o (by simpa using hb) e) f0 f1 f3 f4 f5
  refine⟨_,rfl,B7 (s:={ s with heap:=h',toks:=tk }) (n := "range_iterator") st' rfl rfl (by decide) ⟨.int (lo+i),H,I1,⟨t,?_⟩,⟨rfl,rfl⟩,st',fun b hb=>(hf b hb).1⟩⟩
  rw[Int.mul_one]
 done:=by
  intro X hP hw hK hc i Xbs s σ H E I hf st hg;subst hP hw hK;obtain⟨f0,f1,f2,f3,f4,f5⟩:=hf it (by simp)
  exact wpAny_pyNext_range_end (I.ok.hd hc) st (by have:n<=i:=hg;omega) fun h' eb=>⟨rfl,I.turned (t':=s.toks) (fun b o hb e=>eb b o hb e) f0 f1 f3 f4 f5⟩
 self:=fun _ _ _ _ _ st h=>wpAny_pyIter_rangeiter st h
section
variable {X:Cx}{tg:Expr}
def NR (K:W.Frag)(tl:TE):TI:=fun σ H R=>tl σ H fun x H1=>∃a,x=.ref a/\(∃xs,SqL K H1 a xs)/\R (Itl K a) H1
def N4 (K:W.Frag)(tl:TE):TI:=fun σ H R=>tl σ H fun x H1=>∃a,x=.ref a/\(∃xs,SqT K H1 a xs)/\R (Itt K a) H1
theorem V2 {l:Expr}{tl:TE}(hl:PE X l tl):PI X tg l (NR X.K tl):=by
 intro Xbs s σ H R I h;refine Q8 (hl Xbs s σ H _ I h) fun v s1 ⟨x,H1,I1,r1,q1⟩=>?_
 obtain⟨a,e,⟨xs,hq⟩,q⟩:=q1
 subst e;cases r1
 obtain⟨its,rv,p,hz⟩:=I1.list hq
 refine wpAny_pyIter_list p.isList ?_
 refine⟨s1.heap.objs.size,[s1.heap.objs.size],_,_,H1,rfl,I1.kept (t':=s1.toks) fun b o e=>Xf _ e,Oy a _,⟨_,XQ _ rfl,rfl,rfl⟩,fun b hb=>?_,q⟩
 have e:b=s1.heap.objs.size:=by simpa using hb
 subst e;exact I1.fpOk (Xs _) (I1.hok.fresh (Xs _))
theorem BG {l:Expr}{tl:TE}(hl:PE X l tl):PI X tg l (N4 X.K tl):=by
 intro Xbs s σ H R I h;refine Q8 (hl Xbs s σ H _ I h) fun v s1 ⟨x,H1,I1,r1,q1⟩=>?_
 obtain⟨a,e,⟨xs,hq⟩,q⟩:=q1
 subst e;cases r1
 obtain⟨its,rv,p,hz⟩:=I1.tuple hq
 refine wpAny_pyIter_tuple (show s1.heap.IsTuple a its.toArray from p) ?_
 refine⟨s1.heap.objs.size,[s1.heap.objs.size],_,_,H1,rfl,I1.kept (t':=s1.toks) fun b o e=>Xf _ e,OC a _,⟨_,XQ _ rfl,rfl,rfl⟩,fun b hb=>?_,q⟩
 have e:b=s1.heap.objs.size:=by simpa using hb
 subst e;exact I1.fpOk (Xs _) (I1.hok.fresh (Xs _))
theorem Pc {Xbs:Qc}{σ:St}{H:Hp}{s:Shared}{R:It->Hp->Prop}{E:Qb}{lo hi:Int}{t u v:Tok}{tk:Nat}(I:Qr X Xbs σ H s)(h1 : -(2^62)<=lo)(h2:lo<2^62)(h3 : -(2^62)<=hi)(h4:hi<2^62)
 (q:R (Itr lo (hi-lo).toNat) H):wpAny (model X.prog X.w) X.A (pyIter (.ref s.heap.objs.size)) (PIE X Xbs σ tg R) E { s with heap:=s.heap.push { cls:=.type "range",data:=.fields #[.int lo t,.int hi u,.int 1 v] },toks:=tk }:=by
 refine wpAny_pyIter_range (IsRange.new ..) (small_one h1 h2 h3 h4) ?_
 have I1:Qr X Xbs σ H { s with heap:=s.heap.push { cls:=.type "range",data:=.fields #[.int lo t,.int hi u,.int 1 v] },toks:=tk }:=I.kept fun b o e=>Xf _ e
 refine⟨(s.heap.push { cls:=.type "range",data:=.fields #[.int lo t,.int hi u,.int 1 v] }).objs.size,[(s.heap.push { cls:=.type "range",data:=.fields #[.int lo t,.int hi u,.int 1 v] }).objs.size],_,_,H,rfl,
  I1.kept (t':=tk) fun b o e=>Xf _ e,OU _ lo (hi-lo).toNat,?_,fun b hb=>?_,q⟩
 ·have e1:lo+((0:Nat):Int)*1=lo:=by simp
  have e2:(((hi-lo).toNat:Nat):Int)-((0:Nat):Int)=Builtin.Range.rangeSize lo hi 1:=by rw[rangeSize_one];split<;>omega
  show IsRangeIter _ _ (lo+((0:Nat):Int)*1) ((((hi-lo).toNat:Nat):Int)-((0:Nat):Int)) 1
  rw[e1,e2];exact XQ _ rfl
 ·have e:b=(s.heap.push { cls:=.type "range",data:=.fields #[.int lo t,.int hi u,.int 1 v] }).objs.size:=by simpa using hb
  subst e;exact I1.fpOk (Xs _) (I1.hok.fresh (Xs _))
def NU (ta:TA):TI:=fun σ H R=>ta σ H fun vs H1=>∃j:Int,vs=[.int j] /\ -(2^62)<=j/\j<2^62/\R (Itr 0 j.toNat) H1
def NV (ta:TA):TI:=fun σ H R=>ta σ H fun vs H1=>∃i j:Int,vs=[.int i,.int j]/\(-(2^62)<=i/\i<2^62 /\ -(2^62)<=j/\j<2^62)/\R (Itr i (j-i).toNat) H1
theorem Yp {a:Expr} {ta:TA} {p pos:Pos} (hg:Gl X "range") (hm:X.mg "range"=none) (ha:PA X [a] ta) (hs:starEach [a] X.env=[(false,eval a X.env)]:=by rfl):PI X tg (.Call (.Name "range" p) [a] [] pos) (NU ta):=by
 intro Xbs s σ H R I h;refine Call_ (Jt I hg hm boot_range (PyProof.Rows.callWith_type1 (Q8 (ha pos Xbs s σ H _ I h) fun us s1 ⟨vs,H1,I1,r1,q1⟩=>?_) hs rfl))
 obtain⟨j,e,q1,q2,q⟩:=q1
 subst e;cases r1 with
 |cons r rr =>
   cases rr
   obtain⟨t,rfl⟩:=r
   exact call_range_1 (Pc I1 (by omega) (by omega) q1 q2 (by simpa using q))
theorem Ob {a b:Expr} {ta:TA} {p pos:Pos} (hg:Gl X "range") (hm:X.mg "range"=none) (ha:PA X [a,b] ta) (hs:starEach [a,b] X.env=[(false,eval a X.env),(false,eval b X.env)]:=by rfl) (hs2:starEach [b] X.env=[(false,eval b X.env)]:=by rfl) :
 PI X tg (.Call (.Name "range" p) [a,b] [] pos) (NV ta):=by
 intro Xbs s σ H R I h;refine Call_ (Jt I hg hm boot_range (PyProof.Rows.callWith_type1 (Q8 (ha pos Xbs s σ H _ I h) fun us s1 ⟨vs,H1,I1,r1,q1⟩=>?_) (by rw[hs,hs2]) (by rw[hs2];rfl)))
 obtain⟨i,j,e,⟨q1,q2,q3,q4⟩,q⟩:=q1
 subst e;cases r1 with
 |cons r rr =>
   cases rr with
   |cons r' rr =>
     cases rr
     obtain⟨t,rfl⟩:=r
     obtain⟨t',rfl⟩:=r'
     exact call_range_2 (Pc I1 q1 q2 q3 q4 q)
def MZ (wi:TI)(g:TG)(tb:TS):TS:=fun D σ H=>wi σ H fun J H1=>∃W:Nat->Nat->St->Hp->Prop,(∃m,W 0 m σ H1)/\∀i m σ H,W i m σ H ->
 (J.stop i H/\D.nx σ H)\/(J.go i H/\∃N:St->Hp->Prop,(∀σ' H',N σ' H'->∃m',m'<m/\W (i+1) m' σ' H')/\∀x H',J.yld i H x H'->g x σ H' fun σ2 H2=>tb { D with nx:=N,ct:=N,bk:=D.nx } σ2 H2)
def GB (fp:Qg)(h:Heap):Qc:=fp.filterMap fun b=>(h.get? b).map fun o=>(b,o)
theorem Ms {fp:Qg}{h:Heap}{b:Addr}{o:Obj}(hb:b∈fp)(e:h.get? b=some o):(b,o)∈GB fp h:=List.mem_filterMap.mpr ⟨b,hb,by rw[e];rfl⟩
theorem Od {fp:Qg}{h:Heap}{p:Addr×Obj}(hp:p∈GB fp h):p.1∈fp/\h.get? p.1=some p.2:=by
 obtain⟨b,hb,e⟩:=List.mem_filterMap.mp hp
 cases q:h.get? b with
 |none=>rw[q]at e;cases e
 |some o =>
   rw[q]at e;have e':(b,o)=p:=Option.some.inj e
   subst e';exact⟨hb,q⟩
theorem Qr.pinned {Xbs:Qc}{σ:St}{H:Hp}{s:Shared}{fp:Qg}(I:Qr X Xbs σ H s)(hf:∀b∈fp,Y8 X Xbs H b)(ho:∀b∈fp,∃o,s.heap.get? b=some o/\∀v,o.data≠.cell v):Qr X (Xbs++GB fp s.heap) σ H s :=
 I.pins_of fun p hp=>(XG.mp hp).elim (fun z=>I.pin p (XT _ z)) fun z=>by
  obtain⟨hb,e⟩:=Od z
  obtain⟨f0,f1,f2,_⟩:=hf p.1 hb
  obtain⟨o,e',d⟩:=ho p.1 hb
  rw[e]at e';cases e';exact⟨e,f0,f1,f2,d⟩
theorem Qr.unpinned {Xbs pl:Qc}{σ:St}{H:Hp}{s:Shared}(I:Qr X (Xbs++pl) σ H s):Qr X Xbs σ H s:=I.pins_of fun p hp=>I.pin p (XT _ (JA _ hp))
theorem VB {iter:Expr}{body:List Stmt}{wi:TI}{g:TG}{tb:TS}{pos:Pos}(hp:PassesOwn (model X.prog X.w) X.A X.env X.xe)(hc:X.calm=true)(hi:PI X tg iter wi)(hg:PG X tg g)(hb:PSs X body tb)
 (hs:∀x,foldedSetIterable iter X.env x=pure x:=by intro _;rfl):PS X (.For tg iter body [] pos) (MZ wi g tb):=by
 intro Xbs s σ H D I h;refine wpAny_For (Q8 (hi Xbs s σ H _ I h) fun v s1 h1=>Q8 h1 fun itv s2 h2=>?_) hs
 obtain⟨it,fp,tn,J,H2,e,I2,T,st2,f2,W,⟨m0,w0⟩,turn⟩:=h2
 subst e;have stat:∀{H':Hp},(∀b∈fp,H' b=none)->∀b∈fp,Y8 X Xbs H' b:=fun hn b hb=>⟨hn b hb,(f2 b hb).2⟩
 refine codeAny_forLoop_any (fun n s'=>∃i σ' H',Qr X Xbs σ' H' s'/\tn i s'.heap/\(∀b∈fp,H' b=none)/\W i n σ' H') ?_ m0 ⟨0,σ,H2,I2,st2,fun b hb=>(f2 b hb).1,w0⟩
 rintro n s3 ⟨i,σ3,H3,I3,st3,fr3,w3⟩
 rcases turn i n σ3 H3 w3 with ⟨stop,qn⟩|⟨go,N,hN,step⟩
 ·refine wpAny_passesOwn hp (Q8 (T.done X rfl rfl rfl hc i Xbs s3 σ3 H3 X.xe I3 (stat fr3) st3 stop) fun r s4 ⟨hr,I4⟩=>?_)
  subst hr;exact wpAny_execs_nil ⟨σ3,H3,I4,qn⟩
 ·refine wpAny_passesOwn hp (Q8 (T.item X rfl rfl rfl hc i Xbs s3 σ3 H3 X.xe I3 (stat fr3) st3 go) fun r s4 ⟨u,hr,h4⟩=>?_)
  subst hr;refine wpAny_passesOwn hp (Q8 h4 fun _ s5 ⟨x,H5,I5,r5,y5,st5,fr5⟩=>?_)
  have I5':=I5.pinned (stat fr5) (T.obj _ _ st5)
  refine wpAny_passesOwn hp (Q8 (hg _ s5 σ3 H5 x u _ I5' r5 (step x H5 y5)) fun _ s6 ⟨σ6,H6,I6,q6⟩=>?_)
  refine wpAny_passesOwn hp (Q8 (hb _ s6 σ6 H6 _ I6 q6) fun f s7 q7=>?_)
  have again:∀{σ7:St} {H7:Hp},Qr X (Xbs++GB fp s5.heap) σ7 H7 s7->N σ7 H7->∃m,m<n/\∃i σ' H',Qr X Xbs σ' H' s7/\tn i s7.heap/\(∀b∈fp,H' b=none)/\W i m σ' H':=fun{σ7 H7} I7 n7=>by
   obtain⟨m',hm,w7⟩:=hN σ7 H7 n7
   refine⟨m',hm,i+1,σ7,H7,I7.unpinned,T.keep _ _ _ st5 fun b hb o e=>(I7.pin (b,o) (XT _ (XT _ (Ms hb e)))).1,fun b hb=>?_,w7⟩
   obtain⟨o,e,d⟩:=T.obj _ _ st5 b hb
   exact(I7.pin (b,o) (XT _ (XT _ (Ms hb e)))).2.1
  cases f with
  |next=>obtain⟨σ7,H7,I7,n7⟩:=q7;exact again I7 n7
  |cont=>obtain⟨σ7,H7,I7,n7⟩:=q7;exact again I7 n7
  |brk=>obtain⟨σ7,H7,I7,q7⟩:=q7;exact⟨σ7,H7,I7.unpinned,q7⟩
  |ret v=>obtain⟨x7,σ7,H7,I7,r7,q7⟩:=q7;exact⟨x7,σ7,H7,I7.unpinned,r7,q7⟩
end
abbrev R2:=V->V->Hp->VK->Prop
def OpR (X:Cx)(f:Value->Value->Sem Value)(r:R2):Prop :=
 ∀(Xbs:Qc) (s:Shared) (σ:St) (H:Hp) (x y:V) (v u:Value) (Q:VK),Qr X Xbs σ H s->QK x v->QK y u->r x y H Q ->
  wpAny (model X.prog X.w) X.A (f v u) (EP X Xbs σ Q) X.xe s
def UnR (X:Cx)(f:Value->Sem Value)(r:V->Hp->VK->Prop):Prop :=
 ∀(Xbs:Qc) (s:Shared) (σ:St) (H:Hp) (x:V) (v:Value) (Q:VK),Qr X Xbs σ H s->QK x v->r x H Q ->
  wpAny (model X.prog X.w) X.A (f v) (EP X Xbs σ Q) X.xe s
def Vn (X:Cx)(f:Value)(r:List V->Hp->VK->Prop):Prop :=
 ∀(Xbs:Qc) (s:Shared) (σ:St) (H:Hp) (xs:List V) (us:Qe) (Q:VK),Qr X Xbs σ H s->QP xs us->r xs H Q ->
  wpAny (model X.prog X.w) X.A (call f us) (EP X Xbs σ Q) X.xe s
def LE (X:Cx)(r:V->Hp->(Bool->Hp->Prop)->Prop):Prop :=
 ∀(Xbs:Qc) (s:Shared) (σ:St) (H:Hp) (x:V) (v:Value) (Q:Bool->Hp->Prop),Qr X Xbs σ H s->QK x v->r x H Q ->
  wpAny (model X.prog X.w) X.A (truthy v) (TP X Xbs σ Q) X.xe s
def tOp (r:R2)(ta tb:TE):TE:=fun σ H Q=>ta σ H fun x H1=>tb σ H1 fun y H2=>r x y H2 Q
def tUn (r:V->Hp->VK->Prop)(ta:TE):TE:=fun σ H Q=>ta σ H fun x H1=>r x H1 Q
def rI (C:Int->Int->Prop)(g:Int->Int->V):R2:=fun x y H Q=>∃i j,x=.int i/\y=.int j/\C i j/\Q (g i j) H
def rI0 (g:Int->Int->V):R2:=fun x y H Q=>∃i j,x=.int i/\y=.int j/\Q (g i j) H
def rU (g:Int->V):V->Hp->VK->Prop:=fun x H Q=>∃i,x=.int i/\Q (g i) H
section
variable {X:Cx}{a b c:Expr}{ta tb tc:TE}{pos:Pos}
theorem De (ha:PE X a ta)(hb:PE X b tb){Xbs:Qc}{s:Shared}{σ:St}{H:Hp}{R:V->V->Hp->Prop}(I:Qr X Xbs σ H s)
 (h:ta σ H fun x H1=>tb σ H1 fun y H2=>R x y H2) {Q:Qb} {f:Value->Value->Sem Value}
 (hf:∀v u s2 x y H2,Qr X Xbs σ H2 s2->QK x v->QK y u->R x y H2->wpAny (model X.prog X.w) X.A (f v u) Q X.xe s2) :
 wpAny (model X.prog X.w) X.A (eval a X.env) (fun v b7=>wpAny (model X.prog X.w) X.A (eval b X.env) (fun u b8=>wpAny (model X.prog X.w) X.A (f v u) Q X.xe b8) X.xe b7) X.xe s:=by
 refine Q8 (ha Xbs s σ H _ I h) fun v s1 ⟨x,H1,I1,r1,q1⟩=>?_
 refine Q8 (hb Xbs s1 σ H1 _ I1 q1) fun u s2 ⟨y,H2,I2,r2,q2⟩=>?_
 exact hf v u s2 x y H2 I2 r1 r2 q2
theorem QF {op:Operator}{r:R2}(ho:OpR X (binaryOp op) r)(ha:PE X a ta)(hb:PE X b tb):PE X (.BinOp a op b pos) (tOp r ta tb):=by
 intro Xbs s σ H Q I h;exact wpAny_BinOp (De ha hb I h fun v u s2 x y H2 I2 rx ry q=>ho Xbs s2 σ H2 x y v u Q I2 rx ry q)
theorem NG {op:UnaryOp}{r:V->Hp->VK->Prop}(ho:UnR X (unaryOp op) r)(ha:PE X a ta):PE X (.UnaryOp op a pos) (tUn r ta):=by
 intro Xbs s σ H Q I h;exact UnaryOp_ (Q8 (ha Xbs s σ H _ I h) fun v s1 ⟨x,H1,I1,r1,q1⟩=>ho Xbs s1 σ H1 x v Q I1 r1 q1)
theorem opI {f:Value->Value->Sem Value}{C:Int->Int->Prop}{g:Int->Int->Int}
 (rule:∀(i j:Int) (t u:Tok) (s:Shared) (Q:Qb) (E:Qb),C i j->Q (.int (g i j) s.toks) { s with toks:=s.toks+1 }->wpAny (model X.prog X.w) X.A (f (.int i t) (.int j u)) Q E s) :
 OpR X f (rI C fun i j=>.int (g i j)):=by
 intro Xbs s σ H x y v u Q I rx ry h;obtain⟨i,j,rfl,rfl,hc,q⟩:=h
 obtain⟨t,rfl⟩:=rx
 obtain⟨t',rfl⟩:=ry
 exact rule i j t t' s _ _ hc ⟨.int (g i j),H,I.tok _,⟨_,rfl⟩,q⟩
theorem MU {f:Value->Value->Sem Value}{g:Int->Int->Int}
 (rule:∀(i j:Int) (t u:Tok) (s:Shared) (Q:Qb) (E:Qb),Q (.int (g i j) s.toks) { s with toks:=s.toks+1 }->wpAny (model X.prog X.w) X.A (f (.int i t) (.int j u)) Q E s) :
 OpR X f (rI0 fun i j=>.int (g i j)):=by
 intro Xbs s σ H x y v u Q I rx ry h;obtain⟨i,j,rfl,rfl,q⟩:=h
 obtain⟨t,rfl⟩:=rx
 obtain⟨t',rfl⟩:=ry
 exact rule i j t t' s _ _ ⟨.int (g i j),H,I.tok _,⟨_,rfl⟩,q⟩
theorem Dk {f:Value->Value->Sem Value}{g:Int->Int->Bool}
 (rule:∀(i j:Int) (t u:Tok) (s:Shared) (Q:Qb) (E:Qb),Q (.bool (g i j)) s->wpAny (model X.prog X.w) X.A (f (.int i t) (.int j u)) Q E s) :
 OpR X f (rI0 fun i j=>.bl (g i j)):=by
 intro Xbs s σ H x y v u Q I rx ry h;obtain⟨i,j,rfl,rfl,q⟩:=h
 obtain⟨t,rfl⟩:=rx
 obtain⟨t',rfl⟩:=ry
 exact rule i j t t' s _ _ ⟨.bl (g i j),H,I,rfl,q⟩
def Dq (i j:Int):Prop:=0<=j/\j<=1000000/\i.natAbs<2^64
def Bu (i j:Int):Prop:=(-(2^64)<i/\i<2^64)\/(-(2^64)<j/\j<2^64)
theorem Bu.ok {i j:Int}(h:Bu i j):IntMulOk i j:=by
 rcases h with ⟨h1,h2⟩|⟨h1,h2⟩
 ·exact .of_left (intBits_le_64 h1 h2)
 ·exact .of_right (intBits_le_64 h1 h2)
theorem VP:OpR X (binaryOp .Add) (rI0 fun i j=>.int (i+j)):=MU fun _ _ _ _ _ _ _ q=>add_int q
theorem YI:OpR X (binaryOp .Sub) (rI0 fun i j=>.int (i-j)):=MU fun _ _ _ _ _ _ _ q=>sub_int q
theorem JY:OpR X (binaryOp .Mult) (rI Bu fun i j=>.int (i*j)):=opI fun _ _ _ _ _ _ _ hc q=>mul_int q hc.ok
theorem Vi:OpR X (binaryOp .Mod) (rI (fun _ j=>0<j) fun i j=>.int (i%j)):=opI fun i j _ _ _ _ _ hc q=>by
 have h1:(0:Int)<j:=hc
 exact mod_int' (by omega) (by rw[Int.fmod_eq_emod_of_nonneg i (by omega)];exact q)
theorem BC:OpR X (binaryOp .Pow) (rI Dq fun i j=>.int (i^j.toNat)):=opI fun _ _ _ _ _ _ _ hc q=>pow_int_small hc.1 hc.2.1 hc.2.2 q
theorem DM:OpR X (binaryOp .BitXor) (rI0 fun i j=>.int (Builtin.bitXor i j)):=MU fun _ _ _ _ _ _ _ q=>xor_int q
theorem unI {f:Value->Sem Value}{g:Int->Int}
 (rule:∀(i:Int) (t:Tok) (s:Shared) (Q:Qb) (E:Qb),Q (.int (g i) s.toks) { s with toks:=s.toks+1 }->wpAny (model X.prog X.w) X.A (f (.int i t)) Q E s) :
 UnR X f (rU fun i=>.int (g i)):=by
 intro Xbs s σ H x v Q I rx h;obtain⟨i,rfl,q⟩:=h
 obtain⟨t,rfl⟩:=rx
 exact rule i t s _ _ ⟨.int (g i),H,I.tok _,⟨_,rfl⟩,q⟩
theorem R9:UnR X (unaryOp .USub) (rU fun i=>.int (-i)):=unI fun _ _ _ _ _ q=>neg_int q
end
def Ny:V->V->Bool
 |.non,.non=>true|.non,.int _=>true|.int _,.non=>true|.non,.bl _=>true|.bl _,.non=>true|.non,.str _=>true|.str _,.non=>true
 |.int _,.int _=>true|.bl _,.bl _=>true|.str _,.str _=>true|.byt _,.byt _=>true
 |.int _,.str _=>true|.str _,.int _=>true|.bl _,.str _=>true|.str _,.bl _=>true
 |_,_=>false
def rEq:R2:=fun x y H Q=>Ny x y=true/\Q (.bl (decide (x=y))) H
def rNe:R2:=fun x y H Q=>Ny x y=true/\Q (.bl (!decide (x=y))) H
theorem SA {i j:Int}:decide (V.int i=V.int j)=(i==j):=by
 rw[Uv];simp
theorem RW {i j:Bool}:decide (V.bl i=V.bl j)=(i==j):=by
 rw[Uv];simp
theorem Sj {i j:Str}:decide (V.str i=V.str j)=(i==j):=by
 rw[Uv];simp
theorem Sk {i j:Array UInt8}:decide (V.byt i=V.byt j)=(i.toList==j.toList):=by
 rw[Uv];cases i
 cases j
 simp
section
variable {X:Cx}{a b c:Expr}{ta tb tc:TE}{pos:Pos}
theorem Z6 {Xbs:Qc}{σ:St}{H:Hp}{s:Shared}{Q:VK}{k k':Bool}(I:Qr X Xbs σ H s)(q:Q (.bl k) H)(e:k=k'):EP X Xbs σ Q (.bool k') s:=by
 subst e;exact⟨.bl k,H,I,rfl,q⟩
theorem UF:OpR X (compareOp .Eq) rEq:=by
 intro Xbs s σ H x y v u Q I rx ry h;obtain⟨hs,q⟩:=h
 cases x with
 |non =>
   cases rx
   cases y with
   |non=>cases ry;exact PySem.EqNone.eq_none_none (Z6 I q (by simp))
   |bl j=>cases ry;exact PySem.EqNone.eq_none_bool (Z6 I q (by simp))
   |int j=>obtain⟨t',rfl⟩:=ry;exact PySem.EqNone.eq_none_int (Z6 I q (by simp))
   |str j=>obtain⟨t',rfl⟩:=ry;exact PySem.EqNone.eq_none_str (Z6 I q (by simp))
   |_=>exact Xl (show false=true from hs) Xp
 |bl i =>
   cases rx
   cases y with
   |non=>cases ry;exact PySem.EqNone.eq_bool_none (Z6 I q (by simp))
   |bl j=>cases ry;exact eq_bool (Z6 I q RW)
   |str j=>obtain⟨t',rfl⟩:=ry;exact PySem.EqMixed.eq_bool_str (Z6 I q (by simp))
   |_=>exact Xl (show false=true from hs) Xp
 |int i =>
   obtain⟨t,rfl⟩:=rx
   cases y with
   |non=>cases ry;exact PySem.EqNone.eq_int_none (Z6 I q (by simp))
   |int j=>obtain⟨t',rfl⟩:=ry;exact eq_int (Z6 I q SA)
   |str j=>obtain⟨t',rfl⟩:=ry;exact PySem.EqMixed.eq_int_str (Z6 I q (by simp))
   |_=>exact Xl (show false=true from hs) Xp
 |str i =>
   obtain⟨t,rfl⟩:=rx
   cases y with
   |non=>cases ry;exact PySem.EqNone.eq_str_none (Z6 I q (by simp))
   |bl j=>cases ry;exact PySem.EqMixed.eq_str_bool (Z6 I q (by simp))
   |int j=>obtain⟨t',rfl⟩:=ry;exact PySem.EqMixed.eq_str_int (Z6 I q (by simp))
   |str j=>obtain⟨t',rfl⟩:=ry;exact eq_str (Z6 I q Sj)
   |_=>exact Xl (show false=true from hs) Xp
 |byt i =>
   obtain⟨t,rfl⟩:=rx
   cases y with
   |byt j=>obtain⟨t',rfl⟩:=ry;exact W.eq_bytes (Z6 I q Sk)
   |_=>exact Xl (show false=true from hs) Xp
 |_=>cases y<;>exact Xl (show false=true from hs) Xp
theorem NH:OpR X (compareOp .NotEq) rNe:=by
 intro Xbs s σ H x y v u Q I rx ry h;obtain⟨hs,q⟩:=h
 cases x with
 |non =>
   cases rx
   cases y with
   |non=>cases ry;exact PySem.EqNone.ne_none_none (Z6 I q (by simp))
   |bl j=>cases ry;exact PySem.EqNone.ne_none_bool (Z6 I q (by simp))
   |int j=>obtain⟨t',rfl⟩:=ry;exact PySem.EqNone.ne_none_int (Z6 I q (by simp))
   |str j=>obtain⟨t',rfl⟩:=ry;exact PySem.EqNone.ne_none_str (Z6 I q (by simp))
   |_=>exact Xl (show false=true from hs) Xp
 |bl i =>
   cases rx
   cases y with
   |non=>cases ry;exact PySem.EqNone.ne_bool_none (Z6 I q (by simp))
   |bl j=>cases ry;exact ne_bool (Z6 I q (ZD not RW))
   |str j=>obtain⟨t',rfl⟩:=ry;exact PySem.EqMixed.ne_bool_str (Z6 I q (by simp))
   |_=>exact Xl (show false=true from hs) Xp
 |int i =>
   obtain⟨t,rfl⟩:=rx
   cases y with
   |non=>cases ry;exact PySem.EqNone.ne_int_none (Z6 I q (by simp))
   |int j=>obtain⟨t',rfl⟩:=ry;exact ne_int (Z6 I q (ZD not SA))
   |str j=>obtain⟨t',rfl⟩:=ry;exact PySem.EqMixed.ne_int_str (Z6 I q (by simp))
   |_=>exact Xl (show false=true from hs) Xp
 |str i =>
   obtain⟨t,rfl⟩:=rx
   cases y with
   |non=>cases ry;exact PySem.EqNone.ne_str_none (Z6 I q (by simp))
   |bl j=>cases ry;exact PySem.EqMixed.ne_str_bool (Z6 I q (by simp))
   |int j=>obtain⟨t',rfl⟩:=ry;exact PySem.EqMixed.ne_str_int (Z6 I q (by simp))
   |str j=>obtain⟨t',rfl⟩:=ry;exact ne_str (Z6 I q (ZD not Sj))
   |_=>exact Xl (show false=true from hs) Xp
 |byt i =>
   obtain⟨t,rfl⟩:=rx
   cases y with
   |byt j=>obtain⟨t',rfl⟩:=ry;exact W.ne_bytes (Z6 I q (ZD not Sk))
   |_=>exact Xl (show false=true from hs) Xp
 |_=>cases y<;>exact Xl (show false=true from hs) Xp
theorem B4:OpR X (compareOp .Lt) (rI0 fun i j=>.bl (decide (i<j))):=Dk fun _ _ _ _ _ _ _ q=>lt_int q
theorem Dz:OpR X (compareOp .LtE) (rI0 fun i j=>.bl (decide (i<=j))):=Dk fun _ _ _ _ _ _ _ q=>le_int q
theorem Jp:OpR X (compareOp .Gt) (rI0 fun i j=>.bl (decide (j<i))):=Dk fun _ _ _ _ _ _ _ q=>gt_int q
theorem ZT (b:Expr){op:CmpOp}(h:op≠.In:=by decide)(h2:op≠.NotIn:=by decide):behindInMarks op b=false:=by
 have e1:(op==CmpOp.In)=false:=by cases op<;>first|rfl|exact Xl rfl h
 have e2:(op==CmpOp.NotIn)=false:=by cases op<;>first|rfl|exact Xl rfl h2
 cases b<;>simp[behindInMarks,e1,e2]
theorem GN {op:CmpOp}{r:R2}(ho:OpR X (compareOp op) r)(ha:PE X a ta)(hb:PE X b tb)(hm:behindInMarks op b=false):PE X (.Compare a [op] [b] pos) (tOp r ta tb):=by
 intro Xbs s σ H Q I h;exact wpAny_Compare1 (De ha hb I h fun v u s2 x y H2 I2 rx ry q=>ho Xbs s2 σ H2 x y v u Q I2 rx ry q) hm
def Rc (t:TE):TT:=fun σ H Q=>t σ H fun x H'=>∃k,x=.bl k/\Q k H'
theorem Vf {op:CmpOp}{r:R2}(ho:OpR X (compareOp op) r)(ha:PE X a ta)(hb:PE X b tb)(hm:behindInMarks op b=false):PT X (.Compare a [op] [b] pos) (Rc (tOp r ta tb)):=by
 intro Xbs s σ H Q I h;refine wpAny_isTrue_Compare1 (Q8 (ha Xbs s σ H _ I h) fun v s1 ⟨x,H1,I1,r1,q1⟩=>Q8 (hb Xbs s1 σ H1 _ I1 q1) fun u s2 ⟨y,H2,I2,r2,q2⟩ =>
  Q8 (ho Xbs s2 σ H2 x y v u _ I2 r1 r2 q2) fun c s3 ⟨z,H3,I3,r3,k,e,q3⟩=>?_) hm
 subst e;cases r3
 exact wpAny_truthy_bool ⟨H3,I3,q3⟩
def RB (r r':R2)(ta tb tc:TE):TE:=fun σ H Q=>ta σ H fun x H1=>tb σ H1 fun y H2=>r x y H2 fun z H3=>∃k,z=.bl k /\
 (if k=true then tc σ H3 fun w' H4=>r' y w' H4 Q else Q (.bl false) H3)
theorem Pi {op op':CmpOp}{r r':R2}(ho:OpR X (compareOp op) r)(ho':OpR X (compareOp op') r')(ha:PE X a ta)(hb:PE X b tb)(hc:PE X c tc)
 (hm:lastMarks [op,op'] [b,c]=false:=by with_unfolding_all rfl):PE X (.Compare a [op,op'] [b,c] pos) (RB r r' ta tb tc):=by
 intro Xbs s σ H Q I h;refine Compare_chain (Q8 (ha Xbs s σ H _ I h) fun v s1 ⟨x,H1,I1,r1,q1⟩=>chain_link (Q8 (hb Xbs s1 σ H1 _ I1 q1) fun u s2 ⟨y,H2,I2,r2,q2⟩ =>
  Q8 (ho Xbs s2 σ H2 x y v u _ I2 r1 r2 q2) fun d s3 ⟨z,H3,I3,r3,k,e,q3⟩=>?_)) hm
 subst e;cases r3
 refine wpAny_truthy_bool ?_
 cases k with
 |false=>exact ite_ff ⟨.bl false,H3,I3,rfl,q3⟩
 |true=>exact ite_tt (chain_last (Q8 (hc Xbs s3 σ H3 _ I3 q3) fun w' s4 ⟨z',H4,I4,r4,q4⟩=>ho' Xbs s4 σ H4 y z' u w' Q I4 r2 r4 q4))
def Ds (K:W.Frag)(x:V)(H:Hp)(k:Bool):Prop :=
 match x with
 |.non=>k=false
 |.bl b=>k=b
 |.int i=>k=(i != 0)
 |.str y=>y.length<=sizeLine/\k=((y.length:Int) != 0)
 |.byt y=>y.size<=sizeLine/\k=((y.size:Int) != 0)
 |.ref p=>(∃xs,SqL K H p xs/\k = !xs.isEmpty)\/(∃xs,SqT K H p xs/\k = !xs.isEmpty)\/∃kvs,H p=some (.dK kvs)/\k = !kvs.isEmpty
 |_=>False
theorem OJ {κ:Type}{kvs:List (κ×V)}{vs:List (κ×Value)}(r:KV kvs vs):(!vs.isEmpty) = !kvs.isEmpty:=by
 cases r<;>rfl
theorem TB {xs:List V}{its:Qe}(r:QP xs its):(!its.toArray.isEmpty) = !xs.isEmpty:=by
 cases r<;>simp
theorem JX:(sizeLine:Nat)<2^63:=by rw[sizeLine_eq];decide
theorem FH:LE X (fun x H Q=>∃k,Ds X.K x H k/\Q k H):=by
 intro Xbs s σ H x v Q I rx h;obtain⟨k,e,q⟩:=h
 have hl:=JX
 have hs:sizeLine=16777216:=sizeLine_eq
 cases x with
 |non =>
   cases rx
   have e':k=false:=e
   subst e';exact truthy_none ⟨H,I,q⟩
 |bl b =>
   cases rx
   have e':k=b:=e
   subst e';exact wpAny_truthy_bool ⟨H,I,q⟩
 |int i =>
   obtain⟨t,rfl⟩:=rx
   have e':k=(i != 0):=e
   subst e';exact PySem.P.truthy_int ⟨H,I,q⟩
 |str y =>
   obtain⟨t,rfl⟩:=rx
   obtain⟨hy,e'⟩:y.length<=sizeLine/\k=((y.length:Int) != 0):=e
   subst e';exact PySem.P.truthy_str (by omega) ⟨H,I.tok _,q⟩
 |byt y =>
   obtain⟨t,rfl⟩:=rx
   obtain⟨hy,e'⟩:y.size<=sizeLine/\k=((y.size:Int) != 0):=e
   subst e';exact W.truthy_bytes (by omega) ⟨H,I.tok _,q⟩
 |ref p =>
   cases rx
   have e':(∃xs,SqL X.K H p xs/\k = !xs.isEmpty)\/(∃xs,SqT X.K H p xs/\k = !xs.isEmpty)\/∃kvs,H p=some (.dK kvs)/\k = !kvs.isEmpty:=e
   rcases e' with ⟨xs,hx,e'⟩|⟨xs,hx,e'⟩|⟨kvs,hx,e'⟩
   ·subst e'
    obtain⟨its,r,pl,hz⟩:=I.list hx
    have hlen:=r.length
    exact wpAny_truthy_list pl.isList (by simp only[Xu];omega) ⟨H,I.tok _,by rw[TB r];exact q⟩
   ·subst e'
    obtain⟨its,r,pl,hz⟩:=I.tuple hx
    have hlen:=r.length
    exact truthy_tuple pl (by simp only[Xu];omega) ⟨H,I.tok _,by rw[TB r];exact q⟩
   ·subst e'
    obtain⟨hz,hS,vs,r,m⟩:kvs.length<=sizeLine/\(p==sysModules)=false/\∃vs,KV kvs vs/\s.heap.DictOf (Ve X.prog X.w) p vs:=I.hok p _ hx
    have hlen:kvs.length=vs.length:=Paired.length r
    exact wpAny_truthy_dict hS m (by omega) ⟨H,I.tok _,by rw[OJ r];exact q⟩
 |_=>exact(show False from e).elim
theorem Ph (ha:PE X a ta)(he:∀whole,isTrue a X.env whole=(do let v <- whole;standAt a.pos;holding [v] (truthy v))) :
 PT X a (fun σ H Q=>ta σ H fun x H'=>∃k,Ds X.K x H' k/\Q k H'):=by
 intro Xbs s σ H Q I h;exact isTrue_plain (Q8 (ha Xbs s σ H _ I h) fun v s1 ⟨x,H1,I1,r1,q1⟩=>FH Xbs s1 σ H1 x v Q I1 r1 q1) (he _)
theorem Jq {x:V}{us:Qe}(r:QP [x] us):∃u,us=[u]/\QK x u:=by
 cases r with
 |cons r1 r2=>cases r2;exact⟨_,rfl,r1⟩
theorem Gr {x y:V}{us:Qe}(r:QP [x,y] us):∃u w',us=[u,w']/\QK x u/\QK y w':=by
 cases r with
 |cons r1 r2 =>
   cases r2 with
   |cons r3 r4=>cases r4;exact⟨_,_,rfl,r1,r3⟩
theorem AR:Vn X (.builtin "abs") (fun xs H Q=>∃i,xs=[.int i]/\Q (.int (if i<0 then -i else i)) H):=by
 intro Xbs s σ H xs us Q I r h;obtain⟨i,rfl,q⟩:=h
 obtain⟨u,rfl,t,rfl⟩:=Jq r
 exact call_abs_int fun u tk=>⟨.int (if i<0 then -i else i),H,I.tok _,⟨_,rfl⟩,q⟩
theorem Iz (hc:X.calm=true):Vn X (.builtin "max") (fun xs H Q=>∃i j,xs=[.int i,.int j]/\Q (.int (if j > i then j else i)) H):=by
 intro Xbs s σ H xs us Q I r h;obtain⟨i,j,rfl,q⟩:=h
 obtain⟨u,w',rfl,⟨t,rfl⟩,⟨t',rfl⟩⟩:=Gr r
 refine max_two_ints (I.ok.hd hc) fun h' tk k=>⟨_,H,I.kept k,?_,q⟩
 by_cases hj:j > i
 ·rw[Xc hj,Xc hj];exact⟨_,rfl⟩
 ·rw[Xb hj,Xb hj];exact⟨_,rfl⟩
theorem Os (hc:X.calm=true):Vn X (.builtin "min") (fun xs H Q=>∃i j,xs=[.int i,.int j]/\Q (.int (if j<i then j else i)) H):=by
 intro Xbs s σ H xs us Q I r h;obtain⟨i,j,rfl,q⟩:=h
 obtain⟨u,w',rfl,⟨t,rfl⟩,⟨t',rfl⟩⟩:=Gr r
 refine min_two_ints (I.ok.hd hc) fun h' tk k=>⟨_,H,I.kept k,?_,q⟩
 by_cases hj:j<i
 ·rw[Xc hj,Xc hj];exact⟨_,rfl⟩
 ·rw[Xb hj,Xb hj];exact⟨_,rfl⟩
end
structure ObjM (h:Heap)(x dx C:Addr)(mA:Str->Qf):Prop where
 obj:h.get? x=some (W.instObj C dx)
 ns:h.Ns1 dx mA
 ne:dx≠x
theorem EI {h:Heap}{dx:Addr}{mA:Str->Qf}(n:h.Ns1 dx mA):∃od,h.get? dx=some od/\∀name,W.lookIn name od=some (mA name):=by
 obtain⟨o,es,ep,ho,hd,hk,_,hm⟩:=n
 refine⟨o,ho,fun name=>?_⟩
 have e:=hm name
 unfold nsFind findBy at e;rw[<- Array.find?_toList]at e;unfold W.lookIn;rw[hd];dsimp only;split
 ·rename_i y q
  rw[q]at e;exact ZD some e
 ·rename_i q
  rw[q]at e;have a:es.toList.any (·.refKey)=false:=by
   rw[List.any_eq_false];intro y hy;obtain⟨z,t,hkey⟩:=hk y (Array.mem_toList_iff.mp hy)
   simp[DictEntry.refKey,hkey]
  have a':¬es.toList.any (·.refKey)=true:=by rw[a];exact Xp
  rw[Xb a'];exact ZD some e
theorem ObjM.look {h:Heap}{x dx C:Addr}{mA:Str->Qf}(I:ObjM h x dx C mA):∃od,W.InstAt h x (W.instObj C dx) C (some od)/\∀name,W.lookIn name od=some (mA name) :=
 let ⟨od,ho,hl⟩:=EI I.ns
 ⟨od,⟨I.obj,rfl,rfl,ho⟩,hl⟩
section
variable {prog:Program}{w:World}{A:Around}{E:Qb}{s:Shared}{K:W.Frag}{x dx C f:Addr}{mA:Str->Qf}{name:Str}{v:Value}
theorem Ch {expr:Bool}{Q:Qb}(X:K.In s.heap)(I:ObjM s.heap x dx C mA)(hg:W.plainGet K C name=true)(hh:W.hasDictIn K C=true)
 (ha:W.findIn K (.ref C) name=some none) (hv:mA name=some v) (hv':W.handedIn v=true) (h:Q v { s with toks:=s.toks+1 }) :
 wpAny (model prog w) A (getAttr (.ref x) name expr) Q E s:=by
 obtain⟨od,J,hl⟩:=I.look
 exact W.get_value X J (W.plainGet_of hg).1 (W.findObj_own hh ha rfl (by rw[hl,hv])) hv' h
theorem Ic {pl:Sem Bool}{Q:Value×Qe->Shared->Prop}(X:K.In s.heap)(I:ObjM s.heap x dx C mA)(hg:W.plainGet K C name=true)
 (hf:W.findIn K (.ref C) name=some (some (.ref f))) (ht:W.isFn K (.ref f)=true) (hv:mA name=none) (h:Q (.ref f,[.ref x]) s) :
 wpAny (model prog w) A (getMethod (.ref x) name pl) Q E s:=by
 obtain⟨od,J,hl⟩:=I.look
 exact W.method_fn X J (W.plainGet_of hg).1 (W.plainGet_of hg).2 hf (beq_iff_eq.mp ht) (by show(W.lookIn name od).map (·.isSome)=some false;rw[hl,hv];rfl) h
theorem UN {ns:Qh}{Q:Unit->Shared->Prop}(X:K.In s.heap)(I:ObjM s.heap x dx C mA)
 (hs:W.findIn K (.ref C) "__setattr__"=some (some (.builtin "object.__setattr__"))) (hp:W.plainOver K C=true) (ht:W.takerIn K C name=some none) (hh:W.hasDictIn K C=true)
 (hw:PySem.Within mA ns) (hsz:ns.length<=sizeLine)
 (h:∀h',ObjM h' x dx C (fun y=>if y=name then some v else mA y)->Heap.SameBut dx s.heap h'->Q () { s with heap:=h',toks:=s.toks+2 }) :
 wpAny (model prog w) A (setAttr (.ref x) name v) Q E s:=by
 obtain⟨od,J,hl⟩:=I.look
 refine W.set_plain X J hs (W.osa_open (s:={ s with toks:=s.toks+1 }) (r:=none) X J hp ht fun b=>?_)
 obtain⟨cd,hc,hd'⟩:=W.any_some hh
 have hx:s.heap.get? x=some ⟨.ref C,some dx,.plain,#[]⟩:=I.obj
 refine Xa (Xi (Xa (Xa (wpAny_loadPart hx (Xa (W.Looks.here (s:={ s with toks:=s.toks+1 }) (W.looks_clsIn X hc) ?_))))))
 rw[hd'];refine Xi (a:=some dx) (Xa (Xi (Xa ?_)))
 refine wpAny_nsSet1 (s:={ s with toks:=s.toks+1 }) I.ns fun h' hn2 hs2=>?_
 obtain⟨oD,esD,epD,hoD,hdD,hcD⟩:=hn2.count (PySem.Within.cons name v hw)
 refine Xa (wpAny_lookBehind hoD (by rw[hdD];exact pastItsLine_dict (XN hcD (by rw[XJ];omega))) ?_)
 exact Xi (h _ ⟨(hs2.2 _ (Ne.symm I.ne)).trans I.obj,hn2,I.ne⟩ hs2)
theorem AX {R:Result->Shared->Prop}{vs:Qe}{kw:List (Str×Value)}(X:K.In s.heap)(hm:W.makesIn K C=true)
 (hi:W.findIn K (.ref C) "__init__"=some (some (.ref f))) (hf:W.typeIn K (.ref f)=some (.type "function"))
 (h:codeAny (model prog w) (A.under (.builtin "type.__call__" ⟨.ref C::vs,kw⟩)) (.call (.ref f) ⟨.ref (s.heap.objs.size+1)::vs,kw⟩) (W.InitBack (s.heap.objs.size+1) R)
  { s with heap:=(s.heap.push W.emptyDict).push (W.instObj C s.heap.objs.size) }) :
 codeAny (model prog w) A (.call (.ref C) ⟨vs,kw⟩) R s:=by
 obtain⟨hh,g,d,t,os⟩:=s
 exact W.make_core (W.makes_of X hm) (W.looks_findIn X hi) (fun self=>W.bind_fn X self hf) (.inl rfl) h
end
def VT (f:Str)(v:V):List (Str×V)->List (Str×V)
 |[]=>[(f,v)]
 |(g,x)::r=>if g=f then (g,v)::r else (g,x)::VT f v r
theorem Lf (f g:Str)(v:V):∀fs:List (Str×V),(VT f v fs).lookup g=if g=f then some v else fs.lookup g
 |[]=>by
   show List.lookup g [(f,v)]=_
   by_cases h:g=f
   ·have hb:(g==f)=true:=beq_iff_eq.mpr h
    simp only[List.lookup,hb,Xc h]
   ·have hb:(g==f)=false:=beq_eq_false_iff_ne.mpr h
    simp only[List.lookup,hb,Xb h]
 |(k,x)::r=>by
   have ih:=Lf f g v r
   rw[show VT f v ((k,x)::r)=(if k=f then (k,v)::r else (k,x)::VT f v r) from rfl];by_cases hk:k=f
   ·rw[Xc hk]
    by_cases h:g=k
    ·have hb:(g==k)=true:=beq_iff_eq.mpr h
     simp only[List.lookup,hb,Xc (h.trans hk)]
    ·have hb:(g==k)=false:=beq_eq_false_iff_ne.mpr h
     simp only[List.lookup,hb,Xb (fun e:g=f=>h (e.trans hk.symm))]
   ·rw[Xb hk]
    by_cases h:g=k
    ·have hb:(g==k)=true:=beq_iff_eq.mpr h
     simp only[List.lookup,hb,Xb (fun e:g=f=>hk (h.symm.trans e))]
    ·have hb:(g==k)=false:=beq_eq_false_iff_ne.mpr h
     simp only[List.lookup,hb];exact ih
theorem Kh (f:Str)(v:V):∀fs:List (Str×V),f∈(VT f v fs).map (·.1)/\∀g,g∈fs.map (·.1)->g∈(VT f v fs).map (·.1)
 |[]=>⟨by simp[VT],fun g h=>by simp at h⟩
 |(k,x)::r=>by
   obtain⟨i1,i2⟩:=Kh f v r
   rw[show VT f v ((k,x)::r)=(if k=f then (k,v)::r else (k,x)::VT f v r) from rfl];by_cases hk:k=f
   ·rw[Xc hk]
    subst hk;exact⟨by simp,fun g h=>by simpa using h⟩
   ·rw[Xb hk]
    refine⟨?_,fun g h=>?_⟩
    ·rw[Xt]
     exact Xe _ i1
    ·rw[Xt]at h ⊢
     rcases Xg.mp h with e|e
     ·exact Xg.mpr (.inl e)
     ·exact Xe _ (i2 g e)
theorem TY (f:Str)(v:V):∀fs:List (Str×V),(VT f v fs).length<=fs.length+1
 |[]=>by simp[VT]
 |(k,x)::r=>by
   have ih:=TY f v r
   rw[show VT f v ((k,x)::r)=(if k=f then (k,v)::r else (k,x)::VT f v r) from rfl];by_cases hk:k=f
   ·rw[Xc hk,XJ,XJ];omega
   ·rw[Xb hk,XJ,XJ];omega
theorem ZQ.some_of {v:V}{o:Qf}(r:ZQ (some v) o):∃u,o=some u/\QK v u:=by
 cases o with
 |none=>exact(show False from r).elim
 |some u=>exact⟨u,rfl,r⟩
theorem ZQ.none_of {o:Qf}(r:ZQ none o):o=none:=by
 cases o with
 |none=>rfl
 |some u=>exact(show False from r).elim
theorem O7 {v:V}{u:Value}(r:QK v u):W.handedIn u=true:=by
 cases v with
 |non=>cases (show u=Value.none from r);rfl
 |bl b=>cases (show u=Value.bool b from r);rfl
 |int i=>obtain⟨t,e⟩:=(show ∃t,u=Value.int i t from r);cases e;rfl
 |str x=>obtain⟨t,e⟩:=(show ∃t,u=Value.str x t from r);cases e;rfl
 |byt b=>obtain⟨t,e⟩:=(show ∃t,u=Value.bytes b t from r);cases e;rfl
 |flt b=>obtain⟨t,e⟩:=(show ∃t,u=Value.float b t from r);cases e;rfl
 |ref a=>cases (show u=Value.ref a from r);rfl
 |ty n=>cases (show u=Value.type n from r);rfl
section
variable {P:Program}{w:World}{H H':Hp}{h h':Heap}{a C dx:Addr}{fs fs':List (Str×V)}
theorem Hr (hok:HOk P w H h)(e:H a=some (.ins C dx fs)):∃mA,ObjM h a dx C mA/\(∀f,ZQ (fs.lookup f) (mA f))/\PySem.Within mA (fs.map (·.1))/\fs.length<=1000/\H dx=some (.own a):=by
 obtain⟨d,z,ne,ob,mA,n,r,q⟩:=(show Z7 P w H h a (.ins C dx fs) from hok a _ e)
 exact⟨mA,⟨ob,n,ne⟩,r,q,z,d⟩
end
structure Cls (K:W.Frag)(C:Addr):Prop where
 pg:W.plainGet K C Str.empty=true
 hd:W.hasDictIn K C=true
 po:W.plainOver K C=true
 sa:W.findIn K (.ref C) "__setattr__"=some (some (.builtin "object.__setattr__"))
theorem Cls.get {K:W.Frag}{C:Addr}(c:Cls K C)(f:Str):W.plainGet K C f=true:=c.pg
def Ww (K:W.Frag)(C:Addr)(f:Str):Prop:=W.findIn K (.ref C) f=some none
theorem Ww.taker {K:W.Frag}{C:Addr}{f:Str}(n:Ww K C f):W.takerIn K C f=some none:=by
 unfold W.takerIn;rw[show W.findIn K (.ref C) f=some none from n];rfl
structure Meth (K:W.Frag)(C:Addr)(m:Str)(f:Addr):Prop where
 at_:W.findIn K (.ref C) m=some (some (.ref f))
 fn:W.isFn K (.ref f)=true
 kp:W.keepIn K (.ref f)=true
section
variable {X:Cx}{Xbs:Qc}{σ:St}{H:Hp}{s:Shared}{a C dx:Addr}{fs:List (Str×V)}{f:Str}{v:V}{A:Around}{E:Qb}
theorem OV {b:Bool}{Q:Qb}(I:Qr X Xbs σ H s)(e:H a=some (.ins C dx fs))(c:Cls X.K C)(n:Ww X.K C f)(l:fs.lookup f=some v)
 (h:∀u s',Qr X Xbs σ H s'->QK v u->Q u s'):wpAny (model X.prog X.w) A (getAttr (.ref a) f b) Q E s:=by
 obtain⟨mA,O,r,_,_,_⟩:=Hr I.hok e
 obtain⟨u,hu,ru⟩:=ZQ.some_of (v:=v) (o:=mA f) (by rw[<- l];exact r f)
 exact Ch I.kIn O (c.get f) c.hd n hu (O7 ru) (h u _ (I.tok _) ru)
theorem OS {m:Str}{g:Addr}{pl:Sem Bool}{Q:Value×Qe->Shared->Prop}(I:Qr X Xbs σ H s)(e:H a=some (.ins C dx fs))(c:Cls X.K C)(k:Meth X.K C m g)(l:fs.lookup m=none)
 (h:Q (.ref g,[.ref a]) s):wpAny (model X.prog X.w) A (getMethod (.ref a) m pl) Q E s:=by
 obtain⟨mA,O,r,_,_,_⟩:=Hr I.hok e
 have hn:mA m=none:=ZQ.none_of (by rw[<- l];exact r m)
 exact Ic I.kIn O (c.get m) k.at_ k.fn hn h
theorem ON {y:V}{u:Value}{Q:Unit->Shared->Prop}(I:Qr X Xbs σ H s)(e:H a=some (.ins C dx fs))(c:Cls X.K C)(n:Ww X.K C f)(hl:fs.length<1000)(ry:QK y u)
 (h:∀s',Qr X Xbs σ (upd H a (.ins C dx (VT f y fs))) s'->Q () s'):wpAny (model X.prog X.w) A (setAttr (.ref a) f u) Q E s:=by
 obtain⟨mA,O,r,wi,_,ho⟩:=Hr I.hok e
 have hz:(fs.map (·.1)).length<=sizeLine:=by rw[Xm,sizeLine_eq];omega
 refine UN I.kIn O c.sa c.po n.taker c.hd wi hz fun h' O' sb=>h _ ?_
 have hd:∃o,h'.get? dx=some o:=let ⟨o,_,_,e',_⟩:=O'.ns;⟨o,e'⟩
 refine I.write (x:=a) (e:=dx) (by rw[e];exact True.intro) (.inr ho) (fun b q hb z=>(sb.2 b hb).trans z) hd ?_
 refine⟨by rw[Qx O.ne];exact ho,?_,O.ne,O'.obj,_,O'.ns,fun g=>?_,fun g hg=>?_⟩
 ·have:=TY f y fs;omega
 ·show ZQ ((VT f y fs).lookup g) (if g=f then some u else mA g)
  rw[Lf];by_cases q:g=f
  ·rw[Xc q,Xc q];exact ry
  ·rw[Xb q,Xb q];exact r g
 ·by_cases q:g=f
  ·rw[q];exact(Kh f y fs).1
  ·refine(Kh f y fs).2 g (wi g fun z=>hg ?_)
   show(if g=f then some u else mA g)=none
   rw[Xb q];exact z
theorem Qr.made (I:Qr X Xbs σ H s):Qr X Xbs σ (upd (upd H s.heap.objs.size (.own (s.heap.objs.size+1))) (s.heap.objs.size+1) (.ins C s.heap.objs.size []))
 { s with heap:=(s.heap.push W.emptyDict).push (W.instObj C s.heap.objs.size) }:=by
 have e1:(s.heap.push W.emptyDict).get? s.heap.objs.size=some W.emptyDict:=XQ s.heap rfl
 have e2:((s.heap.push W.emptyDict).push (W.instObj C s.heap.objs.size)).get? (s.heap.objs.size+1)=some (W.instObj C s.heap.objs.size):=by
  have:=XQ (s.heap.push W.emptyDict) (o:=W.instObj C s.heap.objs.size) rfl
  rwa [Gh]at this
 have e3:(s.heap.push W.emptyDict).Ns s.heap.objs.size (fun _=>none):=⟨W.emptyDict,#[],_,e1,rfl,(fun e he=>Xl he (by simp)),fun _=>rfl⟩
 have I1:=I.laid (a:=s.heap.objs.size) (o:=.own (s.heap.objs.size+1)) (h':=s.heap.push W.emptyDict) (t':=s.toks) (fun b u q=>Xf _ q) (Xs _) ⟨_,e1⟩
 refine I1.laid (a:=s.heap.objs.size+1) (o:=.ins C s.heap.objs.size []) (t':=s.toks) (fun b u q=>Xf _ q) (Nat.le_of_eq (Gh _ _)) ?_
 have ne:s.heap.objs.size≠s.heap.objs.size+1:=Xo (Uy _)
 refine⟨by rw[Qx ne,QR],Vl _,ne,e2,fun _=>none,(Heap.Ns1.of_empty e3).at fun o q=>Xf _ q,fun _=>True.intro,fun y hy=>Xl rfl hy⟩
theorem As {prog:Program}{w:World}{env:Env}{e:Expr}{f:Str}{pos:Pos}{s:Shared}{Q:Qb}(hb:attributeBase e f env (eval e env)=eval e env)
 (h:wpAny (model prog w) A (eval e env) (fun o b7=>wpAny (model prog w) A (getAttr o f true) Q E b7) E s):wpAny (model prog w) A (eval (.Attribute e f pos) env) Q E s :=
 Attribute_any_ h (by rw[arm_eval_Attribute,hb])
end
def Yt (K:W.Frag)(ta:TE)(f:Str):TE:=fun σ H Q=>ta σ H fun x H1=>∃a C dx fs v,x=.ref a/\H1 a=some (.ins C dx fs)/\Cls K C/\Ww K C f/\fs.lookup f=some v/\Q v H1
def LI (K:W.Frag)(ta tv:TE)(f:Str):TS:=fun D σ H=>tv σ H fun y H1=>ta σ H1 fun x H2=>∃a C dx fs,x=.ref a/\H2 a=some (.ins C dx fs)/\Cls K C/\Ww K C f/\fs.length<1000 /\
 D.nx σ (upd H2 a (.ins C dx (VT f y fs)))
section
variable {X:Cx}{o e value:Expr}{f:Str}{pos pos' tpos:Pos}{ta tv:TE}
theorem VC (he:PE X e ta)(hb:attributeBase e f X.env (eval e X.env)=eval e X.env):PE X (.Attribute e f pos) (Yt X.K ta f):=by
 intro Xbs s σ H Q I h;refine As hb (Q8 (he Xbs s σ H _ I h) fun u s1 ⟨x,H1,I1,rx,a,C,dx,fs,v,ex,ea,c,n,l,q⟩=>?_)
 subst ex;obtain rfl:u=Value.ref a:=rx
 exact OV I1 ea c n l fun u' s2 I2 ru=>⟨v,H1,I2,ru,q⟩
theorem BE (ha:PE X o ta)(hv:PE X value tv)(hs:swapsWith value (some (.Attribute o f pos')) pos.line X.env=pure false):PS X (.Assign [.Attribute o f pos'] value pos) (LI X.K ta tv f):=by
 intro Xbs s σ H D I h;refine plainObj_wpAny_Assign_Attribute (Q8 (hv Xbs s σ H _ I h) fun u s1 ⟨y,H1,I1,ry,q⟩=>Q8 (ha Xbs s1 σ H1 _ I1 q) fun ov s2 ⟨x,H2,I2,rx,a,C,dx,fs,ex,ea,c,n,l,q2⟩=>?_) hs
 subst ex;obtain rfl:ov=Value.ref a:=rx
 exact ON I2 ea c n l ry fun s3 I3=>⟨σ,_,I3,q2⟩
end
section
variable {X:Cx}{Xbs:Qc}{σ:St}{H:Hp}{s:Shared}{A:Around}{E:Qb}{Q:Qb}{c:Value}{b:Bool}
end
structure Room (k:Nat)(A:Around):Prop where
 hd:A.handled=none
 dp:A.depth+3*k+5<recursionLimit
 un:A.units+16*k+200<cLine
theorem Room.mono {j k:Nat}{A:Around}(r:Room k A)(h:j<=k):Room j A:=⟨r.hd,by have:=r.dp;omega,by have:=r.un;omega⟩
theorem Room.deeper {k:Nat}{A:Around}(r:Room (k+1) A)(env:Env):Room k (A.deeper env) :=
 ⟨r.hd,by have:=r.dp;show A.depth+1+3*k+5<_;omega,by have:=r.un;show A.units+3+16*k+200<_;omega⟩
theorem OP {A:Around} {C:Addr} {us:Qe} {kw:List (Str×Value)}:(A.under (.builtin "type.__call__" ⟨.ref C::us,kw⟩)).depth=A.depth+1:=by
 first|rfl|simp[Around.under,Code.weight,Code.isCreation,Code.isGuard,Code.isCaller,Code.frames,Code.isFrame,guardIds]
theorem Zm0 {A:Around} {C:Addr} {us:Qe} {kw:List (Str×Value)}:(A.under (.builtin "type.__call__" ⟨.ref C::us,kw⟩)).units=A.units+1:=by
 first|rfl|simp[Around.under,Code.cUnits,Code.frames,Code.isFrame]
theorem Room.make {k:Nat} {A:Around} (r:Room (k+1) A) (C:Addr) (us:Qe) (kw:List (Str×Value)):Room k (A.under (.builtin "type.__call__" ⟨.ref C::us,kw⟩)) :=
 ⟨r.hd,by have:=r.dp;rw[OP];omega,by have:=r.un;rw[Zm0];omega⟩
theorem Room.depth {k:Nat}{A:Around}(r:Room k A):A.depth<recursionLimit:=by have:=r.dp;omega
theorem Room.units {k:Nat}{A:Around}(r:Room k A):A.units+64<cLine:=by have:=r.un;omega
def Zm:TA:=fun _ H Q=>Q [] H
def QZ (ta:TE)(tr:TA):TA:=fun σ H Q=>ta σ H fun x H1=>tr σ H1 fun xs H2=>Q (x::xs) H2
section
variable {X:Cx}{e:Expr}{es:Qi}{te:TE}{t:TA}{pos:Pos}
theorem Qs:PA X [] Zm:=fun _ _ _ _ H Q I h=>Calls.spliced_nil ⟨[],H,I,.nil,h⟩
theorem Qo (ha:PE X e te)(hr:PA X es t)(hs:starEach (e::es) X.env=(false,eval e X.env)::starEach es X.env:=by rfl):PA X (e::es) (QZ te t):=by
 intro pos Xbs s σ H Q I h;rw[hs];show wpAny _ _ (spliced ((false,eval e X.env)::backTo pos (starEach es X.env))) _ _ s
 refine Calls.spliced_cons (Q8 (ha Xbs s σ H _ I h) fun u s1 ⟨x,H1,I1,r1,q1⟩=>?_)
 exact Q8 (hr pos Xbs s1 σ H1 _ I1 q1) fun us s2 ⟨xs,H2,I2,r2,q2⟩=>⟨x::xs,H2,I2,.cons r1 r2,q2⟩
def Bw (t:TA):TE:=fun σ H Q=>t σ H fun xs H1=>xs.length<=sizeLine/\∀p,H1 p=none->Q (.ref p) (upd H1 p (.tup xs))
def Gp (t:TA):TE:=fun σ H Q=>t σ H fun xs H1=>xs.length<=sizeLine/\∀p,H1 p=none->Q (.ref p) (upd H1 p (.lst xs))
theorem ZB {x1}(h:PA X es t):PE X (.Tuple es x1 pos) (Bw t):=by
 intro Xbs s σ H Q I hq;refine wpAny_Tuple_spliced (Q8 (h pos Xbs s σ H _ I hq) fun us s1 ⟨xs,H1,I1,r,z,q⟩=>⟨by rw[<- r.length];exact z,?_⟩)
 have hf:H1 s1.heap.objs.size=none:=I1.hok.fresh (Xs _)
 refine⟨.ref s1.heap.objs.size,upd H1 s1.heap.objs.size (.tup xs),I1.laid (t':=s1.toks) (fun b u e=>Xf _ e) (Xs _) ?_,rfl,q _ hf⟩
 exact⟨z,us,r,⟨_,XQ _ rfl,rfl,_,rfl⟩⟩
theorem Vj (h:PA X es t):PE X (.List es pos) (Gp t):=by
 intro Xbs s σ H Q I hq;refine wpAny_List_spliced (Q8 (h pos Xbs s σ H _ I hq) fun us s1 ⟨xs,H1,I1,r,z,q⟩=>⟨by rw[<- r.length];exact z,?_⟩)
 have hf:H1 s1.heap.objs.size=none:=I1.hok.fresh (Xs _)
 refine⟨.ref s1.heap.objs.size,upd H1 s1.heap.objs.size (.lst xs),I1.laid (t':=s1.toks) (fun b u e=>Xf _ e) (Xs _) ?_,rfl,q _ hf⟩
 exact⟨z,us,0,r,XQ _ rfl⟩
end
abbrev Sp:=List V->Hp->VK->XK->Prop
abbrev CXT:=List Env->Hp->Shared->XK->Qb
structure Env0 (P:Program)(w:World)(K:W.Frag)(mg:Str->Qf)(base:Heap)(A:Around)(outer:List Env)(s:Shared)(H:Hp):Prop where
 frames:A.frames=some outer
 mod:Mod K mg base
 bs:∀b o,base.get? b=some o->s.heap.get? b=some o/\(H b=none\/∃xs,H b=some (.tup xs))
 bsz:base.objs.size<=s.heap.objs.size
 funs:s.heap.FunFrames base outer
 frf:∀b∈frs outer,H b=none
 hok:HOk P w H s.heap
 bare:AllBare s.gens
def CE (outer:List Env)(P:Program)(w:World)(H:Hp)(s:Shared)(Q:VK)(u:Value)(s':Shared):Prop :=
 ∃v H',s'.os=s.os/\AllBare s'.gens/\Un (frs outer) [] H H' s.heap s'.heap/\HOk P w H' s'.heap/\QK v u/\Q v H'
def CR (CX:CXT)(outer:List Env)(P:Program)(w:World)(H:Hp)(s:Shared)(Q:VK)(E:XK)(r:Result)(s':Shared):Prop :=
 match r with
 |.ok (.ret u)=>CE outer P w H s Q u s'
 |.ok _=>False
 |.error e=>CX outer H s E e s'
structure FnOk (P:Program)(w:World)(K:W.Frag)(mg:Str->Qf)(base:Heap)(CX:CXT)(k:Nat)(f:Addr)(fd:FuncData)(ps:Qh)(sp:Sp):Prop where
 len:∀vs H Q E,sp vs H Q E->vs.length=ps.length
 run:∀(A:Around) (outer:List Env) (s:Shared) (H:Hp) (args:Args) (us:Qe) (vs:List V) (Q:VK) (E:XK),Room k A->Env0 P w K mg base A outer s H->BindsTo s fd args (ps.zip us)->QP vs us->sp vs H Q E ->
  codeAny (model P w) A (.call (.ref f) args) (CR CX outer P w H s Q E) s
theorem Env0.make {P:Program}{w:World}{K:W.Frag}{mg:Str->Qf}{base:Heap}{A:Around}{outer:List Env}{s:Shared}{H:Hp}(e:Env0 P w K mg base A outer s H)(C:Addr)(us:Qe)(kw:List (Str×Value)) :
 Env0 P w K mg base (A.under (.builtin "type.__call__" ⟨.ref C::us,kw⟩)) outer s H:=⟨by first|exact e.frames|(simpa [Around.under,Code.envs,Code.isFrame,pushEnvs] using e.frames),e.mod,e.bs,e.bsz,e.funs,e.frf,e.hok,e.bare⟩
section
variable {X:Cx}{Xbs:Qc}{σ:St}{H:Hp}{s s':Shared}
theorem Qr.env0 (I:Qr X Xbs σ H s):Env0 X.prog X.w X.K X.mg X.base X.A X.stack s H :=
 ⟨I.ok.frames,I.ok.mod,I.bs,XN I.ok.bsz I.sz,I.stack,I.stkFree,I.hok,I.bare⟩
theorem Qr.after {Q:VK}{u:Value}(I:Qr X Xbs σ H s)(h:CE X.stack X.prog X.w H s Q u s'):EP X Xbs σ Q u s':=by
 obtain⟨v,H',os,bare,un,hok,r,q⟩:=h
 obtain⟨hh,g,d,t,os'⟩:=s'
 obtain rfl:os'=s.os:=os
 exact⟨v,H',I.call (h':=hh) (g':=g) (d':=d) (t':=t) (ch:=[]) un hok bare (fun b z=>Xl z (by simp)),r,q⟩
end
def Yo (sp:Sp)(dvs:List V)(E:XK)(t:TA):TE:=fun σ H Q=>t σ H fun vs H1=>sp (vs++dvs) H1 Q E
def UE (C:Addr)(m:Str)(sp:Sp)(dvs:List V)(E:XK)(ta:TE)(t:TA):TE:=fun σ H Q=>ta σ H fun x H1=>∃a dx fs,x=.ref a/\H1 a=some (.ins C dx fs)/\fs.lookup m=none /\
 t σ H1 fun vs H2=>sp (x::(vs++dvs)) H2 Q E
def Dw (C:Addr)(sp:Sp)(dvs:List V)(E:XK)(t:TA):TE:=fun σ H Q=>t σ H fun vs H1=>∀x dx,H1 x=none->H1 dx=none->dx≠x ->
 sp (.ref x::(vs++dvs)) (upd (upd H1 dx (.own x)) x (.ins C dx [])) (fun v H2=>v=.non/\Q (.ref x) H2) E
def VN (K:W.Frag)(fd:FuncData)(ps:Qh)(ds:Qe):Prop :=
 ∀(s:Shared) (us:Qe),K.In s.heap->(us++ds).length=ps.length->BindsTo s fd ⟨us,[]⟩ (ps.zip (us++ds))
theorem VN.all {K:W.Frag}{fd:FuncData}{ps:Qh}(h:∀us:Qe,us.length=ps.length->bindArgs fd ⟨us,[]⟩=pure (ps.zip us)):VN K fd ps []:=fun s us _ hl=>by
 rw[XV]at hl ⊢;exact .of_eq (h us hl)
def We (CX:CXT)(X:Cx)(E:XK):Prop := ∀(Xbs:Qc) (σ:St) (H:Hp) (s:Shared) (e:Value) (s':Shared),Qr X Xbs σ H s->CX X.stack H s E e s'->X.xe e s'
section
variable {X:Cx}{CX:CXT}{k:Nat}{f C:Addr}{fd:FuncData}{ps:Qh}{sp:Sp}{dvs:List V}{ds:Qe}{E:XK}{x m:Str}{p pos apos:Pos}{e o:Expr}{es:Qi}{ta:TE}{t:TA}
theorem Rw {Xbs:Qc}{σ:St}{H:Hp}{s:Shared}{Q:VK}{us:Qe}{vs:List V}(F:FnOk X.prog X.w X.K X.mg X.base CX k f fd ps sp)(hr:Room k X.A)(hb:VN X.K fd ps ds)(hd:QP dvs ds)(hx:We CX X E)
 (I:Qr X Xbs σ H s) (r:QP vs us) (h:sp (vs++dvs) H Q E):wpAny (model X.prog X.w) X.A (call (.ref f) us) (EP X Xbs σ Q) X.xe s:=by
 have r2:QP (vs++dvs) (us++ds):=r.append hd
 have hl:(us++ds).length=ps.length:=by rw[<- r2.length];exact F.len _ _ _ _ h
 refine wpAny_call (codeAny_mono (F.run X.A X.stack s H ⟨us,[]⟩ (us++ds) (vs++dvs) Q E hr I.env0 (hb s us I.kIn hl) r2 h) fun r s' hq=>?_)
 cases r with
 |error e=>exact hx Xbs σ H s e s' I hq
 |ok fl =>
   cases fl with
   |ret u=>exact I.after hq
   |next=>exact False.elim hq
   |brk=>exact False.elim hq
   |cont=>exact False.elim hq
theorem Sw (F:FnOk X.prog X.w X.K X.mg X.base CX k f fd ps sp)(hr:Room k X.A)(hg:Gl X x)(hm:X.mg x=some (.ref f))(hk:W.keepIn X.K (.ref f)=true)(hb:VN X.K fd ps ds)(hd:QP dvs ds)(hx:We CX X E)
 (ha:PA X (e::es) t) (hdb:(x==("__debug__" : Str))=false:=by decide) (he:starEach (e::es) X.env=(false,eval e X.env)::starEach es X.env:=by rfl) (hpl:(backTo pos (starEach es X.env)).any (·.1)=false:=by rfl) :
 PE X (.Call (.Name x p) (e::es) [] pos) (Yo sp dvs E t):=by
 intro Xbs s σ H Q I h;refine wpAny_Call_Name_kw (UO I hg hm ?_ hdb)
 refine W.callWith_K (h₀:=X.base) I.ok.mod.kin hk (Q8 (ha pos Xbs s σ H _ I h) fun us s1 ⟨vs,H1,I1,r,q⟩=>⟨I1.kIn,?_⟩) he hpl
 exact Rw F hr hb hd hx I1 r q
theorem CZ {pl:Sem Bool}(he:PE X o ta)(c:Cls X.K C)(hm:Meth X.K C m f)(F:FnOk X.prog X.w X.K X.mg X.base CX k f fd ps sp)(hr:Room k X.A)(hb:VN X.K fd ps ds)(hd:QP dvs ds)(hx:We CX X E)(ha:PA X (e::es) t)
 (hst:starEach (e::es) X.env=(false,eval e X.env)::starEach es X.env:=by rfl) (hpl:(backTo pos (starEach es X.env)).any (·.1)=false:=by rfl)
 (ht:eval (.Call (.Attribute o m apos) (e::es) [] pos) X.env=(do
  let ov <- eval o X.env
  standAt apos.atName
  let (f,first) <- holding [ov] (getMethod ov m pl)
  callWith pos f first (backTo pos (starEach (e::es) X.env)) (backToKw pos (keywordEach [] X.env))):=by rfl) :
 PE X (.Call (.Attribute o m apos) (e::es) [] pos) (UE C m sp dvs E ta t):=by
 intro Xbs s σ H Q I h;refine W.methodCall_KW (pl:=pl) (Q8 (he Xbs s σ H _ I h) fun u s1 ⟨x,H1,I1,rx,a,dx,fs,ex,ea,l,q⟩=>?_) ht
 subst ex;obtain rfl:u=Value.ref a:=rx
 refine OS I1 ea c hm l ?_
 refine W.callWith_K (first:=[.ref a]) (h₀:=X.base) I.ok.mod.kin hm.kp (Q8 (ha pos Xbs s1 σ H1 _ I1 q) fun us s2 ⟨vs,H2,I2,r,q2⟩=>⟨I2.kIn,?_⟩) hst hpl
 exact Rw (us:=.ref a::us) (vs:=.ref a::vs) F hr hb hd hx I2 (.cons rfl r) q2
structure Mk (K:W.Frag)(C f:Addr):Prop where
 makes:W.makesIn K C=true
 init:W.findIn K (.ref C) "__init__"=some (some (.ref f))
 fn:W.isFn K (.ref f)=true
 kp:W.keepIn K (.ref C)=true
theorem AF {Xbs:Qc}{σ:St}{H:Hp}{s:Shared}{Q:VK}{us:Qe}{vs:List V}(M:Mk X.K C f)(F:FnOk X.prog X.w X.K X.mg X.base CX k f fd ps sp)(hr:Room (k+1) X.A)(hb:VN X.K fd ps ds)(hd:QP dvs ds)
 (hx:We CX X E) (I:Qr X Xbs σ H s) (r:QP vs us)
 (h:∀x dx,H x=none->H dx=none->dx≠x->sp (.ref x::(vs++dvs)) (upd (upd H dx (.own x)) x (.ins C dx [])) (fun v H2=>v=.non/\Q (.ref x) H2) E) :
 wpAny (model X.prog X.w) X.A (call (.ref C) us) (EP X Xbs σ Q) X.xe s:=by
 have hq:=h (s.heap.objs.size+1) s.heap.objs.size (I.hok.fresh (Nat.le_succ _)) (I.hok.fresh (Xs _)) (Xo (Uy _))
 have I2:=Qr.made (C:=C) I
 have r2:QP (V.ref (s.heap.objs.size+1)::(vs++dvs)) (Value.ref (s.heap.objs.size+1)::(us++ds)):=.cons rfl (r.append hd)
 have hl:(Value.ref (s.heap.objs.size+1)::us++ds).length=ps.length:=by
  have e:=r2.length
  rw[F.len _ _ _ _ hq]at e;exact e.symm
 refine wpAny_call (AX (f:=f) I.kIn M.makes M.init (beq_iff_eq.mp M.fn) (codeAny_mono (F.run _ X.stack _ _ ⟨Value.ref (s.heap.objs.size+1)::us,[]⟩ (Value.ref (s.heap.objs.size+1)::(us++ds)) _ _ E (hr.make C us [])
  (I2.env0.make C us []) (hb _ (Value.ref (s.heap.objs.size+1)::us) I2.kIn hl) r2 hq) fun r s' hq'=>?_))
 cases r with
 |error e=>exact hx Xbs σ _ _ e s' I2 hq'
 |ok fl =>
   cases fl with
   |ret u =>
     obtain⟨v,H',I3,rv,ev,q3⟩:=I2.after hq'
     subst ev;exact⟨rv,⟨V.ref (s.heap.objs.size+1),H',I3,rfl,q3⟩⟩
   |next=>exact False.elim hq'
   |brk=>exact False.elim hq'
   |cont=>exact False.elim hq'
theorem Ie (M:Mk X.K C f)(F:FnOk X.prog X.w X.K X.mg X.base CX k f fd ps sp)(hr:Room (k+1) X.A)(hg:Gl X x)(hm:X.mg x=some (.ref C))(hb:VN X.K fd ps ds)(hd:QP dvs ds)(hx:We CX X E)
 (hdb:(x==("__debug__" : Str))=false:=by decide):PE X (.Call (.Name x p) [] [] pos) (Dw C sp dvs E Zm):=by
 intro Xbs s σ H Q I h;refine wpAny_Call_Name_kw (UO I hg hm ?_ hdb)
 exact W.callWith_K0 I.kIn M.kp (AF (us:=[]) M F hr hb hd hx I .nil h)
end
section
variable {X:Cx}{CX:CXT}{k:Nat}{f C:Addr}{fd:FuncData}{ps ks:Qh}{sp:Sp}{E:XK}{x m:Str}{p pos apos kpos:Pos}{e o:Expr}{es:Qi}{kws:List Keyword}{te ta:TE}{t tk:TA}{nm:Option Str}
variable {g:Qe->Qe->Qe}{gV:List V->List V->List V}
end
structure Qp (N P:Qh)(sc:Scope):Prop where
 kind:sc.kind=.function
 co:sc.isCoroutine=false
 gen:sc.isGenerator=false
 nd:N.Nodup
 pre:N.take P.length=P
 par:∀x∈P,sc.names.lookup x=some .local\/sc.names.lookup x=some .cell
 nofree:∀y∈sc.names,y.2≠.free
theorem Tb {kindOf:Str->Option NameKind}{x:Str}:∀{binds:List (Str×Value)} {m:Str->Qf},(∀v,(x,v)∉binds)->bindL kindOf binds m x=m x
 |[],_,_=>rfl
 |(n,v)::r,m,h=>by
   unfold bindL;rw[Tb fun w hw=>h w (Xe _ hw)]
   split
   ·have:x≠n:=by rintro rfl;exact h v Xd
    simp[this]
   ·rfl
theorem PN {kindOf:Str->Option NameKind}{x:Str}:∀{binds:List (Str×Value)} {m:Str->Qf},(∀v,(x,v)∉binds)->bindC kindOf binds m x=m x
 |[],_,_=>rfl
 |(n,v)::r,m,h=>by
   unfold bindC;rw[PN fun w hw=>h w (Xe _ hw)]
   split
   ·rfl
   ·have:x≠n:=by rintro rfl;exact h v Xd
    simp[this]
theorem PY {kindOf:Str->Option NameKind}{x:Str}{v:Value}:∀{P:Qh} {vs:Qe} {i:Nat} {m:Str->Qf},P.Nodup->P[i]?=some x->vs[i]?=some v->kindOf x=some .local ->
 bindL kindOf (P.zip vs) m x=some v
 |[],_,_,_,_,h,_,_=>by simp at h
 |_::_,[],_,_,_,_,h,_=>by simp at h
 |p::P,w::vs,0,m,nd,h1,h2,hk=>by
   simp at h1 h2;subst h1;subst h2
   show bindL kindOf ((p,w)::P.zip vs) m p=_
   unfold bindL;rw[Tb fun v hv=>(X3.mp nd).1 (List.of_mem_zip hv).1,Xc hk]
   simp
 |p::P,w::vs,i+1,m,nd,h1,h2,hk=>by
   show bindL kindOf ((p,w)::P.zip vs) m x=_
   unfold bindL;exact PY (i:=i) (X3.mp nd).2 (by simpa using h1) (by simpa using h2) hk
theorem Ti {kindOf:Str->Option NameKind}{x:Str}{v:Value}:∀{P:Qh} {vs:Qe} {i:Nat} {m:Str->Qf},P.Nodup->P[i]?=some x->vs[i]?=some v->kindOf x≠some .local ->
 bindC kindOf (P.zip vs) m x=some v
 |[],_,_,_,_,h,_,_=>by simp at h
 |_::_,[],_,_,_,_,h,_=>by simp at h
 |p::P,w::vs,0,m,nd,h1,h2,hk=>by
   simp at h1 h2;subst h1;subst h2
   show bindC kindOf ((p,w)::P.zip vs) m p=_
   unfold bindC;rw[PN fun v hv=>(X3.mp nd).1 (List.of_mem_zip hv).1,Xb hk]
   simp
 |p::P,w::vs,i+1,m,nd,h1,h2,hk=>by
   show bindC kindOf ((p,w)::P.zip vs) m x=_
   unfold bindC;exact Ti (i:=i) (X3.mp nd).2 (by simpa using h1) (by simpa using h2) hk
def start (N:Qh)(vs:List V):St:=vs.map some++List.replicate (N.length-vs.length) none
def VM (CX:CXT)(P:Program)(w:World)(K:W.Frag)(mg:Str->Qf)(base:Heap)(N:Qh)(qual:Str)(scope:Scope)(f:Addr)(cd:Value)(A:Around)(outer:List Env)(s:Shared)(H:Hp)(E:XK):Cx where
 prog:=P
 w:=w
 K:=K
 mg:=mg
 base:=base
 A:=A.deeper (envOfC qual scope s.heap.objs.size f cd)
 N:=N
 s₀:=s
 H₀:=H
 env:=envOfC qual scope s.heap.objs.size f cd
 outer:=outer
 stack:=envOfC qual scope s.heap.objs.size f cd::outer
 ex:=[]
 calm:=true
 fn:=fun _=>true
 pn:=[]
 xe:=fun e s'=>wpAny (model P w) (A.deeper (envOfC qual scope s.heap.objs.size f cd)) (leaving (envOfC qual scope s.heap.objs.size f cd) e) (fun _ s''=>CX outer H s E e s'') (fun e' s''=>CX outer H s E e' s'') s'
theorem P9 {sc:Scope}{n:Nat}{x:Str}(h:sc.names.lookup x=some .cell):∃c,(cellsFrom n sc.names []).lookup x=some c:=by
 have q:=W.cellsFrom_some sc.names n [] (.inl h)
 exact Option.isSome_iff_exists.mp q
theorem IZ {CX:CXT}{P:Program}{w:World}{K:W.Frag}{mg:Str->Qf}{base:Heap}{N ps:Qh}{qual:Str}{scope:Scope}{f:Addr}{cd:Value}{A:Around}{outer:List Env}{s s1:Shared}{H:Hp}{E:XK}{us:Qe}{vs:List V}
 (S:Qp N ps scope) (hd:A.handled=none) (e0:Env0 P w K mg base A outer s H) (hl:vs.length=ps.length) (r:QP vs us)
 (x:InCallC s s.heap.objs.size (bindL (envOfC qual scope s.heap.objs.size f cd).kindOf (ps.zip us) fun _=>none) (cellsFrom (s.heap.objs.size+1) scope.names []) (bindC (envOfC qual scope s.heap.objs.size f cd).kindOf (ps.zip us) fun _=>none) s1) :
 Qr (VM CX P w K mg base N qual scope f cd A outer s H E) [] (start N vs) H s1:=by
 have hpl:ps.length<=N.length:=by have:=ZD List.length S.pre;rw[Ux]at this;omega
 obtain⟨h1,tk,rfl,hk⟩:=x.done
 have noA:∀b:Addr,b∉(VM CX P w K mg base N qual scope f cd A outer s H E).ex:=fun b z=>Xl (show b∈([]:Qg) from z) (by simp)
 refine⟨⟨e0.mod,S.kind,rfl,rfl,Xs _,fun y z c h1 h2=>?_,fun y hy=>?_,fun y c _ h=>?_,fun _=>hd,Around.frames_deeper e0.frames,.inr ⟨rfl,rfl⟩,fun b z=>Xl z (noA b),e0.bs,e0.bsz,fun b _ _=>noA b,fun b z=>Xl z (noA b),e0.funs,e0.frf⟩,
  rfl,e0.bare,Un.kept hk,⟨_,x.toInCall.ns,fun i y v h1 h2 h3=>?_⟩,fun y c h=>⟨_,x.cell y c h⟩,e0.hok.fresh (Xs _),fun y c h=>?_,fun p hp=>Xl (show p∈([]:Qc) from hp) (by simp),e0.hok.kept hk,?_⟩
 ·exact name_of_addr x.apart (PySem.mem_of_lookup h1) (PySem.mem_of_lookup h2)
 ·have hy:scope.names.lookup y=some .cell\/scope.names.lookup y=some .free:=hy
  rcases hy with hy|hy
  ·exact P9 hy
  ·exact Xl rfl (S.nofree _ (PySem.mem_of_lookup hy))
 ·exact XZ (x.above y c (PySem.mem_of_lookup h))
 ·have hi:i<vs.length:=by
   unfold start at h2;by_cases hi:i<vs.length
   ·exact hi
   ·rw[Ut (by simpa using hi)]at h2
    rw[List.getElem?_replicate]at h2;split at h2<;>cases h2
  have ha:vs[i]?=some v:=by
   unfold start at h2;rw[XX (by simpa using hi),Xk]at h2;cases e:vs[i]? with
   |none=>rw[e]at h2;cases h2
   |some a=>rw[e]at h2;cases h2;rfl
  obtain⟨u,hu,rv⟩:=r.get ha
  have hp:ps[i]?=some y:=by
   rw[<- S.pre,List.getElem?_take_of_lt (by omega)];exact h1
  have ndP:ps.Nodup:=by rw[<- S.pre];exact S.nd.sublist (List.take_sublist _ _)
  refine⟨u,rv,?_⟩
  rcases S.par y (List.mem_of_getElem? hp) with k|k
  ·exact .inl ⟨k,PY ndP hp hu k⟩
  ·obtain⟨c,e⟩:=P9 (n:=s.heap.objs.size+1) k
   refine .inr ⟨.inl k,c,e,?_⟩
   have q:=x.cell y c e
   rw[Ti ndP hp hu (by show scope.names.lookup y≠_;rw[k];decide)]at q;exact q
 ·exact e0.hok.fresh (XZ (x.above y c (PySem.mem_of_lookup h)))
 ·unfold start
  show _=N.length
  rw[Xq,Xm,List.length_replicate];omega
theorem NC {CX:CXT}{P:Program}{w:World}{K:W.Frag}{mg:Str->Qf}{base:Heap}{k:Nat}{f:Addr}{name qual:Str}{params:Arguments}{body:List Stmt}{scope:Scope}{dV kV doc pm cdv ct oc:Value}{an od:Qj}
 {osl:Array (Qf)} {N ps:Qh} {sp:Sp} (lk:K.lookup f=some ⟨oc,od,.func (W.fnOf name qual params body scope dV kV doc pm an cdv ct),osl⟩) (hcd:W.codeIn K cdv qual=true) (S:Qp N ps scope)
 (len:∀vs H Q E,sp vs H Q E->vs.length=ps.length)
 (Xbt:∀(A:Around) (outer:List Env) (s:Shared) (H:Hp) (vs:List V) (Q:VK) (E:XK),Room k (A.deeper (envOfC qual scope s.heap.objs.size f cdv))->sp vs H Q E ->
  ∃t,PSs (VM CX P w K mg base N qual scope f cdv A outer s H E) body t/\t { nx:=fun _ H'=>Q .non H',rt:=Q } (start N vs) H) :
 FnOk P w K mg base CX (k+1) f (W.fnOf name qual params body scope dV kV doc pm an cdv ct) ps sp:=by
 refine⟨len,fun A outer s H args us vs Q E hr e0 hb r hsp=>?_⟩
 have hl:=len _ _ _ _ hsp
 have KX:K.In s.heap:=e0.mod.kin.keeps fun b o e=>(e0.bs b o e).1
 have lim:s.heap.NoLimit:=e0.mod.nolimit.keeps fun b o e=>(e0.bs b o e).1
 have hkind:∀y∈ps.zip us,scope.names.lookup y.1=some .local\/(scope.names.lookup y.1=some .cell/\((cellsFrom (s.heap.objs.size+1) scope.names []).lookup y.1).isSome=true):=fun⟨n,v⟩ hy=>by
  rcases S.par n (List.of_mem_zip hy).1 with q|q
  ·exact .inl q
  ·exact .inr ⟨q,W.cellsFrom_some _ _ _ (.inl q)⟩
 refine codeAny_call_function hr.depth (KX _ _ lk) rfl S.co S.gen rfl (W.codeRec_of KX hcd) (hb _ _ _ _ ?_)
 refine wpAny_newFunctionEnv_cells S.kind hkind fun env he s1 x=>?_
 subst he;refine⟨lim.keeps x.toInCall.keep,codeAny_func ?_⟩
 obtain⟨t,ht,hq⟩:=Xbt A outer s H vs Q E (hr.deeper _) hsp
 have I:Qr (VM CX P w K mg base N qual scope f cdv A outer s H E) [] (start N vs) H s1:=IZ S hr.hd e0 hl r x
 refine wpAny_mono (ht [] s1 (start N vs) H _ I hq) (fun fl s' hs=>?_) fun e s' hs=>hs
 have fin:∀{σ':St} {H':Hp} {v:V} {u:Value},Qr (VM CX P w K mg base N qual scope f cdv A outer s H E) [] σ' H' s'->QK v u->Q v H'->CE outer P w H s Q u s' :=
  fun{σ' H' v u} J rv q=>⟨v,H',J.os,J.bare,J.base,J.hok,rv,q⟩
 cases fl with
 |ret u =>
   obtain⟨v,σ',H',J,rv,q⟩:=hs
   exact fin J rv q
 |next =>
   obtain⟨σ',H',J,q⟩:=hs
   exact fin (v:=V.non) (u:=Value.none) J rfl q
 |brk =>
   obtain⟨_,_,_,q⟩:=hs
   exact False.elim q
 |cont =>
   obtain⟨_,_,_,q⟩:=hs
   exact False.elim q
section
variable {X:Cx}{x:Str}{p pos:Pos}{e:Expr}{es:Qi}{t:TA}{id T:String}{r:List V->Hp->VK->Prop}
def tCB (r:List V->Hp->VK->Prop)(t:TA):TE:=fun σ H Q=>t σ H fun vs H1=>r vs H1 Q
theorem Z5 (hc:Vn X (.builtin id) r) (hg:Gl X x) (hm:X.mg x=none) (hv:bootBuiltins x=some (.builtin id)) (ha:PA X (e::es) t) (hn:x ≠ "__name__" := by decide) (hdb:(x==("__debug__" : Str))=false:=by decide)
 (he:starEach (e::es) X.env=(false,eval e X.env)::starEach es X.env:=by rfl) (hpl:(backTo pos (starEach es X.env)).any (·.1)=false:=by rfl):PE X (.Call (.Name x p) (e::es) [] pos) (tCB r t):=by
 intro Xbs s σ H Q I h;refine wpAny_Call_Name_kw (Jt I hg hm hv ?_ hn hdb)
 exact PyProof.Rows.callWith_builtin1 (Q8 (ha pos Xbs s σ H _ I h) fun us s1 ⟨vs,H1,I1,r1,q1⟩=>hc Xbs s1 σ H1 vs us Q I1 r1 q1) he hpl
theorem WU (hc:Vn X (.type T) r) (hg:Gl X x) (hm:X.mg x=none) (hv:bootBuiltins x=some (.type T)) (ha:PA X (e::es) t) (hn:x ≠ "__name__" := by decide) (hdb:(x==("__debug__" : Str))=false:=by decide)
 (he:starEach (e::es) X.env=(false,eval e X.env)::starEach es X.env:=by rfl) (hpl:(backTo pos (starEach es X.env)).any (·.1)=false:=by rfl):PE X (.Call (.Name x p) (e::es) [] pos) (tCB r t):=by
 intro Xbs s σ H Q I h;refine wpAny_Call_Name_kw (Jt I hg hm hv ?_ hn hdb)
 exact PyProof.Rows.callWith_type1 (Q8 (ha pos Xbs s σ H _ I h) fun us s1 ⟨vs,H1,I1,r1,q1⟩=>hc Xbs s1 σ H1 vs us Q I1 r1 q1) he hpl
end
end L2
namespace HT
open PySem PyProof.Rows
section
open PySem.SeqAt
open PySem.AutoSeq1 (wpAny_loadPart')
open PySem.MeetsSeq PySem.MeetsSeq2 PySem.MeetsSeq3
end
section
variable {prog:Program}{w:World}{A:Around}{E:Qb}{s:Shared}
theorem cat_tup {t b:Addr}{vs ws:Qe}{Q:Qb}(ht:IsTup s.heap t vs.toArray)(hb:IsTup s.heap b ws.toArray)(hv:vs≠[])
 (h1:ws=[]->Q (.ref t) s) (h2:ws≠[]->Q (.ref s.heap.objs.size) { s with heap:=s.heap.push { cls:=.type "tuple",data:=.seq (vs++ws).toArray } })
 (hsz:vs.length+ws.length<=sizeLine):wpAny (model prog w) A (binaryOp .Add (.ref t) (.ref b)) Q E s:=by
 obtain⟨⟨cls,dd,data,sl⟩,ho,hc,n,hd⟩:=id ht
 obtain⟨⟨cls2,dd2,data2,sl2⟩,ho2,hc2,n2,hd2⟩:=id hb
 simp only at hc hd hc2 hd2
 subst hc hd hc2 hd2;have e:vs.toArray++ws.toArray=(vs++ws).toArray:=by simp
 by_cases hw:ws=[]
 ·exact concat_meets ⟨_,ho,rfl⟩ ⟨_,ho2,rfl⟩ noFill_tuple_add seq_tuple_add PySem.F.slot_tuple_add PySem.F.entry_tuple_add (PySem.F.args_tuple_add_2 _ _)
   (tuple_addW1 t b vs.toArray ws.toArray n n2 dd dd2 sl sl2 (by simpa using hv) (by simp[hw])) ⟨ho,ho2,h1 hw⟩
 ·refine concat_meets ⟨_,ho,rfl⟩ ⟨_,ho2,rfl⟩ noFill_tuple_add seq_tuple_add PySem.F.slot_tuple_add PySem.F.entry_tuple_add (PySem.F.args_tuple_add_2 _ _)
   (tuple_addW2 t b vs.toArray ws.toArray n n2 dd dd2 sl sl2 (by simpa using hv) (by simpa using hw) (by rw[Xu,Xu];exact hsz)) ⟨ho,ho2,?_⟩
  rw[e];exact h2 hw
def sIx (n d:Nat):Option Int->Nat
 |none=>d
 |some v=>if v<0 then (v+(n:Int)).toNat else min v.toNat n
theorem sIx_nat (n d k:Nat):sIx n d (some (k:Int))=min k n:=by
 show(if (k:Int)<0 then ((k:Int)+(n:Int)).toNat else min (k:Int).toNat n)=min k n
 rw[Xb (by omega),XH]
theorem Fd (n d:Nat)(hd:d<=n)(o:Option Int):sIx n d o<=n:=by
 cases o with
 |none=>exact hd
 |some v =>
   show(if v<0 then (v+(n:Int)).toNat else min v.toNat n)<=n
   by_cases hv:v<0
   ·rw[Xc hv];omega
   ·rw[Xb hv];exact Nat.min_le_right _ _
theorem SH (v:Int)(n d:Nat):(if v<0 then max (v+(n:Int)) 0 else min v (n:Int))=((sIx n d (some v):Nat):Int):=by
 show(if v<0 then max (v+(n:Int)) 0 else min v (n:Int))=(((if v<0 then (v+(n:Int)).toNat else min v.toNat n):Nat):Int)
 by_cases hv:v<0
 ·simp only[Xc hv];omega
 ·simp only[Xb hv];omega
theorem OE (lo hi:Option Int)(n:Nat):Builtin.Slice.sliceAdjust lo hi 1 (n:Int)=(((sIx n 0 lo:Nat):Int),((sIx n n hi:Nat):Int)):=by
 have h1:¬((1:Int)<0):=by omega
 unfold Builtin.Slice.sliceAdjust;simp only[h1,if_false];refine Prod.ext ?_ ?_
 ·cases lo with
  |none=>rfl
  |some v=>exact SH v n 0
 ·cases hi with
  |none=>rfl
  |some v=>exact SH v n n
theorem Zm2 (i j:Nat):Builtin.Slice.slicePlaces (i:Int) (j:Int) 1=j-i:=by
 unfold Builtin.Slice.slicePlaces;have h1:(1:Int) > 0:=by omega
 simp only[h1,if_true,Int.ediv_one];split<;>omega
theorem slicePart_ {v:Value}{o:Option Int}{Q:Option Int->Shared->Prop}(p:IsPart v o)(h:Q o s):wpAny (model prog w) A (Builtin.Slice.slicePartIndex v) Q E s:=by
 cases p with
 |none=>exact slicePart_none h
 |int i t=>exact slicePart_int h
theorem ZfS {sl:Addr}{vl vu:Value}{lo hi:Option Int}{n:Nat}{Q:Int×Int×Nat->Shared->Prop}(hs:s.heap.IsSliceOf sl vl vu .none)(pl:IsPart vl lo)(pu:IsPart vu hi)
 (h:Q (((sIx n 0 lo:Nat):Int),1,sIx n n hi-sIx n 0 lo) s):wpAny (model prog w) A (Builtin.Slice.sliceApplied (.ref sl) (pure (n:Int))) Q E s:=by
 obtain⟨os,hos,hcs,hds⟩:=id hs
 unfold Builtin.Slice.sliceApplied Builtin.Slice.sliceFields;refine Xa (Xa (WD hos hds (x:=vl) rfl (Xa (WD hos hds (x:=vu) rfl (Xa (WD hos hds (x:=.none) rfl (Xi ?_)))))))
 refine Xa (slicePart_none ?_)
 show wpAny _ _ (if ((1:Int)==0)=true then _ else _) _ _ s
 rw[Xb (by decide)];refine Xa (slicePart_ pl (Xa (slicePart_ pu (Xa (Xi ?_)))))
 show wpAny _ _ (match Builtin.Slice.sliceAdjust lo hi 1 (n:Int) with|(lo,hi)=>pure (lo,(1:Int),Builtin.Slice.slicePlaces lo hi 1)) _ _ s
 rw[OE lo hi n];show wpAny _ _ (pure (((sIx n 0 lo:Nat):Int),(1:Int),Builtin.Slice.slicePlaces ((sIx n 0 lo:Nat):Int) ((sIx n n hi:Nat):Int) 1)) _ _ s
 rw[Zm2];exact Xi h
theorem AB (xs:Array Value)(i k:Nat):((List.range k).filterMap fun(m:Nat)=>xs[((i:Int)+(m:Int)*1).toNat]?).toArray=((xs.toList.drop i).take k).toArray:=by
 have e:(fun(m:Nat)=>xs[((i:Int)+(m:Int)*1).toNat]?)=fun m=>xs[i+m]? := by
  funext m
  have:((i:Int)+(m:Int)*1).toNat=i+m:=by omega
  rw[this]
 rw[e];have:=pick_run xs i k
 rw[Bp]at this;have e2:((fun x=>xs[x]?) ∘ fun x=>i+x)=fun m=>xs[i+m]? := rfl
 rw[e2]at this;rw[this]
theorem getItem_tuple_cut {t sl:Addr}{items:Array Value}{vl vu:Value}{lo hi:Option Int}{Q:Qb}(ht:IsTup s.heap t items)(hs:s.heap.IsSliceOf sl vl vu .none)(pl:IsPart vl lo)(pu:IsPart vu hi)
 (hw:¬(sIx items.size 0 lo=0/\sIx items.size items.size hi=items.size))
 (h:Q (.ref s.heap.objs.size) { s with heap:=s.heap.push { cls:=.type "tuple",data:=.seq ((items.toList.drop (sIx items.size 0 lo)).take (sIx items.size items.size hi-sIx items.size 0 lo)).toArray } })
 (hsz:items.size<=sizeLine):wpAny (model prog w) A (getItem (.ref t) (.ref sl)) Q E s:=by
 have htake:sizeOk (.seq ((items.toList.drop (sIx items.size 0 lo)).take (sIx items.size items.size hi-sIx items.size 0 lo)).toArray):=by
  show((items.toList.drop (sIx items.size 0 lo)).take (sIx items.size items.size hi-sIx items.size 0 lo)).toArray.size<=sizeLine
  rw[Xu,Ux,Bs,Array.length_toList];omega
 have hj:sIx items.size items.size hi<=items.size:=Fd _ _ (Xs _) hi
 obtain⟨os,hos,hcs,hds⟩:=id hs
 have hTs:s.TypeIs (.ref sl) "slice" := ⟨os,hos,hcs⟩
 unfold getItem;try with_reducible refine wpAny_holding ?_
 first|refine Xa (Xi ?_)|skip
 refine Xa (wpAny_sequenceKey ht.typeIs (by decide) ?_)
 refine Xa (wpAny_callSpecial?_slot (name:=Str.ofString "__getitem__") ht.typeIs PyProof.Rows.slot_tuple_getitem
  (wpAny_call_entry PyProof.Rows.slot_tuple_getitem ht.typeIs entry_tuple_getitem ?_ (args_tuple_getitem _ _)))
 show wpAny _ _ (Builtin.Tuple.tupleItemsOf (.ref t) >>= _) _ _ s
 refine Xa (tupleItemsOf_ ht ?_)
 refine Xa (wpAny_typeOf hTs ?_)
 rw[Xc (by decide)];refine Xa (ZfS hs pl pu ?_)
 have hno:¬((((sIx items.size 0 lo:Nat):Int)==0&&(1:Int)==1&&(sIx items.size items.size hi-sIx items.size 0 lo)==items.size)=true):=by
  intro q;rw[YT,YT]at q;have q1:((sIx items.size 0 lo:Nat):Int)=0:=eq_of_beq q.1.1
  have q2:sIx items.size items.size hi-sIx items.size 0 lo=items.size:=eq_of_beq q.2
  exact hw ⟨by omega,by omega⟩
 show wpAny _ _ (if (((sIx items.size 0 lo:Nat):Int)==0&&(1:Int)==1&&(sIx items.size items.size hi-sIx items.size 0 lo)==items.size)=true then _ else _) _ _ s
 rw[Xb hno,AB]
 first
  |exact Xa (m:=Builtin.Tuple.tupleExact _) (wpAny_newObj_type (Xi ⟨_,rfl,Xi h⟩) htake)
  |exact Xa (m:=Builtin.Tuple.tupleExact _) (wpAny_newObj_type (Xa (Xi (Xi ⟨_,rfl,Xi h⟩))) htake)
  |exact Xa (Xa (m:=Builtin.Tuple.tupleExact _) (wpAny_newObj_type (Xi (Xi ⟨_,rfl,Xi h⟩)) htake))
  |exact Xa (Xa (m:=Builtin.Tuple.tupleExact _) (wpAny_newObj_type (Xi ⟨_,rfl,Xi h⟩) htake))
end
end HT
namespace L2
open PySem PySem.Spec PyProof.Rows
abbrev TO:=St->Hp->(Option Int->Hp->Prop)->Prop
def PO (X:Cx)(e:Option Expr)(t:TO):Prop :=
 ∀(Xbs:Qc) (s:Shared) (σ:St) (H:Hp) (Q:Option Int->Hp->Prop),Qr X Xbs σ H s->t σ H Q ->
  wpAny (model X.prog X.w) X.A (evalPart e X.env) (fun u s'=>∃o H',Qr X Xbs σ H' s'/\IsPart u o/\Q o H') X.xe s
def SC:TO:=fun _ H Q=>Q none H
def NF (t:TE):TO:=fun σ H Q=>t σ H fun x H1=>∃i,x=.int i/\Q (some i) H1
theorem GZ {ns:Ql}:∀{us:Qe},QP (ns.map V.int) us->IntsAre us ns:=by
 induction ns with
 |nil=>intro us r;rw[JD]at r;cases r;exact .nil
 |cons n ns ih =>
   intro us r;rw[Xt]at r;cases r with
   |cons r1 r2 =>
     obtain⟨t,e⟩:=r1
     subst e;exact .cons n t (ih r2)
section
variable {X:Cx}{e:Expr}{te:TE}{lo hi:Option Expr}{tl th:TO}{pos p2:Pos}
theorem Hg:PO X none SC:=by
 intro Xbs s σ H Q I h;rw[evalPart_none];exact Xi ⟨none,H,I,.none,h⟩
theorem SG (h:PE X e te):PO X (some e) (NF te):=by
 intro Xbs s σ H Q I hw;rw[evalPart_some];refine Q8 (h Xbs s σ H _ I hw) fun u s1 ⟨x,H1,I1,r1,q1⟩=>?_
 obtain⟨i,rfl,q⟩:=q1
 obtain⟨t,rfl⟩:=r1
 exact⟨some i,H1,I1,.int i t,q⟩
def SlR (X:Cx)(r:V->Option Int->Option Int->Hp->VK->Prop):Prop :=
 ∀(Xbs:Qc) (s:Shared) (σ:St) (H:Hp) (x:V) (v vl vu:Value) (lo hi:Option Int) (sl:Addr) (Q:VK),Qr X Xbs σ H s->QK x v->s.heap.IsSliceOf sl vl vu .none->IsPart vl lo->IsPart vu hi->r x lo hi H Q ->
  ∃T id,typeLookup (.type T) "__getitem__"=pure (some (.builtin id))/\s.TypeIs v T/\wpAny (model X.prog X.w) X.A (getItem v (.ref sl)) (EP X Xbs σ Q) X.xe s
def tSl (r:V->Option Int->Option Int->Hp->VK->Prop)(te:TE)(tl th:TO):TE:=fun σ H Q=>te σ H fun x H1=>tl σ H1 fun l H2=>th σ H2 fun u H3=>r x l u H3 Q
theorem ER {r:V->Option Int->Option Int->Hp->VK->Prop}(hr:SlR X r)(he:PE X e te)(hl:PO X lo tl)(hu:PO X hi th):PE X (.Subscript e (.Slice lo hi none p2) pos) (tSl r te tl th):=by
 intro Xbs s σ H Q I h;refine Subscript_ (Q8 (he Xbs s σ H _ I h) fun v s1 ⟨x,H1,I1,r1,q1⟩=>?_)
 refine wpAny_Slice (Q8 (hl Xbs s1 σ H1 _ I1 q1) fun vl s2 ⟨l,H2,I2,pl,q2⟩=>Q8 (hu Xbs s2 σ H2 _ I2 q2) fun vu s3 ⟨u,H3,I3,pu,q3⟩=>?_)
 rw[evalPart_none];refine Xi ?_
 have I4:Qr X Xbs σ H3 { s3 with heap:=s3.heap.push { cls:=.type "slice",data:=.fields #[vl,vu,.none] } }:=I3.kept (t':=s3.toks) fun b ob q=>Xf _ q
 obtain⟨T,id,hT,ht,hg⟩:=hr Xbs { s3 with heap:=s3.heap.push { cls:=.type "slice",data:=.fields #[vl,vu,.none] } } σ H3 x v vl vu l u s3.heap.objs.size Q I4 r1 (Heap.IsSliceOf.new ..) pl pu q3
 show wpAny (model X.prog X.w) X.A (subscriptTail e (.Slice lo hi none p2) v (.ref s3.heap.objs.size)) (EP X Xbs σ Q) X.xe { s3 with heap:=s3.heap.push { cls:=.type "slice",data:=.fields #[vl,vu,.none] } }
 exact tail_any (ops:=[.ref s3.heap.objs.size,v]) ht hT hg (by with_unfolding_all rfl)
def U5 (xs:List V)(lo hi:Option Int):List V:=(xs.drop (HT.sIx xs.length 0 lo)).take (HT.sIx xs.length xs.length hi-HT.sIx xs.length 0 lo)
theorem Zk8 (xs:List V)(lo hi:Option Int):(U5 xs lo hi).length<=xs.length:=by
 unfold U5;rw[Ux,Bs];omega
def Nr (K:W.Frag):V->Option Int->Option Int->Hp->VK->Prop:=fun x lo hi H Q=>∃a xs,x=.ref a/\SqT K H a xs /\
 ¬(HT.sIx xs.length 0 lo=0/\HT.sIx xs.length xs.length hi=xs.length)/\∀p,H p=none->Q (.ref p) (upd H p (.tup (U5 xs lo hi)))
theorem FS:SlR X (Nr X.K):=by
 intro Xbs s σ H x v vl vu lo hi sl Q I rx hs pl pu h;obtain⟨a,xs,rfl,hx,hw,q⟩:=h
 cases rx
 obtain⟨its,r,ht,hz⟩:=I.tuple hx
 have hlen:its.toArray.size=xs.length:=by rw[Xu];exact r.length.symm
 refine⟨"tuple",_,PyProof.Rows.slot_tuple_getitem.lookup,ht.typeIs,?_⟩
 refine HT.getItem_tuple_cut ht hs pl pu (by rw[hlen];exact hw) ?_ (by rw[hlen];exact hz)
 rw[hlen];refine⟨.ref s.heap.objs.size,_,I.laid (t':=s.toks) (o:=.tup (U5 xs lo hi)) (fun b ob q=>Xf _ q) (Xs _) ?_,rfl,q _ (I.hok.fresh (Xs _))⟩
 exact⟨XN (Zk8 xs lo hi) hz,_,(r.drop (HT.sIx xs.length 0 lo)).take (HT.sIx xs.length xs.length hi-HT.sIx xs.length 0 lo),IsTup.new _ _⟩
def Fm (K:W.Frag):R2:=fun x y H Q=>∃a b xs ys,x=.ref a/\y=.ref b/\SqT K H a xs/\SqT K H b ys/\xs≠[]/\xs.length+ys.length<=sizeLine /\
 (ys=[]->Q (.ref a) H)/\(ys≠[]->∀p,H p=none->Q (.ref p) (upd H p (.tup (xs++ys))))
theorem QP.nil_iff {xs:List V}{us:Qe}(r:QP xs us):us=[]↔xs=[]:=by
 cases r with
 |nil=>simp
 |cons _ _=>simp
theorem CI:OpR X (binaryOp .Add) (Fm X.K):=by
 intro Xbs s σ H x y v u Q I rx ry h;obtain⟨a,b,xs,ys,rfl,rfl,ha,hb,hx,hz,q1,q2⟩:=h
 cases rx
 cases ry
 obtain⟨its,r1,p1,_⟩:=I.tuple ha
 obtain⟨its2,r2,p2,_⟩:=I.tuple hb
 refine HT.cat_tup p1 p2 (fun z=>hx (r1.nil_iff.mp z)) (fun z=>⟨.ref a,H,I,rfl,q1 (r2.nil_iff.mp z)⟩) (fun z=>?_) (by rw[<- r1.length,<- r2.length];exact hz)
 refine⟨.ref s.heap.objs.size,_,I.laid (t':=s.toks) (o:=.tup (xs++ys)) (fun b ob q=>Xf _ q) (Xs _) ?_,rfl,q2 (fun w=>z (r2.nil_iff.mpr w)) _ (I.hok.fresh (Xs _))⟩
 exact⟨by rw[Xq];exact hz,_,r1.append r2,IsTup.new _ _⟩
end
def ixN (n:Nat)(i:Int):Option Nat:=if 0<=i then (if i<n then some i.toNat else none) else if -(n:Int)<=i then some (i+n).toNat else none
def atI {α:Type}(xs:List α)(i:Int):Option α:=(ixN xs.length i).bind fun j=>xs[j]?
theorem SJ {n:Nat}{i:Int}{j:Nat}(h:ixN n i=some j):seqIndex? i n=some j/\j<n /\ -(n:Int)<=i/\i<n:=by
 unfold ixN at h;by_cases h0:0<=i
 ·rw[Xc h0]at h
  by_cases h1:i<n
  ·rw[Xc h1]at h
   have e:i.toNat=j:=Option.some.inj h
   exact⟨by rw[seqIndex_of h0 h1,e],by omega,by omega,h1⟩
  ·rw[Xb h1]at h;cases h
 ·rw[Xb h0]at h
  by_cases h1 : -(n:Int)<=i
  ·rw[Xc h1]at h
   have e:(i+n).toNat=j:=Option.some.inj h
   exact⟨by rw[seqIndex_neg (by omega) h1,e],by omega,h1,by omega⟩
  ·rw[Xb h1]at h;cases h
theorem Hq {α:Type}{xs:List α}{i:Int}{v:α}(h:atI xs i=some v):∃j,seqIndex? i xs.length=some j/\xs[j]?=some v/\j<xs.length /\ -(xs.length:Int)<=i/\i<xs.length:=by
 unfold atI at h;cases e:ixN xs.length i with
 |none=>rw[e]at h;cases h
 |some j =>
   rw[e]at h;obtain⟨h1,h2,h3,h4⟩:=SJ e
   exact⟨j,h1,h,h2,h3,h4⟩
theorem WQ {α:Type}{xs:List α}{j:Nat}{v:α}(h:xs[j]?=some v):atI xs (j:Int)=some v:=by
 have hj:j<xs.length:=(Xh.mp h).1
 have e:ixN xs.length (j:Int)=some j:=by
  unfold ixN;rw[Xc (by omega),Xc (by omega)];simp
 unfold atI;rw[e];exact h
def Ap (b:Expr):Prop := ∀o i,subscripted b false o i=operate [o,i] (getItem o i)
def IxR (X:Cx)(r:R2):Prop :=
 ∀(value slice:Expr) (Xbs:Qc) (s:Shared) (σ:St) (H:Hp) (x y:V) (v u:Value) (Q:VK),Qr X Xbs σ H s->QK x v->QK y u->r x y H Q ->
  subscripted slice false v u=operate [v,u] (getItem v u)->wpAny (model X.prog X.w) X.A (subscriptTail value slice v u) (EP X Xbs σ Q) X.xe s
def MtR (X:Cx)(id:String)(r:V->List V->Hp->VK->Prop):Prop :=
 ∀(Xbs:Qc) (s:Shared) (σ:St) (H:Hp) (x:V) (xs:List V) (v:Value) (us:Qe) (Q:VK),Qr X Xbs σ H s->QK x v->QP xs us->r x xs H Q ->
  wpAny (model X.prog X.w) X.A (call (.builtin id) (v::us)) (EP X Xbs σ Q) X.xe s
section
variable {X:Cx}{a b:Expr}{ta tb:TE}{pos:Pos}
theorem IxR.or {r r':R2}(h:IxR X r)(h':IxR X r'):IxR X (fun x y H Q=>r x y H Q\/r' x y H Q):=by
 intro value slice Xbs s σ H x y v u Q I rx ry q hs;rcases q with q|q
 ·exact h value slice Xbs s σ H x y v u Q I rx ry q hs
 ·exact h' value slice Xbs s σ H x y v u Q I rx ry q hs
theorem QM {r:R2}(hr:IxR X r)(ha:PE X a ta)(hb:PE X b tb)(hs:Ap b:=by exact fun _ _=>rfl):PE X (.Subscript a b pos) (tOp r ta tb):=by
 intro Xbs s σ H Q I h;exact Subscript_ (De ha hb I h fun v u s2 x y H2 I2 rx ry q=>hr a b Xbs s2 σ H2 x y v u Q I2 rx ry q (hs _ _))
def NA (K:W.Frag):R2:=fun x y H Q=>∃p xs i v,x=.ref p/\y=.int i/\SqL K H p xs/\atI xs i=some v/\Q v H
def N0 (K:W.Frag):R2:=fun x y H Q=>∃p xs i v,x=.ref p/\y=.int i/\SqT K H p xs/\atI xs i=some v/\Q v H
def N7:R2:=fun x y H Q=>∃z i c,x=.str z/\y=.int i/\z.length<=sizeLine/\atI z.cps.toList i=some c/\Q (.str ⟨#[c]⟩) H
theorem Cr:IxR X (NA X.K):=by
 intro value slice Xbs s σ H x y v u Q I rx ry h hs;obtain⟨p,xs,i,z,rfl,rfl,hq,he,q⟩:=h
 cases rx
 obtain⟨t,rfl⟩:=ry
 obtain⟨its,r,pl,hz⟩:=I.list hq
 obtain⟨j,h1,h2,h3,h4,h5⟩:=Hq he
 obtain⟨w,ew,rw'⟩:=r.get h2
 have hl:=r.length
 have hn:=JX
 have fin:EP X Xbs σ Q w s:=⟨z,H,I,rw',q⟩
 by_cases h0:0<=i
 ·have hj:i.toNat=j:=by
   rw[seqIndex_of h0 h5]at h1;exact Option.some.inj h1
  exact item_listR pl.isList h0 (by omega) (by rw[hj];simpa using ew) fin hs
 ·have hj:(i+(its.toArray.size:Int)).toNat=j:=by
   rw[seqIndex_neg (by omega) h4]at h1;rw[Xu,<- hl];exact Option.some.inj h1
  exact subscriptTail_builtinR (x:=w) pl.isList.typeIs slot_list_getitem.lookup
   (wpAny_getItem_list_neg (Q:=fun r s'=>r=w/\EP X Xbs σ Q r s') pl.isList (by omega) (by rw[Xu]<;>omega) (by omega) (by rw[hj];simpa using ew) ⟨rfl,fin⟩) hs
theorem C1:IxR X (N0 X.K):=by
 intro value slice Xbs s σ H x y v u Q I rx ry h hs;obtain⟨p,xs,i,z,rfl,rfl,hq,he,q⟩:=h
 cases rx
 obtain⟨t,rfl⟩:=ry
 obtain⟨its,r,pl,hz⟩:=I.tuple hq
 obtain⟨j,h1,h2,h3,h4,h5⟩:=Hq he
 obtain⟨w,ew,rw'⟩:=r.get h2
 have hl:=r.length
 have hn:=JX
 have fin:EP X Xbs σ Q w s:=⟨z,H,I,rw',q⟩
 exact subscriptTail_builtinR (x:=w) pl.typeIs slot_tuple_getitem.lookup
  (getItem_tuple (j:=j) (Q:=fun r s'=>r=w/\EP X Xbs σ Q r s') pl (by omega) (by omega) (by rw[Xu,<- hl];exact h1) (by simpa using ew) ⟨rfl,fin⟩) hs
theorem FM:IxR X N7:=by
 intro value slice Xbs s σ H x y v u Q I rx ry h hs;obtain⟨z,i,c,rfl,rfl,hz,he,q⟩:=h
 obtain⟨t,rfl⟩:=rx
 obtain⟨t',rfl⟩:=ry
 obtain⟨j,h1,h2,h3,h4,h5⟩:=Hq he
 have hl:z.cps.toList.length=z.length:=by simp[Str.length]
 rw[hl]at h1 h4 h5;have hn:=JX
 exact tail_any (typeIs_str s z t) slot_str_getitem.lookup (getItem_str (c:=c) (by
  have e1:decide (i < -(2^63:Int))=false:=XF (by omega)
  have e2:decide (i>=2^63)=false:=XF (by omega)
  rw[e1,e2,Bool.or_false]) (by rw[h1];simpa using h2) ⟨.str ⟨#[c]⟩,H,I.tok _,⟨_,rfl⟩,q⟩) hs
def rIx (K:W.Frag):R2:=fun x y H Q=>NA K x y H Q\/N0 K x y H Q\/N7 x y H Q
theorem QL:IxR X (rIx X.K):=Cr.or (C1.or FM)
theorem ZmM (its:Qe) (n j:Nat) (u:Value):Obj.mapSeq (·.setIfInBounds j u) { cls:=.type "list",data:=.seq its.toArray n }={ cls:=.type "list",data:=.seq (its.set j u).toArray n }:=by
 simp[Obj.mapSeq]
theorem Qr.lst {Xbs:Qc}{σ:St}{H:Hp}{s:Shared}{p:Addr}{xs:List V}(I:Qr X Xbs σ H s)(h:H p=some (.lst xs)) :
 ∃(its:Qe) (n:Nat),QP xs its/\s.heap.get? p=some { cls:=.type "list",data:=.seq its.toArray n }/\xs.length<=sizeLine:=by
 obtain⟨z,its,n,r,e⟩:=I.hok p _ h
 exact⟨its,n,r,e,z⟩
theorem Qr.lstUpd {Xbs:Qc}{σ:St}{H:Hp}{s:Shared}{p:Addr}{xs ys:List V}{its its':Qe}{n n':Nat}{f:Obj->Obj}(I:Qr X Xbs σ H s)(h:H p=some (.lst xs))
 (ho:s.heap.get? p=some { cls:=.type "list",data:=.seq its.toArray n }) (hf:f { cls:=.type "list",data:=.seq its.toArray n }={ cls:=.type "list",data:=.seq its'.toArray n' }) (r:QP ys its') (hz:ys.length<=sizeLine) (t:Nat) :
 Qr X Xbs σ (upd H p (.lst ys)) { s with heap:=s.heap.update p f,toks:=t }:=by
 have e:(s.heap.update p f).get? p=some { cls:=.type "list",data:=.seq its'.toArray n' }:=by
  rw[JB f ho (by rw[hf]<;>rfl),hf]
 refine I.write (x:=p) (e:=p) (by rw[h];trivial) (.inl rfl) (fun b u hb q=>(X5 _ _ (Ne.symm hb)).trans q) ⟨_,e⟩ ?_
 exact⟨hz,its',n',r,e⟩
def B3:V->V->V->Hp->(Hp->Prop)->Prop:=fun o i v H Q=>∃p xs k j,o=.ref p/\i=.int k/\H p=some (.lst xs)/\ixN xs.length k=some j/\Q (upd H p (.lst (xs.set j v)))
theorem GV:Dm X B3:=by
 intro Xbs s σ H o i v ov iv u Q I ro ri rv h;obtain⟨p,xs,k,j,rfl,rfl,hp,hj,q⟩:=h
 cases ro
 obtain⟨t,rfl⟩:=ri
 obtain⟨its,n,r,ho,hz⟩:=I.lst hp
 obtain⟨h1,h2,h3,h4⟩:=SJ hj
 have hl:=r.length
 have hn:=JX
 have I':Qr X Xbs σ (upd H p (.lst (xs.set j v))) { s with heap:=s.heap.update p (Obj.mapSeq (·.setIfInBounds j u)) } :=
  I.lstUpd hp ho (ZmM its n j u) (r.set rv j) (by rw[List.length_set];exact hz) s.toks
 by_cases h0:0<=k
 ·have hk:k.toNat=j:=by
   rw[seqIndex_of h0 h4]at h1;exact Option.some.inj h1
  exact W.ki_setAt ho h0 (by omega) (by rw[Xu,<- hl];exact h4) (by rw[hk];exact⟨_,I',q⟩)
 ·have hk:(k+(its.toArray.size:Int)).toNat=j:=by
   rw[seqIndex_neg (by omega) h3]at h1;rw[Xu,<- hl];exact Option.some.inj h1
  exact W.ki_setBack ho (by omega) (by rw[Xu,<- hl];exact h3) (by omega) (by rw[hk];exact⟨_,I',q⟩)
def Jr:V->Bool
 |.non=>true
 |.bl _=>true
 |.int _=>true
 |.str _=>true
 |_=>false
def eqV:V->V->Bool
 |.non,.non=>true
 |.bl a,.bl b=>a==b
 |.bl a,.int b=>(if a then 1 else 0)==b
 |.int a,.bl b=>a==(if b then 1 else 0)
 |.int a,.int b=>a==b
 |.str a,.str b=>a==b
 |_,_=>false
theorem LZ {A:Around}{s:Shared}{y x:V}{u v:Value}(ry:QK y u)(rx:QK x v)(fy:Jr y=true)(fx:Jr x=true):SeqAt.EqAt A s u v (eqV y x):=by
 cases y with
 |non =>
   cases ry
   cases x with
   |non=>cases rx;exact SeqAt.EqAt.same _
   |bl b=>cases rx;exact SeqAt.EqAt.none_bool b
   |int b=>obtain⟨t,rfl⟩:=rx;exact SeqAt.EqAt.none_int b t
   |str b=>obtain⟨t,rfl⟩:=rx;exact SeqAt.EqAt.none_str b t
   |_=>exact Xl (show false=true from fx) Xp
 |bl a =>
   cases ry
   cases x with
   |non=>cases rx;exact SeqAt.EqAt.bool_none a
   |bl b=>cases rx;exact SeqAt.EqAt.bool_bool a b
   |int b=>obtain⟨t,rfl⟩:=rx;exact SeqAt.EqAt.bool_int a b t
   |str b=>obtain⟨t,rfl⟩:=rx;exact SeqAt.EqAt.bool_str a b t
   |_=>exact Xl (show false=true from fx) Xp
 |int a =>
   obtain⟨t',rfl⟩:=ry
   cases x with
   |non=>cases rx;exact SeqAt.EqAt.int_none a t'
   |bl b=>cases rx;exact SeqAt.EqAt.int_bool a t' b
   |int b=>obtain⟨t,rfl⟩:=rx;exact SeqAt.EqAt.int_int a t' b t
   |str b=>obtain⟨t,rfl⟩:=rx;exact SeqAt.EqAt.int_str a t' b t
   |_=>exact Xl (show false=true from fx) Xp
 |str a =>
   obtain⟨t',rfl⟩:=ry
   cases x with
   |non=>cases rx;exact SeqAt.EqAt.str_none a t'
   |bl b=>cases rx;exact SeqAt.EqAt.str_bool a t' b
   |int b=>obtain⟨t,rfl⟩:=rx;exact SeqAt.EqAt.str_int a t' b t
   |str b=>obtain⟨t,rfl⟩:=rx;exact SeqAt.EqAt.str_str a t' b t
   |_=>exact Xl (show false=true from fx) Xp
 |_=>exact Xl (show false=true from fy) Xp
def eqU (x:V)(u:Value):Bool:=match u with
 |.none=>eqV .non x
 |.bool b=>eqV (.bl b) x
 |.int i _=>eqV (.int i) x
 |.str z _=>eqV (.str z) x
 |_=>false
theorem Se {x y:V}{u:Value}(r:QK y u)(f:Jr y=true):eqU x u=eqV y x:=by
 cases y with
 |non=>cases r;rfl
 |bl b=>cases r;rfl
 |int i=>obtain⟨t,rfl⟩:=r;rfl
 |str z=>obtain⟨t,rfl⟩:=r;rfl
 |_=>exact Xl (show false=true from f) Xp
theorem Hk {x:V}:∀{xs:List V} {us:Qe},QP xs us->xs.all Jr=true->us.any (eqU x)=xs.any fun y=>eqV y x
 |_,_,.nil,_=>rfl
 |y::xs,u::us,.cons r t,f=>by
   rw[List.all_cons,YT]at f;rw[Bj,Bj,Se r f.1,Hk t f.2]
theorem HK {A:Around}{s:Shared}{x:V}{v:Value}(rx:QK x v)(fx:Jr x=true):∀{xs:List V} {us:Qe},QP xs us->xs.all Jr=true->∀u∈us,SeqAt.EqAt A s u v (eqU x u)
 |_,_,.nil,_=>fun u hu=>by cases hu
 |y::xs,u::us,.cons r t,f=>fun u' hu=>by
   rw[List.all_cons,YT]at f;rcases Xg.mp hu with rfl|hu
   ·rw[Se r f.1];exact LZ r rx f.1 fx
   ·exact HK rx fx t f.2 u' hu
def inV (x:V)(xs:List V):Bool:=xs.any fun y=>eqV y x
def rIn (K:W.Frag)(neg:Bool):R2:=fun x y H Q=>∃p xs,y=.ref p/\(SqL K H p xs\/SqT K H p xs)/\Jr x=true/\xs.all Jr=true/\Q (.bl (if neg then !inV x xs else inV x xs)) H
theorem Lm:OpR X (compareOp .NotIn) (rIn X.K true):=by
 intro Xbs s σ H x y v u Q I rx ry h;obtain⟨p,xs,rfl,hq,fx,fs,q⟩:=h
 cases ry
 rcases hq with hq|hq
 ·obtain⟨its,r,pl,hz⟩:=I.list hq
  refine SeqAt.notIn_listAt (eqU x) pl.isList (fun w hw=>HK rx fx r fs w (by simpa using hw)) ⟨.bl _,H,I,rfl,?_⟩
  rw[show its.toArray.any (eqU x)=its.any (eqU x) by simp,Hk r fs]
  exact q
 ·obtain⟨its,r,pl,hz⟩:=I.tuple hq
  refine SeqAt.notIn_tupleAt (eqU x) pl (fun w hw=>HK rx fx r fs w (by simpa using hw)) ⟨.bl _,H,I,rfl,?_⟩
  rw[show its.toArray.any (eqU x)=its.any (eqU x) by simp,Hk r fs]
  exact q
theorem Zji:Vn X (.builtin "len") (fun xs H Q=>∃p ys,xs=[.ref p]/\(SqL X.K H p ys\/SqT X.K H p ys)/\Q (.int ys.length) H):=by
 intro Xbs s σ H xs us Q I r h;obtain⟨p,ys,rfl,hq,q⟩:=h
 obtain⟨u,rfl,rx⟩:=Jq r
 cases rx
 have hn:=JX
 rcases hq with hq|hq
 ·obtain⟨its,r',pl,hz⟩:=I.list hq
  have hlen:=r'.length
  exact Calls.call_len_list pl.isList (by simp only[Xu]<;>omega) ⟨.int ys.length,H,I.tok _,⟨s.toks+1,by rw[Xu,hlen]⟩,q⟩
 ·obtain⟨its,r',pl,hz⟩:=I.tuple hq
  have hlen:=r'.length
  exact len_tuple pl (by simp only[Xu]<;>omega) ⟨.int ys.length,H,I.tok _,⟨s.toks+1,by rw[Xu,hlen]⟩,q⟩
theorem ZiS:Vn X (.type "list") (fun xs H Q=>∃p ys,xs=[.ref p]/\(SqL X.K H p ys\/SqT X.K H p ys)/\∀l,H l=none->Q (.ref l) (upd H l (.lst ys))):=by
 intro Xbs s σ H xs us Q I r h;obtain⟨p,ys,rfl,hq,q⟩:=h
 obtain⟨u,rfl,rx⟩:=Jq r
 cases rx
 have fin:∀(its:Qe),QP ys its->ys.length<=sizeLine->∀(h':Heap) (c':Nat),(∀b o',s.heap.get? b=some o'->h'.get? b=some o') ->
  h'.get? s.heap.objs.size=some { cls:=.type "list",dict:=none,data:=.seq its.toArray c',slots := #[] }->EP X Xbs σ Q (.ref s.heap.objs.size) { s with heap:=h' }:=fun its r' hz h' c' kp e =>
  ⟨.ref s.heap.objs.size,_,I.laid (t':=s.toks) kp (Xs _) (show Z7 X.prog X.w _ h' _ (.lst ys) from⟨hz,its,c',r',e⟩),rfl,q _ (I.hok.fresh (Xs _))⟩
 rcases hq with hq|hq
 ·obtain⟨its,r',pl,hz⟩:=I.list hq
  have hlen:=r'.length
  obtain⟨o,ho,hc,n,hd⟩:=pl.isList
  exact call_list_seq p (.inl rfl) ho hc hd (fun h' c' kp e=>fin its r' hz h' c' kp e) (by simp only[Xu]<;>omega)
 ·obtain⟨its,r',pl,hz⟩:=I.tuple hq
  have hlen:=r'.length
  obtain⟨o,ho,hc,n,hd⟩:=pl
  exact call_list_seq p (.inr rfl) ho hc hd (fun h' c' kp e=>fin its r' hz h' c' kp e) (by simp only[Xu]<;>omega)
theorem Zin:Vn X (.type "tuple") (fun xs H Q=>∃p ys,xs=[.ref p]/\((SqL X.K H p ys/\∀l,H l=none->Q (.ref l) (upd H l (.tup ys)))\/(SqT X.K H p ys/\Q (.ref p) H))):=by
 intro Xbs s σ H xs us Q I r h;obtain⟨p,ys,rfl,h⟩:=h
 obtain⟨u,rfl,rx⟩:=Jq r
 cases rx
 rcases h with ⟨hq,q⟩|⟨hq,q⟩
 ·obtain⟨its,r',pl,hz⟩:=I.list hq
  have hlen:=r'.length
  refine call_tuple_list pl.isList (fun h' kp=>?_) (by simp only[Xu]<;>omega)
  have I1:Qr X Xbs σ H { s with heap:=h' }:=I.kept (t':=s.toks) kp
  have I2:Qr X Xbs σ (upd H h'.objs.size (.tup ys)) { s with heap:=h'.push { cls:=.type "tuple",data:=.seq its.toArray } } :=
   I1.laid (t':=s.toks) (fun b o e=>Xf _ e) (Xs _) (show Z7 X.prog X.w _ _ _ (.tup ys) from⟨hz,its,r',IsTup.new _ _⟩)
  exact⟨.ref h'.objs.size,_,I2,rfl,q _ (I1.hok.fresh (Xs _))⟩
 ·obtain⟨its,r',pl,hz⟩:=I.tuple hq
  exact call_tuple_same pl ⟨.ref p,H,I,rfl,q⟩
def tyV (K:W.Frag)(T:String)(x:V)(H:Hp):Prop:=match x with
 |.str _=>T = "str"
 |.int _=>T = "int"
 | .ref p=>(T = "list" /\ ∃xs,SqL K H p xs)\/(T = "tuple" /\ ∃o,K.lookup p=some o/\o.cls=.type "tuple" /\ o.dict=none) \/
  (T = "dict" /\ ((∃kvs,H p=some (.dK kvs))\/∃kvs,H p=some (.dT kvs)))\/(T = "set" /\ ∃S n,H p=some (.set S n))
 |_=>False
theorem RG {Xbs:Qc}{σ:St}{H:Hp}{s:Shared}{T:String}{x:V}{v:Value}(I:Qr X Xbs σ H s)(r:QK x v)(ty:tyV X.K T x H) :
 s.TypeIs v T/\∀a,v=.ref a->∃ob,s.heap.get? a=some ob/\ob.dict=none:=by
 cases x with
 |str z =>
   obtain⟨t,rfl⟩:=r
   cases (show T = "str" from ty)
   exact⟨typeIs_str s z t,fun _ e=>nomatch e⟩
 |int i =>
   obtain⟨t,rfl⟩:=r
   cases (show T = "int" from ty)
   exact⟨typeIs_int s i t,fun _ e=>nomatch e⟩
 |ref p =>
   cases r
   rcases ty with ⟨rfl,xs,hq⟩|⟨rfl,o,hk,hc,hd⟩|⟨rfl,hk⟩|⟨rfl,S,n,hk⟩
   ·obtain⟨its,_,pl,_⟩:=I.list hq
    refine⟨pl.isList.typeIs,fun a e=>?_⟩
    cases e
    obtain⟨o,n,e,c,hd,_⟩:=pl
    exact⟨o,e,hd⟩
   ·refine⟨⟨o,I.kIn p o hk,hc⟩,fun a e=>?_⟩
    cases e
    exact⟨o,I.kIn _ o hk,hd⟩
   ·have z:∃o,s.heap.get? p=some o/\o.ExactDict:=by
     rcases hk with ⟨kvs,hk⟩|⟨kvs,hk⟩
     ·obtain⟨_,_,_,_,o,_,_,e,ex,_⟩:=I.hok p _ hk
      exact⟨o,e,ex⟩
     ·obtain⟨_,_,_,_,o,_,_,e,ex,_⟩:=I.hok p _ hk
      exact⟨o,e,ex⟩
    obtain⟨o,e,ex⟩:=z
    refine⟨⟨o,e,ex.1⟩,fun a e2=>?_⟩
    cases e2
    exact⟨o,e,ex.2.1⟩
   ·obtain⟨o,_,_,_,e,ex,_⟩:=I.hok p _ hk
    refine⟨⟨o,e,ex.1⟩,fun a e2=>?_⟩
    cases e2
    exact⟨o,e,ex.2.1⟩
 |_=>exact False.elim ty
def Nz (K:W.Frag)(T:String)(r:V->List V->Hp->VK->Prop)(to:TE):TE:=fun σ H Q=>to σ H fun x H1=>tyV K T x H1/\r x [] H1 Q
def tBM (K:W.Frag)(T:String)(r:V->List V->Hp->VK->Prop)(to:TE)(t:TA):TE:=fun σ H Q=>to σ H fun x H1=>tyV K T x H1/\t σ H1 fun xs H2=>r x xs H2 Q
variable {o e:Expr}{es:Qi}{to:TE}{t:TA}{name:Str}{apos cpos:Pos}{T id:String}{r:V->List V->Hp->VK->Prop}
theorem LT (pa:PlainAttrs T) (slot:Slot T name id) (hty:typeOf (.builtin id)=pure (.type "method_descriptor")) (hm:MtR X id r) (ho:PE X o to)
 (hbase:attributeBase o name X.env (eval o X.env)=eval o X.env:=by rfl) (hline:(apos.endLine==cpos.line)=true:=by rfl):PE X (.Call (.Attribute o name apos) [] [] cpos) (Nz X.K T r to):=by
 intro Xbs s σ H Q I h;refine wpAny_Call_method0_late hbase hline (Q8 (ho Xbs s σ H _ I h) fun v s1 ⟨x,H1,I1,r1,ty,q1⟩=>?_)
 obtain⟨h1,h2⟩:=RG I1 r1 ty
 exact⟨T,id,pa,slot,hty,h1,h2,Calls.callWith_builtin rfl (PySem.evalArgs_none (hm Xbs s1 σ H1 x [] v [] Q I1 r1 .nil q1))⟩
theorem YY (pa:PlainAttrs T) (slot:Slot T name id) (hty:typeOf (.builtin id)=pure (.type "method_descriptor")) (hm:MtR X id r) (ho:PE X o to) (ha:PA X (e::es) t)
 (hbase:attributeBase o name X.env (eval o X.env)=eval o X.env:=by rfl)
 (hfew:((backTo cpos (starEach (e::es) X.env)).all (fun x => !x.1)&&(backToKw cpos (keywordEach [] X.env)).all (fun x=>x.1.isSome)
  && decide ((e::es).length+([]:List Keyword).length+(if ([]:List Keyword).isEmpty then 0 else 1)<30))=true:=by rfl)
 (hline:(apos.endLine==cpos.line)=true:=by rfl) (hs:starEach (e::es) X.env=(false,eval e X.env)::starEach es X.env:=by rfl) (hplain:(backTo cpos (starEach es X.env)).any (·.1)=false:=by rfl) :
 PE X (.Call (.Attribute o name apos) (e::es) [] cpos) (tBM X.K T r to t):=by
 intro Xbs s σ H Q I h;refine wpAny_Call_method_late hbase hfew hline rfl (Q8 (ho Xbs s σ H _ I h) fun v s1 ⟨x,H1,I1,r1,ty,q1⟩=>?_)
 obtain⟨h1,h2⟩:=RG I1 r1 ty
 refine⟨T,id,pa,slot,hty,h1,h2,?_⟩
 have hA:=ha cpos Xbs s1 σ H1 _ I1 q1
 rw[hs]at hA ⊢;refine Calls.callWith_builtin (by show(false||(backTo cpos (starEach es X.env)).any (·.1))=false;rw[hplain]<;>rfl) (Calls.evalArgs_plain ?_)
 exact Q8 hA fun us s2 ⟨vs,H2,I2,r2,q2⟩=>hm Xbs s2 σ H2 x vs v us Q I2 r1 r2 q2
end
def MtM (X:Cx)(id:String)(r:V->List V->Hp->VK->Prop):Prop :=
 ∀(Xbs:Qc) (s:Shared) (σ:St) (H:Hp) (x:V) (xs:List V) (v:Value) (us:Qe) (Q:VK),Qr X Xbs σ H s->QK x v->QP xs us->r x xs H Q ->
  wpAny (model X.prog X.w) X.A (call (.builtin id) (v::us)) (EP X Xbs σ Q) X.xe s
theorem QP.one:∀{x:V} {us:Qe},QP [x] us->∃u,us=[u]/\QK x u
 |_,_,.cons r .nil=>⟨_,rfl,r⟩
section
variable {X:Cx}{Xbs:Qc}{σ:St}{H:Hp}{s:Shared}{l b:Addr}{xs ys zs:List V}
theorem Qr.lset {its its':Qe}{n:Nat}{f:Array Value->Array Value}{t':Nat}(I:Qr X Xbs σ H s)(hH:H l=some (.lst xs))
 (e:s.heap.get? l=some { cls:=.type "list",data:=.seq its.toArray n }) (hf:f its.toArray=its'.toArray) (hv:QP ys its') (hz:ys.length<=sizeLine) :
 Qr X Xbs σ (upd H l (.lst ys)) { s with heap:=s.heap.update l (Obj.mapSeq f),toks:=t' }:=by
 have q:=PySem.IsL.update e f
 rw[hf]at q;refine I.write (x:=l) (e:=l) (by rw[hH];exact trivial) (.inl rfl) (fun b' u hb hu=>(X5 s.heap (Obj.mapSeq f) (Ne.symm hb)).trans hu) ⟨_,q⟩ ?_
 exact⟨hz,its',_,hv,q⟩
theorem Qr.lnew {its:Qe}{t':Nat}(I:Qr X Xbs σ H s)(hv:QP ys its)(hz:ys.length<=sizeLine) :
 Qr X Xbs σ (upd H s.heap.objs.size (.lst ys)) { s with heap:=s.heap.push { cls:=.type "list",data:=.seq its.toArray },toks:=t' } :=
 I.laid (fun _ _ q=>Xf _ q) (Xs _) ⟨hz,its,0,hv,XQ _ rfl⟩
theorem Qr.fresh (I:Qr X Xbs σ H s):H s.heap.objs.size=none:=I.hok.fresh (Xs _)
theorem Qr.lstM (I:Qr X Xbs σ H s) (hH:H l=some (.lst xs)):xs.length<=sizeLine/\∃(its:Qe) (n:Nat),QP xs its/\xs.length=its.length/\s.heap.get? l=some { cls:=.type "list",data:=.seq its.toArray n }:=by
 obtain⟨z,its,n,r,e⟩:=I.hok l _ hH
 exact⟨z,its,n,r,r.length,e⟩
end
section
variable {X:Cx}
def UK:V->List V->Hp->VK->Prop:=fun x vs H Q=>∃l xs y,x=.ref l/\vs=[y]/\H l=some (.lst xs)/\xs.length<sizeLine/\Q .non (upd H l (.lst (xs++[y])))
theorem W6:MtM X "list.append" UK:=by
 intro Xbs s σ H x vs v us Q I rx rv h;obtain⟨l,xs,y,rfl,rfl,hH,hz,q⟩:=h
 cases rx
 obtain⟨u,rfl,ru⟩:=rv.one
 obtain⟨z,its,n,r,hl,e⟩:=I.lstM hH
 refine call_meets F.slot_list_append ⟨_,e,rfl⟩ F.entry_list_append (F.args_list_append_2 _ _) (PySem.list_append l its.toArray n u (by rw[Xu];omega)) ⟨e,?_⟩
 refine⟨.non,_,I.lset (its':=its++[u]) hH e (by simp) (r.append (.cons ru .nil)) ?_,rfl,q⟩
 rw[Xq,List.length_singleton];omega
def Np:R2:=fun x y H Q=>∃l b xs zs,x=.ref l/\y=.ref b/\H l=some (.lst xs)/\H b=some (.lst zs)/\xs.length+zs.length<=sizeLine/\∀p,H p=none->Q (.ref p) (upd H p (.lst (xs++zs)))
theorem DW:OpR X (binaryOp .Add) Np:=by
 intro Xbs s σ H x y v u Q I rx ry h;obtain⟨l,b,xs,zs,rfl,rfl,hH,hB,hz,q⟩:=h
 cases rx
 cases ry
 obtain⟨z,its,n,r,hl,e⟩:=I.lstM hH
 obtain⟨z2,its2,n2,r2,hl2,e2⟩:=I.lstM hB
 refine PySem.P.add_list e e2 ?_ (by rw[Xu,Xu];omega)
 have ea:its.toArray++its2.toArray=(its++its2).toArray:=by simp
 rw[ea];exact⟨.ref _,_,I.lnew (t':=s.toks) (r.append r2) (by rw[Xq];omega),rfl,q _ I.fresh⟩
end
section
variable {prog:Program}{w:World}{A:Around}{E:Qb}{s:Shared}
end
section
variable {X:Cx}
end
end L2
namespace Att
open PySem PySem.W PySem.Calls PyProof.Rows
theorem Zg6 {P:Params}{h:Heap}:∀(ns:Ql) (vs:Qe),WellAll P h vs (ns.map WData.int)->IntsAre vs ns:=by
 intro ns;induction ns with
 |nil =>
   intro vs w;rw[JD]at w;cases w
   exact .nil
 |cons n ns ih =>
   intro vs w;rw[Xt]at w;cases w with
   |cons a b =>
     cases a
     exact .cons _ _ (ih _ b)
theorem Op {l:OpenLaw}{n:Nat}(hn:l.most=some n){P:Params}{h:Heap}{args:List WData}{vals:Qe}
 (hpre:l.row.toRowW.claim.pre args=true) (hwl:WellAll P h vals args) :
 ∃a vs ns,vals=[Value.ref a]/\args=[WData.list (ns.map WData.int)]/\h.get? a=some { cls:=.type "list",data:=.seq vs.toArray }/\IntsAre vs ns/\ns.length<=n:=by
 have hsh:WShape.hasAll [] args [.list .int]=true:=(pre_splitW hpre).1
 have hc:l.pre.holds [] { args:=args }=true:=(pre_splitW hpre).2
 obtain⟨d,r,rfl,h1,h2⟩:=hasAllW_cons hsh
 obtain rfl:=hasAllW_nil h2
 obtain⟨xs,rfl,h3⟩:=hasW_list h1
 obtain⟨ns,rfl⟩:=items_int h3
 have hlen:ns.length<=n:=by
  unfold OpenLaw.pre at hc;have h4:(WTm.not (.lt (.lit (.int (n:Int))) (.len (.arg 0)))).holds [] { args:=[.list (ns.map .int)] }=true:=by
   have h4:=(holds_andW hc).1
   rw[hn]at h4;exact h4
  have h5:=condW_of h4 (w_not (w_lt w_lit (w_len_list (w_arg rfl))))
  rw[Xm]at h5;refine Nat.le_of_not_lt fun q=>?_
  have q':(n:Int)<((ns.length:Nat):Int):=by omega
  first
   |(rw[Yk q']at h5;exact Xl h5 (by decide))
   |(simp at h5;omega)
 cases hwl with
 |cons w1 w2 =>
   cases w2
   cases w1 with
   |list ho hall=>exact⟨_,_,ns,rfl,rfl,ho,Zg6 ns _ hall,hlen⟩
theorem Iv (l:OpenLaw)(args:List WData):l.row.toRowW.claim.post args (.bool true) args=true :=
 postW_of (r:=l.row.toRowW) (X:=(true==true))
  (show WShape.has [] (.bool true) .bool=true by first|rfl|decide|simp[WShape.has,WShape.arms,WShape.armsAll])
  (show(WTm.eq .res (.lit (.bool true))).value [] { args:=args,res:=some (.bool true),after:=args }=some (.bool (true==true)) from w_eq_bool (w_res rfl) w_lit) rfl
section
variable {prog:Program}{w:World}{A:Around}{E:Qb}{s:Shared}{K:Frag}
end
end Att
namespace L2
open PySem PySem.Spec PyProof.Rows
theorem Ta:∀{vs:Qe} {ns:Ql},IntsAre vs ns->QP (ns.map V.int) vs
 |_,_,.nil=>.nil
 |_,_,.cons n t h=>.cons ⟨t,rfl⟩ (Ta h)
def LG (H:Hp):Prop := ∀b,H b=none\/∃o xs,H b=some (.frz o (.lst xs))
abbrev KOf {K:W.Frag}{h:Heap}(_:K.In h):W.Frag:=K
def WR (s:Stmt)(j:Nat):Stmt:=match s with
 |.ClassDef _ _ _ body _ _ _ _ _ _ _=>body.getD j (.Pass ⟨0,0,0,0⟩)
 |_=>.Pass ⟨0,0,0,0⟩
def VR (s:Stmt):Arguments:=match s with
 |.FunctionDef _ a _ _ _ _ _ _ _ _=>a
 |_=>{ posonlyargs:=[],args:=[],vararg:=none,kwonlyargs:=[],kw_defaults:=[],kwarg:=none,defaults:=[] }
def Z3 (s:Stmt):List Stmt:=match s with
 |.FunctionDef _ _ b _ _ _ _ _ _ _=>b
 |_=>[]
def Q1 (s:Stmt):Scope:=match s with
 |.FunctionDef _ _ _ _ _ _ sc _ _ _=>sc
 |_=>{ kind:=.function,names:=[],isGenerator:=false,isCoroutine:=false }
abbrev CX0:CXT:=fun _ _ _ _ _ _=>False
abbrev E0:XK:=fun _ _ _=>False
theorem B0 {X:Cx}:We CX0 X E0:=fun _ _ _ _ _ _ _ h=>h.elim
structure Fun (K:W.Frag)(x qual:Str)(st:Stmt)(f:Addr)(fd:FuncData):Prop where
 ex:∃(oc:Value) (od:Qj) (kV doc pm:Value) (an:Qj) (cdv ct:Value) (osl:Array (Qf)),
  fd=W.fnOf x qual (VR st) (Z3 st) (Q1 st) .none kV doc pm an cdv ct/\K.lookup f=some ⟨oc,od,.func fd,osl⟩/\W.codeIn K cdv qual=true
 kp:W.keepIn K (.ref f)=true
section
variable {P:Program}{w:World}{K:W.Frag}{mg:Str->Qf}{base:Heap}
theorem Fun.ok {x qual:Str}{st:Stmt}{f:Addr}{fd:FuncData}{N ps:Qh}{k:Nat}{sp:Sp}(F:Fun K x qual st f fd)(S:Qp N ps (Q1 st))(len:∀vs H Q E,sp vs H Q E->vs.length=ps.length)
 (Xbt:∀(cdv:Value) (A:Around) (outer:List Env) (s:Shared) (H:Hp) (vs:List V) (Q:VK) (E:XK),Room k (A.deeper (envOfC qual (Q1 st) s.heap.objs.size f cdv))->sp vs H Q E ->
  ∃t,PSs (VM CX0 P w K mg base N qual (Q1 st) f cdv A outer s H E).nox (Z3 st) t/\t { nx:=fun _ H'=>Q .non H',rt:=Q } (start N vs) H):FnOk P w K mg base CX0 (k+1) f fd ps sp:=by
 obtain⟨oc,od,kV,doc,pm,an,cdv,ct,osl,rfl,lk,hcd⟩:=F.ex
 refine NC lk hcd S len fun A outer s H vs Q E hr hsp=>?_
 obtain⟨t,h,q⟩:=Xbt cdv A outer s H vs Q E hr hsp
 exact⟨t,h.nox,q⟩
theorem Fun.binds {x qual:Str}{st:Stmt}{f:Addr}{fd:FuncData}{ps:Qh}(F:Fun K x qual st f fd)
 (h:∀(kV doc pm:Value) (an:Qj) (cdv ct:Value) (us:Qe),us.length=ps.length->bindArgs (W.fnOf x qual (VR st) (Z3 st) (Q1 st) .none kV doc pm an cdv ct) ⟨us,[]⟩=pure (ps.zip us)):VN K fd ps []:=by
 obtain⟨oc,od,kV,doc,pm,an,cdv,ct,osl,rfl,lk,hcd⟩:=F.ex
 exact .all (h kV doc pm an cdv ct)
theorem YK {x qual:Str}{st:Stmt}{f:Addr}{oc:Value}{od an:Qj}{osl:Array (Qf)}{kV doc pm cdv ct:Value}(l:K.lookup f=some ⟨oc,od,.func (W.fnOf x qual (VR st) (Z3 st) (Q1 st) .none kV doc pm an cdv ct),osl⟩)
 (c:W.codeIn K cdv qual=true) (k:W.keepIn K (.ref f)=true):Fun K x qual st f (W.fnOf x qual (VR st) (Z3 st) (Q1 st) .none kV doc pm an cdv ct):=⟨⟨oc,od,kV,doc,pm,an,cdv,ct,osl,rfl,l,c⟩,k⟩
end
theorem WK {A:Around}{k:Nat}(hr:Room k A):A.units+1<cLine:=MK (Nat.add_le_add_left (by decide:1<=64) _) hr.units
theorem Vv {n:Nat}(h:n<=1000):n<sizeLine:=MK h (by decide)
section
variable {X:Cx}
theorem pv (i:Nat) {x:Str} {pos:Pos} (hN:X.N[i]?=some x:=by rfl) (hv:Vis X.env.scope x:=by first|exact Or.inl rfl|exact Or.inr Qa|exact Or.inr (Or.inr rfl)) (hd:(x==("__debug__" : Str))=false:=by decide)
 (hcd:(x==("__classdict__" : Str))=false:=by decide):PE X (.Name x pos) (Zc i):=RN hN hv hd hcd
end
def QC (H H':Hp):Prop := ∀b o,H b=some o->H' b=some o
theorem QC.refl (H:Hp):QC H H:=fun _ _ h=>h
theorem QC.trans {H H1 H2:Hp}(a:QC H H1)(b:QC H1 H2):QC H H2:=fun c o h=>b c o (a c o h)
theorem QC.free {H H':Hp}(e:QC H H'){l:Addr}(h:H' l=Option.none):H l=Option.none:=by
 cases q:H l with
 |none=>rfl
 |some o =>
   rw[e l o q]at h;cases h
theorem QC.seq {K:W.Frag}{H H':Hp}{a:Addr}{xs:List V}(e:QC H H')(h:SqL K H a xs):SqL K H' a xs:=by
 rcases h with (h|⟨o,h⟩)|h
 ·exact .inl (.inl (e _ _ h))
 ·exact .inl (.inr ⟨o,e _ _ h⟩)
 ·exact .inr h
end L2
section
namespace L2
open PySem PySem.Spec PyProof.Rows
theorem Kr {env:Env}{F:Str×NameKind->List (Str×Addr)->Sem (ForInStep (List (Str×Addr)))}
 (h1:∀n c cs,env.cells.lookup n=some c->F (n,NameKind.free) cs=pure (.yield ((n,c)::cs)))
 (h2:∀n k cs,k≠NameKind.free->F (n,k) cs=pure (.yield cs)) :
 ∀(l:List (Str×NameKind)) (cs:List (Str×Addr)),(∀p∈l,p.2=NameKind.free->∃c,env.cells.lookup p.1=some c)->(∀x c,cs.lookup x=some c->env.cells.lookup x=some c) ->
  ∃cl,forIn l cs F=pure cl/\(∀x c,cl.lookup x=some c->env.cells.lookup x=some c)/\(∀x c,cs.lookup x=some c->∃c',cl.lookup x=some c')/\∀p∈l,p.2=NameKind.free->∃c,cl.lookup p.1=some c
 |[],cs,_,hc=>⟨cs,by rw[List.forIn_nil],hc,fun x c h=>⟨c,h⟩,fun p hp=>Xl hp (by simp)⟩
 |(n,k)::l,cs,hl,hc=>by
   have hl':∀p∈l,p.2=NameKind.free->∃c,env.cells.lookup p.1=some c:=fun p hp=>hl p (Xe _ hp)
   by_cases hk:k=NameKind.free
   ·subst hk
    obtain⟨c,e⟩:=hl (n,NameKind.free) Xd rfl
    have hc':∀x d,((n,c)::cs).lookup x=some d->env.cells.lookup x=some d:=fun x d q=>by
     cases hx:x==n with
     |true =>
       simp only[XM,hx]at q;cases q
       rw[eq_of_beq hx];exact e
     |false =>
       simp only[XM,hx]at q;exact hc x d q
    obtain⟨cl,a1,a2,a3,a4⟩:=Kr h1 h2 l ((n,c)::cs) hl' hc'
    have up:∀x d,cs.lookup x=some d->∃d',((n,c)::cs).lookup x=some d':=fun x d q=>by
     cases hx:x==n with
     |true=>exact⟨c,by simp only[XM,hx]⟩
     |false=>exact⟨d,by simp only[XM,hx];exact q⟩
    refine⟨cl,by rw[List.forIn_cons,h1 n c cs e,pure_bind];exact a1,a2,fun x d q=>?_,fun p hp hf=>?_⟩
    ·obtain⟨d',q'⟩:=up x d q
     exact a3 x d' q'
    ·rcases Xg.mp hp with rfl|hp
     ·exact a3 n c (by simp only[XM,beq_self_eq_true])
     ·exact a4 p hp hf
   ·obtain⟨cl,a1,a2,a3,a4⟩:=Kr h1 h2 l cs hl' hc
    refine⟨cl,by rw[List.forIn_cons,h2 n k cs hk,pure_bind];exact a1,a2,a3,fun p hp hf=>?_⟩
    rcases Xg.mp hp with rfl|hp
    ·exact Xl hf hk
    ·exact a4 p hp hf
theorem TC {scope:Scope}{env:Env}(h:∀p∈scope.names,p.2=NameKind.free->∃c,env.cells.lookup p.1=some c) :
 ∃cl,closureFor scope env=pure cl/\(∀x c,cl.lookup x=some c->env.cells.lookup x=some c)/\∀p∈scope.names,p.2=NameKind.free->∃c,cl.lookup p.1=some c:=by
 simp only[closureFor];obtain⟨cl,a1,a2,_,a4⟩:=Kr (env:=env) (F:=fun x r=>match x with|(name,kind)=>if (kind==NameKind.free)=true then do let a <- cellOf env name;pure (ForInStep.yield ((name,a)::r)) else pure (ForInStep.yield r))
  (fun n c cs e=>by
   show(if (NameKind.free==NameKind.free)=true then _ else _)=_
   rw[Xc (show(NameKind.free==NameKind.free)=true from rfl)];unfold cellOf;rw[e];rfl)
  (fun n k cs hk=>by
   have:(k==NameKind.free)=false:=by simpa using hk
   show(if (k==NameKind.free)=true then _ else _)=_
   rw[this,Xb Xp]) scope.names [] h (fun x c q=>by simp at q)
 refine⟨cl,?_,a2,a4⟩
 first
  |exact a1
  |(rw[bind_pure];exact a1)
  |(simp only[bind_pure]at *;exact a1)
  |(rw[show(forIn scope.names ([]:List (Str×Addr)) _ >>= fun r=>pure r)=_ from bind_pure _];exact a1)
theorem Lx {env:Env}:∀{names:List (Str×NameKind)} {x:Str},names.lookup x=some .free ->
 (names.map fun(n,k)=>if (k==NameKind.free&&env.scope.kind==.function&&env.kindOf n==some .cell) then (n,NameKind.cell) else (n,k)).lookup x=some .cell \/
 (names.map fun(n,k)=>if (k==NameKind.free&&env.scope.kind==.function&&env.kindOf n==some .cell) then (n,NameKind.cell) else (n,k)).lookup x=some .free
 |[],_,h=>by simp at h
 |(n,k)::r,x,h=>by
   have ih:=@Lx env r x
   show List.lookup x ((if (k==NameKind.free&&env.scope.kind==.function&&env.kindOf n==some .cell)=true then (n,NameKind.cell) else (n,k))::_)=_\/List.lookup x ((if (k==NameKind.free&&env.scope.kind==.function&&env.kindOf n==some .cell)=true then (n,NameKind.cell) else (n,k))::_)=_
   cases hx:x==n with
   |true =>
     simp only[XM,hx]at h;cases h
     by_cases hc:(NameKind.free==NameKind.free&&env.scope.kind==.function&&env.kindOf n==some .cell)=true
     ·rw[Xc hc];left;simp only[XM,hx]
     ·rw[Xb hc];right;simp only[XM,hx]
   |false =>
     simp only[XM,hx]at h;by_cases hc:(k==NameKind.free&&env.scope.kind==.function&&env.kindOf n==some .cell)=true
     ·rw[Xc hc];simp only[XM,hx];exact ih h
     ·rw[Xb hc];simp only[XM,hx];exact ih h
theorem Lv {env:Env}:∀{names:List (Str×NameKind)} {x:Str},((names.map fun(n,k)=>if (k==NameKind.free&&env.scope.kind==.function&&env.kindOf n==some .cell) then (n,NameKind.cell) else (n,k)).lookup x=some .cell \/
 (names.map fun(n,k)=>if (k==NameKind.free&&env.scope.kind==.function&&env.kindOf n==some .cell) then (n,NameKind.cell) else (n,k)).lookup x=some .free)->names.lookup x=some .free\/names.lookup x=some .cell
 |[],_,h=>by simp at h
 |(n,k)::r,x,h=>by
   have ih:=@Lv env r x
   have h:List.lookup x ((if (k==NameKind.free&&env.scope.kind==.function&&env.kindOf n==some .cell)=true then (n,NameKind.cell) else (n,k))::_)=_\/List.lookup x ((if (k==NameKind.free&&env.scope.kind==.function&&env.kindOf n==some .cell)=true then (n,NameKind.cell) else (n,k))::_)=_:=h
   cases hx:x==n with
   |true =>
     simp only[XM,hx];by_cases hc:(k==NameKind.free&&env.scope.kind==.function&&env.kindOf n==some .cell)=true
     ·have:k=NameKind.free:=by
       rw[YT,YT]at hc;exact eq_of_beq hc.1.1
      left;rw[this]
     ·rw[Xb hc]at h
      simp only[XM,hx]at h;exact h.symm
   |false =>
     simp only[XM,hx];by_cases hc:(k==NameKind.free&&env.scope.kind==.function&&env.kindOf n==some .cell)=true
     ·rw[Xc hc]at h;simp only[XM,hx]at h;exact ih h
     ·rw[Xb hc]at h;simp only[XM,hx]at h;exact ih h
structure CIn where
 cl:List (Str×Addr)
 C:Addr
 s₀:Shared
 H₀:Hp
 ex:Qg
 pn:Qc
def Vu (X:Cx)(N:Qh)(scope:Scope)(c:CIn):Cx where
 prog:=X.prog
 w:=X.w
 K:=X.K
 mg:=X.mg
 base:=X.base
 A:=X.A
 N:=N
 s₀:=c.s₀
 H₀:=c.H₀
 env:=compEnvC scope c.cl c.C X.env
 outer:=X.stack
 stack:=X.stack
 ex:=c.ex
 fn:=fun _=>false
 calm:=X.calm
 pn:=c.pn
 xe:=fun _ _=>False
def Yl (f:List (Option Nat))(σ:St):St:=f.map fun o=>match o with|some i=>(σ[i]?).join|none=>none
structure CompOk (NX:Qh)(sc:Scope)(N:Qh)(f:List (Option Nat))(scope:Scope):Prop where
 kind:scope.kind=.function
 nocell:∀y∈scope.names,y.2≠NameKind.cell
 names:∀y∈scope.names,y.2=NameKind.local->scope.names.lookup y.1=some .local
 free:∀y∈scope.names,y.2=NameKind.free->sc.names.lookup y.1=some .cell\/sc.names.lookup y.1=some .free
 len:f.length=N.length
 ix:∀(j i:Nat),f[j]?=some (some i)->∃x,N[j]?=some x/\NX[i]?=some x/\scope.names.lookup x=some .free
def BR (NX:Qh)(sc:Scope)(N:Qh)(f:List (Option Nat))(scope:Scope):Bool :=
 decide (scope.kind=.function)&&(scope.names.all fun y=>decide (y.2≠NameKind.cell)&&(decide (y.2≠NameKind.local)||decide (scope.names.lookup y.1=some .local)) &&
  (decide (y.2≠NameKind.free)||decide (sc.names.lookup y.1=some .cell)||decide (sc.names.lookup y.1=some .free)))&&decide (f.length=N.length) &&
 (List.range f.length).all fun j=>match f[j]? with
  | some (some i)=>(match N[j]? with
    |some x=>decide (NX[i]?=some x)&&decide (scope.names.lookup x=some .free)
    |none=>false)
  |_=>true
theorem To {NX:Qh}{sc:Scope}{N:Qh}{f:List (Option Nat)}{scope:Scope}(h:BR NX sc N f scope=true):CompOk NX sc N f scope:=by
 unfold BR at h;simp only[YT,List.all_eq_true,decide_eq_true_eq,Bool.or_eq_true]at h;obtain⟨⟨⟨h1,h2⟩,h3⟩,h4⟩:=h
 refine⟨h1,fun y hy=>(h2 y hy).1.1,fun y hy e=>?_,fun y hy e=>?_,h3,fun j i e=>?_⟩
 ·rcases(h2 y hy).1.2 with z|z
  ·exact Xl e z
  ·exact z
 ·rcases(h2 y hy).2 with (z|z)|z
  ·exact Xl e z
  ·exact .inl z
  ·exact .inr z
 ·have hj:j<f.length:=(Xh.mp e).1
  have q:=h4 j (Xr.mpr hj)
  rw[e]at q;cases hN:N[j]? with
  |none=>rw[hN]at q;simp at q
  |some x =>
    rw[hN]at q;simp only[YT,decide_eq_true_eq]at q;exact⟨x,rfl,q.1,q.2⟩
def N3 (f:List (Option Nat))(σ σ':St):Prop:=σ'.length=σ.length/\∀(i j:Nat),f[i]?=some (some j)->σ'[i]?=σ[i]?
structure TgOk (f:List (Option Nat))(g:TG):Prop where
 keep:∀x σ H Q,g x σ H Q->g x σ H fun σ2 H2=>N3 f σ σ2/\Q σ2 H2
 mono:∀x σ H Q Q',(∀σ H,Q σ H->Q' σ H)->g x σ H Q->g x σ H Q'
structure TgsOk (f:List (Option Nat))(g:TGs):Prop where
 keep:∀xs σ H Q,g xs σ H Q->g xs σ H fun σ2 H2=>N3 f σ σ2/\Q σ2 H2
 mono:∀xs σ H Q Q',(∀σ H,Q σ H->Q' σ H)->g xs σ H Q->g xs σ H Q'
theorem ZC {f:List (Option Nat)}{j:Nat}(h:f[j]?=some none:=by rfl):TgOk f (Ws j) where
 keep:=fun x σ H Q q=>⟨⟨List.length_set ..,fun i k e=>X0 (by rintro rfl;rw[h]at e;cases e)⟩,q⟩
 mono:=fun x σ H Q Q' m q=>m _ _ q
theorem BM {f:List (Option Nat)}:TgsOk f Di where
 keep:=fun xs σ H Q ⟨e,q⟩=>⟨e,⟨rfl,fun _ _ _=>rfl⟩,q⟩
 mono:=fun xs σ H Q Q' m ⟨e,q⟩=>⟨e,m _ _ q⟩
theorem Jy {f:List (Option Nat)}{t:TG}{u:TGs}(h1:TgOk f t)(h2:TgsOk f u):TgsOk f (D4 t u) where
 keep:=fun xs σ H Q ⟨v,r,e,q⟩=>⟨v,r,e,h1.mono _ _ _ _ _ (fun σ1 H1 z=>h2.mono _ _ _ _ _ (fun σ2 H2 y=>⟨⟨y.1.1.trans z.1.1,fun i j ef=>(y.1.2 i j ef).trans (z.1.2 i j ef)⟩,y.2⟩) (h2.keep _ _ _ _ z.2)) (h1.keep _ _ _ _ q)⟩
 mono:=fun xs σ H Q Q' m ⟨v,r,e,q⟩=>⟨v,r,e,h1.mono _ _ _ _ _ (fun σ1 H1 z=>h2.mono _ _ _ _ _ m z) q⟩
theorem BA {f:List (Option Nat)}{K:W.Frag}{n:Nat}{t:TGs}(h:TgsOk f t):TgOk f (MV K n t) where
 keep:=fun x σ H Q ⟨a,xs,e,q,l,z⟩=>⟨a,xs,e,q,l,h.keep _ _ _ _ z⟩
 mono:=fun x σ H Q Q' m ⟨a,xs,e,q,l,z⟩=>⟨a,xs,e,q,l,h.mono _ _ _ _ _ m z⟩
def PCs (X:Cx)(ifs:Qi)(tc:TT):Prop :=
 ∀(Xbs:Qc) (s:Shared) (σ:St) (H:Hp) (Q:Bool->Hp->Prop),Qr X Xbs σ H s->tc σ H Q ->
  wpAny (model X.prog X.w) X.A (forIn ifs true fun c r=>if r=true then do let ok <- isTrue c X.env (eval c X.env);pure (ForInStep.yield ok) else pure (ForInStep.yield r)) (TP X Xbs σ Q) X.xe s
def JK:TT:=fun _ H Q=>Q true H
theorem Vg {X:Cx}:PCs X [] JK:=fun _ _ _ H _ I h=>wpAny_tests_nil ⟨H,I,h⟩
theorem BO {X:Cx}{c:Expr}{tc:TT}(h:PT X c tc):PCs X [c] tc:=fun Xbs s σ H Q I q=>wpAny_tests_one (h Xbs s σ H Q I q)
theorem Zj6 {prog:Program}{w:World}{A:Around}{R:Result->Shared->Prop}{s:Shared}{elt target iter:Expr}{ifs:Qi}{scope:Scope}{pos:Pos}{it acc:Value}{env:Env}(I:Nat->Shared->Prop)
 (turn:∀n s,I n s->wpAny (model prog w) A (pyNext it) (fun r b7=>match r with
  |none=>R (.ok .next) b7
  | some v=>wpAny (model prog w) A (letOwnedTupleGo target it v) (fun _ s₁'=>wpAny (model prog w) A (assign target env v) (fun _ b8 =>
   wpAny (model prog w) A (forIn ifs true fun c r=>if r=true then do let ok <- isTrue c env (eval c env);pure (ForInStep.yield ok) else pure (ForInStep.yield r)) (fun ok bj =>
    if ok=true then wpAny (model prog w) A (eval elt env) (fun x bv =>
     wpAny (model prog w) A (call (.builtin "list.append") [acc,x]) (fun _ c9 => ∃m,m<n/\I m c9) (fun _ _=>False) bv) (fun _ _=>False) bj
    else ∃m,m<n/\I m bj) (fun _ _=>False) b8) (fun _ _=>False) s₁') (fun _ _=>False) b7) (fun _ _=>False) s)
 (n:Nat) (h:I n s) :
 codeAny (model prog w) A (.compLoop (.ListComp elt [⟨target,iter,ifs,0⟩] scope pos) 0 it acc env) R s:=by
 refine codeAny_loop rfl I (fun n s hI=>?_) n h
 show wpAny _ A ((compTurn (.ListComp elt [⟨target,iter,ifs,0⟩] scope pos) 0 it acc env).onRaise (fun x=>do noteFrame x env;theTreesLotGoes x)) _ _ s
 refine wpAny_noted ?_
 rw[compTurn_list];refine Xa (wpAny_standAt (Xa (wpAny_mono (turn n s hI) (fun r b7 b9=>?_) fun _ _ h'=>h'.elim)))
 cases r with
 |none=>exact Xi b9
 |some v =>
   refine Xa (wpAny_mono b9 (fun _ s₁' h₁'=>?_) fun _ _ h'=>h'.elim)
   refine Xa (wpAny_mono h₁' (fun _ b8 bq=>Xa (wpAny_mono bq (fun ok bj bw=>?_) fun _ _ h'=>h'.elim)) fun _ _ h'=>h'.elim)
   cases ok with
   |false=>exact Xi ⟨rfl,bw⟩
   |true =>
     exact Xa (Xa (wpAny_mono bw (fun x bv d4=>Xa (wpAny_mono d4 (fun _ c9 d5=>Xi (Xi ⟨rfl,d5⟩)) fun _ _ h'=>h'.elim)) fun _ _ h'=>h'.elim))
theorem Qr.track {X:Cx}{Xbs:Qc}{σ:St}{H:Hp}{s:Shared}{a:Addr}{o:HO}(I:Qr X Xbs σ H s)(hn:H a=none)(h0:X.s₀.heap.objs.size<=a)(hL:a≠X.env.locals)(hC:∀x c,X.env.cells.lookup x=some c->c≠a)
 (hp:∀p∈X.pn++Xbs,p.1≠a) (new:Z7 X.prog X.w (upd H a o) s.heap a o):Qr X Xbs σ (upd H a o) s where
 ok:=I.ok
 os:=I.os
 bare:=I.bare
 base :=
  { keep:=I.base.keep
    slot:=I.base.slot
    free:=fun b ob q n hx=>by rw[Qx (Xo (Xv (Xj q) h0))];exact I.base.free b ob q n hx
    there:=I.base.there
    tups:=fun b xs q=>by have z:=I.base.tups b xs q;rw[Qx (ZM z hn)];exact z
    tupo:=I.base.tupo
    frzs:=fun b u xs q=>by have z:=I.base.frzs b u xs q;rw[Qx (ZM z hn)];exact z
    tbls:=fun b ps q=>by obtain⟨more,z⟩:=I.base.tbls b ps q;exact⟨more,by rw[Qx (ZM z hn)];exact z⟩ }
 loc:=I.loc
 cell:=I.cell
 free:=by rw[Qx hL.symm];exact I.free
 freeC:=fun x c e=>by rw[Qx (hC x c e)];exact I.freeC x c e
 pin:=fun p hp'=>by obtain⟨e,n,r⟩:=I.pin p hp';exact⟨e,by rw[Qx (hp p hp')];exact n,r⟩
 hok:=fun b u e=>by
  by_cases hb:b=a
  ·subst hb;rw[QR]at e;cases e;exact new
  ·rw[Qx hb]at e
   exact(I.hok b u e).stay (fun _ _ _ q=>q) (fun c q=>by rw[Qx (ZM q hn)];exact q) fun c xs q=>by rw[Qx (ZM q hn)];exact q
 len:=I.len
def LCw (f:List (Option Nat))(g:TG)(tc:TT)(te:TE)(σ:St)(J:It)(Q:VK)(H1:Hp):Prop :=
 ∃W:Nat->Nat->List V->Hp->Prop,(∃m,W 0 m [] H1)/\∀i m ys H,W i m ys H ->
  (J.stop i H/\∀p,H p=none->Q (.ref p) (upd H p (.lst ys))) \/
  (J.go i H/\∀x H',J.yld i H x H'->g x (Yl f σ) H' fun σ2 H2=>tc σ2 H2 fun b H3 =>
   if b=true then te σ2 H3 fun y H4=>ys.length<sizeLine/\∃m',m'<m/\W (i+1) m' (ys++[y]) H4
   else ∃m',m'<m/\W (i+1) m' ys H3)
def tLC (f:List (Option Nat))(wi:TI)(g:CIn->TG)(tc:CIn->TT)(te:CIn->TE):TE:=fun σ H Q=>wi σ H fun J H1=>∀c:CIn,LCw f (g c) (tc c) (te c) σ J Q H1
abbrev Y7 (its:Qe) (k:Nat):Obj:={ cls:=.type "list",data:=.seq its.toArray k }
section
variable {X:Cx}{Xbs:Qc}{σ:St}{H2:Hp}{b8:Shared}
theorem R0 {tg iter elt:Expr}{ifs:Qi}{scope:Scope}{pos:Pos}{N:Qh}{f:List (Option Nat)}{g:CIn->TG}{tc:CIn->TT}{te:CIn->TE}{cl:List (Str×Addr)}
 (hc:X.calm=true) (ck:CompOk X.N X.env.scope N f scope)
 (hg:∀c,PG (Vu X N scope c) tg (g c)) (ht:∀c,TgOk f (g c)) (hcs:∀c,PCs (Vu X N scope c) ifs (tc c)) (he:∀c,PE (Vu X N scope c) elt (te c))
 (I2:Qr X Xbs σ H2 b8) {it:Addr} {fp:Qg} {tn:Nat->Heap->Prop} {J:It} (T:Turn X.prog X.w X.K tg J fp it tn) (st:tn 0 b8.heap) (f2:∀b∈fp,Y8 X Xbs H2 b)
 {Q:VK} (hq:∀c:CIn,LCw f (g c) (tc c) (te c) σ J Q H2)
 (hcl1:∀x c,cl.lookup x=some c->X.env.cells.lookup x=some c) (hcl2:∀p∈scope.names,p.2=NameKind.free->∃c,cl.lookup p.1=some c)
 {RR:Value->Addr->Result->Shared->Prop} {E:Qb}
 (hRR:∀(acc C:Addr) (H':Hp) (s':Shared) (m':Str->Qf),s'.heap.Ns C m'->Qr X Xbs σ H' s'->H' C=none->C≠X.env.locals->X.s₀.heap.objs.size<=C->(∀x c,X.env.cells.lookup x=some c->c≠C) ->
  (∀p∈X.pn++Xbs,p.1≠C)->Q (.ref acc) H'->RR (.ref acc) C (.ok .next) s') :
 wpAny (model X.prog X.w) X.A (newList []) (fun acc bj=>wpAny (model X.prog X.w) X.A (newFunctionEnv scope X.env.globals cl [] X.env.qual none .none (some X.env)) (fun cenv bv =>
  codeAny (model X.prog X.w) X.A (.compStart (.ListComp elt [⟨tg,iter,ifs,0⟩] scope pos) 0 (.ref it) acc { cenv with scope:=relabel scope X.env }) (RR acc cenv.locals) bv) E bj) E b8:=by
 refine wpAny_newObj_type (wpAny_newFunctionEnv ck.nocell (by intro y hy;simp at hy) (fun b9 bz c7=>?_) ck.kind)
 dsimp only at bz c7 ⊢;have I3:Qr X Xbs σ H2 { b8 with heap:=b8.heap.push (Y7 [] 0) }:=I2.kept (t':=b8.toks) fun b u e=>Xf _ e
 have hD:(b8.heap.push (Y7 [] 0)).get? b8.heap.objs.size=some (Y7 [] 0):=XQ _ rfl
 generalize hs3:({ b8 with heap:=b8.heap.push (Y7 [] 0) }:Shared)=bj at I3 bz c7 ⊢
 have hp3:b8.heap.push (Y7 [] 0)=bj.heap:=by rw[<- hs3]
 have hp3':b8.heap.push { cls:=.type "list",dict:=none,data:=.seq ([]:Qe).toArray }=bj.heap:=hp3
 rw[hp3]at hD;simp only[hp3']at bz c7 ⊢;have sz3:b8.heap.objs.size<bj.heap.objs.size:=by rw[<- hp3,Gh];exact Uy _
 have k3:∀b u,b8.heap.get? b=some u->bj.heap.get? b=some u:=fun b u e=>by rw[<- hp3];exact Xf _ e
 have k1:∀b u,bj.heap.get? b=some u->b9.get? b=some u:=fun b u e =>
  c7.extBut b u (Xo (Xj e)) (Xf _ e)
 have fpo:∀b∈fp,b<b8.heap.objs.size:=fun b hb=>by
  obtain⟨o,e,_⟩:=T.obj 0 _ st b hb
  exact Xj e
 have st1:tn 0 b9:=T.keep _ _ _ st fun b hb o e=>k1 b o (k3 b o e)
 have fneC:∀b∈fp,b≠bj.heap.objs.size:=fun b hb=>Xo (Nat.lt_trans (fpo b hb) sz3)
 have fneD:∀b∈fp,b≠b8.heap.objs.size:=fun b hb=>Xo (fpo b hb)
 have cneD:∀x d,X.env.cells.lookup x=some d->d≠b8.heap.objs.size:=fun x d e=>by
  obtain⟨v,z⟩:=I2.cell x d e
  exact Xo z.lt
 have pneD:∀p∈X.pn++Xbs,p.1≠b8.heap.objs.size:=fun p hp=>Xo (Xj (I2.pin p hp).1)
 have freeD:H2 b8.heap.objs.size=none:=I2.fresh
 have stk:∀b,b≠X.env.locals->b∉X.fs->b∉frs X.stack:=fun b h1 h2 hb=>by
  rcases Xg.mp (I3.stkSub b hb) with z|z
  ·exact h1 z
  ·exact h2 z
 have exD:∀b,b∈b8.heap.objs.size::fp->b=b8.heap.objs.size\/b∈fp:=fun b hb=>Xg.mp hb
 let c:CIn:=⟨cl,bj.heap.objs.size,bj,H2,b8.heap.objs.size::fp,X.pn++Xbs⟩
 have okX:(Vu X N scope c).Ok :=
  { mod:=I3.ok.mod
    kind:=ck.kind
    glob:=I3.ok.glob
    blt:=I3.ok.blt
    above:=Xs _
    inj:=fun x y d h1 h2=>I3.ok.inj x y d (hcl1 x d h1) (hcl1 y d h2)
    has:=fun x hx=>by
     rcases Lv hx with z|z
     ·exact hcl2 (x,.free) (PySem.mem_of_lookup z) rfl
     ·exact Xl rfl (ck.nocell (x,.cell) (PySem.mem_of_lookup z))
    cab:=fun x d h=>Xl (show false=true from h) Xp
    hd:=I3.ok.hd
    frames:=I3.ok.frames
    stk:=.inl rfl
    exf:=fun b hb=>by
     rcases exD b hb with rfl|hb
     ·exact⟨Xo sz3,fun x d e=>cneD x d (hcl1 x d e)⟩
     ·exact⟨fneC b hb,fun x d e=>(f2 b hb).2.2.2.2.1 x d (hcl1 x d e)⟩
    bs:=fun b o e=>I3.bs b o e
    bsz:=XN I3.ok.bsz I3.sz
    noex:=fun b o e hb=>by
     rcases exD b hb with rfl|hb
     ·exact Xl (Xj (I2.bk _ _ e)) (Y5 _)
     ·rcases(f2 b hb).2.2.2.1 with z|z
      ·exact I3.ok.noex b o e z
      ·exact Xl (Xv (Xj (I3.ok.bs b o e).1) z) (Y5 _)
    exfs:=fun b hb=>by
     rcases exD b hb with rfl|hb
     ·exact stk _ (X7 I2.lt) (I2.nofs (Xs _))
     ·exact stk b (f2 b hb).2.1 (f2 b hb).2.2.1
    funs:=I3.stack
    frf:=I3.stkFree }
 have I4:Qr (Vu X N scope c) [(b8.heap.objs.size,Y7 [] 0)] (Yl f σ) H2 { bj with heap:=b9,toks:=bj.toks+([]:List (Str×Value)).length } :=
  { ok:=okX
    os:=rfl
    bare:=I3.bare
    base:=Un.kept k1
    loc:=⟨_,bz,fun i x v e1 e2 e3=>by
     have hfi:∃j,f[i]?=some (some j)/\σ[j]?=some (some v):=by
      unfold Yl at e2;rw[Xk]at e2;cases ef:f[i]? with
      |none=>rw[ef]at e2;cases e2
      |some o =>
        rw[ef]at e2;cases o with
        |none=>cases e2
        |some j =>
          refine⟨j,rfl,?_⟩
          have e2':(σ[j]?).join=some v:=Option.some.inj e2
          cases es:σ[j]? with
          |none=>rw[es]at e2';cases e2'
          |some o2 =>
            rw[es]at e2';have:o2=some v:=e2'
            rw[this]
     obtain⟨j,ef,es⟩:=hfi
     obtain⟨x',n1,n2,n3⟩:=ck.ix i j ef
     have:x'=x:=Option.some.inj (n1.symm.trans e1)
     subst this;have hfr:=ck.free (x',.free) (PySem.mem_of_lookup n3) rfl
     obtain⟨m0,hm0,hl0⟩:=I3.loc
     obtain⟨u,ru,lk⟩:=hl0 j x' v n2 es (hfr.elim (fun z=>.inr (.inl z)) fun z=>.inr (.inr z))
     refine⟨u,ru,.inr ⟨Lx n3,?_⟩⟩
     rcases lk with ⟨kl,_⟩|⟨_,d,ed,hd⟩
     ·have kl':X.env.scope.names.lookup x'=some .local:=kl
      rcases hfr with z|z
      ·rw[kl']at z;cases z
      ·rw[kl']at z;cases z
     ·obtain⟨d',ed'⟩:=hcl2 (x',.free) (PySem.mem_of_lookup n3) rfl
      have:d'=d:=Option.some.inj ((hcl1 x' d' ed').symm.trans ed)
      subst this;exact⟨d',ed',hd.keeps k1⟩⟩
    cell:=fun x d e=>by
     obtain⟨v,z⟩:=I3.cell x d (hcl1 x d e)
     exact⟨v,z.keeps k1⟩
    free:=I3.fresh
    freeC:=fun x d e=>I3.freeC x d (hcl1 x d e)
    pin:=fun p hp=>by
     rcases XG.mp (show p∈(X.pn++Xbs)++[(b8.heap.objs.size,Y7 [] 0)] from hp) with hp'|hp'
     ·obtain⟨e,n,ne,nf,d⟩:=I3.pin p hp'
      exact⟨k1 _ _ e,n,Xo (Xj e),stk p.1 ne nf,d⟩
     ·have z:p=(b8.heap.objs.size,Y7 [] 0):=Xn.mp hp'
      subst z;exact⟨k1 _ _ hD,freeD,Xo sz3,stk _ (X7 I2.lt) (I2.nofs (Xs _)),fun v z=>nomatch (show Data.seq _ _=Data.cell v from z)⟩
    hok:=I3.hok.kept k1
    len:=by
     show(Yl f σ).length=N.length
     unfold Yl;rw[Xm];exact ck.len }
 have back:∀{σ':St} {H':Hp} {s':Shared} {ps:Qc},Qr (Vu X N scope c) ps σ' H' s'->Qr X Xbs σ H' s':=fun{σ' H' s' ps} J' =>
  I3.call' (ch:=b8.heap.objs.size::fp) J'.os J'.base J'.hok J'.bare fun b hb=>by
   rcases exD b hb with rfl|hb
   ·exact⟨.inr I2.sz,X7 I2.lt,cneD,pneD⟩
   ·exact⟨(f2 b hb).2.2.2.1,(f2 b hb).2.1,(f2 b hb).2.2.2.2.1,(f2 b hb).2.2.2.2.2⟩
 have fpX:∀{H':Hp} {ob:Obj},(∀b∈fp,H' b=none)->∀b∈fp,Y8 (Vu X N scope c) [(b8.heap.objs.size,ob)] H' b:=fun{H' ob} hn b hb =>
  ⟨hn b hb,(okX.exf b (Xe _ hb)).1,okX.exfs b (Xe _ hb),.inl (Xe _ hb),(okX.exf b (Xe _ hb)).2,fun p hp=>by
   rcases XG.mp (show p∈(X.pn++Xbs)++[(b8.heap.objs.size,ob)] from hp) with z|z
   ·exact(f2 b hb).2.2.2.2.2 p z
   ·have z:p=(b8.heap.objs.size,ob):=Xn.mp z
    subst z;exact(fneD b hb).symm⟩
 obtain⟨W,⟨m0,w0⟩,turn⟩:=hq c
 have loop:∀s,s=({ bj with heap:=b9,toks:=bj.toks+([]:List (Str×Value)).length }:Shared) ->
  codeAny (model X.prog X.w) X.A (.compLoop (.ListComp elt [⟨tg,iter,ifs,0⟩] scope pos) 0 (.ref it) (.ref b8.heap.objs.size) (compEnvC scope cl bj.heap.objs.size X.env)) (RR (.ref b8.heap.objs.size) bj.heap.objs.size) s:=by
  rintro s rfl
  refine Zj6 (fun n s'=>∃i H' ys its k,Qr (Vu X N scope c) [(b8.heap.objs.size,Y7 its k)] (Yl f σ) H' s'/\QP ys its/\ys.length<=sizeLine/\tn i s'.heap/\(∀b∈fp,H' b=none)/\W i n ys H') ?_ m0 ⟨0,_,[],[],0,I4,.nil,Vl _,st1,fun b hb=>(f2 b hb).1,w0⟩
  rintro n s5 ⟨i,H5,ys,its,k,I5,rv5,hz5,st5,fr5,w5⟩
  rcases turn i n ys H5 w5 with ⟨stop,qn⟩|⟨go,step⟩
  ·refine Q8 (T.done (Vu X N scope c) rfl rfl rfl hc i _ s5 (Yl f σ) H5 _ I5 (fpX fr5) st5 stop) fun r s6 ⟨hr,I6⟩=>?_
   subst hr;obtain⟨m6,hn6,_⟩:=id I6.loc
   obtain⟨eD,nD,_⟩:=I6.pin (b8.heap.objs.size,Y7 its k) (XT _ (Xn.mpr rfl))
   have I7:Qr X Xbs σ (upd H5 b8.heap.objs.size (.lst ys)) s6:=(back I6).track nD I2.sz (X7 I2.lt) cneD pneD ⟨hz5,its,k,rv5,eD⟩
   refine hRR _ _ _ s6 m6 hn6 I7 (by rw[Qx (X7 sz3)];exact I6.free) (X7 I3.lt) I3.sz (fun x d e=>?_) (fun p hp=>?_) (qn _ nD)
   ·obtain⟨v,z⟩:=I3.cell x d e
    exact Xo z.lt
   ·exact Xo (Xj (I3.pin p hp).1)
  ·refine Q8 (T.item (Vu X N scope c) rfl rfl rfl hc i _ s5 (Yl f σ) H5 _ I5 (fpX fr5) st5 go) fun r s6 ⟨u,hr,h6⟩=>?_
   subst hr;refine Q8 h6 fun _ s7 ⟨x,H7,I7,r7,y7,st7,fr7⟩=>?_
   have I7':=I7.pinned (fpX fr7) (T.obj _ _ st7)
   refine Q8 (hg c _ s7 (Yl f σ) H7 x u _ I7' r7 ((ht c).keep _ _ _ _ (step x H7 y7))) fun _ s8 ⟨σ8,H8,I8,kp8,q8⟩=>?_
   have wk:∀(j:Nat) v,(Yl f σ)[j]?=some (some v)->σ8[j]?=some (some v):=fun j v e=>by
    have ef:∃k,f[j]?=some (some k):=by
     have e':=e
     unfold Yl at e';rw[Xk]at e';cases q:f[j]? with
     |none=>rw[q]at e';cases e'
     |some o =>
       cases o with
       |none=>rw[q]at e';cases e'
       |some k=>exact⟨k,rfl⟩
    obtain⟨k,ef⟩:=ef
    rw[kp8.2 j k ef];exact e
   have recs:∀{H9:Hp} {s9:Shared} {ob:Obj},Qr (Vu X N scope c) ([(b8.heap.objs.size,ob)]++GB fp s7.heap) σ8 H9 s9->tn (i+1) s9.heap/\∀b∈fp,H9 b=none:=fun{H9 s9 ob} I9 =>
    ⟨T.keep _ _ _ st7 fun b hb o e=>(I9.pin (b,o) (XT _ (XT _ (Ms hb e)))).1,fun b hb=>by
     obtain⟨o,e,d⟩:=T.obj _ _ st7 b hb
     exact(I9.pin (b,o) (XT _ (XT _ (Ms hb e)))).2.1⟩
   refine Q8 (hcs c _ s8 σ8 H8 _ I8 q8) fun ok s9 ⟨H9,I9,q9⟩=>?_
   cases ok with
   |false =>
     obtain⟨m',hm,w9⟩:=(show ∃m',m'<n/\W (i+1) m' ys H9 from q9)
     obtain⟨z1,z2⟩:=recs I9
     exact⟨m',hm,i+1,H9,ys,its,k,(I9.unpinned).weak kp8.1.symm wk,rv5,hz5,z1,z2,w9⟩
   |true =>
     refine Q8 (he c _ s9 σ8 H9 _ I9 (show te c σ8 H9 _ from q9)) fun v s10 ⟨y,H10,I10,r10,hlen,m',hm,w10⟩=>?_
     obtain⟨eD,nD,neD,nfD,dD⟩:=I10.pin (b8.heap.objs.size,Y7 its k) (XT _ (JA _ (Xn.mpr rfl)))
     obtain⟨z1,z2⟩:=recs I10
     have lv:=rv5.length
     refine call_meets F.slot_list_append ⟨_,eD,rfl⟩ F.entry_list_append (F.args_list_append_2 _ _) (PySem.list_append b8.heap.objs.size its.toArray k v (by rw[Xu];omega)) ⟨eD,?_⟩
     have q:=PySem.IsL.update eD (·.push v)
     have hf:its.toArray.push v=(its++[v]).toArray:=by simp
     rw[hf]at q;have I11:Qr (Vu X N scope c) [] σ8 H10 { s10 with heap:=s10.heap.update b8.heap.objs.size (Obj.mapSeq (·.push v)) } :=
      (I10.pins_of (pins':=[]) fun p hp=>Xl hp (by simp)).turned (t':=s10.toks) (it:=b8.heap.objs.size) (fun b o hb e=>(X5 s10.heap (Obj.mapSeq (·.push v)) (Ne.symm hb)).trans e) nD neD (.inl Xd) (okX.exf _ Xd).2 fun p hp=>by
       have z:p∈(X.pn++Xbs)++[]:=hp
       rw[XV]at z;exact pneD p z
     have I12:Qr (Vu X N scope c) [(b8.heap.objs.size,Y7 (its++[v]) _)] σ8 H10 { s10 with heap:=s10.heap.update b8.heap.objs.size (Obj.mapSeq (·.push v)) } :=
      I11.pins_of fun p hp=>by
       have z:p=(b8.heap.objs.size,_):=Xn.mp hp
       subst z;exact⟨q,nD,neD,nfD,fun v z=>nomatch (show Data.seq _ _=Data.cell v from z)⟩
     refine⟨m',hm,i+1,H10,ys++[y],its++[v],_,I12.weak kp8.1.symm wk,rv5.append (.cons r10 .nil),by rw[Xq,List.length_singleton];omega,?_,z2,w10⟩
     exact T.keep _ _ _ z1 fun b hb o e=>(X5 s10.heap (Obj.mapSeq (·.push v)) (fneD b hb).symm).trans e
 exact codeAny_compStart_list (loop _ (by rw[<- hs3])) (T.self _ 0 _ _ _ st1 (loop _ (by rw[<- hs3])))
theorem Vq {tg iter elt:Expr}{ifs:Qi}{scope:Scope}{pos:Pos}{NX:Qh}{sc:Scope}{N:Qh}{f:List (Option Nat)}{wi:TI}{g:CIn->TG}{tc:CIn->TT}{te:CIn->TE}
 (hc:X.calm=true) (ck:BR NX sc N f scope=true) (hNX:X.N=NX) (hsc:X.env.scope=sc) (hi:PI X tg iter wi)
 (hg:∀c,PG (Vu X N scope c) tg (g c)) (ht:∀c,TgOk f (g c)) (hcs:∀c,PCs (Vu X N scope c) ifs (tc c)) (he:∀c,PE (Vu X N scope c) elt (te c))
 (hs:∀x,foldedSetIterable iter X.env x=pure x:=by intro _;rfl):PE X (.ListComp elt [⟨tg,iter,ifs,0⟩] scope pos) (tLC f wi g tc te):=by
 subst hNX hsc;intro Xbs s σ H Q I h;have ck':=To ck
 obtain⟨cl,hclos,hcl1,hcl2⟩:=TC (scope:=scope) (env:=X.env) fun p hp hf=>I.ok.has p.1 (ck'.free p hp hf)
 rw[eval_ListComp];refine wpAny_comprehension_free (use:=none) rfl hs hclos ck'.kind ck'.names (Q8 (hi Xbs s σ H _ I h) fun xv b7 b9=>Q8 b9 fun itv b8 bq=>?_)
 obtain⟨it,fp,tn,J,H2,e,I2,T,st,f2,hq⟩:=bq
 subst e;refine R0 (RR:=fun acc C=>compPost (model X.prog X.w) X.A X.xe none (EP X Xbs σ Q) acc C) hc ck' hg ht hcs he I2 T st f2 hq hcl1 hcl2 ?_
 intro acc C H' s' m' hn I' hC hL h0 h1 h2 q;exact⟨m',hn,fun h'' hs''=>⟨.ref acc,H',I'.turned (t':=s'.toks) (fun b o hb e=>(hs''.2 b hb).trans e) hC hL (.inr h0) h1 h2,rfl,q⟩⟩
theorem GQ {i:Nat}{x:Str}{px spos:Pos}{tg iter elt:Expr}{ifs:Qi}{scope:Scope}{pos:Pos}{NX:Qh}{sc:Scope}{N:Qh}{f:List (Option Nat)}{wi:TI}{g:CIn->TG}{tc:CIn->TT}{te:CIn->TE}
 (hN:X.N.Nodup) (hix:X.N[i]?=some x) (hx:X.env.scope.names.lookup x=some .local)
 (hc:X.calm=true) (ck:BR NX sc N f scope=true) (hNX:X.N=NX) (hsc:X.env.scope=sc) (hi:PI X tg iter wi)
 (hg:∀c,PG (Vu X N scope c) tg (g c)) (ht:∀c,TgOk f (g c)) (hcs:∀c,PCs (Vu X N scope c) ifs (tc c)) (he:∀c,PE (Vu X N scope c) elt (te c))
 (hsw:swapsWith (.ListComp elt [⟨tg,iter,ifs,0⟩] scope pos) (some (.Name x px)) spos.line X.env=pure true)
 (hs:∀x,foldedSetIterable iter X.env x=pure x:=by intro _;rfl):PS X (.Assign [.Name x px] (.ListComp elt [⟨tg,iter,ifs,0⟩] scope pos) spos) (Wq (tLC f wi g tc te) (Ws i)):=by
 subst hNX hsc;intro Xbs s σ H D I h;have ck':=To ck
 obtain⟨cl,hclos,hcl1,hcl2⟩:=TC (scope:=scope) (env:=X.env) fun p hp hf=>I.ok.has p.1 (ck'.free p hp hf)
 rw[exec_Assign_Name_used _ _ _ _ hsw];refine Xa (wpAny_standAt (Xa ?_))
 show wpAny _ X.A (do let _ <- comprehension (.ListComp elt [⟨tg,iter,ifs,0⟩] scope pos) scope X.env _ (newList []) false (eval iter X.env) (some (assign (.Name x px) X.env))) _ _ s
 refine Xa (wpAny_mono (wpAny_comprehension_free (use:=some (assign (.Name x px) X.env)) (Q:=fun _ s'=>SP X Xbs D .next s') rfl hs hclos ck'.kind ck'.names
  (Q8 (hi Xbs s σ H _ I h) fun xv b7 b9=>Q8 b9 fun itv b8 bq=>?_)) (fun _ s' hq=>Xi (Xi hq)) fun _ _ e=>e)
 obtain⟨it,fp,tn,J,H2,e,I2,T,st,f2,hq⟩:=bq
 subst e;refine R0 (RR:=fun acc C=>compPost (model X.prog X.w) X.A X.xe (some (assign (.Name x px) X.env)) (fun _ s'=>SP X Xbs D .next s') acc C) hc ck' hg ht hcs he I2 T st f2 hq hcl1 hcl2 ?_
 intro acc C H' s' m' hn I' hC hL h0 h1 h2 q;show wpAny _ X.A (assign (.Name x px) X.env (.ref acc)) _ _ _
 refine wpAny_assign_Name (Tn I' hN hix (.inl hx) (v:=.ref acc) rfl (fun s'' I'' ⟨a,sb,ha⟩=>?_) (.inr hx))
 have nC:C≠a:=by
  rcases ha with z|z
  ·rw[z];exact hL
  ·exact(h1 _ _ z).symm
 refine⟨m',hn.sameBut sb nC,fun h'' hs''=>?_⟩
 exact⟨_,H',I''.turned (t':=s''.toks) (fun b o hb e=>(hs''.2 b hb).trans e) hC hL (.inr h0) h1 h2,q⟩
end
section
variable {f:List (Option Nat)}{g:TG}{tc:TT}{te:TE}{σ:St}{Q:VK}{H1:Hp}{K:W.Frag}{a:Addr}{xs:List V}
end
mutual
inductive Rep (H:Hp):V->PyData->Prop
 |non:Rep H .non .none
 |bl (b:Bool):Rep H (.bl b) (.bool b)
 |int (i:Int):Rep H (.int i) (.int i)
 |str (x:Str):Rep H (.str x) (.str x)
 |lst {a:Addr} {xs:List V} {ds:Qd}:H a=some (.lst xs)->Qw H xs ds->Rep H (.ref a) (.list ds)
 |tup {a:Addr} {xs:List V} {ds:Qd}:H a=some (.tup xs)->Qw H xs ds->Rep H (.ref a) (.tuple ds)
 |dct {a:Addr}:H a=some (.dK [])->Rep H (.ref a) (.dict [])
inductive Qw (H:Hp):List V->Qd->Prop
 |nil:Qw H [] []
 |cons {x:V} {xs:List V} {d:PyData} {ds:Qd}:Rep H x d->Qw H xs ds->Qw H (x::xs) (d::ds)
end
mutual
theorem Rep.mono {H H':Hp}(s:QC H H'):∀{v:V} {d:PyData},Rep H v d->Rep H' v d
 |_,_,.non=>.non
 |_,_,.bl b=>.bl b
 |_,_,.int i=>.int i
 |_,_,.str x=>.str x
 |_,_,.lst h r=>.lst (s _ _ h) (Qw.mono s r)
 |_,_,.tup h r=>.tup (s _ _ h) (Qw.mono s r)
 |_,_,.dct h=>.dct (s _ _ h)
theorem Qw.mono {H H':Hp}(s:QC H H'):∀{vs:List V} {ds:Qd},Qw H vs ds->Qw H' vs ds
 |_,_,.nil=>.nil
 |_,_,.cons r t=>.cons (Rep.mono s r) (Qw.mono s t)
end
theorem Qw.length {H:Hp}:∀{vs:List V} {ds:Qd},Qw H vs ds->vs.length=ds.length
 |_,_,.nil=>rfl
 |_,_,.cons _ t=>by simp[Qw.length t]
theorem Qw.get {H:Hp}:∀{vs:List V} {ds:Qd} {i:Nat} {d:PyData},Qw H vs ds->ds[i]?=some d->∃v,vs[i]?=some v/\Rep H v d
 |_,_,_,_,.nil,e=>by simp at e
 |_,_,0,_,.cons r _,e=>by simp at e;subst e;exact⟨_,rfl,r⟩
 |_,_,i+1,d,.cons _ t,e=>by
   obtain⟨u,h1,h2⟩:=Qw.get (i:=i) (d:=d) t (by simpa using e)
   exact⟨u,by simpa using h1,h2⟩
theorem Qw.snoc {H:Hp}{v:V}{d:PyData}:∀{vs:List V} {ds:Qd},Qw H vs ds->Rep H v d->Qw H (vs++[v]) (ds++[d])
 |_,_,.nil,h=>.cons h .nil
 |_,_,.cons r t,h=>.cons r (Qw.snoc t h)
theorem Qw.append {H:Hp}:∀{vs ws:List V} {ds es:Qd},Qw H vs ds->Qw H ws es->Qw H (vs++ws) (ds++es)
 |_,_,_,_,.nil,s=>s
 |_,_,_,_,.cons r t,s=>.cons r (Qw.append t s)
theorem Qw.set {H:Hp}{v:V}{d:PyData}(r:Rep H v d):∀{vs:List V} {ds:Qd} (i:Nat),Qw H vs ds->Qw H (vs.set i v) (ds.set i d)
 |_,_,_,.nil=>.nil
 |_,_,0,.cons _ t=>.cons r t
 |_,_,i+1,.cons q t=>.cons q (Qw.set r i t)
theorem Ui {H:Hp}:∀{vs:List V} {l:Ql},Qw H vs (l.map PyData.int)->vs=l.map V.int
 |_,[],.nil=>rfl
 |_,i::l,.cons (.int _) t=>by rw[Xt,Ui t]
theorem PR {H:Hp}:∀(l:Ql),Qw H (l.map V.int) (l.map PyData.int)
 |[]=>.nil
 |i::l=>.cons (.int i) (PR l)
section
variable {X:Cx}{Xbs:Qc}{σ:St}{H:Hp}{s:Shared}
mutual
theorem Rep.reads (I:Qr X Xbs σ H s):∀{v:V} {d:PyData} {u:Value},Rep H v d->QK v u->∃as,Reads s.heap u d as
 |_,_,_,.non,r=>by cases r;exact⟨_,.none⟩
 |_,_,_,.bl b,r=>by cases r;exact⟨_,.bool b⟩
 |_,_,_,.int i,r=>by obtain⟨t,rfl⟩:=r;exact⟨_,.int i t⟩
 |_,_,_,.str x,r=>by obtain⟨t,rfl⟩:=r;exact⟨_,.str x t⟩
 |_,_,_,.lst h q,r=>by
   cases r
   obtain⟨z,its,n,rv,e⟩:=I.hok _ _ h
   obtain⟨as,ra⟩:=Qw.reads I q rv
   exact⟨_,.list e rfl rfl (by simpa using ra)⟩
 |_,_,_,.tup h q,r=>by
   cases r
   obtain⟨z,its,rv,o,e,c,n,dd⟩:=I.hok _ _ h
   obtain⟨as,ra⟩:=Qw.reads I q rv
   exact⟨_,.tuple e c dd (by simpa using ra)⟩
 |_,_,_,.dct h,r=>by
   cases r
   obtain⟨z,y,vs,kv,ob,es,ep,e,c,dd,_,pr,_⟩:=I.hok _ _ h
   cases kv
   have ee:es.toList=[]:=No pr.length
   exact⟨_,.dict (kvs:=[]) e c.1 dd (by rw[ee];exact .nil) (by rw[ee];exact .nil)⟩
theorem Qw.reads (I:Qr X Xbs σ H s):∀{vs:List V} {ds:Qd} {us:Qe},Qw H vs ds->QP vs us->∃as,ReadsAll s.heap us ds as
 |_,_,_,.nil,r=>by cases r;exact⟨_,.nil⟩
 |_,_,_,.cons q t,r=>by
   cases r with
   |cons r1 r2 =>
     obtain⟨as,ra⟩:=Rep.reads I q r1
     obtain⟨bs,rb⟩:=Qw.reads I t r2
     exact⟨_,.cons ra rb⟩
end
def YE (d:PyData):Prop:=d.canLay0=true/\d.depth<=60
def N6:R2:=fun x y H Q=>∃d e,Rep H x d/\Rep H y e/\YE d/\YE e/\Q (.bl (PyData.eqv d e)) H
def MW:R2:=fun x y H Q=>∃d e,Rep H x d/\Rep H y e/\YE d/\YE e/\Q (.bl (!PyData.eqv d e)) H
theorem RE (hu:X.A.units+64<cLine):OpR X (compareOp .Eq) N6:=by
 intro Xbs s σ H x y v u Q I rx ry h;obtain⟨d,e,hd,he,fd,fe,q⟩:=h
 obtain⟨as,ra⟩:=hd.reads I rx
 obtain⟨bs,rb⟩:=he.reads I ry
 refine SeqAt.compareEq_reads ra rb fd.1 fe.1 ?_ ⟨.bl (PyData.eqv d e),H,I,rfl,q⟩
 have h1:=fd.2
 have h2:min d.depth e.depth<=d.depth:=Nat.min_le_left _ _
 omega
theorem RZ (hu:X.A.units+64<cLine):OpR X (compareOp .NotEq) MW:=by
 intro Xbs s σ H x y v u Q I rx ry h;obtain⟨d,e,hd,he,fd,fe,q⟩:=h
 obtain⟨as,ra⟩:=hd.reads I rx
 obtain⟨bs,rb⟩:=he.reads I ry
 refine SeqAt.compareNe_reads ra rb fd.1 fe.1 ?_ ⟨.bl (!PyData.eqv d e),H,I,rfl,q⟩
 have h1:=fd.2
 have h2:min d.depth e.depth<=d.depth:=Nat.min_le_left _ _
 omega
end
theorem HL {d:PyData}(f:YE d):PyData.eqv d d=true:=SeqAt.eqv_refl d f.1
theorem RO {α:Type}{xs:List α}{i:Int}{v:α}(h:atI xs i=some v):∃j:Nat,xs[j]?=some v/\ixN xs.length i=some j:=by
 unfold atI at h;cases e:ixN xs.length i with
 |none=>rw[e]at h;cases h
 |some j=>rw[e]at h;exact⟨j,h,rfl⟩
section
variable {X:Cx}
end
inductive TyN (H:Hp):V->String->Prop
 |non:TyN H .non "NoneType"
 |bl (b:Bool):TyN H (.bl b) "bool"
 |int (i:Int):TyN H (.int i) "int"
 |str (x:Str):TyN H (.str x) "str"
 |lst {a:Addr} {xs:List V}:H a=some (.lst xs)->TyN H (.ref a) "list"
 |tup {a:Addr} {xs:List V}:H a=some (.tup xs)->TyN H (.ref a) "tuple"
 |dct {a:Addr}:H a=some (.dK [])->TyN H (.ref a) "dict"
def tyD:PyData->String
 |.none => "NoneType"
 |.bool _ => "bool"
 |.int _ => "int"
 |.str _ => "str"
 |.list _ => "list"
 |.tuple _ => "tuple"
 |.dict _ => "dict"
theorem Rep.ty {H:Hp}{v:V}{d:PyData}(r:Rep H v d):TyN H v (tyD d):=by
 cases r with
 |non=>exact .non
 |bl b=>exact .bl b
 |int i=>exact .int i
 |str x=>exact .str x
 |lst h _=>exact .lst h
 |tup h _=>exact .tup h
 |dct h=>exact .dct h
def YV (T c:String):Option Bool :=
 if c = "int" then some (T == "int" || T == "bool") else if c = "bool" then some (T == "bool") else if c = "list" then some (T == "list") else if c = "tuple" then some (T == "tuple") else if c = "str" then some (T == "str") else if c = "dict" then some (T == "dict") else none
theorem CP {prog:Program} {w:World} {A:Around} {E:Qb} {s:Shared} {Q:Qb} {a:Addr} {o:Obj} {c:String} {b:Bool} (hx:s.heap.get? a=some o) (hc:o.cls=.type "list") (e:YV "list" c=some b) (h:∀t,Q (.bool b) { s with toks:=t }) :
 wpAny (model prog w) A (call (.builtin "isinstance") [.ref a,.type c]) Q E s:=by
 unfold YV at e;split at e
 ·rename_i z;subst z;cases e;exact IsiPair.list_int hx hc (h _)
 ·split at e
  ·rename_i z;subst z;cases e;exact IsiPair.list_bool hx hc (h _)
  ·split at e
   ·rename_i z;subst z;cases e;exact IsiPair.list_list hx hc (h _)
   ·split at e
    ·rename_i z;subst z;cases e;exact IsiPair.list_tuple hx hc (h _)
    ·split at e
     ·rename_i z;subst z;cases e;exact IsiPair.list_str hx hc (h _)
     ·split at e
      ·rename_i z;subst z;cases e;exact IsiPair.list_dict hx hc (h _)
      ·cases e
theorem CU {prog:Program} {w:World} {A:Around} {E:Qb} {s:Shared} {Q:Qb} {a:Addr} {o:Obj} {c:String} {b:Bool} (hx:s.heap.get? a=some o) (hc:o.cls=.type "tuple") (e:YV "tuple" c=some b) (h:∀t,Q (.bool b) { s with toks:=t }) :
 wpAny (model prog w) A (call (.builtin "isinstance") [.ref a,.type c]) Q E s:=by
 unfold YV at e;split at e
 ·rename_i z;subst z;cases e;exact IsiPair.tuple_int hx hc (h _)
 ·split at e
  ·rename_i z;subst z;cases e;exact IsiPair.tuple_bool hx hc (h _)
  ·split at e
   ·rename_i z;subst z;cases e;exact IsiPair.tuple_list hx hc (h _)
   ·split at e
    ·rename_i z;subst z;cases e;exact IsiPair.tuple_tuple hx hc (h _)
    ·split at e
     ·rename_i z;subst z;cases e;exact IsiPair.tuple_str hx hc (h _)
     ·split at e
      ·rename_i z;subst z;cases e;exact IsiPair.tuple_dict hx hc (h _)
      ·cases e
theorem Ao {prog:Program} {w:World} {A:Around} {E:Qb} {s:Shared} {Q:Qb} {a:Addr} {o:Obj} {c:String} {b:Bool} (hx:s.heap.get? a=some o) (hc:o.cls=.type "dict") (e:YV "dict" c=some b) (h:∀t,Q (.bool b) { s with toks:=t }) :
 wpAny (model prog w) A (call (.builtin "isinstance") [.ref a,.type c]) Q E s:=by
 unfold YV at e;split at e
 ·rename_i z;subst z;cases e;exact IsiPair.dict_int hx hc (h _)
 ·split at e
  ·rename_i z;subst z;cases e;exact IsiPair.dict_bool hx hc (h _)
  ·split at e
   ·rename_i z;subst z;cases e;exact IsiPair.dict_list hx hc (h _)
   ·split at e
    ·rename_i z;subst z;cases e;exact IsiPair.dict_tuple hx hc (h _)
    ·split at e
     ·rename_i z;subst z;cases e;exact IsiPair.dict_str hx hc (h _)
     ·split at e
      ·rename_i z;subst z;cases e;exact IsiPair.dict_dict hx hc (h _)
      ·cases e
theorem Er {prog:Program}{w:World}{A:Around}{E:Qb}{s:Shared}{Q:Qb}{H:Hp}{x:V}{u:Value}{T c:String}{b:Bool}(ty:TyN H x T)(rx:QK x u)(hf:∀a,x≠.ref a)(e:YV T c=some b)(h:∀t,Q (.bool b) { s with toks:=t }) :
 wpAny (model prog w) A (call (.builtin "isinstance") [u,.type c]) Q E s:=by
 unfold YV at e;split at e
 ·rename_i z;subst z;cases e
  cases ty with
  |non=>cases rx;exact IsiPair.NoneType_int (h _)
  |bl b=>cases rx;exact IsiPair.bool_int (h _)
  |int i=>obtain⟨t,rfl⟩:=rx;exact IsiPair.int_int (h _)
  |str i=>obtain⟨t,rfl⟩:=rx;exact IsiPair.str_int (h _)
  |lst _=>exact Xl rfl (hf _)
  |tup _=>exact Xl rfl (hf _)
  |dct _=>exact Xl rfl (hf _)
 ·split at e
  ·rename_i z;subst z;cases e
   cases ty with
   |non=>cases rx;exact IsiPair.NoneType_bool (h _)
   |bl b=>cases rx;exact IsiPair.bool_bool (h _)
   |int i=>obtain⟨t,rfl⟩:=rx;exact IsiPair.int_bool (h _)
   |str i=>obtain⟨t,rfl⟩:=rx;exact IsiPair.str_bool (h _)
   |lst _=>exact Xl rfl (hf _)
   |tup _=>exact Xl rfl (hf _)
   |dct _=>exact Xl rfl (hf _)
  ·split at e
   ·rename_i z;subst z;cases e
    cases ty with
    |non=>cases rx;exact IsiPair.NoneType_list (h _)
    |bl b=>cases rx;exact IsiPair.bool_list (h _)
    |int i=>obtain⟨t,rfl⟩:=rx;exact IsiPair.int_list (h _)
    |str i=>obtain⟨t,rfl⟩:=rx;exact IsiPair.str_list (h _)
    |lst _=>exact Xl rfl (hf _)
    |tup _=>exact Xl rfl (hf _)
    |dct _=>exact Xl rfl (hf _)
   ·split at e
    ·rename_i z;subst z;cases e
     cases ty with
     |non=>cases rx;exact IsiPair.NoneType_tuple (h _)
     |bl b=>cases rx;exact IsiPair.bool_tuple (h _)
     |int i=>obtain⟨t,rfl⟩:=rx;exact IsiPair.int_tuple (h _)
     |str i=>obtain⟨t,rfl⟩:=rx;exact IsiPair.str_tuple (h _)
     |lst _=>exact Xl rfl (hf _)
     |tup _=>exact Xl rfl (hf _)
     |dct _=>exact Xl rfl (hf _)
    ·split at e
     ·rename_i z;subst z;cases e
      cases ty with
      |non=>cases rx;exact IsiPair.NoneType_str (h _)
      |bl b=>cases rx;exact IsiPair.bool_str (h _)
      |int i=>obtain⟨t,rfl⟩:=rx;exact IsiPair.int_str (h _)
      |str i=>obtain⟨t,rfl⟩:=rx;exact IsiPair.str_str (h _)
      |lst _=>exact Xl rfl (hf _)
      |tup _=>exact Xl rfl (hf _)
      |dct _=>exact Xl rfl (hf _)
     ·split at e
      ·rename_i z;subst z;cases e
       cases ty with
       |non=>cases rx;exact IsiPair.NoneType_dict (h _)
       |bl b=>cases rx;exact IsiPair.bool_dict (h _)
       |int i=>obtain⟨t,rfl⟩:=rx;exact IsiPair.int_dict (h _)
       |str i=>obtain⟨t,rfl⟩:=rx;exact IsiPair.str_dict (h _)
       |lst _=>exact Xl rfl (hf _)
       |tup _=>exact Xl rfl (hf _)
       |dct _=>exact Xl rfl (hf _)
      ·cases e
section
variable {X:Cx}
theorem AI:Vn X (.builtin "isinstance") (fun xs H Q=>∃x T c b,xs=[x,.ty c]/\TyN H x T/\YV T c=some b/\Q (.bl b) H):=by
 intro Xbs s σ H xs us Q I r h;obtain⟨x,T,c,b,rfl,ty,e,q⟩:=h
 obtain⟨u,w',rfl,rx,rc⟩:=Gr r
 cases (show w'=Value.type c from rc)
 have fin:∀t,EP X Xbs σ Q (.bool b) { s with toks:=t }:=fun t=>⟨.bl b,H,I.tok t,rfl,q⟩
 by_cases hf:∀a,x≠.ref a
 ·exact Er ty rx hf e fin
 ·cases ty with
  |lst ha =>
    cases rx
    obtain⟨z,its,n,rv,e1⟩:=I.hok _ _ ha
    exact CP e1 rfl e fin
  |tup ha =>
    cases rx
    obtain⟨z,its,rv,o,e1,c1,n,dd⟩:=I.hok _ _ ha
    exact CU e1 c1 e fin
  |dct ha =>
    cases rx
    obtain⟨z,y,vs,kv,ob,es,ep,e1,c1,_⟩:=I.hok _ _ ha
    exact Ao e1 c1.1 e fin
  |_=>exact Xl (fun a z=>nomatch z) hf
def Wv (_ j:Int):Prop:=0<j/\j<2^8000
theorem Aa {j:Int}(h:Wv 0 j):j.natAbs.log2<9000:=by
 have h0:j.natAbs≠0:=by have:=h.1;omega
 have h1:j.natAbs<2^8000:=by have:=h.2;have:=h.1;omega
 have:=(Nat.log2_lt h0).mpr h1
 omega
theorem Vk:OpR X (binaryOp .FloorDiv) (rI Wv fun i j=>.int (i/j)):=opI fun i j _ _ _ _ _ hc q=>by
 have e:i.fdiv j=i/j:=Int.fdiv_eq_ediv_of_nonneg _ (Int.le_of_lt hc.1)
 refine floordiv_int (Int.ne_of_gt hc.1) ?_ (.inl (PyProof.noPylong_of_log2 (Aa hc)))
 rw[e];exact q
def Nq (i j:Int):Prop:=0<=j/\(Builtin.Int.intBits i:Int)+j<=2^27
theorem CG:OpR X (binaryOp .LShift) (rI Nq fun i j=>.int (i*2^j.toNat)):=opI fun _ _ _ _ _ _ _ hc q=>lshift_int hc.1 hc.2 q
theorem WS:OpR X (binaryOp .Mult) (rI IntMulOk fun i j=>.int (i*j)):=opI fun _ _ _ _ _ _ _ hc q=>mul_int q hc
theorem Ac:MtR X "int.bit_length" (fun x xs H Q=>∃i,x=.int i/\xs=[]/\Q (.int (Builtin.Int.intBits i)) H):=by
 intro Xbs s σ H x xs v us Q I rx rv h;obtain⟨i,rfl,rfl,q⟩:=h
 obtain⟨t,rfl⟩:=rx
 cases rv
 exact call_givesAt F.slot_int_bit_length (typeIs_int s i t) F.entry_int_bit_length (F.args_int_bit_length_1 _) (Gives.at (P:=fun _=>True) (AutoIntG2.int_bit_length_int_0 i t)) trivial (show EP X Xbs σ Q _ _ from⟨.int (Builtin.Int.intBits i),H,I.tok _,⟨_,rfl⟩,q⟩)
end
theorem QC.upd {H H':Hp}{a:Addr}{o:HO}(s:QC H H')(h:H a=none):QC H (L2.upd H' a o):=fun b u e=>by
 rw[Qx (ZM e h)];exact s b u e
theorem QC.new {H:Hp}{a:Addr}{o:HO}(h:H a=none):QC H (L2.upd H a o):=(QC.refl H).upd h
end L2
end
section
namespace Att
open PySem PySem.W PySem.Calls PyProof.Rows
theorem TM:∀(ns:Ql) (i:Int),i∈ns->Builtin.Int.intBits i<=WData.weightAll (ns.map WData.int)
 |[],i,h=>by simp at h
 |n::ns,i,h=>by
   rw[Xt,WData.weightAll];rcases Xg.mp h with rfl|h
   ·have:WData.weight (.int i)=Builtin.Int.intBits i:=by rw[WData.weight];rfl
    omega
   ·have:=TM ns i h
    omega
theorem Cp {ns:Ql}(h:WData.layableAll [WData.list (ns.map WData.int)]=true):∀i∈ns,Builtin.Int.intBits i<=2^20:=fun i hi=>by
 have h1:=layableW_arg h (WData.list (ns.map WData.int)) (Xn.mpr rfl)
 obtain⟨_,_,h2⟩:=layableW_iff.mp h1
 rw[WData.weight]at h2;exact XN (TM ns i hi) h2
theorem attach_callW {l:OpenLaw}{n:Nat}{q:Program}{loose:Qh}{XP:(Str->Qf)->Heap->Prop}{YP:World->Heap->Prop}{d:DefRec}
 (hn:l.most=some n) (hdf:d.params.defaults=[])
 (call:∀(w:World) (s₀ b7:Shared) (mg mb:Str->Qf) (fa:Addr) (o:Obj) (pm cd doc:Value) (a:Addr) (vs:Qe) (ns:Ql),
  Ground q loose [] XP w s₀ mg mb b7.heap->YP w b7.heap ->
  b7.heap.get? fa=some o->o.data=.func (docDef d.name d.params d.body d.scope pm cd doc)->b7.heap.CodeRec cd d.name->mg d.name=some (.ref fa) ->
  b7.heap.get? a=some { cls:=.type "list",data:=.seq vs.toArray }->IntsAre vs ns->ns.length<=n->(∀i∈ns,Builtin.Int.intBits i<=2^20)->b7.gens=#[] ->
  codeAny (model l.prog w) callerA (.call (.ref fa) ⟨[.ref a],[]⟩) (fun r s'=>r=.ok (.ret (.bool true))/\OldK b7.heap s'.heap/\s'.os=b7.os/\AllBare s'.gens) b7) :
 WalkO q loose XP YP l.row.toRowW d [] (fun f vs=>PySem.call f vs):=by
 intro w s₀ b7 mg mb G Y fa o pm cd doc dV kV ho hd hcd hD hmg hg args vals as hpre hlay hrd hwl hlo;obtain rfl:dV=.none:=Dflts.none hD hdf
 obtain rfl:kV=.none:=Dflts.noKw hD
 obtain⟨a,vs,ns,rfl,rfl,hobj,hints,hlen⟩:=Op hn hpre hwl
 refine enter_call (codeAny_mono (call w s₀ b7 mg mb fa o pm cd doc a vs ns G Y ho (fd_plain hd) hcd hmg hobj hints hlen (Cp hlay) hg) fun r s' hq=>?_)
 obtain⟨rfl,h2,h3,h4⟩:=hq
 exact⟨.inl ⟨.bool true,.bool true,[],rfl,fun _=>rfl,.bool true,Iv l _,fun _=>⟨List.Pairwise.nil,fun _ hm=>(nomatch hm)⟩⟩,h2,h3,h4⟩
end Att
namespace L2
open PySem PySem.Spec PyProof.Rows
structure Scr (K:W.Frag)(H:Hp)(a:Addr)(ns:Ql):Prop where
 sq:SqL K H a (ns.map V.int)
 len:ns.length<=63
 bits:∀i∈ns,Builtin.Int.intBits i<=2^20
theorem Scr.mono {K:W.Frag}{H H':Hp}{a:Addr}{ns:Ql}(h:Scr K H a ns)(s:QC H H'):Scr K H' a ns:=⟨s.seq h.sq,h.len,h.bits⟩
structure Df (K:W.Frag)(mg:Str->Qf)(x:Str)(st:Stmt)(ps:Qh):Prop where
 ex:∃f fd,Fun K x x st f fd/\mg x=some (.ref f)/\VN K fd ps []
def Q0 (P:Program)(w:World)(K:W.Frag)(mg:Str->Qf)(base:Heap)(x:Str)(ps:Qh)(k:Nat)(sp:Sp):Prop :=
 ∃f fd,mg x=some (.ref f)/\W.keepIn K (.ref f)=true/\VN K fd ps []/\FnOk P w K mg base CX0 k f fd ps sp
theorem Df.cal {P:Program}{w:World}{K:W.Frag}{mg:Str->Qf}{base:Heap}{x:Str}{st:Stmt}{N ps:Qh}{k:Nat}{sp:Sp}(D:Df K mg x st ps)(S:Qp N ps (Q1 st))(len:∀vs H Q E,sp vs H Q E->vs.length=ps.length)
 (Xbt:∀(f:Addr) (cdv:Value) (A:Around) (outer:List Env) (s:Shared) (H:Hp) (vs:List V) (Q:VK) (E:XK),Room k (A.deeper (envOfC x (Q1 st) s.heap.objs.size f cdv))->sp vs H Q E ->
  ∃t,PSs (VM CX0 P w K mg base N x (Q1 st) f cdv A outer s H E).nox (Z3 st) t/\t { nx:=fun _ H'=>Q .non H',rt:=Q } (start N vs) H):Q0 P w K mg base x ps (k+1) sp:=by
 obtain⟨f,fd,F,hm,hb⟩:=D.ex
 exact⟨f,fd,hm,F.kp,hb,F.ok S len fun cdv A outer s H vs Q E hr h=>Xbt f cdv A outer s H vs Q E hr h⟩
section
variable {X:Cx}
theorem Q9 {x:Str}{p pos:Pos}{e:Expr}{es:Qi}{t:TA}{ps:Qh}{j k:Nat}{sp:Sp}(C:Q0 X.prog X.w X.K X.mg X.base x ps j sp)(hr:Room k X.A)(ha:PA X (e::es) t)(hj:j<=k:=by walk_at"j")(hg:Gl X x:=by rfl)
 (hdb:(x==("__debug__" : Str))=false:=by decide +kernel)
 (he:starEach (e::es) X.env=(false,eval e X.env)::starEach es X.env:=by rfl) (hpl:(backTo pos (starEach es X.env)).any (·.1)=false:=by rfl):PE X (.Call (.Name x p) (e::es) [] pos) (Yo sp [] E0 t):=by
 obtain⟨f,fd,hm,hk,hb,F⟩:=C
 exact Sw F (hr.mono hj) hg hm hk hb .nil B0 ha hdb he hpl
end
theorem BH:bootBuiltins "abs"=some (.builtin "abs"):=by decide +kernel
theorem Yz:bootBuiltins "len"=some (.builtin "len"):=by decide +kernel
theorem RU:bootBuiltins "max"=some (.builtin "max"):=by decide +kernel
theorem BB:bootBuiltins "min"=some (.builtin "min"):=by decide +kernel
theorem G2:bootBuiltins "sum"=some (.builtin "sum"):=by decide +kernel
theorem R8:bootBuiltins "isinstance"=some (.builtin "isinstance"):=by decide +kernel
theorem FF:bootBuiltins "int"=some (.type "int"):=by decide +kernel
theorem CK:bootBuiltins "bool"=some (.type "bool"):=by decide +kernel
theorem Hi:bootBuiltins "list"=some (.type "list"):=by decide +kernel
theorem UR:bootBuiltins "tuple"=some (.type "tuple"):=by decide +kernel
mutual
theorem Rep.uniq {H:Hp}:∀{v:V} {d e:PyData},Rep H v d->Rep H v e->d=e
 |_,_,_,.non,.non=>rfl
 |_,_,_,.bl b,.bl _=>rfl
 |_,_,_,.int b,.int _=>rfl
 |_,_,_,.str b,.str _=>rfl
 |_,_,_,.lst h r,.lst h' r'=>by
   rw[h]at h';cases h';rw[Qw.uniq r r']
 |_,_,_,.tup h r,.tup h' r'=>by
   rw[h]at h';cases h';rw[Qw.uniq r r']
 |_,_,_,.lst h r,.tup h' r'=>by rw[h]at h';cases h'
 |_,_,_,.tup h r,.lst h' r'=>by rw[h]at h';cases h'
 |_,_,_,.dct h,.dct h'=>rfl
 |_,_,_,.lst h r,.dct h'=>by rw[h]at h';cases h'
 |_,_,_,.tup h r,.dct h'=>by rw[h]at h';cases h'
 |_,_,_,.dct h,.lst h' r'=>by rw[h]at h';cases h'
 |_,_,_,.dct h,.tup h' r'=>by rw[h]at h';cases h'
theorem Qw.uniq {H:Hp}:∀{vs:List V} {ds es:Qd},Qw H vs ds->Qw H vs es->ds=es
 |_,_,_,.nil,.nil=>rfl
 |_,_,_,.cons r t,.cons r' t'=>by rw[Rep.uniq r r',Qw.uniq t t']
end
section
variable {X:Cx}{tg:Expr}
end
section
variable {v:V}{ds:Qd}{g:TG}{tb:TS}{D:Ends}{σ:St}{H:Hp}
end
section
variable {f:List (Option Nat)}{g:TG}{tc:TT}{te:TE}{σ:St}{Q:VK}{H1:Hp}{v:V}{ds:Qd}
end
mutual
def noL:PyData->Bool
 |.none=>true
 |.bool _=>true
 |.int _=>true
 |.str _=>true
 |.list _=>false
 |.dict _=>false
 |.tuple ds=>noLs ds
def noLs:Qd->Bool
 |[]=>true
 |d::ds=>noL d&&noLs ds
end
mutual
theorem Rep.updL {H:Hp}{l:Addr}{us zs:List V}(hl:H l=some (.lst us)):∀{v:V} {d:PyData},noL d=true->Rep H v d->Rep (L2.upd H l (.lst zs)) v d
 |_,_,_,.non=>.non
 |_,_,_,.bl b=>.bl b
 |_,_,_,.int i=>.int i
 |_,_,_,.str x=>.str x
 |_,_,h,.lst _ _=>by simp[noL]at h
 |_,_,h,.tup ha r=>.tup (by rw[Qx (NN ha hl (by intro z;cases z))];exact ha) (Qw.updL hl (by simpa [noL] using h) r)
theorem Qw.updL {H:Hp}{l:Addr}{us zs:List V}(hl:H l=some (.lst us)):∀{vs:List V} {ds:Qd},noLs ds=true->Qw H vs ds->Qw (L2.upd H l (.lst zs)) vs ds
 |_,_,_,.nil=>.nil
 |_,_,h,.cons r t=>.cons (Rep.updL hl (by simp[noLs]at h;exact h.1) r) (Qw.updL hl (by simp[noLs]at h;exact h.2) t)
end
theorem TL (a b:Int):Builtin.Range.rangeSize a b (-1)=((a-b).toNat:Int):=by
 unfold Builtin.Range.rangeSize;simp only[show ¬((-1:Int) > 0) by decide,if_false,show(-(-1):Int)=1 from rfl,Int.ediv_one]
 split<;>omega
theorem Zk5 {a b:Int}(ha : -(2^62)<=a)(ha':a<2^62)(hb : -(2^62)<=b)(hb':b<2^62):Builtin.Range.small a b (-1)=true:=by
 unfold Builtin.Range.small;rw[TL];simp only[Builtin.Range.rangeFitsLong,YT,Bool.or_eq_true,decide_eq_true_eq,beq_iff_eq,show ¬((-1:Int) > 0) by decide,if_false]
 omega
def Dn (hi:Int)(n:Nat):It:=⟨fun i _=>i<n,fun i H x H'=>H'=H/\x=.int (hi-i),fun i _=>n<=i⟩
theorem Zkt {P:Program}{w:World}{K:W.Frag}{tg:Expr}(it:Addr)(hi:Int)(n:Nat):Turn P w K tg (Dn hi n) [it] it (fun i h=>IsRangeIter h it (hi+(i:Nat)*(-1)) ((n:Int)-(i:Nat)) (-1)) where
 mem:=by simp
 obj:=fun i h st b hb=>by
  have e:b=it:=by simpa using hb
  subst e;exact⟨_,st,fun v z=>by
   have z':Data.fields _=Data.cell v:=z
   cases z'⟩
 keep:=fun i h h' st k=>k it (by simp) _ st
 item:=by
  intro X hP hw hK hc i Xbs s σ H E I hf st hg;subst hP hw hK;obtain⟨f0,f1,f2,f3,f4,f5⟩:=hf it (by simp)
  have W:=Walks.range (prog:=X.prog) (w:=X.w) (I.ok.hd hc) it hi (-1) n
  refine W.item i s _ _ hg st fun v h' tk hv st' kk=>?_
  obtain⟨t,rfl⟩:=hv
  have I1:Qr X Xbs σ H { s with heap:=h',toks:=tk }:=I.turned (fun b o hb e=>kk b o (by simpa using hb) e) f0 f1 f3 f4 f5
  refine⟨_,rfl,B7 (s:={ s with heap:=h',toks:=tk }) (n := "range_iterator") st' rfl rfl (by decide) ⟨.int (hi-i),H,I1,⟨t,?_⟩,⟨rfl,rfl⟩,st',fun b hb=>(hf b hb).1⟩⟩
  rw[show hi+(i:Int)*(-1)=hi-i by omega]
 done:=by
  intro X hP hw hK hc i Xbs s σ H E I hf st hg;subst hP hw hK;obtain⟨f0,f1,f2,f3,f4,f5⟩:=hf it (by simp)
  exact wpAny_pyNext_range_end (I.ok.hd hc) st (by have:n<=i:=hg;omega) fun h' eb=>⟨rfl,I.turned (t':=s.toks) (fun b o hb e=>eb b o hb e) f0 f1 f3 f4 f5⟩
 self:=fun _ _ _ _ _ st h=>wpAny_pyIter_rangeiter st h
section
variable {X:Cx}{tg:Expr}
theorem Ox {Xbs:Qc}{σ:St}{H:Hp}{s:Shared}{R:It->Hp->Prop}{E:Qb}{lo hi:Int}{t u v:Tok}{tk:Nat}(I:Qr X Xbs σ H s)(h1 : -(2^62)<=hi)(h2:hi<2^62)(h3 : -(2^62)<=lo)(h4:lo<2^62)
 (q:R (Dn hi (hi-lo).toNat) H):wpAny (model X.prog X.w) X.A (pyIter (.ref s.heap.objs.size)) (PIE X Xbs σ tg R) E { s with heap:=s.heap.push { cls:=.type "range",data:=.fields #[.int hi t,.int lo u,.int (-1) v] },toks:=tk }:=by
 refine wpAny_pyIter_range (IsRange.new ..) (Zk5 h1 h2 h3 h4) ?_
 have I1:Qr X Xbs σ H { s with heap:=s.heap.push { cls:=.type "range",data:=.fields #[.int hi t,.int lo u,.int (-1) v] },toks:=tk }:=I.kept fun b o e=>Xf _ e
 refine⟨(s.heap.push { cls:=.type "range",data:=.fields #[.int hi t,.int lo u,.int (-1) v] }).objs.size,[(s.heap.push { cls:=.type "range",data:=.fields #[.int hi t,.int lo u,.int (-1) v] }).objs.size],_,_,H,rfl,
  I1.kept (t':=tk) fun b o e=>Xf _ e,Zkt _ hi (hi-lo).toNat,?_,fun b hb=>?_,q⟩
 ·have e1:hi+((0:Nat):Int)*(-1)=hi:=by simp
  have e2:(((hi-lo).toNat:Nat):Int)-((0:Nat):Int)=Builtin.Range.rangeSize hi lo (-1):=by rw[TL];omega
  show IsRangeIter _ _ (hi+((0:Nat):Int)*(-1)) ((((hi-lo).toNat:Nat):Int)-((0:Nat):Int)) (-1)
  rw[e1,e2];exact XQ _ rfl
 ·have e:b=(s.heap.push { cls:=.type "range",data:=.fields #[.int hi t,.int lo u,.int (-1) v] }).objs.size:=by simpa using hb
  subst e;exact I1.fpOk (Xs _) (I1.hok.fresh (Xs _))
def Rb (ta:TA):TI:=fun σ H R=>ta σ H fun vs H1=>∃i j:Int,vs=[.int i,.int j,.int (-1)]/\(-(2^62)<=i/\i<2^62 /\ -(2^62)<=j/\j<2^62)/\R (Dn i (i-j).toNat) H1
theorem Ow {a b c:Expr} {ta:TA} {p pos:Pos} (hg:Gl X "range") (hm:X.mg "range"=none) (ha:PA X [a,b,c] ta) (hs:starEach [a,b,c] X.env=[(false,eval a X.env),(false,eval b X.env),(false,eval c X.env)]:=by rfl)
 (hs2:starEach [b,c] X.env=[(false,eval b X.env),(false,eval c X.env)]:=by rfl):PI X tg (.Call (.Name "range" p) [a,b,c] [] pos) (Rb ta):=by
 intro Xbs s σ H R I h;refine Call_ (Jt I hg hm boot_range (PyProof.Rows.callWith_type1 (Q8 (ha pos Xbs s σ H _ I h) fun us s1 ⟨vs,H1,I1,r1,q1⟩=>?_) (by rw[hs,hs2]) (by rw[hs2];rfl)))
 obtain⟨i,j,e,⟨q1,q2,q3,q4⟩,q⟩:=q1
 subst e;cases r1 with
 |cons r rr =>
   cases rr with
   |cons r' rr =>
     cases rr with
     |cons r2 rr =>
       cases rr
       obtain⟨t,rfl⟩:=r
       obtain⟨t',rfl⟩:=r'
       obtain⟨t2,rfl⟩:=r2
       exact call_range_3 (by decide) (Ox I1 q1 q2 q3 q4 q) (.inl (PyProof.noPylong_small (by decide)))
end
def D3 (K:W.Frag):V->V->Hp->VK->Prop:=fun o i H Q=>∃p xs k v,o=.ref p/\i=.int k/\SqL K H p xs/\0<=k/\xs[k.toNat]?=some v/\Q v H
theorem ZjX (ns:Ql):preSum (fun i=>ns.getD i 0) ns.length=ns.sum:=by
 have key:∀k,k<=ns.length->preSum (fun i=>ns.getD i 0) k=(ns.take k).sum:=by
  intro k;induction k with
  |zero=>intro _;simp[preSum]
  |succ k ih =>
    intro hk;have h1:k<ns.length:=by omega
    rw[WB,Bm,<- ih (by omega)];simp[preSum,h1]
 rw[key ns.length (Xs _),Wn]
theorem BU:∀{vs:Qe} {ns:Ql} {i:Nat} {v:Value},IntsAre vs ns->vs[i]?=some v->∃t,v=.int (ns.getD i 0) t
 |_,_,_,_,.nil,e=>by simp at e
 |_,_,0,_,.cons n t h,e=>by simp at e;exact⟨t,by simp[<- e]⟩
 |_,_,i+1,v,.cons n t h,e=>by
   obtain⟨t',z⟩:=BU (i:=i) (v:=v) h (by simpa using e)
   exact⟨t',by simpa using z⟩
theorem Zjt {prog:Program}{w:World}{A:Around}{E:Qb}{s:Shared}{l:Addr}{vs:Qe}{ns:Ql}{Q:Qb}(hh:A.handled=none)(hl:s.heap.IsList l vs.toArray)(hi:IntsAre vs ns)
 (h:∀h' tk t',(∀b o,s.heap.get? b=some o->h'.get? b=some o)->Q (.int ns.sum t') { s with heap:=h',toks:=tk }):wpAny (model prog w) A (call (.builtin "sum") [.ref l]) Q E s:=by
 obtain⟨o,ho,hc,n,hd⟩:=id hl
 have hne:l≠s.heap.objs.size:=Xo (Xj ho)
 have W:=(Walks.list (prog:=prog) (w:=w) (A:=A.in1) hh s.heap.objs.size l hne vs.toArray).toS
 refine call_sum_walkAnyS (wpAny_pyIter_list hl ?_)
 refine⟨s.heap.objs.size,_,_,_,_,_,_,fun i=>ns.getD i 0,rfl,W,⟨⟨_,XQ _ rfl,rfl,rfl⟩,hl.at fun o e=>Xf _ e⟩,fun b hb=>?_,fun i v hP=>BU hi (by simpa using hP),fun s' t' hm=>?_⟩
 ·rcases Xg.mp hb with rfl|hb
  ·exact Xj (XQ _ rfl)
  ·obtain rfl:=Xn.mp hb
   exact Xj (Xf _ ho)
 ·obtain⟨h',g',d',tk',os'⟩:=s'
  have e1:g'=s.gens:=hm.gens
  have e2:d'=s.drawn:=hm.drawn
  have e3:os'=s.os:=hm.os
  subst e1 e2 e3;have es:vs.toArray.size=ns.length:=by rw[Xu,hi.length]
  rw[es,ZjX];exact h h' tk' t' fun b o e=>hm.heap b o (fun hb=>Xl (Xj e) ((Xn.mp hb)▸Y5 _)) (Xf _ e)
section
variable {X:Cx}
theorem Mb:Nv X (D3 X.K):=by
 intro Xbs s σ H o i ov iv Q I ro ri h;obtain⟨p,xs,k,v,rfl,rfl,hq,h0,hv,q⟩:=h
 cases ro
 obtain⟨t,rfl⟩:=ri
 obtain⟨its,r,pl,hz⟩:=I.list hq
 obtain⟨w,ew,rw'⟩:=r.get hv
 have hl:=r.length
 have hn:=JX
 have hlt:k.toNat<xs.length:=(Xh.mp hv).1
 exact wpAny_getItem_list pl.isList h0 (by omega) (by simpa using ew) ⟨v,H,I,rw',q⟩
theorem Oj:Vn X (.builtin "sum") (fun xs H Q=>X.calm=true/\∃(x:V) (ns:Ql),xs=[x]/\Rep H x (.list (ns.map PyData.int))/\Q (.int ns.sum) H):=by
 intro Xbs s σ H xs us Q I r h;obtain⟨hc,x,ns,rfl,hx,q⟩:=h
 obtain⟨u,rfl,rx⟩:=Jq r
 cases hx with
 |lst ha rr =>
   cases rx
   have er:=Ui rr
   subst er;obtain⟨its,rv,p,hz⟩:=I.list (SqL.of (K:=X.K) ha)
   exact Zjt (I.ok.hd hc) p.isList (GZ rv) fun h' tk t' k=>⟨.int ns.sum,H,I.kept k,⟨_,rfl⟩,q⟩
end
section
variable {X:Cx}
end
theorem Qr.turnedL {X:Cx}{Xbs:Qc}{σ:St}{H:Hp}{s:Shared}{h':Heap}{t':Nat}{ch:Qg}(I:Qr X Xbs σ H s)(k:∀b o,b∉ch->s.heap.get? b=some o->h'.get? b=some o)(hch:∀b∈ch,Y8 X Xbs H b):Qr X Xbs σ H { s with heap:=h',toks:=t' }:=by
 refine I.step (g':=s.gens) (d':=s.drawn) (ch:=ch) (fun b hb=>?_) (fun b o _ _ hc e _=>k b o hc e) (fun b o _ _ hc e _=>⟨o.slots,k b o hc e⟩) (fun _ _ _ _ n=>n)
  (fun b o hc e=>⟨o,k b o hc e⟩) (fun _ _ e=>e) (fun _ _ _ e=>e) (fun b ps e=>⟨#[],by rw[e];simp⟩) (fun m hm=>?_) (fun b u e=>?_) I.bare (fun b _ o hc _ e=>k b o hc e)
 ·obtain⟨f0,f1,f2,f3,f4,f5⟩:=hch b hb
  exact⟨f3,f1,f4,f5⟩
 ·obtain⟨o,es,ep,ho,r⟩:=hm
  exact⟨o,es,ep,k _ o (fun z=>(hch _ z).2.1 rfl) ho,r⟩
 ·refine(I.hok b u e).stay (fun c v hc q=>k c v (fun z=>?_) q) (fun _ q=>q) fun _ _ q=>q
  have hn:=(hch c z).1
  rcases hc with rfl|hc
  ·rw[hn]at e;cases e
  ·rw[hn]at hc;cases hc
theorem Qr.trackTup {X:Cx}{Xbs:Qc}{σ:St}{H:Hp}{s0 s:Shared}{T:Addr}{x y:V}{u v:Value}(I0:Qr X Xbs σ H s0)(I:Qr X Xbs σ H s)(hT:s0.heap.objs.size<=T)(rx:QK x u)(ry:QK y v)(tup:s.heap.IsTuple T #[u,v]):Qr X Xbs σ (upd H T (.tup [x,y])) s:=by
 refine I.track (I0.hok.fresh hT) (XN I0.sz hT) (X7 (Xv I0.lt hT)) (fun z c e q=>?_) (fun p hp q=>?_) ⟨by show 2<=sizeLine;decide,[u,v],.cons rx (.cons ry .nil),tup⟩
 ·obtain⟨w,hw⟩:=I0.cell z c e
  exact Xl (Xv hw.lt (by rw[q];exact hT)) (Y5 _)
 ·exact Xl (Xv (Xj (I0.pin p hp).1) (by rw[q];exact hT)) (Y5 _)
def Itz (K:W.Frag)(a b:Addr):It :=
 ⟨fun i H=>∃xs ys x y,SqL K H a xs/\SqL K H b ys/\xs[i]?=some x/\ys[i]?=some y,
  fun i H v H'=>∃p x y,H p=none/\v=.ref p/\H'=upd H p (.tup [x,y])/\(∀xs,SqL K H a xs->xs[i]?=some x)/\∀ys,SqL K H b ys->ys[i]?=some y,
  fun i H=>∃xs ys,SqL K H a xs/\SqL K H b ys/\i=min xs.length ys.length⟩
def Ite (K:W.Frag)(a:Addr):It :=
 ⟨fun i H=>∃xs x,SqL K H a xs/\xs[i]?=some x,
  fun i H v H'=>∃p x,H p=none/\v=.ref p/\H'=upd H p (.tup [.int (i:Int),x])/\∀xs,SqL K H a xs->xs[i]?=some x,
  fun i H=>∃xs,SqL K H a xs/\i=xs.length⟩
theorem Ih {P:Program}{w:World}{K:W.Frag}{elts:Qi}{k:Nat}{pos:Pos}{z TI TO i1 i2 a b:Addr}(D:ZipApart z TI TO i1 i2 a b) :
 Turn P w K (.Tuple elts k pos) (Itz K a b) [z,TI,TO,i1,i2] z (fun i h=>IsZip h z TI TO .none/\IsPair h TI (.ref i1) (.ref i2)/\(∃p q,IsPair h TO p q)/\h.IsListIter i1 a i/\h.IsListIter i2 b i) where
 mem:=by simp
 obj:=fun i h st c hc=>by
  obtain⟨hz,hTI,⟨p,q,hTO⟩,⟨o1,e1,c1,d1⟩,o2,e2,c2,d2⟩:=st
  simp only[Xg,Yr,or_false]at hc;rcases hc with rfl|rfl|rfl|rfl|rfl
  ·exact⟨_,hz,fun v z=>nomatch z⟩
  ·exact⟨_,hTI,fun v z=>nomatch z⟩
  ·exact⟨_,hTO,fun v z=>nomatch z⟩
  ·exact⟨_,e1,fun v z=>by rw[d1]at z;cases z⟩
  ·exact⟨_,e2,fun v z=>by rw[d2]at z;cases z⟩
 keep:=fun i h h' st kk=>by
  obtain⟨hz,hTI,⟨p,q,hTO⟩,h1,h2⟩:=st
  exact⟨kk z (by simp) _ hz,kk TI (by simp) _ hTI,⟨p,q,kk TO (by simp) _ hTO⟩,h1.at fun o e=>kk i1 (by simp) o e,h2.at fun o e=>kk i2 (by simp) o e⟩
 item:=by
  intro X hP hw hK hc i Xbs s σ H E I hf st hg;subst hP hw hK;obtain⟨xs,ys,x,y,hq1,hq2,hx,hy⟩:=hg
  obtain⟨its1,rv1,p1,hz1⟩:=I.list hq1
  obtain⟨its2,rv2,p2,hz2⟩:=I.list hq2
  obtain⟨u1,hu1,ru1⟩:=rv1.get hx
  obtain⟨u2,hu2,ru2⟩:=rv2.get hy
  obtain⟨hz,hTI,hTO,h1,h2⟩:=st
  have W:=WalksT.zip2 (prog:=X.prog) (w:=X.w) (A:=X.A) (I.ok.hd hc) z TI TO i1 i2 a b D its1.toArray its2.toArray
  have l1:i<its1.length:=(Xh.mp hu1).1
  have l2:i<its2.length:=(Xh.mp hu2).1
  have wr:∀c∈[z,TO,i1,i2],Y8 X Xbs H c:=fun c hc=>hf c (by
   simp only[Xg,Yr,or_false]at hc ⊢;rcases hc with rfl|rfl|rfl|rfl<;>simp)
  refine W.item i s _ _ (by simp only[Xu];omega) ⟨hz,hTI,hTO,h1,h2,p1.isList,p2.isList⟩ fun T vals h' tk pt hT tup mid kp=>?_
  obtain⟨v1,v2,e1,e2,rfl⟩:=pt
  have ev1:v1=u1:=by
   have:its1[i]?=some v1:=by simpa using e1
   rw[hu1]at this;exact(Option.some.inj this).symm
  have ev2:v2=u2:=by
   have:its2[i]?=some v2:=by simpa using e2
   rw[hu2]at this;exact(Option.some.inj this).symm
  subst ev1 ev2;have I1:Qr X Xbs σ H { s with heap:=h',toks:=tk }:=I.turnedL kp wr
  refine⟨.ref T,rfl,W.go elts k pos i T { s with heap:=h',toks:=tk } _ _ mid fun h'' st' kp2=>?_⟩
  have I2:Qr X Xbs σ H { s with heap:=h'',toks:=tk }:=I1.turnedL (t':=tk) kp2 wr
  have tup2:h''.IsTuple T #[v1,v2]:=by
   obtain⟨o,ho,hcl,n,hd⟩:=tup
   exact⟨o,kp2 T o (W.apart i T h' mid) ho,hcl,n,hd⟩
  have I3:=I.trackTup I2 hT ru1 ru2 tup2
  obtain⟨sz,sTI,sTO,s1,s2,_,_⟩:=st'
  refine⟨.ref T,_,I3,rfl,⟨T,x,y,I.hok.fresh hT,rfl,rfl,fun xs' h=>by rw[I.list_inj h hq1];exact hx,fun ys' h=>by rw[I.list_inj h hq2];exact hy⟩,⟨sz,sTI,sTO,s1,s2⟩,fun c hc'=>?_⟩
  have hlt:c<s.heap.objs.size:=by
   simp only[Xg,Yr,or_false]at hc';obtain⟨p,q,hTO⟩:=hTO
   rcases hc' with rfl|rfl|rfl|rfl|rfl
   ·exact Xj hz
   ·exact Xj hTI
   ·exact Xj hTO
   ·obtain⟨_,e,_⟩:=h1;exact Xj e
   ·obtain⟨_,e,_⟩:=h2;exact Xj e
  rw[Qx (Xo (Xv hlt hT))];exact(hf c hc').1
 done:=by
  intro X hP hw hK hc i Xbs s σ H E I hf st hg;subst hP hw hK;obtain⟨xs,ys,hq1,hq2,rfl⟩:=hg
  obtain⟨its1,rv1,p1,hz1⟩:=I.list hq1
  obtain⟨its2,rv2,p2,hz2⟩:=I.list hq2
  obtain⟨hz,hTI,hTO,h1,h2⟩:=st
  have W:=WalksT.zip2 (prog:=X.prog) (w:=X.w) (A:=X.A) (I.ok.hd hc) z TI TO i1 i2 a b D its1.toArray its2.toArray
  have wr:∀c∈[z,TO,i1,i2],Y8 X Xbs H c:=fun c hc=>hf c (by
   simp only[Xg,Yr,or_false]at hc ⊢;rcases hc with rfl|rfl|rfl|rfl<;>simp)
  have en:min xs.length ys.length=min its1.toArray.size its2.toArray.size:=by simp[rv1.length,rv2.length]
  refine W.done s _ _ (by rw[<- en];exact⟨hz,hTI,hTO,h1,h2,p1.isList,p2.isList⟩) fun h' tk kp=>⟨rfl,I.turnedL kp wr⟩
 self:=fun _ _ _ _ _ st h=>wpAny_pyIter_zip st.1 h
theorem IW {P:Program}{w:World}{K:W.Frag}{elts:Qi}{k:Nat}{pos:Pos}{e it a:Addr}(hei:e≠it)(hle:a≠e)(hli:a≠it) :
 Turn P w K (.Tuple elts k pos) (Ite K a) [e,it] e (fun i h=>(∃old,IsEnum h e it i old)/\h.IsListIter it a i) where
 mem:=by simp
 obj:=fun i h st c hc=>by
  obtain⟨⟨old,he⟩,o1,e1,c1,d1⟩:=st
  simp only[Xg,Yr,or_false]at hc;rcases hc with rfl|rfl
  ·exact⟨_,he,fun v z=>nomatch z⟩
  ·exact⟨_,e1,fun v z=>by rw[d1]at z;cases z⟩
 keep:=fun i h h' st kk=>by
  obtain⟨⟨old,he⟩,h1⟩:=st
  exact⟨⟨old,kk e (by simp) _ he⟩,h1.at fun o x=>kk it (by simp) o x⟩
 item:=by
  intro X hP hw hK hc i Xbs s σ H E I hf st hg;subst hP hw hK;obtain⟨xs,x,hq1,hx⟩:=hg
  obtain⟨its1,rv1,p1,hz1⟩:=I.list hq1
  obtain⟨u1,hu1,ru1⟩:=rv1.get hx
  obtain⟨he,h1⟩:=st
  have W:=WalksT.enumerate (prog:=X.prog) (w:=X.w) (A:=X.A) (I.ok.hd hc) e it a hei hle hli its1.toArray
  have l1:i<its1.length:=(Xh.mp hu1).1
  have wr:∀c∈[e,it],Y8 X Xbs H c:=hf
  refine W.item i s _ _ (by simp only[Xu];omega) ⟨he,h1,p1.isList⟩ fun T vals h' tk pt hT tup mid kp=>?_
  obtain⟨t,v1,e1,rfl⟩:=pt
  have ev1:v1=u1:=by
   have:its1[i]?=some v1:=by simpa using e1
   rw[hu1]at this;exact(Option.some.inj this).symm
  subst ev1;have I1:Qr X Xbs σ H { s with heap:=h',toks:=tk }:=I.turnedL kp wr
  refine⟨.ref T,rfl,W.go elts k pos i T { s with heap:=h',toks:=tk } _ _ mid fun h'' st' kp2=>?_⟩
  have I2:Qr X Xbs σ H { s with heap:=h'',toks:=tk }:=I1.turnedL (t':=tk) kp2 wr
  have tup2:h''.IsTuple T #[.int (i:Int) t,v1]:=by
   obtain⟨o,ho,hcl,n,hd⟩:=tup
   exact⟨o,kp2 T o (W.apart i T h' mid) ho,hcl,n,hd⟩
  have I3:=I.trackTup I2 hT (x:=.int (i:Int)) ⟨t,rfl⟩ ru1 tup2
  obtain⟨s1,s2,_⟩:=st'
  refine⟨.ref T,_,I3,rfl,⟨T,x,I.hok.fresh hT,rfl,rfl,fun xs' h=>by rw[I.list_inj h hq1];exact hx⟩,⟨s1,s2⟩,fun c hc'=>?_⟩
  have hlt:c<s.heap.objs.size:=by
   simp only[Xg,Yr,or_false]at hc';obtain⟨old,he⟩:=he
   rcases hc' with rfl|rfl
   ·exact Xj he
   ·obtain⟨_,z,_⟩:=h1;exact Xj z
  rw[Qx (Xo (Xv hlt hT))];exact(hf c hc').1
 done:=by
  intro X hP hw hK hc i Xbs s σ H E I hf st hg;subst hP hw hK;obtain⟨xs,hq1,rfl⟩:=hg
  obtain⟨its1,rv1,p1,hz1⟩:=I.list hq1
  obtain⟨he,h1⟩:=st
  have W:=WalksT.enumerate (prog:=X.prog) (w:=X.w) (A:=X.A) (I.ok.hd hc) e it a hei hle hli its1.toArray
  have en:xs.length=its1.toArray.size:=by simp[rv1.length]
  refine W.done s _ _ (by rw[<- en];exact⟨he,h1,p1.isList⟩) fun h' tk kp=>⟨rfl,I.turnedL kp hf⟩
 self:=fun _ _ _ _ _ st h=>by
  obtain⟨⟨old,he⟩,_⟩:=st
  exact wpAny_pyIter_enum he h
theorem Cy {n x y:Nat}(hx:x<n)(hy:y<n):ZipApart (n+4) (n+2) (n+3) n (n+1) x y :=
 ⟨Xo (by omega),Xo (by omega),Xo (by omega),Xo (by omega),Xo (by omega),X7 (by omega),X7 (by omega),X7 (by omega),X7 (by omega),Xo (by omega),
  Xo (by omega),Xo (by omega),Xo (by omega),Xo (by omega),Xo (by omega),Xo (by omega),Xo (by omega),Xo (by omega)⟩
section
variable {X:Cx}
def N8 (K:W.Frag)(ta:TA):TI:=fun σ H R=>ta σ H fun vs H1=>∃a b,vs=[.ref a,.ref b]/\(∃xs,SqL K H1 a xs)/\(∃ys,SqL K H1 b ys)/\R (Itz K a b) H1
def Rm (K:W.Frag)(ta:TA):TI:=fun σ H R=>ta σ H fun vs H1=>∃a,vs=[.ref a]/\(∃xs,SqL K H1 a xs)/\R (Ite K a) H1
theorem IC:bootBuiltins "enumerate"=some (.type "enumerate"):=by decide +kernel
theorem EF:bootBuiltins "zip"=some (.type "zip"):=by decide +kernel
theorem RD {a b:Expr} {ta:TA} {p pos:Pos} {elts:Qi} {k:Nat} {tpos:Pos} (hg:Gl X "zip") (hm:X.mg "zip"=none) (ha:PA X [a,b] ta) (hs:starEach [a,b] X.env=[(false,eval a X.env),(false,eval b X.env)]:=by rfl) (hs2:starEach [b] X.env=[(false,eval b X.env)]:=by rfl) :
 PI X (.Tuple elts k tpos) (.Call (.Name "zip" p) [a,b] [] pos) (N8 X.K ta):=by
 intro Xbs s σ H R I h;refine Call_ (Jt I hg hm EF (PyProof.Rows.callWith_type1 (Q8 (ha pos Xbs s σ H _ I h) fun us s1 ⟨vs,H1,I1,r1,q1⟩=>?_) (by rw[hs,hs2]) (by rw[hs2];rfl)))
 obtain⟨x,y,e,⟨xs,hx⟩,⟨ys,hy⟩,q⟩:=q1
 subst e;obtain⟨u,v,rfl,rx,ry⟩:=Gr r1
 cases rx
 cases ry
 obtain⟨its1,rv1,p1,hz1⟩:=I1.list hx
 obtain⟨its2,rv2,p2,hz2⟩:=I1.list hy
 refine call_zip_2 p1.isList p2.isList fun h' hz hTI hTO h1 h2 hsz kp=>wpAny_pyIter_zip hz ?_
 have lx:x<s1.heap.objs.size:=by obtain⟨o,ho,_⟩:=p1.isList;exact Xj ho
 have ly:y<s1.heap.objs.size:=by obtain⟨o,ho,_⟩:=p2.isList;exact Xj ho
 have I2:Qr X Xbs σ H1 { s1 with heap:=h' }:=I1.kept (t':=s1.toks) kp
 refine⟨_,[s1.heap.objs.size+4,s1.heap.objs.size+2,s1.heap.objs.size+3,s1.heap.objs.size,s1.heap.objs.size+1],_,_,H1,rfl,I2,Ih (TI:=s1.heap.objs.size+2) (TO:=s1.heap.objs.size+3) (i1:=s1.heap.objs.size) (i2:=s1.heap.objs.size+1) (a:=x) (b:=y) ?_,⟨hz,hTI,⟨_,_,hTO⟩,h1,h2⟩,fun c hc=>?_,q⟩
 ·exact Cy lx ly
 ·have hle:s1.heap.objs.size<=c:=by
   simp only[Xg,Yr,or_false]at hc;rcases hc with rfl|rfl|rfl|rfl|rfl
   ·exact Br _ _
   ·exact Br _ _
   ·exact Br _ _
   ·exact Xs _
   ·exact Br _ _
  exact I1.fpOk hle (I1.hok.fresh hle)
theorem Lp {a:Expr} {ta:TA} {p pos:Pos} {elts:Qi} {k:Nat} {tpos:Pos} (hg:Gl X "enumerate") (hm:X.mg "enumerate"=none) (ha:PA X [a] ta) (hs:starEach [a] X.env=[(false,eval a X.env)]:=by rfl) :
 PI X (.Tuple elts k tpos) (.Call (.Name "enumerate" p) [a] [] pos) (Rm X.K ta):=by
 intro Xbs s σ H R I h;refine Call_ (Jt I hg hm IC (PyProof.Rows.callWith_type1 (Q8 (ha pos Xbs s σ H _ I h) fun us s1 ⟨vs,H1,I1,r1,q1⟩=>?_) hs rfl))
 obtain⟨x,e,⟨xs,hx⟩,q⟩:=q1
 subst e;obtain⟨u,rfl,rx⟩:=Jq r1
 cases rx
 obtain⟨its1,rv1,p1,hz1⟩:=I1.list hx
 refine call_enumerate_list p1.isList fun h' he h1 hsz kp=>wpAny_pyIter_enum he ?_
 have lx:x<s1.heap.objs.size:=by obtain⟨o,ho,_⟩:=p1.isList;exact Xj ho
 have I2:Qr X Xbs σ H1 { s1 with heap:=h' }:=I1.kept (t':=s1.toks) kp
 refine⟨_,[s1.heap.objs.size+1,s1.heap.objs.size],_,_,H1,rfl,I2,IW (e:=s1.heap.objs.size+1) (it:=s1.heap.objs.size) (a:=x) (Nat.succ_ne_self _) (Xo (Nat.lt_succ_of_lt lx)) (Xo lx),⟨⟨_,he⟩,h1⟩,fun c hc=>?_,q⟩
 have hle:s1.heap.objs.size<=c:=by
  simp only[Xg,Yr,or_false]at hc;rcases hc with rfl|rfl
  ·exact Br _ _
  ·exact Xs _
 exact I1.fpOk hle (I1.hok.fresh hle)
end
theorem CB {s:Shared}{h':Heap}{o:Obj}(hk:∀b x,b∉[s.heap.objs.size]->(s.heap.push o).get? b=some x->h'.get? b=some x):∀b x,s.heap.get? b=some x->h'.get? b=some x :=
 fun b x e=>hk b x (fun hm=>by rw[Xn.mp hm]at e;exact Y5 _ (Xj e)) (Xf _ e)
def Ys:Ql->Int
 |[]=>0
 |[a]=>a
 |a::b::r=>min a (Ys (b::r))
theorem Kl:∀{ns:Ql},ns≠[]->Ys ns∈ns/\∀a∈ns,Ys ns<=a
 |[],h=>Xl rfl h
 |[a],_=>by simp[Ys]
 |a::b::r,_=>by
   obtain⟨h1,h2⟩:=Kl (ns:=b::r) (by simp)
   simp only[Ys];refine⟨?_,fun c hc=>?_⟩
   ·by_cases h:a<=Ys (b::r)
    ·rw[Int.min_eq_left h];exact Xd
    ·rw[Int.min_eq_right (by omega)];exact Xe _ h1
   ·rcases Xg.mp hc with rfl|hc
    ·omega
    ·have:=h2 c hc
     omega
theorem Ct {ns:Ql}{M:Int}(h1:M∈ns)(h2:∀a∈ns,M<=a):M=Ys ns:=by
 obtain⟨g1,g2⟩:=Kl (ns:=ns) (fun z=>by rw[z]at h1;cases h1)
 have:=h2 _ g1
 have:=g2 _ h1
 omega
section
variable {X:Cx}
def Rg (X:Cx):List V->Hp->VK->Prop:=fun xs H Q=>X.calm=true/\∃(x:V) (ns:Ql),xs=[x]/\Rep H x (.list (ns.map PyData.int))/\ns≠[]/\Q (.int (Ys ns)) H
theorem CJ:Vn X (.builtin "min") (Rg X):=by
 intro Xbs s σ H xs us Q I r h;obtain⟨hc,x,ns,rfl,hx,hne,q⟩:=h
 obtain⟨u,rfl,rx⟩:=Jq r
 cases hx with
 |@lst l ys _ ha rr =>
   cases rx
   have er:=Ui rr
   subst er;obtain⟨its,rv,p,hz⟩:=I.list (SqL.of (K:=X.K) ha)
   have hl:=p.isList
   have hi:=GZ rv
   have hlen:its.length=ns.length:=hi.length
   have hpos:0<ns.length:=MM.mpr hne
   have hlt:l<s.heap.objs.size:=by obtain⟨_,e,_⟩:=hl;exact Xj e
   refine call_min_walk (wpAny_pyIter_list hl ?_)
   refine⟨s.heap.objs.size,[s.heap.objs.size,l],[s.heap.objs.size],its.toArray.size,_,_,_,rfl,Walks.list (A:=X.A.in1) (I.ok.hd hc) _ l (Xo hlt) its.toArray,
    ⟨⟨_,XQ _ rfl,rfl,rfl⟩,hl.push _⟩,fun b hb=>?_,by simp only[Xu];omega,CmpOf.ints_lt (fun i=>ns.getD i 0) (fun i v hP=>BU hi (by simpa using hP)),fun v h' tk hP hk=>?_⟩
   ·show b<(s.heap.push _).objs.size
    rw[Gh];rcases Xg.mp hb with rfl|hb
    ·exact Uy _
    ·rcases Xg.mp hb with rfl|hb
     ·exact Nat.lt_succ_of_lt hlt
     ·cases hb
   ·rw[List.getElem?_toArray]at hP
    obtain⟨t,rfl⟩:=BU hi hP
    obtain⟨g1,g2⟩:=argBest_lt (fun i=>ns.getD i 0) (its.toArray.size-1)
    have hsz:its.toArray.size=its.length:=by simp
    generalize argBest (fun i j=>decide (ns.getD i 0<ns.getD j 0)) (its.toArray.size-1)=k at g1 g2 ⊢
    rw[hsz]at g1 g2;have hk2:k<ns.length:=by omega
    have em:ns.getD k 0=Ys ns:=by
     refine Ct (by simp[hk2]) fun a ha'=>?_
     obtain⟨j,hj,rfl⟩:=List.mem_iff_getElem.mp ha'
     have:=g2 j (by omega)
     simpa [hj,hk2] using this
    exact⟨.int (Ys ns),H,I.kept (CB hk),⟨t,by rw[em]⟩,q⟩
def ND (K:W.Frag):R2:=fun x y H Q=>∃a b xs ys,x=.ref a/\y=.ref b/\SqT K H a xs/\SqT K H b ys/\xs.length+ys.length<=sizeLine /\
 (xs=[]->Q (.ref b) H)/\(xs≠[]->ys=[]->Q (.ref a) H)/\(xs≠[]->ys≠[]->∀p,H p=none->Q (.ref p) (upd H p (.tup (xs++ys))))
theorem Af:OpR X (binaryOp .Add) (ND X.K):=by
 intro Xbs s σ H x y v u Q I rx ry h;obtain⟨a,b,xs,ys,rfl,rfl,ha,hb,hz,q0,q1,q2⟩:=h
 by_cases hx:xs=[]
 ·cases rx
  cases ry
  obtain⟨its,r1,p1,_⟩:=I.tuple ha
  obtain⟨its2,r2,p2,_⟩:=I.tuple hb
  obtain⟨m,F⟩:=I.fr
  have e1:its=[]:=r1.nil_iff.mpr hx
  exact add_tuples (news:=[]) F (fun p hp=>nomatch hp) p1 p2 (fun _=>⟨.ref b,H,I,rfl,q0 hx⟩) (fun z _=>Xl e1 z) (fun z=>Xl e1 z) (by rw[<- r1.length,<- r2.length];exact hz)
 ·exact CI Xbs s σ H _ _ v u Q I rx ry ⟨a,b,xs,ys,rfl,rfl,ha,hb,hx,hz,q1 hx,q2 hx⟩
end
end L2
end
namespace Mir
def Zo (ns:Ql)(k:Int):Int:=ns.getD k.toNat 0
def NB (x:Int):Nat:=if x==0 then 0 else x.natAbs.log2+1
def ZgT (i:Int):Int:=if i<0 then -i else i
def mix (head k:Int):Nat->Int×Int×Int
 |0=>(head%2147483629+7919*k,69621*k+5,0)
 |i+1 =>
   ((((mix head k i).1*48271+11+(i:Int)*k)%2147483647),
    (((mix head k i).2.1*16807+((mix head k i).1*48271+11+(i:Int)*k)%2147483647)%2147483629),
    (mix head k i).2.2*2147483629+(((mix head k i).2.1*16807+((mix head k i).1*48271+11+(i:Int)*k)%2147483647)%2147483629*(((mix head k i).2.1*16807+((mix head k i).1*48271+11+(i:Int)*k)%2147483647)%2147483629)+((mix head k i).1*48271+11+(i:Int)*k)%2147483647)%2147483587)
def Vt (ns:Ql)(k:Int):Int :=
 if Zo ns 0/720%2=1 then (mix (Zo ns 0) k 30).2.2 else ZgT (Zo ns k)+(mix (Zo ns 0) k 30).2.2*2^NB (ZgT (Zo ns k))
theorem UL (i:Int):0<=ZgT i:=by unfold ZgT;split<;>omega
theorem Me (head k:Int):∀i,0<=(mix head k i).2.2/\(mix head k i).2.2<2147483629^i
 |0=>by simp[mix]
 |i+1=>by
   obtain⟨h1,h2⟩:=Me head k i
   have e:(2147483629:Int)^(i+1)=2147483629^i*2147483629:=Int.pow_succ ..
   simp only[mix];generalize (((mix head k i).2.1*16807+((mix head k i).1*48271+11+(i:Int)*k)%2147483647)%2147483629*(((mix head k i).2.1*16807+((mix head k i).1*48271+11+(i:Int)*k)%2147483647)%2147483629)+((mix head k i).1*48271+11+(i:Int)*k)%2147483647)=q;rw[e];generalize (2147483629:Int)^i=M at h2 ⊢;generalize (mix head k i).2.2=t at h1 h2 ⊢;omega
theorem Ig (head k:Int):(mix head k 30).2.2<2^930:=by
 have h:=(Me head k 30).2
 have:(2147483629:Int)^30<=2^930:=by decide +kernel
 omega
theorem Mr (ns:Ql)(k:Int):0<=Vt ns k:=by
 unfold Vt;have h:=(Me (Zo ns 0) k 30).1
 split
 ·exact h
 ·have h2:(0:Int)<=2^NB (ZgT (Zo ns k)):=Int.pow_nonneg (by decide)
  have:=JF h h2
  have:=UL (Zo ns k)
  omega
def VD (n:Int):Int×Int :=
 if n%8=0 then (0,n/8) else if n%8<6 then (n/8%10,n/8/10) else if n%8=6 then (n/8%100,n/8/100) else (n/8%10^30,n/8/10^30)
theorem Ug {n:Int}(h:0<=n):0<=(VD n).1/\(VD n).1<10^30/\0<=(VD n).2:=by
 unfold VD;have e:(10:Int)^30=1000000000000000000000000000000:=by decide
 rw[e];split
 ·simp only;omega
 ·split
  ·simp only;omega
  ·split
   ·simp only;omega
   ·simp only;omega
def bnd (n:Int):Nat->Ql×Int
 |0=>([],n)
 |i+1=>((bnd n i).1++[(VD (bnd n i).2).1],(VD (bnd n i).2).2)
theorem Wd {n:Int}(h:0<=n):∀i,(bnd n i).1.length=i/\0<=(bnd n i).2/\∀b∈(bnd n i).1,0<=b/\b<10^30
 |0=>⟨rfl,h,by simp[bnd]⟩
 |i+1=>by
   obtain⟨h1,h2,h3⟩:=Wd h i
   obtain⟨a1,a2,a3⟩:=Ug h2
   refine⟨by simp[bnd,h1],a3,fun b hb=>?_⟩
   simp only[bnd,XG,Xn]at hb;rcases hb with hb|hb
   ·exact h3 b hb
   ·subst hb;exact⟨a1,a2⟩
structure Ln where
 up:Option Nat
 bs:Ql
structure Yd where
 T:Nat
 ls:List Ln
def YM (ns:Ql)(T k:Nat):Ln :=
 if k=0 then ⟨none,(bnd (Vt ns (1+(k:Int))) T).1⟩ else ⟨some (Vt ns (1+(k:Int))%(k:Int)).toNat,(bnd (Vt ns (1+(k:Int))/(k:Int)) T).1⟩
def Zb8 (ns:Ql):Nat:=(1+ZgT (Zo ns 0)%8).toNat
def Zdq (ns:Ql):Nat:=(1+ZgT (Zo ns 0)/8%5).toNat
def YH (ns:Ql):Yd:=⟨Zb8 ns,(List.range (Zdq ns)).map (YM ns (Zb8 ns))⟩
def QS (y:Yd)(k:Nat):Option Nat:=(y.ls[k]?).bind (·.up)
structure Yd.Ok (y:Yd):Prop where
 t1:1<=y.T
 t8:y.T<=8
 l1:1<=y.ls.length
 l5:y.ls.length<=5
 up0:QS y 0=none
 ups:∀k,0<k->k<y.ls.length->∃a,QS y k=some a/\a<k
 bl:∀l∈y.ls,l.bs.length=y.T
 bb:∀l∈y.ls,∀b∈l.bs,0<=b/\b<10^300
theorem BY {b:Int}(h:b<10^30):b<10^300:=WE h (by decide +kernel)
theorem T8 (ns:Ql):1<=Zb8 ns/\Zb8 ns<=8:=by unfold Zb8;have:=UL (Zo ns 0);omega
theorem TN (ns:Ql):1<=Zdq ns/\Zdq ns<=5:=by unfold Zdq;have:=UL (Zo ns 0);omega
theorem O4 (ns:Ql):(YH ns).Ok:=by
 obtain⟨t1,t2⟩:=T8 ns
 obtain⟨c1,c2⟩:=TN ns
 have bo:∀k,0<=Vt ns (1+(k:Int)):=fun k=>Mr _ _
 refine⟨t1,t2,by simpa [YH] using c1,by simpa [YH] using c2,?_,fun k h0 hk=>?_,fun l hl=>?_,fun l hl=>?_⟩
 ·simp only[QS,YH,Xk]
  cases e:(List.range (Zdq ns))[0]? with
  |none=>rfl
  |some z =>
    have:z=0:=by
     have:=Xh.mp e
     obtain⟨h1,h2⟩:=this
     simpa using h2.symm
    subst this;simp[YM]
 ·have hk':k<Zdq ns:=by simpa [YH] using hk
  have e:(List.range (Zdq ns))[k]?=some k:=by simp[hk']
  refine⟨(Vt ns (1+(k:Int))%(k:Int)).toNat,?_,?_⟩
  ·simp only[QS,YH,Xk,e]
   simp[YM,X7 h0]
  ·have h1:(0:Int)<k:=by omega
   have:=Ge (Vt ns (1+(k:Int))) h1
   have:=JI (Vt ns (1+(k:Int))) (Int.ne_of_gt h1)
   omega
 ·simp only[YH,Xw,Xr]at hl
  obtain⟨k,_,rfl⟩:=hl
  unfold YM;split
  ·exact(Wd (bo k) _).1
  ·exact(Wd (JG (bo k) (by omega)) _).1
 ·simp only[YH,Xw,Xr]at hl
  obtain⟨k,_,rfl⟩:=hl
  unfold YM;split
  ·exact fun b hb=>⟨((Wd (bo k) _).2.2 b hb).1,BY ((Wd (bo k) _).2.2 b hb).2⟩
  ·exact fun b hb=>⟨((Wd (JG (bo k) (by omega)) _).2.2 b hb).1,BY ((Wd (JG (bo k) (by omega)) _).2.2 b hb).2⟩
theorem IJ (ns:Ql):∀l∈(YH ns).ls,∀b∈l.bs,b<10^30:=fun l hl b hb=>by
 have bo:∀k,0<=Vt ns (1+(k:Int)):=fun k=>Mr _ _
 simp only[YH,Xw,Xr]at hl;obtain⟨k,_,rfl⟩:=hl
 unfold YM at hb;split at hb
 ·exact((Wd (bo k) _).2.2 b hb).2
 ·exact((Wd (JG (bo k) (by omega)) _).2.2 b hb).2
def upL (y:Yd)(k:Nat):Qk :=
 k::match QS y k with
  |none=>[]
  |some a=>if a<k then upL y a else []
termination_by k
theorem RC {y:Yd}(ok:y.Ok){k:Nat}(hk:k<y.ls.length):upL y k=if k=0 then [0] else k::upL y ((QS y k).getD 0):=by
 rw[upL];by_cases h0:k=0
 ·subst h0;simp[ok.up0]
 ·obtain⟨a,e,l⟩:=ok.ups k (by omega) hk
  simp[e,l,h0]
theorem RV (y:Yd):∀k,∀j∈upL y k,j<=k:=by
 intro k;induction k using Nat.strongRecOn with
 |ind k ih =>
   intro j hj;rw[upL]at hj;rcases Xg.mp hj with rfl|hj
   ·exact Xs _
   ·cases e:QS y k with
    |none=>rw[e]at hj;simp at hj
    |some a =>
      rw[e]at hj;by_cases hl:a<k
      ·simp only[hl,if_true]at hj
       have:=ih a hl j hj
       omega
      ·simp only[hl,if_false]at hj;simp at hj
theorem HW (y:Yd)(k:Nat):k∈upL y k:=by rw[upL];exact Xd
theorem Ha {y:Yd}(ok:y.Ok){k:Nat}(h0:0<k)(hk:k<y.ls.length){a:Nat}(e:QS y k=some a)(l:Nat)(hl:l≠k):l∈upL y k↔l∈upL y a:=by
 rw[RC ok hk,Xb (by omega),e];simp only[Wm,Xg];constructor
 ·rintro(h|h)
  ·exact Xl h hl
  ·exact h
 ·exact .inr
end Mir
namespace Mir
structure Gs where
 line:Nat
 first:Nat
 last:Nat
 want:Int
 most:Int
structure Gs.Ok (y:Yd)(g:Gs):Prop where
 ln:g.line<y.ls.length
 fl:g.first<=g.last
 lt:g.last<y.T
 w1:1<=g.want
 w2:g.want<10^300
 m1:1<=g.most
 m2:g.most<10^300
def WG (i:Int):Int:=if i > 1 then i else 1
theorem BS {i:Int}(h:i<10^30):1<=WG i/\WG i<10^30:=by
 have e:(10:Int)^30=1000000000000000000000000000000:=by decide
 rw[e]at h ⊢;unfold WG;split<;>omega
def gn0 (ns:Ql)(k:Nat):Int:=Vt ns (6+(k:Int))
def gn1 (ns:Ql)(y:Yd)(k:Nat):Int:=gn0 ns k/(y.ls.length:Int)
def gn2 (ns:Ql)(y:Yd)(k:Nat):Int:=gn1 ns y k/(y.T:Int)
def gf (ns:Ql)(y:Yd)(k:Nat):Int:=gn1 ns y k%(y.T:Int)
def gl (ns:Ql)(y:Yd)(k:Nat):Int:=gf ns y k+gn2 ns y k%((y.T:Int)-gf ns y k)
def gn3 (ns:Ql)(y:Yd)(k:Nat):Int:=gn2 ns y k/((y.T:Int)-gf ns y k)
def W3 (ns:Ql)(y:Yd)(k:Nat):Gs :=
 ⟨(gn0 ns k%(y.ls.length:Int)).toNat,(gf ns y k).toNat,(gl ns y k).toNat,WG (VD (gn3 ns y k)).1,WG (VD (VD (gn3 ns y k)).2).1⟩
def UX (ns:Ql):Nat:=(ZgT (Zo ns 0)/40%9).toNat
def Jx (ns:Ql)(y:Yd):List Gs:=(List.range (UX ns)).map (W3 ns y)
theorem B6 {y:Yd}(ok:y.Ok)(ns:Ql)(k:Nat):0<=gf ns y k/\gf ns y k<y.T:=by
 have h:(0:Int)<(y.T:Int):=by have:=ok.t1;omega
 exact⟨JI _ (Int.ne_of_gt h),Ge _ h⟩
theorem D6 {y:Yd}(ok:y.Ok)(ns:Ql)(k:Nat):0<=gn0 ns k/\0<=gn1 ns y k/\0<=gn2 ns y k/\0<=gn3 ns y k:=by
 have h0:=Mr ns (6+(k:Int))
 have h1:0<=gn1 ns y k:=JG h0 (by omega)
 have h2:0<=gn2 ns y k:=JG h1 (by omega)
 obtain⟨f0,f1⟩:=B6 ok ns k
 exact⟨h0,h1,h2,JG h2 (by omega)⟩
theorem Rh {y:Yd}(ok:y.Ok)(ns:Ql)(k:Nat):gf ns y k<=gl ns y k/\gl ns y k<y.T:=by
 obtain⟨f0,f1⟩:=B6 ok ns k
 have h:(0:Int)<(y.T:Int)-gf ns y k:=by omega
 have a:=JI (gn2 ns y k) (Int.ne_of_gt h)
 have b:=Ge (gn2 ns y k) h
 unfold gl;omega
theorem OM {y:Yd}(ok:y.Ok)(ns:Ql)(k:Nat):(W3 ns y k).Ok y:=by
 obtain⟨f0,f1⟩:=B6 ok ns k
 obtain⟨l0,l1⟩:=Rh ok ns k
 obtain⟨n0,n1,n2,n3⟩:=D6 ok ns k
 obtain⟨a1,a2,a3⟩:=Ug n3
 obtain⟨b1,b2,b3⟩:=Ug a3
 obtain⟨m1,m2⟩:=BS a2
 obtain⟨m3,m4⟩:=BS b2
 have hl:(0:Int)<(y.ls.length:Int):=by have:=ok.l1;omega
 have c1:=JI (gn0 ns k) (Int.ne_of_gt hl)
 have c2:=Ge (gn0 ns k) hl
 refine⟨?_,?_,?_,m1,BY m2,m3,BY m4⟩
 ·simp only[W3];omega
 ·simp only[W3];omega
 ·simp only[W3];omega
theorem Zm4 {y:Yd}(ok:y.Ok)(ns:Ql)(k:Nat):(W3 ns y k).want<10^30/\(W3 ns y k).most<10^30:=by
 obtain⟨n0,n1,n2,n3⟩:=D6 ok ns k
 obtain⟨a1,a2,a3⟩:=Ug n3
 obtain⟨b1,b2,b3⟩:=Ug a3
 obtain⟨m1,m2⟩:=BS a2
 obtain⟨m3,m4⟩:=BS b2
 exact⟨m2,m4⟩
theorem Zkl {y:Yd}(ok:y.Ok)(ns:Ql):∀g∈Jx ns y,g.Ok y:=fun g hg=>by
 simp only[Jx,Xw,Xr]at hg;obtain⟨k,_,rfl⟩:=hg
 exact OM ok ns k
theorem Zk0 {y:Yd}(ok:y.Ok)(ns:Ql):∀g∈Jx ns y,g.want<10^30/\g.most<10^30:=fun g hg=>by
 simp only[Jx,Xw,Xr]at hg;obtain⟨k,_,rfl⟩:=hg
 exact Zm4 ok ns k
theorem Zjh (ns:Ql)(y:Yd):(Jx ns y).length<=8:=by
 simp only[Jx,Xm,J9,UX];have:=UL (Zo ns 0)
 omega
def V3 (g:Gs)(t:Int):Bool:=decide ((g.first:Int)<=t)&&decide (t<=(g.last:Int))
def Zg (y:Yd)(l:Nat)(t:Nat):Int:=(((y.ls[l]?).map (·.bs)).getD []).getD t 0
def Zr (gs:List Gs)(t:Int)(l:Nat):Qk->Int
 |[]=>0
 |k::r=>(match gs[k]? with|some g=>if g.line=l/\V3 g t=true then g.most else 0|none=>0)+Zr gs t l r
theorem Bf (gs:List Gs)(t:Int)(l:Nat)(a b:Qk):Zr gs t l (a++b)=Zr gs t l a+Zr gs t l b:=by
 induction a with
 |nil=>simp[Zr]
 |cons k r ih=>simp only[Uw,Zr,ih];omega
def YF (y:Yd)(b:Qn)(st:Qn)(j:Nat):Qn:=fun l=>st l+(if QS y j=some l then min (st j) (b j) else 0)
def Z1 (y:Yd)(b own:Qn):Nat->Qn
 |0=>own
 |i+1=>YF y b (Z1 y b own i) (y.ls.length-1-i)
def Vp (y:Yd)(b own:Qn)(l:Nat):Int:=Z1 y b own (y.ls.length-1) l
def passes (y:Yd)(b own:Qn)(l:Nat):Int:=min (Vp y b own l) (b l)
def Je (y:Yd)(b own:Qn)(l:Nat):Qn
 |0=>0
 |n+1=>Je y b own l n+(if QS y (l+1+n)=some l then passes y b own (l+1+n) else 0)
theorem TJ (y:Yd)(ok:y.Ok)(b own:Qn)(l:Nat):∀i,i<=y.ls.length-1->y.ls.length-1-i<=l->∀d,i+d<=y.ls.length-1->Z1 y b own (i+d) l=Z1 y b own i l
 |i,hi,hl,0,_=>rfl
 |i,hi,hl,d+1,hd=>by
   have ih:=TJ y ok b own l i hi hl d (by omega)
   show YF y b (Z1 y b own (i+d)) (y.ls.length-1-(i+d)) l=_
   unfold YF;rw[ih];by_cases h0:0<y.ls.length-1-(i+d)
   ·obtain⟨a,ea,la⟩:=ok.ups (y.ls.length-1-(i+d)) h0 (by omega)
    rw[ea];have:¬some a=some l:=by
     intro z;injection z with z
     omega
    rw[Xb this];omega
   ·have:y.ls.length-1-(i+d)=0:=by omega
    omega
theorem ZlW {y:Yd}(ok:y.Ok)(b own:Qn){j:Nat}(hj:j<y.ls.length):Z1 y b own (y.ls.length-1-j) j=Vp y b own j:=by
 unfold Vp;have:=TJ y ok b own j (y.ls.length-1-j) (by omega) (by omega) j (by omega)
 rw[show y.ls.length-1-j+j=y.ls.length-1 by omega]at this
 exact this.symm
theorem Tp {y:Yd}(ok:y.Ok)(b own:Qn)(l:Nat):∀i,i<=y.ls.length-1->Z1 y b own i l+Je y b own l (y.ls.length-1-i-l)=own l+Je y b own l (y.ls.length-1-l)
 |0,_=>by simp[Z1]
 |i+1,hi=>by
   have ih:=Tp ok b own l i (by omega)
   have e:Z1 y b own (i+1) l=Z1 y b own i l+(if QS y (y.ls.length-1-i)=some l then passes y b own (y.ls.length-1-i) else 0):=by
    show YF y b (Z1 y b own i) (y.ls.length-1-i) l=_
    unfold YF passes;have hj:y.ls.length-1-i<y.ls.length:=by have:=ok.l1;omega
    have rf:=ZlW ok b own hj
    rw[show y.ls.length-1-(y.ls.length-1-i)=i by omega]at rf
    rw[rf]
   rw[e];by_cases hl:l<y.ls.length-1-i
   ·obtain⟨d,ed⟩:∃d,y.ls.length-1-i-l=d+1:=⟨y.ls.length-1-i-l-1,by omega⟩
    rw[ed]at ih;have e2:y.ls.length-1-(i+1)-l=d:=by omega
    rw[e2];have e3:l+1+d=y.ls.length-1-i:=by omega
    simp only[Je,e3]at ih;omega
   ·have e1:y.ls.length-1-i-l=0:=by omega
    have e2:y.ls.length-1-(i+1)-l=0:=by omega
    rw[e1]at ih;rw[e2];have:¬QS y (y.ls.length-1-i)=some l:=by
     intro z;have h0:0<y.ls.length-1-i:=by omega
     obtain⟨a,ea,la⟩:=ok.ups (y.ls.length-1-i) h0 (by omega)
     rw[ea]at z;injection z with z
     omega
    rw[Xb this];simp only[Je]at ih ⊢;omega
theorem EC {y:Yd}(ok:y.Ok)(b own:Qn)(l:Nat):Vp y b own l=own l+Je y b own l (y.ls.length-1-l):=by
 have h:=Tp ok b own l (y.ls.length-1) (Xs _)
 rw[show y.ls.length-1-(y.ls.length-1)-l=0 by omega]at h
 simp only[Je]at h;unfold Vp;omega
end Mir
namespace Mir
def Qv (f:Qn):Qn
 |0=>0
 |n+1=>Qv f n+f n
theorem Zb {f g:Qn}:∀{n:Nat},(∀k,k<n->f k=g k)->Qv f n=Qv g n
 |0,_=>rfl
 |n+1,h=>by
   simp only[Qv];rw[Zb (n:=n) fun k hk=>h k (by omega),h n (by omega)]
theorem Vs {f g:Qn}:∀{n:Nat},(∀k,k<n->f k<=g k)->Qv f n<=Qv g n
 |0,_=>Jg _
 |n+1,h=>by
   simp only[Qv];have:=Vs (n:=n) fun k hk=>h k (by omega)
   have:=h n (by omega)
   omega
theorem W4 (f g:Qn):∀n,Qv (fun k=>f k+g k) n=Qv f n+Qv g n
 |0=>rfl
 |n+1=>by simp only[Qv];rw[W4 f g n];omega
theorem Jb (c:Int)(f:Qn):∀n,Qv (fun k=>c*f k) n=c*Qv f n
 |0=>by simp[Qv]
 |n+1=>by simp only[Qv];rw[Jb c f n,WC]
theorem VF:∀n,Qv (fun _=>0) n=0
 |0=>rfl
 |n+1=>by simp only[Qv];rw[VF n];rfl
theorem Uc {a:Nat}{v:Int}:∀{n:Nat},Qv (fun l=>if l=a then v else 0) n=if a<n then v else 0
 |0=>by simp[Qv]
 |n+1=>by
   simp only[Qv];rw[Uc (n:=n)]
   by_cases h:n=a
   ·subst h;simp
   ·by_cases h2:a<n
    ·simp[h,h2];omega
    ·have:¬a<n+1:=by omega
     simp[h,h2,this]
theorem GG {f:Qn}{n:Nat}(h:∀k,k<n->0<=f k):0<=Qv f n:=by
 have:=Vs (f:=fun _=>0) (g:=f) (n:=n) h
 rw[VF]at this;exact this
theorem Va (f:Qn)(n:Nat):((List.range n).map f).sum=Qv f n:=by
 induction n with
 |zero=>rfl
 |succ n ih=>rw[Y6,Xy,Bm,ih];simp[Qv]
theorem KG {y:Yd}{b b' own own':Qn}(hb:∀l,b l<=b' l)(h:∀l,own l<=own' l):∀i l,Z1 y b own i l<=Z1 y b' own' i l
 |0,l=>h l
 |i+1,l=>by
   simp only[Z1,YF];have h1:=KG (y:=y) hb h i l
   have h2:=KG (y:=y) hb h i (y.ls.length-1-i)
   have h3:=hb (y.ls.length-1-i)
   split<;>omega
theorem ZkC {y:Yd}{b b' own own':Qn}(hb:∀l,b l<=b' l)(h:∀l,own l<=own' l)(l:Nat):passes y b own l<=passes y b' own' l:=by
 have h1:=KG (y:=y) hb h (y.ls.length-1) l
 have h2:=hb l
 unfold passes Vp;omega
structure Quad (u n a b:Qn):Prop where
 q:∀l,n l<=a l/\n l<=b l/\a l<=u l/\b l<=u l/\u l+n l<=a l+b l
theorem KL {y:Yd}{c u n a b:Qn}(h:Quad u n a b):∀i,Quad (Z1 y c u i) (Z1 y c n i) (Z1 y c a i) (Z1 y c b i)
 |0=>h
 |i+1=>⟨fun l=>by
   have h1:=(KL (y:=y) (c:=c) h i).q l
   have h2:=(KL (y:=y) (c:=c) h i).q (y.ls.length-1-i)
   simp only[Z1,YF];split
   ·omega
   ·omega⟩
theorem ZkG {y:Yd}{c u n a b:Qn}(h:Quad u n a b):passes y c u 0+passes y c n 0<=passes y c a 0+passes y c b 0:=by
 have:=(KL (y:=y) (c:=c) h (y.ls.length-1)).q 0
 unfold passes Vp;omega
def wgt (gs:List Gs)(t:Int)(l k:Nat):Int:=match gs[k]? with|some g=>if g.line=l/\V3 g t=true then g.most else 0|none=>0
theorem Sh (gs:List Gs)(t:Int)(l k:Nat):Zr gs t l [k]=wgt gs t l k:=by
 simp only[Zr,wgt];cases gs[k]? with
 |none=>rfl
 |some g=>simp
theorem Bb (gs:List Gs)(t:Int)(l:Nat)(p:Qm)(m:Nat):Zr gs t l ((List.range m).filter p)=Qv (fun k=>if p k=true then wgt gs t l k else 0) m:=by
 induction m with
 |zero=>rfl
 |succ m ih =>
   rw[Y6,Bo,Bf,ih];simp only[Qv];cases e:p m with
   |true=>simp only[J7,e,if_true,List.filter_nil,Sh]
   |false=>simp only[J7,e,List.filter_nil,Zr,X8,if_false]
theorem LY {gs:List Gs}(h:∀g∈gs,1<=g.most)(t:Int)(l k:Nat):0<=wgt gs t l k:=by
 unfold wgt;split
 ·rename_i g e
  have:=h g (List.mem_of_getElem? e)
  split<;>omega
 ·omega
theorem AQ {gs:List Gs}(h:∀g∈gs,1<=g.most)(t:Int)(p q:Qm)(m:Nat) :
 Quad (fun l=>Zr gs t l ((List.range m).filter fun k=>p k||q k)) (fun l=>Zr gs t l ((List.range m).filter fun k=>p k&&q k)) (fun l=>Zr gs t l ((List.range m).filter p)) (fun l=>Zr gs t l ((List.range m).filter q)):=⟨fun l=>by
 simp only[Bb];have w:=fun k=>LY h t l k
 refine⟨Vs fun k _=>?_,Vs fun k _=>?_,Vs fun k _=>?_,Vs fun k _=>?_,?_⟩
 ·have:=w k;cases p k<;>cases q k<;>simp<;>omega
 ·have:=w k;cases p k<;>cases q k<;>simp<;>omega
 ·have:=w k;cases p k<;>cases q k<;>simp<;>omega
 ·have:=w k;cases p k<;>cases q k<;>simp<;>omega
 ·rw[<- W4,<- W4]
  refine Vs fun k _=>?_
  have:=w k
  cases p k<;>cases q k<;>simp⟩
theorem Mg (f:Nat->Qn)(n:Nat):∀m,Qv (fun l=>Qv (fun k=>f l k) m) n=Qv (fun k=>Qv (fun l=>f l k) n) m
 |0=>by simp only[Qv];exact VF n
 |m+1=>by
   simp only[Qv];rw[W4,Mg f n m]
end Mir
namespace Mir
section
variable {y:Yd}{b b' own:Qn}{l0:Nat}
end
theorem Hy {k a b:Int}(h:0<=k):min (a*k) (b*k)=min a b*k:=by
 rcases Int.le_total a b with h1|h1
 ·rw[Int.min_eq_left h1,Int.min_eq_left (Gb h1 h)]
 ·rw[Int.min_eq_right h1,Int.min_eq_right (Gb h1 h)]
theorem Ku {y y':Yd}{k:Int}(h:0<=k)(hu:∀j,QS y' j=QS y j)(hn:y'.ls.length=y.ls.length)(b own:Qn):∀i l,Z1 y' (fun l=>b l*k) (fun l=>own l*k) i l=Z1 y b own i l*k
 |0,l=>rfl
 |i+1,l=>by
   simp only[Z1,YF,hu,hn];rw[Ku h hu hn b own i l,Ku h hu hn b own i (y.ls.length-1-i)];by_cases e:QS y (y.ls.length-1-i)=some l
   ·rw[Xc e,Xc e,Hy h,Uq]
   ·rw[Xb e,Xb e,U0,U0]
theorem TU {y y':Yd}{k:Int}(h:0<=k)(hu:∀j,QS y' j=QS y j)(hn:y'.ls.length=y.ls.length)(b own:Qn)(l:Nat):passes y' (fun l=>b l*k) (fun l=>own l*k) l=passes y b own l*k:=by
 unfold passes Vp;rw[Ku h hu hn,hn,Hy h]
end Mir
section
namespace L2
open PySem PySem.Spec PyProof.Rows
structure QA (F H F' H':Hp):Prop where
 hh:QC H H'
 ff:QC F F'
 fh:QC F' H'
 fr:∀a,F' a≠none->F a≠none\/H a=none
theorem QA.refl {F H:Hp}(s:QC F H):QA F H F H:=⟨QC.refl _,QC.refl _,s,fun _ h=>.inl h⟩
theorem QA.trans {F H F1 H1 F2 H2:Hp}(a:QA F H F1 H1)(b:QA F1 H1 F2 H2):QA F H F2 H2 :=
 ⟨a.hh.trans b.hh,a.ff.trans b.ff,b.fh,fun p h=>by
  rcases b.fr p h with z|z
  ·exact a.fr p z
  ·exact .inr (a.hh.free z)⟩
theorem Yc {H:Hp}{a:Addr}{o:HO}(h:H a=some o):H a≠none:=by rw[h];exact fun z=>nomatch z
theorem Hw {H:Hp}{a:Addr}(h:H a≠none):∃o,H a=some o:=by
 cases e:H a with
 |none=>exact Xl e h
 |some o=>exact⟨o,rfl⟩
theorem Ib {F H:Hp}{p:Addr}{o:HO}(s:QC F H):QC (upd F p o) (upd H p o):=fun b u e=>by
 by_cases h:b=p
 ·subst h;rw[QR]at e ⊢;exact e
 ·rw[Qx h]at e ⊢;exact s b u e
theorem QA.new {F H:Hp}{p:Addr}{o:HO}(s:QC F H)(hp:H p=none):QA F H (upd F p o) (upd H p o) :=
 ⟨QC.new hp,QC.new (s.free hp),Ib s,fun a h=>by
  by_cases e:a=p
  ·subst e;exact .inr hp
  ·rw[Qx e]at h;exact .inl h⟩
theorem QA.own {F H:Hp}{p:Addr}{o:HO}(s:QC F H)(hp:H p=none):QA F H F (upd H p o) :=
 ⟨QC.new hp,QC.refl _,s.upd (s.free hp),fun _ h=>.inl h⟩
theorem QA.freeze {F0 H0 F H:Hp}{a:Addr}{o:HO}(x:QA F0 H0 F H)(hf:F a=none)(ho:H a=some o)(h0:H0 a=none):QA F0 H0 (upd F a o) H :=
 ⟨x.hh,x.ff.trans (QC.new hf),fun b u e=>by
  by_cases h:b=a
  ·subst h;rw[QR]at e;rw[ho];exact e
  ·rw[Qx h]at e;exact x.fh b u e,fun b h=>by
  by_cases e:b=a
  ·subst e;exact .inr h0
  ·rw[Qx e]at h;exact x.fr b h⟩
theorem QA.free {F H F' H':Hp}{a:Addr}(x:QA F H F' H')(hf:F a=none)(hh:H a≠none):F' a=none:=by
 cases e:F' a with
 |none=>rfl
 |some o =>
   rcases x.fr a (Yc e) with z|z
   ·exact Xl hf z
   ·exact Xl z hh
structure OwnP where
 ok:W.Frag->Hp->Hp->V->Qg->Prop
 there:∀{K:W.Frag} {F H:Hp} {v:V} {p:Qg},ok K F H v p->∀a∈p,F a=none/\H a≠none
 mono:∀{K:W.Frag} {F F' H H':Hp} {v:V} {p:Qg},QC F F'->(∀a∈p,F' a=none)->(∀a∈p,H' a=H a)->ok K F H v p->ok K F' H' v p
 uniq:∀{K:W.Frag} {F H:Hp} {v:V} {p q:Qg},ok K F H v p->ok K F H v q->∀a∈q,a∈p
structure ZP where
 ok:W.Frag->Hp->V->Prop
 mono:∀{K:W.Frag} {F F':Hp} {v:V},QC F F'->ok K F v->ok K F' v
inductive OT where
 |zow (Ψ:ZP)
 |fz (d:PyData)
 |ol (ds:Qd)
 |oll (dss:List (Qd))
 |scr (ns:Ql)
 |own (v:V) (Φ:OwnP)
abbrev QG:=List (Option OT)
def VL (F H:Hp)(a:Addr)(ds:Qd):Prop:=F a=none/\∃xs,H a=some (.lst xs)/\Qw F xs ds
def Zx (F H:Hp):Qg->List (Qd)->Prop
 |[],[]=>True
 |a::as,ds::dss=>VL F H a ds/\Zx F H as dss
 |_,_=>False
def Zz (K:W.Frag)(F H:Hp)(v:V):OT->Qg->Prop
 |.fz d,p=>p=[]/\Rep F v d
 |.ol ds,p=>∃a,v=.ref a/\p=[a]/\VL F H a ds
 |.oll dss,p=>∃a as,v=.ref a/\p=a::as/\(a::as).Nodup/\F a=none/\H a=some (.lst (as.map V.ref))/\Zx F H as dss
 |.scr ns,p=>p=[]/\∃a,v=.ref a/\Scr K F a ns
 |.own v0 Φ,p=>v=v0/\Φ.ok K F H v p
 |.zow Ψ,p=>p=[]/\Ψ.ok K F v
theorem QC.at_eq {H H':Hp}(s:QC H H'){a:Addr}(h:H a≠none):H' a=H a:=by
 cases e:H a with
 |none=>exact Xl e h
 |some o=>exact s _ _ e
theorem VL.ext {F H F' H':Hp}{a:Addr}{ds:Qd}(h:VL F H a ds)(x:QA F H F' H'):VL F' H' a ds:=by
 obtain⟨h1,xs,h2,h3⟩:=h
 exact⟨x.free h1 (Yc h2),xs,x.hh _ _ h2,h3.mono x.ff⟩
theorem Zx.ext {F H F' H':Hp}(x:QA F H F' H'):∀{as:Qg} {dss:List (Qd)},Zx F H as dss->Zx F' H' as dss
 |[],[],_=>trivial
 |_::_,_::_,h=>⟨h.1.ext x,Zx.ext x h.2⟩
 |[],_::_,h=>False.elim h
 |_::_,[],h=>False.elim h
theorem Zx.mem {F H:Hp}:∀{as:Qg} {dss:List (Qd)},Zx F H as dss->∀a∈as,F a=none/\H a≠none
 |[],[],_,a,ha=>by cases ha
 |b::as,_::_,h,a,ha=>by
   rcases Xg.mp ha with rfl|ha
   ·obtain⟨h1,xs,h2,_⟩:=h.1
    exact⟨h1,Yc h2⟩
   ·exact Zx.mem h.2 a ha
 |[],_::_,h,_,_=>False.elim h
 |_::_,[],h,_,_=>False.elim h
theorem Zz.ext {K:W.Frag}{F H F' H':Hp}{v:V}{t:OT}{p:Qg}(h:Zz K F H v t p)(x:QA F H F' H'):Zz K F' H' v t p:=by
 cases t with
 |fz d=>exact⟨h.1,h.2.mono x.ff⟩
 |zow Ψ=>exact⟨h.1,Ψ.mono x.ff h.2⟩
 |ol ds=>obtain⟨a,h1,h2,h3⟩:=h;exact⟨a,h1,h2,h3.ext x⟩
 |oll dss=>obtain⟨a,as,h1,h2,h3,h4,h5,h6⟩:=h;exact⟨a,as,h1,h2,h3,x.free h4 (Yc h5),x.hh _ _ h5,h6.ext x⟩
 |scr ns=>obtain⟨h1,a,h2,h3⟩:=h;exact⟨h1,a,h2,h3.mono x.ff⟩
 |own v0 Φ=>exact⟨h.1,Φ.mono x.ff (fun a ha=>x.free (Φ.there h.2 a ha).1 (Φ.there h.2 a ha).2) (fun a ha=>x.hh.at_eq (Φ.there h.2 a ha).2) h.2⟩
theorem Zz.there {K:W.Frag}{F H:Hp}{v:V}{t:OT}{p:Qg}(h:Zz K F H v t p):∀a∈p,F a=none/\H a≠none:=by
 cases t with
 |fz d=>obtain⟨rfl,_⟩:=h;intro a ha;cases ha
 |zow Ψ=>obtain⟨rfl,_⟩:=h;intro a ha;cases ha
 |ol ds =>
   obtain⟨a,h1,rfl,h3,xs,h4,_⟩:=h
   intro b hb;have e:b=a:=by simpa using hb
   subst e;exact⟨h3,Yc h4⟩
 |oll dss =>
   obtain⟨a,as,h1,rfl,h3,h4,h5,h6⟩:=h
   intro b hb;rcases Xg.mp hb with rfl|hb
   ·exact⟨h4,Yc h5⟩
   ·exact h6.mem b hb
 |scr ns=>obtain⟨rfl,_⟩:=h;intro a ha;cases ha
 |own v0 Φ=>exact Φ.there h.2
theorem VL.other {F H:Hp}{a b:Addr}{o:HO}{ds:Qd}(h:VL F H a ds)(n:a≠b):VL F (upd H b o) a ds:=by
 obtain⟨h1,xs,h2,h3⟩:=h
 exact⟨h1,xs,by rw[Qx n];exact h2,h3⟩
theorem Zx.other {F H:Hp}{b:Addr}{o:HO}:∀{as:Qg} {dss:List (Qd)},Zx F H as dss->b∉as->Zx F (upd H b o) as dss
 |[],[],_,_=>trivial
 |a::as,_::_,h,n=>⟨h.1.other (fun z=>n (by rw[z];exact Xd)),Zx.other h.2 fun z=>n (Xe _ z)⟩
 |[],_::_,h,_=>False.elim h
 |_::_,[],h,_=>False.elim h
theorem Zz.other {K:W.Frag}{F H:Hp}{v:V}{t:OT}{p:Qg}{b:Addr}{o:HO}(h:Zz K F H v t p)(n:b∉p):Zz K F (upd H b o) v t p:=by
 cases t with
 |fz d=>exact h
 |zow Ψ=>exact h
 |ol ds=>obtain⟨a,h1,rfl,h3⟩:=h;exact⟨a,h1,rfl,h3.other (fun z=>n (by simp[z]))⟩
 |oll dss =>
   obtain⟨a,as,h1,rfl,h3,h4,h5,h6⟩:=h
   exact⟨a,as,h1,rfl,h3,h4,by rw[Qx (fun z=>n (by simp[z]))];exact h5,h6.other fun z=>n (Xe _ z)⟩
 |scr ns=>exact h
 |own v0 Φ=>exact⟨h.1,Φ.mono (QC.refl _) (fun a ha=>(Φ.there h.2 a ha).1) (fun a ha=>Qx fun z=>n (by rw[<- z];exact ha)) h.2⟩
def KTs (K:W.Frag) (F:Hp):Prop := ∃gS gE,W.nsIn K mainGlobals "START"=some (some (.ref gS))/\W.nsIn K mainGlobals "END"=some (some (.ref gE))/\F gS=some (.tup [.str "start"])/\F gE=some (.tup [.str "end"])
theorem KTs.mono {K:W.Frag}{F F':Hp}(h:KTs K F)(s:QC F F'):KTs K F':=by
 obtain⟨gS,gE,h1,h2,h3,h4⟩:=h
 exact⟨gS,gE,h1,h2,s _ _ h3,s _ _ h4⟩
structure QT (K:W.Frag)(H0 F:Hp)(ρ:QG)(σ:St)(H:Hp):Prop where
 kt:KTs K F
 sub:QC F H
 len:σ.length=ρ.length
 fp:∃fp:Nat->Qg,(∀(i:Nat) (t:OT),ρ[i]?=some (some t)->∃v,σ[i]?=some (some v)/\Zz K F H v t (fp i)) /\
  (∀(i j:Nat) (a:Addr),a∈fp i->a∈fp j->i=j)/\∀(i:Nat) (a:Addr),a∈fp i->H0 a=none/\H a≠none
theorem QT.ext {K:W.Frag}{H0 F F' H H':Hp}{ρ:QG}{σ:St}(s:QT K H0 F ρ σ H)(x:QA F H F' H'):QT K H0 F' ρ σ H':=by
 obtain⟨kt,h1,h2,fp,h3,h4,h5⟩:=s
 refine⟨kt.mono x.ff,x.fh,h2,fp,fun i t e=>?_,h4,fun i a ha=>?_⟩
 ·obtain⟨v,e1,e2⟩:=h3 i t e
  exact⟨v,e1,e2.ext x⟩
 ·obtain⟨e1,e2⟩:=h5 i a ha
  obtain⟨o,e3⟩:=Hw e2
  exact⟨e1,Yc (x.hh _ _ e3)⟩
def Fgt:QG->QG->Prop
 |[],[]=>True
 |_::r,none::r'=>Fgt r r'
 |s::r,some x::r'=>s=some x/\Fgt r r'
 |_,_=>False
theorem Fgt.len:∀{ρ ρ':QG},Fgt ρ ρ'->ρ.length=ρ'.length
 |[],[],_=>rfl
 |_::r,none::r',h=>by
   have h':Fgt r r':=h
   simp[Fgt.len h']
 |s::r,some x::r',h=>by
   have h':s=some x/\Fgt r r':=h
   simp[Fgt.len h'.2]
 |[],none::_,h=>False.elim h
 |[],some _::_,h=>False.elim h
 |_::_,[],h=>False.elim h
theorem Fgt.get:∀{ρ ρ':QG},Fgt ρ ρ'->∀(i:Nat) (t:OT),ρ'[i]?=some (some t)->ρ[i]?=some (some t)
 |[],[],_,i,t,e=>by simp at e
 |_::r,none::r',h,0,t,e=>by simp at e
 |_::r,none::r',h,i+1,t,e=>by
   have h':Fgt r r':=h
   have:=Fgt.get h' i t (by simpa using e)
   simpa using this
 |s::r,some x::r',h,0,t,e=>by
   have h':s=some x/\Fgt r r':=h
   simp at e;subst e;simp[h'.1]
 |s::r,some x::r',h,i+1,t,e=>by
   have h':s=some x/\Fgt r r':=h
   have:=Fgt.get h'.2 i t (by simpa using e)
   simpa using this
 |[],none::_,h,_,_,_=>False.elim h
 |[],some _::_,h,_,_,_=>False.elim h
 |_::_,[],h,_,_,_=>False.elim h
theorem QT.fgt {K:W.Frag}{H0 F H:Hp}{ρ ρ':QG}{σ:St}(s:QT K H0 F ρ σ H)(f:Fgt ρ ρ'):QT K H0 F ρ' σ H:=by
 obtain⟨kt,h1,h2,fp,h3,h4,h5⟩:=s
 exact⟨kt,h1,h2.trans f.len,fp,fun i t e=>h3 i t (f.get i t e),h4,h5⟩
theorem QT.set {K:W.Frag}{H0 F H:Hp}{ρ:QG}{σ:St}{i:Nat}{v:V}{t:OT}{p:Qg}(s:QT K H0 F ρ σ H)(ok:Zz K F H v t p)
 (hp:∀(a:Addr),a∈p->H0 a=none)
 (hn:∀(a:Addr),a∈p->∀(j:Nat) (u:V) (t':OT) (q:Qg),ρ[j]?=some (some t')->σ[j]?=some (some u)->Zz K F H u t' q->a∉q) :
 QT K H0 F (ρ.set i (some t)) (σ.set i (some v)) H:=by
 obtain⟨kt,h1,h2,fp,h3,h4,h5⟩:=s
 refine⟨kt,h1,by simp[h2],fun j=>if j=i then p else if (ρ[j]?).join.isSome then fp j else [],fun j t' e=>?_,fun j k a ha hb=>?_,fun j a ha=>?_⟩
 ·by_cases hj:j=i
  ·subst hj
   have hlt:j<ρ.length:=by
    have:=(Xh.mp e).1
    simpa using this
   rw[XU hlt]at e;cases e
   refine⟨v,XU (by omega),?_⟩
   dsimp only;rw[Xc rfl];exact ok
  ·rw[X0 (Ne.symm hj)]at e
   obtain⟨u,e1,e2⟩:=h3 j t' e
   refine⟨u,by rw[X0 (Ne.symm hj)];exact e1,?_⟩
   dsimp only;rw[Xb hj,e,Xc (by rfl)];exact e2
 ·have key:∀(j:Nat),j≠i->a∈(if j=i then p else if (ρ[j]?).join.isSome then fp j else [])->∃t' u,ρ[j]?=some (some t')/\σ[j]?=some (some u)/\Zz K F H u t' (fp j)/\a∈fp j:=fun j hj hm=>by
   rw[Xb hj]at hm;cases e:(ρ[j]?).join with
   |none=>rw[e]at hm;simp at hm
   |some t' =>
     rw[e]at hm;have e':ρ[j]?=some (some t'):=by
      cases z:ρ[j]? with
      |none=>rw[z]at e;simp at e
      |some w=>rw[z]at e;simp at e;rw[e]
     obtain⟨u,e1,e2⟩:=h3 j t' e'
     exact⟨t',u,e',e1,e2,by simpa using hm⟩
  by_cases hj:j=i
  ·by_cases hk:k=i
   ·omega
   ·obtain⟨t',u,e1,e2,e3,e4⟩:=key k hk hb
    have ha':a∈p:=by simpa [hj] using ha
    exact Xl e4 (hn a ha' k u t' _ e1 e2 e3)
  ·obtain⟨t',u,e1,e2,e3,e4⟩:=key j hj ha
   by_cases hk:k=i
   ·have hb':a∈p:=by simpa [hk] using hb
    exact Xl e4 (hn a hb' j u t' _ e1 e2 e3)
   ·obtain⟨t2,u2,f1,f2,f3,f4⟩:=key k hk hb
    exact h4 j k a e4 f4
 ·by_cases hj:j=i
  ·have ha':a∈p:=by simpa [hj] using ha
   exact⟨hp a ha',(ok.there a ha').2⟩
  ·simp only[Xb hj]at ha
   split at ha
   ·exact h5 j a ha
   ·cases ha
theorem QT.setF {K:W.Frag}{H0 F H:Hp}{ρ:QG}{σ:St}{i:Nat}{v:V}{d:PyData}(s:QT K H0 F ρ σ H)(r:Rep F v d):QT K H0 F (ρ.set i (some (.fz d))) (σ.set i (some v)) H :=
 s.set (p:=[]) ⟨rfl,r⟩ (fun a ha=>nomatch ha) (hn:=fun a ha=>nomatch ha)
theorem QT.write {K:W.Frag}{H0 F H:Hp}{ρ:QG}{σ:St}{i:Nat}{ds:Qd}(s:QT K H0 F ρ σ H)(e:ρ[i]?=some (some (.ol ds))) :
 ∃a xs,σ[i]?=some (some (.ref a))/\H a=some (.lst xs)/\Qw F xs ds/\H0 a=none/\F a=none/\∀xs' ds',Qw F xs' ds'->QT K H0 F (ρ.set i (some (.ol ds'))) σ (upd H a (.lst xs')):=by
 obtain⟨kt,h1,h2,fp,h3,h4,h5⟩:=s
 obtain⟨v,e1,a,rfl,e2,e3,xs,e4,e5⟩:=h3 i _ e
 have ha:a∈fp i:=by rw[e2];exact Xd
 refine⟨a,xs,e1,e4,e5,(h5 i a ha).1,e3,fun xs' ds' r=>?_⟩
 have hlt:=(Xh.mp e).1
 refine⟨kt,h1.upd e3,by simp[h2],fp,fun j t' e'=>?_,h4,fun j b hb=>?_⟩
 ·by_cases hj:j=i
  ·subst hj
   rw[XU hlt]at e';cases e'
   exact⟨_,e1,a,rfl,e2,e3,xs',QR,r⟩
  ·rw[X0 (Ne.symm hj)]at e'
   obtain⟨u,f1,f2⟩:=h3 j t' e'
   exact⟨u,f1,f2.other fun z=>hj (h4 j i a z ha)⟩
 ·obtain⟨f1,f2⟩:=h5 j b hb
  refine⟨f1,?_⟩
  by_cases z:b=a
  ·subst z;rw[QR];exact fun q=>nomatch q
  ·rw[Qx z];exact f2
theorem QT.freeze {K:W.Frag}{H0 F H:Hp}{ρ:QG}{σ:St}{i:Nat}{ds:Qd}(s:QT K H0 F ρ σ H)(e:ρ[i]?=some (some (.ol ds))) :
 ∃a xs,F a=none/\H a=some (.lst xs)/\H0 a=none/\σ[i]?=some (some (.ref a))/\Qw F xs ds/\QT K H0 (upd F a (.lst xs)) (ρ.set i (some (.fz (.list ds)))) σ H:=by
 obtain⟨kt,h1,h2,fp,h3,h4,h5⟩:=s
 obtain⟨v,e1,a,rfl,e2,e3,xs,e4,e5⟩:=h3 i _ e
 have ha:a∈fp i:=by rw[e2];exact Xd
 have hlt:=(Xh.mp e).1
 have sm:QC F (upd F a (.lst xs)):=QC.new e3
 refine⟨a,xs,e3,e4,(h5 i a ha).1,e1,e5,kt.mono sm,?_,by simp[h2],fun j=>if j=i then [] else fp j,fun j t' e'=>?_,fun j k b hb hc=>?_,fun j b hb=>?_⟩
 ·intro b u hb
  by_cases z:b=a
  ·subst z;rw[QR]at hb;rw[e4];exact hb
  ·rw[Qx z]at hb;exact h1 b u hb
 ·by_cases hj:j=i
  ·subst hj
   rw[XU hlt]at e';cases e'
   refine⟨_,e1,?_,.lst QR (e5.mono sm)⟩
   dsimp only;rw[Xc rfl]
  ·rw[X0 (Ne.symm hj)]at e'
   obtain⟨u,f1,f2⟩:=h3 j t' e'
   refine⟨u,f1,?_⟩
   dsimp only;rw[Xb hj];have na:a∉fp j:=fun z=>hj (h4 j i a z ha)
   have nb:∀b,F b=none->b≠a->upd F a (.lst xs) b=none:=fun b hb hn=>by rw[Qx hn];exact hb
   have go:∀{b:Addr} {es:Qd},b≠a->VL F H b es->VL (upd F a (.lst xs)) H b es:=fun{b es} hn ⟨z1,zs,z2,z3⟩=>⟨nb _ z1 hn,zs,z2,z3.mono sm⟩
   cases t' with
   |fz d=>exact⟨f2.1,f2.2.mono sm⟩
   |zow Ψ=>exact⟨f2.1,Ψ.mono sm f2.2⟩
   |ol es =>
     obtain⟨b,g1,g2,g3⟩:=f2
     exact⟨b,g1,g2,go (fun z=>na (by rw[g2,z];exact Xd)) g3⟩
   |oll dss =>
     obtain⟨b,bs,g1,g2,g3,g4,g5,g6⟩:=f2
     refine⟨b,bs,g1,g2,g3,nb _ g4 (fun z=>na (by rw[g2,z];exact Xd)),g5,?_⟩
     have nbs:a∉bs:=fun z=>na (by rw[g2];exact Xe _ z)
     clear g1 g2 g3 g5;have all:∀(bs:Qg) (dss:List (Qd)),a∉bs->Zx F H bs dss->Zx (upd F a (.lst xs)) H bs dss:=by
      intro bs;induction bs with
      |nil =>
        intro dss _ h;cases dss with
        |nil=>exact trivial
        |cons _ _=>exact False.elim h
      |cons c cs ih =>
        intro dss hn h;cases dss with
        |nil=>exact False.elim h
        |cons es ess=>exact⟨go (fun z=>hn (by rw[z];exact Xd)) h.1,ih ess (fun z=>hn (Xe _ z)) h.2⟩
     exact all bs dss nbs g6
   |scr ns =>
     obtain⟨g1,b,g2,g3⟩:=f2
     exact⟨g1,b,g2,g3.mono sm⟩
   |own v0 Φ=>exact⟨f2.1,Φ.mono sm (fun b hb=>nb b (Φ.there f2.2 b hb).1 fun z=>na (by rw[<- z];exact hb)) (fun _ _=>rfl) f2.2⟩
 ·by_cases hj:j=i
  ·simp[hj]at hb
  ·by_cases hk:k=i
   ·simp[hk]at hc
   ·simp only[Xb hj]at hb
    simp only[Xb hk]at hc;exact h4 j k b hb hc
 ·by_cases hj:j=i
  ·simp[hj]at hb
  ·simp only[Xb hj]at hb
   exact h5 j b hb
inductive Args (K:W.Frag)(F:Hp):List V->List OT->Prop
 |nil:Args K F [] []
 |fz {v:V} {d:PyData} {vs:List V} {ts:List OT}:Rep F v d->Args K F vs ts->Args K F (v::vs) (.fz d::ts)
 |zow {v:V} {Ψ:ZP} {vs:List V} {ts:List OT}:Ψ.ok K F v->Args K F vs ts->Args K F (v::vs) (.zow Ψ::ts)
 |scr {a:Addr} {ns:Ql} {vs:List V} {ts:List OT}:Scr K F a ns->Args K F vs ts->Args K F (.ref a::vs) (.scr ns::ts)
theorem Args.length {K:W.Frag}{F:Hp}:∀{vs:List V} {ts:List OT},Args K F vs ts->vs.length=ts.length
 |_,_,.nil=>rfl
 |_,_,.fz _ t=>by simp[Args.length t]
 |_,_,.scr _ t=>by simp[Args.length t]
 |_,_,.zow _ t=>by simp[Args.length t]
theorem Args.get {K:W.Frag}{F H:Hp}:∀{vs:List V} {ts:List OT},Args K F vs ts->∀(i:Nat) (t:OT),ts[i]?=some t->∃v,vs[i]?=some v/\Zz K F H v t []
 |_,_,.nil,i,t,e=>by simp at e
 |_,_,.fz r _,0,t,e=>by simp at e;subst e;exact⟨_,rfl,rfl,r⟩
 |_,_,.scr r _,0,t,e=>by simp at e;subst e;exact⟨_,rfl,rfl,_,rfl,r⟩
 |_,_,.zow r _,0,t,e=>by simp at e;subst e;exact⟨_,rfl,rfl,r⟩
 |_,_,.zow _ q,i+1,t,e=>by
   obtain⟨v,h1,h2⟩:=Args.get (H:=H) q i t (by simpa using e)
   exact⟨v,by simpa using h1,h2⟩
 |_,_,.fz _ q,i+1,t,e=>by
   obtain⟨v,h1,h2⟩:=Args.get (H:=H) q i t (by simpa using e)
   exact⟨v,by simpa using h1,h2⟩
 |_,_,.scr _ q,i+1,t,e=>by
   obtain⟨v,h1,h2⟩:=Args.get (H:=H) q i t (by simpa using e)
   exact⟨v,by simpa using h1,h2⟩
section
variable (K:W.Frag)
def Qt (t:TE)(ρ:QG)(d:PyData):Prop := ∀(H0 F:Hp) (σ:St) (H:Hp) (Q:VK),QT K H0 F ρ σ H->(∀F' H' v,QA F H F' H'->Rep F' v d->Q v H')->t σ H Q
def EvO (t:TE)(ρ:QG)(r:OT):Prop := ∀(H0 F:Hp) (σ:St) (H:Hp) (Q:VK),QT K H0 F ρ σ H->(∀F' H' v p,QA F H F' H'->(∀a∈p,H a=none)->Zz K F' H' v r p->Q v H')->t σ H Q
def Z9 (t:TT)(ρ:QG)(b:Bool):Prop := ∀(H0 F:Hp) (σ:St) (H:Hp) (Q:Bool->Hp->Prop),QT K H0 F ρ σ H->(∀F' H',QA F H F' H'->Q b H')->t σ H Q
def ZE (t:TA)(ρ:QG)(ts:List OT):Prop := ∀(H0 F:Hp) (σ:St) (H:Hp) (Q:List V->Hp->Prop),QT K H0 F ρ σ H->(∀F' H' vs,QA F H F' H'->Args K F' vs ts->Q vs H')->t σ H Q
def RK (F':Hp)(J:It)(ds:Qd):Prop := ∀(F'' H'':Hp),QC F' F''->QC F'' H''->J.stop ds.length H'' /\
 ∀(i:Nat) (d:PyData),ds[i]?=some d->J.go i H''/\∀x H3,J.yld i H'' x H3->∃F3,QA F'' H'' F3 H3/\Rep F3 x d
def EvI (wi:TI)(ρ:QG)(ds:Qd):Prop := ∀(H0 F:Hp) (σ:St) (H:Hp) (R:It->Hp->Prop),QT K H0 F ρ σ H->(∀F' H' J,QA F H F' H'->RK F' J ds->R J H')->wi σ H R
def GTo (g:TG)(d:PyData)(ρ ρ':QG):Prop := ∀(H0 F:Hp) (σ:St) (H:Hp) (x:V) (Q:St->Hp->Prop),QT K H0 F ρ σ H->Rep F x d->(∀σ',QT K H0 F ρ' σ' H->Q σ' H)->g x σ H Q
def Bx (g:TGs)(ds:Qd)(ρ ρ':QG):Prop := ∀(H0 F:Hp) (σ:St) (H:Hp) (xs:List V) (Q:St->Hp->Prop),QT K H0 F ρ σ H->Qw F xs ds->(∀σ',QT K H0 F ρ' σ' H->Q σ' H)->g xs σ H Q
structure PEnds where
 nx:QG->Prop
 rt:OT->Prop
 bk:QG->Prop:=fun _=>False
 ct:QG->Prop:=fun _=>False
structure Cnv (F0 H0:Hp)(D:PEnds)(E:Ends):Prop where
 nx:∀F σ H ρ,QA F0 H0 F H->QT K H0 F ρ σ H->D.nx ρ->E.nx σ H
 rt:∀F H v r p,QA F0 H0 F H->(∀a∈p,H0 a=none)->Zz K F H v r p->D.rt r->E.rt v H
 bk:∀F σ H ρ,QA F0 H0 F H->QT K H0 F ρ σ H->D.bk ρ->E.bk σ H
 ct:∀F σ H ρ,QA F0 H0 F H->QT K H0 F ρ σ H->D.ct ρ->E.ct σ H
def Q3 (t:TS)(ρ:QG)(D:PEnds):Prop := ∀(F0 H0 F:Hp) (σ:St) (H:Hp) (E:Ends),QA F0 H0 F H->QT K H0 F ρ σ H->Cnv K F0 H0 D E->t E σ H
end
section
variable {K:W.Frag}{ρ:QG}{ta tb tc:TE}{tA tB':TT}
theorem Qt.o {t:TE}{d:PyData}(h:Qt K t ρ d):EvO K t ρ (.fz d):=fun H0 F σ H Q S q=>h H0 F σ H Q S fun F' H' v x r=>q F' H' v [] x (fun _ z=>nomatch z) ⟨rfl,r⟩
theorem EvO.e {t:TE}{d:PyData}(h:EvO K t ρ (.fz d)):Qt K t ρ d:=fun H0 F σ H Q S q=>h H0 F σ H Q S fun F' H' v p x _ r=>q F' H' v x r.2
theorem EvO.fz {t:TE}{ds:Qd}(h:EvO K t ρ (.ol ds)):Qt K t ρ (.list ds):=fun H0 F σ H Q S q=>h H0 F σ H Q S fun F' H' v p x hp r=>by
 obtain⟨a,rfl,rfl,r1,xs,r2,r3⟩:=r
 refine q (upd F' a (.lst xs)) H' _ (x.freeze r1 r2 (hp a Xd)) (.lst QR (r3.mono (QC.new r1)))
theorem Qq {i:Nat}{d:PyData}(e:ρ[i]?=some (some (.fz d))):Qt K (Zc i) ρ d:=fun H0 F σ H Q S q=>by
 obtain⟨fp,h,_⟩:=S.fp
 obtain⟨v,e1,e2⟩:=h i _ e
 exact⟨v,e1,q F H v (QA.refl S.sub) e2.2⟩
theorem Ze {i:Int}:Qt K (tC (.int i)) ρ (.int i):=fun H0 F σ H Q S q=>q F H _ (QA.refl S.sub) (.int i)
theorem Gy:Qt K (tC .non) ρ .none:=fun H0 F σ H Q S q=>q F H _ (QA.refl S.sub) .non
theorem D8 {x:Str}:Qt K (tC (.str x)) ρ (.str x):=fun H0 F σ H Q S q=>q F H _ (QA.refl S.sub) (.str x)
theorem Y0 {a b:PyData}{Q:VK}{r:R2}{H0 F H:Hp}{σ:St}(ha:Qt K ta ρ a)(hb:Qt K tb ρ b)(S:QT K H0 F ρ σ H)
 (h:∀F' H' x y,QA F H F' H'->Rep F' x a->Rep F' y b->r x y H' Q):tOp r ta tb σ H Q :=
 ha H0 F σ H _ S fun F1 H1 x x1 r1=>hb H0 F1 σ H1 _ (S.ext x1) fun F2 H2 y x2 r2=>h F2 H2 x y (x1.trans x2) (r1.mono x2.ff) r2
theorem VA {g:Int->Int->Int}{x y:Int}(ha:Qt K ta ρ (.int x))(hb:Qt K tb ρ (.int y)):Qt K (tOp (rI0 fun i j=>.int (g i j)) ta tb) ρ (.int (g x y)):=fun H0 F σ H Q S q =>
 Y0 ha hb S fun F' H' u v e r1 r2=>by cases r1;cases r2;exact⟨x,y,rfl,rfl,q F' H' _ e (.int _)⟩
theorem Js {g:Int->Int->Bool}{x y:Int}(ha:Qt K ta ρ (.int x))(hb:Qt K tb ρ (.int y)):Qt K (tOp (rI0 fun i j=>.bl (g i j)) ta tb) ρ (.bool (g x y)):=fun H0 F σ H Q S q =>
 Y0 ha hb S fun F' H' u v e r1 r2=>by cases r1;cases r2;exact⟨x,y,rfl,rfl,q F' H' _ e (.bl _)⟩
theorem ZS {C:Int->Int->Prop}{g:Int->Int->Int}{x y:Int}(ha:Qt K ta ρ (.int x))(hb:Qt K tb ρ (.int y))(hc:C x y):Qt K (tOp (rI C fun i j=>.int (g i j)) ta tb) ρ (.int (g x y)):=fun H0 F σ H Q S q =>
 Y0 ha hb S fun F' H' u v e r1 r2=>by cases r1;cases r2;exact⟨x,y,rfl,rfl,hc,q F' H' _ e (.int _)⟩
theorem Nt {g:Int->Int}{x:Int}(ha:Qt K ta ρ (.int x)):Qt K (tUn (rU fun i=>.int (g i)) ta) ρ (.int (g x)):=fun H0 F σ H Q S q =>
 ha H0 F σ H _ S fun F1 H1 v x1 r1=>by cases r1;exact⟨x,rfl,q F1 H1 _ x1 (.int _)⟩
def Yg:PyData->Option V
 |.none=>some .non
 |.bool b=>some (.bl b)
 |.int i=>some (.int i)
 |.str x=>some (.str x)
 |_=>Option.none
theorem Rep.flat {H:Hp}{x v:V}{d:PyData}(r:Rep H x d)(e:Yg d=some v):x=v:=by
 cases r<;>simp[Yg]at e<;>exact e
theorem Fs {a b:PyData}{v w:V}(ha:Qt K ta ρ a)(hb:Qt K tb ρ b)(e1:Yg a=some v)(e2:Yg b=some w)(hs:∀(H:Hp) (Q:VK),Q (.bl (decide (v=w))) H->rEq v w H Q) :
 Qt K (tOp rEq ta tb) ρ (.bool (decide (v=w))):=fun H0 F σ H Q S q =>
 Y0 ha hb S fun F' H' x y e r1 r2=>by rw[r1.flat e1,r2.flat e2];exact hs _ _ (q F' H' _ e (.bl _))
theorem Fy {a b:PyData}{v w:V}(ha:Qt K ta ρ a)(hb:Qt K tb ρ b)(e1:Yg a=some v)(e2:Yg b=some w)(hs:∀(H:Hp) (Q:VK),Q (.bl (!decide (v=w))) H->rNe v w H Q) :
 Qt K (tOp rNe ta tb) ρ (.bool (!decide (v=w))):=fun H0 F σ H Q S q =>
 Y0 ha hb S fun F' H' x y e r1 r2=>by rw[r1.flat e1,r2.flat e2];exact hs _ _ (q F' H' _ e (.bl _))
theorem SY {x y:Int}:decide (V.int x=V.int y)=decide (x=y):=by
 by_cases h:x=y
 ·subst h;simp
 ·rw[XF h,XF (fun z=>h (by injection z))]
theorem B9 {x y:Int}(ha:Qt K ta ρ (.int x))(hb:Qt K tb ρ (.int y)):Qt K (tOp rEq ta tb) ρ (.bool (decide (x=y))):=by
 rw[<- SY];exact Fs ha hb rfl rfl fun H Q q=>⟨rfl,q⟩
theorem NW {x y:Int}(ha:Qt K ta ρ (.int x))(hb:Qt K tb ρ (.int y)):Qt K (tOp rNe ta tb) ρ (.bool (!decide (x=y))):=by
 rw[<- SY];exact Fy ha hb rfl rfl fun H Q q=>⟨rfl,q⟩
theorem DF {a b:PyData}(ha:Qt K ta ρ a)(hb:Qt K tb ρ b)(fa:YE a)(fb:YE b):Qt K (tOp N6 ta tb) ρ (.bool (PyData.eqv a b)):=fun H0 F σ H Q S q =>
 Y0 ha hb S fun F' H' x y e r1 r2=>⟨a,b,r1.mono e.fh,r2.mono e.fh,fa,fb,q F' H' _ e (.bl _)⟩
theorem B8 {a b:PyData}(ha:Qt K ta ρ a)(hb:Qt K tb ρ b)(fa:YE a)(fb:YE b):Qt K (tOp MW ta tb) ρ (.bool (!PyData.eqv a b)):=fun H0 F σ H Q S q =>
 Y0 ha hb S fun F' H' x y e r1 r2=>⟨a,b,r1.mono e.fh,r2.mono e.fh,fa,fb,q F' H' _ e (.bl _)⟩
def DB:PyData->Bool
 |.none=>true
 |_=>false
theorem Rep.isNon {H:Hp}{x:V}{d:PyData}(r:Rep H x d):decide (x=.non)=DB d:=by cases r<;>rfl
theorem JW {a:PyData}(ha:Qt K ta ρ a):Qt K (Bv ta) ρ (.bool (DB a)):=fun H0 F σ H Q S q =>
 ha H0 F σ H _ S fun F1 H1 v x1 r1=>by rw[r1.isNon];exact q F1 H1 _ x1 (.bl _)
theorem Rt {a:PyData}(ha:Qt K ta ρ a):Qt K (NE ta) ρ (.bool (!DB a)):=fun H0 F σ H Q S q =>
 ha H0 F σ H _ S fun F1 H1 v x1 r1=>by rw[r1.isNon];exact q F1 H1 _ x1 (.bl _)
theorem Ya {b:Bool}(h:Qt K ta ρ (.bool b)):Z9 K (Rc ta) ρ b:=fun H0 F σ H Q S q=>h H0 F σ H _ S fun F1 H1 v x1 r1=>by cases r1;exact⟨b,rfl,q F1 H1 x1⟩
theorem Ji {b:Bool}(h:Qt K ta ρ (.bool b)):Z9 K (tB ta) ρ b:=fun H0 F σ H Q S q=>h H0 F σ H _ S fun F1 H1 v x1 r1=>by cases r1;exact⟨b,rfl,q F1 H1 x1⟩
theorem Rf:Z9 K JK ρ true:=fun H0 F σ H Q S q=>q F H (QA.refl S.sub)
theorem DD {b c:Bool}(h1:Z9 K tA ρ b)(h2:b=true->Z9 K tB' ρ c):Z9 K (Nu tA tB') ρ (b&&c):=fun H0 F σ H Q S q=>h1 H0 F σ H _ S fun F1 H1 x1=>by
 cases b with
 |true=>rw[Xc rfl];exact h2 rfl H0 F1 σ H1 Q (S.ext x1) fun F2 H2 x2=>by simpa using q F2 H2 (x1.trans x2)
 |false=>rw[Xb Xp];simpa using q F1 H1 x1
theorem Du {b c:Bool}(h1:Z9 K tA ρ b)(h2:b=false->Z9 K tB' ρ c):Z9 K (tOr tA tB') ρ (b||c):=fun H0 F σ H Q S q=>h1 H0 F σ H _ S fun F1 H1 x1=>by
 cases b with
 |false=>rw[Xb Xp];exact h2 rfl H0 F1 σ H1 Q (S.ext x1) fun F2 H2 x2=>by simpa using q F2 H2 (x1.trans x2)
 |true=>rw[Xc rfl];simpa using q F1 H1 x1
theorem DE {b c:Bool}(h1:Qt K ta ρ (.bool b))(h2:b=true->Qt K tb ρ (.bool c)):Qt K (NK ta tb) ρ (.bool (b&&c)):=fun H0 F σ H Q S q=>h1 H0 F σ H _ S fun F1 H1 v x1 r1=>by
 cases r1
 refine⟨b,rfl,?_⟩
 cases b with
 |true=>rw[Xc rfl];exact h2 rfl H0 F1 σ H1 Q (S.ext x1) fun F2 H2 v x2 r2=>by simpa using q F2 H2 v (x1.trans x2) (by simpa using r2)
 |false=>rw[Xb Xp];exact q F1 H1 _ x1 (.bl _)
theorem LK {b:Bool}(h1:Qt K ta ρ (.bool b)):Qt K (NP ta) ρ (.bool (!b)):=fun H0 F σ H Q S q=>h1 H0 F σ H _ S fun F1 H1 v x1 r1=>by cases r1;exact⟨b,rfl,q F1 H1 _ x1 (.bl _)⟩
theorem Sl {g g':Int->Int->Bool}{x y z:Int}(ha:Qt K ta ρ (.int x))(hb:Qt K tb ρ (.int y))(hc:Qt K tc ρ (.int z)) :
 Qt K (RB (rI0 fun i j=>.bl (g i j)) (rI0 fun i j=>.bl (g' i j)) ta tb tc) ρ (.bool (g x y&&g' y z)):=fun H0 F σ H Q S q =>
 ha H0 F σ H _ S fun F1 H1 v x1 r1=>hb H0 F1 σ H1 _ (S.ext x1) fun F2 H2 w x2 r2=>by
  cases r1;cases r2
  refine⟨x,y,rfl,rfl,g x y,rfl,?_⟩
  cases e:g x y with
  |true=>rw[Xc rfl];exact hc H0 F2 σ H2 _ (S.ext (x1.trans x2)) fun F3 H3 u x3 r3=>by cases r3;exact⟨y,z,rfl,rfl,by simpa [e] using q F3 H3 _ ((x1.trans x2).trans x3) (by rw[e];exact .bl _)⟩
  |false=>rw[Xb Xp];simpa [e] using q F2 H2 _ (x1.trans x2) (by rw[e];exact .bl _)
theorem QD:ZE K Zm ρ []:=fun H0 F σ H Q S q=>q F H [] (QA.refl S.sub) .nil
theorem Qu {t:TA}{d:PyData}{ts:List OT}(h1:Qt K ta ρ d)(h2:ZE K t ρ ts):ZE K (QZ ta t) ρ (.fz d::ts):=fun H0 F σ H Q S q =>
 h1 H0 F σ H _ S fun F1 H1 v x1 r1=>h2 H0 F1 σ H1 _ (S.ext x1) fun F2 H2 vs x2 r2=>q F2 H2 _ (x1.trans x2) (.fz (r1.mono x2.ff) r2)
theorem NY {t:TA}{i:Nat}{ns:Ql}{ts:List OT}(e:ρ[i]?=some (some (.scr ns)))(h2:ZE K t ρ ts):ZE K (QZ (Zc i) t) ρ (.scr ns::ts):=fun H0 F σ H Q S q=>by
 obtain⟨fp,h,_⟩:=S.fp
 obtain⟨v,e1,_,a,rfl,e3⟩:=h i _ e
 exact⟨_,e1,h2 H0 F σ H _ S fun F2 H2 vs x2 r2=>q F2 H2 _ x2 (.scr (e3.mono x2.ff) r2)⟩
theorem R4 {t:TA}{i:Nat}{Ψ:ZP}{ts:List OT}(e:ρ[i]?=some (some (.zow Ψ)))(h2:ZE K t ρ ts):ZE K (QZ (Zc i) t) ρ (.zow Ψ::ts):=fun H0 F σ H Q S q=>by
 obtain⟨fp,h,_⟩:=S.fp
 obtain⟨v,e1,_,e3⟩:=h i _ e
 exact⟨_,e1,h2 H0 F σ H _ S fun F2 H2 vs x2 r2=>q F2 H2 _ x2 (.zow (Ψ.mono x2.ff e3) r2)⟩
def fzs (ds:Qd):List OT:=ds.map OT.fz
theorem Args.reps {F:Hp}:∀{vs:List V} {ds:Qd},Args K F vs (fzs ds)->Qw F vs ds
 |_,[],.nil=>.nil
 |_,_::_,.fz r t=>.cons r (Args.reps t)
theorem V0 {t:TA}{ds:Qd}(h:ZE K t ρ (fzs ds))(hl:ds.length<=1000):Qt K (Bw t) ρ (.tuple ds):=fun H0 F σ H Q S q =>
 h H0 F σ H _ S fun F1 H1 vs x1 r1=>⟨by rw[r1.reps.length];exact XZ (Vv hl),fun p hp=>by
  have s1:=x1.fh
  exact q _ _ _ (x1.trans (QA.new s1 hp)) (.tup QR (r1.reps.mono (QC.new (s1.free hp))))⟩
theorem UM {F0 H0 F H:Hp}{p:Addr}{xs:List V}{ds:Qd}(x:QA F0 H0 F H)(hp:H p=none)(r:Qw F xs ds):QA F0 H0 F (upd H p (.lst xs))/\(∀a∈[p],H0 a=none)/\Zz K F (upd H p (.lst xs)) (.ref p) (.ol ds) [p] :=
 ⟨x.trans (QA.own x.fh hp),fun a ha=>by
  have e:a=p:=by simpa using ha
  subst e;exact x.hh.free hp,p,rfl,rfl,x.fh.free hp,xs,QR,r⟩
theorem Yy {t:TA}{ds:Qd}(h:ZE K t ρ (fzs ds))(hl:ds.length<=1000):EvO K (Gp t) ρ (.ol ds):=fun H0 F σ H Q S q =>
 h H0 F σ H _ S fun F1 H1 vs x1 r1=>⟨by rw[r1.reps.length];exact XZ (Vv hl),fun p hp=>by
  obtain⟨a,b,c⟩:=UM (K:=K) x1 hp r1.reps
  exact q _ _ _ _ a b c⟩
theorem Jd {F H:Hp}{x:V}{ds:Qd}(r:Rep F x (.list ds))(s:QC F H):∃a xs,x=.ref a/\SqL K H a xs/\Qw F xs ds/\H a=some (.lst xs):=by
 cases r with
 |lst ha rr=>exact⟨_,_,rfl,SqL.of (s _ _ ha),rr,s _ _ ha⟩
theorem WX {F H:Hp}{x:V}{ds:Qd}(r:Rep F x (.tuple ds))(s:QC F H):∃a xs,x=.ref a/\SqT K H a xs/\Qw F xs ds/\H a=some (.tup xs):=by
 cases r with
 |tup ha rr=>exact⟨_,_,rfl,SqT.of (s _ _ ha),rr,s _ _ ha⟩
theorem US {F:Hp}{xs:List V}{ds:Qd}{i:Int}{d:PyData}(r:Qw F xs ds)(e:atI ds i=some d):∃z,atI xs i=some z/\Rep F z d:=by
 obtain⟨j,e1,e2⟩:=RO e
 obtain⟨z,z1,z2⟩:=r.get e1
 refine⟨z,?_,z2⟩
 unfold atI;rw[r.length,e2];exact z1
theorem WO {ds:Qd}{i:Int}{d:PyData}(ha:Qt K ta ρ (.list ds))(hb:Qt K tb ρ (.int i))(e:atI ds i=some d):Qt K (tOp (rIx K) ta tb) ρ d:=fun H0 F σ H Q S q =>
 Y0 ha hb S fun F' H' x y x1 r1 r2=>by
  obtain⟨a,xs,rfl,h1,h2,_⟩:=Jd (K:=K) r1 x1.fh
  obtain⟨z,z1,z2⟩:=US h2 e
  cases r2
  exact .inl ⟨a,xs,i,z,rfl,rfl,h1,z1,q F' H' z x1 z2⟩
theorem Yh {ds:Qd}{i:Int}{d:PyData}(ha:Qt K ta ρ (.tuple ds))(hb:Qt K tb ρ (.int i))(e:atI ds i=some d):Qt K (tOp (rIx K) ta tb) ρ d:=fun H0 F σ H Q S q =>
 Y0 ha hb S fun F' H' x y x1 r1 r2=>by
  obtain⟨a,xs,rfl,h1,h2,_⟩:=WX (K:=K) r1 x1.fh
  obtain⟨z,z1,z2⟩:=US h2 e
  cases r2
  exact .inr (.inl ⟨a,xs,i,z,rfl,rfl,h1,z1,q F' H' z x1 z2⟩)
theorem LN {i:Nat}{ds:Qd}{k:Int}{d:PyData}(e0:ρ[i]?=some (some (.ol ds)))(hb:Qt K tb ρ (.int k))(e:atI ds k=some d):Qt K (tOp (rIx K) (Zc i) tb) ρ d:=fun H0 F σ H Q S q=>by
 obtain⟨fp,h,_⟩:=S.fp
 obtain⟨v,e1,a,rfl,_,o1⟩:=h i _ e0
 refine⟨_,e1,hb H0 F σ H _ S fun F1 H1 y x1 r1=>?_⟩
 obtain⟨f1,xs,f2,f3⟩:=o1.ext x1
 obtain⟨z,z1,z2⟩:=US f3 e
 cases r1
 exact .inl ⟨a,xs,k,z,rfl,rfl,SqL.of f2,z1,q F1 H1 z x1 z2⟩
theorem L0 {i:Nat}{ns:Ql}{k n:Int}(e0:ρ[i]?=some (some (.scr ns)))(hb:Qt K tb ρ (.int k))(e:atI ns k=some n):Qt K (tOp (rIx K) (Zc i) tb) ρ (.int n):=fun H0 F σ H Q S q=>by
 obtain⟨fp,h,_⟩:=S.fp
 obtain⟨v,e1,_,a,rfl,sc⟩:=h i _ e0
 refine⟨_,e1,hb H0 F σ H _ S fun F1 H1 y x1 r1=>?_⟩
 cases r1
 obtain⟨j,j1,j2⟩:=RO e
 have z1:atI (ns.map V.int) k=some (.int n):=by
  unfold atI;rw[Xm,j2];show(ns.map V.int)[j]?=_
  rw[Xk,j1];rfl
 exact .inl ⟨a,_,k,_,rfl,rfl,(x1.ff.trans x1.fh).seq sc.sq,z1,q F1 H1 _ x1 (.int n)⟩
def Q7 (R:List OT->OT->Prop):Sp:=fun vs H Q _=>∃F ts r,KTs K F/\QC F H/\Args K F vs ts/\R ts r/\∀F' H' v p,QA F H F' H'->(∀a∈p,H a=none)->Zz K F' H' v r p->Q v H'
theorem G9 {R:List OT->OT->Prop}{t:TA}{E:XK}{ts:List OT}{r:OT}(h:ZE K t ρ ts)(hR:R ts r):EvO K (Yo (Q7 (K:=K) R) [] E t) ρ r:=fun H0 F σ H Q S q =>
 h H0 F σ H _ S fun F1 H1 vs x1 r1=>by
  refine⟨F1,ts,r,(S.ext x1).kt,x1.fh,by rw[XV];exact r1,hR,fun F2 H2 v p x2 hp ok=>q F2 H2 v p (x1.trans x2) (fun a ha=>x1.hh.free (hp a ha)) ok⟩
theorem Zj {R:List OT->OT->Prop}{t:TA}{E:XK}{ts:List OT}{d:PyData}(h:ZE K t ρ ts)(hR:R ts (.fz d)):Qt K (Yo (Q7 (K:=K) R) [] E t) ρ d:=(G9 h hR).e
theorem Ub {R:List OT->OT->Prop}{t:TA}{E:XK}{ts:List OT}{ds:Qd}(h:ZE K t ρ ts)(hR:R ts (.ol ds)):Qt K (Yo (Q7 (K:=K) R) [] E t) ρ (.list ds):=(G9 h hR).fz
end
theorem Df.ev {P:Program}{w:World}{K:W.Frag}{mg:Str->Qf}{base:Heap}{x:Str}{st:Stmt}{N ps:Qh}{k:Nat}{R:List OT->OT->Prop}(D:Df K mg x st ps)(S:Qp N ps (Q1 st))(len:∀ts r,R ts r->ts.length=ps.length)
 (Xbt:∀(f:Addr) (cdv:Value) (A:Around) (outer:List Env) (s:Shared) (H:Hp) (E:XK) (ts:List OT) (r:OT),Room k (A.deeper (envOfC x (Q1 st) s.heap.objs.size f cdv))->R ts r ->
  ∃t,PSs (VM CX0 P w K mg base N x (Q1 st) f cdv A outer s H E).nox (Z3 st) t/\Q3 K t (ts.map some++List.replicate (N.length-ts.length) none) { nx:=fun _=>r=.fz .none,rt:=fun r'=>r'=r }):Q0 P w K mg base x ps (k+1) (Q7 (K:=K) R):=by
 refine D.cal S (fun vs H Q E ⟨F,ts,r,_,_,ha,hR,_⟩=>ha.length.trans (len ts r hR)) fun f cdv A outer s H vs Q E hr ⟨F,ts,r,kt,sm,ha,hR,q⟩=>?_
 obtain⟨t,h1,h2⟩:=Xbt f cdv A outer s H E ts r hr hR
 refine⟨t,h1,h2 F H F (start N vs) H _ (QA.refl sm) ⟨kt,sm,?_,fun _=>[],fun i t' e=>?_,fun i j a h=>(nomatch h),fun i a h=>(nomatch h)⟩ ⟨fun F' σ' H' ρ' x' _ e=>?_,fun F' H' v r' p x' hp ok e=>?_,fun _ _ _ _ _ _ z=>False.elim z,fun _ _ _ _ _ _ z=>False.elim z⟩⟩
 ·unfold start
  simp[ha.length]
 ·have hlt:i<ts.length:=by
   by_cases z:i<ts.length
   ·exact z
   ·rw[Ut (by simpa using z)]at e
    have:=List.mem_of_getElem? e
    simp at this
  rw[XX (by simpa using hlt),Xk]at e;have e':ts[i]?=some t':=by
   cases z:ts[i]? with
   |none=>rw[z]at e;simp at e
   |some w=>rw[z]at e;simp at e;rw[e]
  obtain⟨v,e1,e2⟩:=ha.get (H:=H) i t' e'
  refine⟨v,?_,e2⟩
  unfold start;have hl2:i<vs.length:=by rw[ha.length];exact hlt
  rw[XX (by simpa using hl2),Xk,e1];rfl
 ·subst e
  exact q F' H' _ [] x' (fun _ z=>nomatch z) ⟨rfl,.non⟩
 ·subst e
  exact q F' H' v p x' hp ok
theorem Lh:∀{as bs:Qg},as.map V.ref=bs.map V.ref->as=bs
 |[],[],_=>rfl
 |[],_::_,h=>by simp at h
 |_::_,[],h=>by simp at h
 |a::as,b::bs,h=>by
   simp only[Xt,List.cons.injEq]at h;obtain⟨h1,h2⟩:=h
   injection h1 with h1
   rw[h1,Lh h2]
theorem AH (x:Int)(ns:Ql):inV (.int x) (ns.map V.int)=decide (x∈ns):=by
 induction ns with
 |nil=>rfl
 |cons b l ih =>
   show(eqV (.int b) (.int x)||inV (.int x) (l.map V.int))=_
   rw[ih];show((b==x)||decide (x∈l))=_
   by_cases hx:x=b
   ·subst hx;simp
   ·have:(b==x)=false:=by rw[beq_eq_false_iff_ne];exact fun z=>hx z.symm
    rw[this];simp[hx]
section
variable {K:W.Frag}{ρ:QG}{ta tb tc te:TE}{tA:TT}{t u:TS}{D:PEnds}
theorem Yj (h:D.nx ρ):Q3 K Ra ρ D:=fun F0 H0 F σ H E x S C=>C.nx F σ H ρ x S h
theorem QI (h:Q3 K t ρ { D with nx:=fun ρ'=>Q3 K u ρ' D }):Q3 K (U2 t u) ρ D:=fun F0 H0 F σ H E x S C =>
 h F0 H0 F σ H { E with nx:=u E } x S ⟨fun F' σ' H' ρ' x' S' q=>q F0 H0 F' σ' H' E x' S' C,C.rt,C.bk,C.ct⟩
theorem G6 (M:QG->Prop)(h:Q3 K t ρ { D with nx:=M })(h2:∀ρ',M ρ'->Q3 K u ρ' D):Q3 K (U2 t u) ρ D:=fun F0 H0 F σ H E x S C =>
 h F0 H0 F σ H { E with nx:=u E } x S ⟨fun F' σ' H' ρ' x' S' q=>h2 ρ' q F0 H0 F' σ' H' E x' S' C,C.rt,C.bk,C.ct⟩
theorem Wx {ρ':QG}(f:Fgt ρ ρ')(h:Q3 K t ρ' D):Q3 K t ρ D:=fun F0 H0 F σ H E x S C=>h F0 H0 F σ H E x (S.fgt f) C
theorem V9 (i:Nat){ds:Qd}(e:ρ[i]?=some (some (.ol ds)))(h:Q3 K t (ρ.set i (some (.fz (.list ds)))) D):Q3 K t ρ D:=fun F0 H0 F σ H E x S C=>by
 obtain⟨a,xs,e1,e2,e3,_,_,S'⟩:=S.freeze e
 exact h F0 H0 _ σ H E (x.freeze e1 e2 e3) S' C
theorem Wf {r:OT}(h:EvO K te ρ r)(hr:D.rt r):Q3 K (UA te) ρ D:=fun F0 H0 F σ H E x S C =>
 h H0 F σ H _ S fun F' H' v p x' hp ok=>C.rt F' H' v r p (x.trans x') (fun a ha=>x.hh.free (hp a ha)) ok hr
theorem ZG {d:PyData}(h:Qt K te ρ d)(hr:D.rt (.fz d)):Q3 K (UA te) ρ D:=Wf h.o hr
theorem GE {i:Nat}{ds:Qd}(e:ρ[i]?=some (some (.ol ds)))(hr:D.rt (.ol ds)):Q3 K (UA (Zc i)) ρ D:=fun F0 H0 F σ H E x S C=>by
 obtain⟨fp,h,_,h5⟩:=S.fp
 obtain⟨v,e1,ok⟩:=h i _ e
 exact⟨v,e1,C.rt F H v _ _ x (fun a ha=>(h5 i a ha).1) ok hr⟩
theorem YW {b:Bool}(h:Z9 K tA ρ b)(h1:b=true->Q3 K t ρ D)(h2:b=false->Q3 K u ρ D):Q3 K (Dh tA t u) ρ D:=fun F0 H0 F σ H E x S C =>
 h H0 F σ H _ S fun F' H' x'=>by
  cases b with
  |true=>rw[Xc rfl];exact h1 rfl F0 H0 F' σ H' E (x.trans x') (S.ext x') C
  |false=>rw[Xb Xp];exact h2 rfl F0 H0 F' σ H' E (x.trans x') (S.ext x') C
theorem VO {i:Nat}{r:OT}(h:EvO K te ρ r)(hn:D.nx (ρ.set i (some r))):Q3 K (Wq te (Ws i)) ρ D:=fun F0 H0 F σ H E x S C =>
 h H0 F σ H _ S fun F' H' v p x' hp ok=>by
  refine C.nx F' _ H' _ (x.trans x') ((S.ext x').set ok (fun a ha=>x.hh.free (hp a ha)) (hn:=fun a ha j w t' q e1 e2 ok'=>?_)) hn
  obtain⟨fp,g1,g2,g3⟩:=S.fp
  obtain⟨w',f1,f2⟩:=g1 j t' e1
  intro hq;have f3:=f2.ext x'
  rw[e2]at f1;cases f1
  have same:∀b∈q,b∈fp j:=by
   cases t' with
   |fz d=>rw[ok'.1];intro b hb;cases hb
   |zow Ψ=>rw[ok'.1];intro b hb;cases hb
   |ol ds =>
     obtain⟨b1,z1,z2,z3⟩:=ok'
     obtain⟨b2,y1,y2,y3⟩:=f3
     rw[z1]at y1;cases y1
     rw[z2,y2];exact fun _ z=>z
   |oll dss =>
     obtain⟨b1,bs1,z1,z2,z3,z4,z5,z6⟩:=ok'
     obtain⟨b2,bs2,y1,y2,y3,y4,y5,y6⟩:=f3
     rw[z1]at y1;cases y1
     rw[z5]at y5;have e5:bs1.map V.ref=bs2.map V.ref:=by injection y5 with z;injection z
     have e6:bs1=bs2:=Lh e5
     rw[z2,y2,e6];exact fun _ z=>z
   |scr ns=>rw[ok'.1];intro b hb;cases hb
   |own v0 Φ=>exact fun b hb=>Φ.uniq f3.2 ok'.2 b hb
  exact(g3 j a (same a hq)).2 (hp a ha)
theorem ZU {i:Nat}{d:PyData}(h:Qt K te ρ d)(hn:D.nx (ρ.set i (some (.fz d)))):Q3 K (Wq te (Ws i)) ρ D:=VO h.o hn
theorem Zw {i:Nat}{d:PyData}:GTo K (Ws i) d ρ (ρ.set i (some (.fz d))):=fun H0 F σ H x Q S r q=>q _ (S.setF r)
theorem WN:Bx K Di [] ρ ρ:=fun H0 F σ H xs Q S r q=>by cases r;exact⟨rfl,q _ S⟩
theorem Vr {g:TG}{gs:TGs}{d:PyData}{ds:Qd}{ρ1 ρ2:QG}(h1:GTo K g d ρ ρ1)(h2:Bx K gs ds ρ1 ρ2):Bx K (D4 g gs) (d::ds) ρ ρ2:=fun H0 F σ H xs Q S r q=>by
 cases r with
 |cons r1 r2=>exact⟨_,_,rfl,h1 H0 F σ H _ _ S r1 fun σ1 S1=>h2 H0 F σ1 H _ _ S1 r2 q⟩
theorem Wr {n:Nat}{gs:TGs}{ds:Qd}{ρ1:QG}(h:Bx K gs ds ρ ρ1)(hn:ds.length=n):GTo K (MV K n gs) (.tuple ds) ρ ρ1:=fun H0 F σ H x Q S r q=>by
 obtain⟨a,xs,rfl,h1,h2,_⟩:=WX (K:=K) r S.sub
 exact⟨a,xs,rfl,h1,by rw[h2.length,hn],h H0 F σ H xs Q S h2 q⟩
theorem DA {g:TG}{d:PyData}{ρ':QG}(h:Qt K te ρ d)(hg:GTo K g d ρ ρ')(hn:D.nx ρ'):Q3 K (Wq te g) ρ D:=fun F0 H0 F σ H E x S C =>
 h H0 F σ H _ S fun F' H' v x' r=>hg H0 F' σ H' v _ (S.ext x') r fun σ' S'=>C.nx F' σ' H' ρ' (x.trans x') S' hn
theorem QA.wr {F0 H0 F H:Hp}{a:Addr}{o:HO}(x:QA F0 H0 F H)(h0:H0 a=none)(hf:F a=none):QA F0 H0 F (upd H a o) :=
 ⟨x.hh.upd h0,x.ff,x.fh.upd hf,x.fr⟩
theorem GP {i:Nat}{ds:Qd}{d:PyData}(e:ρ[i]?=some (some (.ol ds)))(h:Qt K te ρ d)(hl:ds.length<1000)(hn:D.nx (ρ.set i (some (.ol (ds++[d]))))) :
 Q3 K (Wa (tBM K "list" UK (Zc i) (QZ te Zm))) ρ D:=fun F0 H0 F σ H E x S C=>by
 obtain⟨a,xs,e1,e2,e3,_⟩:=S.write e
 refine⟨_,e1,.inl ⟨rfl,_,SqL.of e2⟩,h H0 F σ H _ S fun F1 H1 v x1 r1=>?_⟩
 obtain⟨a',xs',f1,f2,f3,f4,f5,f6⟩:=(S.ext x1).write e
 rw[e1]at f1;cases f1
 refine⟨a,xs',v,rfl,rfl,f2,by rw[f3.length];exact Vv (by omega),?_⟩
 exact C.nx F1 σ _ _ ((x.trans x1).wr f4 f5) (f6 _ _ (f3.snoc r1)) hn
theorem Sf {i:Nat}{ds:Qd}{d:PyData}{k:Int}{j:Nat}(e:ρ[i]?=some (some (.ol ds)))(h:Qt K te ρ d)(hi:Qt K tb ρ (.int k))(hj:ixN ds.length k=some j)(hn:D.nx (ρ.set i (some (.ol (ds.set j d))))) :
 Q3 K (Wq te (N9 (Zc i) tb B3)) ρ D:=fun F0 H0 F σ H E x S C =>
 h H0 F σ H _ S fun F1 H1 v x1 r1=>by
  obtain⟨a,xs,e1,e2,e3,_⟩:=(S.ext x1).write e
  refine⟨_,e1,hi H0 F1 σ H1 _ (S.ext x1) fun F2 H2 y x2 r2=>?_⟩
  obtain⟨a',xs',f1,f2,f3,f4,f5,f6⟩:=(S.ext (x1.trans x2)).write e
  rw[e1]at f1;cases f1
  cases r2
  refine⟨a,xs',k,j,rfl,rfl,f2,by rw[f3.length];exact hj,?_⟩
  exact C.nx F2 σ _ _ ((x.trans (x1.trans x2)).wr f4 f5) (f6 _ _ (f3.set (r1.mono x2.ff) j)) hn
theorem SQ {f:Int->Int->Int}{i:Nat}{ds:Qd}{k m n:Int}(e:ρ[i]?=some (some (.ol ds)))(hi:Qt K tb ρ (.int k))(h0:0<=k)(hm:ds[k.toNat]?=some (.int m))(h:Qt K te ρ (.int n))
 (hn:D.nx (ρ.set i (some (.ol (ds.set k.toNat (.int (f m n))))))):Q3 K (Dx (Zc i) tb te (D3 K) (ipI f) B3) ρ D:=fun F0 H0 F σ H E x S C=>by
 obtain⟨a,xs,e1,e2,e3,_⟩:=S.write e
 refine⟨_,e1,hi H0 F σ H _ S fun F1 H1 y x1 r1=>?_⟩
 cases r1
 obtain⟨a1,xs1,f1,f2,f3,_⟩:=(S.ext x1).write e
 rw[e1]at f1;cases f1
 obtain⟨z,z1,z2⟩:=f3.get hm
 refine⟨a,xs1,k,z,rfl,rfl,SqL.of f2,h0,z1,h H0 F1 σ H1 _ (S.ext x1) fun F2 H2 w x2 r2=>?_⟩
 cases r2
 cases z2
 refine⟨m,n,rfl,rfl,?_⟩
 obtain⟨a2,xs2,g1,g2,g3,g4,g5,g6⟩:=(S.ext (x1.trans x2)).write e
 rw[e1]at g1;cases g1
 have hlt:k.toNat<ds.length:=(Xh.mp hm).1
 refine⟨a,xs2,k,k.toNat,rfl,rfl,g2,?_,?_⟩
 ·rw[g3.length]
  unfold ixN;rw[Xc h0,Xc (by omega)]
 ·exact C.nx F2 σ _ _ ((x.trans (x1.trans x2)).wr g4 g5) (g6 _ _ (g3.set (.int _) _)) hn
theorem QA.base {F0 H0 F H:Hp}(x:QA F0 H0 F H):QA F H0 F H:=⟨x.hh,QC.refl _,x.fh,fun _ h=>.inl h⟩
theorem QA.rebase {F0 H0 F H F' H':Hp}(x:QA F0 H0 F H)(y:QA F H0 F' H'):QA F0 H0 F' H' :=
 ⟨y.hh,x.ff.trans y.ff,y.fh,fun a h=>(y.fr a h).elim (fun z=>x.fr a z) .inr⟩
theorem Ju {wi:TI}{g:TG}{tbd:TS}{ds:Qd}(P:Nat->QG->Prop)(hi:EvI K wi ρ ds)(h0:P 0 ρ)
 (hs:∀(i:Nat) (d:PyData) (ρ':QG),ds[i]?=some d->P i ρ'->∃ρ2,GTo K g d ρ' ρ2/\Q3 K tbd ρ2 { nx:=P (i+1),ct:=P (i+1),bk:=D.nx,rt:=D.rt }) (hd:∀ρ',P ds.length ρ'->D.nx ρ'):Q3 K (MZ wi g tbd) ρ D:=fun F0 H0 F σ H E x S C =>
 hi H0 F σ H _ S fun F1 H1 J x1 W=>by
  refine⟨fun i m σ H=>m=ds.length-i/\i<=ds.length/\∃F ρ',QA F0 H0 F H/\QC F1 F/\QT K H0 F ρ' σ H/\P i ρ',⟨ds.length,by simp,Vl _,F1,ρ,x.trans x1,QC.refl _,S.ext x1,h0⟩,?_⟩
  rintro i m σ' H' ⟨rfl,hle,F',ρ',x',s',S',p⟩
  obtain⟨w1,w2⟩:=W F' H' s' S'.sub
  by_cases hlt:i<ds.length
  ·have e:ds[i]?=some ds[i]:=by simp[hlt]
   obtain⟨go,yl⟩:=w2 i _ e
   refine .inr ⟨go,fun σ2 H2=>∃F2 ρ2,QA F0 H0 F2 H2/\QC F1 F2/\QT K H0 F2 ρ2 σ2 H2/\P (i+1) ρ2,fun σ2 H2 q=>⟨ds.length-(i+1),by omega,rfl,hlt,q⟩,fun v H3 y=>?_⟩
   obtain⟨F3,x3,r3⟩:=yl v H3 y
   obtain⟨ρ2,hg,hb⟩:=hs i _ ρ' e p
   refine hg H0 F3 σ' H3 v _ (S'.ext x3) r3 fun σ2 S2=>?_
   have big:QA F0 H0 F3 H3:=x'.trans x3
   have s13:=s'.trans x3.ff
   exact hb F3 H0 F3 σ2 H3 _ big.base S2 ⟨fun F4 σ4 H4 ρ4 x4 S4 q4=>⟨F4,ρ4,big.rebase x4,s13.trans x4.ff,S4,q4⟩,fun F4 H4 v4 r4 p4 x4=>C.rt F4 H4 v4 r4 p4 (big.rebase x4),
    fun F4 σ4 H4 ρ4 x4=>C.nx F4 σ4 H4 ρ4 (big.rebase x4),fun F4 σ4 H4 ρ4 x4 S4 q4=>⟨F4,ρ4,big.rebase x4,s13.trans x4.ff,S4,q4⟩⟩
  ·have e:i=ds.length:=by omega
   subst e;exact .inl ⟨w1,C.nx F' σ' H' ρ' x' S' (hd ρ' p)⟩
theorem Wj {wi:TI}{g:TG}{tbd:TS}{ds:Qd}(R:Nat->QG)(hi:EvI K wi ρ ds)(h0:Fgt ρ (R 0))
 (hs:∀(i:Nat) (d:PyData),ds[i]?=some d->∃ρ2,GTo K g d (R i) ρ2/\Q3 K tbd ρ2 { nx:=fun ρ'=>Fgt ρ' (R (i+1)),ct:=fun ρ'=>Fgt ρ' (R (i+1)),bk:=D.nx,rt:=D.rt }) (hd:∀ρ',Fgt ρ' (R ds.length)->D.nx ρ'):Q3 K (MZ wi g tbd) ρ D:=by
 refine Ju (fun i ρ'=>Fgt ρ' (R i)) hi h0 (fun i d ρ' e f=>?_) hd
 obtain⟨ρ2,h1,h2⟩:=hs i d e
 exact⟨ρ2,fun H0 F σ H x Q S r q=>h1 H0 F σ H x Q (S.fgt f) r q,h2⟩
theorem Ud {c:TT}{tbd:TS}(P:Nat->QG->Prop)(m0:Nat)(h0:P m0 ρ)
 (hs:∀(m:Nat) (ρ':QG),P m ρ'->∃b,Z9 K c ρ' b/\(b=true->Q3 K tbd ρ' { nx:=fun ρ2=>∃m',m'<m/\P m' ρ2,ct:=fun ρ2=>∃m',m'<m/\P m' ρ2,bk:=D.nx,rt:=D.rt })/\(b=false->D.nx ρ')):Q3 K (RX c tbd) ρ D:=fun F0 H0 F σ H E x S C=>by
 refine⟨fun m σ H=>∃F ρ',QA F0 H0 F H/\QT K H0 F ρ' σ H/\P m ρ',⟨m0,F,ρ,x,S,h0⟩,?_⟩
 rintro m σ' H' ⟨F',ρ',x',S',p⟩
 obtain⟨b,h1,h2,h3⟩:=hs m ρ' p
 refine h1 H0 F' σ' H' _ S' fun F1 H1 x1=>?_
 have X1:=x'.trans x1
 have S1:=S'.ext x1
 cases b with
 |false=>rw[Xb Xp];exact C.nx F1 σ' H1 ρ' X1 S1 (h3 rfl)
 |true =>
   rw[Xc rfl];refine⟨fun σ2 H2=>∃m',m'<m/\∃F2 ρ2,QA F0 H0 F2 H2/\QT K H0 F2 ρ2 σ2 H2/\P m' ρ2,fun σ2 H2 h=>h,?_⟩
   have go:∀F4 σ4 H4 ρ4,QA F0 H0 F4 H4->QT K H0 F4 ρ4 σ4 H4->(∃m',m'<m/\P m' ρ4)->∃m',m'<m/\∃F2 ρ2,QA F0 H0 F2 H4/\QT K H0 F2 ρ2 σ4 H4/\P m' ρ2:=fun F4 σ4 H4 ρ4 x4 S4 ⟨m',q1,q2⟩=>⟨m',q1,F4,ρ4,x4,S4,q2⟩
   exact h2 rfl F0 H0 F1 σ' H1 _ X1 S1 ⟨go,C.rt,C.nx,go⟩
theorem VQ {ds:Qd}(h:Qt K ta ρ (.list ds)):EvI K (NR K ta) ρ ds:=fun H0 F σ H R S q =>
 h H0 F σ H _ S fun F1 H1 v x1 r1=>by
  obtain⟨a,xs,rfl,h1,h2,h3⟩:=Jd (K:=K) r1 x1.fh
  have hF:F1 a=some (.lst xs):=by
   cases r1 with
   |lst ha rr =>
     have:=x1.fh _ _ ha
     rw[h3]at this;cases this
     exact ha
  refine⟨a,rfl,⟨xs,h1⟩,q F1 H1 _ x1 fun F2 H2 s2 s3=>?_⟩
  have hq:SqL K H2 a xs:=SqL.of (s3 _ _ (s2 _ _ hF))
  refine⟨⟨xs,hq,by rw[h2.length];exact Xs _⟩,fun i d e=>?_⟩
  obtain⟨z,z1,z2⟩:=h2.get e
  refine⟨⟨xs,z,hq,z1⟩,fun y H3 hy=>?_⟩
  obtain⟨rfl,hy⟩:=hy
  have e2:=hy xs hq
  rw[z1]at e2;cases e2
  exact⟨F2,QA.refl s3,z2.mono s2⟩
theorem D9 {ds:Qd}(h:Qt K ta ρ (.tuple ds)):EvI K (N4 K ta) ρ ds:=fun H0 F σ H R S q =>
 h H0 F σ H _ S fun F1 H1 v x1 r1=>by
  obtain⟨a,xs,rfl,h1,h2,h3⟩:=WX (K:=K) r1 x1.fh
  have hF:F1 a=some (.tup xs):=by
   cases r1 with
   |tup ha rr =>
     have:=x1.fh _ _ ha
     rw[h3]at this;cases this
     exact ha
  refine⟨a,rfl,⟨xs,h1⟩,q F1 H1 _ x1 fun F2 H2 s2 s3=>?_⟩
  have hq:SqT K H2 a xs:=SqT.of (s3 _ _ (s2 _ _ hF))
  refine⟨⟨xs,hq,by rw[h2.length];exact Xs _⟩,fun i d e=>?_⟩
  obtain⟨z,z1,z2⟩:=h2.get e
  refine⟨⟨xs,z,hq,z1⟩,fun y H3 hy=>?_⟩
  obtain⟨rfl,hy⟩:=hy
  have e2:=hy xs hq
  rw[z1]at e2;cases e2
  exact⟨F2,QA.refl s3,z2.mono s2⟩
def ZY (lo:Int)(n:Nat):Qd:=(List.range n).map fun(i:Nat)=>PyData.int (lo+(i:Int))
theorem WZ {lo:Int}{n i:Nat}{d:PyData}(e:(ZY lo n)[i]?=some d):i<n/\d=.int (lo+(i:Int)):=by
 unfold ZY at e;rw[Xk]at e;by_cases h:i<n
 ·simp[h]at e;exact⟨h,e.symm⟩
 ·simp[h]at e
theorem Ja {lo:Int}{n:Nat}:(ZY lo n).length=n:=by simp[ZY]
theorem PJ {F:Hp}{lo:Int}{n:Nat}:RK F (Itr lo n) (ZY lo n):=fun F2 H2 s2 s3=>by
 refine⟨by show n<=_;rw[Ja];exact Xs _,fun i d e=>?_⟩
 obtain⟨h1,rfl⟩:=WZ e
 refine⟨h1,fun x H3 hy=>?_⟩
 obtain⟨rfl,rfl⟩:=hy
 exact⟨F2,QA.refl s3,.int _⟩
theorem WT {t:TA}{n:Int}(h:ZE K t ρ [.fz (.int n)])(h1 : -(2^62)<=n)(h2:n<2^62):EvI K (NU t) ρ (ZY 0 n.toNat):=fun H0 F σ H R S q =>
 h H0 F σ H _ S fun F1 H1 vs x1 r1=>by
  cases r1 with
  |fz r r1=>cases r1;cases r;exact⟨n,rfl,h1,h2,q F1 H1 _ x1 PJ⟩
theorem S0 {t:TA}{m n:Int}(h:ZE K t ρ [.fz (.int m),.fz (.int n)])(h1 : -(2^62)<=m/\m<2^62 /\ -(2^62)<=n/\n<2^62):EvI K (NV t) ρ (ZY m (n-m).toNat):=fun H0 F σ H R S q =>
 h H0 F σ H _ S fun F1 H1 vs x1 r1=>by
  cases r1 with
  |fz r r1 =>
    cases r1 with
    |fz r' r1=>cases r1;cases r;cases r';exact⟨m,n,rfl,h1,q F1 H1 _ x1 PJ⟩
def U1 (hi:Int)(n:Nat):Qd:=(List.range n).map fun(i:Nat)=>PyData.int (hi-(i:Int))
theorem P5 {hi:Int}{n i:Nat}{d:PyData}(e:(U1 hi n)[i]?=some d):i<n/\d=.int (hi-(i:Int)):=by
 unfold U1 at e;rw[Xk]at e;by_cases h:i<n
 ·simp[h]at e;exact⟨h,e.symm⟩
 ·simp[h]at e
theorem Px {hi:Int}{n:Nat}:(U1 hi n).length=n:=by simp[U1]
theorem C3 {t:TA}{m n:Int}(h:ZE K t ρ [.fz (.int m),.fz (.int n),.fz (.int (-1))])(h1 : -(2^62)<=m/\m<2^62 /\ -(2^62)<=n/\n<2^62):EvI K (Rb t) ρ (U1 m (m-n).toNat):=fun H0 F σ H R S q =>
 h H0 F σ H _ S fun F1 H1 vs x1 r1=>by
  cases r1 with
  |fz r r1 =>
    cases r1 with
    |fz r' r1 =>
      cases r1 with
      |fz r2 r1 =>
        cases r1;cases r;cases r';cases r2
        refine⟨m,n,rfl,h1,q F1 H1 _ x1 fun F2 H2 s2 s3=>⟨by show _<=_;rw[Px];exact Xs _,fun i d e=>?_⟩⟩
        obtain⟨h1,rfl⟩:=P5 e
        refine⟨h1,fun x H3 hy=>?_⟩
        obtain⟨rfl,rfl⟩:=hy
        exact⟨F2,QA.refl s3,.int _⟩
def Wz:Option OT->Option OT
 |some (.fz d)=>some (.fz d)
 |some (.scr ns)=>some (.scr ns)
 |some (.zow Ψ)=>some (.zow Ψ)
 |_=>none
def Jn (f:List (Option Nat))(ρ:QG):QG:=f.map fun o=>match o with|some i=>Wz (ρ[i]?).join|none=>none
theorem QT.inner {H0 F H:Hp}{σ:St}(f:List (Option Nat))(S:QT K H0 F ρ σ H):QT K H0 F (Jn f ρ) (Yl f σ) H:=by
 obtain⟨kt,h1,h2,fp,h3,h4,h5⟩:=S
 refine⟨kt,h1,by simp[Jn,Yl],fun _=>[],fun i t e=>?_,fun i j a h=>(nomatch h),fun i a h=>(nomatch h)⟩
 unfold Jn at e;rw[Xk]at e;cases z:f[i]? with
 |none=>rw[z]at e;simp at e
 |some o =>
   rw[z]at e;simp only[XS,Option.some.injEq]at e;cases o with
   |none=>cases e
   |some k =>
     simp only at e
     have e':ρ[k]?=some (some t)/\((∃d,t=.fz d)\/(∃ns,t=.scr ns)\/∃Ψ,t=.zow Ψ):=by
      cases y:ρ[k]? with
      |none=>rw[y]at e;simp[Wz]at e
      |some w =>
        rw[y]at e;simp only[Option.join_some]at e;cases w with
        |none=>simp[Wz]at e
        |some w =>
          cases w with
          |fz d=>simp[Wz]at e;subst e;exact⟨rfl,.inl ⟨_,rfl⟩⟩
          |scr ns=>simp[Wz]at e;subst e;exact⟨rfl,.inr (.inl ⟨_,rfl⟩)⟩
          |zow Ψ=>simp[Wz]at e;subst e;exact⟨rfl,.inr (.inr ⟨_,rfl⟩)⟩
          |ol ds=>simp[Wz]at e
          |oll ds=>simp[Wz]at e
          |own v0 Φ=>simp[Wz]at e
     obtain⟨v,e1,e2⟩:=h3 k t e'.1
     refine⟨v,?_,?_⟩
     ·unfold Yl
      rw[Xk,z];simp[e1]
     ·rcases e'.2 with ⟨d,rfl⟩|⟨ns,rfl⟩|⟨Ψ,rfl⟩
      ·exact⟨rfl,e2.2⟩
      ·exact⟨rfl,e2.2⟩
      ·exact⟨rfl,e2.2⟩
theorem G7 {α:Type}{f:List (Option Nat)}{wi:TI}{g:CIn->TG}{tcc:CIn->TT}{tee:CIn->TE}{xs:List α}{enc h:α->PyData}{p:α->Bool}(hi:EvI K wi ρ (xs.map enc))(hl:xs.length<=1000)
 (hs:∀x∈xs,∀c,∃ρ2,GTo K (g c) (enc x) (Jn f ρ) ρ2/\Z9 K (tcc c) ρ2 (p x)/\(p x=true->Qt K (tee c) ρ2 (h x))):EvO K (tLC f wi g tcc tee) ρ (.ol ((xs.filter p).map h)):=fun H0 F σ H Q S q =>
 hi H0 F σ H _ S fun F1 H1 J x1 W c=>by
  have hn:xs.length<=sizeLine:=XZ (Vv hl)
  refine⟨fun i m ys H=>m=xs.length-i/\i<=xs.length/\∃F',QA F1 H1 F' H/\Qw F' ys (((xs.take i).filter p).map h),⟨xs.length,by simp,Vl _,F1,QA.refl x1.fh,.nil⟩,?_⟩
  rintro i m ys H' ⟨rfl,hle,F',x',r'⟩
  obtain⟨w1,w2⟩:=W F' H' x'.ff x'.fh
  by_cases hlt:i<xs.length
  ·have e:(xs.map enc)[i]?=some (enc xs[i]):=by simp[hlt]
   obtain⟨go,yl⟩:=w2 i _ e
   refine .inr ⟨go,fun v H3 y=>?_⟩
   obtain⟨F3,x3,r3⟩:=yl v H3 y
   obtain⟨ρ2,k1,k2,k3⟩:=hs xs[i] (XL hlt) c
   have S3:=(S.ext (x1.trans (x'.trans x3))).inner f
   have tk:xs.take (i+1)=xs.take i++[xs[i]]:=by rw[WB];simp[hlt]
   have ly:=r'.length
   have ly2:ys.length<=i:=by
    rw[ly,Xm];refine XN (List.length_filter_le _ _) ?_
    rw[Ux];omega
   refine k1 H0 F3 _ H3 v _ S3 r3 fun σ2 S4=>k2 H0 F3 σ2 H3 _ S4 fun F4 H4 x4=>?_
   cases ep:p xs[i] with
   |true =>
     rw[Xc rfl];refine k3 ep H0 F4 σ2 H4 _ (S4.ext x4) fun F5 H5 z x5 r5=>⟨by omega,xs.length-(i+1),by omega,rfl,hlt,F5,x'.trans (x3.trans (x4.trans x5)),?_⟩
     rw[tk,Bo,Xy];simp only[J7,ep,if_true,List.filter_nil,Xt,JD];exact(r'.mono (x3.trans (x4.trans x5)).ff).snoc r5
   |false =>
     rw[Xb Xp];refine⟨xs.length-(i+1),by omega,rfl,hlt,F4,x'.trans (x3.trans x4),?_⟩
     rw[tk,Bo,Xy];simp only[J7,ep,List.filter_nil,JD,XV,X8,if_false];exact r'.mono (x3.trans x4).ff
  ·have e:i=xs.length:=by omega
   subst e;refine .inl ⟨by simpa using w1,fun a ha=>?_⟩
   rw[Wn]at r';obtain⟨z1,z2,z3⟩:=UM (K:=K) (x1.trans x') ha r'
   exact q _ _ _ _ z1 z2 z3
theorem V8 {α:Type}{f:List (Option Nat)}{wi:TI}{g:CIn->TG}{tee:CIn->TE}{xs:List α}{enc h:α->PyData}(hi:EvI K wi ρ (xs.map enc))(hl:xs.length<=1000)
 (hs:∀x∈xs,∀c,∃ρ2,GTo K (g c) (enc x) (Jn f ρ) ρ2/\Qt K (tee c) ρ2 (h x)):EvO K (tLC f wi g (fun _=>JK) tee) ρ (.ol (xs.map h)):=by
 have:=G7 (K:=K) (ρ:=ρ) (f:=f) (wi:=wi) (g:=g) (tcc:=fun _=>JK) (tee:=tee) (xs:=xs) (enc:=enc) (h:=h) (p:=fun _=>true) hi hl fun x hx c=>by
  obtain⟨ρ2,h1,h2⟩:=hs x hx c
  exact⟨ρ2,h1,Rf,fun _=>h2⟩
 have e:xs.filter (fun _=>true)=xs:=List.filter_eq_self.mpr fun _ _=>rfl
 rw[e]at this;exact this
def Dr:List V->Hp->VK->Prop:=fun xs H Q=>∃i,xs=[.int i]/\Q (.int (if i<0 then -i else i)) H
def Dy:List V->Hp->VK->Prop:=fun xs H Q=>∃i j,xs=[.int i,.int j]/\Q (.int (if j > i then j else i)) H
def Dv:List V->Hp->VK->Prop:=fun xs H Q=>∃i j,xs=[.int i,.int j]/\Q (.int (if j<i then j else i)) H
def Nx:List V->Hp->VK->Prop:=fun xs H Q=>∃x T c b,xs=[x,.ty c]/\TyN H x T/\YV T c=some b/\Q (.bl b) H
def U8 (K:W.Frag):List V->Hp->VK->Prop:=fun xs H Q=>∃p ys,xs=[.ref p]/\(SqL K H p ys\/SqT K H p ys)/\Q (.int ys.length) H
def Hl (K:W.Frag):List V->Hp->VK->Prop:=fun xs H Q=>∃p ys,xs=[.ref p]/\(SqL K H p ys\/SqT K H p ys)/\∀l,H l=none->Q (.ref l) (upd H l (.lst ys))
def DT (K:W.Frag):List V->Hp->VK->Prop:=fun xs H Q=>∃p ys,xs=[.ref p]/\((SqL K H p ys/\∀l,H l=none->Q (.ref l) (upd H l (.tup ys)))\/(SqT K H p ys/\Q (.ref p) H))
def MX (X:Cx):List V->Hp->VK->Prop:=fun xs H Q=>X.calm=true/\∃(x:V) (ns:Ql),xs=[x]/\Rep H x (.list (ns.map PyData.int))/\Q (.int ns.sum) H
def NI:V->List V->Hp->VK->Prop:=fun x xs H Q=>∃i,x=.int i/\xs=[]/\Q (.int (Builtin.Int.intBits i)) H
theorem BK {X:Cx}:Vn X (.builtin "abs") Dr:=AR
theorem RI {X:Cx} (h:X.calm=true):Vn X (.builtin "max") Dy:=Iz h
theorem DG {X:Cx} (h:X.calm=true):Vn X (.builtin "min") Dv:=Os h
theorem Sb {X:Cx}:Vn X (.builtin "isinstance") Nx:=AI
theorem Yx {X:Cx}:Vn X (.builtin "len") (U8 X.K):=Zji
theorem Ho {X:Cx}:Vn X (.type "list") (Hl X.K):=ZiS
theorem UT {X:Cx}:Vn X (.type "tuple") (DT X.K):=Zin
theorem GA {X:Cx}:Vn X (.builtin "sum") (MX X):=Oj
theorem Ae {X:Cx}:MtR X "int.bit_length" NI:=Ac
theorem FQ {x:Int}(h:Qt K ta ρ (.int x)):Qt K (tCB Dr (QZ ta Zm)) ρ (.int (if x<0 then -x else x)):=fun H0 F σ H Q S q =>
 h H0 F σ H _ S fun F1 H1 v x1 r1=>by cases r1;exact⟨x,rfl,q F1 H1 _ x1 (.int _)⟩
theorem Rz {x y:Int}{r:List V->Hp->VK->Prop}{H0 F H:Hp}{σ:St}{Q:VK}(ha:Qt K ta ρ (.int x))(hb:Qt K tb ρ (.int y))(S:QT K H0 F ρ σ H)(h:∀F' H',QA F H F' H'->r [.int x,.int y] H' Q):tCB r (QZ ta (QZ tb Zm)) σ H Q :=
 ha H0 F σ H _ S fun F1 H1 v x1 r1=>hb H0 F1 σ H1 _ (S.ext x1) fun F2 H2 w x2 r2=>by cases r1;cases r2;exact h F2 H2 (x1.trans x2)
theorem LX {x y:Int}(ha:Qt K ta ρ (.int x))(hb:Qt K tb ρ (.int y)):Qt K (tCB Dy (QZ ta (QZ tb Zm))) ρ (.int (if y > x then y else x)):=fun H0 F σ H Q S q =>
 Rz ha hb S fun F' H' e=>⟨x,y,rfl,q F' H' _ e (.int _)⟩
theorem LS {x y:Int}(ha:Qt K ta ρ (.int x))(hb:Qt K tb ρ (.int y)):Qt K (tCB Dv (QZ ta (QZ tb Zm))) ρ (.int (if y<x then y else x)):=fun H0 F σ H Q S q =>
 Rz ha hb S fun F' H' e=>⟨x,y,rfl,q F' H' _ e (.int _)⟩
theorem LL {a:PyData}{c:String}{b:Bool}(h:Qt K ta ρ a)(hb:YV (tyD a) c=some b):Qt K (tCB Nx (QZ ta (QZ (tC (.ty c)) Zm))) ρ (.bool b):=fun H0 F σ H Q S q =>
 h H0 F σ H _ S fun F1 H1 v x1 r1=>⟨v,_,c,b,rfl,(r1.mono x1.fh).ty,hb,q F1 H1 _ x1 (.bl _)⟩
theorem Ua {ds:Qd}(h:Qt K ta ρ (.list ds)):Qt K (tCB (U8 K) (QZ ta Zm)) ρ (.int (ds.length:Int)):=fun H0 F σ H Q S q =>
 h H0 F σ H _ S fun F1 H1 v x1 r1=>by
  obtain⟨a,xs,rfl,h1,h2,_⟩:=Jd (K:=K) r1 x1.fh
  exact⟨a,xs,rfl,.inl h1,by rw[h2.length];exact q F1 H1 _ x1 (.int _)⟩
theorem L1 {ds:Qd}(h:Qt K ta ρ (.tuple ds)):Qt K (tCB (U8 K) (QZ ta Zm)) ρ (.int (ds.length:Int)):=fun H0 F σ H Q S q =>
 h H0 F σ H _ S fun F1 H1 v x1 r1=>by
  obtain⟨a,xs,rfl,h1,h2,_⟩:=WX (K:=K) r1 x1.fh
  exact⟨a,xs,rfl,.inr h1,by rw[h2.length];exact q F1 H1 _ x1 (.int _)⟩
theorem Fi {i:Nat}{ns:Ql}(e0:ρ[i]?=some (some (.scr ns))):Qt K (tCB (U8 K) (QZ (Zc i) Zm)) ρ (.int (ns.length:Int)):=fun H0 F σ H Q S q=>by
 obtain⟨fp,h,_⟩:=S.fp
 obtain⟨v,e1,_,a,rfl,sc⟩:=h i _ e0
 exact⟨_,e1,a,ns.map V.int,rfl,.inl (S.sub.seq sc.sq),by rw[Xm];exact q F H _ (QA.refl S.sub) (.int _)⟩
theorem Rq {i:Nat}{ds:Qd}(e0:ρ[i]?=some (some (.ol ds))):Qt K (tCB (U8 K) (QZ (Zc i) Zm)) ρ (.int (ds.length:Int)):=fun H0 F σ H Q S q=>by
 obtain⟨fp,h,_⟩:=S.fp
 obtain⟨v,e1,a,rfl,_,_,xs,o2,o3⟩:=h i _ e0
 exact⟨_,e1,a,xs,rfl,.inl (SqL.of o2),by rw[o3.length];exact q F H _ (QA.refl S.sub) (.int _)⟩
theorem Hd {ds:Qd}(h:Qt K ta ρ (.list ds)):EvO K (tCB (Hl K) (QZ ta Zm)) ρ (.ol ds):=fun H0 F σ H Q S q =>
 h H0 F σ H _ S fun F1 H1 v x1 r1=>by
  obtain⟨a,xs,rfl,h1,h2,_⟩:=Jd (K:=K) r1 x1.fh
  refine⟨a,xs,rfl,.inl h1,fun p hp=>?_⟩
  obtain⟨z1,z2,z3⟩:=UM (K:=K) x1 hp h2
  exact q _ _ _ _ z1 z2 z3
theorem G8 {ds:Qd}(h:Qt K ta ρ (.list ds)):Qt K (tCB (DT K) (QZ ta Zm)) ρ (.tuple ds):=fun H0 F σ H Q S q =>
 h H0 F σ H _ S fun F1 H1 v x1 r1=>by
  obtain⟨a,xs,rfl,h1,h2,_⟩:=Jd (K:=K) r1 x1.fh
  refine⟨a,xs,rfl,.inl ⟨h1,fun p hp=>?_⟩⟩
  have s1:=x1.fh
  exact q _ _ _ (x1.trans (QA.new s1 hp)) (.tup QR (h2.mono (QC.new (s1.free hp))))
theorem Ff {i:Nat}{ds:Qd}(e0:ρ[i]?=some (some (.ol ds))):Qt K (tCB (DT K) (QZ (Zc i) Zm)) ρ (.tuple ds):=fun H0 F σ H Q S q=>by
 obtain⟨fp,h,_⟩:=S.fp
 obtain⟨v,e1,a,rfl,_,_,xs,o2,o3⟩:=h i _ e0
 refine⟨_,e1,a,xs,rfl,.inl ⟨SqL.of o2,fun p hp=>?_⟩⟩
 exact q _ _ _ (QA.new S.sub hp) (.tup QR (o3.mono (QC.new (S.sub.free hp))))
theorem Gz {X:Cx}{ns:Ql}(h:Qt K ta ρ (.list (ns.map PyData.int)))(hc:X.calm=true):Qt K (tCB (MX X) (QZ ta Zm)) ρ (.int ns.sum):=fun H0 F σ H Q S q =>
 h H0 F σ H _ S fun F1 H1 v x1 r1=>⟨hc,v,ns,rfl,r1.mono x1.fh,q F1 H1 _ x1 (.int _)⟩
theorem Rl {x:Int} (h:Qt K ta ρ (.int x)):Qt K (Nz K "int" NI ta) ρ (.int (Builtin.Int.intBits x:Int)):=fun H0 F σ H Q S q =>
 h H0 F σ H _ S fun F1 H1 v x1 r1=>by cases r1;exact⟨rfl,x,rfl,rfl,q F1 H1 _ x1 (.int _)⟩
theorem B2 {as bs:Qd}(ha:Qt K ta ρ (.list as))(hb:Qt K tb ρ (.list bs))(hl:as.length+bs.length<=1000):EvO K (tOp Np ta tb) ρ (.ol (as++bs)):=fun H0 F σ H Q S q =>
 Y0 ha hb S fun F' H' x y e r1 r2=>by
  obtain⟨a,xs,rfl,h1,h2,h3⟩:=Jd (K:=K) r1 e.fh
  obtain⟨b,ys,rfl,g1,g2,g3⟩:=Jd (K:=K) r2 e.fh
  refine⟨a,b,xs,ys,rfl,rfl,h3,g3,by rw[h2.length,g2.length];exact XZ (Vv hl),fun p hp=>?_⟩
  obtain⟨z1,z2,z3⟩:=UM (K:=K) e hp (h2.append g2)
  exact q _ _ _ _ z1 z2 z3
end
theorem Zl {K:W.Frag}{ρ:QG}{ta:TE}{t:TA}{d:PyData}{ds:Qd}(h1:Qt K ta ρ d)(h2:ZE K t ρ (fzs ds)):ZE K (QZ ta t) ρ (fzs (d::ds)):=Qu h1 h2
theorem EvI.cast {K:W.Frag}{wi:TI}{ρ:QG}{ds ds':Qd}(h:EvI K wi ρ ds)(e:ds=ds'):EvI K wi ρ ds':=e▸h
theorem GS {a b:Int}{m n:Nat}(h:a=b)(h2:m=n):ZY a m=ZY b n:=by rw[h,h2]
theorem Fn {K:W.Frag}{ρ:QG}{ta:TE}{x:Int}(h:Qt K ta ρ (.int x)):Qt K (tCB Dr (QZ ta Zm)) ρ (.int (Mir.ZgT x)):=FQ h
theorem L8 {K:W.Frag}{ρ:QG}{ta tb:TE}{x y:Int}(ha:Qt K ta ρ (.int x))(hb:Qt K tb ρ (.int y)):Qt K (tCB Dy (QZ ta (QZ tb Zm))) ρ (.int (max x y)):=by
 have e:max x y=if y > x then y else x:=by split<;>omega
 rw[e];exact LX ha hb
theorem Rr {K:W.Frag}{ρ:QG}{ta tb:TE}{x y:Int}(ha:Qt K ta ρ (.int x))(hb:Qt K tb ρ (.int y)):Qt K (tCB Dv (QZ ta (QZ tb Zm))) ρ (.int (min x y)):=by
 have e:min x y=if y<x then y else x:=by split<;>omega
 rw[e];exact LS ha hb
theorem DO {K:W.Frag}{ρ:QG}{f:List (Option Nat)}{wi:TI}{g:CIn->TG}{tee:CIn->TE}{lo:Int}{n:Nat}{h:Nat->PyData}(hi:EvI K wi ρ (ZY lo n))(hl:n<=1000)
 (hs:∀(x:Nat),x<n->∀c,∃ρ2,GTo K (g c) (.int (lo+(x:Int))) (Jn f ρ) ρ2/\Qt K (tee c) ρ2 (h x)):EvO K (tLC f wi g (fun _=>JK) tee) ρ (.ol ((List.range n).map h)) :=
 V8 (xs:=List.range n) (enc:=fun(i:Nat)=>PyData.int (lo+(i:Int))) hi (by simpa using hl) fun x hx c=>hs x (Xr.mp hx) c
theorem Qt.cast {K:W.Frag}{t:TE}{ρ:QG}{d d':PyData}(h:Qt K t ρ d)(e:d=d'):Qt K t ρ d':=e▸h
theorem EvO.cast {K:W.Frag}{t:TE}{ρ:QG}{d d':OT}(h:EvO K t ρ d)(e:d=d'):EvO K t ρ d':=e▸h
theorem Z9.cast {K:W.Frag}{t:TT}{ρ:QG}{d d':Bool}(h:Z9 K t ρ d)(e:d=d'):Z9 K t ρ d':=e▸h
def BD (K:W.Frag):Sp:=fun vs H Q _=>∃(a:Addr) (ns:Ql),vs=[.ref a]/\KTs K H/\Scr K H a ns/\∀H',Q (.bl true) H'
theorem Fun.evLaw {P:Program}{w:World}{K:W.Frag}{mg:Str->Qf}{base:Heap}{x qual p:Str}{st:Stmt}{f:Addr}{fd:FuncData}{N:Qh}{k:Nat}(F:Fun K x qual st f fd)(S:Qp N [p] (Q1 st))
 (Xbt:∀(cdv:Value) (A:Around) (outer:List Env) (s:Shared) (H:Hp) (E:XK) (ns:Ql),Room k (A.deeper (envOfC qual (Q1 st) s.heap.objs.size f cdv))->ns.length<=63->(∀i∈ns,Builtin.Int.intBits i<=2^20) ->
  ∃t,PSs (VM CX0 P w K mg base N qual (Q1 st) f cdv A outer s H E).nox (Z3 st) t/\Q3 K t (some (.scr ns)::List.replicate (N.length-1) none) { nx:=fun _=>False,rt:=fun r=>r=.fz (.bool true) }):FnOk P w K mg base CX0 (k+1) f fd [p] (BD K):=by
 refine F.ok S (fun vs H Q E ⟨a,ns,e,_⟩=>by rw[e];rfl) fun cdv A outer s H vs Q E hr ⟨a,ns,e,kt,sc,q⟩=>?_
 subst e;obtain⟨t,h1,h2⟩:=Xbt cdv A outer s H E ns hr sc.len sc.bits
 refine⟨t,h1,h2 H H H (start N [.ref a]) H _ (QA.refl (QC.refl _)) ⟨kt,QC.refl _,?_,fun _=>[],fun i t' e=>?_,fun i j a h=>(nomatch h),fun i a h=>(nomatch h)⟩ ⟨fun F' σ' H' ρ' x' _ e=>False.elim e,fun F' H' v r' p x' hp ok e=>?_,fun _ _ _ _ _ _ z=>False.elim z,fun _ _ _ _ _ _ z=>False.elim z⟩⟩
 ·unfold start
  simp
 ·cases i with
  |zero =>
    simp at e
    subst e;exact⟨_,rfl,rfl,a,rfl,sc⟩
  |succ i =>
    rw[MO]at e;have:=List.mem_of_getElem? e
    simp at this
 ·subst e
  obtain⟨_,r⟩:=ok
  cases r
  exact q H'
theorem Fgt.trans:∀{a b c:QG},Fgt a b->Fgt b c->Fgt a c
 |[],[],[],_,_=>trivial
 |_::r,none::r',none::r2,h,h2=>by
   have h':Fgt r r':=h
   have h2':Fgt r' r2:=h2
   exact(show Fgt r r2 from Fgt.trans h' h2')
 |s::r,some x::r',none::r2,h,h2=>by
   have h':s=some x/\Fgt r r':=h
   have h2':Fgt r' r2:=h2
   exact(show Fgt r r2 from Fgt.trans h'.2 h2')
 |_::r,none::r',some z::r2,h,h2=>by
   have h2':none=some z/\Fgt r' r2:=h2
   exact Xl h2'.1 (by simp)
 |s::r,some x::r',some z::r2,h,h2=>by
   have h':s=some x/\Fgt r r':=h
   have h2':some x=some z/\Fgt r' r2:=h2
   exact⟨h'.1.trans h2'.1,Fgt.trans h'.2 h2'.2⟩
 |[],none::_,_,h,_=>False.elim h
 |[],some _::_,_,h,_=>False.elim h
 |_::_,[],_,h,_=>False.elim h
 |[],[],none::_,_,h=>False.elim h
 |[],[],some _::_,_,h=>False.elim h
 |_::_,none::_,[],_,h=>False.elim h
 |_::_,some _::_,[],_,h=>False.elim h
theorem Z2 {K:W.Frag}{ρ:QG}:ZE K Zm ρ (fzs []):=QD
theorem LM {i j:Int}(h1 : -18446744073709551616<j)(h2:j<18446744073709551616):Bu i j:=.inr ⟨h1,h2⟩
theorem z62:(2:Int)^62=4611686018427387904:=by decide
theorem NM:Dq 10 30:=⟨by decide,by decide,by decide⟩
theorem FW {CX:CXT}{P:Program}{w:World}{K:W.Frag}{mg:Str->Qf}{base:Heap}{N:Qh}{q:Str}{sc:Scope}{f:Addr}{cd:Value}{A:Around}{o:List Env}{s:Shared}{H:Hp}{E:XK}:(VM CX P w K mg base N q sc f cd A o s H E).nox.K=K:=rfl
theorem EY {X:Cx}{N:Qh}{sc:Scope}{c:CIn}:(Vu X N sc c).K=X.K:=rfl
section
variable {K:W.Frag}{ρ:QG}{ta tb te:TE}
def EvP (K:W.Frag)(t:TO)(ρ:QG)(o:Option Int):Prop := ∀(H0 F:Hp) (σ:St) (H:Hp) (Q:Option Int->Hp->Prop),QT K H0 F ρ σ H->(∀F' H',QA F H F' H'->Q o H')->t σ H Q
theorem BJ:EvP K SC ρ none:=fun H0 F σ H Q S q=>q F H (QA.refl S.sub)
theorem DP {i:Int}(h:Qt K te ρ (.int i)):EvP K (NF te) ρ (some i):=fun H0 F σ H Q S q=>h H0 F σ H _ S fun F1 H1 v x1 r1=>by cases r1;exact⟨i,rfl,q F1 H1 x1⟩
def cut {α:Type}(xs:List α)(lo hi:Option Int):List α:=(xs.drop (HT.sIx xs.length 0 lo)).take (HT.sIx xs.length xs.length hi-HT.sIx xs.length 0 lo)
theorem Qw.drop {F:Hp}:∀{xs:List V} {ds:Qd} (n:Nat),Qw F xs ds->Qw F (xs.drop n) (ds.drop n)
 |_,_,0,r=>r
 |_,_,_+1,.nil=>.nil
 |_,_,n+1,.cons _ t=>Qw.drop n t
theorem Qw.take {F:Hp}:∀{xs:List V} {ds:Qd} (n:Nat),Qw F xs ds->Qw F (xs.take n) (ds.take n)
 |_,_,0,_=>.nil
 |_,_,_+1,.nil=>.nil
 |_,_,n+1,.cons r t=>.cons r (Qw.take n t)
theorem A5 {F:Hp}{xs:List V}{ds:Qd}(r:Qw F xs ds)(lo hi:Option Int):Qw F (U5 xs lo hi) (cut ds lo hi):=by
 unfold U5 cut;rw[r.length];exact(r.drop _).take _
theorem NT {tl th:TO}{ds:Qd}{lo hi:Option Int}(h:Qt K te ρ (.tuple ds))(h1:EvP K tl ρ lo)(h2:EvP K th ρ hi)(hw:¬(HT.sIx ds.length 0 lo=0/\HT.sIx ds.length ds.length hi=ds.length)):Qt K (tSl (Nr K) te tl th) ρ (.tuple (cut ds lo hi)):=fun H0 F σ H Q S q =>
 h H0 F σ H _ S fun F1 H1 v x1 r1=>h1 H0 F1 σ H1 _ (S.ext x1) fun F2 H2 x2=>h2 H0 F2 σ H2 _ (S.ext (x1.trans x2)) fun F3 H3 x3=>by
  have x:=x1.trans (x2.trans x3)
  obtain⟨a,xs,rfl,g1,g2,g3⟩:=WX (K:=K) (r1.mono (x2.trans x3).ff) x.fh
  refine⟨a,xs,rfl,g1,by rw[g2.length];exact hw,fun p hp=>?_⟩
  exact q _ _ _ (x.trans (QA.new x.fh hp)) (.tup QR ((A5 g2 lo hi).mono (QC.new (x.fh.free hp))))
theorem Rj {a b:Int}{m n:Nat}(h0:0<=a)(h1:a<2^m)(h2:0<=b)(h3:b<2^n)(h4:m+n<=100000):IntMulOk a b:=by
 have bl:∀{x:Int} {m:Nat},0<=x->x<2^m->Builtin.Int.intBits x<=m:=fun{x m} h0 h=>by
  unfold Builtin.Int.intBits;by_cases e:x=0
  ·subst e;simp
  ·have e1:(x==0)=false:=by simpa using e
   rw[e1];have h1:x.natAbs≠0:=by omega
   have h2:x.natAbs<2^m:=by
    have:((x.natAbs:Nat):Int)<((2^m:Nat):Int):=by
     have e2:((2^m:Nat):Int)=(2:Int)^m:=by rw[Int.natCast_pow];rfl
     rw[e2];omega
    exact JC.mp this
   have:=(Nat.log2_lt h1).mpr h2
   simp only[X8,if_false];omega
 have ba:=bl h0 h1
 have bb:=bl h2 h3
 unfold IntMulOk;have:Builtin.Int.intTooBig (Builtin.Int.intBits a+Builtin.Int.intBits b)=false:=by
  unfold Builtin.Int.intTooBig;have hb:(100000:Nat)<=bitsLine:=by decide
  exact XF (by omega)
 rw[this];simp
end
section
variable {K:W.Frag}{ρ:QG}{ta tb te:TE}
def Jk (as bs:Qd):Qd:=(as.zip bs).map fun p=>PyData.tuple [p.1,p.2]
theorem EQ (as bs:Qd):(Jk as bs).length=min as.length bs.length:=by simp[Jk]
theorem Ir {as bs:Qd}{i:Nat}{d:PyData}(e:(Jk as bs)[i]?=some d):∃a b,as[i]?=some a/\bs[i]?=some b/\d=.tuple [a,b]:=by
 unfold Jk at e;rw[Xk]at e;cases z:(as.zip bs)[i]? with
 |none=>rw[z]at e;cases e
 |some p =>
   rw[z]at e;have e':=Option.some.inj e
   obtain⟨h1,h2⟩:=List.getElem?_zip_eq_some.mp z
   exact⟨p.1,p.2,h1,h2,e'.symm⟩
def JR (as:Qd):Qd:=as.zipIdx.map fun p=>PyData.tuple [.int (p.2:Int),p.1]
theorem Ts (as:Qd):(JR as).length=as.length:=by simp[JR]
theorem Tl {as:Qd}{i:Nat}{d:PyData}(e:(JR as)[i]?=some d):∃a,as[i]?=some a/\d=.tuple [.int (i:Int),a]:=by
 unfold JR at e;rw[Xk,List.getElem?_zipIdx]at e;cases z:as[i]? with
 |none=>rw[z]at e;cases e
 |some a=>rw[z]at e;simp at e;exact⟨a,rfl,e.symm⟩
theorem Kg {F H:Hp}{x:V}{ds:Qd}(r:Rep F x (.list ds)):∃a xs,x=.ref a/\F a=some (.lst xs)/\Qw F xs ds:=by
 cases r with
 |lst ha rr=>exact⟨_,_,rfl,ha,rr⟩
theorem DC {t:TA}{as bs:Qd}(h:ZE K t ρ [.fz (.list as),.fz (.list bs)]):EvI K (N8 K t) ρ (Jk as bs):=fun H0 F σ H R S q =>
 h H0 F σ H _ S fun F1 H1 vs x1 r1=>by
  cases r1 with
  |fz r r1 =>
    cases r1 with
    |fz r' r1 =>
      cases r1
      obtain⟨a,xs,rfl,ha,ra⟩:=Kg (H:=H1) r
      obtain⟨b,ys,rfl,hb,rb⟩:=Kg (H:=H1) r'
      refine⟨a,b,rfl,⟨xs,SqL.of (x1.fh _ _ ha)⟩,⟨ys,SqL.of (x1.fh _ _ hb)⟩,q F1 H1 _ x1 fun F2 H2 s2 s3=>?_⟩
      have qa:SqL K H2 a xs:=SqL.of (s3 _ _ (s2 _ _ ha))
      have qb:SqL K H2 b ys:=SqL.of (s3 _ _ (s2 _ _ hb))
      refine⟨⟨xs,ys,qa,qb,by rw[EQ,ra.length,rb.length]⟩,fun i d e=>?_⟩
      obtain⟨d1,d2,e1,e2,rfl⟩:=Ir e
      obtain⟨z1,f1,g1⟩:=ra.get e1
      obtain⟨z2,f2,g2⟩:=rb.get e2
      refine⟨⟨xs,ys,z1,z2,qa,qb,f1,f2⟩,fun v H3 hy=>?_⟩
      obtain⟨p,x,y,hp,rfl,rfl,k1,k2⟩:=hy
      have ex:=k1 xs qa
      rw[f1]at ex;cases ex;have ey:=k2 ys qb
      rw[f2]at ey;cases ey;have sn:QC F2 (upd F2 p (.tup [z1,z2])):=QC.new (s3.free hp)
      exact⟨_,QA.new s3 hp,.tup QR (.cons ((g1.mono s2).mono sn) (.cons ((g2.mono s2).mono sn) .nil))⟩
theorem DX {t:TA}{as:Qd}(h:ZE K t ρ [.fz (.list as)]):EvI K (Rm K t) ρ (JR as):=fun H0 F σ H R S q =>
 h H0 F σ H _ S fun F1 H1 vs x1 r1=>by
  cases r1 with
  |fz r r1 =>
    cases r1
    obtain⟨a,xs,rfl,ha,ra⟩:=Kg (H:=H1) r
    refine⟨a,rfl,⟨xs,SqL.of (x1.fh _ _ ha)⟩,q F1 H1 _ x1 fun F2 H2 s2 s3=>?_⟩
    have qa:SqL K H2 a xs:=SqL.of (s3 _ _ (s2 _ _ ha))
    refine⟨⟨xs,qa,by rw[Ts,ra.length]⟩,fun i d e=>?_⟩
    obtain⟨d1,e1,rfl⟩:=Tl e
    obtain⟨z1,f1,g1⟩:=ra.get e1
    refine⟨⟨xs,z1,qa,f1⟩,fun v H3 hy=>?_⟩
    obtain⟨p,x,hp,rfl,rfl,k1⟩:=hy
    have ex:=k1 xs qa
    rw[f1]at ex;cases ex;have sn:QC F2 (upd F2 p (.tup [.int (i:Int),z1])):=QC.new (s3.free hp)
    exact⟨_,QA.new s3 hp,.tup QR (.cons (.int _) (.cons ((g1.mono s2).mono sn) .nil))⟩
theorem Cn {X:Cx}{ns:Ql}(h:Qt K ta ρ (.list (ns.map PyData.int)))(hc:X.calm=true)(hn:ns≠[]):Qt K (tCB (Rg X) (QZ ta Zm)) ρ (.int (Ys ns)):=fun H0 F σ H Q S q =>
 h H0 F σ H _ S fun F1 H1 v x1 r1=>⟨hc,v,ns,rfl,r1.mono x1.fh,hn,q F1 H1 _ x1 (.int _)⟩
theorem Rs {as bs:Qd}(ha:Qt K ta ρ (.tuple as))(hb:Qt K tb ρ (.tuple bs))(hl:as.length+bs.length<=1000):Qt K (tOp (ND K) ta tb) ρ (.tuple (as++bs)):=fun H0 F σ H Q S q =>
 Y0 ha hb S fun F' H' x y e r1 r2=>by
  obtain⟨a,xs,rfl,h1,h2,h3⟩:=WX (K:=K) r1 e.fh
  obtain⟨b,ys,rfl,g1,g2,g3⟩:=WX (K:=K) r2 e.fh
  refine⟨a,b,xs,ys,rfl,rfl,h1,g1,by rw[h2.length,g2.length];exact XZ (Vv hl),fun z=>?_,fun _ z=>?_,fun _ _ p hp=>?_⟩
  ·have:=h2.length
   rw[z]at this;have ea:as=[]:=No this.symm
   rw[ea,List.nil_append]at q;exact q F' H' _ e r2
  ·have:=g2.length
   rw[z]at this;have eb:bs=[]:=No this.symm
   rw[eb,XV]at q;exact q F' H' _ e r1
  ·exact q _ _ _ (e.trans (QA.new e.fh hp)) (.tup QR ((h2.append g2).mono (QC.new (e.fh.free hp))))
theorem Am {x:Int}{ns:Ql}(ha:Qt K ta ρ (.int x))(hb:Qt K tb ρ (.list (ns.map PyData.int))):Qt K (tOp (rIn K true) ta tb) ρ (.bool (!decide (x∈ns))):=fun H0 F σ H Q S q =>
 Y0 ha hb S fun F' H' u y e r1 r2=>by
  obtain⟨a,xs,rfl,h1,h2,h3⟩:=Jd (K:=K) r2 e.fh
  cases r1
  have ex:=Ui h2
  subst ex;refine⟨a,_,rfl,.inl h1,rfl,?_,?_⟩
  ·rw[List.all_eq_true]
   intro v hv;obtain⟨j,_,rfl⟩:=Xw.mp hv
   rfl
  ·rw[Xc rfl,AH]
   exact q F' H' _ e (.bl _)
def U6:OT->Option PyData
 |.fz d=>some d
 |.ol ds=>some (.list ds)
 |.oll dss=>some (.list (dss.map PyData.list))
 |.scr _=>none
 |.own _ _=>none
 |.zow _=>none
def frF (F H:Hp)(p:Qg):Hp:=fun b=>if b∈p then H b else F b
theorem UJ {F H:Hp}{p:Qg}{b:Addr}(h:b∈p):frF F H p b=H b:=by unfold frF;rw[Xc h]
theorem Y1 {F H:Hp}{p:Qg}{b:Addr}(h:b∉p):frF F H p b=F b:=by unfold frF;rw[Xb h]
theorem J0 {F H:Hp}{p:Qg}(h:∀a∈p,F a=none):QC F (frF F H p):=fun b u e=>by
 rw[Y1 fun z=>by rw[h b z]at e;cases e];exact e
theorem UP {F H:Hp}{p:Qg}(s:QC F H):QC (frF F H p) H:=fun b u e=>by
 by_cases z:b∈p
 ·rw[UJ z]at e;exact e
 ·rw[Y1 z]at e;exact s b u e
theorem ST {F F' H:Hp}(sm:QC F F'):∀{as:Qg} {dss:List (Qd)},Zx F H as dss->(∀a∈as,F' a=H a)->Qw F' (as.map V.ref) (dss.map PyData.list)
 |[],[],_,_=>.nil
 |a::as,ds::dss,h,he=>by
   obtain⟨⟨h1,xs,h2,h3⟩,h4⟩:=h
   exact .cons (.lst (by rw[he a Xd];exact h2) (h3.mono sm)) (ST sm h4 fun b hb=>he b (Xe _ hb))
 |[],_::_,h,_=>False.elim h
 |_::_,[],h,_=>False.elim h
theorem Zz.frz {F H:Hp}{v:V}{t:OT}{p:Qg}{d:PyData}(ok:Zz K F H v t p)(e:U6 t=some d):Rep (frF F H p) v d:=by
 have sm:QC F (frF F H p):=J0 fun a ha=>(ok.there a ha).1
 cases t with
 |fz d'=>cases e;exact ok.2.mono sm
 |ol ds =>
   cases e
   obtain⟨a,rfl,rfl,h1,xs,h2,h3⟩:=ok
   exact .lst (by rw[UJ Xd];exact h2) (h3.mono sm)
 |oll dss =>
   cases e
   obtain⟨a,as,rfl,rfl,hn,h1,h2,h3⟩:=ok
   exact .lst (by rw[UJ Xd];exact h2) (ST sm h3 fun b hb=>UJ (Xe _ hb))
 |scr ns=>cases e
 |own v0 Φ=>cases e
 |zow Ψ=>cases e
theorem Zx.frOther {F H:Hp}{p:Qg}(sm:QC F (frF F H p)):∀{as:Qg} {dss:List (Qd)},(∀a∈as,a∉p)->Zx F H as dss->Zx (frF F H p) H as dss
 |[],[],_,_=>trivial
 |a::as,ds::dss,hn,h=>by
   obtain⟨⟨h1,xs,h2,h3⟩,h4⟩:=h
   exact⟨⟨by rw[Y1 (hn a Xd)];exact h1,xs,h2,h3.mono sm⟩,Zx.frOther sm (fun b hb=>hn b (Xe _ hb)) h4⟩
 |[],_::_,_,h=>False.elim h
 |_::_,[],_,h=>False.elim h
theorem Zz.frOther {F H:Hp}{v:V}{t:OT}{p q:Qg}(sm:QC F (frF F H p))(ok:Zz K F H v t q)(hn:∀a∈q,a∉p):Zz K (frF F H p) H v t q:=by
 cases t with
 |fz d=>exact⟨ok.1,ok.2.mono sm⟩
 |zow Ψ=>exact⟨ok.1,Ψ.mono sm ok.2⟩
 |ol ds =>
   obtain⟨a,rfl,rfl,h1,xs,h2,h3⟩:=ok
   exact⟨a,rfl,rfl,by rw[Y1 (hn a Xd)];exact h1,xs,h2,h3.mono sm⟩
 |oll dss =>
   obtain⟨a,as,rfl,rfl,hd,h1,h2,h3⟩:=ok
   exact⟨a,as,rfl,rfl,hd,by rw[Y1 (hn a Xd)];exact h1,h2,h3.frOther sm fun b hb=>hn b (Xe _ hb)⟩
 |scr ns=>obtain⟨h1,a,h2,h3⟩:=ok;exact⟨h1,a,h2,h3.mono sm⟩
 |own v0 Φ=>exact⟨ok.1,Φ.mono sm (fun a ha=>by rw[Y1 (hn a ha)];exact(Φ.there ok.2 a ha).1) (fun _ _=>rfl) ok.2⟩
theorem QT.freezeG {H0 F H:Hp}{σ:St}{i:Nat}{t:OT}{d:PyData}(s:QT K H0 F ρ σ H)(e:ρ[i]?=some (some t))(ed:U6 t=some d) :
 ∃p,(∀a∈p,F a=none/\H a≠none/\H0 a=none)/\QT K H0 (frF F H p) (ρ.set i (some (.fz d))) σ H:=by
 obtain⟨kt,h1,h2,fp,h3,h4,h5⟩:=s
 obtain⟨v,e1,ok⟩:=h3 i _ e
 have hlt:=(Xh.mp e).1
 have sm:QC F (frF F H (fp i)):=J0 fun a ha=>(ok.there a ha).1
 refine⟨fp i,fun a ha=>⟨(ok.there a ha).1,(ok.there a ha).2,(h5 i a ha).1⟩,kt.mono sm,UP h1,by simp[h2],fun j=>if j=i then [] else fp j,fun j t' e'=>?_,fun j k b hb hc=>?_,fun j b hb=>?_⟩
 ·by_cases hj:j=i
  ·subst hj
   rw[XU hlt]at e';cases e'
   refine⟨_,e1,?_,ok.frz ed⟩
   dsimp only;rw[Xc rfl]
  ·rw[X0 (Ne.symm hj)]at e'
   obtain⟨u,f1,f2⟩:=h3 j t' e'
   refine⟨u,f1,?_⟩
   dsimp only;rw[Xb hj];exact f2.frOther sm fun a ha z=>hj (h4 j i a ha z)
 ·by_cases hj:j=i
  ·simp[hj]at hb
  ·by_cases hk:k=i
   ·simp[hk]at hc
   ·simp only[Xb hj]at hb
    simp only[Xb hk]at hc;exact h4 j k b hb hc
 ·by_cases hj:j=i
  ·simp[hj]at hb
  ·simp only[Xb hj]at hb
   exact h5 j b hb
theorem SZ {F H F' H':Hp}{p:Qg}(hp:∀a∈p,F a=none/\H a≠none)(x:QA (frF F H p) H F' H'):QA F H (fun b=>if b∈p then none else F' b) H' :=
 ⟨x.hh,fun b u hb=>by
  have nb:b∉p:=fun z=>by rw[(hp b z).1]at hb;cases hb
  simp only[Xb nb];exact x.ff b u (by rw[Y1 nb];exact hb),fun b u hb=>by
  by_cases z:b∈p
  ·simp[z]at hb
  ·simp only[Xb z]at hb;exact x.fh b u hb,fun b hb=>by
  by_cases z:b∈p
  ·simp[z]at hb
  ·simp only[Xb z]at hb
   rcases x.fr b hb with y|y
   ·rw[Y1 z]at y;exact .inl y
   ·exact .inr y⟩
theorem Pq {t:TT}(i:Nat){r:OT}{d0:PyData}{b:Bool}(e:ρ[i]?=some (some r))(ed:U6 r=some d0)(h:Z9 K t (ρ.set i (some (.fz d0))) b):Z9 K t ρ b:=fun H0 F σ H Q S q=>by
 obtain⟨p,hp,S'⟩:=S.freezeG e ed
 exact h H0 _ σ H Q S' fun F' H' x=>q _ H' (SZ (fun a ha=>⟨(hp a ha).1,(hp a ha).2.1⟩) x)
def R7 (ds:Qd):Prop := ∀d∈ds,∃w,Yg d=some w
theorem Qw.flats {F F':Hp}:∀{xs:List V} {ds:Qd},R7 ds->Qw F xs ds->Qw F' xs ds
 |_,_,_,.nil=>.nil
 |_::_,d::_,h,.cons r t=>by
   obtain⟨w,e⟩:=h d Xd
   refine .cons ?_ (Qw.flats (fun c hc=>h c (Xe _ hc)) t)
   cases r<;>simp[Yg]at e
   ·exact .non
   ·exact .bl _
   ·exact .int _
   ·exact .str _
end
section
variable {K:W.Frag}{ρ:QG}{ta tb tc te ti tj:TE}{D:PEnds}
theorem Zx.snoc {F H:Hp}{b:Addr}{ds:Qd}:∀{as:Qg} {dss:List (Qd)},Zx F H as dss->VL F H b ds->Zx F H (as++[b]) (dss++[ds])
 |[],[],_,h=>⟨h,trivial⟩
 |_::_,_::_,h,h2=>⟨h.1,Zx.snoc h.2 h2⟩
 |[],_::_,h,_=>False.elim h
 |_::_,[],h,_=>False.elim h
theorem Zx.length {F H:Hp}:∀{as:Qg} {dss:List (Qd)},Zx F H as dss->as.length=dss.length
 |[],[],_=>rfl
 |_::_,_::_,h=>by simp[Zx.length h.2]
 |[],_::_,h=>False.elim h
 |_::_,[],h=>False.elim h
theorem FN {α:Type}{f:List (Option Nat)}{wi:TI}{g:CIn->TG}{tee:CIn->TE}{xs:List α}{enc:α->PyData}{h:α->Qd}(hi:EvI K wi ρ (xs.map enc))(hl:xs.length<=1000)
 (hs:∀x∈xs,∀c,∃ρ2,GTo K (g c) (enc x) (Jn f ρ) ρ2/\EvO K (tee c) ρ2 (.ol (h x))):EvO K (tLC f wi g (fun _=>JK) tee) ρ (.oll (xs.map h)):=fun H0 F σ H Q S q =>
 hi H0 F σ H _ S fun F1 H1 J x1 W c=>by
  have hn:xs.length<=sizeLine:=XZ (Vv hl)
  refine⟨fun i m ys H=>m=xs.length-i/\i<=xs.length/\∃F' as,QA F1 H1 F' H/\ys=as.map V.ref/\as.Nodup/\(∀a∈as,H1 a=none)/\Zx F' H as ((xs.take i).map h),⟨xs.length,by simp,Vl _,F1,[],QA.refl x1.fh,rfl,by simp,fun a ha=>(nomatch ha),trivial⟩,?_⟩
  rintro i m ys H' ⟨rfl,hle,F',as,x',rfl,nd,hfr,oa⟩
  obtain⟨w1,w2⟩:=W F' H' x'.ff x'.fh
  by_cases hlt:i<xs.length
  ·have e:(xs.map enc)[i]?=some (enc xs[i]):=by simp[hlt]
   obtain⟨go,yl⟩:=w2 i _ e
   refine .inr ⟨go,fun v H3 y=>?_⟩
   obtain⟨F3,x3,r3⟩:=yl v H3 y
   obtain⟨ρ2,k1,k2⟩:=hs xs[i] (XL hlt) c
   have S3:=(S.ext (x1.trans (x'.trans x3))).inner f
   have tk:xs.take (i+1)=xs.take i++[xs[i]]:=by rw[WB];simp[hlt]
   have ol:=oa.length
   refine k1 H0 F3 _ H3 v _ S3 r3 fun σ2 S4=>?_
   dsimp only[JK];rw[Xc rfl];refine k2 H0 F3 σ2 H3 _ S4 fun F5 H5 z p x5 hp ok=>⟨?_,xs.length-(i+1),by omega,rfl,hlt,F5,as++[?_],x'.trans (x3.trans x5),?_,?_,?_,?_⟩
   ·rw[Xm,ol,Xm,Ux];omega
   ·exact(match z with|.ref b=>b|_=>0)
   all_goals obtain⟨b,rfl,rfl,o1⟩:=ok
   ·simp
   ·rw[Bt]
    refine⟨nd,by simp,fun c' hc' d hd=>?_⟩
    have hd':d=b:=by simpa using hd
    subst hd';intro z;subst z;have hb:H3 c'=none:=hp c' Xd
    have:=(oa.mem c' hc').2
    obtain⟨o,ho⟩:=Hw this
    rw[x3.hh _ _ ho]at hb;cases hb
   ·intro c' hc'
    rcases XG.mp hc' with hc'|hc'
    ·exact hfr c' hc'
    ·have:c'=b:=by simpa using hc'
     subst this;exact(x'.trans x3).hh.free (hp c' Xd)
   ·rw[tk,Xy]
    exact(oa.ext (x3.trans x5)).snoc o1
  ·have e:i=xs.length:=by omega
   subst e;refine .inl ⟨by simpa using w1,fun a ha=>?_⟩
   rw[Wn]at oa;have na:a∉as:=fun z=>(oa.mem a z).2 ha
   refine q F' _ _ (a::as) ((x1.trans x').trans (QA.own x'.fh ha)) (fun b hb=>?_) ⟨a,as,rfl,rfl,X3.mpr ⟨na,nd⟩,x'.fh.free ha,QR,oa.other na⟩
   rcases Xg.mp hb with rfl|hb
   ·exact(x1.trans x').hh.free ha
   ·exact x1.hh.free (hfr b hb)
end
end L2
end
namespace L2
open PySem PySem.Spec PyProof.Rows
section
variable {κ:Type} [DecidableEq κ]
def Z0 (kvs:List (κ×V))(k:κ):Option V:=(kvs.find? fun kv=>decide (kv.1=k)).map (·.2)
def Yn (kvs:List (κ×V))(k:κ)(v:V):List (κ×V) :=
 if (kvs.any fun kv=>decide (kv.1=k))=true then kvs.map (fun kv=>if kv.1=k then (kv.1,v) else kv) else kvs++[(k,v)]
theorem Wh {p:κ×V}{r:List (κ×V)}{k:κ}(e:p.1=k):Z0 (p::r) k=some p.2:=by simp[Z0,XA,e]
theorem Wi {p:κ×V}{r:List (κ×V)}{k:κ}(e:¬p.1=k):Z0 (p::r) k=Z0 r k:=by simp[Z0,XA,e]
theorem Pe (k:κ):∀kvs:List (κ×V),(kvs.any fun kv=>decide (kv.1=k))=(Z0 kvs k).isSome
 |[]=>rfl
 |p::r=>by
   rw[Bj];by_cases e:p.1=k
   ·simp only[Wh e,Yk e,Bool.true_or,Option.isSome_some]
   ·rw[Wi e,XF e,Bool.false_or];exact Pe k r
theorem Ty (k j:κ)(y:V):∀kvs:List (κ×V),Z0 kvs k=none->Z0 (kvs++[(k,y)]) j=if j=k then some y else Z0 kvs j
 |[],_=>by
   by_cases e:k=j
   ·rw[Xc e.symm];exact Wh (p:=(k,y)) e
   ·rw[Xb (fun z=>e z.symm)];exact Wi (p:=(k,y)) e
 |p::r,hn=>by
   rw[Uw];have hk:¬p.1=k:=fun z=>by rw[Wh z]at hn;cases hn
   rw[Wi hk]at hn;have ih:=Ty k j y r hn
   by_cases e:p.1=j
   ·rw[Wh e,Wh e,Xb (fun z=>hk (e.trans z))]
   ·rw[Wi e,Wi e,ih]
theorem Li (kvs:List (κ×V))(k:κ)(v:V):(Yn kvs k v).length<=kvs.length+1:=by
 unfold Yn;split
 ·rw[Xm];omega
 ·rw[Xq,XJ,List.length_nil];omega
theorem ZQ.isSome_eq {o:Option V}{u:Qf}(r:ZQ o u):o.isSome=u.isSome:=by
 cases o with
 |none=>cases u with
   |none=>rfl
   |some _=>exact(show False from r).elim
 |some _=>cases u with
   |none=>exact(show False from r).elim
   |some _=>rfl
theorem ZQ.getD {o:Option V}{u:Qf}{d:V}{d':Value}(r:ZQ o u)(rd:QK d d'):QK (o.getD d) (u.getD d'):=by
 cases o with
 |none=>cases u with
   |none=>exact rd
   |some _=>exact(show False from r).elim
 |some _=>cases u with
   |none=>exact(show False from r).elim
   |some _=>exact r
theorem KV.val {kvs:List (κ×V)}{vs:List (κ×Value)}(r:KV kvs vs)(k:κ):ZQ (Z0 kvs k) (valueAt vs k):=by
 unfold KV at r;induction r with
 |nil=>exact True.intro
 |@cons p q ps qs h t ih =>
   obtain⟨h1,h2⟩:=h
   by_cases e:p.1=k
   ·have e':q.1=k:=h1.symm.trans e
    have b:valueAt (q::qs) k=some q.2:=by simp[valueAt,XA,e']
    rw[Wh e,b];exact h2
   ·have e':¬q.1=k:=fun z=>e (h1.trans z)
    have b:valueAt (q::qs) k=valueAt qs k:=by simp[valueAt,XA,e']
    rw[Wi e,b];exact ih
theorem KV.any {kvs:List (κ×V)}{vs:List (κ×Value)}(r:KV kvs vs)(k:κ):(kvs.any fun kv=>decide (kv.1=k))=vs.any fun kv=>decide (kv.1=k):=by
 unfold KV at r;induction r with
 |nil=>rfl
 |cons h t ih=>rw[Bj,Bj,ih,h.1]
theorem KV.repl {kvs:List (κ×V)}{vs:List (κ×Value)}(r:KV kvs vs)(k:κ){y:V}{u:Value}(ry:QK y u) :
 KV (kvs.map fun kv=>if kv.1=k then (kv.1,y) else kv) (vs.map fun kv=>if kv.1=k then (kv.1,u) else kv):=by
 unfold KV at r ⊢;induction r with
 |nil=>exact .nil
 |@cons p q ps qs h t ih =>
   rw[Xt,Xt];refine .cons ?_ ih
   obtain⟨h1,h2⟩:=h
   by_cases e:p.1=k
   ·rw[Xc e,Xc (h1.symm.trans e)];exact⟨h1,ry⟩
   ·rw[Xb e,Xb (fun z=>e (h1.trans z))];exact⟨h1,h2⟩
theorem KV.put {kvs:List (κ×V)}{vs:List (κ×Value)}(r:KV kvs vs)(k:κ){y:V}{u:Value}(ry:QK y u):KV (Yn kvs k y) (stored vs k u):=by
 unfold Yn stored;rw[r.any k];by_cases e:(vs.any fun kv=>decide (kv.1=k))=true
 ·rw[Xc e,Xc e];exact r.repl k ry
 ·rw[Xb e,Xb e];exact Paired.snoc r ⟨rfl,ry⟩
theorem KV.length {kvs:List (κ×V)}{vs:List (κ×Value)}(r:KV kvs vs):kvs.length=vs.length:=Paired.length r
end
theorem UB {P:Program}{w:World}{k:Key}{u:Value}(r:QK (kV k) u):(Ve P w).is k u=true:=by
 cases k with
 |inl i=>obtain⟨t,e⟩:=(show ∃t,u=Value.int i t from r);subst e;exact Zkm P w i t
 |inr x=>obtain⟨t,e⟩:=(show ∃t,u=Value.str x t from r);subst e;exact ZjY P w x t
theorem PQ {P:Program}{w:World}:∀{ks:List Key} {us:Qe},QP (ks.map kV) us->ItemsAre (Ve P w) ks us
 |[],_,r=>by rw[JD]at r;cases r;exact .nil
 |k::ks,_,r=>by
   rw[Xt]at r;cases r with
   |cons h t=>exact .cons (UB h) (PQ t)
abbrev KT (H:Hp):List (List Key×V)->List (List Key×Addr×Value)->Prop:=Paired fun p q=>p.1=q.1/\H q.2.1=some (.tup (p.1.map kV))/\QK p.2 q.2.2
theorem KT.val {H:Hp}{kvs:List (List Key×V)}{xs:List (List Key×Addr×Value)}(r:KT H kvs xs)(k:List Key):ZQ (Z0 kvs k) ((atKey xs k).map (·.2)):=by
 induction r with
 |nil=>exact True.intro
 |@cons p q ps qs h t ih =>
   obtain⟨h1,_,h2⟩:=h
   by_cases e:p.1=k
   ·have e':q.1=k:=h1.symm.trans e
    have b:atKey (q::qs) k=some q.2:=by simp[atKey,XA,e']
    rw[Wh e,b];exact h2
   ·have e':¬q.1=k:=fun z=>e (h1.trans z)
    have b:atKey (q::qs) k=atKey qs k:=by simp[atKey,XA,e']
    rw[Wi e,b];exact ih
theorem KT.repl {H:Hp}{kvs:List (List Key×V)}{xs:List (List Key×Addr×Value)}(r:KT H kvs xs)(k:List Key){y:V}{u:Value}(ry:QK y u) :
 KT H (kvs.map fun kv=>if kv.1=k then (kv.1,y) else kv) (xs.map (putAt k u)):=by
 induction r with
 |nil=>exact .nil
 |@cons p q ps qs h t ih =>
   rw[Xt,Xt];refine .cons ?_ ih
   obtain⟨h1,h2,h3⟩:=h
   unfold putAt;by_cases e:p.1=k
   ·rw[Xc e,Xc (h1.symm.trans e)];exact⟨h1,h2,ry⟩
   ·rw[Xb e,Xb (fun z=>e (h1.trans z))];exact⟨h1,h2,h3⟩
theorem KT.put {H:Hp}{kvs:List (List Key×V)}{xs:List (List Key×Addr×Value)}(r:KT H kvs xs)(k:List Key){b:Addr}{y:V}{u:Value}(hb:H b=some (.tup (k.map kV)))(ry:QK y u) :
 KT H (Yn kvs k y) (storedH xs k b u):=by
 have e:(kvs.any fun kv=>decide (kv.1=k))=(atKey xs k).isSome:=by
  rw[Pe,(r.val k).isSome_eq,J8]
 unfold Yn storedH;rw[e];by_cases q:(atKey xs k).isSome=true
 ·rw[Xc q,Xc q];exact r.repl k ry
 ·rw[Xb q,Xb q];exact Paired.snoc r ⟨rfl,hb,ry⟩
theorem KT.keeps {H H':Hp}{kvs:List (List Key×V)}{xs:List (List Key×Addr×Value)}(r:KT H kvs xs)(ht:∀b ys,H b=some (.tup ys)->H' b=some (.tup ys)):KT H' kvs xs :=
 Paired.mapP r fun _ _ z=>⟨z.1,ht _ _ z.2.1,z.2.2⟩
section
variable {P:Program}{w:World}{H:Hp}{h:Heap}{a:Addr}
theorem NQ {u:HO}(ok:HOk P w H h)(e:Rd H a u):Z7 P w H h a u:=e.ok ok
theorem JS {kvs:List (Key×V)}(ok:HOk P w H h)(e:Rd H a (.dK kvs)):kvs.length<=sizeLine/\(a==sysModules)=false/\∃vs,KV kvs vs/\h.DictOf (Ve P w) a vs :=
 show Z7 P w H h a (.dK kvs) from NQ ok e
theorem Fe {kvs:List (Key×V)}(ok:HOk P w H h)(e:H a=some (.dK kvs)):kvs.length<=sizeLine/\(a==sysModules)=false/\∃vs,KV kvs vs/\h.DictOf (Ve P w) a vs:=JS ok (.inl e)
theorem W1 {ks:List Key}(ok:HOk P w H h)(e:H a=some (.tup (ks.map kV))):(tupleKind (Ve P w)).is h ks a:=by
 obtain⟨_,its,r,o,h1,h2,n,h3⟩:=(show Z7 P w H h a (.tup (ks.map kV)) from ok a _ e)
 exact⟨o,its.toArray,n,h1,h2,h3,by simpa using PQ r⟩
theorem JU {kvs:List (List Key×V)}(ok:HOk P w H h)(e:Rd H a (.dT kvs)):kvs.length<=sizeLine/\(a==sysModules)=false /\
 ∃xs,KT H kvs xs/\h.DictOfH (tupleKind (Ve P w)) a xs:=by
 obtain⟨z,y,xs,r,o,es,ep,h1,h2,h3,h4,h5⟩:=(show Z7 P w H h a (.dT kvs) from NQ ok e)
 refine⟨z,y,xs,r,o,es,ep,h1,h2,h3,h4,fun x hx=>?_,h5⟩
 have all:∀{l:List (List Key×V)} {m:List (List Key×Addr×Value)},KT H l m->∀x∈m,(tupleKind (Ve P w)).is h x.1 x.2.1:=by
  intro l m q;induction q with
  |nil=>intro x hx;exact nomatch hx
  |@cons p q ps qs hq t ih =>
    intro x hx;rcases Xg.mp hx with e|hx
    ·subst e
     exact W1 ok (by rw[<- hq.1];exact hq.2.1)
    ·exact ih x hx
 exact all r x hx
theorem D7 {kvs:List (List Key×V)}(ok:HOk P w H h)(e:H a=some (.dT kvs)):kvs.length<=sizeLine/\(a==sysModules)=false /\
 ∃xs,KT H kvs xs/\h.DictOfH (tupleKind (Ve P w)) a xs:=JU ok (.inl e)
end
def V6 (H:Hp)(a:Addr)(y:V)(r:Option V):Prop :=
 (∃kvs k,Rd H a (.dK kvs)/\y=kV k/\r=Z0 kvs k)\/∃kvs k b,Rd H a (.dT kvs)/\y=.ref b/\H b=some (.tup (k.map kV))/\r=Z0 kvs k
def JN (H:Hp)(a:Addr)(y v:V)(H':Hp):Prop :=
 (∃kvs k,H a=some (.dK kvs)/\y=kV k/\kvs.length<sizeLine/\H'=upd H a (.dK (Yn kvs k v))) \/
 ∃kvs k b,H a=some (.dT kvs)/\y=.ref b/\H b=some (.tup (k.map kV))/\kvs.length<sizeLine/\H'=upd H a (.dT (Yn kvs k v))
theorem V6.k {H:Hp}{a:Addr}{kvs:List (Key×V)}{k:Key}(e:H a=some (.dK kvs)):V6 H a (kV k) (Z0 kvs k):=.inl ⟨kvs,k,.inl e,rfl,rfl⟩
theorem V6.t {H:Hp}{a b:Addr}{kvs:List (List Key×V)}{k:List Key}(e:H a=some (.dT kvs))(eb:H b=some (.tup (k.map kV))):V6 H a (.ref b) (Z0 kvs k):=.inr ⟨kvs,k,b,.inl e,rfl,eb,rfl⟩
theorem JN.k {H:Hp}{a:Addr}{kvs:List (Key×V)}{k:Key}{v:V}(e:H a=some (.dK kvs))(hl:kvs.length<sizeLine):JN H a (kV k) v (upd H a (.dK (Yn kvs k v))):=.inl ⟨kvs,k,e,rfl,hl,rfl⟩
theorem JN.t {H:Hp}{a b:Addr}{kvs:List (List Key×V)}{k:List Key}{v:V}(e:H a=some (.dT kvs))(eb:H b=some (.tup (k.map kV)))(hl:kvs.length<sizeLine) :
 JN H a (.ref b) v (upd H a (.dT (Yn kvs k v))):=.inr ⟨kvs,k,b,e,rfl,eb,hl,rfl⟩
section
variable {X:Cx}{Xbs:Qc}{σ:St}{H:Hp}{s:Shared}{a:Addr}{y v:V}{u r:Value}{o:Option V}{A:Around}{E:Qb}
theorem Qr.big (I:Qr X Xbs σ H s):sysModules<s.heap.objs.size:=by
 have h:mainGlobals<s.heap.objs.size:=(I.mod.glob.keeps I.bk).lt
 exact Nat.lt_trans (by decide) h
theorem Og {Q:Qb}(hu:A.units+1<cLine)(I:Qr X Xbs σ H s)(g:V6 H a y (some v))(ry:QK y u)(h:∀w' s',Qr X Xbs σ H s'->QK v w'->Q w' s') :
 wpAny (model X.prog X.w) A (getItem (.ref a) u) Q E s:=by
 rcases g with ⟨kvs,k,e,ey,l⟩|⟨kvs,k,b,e,ey,eb,l⟩
 ·subst ey
  obtain⟨z,hd,vs,rel,dd⟩:=JS I.hok e
  obtain⟨w',hw,rw'⟩:=ZQ.some_of (v:=v) (o:=valueAt vs k) (by rw[l];exact rel.val k)
  exact wpAny_getItem_of (UB ry) dd.mapOf hw (h w' _ (I.tok _) rw')
 ·subst ey
  cases (show u=Value.ref b from ry)
  obtain⟨z,hd,xs,rel,dd⟩:=JU I.hok e
  obtain⟨w',hw,rw'⟩:=ZQ.some_of (v:=v) (o:=(atKey xs k).map (·.2)) (by rw[l];exact rel.val k)
  obtain⟨p,hp,hp2⟩:=Option.map_eq_some_iff.mp hw
  refine wpAny_getItem_heap (tupleKind_room_in1 hu) (W1 I.hok eb) dd hp ?_
  rw[hp2];exact h w' _ (I.tok _) rw'
theorem LC {Q:Qb}(hu:A.units+1<cLine)(I:Qr X Xbs σ H s)(g:V6 H a y o)(ry:QK y u)(h:∀s',Qr X Xbs σ H s'->Q (.bool o.isSome) s') :
 wpAny (model X.prog X.w) A (compareOp .In u (.ref a)) Q E s:=by
 rcases g with ⟨kvs,k,e,ey,l⟩|⟨kvs,k,b,e,ey,eb,l⟩
 ·subst ey
  obtain⟨z,hd,vs,rel,dd⟩:=JS I.hok e
  refine wpAny_in_of (UB ry) hd dd.mapOf ?_
  rw[<- (rel.val k).isSome_eq,<- l];exact h _ (I.tok _)
 ·subst ey
  cases (show u=Value.ref b from ry)
  obtain⟨z,hd,xs,rel,dd⟩:=JU I.hok e
  refine wpAny_in_heap (tupleKind_room_in1 hu) (W1 I.hok eb) hd dd ?_
  have q:=(rel.val k).isSome_eq
  rw[J8]at q;rw[<- q,<- l];exact h _ (I.tok _)
theorem Cv {Q:Qb}(hu:A.units+1<cLine)(I:Qr X Xbs σ H s)(g:V6 H a y o)(ry:QK y u)(h:∀s',Qr X Xbs σ H s'->Q (.bool (!o.isSome)) s') :
 wpAny (model X.prog X.w) A (compareOp .NotIn u (.ref a)) Q E s:=by
 rcases g with ⟨kvs,k,e,ey,l⟩|⟨kvs,k,b,e,ey,eb,l⟩
 ·subst ey
  obtain⟨z,hd,vs,rel,dd⟩:=JS I.hok e
  refine wpAny_notIn_of (UB ry) hd dd.mapOf ?_
  rw[<- (rel.val k).isSome_eq,<- l];exact h _ (I.tok _)
 ·subst ey
  cases (show u=Value.ref b from ry)
  obtain⟨z,hd,xs,rel,dd⟩:=JU I.hok e
  refine wpAny_notIn_heap (tupleKind_room_in1 hu) (W1 I.hok eb) hd dd ?_
  have q:=(rel.val k).isSome_eq
  rw[J8]at q;rw[<- q,<- l];exact h _ (I.tok _)
theorem GK {h':Heap}{t':Nat}{ob:HO}(I:Qr X Xbs σ H s)(mu:Mut (H a))(hs:Heap.SameBut a s.heap h')(he:∃q,h'.get? a=some q)(new:Z7 X.prog X.w (upd H a ob) h' a ob) :
 Qr X Xbs σ (upd H a ob) { s with heap:=h',toks:=t' } :=
 I.write (x:=a) (e:=a) mu (.inl rfl) (fun b q hb z=>(hs.2 b hb).trans z) he new
theorem LP {P:Program}{w:World}{H':Hp}{h':Heap}{kvs:List (Key×V)}{vs:List (Key×Value)}(z:kvs.length<=sizeLine)(hd:(a==sysModules)=false)(rel:KV kvs vs)(dd:h'.DictOf (Ve P w) a vs) :
 Z7 P w H' h' a (.dK kvs):=⟨z,hd,vs,rel,dd⟩
theorem Oi {H':Hp}{Q:Unit->Shared->Prop}(hu:A.units+1<cLine)(I:Qr X Xbs σ H s)(g:JN H a y v H')(ry:QK y u)(rv:QK v r)(h:∀s',Qr X Xbs σ H' s'->Q () s') :
 wpAny (model X.prog X.w) A (setItem (.ref a) u r) Q E s:=by
 rcases g with ⟨kvs,k,e,ey,l,eH⟩|⟨kvs,k,b,e,ey,eb,l,eH⟩
 ·subst ey eH
  obtain⟨z,hd,vs,rel,dd⟩:=Fe I.hok e
  have hz:vs.length<=sizeLine:=by rw[<- rel.length];exact z
  have hl:(Yn kvs k v).length<=sizeLine:=by have:=Li kvs k v;omega
  refine wpAny_setItem_pairs (hsz:=hz) (UB ry) dd fun h' dd' hs=>h _ ?_
  have he:∃q,h'.get? a=some q:=let ⟨q,_,_,hq,_⟩:=dd';⟨q,hq⟩
  exact GK I (by rw[e];exact True.intro) hs he (LP hl hd (rel.put k rv) dd')
 ·subst ey eH
  cases (show u=Value.ref b from ry)
  obtain⟨z,hd,xs,rel,dd⟩:=D7 I.hok e
  have hz:xs.length<=sizeLine:=by rw[<- Paired.length rel];exact z
  have hl:(Yn kvs k v).length<=sizeLine:=by have:=Li kvs k v;omega
  refine wpAny_setItem_heap (hsz:=hz) (tupleKind_room_in1 hu) (W1 I.hok eb) dd fun h' dd' hs=>h _ ?_
  obtain⟨q,es,ep,hq,h2,h3,h4,_,h5⟩:=dd'
  refine GK I (by rw[e];exact True.intro) hs ⟨q,hq⟩ ⟨hl,hd,_,(rel.put k eb rv).keeps fun c ys ec=>?_,q,es,ep,hq,h2,h3,h4,h5⟩
  rw[Qx (NN ec e (fun z=>nomatch z))]
  exact ec
end
section
variable {X:Cx}{Xbs:Qc}{σ:St}{H:Hp}{s:Shared}{a:Addr}{kvs:List (Key×V)}{k:Key}{u:Value}{A:Around}{E:Qb}
end
def Da (i:Expr):Prop := ∀ov iv,subscripted i false ov iv=operate [ov,iv] (getItem ov iv)
theorem S9 {prog:Program}{w:World}{A:Around}{E:Qb}{s:Shared}{env:Env}{value slice:Expr}{pos:Pos}{T id:String}{Q:Qb}
 (hl:typeLookup (.type T) "__getitem__"=pure (some (.builtin id))) (hs:Da slice)
 (h:wpAny (model prog w) A (eval value env) (fun o b7=>wpAny (model prog w) A (eval slice env) (fun i b8=>b8.TypeIs o T/\wpAny (model prog w) A (getItem o i) Q E b8) E b7) E s) :
 wpAny (model prog w) A (eval (.Subscript value slice pos) env) Q E s:=by
 refine Subscript_ (wpAny_mono h (fun o b7 b9=>wpAny_mono b9 (fun i b8 bq=>?_) fun _ _ x=>x) fun _ _ x=>x)
 obtain⟨hT,bq⟩:=bq
 unfold subscriptTail;refine Xa ?_
 rw[getitemInPython_of_ne hT.not_modules];refine Xa (wpAny_specialOf hT hl ?_)
 have fin:wpAny (model prog w) A (subscripted slice false o i) (fun r bj=>wpAny (model prog w) A (letTemporaryGo value o r >>= fun _=>pure r) Q E bj) E b8:=by
  rw[hs o i];exact wpAny_operating (wpAny_mono bq (fun r bj bw=>Xa (wpAny_letTemporaryGo (Xi bw))) fun _ _ x=>x)
 first
  |exact Xi (Xa fin)
  |exact Xa (Xi (Xa fin))
  |exact Xa fin
theorem ZkD {X:Cx} {Xbs:Qc} {σ:St} {H:Hp} {s:Shared} {a:Addr} {y:V} {o:Option V} (I:Qr X Xbs σ H s) (g:V6 H a y o):s.TypeIs (.ref a) "dict" := by
 rcases g with ⟨kvs,k,e,_,_⟩|⟨kvs,k,b,e,_,_,_⟩
 ·obtain⟨_,_,vs,_,dd⟩:=JS I.hok e
  exact dd.typeIs
 ·obtain⟨_,_,xs,_,dd⟩:=JU I.hok e
  exact dd.typeIs
def Rp (td ty:TE):TE:=fun σ H Q=>td σ H fun x H1=>ty σ H1 fun y H2=>∃a v,x=.ref a/\V6 H2 a y (some v)/\Q v H2
def Dd (ty td:TE):TE:=fun σ H Q=>ty σ H fun y H1=>td σ H1 fun x H2=>∃a o,x=.ref a/\V6 H2 a y o/\Q (.bl o.isSome) H2
def SD (ty td:TE):TE:=fun σ H Q=>ty σ H fun y H1=>td σ H1 fun x H2=>∃a o,x=.ref a/\V6 H2 a y o/\Q (.bl (!o.isSome)) H2
def NO (td ty tv:TE):TS:=fun D σ H=>tv σ H fun v H1=>td σ H1 fun x H2=>ty σ H2 fun y H3=>∃a H4,x=.ref a/\JN H3 a y v H4/\D.nx σ H4
section
variable {X:Cx}{o i e value:Expr}{pos pos' tpos:Pos}{td ty tv:TE}
theorem Sv (hu:X.A.units+1<cLine)(ho:PE X o td)(hi:PE X i ty)(hs:Da i):PE X (.Subscript o i pos) (Rp td ty):=by
 intro Xbs s σ H Q I h;refine S9 PySem.F.slot_dict_getitem.lookup hs (Q8 (ho Xbs s σ H _ I h) fun u s1 ⟨x,H1,I1,rx,q1⟩=>Q8 (hi Xbs s1 σ H1 _ I1 q1) fun iv s2 ⟨y,H2,I2,ry,a,v,ex,g,q2⟩=>?_)
 subst ex;obtain rfl:u=Value.ref a:=rx
 exact⟨ZkD I2 g,Og hu I2 g ry fun w' s3 I3 rw'=>⟨v,H2,I3,rw',q2⟩⟩
theorem RF (hu:X.A.units+1<cLine)(hi:PE X i ty)(ho:PE X o td):PC X .In i o (Dd ty td):=by
 intro Xbs s σ H Q I h;refine Q8 (hi Xbs s σ H _ I h) fun iv s1 ⟨y,H1,I1,ry,q1⟩=>Q8 (ho Xbs s1 σ H1 _ I1 q1) fun u s2 ⟨x,H2,I2,rx,a,ov,ex,g,q2⟩=>?_
 subst ex;obtain rfl:u=Value.ref a:=rx
 exact LC hu I2 g ry fun s3 I3=>⟨.bl ov.isSome,H2,I3,rfl,q2⟩
theorem Ix (hu:X.A.units+1<cLine)(hi:PE X i ty)(ho:PE X o td):PC X .NotIn i o (SD ty td):=by
 intro Xbs s σ H Q I h;refine Q8 (hi Xbs s σ H _ I h) fun iv s1 ⟨y,H1,I1,ry,q1⟩=>Q8 (ho Xbs s1 σ H1 _ I1 q1) fun u s2 ⟨x,H2,I2,rx,a,ov,ex,g,q2⟩=>?_
 subst ex;obtain rfl:u=Value.ref a:=rx
 exact Cv hu I2 g ry fun s3 I3=>⟨.bl (!ov.isSome),H2,I3,rfl,q2⟩
theorem Cl (hu:X.A.units+1<cLine)(ho:PE X o td)(hi:PE X i ty)(hv:PE X value tv)(hs:swapsWith value (some (.Subscript o i pos')) pos.line X.env=pure false) :
 PS X (.Assign [.Subscript o i pos'] value pos) (NO td ty tv):=by
 intro Xbs s σ H D I h;refine wpAny_Assign_Subscript (Q8 (hv Xbs s σ H _ I h) fun r s1 ⟨v,H1,I1,rv,q1⟩=>Q8 (ho Xbs s1 σ H1 _ I1 q1) fun u s2 ⟨x,H2,I2,rx,q2⟩=>Q8 (hi Xbs s2 σ H2 _ I2 q2) fun iv s3 ⟨y,H3,I3,ry,a,H4,ex,g,q3⟩=>?_) hs
 subst ex;obtain rfl:u=Value.ref a:=rx
 exact Oi hu I3 g ry rv fun s4 I4=>⟨σ,H4,I4,q3⟩
end
theorem Pp {P:Program} {w:World} {H:Hp} (h:Heap) (hb:sysModules<h.objs.size):Z7 P w H (h.push { cls:=.type "dict",data:=.dict #[] }) h.objs.size (.dT []) :=
 ⟨Vl _,beq_eq_false_iff_ne.mpr (Ne.symm (Xo hb)),[],.nil,_,#[],0,XQ _ rfl,⟨rfl,rfl,rfl⟩,rfl,rfl,Gg⟩
def FV:TE:=fun _ H Q=>∀p,H p=none->Q (.ref p) (upd H p (.dT []))
section
variable {X:Cx}{pos:Pos}
theorem Em:PE X (.Dict [] [] pos) FV:=fun Xbs s σ H Q I h =>
 wpAny_Dict_empty ⟨.ref s.heap.objs.size,_,I.laid (a:=s.heap.objs.size) (o:=.dT []) (t':=s.toks) (fun _ _ q=>Xf _ q) (Xs _) (Pp s.heap I.big),rfl,h _ (I.hok.fresh (Xs _))⟩
end
structure M2 (X:Cx)(o:Expr)(m:Str)(apos:Pos)(e f:Expr)(cpos:Pos):Prop where
 base:attributeBase o m X.env (eval o X.env)=eval o X.env
 few:((backTo cpos (starEach [e,f] X.env)).all (fun x => !x.1)&&(backToKw cpos (keywordEach [] X.env)).all (fun x=>x.1.isSome)
  && decide (([e,f]:Qi).length+([]:List Keyword).length+(if ([]:List Keyword).isEmpty then 0 else 1)<30))=true
 line:(apos.endLine==cpos.line)=true
 trees:backTo cpos (starEach [e,f] X.env)=[(false,eval e X.env),(false,eval f X.env)]
def IsD (H:Hp)(a:Addr):Prop:=(∃kvs,Rd H a (.dK kvs))\/∃kvs,Rd H a (.dT kvs)
theorem R6 {X:Cx}{Xbs:Qc}{σ:St}{H:Hp}{s:Shared}{a:Addr}(I:Qr X Xbs σ H s)(d:IsD H a) :
 s.TypeIs (.ref a) "dict" /\ (∀b,Value.ref a=.ref b->∃ob,s.heap.get? b=some ob/\ob.dict=none)/\(a==sysModules)=false:=by
 rcases d with ⟨kvs,e⟩|⟨kvs,e⟩
 ·obtain⟨_,hd,vs,_,dd⟩:=JS I.hok e
  refine⟨dd.typeIs,fun b q=>?_,hd⟩
  cases q
  obtain⟨ob,_,_,h1,h2,_⟩:=dd
  exact⟨ob,h1,h2.2.1⟩
 ·obtain⟨_,hd,xs,_,dd⟩:=JU I.hok e
  refine⟨dd.typeIs,fun b q=>?_,hd⟩
  cases q
  obtain⟨ob,_,_,h1,h2,_⟩:=dd
  exact⟨ob,h1,h2.2.1⟩
section
variable {X:Cx}{Xbs:Qc}{σ:St}{H:Hp}{s:Shared}{a:Addr}{y d:V}{u r:Value}{o:Option V}{A:Around}{E:Qb}
theorem FU {Q:Qb}(hu:A.units+1<cLine)(I:Qr X Xbs σ H s)(g:V6 H a y o)(ry:QK y u)(rd:QK d r)(h:∀w' s',Qr X Xbs σ H s'->QK (o.getD d) w'->Q w' s') :
 wpAny (model X.prog X.w) A (call (.builtin "dict.get") [.ref a,u,r]) Q E s:=by
 rcases g with ⟨kvs,k,e,ey,l⟩|⟨kvs,k,b,e,ey,eb,l⟩
 ·subst ey
  obtain⟨z,hd,vs,rel,dd⟩:=JS I.hok e
  refine call_meetsIn PySem.F.slot_dict_get dd.typeIs PySem.F.entry_dict_get (PySem.F.args_dict_get_3 _ _ _) (meets_dict_get_default (Ve X.prog X.w) a (UB ry) hd r) ⟨_,dd.mapOf,h _ _ (I.tok _) ?_⟩
  rw[l];exact(rel.val k).getD rd
 ·subst ey
  cases (show u=Value.ref b from ry)
  obtain⟨z,hd,xs,rel,dd⟩:=JU I.hok e
  refine call_meetsIn PySem.F.slot_dict_get dd.typeIs PySem.F.entry_dict_get (PySem.F.args_dict_get_3 _ _ _) (meetsH_dict_get_default (tupleKind (Ve X.prog X.w)) a b hd r) ⟨tupleKind_room_in1 hu,k,xs,W1 I.hok eb,dd,h _ _ (I.tok _) ?_⟩
  rw[l];exact(rel.val k).getD rd
end
def Sa (td ty tx:TE):TE:=fun σ H Q=>td σ H fun x H1=>∃a,x=.ref a/\IsD H1 a/\ty σ H1 fun y H2=>tx σ H2 fun z H3=>∃o,V6 H3 a y o/\Q (o.getD z) H3
section
variable {X:Cx}{o e f:Expr}{apos cpos:Pos}{td ty tx:TE}
theorem Es (hu:X.A.units+1<cLine) (ho:PE X o td) (he:PE X e ty) (hf:PE X f tx) (m:M2 X o "get" apos e f cpos):PE X (.Call (.Attribute o "get" apos) [e,f] [] cpos) (Sa td ty tx):=by
 intro Xbs s σ H Q I h;refine wpAny_Call_method m.base m.few m.line PySem.F.plainAttrs_dict PySem.F.slot_dict_get PySem.F.type_dict_get (Q8 (ho Xbs s σ H _ I h) fun u s1 ⟨x,H1,I1,rx,a,ex,d,q1⟩=>?_)
 subst ex;obtain rfl:u=Value.ref a:=rx
 obtain⟨t1,t2,_⟩:=R6 I1 d
 refine⟨t1,t2,?_⟩
 rw[m.trees];refine Calls.callWith_builtin rfl (Calls.evalArgs_plain (Calls.spliced_cons (Q8 (he Xbs s1 σ H1 _ I1 q1) fun iv s2 ⟨y,H2,I2,ry,q2⟩ =>
  Calls.spliced_cons (Q8 (hf Xbs s2 σ H2 _ I2 q2) fun fv s3 ⟨z,H3,I3,rz,ov,g,q3⟩=>Calls.spliced_nil ?_))))
 exact FU hu I3 g ry rz fun w' s4 I4 rw'=>⟨_,H3,I4,rw',q3⟩
end
section
variable {X:Cx}{Xbs:Qc}{σ:St}{H:Hp}{s:Shared}{a:Addr}{kvs:List (Key×V)}{A:Around}{E:Qb}
end
section
variable {X:Cx}{Xbs:Qc}{σ:St}{H:Hp}{s:Shared}{a:Addr}{y:V}{u:Value}{A:Around}{E:Qb}
end
end L2
namespace Mir
theorem PH {g:Qn}{l:Nat}(h:∀c,c<=l->g c=0):∀m,Qv g (l+1+m)=Qv (fun j=>g (l+1+j)) m
 |0=>by
   show Qv g (l+1)=0
   rw[Zb (g:=fun _=>0) fun k hk=>h k (by omega),VF]
 |m+1=>by
   show Qv g (l+1+m)+g (l+1+m)=_
   rw[PH h m];rfl
theorem Lo (y:Yd)(b own:Qn)(l:Nat):∀m,Je y b own l m=Qv (fun j=>if QS y (l+1+j)=some l then passes y b own (l+1+j) else 0) m
 |0=>rfl
 |m+1=>by simp only[Je,Qv];rw[Lo y b own l m]
theorem UC {y:Yd}(ok:y.Ok){c l:Nat}(hc:c<y.ls.length)(e:QS y c=some l):l<c:=by
 by_cases h0:c=0
 ·subst h0;rw[ok.up0]at e;cases e
 ·obtain⟨a,ea,la⟩:=ok.ups c (by omega) hc
  rw[ea]at e;cases e
  exact la
theorem PU {y:Yd}(ok:y.Ok)(b own:Qn){l:Nat}(hl:l<y.ls.length):Vp y b own l=own l+Qv (fun c=>if QS y c=some l then passes y b own c else 0) y.ls.length:=by
 rw[EC ok,Lo];have e:y.ls.length=l+1+(y.ls.length-1-l):=by omega
 have h:=PH (g:=fun c=>if QS y c=some l then passes y b own c else 0) (l:=l) (fun c hc=>Xb fun z=>by
  have:=UC ok (by omega) z
  omega) (y.ls.length-1-l)
 rw[<- e]at h;rw[h]
section
variable (y:Yd)(b own:Qn)
end
section
variable {y:Yd}{b own:Qn}
theorem Pd (ok:y.Ok):upL y 0=[0]:=by
 have:=ok.l1
 rw[RC ok (by omega),Xc rfl]
end
end Mir
namespace Mir
def ind (p:Prop) [Decidable p]:Int:=if p then 1 else 0
theorem SW {y:Yd}(ok:y.Ok)(l:Nat)(hl:l<y.ls.length):∀n j,j<n->j<y.ls.length ->
 ind (l∈upL y j)=ind (j=l)+Qv (fun c=>if QS y c=some l then ind (c∈upL y j) else 0) y.ls.length
 |0,j,h,_=>by omega
 |n+1,j,h,hj=>by
   by_cases e:j=l
   ·subst e
    have z:Qv (fun c=>if QS y c=some j then ind (c∈upL y j) else 0) y.ls.length=0:=by
     rw[Zb (g:=fun _=>0) fun c hc=>?_,VF]
     by_cases u:QS y c=some j
     ·have:=UC ok hc u
      have w:¬c∈upL y j:=fun z=>by have:=RV y j c z;omega
      simp[u,ind,w]
     ·simp[u]
    rw[z];simp[ind,HW]
   ·by_cases j0:j=0
    ·subst j0
     have w:¬l∈upL y 0:=fun z=>by rw[Pd ok]at z;simp at z;exact e z.symm
     have z:Qv (fun c=>if QS y c=some l then ind (c∈upL y 0) else 0) y.ls.length=0:=by
      rw[Zb (g:=fun _=>0) fun c hc=>?_,VF]
      by_cases u:QS y c=some l
      ·have c0:¬c∈upL y 0:=fun z=>by
        rw[Pd ok]at z;simp at z
        subst z;rw[ok.up0]at u;cases u
       simp[u,ind,c0]
      ·simp[u]
     rw[z];simp[ind,w,e]
    ·obtain⟨a,ea,la⟩:=ok.ups j (by omega) hj
     have ih:=SW ok l hl n a (by omega) (by omega)
     have m1:(l∈upL y j)↔(l∈upL y a):=Ha ok (by omega) hj ea l (fun z=>e z.symm)
     have e1:ind (l∈upL y j)=ind (l∈upL y a):=by unfold ind;simp only[m1]
     have e2:∀c,c<y.ls.length->(if QS y c=some l then ind (c∈upL y j) else 0)=(if QS y c=some l then ind (c∈upL y a) else 0)+(if c=j then ind (a=l) else 0):=by
      intro c hc;by_cases z:c=j
      ·subst z
       have w:¬c∈upL y a:=fun q=>by have:=RV y a c q;omega
       rw[ea];by_cases q:a=l
       ·subst q;simp[ind,HW,w]
       ·have:¬some a=some l:=fun z=>q (by injection z)
        simp[ind,q]
      ·have m2:(c∈upL y j)↔(c∈upL y a):=Ha ok (by omega) hj ea c z
       have:ind (c∈upL y j)=ind (c∈upL y a):=by unfold ind;simp only[m2]
       rw[this,Xb z,U0]
     rw[e1,ih,Zb e2,W4,Uc,Xc hj];have:ind (j=l)=0:=by unfold ind;rw[Xb e]
     omega
def Vc (y:Yd)(m:Nat)(ln:Nat->Nat)(f:Qn)(l:Nat):Int:=Qv (fun k=>f k*ind (l∈upL y (ln k))) m
theorem GT {y:Yd}(ok:y.Ok){m:Nat}{ln:Nat->Nat}(hln:∀k,k<m->ln k<y.ls.length)(f:Qn){l:Nat}(hl:l<y.ls.length) :
 Vc y m ln f l=Qv (fun k=>f k*ind (ln k=l)) m+Qv (fun c=>if QS y c=some l then Vc y m ln f c else 0) y.ls.length:=by
 unfold Vc;have h1:∀k,k<m->f k*ind (l∈upL y (ln k))=f k*ind (ln k=l)+Qv (fun c=>if QS y c=some l then f k*ind (c∈upL y (ln k)) else 0) y.ls.length:=by
  intro k hk;rw[SW ok l hl _ (ln k) (Uy _) (hln k hk),WC,<- Jb];congr 1
  refine Zb fun c _=>?_
  by_cases u:QS y c=some l
  ·rw[Xc u,Xc u]
  ·rw[Xb u,Xb u,Int.mul_zero]
 rw[Zb h1,W4,Mg];congr 1
 refine Zb fun c _=>?_
 by_cases u:QS y c=some l
 ·simp only[Xc u]
 ·simp only[Xb u]
  rw[VF]
theorem no_more {y:Yd}(ok:y.Ok){m:Nat}{ln:Nat->Nat}(hln:∀k,k<m->ln k<y.ls.length){f:Qn}{b own:Qn}(ho:∀l,l<y.ls.length->Qv (fun k=>f k*ind (ln k=l)) m<=own l)(hb:∀l,l<y.ls.length->Vc y m ln f l<=b l) :
 ∀n l,y.ls.length<=l+n->l<y.ls.length->Vc y m ln f l<=passes y b own l
 |0,l,h,hl=>by omega
 |n+1,l,h,hl=>by
   have h1:Vc y m ln f l<=Vp y b own l:=by
    rw[GT ok hln f hl,PU ok b own hl];refine Int.add_le_add (ho l hl) (Vs fun c hc=>?_)
    by_cases u:QS y c=some l
    ·rw[Xc u,Xc u]
     have:=UC ok hc u
     exact no_more ok hln ho hb n c (by omega) hc
    ·rw[Xb u,Xb u]
     exact Jg _
   have h2:=hb l hl
   unfold passes;omega
end Mir
namespace Mir
section
variable (y:Yd)(lf:(Nat->Qn)->Nat->Qn)(gs:Nat->Gs)
end
section
variable {y:Yd}{lf:(Nat->Qn)->Nat->Qn}{gs:Nat->Gs}{m:Nat}
end
end Mir
namespace Mir
structure Fr where
 t:Nat
 b:Nat
 deriving DecidableEq
def Fr.Ok (f:Fr):Prop:=0<f.b/\Nat.gcd f.t f.b=1
def phi (B:Nat)(f:Fr):Nat:=f.t*(B/f.b)
theorem Sz {B:Nat}{f:Fr}(h:f.b∣B):phi B f*f.b=f.t*B:=by
 unfold phi;rw[JE,Nat.div_mul_cancel h]
theorem GC {B:Nat}(hB:0<B){f g:Fr}(hf:f.b∣B)(hg:g.b∣B)(f0:0<f.b)(g0:0<g.b):g.t*f.b<f.t*g.b↔phi B g<phi B f:=by
 have e1:=Sz hf
 have e2:=Sz hg
 have p:0<f.b*g.b:=Nat.mul_pos f0 g0
 have k1:phi B g*(f.b*g.b)=(g.t*f.b)*B:=by
  rw[Uz f.b g.b,<- JE,e2,JE,Uz B,<- JE]
 have k2:phi B f*(f.b*g.b)=(f.t*g.b)*B:=by
  rw[<- JE,e1,JE,Uz B,<- JE]
 constructor
 ·intro h
  have:(g.t*f.b)*B<(f.t*g.b)*B:=Nat.mul_lt_mul_of_pos_right h hB
  rw[<- k1,<- k2]at this;exact Nat.lt_of_mul_lt_mul_right this
 ·intro h
  have:phi B g*(f.b*g.b)<phi B f*(f.b*g.b):=Nat.mul_lt_mul_of_pos_right h p
  rw[k1,k2]at this;exact Nat.lt_of_mul_lt_mul_right this
theorem NS {f g:Fr}(hf:f.Ok)(hg:g.Ok)(h:f.t*g.b=g.t*f.b):f=g:=by
 have d1:f.b∣g.b:=by
  have:f.b∣f.t*g.b:=by rw[h];exact Nat.dvd_mul_left ..
  exact(Nat.Coprime.dvd_of_dvd_mul_left (show Nat.Coprime f.b f.t by rw[Nat.Coprime,Nat.gcd_comm];exact hf.2) this)
 have d2:g.b∣f.b:=by
  have:g.b∣g.t*f.b:=by rw[<- h];exact Nat.dvd_mul_left ..
  exact(Nat.Coprime.dvd_of_dvd_mul_left (show Nat.Coprime g.b g.t by rw[Nat.Coprime,Nat.gcd_comm];exact hg.2) this)
 have e:f.b=g.b:=Nat.dvd_antisymm d1 d2
 have e2:f.t=g.t:=by
  rw[e]at h;exact Nat.eq_of_mul_eq_mul_right hg.1 h
 cases f
 cases g
 simp at e e2
 rw[e,e2]
theorem CW {B:Nat}(hB:0<B){f g:Fr}(hf:f.Ok)(hg:g.Ok)(df:f.b∣B)(dg:g.b∣B)(h:phi B f=phi B g):f=g:=by
 have a:=GC hB df dg hf.1 hg.1
 have b:=GC hB dg df hg.1 hf.1
 refine NS hf hg ?_
 have n1:¬g.t*f.b<f.t*g.b:=fun z=>by have:=a.mp z;omega
 have n2:¬f.t*g.b<g.t*f.b:=fun z=>by have:=b.mp z;omega
 omega
def Gw (f g:Fr):Bool:=decide (g.t*f.b<f.t*g.b)
def Y9 (f:Fr)(rows:List Fr):Nat:=(rows.takeWhile (Gw f)).length
def WF (f:Fr)(rows:List Fr):List Fr:=rows.take (Y9 f rows)++f::rows.drop (Y9 f rows)
def YD (xs:List Fr):List Fr:=xs.foldl (fun rows f=>WF f rows) []
theorem T3 (f:Fr)(rows:List Fr):(WF f rows).Perm (f::rows):=by
 unfold WF;have h:=List.perm_middle (a:=f) (l₁:=rows.take (Y9 f rows)) (l₂:=rows.drop (Y9 f rows))
 rwa [List.take_append_drop]at h
theorem TD:∀(xs acc:List Fr),(xs.foldl (fun rows f=>WF f rows) acc).Perm (acc++xs)
 |[],acc=>by simp
 |f::xs,acc=>by
   have h:=TD xs (WF f acc)
   refine h.trans ?_
   refine((T3 f acc).append_right xs).trans ?_
   exact(List.perm_middle (a:=f) (l₁:=acc) (l₂:=xs)).symm
theorem GY (xs:List Fr):(YD xs).Perm xs:=by
 have:=TD xs []
 simpa [YD] using this
theorem Pg (f:Fr):∀rows:List Fr,∀g∈rows.take (Y9 f rows),Gw f g=true
 |[],g,h=>by simp at h
 |r::rows,g,h=>by
   unfold Y9 at h;by_cases c:Gw f r=true
   ·rw[ML,Xc c,XJ,List.take_succ_cons]at h
    rcases Xg.mp h with rfl|h
    ·exact c
    ·exact Pg f rows g h
   ·rw[ML,Xb c]at h
    simp at h
theorem Pu (f:Fr):∀rows:List Fr,∀g r,rows.drop (Y9 f rows)=g::r->Gw f g=false
 |[],g,r,h=>by simp at h
 |x::rows,g,r,h=>by
   unfold Y9 at h;by_cases c:Gw f x=true
   ·rw[ML,Xc c,XJ,List.drop_succ_cons]at h
    exact Pu f rows g r h
   ·rw[ML,Xb c]at h
    simp at h
    rw[<- h.1];simpa using c
section
variable {B:Nat}(hB:0<B)
theorem ZlZ (hB:0<B){f:Fr}{rows:List Fr}(hf:f.b∣B)(f0:0<f.b)(hr:∀g∈rows,g.b∣B/\0<g.b)(h:rows.Pairwise (fun a b=>phi B a<=phi B b)):(WF f rows).Pairwise (fun a b=>phi B a<=phi B b):=by
 have lt:∀g∈rows.take (Y9 f rows),phi B g<phi B f:=fun g hg=>by
  obtain⟨d,p⟩:=hr g (List.mem_of_mem_take hg)
  exact(GC hB hf d f0 p).mp (Xz (Pg f rows g hg))
 have hp:=h
 rw[<- List.take_append_drop (Y9 f rows) rows,List.pairwise_append]at hp;obtain⟨p1,p2,p3⟩:=hp
 have ge:∀g∈rows.drop (Y9 f rows),phi B f<=phi B g:=by
  cases e:rows.drop (Y9 f rows) with
  |nil=>intro g hg;cases hg
  |cons x r =>
    have hx:=YU (Pu f rows x r e)
    obtain⟨d,p⟩:=hr x (MS (by rw[e];exact Xd))
    have h1:phi B f<=phi B x:=by
     have:¬phi B x<phi B f:=fun z=>hx ((GC hB hf d f0 p).mpr z)
     omega
    rw[e]at p2;obtain⟨q1,q2⟩:=MJ.mp p2
    intro g hg;rcases Xg.mp hg with rfl|hg
    ·exact h1
    ·exact XN h1 (q1 g hg)
 unfold WF;rw[List.pairwise_append];refine⟨p1,MJ.mpr ⟨ge,p2⟩,fun a ha b hb=>?_⟩
 rcases Xg.mp hb with rfl|hb
 ·exact XZ (lt a ha)
 ·exact XN (XZ (lt a ha)) (ge b hb)
theorem Lb (hB:0<B):∀(xs acc:List Fr),(∀g∈xs,g.b∣B/\0<g.b)->(∀g∈acc,g.b∣B/\0<g.b)->acc.Pairwise (fun a b=>phi B a<=phi B b)->(xs.foldl (fun rows f=>WF f rows) acc).Pairwise (fun a b=>phi B a<=phi B b)
 |[],acc,_,_,h=>h
 |f::xs,acc,hx,ha,h=>by
   obtain⟨d,p⟩:=hx f Xd
   refine Lb hB xs (WF f acc) (fun g hg=>hx g (Xe _ hg)) (fun g hg=>?_) (ZlZ hB d p ha h)
   rcases Xg.mp ((T3 f acc).mem_iff.mp hg) with rfl|hg
   ·exact⟨d,p⟩
   ·exact ha g hg
theorem ZlS (hB:0<B){xs:List Fr}(hx:∀g∈xs,g.b∣B/\0<g.b):(YD xs).Pairwise (fun a b=>phi B a<=phi B b):=Lb hB xs [] hx (fun g hg=>(nomatch hg)) List.Pairwise.nil
end
def Gn:List Fr->List Fr->Bool
 |f::fs,g::gs=>if f=g then Gn fs gs else decide (g.t*f.b<f.t*g.b)
 |_,_=>false
theorem Ex {B:Nat}(hB:0<B){f g:Fr}(hf:f.Ok)(hg:g.Ok)(df:f.b∣B)(dg:g.b∣B):((phi B f:Int)=(phi B g:Int)↔f=g)/\((phi B g:Int)<(phi B f:Int)↔g.t*f.b<f.t*g.b):=by
 refine⟨⟨fun h=>CW hB hf hg df dg (by omega),fun h=>by rw[h]⟩,?_⟩
 rw[GC hB df dg hf.1 hg.1];omega
end Mir
namespace Mir
theorem S7 {y:Yd}{m:Nat}{ln:Nat->Nat}{f g:Qn}(h:∀k,k<m->f k<=g k)(l:Nat):Vc y m ln f l<=Vc y m ln g l :=
 Vs fun k hk=>by
  unfold ind;split
  ·have:=h k hk;omega
  ·omega
theorem CD {y:Yd}{m:Nat}{ln:Nat->Nat}{f:Qn}(h:∀k,k<m->0<=f k)(l:Nat):0<=Vc y m ln f l :=
 GG fun k hk=>by
  unfold ind;split
  ·have:=h k hk;omega
  ·omega
structure Shut (y:Yd)(m:Nat)(ln:Nat->Nat)(f mo:Qn)(b:Qn)(S R:Qm):Prop where
 nn:∀k,k<m->0<=f k
 full:∀k,k<m->S k=true->R (ln k)=false->f k=mo k
 none:∀k,k<m->S k=false->R (ln k)=true->f k=0
 top:R 0=true->Vc y m ln f 0=b 0
 out:∀c a,c<y.ls.length->QS y c=some a->R c=true->R a=false->Vc y m ln f c=b c
 inn:∀c a,c<y.ls.length->QS y c=some a->R c=false->R a=true->Vc y m ln f c=0
def Zh (S:Qm)(f:Qn):Qn:=fun k=>if S k=true then f k else 0
theorem HM {S:Qm}{f:Qn}{k:Nat}(h:0<=f k):Zh S f k<=f k:=by
 unfold Zh;split<;>omega
theorem Pv {S:Qm}{f:Qn}{k:Nat}(h:0<=f k):0<=Zh S f k:=by
 unfold Zh;split<;>omega
theorem Shut.alike {y:Yd}(ok:y.Ok){m:Nat}{ln:Nat->Nat}(hln:∀k,k<m->ln k<y.ls.length){f mo b:Qn}{S R:Qm}(h:Shut y m ln f mo b S R) :
 ∀n l,y.ls.length<=l+n->l<y.ls.length->R l=true->Vc y m ln f l=Vc y m ln (Zh S f) l
 |0,l,h0,hl,_=>by omega
 |n+1,l,h0,hl,hR=>by
   rw[GT ok hln f hl,GT ok hln (Zh S f) hl];congr 1
   ·refine Zb fun k hk=>?_
    by_cases e:ln k=l
    ·have:f k=Zh S f k:=by
      unfold Zh;cases s:S k with
      |true=>simp
      |false=>simp;exact h.none k hk s (by rw[e];exact hR)
     rw[this]
    ·simp[ind,e]
   ·refine Zb fun c hc=>?_
    by_cases u:QS y c=some l
    ·rw[Xc u,Xc u]
     have:=UC ok hc u
     cases r:R c with
     |true=>exact Shut.alike ok hln h n c (by omega) hc r
     |false =>
       have e:=h.inn c l hc u r hR
       have q1:=S7 (y:=y) (ln:=ln) (f:=Zh S f) (g:=f) (fun k hk=>HM (S:=S) (h.nn k hk)) c
       have q2:=CD (y:=y) (ln:=ln) (f:=Zh S f) (fun k hk=>Pv (S:=S) (h.nn k hk)) c
       omega
    ·rw[Xb u,Xb u]
theorem Shut.all {y:Yd}(ok:y.Ok){m:Nat}{ln:Nat->Nat}(hln:∀k,k<m->ln k<y.ls.length){f mo b own:Qn}{S R:Qm}(h:Shut y m ln f mo b S R)
 (ho:∀l,l<y.ls.length->own l=Qv (fun k=>Zh S mo k*ind (ln k=l)) m) :
 ∀n l,y.ls.length<=l+n->l<y.ls.length->(R l=true->l=0\/∃a,QS y l=some a/\R a=false)->passes y b own l<=Vc y m ln (Zh S f) l
 |0,l,h0,hl,_=>by omega
 |n+1,l,h0,hl,hU=>by
   cases r:R l with
   |true =>
     have e:Vc y m ln f l=b l:=by
      rcases hU r with z|⟨a,u,ra⟩
      ·subst z;exact h.top r
      ·exact h.out l a hl u r ra
     rw[<- h.alike ok hln (n+1) l h0 hl r,e];unfold passes;omega
   |false =>
     have h1:Vp y b own l<=Vc y m ln (Zh S f) l:=by
      rw[GT ok hln _ hl,PU ok b own hl];refine Int.add_le_add ?_ (Vs fun c hc=>?_)
      ·rw[ho l hl]
       refine Vs fun k hk=>?_
       by_cases e:ln k=l
       ·have:Zh S mo k=Zh S f k:=by
         unfold Zh;cases s:S k with
         |true=>simp;exact(h.full k hk s (by rw[e];exact r)).symm
         |false=>simp
        rw[this];exact Jg _
       ·simp[ind,e]
      ·by_cases u:QS y c=some l
       ·rw[Xc u,Xc u]
        have:=UC ok hc u
        exact Shut.all ok hln h ho n c (by omega) hc (fun _=>.inr ⟨l,u,r⟩)
       ·rw[Xb u,Xb u]
        exact Jg _
     unfold passes;omega
end Mir
namespace Mir
section
variable {ν:Type} [DecidableEq ν]
abbrev Lay (ν:Type):=List (ν×ν×Int)
abbrev QU (ν:Type):=ν->ν->Int
def Wt (L:Lay ν):List ν:=L.flatMap fun x=>[x.2.1,x.1]
def V1 (L:Lay ν)(φ:QU ν):Ql:=L.flatMap fun x=>[x.2.2-φ x.1 x.2.1,φ x.1 x.2.1]
def Dis (L:Lay ν):Prop:=(L.map fun x=>(x.1,x.2.1)).Nodup
def VI (φ:QU ν)(s e:ν)(a:Int):QU ν:=fun p q=>if p=s/\q=e then φ p q+a else φ p q
theorem DS {α β:Type}(f g:α->β):∀(L:List α) (e:Nat),(L.flatMap fun x=>[f x,g x])[e]?=L[e/2]?.map (if e%2=0 then f else g)
 |[],e=>by simp
 |x::L,0=>by simp
 |x::L,1=>by simp
 |x::L,e+2=>by
   have h:=DS f g L e
   have e1:(e+2)/2=e/2+1:=by omega
   have e2:(e+2)%2=e%2:=by omega
   rw[e1,e2,MI,MO];simpa using h
def hdE (L:Lay ν)(e:Nat):Option ν:=L[e/2]?.map fun x=>if e%2=0 then x.2.1 else x.1
def tlE (L:Lay ν)(e:Nat):Option ν:=L[e/2]?.map fun x=>if e%2=0 then x.1 else x.2.1
def rmE (L:Lay ν)(φ:QU ν)(e:Nat):Option Int:=L[e/2]?.map fun x=>if e%2=0 then x.2.2-φ x.1 x.2.1 else φ x.1 x.2.1
theorem Hj (L:Lay ν)(e:Nat):(Wt L)[e]?=hdE L e:=by
 unfold Wt hdE;rw[DS];congr 1
 split<;>rfl
theorem UU (L:Lay ν)(φ:QU ν)(e:Nat):(V1 L φ)[e]?=rmE L φ e:=by
 unfold V1 rmE;rw[DS];congr 1
 split<;>rfl
def Zfb (e:Nat):Nat:=if e%2=0 then e+1 else e-1
theorem IF (L:Lay ν)(e:Nat):(Wt L)[Zfb e]?=tlE L e:=by
 rw[Hj];unfold hdE tlE Zfb;by_cases h:e%2=0
 ·have h1:(e+1)/2=e/2:=by omega
  have h2:¬(e+1)%2=0:=by omega
  simp only[h,if_true,h1,h2,if_false]
 ·have h1:(e-1)/2=e/2:=by omega
  have h2:(e-1)%2=0:=by omega
  simp only[h,if_false,h1,h2,if_true]
def ZX (L:Lay ν)(F:ν->ν->Int):Int:=(L.map fun x=>F x.1 x.2.1).sum
def Vz (L:Lay ν)(φ:QU ν)(n:ν):Int:=ZX L fun s e=>φ s e*(ind (s=n)-ind (e=n))
theorem OD {φ:QU ν}{s e:ν}{a:Int}{L:Lay ν}(h:(s,e)∉L.map fun x=>(x.1,x.2.1))(G:Int->ν->ν->Int) :
 ZX L (fun p q=>G (VI φ s e a p q) p q)=ZX L fun p q=>G (φ p q) p q:=by
 unfold ZX;congr 1
 refine X4 fun x hx=>?_
 have:¬(x.1=s/\x.2.1=e):=fun⟨z1,z2⟩=>h (Xw.mpr ⟨x,hx,by rw[z1,z2]⟩)
 unfold VI;dsimp only;rw[Xb this]
theorem Tj {φ:QU ν}{a:Int}(G:Int->ν->ν->Int):∀{L:Lay ν},Dis L->∀{x:ν×ν×Int},x∈L ->
 ZX L (fun p q=>G (VI φ x.1 x.2.1 a p q) p q)=ZX L (fun p q=>G (φ p q) p q)-G (φ x.1 x.2.1) x.1 x.2.1+G (φ x.1 x.2.1+a) x.1 x.2.1
 |[],_,_,h=>by cases h
 |y::L,hd,x,h=>by
   unfold Dis at hd;rw[Xt,X3]at hd;rcases Xg.mp h with rfl|h
   ·have:=OD (φ:=φ) (a:=a) hd.1 G
    have e:VI φ x.1 x.2.1 a x.1 x.2.1=φ x.1 x.2.1+a:=by unfold VI;rw[Xc ⟨rfl,rfl⟩]
    unfold ZX at this ⊢;rw[Xt,WA,Xt,WA,this];dsimp only;rw[e];omega
   ·have ih:=Tj (φ:=φ) (a:=a) G (L:=L) hd.2 h
    have ne:¬(y.1=x.1/\y.2.1=x.2.1):=fun⟨z1,z2⟩=>hd.1 (Xw.mpr ⟨x,h,by rw[z1,z2]⟩)
    have e:VI φ x.1 x.2.1 a y.1 y.2.1=φ y.1 y.2.1:=by unfold VI;rw[Xb ne]
    unfold ZX at ih ⊢;rw[Xt,WA,Xt,WA,ih];dsimp only;rw[e];omega
def VV (L:Lay ν)(a:Int)(φ:QU ν)(e:Nat):QU ν :=
 match L[e/2]? with
 |some x=>VI φ x.1 x.2.1 (if e%2=0 then a else -a)
 |none=>φ
theorem Ov {L:Lay ν}(hd:Dis L){φ:QU ν}{a:Int}{e:Nat}{s t:ν}(ht:hdE L e=some t)(hs:tlE L e=some s)(n:ν) :
 Vz L (VV L a φ e) n=Vz L φ n+a*(ind (s=n)-ind (t=n)):=by
 unfold hdE at ht;unfold tlE at hs;cases ex:L[e/2]? with
 |none=>rw[ex]at ht;cases ht
 |some x =>
   rw[ex]at ht hs;have hx:x∈L:=List.mem_of_getElem? ex
   have hp:VV L a φ e=VI φ x.1 x.2.1 (if e%2=0 then a else -a):=by unfold VV;rw[ex]
   rw[hp];unfold Vz;rw[Tj (fun v p q=>v*(ind (p=n)-ind (q=n))) hd hx]
   simp only[XS,Option.some.injEq]at ht hs;by_cases z:e%2=0
   ·rw[Xc z]at ht hs ⊢
    subst ht hs;rw[Uq];omega
   ·rw[Xb z]at ht hs ⊢
    subst ht hs;rw[Uq,Int.neg_mul,Ye a,Ye a];omega
inductive Chain (L:Lay ν)(s:ν):ν->Qk->Prop
 |nil:Chain L s s []
 |cons {n m:ν} {e:Nat} {w:Qk} (h:hdE L e=some n) (t:tlE L e=some m) (c:Chain L s m w):Chain L s n (e::w)
def YZ (L:Lay ν)(a:Int)(φ:QU ν)(w:Qk):QU ν:=w.foldl (VV L a) φ
theorem HB {L:Lay ν}(hd:Dis L){s:ν}{a:Int}(p:ν):∀{w:Qk} {n:ν} {φ:QU ν},Chain L s n w->Vz L (YZ L a φ w) p=Vz L φ p+a*(ind (s=p)-ind (n=p))
 |_,_,φ,.nil=>by
   show Vz L φ p=_
   rw[Int.sub_self,Int.mul_zero,U0]
 |e::w,n,φ,.cons (m:=m) h t c=>by
   show Vz L (YZ L a (VV L a φ e) w) p=_
   rw[HB hd p c,Ov hd h t,Ye,Ye,Ye];omega
def Within (L:Lay ν)(φ:QU ν):Prop := ∀x∈L,0<=φ x.1 x.2.1/\φ x.1 x.2.1<=x.2.2
theorem He:∀{L:Lay ν},Dis L->∀{i j:Nat} {x y:ν×ν×Int},L[i]?=some x->L[j]?=some y->x.1=y.1->x.2.1=y.2.1->i=j:=fun{L} hd {i j x y} hi hj e1 e2=>by
 have a:(L.map fun x=>(x.1,x.2.1))[i]?=some (x.1,x.2.1):=by rw[Xk,hi];rfl
 have b:(L.map fun x=>(x.1,x.2.1))[j]?=some (x.1,x.2.1):=by rw[Xk,hj,e1,e2];rfl
 have li:i<(L.map fun x=>(x.1,x.2.1)).length:=(Xh.mp a).1
 exact(List.getElem?_inj li hd).mp (a.trans b.symm)
theorem Zkn {L:Lay ν}(hd:Dis L){φ:QU ν}(h:Within L φ){a:Int}(ha:0<=a){e:Nat}{r:Int}(he:rmE L φ e=some r)(hr:a<=r):Within L (VV L a φ e):=by
 unfold rmE at he;cases ex:L[e/2]? with
 |none=>rw[ex]at he;cases he
 |some x =>
   rw[ex]at he;simp only[XS,Option.some.injEq]at he;have hx:=h x (List.mem_of_getElem? ex)
   intro y hy;have hyv:=h y hy
   have hp:VV L a φ e=VI φ x.1 x.2.1 (if e%2=0 then a else -a):=by unfold VV;rw[ex]
   rw[hp];unfold VI;by_cases z:y.1=x.1/\y.2.1=x.2.1
   ·rw[Xc z]
    obtain⟨j,hj⟩:=List.mem_iff_getElem?.mp hy
    have ij:=He hd hj ex z.1 z.2
    subst ij;rw[ex]at hj;cases hj
    by_cases q:e%2=0
    ·rw[Xc q]at he ⊢;omega
    ·rw[Xb q]at he ⊢;omega
   ·rw[Xb z];exact hyv
theorem IQ {L:Lay ν}(hd:Dis L){φ:QU ν}{a:Int}(ha:0<=a){e e':Nat}(ne:e'≠e){r:Int}(he:rmE L φ e'=some r):∃r',rmE L (VV L a φ e) e'=some r'/\r<=r':=by
 unfold rmE at he ⊢;cases ey:L[e'/2]? with
 |none=>rw[ey]at he;cases he
 |some y =>
   rw[ey]at he;simp only[XS,Option.some.injEq]at he ⊢;refine⟨_,rfl,?_⟩
   unfold VV;cases ex:L[e/2]? with
   |none=>simp only[];omega
   |some x =>
     simp only[];unfold VI;by_cases z:y.1=x.1/\y.2.1=x.2.1
     ·rw[Xc z]
      have ij:=He hd ey ex z.1 z.2
      by_cases q:e%2=0
      ·have q':¬e'%2=0:=by omega
       rw[Xb q']at he ⊢;rw[Xc q];omega
      ·have q':e'%2=0:=by omega
       rw[Xc q']at he ⊢;rw[Xb q];omega
     ·rw[Xb z];omega
theorem TQ {L:Lay ν}(hd:Dis L){a:Int}(ha:0<=a):∀{w:Qk} {φ:QU ν},Within L φ->w.Nodup->(∀e∈w,∃r,rmE L φ e=some r/\a<=r)->Within L (YZ L a φ w)
 |[],_,h,_,_=>h
 |e::w,φ,h,hn,hw=>by
   obtain⟨h1,h2⟩:=X3.mp hn
   obtain⟨r,er,lr⟩:=hw e Xd
   show Within L (YZ L a (VV L a φ e) w)
   refine TQ hd ha (Zkn hd h ha er lr) h2 fun e' he'=>?_
   obtain⟨r',er',lr'⟩:=hw e' (Xe _ he')
   obtain⟨q,eq,lq⟩:=IQ hd ha (e:=e) (fun z=>h1 (z▸he')) er'
   exact⟨q,eq,by omega⟩
abbrev Got (ν:Type):=List (ν×Option Nat)
def QX (es:Got ν):List ν:=es.map (·.1)
inductive Tree (L:Lay ν)(φ:QU ν)(s:ν):Got ν->Prop
 |root:Tree L φ s [(s,none)]
 |add {es:Got ν} {e:Nat} {n m:ν} {r:Int} (t:Tree L φ s es) (hn:n∉QX es) (hh:hdE L e=some n) (ht:tlE L e=some m) (hm:m∈QX es) (hr:rmE L φ e=some r) (h0:0<r):Tree L φ s (es++[(n,some e)])
def Jo (es:Got ν)(n:ν):Option (Option Nat):=es.lookup n
theorem Zkg {es:Got ν}{n:ν}:n∉QX es->es.lookup n=none:=by
 induction es with
 |nil=>intro _;rfl
 |cons p es ih =>
   intro h;have h1:n≠p.1:=fun z=>h (by rw[z];exact Xd)
   have h2:n∉QX es:=fun z=>h (Xe _ z)
   obtain⟨k,v⟩:=p
   rw[XM];have:(n==k)=false:=by rw[beq_eq_false_iff_ne];exact h1
   rw[this];exact ih h2
theorem Kz {es fs:Got ν}{n:ν}:(es++fs).lookup n=(es.lookup n).or (fs.lookup n):=by
 induction es with
 |nil=>rfl
 |cons p es ih =>
   obtain⟨k,v⟩:=p
   rw[Uw,XM,XM];cases (n==k)
   ·exact ih
   ·rfl
inductive Back (L:Lay ν)(es:Got ν):ν->Qk->Prop
 |nil {n:ν} (h:Jo es n=some none):Back L es n []
 |cons {n m:ν} {e:Nat} {w:Qk} (h:Jo es n=some (some e)) (t:tlE L e=some m) (b:Back L es m w):Back L es n (e::w)
theorem Back.app {L:Lay ν}{es fs:Got ν}:∀{w:Qk} {n:ν},Back L es n w->Back L (es++fs) n w
 |_,_,.nil h=>.nil (by unfold Jo at h ⊢;rw[Kz,h];rfl)
 |_,_,.cons h t b=>.cons (by unfold Jo at h ⊢;rw[Kz,h];rfl) t b.app
structure WayOk (L:Lay ν)(φ:QU ν)(s:ν)(es:Got ν)(n:ν)(w:Qk):Prop where
 back:Back L es n w
 chain:Chain L s n w
 nodup:w.Nodup
 room:∀e∈w,∃r,rmE L φ e=some r/\0<r
 heads:∀e∈w,∃m,hdE L e=some m/\m∈QX es
theorem Tree.way {L:Lay ν}{φ:QU ν}{s:ν}:∀{es:Got ν},Tree L φ s es->∀n∈QX es,∃w,WayOk L φ s es n w
 |_,.root,n,hn=>by
   have e:n=s:=by simpa [QX] using hn
   subst e;exact⟨[],.nil (by simp[Jo]),.nil,Gg,(fun e h=>nomatch h),(fun e h=>nomatch h)⟩
 |_,.add (es:=es) (e:=e) (n:=k) (m:=m) t hk hh ht hm hr h0,n,hn=>by
   have hn':n∈QX es\/n=k:=by simpa [QX] using hn
   have sub:∀p,p∈QX es->p∈QX (es++[(k,some e)]):=fun p hp=>by
    unfold QX at hp ⊢;rw[Xy];exact JA _ hp
   rcases hn' with hn'|rfl
   ·obtain⟨w,q⟩:=t.way n hn'
    exact⟨w,q.back.app,q.chain,q.nodup,q.room,fun e' he'=>let ⟨m',a,b⟩:=q.heads e' he';⟨m',a,sub _ b⟩⟩
   ·obtain⟨w,q⟩:=t.way m hm
    refine⟨e::w,.cons ?_ ht q.back.app,.cons hh ht q.chain,X3.mpr ⟨fun z=>?_,q.nodup⟩,fun e' he'=>?_,fun e' he'=>?_⟩
    ·unfold Jo
     rw[Kz,Zkg hk];simp
    ·obtain⟨m',a,b⟩:=q.heads e z
     rw[hh]at a;cases a
     exact hk b
    ·rcases Xg.mp he' with rfl|he'
     ·exact⟨_,hr,h0⟩
     ·exact q.room e' he'
    ·rcases Xg.mp he' with rfl|he'
     ·exact⟨n,hh,by simp[QX]⟩
     ·obtain⟨m',a,b⟩:=q.heads e' he'
      exact⟨m',a,sub _ b⟩
theorem Tree.nodup {L:Lay ν}{φ:QU ν}{s:ν}:∀{es:Got ν},Tree L φ s es->(QX es).Nodup
 |_,.root=>by simp[QX]
 |_,.add (n:=k) t hk _ _ _ _ _=>by
   have:=t.nodup
   unfold QX at this hk ⊢;rw[Xy,Bt];refine⟨this,by simp,fun a ha b hb=>?_⟩
   have e:b=k:=by simpa using hb
   exact fun z=>hk (e▸z▸ha)
theorem Tree.start {L:Lay ν}{φ:QU ν}{s:ν}:∀{es:Got ν},Tree L φ s es->s∈QX es
 |_,.root=>by simp[QX]
 |_,.add t _ _ _ _ _ _=>by
   have:=t.start
   unfold QX at this ⊢;rw[Xy];exact JA _ this
theorem Tree.sub {L:Lay ν}{φ:QU ν}{s:ν}:∀{es:Got ν},Tree L φ s es->∀n∈QX es,n∈s::Wt L
 |_,.root,n,hn=>by
   have e:n=s:=by simpa [QX] using hn
   rw[e];exact Xd
 |_,.add (es:=es) (n:=k) t hk hh _ _ _ _,n,hn=>by
   have hn':n∈QX es\/n=k:=by simpa [QX] using hn
   rcases hn' with hn'|rfl
   ·exact t.sub n hn'
   ·exact Xe _ (List.mem_of_getElem? ((Hj L _).trans hh))
theorem HZ {α:Type} [DecidableEq α]:∀{xs ys:List α},xs.Nodup->(∀x∈xs,x∈ys)->xs.length<=ys.length
 |[],_,_,_=>Vl _
 |x::xs,ys,hd,h=>by
   obtain⟨h1,h2⟩:=X3.mp hd
   have hx:=h x Xd
   have:=HZ (xs:=xs) (ys:=ys.erase x) h2 fun z hz=>by
    have ne:z≠x:=fun q=>h1 (q▸hz)
    exact(List.mem_erase_of_ne ne).mpr (h z (Xe _ hz))
   rw[List.length_erase_of_mem hx]at this;have:0<ys.length:=List.length_pos_of_mem hx
   rw[XJ];omega
theorem Tree.len {L:Lay ν}{φ:QU ν}{s:ν}{es:Got ν}(t:Tree L φ s es):es.length<=(Wt L).length+1:=by
 have:=HZ t.nodup t.sub
 simpa [QX] using this
def VY (L:Lay ν)(φ:QU ν)(es:Got ν):Prop := ∀e m n r,tlE L e=some m->hdE L e=some n->rmE L φ e=some r->0<r->m∈QX es->n∈QX es
end
end Mir
namespace Mir
inductive Nd where
 |start|fin
 |guest (k:Nat)
 |line (l t:Nat)
deriving DecidableEq
structure Gv where
 m:Nat
 ln:Nat->Nat
 wa:Qn
 mo:Qn
 th:Nat->Qm
def upN (y:Yd)(l:Nat):Nat:=(QS y l).getD 0
def ZW (y:Yd)(G:Gv)(k:Nat):Lay Nd:=(.start,.guest k,G.wa k)::(List.range y.T).flatMap fun t=>if G.th k t=true then [(.guest k,.line (G.ln k) t,G.mo k)] else []
def V4 (y:Yd)(t:Nat):Lay Nd:=(.line 0 t,.fin,Zg y 0 t)::(List.range (y.ls.length-1)).flatMap fun i=>[(.line (i+1) t,.line (upN y (i+1)) t,Zg y (i+1) t)]
def Zk (y:Yd)(G:Gv):Lay Nd:=(List.range G.m).flatMap (ZW y G)++(List.range y.T).flatMap (V4 y)
theorem Po (A B:Lay Nd)(F:Nd->Nd->Int):ZX (A++B) F=ZX A F+ZX B F:=by
 unfold ZX;rw[Xy,Bm]
theorem Bc (f:Nat->Lay Nd)(F:Nd->Nd->Int):∀n,ZX ((List.range n).flatMap f) F=Qv (fun k=>ZX (f k) F) n
 |0=>rfl
 |n+1=>by
   rw[Y6,Ur,Po,Bc f F n];simp[Qv]
theorem P7 (x:Nd×Nd×Int)(F:Nd->Nd->Int):ZX [x] F=F x.1 x.2.1:=by simp[ZX]
theorem PB (x:Nd×Nd×Int)(L:Lay Nd)(F:Nd->Nd->Int):ZX (x::L) F=F x.1 x.2.1+ZX L F:=by simp[ZX]
theorem O6 (y:Yd)(G:Gv)(F:Nd->Nd->Int)(k:Nat):ZX (ZW y G k) F=F .start (.guest k)+Qv (fun t=>if G.th k t=true then F (.guest k) (.line (G.ln k) t) else 0) y.T:=by
 unfold ZW;rw[PB,Bc];congr 1
 refine Zb fun t _=>?_
 split
 ·rw[P7]
 ·rfl
theorem Oc (y:Yd)(F:Nd->Nd->Int)(t:Nat):ZX (V4 y t) F=F (.line 0 t) .fin+Qv (fun i=>F (.line (i+1) t) (.line (upN y (i+1)) t)) (y.ls.length-1):=by
 unfold V4;rw[PB,Bc];congr 1
 refine Zb fun t _=>?_
 rw[P7]
theorem Ke (y:Yd)(G:Gv)(F:Nd->Nd->Int):ZX (Zk y G) F =
 Qv (fun k=>F .start (.guest k)+Qv (fun t=>if G.th k t=true then F (.guest k) (.line (G.ln k) t) else 0) y.T) G.m +
 Qv (fun t=>F (.line 0 t) .fin+Qv (fun i=>F (.line (i+1) t) (.line (upN y (i+1)) t)) (y.ls.length-1)) y.T:=by
 unfold Zk;rw[Po,Bc,Bc];congr 1
 ·exact Zb fun k _=>O6 y G F k
 ·exact Zb fun t _=>Oc y F t
theorem Wg {y:Yd}{G:Gv}{x:Nd×Nd×Int}{k:Nat}:x∈ZW y G k↔x=(.start,.guest k,G.wa k)\/∃t,t<y.T/\G.th k t=true/\x=(.guest k,.line (G.ln k) t,G.mo k):=by
 unfold ZW;rw[Xg,Wl];refine or_congr Iff.rfl ⟨fun⟨t,ht,hx⟩=>?_,fun⟨t,ht,hc,hx⟩=>⟨t,Xr.mpr ht,by rw[Xc hc];exact Xn.mpr hx⟩⟩
 by_cases c:G.th k t=true
 ·rw[Xc c]at hx
  exact⟨t,Xr.mp ht,c,Xn.mp hx⟩
 ·rw[Xb c]at hx;cases hx
theorem WY {y:Yd}{x:Nd×Nd×Int}{t:Nat}:x∈V4 y t↔x=(.line 0 t,.fin,Zg y 0 t)\/∃i,i<y.ls.length-1/\x=(.line (i+1) t,.line (upN y (i+1)) t,Zg y (i+1) t):=by
 unfold V4;rw[Xg,Wl];exact or_congr Iff.rfl ⟨fun⟨i,hi,hx⟩=>⟨i,Xr.mp hi,Xn.mp hx⟩,fun⟨i,hi,hx⟩=>⟨i,Xr.mpr hi,Xn.mpr hx⟩⟩
theorem UQ {y:Yd}{G:Gv}{x:Nd×Nd×Int}:x∈Zk y G↔(∃k,k<G.m/\x∈ZW y G k)\/∃t,t<y.T/\x∈V4 y t:=by
 unfold Zk;rw[XG,Wl,Wl];simp only[Xr]
theorem BZ (n:Nat):(List.range n).Pairwise (· ≠ ·):=Bn
theorem Ma (y:Yd)(G:Gv):Dis (Zk y G):=by
 unfold Dis List.Nodup;rw[List.pairwise_map];unfold Zk;rw[List.pairwise_append];refine⟨?_,?_,?_⟩
 ·rw[MT]
  refine⟨fun k _=>?_,(BZ _).imp fun{k j} hkj x hx z hz=>?_⟩
  ·unfold ZW
   rw[MJ];refine⟨fun x hx=>?_,?_⟩
   ·obtain⟨t,_,hx⟩:=Wl.mp hx
    split at hx
    ·rw[Xn.mp hx];intro q;cases q
    ·cases hx
   ·rw[MT]
    refine⟨fun t _=>?_,(BZ _).imp fun{t u} htu x hx z hz=>?_⟩
    ·split
     ·exact List.pairwise_singleton _ _
     ·exact List.Pairwise.nil
    ·split at hx
     ·split at hz
      ·rw[Xn.mp hx,Xn.mp hz]
       intro q;simp at q
       exact htu q
      ·cases hz
     ·cases hx
  ·rcases Wg.mp hx with rfl|⟨t,_,_,rfl⟩<;>rcases Wg.mp hz with rfl|⟨u,_,_,rfl⟩<;>intro q<;>simp at q
   ·exact hkj q
   ·exact hkj q.1
 ·rw[MT]
  refine⟨fun t _=>?_,(BZ _).imp fun{t u} htu x hx z hz=>?_⟩
  ·unfold V4
   rw[MJ];refine⟨fun x hx=>?_,?_⟩
   ·obtain⟨i,_,hx⟩:=Wl.mp hx
    rw[Xn.mp hx];intro q;cases q
   ·rw[MT]
    refine⟨fun t _=>List.pairwise_singleton _ _,(BZ _).imp fun{i j} hij x hx z hz=>?_⟩
    rw[Xn.mp hx,Xn.mp hz];intro q;simp at q
    exact hij q.1
  ·rcases WY.mp hx with rfl|⟨i,_,rfl⟩<;>rcases WY.mp hz with rfl|⟨j,_,rfl⟩<;>intro q<;>simp at q
   ·exact htu q
   ·exact htu q.1.2
 ·intro x hx z hz
  obtain⟨k,_,hx⟩:=Wl.mp hx
  obtain⟨t,_,hz⟩:=Wl.mp hz
  rcases Wg.mp hx with rfl|⟨t',_,_,rfl⟩<;>rcases WY.mp hz with rfl|⟨j,_,rfl⟩<;>intro q<;>simp at q
end Mir
namespace Mir
def Zn (G:Gv)(φ:QU Nd)(t k:Nat):Int:=if G.th k t=true then φ (.guest k) (.line (G.ln k) t) else 0
def upF (y:Yd)(φ:QU Nd)(t l:Nat):Int:=if l=0 then φ (.line 0 t) .fin else φ (.line l t) (.line (upN y l) t)
theorem Kc (f:Qn):∀n,Qv f (n+1)=f 0+Qv (fun i=>f (i+1)) n
 |0=>by simp[Qv]
 |n+1=>by
   show Qv f (n+1)+f (n+1)=_
   rw[Kc f n];simp[Qv]
   omega
theorem ZL {p:Prop} [Decidable p] (h:¬p):ind p=0:=Xb h
theorem BP {p q:Prop} [Decidable p] [Decidable q] (h:p↔q):ind p=ind q:=by unfold ind;simp only[h]
theorem Zm6 (y:Yd)(G:Gv)(φ:QU Nd){k0:Nat}(hk:k0<G.m):Vz (Zk y G) φ (.guest k0)=Qv (fun t=>Zn G φ t k0) y.T-φ .start (.guest k0):=by
 unfold Vz;rw[Ke];have h2:Qv (fun t=>φ (.line 0 t) .fin*(ind (Nd.line 0 t=.guest k0)-ind (Nd.fin=.guest k0))+Qv (fun i=>φ (.line (i+1) t) (.line (upN y (i+1)) t)*(ind (Nd.line (i+1) t=.guest k0)-ind (Nd.line (upN y (i+1)) t=.guest k0))) (y.ls.length-1)) y.T=0:=by
  rw[Zb (g:=fun _=>0) fun t _=>?_,VF]
  rw[ZL (fun z=>nomatch z),ZL (fun z=>nomatch z),Zb (g:=fun _=>0) fun i _=>?_,VF]
  ·simp
  ·rw[ZL (fun z=>nomatch z),ZL (fun z=>nomatch z)];simp
 rw[h2,U0];rw[Zb (g:=fun k=>if k=k0 then Qv (fun t=>Zn G φ t k0) y.T-φ .start (.guest k0) else 0) fun k _=>?_,Uc,Xc hk]
 rw[ZL (p:=Nd.start=.guest k0) (fun z=>nomatch z)]
 by_cases e:k=k0
 ·subst e
  rw[Xc rfl];have:Qv (fun t=>if G.th k t=true then φ (.guest k) (.line (G.ln k) t)*(ind (Nd.guest k=.guest k)-ind (Nd.line (G.ln k) t=.guest k)) else 0) y.T=Qv (fun t=>Zn G φ t k) y.T:=by
   refine Zb fun t _=>?_
   unfold Zn;split
   ·rw[ZL (p:=Nd.line (G.ln k) t=.guest k) (fun z=>nomatch z)]
    simp[ind]
   ·rfl
  rw[this];simp[ind]
  omega
 ·have ne:¬Nd.guest k=.guest k0:=fun z=>e (by injection z)
  rw[Xb e,ZL ne,Zb (g:=fun _=>0) fun t _=>?_,VF]
  ·simp
  ·rw[ZL (p:=Nd.line (G.ln k) t=.guest k0) (fun z=>nomatch z)]
   simp
theorem HI {y:Yd}(ok:y.Ok){c l:Nat}(h0:0<c)(hc:c<y.ls.length):upN y c=l↔QS y c=some l:=by
 obtain⟨a,ea,_⟩:=ok.ups c h0 hc
 unfold upN;rw[ea];simp
theorem Oh {y:Yd}(ok:y.Ok)(G:Gv)(φ:QU Nd){l t0:Nat}(hl:l<y.ls.length)(ht:t0<y.T):Vz (Zk y G) φ (.line l t0) =
 upF y φ t0 l-Qv (fun k=>Zn G φ t0 k*ind (G.ln k=l)) G.m-Qv (fun c=>if QS y c=some l then upF y φ t0 c else 0) y.ls.length:=by
 unfold Vz;rw[Ke];have h1:Qv (fun k=>φ .start (.guest k)*(ind (Nd.start=.line l t0)-ind (Nd.guest k=.line l t0))+Qv (fun t=>if G.th k t=true then φ (.guest k) (.line (G.ln k) t)*(ind (Nd.guest k=.line l t0)-ind (Nd.line (G.ln k) t=.line l t0)) else 0) y.T) G.m = - Qv (fun k=>Zn G φ t0 k*ind (G.ln k=l)) G.m:=by
  rw[show-Qv (fun k=>Zn G φ t0 k*ind (G.ln k=l)) G.m=(-1)*Qv (fun k=>Zn G φ t0 k*ind (G.ln k=l)) G.m by omega,<- Jb]
  refine Zb fun k _=>?_
  rw[ZL (p:=Nd.start=.line l t0) (fun z=>nomatch z),ZL (p:=Nd.guest k=.line l t0) (fun z=>nomatch z)]
  rw[Zb (g:=fun t=>if t=t0 then-(Zn G φ t0 k*ind (G.ln k=l)) else 0) fun t _=>?_,Uc,Xc ht]
  ·simp
  ·by_cases e:t=t0
   ·subst e
    rw[Xc rfl,BP (p:=Nd.line (G.ln k) t=.line l t) (q:=G.ln k=l) (by simp)]
    unfold Zn;split
    ·rw[Int.zero_sub,Int.mul_neg]
    ·simp
   ·rw[Xb e,ZL (p:=Nd.line (G.ln k) t=.line l t0) (fun z=>e (by injection z))]
    simp
 rw[h1];have h2:Qv (fun t=>φ (.line 0 t) .fin*(ind (Nd.line 0 t=.line l t0)-ind (Nd.fin=.line l t0))+Qv (fun i=>φ (.line (i+1) t) (.line (upN y (i+1)) t)*(ind (Nd.line (i+1) t=.line l t0)-ind (Nd.line (upN y (i+1)) t=.line l t0))) (y.ls.length-1)) y.T
  = upF y φ t0 l-Qv (fun c=>if QS y c=some l then upF y φ t0 c else 0) y.ls.length:=by
  rw[Zb (g:=fun t=>if t=t0 then upF y φ t0 l-Qv (fun c=>if QS y c=some l then upF y φ t0 c else 0) y.ls.length else 0) fun t _=>?_,Uc,Xc ht]
  rw[ZL (p:=Nd.fin=.line l t0) (fun z=>nomatch z)]
  by_cases e:t=t0
  ·subst e
   rw[Xc rfl,BP (p:=Nd.line 0 t=.line l t) (q:=0=l) (by simp)]
   have hn:y.ls.length=(y.ls.length-1)+1:=by omega
   have e1:upF y φ t l=Qv (fun c=>if c=l then upF y φ t l else 0) y.ls.length:=by rw[Uc,Xc hl]
   have e2:∀c,c<y.ls.length->(if c=l then upF y φ t l else 0)=upF y φ t c*ind (c=l):=fun c _=>by
    by_cases q:c=l
    ·subst q;simp[ind]
    ·simp[ind,q]
   rw[e1,Zb e2,hn,Kc,Kc];have u0:¬QS y 0=some l:=fun z=>by rw[ok.up0]at z;cases z
   have f0:upF y φ t 0=φ (.line 0 t) .fin:=by unfold upF;rw[Xc rfl]
   rw[Xb u0,f0,<- hn];have e3:Qv (fun i=>φ (.line (i+1) t) (.line (upN y (i+1)) t)*(ind (Nd.line (i+1) t=.line l t)-ind (Nd.line (upN y (i+1)) t=.line l t))) (y.ls.length-1)
    = Qv (fun i=>upF y φ t (i+1)*ind (i+1=l)) (y.ls.length-1)+Qv (fun i => -1*(if QS y (i+1)=some l then upF y φ t (i+1) else 0)) (y.ls.length-1):=by
    rw[<- W4];refine Zb fun i hi=>?_
    rw[BP (p:=Nd.line (i+1) t=.line l t) (q:=i+1=l) (by simp),BP (p:=Nd.line (upN y (i+1)) t=.line l t) (q:=QS y (i+1)=some l) (by rw[<- HI ok (by omega) (by omega)];simp)]
    have:upF y φ t (i+1)=φ (.line (i+1) t) (.line (upN y (i+1)) t):=by unfold upF;rw[Xb (by omega)]
    rw[this,Ye];by_cases q:QS y (i+1)=some l
    ·rw[Xc q];simp[ind,q];omega
    ·rw[Xb q];simp[ind,q]
   rw[e3,Jb];simp only[Int.sub_zero];omega
  ·rw[Xb e,ZL (p:=Nd.line 0 t=.line l t0) (fun z=>e (by injection z)),Zb (g:=fun _=>0) fun i _=>?_,VF]
   ·simp
   ·rw[ZL (p:=Nd.line (i+1) t=.line l t0) (fun z=>e (by injection z)),ZL (p:=Nd.line (upN y (i+1)) t=.line l t0) (fun z=>e (by injection z))]
    simp
 rw[h2];omega
end Mir
namespace Mir
section
variable {ν:Type} [DecidableEq ν]
theorem VY.fwd {L:Lay ν}{φ:QU ν}(hw:Within L φ){es:Got ν}(hc:VY L φ es){x:ν×ν×Int}(hx:x∈L)(h1:x.1∈QX es)(h2:x.2.1∉QX es):φ x.1 x.2.1=x.2.2:=by
 obtain⟨i,hi⟩:=List.mem_iff_getElem?.mp hx
 have e:(2*i)/2=i:=by omega
 have e2:(2*i)%2=0:=by omega
 by_cases z:φ x.1 x.2.1=x.2.2
 ·exact z
 ·have:=hw x hx
  exact Xl (hc (2*i) x.1 x.2.1 (x.2.2-φ x.1 x.2.1) (by unfold tlE;rw[e,hi,e2];rfl) (by unfold hdE;rw[e,hi,e2];rfl) (by unfold rmE;rw[e,hi,e2];rfl) (by omega) h1) h2
theorem VY.bwd {L:Lay ν}{φ:QU ν}(hw:Within L φ){es:Got ν}(hc:VY L φ es){x:ν×ν×Int}(hx:x∈L)(h1:x.1∉QX es)(h2:x.2.1∈QX es):φ x.1 x.2.1=0:=by
 obtain⟨i,hi⟩:=List.mem_iff_getElem?.mp hx
 have e:(2*i+1)/2=i:=by omega
 have e2:¬(2*i+1)%2=0:=by omega
 by_cases z:φ x.1 x.2.1=0
 ·exact z
 ·have:=hw x hx
  exact Xl (hc (2*i+1) x.2.1 x.1 (φ x.1 x.2.1) (by unfold tlE;rw[e,hi];simp[e2]) (by unfold hdE;rw[e,hi];simp[e2]) (by unfold rmE;rw[e,hi];simp[e2]) (by omega) h2) h1
end
structure Flow (y:Yd)(G:Gv)(φ:QU Nd):Prop where
 wi:Within (Zk y G) φ
 kp:∀n,n≠.start->n≠.fin->Vz (Zk y G) φ n=0
theorem Si {y:Yd}{G:Gv}{k:Nat}(hk:k<G.m):((.start,.guest k,G.wa k):Nd×Nd×Int)∈Zk y G:=UQ.mpr (.inl ⟨k,hk,Wg.mpr (.inl rfl)⟩)
theorem BW {y:Yd}{G:Gv}{k t:Nat}(hk:k<G.m)(ht:t<y.T)(h:G.th k t=true):((.guest k,.line (G.ln k) t,G.mo k):Nd×Nd×Int)∈Zk y G:=UQ.mpr (.inl ⟨k,hk,Wg.mpr (.inr ⟨t,ht,h,rfl⟩)⟩)
theorem RS {y:Yd}{G:Gv}{t:Nat}(ht:t<y.T):((.line 0 t,.fin,Zg y 0 t):Nd×Nd×Int)∈Zk y G:=UQ.mpr (.inr ⟨t,ht,WY.mpr (.inl rfl)⟩)
theorem D5 {y:Yd}{G:Gv}{t l:Nat}(ht:t<y.T)(h0:0<l)(hl:l<y.ls.length):((.line l t,.line (upN y l) t,Zg y l t):Nd×Nd×Int)∈Zk y G :=
 UQ.mpr (.inr ⟨t,ht,WY.mpr (.inr ⟨l-1,by omega,by rw[show l-1+1=l by omega]⟩)⟩)
def moT (G:Gv)(t k:Nat):Int:=if G.th k t=true then G.mo k else 0
section
variable {y:Yd}{G:Gv}{φ:QU Nd}(F:Flow y G φ)
include F
theorem Flow.tak {k t:Nat}(hk:k<G.m)(ht:t<y.T):0<=Zn G φ t k/\Zn G φ t k<=moT G t k:=by
 unfold Zn moT;by_cases c:G.th k t=true
 ·rw[Xc c,Xc c]
  exact F.wi _ (BW hk ht c)
 ·rw[Xb c,Xb c]
  omega
theorem Flow.total {k:Nat}(hk:k<G.m):Qv (fun t=>Zn G φ t k) y.T=φ .start (.guest k):=by
 have:=F.kp (.guest k) (fun z=>nomatch z) (fun z=>nomatch z)
 rw[Zm6 y G φ hk]at this;omega
theorem Flow.want {k:Nat}(hk:k<G.m):0<=φ .start (.guest k)/\φ .start (.guest k)<=G.wa k:=F.wi _ (Si hk)
theorem Flow.up (ok:y.Ok)(hln:∀k,k<G.m->G.ln k<y.ls.length){t:Nat}(ht:t<y.T):∀n l,y.ls.length<=l+n->l<y.ls.length->upF y φ t l=Vc y G.m G.ln (Zn G φ t) l
 |0,l,h,hl=>by omega
 |n+1,l,h,hl=>by
   have z:=F.kp (.line l t) (fun z=>nomatch z) (fun z=>nomatch z)
   rw[Oh ok G φ hl ht]at z;have e:Qv (fun c=>if QS y c=some l then upF y φ t c else 0) y.ls.length=Qv (fun c=>if QS y c=some l then Vc y G.m G.ln (Zn G φ t) c else 0) y.ls.length:=by
    refine Zb fun c hc=>?_
    by_cases u:QS y c=some l
    ·rw[Xc u,Xc u]
     have:=UC ok hc u
     exact Flow.up ok hln ht n c (by omega) hc
    ·rw[Xb u,Xb u]
   rw[GT ok hln _ hl,<- e];omega
theorem Flow.up_ok (ok:y.Ok){t l:Nat}(ht:t<y.T)(hl:l<y.ls.length):0<=upF y φ t l/\upF y φ t l<=Zg y l t:=by
 unfold upF;by_cases z:l=0
 ·subst z
  rw[Xc rfl];exact F.wi _ (RS ht)
 ·rw[Xb z]
  exact F.wi _ (D5 ht (by omega) hl)
theorem Flow.load (ok:y.Ok)(hln:∀k,k<G.m->G.ln k<y.ls.length){t l:Nat}(ht:t<y.T)(hl:l<y.ls.length):Vc y G.m G.ln (Zn G φ t) l<=Zg y l t:=by
 rw[<- F.up ok hln ht y.ls.length l (by omega) hl];exact(F.up_ok ok ht hl).2
def Zd (es:Got Nd)(k:Nat):Bool:=decide (Nd.guest k∈QX es)
def LB (es:Got Nd)(t l:Nat):Bool:=decide (Nd.line l t∈QX es)
omit F in
theorem not_of {p:Prop} [Decidable p] (h:decide p=false):¬p:=YU h
theorem Flow.shut (ok:y.Ok)(hln:∀k,k<G.m->G.ln k<y.ls.length){es:Got Nd}(hc:VY (Zk y G) φ es)(hf:Nd.fin∉QX es){t:Nat}(ht:t<y.T) :
 Shut y G.m G.ln (Zn G φ t) (moT G t) (fun l=>Zg y l t) (Zd es) (LB es t) where
 nn k hk:=(F.tak hk ht).1
 full k hk hS hR:=by
  unfold Zn moT;by_cases c:G.th k t=true
  ·rw[Xc c,Xc c]
   exact hc.fwd F.wi (BW hk ht c) (Xz hS) (not_of hR)
  ·rw[Xb c,Xb c]
 none k hk hS hR:=by
  unfold Zn;by_cases c:G.th k t=true
  ·rw[Xc c]
   exact hc.bwd F.wi (BW hk ht c) (not_of hS) (Xz hR)
  ·rw[Xb c]
 top hR:=by
  have h0:=ok.l1
  rw[<- F.up ok hln ht y.ls.length 0 (by omega) (by omega)];unfold upF;rw[Xc rfl];exact hc.fwd F.wi (RS ht) (Xz hR) hf
 out c a hcl u h1 h2:=by
  have c0:c≠0:=fun z=>by subst z;rw[ok.up0]at u;cases u
  have ea:upN y c=a:=(HI ok (by omega) hcl).mpr u
  rw[<- F.up ok hln ht y.ls.length c (by omega) hcl];unfold upF;rw[Xb c0];exact hc.fwd F.wi (D5 ht (by omega) hcl) (Xz h1) (by rw[ea];exact not_of h2)
 inn c a hcl u h1 h2:=by
  have c0:c≠0:=fun z=>by subst z;rw[ok.up0]at u;cases u
  have ea:upN y c=a:=(HI ok (by omega) hcl).mpr u
  rw[<- F.up ok hln ht y.ls.length c (by omega) hcl];unfold upF;rw[Xb c0];exact hc.bwd F.wi (D5 ht (by omega) hcl) (not_of h1) (by rw[ea];exact Xz h2)
theorem Flow.filled {es:Got Nd}(hc:VY (Zk y G) φ es)(hs:Nd.start∈QX es){k:Nat}(hk:k<G.m)(hS:Zd es k=false):Qv (fun t=>Zn G φ t k) y.T=G.wa k:=by
 rw[F.total hk];exact hc.fwd F.wi (Si hk) hs (not_of hS)
def WI (G:Gv)(S:Qm)(t l:Nat):Int:=Qv (fun k=>Zh S (moT G t) k*ind (G.ln k=l)) G.m
omit F in
theorem Sy {y:Yd}(ok:y.Ok):∀n j,j<n->j<y.ls.length->0∈upL y j
 |0,j,h,_=>by omega
 |n+1,j,h,hj=>by
   by_cases z:j=0
   ·subst z;exact HW y 0
   ·obtain⟨a,ea,la⟩:=ok.ups j (by omega) hj
    exact(Ha ok (by omega) hj ea 0 (fun q=>z q.symm)).mpr (Sy ok n a (by omega) (by omega))
omit F in
theorem Py {y:Yd}(ok:y.Ok){m:Nat}{ln:Nat->Nat}(hln:∀k,k<m->ln k<y.ls.length)(f:Qn):Vc y m ln f 0=Qv f m :=
 Zb fun k hk=>by
  unfold ind;rw[Xc (Sy ok _ _ (Uy _) (hln k hk)),Int.mul_one]
theorem Flow.no_more (ok:y.Ok)(hln:∀k,k<G.m->G.ln k<y.ls.length)(S:Qm){t:Nat}(ht:t<y.T):Qv (Zh S (Zn G φ t)) G.m<=passes y (fun l=>Zg y l t) (WI G S t) 0:=by
 have l1:=ok.l1
 rw[<- Py ok hln];refine Mir.no_more ok hln (fun l hl=>?_) (fun l hl=>?_) y.ls.length 0 (by omega) (by omega)
 ·refine Vs fun k hk=>?_
  have q:=F.tak hk ht
  by_cases e:G.ln k=l
  ·unfold Zh ind
   rw[Xc e];split<;>omega
  ·rw[ZL e];omega
 ·have q:=F.load ok hln ht hl
  have q2:=S7 (y:=y) (ln:=G.ln) (f:=Zh S (Zn G φ t)) (g:=Zn G φ t) (fun k hk=>HM (F.tak hk ht).1) l
  omega
theorem Flow.meet (ok:y.Ok)(hln:∀k,k<G.m->G.ln k<y.ls.length){es:Got Nd}(hc:VY (Zk y G) φ es)(hf:Nd.fin∉QX es){t:Nat}(ht:t<y.T) :
 passes y (fun l=>Zg y l t) (WI G (Zd es) t) 0=Qv (Zh (Zd es) (Zn G φ t)) G.m:=by
 have l1:=ok.l1
 have a:=F.no_more ok hln (Zd es) ht
 have b:=(F.shut ok hln hc hf ht).all ok hln (own:=WI G (Zd es) t) (fun l hl=>rfl) y.ls.length 0 (by omega) (by omega) (fun _=>.inl rfl)
 rw[Py ok hln]at b;omega
omit F in
theorem HF (f g:Qn):∀n,Qv (fun k=>f k-g k) n=Qv f n-Qv g n
 |0=>rfl
 |n+1=>by
   simp only[Qv];rw[HF f g n];omega
theorem Flow.lack (ok:y.Ok)(hln:∀k,k<G.m->G.ln k<y.ls.length){es:Got Nd}(hc:VY (Zk y G) φ es)(hs:Nd.start∈QX es)(hf:Nd.fin∉QX es) :
 Qv (fun k=>G.wa k-Qv (fun t=>Zn G φ t k) y.T) G.m=Qv (Zh (Zd es) G.wa) G.m-Qv (fun t=>passes y (fun l=>Zg y l t) (WI G (Zd es) t) 0) y.T:=by
 rw[Zb (n:=y.T) fun t ht=>F.meet ok hln hc hf ht,Mg,<- HF]
 refine Zb fun k hk=>?_
 cases s:Zd es k with
 |true =>
   have:Qv (fun t=>Zh (Zd es) (Zn G φ t) k) y.T=Qv (fun t=>Zn G φ t k) y.T:=Zb fun t _=>by unfold Zh;rw[Xc s]
   rw[this];unfold Zh;rw[Xc s]
 |false =>
   have:Qv (fun t=>Zh (Zd es) (Zn G φ t) k) y.T=0:=by
    rw[Zb (g:=fun _=>0) fun t _=>?_,VF]
    unfold Zh;rw[Xb (by rw[s];decide)]
   rw[this,F.filled hc hs hk s];unfold Zh;rw[Xb (by rw[s];decide)];omega
omit F in
theorem OK (y:Yd)(G:Gv)(φ:QU Nd):Vz (Zk y G) φ .start=Qv (fun k=>φ .start (.guest k)) G.m:=by
 unfold Vz;rw[Ke];have h2:Qv (fun t=>φ (.line 0 t) .fin*(ind (Nd.line 0 t=.start)-ind (Nd.fin=.start))+Qv (fun i=>φ (.line (i+1) t) (.line (upN y (i+1)) t)*(ind (Nd.line (i+1) t=.start)-ind (Nd.line (upN y (i+1)) t=.start))) (y.ls.length-1)) y.T=0:=by
  rw[Zb (g:=fun _=>0) fun t _=>?_,VF]
  rw[ZL (fun z=>nomatch z),ZL (fun z=>nomatch z),Zb (g:=fun _=>0) fun i _=>?_,VF]
  ·simp
  ·rw[ZL (fun z=>nomatch z),ZL (fun z=>nomatch z)];simp
 rw[h2,U0];refine Zb fun k _=>?_
 rw[ZL (p:=Nd.guest k=.start) (fun z=>nomatch z),Zb (g:=fun _=>0) fun t _=>?_,VF]
 ·simp[ind]
 ·rw[ZL (p:=Nd.line (G.ln k) t=.start) (fun z=>nomatch z)];simp
theorem Flow.push {a:Int}(ha:0<=a){w:Qk}(hw:Chain (Zk y G) .start .fin w)(hn:w.Nodup)(hr:∀e∈w,∃r,rmE (Zk y G) φ e=some r/\a<=r) :
 Flow y G (YZ (Zk y G) a φ w)/\Vz (Zk y G) (YZ (Zk y G) a φ w) .start=Vz (Zk y G) φ .start+a:=by
 refine⟨⟨TQ (Ma y G) ha F.wi hn hr,fun n h1 h2=>?_⟩,?_⟩
 ·rw[HB (Ma y G) n hw,F.kp n h1 h2,ZL (fun z=>h1 z.symm),ZL (fun z=>h2 z.symm)]
  simp
 ·rw[HB (Ma y G) .start hw,ZL (p:=Nd.fin=.start) (fun z=>nomatch z)]
  simp[ind]
theorem Flow.most:Vz (Zk y G) φ .start<=Qv G.wa G.m:=by
 rw[OK];exact Vs fun k hk=>(F.want hk).2
end
theorem Fo {y:Yd}{G:Gv}(h:∀x∈Zk y G,0<=x.2.2):Flow y G (fun _ _=>0):=by
 refine⟨fun x hx=>⟨Jg _,h x hx⟩,fun n _ _=>?_⟩
 unfold Vz ZX;have:∀L:Lay Nd,(L.map fun x=>(0:Int)*(ind (x.1=n)-ind (x.2.1=n))).sum=0:=fun L=>by
  induction L with
  |nil=>rfl
  |cons x L ih=>rw[Xt,WA,ih];simp
 exact this _
end Mir
section
namespace L2
open PySem PySem.Spec PyProof.Rows
theorem QP.at {xs:List V}{us:Qe}(r:QP xs us):∀i:Nat,(xs[i]?=none/\us[i]?=none)\/∃x u,xs[i]?=some x/\us[i]?=some u/\QK x u:=by
 induction r with
 |nil=>intro i;exact .inl ⟨rfl,rfl⟩
 |cons a b ih =>
   intro i;cases i with
   |zero=>exact .inr ⟨_,_,rfl,rfl,a⟩
   |succ i=>exact ih i
theorem QP.picks {xs:List V}{us:Qe}(r:QP xs us):∀is:Qk,QP (is.filterMap fun i=>xs[i]?) (is.filterMap fun i=>us[i]?)
 |[]=>.nil
 |i::is=>by
   rcases QP.at r i with ⟨a,b⟩|⟨x,u,a,b,c⟩
   ·rw[MQ a,MQ b];exact QP.picks r is
   ·rw[MP a,MP b];exact .cons c (QP.picks r is)
section
variable {X:Cx}{e:Expr}{te:TE}{lo hi:Option Expr}{se:Expr}{tl th ts:TO}{pos p2:Pos}
end
section
variable {K:W.Frag}{ρ:QG}{te:TE}
theorem Qw.picks {F:Hp}{xs:List V}{ds:Qd}(r:Qw F xs ds):∀is:Qk,(Qw F (is.filterMap fun i=>xs[i]?) (is.filterMap fun i=>ds[i]?))
 |[]=>.nil
 |i::is=>by
   cases e:ds[i]? with
   |none =>
     have e2:xs[i]?=none:=by
      have:=r.length
      rw[Nm]at e ⊢;omega
     rw[MQ e,MQ e2];exact Qw.picks r is
   |some d =>
     obtain⟨v,e2,rv⟩:=r.get e
     rw[MP e,MP e2];exact .cons rv (Qw.picks r is)
end
section
variable {K:W.Frag}{ρ:QG}{D:PEnds}
end
section
variable {es:Qi}{env:Env}
end
section
variable {X:Cx}{e:Expr}{es:Qi}{te:TE}{t:TA}{pos:Pos}
end
section
variable {X:Cx}{a:Expr}{ta:TE}
end
section
variable {K:W.Frag}{ρ:QG}{ta tb tc td:TE}
end
section
variable {X:Cx}{a b c d:Expr}{ta tb tc td:TE}{pos:Pos}
end
section
variable {K:W.Frag}{ρ:QG}{ta tb tc td:TE}
end
theorem Lu:∀{us:Qe} {ns:Ql},IntsAre us ns->QP (ns.map V.int) us
 |_,_,.nil=>.nil
 |_,_,.cons n t h=>.cons ⟨t,rfl⟩ (Lu h)
section
variable {X:Cx}
def SI:List V->Hp->VK->Prop:=fun xs H Q=>∃(x:V) (ns:Ql),xs=[x]/\Rep H x (.list (ns.map PyData.int))/\ns.length<64/\∀(p:Addr) (ms:Ql),H p=none->ms.Perm ns->ms.Pairwise (· <= ·)->Q (.ref p) (upd H p (.lst (ms.map V.int)))
theorem IK:Vn X (.builtin "sorted") SI:=by
 intro Xbs s σ H xs us Q I r h;obtain⟨x,ns,rfl,rx,h64,q⟩:=h
 obtain⟨u,rfl,ru⟩:=Jq r
 cases rx with
 |@lst a ys _ ha ra =>
   cases ru
   obtain⟨z,its,n,rv,e⟩:=I.hok _ _ ha
   have ey:ys=ns.map V.int:=Ui ra
   have hI:IntsAre its ns:=GZ (by rw[<- ey];exact rv)
   have hl:its.length=ns.length:=by rw[<- rv.length,ey];simp
   refine sorted_ints ⟨_,e,rfl,n,rfl⟩ hI (by omega) fun out ms a1 a2 a3=>?_
   obtain⟨k,hk⟩:=sortedAll_at s.heap its out
   have ln:ms.length=ns.length:=a2.length_eq
   refine⟨.ref (s.heap.objs.size+1),_,I.laid (t':=s.toks) (a:=s.heap.objs.size+1) (o:=.lst (ms.map V.int)) (fun b ob q=>sortedAll_old q) (Nat.le_succ _) ?_,rfl,q _ ms (I.hok.fresh (Nat.le_succ _)) a2 a3⟩
   refine⟨by rw[Xm,ln];exact XZ (Xv h64 (by decide)),out.toList,k,Lu a1,?_⟩
   rw[hk]
end
def Wc:Ql->Ql->Bool
 |a::as,b::bs=>if a=b then Wc as bs else decide (b<a)
 |_,_=>false
theorem Hx:∀{us:Qe} {ns:Ql},IntsAre us ns->∀{i:Nat} {n:Int},ns[i]?=some n->∃t,us[i]?=some (.int n t)
 |_,_,.nil,i,n,e=>by simp at e
 |_,_,.cons m t h,0,n,e=>by
   simp at e
   exact⟨t,by simp[e]⟩
 |_,_,.cons m t h,i+1,n,e=>by
   obtain⟨t',h'⟩:=Hx h (i:=i) (n:=n) (by simpa using e)
   exact⟨t',by simpa using h'⟩
section
theorem C7 (l b:Addr)(xs ys:Array Value)(n n2:Nat)(dd dd2:Qj)(sl sl2:Array (Qf))(ns ms:Ql)(hsz:ns.length=ms.length)(hx:IntsAre xs.toList ns)(hy:IntsAre ys.toList ms)(k:Nat) :
 ∀i:Nat,ns.length-i=k->Meets (Builtin.«list.__eq__.loop» ⟨[.ref l,.ref b,rawInt i,rawInt 4],[]⟩)
  (fun A R s=>s.heap.get? l=some { cls:=.type "list",dict:=dd,data:=.seq xs n,slots:=sl }/\s.heap.get? b=some { cls:=.type "list",dict:=dd2,data:=.seq ys n2,slots:=sl2 } /\
   R (.ok (.ret (.bool (Wc (ns.drop i) (ms.drop i))))) s):=by
 have lx:xs.size=ns.length:=by have:=IntsAre.length hx;simpa using this
 have ly:ys.size=ms.length:=by have:=IntsAre.length hy;simpa using this
 induction k with
 |zero =>
   intro i hk prog w A R s h;obtain⟨hp,g,d,tk,os⟩:=s
   obtain⟨ja,jb,q⟩:=h
   wp_walk using AutoSeq1.wpAny_loadPart' ja,AutoSeq1.wpAny_loadPart' jb
   have e1:xs[((i:Nat):Int).toNat]?=none:=by simp;omega
   have e2:ys[((i:Nat):Int).toNat]?=none:=by simp;omega
   have e3:ns.drop i=[]:=by simp;omega
   rw[e3]at q;rw[e1,e2];wp_walk using AutoSeq1.wpAny_loadPart' ja,AutoSeq1.wpAny_loadPart' jb
   show R (.ok (.ret (.bool (decide (xs.size > ys.size))))) _
   rw[XF (show ¬xs.size > ys.size by omega)]
   exact q
 |succ k ih =>
   intro i hk prog w A R s h;obtain⟨hp,g,d,tk,os⟩:=s
   obtain⟨ja,jb,q⟩:=h
   wp_walk using AutoSeq1.wpAny_loadPart' ja,AutoSeq1.wpAny_loadPart' jb
   have l1:i<ns.length:=by omega
   have l2:i<ms.length:=by omega
   obtain⟨ta,e1⟩:∃t,xs[((i:Nat):Int).toNat]?=some (.int ns[i] t):=by
    have:=Hx hx (i:=i) (n:=ns[i]) (by simp[l1])
    simpa using this
   obtain⟨tb,e2⟩:∃t,ys[((i:Nat):Int).toNat]?=some (.int ms[i] t):=by
    have:=Hx hy (i:=i) (n:=ms[i]) (by simp[l2])
    simpa using this
   have d1:ns.drop i=ns[i]::ns.drop (i+1):=Nl l1
   have d2:ms.drop i=ms[i]::ms.drop (i+1):=Nl l2
   rw[d1,d2]at q;rw[e1,e2];refine Xa (SeqAt.EqAt.int_int ns[i] ta ms[i] tb prog w _ _ ?_)
   have hc:((i:Int)+1)=((i+1:Nat):Int):=by omega
   by_cases hab:ns[i]=ms[i]
   ·have hb:(ns[i]==ms[i])=true:=by simp[hab]
    rw[hb];wp_walk
    rw[hc];exact⟨plainId_quiet MeetsSeq3.plain_eq_loop _,codeAny_builtin MeetsSeq3.entry_eq_loop (by
     rw[Around.under_plainId MeetsSeq3.plain_eq_loop _];exact ih (i+1) (by omega) prog w A R _ ⟨ja,jb,by simpa [Wc,hab] using q⟩)⟩
   ·have hb:(ns[i]==ms[i])=false:=by simp[hab]
    rw[hb];wp_walk using AutoSeq1.wpAny_loadPart' ja,AutoSeq1.wpAny_loadPart' jb
    rw[e1,e2];show wpAny _ _ (richCompare .Gt (.int ns[i] ta) (.int ms[i] tb) >>= fun v=>ret v) _ _ _
    refine Xa (gt_int (Xi ?_))
    show R (.ok (.ret (.bool (decide (ms[i]<ns[i]))))) _
    have e9:Wc (ns[i]::ns.drop (i+1)) (ms[i]::ms.drop (i+1))=decide (ms[i]<ns[i]):=by
     show(if ns[i]=ms[i] then _ else decide (ms[i]<ns[i]))=_
     rw[Xb hab]
    rw[e9]at q;exact q
theorem Ce (l b:Addr)(xs ys:Array Value)(n n2:Nat)(dd dd2:Qj)(sl sl2:Array (Qf))(ns ms:Ql)(hsz:ns.length=ms.length)(hx:IntsAre xs.toList ns)(hy:IntsAre ys.toList ms) :
 Meets (Builtin.«list.__gt__» ⟨[.ref l,.ref b],[]⟩)
  (fun A R s=>s.heap.get? l=some { cls:=.type "list",dict:=dd,data:=.seq xs n,slots:=sl }/\s.heap.get? b=some { cls:=.type "list",dict:=dd2,data:=.seq ys n2,slots:=sl2 } /\
   R (.ok (.ret (.bool (Wc ns ms)))) s):=by
 intro prog w A R s h;obtain⟨hp,g,d,tk,os⟩:=s
 obtain⟨ja,jb,q⟩:=h
 have f3:=AutoSeq1.sub_list_list
 wp_walk using AutoSeq1.wpAny_loadPart' ja,AutoSeq1.wpAny_loadPart' jb
 exact⟨plainId_quiet MeetsSeq3.plain_eq_loop _,codeAny_builtin MeetsSeq3.entry_eq_loop (by
  rw[Around.under_plainId MeetsSeq3.plain_eq_loop _];exact C7 l b xs ys n n2 dd dd2 sl sl2 ns ms hsz hx hy _ 0 rfl prog w A R _ ⟨ja,jb,by simpa using q⟩)⟩
variable {X:Cx}
def Nw (K:W.Frag):R2:=fun x y H Q=>∃ns ms,Rep H x (.list (ns.map PyData.int))/\Rep H y (.list (ms.map PyData.int))/\ns.length=ms.length/\Q (.bl (Wc ns ms)) H
theorem C0 (hu:X.A.units+64<cLine):OpR X (compareOp .Gt) (Nw X.K):=by
 intro Xbs s σ H x y v u Q I rx ry h;obtain⟨ns,ms,r1,r2,hl,q⟩:=h
 cases r1 with
 |@lst a xs _ ha ra =>
   cases r2 with
   |@lst b ys _ hb rb =>
     cases rx
     cases ry
     obtain⟨z,its,n,rv,e⟩:=I.hok _ _ ha
     obtain⟨z',its',n',rv',e'⟩:=I.hok _ _ hb
     have ex:xs=ns.map V.int:=Ui ra
     have ey:ys=ms.map V.int:=Ui rb
     have i1:IntsAre its.toArray.toList ns:=GZ (by rw[<- ex];exact rv)
     have i2:IntsAre its'.toArray.toList ms:=GZ (by rw[<- ey];exact rv')
     exact richCompare_meets_room (op:=.Gt) ⟨_,e,rfl⟩ ⟨_,e',rfl⟩ PySem.F.slot_list_gt PySem.F.entry_list_gt (PySem.F.args_list_gt_2 _ _) (Ce a b _ _ n n' none none #[] #[] ns ms hl i1 i2)
      ⟨e,e',show Value.bool (Wc ns ms)≠Value.notImplemented/\_ from⟨(fun x=>nomatch x),⟨.bl (Wc ns ms),H,I,rfl,q⟩⟩⟩ (by omega)
end
section
variable {K:W.Frag}{ρ:QG}{ta tb:TE}{D:PEnds}
theorem F6 {ns ms:Ql}(ha:Qt K ta ρ (.list (ns.map PyData.int)))(hb:Qt K tb ρ (.list (ms.map PyData.int)))(hl:ns.length=ms.length):Qt K (tOp (Nw K) ta tb) ρ (.bool (Wc ns ms)):=fun H0 F σ H Q S q =>
 Y0 ha hb S fun F' H' x y e r1 r2=>⟨ns,ms,r1.mono e.fh,r2.mono e.fh,hl,q F' H' _ e (.bl _)⟩
theorem Ii:∀{l m:Ql},l.Perm m->l.Pairwise (· <= ·)->m.Pairwise (· <= ·)->l=m:=fun p h1 h2=>by
 exact p.eq_of_pairwise (le:=(· <= ·)) (fun a b _ _ h h'=>Int.le_antisymm h h') h1 h2
theorem IM {ns ms:Ql}(h:Qt K ta ρ (.list (ns.map PyData.int)))(hp:ms.Perm ns)(hs:ms.Pairwise (· <= ·))(hn:ns.length<64):EvO K (tCB SI (QZ ta Zm)) ρ (.ol (ms.map PyData.int)):=fun H0 F σ H Q S q =>
 h H0 F σ H _ S fun F1 H1 v x1 r1=>⟨v,ns,rfl,r1.mono x1.fh,hn,fun p ks hp' k1 k2=>by
  have e:ks=ms:=Ii (k1.trans hp.symm) k2 hs
  subst e;obtain⟨a,b,c⟩:=UM (K:=K) x1 hp' (PR (H:=F1) ks)
  exact q _ _ _ _ a b c⟩
end
theorem IG:bootBuiltins "sorted"=some (.builtin "sorted"):=by decide +kernel
section
variable {X:Cx}
def ipM:TIp:=fun x y H Q=>∃i j,x=.int i/\y=.int j/\IntMulOk i j/\Q (.int (i*j)) H
theorem Ai:PIp X .Mult ipM:=by
 intro Xbs s σ H x y v u Q I r1 r2 h;obtain⟨i,j,rfl,rfl,hc,q⟩:=h
 obtain⟨t,rfl⟩:=r1
 obtain⟨t',rfl⟩:=r2
 exact imul_int ⟨.int (i*j),H,I.tok _,⟨_,rfl⟩,q⟩ hc
def Sn:V->List V->Hp->VK->Prop:=fun x vs H Q=>∃l xs k y,x=.ref l/\vs=[.int k,y]/\H l=some (.lst xs)/\0<=k/\k.toNat<=xs.length/\xs.length<1000/\Q .non (upd H l (.lst (xs.take k.toNat++y::xs.drop k.toNat)))
theorem O0:MtM X "list.insert" Sn:=by
 intro Xbs s σ H x vs v us Q I rx rv h;obtain⟨l,xs,k,y,rfl,rfl,hH,h0,h1,h2,q⟩:=h
 cases rx
 obtain⟨u,w,rfl,ru,rw'⟩:=Gr rv
 obtain⟨t,rfl⟩:=ru
 obtain⟨z,its,n,r,hl,e⟩:=I.lstM hH
 have hn:¬(!Builtin.List.listFitsIndex k)=true:=by
  rw[fitsIndex_both (by omega) (by omega)];exact Xp
 refine call_meets F.slot_list_insert ⟨_,e,rfl⟩ F.entry_list_insert (F.args_list_insert_3 _ _ _) (AutoListH.list_insert_list_int_val_1 l its.toArray n k t w hn (by rw[Xu];omega)) ⟨e,?_⟩
 refine⟨.non,_,I.lset (its':=its.take k.toNat++w::its.drop k.toNat) hH e ?_ ((r.take k.toNat).append (.cons rw' (r.drop k.toNat))) ?_,rfl,q⟩
 ·have hm:min k.toNat its.toArray.size=k.toNat:=by rw[Xu,<- hl];omega
  dsimp only;rw[Xb (by omega),hm];apply Array.toList_inj.mp
  simp
  exact List.take_of_length_le (by rw[Bs];exact Xs _)
 ·rw[Xq,Ux,XJ,Bs]
  exact XZ (Vv (by omega))
end
section
variable {K:W.Frag}{ρ:QG}{te ti:TE}{D:PEnds}
theorem Cj {i:Nat}{m n:Int}(e:ρ[i]?=some (some (.fz (.int m))))(h:Qt K te ρ (.int n))(hc:IntMulOk m n)(hn:D.nx (ρ.set i (some (.fz (.int (m*n)))))):Q3 K (Dt i te ipM) ρ D:=fun F0 H0 F σ H E x S C=>by
 obtain⟨fp,g,_⟩:=S.fp
 obtain⟨v,e1,_,r⟩:=g i _ e
 cases r
 refine⟨_,e1,h H0 F σ H _ S fun F1 H1 y x1 r1=>?_⟩
 cases r1
 exact⟨m,n,rfl,rfl,hc,C.nx F1 _ H1 _ (x.trans x1) ((S.ext x1).setF (.int _)) hn⟩
theorem O2 {i:Nat}{ds:Qd}{d:PyData}{k:Int}(e:ρ[i]?=some (some (.ol ds)))(hk:Qt K ti ρ (.int k))(h:Qt K te ρ d)(h0:0<=k)(h1:k.toNat<=ds.length)(hl:ds.length<1000)(hn:D.nx (ρ.set i (some (.ol (ds.take k.toNat++d::ds.drop k.toNat))))) :
 Q3 K (Wa (tBM K "list" Sn (Zc i) (QZ ti (QZ te Zm)))) ρ D:=fun F0 H0 F σ H E x S C=>by
 obtain⟨a,xs,e1,e2,e3,_⟩:=S.write e
 refine⟨_,e1,.inl ⟨rfl,_,SqL.of e2⟩,hk H0 F σ H _ S fun F1 H1 v x1 r1=>h H0 F1 σ H1 _ (S.ext x1) fun F2 H2 w x2 r2=>?_⟩
 cases r1
 have X2:=x1.trans x2
 obtain⟨a',xs',f1,f2,f3,f4,f5,f6⟩:=(S.ext X2).write e
 rw[e1]at f1;cases f1
 refine⟨a,xs',k,w,rfl,rfl,f2,h0,by rw[f3.length];exact h1,by rw[f3.length];exact hl,?_⟩
 exact C.nx F2 σ _ _ ((x.trans X2).wr f4 f5) (f6 _ _ ((f3.take k.toNat).append (.cons r2 (f3.drop k.toNat)))) hn
end
end L2
end
namespace PySem
section
variable {prog:Program}{w:World}{K:Type} [DecidableEq K] (knd:KeyKind prog w K)
def Yi (h:Heap) (xy:List K×List K) (a:Addr):Prop := ∃o n p q,h.get? a=some o/\o.cls=.type "tuple" /\ o.data=.seq #[.ref p,.ref q] n/\IsTupleKey knd h xy.1 p/\IsTupleKey knd h xy.2 q
variable {knd}
theorem Yi.typeIs {s:Shared} {ks:List K×List K} {a:Addr} (x:Yi knd s.heap ks a):s.TypeIs (.ref a) "tuple" := let ⟨o,_,_,_,ho,hc,_⟩:=x;⟨o,ho,hc⟩
theorem Yi.inj {h:Heap}{a:Addr}{x y:List K×List K}(hx:Yi knd h x a)(hy:Yi knd h y a):x=y:=by
 obtain⟨o,n,p,q,ho,_,hd,h1,h2⟩:=hx
 obtain⟨o',n',p',q',ho',_,hd',h1',h2'⟩:=hy
 cases Option.some.inj (ho.symm.trans ho')
 rw[hd]at hd';injection hd' with z _
 have z1:=ZD Array.toList z
 simp at z1
 obtain⟨rfl,rfl⟩:=z1
 exact Prod.ext (h1.inj h1') (h2.inj h2')
theorem Yi.keeps {h h':Heap}{ks:List K×List K}{a d:Addr}{o:Obj}{es ep}(x:Yi knd h ks a)(ho:h.get? d=some o)(hd:o.data=.dict es ep)(hs:Heap.SameBut d h h'):Yi knd h' ks a:=by
 obtain⟨o',n,p,q,ho',hc,hd',h1,h2⟩:=x
 have hne:a≠d:=fun z=>by
  subst z;cases Option.some.inj (ho'.symm.trans ho)
  rw[hd]at hd';exact nomatch hd'
 exact⟨o',n,p,q,(hs.2 a hne).trans ho',hc,hd',h1.keeps ho hd hs,h2.keeps ho hd hs⟩
def HA (knd:KeyKind prog w K)(ks:List K×List K):Int:=reduceHash (Builtin.Tuple.tupleHashOf [tupleKeyHash knd ks.1,tupleKeyHash knd ks.2])
variable {A:Around}{E:Qb}{s:Shared}
theorem Zf0 {ks:List K×List K}{a:Addr}{Q:Int->Shared->Prop}(hu:A.units+5<cLine)(hk:Yi knd s.heap ks a)(h:Q (HA knd ks) { s with toks:=s.toks+(ks.1.length+ks.2.length+3) }) :
 wpAny (model prog w) A (pyHash (.ref a)) Q E s:=by
 have hT:=hk.typeIs
 obtain⟨o,n,p,q,ho,_,hd,h1,h2⟩:=hk
 unfold pyHash pyHashByItsType;refine Xa (wpAny_cRoomFor_or (.inr (by omega)) ?_)
 refine Xa (wpAny_specialOf hT F.slot_tuple_hash.lookup ?_)
 show wpAny _ _ (if (some (Value.builtin "tuple.__hash__")==some Value.none)=true then _ else _) Q E s
 rw[Xb (by rw[beq_builtin_none];exact Xp)];refine Xa (wpAny_specialOf hT F.slot_tuple_hash.lookup ?_)
 show wpAny _ _ (callSpecialIfBoundUnlessNone? (.ref a) "__hash__" _ >>= _) Q E s
 refine Xa (wpAny_callSpecialIfBoundUnlessNone?_slot hT F.slot_tuple_hash (wpAny_call_entry F.slot_tuple_hash hT F.entry_tuple_hash ?_ (F.args_tuple_hash_1 _)))
 show wpAny _ _ (Builtin.Tuple.tupleItemsOf (.ref a) >>= _) _ _ s
 refine Xa (wpAny_tupleItemsOf ho hd ?_)
 refine Xa ?_
 rw[<- Array.forIn_toList];refine wpAny_forIn_list _
  (fun rest (b:Array Int) s'=>(rest=[.ref p,.ref q]/\b.toList=[]/\s'=s)\/(rest=[.ref q]/\b.toList=[tupleKeyHash knd ks.1]/\s'={ s with toks:=s.toks+(ks.1.length+1) }) \/
   (rest=[]/\b.toList=[tupleKeyHash knd ks.1,tupleKeyHash knd ks.2]/\s'={ s with toks:=s.toks+(ks.1.length+1)+(ks.2.length+1) }))
  _ ?_ ?_ _ _ (.inl ⟨rfl,rfl,rfl⟩)
 ·rintro x rest b s' (⟨hr,hb,rfl⟩|⟨hr,hb,rfl⟩|⟨hr,_⟩)
  ·injection hr with e1 e2
   subst e1 e2;refine Xa (wpAny_pyHash_tuple ?hu1 h1 ?_)
   case hu1=>show A.units+1<cLine;omega
   exact Xi (.inr (.inl ⟨rfl,by simp[hb],rfl⟩))
  ·injection hr with e1 e2
   subst e1 e2;refine Xa (wpAny_pyHash_tuple ?hu2 h2 ?_)
   case hu2=>show A.units+1<cLine;omega
   exact Xi (.inr (.inr ⟨rfl,by simp[hb],rfl⟩))
  ·cases hr
 ·rintro b s' (⟨hr,_⟩|⟨hr,_⟩|⟨_,hb,rfl⟩)
  ·cases hr
  ·cases hr
  show wpAny _ _ (retInt (Builtin.Tuple.tupleHashOf b.toList)) _ _ _
  rw[hb];refine wpAny_ret_mkInt ?_
  show wpAny _ _ (if (decide (-(2:Int)^63<=Builtin.Tuple.tupleHashOf [tupleKeyHash knd ks.1,tupleKeyHash knd ks.2])&&decide (Builtin.Tuple.tupleHashOf [tupleKeyHash knd ks.1,tupleKeyHash knd ks.2]<2^63))=true then _ else _) Q E _
  unfold HA reduceHash at h;have et:s.toks+(ks.1.length+ks.2.length+3)=s.toks+(ks.1.length+1)+(ks.2.length+1)+1:=by omega
  rw[et]at h;split
  ·rename_i hr
   rw[Xc hr]at h;exact Xi h
  ·rename_i hr
   rw[Xb hr]at h;exact Xa (wpAny_rule (Xi h))
theorem Zj5 {x y:List K×List K}{a b:Addr}{P:Fin->Shared->Prop}(hu:A.units+1<cLine)(hx:Yi knd s.heap x a)(hy:Yi knd s.heap y b)(h:P (.done (.ret (.bool (decide (x=y))))) s) :
 wpAny (model prog w) A (Builtin.«tuple.__eq__» ⟨[.ref a,.ref b],[]⟩) P E s:=by
 have hTb:=hy.typeIs
 obtain⟨oa,na,p,q,hoa,_,hda,ha1,ha2⟩:=hx
 obtain⟨ob,nb,p',q',hob,_,hdb,hb1,hb2⟩:=hy
 show wpAny _ _ (isInstance (.ref b) (.type "tuple") >>= _) _ _ s
 refine Xa (wpAny_isInstance hTb isSubtype_tuple_tuple ?_)
 simp only[Uu,X8,if_false];refine Xa (wpAny_tupleItemsOf hoa hda ?_)
 refine Xa (wpAny_tupleItemsOf hob hdb ?_)
 refine Xa ?_
 have e2:decide (x=y)=(decide (x.1=y.1)&&decide (x.2=y.2)):=by
  obtain⟨x1,x2⟩:=x
  obtain⟨y1,y2⟩:=y
  simp
 refine wpAny_forIn_list _
  (fun rest r s'=>r.1=none/\s'=s/\((rest=[(.ref p,.ref p'),(.ref q,.ref q')])\/(rest=[(.ref q,.ref q')]/\x.1=y.1)\/(rest=[]/\x=y)))
  _ ?_ ?_ _ _ ⟨rfl,rfl,.inl rfl⟩
 ·rintro⟨u,v⟩ rest r s' ⟨hr,rfl,(hz|⟨hz,e1⟩|⟨hz,_⟩)⟩
  ·injection hz with z1 z2
   injection z1 with z3 z4
   subst z2 z3 z4;refine Xa (wpAny_eqBool_tuple (by omega) ha1 hb1 ?_)
   by_cases hk:x.1=y.1
   ·rw[Yk hk]
    simp only[Uu,X8,if_false];exact Xi ⟨rfl,rfl,.inr (.inl ⟨trivial,hk⟩)⟩
   ·rw[XF hk]
    simp only[Bool.not_false,if_true];rw[e2,XF hk,Bool.false_and]at h;exact Xa (Xi (Xi (Xi h)))
  ·injection hz with z1 z2
   injection z1 with z3 z4
   subst z2 z3 z4;refine Xa (wpAny_eqBool_tuple (by omega) ha2 hb2 ?_)
   by_cases hk:x.2=y.2
   ·rw[Yk hk]
    simp only[Uu,X8,if_false];exact Xi ⟨rfl,rfl,.inr (.inr ⟨trivial,Prod.ext e1 hk⟩)⟩
   ·rw[XF hk]
    simp only[Bool.not_false,if_true];rw[e2,XF hk,Bool.and_false]at h;exact Xa (Xi (Xi (Xi h)))
  ·cases hz
 ·rintro⟨r1,r2⟩ s' ⟨hr,rfl,(hz|⟨hz,_⟩|⟨_,e⟩)⟩
  ·cases hz
  ·cases hz
  simp only at hr
  subst hr;refine Xi ?_
  rw[Yk e]at h;exact h
theorem Zf1 {x y:List K×List K}{a b:Addr}{Q:Bool->Shared->Prop}(hu:A.units+5<cLine)(hx:Yi knd s.heap x a)(hy:Yi knd s.heap y b)(h:Q (decide (x=y)) s) :
 wpAny (model prog w) A (eqBool (.ref a) (.ref b)) Q E s:=by
 unfold eqBool;try with_reducible refine wpAny_holding ?_
 show wpAny _ _ (if (Value.ref a==Value.ref b)=true then _ else _) Q E s
 by_cases hab:(Value.ref a==Value.ref b)=true
 ·rw[Xc hab]
  have e:a=b:=by have:=eq_of_beq hab;injection this
  subst e;cases hx.inj hy
  exact Xa (wpAny_rule (Xi (by simpa using h)))
 ·rw[Xb hab]
  exact Xa (wpAny_richCompare_same_room (op:=.Eq) hx.typeIs hy.typeIs F.slot_tuple_eq
   (wpAny_call_entry F.slot_tuple_eq hx.typeIs F.entry_tuple_eq (Zj5 (by show _+1<cLine;simp;omega) hx hy ⟨_,rfl,(fun e=>nomatch e),wpAny_truthy_bool h⟩) (F.args_tuple_eq_2 _ _)) (by omega))
theorem Zku (n:Nat){ks:List K}{a:Addr}{Q:Bool->Shared->Prop}(hk:IsTupleKey knd s.heap ks a)(h:Q true s):wpAny (model prog w) A (eqIsQuiet (n+1) (.ref a)) Q E s:=by
 have hT:=hk.typeIs
 obtain⟨o,items,m,ho,_,hd,hi⟩:=hk
 unfold eqIsQuiet;refine Xa (wpAny_specialOf hT F.slot_tuple_eq.lookup ?_)
 show wpAny _ _ (isInstance (.ref a) (.type "tuple") >>= _) _ _ s
 refine Xa (wpAny_isInstance hT isSubtype_tuple_tuple ?_)
 simp only[Uu,X8,if_false];refine Xa (wpAny_seqItems ho hd ?_)
 refine Xa ?_
 show wpAny _ _ (forIn items _ _) _ _ s
 rw[<- Array.forIn_toList];refine wpAny_forIn_list _ (fun rest r s'=>r.1=none/\s'=s/\∀v∈rest,carriedByValue v=true) _ ?_ ?_ _ _ ⟨rfl,rfl,hi.byValue⟩
 ·rintro v rest r s' ⟨hr,rfl,hall⟩
  rw[eqIsQuiet_byValue _ (hall v Xd)];refine Xa (Xi ?_)
  simp only[Uu,X8,if_false];exact Xi ⟨rfl,rfl,fun u hu'=>hall u (Xe _ hu')⟩
 ·rintro⟨r1,r2⟩ s' ⟨hr,rfl,_⟩
  simp only at hr
  subst hr;exact Xi h
theorem Ze6 {ks:List K×List K}{a:Addr}{Q:Bool->Shared->Prop}(hk:Yi knd s.heap ks a)(h:Q true s):wpAny (model prog w) A (eqIsQuiet 8 (.ref a)) Q E s:=by
 have hT:=hk.typeIs
 obtain⟨o,n,p,q,ho,_,hd,h1,h2⟩:=hk
 unfold eqIsQuiet;refine Xa (wpAny_specialOf hT F.slot_tuple_eq.lookup ?_)
 show wpAny _ _ (isInstance (.ref a) (.type "tuple") >>= _) _ _ s
 refine Xa (wpAny_isInstance hT isSubtype_tuple_tuple ?_)
 simp only[Uu,X8,if_false];refine Xa (wpAny_seqItems ho hd ?_)
 refine Xa ?_
 show wpAny _ _ (forIn #[Value.ref p,Value.ref q] _ _) _ _ s
 rw[<- Array.forIn_toList];refine wpAny_forIn_list _ (fun rest r s'=>r.1=none/\s'=s/\∀v∈rest,∃z zs,v=.ref z/\IsTupleKey knd s.heap zs z) _ ?_ ?_ _ _ ⟨rfl,rfl,fun v hv=>?_⟩
 ·rintro v rest r s' ⟨hr,rfl,hall⟩
  obtain⟨z,zs,rfl,hz⟩:=hall v Xd
  refine Xa (Zku 6 hz ?_)
  simp only[Uu,X8,if_false];exact Xi ⟨rfl,rfl,fun u hu'=>hall u (Xe _ hu')⟩
 ·rintro⟨r1,r2⟩ s' ⟨hr,rfl,_⟩
  simp only at hr
  subst hr;exact Xi h
 ·rcases Xg.mp hv with rfl|hv
  ·exact⟨p,_,rfl,h1⟩
  ·rcases Xg.mp hv with rfl|hv
   ·exact⟨q,_,rfl,h2⟩
   ·cases hv
end
def HC {prog:Program}{w:World}{K:Type} [DecidableEq K] (knd:KeyKind prog w K):HeapKind prog w (List K×List K) where
 is:=Yi knd
 hash:=HA knd
 draws:=fun ks=>ks.1.length+ks.2.length+3
 room:=fun A=>A.units+5<cLine
 inj:=fun hx hy=>hx.inj hy
 keeps:=fun x ho hd hs=>x.keeps ho hd hs
 pyHash:=fun hu hk h=>Zf0 hu hk h
 eqBool:=fun hu hx hy h=>Zf1 hu hx hy h
 quiet:=fun hk h=>Ze6 hk h
section
variable {prog:Program}{w:World}{K:Type} [DecidableEq K] {knd:HeapKind prog w K}{A:Around}{E:Qb}{s:Shared}
theorem Zdr {d a:Addr}{xs:List (K×Addr×Value)}{k:K}{dflt:Value}{Q:Qb}(hu:knd.room A)(hkey:knd.is s.heap k a)(hm:s.heap.DictOfH knd d xs)
 (hthere:∀p,atKey xs k=some p->Q p.2 { s with toks:=s.toks+knd.draws k })
 (hnew:atKey xs k=none->∀h',h'.DictOfH knd d (xs++[(k,a,dflt)])->Heap.SameBut d s.heap h'->Q dflt { s with heap:=h',toks:=s.toks+knd.draws k })
 (hsz:xs.length<=sizeLine) :
 wpAny (model prog w) A (dictSetDefault d (.ref a) dflt) Q E s:=by
 obtain⟨o,es,ep,ho,hc,hd,he,his,hn⟩:=hm
 unfold dictSetDefault;try with_reducible refine wpAny_holding ?_
 refine Xa (knd.pyHash hu hkey ?_)
 refine Xa (wpAny_dictFind_heap (s:={ s with toks:=s.toks+knd.draws k }) hu hkey ho hd he his hn ?_ ?_)
 ·intro hno
  have hnot:k∉xs.map (·.1):=not_mem_keys_of_get hno
  refine Xa (wpAny_rule (Xa (wpAny_updateDictKeys (hz:=by have e:=size_of_entries he;omega) (s:={ s with toks:=s.toks+knd.draws k }) ho hd (Xi (hnew (atKey_none_of_get hno) _ ⟨_,_,ep+1,JB _ ho (Obj.isFreed_of_dict (Obj.data_mapDictKeys hd _)),
   hc.mapDictKeys _,Obj.data_mapDictKeys hd _,?_,?_,?_⟩ (Heap.SameBut.update ..))))))
  ·simp[he,entryOfKey]
  ·intro x hx
   rcases XG.mp hx with hx|hx
   ·exact knd.keeps (his x hx) ho hd (Heap.SameBut.update ..)
   ·simp only[Xn]at hx
    subst hx;exact knd.keeps hkey ho hd (Heap.SameBut.update ..)
  ·rw[Xy,Bt]
   refine⟨hn,by simp,?_⟩
   intro x hx y hy;simp only[Xt,JD,Xn]at hy;subst hy;exact fun e=>hnot (e▸hx)
 ·intro j p hj
  refine Xa (wpAny_dictEntries (s:={ s with toks:=s.toks+knd.draws k }) ho hd ?_)
  rw[entry_at he j,hj];exact Xa (wpAny_rule (Xi (hthere _ (atKey_of_get hn hj))))
theorem ZdY (knd:HeapKind prog w K)(d a:Addr)(hd:(d==sysModules)=false)(dflt:Value) :
 MeetsIn prog w (Builtin.«dict.setdefault» ⟨[.ref d,.ref a,dflt],[]⟩) (fun A R s=>knd.room A.in1/\∃k xs,knd.is s.heap k a/\s.heap.DictOfH knd d xs/\xs.length<=sizeLine /\
  (∀p,atKey xs k=some p->R (.ok (.ret p.2)) { s with toks:=s.toks+knd.draws k }) /\
  (atKey xs k=none->∀h',h'.DictOfH knd d (xs++[(k,a,dflt)])->Heap.SameBut d s.heap h'->R (.ok (.ret dflt)) { s with heap:=h',toks:=s.toks+knd.draws k })) :=
 .of_wp fun A R s ⟨hu,k,xs,hkey,hm,hz,h1,h2⟩=>by
  unfold Builtin.«dict.setdefault»;refine Xa ?_
  unfold Builtin.Dict.keyAndDefault;refine Xa (wpAny_notOrdered_dict hm.typeIs ?_)
  show wpAny _ _ (pure (d,Value.ref a,some dflt)) _ _ s
  refine Xi ?_
  show wpAny _ _ (if (d==sysModules)=true then _ else (dictSetDefault d (.ref a) dflt >>= _)) _ _ s
  rw[Xb (by rw[hd];exact Xp)];exact Xa (Zdr hu hkey hm (fun p hp=>Xi ⟨p.2,rfl,h1 p hp⟩) (fun hn h' hm' hs'=>Xi ⟨dflt,rfl,h2 hn h' hm' hs'⟩) hz)
end
end PySem
theorem U7:1<=1000:=by decide
theorem YB:2<=1000:=by decide
namespace My
end My
namespace L2
open PySem
theorem Zx.keep {F H H':Hp}:∀{as:Qg} {dss:List (Qd)},(∀b∈as,H' b=H b)->Zx F H as dss->Zx F H' as dss
 |[],[],_,_=>trivial
 |a::as,_::_,h,o=>by
   obtain⟨⟨h1,xs,h2,h3⟩,o2⟩:=o
   exact⟨⟨h1,xs,by rw[h a Xd];exact h2,h3⟩,Zx.keep (fun b hb=>h b (Xe _ hb)) o2⟩
 |[],_::_,_,h=>False.elim h
 |_::_,[],_,h=>False.elim h
theorem Zz.keep {K:W.Frag}{F H H':Hp}{v:V}{t:OT}{p:Qg}(k:∀b∈p,H' b=H b)(h:Zz K F H v t p):Zz K F H' v t p:=by
 cases t with
 |fz d=>exact h
 |zow Ψ=>exact h
 |ol ds =>
   obtain⟨a,rfl,rfl,h1,xs,h2,h3⟩:=h
   exact⟨a,rfl,rfl,h1,xs,by rw[k a Xd];exact h2,h3⟩
 |oll dss =>
   obtain⟨a,as,rfl,rfl,h1,h2,h3,h4⟩:=h
   exact⟨a,as,rfl,rfl,h1,h2,by rw[k a Xd];exact h3,h4.keep fun b hb=>k b (Xe _ hb)⟩
 |scr ns=>exact h
 |own v0 Φ =>
   obtain⟨h1,h2⟩:=h
   exact⟨h1,Φ.mono (QC.refl _) (fun a ha=>(Φ.there h2 a ha).1) k h2⟩
theorem QT.writeOwn {K:W.Frag}{H0 F H:Hp}{ρ:QG}{σ:St}{i:Nat}{v:V}{Φ:OwnP}(s:QT K H0 F ρ σ H)(e:ρ[i]?=some (some (.own v Φ))) :
 σ[i]?=some (some v)/\∃p,Φ.ok K F H v p/\(∀a∈p,H0 a=none/\F a=none/\H a≠none) /\
  ∀(H':Hp) (Φ':OwnP) (p':Qg),QC F H'->(∀b,b∉p->H b≠none->H' b=H b)->(∀b,H b≠none->H' b≠none)->Φ'.ok K F H' v p'->(∀a∈p',a∈p\/(H a=none/\H0 a=none)) ->
   QT K H0 F (ρ.set i (some (.own v Φ'))) σ H':=by
 obtain⟨kt,h1,h2,fp,h3,h4,h5⟩:=s
 obtain⟨u,e1,rfl,e2⟩:=h3 i _ e
 refine⟨e1,fp i,e2,fun a ha=>⟨(h5 i a ha).1,(Φ.there e2 a ha).1,(h5 i a ha).2⟩,fun H' Φ' p' sm kp st ok sub=>?_⟩
 have hlt:=(Xh.mp e).1
 refine⟨kt,sm,by simp[h2],fun j=>if j=i then p' else fp j,fun j t' e'=>?_,fun j k a ha hb=>?_,fun j a ha=>?_⟩
 ·by_cases hj:j=i
  ·subst hj
   rw[XU hlt]at e';cases e'
   refine⟨_,e1,rfl,?_⟩
   simp only[if_true];exact ok
  ·rw[X0 (Ne.symm hj)]at e'
   obtain⟨u',f1,f2⟩:=h3 j t' e'
   refine⟨u',f1,?_⟩
   simp only[Xb hj];exact f2.keep fun b hb=>kp b (fun z=>hj (h4 j i b hb z)) (h5 j b hb).2
 ·by_cases hj:j=i
  ·by_cases hk:k=i
   ·omega
   ·simp only[Xc hj]at ha
    simp only[Xb hk]at hb;rcases sub a ha with z|z
    ·exact Xl (h4 k i a hb z) hk
    ·exact Xl z.1 (h5 k a hb).2
  ·simp only[Xb hj]at ha
   by_cases hk:k=i
   ·simp only[Xc hk]at hb
    rcases sub a hb with z|z
    ·exact Xl (h4 j i a ha z) hj
    ·exact Xl z.1 (h5 j a ha).2
   ·simp only[Xb hk]at hb
    exact h4 j k a ha hb
 ·by_cases hj:j=i
  ·simp only[Xc hj]at ha
   rcases sub a ha with z|z
   ·exact⟨(h5 i a z).1,st a (h5 i a z).2⟩
   ·exact⟨z.2,(Φ'.there ok a ha).2⟩
  ·simp only[Xb hj]at ha
   exact⟨(h5 j a ha).1,st a (h5 j a ha).2⟩
def Dp:Key->PyData
 |.inl i=>.int i
 |.inr x=>.str x
def QW (k:List Key):PyData:=.tuple (k.map Dp)
theorem El {F:Hp}{y:V}{k:Key}(r:Rep F y (Dp k)):y=kV k:=by
 cases k with
 |inl i=>cases r;rfl
 |inr x=>cases r;rfl
theorem Tr {F:Hp}:∀{ys:List V} {k:List Key},Qw F ys (k.map Dp)->ys=k.map kV
 |_,[],.nil=>rfl
 |_,k::ks,.cons r rs=>by rw[El r,Tr rs];rfl
theorem W2 {F:Hp}{y:V}{k:List Key}(r:Rep F y (QW k)):∃b,y=.ref b/\F b=some (.tup (k.map kV)):=by
 unfold QW at r;cases r with
 |tup h rs=>exact⟨_,rfl,by rw[h,Tr rs]⟩
abbrev ZO:=List (List Key×PyData)
def VU (kvs:ZO)(k:List Key):Option PyData:=(kvs.find? fun kv=>decide (kv.1=k)).map (·.2)
def U3 (kvs:ZO)(k:List Key)(d:PyData):ZO:=if (kvs.any fun kv=>decide (kv.1=k))=true then kvs.map (fun kv=>if kv.1=k then (kv.1,d) else kv) else kvs++[(k,d)]
inductive PairD (F:Hp):List (List Key×V)->ZO->Prop
 |nil:PairD F [] []
 |cons {k:List Key} {x:V} {d:PyData} {xs:List (List Key×V)} {kvs:ZO}:Rep F x d->PairD F xs kvs->PairD F ((k,x)::xs) ((k,d)::kvs)
theorem PairD.mono {F F':Hp}(s:QC F F'):∀{xs:List (List Key×V)} {kvs:ZO},PairD F xs kvs->PairD F' xs kvs
 |_,_,.nil=>.nil
 |_,_,.cons r t=>.cons (r.mono s) (t.mono s)
theorem PairD.length {F:Hp}:∀{xs:List (List Key×V)} {kvs:ZO},PairD F xs kvs->xs.length=kvs.length
 |_,_,.nil=>rfl
 |_,_,.cons _ t=>by simp[t.length]
theorem PairD.val {F:Hp}(k:List Key):∀{xs:List (List Key×V)} {kvs:ZO},PairD F xs kvs->(Z0 xs k=none/\VU kvs k=none)\/∃x d,Z0 xs k=some x/\VU kvs k=some d/\Rep F x d
 |_,_,.nil=>.inl ⟨rfl,rfl⟩
 |_,_,.cons (k:=k') (x:=x) (d:=d) (xs:=xs) (kvs:=kvs) r t=>by
   by_cases e:k'=k
   ·exact .inr ⟨x,d,Wh e,by simp[VU,XA,e],r⟩
   ·have q:VU ((k',d)::kvs) k=VU kvs k:=by simp[VU,XA,e]
    rw[Wi (p:=(k',x)) e,q]
    exact t.val k
theorem PairD.any {F:Hp}(k:List Key):∀{xs:List (List Key×V)} {kvs:ZO},PairD F xs kvs->(xs.any fun kv=>decide (kv.1=k))=(kvs.any fun kv=>decide (kv.1=k))
 |_,_,.nil=>rfl
 |_,_,.cons _ t=>by simp[t.any k]
theorem PairD.mapP {F:Hp}(k:List Key){y:V}{d:PyData}(r:Rep F y d):∀{xs:List (List Key×V)} {kvs:ZO},PairD F xs kvs->PairD F (xs.map fun kv=>if kv.1=k then (kv.1,y) else kv) (kvs.map fun kv=>if kv.1=k then (kv.1,d) else kv)
 |_,_,.nil=>.nil
 |_,_,.cons (k:=k') r' t=>by
   rw[Xt,Xt];by_cases e:k'=k
   ·simp only[e,if_true]
    exact .cons r (t.mapP k r)
   ·simp only[e,if_false]
    exact .cons r' (t.mapP k r)
theorem PairD.snoc {F:Hp}(k:List Key){y:V}{d:PyData}(r:Rep F y d):∀{xs:List (List Key×V)} {kvs:ZO},PairD F xs kvs->PairD F (xs++[(k,y)]) (kvs++[(k,d)])
 |_,_,.nil=>.cons r .nil
 |_,_,.cons r' t=>.cons r' (t.snoc k r)
theorem PairD.put {F:Hp}(k:List Key){y:V}{d:PyData}(r:Rep F y d){xs:List (List Key×V)}{kvs:ZO}(t:PairD F xs kvs):PairD F (Yn xs k y) (U3 kvs k d):=by
 unfold Yn U3;rw[t.any k];split
 ·exact t.mapP k r
 ·exact t.snoc k r
def Vx (kvs:ZO):OwnP where
 ok K F H v p := ∃a xs,v=.ref a/\p=[a]/\F a=none/\H a=some (.dT xs)/\PairD F xs kvs
 there:=by
  rintro K F H v p ⟨a,xs,rfl,rfl,h1,h2,h3⟩ b hb
  cases Xn.mp hb
  exact⟨h1,Yc h2⟩
 mono:=by
  rintro K F F' H H' v p s hF hH ⟨a,xs,rfl,rfl,h1,h2,h3⟩
  exact⟨a,xs,rfl,rfl,hF a Xd,by rw[hH a Xd];exact h2,h3.mono s⟩
 uniq:=by
  rintro K F H v p q ⟨a,xs,rfl,rfl,_⟩ ⟨b,ys,e,rfl,_⟩ c hc
  cases e
  exact hc
section
variable {K:W.Frag}{ρ:QG}{te ty tv:TE}{D:PEnds}{i:Nat}{v:V}{kvs:ZO}{k:List Key}{d:PyData}
theorem QT.dct {H0 F H:Hp}{σ:St}(S:QT K H0 F ρ σ H)(e:ρ[i]?=some (some (.own v (Vx kvs)))) :
 ∃a xs,v=.ref a/\σ[i]?=some (some (.ref a))/\F a=none/\H0 a=none/\H a=some (.dT xs)/\PairD F xs kvs:=by
 obtain⟨e1,p,⟨a,xs,rfl,rfl,h1,h2,h3⟩,hp,_⟩:=S.writeOwn e
 exact⟨a,xs,rfl,e1,h1,(hp a Xd).1,h2,h3⟩
theorem Kv {F:Hp}{xs:List (List Key×V)}(t:PairD F xs kvs):(Z0 xs k).isSome=(VU kvs k).isSome:=by
 rcases t.val k with ⟨z1,z2⟩|⟨x,d',z1,z2,_⟩<;>rw[z1,z2]<;>rfl
theorem C5 (hy:Qt K ty ρ (QW k))(e:ρ[i]?=some (some (.own v (Vx kvs)))):Qt K (Dd ty (Zc i)) ρ (.bool (VU kvs k).isSome):=fun H0 F σ H Q S q =>
 hy H0 F σ H _ S fun F1 H1 y x1 r1=>by
  obtain⟨a,xs,rfl,e1,_,_,f2,f3⟩:=(S.ext x1).dct e
  obtain⟨b,rfl,hb⟩:=W2 r1
  exact⟨_,e1,a,_,rfl,V6.t f2 (x1.fh _ _ hb),q F1 H1 _ x1 (by rw[Kv f3];exact .bl _)⟩
theorem ZmG (hy:Qt K ty ρ (QW k))(e:ρ[i]?=some (some (.own v (Vx kvs)))):Qt K (SD ty (Zc i)) ρ (.bool (!(VU kvs k).isSome)):=fun H0 F σ H Q S q =>
 hy H0 F σ H _ S fun F1 H1 y x1 r1=>by
  obtain⟨a,xs,rfl,e1,_,_,f2,f3⟩:=(S.ext x1).dct e
  obtain⟨b,rfl,hb⟩:=W2 r1
  exact⟨_,e1,a,_,rfl,V6.t f2 (x1.fh _ _ hb),q F1 H1 _ x1 (by rw[Kv f3];exact .bl _)⟩
theorem ES (e:ρ[i]?=some (some (.own v (Vx kvs))))(hv:Qt K tv ρ d)(hy:Qt K ty ρ (QW k))(hz:kvs.length<sizeLine)(hn:D.nx (ρ.set i (some (.own v (Vx (U3 kvs k d)))))):Q3 K (NO (Zc i) ty tv) ρ D:=fun F0 H0 F σ H E x S C =>
 hv H0 F σ H _ S fun F1 H1 u x1 r1=>by
  obtain⟨a,xs,rfl,e1,_⟩:=(S.ext x1).dct e
  refine⟨_,e1,hy H0 F1 σ H1 _ (S.ext x1) fun F2 H2 y x2 r2=>?_⟩
  have S2:=S.ext (x1.trans x2)
  obtain⟨a',xs',ea,_,g1,g0,g2,g3⟩:=S2.dct e
  cases ea
  obtain⟨b,rfl,hb⟩:=W2 r2
  refine⟨a,_,rfl,JN.t g2 (x2.fh _ _ hb) (by rw[g3.length];exact hz),?_⟩
  obtain⟨_,p,ok,hp,w⟩:=S2.writeOwn e
  obtain⟨a'',xs'',ea,rfl,_,g4,_⟩:=ok
  cases ea
  refine C.nx F2 σ _ _ ((x.trans (x1.trans x2)).wr g0 g1) (w _ (Vx (U3 kvs k d)) [a] (S2.sub.upd g1) (fun c hc _=>Qx fun z=>hc (by rw[z];exact Xd)) (fun c hc=>?_) ⟨a,_,rfl,rfl,g1,QR,g3.put k (r1.mono x2.ff)⟩ (fun c hc=>.inl hc)) hn
  by_cases z:c=a
  ·subst z;rw[QR];exact fun q=>nomatch q
  ·rw[Qx z];exact hc
def EvX (K:W.Frag)(t:TE)(ρ:QG)(Φ:OwnP):Prop := ∀(H0 F:Hp) (σ:St) (H:Hp) (Q:VK),QT K H0 F ρ σ H->(∀F' H' v p,QA F H F' H'->(∀a∈p,H a=none)->Φ.ok K F' H' v p->Q v H')->t σ H Q
theorem P4:∀{as bs:Qg},as.map V.ref=bs.map V.ref->as=bs
 |[],[],_=>rfl
 |a::as,b::bs,h=>by
   rw[Xt,Xt]at h;injection h with h1 h2
   cases h1
   rw[P4 h2]
 |[],_::_,h=>by cases h
 |_::_,[],h=>by cases h
theorem Td {F H:Hp}{w:V}{t:OT}{p q:Qg}(h:Zz K F H w t p)(h':Zz K F H w t q):∀b∈q,b∈p:=by
 cases t with
 |fz d=>rw[h'.1];intro b hb;cases hb
 |zow Ψ=>rw[h'.1];intro b hb;cases hb
 |ol ds =>
   obtain⟨b1,z1,z2,z3⟩:=h'
   obtain⟨b2,y1,y2,y3⟩:=h
   rw[z1]at y1;cases y1
   rw[z2,y2];exact fun _ z=>z
 |oll dss =>
   obtain⟨a,as,z1,z2,_,_,z3,_⟩:=h'
   obtain⟨b,bs,y1,y2,_,_,y3,_⟩:=h
   rw[z1]at y1;cases y1
   rw[z3]at y3;injection y3 with y4
   injection y4 with y5
   rw[z2,y2,P4 y5];exact fun _ z=>z
 |scr ns=>rw[h'.1];intro b hb;cases hb
 |own v0 Φ=>exact Φ.uniq h.2 h'.2
theorem Sq {Φ:OwnP}(h:EvX K te ρ Φ)(hn:∀v,D.nx (ρ.set i (some (.own v Φ)))):Q3 K (Wq te (Ws i)) ρ D:=fun F0 H0 F σ H E x S C =>
 h H0 F σ H _ S fun F' H' v p x' hp ok=>by
  refine C.nx F' _ H' _ (x.trans x') ((S.ext x').set (t:=.own v Φ) ⟨rfl,ok⟩ (fun a ha=>x.hh.free (hp a ha)) (hn:=fun a ha j w t' q e1 e2 ok'=>?_)) (hn v)
  obtain⟨fp,g1,g2,g3⟩:=S.fp
  obtain⟨w',f1,f2⟩:=g1 j t' e1
  intro hq;have f3:=f2.ext x'
  rw[e2]at f1;cases f1
  exact(g3 j a (Td (K:=K) f3 ok' a hq)).2 (hp a ha)
end
end L2
namespace Mir
open PySem
theorem OG (e:Nat):Builtin.bitAnd (e:Int) 1=((e%2:Nat):Int):=by
 unfold Builtin.bitAnd;have h1:decide ((0:Int)<=(e:Int))=true:=Yk (by omega)
 have h2:decide ((0:Int)<=1)=true:=rfl
 rw[h1,h2];show((((e:Int).toNat &&& (1:Int).toNat:Nat)):Int)=_
 rw[XH,show(1:Int).toNat=1 from rfl,Nat.and_one_is_mod]
theorem FO (e:Nat):e ||| 1=e+1-e%2:=by
 apply Nat.eq_of_testBit_eq
 intro i;rw[Nat.testBit_or];have h2:e%2=0\/e%2=1:=by omega
 cases i with
 |zero =>
   rw[Nat.testBit_zero,Nat.testBit_zero,Nat.testBit_zero];have:(e+1-e%2)%2=1:=by omega
   rw[this];rcases h2 with h|h<;>rw[h]<;>rfl
 |succ i =>
   rw[Nat.testBit_succ,Nat.testBit_succ,Nat.testBit_succ];have:(e+1-e%2)/2=e/2:=by omega
   rw[this];simp
theorem EG (e:Nat):Builtin.bitOr (e:Int) 1=((e+1-e%2:Nat):Int):=by
 unfold Builtin.bitOr;have a:Builtin.bitNot (e:Int) = -(e:Int)-1:=rfl
 have b:Builtin.bitNot 1 = -2:=rfl
 have c:Builtin.bitAnd (Builtin.bitNot (e:Int)) (Builtin.bitNot 1)=Builtin.bitNot (((e ||| 1:Nat)):Int):=by
  rw[a,b];unfold Builtin.bitAnd;have h1:decide ((0:Int) <= -(e:Int)-1)=false:=XF (by omega)
  have h2:decide ((0:Int) <= -2)=false:=rfl
  rw[h1,h2];show Builtin.bitNot ((((Builtin.bitNot (-(e:Int)-1)).toNat ||| (Builtin.bitNot (-2)).toNat:Nat)):Int)=_
  have e1:(Builtin.bitNot (-(e:Int)-1)).toNat=e:=by show(-(-(e:Int)-1)-1).toNat=e;omega
  have e2:(Builtin.bitNot (-2)).toNat=1:=rfl
  rw[e1,e2]
 rw[c,FO];show -(-(((e+1-e%2:Nat)):Int)-1)-1=_
 omega
theorem KB (e:Nat):Builtin.bitXor (e:Int) 1=(Zfb e:Int):=by
 unfold Builtin.bitXor;rw[OG,EG];unfold Zfb;split<;>omega
end Mir
namespace L2
open PySem PySem.Spec PyProof.Rows
abbrev KK:=List Key×List Key
def Jj (P:Program)(w:World)(a:Addr)(xs:List (KK×Addr×V))(h:Heap):Prop:=xs.length<=sizeLine/\(a==sysModules)=false/\∃vs:List (KK×Addr×Value),
 Paired (fun(x:KK×Addr×V) (y:KK×Addr×Value)=>x.1=y.1/\x.2.1=y.2.1/\QK x.2.2 y.2.2) xs vs /\
 ∃o es ep,h.get? a=some o/\o.ExactDict/\o.data=.dict es ep/\es.toList=vs.map (entryOfKey (HC (Ve P w)))/\(vs.map (·.1)).Nodup
def pdO (P:Program)(w:World)(a:Addr)(xs:List (KK×Addr×V)):HO:=.ext (Jj P w a xs)
theorem Jj.move {P:Program}{w:World}{a:Addr}{xs:List (KK×Addr×V)}{h1 h2:Heap}(x:Jj P w a xs h1)(k:∀o,h1.get? a=some o->h2.get? a=some o):Jj P w a xs h2:=by
 obtain⟨z,y,vs,r,o,es,ep,e1,e2,e3,e4,e5⟩:=x
 exact⟨z,y,vs,r,o,es,ep,k _ e1,e2,e3,e4,e5⟩
theorem Jj.ok {P:Program}{w:World}{a:Addr}{xs:List (KK×Addr×V)}{H:Hp}{h:Heap}(x:Jj P w a xs h):Z7 P w H h a (pdO P w a xs):=by
 refine⟨x,?_,fun h1 h2 y k=>y.move k⟩
 obtain⟨z,y,vs,r,o,es,ep,e1,_⟩:=x
 exact⟨o,e1⟩
def ZZ (H:Hp)(k:KK)(b:Addr):Prop := ∃p q,H b=some (.tup [.ref p,.ref q])/\H p=some (.tup (k.1.map kV))/\H q=some (.tup (k.2.map kV))
theorem ZZ.mono {H H':Hp}(s:∀b ys,H b=some (.tup ys)->H' b=some (.tup ys)){k:KK}{b:Addr}(x:ZZ H k b):ZZ H' k b:=by
 obtain⟨p,q,h1,h2,h3⟩:=x
 exact⟨p,q,s _ _ h1,s _ _ h2,s _ _ h3⟩
section
variable {P:Program}{w:World}{H:Hp}{h:Heap}{a b:Addr}
theorem Ml {k:KK}(ok:HOk P w H h)(x:ZZ H k b):(HC (Ve P w)).is h k b:=by
 obtain⟨p,q,h1,h2,h3⟩:=x
 obtain⟨_,its,r,o,e1,e2,n,e3⟩:=(show Z7 P w H h b (.tup [.ref p,.ref q]) from ok b _ h1)
 cases r with
 |cons r1 r =>
   cases r with
   |cons r2 r =>
     cases r
     cases (show _=Value.ref p from r1)
     cases (show _=Value.ref q from r2)
     exact⟨o,n,p,q,e1,e2,e3,W1 ok h2,W1 ok h3⟩
theorem D1 {xs:List (KK×Addr×V)}(ok:HOk P w H h)(e:H a=some (pdO P w a xs))(hk:∀x∈xs,ZZ H x.1 x.2.1):xs.length<=sizeLine/\(a==sysModules)=false/\∃vs,
 Paired (fun(x:KK×Addr×V) (y:KK×Addr×Value)=>x.1=y.1/\x.2.1=y.2.1/\QK x.2.2 y.2.2) xs vs/\h.DictOfH (HC (Ve P w)) a vs:=by
 obtain⟨⟨z,y,vs,r,o,es,ep,e1,e2,e3,e4,e5⟩,hst⟩:=(show Z7 P w H h a (pdO P w a xs) from ok a _ e)
 refine⟨z,y,vs,r,o,es,ep,e1,e2,e3,e4,?_,e5⟩
 clear e5 e4 z e hst;induction r with
 |nil=>intro x hx;exact nomatch hx
 |@cons p q ps qs hq t ih =>
   intro x hx;rcases Xg.mp hx with rfl|hx
   ·have:=Ml ok (hk p Xd)
    rw[hq.1,hq.2.1]at this;exact this
   ·exact ih (fun z hz=>hk z (Xe _ hz)) x hx
end
def Yf (xs:List (KK×Addr×V))(k:KK):Option V:=(xs.find? fun x=>decide (x.1=k)).map (·.2.2)
abbrev RPD:=Paired (fun(x:KK×Addr×V) (y:KK×Addr×Value)=>x.1=y.1/\x.2.1=y.2.1/\QK x.2.2 y.2.2)
theorem RPD.val (k:KK){xs:List (KK×Addr×V)}{vs:List (KK×Addr×Value)}(r:RPD xs vs):ZQ (Yf xs k) ((atKey vs k).map (·.2)):=by
 induction r with
 |nil=>exact True.intro
 |@cons p q ps qs hq t ih =>
   by_cases e:p.1=k
   ·have e1:Yf (p::ps) k=some p.2.2:=by simp[Yf,XA,e]
    have e2:(atKey (q::qs) k).map (·.2)=some q.2.2:=by simp[atKey,XA,<- hq.1,e]
    rw[e1,e2];exact hq.2.2
   ·have e1:Yf (p::ps) k=Yf ps k:=by simp[Yf,XA,e]
    have e2:(atKey (q::qs) k).map (·.2)=(atKey qs k).map (·.2):=by simp[atKey,XA,<- hq.1,e]
    rw[e1,e2];exact ih
def Jl (xs:List (KK×Addr×V))(k:KK)(b:Addr)(v:V):List (KK×Addr×V):=if (Yf xs k).isSome=true then xs.map (fun x=>if x.1=k then (x.1,x.2.1,v) else x) else xs++[(k,b,v)]
theorem RPD.repl (k:KK){v:V}{u:Value}(rv:QK v u){xs:List (KK×Addr×V)}{vs:List (KK×Addr×Value)}(r:RPD xs vs):RPD (xs.map fun x=>if x.1=k then (x.1,x.2.1,v) else x) (vs.map (putAt k u)):=by
 induction r with
 |nil=>exact .nil
 |@cons p q ps qs hq t ih =>
   rw[Xt,Xt];refine .cons ?_ ih
   unfold putAt;by_cases e:p.1=k
   ·rw[Xc e,Xc (hq.1▸e)]
    exact⟨hq.1,hq.2.1,rv⟩
   ·rw[Xb e,Xb (hq.1▸e)]
    exact hq
theorem ZQ.some_eq:∀{x:Option V} {y:Qf},ZQ x y->x.isSome=y.isSome
 |none,none,_=>rfl
 |some _,some _,_=>rfl
 |none,some _,h=>by cases h
 |some _,none,h=>by cases h
theorem RPD.put (k:KK)(b:Addr){v:V}{u:Value}(rv:QK v u){xs:List (KK×Addr×V)}{vs:List (KK×Addr×Value)}(r:RPD xs vs):RPD (Jl xs k b v) (storedH vs k b u):=by
 have e:=ZQ.some_eq (r.val k)
 rw[J8]at e;unfold Jl storedH;rw[e];split
 ·exact r.repl k rv
 ·exact Paired.snoc r ⟨rfl,rfl,rv⟩
theorem Zki (xs:List (KK×Addr×V))(k:KK)(b:Addr)(v:V):(Jl xs k b v).length<=xs.length+1:=by
 unfold Jl;split<;>simp
section
variable {X:Cx}{Xbs:Qc}{σ:St}{H:Hp}{s:Shared}{a b:Addr}{v:V}{r:Value}{A:Around}{E:Qb}{xs:List (KK×Addr×V)}{k:KK}
theorem O5 {Q:Unit->Shared->Prop}(hu:A.units+6<cLine)(I:Qr X Xbs σ H s)(e:H a=some (pdO X.prog X.w a xs))(hk:∀x∈xs,ZZ H x.1 x.2.1)(hb:ZZ H k b)(l:xs.length<sizeLine)(rv:QK v r)
 (h:∀s',Qr X Xbs σ (upd H a (pdO X.prog X.w a (Jl xs k b v))) s'->Q () s'):wpAny (model X.prog X.w) A (setItem (.ref a) (.ref b) r) Q E s:=by
 obtain⟨z,hd,vs,rel,dd⟩:=D1 I.hok e hk
 have hz:vs.length<=sizeLine:=by rw[<- Paired.length rel];exact z
 refine wpAny_setItem_heap (hsz:=hz) (show A.units+1+5<cLine by omega) (Ml I.hok hb) dd fun h' dd' hs=>h _ ?_
 obtain⟨q,es,ep,hq,h2,h3,h4,_,h5⟩:=dd'
 exact GK I (by rw[e];exact True.intro) hs ⟨q,hq⟩ (Jj.ok ⟨by have:=Zki xs k b v;omega,hd,_,RPD.put k b rv rel,q,es,ep,hq,h2,h3,h4,h5⟩)
theorem Ou {Q:Qb}(hu:A.units+6<cLine)(I:Qr X Xbs σ H s)(e:H a=some (pdO X.prog X.w a xs))(hk:∀x∈xs,ZZ H x.1 x.2.1)(hb:ZZ H k b)(hv:Yf xs k=some v)
 (h:∀u s',Qr X Xbs σ H s'->QK v u->Q u s'):wpAny (model X.prog X.w) A (getItem (.ref a) (.ref b)) Q E s:=by
 obtain⟨z,hd,vs,rel,dd⟩:=D1 I.hok e hk
 have rr:=RPD.val k rel
 rw[hv]at rr;cases ek:atKey vs k with
 |none=>rw[ek]at rr;cases rr
 |some p =>
   rw[ek]at rr;exact wpAny_getItem_heap (show A.units+1+5<cLine by omega) (Ml I.hok hb) dd ek (h _ _ (I.tok _) rr)
theorem Cm {Q:Qb}(hu:A.units+6<cLine)(I:Qr X Xbs σ H s)(e:H a=some (pdO X.prog X.w a xs))(hk:∀x∈xs,ZZ H x.1 x.2.1)(hb:ZZ H k b)
 (h:∀s',Qr X Xbs σ H s'->Q (.bool (!(Yf xs k).isSome)) s'):wpAny (model X.prog X.w) A (compareOp .NotIn (.ref b) (.ref a)) Q E s:=by
 obtain⟨z,hd,vs,rel,dd⟩:=D1 I.hok e hk
 have rr:=ZQ.some_eq (RPD.val k rel)
 rw[J8]at rr;refine wpAny_notIn_heap (show A.units+1+5<cLine by omega) (Ml I.hok hb) hd dd ?_
 rw[<- rr];exact h _ (I.tok _)
end
section
variable {X:Cx}{Xbs:Qc}{σ:St}{H:Hp}{s:Shared}{a b:Addr}{d:V}{r:Value}{A:Around}{E:Qb}{kvs:List (List Key×V)}{k:List Key}
theorem EV {Q:Qb}(hu:A.units+1<cLine)(I:Qr X Xbs σ H s)(e:H a=some (.dT kvs))(eb:H b=some (.tup (k.map kV)))(l:kvs.length<sizeLine)(rd:QK d r)
 (h1:∀v u s',Z0 kvs k=some v->Qr X Xbs σ H s'->QK v u->Q u s') (h2:Z0 kvs k=none->∀s',Qr X Xbs σ (upd H a (.dT (kvs++[(k,d)]))) s'->Q r s') :
 wpAny (model X.prog X.w) A (call (.builtin "dict.setdefault") [.ref a,.ref b,r]) Q E s:=by
 obtain⟨z,hd,xs,rel,dd⟩:=D7 I.hok e
 have hz:xs.length<=sizeLine:=by rw[<- Paired.length rel];exact z
 have rr:=rel.val k
 refine call_meetsIn PySem.F.slot_dict_setdefault dd.typeIs PySem.F.entry_dict_setdefault (PySem.F.args_dict_setdefault_3 _ _ _) (ZdY (tupleKind (Ve X.prog X.w)) a b hd r)
  ⟨tupleKind_room_in1 hu,k,xs,W1 I.hok eb,dd,hz,fun p hp=>?_,fun hn h' dd' hs=>?_⟩
 ·rw[hp]at rr
  cases ev:Z0 kvs k with
  |none=>rw[ev]at rr;cases rr
  |some v=>rw[ev]at rr;exact h1 v _ _ ev (I.tok _) rr
 ·have ev:Z0 kvs k=none:=by
   rw[hn]at rr;cases ev:Z0 kvs k with
   |none=>rfl
   |some v=>rw[ev]at rr;cases rr
  refine h2 ev _ ?_
  obtain⟨q,es,ep,hq,g2,g3,g4,_,g5⟩:=dd'
  refine GK I (by rw[e];exact True.intro) hs ⟨q,hq⟩ ⟨by simp;omega,hd,_,(show KT H (kvs++[(k,d)]) (xs++[(k,b,r)]) from Paired.snoc rel ⟨rfl,eb,rd⟩).keeps fun c ys ec=>?_,q,es,ep,hq,g2,g3,g4,g5⟩
  rw[Qx (fun z=>by subst z;rw[e]at ec;cases ec)]
  exact ec
end
def Sc (td ty tx:TE):TE:=fun σ H Q=>td σ H fun x H1=>∃a,x=.ref a/\IsD H1 a/\ty σ H1 fun y H2=>tx σ H2 fun z H3=>∃kvs k b,y=.ref b/\H3 a=some (.dT kvs)/\H3 b=some (.tup (k.map kV))/\kvs.length<sizeLine /\
 (∀v,Z0 kvs k=some v->Q v H3)/\(Z0 kvs k=none->Q z (upd H3 a (.dT (kvs++[(k,z)]))))
section
variable {X:Cx}{o e f value:Expr}{apos cpos pos pos':Pos}{td ty tx tv:TE}
theorem E8 (hu:X.A.units+1<cLine) (ho:PE X o td) (he:PE X e ty) (hf:PE X f tx) (m:M2 X o "setdefault" apos e f cpos):PE X (.Call (.Attribute o "setdefault" apos) [e,f] [] cpos) (Sc td ty tx):=by
 intro Xbs s σ H Q I h;refine wpAny_Call_method m.base m.few m.line PySem.F.plainAttrs_dict PySem.F.slot_dict_setdefault PySem.F.type_dict_setdefault (Q8 (ho Xbs s σ H _ I h) fun u s1 ⟨x,H1,I1,rx,a,ex,d,q1⟩=>?_)
 subst ex;obtain rfl:u=Value.ref a:=rx
 obtain⟨t1,t2,_⟩:=R6 I1 d
 refine⟨t1,t2,?_⟩
 rw[m.trees];refine Calls.callWith_builtin rfl (Calls.evalArgs_plain (Calls.spliced_cons (Q8 (he Xbs s1 σ H1 _ I1 q1) fun iv s2 ⟨y,H2,I2,ry,q2⟩ =>
  Calls.spliced_cons (Q8 (hf Xbs s2 σ H2 _ I2 q2) fun fv s3 ⟨z,H3,I3,rz,kvs,k,b,ey,e1,e2,l,q3,q4⟩=>Calls.spliced_nil ?_))))
 subst ey;cases (show iv=Value.ref b from ry)
 exact EV hu I3 e1 e2 l rz (fun v u s' ev I4 rv=>⟨v,H3,I4,rv,q3 v ev⟩) (fun ev s' I4=>⟨z,_,I4,rz,q4 ev⟩)
def NZ (P:Program)(w:World)(td ty:TE):TE:=fun σ H Q=>td σ H fun x H1=>ty σ H1 fun y H2=>∃a b xs k v,x=.ref a/\y=.ref b/\H2 a=some (pdO P w a xs)/\(∀x∈xs,ZZ H2 x.1 x.2.1)/\ZZ H2 k b/\Yf xs k=some v/\Q v H2
def S6 (P:Program)(w:World)(ty td:TE):TE:=fun σ H Q=>ty σ H fun y H1=>td σ H1 fun x H2=>∃a b xs k,x=.ref a/\y=.ref b/\H2 a=some (pdO P w a xs)/\(∀x∈xs,ZZ H2 x.1 x.2.1)/\ZZ H2 k b/\Q (.bl (!(Yf xs k).isSome)) H2
def Rn (P:Program)(w:World)(td ty tv:TE):TS:=fun D σ H=>tv σ H fun v H1=>td σ H1 fun x H2=>ty σ H2 fun y H3=>∃a b xs k,x=.ref a/\y=.ref b/\H3 a=some (pdO P w a xs)/\(∀x∈xs,ZZ H3 x.1 x.2.1)/\ZZ H3 k b/\xs.length<sizeLine /\
 D.nx σ (upd H3 a (pdO P w a (Jl xs k b v)))
theorem OZ {Xbs:Qc} {σ:St} {H:Hp} {s:Shared} {a:Addr} {xs:List (KK×Addr×V)} (I:Qr X Xbs σ H s) (e:H a=some (pdO X.prog X.w a xs)):s.TypeIs (.ref a) "dict" := by
 obtain⟨⟨_,_,vs,_,o,es,ep,e1,e2,_⟩,_⟩:=(show Z7 X.prog X.w H s.heap a (pdO X.prog X.w a xs) from I.hok a _ e)
 exact⟨o,e1,e2.1⟩
theorem CA (hu:X.A.units+6<cLine)(ho:PE X o td)(hi:PE X e ty)(hs:Da e):PE X (.Subscript o e pos) (NZ X.prog X.w td ty):=by
 intro Xbs s σ H Q I h;refine S9 PySem.F.slot_dict_getitem.lookup hs (Q8 (ho Xbs s σ H _ I h) fun u s1 ⟨x,H1,I1,rx,q1⟩=>Q8 (hi Xbs s1 σ H1 _ I1 q1) fun iv s2 ⟨y,H2,I2,ry,a,b,xs,k,v,ex,ey,e1,e2,e3,e4,q2⟩=>?_)
 subst ex ey;obtain rfl:u=Value.ref a:=rx
 obtain rfl:iv=Value.ref b:=ry
 exact⟨OZ I2 e1,Ou hu I2 e1 e2 e3 e4 fun w' s3 I3 rw'=>⟨v,H2,I3,rw',q2⟩⟩
theorem II (hu:X.A.units+6<cLine)(hi:PE X e ty)(ho:PE X o td):PC X .NotIn e o (S6 X.prog X.w ty td):=by
 intro Xbs s σ H Q I h;refine Q8 (hi Xbs s σ H _ I h) fun iv s1 ⟨y,H1,I1,ry,q1⟩=>Q8 (ho Xbs s1 σ H1 _ I1 q1) fun u s2 ⟨x,H2,I2,rx,a,b,xs,k,ex,ey,e1,e2,e3,q2⟩=>?_
 subst ex ey;obtain rfl:u=Value.ref a:=rx
 obtain rfl:iv=Value.ref b:=ry
 exact Cm hu I2 e1 e2 e3 fun s3 I3=>⟨.bl (!(Yf xs k).isSome),H2,I3,rfl,q2⟩
theorem CV (hu:X.A.units+6<cLine)(ho:PE X o td)(hi:PE X e ty)(hv:PE X value tv)(hs:swapsWith value (some (.Subscript o e pos')) pos.line X.env=pure false) :
 PS X (.Assign [.Subscript o e pos'] value pos) (Rn X.prog X.w td ty tv):=by
 intro Xbs s σ H D I h;refine wpAny_Assign_Subscript (Q8 (hv Xbs s σ H _ I h) fun r s1 ⟨v,H1,I1,rv,q1⟩=>Q8 (ho Xbs s1 σ H1 _ I1 q1) fun u s2 ⟨x,H2,I2,rx,q2⟩=>Q8 (hi Xbs s2 σ H2 _ I2 q2) fun iv s3 ⟨y,H3,I3,ry,a,b,xs,k,ex,ey,e1,e2,e3,l,q3⟩=>?_) hs
 subst ex ey;obtain rfl:u=Value.ref a:=rx
 obtain rfl:iv=Value.ref b:=ry
 exact O5 hu I3 e1 e2 e3 l rv fun s4 I4=>⟨σ,_,I4,q3⟩
end
def FZ (P:Program)(w:World):TE:=fun _ H Q=>∀p,H p=none->Q (.ref p) (upd H p (pdO P w p []))
theorem EO {X:Cx}{pos:Pos}:PE X (.Dict [] [] pos) (FZ X.prog X.w):=fun Xbs s σ H Q I h =>
 wpAny_Dict_empty ⟨.ref s.heap.objs.size,_,I.laid (a:=s.heap.objs.size) (o:=pdO X.prog X.w s.heap.objs.size []) (t':=s.toks) (fun _ _ q=>Xf _ q) (Xs _)
  (Jj.ok ⟨Vl _,beq_eq_false_iff_ne.mpr (Ne.symm (Xo I.big)),[],.nil,_,#[],0,XQ _ rfl,⟨rfl,rfl,rfl⟩,rfl,rfl,Gg⟩),rfl,h _ (I.hok.fresh (Xs _))⟩
structure Qz where
 ends:List (List Key)
 rooms:Ql
 leav:List (List Key×Ql)
 laid:List (KK×Int)
inductive LaidD (F:Hp):List (KK×Addr×V)->List (KK×Int)->Prop
 |nil:LaidD F [] []
 |cons {k:KK} {b:Addr} {n:Int} {xs:List (KK×Addr×V)} {ls:List (KK×Int)}:ZZ F k b->LaidD F xs ls->LaidD F ((k,b,.int n)::xs) ((k,n)::ls)
theorem LaidD.mono {F F':Hp}(s:QC F F'):∀{xs:List (KK×Addr×V)} {ls:List (KK×Int)},LaidD F xs ls->LaidD F' xs ls
 |_,_,.nil=>.nil
 |_,_,.cons h t=>.cons (h.mono fun b ys e=>s _ _ e) (t.mono s)
theorem LaidD.at {F H:Hp}(s:QC F H):∀{xs:List (KK×Addr×V)} {ls:List (KK×Int)},LaidD F xs ls->∀x∈xs,ZZ H x.1 x.2.1
 |_,_,.nil,x,hx=>nomatch hx
 |_,_,.cons h t,x,hx=>by
   rcases Xg.mp hx with rfl|hx
   ·exact h.mono fun b ys e=>s _ _ e
   ·exact t.at s x hx
inductive LeavD (F H:Hp):List (List Key×V)->List (List Key×Ql)->Qg->Prop
 |nil:LeavD F H [] [] []
 |cons {k:List Key} {a:Addr} {ns:Ql} {xs:List (List Key×V)} {ls:List (List Key×Ql)} {as:Qg}:VL F H a (ns.map PyData.int)->LeavD F H xs ls as->LeavD F H ((k,.ref a)::xs) ((k,ns)::ls) (a::as)
theorem LeavD.mem {F H:Hp}:∀{xs:List (List Key×V)} {ls:List (List Key×Ql)} {as:Qg},LeavD F H xs ls as->∀a∈as,F a=none/\H a≠none
 |_,_,_,.nil,a,ha=>nomatch ha
 |_,_,_,.cons h t,a,ha=>by
   rcases Xg.mp ha with rfl|ha
   ·obtain⟨h1,xs,h2,_⟩:=h
    exact⟨h1,Yc h2⟩
   ·exact t.mem a ha
theorem LeavD.mono {F F' H H':Hp}(s:QC F F'):∀{xs:List (List Key×V)} {ls:List (List Key×Ql)} {as:Qg},(∀a∈as,F' a=none)->(∀a∈as,H' a=H a)->LeavD F H xs ls as->LeavD F' H' xs ls as
 |_,_,_,_,_,.nil=>.nil
 |_,_,_,hF,hH,.cons h t=>by
   obtain⟨h1,xs,h2,h3⟩:=h
   exact .cons ⟨hF _ Xd,xs,by rw[hH _ Xd];exact h2,h3.mono s⟩ (t.mono s (fun a ha=>hF a (Xe _ ha)) (fun a ha=>hH a (Xe _ ha)))
theorem LeavD.addrs {F F' H H':Hp}:∀{xs:List (List Key×V)} {ls ls':List (List Key×Ql)} {as bs:Qg},LeavD F H xs ls as->LeavD F' H' xs ls' bs->as=bs
 |_,_,_,_,_,.nil,.nil=>rfl
 |_,_,_,_,_,.cons _ t,.cons _ t'=>by rw[t.addrs t']
structure NetOk (P:Program)(w:World)(C:Addr)(N:Qz)(F H:Hp)(a dx e r l d:Addr)(xs:List (List Key×V))(ys:List (KK×Addr×V))(as:Qg):Prop where
 nd:(a::dx::e::r::l::d::as).Nodup
 ins:F a=none/\H a=some (.ins C dx [("ends",.ref e),("rooms",.ref r),("leaving",.ref l),("laid",.ref d)])
 own:F dx=none/\H dx=some (.own a)
 ends:VL F H e (N.ends.map QW)
 rooms:VL F H r (N.rooms.map PyData.int)
 leav:F l=none/\H l=some (.dT xs)/\LeavD F H xs N.leav as
 laid:F d=none/\H d=some (pdO P w d ys)/\LaidD F ys N.laid
def Zi (P:Program)(w:World)(C:Addr)(N:Qz):OwnP where
 ok K F H v p := ∃a dx e r l d xs ys as,v=.ref a/\p=a::dx::e::r::l::d::as/\NetOk P w C N F H a dx e r l d xs ys as
 there:=by
  rintro K F H v p ⟨a,dx,e,r,l,d,xs,ys,as,rfl,rfl,o⟩ b hb
  obtain⟨_,⟨i1,i2⟩,⟨o1,o2⟩,⟨e1,ex,e2,_⟩,⟨r1,rx,r2,_⟩,⟨l1,l2,l3⟩,⟨d1,d2,_⟩⟩:=o
  simp only[Xg]at hb;rcases hb with rfl|rfl|rfl|rfl|rfl|rfl|hb
  ·exact⟨i1,Yc i2⟩
  ·exact⟨o1,Yc o2⟩
  ·exact⟨e1,Yc e2⟩
  ·exact⟨r1,Yc r2⟩
  ·exact⟨l1,Yc l2⟩
  ·exact⟨d1,Yc d2⟩
  ·exact l3.mem b hb
 mono:=by
  rintro K F F' H H' v p s hF hH ⟨a,dx,e,r,l,d,xs,ys,as,rfl,rfl,o⟩
  obtain⟨nd,⟨i1,i2⟩,⟨o1,o2⟩,⟨e1,ex,e2,e3⟩,⟨r1,rx,r2,r3⟩,⟨l1,l2,l3⟩,⟨d1,d2,d3⟩⟩:=o
  refine⟨a,dx,e,r,l,d,xs,ys,as,rfl,rfl,nd,⟨hF _ (by simp),by rw[hH _ (by simp)];exact i2⟩,⟨hF _ (by simp),by rw[hH _ (by simp)];exact o2⟩,⟨hF _ (by simp),ex,by rw[hH _ (by simp)];exact e2,e3.mono s⟩,
   ⟨hF _ (by simp),rx,by rw[hH _ (by simp)];exact r2,r3.mono s⟩,⟨hF _ (by simp),by rw[hH _ (by simp)];exact l2,l3.mono s (fun b hb=>hF b (by simp[hb])) (fun b hb=>hH b (by simp[hb]))⟩,⟨hF _ (by simp),by rw[hH _ (by simp)];exact d2,d3.mono s⟩⟩
 uniq:=by
  rintro K F H v p q ⟨a,dx,e,r,l,d,xs,ys,as,rfl,rfl,o⟩ ⟨a',dx',e',r',l',d',xs',ys',as',ev,rfl,o'⟩ c hc
  cases ev
  have i:=o.ins.2.symm.trans o'.ins.2
  injection i with i
  injection i with _ i1 i2
  subst i1;simp only[List.cons.injEq,Prod.mk.injEq,true_and,and_true,V.ref.injEq]at i2;obtain⟨rfl,rfl,rfl,rfl⟩:=i2
  have j:=o.leav.2.1.symm.trans o'.leav.2.1
  injection j with j
  injection j with j
  subst j;rw[o.leav.2.2.addrs o'.leav.2.2];exact hc
structure NetC (K:W.Frag)(C:Addr):Prop where
 cl:Cls K C
 ends:Ww K C "ends"
 rooms:Ww K C "rooms"
 leav:Ww K C "leaving"
 laid:Ww K C "laid"
section
variable {K:W.Frag}{ρ:QG}{tb te ty tx:TE}{D:PEnds}{i:Nat}{v:V}{P:Program}{w:World}{C:Addr}{N:Qz}
theorem QT.net {H0 F H:Hp}{σ:St}(S:QT K H0 F ρ σ H)(e:ρ[i]?=some (some (.own v (Zi P w C N)))) :
 ∃a dx el r l d xs ys as,v=.ref a/\σ[i]?=some (some (.ref a))/\NetOk P w C N F H a dx el r l d xs ys as/\(∀b∈a::dx::el::r::l::d::as,H0 b=none/\F b=none/\H b≠none) /\
  ∀(H':Hp) (N':Qz) (xs':List (List Key×V)) (ys':List (KK×Addr×V)) (as':Qg),QC F H'->(∀b,b∉a::dx::el::r::l::d::as->H b≠none->H' b=H b)->(∀b,H b≠none->H' b≠none) ->
   NetOk P w C N' F H' a dx el r l d xs' ys' as'->(∀b∈as',b∈as\/(H b=none/\H0 b=none))->QT K H0 F (ρ.set i (some (.own v (Zi P w C N')))) σ H':=by
 obtain⟨e1,p,⟨a,dx,el,r,l,d,xs,ys,as,rfl,rfl,ok⟩,hp,w'⟩:=S.writeOwn e
 refine⟨a,dx,el,r,l,d,xs,ys,as,rfl,e1,ok,hp,fun H' N' xs' ys' as' h1 h2 h3 h4 h5=>w' H' _ _ h1 h2 h3 ⟨a,dx,el,r,l,d,xs',ys',as',rfl,rfl,h4⟩ fun b hb=>?_⟩
 simp only[Xg]at hb ⊢;rcases hb with h|h|h|h|h|h|hb
 ·exact .inl (.inl h)
 ·exact .inl (.inr (.inl h))
 ·exact .inl (.inr (.inr (.inl h)))
 ·exact .inl (.inr (.inr (.inr (.inl h))))
 ·exact .inl (.inr (.inr (.inr (.inr (.inl h)))))
 ·exact .inl (.inr (.inr (.inr (.inr (.inr (.inl h))))))
 ·rcases h5 b hb with z|z
  ·exact .inl (.inr (.inr (.inr (.inr (.inr (.inr z))))))
  ·exact .inr z
theorem LeavD.other {F H:Hp}{b:Addr}{o:HO}{xs:List (List Key×V)}{ls:List (List Key×Ql)}{as:Qg}(h:LeavD F H xs ls as)(n:b∉as):LeavD F (upd H b o) xs ls as :=
 h.mono (QC.refl _) (fun a ha=>(h.mem a ha).1) (fun a ha=>Qx fun z=>n (z▸ha))
theorem NetOk.setRooms {F H:Hp}{a dx el r l d:Addr}{xs:List (List Key×V)}{ys:List (KK×Addr×V)}{as:Qg}(ok:NetOk P w C N F H a dx el r l d xs ys as){ns:Ql}{zs:List V}(hr:Qw F zs (ns.map PyData.int)) :
 NetOk P w C { N with rooms:=ns } F (upd H r (.lst zs)) a dx el r l d xs ys as:=by
 obtain⟨nd,⟨i1,i2⟩,⟨o1,o2⟩,⟨e1,ex,e2,e3⟩,⟨r1,rx,r2,r3⟩,⟨l1,l2,l3⟩,⟨d1,d2,d3⟩⟩:=ok
 have nd':=nd
 simp only[X3,Xg,not_or]at nd';obtain⟨⟨a1,a2,a3,_⟩,⟨b1,b2,_⟩,⟨c1,_⟩,⟨g1,g2,g3⟩,_⟩:=nd'
 exact⟨nd,⟨i1,by rw[Qx a3];exact i2⟩,⟨o1,by rw[Qx b2];exact o2⟩,⟨e1,ex,by rw[Qx c1];exact e2,e3⟩,⟨r1,zs,QR,hr⟩,⟨l1,by rw[Qx (Ne.symm g1)];exact l2,l3.other g3⟩,⟨d1,by rw[Qx (Ne.symm g2)];exact d2,d3⟩⟩
theorem J4 {H:Hp}{a:Addr}{o:HO}:∀b,H b≠none->upd H a o b≠none:=fun b hb=>by
 by_cases z:b=a
 ·subst z;rw[QR];exact fun q=>nomatch q
 ·rw[Qx z];exact hb
theorem Tw {f:Int->Int->Int}(c:NetC K C)(e:ρ[i]?=some (some (.own v (Zi P w C N)))){k m n:Int}(hi:Qt K tb ρ (.int k))(h0:0<=k)(hm:N.rooms[k.toNat]?=some m)(h:Qt K te ρ (.int n))
 (hn:D.nx (ρ.set i (some (.own v (Zi P w C { N with rooms:=N.rooms.set k.toNat (f m n) }))))):Q3 K (Dx (Yt K (Zc i) "rooms") tb te (D3 K) (ipI f) B3) ρ D:=fun F0 H0 F σ H E x S C'=>by
 obtain⟨a,dx,el,r,l,d,xs,ys,as,rfl,e1,ok,_⟩:=S.net e
 refine⟨_,e1,a,C,dx,_,.ref r,rfl,ok.ins.2,c.cl,c.rooms,rfl,hi H0 F σ H _ S fun F1 H1 y x1 r1=>?_⟩
 cases r1
 obtain⟨_,rx,r2,r3⟩:=ok.rooms
 have hm':(N.rooms.map PyData.int)[k.toNat]?=some (.int m):=by rw[Xk,hm];rfl
 obtain⟨z,z1,z2⟩:=(r3.mono x1.ff).get hm'
 refine⟨r,rx,k,z,rfl,rfl,SqL.of (x1.hh _ _ r2),h0,z1,h H0 F1 σ H1 _ (S.ext x1) fun F2 H2 u x2 r2'=>?_⟩
 cases r2'
 cases z2
 refine⟨m,n,rfl,rfl,?_⟩
 obtain⟨a',dx',el',r',l',d',xs',ys',as',ea,g1,ok',hp,wr⟩:=(S.ext (x1.trans x2)).net e
 cases ea
 have hi2:=ok'.ins.2.symm.trans ((x1.trans x2).hh _ _ ok.ins.2)
 injection hi2 with hi2
 injection hi2 with _ _ hi3
 simp only[List.cons.injEq,Prod.mk.injEq,true_and,and_true,V.ref.injEq]at hi3;obtain⟨rfl,rfl,rfl,rfl⟩:=hi3
 obtain⟨q1,qx,q2,q3⟩:=ok'.rooms
 have hlt:k.toNat<N.rooms.length:=(Xh.mp hm).1
 have hr:Qw F2 (qx.set k.toNat (.int (f m n))) ((N.rooms.set k.toNat (f m n)).map PyData.int):=by
  rw[List.map_set];exact q3.set (.int _) _
 refine⟨r',qx,k,k.toNat,rfl,rfl,q2,?_,?_⟩
 ·rw[q3.length,Xm]
  unfold ixN;rw[Xc h0,Xc (by omega)]
 ·have hr0:=hp r' (by simp)
  exact C'.nx F2 σ _ _ ((x.trans (x1.trans x2)).wr hr0.1 hr0.2.1) (wr _ { N with rooms:=N.rooms.set k.toNat (f m n) } xs' ys' as' ((S.ext (x1.trans x2)).sub.upd hr0.2.1) (fun b hb _=>Qx fun z=>hb (by rw[z];simp)) J4 (ok'.setRooms hr) (fun b hb=>.inl hb)) hn
end
section
variable {K:W.Frag}{ρ:QG}{tb te ty tx:TE}{D:PEnds}{i:Nat}{v:V}{P:Program}{w:World}{C:Addr}{N:Qz}
theorem NetOk.same {N':Qz}{F H F' H':Hp}{a dx el r l d dx' el' r' l' d':Addr}{xs xs':List (List Key×V)}{ys ys':List (KK×Addr×V)}{as as':Qg}
 (ok:NetOk P w C N F H a dx el r l d xs ys as) (ok':NetOk P w C N' F' H' a dx' el' r' l' d' xs' ys' as') (s:H' a=H a):dx'=dx/\el'=el/\r'=r/\l'=l/\d'=d:=by
 have h:=ok'.ins.2
 rw[s,ok.ins.2]at h;injection h with h
 injection h with _ h1 h2
 simp only[List.cons.injEq,Prod.mk.injEq,true_and,and_true,V.ref.injEq]at h2;obtain⟨z1,z2,z3,z4⟩:=h2
 exact⟨h1.symm,z1.symm,z2.symm,z3.symm,z4.symm⟩
theorem NetOk.setEnds {F H:Hp}{a dx el r l d:Addr}{xs:List (List Key×V)}{ys:List (KK×Addr×V)}{as:Qg}(ok:NetOk P w C N F H a dx el r l d xs ys as){ns:List (List Key)}{zs:List V}(hr:Qw F zs (ns.map QW)) :
 NetOk P w C { N with ends:=ns } F (upd H el (.lst zs)) a dx el r l d xs ys as:=by
 obtain⟨nd,⟨i1,i2⟩,⟨o1,o2⟩,⟨e1,ex,e2,e3⟩,⟨r1,rx,r2,r3⟩,⟨l1,l2,l3⟩,⟨d1,d2,d3⟩⟩:=ok
 have nd':=nd
 simp only[X3,Xg,not_or]at nd';obtain⟨⟨a1,a2,a3,_⟩,⟨b1,b2,_⟩,⟨c1,c2,c3,c4⟩,_⟩:=nd'
 exact⟨nd,⟨i1,by rw[Qx a2];exact i2⟩,⟨o1,by rw[Qx b1];exact o2⟩,⟨e1,zs,QR,hr⟩,⟨r1,rx,by rw[Qx (Ne.symm c1)];exact r2,r3⟩,⟨l1,by rw[Qx (Ne.symm c2)];exact l2,l3.other c4⟩,⟨d1,by rw[Qx (Ne.symm c3)];exact d2,d3⟩⟩
theorem ZmL (c:NetC K C)(e:ρ[i]?=some (some (.own v (Zi P w C N)))){n:Int}(h:Qt K te ρ (.int n))(hl:N.rooms.length<1000)
 (hn:D.nx (ρ.set i (some (.own v (Zi P w C { N with rooms:=N.rooms++[n] }))))):Q3 K (Wa (tBM K "list" UK (Yt K (Zc i) "rooms") (QZ te Zm))) ρ D:=fun F0 H0 F σ H E x S C'=>by
 obtain⟨a,dx,el,r,l,d,xs,ys,as,rfl,e1,ok,_⟩:=S.net e
 refine⟨_,e1,a,C,dx,_,.ref r,rfl,ok.ins.2,c.cl,c.rooms,rfl,.inl ⟨rfl,_,SqL.of ok.rooms.2.choose_spec.1⟩,h H0 F σ H _ S fun F1 H1 u x1 r1=>?_⟩
 cases r1
 obtain⟨a',dx',el',r',l',d',xs',ys',as',ea,g1,ok',hp,wr⟩:=(S.ext x1).net e
 cases ea
 obtain⟨rfl,rfl,rfl,rfl,rfl⟩:=ok.same ok' ((x1.hh _ _ ok.ins.2).trans ok.ins.2.symm)
 obtain⟨q1,qx,q2,q3⟩:=ok'.rooms
 have hr0:=hp r' (by simp)
 refine⟨r',qx,.int n,rfl,rfl,q2,by rw[q3.length,Xm];exact Vv (by omega),?_⟩
 exact C'.nx F1 σ _ _ ((x.trans x1).wr hr0.1 hr0.2.1) (wr _ { N with rooms:=N.rooms++[n] } xs' ys' as' ((S.ext x1).sub.upd hr0.2.1) (fun b hb _=>Qx fun z=>hb (by rw[z];simp)) J4 (ok'.setRooms (by rw[Xy];exact q3.snoc (.int n))) (fun b hb=>.inl hb)) hn
theorem OF (c:NetC K C)(e:ρ[i]?=some (some (.own v (Zi P w C N)))){n:List Key}(h:Qt K te ρ (QW n))(hl:N.ends.length<1000)
 (hn:D.nx (ρ.set i (some (.own v (Zi P w C { N with ends:=N.ends++[n] }))))):Q3 K (Wa (tBM K "list" UK (Yt K (Zc i) "ends") (QZ te Zm))) ρ D:=fun F0 H0 F σ H E x S C'=>by
 obtain⟨a,dx,el,r,l,d,xs,ys,as,rfl,e1,ok,_⟩:=S.net e
 refine⟨_,e1,a,C,dx,_,.ref el,rfl,ok.ins.2,c.cl,c.ends,rfl,.inl ⟨rfl,_,SqL.of ok.ends.2.choose_spec.1⟩,h H0 F σ H _ S fun F1 H1 u x1 r1=>?_⟩
 obtain⟨a',dx',el',r',l',d',xs',ys',as',ea,g1,ok',hp,wr⟩:=(S.ext x1).net e
 cases ea
 obtain⟨rfl,rfl,rfl,rfl,rfl⟩:=ok.same ok' ((x1.hh _ _ ok.ins.2).trans ok.ins.2.symm)
 obtain⟨q1,qx,q2,q3⟩:=ok'.ends
 have hr0:=hp el' (by simp)
 refine⟨el',qx,u,rfl,rfl,q2,by rw[q3.length,Xm];exact Vv (by omega),?_⟩
 exact C'.nx F1 σ _ _ ((x.trans x1).wr hr0.1 hr0.2.1) (wr _ { N with ends:=N.ends++[n] } xs' ys' as' ((S.ext x1).sub.upd hr0.2.1) (fun b hb _=>Qx fun z=>hb (by rw[z];simp)) J4 (ok'.setEnds (by rw[Xy];exact q3.snoc r1)) (fun b hb=>.inl hb)) hn
theorem Tf (c:NetC K C) (e:ρ[i]?=some (some (.own v (Zi P w C N)))):Qt K (tCB (U8 K) (QZ (Yt K (Zc i) "ends") Zm)) ρ (.int (N.ends.length:Int)):=fun H0 F σ H Q S q=>by
 obtain⟨a,dx,el,r,l,d,xs,ys,as,rfl,e1,ok,_⟩:=S.net e
 obtain⟨_,ex,e2,e3⟩:=ok.ends
 refine⟨_,e1,a,C,dx,_,.ref el,rfl,ok.ins.2,c.cl,c.ends,rfl,el,ex,rfl,.inl (SqL.of e2),?_⟩
 have:ex.length=N.ends.length:=by rw[e3.length,Xm]
 rw[this];exact q F H _ (QA.refl S.sub) (.int _)
end
def ZK (ls:List (KK×Int))(k:KK):Option Int:=(ls.find? fun x=>decide (x.1=k)).map (·.2)
def Yu (ls:List (KK×Int))(k:KK)(n:Int):List (KK×Int):=if (ZK ls k).isSome=true then ls.map (fun x=>if x.1=k then (x.1,n) else x) else ls++[(k,n)]
theorem LaidD.val {F:Hp}(k:KK):∀{xs:List (KK×Addr×V)} {ls:List (KK×Int)},LaidD F xs ls->Yf xs k=(ZK ls k).map V.int
 |_,_,.nil=>rfl
 |_,_,.cons (k:=k') h t=>by
   by_cases e:k'=k
   ·simp[Yf,ZK,XA,e]
   ·have:=t.val k
    simpa [Yf,ZK,XA,e] using this
theorem LaidD.length {F:Hp}:∀{xs:List (KK×Addr×V)} {ls:List (KK×Int)},LaidD F xs ls->xs.length=ls.length
 |_,_,.nil=>rfl
 |_,_,.cons h t=>by simp[t.length]
theorem LaidD.repl {F:Hp}(k:KK)(n:Int):∀{xs:List (KK×Addr×V)} {ls:List (KK×Int)},LaidD F xs ls->LaidD F (xs.map fun x=>if x.1=k then (x.1,x.2.1,.int n) else x) (ls.map fun x=>if x.1=k then (x.1,n) else x)
 |_,_,.nil=>.nil
 |_,_,.cons (k:=k') h t=>by
   rw[Xt,Xt];by_cases e:k'=k
   ·simp only[e,if_true]
    exact .cons (e▸h) (t.repl k n)
   ·simp only[e,if_false]
    exact .cons h (t.repl k n)
theorem LaidD.snoc {F:Hp}{k:KK}{b:Addr}(n:Int)(hb:ZZ F k b):∀{xs:List (KK×Addr×V)} {ls:List (KK×Int)},LaidD F xs ls->LaidD F (xs++[(k,b,.int n)]) (ls++[(k,n)])
 |_,_,.nil=>.cons hb .nil
 |_,_,.cons h t=>.cons h (t.snoc n hb)
theorem LaidD.put {F:Hp}{k:KK}{b:Addr}(n:Int)(hb:ZZ F k b){xs:List (KK×Addr×V)}{ls:List (KK×Int)}(t:LaidD F xs ls):LaidD F (Jl xs k b (.int n)) (Yu ls k n):=by
 unfold Jl Yu;rw[t.val k,J8];split
 ·exact t.repl k n
 ·exact t.snoc n hb
theorem HU {F:Hp}{y:V}{k1 k2:List Key}(r:Rep F y (.tuple [QW k1,QW k2])):∃b,y=.ref b/\ZZ F (k1,k2) b:=by
 cases r with
 |tup h rs =>
   cases rs with
   |cons r1 rs =>
     cases rs with
     |cons r2 rs =>
       cases rs
       obtain⟨p,rfl,hp⟩:=W2 r1
       obtain⟨q,rfl,hq⟩:=W2 r2
       exact⟨_,rfl,p,q,h,hp,hq⟩
section
variable {K:W.Frag}{ρ:QG}{tb te ty tx tv:TE}{D:PEnds}{i:Nat}{v:V}{P:Program}{w:World}{C:Addr}{N:Qz}{k1 k2:List Key}
theorem NetOk.setLaid {F H:Hp}{a dx el r l d:Addr}{xs:List (List Key×V)}{ys ys':List (KK×Addr×V)}{as:Qg}(ok:NetOk P w C N F H a dx el r l d xs ys as){ls:List (KK×Int)}(hr:LaidD F ys' ls) :
 NetOk P w C { N with laid:=ls } F (upd H d (pdO P w d ys')) a dx el r l d xs ys' as:=by
 obtain⟨nd,⟨i1,i2⟩,⟨o1,o2⟩,⟨e1,ex,e2,e3⟩,⟨r1,rx,r2,r3⟩,⟨l1,l2,l3⟩,⟨d1,d2,d3⟩⟩:=ok
 have nd':=nd
 simp only[X3,Xg,not_or]at nd';obtain⟨⟨a1,a2,a3,a4,a5,_⟩,⟨b1,b2,b3,b4,_⟩,⟨c1,c2,c3,c4⟩,⟨g1,g2,g3⟩,⟨h1,h2⟩,f1,_⟩:=nd'
 exact⟨nd,⟨i1,by rw[Qx a5];exact i2⟩,⟨o1,by rw[Qx b4];exact o2⟩,⟨e1,ex,by rw[Qx c3];exact e2,e3⟩,⟨r1,rx,by rw[Qx g2];exact r2,r3⟩,⟨l1,by rw[Qx h1];exact l2,l3.other f1⟩,⟨d1,QR,hr⟩⟩
theorem EE (c:NetC K C)(e:ρ[i]?=some (some (.own v (Zi P w C N)))){n:Int}(hv:Qt K tv ρ (.int n))(hy:Qt K ty ρ (.tuple [QW k1,QW k2]))(hl:N.laid.length<1000)
 (hn:D.nx (ρ.set i (some (.own v (Zi P w C { N with laid:=Yu N.laid (k1,k2) n }))))):Q3 K (Rn P w (Yt K (Zc i) "laid") ty tv) ρ D:=fun F0 H0 F σ H E x S C' =>
 hv H0 F σ H _ S fun F1 H1 u x1 r1=>by
  cases r1
  obtain⟨a,dx,el,r,l,d,xs,ys,as,rfl,e1,ok,_⟩:=(S.ext x1).net e
  refine⟨_,e1,a,C,dx,_,.ref d,rfl,ok.ins.2,c.cl,c.laid,rfl,hy H0 F1 σ H1 _ (S.ext x1) fun F2 H2 y x2 r2=>?_⟩
  have S2:=S.ext (x1.trans x2)
  obtain⟨a',dx',el',r',l',d',xs',ys',as',ea,g1,ok',hp,wr⟩:=S2.net e
  cases ea
  obtain⟨rfl,rfl,rfl,rfl,rfl⟩:=ok.same ok' ((x2.hh _ _ ok.ins.2).trans ok.ins.2.symm)
  obtain⟨b,rfl,hb⟩:=HU r2
  obtain⟨d1,d2,d3⟩:=ok'.laid
  refine⟨d',b,ys',(k1,k2),rfl,rfl,d2,d3.at S2.sub,hb.mono fun c' z ez=>S2.sub _ _ ez,by rw[d3.length];exact Vv (by omega),?_⟩
  have hr0:=hp d' (by simp)
  exact C'.nx F2 σ _ _ ((x.trans (x1.trans x2)).wr hr0.1 hr0.2.1) (wr _ { N with laid:=Yu N.laid (k1,k2) n } xs' _ as' (S2.sub.upd hr0.2.1) (fun b' hb' _=>Qx fun z=>hb' (by rw[z];simp)) J4 (ok'.setLaid (d3.put n hb)) (fun b' hb'=>.inl hb')) hn
end
def QQ (ls:List (List Key×Ql))(k:List Key):Option (Ql):=(ls.find? fun x=>decide (x.1=k)).map (·.2)
def VJ:List (List Key×Ql)->List Key->Int->List (List Key×Ql)
 |[],_,_=>[]
 |(k',ns)::r,k,n=>if k'=k then (k',ns++[n])::r else (k',ns)::VJ r k n
theorem LeavD.val {F H:Hp}(k:List Key):∀{xs:List (List Key×V)} {ls:List (List Key×Ql)} {as:Qg},LeavD F H xs ls as->(Z0 xs k=none/\QQ ls k=none) \/
 ∃a ns,Z0 xs k=some (.ref a)/\QQ ls k=some ns/\a∈as/\VL F H a (ns.map PyData.int)
 |_,_,_,.nil=>.inl ⟨rfl,rfl⟩
 |_,_,_,.cons (k:=k') (a:=a) (ns:=ns) (xs:=xs) (ls:=ls) h t=>by
   by_cases e:k'=k
   ·exact .inr ⟨a,ns,Wh e,by simp[QQ,XA,e],Xd,h⟩
   ·have q:QQ ((k',ns)::ls) k=QQ ls k:=by simp[QQ,XA,e]
    rw[Wi (p:=(k',V.ref a)) e,q]
    rcases t.val k with z|⟨a',ns',z1,z2,z3,z4⟩
    ·exact .inl z
    ·exact .inr ⟨a',ns',z1,z2,Xe _ z3,z4⟩
theorem LeavD.app {F H:Hp}(k:List Key){a:Addr}{n:Int}{zs:List V}:∀{xs:List (List Key×V)} {ls:List (List Key×Ql)} {as:Qg} {ns:Ql},LeavD F H xs ls as->as.Nodup->Z0 xs k=some (.ref a)->QQ ls k=some ns ->
 Qw F zs ((ns++[n]).map PyData.int)->LeavD F (upd H a (.lst zs)) xs (VJ ls k n) as
 |_,_,_,_,.nil,_,h,_,_=>by cases h
 |_,_,_,ns,.cons (k:=k') (a:=a') (ns:=ns') (xs:=xs) (ls:=ls) (as:=as) h t,nd,hv,he,hr=>by
   obtain⟨n1,n2⟩:=X3.mp nd
   unfold VJ;by_cases e:k'=k
   ·rw[Wh (p:=(k',V.ref a')) e]at hv
    have q:QQ ((k',ns')::ls) k=some ns':=by simp[QQ,XA,e]
    rw[q]at he;cases hv
    cases he
    rw[Xc e];exact .cons ⟨h.1,zs,QR,hr⟩ (t.other n1)
   ·rw[Wi (p:=(k',V.ref a')) e]at hv
    have q:QQ ((k',ns')::ls) k=QQ ls k:=by simp[QQ,XA,e]
    rw[q]at he;rw[Xb e];have ha:a∈as:=by
     rcases t.val k with z|⟨a2,ns2,z1,z2,z3,z4⟩
     ·rw[hv]at z;cases z.1
     ·rw[hv]at z1;cases z1;exact z3
    refine .cons ?_ (t.app k n2 hv he hr)
    obtain⟨h1,xs',h2,h3⟩:=h
    have ne:a'≠a:=fun z=>n1 (by rw[z];exact ha)
    exact⟨h1,xs',by rw[Qx ne];exact h2,h3⟩
theorem LeavD.snoc {F H:Hp}(k:List Key){a:Addr}(o:VL F H a []):∀{xs:List (List Key×V)} {ls:List (List Key×Ql)} {as:Qg},LeavD F H xs ls as->LeavD F H (xs++[(k,.ref a)]) (ls++[(k,[])]) (as++[a])
 |_,_,_,.nil=>.cons o .nil
 |_,_,_,.cons h t=>.cons h (t.snoc k o)
theorem LeavD.length {F H:Hp}:∀{xs:List (List Key×V)} {ls:List (List Key×Ql)} {as:Qg},LeavD F H xs ls as->xs.length=ls.length
 |_,_,_,.nil=>rfl
 |_,_,_,.cons h t=>by simp[t.length]
def VH (ls:List (List Key×Ql))(k:List Key):List (List Key×Ql):=if (QQ ls k).isSome=true then ls else ls++[(k,[])]
section
variable {K:W.Frag}{ρ:QG}{tb te ty tx tv:TE}{D:PEnds}{i:Nat}{v:V}{P:Program}{w:World}{C:Addr}{N:Qz}{k:List Key}
theorem NetOk.appLeav {F H:Hp}{a dx el r l d:Addr}{xs:List (List Key×V)}{ys:List (KK×Addr×V)}{as:Qg}(ok:NetOk P w C N F H a dx el r l d xs ys as){b:Addr}{ns:Ql}{n:Int}{zs:List V}
 (hv:Z0 xs k=some (.ref b)) (he:QQ N.leav k=some ns) (hb:b∈as) (hr:Qw F zs ((ns++[n]).map PyData.int)):NetOk P w C { N with leav:=VJ N.leav k n } F (upd H b (.lst zs)) a dx el r l d xs ys as:=by
 obtain⟨nd,⟨i1,i2⟩,⟨o1,o2⟩,⟨e1,ex,e2,e3⟩,⟨r1,rx,r2,r3⟩,⟨l1,l2,l3⟩,⟨d1,d2,d3⟩⟩:=ok
 have nd':=nd
 simp only[X3,Xg,not_or]at nd';obtain⟨⟨a1,a2,a3,a4,a5,a6⟩,⟨b1,b2,b3,b4,b5⟩,⟨c1,c2,c3,c4⟩,⟨g1,g2,g3⟩,⟨h1,h2⟩,f1,f2⟩:=nd'
 have ne:∀{x:Addr},x∉as->x≠b:=fun h z=>h (by rw[z];exact hb)
 exact⟨nd,⟨i1,by rw[Qx (ne a6)];exact i2⟩,⟨o1,by rw[Qx (ne b5)];exact o2⟩,⟨e1,ex,by rw[Qx (ne c4)];exact e2,e3⟩,⟨r1,rx,by rw[Qx (ne g3)];exact r2,r3⟩,⟨l1,by rw[Qx (ne h2)];exact l2,l3.app k f2 hv he hr⟩,⟨d1,by rw[Qx (ne f1)];exact d2,d3⟩⟩
end
section
variable {K:W.Frag}{ρ:QG}{tb te ty tx tv:TE}{D:PEnds}{i:Nat}{v:V}{P:Program}{w:World}{C:Addr}{N:Qz}{k:List Key}
theorem Ss (c:NetC K C)(e:ρ[i]?=some (some (.own v (Zi P w C N)))){n:Int}(h:Qt K te ρ (.int n)){ns:Ql}(he:QQ N.leav k=some ns)(hz:ns.length<1000)
 (hn:D.nx (ρ.set i (some (.own v (Zi P w C { N with leav:=VJ N.leav k n }))))) {F0 H0 F H:Hp} {σ:St} {E:Ends} (x:QA F0 H0 F H) (S:QT K H0 F ρ σ H) (C':Cnv K F0 H0 D E)
 {a dx el r l d:Addr} {xs:List (List Key×V)} {ys:List (KK×Addr×V)} {as:Qg} {al:Addr} (ok:NetOk P w C N F H a dx el r l d xs ys as) (ev:v=.ref a) (hv:Z0 xs k=some (.ref al)) :
 tyV K "list" (.ref al) H/\QZ te Zm σ H fun vs H2=>UK (.ref al) vs H2 fun _ H3=>E.nx σ H3:=by
 have find:∀{F H:Hp} {a dx el r l d:Addr} {xs:List (List Key×V)} {ys:List (KK×Addr×V)} {as:Qg},NetOk P w C N F H a dx el r l d xs ys as->Z0 xs k=some (.ref al)->al∈as/\VL F H al (ns.map PyData.int):=fun ok hv=>by
  rcases ok.leav.2.2.val k with z|⟨a2,ns2,z1,z2,z3,z4⟩
  ·rw[hv]at z;cases z.1
  ·rw[hv]at z1
   rw[he]at z2;cases z1
   cases z2
   exact⟨z3,z4⟩
 obtain⟨_,_,zs,hz1,_⟩:=find ok hv
 refine⟨.inl ⟨rfl,_,SqL.of hz1⟩,h H0 F σ H _ S fun F1 H1 u x1 r1=>?_⟩
 cases r1
 obtain⟨a',dx',el',r',l',d',xs',ys',as',ea,g1,ok',hp,wr⟩:=(S.ext x1).net e
 rw[ev]at ea;cases ea
 obtain⟨rfl,rfl,rfl,rfl,rfl⟩:=ok.same ok' ((x1.hh _ _ ok.ins.2).trans ok.ins.2.symm)
 have el2:=ok'.leav.2.1.symm.trans (x1.hh _ _ ok.leav.2.1)
 injection el2 with el2
 injection el2 with el2
 subst el2;obtain⟨m1,m2,zs2,m3,m4⟩:=find ok' hv
 have hr0:=hp al (by simp[m1])
 refine⟨al,zs2,.int n,rfl,rfl,m3,by rw[m4.length,Xm];exact Vv (by omega),?_⟩
 exact C'.nx F1 σ _ _ ((x.trans x1).wr hr0.1 hr0.2.1) (wr _ { N with leav:=VJ N.leav k n } _ ys' as' ((S.ext x1).sub.upd hr0.2.1) (fun b hb _=>Qx fun z=>hb (by rw[z];simp[m1])) J4
  (ok'.appLeav hv he m1 (by rw[Xy];exact m4.snoc (.int n))) (fun b hb=>.inl hb)) hn
theorem Tt (ls:List (List Key×Ql))(h:QQ ls k=none):QQ (ls++[(k,[])]) k=some []:=by
 induction ls with
 |nil=>simp[QQ]
 |cons x ls ih =>
   obtain⟨k',ns⟩:=x
   by_cases e:k'=k
   ·simp[QQ,XA,e]at h
   ·have q:QQ ((k',ns)::ls) k=QQ ls k:=by simp[QQ,XA,e]
    rw[q]at h;have q2:QQ ((k',ns)::ls++[(k,[])]) k=QQ (ls++[(k,[])]) k:=by simp[QQ,XA,e]
    rw[q2];exact ih h
theorem Zm3 (c:NetC K C)(e:ρ[i]?=some (some (.own v (Zi P w C N)))){n:Int}(hy:Qt K ty ρ (QW k))(hl:N.leav.length<1000)(hz:∀ns,QQ (VH N.leav k) k=some ns->ns.length<1000)
 (h:Qt K te (ρ.set i (some (.own v (Zi P w C { N with leav:=VH N.leav k })))) (.int n)) (hn:D.nx (ρ.set i (some (.own v (Zi P w C { N with leav:=VJ (VH N.leav k) k n }))))) :
 Q3 K (Wa (tBM K "list" UK (Sc (Yt K (Zc i) "leaving") ty (Gp Zm)) (QZ te Zm))) ρ D:=fun F0 H0 F σ H E x S C'=>by
 obtain⟨a,dx,el,r,l,d,xs,ys,as,rfl,e1,ok,hp0,_⟩:=S.net e
 refine⟨_,e1,a,C,dx,_,.ref l,rfl,ok.ins.2,c.cl,c.leav,rfl,l,rfl,.inr ⟨xs,Rd.of ok.leav.2.1⟩,hy H0 F σ H _ S fun F1 H1 y x1 r1=>⟨Vl _,fun p hp=>?_⟩⟩
 have S1:=S.ext x1
 have x2:QA F1 H1 F1 (upd H1 p (.lst [])):=QA.own S1.sub hp
 obtain⟨a',dx',el',r',l',d',xs',ys',as',ea,g1,ok',hp',wr⟩:=S1.net e
 cases ea
 obtain⟨rfl,rfl,rfl,rfl,rfl⟩:=ok.same ok' ((x1.hh _ _ ok.ins.2).trans ok.ins.2.symm)
 have hlt:i<ρ.length:=(Xh.mp e).1
 obtain⟨b,rfl,hb⟩:=W2 r1
 obtain⟨l1,l2,l3⟩:=ok'.leav
 have np:∀q∈a::dx'::el'::r'::l'::d'::as',q≠p:=fun q hq z=>by rw[z]at hq;exact(hp' p hq).2.2 hp
 have lp:l'≠p:=np l' (by simp)
 have bp:b≠p:=fun z=>by rw[z]at hb;rw[S1.sub _ _ hb]at hp;cases hp
 have h0p:H0 p=none:=(x.trans x1).hh.free hp
 refine⟨xs',k,b,rfl,by rw[Qx lp];exact l2,by rw[Qx bp];exact S1.sub _ _ hb,by rw[l3.length];exact Vv (by omega),fun v0 hv0=>?_,fun hv0=>?_⟩
 ·rcases l3.val k with z|⟨al,ns,z1,z2,z3,z4⟩
  ·rw[hv0]at z;cases z.1
  ·rw[hv0]at z1
   cases z1
   have ens:VH N.leav k=N.leav:=by unfold VH;rw[z2];rfl
   rw[ens]at h hn hz;have S3:=S1.ext x2
   have ok3:NetOk P w C N F1 (upd H1 p (.lst [])) a dx' el' r' l' d' xs' ys' as':=by
    obtain⟨q0,q1,q2,q3,q4,q5,q6⟩:=ok'
    obtain⟨e1',ex,e2,e3⟩:=q3
    obtain⟨r1',rx,r2,r3⟩:=q4
    exact⟨q0,⟨q1.1,by rw[Qx (np a (by simp))];exact q1.2⟩,⟨q2.1,by rw[Qx (np dx' (by simp))];exact q2.2⟩,⟨e1',ex,by rw[Qx (np el' (by simp))];exact e2,e3⟩,⟨r1',rx,by rw[Qx (np r' (by simp))];exact r2,r3⟩,
     ⟨q5.1,by rw[Qx lp];exact q5.2.1,q5.2.2.other fun z=>np p (by simp[z]) rfl⟩,⟨q6.1,by rw[Qx (np d' (by simp))];exact q6.2.1,q6.2.2⟩⟩
   have S4:QT K H0 F1 (ρ.set i (some (.own (.ref a) (Zi P w C N)))) σ (upd H1 p (.lst [])):=wr _ N xs' ys' as' S3.sub (fun b' _ hb'=>Qx fun z=>hb' (by rw[z];exact hp)) J4 ok3 (fun b' hb'=>.inl hb')
   exact Ss (N:=N) c (XU hlt) h z2 (hz ns z2) (by rw[List.set_set];exact hn) (x.trans (x1.trans x2)) S4 C' ok3 rfl hv0
 ·have z2:QQ N.leav k=none:=by
   rcases l3.val k with z|⟨al,ns,z1,z2,z3,z4⟩
   ·exact z.2
   ·rw[hv0]at z1;cases z1
  have ens:VH N.leav k=N.leav++[(k,[])]:=by unfold VH;rw[z2];rfl
  rw[ens]at h hn hz;have fp:F1 p=none:=S1.sub.free hp
  have ok3:NetOk P w C { N with leav:=N.leav++[(k,[])] } F1 (upd (upd H1 p (.lst [])) l' (.dT (xs'++[(k,.ref p)]))) a dx' el' r' l' d' (xs'++[(k,.ref p)]) ys' (as'++[p]):=by
   have ok2:=ok'
   obtain⟨q0,q1,q2,q3,q4,q5,q6⟩:=ok'
   obtain⟨e1',ex,e2,e3⟩:=q3
   obtain⟨r1',rx,r2,r3⟩:=q4
   have nd':=q0
   simp only[X3,Xg,not_or]at nd';obtain⟨⟨a1,a2,a3,a4,a5,a6⟩,⟨b1,b2,b3,b4,b5⟩,⟨c1,c2,c3,c4⟩,⟨g1',g2,g3⟩,⟨h1,h2⟩,f1,f2⟩:=nd'
   have up:∀{q:Addr},q∈a::dx'::el'::r'::l'::d'::as'->q≠l'->upd (upd H1 p (.lst [])) l' (.dT (xs'++[(k,.ref p)])) q=H1 q:=fun hq ne=>by rw[Qx ne,Qx (np _ hq)]
   refine⟨?_,⟨q1.1,by rw[up (by simp) a4];exact q1.2⟩,⟨q2.1,by rw[up (by simp) b3];exact q2.2⟩,⟨e1',ex,by rw[up (by simp) c2];exact e2,e3⟩,⟨r1',rx,by rw[up (by simp) g1'];exact r2,r3⟩,⟨l1,QR,?_⟩,⟨q6.1,by rw[up (by simp) (Ne.symm h1)];exact q6.2.1,q6.2.2⟩⟩
   ·have:(a::dx'::el'::r'::l'::d'::(as'++[p]))=(a::dx'::el'::r'::l'::d'::as')++[p]:=by simp
    rw[this,Bt];refine⟨q0,by simp,fun u hu t ht=>?_⟩
    cases Xn.mp ht
    exact np u hu
   ·refine LeavD.snoc k ⟨fp,[],by rw[Qx (Ne.symm lp),QR],.nil⟩ ?_
    exact(l3.other fun z=>np p (by simp[z]) rfl).other h2
  have S4:QT K H0 F1 (ρ.set i (some (.own (.ref a) (Zi P w C { N with leav:=N.leav++[(k,[])] })))) σ (upd (upd H1 p (.lst [])) l' (.dT (xs'++[(k,.ref p)]))) :=
   wr _ _ _ ys' (as'++[p]) ((S1.sub.upd fp).upd l1) (fun b' hb1 hb2=>by rw[Qx (fun z=>hb1 (by rw[z];simp)),Qx (fun z=>hb2 (by rw[z];exact hp))]) (fun b' hb'=>J4 b' (J4 b' hb')) ok3 (fun b' hb'=>by
    rcases XG.mp hb' with z|z
    ·exact .inl z
    ·cases Xn.mp z;exact .inr ⟨hp,h0p⟩)
  have hl0:=hp' l' (by simp)
  exact Ss (N:={ N with leav:=N.leav++[(k,[])] }) c (XU hlt) h (Tt _ z2) (hz [] (Tt _ z2)) (by rw[List.set_set];exact hn) ((x.trans (x1.trans x2)).wr hl0.1 hl0.2.1) S4 C' ok3 rfl (by
   rw[Ty k k (.ref p) xs' hv0,Xc rfl])
end
end L2
namespace Mir
structure Giv (m:Nat)(w:Qn)(g:(Qm)->Int):Prop where
 w1:∀k,k<m->1<=w k
 g0:∀S,(∀k,k<m->S k=false)->g S=0
 nn:∀S,0<=g S
 ext:∀S U,(∀k,k<m->S k=U k)->g S=g U
 sub:∀S U,g (fun k=>S k||U k)+g (fun k=>S k&&U k)<=g S+g U
def wS (m:Nat)(w:Qn)(S:Qm):Int:=Qv (Zh S w) m
section
variable {m:Nat}{w:Qn}{g:(Qm)->Int}
theorem BI {S U:Qm}(h:∀k,k<m->S k=U k):wS m w S=wS m w U:=Zb fun k hk=>by unfold Zh;rw[h k hk]
theorem WP {S U R:Qm}(h:∀k,k<m->(R k=true↔S k=true\/U k=true)/\¬(S k=true/\U k=true)):wS m w R=wS m w S+wS m w U:=by
 unfold wS;rw[<- W4];refine Zb fun k hk=>?_
 obtain⟨h1,h2⟩:=h k hk
 unfold Zh;cases e1:S k<;>cases e2:U k<;>cases e3:R k<;>simp[e1,e2,e3]at h1 h2 ⊢
theorem Giv.w0 (G:Giv m w g)(S:Qm):0<=wS m w S:=GG fun k hk=>Pv (by have:=G.w1 k hk;omega)
theorem Giv.wp (G:Giv m w g){S:Qm}{j:Nat}(hj:j<m)(h:S j=true):1<=wS m w S:=by
 have e:wS m w S=wS m w (fun k=>decide (k=j))+wS m w (fun k=>S k && !decide (k=j)):=WP fun k hk=>by
  by_cases c:k=j
  ·subst c;simp[h]
  ·simp[c]
 have h1:=G.w0 (fun k=>S k && !decide (k=j))
 have h2:wS m w (fun k=>decide (k=j))=w j:=by
  unfold wS;have:Qv (Zh (fun k=>decide (k=j)) w) m=Qv (fun l=>if l=j then w j else 0) m:=Zb fun k _=>by
   unfold Zh;by_cases c:k=j
   ·subst c;simp
   ·simp[c]
  rw[this,Uc,Xc hj]
 have:=G.w1 j hj
 omega
theorem CF {S:Qm}(h:∀k,k<m->S k=false):wS m w S=0:=by
 unfold wS;rw[Zb (g:=fun _=>0) fun k hk=>by unfold Zh;rw[h k hk];rfl]
 exact VF m
variable (m w g) in
def Low (A:Qm)(p q:Int):Prop := ∀S:Nat->Bool,(∀k,k<m->S k=true->A k=true)->q*(g A-g S)<=p*wS m w (fun k=>A k && !S k)
variable (m w g) in
def Up (A:Qm)(p q:Int):Prop := ∀S:Nat->Bool,(∀k,k<m->S k=true->A k=false)->p*wS m w S<=q*(g (fun k=>A k||S k)-g A)
theorem Fk {p q t b X Y:Int}(h:q*X<=p*Y)(hq:0<q)(hb:0<b)(hy:0<=Y)(hs:p*b<=t*q):b*X<=t*Y:=by
 have h1:b*(q*X)<=b*(p*Y):=XO h (by omega)
 have h2:p*b*Y<=t*q*Y:=Gb hs hy
 have e1:b*(p*Y)=p*b*Y:=by rw[<- XB,XD b p]
 have e2:t*q*Y=q*(t*Y):=by rw[XD t q,XB]
 have e3:b*(q*X)=q*(b*X):=by rw[<- XB,XD b q,XB]
 have h3:q*(b*X)<=q*(t*Y):=by omega
 exact Bq h3 hq
theorem Low.more (G:Giv m w g){A:Qm}{p q t b:Int}(h:Low m w g A p q)(hq:0<q)(hb:0<b)(hs:p*b<=t*q):Low m w g A t b:=fun S hS=>Fk (h S hS) hq hb (G.w0 _) hs
theorem Up.nn {A:Qm}(G:Giv m w g)(hA:∀k,k<m->A k=false):Up m w g A 0 1:=fun S _=>by
 have e:g A=0:=G.g0 A hA
 have:=G.nn (fun k=>A k||S k)
 omega
theorem Low.nil {A:Qm}(G:Giv m w g)(hA:∀k,k<m->A k=false):Low m w g A 0 1:=fun S hS=>by
 have e:g A=0:=G.g0 A hA
 have e2:g S=0:=G.g0 S fun k hk=>by
  cases c:S k with
  |false=>rfl
  |true=>exact Xl ((hA k hk).symm.trans (hS k hk c)) (by decide)
 rw[e,e2];omega
theorem Low.step (G:Giv m w g){A T:Qm}{p q t b:Int}(h:Low m w g A p q)(hu:Up m w g A t b)(hT:∀k,k<m->T k=true->A k=false)(ht:t*wS m w T=b*(g (fun k=>A k||T k)-g A))(hq:0<q)(hb:0<b)(hs:p*b<=t*q):Low m w g (fun k=>A k||T k) t b:=fun S hS=>by
 have h1:=hu (fun k=>S k && !A k) (fun k _ e=>by cases c:A k with|false=>rfl|true=>simp[c]at e)
 have e1:g (fun k=>A k||(S k && !A k))=g (fun k=>A k||S k):=G.ext _ _ fun k _=>by cases A k<;>cases S k<;>rfl
 rw[e1]at h1;have h2:=G.sub A S
 have h3:=(h.more G hq hb hs) (fun k=>A k&&S k) (fun k _ e=>by cases c:A k with|true=>rfl|false=>simp[c]at e)
 have e2:wS m w (fun k=>A k && !(A k&&S k))=wS m w (fun k=>A k && !S k):=BI fun k _=>by cases A k<;>cases S k<;>rfl
 rw[e2]at h3;have e3:wS m w (fun k=>(A k||T k) && !S k)=wS m w (fun k=>A k && !S k)+wS m w (fun k=>T k && !S k):=WP fun k hk=>by
  have:=hT k hk
  cases c1:A k<;>cases c2:T k<;>cases c3:S k<;>simp[c1,c2]at this ⊢
 have e4:wS m w T=wS m w (fun k=>S k && !A k)+wS m w (fun k=>T k && !S k):=WP fun k hk=>by
  have:=hT k hk
  have:=hS k hk
  cases c1:A k<;>cases c2:T k<;>cases c3:S k<;>simp_all
 rw[e3];rw[e4]at ht;have h2':b*(g (fun k=>A k||S k)+g (fun k=>A k&&S k))<=b*(g A+g S):=XO h2 (by omega)
 simp only[Ye,WC]at *;omega
theorem Up.step (G:Giv m w g){A T:Qm}{t b:Int}(hu:Up m w g A t b)(hT:∀k,k<m->T k=true->A k=false)(ht:t*wS m w T=b*(g (fun k=>A k||T k)-g A)):Up m w g (fun k=>A k||T k) t b:=fun S hS=>by
 have h1:=hu (fun k=>T k||S k) (fun k hk e=>by
  have h1:=hT k hk
  have h2:=hS k hk
  cases c1:A k<;>cases c2:T k<;>cases c3:S k<;>simp_all)
 have e1:wS m w (fun k=>T k||S k)=wS m w T+wS m w S:=WP fun k hk=>by
  have h2:=hS k hk
  cases c1:A k<;>cases c2:T k<;>cases c3:S k<;>simp_all
 have e2:g (fun k=>A k||(T k||S k))=g (fun k=>(A k||T k)||S k):=G.ext _ _ fun k _=>by cases A k<;>cases T k<;>cases S k<;>rfl
 rw[e1,e2]at h1;show t*wS m w S<=b*(g (fun k=>(A k||T k)||S k)-g (fun k=>A k||T k))
 simp only[Ye,WC]at *;omega
theorem EJ (G:Giv m w g){A S:Qm}{p q:Int}(hl:Low m w g A p q)(hq:0<q)(hm:∀U:Nat->Bool,p*wS m w U-q*g U<=p*wS m w S-q*g S)(U:Qm)(hU:∀k,k<m->U k=true->A k=false) :
 p*wS m w U-q*(g (fun k=>A k||U k)-g A)<=p*wS m w (fun k=>S k && !A k)-q*(g (fun k=>A k||(S k && !A k))-g A):=by
 have h1:=hm (fun k=>A k||U k)
 have e1:wS m w (fun k=>A k||U k)=wS m w A+wS m w U:=WP fun k hk=>by
  have:=hU k hk
  cases c1:A k<;>cases c2:U k<;>simp_all
 have h2:=G.sub A S
 have h3:=hl (fun k=>A k&&S k) (fun k _ e=>by cases c:A k with|true=>rfl|false=>simp[c]at e)
 have e2:wS m w (fun k=>A k && !(A k&&S k))=wS m w (fun k=>A k && !S k):=BI fun k _=>by cases A k<;>cases S k<;>rfl
 rw[e2]at h3;have e3:g (fun k=>A k||(S k && !A k))=g (fun k=>A k||S k):=G.ext _ _ fun k _=>by cases A k<;>cases S k<;>rfl
 rw[e3];have e4:wS m w S=wS m w (fun k=>A k&&S k)+wS m w (fun k=>S k && !A k):=WP fun k _=>by cases c1:A k<;>cases c2:S k<;>simp
 have e5:wS m w A=wS m w (fun k=>A k&&S k)+wS m w (fun k=>A k && !S k):=WP fun k _=>by cases c1:A k<;>cases c2:S k<;>simp
 have h2':q*(g (fun k=>A k||S k)+g (fun k=>A k&&S k))<=q*(g A+g S):=XO h2 (by omega)
 rw[e1,e4,e5]at h1;simp only[Ye,WC]at *;omega
theorem ZmI {A T:Qm}{p q:Int}(hm:∀U:Nat->Bool,(∀k,k<m->U k=true->A k=false)->p*wS m w U-q*(g (fun k=>A k||U k)-g A)<=p*wS m w T-q*(g (fun k=>A k||T k)-g A))(h0:p*wS m w T<=q*(g (fun k=>A k||T k)-g A)):Up m w g A p q:=fun U hU=>by
 have:=hm U hU
 omega
theorem O9 {p q p' q' W W' x x':Int}(hq:0<q)(hq':0<q')(hl:p'*q<p*q')(ht:p'*W=q'*x)(h1:p*W'-q*x'<=p*W-q*x)(h2:q'*x'<p'*W'):W'<W:=by
 refine Int.lt_of_not_ge fun c=>?_
 have a1:q'*(p*W'-q*x')<=q'*(p*W-q*x):=XO h1 (by omega)
 have a2:q*(q'*x')<q*(p'*W'):=Int.mul_lt_mul_of_pos_left h2 hq
 have a3:q*(p'*W)=q*(q'*x):=by rw[ht]
 have a4:0<=(p*q'-p'*q)*(W'-W):=JF (by omega) (by omega)
 have b1:q'*(q*x')=q*(q'*x'):=by rw[<- XB,XD q' q,XB]
 have b2:q'*(q*x)=q*(q'*x):=by rw[<- XB,XD q' q,XB]
 have b3:q'*(p*W')=p*q'*W':=by rw[<- XB,XD q' p]
 have b4:q'*(p*W)=p*q'*W:=by rw[<- XB,XD q' p]
 have b5:q*(p'*W')=p'*q*W':=by rw[<- XB,XD q p']
 have b6:q*(p'*W)=p'*q*W:=by rw[<- XB,XD q p']
 simp only[Ye,Int.sub_mul]at a1 a4;rw[b1,b2,b3,b4]at a1;rw[b5]at a2;rw[b6]at a3;omega
end
end Mir
namespace Mir
def ZN (g:Qn)(n:Nat)(p:Int):Int:=Qv (fun t=>min (g t) p) n
def ZF (g:Qn)(n:Nat)(p:Int):Int:=Qv (fun t=>if g t > p then 1 else 0) n
theorem K5 {g:Qn}{p:Int}:∀n,0<=ZF g n p
 |0=>by simp[ZF,Qv]
 |n+1=>by
   have:=K5 (g:=g) (p:=p) n
   unfold ZF at this ⊢;rw[Qv];split<;>omega
theorem SU {g:Qn}{p j:Int}(hj:0<=j):∀n,ZN g n (p+j)<=ZN g n p+ZF g n p*j
 |0=>by simp[ZN,ZF,Qv]
 |n+1=>by
   have ih:=SU (g:=g) (p:=p) hj n
   unfold ZN ZF at ih ⊢;rw[Qv,Qv,Qv];by_cases h:g n > p
   ·rw[Xc h,Uq,YQ];omega
   ·rw[Xb h,U0];omega
theorem PM {g:Qn}{p q:Int}(h:p<=q):∀n,ZN g n p<=ZN g n q
 |0=>by simp[ZN,Qv]
 |n+1=>by
   have ih:=PM (g:=g) h n
   unfold ZN at ih ⊢;rw[Qv,Qv];omega
theorem TR {g:Qn}{p:Int}:∀n,ZF g n p=0->ZN g n p=Qv g n
 |0,_=>by simp[ZN,Qv]
 |n+1,h=>by
   have h0:=K5 (g:=g) (p:=p) n
   unfold ZF at h h0;rw[Qv]at h;by_cases q:g n > p
   ·rw[Xc q]at h;omega
   ·rw[Xb q]at h
    have ih:=TR (g:=g) (p:=p) n (by unfold ZF;omega)
    unfold ZN at ih ⊢;rw[Qv,Qv,ih];omega
theorem TF {g:Qn}{p:Int}:∀n,0<ZF g n p->∃t,t<n/\p<g t
 |0,h=>by simp[ZF,Qv]at h
 |n+1,h=>by
   by_cases q:g n > p
   ·exact⟨n,by omega,q⟩
   ·unfold ZF at h
    rw[Qv,Xb q]at h;obtain⟨t,a,b⟩:=TF (g:=g) (p:=p) n (by unfold ZF;omega)
    exact⟨t,by omega,b⟩
def JP (g:Qn)(n:Nat)(w p:Int):Int:=(w-ZN g n p+ZF g n p-1)/ZF g n p
theorem AW {g:Qn}{n:Nat}{w p:Int}(h:ZN g n p<w)(hw:w<=Qv g n):0<ZF g n p:=by
 have h0:=K5 (g:=g) (p:=p) n
 by_cases q:ZF g n p=0
 ·have:=TR n q;omega
 ·omega
theorem AN {g:Qn}{n:Nat}{w p:Int}(h:ZN g n p<w)(hp:0<ZF g n p):1<=JP g n w p:=by
 unfold JP;exact(Int.le_ediv_iff_mul_le hp).mpr (by omega)
theorem ZmF {g:Qn}{n:Nat}{w p j:Int}(hp:0<ZF g n p)(hj:0<=j)(h:j<JP g n w p):ZN g n (p+j)<w:=by
 have a:=SU (g:=g) (p:=p) hj n
 have b:(j+1)*ZF g n p<=w-ZN g n p+ZF g n p-1:=by
  unfold JP at h;exact(Int.le_ediv_iff_mul_le hp).mp (by omega)
 rw[Uq,YQ,XD j]at b;omega
end Mir
section
namespace L2
open PySem PySem.Spec PyProof.Rows
structure KTup (K:W.Frag)(g:Addr)(x:Str):Prop where
 ex:∃(d:Qj) (t:Nat) (n:Nat) (sl:Array (Qf)),K.lookup g=some ⟨.type "tuple",d,.seq #[.str x t] n,sl⟩
theorem IB {P:Program}{w:World}{K:W.Frag}{mg mb:Str->Qf}{k:Nat}{fa a gS gE:Addr}{fd:FuncData}{x:Str}{sp:Sp}{b7:Shared}{vs:Qe}{ns:Ql}
 (KX:K.In b7.heap) (hns:b7.heap.Ns mainGlobals mg) (hb:b7.heap.Ns builtinsNs mb) (hbb:∀x:Str,x ≠ "__name__" -> mb x=bootBuiltins x) (hlim:b7.heap.NoLimit) (hg:b7.gens=#[])
 (ha:b7.heap.get? a=some { cls:=.type "list",data:=.seq vs.toArray }) (hi:IntsAre vs ns) (hl:ns.length<=sizeLine) (hr:Room k callerA) (tS:KTup K gS "start") (tE:KTup K gE "end")
 (F:∀base:Heap,K.In base->base.Ns mainGlobals mg->FnOk P w K mg base CX0 k fa fd [x] sp) (hbind:∀(s:Shared) (u:Value),BindsTo s fd ⟨[u],[]⟩ [(x,u)])
 (hsp:∀H:Hp,SqL K H a (ns.map V.int)->H gS=some (.tup [.str "start"])->H gE=some (.tup [.str "end"])->sp [.ref a] H (fun v _=>v=.bl true) fun _ _ _=>False) :
 codeAny (model P w) callerA (.call (.ref fa) ⟨[.ref a],[]⟩) (fun r s'=>r=.ok (.ret (.bool true))/\OldK b7.heap s'.heap/\s'.os=b7.os/\AllBare s'.gens) b7:=by
 have rv:=Ta hi
 have lenV:=hi.length
 obtain⟨dS,kS,cS,slS,lS⟩:=tS.ex
 obtain⟨dE,kE,cE,slE,lE⟩:=tE.ex
 have hS0:=KX gS _ lS
 have hE0:=KX gE _ lE
 have naS:gS≠a:=fun z=>by
  rw[z,ha]at hS0;injection hS0 with z1
  injection z1 with z2
  injection z2 with z3
  exact Xl z3 (by decide)
 have naE:gE≠a:=fun z=>by
  rw[z,ha]at hE0;injection hE0 with z1
  injection z1 with z2
  injection z2 with z3
  exact Xl z3 (by decide)
 have nSE:gE≠gS:=fun z=>by
  rw[z,lS]at lE;injection lE with z1
  injection z1 with _ _ z2 _
  injection z2 with z3 _
  have z4:=ZD Array.toList z3
  simp only[List.cons.injEq,Value.str.injEq,and_true]at z4;exact Xl z4.1 (by decide)
 have core:∀Hs:Hp,LG Hs->SqL K Hs a (ns.map V.int)->HOk P w Hs b7.heap->(∀b,Hs b≠none->b=a)->(Hs a≠none->K.lookup a=none) ->
  codeAny (model P w) callerA (.call (.ref fa) ⟨[.ref a],[]⟩) (fun r s'=>r=.ok (.ret (.bool true))/\OldK b7.heap s'.heap/\s'.os=b7.os/\AllBare s'.gens) b7:=by
  intro Hs hO hSq hok hA hK;have fS:Hs gS=none:=by
   cases q:Hs gS with
   |none=>rfl
   |some u=>exact Xl (hA gS (by rw[q];simp)) naS
  have fE:Hs gE=none:=by
   cases q:Hs gE with
   |none=>rfl
   |some u=>exact Xl (hA gE (by rw[q];simp)) naE
  have base_of:∀{b:Addr} {o:Obj},b7.heap.get? b=some o->Hs b=none->(WH b7.heap Hs).get? b=some o:=fun e n=>EU e n
  have noA:∀{b:Addr} {o:Obj} {es:Array DictEntry} {ep:Nat},b7.heap.get? b=some o->o.data=.dict es ep->Hs b=none:=fun{b o es ep} e d=>by
   cases q:Hs b with
   |none=>rfl
   |some u =>
     have e':b=a:=hA b (by rw[q];simp)
     subst e';rw[ha]at e;cases e;have d':Data.seq vs.toArray _=Data.dict es ep:=d
     cases d'
  have nsK:∀{b:Addr} {m:Str->Qf},b7.heap.Ns b m->(WH b7.heap Hs).Ns b m:=fun{b m} ⟨o,es,ep,e,d,r⟩=>⟨o,es,ep,base_of e (noA e d),d,r⟩
  have hKb:K.In (WH b7.heap Hs):=fun b o e=>base_of (KX b o e) (by
   cases q:Hs b with
   |none=>rfl
   |some u =>
     have e':b=a:=hA b (by rw[q];simp)
     subst e';rw[hK (by rw[q];simp)]at e;cases e)
  have hM:Mod K mg (WH b7.heap Hs):=⟨hKb,nsK hns,⟨mb,nsK hb,hbb⟩,let ⟨mc,h1,h2⟩:=hlim;⟨mc,nsK h1,h2⟩⟩
  let H:Hp:=upd (upd Hs gS (.tup [.str "start"])) gE (.tup [.str "end"])
  have hHS:H gS=some (.tup [.str "start"]):=by show upd _ _ _ gS=_;rw[Qx (Ne.symm nSE),QR]
  have hHE:H gE=some (.tup [.str "end"]):=QR
  have hHo:∀b,b≠gS->b≠gE->H b=Hs b:=fun b h1 h2=>by show upd _ _ _ b=_;rw[Qx h2,Qx h1]
  have sm:QC Hs H:=fun b u e=>by
   rw[hHo b (fun z=>by rw[z,fS]at e;cases e) (fun z=>by rw[z,fE]at e;cases e)]
   exact e
  have l1:∀x:Str,[V.str x].length<=sizeLine:=fun _=>XZ (Vv U7)
  have hokH:HOk P w H b7.heap:=fun b u e=>by
   by_cases h1:b=gS
   ·subst h1
    rw[hHS]at e;cases e
    exact⟨l1 _,[.str "start" kS],.cons ⟨kS,rfl⟩ .nil,⟨_,hS0,rfl,_,rfl⟩⟩
   ·by_cases h2:b=gE
    ·subst h2
     rw[hHE]at e;cases e
     exact⟨l1 _,[.str "end" kE],.cons ⟨kE,rfl⟩ .nil,⟨_,hE0,rfl,_,rfl⟩⟩
    ·rw[hHo b h1 h2]at e
     rcases hO b with z|⟨o,xs,z⟩
     ·rw[z]at e;cases e
     ·rw[z]at e
      cases e
      obtain⟨q1,q2⟩:=hok b _ z
      exact⟨q1,q2⟩
  have e0:Env0 P w K mg (WH b7.heap Hs) callerA [] b7 H:=⟨rfl,hM,fun b o e=>by
   obtain⟨e1,e2⟩:=Cg e
   refine⟨e1,?_⟩
   by_cases h1:b=gS
   ·exact .inr ⟨_,by rw[h1];exact hHS⟩
   ·by_cases h2:b=gE
    ·exact .inr ⟨_,by rw[h2];exact hHE⟩
    ·exact .inl (by rw[hHo b h1 h2];exact e2),Nat.le_of_eq (IY _ _),trivial,fun b hb=>Xl (show b∈([]:Qg) from hb) (by simp),hokH,.of_eq hg⟩
  refine codeAny_mono ((F _ hKb (nsK hns)).run callerA [] b7 H ⟨[.ref a],[]⟩ [.ref a] [.ref a] _ _ hr e0 (hbind b7 (.ref a)) (.cons rfl .nil) (hsp H (sm.seq hSq) hHS hHE)) fun r s' h=>?_
  cases r with
  |error e=>exact False.elim h
  |ok fl =>
    cases fl with
    |next=>exact False.elim h
    |brk=>exact False.elim h
    |cont=>exact False.elim h
    |ret u =>
      obtain⟨v,H',os,bare,un,hok',r',q⟩:=h
      have q':v=.bl true:=q
      subst q';obtain rfl:u=Value.bool true:=r'
      refine⟨rfl,OldK.of_keep fun b o e=>?_,os,bare⟩
      by_cases h1:b=gS
      ·subst h1
       exact un.tupo b _ o hHS e (by simp)
      ·by_cases h2:b=gE
       ·subst h2
        exact un.tupo b _ o hHE e (by simp)
       ·rcases hO b with z|⟨ob,xs,z⟩
        ·exact un.keep b o e (by rw[hHo b h1 h2];exact z) (by intro z;exact Xl (show b∈([]:Qg) from z) (by simp)) (by simp)
        ·have z2:=un.frzs b ob _ (by rw[hHo b h1 h2];exact z)
         obtain⟨e1,_⟩:=hok b _ z
         obtain⟨e2,_⟩:=hok' b _ z2
         rw[e]at e1;cases e1;exact e2
 cases hk:K.lookup a with
 |some o =>
   have e:=KX a o hk
   rw[ha]at e;cases e
   refine core (fun _=>none) (fun _=>.inl rfl) (.inr ⟨_,vs.toArray,_,hk,rfl,rfl,rfl,by rw[Xu,lenV];exact hl,by simpa using rv⟩) (fun b u z=>by have z':(none:Option HO)=some u:=z;cases z') (fun b z=>Xl rfl z) fun z=>Xl rfl z
 |none =>
   refine core (fun b=>if b=a then some (.frz { cls:=.type "list",data:=.seq vs.toArray } (.lst (ns.map V.int))) else none) (fun b=>?_) (.inl (.inr ⟨{ cls:=.type "list",data:=.seq vs.toArray },Xc rfl⟩)) (fun b u z=>?_) (fun b z=>?_) fun _=>hk
   ·by_cases hb:b=a
    ·exact .inr ⟨_,_,Xc hb⟩
    ·exact .inl (Xb hb)
   ·by_cases hb:b=a
    ·have z':=(Xc hb).symm.trans z
     cases z'
     subst hb;exact⟨ha,by rw[Xm];exact hl,vs,_,rv,ha⟩
    ·have z':=(Xb hb).symm.trans z
     cases z'
   ·by_cases hb:b=a
    ·exact hb
    ·exact Xl (Xb hb) z
theorem Zo7 {l:W.OpenLaw}{k:Nat}{q:Program}{loose:Qh}{XP:(Str->Qf)->Heap->Prop}{YP:World->Heap->Prop}{d:DefRec}{K:Params->W.Frag}{x:Str}
 (hn:l.most=some 63) (hdf:d.params.defaults=[]) (hr:Room k callerA)
 (hY:∀(w:World) (h:Heap),YP w h->(K w.params).In h)
 (F:∀(w:World) (mg:Str->Qf) (fa:Addr) (h:Heap),(K w.params).In h->h.Ns mainGlobals mg->mg d.name=some (.ref fa) ->
  (∃gS gE,W.nsIn (K w.params) mainGlobals "START"=some (some (.ref gS))/\W.nsIn (K w.params) mainGlobals "END"=some (some (.ref gE))/\KTup (K w.params) gS "start" /\ KTup (K w.params) gE "end") /\
  ∃fd:FuncData,(∀(s:Shared) (u:Value),BindsTo s fd ⟨[u],[]⟩ [(x,u)]) /\
   ∀base:Heap,(K w.params).In base->base.Ns mainGlobals mg->FnOk l.prog w (K w.params) mg base CX0 k fa fd [x] (BD (K w.params))) :
 W.WalkO q loose XP YP l.row.toRowW d [] (fun f vs=>PySem.call f vs):=by
 refine Att.attach_callW hn hdf fun w s₀ b7 mg mb fa o pm cd doc a vs ns G Y ho hd hcd hmg hobj hints hlen hbits hg=>?_
 have KX:=hY w _ Y
 obtain⟨⟨gS,gE,n1,n2,t1,t2⟩,fd,hb,hF⟩:=F w mg fa _ KX G.T.g hmg
 exact IB KX G.T.g G.T.b G.T.builtins G.T.nolimit hg hobj hints (XN hlen (by decide)) hr t1 t2 hF hb (fun H hS h1 h2=>⟨a,ns,rfl,⟨gS,gE,n1,n2,h1,h2⟩,⟨hS,hlen,hbits⟩,fun _=>rfl⟩)
theorem Hz {K:W.Frag} {ρ:QG} {g:Addr} (a:W.nsIn K mainGlobals "START"=some (some (.ref g))):Qt K (tC (.ref g)) ρ (QW [.inr "start"]):=fun H0 F σ H Q S q=>by
 obtain⟨gS,gE,h1,h2,h3,h4⟩:=S.kt
 rw[h1]at a;cases a
 exact q F H _ (QA.refl S.sub) (.tup h3 (.cons (.str _) .nil))
theorem Ru {K:W.Frag} {ρ:QG} {g:Addr} (a:W.nsIn K mainGlobals "END"=some (some (.ref g))):Qt K (tC (.ref g)) ρ (QW [.inr "end"]):=fun H0 F σ H Q S q=>by
 obtain⟨gS,gE,h1,h2,h3,h4⟩:=S.kt
 rw[h2]at a;cases a
 exact q F H _ (QA.refl S.sub) (.tup h4 (.cons (.str _) .nil))
theorem DZ {A:Around}{k:Nat}(hr:Room k A):A.units+6<cLine:=MK (Nat.add_le_add_left (by decide:6<=64) _) hr.units
def RH (tk tv:TE):TE:=fun σ H Q=>∀p,H p=none->tk σ (upd H p (.dT [])) fun x H1=>tv σ H1 fun y H2=>∃k b,x=.ref b/\H2 p=some (.dT [])/\H2 b=some (.tup (k.map kV))/\Q (.ref p) (upd H2 p (.dT [(k,y)]))
theorem Et {X:Cx}{pos:Pos}{ke ve:Expr}{tk tv:TE}(hu:X.A.units+1<cLine)(hk:PE X ke tk)(hv:PE X ve tv):PE X (.Dict [some ke] [ve] pos) (RH tk tv):=by
 intro Xbs s σ H Q I q;have hn:=I.hok.fresh (Xs s.heap.objs.size)
 have I1:=I.laid (a:=s.heap.objs.size) (o:=.dT []) (h':=s.heap.push { cls:=.type "dict",data:=.dict #[] }) (t':=s.toks) (fun _ _ q=>Xf _ q) (Xs _) (Pp s.heap I.big)
 refine wpAny_Dict_any rfl rfl (by simp) (by show(1:Nat)<=15;decide) (pairTrees_cons_walk (Q8 (hk Xbs _ σ _ _ I1 (q _ hn)) fun kv s1 ⟨x,H1,I2,rx,q1⟩=>Q8 (hv Xbs s1 σ H1 _ I2 q1) fun vv s2 ⟨y,H2,I3,ry,k,b,ex,e,eb,q2⟩=>pairTrees_nil_walk ?_))
 subst ex;obtain rfl:kv=Value.ref b:=rx
 obtain⟨z,hd,xs,rel,dd⟩:=D7 I3.hok e
 have hx:xs=[]:=by cases rel;rfl
 subst hx;unfold storeAll;rw[List.forIn_cons];refine Xa (Xa (wpAny_dictSet_heap (hsz:=Vl _) (knd:=tupleKind (Ve X.prog X.w)) (show X.A.units<cLine by omega) (W1 I3.hok eb) dd fun h' dd' hs=>Xi ?_))
 obtain⟨q',es,ep,hq,g2,g3,g4,_,g5⟩:=dd'
 show wpAny _ _ (forIn [] PUnit.unit _) _ _ _
 rw[List.forIn_nil];refine Xi ⟨.ref s.heap.objs.size,upd H2 s.heap.objs.size (.dT [(k,y)]),GK (ob:=.dT [(k,y)]) I3 (by rw[e];exact True.intro) hs ⟨q',hq⟩ ⟨XZ (Vv U7),hd,_,(show KT H2 [(k,y)] [(k,b,vv)] from .cons ⟨rfl,eb,ry⟩ .nil).keeps fun c ys ec=>?_,q',es,ep,hq,g2,g3,g4,g5⟩,rfl,q2⟩
 rw[Qx (fun z=>by subst z;rw[e]at ec;cases ec)]
 exact ec
theorem Ep {K:W.Frag}{ρ:QG}{tk tv:TE}{k:List Key}{d:PyData}(hk:Qt K tk ρ (QW k))(hv:Qt K tv ρ d):EvX K (RH tk tv) ρ (Vx [(k,d)]):=fun H0 F σ H Q S q=>fun p hp=>by
 have x0:QA F H F (upd H p (.dT [])):=QA.own S.sub hp
 have f0:F p=none:=S.sub.free hp
 refine hk H0 F σ _ _ (S.ext x0) fun F1 H1 x x1 r1=>hv H0 F1 σ H1 _ (S.ext (x0.trans x1)) fun F2 H2 y x2 r2=>?_
 obtain⟨b,rfl,hb⟩:=W2 r1
 have X:=x1.trans x2
 have hp2:H2 p=some (.dT []):=X.hh _ _ QR
 have fp2:F2 p=none:=X.free f0 (by rw[QR];exact fun z=>nomatch z)
 have X':=x0.trans X
 refine⟨k,b,rfl,hp2,X.fh _ _ (x2.ff _ _ hb),q F2 _ (.ref p) [p] (X'.wr hp fp2) (fun a ha=>by cases Xn.mp ha;exact hp) ⟨p,_,rfl,rfl,fp2,QR,.cons r2 .nil⟩⟩
inductive LeavZ (F:Hp):List (List Key×V)->List (List Key×Ql)->Prop
 |nil:LeavZ F [] []
 |cons {k:List Key} {a:Addr} {ns:Ql} {zs:List V} {xs:List (List Key×V)} {ls:List (List Key×Ql)}:F a=some (.lst zs)->Qw F zs (ns.map PyData.int)->LeavZ F xs ls->LeavZ F ((k,.ref a)::xs) ((k,ns)::ls)
theorem LeavZ.mono {F F':Hp}(s:QC F F'):∀{xs:List (List Key×V)} {ls:List (List Key×Ql)},LeavZ F xs ls->LeavZ F' xs ls
 |_,_,.nil=>.nil
 |_,_,.cons h r t=>.cons (s _ _ h) (r.mono s) (t.mono s)
theorem LeavZ.val {F:Hp}(k:List Key):∀{xs:List (List Key×V)} {ls:List (List Key×Ql)},LeavZ F xs ls->(Z0 xs k=none/\QQ ls k=none)\/∃a ns zs,Z0 xs k=some (.ref a)/\QQ ls k=some ns/\F a=some (.lst zs)/\Qw F zs (ns.map PyData.int)
 |_,_,.nil=>.inl ⟨rfl,rfl⟩
 |_,_,.cons (k:=k') (a:=a) (ns:=ns) (zs:=zs) (xs:=xs) (ls:=ls) h r t=>by
   by_cases e:k'=k
   ·exact .inr ⟨a,ns,zs,Wh e,by simp[QQ,XA,e],h,r⟩
   ·have q:QQ ((k',ns)::ls) k=QQ ls k:=by simp[QQ,XA,e]
    rw[Wi (p:=(k',V.ref a)) e,q]
    exact t.val k
theorem LeavD.fz {F F' H:Hp}(s:QC F F'):∀{xs:List (List Key×V)} {ls:List (List Key×Ql)} {as:Qg},LeavD F H xs ls as->(∀b∈as,F' b=H b)->LeavZ F' xs ls
 |_,_,_,.nil,_=>.nil
 |_,_,_,.cons h t,he=>by
   obtain⟨h1,xs,h2,h3⟩:=h
   exact .cons (by rw[he _ Xd];exact h2) (h3.mono s) (t.fz s fun b hb=>he b (Xe _ hb))
structure NetFz (P:Program)(w:World)(C:Addr)(N:Qz)(F:Hp)(a dx e r l d:Addr)(xs:List (List Key×V))(ys:List (KK×Addr×V)):Prop where
 ins:F a=some (.ins C dx [("ends",.ref e),("rooms",.ref r),("leaving",.ref l),("laid",.ref d)])
 ends:∃ex,F e=some (.lst ex)/\Qw F ex (N.ends.map QW)
 rooms:∃rx,F r=some (.lst rx)/\Qw F rx (N.rooms.map PyData.int)
 leav:F l=some (.dT xs)/\LeavZ F xs N.leav
 laid:F d=some (pdO P w d ys)/\LaidD F ys N.laid
theorem NetFz.mono {P:Program}{w:World}{C:Addr}{N:Qz}{F F':Hp}{a dx e r l d:Addr}{xs:List (List Key×V)}{ys:List (KK×Addr×V)}(s:QC F F')(h:NetFz P w C N F a dx e r l d xs ys):NetFz P w C N F' a dx e r l d xs ys:=by
 obtain⟨h1,⟨ex,h2,h3⟩,⟨rx,h4,h5⟩,⟨h6,h7⟩,⟨h8,h9⟩⟩:=h
 exact⟨s _ _ h1,⟨ex,s _ _ h2,h3.mono s⟩,⟨rx,s _ _ h4,h5.mono s⟩,⟨s _ _ h6,h7.mono s⟩,⟨s _ _ h8,h9.mono s⟩⟩
def ZR (P:Program)(w:World)(C:Addr)(N:Qz):ZP where
 ok K F v := ∃a dx e r l d xs ys,v=.ref a/\NetFz P w C N F a dx e r l d xs ys
 mono:=by
  rintro K F F' v s ⟨a,dx,e,r,l,d,xs,ys,rfl,h⟩
  exact⟨a,dx,e,r,l,d,xs,ys,rfl,h.mono s⟩
theorem NetOk.fz {P:Program}{w:World}{C:Addr}{N:Qz}{F F' H:Hp}{a dx el r l d:Addr}{xs:List (List Key×V)}{ys:List (KK×Addr×V)}{as:Qg}(ok:NetOk P w C N F H a dx el r l d xs ys as)(s:QC F F')(he:∀b∈a::dx::el::r::l::d::as,F' b=H b) :
 NetFz P w C N F' a dx el r l d xs ys:=by
 obtain⟨nd,⟨i1,i2⟩,⟨o1,o2⟩,⟨e1,ex,e2,e3⟩,⟨r1,rx,r2,r3⟩,⟨l1,l2,l3⟩,⟨d1,d2,d3⟩⟩:=ok
 exact⟨by rw[he _ (by simp)];exact i2,⟨ex,by rw[he _ (by simp)];exact e2,e3.mono s⟩,⟨rx,by rw[he _ (by simp)];exact r2,r3.mono s⟩,⟨by rw[he _ (by simp)];exact l2,l3.fz s fun b hb=>he b (by simp[hb])⟩,⟨by rw[he _ (by simp)];exact d2,d3.mono s⟩⟩
theorem Zi.fz {P:Program}{w:World}{C:Addr}{N:Qz}{K:W.Frag}{F F' H:Hp}{v:V}{p:Qg}(h:(Zi P w C N).ok K F H v p)(s:QC F F')(he:∀b∈p,F' b=H b):(ZR P w C N).ok K F' v:=by
 obtain⟨a,dx,e,r,l,d,xs,ys,as,rfl,rfl,o⟩:=h
 exact⟨a,dx,e,r,l,d,xs,ys,rfl,o.fz s he⟩
def JO (kvs:ZO):ZP where
 ok K F v := ∃a xs,v=.ref a/\F a=some (.dT xs)/\PairD F xs kvs
 mono:=by
  rintro K F F' v s ⟨a,xs,rfl,h1,h2⟩
  exact⟨a,xs,rfl,s _ _ h1,h2.mono s⟩
theorem Vx.fz {kvs:ZO}{K:W.Frag}{F F' H:Hp}{v:V}{p:Qg}(h:(Vx kvs).ok K F H v p)(s:QC F F')(he:∀b∈p,F' b=H b):(JO kvs).ok K F' v:=by
 obtain⟨a,xs,rfl,rfl,h1,h2,h3⟩:=h
 exact⟨a,xs,rfl,by rw[he a Xd];exact h2,h3.mono s⟩
section
variable {K:W.Frag}{ρ:QG}{D:PEnds}
theorem QT.freezeZ {H0 F H:Hp}{σ:St}{i:Nat}{v:V}{Φ:OwnP}{Ψ:ZP}(s:QT K H0 F ρ σ H)(e:ρ[i]?=some (some (.own v Φ)))
 (hz:∀{F F' H:Hp} {u:V} {p:Qg},Φ.ok K F H u p->QC F F'->(∀b∈p,F' b=H b)->Ψ.ok K F' u) :
 ∃p,(∀a∈p,F a=none/\H a≠none/\H0 a=none)/\QT K H0 (frF F H p) (ρ.set i (some (.zow Ψ))) σ H:=by
 obtain⟨kt,h1,h2,fp,h3,h4,h5⟩:=s
 obtain⟨u,e1,rfl,ok⟩:=h3 i _ e
 have hlt:=(Xh.mp e).1
 have th:=fun a ha=>Φ.there ok a ha
 have sm:QC F (frF F H (fp i)):=J0 fun a ha=>(th a ha).1
 refine⟨fp i,fun a ha=>⟨(th a ha).1,(th a ha).2,(h5 i a ha).1⟩,kt.mono sm,UP h1,by simp[h2],fun j=>if j=i then [] else fp j,fun j t' e'=>?_,fun j k b hb hc=>?_,fun j b hb=>?_⟩
 ·by_cases hj:j=i
  ·subst hj
   rw[XU hlt]at e';cases e'
   refine⟨_,e1,?_,hz ok sm fun b hb=>UJ hb⟩
   dsimp only;rw[Xc rfl]
  ·rw[X0 (Ne.symm hj)]at e'
   obtain⟨u',f1,f2⟩:=h3 j t' e'
   refine⟨u',f1,?_⟩
   dsimp only;rw[Xb hj];exact f2.frOther sm fun a ha z=>hj (h4 j i a ha z)
 ·by_cases hj:j=i
  ·simp[hj]at hb
  ·by_cases hk:k=i
   ·simp[hk]at hc
   ·simp only[Xb hj]at hb
    simp only[Xb hk]at hc;exact h4 j k b hb hc
 ·by_cases hj:j=i
  ·simp[hj]at hb
  ·simp only[Xb hj]at hb
   exact h5 j b hb
theorem Ry {t:TS}(i:Nat){v:V}{Φ:OwnP}{Ψ:ZP}(e:ρ[i]?=some (some (.own v Φ)))(hz:∀{F F' H:Hp} {u:V} {p:Qg},Φ.ok K F H u p->QC F F'->(∀b∈p,F' b=H b)->Ψ.ok K F' u)
 (h:Q3 K t (ρ.set i (some (.zow Ψ))) D):Q3 K t ρ D:=fun F0 H0 F σ H E x S C=>by
 obtain⟨p,hp,S'⟩:=S.freezeZ e hz
 refine h F0 H0 _ σ H E ⟨x.hh,x.ff.trans (J0 fun a ha=>(hp a ha).1),S'.sub,fun a ha=>?_⟩ S' C
 by_cases z:a∈p
 ·exact .inr (hp a z).2.2
 ·rw[Y1 z]at ha;exact x.fr a ha
theorem EN {t:TS}{P:Program}{w:World}{C:Addr}{N:Qz}{v:V}(i:Nat)(e:ρ[i]?=some (some (.own v (Zi P w C N))))(h:Q3 K t (ρ.set i (some (.zow (ZR P w C N)))) D):Q3 K t ρ D:=Ry i e (fun a b c=>Zi.fz a b c) h
theorem P2 {t:TS}{kvs:ZO}{v:V}(i:Nat)(e:ρ[i]?=some (some (.own v (Vx kvs))))(h:Q3 K t (ρ.set i (some (.zow (JO kvs)))) D):Q3 K t ρ D:=Ry i e (fun a b c=>Vx.fz a b c) h
def Zy (K:W.Frag)(t:TE)(ρ:QG)(Φ:OT->Prop):Prop := ∀(H0 F:Hp) (σ:St) (H:Hp) (Q:VK),QT K H0 F ρ σ H->(∀F' H' v p r,Φ r->QA F H F' H'->(∀a∈p,H a=none)->Zz K F' H' v r p->Q v H')->t σ H Q
theorem EvO.d {t:TE}{r:OT}{Φ:OT->Prop}(h:EvO K t ρ r)(hr:Φ r):Zy K t ρ Φ:=fun H0 F σ H Q S q=>h H0 F σ H Q S fun F' H' v p x hp ok=>q F' H' v p r hr x hp ok
theorem Zy.imp {t:TE}{Φ Φ':OT->Prop}(h:Zy K t ρ Φ)(hi:∀r,Φ r->Φ' r):Zy K t ρ Φ':=fun H0 F σ H Q S q=>h H0 F σ H Q S fun F' H' v p r hr=>q F' H' v p r (hi r hr)
theorem Zy.o {t:TE}{r:OT}(h:Zy K t ρ (fun r'=>r'=r)):EvO K t ρ r:=fun H0 F σ H Q S q=>h H0 F σ H Q S fun F' H' v p r' e x hp ok=>by subst e;exact q F' H' v p x hp ok
theorem EvX.d {t:TE}{Φ0:OwnP}{Φ:OT->Prop}(h:EvX K t ρ Φ0)(hr:∀v,Φ (.own v Φ0)):Zy K t ρ Φ:=fun H0 F σ H Q S q=>h H0 F σ H Q S fun F' H' v p x hp ok=>q F' H' v p (.own v Φ0) (hr v) x hp ⟨rfl,ok⟩
theorem VS {te:TE}{i:Nat}{Φ:OT->Prop}(h:Zy K te ρ Φ)(hn:∀r,Φ r->D.nx (ρ.set i (some r))):Q3 K (Wq te (Ws i)) ρ D:=fun F0 H0 F σ H E x S C =>
 h H0 F σ H _ S fun F' H' v p r hr x' hp ok=>by
  refine C.nx F' _ H' _ (x.trans x') ((S.ext x').set ok (fun a ha=>x.hh.free (hp a ha)) (hn:=fun a ha j w t' q e1 e2 ok'=>?_)) (hn r hr)
  obtain⟨fp,g1,g2,g3⟩:=S.fp
  obtain⟨w',f1,f2⟩:=g1 j t' e1
  intro hq;have f3:=f2.ext x'
  rw[e2]at f1;cases f1
  exact(g3 j a (Td (K:=K) f3 ok' a hq)).2 (hp a ha)
theorem GH {te:TE}{Φ:OT->Prop}(h:Zy K te ρ Φ)(hr:∀r,Φ r->D.rt r):Q3 K (UA te) ρ D:=fun F0 H0 F σ H E x S C =>
 h H0 F σ H _ S fun F' H' v p r e x' hp ok=>C.rt F' H' v r p (x.trans x') (fun a ha=>x.hh.free (hp a ha)) ok (hr r e)
theorem S8 {i:Nat}{v:V}{Φ:OwnP}(e:ρ[i]?=some (some (.own v Φ)))(hr:D.rt (.own v Φ)):Q3 K (UA (Zc i)) ρ D:=fun F0 H0 F σ H E x S C=>by
 obtain⟨fp,h,_,h5⟩:=S.fp
 obtain⟨u,e1,e2⟩:=h i _ e
 exact⟨_,e1,C.rt F H u (.own v Φ) (fp i) x (fun a ha=>(h5 i a ha).1) e2 hr⟩
def Go (r:OT):Prop := ∀(K:W.Frag) (F F' H:Hp) (v:V) (p:Qg),(∀a∈p,F' a=none)->Zz K F H v r p->Zz K F' H v r p
theorem Rep.thin {F F':Hp}{v w:V}{d:PyData}(r:Rep F v d)(h:Yg d=some w):Rep F' v d:=by
 cases r<;>simp[Yg]at h
 ·exact .non
 ·exact .bl _
 ·exact .int _
 ·exact .str _
theorem IU {d:PyData}{w:V}(h:Yg d=some w):Go (.fz d):=fun K F F' H v p _ ok=>⟨ok.1,ok.2.thin h⟩
theorem Cw {ds:Qd}(h:R7 ds):Go (.ol ds):=fun K F F' H v p hp ok=>by
 obtain⟨a,rfl,rfl,h1,xs,h2,h3⟩:=ok
 exact⟨a,rfl,rfl,hp a Xd,xs,h2,h3.flats h⟩
def DN (kvs:ZO):Prop := ∀x∈kvs,∃w,Yg x.2=some w
theorem PairD.flats {F F':Hp}:∀{xs:List (List Key×V)} {kvs:ZO},DN kvs->PairD F xs kvs->PairD F' xs kvs
 |_,_,_,.nil=>.nil
 |_,_,h,.cons r t=>by
   obtain⟨w,e⟩:=h _ Xd
   exact .cons (r.thin e) (t.flats fun x hx=>h x (Xe _ hx))
theorem E9 {kvs:ZO}{v:V}(h:DN kvs):Go (.own v (Vx kvs)):=fun K F F' H u p hp ok=>by
 obtain⟨e,a,xs,rfl,rfl,h1,h2,h3⟩:=ok
 exact⟨e,a,xs,rfl,rfl,hp a Xd,h2,h3.flats h⟩
theorem AC {t:TE}{v:V}{Φ0:OwnP}{Ψ:ZP}{Φ:OT->Prop}(i:Nat)(e:ρ[i]?=some (some (.own v Φ0)))(hz:∀{F F' H:Hp} {u:V} {p:Qg},Φ0.ok K F H u p->QC F F'->(∀b∈p,F' b=H b)->Ψ.ok K F' u)
 (hf:∀r,Φ r->Go r) (h:Zy K t (ρ.set i (some (.zow Ψ))) Φ):Zy K t ρ Φ:=fun H0 F σ H Q S q=>by
 obtain⟨p,hp,S'⟩:=S.freezeZ e hz
 refine h H0 _ σ H Q S' fun F' H' u pp r hr x hpp ok=>?_
 refine q _ H' u pp r hr (SZ (fun a ha=>⟨(hp a ha).1,(hp a ha).2.1⟩) x) hpp (hf r hr K F' _ H' u pp (fun a ha=>?_) ok)
 by_cases z:a∈p
 ·show(if a∈p then none else F' a)=none
  rw[Xc z]
 ·show(if a∈p then none else F' a)=none
  rw[Xb z];exact(ok.there a ha).1
theorem Ko {t:TE}{P:Program}{w:World}{C:Addr}{N:Qz}{v:V}{Φ:OT->Prop}(i:Nat)(e:ρ[i]?=some (some (.own v (Zi P w C N))))(hf:∀r,Φ r->Go r)(h:Zy K t (ρ.set i (some (.zow (ZR P w C N)))) Φ):Zy K t ρ Φ :=
 AC i e (fun a b c=>Zi.fz a b c) hf h
theorem ZlT {t:TE}{P:Program}{w:World}{C:Addr}{N:Qz}{v:V}{d:PyData}{u:V}(i:Nat)(e:ρ[i]?=some (some (.own v (Zi P w C N))))(hf:Yg d=some u)(h:Qt K t (ρ.set i (some (.zow (ZR P w C N)))) d):Qt K t ρ d :=
 EvO.e (Zy.o (Ko (Φ:=fun r=>r=.fz d) i e (fun r hr=>by subst hr;exact IU hf) (h.o.d rfl)))
section
variable {tb te ty tx:TE}{i:Nat}{P:Program}{w:World}{C:Addr}{N:Qz}{k:List Key}
theorem QT.netz {H0 F H:Hp}{σ:St}(S:QT K H0 F ρ σ H)(e:ρ[i]?=some (some (.zow (ZR P w C N)))):∃a dx el r l d xs ys,σ[i]?=some (some (.ref a))/\NetFz P w C N F a dx el r l d xs ys:=by
 obtain⟨fp,h,_⟩:=S.fp
 obtain⟨v,e1,_,a,dx,el,r,l,d,xs,ys,rfl,h1⟩:=h i _ e
 exact⟨a,dx,el,r,l,d,xs,ys,e1,h1⟩
theorem HJ (c:NetC K C) (e:ρ[i]?=some (some (.zow (ZR P w C N)))) {k m:Int} (hb:Qt K tb ρ (.int k)) (hm:atI (N.rooms.map PyData.int) k=some (.int m)):Qt K (tOp (rIx K) (Yt K (Zc i) "rooms") tb) ρ (.int m):=fun H0 F σ H Q S q=>by
 obtain⟨a,dx,el,r,l,d,xs,ys,e1,ok⟩:=S.netz e
 refine⟨_,e1,a,C,dx,_,.ref r,rfl,S.sub _ _ ok.ins,c.cl,c.rooms,rfl,hb H0 F σ H _ S fun F1 H1 y x1 r1=>?_⟩
 cases r1
 obtain⟨rx,r2,r3⟩:=ok.rooms
 obtain⟨z,z1,z2⟩:=US (r3.mono x1.ff) hm
 exact .inl ⟨r,rx,k,z,rfl,rfl,SqL.of (x1.fh _ _ (x1.ff _ _ r2)),z1,q F1 H1 z x1 z2⟩
theorem So (c:NetC K C) (e:ρ[i]?=some (some (.zow (ZR P w C N)))) {k:Int} {n:PyData} (hb:Qt K tb ρ (.int k)) (hm:atI (N.ends.map QW) k=some n):Qt K (tOp (rIx K) (Yt K (Zc i) "ends") tb) ρ n:=fun H0 F σ H Q S q=>by
 obtain⟨a,dx,el,r,l,d,xs,ys,e1,ok⟩:=S.netz e
 refine⟨_,e1,a,C,dx,_,.ref el,rfl,S.sub _ _ ok.ins,c.cl,c.ends,rfl,hb H0 F σ H _ S fun F1 H1 y x1 r1=>?_⟩
 cases r1
 obtain⟨rx,r2,r3⟩:=ok.ends
 obtain⟨z,z1,z2⟩:=US (r3.mono x1.ff) hm
 exact .inl ⟨el,rx,k,z,rfl,rfl,SqL.of (x1.fh _ _ (x1.ff _ _ r2)),z1,q F1 H1 z x1 z2⟩
theorem Ey (c:NetC K C) (e:ρ[i]?=some (some (.zow (ZR P w C N)))) (hy:Qt K ty ρ (QW k)):Qt K (Sa (Yt K (Zc i) "leaving") ty (Gp Zm)) ρ (.list (((QQ N.leav k).getD []).map PyData.int)):=fun H0 F σ H Q S q=>by
 obtain⟨a,dx,el,r,l,d,xs,ys,e1,ok⟩:=S.netz e
 refine⟨_,e1,a,C,dx,_,.ref l,rfl,S.sub _ _ ok.ins,c.cl,c.leav,rfl,l,rfl,.inr ⟨xs,Rd.of (S.sub _ _ ok.leav.1)⟩,hy H0 F σ H _ S fun F1 H1 y x1 r1=>⟨Vl _,fun p hp=>?_⟩⟩
 obtain⟨b,rfl,hb⟩:=W2 r1
 have S1:=S.ext x1
 have x2:QA F1 H1 (upd F1 p (.lst [])) (upd H1 p (.lst [])):=QA.new S1.sub hp
 have xx:=x1.trans x2
 have lH:upd H1 p (.lst []) l=some (.dT xs):=xx.fh _ _ (xx.ff _ _ ok.leav.1)
 have bH:upd H1 p (.lst []) b=some (.tup (k.map kV)):=x2.fh _ _ (x2.ff _ _ hb)
 refine⟨Z0 xs k,V6.t lH bH,?_⟩
 rcases ok.leav.2.val k with ⟨z1,z2⟩|⟨c1,ns,zs,z1,z2,z3,z4⟩
 ·rw[z1]
  exact q _ _ _ xx (by rw[z2];exact .lst QR .nil)
 ·rw[z1]
  exact q _ _ _ xx (by rw[z2];exact .lst (xx.ff _ _ z3) (z4.mono xx.ff))
theorem Im (c:NetC K C) (e:ρ[i]?=some (some (.zow (ZR P w C N)))) {k1 k2:List Key} {n:Int} (hy:Qt K ty ρ (.tuple [QW k1,QW k2])) (hn:ZK N.laid (k1,k2)=some n):Qt K (NZ P w (Yt K (Zc i) "laid") ty) ρ (.int n):=fun H0 F σ H Q S q=>by
 obtain⟨a,dx,el,r,l,d,xs,ys,e1,ok⟩:=S.netz e
 refine⟨_,e1,a,C,dx,_,.ref d,rfl,S.sub _ _ ok.ins,c.cl,c.laid,rfl,hy H0 F σ H _ S fun F2 H2 y x2 r2=>?_⟩
 obtain⟨b,rfl,hb⟩:=HU r2
 have S2:=S.ext x2
 have d3:=ok.laid.2.mono x2.ff
 exact⟨d,b,ys,(k1,k2),.int n,rfl,rfl,x2.fh _ _ (x2.ff _ _ ok.laid.1),d3.at S2.sub,hb.mono fun c' z ez=>S2.sub _ _ ez,by rw[d3.val,hn];rfl,q F2 H2 _ x2 (.int n)⟩
theorem Om (c:NetC K C) {k1 k2:List Key} (hy:Qt K ty ρ (.tuple [QW k1,QW k2])) (e:ρ[i]?=some (some (.zow (ZR P w C N)))):Qt K (S6 P w ty (Yt K (Zc i) "laid")) ρ (.bool (!(ZK N.laid (k1,k2)).isSome)):=fun H0 F σ H Q S q =>
 hy H0 F σ H _ S fun F2 H2 y x2 r2=>by
  have S2:=S.ext x2
  obtain⟨a,dx,el,r,l,d,xs,ys,e1,ok⟩:=S2.netz e
  obtain⟨b,rfl,hb⟩:=HU r2
  have d3:=ok.laid.2
  refine⟨_,e1,a,C,dx,_,.ref d,rfl,S2.sub _ _ ok.ins,c.cl,c.laid,rfl,d,b,ys,(k1,k2),rfl,rfl,S2.sub _ _ ok.laid.1,d3.at S2.sub,hb.mono fun c' z ez=>S2.sub _ _ ez,q F2 H2 _ x2 ?_⟩
  rw[d3.val,J8];exact .bl _
theorem QT.dctz {H0 F H:Hp}{σ:St}{kvs:ZO}(S:QT K H0 F ρ σ H)(e:ρ[i]?=some (some (.zow (JO kvs)))):∃a xs,σ[i]?=some (some (.ref a))/\F a=some (.dT xs)/\PairD F xs kvs:=by
 obtain⟨fp,h,_⟩:=S.fp
 obtain⟨v,e1,_,a,xs,rfl,h1,h2⟩:=h i _ e
 exact⟨a,xs,e1,h1,h2⟩
theorem Sx {kvs:ZO}{d:PyData}(e:ρ[i]?=some (some (.zow (JO kvs))))(hy:Qt K ty ρ (QW k))(hd:VU kvs k=some d):Qt K (Rp (Zc i) ty) ρ d:=fun H0 F σ H Q S q=>by
 obtain⟨a,xs,e1,_⟩:=S.dctz e
 refine⟨_,e1,hy H0 F σ H _ S fun F1 H1 y x1 r1=>?_⟩
 obtain⟨a',xs',e1',f2,f3⟩:=(S.ext x1).dctz e
 rw[e1]at e1';cases e1'
 obtain⟨b,rfl,hb⟩:=W2 r1
 rcases f3.val k with ⟨_,z⟩|⟨x,d',z1,z2,z3⟩
 ·rw[hd]at z;cases z
 ·rw[hd]at z2
  cases z2
  exact⟨a,x,rfl,z1▸V6.t (x1.fh _ _ f2) (x1.fh _ _ hb),q F1 H1 x x1 z3⟩
theorem LV {kvs:ZO}(hy:Qt K ty ρ (QW k))(e:ρ[i]?=some (some (.zow (JO kvs)))):Qt K (Dd ty (Zc i)) ρ (.bool (VU kvs k).isSome):=fun H0 F σ H Q S q =>
 hy H0 F σ H _ S fun F1 H1 y x1 r1=>by
  obtain⟨a,xs,e1,f2,f3⟩:=(S.ext x1).dctz e
  obtain⟨b,rfl,hb⟩:=W2 r1
  exact⟨_,e1,a,_,rfl,V6.t (x1.fh _ _ f2) (x1.fh _ _ hb),q F1 H1 _ x1 (by rw[Kv f3];exact .bl _)⟩
end
end
def Zt (K:W.Frag)(R:List OT->(OT->Prop)->Prop):Sp:=fun vs H Q _=>∃F ts Φ,KTs K F/\QC F H/\Args K F vs ts/\R ts Φ/\∀F' H' v p r,Φ r->QA F H F' H'->(∀a∈p,H a=none)->Zz K F' H' v r p->Q v H'
def VG (K:W.Frag)(t:TA)(ρ:QG)(Φ:List OT->Prop):Prop := ∀(H0 F:Hp) (σ:St) (H:Hp) (Q:List V->Hp->Prop),QT K H0 F ρ σ H->(∀F' H' vs ts,Φ ts->QA F H F' H'->Args K F' vs ts->Q vs H')->t σ H Q
section
variable {K:W.Frag}{ρ:QG}{D:PEnds}
theorem Vh {R:List OT->(OT->Prop)->Prop}{t:TA}{E:XK}{ts:List OT}{Φ:OT->Prop}(h:ZE K t ρ ts)(hR:R ts Φ):Zy K (Yo (Zt K R) [] E t) ρ Φ:=fun H0 F σ H Q S q =>
 h H0 F σ H _ S fun F1 H1 vs x1 r1=>⟨F1,ts,Φ,(S.ext x1).kt,x1.fh,by rw[XV];exact r1,hR,fun F2 H2 v p r hr x2 hp ok=>q F2 H2 v p r hr (x1.trans x2) (fun a ha=>x1.hh.free (hp a ha)) ok⟩
theorem WL {t:TA}{ts:List OT}{Φ:List OT->Prop}(h:ZE K t ρ ts)(hp:Φ ts):VG K t ρ Φ:=fun H0 F σ H Q S q=>h H0 F σ H Q S fun F' H' vs x r=>q F' H' vs ts hp x r
theorem Ca {ta:TE}{Φ:OT->Prop}{Φ':List OT->Prop}(h:Zy K ta ρ Φ)(hi:∀r,Φ r->∃ds,r=.ol ds/\Φ' [.fz (.list ds)]):VG K (QZ ta Zm) ρ Φ':=fun H0 F σ H Q S q =>
 h H0 F σ H _ S fun F1 H1 v p r hr x hp ok=>by
  obtain⟨ds,rfl,hp'⟩:=hi r hr
  obtain⟨a,rfl,rfl,r1,xs,r2,r3⟩:=ok
  exact q (upd F1 a (.lst xs)) H1 [.ref a] _ hp' (x.freeze r1 r2 (hp a Xd)) (.fz (.lst QR (r3.mono (QC.new r1))) .nil)
theorem Pj {R:List OT->OT->Prop}{t:TA}{E:XK}{ΦA:List OT->Prop}{Φ:OT->Prop}(h:VG K t ρ ΦA)(hR:∀ts,ΦA ts->∃r,R ts r/\Φ r):Zy K (Yo (Q7 (K:=K) R) [] E t) ρ Φ:=fun H0 F σ H Q S q =>
 h H0 F σ H _ S fun F1 H1 vs ts ht x1 r1=>by
  obtain⟨r,h1,h2⟩:=hR ts ht
  exact⟨F1,ts,r,(S.ext x1).kt,x1.fh,by rw[XV];exact r1,h1,fun F2 H2 v p x2 hp ok=>q F2 H2 v p r h2 (x1.trans x2) (fun a ha=>x1.hh.free (hp a ha)) ok⟩
section
variable {P:Program}{w:World}{C:Addr}{N:Qz}{i:Nat}{m:Str}
def NoF (m:Str):Prop := ∀e r l d:Addr,([("ends",V.ref e),("rooms",V.ref r),("leaving",V.ref l),("laid",V.ref d)]:List (Str×V)).lookup m=none
theorem HX {R:List OT->(OT->Prop)->Prop}{t:TA}{E:XK}{ts:List OT}{Φ:OT->Prop}(hm:NoF m)(e:ρ[i]?=some (some (.zow (ZR P w C N))))(h:ZE K t ρ ts)(hR:R (.zow (ZR P w C N)::ts) Φ) :
 Zy K (UE C m (Zt K R) [] E (Zc i) t) ρ Φ:=fun H0 F σ H Q S q=>by
 obtain⟨a,dx,el,r,l,d,xs,ys,e1,ok⟩:=S.netz e
 refine⟨_,e1,a,dx,_,rfl,S.sub _ _ ok.ins,hm _ _ _ _,h H0 F σ H _ S fun F1 H1 vs x1 r1=>?_⟩
 refine⟨F1,_,Φ,(S.ext x1).kt,x1.fh,.zow (Ψ:=ZR P w C N) ⟨a,dx,el,r,l,d,xs,ys,rfl,ok.mono x1.ff⟩ (by rw[XV];exact r1),hR,fun F2 H2 v p r' hr x2 hp ok'=>q F2 H2 v p r' hr (x1.trans x2) (fun b hb=>x1.hh.free (hp b hb)) ok'⟩
theorem Ej {R:List OT->(OT->Prop)->Prop}{ta:TE}{t:TA}{E:XK}{ts:List OT}{Φ1 Φ:OT->Prop}(hm:NoF m)(h1:Zy K ta ρ Φ1)(hz:∀r,Φ1 r->∃v N,r=.own v (Zi P w C N)/\∃Φ2,R (.zow (ZR P w C N)::ts) Φ2/\∀r,Φ2 r->Φ r)
 (h:ZE K t ρ ts):Zy K (UE C m (Zt K R) [] E ta t) ρ Φ:=fun H0 F σ H Q S q =>
 h1 H0 F σ H _ S fun F1 H1 v p r hr x1 hp ok=>by
  obtain⟨v0,N,rfl,Φ2,hR,hi⟩:=hz r hr
  obtain⟨rfl,ok⟩:=ok
  have th:=fun a ha=>(Zi P w C N).there ok a ha
  have sm:QC F1 (frF F1 H1 p):=J0 fun a ha=>(th a ha).1
  have x1':QA F H (frF F1 H1 p) H1:=⟨x1.hh,x1.ff.trans sm,UP x1.fh,fun a ha=>by
   by_cases z:a∈p
   ·exact .inr (hp a z)
   ·rw[Y1 z]at ha;exact x1.fr a ha⟩
  obtain⟨a,dx,el,r,l,d,xs,ys,as,rfl,rfl,o⟩:=ok
  refine⟨a,dx,_,rfl,o.ins.2,hm _ _ _ _,h H0 _ σ H1 _ (S.ext x1') fun F2 H2 vs x2 r2=>?_⟩
  have z:=o.fz sm (fun b hb=>UJ hb)
  exact⟨F2,_,Φ2,(S.ext (x1'.trans x2)).kt,x2.fh,.zow (Ψ:=ZR P w C N) ⟨a,dx,el,r,l,d,xs,ys,rfl,z.mono x2.ff⟩ (by rw[XV];exact r2),hR,fun F3 H3 v p' r' hr' x3 hp' ok'=>q F3 H3 v p' r' (hi r' hr') ((x1'.trans x2).trans x3) (fun b hb=>(x1'.trans x2).hh.free (hp' b hb)) ok'⟩
structure ExtN (p:Qg)(F H F' H':Hp):Prop where
 hh:∀b o,b∉p->H b=some o->H' b=some o
 ff:QC F F'
 fh:QC F' H'
 fr:∀b,F' b≠none->F b≠none\/H b=none\/b∈p
def spN (K:W.Frag)(P:Program)(w:World)(C:Addr)(R:Qz->List OT->(Qz->Prop)->Prop):Sp:=fun vs H Q _=>∃F a vs' p ts N Ψ,vs=.ref a::vs'/\KTs K F/\QC F H/\Args K F vs' ts/\(Zi P w C N).ok K F H (.ref a) p/\R N ts Ψ /\
 ∀F' H' p' N',Ψ N'->ExtN p F H F' H'->(Zi P w C N').ok K F' H' (.ref a) p'->(∀b∈p',b∈p\/H b=none)->Q .non H'
theorem Zx.move {F F' H H':Hp}(s:QC F F'):∀{as:Qg} {dss:List (Qd)},(∀a∈as,F' a=none)->(∀a∈as,H' a=H a)->Zx F H as dss->Zx F' H' as dss
 |[],[],_,_,_=>trivial
 |a::as,_::_,hF,hH,o=>by
   obtain⟨⟨h1,xs,h2,h3⟩,o2⟩:=o
   exact⟨⟨hF a Xd,xs,by rw[hH a Xd];exact h2,h3.mono s⟩,Zx.move s (fun b hb=>hF b (Xe _ hb)) (fun b hb=>hH b (Xe _ hb)) o2⟩
 |[],_::_,_,_,h=>False.elim h
 |_::_,[],_,_,h=>False.elim h
theorem Zz.move {F F' H H':Hp}{v:V}{t:OT}{p:Qg}(s:QC F F')(hF:∀a∈p,F' a=none)(hH:∀a∈p,H' a=H a)(h:Zz K F H v t p):Zz K F' H' v t p:=by
 cases t with
 |fz d=>exact⟨h.1,h.2.mono s⟩
 |zow Ψ=>exact⟨h.1,Ψ.mono s h.2⟩
 |ol ds =>
   obtain⟨a,rfl,rfl,h1,xs,h2,h3⟩:=h
   exact⟨a,rfl,rfl,hF a Xd,xs,by rw[hH a Xd];exact h2,h3.mono s⟩
 |oll dss =>
   obtain⟨a,as,rfl,rfl,h1,h2,h3,h4⟩:=h
   exact⟨a,as,rfl,rfl,h1,hF a Xd,by rw[hH a Xd];exact h3,h4.move s (fun b hb=>hF b (Xe _ hb)) fun b hb=>hH b (Xe _ hb)⟩
 |scr ns=>obtain⟨h1,a,h2,h3⟩:=h;exact⟨h1,a,h2,h3.mono s⟩
 |own v0 Φ=>exact⟨h.1,Φ.mono s hF hH h.2⟩
theorem Pt {F0 H0 F H:Hp}{σ:St}{E:Ends}{v:V}{Ψ:Qz->Prop}(S:QT K H0 F ρ σ H)(x:QA F0 H0 F H)(e:ρ[i]?=some (some (.own v (Zi P w C N))))(hn:∀N',Ψ N'->D.nx (ρ.set i (some (.own v (Zi P w C N')))))(C':Cnv K F0 H0 D E) :
 ∃a p,v=.ref a/\(Zi P w C N).ok K F H (.ref a) p/\∀F' H' p' N',Ψ N'->ExtN p F H F' H'->(Zi P w C N').ok K F' H' (.ref a) p'->(∀b∈p',b∈p\/H b=none)->E.nx σ H':=by
 obtain⟨kt,h1,h2,fp,h3,h4,h5⟩:=S
 obtain⟨u,e1,rfl,ok⟩:=h3 i _ e
 obtain⟨a,_,_,_,_,_,_,_,_,rfl,_⟩:=id ok
 have hlt:=(Xh.mp e).1
 refine⟨a,fp i,rfl,ok,fun F' H' p' N' hN xn ok' sub=>?_⟩
 have out:∀j,j≠i->∀b∈fp j,b∉fp i:=fun j hj b hb z=>hj (h4 j i b hb z)
 have hH:∀j,j≠i->∀b∈fp j,H' b=H b:=fun j hj b hb=>by
  obtain⟨o,ho⟩:=Hw (h5 j b hb).2
  rw[xn.hh b o (out j hj b hb) ho,ho]
 refine C'.nx F' σ H' _ ⟨fun b o hb=>xn.hh b o (fun z=>by rw[(h5 i b z).1]at hb;cases hb) (x.hh b o hb),x.ff.trans xn.ff,xn.fh,fun b hb=>?_⟩ ⟨kt.mono xn.ff,xn.fh,by simp[h2],fun j=>if j=i then p' else fp j,fun j t' e'=>?_,fun j k b hb hc=>?_,fun j b hb=>?_⟩ (hn N' hN)
 ·rcases xn.fr b hb with z|z|z
  ·exact x.fr b z
  ·exact .inr (x.hh.free z)
  ·exact .inr (h5 i b z).1
 ·by_cases hj:j=i
  ·subst hj
   rw[XU hlt]at e';cases e'
   refine⟨_,e1,rfl,?_⟩
   simp only[if_true];exact ok'
  ·rw[X0 (Ne.symm hj)]at e'
   obtain⟨u',f1,f2⟩:=h3 j t' e'
   refine⟨u',f1,?_⟩
   simp only[Xb hj];refine f2.move xn.ff (fun b hb=>?_) (hH j hj)
   cases z:F' b with
   |none=>rfl
   |some o =>
     rcases xn.fr b (Yc z) with y|y|y
     ·exact Xl (f2.there b hb).1 y
     ·exact Xl y (h5 j b hb).2
     ·exact Xl y (out j hj b hb)
 ·by_cases hj:j=i
  ·by_cases hk:k=i
   ·omega
   ·simp only[Xc hj]at hb
    simp only[Xb hk]at hc;rcases sub b hb with z|z
    ·exact Xl (h4 k i b hc z) hk
    ·exact Xl z (h5 k b hc).2
  ·simp only[Xb hj]at hb
   by_cases hk:k=i
   ·simp only[Xc hk]at hc
    rcases sub b hc with z|z
    ·exact Xl (h4 j i b hb z) hj
    ·exact Xl z (h5 j b hb).2
   ·simp only[Xb hk]at hc
    exact h4 j k b hb hc
 ·by_cases hj:j=i
  ·simp only[Xc hj]at hb
   refine⟨?_,((Zi P w C N').there ok' b hb).2⟩
   rcases sub b hb with z|z
   ·exact(h5 i b z).1
   ·exact x.hh.free z
  ·simp only[Xb hj]at hb
   exact⟨(h5 j b hb).1,by rw[hH j hj b hb];exact(h5 j b hb).2⟩
theorem J3 {R:Qz->List OT->(Qz->Prop)->Prop}{t:TA}{E':XK}{v:V}{ΦA:List OT->Prop}(hm:NoF m)(e:ρ[i]?=some (some (.own v (Zi P w C N))))(hA:VG K t ρ ΦA)
 (hR:∀ts,ΦA ts->∃Ψ,R N ts Ψ/\∀N',Ψ N'->D.nx (ρ.set i (some (.own v (Zi P w C N'))))):Q3 K (Wa (UE C m (spN K P w C R) [] E' (Zc i) t)) ρ D:=fun F0 H0 F σ H E x S C'=>by
 obtain⟨a,dx,el,r,l,d,xs,ys,as,rfl,e1,ok,_⟩:=S.net e
 refine⟨_,e1,a,dx,_,rfl,ok.ins.2,hm _ _ _ _,hA H0 F σ H _ S fun F1 H1 vs ts ht x1 r1=>?_⟩
 obtain⟨Ψ,hR',hn⟩:=hR ts ht
 obtain⟨a',p,ea,okp,fin⟩:=Pt (S.ext x1) (x.trans x1) e hn C'
 cases ea
 exact⟨F1,a,vs++[],p,ts,N,Ψ,rfl,(S.ext x1).kt,x1.fh,by rw[XV];exact r1,okp,hR',fin⟩
theorem Pa {R:Qz->List OT->(Qz->Prop)->Prop}{t:TA}{E':XK}{v:V}{ΦA:List OT->Prop}(e:ρ[i]?=some (some (.own v (Zi P w C N))))(hA:VG K t ρ ΦA)
 (hR:∀ts,ΦA ts->∃Ψ,R N ts Ψ/\∀N',Ψ N'->D.nx (ρ.set i (some (.own v (Zi P w C N'))))):Q3 K (Wa (Yo (spN K P w C R) [] E' (QZ (Zc i) t))) ρ D:=fun F0 H0 F σ H E x S C'=>by
 obtain⟨a,dx,el,r,l,d,xs,ys,as,rfl,e1,ok,_⟩:=S.net e
 refine⟨_,e1,hA H0 F σ H _ S fun F1 H1 vs ts ht x1 r1=>?_⟩
 obtain⟨Ψ,hR',hn⟩:=hR ts ht
 obtain⟨a',p,ea,okp,fin⟩:=Pt (S.ext x1) (x.trans x1) e hn C'
 cases ea
 exact⟨F1,a,vs++[],p,ts,N,Ψ,rfl,(S.ext x1).kt,x1.fh,by rw[XV];exact r1,okp,hR',fin⟩
def spI (P:Program)(w:World)(C:Addr):Sp:=fun vs H Q _=>∃x dx,vs=[.ref x]/\H x=some (.ins C dx [])/\∀e r l d H',H e=none->H r=none->H l=none->H d=none->[x,e,r,l,d].Nodup ->
 H' x=some (.ins C dx [("ends",.ref e),("rooms",.ref r),("leaving",.ref l),("laid",.ref d)])->H' e=some (.lst [])->H' r=some (.lst [])->H' l=some (.dT [])->H' d=some (pdO P w d [])->(∀b,b∉[x,e,r,l,d]->H' b=H b)->Q .non H'
theorem C9 {E:XK}:EvX K (Dw C (spI P w C) [] E Zm) ρ (Zi P w C ⟨[],[],[],[]⟩):=fun H0 F σ H Q S q=>fun x dx hx hdx ne=>by
 refine⟨x,dx,rfl,QR,fun e r l d H' he hr hl hd nd h1 h2 h3 h4 h5 ho=>⟨rfl,?_⟩⟩
 have un:∀{b:Addr},upd (upd H dx (.own x)) x (.ins C dx []) b=none->H b=none/\b≠x/\b≠dx:=fun{b} hb=>by
  have n1:b≠x:=fun z=>by rw[z,QR]at hb;cases hb
  rw[Qx n1]at hb;have n2:b≠dx:=fun z=>by rw[z,QR]at hb;cases hb
  rw[Qx n2]at hb;exact⟨hb,n1,n2⟩
 obtain⟨e1,e2,e3⟩:=un he
 obtain⟨r1,r2,r3⟩:=un hr
 obtain⟨l1,l2,l3⟩:=un hl
 obtain⟨d1,d2,d3⟩:=un hd
 have hdx':H' dx=some (.own x):=by
  rw[ho dx (by simp only[Xg,Yr,or_false,not_or];exact⟨ne,Ne.symm e3,Ne.symm r3,Ne.symm l3,Ne.symm d3⟩),Qx ne,QR]
 have kp:∀b o,H b=some o->H' b=some o:=fun b o hb=>by
  have nb:∀{c:Addr},H c=none->b≠c:=fun hc z=>by rw[z,hc]at hb;cases hb
  rw[ho b (by simp only[Xg,Yr,or_false,not_or];exact⟨nb hx,nb e1,nb r1,nb l1,nb d1⟩),Qx (nb hx),Qx (nb hdx)];exact hb
 have fr:∀{b:Addr},H b=none->F b=none:=fun hb=>S.sub.free hb
 refine q F H' (.ref x) [x,dx,e,r,l,d] ⟨kp,QC.refl _,fun b o hb=>kp b o (S.sub b o hb),fun _ h=>.inl h⟩ (fun b hb=>?_) ⟨x,dx,e,r,l,d,[],[],[],rfl,rfl,?_,⟨fr hx,h1⟩,⟨fr hdx,hdx'⟩,⟨fr e1,[],h2,.nil⟩,⟨fr r1,[],h3,.nil⟩,⟨fr l1,h4,.nil⟩,⟨fr d1,h5,.nil⟩⟩
 ·simp only[Xg,Yr,or_false]at hb
  rcases hb with rfl|rfl|rfl|rfl|rfl|rfl
  ·exact hx
  ·exact hdx
  ·exact e1
  ·exact r1
  ·exact l1
  ·exact d1
 ·simp only[X3,Xg,Yr,or_false,not_or,not_false_eq_true,Gg,and_true]at nd ⊢
  obtain⟨⟨a1,a2,a3,a4⟩,b1,c1,f1⟩:=nd
  exact⟨⟨Ne.symm ne,a1,a2,a3,a4⟩,⟨Ne.symm e3,Ne.symm r3,Ne.symm l3,Ne.symm d3⟩,b1,c1,f1⟩
end
end
section
variable {P:Program}{w:World}{K:W.Frag}{mg:Str->Qf}{base:Heap}
theorem Fun.evD {x qual:Str}{st:Stmt}{f:Addr}{fd:FuncData}{N ps:Qh}{k:Nat}{R:List OT->(OT->Prop)->Prop}(F:Fun K x qual st f fd)(S:Qp N ps (Q1 st))(len:∀ts Φ,R ts Φ->ts.length=ps.length)
 (Xbt:∀(cdv:Value) (A:Around) (outer:List Env) (s:Shared) (H:Hp) (E:XK) (ts:List OT) (Φ:OT->Prop),Room k (A.deeper (envOfC qual (Q1 st) s.heap.objs.size f cdv))->R ts Φ ->
  ∃t,PSs (VM CX0 P w K mg base N qual (Q1 st) f cdv A outer s H E).nox (Z3 st) t/\Q3 K t (ts.map some++List.replicate (N.length-ts.length) none) { nx:=fun _=>Φ (.fz .none),rt:=Φ }):FnOk P w K mg base CX0 (k+1) f fd ps (Zt K R):=by
 refine F.ok S (fun vs H Q E ⟨F,ts,Φ,_,_,ha,hR,_⟩=>ha.length.trans (len ts Φ hR)) fun cdv A outer s H vs Q E hr ⟨F,ts,Φ,kt,sm,ha,hR,q⟩=>?_
 obtain⟨t,h1,h2⟩:=Xbt cdv A outer s H E ts Φ hr hR
 refine⟨t,h1,h2 F H F (start N vs) H _ (QA.refl sm) ⟨kt,sm,?_,fun _=>[],fun i t' e=>?_,fun i j a h=>(nomatch h),fun i a h=>(nomatch h)⟩ ⟨fun F' σ' H' ρ' x' _ e=>?_,fun F' H' v r' p x' hp ok e=>q F' H' v p r' e x' hp ok,fun _ _ _ _ _ _ z=>False.elim z,fun _ _ _ _ _ _ z=>False.elim z⟩⟩
 ·unfold start
  simp[ha.length]
 ·have hlt:i<ts.length:=by
   by_cases z:i<ts.length
   ·exact z
   ·rw[Ut (by simpa using z)]at e
    have:=List.mem_of_getElem? e
    simp at this
  rw[XX (by simpa using hlt),Xk]at e;have e':ts[i]?=some t':=by
   cases z:ts[i]? with
   |none=>rw[z]at e;simp at e
   |some w=>rw[z]at e;simp at e;rw[e]
  obtain⟨v,e1,e2⟩:=ha.get (H:=H) i t' e'
  refine⟨v,?_,e2⟩
  unfold start;have hl2:i<vs.length:=by rw[ha.length];exact hlt
  rw[XX (by simpa using hl2),Xk,e1];rfl
 ·exact q F' H' _ [] _ e x' (fun _ z=>nomatch z) ⟨rfl,.non⟩
theorem Fun.evN {C:Addr}{x qual:Str}{st:Stmt}{f:Addr}{fd:FuncData}{N ps:Qh}{k:Nat}{R:Qz->List OT->(Qz->Prop)->Prop}(F:Fun K x qual st f fd)(S:Qp N ps (Q1 st))(len:∀M ts Ψ,R M ts Ψ->ts.length+1=ps.length)
 (Xbt:∀(cdv:Value) (A:Around) (outer:List Env) (s:Shared) (H:Hp) (E:XK) (v:V) (M:Qz) (ts:List OT) (Ψ:Qz->Prop),Room k (A.deeper (envOfC qual (Q1 st) s.heap.objs.size f cdv))->R M ts Ψ ->
  ∃t,PSs (VM CX0 P w K mg base N qual (Q1 st) f cdv A outer s H E).nox (Z3 st) t/\Q3 K t (some (.own v (Zi P w C M))::(ts.map some++List.replicate (N.length-(ts.length+1)) none)) { nx:=fun ρ'=>∃M',Ψ M'/\ρ'[0]?=some (some (.own v (Zi P w C M'))),rt:=fun _=>False }) :
 FnOk P w K mg base CX0 (k+1) f fd ps (spN K P w C R):=by
 refine F.ok S (fun vs H Q E ⟨F,a,vs',p,ts,M,Ψ,e,_,_,ha,_,hR,_⟩=>by rw[e,XJ,ha.length];exact len _ _ _ hR) fun cdv A outer s H vs Q E hr ⟨F,a,vs',p,ts,M,Ψ,e,kt,sm,ha,ok,hR,q⟩=>?_
 subst e;obtain⟨t,h1,h2⟩:=Xbt cdv A outer s H E (.ref a) M ts Ψ hr hR
 have h0:∀b,(fun b=>if b∈p then none else H b:Hp) b=none->b∈p\/H b=none:=fun b hb=>by
  by_cases z:b∈p
  ·exact .inl z
  ·simp only[Xb z]at hb;exact .inr hb
 have th:=fun b hb=>(Zi P w C M).there ok b hb
 refine⟨t,h1,h2 F (fun b=>if b∈p then none else H b) F (start N (.ref a::vs')) H _ ⟨fun b o hb=>?_,QC.refl _,sm,fun _ h=>.inl h⟩ ⟨kt,sm,?_,fun j=>if j=0 then p else [],fun j t' e=>?_,fun j k' b hb hc=>?_,fun j b hb=>?_⟩
  ⟨fun F' σ' H' ρ' x' S' ⟨M',hM,e0⟩=>?_,fun F' H' v r' p x' hp ok e=>False.elim e,fun _ _ _ _ _ _ z=>False.elim z,fun _ _ _ _ _ _ z=>False.elim z⟩⟩
 ·by_cases z:b∈p
  ·simp[z]at hb
  ·simp only[Xb z]at hb;exact hb
 ·unfold start
  simp[ha.length]
 ·cases j with
  |zero =>
    simp at e
    subst e;refine⟨.ref a,?_,rfl,?_⟩
    ·unfold start
     simp
    ·simp only[if_true]
     exact ok
  |succ i =>
    rw[MO]at e;have hlt:i<ts.length:=by
     by_cases z:i<ts.length
     ·exact z
     ·rw[Ut (by simpa using z)]at e
      have:=List.mem_of_getElem? e
      simp at this
    rw[XX (by simpa using hlt),Xk]at e;have e':ts[i]?=some t':=by
     cases z:ts[i]? with
     |none=>rw[z]at e;simp at e
     |some w=>rw[z]at e;simp at e;rw[e]
    obtain⟨v,e1,e2⟩:=ha.get (H:=H) i t' e'
    refine⟨v,?_,?_⟩
    ·unfold start
     have hl2:i<vs'.length:=by rw[ha.length];exact hlt
     rw[Xt,Uw,MO,XX (by simpa using hl2),Xk,e1];rfl
    ·simp only[Nat.add_one_ne_zero,if_false]
     exact e2
 ·by_cases hj:j=0
  ·by_cases hk:k'=0
   ·rw[hj,hk]
   ·simp[hk]at hc
  ·simp[hj]at hb
 ·by_cases hj:j=0
  ·simp only[Xc hj]at hb
   exact⟨by simp[hb],(th b hb).2⟩
  ·simp[hj]at hb
 ·obtain⟨fp,g1,g2,g3⟩:=S'.fp
  obtain⟨u,u1,rfl,ok'⟩:=g1 0 _ e0
  refine q F' H' (fp 0) M' hM ⟨fun b o nb hb=>x'.hh b o (by simp only[Xb nb];exact hb),x'.ff,x'.fh,fun b hb=>?_⟩ ok' (fun b hb=>h0 b (g3 0 b hb).1)
  rcases x'.fr b hb with z|z
  ·exact .inl z
  ·exact .inr ((h0 b z).symm)
structure Mf (K:W.Frag)(C:Addr)(m qual:Str)(st:Stmt)(ps:Qh):Prop where
 ex:∃f fd,Fun K m qual st f fd/\Meth K C m f/\VN K fd ps []
def Vw (P:Program)(w:World)(K:W.Frag)(mg:Str->Qf)(base:Heap)(C:Addr)(m:Str)(ps:Qh)(k:Nat)(sp:Sp):Prop :=
 ∃f fd,Meth K C m f/\VN K fd ps []/\FnOk P w K mg base CX0 k f fd ps sp
theorem Mf.evD {C:Addr}{m qual:Str}{st:Stmt}{N ps:Qh}{k:Nat}{R:List OT->(OT->Prop)->Prop}(D:Mf K C m qual st ps)(S:Qp N ps (Q1 st))(len:∀ts Φ,R ts Φ->ts.length=ps.length)
 (Xbt:∀(f:Addr) (cdv:Value) (A:Around) (outer:List Env) (s:Shared) (H:Hp) (E:XK) (ts:List OT) (Φ:OT->Prop),Room k (A.deeper (envOfC qual (Q1 st) s.heap.objs.size f cdv))->R ts Φ ->
  ∃t,PSs (VM CX0 P w K mg base N qual (Q1 st) f cdv A outer s H E).nox (Z3 st) t/\Q3 K t (ts.map some++List.replicate (N.length-ts.length) none) { nx:=fun _=>Φ (.fz .none),rt:=Φ }):Vw P w K mg base C m ps (k+1) (Zt K R):=by
 obtain⟨f,fd,F,hm,hb⟩:=D.ex
 exact⟨f,fd,hm,hb,F.evD S len fun cdv A outer s H E ts Φ=>Xbt f cdv A outer s H E ts Φ⟩
theorem Mf.evN {C:Addr}{m qual:Str}{st:Stmt}{N ps:Qh}{k:Nat}{R:Qz->List OT->(Qz->Prop)->Prop}(D:Mf K C m qual st ps)(S:Qp N ps (Q1 st))(len:∀M ts Ψ,R M ts Ψ->ts.length+1=ps.length)
 (Xbt:∀(f:Addr) (cdv:Value) (A:Around) (outer:List Env) (s:Shared) (H:Hp) (E:XK) (v:V) (M:Qz) (ts:List OT) (Ψ:Qz->Prop),Room k (A.deeper (envOfC qual (Q1 st) s.heap.objs.size f cdv))->R M ts Ψ ->
  ∃t,PSs (VM CX0 P w K mg base N qual (Q1 st) f cdv A outer s H E).nox (Z3 st) t/\Q3 K t (some (.own v (Zi P w C M))::(ts.map some++List.replicate (N.length-(ts.length+1)) none)) { nx:=fun ρ'=>∃M',Ψ M'/\ρ'[0]?=some (some (.own v (Zi P w C M'))),rt:=fun _=>False }) :
 Vw P w K mg base C m ps (k+1) (spN K P w C R):=by
 obtain⟨f,fd,F,hm,hb⟩:=D.ex
 exact⟨f,fd,hm,hb,F.evN S len fun cdv A outer s H E v M ts Ψ=>Xbt f cdv A outer s H E v M ts Ψ⟩
theorem Df.evD {x:Str}{st:Stmt}{N ps:Qh}{k:Nat}{R:List OT->(OT->Prop)->Prop}(D:Df K mg x st ps)(S:Qp N ps (Q1 st))(len:∀ts Φ,R ts Φ->ts.length=ps.length)
 (Xbt:∀(f:Addr) (cdv:Value) (A:Around) (outer:List Env) (s:Shared) (H:Hp) (E:XK) (ts:List OT) (Φ:OT->Prop),Room k (A.deeper (envOfC x (Q1 st) s.heap.objs.size f cdv))->R ts Φ ->
  ∃t,PSs (VM CX0 P w K mg base N x (Q1 st) f cdv A outer s H E).nox (Z3 st) t/\Q3 K t (ts.map some++List.replicate (N.length-ts.length) none) { nx:=fun _=>Φ (.fz .none),rt:=Φ }):Q0 P w K mg base x ps (k+1) (Zt K R):=by
 obtain⟨f,fd,F,hm,hb⟩:=D.ex
 exact⟨f,fd,hm,F.kp,hb,F.evD S len fun cdv A outer s H E ts Φ=>Xbt f cdv A outer s H E ts Φ⟩
theorem Df.evN {C:Addr}{x:Str}{st:Stmt}{N ps:Qh}{k:Nat}{R:Qz->List OT->(Qz->Prop)->Prop}(D:Df K mg x st ps)(S:Qp N ps (Q1 st))(len:∀M ts Ψ,R M ts Ψ->ts.length+1=ps.length)
 (Xbt:∀(f:Addr) (cdv:Value) (A:Around) (outer:List Env) (s:Shared) (H:Hp) (E:XK) (v:V) (M:Qz) (ts:List OT) (Ψ:Qz->Prop),Room k (A.deeper (envOfC x (Q1 st) s.heap.objs.size f cdv))->R M ts Ψ ->
  ∃t,PSs (VM CX0 P w K mg base N x (Q1 st) f cdv A outer s H E).nox (Z3 st) t/\Q3 K t (some (.own v (Zi P w C M))::(ts.map some++List.replicate (N.length-(ts.length+1)) none)) { nx:=fun ρ'=>∃M',Ψ M'/\ρ'[0]?=some (some (.own v (Zi P w C M'))),rt:=fun _=>False }) :
 Q0 P w K mg base x ps (k+1) (spN K P w C R):=by
 obtain⟨f,fd,F,hm,hb⟩:=D.ex
 exact⟨f,fd,hm,F.kp,hb,F.evN S len fun cdv A outer s H E v M ts Ψ=>Xbt f cdv A outer s H E v M ts Ψ⟩
def Dj (P:Program)(w:World)(K:W.Frag)(mg:Str->Qf)(base:Heap)(x:Str)(C:Addr)(k:Nat):Prop :=
 ∃f fd,Mk K C f/\mg x=some (.ref C)/\VN K fd ["self"] []/\FnOk P w K mg base CX0 k f fd ["self"] (spI P w C)
end
section
variable {X:Cx}
theorem Y2 {C:Addr}{m:Str}{pos apos:Pos}{o e:Expr}{es:Qi}{ta:TE}{t:TA}{ps:Qh}{j k:Nat}{sp:Sp}{pl:Sem Bool}(M:Vw X.prog X.w X.K X.mg X.base C m ps j sp)(c:NetC X.K C)(hr:Room k X.A)(he:PE X o ta)(ha:PA X (e::es) t)(hj:j<=k:=by walk_at"j")
 (hst:starEach (e::es) X.env=(false,eval e X.env)::starEach es X.env:=by rfl) (hpl:(backTo pos (starEach es X.env)).any (·.1)=false:=by rfl)
 (ht:eval (.Call (.Attribute o m apos) (e::es) [] pos) X.env=(do
  let ov <- eval o X.env
  standAt apos.atName
  let (f,first) <- holding [ov] (getMethod ov m pl)
  callWith pos f first (backTo pos (starEach (e::es) X.env)) (backToKw pos (keywordEach [] X.env))):=by rfl) :
 PE X (.Call (.Attribute o m apos) (e::es) [] pos) (UE C m sp [] E0 ta t):=by
 obtain⟨f,fd,hm,hb,F⟩:=M
 exact CZ (pl:=pl) he c.cl hm F (hr.mono hj) hb .nil B0 ha hst hpl ht
theorem CO {C:Addr} {x:Str} {p pos:Pos} {j k:Nat} (M:Dj X.prog X.w X.K X.mg X.base x C j) (hr:Room k X.A) (hj:j+1<=k:=by walk_at"j") (hg:Gl X x:=by rfl) (hdb:(x==("__debug__" : Str))=false:=by decide +kernel) :
 PE X (.Call (.Name x p) [] [] pos) (Dw C (spI X.prog X.w C) [] E0 Zm):=by
 obtain⟨f,fd,M,hm,hb,F⟩:=M
 exact Ie M F (hr.mono hj) hg hm hb .nil B0 hdb
end
end L2
end
section
namespace Mir
open PySem L2
def nk:Nd->List Key
 |.start=>[.inr "start"]
 |.fin=>[.inr "end"]
 |.guest k=>[.inr "guest",.inl (k:Int)]
 |.line l t=>[.inr "line",.inl (l:Int),.inl (t:Int)]
theorem JZ:∀{a b:Nd},nk a=nk b->a=b
 |.start,.start,_=>rfl
 |.fin,.fin,_=>rfl
 |.start,.fin,h=>Xl h (by decide)
 |.fin,.start,h=>Xl h (by decide)
 |.guest a,.guest b,h=>by
   injection h with _ h
   injection h with h _
   injection h with h
   have:a=b:=by omega
   rw[this]
 |.line a b,.line c d,h=>by
   injection h with _ h
   injection h with h1 h
   injection h with h2 _
   injection h1 with h1
   injection h2 with h2
   have e1:a=c:=by omega
   have e2:b=d:=by omega
   rw[e1,e2]
 |.start,.guest _,h=>by have q:=ZD List.length h;simp[nk]at q
 |.start,.line _ _,h=>by have q:=ZD List.length h;simp[nk]at q
 |.fin,.guest _,h=>by have q:=ZD List.length h;simp[nk]at q
 |.fin,.line _ _,h=>by have q:=ZD List.length h;simp[nk]at q
 |.guest _,.start,h=>by have q:=ZD List.length h;simp[nk]at q
 |.guest _,.fin,h=>by have q:=ZD List.length h;simp[nk]at q
 |.guest _,.line _ _,h=>by have q:=ZD List.length h;simp[nk]at q
 |.line _ _,.start,h=>by have q:=ZD List.length h;simp[nk]at q
 |.line _ _,.fin,h=>by have q:=ZD List.length h;simp[nk]at q
 |.line _ _,.guest _,h=>by have q:=ZD List.length h;simp[nk]at q
theorem FL {a b:Nd}:nk a=nk b↔a=b:=⟨JZ,fun h=>by rw[h]⟩
def U4:Option Nat->PyData
 |none=>.none
 |some e=>.int (e:Int)
def kvG (es:Got Nd):ZO:=es.map fun x=>(nk x.1,U4 x.2)
theorem HD (n:Nd):∀es:Got Nd,VU (kvG es) (nk n)=(Jo es n).map U4
 |[]=>rfl
 |(k,v)::es=>by
   have ih:=HD n es
   unfold Jo at ih ⊢;rw[XM];unfold kvG VU at ih ⊢;rw[Xt,XA];by_cases e:k=n
   ·subst e
    simp
   ·have e1:¬nk k=nk n:=fun z=>e (JZ z)
    have e2:(n==k)=false:=by rw[beq_eq_false_iff_ne];exact fun z=>e z.symm
    rw[e2];simp only[e1,decide_false];exact ih
theorem Zkv {es:Got Nd}{n:Nd}:(es.lookup n).isSome=decide (n∈QX es):=by
 induction es with
 |nil=>rfl
 |cons p es ih =>
   obtain⟨k,v⟩:=p
   rw[XM];by_cases e:n=k
   ·subst e
    simp[QX]
   ·have e2:(n==k)=false:=by rw[beq_eq_false_iff_ne];exact e
    rw[e2];have:decide (n∈QX ((k,v)::es))=decide (n∈QX es):=by
     apply decide_eq_decide.mpr
     unfold QX;rw[Xt,Xg];exact⟨fun z=>z.resolve_left e,.inr⟩
    rw[this];exact ih
theorem G3 (n:Nd)(es:Got Nd):(VU (kvG es) (nk n)).isSome=decide (n∈QX es):=by
 rw[HD,J8];exact Zkv
theorem Ef (es:Got Nd):DN (kvG es):=fun x hx=>by
 obtain⟨y,_,rfl⟩:=Xw.mp hx
 cases h:y.2 with
 |none=>exact⟨.non,by simp[h,U4,Yg]⟩
 |some e=>exact⟨.int (e:Int),by simp[h,U4,Yg]⟩
theorem EB {es:Got Nd}{n:Nd}{e:Nat}(h:n∉QX es):U3 (kvG es) (nk n) (.int (e:Int))=kvG (es++[(n,some e)]):=by
 unfold U3;have:¬((kvG es).any fun kv=>decide (kv.1=nk n))=true:=fun z=>by
  obtain⟨x,hx,hz⟩:=List.any_eq_true.mp z
  obtain⟨y,hy,rfl⟩:=Xw.mp hx
  have q:y.1=n:=JZ (Xz hz)
  exact h (by rw[<- q];exact Xw.mpr ⟨y,hy,rfl⟩)
 rw[Xb this];unfold kvG;rw[Xy];rfl
structure NetR (N:Qz)(L:Lay Nd)(φ:QU Nd):Prop where
 ends:N.ends=(Wt L).map nk
 rooms:N.rooms=V1 L φ
 leav:∀(n:Nd) (e:Int),e∈(QQ N.leav (nk n)).getD [] ↔ ∃j:Nat,e=(j:Int)/\tlE L j=some n
 laid:∀(i:Nat) (x:Nd×Nd×Int),L[i]?=some x->ZK N.laid (nk x.1,nk x.2.1)=some ((2*i:Nat):Int)
 laid0:∀p q:Nd,(p,q)∉L.map (fun x=>(x.1,x.2.1))->ZK N.laid (nk p,nk q)=none
 l1:N.leav.length<=2*L.length
 l2:N.laid.length<=L.length
 l3:∀k ns,QQ N.leav k=some ns->ns.length<=2*L.length
theorem Fg (φ:QU Nd):NetR ⟨[],[],[],[]⟩ [] φ where
 ends:=rfl
 rooms:=rfl
 leav n e:=by
  constructor
  ·intro h;simp[QQ]at h
  ·rintro⟨j,_,h⟩;simp[tlE]at h
 laid i x h:=by simp at h
 laid0 p q _:=rfl
 l1:=Vl _
 l2:=Vl _
 l3 k ns h:=by simp[QQ]at h
theorem W5 {k k':List Key}{ns:Ql}{ls:List (List Key×Ql)}:QQ ((k',ns)::ls) k=if k'=k then some ns else QQ ls k:=by
 by_cases e:k'=k
 ·simp[QQ,XA,e]
 ·simp[QQ,XA,e]
theorem SR (k k':List Key)(x:Int):∀ls:List (List Key×Ql),QQ (VJ ls k x) k'=if k'=k then (QQ ls k).map (· ++ [x]) else QQ ls k'
 |[]=>by
   unfold VJ;by_cases e:k'=k
   ·rw[Xc e];simp[QQ]
   ·rw[Xb e]
 |(j,ns)::ls=>by
   unfold VJ;have ih:=SR k k' x ls
   by_cases e:j=k
   ·rw[Xc e,W5,W5,W5,Xc e]
    by_cases e2:k'=k
    ·rw[Xc e2,Xc (e.trans e2.symm)];rfl
    ·rw[Xb e2,Xb (fun z=>e2 (z.symm.trans e)),Xb (fun z=>e2 (z.symm.trans e))]
   ·rw[Xb e,W5,W5,W5,Xb e,ih]
    by_cases e2:k'=k
    ·rw[Xc e2,Xb (fun z=>e (z.trans e2)),Xc e2]
    ·rw[Xb e2,Xb e2]
theorem Mh (k:List Key)(x:Int):∀ls:List (List Key×Ql),(VJ ls k x).length=ls.length
 |[]=>rfl
 |(j,ns)::ls=>by
   unfold VJ;split
   ·simp
   ·simp[Mh k x ls]
theorem T7 (k k':List Key):∀ls:List (List Key×Ql),QQ ls k=none->QQ (ls++[(k,[])]) k'=if k'=k then some [] else QQ ls k'
 |[],_=>by
   rw[List.nil_append,W5];by_cases e:k'=k
   ·rw[Xc e,Xc e.symm]
   ·rw[Xb e,Xb (fun z=>e z.symm)]
 |(j,ns)::ls,h=>by
   rw[W5]at h;by_cases e:j=k
   ·rw[Xc e]at h;cases h
   ·rw[Xb e]at h
    rw[Uw,W5,W5,T7 k k' ls h];by_cases e2:k'=k
    ·rw[Xc e2,Xb (fun z=>e (z.trans e2)),Xc e2]
    ·rw[Xb e2,Xb e2]
theorem HP (ls:List (List Key×Ql))(k k':List Key):QQ (VH ls k) k'=if k'=k then some ((QQ ls k).getD []) else QQ ls k':=by
 unfold VH;cases h:QQ ls k with
 |some ns =>
   rw[Xc (by rfl)];by_cases e:k'=k
   ·rw[Xc e,e,h];rfl
   ·rw[Xb e]
 |none =>
   rw[Xb (by simp),T7 k k' ls h];rfl
theorem Hh (ls:List (List Key×Ql))(k:List Key):(VH ls k).length<=ls.length+1:=by
 unfold VH;split
 ·omega
 ·simp
def U9 (N:Qz)(s e:List Key)(r:Int):Qz:={ N with ends:=N.ends++[e],rooms:=N.rooms++[r],leav:=VJ (VH N.leav s) s (N.ends.length:Int) }
def JL (N:Qz)(s e:List Key)(r:Int):Qz:=U9 (U9 { N with laid:=Yu N.laid (s,e) (N.ends.length:Int) } s e r) e s 0
theorem UV (N:Qz)(s e:List Key)(r:Int)(k:List Key):QQ (U9 N s e r).leav k=if k=s then some ((QQ N.leav s).getD []++[(N.ends.length:Int)]) else QQ N.leav k:=by
 show QQ (VJ (VH N.leav s) s _) k=_
 rw[SR,HP,Xc rfl,HP];by_cases e:k=s
 ·rw[Xc e,Xc e];rfl
 ·rw[Xb e,Xb e,Xb e]
theorem W7 {k k':KK}{n:Int}{ls:List (KK×Int)}:ZK ((k',n)::ls) k=if k'=k then some n else ZK ls k:=by
 by_cases e:k'=k
 ·simp[ZK,XA,e]
 ·simp[ZK,XA,e]
theorem P0 (k k':KK)(n:Int):∀ls:List (KK×Int),ZK (ls.map fun x=>if x.1=k then (x.1,n) else x) k'=if k'=k then (ZK ls k).map fun _=>n else ZK ls k'
 |[]=>by
   by_cases e:k'=k
   ·rw[Xc e];rfl
   ·rw[Xb e];rfl
 |(j,m)::ls=>by
   rw[Xt];have ih:=P0 k k' n ls
   by_cases e:j=k
   ·simp only[e,if_true]
    rw[W7,W7,W7,ih];by_cases e2:k'=k
    ·simp[e2]
    ·have:¬k=k':=fun z=>e2 z.symm
     simp[e2,this]
   ·simp only[e,if_false]
    rw[W7,W7,W7,ih];by_cases e2:k'=k
    ·simp[e2,e]
    ·simp[e2]
theorem Tz (k k':KK)(n:Int):∀ls:List (KK×Int),ZK ls k=none->ZK (ls++[(k,n)]) k'=if k'=k then some n else ZK ls k'
 |[],_=>by
   rw[List.nil_append,W7];by_cases e:k'=k
   ·rw[Xc e,Xc e.symm]
   ·rw[Xb e,Xb (fun z=>e z.symm)]
 |(j,m)::ls,h=>by
   rw[W7]at h;by_cases e:j=k
   ·rw[Xc e]at h;cases h
   ·rw[Xb e]at h
    rw[Uw,W7,W7,Tz k k' n ls h];by_cases e2:k'=k
    ·rw[Xc e2,Xb (fun z=>e (z.trans e2)),Xc e2]
    ·rw[Xb e2,Xb e2]
theorem SS (ls:List (KK×Int))(k k':KK)(n:Int):ZK (Yu ls k n) k'=if k'=k then some n else ZK ls k':=by
 unfold Yu;cases h:ZK ls k with
 |some m=>rw[Xc (by rfl),P0,h];rfl
 |none=>rw[Xb (by simp),Tz k k' n ls h]
theorem EX (ls:List (KK×Int))(k:KK)(n:Int):(Yu ls k n).length<=ls.length+1:=by
 unfold Yu;split
 ·simp
 ·simp
theorem Th {ν:Type} [DecidableEq ν] (L:Lay ν):(Wt L).length=2*L.length:=by
 unfold Wt;induction L with
 |nil=>rfl
 |cons x L ih=>rw[MI,Xq,ih,XJ];simp;omega
theorem NetR.elen {N:Qz}{L:Lay Nd}{φ:QU Nd}(h:NetR N L φ):N.ends.length=2*L.length:=by rw[h.ends,Xm,Th]
theorem Kq {ν:Type} [DecidableEq ν] (L:Lay ν)(φ:QU ν):(V1 L φ).length=2*L.length:=by
 unfold V1;induction L with
 |nil=>rfl
 |cons x L ih=>rw[MI,Xq,ih,XJ];simp;omega
theorem Mc {L:Lay Nd}{x:Nd×Nd×Int}{j:Nat}{n:Nd}:tlE (L++[x]) j=some n↔tlE L j=some n\/(j=2*L.length/\n=x.1)\/(j=2*L.length+1/\n=x.2.1):=by
 unfold tlE;by_cases h:j/2<L.length
 ·rw[XX h]
  constructor
  ·exact .inl
  ·rintro(z|⟨z,_⟩|⟨z,_⟩)
   ·exact z
   ·omega
   ·omega
 ·rw[Ut (by omega),Nm.mpr (show L.length<=j/2 by omega)]
  by_cases h2:j/2=L.length
  ·rw[h2,Nat.sub_self]
   simp only[List.getElem?_cons_zero,XS,Option.map_none,Option.some.injEq];by_cases p:j%2=0
   ·rw[Xc p]
    constructor
    ·intro z;exact .inr (.inl ⟨by omega,z.symm⟩)
    ·rintro(z|⟨_,z⟩|⟨z,_⟩)
     ·cases z
     ·exact z.symm
     ·omega
   ·rw[Xb p]
    constructor
    ·intro z;exact .inr (.inr ⟨by omega,z.symm⟩)
    ·rintro(z|⟨z,_⟩|⟨_,z⟩)
     ·cases z
     ·omega
     ·exact z.symm
  ·have:([x]:Lay Nd)[j/2-L.length]?=none:=Nm.mpr (by simp;omega)
   rw[this];constructor
   ·intro z;cases z
   ·rintro(z|⟨z,_⟩|⟨z,_⟩)
    ·cases z
    ·omega
    ·omega
theorem Ev {N:Qz}{L:Lay Nd}{φ:QU Nd}(h:NetR N L φ){s e:Nd}{r:Int}(h0:φ s e=0)(new:(s,e)∉L.map (fun x=>(x.1,x.2.1))):NetR (JL N (nk s) (nk e) r) (L++[(s,e,r)]) φ where
 ends:=by
  show(N.ends++[nk e])++[nk s]=_
  unfold Wt;rw[Ur,Xy,h.ends];simp[Wt]
 rooms:=by
  show(N.rooms++[r])++[0]=_
  unfold V1;rw[Ur,h.rooms];simp[V1,h0]
 leav n e':=by
  have le:=h.elen
  have l1:(U9 { N with laid:=Yu N.laid (nk s,nk e) (N.ends.length:Int) } (nk s) (nk e) r).ends.length=2*L.length+1:=by
   show(N.ends++[nk e]).length=_
   rw[Xq,le];rfl
  have q:(QQ (JL N (nk s) (nk e) r).leav (nk n)).getD []=((QQ N.leav (nk n)).getD []++(if n=s then [((2*L.length:Nat):Int)] else []))++(if n=e then [((2*L.length+1:Nat):Int)] else []):=by
   unfold JL;rw[UV,l1,UV,UV];show Option.getD (if nk n=nk e then some ((if nk e=nk s then some ((QQ N.leav (nk s)).getD []++[(N.ends.length:Int)]) else QQ N.leav (nk e)).getD []++[((2*L.length+1:Nat):Int)]) else if nk n=nk s then some ((QQ N.leav (nk s)).getD []++[(N.ends.length:Int)]) else QQ N.leav (nk n)) []=_
   rw[le];simp only[FL];by_cases e1:n=e
   ·subst e1
    by_cases e2:n=s
    ·subst e2;simp
    ·simp[e2]
   ·by_cases e2:n=s
    ·subst e2;simp[e1]
    ·simp[e1,e2]
  rw[q,XG,XG,h.leav n e'];constructor
  ·rintro((⟨j,rfl,hj⟩|z)|z)
   ·exact⟨j,rfl,Mc.mpr (.inl hj)⟩
   ·by_cases e2:n=s
    ·rw[Xc e2]at z
     exact⟨2*L.length,Xn.mp z,Mc.mpr (.inr (.inl ⟨rfl,e2⟩))⟩
    ·rw[Xb e2]at z;cases z
   ·by_cases e2:n=e
    ·rw[Xc e2]at z
     exact⟨2*L.length+1,Xn.mp z,Mc.mpr (.inr (.inr ⟨rfl,e2⟩))⟩
    ·rw[Xb e2]at z;cases z
  ·rintro⟨j,rfl,hj⟩
   rcases Mc.mp hj with z|⟨rfl,z⟩|⟨rfl,z⟩
   ·exact .inl (.inl ⟨j,rfl,z⟩)
   ·exact .inl (.inr (by rw[Xc z];exact Xn.mpr rfl))
   ·exact .inr (by rw[Xc z];exact Xn.mpr rfl)
 laid i x hx:=by
  show ZK (Yu N.laid (nk s,nk e) (N.ends.length:Int)) (nk x.1,nk x.2.1)=_
  rw[SS,h.elen];by_cases hi:i<L.length
  ·rw[XX hi]at hx
   have ne:¬(nk x.1,nk x.2.1)=(nk s,nk e):=fun z=>new (by
    injection z with z1 z2
    exact Xw.mpr ⟨x,List.mem_of_getElem? hx,by rw[JZ z1,JZ z2]⟩)
   rw[Xb ne];exact h.laid i x hx
  ·rw[Ut (by omega)]at hx
   have hi2:i=L.length:=by
    have:=(Xh.mp hx).1
    simp at this
    omega
   subst hi2;rw[Nat.sub_self]at hx;cases hx
   rw[Xc rfl]
 laid0 p q hn:=by
  show ZK (Yu N.laid (nk s,nk e) (N.ends.length:Int)) (nk p,nk q)=_
  rw[Xy,XG,not_or]at hn;rw[SS,Xb (fun z=>?_)]
  ·exact h.laid0 p q hn.1
  ·injection z with z1 z2
   exact hn.2 (by rw[JZ z1,JZ z2];simp)
 l1:=by
  have a:=h.l1
  have b:(JL N (nk s) (nk e) r).leav.length<=N.leav.length+2:=by
   unfold JL;show(VJ (VH (VJ (VH N.leav (nk s)) (nk s) _) (nk e)) (nk e) _).length<=_
   rw[Mh];refine XN (Hh _ _) ?_
   rw[Mh];have:=Hh N.leav (nk s)
   omega
  rw[Xq];simp
  omega
 l2:=by
  have a:=h.l2
  have b:(JL N (nk s) (nk e) r).laid.length<=N.laid.length+1:=EX _ _ _
  rw[Xq];simp
  omega
 l3 k ns hk:=by
  have g:∀k',((QQ N.leav k').getD []).length<=2*L.length:=fun k'=>by
   cases z:QQ N.leav k' with
   |none=>exact Vl _
   |some m=>exact h.l3 k' m z
  have g1:∀k',((QQ (U9 { N with laid:=Yu N.laid (nk s,nk e) (N.ends.length:Int) } (nk s) (nk e) r).leav k').getD []).length<=2*L.length+1:=fun k'=>by
   rw[UV];by_cases z:k'=nk s
   ·rw[Xc z]
    have:=g (nk s)
    simpa using this
   ·rw[Xb z]
    have:=g k'
    show((QQ N.leav k').getD []).length<=_
    omega
  unfold JL at hk;rw[UV]at hk;rw[Xq];by_cases z:k=nk e
  ·rw[Xc z]at hk
   cases hk
   have:=g1 (nk e)
   simp at this ⊢
   omega
  ·rw[Xb z]at hk
   have:=g1 k
   rw[hk]at this;simp at this ⊢
   omega
theorem Zm5 {L:Lay Nd}(hd:Dis L){φ:QU Nd}{a r r':Int}{e:Nat}(h1:(V1 L φ)[e]?=some r)(h2:(V1 L φ)[Zfb e]?=some r'):V1 L (VV L a φ e)=((V1 L φ).set e (r-a)).set (Zfb e) (r'+a):=by
 have me:Zfb e≠e:=by unfold Zfb;split<;>omega
 have mh:Zfb e/2=e/2:=by unfold Zfb;split<;>omega
 rw[UU]at h1 h2;have h1':=h1
 unfold rmE at h1 h2;rw[mh]at h2;cases ex:L[e/2]? with
 |none=>rw[ex]at h1;cases h1
 |some x =>
   rw[ex]at h1 h2;simp only[XS,Option.some.injEq]at h1 h2;have hp:VV L a φ e=VI φ x.1 x.2.1 (if e%2=0 then a else -a):=by unfold VV;rw[ex]
   have bx:VI φ x.1 x.2.1 (if e%2=0 then a else -a) x.1 x.2.1=φ x.1 x.2.1+(if e%2=0 then a else -a):=by unfold VI;rw[Xc ⟨rfl,rfl⟩]
   have le:e/2<L.length:=(Xh.mp ex).1
   have lr:=Kq L φ
   have le2:e<(V1 L φ).length:=by omega
   have lm:Zfb e<(V1 L φ).length:=by omega
   refine List.ext_getElem? fun i=>?_
   rw[UU,List.getElem?_set,List.getElem?_set,UU,hp];by_cases im:Zfb e=i
   ·subst im
    rw[Xc rfl,Xc (show Zfb e<((V1 L φ).set e (r-a)).length by simpa using lm)]
    unfold rmE;rw[mh,ex];simp only[XS,Option.some.injEq];rw[bx];have pm:(Zfb e%2=0)=¬(e%2=0):=by
     apply propext
     unfold Zfb;split<;>omega
    by_cases p:e%2=0
    ·have p2:¬Zfb e%2=0:=by rw[pm];exact fun z=>z p
     rw[Xb p2]at h2 ⊢;rw[Xc p];omega
    ·have p2:Zfb e%2=0:=by rw[pm];exact p
     rw[Xc p2]at h2 ⊢;rw[Xb p];omega
   ·rw[Xb im]
    by_cases ie:e=i
    ·subst ie
     rw[Xc rfl,Xc le2];unfold rmE;rw[ex];simp only[XS,Option.some.injEq];rw[bx];by_cases p:e%2=0
     ·rw[Xc p]at h1 ⊢
      rw[Xc p];omega
     ·rw[Xb p]at h1 ⊢
      rw[Xb p];omega
    ·rw[Xb ie]
     unfold rmE;cases ey:L[i/2]? with
     |none=>rfl
     |some y =>
       have ne:¬(y.1=x.1/\y.2.1=x.2.1):=fun⟨z1,z2⟩=>by
        have q:=He hd ey ex z1 z2
        unfold Zfb at im;split at im<;>omega
       have by':VI φ x.1 x.2.1 (if e%2=0 then a else -a) y.1 y.2.1=φ y.1 y.2.1:=by unfold VI;rw[Xb ne]
       simp only[XS,by']
def JM (L:Lay Nd)(φ:QU Nd)(es:Got Nd)(U:List Nd):Prop := ∀e m n r,tlE L e=some m->hdE L e=some n->rmE L φ e=some r->0<r->m∈QX es->m∉U->n∈QX es
theorem JM.closed {L:Lay Nd}{φ:QU Nd}{es:Got Nd}(h:JM L φ es []):VY L φ es:=fun e m n r h1 h2 h3 h4 h5=>h e m n r h1 h2 h3 h4 h5 (fun z=>nomatch z)
theorem J6 {es:Got Nd}{x:Nd×Option Nat}{n:Nd}:n∈QX (es++[x])↔n∈QX es\/n=x.1:=by
 unfold QX;rw[Xy,XG];simp
theorem JM.add {L:Lay Nd}{φ:QU Nd}{es:Got Nd}{U V:List Nd}(h:JM L φ es (U++V))(n:Nd)(o:Option Nat):JM L φ (es++[(n,o)]) (U++(V++[n])):=fun e m k r h1 h2 h3 h4 h5 h6=>by
 rw[<- Gd,XG,not_or]at h6;have ne:m≠n:=fun z=>h6.2 (by simp[z])
 rcases J6.mp h5 with z|z
 ·exact J6.mpr (.inl (h e m k r h1 h2 h3 h4 z h6.1))
 ·exact Xl z ne
theorem Tree.inClosed {L:Lay Nd}{φ:QU Nd}{s:Nd}{fs:Got Nd}(hc:VY L φ fs)(hs:s∈QX fs):∀{es:Got Nd},Tree L φ s es->∀n∈QX es,n∈QX fs
 |_,.root,n,hn=>by
   have e:n=s:=by simpa [QX] using hn
   rw[e];exact hs
 |_,.add t hn hh ht hm hr h0,n,hx=>by
   rcases J6.mp hx with z|z
   ·exact t.inClosed hc hs n z
   ·rw[z]
    exact hc _ _ _ _ ht hh hr h0 (t.inClosed hc hs _ hm)
end Mir
end
section
namespace L2
open PySem PySem.Spec PyProof.Rows
section
variable {K:W.Frag}{ρ:QG}{ta tb tc te:TE}{D:PEnds}
end
end L2
end
section
set_option maxHeartbeats 400000
namespace L2
open PySem PySem.Spec PyProof.Rows
section
variable {X:Cx}
end
section
variable {X:Cx}
end
section
variable {K:W.Frag}{ρ:QG}{ta tb tc te:TE}{D:PEnds}
end
end L2
end
namespace L2
open PySem
section
variable {prog:Program}{w:World}{A:Around}{E:Qb}{h:Heap}{g:Array GenState}{d:Drawn}{t:Nat}{os:OsState}
variable {nm q:Str}{C N:Addr}{bs bm bmB:Qe}{hdct:Bool}{sn:Qh}{sub:Qe}{ab:Bool}{col:Option Bool}{dd:Qj}{k0 k1 k2 k3 k5:Qf}{B newId initId:String}
abbrev DR (C a:Addr):Obj:={ cls:=.ref C,data:=.fields #[.ref a,.none,.none,.none,.bool false,.none] }
abbrev FP (vs:Qe):Obj:={ cls:=.type "tuple",data:=.seq vs.toArray }
def YC (h:Heap)(C:Addr)(vs:Qe):Heap:=(h.push (FP vs)).push (DR C h.objs.size)
theorem Ar (F:ExcBaseFacts B newId initId bmB)(T:OwnTail h bmB bm){mN:Str->Qf}{rest:Qe}{f:Addr}{fo:Obj}{Q:Fin->Shared->Prop}
 (hC:h.get? C=some (excClassObj nm q C N bs bm hdct sn sub ab col dd k0 k1 k2 k3 k5 newId)) (hn:h.Ns N mN)
 (hi:mN "__init__"=some (.ref f)) (hf:h.get? f=some fo) (hc:fo.cls=.type "function") (hrest:rest.length<=sizeLine)
 (hq:wpAny (model prog w) A (call (.ref f) (.ref (h.objs.size+1)::rest)) (fun r s'=>r=.none/\Q (.done (.ret (.ref (h.objs.size+1)))) s') E ⟨YC h C rest,g,d,t,os⟩) :
 wpAny (model prog w) A (Builtin.«type.__call__» ⟨.ref C::rest,[]⟩) Q E ⟨h,g,d,t,os⟩:=by
 have kp:∀b o,h.get? b=some o->(YC h C rest).get? b=some o:=fun b o e=>Xf _ (Xf _ e)
 repeat (first
  |with_reducible refine wpAny_loadPart_at hC ?_
  |with_reducible refine wpAny_madeBy_exc hC ?_
  |wp_step)
 refine codeAny_call_builtin_code (Code.quiet_builtin _ F.quiet)
  (wpAny_check_new_subT F T hC ?_)
 refine codeAny_exc_new_subT F T hC ?_ hrest
 show wpAny _ _ _ _ _ ⟨YC h C rest,g,d,t,os⟩
 have me:(YC h C rest).get? (h.objs.size+1)=some (DR C h.objs.size):=by
  unfold YC;exact Heap.get?_push_at (by rw[Gh]) rfl
 have hC1:=kp _ _ hC
 have hn1:(YC h C rest).Ns N mN:=hn.keeps kp
 have T1:=T.keeps kp
 have own:(Value.ref C::bm).contains (.ref C)=true:=by simp
 unfold isInstance;repeat (first
  |with_reducible refine wpAny_loadPart_at me ?_
  |(with_reducible refine wpAny_isSubtype_exc hC1 ?_;rw[own])
  |wp_step)
 show wpAny _ _ (typeLookup (.ref C) _) _ _ _
 refine wpAny_typeLookup_tail hC1 hn1 T1 F.mroIs F.init.lookup ?_
 rw[hi];refine wpAny_holding (Xa (wpAny_bindSpecial_def (s:=⟨YC h C rest,g,d,t,os⟩) (kp _ _ hf) hc ?_))
 refine Xa (wpAny_mono hq (fun r s' hr=>?_) fun _ _ z=>z)
 obtain⟨rfl,hr⟩:=hr
 wp_walk
 exact hr
theorem F7 (F:ExcBaseFacts B newId initId bmB)(T:OwnTail h bmB bm){mN:Str->Qf}{rest:Qe}{f:Addr}{fo:Obj}{Q:Qb}
 (hC:h.get? C=some (excClassObj nm q C N bs bm hdct sn sub ab col dd k0 k1 k2 k3 k5 newId)) (hn:h.Ns N mN)
 (hi:mN "__init__"=some (.ref f)) (hf:h.get? f=some fo) (hc:fo.cls=.type "function") (hrest:rest.length<=sizeLine)
 (hq:wpAny (model prog w) (A.under (.builtin "type.__call__" ⟨.ref C::rest,[]⟩)) (call (.ref f) (.ref (h.objs.size+1)::rest)) (fun r s'=>r=.none/\Q (.ref (h.objs.size+1)) s') E ⟨YC h C rest,g,d,t,os⟩) :
 wpAny (model prog w) A (call (.ref C) rest) Q E ⟨h,g,d,t,os⟩:=by
 have l1:=tc_lookup
 have l2:=tc_bind (.ref C)
 have ty:(⟨h,g,d,t,os⟩:Shared).TypeIs (.ref C) "type" := ⟨_,hC,rfl⟩
 refine wpAny_call (codeAny_of_tree ?_)
 show wpAny _ _ (callAny (.ref C) _) _ _ _
 repeat (any_goals (first
  |assumption
  |with_reducible refine wpAny_loadPart_at hC ?_
  |wp_step))
 refine⟨rfl,?_⟩
 refine codeAny_call_builtin_at (Code.quiet_builtin _ (by decide +kernel)) entry_typeCall (wpAny_check_type_call_sub hC ?_)
 refine Ar F T hC hn hi hf hc hrest ?_
 exact wpAny_mono hq (fun r s' z=>z) fun _ _ z=>z
end
end L2
namespace L2
open PySem PySem.Spec PyProof.Rows
def phX (C e:Addr)(dct:Qj):Heap->Prop:=fun h=>∃(t:Addr) (sl:Array (Qf)),h.get? e=some { cls:=.ref C,dict:=dct,data:=.fields #[.ref t,.none,.none,.none,.bool false,.none],slots:=sl }
theorem DU {P:Program}{w:World}{H:Hp}{h:Heap}{C e:Addr}{dct:Qj}(p:phX C e dct h):Z7 P w H h e (.ext (phX C e dct)):=⟨p,by obtain⟨t,sl,q⟩:=p;exact⟨_,q⟩,fun h1 h2 p1 k=>by obtain⟨t,sl,q⟩:=p1;exact⟨t,sl,k _ q⟩⟩
section
variable {prog:Program}{w:World}{A:Around}{E:Qb}{h:Heap}{g:Array GenState}{d:Drawn}{t:Nat}{os:OsState}
variable {nm q:Str}{C N:Addr}{bs bm bmB:Qe}{hdct:Bool}{sn:Qh}{sub:Qe}{ab:Bool}{col:Option Bool}{dd:Qj}{k0 k1 k2 k3 k5:Qf}{B newId initId:String}
theorem LQ (F:ExcBaseFacts B newId initId bmB)(T:OwnTail h bmB bm){e a:Addr}{dct:Qj}{sl:Array (Qf)}{v:Value}{Q:Qb}
 (hC:h.get? C=some (excClassObj nm q C N bs bm hdct sn sub ab col dd k0 k1 k2 k3 k5 newId))
 (he:h.get? e=some { cls:=.ref C,dict:=dct,data:=.fields #[.ref a,.none,.none,.none,.bool false,.none],slots:=sl })
 (hq:∀h',(∀b o,b≠e->h.get? b=some o->h'.get? b=some o)->phX C e dct h'->Q .none ⟨h',g,d,t,os⟩) :
 wpAny (model prog w) A (call (.builtin initId) [.ref e,v]) Q E ⟨h,g,d,t,os⟩:=by
 refine wpAny_call (codeAny_call_builtin F.init.plain F.initEntry (wpAny_check_init_subT F T hC he rfl ?_))
 wp_walk using AutoSeq1.wpAny_loadPart' he
 refine hq _ (fun b o hb z=>?_) ⟨h.objs.size,sl,?_⟩
 ·rw[X5 _ _ (Ne.symm hb)]
  exact Xf _ z
 ·rw[JB _ (Xf _ he) rfl]
  rfl
end
structure Jh (K:W.Frag)(Y C f:Addr):Prop where
 ga:W.specialIn K (.ref Y) "__getattribute__"=some (some (.builtin "type.__getattribute__"))
 rd:W.readsIn K Y (.type "type")=true
 ini:W.findCls K (.ref Y) (.type "type") "__init__"=some (.val (.builtin "ValueError.__init__"))
 cls:∀h:Heap,K.In h->∃(bmB bm:Qe) (nm q:Str) (N:Addr) (bs:Qe) (hdct:Bool) (sn:Qh) (sub:Qe) (ab:Bool) (col:Option Bool) (dd:Qj) (k0 k1 k2 k3 k5:Qf),
  ExcBaseFacts "ValueError" "ValueError.__new__" "ValueError.__init__" bmB/\OwnTail h bmB bm/\h.get? C=some (excClassObj nm q C N bs bm hdct sn sub ab col dd k0 k1 k2 k3 k5 "ValueError.__new__") /\
  ∃(mN:Str->Qf) (fo:Obj),h.Ns N mN/\mN "__init__"=some (.ref f)/\h.get? f=some fo/\fo.cls=.type "function"
def tXI (C:Addr)(i:Nat):TE:=fun σ H Q=>∃e dct,σ[i]?=some (some (.ref e))/\H e=some (.ext (phX C e dct))/\Q .non H
theorem A4 {X:Cx}{Y C f:Addr}(c:Jh X.K Y C f){x y:Str}{i:Nat}{p0 p1 p2 p3 p4:Pos}{txt:Str}{kd:Nat}(hg:Gl X x)(hm:X.mg x=some (.ref Y))(hN:X.N[i]?=some y)(hv:Vis X.env.scope y)
 (hdb:(x==("__debug__" : Str))=false:=by decide) (hd:(y==("__debug__" : Str))=false:=by decide) (hcd:(y==("__classdict__" : Str))=false:=by decide) {pl:Sem Bool}
 (ht:eval (.Call (.Attribute (.Name x p0) "__init__" p1) [.Name y p2,.Constant (.str txt) kd p3] [] p4) X.env=(do
  let ov <- eval (.Name x p0) X.env
  standAt p1.atName
  let (f,first) <- holding [ov] (getMethod ov "__init__" pl)
  callWith p4 f first (backTo p4 (starEach [.Name y p2,.Constant (.str txt) kd p3] X.env)) (backToKw p4 (keywordEach [] X.env))):=by rfl) :
 PE X (.Call (.Attribute (.Name x p0) "__init__" p1) [.Name y p2,.Constant (.str txt) kd p3] [] p4) (tXI C i):=by
 intro Xbs s σ H Q I h;obtain⟨e,dct,e1,e2,q⟩:=h
 refine W.methodCall_KW (pl:=pl) (UO I hg hm ?_ hdb) ht
 refine W.method_cls I.kIn c.ga (W.cls_value I.kIn c.rd c.ini (by decide +kernel) ?_)
 have I1:=I.tok (s.toks+1)
 have args:PA X [.Name y p2,.Constant (.str txt) kd p3] (QZ (Zc i) (QZ (tC (.str txt)) Zm)):=Qo (RN hN hv hd hcd) (Qo DY Qs)
 refine PyProof.Rows.callWith_builtin1 (Q8 (args p4 Xbs _ σ H (fun vs H1=>vs=[.ref e,.str txt]/\H1=H) I1 ⟨_,e1,rfl,rfl⟩) fun us s1 ⟨vs,H1,I2,r,ev,eH⟩=>?_) rfl rfl
 subst ev eH;cases r with
 |cons r1 r =>
 cases r with
 |cons r2 r =>
 cases r
 cases r1
 obtain⟨tk,rfl⟩:=r2
 have hx:=I2.hok e _ e2
 obtain⟨⟨ta,sl,he⟩,_,_⟩:=hx
 obtain⟨bmB,bm,nm,qn,N,bs,hdct,sn,sub,ab,col,dd,k0,k1,k2,k3,k5,F,T,hC,_⟩:=c.cls _ I2.kIn
 refine LQ F T hC he fun h' kp px=>?_
 have mu:Mut (H1 e):=by rw[e2];trivial
 have W:=I2.write (h':=h') (t':=s1.toks) (o:=.ext (phX C e dct)) mu Qa kp (by obtain⟨_,_,z⟩:=px;exact⟨_,z⟩) (DU px)
 have eu:upd H1 e (.ext (phX C e dct))=H1:=by
  funext b
  by_cases hb:b=e
  ·subst hb;simp[upd,e2]
  ·simp[upd,hb]
 rw[eu]at W;exact⟨.non,H1,W,rfl,q⟩
def WM:Qe->Bool
 |.ref _::r=>WM r
 |l=>l==[.type "ValueError",.type "Exception",.type "BaseException",.type "object"]
theorem Tu (self:Value):∀{l:Qe},WM l=true->refuseLoop self "__setattr__" l=pure ()
 |.ref c::r,e=>by rw[refuseLoop_ref];exact Tu self (by simpa [WM] using e)
 |[],e=>by cases e
 |.type n::r,e=>by rw[show(Value.type n::r)=_ from beq_iff_eq.mp e];exact PySem.F.store_ValueError.passes self
theorem RM:∀{l:Qe},WM l=true->l.contains (.type "object")=true
 |.ref c::r,e=>by rw[List.contains_cons,RM (l:=r) (by simpa [WM] using e),Bool.or_true]
 |[],e=>by cases e
 |.type n::r,e=>by rw[show(Value.type n::r)=_ from beq_iff_eq.mp e];decide
section
open PySem.W
variable {prog:Program}{w:World}{A:Around}{R:Result->Shared->Prop}{K:Frag}{s:Shared}{x C:Addr}
theorem Fj {ox:Obj}{od:Option Obj}{name:Str}{tk:Tok}{v:Value}{r:Qf}(X:K.In s.heap)(I:W.InstAt s.heap x ox C od)(hp:((clsIn K C).any fun cd=>WM cd.mro)=true)(ht:takerIn K C name=some r)
 (h:∀b,wpAny (model prog w) A.in1 (match r with|some a=>Builtin.ObjectAttr.setByDescriptor a (.ref x) v|none=>Builtin.ObjectAttr.storeInOwnDict (.ref x) (.ref C) (.str name tk) name v b)
  (fun fin s'=>match fin with|.done f=>R (.ok f) s'|.again c'=>c'.quiet=true/\codeAny (model prog w) A c' R s') (fun e s'=>R (.error e) s') s) :
 codeAny (model prog w) A (.call (.builtin "object.__setattr__") ⟨[.ref x,.str name tk,v],[]⟩) R s:=by
 have SF:=PySem.F.store_object
 obtain⟨cd,hc,ho⟩:=any_some hp
 have ne:cd.mro.isEmpty=false:=by cases q:cd.mro with|nil=>rw[q]at ho;cases ho|cons _ _=>rfl
 have sub:Looks (model prog w) s.heap (isInstance (.ref x) (.type "object")) true:=I.type.andThen (looks_mroIn X (by unfold mroIn;rw[hc,Option.bind_some,Xb (by rw[ne];decide),RM ho]))
 refine codeAny_call_builtin SF.slot.plain SF.entry (@check_slot (model prog w) _ _ s "object.__setattr__" "object" "__setattr__" (.ref x) [.str name tk,v] [] _ SF.kind SF.split sub (SF.args (.ref x) (.str name tk) v) ?_)
 obtain⟨attr,ha,hr⟩:=Option.bind_eq_some_iff.mp ht
 have hm:Looks (model prog w) s.heap (mroOf (.ref C)) cd.mro:=(looks_clsIn X hc).andThen .now
 have L3:Looks (model prog w) s.heap (Builtin.ObjectAttr.storeTaker? attr) r:=by
  cases attr with
  |none=>cases hr;exact .now
  |some a =>
    obtain⟨b,hb,rfl⟩:=Option.map_eq_some_iff.mp hr
    refine(looks_takesIn X hb).andThen ?_
    cases b<;>exact .now
 rw[osa_eq,refuse_eq];refine Xa (Xa (I.type.here (Xa (hm.here ?_))))
 rw[Tu _ ho];refine Xi (Xa (I.type.here (Xa ((looks_findIn X ha).here (Xa (L3.here ?_))))))
 exact h _
theorem L4 {E:Qb}{Q:Unit->Shared->Prop}{name:Str}{v:Value}{fs:Array Value}{sl:Array (Qf)}(X:K.In s.heap)
 (hs:findIn K (.ref C) "__setattr__"=some (some (.builtin "object.__setattr__"))) (hp:((clsIn K C).any fun cd=>WM cd.mro)=true) (ht:takerIn K C name=some none) (hh:hasDictIn K C=true)
 (hx:s.heap.get? x=some { cls:=.ref C,dict:=none,data:=.fields fs,slots:=sl })
 (h:∀h' t',(∀b o,b≠x->s.heap.get? b=some o->h'.get? b=some o)->h'.get? x=some { cls:=.ref C,dict:=some s.heap.objs.size,data:=.fields fs,slots:=sl } ->
  h'.Ns1 s.heap.objs.size (fun y=>if y=name then some v else none)->Q () { s with heap:=h',toks:=t' }) :
 wpAny (model prog w) A (setAttr (.ref x) name v) Q E s:=by
 have J:W.InstAt s.heap x _ C none:=⟨hx,rfl,rfl,trivial⟩
 refine W.set_plain X J hs (Fj (s:={ s with toks:=s.toks+1 }) (r:=none) X J hp ht fun b=>?_)
 obtain⟨cd,hc,hd'⟩:=W.any_some hh
 refine Xa (Xi (Xa (Xa (wpAny_loadPart hx (Xa (W.Looks.here (s:={ s with toks:=s.toks+1 }) (W.looks_clsIn X hc) ?_))))))
 rw[hd'];have cj:(s.heap.push { cls:=.type "dict",data:=.dict #[] }).get? x=_:=Xf _ hx
 have hxs:x≠s.heap.objs.size:=Xo (Xj hx)
 rw[Xb (by decide)];dsimp only;rw[Xb (by simp[typeHasDict])];refine Xa (wpAny_alloc' ?_)
 refine Xa (wpAny_update' cj ?_)
 refine Xi ?_
 have hgd:((s.heap.push { cls:=.type "dict",data:=.dict #[] }).update x fun o=>{ cls:=o.cls,dict:=some s.heap.objs.size,data:=o.data,slots:=o.slots }).get? s.heap.objs.size
  = some { cls:=.type "dict",data:=.dict #[] } :=
  (Heap.get?_update_ne _ _ _ _ hxs.symm).trans (Heap.get?_push_at rfl rfl)
 have hnd:((s.heap.push { cls:=.type "dict",data:=.dict #[] }).update x fun o=>{ cls:=o.cls,dict:=some s.heap.objs.size,data:=o.data,slots:=o.slots }).Ns s.heap.objs.size (fun _=>none) :=
  ⟨_,#[],_,hgd,rfl,fun e he=>Xl he (by simp),fun _=>rfl⟩
 show wpAny _ _ (Builtin.ObjectAttr.storeInDict s.heap.objs.size (.str name s.toks) name v) _ _ _
 unfold Builtin.ObjectAttr.storeInDict Builtin.ObjectAttr.newKeyGuard;refine Xa (Xi (Xa (wpAny_nsSet1 (Heap.Ns1.of_empty hnd) fun h' hn' hs=>?_)))
 obtain⟨oD,esD,epD,hoD,hdD,hcD⟩:=hn'.count (Within.cons name v Within.nil)
 refine Xa (wpAny_lookBehind hoD (by rw[hdD];exact pastItsLine_dict (XN hcD (by rw[XJ,List.length_nil,sizeLine_eq];omega))) ?_)
 refine Xi (h _ _ (fun b ob hbx hb=>?_) ?_ hn')
 ·exact(hs.2 b (Xo (Xj hb))).trans ((Heap.get?_update_ne _ _ _ _ hbx).trans (Xf _ hb))
 ·exact(hs.2 x hxs).trans (JB _ cj rfl)
end
structure Lz (K:W.Frag)(C:Addr):Prop where
 sa:W.findIn K (.ref C) "__setattr__"=some (some (.builtin "object.__setattr__"))
 ov:((W.clsIn K C).any fun cd=>WM cd.mro)=true
 hd:W.hasDictIn K C=true
def sXF (C:Addr)(ta tv:TE)(f:Str):TS:=fun D σ H=>tv σ H fun y H1=>ta σ H1 fun x H2=>∃e,x=.ref e/\H2 e=some (.ext (phX C e none)) /\
 ∀dx,H2 dx=none->dx≠e->D.nx σ (upd (upd H2 e (.ext (phX C e (some dx)))) dx (.xd [(f,y)]))
section
variable {X:Cx}{o value:Expr}{f:Str}{pos pos':Pos}{ta tv:TE}{C:Addr}
theorem C6 (c:Lz X.K C)(ht:W.takerIn X.K C f=some none)(ha:PE X o ta)(hv:PE X value tv)(hs:swapsWith value (some (.Attribute o f pos')) pos.line X.env=pure false):PS X (.Assign [.Attribute o f pos'] value pos) (sXF C ta tv f):=by
 intro Xbs s σ H D I h;refine plainObj_wpAny_Assign_Attribute (Q8 (hv Xbs s σ H _ I h) fun u s1 ⟨y,H1,I1,ry,q⟩=>Q8 (ha Xbs s1 σ H1 _ I1 q) fun ov s2 ⟨x,H2,I2,rx,e,ex,ea,q2⟩=>?_) hs
 subst ex;obtain rfl:ov=Value.ref e:=rx
 obtain⟨⟨ta,sl,he⟩,_,_⟩:=I2.hok e _ ea
 refine L4 I2.kIn c.sa c.ov ht c.hd he fun h' t' kp hx hn=>?_
 have mu:Mut (H2 e):=by rw[ea];trivial
 have W:=I2.write (h':=h') (t':=t') (o:=.ext (phX C e (some s2.heap.objs.size))) mu Qa kp ⟨_,hx⟩ (DU ⟨ta,sl,hx⟩)
 have hne:s2.heap.objs.size≠e:=(Xo (Xj he)).symm
 have hfr:H2 s2.heap.objs.size=none:=I2.fresh
 refine⟨σ,_,W.track (a:=s2.heap.objs.size) (o:=.xd [(f,y)]) (by rw[Qx hne];exact hfr) I2.sz (X7 I2.lt) (fun z c hc hz=>?_) (fun p hp hz=>?_) ⟨_,hn,fun g=>?_⟩,q2 _ hfr hne⟩
 ·obtain⟨v,hv⟩:=I2.cell z c hc
  subst hz;obtain⟨oc,hc2,_⟩:=hv
  exact Xl (Xj hc2) (Y5 _)
 ·have:=(I2.pin p hp).1
  rw[hz]at this;exact Xl (Xj this) (Y5 _)
 ·show ZQ (List.lookup g [(f,y)]) (if g=f then some u else none)
  by_cases hg:g=f
  ·subst hg;simp[List.lookup];exact ry
  ·rw[Xb hg]
   have:(g==f)=false:=by simpa using hg
   simp[List.lookup,this]
   trivial
end
def Dg (C:Addr)(sp:Sp)(E:XK)(t:TA):TE:=fun σ H Q=>t σ H fun vs H1=>vs.length<=1000/\∀x,H1 x=none ->
 sp (.ref x::vs) (upd H1 x (.ext (phX C x none))) (fun v H2=>v=.non/\Q (.ref x) H2) E
section
variable {X:Cx}{CX:CXT}{k:Nat}{f C Y:Addr}{fd:FuncData}{ps:Qh}{sp:Sp}{E:XK}{x:Str}{p pos:Pos}{e:Expr}{es:Qi}{t:TA}
theorem O1 {Xbs:Qc}{σ:St}{H:Hp}{s:Shared}{Q:VK}{us:Qe}{vs:List V}(c:Jh X.K Y C f)(F:FnOk X.prog X.w X.K X.mg X.base CX k f fd ps sp)(hr:Room (k+1) X.A)(hb:VN X.K fd ps [])
 (hx:We CX X E) (I:Qr X Xbs σ H s) (r:QP vs us) (hl:vs.length<=1000)
 (h:∀x,H x=none->sp (.ref x::vs) (upd H x (.ext (phX C x none))) (fun v H2=>v=.non/\Q (.ref x) H2) E) :
 wpAny (model X.prog X.w) X.A (call (.ref C) us) (EP X Xbs σ Q) X.xe s:=by
 obtain⟨bmB,bm,nm,qn,N,bs,hdct,sn,sub,ab,col,dd,k0,k1,k2,k3,k5,FB,T,hC,mN,fo,hN,hi,hf,hfc⟩:=c.cls _ I.kIn
 have hq:=h (s.heap.objs.size+1) (I.hok.fresh (Nat.le_succ _))
 obtain⟨hp,g,d,tk,os⟩:=s
 have kp:∀b o,hp.get? b=some o->(YC hp C us).get? b=some o:=fun b o e=>Xf _ (Xf _ e)
 have me:(YC hp C us).get? (hp.objs.size+1)=some (DR C hp.objs.size):=by
  unfold YC;exact Heap.get?_push_at (by rw[Gh]) rfl
 have I2:Qr X Xbs σ (upd H (hp.objs.size+1) (.ext (phX C (hp.objs.size+1) none))) ⟨YC hp C us,g,d,tk,os⟩:=I.laid (t':=tk) kp (Nat.le_succ _) (DU ⟨_,_,me⟩)
 have r2:QP (V.ref (hp.objs.size+1)::vs) (Value.ref (hp.objs.size+1)::us):=.cons rfl r
 have hl2:(Value.ref (hp.objs.size+1)::us++[]).length=ps.length:=by
  have e:=r2.length
  rw[F.len _ _ _ _ hq]at e;simpa using e.symm
 refine F7 FB T hC hN hi hf hfc (by rw[<- r.length,sizeLine_eq];omega) ?_
 have run:=F.run _ X.stack _ _ ⟨Value.ref (hp.objs.size+1)::us,[]⟩ (Value.ref (hp.objs.size+1)::us) _ _ E (hr.make C us []) (I2.env0.make C us []) (by simpa using hb _ (Value.ref (hp.objs.size+1)::us) I2.kIn hl2) r2 hq
 refine wpAny_call (codeAny_mono run fun r s' hq'=>?_)
 cases r with
 |error e=>exact hx Xbs σ _ _ e s' I2 hq'
 |ok fl =>
   cases fl with
   |ret u =>
     obtain⟨v,H',I3,rv,ev,q3⟩:=I2.after hq'
     subst ev;exact⟨rv,⟨V.ref (hp.objs.size+1),H',I3,rfl,q3⟩⟩
   |next=>exact False.elim hq'
   |brk=>exact False.elim hq'
   |cont=>exact False.elim hq'
theorem Eg (c:Jh X.K Y C f)(kp:W.keepIn X.K (.ref C)=true)(F:FnOk X.prog X.w X.K X.mg X.base CX k f fd ps sp)(hr:Room (k+1) X.A)(hg:Gl X x)(hm:X.mg x=some (.ref C))(hb:VN X.K fd ps [])(hx:We CX X E)
 (ha:PA X (e::es) t) (hdb:(x==("__debug__" : Str))=false:=by decide) (he:starEach (e::es) X.env=(false,eval e X.env)::starEach es X.env:=by rfl) (hpl:(backTo pos (starEach es X.env)).any (·.1)=false:=by rfl) :
 PE X (.Call (.Name x p) (e::es) [] pos) (Dg C sp E t):=by
 intro Xbs s σ H Q I h;refine wpAny_Call_Name_kw (UO I hg hm ?_ hdb)
 refine W.callWith_K (h₀:=X.base) I.ok.mod.kin kp (Q8 (ha pos Xbs s σ H _ I h) fun us s1 ⟨vs,H1,I1,r,q⟩=>⟨I1.kIn,?_⟩) he hpl
 exact O1 c F hr hb hx I1 r q.1 q.2
end
def sXR (C:Addr)(te:TE)(R:Addr->Qj->Hp->Prop):TS:=fun D σ H=>te σ H fun v H1=>∃e dct,v=.ref e/\H1 e=some (.ext (phX C e dct))/\R e dct H1
section
variable {M:Model}{A:Around}{E:Qb}{env:Env}
variable {nm q:Str}{C N:Addr}{bs bm:Qe}{hdct:Bool}{sn:Qh}{sub:Qe}{ab:Bool}{col:Option Bool}{dd:Qj}{k0 k1 k2 k3 k5:Qf}{newId:String}
theorem CM {s:Shared}{x:Sem Value}{Q:Flow->Shared->Prop}(hh:A.handled=none)
 (h:wpAny M A x (fun v b7=>∃e t dct sl bm nm q N bs hdct sn sub ab col dd k0 k1 k2 k3 k5 newId,v=.ref e/\bm.contains (Value.type "BaseException")=true/\b7.heap.get? C=some (excClassObj nm q C N bs bm hdct sn sub ab col dd k0 k1 k2 k3 k5 newId) /\
  b7.heap.get? e=some { cls:=.ref C,dict:=dct,data:=.fields #[.ref t,.none,.none,.none,.bool false,.none],slots:=sl }/\E (.ref e) b7) E s) :
 wpAny M A (raiseStmt env (some x) none) Q E s:=by
 unfold raiseStmt;refine Xa (wpAny_mono h (fun v b7 b9=>?_) fun _ _ x=>x)
 obtain⟨e,t,dct,sl,bm,nm,q,N,bs,hdct,sn,sub,ab,col,dd,k0,k1,k2,k3,k5,newId,rfl,hbase,hC,he,hE⟩:=b9
 have hcB:(Value.ref C::bm).contains (.type "BaseException")=true:=by rw[List.contains_cons,hbase,Bool.or_true]
 obtain⟨hp,g,d,tk,os⟩:=b7
 repeat (first|with_reducible refine wpAny_loadPart_at he ?_|with_reducible refine wpAny_loadPart_at hC ?_|(with_reducible refine wpAny_isSubtype_exc hC ?_;rw[hcB])|wp_step)
 exact wpAny_raiseNew_none hh hE
end
end L2
namespace L2
open PySem
section
variable {M:Model}{A:Around}{E:Qb}{s:Shared}
structure Leaves (l:List Env)(e:Addr)(oe:Obj)(h h':Heap)(T:Addr):Prop where
 keep:∀b o,b∉l.filterMap (·.frame)->b≠e->h.get? b=some o->h'.get? b=some o
 slot:∀b o,b∈l.filterMap (·.frame)->h.get? b=some o->∃sl,h'.get? b=some { o with slots:=sl }
 new:h.objs.size<=T
 exc:h'.get? e=some (Obj.mapFields (·.setIfInBounds 1 (Value.ref T)) oe)
 tb:∃oT ts,h'.get? T=some oT/\oT.data=.fields ts/\ts[3]?=some .none
theorem PK {base:Heap}{env:Env}{outer:List Env}{L e:Addr}{oe:Obj}{vs:Array Value}{head:Value}{hadNext:Bool}{Q:Unit->Shared->Prop}
 (hfr:A.frames=some (env::outer)) (hl:s.heap.FunFrames base (env::outer)) (hf:env.frame=some L)
 (he:s.heap.get? e=some oe) (hd:oe.data=.fields vs) (hsz:1<vs.size)
 (h:∀h' T,Leaves (env::outer) e oe s.heap h' T->Q () { s with heap:=h' }) :
 wpAny M A (do let a <- frameOf env;let pl <- entryPlaceOf L hadNext;let b <- EntryCells.newEntry head a .none (rawInt L) .none pl;setField (.ref e) 1 b) (fun _ s'=>wpAny M A (setFlight (.ref e) none) Q E s') E s:=by
 have hene:e∉(env::outer).filterMap (·.frame):=fun hm=>by
  obtain⟨_,o,ho,hnf⟩:=hl.mem hm
  rw[he]at ho;injection ho with ho;subst ho;exact hnf vs hd
 refine Xa (wpAny_frameOf_fun hfr hl hf fun b9 c8=>?_)
 refine Xa (wpAny_entryPlaceOf fun pl hpl=>?_)
 unfold EntryCells.newEntry newFields;refine Xa (wpAny_newObj_type ?_ (hpl.sizeOk5 _ _ _ _ _))
 have cq:b9.get? e=some oe:=(c8.2.1 e hene).trans he
 have cv:=Xf (h:=b9) { cls:=.type "traceback",dict:=none,data:=.fields ([head,.ref L,.none,rawInt L,.none]++(if pl.isEmpty then List.replicate 6 Value.none else pl)).toArray } cq
 refine wpAny_setField cv hd hsz ?_
 have hTe:b9.objs.size≠e:=X7 (Xj cq)
 have cw:=Obj.data_mapFields hd (·.setIfInBounds 1 (Value.ref b9.objs.size))
 have cx:=JB (Obj.mapFields (·.setIfInBounds 1 (Value.ref b9.objs.size))) cv (Obj.isFreed_of_fields cw)
 have cz:=(X5 (b9.push { cls:=.type "traceback",dict:=none,data:=.fields ([head,.ref L,.none,rawInt L,.none]++(if pl.isEmpty then List.replicate 6 Value.none else pl)).toArray })
  (Obj.mapFields (·.setIfInBounds 1 (Value.ref b9.objs.size))) (Ne.symm hTe)).trans (XQ b9 rfl)
 unfold setFlight;refine Xa (WD cx cw (x:=.ref b9.objs.size) (by simp[hsz]) ?_)
 rw[Xc (show(Value.ref b9.objs.size != Value.none)=true from by simp)]
 refine wpAny_setField cz rfl (by simp only[Xu,Xq,XJ,List.length_nil]<;>omega) (h _ b9.objs.size ?_)
 have keep:∀b o,b≠e->b9.get? b=some o ->
  (((b9.push { cls:=.type "traceback",dict:=none,data:=.fields ([head,.ref L,.none,rawInt L,.none]++(if pl.isEmpty then List.replicate 6 Value.none else pl)).toArray }).update e (Obj.mapFields (·.setIfInBounds 1 (Value.ref b9.objs.size)))).update b9.objs.size
    (Obj.mapFields (·.setIfInBounds 3 ((none:Qj).elim Value.none fun f=>rawInt f)))).get? b=some o:=fun b o hbe hb=>by
  have hbT:b9.objs.size≠b:=X7 (Xj hb)
  rw[X5 _ _ hbT,X5 _ _ (Ne.symm hbe)];exact Xf _ hb
 refine⟨fun b o hb hbe ho=>keep b o hbe ((c8.2.1 b hb).trans ho),fun b o hb ho=>?_,?_,?_,?_⟩
 ·obtain⟨sl,hs⟩:=c8.2.2 b o ho
  exact⟨sl,keep b _ (fun q=>hene (q▸hb)) hs⟩
 ·exact Nat.le_of_eq c8.1.symm
 ·rw[X5 _ _ hTe];exact cx
 ·exact⟨_,_,JB _ cz (Obj.isFreed_of_fields (Obj.data_mapFields rfl _)),Obj.data_mapFields rfl _,by first|(simp;done)|(rcases hpl with rfl|⟨_,_,_,_,_,_,_,rfl⟩<;>simp)⟩
theorem ZjZ {base:Heap}{env:Env}{outer:List Env}{L e:Addr}{oe:Obj}{vs:Array Value}{Q:Unit->Shared->Prop}
 (hfr:A.frames=some (env::outer)) (hl:s.heap.FunFrames base (env::outer)) (hf:env.frame=some L)
 (he:s.heap.get? e=some oe) (hd:oe.data=.fields vs) (h1:vs[1]?=some .none)
 (h:∀h' T,Leaves (env::outer) e oe s.heap h' T->Q () { s with heap:=h' }):wpAny M A (leaving env (.ref e)) Q E s:=by
 unfold leaving noteFrame;simp only[hf];refine Xa (Xa (WD he hd h1 ?_))
 rw[Xb (by decide)];exact PK hfr hl hf he hd (Array.getElem?_eq_some_iff.mp h1).1 h
theorem Lc {base:Heap}{env:Env}{outer:List Env}{L e T0:Addr}{oe oT:Obj}{vs ts:Array Value}{Q:Unit->Shared->Prop}
 (hfr:A.frames=some (env::outer)) (hl:s.heap.FunFrames base (env::outer)) (hf:env.frame=some L)
 (he:s.heap.get? e=some oe) (hd:oe.data=.fields vs) (h1:vs[1]?=some (.ref T0)) (hTe:T0≠e) (hT:s.heap.get? T0=some oT) (hdT:oT.data=.fields ts) (h3:ts[3]?=some .none)
 (h:∀h' T,Leaves (env::outer) e oe s.heap h' T->Q () { s with heap:=h' }):wpAny M A (noteFrame (.ref e) env) (fun _ s'=>wpAny M A (setFlight (.ref e) none) Q E s') E s:=by
 unfold noteFrame;simp only[hf];refine Xa (WD he hd h1 ?_)
 rw[Xc (show(Value.ref T0 != Value.none)=true from by simp)]
 refine Xa (WD hT hdT h3 ?_)
 rw[Xb (show ¬((Value.none==rawInt L)=true) from by simp[rawInt])]
 refine Xa (wpAny_setField hT hdT (Array.getElem?_eq_some_iff.mp h3).1 ?_)
 have hsz3:3<ts.size:=(Array.getElem?_eq_some_iff.mp h3).1
 have same:Obj.mapFields (·.setIfInBounds 3 Value.none) oT=oT:=by
  obtain⟨c,d,dt,sl⟩:=oT
  subst hdT;have:ts.setIfInBounds 3 Value.none=ts:=by
   apply Array.ext_getElem?
   intro i;rw[Array.getElem?_setIfInBounds];by_cases hi:3=i
   ·subst hi;rw[Xc rfl,Xc hsz3,h3]
   ·rw[Xb hi]
  unfold Obj.mapFields;simp[this]
 have all:∀b o,s.heap.get? b=some o->(s.heap.update T0 (Obj.mapFields (·.setIfInBounds 3 Value.none))).get? b=some o:=fun b o hb=>by
  by_cases q:b=T0
  ·subst q
   rw[hT]at hb;cases hb;rw[JB _ hT (Obj.isFreed_of_fields (Obj.data_mapFields hdT _)),same]
  ·rw[X5 _ _ (Ne.symm q)];exact hb
 refine PK (s:={ s with heap:=_ }) hfr (hl.of_keeps fun b o hb hnf=>⟨o,all b o hb,rfl⟩) hf (all e _ he) hd (Array.getElem?_eq_some_iff.mp h1).1 fun h' T Z=>h h' T ?_
 exact⟨fun b o x1 x2 x3=>Z.keep b o x1 x2 (all b o x3),fun b o x1 x2=>Z.slot b o x1 (all b o x2),by have:=Z.new;simpa only [Heap.size_update] using this,Z.exc,Z.tb⟩
theorem OW {base:Heap}{env:Env}{outer:List Env}{L e T0:Addr}{oe oT:Obj}{vs ts:Array Value}{Q:Unit->Shared->Prop}
 (hfr:A.frames=some (env::outer)) (hl:s.heap.FunFrames base (env::outer)) (hf:env.frame=some L)
 (he:s.heap.get? e=some oe) (hd:oe.data=.fields vs) (h1:vs[1]?=some (.ref T0)) (hTe:T0≠e) (hT:s.heap.get? T0=some oT) (hdT:oT.data=.fields ts) (h3:ts[3]?=some .none)
 (h:∀h' T,Leaves (env::outer) e oe s.heap h' T->Q () { s with heap:=h' }):wpAny M A (leaving env (.ref e)) Q E s:=Xa (Lc hfr hl hf he hd h1 hTe hT hdT h3 h)
end
end L2
namespace L2
open PySem PySem.Spec PyProof.Rows
def phT (T:Addr):Heap->Prop:=fun h=>∃oT ts,h.get? T=some oT/\oT.data=.fields ts/\ts[3]?=some .none
def phF (C e:Addr)(dct:Qj)(T:Addr):Heap->Prop:=fun h=>∃(vs:Array Value) (sl:Array (Qf)),h.get? e=some { cls:=.ref C,dict:=dct,data:=.fields vs,slots:=sl }/\vs[1]?=some (.ref T)
theorem FG {P:Program}{w:World}{H:Hp}{h:Heap}{T:Addr}(p:phT T h):Z7 P w H h T (.ext (phT T)):=⟨p,by obtain⟨o,_,q,_⟩:=p;exact⟨_,q⟩,fun h1 h2 p1 k=>by obtain⟨o,ts,q,r⟩:=p1;exact⟨o,ts,k _ q,r⟩⟩
theorem Fz {P:Program}{w:World}{H:Hp}{h:Heap}{C e T:Addr}{dct:Qj}(p:phF C e dct T h):Z7 P w H h e (.ext (phF C e dct T)):=⟨p,by obtain⟨o,_,q,_⟩:=p;exact⟨_,q⟩,fun h1 h2 p1 k=>by obtain⟨o,ts,q,r⟩:=p1;exact⟨o,ts,k _ q,r⟩⟩
abbrev left (C e:Addr)(dct:Qj)(T:Addr)(H:Hp):Hp:=upd (upd H e (.ext (phF C e dct T))) T (.ext (phT T))
section
variable {X:Cx}{Xbs:Qc}{σ:St}{H:Hp}{s:Shared}
theorem Ki {C e T:Addr}{dct:Qj}{vs:Array Value}{sl:Array (Qf)}{h':Heap}(I:Qr X Xbs σ H s)(mu:Mut (H e))
 (he:s.heap.get? e=some { cls:=.ref C,dict:=dct,data:=.fields vs,slots:=sl }) (hsz:1<vs.size)
 (Z:Leaves X.stack e { cls:=.ref C,dict:=dct,data:=.fields vs,slots:=sl } s.heap h' T):Qr X Xbs σ (left C e dct T H) { s with heap:=h' }:=by
 have hTe:T≠e:=X7 (Xv (Xj he) Z.new)
 have hnone:∀b,H b=none->b≠e:=fun b hb q=>by subst q;rw[hb]at mu;exact mu
 have hlt:∀b o,H b=some o->b≠T:=fun b o hb=>Xo (Xv (I.hok.lt hb) Z.new)
 have hne:∀b o,H b=some o->b≠e->left C e dct T H b=some o:=fun b o hb q=>by
  unfold left;rw[Qx (hlt b o hb),Qx q];exact hb
 have nfr:∀b o,H b=some o->b∉frs X.stack:=fun b o hb q=>by rw[I.stkFree b q]at hb;cases hb
 have nmu:∀b o,H b=some o->¬Mut (some o)->b≠e:=fun b o hb n q=>by subst q;rw[hb]at mu;exact n mu
 have U:Un (frs X.stack) [] H (left C e dct T H) s.heap h' :=
  { keep:=fun b o ho hb hf _=>Z.keep b o hf (hnone b hb) ho
    slot:=fun b o ho hb hf _=>Z.slot b o hf ho
    free:=fun b o ho hb _=>by
     unfold left;rw[Qx (Xo (Xv (Xj ho) Z.new)),Qx (hnone b hb)];exact hb
    there:=fun b o ho _=>by
     by_cases hf:b∈frs X.stack
     ·obtain⟨sl,z⟩:=Z.slot b o hf ho;exact⟨_,z⟩
     ·by_cases q:b=e
      ·subst q;exact⟨_,Z.exc⟩
      ·exact⟨_,Z.keep b o hf q ho⟩
    tups:=fun b xs hb=>hne b _ hb (nmu b _ hb (fun z=>z))
    frzs:=fun b o u hb=>hne b _ hb (nmu b _ hb (fun z=>z))
    tupo:=fun b xs o hb ho _=>Z.keep b o (nfr b _ hb) (nmu b _ hb (fun z=>z)) ho
    tbls:=fun b ps hb=>⟨#[],by rw[hne b _ hb (nmu b _ hb (fun z=>z))];simp⟩ }
 have hok:HOk X.prog X.w (left C e dct T H) h':=fun b u hb=>by
  by_cases q:b=T
  ·subst q
   unfold left at hb;rw[QR]at hb;cases hb;exact FG Z.tb
  ·by_cases q2:b=e
   ·subst q2
    unfold left at hb;rw[Qx q,QR]at hb;cases hb;exact Fz ⟨_,_,Z.exc,by simp[hsz]⟩
   ·have hb':H b=some u:=by unfold left at hb;rw[Qx q,Qx q2]at hb;exact hb
    refine(I.hok b u hb').stay (fun c v hc hv=>?_) (fun c hc=>?_) fun c xs hc=>?_
    ·rcases hc with z|z
     ·subst z;exact Z.keep c v (nfr c _ hb') q2 hv
     ·exact Z.keep c v (nfr c _ z) (nmu c _ z (fun z=>z)) hv
    ·exact hne c _ hc (nmu c _ hc (fun z=>z))
    ·exact hne c _ hc (nmu c _ hc (fun z=>z))
 obtain⟨hh,g,d,t,os⟩:=s
 exact I.call (h':=h') (g':=g) (d':=d) (t':=t) (ch:=[]) U hok I.bare fun b z=>nomatch z
end
def Fly (C e:Addr)(dct:Qj)(H:Hp):Prop := ∃T,T≠e/\H e=some (.ext (phF C e dct T))/\H T=some (.ext (phT T))
def XE (C:Addr)(R:Addr->Qj->Hp->Prop):XK:=fun v dct H=>∃e,v=.ref e/\Fly C e dct H/\R e dct H
def CX1 (P:Program)(w:World):CXT:=fun outer H s E v s'=>∃dct H',s'.os=s.os/\AllBare s'.gens/\Un (frs outer) [] H H' s.heap s'.heap/\HOk P w H' s'.heap/\E v dct H'
def Wb (C:Addr)(R:Addr->Qj->Hp->Prop):Prop := ∀e dct H T,R e dct H->H T=none->T≠e->R e dct (left C e dct T H)
section
variable {P:Program}{w:World}{K:W.Frag}{mg:Str->Qf}{base:Heap}{N:Qh}{qual:Str}{scope:Scope}{f:Addr}{cd:Value}{A:Around}{outer:List Env}{s0:Shared}{H0:Hp}{C:Addr}{R:Addr->Qj->Hp->Prop}
abbrev cx1 (P:Program)(w:World)(K:W.Frag)(mg:Str->Qf)(base:Heap)(N:Qh)(qual:Str)(scope:Scope)(f:Addr)(cd:Value)(A:Around)(outer:List Env)(s0:Shared)(H0:Hp)(E:XK):Cx:=VM (CX1 P w) P w K mg base N qual scope f cd A outer s0 H0 E
variable {Xbs:Qc}{σ:St}{H:Hp}{s:Shared}
theorem Ij {e T:Addr}{dct:Qj}(h:T≠e):Fly C e dct (left C e dct T H):=⟨T,h,by unfold left;rw[Qx (Ne.symm h),QR],by unfold left;rw[QR]⟩
theorem R1 {e:Addr}{dct:Qj}{h':Heap}{T:Addr}(hR:Wb C R)(I:Qr (cx1 P w K mg base N qual scope f cd A outer s0 H0 (XE C R)) Xbs σ (left C e dct T H) { s with heap:=h' })(hT:H T=none)(hTe:T≠e)(r:R e dct H) :
 CX1 P w outer H0 s0 (XE C R) (.ref e) { s with heap:=h' }:=⟨dct,_,I.os,I.bare,I.base,I.hok,e,rfl,Ij hTe,hR e dct H T r hT hTe⟩
theorem EZ {e:Addr}{dct:Qj}(hR:Wb C R)(I:Qr (cx1 P w K mg base N qual scope f cd A outer s0 H0 (XE C R)) Xbs σ H s)(he:H e=some (.ext (phX C e dct)))(r:R e dct H) :
 (cx1 P w K mg base N qual scope f cd A outer s0 H0 (XE C R)).xe (.ref e) s:=by
 obtain⟨⟨t,sl,hx⟩,_,_⟩:=I.hok e _ he
 refine ZjZ I.ok.frames I.stack rfl hx rfl rfl fun h' T Z=>?_
 exact R1 hR (Ki I (by rw[he];trivial) hx (by simp) Z) (I.hok.fresh Z.new) (X7 (Xv (Xj hx) Z.new)) r
theorem NL (hR:Wb C R):We (CX1 P w) (cx1 P w K mg base N qual scope f cd A outer s0 H0 (XE C R)) (XE C R):=by
 intro Xbs σ H s v s' I h;obtain⟨dct,H',os,bare,un,hok,e,rfl,⟨T0,hT0,he,hT⟩,r⟩:=h
 obtain⟨hh,g,d,t,os'⟩:=s'
 obtain rfl:os'=s.os:=os
 have I2:=I.call (h':=hh) (g':=g) (d':=d) (t':=t) (ch:=[]) un hok bare (fun b z=>nomatch z)
 obtain⟨⟨vs,sl,hx,h1⟩,_,_⟩:=I2.hok e _ he
 obtain⟨⟨oT,ts,hx2,h2,h3⟩,_,_⟩:=I2.hok T0 _ hT
 refine OW I2.ok.frames I2.stack rfl hx rfl h1 hT0 hx2 h2 h3 fun h' T Z=>?_
 exact R1 hR (Ki I2 (by rw[he];trivial) hx (Array.getElem?_eq_some_iff.mp h1).1 Z) (I2.hok.fresh Z.new) (X7 (Xv (Xj hx) Z.new)) r
end
section
variable {X:Cx}{C Y f:Addr}{e:Expr}{te:TE}{pos:Pos}{R:Addr->Qj->Hp->Prop}
theorem Eb (c:Jh X.K Y C f)(calm:X.calm=true)(hv:PE X e te)(hx:∀Xbs σ H s a dct,Qr X Xbs σ H s->H a=some (.ext (phX C a dct))->R a dct H->X.xe (.ref a) s):PS X (.Raise (some e) none pos) (sXR C te R):=by
 intro Xbs s σ H D I h;rw[arm_exec_Raise];simp only[evalOpt,Option.map];refine Xa (wpAny_standAt (CM (C:=C) (I.ok.hd calm) (Xa (Q8 (hv Xbs s σ H _ I h) fun u s1 ⟨v,H1,I1,r,a,dct,ev,ea,q⟩=>Xa (wpAny_standAt (Xi ?_))))))
 subst ev;obtain rfl:u=Value.ref a:=r
 obtain⟨⟨t,sl,hx1⟩,_,_⟩:=I1.hok a _ ea
 obtain⟨bmB,bm,nm,qn,N,bs,hdct,sn,sub,ab,col,dd,k0,k1,k2,k3,k5,FB,T,hC,_⟩:=c.cls _ I1.kIn
 exact⟨a,t,dct,sl,bm,nm,qn,N,bs,hdct,sn,sub,ab,col,dd,k0,k1,k2,k3,k5,_,rfl,T.hasType FB.hasBase,hC,hx1,hx _ _ _ _ _ _ I1 ea q⟩
end
inductive Lefts (C e:Addr)(dct:Qj):Hp->Hp->Prop
 |nil {H}:Lefts C e dct H H
 |step {H H' T}:Lefts C e dct H H'->H' T=none->T≠e->Lefts C e dct H (left C e dct T H')
theorem Lefts.head {C e:Addr}{dct:Qj}{H H':Hp}{T:Addr}(hT:H T=none)(he:T≠e)(h:Lefts C e dct (left C e dct T H) H'):Lefts C e dct H H':=by
 induction h with
 |nil=>exact .step .nil hT he
 |step _ a b ih=>exact .step ih a b
def EH (C:Addr)(th:TS)(D:Ends)(n:Nat):XK:=XE C fun e dct H=>∀(σ:St) H',σ.length=n->Lefts C e dct H H'->th D σ H'
theorem SX {C:Addr}{th:TS}{D:Ends}{n:Nat}:Wb C fun e dct H=>∀(σ:St) H',σ.length=n->Lefts C e dct H H'->th D σ H':=fun _ _ _ _ r hT hTe σ H' hl hL=>r σ H' hl (.head hT hTe hL)
def XW (X:Cx)(C:Addr)(th:TS)(D:Ends)(pn:Qc)(v:Value)(s:Shared):Prop := ∃(σ:St) (H:Hp) (dct:Qj),Qr { X with pn:=pn } [] σ H s/\EH C th D X.N.length v dct H
abbrev Gq (X:Cx)(C:Addr)(th:TS)(D:Ends)(pn:Qc):Cx:={ X with pn:=pn,xe:=XW X C th D pn }
abbrev J1 (X:Cx)(e:Addr)(pn:Qc):Cx:={ X with pn:=pn,A:=X.A.mark (some (.ref e)),calm:=false,xe:=fun _ _=>False }
section
variable {X:Cx}{Xbs:Qc}{σ:St}{H:Hp}{s:Shared}{C:Addr}{th:TS}{D:Ends}
theorem Qr.toPn (I:Qr X Xbs σ H s):Qr { X with pn:=X.pn++Xbs } [] σ H s :=
 ⟨⟨I.ok.mod,I.ok.kind,I.ok.glob,I.ok.blt,I.ok.above,I.ok.inj,I.ok.has,I.ok.cab,I.ok.hd,I.ok.frames,I.ok.stk,I.ok.exf,I.ok.bs,I.ok.bsz,I.ok.noex,I.ok.exfs,I.ok.funs,I.ok.frf⟩,I.os,I.bare,I.base,I.loc,I.cell,I.free,I.freeC,fun p hp=>I.pin p (by simpa using hp),I.hok,I.len⟩
theorem Qr.ofPn {pins':Qc}(I:Qr { X with pn:=X.pn++Xbs } pins' σ H s):Qr X Xbs σ H s :=
 ⟨⟨I.ok.mod,I.ok.kind,I.ok.glob,I.ok.blt,I.ok.above,I.ok.inj,I.ok.has,I.ok.cab,I.ok.hd,I.ok.frames,I.ok.stk,I.ok.exf,I.ok.bs,I.ok.bsz,I.ok.noex,I.ok.exfs,I.ok.funs,I.ok.frf⟩,I.os,I.bare,I.base,I.loc,I.cell,I.free,I.freeC,fun p hp=>I.pin p (JA _ hp),I.hok,I.len⟩
theorem Qr.toTry {pn:Qc}(I:Qr { X with pn:=pn } Xbs σ H s):Qr (Gq X C th D pn) Xbs σ H s:=I.wish _
theorem Qr.ofTry {pn:Qc}(I:Qr (Gq X C th D pn) Xbs σ H s):Qr { X with pn:=pn } Xbs σ H s:=I.unwish (X:={ X with pn:=pn })
theorem Qr.toHandler {pn:Qc}{e:Addr}(I:Qr { X with pn:=pn } Xbs σ H s):Qr (J1 X e pn) Xbs σ H s :=
 ⟨⟨I.ok.mod,I.ok.kind,I.ok.glob,I.ok.blt,I.ok.above,I.ok.inj,I.ok.has,I.ok.cab,(fun z=>by cases z),I.ok.frames,I.ok.stk,I.ok.exf,I.ok.bs,I.ok.bsz,I.ok.noex,I.ok.exfs,I.ok.funs,I.ok.frf⟩,I.os,I.bare,I.base,I.loc,I.cell,I.free,I.freeC,I.pin,I.hok,I.len⟩
theorem Qr.ofHandler {pn:Qc}{e:Addr}(hc:X.Ok)(I:Qr (J1 X e pn) Xbs σ H s):Qr { X with pn:=pn } Xbs σ H s :=
 ⟨⟨I.ok.mod,I.ok.kind,I.ok.glob,I.ok.blt,I.ok.above,I.ok.inj,I.ok.has,I.ok.cab,hc.hd,hc.frames,I.ok.stk,I.ok.exf,I.ok.bs,I.ok.bsz,I.ok.noex,I.ok.exfs,I.ok.funs,I.ok.frf⟩,I.os,I.bare,I.base,I.loc,I.cell,I.free,I.freeC,I.pin,I.hok,I.len⟩
theorem Io {pn:Qc}:We (CX1 X.prog X.w) (Gq X C th D pn) (EH C th D X.N.length):=by
 intro Xbs σ H s v s' I h;obtain⟨dct,H',os,bare,un,hok,hE⟩:=h
 obtain⟨hh,g,d,t,os'⟩:=s'
 obtain rfl:os'=s.os:=os
 have I2:=I.call (h':=hh) (g':=g) (d':=d) (t':=t) (ch:=[]) un hok bare (fun b z=>nomatch z)
 exact⟨σ,H',dct,I2.ofTry.pins_of (fun p hp=>by cases hp),hE⟩
theorem SP.ofPn {f:Flow}{s':Shared}{pins':Qc}{E:Qb}(h:SP { X with pn:=X.pn++Xbs,xe:=E } pins' D f s'):SP X Xbs D f s':=by
 have o:∀{σ' H'},Qr { X with pn:=X.pn++Xbs,xe:=E } pins' σ' H' s'->Qr X Xbs σ' H' s':=fun I=>Qr.ofPn (I.unwish (X:={ X with pn:=X.pn++Xbs }))
 cases f with
 |next=>obtain⟨σ',H',I,q⟩:=h;exact⟨σ',H',o I,q⟩
 |brk=>obtain⟨σ',H',I,q⟩:=h;exact⟨σ',H',o I,q⟩
 |cont=>obtain⟨σ',H',I,q⟩:=h;exact⟨σ',H',o I,q⟩
 |ret u=>obtain⟨v,σ',H',I,r,q⟩:=h;exact⟨v,σ',H',o I,r,q⟩
theorem SP.ofHandler {f:Flow}{s':Shared}{e:Addr}(hc:X.Ok)(h:SP (J1 X e (X.pn++Xbs)) [] D f s'):SP X Xbs D f s':=by
 cases f with
 |next=>obtain⟨σ',H',I,q⟩:=h;exact⟨σ',H',(I.ofHandler hc).ofPn,q⟩
 |brk=>obtain⟨σ',H',I,q⟩:=h;exact⟨σ',H',(I.ofHandler hc).ofPn,q⟩
 |cont=>obtain⟨σ',H',I,q⟩:=h;exact⟨σ',H',(I.ofHandler hc).ofPn,q⟩
 |ret u=>obtain⟨v,σ',H',I,r,q⟩:=h;exact⟨v,σ',H',(I.ofHandler hc).ofPn,r,q⟩
end
theorem ZkJ {M:Model}{A:Around}{E:Qb}{s:Shared}{C e T:Addr}{dct:Qj}{Q:Unit->Shared->Prop}(he:phF C e dct T s.heap)(hT:phT T s.heap)
 (h:∀h',(∀b o,s.heap.get? b=some o->h'.get? b=some o)->Q () { s with heap:=h' }):wpAny M A (setFlight (.ref e) none) Q E s:=by
 obtain⟨vs,sl,hx,h1⟩:=he
 obtain⟨oT,ts,hx2,hdT,h3⟩:=hT
 have hsz3:3<ts.size:=(Array.getElem?_eq_some_iff.mp h3).1
 have same:Obj.mapFields (·.setIfInBounds 3 Value.none) oT=oT:=by
  obtain⟨c,d,dt,sl⟩:=oT
  subst hdT;have:ts.setIfInBounds 3 Value.none=ts:=by
   apply Array.ext_getElem?
   intro i;rw[Array.getElem?_setIfInBounds];by_cases hi:3=i
   ·subst hi;rw[Xc rfl,Xc hsz3,h3]
   ·rw[Xb hi]
  unfold Obj.mapFields;simp[this]
 refine wpAny_setFlight_none hx rfl h1 hx2 hdT hsz3 (h _ fun b o hb=>?_)
 by_cases q:b=T
 ·subst q
  rw[hx2]at hb;cases hb;rw[JB _ hx2 (Obj.isFreed_of_fields (Obj.data_mapFields hdT _)),same]
 ·rw[X5 _ _ (Ne.symm q)];exact hb
def Dl (tb:Ends->TS):TS:=fun D σ H=>tb D D σ H
section
variable {X:Cx}{C Y f:Addr}{th:TS}{tb:Ends->TS}{body suite:List Stmt}{b0:Stmt}{x:Str}{np hpos pos:Pos}{rest:List ExceptHandler}
theorem A6 {pn:Qc}{Q:Flow->Shared->Prop}{E:Qb}{e T0:Addr}{dct:Qj}{σ:St}{H:Hp}{s:Shared}{D:Ends}(c:Jh X.K Y C f)(hok:X.Ok)(hst:X.stack=X.env::X.outer)(hfr:X.env.frame=some X.env.locals)(hg:Gl X x)(hm:X.mg x=some (.ref C))
 (hh:∀e pn,PSs (J1 X e pn) (b0::suite) th) (I:Qr { X with pn:=pn } [] σ H s) (hT0:T0≠e) (he:H e=some (.ext (phF C e dct T0))) (hT:H T0=some (.ext (phT T0)))
 (hd:(x==("__debug__" : Str))=false)
 (hq:∀T,H T=none->T≠e->th D σ (left C e dct T H)) (hQ:∀f s',SP (J1 X e pn) [] D f s'->Q f s') :
 wpAny (model X.prog X.w) X.A (noteFrame (.ref e) X.env) (fun _ s2=>wpAny (model X.prog X.w) X.A (setFlight (.ref e) none) (fun _ s3=>wpAny (model X.prog X.w) X.A (handleBy (.ref e) X.env (.ExceptHandler (some (.Name x np)) none (b0::suite) hpos::rest)) Q E s3) E s2) E s:=by
 obtain⟨⟨vs,sl,hx,h1⟩,_,_⟩:=I.hok e _ he
 obtain⟨⟨oT,ts,hx2,h2,h3⟩,_,_⟩:=I.hok T0 _ hT
 have fr:X.A.frames=some (X.env::X.outer):=by rw[hok.frames,hst]
 have ff:=I.stack
 have ff:s.heap.FunFrames X.base (X.env::X.outer):=by rw[<- hst];exact ff
 refine Lc fr ff hfr hx rfl h1 hT0 hx2 h2 h3 fun h' T Z=>?_
 have J:=Ki I (by rw[he];trivial) hx (Array.getElem?_eq_some_iff.mp h1).1 (by show Leaves X.stack _ _ _ _ _;rw[hst];exact Z)
 have hTn:H T=none:=I.hok.fresh Z.new
 have hTe:T≠e:=X7 (Xv (Xj hx) Z.new)
 have JH:Qr (J1 X e pn) [] σ (left C e dct T H) { s with heap:=h' }:=J.toHandler
 refine wpAny_handleBy_cons (codeAny_handlers_test (UO JH hg hm ?_ hd)) (by intro q;cases q)
 obtain⟨bmB,bm,nm,qn,N,bs,hdct,sn,sub,ab,col,dd,k0,k1,k2,k3,k5,FB,TT,hC,_⟩:=c.cls _ J.kIn
 refine wpAny_excMatches_sub_self hC Z.exc rfl (TT.hasType FB.hasBase) (codeAny_handlers_suite ?_)
 have o1:left C e dct T H e=some (.ext (phF C e dct T)):=by unfold left;rw[Qx (Ne.symm hTe),QR]
 have o2:left C e dct T H T=some (.ext (phT T)):=by unfold left;rw[QR]
 obtain⟨p1,_,_⟩:=JH.hok e _ o1
 obtain⟨p2,_,_⟩:=JH.hok T _ o2
 refine ZkJ p1 p2 fun h2 k2=>?_
 have J2:Qr (J1 X e pn) [] σ (left C e dct T H) { s with heap:=h2 }:=JH.kept (t':=s.toks) k2
 exact wpAny_mono (hh e pn [] _ σ _ D J2 (hq T hTn hTe)) (fun f s' z=>hQ f s' z) fun _ _ z=>False.elim z
theorem Fw (c:Jh X.K Y C f)(hst:X.stack=X.env::X.outer)(hfr:X.env.frame=some X.env.locals)(hg:Gl X x)(hm:X.mg x=some (.ref C))
 (hb:∀D pn,PSs (Gq X C th D pn) body (tb D)) (hh:∀e pn,PSs (J1 X e pn) (b0::suite) th) (hd:(x==("__debug__" : Str))=false:=by decide) :
 PS X (.Try body (.ExceptHandler (some (.Name x np)) none (b0::suite) hpos::rest) [] [] pos) (Dl tb):=by
 intro Xbs s σ H D I h;have I1:Qr (Gq X C th D (X.pn++Xbs)) [] σ H s:=I.toPn.toTry
 refine wpAny_Try_except (wpAny_mono (hb D (X.pn++Xbs) [] s σ H D I1 h) (fun fl s1 q=>?_) fun v s1 q=>?_)
 ·have q':=SP.ofPn q
  cases fl with
  |next=>exact wpAny_execs_nil q'
  |ret u=>exact q'
  |brk=>exact q'
  |cont=>exact q'
 ·obtain⟨σ1,H1,dct,J,e,rfl,⟨T0,hT0,he,hT⟩,hq⟩:=q
  exact A6 c I.ok hst hfr hg hm hh J hT0 he hT hd (fun T a b=>hq σ1 _ J.len (.step .nil a b)) fun fl s' z=>SP.ofHandler I.ok z
end
end L2
namespace L2
open PySem PySem.Spec PyProof.Rows PySem.W
abbrev N5:Qe:=[.type "ValueError",.type "Exception",.type "BaseException",.type "object"]
theorem Zm9 {K:Frag}{h:Heap}{N:Addr}{mg:Str->Qf}{n:Str}{v:Value}(X:K.In h)(G:h.Ns N mg)(e:nsIn K N n=some (some v)):mg n=some v:=by
 obtain⟨o,es,ep,ho,hd,_,hf⟩:=G
 unfold nsIn at e;split at e
 ·rename_i c d es' n' sl q
  have:=X _ _ q
  rw[ho]at this;cases this
  cases hd
  split at e
  ·rename_i he
   cases e
   rw[<- hf];unfold nsFind findBy;rw[<- Array.find?_toList,he];rfl
  ·split at e<;>cases e
 ·cases e
def DL (K:Frag)(C f:Addr):Bool:=match K.lookup C with
 |some ⟨.type "type",_,.cls cd,sl⟩=>(match cd.mro,sl.toList with
   |.ref C'::bm,[_,_,_,_,some (.builtin n),_]=>C'==C&&n == "ValueError.__new__" && !cd.hasDel&&tailIn K N5 bm&&nsOkIn K cd.ns&&nsIn K cd.ns "__init__" == some (some (.ref f))
   |_,_=>false)
 |_=>false
theorem Ft {K:Frag} {Y C f:Addr} {fo:Obj} (q:DL K C f=true) (lf:K.lookup f=some fo) (hf:fo.cls=.type "function")
 (ga:specialIn K (.ref Y) "__getattribute__"=some (some (.builtin "type.__getattribute__"))) (rd:readsIn K Y (.type "type")=true) (ini:findCls K (.ref Y) (.type "type") "__init__"=some (.val (.builtin "ValueError.__init__"))):Jh K Y C f where
 ga:=ga
 rd:=rd
 ini:=ini
 cls:=fun h X=>by
  unfold DL at q;split at q
  ·rename_i dd cd sl ho
   split at q
   ·rename_i C' bm k0 k1 k2 k3 n k5 hm hs
    simp only[YT,beq_iff_eq,Bool.not_eq_true']at q;obtain⟨⟨⟨⟨⟨rfl,rfl⟩,hdel⟩,ht⟩,hok⟩,hni⟩:=q
    obtain⟨nm,bs,mro,ns,qn,hd,sn,sub,ab,col,del⟩:=cd
    dsimp only at hm hdel hok hni;subst hm hdel;have hsl:sl=#[k0,k1,k2,k3,some (.builtin "ValueError.__new__"),k5]:=by
     obtain⟨l⟩:=sl
     simp only at hs
     rw[hs]
    subst hsl;have G:h.Ns ns _:=.of_isNs (isNs_of_in X hok)
    exact⟨N5,bm,nm,qn,ns,bs,hd,sn,sub,ab,col,dd,k0,k1,k2,k3,k5,PySem.F.excBase_ValueError,tail_of_in X ht,X _ _ ho,_,fo,G,Zm9 X G hni,X _ _ lf,hf⟩
   ·cases q
  ·cases q
end L2
namespace L2
open PySem PySem.Spec PyProof.Rows
def JJ (P:Program)(w:World)(K:W.Frag)(mg:Str->Qf)(base:Heap)(x:Str)(ps:Qh)(k:Nat)(sp:Sp):Prop :=
 ∃f fd,mg x=some (.ref f)/\W.keepIn K (.ref f)=true/\VN K fd ps []/\FnOk P w K mg base (CX1 P w) k f fd ps sp
section
variable {P:Program}{w:World}{K:W.Frag}{mg:Str->Qf}{base:Heap}
theorem Fun.okX {x qual:Str}{st:Stmt}{f:Addr}{fd:FuncData}{N ps:Qh}{k:Nat}{sp:Sp}(F:Fun K x qual st f fd)(S:Qp N ps (Q1 st))(len:∀vs H Q E,sp vs H Q E->vs.length=ps.length)
 (Xbt:∀(cdv:Value) (A:Around) (outer:List Env) (s:Shared) (H:Hp) (vs:List V) (Q:VK) (E:XK),Room k (A.deeper (envOfC qual (Q1 st) s.heap.objs.size f cdv))->sp vs H Q E ->
  ∃t,PSs (cx1 P w K mg base N qual (Q1 st) f cdv A outer s H E) (Z3 st) t/\t { nx:=fun _ H'=>Q .non H',rt:=Q } (start N vs) H):FnOk P w K mg base (CX1 P w) (k+1) f fd ps sp:=by
 obtain⟨oc,od,kV,doc,pm,an,cdv,ct,osl,rfl,lk,hcd⟩:=F.ex
 exact NC lk hcd S len fun A outer s H vs Q E hr hsp=>Xbt cdv A outer s H vs Q E hr hsp
theorem Df.calX {x:Str}{st:Stmt}{N ps:Qh}{k:Nat}{sp:Sp}(D:Df K mg x st ps)(S:Qp N ps (Q1 st))(len:∀vs H Q E,sp vs H Q E->vs.length=ps.length)
 (Xbt:∀(f:Addr) (cdv:Value) (A:Around) (outer:List Env) (s:Shared) (H:Hp) (vs:List V) (Q:VK) (E:XK),Room k (A.deeper (envOfC x (Q1 st) s.heap.objs.size f cdv))->sp vs H Q E ->
  ∃t,PSs (cx1 P w K mg base N x (Q1 st) f cdv A outer s H E) (Z3 st) t/\t { nx:=fun _ H'=>Q .non H',rt:=Q } (start N vs) H):JJ P w K mg base x ps (k+1) sp:=by
 obtain⟨f,fd,F,hm,hb⟩:=D.ex
 exact⟨f,fd,hm,F.kp,hb,F.okX S len fun cdv A outer s H vs Q E hr h=>Xbt f cdv A outer s H vs Q E hr h⟩
end
section
variable {X:Cx}
theorem Hu {x:Str}{p pos:Pos}{e:Expr}{es:Qi}{t:TA}{ps:Qh}{j k:Nat}{sp:Sp}{E:XK}(C:JJ X.prog X.w X.K X.mg X.base x ps j sp)(hr:Room k X.A)(hx:We (CX1 X.prog X.w) X E)(ha:PA X (e::es) t)(hj:j<=k:=by walk_at"j")(hg:Gl X x:=by rfl)
 (hdb:(x==("__debug__" : Str))=false:=by decide +kernel)
 (he:starEach (e::es) X.env=(false,eval e X.env)::starEach es X.env:=by rfl) (hpl:(backTo pos (starEach es X.env)).any (·.1)=false:=by rfl):PE X (.Call (.Name x p) (e::es) [] pos) (Yo sp [] E t):=by
 obtain⟨f,fd,hm,hk,hb,F⟩:=C
 exact Sw F (hr.mono hj) hg hm hk hb .nil hx ha hdb he hpl
end
def GJ (K:W.Frag)(C:Addr)(f:Str):Sp:=fun vs H Q _=>∃(e p:Addr) (xs:List V),vs=[.ref e,.ref p]/\H e=some (.ext (phX C e none))/\SqL K H p xs /\
 ∀q dx,H q=none->H dx=none->dx≠q->dx≠e->q≠e->Q .non (upd (upd (upd H q (.lst xs)) e (.ext (phX C e (some dx)))) dx (.xd [(f,.ref q)]))
theorem EA {K:W.Frag}{C:Addr}{f:Str}{n:Nat}{vs:List V}{H:Hp}{Q:VK}{E:XK}(h:GJ K C f vs H Q E) :
 U2 (Wa (tXI C 0)) (sXF C (Zc 0) (tCB (Hl K) (QZ (Zc 1) Zm)) f) { nx:=fun _ H'=>Q .non H',rt:=Q } (vs.map some++List.replicate n none) H:=by
 obtain⟨e,p,xs,rfl,he,hp,hq⟩:=h
 refine⟨e,none,rfl,he,?_⟩
 refine⟨.ref p,rfl,?_⟩
 refine⟨p,xs,rfl,.inl hp,fun q hqn=>?_⟩
 have hqe:q≠e:=fun z=>by subst z;rw[he]at hqn;cases hqn
 refine⟨.ref e,rfl,e,rfl,by rw[Qx (Ne.symm hqe)];exact he,fun dx hdx hde=>?_⟩
 have hdq:dx≠q:=fun z=>by subst z;rw[QR]at hdx;cases hdx
 exact hq q dx hqn (by rw[Qx hdq]at hdx;exact hdx) hdq hde hqe
structure FldL (f:Str)(e:Addr)(F H H0:Hp)(ds:Qd)(dx q:Addr)(xs:List V):Prop where
 hd:H dx=some (.xd [(f,.ref q)])
 hq:H q=some (.lst xs)
 fq:F q=none
 rp:Qw F xs ds
 nd:dx≠e
 nq:q≠e
 dq:dx≠q
 fe:F e=none
 fd:F dx=none
 q0:H0 q=none
 d0:H0 dx=none
def Fld (f:Str)(e:Addr)(F H H0:Hp)(dct:Qj)(ds:Qd):Prop := ∃dx q xs,dct=some dx/\FldL f e F H H0 ds dx q xs
theorem Fld.back {f:Str}{e:Addr}{F H H0 H1:Hp}{dct:Qj}{ds:Qd}(h:Fld f e F H H1 dct ds)(s:QC H0 H1):Fld f e F H H0 dct ds:=by
 obtain⟨dx,q,xs,a,b⟩:=h
 exact⟨dx,q,xs,a,b.hd,b.hq,b.fq,b.rp,b.nd,b.nq,b.dq,b.fe,b.fd,s.free b.q0,s.free b.d0⟩
def spX (K:W.Frag)(C:Addr)(f:Str)(R:List OT->(OT->Prop)->Prop)(Rx:List OT->(Qd->Prop)->Prop):Sp:=fun vs H Q E=>∃F ts,KTs K F/\QC F H/\Args K F vs ts/\∃RR,E=XE C RR/\Wb C RR /\
 ((∃Φ,R ts Φ/\∀F' H' v p r,Φ r->QA F H F' H'->(∀a∈p,H a=none)->Zz K F' H' v r p->Q v H')\/(∃Φx,Rx ts Φx/\∀F' H' e dct d,Φx d->QA F H F' H'->H e=none->Fld f e F' H' H dct d->RR e dct H'))
def EvZ (K:W.Frag)(F0 H0:Hp)(t:TS)(ρ:QG):Prop := ∀(F:Hp) (σ:St) (H:Hp) (E:Ends),QA F0 H0 F H->QT K H0 F ρ σ H->t E σ H
section
variable {P:Program}{w:World}{K:W.Frag}{mg:Str->Qf}{base:Heap}
theorem PF {N ps:Qh}{vs:List V}{ts:List OT}{F H:Hp}(kt:KTs K F)(sm:QC F H)(ha:Args K F vs ts)(hl:ts.length<=N.length):QT K H F (ts.map some++List.replicate (N.length-ts.length) none) (start N vs) H:=by
 refine⟨kt,sm,?_,fun _=>[],fun i t' e=>?_,fun i j a h=>(nomatch h),fun i a h=>(nomatch h)⟩
 ·unfold start
  simp[ha.length]
 ·have hlt:i<ts.length:=by
   by_cases z:i<ts.length
   ·exact z
   ·rw[Ut (by simpa using z)]at e
    have:=List.mem_of_getElem? e
    simp at this
  rw[XX (by simpa using hlt),Xk]at e;have e':ts[i]?=some t':=by
   cases z:ts[i]? with
   |none=>rw[z]at e;simp at e
   |some w=>rw[z]at e;simp at e;rw[e]
  obtain⟨v,e1,e2⟩:=ha.get (H:=H) i t' e'
  refine⟨v,?_,e2⟩
  unfold start;have hl2:i<vs.length:=by rw[ha.length];exact hlt
  rw[XX (by simpa using hl2),Xk,e1];rfl
theorem Df.evZ {x:Str}{st:Stmt}{N ps:Qh}{k:Nat}{C:Addr}{fl:Str}{R:List OT->(OT->Prop)->Prop}{Rx:List OT->(Qd->Prop)->Prop}(D:Df K mg x st ps)(S:Qp N ps (Q1 st))(len:∀ts Φ,R ts Φ->ts.length=ps.length)(lenx:∀ts Φ,Rx ts Φ->ts.length=ps.length)
 (hpn:ps.length<=N.length)
 (hret:∀(f:Addr) (cdv:Value) (A:Around) (outer:List Env) (s:Shared) (H:Hp) RR (ts:List OT) (Φ:OT->Prop),Room k (A.deeper (envOfC x (Q1 st) s.heap.objs.size f cdv))->Wb C RR->R ts Φ ->
  ∃t,PSs (cx1 P w K mg base N x (Q1 st) f cdv A outer s H (XE C RR)) (Z3 st) t/\Q3 K t (ts.map some++List.replicate (N.length-ts.length) none) { nx:=fun _=>Φ (.fz .none),rt:=Φ })
 (hexc:∀(f:Addr) (cdv:Value) (A:Around) (outer:List Env) (s:Shared) (F H:Hp) RR (ts:List OT) (Φx:Qd->Prop),Room k (A.deeper (envOfC x (Q1 st) s.heap.objs.size f cdv))->Wb C RR->(∀F' H' e dct d,Φx d->QA F H F' H'->H e=none->Fld fl e F' H' H dct d->RR e dct H')->Rx ts Φx ->
  ∃t,PSs (cx1 P w K mg base N x (Q1 st) f cdv A outer s H (XE C RR)) (Z3 st) t/\EvZ K F H t (ts.map some++List.replicate (N.length-ts.length) none)) :
 JJ P w K mg base x ps (k+1) (spX K C fl R Rx):=by
 refine D.calX S (fun vs H Q E ⟨F,ts,_,_,ha,RR,_,_,q⟩=>?_) fun f cdv A outer s H vs Q E hr ⟨F,ts,kt,sm,ha,RR,eE,st,q⟩=>?_
 ·rcases q with ⟨r,hR,_⟩|⟨r,hR,_⟩
  ·exact ha.length.trans (len ts r hR)
  ·exact ha.length.trans (lenx ts r hR)
 ·subst eE
  rcases q with ⟨Φ,hR,q⟩|⟨Φx,hR,q⟩
  ·obtain⟨t,h1,h2⟩:=hret f cdv A outer s H RR ts Φ hr st hR
   refine⟨t,h1,h2 F H F (start N vs) H _ (QA.refl sm) (PF (ps:=ps) kt sm ha (by rw[len ts Φ hR];exact hpn)) ⟨fun F' σ' H' ρ' x' _ e=>?_,fun F' H' v r' p x' hp ok e=>?_,fun _ _ _ _ _ _ z=>False.elim z,fun _ _ _ _ _ _ z=>False.elim z⟩⟩
   ·exact q F' H' _ [] _ e x' (fun _ z=>nomatch z) ⟨rfl,.non⟩
   ·exact q F' H' v p r' e x' hp ok
  ·obtain⟨t,h1,h2⟩:=hexc f cdv A outer s F H RR ts Φx hr st q hR
   exact⟨t,h1,h2 F (start N vs) H _ (QA.refl sm) (PF (ps:=ps) kt sm ha (by rw[lenx ts Φx hR];exact hpn))⟩
end
section
variable {K:W.Frag}{ρ:QG}{ta:TE}{C:Addr}{f:Str}{F0 H0:Hp}{RR:Addr->Qj->Hp->Prop}{ds:Qd}{E:XK}
theorem Ek {Φx:Qd->Prop}(h:Qt K ta ρ (.list ds))(hd:Φx ds)(hq:∀F' H' e dct d,Φx d->QA F0 H0 F' H'->H0 e=none->Fld f e F' H' H0 dct d->RR e dct H'):EvZ K F0 H0 (sXR C (Dg C (GJ K C f) E (QZ ta Zm)) RR) ρ:=by
 intro F σ H D x S;refine h H0 F σ H _ S fun F1 H1 v x1 rp=>⟨by simp,fun e he=>?_⟩
 cases rp with
 |@lst a xs _ r1 r2 =>
 have ha:H1 a=some (.lst xs):=x1.fh a _ r1
 have hae:a≠e:=fun z=>by subst z;rw[he]at ha;cases ha
 refine⟨e,a,xs,rfl,QR,SqL.of (by rw[Qx hae];exact ha),fun q dx hqn hdn hdq hde hqe=>⟨rfl,e,some dx,rfl,?_,?_⟩⟩
 ·rw[Qx (Ne.symm hde),QR]
 ·have hq1:H1 q=none:=by rw[Qx hqe]at hqn;exact hqn
  have hd1:H1 dx=none:=by rw[Qx hde]at hdn;exact hdn
  have hf1:F1 q=none:=x1.fh.free hq1
  have sm:QC H1 (upd (upd (upd (upd H1 e (.ext (phX C e none))) q (.lst xs)) e (.ext (phX C e (some dx)))) dx (.xd [(f,.ref q)])):=fun b o hb=>by
   have n1:b≠e:=fun z=>by subst z;rw[he]at hb;cases hb
   have n2:b≠q:=fun z=>by subst z;rw[hq1]at hb;cases hb
   have n3:b≠dx:=fun z=>by subst z;rw[hd1]at hb;cases hb
   rw[Qx n3,Qx n1,Qx n2,Qx n1];exact hb
  have X1:=x.trans x1
  have hqh:upd (upd (upd (upd H1 e (.ext (phX C e none))) q (.lst xs)) e (.ext (phX C e (some dx)))) dx (.xd [(f,.ref q)]) q=some (.lst xs):=by
   rw[Qx (Ne.symm hdq),Qx hqe,QR]
  have X2:QA F0 H0 F1 (upd (upd (upd (upd H1 e (.ext (phX C e none))) q (.lst xs)) e (.ext (phX C e (some dx)))) dx (.xd [(f,.ref q)])):=X1.trans ⟨sm,QC.refl _,X1.fh.trans sm,fun b hb=>.inl hb⟩
  exact hq F1 _ e (some dx) ds hd X2 (X1.hh.free he) ⟨dx,q,xs,rfl,QR,hqh,hf1,r2,hde,hqe,hdq,X1.fh.free he,X1.fh.free hd1,X1.hh.free hq1,X1.hh.free hd1⟩
theorem C2 {t u:TS}(M:QG->Prop)(h1:Q3 K t ρ { nx:=M,rt:=fun _=>False })(h2:∀ρ',M ρ'->EvZ K F0 H0 u ρ'):EvZ K F0 H0 (U2 t u) ρ:=fun F σ H E x S =>
 h1 F0 H0 F σ H _ x S ⟨fun F' σ' H' ρ' x' S' e=>h2 ρ' e F' σ' H' E x' S',fun _ _ _ _ _ _ _ _ z=>z.elim,fun _ _ _ _ _ _ z=>False.elim z,fun _ _ _ _ _ _ z=>False.elim z⟩
theorem Fh {t:TS}(i:Nat){ds:Qd}(e:ρ[i]?=some (some (.ol ds)))(h:EvZ K F0 H0 t (ρ.set i (some (.fz (.list ds))))):EvZ K F0 H0 t ρ:=fun F σ H E x S=>by
 obtain⟨a,xs,e1,e2,e3,_,_,S'⟩:=S.freeze e
 exact h _ σ H E (x.freeze e1 e2 e3) S'
theorem FX {t u:TS}(h:EvZ K F0 H0 t ρ):EvZ K F0 H0 (U2 t u) ρ:=fun F σ H E x S=>h F σ H _ x S
theorem Fp {tA:TT}{t u:TS}{b:Bool}(h:Z9 K tA ρ b)(h1:b=true->EvZ K F0 H0 t ρ)(h2:b=false->EvZ K F0 H0 u ρ):EvZ K F0 H0 (Dh tA t u) ρ:=fun F σ H E x S =>
 h H0 F σ H _ S fun F' H' x'=>by
  cases b with
  |true=>rw[Xc rfl];exact h1 rfl F' σ H' E (x.trans x') (S.ext x')
  |false=>rw[Xb (by decide)];exact h2 rfl F' σ H' E (x.trans x') (S.ext x')
theorem Pb {R:List OT->(OT->Prop)->Prop}{Rx:List OT->(Qd->Prop)->Prop}{Φx:Qd->Prop}{t:TA}{ts:List OT}{Q:VK}(hA:ZE K t ρ ts)(hR:Rx ts Φx)(st:Wb C RR)(hq:∀F' H' e dct d,Φx d->QA F0 H0 F' H'->H0 e=none->Fld f e F' H' H0 dct d->RR e dct H'){F H9:Hp}{σ:St}{H:Hp}(x:QA F0 H0 F H)(S:QT K H9 F ρ σ H) :
 Yo (spX K C f R Rx) [] (XE C RR) t σ H Q:=hA H9 F σ H _ S fun F1 H1 vs x1 r1 =>
 ⟨F1,ts,(S.ext x1).kt,x1.fh,by rw[XV];exact r1,RR,rfl,st,.inr ⟨Φx,hR,fun F' H' e dct d hd x2 he hf=>hq F' H' e dct d hd ((x.trans x1).trans x2) ((x.trans x1).hh.free he) (hf.back (x.trans x1).hh)⟩⟩
theorem Ay {R:List OT->(OT->Prop)->Prop}{Rx:List OT->(Qd->Prop)->Prop}{Φx:Qd->Prop}{t:TA}{ts:List OT}(hA:ZE K t ρ ts)(hR:Rx ts Φx)(st:Wb C RR)(hq:∀F' H' e dct d,Φx d->QA F0 H0 F' H'->H0 e=none->Fld f e F' H' H0 dct d->RR e dct H') :
 EvZ K F0 H0 (Wa (Yo (spX K C f R Rx) [] (XE C RR) t)) ρ:=fun F σ H E x S=>Pb hA hR st hq x S
theorem Pn {R:List OT->(OT->Prop)->Prop}{Rx:List OT->(Qd->Prop)->Prop}{Φ:OT->Prop}{t:TA}{ts:List OT}(hA:ZE K t ρ ts)(hR:R ts Φ)(st:Wb C RR):Zy K (Yo (spX K C f R Rx) [] (XE C RR) t) ρ Φ:=fun H0 F σ H Q S q =>
 hA H0 F σ H _ S fun F1 H1 vs x1 r1 =>
  ⟨F1,ts,(S.ext x1).kt,x1.fh,by rw[XV];exact r1,RR,rfl,st,.inl ⟨Φ,hR,fun F2 H2 v p r hr x2 hp ok=>q F2 H2 v p r hr (x1.trans x2) (fun a ha=>x1.hh.free (hp a ha)) ok⟩⟩
theorem E6 {t:TE}{D:PEnds}{Φ:OT->Prop}(h:Zy K t ρ Φ)(hn:D.nx ρ):Q3 K (Wa t) ρ D:=fun F0 H0 F σ H E x S c =>
 h H0 F σ H _ S fun F' H' v p r _ x' _ _=>c.nx F' σ H' ρ (x.trans x') (S.ext x') hn
end
section
variable {K:W.Frag}{ρ:QG}{C:Addr}{th:TS}{tb:Ends->TS}{D:PEnds}{n:Nat}
theorem OR {e:Addr}{dct:Qj}{G H H':Hp}(h:Lefts C e dct H H')(s:QC G H)(he:G e=none):QC G H':=by
 induction h with
 |nil=>exact s
 |@step H1 T h1 hT hTe ih =>
   intro b o hb;have n1:b≠e:=fun z=>by subst z;rw[he]at hb;cases hb
   have hb1:=ih b o hb
   have n2:b≠T:=fun z=>by subst z;rw[hT]at hb1;cases hb1
   unfold left;rw[Qx n2,Qx n1];exact hb1
theorem CS (h:∀E,Q3 K (tb E) ρ D):Q3 K (Dl tb) ρ D:=fun F0 H0 F σ H E x S c=>h E F0 H0 F σ H E x S c
theorem Aw (hth:Q3 K th (List.replicate n none) D)
 (hz:∀(E:Ends) (F0 H0 F:Hp) (σ:St) (H:Hp),QA F0 H0 F H->QT K H0 F ρ σ H->(∀F' H' e dct,QA F H F' H'->H e=none->∀(σ1:St) H'',σ1.length=n->Lefts C e dct H' H''->th E σ1 H'')->tb E E σ H):Q3 K (Dl tb) ρ D:=fun F0 H0 F σ H E x S c=>by
 refine hz E F0 H0 F σ H x S fun F' H' e dct x' he σ1 H'' hl hL=>?_
 have s1:QC H H'':=OR hL x'.hh he
 have s2:QC F H'':=x.fh.trans s1
 refine hth F0 H0 F σ1 H'' E (x.trans ⟨s1,QC.refl _,s2,fun _ h=>.inl h⟩) ⟨S.kt,s2,by rw[hl,List.length_replicate],fun _=>[],fun i t z=>?_,fun _ _ _ z=>(nomatch z),fun _ _ z=>(nomatch z)⟩ c
 rw[List.getElem?_replicate]at z;split at z<;>cases z
end
structure XC (K:W.Frag)(mg:Str->Qf)(x:Str)(Y C f:Addr):Prop where
 cl:Jh K Y C f
 kp:W.keepIn K (.ref C)=true
 m:mg x=some (.ref C)
def D2 (P:Program)(w:World)(K:W.Frag)(mg:Str->Qf)(base:Heap)(f:Addr)(ps:Qh)(k:Nat)(sp:Sp):Prop := ∃fd,VN K fd ps []/\FnOk P w K mg base CX0 k f fd ps sp
section
variable {P:Program}{w:World}{K:W.Frag}{mg:Str->Qf}{base:Heap}{N:Qh}{qual:Str}{scope:Scope}{f f0:Addr}{cd:Value}{A:Around}{outer:List Env}{s0:Shared}{H0:Hp}{Y C:Addr}{RR:Addr->Qj->Hp->Prop}
theorem PP {x:Str}{p pos pos':Pos}{e:Expr}{es:Qi}{t:TA}{ps:Qh}{j k:Nat}{sp:Sp}(c:XC K mg x Y C f)(ci:D2 P w K mg base f ps j sp)(hst:Wb C RR)(hr:Room k (cx1 P w K mg base N qual scope f0 cd A outer s0 H0 (XE C RR)).A)
 (ha:PA (cx1 P w K mg base N qual scope f0 cd A outer s0 H0 (XE C RR)) (e::es) t) (hj:j+1<=k:=by walk_at"j") (hg:Gl (cx1 P w K mg base N qual scope f0 cd A outer s0 H0 (XE C RR)) x:=by rfl)
 (hdb:(x==("__debug__" : Str))=false:=by decide) (he:starEach (e::es) (cx1 P w K mg base N qual scope f0 cd A outer s0 H0 (XE C RR)).env=(false,eval e (cx1 P w K mg base N qual scope f0 cd A outer s0 H0 (XE C RR)).env)::starEach es (cx1 P w K mg base N qual scope f0 cd A outer s0 H0 (XE C RR)).env:=by rfl)
 (hpl:(backTo pos (starEach es (cx1 P w K mg base N qual scope f0 cd A outer s0 H0 (XE C RR)).env)).any (·.1)=false:=by rfl) :
 PS (cx1 P w K mg base N qual scope f0 cd A outer s0 H0 (XE C RR)) (.Raise (some (.Call (.Name x p) (e::es) [] pos)) none pos') (sXR C (Dg C sp E0 t) RR):=by
 obtain⟨fd,hb,F⟩:=ci
 exact Eb c.cl rfl (Eg c.cl c.kp F (hr.mono hj) hg c.m hb B0 ha hdb he hpl) (fun Xbs σ H s a dct I he r=>EZ hst I he r)
end
section
variable {K:W.Frag}{ρ:QG}{ta tb:TE}{t:TA}
theorem Ed {Φ:OT->Prop}{Φ':List OT->Prop}{ts:List OT}(h:Zy K ta ρ Φ)(h2:ZE K t ρ ts)(hi:∀r,Φ r->∃d,U6 r=some d/\Φ' (.fz d::ts)):VG K (QZ ta t) ρ Φ':=fun H0 F σ H Q S q =>
 h H0 F σ H _ S fun F1 H1 v p r hr x hp ok=>by
  obtain⟨d,ed,hp'⟩:=hi r hr
  have X1:QA F H (frF F1 H1 p) H1:=⟨x.hh,x.ff.trans (J0 fun a ha=>(ok.there a ha).1),UP x.fh,fun a ha=>by
   by_cases z:a∈p
   ·exact .inr (hp a z)
   ·rw[Y1 z]at ha;exact x.fr a ha⟩
  exact h2 H0 _ σ H1 _ (S.ext X1) fun F2 H2 vs x2 r2=>q F2 H2 _ _ hp' (X1.trans x2) (.fz ((ok.frz ed).mono x2.ff) r2)
theorem IR {d:PyData}{Φ' Φ:List OT->Prop}(h1:Qt K ta ρ d)(h2:VG K t ρ Φ')(hi:∀ts,Φ' ts->Φ (.fz d::ts)):VG K (QZ ta t) ρ Φ:=fun H0 F σ H Q S q =>
 h1 H0 F σ H _ S fun F1 H1 v x1 r1=>h2 H0 F1 σ H1 _ (S.ext x1) fun F2 H2 vs ts ht x2 r2=>q F2 H2 _ _ (hi ts ht) (x1.trans x2) (.fz (r1.mono x2.ff) r2)
theorem FY {ΦA:List OT->Prop}{Φ:OT->Prop}(h:VG K t ρ ΦA)(hi:∀ts,ΦA ts->∃ds,ts=fzs ds/\ds.length<=1000/\Φ (.fz (.tuple ds))):Zy K (Bw t) ρ Φ:=fun H0 F σ H Q S q =>
 h H0 F σ H _ S fun F1 H1 vs ts ht x1 r1=>by
  obtain⟨ds,rfl,hl,hp'⟩:=hi ts ht
  exact⟨by rw[r1.reps.length];exact XZ (Vv hl),fun p hp=>q _ _ _ [] _ hp' (x1.trans (QA.new x1.fh hp)) (fun _ z=>nomatch z) ⟨rfl,.tup QR (r1.reps.mono (QC.new (x1.fh.free hp)))⟩⟩
theorem Fb {Φ Φ':OT->Prop}{i:Int}(h:Zy K ta ρ Φ)(hb:Qt K tb ρ (.int i))(hi:∀r,Φ r->∃ds d,r=.fz (.tuple ds)/\atI ds i=some d/\Φ' (.fz d)):Zy K (tOp (rIx K) ta tb) ρ Φ':=fun H0 F σ H Q S q =>
 h H0 F σ H _ S fun F1 H1 v p r hr x hp ok=>by
  obtain⟨ds,d,rfl,e,hp'⟩:=hi r hr
  refine hb H0 F1 σ H1 _ (S.ext x) fun F2 H2 y x2 r2=>?_
  obtain⟨a,xs,rfl,h1,h2,_⟩:=WX (K:=K) (ok.2.mono x2.ff) x2.fh
  obtain⟨z,z1,z2⟩:=US h2 e
  cases r2
  exact .inr (.inl ⟨a,xs,i,z,rfl,rfl,h1,z1,q F2 H2 z [] _ hp' (x.trans x2) (fun _ z=>nomatch z) ⟨rfl,z2⟩⟩)
theorem Cd {D:PEnds}{g:Int->Int->Int}{i:Nat}{m n:Int}(e:ρ[i]?=some (some (.fz (.int m))))(h:Qt K ta ρ (.int n))(hn:D.nx (ρ.set i (some (.fz (.int (g m n)))))):Q3 K (Dt i ta (ipI g)) ρ D:=fun F0 H0 F σ H E x S C=>by
 obtain⟨fp,gg,_⟩:=S.fp
 obtain⟨v,e1,_,r⟩:=gg i _ e
 cases r
 refine⟨_,e1,h H0 F σ H _ S fun F1 H1 y x1 r1=>?_⟩
 cases r1
 exact⟨m,n,rfl,rfl,C.nx F1 _ H1 _ (x.trans x1) ((S.ext x1).setF (.int _)) hn⟩
end
abbrev ZJ (lo hi:Option Int)(c:Int)(n:Nat):Int×Int:=Builtin.Slice.sliceAdjust lo hi c (n:Int)
def sPk {α:Type}(lo hi:Option Int)(c:Int)(xs:List α):List α:=(List.range (Builtin.Slice.slicePlaces (ZJ lo hi c xs.length).1 (ZJ lo hi c xs.length).2 c)).filterMap fun(k:Nat)=>xs[((ZJ lo hi c xs.length).1+(k:Int)*c).toNat]?
section
variable {prog:Program}{w:World}{A:Around}{E:Qb}{s:Shared}
theorem Zft {sl:Addr}{vl vu vs:Value}{lo hi:Option Int}{c:Int}{n:Nat}{Q:Int×Int×Nat->Shared->Prop}(hs:s.heap.IsSliceOf sl vl vu vs)(pl:IsPart vl lo)(pu:IsPart vu hi)(ps:IsPart vs (some c))(hc:c≠0)
 (h:Q ((ZJ lo hi c n).1,c,Builtin.Slice.slicePlaces (ZJ lo hi c n).1 (ZJ lo hi c n).2 c) s):wpAny (model prog w) A (Builtin.Slice.sliceApplied (.ref sl) (pure (n:Int))) Q E s:=by
 obtain⟨os,hos,hcs,hds⟩:=id hs
 unfold Builtin.Slice.sliceApplied Builtin.Slice.sliceFields;refine Xa (Xa (WD hos hds (x:=vl) rfl (Xa (WD hos hds (x:=vu) rfl (Xa (WD hos hds (x:=vs) rfl (Xi ?_)))))))
 refine Xa (HT.slicePart_ ps ?_)
 show wpAny _ _ (if (c==0)=true then _ else _) _ _ s
 rw[Xb (by simpa using hc)];refine Xa (HT.slicePart_ pl (Xa (HT.slicePart_ pu (Xa (Xi ?_)))))
 exact Xi h
theorem Zfm {t sl:Addr}{items:Array Value}{vl vu vs:Value}{lo hi:Option Int}{c:Int}{Q:Qb}(ht:IsTup s.heap t items)(hs:s.heap.IsSliceOf sl vl vu vs)(pl:IsPart vl lo)(pu:IsPart vu hi)(ps:IsPart vs (some c))
 (hc:c≠0) (h1:c≠1)
 (h:Q (.ref s.heap.objs.size) { s with heap:=s.heap.push { cls:=.type "tuple",data:=.seq (sPk lo hi c items.toList).toArray } })
 (hsz:(sPk lo hi c items.toList).length<=sizeLine):wpAny (model prog w) A (getItem (.ref t) (.ref sl)) Q E s:=by
 have htake:sizeOk (.seq (sPk lo hi c items.toList).toArray):=by
  show(sPk lo hi c items.toList).toArray.size<=sizeLine
  rw[Xu];exact hsz
 obtain⟨os,hos,hcs,hds⟩:=id hs
 have hTs:s.TypeIs (.ref sl) "slice" := ⟨os,hos,hcs⟩
 unfold getItem;try with_reducible refine wpAny_holding ?_
 first|refine Xa (Xi ?_)|skip
 refine Xa (wpAny_sequenceKey ht.typeIs (by decide) ?_)
 refine Xa (wpAny_callSpecial?_slot (name:=Str.ofString "__getitem__") ht.typeIs PyProof.Rows.slot_tuple_getitem
  (wpAny_call_entry PyProof.Rows.slot_tuple_getitem ht.typeIs entry_tuple_getitem ?_ (args_tuple_getitem _ _)))
 show wpAny _ _ (Builtin.Tuple.tupleItemsOf (.ref t) >>= _) _ _ s
 refine Xa (tupleItemsOf_ ht ?_)
 refine Xa (wpAny_typeOf hTs ?_)
 rw[Xc (by decide)];refine Xa (Zft hs pl pu ps hc ?_)
 have hno:¬(((ZJ lo hi c items.size).1==0&&c==1&&Builtin.Slice.slicePlaces (ZJ lo hi c items.size).1 (ZJ lo hi c items.size).2 c==items.size)=true):=by
  intro q;rw[YT,YT]at q;exact h1 (eq_of_beq q.1.2)
 show wpAny _ _ (if ((ZJ lo hi c items.size).1==0&&c==1&&Builtin.Slice.slicePlaces (ZJ lo hi c items.size).1 (ZJ lo hi c items.size).2 c==items.size)=true then _ else _) _ _ s
 rw[Xb hno];have e:((List.range (Builtin.Slice.slicePlaces (ZJ lo hi c items.size).1 (ZJ lo hi c items.size).2 c)).filterMap fun(k:Nat)=>items[((ZJ lo hi c items.size).1+(k:Int)*c).toNat]?).toArray=(sPk lo hi c items.toList).toArray:=by
  unfold sPk;rw[Array.length_toList];simp only[Array.getElem?_toList]
 dsimp only at e ⊢;rw[e]
 first
  |exact Xa (m:=Builtin.Tuple.tupleExact _) (wpAny_newObj_type (Xi ⟨_,rfl,Xi h⟩) htake)
  |exact Xa (m:=Builtin.Tuple.tupleExact _) (wpAny_newObj_type (Xa (Xi (Xi ⟨_,rfl,Xi h⟩))) htake)
  |exact Xa (Xa (m:=Builtin.Tuple.tupleExact _) (wpAny_newObj_type (Xi (Xi ⟨_,rfl,Xi h⟩)) htake))
  |exact Xa (Xa (m:=Builtin.Tuple.tupleExact _) (wpAny_newObj_type (Xi ⟨_,rfl,Xi h⟩) htake))
end
def Ri (K:W.Frag)(te:TE)(tl th ts:TO):TE:=fun σ H Q=>te σ H fun x H1=>tl σ H1 fun l H2=>th σ H2 fun u H3=>ts σ H3 fun st H4=>∃c a xs,st=some c/\c≠0/\c≠1/\x=.ref a/\SqT K H4 a xs/\(sPk l u c xs).length<=1000/\∀p,H4 p=none->Q (.ref p) (upd H4 p (.tup (sPk l u c xs)))
section
variable {X:Cx}{e:Expr}{te:TE}{lo hi:Option Expr}{se:Expr}{tl th ts:TO}{pos p2:Pos}
theorem ZmV (he:PE X e te)(hl:PO X lo tl)(hu:PO X hi th)(ht:PO X (some se) ts):PE X (.Subscript e (.Slice lo hi (some se) p2) pos) (Ri X.K te tl th ts):=by
 intro Xbs s σ H Q I h;refine Subscript_ (Q8 (he Xbs s σ H _ I h) fun v s1 ⟨x,H1,I1,r1,q1⟩=>?_)
 refine wpAny_Slice (Q8 (hl Xbs s1 σ H1 _ I1 q1) fun vl s2 ⟨l,H2,I2,pl,q2⟩=>Q8 (hu Xbs s2 σ H2 _ I2 q2) fun vu s3 ⟨u,H3,I3,pu,q3⟩=>Q8 (ht Xbs s3 σ H3 _ I3 q3) fun vs s4 ⟨c,H4,I4,ps,q4⟩=>?_)
 obtain⟨c,a,xs,rfl,h0,h1,rfl,hx,hlen1,q⟩:=q4
 cases r1
 have I5:Qr X Xbs σ H4 { s4 with heap:=s4.heap.push { cls:=.type "slice",data:=.fields #[vl,vu,vs] } }:=I4.kept (t':=s4.toks) fun b ob q=>Xf _ q
 obtain⟨its,r,hi',hz⟩:=I5.tuple hx
 have hlen:=r.length
 have rr:QP (sPk l u c xs) (sPk l u c its):=by
  have e1:sPk l u c xs=((List.range (Builtin.Slice.slicePlaces (ZJ l u c xs.length).1 (ZJ l u c xs.length).2 c)).map fun(k:Nat)=>((ZJ l u c xs.length).1+(k:Int)*c).toNat).filterMap fun i=>xs[i]? := by
   unfold sPk;rw[Bp];rfl
  have e2:sPk l u c its=((List.range (Builtin.Slice.slicePlaces (ZJ l u c xs.length).1 (ZJ l u c xs.length).2 c)).map fun(k:Nat)=>((ZJ l u c xs.length).1+(k:Int)*c).toNat).filterMap fun i=>its[i]? := by
   unfold sPk;rw[Bp,<- hlen];rfl
  rw[e1,e2];exact QP.picks r _
 refine tail_any (ops:=[.ref a,.ref s4.heap.objs.size]) hi'.typeIs PyProof.Rows.slot_tuple_getitem.lookup ?_ (by with_unfolding_all rfl)
 refine Zfm hi' (Heap.IsSliceOf.new ..) pl pu ps h0 h1 ?_ (by rw[<- rr.length];exact XZ (Vv hlen1))
 refine⟨.ref _,_,I5.laid (t':=s4.toks) (o:=.tup (sPk l u c xs)) (fun b ob q=>Xf _ q) (Xs _) ?_,rfl,q _ (I5.hok.fresh (Xs _))⟩
 exact⟨XZ (Vv hlen1),_,rr,IsTup.new _ _⟩
end
section
variable {K:W.Frag}{ρ:QG}{te:TE}
theorem Ax {tl th ts:TO}{ds:Qd}{lo hi:Option Int}{c:Int}(h:Qt K te ρ (.tuple ds))(h1:EvP K tl ρ lo)(h2:EvP K th ρ hi)(h3:EvP K ts ρ (some c))(h0:c≠0)(hc1:c≠1)(hl:(sPk lo hi c ds).length<=1000):Qt K (Ri K te tl th ts) ρ (.tuple (sPk lo hi c ds)):=fun H0 F σ H Q S q =>
 h H0 F σ H _ S fun F1 H1 v x1 r1=>h1 H0 F1 σ H1 _ (S.ext x1) fun F2 H2 x2=>h2 H0 F2 σ H2 _ (S.ext (x1.trans x2)) fun F3 H3 x3=>h3 H0 F3 σ H3 _ (S.ext (x1.trans (x2.trans x3))) fun F4 H4 x4=>by
  have x:=x1.trans (x2.trans (x3.trans x4))
  obtain⟨a,xs,rfl,g1,g2,g3⟩:=WX (K:=K) (r1.mono (x2.trans (x3.trans x4)).ff) x.fh
  have rp:Qw F4 (sPk lo hi c xs) (sPk lo hi c ds):=by
   have e1:∀{α:Type} (zs:List α),zs.length=ds.length->sPk lo hi c zs=((List.range (Builtin.Slice.slicePlaces (ZJ lo hi c ds.length).1 (ZJ lo hi c ds.length).2 c)).map fun(k:Nat)=>((ZJ lo hi c ds.length).1+(k:Int)*c).toNat).filterMap fun i=>zs[i]? := fun zs hz=>by
    unfold sPk;rw[Bp,hz];rfl
   rw[e1 xs g2.length,e1 ds rfl];exact g2.picks _
  refine⟨c,a,xs,rfl,h0,hc1,rfl,g1,by rw[rp.length];exact hl,fun p hp=>?_⟩
  exact q _ _ _ (x.trans (QA.new x.fh hp)) (.tup QR (rp.mono (QC.new (x.fh.free hp))))
end
theorem Pl {α:Type}:∀ys:List α,(List.range ys.length).filterMap (fun k=>ys[k]?)=ys
 |[]=>rfl
 |y::ys=>by
   rw[XJ,List.range_succ_eq_map,Gf];simp only[List.getElem?_cons_zero,Bp];have:=Pl ys
   simpa [Function.comp_def] using this
theorem Pz {α β:Type}{f g:α->Option β}:∀{l:List α},(∀x∈l,f x=g x)->l.filterMap f=l.filterMap g
 |[],_=>rfl
 |a::l,h=>by
   rw[Gf,Gf,h a Xd,Pz fun x hx=>h x (Xe _ hx)]
theorem S5 {α:Type}(xs:List α):sPk none none (-1) xs=xs.reverse:=by
 have a1:(ZJ none none (-1) xs.length).1=(xs.length:Int)-1:=rfl
 have a2:(ZJ none none (-1) xs.length).2 = -1:=rfl
 unfold sPk;rw[a1,a2];have e:Builtin.Slice.slicePlaces ((xs.length:Int)-1) (-1) (-1)=xs.reverse.length:=by
  unfold Builtin.Slice.slicePlaces;rw[Xb (by decide),List.length_reverse];split<;>simp<;>omega
 rw[e];refine(Pz fun k hk=>?_).trans (Pl xs.reverse)
 have hk:=Xr.mp hk
 rw[List.length_reverse]at hk;rw[List.getElem?_reverse hk];congr 1
 omega
end L2
section
namespace My
open PySem L2 Mir
local macro_rules | `(tactic| walk_at "d") => `(tactic| dsimp only [List.set])
local macro_rules | `(tactic| walk_at "e") => `(tactic| dsimp only [List.set,Jn,List.map,Wz])
local macro_rules | `(tactic| walk_at "x") => `(tactic| try dsimp only [FW,EY])
local macro_rules | `(tactic| walk_at "p") => `(tactic| exact ⟨rfl,rfl,rfl,by decide +kernel,rfl,by decide +kernel,by decide +kernel⟩)
local macro_rules | `(tactic| walk_at "j") => `(tactic| first | decide | omega)
seal PA PE PI PS PSs PT PG
def top (i:Nat):Stmt:=PySem.Challenge.pw_chargeyard_k95_whole_turned_about_and_ti.main.body.getD i (.Pass ⟨0,0,0,0⟩)
abbrev Kn:Stmt:=top 4
abbrev K8:Stmt:=top 5
abbrev Kp:Stmt:=top 6
abbrev Km:Stmt:=top 7
abbrev Kd:Stmt:=top 8
abbrev Ky:Stmt:=top 9
abbrev Kk:Stmt:=top 10
abbrev Ka:Stmt:=top 11
abbrev KH:Stmt:=top 12
abbrev M6:Stmt:=top 13
abbrev Mw:Stmt:=top 14
abbrev KU:Stmt:=top 15
abbrev M4:Stmt:=top 16
abbrev M0:Stmt:=top 18
abbrev Mn:Stmt:=top 19
abbrev K3:Stmt:=top 24
abbrev KA:Stmt:=top 25
abbrev K9:Stmt:=top 26
abbrev Ks:Stmt:=top 27
abbrev K2:Stmt:=top 28
abbrev Mo:Stmt:=top 29
abbrev MF:Stmt:=top 30
abbrev ME:Stmt:=top 31
abbrev M9:Stmt:=top 33
abbrev Kt:Stmt:=top 34
abbrev Mu:Stmt:=top 35
abbrev Mt:Stmt:=top 36
abbrev K6:Stmt:=top 38
abbrev KP:Stmt:=top 39
abbrev Nc:Stmt:=top 40
abbrev KS:Stmt:=top 41
abbrev Ng:Stmt:=top 43
abbrev Kw:Stmt:=top 44
abbrev Nh:Stmt:=top 45
abbrev Mz:Stmt:=top 46
abbrev KC:Stmt:=top 47
abbrev GW:Stmt:=top 49
abbrev Mv:Stmt:=top 50
abbrev Be:Stmt:=top 51
abbrev Mx:Stmt:=top 52
abbrev KW:Stmt:=top 53
abbrev M3:Stmt:=top 55
abbrev Ni:Stmt:=top 56
abbrev M7:Stmt:=top 57
abbrev K0:Stmt:=top 58
abbrev K4:Stmt:=top 59
abbrev KN:Stmt:=top 61
abbrev K1:Stmt:=top 62
abbrev KZ:Stmt:=top 63
abbrev KY:Stmt:=top 64
abbrev KI:Stmt:=top 65
abbrev Nb:Stmt:=top 66
abbrev M8:Stmt:=top 67
abbrev K7:Stmt:=top 68
abbrev M1:Stmt:=top 69
abbrev KM:Stmt:=top 70
abbrev Kx:Stmt:=top 71
abbrev Nf:Stmt:=top 72
abbrev YG:Stmt:=top 73
abbrev UZ:Stmt:=WR (top 2) 0
abbrev UY:Stmt:=WR (top 23) 0
abbrev Uh:Stmt:=WR (top 23) 1
abbrev Uk:Stmt:=WR (top 23) 2
abbrev Ue:Stmt:=WR (top 23) 3
abbrev Ul:Stmt:=WR (top 23) 4
abbrev J5:Stmt:=WR (top 23) 5
abbrev Uf:Stmt:=WR (top 23) 6
abbrev Uo:Stmt:=WR (top 23) 7
structure Bl (mg:Str->Qf):Prop where
 abs:mg "abs"=none
 len:mg "len"=none
 max:mg "max"=none
 min:mg "min"=none
 sum:mg "sum"=none
 any:mg "any"=none
 all:mg "all"=none
 isi:mg "isinstance"=none
 int:mg "int"=none
 bool:mg "bool"=none
 list:mg "list"=none
 tuple:mg "tuple"=none
 range:mg "range"=none
 zip:mg "zip"=none
 enumerate:mg "enumerate"=none
 sorted:mg "sorted"=none
structure Tx (K:W.Frag)(mg:Str->Qf)(C gS gE:Addr):Prop where
 net:NetC K C
 mSTART:mg "START"=some (.ref gS)
 mEND:mg "END"=some (.ref gE)
 aS:W.nsIn K mainGlobals "START"=some (some (.ref gS))
 aE:W.nsIn K mainGlobals "END"=some (some (.ref gE))
def upD:Option Nat->PyData
 |none=>.none
 |some a=>.int (a:Int)
def ZH (l:Ln):PyData:=.tuple [upD l.up,.tuple (l.bs.map PyData.int)]
def QY (y:Yd):PyData:=.tuple [.int (y.T:Int),.tuple (y.ls.map ZH)]
def QN (l:Qk):Qd:=l.map fun(j:Nat)=>PyData.int (j:Int)
theorem mdl {j:Int}(h:0<j):0<j:=h
theorem cdl {i j:Int}(h1:0<j)(h2:j<=10^60):Wv i j:=⟨h1,X9 h2 (by decide +kernel)⟩
theorem W0 {a b:Int}(h0:0<=a)(h1:a<10^300)(h2:0<=b)(h3:b<10^300):IntMulOk a b:=Rj (m:=1000) (n:=1000) h0 (WE h1 (by decide +kernel)) h2 (WE h3 (by decide +kernel)) (by decide)
theorem z60:(10:Int)^60=1000000000000000000000000000000000000000000000000000000000000:=by decide +kernel
theorem Gj {i j:Int}(h1:0<j)(h2:j<=1000000000000000000000000000000000000000000000000000000000000):Wv i j:=cdl h1 (by rw[z60];exact h2)
theorem GF {α:Type} [Inhabited α] {f:α->PyData}{xs:List α}{k:Int}(h0:0<=k)(h1:k<(xs.length:Int)):atI (xs.map f) k=some (f (xs.getD k.toNat default)):=by
 have h:k.toNat<xs.length:=by omega
 have e:(xs.map f)[k.toNat]?=some (f (xs.getD k.toNat default)):=by simp[h]
 have e2:=WQ e
 rwa [XY h0]at e2
theorem Sg {xs:Ql}{k:Int}(h0:0<=k)(h1:k<(xs.length:Int)):atI (xs.map PyData.int) k=some (.int (xs.getD k.toNat 0)):=by
 have h:k.toNat<xs.length:=by omega
 have e:(xs.map PyData.int)[k.toNat]?=some (.int (xs.getD k.toNat 0)):=by simp[h]
 have e2:=WQ e
 rwa [XY h0]at e2
theorem L7 {xs:Ql}{k:Int}(h0:0<=k)(h1:k<(xs.length:Int)):atI xs k=some (xs.getD k.toNat 0):=by
 have h:k.toNat<xs.length:=by omega
 have e:xs[k.toNat]?=some (xs.getD k.toNat 0):=by simp[h]
 have e2:=WQ e
 rwa [XY h0]at e2
theorem L5 {f:Nat->PyData}{n:Nat}{k:Int}(h0:0<=k)(h1:k<(n:Int)):atI ((List.range n).map f) k=some (f k.toNat):=by
 have h:k.toNat<n:=by omega
 have e:((List.range n).map f)[k.toNat]?=some (f k.toNat):=by simp[h]
 have e2:=WQ e
 rwa [XY h0]at e2
theorem Rk {n:Nat}{k:Int}(h0:0<=k)(h1:k<(n:Int)):ixN n k=some k.toNat:=by
 unfold ixN;rw[Xc h0,Xc h1]
instance:Inhabited Ln:=⟨⟨none,[]⟩⟩
structure ScrOk (ns:Ql):Prop where
 len:ns.length<=63
 bits:∀i∈ns,Builtin.Int.intBits i<=2^20
def QH (g:Gs):PyData:=.tuple [.int (g.line:Int),.int (g.first:Int),.int (g.last:Int),.int g.want,.int g.most]
instance:Inhabited Gs:=⟨⟨0,0,0,1,1⟩⟩
theorem Ls {ds:Qd}{m:Nat}(h:∀d∈ds,d.canLay0=true/\d.depth<=m):PyData.canLayAll0 ds=true/\PyData.depthAll ds<=m:=by
 induction ds with
 |nil=>exact⟨rfl,Vl _⟩
 |cons d ds ih =>
   obtain⟨a,b⟩:=h d Xd
   obtain⟨c,e⟩:=ih fun x hx=>h x (Xe _ hx)
   refine⟨by rw[PyData.canLayAll0,a,c];rfl,?_⟩
   rw[PyData.depthAll];omega
def Vd (m:Nat)(d:PyData):Prop:=d.canLay0=true/\d.depth<=m
theorem Vd.fine {m:Nat}{d:PyData}(h:Vd m d)(hm:m<=60):YE d:=⟨h.1,XN h.2 hm⟩
theorem E5 {ds:Qd}{m:Nat}(h:∀d∈ds,Vd m d):Vd (m+1) (.tuple ds):=by
 obtain⟨a,b⟩:=Ls h
 refine⟨by rw[PyData.canLay0];exact a,?_⟩
 rw[PyData.depth];omega
theorem Su {ds:Qd}{m:Nat}(h:∀d∈ds,Vd m d):Vd (m+1) (.list ds):=by
 obtain⟨a,b⟩:=Ls h
 refine⟨by rw[PyData.canLay0];exact a,?_⟩
 rw[PyData.depth];omega
theorem BL (i:Int)(m:Nat):Vd m (.int i):=⟨rfl,Vl _⟩
theorem SK (m:Nat):Vd m .none:=⟨rfl,Vl _⟩
theorem BT (b:Bool)(m:Nat):Vd m (.bool b):=⟨rfl,Vl _⟩
theorem FA {α:Type}{f:α->PyData}{xs:List α}{m:Nat}(h:∀x,Vd m (f x)):∀d∈xs.map f,Vd m d:=fun d hd=>by
 obtain⟨x,_,rfl⟩:=Xw.mp hd
 exact h x
theorem Sd {m:Nat}:∀d∈([]:Qd),Vd m d:=fun d hd=>(nomatch hd)
theorem GM {m:Nat}{d:PyData}{ds:Qd}(h:Vd m d)(h2:∀d∈ds,Vd m d):∀x∈d::ds,Vd m x:=fun x hx=>by
 rcases Xg.mp hx with rfl|hx
 ·exact h
 ·exact h2 x hx
theorem AL (l:Qk):QN l=(l.map fun(j:Nat)=>(j:Int)).map PyData.int:=by
 unfold QN;rw[XI];rfl
theorem AT {a:Nat}{l:Qk}:((a:Int)∈l.map fun(j:Nat)=>(j:Int))↔a∈l:=by
 constructor
 ·intro h
  obtain⟨j,hj,e⟩:=Xw.mp h
  have:j=a:=by omega
  subst this;exact hj
 ·intro h
  exact Xw.mpr ⟨a,h,rfl⟩
theorem Hv {K:W.Frag}{ρ:QG}{ta tb:TE}{a:Nat}{l:Qk}(ha:Qt K ta ρ (.int (a:Int)))(hb:Qt K tb ρ (.list (QN l))):Qt K (tOp (rIn K true) ta tb) ρ (.bool (!decide (a∈l))):=by
 rw[AL]at hb;have:=Am ha hb
 rwa [decide_eq_decide.mpr AT]at this
theorem R3 {α:Type}(xs:List α)(k:Nat)(hk:k<=xs.length):cut xs (some (k:Int)) none=xs.drop k:=by
 unfold cut;rw[HT.sIx_nat,Nat.min_eq_left hk];show(xs.drop k).take (xs.length-k)=_
 rw[<- Bs,Wn]
theorem Fl {n k:Nat}(h:0<k)(hn:0<n):¬(HT.sIx n 0 (some (k:Int))=0/\HT.sIx n n none=n):=fun z=>by
 have z1:=z.1
 rw[HT.sIx_nat]at z1;omega
theorem p10 (n:Nat):(10:Int)^n=((10^n:Nat):Int):=by rw[Int.natCast_pow];rfl
theorem SB (n:Nat):(0:Int)<10^n:=by
 rw[p10];have:0<10^n:=Nat.pow_pos (by decide)
 omega
theorem LA {i j:Int}(h0:0<=j)(h1:j<=1000):Wv i (10^j.toNat):=⟨SB _,by
 have h:(10:Nat)^j.toNat<=10^1000:=MN (by decide) (by omega)
 have h2:(10:Int)^j.toNat<=10^1000:=by
  rw[p10,p10];exact Ga.mpr h
 exact X9 h2 (by decide +kernel)⟩
theorem L9 {j:Int}:0<(10:Int)^j.toNat:=SB _
def Dc (w:String):Lean.MacroM (Lean.TSyntax `tactic):=do
 let n:=Lean.mkIdent (w.drop 1).toString.toName
 match w.front with
 |'@' => `(tactic| with_reducible apply $n)
 |'!' => `(tactic| with_reducible exact $n)
 |'~' => `(tactic| apply $n)
 |_ => `(tactic| walk_at $(Lean.Syntax.mkStrLit w))
def V5 (s:String):Lean.MacroM (Lean.TSyntax `tactic):=do
 let l ← (s.splitOn "|").mapM fun a=>do
  match a.splitOn "<" with
  |[x,z] => `(tactic| ($(← Dc x):tactic <;> $(← Dc z):tactic))
  |_ =>
    let ts ← (a.splitOn " ").mapM Dc
    `(tactic| ($[$ts.toArray:tactic];*))
 `(tactic| first $[| $l.toArray:tactic]*)
local macro_rules | `(tactic| walk_at "rfl") => `(tactic| rfl)
local macro_rules | `(tactic| walk_at "hc") => `(tactic| intro hc)
local macro_rules | `(tactic| walk_at "ls") => `(tactic| dsimp only [List.set])
local macro_rules | `(tactic| walk_at "om") => `(tactic| first | lia | omega)
local macro_rules | `(tactic| walk_at "asm") => `(tactic| with_reducible assumption)
local macro_rules | `(tactic| walk_at "ble") => `(tactic| first | with_reducible rfl | decide | exact Nat.le_of_ble_eq_true rfl)
local macro_rules | `(tactic| walk_at "smo") => `(tactic| (focus (simp; (first | done | walk_at "om"))))
local macro_rules | `(tactic| walk_at "dso") => `(tactic| (focus (dsimp only; walk_at "om")))
local macro_rules | `(tactic| walk_at "r4") => `(tactic| (refine ⟨?_,?_,?_,?_⟩ <;> walk_at "r62"))
local macro_rules | `(tactic| walk_at "r62") => `(tactic| (rw [z62]; walk_at "side"))
local macro_rules | `(tactic| walk_at "ss") => `(tactic| repeat walk_at "s1")
local macro_rules | `(tactic| walk_at "call") => `(tactic| (constructor <;> walk_at "side"))
local macro_rules | `(tactic| walk_at "rg") => `(tactic| first | with_reducible rfl | (apply GS <;> walk_at "rs") | (apply rngU_cong <;> walk_at "rs"))
local macro_rules | `(tactic| walk_at "rs")=>V5 "om|smo"
local macro_rules | `(tactic| walk_at "side")=>V5 "om|asm|ble|smo"
local macro_rules | `(tactic| walk_at "arith")=>V5 "om|asm|ble|smo"
local macro_rules | `(tactic| walk_at "ev")=>V5 "@Qq rfl|!Ze|!Gy|!D8|@VA ev ev|@Js ev ev|@ZS ev ev cond|@Nt ev|@B9 ev ev|@NW ev ev|@JW ev|@Rt ev|@Sl ev ev ev|@DE ev hc ev|@LK ev|@LN rfl ev item|@L0 rfl ev item|@Yh evd ev item|@WO evd ev item|@V0 eas side|@Zj ea call|@Ub ea call|@Fn ev|@L8 ev ev|@Rr ev ev|@LL ev rfl|@Fi rfl|@Rq rfl|@L1 evd|@Ua evd|@Ff rfl|@G8 evd|@Rl ev|@Rs evd evd side|@Hv ev evd|@NT evd ep ep nw|@DF ev ev fine fine|@B8 ev ev fine fine|@Gz ev rfl|@EvO.fz eo"
local macro_rules | `(tactic| walk_at "evd")=>V5 "~Qq rfl|ev|@EvO.fz eo"
local macro_rules | `(tactic| walk_at "ea")=>V5 "!QD|@NY rfl ea|@Qu ev ea"
local macro_rules | `(tactic| walk_at "ep")=>V5 "!BJ|@DP ev"
local macro_rules | `(tactic| walk_at "eas")=>V5 "~Z2|~Zl ev eas"
local macro_rules | `(tactic| walk_at "eo")=>V5 "@Yy eas side|@G9 ea call|@Hd evd|@B2 evd evd side"
local macro_rules | `(tactic| walk_at "et")=>V5 "!Rf|@Ya ev|@Ji ev|@DD et hc et|@Du et hc et"
local macro_rules | `(tactic| walk_at "g")=>V5 "!Zw|!WN|@Vr g g|@Wr g rfl|~Wr g rfl"
local macro_rules | `(tactic| walk_at "ei")=>V5 "@WT ea r62 r62|@S0 ea r4|@C3 ea r4|@DC ea|@DX ea|@VQ evd|@D9 evd"
local macro_rules | `(tactic| walk_at "s1")=>V5 "@QI s1|@VO eo ls|@ZU ev ls|@DA ev g ls|@GP rfl ev side ls|@Sf rfl ev ev item ls"
local macro_rules | `(tactic| walk_at "ret")=>V5 "@GE rfl|@ZG evd|@Wf eo"
local macro_rules | `(tactic| walk_at "if")=>V5 "@QI if|@YW et"
local macro_rules | `(tactic| walk_at "eir")=>V5 "~EvI.cast ei rg"
local macro_rules | `(tactic| walk_at "item")=>V5 "rfl|asm|@Sg<arith|@L7<arith|@L5<arith|@Rk<arith|~GF<arith"
local macro_rules | `(tactic| walk_at "cond")=>V5 "asm|@LM<om|@Gj<om|!NM|@LA<om|!L9|@mdl<om|om|dso"
section
variable {P:Program}{w:World}{K:W.Frag}{mg:Str->Qf}{base:Heap}{C gS gE YR CR fR:Addr}
inductive R_cell:List OT->OT->Prop
 |mk {ns:Ql} {k:Int} (h:0<=k):R_cell [.scr ns,.fz (.int k)] (.fz (.int (Zo ns k)))
theorem Zg1:Qp ["_law_script","_law_k"] ["_law_script","_law_k"] (Q1 KN):=by walk_at"p"
theorem Au (T:Bl mg) (D:Df K mg "_law_cell_at" KN ["_law_script","_law_k"]):Q0 P w K mg base "_law_cell_at" ["_law_script","_law_k"] 1 (Q7 (K:=K) R_cell):=by
 refine D.ev Zg1 (fun ts r h=>by cases h;rfl) (fun _ _ _ _ s H E ts r hr h=>?_)
 cases h with
 |@mk ns k h0 =>
   refine⟨_,(Q2 (VW (Vf B4 (pv 1) (Z5 Yx (by rfl) T.len Yz (Qo (pv 0) Qs)) (ZT _)) (QB (QV (QM QL (pv 0) (pv 1)))) Yb)
 (QB (QV Qy))),?_⟩
   show Q3 K _ [some _,some _] _
   walk_at"x"
   walk_at"if"
   ·
    intro c;have c:=Xz c
    walk_at"ret"
    rfl
   ·
    intro c;have c:=YU c
    refine Yj ?_
    walk_at"ret"
    have e:Zo ns k=0:=by
     have:ns.length<=k.toNat:=by omega
     simp[Zo,List.getD,this]
    rw[e]
inductive R_amount:List OT->OT->Prop
 |mk {n:Int} (h:0<=n):R_amount [.fz (.int n)] (.fz (.tuple [.int (VD n).1,.int (VD n).2]))
theorem KO:Qp ["_law_number_here","_law_way"] ["_law_number_here"] (Q1 KY):=by walk_at"p"
theorem OY (T:Bl mg) (D:Df K mg "_law_amount" KY ["_law_number_here"]):Q0 P w K mg base "_law_amount" ["_law_number_here"] 1 (Q7 (K:=K) R_amount):=by
 refine D.ev KO (fun ts r h=>by cases h;rfl) (fun _ _ _ _ s H E ts r hr h=>?_)
 cases h with
 |@mk n h0 =>
   refine⟨_,(Q2 (QJ (i:=1) KO.nd rfl Qa (QF Vi (pv 0) Qy))
 (Q2 (QJ (i:=0) KO.nd rfl Qa (QF Vk (pv 0) Qy))
 (Q2 (VW (Vf UF (pv 1) Qy (ZT _)) (QB (QV (ZB (Qo Qy (Qo (pv 0) Qs))))) Yb)
 (Q2 (VW (Vf B4 (pv 1) Qy (ZT _)) (QB (QV (ZB (Qo (QF Vi (pv 0) Qy) (Qo (QF Vk (pv 0) Qy) Qs))))) Yb)
 (Q2 (VW (Vf UF (pv 1) Qy (ZT _)) (QB (QV (ZB (Qo (QF Vi (pv 0) Qy) (Qo (QF Vk (pv 0) Qy) Qs))))) Yb)
 (QB (QV (ZB (Qo (QF Vi (pv 0) (QF BC Qy Qy)) (Qo (QF Vk (pv 0) (QF BC Qy Qy)) Qs)))))))))),?_⟩
   show Q3 K _ [some _,none] _
   walk_at"ss"
   walk_at"if"
   ·
    intro c;have c:=Xz c
    walk_at"ret"
    show _=_
    unfold VD;rw[Xc c]
   ·
    intro c;have c:=YU c
    refine Yj ?_
    walk_at"if"
    ·
     intro c2;have c2:=Xz c2
     walk_at"ret"
     show _=_
     unfold VD;rw[Xb c,Xc c2]
    ·
     intro c2;have c2:=YU c2
     refine Yj ?_
     walk_at"if"
     ·
      intro c3;have c3:=Xz c3
      walk_at"ret"
      show _=_
      unfold VD;rw[Xb c,Xb c2,Xc c3]
     ·
      intro c3;have c3:=YU c3
      refine Yj ?_
      walk_at"ret"
      show _=_
      unfold VD;rw[Xb c,Xb c2,Xb c3];rfl
inductive R_number:List OT->OT->Prop
 |mk {ns:Ql} {k:Int} (hs:ScrOk ns) (h0:0<=k) (h1:k<1000):R_number [.scr ns,.fz (.int k)] (.fz (.int (Vt ns k)))
theorem CH {x:Int}{m:Nat}(h0:0<=x)(h:x<2^m):Builtin.Int.intBits x<=m:=by
 unfold Builtin.Int.intBits;by_cases e:x=0
 ·subst e;simp
 ·have e1:(x==0)=false:=by simpa using e
  rw[e1];have h1:x.natAbs≠0:=by omega
  have h2:x.natAbs<2^m:=by
   have:((x.natAbs:Nat):Int)<((2^m:Nat):Int):=by
    have e2:((2^m:Nat):Int)=(2:Int)^m:=by rw[Int.natCast_pow];rfl
    rw[e2];omega
   exact JC.mp this
  have:=(Nat.log2_lt h1).mpr h2
  simp only[X8,if_false];omega
theorem IA {ns:Ql}(hs:ScrOk ns)(k:Int):Builtin.Int.intBits (ZgT (Zo ns k))<=2^20:=by
 have e:Builtin.Int.intBits (ZgT (Zo ns k))=Builtin.Int.intBits (Zo ns k):=by
  unfold ZgT;split
  ·unfold Builtin.Int.intBits
   simp
  ·rfl
 rw[e];by_cases h:k.toNat<ns.length
 ·refine hs.bits _ ?_
  simp[Zo,h]
 ·have:Zo ns k=0:=by
   have:ns.length<=k.toNat:=by omega
   simp[Zo,List.getD,this]
  rw[this];decide
theorem W9:Qp ["_law_script","_law_k","_law_head","_law_one","_law_other","_law_total","_law_turn","_law_cell"] ["_law_script","_law_k"] (Q1 KZ):=by walk_at"p"
theorem IX (T:Bl mg) (D:Df K mg "_law_number" KZ ["_law_script","_law_k"]) (Xbz:Q0 P w K mg base "_law_cell_at" ["_law_script","_law_k"] 1 (Q7 (K:=K) R_cell)):Q0 P w K mg base "_law_number" ["_law_script","_law_k"] 2 (Q7 (K:=K) R_number):=by
 refine D.ev W9 (fun ts r h=>by cases h;rfl) (fun _ _ _ _ s H E ts r hr h=>?_)
 cases h with
 |@mk ns k hs h0 h1 =>
   refine⟨_,(Q2 (QJ (i:=2) W9.nd rfl Qa (Q9 Xbz hr (Qo (pv 0) (Qo Qy Qs))))
 (Q2 (QJ (i:=3) W9.nd rfl Qa (QF VP (QF Vi (pv 2) Qy) (QF JY Qy (pv 1))))
 (Q2 (QJ (i:=4) W9.nd rfl Qa (QF VP (QF JY Qy (pv 1)) Qy))
 (Q2 (QJ (i:=5) W9.nd rfl Qa Qy)
 (Q2 (VB PassesOwn.never rfl (Yp rfl T.range (Qo Qy Qs)) (Za (i:=6) W9.nd rfl Qa) (Q2 (QJ (i:=3) W9.nd rfl Qa (QF Vi (QF VP (QF VP (QF JY (pv 3) Qy) Qy) (QF JY (pv 6) (pv 1))) Qy))
 (Q2 (QJ (i:=4) W9.nd rfl Qa (QF Vi (QF VP (QF JY (pv 4) Qy) (pv 3)) Qy))
 (QB (QJ (i:=5) W9.nd rfl Qa (QF VP (QF JY (pv 5) Qy) (QF Vi (QF VP (QF JY (pv 4) (pv 4)) (pv 3)) Qy)))))))
 (Q2 (VW (Vf UF (QF Vi (QF Vk (pv 2) Qy) Qy) Qy (ZT _)) (QB (QV (pv 5))) Yb)
 (Q2 (QJ (i:=7) W9.nd rfl Qa (Z5 BK (by rfl) T.abs BH (Qo (Q9 Xbz hr (Qo (pv 0) (Qo (pv 1) Qs))) Qs)))
 (QB (QV (QF VP (pv 7) (QF CG (pv 5) (LT PySem.F.plainAttrs_int PySem.F.slot_int_bit_length PySem.F.type_int_bit_length Ae (pv 7))))))))))))),?_⟩
   show Q3 K _ [some _,some _,none,none,none,none,none,none] _
   walk_at"x"
   walk_at"ss"
   refine QI (Wj (fun i=>[some (.scr ns),some (.fz (.int k)),some (.fz (.int (Zo ns 0))),some (.fz (.int (mix (Zo ns 0) k i).1)),some (.fz (.int (mix (Zo ns 0) k i).2.1)),some (.fz (.int (mix (Zo ns 0) k i).2.2)),none,none]) (by walk_at"ei") ⟨rfl,rfl,rfl,rfl,rfl,rfl,trivial⟩ ?_ ?_)
   ·intro i d hd
    obtain⟨hi,rfl⟩:=WZ hd
    refine⟨_,by walk_at"g",?_⟩
    walk_at"d"
    have hi2:i<30:=hi
    have o1:0<=((mix (Zo ns 0) k i).1*48271+11+(0+(i:Int))*k)%2147483647/\((mix (Zo ns 0) k i).1*48271+11+(0+(i:Int))*k)%2147483647<2147483647:=by omega
    have o2:0<=((mix (Zo ns 0) k i).2.1*16807+((mix (Zo ns 0) k i).1*48271+11+(0+(i:Int))*k)%2147483647)%2147483629/\((mix (Zo ns 0) k i).2.1*16807+((mix (Zo ns 0) k i).1*48271+11+(0+(i:Int))*k)%2147483647)%2147483629<2147483629:=by omega
    walk_at"ss"
    refine⟨rfl,rfl,rfl,?_,?_,?_,trivial⟩<;>simp only[mix,YS]
   ·intro ρ' hf
    refine Wx hf ?_
    have hn:=Me (Zo ns 0) k 30
    have e30:(ZY 0 (30:Int).toNat).length=30:=Ja
    rw[e30];walk_at"if"
    ·
     intro c;have c:=Xz c
     walk_at"ret"
     show _=_
     unfold Vt;rw[Xc c]
    ·
     intro c;have c:=YU c
     refine Yj ?_
     have cb:=IA hs k
     have tb:Builtin.Int.intBits (mix (Zo ns 0) k 30).2.2<=930:=CH hn.1 (Ig _ _)
     have sh:Nq (mix (Zo ns 0) k 30).2.2 (Builtin.Int.intBits (ZgT (Zo ns k)):Int):=⟨by omega,by
      have:(2:Int)^27=134217728:=by decide
      have:(2:Nat)^20=1048576:=by decide
      omega⟩
     walk_at"s1";refine ZG (VA (Qq rfl) (ZS (Qq rfl) (Rl (Qq rfl)) sh)) ?_
     show _=_
     unfold Vt;rw[Xb c];rfl
inductive R_yard:List OT->OT->Prop
 |mk {ns:Ql} (hs:ScrOk ns):R_yard [.scr ns] (.fz (QY (YH ns)))
theorem Y3:Qp ["_law_script","_law_head","_law_turns","_law_lines","_law_k","_law_number_here","_law_above","_law_bounds","_law_turn","_law_bound"] ["_law_script"] (Q1 KI):=by walk_at"p"
theorem Cs (T:Bl mg) (D:Df K mg "_law_yard" KI ["_law_script"]) (Xbz:Q0 P w K mg base "_law_cell_at" ["_law_script","_law_k"] 1 (Q7 (K:=K) R_cell)) (XbC:Q0 P w K mg base "_law_number" ["_law_script","_law_k"] 2 (Q7 (K:=K) R_number))
 (XbF:Q0 P w K mg base "_law_amount" ["_law_number_here"] 1 (Q7 (K:=K) R_amount)):Q0 P w K mg base "_law_yard" ["_law_script"] 3 (Q7 (K:=K) R_yard):=by
 refine D.ev Y3 (fun ts r h=>by cases h;rfl) (fun _ _ _ _ s H E ts r hr h=>?_)
 cases h with
 |@mk ns hs =>
   refine⟨_,(Q2 (QJ (i:=1) Y3.nd rfl Qa (Z5 BK (by rfl) T.abs BH (Qo (Q9 Xbz hr (Qo (pv 0) (Qo Qy Qs))) Qs)))
 (Q2 (QJ (i:=2) Y3.nd rfl Qa (QF VP Qy (QF Vi (pv 1) Qy)))
 (Q2 (QJ (i:=3) Y3.nd rfl Qa (Vj Qs))
 (Q2 (VB PassesOwn.never rfl (Yp rfl T.range (Qo (QF VP Qy (QF Vi (QF Vk (pv 1) Qy) Qy)) Qs)) (Za (i:=4) Y3.nd rfl Qa) (Q2 (QJ (i:=5) Y3.nd rfl Qa (Q9 XbC hr (Qo (pv 0) (Qo (QF VP Qy (pv 4)) Qs))))
 (Q2 (QJ (i:=6) Y3.nd rfl Qa GD)
 (Q2 (VW (Vf Jp (pv 4) Qy (ZT _)) (Q2 (QJ (i:=6) Y3.nd rfl Qa (QF Vi (pv 5) (pv 4)))
 (QB (QJ (i:=5) Y3.nd rfl Qa (QF Vk (pv 5) (pv 4))))) Yb)
 (Q2 (QJ (i:=7) Y3.nd rfl Qa (Vj Qs))
 (Q2 (VB PassesOwn.never rfl (Yp rfl T.range (Qo (pv 2) Qs)) (Za (i:=8) Y3.nd rfl Qa) (Q2 (UI (Q9 XbF hr (Qo (pv 5) Qs)) (YJ (n:=2) rfl (ZI (Za (i:=9) Y3.nd rfl Qa) (ZI (Za (i:=5) Y3.nd rfl Qa) YN))))
 (QB (ZV (YY PySem.F.plainAttrs_list PySem.F.slot_list_append PySem.F.type_list_append W6 (pv 7) (Qo (pv 9) Qs))))))
 (QB (ZV (YY PySem.F.plainAttrs_list PySem.F.slot_list_append PySem.F.type_list_append W6 (pv 3) (Qo (ZB (Qo (pv 6) (Qo (WU UT (by rfl) T.tuple UR (Qo (pv 7) Qs)) Qs))) Qs))))))))))
 (QB (QV (ZB (Qo (pv 2) (Qo (WU UT (by rfl) T.tuple UR (Qo (pv 3) Qs)) Qs))))))))),?_⟩
   show Q3 K _ [some _,none,none,none,none,none,none,none,none,none] _
   walk_at"x"
   obtain⟨t1,t8⟩:=T8 ns
   obtain⟨c1,c5⟩:=TN ns
   have hn:=UL (Zo ns 0)
   walk_at"ss"
   have et:1+ZgT (Zo ns 0)%8=((Zb8 ns:Nat):Int):=by unfold Zb8;omega
   have ec:1+ZgT (Zo ns 0)/8%5=((Zdq ns:Nat):Int):=by unfold Zdq;omega
   rw[et];refine QI (Wj (ds:=ZY 0 (Zdq ns)) (fun i=>[some (.scr ns),some (.fz (.int (ZgT (Zo ns 0)))),some (.fz (.int (Zb8 ns:Int))),some (.ol (((List.range i).map (YM ns (Zb8 ns))).map ZH)),none,none,none,none,none,none]) ?ei ⟨rfl,rfl,rfl,rfl,trivial⟩ ?st ?fin)
   case ei=>walk_at"eir"
   case st =>
    intro i d hd;obtain⟨hi,rfl⟩:=WZ hd
    refine⟨_,by walk_at"g",?_⟩
    walk_at"d"
    rw[YS];have nn:=Mr ns (1+(i:Int))
    walk_at"ss"
    refine G6 (fun ρ'=>∃(ab:Option Nat) (nm:Int),0<=nm/\YM ns (Zb8 ns) i=⟨ab,(bnd nm (Zb8 ns)).1⟩ /\
     ρ'=[some (.scr ns),some (.fz (.int (ZgT (Zo ns 0)))),some (.fz (.int (Zb8 ns:Int))),some (.ol (((List.range i).map (YM ns (Zb8 ns))).map ZH)),some (.fz (.int (i:Int))),some (.fz (.int nm)),some (.fz (upD ab)),none,none,none]) ?h ?z
    case h =>
     walk_at"if"
     ·
      intro c;have c:(0:Int)<(i:Int):=Xz c
      walk_at"ss"
      refine⟨some (Vt ns (1+(i:Int))%(i:Int)).toNat,Vt ns (1+(i:Int))/(i:Int),JG nn (by omega),?_,?_⟩
      ·unfold YM
       rw[Xb (by omega)]
      ·have:(((Vt ns (1+(i:Int))%(i:Int)).toNat:Nat):Int)=Vt ns (1+(i:Int))%(i:Int):=XY (JI _ (by omega))
       simp only[upD,this]
     ·
      intro c;have c:¬(0:Int)<(i:Int):=YU c
      refine Yj ⟨none,Vt ns (1+(i:Int)),nn,?_,rfl⟩
      unfold YM;rw[Xc (by omega)]
    case z =>
     rintro ρ' ⟨ab,nm,hnm,eln,rfl⟩
     walk_at"ss"
     refine QI (Wj (ds:=ZY 0 (Zb8 ns)) (fun j=>[some (.scr ns),some (.fz (.int (ZgT (Zo ns 0)))),some (.fz (.int (Zb8 ns:Int))),some (.ol (((List.range i).map (YM ns (Zb8 ns))).map ZH)),some (.fz (.int (i:Int))),some (.fz (.int (bnd nm j).2)),some (.fz (upD ab)),some (.ol ((bnd nm j).1.map PyData.int)),none,none]) ?ei2 ⟨rfl,rfl,rfl,rfl,rfl,rfl,rfl,rfl,trivial⟩ ?st2 ?fin2)
     case ei2=>walk_at"eir"
     case st2 =>
      intro j d hd;obtain⟨hj,rfl⟩:=WZ hd
      obtain⟨b1,b2,b3⟩:=Wd hnm j
      refine⟨_,by walk_at"g",?_⟩
      walk_at"d"
      walk_at"ss"
      exact⟨rfl,rfl,rfl,rfl,rfl,rfl,rfl,by simp[bnd],trivial⟩
     case fin2 =>
      intro ρ' hf;refine Wx hf ?_
      obtain⟨b1,b2,b3⟩:=Wd hnm (Zb8 ns)
      walk_at"ss"
      refine⟨rfl,rfl,rfl,?_,trivial⟩
      rw[Y6,Xy,Xy,Ja];simp only[Xt,JD,eln];rfl
   case fin =>
    intro ρ' hf;refine Wx hf ?_
    walk_at"ret"
    rw[Ja];rfl
inductive R_guests:List OT->OT->Prop
 |mk {ns:Ql} {y:Yd} (hs:ScrOk ns) (ok:y.Ok):R_guests [.scr ns,.fz (QY y)] (.ol ((Jx ns y).map QH))
theorem Yq:Qp ["_law_script","_law_yard_here","_law_guests_here","_law_k","_law_number_here","_law_line","_law_first","_law_last","_law_want","_law_most"] ["_law_script","_law_yard_here"] (Q1 Nb):=by walk_at"p"
theorem IL (T:Bl mg) (D:Df K mg "_law_guests" Nb ["_law_script","_law_yard_here"]) (Xbz:Q0 P w K mg base "_law_cell_at" ["_law_script","_law_k"] 1 (Q7 (K:=K) R_cell)) (XbC:Q0 P w K mg base "_law_number" ["_law_script","_law_k"] 2 (Q7 (K:=K) R_number))
 (XbF:Q0 P w K mg base "_law_amount" ["_law_number_here"] 1 (Q7 (K:=K) R_amount)):Q0 P w K mg base "_law_guests" ["_law_script","_law_yard_here"] 3 (Q7 (K:=K) R_guests):=by
 refine D.ev Yq (fun ts r h=>by cases h;rfl) (fun _ _ _ _ s H E ts r hr h=>?_)
 cases h with
 |@mk ns y hs ok =>
   refine⟨_,(Q2 (QJ (i:=2) Yq.nd rfl Qa (Vj Qs))
 (Q2 (VB PassesOwn.never rfl (Yp rfl T.range (Qo (QF Vi (QF Vk (Z5 BK (by rfl) T.abs BH (Qo (Q9 Xbz hr (Qo (pv 0) (Qo Qy Qs))) Qs)) Qy) Qy) Qs)) (Za (i:=3) Yq.nd rfl Qa) (Q2 (QJ (i:=4) Yq.nd rfl Qa (Q9 XbC hr (Qo (pv 0) (Qo (QF VP Qy (pv 3)) Qs))))
 (Q2 (QJ (i:=5) Yq.nd rfl Qa (QF Vi (pv 4) (Z5 Yx (by rfl) T.len Yz (Qo (QM QL (pv 1) Qy) Qs))))
 (Q2 (QJ (i:=4) Yq.nd rfl Qa (QF Vk (pv 4) (Z5 Yx (by rfl) T.len Yz (Qo (QM QL (pv 1) Qy) Qs))))
 (Q2 (QJ (i:=6) Yq.nd rfl Qa (QF Vi (pv 4) (QM QL (pv 1) Qy)))
 (Q2 (QJ (i:=4) Yq.nd rfl Qa (QF Vk (pv 4) (QM QL (pv 1) Qy)))
 (Q2 (QJ (i:=7) Yq.nd rfl Qa (QF VP (pv 6) (QF Vi (pv 4) (QF YI (QM QL (pv 1) Qy) (pv 6)))))
 (Q2 (QJ (i:=4) Yq.nd rfl Qa (QF Vk (pv 4) (QF YI (QM QL (pv 1) Qy) (pv 6))))
 (Q2 (UI (Q9 XbF hr (Qo (pv 4) Qs)) (YJ (n:=2) rfl (ZI (Za (i:=8) Yq.nd rfl Qa) (ZI (Za (i:=4) Yq.nd rfl Qa) YN))))
 (Q2 (UI (Q9 XbF hr (Qo (pv 4) Qs)) (YJ (n:=2) rfl (ZI (Za (i:=9) Yq.nd rfl Qa) (ZI (Za (i:=4) Yq.nd rfl Qa) YN))))
 (QB (ZV (YY PySem.F.plainAttrs_list PySem.F.slot_list_append PySem.F.type_list_append W6 (pv 2) (Qo (ZB (Qo (pv 5) (Qo (pv 6) (Qo (pv 7) (Qo (Z5 (RI rfl) (by rfl) T.max RU (Qo Qy (Qo (pv 8) Qs))) (Qo (Z5 (RI rfl) (by rfl) T.max RU (Qo Qy (Qo (pv 9) Qs))) Qs)))))) Qs))))))))))))))
 (QB (QV (pv 2))))),?_⟩
   show Q3 K _ [some _,some _,none,none,none,none,none,none,none,none] _
   walk_at"x"
   have l1:=ok.l1
   have l5:=ok.l5
   have t1:=ok.t1
   have t8:=ok.t8
   have hn:=UL (Zo ns 0)
   have gc:UX ns<=8:=by unfold UX;omega
   have eg:UX ns=(ZgT (Zo ns 0)/40%9).toNat:=rfl
   walk_at"ss"
   refine QI (Wj (ds:=ZY 0 (UX ns)) (fun i=>[some (.scr ns),some (.fz (QY y)),some (.ol (((List.range i).map (W3 ns y)).map QH)),none,none,none,none,none,none,none]) ?ei ⟨rfl,rfl,rfl,trivial⟩ ?st ?fin)
   case ei=>walk_at"eir"
   case st =>
    intro i d hd;obtain⟨hi,rfl⟩:=WZ hd
    refine⟨_,by walk_at"g",?_⟩
    walk_at"d"
    rw[YS];obtain⟨f0,f1⟩:=B6 ok ns i
    obtain⟨e0,e1⟩:=Rh ok ns i
    obtain⟨n0,n1,n2,n3⟩:=D6 ok ns i
    obtain⟨a1,a2,a3⟩:=Ug n3
    obtain⟨b1,b2,b3⟩:=Ug a3
    have lp:(0:Int)<(((y.ls.map ZH).length:Nat):Int):=by rw[Xm];omega
    have lp2:(((y.ls.map ZH).length:Nat):Int)<=5:=by rw[Xm];omega
    have tp:(0:Int)<(y.T:Int):=by omega
    have fp:(0:Int)<(y.T:Int)-gf ns y i:=by omega
    walk_at"s1";walk_at"s1"
    walk_at"s1";rw[Xm]
    change Q3 K _ [_,_,_,_,some (.fz (.int (gn1 ns y i))),some (.fz (.int (gn0 ns i%(y.ls.length:Int)))),_,_,_,_] _
    walk_at"s1";walk_at"s1"
    change Q3 K _ [_,_,_,_,some (.fz (.int (gn2 ns y i))),_,some (.fz (.int (gf ns y i))),_,_,_] _
    walk_at"s1";walk_at"s1"
    change Q3 K _ [_,_,_,_,some (.fz (.int (gn3 ns y i))),_,_,some (.fz (.int (gl ns y i))),_,_] _
    walk_at"ss"
    refine⟨rfl,rfl,?_,trivial⟩
    rw[Y6,Xy,Xy];simp only[Xt,JD];have c1:=JI (gn0 ns i) (show(y.ls.length:Int)≠0 by omega)
    have hg:QH (W3 ns y i)=.tuple [.int (gn0 ns i%(y.ls.length:Int)),.int (gf ns y i),.int (gl ns y i),.int (WG (VD (gn3 ns y i)).1),.int (WG (VD (VD (gn3 ns y i)).2).1)]:=by
     unfold QH W3;dsimp only;rw[XY c1,XY f0,XY (by omega)]
    have m1:∀i:Int,max 1 i=WG i:=fun i=>by unfold WG;split<;>omega
    rw[hg,<- m1,<- m1]
   case fin =>
    intro ρ' hf;refine Wx hf ?_
    walk_at"ret"
    rw[Ja];rfl
def ZA (y:Yd)(k:Nat):Ln:=y.ls.getD k default
def upN (y:Yd)(k:Nat):Nat:=(QS y k).getD 0
theorem Tv {y:Yd}{k:Nat}(h:k<y.ls.length):QS y k=(ZA y k).up:=by simp[QS,ZA,h]
theorem Mm {y:Yd}{k t:Nat}(h:k<y.ls.length):Zg y k t=(ZA y k).bs.getD t 0:=by simp[Zg,ZA,h]
theorem Pw {y:Yd}(ok:y.Ok){k:Nat}(h:k<y.ls.length):(ZA y k).bs.length=y.T:=ok.bl _ (by simp[ZA,h])
inductive R_turns:List OT->OT->Prop
 |mk {y:Yd}:R_turns [.fz (QY y)] (.fz (.int (y.T:Int)))
theorem ZkK:Qp ["yard"] ["yard"] (Q1 Kn):=by walk_at"p"
theorem E4 (T:Bl mg) (D:Df K mg "turns_of" Kn ["yard"]):Q0 P w K mg base "turns_of" ["yard"] 1 (Q7 (K:=K) R_turns):=by
 refine D.ev ZkK (fun ts r h=>by cases h;rfl) (fun _ _ _ _ s H E ts r hr h=>?_)
 cases h with
 |@mk y =>
   refine⟨_,(QB (QV (QM QL (pv 0) Qy))),?_⟩
   show Q3 K _ [some _] _
   walk_at"x"
   walk_at"ret"
   rfl
inductive R_count:List OT->OT->Prop
 |mk {y:Yd}:R_count [.fz (QY y)] (.fz (.int (y.ls.length:Int)))
theorem Zi0:Qp ["yard"] ["yard"] (Q1 K8):=by walk_at"p"
theorem Ec (T:Bl mg) (D:Df K mg "line_count" K8 ["yard"]):Q0 P w K mg base "line_count" ["yard"] 1 (Q7 (K:=K) R_count):=by
 refine D.ev Zi0 (fun ts r h=>by cases h;rfl) (fun _ _ _ _ s H E ts r hr h=>?_)
 cases h with
 |@mk y =>
   refine⟨_,(QB (QV (Z5 Yx (by rfl) T.len Yz (Qo (QM QL (pv 0) Qy) Qs)))),?_⟩
   show Q3 K _ [some _] _
   walk_at"x"
   walk_at"ret"
   show _=_
   rw[Xm]
inductive R_above:List OT->OT->Prop
 |mk {y:Yd} {k:Int} (ok:y.Ok) (h0:0<k) (h1:k<(y.ls.length:Int)):R_above [.fz (QY y),.fz (.int k)] (.fz (.int (upN y k.toNat:Int)))
 |zero {y:Yd} (ok:y.Ok):R_above [.fz (QY y),.fz (.int 0)] (.fz .none)
theorem Zk4:Qp ["yard","line"] ["yard","line"] (Q1 Kp):=by walk_at"p"
theorem En (T:Bl mg) (D:Df K mg "above_of" Kp ["yard","line"]):Q0 P w K mg base "above_of" ["yard","line"] 1 (Q7 (K:=K) R_above):=by
 refine D.ev Zk4 (fun ts r h=>by cases h<;>rfl) (fun _ _ _ _ s H E ts r hr h=>?_)
 cases h with
 |@mk y k ok h0 h1 =>
   refine⟨_,(QB (QV (QM QL (QM QL (QM QL (pv 0) Qy) (pv 1)) Qy))),?_⟩
   show Q3 K _ [some _,some _] _
   walk_at"x"
   walk_at"ret"
   obtain⟨a,e,l⟩:=ok.ups k.toNat (by omega) (by omega)
   have e2:(ZA y k.toNat).up=some a:=by rw[<- Tv (by omega)];exact e
   show OT.fz (upD (ZA y k.toNat).up)=_
   rw[e2];simp[upN,e,upD]
 |@zero y ok =>
   refine⟨_,(QB (QV (QM QL (QM QL (QM QL (pv 0) Qy) (pv 1)) Qy))),?_⟩
   show Q3 K _ [some _,some _] _
   walk_at"x"
   have l1:=ok.l1
   walk_at"ret"
   have e2:(ZA y 0).up=none:=by rw[<- Tv (by omega)];exact ok.up0
   show OT.fz (upD (ZA y 0).up)=_
   rw[e2];rfl
inductive R_bound:List OT->OT->Prop
 |mk {y:Yd} {k t:Int} (ok:y.Ok) (h0:0<=k) (h1:k<(y.ls.length:Int)) (h2:0<=t) (h3:t<(y.T:Int)):R_bound [.fz (QY y),.fz (.int k),.fz (.int t)] (.fz (.int (Zg y k.toNat t.toNat)))
theorem Zkw:Qp ["yard","line","turn"] ["yard","line","turn"] (Q1 Km):=by walk_at"p"
theorem Eh (T:Bl mg) (D:Df K mg "bound_at" Km ["yard","line","turn"]):Q0 P w K mg base "bound_at" ["yard","line","turn"] 1 (Q7 (K:=K) R_bound):=by
 refine D.ev Zkw (fun ts r h=>by cases h;rfl) (fun _ _ _ _ s H E ts r hr h=>?_)
 cases h with
 |@mk y k t ok h0 h1 h2 h3 =>
   refine⟨_,(QB (QV (QM QL (QM QL (QM QL (QM QL (pv 0) Qy) (pv 1)) Qy) (pv 2)))),?_⟩
   show Q3 K _ [some _,some _,some _] _
   walk_at"x"
   have hl:(y.ls.getD k.toNat default).bs.length=y.T:=Pw ok (by omega)
   walk_at"ret"
   show _=_
   rw[Mm (by omega)];rfl
inductive R_lineof:List OT->OT->Prop
 |mk {g:Gs}:R_lineof [.fz (QH g)] (.fz (.int (g.line:Int)))
theorem ZmE:Qp ["guest"] ["guest"] (Q1 Kd):=by walk_at"p"
theorem EK (T:Bl mg) (D:Df K mg "line_of" Kd ["guest"]):Q0 P w K mg base "line_of" ["guest"] 1 (Q7 (K:=K) R_lineof):=by
 refine D.ev ZmE (fun ts r h=>by cases h;rfl) (fun _ _ _ _ s H E ts r hr h=>?_)
 cases h with
 |@mk g =>
   refine⟨_,(QB (QV (QM QL (pv 0) Qy))),?_⟩
   show Q3 K _ [some _] _
   walk_at"x"
   walk_at"ret"
   rfl
inductive R_there:List OT->OT->Prop
 |mk {g:Gs} {t:Int}:R_there [.fz (QH g),.fz (.int t)] (.fz (.bool (V3 g t)))
theorem ZkO:Qp ["guest","turn"] ["guest","turn"] (Q1 Ky):=by walk_at"p"
theorem EL (T:Bl mg) (D:Df K mg "is_there" Ky ["guest","turn"]):Q0 P w K mg base "is_there" ["guest","turn"] 1 (Q7 (K:=K) R_there):=by
 refine D.ev ZkO (fun ts r h=>by cases h;rfl) (fun _ _ _ _ s H E ts r hr h=>?_)
 cases h with
 |@mk g t =>
   refine⟨_,(QB (QV (Pi Dz Dz (QM QL (pv 0) Qy) (pv 1) (QM QL (pv 0) Qy)))),?_⟩
   show Q3 K _ [some _,some _] _
   walk_at"x"
   walk_at"ret"
   rfl
inductive R_most:List OT->OT->Prop
 |mk {g:Gs}:R_most [.fz (QH g)] (.fz (.int g.most))
theorem OO:Qp ["guest"] ["guest"] (Q1 Ka):=by walk_at"p"
theorem Ag (T:Bl mg) (D:Df K mg "most_of" Ka ["guest"]):Q0 P w K mg base "most_of" ["guest"] 1 (Q7 (K:=K) R_most):=by
 refine D.ev OO (fun ts r h=>by cases h;rfl) (fun _ _ _ _ s H E ts r hr h=>?_)
 cases h with
 |@mk g =>
   refine⟨_,(QB (QV (QM QL (pv 0) Qy))),?_⟩
   show Q3 K _ [some _] _
   walk_at"x"
   walk_at"ret"
   rfl
inductive R_want:List OT->OT->Prop
 |mk {g:Gs}:R_want [.fz (QH g)] (.fz (.int g.want))
theorem OI:Qp ["guest"] ["guest"] (Q1 Kk):=by walk_at"p"
theorem Ab (T:Bl mg) (D:Df K mg "want_of" Kk ["guest"]):Q0 P w K mg base "want_of" ["guest"] 1 (Q7 (K:=K) R_want):=by
 refine D.ev OI (fun ts r h=>by cases h;rfl) (fun _ _ _ _ s H E ts r hr h=>?_)
 cases h with
 |@mk g =>
   refine⟨_,(QB (QV (QM QL (pv 0) Qy))),?_⟩
   show Q3 K _ [some _] _
   walk_at"x"
   walk_at"ret"
   rfl
structure SetOk (gs:List Gs)(some:Qk):Prop where
 mem:∀k∈some,k<gs.length
 len:some.length<=8
def VZ (gs:List Gs)(t:Nat)(sm:Qk):Qn:=fun l=>Zr gs (t:Int) l sm
def UH (y:Yd)(gs:List Gs)(sm:Qk)(t:Nat):Ql:=(List.range y.ls.length).map fun l=>Vp y (fun k=>Zg y k t) (VZ gs t sm) l
inductive R_reaching:List OT->OT->Prop
 |mk {y:Yd} {gs:List Gs} {sm:Qk} {t:Int} (ok:y.Ok) (hg:∀g∈gs,g.Ok y) (hs:SetOk gs sm) (h0:0<=t) (h1:t<(y.T:Int)) :
  R_reaching [.fz (QY y),.fz (.list (gs.map QH)),.fz (.list (QN sm)),.fz (.int t)] (.ol ((UH y gs sm t.toNat).map PyData.int))
theorem SO {n j:Nat}{f g:Qn}(hj:j<n)(e1:∀l,l<n->l≠j->g l=f l){v:Int}(e2:g j=v) :
 (((List.range n).map fun l=>PyData.int (f l)).set j (.int v))=(List.range n).map fun l=>PyData.int (g l):=by
 apply List.ext_getElem?
 intro i;by_cases hi:i=j
 ·subst hi
  rw[XU (by simpa using hj)];simp[hj,e2]
 ·rw[X0 (Ne.symm hi)]
  by_cases h:i<n
  ·simp[h,e1 i h hi]
  ·simp[h]
theorem Bh:Qp ["yard","guests","some","turn","reaching","number","guest","line"] ["yard","guests","some","turn"] (Q1 M9):=by walk_at"p"
theorem ZkA (T:Bl mg) (D:Df K mg "reaching_at" M9 ["yard","guests","some","turn"]) (XbG:Q0 P w K mg base "line_count" ["yard"] 1 (Q7 (K:=K) R_count)) (XbM:Q0 P w K mg base "is_there" ["guest","turn"] 1 (Q7 (K:=K) R_there))
 (XbD:Q0 P w K mg base "line_of" ["guest"] 1 (Q7 (K:=K) R_lineof)) (XbN:Q0 P w K mg base "most_of" ["guest"] 1 (Q7 (K:=K) R_most)) (XbO:Q0 P w K mg base "above_of" ["yard","line"] 1 (Q7 (K:=K) R_above))
 (XbA:Q0 P w K mg base "bound_at" ["yard","line","turn"] 1 (Q7 (K:=K) R_bound)):Q0 P w K mg base "reaching_at" ["yard","guests","some","turn"] 2 (Q7 (K:=K) R_reaching):=by
 refine D.ev Bh (fun ts r h=>by cases h;rfl) (fun _ _ _ _ s H E ts r hr h=>?_)
 cases h with
 |@mk y gs sm t ok hg hs h0 h1 =>
   refine⟨_,(Q2 (GQ (i:=4) Bh.nd rfl rfl (NX:=["yard","guests","some","turn","reaching","number","guest","line"]) (sc:=Q1 M9) (N:=["line"]) (f:=[none]) rfl (by decide +kernel) rfl rfl (Yp rfl T.range (Qo (Q9 XbG hr (Qo (pv 0) Qs)) Qs)) (fun _=>(Za (i:=0) (show(["line"]:Qh).Nodup by decide +kernel) rfl Qa)) (fun _=>ZC) (fun _=>Vg) (fun _=>Qy) rfl)
 (Q2 (VB PassesOwn.never rfl (V2 (pv 2)) (Za (i:=5) Bh.nd rfl Qa) (Q2 (QJ (i:=6) Bh.nd rfl Qa (QM QL (pv 1) (pv 5)))
 (QB (VW (DI (Q9 XbM hr (Qo (pv 6) (Qo (pv 3) Qs)))) (QB (BN (pv 4) (Q9 XbD hr (Qo (pv 6) Qs)) Mb (Q9 XbN hr (Qo (pv 6) Qs)) G4 GV)) Yb))))
 (Q2 (VB PassesOwn.never rfl (Ow rfl T.range (Qo (QF YI (Q9 XbG hr (Qo (pv 0) Qs)) Qy) (Qo Qy (Qo (NG R9 Qy) Qs)))) (Za (i:=7) Bh.nd rfl Qa) (QB (BN (pv 4) (Q9 XbO hr (Qo (pv 0) (Qo (pv 7) Qs))) Mb (Z5 (DG rfl) (by rfl) T.min BB (Qo (QM QL (pv 4) (pv 7)) (Qo (Q9 XbA hr (Qo (pv 0) (Qo (pv 7) (Qo (pv 3) Qs)))) Qs))) G4 GV)))
 (QB (QV (pv 4)))))),?_⟩
   show Q3 K _ [some _,some _,some _,some _,none,none,none,none] _
   walk_at"x"
   have l1:=ok.l1
   have l5:=ok.l5
   have n8:=hs.len
   refine QI (VO (DO (lo:=0) (n:=y.ls.length) (h:=fun _=>.int 0) ?ei (by omega) ?el) ?_)
   case ei=>walk_at"eir"
   case el =>
    intro x hx c;exact⟨_,by walk_at"g",by walk_at"ev"⟩
   walk_at"d"
   refine QI (Wj (fun i=>[some (.fz (QY y)),some (.fz (.list (gs.map QH))),some (.fz (.list (QN sm))),some (.fz (.int t)),some (.ol ((List.range y.ls.length).map fun l=>PyData.int (Zr gs t l (sm.take i)))),none,none,none]) (by walk_at"ei") ⟨rfl,rfl,rfl,rfl,rfl,trivial⟩ ?st ?fin)
   case st =>
    intro i d hd;have hi:i<sm.length:=by
     have:=(Xh.mp hd).1
     simpa [QN] using this
    obtain rfl:d=.int ((sm[i]:Nat):Int):=by simpa [QN,hi] using hd.symm
    have hk:sm[i]<gs.length:=hs.mem _ (XL hi)
    refine⟨_,by walk_at"g",?_⟩
    walk_at"d"
    walk_at"s1";have eg:gs.getD ((sm[i]:Nat):Int).toNat default=gs[sm[i]]:=by simp[hk]
    rw[eg];have gok:=hg gs[sm[i]] (XL hk)
    have gl:=gok.ln
    have tk:sm.take (i+1)=sm.take i++[sm[i]]:=by rw[WB];simp[hi]
    refine YW (by walk_at"et") (fun c=>?_) (fun c=>?_)
    ·refine SQ (m:=Zr gs t gs[sm[i]].line (sm.take i)) rfl (by walk_at"ev") (by omega) ?_ (by walk_at"ev") ?_
     ·simp[gl]
     ·walk_at"d"
      refine⟨rfl,rfl,rfl,rfl,?_,trivial⟩
      rw[XH];congr 2
      refine SO gl (fun l hl hn=>?_) ?_
      ·rw[tk,Bf]
       simp[Zr,hk,Ne.symm hn]
      ·rw[tk,Bf]
       simp[Zr,hk,c]
    ·refine Yj ⟨rfl,rfl,rfl,rfl,?_,trivial⟩
     refine ZD (fun z=>some (OT.ol z)) (X4 fun l _=>?_)
     rw[tk,Bf];simp[Zr,hk,c]
   case fin =>
    intro ρ' hf;refine Wx hf ?_
    have el:(QN sm).length=sm.length:=by simp[QN]
    rw[el,Wn];refine QI (Wj (fun i=>[some (.fz (QY y)),some (.fz (.list (gs.map QH))),some (.fz (.list (QN sm))),some (.fz (.int t)),some (.ol ((List.range y.ls.length).map fun l=>PyData.int (Z1 y (fun k=>Zg y k t.toNat) (fun l=>Zr gs t l sm) i l))),none,none,none]) (by walk_at"ei") ⟨rfl,rfl,rfl,rfl,rfl,trivial⟩ ?st2 ?fin2)
    case st2 =>
     intro i d hd;obtain⟨hi,rfl⟩:=P5 hd
     have hi2:i<y.ls.length-1:=by omega
     refine⟨_,by walk_at"g",?_⟩
     walk_at"d"
     have ej:((y.ls.length:Int)-1-(i:Int)).toNat=y.ls.length-1-i:=by omega
     obtain⟨a,ea,la⟩:=ok.ups (y.ls.length-1-i) (by omega) (by omega)
     have un:upN y ((y.ls.length:Int)-1-(i:Int)).toNat=a:=by rw[ej];simp[upN,ea]
     refine SQ (m:=Z1 y (fun k=>Zg y k t.toNat) (fun l=>Zr gs t l sm) i a) rfl (by walk_at"ev") (by omega) ?_ (by walk_at"ev") ?_
     ·rw[un,XH]
      have:a<y.ls.length:=by omega
      simp[this]
     ·walk_at"d"
      refine⟨rfl,rfl,rfl,rfl,?_,trivial⟩
      rw[un,XH];refine ZD (fun z=>some (OT.ol z)) (SO (by omega) (fun l hl hn=>?_) ?_)
      ·simp only[Z1,YF]
       rw[ea,Xb (by simpa using fun z=>hn z.symm)]
       omega
      ·simp only[Z1,YF]
       rw[ea,Xc rfl,ej]
    case fin2 =>
     intro ρ' hf;refine Wx hf ?_
     walk_at"ret"
     show _=_
     have e2:(U1 ((y.ls.length:Int)-1) ((y.ls.length:Int)-1-0).toNat).length=y.ls.length-1:=by rw[Px];omega
     rw[e2];unfold UH Vp VZ;rw[XY h0,XI];rfl
theorem OA (y:Yd)(gs:List Gs)(sm:Qk)(t:Nat):(UH y gs sm t).length=y.ls.length:=by simp[UH]
theorem O8 {y:Yd}{gs:List Gs}{sm:Qk}{t l:Nat}(h:l<y.ls.length):(UH y gs sm t).getD l 0=Vp y (fun k=>Zg y k t) (VZ gs t sm) l:=by simp[UH,List.getD,h]
def Zf (y:Yd)(gs:List Gs)(sm:Qk)(t:Nat):Int:=passes y (fun k=>Zg y k t) (VZ gs t sm) 0
def Vb (y:Yd)(gs:List Gs)(sm:Qk):Int:=((List.range y.T).map fun t=>Zf y gs sm t).sum
theorem Cf (y:Yd)(gs:List Gs)(t:Nat):VZ gs t []=fun _=>0:=rfl
theorem T5 {y:Yd}(ok:y.Ok)(t:Nat):∀i l,Z1 y (fun k=>Zg y k t) (fun _=>0) i l=0
 |0,l=>rfl
 |i+1,l=>by
   have b0:∀k,0<=Zg y k t:=fun k=>by
    unfold Zg;cases e:y.ls[k]? with
    |none=>simp
    |some ln =>
      have:=ok.bb ln (List.mem_of_getElem? e)
      simp only[XS,Wm];by_cases h:t<ln.bs.length
      ·have h2:=this (ln.bs[t]) (XL h)
       simp only[List.getD,Xx h,Wm];exact h2.1
      ·simp[List.getD,h]
   simp only[Z1,YF,T5 ok t i];have:=b0 (y.ls.length-1-i)
   split<;>omega
theorem DQ {y:Yd}(ok:y.Ok)(k t:Nat):0<=Zg y k t:=by
 unfold Zg;cases e:y.ls[k]? with
 |none=>simp
 |some ln =>
   have:=ok.bb ln (List.mem_of_getElem? e)
   simp only[XS,Wm];by_cases h:t<ln.bs.length
   ·have h2:=this (ln.bs[t]) (XL h)
    simp only[List.getD,Xx h,Wm];exact h2.1
   ·simp[List.getD,h]
theorem Na {y:Yd}(ok:y.Ok)(gs:List Gs):Vb y gs []=0:=by
 have g0:∀t,Zf y gs [] t=0:=fun t=>by
  unfold Zf passes Vp;rw[Cf y,T5 ok];have:=DQ ok 0 t
  dsimp only;omega
 unfold Vb;rw[Va,Zb (g:=fun _=>0) fun t _=>g0 t,VF]
inductive R_given:List OT->OT->Prop
 |mk {y:Yd} {gs:List Gs} {sm:Qk} {t:Int} (ok:y.Ok) (hg:∀g∈gs,g.Ok y) (hs:SetOk gs sm) (h0:0<=t) (h1:t<(y.T:Int)) :
  R_given [.fz (QY y),.fz (.list (gs.map QH)),.fz (.list (QN sm)),.fz (.int t)] (.fz (.int (Zf y gs sm t.toNat)))
theorem ZkF:Qp ["yard","guests","some","turn"] ["yard","guests","some","turn"] (Q1 Kt):=by walk_at"p"
theorem E1 (T:Bl mg) (D:Df K mg "given_at" Kt ["yard","guests","some","turn"]) (Xb2:Q0 P w K mg base "reaching_at" ["yard","guests","some","turn"] 2 (Q7 (K:=K) R_reaching)) (XbA:Q0 P w K mg base "bound_at" ["yard","line","turn"] 1 (Q7 (K:=K) R_bound)) :
 Q0 P w K mg base "given_at" ["yard","guests","some","turn"] 3 (Q7 (K:=K) R_given):=by
 refine D.ev ZkF (fun ts r h=>by cases h;rfl) (fun _ _ _ _ s H E ts r hr h=>?_)
 cases h with
 |@mk y gs sm t ok hg hs h0 h1 =>
   refine⟨_,(QB (QV (Z5 (DG rfl) (by rfl) T.min BB (Qo (QM QL (Q9 Xb2 hr (Qo (pv 0) (Qo (pv 1) (Qo (pv 2) (Qo (pv 3) Qs))))) Qy) (Qo (Q9 XbA hr (Qo (pv 0) (Qo Qy (Qo (pv 3) Qs)))) Qs))))),?_⟩
   show Q3 K _ [some _,some _,some _,some _] _
   walk_at"x"
   have l1:=ok.l1
   have rl:=OA y gs sm t.toNat
   walk_at"ret"
   show _=_
   rw[show(0:Int).toNat=0 from rfl,O8 (by omega)];rfl
inductive R_givenm:List OT->OT->Prop
 |mk {y:Yd} {gs:List Gs} {sm:Qk} (ok:y.Ok) (hg:∀g∈gs,g.Ok y) (hs:SetOk gs sm) :
  R_givenm [.fz (QY y),.fz (.list (gs.map QH)),.fz (.list (QN sm))] (.fz (.int (Vb y gs sm)))
theorem ZhI:Qp ["yard","guests","some"] ["yard","guests","some"] (Q1 Mu):=by walk_at"p"
theorem ID (T:Bl mg) (D:Df K mg "given_most" Mu ["yard","guests","some"]) (Xbu:Q0 P w K mg base "turns_of" ["yard"] 1 (Q7 (K:=K) R_turns)) (XbP:Q0 P w K mg base "given_at" ["yard","guests","some","turn"] 3 (Q7 (K:=K) R_given)) :
 Q0 P w K mg base "given_most" ["yard","guests","some"] 4 (Q7 (K:=K) R_givenm):=by
 refine D.ev ZhI (fun ts r h=>by cases h;rfl) (fun _ _ _ _ s H E ts r hr h=>?_)
 cases h with
 |@mk y gs sm ok hg hs =>
   refine⟨_,(QB (QV (Z5 GA (by rfl) T.sum G2 (Qo (Vq (NX:=["yard","guests","some"]) (sc:=Q1 Mu) (N:=["turn","yard","guests","some"]) (f:=[none,some 0,some 1,some 2]) rfl (by decide +kernel) rfl rfl (Yp rfl T.range (Qo (Q9 Xbu hr (Qo (pv 0) Qs)) Qs)) (fun _=>(Za (i:=0) (show(["turn","yard","guests","some"]:Qh).Nodup by decide +kernel) rfl Qa)) (fun _=>ZC) (fun _=>Vg) (fun _=>(Q9 XbP hr (Qo (pv 1) (Qo (pv 2) (Qo (pv 3) (Qo (pv 0) Qs))))))) Qs)))),?_⟩
   show Q3 K _ [some _,some _,some _] _
   walk_at"x"
   have t8:=ok.t8
   refine ZG (Gz (ns:=(List.range y.T).map fun t=>Zf y gs sm t) ?_ rfl) rfl
   refine EvO.fz ?_
   rw[XI];refine DO (lo:=0) (n:=y.T) ?_ (by omega) ?_
   ·walk_at"eir"
   ·intro x hx c
    refine⟨_,by walk_at"g",?_⟩
    walk_at"e"
    rw[YS];have h:R_given [.fz (QY y),.fz (.list (gs.map QH)),.fz (.list (QN sm)),.fz (.int (x:Int))] (.fz (.int (Zf y gs sm x))):=R_given.mk (t:=(x:Int)) ok hg hs (by omega) (by omega)
    exact Zj (by walk_at"ea") h
def Jw (l:Ln)(k:Int):Ln:=⟨l.up,l.bs.map fun b=>b*k⟩
def Zp (y:Yd)(k:Int):Yd:=⟨y.T,y.ls.map fun l=>Jw l k⟩
def Z8 (g:Gs)(k:Int):Gs:=⟨g.line,g.first,g.last,g.want*k,g.most*k⟩
theorem TV {y:Yd}(ok:y.Ok){k:Int}(h0:0<=k)(hb:∀l∈y.ls,∀b∈l.bs,b*k<10^300):(Zp y k).Ok:=by
 have hu:∀j,QS (Zp y k) j=QS y j:=fun j=>by
  simp only[QS,Zp,Xk];cases y.ls[j]?<;>rfl
 refine⟨ok.t1,ok.t8,by simpa [Zp] using ok.l1,by simpa [Zp] using ok.l5,by rw[hu];exact ok.up0,fun j h1 h2=>?_,fun l hl=>?_,fun l hl b hb'=>?_⟩
 ·rw[hu]
  exact ok.ups j h1 (by simpa [Zp] using h2)
 ·simp only[Zp,Xw]at hl
  obtain⟨l0,h1,rfl⟩:=hl
  simpa [Jw,Zp] using ok.bl l0 h1
 ·simp only[Zp,Xw]at hl
  obtain⟨l0,h1,rfl⟩:=hl
  simp only[Jw,Xw]at hb';obtain⟨b0,h2,rfl⟩:=hb'
  exact⟨JF (ok.bb l0 h1 b0 h2).1 h0,hb l0 h1 b0 h2⟩
inductive R_lntimes:List OT->OT->Prop
 |mk {l:Ln} {k:Int} (hb:∀b∈l.bs,IntMulOk b k) (hl:l.bs.length<=8):R_lntimes [.fz (ZH l),.fz (.int k)] (.fz (ZH (Jw l k)))
theorem Zif:Qp ["line","k"] ["line","k"] (Q1 M6):=by walk_at"p"
theorem ZmK (T:Bl mg) (D:Df K mg "line_times" M6 ["line","k"]):Q0 P w K mg base "line_times" ["line","k"] 1 (Q7 (K:=K) R_lntimes):=by
 refine D.ev Zif (fun ts r h=>by cases h;rfl) (fun _ _ _ _ s H E ts r hr h=>?_)
 cases h with
 |@mk l k hb hl =>
   refine⟨_,(QB (QV (ZB (Qo (QM QL (pv 0) Qy) (Qo (WU UT (by rfl) T.tuple UR (Qo (Vq (NX:=["line","k"]) (sc:=Q1 M6) (N:=["bound","k"]) (f:=[none,some 1]) rfl (by decide +kernel) rfl rfl (BG (QM QL (pv 0) Qy)) (fun _=>(Za (i:=0) (show(["bound","k"]:Qh).Nodup by decide +kernel) rfl Qa)) (fun _=>ZC) (fun _=>Vg) (fun _=>(QF WS (pv 0) (pv 1)))) Qs)) Qs))))),?_⟩
   show Q3 K _ [some _,some _] _
   walk_at"x"
   refine ZG (V0 (Zl (by walk_at"ev") (Zl (G8 (EvO.fz (V8 (xs:=l.bs) (enc:=PyData.int) (h:=fun b=>.int (b*k)) ?ei (by omega) ?el))) Z2)) (Nat.le_of_ble_eq_true rfl)) ?_
   case ei=>walk_at"ei"
   case el =>
    intro x hx c;have hm:=hb x hx
    refine⟨_,by walk_at"g",?_⟩
    walk_at"e"
    walk_at"ev"
   show _=_
   unfold ZH Jw;rw[XI];rfl
inductive R_ydtimes:List OT->OT->Prop
 |mk {y:Yd} {k:Int} (hb:∀l∈y.ls,∀b∈l.bs,IntMulOk b k) (hl:∀l∈y.ls,l.bs.length<=8) (h5:y.ls.length<=5):R_ydtimes [.fz (QY y),.fz (.int k)] (.fz (QY (Zp y k)))
theorem ZhQ:Qp ["yard","k"] ["yard","k"] (Q1 Mw):=by walk_at"p"
theorem OL (T:Bl mg) (D:Df K mg "yard_times" Mw ["yard","k"]) (Xb3:Q0 P w K mg base "line_times" ["line","k"] 1 (Q7 (K:=K) R_lntimes)):Q0 P w K mg base "yard_times" ["yard","k"] 2 (Q7 (K:=K) R_ydtimes):=by
 refine D.ev ZhQ (fun ts r h=>by cases h;rfl) (fun _ _ _ _ s H E ts r hr h=>?_)
 cases h with
 |@mk y k hb hl h5 =>
   refine⟨_,(QB (QV (ZB (Qo (QM QL (pv 0) Qy) (Qo (WU UT (by rfl) T.tuple UR (Qo (Vq (NX:=["yard","k"]) (sc:=Q1 Mw) (N:=["line","k"]) (f:=[none,some 1]) rfl (by decide +kernel) rfl rfl (BG (QM QL (pv 0) Qy)) (fun _=>(Za (i:=0) (show(["line","k"]:Qh).Nodup by decide +kernel) rfl Qa)) (fun _=>ZC) (fun _=>Vg) (fun _=>(Q9 Xb3 hr (Qo (pv 0) (Qo (pv 1) Qs))))) Qs)) Qs))))),?_⟩
   show Q3 K _ [some _,some _] _
   walk_at"x"
   refine ZG (V0 (Zl (by walk_at"ev") (Zl (G8 (EvO.fz (V8 (xs:=y.ls) (enc:=ZH) (h:=fun l=>ZH (Jw l k)) ?ei (by omega) ?el))) Z2)) (Nat.le_of_ble_eq_true rfl)) ?_
   case ei=>walk_at"ei"
   case el =>
    intro x hx c;have hm:=hb x hx
    have hn:=hl x hx
    refine⟨_,by walk_at"g",?_⟩
    walk_at"e"
    walk_at"ev"
   show _=_
   unfold QY Zp;rw[XI];rfl
inductive R_gstimes:List OT->OT->Prop
 |mk {g:Gs} {k:Int} (hw:IntMulOk g.want k) (hm:IntMulOk g.most k):R_gstimes [.fz (QH g),.fz (.int k)] (.fz (QH (Z8 g k)))
theorem Zha:Qp ["guest","k"] ["guest","k"] (Q1 KU):=by walk_at"p"
theorem ZmB (T:Bl mg) (D:Df K mg "guest_times" KU ["guest","k"]):Q0 P w K mg base "guest_times" ["guest","k"] 1 (Q7 (K:=K) R_gstimes):=by
 refine D.ev Zha (fun ts r h=>by cases h;rfl) (fun _ _ _ _ s H E ts r hr h=>?_)
 cases h with
 |@mk g k hw hm =>
   refine⟨_,(QB (QV (ZB (Qo (QM QL (pv 0) Qy) (Qo (QM QL (pv 0) Qy) (Qo (QM QL (pv 0) Qy) (Qo (QF WS (QM QL (pv 0) Qy) (pv 1)) (Qo (QF WS (QM QL (pv 0) Qy) (pv 1)) Qs)))))))),?_⟩
   show Q3 K _ [some _,some _] _
   walk_at"x"
   walk_at"ret"
   rfl
inductive R_gsstimes:List OT->OT->Prop
 |mk {gs:List Gs} {k:Int} (hw:∀g∈gs,IntMulOk g.want k/\IntMulOk g.most k) (h8:gs.length<=8):R_gsstimes [.fz (.list (gs.map QH)),.fz (.int k)] (.ol ((gs.map fun g=>Z8 g k).map QH))
theorem ZgK:Qp ["guests","k"] ["guests","k"] (Q1 M4):=by walk_at"p"
theorem Zkh (T:Bl mg) (D:Df K mg "guests_times" M4 ["guests","k"]) (Xb4:Q0 P w K mg base "guest_times" ["guest","k"] 1 (Q7 (K:=K) R_gstimes)):Q0 P w K mg base "guests_times" ["guests","k"] 2 (Q7 (K:=K) R_gsstimes):=by
 refine D.ev ZgK (fun ts r h=>by cases h;rfl) (fun _ _ _ _ s H E ts r hr h=>?_)
 cases h with
 |@mk gs k hw h8 =>
   refine⟨_,(QB (QV (Vq (NX:=["guests","k"]) (sc:=Q1 M4) (N:=["guest","k"]) (f:=[none,some 1]) rfl (by decide +kernel) rfl rfl (V2 (pv 0)) (fun _=>(Za (i:=0) (show(["guest","k"]:Qh).Nodup by decide +kernel) rfl Qa)) (fun _=>ZC) (fun _=>Vg) (fun _=>(Q9 Xb4 hr (Qo (pv 0) (Qo (pv 1) Qs))))))),?_⟩
   show Q3 K _ [some _,some _] _
   walk_at"x"
   refine Wf (V8 (xs:=gs) (enc:=QH) (h:=fun g=>QH (Z8 g k)) ?ei (by omega) ?el) ?_
   case ei=>walk_at"ei"
   case el =>
    intro x hx c;have h1:=(hw x hx).1
    have h2:=(hw x hx).2
    refine⟨_,by walk_at"g",?_⟩
    walk_at"e"
    walk_at"ev"
   show _=_
   rw[XI];rfl
theorem BQ:NoF "lay" := fun _ _ _ _=>rfl
theorem P8:NoF "lay_one" := fun _ _ _ _=>rfl
theorem Iq:NoF "flow" := fun _ _ _ _=>rfl
theorem Lg:NoF "reached" := fun _ _ _ _=>rfl
theorem ET:NoF "push" := fun _ _ _ _=>rfl
theorem Ea:NoF "fill" := fun _ _ _ _=>rfl
theorem A3:NoF "way_to" := fun _ _ _ _=>rfl
theorem ZgY:Qp ["self"] ["self"] (Q1 UY):=by walk_at"p"
theorem F8 {f:Addr} {fd:FuncData} (T:Bl mg) (U:Tx K mg C gS gE) (F:Fun K "__init__" "Net.__init__" UY f fd):FnOk P w K mg base CX0 1 f fd ["self"] (spI P w C):=by
 refine F.ok ZgY (fun vs H Q E ⟨x,dx,e,_⟩=>by rw[e];rfl) fun cdv A outer s H vs Q E hr ⟨x,dx,e,hx,q⟩=>?_
 subst e;refine⟨_,(Q2 (BE (pv 0) (Vj Qs) rfl)
 (Q2 (BE (pv 0) (Vj Qs) rfl)
 (Q2 (BE (pv 0) Em rfl)
 (QB (BE (pv 0) EO rfl))))),?_⟩
 refine⟨Vl _,fun e he=>⟨_,rfl,x,C,dx,[],rfl,?_,U.net.cl,U.net.ends,by decide,?_⟩⟩
 ·rw[Qx (ZM hx he)];exact hx
 have xe:x≠e:=ZM hx he
 refine⟨Vl _,fun r hr'=>⟨_,rfl,x,C,dx,[("ends",.ref e)],rfl,?_,U.net.cl,U.net.rooms,(by show(1:Nat)<1000;decide),?_⟩⟩
 ·have xr:x≠r:=ZM QR hr'
  rw[Qx xr,QR];rfl
 have xr:x≠r:=ZM QR hr'
 have rr:upd H e (.lst []) r=none:=by rw[Qx (Ne.symm xr)]at hr';exact hr'
 have er:e≠r:=ZM QR rr
 have r0:H r=none:=by rw[Qx (Ne.symm er)]at rr;exact rr
 refine fun l hl=>⟨_,rfl,x,C,dx,[("ends",.ref e),("rooms",.ref r)],rfl,?_,U.net.cl,U.net.leav,(by show(2:Nat)<1000;decide),?_⟩
 ·have xl:x≠l:=ZM QR hl
  rw[Qx xl,QR];rfl
 have xl:x≠l:=ZM QR hl
 rw[Qx (Ne.symm xl)]at hl;have rl:r≠l:=ZM QR hl
 rw[Qx (Ne.symm rl),Qx (Ne.symm xl)]at hl;have el:e≠l:=ZM QR hl
 rw[Qx (Ne.symm el)]at hl;refine fun d hd=>⟨_,rfl,x,C,dx,[("ends",.ref e),("rooms",.ref r),("leaving",.ref l)],rfl,?_,U.net.cl,U.net.laid,(by show(3:Nat)<1000;decide),?_⟩
 ·have xd:x≠d:=ZM QR hd
  rw[Qx xd,QR];rfl
 have xd:x≠d:=ZM QR hd
 rw[Qx (Ne.symm xd)]at hd;have ld:l≠d:=ZM QR hd
 rw[Qx (Ne.symm ld),Qx (Ne.symm xd)]at hd;have rd:r≠d:=ZM QR hd
 rw[Qx (Ne.symm rd),Qx (Ne.symm xd)]at hd;have ed:e≠d:=ZM QR hd
 rw[Qx (Ne.symm ed)]at hd;refine q e r l d _ he r0 hl hd ?_ ?_ ?_ ?_ ?_ ?_ (fun b hb=>?_)
 ·simp only[X3,Xg,Yr,or_false,not_or,not_false_eq_true,Gg,and_true]
  exact⟨⟨xe,xr,xl,xd⟩,⟨er,el,ed⟩,⟨rl,rd⟩,ld⟩
 ·rw[QR];rfl
 ·rw[Qx (Ne.symm xe),Qx ed,Qx (Ne.symm xe),Qx el,Qx (Ne.symm xe),Qx er,Qx (Ne.symm xe),QR]
 ·rw[Qx (Ne.symm xr),Qx rd,Qx (Ne.symm xr),Qx rl,Qx (Ne.symm xr),QR]
 ·rw[Qx (Ne.symm xl),Qx ld,Qx (Ne.symm xl),QR]
 ·rw[Qx (Ne.symm xd),QR];rfl
 ·simp only[Xg,Yr,or_false,not_or]at hb
  obtain⟨b1,b2,b3,b4,b5⟩:=hb
  rw[Qx b1,Qx b5,Qx b1,Qx b4,Qx b1,Qx b3,Qx b1,Qx b2]
inductive R_lay1:Qz->List OT->(Qz->Prop)->Prop
 |mk {N:Qz} {s e:List Key} {r:Int} (h1:N.ends.length<900) (h2:N.rooms.length<900) (h3:N.leav.length<900) (h4:∀k ns,QQ N.leav k=some ns->ns.length<900):R_lay1 N [.fz (QW s),.fz (QW e),.fz (.int r)] (fun N'=>N'=U9 N s e r)
theorem Zhh:Qp ["self","start","end","room"] ["self","start","end","room"] (Q1 Uk):=by walk_at"p"
theorem CC (T:Bl mg) (U:Tx K mg C gS gE) (D:Mf K C "lay_one" "Net.lay_one" Uk ["self","start","end","room"]):Vw P w K mg base C "lay_one" ["self","start","end","room"] 1 (spN K P w C R_lay1):=by
 refine D.evN Zhh (fun M ts Ψ h=>by cases h;rfl) (fun f cdv A outer s H E v M ts Ψ hr h=>?_)
 cases h with
 |@mk s' e r h1 h2 h3 h4 =>
   refine⟨_,(Q2 (ZV (YY PySem.F.plainAttrs_list PySem.F.slot_list_append PySem.F.type_list_append W6 (E8 (WK hr) (VC (pv 0) rfl) (pv 1) (Vj Qs) ⟨rfl,rfl,rfl,rfl⟩) (Qo (Z5 Yx (by rfl) T.len Yz (Qo (VC (pv 0) rfl) Qs)) Qs)))
 (Q2 (ZV (YY PySem.F.plainAttrs_list PySem.F.slot_list_append PySem.F.type_list_append W6 (VC (pv 0) rfl) (Qo (pv 2) Qs)))
 (QB (ZV (YY PySem.F.plainAttrs_list PySem.F.slot_list_append PySem.F.type_list_append W6 (VC (pv 0) rfl) (Qo (pv 3) Qs)))))),?_⟩
   show Q3 K _ [some _,some _,some _,some _] _
   walk_at"x"
   refine QI (Zm3 (N:=M) (n:=(M.ends.length:Int)) U.net rfl (Qq rfl) (by omega) (fun ns hns=>?_) (Tf (N:={ M with leav:=VH M.leav s' }) U.net rfl) ?_)
   ·rw[HP,Xc rfl]at hns
    cases hns
    cases z:QQ M.leav s' with
    |none=>decide
    |some ms=>have:=h4 s' ms z;show ms.length<1000;omega
   walk_at"d"
   refine QI (OF U.net rfl (Qq rfl) (show M.ends.length<1000 by omega) ?_)
   walk_at"d"
   refine ZmL U.net rfl (Qq rfl) (show M.rooms.length<1000 by omega) ?_
   walk_at"d"
   exact⟨_,rfl,rfl⟩
abbrev YX:QU Nd:=fun _ _=>0
inductive R_lay:Qz->List OT->(Qz->Prop)->Prop
 |mk {N:Qz} {L:Lay Nd} {s e:Nd} {r:Int} (h:NetR N L YX) (new:(s,e)∉L.map (fun x=>(x.1,x.2.1))) (l:L.length<400):R_lay N [.fz (QW (nk s)),.fz (QW (nk e)),.fz (.int r)] (fun N'=>NetR N' (L++[(s,e,r)]) YX)
theorem OB:Qp ["self","start","end","room"] ["self","start","end","room"] (Q1 Uh):=by walk_at"p"
theorem LU (T:Bl mg) (U:Tx K mg C gS gE) (D:Mf K C "lay" "Net.lay" Uh ["self","start","end","room"]) (XbV:Vw P w K mg base C "lay_one" ["self","start","end","room"] 1 (spN K P w C R_lay1)):Vw P w K mg base C "lay" ["self","start","end","room"] 2 (spN K P w C R_lay):=by
 refine D.evN OB (fun M ts Ψ h=>by cases h;rfl) (fun f cdv A outer s H E v M ts Ψ hr h=>?_)
 cases h with
 |@mk L s' e r h new l =>
   refine⟨_,(Q2 (CV (DZ hr) (VC (pv 0) rfl) (ZB (Qo (pv 1) (Qo (pv 2) Qs))) (Z5 Yx (by rfl) T.len Yz (Qo (VC (pv 0) rfl) Qs)) rfl)
 (Q2 (ZV (Y2 XbV U.net hr (pv 0) (Qo (pv 1) (Qo (pv 2) (Qo (pv 3) Qs)))))
 (QB (ZV (Y2 XbV U.net hr (pv 0) (Qo (pv 2) (Qo (pv 1) (Qo Qy Qs)))))))),?_⟩
   show Q3 K _ [some _,some _,some _,some _] _
   walk_at"x"
   have le:=h.elen
   have lr:M.rooms.length=2*L.length:=by rw[h.rooms,Kq]
   have l1:=h.l1
   have l2:=h.l2
   have l3:=h.l3
   refine QI (EE (N:=M) (n:=(M.ends.length:Int)) (k1:=nk s') (k2:=nk e) U.net rfl (Tf U.net rfl) (V0 (Zl (Qq rfl) (Zl (Qq rfl) Z2)) YB) (by omega) ?_)
   walk_at"d"
   refine QI (J3 (ΦA:=fun ts=>ts=[.fz (QW (nk s')),.fz (QW (nk e)),.fz (.int r)]) P8 rfl (WL (Qu (Qq rfl) (Qu (Qq rfl) (Qu (Qq rfl) QD))) rfl) (fun ts hts=>?_))
   subst hts;refine⟨_,R_lay1.mk (show M.ends.length<900 by omega) (show M.rooms.length<900 by omega) (show M.leav.length<900 by omega) (fun k ns hk=>by have:=l3 k ns hk;omega),fun N' hN=>?_⟩
   subst hN;walk_at"d"
   refine J3 (ΦA:=fun ts=>ts=[.fz (QW (nk e)),.fz (QW (nk s')),.fz (.int 0)]) P8 rfl (WL (Qu (Qq rfl) (Qu (Qq rfl) (Qu Ze QD))) rfl) (fun ts hts=>?_)
   subst hts;refine⟨_,R_lay1.mk ?a1 ?a2 ?a3 ?a4,fun N' hN=>?_⟩
   case a1=>show(M.ends++[nk e]).length<900;rw[Xq,le];show 2*L.length+1<900;omega
   case a2=>show(M.rooms++[r]).length<900;rw[Xq,lr];show 2*L.length+1<900;omega
   case a3 =>
    show(VJ (VH M.leav (nk s')) (nk s') _).length<900
    rw[Mh];have:=Hh M.leav (nk s')
    omega
   case a4 =>
    intro k ns hk;rw[UV]at hk;by_cases z:k=nk s'
    ·rw[Xc z]at hk
     cases hk
     have:((QQ M.leav (nk s')).getD []).length<=2*L.length:=by
      cases q:QQ M.leav (nk s') with
      |none=>exact Vl _
      |some ms=>exact l3 _ ms q
     show((QQ M.leav (nk s')).getD []++[_]).length<900
     rw[Xq];show _+1<900
     omega
    ·rw[Xb z]at hk
     have:=l3 k ns hk
     omega
   subst hN;walk_at"d"
   exact⟨_,Ev (r:=r) h rfl new,rfl⟩
def G0 (L:Lay Nd)(φ:QU Nd)(p q:Nd):Int:=if (p,q)∈L.map (fun x=>(x.1,x.2.1)) then φ p q else 0
inductive R_flow (P:Program)(w:World)(C:Addr):List OT->(OT->Prop)->Prop
 |mk {N:Qz} {L:Lay Nd} {φ:QU Nd} {p q:Nd} (h:NetR N L φ):R_flow P w C [.zow (ZR P w C N),.fz (QW (nk p)),.fz (QW (nk q))] (fun r=>r=.fz (.int (G0 L φ p q)))
theorem ZkI:Qp ["self","start","end"] ["self","start","end"] (Q1 Ue):=by walk_at"p"
theorem Cq (T:Bl mg) (U:Tx K mg C gS gE) (D:Mf K C "flow" "Net.flow" Ue ["self","start","end"]):Vw P w K mg base C "flow" ["self","start","end"] 1 (Zt K (R_flow P w C)):=by
 refine D.evD ZkI (fun ts Φ h=>by cases h;rfl) (fun _ _ _ _ s H E ts Φ hr h=>?_)
 cases h with
 |@mk N L φ p q h =>
   refine⟨_,(Q2 (VW (UG (II (DZ hr) (ZB (Qo (pv 1) (Qo (pv 2) Qs))) (VC (pv 0) rfl))) (QB (QV Qy)) Yb)
 (QB (QV (QM QL (VC (pv 0) rfl) (QF DM (CA (DZ hr) (VC (pv 0) rfl) (ZB (Qo (pv 1) (Qo (pv 2) Qs))) (fun _ _=>rfl)) Qy))))),?_⟩
   show Q3 K _ [some _,some _,some _] _
   walk_at"x"
   have key:∀{ρ:QG},ρ[1]?=some (some (.fz (QW (nk p))))->ρ[2]?=some (some (.fz (QW (nk q))))->Qt K (Bw (QZ (Zc 1) (QZ (Zc 2) Zm))) ρ (.tuple [QW (nk p),QW (nk q)]):=fun e1 e2=>V0 (Zl (Qq e1) (Zl (Qq e2) Z2)) YB
   refine QI (YW (b := !(ZK N.laid (nk p,nk q)).isSome) (Ji (Om U.net (key rfl rfl) rfl)) (fun c=>ZG Ze ?_) (fun c=>Yj ?_))
   ·have c:ZK N.laid (nk p,nk q)=none:=by
     cases z:ZK N.laid (nk p,nk q) with
     |none=>rfl
     |some n=>rw[z]at c;cases c
    show OT.fz (.int 0)=_
    unfold G0;rw[Xb (fun hm=>?_)]
    obtain⟨x,hx,ex⟩:=Xw.mp hm
    obtain⟨i,hi⟩:=List.mem_iff_getElem?.mp hx
    have:=h.laid i x hi
    injection ex with e1 e2
    rw[e1,e2,c]at this;cases this
   ·have hm:(p,q)∈L.map (fun x=>(x.1,x.2.1)):=by
     apply Classical.byContradiction
     intro hn;rw[h.laid0 p q hn]at c;cases c
    obtain⟨x,hx,ex⟩:=Xw.mp hm
    obtain⟨i,hi⟩:=List.mem_iff_getElem?.mp hx
    have hl:=h.laid i x hi
    injection ex with e1 e2
    rw[e1,e2]at hl;have hr':N.rooms[2*i+1]?=some (φ p q):=by
     rw[h.rooms,UU];unfold rmE;have a:(2*i+1)/2=i:=by omega
     have b:¬(2*i+1)%2=0:=by omega
     rw[a,hi];simp only[XS,Xb b,e1,e2]
    have ea:atI (N.rooms.map PyData.int) (Builtin.bitXor ((2*i:Nat):Int) 1)=some (.int (φ p q)):=by
     rw[KB];have a:Zfb (2*i)=2*i+1:=by unfold Zfb;rw[Xc (by omega)]
     rw[a];exact WQ (by rw[Xk,hr'];rfl)
    refine ZG (HJ (N:=N) U.net rfl (VA (g:=Builtin.bitXor) (Im (n:=((2*i:Nat):Int)) U.net rfl (key rfl rfl) hl) Ze) ea) ?_
    unfold G0;rw[Xc hm]
theorem SM {K:W.Frag}{ρ:QG}{ta:TE}{ds:Qd}(h:Qt K ta ρ (.list ds)):Z9 K (fun σ H Q=>ta σ H fun x H'=>∃k,Ds K x H' k/\Q k H') ρ (!ds.isEmpty):=fun H0 F σ H Q S q=>h H0 F σ H _ S fun F1 H1 v x1 r1=>by
 obtain⟨a,xs,rfl,h1,h2,_⟩:=Jd (K:=K) r1 x1.fh
 refine⟨_,.inl ⟨xs,h1,rfl⟩,?_⟩
 have e:xs.isEmpty=ds.isEmpty:=by
  have:=h2.length
  cases xs<;>cases ds<;>simp at this ⊢
 rw[e];exact q F1 H1 x1
def Wp (n:Nd):PyData:=QW (nk n)
inductive R_reached (P:Program)(w:World)(C:Addr):List OT->(OT->Prop)->Prop
 |mk {N:Qz} {L:Lay Nd} {φ:QU Nd} {s:Nd} (h:NetR N L φ) (l:L.length<400):R_reached P w C [.zow (ZR P w C N),.fz (QW (nk s))] (fun r=>∃v es,r=.own v (Vx (kvG es))/\Tree L φ s es/\VY L φ es)
structure ReachI (L:Lay Nd)(φ:QU Nd)(s:Nd)(es0 es:Got Nd)(U fu:List Nd):Prop where
 tree:Tree L φ s es
 fin:∀n∈fu,n∈QX es
 sub:∀n∈QX es0,n∈QX es
 done:JM L φ es (U++fu)
 len:es.length=es0.length+fu.length
theorem Um:Qp ["self","start","edges","latest","further","node","edge"] ["self","start"] (Q1 Ul):=by walk_at"p"
theorem ZmC (T:Bl mg) (U:Tx K mg C gS gE) (D:Mf K C "reached" "Net.reached" Ul ["self","start"]):Vw P w K mg base C "reached" ["self","start"] 1 (Zt K (R_reached P w C)):=by
 refine D.evD Um (fun ts Φ h=>by cases h;rfl) (fun _ _ _ _ s H E ts Φ hr h=>?_)
 cases h with
 |@mk N L φ s' h l =>
   refine⟨_,(Q2 (QJ (i:=2) Um.nd rfl Qa (Et (WK hr) (pv 1) GD))
 (Q2 (QJ (i:=3) Um.nd rfl Qa (Vj (Qo (pv 1) Qs)))
 (Q2 (Jz PassesOwn.never (Ph (pv 3) (fun _=>rfl)) (Q2 (QJ (i:=4) Um.nd rfl Qa (Vj Qs))
 (Q2 (VB PassesOwn.never rfl (V2 (pv 3)) (Za (i:=5) Um.nd rfl Qa) (QB (VB PassesOwn.never rfl (V2 (Es (WK hr) (VC (pv 0) rfl) (pv 5) (Vj Qs) ⟨rfl,rfl,rfl,rfl⟩)) (Za (i:=6) Um.nd rfl Qa) (QB (VW (PW.pt (RT (Vf Jp (QM QL (VC (pv 0) rfl) (pv 6)) Qy (ZT _)) (Sr (UG (Ix (WK hr) (QM QL (VC (pv 0) rfl) (pv 6)) (pv 2)))))) (Q2 (Cl (WK hr) (pv 2) (QM QL (VC (pv 0) rfl) (pv 6)) (pv 6) rfl)
 (QB (ZV (YY PySem.F.plainAttrs_list PySem.F.slot_list_append PySem.F.type_list_append W6 (pv 4) (Qo (QM QL (VC (pv 0) rfl) (pv 6)) Qs))))) Yb)))))
 (QB (QJ (i:=3) Um.nd rfl Qa (pv 4))))))
 (QB (QV (pv 2)))))),?_⟩
   show Q3 K _ [some _,some _,none,none,none,none,none] _
   walk_at"x"
   refine QI (Sq (Ep (k:=nk s') (d:=.none) (Qq rfl) Gy) (fun v=>?_))
   walk_at"d"
   refine QI (VO (Yy (ds:=[QW (nk s')]) (Zl (Qq rfl) Z2) U7) ?_)
   walk_at"d"
   refine V9 3 rfl ?_
   walk_at"d"
   have bnd:∀es,Tree L φ s' es->es.length<=2*L.length+1:=fun es t=>by have:=t.len;rw[Th]at this;exact this
   refine QI (Ud (fun m ρ'=>∃(es:Got Nd) (lt:List Nd) (u4 u5 u6:Option OT),Tree L φ s' es/\(∀n∈lt,n∈QX es)/\JM L φ es lt/\m=2*(2*L.length+2-es.length)+(if lt=[] then 0 else 1) /\
    ρ'=[some (.zow (ZR P w C N)),some (.fz (QW (nk s'))),some (.own v (Vx (kvG es))),some (.fz (.list (lt.map Wp))),u4,u5,u6]) _ ⟨[(s',none)],[s'],none,none,none,.root,(fun n hn=>by simpa [QX] using hn),?d0,rfl,rfl⟩ ?ws)
   case d0 =>
    intro e m n r h1 h2 h3 h4 h5 h6;have:m=s':=by simpa [QX] using h5
    exact Xl (by rw[this];exact Xd) h6
   case ws =>
    rintro m _ ⟨es,lt,u4,u5,u6,tr,sb,dn,rfl,rfl⟩
    refine⟨_,SM (ds:=lt.map Wp) (Qq rfl),fun c=>?_,fun c=>?_⟩
    ·have hlt:lt≠[]:=fun z=>by rw[z]at c;cases c
     rw[Xb hlt];refine QI (VO (Yy (ds:=[]) Z2 (by decide)) ?_)
     walk_at"d"
     refine QI (Ju (ds:=lt.map Wp) (fun i ρ'=>∃(es':Got Nd) (fu:List Nd) (u5 u6:Option OT),ReachI L φ s' es es' (lt.drop i) fu /\
      ρ'=[some (.zow (ZR P w C N)),some (.fz (QW (nk s'))),some (.own v (Vx (kvG es'))),some (.fz (.list (lt.map Wp))),some (.ol (fu.map Wp)),u5,u6]) (VQ (Qq rfl)) ⟨es,[],_,_,⟨tr,(fun n hn=>nomatch hn),fun n hn=>hn,by rw[List.drop_zero,XV];exact dn,by simp⟩,rfl⟩ ?st ?fin)
     case fin =>
      rintro _ ⟨es',fu,w5,w6,I,rfl⟩
      rw[Xm]at I;have dn':=I.done
      rw[List.drop_length,List.nil_append]at dn';refine V9 4 rfl ?_
      walk_at"d"
      refine ZU (Qq rfl) ?_
      walk_at"d"
      refine⟨2*(2*L.length+2-es'.length)+(if fu=[] then 0 else 1),?_,es',fu,_,_,_,I.tree,I.fin,dn',rfl,rfl⟩
      have b1:=bnd es' I.tree
      have b2:=I.len
      by_cases z:fu=[]
      ·rw[Xc z]
       rw[z]at b2;simp at b2
       omega
      ·rw[Xb z]
       have:0<fu.length:=MM.mpr z
       omega
     case st =>
      rintro i d _ hd ⟨es1,fu1,w5,w6,I1,rfl⟩
      have hi:i<lt.length:=by
       have:=(Xh.mp hd).1
       simpa using this
      obtain rfl:d=Wp lt[i]:=by simpa [hi] using hd.symm
      have hdr:lt.drop i=lt[i]::lt.drop (i+1):=Nl hi
      generalize lt[i]=x at hdr;refine⟨_,Zw,?_⟩
      walk_at"d"
      refine Ju (ds:=((QQ N.leav (nk x)).getD []).map PyData.int) (fun j ρ'=>∃(es2:Got Nd) (fu2:List Nd) (u6:Option OT),ReachI L φ s' es es2 (lt.drop i) fu2 /\
       (∀(k:Nat) (n:Nd) (r:Int),(k:Int)∈((QQ N.leav (nk x)).getD []).take j->hdE L k=some n->rmE L φ k=some r->0<r->n∈QX es2) /\
       ρ'=[some (.zow (ZR P w C N)),some (.fz (QW (nk s'))),some (.own v (Vx (kvG es2))),some (.fz (.list (lt.map Wp))),some (.ol (fu2.map Wp)),some (.fz (Wp x)),u6]) (VQ (Ey (k:=nk x) U.net rfl (Qq rfl))) ⟨es1,fu1,_,I1,(fun k n r hk=>by simp at hk),rfl⟩ ?st2 ?fin2
      case fin2 =>
       rintro _ ⟨es2,fu2,w6,I2,dn2,rfl⟩
       refine⟨es2,fu2,_,_,⟨I2.tree,I2.fin,I2.sub,?_,I2.len⟩,rfl⟩
       rw[Xm,Wn]at dn2;intro e m n r h1 h2 h3 h4 h5 h6;by_cases z:m=x
       ·subst z
        exact dn2 e n r ((h.leav m (e:Int)).mpr ⟨e,rfl,h1⟩) h2 h3 h4
       ·refine I2.done e m n r h1 h2 h3 h4 h5 ?_
        rw[hdr,Uw,Xg,not_or];exact⟨z,h6⟩
      case st2 =>
       rintro j d2 _ hd2 ⟨es2,fu2,w6,I2,dn2,rfl⟩
       have hj:j<((QQ N.leav (nk x)).getD []).length:=by
        have:=(Xh.mp hd2).1
        simpa using this
       obtain⟨k,ek,tk⟩:=(h.leav x _).mp (XL hj)
       obtain rfl:d2=.int (k:Int):=by
        rw[Xk,Xx hj]at hd2;rw[ek]at hd2;simpa using hd2.symm
       obtain⟨y,hy⟩:∃y,L[k/2]?=some y:=by
        unfold tlE at tk;cases z:L[k/2]? with
        |none=>rw[z]at tk;cases tk
        |some y=>exact⟨y,rfl⟩
       obtain⟨n,hn⟩:∃n,hdE L k=some n:=⟨_,by unfold hdE;rw[hy];rfl⟩
       obtain⟨r,hr'⟩:∃r,rmE L φ k=some r:=⟨_,by unfold rmE;rw[hy];rfl⟩
       have ra:atI (N.rooms.map PyData.int) (k:Int)=some (.int r):=WQ (by rw[Xk,h.rooms,UU,hr'];rfl)
       have ea:atI (N.ends.map QW) (k:Int)=some (QW (nk n)):=WQ (by rw[h.ends,XI,Xk,Hj,hn];rfl)
       have tks:((QQ N.leav (nk x)).getD []).take (j+1)=((QQ N.leav (nk x)).getD []).take j++[(k:Int)]:=by rw[WB,Xx hj,ek];rfl
       have bes:=bnd es2 I2.tree
       have ben:=I2.len
       refine⟨_,Zw,?_⟩
       walk_at"d"
       have eend:∀{ρ:QG},ρ[0]?=some (some (.zow (ZR P w C N)))->ρ[6]?=some (some (.fz (.int (k:Int))))->Qt K (tOp (rIx K) (Yt K (Zc 0) "ends") (Zc 6)) ρ (QW (nk n)):=fun e0 e6=>So U.net e0 (Qq e6) ea
       refine YW (b:=decide (r > 0) && !(VU (kvG es2) (nk n)).isSome) (DD (Ya (Js (HJ U.net rfl (Qq rfl) ra) Ze)) (fun _=>Ji (ZmG (eend rfl rfl) rfl))) (fun c=>?_) (fun c=>Yj ?_)
       ·rw[G3]at c
        have c1:r > 0:=Xz (Us.mp c).1
        have c2:n∉QX es2:=by simpa using (Us.mp c).2
        refine QI (ES rfl (Qq rfl) (eend rfl rfl) (by rw[show(kvG es2).length=es2.length from Xm _];exact Vv (by omega)) ?_)
        walk_at"d"
        rw[EB c2];refine GP (ds:=fu2.map Wp) rfl (eend rfl rfl) (by rw[Xm];omega) ?_
        walk_at"d"
        have km:x∈QX es2:=I2.sub x (sb x (MS (by rw[hdr];exact Xd)))
        refine⟨es2++[(n,some k)],fu2++[n],_,⟨I2.tree.add c2 hn tk km hr' c1,fun z hz=>?_,fun z hz=>J6.mpr (.inl (I2.sub z hz)),?_,by simp;omega⟩,fun k' n' r' hk' q1 q2 q3=>?_,by rw[Xy];rfl⟩
        ·rcases XG.mp hz with hz|hz
         ·exact J6.mpr (.inl (I2.fin z hz))
         ·exact J6.mpr (.inr (by simpa using hz))
        ·exact I2.done.add n (some k)
        ·rw[tks]at hk'
         rcases XG.mp hk' with z|z
         ·exact J6.mpr (.inl (dn2 k' n' r' z q1 q2 q3))
         ·have:k'=k:=by have:=Xn.mp z;omega
          subst this;rw[hn]at q1;cases q1
          exact J6.mpr (.inr rfl)
       ·rw[G3]at c
        refine⟨es2,fu2,_,I2,fun k' n' r' hk' q1 q2 q3=>?_,rfl⟩
        rw[tks]at hk';rcases XG.mp hk' with z|z
        ·exact dn2 k' n' r' z q1 q2 q3
        ·have:k'=k:=by have:=Xn.mp z;omega
         subst this;rw[hn]at q1;rw[hr']at q2;cases q1
         cases q2
         apply Classical.byContradiction
         intro hq;have q3':r > 0:=q3
         simp[q3',hq]at c
    ·have hlt:lt=[]:=by
      cases lt with
      |nil=>rfl
      |cons a b=>cases c
     subst hlt;exact S8 rfl ⟨v,es,rfl,tr,dn.closed⟩
def Yw (w:Qk):Qd:=w.map fun(e:Nat)=>PyData.int (e:Int)
theorem Tc {L:Lay Nd}{es:Got Nd}{n:Nd}{w:Qk}(b:Back L es n w):VU (kvG es) (nk n)=some (U4 w.head?):=by
 rw[HD];cases b with
 |nil h=>rw[h];rfl
 |cons h t b=>rw[h];rfl
theorem Re {L:Lay Nd}{φ:QU Nd}{e:Nat}{r:Int}(h:rmE L φ e=some r):e<2*L.length:=by
 unfold rmE at h;cases z:L[e/2]? with
 |none=>rw[z]at h;cases h
 |some x=>have:=(Xh.mp z).1;omega
theorem SL {L:Lay Nd}{φ:QU Nd}{s n:Nd}{es:Got Nd}{w:Qk}(q:WayOk L φ s es n w):w.length<=2*L.length:=by
 have:=HZ (ys:=List.range (2*L.length)) q.nodup fun e he=>by
  obtain⟨r,hr,_⟩:=q.room e he
  exact Xr.mpr (Re hr)
 simpa using this
inductive R_way (P:Program)(w:World)(C:Addr):List OT->(OT->Prop)->Prop
 |mk {N:Qz} {L:Lay Nd} {φ:QU Nd} {s n:Nd} {es:Got Nd} {wy:Qk} (h:NetR N L φ) (l:L.length<400) (q:WayOk L φ s es n wy):R_way P w C [.zow (ZR P w C N),.zow (JO (kvG es)),.fz (QW (nk n))] (fun r=>r=.ol (Yw wy))
theorem MB:Qp ["self","edges","end","way","edge"] ["self","edges","end"] (Q1 Uo):=by walk_at"p"
theorem Cz (T:Bl mg) (U:Tx K mg C gS gE) (D:Mf K C "way_to" "Net.way_to" Uo ["self","edges","end"]):Vw P w K mg base C "way_to" ["self","edges","end"] 1 (Zt K (R_way P w C)):=by
 refine D.evD MB (fun ts Φ h=>by cases h;rfl) (fun _ _ _ _ s H E ts Φ hr h=>?_)
 cases h with
 |@mk N L φ s' n es wy h l q =>
   refine⟨_,(Q2 (QJ (i:=3) MB.nd rfl Qa (Vj Qs))
 (Q2 (QJ (i:=4) MB.nd rfl Qa (Sv (WK hr) (pv 1) (pv 2) (fun _ _=>rfl)))
 (Q2 (Jz PassesOwn.never (UG (C8 (pv 4))) (Q2 (ZV (YY PySem.F.plainAttrs_list PySem.F.slot_list_append PySem.F.type_list_append W6 (pv 3) (Qo (pv 4) Qs)))
 (QB (QJ (i:=4) MB.nd rfl Qa (Sv (WK hr) (pv 1) (QM QL (VC (pv 0) rfl) (QF DM (pv 4) Qy)) (fun _ _=>rfl))))))
 (QB (QV (pv 3)))))),?_⟩
   show Q3 K _ [some _,some _,some _,none,none] _
   walk_at"x"
   have wl:=SL q
   refine QI (VO (Yy (ds:=[]) Z2 (by decide)) ?_)
   walk_at"d"
   refine QI (ZU (Sx rfl (Qq rfl) (Tc q.back)) ?_)
   walk_at"d"
   refine QI (Ud (fun m ρ'=>∃(dn rs:Qk) (n':Nd),m=rs.length/\dn++rs=wy/\Back L es n' rs/\ρ'=[some (.zow (ZR P w C N)),some (.zow (JO (kvG es))),some (.fz (QW (nk n))),some (.ol (Yw dn)),some (.fz (U4 rs.head?))]) wy.length ⟨[],wy,n,rfl,rfl,q.back,rfl⟩ ?ws)
   case ws =>
    rintro m _ ⟨dn,rs,n',rfl,hw,b,rfl⟩
    refine⟨_,Ji (Rt (Qq rfl)),fun c=>?_,fun c=>?_⟩
    ·cases b with
     |nil h0=>cases c
     |@cons _ m' e rs' h0 t0 b0 =>
       have dl:dn.length<1000:=by
        have:=ZD List.length hw
        rw[Xq]at this;omega
       refine QI (GP (ds:=Yw dn) (d:=.int (e:Int)) rfl (Qq rfl) (by unfold Yw;rw[Xm];exact dl) ?_)
       walk_at"d"
       have ea:atI (N.ends.map QW) (Builtin.bitXor (e:Int) 1)=some (QW (nk m')):=by
        rw[KB];exact WQ (by rw[h.ends,XI,Xk,IF,t0];rfl)
       refine ZU (Sx rfl (So U.net rfl (VA (g:=Builtin.bitXor) (Qq rfl) Ze) ea) (Tc b0)) ?_
       walk_at"d"
       refine⟨rs'.length,Uy _,dn++[e],rs',m',rfl,by rw[<- hw,Gd];rfl,b0,?_⟩
       unfold Yw;rw[Xy];rfl
    ·have:rs=[]:=by
      cases rs with
      |nil=>rfl
      |cons a b=>cases c
     subst this;rw[XV]at hw;subst hw;exact GE rfl rfl
def amt (L:Lay Nd)(φ:QU Nd)(w:Qk):Int:=Ys (w.map fun e=>(rmE L φ e).getD 0)
inductive R_push:Qz->List OT->(Qz->Prop)->Prop
 |mk {N:Qz} {L:Lay Nd} {φ:QU Nd} {wy:Qk} (h:NetR N L φ) (hd:Dis L) (ne:wy≠[]) (hin:∀e∈wy,∃r,rmE L φ e=some r) (hl:wy.length<900):R_push N [.fz (.list (Yw wy))] (fun N'=>NetR N' L (YZ L (amt L φ wy) φ wy))
theorem NetR.rm {N:Qz}{L:Lay Nd}{φ:QU Nd}(h:NetR N L φ){e:Nat}(he:e<2*L.length):∃r,N.rooms[e]?=some r/\(V1 L φ)[e]?=some r:=by
 have:e<(V1 L φ).length:=by rw[Kq];exact he
 exact⟨(V1 L φ)[e],by rw[h.rooms,Xx this],Xx this⟩
theorem NetR.push {N:Qz}{L:Lay Nd}{φ:QU Nd}(h:NetR N L φ)(hd:Dis L){a r r':Int}{e:Nat}(h1:(V1 L φ)[e]?=some r)(h2:(V1 L φ)[Zfb e]?=some r'):NetR { N with rooms:=(N.rooms.set e (r-a)).set (Zfb e) (r'+a) } L (VV L a φ e) :=
 ⟨h.ends,by show(N.rooms.set e (r-a)).set (Zfb e) (r'+a)=_;rw[h.rooms,Zm5 hd h1 h2],h.leav,h.laid,h.laid0,h.l1,h.l2,h.l3⟩
theorem OQ {L:Lay Nd}{a:Int}{φ:QU Nd}{wy:Qk}{i e:Nat}(h:wy[i]?=some e):YZ L a φ (wy.take (i+1))=VV L a (YZ L a φ (wy.take i)) e:=by
 have t:wy.take (i+1)=wy.take i++[e]:=by rw[WB,h];rfl
 rw[t];unfold YZ;rw[List.foldl_append];rfl
theorem KD:Qp ["self","way","amount","edge"] ["self","way"] (Q1 J5):=by walk_at"p"
theorem A2 (T:Bl mg) (U:Tx K mg C gS gE) (D:Mf K C "push" "Net.push" J5 ["self","way"]):Vw P w K mg base C "push" ["self","way"] 1 (spN K P w C R_push):=by
 refine D.evN KD (fun M ts Ψ h=>by cases h;rfl) (fun f cdv A outer s H E v M ts Ψ hr h=>?_)
 cases h with
 |@mk L φ wy h hd ne hin hl =>
   refine⟨_,(Q2 (QJ (i:=2) KD.nd rfl Qa (Z5 CJ (by rfl) T.min BB (Qo (Vq (NX:=["self","way","amount","edge"]) (sc:=Q1 J5) (N:=["edge","self"]) (f:=[none,some 0]) rfl (by decide +kernel) rfl rfl (V2 (pv 1)) (fun _=>(Za (i:=0) (show(["edge","self"]:Qh).Nodup by decide +kernel) rfl Qa)) (fun _=>ZC) (fun _=>Vg) (fun _=>(QM QL (VC (pv 1) rfl) (pv 0)))) Qs)))
 (QB (VB PassesOwn.never rfl (V2 (pv 1)) (Za (i:=3) KD.nd rfl Qa) (Q2 (BN (VC (pv 0) rfl) (pv 3) Mb (pv 2) FR GV)
 (QB (BN (VC (pv 0) rfl) (QF DM (pv 3) Qy) Mb (pv 2) G4 GV)))))),?_⟩
   show Q3 K _ [some _,some _,none,none] _
   walk_at"x"
   refine QI (ZU (d:=.int (amt L φ wy)) (ZlT 0 rfl rfl (Cn (ns:=wy.map fun e=>(rmE L φ e).getD 0) (Qt.cast (EvO.fz (V8 (xs:=wy) (enc:=fun(e:Nat)=>PyData.int (e:Int)) (h:=fun e=>.int ((rmE L φ e).getD 0)) ?ei (by omega) ?el)) (by rw[XI];rfl)) rfl (fun z=>ne (List.map_eq_nil_iff.mp z)))) ?_)
   case ei=>exact VQ (Qq rfl)
   case el =>
    intro e he c;refine⟨_,Zw,?_⟩
    walk_at"e"
    obtain⟨r,hr'⟩:=hin e he
    refine Qt.cast (HJ (N:=M) (m:=r) U.net rfl (Qq rfl) ?_) (by rw[hr'];rfl)
    exact WQ (by rw[Xk,h.rooms,UU,hr'];rfl)
   walk_at"d"
   generalize amt L φ wy=a;refine Ju (ds:=Yw wy) (fun i ρ'=>∃(N':Qz) (u3:Option OT),NetR N' L (YZ L a φ (wy.take i))/\ρ'=[some (.own v (Zi P w C N')),some (.fz (.list (Yw wy))),some (.fz (.int a)),u3]) (VQ (Qq rfl)) ⟨M,_,h,rfl⟩ ?st ?fin
   case fin =>
    rintro _ ⟨N',u3,hN,rfl⟩
    unfold Yw at hN;rw[Xm,Wn]at hN;exact⟨N',hN,rfl⟩
   case st =>
    rintro i d _ hd' ⟨N',u3,hN,rfl⟩
    have hi:i<wy.length:=by
     have:=(Xh.mp hd').1
     unfold Yw at this;simpa using this
    obtain rfl:d=.int (wy[i]:Int):=by
     unfold Yw at hd';simpa [hi] using hd'.symm
    obtain⟨r0,hr0⟩:=hin wy[i] (XL hi)
    have el:=Re hr0
    rw[OQ (Xx hi)];generalize wy[i]=e at el;have em:Zfb e<2*L.length:=by unfold Zfb;split<;>omega
    have me:Zfb e≠e:=by unfold Zfb;split<;>omega
    obtain⟨r,h1,h2⟩:=My.NetR.rm hN el
    obtain⟨r',h3,h4⟩:=My.NetR.rm hN em
    refine⟨_,Zw,?_⟩
    walk_at"d"
    refine QI (Tw (N:=N') (f:=fun i j=>i-j) (k:=(e:Int)) (m:=r) (n:=a) U.net rfl (Qq rfl) (by omega) (by rw[XH];exact h1) (Qq rfl) ?_)
    walk_at"d"
    rw[XH];refine Tw (f:=fun i j=>i+j) (k:=(Zfb e:Int)) (m:=r') (n:=a) U.net rfl (Qt.cast (VA (g:=Builtin.bitXor) (Qq rfl) Ze) (by rw[KB])) (by omega) (by rw[XH];show(N'.rooms.set e (r-a))[Zfb e]?=_;rw[X0 (Ne.symm me)];exact h3) (Qq rfl) ?_
    walk_at"d"
    rw[XH];exact⟨_,_,My.NetR.push hN hd h2 h4,rfl⟩
inductive R_fill:Qz->List OT->(Qz->Prop)->Prop
 |mk {N:Qz} {y:Yd} {G:Gv} {φ:QU Nd} (h:NetR N (Zk y G) φ) (F:Flow y G φ) (l:(Zk y G).length<400):R_fill N [.fz (QW (nk .start)),.fz (QW (nk .fin))] (fun N'=>∃φ' es,NetR N' (Zk y G) φ'/\Flow y G φ'/\Nd.start∈QX es/\VY (Zk y G) φ' es/\Nd.fin∉QX es)
theorem KJ:Qp ["self","start","end","edges"] ["self","start","end"] (Q1 Uf):=by walk_at"p"
theorem Av (T:Bl mg) (U:Tx K mg C gS gE) (D:Mf K C "fill" "Net.fill" Uf ["self","start","end"]) (XbH:Vw P w K mg base C "reached" ["self","start"] 1 (Zt K (R_reached P w C))) (Xb5:Vw P w K mg base C "push" ["self","way"] 1 (spN K P w C R_push)) (Xb6:Vw P w K mg base C "way_to" ["self","edges","end"] 1 (Zt K (R_way P w C))) :
 Vw P w K mg base C "fill" ["self","start","end"] 2 (spN K P w C R_fill):=by
 refine D.evN KJ (fun M ts Ψ h=>by cases h;rfl) (fun f cdv A outer s H E v M ts Ψ hr h=>?_)
 cases h with
 |@mk y G φ h F l =>
   refine⟨_,(Q2 (QJ (i:=3) KJ.nd rfl Qa (Y2 XbH U.net hr (pv 0) (Qo (pv 1) Qs)))
 (QB (Jz PassesOwn.never (UG (RF (WK hr) (pv 2) (pv 3))) (Q2 (ZV (Y2 Xb5 U.net hr (pv 0) (Qo (Y2 Xb6 U.net hr (pv 0) (Qo (pv 3) (Qo (pv 2) Qs))) Qs)))
 (QB (QJ (i:=3) KJ.nd rfl Qa (Y2 XbH U.net hr (pv 0) (Qo (pv 1) Qs)))))))),?_⟩
   show Q3 K _ [some _,some _,some _,none] _
   walk_at"x"
   have Vp:∀{M:Qz} {φ:QU Nd} {u:Option OT} {E':XK},NetR M (Zk y G) φ->Zy K (UE C "reached" (Zt K (R_reached P w C)) [] E' (Zc 0) (QZ (Zc 1) Zm)) [some (.own v (Zi P w C M)),some (.fz (QW (nk .start))),some (.fz (QW (nk .fin))),u] (fun r=>∃v' es,r=.own v' (Vx (kvG es))/\Tree (Zk y G) φ .start es/\VY (Zk y G) φ es):=fun h' =>
    Ko 0 rfl (fun r ⟨v',es,e,_⟩=>by subst e;exact E9 (Ef es)) (HX Lg rfl (Qu (Qq rfl) QD) (R_reached.mk h' l))
   refine QI (VS (Vp h) (fun r hr'=>?_))
   obtain⟨v3,es,rfl,tr,cl⟩:=hr'
   walk_at"d"
   refine Ud (fun m ρ'=>∃(M:Qz) (φ:QU Nd) (es:Got Nd) (v3:V),NetR M (Zk y G) φ/\Flow y G φ/\Tree (Zk y G) φ .start es/\VY (Zk y G) φ es/\m=(Qv G.wa G.m-Vz (Zk y G) φ .start).toNat /\
    ρ'=[some (.own v (Zi P w C M)),some (.fz (QW (nk .start))),some (.fz (QW (nk .fin))),some (.own v3 (Vx (kvG es)))]) _ ⟨M,φ,es,v3,h,F,tr,cl,rfl,rfl⟩ ?ws
   clear tr cl es v3 h F;rintro m _ ⟨M,φ,es,v3,h,F,tr,cl,rfl,rfl⟩
   refine⟨_,Ji (C5 (k:=nk .fin) (Qq rfl) rfl),fun c=>?_,fun c=>?_⟩
   ·rw[G3]at c
    obtain⟨wy,q⟩:=tr.way .fin (Xz c)
    have wl:=SL q
    have wne:wy≠[]:=fun z=>by
     have:=q.chain
     rw[z]at this;cases this
    refine P2 3 rfl ?_
    walk_at"d"
    refine QI (J3 (ΦA:=fun ts=>ts=[.fz (.list (Yw wy))]) ET rfl (Ca (Φ:=fun r=>r=.ol (Yw wy)) (Ko 0 rfl (fun r e=>by subst e;exact Cw (fun d hd=>by
     obtain⟨e,_,rfl⟩:=Xw.mp hd
     exact⟨_,rfl⟩)) (HX A3 rfl (R4 rfl (Qu (Qq rfl) QD)) (R_way.mk h l q))) (fun r e=>⟨_,e,rfl⟩)) (fun ts hts=>?_))
    subst hts;refine⟨_,R_push.mk h (Ma y G) wne (fun e he=>let ⟨r,a,_⟩:=q.room e he;⟨r,a⟩) (by omega),fun N' hN=>?_⟩
    walk_at"d"
    obtain⟨m1,m2⟩:=Kl (ns:=wy.map fun e=>(rmE (Zk y G) φ e).getD 0) (fun z=>wne (List.map_eq_nil_iff.mp z))
    have a0:0<amt (Zk y G) φ wy:=by
     obtain⟨e,he,ee⟩:=Xw.mp m1
     obtain⟨r,hr1,hr2⟩:=q.room e he
     rw[hr1]at ee;show 0<Ys _
     rw[<- ee];exact hr2
    obtain⟨F',nd⟩:=F.push (a:=amt (Zk y G) φ wy) (by omega) q.chain q.nodup (fun e he=>by
     obtain⟨r,hr1,_⟩:=q.room e he
     refine⟨r,hr1,?_⟩
     have:=m2 _ (Xw.mpr ⟨e,he,rfl⟩)
     rw[hr1]at this;exact this)
    refine VS (Vp hN) (fun r hr'=>?_)
    obtain⟨v4,es',rfl,tr',cl'⟩:=hr'
    walk_at"d"
    refine⟨_,?_,N',_,es',v4,hN,F',tr',cl',rfl,rfl⟩
    have:=F'.most
    rw[nd]at this ⊢;omega
   ·rw[G3]at c
    exact⟨M,⟨φ,es,h,F,tr.start,cl,YU c⟩,rfl⟩
structure GOk (y:Yd)(g:Gs):Prop where
 ln:g.line<y.ls.length
 w0:0<=g.want
 m0:0<=g.most
theorem BF {y:Yd}{g:Gs}(h:g.Ok y):GOk y g:=⟨h.ln,by have:=h.w1;omega,by have:=h.m1;omega⟩
def Q5 (gs:List Gs):Gv:={ m:=gs.length,ln:=fun k=>(gs.getD k default).line,wa:=fun k=>(gs.getD k default).want,mo:=fun k=>(gs.getD k default).most,th:=fun k t=>V3 (gs.getD k default) (t:Int) }
theorem YO {gs:List Gs}{k:Nat}(h:k<gs.length):gs.getD k default=gs[k]:=by simp[List.getD,h]
theorem AA (y:Yd)(G:Gv)(k:Nat):(ZW y G k).length<=1+y.T:=by
 unfold ZW;rw[XJ];have:∀n,((List.range n).flatMap fun t=>if G.th k t=true then [((.guest k,.line (G.ln k) t,G.mo k):Nd×Nd×Int)] else []).length<=n:=by
  intro n;induction n with
  |zero=>simp
  |succ n ih =>
    rw[Y6,Ur,Xq];have:([n].flatMap fun t=>if G.th k t=true then [((.guest k,.line (G.ln k) t,G.mo k):Nd×Nd×Int)] else []).length<=1:=by
     simp only[MI,List.flatMap_nil,XV];split<;>simp
    omega
 have:=this y.T
 omega
theorem AE {y:Yd}(h:1<=y.ls.length)(t:Nat):(V4 y t).length=y.ls.length:=by
 unfold V4;rw[XJ];have:∀n,((List.range n).flatMap fun i=>[((.line (i+1) t,.line (Mir.upN y (i+1)) t,Zg y (i+1) t):Nd×Nd×Int)]).length=n:=by
  intro n;induction n with
  |zero=>simp
  |succ n ih=>rw[Y6,Ur,Xq,ih];simp
 rw[this];omega
theorem GO {f:Nat->Lay Nd}{c:Nat}(h:∀k,(f k).length<=c):∀n,((List.range n).flatMap f).length<=n*c
 |0=>by simp
 |n+1=>by
   rw[Y6,Ur,Xq];have a:=GO h n
   have b:([n].flatMap f).length<=c:=by simpa using h n
   rw[Nat.add_mul];omega
theorem GU (f:Nat->Lay Nd)(n:Nat):(List.range (n+1)).flatMap f=(List.range n).flatMap f++f n:=by rw[Y6,Ur];simp
theorem HR {f:Nat->Lay Nd}{n:Nat}{x:Nd×Nd×Int}:x∈(List.range n).flatMap f ↔ ∃k,k<n/\x∈f k:=by
 rw[Wl];simp only[Xr]
theorem Mq {y:Yd}(ok:y.Ok)(G:Gv){n:Nat}(h:n<=8):((List.range n).flatMap (ZW y G)).length<=72:=by
 have a:=GO (f:=ZW y G) (c:=9) (fun k=>by have:=AA y G k;have:=ok.t8;omega) n
 omega
theorem Kj {y:Yd}(ok:y.Ok){n:Nat}(h:n<=8):((List.range n).flatMap (V4 y)).length<=40:=by
 have a:=GO (f:=V4 y) (c:=5) (fun k=>by rw[AE ok.l1 k];exact ok.l5) n
 omega
inductive R_gnode:List OT->OT->Prop
 |mk {k:Nat}:R_gnode [.fz (.int (k:Int))] (.fz (QW (nk (.guest k))))
theorem Zix:Qp ["number"] ["number"] (Q1 K3):=by walk_at"p"
theorem Ee (T:Bl mg) (D:Df K mg "guest_node" K3 ["number"]):Q0 P w K mg base "guest_node" ["number"] 1 (Q7 (K:=K) R_gnode):=by
 refine D.ev Zix (fun ts r h=>by cases h;rfl) (fun _ _ _ _ s H E ts r hr h=>?_)
 cases h with
 |@mk k =>
   refine⟨_,(QB (QV (ZB (Qo DY (Qo (pv 0) Qs))))),?_⟩
   show Q3 K _ [some _] _
   walk_at"x"
   exact ZG (V0 (ds:=[.str "guest",.int (k:Int)]) (Zl D8 (Zl (Qq rfl) Z2)) YB) rfl
inductive R_lnode:List OT->OT->Prop
 |mk {l t:Nat}:R_lnode [.fz (.int (l:Int)),.fz (.int (t:Int))] (.fz (QW (nk (.line l t))))
theorem Zjz:Qp ["line","turn"] ["line","turn"] (Q1 KA):=by walk_at"p"
theorem AM (T:Bl mg) (D:Df K mg "line_node" KA ["line","turn"]):Q0 P w K mg base "line_node" ["line","turn"] 1 (Q7 (K:=K) R_lnode):=by
 refine D.ev Zjz (fun ts r h=>by cases h;rfl) (fun _ _ _ _ s H E ts r hr h=>?_)
 cases h with
 |@mk l t =>
   refine⟨_,(QB (QV (ZB (Qo DY (Qo (pv 0) (Qo (pv 1) Qs)))))),?_⟩
   show Q3 K _ [some _,some _] _
   walk_at"x"
   exact ZG (V0 (ds:=[.str "line",.int (l:Int),.int (t:Int)]) (Zl D8 (Zl (Qq rfl) (Zl (Qq rfl) Z2))) (by show(3:Nat)<=1000;decide)) rfl
inductive R_lguest:Qz->List OT->(Qz->Prop)->Prop
 |mk {N:Qz} {y:Yd} {gs:List Gs} {k:Nat} (ok:y.Ok) (g8:gs.length<=8) (hk:k<gs.length) (h:NetR N ((List.range k).flatMap (ZW y (Q5 gs))) YX) :
  R_lguest N [.fz (QY y),.fz (.int (k:Int)),.fz (QH gs[k])] (fun N'=>NetR N' ((List.range (k+1)).flatMap (ZW y (Q5 gs))) YX)
theorem Lr:Qp ["net","yard","number","guest","turn"] ["net","yard","number","guest"] (Q1 K9):=by walk_at"p"
theorem Oq (T:Bl mg) (U:Tx K mg C gS gE) (D:Df K mg "lay_guest" K9 ["net","yard","number","guest"]) (XbE:Vw P w K mg base C "lay" ["self","start","end","room"] 2 (spN K P w C R_lay)) (Xbv:Q0 P w K mg base "want_of" ["guest"] 1 (Q7 (K:=K) R_want)) (XbB:Q0 P w K mg base "guest_node" ["number"] 1 (Q7 (K:=K) R_gnode))
 (Xbu:Q0 P w K mg base "turns_of" ["yard"] 1 (Q7 (K:=K) R_turns)) (XbM:Q0 P w K mg base "is_there" ["guest","turn"] 1 (Q7 (K:=K) R_there)) (XbN:Q0 P w K mg base "most_of" ["guest"] 1 (Q7 (K:=K) R_most)) (Xbx:Q0 P w K mg base "line_node" ["line","turn"] 1 (Q7 (K:=K) R_lnode)) (XbD:Q0 P w K mg base "line_of" ["guest"] 1 (Q7 (K:=K) R_lineof)) :
 Q0 P w K mg base "lay_guest" ["net","yard","number","guest"] 3 (spN K P w C R_lguest):=by
 refine D.evN Lr (fun M ts Ψ h=>by cases h;rfl) (fun f cdv A outer s H E v M ts Ψ hr h=>?_)
 cases h with
 |@mk y gs k ok g8 hk h =>
   refine⟨_,(Q2 (ZV (Y2 XbE U.net hr (pv 0) (Qo (GI (v:=.ref _) rfl U.mSTART rfl) (Qo (Q9 XbB hr (Qo (pv 2) Qs)) (Qo (Q9 Xbv hr (Qo (pv 3) Qs)) Qs)))))
 (QB (VB PassesOwn.never rfl (Yp rfl T.range (Qo (Q9 Xbu hr (Qo (pv 1) Qs)) Qs)) (Za (i:=4) Lr.nd rfl Qa) (QB (VW (DI (Q9 XbM hr (Qo (pv 3) (Qo (pv 4) Qs)))) (QB (ZV (Y2 XbE U.net hr (pv 0) (Qo (Q9 XbB hr (Qo (pv 2) Qs)) (Qo (Q9 Xbx hr (Qo (Q9 XbD hr (Qo (pv 3) Qs)) (Qo (pv 4) Qs))) (Qo (Q9 XbN hr (Qo (pv 3) Qs)) Qs)))))) Yb))))),?_⟩
   show Q3 K _ [some _,some _,some _,some _,none] _
   walk_at"x"
   have t8:=ok.t8
   have gl:=Mq ok (Q5 gs) (n:=k) (by omega)
   have gk:=YO hk
   have ew:(Q5 gs).wa k=gs[k].want:=by show(gs.getD k default).want=_;rw[gk]
   have glb:∀x∈(List.range k).flatMap (ZW y (Q5 gs)),∃j,j<k/\x∈ZW y (Q5 gs) j:=fun x hx=>HR.mp hx
   refine QI (J3 (ΦA:=fun ts=>ts=[.fz (QW (nk .start)),.fz (QW (nk (.guest k))),.fz (.int gs[k].want)]) BQ rfl (WL (Qu (Hz U.aS) (Qu (Zj (Qu (Qq rfl) QD) R_gnode.mk) (Qu (Zj (Qu (Qq rfl) QD) R_want.mk) QD))) rfl) (fun ts hts=>?_))
   subst hts;refine⟨_,R_lay.mk h ?n0 (by omega),fun N1 hN1=>?_⟩
   case n0 =>
    intro hm;obtain⟨x,hx,ex⟩:=Xw.mp hm
    obtain⟨j,hj,hx⟩:=glb x hx
    injection ex with e1 e2
    rcases Wg.mp hx with rfl|⟨t,_,_,rfl⟩
    ·injection e2 with e2
     omega
    ·cases e1
   walk_at"d"
   refine Ju (ds:=ZY 0 y.T) (fun i ρ'=>∃(N':Qz) (u4:Option OT),NetR N' ((List.range k).flatMap (ZW y (Q5 gs))++((.start,.guest k,(Q5 gs).wa k)::(List.range i).flatMap fun t=>if (Q5 gs).th k t=true then [(.guest k,.line ((Q5 gs).ln k) t,(Q5 gs).mo k)] else [])) YX /\
    ρ'=[some (.own v (Zi P w C N')),some (.fz (QY y)),some (.fz (.int (k:Int))),some (.fz (QH gs[k])),u4]) ?ei ⟨N1,none,by rw[ew];exact hN1,rfl⟩ ?st ?fin
   case ei=>exact EvI.cast (WT (Qu (Zj (Qu (Qq rfl) QD) R_turns.mk) QD) (by rw[z62];omega) (by rw[z62];omega)) (GS rfl (by omega))
   case fin =>
    rintro _ ⟨N',u4,hN,rfl⟩
    rw[Ja]at hN;refine⟨N',?_,rfl⟩
    rw[GU];exact hN
   case st =>
    rintro t d _ hd ⟨N',u4,hN,rfl⟩
    obtain⟨ht,rfl⟩:=WZ hd
    rw[YS];refine⟨_,Zw,?_⟩
    walk_at"d"
    have et:V3 gs[k] (t:Int)=(Q5 gs).th k t:=by show _=V3 (gs.getD k default) (t:Int);rw[gk]
    refine YW (b:=(Q5 gs).th k t) (Z9.cast (Ji (Zj (Qu (Qq rfl) (Qu (Qq rfl) QD)) R_there.mk)) et) (fun c=>?_) (fun c=>Yj ?_)
    ·refine J3 (ΦA:=fun ts=>ts=[.fz (QW (nk (.guest k))),.fz (QW (nk (.line gs[k].line t))),.fz (.int gs[k].most)]) BQ rfl (WL (Qu (Zj (Qu (Qq rfl) QD) R_gnode.mk) (Qu (Zj (Qu (Zj (Qu (Qq rfl) QD) R_lineof.mk) (Qu (Qq rfl) QD)) R_lnode.mk) (Qu (Zj (Qu (Qq rfl) QD) R_most.mk) QD))) rfl) (fun ts hts=>?_)
     subst hts;refine⟨_,R_lay.mk hN ?n1 ?l1,fun N2 hN2=>?_⟩
     case n1 =>
      intro hm;obtain⟨x,hx,ex⟩:=Xw.mp hm
      injection ex with e1 e2
      rcases XG.mp hx with hx|hx
      ·obtain⟨j,hj,hx⟩:=glb x hx
       rcases Wg.mp hx with rfl|⟨t',_,_,rfl⟩
       ·cases e1
       ·injection e1 with e1
        omega
      ·rcases Xg.mp hx with rfl|hx
       ·cases e1
       ·obtain⟨t',ht',hx⟩:=Wl.mp hx
        split at hx
        ·rw[Xn.mp hx]at e2
         injection e2 with _ e2
         have:=Xr.mp ht'
         omega
        ·cases hx
     case l1 =>
      rw[Xq];have:(((.start,.guest k,(Q5 gs).wa k):Nd×Nd×Int)::(List.range t).flatMap fun t=>if (Q5 gs).th k t=true then [((.guest k,.line ((Q5 gs).ln k) t,(Q5 gs).mo k):Nd×Nd×Int)] else []).length<=1+t*1:=by
       rw[XJ];have:=GO (f:=fun t=>if (Q5 gs).th k t=true then [((.guest k,.line ((Q5 gs).ln k) t,(Q5 gs).mo k):Nd×Nd×Int)] else []) (c:=1) (fun t=>by split<;>simp) t
       omega
      omega
     walk_at"d"
     refine⟨N2,_,?_,rfl⟩
     rw[GU,Xc c];have e1:(Q5 gs).ln k=gs[k].line:=by show(gs.getD k default).line=_;rw[gk]
     have e2:(Q5 gs).mo k=gs[k].most:=by show(gs.getD k default).most=_;rw[gk]
     rw[<- e1,<- e2,Gd]at hN2;exact hN2
    ·refine⟨N',_,?_,rfl⟩
     rw[GU,Xb (by rw[c];decide),XV];exact hN
inductive R_lturn:Qz->List OT->(Qz->Prop)->Prop
 |mk {N:Qz} {y:Yd} {G:Gv} {t:Nat} (ok:y.Ok) (g8:G.m<=8) (ht:t<y.T) (h:NetR N ((List.range G.m).flatMap (ZW y G)++(List.range t).flatMap (V4 y)) YX) :
  R_lturn N [.fz (QY y),.fz (.int (t:Int))] (fun N'=>NetR N' ((List.range G.m).flatMap (ZW y G)++(List.range (t+1)).flatMap (V4 y)) YX)
theorem Lk:Qp ["net","yard","turn","line"] ["net","yard","turn"] (Q1 Ks):=by walk_at"p"
theorem E7 (T:Bl mg) (U:Tx K mg C gS gE) (D:Df K mg "lay_turn" Ks ["net","yard","turn"]) (XbE:Vw P w K mg base C "lay" ["self","start","end","room"] 2 (spN K P w C R_lay)) (XbA:Q0 P w K mg base "bound_at" ["yard","line","turn"] 1 (Q7 (K:=K) R_bound)) (Xbx:Q0 P w K mg base "line_node" ["line","turn"] 1 (Q7 (K:=K) R_lnode))
 (XbG:Q0 P w K mg base "line_count" ["yard"] 1 (Q7 (K:=K) R_count)) (XbO:Q0 P w K mg base "above_of" ["yard","line"] 1 (Q7 (K:=K) R_above)):Q0 P w K mg base "lay_turn" ["net","yard","turn"] 3 (spN K P w C R_lturn):=by
 refine D.evN Lk (fun M ts Ψ h=>by cases h;rfl) (fun f cdv A outer s H E v M ts Ψ hr h=>?_)
 cases h with
 |@mk y G t ok g8 ht h =>
   refine⟨_,(Q2 (ZV (Y2 XbE U.net hr (pv 0) (Qo (Q9 Xbx hr (Qo Qy (Qo (pv 2) Qs))) (Qo (GI (v:=.ref _) rfl U.mEND rfl) (Qo (Q9 XbA hr (Qo (pv 1) (Qo Qy (Qo (pv 2) Qs)))) Qs)))))
 (QB (VB PassesOwn.never rfl (Ob rfl T.range (Qo Qy (Qo (Q9 XbG hr (Qo (pv 1) Qs)) Qs))) (Za (i:=3) Lk.nd rfl Qa) (QB (ZV (Y2 XbE U.net hr (pv 0) (Qo (Q9 Xbx hr (Qo (pv 3) (Qo (pv 2) Qs))) (Qo (Q9 Xbx hr (Qo (Q9 XbO hr (Qo (pv 1) (Qo (pv 3) Qs))) (Qo (pv 2) Qs))) (Qo (Q9 XbA hr (Qo (pv 1) (Qo (pv 3) (Qo (pv 2) Qs)))) Qs))))))))),?_⟩
   show Q3 K _ [some _,some _,some _,none] _
   walk_at"x"
   have t8:=ok.t8
   have l1:=ok.l1
   have l5:=ok.l5
   have gl:=Mq ok G g8
   have tl:=Kj ok (n:=t) (by omega)
   have glb:∀x∈(List.range G.m).flatMap (ZW y G)++(List.range t).flatMap (V4 y),(∃j,x∈ZW y G j)\/∃t',t'<t/\x∈V4 y t':=fun x hx=>by
    rcases XG.mp hx with hx|hx
    ·obtain⟨j,_,hx⟩:=HR.mp hx
     exact .inl ⟨j,hx⟩
    ·obtain⟨j,hj,hx⟩:=HR.mp hx
     exact .inr ⟨j,hj,hx⟩
   refine QI (J3 (ΦA:=fun ts=>ts=[.fz (QW (nk (.line 0 t))),.fz (QW (nk .fin)),.fz (.int (Zg y 0 t))]) BQ rfl (WL (Qu (Zj (Qu Ze (Qu (Qq rfl) QD)) (R_lnode.mk (l:=0))) (Qu (Ru U.aE) (Qu (Zj (Qu (Qq rfl) (Qu Ze (Qu (Qq rfl) QD))) (R_bound.mk (k:=0) (t:=(t:Int)) ok (by decide) (by omega) (by omega) (by omega))) QD))) ?e0) (fun ts hts=>?_))
   case e0=>rw[XH];rfl
   subst hts;refine⟨_,R_lay.mk h ?n0 (by rw[Xq];omega),fun N1 hN1=>?_⟩
   case n0 =>
    intro hm;obtain⟨x,hx,ex⟩:=Xw.mp hm
    injection ex with e1 e2
    rcases glb x hx with ⟨j,hx⟩|⟨t',ht',hx⟩
    ·rcases Wg.mp hx with rfl|⟨u,_,_,rfl⟩<;>cases e1
    ·rcases WY.mp hx with rfl|⟨i,_,rfl⟩
     ·injection e1 with _ e1
      omega
     ·cases e2
   walk_at"d"
   refine Ju (ds:=ZY 1 (y.ls.length-1)) (fun i ρ'=>∃(N':Qz) (u3:Option OT),NetR N' (((List.range G.m).flatMap (ZW y G)++(List.range t).flatMap (V4 y))++((.line 0 t,.fin,Zg y 0 t)::(List.range i).flatMap fun i=>[(.line (i+1) t,.line (Mir.upN y (i+1)) t,Zg y (i+1) t)])) YX /\
    ρ'=[some (.own v (Zi P w C N')),some (.fz (QY y)),some (.fz (.int (t:Int))),u3]) ?ei ⟨N1,none,by simpa using hN1,rfl⟩ ?st ?fin
   case ei=>exact EvI.cast (S0 (Qu Ze (Qu (Zj (Qu (Qq rfl) QD) R_count.mk) QD)) (by rw[z62];omega)) (GS rfl (by omega))
   case fin =>
    rintro _ ⟨N',u3,hN,rfl⟩
    rw[Ja]at hN;refine⟨N',?_,rfl⟩
    rw[GU,<- Gd];exact hN
   case st =>
    rintro i d _ hd ⟨N',u3,hN,rfl⟩
    obtain⟨hi,rfl⟩:=WZ hd
    have ei:(1:Int)+(i:Int)=((i+1:Nat):Int):=by omega
    rw[ei];refine⟨_,Zw,?_⟩
    walk_at"d"
    refine J3 (ΦA:=fun ts=>ts=[.fz (QW (nk (.line (i+1) t))),.fz (QW (nk (.line (Mir.upN y (i+1)) t))),.fz (.int (Zg y (i+1) t))]) BQ rfl (WL (Qu (Zj (Qu (Qq rfl) (Qu (Qq rfl) QD)) (R_lnode.mk (l:=i+1))) (Qu (Zj (Qu (Zj (Qu (Qq rfl) (Qu (Qq rfl) QD)) (R_above.mk (k:=((i+1:Nat):Int)) ok (by omega) (by omega))) (Qu (Qq rfl) QD)) (R_lnode.mk (l:=upN y (((i+1:Nat):Int)).toNat))) (Qu (Zj (Qu (Qq rfl) (Qu (Qq rfl) (Qu (Qq rfl) QD))) (R_bound.mk (k:=((i+1:Nat):Int)) (t:=(t:Int)) ok (by omega) (by omega) (by omega) (by omega))) QD))) ?e1) (fun ts hts=>?_)
    case e1=>rw[XH,XH];rfl
    subst hts;refine⟨_,R_lay.mk hN ?n1 ?l1,fun N2 hN2=>?_⟩
    case n1 =>
     intro hm;obtain⟨x,hx,ex⟩:=Xw.mp hm
     injection ex with e1 e2
     rcases XG.mp hx with hx|hx
     ·rcases glb x hx with ⟨j,hx⟩|⟨t',ht',hx⟩
      ·rcases Wg.mp hx with rfl|⟨u,_,_,rfl⟩<;>cases e1
      ·rcases WY.mp hx with rfl|⟨i',_,rfl⟩
       ·cases e2
       ·injection e1 with _ e1
        omega
     ·rcases Xg.mp hx with rfl|hx
      ·cases e2
      ·obtain⟨i',hi',hx⟩:=Wl.mp hx
       rw[Xn.mp hx]at e1;injection e1 with e1 _
       have:=Xr.mp hi'
       omega
    case l1 =>
     rw[Xq,Xq,XJ];have:=GO (f:=fun i=>[((.line (i+1) t,.line (Mir.upN y (i+1)) t,Zg y (i+1) t):Nd×Nd×Int)]) (c:=1) (fun i=>by simp) i
     omega
    walk_at"d"
    refine⟨N2,_,?_,rfl⟩
    rw[GU];rw[Gd]at hN2;exact hN2
def YA (y:Yd)(G:Gv)(φ:QU Nd):Prop:=Flow y G φ/\∃es:Got Nd,Nd.start∈QX es/\VY (Zk y G) φ es/\Nd.fin∉QX es
inductive R_filled (P:Program)(w:World)(C:Addr):List OT->(OT->Prop)->Prop
 |mk {y:Yd} {gs:List Gs} (ok:y.Ok) (hg:∀g∈gs,GOk y g) (g8:gs.length<=8):R_filled P w C [.fz (QY y),.fz (.list (gs.map QH))] (fun r=>∃v N φ,r=.own v (Zi P w C N)/\NetR N (Zk y (Q5 gs)) φ/\YA y (Q5 gs) φ)
theorem Ro {y:Yd}(ok:y.Ok){l t:Nat}(hl:l<y.ls.length)(ht:t<y.T):0<=Zg y l t:=by
 rw[Mm hl];have h1:=Pw ok hl
 have hm:ZA y l∈y.ls:=by simp[ZA,hl]
 have:(ZA y l).bs.getD t 0=(ZA y l).bs[t]'(by omega):=by simp[List.getD,show t<(ZA y l).bs.length by omega]
 rw[this];exact(ok.bb _ hm _ (XL _)).1
theorem A8 {y:Yd}(ok:y.Ok){gs:List Gs}(hg:∀g∈gs,GOk y g):∀x∈Zk y (Q5 gs),0<=x.2.2:=fun x hx=>by
 have l1:=ok.l1
 rcases UQ.mp hx with ⟨k,hk,hx⟩|⟨t,ht,hx⟩
 ·have gk:GOk y (gs.getD k default):=by rw[YO hk];exact hg _ (XL _)
  rcases Wg.mp hx with rfl|⟨t,_,_,rfl⟩
  ·exact gk.w0
  ·exact gk.m0
 ·rcases WY.mp hx with rfl|⟨i,hi,rfl⟩
  ·exact Ro ok (by omega) ht
  ·exact Ro ok (by omega) ht
theorem Bd:Qp ["yard","guests","net","number","guest","turn"] ["yard","guests"] (Q1 K2):=by walk_at"p"
theorem IN (T:Bl mg) (U:Tx K mg C gS gE) (D:Df K mg "filled_net" K2 ["yard","guests"]) (Xb7:Dj P w K mg base "Net" C 1) (Xb8:Q0 P w K mg base "lay_guest" ["net","yard","number","guest"] 3 (spN K P w C R_lguest)) (Xbu:Q0 P w K mg base "turns_of" ["yard"] 1 (Q7 (K:=K) R_turns))
 (Xb9:Q0 P w K mg base "lay_turn" ["net","yard","turn"] 3 (spN K P w C R_lturn)) (Xca:Vw P w K mg base C "fill" ["self","start","end"] 2 (spN K P w C R_fill)):Q0 P w K mg base "filled_net" ["yard","guests"] 4 (Zt K (R_filled P w C)):=by
 refine D.evD Bd (fun ts Φ h=>by cases h;rfl) (fun _ _ _ _ s H E ts Φ hr h=>?_)
 cases h with
 |@mk y gs ok hg g8 =>
   refine⟨_,(Q2 (QJ (i:=2) Bd.nd rfl Qa (CO Xb7 hr))
 (Q2 (VB PassesOwn.never rfl (Lp rfl T.enumerate (Qo (pv 1) Qs)) (YJ (n:=2) rfl (ZI (Za (i:=3) Bd.nd rfl Qa) (ZI (Za (i:=4) Bd.nd rfl Qa) YN))) (QB (ZV (Q9 Xb8 hr (Qo (pv 2) (Qo (pv 0) (Qo (pv 3) (Qo (pv 4) Qs))))))))
 (Q2 (VB PassesOwn.never rfl (Yp rfl T.range (Qo (Q9 Xbu hr (Qo (pv 0) Qs)) Qs)) (Za (i:=5) Bd.nd rfl Qa) (QB (ZV (Q9 Xb9 hr (Qo (pv 2) (Qo (pv 0) (Qo (pv 5) Qs)))))))
 (Q2 (ZV (Y2 Xca U.net hr (pv 2) (Qo (GI (v:=.ref _) rfl U.mSTART rfl) (Qo (GI (v:=.ref _) rfl U.mEND rfl) Qs))))
 (QB (QV (pv 2))))))),?_⟩
   show Q3 K _ [some _,some _,none,none,none,none] _
   walk_at"x"
   have t8:=ok.t8
   refine QI (Sq C9 (fun v=>?_))
   walk_at"d"
   refine QI (Ju (ds:=JR (gs.map QH)) (fun i ρ'=>∃(N':Qz) (u3 u4:Option OT),NetR N' ((List.range i).flatMap (ZW y (Q5 gs))) YX/\ρ'=[some (.fz (QY y)),some (.fz (.list (gs.map QH))),some (.own v (Zi P w C N')),u3,u4,none]) (DX (Qu (Qq rfl) QD)) ⟨_,none,none,Fg _,rfl⟩ ?st ?fin)
   case st =>
    rintro i d _ hd ⟨N',u3,u4,hN,rfl⟩
    obtain⟨a,ha,rfl⟩:=Tl hd
    have hi:i<gs.length:=by
     have:=(Xh.mp ha).1
     simpa using this
    obtain rfl:a=QH gs[i]:=by simpa [hi] using ha.symm
    refine⟨_,Wr (ds:=[.int (i:Int),QH gs[i]]) (Vr Zw (Vr Zw WN)) rfl,?_⟩
    walk_at"d"
    refine Pa (ΦA:=fun ts=>ts=[.fz (QY y),.fz (.int (i:Int)),.fz (QH gs[i])]) rfl (WL (Qu (Qq rfl) (Qu (Qq rfl) (Qu (Qq rfl) QD))) rfl) (fun ts hts=>?_)
    subst hts;refine⟨_,R_lguest.mk ok g8 hi hN,fun N2 hN2=>?_⟩
    walk_at"d"
    exact⟨N2,_,_,hN2,rfl⟩
   case fin =>
    rintro _ ⟨N1,u3,u4,hN1,rfl⟩
    rw[Ts,Xm]at hN1;refine QI (Ju (ds:=ZY 0 y.T) (fun i ρ'=>∃(N':Qz) (u5:Option OT),NetR N' ((List.range (Q5 gs).m).flatMap (ZW y (Q5 gs))++(List.range i).flatMap (V4 y)) YX/\ρ'=[some (.fz (QY y)),some (.fz (.list (gs.map QH))),some (.own v (Zi P w C N')),u3,u4,u5]) ?ei2 ⟨N1,none,by rw[show(List.range 0).flatMap (V4 y)=[] from rfl,XV];exact hN1,rfl⟩ ?st2 ?fin2)
    case ei2=>exact EvI.cast (WT (Qu (Zj (Qu (Qq rfl) QD) R_turns.mk) QD) (by rw[z62];omega) (by rw[z62];omega)) (GS rfl (by omega))
    case st2 =>
     rintro t d _ hd ⟨N',u5,hN,rfl⟩
     obtain⟨ht,rfl⟩:=WZ hd
     rw[YS];refine⟨_,Zw,?_⟩
     walk_at"d"
     refine Pa (ΦA:=fun ts=>ts=[.fz (QY y),.fz (.int (t:Int))]) rfl (WL (Qu (Qq rfl) (Qu (Qq rfl) QD)) rfl) (fun ts hts=>?_)
     subst hts;refine⟨_,R_lturn.mk ok g8 ht hN,fun N2 hN2=>?_⟩
     walk_at"d"
     exact⟨N2,_,hN2,rfl⟩
    case fin2 =>
     rintro _ ⟨N',u5,hN,rfl⟩
     rw[Ja]at hN;have hN:NetR N' (Zk y (Q5 gs)) YX:=hN
     have ll:(Zk y (Q5 gs)).length<400:=by
      unfold Zk;rw[Xq];have a:=Mq ok (Q5 gs) (n:=(Q5 gs).m) g8
      have b:=Kj ok t8
      omega
     refine QI (J3 (ΦA:=fun ts=>ts=[.fz (QW (nk .start)),.fz (QW (nk .fin))]) Ea rfl (WL (Qu (Hz U.aS) (Qu (Ru U.aE) QD)) rfl) (fun ts hts=>?_))
     subst hts;refine⟨_,R_fill.mk hN (Fo (A8 ok hg)) ll,fun N2 hN2=>?_⟩
     obtain⟨φ',es,h1,h2,h3,h4,h5⟩:=hN2
     walk_at"d"
     exact S8 rfl ⟨v,N2,φ',rfl,h1,h2,es,h3,h4,h5⟩
def VE (y:Yd)(G:Gv)(φ:QU Nd):List (Ql):=(List.range G.m).map fun k=>(List.range y.T).map fun t=>Zn G φ t k
theorem Ol {y:Yd}{G:Gv}{φ:QU Nd}{k t:Nat}(hk:k<G.m)(ht:t<y.T):G0 (Zk y G) φ (.guest k) (.line (G.ln k) t)=Zn G φ t k:=by
 unfold G0 Zn;by_cases c:G.th k t=true
 ·rw[Xc c,Xc (Xw.mpr ⟨_,BW hk ht c,rfl⟩)]
 ·rw[Xb c,Xb (fun hm=>?_)]
  obtain⟨x,hx,ex⟩:=Xw.mp hm
  injection ex with e1 e2
  rcases UQ.mp hx with ⟨j,_,hx⟩|⟨t',_,hx⟩
  ·rcases Wg.mp hx with rfl|⟨t',_,c',rfl⟩
   ·cases e1
   ·injection e1 with e1
    injection e2 with _ e2
    subst e1 e2;exact c c'
  ·rcases WY.mp hx with rfl|⟨i,_,rfl⟩<;>cases e1
inductive R_takes (P:Program)(w:World)(C:Addr):List OT->OT->Prop
 |mk {N:Qz} {y:Yd} {gs:List Gs} {φ:QU Nd} {k:Nat} (ok:y.Ok) (h:NetR N (Zk y (Q5 gs)) φ) (hk:k<gs.length):R_takes P w C [.zow (ZR P w C N),.fz (QY y),.fz (.int (k:Int)),.fz (QH gs[k])] (.ol ((List.range y.T).map fun t=>PyData.int (Zn (Q5 gs) φ t k)))
theorem Zk3:Qp ["net","yard","number","guest"] ["net","yard","number","guest"] (Q1 Mo):=by walk_at"p"
theorem AS (T:Bl mg) (U:Tx K mg C gS gE) (D:Df K mg "takes_by" Mo ["net","yard","number","guest"]) (Xbu:Q0 P w K mg base "turns_of" ["yard"] 1 (Q7 (K:=K) R_turns)) (Xcb:Vw P w K mg base C "flow" ["self","start","end"] 1 (Zt K (R_flow P w C))) (Xbx:Q0 P w K mg base "line_node" ["line","turn"] 1 (Q7 (K:=K) R_lnode)) (XbD:Q0 P w K mg base "line_of" ["guest"] 1 (Q7 (K:=K) R_lineof)) (XbB:Q0 P w K mg base "guest_node" ["number"] 1 (Q7 (K:=K) R_gnode)) :
 Q0 P w K mg base "takes_by" ["net","yard","number","guest"] 2 (Q7 (K:=K) (R_takes P w C)):=by
 refine D.ev Zk3 (fun ts r h=>by cases h;rfl) (fun _ _ _ _ s H E ts r hr h=>?_)
 cases h with
 |@mk N y gs φ k ok h hk =>
   refine⟨_,(QB (QV (Vq (NX:=["net","yard","number","guest"]) (sc:=Q1 Mo) (N:=["turn","net","number","guest"]) (f:=[none,some 0,some 2,some 3]) rfl (by decide +kernel) rfl rfl (Yp rfl T.range (Qo (Q9 Xbu hr (Qo (pv 1) Qs)) Qs)) (fun _=>(Za (i:=0) (show(["turn","net","number","guest"]:Qh).Nodup by decide +kernel) rfl Qa)) (fun _=>ZC) (fun _=>Vg) (fun _=>(Y2 Xcb U.net hr (pv 1) (Qo (Q9 XbB hr (Qo (pv 2) Qs)) (Qo (Q9 Xbx hr (Qo (Q9 XbD hr (Qo (pv 3) Qs)) (Qo (pv 0) Qs))) Qs))))))),?_⟩
   show Q3 K _ [some _,some _,some _,some _] _
   walk_at"x"
   have t8:=ok.t8
   refine Wf (DO (lo:=0) (n:=y.T) (h:=fun t=>PyData.int (Zn (Q5 gs) φ t k)) ?ei (by omega) ?el) rfl
   case ei=>exact EvI.cast (WT (Qu (Zj (Qu (Qq rfl) QD) R_turns.mk) QD) (by rw[z62];omega) (by rw[z62];omega)) (GS rfl (by omega))
   case el =>
    intro t ht c;refine⟨_,Zw,?_⟩
    walk_at"e"
    rw[YS];have eL:(Q5 gs).ln k=gs[k].line:=by show(gs.getD k default).line=_;rw[YO hk]
    have ef:=Ol (y:=y) (G:=Q5 gs) (φ:=φ) (k:=k) hk ht
    rw[eL]at ef;exact Qt.cast (EvO.e (Zy.o (HX Iq rfl (Qu (Zj (Qu (Qq rfl) QD) R_gnode.mk) (Qu (Zj (Qu (Zj (Qu (Qq rfl) QD) R_lineof.mk) (Qu (Qq rfl) QD)) R_lnode.mk) QD)) (R_flow.mk (p:=.guest k) (q:=.line gs[k].line t) h)))) (by rw[ef])
inductive R_great:List OT->(OT->Prop)->Prop
 |mk {y:Yd} {gs:List Gs} (ok:y.Ok) (hg:∀g∈gs,GOk y g) (g8:gs.length<=8):R_great [.fz (QY y),.fz (.list (gs.map QH))] (fun r=>∃φ,YA y (Q5 gs) φ/\r=.oll ((VE y (Q5 gs) φ).map fun row=>row.map PyData.int))
theorem Ly:Qp ["yard","guests","net"] ["yard","guests"] (Q1 MF):=by walk_at"p"
theorem E2 (T:Bl mg) (U:Tx K mg C gS gE) (D:Df K mg "greatest_filling" MF ["yard","guests"]) (XbQ:Q0 P w K mg base "filled_net" ["yard","guests"] 4 (Zt K (R_filled P w C))) (Xcc:Q0 P w K mg base "takes_by" ["net","yard","number","guest"] 2 (Q7 (K:=K) (R_takes P w C))):Q0 P w K mg base "greatest_filling" ["yard","guests"] 5 (Zt K R_great):=by
 refine D.evD Ly (fun ts Φ h=>by cases h;rfl) (fun _ _ _ _ s H E ts Φ hr h=>?_)
 cases h with
 |@mk y gs ok hg g8 =>
   refine⟨_,(Q2 (QJ (i:=2) Ly.nd rfl (Or.inr rfl) (Q9 XbQ hr (Qo (pv 0) (Qo (pv 1) Qs))))
 (QB (QV (Vq (NX:=["yard","guests","net"]) (sc:=Q1 MF) (N:=["number","guest","net","yard"]) (f:=[none,none,some 2,some 0]) rfl (by decide +kernel) rfl rfl (Lp rfl T.enumerate (Qo (pv 1) Qs)) (fun _=>(YJ (n:=2) rfl (ZI (Za (i:=0) (show(["number","guest","net","yard"]:Qh).Nodup by decide +kernel) rfl Qa) (ZI (Za (i:=1) (show(["number","guest","net","yard"]:Qh).Nodup by decide +kernel) rfl Qa) YN)))) (fun _=>(BA (n:=2) (Jy ZC (Jy ZC BM)))) (fun _=>Vg) (fun _=>(Q9 Xcc hr (Qo (pv 2) (Qo (pv 3) (Qo (pv 0) (Qo (pv 1) Qs)))))))))),?_⟩
   show Q3 K _ [some _,some _,none] _
   walk_at"x"
   refine QI (VS (Vh (Qu (Qq rfl) (Qu (Qq rfl) QD)) (R_filled.mk ok hg g8)) (fun r hr'=>?_))
   obtain⟨v,N,φ,rfl,hN,full⟩:=hr'
   walk_at"d"
   refine EN 2 rfl ?_
   walk_at"d"
   refine Wf (r:=.oll ((VE y (Q5 gs) φ).map fun row=>row.map PyData.int)) (EvO.cast (FN (xs:=gs.zipIdx) (enc:=fun p=>PyData.tuple [.int (p.2:Int),QH p.1]) (h:=fun p=>(List.range y.T).map fun t=>PyData.int (Zn (Q5 gs) φ t p.2)) ?ei (by simp;omega) ?el) ?eq) ⟨φ,full,rfl⟩
   case ei =>
    refine EvI.cast (DX (Qu (Qq rfl) QD)) ?_
    unfold JR;rw[List.zipIdx_map,XI];rfl
   case eq =>
    congr 1
    unfold VE;rw[XI];have:(Q5 gs).m=gs.length:=rfl
    rw[this];apply List.ext_getElem?
    intro i;by_cases hi:i<gs.length
    ·simp[hi,XI,Function.comp_def]
    ·simp[hi]
   case el =>
    intro p hp c;obtain⟨hk,e2⟩:∃h:p.2<gs.length,p.1=gs[p.2]:=by
     have:=List.mem_zipIdx hp
     simp at this
     exact⟨this.1,this.2⟩
    obtain⟨g,k⟩:=p
    simp only at hk e2
    subst e2;refine⟨_,Wr (ds:=[.int (k:Int),QH gs[k]]) (Vr Zw (Vr Zw WN)) rfl,?_⟩
    walk_at"e"
    exact G9 (R4 rfl (Qu (Qq rfl) (Qu (Qq rfl) (Qu (Qq rfl) QD)))) (R_takes.mk ok hN hk)
theorem ZgB:Qp ["yard","guests"] ["yard","guests"] (Q1 KP):=by walk_at"p"
theorem Ck (T:Bl mg) (D:Df K mg "best_filling" KP ["yard","guests"]) (Xcd:Q0 P w K mg base "greatest_filling" ["yard","guests"] 5 (Zt K R_great)):Q0 P w K mg base "best_filling" ["yard","guests"] 6 (Zt K R_great):=by
 refine D.evD ZgB (fun ts Φ h=>by cases h;rfl) (fun _ _ _ _ s H E ts Φ hr h=>?_)
 have h0:=h
 cases h with
 |@mk y gs ok hg g8 =>
   refine⟨_,(QB (QV (Q9 Xcd hr (Qo (pv 0) (Qo (pv 1) Qs))))),?_⟩
   show Q3 K _ [some _,some _] _
   walk_at"x"
   exact GH (Vh (Qu (Qq rfl) (Qu (Qq rfl) QD)) h0) (fun r hr'=>hr')
def Zs (y:Yd)(G:Gv)(S:Qm):Int:=Qv (Zh S G.wa) G.m-Qv (fun t=>passes y (fun l=>Zg y l t) (WI G S t) 0) y.T
def WJ (y:Yd)(G:Gv)(φ:QU Nd):Int:=Qv (fun k=>G.wa k-Qv (fun t=>Zn G φ t k) y.T) G.m
theorem Md {y:Yd}{G:Gv}{φ:QU Nd}(F:Flow y G φ)(ok:y.Ok)(hln:∀k,k<G.m->G.ln k<y.ls.length)(S:Qm):Zs y G S<=WJ y G φ:=by
 have nn:∀k,k<G.m->0<=G.wa k-Qv (fun t=>Zn G φ t k) y.T:=fun k hk=>by
  rw[F.total hk];have:=F.want hk
  omega
 have h1:Qv (Zh S fun k=>G.wa k-Qv (fun t=>Zn G φ t k) y.T) G.m<=WJ y G φ:=Vs fun k hk=>HM (nn k hk)
 have h2:Qv (Zh S fun k=>G.wa k-Qv (fun t=>Zn G φ t k) y.T) G.m=Qv (Zh S G.wa) G.m-Qv (Zh S fun k=>Qv (fun t=>Zn G φ t k) y.T) G.m:=by
  rw[<- HF];refine Zb fun k _=>?_
  unfold Zh;dsimp only;split<;>omega
 have h3:Qv (fun t=>Qv (Zh S (Zn G φ t)) G.m) y.T=Qv (Zh S fun k=>Qv (fun t=>Zn G φ t k) y.T) G.m:=by
  rw[Mg (fun t k=>Zh S (Zn G φ t) k) y.T G.m]
  refine Zb fun k _=>?_
  unfold Zh;cases S k with
  |true=>rfl
  |false=>simp only[X8,if_false];exact VF _
 have h4:Qv (fun t=>Qv (Zh S (Zn G φ t)) G.m) y.T<=Qv (fun t=>passes y (fun l=>Zg y l t) (WI G S t) 0) y.T:=Vs fun t ht=>F.no_more ok hln S ht
 unfold Zs;omega
theorem Jv {y:Yd}{gs:List Gs}(hg:∀g∈gs,GOk y g):∀k,k<(Q5 gs).m->(Q5 gs).ln k<y.ls.length:=fun k hk=>by
 show(gs.getD k default).line<_
 rw[YO hk];exact(hg _ (XL _)).ln
def QE (gs:List Gs)(S:Qm):Qk:=(List.range gs.length).filter S
theorem GX {gs:List Gs}(g8:gs.length<=8)(S:Qm):SetOk gs (QE gs S) :=
 ⟨fun k hk=>Xr.mp (X6.mp hk).1,XN (List.length_filter_le _ _) (by simpa using g8)⟩
theorem Va (f:Qn):∀n,((List.range n).map f).sum=Qv f n
 |0=>rfl
 |n+1=>by rw[Y6,Xy,Bm,Va f n];simp[Qv]
theorem Ba (f:Qn)(p:Qm):∀n,(((List.range n).filter p).map f).sum=Qv (Zh p f) n
 |0=>rfl
 |n+1=>by
   rw[Y6,Bo,Xy,Bm,Ba f p n];show _=Qv (Zh p f) n+Zh p f n
   unfold Zh;cases e:p n with
   |true=>simp[J7,e]
   |false=>simp[J7,e]
theorem Ah (gs:List Gs)(S:Qm)(t l:Nat):WI (Q5 gs) S t l=VZ gs t (QE gs S) l:=by
 show _=Zr gs (t:Int) l ((List.range gs.length).filter S)
 rw[Bb];unfold WI;refine Zb fun k hk=>?_
 have hk:k<gs.length:=hk
 unfold Zh moT wgt ind;rw[Xx hk];have e1:(Q5 gs).th k t=V3 gs[k] (t:Int):=by show V3 (gs.getD k default) _=_;rw[YO hk]
 have e2:(Q5 gs).mo k=gs[k].most:=by show(gs.getD k default).most=_;rw[YO hk]
 have e3:(Q5 gs).ln k=gs[k].line:=by show(gs.getD k default).line=_;rw[YO hk]
 rw[e1,e2,e3];cases S k with
 |false=>simp
 |true =>
   simp only[if_true];by_cases c:gs[k].line=l
   ·by_cases d:V3 gs[k] (t:Int)=true
    ·simp[c,d]
    ·simp[c,d]
   ·simp[c]
def Z4 (gs:List Gs)(sm:Qk):Int:=(sm.map fun k=>(gs.getD k default).want).sum
theorem Wk (y:Yd)(gs:List Gs)(S:Qm):Zs y (Q5 gs) S=Z4 gs (QE gs S)-Vb y gs (QE gs S):=by
 unfold Zs;congr 1
 ·exact(Ba _ S gs.length).symm
 ·unfold Vb
  rw[Va];refine Zb fun t _=>?_
  unfold Zf;rw[show WI (Q5 gs) S t=VZ gs t (QE gs S) from funext fun l=>Ah gs S t l]
def G1 (y:Yd)(G:Gv)(φ:QU Nd)(es:Got Nd):Prop:=Flow y G φ/\Nd.start∈QX es/\VY (Zk y G) φ es/\Nd.fin∉QX es
inductive R_lset:List OT->(OT->Prop)->Prop
 |mk {y:Yd} {gs:List Gs} (ok:y.Ok) (hg:∀g∈gs,GOk y g) (g8:gs.length<=8):R_lset [.fz (QY y),.fz (.list (gs.map QH))] (fun r=>∃φ es,G1 y (Q5 gs) φ es/\r=.ol (QN (QE gs (Zd es))))
theorem Lw:Qp ["yard","guests","edges"] ["yard","guests"] (Q1 ME):=by walk_at"p"
theorem ZkP (T:Bl mg) (U:Tx K mg C gS gE) (D:Df K mg "guests_reached" ME ["yard","guests"]) (XbQ:Q0 P w K mg base "filled_net" ["yard","guests"] 4 (Zt K (R_filled P w C))) (XbH:Vw P w K mg base C "reached" ["self","start"] 1 (Zt K (R_reached P w C))) (XbB:Q0 P w K mg base "guest_node" ["number"] 1 (Q7 (K:=K) R_gnode)) :
 Q0 P w K mg base "guests_reached" ["yard","guests"] 5 (Zt K R_lset):=by
 refine D.evD Lw (fun ts Φ h=>by cases h;rfl) (fun _ _ _ _ s H E ts Φ hr h=>?_)
 cases h with
 |@mk y gs ok hg g8 =>
   refine⟨_,(Q2 (QJ (i:=2) Lw.nd rfl (Or.inr rfl) (Y2 XbH U.net hr (Q9 XbQ hr (Qo (pv 0) (Qo (pv 1) Qs))) (Qo (GI (v:=.ref _) rfl U.mSTART rfl) Qs)))
 (QB (QV (Vq (NX:=["yard","guests","edges"]) (sc:=Q1 ME) (N:=["number","edges"]) (f:=[none,some 2]) rfl (by decide +kernel) rfl rfl (Yp rfl T.range (Qo (Z5 Yx (by rfl) T.len Yz (Qo (pv 1) Qs)) Qs)) (fun _=>(Za (i:=0) (show(["number","edges"]:Qh).Nodup by decide +kernel) rfl Qa)) (fun _=>ZC) (fun _=>(BO (UG (RF (WK hr) (Q9 XbB hr (Qo (pv 0) Qs)) (pv 1))))) (fun _=>(pv 0)))))),?_⟩
   show Q3 K _ [some _,some _,none] _
   walk_at"x"
   have ll:(Zk y (Q5 gs)).length<400:=by
    unfold Zk;rw[Xq];have a:=Mq ok (Q5 gs) (n:=(Q5 gs).m) g8
    have b:=Kj ok ok.t8
    omega
   refine QI (VS (Φ:=fun r=>∃v φ es,r=.own v (Vx (kvG es))/\G1 y (Q5 gs) φ es) (Ej (P:=P) (w:=w) Lg (Vh (Qu (Qq rfl) (Qu (Qq rfl) QD)) (R_filled.mk ok hg g8)) (fun r hr'=>?_) (Qu (Hz U.aS) QD)) (fun r hr'=>?_))
   ·obtain⟨v,N,φ,rfl,hN,F,es0,h1,h2,h3⟩:=hr'
    refine⟨v,N,rfl,_,R_reached.mk (s:=.start) hN ll,fun r ⟨v',es,e,tr,cl⟩=>⟨v',φ,es,e,F,tr.start,cl,fun z=>h3 (tr.inClosed h2 h1 _ z)⟩⟩
   ·obtain⟨v,φ,es,rfl,fb⟩:=hr'
    walk_at"d"
    refine P2 2 rfl ?_
    walk_at"d"
    refine Wf (r:=.ol (QN (QE gs (Zd es)))) (G7 (xs:=List.range gs.length) (enc:=fun(j:Nat)=>PyData.int (j:Int)) (h:=fun(j:Nat)=>PyData.int (j:Int)) (p:=Zd es) ?ei (by simp;omega) ?el) ⟨φ,es,fb,rfl⟩
    case ei =>
     have e:(gs.map QH).length=gs.length:=by simp
     refine EvI.cast (WT (Qu (Ua (Qq rfl)) QD) (by rw[z62,e];omega) (by rw[z62,e];omega)) ?_
     rw[e,XH];unfold ZY;refine X4 fun i _=>?_
     rw[YS]
    case el =>
     intro k hk c;refine⟨_,Zw,?_,fun _=>?_⟩
     ·walk_at"e"
      exact Z9.cast (Ji (LV (k:=nk (.guest k)) (Zj (Qu (Qq rfl) QD) R_gnode.mk) rfl)) (G3 _ _)
     ·walk_at"e"
      exact Qq rfl
theorem Zhe:Qp ["yard","guests"] ["yard","guests"] (Q1 Nc):=by walk_at"p"
theorem A7 (T:Bl mg) (D:Df K mg "lacking_set" Nc ["yard","guests"]) (Xce:Q0 P w K mg base "guests_reached" ["yard","guests"] 5 (Zt K R_lset)):Q0 P w K mg base "lacking_set" ["yard","guests"] 6 (Zt K R_lset):=by
 refine D.evD Zhe (fun ts Φ h=>by cases h;rfl) (fun _ _ _ _ s H E ts Φ hr h=>?_)
 have h0:=h
 cases h with
 |@mk y gs ok hg g8 =>
   refine⟨_,(QB (QV (Q9 Xce hr (Qo (pv 0) (Qo (pv 1) Qs))))),?_⟩
   show Q3 K _ [some _,some _] _
   walk_at"x"
   exact GH (Vh (Qu (Qq rfl) (Qu (Qq rfl) QD)) h0) (fun r hr'=>hr')
def BV (y:Yd)(gs:List Gs)(sm:Qk):Int:=Z4 gs sm-Vb y gs sm
inductive R_short:List OT->OT->Prop
 |mk {y:Yd} {gs:List Gs} {sm:Qk} (ok:y.Ok) (hg:∀g∈gs,g.Ok y) (hs:SetOk gs sm) :
  R_short [.fz (QY y),.fz (.list (gs.map QH)),.fz (.list (QN sm))] (.fz (.int (BV y gs sm)))
theorem ZjW:Qp ["yard","guests","some"] ["yard","guests","some"] (Q1 Mt):=by walk_at"p"
theorem Eo (T:Bl mg) (D:Df K mg "short_of" Mt ["yard","guests","some"]) (Xbv:Q0 P w K mg base "want_of" ["guest"] 1 (Q7 (K:=K) R_want)) (XbI:Q0 P w K mg base "given_most" ["yard","guests","some"] 4 (Q7 (K:=K) R_givenm)) :
 Q0 P w K mg base "short_of" ["yard","guests","some"] 5 (Q7 (K:=K) R_short):=by
 refine D.ev ZjW (fun ts r h=>by cases h;rfl) (fun _ _ _ _ s H E ts r hr h=>?_)
 cases h with
 |@mk y gs sm ok hg hs =>
   refine⟨_,(QB (QV (QF YI (Z5 GA (by rfl) T.sum G2 (Qo (Vq (NX:=["yard","guests","some"]) (sc:=Q1 Mt) (N:=["number","guests"]) (f:=[none,some 1]) rfl (by decide +kernel) rfl rfl (V2 (pv 2)) (fun _=>(Za (i:=0) (show(["number","guests"]:Qh).Nodup by decide +kernel) rfl Qa)) (fun _=>ZC) (fun _=>Vg) (fun _=>(Q9 Xbv hr (Qo (QM QL (pv 1) (pv 0)) Qs)))) Qs)) (Q9 XbI hr (Qo (pv 0) (Qo (pv 1) (Qo (pv 2) Qs))))))),?_⟩
   show Q3 K _ [some _,some _,some _] _
   walk_at"x"
   have n8:=hs.len
   refine ZG (VA (Gz (ns:=sm.map fun k=>(gs.getD k default).want) ?_ rfl) (Zj (by walk_at"ea") (R_givenm.mk ok hg hs))) rfl
   refine EvO.fz ?_
   rw[XI];refine V8 (xs:=sm) (enc:=fun(j:Nat)=>PyData.int (j:Int)) ?_ (by omega) ?_
   ·walk_at"ei"
   ·intro x hx c
    have hk:=hs.mem x hx
    refine⟨_,by walk_at"g",?_⟩
    walk_at"e"
    refine Zj (ts:=[.fz (QH (gs.getD x default))]) (Qu (Qt.cast (by walk_at"ev") (by rw[XH])) QD) R_want.mk
theorem Zfl:Qp ["self","some"] ["self","some"] (Q1 UZ):=by walk_at"p"
theorem ED {f:Addr} {fd:FuncData} (T:Bl mg) (F:Fun K "__init__" "NoRoom.__init__" UZ f fd) (cl:Jh K YR CR f) (xs:Lz K CR) (tk:W.takerIn K CR "some"=some none) (my:mg "YardError"=some (.ref YR)):FnOk P w K mg base CX0 1 f fd ["self","some"] (GJ K CR "some"):=by
 refine F.ok Zfl (fun vs H Q E ⟨e,p,xs,h,_⟩=>by rw[h];rfl) (fun cdv A outer s H vs Q E hr h=>⟨_,Q2 (ZV (A4 (i:=0) cl rfl my rfl Qa)) (QB (C6 xs tk (pv 0) (WU Ho (by rfl) T.list Hi (Qo (pv 1) Qs)) rfl)),EA h⟩)
inductive R_refuse:List OT->(OT->Prop)->Prop
 |mk {y:Yd} {gs:List Gs} (ok:y.Ok) (hg:∀g∈gs,g.Ok y) (g8:gs.length<=8) (h:∀S,Zs y (Q5 gs) S<=0):R_refuse [.fz (QY y),.fz (.list (gs.map QH))] (fun r=>r=.fz .none)
inductive X_refuse:List OT->(Qd->Prop)->Prop
 |mk {y:Yd} {gs:List Gs} (ok:y.Ok) (hg:∀g∈gs,g.Ok y) (g8:gs.length<=8) {S:Qm} (h:0<Zs y (Q5 gs) S):X_refuse [.fz (QY y),.fz (.list (gs.map QH))] (fun d=>∃S,0<Zs y (Q5 gs) S/\d=QN (QE gs S))
theorem KQ:Qp ["yard","guests","some"] ["yard","guests"] (Q1 KS):=by walk_at"p"
theorem IT (T:Bl mg) (XR:XC K mg "NoRoom" YR CR fR) (D:Df K mg "refuse_lack" KS ["yard","guests"]) (Xbw:Q0 P w K mg base "lacking_set" ["yard","guests"] 6 (Zt K R_lset)) (XbJ:Q0 P w K mg base "short_of" ["yard","guests","some"] 5 (Q7 (K:=K) R_short)) (XbW:D2 P w K mg base fR ["self","some"] 1 (GJ K CR "some")) :
 JJ P w K mg base "refuse_lack" ["yard","guests"] 7 (spX K CR "some" R_refuse X_refuse):=by
 refine D.evZ KQ (fun ts Φ h=>by cases h;rfl) (fun ts Φ h=>by cases h;rfl) (by decide) (fun f cdv A outer s H RR ts Φ hr hst h=>?_) (fun f cdv A outer s F H RR ts Φ hr hst hq h=>?_)
 ·cases h with
  |@mk y gs ok hg g8 h =>
    refine⟨_,(Q2 (QJ (i:=2) KQ.nd rfl Qa (Q9 Xbw hr (Qo (pv 0) (Qo (pv 1) Qs))))
 (QB (VW (Vf Jp (Q9 XbJ hr (Qo (pv 0) (Qo (pv 1) (Qo (pv 2) Qs)))) Qy (ZT _)) (QB (PP XR XbW hst hr (Qo (pv 2) Qs))) Yb))),?_⟩
    show Q3 K _ [some _,some _,none] _
    walk_at"x"
    have hk:∀g∈gs,GOk y g:=fun g h=>BF (hg g h)
    refine QI (VS (Vh (Qu (Qq rfl) (Qu (Qq rfl) QD)) (R_lset.mk ok hk g8)) (fun r hr'=>?_))
    obtain⟨φ,es,fb,rfl⟩:=hr'
    walk_at"d"
    refine V9 2 rfl ?_
    walk_at"d"
    have h1:=h (Zd es)
    rw[Wk]at h1;exact YW (b:=false) (Z9.cast (Ya (Js (Zj (Qu (Qq rfl) (Qu (Qq rfl) (Qu (Qq rfl) QD))) (R_short.mk ok hg (GX g8 _))) Ze)) (XF (by unfold BV;omega))) (fun c=>nomatch c) (fun _=>Yj rfl)
 ·cases h with
  |@mk y gs ok hg g8 S h =>
    refine⟨_,(Q2 (QJ (i:=2) KQ.nd rfl Qa (Q9 Xbw hr (Qo (pv 0) (Qo (pv 1) Qs))))
 (QB (VW (Vf Jp (Q9 XbJ hr (Qo (pv 0) (Qo (pv 1) (Qo (pv 2) Qs)))) Qy (ZT _)) (QB (PP XR XbW hst hr (Qo (pv 2) Qs))) Yb))),?_⟩
    show EvZ K F H _ [some _,some _,none]
    walk_at"x"
    have hk:∀g∈gs,GOk y g:=fun g h=>BF (hg g h)
    refine C2 (fun ρ'=>∃φ es,G1 y (Q5 gs) φ es/\ρ'=[some (.fz (QY y)),some (.fz (.list (gs.map QH))),some (.ol (QN (QE gs (Zd es))))]) (VS (Vh (Qu (Qq rfl) (Qu (Qq rfl) QD)) (R_lset.mk ok hk g8)) (fun r hr'=>?_)) ?_
    ·obtain⟨φ,es,fb,rfl⟩:=hr'
     exact⟨φ,es,fb,rfl⟩
    ·rintro _ ⟨φ,es,fb,rfl⟩
     refine Fh 2 rfl ?_
     walk_at"d"
     have h1:0<Zs y (Q5 gs) (Zd es):=by
      have a:=Md fb.1 ok (Jv hk) S
      have e:=fb.1.lack ok (Jv hk) fb.2.2.1 fb.2.1 fb.2.2.2
      have e:WJ y (Q5 gs) φ=Zs y (Q5 gs) (Zd es):=e
      omega
     have h2:=h1
     rw[Wk]at h2;exact Fp (b:=true) (Z9.cast (Ya (Js (Zj (Qu (Qq rfl) (Qu (Qq rfl) (Qu (Qq rfl) QD))) (R_short.mk ok hg (GX g8 _))) Ze)) (Yk (by unfold BV;omega))) (fun _=>Ek (Qq rfl) ⟨Zd es,h1,rfl⟩ hq) (fun c=>nomatch c)
def Gu (l:Ln)(p:Int):Ln:=⟨l.up,l.bs.map fun b=>min b p⟩
def Zq (y:Yd)(p:Int):Yd:=⟨y.T,Gu (y.ls.getD 0 default) p::y.ls.drop 1⟩
theorem Mj {y:Yd}(ok:y.Ok)(p:Int):(Zq y p).ls.length=y.ls.length:=by
 have:=ok.l1
 simp[Zq]
 omega
theorem HN {y:Yd}(ok:y.Ok)(p:Int)(k:Nat):(Zq y p).ls[k]?=if k=0 then some (Gu (y.ls.getD 0 default) p) else y.ls[k]? := by
 cases k with
 |zero=>simp[Zq]
 |succ k=>simp[Zq,Nat.add_comm 1 k]
theorem MY {y:Yd}(ok:y.Ok):y.ls[0]?=some (y.ls.getD 0 default):=by
 have:=ok.l1
 simp[List.getD,show 0<y.ls.length by omega]
theorem Hf {y:Yd}(ok:y.Ok)(p:Int)(k:Nat):QS (Zq y p) k=QS y k:=by
 unfold QS;rw[HN ok];by_cases h:k=0
 ·subst h
  rw[Xc rfl,MY ok];rfl
 ·rw[Xb h]
theorem Bz {y:Yd}(ok:y.Ok):y.ls.getD 0 default∈y.ls:=List.mem_of_getElem? (MY ok)
theorem GL {y:Yd}(ok:y.Ok){p:Int}(hp:0<=p):(Zq y p).Ok:=by
 have ln:=Mj ok p
 refine⟨ok.t1,ok.t8,by rw[ln];exact ok.l1,by rw[ln];exact ok.l5,by rw[Hf ok];exact ok.up0,fun k h1 h2=>?_,fun l hl=>?_,fun l hl b hb=>?_⟩
 ·rw[Hf ok]
  exact ok.ups k h1 (by rw[ln]at h2;exact h2)
 ·rcases Xg.mp hl with rfl|hl
  ·show((y.ls.getD 0 default).bs.map fun b=>min b p).length=y.T
   rw[Xm];exact ok.bl _ (Bz ok)
  ·exact ok.bl l (MS hl)
 ·rcases Xg.mp hl with rfl|hl
  ·simp only[Gu,Xw]at hb
   obtain⟨c,hc,rfl⟩:=hb
   have:=ok.bb _ (Bz ok) c hc
   omega
  ·exact ok.bb l (MS hl) b hb
theorem Ip {y:Yd}(ok:y.Ok)(p:Int):PyData.tuple [.int (y.T:Int),.tuple ([PyData.tuple [upD (y.ls.getD 0 default).up,.tuple ((y.ls.getD 0 default).bs.map fun b=>.int (min b p))]]++cut (y.ls.map ZH) (some 1) none)]=QY (Zq y p):=by
 have l1:=ok.l1
 rw[show(some 1:Option Int)=some ((1:Nat):Int) from rfl,R3 _ 1 (by simpa using l1)];unfold QY Zq Gu ZH;simp[List.map_drop]
inductive R_lowered:List OT->OT->Prop
 |mk {y:Yd} {p:Int} (ok:y.Ok):R_lowered [.fz (QY y),.fz (.int p)] (.fz (QY (Zq y p)))
theorem Nj:Qp ["yard","p","first","lowered"] ["yard","p"] (Q1 M3):=by walk_at"p"
theorem ZlQ (T:Bl mg) (D:Df K mg "yard_lowered" M3 ["yard","p"]):Q0 P w K mg base "yard_lowered" ["yard","p"] 1 (Q7 (K:=K) R_lowered):=by
 refine D.ev Nj (fun ts r h=>by cases h;rfl) (fun _ _ _ _ s H E ts r hr h=>?_)
 cases h with
 |@mk y p ok =>
   refine⟨_,(Q2 (QJ (i:=2) Nj.nd rfl Qa (QM QL (QM QL (pv 0) Qy) Qy))
 (Q2 (QJ (i:=3) Nj.nd rfl Qa (ZB (Qo (QM QL (pv 2) Qy) (Qo (WU UT (by rfl) T.tuple UR (Qo (Vq (NX:=["yard","p","first","lowered"]) (sc:=Q1 M3) (N:=["bound","p"]) (f:=[none,some 1]) rfl (by decide +kernel) rfl rfl (BG (QM QL (pv 2) Qy)) (fun _=>(Za (i:=0) (show(["bound","p"]:Qh).Nodup by decide +kernel) rfl Qa)) (fun _=>ZC) (fun _=>Vg) (fun _=>(Z5 (DG rfl) (by rfl) T.min BB (Qo (pv 0) (Qo (pv 1) Qs))))) Qs)) Qs))))
 (QB (QV (ZB (Qo (QM QL (pv 0) Qy) (Qo (QF Af (ZB (Qo (pv 3) Qs)) (ER FS (QM QL (pv 0) Qy) (SG Qy) Hg)) Qs))))))),?_⟩
   show Q3 K _ [some _,some _,none,none] _
   walk_at"x"
   have l1:=ok.l1
   have l5:=ok.l5
   have t8:=ok.t8
   have bl:=ok.bl _ (Bz ok)
   have ly:∀{ρ:QG},ρ[0]?=some (some (.fz (QY y)))->Qt K (tOp (rIx K) (Zc 0) (tC (.int 1))) ρ (.tuple (y.ls.map ZH)):=fun h=>Yh (ds:=[PyData.int (y.T:Int),.tuple (y.ls.map ZH)]) (Qq h) Ze rfl
   refine QI (ZU (d:=ZH (y.ls.getD 0 default)) (Yh (ds:=y.ls.map ZH) (ly rfl) Ze (GF (f:=ZH) (by omega) (by omega))) ?_)
   walk_at"d"
   refine QI (ZU (V0 (ds:=[upD (y.ls.getD 0 default).up,.tuple ((y.ls.getD 0 default).bs.map fun b=>.int (min b p))]) (Zl (Yh (ds:=[upD (y.ls.getD 0 default).up,.tuple ((y.ls.getD 0 default).bs.map PyData.int)]) (Qq rfl) Ze rfl) (Zl (G8 (EvO.fz (V8 (xs:=(y.ls.getD 0 default).bs) (enc:=PyData.int) (h:=fun b=>.int (min b p)) ?ei (by omega) ?el))) Z2)) YB) ?_)
   case ei=>exact D9 (Yh (ds:=[upD (y.ls.getD 0 default).up,.tuple ((y.ls.getD 0 default).bs.map PyData.int)]) (Qq rfl) Ze rfl)
   case el =>
    intro x hx c;refine⟨_,by walk_at"g",?_⟩
    walk_at"e"
    exact Rr (Qq rfl) (Qq rfl)
   walk_at"d"
   refine ZG (Qt.cast (V0 (ds:=[.int (y.T:Int),.tuple ([PyData.tuple [upD (y.ls.getD 0 default).up,.tuple ((y.ls.getD 0 default).bs.map fun b=>.int (min b p))]]++cut (y.ls.map ZH) (some 1) none)]) (Zl (Yh (ds:=[PyData.int (y.T:Int),.tuple (y.ls.map ZH)]) (Qq rfl) Ze rfl) (Zl (Rs (V0 (Zl (Qq rfl) Z2) U7) (NT (ly rfl) (DP Ze) BJ ?nw) ?ln) Z2)) YB) (Ip ok p)) rfl
   case nw=>exact Fl (k:=1) (by decide) (by rw[Xm];omega)
   case ln =>
    rw[show(some 1:Option Int)=some ((1:Nat):Int) from rfl,R3 _ 1 (by simpa using l1)];simp
    omega
theorem Az {y:Yd}(ok:y.Ok)(p:Int)(k t:Nat)(h0:k≠0):Zg (Zq y p) k t=Zg y k t:=by
 unfold Zg;rw[HN ok,Xb h0]
theorem AD {y:Yd}(ok:y.Ok)(p:Int){t:Nat}(ht:t<y.T):Zg (Zq y p) 0 t=min (Zg y 0 t) p:=by
 unfold Zg;rw[HN ok,Xc rfl,MY ok];have bl:=ok.bl _ (Bz ok)
 generalize y.ls.getD 0 default=l at bl;simp only[XS,Wm,Gu,List.getD,Xk];rw[Xx (by omega)];rfl
theorem Mp {y y':Yd}{b b' own:Qn}(hl:y'.ls.length=y.ls.length)(hu:∀k,QS y' k=QS y k)(hb:∀k,k≠0->b' k=b k):∀i,i<=y.ls.length-1->∀l,Z1 y' b' own i l=Z1 y b own i l
 |0,_,l=>rfl
 |i+1,hi,l=>by
   simp only[Z1,YF,hl,hu];rw[Mp hl hu hb i (by omega),Mp hl hu hb i (by omega),hb _ (by omega)]
theorem PV {y:Yd}(ok:y.Ok)(gs:List Gs)(sm:Qk)(p:Int){t:Nat}(ht:t<y.T):Zf (Zq y p) gs sm t=min (Zf y gs sm t) p:=by
 unfold Zf passes Vp;rw[Mj ok,Mp (b:=fun k=>Zg y k t) (Mj ok p) (Hf ok p) (fun k hk=>Az ok p k t hk) _ (Xs _)]
 dsimp only;rw[AD ok p ht];omega
theorem WV {y:Yd}(ok:y.Ok)(gs:List Gs)(S:Qm)(p:Int):Zs (Zq y p) (Q5 gs) S=Z4 gs (QE gs S)-ZN (Zf y gs (QE gs S)) y.T p:=by
 rw[Wk];unfold Vb ZN;rw[Va];congr 1
 exact Zb fun t ht=>PV ok gs _ p ht
theorem UW {y:Yd}(gs:List Gs)(S:Qm):Zs y (Q5 gs) S=Z4 gs (QE gs S)-Qv (Zf y gs (QE gs S)) y.T:=by
 rw[Wk];unfold Vb;rw[Va]
theorem RQ {y:Yd}(ok:y.Ok){g:Gs}(h:g.Ok y)(p:Int):g.Ok (Zq y p):=⟨by rw[Mj ok];exact h.ln,h.fl,h.lt,h.w1,h.w2,h.m1,h.m2⟩
theorem HE {y:Yd}(ok:y.Ok)(gs:List Gs)(S:Qm){p q:Int}(h:p<=q):Zs (Zq y q) (Q5 gs) S<=Zs (Zq y p) (Q5 gs) S:=by
 rw[WV ok,WV ok];have:=PM (g:=Zf y gs (QE gs S)) h y.T
 omega
structure IsPeak (y:Yd)(gs:List Gs)(p:Int):Prop where
 nn:0<=p
 all:∀S,Zs (Zq y p) (Q5 gs) S<=0
 less:0<p->∃S,0<Zs (Zq y (p-1)) (Q5 gs) S
theorem IsPeak.uniq {y:Yd}(ok:y.Ok){gs:List Gs}{p q:Int}(h:IsPeak y gs p)(h':IsPeak y gs q):p=q:=by
 have key:∀{p q:Int},IsPeak y gs p->IsPeak y gs q->¬p<q:=fun{p q} h h' c=>by
  obtain⟨S,hS⟩:=h'.less (by have:=h.nn;omega)
  have a:=h.all S
  have b:=HE ok gs S (p:=p) (q:=q-1) (by omega)
  omega
 have a:=key h h'
 have b:=key h' h
 omega
def Jm (y:Yd):Int:=Qv (fun t=>Zg y 0 t) y.T
theorem PL {f:Qn}{t:Nat}:∀{n:Nat},(∀k,k<n->0<=f k)->t<n->f t<=Qv f n
 |0,_,h=>by omega
 |n+1,h0,h=>by
   rw[Qv];have nn:=GG (f:=f) (n:=n) fun k hk=>h0 k (by omega)
   have fn:=h0 n (by omega)
   by_cases e:t=n
   ·subst e;omega
   ·have:=PL (f:=f) (n:=n) (fun k hk=>h0 k (by omega)) (show t<n by omega)
    omega
theorem Tq {y:Yd}(ok:y.Ok)(gs:List Gs)(sm:Qk){t:Nat}(ht:t<y.T):Zf y gs sm t<=Jm y:=by
 have a:Zf y gs sm t<=Zg y 0 t:=by unfold Zf passes;dsimp only;omega
 have b:=PL (f:=fun t=>Zg y 0 t) (fun k _=>DQ ok 0 k) ht
 unfold Jm;omega
theorem TW (p:Qm):∀n,(((List.range n).filter p).length:Int)=Qv (fun t=>if p t=true then 1 else 0) n
 |0=>rfl
 |n+1=>by
   rw[Y6,Bo,Xq,Qv,Int.natCast_add,TW p n];cases e:p n<;>simp[J7,e]
theorem Iu {y:Yd}(gs:List Gs)(sm:Qk)(p:Int):(((List.range y.T).filter fun t=>decide (Zf y gs sm t > p)).length:Int)=ZF (Zf y gs sm) y.T p:=by
 rw[TW];unfold ZF;exact Zb fun t _=>by simp
theorem SE (g:Qn)(p:Int):∀n:Nat,ZF g n p<=n
 |0=>by simp[ZF,Qv]
 |n+1=>by
   have:=SE g p n
   unfold ZF at this ⊢;rw[Qv];split<;>omega
inductive R_shlow:List OT->OT->Prop
 |mk {y:Yd} {gs:List Gs} {sm:Qk} {p:Int} (ok:y.Ok) (hg:∀g∈gs,g.Ok y) (hs:SetOk gs sm) (hp:0<=p) :
  R_shlow [.fz (QY y),.fz (.list (gs.map QH)),.fz (.list (QN sm)),.fz (.int p)] (.fz (.int (Z4 gs sm-ZN (Zf y gs sm) y.T p)))
theorem ZfU:Qp ["yard","guests","some","p"] ["yard","guests","some","p"] (Q1 Ni):=by walk_at"p"
theorem AU (T:Bl mg) (D:Df K mg "short_lowered" Ni ["yard","guests","some","p"]) (XbJ:Q0 P w K mg base "short_of" ["yard","guests","some"] 5 (Q7 (K:=K) R_short)) (Xby:Q0 P w K mg base "yard_lowered" ["yard","p"] 1 (Q7 (K:=K) R_lowered)):Q0 P w K mg base "short_lowered" ["yard","guests","some","p"] 6 (Q7 (K:=K) R_shlow):=by
 refine D.ev ZfU (fun ts r h=>by cases h;rfl) (fun _ _ _ _ s H E ts r hr h=>?_)
 cases h with
 |@mk y gs sm p ok hg hs hp =>
   refine⟨_,(QB (QV (Q9 XbJ hr (Qo (Q9 Xby hr (Qo (pv 0) (Qo (pv 3) Qs))) (Qo (pv 1) (Qo (pv 2) Qs)))))),?_⟩
   show Q3 K _ [some _,some _,some _,some _] _
   walk_at"x"
   refine ZG (Qt.cast (Zj (Qu (Zj (Qu (Qq rfl) (Qu (Qq rfl) QD)) (R_lowered.mk ok)) (Qu (Qq rfl) (Qu (Qq rfl) QD))) (R_short.mk (GL ok hp) (fun g h=>RQ ok (hg g h) p) hs)) ?_) rfl
   unfold BV Vb ZN;rw[Va];have e:Qv (Zf (Zq y p) gs sm) (Zq y p).T=Qv (fun t=>min (Zf y gs sm t) p) y.T:=Zb fun t ht=>PV ok gs sm p ht
   rw[<- e]
inductive R_held:List OT->OT->Prop
 |mk {y:Yd} {gs:List Gs} {sm:Qk} {p:Int} (ok:y.Ok) (hg:∀g∈gs,g.Ok y) (hs:SetOk gs sm) :
  R_held [.fz (QY y),.fz (.list (gs.map QH)),.fz (.list (QN sm)),.fz (.int p)] (.fz (.int (ZF (Zf y gs sm) y.T p)))
theorem Zio:Qp ["yard","guests","some","p"] ["yard","guests","some","p"] (Q1 M7):=by walk_at"p"
theorem Co (T:Bl mg) (D:Df K mg "turns_held" M7 ["yard","guests","some","p"]) (Xbu:Q0 P w K mg base "turns_of" ["yard"] 1 (Q7 (K:=K) R_turns)) (XbP:Q0 P w K mg base "given_at" ["yard","guests","some","turn"] 3 (Q7 (K:=K) R_given)):Q0 P w K mg base "turns_held" ["yard","guests","some","p"] 4 (Q7 (K:=K) R_held):=by
 refine D.ev Zio (fun ts r h=>by cases h;rfl) (fun _ _ _ _ s H E ts r hr h=>?_)
 cases h with
 |@mk y gs sm p ok hg hs =>
   refine⟨_,(QB (QV (Z5 Yx (by rfl) T.len Yz (Qo (Vq (NX:=["yard","guests","some","p"]) (sc:=Q1 M7) (N:=["turn","p","yard","guests","some"]) (f:=[none,some 3,some 0,some 1,some 2]) rfl (by decide +kernel) rfl rfl (Yp rfl T.range (Qo (Q9 Xbu hr (Qo (pv 0) Qs)) Qs)) (fun _=>(Za (i:=0) (show(["turn","p","yard","guests","some"]:Qh).Nodup by decide +kernel) rfl Qa)) (fun _=>ZC) (fun _=>(BO (Vf Jp (Q9 XbP hr (Qo (pv 2) (Qo (pv 3) (Qo (pv 4) (Qo (pv 0) Qs))))) (pv 1) (ZT _)))) (fun _=>(pv 0))) Qs)))),?_⟩
   show Q3 K _ [some _,some _,some _,some _] _
   walk_at"x"
   have t8:=ok.t8
   refine ZG (Qt.cast (Ua (EvO.fz (G7 (xs:=List.range y.T) (enc:=fun(t:Nat)=>PyData.int (t:Int)) (h:=fun(t:Nat)=>PyData.int (t:Int)) (p:=fun t=>decide (Zf y gs sm t > p)) ?ei (by simp;omega) ?el))) ?eq) rfl
   case ei =>
    refine EvI.cast (WT (Qu (Zj (Qu (Qq rfl) QD) R_turns.mk) QD) (by rw[z62];omega) (by rw[z62];omega)) ?_
    rw[XH];unfold ZY;refine X4 fun i _=>?_
    rw[YS]
   case el =>
    intro t ht c;have ht:=Xr.mp ht
    refine⟨_,Zw,?_,fun _=>?_⟩
    ·walk_at"e"
     have h:R_given [.fz (QY y),.fz (.list (gs.map QH)),.fz (.list (QN sm)),.fz (.int (t:Int))] (.fz (.int (Zf y gs sm t))):=R_given.mk (t:=(t:Int)) ok hg hs (by omega) (by omega)
     exact Ya (Js (Zj (Qu (Qq rfl) (Qu (Qq rfl) (Qu (Qq rfl) (Qu (Qq rfl) QD)))) h) (Qq rfl))
    ·walk_at"e"
     exact Qq rfl
   case eq =>
    rw[Xm,Iu]
inductive R_rise:List OT->OT->Prop
 |mk {y:Yd} {gs:List Gs} {sm:Qk} {p:Int} (ok:y.Ok) (hg:∀g∈gs,g.Ok y) (hs:SetOk gs sm) (hp:0<=p) (hh:0<ZF (Zf y gs sm) y.T p) :
  R_rise [.fz (QY y),.fz (.list (gs.map QH)),.fz (.list (QN sm)),.fz (.int p)] (.fz (.int (JP (Zf y gs sm) y.T (Z4 gs sm) p)))
theorem TX:Qp ["yard","guests","some","p","held"] ["yard","guests","some","p"] (Q1 K0):=by walk_at"p"
theorem CQ (T:Bl mg) (D:Df K mg "rise_due" K0 ["yard","guests","some","p"]) (Xcf:Q0 P w K mg base "turns_held" ["yard","guests","some","p"] 4 (Q7 (K:=K) R_held)) (XbK:Q0 P w K mg base "short_lowered" ["yard","guests","some","p"] 6 (Q7 (K:=K) R_shlow)):Q0 P w K mg base "rise_due" ["yard","guests","some","p"] 7 (Q7 (K:=K) R_rise):=by
 refine D.ev TX (fun ts r h=>by cases h;rfl) (fun _ _ _ _ s H E ts r hr h=>?_)
 cases h with
 |@mk y gs sm p ok hg hs hp hh =>
   refine⟨_,(Q2 (QJ (i:=4) TX.nd rfl Qa (Q9 Xcf hr (Qo (pv 0) (Qo (pv 1) (Qo (pv 2) (Qo (pv 3) Qs))))))
 (QB (QV (QF Vk (QF YI (QF VP (Q9 XbK hr (Qo (pv 0) (Qo (pv 1) (Qo (pv 2) (Qo (pv 3) Qs))))) (pv 4)) Qy) (pv 4))))),?_⟩
   show Q3 K _ [some _,some _,some _,some _,none] _
   walk_at"x"
   have t8:=ok.t8
   have h8:=SE (Zf y gs sm) p y.T
   have args:∀{ρ:QG},ρ[0]?=some (some (.fz (QY y)))->ρ[1]?=some (some (.fz (.list (gs.map QH))))->ρ[2]?=some (some (.fz (.list (QN sm))))->ρ[3]?=some (some (.fz (.int p)))->ZE K (QZ (Zc 0) (QZ (Zc 1) (QZ (Zc 2) (QZ (Zc 3) Zm)))) ρ [.fz (QY y),.fz (.list (gs.map QH)),.fz (.list (QN sm)),.fz (.int p)]:=fun a b c d=>Qu (Qq a) (Qu (Qq b) (Qu (Qq c) (Qu (Qq d) QD)))
   refine QI (ZU (Zj (args rfl rfl rfl rfl) (R_held.mk ok hg hs)) ?_)
   walk_at"d"
   exact ZG (ZS (VA (VA (Zj (args rfl rfl rfl rfl) (R_shlow.mk ok hg hs hp)) (Qq rfl)) Ze) (Qq rfl) (Gj hh (by omega))) rfl
def llP (L:List (Ql)):PyData:=.list ((L.map fun r=>r.map PyData.int).map PyData.list)
structure PeakOk (y:Yd)(gs:List Gs)(p:Int)(sh:Qk):Prop where
 pk:IsPeak y gs p
 set:0<p->∃S,sh=QE gs S/\0<Zs (Zq y (p-1)) (Q5 gs) S
 no:p=0->sh=[]
inductive R_lpeak:List OT->(OT->Prop)->Prop
 |mk {y:Yd} {gs:List Gs} (ok:y.Ok) (hg:∀g∈gs,g.Ok y) (g8:gs.length<=8) (h:∀S,Zs y (Q5 gs) S<=0):R_lpeak [.fz (QY y),.fz (.list (gs.map QH))] (fun r=>∃p φ sh,PeakOk y gs p sh/\YA (Zq y p) (Q5 gs) φ/\r=.fz (.tuple [.int p,llP (VE (Zq y p) (Q5 gs) φ),.list (QN sh)]))
structure LoopP (y:Yd)(gs:List Gs)(p:Int)(sh:Qk):Prop where
 nn:0<=p
 set:0<p->∃S,sh=QE gs S/\0<Zs (Zq y (p-1)) (Q5 gs) S
 no:p=0->sh=[]
theorem Y4:Qp ["yard","guests","p","shown","some"] ["yard","guests"] (Q1 K4):=by walk_at"p"
theorem AK (T:Bl mg) (D:Df K mg "least_peak" K4 ["yard","guests"]) (XbX:JJ P w K mg base "refuse_lack" ["yard","guests"] 7 (spX K CR "some" R_refuse X_refuse)) (Xbw:Q0 P w K mg base "lacking_set" ["yard","guests"] 6 (Zt K R_lset)) (Xby:Q0 P w K mg base "yard_lowered" ["yard","p"] 1 (Q7 (K:=K) R_lowered)) (XbK:Q0 P w K mg base "short_lowered" ["yard","guests","some","p"] 6 (Q7 (K:=K) R_shlow)) (XbY:Q0 P w K mg base "rise_due" ["yard","guests","some","p"] 7 (Q7 (K:=K) R_rise)) (XbL:Q0 P w K mg base "best_filling" ["yard","guests"] 6 (Zt K R_great)) :
 JJ P w K mg base "least_peak" ["yard","guests"] 8 (spX K CR "some" R_lpeak X_refuse):=by
 refine D.evZ Y4 (fun ts Φ h=>by cases h;rfl) (fun ts Φ h=>by cases h;rfl) (by decide) (fun f cdv A outer s H RR ts Φ hr hst h=>?_) (fun f cdv A outer s F H RR ts Φ hr hst hq h=>?_)
 ·cases h with
  |@mk y gs ok hg g8 h =>
    refine⟨_,(Q2 (ZV (Hu XbX hr (NL hst) (Qo (pv 0) (Qo (pv 1) Qs))))
 (PSs.nox (Q2 (QJ (i:=2) Y4.nd rfl Qa Qy)
 (Q2 (QJ (i:=3) Y4.nd rfl Qa (Vj Qs))
 (Q2 (QJ (i:=4) Y4.nd rfl Qa (Q9 Xbw hr (Qo (Q9 Xby hr (Qo (pv 0) (Qo (pv 2) Qs))) (Qo (pv 1) Qs))))
 (Q2 (Jz PassesOwn.never (Vf Jp (Q9 XbK hr (Qo (pv 0) (Qo (pv 1) (Qo (pv 4) (Qo (pv 2) Qs))))) Qy (ZT _)) (Q2 (Hc (i:=2) Y4.nd rfl Qa (Q9 XbY hr (Qo (pv 0) (Qo (pv 1) (Qo (pv 4) (Qo (pv 2) Qs))))) G4)
 (Q2 (QJ (i:=3) Y4.nd rfl Qa (pv 4))
 (QB (QJ (i:=4) Y4.nd rfl Qa (Q9 Xbw hr (Qo (Q9 Xby hr (Qo (pv 0) (Qo (pv 2) Qs))) (Qo (pv 1) Qs))))))))
 (QB (QV (ZB (Qo (pv 2) (Qo (Q9 XbL hr (Qo (Q9 Xby hr (Qo (pv 0) (Qo (pv 2) Qs))) (Qo (pv 1) Qs))) (Qo (pv 3) Qs)))))))))))),?_⟩
    show Q3 K _ [some _,some _,none,none,none] _
    walk_at"x"
    have lk:∀p g,g∈gs->GOk (Zq y p) g:=fun p g h=>BF (RQ ok (hg g h) p)
    refine QI (E6 (Pn (Qu (Qq rfl) (Qu (Qq rfl) QD)) (R_refuse.mk ok hg g8 h) hst) ?_)
    refine QI (ZU (d:=.int 0) Ze ?_)
    walk_at"d"
    refine QI (VO (Yy (ds:=[]) Z2 (by decide)) ?_)
    walk_at"d"
    refine V9 3 rfl ?_
    walk_at"d"
    have low:∀{ρ:QG} {E':XK} {p:Int},ρ[0]?=some (some (.fz (QY y)))->ρ[2]?=some (some (.fz (.int p)))->Qt K (Yo (Q7 (K:=K) R_lowered) [] E' (QZ (Zc 0) (QZ (Zc 2) Zm))) ρ (QY (Zq y p)):=fun a b=>Zj (Qu (Qq a) (Qu (Qq b) QD)) (R_lowered.mk ok)
    refine QI (VS (Vh (Qu (low rfl rfl) (Qu (Qq rfl) QD)) (R_lset.mk (GL ok (Jg _)) (lk 0) g8)) (fun r hr'=>?_))
    obtain⟨φ0,es0,fb0,rfl⟩:=hr'
    walk_at"d"
    refine G6 (fun ρ'=>∃p sh,PeakOk y gs p sh/\∃u,ρ'=[some (.fz (QY y)),some (.fz (.list (gs.map QH))),some (.fz (.int p)),some (.fz (.list (QN sh))),u]) ?wh ?rt
    case rt =>
     rintro _ ⟨p,sh,pk,u,rfl⟩
     refine GH (Φ:=fun r=>∃p φ sh,PeakOk y gs p sh/\YA (Zq y p) (Q5 gs) φ/\r=.fz (.tuple [.int p,llP (VE (Zq y p) (Q5 gs) φ),.list (QN sh)])) (FY (ΦA:=fun ts=>∃φ,YA (Zq y p) (Q5 gs) φ/\ts=[.fz (.int p),.fz (llP (VE (Zq y p) (Q5 gs) φ)),.fz (.list (QN sh))]) (IR (Φ':=fun ts=>∃φ,YA (Zq y p) (Q5 gs) φ/\ts=[.fz (llP (VE (Zq y p) (Q5 gs) φ)),.fz (.list (QN sh))]) (Qq rfl) (Ed (Vh (Qu (low rfl rfl) (Qu (Qq rfl) QD)) (R_great.mk (GL ok pk.pk.nn) (lk p) g8)) (Qu (Qq rfl) QD) (fun r ⟨φ,full,e⟩=>⟨llP (VE (Zq y p) (Q5 gs) φ),by rw[e];rfl,φ,full,rfl⟩)) (fun ts ⟨φ,full,e⟩=>⟨φ,full,by rw[e]⟩)) (fun ts ⟨φ,full,e⟩=>⟨[.int p,llP (VE (Zq y p) (Q5 gs) φ),.list (QN sh)],e,by show(3:Nat)<=1000;decide,p,φ,sh,pk,full,rfl⟩)) (fun r hr'=>hr')
    case wh =>
     refine Ud (fun m ρ'=>∃p sh φ es,m=(Jm y-p).toNat/\LoopP y gs p sh/\G1 (Zq y p) (Q5 gs) φ es/\ρ'=[some (.fz (QY y)),some (.fz (.list (gs.map QH))),some (.fz (.int p)),some (.fz (.list (QN sh))),some (.ol (QN (QE gs (Zd es))))]) _ ⟨0,[],φ0,es0,rfl,⟨Jg _,fun z=>Xl z (by decide),fun _=>rfl⟩,fb0,rfl⟩ ?_
     rintro m _ ⟨p,sh,φ,es,rfl,I,fb,rfl⟩
     have nn:=I.nn
     have okp:=GL ok nn
     have sok:=GX g8 (Zd es)
     have sh0:=WV ok gs (Zd es) p
     have hw:Z4 gs (QE gs (Zd es))<=Qv (Zf y gs (QE gs (Zd es))) y.T:=by
      have:=h (Zd es)
      rw[UW]at this;omega
     refine⟨decide (Z4 gs (QE gs (Zd es))-ZN (Zf y gs (QE gs (Zd es))) y.T p > 0),?tst,fun c=>?_,fun c=>?_⟩
     case tst =>
      refine Pq 4 (r:=.ol (QN (QE gs (Zd es)))) rfl rfl ?_
      walk_at"d"
      exact Ya (Js (Zj (Qu (Qq rfl) (Qu (Qq rfl) (Qu (Qq rfl) (Qu (Qq rfl) QD)))) (R_shlow.mk ok hg sok nn)) Ze)
     ·have c:=Xz c
      have hp:=AW (g:=Zf y gs (QE gs (Zd es))) (n:=y.T) (w:=Z4 gs (QE gs (Zd es))) (p:=p) (by omega) hw
      have rp:=AN (g:=Zf y gs (QE gs (Zd es))) (n:=y.T) (w:=Z4 gs (QE gs (Zd es))) (p:=p) (by omega) hp
      obtain⟨t,ht,hlt⟩:=TF y.T hp
      have gt:=Tq ok gs (QE gs (Zd es)) ht
      have rs:=ZmF (g:=Zf y gs (QE gs (Zd es))) (n:=y.T) (w:=Z4 gs (QE gs (Zd es))) (p:=p) (j:=JP (Zf y gs (QE gs (Zd es))) y.T (Z4 gs (QE gs (Zd es))) p-1) hp (by omega) (by omega)
      refine V9 4 rfl ?_
      walk_at"d"
      refine QI (Cd rfl (Zj (Qu (Qq rfl) (Qu (Qq rfl) (Qu (Qq rfl) (Qu (Qq rfl) QD)))) (R_rise.mk ok hg sok nn hp)) ?_)
      walk_at"d"
      generalize hd:JP (Zf y gs (QE gs (Zd es))) y.T (Z4 gs (QE gs (Zd es))) p=d at rp rs;refine QI (ZU (Qq rfl) ?_)
      walk_at"d"
      refine VS (Vh (Qu (low rfl rfl) (Qu (Qq rfl) QD)) (R_lset.mk (GL ok (show 0<=p+d by omega)) (lk _) g8)) (fun r hr'=>?_)
      obtain⟨φ',es',fb',rfl⟩:=hr'
      walk_at"d"
      refine⟨(Jm y-(p+d)).toNat,by omega,p+d,_,φ',es',rfl,⟨by omega,fun _=>⟨Zd es,rfl,?_⟩,fun z=>Xl z (by omega)⟩,fb',rfl⟩
      rw[WV ok,show p+d-1=p+(d-1) by omega]
      omega
     ·have c:=YU c
      refine⟨p,sh,⟨⟨nn,fun S=>?_,fun z=>?_⟩,I.set,I.no⟩,_,rfl⟩
      ·have a:=Md fb.1 okp (Jv (lk p)) S
       have e:WJ (Zq y p) (Q5 gs) φ=Zs (Zq y p) (Q5 gs) (Zd es):=fb.1.lack okp (Jv (lk p)) fb.2.2.1 fb.2.1 fb.2.2.2
       omega
      ·obtain⟨S,_,hS⟩:=I.set z
       exact⟨S,hS⟩
 ·have h0:=h
  cases h with
  |@mk y gs ok hg g8 S h =>
    refine⟨_,(Q2 (ZV (Hu XbX hr (NL hst) (Qo (pv 0) (Qo (pv 1) Qs))))
 (PSs.nox (Q2 (QJ (i:=2) Y4.nd rfl Qa Qy)
 (Q2 (QJ (i:=3) Y4.nd rfl Qa (Vj Qs))
 (Q2 (QJ (i:=4) Y4.nd rfl Qa (Q9 Xbw hr (Qo (Q9 Xby hr (Qo (pv 0) (Qo (pv 2) Qs))) (Qo (pv 1) Qs))))
 (Q2 (Jz PassesOwn.never (Vf Jp (Q9 XbK hr (Qo (pv 0) (Qo (pv 1) (Qo (pv 4) (Qo (pv 2) Qs))))) Qy (ZT _)) (Q2 (Hc (i:=2) Y4.nd rfl Qa (Q9 XbY hr (Qo (pv 0) (Qo (pv 1) (Qo (pv 4) (Qo (pv 2) Qs))))) G4)
 (Q2 (QJ (i:=3) Y4.nd rfl Qa (pv 4))
 (QB (QJ (i:=4) Y4.nd rfl Qa (Q9 Xbw hr (Qo (Q9 Xby hr (Qo (pv 0) (Qo (pv 2) Qs))) (Qo (pv 1) Qs))))))))
 (QB (QV (ZB (Qo (pv 2) (Qo (Q9 XbL hr (Qo (Q9 Xby hr (Qo (pv 0) (Qo (pv 2) Qs))) (Qo (pv 1) Qs))) (Qo (pv 3) Qs)))))))))))),?_⟩
    show EvZ K F H _ [some _,some _,none,none,none]
    walk_at"x"
    exact FX (Ay (Qu (Qq rfl) (Qu (Qq rfl) QD)) h0 hst hq)
def JQ (y:Yd)(gs:List Gs)(r:OT):Prop:=(∃p,(∀S,Zs y (Q5 gs) S<=0)/\IsPeak y gs p/\r=.fz (.int p))\/((∃S,0<Zs y (Q5 gs) S)/\r=.fz .none)
inductive R_lwpeak:List OT->(OT->Prop)->Prop
 |mk {y:Yd} {gs:List Gs} (ok:y.Ok) (hg:∀g∈gs,g.Ok y) (g8:gs.length<=8):R_lwpeak [.fz (QY y),.fz (.list (gs.map QH))] (JQ y gs)
theorem M5:Qp ["_law_yard_here","_law_guests_here","_law_found"] ["_law_yard_here","_law_guests_here"] (Q1 KM):=by walk_at"p"
theorem IV (T:Bl mg) (XR:XC K mg "NoRoom" YR CR fR) (D:Df K mg "_law_peak" KM ["_law_yard_here","_law_guests_here"]) (Xcg:JJ P w K mg base "least_peak" ["yard","guests"] 8 (spX K CR "some" R_lpeak X_refuse)):Q0 P w K mg base "_law_peak" ["_law_yard_here","_law_guests_here"] 9 (Zt K R_lwpeak):=by
 refine D.evD M5 (fun ts Φ h=>by cases h;rfl) (fun _ _ _ _ s H E ts Φ hr h=>?_)
 cases h with
 |@mk y gs ok hg g8 =>
   refine⟨_,(Q2 (QJ (i:=2) M5.nd rfl Qa GD)
 (Q2 (Fw XR.cl rfl rfl rfl XR.m (fun D pn=>(QB (QJ (i:=2) M5.nd rfl Qa (QM (show IxR _ (rIx K) from QL) (Hu Xcg hr Io (Qo (pv 0) (Qo (pv 1) Qs))) Qy)))) (fun e pn=>(QB (QJ (i:=2) M5.nd rfl Qa GD))))
 (QB (QV (pv 2))))),?_⟩
   show Q3 K _ [some _,some _,none] _
   walk_at"x"
   refine QI (ZU (d:=.none) Gy ?_)
   walk_at"d"
   by_cases h:∀S,Zs y (Q5 gs) S<=0
   ·refine QI (CS fun E'=>VS (Fb (Φ':=fun r=>∃p,IsPeak y gs p/\r=.fz (.int p)) (Pn (Qu (Qq rfl) (Qu (Qq rfl) QD)) (R_lpeak.mk ok hg g8 h) SX) Ze (fun r hr'=>?_)) (fun r hr'=>?_))
    ·obtain⟨p,φ,sh,pk,_,rfl⟩:=hr'
     exact⟨_,_,rfl,rfl,p,pk.pk,rfl⟩
    ·obtain⟨p,pk,rfl⟩:=hr'
     walk_at"d"
     exact ZG (Qq rfl) (.inl ⟨p,h,pk,rfl⟩)
   ·obtain⟨S,hS⟩:∃S,0<Zs y (Q5 gs) S:=Classical.byContradiction fun c=>h fun S=>Int.not_lt.mp fun z=>c ⟨S,z⟩
    refine QI (Aw (C:=CR) (n:=3) (th:=Wq (tC .non) (Ws 2)) (ZU (d:=.none) Gy ?_) (fun E' F0 H0 F σ H' x St k=>?_))
    ·exact ZG (Qq rfl) (.inr ⟨⟨S,hS⟩,rfl⟩)
    ·exact Pb (F0:=F) (H0:=H') (Qu (Qq rfl) (Qu (Qq rfl) QD)) (X_refuse.mk ok hg g8 hS) SX (fun F' H'' e dct d _ x' he _=>k F' H'' e dct x' he) (QA.refl St.sub) St
def B1 (L:List (Ql)):List (Qd):=L.map fun r=>r.map PyData.int
def llD (L:List (Ql)):PyData:=.list ((B1 L).map PyData.list)
theorem CL (L:List (Ql)):(B1 L).map PyData.list=L.map fun r=>.list (r.map PyData.int):=by
 unfold B1;rw[XI];rfl
def Wo (L:List (Ql)):Ql:=L.map List.sum
def JT (gs:List Gs)(L:List (Ql)):Ql:=(gs.zip (Wo L)).map fun p=>p.1.want-p.2
theorem Zkz {gs:List Gs}{L:List (Ql)}(h:L.length=gs.length):JT gs L=(List.range gs.length).map fun k=>(gs.getD k default).want-(Wo L).getD k 0:=by
 apply MG
 ·simp[JT,Wo,h]
 ·intro i h1 h2
  have a:i<gs.length:=by simpa using h2
  have b:i<L.length:=by omega
  simp[JT,Wo,List.getD,a,b]
inductive R_totals:List OT->OT->Prop
 |mk {L:List (Ql)} (h:L.length<=1000):R_totals [.fz (llD L)] (.ol ((Wo L).map PyData.int))
theorem Zjl:Qp ["filling"] ["filling"] (Q1 M0):=by walk_at"p"
theorem Iy (T:Bl mg) (D:Df K mg "totals_of" M0 ["filling"]):Q0 P w K mg base "totals_of" ["filling"] 1 (Q7 (K:=K) R_totals):=by
 refine D.ev Zjl (fun ts r h=>by cases h;rfl) (fun _ _ _ _ s H E ts r hr h=>?_)
 cases h with
 |@mk L h =>
   refine⟨_,(QB (QV (Vq (NX:=["filling"]) (sc:=Q1 M0) (N:=["takes"]) (f:=[none]) rfl (by decide +kernel) rfl rfl (V2 (pv 0)) (fun _=>(Za (i:=0) (show(["takes"]:Qh).Nodup by decide +kernel) rfl Qa)) (fun _=>ZC) (fun _=>Vg) (fun _=>(Z5 GA (by rfl) T.sum G2 (Qo (pv 0) Qs)))))),?_⟩
   show Q3 K _ [some _] _
   walk_at"x"
   refine Wf (EvO.cast (V8 (xs:=L) (enc:=fun r=>.list (r.map PyData.int)) (h:=fun r=>.int r.sum) (EvI.cast (VQ (ds:=(B1 L).map PyData.list) (Qq rfl)) (CL L)) h ?el) (by unfold Wo;rw[XI];rfl)) rfl
   intro x hx c;refine⟨_,by walk_at"g",?_⟩
   walk_at"e"
   exact Gz (ns:=x) (Qq rfl) rfl
inductive R_lacks:List OT->OT->Prop
 |mk {gs:List Gs} {L:List (Ql)} (g8:gs.length<=8) (h:L.length<=1000):R_lacks [.fz (.list (gs.map QH)),.fz (llD L)] (.ol ((JT gs L).map PyData.int))
theorem Zk1:Qp ["guests","filling"] ["guests","filling"] (Q1 Mn):=by walk_at"p"
theorem AZ (T:Bl mg) (D:Df K mg "lacks_of" Mn ["guests","filling"]) (Xbv:Q0 P w K mg base "want_of" ["guest"] 1 (Q7 (K:=K) R_want)) (Xch:Q0 P w K mg base "totals_of" ["filling"] 1 (Q7 (K:=K) R_totals)):Q0 P w K mg base "lacks_of" ["guests","filling"] 2 (Q7 (K:=K) R_lacks):=by
 refine D.ev Zk1 (fun ts r h=>by cases h;rfl) (fun _ _ _ _ s H E ts r hr h=>?_)
 cases h with
 |@mk gs L g8 h =>
   refine⟨_,(QB (QV (Vq (NX:=["guests","filling"]) (sc:=Q1 Mn) (N:=["guest","total"]) (f:=[none,none]) rfl (by decide +kernel) rfl rfl (RD rfl T.zip (Qo (pv 0) (Qo (Q9 Xch hr (Qo (pv 1) Qs)) Qs))) (fun _=>(YJ (n:=2) rfl (ZI (Za (i:=0) (show(["guest","total"]:Qh).Nodup by decide +kernel) rfl Qa) (ZI (Za (i:=1) (show(["guest","total"]:Qh).Nodup by decide +kernel) rfl Qa) YN)))) (fun _=>(BA (n:=2) (Jy ZC (Jy ZC BM)))) (fun _=>Vg) (fun _=>(QF YI (Q9 Xbv hr (Qo (pv 0) Qs)) (pv 1)))))),?_⟩
   show Q3 K _ [some _,some _] _
   walk_at"x"
   refine Wf (EvO.cast (V8 (xs:=gs.zip (Wo L)) (enc:=fun p=>.tuple [QH p.1,.int p.2]) (h:=fun p=>.int (p.1.want-p.2)) (EvI.cast (DC (as:=gs.map QH) (bs:=(Wo L).map PyData.int) (Qu (Qq rfl) (Qu (Ub (Qu (Qq rfl) QD) (R_totals.mk h)) QD))) ?eq) (by simp;omega) ?el) (by unfold JT;rw[XI];rfl)) rfl
   case eq =>
    unfold Jk;rw[List.zip_map,XI];rfl
   case el =>
    intro x hx c;refine⟨_,by walk_at"g",?_⟩
    walk_at"e"
    exact VA (Zj (Qu (Qq rfl) QD) R_want.mk) (Qq rfl)
theorem A9 {K:W.Frag}{ρ:QG}{ta:TE}{t:TA}{d:PyData}{Φ' Φ:List OT->Prop}(h1:Qt K ta ρ d)(h2:VG K t ρ Φ')(hi:∀ts,Φ' ts->Φ (.fz d::ts)):VG K (QZ ta t) ρ Φ:=fun H0 F σ H Q S q =>
 h1 H0 F σ H _ S fun F1 H1 v x1 r1=>h2 H0 F1 σ H1 _ (S.ext x1) fun F2 H2 vs ts ht x2 r2=>q F2 H2 _ _ (hi ts ht) (x1.trans x2) (.fz (r1.mono x2.ff) r2)
theorem CY {K:W.Frag}{ρ:QG}{ta:TE}{Φ:OT->Prop}{Φ':List OT->Prop}(h:Zy K ta ρ Φ)(hi:∀r,Φ r->∃d,U6 r=some d/\Φ' [.fz d]):VG K (QZ ta Zm) ρ Φ':=fun H0 F σ H Q S q =>
 h H0 F σ H _ S fun F1 H1 v p r hr x hp ok=>by
  obtain⟨d,ed,hp'⟩:=hi r hr
  refine q (frF F1 H1 p) H1 [v] _ hp' ⟨x.hh,x.ff.trans (J0 fun a ha=>(ok.there a ha).1),UP x.fh,fun a ha=>?_⟩ (.fz (ok.frz ed) .nil)
  by_cases z:a∈p
  ·exact .inr (hp a z)
  ·rw[Y1 z]at ha;exact x.fr a ha
theorem Fu {K:W.Frag}{ρ:QG}{X:Cx}{ta:TE}{Φ Φ':OT->Prop}(h:Zy K ta ρ Φ)(hi:∀r,Φ r->∃ns:Ql,r=.ol (ns.map PyData.int)/\Φ' (.fz (.int ns.sum)))(hc:X.calm=true):Zy K (tCB (MX X) (QZ ta Zm)) ρ Φ':=fun H0 F σ H Q S q =>
 h H0 F σ H _ S fun F1 H1 v p r hr x hp ok=>by
  obtain⟨ns,rfl,hf⟩:=hi r hr
  obtain⟨a,rfl,rfl,r1,xs,r2,r3⟩:=ok
  exact⟨hc,.ref a,ns,rfl,.lst r2 (r3.mono x.fh),q F1 H1 (.int ns.sum) [] _ hf x (fun _ z=>nomatch z) ⟨rfl,.int _⟩⟩
theorem T6 (y:Yd)(G:Gv)(φ:QU Nd):(VE y G φ).length=G.m:=by simp[VE]
theorem OX (y:Yd)(gs:List Gs)(φ:QU Nd):(JT gs (VE y (Q5 gs) φ)).sum=WJ y (Q5 gs) φ:=by
 rw[Zkz (T6 y (Q5 gs) φ),Va];refine Zb fun k hk=>?_
 have e:(Wo (VE y (Q5 gs) φ)).getD k 0=Qv (fun t=>Zn (Q5 gs) φ t k) y.T:=by
  unfold Wo VE;rw[XI];have hk:k<(Q5 gs).m:=hk
  simp only[List.getD,Xk,List.getElem?_range hk,XS,Wm,Function.comp];exact Va _ _
 rw[e];rfl
inductive R_least:List OT->(OT->Prop)->Prop
 |mk {y:Yd} {gs:List Gs} (ok:y.Ok) (hg:∀g∈gs,GOk y g) (g8:gs.length<=8):R_least [.fz (QY y),.fz (.list (gs.map QH))] (fun r=>∃φ,YA y (Q5 gs) φ/\r=.fz (.int (WJ y (Q5 gs) φ)))
theorem Zil:Qp ["yard","guests"] ["yard","guests"] (Q1 K6):=by walk_at"p"
theorem Ew (T:Bl mg) (D:Df K mg "least_lack" K6 ["yard","guests"]) (Xci:Q0 P w K mg base "lacks_of" ["guests","filling"] 2 (Q7 (K:=K) R_lacks)) (XbL:Q0 P w K mg base "best_filling" ["yard","guests"] 6 (Zt K R_great)):Q0 P w K mg base "least_lack" ["yard","guests"] 7 (Zt K R_least):=by
 refine D.evD Zil (fun ts Φ h=>by cases h;rfl) (fun _ _ _ _ s H E ts Φ hr h=>?_)
 cases h with
 |@mk y gs ok hg g8 =>
   refine⟨_,(QB (QV (Z5 GA (by rfl) T.sum G2 (Qo (Q9 Xci hr (Qo (pv 1) (Qo (Q9 XbL hr (Qo (pv 0) (Qo (pv 1) Qs))) Qs))) Qs)))),?_⟩
   show Q3 K _ [some _,some _] _
   walk_at"x"
   refine GH (Φ:=fun r=>∃φ,YA y (Q5 gs) φ/\r=.fz (.int (WJ y (Q5 gs) φ))) (Fu (Φ:=fun r=>∃φ,YA y (Q5 gs) φ/\r=.ol ((JT gs (VE y (Q5 gs) φ)).map PyData.int)) (Pj (ΦA:=fun ts=>∃φ,YA y (Q5 gs) φ/\ts=[.fz (.list (gs.map QH)),.fz (llD (VE y (Q5 gs) φ))]) (A9 (Φ':=fun ts=>∃φ,YA y (Q5 gs) φ/\ts=[.fz (llD (VE y (Q5 gs) φ))]) (Qq rfl) (CY (Vh (Qu (Qq rfl) (Qu (Qq rfl) QD)) (R_great.mk ok hg g8)) (fun r ⟨φ,full,e⟩=>⟨llD (VE y (Q5 gs) φ),by rw[e];rfl,φ,full,rfl⟩)) (fun ts ⟨φ,full,e⟩=>⟨φ,full,by rw[e]⟩)) (fun ts ⟨φ,full,e⟩=>⟨_,by rw[e];exact R_lacks.mk g8 (by rw[T6];show gs.length<=1000;omega),φ,full,rfl⟩)) (fun r ⟨φ,full,e⟩=>⟨_,e,φ,full,by rw[OX]⟩) rfl) (fun r hr'=>hr')
structure IsLack (y:Yd)(gs:List Gs)(n:Int):Prop where
 top:∃S,Zs y (Q5 gs) S=n
 le:∀S,Zs y (Q5 gs) S<=n
theorem IE {y:Yd}{gs:List Gs}(ok:y.Ok)(hg:∀g∈gs,GOk y g){φ:QU Nd}(h:YA y (Q5 gs) φ):IsLack y gs (WJ y (Q5 gs) φ):=by
 obtain⟨F,es,hs,hc,hf⟩:=h
 exact⟨⟨Zd es,(F.lack ok (Jv hg) hc hs hf).symm⟩,fun S=>Md F ok (Jv hg) S⟩
theorem IsLack.uniq {y:Yd}{gs:List Gs}{n n':Int}(h:IsLack y gs n)(h':IsLack y gs n'):n=n':=by
 obtain⟨S,e⟩:=h.top
 obtain⟨S',e'⟩:=h'.top
 have a:=h'.le S
 have b:=h.le S'
 omega
theorem AJ {x y a b:Nat}(h:Nat.gcd x y=Nat.gcd a b):Nat.gcd y (x%y)=Nat.gcd a b:=by
 rw[<- h,Nat.gcd_comm x y,Nat.gcd_rec y x,Nat.gcd_comm]
def Zu (f:Fr):PyData:=.tuple [.int (f.t:Int),.int (f.b:Int)]
structure FrB (f:Fr):Prop where
 ok:f.Ok
 t:f.t<2^203
 b:f.b<=2^203
structure FrG (f:Fr):Prop where
 ok:f.Ok
 t:f.t<2^970
 b:f.b<=2^970
theorem FrB.g {f:Fr}(h:FrB f):FrG f:=⟨h.ok,Nat.lt_trans h.t (Nat.pow_lt_pow_right (by decide) (by decide)),XN h.b (MN (by decide) (by decide))⟩
theorem p2c {m:Nat}:(2:Int)^m=((2^m:Nat):Int):=by rw[Int.natCast_pow];rfl
theorem R5 {a b:Nat}(h1:a<2^16000)(h3:b<2^16000):IntMulOk (a:Int) (b:Int):=Rj (m:=16000) (n:=16000) (by omega) (by rw[p2c];exact JC.mpr h1) (by omega) (by rw[p2c];exact JC.mpr h3) (by decide)
theorem ltG {a:Nat}(h:a<=2^15600):a<2^16000:=MK h (Nat.pow_lt_pow_right (by decide) (by decide))
theorem leG {a:Nat}(h:a<=2^970):a<=2^15600:=XN h (MN (by decide) (by decide))
theorem LJ (f:Fr):Vd 1 (Zu f):=E5 (GM (BL _ _) (GM (BL _ _) Sd))
def Vm (B:Nat)(fs:List Fr):Nat:=fs.foldl (fun B f=>B*(f.b/Nat.gcd B f.b)) B
theorem AO (B:Nat)(f:Fr)(fs:List Fr):Vm B (f::fs)=Vm (B*(f.b/Nat.gcd B f.b)) fs:=rfl
theorem Zj7 (B b:Nat):b∣B*(b/Nat.gcd B b):=by
 obtain⟨c,hc⟩:=Nat.gcd_dvd_left B b
 have e:Nat.gcd B b*(b/Nat.gcd B b)=b:=Nat.mul_div_cancel' (MH B b)
 refine⟨c,?_⟩
 have q:B*(b/Nat.gcd B b)=(Nat.gcd B b*c)*(b/Nat.gcd B b):=by rw[<- hc]
 rw[q,Uz (Nat.gcd B b) c,JE,e,Uz]
theorem PZ:∀(fs:List Fr) (B:Nat),B∣Vm B fs
 |[],B=>Nat.dvd_refl _
 |f::fs,B=>Nat.dvd_trans (Nat.dvd_mul_right _ _) (PZ fs _)
theorem Ht:∀{fs:List Fr} {B:Nat} {f:Fr},f∈fs->f.b∣Vm B fs
 |g::fs,B,f,h=>by
   rcases Xg.mp h with rfl|h
   ·exact Nat.dvd_trans (Zj7 B f.b) (PZ fs _)
   ·exact Ht (fs:=fs) h
theorem Hm:∀{fs:List Fr} {B:Nat},0<B->(∀f∈fs,0<f.b)->0<Vm B fs
 |[],_,h,_=>h
 |f::fs,B,h,hf=>Hm (fs:=fs) (Nat.mul_pos h (Nat.div_pos (Nat.le_of_dvd (hf f Xd) (MH _ _)) (Nat.gcd_pos_of_pos_left _ h))) (fun g hg=>hf g (Xe _ hg))
theorem RA {e:Nat}:∀{fs:List Fr} {B c:Nat},B<=2^c->(∀f∈fs,f.b<=2^e)->Vm B fs<=2^(c+e*fs.length)
 |[],_,_,h,_=>h
 |f::fs,B,c,h,hf=>by
   have h1:B*(f.b/Nat.gcd B f.b)<=2^(c+e):=by
    rw[Nat.pow_add];exact Nat.mul_le_mul h (XN (Nat.div_le_self _ _) (hf f Xd))
   have h2:=RA (fs:=fs) h1 (fun g hg=>hf g (Xe _ hg))
   rw[AO,XJ,Nat.mul_add,Nat.mul_one,Nat.add_comm (e*fs.length),<- Nat.add_assoc];exact h2
theorem E3 {fs:List Fr}{i:Nat}{f:Fr}(h:fs[i]?=some f):Vm 1 (fs.take (i+1))=Vm 1 (fs.take i)*(f.b/Nat.gcd (Vm 1 (fs.take i)) f.b):=by
 have e:fs.take (i+1)=fs.take i++[f]:=by rw[WB,h];rfl
 rw[e];unfold Vm;rw[List.foldl_append];rfl
theorem T9 {fs:List Fr}(h:∀f∈fs,f.b<=2^970)(hl:fs.length<=16):Vm 1 fs<=2^15600 :=
 XN (RA (c:=0) (by decide) h) (MN (by decide) (by omega))
inductive R_gdiv:List OT->OT->Prop
 |mk {a b:Nat}:R_gdiv [.fz (.int (a:Int)),.fz (.int (b:Int))] (.fz (.int ((Nat.gcd a b:Nat):Int)))
theorem MC:Qp ["one","other","rest"] ["one","other"] (Q1 Ng):=by walk_at"p"
theorem Cc (T:Bl mg) (D:Df K mg "greatest_divisor" Ng ["one","other"]):Q0 P w K mg base "greatest_divisor" ["one","other"] 1 (Q7 (K:=K) R_gdiv):=by
 refine D.ev MC (fun ts r h=>by cases h;rfl) (fun _ _ _ _ s H E ts r hr h=>?_)
 cases h with
 |@mk a b =>
   refine⟨_,(Q2 (Jz PassesOwn.never (Vf NH (pv 1) Qy (ZT _)) (Q2 (QJ (i:=2) MC.nd rfl Qa (QF Vi (pv 0) (pv 1)))
 (Q2 (QJ (i:=0) MC.nd rfl Qa (pv 1))
 (QB (QJ (i:=1) MC.nd rfl Qa (pv 2))))))
 (QB (QV (pv 0)))),?_⟩
   show Q3 K _ [some _,some _,none] _
   walk_at"x"
   refine G6 (fun ρ'=>∃u:Option OT,ρ'=[some (.fz (.int ((Nat.gcd a b:Nat):Int))),some (.fz (.int 0)),u]) (Ud (fun m ρ'=>∃(x y:Nat) (u:Option OT),y=m/\Nat.gcd x y=Nat.gcd a b/\ρ'=[some (.fz (.int (x:Int))),some (.fz (.int (y:Int))),u]) b ⟨a,b,none,rfl,rfl,rfl⟩ ?w) ?z
   case w =>
    rintro m _ ⟨x,y,u,rfl,hg,rfl⟩
    refine⟨_,by walk_at"et",fun c=>?_,fun c=>?_⟩
    ·have c:¬(y:Int)=0:=by simpa using c
     have y0:0<y:=by omega
     have y1:(0:Int)<(y:Int):=by omega
     walk_at"ss"
     exact⟨x%y,Nat.mod_lt _ y0,y,x%y,_,rfl,AJ hg,rfl⟩
    ·have c:(y:Int)=0:=by simpa using c
     have y0:y=0:=by omega
     subst y0;rw[Nat.gcd_zero_right]at hg;rw[hg];exact⟨u,rfl⟩
   case z =>
    rintro _ ⟨u,rfl⟩
    walk_at"ret"
    rfl
inductive R_cbot:List OT->OT->Prop
 |mk {fs:List Fr} (h:∀f∈fs,0<f.b/\f.b<=2^970) (hl:fs.length<=16):R_cbot [.fz (.list (fs.map Zu))] (.fz (.int (Vm 1 fs:Int)))
theorem MD:Qp ["parts","bottom","part"] ["parts"] (Q1 Nh):=by walk_at"p"
theorem Al (T:Bl mg) (D:Df K mg "common_bottom" Nh ["parts"]) (XbR:Q0 P w K mg base "greatest_divisor" ["one","other"] 1 (Q7 (K:=K) R_gdiv)):Q0 P w K mg base "common_bottom" ["parts"] 2 (Q7 (K:=K) R_cbot):=by
 refine D.ev MD (fun ts r h=>by cases h;rfl) (fun _ _ _ _ s H E ts r hr h=>?_)
 cases h with
 |@mk fs h hl =>
   refine⟨_,(Q2 (QJ (i:=1) MD.nd rfl Qa Qy)
 (Q2 (VB PassesOwn.never rfl (V2 (pv 0)) (Za (i:=2) MD.nd rfl Qa) (QB (Hc (i:=1) MD.nd rfl Qa (QF Vk (QM QL (pv 2) Qy) (Q9 XbR hr (Qo (pv 1) (Qo (QM QL (pv 2) Qy) Qs)))) Ai)))
 (QB (QV (pv 1))))),?_⟩
   show Q3 K _ [some _,none,none] _
   walk_at"x"
   refine QI (ZU (d:=.int 1) Ze ?_)
   walk_at"d"
   refine QI (Wj (ds:=fs.map Zu) (fun i=>[some (.fz (.list (fs.map Zu))),some (.fz (.int (Vm 1 (fs.take i):Int))),none]) ?ei ⟨rfl,rfl,trivial⟩ ?st ?fin)
   case ei=>exact VQ (Qq rfl)
   case st =>
    intro i d hd;have hi:i<fs.length:=by
     have:=(Xh.mp hd).1
     simpa using this
    obtain rfl:d=Zu fs[i]:=by simpa [hi] using hd.symm
    have hm:=h fs[i] (XL hi)
    have hp:Vm 1 (fs.take i)<=2^15600:=T9 (fun f hf=>(h f (List.mem_of_mem_take hf)).2) (by rw[Ux];omega)
    have hp0:0<Vm 1 (fs.take i):=Hm (by decide) (fun f hf=>(h f (List.mem_of_mem_take hf)).1)
    have et:=E3 (Xx hi)
    rw[et];generalize Vm 1 (fs.take i)=B at hp hp0;refine⟨_,by walk_at"g",?_⟩
    walk_at"d"
    have g0:0<Nat.gcd B fs[i].b:=Nat.gcd_pos_of_pos_left _ hp0
    have g1:Nat.gcd B fs[i].b<=2^970:=XN (Nat.le_of_dvd hm.1 (MH _ _)) hm.2
    have cb:Wv (fs[i].b:Int) ((Nat.gcd B fs[i].b:Nat):Int):=⟨by omega,by
     have:((Nat.gcd B fs[i].b:Nat):Int)<=((2^970:Nat):Int):=Ga.mpr g1
     exact X9 this (by decide +kernel)⟩
    have qb:fs[i].b/Nat.gcd B fs[i].b<=2^970:=XN (Nat.div_le_self _ _) hm.2
    refine Cj (m:=(B:Int)) (n:=((fs[i].b/Nat.gcd B fs[i].b:Nat):Int)) rfl (Qt.cast (ZS (Yh (ds:=[.int (fs[i].t:Int),.int (fs[i].b:Int)]) (Qq rfl) Ze rfl) (Zj (Qu (Qq rfl) (Qu (Yh (ds:=[.int (fs[i].t:Int),.int (fs[i].b:Int)]) (Qq rfl) Ze rfl) QD)) R_gdiv.mk) cb) rfl) (R5 (ltG hp) (ltG (leG qb))) ?_
    walk_at"d"
    refine⟨rfl,?_,trivial⟩
    rw[Jf]
   case fin =>
    intro ρ' hf;refine Wx hf ?_
    rw[Xm,Wn];exact ZG (Qq rfl) rfl
def Vy (B:Nat)(f:Fr):Int:=(phi B f:Int)
inductive R_tops:List OT->OT->Prop
 |mk {fs:List Fr} {B:Nat} (h:∀f∈fs,FrG f) (hd:∀f∈fs,f.b∣B) (hB:0<B) (h2:B<=2^15600) (hl:fs.length<=8):R_tops [.fz (.list (fs.map Zu)),.fz (.int (B:Int))] (.ol (((YD fs).map (Vy B)).map PyData.int))
theorem ZiR:Qp ["parts","bottom"] ["parts","bottom"] (Q1 Mz):=by walk_at"p"
theorem Aj (T:Bl mg) (D:Df K mg "tops_over" Mz ["parts","bottom"]):Q0 P w K mg base "tops_over" ["parts","bottom"] 1 (Q7 (K:=K) R_tops):=by
 refine D.ev ZiR (fun ts r h=>by cases h;rfl) (fun _ _ _ _ s H E ts r hr h=>?_)
 cases h with
 |@mk fs B h hd hB h2 hl =>
   refine⟨_,(QB (QV (Z5 IK (by rfl) T.sorted IG (Qo (Vq (NX:=["parts","bottom"]) (sc:=Q1 Mz) (N:=["part","bottom"]) (f:=[none,some 1]) rfl (by decide +kernel) rfl rfl (V2 (pv 0)) (fun _=>(Za (i:=0) (show(["part","bottom"]:Qh).Nodup by decide +kernel) rfl Qa)) (fun _=>ZC) (fun _=>Vg) (fun _=>(QF WS (QM QL (pv 0) Qy) (QF Vk (pv 1) (QM QL (pv 0) Qy))))) Qs)))),?_⟩
   show Q3 K _ [some _,some _] _
   walk_at"x"
   refine Wf (IM (ns:=fs.map (Vy B)) (ms:=(YD fs).map (Vy B)) (Qt.cast (EvO.fz (V8 (xs:=fs) (enc:=Zu) (h:=fun f=>.int (Vy B f)) ?ei (by omega) ?el)) (by rw[XI];rfl)) ((GY fs).map _) ?so (by rw[Xm];omega)) rfl
   case ei=>exact VQ (Qq rfl)
   case so =>
    rw[List.pairwise_map];exact(ZlS hB fun g hg=>⟨hd g hg,(h g hg).ok.1⟩).imp fun{a b} z=>Ga.mpr z
   case el =>
    intro x hx c;have hm:=h x hx
    have b0:=hm.ok.1
    refine⟨_,by walk_at"g",?_⟩
    walk_at"e"
    have cb:Wv (B:Int) (x.b:Int):=⟨by omega,by
     have:(x.b:Int)<=((2^970:Nat):Int):=Ga.mpr hm.b
     exact X9 this (by decide +kernel)⟩
    have q:B/x.b<=2^15600:=XN (Nat.div_le_self _ _) h2
    have mk:=R5 (a:=x.t) (b:=B/x.b) (ltG (leG (XZ hm.t))) (ltG q)
    exact Qt.cast (ZS (Yh (ds:=[.int (x.t:Int),.int (x.b:Int)]) (Qq rfl) Ze rfl) (Qt.cast (d':=.int ((B/x.b:Nat):Int)) (ZS (Qq rfl) (Yh (ds:=[.int (x.t:Int),.int (x.b:Int)]) (Qq rfl) Ze rfl) cb) rfl) mk) (by unfold Vy phi;rw[Jf])
theorem Sm {B:Nat}(hB:0<B):∀{as bs:List Fr},(∀f∈as,f.Ok/\f.b∣B)->(∀f∈bs,f.Ok/\f.b∣B)->Wc (as.map (Vy B)) (bs.map (Vy B))=Gn as bs
 |[],[],_,_=>rfl
 |[],_::_,_,_=>rfl
 |_::_,[],_,_=>rfl
 |f::as,g::bs,ha,hb=>by
   obtain⟨k1,k2⟩:=Ex hB (ha f Xd).1 (hb g Xd).1 (ha f Xd).2 (hb g Xd).2
   have k1:Vy B f=Vy B g↔f=g:=k1
   have k2:Vy B g<Vy B f↔g.t*f.b<f.t*g.b:=k2
   have ih:=Sm hB (as:=as) (bs:=bs) (fun f hf=>ha f (Xe _ hf)) (fun f hf=>hb f (Xe _ hf))
   show(if Vy B f=Vy B g then Wc (as.map (Vy B)) (bs.map (Vy B)) else decide (Vy B g<Vy B f))=if f=g then Gn as bs else decide (g.t*f.b<f.t*g.b)
   by_cases e:f=g
   ·rw[Xc e,Xc (k1.mpr e),ih]
   ·rw[Xb e,Xb (fun z=>e (k1.mp z))]
    exact decide_eq_decide.mpr k2
inductive R_fairer:List OT->OT->Prop
 |mk {as bs:List Fr} (ha:∀f∈as,FrG f) (hb:∀f∈bs,FrG f) (hl:as.length=bs.length) (h8:as.length<=8):R_fairer [.fz (.list (as.map Zu)),.fz (.list (bs.map Zu))] (.fz (.bool (Gn (YD as) (YD bs))))
theorem Lq:Qp ["one","other","bottom"] ["one","other"] (Q1 KC):=by walk_at"p"
theorem Oo (T:Bl mg) (D:Df K mg "is_fairer" KC ["one","other"]) (Xcj:Q0 P w K mg base "common_bottom" ["parts"] 2 (Q7 (K:=K) R_cbot)) (XbZ:Q0 P w K mg base "tops_over" ["parts","bottom"] 1 (Q7 (K:=K) R_tops)):Q0 P w K mg base "is_fairer" ["one","other"] 3 (Q7 (K:=K) R_fairer):=by
 refine D.ev Lq (fun ts r h=>by cases h;rfl) (fun _ _ _ _ s H E ts r hr h=>?_)
 cases h with
 |@mk as bs ha hb hl h8 =>
   have hu:=hr.units
   refine⟨_,(Q2 (QJ (i:=2) Lq.nd rfl Qa (Q9 Xcj hr (Qo (QF DW (pv 0) (pv 1)) Qs)))
 (QB (QV (GN (C0 hu) (Q9 XbZ hr (Qo (pv 0) (Qo (pv 2) Qs))) (Q9 XbZ hr (Qo (pv 1) (Qo (pv 2) Qs))) (ZT _))))),?_⟩
   show Q3 K _ [some _,some _,none] _
   walk_at"x"
   have hab:∀f∈as++bs,FrG f:=fun f hf=>by
    rcases XG.mp hf with hf|hf
    ·exact ha f hf
    ·exact hb f hf
   have l16:(as++bs).length<=16:=by rw[Xq];omega
   refine QI (ZU (Zj (Qu (Qt.cast (d':=.list ((as++bs).map Zu)) (EvO.fz (B2 (as:=as.map Zu) (bs:=bs.map Zu) (Qq rfl) (Qq rfl) (by simp;omega))) (by rw[Xy])) QD) (R_cbot.mk (fun f hf=>⟨(hab f hf).ok.1,(hab f hf).b⟩) l16)) ?_)
   walk_at"d"
   have hB:0<Vm 1 (as++bs):=Hm (by decide) fun f hf=>(hab f hf).ok.1
   have h2:=T9 (fun f hf=>(hab f hf).b) l16
   have da:∀f∈as,f.b∣Vm 1 (as++bs):=fun f hf=>Ht (JA _ hf)
   have db:∀f∈bs,f.b∣Vm 1 (as++bs):=fun f hf=>Ht (XT _ hf)
   generalize Vm 1 (as++bs)=B at hB h2 da db;refine ZG (F6 (ns:=(YD as).map (Vy B)) (ms:=(YD bs).map (Vy B)) (Ub (Qu (Qq rfl) (Qu (Qq rfl) QD)) (R_tops.mk ha da hB h2 h8)) (Ub (Qu (Qq rfl) (Qu (Qq rfl) QD)) (R_tops.mk hb db hB h2 (by omega))) (by rw[Xm,Xm,(GY as).length_eq,(GY bs).length_eq,hl])) ?_
   rw[Sm hB (fun f hf=>have m:=(GY as).mem_iff.mp hf;⟨(ha f m).ok,da f m⟩) (fun f hf=>have m:=(GY bs).mem_iff.mp hf;⟨(hb f m).ok,db f m⟩)]
def frT (t:Int)(b:Nat):Int:=t/((Nat.gcd t.natAbs b:Nat):Int)
def frB (t:Int)(b:Nat):Nat:=b/Nat.gcd t.natAbs b
theorem HV (t:Int){b:Nat}(h0:0<b):∃g:Nat,0<g/\g<=b/\Nat.gcd t.natAbs b=g/\t=(g:Int)*frT t b/\b=g*frB t b/\0<frB t b/\Nat.gcd (frT t b).natAbs (frB t b)=1:=by
 have hg:0<Nat.gcd t.natAbs b:=Nat.gcd_pos_of_pos_right _ h0
 have d1:Nat.gcd t.natAbs b∣t.natAbs:=Nat.gcd_dvd_left _ _
 have d2:Nat.gcd t.natAbs b∣b:=MH _ _
 have d3:((Nat.gcd t.natAbs b:Nat):Int)∣t:=Int.ofNat_dvd_left.mpr d1
 have e1:((Nat.gcd t.natAbs b:Nat):Int)*frT t b=t:=Int.mul_ediv_cancel' d3
 have e2:Nat.gcd t.natAbs b*frB t b=b:=Nat.mul_div_cancel' d2
 have e3:t.natAbs=Nat.gcd t.natAbs b*(frT t b).natAbs:=by
  have:=ZD Int.natAbs e1
  rw[Int.natAbs_mul,Int.natAbs_natCast]at this;exact this.symm
 have p0:0<frB t b:=Nat.pos_of_ne_zero fun z=>by rw[z,Nat.mul_zero]at e2;omega
 refine⟨Nat.gcd t.natAbs b,hg,Nat.le_of_dvd h0 d2,rfl,e1.symm,e2.symm,p0,?_⟩
 have e4:Nat.gcd (Nat.gcd t.natAbs b*(frT t b).natAbs) (Nat.gcd t.natAbs b*frB t b)=Nat.gcd t.natAbs b:=by rw[<- e3,e2]
 rw[Nat.gcd_mul_left]at e4;exact Nat.eq_of_mul_eq_mul_left hg (by rw[Nat.mul_one];exact e4)
theorem ZjT (t:Int):ZgT t=((t.natAbs:Nat):Int):=by
 unfold ZgT;split<;>omega
inductive R_frac:List OT->OT->Prop
 |mk {t:Int} {b:Nat} (h0:0<b) (h1:(b:Int)<2^8000):R_frac [.fz (.int t),.fz (.int (b:Int))] (.fz (.tuple [.int (frT t b),.int (frB t b:Int)]))
theorem Ld:Qp ["top","bottom","divisor"] ["top","bottom"] (Q1 Kw):=by walk_at"p"
theorem CT (T:Bl mg) (D:Df K mg "fraction" Kw ["top","bottom"]) (XbR:Q0 P w K mg base "greatest_divisor" ["one","other"] 1 (Q7 (K:=K) R_gdiv)):Q0 P w K mg base "fraction" ["top","bottom"] 2 (Q7 (K:=K) R_frac):=by
 refine D.ev Ld (fun ts r h=>by cases h;rfl) (fun _ _ _ _ s H E ts r hr h=>?_)
 cases h with
 |@mk t b h0 h1 =>
   refine⟨_,(Q2 (QJ (i:=2) Ld.nd rfl Qa (Q9 XbR hr (Qo (Z5 BK (by rfl) T.abs BH (Qo (pv 0) Qs)) (Qo (pv 1) Qs))))
 (QB (QV (ZB (Qo (QF Vk (pv 0) (pv 2)) (Qo (QF Vk (pv 1) (pv 2)) Qs)))))),?_⟩
   show Q3 K _ [some _,some _,none] _
   walk_at"x"
   obtain⟨g,g1,g2,e,_⟩:=HV t h0
   have e0:PyData.int (ZgT t)=PyData.int ((t.natAbs:Nat):Int):=by rw[ZjT]
   refine QI (ZU (Zj (Qu (Qt.cast (d:=.int (ZgT t)) (by walk_at"ev") e0) (Qu (by walk_at"ev") QD)) R_gdiv.mk) ?_)
   walk_at"d"
   have c1:Wv t ((Nat.gcd t.natAbs b:Nat):Int):=⟨by omega,by omega⟩
   have c2:Wv (b:Int) ((Nat.gcd t.natAbs b:Nat):Int):=⟨by omega,by omega⟩
   refine ZG (V0 (Zl (ZS (Qq rfl) (Qq rfl) c1) (Zl (ZS (Qq rfl) (Qq rfl) c2) Z2)) YB) ?_
   rfl
def QO (y:Yd)(gs:List Gs)(S:Qm):Int:=Vb y gs (QE gs S)
def Q6 (gs:List Gs)(k:Nat):Int:=(gs.getD k default).want
def Q4 (sm:Qk):Qm:=fun k=>decide (k∈sm)
theorem HY {gs:List Gs}{S U:Qm}(h:∀k,k<gs.length->S k=U k):QE gs S=QE gs U:=List.filter_congr fun k hk=>h k (Xr.mp hk)
theorem Fc {y:Yd}{gs:List Gs}(ok:y.Ok)(hg:∀g∈gs,g.Ok y):Giv gs.length (Q6 gs) (QO y gs) where
 w1 k hk:=by
  show 1<=(gs.getD k default).want
  rw[YO hk];exact(hg _ (XL hk)).w1
 g0 S hS:=by
  unfold QO;have e:QE gs S=[]:=List.filter_eq_nil_iff.mpr fun k hk=>by rw[hS k (Xr.mp hk)];decide
  rw[e];exact Na ok gs
 nn S:=by
  have e:Vb y gs []=0:=Na ok gs
  unfold QO;rw[<- e];unfold Vb;rw[Va,Va];refine Vs fun t _=>ZkC (fun _=>Jg _) (fun l=>?_) 0
  show(0:Int)<=Zr gs (t:Int) l ((List.range gs.length).filter S)
  rw[Bb];refine GG fun k hk=>?_
  split
  ·unfold wgt
   cases e:gs[k]? with
   |none=>simp
   |some g =>
     have:=(hg g (List.mem_of_getElem? e)).m1
     dsimp only;split<;>omega
  ·exact Jg _
 ext S U h:=by
  unfold QO;rw[HY h]
 sub S U:=by
  unfold QO Vb;rw[Va,Va,Va,Va,<- W4,<- W4];exact Vs fun t _=>ZkG (y:=y) (c:=fun k=>Zg y k t) (AQ (gs:=gs) (fun g h=>(hg g h).m1) (t:Int) S U gs.length)
theorem OH (gs:List Gs)(t:Int)(l:Nat){a b:Qk}(h:a.Perm b):Zr gs t l a=Zr gs t l b:=by
 induction h with
 |nil=>rfl
 |cons x _ ih=>simp only[Zr,ih]
 |swap x z r=>simp only[Zr];omega
 |trans _ _ h1 h2=>rw[h1,h2]
theorem P1 (f:Qn){a b:Qk}(h:a.Perm b):(a.map f).sum=(b.map f).sum:=by
 induction h with
 |nil=>rfl
 |cons x _ ih=>simp only[Xt,WA,ih]
 |swap x z r=>simp only[Xt,WA];omega
 |trans _ _ h1 h2=>rw[h1,h2]
structure NdS (gs:List Gs)(sm:Qk):Prop where
 mem:∀k∈sm,k<gs.length
 nd:sm.Nodup
theorem NdS.perm {gs:List Gs}{sm:Qk}(h:NdS gs sm):sm.Perm (QE gs (Q4 sm)):=by
 refine(List.perm_ext_iff_of_nodup h.nd (Bn.filter _)).mpr fun k=>?_
 rw[X6,Xr];unfold Q4;rw[decide_eq_true_eq];exact⟨fun z=>⟨h.mem k z,z⟩,fun z=>z.2⟩
theorem NdS.ok {gs:List Gs}{sm:Qk}(h:NdS gs sm)(g8:gs.length<=8):SetOk gs sm:=⟨h.mem,by
 have:=h.perm.length_eq
 have h2:=(GX g8 (Q4 sm)).len
 omega⟩
theorem NdS.given {y:Yd}{gs:List Gs}{sm:Qk}(h:NdS gs sm):Vb y gs sm=QO y gs (Q4 sm):=by
 unfold QO Vb;congr 1
 refine X4 fun t _=>?_
 unfold Zf;rw[show VZ gs t sm=VZ gs t (QE gs (Q4 sm)) from funext fun l=>OH gs (t:Int) l h.perm]
theorem NdS.wants {gs:List Gs}{sm:Qk}(h:NdS gs sm):(sm.map (Q6 gs)).sum=wS gs.length (Q6 gs) (Q4 sm):=by
 rw[P1 (Q6 gs) h.perm];exact Ba (Q6 gs) (Q4 sm) gs.length
theorem Lj (a b:Qk)(k:Nat):Q4 (a++b) k=(Q4 a k||Q4 b k):=by
 unfold Q4;by_cases h1:k∈a<;>by_cases h2:k∈b<;>simp[h1,h2]
theorem TK {y:Yd}{gs:List Gs}(a b:Qk):QO y gs (Q4 (a++b))=QO y gs (fun k=>Q4 a k||Q4 b k):=by
 unfold QO;rw[HY fun k _=>Lj a b k]
def Vo (p q:Int)(g:Gs):Gs:=⟨g.line,g.first,g.last,g.want*p,g.most*q⟩
theorem Tg (gs:List Gs)(p q:Int)(t:Int)(l:Nat):∀sm:Qk,Zr (gs.map (Vo p q)) t l sm=Zr gs t l sm*q
 |[]=>by simp[Zr]
 |j::r=>by
   simp only[Zr];rw[Tg gs p q t l r,Uq];congr 1
   rw[Xk];cases gs[j]? with
   |none=>simp
   |some g =>
     simp only[XS];by_cases h:g.line=l/\V3 g t=true
     ·rw[Xc (show(Vo p q g).line=l/\V3 (Vo p q g) t=true from h),Xc h]
      rfl
     ·rw[Xb (show ¬((Vo p q g).line=l/\V3 (Vo p q g) t=true) from h),Xb h]
      simp
theorem Zia {y:Yd}(gs:List Gs)(sm:Qk){p q:Int}(h:0<=q):Vb (Zp y q) (gs.map (Vo p q)) sm=q*Vb y gs sm:=by
 rw[Vb,Vb,Va,Va,<- Jb];refine Zb fun t _=>?_
 unfold Zf VZ;have hu:∀j,QS (Zp y q) j=QS y j:=fun j=>by
  simp only[QS,Zp,Xk];cases y.ls[j]?<;>rfl
 have hb:(fun j=>Zg (Zp y q) j t)=fun j=>Zg y j t*q:=by
  funext j
  simp only[Zg,Zp,Xk];cases y.ls[j]? with
  |none=>simp
  |some ln =>
    simp only[XS,Wm,Jw,List.getD,Xk];cases ln.bs[t]?<;>simp
 have ho:(fun l=>Zr (gs.map (Vo p q)) (t:Int) l sm)=fun l=>Zr gs (t:Int) l sm*q:=by
  funext l
  exact Tg gs p q t l sm
 rw[hb,ho,TU h hu (by simp[Zp]),XD]
theorem Oa (gs:List Gs)(p q:Int)(S:Qm):Z4 (gs.map (Vo p q)) (QE gs S)=p*wS gs.length (Q6 gs) S:=by
 unfold Z4;have e:((QE gs S).map fun k=>((gs.map (Vo p q)).getD k default).want)=(QE gs S).map fun k=>p*Q6 gs k:=X4 fun k hk=>by
  have hk':k<gs.length:=Xr.mp (X6.mp hk).1
  unfold Q6;simp only[List.getD,Xk,Xx hk',XS,Wm];exact XD _ _
 rw[e];unfold wS;rw[<- Jb];have h:=Ba (fun k=>p*Q6 gs k) S gs.length
 have h2:Qv (Zh S fun k=>p*Q6 gs k) gs.length=Qv (fun k=>p*Zh S (Q6 gs) k) gs.length:=Zb fun k _=>by
  unfold Zh;dsimp only;split
  ·rfl
  ·simp
 rw[<- h2];exact h
theorem PX {gs gs':List Gs}(h:gs'.length=gs.length)(S:Qm):QE gs' S=QE gs S:=by
 unfold QE;rw[h]
theorem Ci {y:Yd}{gs:List Gs}{p q:Int}(hq:0<=q)(ok':(Zp y q).Ok)(hg':∀g∈gs.map (Vo p q),GOk (Zp y q) g){φ:QU Nd}{es:Got Nd}(h:G1 (Zp y q) (Q5 (gs.map (Vo p q))) φ es)(U:Qm) :
 p*wS gs.length (Q6 gs) U-q*QO y gs U<=p*wS gs.length (Q6 gs) (Zd es)-q*QO y gs (Zd es):=by
 have e:∀S,Zs (Zp y q) (Q5 (gs.map (Vo p q))) S=p*wS gs.length (Q6 gs) S-q*QO y gs S:=fun S=>by
  rw[Wk,PX (gs:=gs) (gs':=gs.map (Vo p q)) (by simp) S,Oa,Zia gs _ hq]
  rfl
 rw[<- e,<- e];have h1:=Md h.1 ok' (Jv hg') U
 have h2:WJ (Zp y q) (Q5 (gs.map (Vo p q))) φ=Zs (Zp y q) (Q5 (gs.map (Vo p q))) (Zd es):=h.1.lack ok' (Jv hg') h.2.2.1 h.2.1 h.2.2.2
 omega
structure Sml (y:Yd)(gs:List Gs):Prop where
 ok:y.Ok
 hg:∀g∈gs,g.Ok y
 g8:gs.length<=8
 b30:∀l∈y.ls,∀b∈l.bs,b<10^60
 w30:∀g∈gs,g.want<10^60/\g.most<10^60
theorem Sml.giv {y:Yd}{gs:List Gs}(h:Sml y gs):Giv gs.length (Q6 gs) (QO y gs):=Fc h.ok h.hg
inductive R_wwant:List OT->OT->Prop
 |mk {g:Gs} {n:Int}:R_wwant [.fz (QH g),.fz (.int n)] (.fz (QH ⟨g.line,g.first,g.last,n,g.most⟩))
theorem ZiV:Qp ["guest","want"] ["guest","want"] (Q1 KH):=by walk_at"p"
theorem AV (T:Bl mg) (D:Df K mg "with_want" KH ["guest","want"]):Q0 P w K mg base "with_want" ["guest","want"] 1 (Q7 (K:=K) R_wwant):=by
 refine D.ev ZiV (fun ts r h=>by cases h;rfl) (fun _ _ _ _ s H E ts r hr h=>?_)
 cases h with
 |@mk g n =>
   refine⟨_,(QB (QV (ZB (Qo (QM QL (pv 0) Qy) (Qo (QM QL (pv 0) Qy) (Qo (QM QL (pv 0) Qy) (Qo (pv 1) (Qo (QM QL (pv 0) Qy) Qs)))))))),?_⟩
   show Q3 K _ [some _,some _] _
   walk_at"x"
   have ix:∀{ρ:QG} {k:Int} {d:PyData},ρ[0]?=some (some (.fz (QH g)))->atI [.int (g.line:Int),.int (g.first:Int),.int (g.last:Int),.int g.want,.int g.most] k=some d->Qt K (tOp (rIx K) (Zc 0) (tC (.int k))) ρ d:=fun e h=>Yh (ds:=[.int (g.line:Int),.int (g.first:Int),.int (g.last:Int),.int g.want,.int g.most]) (Qq e) Ze h
   exact ZG (V0 (Zl (ix rfl rfl) (Zl (ix rfl rfl) (Zl (ix rfl rfl) (Zl (Qq rfl) (Zl (ix rfl rfl) Z2))))) (by show(5:Nat)<=1000;decide)) rfl
inductive R_asking:List OT->OT->Prop
 |mk {gs:List Gs} {p q:Int} (q1:1<=q) (q2:q<10^100) (p0:0<=p) (p2:p<10^100) (hw:∀g∈gs,(0<=g.want/\g.want<10^100)/\0<=g.most/\g.most<10^100) (g8:gs.length<=8) :
  R_asking [.fz (.list (gs.map QH)),.fz (.list (gs.map fun g=>.tuple [.int (g.want*p),.int q])),.fz (.int q)] (.ol ((gs.map (Vo p q)).map QH))
theorem RJ {a b:Int}(h0:0<=a)(h1:a<10^100)(h2:0<=b)(h3:b<10^100):0<=a*b/\a*b<10^200:=by
 refine⟨JF h0 h2,?_⟩
 have e1:a*b<=(10^100-1)*(10^100-1):=Bk (by omega) (by omega) h2 (by decide +kernel)
 exact X9 e1 (by decide +kernel)
theorem WW {a:Int}(h:a<10^100):a<10^300:=WE h (by decide +kernel)
theorem Ps {a:Int}(h:a<10^200):a<10^300:=WE h (by decide +kernel)
theorem C4 (gs:List Gs)(p q:Int):Jk ((gs.map fun g=>Z8 g q).map QH) (gs.map fun g=>PyData.int (g.want*p))=gs.map fun g=>.tuple [QH (Z8 g q),.int (g.want*p)]:=by
 unfold Jk;rw[XI];induction gs with
 |nil=>rfl
 |cons g gs ih =>
   simp only[Xt,List.zip_cons_cons];rw[ih];rfl
theorem Tk:Qp ["guests","totals","k","wants"] ["guests","totals","k"] (Q1 GW):=by walk_at"p"
theorem Ot (T:Bl mg) (D:Df K mg "asking" GW ["guests","totals","k"]) (XbS:Q0 P w K mg base "guests_times" ["guests","k"] 2 (Q7 (K:=K) R_gsstimes)) (Xck:Q0 P w K mg base "with_want" ["guest","want"] 1 (Q7 (K:=K) R_wwant)):Q0 P w K mg base "asking" ["guests","totals","k"] 3 (Q7 (K:=K) R_asking):=by
 refine D.ev Tk (fun ts r h=>by cases h<;>rfl) (fun _ _ _ _ s H E ts r hr h=>?_)
 refine⟨_,(Q2 (GQ (i:=3) Tk.nd rfl rfl (NX:=["guests","totals","k","wants"]) (sc:=Q1 GW) (N:=["total","k"]) (f:=[none,some 2]) rfl (by decide +kernel) rfl rfl (V2 (pv 1)) (fun _=>(Za (i:=0) (show(["total","k"]:Qh).Nodup by decide +kernel) rfl Qa)) (fun _=>ZC) (fun _=>Vg) (fun _=>(QF Vk (QF WS (QM QL (pv 0) Qy) (pv 1)) (QM QL (pv 0) Qy))) rfl)
 (QB (QV (Vq (NX:=["guests","totals","k","wants"]) (sc:=Q1 GW) (N:=["guest","want"]) (f:=[none,none]) rfl (by decide +kernel) rfl rfl (RD rfl T.zip (Qo (Q9 XbS hr (Qo (pv 0) (Qo (pv 2) Qs))) (Qo (pv 3) Qs))) (fun _=>(YJ (n:=2) rfl (ZI (Za (i:=0) (show(["guest","want"]:Qh).Nodup by decide +kernel) rfl Qa) (ZI (Za (i:=1) (show(["guest","want"]:Qh).Nodup by decide +kernel) rfl Qa) YN)))) (fun _=>(BA (n:=2) (Jy ZC (Jy ZC BM)))) (fun _=>Vg) (fun _=>(Q9 Xck hr (Qo (pv 0) (Qo (pv 1) Qs)))))))),?_⟩
 cases h with
 |@mk gs p q q1 q2 p0 p2 hw g8 =>
   show Q3 K _ [some _,some _,some _,none] _
   walk_at"x"
   refine QI (VO (V8 (xs:=gs) (enc:=fun g=>.tuple [.int (g.want*p),.int q]) (h:=fun g=>.int (g.want*p)) ?ei (by omega) ?el) ?_)
   case ei=>exact VQ (Qq rfl)
   case el =>
    intro g hg c;obtain⟨⟨w0,w1⟩,m0,m1⟩:=hw g hg
    have m:=RJ w0 w1 p0 p2
    refine⟨_,Zw,?_⟩
    walk_at"e"
    have cd:Wv (g.want*p*q) q:=⟨by omega,WE q2 (by decide +kernel)⟩
    exact Qt.cast (ZS (ZS (Yh (ds:=[.int (g.want*p),.int q]) (Qq rfl) Ze rfl) (Qq rfl) (W0 m.1 (Ps m.2) (by omega) (WW q2))) (Yh (ds:=[.int (g.want*p),.int q]) (Qq rfl) Ze rfl) cd) (by rw[Int.mul_ediv_cancel _ (by omega)])
   walk_at"d"
   refine V9 3 rfl ?_
   walk_at"d"
   refine Wf (V8 (xs:=gs) (enc:=fun g=>.tuple [QH (Z8 g q),.int (g.want*p)]) (h:=fun g=>QH (Vo p q g)) ?ei2 (by omega) ?el2) (by rw[XI];rfl)
   case ei2 =>
    refine EvI.cast (DC (Qu (Ub (Qu (Qq rfl) (Qu (Qq rfl) QD)) (R_gsstimes.mk (k:=q) (fun g hg=>?_) g8)) (Qu (Qq rfl) QD))) (C4 gs p q)
    obtain⟨⟨w0,w1⟩,m0,m1⟩:=hw g hg
    exact⟨W0 w0 (WW w1) (by omega) (WW q2),W0 m0 (WW m1) (by omega) (WW q2)⟩
   case el2 =>
    intro g hg c;refine⟨_,Wr (ds:=[QH (Z8 g q),.int (g.want*p)]) (Vr Zw (Vr Zw WN)) rfl,?_⟩
    walk_at"e"
    exact Zj (Qu (Qq rfl) (Qu (Qq rfl) QD)) (R_wwant.mk (g:=Z8 g q))
def shF (n m:Nat):Fr:=⟨(frT (n:Int) m).natAbs,frB (n:Int) m⟩
theorem G5 {n m:Nat}(h:0<m):(shF n m).Ok/\((shF n m).t:Int)=frT (n:Int) m/\((shF n m).t:Int)*(m:Int)=((shF n m).b:Int)*(n:Int)/\(shF n m).b<=m:=by
 obtain⟨g,g1,g2,e,et,eb,p0,cp⟩:=HV (n:Int) h
 have n0:0<=frT (n:Int) m:=Bq (show(g:Int)*0<=(g:Int)*frT (n:Int) m by rw[Int.mul_zero,<- et];omega) (by omega)
 have en:((shF n m).t:Int)=frT (n:Int) m:=Int.natAbs_of_nonneg n0
 refine⟨⟨p0,cp⟩,en,?_,?_⟩
 ·rw[en]
  have eb':(m:Int)=(g:Int)*((shF n m).b:Int):=by
   show(m:Int)=(g:Int)*(frB (n:Int) m:Int)
   rw[<- Jf,<- eb]
  rw[eb'];have e2:((shF n m).b:Int)*(n:Int)=((shF n m).b:Int)*((g:Int)*frT (n:Int) m):=by rw[<- et]
  rw[e2];generalize frT (n:Int) m=a;generalize ((shF n m).b:Int)=b;rw[<- XB,XD a,XD b,XB,XD a,<- XB]
 ·show frB (n:Int) m<=m
  exact Nat.div_le_self _ _
def Zv (y:Yd)(gs:List Gs)(A T:Qk):Int:=QO y gs (fun k=>Q4 A k||Q4 T k)-QO y gs (Q4 A)
theorem NdS.app {gs:List Gs}{A T:Qk}(hA:NdS gs A)(hT:NdS gs T)(hd:∀k∈T,k∉A):NdS gs (A++T):=⟨fun k hk=>by
 rcases XG.mp hk with h|h
 ·exact hA.mem k h
 ·exact hT.mem k h,Bt.mpr ⟨hA.nd,hT.nd,fun a ha b hb e=>hd b hb (e▸ha)⟩⟩
theorem Sml.want {y:Yd}{gs:List Gs}(h:Sml y gs)(S:Qm):wS gs.length (Q6 gs) S<=8*10^60:=by
 have h1:wS gs.length (Q6 gs) S<=Qv (fun _=>10^60) gs.length:=Vs fun k hk=>by
  have h2:=h.w30 (gs.getD k default) (by rw[YO hk];exact XL hk)
  have h3:=h.giv.w1 k hk
  unfold Zh;split
  ·show(gs.getD k default).want<=_
   omega
  ·decide +kernel
 have h2:∀n:Nat,Qv (fun _=>(10:Int)^60) n=10^60*(n:Int):=fun n=>by
  induction n with
  |zero=>rfl
  |succ n ih =>
    simp only[Qv];rw[ih,Int.natCast_add,WC];omega
 rw[h2]at h1;have:=h.g8
 omega
theorem Mi {y:Yd}{gs:List Gs}(h:Sml y gs)(S:Qm):((wS gs.length (Q6 gs) S).toNat:Int)=wS gs.length (Q6 gs) S:=XY (h.giv.w0 S)
theorem FC {y:Yd}{gs:List Gs}(h:Sml y gs){S:Qm}{n:Nat}(hp:1<=wS gs.length (Q6 gs) S)(hn:(n:Int)<=wS gs.length (Q6 gs) S):FrB (shF n (wS gs.length (Q6 gs) S).toNat):=by
 have hm:0<(wS gs.length (Q6 gs) S).toNat:=by omega
 obtain⟨a,b,c,d⟩:=G5 (n:=n) hm
 have h8:=h.want S
 have e103:(8*10^60:Nat)<2^203:=by decide +kernel
 have h8':(wS gs.length (Q6 gs) S).toNat<=8*10^60:=by omega
 refine⟨a,?_,by omega⟩
 have:(shF n (wS gs.length (Q6 gs) S).toNat).t<=(shF n (wS gs.length (Q6 gs) S).toNat).b:=by
  rw[Mi h]at c;have h3:((shF n (wS gs.length (Q6 gs) S).toNat).b:Int)*(n:Int)<=((shF n (wS gs.length (Q6 gs) S).toNat).b:Int)*wS gs.length (Q6 gs) S:=XO hn (by omega)
  have h4:((shF n (wS gs.length (Q6 gs) S).toNat).t:Int)*wS gs.length (Q6 gs) S<=((shF n (wS gs.length (Q6 gs) S).toNat).b:Int)*wS gs.length (Q6 gs) S:=by omega
  have:=Nn h4 (by omega)
  omega
 omega
inductive R_shleft:List OT->OT->Prop
 |mk {y:Yd} {gs:List Gs} {A T:Qk} (h:Sml y gs) (hA:NdS gs A) (hT:NdS gs T) (hd:∀k∈T,k∉A) (ne:T≠[]) (hl:0<=Zv y gs A T) :
  R_shleft [.fz (QY y),.fz (.list (gs.map QH)),.fz (.list (QN A)),.fz (.list (QN T))] (.fz (Zu (shF (Zv y gs A T).toNat (wS gs.length (Q6 gs) (Q4 T)).toNat)))
theorem NdS.pos {y:Yd}{gs:List Gs}(h:Sml y gs){T:Qk}(hT:NdS gs T)(ne:T≠[]):1<=wS gs.length (Q6 gs) (Q4 T):=by
 obtain⟨k,hk⟩:=MR T ne
 exact h.giv.wp (hT.mem k hk) (by unfold Q4;exact Yk hk)
theorem Pf (a b:Qk):QN (a++b)=QN a++QN b:=Xy
theorem Ll:Qp ["yard","guests","ahead","some","left"] ["yard","guests","ahead","some"] (Q1 Mv):=by walk_at"p"
theorem IH (T:Bl mg) (D:Df K mg "share_left" Mv ["yard","guests","ahead","some"]) (XbI:Q0 P w K mg base "given_most" ["yard","guests","some"] 4 (Q7 (K:=K) R_givenm)) (Xcl:Q0 P w K mg base "fraction" ["top","bottom"] 2 (Q7 (K:=K) R_frac)) (Xbv:Q0 P w K mg base "want_of" ["guest"] 1 (Q7 (K:=K) R_want)):Q0 P w K mg base "share_left" ["yard","guests","ahead","some"] 5 (Q7 (K:=K) R_shleft):=by
 refine D.ev Ll (fun ts r h=>by cases h;rfl) (fun _ _ _ _ s H E ts r hr h=>?_)
 cases h with
 |@mk y gs A T' h hA hT hd ne hl =>
   refine⟨_,(Q2 (QJ (i:=4) Ll.nd rfl Qa (QF YI (Q9 XbI hr (Qo (pv 0) (Qo (pv 1) (Qo (QF DW (pv 2) (pv 3)) Qs)))) (Q9 XbI hr (Qo (pv 0) (Qo (pv 1) (Qo (pv 2) Qs))))))
 (QB (QV (Q9 Xcl hr (Qo (pv 4) (Qo (Z5 GA (by rfl) T.sum G2 (Qo (Vq (NX:=["yard","guests","ahead","some","left"]) (sc:=Q1 Mv) (N:=["number","guests"]) (f:=[none,some 1]) rfl (by decide +kernel) rfl rfl (V2 (pv 3)) (fun _=>(Za (i:=0) (show(["number","guests"]:Qh).Nodup by decide +kernel) rfl Qa)) (fun _=>ZC) (fun _=>Vg) (fun _=>(Q9 Xbv hr (Qo (QM QL (pv 1) (pv 0)) Qs)))) Qs)) Qs)))))),?_⟩
   show Q3 K _ [some _,some _,some _,some _,none] _
   walk_at"x"
   have g8:=h.g8
   have hAT:=hA.app hT hd
   have lA:=(hA.ok g8).len
   have lT:=(hT.ok g8).len
   have lnA:(QN A).length=A.length:=by simp[QN]
   have lnT:(QN T').length=T'.length:=by simp[QN]
   have hp:=NdS.pos h hT ne
   refine QI (ZU (d:=.int (Zv y gs A T')) (Qt.cast (VA (Zj (Qu (Qq rfl) (Qu (Qq rfl) (Qu (Qt.cast (d':=.list (QN (A++T'))) (EvO.fz (B2 (Qq rfl) (Qq rfl) (by omega))) (by rw[Pf])) QD))) (R_givenm.mk h.ok h.hg (hAT.ok g8))) (Zj (Qu (Qq rfl) (Qu (Qq rfl) (Qu (Qq rfl) QD))) (R_givenm.mk h.ok h.hg (hA.ok g8)))) ?e1) ?_)
   case e1 =>
    rw[hAT.given,hA.given,TK];rfl
   walk_at"d"
   have eb:(T'.map (Q6 gs)).sum=(((wS gs.length (Q6 gs) (Q4 T')).toNat:Nat):Int):=by rw[hT.wants,Mi h]
   have et:Zv y gs A T'=(((Zv y gs A T').toNat:Nat):Int):=(XY hl).symm
   have h8:=h.want (Q4 T')
   refine ZG (Qt.cast (Zj (Qu (Qt.cast (Qq rfl) (ZD PyData.int et)) (Qu (Qt.cast (Gz (ns:=T'.map (Q6 gs)) (Qt.cast (EvO.fz (V8 (xs:=T') (enc:=fun(k:Nat)=>PyData.int (k:Int)) (h:=fun k=>.int (Q6 gs k)) ?ei (by omega) ?el)) (by rw[XI];rfl)) rfl) (by rw[eb])) QD)) (R_frac.mk (t:=((Zv y gs A T').toNat:Int)) (b:=(wS gs.length (Q6 gs) (Q4 T')).toNat) (by omega) ?_)) ?eq) rfl
   case ei=>exact VQ (Qq rfl)
   case el =>
    intro k hk c;have hk':=hT.mem k hk
    refine⟨_,Zw,?_⟩
    walk_at"e"
    have it:atI (gs.map QH) (k:Int)=some (QH (gs.getD k default)):=by rw[GF (f:=QH) (by omega) (by omega),XH]
    exact Zj (Qu (WO (Qq rfl) (Qq rfl) it) QD) R_want.mk
   case eq =>
    show PyData.tuple [_,_]=_
    unfold Zu;rw[(G5 (n:=(Zv y gs A T').toNat) (m:=(wS gs.length (Q6 gs) (Q4 T')).toNat) (by omega)).2.1]
    rfl
   ·have:((wS gs.length (Q6 gs) (Q4 T')).toNat:Int)<=8*10^60:=by omega
    exact X9 this (by decide +kernel)
def B5 (y:Yd)(gs:List Gs)(A:Qk)(f:Fr)(T:Qk):Prop :=
 ∀U:Nat->Bool,(∀k,k<gs.length->U k=true->Q4 A k=false)->(f.t:Int)*wS gs.length (Q6 gs) U-(f.b:Int)*(QO y gs (fun k=>Q4 A k||U k)-QO y gs (Q4 A))<=(f.t:Int)*wS gs.length (Q6 gs) (Q4 T)-(f.b:Int)*Zv y gs A T
inductive R_mshort:List OT->(OT->Prop)->Prop
 |mk {y:Yd} {gs:List Gs} {A:Qk} {f:Fr} (h:Sml y gs) (hA:NdS gs A) (hf:FrB f) (hl:Low gs.length (Q6 gs) (QO y gs) (Q4 A) f.t f.b) :
  R_mshort [.fz (QY y),.fz (.list (gs.map QH)),.fz (.list (QN A)),.fz (Zu f)] (fun r=>∃T:Qk,NdS gs T/\(∀k∈T,k∉A)/\T.Pairwise (· < ·)/\B5 y gs A f T/\r=.ol (QN T))
theorem KR:Qp ["yard","guests","ahead","share","totals","some"] ["yard","guests","ahead","share"] (Q1 Be):=by walk_at"p"
theorem IP (T:Bl mg) (D:Df K mg "most_short" Be ["yard","guests","ahead","share"]) (Xbv:Q0 P w K mg base "want_of" ["guest"] 1 (Q7 (K:=K) R_want)) (Xbw:Q0 P w K mg base "lacking_set" ["yard","guests"] 6 (Zt K R_lset)) (XbT:Q0 P w K mg base "yard_times" ["yard","k"] 2 (Q7 (K:=K) R_ydtimes)) (Xcm:Q0 P w K mg base "asking" ["guests","totals","k"] 3 (Q7 (K:=K) R_asking)):Q0 P w K mg base "most_short" ["yard","guests","ahead","share"] 7 (Zt K R_mshort):=by
 refine D.evD KR (fun ts Φ h=>by cases h;rfl) (fun _ _ _ _ s H E ts Φ hr h=>?_)
 cases h with
 |@mk y gs A f h hA hf hl =>
   refine⟨_,(Q2 (GQ (i:=4) KR.nd rfl rfl (NX:=["yard","guests","ahead","share","totals","some"]) (sc:=Q1 Be) (N:=["guest","share"]) (f:=[none,some 3]) rfl (by decide +kernel) rfl rfl (V2 (pv 1)) (fun _=>(Za (i:=0) (show(["guest","share"]:Qh).Nodup by decide +kernel) rfl Qa)) (fun _=>ZC) (fun _=>Vg) (fun _=>(ZB (Qo (QF WS (Q9 Xbv hr (Qo (pv 0) Qs)) (QM QL (pv 1) Qy)) (Qo (QM QL (pv 1) Qy) Qs)))) rfl)
 (Q2 (QJ (i:=5) KR.nd rfl Qa (Q9 Xbw hr (Qo (Q9 XbT hr (Qo (pv 0) (Qo (QM QL (pv 3) Qy) Qs))) (Qo (Q9 Xcm hr (Qo (pv 1) (Qo (pv 4) (Qo (QM QL (pv 3) Qy) Qs)))) Qs))))
 (QB (QV (Vq (NX:=["yard","guests","ahead","share","totals","some"]) (sc:=Q1 Be) (N:=["number","ahead"]) (f:=[none,some 2]) rfl (by decide +kernel) rfl rfl (V2 (pv 5)) (fun _=>(Za (i:=0) (show(["number","ahead"]:Qh).Nodup by decide +kernel) rfl Qa)) (fun _=>ZC) (fun _=>(BO (Vf Lm (pv 0) (pv 1) rfl))) (fun _=>(pv 0))))))),?_⟩
   show Q3 K _ [some _,some _,some _,some _,none,none] _
   walk_at"x"
   have g8:=h.g8
   have ok:=h.ok
   have b1:=hf.ok.1
   have e103:(2^203:Nat)<10^100:=by decide +kernel
   have f2:(f.b:Int)<10^100:=by
    have:=hf.b
    have:f.b<10^100:=by omega
    have e:(10:Int)^100=((10^100:Nat):Int):=by decide +kernel
    rw[e];exact JC.mpr this
   have f1:(f.t:Int)<10^100:=by
    have:=hf.t
    have:f.t<10^100:=by omega
    have e:(10:Int)^100=((10^100:Nat):Int):=by decide +kernel
    rw[e];exact JC.mpr this
   have p30:∀{a:Int},a<10^60->a<10^100:=fun h=>WE h (by decide +kernel)
   have hw:∀g∈gs,(0<=g.want/\g.want<10^100)/\0<=g.most/\g.most<10^100:=fun g hg=>⟨⟨by have:=(h.hg g hg).w1;omega,p30 (h.w30 g hg).1⟩,by have:=(h.hg g hg).m1;omega,p30 (h.w30 g hg).2⟩
   have ix:∀{ρ:QG} {i:Nat} {k:Int} {d:PyData},ρ[i]?=some (some (.fz (Zu f)))->atI [.int (f.t:Int),.int (f.b:Int)] k=some d->Qt K (tOp (rIx K) (Zc i) (tC (.int k))) ρ d:=fun e h=>Yh (ds:=[.int (f.t:Int),.int (f.b:Int)]) (Qq e) Ze h
   refine QI (VO (V8 (xs:=gs) (enc:=QH) (h:=fun g=>.tuple [.int (g.want*(f.t:Int)),.int (f.b:Int)]) ?ei (by omega) ?el) ?_)
   case ei=>exact VQ (Qq rfl)
   case el =>
    intro g hg c;obtain⟨⟨w0,w1⟩,m0,m1⟩:=hw g hg
    refine⟨_,Zw,?_⟩
    walk_at"e"
    exact V0 (Zl (ZS (Zj (Qu (Qq rfl) QD) R_want.mk) (ix rfl rfl) (W0 w0 (WW w1) (by omega) (WW f1))) (Zl (ix rfl rfl) Z2)) YB
   walk_at"d"
   refine V9 4 rfl ?_
   walk_at"d"
   have bb:∀l∈y.ls,∀b∈l.bs,0<=b/\b<10^100:=fun l hl b hb=>⟨(ok.bb l hl b hb).1,p30 (h.b30 l hl b hb)⟩
   have ok':(Zp y (f.b:Int)).Ok:=TV ok (by omega) fun l hl b hb=>Ps (RJ (bb l hl b hb).1 (bb l hl b hb).2 (by omega) f2).2
   have hg':∀g∈gs.map (Vo (f.t:Int) (f.b:Int)),GOk (Zp y (f.b:Int)) g:=fun g hg=>by
    obtain⟨g0,h0,rfl⟩:=Xw.mp hg
    obtain⟨⟨w0,w1⟩,m0,m1⟩:=hw g0 h0
    exact⟨by have:=(h.hg g0 h0).ln;simpa [Zp,Vo] using this,JF w0 (by omega),JF m0 (by omega)⟩
   refine QI (VS (Vh (Qu (Zj (Qu (Qq rfl) (Qu (ix rfl rfl) QD)) (R_ydtimes.mk (fun l hl b hb=>W0 (bb l hl b hb).1 (WW (bb l hl b hb).2) (by omega) (WW f2)) (fun l hl=>by rw[ok.bl l hl];exact ok.t8) ok.l5)) (Qu (Ub (Qu (Qq rfl) (Qu (Qq rfl) (Qu (ix rfl rfl) QD))) (R_asking.mk (p:=(f.t:Int)) (q:=(f.b:Int)) (by omega) f2 (by omega) f1 hw g8)) QD)) (R_lset.mk ok' hg' (by simpa using g8))) (fun r hr'=>?_))
   obtain⟨φ,es,fb,rfl⟩:=hr'
   walk_at"d"
   refine V9 5 rfl ?_
   walk_at"d"
   have esl:QE (gs.map (Vo (f.t:Int) (f.b:Int))) (Zd es)=QE gs (Zd es):=PX (by simp) _
   rw[esl];have sl:=(GX g8 (Zd es)).len
   have mx:=Ci (by omega) ok' hg' fb
   refine Wf (r:=.ol (QN ((QE gs (Zd es)).filter fun k => !decide (k∈A)))) (G7 (xs:=QE gs (Zd es)) (enc:=fun(k:Nat)=>PyData.int (k:Int)) (h:=fun(k:Nat)=>PyData.int (k:Int)) (p:=fun k => !decide (k∈A)) ?ei2 (by omega) ?el2) ?fin
   case ei2=>exact VQ (Qq rfl)
   case el2 =>
    intro k hk c;refine⟨_,Zw,?_,fun _=>?_⟩
    ·walk_at"e"
     exact Ya (Hv (Qq rfl) (Qq rfl))
    ·walk_at"e"
     exact Qq rfl
   case fin =>
    have em:∀k,k<gs.length->Q4 ((QE gs (Zd es)).filter fun k => !decide (k∈A)) k=(Zd es k && !Q4 A k):=fun k hk=>by
     unfold Q4 QE;have:(k∈((List.range gs.length).filter (Zd es)).filter fun k => !decide (k∈A))↔(Zd es k=true/\¬k∈A):=by
      rw[X6,X6,Xr];simp[hk]
     rw[Uv,decide_eq_true_eq,this];simp
    refine⟨(QE gs (Zd es)).filter fun k => !decide (k∈A),⟨fun k hk=>Xr.mp (X6.mp (X6.mp hk).1).1,(Bn.filter _).filter _⟩,fun k hk=>by have:=(X6.mp hk).2;simpa using this,(List.pairwise_lt_range.filter _).filter _,?_,rfl⟩
    intro U hU;have h1:=EJ h.giv hl (by omega) mx U hU
    have e1:wS gs.length (Q6 gs) (Q4 ((QE gs (Zd es)).filter fun k => !decide (k∈A)))=wS gs.length (Q6 gs) (fun k=>Zd es k && !Q4 A k):=BI em
    have e2:QO y gs (fun k=>Q4 A k||Q4 ((QE gs (Zd es)).filter fun k => !decide (k∈A)) k)=QO y gs (fun k=>Q4 A k||(Zd es k && !Q4 A k)):=h.giv.ext _ _ fun k hk=>by rw[em k hk]
    unfold Zv;rw[e1,e2];exact h1
def JV (gs:List Gs)(A:Qk):Qk:=(List.range gs.length).filter fun k => !decide (k∈A)
theorem EW {gs:List Gs}{A:Qk}{k:Nat}(hk:k<gs.length)(c:k∉A):k∈JV gs A:=X6.mpr ⟨Xr.mpr hk,by simp[c]⟩
def Db (y:Yd)(gs:List Gs)(A:Qk)(f:Fr)(T:Qk):Prop := ∀U:Nat->Bool,(∀k,k<gs.length->U k=true->Q4 A k=false/\Q4 T k=false)->1<=wS gs.length (Q6 gs) U ->
 (f.t:Int)*wS gs.length (Q6 gs) U<(f.b:Int)*(QO y gs (fun k=>(Q4 A k||Q4 T k)||U k)-QO y gs (fun k=>Q4 A k||Q4 T k))
theorem A1 {y:Yd}{gs:List Gs}(h:Sml y gs){A L:Qk}{f f0:Fr}(fb:0<f.b)(f0b:0<f0.b)(lt:(f.t:Int)*(f0.b:Int)<(f0.t:Int)*(f.b:Int))(mo:B5 y gs A f0 L)(hd:∀k∈L,k∉A):Db y gs A f L:=fun U hU hw=>by
 refine Int.lt_of_not_ge fun c=>?_
 have m1:=mo (fun k=>Q4 L k||U k) fun k hk e=>by
  rcases Bool.or_eq_true_iff.mp e with e|e
  ·exact XF (hd k (Xz e))
  ·exact(hU k hk e).1
 have e1:wS gs.length (Q6 gs) (fun k=>Q4 L k||U k)=wS gs.length (Q6 gs) (Q4 L)+wS gs.length (Q6 gs) U:=WP fun k hk=>by
  have:=hU k hk
  cases c1:Q4 L k<;>cases c2:U k<;>simp_all
 have e2:QO y gs (fun k=>Q4 A k||(Q4 L k||U k))=QO y gs (fun k=>(Q4 A k||Q4 L k)||U k):=h.giv.ext _ _ fun k _=>by rw[Bool.or_assoc]
 rw[e1,e2]at m1;unfold Zv at m1;generalize wS gs.length (Q6 gs) U=W at m1 c hw;generalize wS gs.length (Q6 gs) (Q4 L)=V at m1;generalize QO y gs (fun k=>(Q4 A k||Q4 L k)||U k)=X at m1 c
 generalize QO y gs (fun k=>Q4 A k||Q4 L k)=Z at m1 c
 generalize QO y gs (Q4 A)=a at m1;have m2:(f0.t:Int)*W<=(f0.b:Int)*(X-Z):=by
  simp only[Ye,WC]at m1 ⊢;omega
 have h1:(f.b:Int)*((f0.t:Int)*W)<=(f.b:Int)*((f0.b:Int)*(X-Z)):=XO m2 (by omega)
 have h2:(f0.b:Int)*((f.b:Int)*(X-Z))<=(f0.b:Int)*((f.t:Int)*W):=XO c (by omega)
 have h3:(f.t:Int)*(f0.b:Int)*W<(f0.t:Int)*(f.b:Int)*W:=Int.mul_lt_mul_of_pos_right lt (by omega)
 have q1:(f.b:Int)*((f0.b:Int)*(X-Z))=(f0.b:Int)*((f.b:Int)*(X-Z)):=Gc _ _ _
 have q2:(f0.b:Int)*((f.t:Int)*W)=(f.t:Int)*(f0.b:Int)*W:=by rw[<- XB,XD (f0.b:Int)]
 have q3:(f.b:Int)*((f0.t:Int)*W)=(f0.t:Int)*(f.b:Int)*W:=by rw[<- XB,XD (f.b:Int)]
 omega
structure NextOk (y:Yd)(gs:List Gs)(A:Qk)(p q:Int)(f:Fr)(T:Qk):Prop where
 fr:FrB f
 le:f.t<=f.b
 low:p*(f.b:Int)<=(f.t:Int)*q
 up:Up gs.length (Q6 gs) (QO y gs) (Q4 A) f.t f.b
 nd:NdS gs T
 dis:∀k∈T,k∉A
 ne:T≠[]
 tight:f.t<f.b->(f.t:Int)*wS gs.length (Q6 gs) (Q4 T)=(f.b:Int)*Zv y gs A T
 all:f.t=f.b->T=JV gs A
 grow:f.t<f.b->Db y gs A f T
inductive R_nlevel:List OT->(OT->Prop)->Prop
 |mk {y:Yd} {gs:List Gs} {A:Qk} {p q:Int} (h:Sml y gs) (hA:NdS gs A) (p0:0<=p) (pq:p<=q) (q0:0<q) (hl:Low gs.length (Q6 gs) (QO y gs) (Q4 A) p q) (hu:Up gs.length (Q6 gs) (QO y gs) (Q4 A) p q) (hm:A.length<gs.length) :
  R_nlevel [.fz (QY y),.fz (.list (gs.map QH)),.fz (.list (QN A))] (fun r=>∃f T,NextOk y gs A p q f T/\r=.fz (.tuple [Zu f,.list (QN T)]))
theorem Cu (a b:Fr):Gn (YD [a]) (YD [b])=decide (b.t*a.b<a.t*b.b):=by
 have e:∀x:Fr,YD [x]=[x]:=fun x=>rfl
 rw[e,e];show(if a=b then false else decide (b.t*a.b<a.t*b.b))=_
 by_cases c:a=b
 ·subst c
  rw[Xc rfl];exact(XF (by omega)).symm
 ·rw[Xb c]
theorem BX {y:Yd}{gs:List Gs}(h:Sml y gs){A T:Qk}{p q:Int}(p0:0<=p)(q0:0<q)(hu:Up gs.length (Q6 gs) (QO y gs) (Q4 A) p q)(hd:∀k∈T,k∉A):p*wS gs.length (Q6 gs) (Q4 T)<=q*Zv y gs A T/\0<=Zv y gs A T:=by
 have h1:=hu (Q4 T) (fun k _ e=>XF (hd k (Xz e)))
 refine⟨h1,?_⟩
 have h2:0<=p*wS gs.length (Q6 gs) (Q4 T):=JF p0 (h.giv.w0 _)
 refine Bq (a:=q) ?_ q0
 rw[Int.mul_zero];show 0<=q*(QO y gs (fun k=>Q4 A k||Q4 T k)-QO y gs (Q4 A))
 omega
theorem T4 {y:Yd}{gs:List Gs}(h:Sml y gs){A T:Qk}{p q:Int}{f:Fr}(p0:0<=p)(q0:0<q)(hu:Up gs.length (Q6 gs) (QO y gs) (Q4 A) p q)(hT:NdS gs T)(hd:∀k∈T,k∉A)(ne:T≠[])(f1:f.t<=f.b)(fb:0<f.b)
 (lt:(shF (Zv y gs A T).toNat (wS gs.length (Q6 gs) (Q4 T)).toNat).t*f.b<f.t*(shF (Zv y gs A T).toNat (wS gs.length (Q6 gs) (Q4 T)).toNat).b) :
 ∃n:Fr,n=shF (Zv y gs A T).toNat (wS gs.length (Q6 gs) (Q4 T)).toNat/\FrB n/\n.t<n.b/\p*(n.b:Int)<=(n.t:Int)*q/\(n.t:Int)*wS gs.length (Q6 gs) (Q4 T)=(n.b:Int)*Zv y gs A T/\(n.t:Int)*(f.b:Int)<(f.t:Int)*(n.b:Int)/\(f.b:Int)*Zv y gs A T<(f.t:Int)*wS gs.length (Q6 gs) (Q4 T):=by
 obtain⟨l1,l2⟩:=BX h p0 q0 hu hd
 have hp:=NdS.pos h hT ne
 have hm:0<(wS gs.length (Q6 gs) (Q4 T)).toNat:=by omega
 obtain⟨a,b,c,d⟩:=G5 (n:=(Zv y gs A T).toNat) hm
 have eL:(((Zv y gs A T).toNat:Nat):Int)=Zv y gs A T:=XY l2
 rw[Mi h,eL]at c;have hfb:=fun hn=>FC h (S:=Q4 T) (n:=(Zv y gs A T).toNat) hp hn
 generalize hn:shF (Zv y gs A T).toNat (wS gs.length (Q6 gs) (Q4 T)).toNat=n at a c d lt hfb;generalize hW:wS gs.length (Q6 gs) (Q4 T)=W at c l1 hp hfb;generalize hL:Zv y gs A T=L at c l1 l2 eL hfb;have b1:=a.1
 have lt':(n.t:Int)*(f.b:Int)<(f.t:Int)*(n.b:Int):=by rw[<- Jf,<- Jf];exact JC.mpr lt
 have tb:n.t<n.b:=by
  refine Nat.lt_of_not_le fun z=>?_
  have h1:f.t*n.b<=n.t*f.b:=XN (Nat.mul_le_mul_right _ f1) (by rw[Uz];exact Nat.mul_le_mul_right _ z)
  omega
 have s1:(f.b:Int)*L<(f.t:Int)*W:=by
  have h1:(n.t:Int)*(f.b:Int)*W<(f.t:Int)*(n.b:Int)*W:=Int.mul_lt_mul_of_pos_right lt' (by omega)
  have e1:(n.t:Int)*(f.b:Int)*W=(n.b:Int)*((f.b:Int)*L):=by
   rw[XD (n.t:Int),XB,c,<- XB,XD (f.b:Int),XB]
  have e2:(f.t:Int)*(n.b:Int)*W=(n.b:Int)*((f.t:Int)*W):=by rw[XD (f.t:Int),XB]
  rw[e1,e2]at h1;exact Nk h1 (by omega)
 have LW:L<=W:=by
  have h2:(f.t:Int)*W<=(f.b:Int)*W:=Gb (by omega) (by omega)
  have h3:(f.b:Int)*L<(f.b:Int)*W:=by omega
  exact Int.le_of_lt (Nk h3 (by omega))
 refine⟨n,hn.symm▸rfl,hfb (by rw[eL];exact LW),tb,?_,c,lt',s1⟩
 have h1:(n.b:Int)*(p*W)<=(n.b:Int)*(q*L):=XO l1 (by omega)
 have e1:(n.b:Int)*(q*L)=q*((n.t:Int)*W):=by rw[c,<- XB,XD (n.b:Int),XB]
 rw[e1]at h1;have h2:p*(n.b:Int)*W<=(n.t:Int)*q*W:=by
  have e2:p*(n.b:Int)*W=(n.b:Int)*(p*W):=by rw[XD p,XB]
  have e3:(n.t:Int)*q*W=q*((n.t:Int)*W):=by rw[XD (n.t:Int),XB]
  omega
 exact Nn h2 (by omega)
theorem D0:∀n:Nat,Qv (fun _=>(10:Int)^60) n=10^60*(n:Int)
 |0=>rfl
 |n+1=>by
   simp only[Qv];rw[D0 n,Int.natCast_add,WC];omega
theorem Sml.gv8 {y:Yd}{gs:List Gs}(h:Sml y gs)(S:Qm):QO y gs S<=8*10^60:=by
 have h1:QO y gs S<=Qv (fun _=>(10:Int)^60) y.T:=by
  unfold QO;rw[Vb,Va];refine Vs fun t ht=>?_
  have hb:Zg y 0 t<10^60:=by
   have l1:=h.ok.l1
   have hb:Zg y 0 t=(ZA y 0).bs.getD t 0:=Mm (by omega)
   rw[hb];have e:ZA y 0∈y.ls:=by
    have:ZA y 0=y.ls[0]:=by unfold ZA;rw[List.getD,Xx (by omega)];rfl
    rw[this];exact XL _
   have e2:t<(ZA y 0).bs.length:=by rw[h.ok.bl _ e];exact ht
   have e3:(ZA y 0).bs.getD t 0=(ZA y 0).bs[t]:=by simp[List.getD,e2]
   rw[e3];exact h.b30 _ e _ (XL e2)
  unfold Zf passes;dsimp only;omega
 rw[D0]at h1;have:=h.ok.t8
 omega
theorem Ad {y:Yd}{gs:List Gs}(h:Sml y gs)(A T:Qk):Zv y gs A T<=8*10^60:=by
 have h1:=h.gv8 (fun k=>Q4 A k||Q4 T k)
 have h2:=h.giv.nn (Q4 A)
 unfold Zv;omega
theorem An {y:Yd}{gs:List Gs}(h:Sml y gs){S:Qm}{n:Nat}(hp:1<=wS gs.length (Q6 gs) S)(hn:(n:Int)<=8*10^60):FrB (shF n (wS gs.length (Q6 gs) S).toNat):=by
 have hm:0<(wS gs.length (Q6 gs) S).toNat:=by omega
 obtain⟨a,b,c,d⟩:=G5 (n:=n) hm
 obtain⟨g,g1,g2,e,et,eb,p0,cp⟩:=HV (n:Int) hm
 have h8:=h.want S
 have e103:(8*10^60:Nat)<2^203:=by decide +kernel
 have h8':(wS gs.length (Q6 gs) S).toNat<=8*10^60:=by omega
 refine⟨a,?_,by omega⟩
 have:((shF n (wS gs.length (Q6 gs) S).toNat).t:Int)<=(n:Int):=by
  rw[b];have x0:0<=frT (n:Int) (wS gs.length (Q6 gs) S).toNat:=by rw[<- b];omega
  generalize frT (n:Int) (wS gs.length (Q6 gs) S).toNat=x at et x0;have:1*x<=(g:Int)*x:=Gb (by omega) x0
  omega
 omega
structure LoopN (y:Yd)(gs:List Gs)(A:Qk)(p q:Int)(f:Fr)(L T:Qk):Prop where
 fr:FrB f
 le:f.t<=f.b
 low:p*(f.b:Int)<=(f.t:Int)*q
 nd:NdS gs L
 dis:∀k∈L,k∉A
 ne:L≠[]
 tight:f.t<f.b->(f.t:Int)*wS gs.length (Q6 gs) (Q4 L)=(f.b:Int)*Zv y gs A L
 all:f.t=f.b->L=JV gs A
 tnd:NdS gs T
 tdis:∀k∈T,k∉A
 most:B5 y gs A f T
 grow:f.t<f.b->Db y gs A f L
def Wy (y:Yd)(gs:List Gs)(A:Qk)(f:Fr)(T:Qk):Bool := !T.isEmpty&&decide ((shF (Zv y gs A T).toNat (wS gs.length (Q6 gs) (Q4 T)).toNat).t*f.b<f.t*(shF (Zv y gs A T).toNat (wS gs.length (Q6 gs) (Q4 T)).toNat).b)
theorem Il {y:Yd}{gs:List Gs}(h:Sml y gs){A L T:Qk}{p q:Int}{f:Fr}(p0:0<=p)(q0:0<q)(hu:Up gs.length (Q6 gs) (QO y gs) (Q4 A) p q)(I:LoopN y gs A p q f L T)(hg:Wy y gs A f T=false):NextOk y gs A p q f L:=by
 refine⟨I.fr,I.le,I.low,?_,I.nd,I.dis,I.ne,I.tight,I.all,I.grow⟩
 refine ZmI (T:=Q4 T) I.most ?_
 by_cases ne:T=[]
 ·subst ne
  have e1:wS gs.length (Q6 gs) (Q4 [])=0:=CF fun k _=>rfl
  have e2:QO y gs (fun k=>Q4 A k||Q4 [] k)=QO y gs (Q4 A):=h.giv.ext _ _ fun k _=>by simp[Q4]
  rw[e1,e2];omega
 ·have ne':T.isEmpty=false:=by cases T with|nil=>exact Xl rfl ne|cons _ _=>rfl
  unfold Wy at hg;rw[ne']at hg;rw[Bool.not_false,Bool.true_and]at hg;have hg:=YU hg
  obtain⟨l1,l2⟩:=BX h p0 q0 hu I.tdis
  have hp:=NdS.pos h I.tnd ne
  have hm:0<(wS gs.length (Q6 gs) (Q4 T)).toNat:=by omega
  obtain⟨a,b,c,d⟩:=G5 (n:=(Zv y gs A T).toNat) hm
  rw[Mi h,XY l2]at c;generalize shF (Zv y gs A T).toNat (wS gs.length (Q6 gs) (Q4 T)).toNat=n at a c d hg;have b1:=a.1
  have hg':(f.t:Int)*(n.b:Int)<=(n.t:Int)*(f.b:Int):=by rw[<- Jf,<- Jf];exact Ga.mpr (by omega)
  show(f.t:Int)*wS gs.length (Q6 gs) (Q4 T)<=(f.b:Int)*Zv y gs A T
  generalize wS gs.length (Q6 gs) (Q4 T)=W at c hp;generalize Zv y gs A T=L at c;have h1:(f.t:Int)*(n.b:Int)*W<=(n.t:Int)*(f.b:Int)*W:=Gb hg' (by omega)
  have e1:(n.t:Int)*(f.b:Int)*W=(n.b:Int)*((f.b:Int)*L):=by
   rw[XD (n.t:Int),XB,c,<- XB,XD (f.b:Int),XB]
  have e2:(f.t:Int)*(n.b:Int)*W=(n.b:Int)*((f.t:Int)*W):=by rw[XD (f.t:Int),XB]
  rw[e1,e2]at h1;exact Bq h1 (by omega)
def Gk (y:Yd)(gs:List Gs)(A:Qk)(f:Fr)(T:Qk):Nat:=if Wy y gs A f T=true then (wS gs.length (Q6 gs) (Q4 T)).toNat+1 else 0
theorem Iw {y:Yd}{gs:List Gs}(h:Sml y gs){A T T':Qk}{p q:Int}{f n:Fr}(p0:0<=p)(q0:0<q)(hu:Up gs.length (Q6 gs) (QO y gs) (Q4 A) p q)(hT:NdS gs T)(hd':∀k∈T',k∉A)(hT':NdS gs T')(mo:B5 y gs A f T)(fb:0<f.b)(nb:0<n.b)(nt:n.t<=n.b)
 (tight:(n.t:Int)*wS gs.length (Q6 gs) (Q4 T)=(n.b:Int)*Zv y gs A T) (lt:(n.t:Int)*(f.b:Int)<(f.t:Int)*(n.b:Int)) (hg:Wy y gs A f T=true):Gk y gs A n T'<Gk y gs A f T:=by
 unfold Gk;rw[Xc hg];by_cases c:Wy y gs A n T'=true
 ·rw[Xc c]
  unfold Wy at c;obtain⟨c1,c2⟩:=Us.mp c
  have ne:T'≠[]:=fun z=>by subst z;simp at c1
  obtain⟨n',_,_,_,_,_,_,s2⟩:=T4 h p0 q0 hu hT' hd' ne nt nb (Xz c2)
  have m1:=mo (Q4 T') (fun k _ e=>XF (hd' k (Xz e)))
  have:=O9 (p:=(f.t:Int)) (q:=(f.b:Int)) (p':=(n.t:Int)) (q':=(n.b:Int)) (W:=wS gs.length (Q6 gs) (Q4 T)) (W':=wS gs.length (Q6 gs) (Q4 T')) (x:=Zv y gs A T) (x':=Zv y gs A T') (by omega) (by omega) lt tight m1 s2
  have:=h.giv.w0 (Q4 T')
  omega
 ·rw[Xb c]
  omega
theorem Uj:Qp ["yard","guests","ahead","share","level","some"] ["yard","guests","ahead"] (Q1 Mx):=by walk_at"p"
theorem Of (T:Bl mg) (D:Df K mg "next_level" Mx ["yard","guests","ahead"]) (Xb0:Q0 P w K mg base "most_short" ["yard","guests","ahead","share"] 7 (Zt K R_mshort)) (Xcn:Q0 P w K mg base "is_fairer" ["one","other"] 3 (Q7 (K:=K) R_fairer)) (Xb1:Q0 P w K mg base "share_left" ["yard","guests","ahead","some"] 5 (Q7 (K:=K) R_shleft)):Q0 P w K mg base "next_level" ["yard","guests","ahead"] 8 (Zt K R_nlevel):=by
 refine D.evD Uj (fun ts Φ h=>by cases h;rfl) (fun _ _ _ _ s H E ts Φ hr h=>?_)
 cases h with
 |@mk y gs A p q h hA p0 pq q0 hl hu hm =>
   refine⟨_,(Q2 (QJ (i:=3) Uj.nd rfl Qa (ZB (Qo Qy (Qo Qy Qs))))
 (Q2 (GQ (i:=4) Uj.nd rfl rfl (NX:=["yard","guests","ahead","share","level","some"]) (sc:=Q1 Mx) (N:=["number","ahead"]) (f:=[none,some 2]) rfl (by decide +kernel) rfl rfl (Yp rfl T.range (Qo (Z5 Yx (by rfl) T.len Yz (Qo (pv 1) Qs)) Qs)) (fun _=>(Za (i:=0) (show(["number","ahead"]:Qh).Nodup by decide +kernel) rfl Qa)) (fun _=>ZC) (fun _=>(BO (Vf Lm (pv 0) (pv 1) rfl))) (fun _=>(pv 0)) rfl)
 (Q2 (QJ (i:=5) Uj.nd rfl Qa (Q9 Xb0 hr (Qo (pv 0) (Qo (pv 1) (Qo (pv 2) (Qo (pv 3) Qs))))))
 (Q2 (Jz PassesOwn.never (PW.pt (RT (Ph (pv 5) (fun _=>rfl)) (Sr (DI (Q9 Xcn hr (Qo (Vj (Qo (pv 3) Qs)) (Qo (Vj (Qo (Q9 Xb1 hr (Qo (pv 0) (Qo (pv 1) (Qo (pv 2) (Qo (pv 5) Qs))))) Qs)) Qs))))))) (Q2 (QJ (i:=3) Uj.nd rfl Qa (Q9 Xb1 hr (Qo (pv 0) (Qo (pv 1) (Qo (pv 2) (Qo (pv 5) Qs))))))
 (Q2 (QJ (i:=4) Uj.nd rfl Qa (pv 5))
 (QB (QJ (i:=5) Uj.nd rfl Qa (Q9 Xb0 hr (Qo (pv 0) (Qo (pv 1) (Qo (pv 2) (Qo (pv 3) Qs))))))))))
 (QB (QV (ZB (Qo (pv 3) (Qo (pv 4) Qs))))))))),?_⟩
   show Q3 K _ [some _,some _,some _,none,none,none] _
   walk_at"x"
   have g8:=h.g8
   have gl:(gs.map QH).length=gs.length:=by simp
   have one:FrB ⟨1,1⟩:=⟨⟨by decide,by decide⟩,by decide,by decide⟩
   have hlow:∀{f:Fr},0<f.b->p*(f.b:Int)<=(f.t:Int)*q->Low gs.length (Q6 gs) (QO y gs) (Q4 A) f.t f.b:=fun b1 lo=>hl.more h.giv q0 (by omega) lo
   refine QI (ZU (d:=Zu ⟨1,1⟩) (V0 (Zl Ze (Zl Ze Z2)) YB) ?_)
   walk_at"d"
   refine QI (VO (r:=.ol (QN (JV gs A))) (G7 (xs:=List.range gs.length) (enc:=fun(k:Nat)=>PyData.int (k:Int)) (h:=fun(k:Nat)=>PyData.int (k:Int)) (p:=fun k => !decide (k∈A)) ?ei (by simp;omega) ?el) ?_)
   case ei =>
    refine EvI.cast (WT (Qu (Ua (Qq rfl)) QD) (by rw[z62,gl];omega) (by rw[z62,gl];omega)) ?_
    rw[gl,XH];unfold ZY;refine X4 fun i _=>?_
    rw[YS]
   case el =>
    intro k hk c;refine⟨_,Zw,?_,fun _=>?_⟩
    ·walk_at"e"
     exact Ya (Hv (Qq rfl) (Qq rfl))
    ·walk_at"e"
     exact Qq rfl
   walk_at"d"
   refine V9 4 rfl ?_
   walk_at"d"
   refine QI (VS (Vh (Qu (Qq rfl) (Qu (Qq rfl) (Qu (Qq rfl) (Qu (Qq rfl) QD)))) (R_mshort.mk h hA one (hlow (by decide) (by show p*1<=1*q;omega)))) (fun r hr'=>?_))
   obtain⟨T1,t1,t2,-,t3,rfl⟩:=hr'
   walk_at"d"
   have I0:LoopN y gs A p q ⟨1,1⟩ (JV gs A) T1:=⟨one,Xs _,by show p*1<=1*q;omega,⟨fun k hk=>Xr.mp (X6.mp hk).1,Bn.filter _⟩,fun k hk=>by have:=(X6.mp hk).2;simpa using this,fun z=>by
    have:∀k,k<gs.length->k∈A:=fun k hk=>Decidable.byContradiction fun c=>by
     have:k∈JV gs A:=X6.mpr ⟨Xr.mpr hk,by simp[c]⟩
     rw[z]at this;cases this
    have l1:=hA.perm.length_eq
    have l2:QE gs (Q4 A)=List.range gs.length:=List.filter_eq_self.mpr fun k hk=>Yk (this k (Xr.mp hk))
    rw[l2,J9]at l1;omega,fun c=>Xl c (by decide),fun _=>rfl,t1,t2,t3,fun c=>Xl c (by decide)⟩
   have esl:∀{ρ:QG} {E':XK} {T':Qk},ρ[0]?=some (some (.fz (QY y)))->ρ[1]?=some (some (.fz (.list (gs.map QH))))->ρ[2]?=some (some (.fz (.list (QN A))))->ρ[5]?=some (some (.fz (.list (QN T'))))->NdS gs T'->(∀k∈T',k∉A)->T'≠[] ->
    Qt K (Yo (Q7 (K:=K) R_shleft) [] E' (QZ (Zc 0) (QZ (Zc 1) (QZ (Zc 2) (QZ (Zc 5) Zm))))) ρ (Zu (shF (Zv y gs A T').toNat (wS gs.length (Q6 gs) (Q4 T')).toNat)):=fun e0 e1 e2 e5 n1 n2 n3=>Zj (Qu (Qq e0) (Qu (Qq e1) (Qu (Qq e2) (Qu (Qq e5) QD)))) (R_shleft.mk h hA n1 n2 n3 (BX h p0 q0 hu n2).2)
   refine G6 (fun ρ'=>∃f' L' u,NextOk y gs A p q f' L'/\ρ'=[some (.fz (QY y)),some (.fz (.list (gs.map QH))),some (.fz (.list (QN A))),some (.fz (Zu f')),some (.fz (.list (QN L'))),u]) ?wh ?rt
   case rt =>
    rintro _ ⟨f',L',u,hN,rfl⟩
    exact ZG (V0 (Zl (Qq rfl) (Zl (Qq rfl) Z2)) YB) ⟨f',L',hN,rfl⟩
   case wh =>
    refine Ud (fun m ρ'=>∃f' L' T',m=Gk y gs A f' T'/\LoopN y gs A p q f' L' T'/\ρ'=[some (.fz (QY y)),some (.fz (.list (gs.map QH))),some (.fz (.list (QN A))),some (.fz (Zu f')),some (.fz (.list (QN L'))),some (.ol (QN T'))]) _ ⟨_,_,_,rfl,I0,rfl⟩ ?_
    rintro m _ ⟨f',L',T',rfl,I,rfl⟩
    refine⟨Wy y gs A f' T',?tst,fun c=>?_,fun c=>⟨f',L',_,Il h p0 q0 hu I c,rfl⟩⟩
    case tst =>
     refine Pq 5 (r:=.ol (QN T')) rfl rfl ?_
     walk_at"d"
     refine Z9.cast (DD (b := !(QN T').isEmpty) (c:=Wy y gs A f' T') (SM (ds:=QN T') (Qq rfl)) (fun c=>?_)) ?_
     ·have ne:T'≠[]:=fun z=>by subst z;simp[QN]at c
      have ne':T'.isEmpty=false:=by cases T' with|nil=>exact Xl rfl ne|cons _ _=>rfl
      have hp:=NdS.pos h I.tnd ne
      have l2:=(BX h p0 q0 hu I.tdis).2
      have hx:=I.fr
      have hsh:FrB (shF (Zv y gs A T').toNat (wS gs.length (Q6 gs) (Q4 T')).toNat):=An h hp (by rw[XY l2];exact Ad h A T')
      refine Z9.cast (Ji (Zj (Qu (EvO.fz (Yy (ds:=[Zu f']) (Zl (Qq rfl) Z2) U7)) (Qu (EvO.fz (Yy (ds:=[Zu (shF (Zv y gs A T').toNat (wS gs.length (Q6 gs) (Q4 T')).toNat)]) (Zl (esl rfl rfl rfl rfl I.tnd I.tdis ne) Z2) U7)) QD)) (R_fairer.mk (as:=[f']) (bs:=[shF (Zv y gs A T').toNat (wS gs.length (Q6 gs) (Q4 T')).toNat]) (fun x hx'=>?_) (fun x hx'=>?_) rfl (by show(1:Nat)<=8;decide)))) ?_
      ·exact(Xn.mp hx').symm▸hx.g
      ·exact(Xn.mp hx').symm▸hsh.g
      ·rw[Cu]
       unfold Wy;rw[ne',Bool.not_false,Bool.true_and]
     ·unfold Wy
      have:(QN T').isEmpty=T'.isEmpty:=by cases T'<;>rfl
      rw[this];cases T'.isEmpty<;>simp
    ·obtain⟨c1,c2⟩:=Us.mp c
     have ne:T'≠[]:=fun z=>by subst z;simp at c1
     obtain⟨n,en,n1,n2,n3,n4,n5,n6⟩:=T4 h p0 q0 hu I.tnd I.tdis ne I.le I.fr.ok.1 (Xz c2)
     refine V9 5 rfl ?_
     walk_at"d"
     refine QI (ZU (d:=Zu n) (Qt.cast (esl rfl rfl rfl rfl I.tnd I.tdis ne) (by rw[en])) ?_)
     walk_at"d"
     refine QI (ZU (Qq rfl) ?_)
     walk_at"d"
     refine VS (Vh (Qu (Qq rfl) (Qu (Qq rfl) (Qu (Qq rfl) (Qu (Qq rfl) QD)))) (R_mshort.mk h hA n1 (hlow n1.ok.1 n3))) (fun r hr'=>?_)
     obtain⟨T2,u1,u2,-,u3,rfl⟩:=hr'
     walk_at"d"
     refine⟨Gk y gs A n T2,Iw h p0 q0 hu I.tnd u2 u1 I.most I.fr.ok.1 n1.ok.1 (XZ n2) n4 n5 c,n,T',T2,rfl,⟨n1,XZ n2,n3,I.tnd,I.tdis,ne,fun _=>n4,fun e=>Xl e (by omega),u1,u2,u3,fun _=>A1 h n1.ok.1 I.fr.ok.1 n5 I.most I.tdis⟩,rfl⟩
def Wu (l:Fr×Qk):PyData:=.tuple [Zu l.1,.list (QN l.2)]
inductive Lev (y:Yd)(gs:List Gs):Qk->Int->Int->List (Fr×Qk)->Prop
 |nil {A:Qk} {p q:Int} (h:∀k,k<gs.length->k∈A):Lev y gs A p q []
 |cons {A:Qk} {p q:Int} {f:Fr} {T:Qk} {lv:List (Fr×Qk)} (h:NextOk y gs A p q f T) (r:Lev y gs (A++T) f.t f.b lv):Lev y gs A p q ((f,T)::lv)
inductive R_levels:List OT->(OT->Prop)->Prop
 |mk {y:Yd} {gs:List Gs} (h:Sml y gs):R_levels [.fz (QY y),.fz (.list (gs.map QH))] (fun r=>∃lv,Lev y gs [] 0 1 lv/\lv.length<=8/\r=.ol (lv.map Wu))
theorem ZmH {gs:List Gs}{A:Qk}(hA:NdS gs A)(h:¬A.length<gs.length):∀k,k<gs.length->k∈A:=fun k hk=>Decidable.byContradiction fun c=>by
 have l1:=hA.perm.length_eq
 have l2:(QE gs (Q4 A)).length<(List.range gs.length).length:=by
  unfold QE;refine Nat.lt_of_le_of_ne (List.length_filter_le _ _) fun e=>?_
  have:=List.length_filter_eq_length_iff.mp e k (Xr.mpr hk)
  exact c (Xz this)
 rw[J9]at l2;omega
structure LoopL (y:Yd)(gs:List Gs)(lv:List (Fr×Qk))(A:Qk)(p q:Int):Prop where
 nd:NdS gs A
 len:lv.length<=A.length
 on:∀rest,Lev y gs A p q rest->Lev y gs [] 0 1 (lv++rest)
 go:A.length<gs.length->(0<=p/\p<=q/\0<q)/\Low gs.length (Q6 gs) (QO y gs) (Q4 A) p q/\Up gs.length (Q6 gs) (QO y gs) (Q4 A) p q
theorem LoopL.step {y:Yd}{gs:List Gs}(h:Sml y gs){lv:List (Fr×Qk)}{A T:Qk}{p q:Int}{f:Fr}(I:LoopL y gs lv A p q)(hm:A.length<gs.length)(N:NextOk y gs A p q f T):LoopL y gs (lv++[(f,T)]) (A++T) f.t f.b:=by
 have hAT:=I.nd.app N.nd N.dis
 have tp:0<T.length:=MM.mpr N.ne
 refine⟨hAT,?_,fun rest r=>?_,fun hm'=>?_⟩
 ·have:=I.len
  simp only[Xq,XJ,List.length_nil];omega
 ·rw[Gd]
  exact I.on _ (.cons N r)
 ·obtain⟨⟨p0,pq,q0⟩,hl,hu⟩:=I.go hm
  have b1:=N.fr.ok.1
  have lt:f.t<f.b:=by
   refine Nat.lt_of_le_of_ne N.le fun e=>?_
   have ha:=N.all e
   have hall:∀k,k<gs.length->k∈A++T:=fun k hk=>by
    by_cases c:k∈A
    ·exact JA _ c
    ·exact XT _ (ha▸EW hk c)
   have l1:=hAT.perm.length_eq
   have l2:QE gs (Q4 (A++T))=List.range gs.length:=List.filter_eq_self.mpr fun k hk=>Yk (hall k (Xr.mp hk))
   rw[l2,J9]at l1;omega
  have hT:∀k,k<gs.length->Q4 T k=true->Q4 A k=false:=fun k _ e=>XF (N.dis k (Xz e))
  have ti:=N.tight lt
  have e1:QO y gs (Q4 (A++T))=QO y gs (fun k=>Q4 A k||Q4 T k):=TK A T
  have l1:=Low.step h.giv hl N.up hT ti q0 (by omega) N.low
  have u1:=Up.step h.giv N.up hT ti
  have em:Q4 (A++T)=fun k=>Q4 A k||Q4 T k:=funext fun k=>Lj A T k
  rw[em];exact⟨⟨by omega,by have:=N.le;omega,by omega⟩,l1,u1⟩
theorem Bg:Qp ["yard","guests","levels","ahead","level"] ["yard","guests"] (Q1 KW):=by walk_at"p"
theorem On (T:Bl mg) (D:Df K mg "fair_levels" KW ["yard","guests"]) (Xco:Q0 P w K mg base "next_level" ["yard","guests","ahead"] 8 (Zt K R_nlevel)):Q0 P w K mg base "fair_levels" ["yard","guests"] 9 (Zt K R_levels):=by
 refine D.evD Bg (fun ts Φ h=>by cases h;rfl) (fun _ _ _ _ s H E ts Φ hr h=>?_)
 cases h with
 |@mk y gs h =>
   refine⟨_,(Q2 (QJ (i:=2) Bg.nd rfl Qa (Vj Qs))
 (Q2 (QJ (i:=3) Bg.nd rfl Qa (Vj Qs))
 (Q2 (Jz PassesOwn.never (Vf B4 (Z5 Yx (by rfl) T.len Yz (Qo (pv 3) Qs)) (Z5 Yx (by rfl) T.len Yz (Qo (pv 1) Qs)) (ZT _)) (Q2 (QJ (i:=4) Bg.nd rfl Qa (Q9 Xco hr (Qo (pv 0) (Qo (pv 1) (Qo (pv 3) Qs)))))
 (Q2 (ZV (YY PySem.F.plainAttrs_list PySem.F.slot_list_append PySem.F.type_list_append W6 (pv 2) (Qo (pv 4) Qs)))
 (QB (QJ (i:=3) Bg.nd rfl Qa (QF DW (pv 3) (QM QL (pv 4) Qy)))))))
 (QB (QV (pv 2)))))),?_⟩
   show Q3 K _ [some _,some _,none,none,none] _
   walk_at"x"
   have g8:=h.g8
   have gl:(gs.map QH).length=gs.length:=by simp
   refine QI (VO (Yy (ds:=[]) Z2 (by decide)) ?_)
   walk_at"d"
   refine QI (VO (Yy (ds:=[]) Z2 (by decide)) ?_)
   walk_at"d"
   have I0:LoopL y gs [] [] 0 1:=⟨⟨(fun k hk=>nomatch hk),Gg⟩,Xs _,fun rest r=>r,fun _=>⟨⟨by decide,by decide,by decide⟩,Low.nil h.giv fun k _=>rfl,Up.nn h.giv fun k _=>rfl⟩⟩
   refine G6 (fun ρ'=>∃lv a u,Lev y gs [] 0 1 lv/\lv.length<=8/\ρ'=[some (.fz (QY y)),some (.fz (.list (gs.map QH))),some (.ol (lv.map Wu)),a,u]) ?wh ?rt
   case rt =>
    rintro _ ⟨lv,a,u,hN,l8,rfl⟩
    exact GE rfl ⟨lv,hN,l8,rfl⟩
   case wh =>
    refine Ud (fun m ρ'=>∃lv A p q u,m=gs.length-A.length/\LoopL y gs lv A p q/\ρ'=[some (.fz (QY y)),some (.fz (.list (gs.map QH))),some (.ol (lv.map Wu)),some (.ol (QN A)),u]) _ ⟨[],[],0,1,none,rfl,I0,rfl⟩ ?_
    rintro m _ ⟨lv,A,p,q,u,rfl,I,rfl⟩
    have lA:=(I.nd.ok g8).len
    have lnA:(QN A).length=A.length:=by simp[QN]
    refine⟨decide (A.length<gs.length),?tst,fun c=>?_,fun c=>?_⟩
    case tst =>
     refine Z9.cast (Ya (Js (Rq rfl) (Ua (Qq rfl)))) ?_
     rw[gl,lnA];exact decide_eq_decide.mpr JC
    ·have hm:=Xz c
     obtain⟨⟨p0,pq,q0⟩,hl,hu⟩:=I.go hm
     refine V9 3 rfl ?_
     walk_at"d"
     refine QI (VS (Vh (Qu (Qq rfl) (Qu (Qq rfl) (Qu (Qq rfl) QD))) (R_nlevel.mk h I.nd p0 pq q0 hl hu hm)) (fun r hr'=>?_))
     obtain⟨f',T',N,rfl⟩:=hr'
     walk_at"d"
     have J:=I.step h hm N
     have lAT:=(J.nd.ok g8).len
     have tp:0<T'.length:=MM.mpr N.ne
     rw[Xq]at lAT;have lnT:(QN T').length=T'.length:=by simp[QN]
     have ll:=I.len
     refine QI (GP rfl (Qq rfl) (by rw[Xm];omega) ?_)
     walk_at"d"
     refine VO (r:=.ol (QN (A++T'))) (EvO.cast (B2 (Qq rfl) (Yh (ds:=[Zu f',.list (QN T')]) (Qq rfl) Ze rfl) (by omega)) (by rw[Pf])) ?_
     walk_at"d"
     refine⟨gs.length-(A++T').length,by rw[Xq];omega,lv++[(f',T')],A++T',f'.t,f'.b,some (.fz (.tuple [Zu f',.list (QN T')])),rfl,J,?_⟩
     rw[Xy];rfl
    ·have hm:=YU c
     have:=I.len
     exact⟨lv,_,u,by have:=I.on [] (.nil (ZmH I.nd hm));rwa [XV]at this,by omega,rfl⟩
section
variable (Q:Int)(gs:List Gs)
end
theorem Lev.fr {y:Yd}{gs:List Gs}{A:Qk}{p q:Int}{lv:List (Fr×Qk)}(h:Lev y gs A p q lv):∀l∈lv,FrB l.1/\l.1.t<=l.1.b/\NdS gs l.2:=by
 induction h with
 |nil _=>exact fun l hl=>(nomatch hl)
 |cons N r ih =>
   intro l hl;rcases Xg.mp hl with rfl|hl
   ·exact⟨N.fr,N.le,N.nd⟩
   ·exact ih l hl
def shL (lv:List (Fr×Qk))(k:Nat):PyData:=lv.foldl (fun d l=>if k∈l.2 then Zu l.1 else d) .none
theorem Ik {lv:List (Fr×Qk)}{i:Nat}(hi:i<lv.length)(k:Nat):shL (lv.take (i+1)) k=if k∈lv[i].2 then Zu lv[i].1 else shL (lv.take i) k:=by
 unfold shL;rw[WB,Xx hi,List.foldl_append];rfl
theorem Ei {m j:Nat}(hj:j<m){f:Nat->PyData}{d:PyData}:((List.range m).map f).set j d=(List.range m).map fun k=>if k=j then d else f k:=by
 refine MG (by simp) fun i h1 h2=>?_
 rw[List.getElem_set];have hi:i<m:=by simpa using h2
 by_cases c:j=i
 ·subst c
  simp
 ·simp[c,Ne.symm c]
inductive R_lshares:List OT->OT->Prop
 |mk {lv:List (Fr×Qk)} {m:Nat} (hm:m<=8) (h:∀l∈lv,∀k∈l.2,k<m):R_lshares [.fz (.list (lv.map Wu)),.fz (.int (m:Int))] (.ol ((List.range m).map (shL lv)))
theorem Bi:Qp ["_law_levels","_law_many","_law_shares_here","_law_share","_law_some","_law_k"] ["_law_levels","_law_many"] (Q1 M8):=by walk_at"p"
theorem ZlV (T:Bl mg) (D:Df K mg "_law_shares" M8 ["_law_levels","_law_many"]):Q0 P w K mg base "_law_shares" ["_law_levels","_law_many"] 1 (Q7 (K:=K) R_lshares):=by
 refine D.ev Bi (fun ts r h=>by cases h;rfl) (fun _ _ _ _ s H E ts r hr h=>?_)
 cases h with
 |@mk lv m hm h =>
   refine⟨_,(Q2 (GQ (i:=2) Bi.nd rfl rfl (NX:=["_law_levels","_law_many","_law_shares_here","_law_share","_law_some","_law_k"]) (sc:=Q1 M8) (N:=["_law_k"]) (f:=[none]) rfl (by decide +kernel) rfl rfl (Yp rfl T.range (Qo (pv 1) Qs)) (fun _=>(Za (i:=0) (show(["_law_k"]:Qh).Nodup by decide +kernel) rfl Qa)) (fun _=>ZC) (fun _=>Vg) (fun _=>GD) rfl)
 (Q2 (VB PassesOwn.never rfl (V2 (pv 0)) (YJ (n:=2) rfl (ZI (Za (i:=3) Bi.nd rfl Qa) (ZI (Za (i:=4) Bi.nd rfl Qa) YN))) (QB (VB PassesOwn.never rfl (V2 (pv 4)) (Za (i:=5) Bi.nd rfl Qa) (QB (UI (pv 3) (Fx (pv 2) (pv 5) GV))))))
 (QB (QV (pv 2))))),?_⟩
   show Q3 K _ [some _,some _,none,none,none,none] _
   walk_at"x"
   refine QI (VO (V8 (xs:=List.range m) (enc:=fun(k:Nat)=>PyData.int (k:Int)) (h:=fun k=>shL (lv.take 0) k) ?ei (by simp;omega) ?el) ?_)
   case ei =>
    refine EvI.cast (WT (Qu (Qq rfl) QD) (by rw[z62];omega) (by rw[z62];omega)) ?_
    rw[XH];unfold ZY;refine X4 fun i _=>?_
    rw[YS]
   case el =>
    intro k hk c;exact⟨_,Zw,Gy⟩
   walk_at"d"
   refine QI (Wj (ds:=lv.map Wu) (fun i=>[some (.fz (.list (lv.map Wu))),some (.fz (.int (m:Int))),some (.ol ((List.range m).map (shL (lv.take i)))),none,none,none]) (VQ (Qq rfl)) ⟨rfl,rfl,rfl,trivial⟩ ?st ?fin)
   case fin =>
    intro ρ' hf;refine Wx hf ?_
    rw[Xm,Wn];exact GE rfl rfl
   case st =>
    intro i d hd;have hi:i<lv.length:=by
     have:=(Xh.mp hd).1
     simpa using this
    obtain rfl:d=Wu lv[i]:=by simpa [hi] using hd.symm
    have hk:=h lv[i] (XL hi)
    refine⟨_,Wr (ds:=[Zu lv[i].1,.list (QN lv[i].2)]) (Vr Zw (Vr Zw WN)) rfl,?_⟩
    walk_at"d"
    refine Wj (ds:=QN lv[i].2) (fun j=>[some (.fz (.list (lv.map Wu))),some (.fz (.int (m:Int))),some (.ol ((List.range m).map fun k=>if k∈lv[i].2.take j then Zu lv[i].1 else shL (lv.take i) k)),some (.fz (Zu lv[i].1)),some (.fz (.list (QN lv[i].2))),none]) (VQ (Qq rfl)) ⟨rfl,rfl,?z0,rfl,rfl,trivial⟩ ?st2 ?fin2
    case z0=>simp
    case st2 =>
     intro j d hd2;have hj:j<lv[i].2.length:=by
      have:=(Xh.mp hd2).1
      simpa [QN] using this
     obtain rfl:d=.int ((lv[i].2[j]:Nat):Int):=by simpa [QN,hj] using hd2.symm
     have hkj:=hk lv[i].2[j] (XL hj)
     refine⟨_,Zw,?_⟩
     walk_at"d"
     refine Sf (j:=lv[i].2[j]) rfl (Qq rfl) (Qq rfl) ?ix ?_
     case ix =>
      have:=Rk (n:=((List.range m).map fun k=>if k∈lv[i].2.take j then Zu lv[i].1 else shL (lv.take i) k).length) (k:=((lv[i].2[j]:Nat):Int)) (by omega) (by simp;omega)
      simpa using this
     walk_at"d"
     refine⟨rfl,rfl,?_,rfl,rfl,trivial⟩
     rw[Ei hkj];congr 2
     refine X4 fun k _=>?_
     have em:k∈lv[i].2.take (j+1)↔k∈lv[i].2.take j\/k=lv[i].2[j]:=by
      rw[WB,Xx hj,XG];simp
     by_cases c:k=lv[i].2[j]
     ·rw[Xc c,Xc (em.mpr (.inr c))]
     ·by_cases c2:k∈lv[i].2.take j
      ·rw[Xb c,Xc c2,Xc (em.mpr (.inl c2))]
      ·rw[Xb c,Xb c2,Xb (fun z=>(em.mp z).elim c2 c)]
    case fin2 =>
     intro ρ' hf;have ln:(QN lv[i].2).length=lv[i].2.length:=by simp[QN]
     rw[ln,Wn]at hf;refine hf.trans ⟨rfl,rfl,?_,trivial⟩
     congr 2
     exact X4 fun k _=>(Ik hi k).symm
inductive R_whole:List OT->OT->Prop
 |mk {i:Int}:R_whole [.fz (.int i)] (.fz (.bool true))
theorem Zim:Qp ["_law_found"] ["_law_found"] (Q1 K1):=by walk_at"p"
theorem EM (T:Bl mg) (D:Df K mg "_law_whole" K1 ["_law_found"]):Q0 P w K mg base "_law_whole" ["_law_found"] 1 (Q7 (K:=K) R_whole):=by
 refine D.ev Zim (fun ts r h=>by cases h;rfl) (fun _ _ _ _ s H E ts r hr h=>?_)
 cases h with
 |@mk i =>
   refine⟨_,(QB (QV (Hb (Z5 Sb (by rfl) T.isi R8 (Qo (pv 0) (Qo (SN (v:=.ty "int") rfl T.int FF rfl) Qs))) (DJ (Fv (Z5 Sb (by rfl) T.isi R8 (Qo (pv 0) (Qo (SN (v:=.ty "bool") rfl T.bool CK rfl) Qs)))))))),?_⟩
   show Q3 K _ [some _] _
   walk_at"ret"
   rfl
def VX:List Gs->(Qm)->List Gs
 |[],_=>[]
 |g::r,S=>if S 0=true then g::VX r (fun k=>S (k+1)) else VX r (fun k=>S (k+1))
theorem HH:∀(gs:List Gs) (S:Qm),(QE gs S).map (fun k=>gs.getD k default)=VX gs S
 |[],_=>rfl
 |g::r,S=>by
   have ih:=HH r fun k=>S (k+1)
   unfold QE at ih ⊢;rw[XJ,List.range_succ_eq_map,J7,List.filter_map];show _=if S 0=true then g::VX r (fun k=>S (k+1)) else VX r (fun k=>S (k+1))
   rw[<- ih];by_cases c:S 0=true
   ·rw[Xc c,Xc c,Xt,XI]
    rfl
   ·rw[Xb c,Xb c,XI]
    rfl
theorem TH (gs:List Gs)(S:Qm):Z4 gs (QE gs S)=((VX gs S).map Gs.want).sum:=by
 rw[<- HH,XI];rfl
def wG (t:Int)(l:Nat)(g:Gs):Int:=if g.line=l/\V3 g t=true then g.most else 0
theorem Pr (gl:List Gs)(t:Int)(l:Nat):∀sm:Qk,Zr gl t l sm=(sm.map (wgt gl t l)).sum
 |[]=>rfl
 |k::r=>by
   rw[Xt,WA,<- Pr gl t l r,<- Sh,<- Bf];rfl
theorem P6 (gs:List Gs)(S:Qm)(t l:Nat):VZ gs t (QE gs S) l=((VX gs S).map (wG (t:Int) l)).sum:=by
 unfold VZ;rw[Pr,<- HH,XI];congr 1
 refine X4 fun k hk=>?_
 have hk:k<gs.length:=Xr.mp (X6.mp hk).1
 show wgt gs (t:Int) l k=wG (t:Int) l (gs.getD k default)
 unfold wgt wG;rw[YO hk,Xx hk]
theorem HS:∀(gs:List Gs) (S:Qm),(VX gs S).Sublist gs
 |[],_=>.slnil
 |g::r,S=>by
   show(if S 0=true then g::VX r (fun k=>S (k+1)) else VX r (fun k=>S (k+1))).Sublist (g::r)
   split
   ·exact .cons_cons _ (HS r _)
   ·exact .cons _ (HS r _)
theorem Zkx {y y':Yd}{b b' own own':Qn}(hl:y'.ls.length=y.ls.length)(hu:∀k,QS y' k=QS y k)(hb:b'=b)(ho:own'=own):passes y' b' own' 0=passes y b own 0:=by
 subst hb ho;unfold passes Vp;rw[hl,Mp (b:=b') (b':=b') hl hu (fun _ _=>rfl) _ (Xs _)]
def Sim (y:Yd)(gs:List Gs)(y':Yd)(gs':List Gs):Prop := ∀S,∃S',Z4 gs' (QE gs' S')=Z4 gs (QE gs S)/\∀f:Int->Int,Qv (fun t=>f (Zf y' gs' (QE gs' S') t)) y'.T=Qv (fun t=>f (Zf y gs (QE gs S) t)) y.T
theorem Sim.short {y y':Yd}{gs gs':List Gs}(ok:y.Ok)(ok':y'.Ok)(h:Sim y gs y' gs')(S:Qm):∃S',Zs y' (Q5 gs') S'=Zs y (Q5 gs) S/\∀p,Zs (Zq y' p) (Q5 gs') S'=Zs (Zq y p) (Q5 gs) S:=by
 obtain⟨S',h1,h2⟩:=h S
 refine⟨S',?_,fun p=>?_⟩
 ·rw[UW,UW,h1]
  have:=h2 fun z=>z
  rw[show Qv (Zf y' gs' (QE gs' S')) y'.T=Qv (Zf y gs (QE gs S)) y.T from this]
 ·rw[WV ok',WV ok,h1]
  have:=h2 fun z=>min z p
  unfold ZN;rw[this]
theorem Sim.peak {y y':Yd}{gs gs':List Gs}(ok:y.Ok)(ok':y'.Ok)(h:Sim y gs y' gs')(h':Sim y' gs' y gs){p:Int}(k:IsPeak y gs p):IsPeak y' gs' p:=by
 refine⟨k.nn,fun S'=>?_,fun z=>?_⟩
 ·obtain⟨S,_,e⟩:=h'.short ok' ok S'
  rw[<- e p];exact k.all S
 ·obtain⟨S,hS⟩:=k.less z
  obtain⟨S',_,e⟩:=h.short ok ok' S
  exact⟨S',by rw[e];exact hS⟩
theorem Sim.res {y y':Yd}{gs gs':List Gs}(ok:y.Ok)(ok':y'.Ok)(h:Sim y gs y' gs')(h':Sim y' gs' y gs){r r':OT}(a:JQ y gs r)(b:JQ y' gs' r'):r'=r:=by
 rcases a with ⟨p,n,k,rfl⟩|⟨⟨S,hS⟩,rfl⟩
 ·rcases b with ⟨p',n',k',rfl⟩|⟨⟨S',hS'⟩,rfl⟩
  ·rw[(h.peak ok ok' h' k).uniq ok' k']
  ·obtain⟨S,e,_⟩:=h'.short ok' ok S'
   have:=n S
   omega
 ·rcases b with ⟨p',n',k',rfl⟩|⟨_,rfl⟩
  ·obtain⟨S',e,_⟩:=h.short ok ok' S
   have:=n' S'
   omega
  ·rfl
theorem PD (f:Qn):∀n,Qv f (n+1)=f 0+Qv (fun k=>f (k+1)) n
 |0=>by simp[Qv]
 |n+1=>by
   rw[Qv,PD f n];show _=f 0+(Qv (fun k=>f (k+1)) n+f (n+1))
   omega
theorem P3 (f:Qn):∀n,Qv (fun t=>f (n-1-t)) n=Qv f n
 |0=>rfl
 |n+1=>by
   rw[PD];show f (n+1-1-0)+Qv (fun k=>f (n+1-1-(k+1))) n=Qv f n+f n
   rw[Zb (g:=fun k=>f (n-1-k)) (fun k hk=>by congr 1;omega),P3 f n,show n+1-1-0=n by omega]
   omega
def Gm (l:Ln):Ln:=⟨l.up,l.bs.reverse⟩
def bkY (y:Yd):Yd:=⟨y.T,y.ls.map Gm⟩
def bkG (T:Nat)(g:Gs):Gs:=⟨g.line,T-1-g.last,T-1-g.first,g.want,g.most⟩
theorem Hn (y:Yd):(bkY y).ls.length=y.ls.length:=by simp[bkY]
theorem DK (y:Yd)(k:Nat):QS (bkY y) k=QS y k:=by
 unfold QS bkY;rw[Xk];cases y.ls[k]?<;>rfl
theorem Rv {y:Yd}(ok:y.Ok):(bkY y).Ok:=by
 have ln:=Hn y
 refine⟨ok.t1,ok.t8,by rw[ln];exact ok.l1,by rw[ln];exact ok.l5,by rw[DK];exact ok.up0,fun k h1 h2=>?_,fun l hl=>?_,fun l hl b hb=>?_⟩
 ·rw[DK]
  exact ok.ups k h1 (by rw[ln]at h2;exact h2)
 ·obtain⟨l0,h0,rfl⟩:=Xw.mp hl
  show l0.bs.reverse.length=y.T
  rw[List.length_reverse];exact ok.bl l0 h0
 ·obtain⟨l0,h0,rfl⟩:=Xw.mp hl
  exact ok.bb l0 h0 b (List.mem_reverse.mp hb)
theorem Fa {y:Yd}{g:Gs}(h:g.Ok y):(bkG y.T g).Ok (bkY y):=⟨by rw[Hn];exact h.ln,by have:=h.fl;show y.T-1-g.last<=y.T-1-g.first;omega,by have:=h.lt;show y.T-1-g.first<y.T;omega,h.w1,h.w2,h.m1,h.m2⟩
theorem FJ {y:Yd}(ok:y.Ok)(k:Nat){t:Nat}(ht:t<y.T):Zg (bkY y) k t=Zg y k (y.T-1-t):=by
 unfold Zg bkY;rw[Xk];cases e:y.ls[k]? with
 |none=>simp
 |some l =>
   have bl:=ok.bl l (List.mem_of_getElem? e)
   show(l.bs.reverse).getD t 0=l.bs.getD (y.T-1-t) 0
   simp only[List.getD];rw[List.getElem?_reverse (by omega),bl]
theorem HQ (f:Gs->Gs):∀(gs:List Gs) (S:Qm),VX (gs.map f) S=(VX gs S).map f
 |[],_=>rfl
 |g::r,S=>by
   show(if S 0=true then f g::VX (r.map f) (fun k=>S (k+1)) else VX (r.map f) (fun k=>S (k+1)))=(if S 0=true then g::VX r (fun k=>S (k+1)) else VX r (fun k=>S (k+1))).map f
   rw[HQ f r];split<;>rfl
theorem AY {y:Yd}(ok:y.Ok){gs:List Gs}(hg:∀g∈gs,g.Ok y)(S:Qm){t:Nat}(ht:t<y.T):Zf (bkY y) (gs.map (bkG y.T)) (QE (gs.map (bkG y.T)) S) t=Zf y gs (QE gs S) (y.T-1-t):=by
 unfold Zf;refine Zkx (Hn y) (DK y) (funext fun k=>FJ ok k ht) (funext fun l=>?_)
 rw[P6,P6,HQ,XI];congr 1
 refine X4 fun g hgp=>?_
 have gk:=hg g ((HS gs S).mem hgp)
 have a:=gk.fl
 have b:=gk.lt
 show wG (t:Int) l (bkG y.T g)=wG ((y.T-1-t:Nat):Int) l g
 unfold wG;have e:V3 (bkG y.T g) (t:Int)=V3 g ((y.T-1-t:Nat):Int):=by
  unfold V3 bkG;dsimp only;rw[Bool.and_comm];congr 1
  ·exact decide_eq_decide.mpr (by omega)
  ·exact decide_eq_decide.mpr (by omega)
 rw[e];rfl
theorem RL {y:Yd}(ok:y.Ok){gs:List Gs}(hg:∀g∈gs,g.Ok y)(S:Qm):Z4 (gs.map (bkG y.T)) (QE (gs.map (bkG y.T)) S)=Z4 gs (QE gs S)/\∀f:Int->Int,Qv (fun t=>f (Zf (bkY y) (gs.map (bkG y.T)) (QE (gs.map (bkG y.T)) S) t)) (bkY y).T=Qv (fun t=>f (Zf y gs (QE gs S) t)) y.T:=by
 refine⟨?_,fun f=>?_⟩
 ·rw[TH,TH,HQ,XI]
  rfl
 ·show Qv _ y.T=_
  rw[Zb (g:=fun t=>f (Zf y gs (QE gs S) (y.T-1-t))) (fun t ht=>by rw[AY ok hg S ht])]
  exact P3 (fun t=>f (Zf y gs (QE gs S) t)) y.T
theorem Ez {y:Yd}(ok:y.Ok){gs:List Gs}{p:Int}(n:∀S,Zs y (Q5 gs) S<=0)(k:IsPeak y gs p):p<=Jm y:=by
 refine Int.not_lt.mp fun c=>?_
 have t0:0<=Jm y:=GG fun t _=>DQ ok 0 t
 obtain⟨S,hS⟩:=k.less (by omega)
 have a:=n S
 rw[UW]at a;rw[WV ok]at hS;have e:ZN (Zf y gs (QE gs S)) y.T (p-1)=Qv (Zf y gs (QE gs S)) y.T:=Zb fun t ht=>by
  have:=Tq ok gs (QE gs S) ht
  omega
 omega
theorem TZ (gs:List Gs)(k:Int)(t:Int)(l:Nat):∀sm:Qk,Zr (gs.map fun g=>Z8 g k) t l sm=Zr gs t l sm*k
 |[]=>by simp[Zr]
 |j::r=>by
   simp only[Zr];rw[TZ gs k t l r,Uq];congr 1
   rw[Xk];cases gs[j]? with
   |none=>simp
   |some g =>
     simp only[XS];by_cases h:g.line=l/\V3 g t=true
     ·rw[Xc (show(Z8 g k).line=l/\V3 (Z8 g k) t=true from h),Xc h]
      rfl
     ·rw[Xb (show ¬((Z8 g k).line=l/\V3 (Z8 g k) t=true) from h),Xb h]
      simp
theorem KF (y:Yd)(gs:List Gs)(sm:Qk){k:Int}(h:0<=k)(t:Nat):Zf (Zp y k) (gs.map fun g=>Z8 g k) sm t=Zf y gs sm t*k:=by
 unfold Zf VZ;have hu:∀j,QS (Zp y k) j=QS y j:=fun j=>by
  simp only[QS,Zp,Xk];cases y.ls[j]?<;>rfl
 have hb:(fun j=>Zg (Zp y k) j t)=fun j=>Zg y j t*k:=by
  funext j
  simp only[Zg,Zp,Xk];cases y.ls[j]? with
  |none=>simp
  |some ln =>
    simp only[XS,Wm,Jw,List.getD,Xk];cases ln.bs[t]?<;>simp
 have ho:(fun l=>Zr (gs.map fun g=>Z8 g k) (t:Int) l sm)=fun l=>Zr gs (t:Int) l sm*k:=by
  funext l
  exact TZ gs k t l sm
 rw[hb,ho,TU h hu (by simp[Zp])]
theorem UN (gs:List Gs)(f:Gs->Gs)(S:Qm):QE (gs.map f) S=QE gs S:=by unfold QE;rw[Xm]
theorem KE (gs:List Gs)(k:Int)(S:Qm):Z4 (gs.map fun g=>Z8 g k) (QE gs S)=k*Z4 gs (QE gs S):=by
 have key:∀sm:Qk,(∀j∈sm,j<gs.length)->Z4 (gs.map fun g=>Z8 g k) sm=k*Z4 gs sm:=fun sm=>by
  induction sm with
  |nil=>intro _;simp[Z4]
  |cons j r ih =>
    intro hm;have ih:=ih fun j hj=>hm j (Xe _ hj)
    have hj:=hm j Xd
    unfold Z4 at ih ⊢;rw[Xt,Xt,WA,WA,ih,WC];congr 1
    simp only[List.getD,Xk,Xx hj,XS,Wm,Z8];exact XD ..
 exact key _ fun j hj=>Xr.mp (X6.mp hj).1
theorem Le (y:Yd)(gs:List Gs){k:Int}(h:0<=k)(S:Qm):Zs (Zp y k) (Q5 (gs.map fun g=>Z8 g k)) S=k*Zs y (Q5 gs) S:=by
 rw[UW,UW,UN,KE,Ye,<- Jb];congr 1
 show Qv _ y.T=_
 exact Zb fun t _=>by rw[KF y gs _ h,XD]
theorem Te {y:Yd}(ok:y.Ok)(gs:List Gs){k:Int}(h:0<=k)(okk:(Zp y k).Ok)(S:Qm)(q:Int):Zs (Zq (Zp y k) (k*q)) (Q5 (gs.map fun g=>Z8 g k)) S=k*Zs (Zq y q) (Q5 gs) S:=by
 rw[WV okk,WV ok,UN,KE,Ye];unfold ZN;rw[<- Jb];congr 1
 show Qv _ y.T=_
 refine Zb fun t _=>?_
 rw[KF y gs _ h,XD k q,Hy h,XD]
theorem Zm8 {y:Yd}(ok:y.Ok){gs:List Gs}{k p:Int}(h:0<k)(okk:(Zp y k).Ok)(n:∀S,Zs y (Q5 gs) S<=0)(pk:IsPeak y gs p){r:OT}(b:JQ (Zp y k) (gs.map fun g=>Z8 g k) r):∃p',p'<=k*p/\(0<p->k*(p-1)<p')/\r=.fz (.int p'):=by
 have k0:0<=k:=by omega
 have neg:∀{z:Int},z<=0->k*z<=0:=fun hz=>Int.mul_nonpos_of_nonneg_of_nonpos k0 hz
 rcases b with ⟨p',n',k',rfl⟩|⟨⟨S',hS'⟩,rfl⟩
 ·refine⟨p',Int.not_lt.mp fun c=>?_,fun z=>Int.not_le.mp fun c=>?_,rfl⟩
  ·obtain⟨S,hS⟩:=k'.less (by have:=JF k0 pk.nn;omega)
   have a:=HE okk (gs.map fun g=>Z8 g k) S (p:=k*p) (q:=p'-1) (by omega)
   rw[Te ok gs k0 okk]at a;have:=neg (pk.all S)
   omega
  ·obtain⟨S,hS⟩:=pk.less z
   have a:=HE okk (gs.map fun g=>Z8 g k) S (p:=p') (q:=k*(p-1)) c
   rw[Te ok gs k0 okk]at a;have b:=k'.all S
   have:=Int.mul_pos h hS
   omega
 ·rw[Le y gs k0]at hS'
  have:=neg (n S')
  omega
theorem Zm7 {y:Yd}{gs:List Gs}{k:Int}(h:0<k){S:Qm}(hS:0<Zs y (Q5 gs) S){r:OT}(b:JQ (Zp y k) (gs.map fun g=>Z8 g k) r):r=.fz .none:=by
 rcases b with ⟨p',n',k',rfl⟩|⟨_,rfl⟩
 ·have a:=n' S
  rw[Le y gs (by omega)]at a;have:=Int.mul_pos h hS
  omega
 ·rfl
structure NxS (y:Yd)(gs:List Gs)(A T:Qm)(f:Fr):Prop where
 ok:f.Ok
 le:f.t<=f.b
 up:Up gs.length (Q6 gs) (QO y gs) A f.t f.b
 dis:∀k,k<gs.length->T k=true->A k=false
 ne:∃k,k<gs.length/\T k=true
 tight:f.t<f.b->(f.t:Int)*wS gs.length (Q6 gs) T=(f.b:Int)*(QO y gs (fun k=>A k||T k)-QO y gs A)
 all:f.t=f.b->∀k,k<gs.length->T k = !A k
 grow:f.t<f.b->∀U:Nat->Bool,(∀k,k<gs.length->U k=true->A k=false/\T k=false)->1<=wS gs.length (Q6 gs) U ->
  (f.t:Int)*wS gs.length (Q6 gs) U<(f.b:Int)*(QO y gs (fun k=>(A k||T k)||U k)-QO y gs (fun k=>A k||T k))
theorem NextOk.nxs {y:Yd}{gs:List Gs}{A T:Qk}{p q:Int}{f:Fr}(N:NextOk y gs A p q f T):NxS y gs (Q4 A) (Q4 T) f:=by
 refine⟨N.fr.ok,N.le,N.up,fun k _ e=>XF (N.dis k (Xz e)),?_,N.tight,fun e k hk=>?_,N.grow⟩
 ·obtain⟨k,hk⟩:=MR _ N.ne
  exact⟨k,N.nd.mem k hk,Yk hk⟩
 ·rw[N.all e]
  unfold Q4 JV;by_cases c:k∈A<;>simp[hk,c]
theorem NxS.le_next {y:Yd}{gs:List Gs}(G:Giv gs.length (Q6 gs) (QO y gs)){A T T':Qm}{f f':Fr}(N:NxS y gs A T f)(N':NxS y gs A T' f'):f'.t*f.b<=f.t*f'.b:=by
 have b1:=N.ok.1
 have b2:=N'.ok.1
 by_cases c:f.t<f.b
 ·have h1:=N'.up T N.dis
  have h2:=N.tight c
  obtain⟨k,hk,e⟩:=N.ne
  have hw:=G.wp hk e
  generalize wS gs.length (Q6 gs) T=W at h1 h2 hw;generalize QO y gs (fun k=>A k||T k)-QO y gs A=X at h1 h2
  have g1:(f.b:Int)*((f'.t:Int)*W)<=(f.b:Int)*((f'.b:Int)*X):=XO h1 (by omega)
  have g2:(f.b:Int)*((f'.b:Int)*X)=(f'.b:Int)*((f.t:Int)*W):=by rw[h2,Gc]
  have g3:((f'.t:Int)*(f.b:Int))*W<=((f.t:Int)*(f'.b:Int))*W:=by
   have q1:(f.b:Int)*((f'.t:Int)*W)=((f'.t:Int)*(f.b:Int))*W:=by rw[<- XB,XD (f.b:Int)]
   have q2:(f'.b:Int)*((f.t:Int)*W)=((f.t:Int)*(f'.b:Int))*W:=by rw[<- XB,XD (f'.b:Int)]
   omega
  have g4:=Nn g3 (by omega)
  rw[<- Jf,<- Jf]at g4;exact Ga.mp g4
 ·have e:f.t=f.b:=by have:=N.le;omega
  rw[e,Uz f.b];exact Nat.mul_le_mul_right _ N'.le
theorem NxS.sub_next {y:Yd}{gs:List Gs}(G:Giv gs.length (Q6 gs) (QO y gs)){A T T':Qm}{f:Fr}(N:NxS y gs A T f)(N':NxS y gs A T' f)(lt:f.t<f.b){k:Nat}(hk:k<gs.length)(hT:T' k=true):T k=true:=by
 refine Decidable.byContradiction fun c=>?_
 have hw:1<=wS gs.length (Q6 gs) (fun k=>T' k && !T k):=G.wp hk (by simp[hT,c])
 have g1:=N.grow lt (fun k=>T' k && !T k) (fun k hk e=>by
  obtain⟨e1,e2⟩:=Us.mp e
  exact⟨N'.dis k hk e1,by simpa using e2⟩) hw
 have g2:=G.sub (fun k=>A k||T k) (fun k=>A k||T' k)
 have e1:QO y gs (fun k=>(A k||T k)||(A k||T' k))=QO y gs (fun k=>(A k||T k)||(T' k && !T k)):=G.ext _ _ fun k _=>by cases A k<;>cases T k<;>cases T' k<;>rfl
 have e2:QO y gs (fun k=>(A k||T k)&&(A k||T' k))=QO y gs (fun k=>A k||(T k&&T' k)):=G.ext _ _ fun k _=>by cases A k<;>cases T k<;>cases T' k<;>rfl
 have g3:=N.up (fun k=>T k&&T' k) fun k hk e=>N.dis k hk (Us.mp e).1
 have g4:=N'.tight lt
 have e3:wS gs.length (Q6 gs) T'=wS gs.length (Q6 gs) (fun k=>T k&&T' k)+wS gs.length (Q6 gs) (fun k=>T' k && !T k):=WP fun k _=>by cases c1:T k<;>cases c2:T' k<;>simp
 rw[e1,e2]at g2;rw[e3]at g4;have b1:=N.ok.1
 generalize QO y gs (fun k=>(A k||T k)||(T' k && !T k))=x1 at g1 g2
 generalize QO y gs (fun k=>A k||T k)=x2 at g1 g2
 generalize QO y gs (fun k=>A k||(T k&&T' k))=x3 at g2 g3
 generalize QO y gs (fun k=>A k||T' k)=x4 at g2 g4
 generalize QO y gs A=x5 at g3 g4;have g5:(f.b:Int)*(x1+x3)<=(f.b:Int)*(x2+x4):=XO g2 (by omega)
 simp only[Ye,WC]at g1 g3 g4 g5;omega
theorem NxS.same {y:Yd}{gs:List Gs}(G:Giv gs.length (Q6 gs) (QO y gs)){A T T':Qm}{f f':Fr}(N:NxS y gs A T f)(N':NxS y gs A T' f'):f=f'/\∀k,k<gs.length->T k=T' k:=by
 have e:f=f':=NS N.ok N'.ok (Nat.le_antisymm (N'.le_next G N) (N.le_next G N'))
 subst e;refine⟨rfl,fun k hk=>?_⟩
 by_cases c:f.t<f.b
 ·exact Uv.mpr ⟨N'.sub_next G N c hk,N.sub_next G N' c hk⟩
 ·have e:f.t=f.b:=by have:=N.le;omega
  rw[N.all e k hk,N'.all e k hk]
structure Like (y:Yd)(gs:List Gs)(y':Yd)(gs':List Gs)(π:Nat->Nat)(c:Int):Prop where
 len:gs'.length=gs.length
 c0:0<c
 inj:∀j k,j<gs.length->k<gs.length->π j=π k->j=k
 sur:∀j,j<gs.length->∃k,k<gs.length/\π k=j
 lt:∀k,k<gs.length->π k<gs.length
 wa:∀S:Nat->Bool,Z4 gs' (QE gs' fun k=>S (π k))=c*Z4 gs (QE gs S)
 gt:∀(S:Qm) (f:Int->Int),Qv (fun t=>f (Zf y' gs' (QE gs' fun k=>S (π k)) t)) y'.T=Qv (fun t=>f (c*Zf y gs (QE gs S) t)) y.T
def Gx (m:Nat)(π:Nat->Nat)(S:Qm):Qm:=fun j=>(List.range m).any fun k=>decide (π k=j)&&S k
section
variable {y y':Yd}{gs gs':List Gs}{π:Nat->Nat}{c:Int}
theorem Like.push (L:Like y gs y' gs' π c)(S:Qm){k:Nat}(hk:k<gs.length):Gx gs.length π S (π k)=S k:=by
 unfold Gx;rw[Uv,List.any_eq_true];constructor
 ·rintro⟨i,hi,e⟩
  obtain⟨e1,e2⟩:=Us.mp e
  rw[<- L.inj i k (Xr.mp hi) hk (Xz e1)];exact e2
 ·exact fun e=>⟨k,Xr.mpr hk,by simp[e]⟩
theorem GR (gs:List Gs)(S:Qm):wS gs.length (Q6 gs) S=Z4 gs (QE gs S):=(Ba (Q6 gs) S gs.length).symm
theorem Like.wSs (L:Like y gs y' gs' π c)(S:Qm):wS gs'.length (Q6 gs') (fun k=>S (π k))=c*wS gs.length (Q6 gs) S:=by
 rw[GR,GR];exact L.wa S
theorem Like.gv (L:Like y gs y' gs' π c)(S:Qm):QO y' gs' (fun k=>S (π k))=c*QO y gs S:=by
 unfold QO Vb;rw[Va,Va,<- Jb];exact L.gt S fun z=>z
theorem Like.back (L:Like y gs y' gs' π c)(G:Giv gs'.length (Q6 gs') (QO y' gs')){A T A' T':Qm}{f:Fr}(hA:∀k,k<gs.length->A' k=A (π k))(hT:∀k,k<gs.length->T' k=T (π k))(N:NxS y' gs' A' T' f):NxS y gs A T f:=by
 have c0:=L.c0
 have ln:=L.len
 have e0:QO y' gs' A'=c*QO y gs A:=by rw[<- L.gv];exact G.ext _ _ fun k hk=>hA k (by omega)
 have e1:wS gs'.length (Q6 gs') T'=c*wS gs.length (Q6 gs) T:=by rw[<- L.wSs];exact BI fun k hk=>hT k (by omega)
 have e2:QO y' gs' (fun k=>A' k||T' k)=c*QO y gs (fun k=>A k||T k):=by rw[<- L.gv];exact G.ext _ _ fun k hk=>by rw[hA k (by omega),hT k (by omega)]
 have sc:∀(b W X Z:Int),b*(c*X-c*Z)=c*(b*(X-Z)):=fun b W X Z=>by rw[<- Ye,Gc]
 refine⟨N.ok,N.le,fun S hS=>?_,fun k hk e=>?_,?_,fun lt=>?_,fun e k hk=>?_,fun lt U hU hw=>?_⟩
 ·have h:=N.up (fun k=>S (π k)) fun k hk e=>by rw[hA k (by omega)];exact hS _ (L.lt k (by omega)) e
  have e3:QO y' gs' (fun k=>A' k||S (π k))=c*QO y gs (fun k=>A k||S k):=by rw[<- L.gv];exact G.ext _ _ fun k hk=>by rw[hA k (by omega)]
  rw[L.wSs,e3,e0,Gc,sc _ 0]at h;exact Bq h c0
 ·obtain⟨j,hj,rfl⟩:=L.sur k hk
  rw[<- hA j hj];exact N.dis j (by omega) (by rw[hT j hj];exact e)
 ·obtain⟨k,hk,e⟩:=N.ne
  exact⟨π k,L.lt k (by omega),by rw[<- hT k (by omega)];exact e⟩
 ·have h:=N.tight lt
  rw[e1,e2,e0,Gc,sc _ 0]at h;exact Int.eq_of_mul_eq_mul_left (by omega) h
 ·obtain⟨j,hj,rfl⟩:=L.sur k hk
  rw[<- hA j hj,<- hT j hj];exact N.all e j (by omega)
 ·have h:=N.grow lt (fun k=>U (π k)) (fun k hk e=>by rw[hA k (by omega),hT k (by omega)];exact hU _ (L.lt k (by omega)) e) (by
   rw[L.wSs];have:1*1<=c*wS gs.length (Q6 gs) U:=Bk (by omega) hw (by omega) (by omega)
   omega)
  have e3:QO y' gs' (fun k=>(A' k||T' k)||U (π k))=c*QO y gs (fun k=>(A k||T k)||U k):=by rw[<- L.gv];exact G.ext _ _ fun k hk=>by rw[hA k (by omega),hT k (by omega)]
  rw[L.wSs,e3,e2,Gc,sc _ 0]at h;exact Nk h (by omega)
theorem Like.levels (L:Like y gs y' gs' π c)(G:Giv gs.length (Q6 gs) (QO y gs))(G':Giv gs'.length (Q6 gs') (QO y' gs')):∀{A A':Qk} {p q p' q':Int} {lv lv':List (Fr×Qk)},Lev y gs A p q lv->Lev y' gs' A' p' q' lv'->(∀k,k<gs.length->(k∈A'↔π k∈A))->∀k,k<gs.length->∀d:PyData,
 lv'.foldl (fun d l=>if k∈l.2 then Zu l.1 else d) d=lv.foldl (fun d l=>if π k∈l.2 then Zu l.1 else d) d
 |_,_,_,_,_,_,_,_,.nil _,.nil _,_,_,_,_=>rfl
 |_,_,_,_,_,_,_,_,.nil a,.cons N _,h,_,_,_=>by
   obtain⟨k,hk⟩:=MR _ N.ne
   have kl:=N.nd.mem k hk
   rw[L.len]at kl;exact Xl ((h k kl).mpr (a _ (L.lt k kl))) (N.dis k hk)
 |_,_,_,_,_,_,_,_,.cons N _,.nil a,h,_,_,_=>by
   obtain⟨k,hk⟩:=MR _ N.ne
   obtain⟨j,hj,rfl⟩:=L.sur k (N.nd.mem k hk)
   exact Xl ((h j hj).mp (a j (by rw[L.len];exact hj))) (N.dis _ hk)
 |A,A',_,_,_,_,_,_,@Lev.cons _ _ _ _ _ f T _ N r,@Lev.cons _ _ _ _ _ f' T' _ N' r',h,k,hk,d=>by
   obtain⟨e,eT⟩:=N.nxs.same G (L.back G' (A:=Q4 A) (T:=Gx gs.length π (Q4 T')) (fun k hk=>decide_eq_decide.mpr (h k hk)) (fun k hk=>(L.push _ hk).symm) N'.nxs)
   subst e;have em:∀k,k<gs.length->(k∈T'↔π k∈T):=fun k hk=>by
    have:=eT (π k) (L.lt k hk)
    rw[L.push _ hk]at this;exact(decide_eq_decide.mp this).symm
   rw[List.foldl_cons,List.foldl_cons];have ei:(if k∈T' then Zu f else d)=(if π k∈T then Zu f else d):=by
    by_cases z:k∈T'
    ·rw[Xc z,Xc ((em k hk).mp z)]
    ·rw[Xb z,Xb fun q=>z ((em k hk).mpr q)]
   show List.foldl _ (if k∈T' then Zu f else d) _=List.foldl _ (if π k∈T then Zu f else d) _
   rw[ei];exact Like.levels L G G' r r' (fun k hk=>by rw[XG,XG,h k hk,em k hk]) k hk _
theorem Like.shares (L:Like y gs y' gs' π c)(G:Giv gs.length (Q6 gs) (QO y gs))(G':Giv gs'.length (Q6 gs') (QO y' gs')){lv lv':List (Fr×Qk)}(h:Lev y gs [] 0 1 lv)(h':Lev y' gs' [] 0 1 lv'):(List.range gs'.length).map (shL lv')=(List.range gs.length).map fun k=>shL lv (π k):=by
 rw[L.len];exact X4 fun k hk=>L.levels G G' h h' (fun k _=>by simp) k (Xr.mp hk) _
theorem Like.short (L:Like y gs y' gs' π c)(S:Qm):Zs y' (Q5 gs') (fun k=>S (π k))=c*Zs y (Q5 gs) S:=by
 rw[Wk,Wk,L.wa,Ye];congr 1
 exact L.gv S
theorem Like.to (L:Like y gs y' gs' π c)(S':Qm):QE gs' S'=QE gs' fun k=>Gx gs.length π S' (π k):=HY fun k hk=>(L.push S' (by rw[<- L.len];exact hk)).symm
theorem Like.lack (L:Like y gs y' gs' π c){n:Int}(h:IsLack y gs n):IsLack y' gs' (c*n):=by
 obtain⟨S,e⟩:=h.top
 refine⟨⟨fun k=>S (π k),by rw[L.short,e]⟩,fun S'=>?_⟩
 rw[Wk,L.to S',<- Wk,L.short];exact XO (h.le _) (Int.le_of_lt L.c0)
end
theorem Like.sim {y y':Yd}{gs gs':List Gs}{π:Nat->Nat}(L:Like y gs y' gs' π 1):Sim y gs y' gs'/\Sim y' gs' y gs:=by
 refine⟨fun S=>⟨fun k=>S (π k),by rw[L.wa,YQ],fun f=>?_⟩,fun S'=>⟨Gx gs.length π S',?_,fun f=>?_⟩⟩
 ·rw[L.gt]
  exact Zb fun t _=>by rw[YQ]
 ·rw[L.to S',L.wa,YQ]
 ·rw[L.to S',L.gt]
  exact Zb fun t _=>by rw[YQ]
def Ym (gs:List Gs)(ord:Qk):List Gs:=ord.map fun j=>gs.getD j default
theorem ZmD (y:Yd){gs:List Gs}{ord:Qk}(h:ord.Perm (List.range gs.length)):Like y gs y (Ym gs ord) (fun k=>ord.getD k 0) 1:=by
 have ln:ord.length=gs.length:=by rw[h.length_eq,J9]
 have lg:(Ym gs ord).length=gs.length:=by unfold Ym;rw[Xm,ln]
 have nd:ord.Nodup:=h.symm.nodup Bn
 have at':∀{k:Nat} (hk:k<gs.length),ord.getD k 0=ord[k]'(by omega):=fun{k} hk=>by simp[List.getD,show k<ord.length by omega]
 have lt:∀k,k<gs.length->ord.getD k 0<gs.length:=fun k hk=>by
  rw[at' hk];exact Xr.mp (h.mem_iff.mp (XL _))
 have em:ord=(List.range gs.length).map fun k=>ord.getD k 0:=by
  refine MG (by simp[ln]) fun i h1 h2=>?_
  rw[List.getElem_map,List.getElem_range,at' (by omega)]
 have sm:∀F:Nat->Int,Qv (fun k=>F (ord.getD k 0)) gs.length=Qv F gs.length:=fun F=>by
  rw[<- Va,<- Va,<- P1 F h];conv=>rhs;rw[em]
  rw[XI];rfl
 have ge:∀{k:Nat},k<gs.length->(Ym gs ord)[k]?=gs[ord.getD k 0]? := fun{k} hk=>by
  unfold Ym;rw[Xk,Xx (show k<ord.length by omega),Xx (lt k hk)]
  show some (gs.getD _ default)=_
  rw[<- at' hk,YO (lt k hk)]
 refine⟨lg,by decide,fun j k hj hk e=>?_,fun j hj=>?_,lt,fun S=>?_,fun S f=>?_⟩
 ·rw[at' hj,at' hk]at e
  exact(List.getElem_inj nd).mp e
 ·obtain⟨k,hk,e⟩:=List.mem_iff_getElem.mp (h.mem_iff.mpr (Xr.mpr hj))
  exact⟨k,by omega,by rw[at' (by omega)];exact e⟩
 ·rw[YQ,<- GR,<- GR,lg]
  unfold wS;rw[<- sm (Zh S (Q6 gs))];refine Zb fun k hk=>?_
  have e:Q6 (Ym gs ord) k=Q6 gs (ord.getD k 0):=by
   unfold Q6;rw[List.getD,ge hk];rfl
  unfold Zh;rw[e]
 ·refine Zb fun t _=>?_
  rw[YQ];congr 1
  unfold Zf;rw[show VZ (Ym gs ord) t (QE (Ym gs ord) fun k=>S (ord.getD k 0))=VZ gs t (QE gs S) from funext fun l=>?_]
  unfold VZ QE;rw[Bb,Bb,lg,<- sm (fun k=>if S k=true then wgt gs (t:Int) l k else 0)]
  refine Zb fun k hk=>?_
  unfold wgt;simp only[ge hk]
theorem Ak {y:Yd}{gs:List Gs}{ord:Qk}(h:ord.Perm (List.range gs.length))(s:Sml y gs):Sml y (Ym gs ord):=by
 have mem:∀g∈Ym gs ord,g∈gs:=fun g hg=>by
  obtain⟨j,hj,rfl⟩:=Xw.mp hg
  have hj:=Xr.mp (h.mem_iff.mp hj)
  rw[YO hj];exact XL hj
 refine⟨s.ok,fun g hg=>s.hg g (mem g hg),?_,s.b30,fun g hg=>s.w30 g (mem g hg)⟩
 unfold Ym;rw[Xm,h.length_eq,J9];exact s.g8
theorem Tm {y y':Yd}{gs gs':List Gs}{c:Int}(ln:gs'.length=gs.length)(c0:0<c)(wa:∀S,Z4 gs' (QE gs' S)=c*Z4 gs (QE gs S))(gt:∀(S:Qm) (f:Int->Int),Qv (fun t=>f (Zf y' gs' (QE gs' S) t)) y'.T=Qv (fun t=>f (c*Zf y gs (QE gs S) t)) y.T):Like y gs y' gs' (fun k=>k) c :=
 ⟨ln,c0,fun _ _ _ _ e=>e,fun j hj=>⟨j,hj,rfl⟩,fun _ hk=>hk,wa,gt⟩
theorem IS {y:Yd}{gs:List Gs}(ok:y.Ok)(hg:∀g∈gs,g.Ok y):Like y gs (bkY y) (gs.map (bkG y.T)) (fun k=>k) 1 :=
 Tm (by simp) (by decide) (fun S=>by rw[(RL ok hg S).1,YQ]) fun S f=>by
  rw[(RL ok hg S).2 f];exact Zb fun t _=>by rw[YQ]
theorem Cb {y:Yd}{gs:List Gs}(s:Sml y gs):Sml (bkY y) (gs.map (bkG y.T)):=by
 refine⟨Rv s.ok,fun g hg=>?_,by rw[Xm];exact s.g8,fun l hl b hb=>?_,fun g hg=>?_⟩
 ·obtain⟨g0,h0,rfl⟩:=Xw.mp hg
  exact Fa (s.hg g0 h0)
 ·obtain⟨l0,h0,rfl⟩:=Xw.mp hl
  exact s.b30 l0 h0 b (List.mem_reverse.mp hb)
 ·obtain⟨g0,h0,rfl⟩:=Xw.mp hg
  exact s.w30 g0 h0
theorem ZlR (y:Yd)(gs:List Gs){k:Int}(h:0<k):Like y gs (Zp y k) (gs.map fun g=>Z8 g k) (fun k=>k) k :=
 Tm (by simp) h (fun S=>by rw[UN,KE]) fun S f=>Zb fun t _=>by rw[UN,KF y gs _ (Int.le_of_lt h),XD]
theorem Ia {K:W.Frag}{ρ:QG}{ta tb:TE}{Φ:OT->Prop}{Φ':List OT->Prop}{d2:PyData}(h:Zy K ta ρ Φ)(h2:Qt K tb ρ d2)(hi:∀r,Φ r->∃d,U6 r=some d/\Φ' [.fz d,.fz d2]):VG K (QZ ta (QZ tb Zm)) ρ Φ':=fun H0 F σ H Q S q =>
 h H0 F σ H _ S fun F1 H1 v p r hr x hp ok=>by
  obtain⟨d,ed,hp'⟩:=hi r hr
  have x1:QA F H (frF F1 H1 p) H1:=⟨x.hh,x.ff.trans (J0 fun a ha=>(ok.there a ha).1),UP x.fh,fun a ha=>by
   by_cases z:a∈p
   ·exact .inr (hp a z)
   ·rw[Y1 z]at ha;exact x.fr a ha⟩
  exact h2 H0 _ σ H1 _ (S.ext x1) fun F2 H2 u x2 r2=>q F2 H2 [v,u] _ hp' (x1.trans x2) (.fz ((ok.frz ed).mono x2.ff) (.fz r2 .nil))
section
variable {ρ:QG}{ta:TE}{t:TA}
theorem Eu:VG K Zm ρ (fun ts=>ts=[]):=fun H0 F σ H Q S q=>q F H [] [] rfl (QA.refl S.sub) .nil
theorem Kf {Φ:OT->Prop}{Φ2:List OT->Prop}(h:Zy K ta ρ Φ)(hf:∀r,Φ r->∃d,r=.fz d)(h2:VG K t ρ Φ2):VG K (QZ ta t) ρ (fun ts=>∃d ts',Φ (.fz d)/\Φ2 ts'/\ts=.fz d::ts'):=fun H0 F σ H Q S q =>
 h H0 F σ H _ S fun F1 H1 v p r hr x hp ok=>by
  obtain⟨d,rfl⟩:=hf r hr
  exact h2 H0 F1 σ H1 _ (S.ext x) fun F2 H2 vs ts ht x2 r2=>q F2 H2 _ _ ⟨d,ts,hr,ht,rfl⟩ (x.trans x2) (.fz (ok.2.mono x2.ff) r2)
theorem Fq {ΦA:List OT->Prop}{Φ:OT->Prop}(h:VG K t ρ ΦA)(hi:∀ts,ΦA ts->∃ds,ts=fzs ds/\ds.length<=1000/\Φ (.ol ds)):Zy K (Gp t) ρ Φ:=fun H0 F σ H Q S q =>
 h H0 F σ H _ S fun F1 H1 vs ts ht x1 r1=>by
  obtain⟨ds,rfl,hl,hp'⟩:=hi ts ht
  refine⟨by rw[r1.reps.length];exact XZ (Vv hl),fun p hp=>?_⟩
  obtain⟨a,b,c⟩:=UM (K:=K) x1 hp r1.reps
  exact q _ _ _ _ _ hp' a b c
end
structure AllOk (y:Yd)(gs:List Gs)(lv:List (Fr×Qk))(n:Int)(pd:PyData):Prop where
 lv:Lev y gs [] 0 1 lv
 lack:IsLack y gs n
 peak:JQ y gs (.fz pd)
def Yv (gs:List Gs)(lv:List (Fr×Qk))(n:Int)(pd:PyData):Qd:=[.list ((List.range gs.length).map (shL lv)),.int n,pd]
inductive R_lall:List OT->(OT->Prop)->Prop
 |mk {y:Yd} {gs:List Gs} (sm:Sml y gs):R_lall [.fz (QY y),.fz (.list (gs.map QH))] (fun r=>∃lv n pd,AllOk y gs lv n pd/\r=.ol (Yv gs lv n pd))
theorem La:Qp ["_law_yard_here","_law_guests_here","_law_shares_here"] ["_law_yard_here","_law_guests_here"] (Q1 Kx):=by walk_at"p"
theorem CN (T:Bl mg) (D:Df K mg "_law_all" Kx ["_law_yard_here","_law_guests_here"]) (Xcp:Q0 P w K mg base "fair_levels" ["yard","guests"] 9 (Zt K R_levels)) (Xcq:Q0 P w K mg base "_law_shares" ["_law_levels","_law_many"] 1 (Q7 (K:=K) R_lshares)) (Xcr:Q0 P w K mg base "least_lack" ["yard","guests"] 7 (Zt K R_least)) (Xcs:Q0 P w K mg base "_law_peak" ["_law_yard_here","_law_guests_here"] 9 (Zt K R_lwpeak)):Q0 P w K mg base "_law_all" ["_law_yard_here","_law_guests_here"] 10 (Zt K R_lall):=by
 refine D.evD La (fun ts Φ h=>by cases h;rfl) (fun _ _ _ _ s H E ts Φ hr h=>?_)
 cases h with
 |@mk y gs sm =>
   refine⟨_,(Q2 (QJ (i:=2) La.nd rfl Qa (Q9 Xcq hr (Qo (Q9 Xcp hr (Qo (pv 0) (Qo (pv 1) Qs))) (Qo (Z5 Yx (by rfl) T.len Yz (Qo (pv 1) Qs)) Qs))))
 (QB (QV (Vj (Qo (pv 2) (Qo (Q9 Xcr hr (Qo (pv 0) (Qo (pv 1) Qs))) (Qo (Q9 Xcs hr (Qo (pv 0) (Qo (pv 1) Qs))) Qs))))))),?_⟩
   show Q3 K _ [some _,some _,none] _
   walk_at"x"
   have ok:=sm.ok
   have hg:=sm.hg
   have g8:=sm.g8
   have hgo:∀g∈gs,GOk y g:=fun g h=>BF (hg g h)
   have gl:(gs.map QH).length=gs.length:=by simp
   refine QI (VS (Φ:=fun r=>∃lv,Lev y gs [] 0 1 lv/\r=.ol ((List.range gs.length).map (shL lv))) (Pj (ΦA:=fun ts=>∃lv,Lev y gs [] 0 1 lv/\ts=[.fz (.list (lv.map Wu)),.fz (.int (gs.length:Int))]) (Ia (Vh (Qu (Qq rfl) (Qu (Qq rfl) QD)) (R_levels.mk sm)) (Qt.cast (Ua (Qq rfl)) (by rw[gl])) (fun r ⟨lv,h,_,e⟩=>⟨.list (lv.map Wu),by rw[e];rfl,lv,h,rfl⟩)) (fun ts ⟨lv,h,e⟩=>⟨_,by rw[e];exact R_lshares.mk g8 fun l hl k hk=>(h.fr l hl).2.2.mem k hk,lv,h,rfl⟩)) (fun r hr'=>?_))
   obtain⟨lv,hL,rfl⟩:=hr'
   walk_at"d"
   refine V9 2 rfl ?_
   walk_at"d"
   refine GH (Fq (Kf (Φ:=fun r=>r=.fz (.list ((List.range gs.length).map (shL lv)))) (EvO.d (Qt.o (Qq rfl)) rfl) (fun r e=>⟨_,e⟩) (Kf (Vh (Qu (Qq rfl) (Qu (Qq rfl) QD)) (R_least.mk ok hgo g8)) (fun r ⟨φ,_,e⟩=>⟨_,e⟩) (Kf (Vh (Qu (Qq rfl) (Qu (Qq rfl) QD)) (R_lwpeak.mk ok hg g8)) (fun r h=>h.elim (fun⟨p,_,_,e⟩=>⟨_,e⟩) (fun⟨_,e⟩=>⟨_,e⟩)) Eu))) (Φ:=fun r=>∃lv n pd,AllOk y gs lv n pd/\r=.ol (Yv gs lv n pd)) ?hi) (fun r h=>h)
   case hi =>
    rintro _ ⟨d1,_,e1,⟨d2,_,⟨φ,full,e2⟩,⟨d3,_,h3,rfl,rfl⟩,rfl⟩,rfl⟩
    injection e1 with e1
    injection e2 with e2
    subst e1;subst e2;exact⟨_,rfl,by show(3:Nat)<=1000;decide,lv,_,d3,⟨hL,IE ok hgo full,h3⟩,rfl⟩
def V7 (n:Int):Nat->Qk×Int
 |0=>([],n)
 |i+1=>((V7 n i).1.take ((V7 n i).2%((i:Int)+1)).toNat++i::(V7 n i).1.drop ((V7 n i).2%((i:Int)+1)).toNat,(V7 n i).2/((i:Int)+1))
theorem Kb (n:Int):∀i:Nat,(V7 n i).1.Perm (List.range i)
 |0=>.nil
 |i+1=>by
   rw[Y6];refine List.perm_middle.trans ?_
   rw[List.take_append_drop];exact((Kb n i).cons i).trans (List.perm_append_singleton i _).symm
inductive R_order:List OT->OT->Prop
 |mk {n:Int} {m:Nat} (hm:m<=8):R_order [.fz (.int n),.fz (.int (m:Int))] (.ol (QN (V7 n m).1))
theorem MA:Qp ["_law_number_here","_law_many","_law_order_here","_law_k"] ["_law_number_here","_law_many"] (Q1 K7):=by walk_at"p"
theorem AG (T:Bl mg) (D:Df K mg "_law_order" K7 ["_law_number_here","_law_many"]):Q0 P w K mg base "_law_order" ["_law_number_here","_law_many"] 1 (Q7 (K:=K) R_order):=by
 refine D.ev MA (fun ts r h=>by cases h;rfl) (fun _ _ _ _ s H E ts r hr h=>?_)
 cases h with
 |@mk n m hm =>
   refine⟨_,(Q2 (QJ (i:=2) MA.nd rfl Qa (Vj Qs))
 (Q2 (VB PassesOwn.never rfl (Yp rfl T.range (Qo (pv 1) Qs)) (Za (i:=3) MA.nd rfl Qa) (Q2 (ZV (YY PySem.F.plainAttrs_list PySem.F.slot_list_insert PySem.F.type_list_insert O0 (pv 2) (Qo (QF Vi (pv 0) (QF VP (pv 3) Qy)) (Qo (pv 3) Qs))))
 (QB (QJ (i:=0) MA.nd rfl Qa (QF Vk (pv 0) (QF VP (pv 3) Qy))))))
 (QB (QV (pv 2))))),?_⟩
   show Q3 K _ [some _,some _,none,none] _
   walk_at"x"
   refine QI (VO (Yy (ds:=[]) Z2 (by decide)) ?_)
   walk_at"d"
   refine QI (Wj (ds:=ZY 0 (m:Int).toNat) (fun i=>[some (.fz (.int (V7 n i).2)),some (.fz (.int (m:Int))),some (.ol (QN (V7 n i).1)),none]) ?ei ⟨rfl,rfl,rfl,trivial⟩ ?st ?fin)
   case ei=>exact WT (Qu (Qq rfl) QD) (by rw[z62];omega) (by rw[z62];omega)
   case fin =>
    intro ρ' hf;rw[Ja,XH]at hf;exact Wx hf (GE rfl rfl)
   case st =>
    intro i d hd;obtain⟨hi,rfl⟩:=WZ hd
    rw[XH]at hi;have ln:(V7 n i).1.length=i:=by rw[(Kb n i).length_eq,J9]
    have lD:(QN (V7 n i).1).length=i:=by unfold QN;rw[Xm,ln]
    have p0:(0:Int)<(i:Int)+1:=by omega
    have r0:=JI (V7 n i).2 (show(i:Int)+1≠0 by omega)
    have r1:=Ge (V7 n i).2 p0
    refine⟨_,Zw,?_⟩
    walk_at"d"
    rw[YS];refine QI (O2 (ds:=QN (V7 n i).1) (d:=.int (i:Int)) (k:=(V7 n i).2%((i:Int)+1)) rfl (ZS (Qq rfl) (VA (Qq rfl) Ze) (mdl p0)) (Qq rfl) r0 (by omega) (by omega) ?_)
    walk_at"d"
    refine ZU (ZS (Qq rfl) (VA (Qq rfl) Ze) (Gj p0 (by omega))) ?_
    walk_at"d"
    refine⟨rfl,rfl,?_,trivial⟩
    show some (OT.ol _)=some (OT.ol (QN ((V7 n i).1.take _++i::(V7 n i).1.drop _)))
    unfold QN;rw[Xy,Xt,List.map_take,List.map_drop]
inductive R_back:List OT->OT->Prop
 |mk {y:Yd} {gs:List Gs} (ok:y.Ok) (hg:∀g∈gs,g.Ok y) (g8:gs.length<=8):R_back [.fz (QY y),.fz (.list (gs.map QH))] (.fz (.tuple [QY (bkY y),.list ((gs.map (bkG y.T)).map QH)]))
theorem W8:Qp ["_law_yard_here","_law_guests_here","_law_turns","_law_lines","_law_other","_law_found","_law_line","_law_first","_law_last","_law_want","_law_most"] ["_law_yard_here","_law_guests_here"] (Q1 M1):=by walk_at"p"
theorem Aq (T:Bl mg) (D:Df K mg "_law_back" M1 ["_law_yard_here","_law_guests_here"]):Q0 P w K mg base "_law_back" ["_law_yard_here","_law_guests_here"] 1 (Q7 (K:=K) R_back):=by
 refine D.ev W8 (fun ts r h=>by cases h;rfl) (fun _ _ _ _ s H E ts r hr h=>?_)
 cases h with
 |@mk y gs ok hg g8 =>
   refine⟨_,(Q2 (UI (pv 0) (YJ (n:=2) rfl (ZI (Za (i:=2) W8.nd rfl Qa) (ZI (Za (i:=3) W8.nd rfl Qa) YN))))
 (Q2 (QJ (i:=4) W8.nd rfl Qa (ZB (Qo (pv 2) (Qo (WU UT (by rfl) T.tuple UR (Qo (Vq (NX:=["_law_yard_here","_law_guests_here","_law_turns","_law_lines","_law_other","_law_found","_law_line","_law_first","_law_last","_law_want","_law_most"]) (sc:=Q1 M1) (N:=["_law_above","_law_bounds"]) (f:=[none,none]) rfl (by decide +kernel) rfl rfl (BG (pv 3)) (fun _=>(YJ (n:=2) rfl (ZI (Za (i:=0) (show(["_law_above","_law_bounds"]:Qh).Nodup by decide +kernel) rfl Qa) (ZI (Za (i:=1) (show(["_law_above","_law_bounds"]:Qh).Nodup by decide +kernel) rfl Qa) YN)))) (fun _=>(BA (n:=2) (Jy ZC (Jy ZC BM)))) (fun _=>Vg) (fun _=>(ZB (Qo (pv 0) (Qo (ZmV (pv 1) Hg Hg (SG (NG R9 Qy))) Qs))))) Qs)) Qs))))
 (Q2 (QJ (i:=5) W8.nd rfl Qa (Vj Qs))
 (Q2 (VB PassesOwn.never rfl (V2 (pv 1)) (YJ (n:=5) rfl (ZI (Za (i:=6) W8.nd rfl Qa) (ZI (Za (i:=7) W8.nd rfl Qa) (ZI (Za (i:=8) W8.nd rfl Qa) (ZI (Za (i:=9) W8.nd rfl Qa) (ZI (Za (i:=10) W8.nd rfl Qa) YN)))))) (QB (ZV (YY PySem.F.plainAttrs_list PySem.F.slot_list_append PySem.F.type_list_append W6 (pv 5) (Qo (ZB (Qo (pv 6) (Qo (QF YI (QF YI (pv 2) Qy) (pv 8)) (Qo (QF YI (QF YI (pv 2) Qy) (pv 7)) (Qo (pv 9) (Qo (pv 10) Qs)))))) Qs)))))
 (QB (QV (ZB (Qo (pv 4) (Qo (pv 5) Qs))))))))),?_⟩
   show Q3 K _ [some _,some _,none,none,none,none,none,none,none,none,none] _
   walk_at"x"
   have t1:=ok.t1
   have t8:=ok.t8
   have l5:=ok.l5
   refine QI (DA (Qq rfl) (Wr (ds:=[PyData.int (y.T:Int),.tuple (y.ls.map ZH)]) (Vr Zw (Vr Zw WN)) rfl) ?_)
   walk_at"d"
   refine QI (ZU (d:=QY (bkY y)) (Qt.cast (V0 (Zl (Qq rfl) (Zl (G8 (EvO.fz (V8 (xs:=y.ls) (enc:=ZH) (h:=fun l=>ZH (Gm l)) ?ei (by omega) ?el))) Z2)) YB) ?yd) ?_)
   case ei=>exact D9 (Qq rfl)
   case el =>
    intro l hl c;have bl:=ok.bl l hl
    refine⟨_,Wr (ds:=[upD l.up,.tuple (l.bs.map PyData.int)]) (Vr Zw (Vr Zw WN)) rfl,?_⟩
    walk_at"e"
    exact V0 (Zl (Qq rfl) (Zl (Qt.cast (Ax (c := -1) (Qq rfl) BJ BJ (DP (Nt (g:=fun i => -i) (x:=1) Ze)) (by decide) (by decide) (by rw[S5];simp;omega)) (by rw[S5,<- List.map_reverse];rfl)) Z2)) YB
   case yd =>
    unfold bkY;show _=PyData.tuple [.int (y.T:Int),.tuple ((y.ls.map Gm).map ZH)]
    rw[show(y.ls.map Gm).map ZH=y.ls.map fun l=>ZH (Gm l) from by rw[XI];rfl]
   walk_at"d"
   refine QI (VO (Yy (ds:=[]) Z2 (by decide)) ?_)
   walk_at"d"
   refine QI (Wj (ds:=gs.map QH) (fun i=>[some (.fz (QY y)),some (.fz (.list (gs.map QH))),some (.fz (.int (y.T:Int))),some (.fz (.tuple (y.ls.map ZH))),some (.fz (QY (bkY y))),some (.ol (((gs.take i).map (bkG y.T)).map QH)),none,none,none,none,none]) (VQ (Qq rfl)) ⟨rfl,rfl,rfl,rfl,rfl,rfl,trivial⟩ ?st ?fin)
   case st =>
    intro i d hd;have hi:i<gs.length:=by
     have:=(Xh.mp hd).1
     simpa using this
    obtain rfl:d=QH gs[i]:=by simpa [hi] using hd.symm
    have gk:=hg _ (XL hi)
    have tk:gs.take (i+1)=gs.take i++[gs[i]]:=by rw[WB,Xx hi];rfl
    generalize gs[i]=g at gk tk;have a:=gk.fl
    have b:=gk.lt
    refine⟨_,Wr (ds:=[.int (g.line:Int),.int (g.first:Int),.int (g.last:Int),.int g.want,.int g.most]) (Vr Zw (Vr Zw (Vr Zw (Vr Zw (Vr Zw WN))))) rfl,?_⟩
    walk_at"d"
    refine GP (d:=QH (bkG y.T g)) rfl (Qt.cast (V0 (Zl (Qq rfl) (Zl (VA (VA (Qq rfl) Ze) (Qq rfl)) (Zl (VA (VA (Qq rfl) Ze) (Qq rfl)) (Zl (Qq rfl) (Zl (Qq rfl) Z2))))) (by show(5:Nat)<=1000;decide)) ?eg) (by simp;omega) ?_
    case eg =>
     show _=PyData.tuple [.int (g.line:Int),.int ((y.T-1-g.last:Nat):Int),.int ((y.T-1-g.first:Nat):Int),.int g.want,.int g.most]
     rw[show(y.T:Int)-1-(g.last:Int)=((y.T-1-g.last:Nat):Int) by omega,show(y.T:Int)-1-(g.first:Int)=((y.T-1-g.first:Nat):Int) by omega]
    walk_at"d"
    refine⟨rfl,rfl,rfl,rfl,rfl,?_,trivial⟩
    rw[tk,Xy,Xy];rfl
   case fin =>
    intro ρ' hf;rw[Xm,Wn]at hf;refine Wx hf ?_
    refine V9 5 rfl ?_
    walk_at"d"
    exact ZG (V0 (Zl (Qq rfl) (Zl (Qq rfl) Z2)) YB) rfl
theorem FK (lv:List (Fr×Qk))(k:Nat):Vd 1 (shL lv k):=by
 have key:∀(lv:List (Fr×Qk)) (d:PyData),Vd 1 d->Vd 1 (lv.foldl (fun d l=>if k∈l.2 then Zu l.1 else d) d):=fun lv=>by
  induction lv with
  |nil=>exact fun d h=>h
  |cons l r ih =>
    intro d h;rw[List.foldl_cons];refine ih _ ?_
    split
    ·exact LJ l.1
    ·exact h
 exact key lv .none (SK 1)
theorem RP (lv:List (Fr×Qk))(m:Nat):Vd 2 (.list ((List.range m).map (shL lv))):=Su (FA fun k=>FK lv k)
theorem A0 {y:Yd}{gs:List Gs}{pd:PyData}(h:JQ y gs (.fz pd))(m:Nat):Vd m pd:=by
 rcases h with ⟨p,_,_,e⟩|⟨_,e⟩
 ·injection e with e
  rw[e];exact BL p m
 ·injection e with e
  rw[e];exact SK m
theorem Pm {y:Yd}{gs:List Gs}{lv:List (Fr×Qk)}{n:Int}{pd:PyData}(h:AllOk y gs lv n pd):YE (.list (Yv gs lv n pd)):=(Su (m:=2) (GM (RP lv gs.length) (GM (BL n 2) (GM (A0 h.peak 2) Sd)))).fine (by decide)
theorem LO {a b:Int}{m n:Nat}(h1:a.natAbs<2^m)(h3:b.natAbs<2^n)(h4:m+n<=100000):IntMulOk a b:=by
 have bl:∀{x:Int} {m:Nat},x.natAbs<2^m->Builtin.Int.intBits x<=m:=fun{x m} h2=>by
  unfold Builtin.Int.intBits;by_cases e:x=0
  ·subst e;simp
  ·have e1:(x==0)=false:=by simpa using e
   rw[e1];have h1:x.natAbs≠0:=by omega
   have:=(Nat.log2_lt h1).mpr h2
   simp only[X8,if_false];omega
 have ba:=bl h1
 have bb:=bl h3
 unfold IntMulOk;have:Builtin.Int.intTooBig (Builtin.Int.intBits a+Builtin.Int.intBits b)=false:=by
  unfold Builtin.Int.intTooBig;have hb:(100000:Nat)<=bitsLine:=by decide
  exact XF (by omega)
 rw[this];simp
theorem Sml.top {y:Yd}{gs:List Gs}(h:Sml y gs):Jm y<=8*10^60:=by
 have h1:Jm y<=Qv (fun _=>(10:Int)^60) y.T:=Vs fun t ht=>by
  have l1:=h.ok.l1
  have hb:Zg y 0 t=(ZA y 0).bs.getD t 0:=Mm (by omega)
  rw[hb];have e:ZA y 0∈y.ls:=by
   have:ZA y 0=y.ls[0]:=by unfold ZA;rw[List.getD,Xx (by omega)];rfl
   rw[this];exact XL _
  have e2:t<(ZA y 0).bs.length:=by rw[h.ok.bl _ e];exact ht
  have e3:(ZA y 0).bs.getD t 0=(ZA y 0).bs[t]:=by simp[List.getD,e2]
  rw[e3];exact Int.le_of_lt (h.b30 _ e _ (XL e2))
 rw[D0]at h1;have:=h.ok.t8
 omega
theorem IsLack.nn {y:Yd}{gs:List Gs}(ok:y.Ok){n:Int}(h:IsLack y gs n):0<=n:=by
 have e:Zs y (Q5 gs) (fun _=>false)=0:=by
  rw[Wk];have:QE gs (fun _=>false)=[]:=List.filter_eq_nil_iff.mpr fun k _ c=>nomatch c
  rw[this,Na ok];rfl
 have:=h.le fun _=>false
 omega
theorem IsLack.most {y:Yd}{gs:List Gs}(s:Sml y gs){n:Int}(h:IsLack y gs n):n<=8*10^60:=by
 obtain⟨S,e⟩:=h.top
 rw[Wk]at e;have h1:=s.want S
 rw[GR]at h1;have h2:0<=Vb y gs (QE gs S):=s.giv.nn S
 omega
inductive R_tright:List OT->OT->Prop
 |mk {y:Yd} {gs:List Gs} {k:Int} {lv lv':List (Fr×Qk)} {n n':Int} {pd pd':PyData} (sm:Sml y gs) (k1:1<=k) (k2:k<=10^30) (okk:(Zp y k).Ok) (h:AllOk y gs lv n pd) (h':AllOk (Zp y k) (gs.map fun g=>Z8 g k) lv' n' pd') (es:(List.range (gs.map fun g=>Z8 g k).length).map (shL lv')=(List.range gs.length).map (shL lv)) (en:n'=k*n) :
  R_tright [.fz (.list (Yv gs lv n pd)),.fz (.list (Yv (gs.map fun g=>Z8 g k) lv' n' pd')),.fz (.int k)] (.fz (.bool true))
theorem ZeL:Qp ["_law_one","_law_other","_law_k"] ["_law_one","_law_other","_law_k"] (Q1 Nf):=by walk_at"p"
theorem Oe (T:Bl mg) (D:Df K mg "_law_times_right" Nf ["_law_one","_law_other","_law_k"]):Q0 P w K mg base "_law_times_right" ["_law_one","_law_other","_law_k"] 1 (Q7 (K:=K) R_tright):=by
 refine D.ev ZeL (fun ts r h=>by cases h;rfl) (fun _ _ _ _ s H E ts r hr h=>?_)
 have hu:=hr.units
 cases h with
 |@mk y gs k lv lv' n n' pd pd' sm k1 k2 okk h h' es en =>
   refine⟨_,(Q2 (VW (PW.pt (NJ (Vf (RZ hu) (QM QL (pv 1) Qy) (QM QL (pv 0) Qy) (ZT _)) (NJ (Vf NH (QM QL (pv 1) Qy) (QF WS (pv 2) (QM QL (pv 0) Qy)) (ZT _)) (LR (Vf (RZ hu) (RY (DV (QM QL (pv 0) Qy))) (RY (DV (QM QL (pv 1) Qy))) (ZT _)))))) (QB (QV L6)) Yb)
 (Q2 (VW (UG (DV (QM QL (pv 0) Qy))) (QB (QV (GN Jp (QM QL (pv 0) Qy) Qy (ZT _)))) Yb)
 (QB (QV (Hb (GN UF (QM QL (pv 0) Qy) Qy (ZT _)) (DJ (Pi B4 Dz (QF WS (pv 2) (QF YI (QM QL (pv 0) Qy) Qy)) (QM QL (pv 1) Qy) (QF WS (pv 2) (QM QL (pv 0) Qy))))))))),?_⟩
   show Q3 K _ [some _,some _,some _] _
   walk_at"x"
   have n0:=h.lack.nn sm.ok
   have n1:=h.lack.most sm
   have k300:k<10^300:=X9 k2 (by decide +kernel)
   have n300:n<10^300:=X9 n1 (by decide +kernel)
   unfold Yv;rw[es];have ia:∀{ρ:QG} {i:Int} {d:PyData},ρ[0]?=some (some (.fz (.list [.list ((List.range gs.length).map (shL lv)),.int n,pd])))->atI [.list ((List.range gs.length).map (shL lv)),.int n,pd] i=some d->Qt K (tOp (rIx K) (Zc 0) (tC (.int i))) ρ d:=fun e h=>WO (Qq e) Ze h
   have ib:∀{ρ:QG} {i:Int} {d:PyData},ρ[1]?=some (some (.fz (.list [.list ((List.range gs.length).map (shL lv)),.int n',pd'])))->atI [.list ((List.range gs.length).map (shL lv)),.int n',pd'] i=some d->Qt K (tOp (rIx K) (Zc 1) (tC (.int i))) ρ d:=fun e h=>WO (Qq e) Ze h
   have fs:YE (.list ((List.range gs.length).map (shL lv))):=(RP lv gs.length).fine (by decide)
   have hp:(pd=.none/\pd'=.none/\0<n)\/∃p p',pd=.int p/\pd'=.int p'/\n=0/\0<=p/\p<=8*10^60/\k*(p-1)<p'/\p'<=k*p:=by
    rcases h.peak with ⟨p,ns,pk,e⟩|⟨⟨S,hS⟩,e⟩
    ·obtain⟨p',q1,q2,e'⟩:=Zm8 sm.ok (k:=k) (by omega) okk ns pk h'.peak
     injection e with e
     injection e' with e'
     refine .inr ⟨p,p',e,e',?_,pk.nn,Int.le_trans (Ez sm.ok ns pk) sm.top,?_,q1⟩
     ·obtain⟨S,eS⟩:=h.lack.top
      have:=ns S
      omega
     ·by_cases z:0<p
      ·exact q2 z
      ·have p0:p=0:=by have:=pk.nn;omega
       have:0<=p':=by
        rcases h'.peak with ⟨p2,_,pk',e2⟩|⟨_,e2⟩
        ·rw[e']at e2
         injection e2 with e2
         injection e2 with e2
         rw[e2];exact pk'.nn
        ·rw[e']at e2
         cases e2
       rw[p0];show k*(-1)<p'
       omega
    ·have e':=Zm7 (k:=k) (by omega) hS h'.peak
     injection e with e
     injection e' with e'
     refine .inl ⟨e,e',?_⟩
     have:=h.lack.le S
     omega
   have isN:∀{ρ:QG} {ta tb:TE},Qt K ta ρ pd->Qt K tb ρ pd'->Qt K (tOp MW (Bv ta) (Bv tb)) ρ (.bool false):=fun ha hb=>by
    rcases hp with ⟨rfl,rfl,_⟩|⟨p,p',rfl,rfl,_⟩
    ·exact Qt.cast (B8 (JW ha) (JW hb) ((BT _ 0).fine (by decide)) ((BT _ 0).fine (by decide))) rfl
    ·exact Qt.cast (B8 (JW ha) (JW hb) ((BT _ 0).fine (by decide)) ((BT _ 0).fine (by decide))) rfl
   refine QI (YW (b:=false) (Du (b:=false) (c:=false) (Z9.cast (Ya (B8 (ib rfl rfl) (ia rfl rfl) fs fs)) (by rw[HL fs];rfl)) (fun _=>Du (b:=false) (c:=false) (Z9.cast (Ya (NW (ib rfl rfl) (ZS (Qq rfl) (ia rfl rfl) (W0 (by omega) k300 n0 n300)))) (by rw[en];simp)) (fun _=>Ya (isN (ia rfl rfl) (ib rfl rfl))))) (fun c=>nomatch c) (fun _=>Yj ?_))
   rcases hp with ⟨rfl,rfl,np⟩|⟨p,p',rfl,rfl,nz,p0,p1,q1,q2⟩
   ·refine QI (YW (b:=true) (Z9.cast (Ya (JW (ia rfl rfl))) rfl) (fun _=>?_) (fun c=>nomatch c))
    exact ZG (Qt.cast (Js (ia rfl rfl) Ze) (ZD PyData.bool (Yk np))) rfl
   ·refine QI (YW (b:=false) (Z9.cast (Ya (JW (ia rfl rfl))) rfl) (fun c=>nomatch c) (fun _=>Yj ?_))
    have p300:p<10^300:=X9 p1 (by decide +kernel)
    have m1:IntMulOk k (p-1):=LO (m:=1000) (n:=1000) (by
     have:k<2^1000:=X9 k2 (by decide +kernel)
     rw[p2c]at this;omega) (by
     have:p<2^1000:=X9 p1 (by decide +kernel)
     rw[p2c]at this;have:2<=2^1000:=by decide +kernel
     omega) (by decide)
    refine ZG (Qt.cast (DE (b:=true) (c:=true) (Qt.cast (B9 (ia rfl rfl) Ze) (ZD PyData.bool (Yk nz))) (fun _=>Qt.cast (Sl (ZS (Qq rfl) (VA (ia rfl rfl) Ze) m1) (ib rfl rfl) (ZS (Qq rfl) (ia rfl rfl) (W0 (by omega) k300 p0 p300))) ?cc)) rfl) rfl
    case cc =>
     have z1:decide (k*(p-1)<p')=true:=Yk q1
     have z2:decide (p'<=k*p)=true:=Yk q2
     rw[z1,z2];rfl
theorem YL:Qp ["_law_script","_law_yard_here","_law_guests_here","_law_number_here","_law_one","_law_way","_law_order_here","_law_turned","_law_other","_law_others","_law_k","_law_times"] ["_law_script"] (Q1 YG):=by walk_at"p"
theorem FI {f:Addr} {fd:FuncData} (T:Bl mg) (F:Fun K "law" "law" YG f fd) (Xct:Q0 P w K mg base "_law_yard" ["_law_script"] 3 (Q7 (K:=K) R_yard)) (Xcu:Q0 P w K mg base "_law_guests" ["_law_script","_law_yard_here"] 3 (Q7 (K:=K) R_guests)) (XbC:Q0 P w K mg base "_law_number" ["_law_script","_law_k"] 2 (Q7 (K:=K) R_number)) (XbU:Q0 P w K mg base "_law_all" ["_law_yard_here","_law_guests_here"] 10 (Zt K R_lall))
 (Xcv:Q0 P w K mg base "_law_order" ["_law_number_here","_law_many"] 1 (Q7 (K:=K) R_order)) (Xcw:Q0 P w K mg base "_law_back" ["_law_yard_here","_law_guests_here"] 1 (Q7 (K:=K) R_back)) (XbT:Q0 P w K mg base "yard_times" ["yard","k"] 2 (Q7 (K:=K) R_ydtimes)) (XbS:Q0 P w K mg base "guests_times" ["guests","k"] 2 (Q7 (K:=K) R_gsstimes))
 (Xcx:Q0 P w K mg base "_law_whole" ["_law_found"] 1 (Q7 (K:=K) R_whole)) (Xcy:Q0 P w K mg base "_law_times_right" ["_law_one","_law_other","_law_k"] 1 (Q7 (K:=K) R_tright)) :
 FnOk P w K mg base CX0 11 f fd ["_law_script"] (BD K):=by
 refine F.evLaw YL (fun cdv A outer s H E ns hr hl hb=>?_)
 have hs:ScrOk ns:=⟨hl,hb⟩
 have hu:=hr.units
 refine⟨_,(Q2 (QJ (i:=1) YL.nd rfl Qa (Q9 Xct hr (Qo (pv 0) Qs)))
 (Q2 (QJ (i:=2) YL.nd rfl (Or.inr rfl) (Q9 Xcu hr (Qo (pv 0) (Qo (pv 1) Qs))))
 (Q2 (QJ (i:=3) YL.nd rfl Qa (Q9 XbC hr (Qo (pv 0) (Qo Qy Qs))))
 (Q2 (QJ (i:=4) YL.nd rfl (Or.inr rfl) (Q9 XbU hr (Qo (pv 1) (Qo (WU Ho (by rfl) T.list Hi (Qo (pv 2) Qs)) Qs))))
 (Q2 (QJ (i:=5) YL.nd rfl Qa (QF Vi (QF Vk (pv 3) Qy) Qy))
 (Q2 (VW (Vf UF (pv 5) Qy (ZT _)) (Q2 (QJ (i:=6) YL.nd rfl Qa (Q9 Xcv hr (Qo (QF Vk (pv 3) Qy) (Qo (Z5 Yx (by rfl) T.len Yz (Qo (pv 2) Qs)) Qs))))
 (Q2 (QJ (i:=7) YL.nd rfl Qa (Q9 XbU hr (Qo (pv 1) (Qo (Vq (NX:=["_law_script","_law_yard_here","_law_guests_here","_law_number_here","_law_one","_law_way","_law_order_here","_law_turned","_law_other","_law_others","_law_k","_law_times"]) (sc:=Q1 YG) (N:=["_law_k","_law_guests_here"]) (f:=[none,some 2]) rfl (by decide +kernel) rfl rfl (V2 (pv 6)) (fun _=>(Za (i:=0) (show(["_law_k","_law_guests_here"]:Qh).Nodup by decide +kernel) rfl Qa)) (fun _=>ZC) (fun _=>Vg) (fun _=>(QM QL (pv 1) (pv 0)))) Qs))))
 (QB (QV (GN (RE hu) (pv 7) (Vj (Qo (Vq (NX:=["_law_script","_law_yard_here","_law_guests_here","_law_number_here","_law_one","_law_way","_law_order_here","_law_turned","_law_other","_law_others","_law_k","_law_times"]) (sc:=Q1 YG) (N:=["_law_k","_law_one"]) (f:=[none,some 4]) rfl (by decide +kernel) rfl rfl (V2 (pv 6)) (fun _=>(Za (i:=0) (show(["_law_k","_law_one"]:Qh).Nodup by decide +kernel) rfl Qa)) (fun _=>ZC) (fun _=>Vg) (fun _=>(QM QL (QM QL (pv 1) Qy) (pv 0)))) (Qo (QM QL (pv 4) Qy) (Qo (QM QL (pv 4) Qy) Qs)))) (ZT _)))))) Yb)
 (Q2 (VW (Vf UF (pv 5) Qy (ZT _)) (Q2 (UI (Q9 Xcw hr (Qo (pv 1) (Qo (pv 2) Qs))) (YJ (n:=2) rfl (ZI (Za (i:=8) YL.nd rfl Qa) (ZI (Za (i:=9) YL.nd rfl Qa) YN))))
 (QB (QV (GN (RE hu) (Q9 XbU hr (Qo (pv 8) (Qo (pv 9) Qs))) (pv 4) (ZT _))))) Yb)
 (Q2 (QJ (i:=10) YL.nd rfl Qa (QF VP Qy (QF Vi (QF Vk (pv 3) (QF BC Qy Qy)) (QM QL (Vj (Qo Qy (Qo (QF BC Qy Qy) Qs))) (QF Vi (pv 3) Qy)))))
 (Q2 (QJ (i:=11) YL.nd rfl Qa (Q9 XbU hr (Qo (Q9 XbT hr (Qo (pv 1) (Qo (pv 10) Qs))) (Qo (Q9 XbS hr (Qo (WU Ho (by rfl) T.list Hi (Qo (pv 2) Qs)) (Qo (pv 10) Qs))) Qs))))
 (QB (QV (Hb (Q9 Xcx hr (Qo (QM QL (pv 4) Qy) Qs)) (DJ (Q9 Xcy hr (Qo (pv 4) (Qo (pv 11) (Qo (pv 10) Qs))))))))))))))))),?_⟩
 show Q3 K _ [some _,none,none,none,none,none,none,none,none,none,none,none] _
 walk_at"x"
 have ok:=O4 ns
 have y30:=IJ ns
 generalize hy:YH ns=y at ok y30;have hg:=Zkl ok ns
 have g8:=Zjh ns y
 have g30:=Zk0 ok ns
 generalize hgs:Jx ns y=gs at hg g8 g30;have gl:(gs.map QH).length=gs.length:=by simp
 have p36:∀{a:Int},a<10^30->a<10^60:=fun h=>WE h (by decide +kernel)
 have sm:Sml y gs:=⟨ok,hg,g8,fun l hl b hb=>p36 (y30 l hl b hb),fun g h=>⟨p36 (g30 g h).1,p36 (g30 g h).2⟩⟩
 walk_at"s1";rw[hy]
 walk_at"s1";rw[hgs]
 refine V9 2 rfl ?_
 walk_at"d"
 refine QI (ZU (Zj (NY rfl (Qu Ze QD)) (R_number.mk hs (by decide) (by decide))) ?_)
 walk_at"d"
 generalize Vt ns 14=nb;refine QI (VS (Vh (Qu (Qq rfl) (Qu (EvO.fz (Hd (Qq rfl))) QD)) (R_lall.mk sm)) (fun r hr'=>?_))
 obtain⟨lv,n,pd,al,rfl⟩:=hr'
 walk_at"d"
 refine V9 4 rfl ?_
 walk_at"d"
 have fal:=Pm al
 have c2:(0:Int)<2:=by decide
 have c3:(0:Int)<3:=by decide
 refine QI (ZU (d:=.int (nb/2%3)) (ZS (ZS (Qq rfl) Ze (Gj c2 (by decide))) Ze (mdl c3)) ?_)
 walk_at"d"
 have ix:∀{ρ:QG} {i:Int} {d:PyData},ρ[4]?=some (some (.fz (.list (Yv gs lv n pd))))->atI (Yv gs lv n pd) i=some d->Qt K (tOp (rIx K) (Zc 4) (tC (.int i))) ρ d:=fun e h=>WO (Qq e) Ze h
 refine QI (YW (Ya (B9 (Qq rfl) Ze)) (fun c=>?_) (fun c=>Yj ?_))
 ·have pm:=Kb (nb/6) gs.length
  have c6:(0:Int)<6:=by decide
  refine QI (VO (G9 (Qu (ZS (Qq rfl) Ze (Gj c6 (by decide))) (Qu (Qt.cast (Ua (Qq rfl)) (by rw[gl])) QD)) (R_order.mk g8)) ?_)
  walk_at"d"
  generalize (V7 (nb/6) gs.length).1=ord at pm;have ol:ord.length=gs.length:=by rw[pm.length_eq,J9]
  have om:∀j∈ord,j<gs.length:=fun j hj=>Xr.mp (pm.mem_iff.mp hj)
  have L:=ZmD y pm
  have sm':=Ak pm sm
  refine V9 6 rfl ?_
  walk_at"d"
  refine QI (VS (Vh (Qu (Qq rfl) (Qu (d:=.list ((Ym gs ord).map QH)) (Qt.cast (EvO.fz (V8 (xs:=ord) (enc:=fun(j:Nat)=>PyData.int (j:Int)) (h:=fun j=>QH (gs.getD j default)) (VQ (Qq rfl)) (by omega) ?el)) ?eo) QD)) (R_lall.mk sm')) (fun r hr'=>?_))
  case eo =>
   unfold Ym;rw[XI];rfl
  case el =>
   intro j hj c;have hj':=om j hj
   refine⟨_,Zw,?_⟩
   walk_at"e"
   exact WO (Qq rfl) (Qq rfl) (by rw[GF (f:=QH) (by omega) (by omega),XH])
  obtain⟨lv',n',pd',al',rfl⟩:=hr'
  walk_at"d"
  refine V9 7 rfl ?_
  walk_at"d"
  have e1:=L.shares sm.giv sm'.giv al.lv al'.lv
  have e2:n'=n:=by
   have:=al'.lack.uniq (L.lack al.lack)
   rw[YQ]at this;exact this
  have e3:pd'=pd:=by
   have:=Sim.res ok ok L.sim.1 L.sim.2 al.peak al'.peak
   injection this
  have e4:((List.range gs.length).map fun k=>shL lv (ord.getD k 0))=ord.map (shL lv):=by
   refine MG (by simp[ol]) fun i h1 h2=>?_
   have hi:i<ord.length:=by simpa using h2
   simp[List.getD,hi]
  have eA:Yv (Ym gs ord) lv' n' pd'=[.list (ord.map (shL lv)),.int n,pd]:=by
   unfold Yv;rw[e1,e2,e3,e4]
  have fa:=Pm al'
  rw[eA]at fa ⊢;refine ZG (Qt.cast (DF (Qq rfl) (EvO.fz (Yy (ds:=[.list (ord.map (shL lv)),.int n,pd]) (Zl (EvO.fz (V8 (xs:=ord) (enc:=fun(j:Nat)=>PyData.int (j:Int)) (h:=shL lv) (VQ (Qq rfl)) (by omega) ?el2)) (Zl (ix rfl rfl) (Zl (ix rfl rfl) Z2))) (by show(3:Nat)<=1000;decide))) fa fa) (by rw[HL fa])) rfl
  case el2 =>
   intro j hj c;have hj':=om j hj
   refine⟨_,Zw,?_⟩
   walk_at"e"
   refine WO (ds:=(List.range gs.length).map (shL lv)) (WO (ds:=Yv gs lv n pd) (Qq rfl) Ze rfl) (Qq rfl) ?_
   rw[GF (f:=shL lv) (by omega) (by simp;omega),XH]
   simp[List.getD,hj']
 refine QI (YW (Ya (B9 (Qq rfl) Ze)) (fun c'=>?_) (fun c'=>Yj ?_))
 ·refine QI (DA (Zj (Qu (Qq rfl) (Qu (Qq rfl) QD)) (R_back.mk ok hg g8)) (Wr (ds:=[QY (bkY y),.list ((gs.map (bkG y.T)).map QH)]) (Vr Zw (Vr Zw WN)) rfl) ?_)
  walk_at"d"
  have L:=IS ok hg
  have sm':=Cb sm
  refine ZG (Qt.cast (DF (a:=.list (Yv gs lv n pd)) (EvO.fz (Zy.o (Zy.imp (Vh (Qu (Qq rfl) (Qu (Qq rfl) QD)) (R_lall.mk sm')) ?im))) (Qq rfl) fal fal) (by rw[HL fal])) rfl
  case im =>
   rintro r ⟨lv',n',pd',al',rfl⟩
   have e1:=L.shares sm.giv sm'.giv al.lv al'.lv
   have e2:n'=n:=by
    have:=al'.lack.uniq (L.lack al.lack)
    rw[YQ]at this;exact this
   have e3:pd'=pd:=by
    have:=Sim.res ok (Rv ok) L.sim.1 L.sim.2 al.peak al'.peak
    injection this
   unfold Yv;rw[e1,e2,e3]
 obtain⟨m0,em,m1,m2⟩:∃m0:Int,([12,10^30]:Ql).getD (nb%2).toNat 0=m0/\0<m0/\m0<=10^30:=by
  refine⟨_,rfl,?_⟩
  have:nb%2=0\/nb%2=1:=by omega
  rcases this with e|e<;>rw[e]<;>decide +kernel
 have r0:=JI (nb/10^(6:Int).toNat) (show m0≠0 by omega)
 have r1:=Ge (nb/10^(6:Int).toNat) m1
 have cp6:Dq 10 6:=⟨by decide,by decide,by decide⟩
 refine QI (ZU (d:=.int (1+nb/10^(6:Int).toNat%m0)) (VA Ze (ZS (ZS (Qq rfl) (ZS Ze Ze cp6) ⟨by decide +kernel,by decide +kernel⟩) (Qt.cast (WO (ds:=([12,10^30]:Ql).map PyData.int) (EvO.fz (Yy (Zl Ze (Zl (Qt.cast (ZS Ze Ze NM) (by rfl)) Z2)) (by decide))) (ZS (Qq rfl) Ze (mdl c2)) (Sg (by omega) (by show nb%2<2;omega))) (ZD PyData.int em)) (mdl m1))) ?_)
 walk_at"d"
 obtain⟨k,ek,k1,k2⟩:∃k:Int,1+nb/10^(6:Int).toNat%m0=k/\1<=k/\k<=10^30:=⟨_,rfl,by omega,by omega⟩
 rw[ek];have k300:k<10^300:=X9 k2 (by decide +kernel)
 have p300:∀{a:Int},a<10^30->a<10^300:=fun h=>WE h (by decide +kernel)
 have mk60:∀{a:Int},0<=a->a<10^30->a*k<10^60:=fun{a} h0 h1=>by
  have h2:a*k<=(10^30-1)*10^30:=Bk (by omega) k2 (by omega) (by decide +kernel)
  exact X9 h2 (by decide +kernel)
 have okk:(Zp y k).Ok:=TV ok (by omega) fun l hl b hb=>WE (mk60 (ok.bb l hl b hb).1 (y30 l hl b hb)) (by decide +kernel)
 have g30':∀g∈gs,0<=g.want/\g.want<10^30/\0<=g.most/\g.most<10^30:=fun g h=>⟨by have:=(hg g h).w1;omega,(g30 g h).1,by have:=(hg g h).m1;omega,(g30 g h).2⟩
 have smk:Sml (Zp y k) (gs.map fun g=>Z8 g k):=by
  refine⟨okk,fun g hm=>?_,by rw[Xm];exact g8,fun l hl b hb=>?_,fun g hm=>?_⟩
  ·obtain⟨g0,h0,rfl⟩:=Xw.mp hm
   have q:=hg g0 h0
   obtain⟨a1,a2,a3,a4⟩:=g30' g0 h0
   have z:(10:Int)^60<10^300:=by decide +kernel
   have b1:=mk60 a1 a2
   have b2:=mk60 a3 a4
   have w1:=q.w1
   have o1:1*1<=g0.want*k:=Bk (by omega) (by omega) (by omega) (by omega)
   have w2:=q.m1
   have o2:1*1<=g0.most*k:=Bk (by omega) (by omega) (by omega) (by omega)
   refine⟨by have:=q.ln;simpa [Zp,Z8] using this,q.fl,q.lt,?_,?_,?_,?_⟩
   ·show 1<=g0.want*k
    omega
   ·show g0.want*k<_
    omega
   ·show 1<=g0.most*k
    omega
   ·show g0.most*k<_
    omega
  ·obtain⟨l0,h0,rfl⟩:=Xw.mp hl
   obtain⟨b0,hb0,rfl⟩:=Xw.mp hb
   exact mk60 (ok.bb l0 h0 b0 hb0).1 (y30 l0 h0 b0 hb0)
  ·obtain⟨g0,h0,rfl⟩:=Xw.mp hm
   obtain⟨a1,a2,a3,a4⟩:=g30' g0 h0
   exact⟨mk60 a1 a2,mk60 a3 a4⟩
 have L:=ZlR y gs (k:=k) (by omega)
 refine QI (VS (Vh (Qu (Zj (Qu (Qq rfl) (Qu (Qq rfl) QD)) (R_ydtimes.mk (fun l hl b hb=>W0 (ok.bb l hl b hb).1 (p300 (y30 l hl b hb)) (by omega) k300) (fun l hl=>by rw[ok.bl l hl];exact ok.t8) ok.l5)) (Qu (Ub (Qu (EvO.fz (Hd (Qq rfl))) (Qu (Qq rfl) QD)) (R_gsstimes.mk (fun g h=>?mg) g8)) QD)) (R_lall.mk smk)) (fun r hr'=>?_))
 case mg =>
  obtain⟨a1,a2,a3,a4⟩:=g30' g h
  exact⟨W0 a1 (p300 a2) (by omega) k300,W0 a3 (p300 a4) (by omega) k300⟩
 obtain⟨lv',n',pd',al',rfl⟩:=hr'
 walk_at"d"
 refine V9 11 rfl ?_
 walk_at"d"
 exact ZG (DE (b:=true) (c:=true) (Zj (Qu (ix rfl rfl) QD) R_whole.mk) (fun _=>Zj (Qu (Qq rfl) (Qu (Qq rfl) (Qu (Qq rfl) QD))) (R_tright.mk sm k1 k2 okk al al' (L.shares sm.giv smk.giv al.lv al'.lv) (al'.lack.uniq (L.lack al.lack))))) rfl
end
inductive DH (K:W.Frag)(x:Str)(st:Stmt):Prop
 |mk {f:Addr} {oc kV dc pm cd ct:Value} {od an:Qj} {sl:Array (Qf)} (a:W.nsIn K mainGlobals x=some (some (.ref f))) (l:K.lookup f=some ⟨oc,od,.func (W.fnOf x x (VR st) (Z3 st) (Q1 st) .none kV dc pm an cd ct),sl⟩) (c:W.codeIn K cd x=true) (k:W.keepIn K (.ref f)=true):DH K x st
theorem DH.df {K:W.Frag}{h:Heap}{mg:Str->Qf}{x:Str}{st:Stmt}{ps:Qh}(X:K.In h)(G:h.Ns mainGlobals mg)(H:DH K x st)(hb:∀(z:Value×Value×Value×Qj×Value×Value) (us:Qe),us.length=ps.length->bindArgs (W.fnOf x x (VR st) (Z3 st) (Q1 st) .none z.1 z.2.1 z.2.2.1 z.2.2.2.1 z.2.2.2.2.1 z.2.2.2.2.2) ⟨us,[]⟩=pure (ps.zip us)):Df K mg x st ps:=by
 cases H with
 |mk a l c k=>exact⟨_,_,YK l c k,W.mg_of X G a,(YK l c k).binds fun kV dc pm an cd ct us hl=>hb (kV,dc,pm,an,cd,ct) us hl⟩
@[elab_as_elim] theorem ln1 {α:Type}{p:List α->Prop}{us:List α}(h:us.length=1)(k:∀a0,p [a0]):p us:=by
 match us,h with
 |[a0],_=>exact k a0
@[elab_as_elim] theorem ln2 {α:Type}{p:List α->Prop}{us:List α}(h:us.length=2)(k:∀a0 a1,p [a0,a1]):p us:=by
 match us,h with
 |[a0,a1],_=>exact k a0 a1
@[elab_as_elim] theorem ln3 {α:Type}{p:List α->Prop}{us:List α}(h:us.length=3)(k:∀a0 a1 a2,p [a0,a1,a2]):p us:=by
 match us,h with
 |[a0,a1,a2],_=>exact k a0 a1 a2
@[elab_as_elim] theorem ln4 {α:Type}{p:List α->Prop}{us:List α}(h:us.length=4)(k:∀a0 a1 a2 a3,p [a0,a1,a2,a3]):p us:=by
 match us,h with
 |[a0,a1,a2,a3],_=>exact k a0 a1 a2 a3
theorem Zu8 {P:Program} {w:World} {K:W.Frag} {h:Heap} {mg:Str->Qf} {fa C gS gE:Addr} (X:K.In h) (G:h.Ns mainGlobals mg) (hfa:mg "law"=some (.ref fa))
 {YR CR fR:Addr} {odR anR:Qj} {slR:Array (Qf)} {kVR dcR pmR cdR ctR:Value}
 {f58 f59 f60 f61 f62 f63 f64 f65 f66:Addr} {od58 an58 od59 an59 od60 an60 od61 an61 od62 an62 od63 an63 od64 an64 od65 an65 od66 an66 dS dE:Qj} {sl58 sl59 sl60 sl61 sl62 sl63 sl64 sl65 sl66 slS slE:Array (Qf)} {oc58 kV58 dc58 pm58 cd58 ct58 oc59 kV59 dc59 pm59 cd59 ct59 oc60 kV60 dc60 pm60 cd60 ct60 oc61 kV61 dc61 pm61 cd61 ct61 oc62 kV62 dc62 pm62 cd62 ct62 oc63 kV63 dc63 pm63 cd63 ct63 oc64 kV64 dc64 pm64 cd64 ct64 oc65 kV65 dc65 pm65 cd65 ct65 oc66 kV66 dc66 pm66 cd66 ct66:Value} {tS tE nS nE:Nat}
 (aC:W.nsIn K mainGlobals "Net"=some (some (.ref C)))
 (h0:DH K "turns_of" Kn)
 (h1:DH K "line_count" K8)
 (h2:DH K "above_of" Kp)
 (h3:DH K "bound_at" Km)
 (h4:DH K "line_of" Kd)
 (h5:DH K "is_there" Ky)
 (h6:DH K "want_of" Kk)
 (h7:DH K "most_of" Ka)
 (h8:DH K "with_want" KH)
 (h9:DH K "line_times" M6)
 (h10:DH K "yard_times" Mw)
 (h11:DH K "guest_times" KU)
 (h12:DH K "guests_times" M4)
 (h13:DH K "totals_of" M0)
 (h14:DH K "lacks_of" Mn)
 (h15:DH K "guest_node" K3)
 (h16:DH K "line_node" KA)
 (h17:DH K "lay_guest" K9)
 (h18:DH K "lay_turn" Ks)
 (h19:DH K "filled_net" K2)
 (h20:DH K "takes_by" Mo)
 (h21:DH K "greatest_filling" MF)
 (h22:DH K "guests_reached" ME)
 (h23:DH K "reaching_at" M9)
 (h24:DH K "given_at" Kt)
 (h25:DH K "given_most" Mu)
 (h26:DH K "short_of" Mt)
 (h27:DH K "least_lack" K6)
 (h28:DH K "best_filling" KP)
 (h29:DH K "lacking_set" Nc)
 (h30:DH K "refuse_lack" KS)
 (h31:DH K "greatest_divisor" Ng)
 (h32:DH K "fraction" Kw)
 (h33:DH K "common_bottom" Nh)
 (h34:DH K "tops_over" Mz)
 (h35:DH K "is_fairer" KC)
 (h36:DH K "asking" GW)
 (h37:DH K "share_left" Mv)
 (h38:DH K "most_short" Be)
 (h39:DH K "next_level" Mx)
 (h40:DH K "fair_levels" KW)
 (h41:DH K "yard_lowered" M3)
 (h42:DH K "short_lowered" Ni)
 (h43:DH K "turns_held" M7)
 (h44:DH K "rise_due" K0)
 (h45:DH K "least_peak" K4)
 (h46:DH K "_law_cell_at" KN)
 (h47:DH K "_law_whole" K1)
 (h48:DH K "_law_number" KZ)
 (h49:DH K "_law_amount" KY)
 (h50:DH K "_law_yard" KI)
 (h51:DH K "_law_guests" Nb)
 (h52:DH K "_law_shares" M8)
 (h53:DH K "_law_order" K7)
 (h54:DH K "_law_back" M1)
 (h55:DH K "_law_peak" KM)
 (h56:DH K "_law_all" Kx)
 (h57:DH K "_law_times_right" Nf)
 (a58:W.nsIn K mainGlobals "law"=some (some (.ref f58)))
 (l58:K.lookup f58=some ⟨oc58,od58,.func (W.fnOf "law" "law" (VR YG) (Z3 YG) (Q1 YG) .none kV58 dc58 pm58 an58 cd58 ct58),sl58⟩)
 (c58:W.codeIn K cd58 "law"=true)
 (k58:W.keepIn K (.ref f58)=true)
 (a59:W.findIn K (.ref C) "lay"=some (some (.ref f59)))
 (i59:W.isFn K (.ref f59)=true)
 (l59:K.lookup f59=some ⟨oc59,od59,.func (W.fnOf "lay" "Net.lay" (VR Uh) (Z3 Uh) (Q1 Uh) .none kV59 dc59 pm59 an59 cd59 ct59),sl59⟩)
 (c59:W.codeIn K cd59 "Net.lay"=true)
 (k59:W.keepIn K (.ref f59)=true)
 (a60:W.findIn K (.ref C) "lay_one"=some (some (.ref f60)))
 (i60:W.isFn K (.ref f60)=true)
 (l60:K.lookup f60=some ⟨oc60,od60,.func (W.fnOf "lay_one" "Net.lay_one" (VR Uk) (Z3 Uk) (Q1 Uk) .none kV60 dc60 pm60 an60 cd60 ct60),sl60⟩)
 (c60:W.codeIn K cd60 "Net.lay_one"=true)
 (k60:W.keepIn K (.ref f60)=true)
 (a61:W.findIn K (.ref C) "flow"=some (some (.ref f61)))
 (i61:W.isFn K (.ref f61)=true)
 (l61:K.lookup f61=some ⟨oc61,od61,.func (W.fnOf "flow" "Net.flow" (VR Ue) (Z3 Ue) (Q1 Ue) .none kV61 dc61 pm61 an61 cd61 ct61),sl61⟩)
 (c61:W.codeIn K cd61 "Net.flow"=true)
 (k61:W.keepIn K (.ref f61)=true)
 (a62:W.findIn K (.ref C) "reached"=some (some (.ref f62)))
 (i62:W.isFn K (.ref f62)=true)
 (l62:K.lookup f62=some ⟨oc62,od62,.func (W.fnOf "reached" "Net.reached" (VR Ul) (Z3 Ul) (Q1 Ul) .none kV62 dc62 pm62 an62 cd62 ct62),sl62⟩)
 (c62:W.codeIn K cd62 "Net.reached"=true)
 (k62:W.keepIn K (.ref f62)=true)
 (a63:W.findIn K (.ref C) "push"=some (some (.ref f63)))
 (i63:W.isFn K (.ref f63)=true)
 (l63:K.lookup f63=some ⟨oc63,od63,.func (W.fnOf "push" "Net.push" (VR J5) (Z3 J5) (Q1 J5) .none kV63 dc63 pm63 an63 cd63 ct63),sl63⟩)
 (c63:W.codeIn K cd63 "Net.push"=true)
 (k63:W.keepIn K (.ref f63)=true)
 (a64:W.findIn K (.ref C) "fill"=some (some (.ref f64)))
 (i64:W.isFn K (.ref f64)=true)
 (l64:K.lookup f64=some ⟨oc64,od64,.func (W.fnOf "fill" "Net.fill" (VR Uf) (Z3 Uf) (Q1 Uf) .none kV64 dc64 pm64 an64 cd64 ct64),sl64⟩)
 (c64:W.codeIn K cd64 "Net.fill"=true)
 (k64:W.keepIn K (.ref f64)=true)
 (a65:W.findIn K (.ref C) "way_to"=some (some (.ref f65)))
 (i65:W.isFn K (.ref f65)=true)
 (l65:K.lookup f65=some ⟨oc65,od65,.func (W.fnOf "way_to" "Net.way_to" (VR Uo) (Z3 Uo) (Q1 Uo) .none kV65 dc65 pm65 an65 cd65 ct65),sl65⟩)
 (c65:W.codeIn K cd65 "Net.way_to"=true)
 (k65:W.keepIn K (.ref f65)=true)
 (a66:W.findIn K (.ref C) "__init__"=some (some (.ref f66)))
 (i66:W.isFn K (.ref f66)=true)
 (l66:K.lookup f66=some ⟨oc66,od66,.func (W.fnOf "__init__" "Net.__init__" (VR UY) (Z3 UY) (Q1 UY) .none kV66 dc66 pm66 an66 cd66 ct66),sl66⟩)
 (c66:W.codeIn K cd66 "Net.__init__"=true)
 (k66:W.keepIn K (.ref f66)=true)
 (pg:W.plainGet K C Str.empty=true)
 (hd:W.hasDictIn K C=true)
 (po:W.plainOver K C=true)
 (sa:W.findIn K (.ref C) "__setattr__"=some (some (.builtin "object.__setattr__")))
 (mk:W.makesIn K C=true)
 (kc:W.keepIn K (.ref C)=true)
 (n0:W.findIn K (.ref C) "ends"=some none)
 (n1:W.findIn K (.ref C) "rooms"=some none)
 (n2:W.findIn K (.ref C) "leaving"=some none)
 (n3:W.findIn K (.ref C) "laid"=some none)
 (aS:W.nsIn K mainGlobals "START"=some (some (.ref gS)))
 (lS:K.lookup gS=some ⟨.type "tuple",dS,.seq #[.str "start" tS] nS,slS⟩)
 (aE:W.nsIn K mainGlobals "END"=some (some (.ref gE)))
 (lE:K.lookup gE=some ⟨.type "tuple",dE,.seq #[.str "end" tE] nE,slE⟩)
 (rC:W.nsIn K mainGlobals "NoRoom"=some (some (.ref CR)))
 (rY:W.nsIn K mainGlobals "YardError"=some (some (.ref YR)))
 (rf:W.findIn K (.ref CR) "__init__"=some (some (.ref fR)))
 (rl:K.lookup fR=some ⟨.type "function",odR,.func (W.fnOf "__init__" "NoRoom.__init__" (VR UZ) (Z3 UZ) (Q1 UZ) .none kVR dcR pmR anR cdR ctR),slR⟩)
 (rc:W.codeIn K cdR "NoRoom.__init__"=true)
 (rk:W.keepIn K (.ref fR)=true)
 (rx:DL K CR fR=true)
 (rg:W.specialIn K (.ref YR) "__getattribute__"=some (some (.builtin "type.__getattribute__")))
 (rr:W.readsIn K YR (.type "type")=true)
 (ri:W.findCls K (.ref YR) (.type "type") "__init__"=some (.val (.builtin "ValueError.__init__")))
 (rs:W.findIn K (.ref CR) "__setattr__"=some (some (.builtin "object.__setattr__")))
 (ro:((W.clsIn K CR).any fun cd=>WM cd.mro)=true)
 (rd:W.hasDictIn K CR=true)
 (rt:W.takerIn K CR "some"=some none)
 (rK:W.keepIn K (.ref CR)=true)
 (z0:W.nsIn K mainGlobals "abs"=some none)
 (z1:W.nsIn K mainGlobals "len"=some none)
 (z2:W.nsIn K mainGlobals "max"=some none)
 (z3:W.nsIn K mainGlobals "min"=some none)
 (z4:W.nsIn K mainGlobals "sum"=some none)
 (z5:W.nsIn K mainGlobals "any"=some none)
 (z6:W.nsIn K mainGlobals "all"=some none)
 (z7:W.nsIn K mainGlobals "isinstance"=some none)
 (z8:W.nsIn K mainGlobals "int"=some none)
 (z9:W.nsIn K mainGlobals "bool"=some none)
 (z10:W.nsIn K mainGlobals "list"=some none)
 (z11:W.nsIn K mainGlobals "tuple"=some none)
 (z12:W.nsIn K mainGlobals "range"=some none)
 (z13:W.nsIn K mainGlobals "zip"=some none)
 (z14:W.nsIn K mainGlobals "enumerate"=some none)
 (z15:W.nsIn K mainGlobals "sorted"=some none)
 : (∃gS gE,W.nsIn K mainGlobals "START"=some (some (.ref gS))/\W.nsIn K mainGlobals "END"=some (some (.ref gE))/\KTup K gS "start" /\ KTup K gE "end")/\∃fd:FuncData,(∀(s:Shared) (v:Value),BindsTo s fd ⟨[v],[]⟩ [("_law_script",v)])/\∀base:Heap,K.In base->base.Ns mainGlobals mg->FnOk P w K mg base CX0 11 fa fd ["_law_script"] (BD K):=by
 have e:=hfa.symm.trans (W.mg_of X G a58)
 cases e
 have T:Bl mg:=⟨W.mg_none_of X G z0,W.mg_none_of X G z1,W.mg_none_of X G z2,W.mg_none_of X G z3,W.mg_none_of X G z4,W.mg_none_of X G z5,W.mg_none_of X G z6,W.mg_none_of X G z7,W.mg_none_of X G z8,W.mg_none_of X G z9,W.mg_none_of X G z10,W.mg_none_of X G z11,W.mg_none_of X G z12,W.mg_none_of X G z13,W.mg_none_of X G z14,W.mg_none_of X G z15⟩
 have U:Tx K mg C gS gE:=⟨⟨⟨pg,hd,po,sa⟩,n0,n1,n2,n3⟩,W.mg_of X G aS,W.mg_of X G aE,aS,aE⟩
 have XR:XC K mg "NoRoom" YR CR fR:=⟨Ft rx rl rfl rg rr ri,rK,W.mg_of X G rC⟩
 have XcA:=YK (st:=UZ) rl rc rk
 have B_NoRoom:=XcA.binds (ps:=["self","some"]) fun _ _ _ _ _ _ us hl=>ln2 hl fun _ _=>rfl
 have XcJ:=h0.df (ps:=["yard"]) X G fun _ us hl=>ln1 hl fun _=>rfl
 have XcK:=h1.df (ps:=["yard"]) X G fun _ us hl=>ln1 hl fun _=>rfl
 have XcL:=h2.df (ps:=["yard","line"]) X G fun _ us hl=>ln2 hl fun _ _=>rfl
 have XcM:=h3.df (ps:=["yard","line","turn"]) X G fun _ us hl=>ln3 hl fun _ _ _=>rfl
 have XcN:=h4.df (ps:=["guest"]) X G fun _ us hl=>ln1 hl fun _=>rfl
 have XcO:=h5.df (ps:=["guest","turn"]) X G fun _ us hl=>ln2 hl fun _ _=>rfl
 have XcP:=h6.df (ps:=["guest"]) X G fun _ us hl=>ln1 hl fun _=>rfl
 have XcQ:=h7.df (ps:=["guest"]) X G fun _ us hl=>ln1 hl fun _=>rfl
 have XcR:=h8.df (ps:=["guest","want"]) X G fun _ us hl=>ln2 hl fun _ _=>rfl
 have XcS:=h9.df (ps:=["line","k"]) X G fun _ us hl=>ln2 hl fun _ _=>rfl
 have XcT:=h10.df (ps:=["yard","k"]) X G fun _ us hl=>ln2 hl fun _ _=>rfl
 have XcU:=h11.df (ps:=["guest","k"]) X G fun _ us hl=>ln2 hl fun _ _=>rfl
 have XcV:=h12.df (ps:=["guests","k"]) X G fun _ us hl=>ln2 hl fun _ _=>rfl
 have XcW:=h13.df (ps:=["filling"]) X G fun _ us hl=>ln1 hl fun _=>rfl
 have XcX:=h14.df (ps:=["guests","filling"]) X G fun _ us hl=>ln2 hl fun _ _=>rfl
 have XcY:=h15.df (ps:=["number"]) X G fun _ us hl=>ln1 hl fun _=>rfl
 have XcZ:=h16.df (ps:=["line","turn"]) X G fun _ us hl=>ln2 hl fun _ _=>rfl
 have Xc0:=h17.df (ps:=["net","yard","number","guest"]) X G fun _ us hl=>ln4 hl fun _ _ _ _=>rfl
 have Xc1:=h18.df (ps:=["net","yard","turn"]) X G fun _ us hl=>ln3 hl fun _ _ _=>rfl
 have Xc2:=h19.df (ps:=["yard","guests"]) X G fun _ us hl=>ln2 hl fun _ _=>rfl
 have Xc3:=h20.df (ps:=["net","yard","number","guest"]) X G fun _ us hl=>ln4 hl fun _ _ _ _=>rfl
 have Xc4:=h21.df (ps:=["yard","guests"]) X G fun _ us hl=>ln2 hl fun _ _=>rfl
 have Xc5:=h22.df (ps:=["yard","guests"]) X G fun _ us hl=>ln2 hl fun _ _=>rfl
 have Xc6:=h23.df (ps:=["yard","guests","some","turn"]) X G fun _ us hl=>ln4 hl fun _ _ _ _=>rfl
 have Xc7:=h24.df (ps:=["yard","guests","some","turn"]) X G fun _ us hl=>ln4 hl fun _ _ _ _=>rfl
 have Xc8:=h25.df (ps:=["yard","guests","some"]) X G fun _ us hl=>ln3 hl fun _ _ _=>rfl
 have Xc9:=h26.df (ps:=["yard","guests","some"]) X G fun _ us hl=>ln3 hl fun _ _ _=>rfl
 have Xda:=h27.df (ps:=["yard","guests"]) X G fun _ us hl=>ln2 hl fun _ _=>rfl
 have Xdb:=h28.df (ps:=["yard","guests"]) X G fun _ us hl=>ln2 hl fun _ _=>rfl
 have Xdc:=h29.df (ps:=["yard","guests"]) X G fun _ us hl=>ln2 hl fun _ _=>rfl
 have Xdd:=h30.df (ps:=["yard","guests"]) X G fun _ us hl=>ln2 hl fun _ _=>rfl
 have Xde:=h31.df (ps:=["one","other"]) X G fun _ us hl=>ln2 hl fun _ _=>rfl
 have Xdf:=h32.df (ps:=["top","bottom"]) X G fun _ us hl=>ln2 hl fun _ _=>rfl
 have Xdg:=h33.df (ps:=["parts"]) X G fun _ us hl=>ln1 hl fun _=>rfl
 have Xdh:=h34.df (ps:=["parts","bottom"]) X G fun _ us hl=>ln2 hl fun _ _=>rfl
 have Xdi:=h35.df (ps:=["one","other"]) X G fun _ us hl=>ln2 hl fun _ _=>rfl
 have Xdj:=h36.df (ps:=["guests","totals","k"]) X G fun _ us hl=>ln3 hl fun _ _ _=>rfl
 have Xdk:=h37.df (ps:=["yard","guests","ahead","some"]) X G fun _ us hl=>ln4 hl fun _ _ _ _=>rfl
 have Xdl:=h38.df (ps:=["yard","guests","ahead","share"]) X G fun _ us hl=>ln4 hl fun _ _ _ _=>rfl
 have Xdm:=h39.df (ps:=["yard","guests","ahead"]) X G fun _ us hl=>ln3 hl fun _ _ _=>rfl
 have Xdn:=h40.df (ps:=["yard","guests"]) X G fun _ us hl=>ln2 hl fun _ _=>rfl
 have Xdo:=h41.df (ps:=["yard","p"]) X G fun _ us hl=>ln2 hl fun _ _=>rfl
 have Xdp:=h42.df (ps:=["yard","guests","some","p"]) X G fun _ us hl=>ln4 hl fun _ _ _ _=>rfl
 have Xdq:=h43.df (ps:=["yard","guests","some","p"]) X G fun _ us hl=>ln4 hl fun _ _ _ _=>rfl
 have Xdr:=h44.df (ps:=["yard","guests","some","p"]) X G fun _ us hl=>ln4 hl fun _ _ _ _=>rfl
 have Xds:=h45.df (ps:=["yard","guests"]) X G fun _ us hl=>ln2 hl fun _ _=>rfl
 have Xdt:=h46.df (ps:=["_law_script","_law_k"]) X G fun _ us hl=>ln2 hl fun _ _=>rfl
 have Xdu:=h47.df (ps:=["_law_found"]) X G fun _ us hl=>ln1 hl fun _=>rfl
 have Xdv:=h48.df (ps:=["_law_script","_law_k"]) X G fun _ us hl=>ln2 hl fun _ _=>rfl
 have Xdw:=h49.df (ps:=["_law_number_here"]) X G fun _ us hl=>ln1 hl fun _=>rfl
 have Xdx:=h50.df (ps:=["_law_script"]) X G fun _ us hl=>ln1 hl fun _=>rfl
 have Xdy:=h51.df (ps:=["_law_script","_law_yard_here"]) X G fun _ us hl=>ln2 hl fun _ _=>rfl
 have Xdz:=h52.df (ps:=["_law_levels","_law_many"]) X G fun _ us hl=>ln2 hl fun _ _=>rfl
 have XdA:=h53.df (ps:=["_law_number_here","_law_many"]) X G fun _ us hl=>ln2 hl fun _ _=>rfl
 have XdB:=h54.df (ps:=["_law_yard_here","_law_guests_here"]) X G fun _ us hl=>ln2 hl fun _ _=>rfl
 have XdC:=h55.df (ps:=["_law_yard_here","_law_guests_here"]) X G fun _ us hl=>ln2 hl fun _ _=>rfl
 have XdD:=h56.df (ps:=["_law_yard_here","_law_guests_here"]) X G fun _ us hl=>ln2 hl fun _ _=>rfl
 have XdE:=h57.df (ps:=["_law_one","_law_other","_law_k"]) X G fun _ us hl=>ln3 hl fun _ _ _=>rfl
 have Xcz:=YK (st:=YG) l58 c58 k58
 have D_law:Df K mg "law" YG ["_law_script"]:=⟨_,_,Xcz,W.mg_of X G a58,Xcz.binds (ps:=["_law_script"]) fun _ _ _ _ _ _ us hl=>ln1 hl fun _=>rfl⟩
 have XcB:=YK (st:=Uh) l59 c59 k59
 have XdF:Mf K C "lay" "Net.lay" Uh ["self","start","end","room"]:=⟨_,_,XcB,⟨a59,i59,k59⟩,XcB.binds (ps:=["self","start","end","room"]) fun _ _ _ _ _ _ us hl=>ln4 hl fun _ _ _ _=>rfl⟩
 have XcC:=YK (st:=Uk) l60 c60 k60
 have XdG:Mf K C "lay_one" "Net.lay_one" Uk ["self","start","end","room"]:=⟨_,_,XcC,⟨a60,i60,k60⟩,XcC.binds (ps:=["self","start","end","room"]) fun _ _ _ _ _ _ us hl=>ln4 hl fun _ _ _ _=>rfl⟩
 have XcD:=YK (st:=Ue) l61 c61 k61
 have XdH:Mf K C "flow" "Net.flow" Ue ["self","start","end"]:=⟨_,_,XcD,⟨a61,i61,k61⟩,XcD.binds (ps:=["self","start","end"]) fun _ _ _ _ _ _ us hl=>ln3 hl fun _ _ _=>rfl⟩
 have XcE:=YK (st:=Ul) l62 c62 k62
 have XdI:Mf K C "reached" "Net.reached" Ul ["self","start"]:=⟨_,_,XcE,⟨a62,i62,k62⟩,XcE.binds (ps:=["self","start"]) fun _ _ _ _ _ _ us hl=>ln2 hl fun _ _=>rfl⟩
 have XcF:=YK (st:=J5) l63 c63 k63
 have XdJ:Mf K C "push" "Net.push" J5 ["self","way"]:=⟨_,_,XcF,⟨a63,i63,k63⟩,XcF.binds (ps:=["self","way"]) fun _ _ _ _ _ _ us hl=>ln2 hl fun _ _=>rfl⟩
 have XcG:=YK (st:=Uf) l64 c64 k64
 have XdK:Mf K C "fill" "Net.fill" Uf ["self","start","end"]:=⟨_,_,XcG,⟨a64,i64,k64⟩,XcG.binds (ps:=["self","start","end"]) fun _ _ _ _ _ _ us hl=>ln3 hl fun _ _ _=>rfl⟩
 have XcH:=YK (st:=Uo) l65 c65 k65
 have XdL:Mf K C "way_to" "Net.way_to" Uo ["self","edges","end"]:=⟨_,_,XcH,⟨a65,i65,k65⟩,XcH.binds (ps:=["self","edges","end"]) fun _ _ _ _ _ _ us hl=>ln3 hl fun _ _ _=>rfl⟩
 have XcI:=YK (st:=UY) l66 c66 k66
 have B_Net:=XcI.binds (ps:=["self"]) fun _ _ _ _ _ _ us hl=>ln1 hl fun _=>rfl
 refine⟨⟨gS,gE,aS,aE,⟨_,_,_,_,lS⟩,⟨_,_,_,_,lE⟩⟩,W.fnOf "law" "law" (VR YG) (Z3 YG) (Q1 YG) .none kV58 dc58 pm58 an58 cd58 ct58,fun s v=>.of_eq rfl,fun base _ _=>?_⟩
 have Xbz:=Au (P:=P) (w:=w) (base:=base) T Xdt
 have XbC:=IX T Xdv Xbz
 have XbF:=OY (P:=P) (w:=w) (base:=base) T Xdw
 have Xct:=Cs T Xdx Xbz XbC XbF
 have Xcu:=IL T Xdy Xbz XbC XbF
 have Xbv:=Ab (P:=P) (w:=w) (base:=base) T XcP
 have Xb7:Dj P w K mg base "Net" C 1:=⟨_,_,⟨mk,a66,i66,kc⟩,W.mg_of X G aC,B_Net,F8 (P:=P) (w:=w) (base:=base) T U XcI⟩
 have XbV:=CC (P:=P) (w:=w) (base:=base) T U XdG
 have XbE:=LU T U XdF XbV
 have XbB:=Ee (P:=P) (w:=w) (base:=base) T XcY
 have Xbu:=E4 (P:=P) (w:=w) (base:=base) T XcJ
 have XbM:=EL (P:=P) (w:=w) (base:=base) T XcO
 have XbN:=Ag (P:=P) (w:=w) (base:=base) T XcQ
 have Xbx:=AM (P:=P) (w:=w) (base:=base) T XcZ
 have XbD:=EK (P:=P) (w:=w) (base:=base) T XcN
 have Xb8:=Oq T U Xc0 XbE Xbv XbB Xbu XbM XbN Xbx XbD
 have XbA:=Eh (P:=P) (w:=w) (base:=base) T XcM
 have XbG:=Ec (P:=P) (w:=w) (base:=base) T XcK
 have XbO:=En (P:=P) (w:=w) (base:=base) T XcL
 have Xb9:=E7 T U Xc1 XbE XbA Xbx XbG XbO
 have XbH:=ZmC (P:=P) (w:=w) (base:=base) T U XdI
 have Xb5:=A2 (P:=P) (w:=w) (base:=base) T U XdJ
 have Xb6:=Cz (P:=P) (w:=w) (base:=base) T U XdL
 have Xca:=Av T U XdK XbH Xb5 Xb6
 have XbQ:=IN T U Xc2 Xb7 Xb8 Xbu Xb9 Xca
 have Xce:=ZkP T U Xc5 XbQ XbH XbB
 have Xbw:=A7 T Xdc Xce
 have Xb3:=ZmK (P:=P) (w:=w) (base:=base) T XcS
 have XbT:=OL T XcT Xb3
 have Xb4:=ZmB (P:=P) (w:=w) (base:=base) T XcU
 have XbS:=Zkh T XcV Xb4
 have Xck:=AV (P:=P) (w:=w) (base:=base) T XcR
 have Xcm:=Ot T Xdj XbS Xck
 have Xb0:=IP T Xdl Xbv Xbw XbT Xcm
 have XbR:=Cc (P:=P) (w:=w) (base:=base) T Xde
 have Xcj:=Al T Xdg XbR
 have XbZ:=Aj (P:=P) (w:=w) (base:=base) T Xdh
 have Xcn:=Oo T Xdi Xcj XbZ
 have Xb2:=ZkA T Xc6 XbG XbM XbD XbN XbO XbA
 have XbP:=E1 T Xc7 Xb2 XbA
 have XbI:=ID T Xc8 Xbu XbP
 have Xcl:=CT T Xdf XbR
 have Xb1:=IH T Xdk XbI Xcl Xbv
 have Xco:=Of T Xdm Xb0 Xcn Xb1
 have Xcp:=On T Xdn Xco
 have Xcq:=ZlV (P:=P) (w:=w) (base:=base) T Xdz
 have Xch:=Iy (P:=P) (w:=w) (base:=base) T XcW
 have Xci:=AZ T XcX Xbv Xch
 have Xcb:=Cq (P:=P) (w:=w) (base:=base) T U XdH
 have Xcc:=AS T U Xc3 Xbu Xcb Xbx XbD XbB
 have Xcd:=E2 T U Xc4 XbQ Xcc
 have XbL:=Ck T Xdb Xcd
 have Xcr:=Ew T Xda Xci XbL
 have XbJ:=Eo T Xc9 Xbv XbI
 have XbW:D2 P w K mg base fR ["self","some"] 1 (GJ K CR "some"):=⟨_,B_NoRoom,ED (P:=P) (w:=w) (base:=base) T XcA XR.cl ⟨rs,ro,rd⟩ rt (W.mg_of X G rY)⟩
 have XbX:=IT T XR Xdd Xbw XbJ XbW
 have Xby:=ZlQ (P:=P) (w:=w) (base:=base) T Xdo
 have XbK:=AU T Xdp XbJ Xby
 have Xcf:=Co T Xdq Xbu XbP
 have XbY:=CQ T Xdr Xcf XbK
 have Xcg:=AK T Xds XbX Xbw Xby XbK XbY XbL
 have Xcs:=IV T XR XdC Xcg
 have XbU:=CN T XdD Xcp Xcq Xcr Xcs
 have Xcv:=AG (P:=P) (w:=w) (base:=base) T XdA
 have Xcw:=Aq (P:=P) (w:=w) (base:=base) T XdB
 have Xcx:=EM (P:=P) (w:=w) (base:=base) T Xdu
 have Xcy:=Oe (P:=P) (w:=w) (base:=base) T XdE
 exact FI T Xcz Xct Xcu XbC XbU Xcv Xcw XbT XbS Xcx Xcy
end My
namespace PySem.W.Fast
def tw4216540409303889639:=0
def tw18087696976233921128:=0
def tw10221372636105436053:=0
def tw11427967452888826581:=0
def tw9201990232765888016:=0
def tw14162681210203925744:=0
def tw1021334317514417979:=0
def tw5888428595170953579:=0
def tw13491565317403312983:=0
def tw12966416537118039258:=0
def tw9204876383533661105:=0
def tw4937467366706874405:=0
def tw8009290333384271753:=0
def tw5045765844799822494:=0
def tw5471353402770214577:=0
def tw11629917233869919467:=0
def tw17319840210484183602:=0
def tw8062771319600092176:=0
def tw5744473373941712233:=0
def tw12787015352594490474:=0
def tw14644879506129480352:=0
def tw16605480965691360046:=0
def tw14150699577208816472:=0
def tw2247524385754773408:=0
def tw2782794924697348800:=0
def tw4382592743674157754:=0
def tw132357613561641089:=0
def tw2256774332355760089:=0
def tw1918652411513613685:=0
def tw5537750808169109237:=0
def tw7980550838436430982:=0
def tw10892541825083736320:=0
def tw15057877191283139788:=0
def tw15485063808378299119:=0
def tw4781132712965026123:=0
def tw7745327926346988435:=0
def tw10482555736627209393:=0
def tw5308705948044990818:=0
def tw6013475666099782156:=0
def tw9037322981443740724:=0
def tw16863400736915260564:=0
def tw1003392558642429767:=0
def tw8685904833139223029:=0
def tw5546869300920069965:=0
def tw16837920625962664568:=0
def tw17385991736339856702:=0
def tw17902144820736349078:=0
def tw6510261617618511589:=0
def tw10814828745929638265:=0
def tw11229855504880077175:=0
def tw17174230286362755142:=0
def tw12170828858145135584:=0
def tw1557675873837019556:=0
def tw5519782350633545492:=0
def tw7438321320294333337:=0
def tw681046544136472645:=0
def tw10880861054803078157:=0
def tw7802754412913308745:=0
def tw5275096749245909198:=0
def tw12993356058021264091:=0
def tw9086006410067504478:=0
def tw15251636630872476185:=0
def tw3752662242576726105:=0
def tw7389563175084106126:=0
def tw13678520653823300186:=0
def tw2013916637471646825:=0
def tw13091635403617273036:=0
def tw14580574115790332631:=0
def tw16434536089934110297:=0
def tw12617311129107674264:=0
def tw17910608912081506106:=0
def tw6180323118799276375:=0
def tw13454828371381384183:=0
def tw17349337270302498120:=0
def tw8297131336087811891:=0
def tw16895895321444381171:=0
def tw11774887045402844021:=0
def tw5967998566185210795:=0
def tw7102810351974089003:=0
def tw1370518787656184919:=0
def tw16003430322210393075:=0
def tw6158608516894673743:=0
def tw12104041938417318167:=0
def tw12147916664980731584:=0
def tw6305875914068430615:=0
def tw17537687466080905839:=0
def tw8714393639616425205:=0
def tw14007686432196054877:=0
def tw12644051061905507798:=0
def tw16883195705285939891:=0
def tw15022650681682757760:=0
def tw13183163102760046625:=0
def tw12694503098183447710:=0
def tw11427780061758521606:=0
def tw12497855243263046292:=0
def tw6784716610401647637:=0
def tw10332400179304625123:=0
def tw14341046867336253113:=0
def tw6875126296735880239:=0
def tw15908550059285590304:=0
def tw9318085635416868074:=0
def tw7332388984194116755:=0
def tw10220321803780031096:=0
def tw5563202471405941447:=0
def tw16830720700981519725:=0
def tw3210484812935518766:=0
def tw2187100196906007553:=0
def tw280187969922902270:=0
def tw12001014172970091880:=0
def tw9501343652659855088:=0
def tw10186721276261484784:=0
def tw17505970857688140680:=0
def tw8982229284520467373:=0
def tw4108484595481842363:=0
def tw17973437263240179989:=0
def tw11666996811997395281:=0
end PySem.W.Fast
open PySem PySem.W PyProof.Rows
set_option maxRecDepth 100000 in
set_option maxHeartbeats 0 in
theorem PySem.Challenge.cw_chargeyard_k95_whole_turned_about_and_ti_holds : PySem.Challenge.rw_chargeyard_k95_whole_turned_about_and_ti.Holds := by
 w_on; o_law; k_head; (case hw=>w_witness2)
 k_fill
 refine L2.Zo7 (l:=PySem.Challenge.rw_chargeyard_k95_whole_turned_about_and_ti) (k:=11) (x := "_law_script") rfl rfl ⟨rfl,by decide,by decide⟩ (fun w h Y=>W.kIn_of Y) ?F
 case F =>
  intro w mg fa h KX G hmg
  refine' My.Zu8 KX G hmg ?aC ?h0 ?h1 ?h2 ?h3 ?h4 ?h5 ?h6 ?h7 ?h8 ?h9 ?h10 ?h11 ?h12 ?h13 ?h14 ?h15 ?h16 ?h17 ?h18 ?h19 ?h20 ?h21 ?h22 ?h23 ?h24 ?h25 ?h26 ?h27 ?h28 ?h29 ?h30 ?h31 ?h32 ?h33 ?h34 ?h35 ?h36 ?h37 ?h38 ?h39 ?h40 ?h41 ?h42 ?h43 ?h44 ?h45 ?h46 ?h47 ?h48 ?h49 ?h50 ?h51 ?h52 ?h53 ?h54 ?h55 ?h56 ?h57 ?a58 ?l58 ?c58 ?k58 ?a59 ?i59 ?l59 ?c59 ?k59 ?a60 ?i60 ?l60 ?c60 ?k60 ?a61 ?i61 ?l61 ?c61 ?k61 ?a62 ?i62 ?l62 ?c62 ?k62 ?a63 ?i63 ?l63 ?c63 ?k63 ?a64 ?i64 ?l64 ?c64 ?k64 ?a65 ?i65 ?l65 ?c65 ?k65 ?a66 ?i66 ?l66 ?c66 ?k66 ?pg ?hd ?po ?sa ?mk ?kc ?n0 ?n1 ?n2 ?n3 ?aS ?lS ?aE ?lE ?rC ?rY ?rf ?rl ?rc ?rk ?rx ?rg ?rr ?ri ?rs ?ro ?rd ?rt ?rK ?z0 ?z1 ?z2 ?z3 ?z4 ?z5 ?z6 ?z7 ?z8 ?z9 ?z10 ?z11 ?z12 ?z13 ?z14 ?z15
  case aC | a58 | l58 | c58 | k58 | a59 | i59 | l59 | c59 | k59 | a60 | i60 | l60 | c60 | k60 | a61 | i61 | l61 | c61 | k61 | a62 | i62 | l62 | c62 | k62 | a63 | i63 | l63 | c63 | k63 | a64 | i64 | l64 | c64 | k64 | a65 | i65 | l65 | c65 | k65 | a66 | i66 | l66 | c66 | k66 | pg | hd | po | sa | mk | kc | n0 | n1 | n2 | n3 | aS | lS | aE | lE | rC | rY | rf | rl | rc | rk | rg | rr | ri | rs | rd | rt | rK | z0 | z1 | z2 | z3 | z4 | z5 | z6 | z7 | z8 | z9 | z10 | z11 | z12 | z13 | z14 | z15=>k_is
  case h0 | h1 | h2 | h3 | h4 | h5 | h6 | h7 | h8 | h9 | h10 | h11 | h12 | h13 | h14 | h15 | h16 | h17 | h18 | h19 | h20 | h21 | h22 | h23 | h24 | h25 | h26 | h27 | h28 | h29 | h30 | h31 | h32 | h33 | h34 | h35 | h36 | h37 | h38 | h39 | h40 | h41 | h42 | h43 | h44 | h45 | h46 | h47 | h48 | h49 | h50 | h51 | h52 | h53 | h54 | h55 | h56 | h57 =>
   refine' My.DH.mk ?a ?l ?c ?k
   case a | l | c | k=>k_is
  case rx | ro=>with_unfolding_all exact Eq.refl true
end
