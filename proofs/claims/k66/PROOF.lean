import PyProof.Rows.All
import Wide.All
import OpenK.AllK
import Wide.FinOn
import Lean
import PyProof.EqAt
import PyProof.EqKinds
import PyProof.TupleCall
import PyProof.EqLayable
import PyProof.SumAny
import PyProof.ListRange
import PyProof.WalksEnum
import PyProof.ZipIter
import PyProof.EnumMake
import PyProof.ConsumeS
import PyProof.SeqI3
import PyProof.MaxThree
import PyProof.Rows.TupAdd
import KE.KIsAll
import KE.KTryMore
import OpenK.KOwn
import PyProof.CollectWalk
import PyProof.DictRoadsH
import PyProof.DictWalks
import PyProof.ExcArgs
import PyProof.ExcBaseAll.ValueError
import PyProof.ExcClass3
import PyProof.FactsAll.dict
import PyProof.FactsAll.set
import PyProof.FactsLen
import PyProof.InstSpecial
import PyProof.MeetsDict
import PyProof.MinMaxWalk
import PyProof.NeKinds
import PyProof.NsDelKeeps
import PyProof.Rows.CatchBare
import PyProof.Rows.SetFrom
import PyProof.Rows.SortWalk
import PyProof.Rows.TupDisplay
import PyProof.RulesAs
import PyProof.SetRoads
import PyProof.StationsW
import PyProof.WalkLemmas
import PyProof.WalksMore
import PySem.Challenge.RW_chargeyard_k66_no_numbers
set_option Elab.async false
set_option linter.all false
set_option maxRecDepth 100000
set_option maxHeartbeats 4000000
set_option compiler.extract_closed false
set_option genSizeOf false
section
open PySem PySem.Spec PyProof.Rows
def Qa {α:Sort _}{a:α}{q:Prop}:a=a\/q:=Or.inl rfl
abbrev Qb:=Value->Shared->Prop
abbrev Qc:=List (Addr×Obj)
abbrev Qd:=List PyData
abbrev Qe:=List Value
abbrev Qf:=Option Value
abbrev Qg:=List Addr
abbrev Qh:=List Str
abbrev Zaa:Qh:=["_law_script","_law_yard_here","_law_hand","_law_many","_law_k","_law_guest_here","_law_cell","_law_far","_law_turn","_law_state_here","_law_number","_law_way","_law_got"]
abbrev Zab:Qh:=["self","number"]
abbrev Zac:Qh:=["yard","guests"]
abbrev Zad:Qh:=["self","start","end","room"]
abbrev Zae:Qh:=["net","yard","number","guest"]
abbrev Zaf:Qh:=["yard","guests","some"]
abbrev Zag:Qh:=["yard","guests","some","turn"]
abbrev Zah:Qh:=["_law_feed_here","_law_yard_here","_law_now","_law_first","_law_last","_law_line","_law_scale","_law_want"]
abbrev Zai:Qh:=["_law_feed_here","_law_yard_here","_law_now"]
abbrev Zaj:Qh:=["self","start","end"]
abbrev Zak:Qh:=["_law_hand","_law_guest_here","_law_told","e","_law_marks"]
abbrev Zal:Qh:=["self"]
abbrev Zam:Qh:=["_law_number","_law_hand"]
abbrev Zan:Qh:=["guest","turn"]
abbrev Zao:Qh:=["thing","least","end"]
abbrev Zap:Qh:=["_law_hand","_law_way","_law_number"]
abbrev Zaq:Qh:=["_law_feed_here","_law_many"]
abbrev Zar:Qh:=["yard","line","turn"]
abbrev Zas:Qh:=["yard","guests","some","turn","reaching","number","guest","line"]
abbrev Zat:Qh:=["guest"]
abbrev Zau:Qh:=["_law_hand","_law_guest_here"]
abbrev Zav:Qh:=["_law_script","_law_k"]
abbrev Zaw:Qh:=["_law_k","_law_marks","e"]
abbrev Zax:Qh:=["_law_hand","_law_many"]
abbrev Zay:Qh:=["yard"]
abbrev Zaz:Qh:=["line","turn"]
abbrev ZaA:Qh:=["number","guest","net","yard"]
abbrev ZaB:Qh:=["self","edges","end"]
abbrev ZaC:Qh:=["_law_above","_law_bounds"]
abbrev ZaD:Qh:=["thing","length"]
abbrev ZaE:Qh:=["yard","line"]
abbrev ZaF:Qh:=["net","yard","turn"]
abbrev ZaG:Qh:=["self","some"]
abbrev ZaH:Qh:=["self","yard"]
abbrev ZaI:Qh:=["self","turn"]
abbrev ZaJ:Qh:=["thing","least"]
abbrev ZaK:Qh:=["self","start"]
abbrev ZaL:Qh:=["yard","thing"]
abbrev ZaM:Qh:=["guest","want"]
abbrev ZaN:Qh:=["self","guest"]
abbrev ZaO:Qh:=["_law_feed_here"]
abbrev ZaP:Qh:=["number"]
abbrev Qi:=List Expr
abbrev Qj:=Option Addr
abbrev Qk:=List Nat
abbrev Ql:=List Int
abbrev Qm:=Nat->Bool
abbrev Qn:=Nat->Int
def Xa:=@List.mem_cons_self
def Xb:=@if_neg
def Xc:=@wpAny_bind
def Xd:=@if_pos
def Xe:=@List.mem_cons
def Xf:=@List.mem_cons_of_mem
def Xg:=@List.getElem?_eq_some_iff
def Xh:=@List.mem_singleton
def Xi:=@Heap.get?_push_of_some
def Xj:=@Heap.lt_size
def Xk:=@List.getElem?_set_self
def Xl:=@absurd
def Xm:=@List.length_map
def Xn:=@Nat.lt_of_lt_of_le
def Xo:=@List.length_append
def Xp:=@List.getElem?_set_ne
def Xq:=@wpAny_pure
def Xr:=@Nat.ne_of_lt
def Xs:=@Nat.le_refl
def Xt:=@List.getElem?_map
def Xu:=@List.map_cons
def Xv:=@Bool.false_ne_true
def Xw:=@List.find?_cons
def Xx:=@List.size_toArray
def Xy:=@List.map_append
def Xz:=@List.append_nil
def XD:=@Heap.get?_push_size
def XF:=@List.nodup_cons
def XG:=@List.mem_append
def XH:=@List.getElem?_append_left
def XI:=@List.lookup_cons
def XJ:=@List.mem_map
def Oq:=@List.length_cons
def XM:=@List.not_mem_nil
def XN:=@Nat.zero_le
def XO:=@decide_eq_false
def XS:=@Int.toNat_natCast
def XU:=@List.mem_range
def XV:=@decide_eq_true
def XW:=@Heap.get?_update_other
def XX:=@List.mem_append_right
def XY:=@List.getElem?_append_right
def XZ:=@Int.toNat_of_nonneg
def X0:=@congrArg
def X7:=@of_decide_eq_true
def X8:=@Nat.le_trans
def X9:=@Heap.get?_update_self
def Yc:=@Nat.lt_irrefl
def VU:=@Nat.ne_of_gt
def Wl:=@Bool.false_eq_true
def YL:=@List.mem_flatMap
def YK:=@List.range_succ
def YJ:=@Option.map_some
def Yr:=@Nat.le_of_lt
def WA:=@Nat.lt_succ_self
def W9:=@List.getElem_mem
def Y3:=@List.map_map
def UD:=@List.getElem?_eq_getElem
def UC:=@List.getElem?_cons_succ
def Jd:=@Option.isSome_map
def JB:=@List.flatMap_append
def YI:=@Int.zero_add
def Jc:=@List.cons_append
def W8:=@Heap.size_push
def UB:=@List.mem_append_left
def UA:=@List.mem_iff_getElem
def U9:=@List.map_congr_left
def JA:=@Bool.and_eq_true
def J9:=@List.take_length
def Jb:=@List.nodup_nil
def U8:=@List.filter_append
def U7:=@List.nodup_append
def U6:=@List.length_range
def JD:=@List.take_succ
def UJ:=@List.filter_cons
def Me:=@List.getElem?_replicate
def JC:=@Bool.not_true
def GI:=@of_decide_eq_false
def UI:=@Int.emod_nonneg
def GH:=@Int.emod_lt_of_pos
def Jf:=@Int.le_refl
def Je:=@wpAny_field
def GG:=@Nat.lt_succ_of_lt
def GF:=@List.append_assoc
def Md:=@List.pairwise_flatMap
def Mc:=@List.length_pos_iff
def Kx:=@List.getElem?_eq_none_iff
def UG:=@List.map_nil
def Mb:=@Nat.lt_of_le_of_lt
def UF:=@Int.add_zero
def Ma:=@List.flatMap_cons
def UE:=@Int.mul_sub
def GE:=@List.sum_cons
end
namespace L2
open PySem PySem.Spec PyProof.Rows
abbrev Key:=Sum Int Str
def Jq:Key->Value->Bool
 |.inl k,v=>Value.isInt k v
 |.inr x,v=>Value.isStrOf x v
def PV (w:World):Key->Int
 |.inl k=>hashInt k
 |.inr x=>hashStr w x
theorem W3:∀{k:Key} {v:Value},Jq k v=true->(∃i t,k=Sum.inl i/\v=Value.int i t)\/(∃x t,k=Sum.inr x/\v=Value.str x t)
 |.inl i,v,h=>by
   obtain⟨t,e⟩:=Value.isInt_shape (k:=i) (v:=v) h;exact .inl ⟨i,t,rfl,e⟩
 |.inr x,v,h=>by
   obtain⟨t,e⟩:=Value.isStrOf_shape (x:=x) (v:=v) h;exact .inr ⟨x,t,rfl,e⟩
def Al (i:Int)(t:Tok):Jq (.inl i) (.int i t)=true:=by simp[Jq,Value.isInt]
def E2 (x:Str)(t:Tok):Jq (.inr x) (.str x t)=true:=by simp[Jq,Value.isStrOf]
def Tw (a b:Int):decide ((Sum.inl a:Key)=Sum.inl b)=(a==b):=by
 by_cases e:a=b
 ·subst e;simp
 ·have h:¬(Sum.inl a:Key)=Sum.inl b:=fun q=>e (Sum.inl.inj q)
  rw[XO h];exact(beq_eq_false_iff_ne.mpr e).symm
def TU (a b:Str):decide ((Sum.inr a:Key)=Sum.inr b)=decide (a=b):=by
 by_cases e:a=b
 ·subst e;simp
 ·have h:¬(Sum.inr a:Key)=Sum.inr b:=fun q=>e (Sum.inr.inj q)
  rw[XO h,XO e]
def TN (a:Int)(b:Str):decide ((Sum.inl a:Key)=Sum.inr b)=false:=XO (fun q=>nomatch q)
def TD (a:Str)(b:Int):decide ((Sum.inr a:Key)=Sum.inl b)=false:=XO (fun q=>nomatch q)
def ZD (prog:Program)(w:World):PySem.KeyKind prog w Key where
 is:=Jq
 hash:=PV w
 inj:=fun v a b ha hb=>by
  rcases W3 ha with ⟨i,t,rfl,rfl⟩|⟨x,t,rfl,rfl⟩
  ·rcases W3 hb with ⟨j,u,rfl,e⟩|⟨y,u,rfl,e⟩
   ·injection e with e1 _;rw[e1]
   ·exact nomatch e
  ·rcases W3 hb with ⟨j,u,rfl,e⟩|⟨y,u,rfl,e⟩
   ·exact nomatch e
   ·injection e with e1 _;rw[e1]
 byValue:=fun k v h=>by
  rcases W3 h with ⟨i,t,rfl,rfl⟩|⟨x,t,rfl,rfl⟩<;>rfl
 pyHash:=fun hv h=>by
  rcases W3 hv with ⟨i,t,rfl,rfl⟩|⟨x,t,rfl,rfl⟩
  ·exact wpAny_pyHash_int h
  ·exact wpAny_pyHash_str h
 eqBool:=fun hu hv h=>by
  rcases W3 hu with ⟨i,t,rfl,rfl⟩|⟨x,t,rfl,rfl⟩
  ·rcases W3 hv with ⟨j,u,rfl,rfl⟩|⟨y,u,rfl,rfl⟩
   ·rw[Tw]at h;exact wpAny_eqBool_int h
   ·rw[TN]at h;exact SeqAt.EqAt.int_str i t y u _ _ _ _ h
  ·rcases W3 hv with ⟨j,u,rfl,rfl⟩|⟨y,u,rfl,rfl⟩
   ·rw[TD]at h;exact SeqAt.EqAt.str_int x t j u _ _ _ _ h
   ·rw[TU]at h;exact wpAny_eqBool_str h
 «strs» := fun k x t v h=>by
  rcases W3 h with ⟨i,u,rfl,e⟩|⟨y,u,rfl,e⟩
  ·exact nomatch e
  ·injection e with e1 _
   subst e1;cases v<;>rfl
def IC (prog:Program)(w:World)(i:Int)(t:Tok):(ZD prog w).is (.inl i) (.int i t)=true:=Al i t
def Ii (prog:Program)(w:World)(x:Str)(t:Tok):(ZD prog w).is (.inr x) (.str x t)=true:=E2 x t
inductive V where
 |non|bl (b:Bool)|int (i:Int)|str (x:Str)|byt (b:Array UInt8)|flt (b:UInt64)|ref (a:Addr)|ty (n:String)
 deriving DecidableEq
def QH:V->Value->Prop
 |.non,u=>u=Value.none
 |.bl b,u=>u=Value.bool b
 |.int i,u=>∃t,u=Value.int i t
 |.str x,u=>∃t,u=Value.str x t
 |.byt b,u=>∃t,u=Value.bytes b t
 |.flt b,u=>∃t,u=Value.float b t
 |.ref a,u=>u=Value.ref a
 |.ty n,u=>u=Value.type n
abbrev QV:List V->Qe->Prop:=Paired QH
def QV.length {xs:List V}{us:Qe}(r:QV xs us):xs.length=us.length:=Paired.length r
theorem QV.get:∀{xs:List V} {us:Qe} {i:Nat} {x:V},QV xs us->xs[i]?=some x->∃u,us[i]?=some u/\QH x u
 |_,_,_,_,.nil,e=>by simp at e
 |_,_,0,_,.cons r _,e=>by simp at e;subst e;exact⟨_,rfl,r⟩
 |_,_,i+1,x,.cons _ t,e=>by
   obtain⟨u,h1,h2⟩:=QV.get (i:=i) (x:=x) t (by simpa using e)
   exact⟨u,by simpa using h1,h2⟩
theorem QV.set {x:V}{u:Value}(r:QH x u):∀{xs:List V} {us:Qe} (i:Nat),QV xs us->QV (xs.set i x) (us.set i u)
 |_,_,_,.nil=>.nil
 |_,_,0,.cons _ t=>.cons r t
 |_,_,i+1,.cons q t=>.cons q (QV.set r i t)
theorem QV.append:∀{xs ys:List V} {us ws:Qe},QV xs us->QV ys ws->QV (xs++ys) (us++ws)
 |_,_,_,_,.nil,s=>s
 |_,_,_,_,.cons r t,s=>.cons r (QV.append t s)
def ZG:Option V->Qf->Prop
 |some v,some u=>QH v u
 |none,none=>True
 |_,_=>False
def KV {κ:Type}:List (κ×V)->List (κ×Value)->Prop:=Paired fun(p:κ×V) (q:κ×Value)=>p.1=q.1/\QH p.2 q.2
def kV:Key->V
 |.inl i=>.int i
 |.inr x=>.str x
inductive HO where
 |lst (xs:List V)
 |tup (xs:List V)
 |dK (kvs:List (Key×V))|dT (kvs:List (List Key×V))
 |set (S:Int->Bool) (n:Nat)
 |ins (C dx:Addr) (fs:List (Str×V))
 |own (x:Addr)
 |xd (fs:List (Str×V))
 |met (f x:Addr)
 |rng (lo hi:Int)
 |frz (o:Obj) (u:HO)
 |tbl (ps:Array Value)
 |ext (φ:Heap->Prop)
abbrev Hp:=Addr->Option HO
def upd (H:Hp)(a:Addr)(o:HO):Hp:=fun b=>if b=a then some o else H b
def QC {H:Hp}{a:Addr}{o:HO}:upd H a o a=some o:=by unfold upd;rw[Xd rfl]
def Qs {H:Hp}{a b:Addr}{o:HO}(h:b≠a):upd H a o b=H b:=by unfold upd;rw[Xb h]
def Nl {H:Hp}{a b:Addr}{o u:HO}(h:H a=some o)(h':H b=some u)(d:o≠u):a≠b:=by
 intro e;subst e;rw[h]at h';exact d (Option.some.inj h')
def Zp {H:Hp}{a b:Addr}{o:HO}(h:H a=some o)(h':H b=none):a≠b:=by
 intro e;subst e;rw[h]at h';cases h'
section
variable (P:Program)(w:World)
def Z3 (H:Hp)(h:Heap)(a:Addr):HO->Prop
 |.lst xs=>xs.length<=sizeLine/\∃(its:Qe) (n:Nat),QV xs its/\h.get? a=some { cls:=.type "list",data:=.seq its.toArray n }
 |.tup xs=>xs.length<=sizeLine/\∃its:Qe,QV xs its/\IsTup h a its.toArray
 |.dK kvs=>kvs.length<=sizeLine/\(a==sysModules)=false/\∃vs,KV kvs vs/\h.DictOf (ZD P w) a vs
 |.dT kvs=>kvs.length<=sizeLine/\(a==sysModules)=false/\∃xs:List (List Key×Addr×Value),
  Paired (fun(p:List Key×V) (q:List Key×Addr×Value)=>p.1=q.1/\H q.2.1=some (.tup (p.1.map kV))/\QH p.2 q.2.2) kvs xs /\
  ∃o es ep,h.get? a=some o/\o.ExactDict/\o.data=.dict es ep/\es.toList=xs.map (entryOfKey (tupleKind (ZD P w)))/\(xs.map (·.1)).Nodup
 |.set S n=>h.SetOf (intKind P w) a S n
 |.ins C dx fs=>H dx=some (.own a)/\fs.length<=1000/\dx≠a/\h.get? a=some (W.instObj C dx) /\
  ∃mA,h.Ns1 dx mA/\(∀f,ZG (fs.lookup f) (mA f))/\PySem.Within mA (fs.map (·.1))
 |.own _=>∃o,h.get? a=some o
 |.xd fs=>∃mA,h.Ns1 a mA/\∀f,ZG (fs.lookup f) (mA f)
 |.rng lo hi=>∃t u v,h.get? a=some { cls:=.type "range",data:=.fields #[.int lo t,.int hi u,.int 1 v] }
 |.frz o u=>h.get? a=some o/\Z3 H h a u
 |.tbl ps=>h.get? a=some { cls:=.none,data:=.fields ps }
 |.met f x=>h.get? a=some (W.methodObj (.ref f) (.ref x))
 |.ext φ=>φ h/\(∃o,h.get? a=some o)/\∀h1 h2:Heap,φ h1->(∀o,h1.get? a=some o->h2.get? a=some o)->φ h2
def HOk (H:Hp)(h:Heap):Prop := ∀a o,H a=some o->Z3 P w H h a o
end
section
variable {P:Program}{w:World}{H H':Hp}{h h':Heap}{a:Addr}{o:HO}
def Z3.lt (x:Z3 P w H h a o):a<h.objs.size:=by
 cases o with
 |lst xs=>obtain⟨_,_,_,_,e⟩:=x;exact Xj e
 |tup xs=>obtain⟨_,_,_,p⟩:=x;exact p.lt
 |dK kvs=>obtain⟨_,_,_,_,o,_,_,e,_⟩:=x;exact Xj e
 |dT kvs=>obtain⟨_,_,_,_,o,_,_,e,_⟩:=x;exact Xj e
 |set S n=>obtain⟨o,_,_,_,e,_⟩:=x;exact Xj e
 |ins C dx fs=>obtain⟨_,_,_,e,_⟩:=x;exact Xj e
 |own y=>obtain⟨_,e⟩:=x;exact Xj e
 |xd fs=>obtain⟨_,⟨_,_,_,e,_⟩,_⟩:=x;exact Xj e
 |rng lo hi=>obtain⟨_,_,_,e⟩:=x;exact Xj e
 |frz ob u=>obtain⟨e,_⟩:=x;exact Xj e
 |tbl ps=>exact Xj (show h.get? a=some _ from x)
 |met f y=>exact Xj (show h.get? a=some _ from x)
 |ext φ=>obtain⟨_,⟨_,e⟩,_⟩:=x;exact Xj e
theorem Paired.mapP {α β:Type}{F G:α->β->Prop}:∀{c6:List α} {c7:List β},Paired F c6 c7->(∀a b,F a b->G a b)->Paired G c6 c7
 |_,_,.nil,_=>.nil
 |_,_,.cons r t,f=>.cons (f _ _ r) (Paired.mapP t f)
def Z3.stay (x:Z3 P w H h a o)(k:∀b u,(b=a\/H b=some (.own a))->h.get? b=some u->h'.get? b=some u)
 (ho:∀b,H b=some (.own a)->H' b=some (.own a)) (ht:∀b xs,H b=some (.tup xs)->H' b=some (.tup xs)):Z3 P w H' h' a o:=by
 induction o with
 |lst xs=>obtain⟨z,its,n,r,e⟩:=x;exact⟨z,its,n,r,k _ _ (.inl rfl) e⟩
 |tup xs=>obtain⟨z,its,r,ob,e,c⟩:=x;exact⟨z,its,r,ob,k _ _ (.inl rfl) e,c⟩
 |dK kvs=>obtain⟨z,y,vs,r,ob,es,ep,e,c⟩:=x;exact⟨z,y,vs,r,ob,es,ep,k _ _ (.inl rfl) e,c⟩
 |dT kvs =>
   obtain⟨z,y,xs,r,ob,es,ep,e,c⟩:=x
   exact⟨z,y,xs,Paired.mapP r fun p q z=>⟨z.1,ht _ _ z.2.1,z.2.2⟩,ob,es,ep,k _ _ (.inl rfl) e,c⟩
 |set S n=>obtain⟨ob,es,ep,t,e,c⟩:=x;exact⟨ob,es,ep,t,k _ _ (.inl rfl) e,c⟩
 |ins C dx fs =>
   obtain⟨d,z,ne,e,mA,⟨od,es,ep,e2,c⟩,r⟩:=x
   exact⟨ho _ d,z,ne,k _ _ (.inl rfl) e,mA,⟨od,es,ep,k _ _ (.inr d) e2,c⟩,r⟩
 |own y=>obtain⟨ob,e⟩:=x;exact⟨ob,k _ _ (.inl rfl) e⟩
 |xd fs=>obtain⟨mA,⟨od,es,ep,e,c⟩,r⟩:=x;exact⟨mA,⟨od,es,ep,k _ _ (.inl rfl) e,c⟩,r⟩
 |rng lo hi=>obtain⟨t,u,v,e⟩:=x;exact⟨t,u,v,k _ _ (.inl rfl) e⟩
 |frz ob u ih=>obtain⟨e,q⟩:=x;exact⟨k _ _ (.inl rfl) e,ih q⟩
 |tbl ps =>
   have e:h.get? a=some { cls:=.none,data:=.fields ps }:=x;show h'.get? a=some { cls:=.none,data:=.fields ps };exact k a _ (.inl rfl) e
 |met f y =>
   have e:h.get? a=some (W.methodObj (.ref f) (.ref y)):=x;show h'.get? a=some (W.methodObj (.ref f) (.ref y));exact k a _ (.inl rfl) e
 |ext φ=>obtain⟨p,⟨o,e⟩,st⟩:=x;exact⟨st _ _ p fun o q=>k _ _ (.inl rfl) q,⟨o,k _ _ (.inl rfl) e⟩,st⟩
def HOk.lt (x:HOk P w H h)(e:H a=some o):a<h.objs.size:=(x a o e).lt
def HOk.fresh (x:HOk P w H h)(e:h.objs.size<=a):H a=none:=by
 cases q:H a with
 |none=>rfl
 |some u=>exact Xl (Xn (x.lt q) e) (Yc _)
def HOk.kept (x:HOk P w H h)(k:∀b u,h.get? b=some u->h'.get? b=some u):HOk P w H h':=fun a o e =>
 (x a o e).stay (fun b u _ q=>k b u q) (fun _ q=>q) fun _ _ q=>q
def HOk.laid (x:HOk P w H h)(k:∀b u,h.get? b=some u->h'.get? b=some u)(hp:h.objs.size<=a)(new:Z3 P w (upd H a o) h' a o):HOk P w (upd H a o) h':=fun b u e=>by
 have hn:=x.fresh hp
 by_cases hb:b=a
 ·subst hb;rw[QC]at e;cases e;exact new
 ·rw[Qs hb]at e
  exact(x b u e).stay (fun c v _ q=>k c v q) (fun c q=>by rw[Qs (Zp q hn)];exact q) fun c xs q=>by rw[Qs (Zp q hn)];exact q
end
def Rd (H:Hp)(a:Addr)(u:HO):Prop:=H a=some u\/∃o,H a=some (.frz o u)
def Rd.of {H:Hp}{a:Addr}{u:HO}(h:H a=some u):Rd H a u:=.inl h
def Rd.ok {P:Program}{w:World}{H:Hp}{h:Heap}{a:Addr}{u:HO}(r:Rd H a u)(x:HOk P w H h):Z3 P w H h a u:=by
 rcases r with r|⟨o,r⟩
 ·exact x a u r
 ·obtain⟨_,q⟩:=x a _ r
  exact q
def Mut:Option HO->Prop
 |some (.lst _)=>True
 |some (.dK _)=>True
 |some (.dT _)=>True
 |some (.set _ _)=>True
 |some (.ins _ _ _)=>True
 |some (.ext _)=>True
 |_=>False
section
variable {P:Program}{w:World}{H:Hp}{h h':Heap}{x e:Addr}{o':HO}
def HOk.write (ok:HOk P w H h)(mu:Mut (H x))(he:e=x\/H e=some (.own x))(k:∀b u,b≠e->h.get? b=some u->h'.get? b=some u)(heo:∃u,h'.get? e=some u)
 (new:Z3 P w (upd H x o') h' x o'):HOk P w (upd H x o') h':=fun b u q=>by
 have nown:∀c y,H c=some (.own y)->c≠x:=fun c y r z=>by subst z;rw[r]at mu;exact mu
 have ntup:∀c xs,H c=some (.tup xs)->c≠x:=fun c xs r z=>by subst z;rw[r]at mu;exact mu
 by_cases hb:b=x
 ·subst hb;rw[QC]at q;cases q;exact new
 ·rw[Qs hb]at q
  by_cases hbe:b=e
  ·have q':H b=some (.own x):=by
    rcases he with z|z
    ·exact Xl (hbe.trans z) hb
    ·rw[hbe];exact z
   rw[q]at q';cases q';obtain⟨v,hv⟩:=heo
   exact⟨v,by rw[hbe];exact hv⟩
  ·refine(ok b u q).stay (fun c v hc r=>k c v ?_ r) (fun c r=>by rw[Qs (nown c b r)];exact r) fun c xs r=>by rw[Qs (ntup c xs r)];exact r
   rcases hc with rfl|hc
   ·exact hbe
   ·rintro rfl
    rcases he with z|z
    ·exact nown c b hc z
    ·rw[hc]at z;cases z;exact hb rfl
end
structure Un (fs ex:Qg)(H H':Hp)(h h':Heap):Prop where
 keep:∀b o,h.get? b=some o->H b=none->b∉fs->b∉ex->h'.get? b=some o
 slot:∀b o,h.get? b=some o->H b=none->b∈fs->b∉ex->∃sl,h'.get? b=some { o with slots:=sl }
 free:∀b o,h.get? b=some o->H b=none->b∉ex->H' b=none
 there:∀b o,h.get? b=some o->b∉ex->∃o',h'.get? b=some o'
 tups:∀b xs,H b=some (.tup xs)->H' b=some (.tup xs)
 frzs:∀b o u,H b=some (.frz o u)->H' b=some (.frz o u)
 tupo:∀b xs o,H b=some (.tup xs)->h.get? b=some o->b∉ex->h'.get? b=some o
 tbls:∀b ps,H b=some (.tbl ps)->∃more,H' b=some (.tbl (ps++more))
section
variable {fs fs' ex ex':Qg}{H H1 H2:Hp}{h h1 h2 h':Heap}{a x e:Addr}{o:HO}
def Un.any (u:Un fs ex H H1 h h1){b:Addr}{ob:Obj}(q:h.get? b=some ob)(n:H b=none)(hx:b∉ex):∃sl,h1.get? b=some { ob with slots:=sl }:=by
 by_cases hb:b∈fs
 ·exact u.slot b ob q n hb hx
 ·exact⟨ob.slots,u.keep b ob q n hb hx⟩
def Un.kept (k:∀b u,h.get? b=some u->h'.get? b=some u):Un fs ex H H h h' :=
 ⟨fun b ob q _ _ _=>k b ob q,fun b ob q _ _ _=>⟨ob.slots,k b ob q⟩,fun _ _ _ n _=>n,fun b ob q _=>⟨ob,k b ob q⟩,fun _ _ q=>q,fun _ _ _ q=>q,fun b _ ob _ e _=>k b ob e,fun _ ps q=>⟨#[],by rw[q];simp⟩⟩
def Un.refl:Un fs ex H H h h:=Un.kept fun _ _ q=>q
theorem Un.laid (k:∀b u,h.get? b=some u->h'.get? b=some u)(hp:h.objs.size<=a)(hn:H a=none):Un fs ex H (upd H a o) h h' where
 keep:=fun b u q _ _ _=>k b u q
 slot:=fun b u q _ _ _=>⟨u.slots,k b u q⟩
 free:=fun b u q n _=>by rw[Qs (Xr (Xn (Xj q) hp))];exact n
 there:=fun b u q _=>⟨u,k b u q⟩
 tups:=fun b xs q=>by rw[Qs (Zp q hn)];exact q
 frzs:=fun b u xs q=>by rw[Qs (Zp q hn)];exact q
 tupo:=fun b _ ob _ e _=>k b ob e
 tbls:=fun b ps q=>⟨#[],by rw[Qs (Zp q hn),q];simp⟩
def Un.write (mu:Mut (H x))(he:e=x\/H e=some (.own x))(k:∀b u,b≠e->h.get? b=some u->h'.get? b=some u)(heo:∃u,h'.get? e=some u):Un fs ex H (upd H x o) h h':=by
 have hx:∀b,H b=none->b≠x:=fun b n z=>by subst z;rw[n]at mu;exact mu
 have hb:∀b,H b=none->b≠e:=fun b n z=>by
  subst z;rcases he with r|r
  ·exact hx b n r
  ·rw[n]at r;cases r
 have hm:∀b u,H b=some u->¬Mut (some u)->b≠x:=fun b u q nm z=>by subst z;rw[q]at mu;exact nm mu
 refine⟨fun b u q n _ _=>k b u (hb b n) q,fun b u q n _ _=>⟨u.slots,k b u (hb b n) q⟩,fun b u q n _=>by rw[Qs (hx b n)];exact n,fun b u q _=>?_,
  fun b xs q=>by rw[Qs (hm b _ q fun z=>z)];exact q,fun b u xs q=>by rw[Qs (hm b _ q fun z=>z)];exact q,fun b xs u q e' _=>k b u (fun z=>by
   rcases he with r|r
   ·exact hm b _ q (fun y=>y) (z.trans r)
   ·rw[<- z,q]at r;cases r) e',fun b ps q=>⟨#[],by rw[Qs (hm b _ q fun z=>z),q];simp⟩⟩
 by_cases hbe:b=e
 ·subst hbe;exact heo
 ·exact⟨u,k b u hbe q⟩
end
def trk (h:Heap)(H:Hp):Qg:=(List.range h.objs.size).filter fun a=>(H a).isSome
def Wo (h:Heap)(H:Hp):Heap:=W.hideAll h (trk h H)
def Ay (h:Heap)(H:Hp):(Wo h H).objs.size=h.objs.size:=W.hideAll_size _ _
def CN {h:Heap}{H:Hp}{b:Addr}{o:Obj}(e:h.get? b=some o)(n:H b=none):(Wo h H).get? b=some o :=
 W.hideAll_get _ e fun hm=>by
  have q:(H b).isSome=true:=(List.mem_filter.mp hm).2;rw[n]at q;simp at q
def LW {h:Heap}{H:Hp}{b:Addr}{o:Obj}(e:(Wo h H).get? b=some o):h.get? b=some o/\H b=none:=by
 have e':h.get? b=some o:=W.of_hideAll (trk h H) e;refine⟨e',?_⟩
 cases q:H b with
 |none=>rfl
 |some x =>
   have hm:b∈trk h H:=List.mem_filter.mpr ⟨XU.mpr (Xj e'),by simp[q]⟩;have z:(Wo h H).get? b=none:=W.hideAll_none (trk h H) hm;rw[z]at e;cases e
structure Mod (K:W.Frag)(mg:Str->Qf)(base:Heap):Prop where
 kin:K.In base
 glob:base.Ns mainGlobals mg
 blt:∃mb,base.Ns builtinsNs mb/\∀x:Str,x ≠ "__name__" -> mb x=bootBuiltins x
 nolimit:base.NoLimit
structure Cx where
 prog:Program
 w:World
 K:W.Frag
 mg:Str->Qf
 base:Heap
 A:Around
 N:Qh
 s₀:Shared
 H₀:Hp
 env:Env
 outer:List Env
 stack:List Env
 ex:Qg
 fn:Str->Bool
 calm:Bool
 pn:Qc
 xe:Qb
def frs (l:List Env):Qg:=l.filterMap (·.frame)
abbrev Cx.fs (X:Cx):Qg:=frs X.outer
def Vis (sc:Scope)(x:Str):Prop:=sc.names.lookup x=some .local\/sc.names.lookup x=some .cell\/sc.names.lookup x=some .free
def Loc (sc:Scope)(x:Str):Prop:=sc.names.lookup x=some .local\/sc.names.lookup x=some .cell
def PM (env:Env)(h:Heap)(m:Str->Qf)(x:Str)(u:Value):Prop :=
 (env.kindOf x=some .local/\m x=some u)\/((env.kindOf x=some .cell\/env.kindOf x=some .free)/\∃c,env.cells.lookup x=some c/\h.IsCell c (some u))
structure Cx.Ok (X:Cx):Prop where
 mod:Mod X.K X.mg X.base
 kind:X.env.scope.kind=.function
 glob:X.env.globals=mainGlobals
 blt:X.env.builtins=builtinsNs
 above:X.s₀.heap.objs.size<=X.env.locals
 inj:∀x y c,X.env.cells.lookup x=some c->X.env.cells.lookup y=some c->x=y
 has:∀x,(X.env.kindOf x=some .cell\/X.env.kindOf x=some .free)->∃c,X.env.cells.lookup x=some c
 cab:∀x c,X.fn x=true->X.env.cells.lookup x=some c->X.s₀.heap.objs.size<=c
 hd:X.calm=true->X.A.handled=none
 frames:X.A.frames=some X.stack
 stk:X.stack=X.outer\/(X.stack=X.env::X.outer/\X.env.frame=some X.env.locals)
 exf:∀b∈X.ex,b≠X.env.locals/\∀x c,X.env.cells.lookup x=some c->c≠b
 bs:∀b o,X.base.get? b=some o->X.s₀.heap.get? b=some o/\(X.H₀ b=none\/∃xs,X.H₀ b=some (.tup xs))
 bsz:X.base.objs.size<=X.s₀.heap.objs.size
 noex:∀b o,X.base.get? b=some o->b∉X.ex
 exfs:∀b∈X.ex,b∉X.fs
 funs:X.s₀.heap.FunFrames X.base X.outer
 frf:∀b∈X.fs,X.H₀ b=none
structure Qq (X:Cx)(XaU:Qc)(σ:List (Option V))(H:Hp)(s:Shared):Prop where
 ok:X.Ok
 os:s.os=X.s₀.os
 bare:AllBare s.gens
 base:Un X.fs X.ex X.H₀ H X.s₀.heap s.heap
 loc:∃m,s.heap.Ns X.env.locals m/\∀(i:Nat) (x:Str) (v:V),X.N[i]?=some x->σ[i]?=some (some v)->Vis X.env.scope x->∃u,QH v u/\PM X.env s.heap m x u
 cell:∀x c,X.env.cells.lookup x=some c->∃v,s.heap.IsCell c v
 free:H X.env.locals=none
 freeC:∀x c,X.env.cells.lookup x=some c->H c=none
 pin:∀p∈X.pn++XaU,s.heap.get? p.1=some p.2/\H p.1=none/\p.1≠X.env.locals/\p.1∉X.fs/\∀v,p.2.data≠.cell v
 hok:HOk X.prog X.w H s.heap
 len:σ.length=X.N.length
section
variable {X:Cx}{XaU:Qc}{σ:List (Option V)}{H H':Hp}{s:Shared}{h':Heap}
def Cx.Ok.nofr (ok:X.Ok){b:Addr}{o:Obj}(e:X.base.get? b=some o):b∉X.fs:=fun hb=>by
 have:=(ok.funs.mem hb).1
 rw[e]at this;cases this
def Qq.bs (I:Qq X XaU σ H s):∀b o,X.base.get? b=some o->s.heap.get? b=some o/\(H b=none\/∃xs,H b=some (.tup xs)):=fun b o e=>by
 obtain⟨e1,e2⟩:=I.ok.bs b o e
 rcases e2 with e2|⟨xs,e2⟩
 ·exact⟨I.base.keep b o e1 e2 (I.ok.nofr e) (I.ok.noex b o e),.inl (I.base.free b o e1 e2 (I.ok.noex b o e))⟩
 ·exact⟨I.base.tupo b xs o e2 e1 (I.ok.noex b o e),.inr ⟨xs,I.base.tups b xs e2⟩⟩
def Qq.bk (I:Qq X XaU σ H s):∀b o,X.base.get? b=some o->s.heap.get? b=some o:=fun b o e=>(I.bs b o e).1
def Qq.mod (I:Qq X XaU σ H s):Mod X.K X.mg X.base:=I.ok.mod
def Qq.kIn (I:Qq X XaU σ H s):X.K.In s.heap:=I.ok.mod.kin.keeps I.bk
def Qq.lt (I:Qq X XaU σ H s):X.env.locals<s.heap.objs.size:=let ⟨_,hn,_⟩:=I.loc;hn.lt
def Qq.sz (I:Qq X XaU σ H s):X.s₀.heap.objs.size<=s.heap.objs.size:=X8 I.ok.above (Yr I.lt)
def Qq.nofs (I:Qq X XaU σ H s){a:Addr}(h:s.heap.objs.size<=a):a∉X.fs:=fun hb=>by
 obtain⟨_,o,ho,_⟩:=I.ok.funs.mem hb;exact Xl (Xn (Xj ho) (X8 I.sz h)) (Yc _)
def Qq.cne (I:Qq X XaU σ H s):∀x c,X.env.cells.lookup x=some c->c≠X.env.locals:=fun x c e z=>by
 obtain⟨v,o,ho,hd⟩:=I.cell x c e;obtain⟨m,⟨o',es,ep,ho',hd',_⟩,_⟩:=I.loc;rw[z,ho']at ho;cases ho;rw[hd']at hd;cases hd
def Qq.funs (I:Qq X XaU σ H s):s.heap.FunFrames X.base X.outer:=by
 have all:∀(l:List Env),(∀b∈frs l,b∈X.fs)->X.s₀.heap.FunFrames X.base l->s.heap.FunFrames X.base l:=by
  intro l;induction l with
  |nil=>intro _ _;trivial
  |cons env r ih =>
    intro hs hl;obtain⟨hk,⟨L,o,hf,hn,ho,hd⟩,hr⟩:=hl;have hL:L∈X.fs:=hs L (by unfold frs;rw[List.filterMap_cons,hf];exact Xa);obtain⟨sl,e⟩:=I.base.slot L o ho (I.ok.frf L hL) hL fun z=>I.ok.exfs L z hL
    exact⟨hk,⟨L,_,hf,hn,e,hd⟩,ih (fun b hb=>hs b (by unfold frs;rw[List.filterMap_cons,hf];exact Xf _ hb)) hr⟩
 exact all X.outer (fun _ hb=>hb) I.ok.funs
def Qq.stack (I:Qq X XaU σ H s):s.heap.FunFrames X.base X.stack:=by
 rcases I.ok.stk with e|⟨e,hf⟩
 ·rw[e];exact I.funs
 ·rw[e]
  obtain⟨m,hn,_⟩:=I.loc;refine .cons (by rw[I.ok.kind];decide) hf hn ?_ I.funs;exact Heap.get?_none_of_le (X8 I.ok.bsz I.ok.above)
def Qq.stkSub (I:Qq X XaU σ H s):∀b∈frs X.stack,b∈X.env.locals::X.fs:=fun b hb=>by
 rcases I.ok.stk with e|⟨e,hf⟩
 ·rw[e]at hb;exact Xf _ hb
 ·rw[e]at hb
  unfold frs at hb;rw[List.filterMap_cons,hf]at hb;exact hb
def Qq.stkFree (I:Qq X XaU σ H s):∀b∈frs X.stack,H b=none:=fun b hb=>by
 rcases Xe.mp (I.stkSub b hb) with e|hb
 ·rw[e];exact I.free
 ·obtain⟨_,o,ho,_⟩:=I.ok.funs.mem hb
  exact I.base.free b o ho (I.ok.frf b hb) fun z=>I.ok.exfs b z hb
def Qq.step {g':Array GenState}{t':Nat}{d':Drawn}{ch:Qg}(I:Qq X XaU σ H s)
 (hch:∀b∈ch,(b∈X.ex\/X.s₀.heap.objs.size<=b)/\b≠X.env.locals/\(∀x c,X.env.cells.lookup x=some c->c≠b)/\∀p∈X.pn++XaU,p.1≠b)
 (keep:∀b o,b≠X.env.locals->b∉X.fs->b∉ch->s.heap.get? b=some o->H b=none->h'.get? b=some o)
 (slot:∀b o,b≠X.env.locals->b∈X.fs->b∉ch->s.heap.get? b=some o->H b=none->∃sl,h'.get? b=some { o with slots:=sl }) (free:∀b o,b∉ch->s.heap.get? b=some o->H b=none->H' b=none)
 (there:∀b o,b∉ch->s.heap.get? b=some o->∃o',h'.get? b=some o')
 (tups:∀b xs,H b=some (.tup xs)->H' b=some (.tup xs)) (frzs:∀b o u,H b=some (.frz o u)->H' b=some (.frz o u)) (tbls:∀b ps,H b=some (.tbl ps)->∃more,H' b=some (.tbl (ps++more)))
 (ns:∀m,s.heap.Ns X.env.locals m->h'.Ns X.env.locals m) (hok:HOk X.prog X.w H' h') (hg:AllBare g') (tupo:∀b xs o,b∉ch->H b=some (.tup xs)->s.heap.get? b=some o->h'.get? b=some o) :
 Qq X XaU σ H' { s with heap:=h',gens:=g',drawn:=d',toks:=t' }:=by
 have neL:∀b o,X.s₀.heap.get? b=some o->b≠X.env.locals:=fun b o e=>Xr (Xn (Xj e) I.ok.above)
 have neC:∀b o,X.s₀.heap.get? b=some o->b∉X.ex->b∉ch:=fun b o e hx hb=>by
  rcases(hch b hb).1 with z|z
  ·exact hx z
  ·exact Xl (Xn (Xj e) z) (Yc _)
 have cellK:∀x c,X.env.cells.lookup x=some c->∀v,s.heap.IsCell c v->h'.IsCell c v:=fun x c e v ⟨o,ho,hd⟩=>by
  have nch:c∉ch:=fun z=>(hch c z).2.2.1 x c e rfl
  by_cases hc:c∈X.fs
  ·obtain⟨sl,q⟩:=slot c o (I.cne x c e) hc nch ho (I.freeC x c e)
   exact⟨_,q,hd⟩
  ·exact⟨o,keep c o (I.cne x c e) hc nch ho (I.freeC x c e),hd⟩
 refine⟨I.ok,I.os,hg,⟨fun b o e n hb hx=>?_,fun b o e n hb hx=>?_,fun b o e n hx=>?_,fun b o e hx=>?_,fun b xs e=>tups b xs (I.base.tups b xs e),fun b o xs e=>frzs b o xs (I.base.frzs b o xs e),fun b xs o q e hx=>tupo b xs o (neC b o e hx) (I.base.tups b xs q) (I.base.tupo b xs o q e hx),fun b ps e=>?_⟩,?_,fun x c e=>?_,?_,fun x c e=>?_,fun p hp=>?_,hok,I.len⟩
 ·exact keep b o (neL b o e) hb (neC b o e hx) (I.base.keep b o e n hb hx) (I.base.free b o e n hx)
 ·obtain⟨sl,e1⟩:=I.base.slot b o e n hb hx
  obtain⟨sl',e2⟩:=slot b _ (neL b o e) hb (neC b o e hx) e1 (I.base.free b o e n hx)
  exact⟨sl',e2⟩
 ·obtain⟨o',e1⟩:=I.base.there b o e hx
  exact free b o' (neC b o e hx) e1 (I.base.free b o e n hx)
 ·obtain⟨o',e1⟩:=I.base.there b o e hx
  exact there b o' (neC b o e hx) e1
 ·obtain⟨m1,e1⟩:=I.base.tbls b ps e
  obtain⟨m2,e2⟩:=tbls b _ e1
  exact⟨m1++m2,by rw[e2,Array.append_assoc]⟩
 ·obtain⟨m,hn,hl⟩:=I.loc
  refine⟨m,ns m hn,fun i x v e1 e2 e3=>?_⟩;obtain⟨u,r,l⟩:=hl i x v e1 e2 e3;refine⟨u,r,?_⟩
  rcases l with l|⟨k,c,e,z⟩
  ·exact .inl l
  ·exact .inr ⟨k,c,e,cellK x c e _ z⟩
 ·obtain⟨v,z⟩:=I.cell x c e
  exact⟨v,cellK x c e v z⟩
 ·obtain⟨m,⟨o,_,_,ho,_⟩,_⟩:=I.loc
  exact free _ o (fun z=>(hch _ z).2.1 rfl) ho I.free
 ·obtain⟨v,o,ho,hd⟩:=I.cell x c e
  exact free c o (fun z=>(hch c z).2.2.1 x c e rfl) ho (I.freeC x c e)
 ·obtain⟨e,n,ne,nf,d⟩:=I.pin p hp
  have nch:p.1∉ch:=fun z=>(hch p.1 z).2.2.2 p hp rfl
  exact⟨keep p.1 p.2 ne nf nch e n,free p.1 p.2 nch e n,ne,nf,d⟩
def Qq.un {t':Nat}(I:Qq X XaU σ H s)(u:Un X.fs [] H H' s.heap h')(hok:HOk X.prog X.w H' h'):Qq X XaU σ H' { s with heap:=h',toks:=t' }:=by
 obtain⟨m,⟨o,es,ep,ho,r⟩,_⟩:=id I.loc;obtain⟨sl,hL⟩:=u.any ho I.free (by simp)
 exact I.step (g':=s.gens) (d':=s.drawn) (ch:=[]) (fun _ z=>nomatch z) (fun b o _ hb _ e n=>u.keep b o e n hb (by simp)) (fun b o _ hb _ e n=>u.slot b o e n hb (by simp)) (fun b o _ e n=>u.free b o e n (by simp)) (fun b o _ e=>u.there b o e (by simp)) u.tups u.frzs u.tbls (fun m' hm=>by
  obtain⟨o',es',ep',ho',r'⟩:=hm;rw[ho]at ho';cases ho';exact⟨_,es',ep',hL,r'⟩) hok I.bare (fun b xs o _ q e=>u.tupo b xs o q e (by simp))
def Qq.call {g':Array GenState}{t':Nat}{d':Drawn}{ch:Qg}(I:Qq X XaU σ H s)(u:Un (frs X.stack) ch H H' s.heap h')(hok:HOk X.prog X.w H' h')(hg:AllBare g')
 (hch:∀b∈ch,(b∈X.ex\/X.s₀.heap.objs.size<=b)/\b≠X.env.locals/\(∀x c,X.env.cells.lookup x=some c->c≠b)/\∀p∈X.pn++XaU,p.1≠b) :
 Qq X XaU σ H' { s with heap:=h',gens:=g',drawn:=d',toks:=t' }:=by
 obtain⟨m,⟨o,es,ep,ho,r⟩,_⟩:=id I.loc;obtain⟨sl,hL⟩:=u.any ho I.free fun z=>(hch _ z).2.1 rfl
 exact I.step (ch:=ch) hch (fun b o hL hb hc e n=>u.keep b o e n (fun z=>(Xe.mp (I.stkSub b z)).elim hL hb) hc) (fun b o _ _ hc e n=>u.any e n hc) (fun b o hc e n=>u.free b o e n hc) (fun b o hc e=>u.there b o e hc) u.tups u.frzs u.tbls (fun m' hm=>by
  obtain⟨o',es',ep',ho',r'⟩:=hm;rw[ho]at ho';cases ho';exact⟨_,es',ep',hL,r'⟩) hok hg (fun b xs o hc q e=>u.tupo b xs o q e hc)
def Qq.turned {t':Nat}{it:Addr}(I:Qq X XaU σ H s)(k:∀b o,b≠it->s.heap.get? b=some o->h'.get? b=some o)(hn:H it=none)(hL:it≠X.env.locals)
 (h1:it∈X.ex\/X.s₀.heap.objs.size<=it) (h2:∀x c,X.env.cells.lookup x=some c->c≠it) (h3:∀p∈X.pn++XaU,p.1≠it):Qq X XaU σ H { s with heap:=h',toks:=t' }:=by
 have nit:∀b u,H b=some u->b≠it:=fun b u e z=>by rw[z,hn]at e;cases e
 refine I.step (g':=s.gens) (d':=s.drawn) (ch:=[it]) (fun b hb=>?_) (fun b o _ _ hc e _=>k b o (fun z=>hc (by simp[z])) e) (fun b o _ _ hc e _=>⟨o.slots,k b o (fun z=>hc (by simp[z])) e⟩) (fun _ _ _ _ n=>n)
  (fun b o hc e=>⟨o,k b o (fun z=>hc (by simp[z])) e⟩) (fun _ _ e=>e) (fun _ _ _ e=>e) (fun b ps e=>⟨#[],by rw[e];simp⟩) (fun m hm=>?_) (fun b u e=>?_) I.bare (fun b _ o hc _ e=>k b o (fun z=>hc (by simp[z])) e)
 ·have e:b=it:=by simpa using hb
  subst e;exact⟨h1,hL,h2,h3⟩
 ·obtain⟨o,es,ep,ho,r⟩:=hm
  exact⟨o,es,ep,k _ o (Ne.symm hL) ho,r⟩
 ·refine(I.hok b u e).stay (fun c v hc q=>k c v ?_ q) (fun _ q=>q) fun _ _ q=>q
  rcases hc with z|z
  ·rw[z];exact nit b u e
  ·exact nit c _ z
def Qq.tok (I:Qq X XaU σ H s)(t:Nat):Qq X XaU σ H { s with toks:=t }:=I.un (h':=s.heap) (t':=t) Un.refl I.hok
def Qq.kept {t':Nat}(I:Qq X XaU σ H s)(k:∀b u,s.heap.get? b=some u->h'.get? b=some u):Qq X XaU σ H { s with heap:=h',toks:=t' }:=I.un (Un.kept k) (I.hok.kept k)
def Qq.laid {a:Addr}{o:HO}{t':Nat}(I:Qq X XaU σ H s)(k:∀b u,s.heap.get? b=some u->h'.get? b=some u)(hp:s.heap.objs.size<=a)(new:Z3 X.prog X.w (upd H a o) h' a o) :
 Qq X XaU σ (upd H a o) { s with heap:=h',toks:=t' }:=I.un (Un.laid k hp (I.hok.fresh hp)) (I.hok.laid k hp new)
def Qq.write {x e:Addr}{o:HO}{t':Nat}(I:Qq X XaU σ H s)(mu:Mut (H x))(he:e=x\/H e=some (.own x))(k:∀b u,b≠e->s.heap.get? b=some u->h'.get? b=some u)(heo:∃u,h'.get? e=some u)
 (new:Z3 X.prog X.w (upd H x o) h' x o):Qq X XaU σ (upd H x o) { s with heap:=h',toks:=t' }:=I.un (Un.write mu he k heo) (I.hok.write mu he k heo new)
def Qq.weak {σ':List (Option V)}(I:Qq X XaU σ H s)(hl:σ'.length=σ.length)(w:∀(i:Nat) v,σ'[i]?=some (some v)->σ[i]?=some (some v)):Qq X XaU σ' H s :=
 ⟨I.ok,I.os,I.bare,I.base,let ⟨m,hn,hl'⟩:=I.loc;⟨m,hn,fun i x v e1 e2 e3=>hl' i x v e1 (w i v e2) e3⟩,I.cell,I.free,I.freeC,I.pin,I.hok,hl.trans I.len⟩
def Qq.pins_of {pins':Qc}(I:Qq X XaU σ H s)(h:∀p∈pins',s.heap.get? p.1=some p.2/\H p.1=none/\p.1≠X.env.locals/\p.1∉X.fs/\∀v,p.2.data≠.cell v):Qq X pins' σ H s :=
 ⟨I.ok,I.os,I.bare,I.base,I.loc,I.cell,I.free,I.freeC,fun p hp=>(XG.mp hp).elim (fun z=>I.pin p (UB _ z)) (h p),I.hok,I.len⟩
def B3 {N:Qh}(hN:N.Nodup){i j:Nat}{x:Str}(a:N[i]?=some x)(b:N[j]?=some x):i=j:=by
 obtain⟨h1,e1⟩:=Xg.mp a;obtain⟨h2,e2⟩:=Xg.mp b
 exact(List.getElem_inj hN).mp (e1.trans e2.symm)
def Sr {M:Model}{A:Around}{E:Qb}{i:Nat}{x:Str}{v:V}{u:Value}{Q:Unit->Shared->Prop}(I:Qq X XaU σ H s)(hN:X.N.Nodup)(hi:X.N[i]?=some x)(hx:Loc X.env.scope x)(r:QH v u)
 (h:∀s',Qq X XaU (σ.set i (some v)) H s'->(∃a,Heap.SameBut a s.heap s'.heap/\(a=X.env.locals\/X.env.cells.lookup x=some a))->Q () s') (hf:X.fn x=true\/X.env.scope.names.lookup x=some .local:=by first|exact .inl rfl|exact .inr rfl|assumption):wpAny M A (storeName X.env x u) Q E s:=by
 obtain⟨m,hn,hl⟩:=id I.loc;have hcls:(X.env.scope.kind==.class||(X.env.scope.kind==.module&&X.env.locals != X.env.globals))=false:=by rw[I.ok.kind];rfl
 have hiσ:i<σ.length:=by rw[I.len];exact(Xg.mp hi).1
 have cne:=I.cne
 have tracked:∀{a:Addr} {h':Heap},(∃o,s.heap.get? a=some o/\H a=none)->Heap.SameBut a s.heap h'->HOk X.prog X.w H h':=fun{a h'} ha hs b ob e=>by
  obtain⟨_,_,hfree⟩:=ha;refine(I.hok b ob e).stay (fun c w' hc q=>(hs.2 c ?_).trans q) (fun _ q=>q) fun _ _ q=>q
  rintro rfl
  rcases hc with rfl|hc
  ·rw[hfree]at e;cases e
  ·rw[hfree]at hc;cases hc
 rcases hx with hk|hk
 ·refine wpAny_storeName_local hk hn (fun h' hn' hs=>?_) hcls
  obtain⟨oL,_,_,hoL,_⟩:=id hn;refine h _ ⟨I.ok,I.os,I.bare,⟨fun b o e n hb hx=>?_,fun b o e n hb hx=>?_,I.base.free,fun b o e hx=>?_,I.base.tups,I.base.frzs,fun b xs o q e hx=>(hs.2 b (Xr (Xn (Xj e) I.ok.above))).trans (I.base.tupo b xs o q e hx),I.base.tbls⟩,⟨_,hn',fun j y v' e1 e2 e3=>?_⟩,fun y c e=>?_,I.free,I.freeC,fun p hp=>?_,tracked ⟨oL,hoL,I.free⟩ hs,by simpa using I.len⟩ ⟨_,hs,.inl rfl⟩
  ·exact(hs.2 b (Xr (Xn (Xj e) I.ok.above))).trans (I.base.keep b o e n hb hx)
  ·obtain⟨sl,e1⟩:=I.base.slot b o e n hb hx
   exact⟨sl,(hs.2 b (Xr (Xn (Xj e) I.ok.above))).trans e1⟩
  ·obtain⟨o',e1⟩:=I.base.there b o e hx
   exact⟨o',(hs.2 b (Xr (Xn (Xj e) I.ok.above))).trans e1⟩
  ·by_cases hj:j=i
   ·subst hj
    rw[hi]at e1;cases e1;rw[Xk hiσ]at e2;cases e2
    exact⟨u,r,.inl ⟨hk,by simp⟩⟩
   ·rw[Xp (Ne.symm hj)]at e2
    obtain⟨u',r',q⟩:=hl j y v' e1 e2 e3;refine⟨u',r',?_⟩
    rcases q with ⟨k,e⟩|⟨k,c,e,z⟩
    ·refine .inl ⟨k,?_⟩
     have:y≠x:=fun e=>hj (B3 hN e1 (e▸hi))
     simp[this,e]
    ·exact .inr ⟨k,c,e,z.sameBut hs (cne y c e)⟩
  ·obtain⟨w',z⟩:=I.cell y c e
   exact⟨w',z.sameBut hs (cne y c e)⟩
  ·obtain⟨e,n,ne,nf,d⟩:=I.pin p hp
   exact⟨(hs.2 p.1 ne).trans e,n,ne,nf,d⟩
 ·have hfn:X.fn x=true:=by
   rcases hf with z|z
   ·exact z
   ·rw[z]at hk;cases hk
  obtain⟨c,hc⟩:=I.ok.has x (.inl hk);obtain⟨w',z⟩:=I.cell x c hc;refine wpAny_storeName_cell I.ok.kind hk hc z (fun h' hc' hs=>?_);obtain⟨oc,hoc,hocd⟩:=id z;refine h { s with heap:=h' } ⟨I.ok,I.os,I.bare,⟨fun b o e n hb hx=>?_,fun b o e n hb hx=>?_,I.base.free,fun b o e hx=>?_,I.base.tups,I.base.frzs,fun b xs o q e hx=>(hs.2 b (Xr (Xn (Xj e) (I.ok.cab x c hfn hc)))).trans (I.base.tupo b xs o q e hx),I.base.tbls⟩,⟨m,hn.sameBut hs (Ne.symm (cne x c hc)),fun j y v' e1 e2 e3=>?_⟩,fun y c' e=>?_,I.free,I.freeC,fun p hp=>?_,tracked ⟨oc,hoc,I.freeC x c hc⟩ hs,by simpa using I.len⟩ ⟨c,hs,.inr hc⟩
  ·exact(hs.2 b (Xr (Xn (Xj e) (I.ok.cab x c hfn hc)))).trans (I.base.keep b o e n hb hx)
  ·obtain⟨sl,e1⟩:=I.base.slot b o e n hb hx
   exact⟨sl,(hs.2 b (Xr (Xn (Xj e) (I.ok.cab x c hfn hc)))).trans e1⟩
  ·obtain⟨o',e1⟩:=I.base.there b o e hx
   exact⟨o',(hs.2 b (Xr (Xn (Xj e) (I.ok.cab x c hfn hc)))).trans e1⟩
  ·by_cases hj:j=i
   ·subst hj
    rw[hi]at e1;cases e1;rw[Xk hiσ]at e2;cases e2
    exact⟨u,r,.inr ⟨.inl hk,c,hc,hc'⟩⟩
   ·rw[Xp (Ne.symm hj)]at e2
    obtain⟨u',r',q⟩:=hl j y v' e1 e2 e3;refine⟨u',r',?_⟩
    rcases q with q|⟨k,c',e,z'⟩
    ·exact .inl q
    ·refine .inr ⟨k,c',e,z'.sameBut hs ?_⟩
     rintro rfl
     exact hj (B3 hN e1 (I.ok.inj _ _ _ e hc▸hi))
  ·by_cases hcc:c'=c
   ·subst hcc;exact⟨_,hc'⟩
   ·obtain⟨w2,z2⟩:=I.cell y c' e
    exact⟨w2,z2.sameBut hs hcc⟩
  ·obtain⟨e,n,ne,nf,d⟩:=I.pin p hp
   refine⟨(hs.2 p.1 ?_).trans e,n,ne,nf,d⟩;intro q;rw[q,hoc]at e;have q':oc=p.2:=Option.some.inj e;exact d w' (by rw[<- q'];exact hocd)
def B0 {M:Model}{A:Around}{E:Qb}{i:Nat}{x:Str}{v:V}{u:Value}{Q:Unit->Shared->Prop}(I:Qq X XaU σ H s)(hN:X.N.Nodup)(hi:X.N[i]?=some x)(hx:Loc X.env.scope x)(r:QH v u)
 (h:∀s',Qq X XaU (σ.set i (some v)) H s'->Q () s') (hf:X.fn x=true\/X.env.scope.names.lookup x=some .local:=by first|exact .inl rfl|exact .inr rfl|assumption):wpAny M A (storeName X.env x u) Q E s :=
 Sr I hN hi hx r (fun s' I' _=>h s' I') hf
def Qq.call' {s':Shared}{ch:Qg}(I:Qq X XaU σ H s)(ho:s'.os=s.os)(u:Un (frs X.stack) ch H H' s.heap s'.heap)(hok:HOk X.prog X.w H' s'.heap)(hg:AllBare s'.gens)
 (hch:∀b∈ch,(b∈X.ex\/X.s₀.heap.objs.size<=b)/\b≠X.env.locals/\(∀x c,X.env.cells.lookup x=some c->c≠b)/\∀p∈X.pn++XaU,p.1≠b):Qq X XaU σ H' s':=by
 obtain⟨h',g',d',t',o'⟩:=s';have e:o'=s.os:=ho;subst e;exact I.call (g':=g') (t':=t') (d':=d') u hok hg hch
end
abbrev XK:=Value->Qj->Hp->Prop
abbrev St:=List (Option V)
abbrev VK:=V->Hp->Prop
abbrev TE:=St->Hp->VK->Prop
abbrev TT:=St->Hp->(Bool->Hp->Prop)->Prop
abbrev TA:=St->Hp->(List V->Hp->Prop)->Prop
structure Ends where
 nx:St->Hp->Prop
 rt:VK
 bk:St->Hp->Prop:=fun _ _=>False
 ct:St->Hp->Prop:=fun _ _=>False
abbrev TS:=Ends->St->Hp->Prop
def EP (X:Cx)(XaU:Qc)(σ:St)(Q:VK)(u:Value)(s':Shared):Prop := ∃v H',Qq X XaU σ H' s'/\QH v u/\Q v H'
def TP (X:Cx)(XaU:Qc)(σ:St)(Q:Bool->Hp->Prop)(b:Bool)(s':Shared):Prop := ∃H',Qq X XaU σ H' s'/\Q b H'
def AP (X:Cx)(XaU:Qc)(σ:St)(Q:List V->Hp->Prop)(us:Qe)(s':Shared):Prop := ∃vs H',Qq X XaU σ H' s'/\QV vs us/\Q vs H'
def SP (X:Cx)(XaU:Qc)(D:Ends)(f:Flow)(s':Shared):Prop :=
 match f with
 |.next=>∃σ' H',Qq X XaU σ' H' s'/\D.nx σ' H'
 |.brk=>∃σ' H',Qq X XaU σ' H' s'/\D.bk σ' H'
 |.cont=>∃σ' H',Qq X XaU σ' H' s'/\D.ct σ' H'
 |.ret u=>∃v σ' H',Qq X XaU σ' H' s'/\QH v u/\D.rt v H'
def PE (X:Cx)(e:Expr)(t:TE):Prop :=
 ∀(XaU:Qc) (s:Shared) (σ:St) (H:Hp) (Q:VK),Qq X XaU σ H s->t σ H Q->wpAny (model X.prog X.w) X.A (eval e X.env) (EP X XaU σ Q) X.xe s
def PT (X:Cx)(e:Expr)(t:TT):Prop :=
 ∀(XaU:Qc) (s:Shared) (σ:St) (H:Hp) (Q:Bool->Hp->Prop),Qq X XaU σ H s->t σ H Q->wpAny (model X.prog X.w) X.A (isTrue e X.env (eval e X.env)) (TP X XaU σ Q) X.xe s
def PW (X:Cx)(e:Expr)(t:TT):Prop :=
 ∀(whole:Sem Value) (XaU:Qc) (s:Shared) (σ:St) (H:Hp) (Q:Bool->Hp->Prop),Qq X XaU σ H s->t σ H Q->wpAny (model X.prog X.w) X.A (isTrue e X.env whole) (TP X XaU σ Q) X.xe s
def PW.pt {X:Cx}{e:Expr}{t:TT}(h:PW X e t):PT X e t:=h _
def PA (X:Cx)(es:Qi)(t:TA):Prop :=
 ∀(pos:Pos) (XaU:Qc) (s:Shared) (σ:St) (H:Hp) (Q:List V->Hp->Prop),Qq X XaU σ H s->t σ H Q->wpAny (model X.prog X.w) X.A (spliced (backTo pos (starEach es X.env))) (AP X XaU σ Q) X.xe s
def PS (X:Cx)(st:Stmt)(t:TS):Prop :=
 ∀(XaU:Qc) (s:Shared) (σ:St) (H:Hp) (D:Ends),Qq X XaU σ H s->t D σ H->wpAny (model X.prog X.w) X.A (exec st X.env) (SP X XaU D) X.xe s
def PSs (X:Cx)(st:List Stmt)(t:TS):Prop :=
 ∀(XaU:Qc) (s:Shared) (σ:St) (H:Hp) (D:Ends),Qq X XaU σ H s->t D σ H->wpAny (model X.prog X.w) X.A (execs st X.env) (SP X XaU D) X.xe s
def QA {α:Type}{t:Sem α}{Q Q':α->Shared->Prop}{M:Model}{A:Around}{E:Qb}{s:Shared}(h:wpAny M A t Q E s)(hQ:∀a s,Q a s->Q' a s):wpAny M A t Q' E s:=wpAny_mono h hQ fun _ _ x=>x
section
variable {X:Cx}
def QB (i:Nat):TE:=fun σ H Q=>∃v,σ[i]?=some (some v)/\Q v H
def tC (v:V):TE:=fun _ H Q=>Q v H
def NN {i:Nat} {x:Str} {pos:Pos} (hN:X.N[i]?=some x) (hv:Vis X.env.scope x) (hd:(x==("__debug__" : Str))=false:=by decide) (hcd:(x==("__classdict__" : Str))=false:=by decide):PE X (.Name x pos) (QB i):=by
 intro XaU s σ H Q I h;obtain⟨v,e,h⟩:=h;obtain⟨m,hn,hl⟩:=I.loc;obtain⟨u,r,l⟩:=hl i x v hN e hv;have fin:EP X XaU σ Q u s:=⟨v,H,I,r,h⟩
 rcases l with ⟨hk,hm⟩|⟨hk,c,hc,hcell⟩
 ·exact wpAny_Name (wpAny_loadName_local I.ok.kind hk hn hm fin) hd
 ·rcases hk with hk|hk
  ·exact wpAny_Name (wpAny_loadName_cell I.ok.kind hk hc hcell fin) hd
  ·exact wpAny_Name (wpAny_loadName_free I.ok.kind hk hc hcell fin hcd) hd
def Qy {i j pos}:PE X (.Constant (.int i) j pos) (tC (.int i)):=fun _ _ _ H _ I h=>wpAny_Constant_int ⟨.int i,H,I.tok _,⟨_,rfl⟩,h⟩
def YQ {b j pos}:PE X (.Constant (.bool b) j pos) (tC (.bl b)):=fun _ _ _ H _ I h=>Constant_bool ⟨.bl b,H,I,rfl,h⟩
def Gi {j pos}:PE X (.Constant .none j pos) (tC .non):=fun _ _ _ H _ I h=>Constant_none ⟨.non,H,I,rfl,h⟩
def VO {x j pos}:PE X (.Constant (.str x) j pos) (tC (.str x)):=fun _ _ _ H _ I h=>Calls.Constant_str ⟨.str x,H,I.tok _,⟨_,rfl⟩,h⟩
def Gl (X:Cx)(x:Str):Prop:=X.env.kindOf x=some .globalImplicit
def J1 {E:Qb}{XaU:Qc}{s:Shared}{σ:St}{H:Hp}{x:Str}{u:Value}{pos:Pos}{Q:Qb}(I:Qq X XaU σ H s)(hg:Gl X x)(hm:X.mg x=some u)(h:Q u s)
 (hd:(x==("__debug__" : Str))=false:=by decide):wpAny (model X.prog X.w) X.A (eval (.Name x pos) X.env) Q E s :=
 Calls.Name_function_global I.ok.kind hg (Calls.loadGlobal_global (by rw[I.ok.glob];exact I.mod.glob.keeps I.bk) hm h) hd
def WN {E:Qb}{XaU:Qc}{s:Shared}{σ:St}{H:Hp}{x:Str}{u:Value}{pos:Pos}{Q:Qb}(I:Qq X XaU σ H s)(hg:Gl X x)(hm:X.mg x=none)(hv:bootBuiltins x=some u)(h:Q u s)
 (hn:x ≠ "__name__" := by decide) (hd:(x==("__debug__" : Str))=false:=by decide):wpAny (model X.prog X.w) X.A (eval (.Name x pos) X.env) Q E s:=by
 obtain⟨mb,h1,h2⟩:=I.mod.blt;exact Calls.Name_function_global I.ok.kind hg (Calls.loadGlobal_builtin (by rw[I.ok.glob];exact I.mod.glob.keeps I.bk) hm (by rw[I.ok.blt];exact h1.keeps I.bk) ((h2 x hn).trans hv) h) hd
def Vx {x:Str} {v:V} {u:Value} {pos:Pos} (hg:Gl X x) (hm:X.mg x=some u) (r:QH v u) (hd:(x==("__debug__" : Str))=false:=by decide):PE X (.Name x pos) (tC v) :=
 fun _ _ _ H _ I h=>J1 I hg hm ⟨v,H,I,r,h⟩ hd
def Ug {x:Str} {v:V} {u:Value} {pos:Pos} (hg:Gl X x) (hm:X.mg x=none) (hv:bootBuiltins x=some u) (r:QH v u) (hn:x ≠ "__name__" := by decide) (hd:(x==("__debug__" : Str))=false:=by decide):PE X (.Name x pos) (tC v) :=
 fun _ _ _ H _ I h=>WN I hg hm hv ⟨v,H,I,r,h⟩ hn hd
variable {a b:Expr}{ta tb:TE}{pos:Pos}
def PC (X:Cx)(op:CmpOp)(a b:Expr)(t:TE):Prop :=
 ∀(XaU:Qc) (s:Shared) (σ:St) (H:Hp) (Q:VK),Qq X XaU σ H s->t σ H Q ->
  wpAny (model X.prog X.w) X.A (eval a X.env) (fun v b6=>wpAny (model X.prog X.w) X.A (eval b X.env) (fun u b7=>wpAny (model X.prog X.w) X.A (compareOp op v u) (EP X XaU σ Q) X.xe b7) X.xe b6) X.xe s
def C5 (b:Expr){op:CmpOp}(h:op≠.In)(h2:op≠.NotIn):behindInMarks op b=false:=by
 have e1:(op==CmpOp.In)=false:=by cases op<;>first|rfl|exact Xl rfl h
 have e2:(op==CmpOp.NotIn)=false:=by cases op<;>first|rfl|exact Xl rfl h2
 cases b<;>simp[behindInMarks,e1,e2]
def No (ta:TE):TE:=fun σ H Q=>ta σ H fun x H1=>Q (.bl (!decide (x=.non))) H1
def QH.none_iff {x:V}{v:Value}(r:QH x v):(v==Value.none)=decide (x=.non):=by
 cases x with
 |non=>cases r;rfl
 |bl _=>cases r;rfl
 |int _=>obtain⟨t,rfl⟩:=r;rfl
 |str _=>obtain⟨t,rfl⟩:=r;rfl
 |byt _=>obtain⟨t,rfl⟩:=r;rfl
 |flt _=>obtain⟨t,rfl⟩:=r;rfl
 |ref _=>cases r;rfl
 |ty _=>cases r;rfl
def Fz {j pos'}(ha:PE X a ta):PC X .IsNot a (.Constant .none j pos') (No ta):=by
 intro XaU s σ H Q I h;refine QA (ha XaU s σ H _ I h) fun v s1 ⟨x,H1,I1,r1,q1⟩=>?_;exact Constant_none (isnot_none_gen ⟨.bl _,H1,I1,by rw[r1.none_iff];rfl,q1⟩)
def tB (t:TE):TT:=fun σ H Q=>t σ H fun x H1=>∃c,x=.bl c/\Q c H1
def YW {op:CmpOp}{t:TE}(h:PC X op a b t)(h1:behindInMarks op b=false:=by first|exact C5 _ (by decide) (by decide)|rfl):PT X (.Compare a [op] [b] pos) (tB t):=by
 intro XaU s σ H Q I hw;refine wpAny_isTrue_Compare1 (QA (h XaU s σ H _ I hw) fun v s1 h1=>QA h1 fun u s2 h2=>QA h2 fun c s3 ⟨x,H1,I1,r1,q1⟩=>?_) h1;obtain⟨d,rfl,q⟩:=q1
 cases r1
 exact wpAny_truthy_bool ⟨H1,I1,q⟩
def V4 {e:Expr}{t:TE}(h:PE X e t)(he:∀whole,isTrue e X.env whole=(do let v <- whole;standAt e.pos;holding [v] (truthy v)):=by intro _;rfl):PT X e (tB t):=by
 intro XaU s σ H Q I hw;refine isTrue_plain (QA (h XaU s σ H _ I hw) fun v s1 ⟨x,H1,I1,r1,q1⟩=>?_) (he _);obtain⟨d,rfl,q⟩:=q1
 cases r1
 exact wpAny_truthy_bool ⟨H1,I1,q⟩
variable {tA tB':TT}{rest:Qi}
def K3 (t u:TT):TT:=fun σ H Q=>t σ H fun c H1=>if c=true then u σ H1 Q else Q false H1
def tOr (t u:TT):TT:=fun σ H Q=>t σ H fun c H1=>if c=true then Q true H1 else u σ H1 Q
def KM (t:TT):TT:=fun σ H Q=>t σ H fun c H1=>Q (!c) H1
def Uk (ha:PT X a tA):PW X (.BoolOp .And [a] pos) tA:=by
 intro wh XaU s σ H Q I h;refine isTrue_and (QA (ha XaU s σ H Q I h) fun c s1 e=>?_)
 cases c with
 |true=>exact isTrue_and_nil e
 |false=>exact e
def Dp (ha:PT X a tA):PW X (.BoolOp .Or [a] pos) tA:=by
 intro wh XaU s σ H Q I h;refine isTrue_or (QA (ha XaU s σ H Q I h) fun c s1 e=>?_)
 cases c with
 |false=>exact isTrue_or_nil e
 |true=>exact e
def Jw (ha:PT X a tA)(hb:PW X (.BoolOp .And (b::rest) pos) tB'):PW X (.BoolOp .And (a::b::rest) pos) (K3 tA tB'):=by
 intro wh XaU s σ H Q I h;refine isTrue_and (QA (ha XaU s σ H _ I h) fun c s1 ⟨H1,I1,q1⟩=>?_)
 cases c with
 |true=>exact hb wh XaU s1 σ H1 Q I1 q1
 |false=>exact⟨H1,I1,q1⟩
def MD (ha:PT X a tA)(hb:PW X (.BoolOp .Or (b::rest) pos) tB'):PW X (.BoolOp .Or (a::b::rest) pos) (tOr tA tB'):=by
 intro wh XaU s σ H Q I h;refine isTrue_or (QA (ha XaU s σ H _ I h) fun c s1 ⟨H1,I1,q1⟩=>?_)
 cases c with
 |true=>exact⟨H1,I1,q1⟩
 |false=>exact hb wh XaU s1 σ H1 Q I1 q1
def Wy (ha:PT X a tA):PT X (.UnaryOp .Not a pos) (KM tA):=by
 intro XaU s σ H Q I h;exact isTrue_not (ha XaU s σ H (fun c H1=>Q (!c) H1) I h)
def Ni (ta tb:TE):TE:=fun σ H Q=>ta σ H fun x H1=>∃c,x=.bl c/\if c=true then tb σ H1 Q else Q (.bl false) H1
def KS (ta:TE):TE:=fun σ H Q=>ta σ H fun x H1=>∃c,x=.bl c/\Q (.bl (!c)) H1
def Bd {op}{t:TE}(h:PE X a t):PE X (.BoolOp op [a] pos) t:=fun XaU s σ H Q I hw=>BoolOp_one (h XaU s σ H Q I hw)
def Bj (ha:PE X a ta)(hb:PE X (.BoolOp .And (b::rest) pos) tb):PE X (.BoolOp .And (a::b::rest) pos) (Ni ta tb):=by
 intro XaU s σ H Q I h;refine BoolOp_and (QA (ha XaU s σ H _ I h) fun v s1 ⟨x,H1,I1,r1,q1⟩=>?_);obtain⟨c,rfl,q1⟩:=q1
 cases r1
 refine wpAny_truthy_bool ?_
 cases c with
 |true=>exact hb XaU s1 σ H1 Q I1 q1
 |false=>exact⟨.bl false,H1,I1,rfl,q1⟩
def Tz (ha:PE X a ta):PE X (.UnaryOp .Not a pos) (KS ta):=by
 intro XaU s σ H Q I h;refine UnaryOp_ (QA (ha XaU s σ H _ I h) fun v s1 ⟨x,H1,I1,r1,q1⟩=>?_);obtain⟨c,rfl,q1⟩:=q1
 cases r1
 exact not_of (wpAny_truthy_bool ⟨.bl (!c),H1,I1,rfl,q1⟩)
end
def SqL (K:W.Frag)(H:Hp)(a:Addr)(xs:List V):Prop :=
 Rd H a (.lst xs) \/
  ∃(o:Obj) (its:Array Value) (n:Nat),K.lookup a=some o/\o.cls=.type "list" /\ o.dict=none/\o.data=.seq its n/\its.size<=sizeLine/\QV xs its.toList
def SqT (K:W.Frag)(H:Hp)(a:Addr)(xs:List V):Prop :=
 Rd H a (.tup xs) \/
  ∃(o:Obj) (its:Array Value) (n:Nat),K.lookup a=some o/\o.cls=.type "tuple" /\ o.data=.seq its n/\its.size<=sizeLine/\QV xs its.toList
def PN:Value->Option V
 |.none=>some .non
 |.bool b=>some (.bl b)
 |.int i _=>some (.int i)
 |.str x _=>some (.str x)
 |.bytes b _=>some (.byt b)
 |.float b _=>some (.flt b)
 |.ref a=>some (.ref a)
 |.type n=>some (.ty n)
 |_=>none
def QH.abs {x:V}{u:Value}(r:QH x u):PN u=some x:=by
 cases x with
 |non=>cases r;rfl
 |bl _=>cases r;rfl
 |int _=>obtain⟨t,rfl⟩:=r;rfl
 |str _=>obtain⟨t,rfl⟩:=r;rfl
 |byt _=>obtain⟨t,rfl⟩:=r;rfl
 |flt _=>obtain⟨t,rfl⟩:=r;rfl
 |ref _=>cases r;rfl
 |ty _=>cases r;rfl
def QH.inj {x y:V}{u:Value}(r:QH x u)(q:QH y u):x=y:=Option.some.inj (r.abs.symm.trans q.abs)
theorem QV.inj:∀{xs ys:List V} {us:Qe},QV xs us->QV ys us->xs=ys
 |_,_,_,.nil,.nil=>rfl
 |_,_,_,.cons r t,.cons r' t'=>by rw[r.inj r',QV.inj t t']
section
variable {X:Cx}{XaU:Qc}{σ:St}{H:Hp}{s:Shared}{a:Addr}{xs ys:List V}
def SqL.of {K:W.Frag}(h:H a=some (.lst xs)):SqL K H a xs:=.inl (.inl h)
def SqT.of {K:W.Frag}(h:H a=some (.tup xs)):SqT K H a xs:=.inl (.inl h)
def Qq.list (I:Qq X XaU σ H s)(h:SqL X.K H a xs):∃its:Qe,QV xs its/\PlainL s.heap a its.toArray/\xs.length<=sizeLine:=by
 rcases h with h|⟨o,its,n,hk,hc,hd,hs,hz,r⟩
 ·obtain⟨z,its,n,r,e⟩:=h.ok I.hok
  exact⟨its,r,⟨_,n,e,rfl,rfl,rfl⟩,z⟩
 ·refine⟨its.toList,r,⟨o,n,I.kIn a o hk,hc,hd,by simpa using hs⟩,?_⟩
  have e:=r.length;simp only[Array.length_toList]at e;omega
def Qq.tuple (I:Qq X XaU σ H s)(h:SqT X.K H a xs):∃its:Qe,QV xs its/\IsTup s.heap a its.toArray/\xs.length<=sizeLine:=by
 rcases h with h|⟨o,its,n,hk,hc,hs,hz,r⟩
 ·obtain⟨z,its,r,p⟩:=h.ok I.hok
  exact⟨its,r,p,z⟩
 ·refine⟨its.toList,r,⟨o,I.kIn a o hk,hc,n,by simpa using hs⟩,?_⟩
  have e:=r.length;simp only[Array.length_toList]at e;omega
def Qq.list_inj (I:Qq X XaU σ H s)(h:SqL X.K H a xs)(h':SqL X.K H a ys):xs=ys:=by
 obtain⟨its,r,⟨o,n,e,_,_,d⟩,_⟩:=I.list h;obtain⟨its',r',⟨o',n',e',_,_,d'⟩,_⟩:=I.list h';rw[e]at e';cases e';rw[d]at d';injection d' with d1 _
 have:its=its':=by simpa using X0 Array.toList d1
 subst this;exact r.inj r'
def Qq.tuple_inj (I:Qq X XaU σ H s)(h:SqT X.K H a xs)(h':SqT X.K H a ys):xs=ys:=by
 obtain⟨its,r,⟨o,e,_,n,d⟩,_⟩:=I.tuple h;obtain⟨its',r',⟨o',e',_,n',d'⟩,_⟩:=I.tuple h';rw[e]at e';cases e';rw[d]at d';injection d' with d1 _
 have:its=its':=by simpa using X0 Array.toList d1
 subst this;exact r.inj r'
end
abbrev Cx.wish (X:Cx)(E:Qb):Cx:={ X with xe:=E }
abbrev Cx.nox (X:Cx):Cx:=X.wish fun _ _=>False
def Cx.Ok.wish {X:Cx}(ok:X.Ok)(E:Qb):(X.wish E).Ok :=
 ⟨ok.mod,ok.kind,ok.glob,ok.blt,ok.above,ok.inj,ok.has,ok.cab,ok.hd,ok.frames,ok.stk,ok.exf,ok.bs,ok.bsz,ok.noex,ok.exfs,ok.funs,ok.frf⟩
def Cx.Ok.unwish {X:Cx}{E:Qb}(ok:(X.wish E).Ok):X.Ok :=
 ⟨ok.mod,ok.kind,ok.glob,ok.blt,ok.above,ok.inj,ok.has,ok.cab,ok.hd,ok.frames,ok.stk,ok.exf,ok.bs,ok.bsz,ok.noex,ok.exfs,ok.funs,ok.frf⟩
section
variable {X:Cx}{XaU:Qc}{σ:St}{H:Hp}{s:Shared}{E:Qb}
def Qq.wish (I:Qq X XaU σ H s)(E:Qb):Qq (X.wish E) XaU σ H s:=⟨I.ok.wish E,I.os,I.bare,I.base,I.loc,I.cell,I.free,I.freeC,I.pin,I.hok,I.len⟩
def Qq.unwish (I:Qq (X.wish E) XaU σ H s):Qq X XaU σ H s:=⟨I.ok.unwish,I.os,I.bare,I.base,I.loc,I.cell,I.free,I.freeC,I.pin,I.hok,I.len⟩
def SP.unwish {D:Ends}{f:Flow}{s':Shared}(h:SP (X.wish E) XaU D f s'):SP X XaU D f s':=by
 cases f with
 |next=>obtain⟨σ',H',I,q⟩:=h;exact⟨σ',H',I.unwish,q⟩
 |brk=>obtain⟨σ',H',I,q⟩:=h;exact⟨σ',H',I.unwish,q⟩
 |cont=>obtain⟨σ',H',I,q⟩:=h;exact⟨σ',H',I.unwish,q⟩
 |ret u=>obtain⟨v,σ',H',I,r,q⟩:=h;exact⟨v,σ',H',I.unwish,r,q⟩
def PSs.nox {st:List Stmt}{t:TS}(h:PSs X.nox st t):PSs X st t:=fun XaU s σ H D I hw =>
 wpAny_mono (h XaU s σ H D (I.wish _) hw) (fun _ _ q=>q.unwish) fun _ _ z=>False.elim z
end
section
variable {X:Cx}{st:Stmt}{rest:List Stmt}{t u:TS}{e:Expr}{te:TE}{pos:Pos}
def Na:TS:=fun D σ H=>D.nx σ H
def VV (t u:TS):TS:=fun D σ H=>t { D with nx:=u D } σ H
def Z0:PSs X [] Na:=fun _ _ σ H _ I h=>wpAny_execs_nil ⟨σ,H,I,h⟩
def Q5 (h1:PS X st t)(h2:PSs X rest u):PSs X (st::rest) (VV t u):=by
 intro XaU s σ H D I h;refine wpAny_execs_cons (QA (h1 XaU s σ H { D with nx:=u D } I h) fun f s1 q=>?_)
 cases f with
 |next =>
   obtain⟨σ',H',I',q⟩:=q;exact h2 XaU s1 σ' H' D I' q
 |ret v=>exact q
 |brk=>exact q
 |cont=>exact q
def Q4 (h1:PS X st t):PSs X [st] t:=by
 intro XaU s σ H D I h;refine wpAny_execs_cons (QA (h1 XaU s σ H D I h) fun f s1 q=>?_)
 cases f with
 |next=>exact wpAny_execs_nil q
 |ret v=>exact q
 |brk=>exact q
 |cont=>exact q
def Qq.quiet {XaU:Qc}{σ:St}{H:Hp}{s:Shared}(I:Qq X XaU σ H s):interactive X.env=false:=by simp[interactive,I.ok.kind]
def Vh (te:TE):TS:=fun D σ H=>te σ H fun _ H1=>D.nx σ H1
def Zo (he:PE X e te)(hs:swapsWith e none pos.line X.env=pure false:=by rfl):PS X (.Expr e pos) (Vh te):=by
 intro XaU s σ H D I h;exact wpAny_Expr_any (QA (he XaU s σ H _ I h) fun v s1 ⟨x,H1,I1,r1,q1⟩=>⟨σ,H1,I1,q1⟩) I.quiet hs
def Yk (te:TE):TS:=fun D σ H=>te σ H D.rt
def QU (he:PE X e te):PS X (.Return (some e) pos) (Yk te):=by
 intro XaU s σ H D I h;exact wpAny_Return_some (QA (he XaU s σ H _ I h) fun v s1 ⟨x,H1,I1,r1,q1⟩=>⟨x,σ,H1,I1,r1,q1⟩)
def UM (c:TT)(t u:TS):TS:=fun D σ H=>c σ H fun b H1=>if b=true then t D σ H1 else u D σ H1
def Zw {c:Expr}{a b:List Stmt}{tc:TT}(hc:PT X c tc)(ha:PSs X a t)(hb:PSs X b u):PS X (.If c a b pos) (UM tc t u):=by
 intro XaU s σ H D I h;refine wpAny_If (QA (hc XaU s σ H _ I h) fun d s1 ⟨H1,I1,q1⟩=>?_)
 cases d with
 |true=>exact ha XaU s1 σ H1 D I1 q1
 |false=>exact hb XaU s1 σ H1 D I1 q1
def Ta:TS:=fun _ _ _=>False
def DV:PS X st Ta:=fun _ _ _ _ _ _ h=>h.elim
end
abbrev TG:=V->St->Hp->(St->Hp->Prop)->Prop
abbrev TGs:=List V->St->Hp->(St->Hp->Prop)->Prop
def PG (X:Cx)(target:Expr)(t:TG):Prop :=
 ∀(XaU:Qc) (s:Shared) (σ:St) (H:Hp) (v:V) (u:Value) (Q:St->Hp->Prop),Qq X XaU σ H s->QH v u->t v σ H Q ->
  wpAny (model X.prog X.w) X.A (assign target X.env u) (fun _ s'=>∃σ' H',Qq X XaU σ' H' s'/\Q σ' H') X.xe s
def PGs (X:Cx)(ts:Qi)(t:TGs):Prop :=
 ∀(XaU:Qc) (s:Shared) (σ:St) (H:Hp) (vs:List V) (us:Qe) (Q:St->Hp->Prop),Qq X XaU σ H s->QV vs us->t vs σ H Q ->
  wpAny (model X.prog X.w) X.A (assignInOrder ((assignEach ts X.env).map (·.2)) us) (fun _ s'=>∃σ' H',Qq X XaU σ' H' s'/\Q σ' H') X.xe s
abbrev UN:=V->V->V->Hp->(Hp->Prop)->Prop
def Mu (X:Cx)(t:UN):Prop :=
 ∀(XaU:Qc) (s:Shared) (σ:St) (H:Hp) (o i v:V) (ov iv u:Value) (Q:Hp->Prop),Qq X XaU σ H s->QH o ov->QH i iv->QH v u->t o i v H Q ->
  wpAny (model X.prog X.w) X.A (setItem ov iv u) (fun _ s'=>∃H',Qq X XaU σ H' s'/\Q H') X.xe s
abbrev TIp:=V->V->Hp->VK->Prop
def PIp (X:Cx)(op:Operator)(t:TIp):Prop :=
 ∀(XaU:Qc) (s:Shared) (σ:St) (H:Hp) (x y:V) (v u:Value) (Q:VK),Qq X XaU σ H s->QH x v->QH y u->t x y H Q ->
  wpAny (model X.prog X.w) X.A (inplaceOp op v u) (EP X XaU σ Q) X.xe s
section
variable {X:Cx}{pos:Pos}
def ZC (i:Nat):TG:=fun v σ H Q=>Q (σ.set i (some v)) H
def Zr {i:Nat}{x:Str}(hN:X.N.Nodup)(hi:X.N[i]?=some x)(hx:Loc X.env.scope x)(hf:X.fn x=true\/X.env.scope.names.lookup x=some .local:=by first|exact .inl rfl|exact .inr rfl|assumption):PG X (.Name x pos) (ZC i):=by
 intro XaU s σ H v u Q I r h;exact wpAny_assign_Name (B0 I hN hi hx r (fun s' I'=>⟨_,H,I',h⟩) hf)
def Ms:TGs:=fun vs σ H Q=>vs=[]/\Q σ H
def M4 (t:TG)(u:TGs):TGs:=fun vs σ H Q=>∃v r,vs=v::r/\t v σ H fun σ' H'=>u r σ' H' Q
def Gy:PGs X [] Ms:=by
 intro XaU s σ H vs us Q I r h;obtain⟨e,h⟩:=h;subst e;cases r;exact assignInOrder_nil ⟨σ,H,I,h⟩
def Wd {e:Expr}{es:Qi}{t:TG}{u:TGs}(h1:PG X e t)(h2:PGs X es u)
 (hs:(assignEach (e::es) X.env).map (·.2)=assign e X.env::(assignEach es X.env).map (·.2):=by rfl):PGs X (e::es) (M4 t u):=by
 intro XaU s σ H vs us Q I r h;obtain⟨v,vr,e1,h⟩:=h;subst e1;cases r with
 |cons r rr =>
   rw[hs];refine assignInOrder_cons (QA (h1 XaU s σ H _ _ _ I r h) fun _ s1 ⟨σ1,H1,I1,q1⟩=>?_);exact h2 XaU s1 σ1 H1 _ _ Q I1 rr q1
def Mm (K:W.Frag)(n:Nat)(t:TGs):TG:=fun v σ H Q=>∃a xs,v=.ref a/\SqT K H a xs/\xs.length=n/\t xs σ H Q
def Gb {es:Qi}{k:Nat}{t:TGs}{n:Nat}(hc:X.calm=true)(h:PGs X es t)
 (hn:(assignEach es X.env).length=n:=by rfl) (hst:(assignEach es X.env).findIdx? (·.1)=none:=by rfl):PG X (.Tuple es k pos) (Mm X.K n t):=by
 intro XaU s σ H v u Q I r hw;obtain⟨a,xs,e1,hq,hl,hw⟩:=hw;subst e1;cases r;obtain⟨its,rv,ht,hz⟩:=I.tuple hq;refine assign_Tuple_tuple (I.ok.hd hc) ht (by simp[hn,<- hl,rv.length]) hst fun h' hx=>?_;have I1:Qq X XaU σ H { s with heap:=h' }:=I.kept (t':=s.toks) fun b o e=>hx b o (Xr (Xj e)) e;exact h XaU _ σ H xs _ Q I1 (by simpa using rv) hw
def K0 (to ti:TE)(t:UN):TG:=fun v σ H Q=>to σ H fun o H1=>ti σ H1 fun i H2=>t o i v H2 fun H3=>Q σ H3
def Dm {o i:Expr}{to ti:TE}{t:UN}(ho:PE X o to)(hi:PE X i ti)(hs:Mu X t)
 (ha:∀v,assign (.Subscript o i pos) X.env v=(do
  let ov <- holding [v] (eval o X.env)
  let iv <- holding [v,ov] (eval i X.env)
  standAt pos
  holding [v,ov,iv] (setItem ov iv v)
  release [v,ov,iv] []):=by intro _;rfl):PG X (.Subscript o i pos) (K0 to ti t):=by
 intro XaU s σ H v u Q I r h;rw[ha];refine Xc (wpAny_holding (QA (ho XaU s σ H _ I h) fun ov s1 ⟨x,H1,I1,r1,q1⟩=>?_));refine Xc (wpAny_holding (QA (hi XaU s1 σ H1 _ I1 q1) fun iv s2 ⟨y,H2,I2,r2,q2⟩=>?_));refine Xc (wpAny_standAt (Xc (wpAny_holding (QA (hs XaU s2 σ H2 x y v ov iv u _ I2 r1 r2 r q2) fun _ s3 ⟨H3,I3,q3⟩=>?_))));exact wpAny_release ⟨σ,H3,I3,q3⟩
def ZJ (te:TE)(g:TG):TS:=fun D σ H=>te σ H fun x H1=>g x σ H1 D.nx
def Di {tg e:Expr}{te:TE}{g:TG}(he:PE X e te)(hg:PG X tg g)(hs:swapsWithSole [tg] e pos.line X.env=pure false:=by rfl)(hw:swappedStores [tg] e X.env=pure none:=by rfl)
 (h1:(assignEach [tg] X.env).map (·.2)=[assign tg X.env]:=by rfl):PS X (.Assign [tg] e pos) (ZJ te g):=by
 intro XaU s σ H D I h;refine wpAny_Assign_stores (QA (he XaU s σ H _ I h) fun v s1 ⟨x,H1,I1,r1,q1⟩=>?_) hs hw;rw[h1];exact QA (hg XaU s1 σ H1 x v _ I1 r1 q1) fun _ s2 q=>q
def QW {i:Nat}{x:Str}{e:Expr}{te:TE}{pos':Pos}(hN:X.N.Nodup)(hi:X.N[i]?=some x)(hx:Loc X.env.scope x)(he:PE X e te)(hs:swapsWith e (some (.Name x pos')) pos.line X.env=pure false:=by rfl)(hf:X.fn x=true\/X.env.scope.names.lookup x=some .local:=by first|exact .inl rfl|exact .inr rfl|assumption) :
 PS X (.Assign [.Name x pos'] e pos) (ZJ te (ZC i)):=by
 intro XaU s σ H D I h;refine wpAny_Assign_Name (QA (he XaU s σ H _ I h) fun v s1 ⟨y,H1,I1,r1,q1⟩=>?_) hs;exact B0 I1 hN hi hx r1 (fun s2 I2=>⟨_,H1,I2,q1⟩) hf
def GV (to ti te:TE)(tget:V->V->Hp->VK->Prop)(tip:TIp)(tset:UN):TS:=fun D σ H=>to σ H fun o H1=>ti σ H1 fun i H2=>tget o i H2 fun x H3=>te σ H3 fun y H4=>tip x y H4 fun z H5=>tset o i z H5 fun H6=>D.nx σ H6
def K1 (X:Cx)(t:V->V->Hp->VK->Prop):Prop :=
 ∀(XaU:Qc) (s:Shared) (σ:St) (H:Hp) (o i:V) (ov iv:Value) (Q:VK),Qq X XaU σ H s->QH o ov->QH i iv->t o i H Q ->
  wpAny (model X.prog X.w) X.A (getItem ov iv) (EP X XaU σ Q) X.xe s
def Gp {o i e:Expr}{to ti te:TE}{tget:V->V->Hp->VK->Prop}{tip:TIp}{tset:UN}{op:Operator}{tpos:Pos}(ho:PE X o to)(hi:PE X i ti)(hg:K1 X tget)(he:PE X e te)(hp:PIp X op tip)(hs:Mu X tset)
 (ha:∀ov iv new,augStore i ov iv new=(do holding [new,ov,iv] (setItem ov iv new);release [new,ov,iv] [];pure .next):=by intros;rfl):PS X (.AugAssign (.Subscript o i tpos) op e pos) (GV to ti te tget tip tset):=by
 intro XaU s σ H D I h;refine wpAny_AugAssign_SubscriptAny (QA (ho XaU s σ H _ I h) fun ov s1 ⟨x1,H1,I1,r1,q1⟩=>?_) ha;refine QA (hi XaU s1 σ H1 _ I1 q1) fun iv s2 ⟨x2,H2,I2,r2,q2⟩=>?_;refine QA (hg XaU s2 σ H2 x1 x2 ov iv _ I2 r1 r2 q2) fun old s3 ⟨x3,H3,I3,r3,q3⟩=>?_;refine QA (he XaU s3 σ H3 _ I3 q3) fun v s4 ⟨x4,H4,I4,r4,q4⟩=>?_;refine QA (hp XaU s4 σ H4 x3 x4 old v _ I4 r3 r4 q4) fun new s5 ⟨x5,H5,I5,r5,q5⟩=>?_;exact QA (hs XaU s5 σ H5 x1 x2 x5 ov iv new _ I5 r1 r2 r5 q5) fun _ s6 ⟨H6,I6,q6⟩=>⟨σ,H6,I6,q6⟩
def ipI (f:Int->Int->Int):TIp:=fun x y H Q=>∃i j,x=.int i/\y=.int j/\Q (.int (f i j)) H
def Bn:PIp X .Add (ipI fun i j=>i+j):=by
 intro XaU s σ H x y v u Q I r1 r2 h;obtain⟨i,j,e1,e2,q⟩:=h;subst e1;subst e2;obtain⟨t,rfl⟩:=r1;obtain⟨t',rfl⟩:=r2;exact iadd_int ⟨.int _,H,I.tok _,⟨_,rfl⟩,q⟩
def TJ:PIp X .Sub (ipI fun i j=>i-j):=by
 intro XaU s σ H x y v u Q I r1 r2 h;obtain⟨i,j,e1,e2,q⟩:=h;subst e1;subst e2;obtain⟨t,rfl⟩:=r1;obtain⟨t',rfl⟩:=r2;exact isub_int ⟨.int _,H,I.tok _,⟨_,rfl⟩,q⟩
end
section
variable {X:Cx}{pos:Pos}
def NU (c:TT)(tb:TS):TS:=fun D σ H=>∃W:Nat->St->Hp->Prop,(∃m,W m σ H)/\∀m σ H,W m σ H ->
 c σ H fun b H1=>if b=true then ∃N:St->Hp->Prop,(∀σ' H',N σ' H'->∃m',m'<m/\W m' σ' H')/\tb { D with nx:=N,ct:=N,bk:=D.nx } σ H1 else D.nx σ H1
def Ha {c:Expr}{body:List Stmt}{tc:TT}{tb:TS}(hp:PassesOwn (model X.prog X.w) X.A X.env X.xe)(hc:PT X c tc)(hb:PSs X body tb):PS X (.While c body [] pos) (NU tc tb):=by
 intro XaU s σ H D I h;obtain⟨W,⟨m0,w0⟩,turn⟩:=h;refine wpAny_While (codeAny_whileLoop (fun n s'=>∃σ' H',Qq X XaU σ' H' s'/\W n σ' H') ?_ m0 ⟨σ,H,I,w0⟩)
 rintro n s1 ⟨σ1,H1,I1,w1⟩
 refine wpAny_passesOwn hp (QA (hc XaU s1 σ1 H1 _ I1 (turn n σ1 H1 w1)) fun b s2 ⟨H2,I2,q2⟩=>?_)
 cases b with
 |true =>
   obtain⟨N,hN,q2⟩:=q2;rw[Xd rfl];refine wpAny_passesOwn hp (QA (hb XaU s2 σ1 H2 _ I2 q2) fun f s3 q3=>?_)
   cases f with
   |next =>
     obtain⟨σ3,H3,I3,n3⟩:=q3;obtain⟨m',hm,w3⟩:=hN σ3 H3 n3
     exact⟨m',hm,σ3,H3,I3,w3⟩
   |cont =>
     obtain⟨σ3,H3,I3,n3⟩:=q3;obtain⟨m',hm,w3⟩:=hN σ3 H3 n3
     exact⟨m',hm,σ3,H3,I3,w3⟩
   |brk=>exact q3
   |ret v=>exact q3
 |false =>
   rw[Xb Xv];exact wpAny_execs_nil ⟨σ1,H2,I2,q2⟩
end
structure It where
 go:Nat->Hp->Prop
 yld:Nat->Hp->V->Hp->Prop
 stop:Nat->Hp->Prop
def Yf (X:Cx)(XaU:Qc)(H:Hp)(b:Addr):Prop :=
 H b=none/\b≠X.env.locals/\b∉X.fs/\(b∈X.ex\/X.s₀.heap.objs.size<=b)/\(∀x c,X.env.cells.lookup x=some c->c≠b)/\∀p∈X.pn++XaU,p.1≠b
def Qq.fpOk {X:Cx}{XaU:Qc}{σ:St}{H H':Hp}{s:Shared}{b:Addr}(I:Qq X XaU σ H s)(hb:s.heap.objs.size<=b)(hn:H' b=none):Yf X XaU H' b:=by
 refine⟨hn,VU (Xn I.lt hb),I.nofs hb,.inr (X8 I.sz hb),fun x c e z=>?_,fun p hp z=>?_⟩
 ·obtain⟨v,q⟩:=I.cell x c e
  exact Xl (Xn q.lt (by rw[z];exact hb)) (Yc _)
 ·exact Xl (Xn (Xj (I.pin p hp).1) (by rw[z];exact hb)) (Yc _)
structure Turn (P:Program)(w:World)(K:W.Frag)(tg:Expr)(J:It)(fp:Qg)(it:Addr)(tn:Nat->Heap->Prop):Prop where
 mem:it∈fp
 obj:∀i h,tn i h->∀b∈fp,∃o,h.get? b=some o/\∀v,o.data≠.cell v
 keep:∀i h h',tn i h->(∀b∈fp,∀o,h.get? b=some o->h'.get? b=some o)->tn i h'
 item:∀(X:Cx),X.prog=P->X.w=w->X.K=K->X.calm=true->∀(i:Nat) (XaU:Qc) (s:Shared) (σ:St) (H:Hp) (E:Qb),Qq X XaU σ H s->(∀b∈fp,Yf X XaU H b)->tn i s.heap->J.go i H ->
  wpAny (model P w) X.A (pyNext (.ref it)) (fun r s1=>∃u,r=some u /\
   wpAny (model P w) X.A (letOwnedTupleGo tg (.ref it) u) (fun _ s2=>∃x H',Qq X XaU σ H' s2/\QH x u/\J.yld i H x H'/\tn (i+1) s2.heap/\∀b∈fp,H' b=none) E s1) E s
 done:∀(X:Cx),X.prog=P->X.w=w->X.K=K->X.calm=true->∀(i:Nat) (XaU:Qc) (s:Shared) (σ:St) (H:Hp) (E:Qb),Qq X XaU σ H s->(∀b∈fp,Yf X XaU H b)->tn i s.heap->J.stop i H ->
  wpAny (model P w) X.A (pyNext (.ref it)) (fun r s1=>r=none/\Qq X XaU σ H s1) E s
 self:∀(A:Around) (i:Nat) (s:Shared) (Q:Qb) (E:Qb),tn i s.heap->Q (.ref it) s->wpAny (model P w) A (pyIter (.ref it)) Q E s
abbrev TI:=St->Hp->(It->Hp->Prop)->Prop
def PIE (X:Cx)(XaU:Qc)(σ:St)(tg:Expr)(R:It->Hp->Prop)(itv:Value)(s2:Shared):Prop :=
 ∃(it:Addr) (fp:Qg) (tn:Nat->Heap->Prop) (J:It) (H':Hp),itv=.ref it/\Qq X XaU σ H' s2/\Turn X.prog X.w X.K tg J fp it tn/\tn 0 s2.heap/\(∀b∈fp,Yf X XaU H' b)/\R J H'
def PI (X:Cx)(tg iter:Expr)(wi:TI):Prop :=
 ∀(XaU:Qc) (s:Shared) (σ:St) (H:Hp) (R:It->Hp->Prop),Qq X XaU σ H s->wi σ H R ->
  wpAny (model X.prog X.w) X.A (eval iter X.env) (fun v s1=>wpAny (model X.prog X.w) X.A (pyIter v) (PIE X XaU σ tg R) X.xe s1) X.xe s
def UV {M:Model}{A:Around}{E:Qb}{s:Shared}{tg:Expr}{it:Addr}{u:Value}{o:Obj}{n:String}{vs:Array Value}{Q:Unit->Shared->Prop}(ho:s.heap.get? it=some o)(hc:o.cls=.type n)(hd:o.data=.fields vs)
 (hn:["enumerate","zip","dict_itemiterator","dict_reverseitemiterator","odict_iterator","itertools.zip_longest","itertools.pairwise"].contains n=false) (hQ:Q () s):wpAny M A (letOwnedTupleGo tg (.ref it) u) Q E s:=by
 unfold letOwnedTupleGo;cases tg<;>first
  |exact Xq hQ
  | (cases u<;>first
   |exact Xq hQ
   | (refine Xc (wpAny_load ho ?_)
      rw[hc,hd];show wpAny M A (if (["enumerate","zip","dict_itemiterator","dict_reverseitemiterator","odict_iterator","itertools.zip_longest","itertools.pairwise"].contains n&&vs[0]?==some (rawInt _))=true then _ else _) Q E s;rw[Xb (by intro h;rw[hn,Bool.false_and]at h;cases h)];exact Xq hQ))
def Itl (K:W.Frag)(a:Addr):It :=
 ⟨fun i H=>∃xs x,SqL K H a xs/\xs[i]?=some x,fun i H x H'=>H'=H/\∀xs,SqL K H a xs->xs[i]?=some x,fun i H=>∃xs,SqL K H a xs/\xs.length<=i⟩
def Itt (K:W.Frag)(a:Addr):It :=
 ⟨fun i H=>∃xs x,SqT K H a xs/\xs[i]?=some x,fun i H x H'=>H'=H/\∀xs,SqT K H a xs->xs[i]?=some x,fun i H=>∃xs,SqT K H a xs/\xs.length<=i⟩
def Itr (lo:Int)(n:Nat):It:=⟨fun i _=>i<n,fun i H x H'=>H'=H/\x=.int (lo+i),fun i _=>n<=i⟩
theorem AU {P:Program}{w:World}{K:W.Frag}{tg:Expr}(a it:Addr):Turn P w K tg (Itl K a) [it] it (fun i h=>h.IsListIter it a i) where
 mem:=by simp
 obj:=fun i h st b hb=>by
  have e:b=it:=by simpa using hb
  subst e;obtain⟨o,e,c,d⟩:=st
  exact⟨o,e,fun v z=>by rw[d]at z;cases z⟩
 keep:=fun i h h' st k=>st.at fun o e=>k it (by simp) o e
 item:=by
  intro X hP hw hK hc i XaU s σ H E I hf st hg;subst hP hw hK;obtain⟨xs,x,hq,hx⟩:=hg;obtain⟨its,rv,p,hz⟩:=I.list hq;obtain⟨u,hu,ru⟩:=rv.get hx;obtain⟨f0,f1,f2,f3,f4,f5⟩:=hf it (by simp);refine wpAny_pyNext_list_item st p.isList (x:=u) (by simpa using hu) fun h' st' sb=>?_;have I1:Qq X XaU σ H { s with heap:=h' }:=I.turned (t':=s.toks) (fun b o hb e=>(sb.2 b hb).trans e) f0 f1 f3 f4 f5;obtain⟨o,e,c,d⟩:=id st'
  exact⟨u,rfl,UV (s:={ s with heap:=h' }) e c d (by decide) ⟨x,H,I1,ru,⟨rfl,fun ys hy=>by rw[I.list_inj hy hq];exact hx⟩,st',fun b hb=>(hf b hb).1⟩⟩
 done:=by
  intro X hP hw hK hc i XaU s σ H E I hf st hg;subst hP hw hK;obtain⟨xs,hq,hx⟩:=hg;obtain⟨its,rv,p,hz⟩:=I.list hq;obtain⟨f0,f1,f2,f3,f4,f5⟩:=hf it (by simp);have hl:=rv.length;exact wpAny_pyNext_list_end (I.ok.hd hc) st p.isList (by simp;omega) fun h' eb=>⟨rfl,I.turned (t':=s.toks) (fun b o hb e=>eb b o hb e) f0 f1 f3 f4 f5⟩
 self:=fun _ _ _ _ _ st h=>wpAny_pyIter_listiter st h
theorem EO {P:Program}{w:World}{K:W.Frag}{tg:Expr}(a it:Addr):Turn P w K tg (Itt K a) [it] it (fun i h=>h.IsTupleIter it a i) where
 mem:=by simp
 obj:=fun i h st b hb=>by
  have e:b=it:=by simpa using hb
  subst e;obtain⟨o,e,c,d⟩:=st
  exact⟨o,e,fun v z=>by rw[d]at z;cases z⟩
 keep:=fun i h h' st k=>st.at fun o e=>k it (by simp) o e
 item:=by
  intro X hP hw hK hc i XaU s σ H E I hf st hg;subst hP hw hK;obtain⟨xs,x,hq,hx⟩:=hg;obtain⟨its,rv,p,hz⟩:=I.tuple hq;obtain⟨u,hu,ru⟩:=rv.get hx;obtain⟨f0,f1,f2,f3,f4,f5⟩:=hf it (by simp);refine wpAny_pyNext_tuple_item st (show s.heap.IsTuple a its.toArray from p) (x:=u) (by simpa using hu) fun h' st' sb=>?_;have I1:Qq X XaU σ H { s with heap:=h' }:=I.turned (t':=s.toks) (fun b o hb e=>(sb.2 b hb).trans e) f0 f1 f3 f4 f5;obtain⟨o,e,c,d⟩:=id st'
  exact⟨u,rfl,UV (s:={ s with heap:=h' }) e c d (by decide) ⟨x,H,I1,ru,⟨rfl,fun ys hy=>by rw[I.tuple_inj hy hq];exact hx⟩,st',fun b hb=>(hf b hb).1⟩⟩
 done:=by
  intro X hP hw hK hc i XaU s σ H E I hf st hg;subst hP hw hK;obtain⟨xs,hq,hx⟩:=hg;obtain⟨its,rv,p,hz⟩:=I.tuple hq;obtain⟨f0,f1,f2,f3,f4,f5⟩:=hf it (by simp);have hl:=rv.length;exact wpAny_pyNext_tuple_end (I.ok.hd hc) st (show s.heap.IsTuple a its.toArray from p) (by simp;omega) fun h' eb=>⟨rfl,I.turned (t':=s.toks) (fun b o hb e=>eb b o hb e) f0 f1 f3 f4 f5⟩
 self:=fun _ _ _ _ _ st h=>wpAny_pyIter_tupleiter st h
theorem Ex {P:Program}{w:World}{K:W.Frag}{tg:Expr}(it:Addr)(lo:Int)(n:Nat):Turn P w K tg (Itr lo n) [it] it (fun i h=>IsRangeIter h it (lo+(i:Nat)*1) ((n:Int)-(i:Nat)) 1) where
 mem:=by simp
 obj:=fun i h st b hb=>by
  have e:b=it:=by simpa using hb
  subst e;exact⟨_,st,fun v z=>by
   have z':Data.fields _=Data.cell v:=z
   cases z'⟩
 keep:=fun i h h' st k=>k it (by simp) _ st
 item:=by
  intro X hP hw hK hc i XaU s σ H E I hf st hg;subst hP hw hK;obtain⟨f0,f1,f2,f3,f4,f5⟩:=hf it (by simp);have W:=Walks.range (prog:=X.prog) (w:=X.w) (I.ok.hd hc) it lo 1 n;refine W.item i s _ _ hg st fun v h' tk hv st' kk=>?_;obtain⟨t,rfl⟩:=hv;have I1:Qq X XaU σ H { s with heap:=h',toks:=tk }:=I.turned (fun b o hb e=>kk b o (by simpa using hb) e) f0 f1 f3 f4 f5;refine⟨_,rfl,UV (s:={ s with heap:=h',toks:=tk }) (n := "range_iterator") st' rfl rfl (by decide) ⟨.int (lo+i),H,I1,⟨t,?_⟩,⟨rfl,rfl⟩,st',fun b hb=>(hf b hb).1⟩⟩;rw[Int.mul_one]
 done:=by
  intro X hP hw hK hc i XaU s σ H E I hf st hg;subst hP hw hK;obtain⟨f0,f1,f2,f3,f4,f5⟩:=hf it (by simp);exact wpAny_pyNext_range_end (I.ok.hd hc) st (by have:n<=i:=hg;omega) fun h' eb=>⟨rfl,I.turned (t':=s.toks) (fun b o hb e=>eb b o hb e) f0 f1 f3 f4 f5⟩
 self:=fun _ _ _ _ _ st h=>wpAny_pyIter_rangeiter st h
section
variable {X:Cx}{tg:Expr}
def MB (K:W.Frag)(tl:TE):TI:=fun σ H R=>tl σ H fun x H1=>∃a,x=.ref a/\(∃xs,SqL K H1 a xs)/\R (Itl K a) H1
def K4 (K:W.Frag)(tl:TE):TI:=fun σ H R=>tl σ H fun x H1=>∃a,x=.ref a/\(∃xs,SqT K H1 a xs)/\R (Itt K a) H1
def WQ {l:Expr}{tl:TE}(hl:PE X l tl):PI X tg l (MB X.K tl):=by
 intro XaU s σ H R I h;refine QA (hl XaU s σ H _ I h) fun v s1 ⟨x,H1,I1,r1,q1⟩=>?_;obtain⟨a,e,⟨xs,hq⟩,q⟩:=q1;subst e;cases r1;obtain⟨its,rv,p,hz⟩:=I1.list hq;refine wpAny_pyIter_list p.isList ?_;refine⟨s1.heap.objs.size,[s1.heap.objs.size],_,_,H1,rfl,I1.kept (t':=s1.toks) fun b o e=>Xi _ e,AU a _,⟨_,XD _ rfl,rfl,rfl⟩,fun b hb=>?_,q⟩;have e:b=s1.heap.objs.size:=by simpa using hb
 subst e;exact I1.fpOk (Xs _) (I1.hok.fresh (Xs _))
def T6 {l:Expr}{tl:TE}(hl:PE X l tl):PI X tg l (K4 X.K tl):=by
 intro XaU s σ H R I h;refine QA (hl XaU s σ H _ I h) fun v s1 ⟨x,H1,I1,r1,q1⟩=>?_;obtain⟨a,e,⟨xs,hq⟩,q⟩:=q1;subst e;cases r1;obtain⟨its,rv,p,hz⟩:=I1.tuple hq;refine wpAny_pyIter_tuple (show s1.heap.IsTuple a its.toArray from p) ?_;refine⟨s1.heap.objs.size,[s1.heap.objs.size],_,_,H1,rfl,I1.kept (t':=s1.toks) fun b o e=>Xi _ e,EO a _,⟨_,XD _ rfl,rfl,rfl⟩,fun b hb=>?_,q⟩;have e:b=s1.heap.objs.size:=by simpa using hb
 subst e;exact I1.fpOk (Xs _) (I1.hok.fresh (Xs _))
def RB {XaU:Qc}{σ:St}{H:Hp}{s:Shared}{R:It->Hp->Prop}{E:Qb}{lo hi:Int}{t u v:Tok}{tk:Nat}(I:Qq X XaU σ H s)(h1 : -(2^62)<=lo)(h2:lo<2^62)(h3 : -(2^62)<=hi)(h4:hi<2^62)
 (q:R (Itr lo (hi-lo).toNat) H):wpAny (model X.prog X.w) X.A (pyIter (.ref s.heap.objs.size)) (PIE X XaU σ tg R) E { s with heap:=s.heap.push { cls:=.type "range",data:=.fields #[.int lo t,.int hi u,.int 1 v] },toks:=tk }:=by
 refine wpAny_pyIter_range (IsRange.new ..) (small_one h1 h2 h3 h4) ?_;have I1:Qq X XaU σ H { s with heap:=s.heap.push { cls:=.type "range",data:=.fields #[.int lo t,.int hi u,.int 1 v] },toks:=tk }:=I.kept fun b o e=>Xi _ e
 refine⟨(s.heap.push { cls:=.type "range",data:=.fields #[.int lo t,.int hi u,.int 1 v] }).objs.size,[(s.heap.push { cls:=.type "range",data:=.fields #[.int lo t,.int hi u,.int 1 v] }).objs.size],_,_,H,rfl,
  I1.kept (t':=tk) fun b o e=>Xi _ e,Ex _ lo (hi-lo).toNat,?_,fun b hb=>?_,q⟩
 ·have e1:lo+((0:Nat):Int)*1=lo:=by simp
  have e2:(((hi-lo).toNat:Nat):Int)-((0:Nat):Int)=Builtin.Range.rangeSize lo hi 1:=by rw[rangeSize_one];split<;>omega
  show IsRangeIter _ _ (lo+((0:Nat):Int)*1) ((((hi-lo).toNat:Nat):Int)-((0:Nat):Int)) 1;rw[e1,e2];exact XD _ rfl
 ·have e:b=(s.heap.push { cls:=.type "range",data:=.fields #[.int lo t,.int hi u,.int 1 v] }).objs.size:=by simpa using hb
  subst e;exact I1.fpOk (Xs _) (I1.hok.fresh (Xs _))
def US (ta:TA):TI:=fun σ H R=>ta σ H fun vs H1=>∃j:Int,vs=[.int j] /\ -(2^62)<=j/\j<2^62/\R (Itr 0 j.toNat) H1
def KN (ta:TA):TI:=fun σ H R=>ta σ H fun vs H1=>∃i j:Int,vs=[.int i,.int j]/\(-(2^62)<=i/\i<2^62 /\ -(2^62)<=j/\j<2^62)/\R (Itr i (j-i).toNat) H1
def V6 {a:Expr} {ta:TA} {p pos:Pos} (hg:Gl X "range") (hm:X.mg "range"=none) (ha:PA X [a] ta) (hs:starEach [a] X.env=[(false,eval a X.env)]:=by rfl):PI X tg (.Call (.Name "range" p) [a] [] pos) (US ta):=by
 intro XaU s σ H R I h;refine Call_ (WN I hg hm boot_range (PyProof.Rows.callWith_type1 (QA (ha pos XaU s σ H _ I h) fun us s1 ⟨vs,H1,I1,r1,q1⟩=>?_) hs rfl));obtain⟨j,e,q1,q2,q⟩:=q1;subst e;cases r1 with
 |cons r rr =>
   cases rr
   obtain⟨t,rfl⟩:=r;exact call_range_1 (RB I1 (by omega) (by omega) q1 q2 (by simpa using q))
def EA {a b:Expr} {ta:TA} {p pos:Pos} (hg:Gl X "range") (hm:X.mg "range"=none) (ha:PA X [a,b] ta) (hs:starEach [a,b] X.env=[(false,eval a X.env),(false,eval b X.env)]:=by rfl) (hs2:starEach [b] X.env=[(false,eval b X.env)]:=by rfl) :
 PI X tg (.Call (.Name "range" p) [a,b] [] pos) (KN ta):=by
 intro XaU s σ H R I h;refine Call_ (WN I hg hm boot_range (PyProof.Rows.callWith_type1 (QA (ha pos XaU s σ H _ I h) fun us s1 ⟨vs,H1,I1,r1,q1⟩=>?_) (by rw[hs,hs2]) (by rw[hs2];rfl)));obtain⟨i,j,e,⟨q1,q2,q3,q4⟩,q⟩:=q1;subst e;cases r1 with
 |cons r rr =>
   cases rr with
   |cons r' rr =>
     cases rr
     obtain⟨t,rfl⟩:=r;obtain⟨t',rfl⟩:=r';exact call_range_2 (RB I1 q1 q2 q3 q4 q)
def JI (wi:TI)(g:TG)(tb:TS):TS:=fun D σ H=>wi σ H fun J H1=>∃W:Nat->Nat->St->Hp->Prop,(∃m,W 0 m σ H1)/\∀i m σ H,W i m σ H ->
 (J.stop i H/\D.nx σ H)\/(J.go i H/\∃N:St->Hp->Prop,(∀σ' H',N σ' H'->∃m',m'<m/\W (i+1) m' σ' H')/\∀x H',J.yld i H x H'->g x σ H' fun σ2 H2=>tb { D with nx:=N,ct:=N,bk:=D.nx } σ2 H2)
def Gd (fp:Qg)(h:Heap):Qc:=fp.filterMap fun b=>(h.get? b).map fun o=>(b,o)
def BL {fp:Qg}{h:Heap}{b:Addr}{o:Obj}(hb:b∈fp)(e:h.get? b=some o):(b,o)∈Gd fp h:=List.mem_filterMap.mpr ⟨b,hb,by rw[e];rfl⟩
def Eb {fp:Qg}{h:Heap}{p:Addr×Obj}(hp:p∈Gd fp h):p.1∈fp/\h.get? p.1=some p.2:=by
 obtain⟨b,hb,e⟩:=List.mem_filterMap.mp hp
 cases q:h.get? b with
 |none=>rw[q]at e;cases e
 |some o =>
   rw[q]at e;have e':(b,o)=p:=Option.some.inj e;subst e';exact⟨hb,q⟩
def Qq.pinned {XaU:Qc}{σ:St}{H:Hp}{s:Shared}{fp:Qg}(I:Qq X XaU σ H s)(hf:∀b∈fp,Yf X XaU H b)(ho:∀b∈fp,∃o,s.heap.get? b=some o/\∀v,o.data≠.cell v):Qq X (XaU++Gd fp s.heap) σ H s :=
 I.pins_of fun p hp=>(XG.mp hp).elim (fun z=>I.pin p (XX _ z)) fun z=>by
  obtain⟨hb,e⟩:=Eb z;obtain⟨f0,f1,f2,_⟩:=hf p.1 hb;obtain⟨o,e',d⟩:=ho p.1 hb;rw[e]at e';cases e';exact⟨e,f0,f1,f2,d⟩
def Qq.unpinned {XaU pl:Qc}{σ:St}{H:Hp}{s:Shared}(I:Qq X (XaU++pl) σ H s):Qq X XaU σ H s:=I.pins_of fun p hp=>I.pin p (XX _ (UB _ hp))
def Vr {iter:Expr}{body:List Stmt}{wi:TI}{g:TG}{tb:TS}{pos:Pos}(hp:PassesOwn (model X.prog X.w) X.A X.env X.xe)(hc:X.calm=true)(hi:PI X tg iter wi)(hg:PG X tg g)(hb:PSs X body tb)
 (hs:∀x,foldedSetIterable iter X.env x=pure x:=by intro _;rfl):PS X (.For tg iter body [] pos) (JI wi g tb):=by
 intro XaU s σ H D I h;refine wpAny_For (QA (hi XaU s σ H _ I h) fun v s1 h1=>QA h1 fun itv s2 h2=>?_) hs;obtain⟨it,fp,tn,J,H2,e,I2,T,st2,f2,W,⟨m0,w0⟩,turn⟩:=h2;subst e;have stat:∀{H':Hp},(∀b∈fp,H' b=none)->∀b∈fp,Yf X XaU H' b:=fun hn b hb=>⟨hn b hb,(f2 b hb).2⟩;refine codeAny_forLoop_any (fun n s'=>∃i σ' H',Qq X XaU σ' H' s'/\tn i s'.heap/\(∀b∈fp,H' b=none)/\W i n σ' H') ?_ m0 ⟨0,σ,H2,I2,st2,fun b hb=>(f2 b hb).1,w0⟩
 rintro n s3 ⟨i,σ3,H3,I3,st3,fr3,w3⟩
 rcases turn i n σ3 H3 w3 with ⟨stop,qn⟩|⟨go,N,hN,step⟩
 ·refine wpAny_passesOwn hp (QA (T.done X rfl rfl rfl hc i XaU s3 σ3 H3 X.xe I3 (stat fr3) st3 stop) fun r s4 ⟨hr,I4⟩=>?_)
  subst hr;exact wpAny_execs_nil ⟨σ3,H3,I4,qn⟩
 ·refine wpAny_passesOwn hp (QA (T.item X rfl rfl rfl hc i XaU s3 σ3 H3 X.xe I3 (stat fr3) st3 go) fun r s4 ⟨u,hr,h4⟩=>?_)
  subst hr;refine wpAny_passesOwn hp (QA h4 fun _ s5 ⟨x,H5,I5,r5,y5,st5,fr5⟩=>?_);have I5':=I5.pinned (stat fr5) (T.obj _ _ st5);refine wpAny_passesOwn hp (QA (hg _ s5 σ3 H5 x u _ I5' r5 (step x H5 y5)) fun _ s6 ⟨σ6,H6,I6,q6⟩=>?_);refine wpAny_passesOwn hp (QA (hb _ s6 σ6 H6 _ I6 q6) fun f s7 q7=>?_)
  have again:∀{σ7:St} {H7:Hp},Qq X (XaU++Gd fp s5.heap) σ7 H7 s7->N σ7 H7->∃m,m<n/\∃i σ' H',Qq X XaU σ' H' s7/\tn i s7.heap/\(∀b∈fp,H' b=none)/\W i m σ' H':=fun{σ7 H7} I7 n7=>by
   obtain⟨m',hm,w7⟩:=hN σ7 H7 n7;refine⟨m',hm,i+1,σ7,H7,I7.unpinned,T.keep _ _ _ st5 fun b hb o e=>(I7.pin (b,o) (XX _ (XX _ (BL hb e)))).1,fun b hb=>?_,w7⟩;obtain⟨o,e,d⟩:=T.obj _ _ st5 b hb
   exact(I7.pin (b,o) (XX _ (XX _ (BL hb e)))).2.1
  cases f with
  |next=>obtain⟨σ7,H7,I7,n7⟩:=q7;exact again I7 n7
  |cont=>obtain⟨σ7,H7,I7,n7⟩:=q7;exact again I7 n7
  |brk=>obtain⟨σ7,H7,I7,q7⟩:=q7;exact⟨σ7,H7,I7.unpinned,q7⟩
  |ret v=>obtain⟨x7,σ7,H7,I7,r7,q7⟩:=q7;exact⟨x7,σ7,H7,I7.unpinned,r7,q7⟩
end
abbrev R2:=V->V->Hp->VK->Prop
def OpR (X:Cx)(f:Value->Value->Sem Value)(r:R2):Prop :=
 ∀(XaU:Qc) (s:Shared) (σ:St) (H:Hp) (x y:V) (v u:Value) (Q:VK),Qq X XaU σ H s->QH x v->QH y u->r x y H Q ->
  wpAny (model X.prog X.w) X.A (f v u) (EP X XaU σ Q) X.xe s
def UnR (X:Cx)(f:Value->Sem Value)(r:V->Hp->VK->Prop):Prop :=
 ∀(XaU:Qc) (s:Shared) (σ:St) (H:Hp) (x:V) (v:Value) (Q:VK),Qq X XaU σ H s->QH x v->r x H Q ->
  wpAny (model X.prog X.w) X.A (f v) (EP X XaU σ Q) X.xe s
def Zy (X:Cx)(f:Value)(r:List V->Hp->VK->Prop):Prop :=
 ∀(XaU:Qc) (s:Shared) (σ:St) (H:Hp) (xs:List V) (us:Qe) (Q:VK),Qq X XaU σ H s->QV xs us->r xs H Q ->
  wpAny (model X.prog X.w) X.A (call f us) (EP X XaU σ Q) X.xe s
def PO (X:Cx)(r:V->Hp->(Bool->Hp->Prop)->Prop):Prop :=
 ∀(XaU:Qc) (s:Shared) (σ:St) (H:Hp) (x:V) (v:Value) (Q:Bool->Hp->Prop),Qq X XaU σ H s->QH x v->r x H Q ->
  wpAny (model X.prog X.w) X.A (truthy v) (TP X XaU σ Q) X.xe s
def tOp (r:R2)(ta tb:TE):TE:=fun σ H Q=>ta σ H fun x H1=>tb σ H1 fun y H2=>r x y H2 Q
def tUn (r:V->Hp->VK->Prop)(ta:TE):TE:=fun σ H Q=>ta σ H fun x H1=>r x H1 Q
def rI (C:Int->Int->Prop)(g:Int->Int->V):R2:=fun x y H Q=>∃i j,x=.int i/\y=.int j/\C i j/\Q (g i j) H
def rI0 (g:Int->Int->V):R2:=fun x y H Q=>∃i j,x=.int i/\y=.int j/\Q (g i j) H
def rU (g:Int->V):V->Hp->VK->Prop:=fun x H Q=>∃i,x=.int i/\Q (g i) H
section
variable {X:Cx}{a b c:Expr}{ta tb tc:TE}{pos:Pos}
def Mz (ha:PE X a ta)(hb:PE X b tb){XaU:Qc}{s:Shared}{σ:St}{H:Hp}{R:V->V->Hp->Prop}(I:Qq X XaU σ H s)
 (h:ta σ H fun x H1=>tb σ H1 fun y H2=>R x y H2) {Q:Qb} {f:Value->Value->Sem Value}
 (hf:∀v u s2 x y H2,Qq X XaU σ H2 s2->QH x v->QH y u->R x y H2->wpAny (model X.prog X.w) X.A (f v u) Q X.xe s2) :
 wpAny (model X.prog X.w) X.A (eval a X.env) (fun v b6=>wpAny (model X.prog X.w) X.A (eval b X.env) (fun u b7=>wpAny (model X.prog X.w) X.A (f v u) Q X.xe b7) X.xe b6) X.xe s:=by
 refine QA (ha XaU s σ H _ I h) fun v s1 ⟨x,H1,I1,r1,q1⟩=>?_;refine QA (hb XaU s1 σ H1 _ I1 q1) fun u s2 ⟨y,H2,I2,r2,q2⟩=>?_;exact hf v u s2 x y H2 I2 r1 r2 q2
def Za {op:Operator}{r:R2}(ho:OpR X (binaryOp op) r)(ha:PE X a ta)(hb:PE X b tb):PE X (.BinOp a op b pos) (tOp r ta tb):=by
 intro XaU s σ H Q I h;exact wpAny_BinOp (Mz ha hb I h fun v u s2 x y H2 I2 rx ry q=>ho XaU s2 σ H2 x y v u Q I2 rx ry q)
def MA {op:UnaryOp}{r:V->Hp->VK->Prop}(ho:UnR X (unaryOp op) r)(ha:PE X a ta):PE X (.UnaryOp op a pos) (tUn r ta):=by
 intro XaU s σ H Q I h;exact UnaryOp_ (QA (ha XaU s σ H _ I h) fun v s1 ⟨x,H1,I1,r1,q1⟩=>ho XaU s1 σ H1 x v Q I1 r1 q1)
def opI {f:Value->Value->Sem Value}{C:Int->Int->Prop}{g:Int->Int->Int}
 (rule:∀(i j:Int) (t u:Tok) (s:Shared) (Q:Qb) (E:Qb),C i j->Q (.int (g i j) s.toks) { s with toks:=s.toks+1 }->wpAny (model X.prog X.w) X.A (f (.int i t) (.int j u)) Q E s) :
 OpR X f (rI C fun i j=>.int (g i j)):=by
 intro XaU s σ H x y v u Q I rx ry h;obtain⟨i,j,rfl,rfl,hc,q⟩:=h;obtain⟨t,rfl⟩:=rx;obtain⟨t',rfl⟩:=ry;exact rule i j t t' s _ _ hc ⟨.int (g i j),H,I.tok _,⟨_,rfl⟩,q⟩
def Mo {f:Value->Value->Sem Value}{g:Int->Int->Int}
 (rule:∀(i j:Int) (t u:Tok) (s:Shared) (Q:Qb) (E:Qb),Q (.int (g i j) s.toks) { s with toks:=s.toks+1 }->wpAny (model X.prog X.w) X.A (f (.int i t) (.int j u)) Q E s) :
 OpR X f (rI0 fun i j=>.int (g i j)):=by
 intro XaU s σ H x y v u Q I rx ry h;obtain⟨i,j,rfl,rfl,q⟩:=h;obtain⟨t,rfl⟩:=rx;obtain⟨t',rfl⟩:=ry;exact rule i j t t' s _ _ ⟨.int (g i j),H,I.tok _,⟨_,rfl⟩,q⟩
def Mr {f:Value->Value->Sem Value}{g:Int->Int->Bool}
 (rule:∀(i j:Int) (t u:Tok) (s:Shared) (Q:Qb) (E:Qb),Q (.bool (g i j)) s->wpAny (model X.prog X.w) X.A (f (.int i t) (.int j u)) Q E s) :
 OpR X f (rI0 fun i j=>.bl (g i j)):=by
 intro XaU s σ H x y v u Q I rx ry h;obtain⟨i,j,rfl,rfl,q⟩:=h;obtain⟨t,rfl⟩:=rx;obtain⟨t',rfl⟩:=ry;exact rule i j t t' s _ _ ⟨.bl (g i j),H,I,rfl,q⟩
def KH (i j:Int):Prop:=0<=j/\j<=1000000/\i.natAbs<2^64
def WF (i j:Int):Prop:=(-(2^64)<i/\i<2^64)\/(-(2^64)<j/\j<2^64)
def WF.ok {i j:Int}(h:WF i j):IntMulOk i j:=by
 rcases h with ⟨h1,h2⟩|⟨h1,h2⟩
 ·exact .of_left (intBits_le_64 h1 h2)
 ·exact .of_right (intBits_le_64 h1 h2)
def Vz:OpR X (binaryOp .Add) (rI0 fun i j=>.int (i+j)):=Mo fun _ _ _ _ _ _ _ q=>add_int q
def YD:OpR X (binaryOp .Sub) (rI0 fun i j=>.int (i-j)):=Mo fun _ _ _ _ _ _ _ q=>sub_int q
def Ub:OpR X (binaryOp .Mult) (rI WF fun i j=>.int (i*j)):=opI fun _ _ _ _ _ _ _ hc q=>mul_int q hc.ok
def Wc:OpR X (binaryOp .Mod) (rI (fun _ j=>0<j) fun i j=>.int (i%j)):=opI fun i j _ _ _ _ _ hc q=>by
 have h1:(0:Int)<j:=hc;exact mod_int' (by omega) (by rw[Int.fmod_eq_emod_of_nonneg i (by omega)];exact q)
def Bk:OpR X (binaryOp .Pow) (rI KH fun i j=>.int (i^j.toNat)):=opI fun _ _ _ _ _ _ _ hc q=>pow_int_small hc.1 hc.2.1 hc.2.2 q
def Du:OpR X (binaryOp .BitXor) (rI0 fun i j=>.int (Builtin.bitXor i j)):=Mo fun _ _ _ _ _ _ _ q=>xor_int q
def unI {f:Value->Sem Value}{g:Int->Int}
 (rule:∀(i:Int) (t:Tok) (s:Shared) (Q:Qb) (E:Qb),Q (.int (g i) s.toks) { s with toks:=s.toks+1 }->wpAny (model X.prog X.w) X.A (f (.int i t)) Q E s) :
 UnR X f (rU fun i=>.int (g i)):=by
 intro XaU s σ H x v Q I rx h;obtain⟨i,rfl,q⟩:=h;obtain⟨t,rfl⟩:=rx;exact rule i t s _ _ ⟨.int (g i),H,I.tok _,⟨_,rfl⟩,q⟩
def Da:UnR X (unaryOp .USub) (rU fun i=>.int (-i)):=unI fun _ _ _ _ _ q=>neg_int q
end
def KD:V->V->Bool
 |.non,.non=>true|.non,.int _=>true|.int _,.non=>true|.non,.bl _=>true|.bl _,.non=>true|.non,.str _=>true|.str _,.non=>true
 |.int _,.int _=>true|.bl _,.bl _=>true|.str _,.str _=>true|.byt _,.byt _=>true
 |.int _,.str _=>true|.str _,.int _=>true|.bl _,.str _=>true|.str _,.bl _=>true
 |_,_=>false
def rEq:R2:=fun x y H Q=>KD x y=true/\Q (.bl (decide (x=y))) H
def rNe:R2:=fun x y H Q=>KD x y=true/\Q (.bl (!decide (x=y))) H
def Rz {i j:Int}:decide (V.int i=V.int j)=(i==j):=by
 rw[Bool.eq_iff_iff];simp
def N5 {i j:Bool}:decide (V.bl i=V.bl j)=(i==j):=by
 rw[Bool.eq_iff_iff];simp
def R0 {i j:Str}:decide (V.str i=V.str j)=(i==j):=by
 rw[Bool.eq_iff_iff];simp
def RA {i j:Array UInt8}:decide (V.byt i=V.byt j)=(i.toList==j.toList):=by
 rw[Bool.eq_iff_iff];cases i
 cases j
 simp
section
variable {X:Cx}{a b c:Expr}{ta tb tc:TE}{pos:Pos}
def Z6 {XaU:Qc}{σ:St}{H:Hp}{s:Shared}{Q:VK}{k k':Bool}(I:Qq X XaU σ H s)(q:Q (.bl k) H)(e:k=k'):EP X XaU σ Q (.bool k') s:=by
 subst e;exact⟨.bl k,H,I,rfl,q⟩
def JP:OpR X (compareOp .Eq) rEq:=by
 intro XaU s σ H x y v u Q I rx ry h;obtain⟨hs,q⟩:=h
 cases x with
 |non =>
   cases rx
   cases y with
   |non=>cases ry;exact PySem.EqNone.eq_none_none (Z6 I q (by simp))
   |bl j=>cases ry;exact PySem.EqNone.eq_none_bool (Z6 I q (by simp))
   |int j=>obtain⟨t',rfl⟩:=ry;exact PySem.EqNone.eq_none_int (Z6 I q (by simp))
   |str j=>obtain⟨t',rfl⟩:=ry;exact PySem.EqNone.eq_none_str (Z6 I q (by simp))
   |_=>exact Xl (show false=true from hs) Xv
 |bl i =>
   cases rx
   cases y with
   |non=>cases ry;exact PySem.EqNone.eq_bool_none (Z6 I q (by simp))
   |bl j=>cases ry;exact eq_bool (Z6 I q N5)
   |str j=>obtain⟨t',rfl⟩:=ry;exact PySem.EqMixed.eq_bool_str (Z6 I q (by simp))
   |_=>exact Xl (show false=true from hs) Xv
 |int i =>
   obtain⟨t,rfl⟩:=rx
   cases y with
   |non=>cases ry;exact PySem.EqNone.eq_int_none (Z6 I q (by simp))
   |int j=>obtain⟨t',rfl⟩:=ry;exact eq_int (Z6 I q Rz)
   |str j=>obtain⟨t',rfl⟩:=ry;exact PySem.EqMixed.eq_int_str (Z6 I q (by simp))
   |_=>exact Xl (show false=true from hs) Xv
 |str i =>
   obtain⟨t,rfl⟩:=rx
   cases y with
   |non=>cases ry;exact PySem.EqNone.eq_str_none (Z6 I q (by simp))
   |bl j=>cases ry;exact PySem.EqMixed.eq_str_bool (Z6 I q (by simp))
   |int j=>obtain⟨t',rfl⟩:=ry;exact PySem.EqMixed.eq_str_int (Z6 I q (by simp))
   |str j=>obtain⟨t',rfl⟩:=ry;exact eq_str (Z6 I q R0)
   |_=>exact Xl (show false=true from hs) Xv
 |byt i =>
   obtain⟨t,rfl⟩:=rx
   cases y with
   |byt j=>obtain⟨t',rfl⟩:=ry;exact W.eq_bytes (Z6 I q RA)
   |_=>exact Xl (show false=true from hs) Xv
 |_=>cases y<;>exact Xl (show false=true from hs) Xv
def GW:OpR X (compareOp .NotEq) rNe:=by
 intro XaU s σ H x y v u Q I rx ry h;obtain⟨hs,q⟩:=h
 cases x with
 |non =>
   cases rx
   cases y with
   |non=>cases ry;exact PySem.EqNone.ne_none_none (Z6 I q (by simp))
   |bl j=>cases ry;exact PySem.EqNone.ne_none_bool (Z6 I q (by simp))
   |int j=>obtain⟨t',rfl⟩:=ry;exact PySem.EqNone.ne_none_int (Z6 I q (by simp))
   |str j=>obtain⟨t',rfl⟩:=ry;exact PySem.EqNone.ne_none_str (Z6 I q (by simp))
   |_=>exact Xl (show false=true from hs) Xv
 |bl i =>
   cases rx
   cases y with
   |non=>cases ry;exact PySem.EqNone.ne_bool_none (Z6 I q (by simp))
   |bl j=>cases ry;exact ne_bool (Z6 I q (X0 not N5))
   |str j=>obtain⟨t',rfl⟩:=ry;exact PySem.EqMixed.ne_bool_str (Z6 I q (by simp))
   |_=>exact Xl (show false=true from hs) Xv
 |int i =>
   obtain⟨t,rfl⟩:=rx
   cases y with
   |non=>cases ry;exact PySem.EqNone.ne_int_none (Z6 I q (by simp))
   |int j=>obtain⟨t',rfl⟩:=ry;exact ne_int (Z6 I q (X0 not Rz))
   |str j=>obtain⟨t',rfl⟩:=ry;exact PySem.EqMixed.ne_int_str (Z6 I q (by simp))
   |_=>exact Xl (show false=true from hs) Xv
 |str i =>
   obtain⟨t,rfl⟩:=rx
   cases y with
   |non=>cases ry;exact PySem.EqNone.ne_str_none (Z6 I q (by simp))
   |bl j=>cases ry;exact PySem.EqMixed.ne_str_bool (Z6 I q (by simp))
   |int j=>obtain⟨t',rfl⟩:=ry;exact PySem.EqMixed.ne_str_int (Z6 I q (by simp))
   |str j=>obtain⟨t',rfl⟩:=ry;exact ne_str (Z6 I q (X0 not R0))
   |_=>exact Xl (show false=true from hs) Xv
 |byt i =>
   obtain⟨t,rfl⟩:=rx
   cases y with
   |byt j=>obtain⟨t',rfl⟩:=ry;exact W.ne_bytes (Z6 I q (X0 not RA))
   |_=>exact Xl (show false=true from hs) Xv
 |_=>cases y<;>exact Xl (show false=true from hs) Xv
def JO:OpR X (compareOp .Lt) (rI0 fun i j=>.bl (decide (i<j))):=Mr fun _ _ _ _ _ _ _ q=>lt_int q
def MG:OpR X (compareOp .LtE) (rI0 fun i j=>.bl (decide (i<=j))):=Mr fun _ _ _ _ _ _ _ q=>le_int q
def WJ:OpR X (compareOp .Gt) (rI0 fun i j=>.bl (decide (j<i))):=Mr fun _ _ _ _ _ _ _ q=>gt_int q
def ZA (b:Expr){op:CmpOp}(h:op≠.In:=by decide)(h2:op≠.NotIn:=by decide):behindInMarks op b=false:=by
 have e1:(op==CmpOp.In)=false:=by cases op<;>first|rfl|exact Xl rfl h
 have e2:(op==CmpOp.NotIn)=false:=by cases op<;>first|rfl|exact Xl rfl h2
 cases b<;>simp[behindInMarks,e1,e2]
def Bp {op:CmpOp}{r:R2}(ho:OpR X (compareOp op) r)(ha:PE X a ta)(hb:PE X b tb)(hm:behindInMarks op b=false):PE X (.Compare a [op] [b] pos) (tOp r ta tb):=by
 intro XaU s σ H Q I h;exact wpAny_Compare1 (Mz ha hb I h fun v u s2 x y H2 I2 rx ry q=>ho XaU s2 σ H2 x y v u Q I2 rx ry q) hm
def GZ (t:TE):TT:=fun σ H Q=>t σ H fun x H'=>∃k,x=.bl k/\Q k H'
def ZS {op:CmpOp}{r:R2}(ho:OpR X (compareOp op) r)(ha:PE X a ta)(hb:PE X b tb)(hm:behindInMarks op b=false):PT X (.Compare a [op] [b] pos) (GZ (tOp r ta tb)):=by
 intro XaU s σ H Q I h;refine wpAny_isTrue_Compare1 (QA (ha XaU s σ H _ I h) fun v s1 ⟨x,H1,I1,r1,q1⟩=>QA (hb XaU s1 σ H1 _ I1 q1) fun u s2 ⟨y,H2,I2,r2,q2⟩ =>
  QA (ho XaU s2 σ H2 x y v u _ I2 r1 r2 q2) fun c s3 ⟨z,H3,I3,r3,k,e,q3⟩=>?_) hm
 subst e;cases r3;exact wpAny_truthy_bool ⟨H3,I3,q3⟩
def Db (r r':R2)(ta tb tc:TE):TE:=fun σ H Q=>ta σ H fun x H1=>tb σ H1 fun y H2=>r x y H2 fun z H3=>∃k,z=.bl k /\
 (if k=true then tc σ H3 fun w' H4=>r' y w' H4 Q else Q (.bl false) H3)
def RD {op op':CmpOp}{r r':R2}(ho:OpR X (compareOp op) r)(ho':OpR X (compareOp op') r')(ha:PE X a ta)(hb:PE X b tb)(hc:PE X c tc)
 (hm:lastMarks [op,op'] [b,c]=false:=by with_unfolding_all rfl):PE X (.Compare a [op,op'] [b,c] pos) (Db r r' ta tb tc):=by
 intro XaU s σ H Q I h;refine Compare_chain (QA (ha XaU s σ H _ I h) fun v s1 ⟨x,H1,I1,r1,q1⟩=>chain_link (QA (hb XaU s1 σ H1 _ I1 q1) fun u s2 ⟨y,H2,I2,r2,q2⟩ =>
  QA (ho XaU s2 σ H2 x y v u _ I2 r1 r2 q2) fun d s3 ⟨z,H3,I3,r3,k,e,q3⟩=>?_)) hm
 subst e;cases r3;refine wpAny_truthy_bool ?_
 cases k with
 |false=>exact ite_ff ⟨.bl false,H3,I3,rfl,q3⟩
 |true=>exact ite_tt (chain_last (QA (hc XaU s3 σ H3 _ I3 q3) fun w' s4 ⟨z',H4,I4,r4,q4⟩=>ho' XaU s4 σ H4 y z' u w' Q I4 r2 r4 q4))
def CD {op op':CmpOp}{r r':R2}(ho:OpR X (compareOp op) r)(ho':OpR X (compareOp op') r')(ha:PE X a ta)(hb:PE X b tb)(hc:PE X c tc)
 (hm:lastMarks [op,op'] [b,c]=false:=by with_unfolding_all rfl):PT X (.Compare a [op,op'] [b,c] pos) (GZ (Db r r' ta tb tc)):=by
 intro XaU s σ H Q I h;refine isTrue_chain (QA (ha XaU s σ H _ I h) fun v s1 ⟨x,H1,I1,r1,q1⟩=>test_link (QA (hb XaU s1 σ H1 _ I1 q1) fun u s2 ⟨y,H2,I2,r2,q2⟩ =>
  QA (ho XaU s2 σ H2 x y v u _ I2 r1 r2 q2) fun d s3 ⟨z,H3,I3,r3,k,e,q3⟩=>?_)) hm
 subst e;cases r3;refine wpAny_truthy_bool ?_
 cases k with
 |false =>
   obtain⟨k',e',q'⟩:=q3
   cases e'
   exact ite_ff ⟨H3,I3,q'⟩
 |true =>
   refine ite_tt (test_last (QA (hc XaU s3 σ H3 _ I3 q3) fun w' s4 ⟨z',H4,I4,r4,q4⟩=>QA (ho' XaU s4 σ H4 y z' u w' _ I4 r2 r4 q4) fun d' s5 ⟨z2,H5,I5,r5,k2,e2,q5⟩=>?_));subst e2;cases r5;exact wpAny_truthy_bool ⟨H5,I5,q5⟩
def M1 (K:W.Frag)(x:V)(H:Hp)(k:Bool):Prop :=
 match x with
 |.non=>k=false
 |.bl b=>k=b
 |.int i=>k=(i != 0)
 |.str y=>y.length<=sizeLine/\k=((y.length:Int) != 0)
 |.byt y=>y.size<=sizeLine/\k=((y.size:Int) != 0)
 |.ref p=>(∃xs,SqL K H p xs/\k = !xs.isEmpty)\/(∃xs,SqT K H p xs/\k = !xs.isEmpty)\/∃kvs,H p=some (.dK kvs)/\k = !kvs.isEmpty
 |_=>False
def EI {κ:Type}{kvs:List (κ×V)}{vs:List (κ×Value)}(r:KV kvs vs):(!vs.isEmpty) = !kvs.isEmpty:=by
 cases r<;>rfl
def Pq {xs:List V}{its:Qe}(r:QV xs its):(!its.toArray.isEmpty) = !xs.isEmpty:=by
 cases r<;>simp
def Jv:(sizeLine:Nat)<2^63:=by rw[sizeLine_eq];decide
def TC:PO X (fun x H Q=>∃k,M1 X.K x H k/\Q k H):=by
 intro XaU s σ H x v Q I rx h;obtain⟨k,e,q⟩:=h;have hl:=Jv;have hs:sizeLine=16777216:=sizeLine_eq
 cases x with
 |non =>
   cases rx
   have e':k=false:=e;subst e';exact truthy_none ⟨H,I,q⟩
 |bl b =>
   cases rx
   have e':k=b:=e;subst e';exact wpAny_truthy_bool ⟨H,I,q⟩
 |int i =>
   obtain⟨t,rfl⟩:=rx;have e':k=(i != 0):=e;subst e';exact PySem.P.truthy_int ⟨H,I,q⟩
 |str y =>
   obtain⟨t,rfl⟩:=rx;obtain⟨hy,e'⟩:y.length<=sizeLine/\k=((y.length:Int) != 0):=e;subst e';exact PySem.P.truthy_str (by omega) ⟨H,I.tok _,q⟩
 |byt y =>
   obtain⟨t,rfl⟩:=rx;obtain⟨hy,e'⟩:y.size<=sizeLine/\k=((y.size:Int) != 0):=e;subst e';exact W.truthy_bytes (by omega) ⟨H,I.tok _,q⟩
 |ref p =>
   cases rx
   have e':(∃xs,SqL X.K H p xs/\k = !xs.isEmpty)\/(∃xs,SqT X.K H p xs/\k = !xs.isEmpty)\/∃kvs,H p=some (.dK kvs)/\k = !kvs.isEmpty:=e
   rcases e' with ⟨xs,hx,e'⟩|⟨xs,hx,e'⟩|⟨kvs,hx,e'⟩
   ·subst e'
    obtain⟨its,r,pl,hz⟩:=I.list hx;have hlen:=r.length;exact wpAny_truthy_list pl.isList (by simp only[Xx];omega) ⟨H,I.tok _,by rw[Pq r];exact q⟩
   ·subst e'
    obtain⟨its,r,pl,hz⟩:=I.tuple hx;have hlen:=r.length;exact truthy_tuple pl (by simp only[Xx];omega) ⟨H,I.tok _,by rw[Pq r];exact q⟩
   ·subst e'
    obtain⟨hz,hS,vs,r,m⟩:kvs.length<=sizeLine/\(p==sysModules)=false/\∃vs,KV kvs vs/\s.heap.DictOf (ZD X.prog X.w) p vs:=I.hok p _ hx;have hlen:kvs.length=vs.length:=Paired.length r;exact wpAny_truthy_dict hS m (by omega) ⟨H,I.tok _,by rw[EI r];exact q⟩
 |_=>exact(show False from e).elim
def Ai (ha:PE X a ta)(he:∀whole,isTrue a X.env whole=(do let v <- whole;standAt a.pos;holding [v] (truthy v))) :
 PT X a (fun σ H Q=>ta σ H fun x H'=>∃k,M1 X.K x H' k/\Q k H'):=by
 intro XaU s σ H Q I h;exact isTrue_plain (QA (ha XaU s σ H _ I h) fun v s1 ⟨x,H1,I1,r1,q1⟩=>TC XaU s1 σ H1 x v Q I1 r1 q1) (he _)
def Y7 {x:V}{us:Qe}(r:QV [x] us):∃u,us=[u]/\QH x u:=by
 cases r with
 |cons r1 r2=>cases r2;exact⟨_,rfl,r1⟩
def UW {x y:V}{us:Qe}(r:QV [x,y] us):∃u w',us=[u,w']/\QH x u/\QH y w':=by
 cases r with
 |cons r1 r2 =>
   cases r2 with
   |cons r3 r4=>cases r4;exact⟨_,_,rfl,r1,r3⟩
def AF (hc:X.calm=true):Zy X (.builtin "max") (fun xs H Q=>∃i j,xs=[.int i,.int j]/\Q (.int (if j > i then j else i)) H):=by
 intro XaU s σ H xs us Q I r h;obtain⟨i,j,rfl,q⟩:=h;obtain⟨u,w',rfl,⟨t,rfl⟩,⟨t',rfl⟩⟩:=UW r;refine max_two_ints (I.ok.hd hc) fun h' tk k=>⟨_,H,I.kept k,?_,q⟩
 by_cases hj:j > i
 ·rw[Xd hj,Xd hj];exact⟨_,rfl⟩
 ·rw[Xb hj,Xb hj];exact⟨_,rfl⟩
def AE (hc:X.calm=true):Zy X (.builtin "min") (fun xs H Q=>∃i j,xs=[.int i,.int j]/\Q (.int (if j<i then j else i)) H):=by
 intro XaU s σ H xs us Q I r h;obtain⟨i,j,rfl,q⟩:=h;obtain⟨u,w',rfl,⟨t,rfl⟩,⟨t',rfl⟩⟩:=UW r;refine min_two_ints (I.ok.hd hc) fun h' tk k=>⟨_,H,I.kept k,?_,q⟩
 by_cases hj:j<i
 ·rw[Xd hj,Xd hj];exact⟨_,rfl⟩
 ·rw[Xb hj,Xb hj];exact⟨_,rfl⟩
def Am:Zy X (.type "int") (fun xs H Q=>(∃i,xs=[.int i]/\Q (.int i) H)\/∃k,xs=[.bl k]/\Q (.int (if k then 1 else 0)) H):=by
 intro XaU s σ H xs us Q I r h;rcases h with ⟨i,rfl,q⟩|⟨k,rfl,q⟩
 ·obtain⟨u,rfl,t,rfl⟩:=Y7 r
  exact call_int_int ⟨.int i,H,I,⟨_,rfl⟩,q⟩
 ·obtain⟨u,rfl,r1⟩:=Y7 r
  cases r1
  exact call_int_bool ⟨.int (if k then 1 else 0),H,I.tok _,⟨_,rfl⟩,q⟩
end
structure ObjM (h:Heap)(x dx C:Addr)(mA:Str->Qf):Prop where
 obj:h.get? x=some (W.instObj C dx)
 ns:h.Ns1 dx mA
 ne:dx≠x
def S9 {h:Heap}{dx:Addr}{mA:Str->Qf}(n:h.Ns1 dx mA):∃od,h.get? dx=some od/\∀name,W.lookIn name od=some (mA name):=by
 obtain⟨o,es,ep,ho,hd,hk,_,hm⟩:=n;refine⟨o,ho,fun name=>?_⟩;have e:=hm name;unfold nsFind findBy at e;rw[<- Array.find?_toList]at e;unfold W.lookIn;rw[hd];dsimp only;split
 ·rename_i y q
  rw[q]at e;exact X0 some e
 ·rename_i q
  rw[q]at e;have a:es.toList.any (·.refKey)=false:=by
   rw[List.any_eq_false];intro y hy;obtain⟨z,t,hkey⟩:=hk y (Array.mem_toList_iff.mp hy)
   simp[DictEntry.refKey,hkey]
  have a':¬es.toList.any (·.refKey)=true:=by rw[a];exact Xv
  rw[Xb a'];exact X0 some e
def ObjM.look {h:Heap}{x dx C:Addr}{mA:Str->Qf}(I:ObjM h x dx C mA):∃od,W.InstAt h x (W.instObj C dx) C (some od)/\∀name,W.lookIn name od=some (mA name) :=
 let ⟨od,ho,hl⟩:=S9 I.ns
 ⟨od,⟨I.obj,rfl,rfl,ho⟩,hl⟩
section
variable {prog:Program}{w:World}{A:Around}{E:Qb}{s:Shared}{K:W.Frag}{x dx C f:Addr}{mA:Str->Qf}{name:Str}{v:Value}
def Lr {expr:Bool}{Q:Qb}(X:K.In s.heap)(I:ObjM s.heap x dx C mA)(hg:W.plainGet K C name=true)(hh:W.hasDictIn K C=true)
 (ha:W.findIn K (.ref C) name=some none) (hv:mA name=some v) (hv':W.handedIn v=true) (h:Q v { s with toks:=s.toks+1 }) :
 wpAny (model prog w) A (getAttr (.ref x) name expr) Q E s:=by
 obtain⟨od,J,hl⟩:=I.look;exact W.get_value X J (W.plainGet_of hg).1 (W.findObj_own hh ha rfl (by rw[hl,hv])) hv' h
def C6 {pl:Sem Bool}{Q:Value×Qe->Shared->Prop}(X:K.In s.heap)(I:ObjM s.heap x dx C mA)(hg:W.plainGet K C name=true)
 (hf:W.findIn K (.ref C) name=some (some (.ref f))) (ht:W.isFn K (.ref f)=true) (hv:mA name=none) (h:Q (.ref f,[.ref x]) s) :
 wpAny (model prog w) A (getMethod (.ref x) name pl) Q E s:=by
 obtain⟨od,J,hl⟩:=I.look;exact W.method_fn X J (W.plainGet_of hg).1 (W.plainGet_of hg).2 hf (beq_iff_eq.mp ht) (by show(W.lookIn name od).map (·.isSome)=some false;rw[hl,hv];rfl) h
def LY {ns:Qh}{Q:Unit->Shared->Prop}(X:K.In s.heap)(I:ObjM s.heap x dx C mA)
 (hs:W.findIn K (.ref C) "__setattr__"=some (some (.builtin "object.__setattr__"))) (hp:W.plainOver K C=true) (ht:W.takerIn K C name=some none) (hh:W.hasDictIn K C=true)
 (hw:PySem.Within mA ns) (hsz:ns.length<=sizeLine)
 (h:∀h',ObjM h' x dx C (fun y=>if y=name then some v else mA y)->Heap.SameBut dx s.heap h'->Q () { s with heap:=h',toks:=s.toks+2 }) :
 wpAny (model prog w) A (setAttr (.ref x) name v) Q E s:=by
 obtain⟨od,J,hl⟩:=I.look;refine W.set_plain X J hs (W.osa_open (s:={ s with toks:=s.toks+1 }) (r:=none) X J hp ht fun b=>?_);obtain⟨cd,hc,hd'⟩:=W.any_some hh;have hx:s.heap.get? x=some ⟨.ref C,some dx,.plain,#[]⟩:=I.obj;refine Xc (Xq (Xc (Xc (wpAny_loadPart hx (Xc (W.Looks.here (s:={ s with toks:=s.toks+1 }) (W.looks_clsIn X hc) ?_))))));rw[hd'];refine Xq (a:=some dx) (Xc (Xq (Xc ?_)));refine wpAny_nsSet1 (s:={ s with toks:=s.toks+1 }) I.ns fun h' hn2 hs2=>?_;obtain⟨oD,esD,epD,hoD,hdD,hcD⟩:=hn2.count (PySem.Within.cons name v hw);refine Xc (wpAny_lookBehind hoD (by rw[hdD];exact pastItsLine_dict (X8 hcD (by rw[Oq];omega))) ?_);exact Xq (h _ ⟨(hs2.2 _ (Ne.symm I.ne)).trans I.obj,hn2,I.ne⟩ hs2)
def Cf {R:Result->Shared->Prop}{vs:Qe}{kw:List (Str×Value)}(X:K.In s.heap)(hm:W.makesIn K C=true)
 (hi:W.findIn K (.ref C) "__init__"=some (some (.ref f))) (hf:W.typeIn K (.ref f)=some (.type "function"))
 (h:codeAny (model prog w) (A.under (.builtin "type.__call__" ⟨.ref C::vs,kw⟩)) (.call (.ref f) ⟨.ref (s.heap.objs.size+1)::vs,kw⟩) (W.InitBack (s.heap.objs.size+1) R)
  { s with heap:=(s.heap.push W.emptyDict).push (W.instObj C s.heap.objs.size) }) :
 codeAny (model prog w) A (.call (.ref C) ⟨vs,kw⟩) R s:=by
 obtain⟨hh,g,d,t,os⟩:=s;exact W.make_core (W.makes_of X hm) (W.looks_findIn X hi) (fun self=>W.bind_fn X self hf) (.inl rfl) h
end
def Vv (f:Str)(v:V):List (Str×V)->List (Str×V)
 |[]=>[(f,v)]
 |(g,x)::r=>if g=f then (g,v)::r else (g,x)::Vv f v r
theorem Px (f g:Str)(v:V):∀fs:List (Str×V),(Vv f v fs).lookup g=if g=f then some v else fs.lookup g
 |[]=>by
   show List.lookup g [(f,v)]=_
   by_cases h:g=f
   ·have hb:(g==f)=true:=beq_iff_eq.mpr h
    simp only[List.lookup,hb,Xd h]
   ·have hb:(g==f)=false:=beq_eq_false_iff_ne.mpr h
    simp only[List.lookup,hb,Xb h]
 |(k,x)::r=>by
   have ih:=Px f g v r;rw[show Vv f v ((k,x)::r)=(if k=f then (k,v)::r else (k,x)::Vv f v r) from rfl];by_cases hk:k=f
   ·rw[Xd hk]
    by_cases h:g=k
    ·have hb:(g==k)=true:=beq_iff_eq.mpr h
     simp only[List.lookup,hb,Xd (h.trans hk)]
    ·have hb:(g==k)=false:=beq_eq_false_iff_ne.mpr h
     simp only[List.lookup,hb,Xb (fun e:g=f=>h (e.trans hk.symm))]
   ·rw[Xb hk]
    by_cases h:g=k
    ·have hb:(g==k)=true:=beq_iff_eq.mpr h
     simp only[List.lookup,hb,Xb (fun e:g=f=>hk (h.symm.trans e))]
    ·have hb:(g==k)=false:=beq_eq_false_iff_ne.mpr h
     simp only[List.lookup,hb];exact ih
theorem Hk (f:Str)(v:V):∀fs:List (Str×V),f∈(Vv f v fs).map (·.1)/\∀g,g∈fs.map (·.1)->g∈(Vv f v fs).map (·.1)
 |[]=>⟨by simp[Vv],fun g h=>by simp at h⟩
 |(k,x)::r=>by
   obtain⟨i1,i2⟩:=Hk f v r;rw[show Vv f v ((k,x)::r)=(if k=f then (k,v)::r else (k,x)::Vv f v r) from rfl];by_cases hk:k=f
   ·rw[Xd hk]
    subst hk;exact⟨by simp,fun g h=>by simpa using h⟩
   ·rw[Xb hk]
    refine⟨?_,fun g h=>?_⟩
    ·rw[Xu]
     exact Xf _ i1
    ·rw[Xu]at h ⊢
     rcases Xe.mp h with e|e
     ·exact Xe.mpr (.inl e)
     ·exact Xf _ (i2 g e)
theorem Pg (f:Str)(v:V):∀fs:List (Str×V),(Vv f v fs).length<=fs.length+1
 |[]=>by simp[Vv]
 |(k,x)::r=>by
   have ih:=Pg f v r;rw[show Vv f v ((k,x)::r)=(if k=f then (k,v)::r else (k,x)::Vv f v r) from rfl];by_cases hk:k=f
   ·rw[Xd hk,Oq,Oq];omega
   ·rw[Xb hk,Oq,Oq];omega
def ZG.some_of {v:V}{o:Qf}(r:ZG (some v) o):∃u,o=some u/\QH v u:=by
 cases o with
 |none=>exact(show False from r).elim
 |some u=>exact⟨u,rfl,r⟩
def ZG.none_of {o:Qf}(r:ZG none o):o=none:=by
 cases o with
 |none=>rfl
 |some u=>exact(show False from r).elim
def Pf {v:V}{u:Value}(r:QH v u):W.handedIn u=true:=by
 cases v with
 |non=>cases (show u=Value.none from r);rfl
 |bl b=>cases (show u=Value.bool b from r);rfl
 |int i=>obtain⟨t,e⟩:=(show ∃t,u=Value.int i t from r);cases e;rfl
 |str x=>obtain⟨t,e⟩:=(show ∃t,u=Value.str x t from r);cases e;rfl
 |byt b=>obtain⟨t,e⟩:=(show ∃t,u=Value.bytes b t from r);cases e;rfl
 |flt b=>obtain⟨t,e⟩:=(show ∃t,u=Value.float b t from r);cases e;rfl
 |ref a=>cases (show u=Value.ref a from r);rfl
 |ty n=>cases (show u=Value.type n from r);rfl
section
variable {P:Program}{w:World}{H H':Hp}{h h':Heap}{a C dx:Addr}{fs fs':List (Str×V)}
def DC (hok:HOk P w H h)(e:H a=some (.ins C dx fs)):∃mA,ObjM h a dx C mA/\(∀f,ZG (fs.lookup f) (mA f))/\PySem.Within mA (fs.map (·.1))/\fs.length<=1000/\H dx=some (.own a):=by
 obtain⟨d,z,ne,ob,mA,n,r,q⟩:=(show Z3 P w H h a (.ins C dx fs) from hok a _ e)
 exact⟨mA,⟨ob,n,ne⟩,r,q,z,d⟩
end
structure Cls (K:W.Frag)(C:Addr):Prop where
 pg:W.plainGet K C Str.empty=true
 hd:W.hasDictIn K C=true
 po:W.plainOver K C=true
 sa:W.findIn K (.ref C) "__setattr__"=some (some (.builtin "object.__setattr__"))
def Cls.get {K:W.Frag}{C:Addr}(c:Cls K C)(f:Str):W.plainGet K C f=true:=c.pg
def Vj (K:W.Frag)(C:Addr)(f:Str):Prop:=W.findIn K (.ref C) f=some none
def Vj.taker {K:W.Frag}{C:Addr}{f:Str}(n:Vj K C f):W.takerIn K C f=some none:=by
 unfold W.takerIn;rw[show W.findIn K (.ref C) f=some none from n];rfl
structure Meth (K:W.Frag)(C:Addr)(m:Str)(f:Addr):Prop where
 at_:W.findIn K (.ref C) m=some (some (.ref f))
 fn:W.isFn K (.ref f)=true
 kp:W.keepIn K (.ref f)=true
section
variable {X:Cx}{XaU:Qc}{σ:St}{H:Hp}{s:Shared}{a C dx:Addr}{fs:List (Str×V)}{f:Str}{v:V}{A:Around}{E:Qb}
def Pl {b:Bool}{Q:Qb}(I:Qq X XaU σ H s)(e:H a=some (.ins C dx fs))(c:Cls X.K C)(n:Vj X.K C f)(l:fs.lookup f=some v)
 (h:∀u s',Qq X XaU σ H s'->QH v u->Q u s'):wpAny (model X.prog X.w) A (getAttr (.ref a) f b) Q E s:=by
 obtain⟨mA,O,r,_,_,_⟩:=DC I.hok e;obtain⟨u,hu,ru⟩:=ZG.some_of (v:=v) (o:=mA f) (by rw[<- l];exact r f);exact Lr I.kIn O (c.get f) c.hd n hu (Pf ru) (h u _ (I.tok _) ru)
def Pc {m:Str}{g:Addr}{pl:Sem Bool}{Q:Value×Qe->Shared->Prop}(I:Qq X XaU σ H s)(e:H a=some (.ins C dx fs))(c:Cls X.K C)(k:Meth X.K C m g)(l:fs.lookup m=none)
 (h:Q (.ref g,[.ref a]) s):wpAny (model X.prog X.w) A (getMethod (.ref a) m pl) Q E s:=by
 obtain⟨mA,O,r,_,_,_⟩:=DC I.hok e;have hn:mA m=none:=ZG.none_of (by rw[<- l];exact r m);exact C6 I.kIn O (c.get m) k.at_ k.fn hn h
def Po {y:V}{u:Value}{Q:Unit->Shared->Prop}(I:Qq X XaU σ H s)(e:H a=some (.ins C dx fs))(c:Cls X.K C)(n:Vj X.K C f)(hl:fs.length<1000)(ry:QH y u)
 (h:∀s',Qq X XaU σ (upd H a (.ins C dx (Vv f y fs))) s'->Q () s'):wpAny (model X.prog X.w) A (setAttr (.ref a) f u) Q E s:=by
 obtain⟨mA,O,r,wi,_,ho⟩:=DC I.hok e;have hz:(fs.map (·.1)).length<=sizeLine:=by rw[Xm,sizeLine_eq];omega
 refine LY I.kIn O c.sa c.po n.taker c.hd wi hz fun h' O' sb=>h _ ?_;have hd:∃o,h'.get? dx=some o:=let ⟨o,_,_,e',_⟩:=O'.ns;⟨o,e'⟩;refine I.write (x:=a) (e:=dx) (by rw[e];exact True.intro) (.inr ho) (fun b q hb z=>(sb.2 b hb).trans z) hd ?_;refine⟨by rw[Qs O.ne];exact ho,?_,O.ne,O'.obj,_,O'.ns,fun g=>?_,fun g hg=>?_⟩
 ·have:=Pg f y fs;omega
 ·show ZG ((Vv f y fs).lookup g) (if g=f then some u else mA g)
  rw[Px];by_cases q:g=f
  ·rw[Xd q,Xd q];exact ry
  ·rw[Xb q,Xb q];exact r g
 ·by_cases q:g=f
  ·rw[q];exact(Hk f y fs).1
  ·refine(Hk f y fs).2 g (wi g fun z=>hg ?_)
   show(if g=f then some u else mA g)=none
   rw[Xb q];exact z
def Qq.made (I:Qq X XaU σ H s):Qq X XaU σ (upd (upd H s.heap.objs.size (.own (s.heap.objs.size+1))) (s.heap.objs.size+1) (.ins C s.heap.objs.size []))
 { s with heap:=(s.heap.push W.emptyDict).push (W.instObj C s.heap.objs.size) }:=by
 have e1:(s.heap.push W.emptyDict).get? s.heap.objs.size=some W.emptyDict:=XD s.heap rfl
 have e2:((s.heap.push W.emptyDict).push (W.instObj C s.heap.objs.size)).get? (s.heap.objs.size+1)=some (W.instObj C s.heap.objs.size):=by
  have:=XD (s.heap.push W.emptyDict) (o:=W.instObj C s.heap.objs.size) rfl
  rwa [W8]at this
 have e3:(s.heap.push W.emptyDict).Ns s.heap.objs.size (fun _=>none):=⟨W.emptyDict,#[],_,e1,rfl,(fun e he=>Xl he (by simp)),fun _=>rfl⟩;have I1:=I.laid (a:=s.heap.objs.size) (o:=.own (s.heap.objs.size+1)) (h':=s.heap.push W.emptyDict) (t':=s.toks) (fun b u q=>Xi _ q) (Xs _) ⟨_,e1⟩;refine I1.laid (a:=s.heap.objs.size+1) (o:=.ins C s.heap.objs.size []) (t':=s.toks) (fun b u q=>Xi _ q) (Nat.le_of_eq (W8 _ _)) ?_;have ne:s.heap.objs.size≠s.heap.objs.size+1:=Xr (WA _);refine⟨by rw[Qs ne,QC],XN _,ne,e2,fun _=>none,(Heap.Ns1.of_empty e3).at fun o q=>Xi _ q,fun _=>True.intro,fun y hy=>Xl rfl hy⟩
def Ri {prog:Program}{w:World}{env:Env}{e:Expr}{f:Str}{pos:Pos}{s:Shared}{Q:Qb}(hb:attributeBase e f env (eval e env)=eval e env)
 (h:wpAny (model prog w) A (eval e env) (fun o b6=>wpAny (model prog w) A (getAttr o f true) Q E b6) E s):wpAny (model prog w) A (eval (.Attribute e f pos) env) Q E s :=
 Attribute_any_ h (by rw[arm_eval_Attribute,hb])
end
def ZL (K:W.Frag)(ta:TE)(f:Str):TE:=fun σ H Q=>ta σ H fun x H1=>∃a C dx fs v,x=.ref a/\H1 a=some (.ins C dx fs)/\Cls K C/\Vj K C f/\fs.lookup f=some v/\Q v H1
def PL (K:W.Frag)(ta tv:TE)(f:Str):TS:=fun D σ H=>tv σ H fun y H1=>ta σ H1 fun x H2=>∃a C dx fs,x=.ref a/\H2 a=some (.ins C dx fs)/\Cls K C/\Vj K C f/\fs.length<1000 /\
 D.nx σ (upd H2 a (.ins C dx (Vv f y fs)))
def K6 (X:Cx)(op:Operator)(rd:V->V->Hp->VK->Prop):Prop :=
 ∀(XaU:Qc) (s:Shared) (σ:St) (H:Hp) (x y:V) (u v:Value) (Q:VK),Qq X XaU σ H s->QH x u->QH y v->rd x y H Q->wpAny (model X.prog X.w) X.A (inplaceOp op u v) (EP X XaU σ Q) X.xe s
def R8 (K:W.Frag)(ta tv:TE)(rd:V->V->Hp->VK->Prop)(f:Str):TS:=fun D σ H=>ta σ H fun x H1=>∃a C dx fs v,x=.ref a/\H1 a=some (.ins C dx fs)/\Cls K C/\Vj K C f/\fs.lookup f=some v /\
 tv σ H1 fun y H2=>rd v y H2 fun z H3=>∃dx' fs',H3 a=some (.ins C dx' fs')/\fs'.length<1000/\D.nx σ (upd H3 a (.ins C dx' (Vv f z fs')))
section
variable {X:Cx}{o e value:Expr}{f:Str}{pos pos' tpos:Pos}{ta tv:TE}
def QZ (he:PE X e ta)(hb:attributeBase e f X.env (eval e X.env)=eval e X.env):PE X (.Attribute e f pos) (ZL X.K ta f):=by
 intro XaU s σ H Q I h;refine Ri hb (QA (he XaU s σ H _ I h) fun u s1 ⟨x,H1,I1,rx,a,C,dx,fs,v,ex,ea,c,n,l,q⟩=>?_);subst ex;obtain rfl:u=Value.ref a:=rx;exact Pl I1 ea c n l fun u' s2 I2 ru=>⟨v,H1,I2,ru,q⟩
def YZ (ha:PE X o ta)(hv:PE X value tv)(hs:swapsWith value (some (.Attribute o f pos')) pos.line X.env=pure false):PS X (.Assign [.Attribute o f pos'] value pos) (PL X.K ta tv f):=by
 intro XaU s σ H D I h;refine plainObj_wpAny_Assign_Attribute (QA (hv XaU s σ H _ I h) fun u s1 ⟨y,H1,I1,ry,q⟩=>QA (ha XaU s1 σ H1 _ I1 q) fun ov s2 ⟨x,H2,I2,rx,a,C,dx,fs,ex,ea,c,n,l,q2⟩=>?_) hs;subst ex;obtain rfl:ov=Value.ref a:=rx;exact Po I2 ea c n l ry fun s3 I3=>⟨σ,_,I3,q2⟩
def A0 {op:Operator}{rd:V->V->Hp->VK->Prop}(ha:PE X o ta)(hv:PE X value tv)(hop:K6 X op rd):PS X (.AugAssign (.Attribute o f tpos) op value pos) (R8 X.K ta tv rd f):=by
 intro XaU s σ H D I h;refine wpAny_AugAssign_AttributeAny (QA (ha XaU s σ H _ I h) fun ov s1 ⟨x,H1,I1,rx,a,C,dx,fs,v,ex,ea,c,n,l,q⟩=>?_);subst ex;obtain rfl:ov=Value.ref a:=rx;refine Pl I1 ea c n l fun u s2 I2 ru=>QA (hv XaU s2 σ H1 _ I2 q) fun w3 s3 ⟨y,H2,I3,ry,q3⟩=>QA (hop XaU s3 σ H2 v y u w3 _ I3 ru ry q3) fun w4 s4 ⟨z,H3,I4,rz,dx',fs',ea',l',q4⟩=>?_;exact Po I4 ea' c n l' rz fun s5 I5=>⟨σ,_,I5,q4⟩
def K8:V->V->Hp->VK->Prop:=fun x y H Q=>∃i j,x=.int i/\y=.int j/\Q (.int (i+j)) H
def Tc:K6 X .Add K8:=by
 rintro XaU s σ H x y u v Q I rx ry ⟨i,j,rfl,rfl,q⟩
 obtain⟨t,rfl⟩:=(show ∃t,u=Value.int i t from rx);obtain⟨t',rfl⟩:=(show ∃t',v=Value.int j t' from ry);exact PyProof.Rows.iadd_int ⟨.int (i+j),H,I.tok _,⟨_,rfl⟩,q⟩
end
section
variable {X:Cx}{XaU:Qc}{σ:St}{H:Hp}{s:Shared}{A:Around}{E:Qb}{Q:Qb}{c:Value}{b:Bool}
end
structure Room (k:Nat)(A:Around):Prop where
 hd:A.handled=none
 dp:A.depth+3*k+5<recursionLimit
 un:A.units+16*k+200<cLine
def Room.mono {j k:Nat}{A:Around}(r:Room k A)(h:j<=k):Room j A:=⟨r.hd,by have:=r.dp;omega,by have:=r.un;omega⟩
def Room.deeper {k:Nat}{A:Around}(r:Room (k+1) A)(env:Env):Room k (A.deeper env) :=
 ⟨r.hd,by have:=r.dp;show A.depth+1+3*k+5<_;omega,by have:=r.un;show A.units+3+16*k+200<_;omega⟩
def Ez {A:Around} {C:Addr} {us:Qe} {kw:List (Str×Value)}:(A.under (.builtin "type.__call__" ⟨.ref C::us,kw⟩)).depth=A.depth+1:=by
 first|rfl|simp[Around.under,Code.weight,Code.isCreation,Code.isGuard,Code.isCaller,Code.frames,Code.isFrame,guardIds]
def Em {A:Around} {C:Addr} {us:Qe} {kw:List (Str×Value)}:(A.under (.builtin "type.__call__" ⟨.ref C::us,kw⟩)).units=A.units+1:=by
 first|rfl|simp[Around.under,Code.cUnits,Code.frames,Code.isFrame]
def Room.make {k:Nat} {A:Around} (r:Room (k+1) A) (C:Addr) (us:Qe) (kw:List (Str×Value)):Room k (A.under (.builtin "type.__call__" ⟨.ref C::us,kw⟩)) :=
 ⟨r.hd,by have:=r.dp;rw[Ez];omega,by have:=r.un;rw[Em];omega⟩
def Room.depth {k:Nat}{A:Around}(r:Room k A):A.depth<recursionLimit:=by have:=r.dp;omega
def Room.units {k:Nat}{A:Around}(r:Room k A):A.units+64<cLine:=by have:=r.un;omega
def QP:TA:=fun _ H Q=>Q [] H
def QE (ta:TE)(tr:TA):TA:=fun σ H Q=>ta σ H fun x H1=>tr σ H1 fun xs H2=>Q (x::xs) H2
section
variable {X:Cx}{e:Expr}{es:Qi}{te:TE}{t:TA}{pos:Pos}
def Qr:PA X [] QP:=fun _ _ _ _ H Q I h=>Calls.spliced_nil ⟨[],H,I,.nil,h⟩
def Qo (ha:PE X e te)(hr:PA X es t)(hs:starEach (e::es) X.env=(false,eval e X.env)::starEach es X.env:=by rfl):PA X (e::es) (QE te t):=by
 intro pos XaU s σ H Q I h;rw[hs];show wpAny _ _ (spliced ((false,eval e X.env)::backTo pos (starEach es X.env))) _ _ s;refine Calls.spliced_cons (QA (ha XaU s σ H _ I h) fun u s1 ⟨x,H1,I1,r1,q1⟩=>?_);exact QA (hr pos XaU s1 σ H1 _ I1 q1) fun us s2 ⟨xs,H2,I2,r2,q2⟩=>⟨x::xs,H2,I2,.cons r1 r2,q2⟩
def Jj (t:TA):TE:=fun σ H Q=>t σ H fun xs H1=>xs.length<=sizeLine/\∀p,H1 p=none->Q (.ref p) (upd H1 p (.tup xs))
def WG (t:TA):TE:=fun σ H Q=>t σ H fun xs H1=>xs.length<=sizeLine/\∀p,H1 p=none->Q (.ref p) (upd H1 p (.lst xs))
def Yy {x1}(h:PA X es t):PE X (.Tuple es x1 pos) (Jj t):=by
 intro XaU s σ H Q I hq;refine wpAny_Tuple_spliced (QA (h pos XaU s σ H _ I hq) fun us s1 ⟨xs,H1,I1,r,z,q⟩=>⟨by rw[<- r.length];exact z,?_⟩);have hf:H1 s1.heap.objs.size=none:=I1.hok.fresh (Xs _);refine⟨.ref s1.heap.objs.size,upd H1 s1.heap.objs.size (.tup xs),I1.laid (t':=s1.toks) (fun b u e=>Xi _ e) (Xs _) ?_,rfl,q _ hf⟩
 exact⟨z,us,r,⟨_,XD _ rfl,rfl,_,rfl⟩⟩
def Z4 (h:PA X es t):PE X (.List es pos) (WG t):=by
 intro XaU s σ H Q I hq;refine wpAny_List_spliced (QA (h pos XaU s σ H _ I hq) fun us s1 ⟨xs,H1,I1,r,z,q⟩=>⟨by rw[<- r.length];exact z,?_⟩);have hf:H1 s1.heap.objs.size=none:=I1.hok.fresh (Xs _);refine⟨.ref s1.heap.objs.size,upd H1 s1.heap.objs.size (.lst xs),I1.laid (t':=s1.toks) (fun b u e=>Xi _ e) (Xs _) ?_,rfl,q _ hf⟩
 exact⟨z,us,0,r,XD _ rfl⟩
end
abbrev Sp:=List V->Hp->VK->XK->Prop
abbrev CXT:=List Env->Hp->Shared->XK->Qb
structure Env0 (P:Program)(w:World)(K:W.Frag)(mg:Str->Qf)(base:Heap)(A:Around)(outer:List Env)(s:Shared)(H:Hp):Prop where
 frames:A.frames=some outer
 mod:Mod K mg base
 bs:∀b o,base.get? b=some o->s.heap.get? b=some o/\(H b=none\/∃xs,H b=some (.tup xs))
 bsz:base.objs.size<=s.heap.objs.size
 funs:s.heap.FunFrames base outer
 frf:∀b∈frs outer,H b=none
 hok:HOk P w H s.heap
 bare:AllBare s.gens
def CE (outer:List Env)(P:Program)(w:World)(H:Hp)(s:Shared)(Q:VK)(u:Value)(s':Shared):Prop :=
 ∃v H',s'.os=s.os/\AllBare s'.gens/\Un (frs outer) [] H H' s.heap s'.heap/\HOk P w H' s'.heap/\QH v u/\Q v H'
def CR (CX:CXT)(outer:List Env)(P:Program)(w:World)(H:Hp)(s:Shared)(Q:VK)(E:XK)(r:Result)(s':Shared):Prop :=
 match r with
 |.ok (.ret u)=>CE outer P w H s Q u s'
 |.ok _=>False
 |.error e=>CX outer H s E e s'
structure FnOk (P:Program)(w:World)(K:W.Frag)(mg:Str->Qf)(base:Heap)(CX:CXT)(k:Nat)(f:Addr)(fd:FuncData)(ps:Qh)(sp:Sp):Prop where
 len:∀vs H Q E,sp vs H Q E->vs.length=ps.length
 run:∀(A:Around) (outer:List Env) (s:Shared) (H:Hp) (args:Args) (us:Qe) (vs:List V) (Q:VK) (E:XK),Room k A->Env0 P w K mg base A outer s H->BindsTo s fd args (ps.zip us)->QV vs us->sp vs H Q E ->
  codeAny (model P w) A (.call (.ref f) args) (CR CX outer P w H s Q E) s
def Env0.make {P:Program}{w:World}{K:W.Frag}{mg:Str->Qf}{base:Heap}{A:Around}{outer:List Env}{s:Shared}{H:Hp}(e:Env0 P w K mg base A outer s H)(C:Addr)(us:Qe)(kw:List (Str×Value)) :
 Env0 P w K mg base (A.under (.builtin "type.__call__" ⟨.ref C::us,kw⟩)) outer s H:=⟨by first|exact e.frames|(simpa [Around.under,Code.envs,Code.isFrame,pushEnvs] using e.frames),e.mod,e.bs,e.bsz,e.funs,e.frf,e.hok,e.bare⟩
section
variable {X:Cx}{XaU:Qc}{σ:St}{H:Hp}{s s':Shared}
def Qq.env0 (I:Qq X XaU σ H s):Env0 X.prog X.w X.K X.mg X.base X.A X.stack s H :=
 ⟨I.ok.frames,I.ok.mod,I.bs,X8 I.ok.bsz I.sz,I.stack,I.stkFree,I.hok,I.bare⟩
def Qq.after {Q:VK}{u:Value}(I:Qq X XaU σ H s)(h:CE X.stack X.prog X.w H s Q u s'):EP X XaU σ Q u s':=by
 obtain⟨v,H',os,bare,un,hok,r,q⟩:=h;obtain⟨hh,g,d,t,os'⟩:=s';obtain rfl:os'=s.os:=os
 exact⟨v,H',I.call (h':=hh) (g':=g) (d':=d) (t':=t) (ch:=[]) un hok bare (fun b z=>Xl z (by simp)),r,q⟩
end
def VA (sp:Sp)(dvs:List V)(E:XK)(t:TA):TE:=fun σ H Q=>t σ H fun vs H1=>sp (vs++dvs) H1 Q E
def ZY (C:Addr)(m:Str)(sp:Sp)(dvs:List V)(E:XK)(ta:TE)(t:TA):TE:=fun σ H Q=>ta σ H fun x H1=>∃a dx fs,x=.ref a/\H1 a=some (.ins C dx fs)/\fs.lookup m=none /\
 t σ H1 fun vs H2=>sp (x::(vs++dvs)) H2 Q E
def JN (C:Addr)(sp:Sp)(dvs:List V)(E:XK)(t:TA):TE:=fun σ H Q=>t σ H fun vs H1=>∀x dx,H1 x=none->H1 dx=none->dx≠x ->
 sp (.ref x::(vs++dvs)) (upd (upd H1 dx (.own x)) x (.ins C dx [])) (fun v H2=>v=.non/\Q (.ref x) H2) E
def Ve (K:W.Frag)(fd:FuncData)(ps:Qh)(ds:Qe):Prop :=
 ∀(s:Shared) (us:Qe),K.In s.heap->(us++ds).length=ps.length->BindsTo s fd ⟨us,[]⟩ (ps.zip (us++ds))
def Ve.all {K:W.Frag}{fd:FuncData}{ps:Qh}(h:∀us:Qe,us.length=ps.length->bindArgs fd ⟨us,[]⟩=pure (ps.zip us)):Ve K fd ps []:=fun s us _ hl=>by
 rw[Xz]at hl ⊢;exact .of_eq (h us hl)
def VP (CX:CXT)(X:Cx)(E:XK):Prop := ∀(XaU:Qc) (σ:St) (H:Hp) (s:Shared) (e:Value) (s':Shared),Qq X XaU σ H s->CX X.stack H s E e s'->X.xe e s'
section
variable {X:Cx}{CX:CXT}{k:Nat}{f C:Addr}{fd:FuncData}{ps:Qh}{sp:Sp}{dvs:List V}{ds:Qe}{E:XK}{x m:Str}{p pos apos:Pos}{e o:Expr}{es:Qi}{ta:TE}{t:TA}
def MP {XaU:Qc}{σ:St}{H:Hp}{s:Shared}{Q:VK}{us:Qe}{vs:List V}(F:FnOk X.prog X.w X.K X.mg X.base CX k f fd ps sp)(hr:Room k X.A)(hb:Ve X.K fd ps ds)(hd:QV dvs ds)(hx:VP CX X E)
 (I:Qq X XaU σ H s) (r:QV vs us) (h:sp (vs++dvs) H Q E):wpAny (model X.prog X.w) X.A (call (.ref f) us) (EP X XaU σ Q) X.xe s:=by
 have r2:QV (vs++dvs) (us++ds):=r.append hd;have hl:(us++ds).length=ps.length:=by rw[<- r2.length];exact F.len _ _ _ _ h
 refine wpAny_call (codeAny_mono (F.run X.A X.stack s H ⟨us,[]⟩ (us++ds) (vs++dvs) Q E hr I.env0 (hb s us I.kIn hl) r2 h) fun r s' hq=>?_)
 cases r with
 |error e=>exact hx XaU σ H s e s' I hq
 |ok fl =>
   cases fl with
   |ret u=>exact I.after hq
   |next=>exact False.elim hq
   |brk=>exact False.elim hq
   |cont=>exact False.elim hq
def Ry (F:FnOk X.prog X.w X.K X.mg X.base CX k f fd ps sp)(hr:Room k X.A)(hg:Gl X x)(hm:X.mg x=some (.ref f))(hk:W.keepIn X.K (.ref f)=true)(hb:Ve X.K fd ps ds)(hd:QV dvs ds)(hx:VP CX X E)
 (ha:PA X (e::es) t) (hdb:(x==("__debug__" : Str))=false:=by decide) (he:starEach (e::es) X.env=(false,eval e X.env)::starEach es X.env:=by rfl) (hpl:(backTo pos (starEach es X.env)).any (·.1)=false:=by rfl) :
 PE X (.Call (.Name x p) (e::es) [] pos) (VA sp dvs E t):=by
 intro XaU s σ H Q I h;refine wpAny_Call_Name_kw (J1 I hg hm ?_ hdb);refine W.callWith_K (h₀:=X.base) I.ok.mod.kin hk (QA (ha pos XaU s σ H _ I h) fun us s1 ⟨vs,H1,I1,r,q⟩=>⟨I1.kIn,?_⟩) he hpl;exact MP F hr hb hd hx I1 r q
def DB {pl:Sem Bool}(he:PE X o ta)(c:Cls X.K C)(hm:Meth X.K C m f)(F:FnOk X.prog X.w X.K X.mg X.base CX k f fd ps sp)(hr:Room k X.A)(hb:Ve X.K fd ps ds)(hd:QV dvs ds)(hx:VP CX X E)(ha:PA X (e::es) t)
 (hst:starEach (e::es) X.env=(false,eval e X.env)::starEach es X.env:=by rfl) (hpl:(backTo pos (starEach es X.env)).any (·.1)=false:=by rfl)
 (ht:eval (.Call (.Attribute o m apos) (e::es) [] pos) X.env=(do
  let ov <- eval o X.env
  standAt apos.atName
  let (f,first) <- holding [ov] (getMethod ov m pl)
  callWith pos f first (backTo pos (starEach (e::es) X.env)) (backToKw pos (keywordEach [] X.env))):=by rfl) :
 PE X (.Call (.Attribute o m apos) (e::es) [] pos) (ZY C m sp dvs E ta t):=by
 intro XaU s σ H Q I h;refine W.methodCall_KW (pl:=pl) (QA (he XaU s σ H _ I h) fun u s1 ⟨x,H1,I1,rx,a,dx,fs,ex,ea,l,q⟩=>?_) ht;subst ex;obtain rfl:u=Value.ref a:=rx;refine Pc I1 ea c hm l ?_;refine W.callWith_K (first:=[.ref a]) (h₀:=X.base) I.ok.mod.kin hm.kp (QA (ha pos XaU s1 σ H1 _ I1 q) fun us s2 ⟨vs,H2,I2,r,q2⟩=>⟨I2.kIn,?_⟩) hst hpl;exact MP (us:=.ref a::us) (vs:=.ref a::vs) F hr hb hd hx I2 (.cons rfl r) q2
def Cg {pl:Sem Bool}(he:PE X o ta)(c:Cls X.K C)(hm:Meth X.K C m f)(F:FnOk X.prog X.w X.K X.mg X.base CX k f fd ps sp)(hr:Room k X.A)(hb:Ve X.K fd ps ds)(hd:QV dvs ds)(hx:VP CX X E)
 (ht:eval (.Call (.Attribute o m apos) [] [] pos) X.env=(do
  let ov <- eval o X.env
  standAt apos.atName
  let (f,first) <- holding [ov] (getMethod ov m pl)
  callWith pos f first (backTo pos (starEach [] X.env)) (backToKw pos (keywordEach [] X.env))):=by rfl) :
 PE X (.Call (.Attribute o m apos) [] [] pos) (ZY C m sp dvs E ta QP):=by
 intro XaU s σ H Q I h;refine W.methodCall_KW (pl:=pl) (QA (he XaU s σ H _ I h) fun u s1 ⟨x,H1,I1,rx,a,dx,fs,ex,ea,l,q⟩=>?_) ht;subst ex;obtain rfl:u=Value.ref a:=rx;refine Pc I1 ea c hm l ?_;exact W.callWith_K0 (first:=[.ref a]) I1.kIn hm.kp (MP (us:=[.ref a]) (vs:=[.ref a]) F hr hb hd hx I1 (.cons rfl .nil) q)
structure Mk (K:W.Frag)(C f:Addr):Prop where
 makes:W.makesIn K C=true
 init:W.findIn K (.ref C) "__init__"=some (some (.ref f))
 fn:W.isFn K (.ref f)=true
 kp:W.keepIn K (.ref C)=true
def Si {XaU:Qc}{σ:St}{H:Hp}{s:Shared}{Q:VK}{us:Qe}{vs:List V}(M:Mk X.K C f)(F:FnOk X.prog X.w X.K X.mg X.base CX k f fd ps sp)(hr:Room (k+1) X.A)(hb:Ve X.K fd ps ds)(hd:QV dvs ds)
 (hx:VP CX X E) (I:Qq X XaU σ H s) (r:QV vs us)
 (h:∀x dx,H x=none->H dx=none->dx≠x->sp (.ref x::(vs++dvs)) (upd (upd H dx (.own x)) x (.ins C dx [])) (fun v H2=>v=.non/\Q (.ref x) H2) E) :
 wpAny (model X.prog X.w) X.A (call (.ref C) us) (EP X XaU σ Q) X.xe s:=by
 have hq:=h (s.heap.objs.size+1) s.heap.objs.size (I.hok.fresh (Nat.le_succ _)) (I.hok.fresh (Xs _)) (Xr (WA _));have I2:=Qq.made (C:=C) I;have r2:QV (V.ref (s.heap.objs.size+1)::(vs++dvs)) (Value.ref (s.heap.objs.size+1)::(us++ds)):=.cons rfl (r.append hd)
 have hl:(Value.ref (s.heap.objs.size+1)::us++ds).length=ps.length:=by
  have e:=r2.length;rw[F.len _ _ _ _ hq]at e;exact e.symm
 refine wpAny_call (Cf (f:=f) I.kIn M.makes M.init (beq_iff_eq.mp M.fn) (codeAny_mono (F.run _ X.stack _ _ ⟨Value.ref (s.heap.objs.size+1)::us,[]⟩ (Value.ref (s.heap.objs.size+1)::(us++ds)) _ _ E (hr.make C us [])
  (I2.env0.make C us []) (hb _ (Value.ref (s.heap.objs.size+1)::us) I2.kIn hl) r2 hq) fun r s' hq'=>?_))
 cases r with
 |error e=>exact hx XaU σ _ _ e s' I2 hq'
 |ok fl =>
   cases fl with
   |ret u =>
     obtain⟨v,H',I3,rv,ev,q3⟩:=I2.after hq';subst ev;exact⟨rv,⟨V.ref (s.heap.objs.size+1),H',I3,rfl,q3⟩⟩
   |next=>exact False.elim hq'
   |brk=>exact False.elim hq'
   |cont=>exact False.elim hq'
def LD (M:Mk X.K C f)(F:FnOk X.prog X.w X.K X.mg X.base CX k f fd ps sp)(hr:Room (k+1) X.A)(hg:Gl X x)(hm:X.mg x=some (.ref C))(hb:Ve X.K fd ps ds)(hd:QV dvs ds)(hx:VP CX X E)
 (ha:PA X (e::es) t) (hdb:(x==("__debug__" : Str))=false:=by decide) (he:starEach (e::es) X.env=(false,eval e X.env)::starEach es X.env:=by rfl) (hpl:(backTo pos (starEach es X.env)).any (·.1)=false:=by rfl) :
 PE X (.Call (.Name x p) (e::es) [] pos) (JN C sp dvs E t):=by
 intro XaU s σ H Q I h;refine wpAny_Call_Name_kw (J1 I hg hm ?_ hdb);refine W.callWith_K (h₀:=X.base) I.ok.mod.kin M.kp (QA (ha pos XaU s σ H _ I h) fun us s1 ⟨vs,H1,I1,r,q⟩=>⟨I1.kIn,?_⟩) he hpl;exact Si M F hr hb hd hx I1 r q
def C3 (M:Mk X.K C f)(F:FnOk X.prog X.w X.K X.mg X.base CX k f fd ps sp)(hr:Room (k+1) X.A)(hg:Gl X x)(hm:X.mg x=some (.ref C))(hb:Ve X.K fd ps ds)(hd:QV dvs ds)(hx:VP CX X E)
 (hdb:(x==("__debug__" : Str))=false:=by decide):PE X (.Call (.Name x p) [] [] pos) (JN C sp dvs E QP):=by
 intro XaU s σ H Q I h;refine wpAny_Call_Name_kw (J1 I hg hm ?_ hdb);exact W.callWith_K0 I.kIn M.kp (Si (us:=[]) M F hr hb hd hx I .nil h)
end
section
variable {X:Cx}{CX:CXT}{k:Nat}{f C:Addr}{fd:FuncData}{ps ks:Qh}{sp:Sp}{E:XK}{x m:Str}{p pos apos kpos:Pos}{e o:Expr}{es:Qi}{kws:List Keyword}{te ta:TE}{t tk:TA}{nm:Option Str}
variable {g:Qe->Qe->Qe}{gV:List V->List V->List V}
end
structure Qp (N P:Qh)(sc:Scope):Prop where
 kind:sc.kind=.function
 co:sc.isCoroutine=false
 gen:sc.isGenerator=false
 nd:N.Nodup
 pre:N.take P.length=P
 par:∀x∈P,sc.names.lookup x=some .local\/sc.names.lookup x=some .cell
 nofree:∀y∈sc.names,y.2≠.free
theorem ST {kindOf:Str->Option NameKind}{x:Str}:∀{binds:List (Str×Value)} {m:Str->Qf},(∀v,(x,v)∉binds)->bindL kindOf binds m x=m x
 |[],_,_=>rfl
 |(n,v)::r,m,h=>by
   unfold bindL;rw[ST fun w hw=>h w (Xf _ hw)]
   split
   ·have:x≠n:=by rintro rfl;exact h v Xa
    simp[this]
   ·rfl
theorem SX {kindOf:Str->Option NameKind}{x:Str}:∀{binds:List (Str×Value)} {m:Str->Qf},(∀v,(x,v)∉binds)->bindC kindOf binds m x=m x
 |[],_,_=>rfl
 |(n,v)::r,m,h=>by
   unfold bindC;rw[SX fun w hw=>h w (Xf _ hw)]
   split
   ·rfl
   ·have:x≠n:=by rintro rfl;exact h v Xa
    simp[this]
theorem Sz {kindOf:Str->Option NameKind}{x:Str}{v:Value}:∀{P:Qh} {vs:Qe} {i:Nat} {m:Str->Qf},P.Nodup->P[i]?=some x->vs[i]?=some v->kindOf x=some .local ->
 bindL kindOf (P.zip vs) m x=some v
 |[],_,_,_,_,h,_,_=>by simp at h
 |_::_,[],_,_,_,_,h,_=>by simp at h
 |p::P,w::vs,0,m,nd,h1,h2,hk=>by
   simp at h1 h2;subst h1;subst h2
   show bindL kindOf ((p,w)::P.zip vs) m p=_;unfold bindL;rw[ST fun v hv=>(XF.mp nd).1 (List.of_mem_zip hv).1,Xd hk]
   simp
 |p::P,w::vs,i+1,m,nd,h1,h2,hk=>by
   show bindL kindOf ((p,w)::P.zip vs) m x=_;unfold bindL;exact Sz (i:=i) (XF.mp nd).2 (by simpa using h1) (by simpa using h2) hk
theorem Ss {kindOf:Str->Option NameKind}{x:Str}{v:Value}:∀{P:Qh} {vs:Qe} {i:Nat} {m:Str->Qf},P.Nodup->P[i]?=some x->vs[i]?=some v->kindOf x≠some .local ->
 bindC kindOf (P.zip vs) m x=some v
 |[],_,_,_,_,h,_,_=>by simp at h
 |_::_,[],_,_,_,_,h,_=>by simp at h
 |p::P,w::vs,0,m,nd,h1,h2,hk=>by
   simp at h1 h2;subst h1;subst h2
   show bindC kindOf ((p,w)::P.zip vs) m p=_;unfold bindC;rw[SX fun v hv=>(XF.mp nd).1 (List.of_mem_zip hv).1,Xb hk]
   simp
 |p::P,w::vs,i+1,m,nd,h1,h2,hk=>by
   show bindC kindOf ((p,w)::P.zip vs) m x=_;unfold bindC;exact Ss (i:=i) (XF.mp nd).2 (by simpa using h1) (by simpa using h2) hk
def start (N:Qh)(vs:List V):St:=vs.map some++List.replicate (N.length-vs.length) none
def Vd (CX:CXT)(P:Program)(w:World)(K:W.Frag)(mg:Str->Qf)(base:Heap)(N:Qh)(qual:Str)(scope:Scope)(f:Addr)(cd:Value)(A:Around)(outer:List Env)(s:Shared)(H:Hp)(E:XK):Cx where
 prog:=P
 w:=w
 K:=K
 mg:=mg
 base:=base
 A:=A.deeper (envOfC qual scope s.heap.objs.size f cd)
 N:=N
 s₀:=s
 H₀:=H
 env:=envOfC qual scope s.heap.objs.size f cd
 outer:=outer
 stack:=envOfC qual scope s.heap.objs.size f cd::outer
 ex:=[]
 calm:=true
 fn:=fun _=>true
 pn:=[]
 xe:=fun e s'=>wpAny (model P w) (A.deeper (envOfC qual scope s.heap.objs.size f cd)) (leaving (envOfC qual scope s.heap.objs.size f cd) e) (fun _ s''=>CX outer H s E e s'') (fun e' s''=>CX outer H s E e' s'') s'
def RY {sc:Scope}{n:Nat}{x:Str}(h:sc.names.lookup x=some .cell):∃c,(cellsFrom n sc.names []).lookup x=some c:=by
 have q:=W.cellsFrom_some sc.names n [] (.inl h);exact Option.isSome_iff_exists.mp q
def AX {CX:CXT}{P:Program}{w:World}{K:W.Frag}{mg:Str->Qf}{base:Heap}{N ps:Qh}{qual:Str}{scope:Scope}{f:Addr}{cd:Value}{A:Around}{outer:List Env}{s s1:Shared}{H:Hp}{E:XK}{us:Qe}{vs:List V}
 (S:Qp N ps scope) (hd:A.handled=none) (e0:Env0 P w K mg base A outer s H) (hl:vs.length=ps.length) (r:QV vs us)
 (x:InCallC s s.heap.objs.size (bindL (envOfC qual scope s.heap.objs.size f cd).kindOf (ps.zip us) fun _=>none) (cellsFrom (s.heap.objs.size+1) scope.names []) (bindC (envOfC qual scope s.heap.objs.size f cd).kindOf (ps.zip us) fun _=>none) s1) :
 Qq (Vd CX P w K mg base N qual scope f cd A outer s H E) [] (start N vs) H s1:=by
 have hpl:ps.length<=N.length:=by have:=X0 List.length S.pre;rw[List.length_take]at this;omega
 obtain⟨h1,tk,rfl,hk⟩:=x.done;have noA:∀b:Addr,b∉(Vd CX P w K mg base N qual scope f cd A outer s H E).ex:=fun b z=>Xl (show b∈([]:Qg) from z) (by simp)
 refine⟨⟨e0.mod,S.kind,rfl,rfl,Xs _,fun y z c h1 h2=>?_,fun y hy=>?_,fun y c _ h=>?_,fun _=>hd,Around.frames_deeper e0.frames,.inr ⟨rfl,rfl⟩,fun b z=>Xl z (noA b),e0.bs,e0.bsz,fun b _ _=>noA b,fun b z=>Xl z (noA b),e0.funs,e0.frf⟩,
  rfl,e0.bare,Un.kept hk,⟨_,x.toInCall.ns,fun i y v h1 h2 h3=>?_⟩,fun y c h=>⟨_,x.cell y c h⟩,e0.hok.fresh (Xs _),fun y c h=>?_,fun p hp=>Xl (show p∈([]:Qc) from hp) (by simp),e0.hok.kept hk,?_⟩
 ·exact name_of_addr x.apart (PySem.mem_of_lookup h1) (PySem.mem_of_lookup h2)
 ·have hy:scope.names.lookup y=some .cell\/scope.names.lookup y=some .free:=hy
  rcases hy with hy|hy
  ·exact RY hy
  ·exact Xl rfl (S.nofree _ (PySem.mem_of_lookup hy))
 ·exact Yr (x.above y c (PySem.mem_of_lookup h))
 ·have hi:i<vs.length:=by
   unfold start at h2;by_cases hi:i<vs.length
   ·exact hi
   ·rw[XY (by simpa using hi)]at h2
    rw[Me]at h2;split at h2<;>cases h2
  have ha:vs[i]?=some v:=by
   unfold start at h2;rw[XH (by simpa using hi),Xt]at h2;cases e:vs[i]? with
   |none=>rw[e]at h2;cases h2
   |some a=>rw[e]at h2;cases h2;rfl
  obtain⟨u,hu,rv⟩:=r.get ha
  have hp:ps[i]?=some y:=by
   rw[<- S.pre,List.getElem?_take_of_lt (by omega)];exact h1
  have ndP:ps.Nodup:=by rw[<- S.pre];exact S.nd.sublist (List.take_sublist _ _)
  refine⟨u,rv,?_⟩
  rcases S.par y (List.mem_of_getElem? hp) with k|k
  ·exact .inl ⟨k,Sz ndP hp hu k⟩
  ·obtain⟨c,e⟩:=RY (n:=s.heap.objs.size+1) k
   refine .inr ⟨.inl k,c,e,?_⟩;have q:=x.cell y c e;rw[Ss ndP hp hu (by show scope.names.lookup y≠_;rw[k];decide)]at q;exact q
 ·exact e0.hok.fresh (Yr (x.above y c (PySem.mem_of_lookup h)))
 ·unfold start
  show _=N.length;rw[Xo,Xm,List.length_replicate];omega
def Nt {CX:CXT}{P:Program}{w:World}{K:W.Frag}{mg:Str->Qf}{base:Heap}{k:Nat}{f:Addr}{name qual:Str}{params:Arguments}{body:List Stmt}{scope:Scope}{dV kV doc pm cdv ct oc:Value}{an od:Qj}
 {osl:Array (Qf)} {N ps:Qh} {sp:Sp} (lk:K.lookup f=some ⟨oc,od,.func (W.fnOf name qual params body scope dV kV doc pm an cdv ct),osl⟩) (hcd:W.codeIn K cdv qual=true) (S:Qp N ps scope)
 (len:∀vs H Q E,sp vs H Q E->vs.length=ps.length)
 (XaV:∀(A:Around) (outer:List Env) (s:Shared) (H:Hp) (vs:List V) (Q:VK) (E:XK),Room k (A.deeper (envOfC qual scope s.heap.objs.size f cdv))->sp vs H Q E ->
  ∃t,PSs (Vd CX P w K mg base N qual scope f cdv A outer s H E) body t/\t { nx:=fun _ H'=>Q .non H',rt:=Q } (start N vs) H) :
 FnOk P w K mg base CX (k+1) f (W.fnOf name qual params body scope dV kV doc pm an cdv ct) ps sp:=by
 refine⟨len,fun A outer s H args us vs Q E hr e0 hb r hsp=>?_⟩;have hl:=len _ _ _ _ hsp;have KX:K.In s.heap:=e0.mod.kin.keeps fun b o e=>(e0.bs b o e).1;have lim:s.heap.NoLimit:=e0.mod.nolimit.keeps fun b o e=>(e0.bs b o e).1
 have hkind:∀y∈ps.zip us,scope.names.lookup y.1=some .local\/(scope.names.lookup y.1=some .cell/\((cellsFrom (s.heap.objs.size+1) scope.names []).lookup y.1).isSome=true):=fun⟨n,v⟩ hy=>by
  rcases S.par n (List.of_mem_zip hy).1 with q|q
  ·exact .inl q
  ·exact .inr ⟨q,W.cellsFrom_some _ _ _ (.inl q)⟩
 refine codeAny_call_function hr.depth (KX _ _ lk) rfl S.co S.gen rfl (W.codeRec_of KX hcd) (hb _ _ _ _ ?_);refine wpAny_newFunctionEnv_cells S.kind hkind fun env he s1 x=>?_;subst he;refine⟨lim.keeps x.toInCall.keep,codeAny_func ?_⟩;obtain⟨t,ht,hq⟩:=XaV A outer s H vs Q E (hr.deeper _) hsp;have I:Qq (Vd CX P w K mg base N qual scope f cdv A outer s H E) [] (start N vs) H s1:=AX S hr.hd e0 hl r x;refine wpAny_mono (ht [] s1 (start N vs) H _ I hq) (fun fl s' hs=>?_) fun e s' hs=>hs
 have fin:∀{σ':St} {H':Hp} {v:V} {u:Value},Qq (Vd CX P w K mg base N qual scope f cdv A outer s H E) [] σ' H' s'->QH v u->Q v H'->CE outer P w H s Q u s' :=
  fun{σ' H' v u} J rv q=>⟨v,H',J.os,J.bare,J.base,J.hok,rv,q⟩
 cases fl with
 |ret u =>
   obtain⟨v,σ',H',J,rv,q⟩:=hs;exact fin J rv q
 |next =>
   obtain⟨σ',H',J,q⟩:=hs;exact fin (v:=V.non) (u:=Value.none) J rfl q
 |brk =>
   obtain⟨_,_,_,q⟩:=hs;exact False.elim q
 |cont =>
   obtain⟨_,_,_,q⟩:=hs;exact False.elim q
section
variable {X:Cx}{x:Str}{p pos:Pos}{e:Expr}{es:Qi}{t:TA}{id T:String}{r:List V->Hp->VK->Prop}
def tCB (r:List V->Hp->VK->Prop)(t:TA):TE:=fun σ H Q=>t σ H fun vs H1=>r vs H1 Q
def Zz (hc:Zy X (.builtin id) r) (hg:Gl X x) (hm:X.mg x=none) (hv:bootBuiltins x=some (.builtin id)) (ha:PA X (e::es) t) (hn:x ≠ "__name__" := by decide) (hdb:(x==("__debug__" : Str))=false:=by decide)
 (he:starEach (e::es) X.env=(false,eval e X.env)::starEach es X.env:=by rfl) (hpl:(backTo pos (starEach es X.env)).any (·.1)=false:=by rfl):PE X (.Call (.Name x p) (e::es) [] pos) (tCB r t):=by
 intro XaU s σ H Q I h;refine wpAny_Call_Name_kw (WN I hg hm hv ?_ hn hdb);exact PyProof.Rows.callWith_builtin1 (QA (ha pos XaU s σ H _ I h) fun us s1 ⟨vs,H1,I1,r1,q1⟩=>hc XaU s1 σ H1 vs us Q I1 r1 q1) he hpl
def J7 (hc:Zy X (.type T) r) (hg:Gl X x) (hm:X.mg x=none) (hv:bootBuiltins x=some (.type T)) (ha:PA X (e::es) t) (hn:x ≠ "__name__" := by decide) (hdb:(x==("__debug__" : Str))=false:=by decide)
 (he:starEach (e::es) X.env=(false,eval e X.env)::starEach es X.env:=by rfl) (hpl:(backTo pos (starEach es X.env)).any (·.1)=false:=by rfl):PE X (.Call (.Name x p) (e::es) [] pos) (tCB r t):=by
 intro XaU s σ H Q I h;refine wpAny_Call_Name_kw (WN I hg hm hv ?_ hn hdb);exact PyProof.Rows.callWith_type1 (QA (ha pos XaU s σ H _ I h) fun us s1 ⟨vs,H1,I1,r1,q1⟩=>hc XaU s1 σ H1 vs us Q I1 r1 q1) he hpl
end
end L2
namespace HT
open PySem PyProof.Rows
section
open PySem.SeqAt
open PySem.AutoSeq1 (wpAny_loadPart')
open PySem.MeetsSeq PySem.MeetsSeq2 PySem.MeetsSeq3
end
section
variable {prog:Program}{w:World}{A:Around}{E:Qb}{s:Shared}
def sIx (n d:Nat):Option Int->Nat
 |none=>d
 |some v=>if v<0 then (v+(n:Int)).toNat else min v.toNat n
end
end HT
namespace L2
open PySem PySem.Spec PyProof.Rows
def BH {ns:Ql}:∀{us:Qe},QV (ns.map V.int) us->IntsAre us ns:=by
 induction ns with
 |nil=>intro us r;rw[UG]at r;cases r;exact .nil
 |cons n ns ih =>
   intro us r;rw[Xu]at r;cases r with
   |cons r1 r2 =>
     obtain⟨t,e⟩:=r1;subst e;exact .cons n t (ih r2)
section
variable {X:Cx}{e:Expr}{te:TE}{lo hi:Option Expr}{tl th:TO}{pos p2:Pos}
end
def ixN (n:Nat)(i:Int):Option Nat:=if 0<=i then (if i<n then some i.toNat else none) else if -(n:Int)<=i then some (i+n).toNat else none
def atI {α:Type}(xs:List α)(i:Int):Option α:=(ixN xs.length i).bind fun j=>xs[j]?
def Ra {n:Nat}{i:Int}{j:Nat}(h:ixN n i=some j):seqIndex? i n=some j/\j<n /\ -(n:Int)<=i/\i<n:=by
 unfold ixN at h;by_cases h0:0<=i
 ·rw[Xd h0]at h
  by_cases h1:i<n
  ·rw[Xd h1]at h
   have e:i.toNat=j:=Option.some.inj h
   exact⟨by rw[seqIndex_of h0 h1,e],by omega,by omega,h1⟩
  ·rw[Xb h1]at h;cases h
 ·rw[Xb h0]at h
  by_cases h1 : -(n:Int)<=i
  ·rw[Xd h1]at h
   have e:(i+n).toNat=j:=Option.some.inj h
   exact⟨by rw[seqIndex_neg (by omega) h1,e],by omega,h1,by omega⟩
  ·rw[Xb h1]at h;cases h
def Dx {α:Type}{xs:List α}{i:Int}{v:α}(h:atI xs i=some v):∃j,seqIndex? i xs.length=some j/\xs[j]?=some v/\j<xs.length /\ -(xs.length:Int)<=i/\i<xs.length:=by
 unfold atI at h;cases e:ixN xs.length i with
 |none=>rw[e]at h;cases h
 |some j =>
   rw[e]at h;obtain⟨h1,h2,h3,h4⟩:=Ra e
   exact⟨j,h1,h,h2,h3,h4⟩
def Yn {α:Type}{xs:List α}{j:Nat}{v:α}(h:xs[j]?=some v):atI xs (j:Int)=some v:=by
 have hj:j<xs.length:=(Xg.mp h).1
 have e:ixN xs.length (j:Int)=some j:=by
  unfold ixN;rw[Xd (by omega),Xd (by omega)];simp
 unfold atI;rw[e];exact h
def Fd (b:Expr):Prop := ∀o i,subscripted b false o i=operate [o,i] (getItem o i)
def IxR (X:Cx)(r:R2):Prop :=
 ∀(value slice:Expr) (XaU:Qc) (s:Shared) (σ:St) (H:Hp) (x y:V) (v u:Value) (Q:VK),Qq X XaU σ H s->QH x v->QH y u->r x y H Q ->
  subscripted slice false v u=operate [v,u] (getItem v u)->wpAny (model X.prog X.w) X.A (subscriptTail value slice v u) (EP X XaU σ Q) X.xe s
def MtR (X:Cx)(id:String)(r:V->List V->Hp->VK->Prop):Prop :=
 ∀(XaU:Qc) (s:Shared) (σ:St) (H:Hp) (x:V) (xs:List V) (v:Value) (us:Qe) (Q:VK),Qq X XaU σ H s->QH x v->QV xs us->r x xs H Q ->
  wpAny (model X.prog X.w) X.A (call (.builtin id) (v::us)) (EP X XaU σ Q) X.xe s
section
variable {X:Cx}{a b:Expr}{ta tb:TE}{pos:Pos}
def IxR.or {r r':R2}(h:IxR X r)(h':IxR X r'):IxR X (fun x y H Q=>r x y H Q\/r' x y H Q):=by
 intro value slice XaU s σ H x y v u Q I rx ry q hs;rcases q with q|q
 ·exact h value slice XaU s σ H x y v u Q I rx ry q hs
 ·exact h' value slice XaU s σ H x y v u Q I rx ry q hs
def QO {r:R2}(hr:IxR X r)(ha:PE X a ta)(hb:PE X b tb)(hs:Fd b:=by exact fun _ _=>rfl):PE X (.Subscript a b pos) (tOp r ta tb):=by
 intro XaU s σ H Q I h;exact Subscript_ (Mz ha hb I h fun v u s2 x y H2 I2 rx ry q=>hr a b XaU s2 σ H2 x y v u Q I2 rx ry q (hs _ _))
def KB (K:W.Frag):R2:=fun x y H Q=>∃p xs i v,x=.ref p/\y=.int i/\SqL K H p xs/\atI xs i=some v/\Q v H
def K2 (K:W.Frag):R2:=fun x y H Q=>∃p xs i v,x=.ref p/\y=.int i/\SqT K H p xs/\atI xs i=some v/\Q v H
def KA:R2:=fun x y H Q=>∃z i c,x=.str z/\y=.int i/\z.length<=sizeLine/\atI z.cps.toList i=some c/\Q (.str ⟨#[c]⟩) H
def Fs:IxR X (KB X.K):=by
 intro value slice XaU s σ H x y v u Q I rx ry h hs;obtain⟨p,xs,i,z,rfl,rfl,hq,he,q⟩:=h
 cases rx
 obtain⟨t,rfl⟩:=ry;obtain⟨its,r,pl,hz⟩:=I.list hq;obtain⟨j,h1,h2,h3,h4,h5⟩:=Dx he;obtain⟨w,ew,rw'⟩:=r.get h2;have hl:=r.length;have hn:=Jv;have fin:EP X XaU σ Q w s:=⟨z,H,I,rw',q⟩
 by_cases h0:0<=i
 ·have hj:i.toNat=j:=by
   rw[seqIndex_of h0 h5]at h1;exact Option.some.inj h1
  exact item_listR pl.isList h0 (by omega) (by rw[hj];simpa using ew) fin hs
 ·have hj:(i+(its.toArray.size:Int)).toNat=j:=by
   rw[seqIndex_neg (by omega) h4]at h1;rw[Xx,<- hl];exact Option.some.inj h1
  exact subscriptTail_builtinR (x:=w) pl.isList.typeIs slot_list_getitem.lookup
   (wpAny_getItem_list_neg (Q:=fun r s'=>r=w/\EP X XaU σ Q r s') pl.isList (by omega) (by rw[Xx]<;>omega) (by omega) (by rw[hj];simpa using ew) ⟨rfl,fin⟩) hs
def TZ:IxR X (K2 X.K):=by
 intro value slice XaU s σ H x y v u Q I rx ry h hs;obtain⟨p,xs,i,z,rfl,rfl,hq,he,q⟩:=h
 cases rx
 obtain⟨t,rfl⟩:=ry;obtain⟨its,r,pl,hz⟩:=I.tuple hq;obtain⟨j,h1,h2,h3,h4,h5⟩:=Dx he;obtain⟨w,ew,rw'⟩:=r.get h2;have hl:=r.length;have hn:=Jv;have fin:EP X XaU σ Q w s:=⟨z,H,I,rw',q⟩
 exact subscriptTail_builtinR (x:=w) pl.typeIs slot_tuple_getitem.lookup
  (getItem_tuple (j:=j) (Q:=fun r s'=>r=w/\EP X XaU σ Q r s') pl (by omega) (by omega) (by rw[Xx,<- hl];exact h1) (by simpa using ew) ⟨rfl,fin⟩) hs
def Lc:IxR X KA:=by
 intro value slice XaU s σ H x y v u Q I rx ry h hs;obtain⟨z,i,c,rfl,rfl,hz,he,q⟩:=h;obtain⟨t,rfl⟩:=rx;obtain⟨t',rfl⟩:=ry;obtain⟨j,h1,h2,h3,h4,h5⟩:=Dx he;have hl:z.cps.toList.length=z.length:=by simp[Str.length]
 rw[hl]at h1 h4 h5;have hn:=Jv
 exact tail_any (typeIs_str s z t) slot_str_getitem.lookup (getItem_str (c:=c) (by
  have e1:decide (i < -(2^63:Int))=false:=XO (by omega);have e2:decide (i>=2^63)=false:=XO (by omega);rw[e1,e2,Bool.or_false]) (by rw[h1];simpa using h2) ⟨.str ⟨#[c]⟩,H,I.tok _,⟨_,rfl⟩,q⟩) hs
def rIx (K:W.Frag):R2:=fun x y H Q=>KB K x y H Q\/K2 K x y H Q\/KA x y H Q
def QN:IxR X (rIx X.K):=Fs.or (TZ.or Lc)
def Es (its:Qe) (n j:Nat) (u:Value):Obj.mapSeq (·.setIfInBounds j u) { cls:=.type "list",data:=.seq its.toArray n }={ cls:=.type "list",data:=.seq (its.set j u).toArray n }:=by
 simp[Obj.mapSeq]
def Qq.lst {XaU:Qc}{σ:St}{H:Hp}{s:Shared}{p:Addr}{xs:List V}(I:Qq X XaU σ H s)(h:H p=some (.lst xs)) :
 ∃(its:Qe) (n:Nat),QV xs its/\s.heap.get? p=some { cls:=.type "list",data:=.seq its.toArray n }/\xs.length<=sizeLine:=by
 obtain⟨z,its,n,r,e⟩:=I.hok p _ h
 exact⟨its,n,r,e,z⟩
def Qq.lstUpd {XaU:Qc}{σ:St}{H:Hp}{s:Shared}{p:Addr}{xs ys:List V}{its its':Qe}{n n':Nat}{f:Obj->Obj}(I:Qq X XaU σ H s)(h:H p=some (.lst xs))
 (ho:s.heap.get? p=some { cls:=.type "list",data:=.seq its.toArray n }) (hf:f { cls:=.type "list",data:=.seq its.toArray n }={ cls:=.type "list",data:=.seq its'.toArray n' }) (r:QV ys its') (hz:ys.length<=sizeLine) (t:Nat) :
 Qq X XaU σ (upd H p (.lst ys)) { s with heap:=s.heap.update p f,toks:=t }:=by
 have e:(s.heap.update p f).get? p=some { cls:=.type "list",data:=.seq its'.toArray n' }:=by
  rw[X9 f ho (by rw[hf]<;>rfl),hf]
 refine I.write (x:=p) (e:=p) (by rw[h];trivial) (.inl rfl) (fun b u hb q=>(XW _ _ (Ne.symm hb)).trans q) ⟨_,e⟩ ?_
 exact⟨hz,its',n',r,e⟩
def UU:V->V->V->Hp->(Hp->Prop)->Prop:=fun o i v H Q=>∃p xs k j,o=.ref p/\i=.int k/\H p=some (.lst xs)/\ixN xs.length k=some j/\Q (upd H p (.lst (xs.set j v)))
def WU:Mu X UU:=by
 intro XaU s σ H o i v ov iv u Q I ro ri rv h;obtain⟨p,xs,k,j,rfl,rfl,hp,hj,q⟩:=h
 cases ro
 obtain⟨t,rfl⟩:=ri;obtain⟨its,n,r,ho,hz⟩:=I.lst hp;obtain⟨h1,h2,h3,h4⟩:=Ra hj;have hl:=r.length;have hn:=Jv
 have I':Qq X XaU σ (upd H p (.lst (xs.set j v))) { s with heap:=s.heap.update p (Obj.mapSeq (·.setIfInBounds j u)) } :=
  I.lstUpd hp ho (Es its n j u) (r.set rv j) (by rw[List.length_set];exact hz) s.toks
 by_cases h0:0<=k
 ·have hk:k.toNat=j:=by
   rw[seqIndex_of h0 h4]at h1;exact Option.some.inj h1
  exact W.ki_setAt ho h0 (by omega) (by rw[Xx,<- hl];exact h4) (by rw[hk];exact⟨_,I',q⟩)
 ·have hk:(k+(its.toArray.size:Int)).toNat=j:=by
   rw[seqIndex_neg (by omega) h3]at h1;rw[Xx,<- hl];exact Option.some.inj h1
  exact W.ki_setBack ho (by omega) (by rw[Xx,<- hl];exact h3) (by omega) (by rw[hk];exact⟨_,I',q⟩)
def IA:Zy X (.builtin "len") (fun xs H Q=>∃p ys,xs=[.ref p]/\(SqL X.K H p ys\/SqT X.K H p ys)/\Q (.int ys.length) H):=by
 intro XaU s σ H xs us Q I r h;obtain⟨p,ys,rfl,hq,q⟩:=h;obtain⟨u,rfl,rx⟩:=Y7 r
 cases rx
 have hn:=Jv
 rcases hq with hq|hq
 ·obtain⟨its,r',pl,hz⟩:=I.list hq
  have hlen:=r'.length;exact Calls.call_len_list pl.isList (by simp only[Xx]<;>omega) ⟨.int ys.length,H,I.tok _,⟨s.toks+1,by rw[Xx,hlen]⟩,q⟩
 ·obtain⟨its,r',pl,hz⟩:=I.tuple hq
  have hlen:=r'.length;exact len_tuple pl (by simp only[Xx]<;>omega) ⟨.int ys.length,H,I.tok _,⟨s.toks+1,by rw[Xx,hlen]⟩,q⟩
def IG:Zy X (.type "list") (fun xs H Q=>∃p ys,xs=[.ref p]/\(SqL X.K H p ys\/SqT X.K H p ys)/\∀l,H l=none->Q (.ref l) (upd H l (.lst ys))):=by
 intro XaU s σ H xs us Q I r h;obtain⟨p,ys,rfl,hq,q⟩:=h;obtain⟨u,rfl,rx⟩:=Y7 r
 cases rx
 have fin:∀(its:Qe),QV ys its->ys.length<=sizeLine->∀(h':Heap) (c':Nat),(∀b o',s.heap.get? b=some o'->h'.get? b=some o') ->
  h'.get? s.heap.objs.size=some { cls:=.type "list",dict:=none,data:=.seq its.toArray c',slots := #[] }->EP X XaU σ Q (.ref s.heap.objs.size) { s with heap:=h' }:=fun its r' hz h' c' kp e =>
  ⟨.ref s.heap.objs.size,_,I.laid (t':=s.toks) kp (Xs _) (show Z3 X.prog X.w _ h' _ (.lst ys) from⟨hz,its,c',r',e⟩),rfl,q _ (I.hok.fresh (Xs _))⟩
 rcases hq with hq|hq
 ·obtain⟨its,r',pl,hz⟩:=I.list hq
  have hlen:=r'.length;obtain⟨o,ho,hc,n,hd⟩:=pl.isList;exact call_list_seq p (.inl rfl) ho hc hd (fun h' c' kp e=>fin its r' hz h' c' kp e) (by simp only[Xx]<;>omega)
 ·obtain⟨its,r',pl,hz⟩:=I.tuple hq
  have hlen:=r'.length;obtain⟨o,ho,hc,n,hd⟩:=pl;exact call_list_seq p (.inr rfl) ho hc hd (fun h' c' kp e=>fin its r' hz h' c' kp e) (by simp only[Xx]<;>omega)
def IP:Zy X (.type "tuple") (fun xs H Q=>∃p ys,xs=[.ref p]/\((SqL X.K H p ys/\∀l,H l=none->Q (.ref l) (upd H l (.tup ys)))\/(SqT X.K H p ys/\Q (.ref p) H))):=by
 intro XaU s σ H xs us Q I r h;obtain⟨p,ys,rfl,h⟩:=h;obtain⟨u,rfl,rx⟩:=Y7 r
 cases rx
 rcases h with ⟨hq,q⟩|⟨hq,q⟩
 ·obtain⟨its,r',pl,hz⟩:=I.list hq
  have hlen:=r'.length;refine call_tuple_list pl.isList (fun h' kp=>?_) (by simp only[Xx]<;>omega);have I1:Qq X XaU σ H { s with heap:=h' }:=I.kept (t':=s.toks) kp
  have I2:Qq X XaU σ (upd H h'.objs.size (.tup ys)) { s with heap:=h'.push { cls:=.type "tuple",data:=.seq its.toArray } } :=
   I1.laid (t':=s.toks) (fun b o e=>Xi _ e) (Xs _) (show Z3 X.prog X.w _ _ _ (.tup ys) from⟨hz,its,r',IsTup.new _ _⟩)
  exact⟨.ref h'.objs.size,_,I2,rfl,q _ (I1.hok.fresh (Xs _))⟩
 ·obtain⟨its,r',pl,hz⟩:=I.tuple hq
  exact call_tuple_same pl ⟨.ref p,H,I,rfl,q⟩
def tyV (K:W.Frag)(T:String)(x:V)(H:Hp):Prop:=match x with
 |.str _=>T = "str"
 |.int _=>T = "int"
 | .ref p=>(T = "list" /\ ∃xs,SqL K H p xs)\/(T = "tuple" /\ ∃o,K.lookup p=some o/\o.cls=.type "tuple" /\ o.dict=none) \/
  (T = "dict" /\ ((∃kvs,H p=some (.dK kvs))\/∃kvs,H p=some (.dT kvs)))\/(T = "set" /\ ∃S n,H p=some (.set S n))
 |_=>False
def TL {XaU:Qc}{σ:St}{H:Hp}{s:Shared}{T:String}{x:V}{v:Value}(I:Qq X XaU σ H s)(r:QH x v)(ty:tyV X.K T x H) :
 s.TypeIs v T/\∀a,v=.ref a->∃ob,s.heap.get? a=some ob/\ob.dict=none:=by
 cases x with
 |str z =>
   obtain⟨t,rfl⟩:=r
   cases (show T = "str" from ty)
   exact⟨typeIs_str s z t,fun _ e=>nomatch e⟩
 |int i =>
   obtain⟨t,rfl⟩:=r
   cases (show T = "int" from ty)
   exact⟨typeIs_int s i t,fun _ e=>nomatch e⟩
 |ref p =>
   cases r
   rcases ty with ⟨rfl,xs,hq⟩|⟨rfl,o,hk,hc,hd⟩|⟨rfl,hk⟩|⟨rfl,S,n,hk⟩
   ·obtain⟨its,_,pl,_⟩:=I.list hq
    refine⟨pl.isList.typeIs,fun a e=>?_⟩
    cases e
    obtain⟨o,n,e,c,hd,_⟩:=pl
    exact⟨o,e,hd⟩
   ·refine⟨⟨o,I.kIn p o hk,hc⟩,fun a e=>?_⟩
    cases e
    exact⟨o,I.kIn _ o hk,hd⟩
   ·have z:∃o,s.heap.get? p=some o/\o.ExactDict:=by
     rcases hk with ⟨kvs,hk⟩|⟨kvs,hk⟩
     ·obtain⟨_,_,_,_,o,_,_,e,ex,_⟩:=I.hok p _ hk
      exact⟨o,e,ex⟩
     ·obtain⟨_,_,_,_,o,_,_,e,ex,_⟩:=I.hok p _ hk
      exact⟨o,e,ex⟩
    obtain⟨o,e,ex⟩:=z;refine⟨⟨o,e,ex.1⟩,fun a e2=>?_⟩
    cases e2
    exact⟨o,e,ex.2.1⟩
   ·obtain⟨o,_,_,_,e,ex,_⟩:=I.hok p _ hk
    refine⟨⟨o,e,ex.1⟩,fun a e2=>?_⟩
    cases e2
    exact⟨o,e,ex.2.1⟩
 |_=>exact False.elim ty
def tBM (K:W.Frag)(T:String)(r:V->List V->Hp->VK->Prop)(to:TE)(t:TA):TE:=fun σ H Q=>to σ H fun x H1=>tyV K T x H1/\t σ H1 fun xs H2=>r x xs H2 Q
variable {o e:Expr}{es:Qi}{to:TE}{t:TA}{name:Str}{apos cpos:Pos}{T id:String}{r:V->List V->Hp->VK->Prop}
def VL (pa:PlainAttrs T) (slot:Slot T name id) (hty:typeOf (.builtin id)=pure (.type "method_descriptor")) (hm:MtR X id r) (ho:PE X o to) (ha:PA X (e::es) t)
 (hbase:attributeBase o name X.env (eval o X.env)=eval o X.env:=by rfl)
 (hfew:((backTo cpos (starEach (e::es) X.env)).all (fun x => !x.1)&&(backToKw cpos (keywordEach [] X.env)).all (fun x=>x.1.isSome)
  && decide ((e::es).length+([]:List Keyword).length+(if ([]:List Keyword).isEmpty then 0 else 1)<30))=true:=by rfl)
 (hline:(apos.endLine==cpos.line)=true:=by rfl) (hs:starEach (e::es) X.env=(false,eval e X.env)::starEach es X.env:=by rfl) (hplain:(backTo cpos (starEach es X.env)).any (·.1)=false:=by rfl) :
 PE X (.Call (.Attribute o name apos) (e::es) [] cpos) (tBM X.K T r to t):=by
 intro XaU s σ H Q I h;refine wpAny_Call_method_late hbase hfew hline rfl (QA (ho XaU s σ H _ I h) fun v s1 ⟨x,H1,I1,r1,ty,q1⟩=>?_);obtain⟨h1,h2⟩:=TL I1 r1 ty;refine⟨T,id,pa,slot,hty,h1,h2,?_⟩;have hA:=ha cpos XaU s1 σ H1 _ I1 q1;rw[hs]at hA ⊢;refine Calls.callWith_builtin (by show(false||(backTo cpos (starEach es X.env)).any (·.1))=false;rw[hplain]<;>rfl) (Calls.evalArgs_plain ?_);exact QA hA fun us s2 ⟨vs,H2,I2,r2,q2⟩=>hm XaU s2 σ H2 x vs v us Q I2 r1 r2 q2
end
def MtM (X:Cx)(id:String)(r:V->List V->Hp->VK->Prop):Prop :=
 ∀(XaU:Qc) (s:Shared) (σ:St) (H:Hp) (x:V) (xs:List V) (v:Value) (us:Qe) (Q:VK),Qq X XaU σ H s->QH x v->QV xs us->r x xs H Q ->
  wpAny (model X.prog X.w) X.A (call (.builtin id) (v::us)) (EP X XaU σ Q) X.xe s
theorem QV.one:∀{x:V} {us:Qe},QV [x] us->∃u,us=[u]/\QH x u
 |_,_,.cons r .nil=>⟨_,rfl,r⟩
section
variable {X:Cx}{XaU:Qc}{σ:St}{H:Hp}{s:Shared}{l b:Addr}{xs ys zs:List V}
def Qq.lset {its its':Qe}{n:Nat}{f:Array Value->Array Value}{t':Nat}(I:Qq X XaU σ H s)(hH:H l=some (.lst xs))
 (e:s.heap.get? l=some { cls:=.type "list",data:=.seq its.toArray n }) (hf:f its.toArray=its'.toArray) (hv:QV ys its') (hz:ys.length<=sizeLine) :
 Qq X XaU σ (upd H l (.lst ys)) { s with heap:=s.heap.update l (Obj.mapSeq f),toks:=t' }:=by
 have q:=PySem.IsL.update e f;rw[hf]at q;refine I.write (x:=l) (e:=l) (by rw[hH];exact trivial) (.inl rfl) (fun b' u hb hu=>(XW s.heap (Obj.mapSeq f) (Ne.symm hb)).trans hu) ⟨_,q⟩ ?_
 exact⟨hz,its',_,hv,q⟩
def Qq.lnew {its:Qe}{t':Nat}(I:Qq X XaU σ H s)(hv:QV ys its)(hz:ys.length<=sizeLine) :
 Qq X XaU σ (upd H s.heap.objs.size (.lst ys)) { s with heap:=s.heap.push { cls:=.type "list",data:=.seq its.toArray },toks:=t' } :=
 I.laid (fun _ _ q=>Xi _ q) (Xs _) ⟨hz,its,0,hv,XD _ rfl⟩
def Qq.fresh (I:Qq X XaU σ H s):H s.heap.objs.size=none:=I.hok.fresh (Xs _)
def Qq.lstM (I:Qq X XaU σ H s) (hH:H l=some (.lst xs)):xs.length<=sizeLine/\∃(its:Qe) (n:Nat),QV xs its/\xs.length=its.length/\s.heap.get? l=some { cls:=.type "list",data:=.seq its.toArray n }:=by
 obtain⟨z,its,n,r,e⟩:=I.hok l _ hH
 exact⟨z,its,n,r,r.length,e⟩
end
section
variable {X:Cx}
def VQ:V->List V->Hp->VK->Prop:=fun x vs H Q=>∃l xs y,x=.ref l/\vs=[y]/\H l=some (.lst xs)/\xs.length<sizeLine/\Q .non (upd H l (.lst (xs++[y])))
def VS:MtM X "list.append" VQ:=by
 intro XaU s σ H x vs v us Q I rx rv h;obtain⟨l,xs,y,rfl,rfl,hH,hz,q⟩:=h
 cases rx
 obtain⟨u,rfl,ru⟩:=rv.one;obtain⟨z,its,n,r,hl,e⟩:=I.lstM hH;refine call_meets F.slot_list_append ⟨_,e,rfl⟩ F.entry_list_append (F.args_list_append_2 _ _) (PySem.list_append l its.toArray n u (by rw[Xx];omega)) ⟨e,?_⟩;refine⟨.non,_,I.lset (its':=its++[u]) hH e (by simp) (r.append (.cons ru .nil)) ?_,rfl,q⟩;rw[Xo,List.length_singleton];omega
def Mi:R2:=fun x y H Q=>∃l b xs zs,x=.ref l/\y=.ref b/\H l=some (.lst xs)/\H b=some (.lst zs)/\xs.length+zs.length<=sizeLine/\∀p,H p=none->Q (.ref p) (upd H p (.lst (xs++zs)))
def N6:OpR X (binaryOp .Add) Mi:=by
 intro XaU s σ H x y v u Q I rx ry h;obtain⟨l,b,xs,zs,rfl,rfl,hH,hB,hz,q⟩:=h
 cases rx
 cases ry
 obtain⟨z,its,n,r,hl,e⟩:=I.lstM hH;obtain⟨z2,its2,n2,r2,hl2,e2⟩:=I.lstM hB;refine PySem.P.add_list e e2 ?_ (by rw[Xx,Xx];omega);have ea:its.toArray++its2.toArray=(its++its2).toArray:=by simp
 rw[ea];exact⟨.ref _,_,I.lnew (t':=s.toks) (r.append r2) (by rw[Xo];omega),rfl,q _ I.fresh⟩
end
section
variable {prog:Program}{w:World}{A:Around}{E:Qb}{s:Shared}
end
section
variable {X:Cx}
end
end L2
namespace Att
open PySem PySem.W PySem.Calls PyProof.Rows
def IW {P:Params}{h:Heap}:∀(ns:Ql) (vs:Qe),WellAll P h vs (ns.map WData.int)->IntsAre vs ns:=by
 intro ns;induction ns with
 |nil =>
   intro vs w;rw[UG]at w;cases w;exact .nil
 |cons n ns ih =>
   intro vs w;rw[Xu]at w;cases w with
   |cons a b =>
     cases a
     exact .cons _ _ (ih _ b)
def E8 {l:OpenLaw}{n:Nat}(hn:l.most=some n){P:Params}{h:Heap}{args:List WData}{vals:Qe}
 (hpre:l.row.toRowW.claim.pre args=true) (hwl:WellAll P h vals args) :
 ∃a vs ns,vals=[Value.ref a]/\args=[WData.list (ns.map WData.int)]/\h.get? a=some { cls:=.type "list",data:=.seq vs.toArray }/\IntsAre vs ns/\ns.length<=n:=by
 have hsh:WShape.hasAll [] args [.list .int]=true:=(pre_splitW hpre).1;have hc:l.pre.holds [] { args:=args }=true:=(pre_splitW hpre).2;obtain⟨d,r,rfl,h1,h2⟩:=hasAllW_cons hsh;obtain rfl:=hasAllW_nil h2;obtain⟨xs,rfl,h3⟩:=hasW_list h1;obtain⟨ns,rfl⟩:=items_int h3
 have hlen:ns.length<=n:=by
  unfold OpenLaw.pre at hc;have h4:(WTm.not (.lt (.lit (.int (n:Int))) (.len (.arg 0)))).holds [] { args:=[.list (ns.map .int)] }=true:=by
   have h4:=(holds_andW hc).1;rw[hn]at h4;exact h4
  have h5:=condW_of h4 (w_not (w_lt w_lit (w_len_list (w_arg rfl))));rw[Xm]at h5;refine Nat.le_of_not_lt fun q=>?_;have q':(n:Int)<((ns.length:Nat):Int):=by omega
  first
   |(rw[XV q']at h5;exact Xl h5 (by decide))
   |(simp at h5;omega)
 cases hwl with
 |cons w1 w2 =>
   cases w2
   cases w1 with
   |list ho hall=>exact⟨_,_,ns,rfl,rfl,ho,IW ns _ hall,hlen⟩
def E1 (l:OpenLaw)(args:List WData):l.row.toRowW.claim.post args (.bool true) args=true :=
 postW_of (r:=l.row.toRowW) (X:=(true==true))
  (show WShape.has [] (.bool true) .bool=true by first|rfl|decide|simp[WShape.has,WShape.arms,WShape.armsAll])
  (show(WTm.eq .res (.lit (.bool true))).value [] { args:=args,res:=some (.bool true),after:=args }=some (.bool (true==true)) from w_eq_bool (w_res rfl) w_lit) rfl
section
variable {prog:Program}{w:World}{A:Around}{E:Qb}{s:Shared}{K:Frag}
end
end Att
namespace L2
open PySem PySem.Spec PyProof.Rows
theorem S7:∀{vs:Qe} {ns:Ql},IntsAre vs ns->QV (ns.map V.int) vs
 |_,_,.nil=>.nil
 |_,_,.cons n t h=>.cons ⟨t,rfl⟩ (S7 h)
def PU (H:Hp):Prop := ∀b,H b=none\/∃o xs,H b=some (.frz o (.lst xs))
abbrev KOf {K:W.Frag}{h:Heap}(_:K.In h):W.Frag:=K
def ZZ (s:Stmt)(j:Nat):Stmt:=match s with
 |.ClassDef _ _ _ body _ _ _ _ _ _ _=>body.getD j (.Pass ⟨0,0,0,0⟩)
 |_=>.Pass ⟨0,0,0,0⟩
def Ya (s:Stmt):Arguments:=match s with
 |.FunctionDef _ a _ _ _ _ _ _ _ _=>a
 |_=>{ posonlyargs:=[],args:=[],vararg:=none,kwonlyargs:=[],kw_defaults:=[],kwarg:=none,defaults:=[] }
def Zx (s:Stmt):List Stmt:=match s with
 |.FunctionDef _ _ b _ _ _ _ _ _ _=>b
 |_=>[]
def Q0 (s:Stmt):Scope:=match s with
 |.FunctionDef _ _ _ _ _ _ sc _ _ _=>sc
 |_=>{ kind:=.function,names:=[],isGenerator:=false,isCoroutine:=false }
abbrev CX0:CXT:=fun _ _ _ _ _ _=>False
abbrev E0:XK:=fun _ _ _=>False
def Jn {X:Cx}:VP CX0 X E0:=fun _ _ _ _ _ _ _ h=>h.elim
structure Fun (K:W.Frag)(x qual:Str)(st:Stmt)(f:Addr)(fd:FuncData):Prop where
 ex:∃(oc:Value) (od:Qj) (kV doc pm:Value) (an:Qj) (cdv ct:Value) (osl:Array (Qf)),
  fd=W.fnOf x qual (Ya st) (Zx st) (Q0 st) .none kV doc pm an cdv ct/\K.lookup f=some ⟨oc,od,.func fd,osl⟩/\W.codeIn K cdv qual=true
 kp:W.keepIn K (.ref f)=true
section
variable {P:Program}{w:World}{K:W.Frag}{mg:Str->Qf}{base:Heap}
def Fun.ok {x qual:Str}{st:Stmt}{f:Addr}{fd:FuncData}{N ps:Qh}{k:Nat}{sp:Sp}(F:Fun K x qual st f fd)(S:Qp N ps (Q0 st))(len:∀vs H Q E,sp vs H Q E->vs.length=ps.length)
 (XaV:∀(cdv:Value) (A:Around) (outer:List Env) (s:Shared) (H:Hp) (vs:List V) (Q:VK) (E:XK),Room k (A.deeper (envOfC qual (Q0 st) s.heap.objs.size f cdv))->sp vs H Q E ->
  ∃t,PSs (Vd CX0 P w K mg base N qual (Q0 st) f cdv A outer s H E).nox (Zx st) t/\t { nx:=fun _ H'=>Q .non H',rt:=Q } (start N vs) H):FnOk P w K mg base CX0 (k+1) f fd ps sp:=by
 obtain⟨oc,od,kV,doc,pm,an,cdv,ct,osl,rfl,lk,hcd⟩:=F.ex;refine Nt lk hcd S len fun A outer s H vs Q E hr hsp=>?_;obtain⟨t,h,q⟩:=XaV cdv A outer s H vs Q E hr hsp
 exact⟨t,h.nox,q⟩
def Fun.binds {x qual:Str}{st:Stmt}{f:Addr}{fd:FuncData}{ps:Qh}(F:Fun K x qual st f fd)
 (h:∀(kV doc pm:Value) (an:Qj) (cdv ct:Value) (us:Qe),us.length=ps.length->bindArgs (W.fnOf x qual (Ya st) (Zx st) (Q0 st) .none kV doc pm an cdv ct) ⟨us,[]⟩=pure (ps.zip us)):Ve K fd ps []:=by
 obtain⟨oc,od,kV,doc,pm,an,cdv,ct,osl,rfl,lk,hcd⟩:=F.ex;exact .all (h kV doc pm an cdv ct)
def Wx {x qual:Str}{st:Stmt}{f:Addr}{oc:Value}{od an:Qj}{osl:Array (Qf)}{kV doc pm cdv ct:Value}(l:K.lookup f=some ⟨oc,od,.func (W.fnOf x qual (Ya st) (Zx st) (Q0 st) .none kV doc pm an cdv ct),osl⟩)
 (c:W.codeIn K cdv qual=true) (k:W.keepIn K (.ref f)=true):Fun K x qual st f (W.fnOf x qual (Ya st) (Zx st) (Q0 st) .none kV doc pm an cdv ct):=⟨⟨oc,od,kV,doc,pm,an,cdv,ct,osl,rfl,l,c⟩,k⟩
end
def Vw {A:Around}{k:Nat}(hr:Room k A):A.units+1<cLine:=Mb (Nat.add_le_add_left (by decide:1<=64) _) hr.units
def ZT {n:Nat}(h:n<=1000):n<sizeLine:=Mb h (by decide)
section
variable {X:Cx}
def pv (i:Nat) {x:Str} {pos:Pos} (hN:X.N[i]?=some x:=by rfl) (hv:Vis X.env.scope x:=by first|exact Or.inl rfl|exact Or.inr Qa|exact Or.inr (Or.inr rfl)) (hd:(x==("__debug__" : Str))=false:=by decide)
 (hcd:(x==("__classdict__" : Str))=false:=by decide):PE X (.Name x pos) (QB i):=NN hN hv hd hcd
end
def Q2 (H H':Hp):Prop := ∀b o,H b=some o->H' b=some o
def Q2.refl (H:Hp):Q2 H H:=fun _ _ h=>h
def Q2.trans {H H1 H2:Hp}(a:Q2 H H1)(b:Q2 H1 H2):Q2 H H2:=fun c o h=>b c o (a c o h)
def Q2.free {H H':Hp}(e:Q2 H H'){l:Addr}(h:H' l=Option.none):H l=Option.none:=by
 cases q:H l with
 |none=>rfl
 |some o =>
   rw[e l o q]at h;cases h
def Q2.seq {K:W.Frag}{H H':Hp}{a:Addr}{xs:List V}(e:Q2 H H')(h:SqL K H a xs):SqL K H' a xs:=by
 rcases h with (h|⟨o,h⟩)|h
 ·exact .inl (.inl (e _ _ h))
 ·exact .inl (.inr ⟨o,e _ _ h⟩)
 ·exact .inr h
end L2
section
namespace L2
open PySem PySem.Spec PyProof.Rows
theorem Hu {env:Env}{F:Str×NameKind->List (Str×Addr)->Sem (ForInStep (List (Str×Addr)))}
 (h1:∀n c cs,env.cells.lookup n=some c->F (n,NameKind.free) cs=pure (.yield ((n,c)::cs)))
 (h2:∀n k cs,k≠NameKind.free->F (n,k) cs=pure (.yield cs)) :
 ∀(l:List (Str×NameKind)) (cs:List (Str×Addr)),(∀p∈l,p.2=NameKind.free->∃c,env.cells.lookup p.1=some c)->(∀x c,cs.lookup x=some c->env.cells.lookup x=some c) ->
  ∃cl,forIn l cs F=pure cl/\(∀x c,cl.lookup x=some c->env.cells.lookup x=some c)/\(∀x c,cs.lookup x=some c->∃c',cl.lookup x=some c')/\∀p∈l,p.2=NameKind.free->∃c,cl.lookup p.1=some c
 |[],cs,_,hc=>⟨cs,by rw[List.forIn_nil],hc,fun x c h=>⟨c,h⟩,fun p hp=>Xl hp (by simp)⟩
 |(n,k)::l,cs,hl,hc=>by
   have hl':∀p∈l,p.2=NameKind.free->∃c,env.cells.lookup p.1=some c:=fun p hp=>hl p (Xf _ hp)
   by_cases hk:k=NameKind.free
   ·subst hk
    obtain⟨c,e⟩:=hl (n,NameKind.free) Xa rfl
    have hc':∀x d,((n,c)::cs).lookup x=some d->env.cells.lookup x=some d:=fun x d q=>by
     cases hx:x==n with
     |true =>
       simp only[XI,hx]at q;cases q;rw[eq_of_beq hx];exact e
     |false =>
       simp only[XI,hx]at q;exact hc x d q
    obtain⟨cl,a1,a2,a3,a4⟩:=Hu h1 h2 l ((n,c)::cs) hl' hc'
    have up:∀x d,cs.lookup x=some d->∃d',((n,c)::cs).lookup x=some d':=fun x d q=>by
     cases hx:x==n with
     |true=>exact⟨c,by simp only[XI,hx]⟩
     |false=>exact⟨d,by simp only[XI,hx];exact q⟩
    refine⟨cl,by rw[List.forIn_cons,h1 n c cs e,pure_bind];exact a1,a2,fun x d q=>?_,fun p hp hf=>?_⟩
    ·obtain⟨d',q'⟩:=up x d q
     exact a3 x d' q'
    ·rcases Xe.mp hp with rfl|hp
     ·exact a3 n c (by simp only[XI,beq_self_eq_true])
     ·exact a4 p hp hf
   ·obtain⟨cl,a1,a2,a3,a4⟩:=Hu h1 h2 l cs hl' hc
    refine⟨cl,by rw[List.forIn_cons,h2 n k cs hk,pure_bind];exact a1,a2,a3,fun p hp hf=>?_⟩
    rcases Xe.mp hp with rfl|hp
    ·exact Xl hf hk
    ·exact a4 p hp hf
def Pn {scope:Scope}{env:Env}(h:∀p∈scope.names,p.2=NameKind.free->∃c,env.cells.lookup p.1=some c) :
 ∃cl,closureFor scope env=pure cl/\(∀x c,cl.lookup x=some c->env.cells.lookup x=some c)/\∀p∈scope.names,p.2=NameKind.free->∃c,cl.lookup p.1=some c:=by
 simp only[closureFor];obtain⟨cl,a1,a2,_,a4⟩:=Hu (env:=env) (F:=fun x r=>match x with|(name,kind)=>if (kind==NameKind.free)=true then do let a <- cellOf env name;pure (ForInStep.yield ((name,a)::r)) else pure (ForInStep.yield r))
  (fun n c cs e=>by
   show(if (NameKind.free==NameKind.free)=true then _ else _)=_
   rw[Xd (show(NameKind.free==NameKind.free)=true from rfl)];unfold cellOf;rw[e];rfl)
  (fun n k cs hk=>by
   have:(k==NameKind.free)=false:=by simpa using hk
   show(if (k==NameKind.free)=true then _ else _)=_
   rw[this,Xb Xv]) scope.names [] h (fun x c q=>by simp at q)
 refine⟨cl,?_,a2,a4⟩
 first
  |exact a1
  |(rw[bind_pure];exact a1)
  |(simp only[bind_pure]at *;exact a1)
  |(rw[show(forIn scope.names ([]:List (Str×Addr)) _ >>= fun r=>pure r)=_ from bind_pure _];exact a1)
theorem P3 {env:Env}:∀{names:List (Str×NameKind)} {x:Str},names.lookup x=some .free ->
 (names.map fun(n,k)=>if (k==NameKind.free&&env.scope.kind==.function&&env.kindOf n==some .cell) then (n,NameKind.cell) else (n,k)).lookup x=some .cell \/
 (names.map fun(n,k)=>if (k==NameKind.free&&env.scope.kind==.function&&env.kindOf n==some .cell) then (n,NameKind.cell) else (n,k)).lookup x=some .free
 |[],_,h=>by simp at h
 |(n,k)::r,x,h=>by
   have ih:=@P3 env r x;show List.lookup x ((if (k==NameKind.free&&env.scope.kind==.function&&env.kindOf n==some .cell)=true then (n,NameKind.cell) else (n,k))::_)=_\/List.lookup x ((if (k==NameKind.free&&env.scope.kind==.function&&env.kindOf n==some .cell)=true then (n,NameKind.cell) else (n,k))::_)=_
   cases hx:x==n with
   |true =>
     simp only[XI,hx]at h;cases h
     by_cases hc:(NameKind.free==NameKind.free&&env.scope.kind==.function&&env.kindOf n==some .cell)=true
     ·rw[Xd hc];left;simp only[XI,hx]
     ·rw[Xb hc];right;simp only[XI,hx]
   |false =>
     simp only[XI,hx]at h;by_cases hc:(k==NameKind.free&&env.scope.kind==.function&&env.kindOf n==some .cell)=true
     ·rw[Xd hc];simp only[XI,hx];exact ih h
     ·rw[Xb hc];simp only[XI,hx];exact ih h
theorem P2 {env:Env}:∀{names:List (Str×NameKind)} {x:Str},((names.map fun(n,k)=>if (k==NameKind.free&&env.scope.kind==.function&&env.kindOf n==some .cell) then (n,NameKind.cell) else (n,k)).lookup x=some .cell \/
 (names.map fun(n,k)=>if (k==NameKind.free&&env.scope.kind==.function&&env.kindOf n==some .cell) then (n,NameKind.cell) else (n,k)).lookup x=some .free)->names.lookup x=some .free\/names.lookup x=some .cell
 |[],_,h=>by simp at h
 |(n,k)::r,x,h=>by
   have ih:=@P2 env r x;have h:List.lookup x ((if (k==NameKind.free&&env.scope.kind==.function&&env.kindOf n==some .cell)=true then (n,NameKind.cell) else (n,k))::_)=_\/List.lookup x ((if (k==NameKind.free&&env.scope.kind==.function&&env.kindOf n==some .cell)=true then (n,NameKind.cell) else (n,k))::_)=_:=h
   cases hx:x==n with
   |true =>
     simp only[XI,hx];by_cases hc:(k==NameKind.free&&env.scope.kind==.function&&env.kindOf n==some .cell)=true
     ·have:k=NameKind.free:=by
       rw[JA,JA]at hc;exact eq_of_beq hc.1.1
      left;rw[this]
     ·rw[Xb hc]at h
      simp only[XI,hx]at h;exact h.symm
   |false =>
     simp only[XI,hx];by_cases hc:(k==NameKind.free&&env.scope.kind==.function&&env.kindOf n==some .cell)=true
     ·rw[Xd hc]at h;simp only[XI,hx]at h;exact ih h
     ·rw[Xb hc]at h;simp only[XI,hx]at h;exact ih h
structure CIn where
 cl:List (Str×Addr)
 C:Addr
 s₀:Shared
 H₀:Hp
 ex:Qg
 pn:Qc
def ZH (X:Cx)(N:Qh)(scope:Scope)(c:CIn):Cx where
 prog:=X.prog
 w:=X.w
 K:=X.K
 mg:=X.mg
 base:=X.base
 A:=X.A
 N:=N
 s₀:=c.s₀
 H₀:=c.H₀
 env:=compEnvC scope c.cl c.C X.env
 outer:=X.stack
 stack:=X.stack
 ex:=c.ex
 fn:=fun _=>false
 calm:=X.calm
 pn:=c.pn
 xe:=fun _ _=>False
def VI (f:List (Option Nat))(σ:St):St:=f.map fun o=>match o with|some i=>(σ[i]?).join|none=>none
structure CompOk (NX:Qh)(sc:Scope)(N:Qh)(f:List (Option Nat))(scope:Scope):Prop where
 kind:scope.kind=.function
 nocell:∀y∈scope.names,y.2≠NameKind.cell
 names:∀y∈scope.names,y.2=NameKind.local->scope.names.lookup y.1=some .local
 free:∀y∈scope.names,y.2=NameKind.free->sc.names.lookup y.1=some .cell\/sc.names.lookup y.1=some .free
 len:f.length=N.length
 ix:∀(j i:Nat),f[j]?=some (some i)->∃x,N[j]?=some x/\NX[i]?=some x/\scope.names.lookup x=some .free
def Ud (NX:Qh)(sc:Scope)(N:Qh)(f:List (Option Nat))(scope:Scope):Bool :=
 decide (scope.kind=.function)&&(scope.names.all fun y=>decide (y.2≠NameKind.cell)&&(decide (y.2≠NameKind.local)||decide (scope.names.lookup y.1=some .local)) &&
  (decide (y.2≠NameKind.free)||decide (sc.names.lookup y.1=some .cell)||decide (sc.names.lookup y.1=some .free)))&&decide (f.length=N.length) &&
 (List.range f.length).all fun j=>match f[j]? with
  | some (some i)=>(match N[j]? with
    |some x=>decide (NX[i]?=some x)&&decide (scope.names.lookup x=some .free)
    |none=>false)
  |_=>true
def SJ {NX:Qh}{sc:Scope}{N:Qh}{f:List (Option Nat)}{scope:Scope}(h:Ud NX sc N f scope=true):CompOk NX sc N f scope:=by
 unfold Ud at h;simp only[JA,List.all_eq_true,decide_eq_true_eq,Bool.or_eq_true]at h;obtain⟨⟨⟨h1,h2⟩,h3⟩,h4⟩:=h;refine⟨h1,fun y hy=>(h2 y hy).1.1,fun y hy e=>?_,fun y hy e=>?_,h3,fun j i e=>?_⟩
 ·rcases(h2 y hy).1.2 with z|z
  ·exact Xl e z
  ·exact z
 ·rcases(h2 y hy).2 with (z|z)|z
  ·exact Xl e z
  ·exact .inl z
  ·exact .inr z
 ·have hj:j<f.length:=(Xg.mp e).1
  have q:=h4 j (XU.mpr hj);rw[e]at q;cases hN:N[j]? with
  |none=>rw[hN]at q;simp at q
  |some x =>
    rw[hN]at q;simp only[JA,decide_eq_true_eq]at q;exact⟨x,rfl,q.1,q.2⟩
def KG (f:List (Option Nat))(σ σ':St):Prop:=σ'.length=σ.length/\∀(i j:Nat),f[i]?=some (some j)->σ'[i]?=σ[i]?
structure TgOk (f:List (Option Nat))(g:TG):Prop where
 keep:∀x σ H Q,g x σ H Q->g x σ H fun σ2 H2=>KG f σ σ2/\Q σ2 H2
 mono:∀x σ H Q Q',(∀σ H,Q σ H->Q' σ H)->g x σ H Q->g x σ H Q'
structure TgsOk (f:List (Option Nat))(g:TGs):Prop where
 keep:∀xs σ H Q,g xs σ H Q->g xs σ H fun σ2 H2=>KG f σ σ2/\Q σ2 H2
 mono:∀xs σ H Q Q',(∀σ H,Q σ H->Q' σ H)->g xs σ H Q->g xs σ H Q'
theorem V5 {f:List (Option Nat)}{j:Nat}(h:f[j]?=some none:=by rfl):TgOk f (ZC j) where
 keep:=fun x σ H Q q=>⟨⟨List.length_set ..,fun i k e=>Xp (by rintro rfl;rw[h]at e;cases e)⟩,q⟩
 mono:=fun x σ H Q Q' m q=>m _ _ q
theorem Rh {f:List (Option Nat)}:TgsOk f Ms where
 keep:=fun xs σ H Q ⟨e,q⟩=>⟨e,⟨rfl,fun _ _ _=>rfl⟩,q⟩
 mono:=fun xs σ H Q Q' m ⟨e,q⟩=>⟨e,m _ _ q⟩
theorem Bz {f:List (Option Nat)}{t:TG}{u:TGs}(h1:TgOk f t)(h2:TgsOk f u):TgsOk f (M4 t u) where
 keep:=fun xs σ H Q ⟨v,r,e,q⟩=>⟨v,r,e,h1.mono _ _ _ _ _ (fun σ1 H1 z=>h2.mono _ _ _ _ _ (fun σ2 H2 y=>⟨⟨y.1.1.trans z.1.1,fun i j ef=>(y.1.2 i j ef).trans (z.1.2 i j ef)⟩,y.2⟩) (h2.keep _ _ _ _ z.2)) (h1.keep _ _ _ _ q)⟩
 mono:=fun xs σ H Q Q' m ⟨v,r,e,q⟩=>⟨v,r,e,h1.mono _ _ _ _ _ (fun σ1 H1 z=>h2.mono _ _ _ _ _ m z) q⟩
theorem NT {f:List (Option Nat)}{K:W.Frag}{n:Nat}{t:TGs}(h:TgsOk f t):TgOk f (Mm K n t) where
 keep:=fun x σ H Q ⟨a,xs,e,q,l,z⟩=>⟨a,xs,e,q,l,h.keep _ _ _ _ z⟩
 mono:=fun x σ H Q Q' m ⟨a,xs,e,q,l,z⟩=>⟨a,xs,e,q,l,h.mono _ _ _ _ _ m z⟩
def PCs (X:Cx)(ifs:Qi)(tc:TT):Prop :=
 ∀(XaU:Qc) (s:Shared) (σ:St) (H:Hp) (Q:Bool->Hp->Prop),Qq X XaU σ H s->tc σ H Q ->
  wpAny (model X.prog X.w) X.A (forIn ifs true fun c r=>if r=true then do let ok <- isTrue c X.env (eval c X.env);pure (ForInStep.yield ok) else pure (ForInStep.yield r)) (TP X XaU σ Q) X.xe s
def Ws:TT:=fun _ H Q=>Q true H
def YE {X:Cx}:PCs X [] Ws:=fun _ _ _ H _ I h=>wpAny_tests_nil ⟨H,I,h⟩
def Bq {X:Cx}{c:Expr}{tc:TT}(h:PT X c tc):PCs X [c] tc:=fun XaU s σ H Q I q=>wpAny_tests_one (h XaU s σ H Q I q)
def Ix {prog:Program}{w:World}{A:Around}{R:Result->Shared->Prop}{s:Shared}{elt target iter:Expr}{ifs:Qi}{scope:Scope}{pos:Pos}{it acc:Value}{env:Env}(I:Nat->Shared->Prop)
 (turn:∀n s,I n s->wpAny (model prog w) A (pyNext it) (fun r b6=>match r with
  |none=>R (.ok .next) b6
  | some v=>wpAny (model prog w) A (letOwnedTupleGo target it v) (fun _ s₁'=>wpAny (model prog w) A (assign target env v) (fun _ b7 =>
   wpAny (model prog w) A (forIn ifs true fun c r=>if r=true then do let ok <- isTrue c env (eval c env);pure (ForInStep.yield ok) else pure (ForInStep.yield r)) (fun ok b9 =>
    if ok=true then wpAny (model prog w) A (eval elt env) (fun x bq =>
     wpAny (model prog w) A (call (.builtin "list.append") [acc,x]) (fun _ c8 => ∃m,m<n/\I m c8) (fun _ _=>False) bq) (fun _ _=>False) b9
    else ∃m,m<n/\I m b9) (fun _ _=>False) b7) (fun _ _=>False) s₁') (fun _ _=>False) b6) (fun _ _=>False) s)
 (n:Nat) (h:I n s) :
 codeAny (model prog w) A (.compLoop (.ListComp elt [⟨target,iter,ifs,0⟩] scope pos) 0 it acc env) R s:=by
 refine codeAny_loop rfl I (fun n s hI=>?_) n h;show wpAny _ A ((compTurn (.ListComp elt [⟨target,iter,ifs,0⟩] scope pos) 0 it acc env).onRaise (fun x=>do noteFrame x env;theTreesLotGoes x)) _ _ s;refine wpAny_noted ?_;rw[compTurn_list];refine Xc (wpAny_standAt (Xc (wpAny_mono (turn n s hI) (fun r b6 b8=>?_) fun _ _ h'=>h'.elim)))
 cases r with
 |none=>exact Xq b8
 |some v =>
   refine Xc (wpAny_mono b8 (fun _ s₁' h₁'=>?_) fun _ _ h'=>h'.elim);refine Xc (wpAny_mono h₁' (fun _ b7 bj=>Xc (wpAny_mono bj (fun ok b9 bv=>?_) fun _ _ h'=>h'.elim)) fun _ _ h'=>h'.elim)
   cases ok with
   |false=>exact Xq ⟨rfl,bv⟩
   |true =>
     exact Xc (Xc (wpAny_mono bv (fun x bq d5=>Xc (wpAny_mono d5 (fun _ c8 d6=>Xq (Xq ⟨rfl,d6⟩)) fun _ _ h'=>h'.elim)) fun _ _ h'=>h'.elim))
theorem Qq.track {X:Cx}{XaU:Qc}{σ:St}{H:Hp}{s:Shared}{a:Addr}{o:HO}(I:Qq X XaU σ H s)(hn:H a=none)(h0:X.s₀.heap.objs.size<=a)(hL:a≠X.env.locals)(hC:∀x c,X.env.cells.lookup x=some c->c≠a)
 (hp:∀p∈X.pn++XaU,p.1≠a) (new:Z3 X.prog X.w (upd H a o) s.heap a o):Qq X XaU σ (upd H a o) s where
 ok:=I.ok
 os:=I.os
 bare:=I.bare
 base :=
  { keep:=I.base.keep
    slot:=I.base.slot
    free:=fun b ob q n hx=>by rw[Qs (Xr (Xn (Xj q) h0))];exact I.base.free b ob q n hx
    there:=I.base.there
    tups:=fun b xs q=>by have z:=I.base.tups b xs q;rw[Qs (Zp z hn)];exact z
    tupo:=I.base.tupo
    frzs:=fun b u xs q=>by have z:=I.base.frzs b u xs q;rw[Qs (Zp z hn)];exact z
    tbls:=fun b ps q=>by obtain⟨more,z⟩:=I.base.tbls b ps q;exact⟨more,by rw[Qs (Zp z hn)];exact z⟩ }
 loc:=I.loc
 cell:=I.cell
 free:=by rw[Qs hL.symm];exact I.free
 freeC:=fun x c e=>by rw[Qs (hC x c e)];exact I.freeC x c e
 pin:=fun p hp'=>by obtain⟨e,n,r⟩:=I.pin p hp';exact⟨e,by rw[Qs (hp p hp')];exact n,r⟩
 hok:=fun b u e=>by
  by_cases hb:b=a
  ·subst hb;rw[QC]at e;cases e;exact new
  ·rw[Qs hb]at e
   exact(I.hok b u e).stay (fun _ _ _ q=>q) (fun c q=>by rw[Qs (Zp q hn)];exact q) fun c xs q=>by rw[Qs (Zp q hn)];exact q
 len:=I.len
def LCw (f:List (Option Nat))(g:TG)(tc:TT)(te:TE)(σ:St)(J:It)(Q:VK)(H1:Hp):Prop :=
 ∃W:Nat->Nat->List V->Hp->Prop,(∃m,W 0 m [] H1)/\∀i m ys H,W i m ys H ->
  (J.stop i H/\∀p,H p=none->Q (.ref p) (upd H p (.lst ys))) \/
  (J.go i H/\∀x H',J.yld i H x H'->g x (VI f σ) H' fun σ2 H2=>tc σ2 H2 fun b H3 =>
   if b=true then te σ2 H3 fun y H4=>ys.length<sizeLine/\∃m',m'<m/\W (i+1) m' (ys++[y]) H4
   else ∃m',m'<m/\W (i+1) m' ys H3)
def tLC (f:List (Option Nat))(wi:TI)(g:CIn->TG)(tc:CIn->TT)(te:CIn->TE):TE:=fun σ H Q=>wi σ H fun J H1=>∀c:CIn,LCw f (g c) (tc c) (te c) σ J Q H1
abbrev Ys (its:Qe) (k:Nat):Obj:={ cls:=.type "list",data:=.seq its.toArray k }
structure TurnX (X:Cx)(tg:Expr)(J:It)(fp:Qg)(it:Addr)(tn:Nat->Heap->Prop):Prop where
 mem:it∈fp
 obj:∀i h,tn i h->∀b∈fp,∃o,h.get? b=some o/\∀v,o.data≠.cell v
 keep:∀i h h',tn i h->(∀b∈fp,∀o,h.get? b=some o->h'.get? b=some o)->tn i h'
 item:∀(X':Cx),X'.prog=X.prog->X'.w=X.w->X'.K=X.K->X'.A=X.A->X'.calm=X.calm->∀(i:Nat) (XaU:Qc) (s:Shared) (σ:St) (H:Hp) (E:Qb),Qq X' XaU σ H s->(∀b∈fp,Yf X' XaU H b)->tn i s.heap->J.go i H ->
  wpAny (model X.prog X.w) X'.A (pyNext (.ref it)) (fun r s1=>∃u,r=some u /\
   wpAny (model X.prog X.w) X'.A (letOwnedTupleGo tg (.ref it) u) (fun _ s2=>∃x H',Qq X' XaU σ H' s2/\QH x u/\J.yld i H x H'/\tn (i+1) s2.heap/\∀b∈fp,H' b=none) E s1) E s
 done:∀(X':Cx),X'.prog=X.prog->X'.w=X.w->X'.K=X.K->X'.A=X.A->X'.calm=X.calm->∀(i:Nat) (XaU:Qc) (s:Shared) (σ:St) (H:Hp) (E:Qb),Qq X' XaU σ H s->(∀b∈fp,Yf X' XaU H b)->tn i s.heap->J.stop i H ->
  wpAny (model X.prog X.w) X'.A (pyNext (.ref it)) (fun r s1=>r=none/\Qq X' XaU σ H s1) E s
 self:∀(A:Around) (i:Nat) (s:Shared) (Q:Qb) (E:Qb),tn i s.heap->Q (.ref it) s->wpAny (model X.prog X.w) A (pyIter (.ref it)) Q E s
def KI (X:Cx)(XaU:Qc)(σ:St)(tg:Expr)(R:It->Hp->Prop)(itv:Value)(s2:Shared):Prop :=
 ∃(it:Addr) (fp:Qg) (tn:Nat->Heap->Prop) (J:It) (H':Hp),itv=.ref it/\Qq X XaU σ H' s2/\TurnX X tg J fp it tn/\tn 0 s2.heap/\(∀b∈fp,Yf X XaU H' b)/\R J H'
def PIH (X:Cx)(tg iter:Expr)(wi:TI):Prop :=
 ∀(XaU:Qc) (s:Shared) (σ:St) (H:Hp) (R:It->Hp->Prop),Qq X XaU σ H s->wi σ H R ->
  wpAny (model X.prog X.w) X.A (eval iter X.env) (fun v s1=>wpAny (model X.prog X.w) X.A (pyIter v) (KI X XaU σ tg R) X.xe s1) X.xe s
def Turn.x {X:Cx}{tg:Expr}{J:It}{fp:Qg}{it:Addr}{tn:Nat->Heap->Prop}(T:Turn X.prog X.w X.K tg J fp it tn)(hc:X.calm=true):TurnX X tg J fp it tn :=
 ⟨T.mem,T.obj,T.keep,fun X' hP hw hK _ h=>T.item X' hP hw hK (h.trans hc),fun X' hP hw hK _ h=>T.done X' hP hw hK (h.trans hc),T.self⟩
def PI.x {X:Cx}{tg iter:Expr}{wi:TI}(h:PI X tg iter wi)(hc:X.calm=true):PIH X tg iter wi:=fun XaU s σ H R I q=>QA (h XaU s σ H R I q) fun v s1 h1=>QA h1 fun v s2 ⟨it,fp,tn,J,H',e,I',T,r⟩=>⟨it,fp,tn,J,H',e,I',T.x hc,r⟩
section
variable {X:Cx}{XaU:Qc}{σ:St}{H2:Hp}{b7:Shared}
def R3 {tg iter elt:Expr}{ifs:Qi}{scope:Scope}{pos:Pos}{N:Qh}{f:List (Option Nat)}{g:CIn->TG}{tc:CIn->TT}{te:CIn->TE}{cl:List (Str×Addr)}
 (ck:CompOk X.N X.env.scope N f scope)
 (hg:∀c,PG (ZH X N scope c) tg (g c)) (ht:∀c,TgOk f (g c)) (hcs:∀c,PCs (ZH X N scope c) ifs (tc c)) (he:∀c,PE (ZH X N scope c) elt (te c))
 (I2:Qq X XaU σ H2 b7) {it:Addr} {fp:Qg} {tn:Nat->Heap->Prop} {J:It} (T:TurnX X tg J fp it tn) (st:tn 0 b7.heap) (f2:∀b∈fp,Yf X XaU H2 b)
 {Q:VK} (hq:∀c:CIn,LCw f (g c) (tc c) (te c) σ J Q H2)
 (hcl1:∀x c,cl.lookup x=some c->X.env.cells.lookup x=some c) (hcl2:∀p∈scope.names,p.2=NameKind.free->∃c,cl.lookup p.1=some c)
 {RR:Value->Addr->Result->Shared->Prop} {E:Qb}
 (hRR:∀(acc C:Addr) (H':Hp) (s':Shared) (m':Str->Qf),s'.heap.Ns C m'->Qq X XaU σ H' s'->H' C=none->C≠X.env.locals->X.s₀.heap.objs.size<=C->(∀x c,X.env.cells.lookup x=some c->c≠C) ->
  (∀p∈X.pn++XaU,p.1≠C)->Q (.ref acc) H'->RR (.ref acc) C (.ok .next) s') :
 wpAny (model X.prog X.w) X.A (newList []) (fun acc b9=>wpAny (model X.prog X.w) X.A (newFunctionEnv scope X.env.globals cl [] X.env.qual none .none (some X.env)) (fun cenv bq =>
  codeAny (model X.prog X.w) X.A (.compStart (.ListComp elt [⟨tg,iter,ifs,0⟩] scope pos) 0 (.ref it) acc { cenv with scope:=relabel scope X.env }) (RR acc cenv.locals) bq) E b9) E b7:=by
 refine wpAny_newObj_type (wpAny_newFunctionEnv ck.nocell (by intro y hy;simp at hy) (fun b8 bw bz=>?_) ck.kind);dsimp only at bw bz ⊢;have I3:Qq X XaU σ H2 { b7 with heap:=b7.heap.push (Ys [] 0) }:=I2.kept (t':=b7.toks) fun b u e=>Xi _ e;have hD:(b7.heap.push (Ys [] 0)).get? b7.heap.objs.size=some (Ys [] 0):=XD _ rfl;generalize hs3:({ b7 with heap:=b7.heap.push (Ys [] 0) }:Shared)=b9 at I3 bw bz ⊢;have hp3:b7.heap.push (Ys [] 0)=b9.heap:=by rw[<- hs3]
 have hp3':b7.heap.push { cls:=.type "list",dict:=none,data:=.seq ([]:Qe).toArray }=b9.heap:=hp3;rw[hp3]at hD;simp only[hp3']at bw bz ⊢;have sz3:b7.heap.objs.size<b9.heap.objs.size:=by rw[<- hp3,W8];exact WA _
 have k3:∀b u,b7.heap.get? b=some u->b9.heap.get? b=some u:=fun b u e=>by rw[<- hp3];exact Xi _ e
 have k1:∀b u,b9.heap.get? b=some u->b8.get? b=some u:=fun b u e =>
  bz.extBut b u (Xr (Xj e)) (Xi _ e)
 have fpo:∀b∈fp,b<b7.heap.objs.size:=fun b hb=>by
  obtain⟨o,e,_⟩:=T.obj 0 _ st b hb;exact Xj e
 have st1:tn 0 b8:=T.keep _ _ _ st fun b hb o e=>k1 b o (k3 b o e);have fneC:∀b∈fp,b≠b9.heap.objs.size:=fun b hb=>Xr (Nat.lt_trans (fpo b hb) sz3);have fneD:∀b∈fp,b≠b7.heap.objs.size:=fun b hb=>Xr (fpo b hb)
 have cneD:∀x d,X.env.cells.lookup x=some d->d≠b7.heap.objs.size:=fun x d e=>by
  obtain⟨v,z⟩:=I2.cell x d e;exact Xr z.lt
 have pneD:∀p∈X.pn++XaU,p.1≠b7.heap.objs.size:=fun p hp=>Xr (Xj (I2.pin p hp).1);have freeD:H2 b7.heap.objs.size=none:=I2.fresh
 have stk:∀b,b≠X.env.locals->b∉X.fs->b∉frs X.stack:=fun b h1 h2 hb=>by
  rcases Xe.mp (I3.stkSub b hb) with z|z
  ·exact h1 z
  ·exact h2 z
 have exD:∀b,b∈b7.heap.objs.size::fp->b=b7.heap.objs.size\/b∈fp:=fun b hb=>Xe.mp hb
 let c:CIn:=⟨cl,b9.heap.objs.size,b9,H2,b7.heap.objs.size::fp,X.pn++XaU⟩
 have okX:(ZH X N scope c).Ok :=
  { mod:=I3.ok.mod
    kind:=ck.kind
    glob:=I3.ok.glob
    blt:=I3.ok.blt
    above:=Xs _
    inj:=fun x y d h1 h2=>I3.ok.inj x y d (hcl1 x d h1) (hcl1 y d h2)
    has:=fun x hx=>by
     rcases P2 hx with z|z
     ·exact hcl2 (x,.free) (PySem.mem_of_lookup z) rfl
     ·exact Xl rfl (ck.nocell (x,.cell) (PySem.mem_of_lookup z))
    cab:=fun x d h=>Xl (show false=true from h) Xv
    hd:=I3.ok.hd
    frames:=I3.ok.frames
    stk:=.inl rfl
    exf:=fun b hb=>by
     rcases exD b hb with rfl|hb
     ·exact⟨Xr sz3,fun x d e=>cneD x d (hcl1 x d e)⟩
     ·exact⟨fneC b hb,fun x d e=>(f2 b hb).2.2.2.2.1 x d (hcl1 x d e)⟩
    bs:=fun b o e=>I3.bs b o e
    bsz:=X8 I3.ok.bsz I3.sz
    noex:=fun b o e hb=>by
     rcases exD b hb with rfl|hb
     ·exact Xl (Xj (I2.bk _ _ e)) (Yc _)
     ·rcases(f2 b hb).2.2.2.1 with z|z
      ·exact I3.ok.noex b o e z
      ·exact Xl (Xn (Xj (I3.ok.bs b o e).1) z) (Yc _)
    exfs:=fun b hb=>by
     rcases exD b hb with rfl|hb
     ·exact stk _ (VU I2.lt) (I2.nofs (Xs _))
     ·exact stk b (f2 b hb).2.1 (f2 b hb).2.2.1
    funs:=I3.stack
    frf:=I3.stkFree }
 have I4:Qq (ZH X N scope c) [(b7.heap.objs.size,Ys [] 0)] (VI f σ) H2 { b9 with heap:=b8,toks:=b9.toks+([]:List (Str×Value)).length } :=
  { ok:=okX
    os:=rfl
    bare:=I3.bare
    base:=Un.kept k1
    loc:=⟨_,bw,fun i x v e1 e2 e3=>by
     have hfi:∃j,f[i]?=some (some j)/\σ[j]?=some (some v):=by
      unfold VI at e2;rw[Xt]at e2;cases ef:f[i]? with
      |none=>rw[ef]at e2;cases e2
      |some o =>
        rw[ef]at e2;cases o with
        |none=>cases e2
        |some j =>
          refine⟨j,rfl,?_⟩;have e2':(σ[j]?).join=some v:=Option.some.inj e2
          cases es:σ[j]? with
          |none=>rw[es]at e2';cases e2'
          |some o2 =>
            rw[es]at e2';have:o2=some v:=e2';rw[this]
     obtain⟨j,ef,es⟩:=hfi;obtain⟨x',n1,n2,n3⟩:=ck.ix i j ef
     have:x'=x:=Option.some.inj (n1.symm.trans e1)
     subst this;have hfr:=ck.free (x',.free) (PySem.mem_of_lookup n3) rfl;obtain⟨m0,hm0,hl0⟩:=I3.loc;obtain⟨u,ru,lk⟩:=hl0 j x' v n2 es (hfr.elim (fun z=>.inr (.inl z)) fun z=>.inr (.inr z));refine⟨u,ru,.inr ⟨P3 n3,?_⟩⟩
     rcases lk with ⟨kl,_⟩|⟨_,d,ed,hd⟩
     ·have kl':X.env.scope.names.lookup x'=some .local:=kl
      rcases hfr with z|z
      ·rw[kl']at z;cases z
      ·rw[kl']at z;cases z
     ·obtain⟨d',ed'⟩:=hcl2 (x',.free) (PySem.mem_of_lookup n3) rfl
      have:d'=d:=Option.some.inj ((hcl1 x' d' ed').symm.trans ed)
      subst this;exact⟨d',ed',hd.keeps k1⟩⟩
    cell:=fun x d e=>by
     obtain⟨v,z⟩:=I3.cell x d (hcl1 x d e)
     exact⟨v,z.keeps k1⟩
    free:=I3.fresh
    freeC:=fun x d e=>I3.freeC x d (hcl1 x d e)
    pin:=fun p hp=>by
     rcases XG.mp (show p∈(X.pn++XaU)++[(b7.heap.objs.size,Ys [] 0)] from hp) with hp'|hp'
     ·obtain⟨e,n,ne,nf,d⟩:=I3.pin p hp'
      exact⟨k1 _ _ e,n,Xr (Xj e),stk p.1 ne nf,d⟩
     ·have z:p=(b7.heap.objs.size,Ys [] 0):=Xh.mp hp'
      subst z;exact⟨k1 _ _ hD,freeD,Xr sz3,stk _ (VU I2.lt) (I2.nofs (Xs _)),fun v z=>nomatch (show Data.seq _ _=Data.cell v from z)⟩
    hok:=I3.hok.kept k1
    len:=by
     show(VI f σ).length=N.length
     unfold VI;rw[Xm];exact ck.len }
 have back:∀{σ':St} {H':Hp} {s':Shared} {ps:Qc},Qq (ZH X N scope c) ps σ' H' s'->Qq X XaU σ H' s':=fun{σ' H' s' ps} J' =>
  I3.call' (ch:=b7.heap.objs.size::fp) J'.os J'.base J'.hok J'.bare fun b hb=>by
   rcases exD b hb with rfl|hb
   ·exact⟨.inr I2.sz,VU I2.lt,cneD,pneD⟩
   ·exact⟨(f2 b hb).2.2.2.1,(f2 b hb).2.1,(f2 b hb).2.2.2.2.1,(f2 b hb).2.2.2.2.2⟩
 have fpX:∀{H':Hp} {ob:Obj},(∀b∈fp,H' b=none)->∀b∈fp,Yf (ZH X N scope c) [(b7.heap.objs.size,ob)] H' b:=fun{H' ob} hn b hb =>
  ⟨hn b hb,(okX.exf b (Xf _ hb)).1,okX.exfs b (Xf _ hb),.inl (Xf _ hb),(okX.exf b (Xf _ hb)).2,fun p hp=>by
   rcases XG.mp (show p∈(X.pn++XaU)++[(b7.heap.objs.size,ob)] from hp) with z|z
   ·exact(f2 b hb).2.2.2.2.2 p z
   ·have z:p=(b7.heap.objs.size,ob):=Xh.mp z
    subst z;exact(fneD b hb).symm⟩
 obtain⟨W,⟨m0,w0⟩,turn⟩:=hq c
 have loop:∀s,s=({ b9 with heap:=b8,toks:=b9.toks+([]:List (Str×Value)).length }:Shared) ->
  codeAny (model X.prog X.w) X.A (.compLoop (.ListComp elt [⟨tg,iter,ifs,0⟩] scope pos) 0 (.ref it) (.ref b7.heap.objs.size) (compEnvC scope cl b9.heap.objs.size X.env)) (RR (.ref b7.heap.objs.size) b9.heap.objs.size) s:=by
  rintro s rfl
  refine Ix (fun n s'=>∃i H' ys its k,Qq (ZH X N scope c) [(b7.heap.objs.size,Ys its k)] (VI f σ) H' s'/\QV ys its/\ys.length<=sizeLine/\tn i s'.heap/\(∀b∈fp,H' b=none)/\W i n ys H') ?_ m0 ⟨0,_,[],[],0,I4,.nil,XN _,st1,fun b hb=>(f2 b hb).1,w0⟩
  rintro n s5 ⟨i,H5,ys,its,k,I5,rv5,hz5,st5,fr5,w5⟩
  rcases turn i n ys H5 w5 with ⟨stop,qn⟩|⟨go,step⟩
  ·refine QA (T.done (ZH X N scope c) rfl rfl rfl rfl rfl i _ s5 (VI f σ) H5 _ I5 (fpX fr5) st5 stop) fun r s6 ⟨hr,I6⟩=>?_
   subst hr;obtain⟨m6,hn6,_⟩:=id I6.loc;obtain⟨eD,nD,_⟩:=I6.pin (b7.heap.objs.size,Ys its k) (XX _ (Xh.mpr rfl));have I7:Qq X XaU σ (upd H5 b7.heap.objs.size (.lst ys)) s6:=(back I6).track nD I2.sz (VU I2.lt) cneD pneD ⟨hz5,its,k,rv5,eD⟩;refine hRR _ _ _ s6 m6 hn6 I7 (by rw[Qs (VU sz3)];exact I6.free) (VU I3.lt) I3.sz (fun x d e=>?_) (fun p hp=>?_) (qn _ nD)
   ·obtain⟨v,z⟩:=I3.cell x d e
    exact Xr z.lt
   ·exact Xr (Xj (I3.pin p hp).1)
  ·refine QA (T.item (ZH X N scope c) rfl rfl rfl rfl rfl i _ s5 (VI f σ) H5 _ I5 (fpX fr5) st5 go) fun r s6 ⟨u,hr,h6⟩=>?_
   subst hr;refine QA h6 fun _ s7 ⟨x,H7,I7,r7,y7,st7,fr7⟩=>?_;have I7':=I7.pinned (fpX fr7) (T.obj _ _ st7);refine QA (hg c _ s7 (VI f σ) H7 x u _ I7' r7 ((ht c).keep _ _ _ _ (step x H7 y7))) fun _ s8 ⟨σ8,H8,I8,kp8,q8⟩=>?_
   have wk:∀(j:Nat) v,(VI f σ)[j]?=some (some v)->σ8[j]?=some (some v):=fun j v e=>by
    have ef:∃k,f[j]?=some (some k):=by
     have e':=e;unfold VI at e';rw[Xt]at e';cases q:f[j]? with
     |none=>rw[q]at e';cases e'
     |some o =>
       cases o with
       |none=>rw[q]at e';cases e'
       |some k=>exact⟨k,rfl⟩
    obtain⟨k,ef⟩:=ef;rw[kp8.2 j k ef];exact e
   have recs:∀{H9:Hp} {s9:Shared} {ob:Obj},Qq (ZH X N scope c) ([(b7.heap.objs.size,ob)]++Gd fp s7.heap) σ8 H9 s9->tn (i+1) s9.heap/\∀b∈fp,H9 b=none:=fun{H9 s9 ob} I9 =>
    ⟨T.keep _ _ _ st7 fun b hb o e=>(I9.pin (b,o) (XX _ (XX _ (BL hb e)))).1,fun b hb=>by
     obtain⟨o,e,d⟩:=T.obj _ _ st7 b hb
     exact(I9.pin (b,o) (XX _ (XX _ (BL hb e)))).2.1⟩
   refine QA (hcs c _ s8 σ8 H8 _ I8 q8) fun ok s9 ⟨H9,I9,q9⟩=>?_
   cases ok with
   |false =>
     obtain⟨m',hm,w9⟩:=(show ∃m',m'<n/\W (i+1) m' ys H9 from q9);obtain⟨z1,z2⟩:=recs I9
     exact⟨m',hm,i+1,H9,ys,its,k,(I9.unpinned).weak kp8.1.symm wk,rv5,hz5,z1,z2,w9⟩
   |true =>
     refine QA (he c _ s9 σ8 H9 _ I9 (show te c σ8 H9 _ from q9)) fun v s10 ⟨y,H10,I10,r10,hlen,m',hm,w10⟩=>?_;obtain⟨eD,nD,neD,nfD,dD⟩:=I10.pin (b7.heap.objs.size,Ys its k) (XX _ (UB _ (Xh.mpr rfl)));obtain⟨z1,z2⟩:=recs I10;have lv:=rv5.length;refine call_meets F.slot_list_append ⟨_,eD,rfl⟩ F.entry_list_append (F.args_list_append_2 _ _) (PySem.list_append b7.heap.objs.size its.toArray k v (by rw[Xx];omega)) ⟨eD,?_⟩;have q:=PySem.IsL.update eD (·.push v);have hf:its.toArray.push v=(its++[v]).toArray:=by simp
     rw[hf]at q;have I11:Qq (ZH X N scope c) [] σ8 H10 { s10 with heap:=s10.heap.update b7.heap.objs.size (Obj.mapSeq (·.push v)) } :=
      (I10.pins_of (pins':=[]) fun p hp=>Xl hp (by simp)).turned (t':=s10.toks) (it:=b7.heap.objs.size) (fun b o hb e=>(XW s10.heap (Obj.mapSeq (·.push v)) (Ne.symm hb)).trans e) nD neD (.inl Xa) (okX.exf _ Xa).2 fun p hp=>by
       have z:p∈(X.pn++XaU)++[]:=hp;rw[Xz]at z;exact pneD p z
     have I12:Qq (ZH X N scope c) [(b7.heap.objs.size,Ys (its++[v]) _)] σ8 H10 { s10 with heap:=s10.heap.update b7.heap.objs.size (Obj.mapSeq (·.push v)) } :=
      I11.pins_of fun p hp=>by
       have z:p=(b7.heap.objs.size,_):=Xh.mp hp;subst z;exact⟨q,nD,neD,nfD,fun v z=>nomatch (show Data.seq _ _=Data.cell v from z)⟩
     refine⟨m',hm,i+1,H10,ys++[y],its++[v],_,I12.weak kp8.1.symm wk,rv5.append (.cons r10 .nil),by rw[Xo,List.length_singleton];omega,?_,z2,w10⟩;exact T.keep _ _ _ z1 fun b hb o e=>(XW s10.heap (Obj.mapSeq (·.push v)) (fneD b hb).symm).trans e
 exact codeAny_compStart_list (loop _ (by rw[<- hs3])) (T.self _ 0 _ _ _ st1 (loop _ (by rw[<- hs3])))
def PY {tg iter elt:Expr}{ifs:Qi}{scope:Scope}{pos:Pos}{NX:Qh}{sc:Scope}{N:Qh}{f:List (Option Nat)}{wi:TI}{g:CIn->TG}{tc:CIn->TT}{te:CIn->TE}
 (ck:Ud NX sc N f scope=true) (hNX:X.N=NX) (hsc:X.env.scope=sc) (hi:PIH X tg iter wi)
 (hg:∀c,PG (ZH X N scope c) tg (g c)) (ht:∀c,TgOk f (g c)) (hcs:∀c,PCs (ZH X N scope c) ifs (tc c)) (he:∀c,PE (ZH X N scope c) elt (te c))
 (hs:∀x,foldedSetIterable iter X.env x=pure x:=by intro _;rfl):PE X (.ListComp elt [⟨tg,iter,ifs,0⟩] scope pos) (tLC f wi g tc te):=by
 subst hNX hsc;intro XaU s σ H Q I h;have ck':=SJ ck;obtain⟨cl,hclos,hcl1,hcl2⟩:=Pn (scope:=scope) (env:=X.env) fun p hp hf=>I.ok.has p.1 (ck'.free p hp hf);rw[eval_ListComp];refine wpAny_comprehension_free (use:=none) rfl hs hclos ck'.kind ck'.names (QA (hi XaU s σ H _ I h) fun xv b6 b8=>QA b8 fun itv b7 bj=>?_);obtain⟨it,fp,tn,J,H2,e,I2,T,st,f2,hq⟩:=bj;subst e;refine R3 (RR:=fun acc C=>compPost (model X.prog X.w) X.A X.xe none (EP X XaU σ Q) acc C) ck' hg ht hcs he I2 T st f2 hq hcl1 hcl2 ?_;intro acc C H' s' m' hn I' hC hL h0 h1 h2 q;exact⟨m',hn,fun h'' hs''=>⟨.ref acc,H',I'.turned (t':=s'.toks) (fun b o hb e=>(hs''.2 b hb).trans e) hC hL (.inr h0) h1 h2,rfl,q⟩⟩
def Y8 {tg iter elt:Expr}{ifs:Qi}{scope:Scope}{pos:Pos}{NX:Qh}{sc:Scope}{N:Qh}{f:List (Option Nat)}{wi:TI}{g:CIn->TG}{tc:CIn->TT}{te:CIn->TE}
 (hc:X.calm=true) (ck:Ud NX sc N f scope=true) (hNX:X.N=NX) (hsc:X.env.scope=sc) (hi:PI X tg iter wi)
 (hg:∀c,PG (ZH X N scope c) tg (g c)) (ht:∀c,TgOk f (g c)) (hcs:∀c,PCs (ZH X N scope c) ifs (tc c)) (he:∀c,PE (ZH X N scope c) elt (te c))
 (hs:∀x,foldedSetIterable iter X.env x=pure x:=by intro _;rfl):PE X (.ListComp elt [⟨tg,iter,ifs,0⟩] scope pos) (tLC f wi g tc te) :=
 PY ck hNX hsc (hi.x hc) hg ht hcs he hs
def Hh {i:Nat}{x:Str}{px spos:Pos}{tg iter elt:Expr}{ifs:Qi}{scope:Scope}{pos:Pos}{NX:Qh}{sc:Scope}{N:Qh}{f:List (Option Nat)}{wi:TI}{g:CIn->TG}{tc:CIn->TT}{te:CIn->TE}
 (hN:X.N.Nodup) (hix:X.N[i]?=some x) (hx:X.env.scope.names.lookup x=some .local)
 (ck:Ud NX sc N f scope=true) (hNX:X.N=NX) (hsc:X.env.scope=sc) (hi:PIH X tg iter wi)
 (hg:∀c,PG (ZH X N scope c) tg (g c)) (ht:∀c,TgOk f (g c)) (hcs:∀c,PCs (ZH X N scope c) ifs (tc c)) (he:∀c,PE (ZH X N scope c) elt (te c))
 (hsw:swapsWith (.ListComp elt [⟨tg,iter,ifs,0⟩] scope pos) (some (.Name x px)) spos.line X.env=pure true)
 (hs:∀x,foldedSetIterable iter X.env x=pure x:=by intro _;rfl):PS X (.Assign [.Name x px] (.ListComp elt [⟨tg,iter,ifs,0⟩] scope pos) spos) (ZJ (tLC f wi g tc te) (ZC i)):=by
 subst hNX hsc;intro XaU s σ H D I h;have ck':=SJ ck;obtain⟨cl,hclos,hcl1,hcl2⟩:=Pn (scope:=scope) (env:=X.env) fun p hp hf=>I.ok.has p.1 (ck'.free p hp hf);rw[exec_Assign_Name_used _ _ _ _ hsw];refine Xc (wpAny_standAt (Xc ?_));show wpAny _ X.A (do let _ <- comprehension (.ListComp elt [⟨tg,iter,ifs,0⟩] scope pos) scope X.env _ (newList []) false (eval iter X.env) (some (assign (.Name x px) X.env))) _ _ s
 refine Xc (wpAny_mono (wpAny_comprehension_free (use:=some (assign (.Name x px) X.env)) (Q:=fun _ s'=>SP X XaU D .next s') rfl hs hclos ck'.kind ck'.names
  (QA (hi XaU s σ H _ I h) fun xv b6 b8=>QA b8 fun itv b7 bj=>?_)) (fun _ s' hq=>Xq (Xq hq)) fun _ _ e=>e)
 obtain⟨it,fp,tn,J,H2,e,I2,T,st,f2,hq⟩:=bj;subst e;refine R3 (RR:=fun acc C=>compPost (model X.prog X.w) X.A X.xe (some (assign (.Name x px) X.env)) (fun _ s'=>SP X XaU D .next s') acc C) ck' hg ht hcs he I2 T st f2 hq hcl1 hcl2 ?_;intro acc C H' s' m' hn I' hC hL h0 h1 h2 q;show wpAny _ X.A (assign (.Name x px) X.env (.ref acc)) _ _ _;refine wpAny_assign_Name (Sr I' hN hix (.inl hx) (v:=.ref acc) rfl (fun s'' I'' ⟨a,sb,ha⟩=>?_) (.inr hx))
 have nC:C≠a:=by
  rcases ha with z|z
  ·rw[z];exact hL
  ·exact(h1 _ _ z).symm
 refine⟨m',hn.sameBut sb nC,fun h'' hs''=>?_⟩
 exact⟨_,H',I''.turned (t':=s''.toks) (fun b o hb e=>(hs''.2 b hb).trans e) hC hL (.inr h0) h1 h2,q⟩
def Sq {i:Nat}{x:Str}{px spos:Pos}{tg iter elt:Expr}{ifs:Qi}{scope:Scope}{pos:Pos}{NX:Qh}{sc:Scope}{N:Qh}{f:List (Option Nat)}{wi:TI}{g:CIn->TG}{tc:CIn->TT}{te:CIn->TE}
 (hN:X.N.Nodup) (hix:X.N[i]?=some x) (hx:X.env.scope.names.lookup x=some .local)
 (hc:X.calm=true) (ck:Ud NX sc N f scope=true) (hNX:X.N=NX) (hsc:X.env.scope=sc) (hi:PI X tg iter wi)
 (hg:∀c,PG (ZH X N scope c) tg (g c)) (ht:∀c,TgOk f (g c)) (hcs:∀c,PCs (ZH X N scope c) ifs (tc c)) (he:∀c,PE (ZH X N scope c) elt (te c))
 (hsw:swapsWith (.ListComp elt [⟨tg,iter,ifs,0⟩] scope pos) (some (.Name x px)) spos.line X.env=pure true)
 (hs:∀x,foldedSetIterable iter X.env x=pure x:=by intro _;rfl):PS X (.Assign [.Name x px] (.ListComp elt [⟨tg,iter,ifs,0⟩] scope pos) spos) (ZJ (tLC f wi g tc te) (ZC i)) :=
 Hh hN hix hx ck hNX hsc (hi.x hc) hg ht hcs he hsw hs
end
section
variable {f:List (Option Nat)}{g:TG}{tc:TT}{te:TE}{σ:St}{Q:VK}{H1:Hp}{K:W.Frag}{a:Addr}{xs:List V}
end
mutual
inductive Rep (H:Hp):V->PyData->Prop
 |non:Rep H .non .none
 |bl (b:Bool):Rep H (.bl b) (.bool b)
 |int (i:Int):Rep H (.int i) (.int i)
 |str (x:Str):Rep H (.str x) (.str x)
 |lst {a:Addr} {xs:List V} {ds:Qd}:H a=some (.lst xs)->Qw H xs ds->Rep H (.ref a) (.list ds)
 |tup {a:Addr} {xs:List V} {ds:Qd}:H a=some (.tup xs)->Qw H xs ds->Rep H (.ref a) (.tuple ds)
 |dct {a:Addr}:H a=some (.dK [])->Rep H (.ref a) (.dict [])
inductive Qw (H:Hp):List V->Qd->Prop
 |nil:Qw H [] []
 |cons {x:V} {xs:List V} {d:PyData} {ds:Qd}:Rep H x d->Qw H xs ds->Qw H (x::xs) (d::ds)
end
mutual
theorem Rep.mono {H H':Hp}(s:Q2 H H'):∀{v:V} {d:PyData},Rep H v d->Rep H' v d
 |_,_,.non=>.non
 |_,_,.bl b=>.bl b
 |_,_,.int i=>.int i
 |_,_,.str x=>.str x
 |_,_,.lst h r=>.lst (s _ _ h) (Qw.mono s r)
 |_,_,.tup h r=>.tup (s _ _ h) (Qw.mono s r)
 |_,_,.dct h=>.dct (s _ _ h)
theorem Qw.mono {H H':Hp}(s:Q2 H H'):∀{vs:List V} {ds:Qd},Qw H vs ds->Qw H' vs ds
 |_,_,.nil=>.nil
 |_,_,.cons r t=>.cons (Rep.mono s r) (Qw.mono s t)
end
theorem Qw.length {H:Hp}:∀{vs:List V} {ds:Qd},Qw H vs ds->vs.length=ds.length
 |_,_,.nil=>rfl
 |_,_,.cons _ t=>by simp[Qw.length t]
theorem Qw.get {H:Hp}:∀{vs:List V} {ds:Qd} {i:Nat} {d:PyData},Qw H vs ds->ds[i]?=some d->∃v,vs[i]?=some v/\Rep H v d
 |_,_,_,_,.nil,e=>by simp at e
 |_,_,0,_,.cons r _,e=>by simp at e;subst e;exact⟨_,rfl,r⟩
 |_,_,i+1,d,.cons _ t,e=>by
   obtain⟨u,h1,h2⟩:=Qw.get (i:=i) (d:=d) t (by simpa using e)
   exact⟨u,by simpa using h1,h2⟩
theorem Qw.snoc {H:Hp}{v:V}{d:PyData}:∀{vs:List V} {ds:Qd},Qw H vs ds->Rep H v d->Qw H (vs++[v]) (ds++[d])
 |_,_,.nil,h=>.cons h .nil
 |_,_,.cons r t,h=>.cons r (Qw.snoc t h)
theorem Qw.append {H:Hp}:∀{vs ws:List V} {ds es:Qd},Qw H vs ds->Qw H ws es->Qw H (vs++ws) (ds++es)
 |_,_,_,_,.nil,s=>s
 |_,_,_,_,.cons r t,s=>.cons r (Qw.append t s)
theorem Qw.set {H:Hp}{v:V}{d:PyData}(r:Rep H v d):∀{vs:List V} {ds:Qd} (i:Nat),Qw H vs ds->Qw H (vs.set i v) (ds.set i d)
 |_,_,_,.nil=>.nil
 |_,_,0,.cons _ t=>.cons r t
 |_,_,i+1,.cons q t=>.cons q (Qw.set r i t)
theorem G5 {H:Hp}:∀{vs:List V} {l:Ql},Qw H vs (l.map PyData.int)->vs=l.map V.int
 |_,[],.nil=>rfl
 |_,i::l,.cons (.int _) t=>by rw[Xu,G5 t]
section
variable {X:Cx}{XaU:Qc}{σ:St}{H:Hp}{s:Shared}
mutual
theorem Rep.reads (I:Qq X XaU σ H s):∀{v:V} {d:PyData} {u:Value},Rep H v d->QH v u->∃as,Reads s.heap u d as
 |_,_,_,.non,r=>by cases r;exact⟨_,.none⟩
 |_,_,_,.bl b,r=>by cases r;exact⟨_,.bool b⟩
 |_,_,_,.int i,r=>by obtain⟨t,rfl⟩:=r;exact⟨_,.int i t⟩
 |_,_,_,.str x,r=>by obtain⟨t,rfl⟩:=r;exact⟨_,.str x t⟩
 |_,_,_,.lst h q,r=>by
   cases r
   obtain⟨z,its,n,rv,e⟩:=I.hok _ _ h;obtain⟨as,ra⟩:=Qw.reads I q rv
   exact⟨_,.list e rfl rfl (by simpa using ra)⟩
 |_,_,_,.tup h q,r=>by
   cases r
   obtain⟨z,its,rv,o,e,c,n,dd⟩:=I.hok _ _ h;obtain⟨as,ra⟩:=Qw.reads I q rv
   exact⟨_,.tuple e c dd (by simpa using ra)⟩
 |_,_,_,.dct h,r=>by
   cases r
   obtain⟨z,y,vs,kv,ob,es,ep,e,c,dd,_,pr,_⟩:=I.hok _ _ h
   cases kv
   have ee:es.toList=[]:=List.eq_nil_of_length_eq_zero pr.length
   exact⟨_,.dict (kvs:=[]) e c.1 dd (by rw[ee];exact .nil) (by rw[ee];exact .nil)⟩
theorem Qw.reads (I:Qq X XaU σ H s):∀{vs:List V} {ds:Qd} {us:Qe},Qw H vs ds->QV vs us->∃as,ReadsAll s.heap us ds as
 |_,_,_,.nil,r=>by cases r;exact⟨_,.nil⟩
 |_,_,_,.cons q t,r=>by
   cases r with
   |cons r1 r2 =>
     obtain⟨as,ra⟩:=Rep.reads I q r1;obtain⟨bs,rb⟩:=Qw.reads I t r2
     exact⟨_,.cons ra rb⟩
end
def Vm (d:PyData):Prop:=d.canLay0=true/\d.depth<=60
def KF:R2:=fun x y H Q=>∃d e,Rep H x d/\Rep H y e/\Vm d/\Vm e/\Q (.bl (PyData.eqv d e)) H
def KL:R2:=fun x y H Q=>∃d e,Rep H x d/\Rep H y e/\Vm d/\Vm e/\Q (.bl (!PyData.eqv d e)) H
def Bc (hu:X.A.units+64<cLine):OpR X (compareOp .Eq) KF:=by
 intro XaU s σ H x y v u Q I rx ry h;obtain⟨d,e,hd,he,fd,fe,q⟩:=h;obtain⟨as,ra⟩:=hd.reads I rx;obtain⟨bs,rb⟩:=he.reads I ry;refine SeqAt.compareEq_reads ra rb fd.1 fe.1 ?_ ⟨.bl (PyData.eqv d e),H,I,rfl,q⟩;have h1:=fd.2;have h2:min d.depth e.depth<=d.depth:=Nat.min_le_left _ _;omega
def NR (hu:X.A.units+64<cLine):OpR X (compareOp .NotEq) KL:=by
 intro XaU s σ H x y v u Q I rx ry h;obtain⟨d,e,hd,he,fd,fe,q⟩:=h;obtain⟨as,ra⟩:=hd.reads I rx;obtain⟨bs,rb⟩:=he.reads I ry;refine SeqAt.compareNe_reads ra rb fd.1 fe.1 ?_ ⟨.bl (!PyData.eqv d e),H,I,rfl,q⟩;have h1:=fd.2;have h2:min d.depth e.depth<=d.depth:=Nat.min_le_left _ _;omega
end
def Uv {d:PyData}(f:Vm d):PyData.eqv d d=true:=SeqAt.eqv_refl d f.1
def NG {α:Type}{xs:List α}{i:Int}{v:α}(h:atI xs i=some v):∃j:Nat,xs[j]?=some v/\ixN xs.length i=some j:=by
 unfold atI at h;cases e:ixN xs.length i with
 |none=>rw[e]at h;cases h
 |some j=>rw[e]at h;exact⟨j,h,rfl⟩
section
variable {X:Cx}
end
inductive TyN (H:Hp):V->String->Prop
 |non:TyN H .non "NoneType"
 |bl (b:Bool):TyN H (.bl b) "bool"
 |int (i:Int):TyN H (.int i) "int"
 |str (x:Str):TyN H (.str x) "str"
 |lst {a:Addr} {xs:List V}:H a=some (.lst xs)->TyN H (.ref a) "list"
 |tup {a:Addr} {xs:List V}:H a=some (.tup xs)->TyN H (.ref a) "tuple"
 |dct {a:Addr}:H a=some (.dK [])->TyN H (.ref a) "dict"
def tyD:PyData->String
 |.none => "NoneType"
 |.bool _ => "bool"
 |.int _ => "int"
 |.str _ => "str"
 |.list _ => "list"
 |.tuple _ => "tuple"
 |.dict _ => "dict"
def Rep.ty {H:Hp}{v:V}{d:PyData}(r:Rep H v d):TyN H v (tyD d):=by
 cases r with
 |non=>exact .non
 |bl b=>exact .bl b
 |int i=>exact .int i
 |str x=>exact .str x
 |lst h _=>exact .lst h
 |tup h _=>exact .tup h
 |dct h=>exact .dct h
def Y5 (T c:String):Option Bool :=
 if c = "int" then some (T == "int" || T == "bool") else if c = "bool" then some (T == "bool") else if c = "list" then some (T == "list") else if c = "tuple" then some (T == "tuple") else if c = "str" then some (T == "str") else if c = "dict" then some (T == "dict") else none
def Fp {prog:Program} {w:World} {A:Around} {E:Qb} {s:Shared} {Q:Qb} {a:Addr} {o:Obj} {c:String} {b:Bool} (hx:s.heap.get? a=some o) (hc:o.cls=.type "list") (e:Y5 "list" c=some b) (h:∀t,Q (.bool b) { s with toks:=t }) :
 wpAny (model prog w) A (call (.builtin "isinstance") [.ref a,.type c]) Q E s:=by
 unfold Y5 at e;split at e
 ·rename_i z;subst z;cases e;exact IsiPair.list_int hx hc (h _)
 ·split at e
  ·rename_i z;subst z;cases e;exact IsiPair.list_bool hx hc (h _)
  ·split at e
   ·rename_i z;subst z;cases e;exact IsiPair.list_list hx hc (h _)
   ·split at e
    ·rename_i z;subst z;cases e;exact IsiPair.list_tuple hx hc (h _)
    ·split at e
     ·rename_i z;subst z;cases e;exact IsiPair.list_str hx hc (h _)
     ·split at e
      ·rename_i z;subst z;cases e;exact IsiPair.list_dict hx hc (h _)
      ·cases e
def Fv {prog:Program} {w:World} {A:Around} {E:Qb} {s:Shared} {Q:Qb} {a:Addr} {o:Obj} {c:String} {b:Bool} (hx:s.heap.get? a=some o) (hc:o.cls=.type "tuple") (e:Y5 "tuple" c=some b) (h:∀t,Q (.bool b) { s with toks:=t }) :
 wpAny (model prog w) A (call (.builtin "isinstance") [.ref a,.type c]) Q E s:=by
 unfold Y5 at e;split at e
 ·rename_i z;subst z;cases e;exact IsiPair.tuple_int hx hc (h _)
 ·split at e
  ·rename_i z;subst z;cases e;exact IsiPair.tuple_bool hx hc (h _)
  ·split at e
   ·rename_i z;subst z;cases e;exact IsiPair.tuple_list hx hc (h _)
   ·split at e
    ·rename_i z;subst z;cases e;exact IsiPair.tuple_tuple hx hc (h _)
    ·split at e
     ·rename_i z;subst z;cases e;exact IsiPair.tuple_str hx hc (h _)
     ·split at e
      ·rename_i z;subst z;cases e;exact IsiPair.tuple_dict hx hc (h _)
      ·cases e
def Fy {prog:Program} {w:World} {A:Around} {E:Qb} {s:Shared} {Q:Qb} {a:Addr} {o:Obj} {c:String} {b:Bool} (hx:s.heap.get? a=some o) (hc:o.cls=.type "dict") (e:Y5 "dict" c=some b) (h:∀t,Q (.bool b) { s with toks:=t }) :
 wpAny (model prog w) A (call (.builtin "isinstance") [.ref a,.type c]) Q E s:=by
 unfold Y5 at e;split at e
 ·rename_i z;subst z;cases e;exact IsiPair.dict_int hx hc (h _)
 ·split at e
  ·rename_i z;subst z;cases e;exact IsiPair.dict_bool hx hc (h _)
  ·split at e
   ·rename_i z;subst z;cases e;exact IsiPair.dict_list hx hc (h _)
   ·split at e
    ·rename_i z;subst z;cases e;exact IsiPair.dict_tuple hx hc (h _)
    ·split at e
     ·rename_i z;subst z;cases e;exact IsiPair.dict_str hx hc (h _)
     ·split at e
      ·rename_i z;subst z;cases e;exact IsiPair.dict_dict hx hc (h _)
      ·cases e
def FX {prog:Program}{w:World}{A:Around}{E:Qb}{s:Shared}{Q:Qb}{H:Hp}{x:V}{u:Value}{T c:String}{b:Bool}(ty:TyN H x T)(rx:QH x u)(hf:∀a,x≠.ref a)(e:Y5 T c=some b)(h:∀t,Q (.bool b) { s with toks:=t }) :
 wpAny (model prog w) A (call (.builtin "isinstance") [u,.type c]) Q E s:=by
 unfold Y5 at e;split at e
 ·rename_i z;subst z;cases e
  cases ty with
  |non=>cases rx;exact IsiPair.NoneType_int (h _)
  |bl b=>cases rx;exact IsiPair.bool_int (h _)
  |int i=>obtain⟨t,rfl⟩:=rx;exact IsiPair.int_int (h _)
  |str i=>obtain⟨t,rfl⟩:=rx;exact IsiPair.str_int (h _)
  |lst _=>exact Xl rfl (hf _)
  |tup _=>exact Xl rfl (hf _)
  |dct _=>exact Xl rfl (hf _)
 ·split at e
  ·rename_i z;subst z;cases e
   cases ty with
   |non=>cases rx;exact IsiPair.NoneType_bool (h _)
   |bl b=>cases rx;exact IsiPair.bool_bool (h _)
   |int i=>obtain⟨t,rfl⟩:=rx;exact IsiPair.int_bool (h _)
   |str i=>obtain⟨t,rfl⟩:=rx;exact IsiPair.str_bool (h _)
   |lst _=>exact Xl rfl (hf _)
   |tup _=>exact Xl rfl (hf _)
   |dct _=>exact Xl rfl (hf _)
  ·split at e
   ·rename_i z;subst z;cases e
    cases ty with
    |non=>cases rx;exact IsiPair.NoneType_list (h _)
    |bl b=>cases rx;exact IsiPair.bool_list (h _)
    |int i=>obtain⟨t,rfl⟩:=rx;exact IsiPair.int_list (h _)
    |str i=>obtain⟨t,rfl⟩:=rx;exact IsiPair.str_list (h _)
    |lst _=>exact Xl rfl (hf _)
    |tup _=>exact Xl rfl (hf _)
    |dct _=>exact Xl rfl (hf _)
   ·split at e
    ·rename_i z;subst z;cases e
     cases ty with
     |non=>cases rx;exact IsiPair.NoneType_tuple (h _)
     |bl b=>cases rx;exact IsiPair.bool_tuple (h _)
     |int i=>obtain⟨t,rfl⟩:=rx;exact IsiPair.int_tuple (h _)
     |str i=>obtain⟨t,rfl⟩:=rx;exact IsiPair.str_tuple (h _)
     |lst _=>exact Xl rfl (hf _)
     |tup _=>exact Xl rfl (hf _)
     |dct _=>exact Xl rfl (hf _)
    ·split at e
     ·rename_i z;subst z;cases e
      cases ty with
      |non=>cases rx;exact IsiPair.NoneType_str (h _)
      |bl b=>cases rx;exact IsiPair.bool_str (h _)
      |int i=>obtain⟨t,rfl⟩:=rx;exact IsiPair.int_str (h _)
      |str i=>obtain⟨t,rfl⟩:=rx;exact IsiPair.str_str (h _)
      |lst _=>exact Xl rfl (hf _)
      |tup _=>exact Xl rfl (hf _)
      |dct _=>exact Xl rfl (hf _)
     ·split at e
      ·rename_i z;subst z;cases e
       cases ty with
       |non=>cases rx;exact IsiPair.NoneType_dict (h _)
       |bl b=>cases rx;exact IsiPair.bool_dict (h _)
       |int i=>obtain⟨t,rfl⟩:=rx;exact IsiPair.int_dict (h _)
       |str i=>obtain⟨t,rfl⟩:=rx;exact IsiPair.str_dict (h _)
       |lst _=>exact Xl rfl (hf _)
       |tup _=>exact Xl rfl (hf _)
       |dct _=>exact Xl rfl (hf _)
      ·cases e
section
variable {X:Cx}
def F9:Zy X (.builtin "isinstance") (fun xs H Q=>∃x T c b,xs=[x,.ty c]/\TyN H x T/\Y5 T c=some b/\Q (.bl b) H):=by
 intro XaU s σ H xs us Q I r h;obtain⟨x,T,c,b,rfl,ty,e,q⟩:=h;obtain⟨u,w',rfl,rx,rc⟩:=UW r
 cases (show w'=Value.type c from rc)
 have fin:∀t,EP X XaU σ Q (.bool b) { s with toks:=t }:=fun t=>⟨.bl b,H,I.tok t,rfl,q⟩
 by_cases hf:∀a,x≠.ref a
 ·exact FX ty rx hf e fin
 ·cases ty with
  |lst ha =>
    cases rx
    obtain⟨z,its,n,rv,e1⟩:=I.hok _ _ ha;exact Fp e1 rfl e fin
  |tup ha =>
    cases rx
    obtain⟨z,its,rv,o,e1,c1,n,dd⟩:=I.hok _ _ ha;exact Fv e1 c1 e fin
  |dct ha =>
    cases rx
    obtain⟨z,y,vs,kv,ob,es,ep,e1,c1,_⟩:=I.hok _ _ ha;exact Fy e1 c1.1 e fin
  |_=>exact Xl (fun a z=>nomatch z) hf
def JU (_ j:Int):Prop:=0<j/\j<2^8000
def Fk {j:Int}(h:JU 0 j):j.natAbs.log2<9000:=by
 have h0:j.natAbs≠0:=by have:=h.1;omega
 have h1:j.natAbs<2^8000:=by have:=h.2;have:=h.1;omega
 have:=(Nat.log2_lt h0).mpr h1
 omega
def Uy:OpR X (binaryOp .FloorDiv) (rI JU fun i j=>.int (i/j)):=opI fun i j _ _ _ _ _ hc q=>by
 have e:i.fdiv j=i/j:=Int.fdiv_eq_ediv_of_nonneg _ (Int.le_of_lt hc.1);refine floordiv_int (Int.ne_of_gt hc.1) ?_ (.inl (PyProof.noPylong_of_log2 (Fk hc)));rw[e];exact q
end
def Q2.upd {H H':Hp}{a:Addr}{o:HO}(s:Q2 H H')(h:H a=none):Q2 H (L2.upd H' a o):=fun b u e=>by
 rw[Qs (Zp e h)];exact s b u e
def Q2.new {H:Hp}{a:Addr}{o:HO}(h:H a=none):Q2 H (L2.upd H a o):=(Q2.refl H).upd h
end L2
end
section
namespace Att
open PySem PySem.W PySem.Calls PyProof.Rows
theorem Pd:∀(ns:Ql) (i:Int),i∈ns->Builtin.Int.intBits i<=WData.weightAll (ns.map WData.int)
 |[],i,h=>by simp at h
 |n::ns,i,h=>by
   rw[Xu,WData.weightAll];rcases Xe.mp h with rfl|h
   ·have:WData.weight (.int i)=Builtin.Int.intBits i:=by rw[WData.weight];rfl
    omega
   ·have:=Pd ns i h
    omega
def Fc {ns:Ql}(h:WData.layableAll [WData.list (ns.map WData.int)]=true):∀i∈ns,Builtin.Int.intBits i<=2^20:=fun i hi=>by
 have h1:=layableW_arg h (WData.list (ns.map WData.int)) (Xh.mpr rfl);obtain⟨_,_,h2⟩:=layableW_iff.mp h1;rw[WData.weight]at h2;exact X8 (Pd ns i hi) h2
def attach_callW {l:OpenLaw}{n:Nat}{q:Program}{loose:Qh}{XP:(Str->Qf)->Heap->Prop}{YP:World->Heap->Prop}{d:DefRec}
 (hn:l.most=some n) (hdf:d.params.defaults=[])
 (call:∀(w:World) (s₀ b6:Shared) (mg mb:Str->Qf) (fa:Addr) (o:Obj) (pm cd doc:Value) (a:Addr) (vs:Qe) (ns:Ql),
  Ground q loose [] XP w s₀ mg mb b6.heap->YP w b6.heap ->
  b6.heap.get? fa=some o->o.data=.func (docDef d.name d.params d.body d.scope pm cd doc)->b6.heap.CodeRec cd d.name->mg d.name=some (.ref fa) ->
  b6.heap.get? a=some { cls:=.type "list",data:=.seq vs.toArray }->IntsAre vs ns->ns.length<=n->(∀i∈ns,Builtin.Int.intBits i<=2^20)->b6.gens=#[] ->
  codeAny (model l.prog w) callerA (.call (.ref fa) ⟨[.ref a],[]⟩) (fun r s'=>r=.ok (.ret (.bool true))/\OldK b6.heap s'.heap/\s'.os=b6.os/\AllBare s'.gens) b6) :
 WalkO q loose XP YP l.row.toRowW d [] (fun f vs=>PySem.call f vs):=by
 intro w s₀ b6 mg mb G Y fa o pm cd doc dV kV ho hd hcd hD hmg hg args vals as hpre hlay hrd hwl hlo;obtain rfl:dV=.none:=Dflts.none hD hdf
 obtain rfl:kV=.none:=Dflts.noKw hD;obtain⟨a,vs,ns,rfl,rfl,hobj,hints,hlen⟩:=E8 hn hpre hwl;refine enter_call (codeAny_mono (call w s₀ b6 mg mb fa o pm cd doc a vs ns G Y ho (fd_plain hd) hcd hmg hobj hints hlen (Fc hlay) hg) fun r s' hq=>?_)
 obtain⟨rfl,h2,h3,h4⟩:=hq
 exact⟨.inl ⟨.bool true,.bool true,[],rfl,fun _=>rfl,.bool true,E1 l _,fun _=>⟨List.Pairwise.nil,fun _ hm=>(nomatch hm)⟩⟩,h2,h3,h4⟩
end Att
namespace L2
open PySem PySem.Spec PyProof.Rows
structure Scr (K:W.Frag)(H:Hp)(a:Addr)(ns:Ql):Prop where
 sq:SqL K H a (ns.map V.int)
 len:ns.length<=63
 bits:∀i∈ns,Builtin.Int.intBits i<=2^20
def Scr.mono {K:W.Frag}{H H':Hp}{a:Addr}{ns:Ql}(h:Scr K H a ns)(s:Q2 H H'):Scr K H' a ns:=⟨s.seq h.sq,h.len,h.bits⟩
structure Df (K:W.Frag)(mg:Str->Qf)(x:Str)(st:Stmt)(ps:Qh):Prop where
 ex:∃f fd,Fun K x x st f fd/\mg x=some (.ref f)/\Ve K fd ps []
def QD (P:Program)(w:World)(K:W.Frag)(mg:Str->Qf)(base:Heap)(x:Str)(ps:Qh)(k:Nat)(sp:Sp):Prop :=
 ∃f fd,mg x=some (.ref f)/\W.keepIn K (.ref f)=true/\Ve K fd ps []/\FnOk P w K mg base CX0 k f fd ps sp
def Df.cal {P:Program}{w:World}{K:W.Frag}{mg:Str->Qf}{base:Heap}{x:Str}{st:Stmt}{N ps:Qh}{k:Nat}{sp:Sp}(D:Df K mg x st ps)(S:Qp N ps (Q0 st))(len:∀vs H Q E,sp vs H Q E->vs.length=ps.length)
 (XaV:∀(f:Addr) (cdv:Value) (A:Around) (outer:List Env) (s:Shared) (H:Hp) (vs:List V) (Q:VK) (E:XK),Room k (A.deeper (envOfC x (Q0 st) s.heap.objs.size f cdv))->sp vs H Q E ->
  ∃t,PSs (Vd CX0 P w K mg base N x (Q0 st) f cdv A outer s H E).nox (Zx st) t/\t { nx:=fun _ H'=>Q .non H',rt:=Q } (start N vs) H):QD P w K mg base x ps (k+1) sp:=by
 obtain⟨f,fd,F,hm,hb⟩:=D.ex
 exact⟨f,fd,hm,F.kp,hb,F.ok S len fun cdv A outer s H vs Q E hr h=>XaV f cdv A outer s H vs Q E hr h⟩
section
variable {X:Cx}
def QF {x:Str}{p pos:Pos}{e:Expr}{es:Qi}{t:TA}{ps:Qh}{j k:Nat}{sp:Sp}(C:QD X.prog X.w X.K X.mg X.base x ps j sp)(hr:Room k X.A)(ha:PA X (e::es) t)(hj:j<=k:=by walk_at"j")(hg:Gl X x:=by rfl)
 (hdb:(x==("__debug__" : Str))=false:=by decide +kernel)
 (he:starEach (e::es) X.env=(false,eval e X.env)::starEach es X.env:=by rfl) (hpl:(backTo pos (starEach es X.env)).any (·.1)=false:=by rfl):PE X (.Call (.Name x p) (e::es) [] pos) (VA sp [] E0 t):=by
 obtain⟨f,fd,hm,hk,hb,F⟩:=C;exact Ry F (hr.mono hj) hg hm hk hb .nil Jn ha hdb he hpl
end
def Yx:bootBuiltins "len"=some (.builtin "len"):=by decide +kernel
def MT:bootBuiltins "max"=some (.builtin "max"):=by decide +kernel
def Be:bootBuiltins "min"=some (.builtin "min"):=by decide +kernel
def NS:bootBuiltins "sum"=some (.builtin "sum"):=by decide +kernel
def VZ:bootBuiltins "isinstance"=some (.builtin "isinstance"):=by decide +kernel
def MW:bootBuiltins "int"=some (.type "int"):=by decide +kernel
def Ly:bootBuiltins "bool"=some (.type "bool"):=by decide +kernel
def LZ:bootBuiltins "list"=some (.type "list"):=by decide +kernel
def Hb:bootBuiltins "tuple"=some (.type "tuple"):=by decide +kernel
mutual
theorem Rep.uniq {H:Hp}:∀{v:V} {d e:PyData},Rep H v d->Rep H v e->d=e
 |_,_,_,.non,.non=>rfl
 |_,_,_,.bl b,.bl _=>rfl
 |_,_,_,.int b,.int _=>rfl
 |_,_,_,.str b,.str _=>rfl
 |_,_,_,.lst h r,.lst h' r'=>by
   rw[h]at h';cases h';rw[Qw.uniq r r']
 |_,_,_,.tup h r,.tup h' r'=>by
   rw[h]at h';cases h';rw[Qw.uniq r r']
 |_,_,_,.lst h r,.tup h' r'=>by rw[h]at h';cases h'
 |_,_,_,.tup h r,.lst h' r'=>by rw[h]at h';cases h'
 |_,_,_,.dct h,.dct h'=>rfl
 |_,_,_,.lst h r,.dct h'=>by rw[h]at h';cases h'
 |_,_,_,.tup h r,.dct h'=>by rw[h]at h';cases h'
 |_,_,_,.dct h,.lst h' r'=>by rw[h]at h';cases h'
 |_,_,_,.dct h,.tup h' r'=>by rw[h]at h';cases h'
theorem Qw.uniq {H:Hp}:∀{vs:List V} {ds es:Qd},Qw H vs ds->Qw H vs es->ds=es
 |_,_,_,.nil,.nil=>rfl
 |_,_,_,.cons r t,.cons r' t'=>by rw[Rep.uniq r r',Qw.uniq t t']
end
section
variable {X:Cx}{tg:Expr}
end
section
variable {v:V}{ds:Qd}{g:TG}{tb:TS}{D:Ends}{σ:St}{H:Hp}
end
section
variable {f:List (Option Nat)}{g:TG}{tc:TT}{te:TE}{σ:St}{Q:VK}{H1:Hp}{v:V}{ds:Qd}
end
mutual
def noL:PyData->Bool
 |.none=>true
 |.bool _=>true
 |.int _=>true
 |.str _=>true
 |.list _=>false
 |.dict _=>false
 |.tuple ds=>noLs ds
def noLs:Qd->Bool
 |[]=>true
 |d::ds=>noL d&&noLs ds
end
mutual
theorem Rep.updL {H:Hp}{l:Addr}{us zs:List V}(hl:H l=some (.lst us)):∀{v:V} {d:PyData},noL d=true->Rep H v d->Rep (L2.upd H l (.lst zs)) v d
 |_,_,_,.non=>.non
 |_,_,_,.bl b=>.bl b
 |_,_,_,.int i=>.int i
 |_,_,_,.str x=>.str x
 |_,_,h,.lst _ _=>by simp[noL]at h
 |_,_,h,.tup ha r=>.tup (by rw[Qs (Nl ha hl (by intro z;cases z))];exact ha) (Qw.updL hl (by simpa [noL] using h) r)
theorem Qw.updL {H:Hp}{l:Addr}{us zs:List V}(hl:H l=some (.lst us)):∀{vs:List V} {ds:Qd},noLs ds=true->Qw H vs ds->Qw (L2.upd H l (.lst zs)) vs ds
 |_,_,_,.nil=>.nil
 |_,_,h,.cons r t=>.cons (Rep.updL hl (by simp[noLs]at h;exact h.1) r) (Qw.updL hl (by simp[noLs]at h;exact h.2) t)
end
def Pa (a b:Int):Builtin.Range.rangeSize a b (-1)=((a-b).toNat:Int):=by
 unfold Builtin.Range.rangeSize;simp only[show ¬((-1:Int) > 0) by decide,if_false,show(-(-1):Int)=1 from rfl,Int.ediv_one]
 split<;>omega
def Iu {a b:Int}(ha : -(2^62)<=a)(ha':a<2^62)(hb : -(2^62)<=b)(hb':b<2^62):Builtin.Range.small a b (-1)=true:=by
 unfold Builtin.Range.small;rw[Pa];simp only[Builtin.Range.rangeFitsLong,JA,Bool.or_eq_true,decide_eq_true_eq,beq_iff_eq,show ¬((-1:Int) > 0) by decide,if_false];omega
def Mh (hi:Int)(n:Nat):It:=⟨fun i _=>i<n,fun i H x H'=>H'=H/\x=.int (hi-i),fun i _=>n<=i⟩
theorem EW {P:Program}{w:World}{K:W.Frag}{tg:Expr}(it:Addr)(hi:Int)(n:Nat):Turn P w K tg (Mh hi n) [it] it (fun i h=>IsRangeIter h it (hi+(i:Nat)*(-1)) ((n:Int)-(i:Nat)) (-1)) where
 mem:=by simp
 obj:=fun i h st b hb=>by
  have e:b=it:=by simpa using hb
  subst e;exact⟨_,st,fun v z=>by
   have z':Data.fields _=Data.cell v:=z
   cases z'⟩
 keep:=fun i h h' st k=>k it (by simp) _ st
 item:=by
  intro X hP hw hK hc i XaU s σ H E I hf st hg;subst hP hw hK;obtain⟨f0,f1,f2,f3,f4,f5⟩:=hf it (by simp);have W:=Walks.range (prog:=X.prog) (w:=X.w) (I.ok.hd hc) it hi (-1) n;refine W.item i s _ _ hg st fun v h' tk hv st' kk=>?_;obtain⟨t,rfl⟩:=hv;have I1:Qq X XaU σ H { s with heap:=h',toks:=tk }:=I.turned (fun b o hb e=>kk b o (by simpa using hb) e) f0 f1 f3 f4 f5;refine⟨_,rfl,UV (s:={ s with heap:=h',toks:=tk }) (n := "range_iterator") st' rfl rfl (by decide) ⟨.int (hi-i),H,I1,⟨t,?_⟩,⟨rfl,rfl⟩,st',fun b hb=>(hf b hb).1⟩⟩;rw[show hi+(i:Int)*(-1)=hi-i by omega]
 done:=by
  intro X hP hw hK hc i XaU s σ H E I hf st hg;subst hP hw hK;obtain⟨f0,f1,f2,f3,f4,f5⟩:=hf it (by simp);exact wpAny_pyNext_range_end (I.ok.hd hc) st (by have:n<=i:=hg;omega) fun h' eb=>⟨rfl,I.turned (t':=s.toks) (fun b o hb e=>eb b o hb e) f0 f1 f3 f4 f5⟩
 self:=fun _ _ _ _ _ st h=>wpAny_pyIter_rangeiter st h
section
variable {X:Cx}{tg:Expr}
def AB {XaU:Qc}{σ:St}{H:Hp}{s:Shared}{R:It->Hp->Prop}{E:Qb}{lo hi:Int}{t u v:Tok}{tk:Nat}(I:Qq X XaU σ H s)(h1 : -(2^62)<=hi)(h2:hi<2^62)(h3 : -(2^62)<=lo)(h4:lo<2^62)
 (q:R (Mh hi (hi-lo).toNat) H):wpAny (model X.prog X.w) X.A (pyIter (.ref s.heap.objs.size)) (PIE X XaU σ tg R) E { s with heap:=s.heap.push { cls:=.type "range",data:=.fields #[.int hi t,.int lo u,.int (-1) v] },toks:=tk }:=by
 refine wpAny_pyIter_range (IsRange.new ..) (Iu h1 h2 h3 h4) ?_;have I1:Qq X XaU σ H { s with heap:=s.heap.push { cls:=.type "range",data:=.fields #[.int hi t,.int lo u,.int (-1) v] },toks:=tk }:=I.kept fun b o e=>Xi _ e
 refine⟨(s.heap.push { cls:=.type "range",data:=.fields #[.int hi t,.int lo u,.int (-1) v] }).objs.size,[(s.heap.push { cls:=.type "range",data:=.fields #[.int hi t,.int lo u,.int (-1) v] }).objs.size],_,_,H,rfl,
  I1.kept (t':=tk) fun b o e=>Xi _ e,EW _ hi (hi-lo).toNat,?_,fun b hb=>?_,q⟩
 ·have e1:hi+((0:Nat):Int)*(-1)=hi:=by simp
  have e2:(((hi-lo).toNat:Nat):Int)-((0:Nat):Int)=Builtin.Range.rangeSize hi lo (-1):=by rw[Pa];omega
  show IsRangeIter _ _ (hi+((0:Nat):Int)*(-1)) ((((hi-lo).toNat:Nat):Int)-((0:Nat):Int)) (-1);rw[e1,e2];exact XD _ rfl
 ·have e:b=(s.heap.push { cls:=.type "range",data:=.fields #[.int hi t,.int lo u,.int (-1) v] }).objs.size:=by simpa using hb
  subst e;exact I1.fpOk (Xs _) (I1.hok.fresh (Xs _))
def Nb (ta:TA):TI:=fun σ H R=>ta σ H fun vs H1=>∃i j:Int,vs=[.int i,.int j,.int (-1)]/\(-(2^62)<=i/\i<2^62 /\ -(2^62)<=j/\j<2^62)/\R (Mh i (i-j).toNat) H1
def AR {a b c:Expr} {ta:TA} {p pos:Pos} (hg:Gl X "range") (hm:X.mg "range"=none) (ha:PA X [a,b,c] ta) (hs:starEach [a,b,c] X.env=[(false,eval a X.env),(false,eval b X.env),(false,eval c X.env)]:=by rfl)
 (hs2:starEach [b,c] X.env=[(false,eval b X.env),(false,eval c X.env)]:=by rfl):PI X tg (.Call (.Name "range" p) [a,b,c] [] pos) (Nb ta):=by
 intro XaU s σ H R I h;refine Call_ (WN I hg hm boot_range (PyProof.Rows.callWith_type1 (QA (ha pos XaU s σ H _ I h) fun us s1 ⟨vs,H1,I1,r1,q1⟩=>?_) (by rw[hs,hs2]) (by rw[hs2];rfl)));obtain⟨i,j,e,⟨q1,q2,q3,q4⟩,q⟩:=q1;subst e;cases r1 with
 |cons r rr =>
   cases rr with
   |cons r' rr =>
     cases rr with
     |cons r2 rr =>
       cases rr
       obtain⟨t,rfl⟩:=r;obtain⟨t',rfl⟩:=r';obtain⟨t2,rfl⟩:=r2;exact call_range_3 (by decide) (AB I1 q1 q2 q3 q4 q) (.inl (PyProof.noPylong_small (by decide)))
end
def GY (K:W.Frag):V->V->Hp->VK->Prop:=fun o i H Q=>∃p xs k v,o=.ref p/\i=.int k/\SqL K H p xs/\0<=k/\xs[k.toNat]?=some v/\Q v H
def EX (ns:Ql):preSum (fun i=>ns.getD i 0) ns.length=ns.sum:=by
 have key:∀k,k<=ns.length->preSum (fun i=>ns.getD i 0) k=(ns.take k).sum:=by
  intro k;induction k with
  |zero=>intro _;simp[preSum]
  |succ k ih =>
    intro hk;have h1:k<ns.length:=by omega
    rw[JD,List.sum_append,<- ih (by omega)];simp[preSum,h1]
 rw[key ns.length (Xs _),J9]
theorem WP:∀{vs:Qe} {ns:Ql} {i:Nat} {v:Value},IntsAre vs ns->vs[i]?=some v->∃t,v=.int (ns.getD i 0) t
 |_,_,_,_,.nil,e=>by simp at e
 |_,_,0,_,.cons n t h,e=>by simp at e;exact⟨t,by simp[<- e]⟩
 |_,_,i+1,v,.cons n t h,e=>by
   obtain⟨t',z⟩:=WP (i:=i) (v:=v) h (by simpa using e)
   exact⟨t',by simpa using z⟩
def Iy {prog:Program}{w:World}{A:Around}{E:Qb}{s:Shared}{l:Addr}{vs:Qe}{ns:Ql}{Q:Qb}(hh:A.handled=none)(hl:s.heap.IsList l vs.toArray)(hi:IntsAre vs ns)
 (h:∀h' tk t',(∀b o,s.heap.get? b=some o->h'.get? b=some o)->Q (.int ns.sum t') { s with heap:=h',toks:=tk }):wpAny (model prog w) A (call (.builtin "sum") [.ref l]) Q E s:=by
 obtain⟨o,ho,hc,n,hd⟩:=id hl;have hne:l≠s.heap.objs.size:=Xr (Xj ho);have W:=(Walks.list (prog:=prog) (w:=w) (A:=A.in1) hh s.heap.objs.size l hne vs.toArray).toS;refine call_sum_walkAnyS (wpAny_pyIter_list hl ?_);refine⟨s.heap.objs.size,_,_,_,_,_,_,fun i=>ns.getD i 0,rfl,W,⟨⟨_,XD _ rfl,rfl,rfl⟩,hl.at fun o e=>Xi _ e⟩,fun b hb=>?_,fun i v hP=>WP hi (by simpa using hP),fun s' t' hm=>?_⟩
 ·rcases Xe.mp hb with rfl|hb
  ·exact Xj (XD _ rfl)
  ·obtain rfl:=Xh.mp hb
   exact Xj (Xi _ ho)
 ·obtain⟨h',g',d',tk',os'⟩:=s'
  have e1:g'=s.gens:=hm.gens;have e2:d'=s.drawn:=hm.drawn;have e3:os'=s.os:=hm.os;subst e1 e2 e3;have es:vs.toArray.size=ns.length:=by rw[Xx,hi.length]
  rw[es,EX];exact h h' tk' t' fun b o e=>hm.heap b o (fun hb=>Xl (Xj e) ((Xh.mp hb)▸Yc _)) (Xi _ e)
section
variable {X:Cx}
def G1:K1 X (GY X.K):=by
 intro XaU s σ H o i ov iv Q I ro ri h;obtain⟨p,xs,k,v,rfl,rfl,hq,h0,hv,q⟩:=h
 cases ro
 obtain⟨t,rfl⟩:=ri;obtain⟨its,r,pl,hz⟩:=I.list hq;obtain⟨w,ew,rw'⟩:=r.get hv;have hl:=r.length;have hn:=Jv;have hlt:k.toNat<xs.length:=(Xg.mp hv).1;exact wpAny_getItem_list pl.isList h0 (by omega) (by simpa using ew) ⟨v,H,I,rw',q⟩
def Ea:Zy X (.builtin "sum") (fun xs H Q=>X.calm=true/\∃(x:V) (ns:Ql),xs=[x]/\Rep H x (.list (ns.map PyData.int))/\Q (.int ns.sum) H):=by
 intro XaU s σ H xs us Q I r h;obtain⟨hc,x,ns,rfl,hx,q⟩:=h;obtain⟨u,rfl,rx⟩:=Y7 r
 cases hx with
 |lst ha rr =>
   cases rx
   have er:=G5 rr;subst er;obtain⟨its,rv,p,hz⟩:=I.list (SqL.of (K:=X.K) ha);exact Iy (I.ok.hd hc) p.isList (BH rv) fun h' tk t' k=>⟨.int ns.sum,H,I.kept k,⟨_,rfl⟩,q⟩
end
section
variable {X:Cx}
end
def Qq.turnedL {X:Cx}{XaU:Qc}{σ:St}{H:Hp}{s:Shared}{h':Heap}{t':Nat}{ch:Qg}(I:Qq X XaU σ H s)(k:∀b o,b∉ch->s.heap.get? b=some o->h'.get? b=some o)(hch:∀b∈ch,Yf X XaU H b):Qq X XaU σ H { s with heap:=h',toks:=t' }:=by
 refine I.step (g':=s.gens) (d':=s.drawn) (ch:=ch) (fun b hb=>?_) (fun b o _ _ hc e _=>k b o hc e) (fun b o _ _ hc e _=>⟨o.slots,k b o hc e⟩) (fun _ _ _ _ n=>n)
  (fun b o hc e=>⟨o,k b o hc e⟩) (fun _ _ e=>e) (fun _ _ _ e=>e) (fun b ps e=>⟨#[],by rw[e];simp⟩) (fun m hm=>?_) (fun b u e=>?_) I.bare (fun b _ o hc _ e=>k b o hc e)
 ·obtain⟨f0,f1,f2,f3,f4,f5⟩:=hch b hb
  exact⟨f3,f1,f4,f5⟩
 ·obtain⟨o,es,ep,ho,r⟩:=hm
  exact⟨o,es,ep,k _ o (fun z=>(hch _ z).2.1 rfl) ho,r⟩
 ·refine(I.hok b u e).stay (fun c v hc q=>k c v (fun z=>?_) q) (fun _ q=>q) fun _ _ q=>q
  have hn:=(hch c z).1
  rcases hc with rfl|hc
  ·rw[hn]at e;cases e
  ·rw[hn]at hc;cases hc
def Qq.trackTup {X:Cx}{XaU:Qc}{σ:St}{H:Hp}{s0 s:Shared}{T:Addr}{x y:V}{u v:Value}(I0:Qq X XaU σ H s0)(I:Qq X XaU σ H s)(hT:s0.heap.objs.size<=T)(rx:QH x u)(ry:QH y v)(tup:s.heap.IsTuple T #[u,v]):Qq X XaU σ (upd H T (.tup [x,y])) s:=by
 refine I.track (I0.hok.fresh hT) (X8 I0.sz hT) (VU (Xn I0.lt hT)) (fun z c e q=>?_) (fun p hp q=>?_) ⟨by show 2<=sizeLine;decide,[u,v],.cons rx (.cons ry .nil),tup⟩
 ·obtain⟨w,hw⟩:=I0.cell z c e
  exact Xl (Xn hw.lt (by rw[q];exact hT)) (Yc _)
 ·exact Xl (Xn (Xj (I0.pin p hp).1) (by rw[q];exact hT)) (Yc _)
def Ite (K:W.Frag)(a:Addr):It :=
 ⟨fun i H=>∃xs x,SqL K H a xs/\xs[i]?=some x,
  fun i H v H'=>∃p x,H p=none/\v=.ref p/\H'=upd H p (.tup [.int (i:Int),x])/\∀xs,SqL K H a xs->xs[i]?=some x,
  fun i H=>∃xs,SqL K H a xs/\i=xs.length⟩
theorem Ar {P:Program}{w:World}{K:W.Frag}{elts:Qi}{k:Nat}{pos:Pos}{e it a:Addr}(hei:e≠it)(hle:a≠e)(hli:a≠it) :
 Turn P w K (.Tuple elts k pos) (Ite K a) [e,it] e (fun i h=>(∃old,IsEnum h e it i old)/\h.IsListIter it a i) where
 mem:=by simp
 obj:=fun i h st c hc=>by
  obtain⟨⟨old,he⟩,o1,e1,c1,d1⟩:=st;simp only[Xe,XM,or_false]at hc;rcases hc with rfl|rfl
  ·exact⟨_,he,fun v z=>nomatch z⟩
  ·exact⟨_,e1,fun v z=>by rw[d1]at z;cases z⟩
 keep:=fun i h h' st kk=>by
  obtain⟨⟨old,he⟩,h1⟩:=st
  exact⟨⟨old,kk e (by simp) _ he⟩,h1.at fun o x=>kk it (by simp) o x⟩
 item:=by
  intro X hP hw hK hc i XaU s σ H E I hf st hg;subst hP hw hK;obtain⟨xs,x,hq1,hx⟩:=hg;obtain⟨its1,rv1,p1,hz1⟩:=I.list hq1;obtain⟨u1,hu1,ru1⟩:=rv1.get hx;obtain⟨he,h1⟩:=st;have W:=WalksT.enumerate (prog:=X.prog) (w:=X.w) (A:=X.A) (I.ok.hd hc) e it a hei hle hli its1.toArray;have l1:i<its1.length:=(Xg.mp hu1).1;have wr:∀c∈[e,it],Yf X XaU H c:=hf;refine W.item i s _ _ (by simp only[Xx];omega) ⟨he,h1,p1.isList⟩ fun T vals h' tk pt hT tup mid kp=>?_;obtain⟨t,v1,e1,rfl⟩:=pt
  have ev1:v1=u1:=by
   have:its1[i]?=some v1:=by simpa using e1
   rw[hu1]at this;exact(Option.some.inj this).symm
  subst ev1;have I1:Qq X XaU σ H { s with heap:=h',toks:=tk }:=I.turnedL kp wr;refine⟨.ref T,rfl,W.go elts k pos i T { s with heap:=h',toks:=tk } _ _ mid fun h'' st' kp2=>?_⟩;have I2:Qq X XaU σ H { s with heap:=h'',toks:=tk }:=I1.turnedL (t':=tk) kp2 wr
  have tup2:h''.IsTuple T #[.int (i:Int) t,v1]:=by
   obtain⟨o,ho,hcl,n,hd⟩:=tup
   exact⟨o,kp2 T o (W.apart i T h' mid) ho,hcl,n,hd⟩
  have I3:=I.trackTup I2 hT (x:=.int (i:Int)) ⟨t,rfl⟩ ru1 tup2;obtain⟨s1,s2,_⟩:=st';refine⟨.ref T,_,I3,rfl,⟨T,x,I.hok.fresh hT,rfl,rfl,fun xs' h=>by rw[I.list_inj h hq1];exact hx⟩,⟨s1,s2⟩,fun c hc'=>?_⟩
  have hlt:c<s.heap.objs.size:=by
   simp only[Xe,XM,or_false]at hc';obtain⟨old,he⟩:=he
   rcases hc' with rfl|rfl
   ·exact Xj he
   ·obtain⟨_,z,_⟩:=h1;exact Xj z
  rw[Qs (Xr (Xn hlt hT))];exact(hf c hc').1
 done:=by
  intro X hP hw hK hc i XaU s σ H E I hf st hg;subst hP hw hK;obtain⟨xs,hq1,rfl⟩:=hg;obtain⟨its1,rv1,p1,hz1⟩:=I.list hq1;obtain⟨he,h1⟩:=st;have W:=WalksT.enumerate (prog:=X.prog) (w:=X.w) (A:=X.A) (I.ok.hd hc) e it a hei hle hli its1.toArray;have en:xs.length=its1.toArray.size:=by simp[rv1.length]
  refine W.done s _ _ (by rw[<- en];exact⟨he,h1,p1.isList⟩) fun h' tk kp=>⟨rfl,I.turnedL kp hf⟩
 self:=fun _ _ _ _ _ st h=>by
  obtain⟨⟨old,he⟩,_⟩:=st;exact wpAny_pyIter_enum he h
section
variable {X:Cx}
def KO (K:W.Frag)(ta:TA):TI:=fun σ H R=>ta σ H fun vs H1=>∃a,vs=[.ref a]/\(∃xs,SqL K H1 a xs)/\R (Ite K a) H1
def AQ:bootBuiltins "enumerate"=some (.type "enumerate"):=by decide +kernel
def BQ {a:Expr} {ta:TA} {p pos:Pos} {elts:Qi} {k:Nat} {tpos:Pos} (hg:Gl X "enumerate") (hm:X.mg "enumerate"=none) (ha:PA X [a] ta) (hs:starEach [a] X.env=[(false,eval a X.env)]:=by rfl) :
 PI X (.Tuple elts k tpos) (.Call (.Name "enumerate" p) [a] [] pos) (KO X.K ta):=by
 intro XaU s σ H R I h;refine Call_ (WN I hg hm AQ (PyProof.Rows.callWith_type1 (QA (ha pos XaU s σ H _ I h) fun us s1 ⟨vs,H1,I1,r1,q1⟩=>?_) hs rfl));obtain⟨x,e,⟨xs,hx⟩,q⟩:=q1;subst e;obtain⟨u,rfl,rx⟩:=Y7 r1
 cases rx
 obtain⟨its1,rv1,p1,hz1⟩:=I1.list hx;refine call_enumerate_list p1.isList fun h' he h1 hsz kp=>wpAny_pyIter_enum he ?_;have lx:x<s1.heap.objs.size:=by obtain⟨o,ho,_⟩:=p1.isList;exact Xj ho
 have I2:Qq X XaU σ H1 { s1 with heap:=h' }:=I1.kept (t':=s1.toks) kp;refine⟨_,[s1.heap.objs.size+1,s1.heap.objs.size],_,_,H1,rfl,I2,Ar (e:=s1.heap.objs.size+1) (it:=s1.heap.objs.size) (a:=x) (Nat.succ_ne_self _) (Xr (GG lx)) (Xr lx),⟨⟨_,he⟩,h1⟩,fun c hc=>?_,q⟩
 have hle:s1.heap.objs.size<=c:=by
  simp only[Xe,XM,or_false]at hc;rcases hc with rfl|rfl
  ·exact Nat.le_add_right _ _
  ·exact Xs _
 exact I1.fpOk hle (I1.hok.fresh hle)
end
def D8 {s:Shared}{h':Heap}{o:Obj}(hk:∀b x,b∉[s.heap.objs.size]->(s.heap.push o).get? b=some x->h'.get? b=some x):∀b x,s.heap.get? b=some x->h'.get? b=some x :=
 fun b x e=>hk b x (fun hm=>by rw[Xh.mp hm]at e;exact Yc _ (Xj e)) (Xi _ e)
def Ye:Ql->Int
 |[]=>0
 |[a]=>a
 |a::b::r=>min a (Ye (b::r))
theorem HF:∀{ns:Ql},ns≠[]->Ye ns∈ns/\∀a∈ns,Ye ns<=a
 |[],h=>Xl rfl h
 |[a],_=>by simp[Ye]
 |a::b::r,_=>by
   obtain⟨h1,h2⟩:=HF (ns:=b::r) (by simp);simp only[Ye];refine⟨?_,fun c hc=>?_⟩
   ·by_cases h:a<=Ye (b::r)
    ·rw[Int.min_eq_left h];exact Xa
    ·rw[Int.min_eq_right (by omega)];exact Xf _ h1
   ·rcases Xe.mp hc with rfl|hc
    ·omega
    ·have:=h2 c hc
     omega
def L5 {ns:Ql}{M:Int}(h1:M∈ns)(h2:∀a∈ns,M<=a):M=Ye ns:=by
 obtain⟨g1,g2⟩:=HF (ns:=ns) (fun z=>by rw[z]at h1;cases h1)
 have:=h2 _ g1
 have:=g2 _ h1
 omega
section
variable {X:Cx}
def Nf (X:Cx):List V->Hp->VK->Prop:=fun xs H Q=>X.calm=true/\∃(x:V) (ns:Ql),xs=[x]/\Rep H x (.list (ns.map PyData.int))/\ns≠[]/\Q (.int (Ye ns)) H
def LS:Zy X (.builtin "min") (Nf X):=by
 intro XaU s σ H xs us Q I r h;obtain⟨hc,x,ns,rfl,hx,hne,q⟩:=h;obtain⟨u,rfl,rx⟩:=Y7 r
 cases hx with
 |@lst l ys _ ha rr =>
   cases rx
   have er:=G5 rr;subst er;obtain⟨its,rv,p,hz⟩:=I.list (SqL.of (K:=X.K) ha);have hl:=p.isList;have hi:=BH rv;have hlen:its.length=ns.length:=hi.length;have hpos:0<ns.length:=Mc.mpr hne;have hlt:l<s.heap.objs.size:=by obtain⟨_,e,_⟩:=hl;exact Xj e
   refine call_min_walk (wpAny_pyIter_list hl ?_)
   refine⟨s.heap.objs.size,[s.heap.objs.size,l],[s.heap.objs.size],its.toArray.size,_,_,_,rfl,Walks.list (A:=X.A.in1) (I.ok.hd hc) _ l (Xr hlt) its.toArray,
    ⟨⟨_,XD _ rfl,rfl,rfl⟩,hl.push _⟩,fun b hb=>?_,by simp only[Xx];omega,CmpOf.ints_lt (fun i=>ns.getD i 0) (fun i v hP=>WP hi (by simpa using hP)),fun v h' tk hP hk=>?_⟩
   ·show b<(s.heap.push _).objs.size
    rw[W8];rcases Xe.mp hb with rfl|hb
    ·exact WA _
    ·rcases Xe.mp hb with rfl|hb
     ·exact GG hlt
     ·cases hb
   ·rw[List.getElem?_toArray]at hP
    obtain⟨t,rfl⟩:=WP hi hP;obtain⟨g1,g2⟩:=argBest_lt (fun i=>ns.getD i 0) (its.toArray.size-1);have hsz:its.toArray.size=its.length:=by simp
    generalize argBest (fun i j=>decide (ns.getD i 0<ns.getD j 0)) (its.toArray.size-1)=k at g1 g2 ⊢;rw[hsz]at g1 g2;have hk2:k<ns.length:=by omega
    have em:ns.getD k 0=Ye ns:=by
     refine L5 (by simp[hk2]) fun a ha'=>?_;obtain⟨j,hj,rfl⟩:=UA.mp ha'
     have:=g2 j (by omega)
     simpa [hj,hk2] using this
    exact⟨.int (Ye ns),H,I.kept (D8 hk),⟨t,by rw[em]⟩,q⟩
end
end L2
end
namespace Mir
def Yl (ns:Ql)(k:Int):Int:=ns.getD k.toNat 0
def Tn (x:Int):Nat:=if x==0 then 0 else x.natAbs.log2+1
def K7 (i:Int):Int:=if i<0 then -i else i
def mix (head k:Int):Nat->Int×Int×Int
 |0=>(head%2147483629+7919*k,69621*k+5,0)
 |i+1 =>
   ((((mix head k i).1*48271+11+(i:Int)*k)%2147483647),
    (((mix head k i).2.1*16807+((mix head k i).1*48271+11+(i:Int)*k)%2147483647)%2147483629),
    (mix head k i).2.2*2147483629+(((mix head k i).2.1*16807+((mix head k i).1*48271+11+(i:Int)*k)%2147483647)%2147483629*(((mix head k i).2.1*16807+((mix head k i).1*48271+11+(i:Int)*k)%2147483647)%2147483629)+((mix head k i).1*48271+11+(i:Int)*k)%2147483647)%2147483587)
def TH (ns:Ql)(k:Int):Int :=
 if Yl ns 0/720%2=1 then (mix (Yl ns 0) k 30).2.2 else K7 (Yl ns k)+(mix (Yl ns 0) k 30).2.2*2^Tn (K7 (Yl ns k))
structure Ln where
 up:Option Nat
 bs:Ql
structure Yd where
 T:Nat
 ls:List Ln
def Zh (y:Yd)(k:Nat):Option Nat:=(y.ls[k]?).bind (·.up)
structure Yd.Ok (y:Yd):Prop where
 t1:1<=y.T
 t8:y.T<=8
 l1:1<=y.ls.length
 l5:y.ls.length<=5
 up0:Zh y 0=none
 ups:∀k,0<k->k<y.ls.length->∃a,Zh y k=some a/\a<k
 bl:∀l∈y.ls,l.bs.length=y.T
 bb:∀l∈y.ls,∀b∈l.bs,0<=b/\b<10^300
def D3 {b:Int}(h:b<10^30):b<10^300:=Int.lt_trans h (by decide +kernel)
def upF9(y:Yd):Nat->Nat->Qk
 |0,k=>[k]
 |n+1,k=>k::match Zh y k with
  |none=>[]
  |some a=>if a<k then upF9 y n a else []
theorem upE9(y:Yd):∀n k m,k<=n->k<=m->upF9 y n k=upF9 y m k
 |0,k,0,_,_=>rfl
 |0,k,m+1,h,_=>by
  cases Nat.le_zero.mp h;unfold upF9;cases Zh y 0<;>simp
 |n+1,k,0,_,h=>by
  cases Nat.le_zero.mp h;unfold upF9;cases Zh y 0<;>simp
 |n+1,k,m+1,h,g=>by
  unfold upF9;cases Zh y k with
  |none=>rfl
  |some a=>
   by_cases l:a<k
   ·simp only[l,if_true,upE9 y n a m (by omega) (by omega)]
   ·simp only[l,if_false]
def upL(y:Yd)(k:Nat):Qk:=upF9 y k k
theorem upD9(y:Yd)(k:Nat):upL y k=k::match Zh y k with|none=>[]|some a=>if a<k then upL y a else []:=by
 unfold upL;rw[upE9 y k k (k+1) (Nat.le_refl _) (by omega)]
 show k::_=_
 cases Zh y k with
 |none=>rfl
 |some a=>
  by_cases l:a<k
  ·simp only[l,if_true,upE9 y k a a (by omega) (Nat.le_refl _)]
  ·simp only[l,if_false]
def NY {y:Yd}(ok:y.Ok){k:Nat}(hk:k<y.ls.length):upL y k=if k=0 then [0] else k::upL y ((Zh y k).getD 0):=by
 rw[upD9];by_cases h0:k=0
 ·subst h0;simp[ok.up0]
 ·obtain⟨a,e,l⟩:=ok.ups k (by omega) hk
  simp[e,l,h0]
def N4 (y:Yd):∀k,∀j∈upL y k,j<=k:=by
 intro k;induction k using Nat.strongRecOn with
 |ind k ih =>
   intro j hj;rw[upD9]at hj;rcases Xe.mp hj with rfl|hj
   ·exact Xs _
   ·cases e:Zh y k with
    |none=>rw[e]at hj;simp at hj
    |some a =>
      rw[e]at hj;by_cases hl:a<k
      ·simp only[hl,if_true]at hj
       have:=ih a hl j hj
       omega
      ·simp only[hl,if_false]at hj;simp at hj
def DY (y:Yd)(k:Nat):k∈upL y k:=by rw[upD9];exact Xa
def MN {y:Yd}(ok:y.Ok){k:Nat}(h0:0<k)(hk:k<y.ls.length){a:Nat}(e:Zh y k=some a)(l:Nat)(hl:l≠k):l∈upL y k↔l∈upL y a:=by
 rw[NY ok hk,Xb (by omega),e];simp only[Option.getD_some,Xe];constructor
 ·rintro(h|h)
  ·exact Xl h hl
  ·exact h
 ·exact .inr
end Mir
namespace Mir
structure Gs where
 line:Nat
 first:Nat
 last:Nat
 want:Int
 most:Int
structure Gs.Ok (y:Yd)(g:Gs):Prop where
 ln:g.line<y.ls.length
 fl:g.first<=g.last
 lt:g.last<y.T
 w1:1<=g.want
 w2:g.want<10^300
 m1:1<=g.most
 m2:g.most<10^300
def gn0 (ns:Ql)(k:Nat):Int:=TH ns (6+(k:Int))
def gn1 (ns:Ql)(y:Yd)(k:Nat):Int:=gn0 ns k/(y.ls.length:Int)
def gn2 (ns:Ql)(y:Yd)(k:Nat):Int:=gn1 ns y k/(y.T:Int)
def gf (ns:Ql)(y:Yd)(k:Nat):Int:=gn1 ns y k%(y.T:Int)
def gl (ns:Ql)(y:Yd)(k:Nat):Int:=gf ns y k+gn2 ns y k%((y.T:Int)-gf ns y k)
def W0 (g:Gs)(t:Int):Bool:=decide ((g.first:Int)<=t)&&decide (t<=(g.last:Int))
def Z9 (y:Yd)(l:Nat)(t:Nat):Int:=(((y.ls[l]?).map (·.bs)).getD []).getD t 0
def Vp (gs:List Gs)(t:Int)(l:Nat):Qk->Int
 |[]=>0
 |k::r=>(match gs[k]? with|some g=>if g.line=l/\W0 g t=true then g.most else 0|none=>0)+Vp gs t l r
def BS (gs:List Gs)(t:Int)(l:Nat)(a b:Qk):Vp gs t l (a++b)=Vp gs t l a+Vp gs t l b:=by
 induction a with
 |nil=>simp[Vp]
 |cons k r ih=>simp only[Jc,Vp,ih];omega
def Js (y:Yd)(b:Qn)(st:Qn)(j:Nat):Qn:=fun l=>st l+(if Zh y j=some l then min (st j) (b j) else 0)
def VN (y:Yd)(b own:Qn):Nat->Qn
 |0=>own
 |i+1=>Js y b (VN y b own i) (y.ls.length-1-i)
def VX (y:Yd)(b own:Qn)(l:Nat):Int:=VN y b own (y.ls.length-1) l
def passes (y:Yd)(b own:Qn)(l:Nat):Int:=min (VX y b own l) (b l)
def W6 (y:Yd)(b own:Qn)(l:Nat):Qn
 |0=>0
 |n+1=>W6 y b own l n+(if Zh y (l+1+n)=some l then passes y b own (l+1+n) else 0)
theorem SZ (y:Yd)(ok:y.Ok)(b own:Qn)(l:Nat):∀i,i<=y.ls.length-1->y.ls.length-1-i<=l->∀d,i+d<=y.ls.length-1->VN y b own (i+d) l=VN y b own i l
 |i,hi,hl,0,_=>rfl
 |i,hi,hl,d+1,hd=>by
   have ih:=SZ y ok b own l i hi hl d (by omega);show Js y b (VN y b own (i+d)) (y.ls.length-1-(i+d)) l=_;unfold Js;rw[ih];by_cases h0:0<y.ls.length-1-(i+d)
   ·obtain⟨a,ea,la⟩:=ok.ups (y.ls.length-1-(i+d)) h0 (by omega)
    rw[ea];have:¬some a=some l:=by
     intro z;injection z with z;omega
    rw[Xb this];omega
   ·have:y.ls.length-1-(i+d)=0:=by omega
    omega
def En {y:Yd}(ok:y.Ok)(b own:Qn){j:Nat}(hj:j<y.ls.length):VN y b own (y.ls.length-1-j) j=VX y b own j:=by
 unfold VX;have:=SZ y ok b own j (y.ls.length-1-j) (by omega) (by omega) j (by omega);rw[show y.ls.length-1-j+j=y.ls.length-1 by omega]at this;exact this.symm
theorem SW {y:Yd}(ok:y.Ok)(b own:Qn)(l:Nat):∀i,i<=y.ls.length-1->VN y b own i l+W6 y b own l (y.ls.length-1-i-l)=own l+W6 y b own l (y.ls.length-1-l)
 |0,_=>by simp[VN]
 |i+1,hi=>by
   have ih:=SW ok b own l i (by omega)
   have e:VN y b own (i+1) l=VN y b own i l+(if Zh y (y.ls.length-1-i)=some l then passes y b own (y.ls.length-1-i) else 0):=by
    show Js y b (VN y b own i) (y.ls.length-1-i) l=_;unfold Js passes;have hj:y.ls.length-1-i<y.ls.length:=by have:=ok.l1;omega
    have rf:=En ok b own hj;rw[show y.ls.length-1-(y.ls.length-1-i)=i by omega]at rf;rw[rf]
   rw[e];by_cases hl:l<y.ls.length-1-i
   ·obtain⟨d,ed⟩:∃d,y.ls.length-1-i-l=d+1:=⟨y.ls.length-1-i-l-1,by omega⟩
    rw[ed]at ih;have e2:y.ls.length-1-(i+1)-l=d:=by omega
    rw[e2];have e3:l+1+d=y.ls.length-1-i:=by omega
    simp only[W6,e3]at ih;omega
   ·have e1:y.ls.length-1-i-l=0:=by omega
    have e2:y.ls.length-1-(i+1)-l=0:=by omega
    rw[e1]at ih;rw[e2];have:¬Zh y (y.ls.length-1-i)=some l:=by
     intro z;have h0:0<y.ls.length-1-i:=by omega
     obtain⟨a,ea,la⟩:=ok.ups (y.ls.length-1-i) h0 (by omega);rw[ea]at z;injection z with z;omega
    rw[Xb this];simp only[W6]at ih ⊢;omega
def Ci {y:Yd}(ok:y.Ok)(b own:Qn)(l:Nat):VX y b own l=own l+W6 y b own l (y.ls.length-1-l):=by
 have h:=SW ok b own l (y.ls.length-1) (Xs _);rw[show y.ls.length-1-(y.ls.length-1)-l=0 by omega]at h;simp only[W6]at h;unfold VX;omega
end Mir
namespace Mir
def Q7 (f:Qn):Qn
 |0=>0
 |n+1=>Q7 f n+f n
theorem Zq {f g:Qn}:∀{n:Nat},(∀k,k<n->f k=g k)->Q7 f n=Q7 g n
 |0,_=>rfl
 |n+1,h=>by
   simp only[Q7];rw[Zq (n:=n) fun k hk=>h k (by omega),h n (by omega)]
theorem Wh {f g:Qn}:∀{n:Nat},(∀k,k<n->f k<=g k)->Q7 f n<=Q7 g n
 |0,_=>Jf _
 |n+1,h=>by
   simp only[Q7];have:=Wh (n:=n) fun k hk=>h k (by omega)
   have:=h n (by omega)
   omega
theorem G2 (f g:Qn):∀n,Q7 (fun k=>f k+g k) n=Q7 f n+Q7 g n
 |0=>rfl
 |n+1=>by simp only[Q7];rw[G2 f g n];omega
theorem Bx (c:Int)(f:Qn):∀n,Q7 (fun k=>c*f k) n=c*Q7 f n
 |0=>by simp[Q7]
 |n+1=>by simp only[Q7];rw[Bx c f n,Int.mul_add]
theorem VE:∀n,Q7 (fun _=>0) n=0
 |0=>rfl
 |n+1=>by simp only[Q7];rw[VE n];rfl
theorem Ui {a:Nat}{v:Int}:∀{n:Nat},Q7 (fun l=>if l=a then v else 0) n=if a<n then v else 0
 |0=>by simp[Q7]
 |n+1=>by
   simp only[Q7];rw[Ui (n:=n)]
   by_cases h:n=a
   ·subst h;simp
   ·by_cases h2:a<n
    ·simp[h,h2];omega
    ·have:¬a<n+1:=by omega
     simp[h,h2,this]
def Rm {f:Qn}{n:Nat}(h:∀k,k<n->0<=f k):0<=Q7 f n:=by
 have:=Wh (f:=fun _=>0) (g:=f) (n:=n) h
 rw[VE]at this;exact this
def wgt (gs:List Gs)(t:Int)(l k:Nat):Int:=match gs[k]? with|some g=>if g.line=l/\W0 g t=true then g.most else 0|none=>0
def LU (gs:List Gs)(t:Int)(l k:Nat):Vp gs t l [k]=wgt gs t l k:=by
 simp only[Vp,wgt];cases gs[k]? with
 |none=>rfl
 |some g=>simp
def Er (gs:List Gs)(t:Int)(l:Nat)(p:Qm)(m:Nat):Vp gs t l ((List.range m).filter p)=Q7 (fun k=>if p k=true then wgt gs t l k else 0) m:=by
 induction m with
 |zero=>rfl
 |succ m ih =>
   rw[YK,U8,BS,ih];simp only[Q7];cases e:p m with
   |true=>simp only[UJ,e,if_true,List.filter_nil,LU]
   |false=>simp only[UJ,e,List.filter_nil,Vp,Wl,if_false]
theorem BG (f:Nat->Qn)(n:Nat):∀m,Q7 (fun l=>Q7 (fun k=>f l k) m) n=Q7 (fun k=>Q7 (fun l=>f l k) n) m
 |0=>by simp only[Q7];exact VE n
 |m+1=>by
   simp only[Q7];rw[G2,BG f n m]
end Mir
namespace Mir
section
variable {y:Yd}{b b' own:Qn}{l0:Nat}
end
end Mir
section
namespace L2
open PySem PySem.Spec PyProof.Rows
structure Qx (F H F' H':Hp):Prop where
 hh:Q2 H H'
 ff:Q2 F F'
 fh:Q2 F' H'
 fr:∀a,F' a≠none->F a≠none\/H a=none
def Qx.refl {F H:Hp}(s:Q2 F H):Qx F H F H:=⟨Q2.refl _,Q2.refl _,s,fun _ h=>.inl h⟩
def Qx.trans {F H F1 H1 F2 H2:Hp}(a:Qx F H F1 H1)(b:Qx F1 H1 F2 H2):Qx F H F2 H2 :=
 ⟨a.hh.trans b.hh,a.ff.trans b.ff,b.fh,fun p h=>by
  rcases b.fr p h with z|z
  ·exact a.fr p z
  ·exact .inr (a.hh.free z)⟩
def Zm {H:Hp}{a:Addr}{o:HO}(h:H a=some o):H a≠none:=by rw[h];exact fun z=>nomatch z
def Uh {H:Hp}{a:Addr}(h:H a≠none):∃o,H a=some o:=by
 cases e:H a with
 |none=>exact Xl e h
 |some o=>exact⟨o,rfl⟩
def Cs {F H:Hp}{p:Addr}{o:HO}(s:Q2 F H):Q2 (upd F p o) (upd H p o):=fun b u e=>by
 by_cases h:b=p
 ·subst h;rw[QC]at e ⊢;exact e
 ·rw[Qs h]at e ⊢;exact s b u e
def Qx.new {F H:Hp}{p:Addr}{o:HO}(s:Q2 F H)(hp:H p=none):Qx F H (upd F p o) (upd H p o) :=
 ⟨Q2.new hp,Q2.new (s.free hp),Cs s,fun a h=>by
  by_cases e:a=p
  ·subst e;exact .inr hp
  ·rw[Qs e]at h;exact .inl h⟩
def Qx.own {F H:Hp}{p:Addr}{o:HO}(s:Q2 F H)(hp:H p=none):Qx F H F (upd H p o) :=
 ⟨Q2.new hp,Q2.refl _,s.upd (s.free hp),fun _ h=>.inl h⟩
def Qx.freeze {F0 H0 F H:Hp}{a:Addr}{o:HO}(x:Qx F0 H0 F H)(hf:F a=none)(ho:H a=some o)(h0:H0 a=none):Qx F0 H0 (upd F a o) H :=
 ⟨x.hh,x.ff.trans (Q2.new hf),fun b u e=>by
  by_cases h:b=a
  ·subst h;rw[QC]at e;rw[ho];exact e
  ·rw[Qs h]at e;exact x.fh b u e,fun b h=>by
  by_cases e:b=a
  ·subst e;exact .inr h0
  ·rw[Qs e]at h;exact x.fr b h⟩
def Qx.free {F H F' H':Hp}{a:Addr}(x:Qx F H F' H')(hf:F a=none)(hh:H a≠none):F' a=none:=by
 cases e:F' a with
 |none=>rfl
 |some o =>
   rcases x.fr a (Zm e) with z|z
   ·exact Xl hf z
   ·exact Xl z hh
structure OwnP where
 ok:W.Frag->Hp->Hp->V->Qg->Prop
 there:∀{K:W.Frag} {F H:Hp} {v:V} {p:Qg},ok K F H v p->∀a∈p,F a=none/\H a≠none
 mono:∀{K:W.Frag} {F F' H H':Hp} {v:V} {p:Qg},Q2 F F'->(∀a∈p,F' a=none)->(∀a∈p,H' a=H a)->ok K F H v p->ok K F' H' v p
 uniq:∀{K:W.Frag} {F H:Hp} {v:V} {p q:Qg},ok K F H v p->ok K F H v q->∀a∈q,a∈p
structure ZP where
 ok:W.Frag->Hp->V->Prop
 mono:∀{K:W.Frag} {F F':Hp} {v:V},Q2 F F'->ok K F v->ok K F' v
inductive OT where
 |zow (Ψ:ZP)
 |fz (d:PyData)
 |ol (ds:Qd)
 |oll (dss:List (Qd))
 |scr (ns:Ql)
 |own (v:V) (Φ:OwnP)
abbrev Q6:=List (Option OT)
def Vb (F H:Hp)(a:Addr)(ds:Qd):Prop:=F a=none/\∃xs,H a=some (.lst xs)/\Qw F xs ds
def Zt (F H:Hp):Qg->List (Qd)->Prop
 |[],[]=>True
 |a::as,ds::dss=>Vb F H a ds/\Zt F H as dss
 |_,_=>False
def Zk (K:W.Frag)(F H:Hp)(v:V):OT->Qg->Prop
 |.fz d,p=>p=[]/\Rep F v d
 |.ol ds,p=>∃a,v=.ref a/\p=[a]/\Vb F H a ds
 |.oll dss,p=>∃a as,v=.ref a/\p=a::as/\(a::as).Nodup/\F a=none/\H a=some (.lst (as.map V.ref))/\Zt F H as dss
 |.scr ns,p=>p=[]/\∃a,v=.ref a/\Scr K F a ns
 |.own v0 Φ,p=>v=v0/\Φ.ok K F H v p
 |.zow Ψ,p=>p=[]/\Ψ.ok K F v
def Q2.at_eq {H H':Hp}(s:Q2 H H'){a:Addr}(h:H a≠none):H' a=H a:=by
 cases e:H a with
 |none=>exact Xl e h
 |some o=>exact s _ _ e
def Vb.ext {F H F' H':Hp}{a:Addr}{ds:Qd}(h:Vb F H a ds)(x:Qx F H F' H'):Vb F' H' a ds:=by
 obtain⟨h1,xs,h2,h3⟩:=h
 exact⟨x.free h1 (Zm h2),xs,x.hh _ _ h2,h3.mono x.ff⟩
theorem Zt.ext {F H F' H':Hp}(x:Qx F H F' H'):∀{as:Qg} {dss:List (Qd)},Zt F H as dss->Zt F' H' as dss
 |[],[],_=>trivial
 |_::_,_::_,h=>⟨h.1.ext x,Zt.ext x h.2⟩
 |[],_::_,h=>False.elim h
 |_::_,[],h=>False.elim h
theorem Zt.mem {F H:Hp}:∀{as:Qg} {dss:List (Qd)},Zt F H as dss->∀a∈as,F a=none/\H a≠none
 |[],[],_,a,ha=>by cases ha
 |b::as,_::_,h,a,ha=>by
   rcases Xe.mp ha with rfl|ha
   ·obtain⟨h1,xs,h2,_⟩:=h.1
    exact⟨h1,Zm h2⟩
   ·exact Zt.mem h.2 a ha
 |[],_::_,h,_,_=>False.elim h
 |_::_,[],h,_,_=>False.elim h
def Zk.ext {K:W.Frag}{F H F' H':Hp}{v:V}{t:OT}{p:Qg}(h:Zk K F H v t p)(x:Qx F H F' H'):Zk K F' H' v t p:=by
 cases t with
 |fz d=>exact⟨h.1,h.2.mono x.ff⟩
 |zow Ψ=>exact⟨h.1,Ψ.mono x.ff h.2⟩
 |ol ds=>obtain⟨a,h1,h2,h3⟩:=h;exact⟨a,h1,h2,h3.ext x⟩
 |oll dss=>obtain⟨a,as,h1,h2,h3,h4,h5,h6⟩:=h;exact⟨a,as,h1,h2,h3,x.free h4 (Zm h5),x.hh _ _ h5,h6.ext x⟩
 |scr ns=>obtain⟨h1,a,h2,h3⟩:=h;exact⟨h1,a,h2,h3.mono x.ff⟩
 |own v0 Φ=>exact⟨h.1,Φ.mono x.ff (fun a ha=>x.free (Φ.there h.2 a ha).1 (Φ.there h.2 a ha).2) (fun a ha=>x.hh.at_eq (Φ.there h.2 a ha).2) h.2⟩
def Zk.there {K:W.Frag}{F H:Hp}{v:V}{t:OT}{p:Qg}(h:Zk K F H v t p):∀a∈p,F a=none/\H a≠none:=by
 cases t with
 |fz d=>obtain⟨rfl,_⟩:=h;intro a ha;cases ha
 |zow Ψ=>obtain⟨rfl,_⟩:=h;intro a ha;cases ha
 |ol ds =>
   obtain⟨a,h1,rfl,h3,xs,h4,_⟩:=h;intro b hb;have e:b=a:=by simpa using hb
   subst e;exact⟨h3,Zm h4⟩
 |oll dss =>
   obtain⟨a,as,h1,rfl,h3,h4,h5,h6⟩:=h;intro b hb;rcases Xe.mp hb with rfl|hb
   ·exact⟨h4,Zm h5⟩
   ·exact h6.mem b hb
 |scr ns=>obtain⟨rfl,_⟩:=h;intro a ha;cases ha
 |own v0 Φ=>exact Φ.there h.2
def Vb.other {F H:Hp}{a b:Addr}{o:HO}{ds:Qd}(h:Vb F H a ds)(n:a≠b):Vb F (upd H b o) a ds:=by
 obtain⟨h1,xs,h2,h3⟩:=h
 exact⟨h1,xs,by rw[Qs n];exact h2,h3⟩
theorem Zt.other {F H:Hp}{b:Addr}{o:HO}:∀{as:Qg} {dss:List (Qd)},Zt F H as dss->b∉as->Zt F (upd H b o) as dss
 |[],[],_,_=>trivial
 |a::as,_::_,h,n=>⟨h.1.other (fun z=>n (by rw[z];exact Xa)),Zt.other h.2 fun z=>n (Xf _ z)⟩
 |[],_::_,h,_=>False.elim h
 |_::_,[],h,_=>False.elim h
def Zk.other {K:W.Frag}{F H:Hp}{v:V}{t:OT}{p:Qg}{b:Addr}{o:HO}(h:Zk K F H v t p)(n:b∉p):Zk K F (upd H b o) v t p:=by
 cases t with
 |fz d=>exact h
 |zow Ψ=>exact h
 |ol ds=>obtain⟨a,h1,rfl,h3⟩:=h;exact⟨a,h1,rfl,h3.other (fun z=>n (by simp[z]))⟩
 |oll dss =>
   obtain⟨a,as,h1,rfl,h3,h4,h5,h6⟩:=h
   exact⟨a,as,h1,rfl,h3,h4,by rw[Qs (fun z=>n (by simp[z]))];exact h5,h6.other fun z=>n (Xf _ z)⟩
 |scr ns=>exact h
 |own v0 Φ=>exact⟨h.1,Φ.mono (Q2.refl _) (fun a ha=>(Φ.there h.2 a ha).1) (fun a ha=>Qs fun z=>n (by rw[<- z];exact ha)) h.2⟩
def KTs (K:W.Frag) (F:Hp):Prop := ∃gS gE,W.nsIn K mainGlobals "START"=some (some (.ref gS))/\W.nsIn K mainGlobals "END"=some (some (.ref gE))/\F gS=some (.tup [.str "start"])/\F gE=some (.tup [.str "end"])
def KTs.mono {K:W.Frag}{F F':Hp}(h:KTs K F)(s:Q2 F F'):KTs K F':=by
 obtain⟨gS,gE,h1,h2,h3,h4⟩:=h
 exact⟨gS,gE,h1,h2,s _ _ h3,s _ _ h4⟩
structure Q9 (K:W.Frag)(H0 F:Hp)(ρ:Q6)(σ:St)(H:Hp):Prop where
 kt:KTs K F
 sub:Q2 F H
 len:σ.length=ρ.length
 fp:∃fp:Nat->Qg,(∀(i:Nat) (t:OT),ρ[i]?=some (some t)->∃v,σ[i]?=some (some v)/\Zk K F H v t (fp i)) /\
  (∀(i j:Nat) (a:Addr),a∈fp i->a∈fp j->i=j)/\∀(i:Nat) (a:Addr),a∈fp i->H0 a=none/\H a≠none
def Q9.ext {K:W.Frag}{H0 F F' H H':Hp}{ρ:Q6}{σ:St}(s:Q9 K H0 F ρ σ H)(x:Qx F H F' H'):Q9 K H0 F' ρ σ H':=by
 obtain⟨kt,h1,h2,fp,h3,h4,h5⟩:=s;refine⟨kt.mono x.ff,x.fh,h2,fp,fun i t e=>?_,h4,fun i a ha=>?_⟩
 ·obtain⟨v,e1,e2⟩:=h3 i t e
  exact⟨v,e1,e2.ext x⟩
 ·obtain⟨e1,e2⟩:=h5 i a ha
  obtain⟨o,e3⟩:=Uh e2
  exact⟨e1,Zm (x.hh _ _ e3)⟩
def Fgt:Q6->Q6->Prop
 |[],[]=>True
 |_::r,none::r'=>Fgt r r'
 |s::r,some x::r'=>s=some x/\Fgt r r'
 |_,_=>False
theorem Fgt.len:∀{ρ ρ':Q6},Fgt ρ ρ'->ρ.length=ρ'.length
 |[],[],_=>rfl
 |_::r,none::r',h=>by
   have h':Fgt r r':=h
   simp[Fgt.len h']
 |s::r,some x::r',h=>by
   have h':s=some x/\Fgt r r':=h
   simp[Fgt.len h'.2]
 |[],none::_,h=>False.elim h
 |[],some _::_,h=>False.elim h
 |_::_,[],h=>False.elim h
theorem Fgt.get:∀{ρ ρ':Q6},Fgt ρ ρ'->∀(i:Nat) (t:OT),ρ'[i]?=some (some t)->ρ[i]?=some (some t)
 |[],[],_,i,t,e=>by simp at e
 |_::r,none::r',h,0,t,e=>by simp at e
 |_::r,none::r',h,i+1,t,e=>by
   have h':Fgt r r':=h
   have:=Fgt.get h' i t (by simpa using e)
   simpa using this
 |s::r,some x::r',h,0,t,e=>by
   have h':s=some x/\Fgt r r':=h
   simp at e;subst e;simp[h'.1]
 |s::r,some x::r',h,i+1,t,e=>by
   have h':s=some x/\Fgt r r':=h
   have:=Fgt.get h'.2 i t (by simpa using e)
   simpa using this
 |[],none::_,h,_,_,_=>False.elim h
 |[],some _::_,h,_,_,_=>False.elim h
 |_::_,[],h,_,_,_=>False.elim h
def Q9.fgt {K:W.Frag}{H0 F H:Hp}{ρ ρ':Q6}{σ:St}(s:Q9 K H0 F ρ σ H)(f:Fgt ρ ρ'):Q9 K H0 F ρ' σ H:=by
 obtain⟨kt,h1,h2,fp,h3,h4,h5⟩:=s
 exact⟨kt,h1,h2.trans f.len,fp,fun i t e=>h3 i t (f.get i t e),h4,h5⟩
def Q9.set {K:W.Frag}{H0 F H:Hp}{ρ:Q6}{σ:St}{i:Nat}{v:V}{t:OT}{p:Qg}(s:Q9 K H0 F ρ σ H)(ok:Zk K F H v t p)
 (hp:∀(a:Addr),a∈p->H0 a=none)
 (hn:∀(a:Addr),a∈p->∀(j:Nat) (u:V) (t':OT) (q:Qg),ρ[j]?=some (some t')->σ[j]?=some (some u)->Zk K F H u t' q->a∉q) :
 Q9 K H0 F (ρ.set i (some t)) (σ.set i (some v)) H:=by
 obtain⟨kt,h1,h2,fp,h3,h4,h5⟩:=s;refine⟨kt,h1,by simp[h2],fun j=>if j=i then p else if (ρ[j]?).join.isSome then fp j else [],fun j t' e=>?_,fun j k a ha hb=>?_,fun j a ha=>?_⟩
 ·by_cases hj:j=i
  ·subst hj
   have hlt:j<ρ.length:=by
    have:=(Xg.mp e).1
    simpa using this
   rw[Xk hlt]at e;cases e;refine⟨v,Xk (by omega),?_⟩;dsimp only;rw[Xd rfl];exact ok
  ·rw[Xp (Ne.symm hj)]at e
   obtain⟨u,e1,e2⟩:=h3 j t' e;refine⟨u,by rw[Xp (Ne.symm hj)];exact e1,?_⟩;dsimp only;rw[Xb hj,e,Xd (by rfl)];exact e2
 ·have key:∀(j:Nat),j≠i->a∈(if j=i then p else if (ρ[j]?).join.isSome then fp j else [])->∃t' u,ρ[j]?=some (some t')/\σ[j]?=some (some u)/\Zk K F H u t' (fp j)/\a∈fp j:=fun j hj hm=>by
   rw[Xb hj]at hm;cases e:(ρ[j]?).join with
   |none=>rw[e]at hm;simp at hm
   |some t' =>
     rw[e]at hm;have e':ρ[j]?=some (some t'):=by
      cases z:ρ[j]? with
      |none=>rw[z]at e;simp at e
      |some w=>rw[z]at e;simp at e;rw[e]
     obtain⟨u,e1,e2⟩:=h3 j t' e'
     exact⟨t',u,e',e1,e2,by simpa using hm⟩
  by_cases hj:j=i
  ·by_cases hk:k=i
   ·omega
   ·obtain⟨t',u,e1,e2,e3,e4⟩:=key k hk hb
    have ha':a∈p:=by simpa [hj] using ha
    exact Xl e4 (hn a ha' k u t' _ e1 e2 e3)
  ·obtain⟨t',u,e1,e2,e3,e4⟩:=key j hj ha
   by_cases hk:k=i
   ·have hb':a∈p:=by simpa [hk] using hb
    exact Xl e4 (hn a hb' j u t' _ e1 e2 e3)
   ·obtain⟨t2,u2,f1,f2,f3,f4⟩:=key k hk hb
    exact h4 j k a e4 f4
 ·by_cases hj:j=i
  ·have ha':a∈p:=by simpa [hj] using ha
   exact⟨hp a ha',(ok.there a ha').2⟩
  ·simp only[Xb hj]at ha
   split at ha
   ·exact h5 j a ha
   ·cases ha
def Q9.setF {K:W.Frag}{H0 F H:Hp}{ρ:Q6}{σ:St}{i:Nat}{v:V}{d:PyData}(s:Q9 K H0 F ρ σ H)(r:Rep F v d):Q9 K H0 F (ρ.set i (some (.fz d))) (σ.set i (some v)) H :=
 s.set (p:=[]) ⟨rfl,r⟩ (fun a ha=>nomatch ha) (hn:=fun a ha=>nomatch ha)
def Q9.write {K:W.Frag}{H0 F H:Hp}{ρ:Q6}{σ:St}{i:Nat}{ds:Qd}(s:Q9 K H0 F ρ σ H)(e:ρ[i]?=some (some (.ol ds))) :
 ∃a xs,σ[i]?=some (some (.ref a))/\H a=some (.lst xs)/\Qw F xs ds/\H0 a=none/\F a=none/\∀xs' ds',Qw F xs' ds'->Q9 K H0 F (ρ.set i (some (.ol ds'))) σ (upd H a (.lst xs')):=by
 obtain⟨kt,h1,h2,fp,h3,h4,h5⟩:=s;obtain⟨v,e1,a,rfl,e2,e3,xs,e4,e5⟩:=h3 i _ e;have ha:a∈fp i:=by rw[e2];exact Xa
 refine⟨a,xs,e1,e4,e5,(h5 i a ha).1,e3,fun xs' ds' r=>?_⟩;have hlt:=(Xg.mp e).1;refine⟨kt,h1.upd e3,by simp[h2],fp,fun j t' e'=>?_,h4,fun j b hb=>?_⟩
 ·by_cases hj:j=i
  ·subst hj
   rw[Xk hlt]at e';cases e'
   exact⟨_,e1,a,rfl,e2,e3,xs',QC,r⟩
  ·rw[Xp (Ne.symm hj)]at e'
   obtain⟨u,f1,f2⟩:=h3 j t' e'
   exact⟨u,f1,f2.other fun z=>hj (h4 j i a z ha)⟩
 ·obtain⟨f1,f2⟩:=h5 j b hb
  refine⟨f1,?_⟩
  by_cases z:b=a
  ·subst z;rw[QC];exact fun q=>nomatch q
  ·rw[Qs z];exact f2
def Q9.freeze {K:W.Frag}{H0 F H:Hp}{ρ:Q6}{σ:St}{i:Nat}{ds:Qd}(s:Q9 K H0 F ρ σ H)(e:ρ[i]?=some (some (.ol ds))) :
 ∃a xs,F a=none/\H a=some (.lst xs)/\H0 a=none/\σ[i]?=some (some (.ref a))/\Qw F xs ds/\Q9 K H0 (upd F a (.lst xs)) (ρ.set i (some (.fz (.list ds)))) σ H:=by
 obtain⟨kt,h1,h2,fp,h3,h4,h5⟩:=s;obtain⟨v,e1,a,rfl,e2,e3,xs,e4,e5⟩:=h3 i _ e;have ha:a∈fp i:=by rw[e2];exact Xa
 have hlt:=(Xg.mp e).1;have sm:Q2 F (upd F a (.lst xs)):=Q2.new e3;refine⟨a,xs,e3,e4,(h5 i a ha).1,e1,e5,kt.mono sm,?_,by simp[h2],fun j=>if j=i then [] else fp j,fun j t' e'=>?_,fun j k b hb hc=>?_,fun j b hb=>?_⟩
 ·intro b u hb
  by_cases z:b=a
  ·subst z;rw[QC]at hb;rw[e4];exact hb
  ·rw[Qs z]at hb;exact h1 b u hb
 ·by_cases hj:j=i
  ·subst hj
   rw[Xk hlt]at e';cases e';refine⟨_,e1,?_,.lst QC (e5.mono sm)⟩;dsimp only;rw[Xd rfl]
  ·rw[Xp (Ne.symm hj)]at e'
   obtain⟨u,f1,f2⟩:=h3 j t' e';refine⟨u,f1,?_⟩;dsimp only;rw[Xb hj];have na:a∉fp j:=fun z=>hj (h4 j i a z ha);have nb:∀b,F b=none->b≠a->upd F a (.lst xs) b=none:=fun b hb hn=>by rw[Qs hn];exact hb
   have go:∀{b:Addr} {es:Qd},b≠a->Vb F H b es->Vb (upd F a (.lst xs)) H b es:=fun{b es} hn ⟨z1,zs,z2,z3⟩=>⟨nb _ z1 hn,zs,z2,z3.mono sm⟩
   cases t' with
   |fz d=>exact⟨f2.1,f2.2.mono sm⟩
   |zow Ψ=>exact⟨f2.1,Ψ.mono sm f2.2⟩
   |ol es =>
     obtain⟨b,g1,g2,g3⟩:=f2
     exact⟨b,g1,g2,go (fun z=>na (by rw[g2,z];exact Xa)) g3⟩
   |oll dss =>
     obtain⟨b,bs,g1,g2,g3,g4,g5,g6⟩:=f2;refine⟨b,bs,g1,g2,g3,nb _ g4 (fun z=>na (by rw[g2,z];exact Xa)),g5,?_⟩;have nbs:a∉bs:=fun z=>na (by rw[g2];exact Xf _ z)
     clear g1 g2 g3 g5;have all:∀(bs:Qg) (dss:List (Qd)),a∉bs->Zt F H bs dss->Zt (upd F a (.lst xs)) H bs dss:=by
      intro bs;induction bs with
      |nil =>
        intro dss _ h;cases dss with
        |nil=>exact trivial
        |cons _ _=>exact False.elim h
      |cons c cs ih =>
        intro dss hn h;cases dss with
        |nil=>exact False.elim h
        |cons es ess=>exact⟨go (fun z=>hn (by rw[z];exact Xa)) h.1,ih ess (fun z=>hn (Xf _ z)) h.2⟩
     exact all bs dss nbs g6
   |scr ns =>
     obtain⟨g1,b,g2,g3⟩:=f2
     exact⟨g1,b,g2,g3.mono sm⟩
   |own v0 Φ=>exact⟨f2.1,Φ.mono sm (fun b hb=>nb b (Φ.there f2.2 b hb).1 fun z=>na (by rw[<- z];exact hb)) (fun _ _=>rfl) f2.2⟩
 ·by_cases hj:j=i
  ·simp[hj]at hb
  ·by_cases hk:k=i
   ·simp[hk]at hc
   ·simp only[Xb hj]at hb
    simp only[Xb hk]at hc;exact h4 j k b hb hc
 ·by_cases hj:j=i
  ·simp[hj]at hb
  ·simp only[Xb hj]at hb
   exact h5 j b hb
inductive Args (K:W.Frag)(F:Hp):List V->List OT->Prop
 |nil:Args K F [] []
 |fz {v:V} {d:PyData} {vs:List V} {ts:List OT}:Rep F v d->Args K F vs ts->Args K F (v::vs) (.fz d::ts)
 |zow {v:V} {Ψ:ZP} {vs:List V} {ts:List OT}:Ψ.ok K F v->Args K F vs ts->Args K F (v::vs) (.zow Ψ::ts)
 |scr {a:Addr} {ns:Ql} {vs:List V} {ts:List OT}:Scr K F a ns->Args K F vs ts->Args K F (.ref a::vs) (.scr ns::ts)
theorem Args.mono {K:W.Frag}{F F':Hp}(s:Q2 F F'):∀{vs:List V} {ts:List OT},Args K F vs ts->Args K F' vs ts
 |_,_,.nil=>.nil
 |_,_,.fz r t=>.fz (r.mono s) (Args.mono s t)
 |_,_,.scr r t=>.scr (r.mono s) (Args.mono s t)
 |_,_,.zow (Ψ:=Ψ) r t=>.zow (Ψ.mono s r) (Args.mono s t)
theorem Args.length {K:W.Frag}{F:Hp}:∀{vs:List V} {ts:List OT},Args K F vs ts->vs.length=ts.length
 |_,_,.nil=>rfl
 |_,_,.fz _ t=>by simp[Args.length t]
 |_,_,.scr _ t=>by simp[Args.length t]
 |_,_,.zow _ t=>by simp[Args.length t]
theorem Args.get {K:W.Frag}{F H:Hp}:∀{vs:List V} {ts:List OT},Args K F vs ts->∀(i:Nat) (t:OT),ts[i]?=some t->∃v,vs[i]?=some v/\Zk K F H v t []
 |_,_,.nil,i,t,e=>by simp at e
 |_,_,.fz r _,0,t,e=>by simp at e;subst e;exact⟨_,rfl,rfl,r⟩
 |_,_,.scr r _,0,t,e=>by simp at e;subst e;exact⟨_,rfl,rfl,_,rfl,r⟩
 |_,_,.zow r _,0,t,e=>by simp at e;subst e;exact⟨_,rfl,rfl,r⟩
 |_,_,.zow _ q,i+1,t,e=>by
   obtain⟨v,h1,h2⟩:=Args.get (H:=H) q i t (by simpa using e)
   exact⟨v,by simpa using h1,h2⟩
 |_,_,.fz _ q,i+1,t,e=>by
   obtain⟨v,h1,h2⟩:=Args.get (H:=H) q i t (by simpa using e)
   exact⟨v,by simpa using h1,h2⟩
 |_,_,.scr _ q,i+1,t,e=>by
   obtain⟨v,h1,h2⟩:=Args.get (H:=H) q i t (by simpa using e)
   exact⟨v,by simpa using h1,h2⟩
section
variable (K:W.Frag)
def Qu (t:TE)(ρ:Q6)(d:PyData):Prop := ∀(H0 F:Hp) (σ:St) (H:Hp) (Q:VK),Q9 K H0 F ρ σ H->(∀F' H' v,Qx F H F' H'->Rep F' v d->Q v H')->t σ H Q
def EvO (t:TE)(ρ:Q6)(r:OT):Prop := ∀(H0 F:Hp) (σ:St) (H:Hp) (Q:VK),Q9 K H0 F ρ σ H->(∀F' H' v p,Qx F H F' H'->(∀a∈p,H a=none)->Zk K F' H' v r p->Q v H')->t σ H Q
def Ze (t:TT)(ρ:Q6)(b:Bool):Prop := ∀(H0 F:Hp) (σ:St) (H:Hp) (Q:Bool->Hp->Prop),Q9 K H0 F ρ σ H->(∀F' H',Qx F H F' H'->Q b H')->t σ H Q
def Zn (t:TA)(ρ:Q6)(ts:List OT):Prop := ∀(H0 F:Hp) (σ:St) (H:Hp) (Q:List V->Hp->Prop),Q9 K H0 F ρ σ H->(∀F' H' vs,Qx F H F' H'->Args K F' vs ts->Q vs H')->t σ H Q
def N8 (F':Hp)(J:It)(ds:Qd):Prop := ∀(F'' H'':Hp),Q2 F' F''->Q2 F'' H''->J.stop ds.length H'' /\
 ∀(i:Nat) (d:PyData),ds[i]?=some d->J.go i H''/\∀x H3,J.yld i H'' x H3->∃F3,Qx F'' H'' F3 H3/\Rep F3 x d
def EvI (wi:TI)(ρ:Q6)(ds:Qd):Prop := ∀(H0 F:Hp) (σ:St) (H:Hp) (R:It->Hp->Prop),Q9 K H0 F ρ σ H->(∀F' H' J,Qx F H F' H'->N8 F' J ds->R J H')->wi σ H R
def GTo (g:TG)(d:PyData)(ρ ρ':Q6):Prop := ∀(H0 F:Hp) (σ:St) (H:Hp) (x:V) (Q:St->Hp->Prop),Q9 K H0 F ρ σ H->Rep F x d->(∀σ',Q9 K H0 F ρ' σ' H->Q σ' H)->g x σ H Q
def GT (g:TGs)(ds:Qd)(ρ ρ':Q6):Prop := ∀(H0 F:Hp) (σ:St) (H:Hp) (xs:List V) (Q:St->Hp->Prop),Q9 K H0 F ρ σ H->Qw F xs ds->(∀σ',Q9 K H0 F ρ' σ' H->Q σ' H)->g xs σ H Q
structure PEnds where
 nx:Q6->Prop
 rt:OT->Prop
 bk:Q6->Prop:=fun _=>False
 ct:Q6->Prop:=fun _=>False
structure Cnv (F0 H0:Hp)(D:PEnds)(E:Ends):Prop where
 nx:∀F σ H ρ,Qx F0 H0 F H->Q9 K H0 F ρ σ H->D.nx ρ->E.nx σ H
 rt:∀F H v r p,Qx F0 H0 F H->(∀a∈p,H0 a=none)->Zk K F H v r p->D.rt r->E.rt v H
 bk:∀F σ H ρ,Qx F0 H0 F H->Q9 K H0 F ρ σ H->D.bk ρ->E.bk σ H
 ct:∀F σ H ρ,Qx F0 H0 F H->Q9 K H0 F ρ σ H->D.ct ρ->E.ct σ H
def Q1 (t:TS)(ρ:Q6)(D:PEnds):Prop := ∀(F0 H0 F:Hp) (σ:St) (H:Hp) (E:Ends),Qx F0 H0 F H->Q9 K H0 F ρ σ H->Cnv K F0 H0 D E->t E σ H
end
section
variable {K:W.Frag}{ρ:Q6}{ta tb tc:TE}{tA tB':TT}
def Qu.o {t:TE}{d:PyData}(h:Qu K t ρ d):EvO K t ρ (.fz d):=fun H0 F σ H Q S q=>h H0 F σ H Q S fun F' H' v x r=>q F' H' v [] x (fun _ z=>nomatch z) ⟨rfl,r⟩
def EvO.e {t:TE}{d:PyData}(h:EvO K t ρ (.fz d)):Qu K t ρ d:=fun H0 F σ H Q S q=>h H0 F σ H Q S fun F' H' v p x _ r=>q F' H' v x r.2
def EvO.fz {t:TE}{ds:Qd}(h:EvO K t ρ (.ol ds)):Qu K t ρ (.list ds):=fun H0 F σ H Q S q=>h H0 F σ H Q S fun F' H' v p x hp r=>by
 obtain⟨a,rfl,rfl,r1,xs,r2,r3⟩:=r;refine q (upd F' a (.lst xs)) H' _ (x.freeze r1 r2 (hp a Xa)) (.lst QC (r3.mono (Q2.new r1)))
def Qt {i:Nat}{d:PyData}(e:ρ[i]?=some (some (.fz d))):Qu K (QB i) ρ d:=fun H0 F σ H Q S q=>by
 obtain⟨fp,h,_⟩:=S.fp;obtain⟨v,e1,e2⟩:=h i _ e
 exact⟨v,e1,q F H v (Qx.refl S.sub) e2.2⟩
def Q8 {i:Int}:Qu K (tC (.int i)) ρ (.int i):=fun H0 F σ H Q S q=>q F H _ (Qx.refl S.sub) (.int i)
def KW {b:Bool}:Qu K (tC (.bl b)) ρ (.bool b):=fun H0 F σ H Q S q=>q F H _ (Qx.refl S.sub) (.bl b)
def Ww:Qu K (tC .non) ρ .none:=fun H0 F σ H Q S q=>q F H _ (Qx.refl S.sub) .non
def VM {x:Str}:Qu K (tC (.str x)) ρ (.str x):=fun H0 F σ H Q S q=>q F H _ (Qx.refl S.sub) (.str x)
def YV {a b:PyData}{Q:VK}{r:R2}{H0 F H:Hp}{σ:St}(ha:Qu K ta ρ a)(hb:Qu K tb ρ b)(S:Q9 K H0 F ρ σ H)
 (h:∀F' H' x y,Qx F H F' H'->Rep F' x a->Rep F' y b->r x y H' Q):tOp r ta tb σ H Q :=
 ha H0 F σ H _ S fun F1 H1 x x1 r1=>hb H0 F1 σ H1 _ (S.ext x1) fun F2 H2 y x2 r2=>h F2 H2 x y (x1.trans x2) (r1.mono x2.ff) r2
def Z8 {g:Int->Int->Int}{x y:Int}(ha:Qu K ta ρ (.int x))(hb:Qu K tb ρ (.int y)):Qu K (tOp (rI0 fun i j=>.int (g i j)) ta tb) ρ (.int (g x y)):=fun H0 F σ H Q S q =>
 YV ha hb S fun F' H' u v e r1 r2=>by cases r1;cases r2;exact⟨x,y,rfl,rfl,q F' H' _ e (.int _)⟩
def Wb {g:Int->Int->Bool}{x y:Int}(ha:Qu K ta ρ (.int x))(hb:Qu K tb ρ (.int y)):Qu K (tOp (rI0 fun i j=>.bl (g i j)) ta tb) ρ (.bool (g x y)):=fun H0 F σ H Q S q =>
 YV ha hb S fun F' H' u v e r1 r2=>by cases r1;cases r2;exact⟨x,y,rfl,rfl,q F' H' _ e (.bl _)⟩
def ZE {C:Int->Int->Prop}{g:Int->Int->Int}{x y:Int}(ha:Qu K ta ρ (.int x))(hb:Qu K tb ρ (.int y))(hc:C x y):Qu K (tOp (rI C fun i j=>.int (g i j)) ta tb) ρ (.int (g x y)):=fun H0 F σ H Q S q =>
 YV ha hb S fun F' H' u v e r1 r2=>by cases r1;cases r2;exact⟨x,y,rfl,rfl,hc,q F' H' _ e (.int _)⟩
def Mq {g:Int->Int}{x:Int}(ha:Qu K ta ρ (.int x)):Qu K (tUn (rU fun i=>.int (g i)) ta) ρ (.int (g x)):=fun H0 F σ H Q S q =>
 ha H0 F σ H _ S fun F1 H1 v x1 r1=>by cases r1;exact⟨x,rfl,q F1 H1 _ x1 (.int _)⟩
def ZN:PyData->Option V
 |.none=>some .non
 |.bool b=>some (.bl b)
 |.int i=>some (.int i)
 |.str x=>some (.str x)
 |_=>Option.none
def Rep.flat {H:Hp}{x v:V}{d:PyData}(r:Rep H x d)(e:ZN d=some v):x=v:=by
 cases r<;>simp[ZN]at e<;>exact e
def T9 {a b:PyData}{v w:V}(ha:Qu K ta ρ a)(hb:Qu K tb ρ b)(e1:ZN a=some v)(e2:ZN b=some w)(hs:∀(H:Hp) (Q:VK),Q (.bl (decide (v=w))) H->rEq v w H Q) :
 Qu K (tOp rEq ta tb) ρ (.bool (decide (v=w))):=fun H0 F σ H Q S q =>
 YV ha hb S fun F' H' x y e r1 r2=>by rw[r1.flat e1,r2.flat e2];exact hs _ _ (q F' H' _ e (.bl _))
def TY {a b:PyData}{v w:V}(ha:Qu K ta ρ a)(hb:Qu K tb ρ b)(e1:ZN a=some v)(e2:ZN b=some w)(hs:∀(H:Hp) (Q:VK),Q (.bl (!decide (v=w))) H->rNe v w H Q) :
 Qu K (tOp rNe ta tb) ρ (.bool (!decide (v=w))):=fun H0 F σ H Q S q =>
 YV ha hb S fun F' H' x y e r1 r2=>by rw[r1.flat e1,r2.flat e2];exact hs _ _ (q F' H' _ e (.bl _))
def Sg {x y:Int}:decide (V.int x=V.int y)=decide (x=y):=by
 by_cases h:x=y
 ·subst h;simp
 ·rw[XO h,XO (fun z=>h (by injection z))]
def Yz {x y:Int}(ha:Qu K ta ρ (.int x))(hb:Qu K tb ρ (.int y)):Qu K (tOp rEq ta tb) ρ (.bool (decide (x=y))):=by
 rw[<- Sg];exact T9 ha hb rfl rfl fun H Q q=>⟨rfl,q⟩
def UY {x y:Int}(ha:Qu K ta ρ (.int x))(hb:Qu K tb ρ (.int y)):Qu K (tOp rNe ta tb) ρ (.bool (!decide (x=y))):=by
 rw[<- Sg];exact TY ha hb rfl rfl fun H Q q=>⟨rfl,q⟩
def UZ {a b:PyData}(ha:Qu K ta ρ a)(hb:Qu K tb ρ b)(fa:Vm a)(fb:Vm b):Qu K (tOp KF ta tb) ρ (.bool (PyData.eqv a b)):=fun H0 F σ H Q S q =>
 YV ha hb S fun F' H' x y e r1 r2=>⟨a,b,r1.mono e.fh,r2.mono e.fh,fa,fb,q F' H' _ e (.bl _)⟩
def MF {a b:PyData}(ha:Qu K ta ρ a)(hb:Qu K tb ρ b)(fa:Vm a)(fb:Vm b):Qu K (tOp KL ta tb) ρ (.bool (!PyData.eqv a b)):=fun H0 F σ H Q S q =>
 YV ha hb S fun F' H' x y e r1 r2=>⟨a,b,r1.mono e.fh,r2.mono e.fh,fa,fb,q F' H' _ e (.bl _)⟩
def KY:PyData->Bool
 |.none=>true
 |_=>false
def Rep.isNon {H:Hp}{x:V}{d:PyData}(r:Rep H x d):decide (x=.non)=KY d:=by cases r<;>rfl
def NH {a:PyData}(ha:Qu K ta ρ a):Qu K (No ta) ρ (.bool (!KY a)):=fun H0 F σ H Q S q =>
 ha H0 F σ H _ S fun F1 H1 v x1 r1=>by rw[r1.isNon];exact q F1 H1 _ x1 (.bl _)
def Z5 {b:Bool}(h:Qu K ta ρ (.bool b)):Ze K (GZ ta) ρ b:=fun H0 F σ H Q S q=>h H0 F σ H _ S fun F1 H1 v x1 r1=>by cases r1;exact⟨b,rfl,q F1 H1 x1⟩
def ZV {b:Bool}(h:Qu K ta ρ (.bool b)):Ze K (tB ta) ρ b:=fun H0 F σ H Q S q=>h H0 F σ H _ S fun F1 H1 v x1 r1=>by cases r1;exact⟨b,rfl,q F1 H1 x1⟩
def KU:Ze K Ws ρ true:=fun H0 F σ H Q S q=>q F H (Qx.refl S.sub)
def Wv {b c:Bool}(h1:Ze K tA ρ b)(h2:b=true->Ze K tB' ρ c):Ze K (K3 tA tB') ρ (b&&c):=fun H0 F σ H Q S q=>h1 H0 F σ H _ S fun F1 H1 x1=>by
 cases b with
 |true=>rw[Xd rfl];exact h2 rfl H0 F1 σ H1 Q (S.ext x1) fun F2 H2 x2=>by simpa using q F2 H2 (x1.trans x2)
 |false=>rw[Xb Xv];simpa using q F1 H1 x1
def GU {b c:Bool}(h1:Ze K tA ρ b)(h2:b=false->Ze K tB' ρ c):Ze K (tOr tA tB') ρ (b||c):=fun H0 F σ H Q S q=>h1 H0 F σ H _ S fun F1 H1 x1=>by
 cases b with
 |false=>rw[Xb Xv];exact h2 rfl H0 F1 σ H1 Q (S.ext x1) fun F2 H2 x2=>by simpa using q F2 H2 (x1.trans x2)
 |true=>rw[Xd rfl];simpa using q F1 H1 x1
def YB {b:Bool}(h1:Ze K tA ρ b):Ze K (KM tA) ρ (!b):=fun H0 F σ H Q S q=>h1 H0 F σ H _ S fun F1 H1 x1=>q F1 H1 x1
def Ga {b c:Bool}(h1:Qu K ta ρ (.bool b))(h2:b=true->Qu K tb ρ (.bool c)):Qu K (Ni ta tb) ρ (.bool (b&&c)):=fun H0 F σ H Q S q=>h1 H0 F σ H _ S fun F1 H1 v x1 r1=>by
 cases r1
 refine⟨b,rfl,?_⟩
 cases b with
 |true=>rw[Xd rfl];exact h2 rfl H0 F1 σ H1 Q (S.ext x1) fun F2 H2 v x2 r2=>by simpa using q F2 H2 v (x1.trans x2) (by simpa using r2)
 |false=>rw[Xb Xv];exact q F1 H1 _ x1 (.bl _)
def Nh {b:Bool}(h1:Qu K ta ρ (.bool b)):Qu K (KS ta) ρ (.bool (!b)):=fun H0 F σ H Q S q=>h1 H0 F σ H _ S fun F1 H1 v x1 r1=>by cases r1;exact⟨b,rfl,q F1 H1 _ x1 (.bl _)⟩
def Dv {g g':Int->Int->Bool}{x y z:Int}(ha:Qu K ta ρ (.int x))(hb:Qu K tb ρ (.int y))(hc:Qu K tc ρ (.int z)) :
 Qu K (Db (rI0 fun i j=>.bl (g i j)) (rI0 fun i j=>.bl (g' i j)) ta tb tc) ρ (.bool (g x y&&g' y z)):=fun H0 F σ H Q S q =>
 ha H0 F σ H _ S fun F1 H1 v x1 r1=>hb H0 F1 σ H1 _ (S.ext x1) fun F2 H2 w x2 r2=>by
  cases r1;cases r2
  refine⟨x,y,rfl,rfl,g x y,rfl,?_⟩
  cases e:g x y with
  |true=>rw[Xd rfl];exact hc H0 F2 σ H2 _ (S.ext (x1.trans x2)) fun F3 H3 u x3 r3=>by cases r3;exact⟨y,z,rfl,rfl,by simpa [e] using q F3 H3 _ ((x1.trans x2).trans x3) (by rw[e];exact .bl _)⟩
  |false=>rw[Xb Xv];simpa [e] using q F2 H2 _ (x1.trans x2) (by rw[e];exact .bl _)
def Q3:Zn K QP ρ []:=fun H0 F σ H Q S q=>q F H [] (Qx.refl S.sub) .nil
def Qv {t:TA}{d:PyData}{ts:List OT}(h1:Qu K ta ρ d)(h2:Zn K t ρ ts):Zn K (QE ta t) ρ (.fz d::ts):=fun H0 F σ H Q S q =>
 h1 H0 F σ H _ S fun F1 H1 v x1 r1=>h2 H0 F1 σ H1 _ (S.ext x1) fun F2 H2 vs x2 r2=>q F2 H2 _ (x1.trans x2) (.fz (r1.mono x2.ff) r2)
def UX {t:TA}{i:Nat}{ns:Ql}{ts:List OT}(e:ρ[i]?=some (some (.scr ns)))(h2:Zn K t ρ ts):Zn K (QE (QB i) t) ρ (.scr ns::ts):=fun H0 F σ H Q S q=>by
 obtain⟨fp,h,_⟩:=S.fp;obtain⟨v,e1,_,a,rfl,e3⟩:=h i _ e
 exact⟨_,e1,h2 H0 F σ H _ S fun F2 H2 vs x2 r2=>q F2 H2 _ x2 (.scr (e3.mono x2.ff) r2)⟩
def WO {t:TA}{i:Nat}{Ψ:ZP}{ts:List OT}(e:ρ[i]?=some (some (.zow Ψ)))(h2:Zn K t ρ ts):Zn K (QE (QB i) t) ρ (.zow Ψ::ts):=fun H0 F σ H Q S q=>by
 obtain⟨fp,h,_⟩:=S.fp;obtain⟨v,e1,_,e3⟩:=h i _ e
 exact⟨_,e1,h2 H0 F σ H _ S fun F2 H2 vs x2 r2=>q F2 H2 _ x2 (.zow (Ψ.mono x2.ff e3) r2)⟩
def fzs (ds:Qd):List OT:=ds.map OT.fz
theorem Args.reps {F:Hp}:∀{vs:List V} {ds:Qd},Args K F vs (fzs ds)->Qw F vs ds
 |_,[],.nil=>.nil
 |_,_::_,.fz r t=>.cons r (Args.reps t)
def YC {t:TA}{ds:Qd}(h:Zn K t ρ (fzs ds))(hl:ds.length<=1000):Qu K (Jj t) ρ (.tuple ds):=fun H0 F σ H Q S q =>
 h H0 F σ H _ S fun F1 H1 vs x1 r1=>⟨by rw[r1.reps.length];exact Yr (ZT hl),fun p hp=>by
  have s1:=x1.fh;exact q _ _ _ (x1.trans (Qx.new s1 hp)) (.tup QC (r1.reps.mono (Q2.new (s1.free hp))))⟩
def D4 {F0 H0 F H:Hp}{p:Addr}{xs:List V}{ds:Qd}(x:Qx F0 H0 F H)(hp:H p=none)(r:Qw F xs ds):Qx F0 H0 F (upd H p (.lst xs))/\(∀a∈[p],H0 a=none)/\Zk K F (upd H p (.lst xs)) (.ref p) (.ol ds) [p] :=
 ⟨x.trans (Qx.own x.fh hp),fun a ha=>by
  have e:a=p:=by simpa using ha
  subst e;exact x.hh.free hp,p,rfl,rfl,x.fh.free hp,xs,QC,r⟩
def Vi {t:TA}{ds:Qd}(h:Zn K t ρ (fzs ds))(hl:ds.length<=1000):EvO K (WG t) ρ (.ol ds):=fun H0 F σ H Q S q =>
 h H0 F σ H _ S fun F1 H1 vs x1 r1=>⟨by rw[r1.reps.length];exact Yr (ZT hl),fun p hp=>by
  obtain⟨a,b,c⟩:=D4 (K:=K) x1 hp r1.reps;exact q _ _ _ _ a b c⟩
def U1 {F H:Hp}{x:V}{ds:Qd}(r:Rep F x (.list ds))(s:Q2 F H):∃a xs,x=.ref a/\SqL K H a xs/\Qw F xs ds/\H a=some (.lst xs):=by
 cases r with
 |lst ha rr=>exact⟨_,_,rfl,SqL.of (s _ _ ha),rr,s _ _ ha⟩
def B5 {F H:Hp}{x:V}{ds:Qd}(r:Rep F x (.tuple ds))(s:Q2 F H):∃a xs,x=.ref a/\SqT K H a xs/\Qw F xs ds/\H a=some (.tup xs):=by
 cases r with
 |tup ha rr=>exact⟨_,_,rfl,SqT.of (s _ _ ha),rr,s _ _ ha⟩
def Uu {F:Hp}{xs:List V}{ds:Qd}{i:Int}{d:PyData}(r:Qw F xs ds)(e:atI ds i=some d):∃z,atI xs i=some z/\Rep F z d:=by
 obtain⟨j,e1,e2⟩:=NG e;obtain⟨z,z1,z2⟩:=r.get e1;refine⟨z,?_,z2⟩;unfold atI;rw[r.length,e2];exact z1
def Wa {ds:Qd}{i:Int}{d:PyData}(ha:Qu K ta ρ (.list ds))(hb:Qu K tb ρ (.int i))(e:atI ds i=some d):Qu K (tOp (rIx K) ta tb) ρ d:=fun H0 F σ H Q S q =>
 YV ha hb S fun F' H' x y x1 r1 r2=>by
  obtain⟨a,xs,rfl,h1,h2,_⟩:=U1 (K:=K) r1 x1.fh;obtain⟨z,z1,z2⟩:=Uu h2 e
  cases r2
  exact .inl ⟨a,xs,i,z,rfl,rfl,h1,z1,q F' H' z x1 z2⟩
def WL {ds:Qd}{i:Int}{d:PyData}(ha:Qu K ta ρ (.tuple ds))(hb:Qu K tb ρ (.int i))(e:atI ds i=some d):Qu K (tOp (rIx K) ta tb) ρ d:=fun H0 F σ H Q S q =>
 YV ha hb S fun F' H' x y x1 r1 r2=>by
  obtain⟨a,xs,rfl,h1,h2,_⟩:=B5 (K:=K) r1 x1.fh;obtain⟨z,z1,z2⟩:=Uu h2 e
  cases r2
  exact .inr (.inl ⟨a,xs,i,z,rfl,rfl,h1,z1,q F' H' z x1 z2⟩)
def P7 {i:Nat}{ds:Qd}{k:Int}{d:PyData}(e0:ρ[i]?=some (some (.ol ds)))(hb:Qu K tb ρ (.int k))(e:atI ds k=some d):Qu K (tOp (rIx K) (QB i) tb) ρ d:=fun H0 F σ H Q S q=>by
 obtain⟨fp,h,_⟩:=S.fp;obtain⟨v,e1,a,rfl,_,o1⟩:=h i _ e0;refine⟨_,e1,hb H0 F σ H _ S fun F1 H1 y x1 r1=>?_⟩;obtain⟨f1,xs,f2,f3⟩:=o1.ext x1;obtain⟨z,z1,z2⟩:=Uu f3 e
 cases r1
 exact .inl ⟨a,xs,k,z,rfl,rfl,SqL.of f2,z1,q F1 H1 z x1 z2⟩
def PX {i:Nat}{ns:Ql}{k n:Int}(e0:ρ[i]?=some (some (.scr ns)))(hb:Qu K tb ρ (.int k))(e:atI ns k=some n):Qu K (tOp (rIx K) (QB i) tb) ρ (.int n):=fun H0 F σ H Q S q=>by
 obtain⟨fp,h,_⟩:=S.fp;obtain⟨v,e1,_,a,rfl,sc⟩:=h i _ e0;refine⟨_,e1,hb H0 F σ H _ S fun F1 H1 y x1 r1=>?_⟩
 cases r1
 obtain⟨j,j1,j2⟩:=NG e
 have z1:atI (ns.map V.int) k=some (.int n):=by
  unfold atI;rw[Xm,j2];show(ns.map V.int)[j]?=_;rw[Xt,j1];rfl
 exact .inl ⟨a,_,k,_,rfl,rfl,(x1.ff.trans x1.fh).seq sc.sq,z1,q F1 H1 _ x1 (.int n)⟩
def QQ (R:List OT->OT->Prop):Sp:=fun vs H Q _=>∃F ts r,KTs K F/\Q2 F H/\Args K F vs ts/\R ts r/\∀F' H' v p,Qx F H F' H'->(∀a∈p,H a=none)->Zk K F' H' v r p->Q v H'
def Bo {R:List OT->OT->Prop}{t:TA}{E:XK}{ts:List OT}{r:OT}(h:Zn K t ρ ts)(hR:R ts r):EvO K (VA (QQ (K:=K) R) [] E t) ρ r:=fun H0 F σ H Q S q =>
 h H0 F σ H _ S fun F1 H1 vs x1 r1=>by
  refine⟨F1,ts,r,(S.ext x1).kt,x1.fh,by rw[Xz];exact r1,hR,fun F2 H2 v p x2 hp ok=>q F2 H2 v p (x1.trans x2) (fun a ha=>x1.hh.free (hp a ha)) ok⟩
def Zf {R:List OT->OT->Prop}{t:TA}{E:XK}{ts:List OT}{d:PyData}(h:Zn K t ρ ts)(hR:R ts (.fz d)):Qu K (VA (QQ (K:=K) R) [] E t) ρ d:=(Bo h hR).e
def Tu {R:List OT->OT->Prop}{t:TA}{E:XK}{ts:List OT}{ds:Qd}(h:Zn K t ρ ts)(hR:R ts (.ol ds)):Qu K (VA (QQ (K:=K) R) [] E t) ρ (.list ds):=(Bo h hR).fz
end
def Df.ev {P:Program}{w:World}{K:W.Frag}{mg:Str->Qf}{base:Heap}{x:Str}{st:Stmt}{N ps:Qh}{k:Nat}{R:List OT->OT->Prop}(D:Df K mg x st ps)(S:Qp N ps (Q0 st))(len:∀ts r,R ts r->ts.length=ps.length)
 (XaV:∀(f:Addr) (cdv:Value) (A:Around) (outer:List Env) (s:Shared) (H:Hp) (E:XK) (ts:List OT) (r:OT),Room k (A.deeper (envOfC x (Q0 st) s.heap.objs.size f cdv))->R ts r ->
  ∃t,PSs (Vd CX0 P w K mg base N x (Q0 st) f cdv A outer s H E).nox (Zx st) t/\Q1 K t (ts.map some++List.replicate (N.length-ts.length) none) { nx:=fun _=>r=.fz .none,rt:=fun r'=>r'=r }):QD P w K mg base x ps (k+1) (QQ (K:=K) R):=by
 refine D.cal S (fun vs H Q E ⟨F,ts,r,_,_,ha,hR,_⟩=>ha.length.trans (len ts r hR)) fun f cdv A outer s H vs Q E hr ⟨F,ts,r,kt,sm,ha,hR,q⟩=>?_;obtain⟨t,h1,h2⟩:=XaV f cdv A outer s H E ts r hr hR;refine⟨t,h1,h2 F H F (start N vs) H _ (Qx.refl sm) ⟨kt,sm,?_,fun _=>[],fun i t' e=>?_,fun i j a h=>(nomatch h),fun i a h=>(nomatch h)⟩ ⟨fun F' σ' H' ρ' x' _ e=>?_,fun F' H' v r' p x' hp ok e=>?_,fun _ _ _ _ _ _ z=>False.elim z,fun _ _ _ _ _ _ z=>False.elim z⟩⟩
 ·unfold start
  simp[ha.length]
 ·have hlt:i<ts.length:=by
   by_cases z:i<ts.length
   ·exact z
   ·rw[XY (by simpa using z)]at e
    have:=List.mem_of_getElem? e
    simp at this
  rw[XH (by simpa using hlt),Xt]at e;have e':ts[i]?=some t':=by
   cases z:ts[i]? with
   |none=>rw[z]at e;simp at e
   |some w=>rw[z]at e;simp at e;rw[e]
  obtain⟨v,e1,e2⟩:=ha.get (H:=H) i t' e';refine⟨v,?_,e2⟩;unfold start;have hl2:i<vs.length:=by rw[ha.length];exact hlt
  rw[XH (by simpa using hl2),Xt,e1];rfl
 ·subst e
  exact q F' H' _ [] x' (fun _ z=>nomatch z) ⟨rfl,.non⟩
 ·subst e
  exact q F' H' v p x' hp ok
theorem Ph:∀{as bs:Qg},as.map V.ref=bs.map V.ref->as=bs
 |[],[],_=>rfl
 |[],_::_,h=>by simp at h
 |_::_,[],h=>by simp at h
 |a::as,b::bs,h=>by
   simp only[Xu,List.cons.injEq]at h;obtain⟨h1,h2⟩:=h;injection h1 with h1;rw[h1,Ph h2]
section
variable {K:W.Frag}{ρ:Q6}{ta tb tc te:TE}{tA:TT}{t u:TS}{D:PEnds}
def ZI (h:D.nx ρ):Q1 K Na ρ D:=fun F0 H0 F σ H E x S C=>C.nx F σ H ρ x S h
def QI (h:Q1 K t ρ { D with nx:=fun ρ'=>Q1 K u ρ' D }):Q1 K (VV t u) ρ D:=fun F0 H0 F σ H E x S C =>
 h F0 H0 F σ H { E with nx:=u E } x S ⟨fun F' σ' H' ρ' x' S' q=>q F0 H0 F' σ' H' E x' S' C,C.rt,C.bk,C.ct⟩
def Dk {ρ':Q6}(f:Fgt ρ ρ')(h:Q1 K t ρ' D):Q1 K t ρ D:=fun F0 H0 F σ H E x S C=>h F0 H0 F σ H E x (S.fgt f) C
def UT (i:Nat){ds:Qd}(e:ρ[i]?=some (some (.ol ds)))(h:Q1 K t (ρ.set i (some (.fz (.list ds)))) D):Q1 K t ρ D:=fun F0 H0 F σ H E x S C=>by
 obtain⟨a,xs,e1,e2,e3,_,_,S'⟩:=S.freeze e;exact h F0 H0 _ σ H E (x.freeze e1 e2 e3) S' C
def WM {r:OT}(h:EvO K te ρ r)(hr:D.rt r):Q1 K (Yk te) ρ D:=fun F0 H0 F σ H E x S C =>
 h H0 F σ H _ S fun F' H' v p x' hp ok=>C.rt F' H' v r p (x.trans x') (fun a ha=>x.hh.free (hp a ha)) ok hr
def Vg {d:PyData}(h:Qu K te ρ d)(hr:D.rt (.fz d)):Q1 K (Yk te) ρ D:=WM h.o hr
def Gn {i:Nat}{ds:Qd}(e:ρ[i]?=some (some (.ol ds)))(hr:D.rt (.ol ds)):Q1 K (Yk (QB i)) ρ D:=fun F0 H0 F σ H E x S C=>by
 obtain⟨fp,h,_,h5⟩:=S.fp;obtain⟨v,e1,ok⟩:=h i _ e
 exact⟨v,e1,C.rt F H v _ _ x (fun a ha=>(h5 i a ha).1) ok hr⟩
def Z1 {b:Bool}(h:Ze K tA ρ b)(h1:b=true->Q1 K t ρ D)(h2:b=false->Q1 K u ρ D):Q1 K (UM tA t u) ρ D:=fun F0 H0 F σ H E x S C =>
 h H0 F σ H _ S fun F' H' x'=>by
  cases b with
  |true=>rw[Xd rfl];exact h1 rfl F0 H0 F' σ H' E (x.trans x') (S.ext x') C
  |false=>rw[Xb Xv];exact h2 rfl F0 H0 F' σ H' E (x.trans x') (S.ext x') C
def VY {i:Nat}{r:OT}(h:EvO K te ρ r)(hn:D.nx (ρ.set i (some r))):Q1 K (ZJ te (ZC i)) ρ D:=fun F0 H0 F σ H E x S C =>
 h H0 F σ H _ S fun F' H' v p x' hp ok=>by
  refine C.nx F' _ H' _ (x.trans x') ((S.ext x').set ok (fun a ha=>x.hh.free (hp a ha)) (hn:=fun a ha j w t' q e1 e2 ok'=>?_)) hn;obtain⟨fp,g1,g2,g3⟩:=S.fp;obtain⟨w',f1,f2⟩:=g1 j t' e1;intro hq;have f3:=f2.ext x';rw[e2]at f1;cases f1
  have same:∀b∈q,b∈fp j:=by
   cases t' with
   |fz d=>rw[ok'.1];intro b hb;cases hb
   |zow Ψ=>rw[ok'.1];intro b hb;cases hb
   |ol ds =>
     obtain⟨b1,z1,z2,z3⟩:=ok';obtain⟨b2,y1,y2,y3⟩:=f3;rw[z1]at y1;cases y1;rw[z2,y2];exact fun _ z=>z
   |oll dss =>
     obtain⟨b1,bs1,z1,z2,z3,z4,z5,z6⟩:=ok';obtain⟨b2,bs2,y1,y2,y3,y4,y5,y6⟩:=f3;rw[z1]at y1;cases y1;rw[z5]at y5;have e5:bs1.map V.ref=bs2.map V.ref:=by injection y5 with z;injection z
     have e6:bs1=bs2:=Ph e5;rw[z2,y2,e6];exact fun _ z=>z
   |scr ns=>rw[ok'.1];intro b hb;cases hb
   |own v0 Φ=>exact fun b hb=>Φ.uniq f3.2 ok'.2 b hb
  exact(g3 j a (same a hq)).2 (hp a ha)
def Zu {i:Nat}{d:PyData}(h:Qu K te ρ d)(hn:D.nx (ρ.set i (some (.fz d)))):Q1 K (ZJ te (ZC i)) ρ D:=VY h.o hn
def Z2 {i:Nat}{d:PyData}:GTo K (ZC i) d ρ (ρ.set i (some (.fz d))):=fun H0 F σ H x Q S r q=>q _ (S.setF r)
def JV:GT K Ms [] ρ ρ:=fun H0 F σ H xs Q S r q=>by cases r;exact⟨rfl,q _ S⟩
def YF {g:TG}{gs:TGs}{d:PyData}{ds:Qd}{ρ1 ρ2:Q6}(h1:GTo K g d ρ ρ1)(h2:GT K gs ds ρ1 ρ2):GT K (M4 g gs) (d::ds) ρ ρ2:=fun H0 F σ H xs Q S r q=>by
 cases r with
 |cons r1 r2=>exact⟨_,_,rfl,h1 H0 F σ H _ _ S r1 fun σ1 S1=>h2 H0 F σ1 H _ _ S1 r2 q⟩
def Jl {n:Nat}{gs:TGs}{ds:Qd}{ρ1:Q6}(h:GT K gs ds ρ ρ1)(hn:ds.length=n):GTo K (Mm K n gs) (.tuple ds) ρ ρ1:=fun H0 F σ H x Q S r q=>by
 obtain⟨a,xs,rfl,h1,h2,_⟩:=B5 (K:=K) r S.sub
 exact⟨a,xs,rfl,h1,by rw[h2.length,hn],h H0 F σ H xs Q S h2 q⟩
def Qx.wr {F0 H0 F H:Hp}{a:Addr}{o:HO}(x:Qx F0 H0 F H)(h0:H0 a=none)(hf:F a=none):Qx F0 H0 F (upd H a o) :=
 ⟨x.hh.upd h0,x.ff,x.fh.upd hf,x.fr⟩
def Ul {i:Nat}{ds:Qd}{d:PyData}(e:ρ[i]?=some (some (.ol ds)))(h:Qu K te ρ d)(hl:ds.length<1000)(hn:D.nx (ρ.set i (some (.ol (ds++[d]))))) :
 Q1 K (Vh (tBM K "list" VQ (QB i) (QE te QP))) ρ D:=fun F0 H0 F σ H E x S C=>by
 obtain⟨a,xs,e1,e2,e3,_⟩:=S.write e;refine⟨_,e1,.inl ⟨rfl,_,SqL.of e2⟩,h H0 F σ H _ S fun F1 H1 v x1 r1=>?_⟩;obtain⟨a',xs',f1,f2,f3,f4,f5,f6⟩:=(S.ext x1).write e;rw[e1]at f1;cases f1;refine⟨a,xs',v,rfl,rfl,f2,by rw[f3.length];exact ZT (by omega),?_⟩;exact C.nx F1 σ _ _ ((x.trans x1).wr f4 f5) (f6 _ _ (f3.snoc r1)) hn
def R1 {f:Int->Int->Int}{i:Nat}{ds:Qd}{k m n:Int}(e:ρ[i]?=some (some (.ol ds)))(hi:Qu K tb ρ (.int k))(h0:0<=k)(hm:ds[k.toNat]?=some (.int m))(h:Qu K te ρ (.int n))
 (hn:D.nx (ρ.set i (some (.ol (ds.set k.toNat (.int (f m n))))))):Q1 K (GV (QB i) tb te (GY K) (ipI f) UU) ρ D:=fun F0 H0 F σ H E x S C=>by
 obtain⟨a,xs,e1,e2,e3,_⟩:=S.write e;refine⟨_,e1,hi H0 F σ H _ S fun F1 H1 y x1 r1=>?_⟩
 cases r1
 obtain⟨a1,xs1,f1,f2,f3,_⟩:=(S.ext x1).write e;rw[e1]at f1;cases f1;obtain⟨z,z1,z2⟩:=f3.get hm;refine⟨a,xs1,k,z,rfl,rfl,SqL.of f2,h0,z1,h H0 F1 σ H1 _ (S.ext x1) fun F2 H2 w x2 r2=>?_⟩
 cases r2
 cases z2
 refine⟨m,n,rfl,rfl,?_⟩;obtain⟨a2,xs2,g1,g2,g3,g4,g5,g6⟩:=(S.ext (x1.trans x2)).write e;rw[e1]at g1;cases g1;have hlt:k.toNat<ds.length:=(Xg.mp hm).1;refine⟨a,xs2,k,k.toNat,rfl,rfl,g2,?_,?_⟩
 ·rw[g3.length]
  unfold ixN;rw[Xd h0,Xd (by omega)]
 ·exact C.nx F2 σ _ _ ((x.trans (x1.trans x2)).wr g4 g5) (g6 _ _ (g3.set (.int _) _)) hn
def Qx.base {F0 H0 F H:Hp}(x:Qx F0 H0 F H):Qx F H0 F H:=⟨x.hh,Q2.refl _,x.fh,fun _ h=>.inl h⟩
def Qx.rebase {F0 H0 F H F' H':Hp}(x:Qx F0 H0 F H)(y:Qx F H0 F' H'):Qx F0 H0 F' H' :=
 ⟨y.hh,x.ff.trans y.ff,y.fh,fun a h=>(y.fr a h).elim (fun z=>x.fr a z) .inr⟩
def V3 {wi:TI}{g:TG}{tbd:TS}{ds:Qd}(P:Nat->Q6->Prop)(hi:EvI K wi ρ ds)(h0:P 0 ρ)
 (hs:∀(i:Nat) (d:PyData) (ρ':Q6),ds[i]?=some d->P i ρ'->∃ρ2,GTo K g d ρ' ρ2/\Q1 K tbd ρ2 { nx:=P (i+1),ct:=P (i+1),bk:=D.nx,rt:=D.rt }) (hd:∀ρ',P ds.length ρ'->D.nx ρ'):Q1 K (JI wi g tbd) ρ D:=fun F0 H0 F σ H E x S C =>
 hi H0 F σ H _ S fun F1 H1 J x1 W=>by
  refine⟨fun i m σ H=>m=ds.length-i/\i<=ds.length/\∃F ρ',Qx F0 H0 F H/\Q2 F1 F/\Q9 K H0 F ρ' σ H/\P i ρ',⟨ds.length,by simp,XN _,F1,ρ,x.trans x1,Q2.refl _,S.ext x1,h0⟩,?_⟩
  rintro i m σ' H' ⟨rfl,hle,F',ρ',x',s',S',p⟩
  obtain⟨w1,w2⟩:=W F' H' s' S'.sub
  by_cases hlt:i<ds.length
  ·have e:ds[i]?=some ds[i]:=by simp[hlt]
   obtain⟨go,yl⟩:=w2 i _ e;refine .inr ⟨go,fun σ2 H2=>∃F2 ρ2,Qx F0 H0 F2 H2/\Q2 F1 F2/\Q9 K H0 F2 ρ2 σ2 H2/\P (i+1) ρ2,fun σ2 H2 q=>⟨ds.length-(i+1),by omega,rfl,hlt,q⟩,fun v H3 y=>?_⟩;obtain⟨F3,x3,r3⟩:=yl v H3 y;obtain⟨ρ2,hg,hb⟩:=hs i _ ρ' e p;refine hg H0 F3 σ' H3 v _ (S'.ext x3) r3 fun σ2 S2=>?_;have big:Qx F0 H0 F3 H3:=x'.trans x3;have s13:=s'.trans x3.ff
   exact hb F3 H0 F3 σ2 H3 _ big.base S2 ⟨fun F4 σ4 H4 ρ4 x4 S4 q4=>⟨F4,ρ4,big.rebase x4,s13.trans x4.ff,S4,q4⟩,fun F4 H4 v4 r4 p4 x4=>C.rt F4 H4 v4 r4 p4 (big.rebase x4),
    fun F4 σ4 H4 ρ4 x4=>C.nx F4 σ4 H4 ρ4 (big.rebase x4),fun F4 σ4 H4 ρ4 x4 S4 q4=>⟨F4,ρ4,big.rebase x4,s13.trans x4.ff,S4,q4⟩⟩
  ·have e:i=ds.length:=by omega
   subst e;exact .inl ⟨w1,C.nx F' σ' H' ρ' x' S' (hd ρ' p)⟩
def D7 {wi:TI}{g:TG}{tbd:TS}{ds:Qd}(R:Nat->Q6)(hi:EvI K wi ρ ds)(h0:Fgt ρ (R 0))
 (hs:∀(i:Nat) (d:PyData),ds[i]?=some d->∃ρ2,GTo K g d (R i) ρ2/\Q1 K tbd ρ2 { nx:=fun ρ'=>Fgt ρ' (R (i+1)),ct:=fun ρ'=>Fgt ρ' (R (i+1)),bk:=D.nx,rt:=D.rt }) (hd:∀ρ',Fgt ρ' (R ds.length)->D.nx ρ'):Q1 K (JI wi g tbd) ρ D:=by
 refine V3 (fun i ρ'=>Fgt ρ' (R i)) hi h0 (fun i d ρ' e f=>?_) hd;obtain⟨ρ2,h1,h2⟩:=hs i d e
 exact⟨ρ2,fun H0 F σ H x Q S r q=>h1 H0 F σ H x Q (S.fgt f) r q,h2⟩
def DG {c:TT}{tbd:TS}(P:Nat->Q6->Prop)(m0:Nat)(h0:P m0 ρ)
 (hs:∀(m:Nat) (ρ':Q6),P m ρ'->∃b,Ze K c ρ' b/\(b=true->Q1 K tbd ρ' { nx:=fun ρ2=>∃m',m'<m/\P m' ρ2,ct:=fun ρ2=>∃m',m'<m/\P m' ρ2,bk:=D.nx,rt:=D.rt })/\(b=false->D.nx ρ')):Q1 K (NU c tbd) ρ D:=fun F0 H0 F σ H E x S C=>by
 refine⟨fun m σ H=>∃F ρ',Qx F0 H0 F H/\Q9 K H0 F ρ' σ H/\P m ρ',⟨m0,F,ρ,x,S,h0⟩,?_⟩
 rintro m σ' H' ⟨F',ρ',x',S',p⟩
 obtain⟨b,h1,h2,h3⟩:=hs m ρ' p;refine h1 H0 F' σ' H' _ S' fun F1 H1 x1=>?_;have X1:=x'.trans x1;have S1:=S'.ext x1
 cases b with
 |false=>rw[Xb Xv];exact C.nx F1 σ' H1 ρ' X1 S1 (h3 rfl)
 |true =>
   rw[Xd rfl];refine⟨fun σ2 H2=>∃m',m'<m/\∃F2 ρ2,Qx F0 H0 F2 H2/\Q9 K H0 F2 ρ2 σ2 H2/\P m' ρ2,fun σ2 H2 h=>h,?_⟩;have go:∀F4 σ4 H4 ρ4,Qx F0 H0 F4 H4->Q9 K H0 F4 ρ4 σ4 H4->(∃m',m'<m/\P m' ρ4)->∃m',m'<m/\∃F2 ρ2,Qx F0 H0 F2 H4/\Q9 K H0 F2 ρ2 σ4 H4/\P m' ρ2:=fun F4 σ4 H4 ρ4 x4 S4 ⟨m',q1,q2⟩=>⟨m',q1,F4,ρ4,x4,S4,q2⟩;exact h2 rfl F0 H0 F1 σ' H1 _ X1 S1 ⟨go,C.rt,C.nx,go⟩
def JX {ds:Qd}(h:Qu K ta ρ (.list ds)):EvI K (MB K ta) ρ ds:=fun H0 F σ H R S q =>
 h H0 F σ H _ S fun F1 H1 v x1 r1=>by
  obtain⟨a,xs,rfl,h1,h2,h3⟩:=U1 (K:=K) r1 x1.fh
  have hF:F1 a=some (.lst xs):=by
   cases r1 with
   |lst ha rr =>
     have:=x1.fh _ _ ha
     rw[h3]at this;cases this;exact ha
  refine⟨a,rfl,⟨xs,h1⟩,q F1 H1 _ x1 fun F2 H2 s2 s3=>?_⟩;have hq:SqL K H2 a xs:=SqL.of (s3 _ _ (s2 _ _ hF));refine⟨⟨xs,hq,by rw[h2.length];exact Xs _⟩,fun i d e=>?_⟩;obtain⟨z,z1,z2⟩:=h2.get e;refine⟨⟨xs,z,hq,z1⟩,fun y H3 hy=>?_⟩;obtain⟨rfl,hy⟩:=hy;have e2:=hy xs hq;rw[z1]at e2;cases e2
  exact⟨F2,Qx.refl s3,z2.mono s2⟩
def Ng {ds:Qd}(h:Qu K ta ρ (.tuple ds)):EvI K (K4 K ta) ρ ds:=fun H0 F σ H R S q =>
 h H0 F σ H _ S fun F1 H1 v x1 r1=>by
  obtain⟨a,xs,rfl,h1,h2,h3⟩:=B5 (K:=K) r1 x1.fh
  have hF:F1 a=some (.tup xs):=by
   cases r1 with
   |tup ha rr =>
     have:=x1.fh _ _ ha
     rw[h3]at this;cases this;exact ha
  refine⟨a,rfl,⟨xs,h1⟩,q F1 H1 _ x1 fun F2 H2 s2 s3=>?_⟩;have hq:SqT K H2 a xs:=SqT.of (s3 _ _ (s2 _ _ hF));refine⟨⟨xs,hq,by rw[h2.length];exact Xs _⟩,fun i d e=>?_⟩;obtain⟨z,z1,z2⟩:=h2.get e;refine⟨⟨xs,z,hq,z1⟩,fun y H3 hy=>?_⟩;obtain⟨rfl,hy⟩:=hy;have e2:=hy xs hq;rw[z1]at e2;cases e2
  exact⟨F2,Qx.refl s3,z2.mono s2⟩
def ZK (lo:Int)(n:Nat):Qd:=(List.range n).map fun(i:Nat)=>PyData.int (lo+(i:Int))
def Y2 {lo:Int}{n i:Nat}{d:PyData}(e:(ZK lo n)[i]?=some d):i<n/\d=.int (lo+(i:Int)):=by
 unfold ZK at e;rw[Xt]at e;by_cases h:i<n
 ·simp[h]at e;exact⟨h,e.symm⟩
 ·simp[h]at e
def W2 {lo:Int}{n:Nat}:(ZK lo n).length=n:=by simp[ZK]
def SC {F:Hp}{lo:Int}{n:Nat}:N8 F (Itr lo n) (ZK lo n):=fun F2 H2 s2 s3=>by
 refine⟨by show n<=_;rw[W2];exact Xs _,fun i d e=>?_⟩;obtain⟨h1,rfl⟩:=Y2 e;refine⟨h1,fun x H3 hy=>?_⟩;obtain⟨rfl,rfl⟩:=hy
 exact⟨F2,Qx.refl s3,.int _⟩
def VD {t:TA}{n:Int}(h:Zn K t ρ [.fz (.int n)])(h1 : -(2^62)<=n)(h2:n<2^62):EvI K (US t) ρ (ZK 0 n.toNat):=fun H0 F σ H R S q =>
 h H0 F σ H _ S fun F1 H1 vs x1 r1=>by
  cases r1 with
  |fz r r1=>cases r1;cases r;exact⟨n,rfl,h1,h2,q F1 H1 _ x1 SC⟩
def Rr {t:TA}{m n:Int}(h:Zn K t ρ [.fz (.int m),.fz (.int n)])(h1 : -(2^62)<=m/\m<2^62 /\ -(2^62)<=n/\n<2^62):EvI K (KN t) ρ (ZK m (n-m).toNat):=fun H0 F σ H R S q =>
 h H0 F σ H _ S fun F1 H1 vs x1 r1=>by
  cases r1 with
  |fz r r1 =>
    cases r1 with
    |fz r' r1=>cases r1;cases r;cases r';exact⟨m,n,rfl,h1,q F1 H1 _ x1 SC⟩
def JG (hi:Int)(n:Nat):Qd:=(List.range n).map fun(i:Nat)=>PyData.int (hi-(i:Int))
def RJ {hi:Int}{n i:Nat}{d:PyData}(e:(JG hi n)[i]?=some d):i<n/\d=.int (hi-(i:Int)):=by
 unfold JG at e;rw[Xt]at e;by_cases h:i<n
 ·simp[h]at e;exact⟨h,e.symm⟩
 ·simp[h]at e
def Se {hi:Int}{n:Nat}:(JG hi n).length=n:=by simp[JG]
def Tj {t:TA}{m n:Int}(h:Zn K t ρ [.fz (.int m),.fz (.int n),.fz (.int (-1))])(h1 : -(2^62)<=m/\m<2^62 /\ -(2^62)<=n/\n<2^62):EvI K (Nb t) ρ (JG m (m-n).toNat):=fun H0 F σ H R S q =>
 h H0 F σ H _ S fun F1 H1 vs x1 r1=>by
  cases r1 with
  |fz r r1 =>
    cases r1 with
    |fz r' r1 =>
      cases r1 with
      |fz r2 r1 =>
        cases r1;cases r;cases r';cases r2
        refine⟨m,n,rfl,h1,q F1 H1 _ x1 fun F2 H2 s2 s3=>⟨by show _<=_;rw[Se];exact Xs _,fun i d e=>?_⟩⟩;obtain⟨h1,rfl⟩:=RJ e;refine⟨h1,fun x H3 hy=>?_⟩;obtain⟨rfl,rfl⟩:=hy
        exact⟨F2,Qx.refl s3,.int _⟩
def YX:Option OT->Option OT
 |some (.fz d)=>some (.fz d)
 |some (.scr ns)=>some (.scr ns)
 |some (.zow Ψ)=>some (.zow Ψ)
 |_=>none
def WI (f:List (Option Nat))(ρ:Q6):Q6:=f.map fun o=>match o with|some i=>YX (ρ[i]?).join|none=>none
def Q9.inner {H0 F H:Hp}{σ:St}(f:List (Option Nat))(S:Q9 K H0 F ρ σ H):Q9 K H0 F (WI f ρ) (VI f σ) H:=by
 obtain⟨kt,h1,h2,fp,h3,h4,h5⟩:=S;refine⟨kt,h1,by simp[WI,VI],fun _=>[],fun i t e=>?_,fun i j a h=>(nomatch h),fun i a h=>(nomatch h)⟩;unfold WI at e;rw[Xt]at e;cases z:f[i]? with
 |none=>rw[z]at e;simp at e
 |some o =>
   rw[z]at e;simp only[YJ,Option.some.injEq]at e;cases o with
   |none=>cases e
   |some k =>
     simp only at e
     have e':ρ[k]?=some (some t)/\((∃d,t=.fz d)\/(∃ns,t=.scr ns)\/∃Ψ,t=.zow Ψ):=by
      cases y:ρ[k]? with
      |none=>rw[y]at e;simp[YX]at e
      |some w =>
        rw[y]at e;simp only[Option.join_some]at e;cases w with
        |none=>simp[YX]at e
        |some w =>
          cases w with
          |fz d=>simp[YX]at e;subst e;exact⟨rfl,.inl ⟨_,rfl⟩⟩
          |scr ns=>simp[YX]at e;subst e;exact⟨rfl,.inr (.inl ⟨_,rfl⟩)⟩
          |zow Ψ=>simp[YX]at e;subst e;exact⟨rfl,.inr (.inr ⟨_,rfl⟩)⟩
          |ol ds=>simp[YX]at e
          |oll ds=>simp[YX]at e
          |own v0 Φ=>simp[YX]at e
     obtain⟨v,e1,e2⟩:=h3 k t e'.1;refine⟨v,?_,?_⟩
     ·unfold VI
      rw[Xt,z];simp[e1]
     ·rcases e'.2 with ⟨d,rfl⟩|⟨ns,rfl⟩|⟨Ψ,rfl⟩
      ·exact⟨rfl,e2.2⟩
      ·exact⟨rfl,e2.2⟩
      ·exact⟨rfl,e2.2⟩
def Bg {α:Type}{f:List (Option Nat)}{wi:TI}{g:CIn->TG}{tcc:CIn->TT}{tee:CIn->TE}{xs:List α}{enc h:α->PyData}{p:α->Bool}(hi:EvI K wi ρ (xs.map enc))(hl:xs.length<=1000)
 (hs:∀x∈xs,∀c,∃ρ2,GTo K (g c) (enc x) (WI f ρ) ρ2/\Ze K (tcc c) ρ2 (p x)/\(p x=true->Qu K (tee c) ρ2 (h x))):EvO K (tLC f wi g tcc tee) ρ (.ol ((xs.filter p).map h)):=fun H0 F σ H Q S q =>
 hi H0 F σ H _ S fun F1 H1 J x1 W c=>by
  have hn:xs.length<=sizeLine:=Yr (ZT hl);refine⟨fun i m ys H=>m=xs.length-i/\i<=xs.length/\∃F',Qx F1 H1 F' H/\Qw F' ys (((xs.take i).filter p).map h),⟨xs.length,by simp,XN _,F1,Qx.refl x1.fh,.nil⟩,?_⟩
  rintro i m ys H' ⟨rfl,hle,F',x',r'⟩
  obtain⟨w1,w2⟩:=W F' H' x'.ff x'.fh
  by_cases hlt:i<xs.length
  ·have e:(xs.map enc)[i]?=some (enc xs[i]):=by simp[hlt]
   obtain⟨go,yl⟩:=w2 i _ e;refine .inr ⟨go,fun v H3 y=>?_⟩;obtain⟨F3,x3,r3⟩:=yl v H3 y;obtain⟨ρ2,k1,k2,k3⟩:=hs xs[i] (W9 hlt) c;have S3:=(S.ext (x1.trans (x'.trans x3))).inner f;have tk:xs.take (i+1)=xs.take i++[xs[i]]:=by rw[JD];simp[hlt]
   have ly:=r'.length
   have ly2:ys.length<=i:=by
    rw[ly,Xm];refine X8 (List.length_filter_le _ _) ?_;rw[List.length_take];omega
   refine k1 H0 F3 _ H3 v _ S3 r3 fun σ2 S4=>k2 H0 F3 σ2 H3 _ S4 fun F4 H4 x4=>?_
   cases ep:p xs[i] with
   |true =>
     rw[Xd rfl];refine k3 ep H0 F4 σ2 H4 _ (S4.ext x4) fun F5 H5 z x5 r5=>⟨by omega,xs.length-(i+1),by omega,rfl,hlt,F5,x'.trans (x3.trans (x4.trans x5)),?_⟩;rw[tk,U8,Xy];simp only[UJ,ep,if_true,List.filter_nil,Xu,UG];exact(r'.mono (x3.trans (x4.trans x5)).ff).snoc r5
   |false =>
     rw[Xb Xv];refine⟨xs.length-(i+1),by omega,rfl,hlt,F4,x'.trans (x3.trans x4),?_⟩;rw[tk,U8,Xy];simp only[UJ,ep,List.filter_nil,UG,Xz,Wl,if_false];exact r'.mono (x3.trans x4).ff
  ·have e:i=xs.length:=by omega
   subst e;refine .inl ⟨by simpa using w1,fun a ha=>?_⟩;rw[J9]at r';obtain⟨z1,z2,z3⟩:=D4 (K:=K) (x1.trans x') ha r';exact q _ _ _ _ z1 z2 z3
def Jr {α:Type}{f:List (Option Nat)}{wi:TI}{g:CIn->TG}{tee:CIn->TE}{xs:List α}{enc h:α->PyData}(hi:EvI K wi ρ (xs.map enc))(hl:xs.length<=1000)
 (hs:∀x∈xs,∀c,∃ρ2,GTo K (g c) (enc x) (WI f ρ) ρ2/\Qu K (tee c) ρ2 (h x)):EvO K (tLC f wi g (fun _=>Ws) tee) ρ (.ol (xs.map h)):=by
 have:=Bg (K:=K) (ρ:=ρ) (f:=f) (wi:=wi) (g:=g) (tcc:=fun _=>Ws) (tee:=tee) (xs:=xs) (enc:=enc) (h:=h) (p:=fun _=>true) hi hl fun x hx c=>by
  obtain⟨ρ2,h1,h2⟩:=hs x hx c
  exact⟨ρ2,h1,KU,fun _=>h2⟩
 have e:xs.filter (fun _=>true)=xs:=List.filter_eq_self.mpr fun _ _=>rfl;rw[e]at this;exact this
def M8:List V->Hp->VK->Prop:=fun xs H Q=>∃i j,xs=[.int i,.int j]/\Q (.int (if j > i then j else i)) H
def MI:List V->Hp->VK->Prop:=fun xs H Q=>∃i j,xs=[.int i,.int j]/\Q (.int (if j<i then j else i)) H
def Np:List V->Hp->VK->Prop:=fun xs H Q=>(∃i,xs=[.int i]/\Q (.int i) H)\/∃k,xs=[.bl k]/\Q (.int (if k then 1 else 0)) H
def KJ:List V->Hp->VK->Prop:=fun xs H Q=>∃x T c b,xs=[x,.ty c]/\TyN H x T/\Y5 T c=some b/\Q (.bl b) H
def UP (K:W.Frag):List V->Hp->VK->Prop:=fun xs H Q=>∃p ys,xs=[.ref p]/\(SqL K H p ys\/SqT K H p ys)/\Q (.int ys.length) H
def R6 (K:W.Frag):List V->Hp->VK->Prop:=fun xs H Q=>∃p ys,xs=[.ref p]/\(SqL K H p ys\/SqT K H p ys)/\∀l,H l=none->Q (.ref l) (upd H l (.lst ys))
def NE (K:W.Frag):List V->Hp->VK->Prop:=fun xs H Q=>∃p ys,xs=[.ref p]/\((SqL K H p ys/\∀l,H l=none->Q (.ref l) (upd H l (.tup ys)))\/(SqT K H p ys/\Q (.ref p) H))
def KC (X:Cx):List V->Hp->VK->Prop:=fun xs H Q=>X.calm=true/\∃(x:V) (ns:Ql),xs=[x]/\Rep H x (.list (ns.map PyData.int))/\Q (.int ns.sum) H
def T3 {X:Cx} (h:X.calm=true):Zy X (.builtin "max") M8:=AF h
def Dd {X:Cx} (h:X.calm=true):Zy X (.builtin "min") MI:=AE h
def NP {X:Cx}:Zy X (.type "int") Np:=Am
def MZ {X:Cx}:Zy X (.builtin "isinstance") KJ:=F9
def Yw {X:Cx}:Zy X (.builtin "len") (UP X.K):=IA
def Fx {X:Cx}:Zy X (.type "list") (R6 X.K):=IG
def RI {X:Cx}:Zy X (.type "tuple") (NE X.K):=IP
def NB {X:Cx}:Zy X (.builtin "sum") (KC X):=Ea
def ND {x y:Int}{r:List V->Hp->VK->Prop}{H0 F H:Hp}{σ:St}{Q:VK}(ha:Qu K ta ρ (.int x))(hb:Qu K tb ρ (.int y))(S:Q9 K H0 F ρ σ H)(h:∀F' H',Qx F H F' H'->r [.int x,.int y] H' Q):tCB r (QE ta (QE tb QP)) σ H Q :=
 ha H0 F σ H _ S fun F1 H1 v x1 r1=>hb H0 F1 σ H1 _ (S.ext x1) fun F2 H2 w x2 r2=>by cases r1;cases r2;exact h F2 H2 (x1.trans x2)
def La {x y:Int}(ha:Qu K ta ρ (.int x))(hb:Qu K tb ρ (.int y)):Qu K (tCB M8 (QE ta (QE tb QP))) ρ (.int (if y > x then y else x)):=fun H0 F σ H Q S q =>
 ND ha hb S fun F' H' e=>⟨x,y,rfl,q F' H' _ e (.int _)⟩
def T4 {x y:Int}(ha:Qu K ta ρ (.int x))(hb:Qu K tb ρ (.int y)):Qu K (tCB MI (QE ta (QE tb QP))) ρ (.int (if y<x then y else x)):=fun H0 F σ H Q S q =>
 ND ha hb S fun F' H' e=>⟨x,y,rfl,q F' H' _ e (.int _)⟩
def Bm {b:Bool}(h:Qu K ta ρ (.bool b)):Qu K (tCB Np (QE ta QP)) ρ (.int (if b then 1 else 0)):=fun H0 F σ H Q S q =>
 h H0 F σ H _ S fun F1 H1 v x1 r1=>by cases r1;exact .inr ⟨b,rfl,q F1 H1 _ x1 (.int _)⟩
def Ba {a:PyData}{c:String}{b:Bool}(h:Qu K ta ρ a)(hb:Y5 (tyD a) c=some b):Qu K (tCB KJ (QE ta (QE (tC (.ty c)) QP))) ρ (.bool b):=fun H0 F σ H Q S q =>
 h H0 F σ H _ S fun F1 H1 v x1 r1=>⟨v,_,c,b,rfl,(r1.mono x1.fh).ty,hb,q F1 H1 _ x1 (.bl _)⟩
def Uc {ds:Qd}(h:Qu K ta ρ (.list ds)):Qu K (tCB (UP K) (QE ta QP)) ρ (.int (ds.length:Int)):=fun H0 F σ H Q S q =>
 h H0 F σ H _ S fun F1 H1 v x1 r1=>by
  obtain⟨a,xs,rfl,h1,h2,_⟩:=U1 (K:=K) r1 x1.fh
  exact⟨a,xs,rfl,.inl h1,by rw[h2.length];exact q F1 H1 _ x1 (.int _)⟩
def Dr {ds:Qd}(h:Qu K ta ρ (.tuple ds)):Qu K (tCB (UP K) (QE ta QP)) ρ (.int (ds.length:Int)):=fun H0 F σ H Q S q =>
 h H0 F σ H _ S fun F1 H1 v x1 r1=>by
  obtain⟨a,xs,rfl,h1,h2,_⟩:=B5 (K:=K) r1 x1.fh
  exact⟨a,xs,rfl,.inr h1,by rw[h2.length];exact q F1 H1 _ x1 (.int _)⟩
def Tt {i:Nat}{ns:Ql}(e0:ρ[i]?=some (some (.scr ns))):Qu K (tCB (UP K) (QE (QB i) QP)) ρ (.int (ns.length:Int)):=fun H0 F σ H Q S q=>by
 obtain⟨fp,h,_⟩:=S.fp;obtain⟨v,e1,_,a,rfl,sc⟩:=h i _ e0
 exact⟨_,e1,a,ns.map V.int,rfl,.inl (S.sub.seq sc.sq),by rw[Xm];exact q F H _ (Qx.refl S.sub) (.int _)⟩
def De {i:Nat}{ds:Qd}(e0:ρ[i]?=some (some (.ol ds))):Qu K (tCB (NE K) (QE (QB i) QP)) ρ (.tuple ds):=fun H0 F σ H Q S q=>by
 obtain⟨fp,h,_⟩:=S.fp;obtain⟨v,e1,a,rfl,_,_,xs,o2,o3⟩:=h i _ e0;refine⟨_,e1,a,xs,rfl,.inl ⟨SqL.of o2,fun p hp=>?_⟩⟩;exact q _ _ _ (Qx.new S.sub hp) (.tup QC (o3.mono (Q2.new (S.sub.free hp))))
def ME {X:Cx}{ns:Ql}(h:Qu K ta ρ (.list (ns.map PyData.int)))(hc:X.calm=true):Qu K (tCB (KC X) (QE ta QP)) ρ (.int ns.sum):=fun H0 F σ H Q S q =>
 h H0 F σ H _ S fun F1 H1 v x1 r1=>⟨hc,v,ns,rfl,r1.mono x1.fh,q F1 H1 _ x1 (.int _)⟩
def Nm {as bs:Qd}(ha:Qu K ta ρ (.list as))(hb:Qu K tb ρ (.list bs))(hl:as.length+bs.length<=1000):EvO K (tOp Mi ta tb) ρ (.ol (as++bs)):=fun H0 F σ H Q S q =>
 YV ha hb S fun F' H' x y e r1 r2=>by
  obtain⟨a,xs,rfl,h1,h2,h3⟩:=U1 (K:=K) r1 e.fh;obtain⟨b,ys,rfl,g1,g2,g3⟩:=U1 (K:=K) r2 e.fh;refine⟨a,b,xs,ys,rfl,rfl,h3,g3,by rw[h2.length,g2.length];exact Yr (ZT hl),fun p hp=>?_⟩;obtain⟨z1,z2,z3⟩:=D4 (K:=K) e hp (h2.append g2);exact q _ _ _ _ z1 z2 z3
end
def QY {K:W.Frag}{ρ:Q6}{ta:TE}{t:TA}{d:PyData}{ds:Qd}(h1:Qu K ta ρ d)(h2:Zn K t ρ (fzs ds)):Zn K (QE ta t) ρ (fzs (d::ds)):=Qv h1 h2
def EvI.cast {K:W.Frag}{wi:TI}{ρ:Q6}{ds ds':Qd}(h:EvI K wi ρ ds)(e:ds=ds'):EvI K wi ρ ds':=e▸h
def J5 {a b:Int}{m n:Nat}(h:a=b)(h2:m=n):ZK a m=ZK b n:=by rw[h,h2]
def NI {K:W.Frag}{ρ:Q6}{ta tb:TE}{x y:Int}(ha:Qu K ta ρ (.int x))(hb:Qu K tb ρ (.int y)):Qu K (tCB M8 (QE ta (QE tb QP))) ρ (.int (max x y)):=by
 have e:max x y=if y > x then y else x:=by split<;>omega
 rw[e];exact La ha hb
def Nw {K:W.Frag}{ρ:Q6}{ta tb:TE}{x y:Int}(ha:Qu K ta ρ (.int x))(hb:Qu K tb ρ (.int y)):Qu K (tCB MI (QE ta (QE tb QP))) ρ (.int (min x y)):=by
 have e:min x y=if y<x then y else x:=by split<;>omega
 rw[e];exact T4 ha hb
def Dc {K:W.Frag}{ρ:Q6}{f:List (Option Nat)}{wi:TI}{g:CIn->TG}{tee:CIn->TE}{lo:Int}{n:Nat}{h:Nat->PyData}(hi:EvI K wi ρ (ZK lo n))(hl:n<=1000)
 (hs:∀(x:Nat),x<n->∀c,∃ρ2,GTo K (g c) (.int (lo+(x:Int))) (WI f ρ) ρ2/\Qu K (tee c) ρ2 (h x)):EvO K (tLC f wi g (fun _=>Ws) tee) ρ (.ol ((List.range n).map h)) :=
 Jr (xs:=List.range n) (enc:=fun(i:Nat)=>PyData.int (lo+(i:Int))) hi (by simpa using hl) fun x hx c=>hs x (XU.mp hx) c
def Qu.cast {K:W.Frag}{t:TE}{ρ:Q6}{d d':PyData}(h:Qu K t ρ d)(e:d=d'):Qu K t ρ d':=e▸h
def EvO.cast {K:W.Frag}{t:TE}{ρ:Q6}{d d':OT}(h:EvO K t ρ d)(e:d=d'):EvO K t ρ d':=e▸h
def Ze.cast {K:W.Frag}{t:TT}{ρ:Q6}{d d':Bool}(h:Ze K t ρ d)(e:d=d'):Ze K t ρ d':=e▸h
def Bh (K:W.Frag):Sp:=fun vs H Q _=>∃(a:Addr) (ns:Ql),vs=[.ref a]/\KTs K H/\Scr K H a ns/\∀H',Q (.bl true) H'
def Fun.evLaw {P:Program}{w:World}{K:W.Frag}{mg:Str->Qf}{base:Heap}{x qual p:Str}{st:Stmt}{f:Addr}{fd:FuncData}{N:Qh}{k:Nat}(F:Fun K x qual st f fd)(S:Qp N [p] (Q0 st))
 (XaV:∀(cdv:Value) (A:Around) (outer:List Env) (s:Shared) (H:Hp) (E:XK) (ns:Ql),Room k (A.deeper (envOfC qual (Q0 st) s.heap.objs.size f cdv))->ns.length<=63->(∀i∈ns,Builtin.Int.intBits i<=2^20) ->
  ∃t,PSs (Vd CX0 P w K mg base N qual (Q0 st) f cdv A outer s H E).nox (Zx st) t/\Q1 K t (some (.scr ns)::List.replicate (N.length-1) none) { nx:=fun _=>False,rt:=fun r=>r=.fz (.bool true) }):FnOk P w K mg base CX0 (k+1) f fd [p] (Bh K):=by
 refine F.ok S (fun vs H Q E ⟨a,ns,e,_⟩=>by rw[e];rfl) fun cdv A outer s H vs Q E hr ⟨a,ns,e,kt,sc,q⟩=>?_;subst e;obtain⟨t,h1,h2⟩:=XaV cdv A outer s H E ns hr sc.len sc.bits;refine⟨t,h1,h2 H H H (start N [.ref a]) H _ (Qx.refl (Q2.refl _)) ⟨kt,Q2.refl _,?_,fun _=>[],fun i t' e=>?_,fun i j a h=>(nomatch h),fun i a h=>(nomatch h)⟩ ⟨fun F' σ' H' ρ' x' _ e=>False.elim e,fun F' H' v r' p x' hp ok e=>?_,fun _ _ _ _ _ _ z=>False.elim z,fun _ _ _ _ _ _ z=>False.elim z⟩⟩
 ·unfold start
  simp
 ·cases i with
  |zero =>
    simp at e
    subst e;exact⟨_,rfl,rfl,a,rfl,sc⟩
  |succ i =>
    rw[UC]at e;have:=List.mem_of_getElem? e
    simp at this
 ·subst e
  obtain⟨_,r⟩:=ok
  cases r
  exact q H'
def Z7 {K:W.Frag}{ρ:Q6}:Zn K QP ρ (fzs []):=Q3
def z62:(2:Int)^62=4611686018427387904:=by decide
def PZ {CX:CXT}{P:Program}{w:World}{K:W.Frag}{mg:Str->Qf}{base:Heap}{N:Qh}{q:Str}{sc:Scope}{f:Addr}{cd:Value}{A:Around}{o:List Env}{s:Shared}{H:Hp}{E:XK}:(Vd CX P w K mg base N q sc f cd A o s H E).nox.K=K:=rfl
def FK {X:Cx}{N:Qh}{sc:Scope}{c:CIn}:(ZH X N sc c).K=X.K:=rfl
section
variable {K:W.Frag}{ρ:Q6}{ta tb te:TE}
def cut {α:Type}(xs:List α)(lo hi:Option Int):List α:=(xs.drop (HT.sIx xs.length 0 lo)).take (HT.sIx xs.length xs.length hi-HT.sIx xs.length 0 lo)
end
section
variable {K:W.Frag}{ρ:Q6}{ta tb te:TE}
def Jo (as:Qd):Qd:=as.zipIdx.map fun p=>PyData.tuple [.int (p.2:Int),p.1]
def BF (as:Qd):(Jo as).length=as.length:=by simp[Jo]
def BE {as:Qd}{i:Nat}{d:PyData}(e:(Jo as)[i]?=some d):∃a,as[i]?=some a/\d=.tuple [.int (i:Int),a]:=by
 unfold Jo at e;rw[Xt,List.getElem?_zipIdx]at e;cases z:as[i]? with
 |none=>rw[z]at e;cases e
 |some a=>rw[z]at e;simp at e;exact⟨a,rfl,e.symm⟩
def As {F H:Hp}{x:V}{ds:Qd}(r:Rep F x (.list ds)):∃a xs,x=.ref a/\F a=some (.lst xs)/\Qw F xs ds:=by
 cases r with
 |lst ha rr=>exact⟨_,_,rfl,ha,rr⟩
def Gh {t:TA}{as:Qd}(h:Zn K t ρ [.fz (.list as)]):EvI K (KO K t) ρ (Jo as):=fun H0 F σ H R S q =>
 h H0 F σ H _ S fun F1 H1 vs x1 r1=>by
  cases r1 with
  |fz r r1 =>
    cases r1
    obtain⟨a,xs,rfl,ha,ra⟩:=As (H:=H1) r;refine⟨a,rfl,⟨xs,SqL.of (x1.fh _ _ ha)⟩,q F1 H1 _ x1 fun F2 H2 s2 s3=>?_⟩;have qa:SqL K H2 a xs:=SqL.of (s3 _ _ (s2 _ _ ha));refine⟨⟨xs,qa,by rw[BF,ra.length]⟩,fun i d e=>?_⟩;obtain⟨d1,e1,rfl⟩:=BE e;obtain⟨z1,f1,g1⟩:=ra.get e1;refine⟨⟨xs,z1,qa,f1⟩,fun v H3 hy=>?_⟩;obtain⟨p,x,hp,rfl,rfl,k1⟩:=hy;have ex:=k1 xs qa;rw[f1]at ex;cases ex;have sn:Q2 F2 (upd F2 p (.tup [.int (i:Int),z1])):=Q2.new (s3.free hp)
    exact⟨_,Qx.new s3 hp,.tup QC (.cons (.int _) (.cons ((g1.mono s2).mono sn) .nil))⟩
def Lh {X:Cx}{ns:Ql}(h:Qu K ta ρ (.list (ns.map PyData.int)))(hc:X.calm=true)(hn:ns≠[]):Qu K (tCB (Nf X) (QE ta QP)) ρ (.int (Ye ns)):=fun H0 F σ H Q S q =>
 h H0 F σ H _ S fun F1 H1 v x1 r1=>⟨hc,v,ns,rfl,r1.mono x1.fh,hn,q F1 H1 _ x1 (.int _)⟩
def GS:OT->Option PyData
 |.fz d=>some d
 |.ol ds=>some (.list ds)
 |.oll dss=>some (.list (dss.map PyData.list))
 |.scr _=>none
 |.own _ _=>none
 |.zow _=>none
def frF (F H:Hp)(p:Qg):Hp:=fun b=>if b∈p then H b else F b
def Ym {F H:Hp}{p:Qg}{b:Addr}(h:b∈p):frF F H p b=H b:=by unfold frF;rw[Xd h]
def Yb {F H:Hp}{p:Qg}{b:Addr}(h:b∉p):frF F H p b=F b:=by unfold frF;rw[Xb h]
def Y1 {F H:Hp}{p:Qg}(h:∀a∈p,F a=none):Q2 F (frF F H p):=fun b u e=>by
 rw[Yb fun z=>by rw[h b z]at e;cases e];exact e
def WR {F H:Hp}{p:Qg}(s:Q2 F H):Q2 (frF F H p) H:=fun b u e=>by
 by_cases z:b∈p
 ·rw[Ym z]at e;exact e
 ·rw[Yb z]at e;exact s b u e
theorem Sb {F F' H:Hp}(sm:Q2 F F'):∀{as:Qg} {dss:List (Qd)},Zt F H as dss->(∀a∈as,F' a=H a)->Qw F' (as.map V.ref) (dss.map PyData.list)
 |[],[],_,_=>.nil
 |a::as,ds::dss,h,he=>by
   obtain⟨⟨h1,xs,h2,h3⟩,h4⟩:=h;exact .cons (.lst (by rw[he a Xa];exact h2) (h3.mono sm)) (Sb sm h4 fun b hb=>he b (Xf _ hb))
 |[],_::_,h,_=>False.elim h
 |_::_,[],h,_=>False.elim h
def Zk.frz {F H:Hp}{v:V}{t:OT}{p:Qg}{d:PyData}(ok:Zk K F H v t p)(e:GS t=some d):Rep (frF F H p) v d:=by
 have sm:Q2 F (frF F H p):=Y1 fun a ha=>(ok.there a ha).1
 cases t with
 |fz d'=>cases e;exact ok.2.mono sm
 |ol ds =>
   cases e
   obtain⟨a,rfl,rfl,h1,xs,h2,h3⟩:=ok;exact .lst (by rw[Ym Xa];exact h2) (h3.mono sm)
 |oll dss =>
   cases e
   obtain⟨a,as,rfl,rfl,hn,h1,h2,h3⟩:=ok;exact .lst (by rw[Ym Xa];exact h2) (Sb sm h3 fun b hb=>Ym (Xf _ hb))
 |scr ns=>cases e
 |own v0 Φ=>cases e
 |zow Ψ=>cases e
theorem Zt.frOther {F H:Hp}{p:Qg}(sm:Q2 F (frF F H p)):∀{as:Qg} {dss:List (Qd)},(∀a∈as,a∉p)->Zt F H as dss->Zt (frF F H p) H as dss
 |[],[],_,_=>trivial
 |a::as,ds::dss,hn,h=>by
   obtain⟨⟨h1,xs,h2,h3⟩,h4⟩:=h
   exact⟨⟨by rw[Yb (hn a Xa)];exact h1,xs,h2,h3.mono sm⟩,Zt.frOther sm (fun b hb=>hn b (Xf _ hb)) h4⟩
 |[],_::_,_,h=>False.elim h
 |_::_,[],_,h=>False.elim h
def Zk.frOther {F H:Hp}{v:V}{t:OT}{p q:Qg}(sm:Q2 F (frF F H p))(ok:Zk K F H v t q)(hn:∀a∈q,a∉p):Zk K (frF F H p) H v t q:=by
 cases t with
 |fz d=>exact⟨ok.1,ok.2.mono sm⟩
 |zow Ψ=>exact⟨ok.1,Ψ.mono sm ok.2⟩
 |ol ds =>
   obtain⟨a,rfl,rfl,h1,xs,h2,h3⟩:=ok
   exact⟨a,rfl,rfl,by rw[Yb (hn a Xa)];exact h1,xs,h2,h3.mono sm⟩
 |oll dss =>
   obtain⟨a,as,rfl,rfl,hd,h1,h2,h3⟩:=ok
   exact⟨a,as,rfl,rfl,hd,by rw[Yb (hn a Xa)];exact h1,h2,h3.frOther sm fun b hb=>hn b (Xf _ hb)⟩
 |scr ns=>obtain⟨h1,a,h2,h3⟩:=ok;exact⟨h1,a,h2,h3.mono sm⟩
 |own v0 Φ=>exact⟨ok.1,Φ.mono sm (fun a ha=>by rw[Yb (hn a ha)];exact(Φ.there ok.2 a ha).1) (fun _ _=>rfl) ok.2⟩
def Q9.freezeG {H0 F H:Hp}{σ:St}{i:Nat}{t:OT}{d:PyData}(s:Q9 K H0 F ρ σ H)(e:ρ[i]?=some (some t))(ed:GS t=some d) :
 ∃p,(∀a∈p,F a=none/\H a≠none/\H0 a=none)/\Q9 K H0 (frF F H p) (ρ.set i (some (.fz d))) σ H:=by
 obtain⟨kt,h1,h2,fp,h3,h4,h5⟩:=s;obtain⟨v,e1,ok⟩:=h3 i _ e;have hlt:=(Xg.mp e).1;have sm:Q2 F (frF F H (fp i)):=Y1 fun a ha=>(ok.there a ha).1;refine⟨fp i,fun a ha=>⟨(ok.there a ha).1,(ok.there a ha).2,(h5 i a ha).1⟩,kt.mono sm,WR h1,by simp[h2],fun j=>if j=i then [] else fp j,fun j t' e'=>?_,fun j k b hb hc=>?_,fun j b hb=>?_⟩
 ·by_cases hj:j=i
  ·subst hj
   rw[Xk hlt]at e';cases e';refine⟨_,e1,?_,ok.frz ed⟩;dsimp only;rw[Xd rfl]
  ·rw[Xp (Ne.symm hj)]at e'
   obtain⟨u,f1,f2⟩:=h3 j t' e';refine⟨u,f1,?_⟩;dsimp only;rw[Xb hj];exact f2.frOther sm fun a ha z=>hj (h4 j i a ha z)
 ·by_cases hj:j=i
  ·simp[hj]at hb
  ·by_cases hk:k=i
   ·simp[hk]at hc
   ·simp only[Xb hj]at hb
    simp only[Xb hk]at hc;exact h4 j k b hb hc
 ·by_cases hj:j=i
  ·simp[hj]at hb
  ·simp only[Xb hj]at hb
   exact h5 j b hb
def Us {F H F' H':Hp}{p:Qg}(hp:∀a∈p,F a=none/\H a≠none)(x:Qx (frF F H p) H F' H'):Qx F H (fun b=>if b∈p then none else F' b) H' :=
 ⟨x.hh,fun b u hb=>by
  have nb:b∉p:=fun z=>by rw[(hp b z).1]at hb;cases hb
  simp only[Xb nb];exact x.ff b u (by rw[Yb nb];exact hb),fun b u hb=>by
  by_cases z:b∈p
  ·simp[z]at hb
  ·simp only[Xb z]at hb;exact x.fh b u hb,fun b hb=>by
  by_cases z:b∈p
  ·simp[z]at hb
  ·simp only[Xb z]at hb
   rcases x.fr b hb with y|y
   ·rw[Yb z]at y;exact .inl y
   ·exact .inr y⟩
def CW {t:TT}(i:Nat){r:OT}{d0:PyData}{b:Bool}(e:ρ[i]?=some (some r))(ed:GS r=some d0)(h:Ze K t (ρ.set i (some (.fz d0))) b):Ze K t ρ b:=fun H0 F σ H Q S q=>by
 obtain⟨p,hp,S'⟩:=S.freezeG e ed;exact h H0 _ σ H Q S' fun F' H' x=>q _ H' (Us (fun a ha=>⟨(hp a ha).1,(hp a ha).2.1⟩) x)
def JZ (ds:Qd):Prop := ∀d∈ds,∃w,ZN d=some w
theorem Qw.flats {F F':Hp}:∀{xs:List V} {ds:Qd},JZ ds->Qw F xs ds->Qw F' xs ds
 |_,_,_,.nil=>.nil
 |_::_,d::_,h,.cons r t=>by
   obtain⟨w,e⟩:=h d Xa;refine .cons ?_ (Qw.flats (fun c hc=>h c (Xf _ hc)) t)
   cases r<;>simp[ZN]at e
   ·exact .non
   ·exact .bl _
   ·exact .int _
   ·exact .str _
end
section
variable {K:W.Frag}{ρ:Q6}{ta tb tc te ti tj:TE}{D:PEnds}
theorem Zt.snoc {F H:Hp}{b:Addr}{ds:Qd}:∀{as:Qg} {dss:List (Qd)},Zt F H as dss->Vb F H b ds->Zt F H (as++[b]) (dss++[ds])
 |[],[],_,h=>⟨h,trivial⟩
 |_::_,_::_,h,h2=>⟨h.1,Zt.snoc h.2 h2⟩
 |[],_::_,h,_=>False.elim h
 |_::_,[],h,_=>False.elim h
theorem Zt.length {F H:Hp}:∀{as:Qg} {dss:List (Qd)},Zt F H as dss->as.length=dss.length
 |[],[],_=>rfl
 |_::_,_::_,h=>by simp[Zt.length h.2]
 |[],_::_,h=>False.elim h
 |_::_,[],h=>False.elim h
def Ti {α:Type}{f:List (Option Nat)}{wi:TI}{g:CIn->TG}{tee:CIn->TE}{xs:List α}{enc:α->PyData}{h:α->Qd}(hi:EvI K wi ρ (xs.map enc))(hl:xs.length<=1000)
 (hs:∀x∈xs,∀c,∃ρ2,GTo K (g c) (enc x) (WI f ρ) ρ2/\EvO K (tee c) ρ2 (.ol (h x))):EvO K (tLC f wi g (fun _=>Ws) tee) ρ (.oll (xs.map h)):=fun H0 F σ H Q S q =>
 hi H0 F σ H _ S fun F1 H1 J x1 W c=>by
  have hn:xs.length<=sizeLine:=Yr (ZT hl);refine⟨fun i m ys H=>m=xs.length-i/\i<=xs.length/\∃F' as,Qx F1 H1 F' H/\ys=as.map V.ref/\as.Nodup/\(∀a∈as,H1 a=none)/\Zt F' H as ((xs.take i).map h),⟨xs.length,by simp,XN _,F1,[],Qx.refl x1.fh,rfl,by simp,fun a ha=>(nomatch ha),trivial⟩,?_⟩
  rintro i m ys H' ⟨rfl,hle,F',as,x',rfl,nd,hfr,oa⟩
  obtain⟨w1,w2⟩:=W F' H' x'.ff x'.fh
  by_cases hlt:i<xs.length
  ·have e:(xs.map enc)[i]?=some (enc xs[i]):=by simp[hlt]
   obtain⟨go,yl⟩:=w2 i _ e;refine .inr ⟨go,fun v H3 y=>?_⟩;obtain⟨F3,x3,r3⟩:=yl v H3 y;obtain⟨ρ2,k1,k2⟩:=hs xs[i] (W9 hlt) c;have S3:=(S.ext (x1.trans (x'.trans x3))).inner f;have tk:xs.take (i+1)=xs.take i++[xs[i]]:=by rw[JD];simp[hlt]
   have ol:=oa.length;refine k1 H0 F3 _ H3 v _ S3 r3 fun σ2 S4=>?_;dsimp only[Ws];rw[Xd rfl];refine k2 H0 F3 σ2 H3 _ S4 fun F5 H5 z p x5 hp ok=>⟨?_,xs.length-(i+1),by omega,rfl,hlt,F5,as++[?_],x'.trans (x3.trans x5),?_,?_,?_,?_⟩
   ·rw[Xm,ol,Xm,List.length_take];omega
   ·exact(match z with|.ref b=>b|_=>0)
   all_goals obtain⟨b,rfl,rfl,o1⟩:=ok
   ·simp
   ·rw[U7]
    refine⟨nd,by simp,fun c' hc' d hd=>?_⟩;have hd':d=b:=by simpa using hd
    subst hd';intro z;subst z;have hb:H3 c'=none:=hp c' Xa
    have:=(oa.mem c' hc').2
    obtain⟨o,ho⟩:=Uh this;rw[x3.hh _ _ ho]at hb;cases hb
   ·intro c' hc'
    rcases XG.mp hc' with hc'|hc'
    ·exact hfr c' hc'
    ·have:c'=b:=by simpa using hc'
     subst this;exact(x'.trans x3).hh.free (hp c' Xa)
   ·rw[tk,Xy]
    exact(oa.ext (x3.trans x5)).snoc o1
  ·have e:i=xs.length:=by omega
   subst e;refine .inl ⟨by simpa using w1,fun a ha=>?_⟩;rw[J9]at oa;have na:a∉as:=fun z=>(oa.mem a z).2 ha;refine q F' _ _ (a::as) ((x1.trans x').trans (Qx.own x'.fh ha)) (fun b hb=>?_) ⟨a,as,rfl,rfl,XF.mpr ⟨na,nd⟩,x'.fh.free ha,QC,oa.other na⟩
   rcases Xe.mp hb with rfl|hb
   ·exact(x1.trans x').hh.free ha
   ·exact x1.hh.free (hfr b hb)
end
section
variable {es:Qi}{env:Env}
def Uf {a b}:starEach (.Name a b::es) env=(false,eval (.Name a b) env)::starEach es env:=by rfl
end
section
variable {X:Cx}{e:Expr}{es:Qi}{te:TE}{t:TA}{pos:Pos}
end
section
variable {X:Cx}{a:Expr}{ta:TE}
end
section
variable {K:W.Frag}{ρ:Q6}{ta tb tc td:TE}
end
section
variable {X:Cx}{a b c d:Expr}{ta tb tc td:TE}{pos:Pos}
end
section
variable {K:W.Frag}{ρ:Q6}{ta tb tc td:TE}
end
end L2
end
namespace PySem
section
variable {prog:Program}{w:World}{K:Type} [DecidableEq K] (knd:KeyKind prog w K)
def VT (h:Heap) (xy:List K×List K) (a:Addr):Prop := ∃o n p q,h.get? a=some o/\o.cls=.type "tuple" /\ o.data=.seq #[.ref p,.ref q] n/\IsTupleKey knd h xy.1 p/\IsTupleKey knd h xy.2 q
variable {knd}
def VT.typeIs {s:Shared} {ks:List K×List K} {a:Addr} (x:VT knd s.heap ks a):s.TypeIs (.ref a) "tuple" := let ⟨o,_,_,_,ho,hc,_⟩:=x;⟨o,ho,hc⟩
def VT.inj {h:Heap}{a:Addr}{x y:List K×List K}(hx:VT knd h x a)(hy:VT knd h y a):x=y:=by
 obtain⟨o,n,p,q,ho,_,hd,h1,h2⟩:=hx;obtain⟨o',n',p',q',ho',_,hd',h1',h2'⟩:=hy
 cases Option.some.inj (ho.symm.trans ho')
 rw[hd]at hd';injection hd' with z _;have z1:=X0 Array.toList z
 simp at z1
 obtain⟨rfl,rfl⟩:=z1;exact Prod.ext (h1.inj h1') (h2.inj h2')
def VT.keeps {h h':Heap}{ks:List K×List K}{a d:Addr}{o:Obj}{es ep}(x:VT knd h ks a)(ho:h.get? d=some o)(hd:o.data=.dict es ep)(hs:Heap.SameBut d h h'):VT knd h' ks a:=by
 obtain⟨o',n,p,q,ho',hc,hd',h1,h2⟩:=x
 have hne:a≠d:=fun z=>by
  subst z;cases Option.some.inj (ho'.symm.trans ho);rw[hd]at hd';exact nomatch hd'
 exact⟨o',n,p,q,(hs.2 a hne).trans ho',hc,hd',h1.keeps ho hd hs,h2.keeps ho hd hs⟩
def DI (knd:KeyKind prog w K)(ks:List K×List K):Int:=reduceHash (Builtin.Tuple.tupleHashOf [tupleKeyHash knd ks.1,tupleKeyHash knd ks.2])
variable {A:Around}{E:Qb}{s:Shared}
def Ob {ks:List K×List K}{a:Addr}{Q:Int->Shared->Prop}(hu:A.units+5<cLine)(hk:VT knd s.heap ks a)(h:Q (DI knd ks) { s with toks:=s.toks+(ks.1.length+ks.2.length+3) }) :
 wpAny (model prog w) A (pyHash (.ref a)) Q E s:=by
 have hT:=hk.typeIs;obtain⟨o,n,p,q,ho,_,hd,h1,h2⟩:=hk;unfold pyHash pyHashByItsType;refine Xc (wpAny_cRoomFor_or (.inr (by omega)) ?_);refine Xc (wpAny_specialOf hT F.slot_tuple_hash.lookup ?_);show wpAny _ _ (if (some (Value.builtin "tuple.__hash__")==some Value.none)=true then _ else _) Q E s;rw[Xb (by rw[beq_builtin_none];exact Xv)];refine Xc (wpAny_specialOf hT F.slot_tuple_hash.lookup ?_);show wpAny _ _ (callSpecialIfBoundUnlessNone? (.ref a) "__hash__" _ >>= _) Q E s;refine Xc (wpAny_callSpecialIfBoundUnlessNone?_slot hT F.slot_tuple_hash (wpAny_call_entry F.slot_tuple_hash hT F.entry_tuple_hash ?_ (F.args_tuple_hash_1 _)));show wpAny _ _ (Builtin.Tuple.tupleItemsOf (.ref a) >>= _) _ _ s;refine Xc (wpAny_tupleItemsOf ho hd ?_);refine Xc ?_
 rw[<- Array.forIn_toList];refine wpAny_forIn_list _
  (fun rest (b:Array Int) s'=>(rest=[.ref p,.ref q]/\b.toList=[]/\s'=s)\/(rest=[.ref q]/\b.toList=[tupleKeyHash knd ks.1]/\s'={ s with toks:=s.toks+(ks.1.length+1) }) \/
   (rest=[]/\b.toList=[tupleKeyHash knd ks.1,tupleKeyHash knd ks.2]/\s'={ s with toks:=s.toks+(ks.1.length+1)+(ks.2.length+1) }))
  _ ?_ ?_ _ _ (.inl ⟨rfl,rfl,rfl⟩)
 ·rintro x rest b s' (⟨hr,hb,rfl⟩|⟨hr,hb,rfl⟩|⟨hr,_⟩)
  ·injection hr with e1 e2
   subst e1 e2;refine Xc (wpAny_pyHash_tuple ?hu1 h1 ?_)
   case hu1=>show A.units+1<cLine;omega
   exact Xq (.inr (.inl ⟨rfl,by simp[hb],rfl⟩))
  ·injection hr with e1 e2
   subst e1 e2;refine Xc (wpAny_pyHash_tuple ?hu2 h2 ?_)
   case hu2=>show A.units+1<cLine;omega
   exact Xq (.inr (.inr ⟨rfl,by simp[hb],rfl⟩))
  ·cases hr
 ·rintro b s' (⟨hr,_⟩|⟨hr,_⟩|⟨_,hb,rfl⟩)
  ·cases hr
  ·cases hr
  show wpAny _ _ (retInt (Builtin.Tuple.tupleHashOf b.toList)) _ _ _;rw[hb];refine wpAny_ret_mkInt ?_;show wpAny _ _ (if (decide (-(2:Int)^63<=Builtin.Tuple.tupleHashOf [tupleKeyHash knd ks.1,tupleKeyHash knd ks.2])&&decide (Builtin.Tuple.tupleHashOf [tupleKeyHash knd ks.1,tupleKeyHash knd ks.2]<2^63))=true then _ else _) Q E _;unfold DI reduceHash at h;have et:s.toks+(ks.1.length+ks.2.length+3)=s.toks+(ks.1.length+1)+(ks.2.length+1)+1:=by omega
  rw[et]at h;split
  ·rename_i hr
   rw[Xd hr]at h;exact Xq h
  ·rename_i hr
   rw[Xb hr]at h;exact Xc (wpAny_rule (Xq h))
def Iz {x y:List K×List K}{a b:Addr}{P:Fin->Shared->Prop}(hu:A.units+1<cLine)(hx:VT knd s.heap x a)(hy:VT knd s.heap y b)(h:P (.done (.ret (.bool (decide (x=y))))) s) :
 wpAny (model prog w) A (Builtin.«tuple.__eq__» ⟨[.ref a,.ref b],[]⟩) P E s:=by
 have hTb:=hy.typeIs;obtain⟨oa,na,p,q,hoa,_,hda,ha1,ha2⟩:=hx;obtain⟨ob,nb,p',q',hob,_,hdb,hb1,hb2⟩:=hy;show wpAny _ _ (isInstance (.ref b) (.type "tuple") >>= _) _ _ s;refine Xc (wpAny_isInstance hTb isSubtype_tuple_tuple ?_);simp only[JC,Wl,if_false];refine Xc (wpAny_tupleItemsOf hoa hda ?_);refine Xc (wpAny_tupleItemsOf hob hdb ?_);refine Xc ?_
 have e2:decide (x=y)=(decide (x.1=y.1)&&decide (x.2=y.2)):=by
  obtain⟨x1,x2⟩:=x;obtain⟨y1,y2⟩:=y
  simp
 refine wpAny_forIn_list _
  (fun rest r s'=>r.1=none/\s'=s/\((rest=[(.ref p,.ref p'),(.ref q,.ref q')])\/(rest=[(.ref q,.ref q')]/\x.1=y.1)\/(rest=[]/\x=y)))
  _ ?_ ?_ _ _ ⟨rfl,rfl,.inl rfl⟩
 ·rintro⟨u,v⟩ rest r s' ⟨hr,rfl,(hz|⟨hz,e1⟩|⟨hz,_⟩)⟩
  ·injection hz with z1 z2
   injection z1 with z3 z4;subst z2 z3 z4;refine Xc (wpAny_eqBool_tuple (by omega) ha1 hb1 ?_)
   by_cases hk:x.1=y.1
   ·rw[XV hk]
    simp only[JC,Wl,if_false];exact Xq ⟨rfl,rfl,.inr (.inl ⟨trivial,hk⟩)⟩
   ·rw[XO hk]
    simp only[Bool.not_false,if_true];rw[e2,XO hk,Bool.false_and]at h;exact Xc (Xq (Xq (Xq h)))
  ·injection hz with z1 z2
   injection z1 with z3 z4;subst z2 z3 z4;refine Xc (wpAny_eqBool_tuple (by omega) ha2 hb2 ?_)
   by_cases hk:x.2=y.2
   ·rw[XV hk]
    simp only[JC,Wl,if_false];exact Xq ⟨rfl,rfl,.inr (.inr ⟨trivial,Prod.ext e1 hk⟩)⟩
   ·rw[XO hk]
    simp only[Bool.not_false,if_true];rw[e2,XO hk,Bool.and_false]at h;exact Xc (Xq (Xq (Xq h)))
  ·cases hz
 ·rintro⟨r1,r2⟩ s' ⟨hr,rfl,(hz|⟨hz,_⟩|⟨_,e⟩)⟩
  ·cases hz
  ·cases hz
  simp only at hr
  subst hr;refine Xq ?_;rw[XV e]at h;exact h
def Oa {x y:List K×List K}{a b:Addr}{Q:Bool->Shared->Prop}(hu:A.units+5<cLine)(hx:VT knd s.heap x a)(hy:VT knd s.heap y b)(h:Q (decide (x=y)) s) :
 wpAny (model prog w) A (eqBool (.ref a) (.ref b)) Q E s:=by
 unfold eqBool;try with_reducible refine wpAny_holding ?_;show wpAny _ _ (if (Value.ref a==Value.ref b)=true then _ else _) Q E s
 by_cases hab:(Value.ref a==Value.ref b)=true
 ·rw[Xd hab]
  have e:a=b:=by have:=eq_of_beq hab;injection this
  subst e;cases hx.inj hy;exact Xc (wpAny_rule (Xq (by simpa using h)))
 ·rw[Xb hab]
  exact Xc (wpAny_richCompare_same_room (op:=.Eq) hx.typeIs hy.typeIs F.slot_tuple_eq
   (wpAny_call_entry F.slot_tuple_eq hx.typeIs F.entry_tuple_eq (Iz (by show _+1<cLine;simp;omega) hx hy ⟨_,rfl,(fun e=>nomatch e),wpAny_truthy_bool h⟩) (F.args_tuple_eq_2 _ _)) (by omega))
def Ik (n:Nat){ks:List K}{a:Addr}{Q:Bool->Shared->Prop}(hk:IsTupleKey knd s.heap ks a)(h:Q true s):wpAny (model prog w) A (eqIsQuiet (n+1) (.ref a)) Q E s:=by
 have hT:=hk.typeIs;obtain⟨o,items,m,ho,_,hd,hi⟩:=hk;unfold eqIsQuiet;refine Xc (wpAny_specialOf hT F.slot_tuple_eq.lookup ?_);show wpAny _ _ (isInstance (.ref a) (.type "tuple") >>= _) _ _ s;refine Xc (wpAny_isInstance hT isSubtype_tuple_tuple ?_);simp only[JC,Wl,if_false];refine Xc (wpAny_seqItems ho hd ?_);refine Xc ?_;show wpAny _ _ (forIn items _ _) _ _ s;rw[<- Array.forIn_toList];refine wpAny_forIn_list _ (fun rest r s'=>r.1=none/\s'=s/\∀v∈rest,carriedByValue v=true) _ ?_ ?_ _ _ ⟨rfl,rfl,hi.byValue⟩
 ·rintro v rest r s' ⟨hr,rfl,hall⟩
  rw[eqIsQuiet_byValue _ (hall v Xa)];refine Xc (Xq ?_);simp only[JC,Wl,if_false];exact Xq ⟨rfl,rfl,fun u hu'=>hall u (Xf _ hu')⟩
 ·rintro⟨r1,r2⟩ s' ⟨hr,rfl,_⟩
  simp only at hr
  subst hr;exact Xq h
def Og {ks:List K×List K}{a:Addr}{Q:Bool->Shared->Prop}(hk:VT knd s.heap ks a)(h:Q true s):wpAny (model prog w) A (eqIsQuiet 8 (.ref a)) Q E s:=by
 have hT:=hk.typeIs;obtain⟨o,n,p,q,ho,_,hd,h1,h2⟩:=hk;unfold eqIsQuiet;refine Xc (wpAny_specialOf hT F.slot_tuple_eq.lookup ?_);show wpAny _ _ (isInstance (.ref a) (.type "tuple") >>= _) _ _ s;refine Xc (wpAny_isInstance hT isSubtype_tuple_tuple ?_);simp only[JC,Wl,if_false];refine Xc (wpAny_seqItems ho hd ?_);refine Xc ?_;show wpAny _ _ (forIn #[Value.ref p,Value.ref q] _ _) _ _ s;rw[<- Array.forIn_toList];refine wpAny_forIn_list _ (fun rest r s'=>r.1=none/\s'=s/\∀v∈rest,∃z zs,v=.ref z/\IsTupleKey knd s.heap zs z) _ ?_ ?_ _ _ ⟨rfl,rfl,fun v hv=>?_⟩
 ·rintro v rest r s' ⟨hr,rfl,hall⟩
  obtain⟨z,zs,rfl,hz⟩:=hall v Xa;refine Xc (Ik 6 hz ?_);simp only[JC,Wl,if_false];exact Xq ⟨rfl,rfl,fun u hu'=>hall u (Xf _ hu')⟩
 ·rintro⟨r1,r2⟩ s' ⟨hr,rfl,_⟩
  simp only at hr
  subst hr;exact Xq h
 ·rcases Xe.mp hv with rfl|hv
  ·exact⟨p,_,rfl,h1⟩
  ·rcases Xe.mp hv with rfl|hv
   ·exact⟨q,_,rfl,h2⟩
   ·cases hv
end
def DS {prog:Program}{w:World}{K:Type} [DecidableEq K] (knd:KeyKind prog w K):HeapKind prog w (List K×List K) where
 is:=VT knd
 hash:=DI knd
 draws:=fun ks=>ks.1.length+ks.2.length+3
 room:=fun A=>A.units+5<cLine
 inj:=fun hx hy=>hx.inj hy
 keeps:=fun x ho hd hs=>x.keeps ho hd hs
 pyHash:=fun hu hk h=>Ob hu hk h
 eqBool:=fun hu hx hy h=>Oa hu hx hy h
 quiet:=fun hk h=>Og hk h
section
variable {prog:Program}{w:World}{K:Type} [DecidableEq K] {knd:HeapKind prog w K}{A:Around}{E:Qb}{s:Shared}
def Oj {d a:Addr}{xs:List (K×Addr×Value)}{k:K}{dflt:Value}{Q:Qb}(hu:knd.room A)(hkey:knd.is s.heap k a)(hm:s.heap.DictOfH knd d xs)
 (hthere:∀p,atKey xs k=some p->Q p.2 { s with toks:=s.toks+knd.draws k })
 (hnew:atKey xs k=none->∀h',h'.DictOfH knd d (xs++[(k,a,dflt)])->Heap.SameBut d s.heap h'->Q dflt { s with heap:=h',toks:=s.toks+knd.draws k })
 (hsz:xs.length<=sizeLine) :
 wpAny (model prog w) A (dictSetDefault d (.ref a) dflt) Q E s:=by
 obtain⟨o,es,ep,ho,hc,hd,he,his,hn⟩:=hm;unfold dictSetDefault;try with_reducible refine wpAny_holding ?_;refine Xc (knd.pyHash hu hkey ?_);refine Xc (wpAny_dictFind_heap (s:={ s with toks:=s.toks+knd.draws k }) hu hkey ho hd he his hn ?_ ?_)
 ·intro hno
  have hnot:k∉xs.map (·.1):=not_mem_keys_of_get hno
  refine Xc (wpAny_rule (Xc (wpAny_updateDictKeys (hz:=by have e:=size_of_entries he;omega) (s:={ s with toks:=s.toks+knd.draws k }) ho hd (Xq (hnew (atKey_none_of_get hno) _ ⟨_,_,ep+1,X9 _ ho (Obj.isFreed_of_dict (Obj.data_mapDictKeys hd _)),
   hc.mapDictKeys _,Obj.data_mapDictKeys hd _,?_,?_,?_⟩ (Heap.SameBut.update ..))))))
  ·simp[he,entryOfKey]
  ·intro x hx
   rcases XG.mp hx with hx|hx
   ·exact knd.keeps (his x hx) ho hd (Heap.SameBut.update ..)
   ·simp only[Xh]at hx
    subst hx;exact knd.keeps hkey ho hd (Heap.SameBut.update ..)
  ·rw[Xy,U7]
   refine⟨hn,by simp,?_⟩;intro x hx y hy;simp only[Xu,UG,Xh]at hy;subst hy;exact fun e=>hnot (e▸hx)
 ·intro j p hj
  refine Xc (wpAny_dictEntries (s:={ s with toks:=s.toks+knd.draws k }) ho hd ?_);rw[entry_at he j,hj];exact Xc (wpAny_rule (Xq (hthere _ (atKey_of_get hn hj))))
def Of (knd:HeapKind prog w K)(d a:Addr)(hd:(d==sysModules)=false)(dflt:Value) :
 MeetsIn prog w (Builtin.«dict.setdefault» ⟨[.ref d,.ref a,dflt],[]⟩) (fun A R s=>knd.room A.in1/\∃k xs,knd.is s.heap k a/\s.heap.DictOfH knd d xs/\xs.length<=sizeLine /\
  (∀p,atKey xs k=some p->R (.ok (.ret p.2)) { s with toks:=s.toks+knd.draws k }) /\
  (atKey xs k=none->∀h',h'.DictOfH knd d (xs++[(k,a,dflt)])->Heap.SameBut d s.heap h'->R (.ok (.ret dflt)) { s with heap:=h',toks:=s.toks+knd.draws k })) :=
 .of_wp fun A R s ⟨hu,k,xs,hkey,hm,hz,h1,h2⟩=>by
  unfold Builtin.«dict.setdefault»;refine Xc ?_;unfold Builtin.Dict.keyAndDefault;refine Xc (wpAny_notOrdered_dict hm.typeIs ?_);show wpAny _ _ (pure (d,Value.ref a,some dflt)) _ _ s;refine Xq ?_;show wpAny _ _ (if (d==sysModules)=true then _ else (dictSetDefault d (.ref a) dflt >>= _)) _ _ s;rw[Xb (by rw[hd];exact Xv)];exact Xc (Oj hu hkey hm (fun p hp=>Xq ⟨p.2,rfl,h1 p hp⟩) (fun hn h' hm' hs'=>Xq ⟨dflt,rfl,h2 hn h' hm' hs'⟩) hz)
end
end PySem
namespace L2
open PySem PySem.Spec PyProof.Rows
section
variable {κ:Type} [DecidableEq κ]
def Zs (kvs:List (κ×V))(k:κ):Option V:=(kvs.find? fun kv=>decide (kv.1=k)).map (·.2)
def V8 (kvs:List (κ×V))(k:κ)(v:V):List (κ×V) :=
 if (kvs.any fun kv=>decide (kv.1=k))=true then kvs.map (fun kv=>if kv.1=k then (kv.1,v) else kv) else kvs++[(k,v)]
def Yq {p:κ×V}{r:List (κ×V)}{k:κ}(e:p.1=k):Zs (p::r) k=some p.2:=by simp[Zs,Xw,e]
def Yp {p:κ×V}{r:List (κ×V)}{k:κ}(e:¬p.1=k):Zs (p::r) k=Zs r k:=by simp[Zs,Xw,e]
theorem RM (k:κ):∀kvs:List (κ×V),(kvs.any fun kv=>decide (kv.1=k))=(Zs kvs k).isSome
 |[]=>rfl
 |p::r=>by
   rw[List.any_cons];by_cases e:p.1=k
   ·simp only[Yq e,XV e,Bool.true_or,Option.isSome_some]
   ·rw[Yp e,XO e,Bool.false_or];exact RM k r
theorem SG (k j:κ)(y:V):∀kvs:List (κ×V),Zs kvs k=none->Zs (kvs++[(k,y)]) j=if j=k then some y else Zs kvs j
 |[],_=>by
   by_cases e:k=j
   ·rw[Xd e.symm];exact Yq (p:=(k,y)) e
   ·rw[Xb (fun z=>e z.symm)];exact Yp (p:=(k,y)) e
 |p::r,hn=>by
   rw[Jc];have hk:¬p.1=k:=fun z=>by rw[Yq z]at hn;cases hn
   rw[Yp hk]at hn;have ih:=SG k j y r hn
   by_cases e:p.1=j
   ·rw[Yq e,Yq e,Xb (fun z=>hk (e.trans z))]
   ·rw[Yp e,Yp e,ih]
def Ps (kvs:List (κ×V))(k:κ)(v:V):(V8 kvs k v).length<=kvs.length+1:=by
 unfold V8;split
 ·rw[Xm];omega
 ·rw[Xo,Oq,List.length_nil];omega
def ZG.isSome_eq {o:Option V}{u:Qf}(r:ZG o u):o.isSome=u.isSome:=by
 cases o with
 |none=>cases u with
   |none=>rfl
   |some _=>exact(show False from r).elim
 |some _=>cases u with
   |none=>exact(show False from r).elim
   |some _=>rfl
def ZG.getD {o:Option V}{u:Qf}{d:V}{d':Value}(r:ZG o u)(rd:QH d d'):QH (o.getD d) (u.getD d'):=by
 cases o with
 |none=>cases u with
   |none=>exact rd
   |some _=>exact(show False from r).elim
 |some _=>cases u with
   |none=>exact(show False from r).elim
   |some _=>exact r
def KV.val {kvs:List (κ×V)}{vs:List (κ×Value)}(r:KV kvs vs)(k:κ):ZG (Zs kvs k) (valueAt vs k):=by
 unfold KV at r;induction r with
 |nil=>exact True.intro
 |@cons p q ps qs h t ih =>
   obtain⟨h1,h2⟩:=h
   by_cases e:p.1=k
   ·have e':q.1=k:=h1.symm.trans e
    have b:valueAt (q::qs) k=some q.2:=by simp[valueAt,Xw,e']
    rw[Yq e,b];exact h2
   ·have e':¬q.1=k:=fun z=>e (h1.trans z)
    have b:valueAt (q::qs) k=valueAt qs k:=by simp[valueAt,Xw,e']
    rw[Yp e,b];exact ih
def KV.any {kvs:List (κ×V)}{vs:List (κ×Value)}(r:KV kvs vs)(k:κ):(kvs.any fun kv=>decide (kv.1=k))=vs.any fun kv=>decide (kv.1=k):=by
 unfold KV at r;induction r with
 |nil=>rfl
 |cons h t ih=>rw[List.any_cons,List.any_cons,ih,h.1]
def KV.repl {kvs:List (κ×V)}{vs:List (κ×Value)}(r:KV kvs vs)(k:κ){y:V}{u:Value}(ry:QH y u) :
 KV (kvs.map fun kv=>if kv.1=k then (kv.1,y) else kv) (vs.map fun kv=>if kv.1=k then (kv.1,u) else kv):=by
 unfold KV at r ⊢;induction r with
 |nil=>exact .nil
 |@cons p q ps qs h t ih =>
   rw[Xu,Xu];refine .cons ?_ ih;obtain⟨h1,h2⟩:=h
   by_cases e:p.1=k
   ·rw[Xd e,Xd (h1.symm.trans e)];exact⟨h1,ry⟩
   ·rw[Xb e,Xb (fun z=>e (h1.trans z))];exact⟨h1,h2⟩
def KV.put {kvs:List (κ×V)}{vs:List (κ×Value)}(r:KV kvs vs)(k:κ){y:V}{u:Value}(ry:QH y u):KV (V8 kvs k y) (stored vs k u):=by
 unfold V8 stored;rw[r.any k];by_cases e:(vs.any fun kv=>decide (kv.1=k))=true
 ·rw[Xd e,Xd e];exact r.repl k ry
 ·rw[Xb e,Xb e];exact Paired.snoc r ⟨rfl,ry⟩
def KV.keys {kvs:List (κ×V)}{vs:List (κ×Value)}(r:KV kvs vs):kvs.map (·.1)=vs.map (·.1):=by
 unfold KV at r;induction r with
 |nil=>rfl
 |cons h t ih=>rw[Xu,Xu,ih,h.1]
def KV.length {kvs:List (κ×V)}{vs:List (κ×Value)}(r:KV kvs vs):kvs.length=vs.length:=Paired.length r
end
def JR {P:Program}{w:World}{k:Key}{u:Value}(r:QH (kV k) u):(ZD P w).is k u=true:=by
 cases k with
 |inl i=>obtain⟨t,e⟩:=(show ∃t,u=Value.int i t from r);subst e;exact IC P w i t
 |inr x=>obtain⟨t,e⟩:=(show ∃t,u=Value.str x t from r);subst e;exact Ii P w x t
theorem SN {P:Program}{w:World}:∀{ks:List Key} {us:Qe},QV (ks.map kV) us->ItemsAre (ZD P w) ks us
 |[],_,r=>by rw[UG]at r;cases r;exact .nil
 |k::ks,_,r=>by
   rw[Xu]at r;cases r with
   |cons h t=>exact .cons (JR h) (SN t)
abbrev KT (H:Hp):List (List Key×V)->List (List Key×Addr×Value)->Prop:=Paired fun p q=>p.1=q.1/\H q.2.1=some (.tup (p.1.map kV))/\QH p.2 q.2.2
def KT.val {H:Hp}{kvs:List (List Key×V)}{xs:List (List Key×Addr×Value)}(r:KT H kvs xs)(k:List Key):ZG (Zs kvs k) ((atKey xs k).map (·.2)):=by
 induction r with
 |nil=>exact True.intro
 |@cons p q ps qs h t ih =>
   obtain⟨h1,_,h2⟩:=h
   by_cases e:p.1=k
   ·have e':q.1=k:=h1.symm.trans e
    have b:atKey (q::qs) k=some q.2:=by simp[atKey,Xw,e']
    rw[Yq e,b];exact h2
   ·have e':¬q.1=k:=fun z=>e (h1.trans z)
    have b:atKey (q::qs) k=atKey qs k:=by simp[atKey,Xw,e']
    rw[Yp e,b];exact ih
def KT.repl {H:Hp}{kvs:List (List Key×V)}{xs:List (List Key×Addr×Value)}(r:KT H kvs xs)(k:List Key){y:V}{u:Value}(ry:QH y u) :
 KT H (kvs.map fun kv=>if kv.1=k then (kv.1,y) else kv) (xs.map (putAt k u)):=by
 induction r with
 |nil=>exact .nil
 |@cons p q ps qs h t ih =>
   rw[Xu,Xu];refine .cons ?_ ih;obtain⟨h1,h2,h3⟩:=h;unfold putAt;by_cases e:p.1=k
   ·rw[Xd e,Xd (h1.symm.trans e)];exact⟨h1,h2,ry⟩
   ·rw[Xb e,Xb (fun z=>e (h1.trans z))];exact⟨h1,h2,h3⟩
def KT.put {H:Hp}{kvs:List (List Key×V)}{xs:List (List Key×Addr×Value)}(r:KT H kvs xs)(k:List Key){b:Addr}{y:V}{u:Value}(hb:H b=some (.tup (k.map kV)))(ry:QH y u) :
 KT H (V8 kvs k y) (storedH xs k b u):=by
 have e:(kvs.any fun kv=>decide (kv.1=k))=(atKey xs k).isSome:=by
  rw[RM,(r.val k).isSome_eq,Jd]
 unfold V8 storedH;rw[e];by_cases q:(atKey xs k).isSome=true
 ·rw[Xd q,Xd q];exact r.repl k ry
 ·rw[Xb q,Xb q];exact Paired.snoc r ⟨rfl,hb,ry⟩
def KT.keeps {H H':Hp}{kvs:List (List Key×V)}{xs:List (List Key×Addr×Value)}(r:KT H kvs xs)(ht:∀b ys,H b=some (.tup ys)->H' b=some (.tup ys)):KT H' kvs xs :=
 Paired.mapP r fun _ _ z=>⟨z.1,ht _ _ z.2.1,z.2.2⟩
section
variable {P:Program}{w:World}{H:Hp}{h:Heap}{a:Addr}
def KP {u:HO}(ok:HOk P w H h)(e:Rd H a u):Z3 P w H h a u:=e.ok ok
def WH {kvs:List (Key×V)}(ok:HOk P w H h)(e:Rd H a (.dK kvs)):kvs.length<=sizeLine/\(a==sysModules)=false/\∃vs,KV kvs vs/\h.DictOf (ZD P w) a vs :=
 show Z3 P w H h a (.dK kvs) from KP ok e
def M5 {kvs:List (Key×V)}(ok:HOk P w H h)(e:H a=some (.dK kvs)):kvs.length<=sizeLine/\(a==sysModules)=false/\∃vs,KV kvs vs/\h.DictOf (ZD P w) a vs:=WH ok (.inl e)
def YS {ks:List Key}(ok:HOk P w H h)(e:H a=some (.tup (ks.map kV))):(tupleKind (ZD P w)).is h ks a:=by
 obtain⟨_,its,r,o,h1,h2,n,h3⟩:=(show Z3 P w H h a (.tup (ks.map kV)) from ok a _ e)
 exact⟨o,its.toArray,n,h1,h2,h3,by simpa using SN r⟩
def Jp {kvs:List (List Key×V)}(ok:HOk P w H h)(e:Rd H a (.dT kvs)):kvs.length<=sizeLine/\(a==sysModules)=false /\
 ∃xs,KT H kvs xs/\h.DictOfH (tupleKind (ZD P w)) a xs:=by
 obtain⟨z,y,xs,r,o,es,ep,h1,h2,h3,h4,h5⟩:=(show Z3 P w H h a (.dT kvs) from KP ok e);refine⟨z,y,xs,r,o,es,ep,h1,h2,h3,h4,fun x hx=>?_,h5⟩
 have all:∀{l:List (List Key×V)} {m:List (List Key×Addr×Value)},KT H l m->∀x∈m,(tupleKind (ZD P w)).is h x.1 x.2.1:=by
  intro l m q;induction q with
  |nil=>intro x hx;exact nomatch hx
  |@cons p q ps qs hq t ih =>
    intro x hx;rcases Xe.mp hx with e|hx
    ·subst e
     exact YS ok (by rw[<- hq.1];exact hq.2.1)
    ·exact ih x hx
 exact all r x hx
def M7 {kvs:List (List Key×V)}(ok:HOk P w H h)(e:H a=some (.dT kvs)):kvs.length<=sizeLine/\(a==sysModules)=false /\
 ∃xs,KT H kvs xs/\h.DictOfH (tupleKind (ZD P w)) a xs:=Jp ok (.inl e)
end
def Vn (H:Hp)(a:Addr)(y:V)(r:Option V):Prop :=
 (∃kvs k,Rd H a (.dK kvs)/\y=kV k/\r=Zs kvs k)\/∃kvs k b,Rd H a (.dT kvs)/\y=.ref b/\H b=some (.tup (k.map kV))/\r=Zs kvs k
def Wq (H:Hp)(a:Addr)(y v:V)(H':Hp):Prop :=
 (∃kvs k,H a=some (.dK kvs)/\y=kV k/\kvs.length<sizeLine/\H'=upd H a (.dK (V8 kvs k v))) \/
 ∃kvs k b,H a=some (.dT kvs)/\y=.ref b/\H b=some (.tup (k.map kV))/\kvs.length<sizeLine/\H'=upd H a (.dT (V8 kvs k v))
def Vn.k {H:Hp}{a:Addr}{kvs:List (Key×V)}{k:Key}(e:H a=some (.dK kvs)):Vn H a (kV k) (Zs kvs k):=.inl ⟨kvs,k,.inl e,rfl,rfl⟩
def Vn.t {H:Hp}{a b:Addr}{kvs:List (List Key×V)}{k:List Key}(e:H a=some (.dT kvs))(eb:H b=some (.tup (k.map kV))):Vn H a (.ref b) (Zs kvs k):=.inr ⟨kvs,k,b,.inl e,rfl,eb,rfl⟩
def Wq.k {H:Hp}{a:Addr}{kvs:List (Key×V)}{k:Key}{v:V}(e:H a=some (.dK kvs))(hl:kvs.length<sizeLine):Wq H a (kV k) v (upd H a (.dK (V8 kvs k v))):=.inl ⟨kvs,k,e,rfl,hl,rfl⟩
def Wq.t {H:Hp}{a b:Addr}{kvs:List (List Key×V)}{k:List Key}{v:V}(e:H a=some (.dT kvs))(eb:H b=some (.tup (k.map kV)))(hl:kvs.length<sizeLine) :
 Wq H a (.ref b) v (upd H a (.dT (V8 kvs k v))):=.inr ⟨kvs,k,b,e,rfl,eb,hl,rfl⟩
section
variable {X:Cx}{XaU:Qc}{σ:St}{H:Hp}{s:Shared}{a:Addr}{y v:V}{u r:Value}{o:Option V}{A:Around}{E:Qb}
def Qq.big (I:Qq X XaU σ H s):sysModules<s.heap.objs.size:=by
 have h:mainGlobals<s.heap.objs.size:=(I.mod.glob.keeps I.bk).lt;exact Nat.lt_trans (by decide) h
def A1 {Q:Qb}(hu:A.units+1<cLine)(I:Qq X XaU σ H s)(g:Vn H a y (some v))(ry:QH y u)(h:∀w' s',Qq X XaU σ H s'->QH v w'->Q w' s') :
 wpAny (model X.prog X.w) A (getItem (.ref a) u) Q E s:=by
 rcases g with ⟨kvs,k,e,ey,l⟩|⟨kvs,k,b,e,ey,eb,l⟩
 ·subst ey
  obtain⟨z,hd,vs,rel,dd⟩:=WH I.hok e;obtain⟨w',hw,rw'⟩:=ZG.some_of (v:=v) (o:=valueAt vs k) (by rw[l];exact rel.val k);exact wpAny_getItem_of (JR ry) dd.mapOf hw (h w' _ (I.tok _) rw')
 ·subst ey
  cases (show u=Value.ref b from ry)
  obtain⟨z,hd,xs,rel,dd⟩:=Jp I.hok e;obtain⟨w',hw,rw'⟩:=ZG.some_of (v:=v) (o:=(atKey xs k).map (·.2)) (by rw[l];exact rel.val k);obtain⟨p,hp,hp2⟩:=Option.map_eq_some_iff.mp hw;refine wpAny_getItem_heap (tupleKind_room_in1 hu) (YS I.hok eb) dd hp ?_;rw[hp2];exact h w' _ (I.tok _) rw'
def PP {Q:Qb}(hu:A.units+1<cLine)(I:Qq X XaU σ H s)(g:Vn H a y o)(ry:QH y u)(h:∀s',Qq X XaU σ H s'->Q (.bool o.isSome) s') :
 wpAny (model X.prog X.w) A (compareOp .In u (.ref a)) Q E s:=by
 rcases g with ⟨kvs,k,e,ey,l⟩|⟨kvs,k,b,e,ey,eb,l⟩
 ·subst ey
  obtain⟨z,hd,vs,rel,dd⟩:=WH I.hok e;refine wpAny_in_of (JR ry) hd dd.mapOf ?_;rw[<- (rel.val k).isSome_eq,<- l];exact h _ (I.tok _)
 ·subst ey
  cases (show u=Value.ref b from ry)
  obtain⟨z,hd,xs,rel,dd⟩:=Jp I.hok e;refine wpAny_in_heap (tupleKind_room_in1 hu) (YS I.hok eb) hd dd ?_;have q:=(rel.val k).isSome_eq;rw[Jd]at q;rw[<- q,<- l];exact h _ (I.tok _)
def Fg {Q:Qb}(hu:A.units+1<cLine)(I:Qq X XaU σ H s)(g:Vn H a y o)(ry:QH y u)(h:∀s',Qq X XaU σ H s'->Q (.bool (!o.isSome)) s') :
 wpAny (model X.prog X.w) A (compareOp .NotIn u (.ref a)) Q E s:=by
 rcases g with ⟨kvs,k,e,ey,l⟩|⟨kvs,k,b,e,ey,eb,l⟩
 ·subst ey
  obtain⟨z,hd,vs,rel,dd⟩:=WH I.hok e;refine wpAny_notIn_of (JR ry) hd dd.mapOf ?_;rw[<- (rel.val k).isSome_eq,<- l];exact h _ (I.tok _)
 ·subst ey
  cases (show u=Value.ref b from ry)
  obtain⟨z,hd,xs,rel,dd⟩:=Jp I.hok e;refine wpAny_notIn_heap (tupleKind_room_in1 hu) (YS I.hok eb) hd dd ?_;have q:=(rel.val k).isSome_eq;rw[Jd]at q;rw[<- q,<- l];exact h _ (I.tok _)
def Go {h':Heap}{t':Nat}{ob:HO}(I:Qq X XaU σ H s)(mu:Mut (H a))(hs:Heap.SameBut a s.heap h')(he:∃q,h'.get? a=some q)(new:Z3 X.prog X.w (upd H a ob) h' a ob) :
 Qq X XaU σ (upd H a ob) { s with heap:=h',toks:=t' } :=
 I.write (x:=a) (e:=a) mu (.inl rfl) (fun b q hb z=>(hs.2 b hb).trans z) he new
def Nz {P:Program}{w:World}{H':Hp}{h':Heap}{kvs:List (Key×V)}{vs:List (Key×Value)}(z:kvs.length<=sizeLine)(hd:(a==sysModules)=false)(rel:KV kvs vs)(dd:h'.DictOf (ZD P w) a vs) :
 Z3 P w H' h' a (.dK kvs):=⟨z,hd,vs,rel,dd⟩
def Ao {H':Hp}{Q:Unit->Shared->Prop}(hu:A.units+1<cLine)(I:Qq X XaU σ H s)(g:Wq H a y v H')(ry:QH y u)(rv:QH v r)(h:∀s',Qq X XaU σ H' s'->Q () s') :
 wpAny (model X.prog X.w) A (setItem (.ref a) u r) Q E s:=by
 rcases g with ⟨kvs,k,e,ey,l,eH⟩|⟨kvs,k,b,e,ey,eb,l,eH⟩
 ·subst ey eH
  obtain⟨z,hd,vs,rel,dd⟩:=M5 I.hok e;have hz:vs.length<=sizeLine:=by rw[<- rel.length];exact z
  have hl:(V8 kvs k v).length<=sizeLine:=by have:=Ps kvs k v;omega
  refine wpAny_setItem_pairs (hsz:=hz) (JR ry) dd fun h' dd' hs=>h _ ?_;have he:∃q,h'.get? a=some q:=let ⟨q,_,_,hq,_⟩:=dd';⟨q,hq⟩;exact Go I (by rw[e];exact True.intro) hs he (Nz hl hd (rel.put k rv) dd')
 ·subst ey eH
  cases (show u=Value.ref b from ry)
  obtain⟨z,hd,xs,rel,dd⟩:=M7 I.hok e;have hz:xs.length<=sizeLine:=by rw[<- Paired.length rel];exact z
  have hl:(V8 kvs k v).length<=sizeLine:=by have:=Ps kvs k v;omega
  refine wpAny_setItem_heap (hsz:=hz) (tupleKind_room_in1 hu) (YS I.hok eb) dd fun h' dd' hs=>h _ ?_;obtain⟨q,es,ep,hq,h2,h3,h4,_,h5⟩:=dd';refine Go I (by rw[e];exact True.intro) hs ⟨q,hq⟩ ⟨hl,hd,_,(rel.put k eb rv).keeps fun c ys ec=>?_,q,es,ep,hq,h2,h3,h4,h5⟩;rw[Qs (Nl ec e (fun z=>nomatch z))];exact ec
end
section
variable {X:Cx}{XaU:Qc}{σ:St}{H:Hp}{s:Shared}{a:Addr}{kvs:List (Key×V)}{k:Key}{u:Value}{A:Around}{E:Qb}
end
def M0 (i:Expr):Prop := ∀ov iv,subscripted i false ov iv=operate [ov,iv] (getItem ov iv)
def R5 {prog:Program}{w:World}{A:Around}{E:Qb}{s:Shared}{env:Env}{value slice:Expr}{pos:Pos}{T id:String}{Q:Qb}
 (hl:typeLookup (.type T) "__getitem__"=pure (some (.builtin id))) (hs:M0 slice)
 (h:wpAny (model prog w) A (eval value env) (fun o b6=>wpAny (model prog w) A (eval slice env) (fun i b7=>b7.TypeIs o T/\wpAny (model prog w) A (getItem o i) Q E b7) E b6) E s) :
 wpAny (model prog w) A (eval (.Subscript value slice pos) env) Q E s:=by
 refine Subscript_ (wpAny_mono h (fun o b6 b8=>wpAny_mono b8 (fun i b7 bj=>?_) fun _ _ x=>x) fun _ _ x=>x);obtain⟨hT,bj⟩:=bj;unfold subscriptTail;refine Xc ?_;rw[getitemInPython_of_ne hT.not_modules];refine Xc (wpAny_specialOf hT hl ?_)
 have fin:wpAny (model prog w) A (subscripted slice false o i) (fun r b9=>wpAny (model prog w) A (letTemporaryGo value o r >>= fun _=>pure r) Q E b9) E b7:=by
  rw[hs o i];exact wpAny_operating (wpAny_mono bj (fun r b9 bv=>Xc (wpAny_letTemporaryGo (Xq bv))) fun _ _ x=>x)
 first
  |exact Xq (Xc fin)
  |exact Xc (Xq (Xc fin))
  |exact Xc fin
def ES {X:Cx} {XaU:Qc} {σ:St} {H:Hp} {s:Shared} {a:Addr} {y:V} {o:Option V} (I:Qq X XaU σ H s) (g:Vn H a y o):s.TypeIs (.ref a) "dict" := by
 rcases g with ⟨kvs,k,e,_,_⟩|⟨kvs,k,b,e,_,_,_⟩
 ·obtain⟨_,_,vs,_,dd⟩:=WH I.hok e
  exact dd.typeIs
 ·obtain⟨_,_,xs,_,dd⟩:=Jp I.hok e
  exact dd.typeIs
def Nc (td ty:TE):TE:=fun σ H Q=>td σ H fun x H1=>ty σ H1 fun y H2=>∃a v,x=.ref a/\Vn H2 a y (some v)/\Q v H2
def GJ (ty td:TE):TE:=fun σ H Q=>ty σ H fun y H1=>td σ H1 fun x H2=>∃a o,x=.ref a/\Vn H2 a y o/\Q (.bl o.isSome) H2
def Rn (ty td:TE):TE:=fun σ H Q=>ty σ H fun y H1=>td σ H1 fun x H2=>∃a o,x=.ref a/\Vn H2 a y o/\Q (.bl (!o.isSome)) H2
def GX (td ty tv:TE):TS:=fun D σ H=>tv σ H fun v H1=>td σ H1 fun x H2=>ty σ H2 fun y H3=>∃a H4,x=.ref a/\Wq H3 a y v H4/\D.nx σ H4
section
variable {X:Cx}{o i e value:Expr}{pos pos' tpos:Pos}{td ty tv:TE}
def Rt (hu:X.A.units+1<cLine)(ho:PE X o td)(hi:PE X i ty)(hs:M0 i):PE X (.Subscript o i pos) (Nc td ty):=by
 intro XaU s σ H Q I h;refine R5 PySem.F.slot_dict_getitem.lookup hs (QA (ho XaU s σ H _ I h) fun u s1 ⟨x,H1,I1,rx,q1⟩=>QA (hi XaU s1 σ H1 _ I1 q1) fun iv s2 ⟨y,H2,I2,ry,a,v,ex,g,q2⟩=>?_);subst ex;obtain rfl:u=Value.ref a:=rx
 exact⟨ES I2 g,A1 hu I2 g ry fun w' s3 I3 rw'=>⟨v,H2,I3,rw',q2⟩⟩
def Ju (hu:X.A.units+1<cLine)(hi:PE X i ty)(ho:PE X o td):PC X .In i o (GJ ty td):=by
 intro XaU s σ H Q I h;refine QA (hi XaU s σ H _ I h) fun iv s1 ⟨y,H1,I1,ry,q1⟩=>QA (ho XaU s1 σ H1 _ I1 q1) fun u s2 ⟨x,H2,I2,rx,a,ov,ex,g,q2⟩=>?_;subst ex;obtain rfl:u=Value.ref a:=rx;exact PP hu I2 g ry fun s3 I3=>⟨.bl ov.isSome,H2,I3,rfl,q2⟩
def A2 (hu:X.A.units+1<cLine)(hi:PE X i ty)(ho:PE X o td):PC X .NotIn i o (Rn ty td):=by
 intro XaU s σ H Q I h;refine QA (hi XaU s σ H _ I h) fun iv s1 ⟨y,H1,I1,ry,q1⟩=>QA (ho XaU s1 σ H1 _ I1 q1) fun u s2 ⟨x,H2,I2,rx,a,ov,ex,g,q2⟩=>?_;subst ex;obtain rfl:u=Value.ref a:=rx;exact Fg hu I2 g ry fun s3 I3=>⟨.bl (!ov.isSome),H2,I3,rfl,q2⟩
def Gr (hu:X.A.units+1<cLine)(ho:PE X o td)(hi:PE X i ty)(hv:PE X value tv)(hs:swapsWith value (some (.Subscript o i pos')) pos.line X.env=pure false) :
 PS X (.Assign [.Subscript o i pos'] value pos) (GX td ty tv):=by
 intro XaU s σ H D I h;refine wpAny_Assign_Subscript (QA (hv XaU s σ H _ I h) fun r s1 ⟨v,H1,I1,rv,q1⟩=>QA (ho XaU s1 σ H1 _ I1 q1) fun u s2 ⟨x,H2,I2,rx,q2⟩=>QA (hi XaU s2 σ H2 _ I2 q2) fun iv s3 ⟨y,H3,I3,ry,a,H4,ex,g,q3⟩=>?_) hs;subst ex;obtain rfl:u=Value.ref a:=rx;exact Ao hu I3 g ry rv fun s4 I4=>⟨σ,H4,I4,q3⟩
end
def Cn {P:Program} {w:World} {H:Hp} (h:Heap) (hb:sysModules<h.objs.size):Z3 P w H (h.push { cls:=.type "dict",data:=.dict #[] }) h.objs.size (.dK []) :=
 ⟨XN _,beq_eq_false_iff_ne.mpr (Ne.symm (Xr hb)),[],.nil,Heap.DictOf.new h⟩
def Sd {P:Program} {w:World} {H:Hp} (h:Heap) (hb:sysModules<h.objs.size):Z3 P w H (h.push { cls:=.type "dict",data:=.dict #[] }) h.objs.size (.dT []) :=
 ⟨XN _,beq_eq_false_iff_ne.mpr (Ne.symm (Xr hb)),[],.nil,_,#[],0,XD _ rfl,⟨rfl,rfl,rfl⟩,rfl,rfl,Jb⟩
def NL:TE:=fun _ H Q=>∀p,H p=none->Q (.ref p) (upd H p (.dK []))
def TV:TE:=fun _ H Q=>∀p,H p=none->Q (.ref p) (upd H p (.dT []))
section
variable {X:Cx}{pos:Pos}
def RL:PE X (.Dict [] [] pos) NL:=fun XaU s σ H Q I h =>
 wpAny_Dict_empty ⟨.ref s.heap.objs.size,_,I.laid (a:=s.heap.objs.size) (o:=.dK []) (t':=s.toks) (fun _ _ q=>Xi _ q) (Xs _) (Cn s.heap I.big),rfl,h _ (I.hok.fresh (Xs _))⟩
def FO:PE X (.Dict [] [] pos) TV:=fun XaU s σ H Q I h =>
 wpAny_Dict_empty ⟨.ref s.heap.objs.size,_,I.laid (a:=s.heap.objs.size) (o:=.dT []) (t':=s.toks) (fun _ _ q=>Xi _ q) (Xs _) (Sd s.heap I.big),rfl,h _ (I.hok.fresh (Xs _))⟩
end
structure M2 (X:Cx)(o:Expr)(m:Str)(apos:Pos)(e f:Expr)(cpos:Pos):Prop where
 base:attributeBase o m X.env (eval o X.env)=eval o X.env
 few:((backTo cpos (starEach [e,f] X.env)).all (fun x => !x.1)&&(backToKw cpos (keywordEach [] X.env)).all (fun x=>x.1.isSome)
  && decide (([e,f]:Qi).length+([]:List Keyword).length+(if ([]:List Keyword).isEmpty then 0 else 1)<30))=true
 line:(apos.endLine==cpos.line)=true
 trees:backTo cpos (starEach [e,f] X.env)=[(false,eval e X.env),(false,eval f X.env)]
def IsD (H:Hp)(a:Addr):Prop:=(∃kvs,Rd H a (.dK kvs))\/∃kvs,Rd H a (.dT kvs)
def NM {X:Cx}{XaU:Qc}{σ:St}{H:Hp}{s:Shared}{a:Addr}(I:Qq X XaU σ H s)(d:IsD H a) :
 s.TypeIs (.ref a) "dict" /\ (∀b,Value.ref a=.ref b->∃ob,s.heap.get? b=some ob/\ob.dict=none)/\(a==sysModules)=false:=by
 rcases d with ⟨kvs,e⟩|⟨kvs,e⟩
 ·obtain⟨_,hd,vs,_,dd⟩:=WH I.hok e
  refine⟨dd.typeIs,fun b q=>?_,hd⟩
  cases q
  obtain⟨ob,_,_,h1,h2,_⟩:=dd
  exact⟨ob,h1,h2.2.1⟩
 ·obtain⟨_,hd,xs,_,dd⟩:=Jp I.hok e
  refine⟨dd.typeIs,fun b q=>?_,hd⟩
  cases q
  obtain⟨ob,_,_,h1,h2,_⟩:=dd
  exact⟨ob,h1,h2.2.1⟩
section
variable {X:Cx}{XaU:Qc}{σ:St}{H:Hp}{s:Shared}{a:Addr}{y d:V}{u r:Value}{o:Option V}{A:Around}{E:Qb}
def Ld {Q:Qb}(hu:A.units+1<cLine)(I:Qq X XaU σ H s)(g:Vn H a y o)(ry:QH y u)(rd:QH d r)(h:∀w' s',Qq X XaU σ H s'->QH (o.getD d) w'->Q w' s') :
 wpAny (model X.prog X.w) A (call (.builtin "dict.get") [.ref a,u,r]) Q E s:=by
 rcases g with ⟨kvs,k,e,ey,l⟩|⟨kvs,k,b,e,ey,eb,l⟩
 ·subst ey
  obtain⟨z,hd,vs,rel,dd⟩:=WH I.hok e;refine call_meetsIn PySem.F.slot_dict_get dd.typeIs PySem.F.entry_dict_get (PySem.F.args_dict_get_3 _ _ _) (meets_dict_get_default (ZD X.prog X.w) a (JR ry) hd r) ⟨_,dd.mapOf,h _ _ (I.tok _) ?_⟩;rw[l];exact(rel.val k).getD rd
 ·subst ey
  cases (show u=Value.ref b from ry)
  obtain⟨z,hd,xs,rel,dd⟩:=Jp I.hok e;refine call_meetsIn PySem.F.slot_dict_get dd.typeIs PySem.F.entry_dict_get (PySem.F.args_dict_get_3 _ _ _) (meetsH_dict_get_default (tupleKind (ZD X.prog X.w)) a b hd r) ⟨tupleKind_room_in1 hu,k,xs,YS I.hok eb,dd,h _ _ (I.tok _) ?_⟩;rw[l];exact(rel.val k).getD rd
end
def NA (td ty tx:TE):TE:=fun σ H Q=>td σ H fun x H1=>∃a,x=.ref a/\IsD H1 a/\ty σ H1 fun y H2=>tx σ H2 fun z H3=>∃o,Vn H3 a y o/\Q (o.getD z) H3
section
variable {X:Cx}{o e f:Expr}{apos cpos:Pos}{td ty tx:TE}
def CM (hu:X.A.units+1<cLine) (ho:PE X o td) (he:PE X e ty) (hf:PE X f tx) (m:M2 X o "get" apos e f cpos):PE X (.Call (.Attribute o "get" apos) [e,f] [] cpos) (NA td ty tx):=by
 intro XaU s σ H Q I h;refine wpAny_Call_method m.base m.few m.line PySem.F.plainAttrs_dict PySem.F.slot_dict_get PySem.F.type_dict_get (QA (ho XaU s σ H _ I h) fun u s1 ⟨x,H1,I1,rx,a,ex,d,q1⟩=>?_);subst ex;obtain rfl:u=Value.ref a:=rx;obtain⟨t1,t2,_⟩:=NM I1 d;refine⟨t1,t2,?_⟩
 rw[m.trees];refine Calls.callWith_builtin rfl (Calls.evalArgs_plain (Calls.spliced_cons (QA (he XaU s1 σ H1 _ I1 q1) fun iv s2 ⟨y,H2,I2,ry,q2⟩ =>
  Calls.spliced_cons (QA (hf XaU s2 σ H2 _ I2 q2) fun fv s3 ⟨z,H3,I3,rz,ov,g,q3⟩=>Calls.spliced_nil ?_))))
 exact Ld hu I3 g ry rz fun w' s4 I4 rw'=>⟨_,H3,I4,rw',q3⟩
end
section
variable {X:Cx}{XaU:Qc}{σ:St}{H:Hp}{s:Shared}{a:Addr}{kvs:List (Key×V)}{A:Around}{E:Qb}
def Ch {Q:Qb} (I:Qq X XaU σ H s) (e:Rd H a (.dK kvs)) (h:∀p s',H p=none->Qq X XaU σ (upd H p (.dK kvs)) s'->Q (.ref p) s'):wpAny (model X.prog X.w) A (call (.type "dict") [.ref a]) Q E s:=by
 obtain⟨z,hd,vs,rel,dd⟩:=WH I.hok e;refine kt_call_dict hd dd (by rw[<- rel.length];exact z) fun h' dd' hs=>?_;refine h _ _ (I.hok.fresh (Xs _)) (I.laid (a:=s.heap.objs.size) (o:=.dK kvs) (t':=s.toks) (fun b q hq=>?_) (Xs _) (Nz z (beq_eq_false_iff_ne.mpr (Ne.symm (Xr I.big))) rel dd'))
 exact(hs.2 b (Xr (Xj hq))).trans (Xi _ hq)
end
section
variable {X:Cx}{XaU:Qc}{σ:St}{H:Hp}{s:Shared}{a:Addr}{y:V}{u:Value}{A:Around}{E:Qb}
end
end L2
def YM:1<=1000:=by decide
def Wr:2<=1000:=by decide
namespace My
end My
namespace L2
open PySem
theorem Zt.keep {F H H':Hp}:∀{as:Qg} {dss:List (Qd)},(∀b∈as,H' b=H b)->Zt F H as dss->Zt F H' as dss
 |[],[],_,_=>trivial
 |a::as,_::_,h,o=>by
   obtain⟨⟨h1,xs,h2,h3⟩,o2⟩:=o
   exact⟨⟨h1,xs,by rw[h a Xa];exact h2,h3⟩,Zt.keep (fun b hb=>h b (Xf _ hb)) o2⟩
 |[],_::_,_,h=>False.elim h
 |_::_,[],_,h=>False.elim h
def Zk.keep {K:W.Frag}{F H H':Hp}{v:V}{t:OT}{p:Qg}(k:∀b∈p,H' b=H b)(h:Zk K F H v t p):Zk K F H' v t p:=by
 cases t with
 |fz d=>exact h
 |zow Ψ=>exact h
 |ol ds =>
   obtain⟨a,rfl,rfl,h1,xs,h2,h3⟩:=h
   exact⟨a,rfl,rfl,h1,xs,by rw[k a Xa];exact h2,h3⟩
 |oll dss =>
   obtain⟨a,as,rfl,rfl,h1,h2,h3,h4⟩:=h
   exact⟨a,as,rfl,rfl,h1,h2,by rw[k a Xa];exact h3,h4.keep fun b hb=>k b (Xf _ hb)⟩
 |scr ns=>exact h
 |own v0 Φ =>
   obtain⟨h1,h2⟩:=h
   exact⟨h1,Φ.mono (Q2.refl _) (fun a ha=>(Φ.there h2 a ha).1) k h2⟩
def Q9.writeOwn {K:W.Frag}{H0 F H:Hp}{ρ:Q6}{σ:St}{i:Nat}{v:V}{Φ:OwnP}(s:Q9 K H0 F ρ σ H)(e:ρ[i]?=some (some (.own v Φ))) :
 σ[i]?=some (some v)/\∃p,Φ.ok K F H v p/\(∀a∈p,H0 a=none/\F a=none/\H a≠none) /\
  ∀(H':Hp) (Φ':OwnP) (p':Qg),Q2 F H'->(∀b,b∉p->H b≠none->H' b=H b)->(∀b,H b≠none->H' b≠none)->Φ'.ok K F H' v p'->(∀a∈p',a∈p\/(H a=none/\H0 a=none)) ->
   Q9 K H0 F (ρ.set i (some (.own v Φ'))) σ H':=by
 obtain⟨kt,h1,h2,fp,h3,h4,h5⟩:=s;obtain⟨u,e1,rfl,e2⟩:=h3 i _ e;refine⟨e1,fp i,e2,fun a ha=>⟨(h5 i a ha).1,(Φ.there e2 a ha).1,(h5 i a ha).2⟩,fun H' Φ' p' sm kp st ok sub=>?_⟩;have hlt:=(Xg.mp e).1;refine⟨kt,sm,by simp[h2],fun j=>if j=i then p' else fp j,fun j t' e'=>?_,fun j k a ha hb=>?_,fun j a ha=>?_⟩
 ·by_cases hj:j=i
  ·subst hj
   rw[Xk hlt]at e';cases e';refine⟨_,e1,rfl,?_⟩;simp only[if_true];exact ok
  ·rw[Xp (Ne.symm hj)]at e'
   obtain⟨u',f1,f2⟩:=h3 j t' e';refine⟨u',f1,?_⟩;simp only[Xb hj];exact f2.keep fun b hb=>kp b (fun z=>hj (h4 j i b hb z)) (h5 j b hb).2
 ·by_cases hj:j=i
  ·by_cases hk:k=i
   ·omega
   ·simp only[Xd hj]at ha
    simp only[Xb hk]at hb;rcases sub a ha with z|z
    ·exact Xl (h4 k i a hb z) hk
    ·exact Xl z.1 (h5 k a hb).2
  ·simp only[Xb hj]at ha
   by_cases hk:k=i
   ·simp only[Xd hk]at hb
    rcases sub a hb with z|z
    ·exact Xl (h4 j i a ha z) hj
    ·exact Xl z.1 (h5 j a ha).2
   ·simp only[Xb hk]at hb
    exact h4 j k a ha hb
 ·by_cases hj:j=i
  ·simp only[Xd hj]at ha
   rcases sub a ha with z|z
   ·exact⟨(h5 i a z).1,st a (h5 i a z).2⟩
   ·exact⟨z.2,(Φ'.there ok a ha).2⟩
  ·simp only[Xb hj]at ha
   exact⟨(h5 j a ha).1,st a (h5 j a ha).2⟩
def JJ:Key->PyData
 |.inl i=>.int i
 |.inr x=>.str x
def QS (k:List Key):PyData:=.tuple (k.map JJ)
def B6 {F:Hp}{y:V}{k:Key}(r:Rep F y (JJ k)):y=kV k:=by
 cases k with
 |inl i=>cases r;rfl
 |inr x=>cases r;rfl
theorem Sv {F:Hp}:∀{ys:List V} {k:List Key},Qw F ys (k.map JJ)->ys=k.map kV
 |_,[],.nil=>rfl
 |_,k::ks,.cons r rs=>by rw[B6 r,Sv rs];rfl
def Wf {F:Hp}{y:V}{k:List Key}(r:Rep F y (QS k)):∃b,y=.ref b/\F b=some (.tup (k.map kV)):=by
 unfold QS at r;cases r with
 |tup h rs=>exact⟨_,rfl,by rw[h,Sv rs]⟩
abbrev ZQ:=List (List Key×PyData)
def V7 (kvs:ZQ)(k:List Key):Option PyData:=(kvs.find? fun kv=>decide (kv.1=k)).map (·.2)
def JM (kvs:ZQ)(k:List Key)(d:PyData):ZQ:=if (kvs.any fun kv=>decide (kv.1=k))=true then kvs.map (fun kv=>if kv.1=k then (kv.1,d) else kv) else kvs++[(k,d)]
inductive PairD (F:Hp):List (List Key×V)->ZQ->Prop
 |nil:PairD F [] []
 |cons {k:List Key} {x:V} {d:PyData} {xs:List (List Key×V)} {kvs:ZQ}:Rep F x d->PairD F xs kvs->PairD F ((k,x)::xs) ((k,d)::kvs)
theorem PairD.mono {F F':Hp}(s:Q2 F F'):∀{xs:List (List Key×V)} {kvs:ZQ},PairD F xs kvs->PairD F' xs kvs
 |_,_,.nil=>.nil
 |_,_,.cons r t=>.cons (r.mono s) (t.mono s)
theorem PairD.length {F:Hp}:∀{xs:List (List Key×V)} {kvs:ZQ},PairD F xs kvs->xs.length=kvs.length
 |_,_,.nil=>rfl
 |_,_,.cons _ t=>by simp[t.length]
theorem PairD.val {F:Hp}(k:List Key):∀{xs:List (List Key×V)} {kvs:ZQ},PairD F xs kvs->(Zs xs k=none/\V7 kvs k=none)\/∃x d,Zs xs k=some x/\V7 kvs k=some d/\Rep F x d
 |_,_,.nil=>.inl ⟨rfl,rfl⟩
 |_,_,.cons (k:=k') (x:=x) (d:=d) (xs:=xs) (kvs:=kvs) r t=>by
   by_cases e:k'=k
   ·exact .inr ⟨x,d,Yq e,by simp[V7,Xw,e],r⟩
   ·have q:V7 ((k',d)::kvs) k=V7 kvs k:=by simp[V7,Xw,e]
    rw[Yp (p:=(k',x)) e,q];exact t.val k
theorem PairD.any {F:Hp}(k:List Key):∀{xs:List (List Key×V)} {kvs:ZQ},PairD F xs kvs->(xs.any fun kv=>decide (kv.1=k))=(kvs.any fun kv=>decide (kv.1=k))
 |_,_,.nil=>rfl
 |_,_,.cons _ t=>by simp[t.any k]
theorem PairD.mapP {F:Hp}(k:List Key){y:V}{d:PyData}(r:Rep F y d):∀{xs:List (List Key×V)} {kvs:ZQ},PairD F xs kvs->PairD F (xs.map fun kv=>if kv.1=k then (kv.1,y) else kv) (kvs.map fun kv=>if kv.1=k then (kv.1,d) else kv)
 |_,_,.nil=>.nil
 |_,_,.cons (k:=k') r' t=>by
   rw[Xu,Xu];by_cases e:k'=k
   ·simp only[e,if_true]
    exact .cons r (t.mapP k r)
   ·simp only[e,if_false]
    exact .cons r' (t.mapP k r)
theorem PairD.snoc {F:Hp}(k:List Key){y:V}{d:PyData}(r:Rep F y d):∀{xs:List (List Key×V)} {kvs:ZQ},PairD F xs kvs->PairD F (xs++[(k,y)]) (kvs++[(k,d)])
 |_,_,.nil=>.cons r .nil
 |_,_,.cons r' t=>.cons r' (t.snoc k r)
def PairD.put {F:Hp}(k:List Key){y:V}{d:PyData}(r:Rep F y d){xs:List (List Key×V)}{kvs:ZQ}(t:PairD F xs kvs):PairD F (V8 xs k y) (JM kvs k d):=by
 unfold V8 JM;rw[t.any k];split
 ·exact t.mapP k r
 ·exact t.snoc k r
def Vk (kvs:ZQ):OwnP where
 ok K F H v p := ∃a xs,v=.ref a/\p=[a]/\F a=none/\H a=some (.dT xs)/\PairD F xs kvs
 there:=by
  rintro K F H v p ⟨a,xs,rfl,rfl,h1,h2,h3⟩ b hb
  cases Xh.mp hb
  exact⟨h1,Zm h2⟩
 mono:=by
  rintro K F F' H H' v p s hF hH ⟨a,xs,rfl,rfl,h1,h2,h3⟩
  exact⟨a,xs,rfl,rfl,hF a Xa,by rw[hH a Xa];exact h2,h3.mono s⟩
 uniq:=by
  rintro K F H v p q ⟨a,xs,rfl,rfl,_⟩ ⟨b,ys,e,rfl,_⟩ c hc
  cases e
  exact hc
section
variable {K:W.Frag}{ρ:Q6}{te ty tv:TE}{D:PEnds}{i:Nat}{v:V}{kvs:ZQ}{k:List Key}{d:PyData}
def Q9.dct {H0 F H:Hp}{σ:St}(S:Q9 K H0 F ρ σ H)(e:ρ[i]?=some (some (.own v (Vk kvs)))) :
 ∃a xs,v=.ref a/\σ[i]?=some (some (.ref a))/\F a=none/\H0 a=none/\H a=some (.dT xs)/\PairD F xs kvs:=by
 obtain⟨e1,p,⟨a,xs,rfl,rfl,h1,h2,h3⟩,hp,_⟩:=S.writeOwn e
 exact⟨a,xs,rfl,e1,h1,(hp a Xa).1,h2,h3⟩
def Hy {F:Hp}{xs:List (List Key×V)}(t:PairD F xs kvs):(Zs xs k).isSome=(V7 kvs k).isSome:=by
 rcases t.val k with ⟨z1,z2⟩|⟨x,d',z1,z2,_⟩<;>rw[z1,z2]<;>rfl
def LR (hy:Qu K ty ρ (QS k))(e:ρ[i]?=some (some (.own v (Vk kvs)))):Qu K (GJ ty (QB i)) ρ (.bool (V7 kvs k).isSome):=fun H0 F σ H Q S q =>
 hy H0 F σ H _ S fun F1 H1 y x1 r1=>by
  obtain⟨a,xs,rfl,e1,_,_,f2,f3⟩:=(S.ext x1).dct e;obtain⟨b,rfl,hb⟩:=Wf r1
  exact⟨_,e1,a,_,rfl,Vn.t f2 (x1.fh _ _ hb),q F1 H1 _ x1 (by rw[Hy f3];exact .bl _)⟩
def EG (hy:Qu K ty ρ (QS k))(e:ρ[i]?=some (some (.own v (Vk kvs)))):Qu K (Rn ty (QB i)) ρ (.bool (!(V7 kvs k).isSome)):=fun H0 F σ H Q S q =>
 hy H0 F σ H _ S fun F1 H1 y x1 r1=>by
  obtain⟨a,xs,rfl,e1,_,_,f2,f3⟩:=(S.ext x1).dct e;obtain⟨b,rfl,hb⟩:=Wf r1
  exact⟨_,e1,a,_,rfl,Vn.t f2 (x1.fh _ _ hb),q F1 H1 _ x1 (by rw[Hy f3];exact .bl _)⟩
def Cv (e:ρ[i]?=some (some (.own v (Vk kvs))))(hv:Qu K tv ρ d)(hy:Qu K ty ρ (QS k))(hz:kvs.length<sizeLine)(hn:D.nx (ρ.set i (some (.own v (Vk (JM kvs k d)))))):Q1 K (GX (QB i) ty tv) ρ D:=fun F0 H0 F σ H E x S C =>
 hv H0 F σ H _ S fun F1 H1 u x1 r1=>by
  obtain⟨a,xs,rfl,e1,_⟩:=(S.ext x1).dct e;refine⟨_,e1,hy H0 F1 σ H1 _ (S.ext x1) fun F2 H2 y x2 r2=>?_⟩;have S2:=S.ext (x1.trans x2);obtain⟨a',xs',ea,_,g1,g0,g2,g3⟩:=S2.dct e
  cases ea
  obtain⟨b,rfl,hb⟩:=Wf r2;refine⟨a,_,rfl,Wq.t g2 (x2.fh _ _ hb) (by rw[g3.length];exact hz),?_⟩;obtain⟨_,p,ok,hp,w⟩:=S2.writeOwn e;obtain⟨a'',xs'',ea,rfl,_,g4,_⟩:=ok
  cases ea
  refine C.nx F2 σ _ _ ((x.trans (x1.trans x2)).wr g0 g1) (w _ (Vk (JM kvs k d)) [a] (S2.sub.upd g1) (fun c hc _=>Qs fun z=>hc (by rw[z];exact Xa)) (fun c hc=>?_) ⟨a,_,rfl,rfl,g1,QC,g3.put k (r1.mono x2.ff)⟩ (fun c hc=>.inl hc)) hn
  by_cases z:c=a
  ·subst z;rw[QC];exact fun q=>nomatch q
  ·rw[Qs z];exact hc
def EvX (K:W.Frag)(t:TE)(ρ:Q6)(Φ:OwnP):Prop := ∀(H0 F:Hp) (σ:St) (H:Hp) (Q:VK),Q9 K H0 F ρ σ H->(∀F' H' v p,Qx F H F' H'->(∀a∈p,H a=none)->Φ.ok K F' H' v p->Q v H')->t σ H Q
theorem BA:∀{as bs:Qg},as.map V.ref=bs.map V.ref->as=bs
 |[],[],_=>rfl
 |a::as,b::bs,h=>by
   rw[Xu,Xu]at h;injection h with h1 h2
   cases h1
   rw[BA h2]
 |[],_::_,h=>by cases h
 |_::_,[],h=>by cases h
def Uo {F H:Hp}{w:V}{t:OT}{p q:Qg}(h:Zk K F H w t p)(h':Zk K F H w t q):∀b∈q,b∈p:=by
 cases t with
 |fz d=>rw[h'.1];intro b hb;cases hb
 |zow Ψ=>rw[h'.1];intro b hb;cases hb
 |ol ds =>
   obtain⟨b1,z1,z2,z3⟩:=h';obtain⟨b2,y1,y2,y3⟩:=h;rw[z1]at y1;cases y1;rw[z2,y2];exact fun _ z=>z
 |oll dss =>
   obtain⟨a,as,z1,z2,_,_,z3,_⟩:=h';obtain⟨b,bs,y1,y2,_,_,y3,_⟩:=h;rw[z1]at y1;cases y1;rw[z3]at y3;injection y3 with y4;injection y4 with y5;rw[z2,y2,BA y5];exact fun _ z=>z
 |scr ns=>rw[h'.1];intro b hb;cases hb
 |own v0 Φ=>exact Φ.uniq h.2 h'.2
def Bv {Φ:OwnP}(h:EvX K te ρ Φ)(hn:∀v,D.nx (ρ.set i (some (.own v Φ)))):Q1 K (ZJ te (ZC i)) ρ D:=fun F0 H0 F σ H E x S C =>
 h H0 F σ H _ S fun F' H' v p x' hp ok=>by
  refine C.nx F' _ H' _ (x.trans x') ((S.ext x').set (t:=.own v Φ) ⟨rfl,ok⟩ (fun a ha=>x.hh.free (hp a ha)) (hn:=fun a ha j w t' q e1 e2 ok'=>?_)) (hn v);obtain⟨fp,g1,g2,g3⟩:=S.fp;obtain⟨w',f1,f2⟩:=g1 j t' e1;intro hq;have f3:=f2.ext x';rw[e2]at f1;cases f1
  exact(g3 j a (Uo (K:=K) f3 ok' a hq)).2 (hp a ha)
end
end L2
namespace Mir
theorem Pe {g:Qn}{l:Nat}(h:∀c,c<=l->g c=0):∀m,Q7 g (l+1+m)=Q7 (fun j=>g (l+1+j)) m
 |0=>by
   show Q7 g (l+1)=0;rw[Zq (g:=fun _=>0) fun k hk=>h k (by omega),VE]
 |m+1=>by
   show Q7 g (l+1+m)+g (l+1+m)=_;rw[Pe h m];rfl
theorem Pw (y:Yd)(b own:Qn)(l:Nat):∀m,W6 y b own l m=Q7 (fun j=>if Zh y (l+1+j)=some l then passes y b own (l+1+j) else 0) m
 |0=>rfl
 |m+1=>by simp only[W6,Q7];rw[Pw y b own l m]
def JQ {y:Yd}(ok:y.Ok){c l:Nat}(hc:c<y.ls.length)(e:Zh y c=some l):l<c:=by
 by_cases h0:c=0
 ·subst h0;rw[ok.up0]at e;cases e
 ·obtain⟨a,ea,la⟩:=ok.ups c (by omega) hc
  rw[ea]at e;cases e;exact la
def SV {y:Yd}(ok:y.Ok)(b own:Qn){l:Nat}(hl:l<y.ls.length):VX y b own l=own l+Q7 (fun c=>if Zh y c=some l then passes y b own c else 0) y.ls.length:=by
 rw[Ci ok,Pw];have e:y.ls.length=l+1+(y.ls.length-1-l):=by omega
 have h:=Pe (g:=fun c=>if Zh y c=some l then passes y b own c else 0) (l:=l) (fun c hc=>Xb fun z=>by
  have:=JQ ok (by omega) z
  omega) (y.ls.length-1-l)
 rw[<- e]at h;rw[h]
section
variable (y:Yd)(b own:Qn)
end
section
variable {y:Yd}{b own:Qn}
def RK (ok:y.Ok):upL y 0=[0]:=by
 have:=ok.l1
 rw[NY ok (by omega),Xd rfl]
end
end Mir
namespace Mir
def ind (p:Prop) [Decidable p]:Int:=if p then 1 else 0
theorem RH {y:Yd}(ok:y.Ok)(l:Nat)(hl:l<y.ls.length):∀n j,j<n->j<y.ls.length ->
 ind (l∈upL y j)=ind (j=l)+Q7 (fun c=>if Zh y c=some l then ind (c∈upL y j) else 0) y.ls.length
 |0,j,h,_=>by omega
 |n+1,j,h,hj=>by
   by_cases e:j=l
   ·subst e
    have z:Q7 (fun c=>if Zh y c=some j then ind (c∈upL y j) else 0) y.ls.length=0:=by
     rw[Zq (g:=fun _=>0) fun c hc=>?_,VE]
     by_cases u:Zh y c=some j
     ·have:=JQ ok hc u
      have w:¬c∈upL y j:=fun z=>by have:=N4 y j c z;omega
      simp[u,ind,w]
     ·simp[u]
    rw[z];simp[ind,DY]
   ·by_cases j0:j=0
    ·subst j0
     have w:¬l∈upL y 0:=fun z=>by rw[RK ok]at z;simp at z;exact e z.symm
     have z:Q7 (fun c=>if Zh y c=some l then ind (c∈upL y 0) else 0) y.ls.length=0:=by
      rw[Zq (g:=fun _=>0) fun c hc=>?_,VE]
      by_cases u:Zh y c=some l
      ·have c0:¬c∈upL y 0:=fun z=>by
        rw[RK ok]at z;simp at z;subst z;rw[ok.up0]at u;cases u
       simp[u,ind,c0]
      ·simp[u]
     rw[z];simp[ind,w,e]
    ·obtain⟨a,ea,la⟩:=ok.ups j (by omega) hj
     have ih:=RH ok l hl n a (by omega) (by omega);have m1:(l∈upL y j)↔(l∈upL y a):=MN ok (by omega) hj ea l (fun z=>e z.symm);have e1:ind (l∈upL y j)=ind (l∈upL y a):=by unfold ind;simp only[m1]
     have e2:∀c,c<y.ls.length->(if Zh y c=some l then ind (c∈upL y j) else 0)=(if Zh y c=some l then ind (c∈upL y a) else 0)+(if c=j then ind (a=l) else 0):=by
      intro c hc;by_cases z:c=j
      ·subst z
       have w:¬c∈upL y a:=fun q=>by have:=N4 y a c q;omega
       rw[ea];by_cases q:a=l
       ·subst q;simp[ind,DY,w]
       ·have:¬some a=some l:=fun z=>q (by injection z)
        simp[ind,q]
      ·have m2:(c∈upL y j)↔(c∈upL y a):=MN ok (by omega) hj ea c z
       have:ind (c∈upL y j)=ind (c∈upL y a):=by unfold ind;simp only[m2]
       rw[this,Xb z,UF]
     rw[e1,ih,Zq e2,G2,Ui,Xd hj];have:ind (j=l)=0:=by unfold ind;rw[Xb e]
     omega
def Vc (y:Yd)(m:Nat)(ln:Nat->Nat)(f:Qn)(l:Nat):Int:=Q7 (fun k=>f k*ind (l∈upL y (ln k))) m
def G7 {y:Yd}(ok:y.Ok){m:Nat}{ln:Nat->Nat}(hln:∀k,k<m->ln k<y.ls.length)(f:Qn){l:Nat}(hl:l<y.ls.length) :
 Vc y m ln f l=Q7 (fun k=>f k*ind (ln k=l)) m+Q7 (fun c=>if Zh y c=some l then Vc y m ln f c else 0) y.ls.length:=by
 unfold Vc;have h1:∀k,k<m->f k*ind (l∈upL y (ln k))=f k*ind (ln k=l)+Q7 (fun c=>if Zh y c=some l then f k*ind (c∈upL y (ln k)) else 0) y.ls.length:=by
  intro k hk;rw[RH ok l hl _ (ln k) (WA _) (hln k hk),Int.mul_add,<- Bx];congr 1;refine Zq fun c _=>?_
  by_cases u:Zh y c=some l
  ·rw[Xd u,Xd u]
  ·rw[Xb u,Xb u,Int.mul_zero]
 rw[Zq h1,G2,BG];congr 1;refine Zq fun c _=>?_
 by_cases u:Zh y c=some l
 ·simp only[Xd u]
 ·simp only[Xb u]
  rw[VE]
theorem no_more {y:Yd}(ok:y.Ok){m:Nat}{ln:Nat->Nat}(hln:∀k,k<m->ln k<y.ls.length){f:Qn}{b own:Qn}(ho:∀l,l<y.ls.length->Q7 (fun k=>f k*ind (ln k=l)) m<=own l)(hb:∀l,l<y.ls.length->Vc y m ln f l<=b l) :
 ∀n l,y.ls.length<=l+n->l<y.ls.length->Vc y m ln f l<=passes y b own l
 |0,l,h,hl=>by omega
 |n+1,l,h,hl=>by
   have h1:Vc y m ln f l<=VX y b own l:=by
    rw[G7 ok hln f hl,SV ok b own hl];refine Int.add_le_add (ho l hl) (Wh fun c hc=>?_)
    by_cases u:Zh y c=some l
    ·rw[Xd u,Xd u]
     have:=JQ ok hc u
     exact no_more ok hln ho hb n c (by omega) hc
    ·rw[Xb u,Xb u]
     exact Jf _
   have h2:=hb l hl;unfold passes;omega
end Mir
namespace Mir
def Rl {y:Yd}{m:Nat}{ln:Nat->Nat}{f g:Qn}(h:∀k,k<m->f k<=g k)(l:Nat):Vc y m ln f l<=Vc y m ln g l :=
 Wh fun k hk=>by
  unfold ind;split
  ·have:=h k hk;omega
  ·omega
def L8 {y:Yd}{m:Nat}{ln:Nat->Nat}{f:Qn}(h:∀k,k<m->0<=f k)(l:Nat):0<=Vc y m ln f l :=
 Rm fun k hk=>by
  unfold ind;split
  ·have:=h k hk;omega
  ·omega
structure Shut (y:Yd)(m:Nat)(ln:Nat->Nat)(f mo:Qn)(b:Qn)(S R:Qm):Prop where
 nn:∀k,k<m->0<=f k
 full:∀k,k<m->S k=true->R (ln k)=false->f k=mo k
 none:∀k,k<m->S k=false->R (ln k)=true->f k=0
 top:R 0=true->Vc y m ln f 0=b 0
 out:∀c a,c<y.ls.length->Zh y c=some a->R c=true->R a=false->Vc y m ln f c=b c
 inn:∀c a,c<y.ls.length->Zh y c=some a->R c=false->R a=true->Vc y m ln f c=0
def Zj (S:Qm)(f:Qn):Qn:=fun k=>if S k=true then f k else 0
def DK {S:Qm}{f:Qn}{k:Nat}(h:0<=f k):Zj S f k<=f k:=by
 unfold Zj;split<;>omega
def Cy {S:Qm}{f:Qn}{k:Nat}(h:0<=f k):0<=Zj S f k:=by
 unfold Zj;split<;>omega
theorem Shut.alike {y:Yd}(ok:y.Ok){m:Nat}{ln:Nat->Nat}(hln:∀k,k<m->ln k<y.ls.length){f mo b:Qn}{S R:Qm}(h:Shut y m ln f mo b S R) :
 ∀n l,y.ls.length<=l+n->l<y.ls.length->R l=true->Vc y m ln f l=Vc y m ln (Zj S f) l
 |0,l,h0,hl,_=>by omega
 |n+1,l,h0,hl,hR=>by
   rw[G7 ok hln f hl,G7 ok hln (Zj S f) hl];congr 1
   ·refine Zq fun k hk=>?_
    by_cases e:ln k=l
    ·have:f k=Zj S f k:=by
      unfold Zj;cases s:S k with
      |true=>simp
      |false=>simp;exact h.none k hk s (by rw[e];exact hR)
     rw[this]
    ·simp[ind,e]
   ·refine Zq fun c hc=>?_
    by_cases u:Zh y c=some l
    ·rw[Xd u,Xd u]
     have:=JQ ok hc u
     cases r:R c with
     |true=>exact Shut.alike ok hln h n c (by omega) hc r
     |false =>
       have e:=h.inn c l hc u r hR;have q1:=Rl (y:=y) (ln:=ln) (f:=Zj S f) (g:=f) (fun k hk=>DK (S:=S) (h.nn k hk)) c;have q2:=L8 (y:=y) (ln:=ln) (f:=Zj S f) (fun k hk=>Cy (S:=S) (h.nn k hk)) c;omega
    ·rw[Xb u,Xb u]
theorem Shut.all {y:Yd}(ok:y.Ok){m:Nat}{ln:Nat->Nat}(hln:∀k,k<m->ln k<y.ls.length){f mo b own:Qn}{S R:Qm}(h:Shut y m ln f mo b S R)
 (ho:∀l,l<y.ls.length->own l=Q7 (fun k=>Zj S mo k*ind (ln k=l)) m) :
 ∀n l,y.ls.length<=l+n->l<y.ls.length->(R l=true->l=0\/∃a,Zh y l=some a/\R a=false)->passes y b own l<=Vc y m ln (Zj S f) l
 |0,l,h0,hl,_=>by omega
 |n+1,l,h0,hl,hU=>by
   cases r:R l with
   |true =>
     have e:Vc y m ln f l=b l:=by
      rcases hU r with z|⟨a,u,ra⟩
      ·subst z;exact h.top r
      ·exact h.out l a hl u r ra
     rw[<- h.alike ok hln (n+1) l h0 hl r,e];unfold passes;omega
   |false =>
     have h1:VX y b own l<=Vc y m ln (Zj S f) l:=by
      rw[G7 ok hln _ hl,SV ok b own hl];refine Int.add_le_add ?_ (Wh fun c hc=>?_)
      ·rw[ho l hl]
       refine Wh fun k hk=>?_
       by_cases e:ln k=l
       ·have:Zj S mo k=Zj S f k:=by
         unfold Zj;cases s:S k with
         |true=>simp;exact(h.full k hk s (by rw[e];exact r)).symm
         |false=>simp
        rw[this];exact Jf _
       ·simp[ind,e]
      ·by_cases u:Zh y c=some l
       ·rw[Xd u,Xd u]
        have:=JQ ok hc u
        exact Shut.all ok hln h ho n c (by omega) hc (fun _=>.inr ⟨l,u,r⟩)
       ·rw[Xb u,Xb u]
        exact Jf _
     unfold passes;omega
end Mir
namespace Mir
section
variable {ν:Type} [DecidableEq ν]
abbrev Lay (ν:Type):=List (ν×ν×Int)
abbrev QR (ν:Type):=ν->ν->Int
def YO (L:Lay ν):List ν:=L.flatMap fun x=>[x.2.1,x.1]
def Vq (L:Lay ν)(φ:QR ν):Ql:=L.flatMap fun x=>[x.2.2-φ x.1 x.2.1,φ x.1 x.2.1]
def Dis (L:Lay ν):Prop:=(L.map fun x=>(x.1,x.2.1)).Nodup
def V2 (φ:QR ν)(s e:ν)(a:Int):QR ν:=fun p q=>if p=s/\q=e then φ p q+a else φ p q
theorem MY {α β:Type}(f g:α->β):∀(L:List α) (e:Nat),(L.flatMap fun x=>[f x,g x])[e]?=L[e/2]?.map (if e%2=0 then f else g)
 |[],e=>by simp
 |x::L,0=>by simp
 |x::L,1=>by simp
 |x::L,e+2=>by
   have h:=MY f g L e;have e1:(e+2)/2=e/2+1:=by omega
   have e2:(e+2)%2=e%2:=by omega
   rw[e1,e2,Ma,UC];simpa using h
def hdE (L:Lay ν)(e:Nat):Option ν:=L[e/2]?.map fun x=>if e%2=0 then x.2.1 else x.1
def tlE (L:Lay ν)(e:Nat):Option ν:=L[e/2]?.map fun x=>if e%2=0 then x.1 else x.2.1
def rmE (L:Lay ν)(φ:QR ν)(e:Nat):Option Int:=L[e/2]?.map fun x=>if e%2=0 then x.2.2-φ x.1 x.2.1 else φ x.1 x.2.1
def DD (L:Lay ν)(e:Nat):(YO L)[e]?=hdE L e:=by
 unfold YO hdE;rw[MY];congr 1
 split<;>rfl
def Uw (L:Lay ν)(φ:QR ν)(e:Nat):(Vq L φ)[e]?=rmE L φ e:=by
 unfold Vq rmE;rw[MY];congr 1
 split<;>rfl
def Ze7 (e:Nat):Nat:=if e%2=0 then e+1 else e-1
def Az (L:Lay ν)(e:Nat):(YO L)[Ze7 e]?=tlE L e:=by
 rw[DD];unfold hdE tlE Ze7;by_cases h:e%2=0
 ·have h1:(e+1)/2=e/2:=by omega
  have h2:¬(e+1)%2=0:=by omega
  simp only[h,if_true,h1,h2,if_false]
 ·have h1:(e-1)/2=e/2:=by omega
  have h2:(e-1)%2=0:=by omega
  simp only[h,if_false,h1,h2,if_true]
def ZX (L:Lay ν)(F:ν->ν->Int):Int:=(L.map fun x=>F x.1 x.2.1).sum
def Vl (L:Lay ν)(φ:QR ν)(n:ν):Int:=ZX L fun s e=>φ s e*(ind (s=n)-ind (e=n))
def Ek {φ:QR ν}{s e:ν}{a:Int}{L:Lay ν}(h:(s,e)∉L.map fun x=>(x.1,x.2.1))(G:Int->ν->ν->Int) :
 ZX L (fun p q=>G (V2 φ s e a p q) p q)=ZX L fun p q=>G (φ p q) p q:=by
 unfold ZX;congr 1;refine U9 fun x hx=>?_
 have:¬(x.1=s/\x.2.1=e):=fun⟨z1,z2⟩=>h (XJ.mpr ⟨x,hx,by rw[z1,z2]⟩)
 unfold V2;dsimp only;rw[Xb this]
theorem SB {φ:QR ν}{a:Int}(G:Int->ν->ν->Int):∀{L:Lay ν},Dis L->∀{x:ν×ν×Int},x∈L ->
 ZX L (fun p q=>G (V2 φ x.1 x.2.1 a p q) p q)=ZX L (fun p q=>G (φ p q) p q)-G (φ x.1 x.2.1) x.1 x.2.1+G (φ x.1 x.2.1+a) x.1 x.2.1
 |[],_,_,h=>by cases h
 |y::L,hd,x,h=>by
   unfold Dis at hd;rw[Xu,XF]at hd;rcases Xe.mp h with rfl|h
   ·have:=Ek (φ:=φ) (a:=a) hd.1 G
    have e:V2 φ x.1 x.2.1 a x.1 x.2.1=φ x.1 x.2.1+a:=by unfold V2;rw[Xd ⟨rfl,rfl⟩]
    unfold ZX at this ⊢;rw[Xu,GE,Xu,GE,this];dsimp only;rw[e];omega
   ·have ih:=SB (φ:=φ) (a:=a) G (L:=L) hd.2 h
    have ne:¬(y.1=x.1/\y.2.1=x.2.1):=fun⟨z1,z2⟩=>hd.1 (XJ.mpr ⟨x,h,by rw[z1,z2]⟩);have e:V2 φ x.1 x.2.1 a y.1 y.2.1=φ y.1 y.2.1:=by unfold V2;rw[Xb ne]
    unfold ZX at ih ⊢;rw[Xu,GE,Xu,GE,ih];dsimp only;rw[e];omega
def V9 (L:Lay ν)(a:Int)(φ:QR ν)(e:Nat):QR ν :=
 match L[e/2]? with
 |some x=>V2 φ x.1 x.2.1 (if e%2=0 then a else -a)
 |none=>φ
def AD {L:Lay ν}(hd:Dis L){φ:QR ν}{a:Int}{e:Nat}{s t:ν}(ht:hdE L e=some t)(hs:tlE L e=some s)(n:ν) :
 Vl L (V9 L a φ e) n=Vl L φ n+a*(ind (s=n)-ind (t=n)):=by
 unfold hdE at ht;unfold tlE at hs;cases ex:L[e/2]? with
 |none=>rw[ex]at ht;cases ht
 |some x =>
   rw[ex]at ht hs;have hx:x∈L:=List.mem_of_getElem? ex;have hp:V9 L a φ e=V2 φ x.1 x.2.1 (if e%2=0 then a else -a):=by unfold V9;rw[ex]
   rw[hp];unfold Vl;rw[SB (fun v p q=>v*(ind (p=n)-ind (q=n))) hd hx];simp only[YJ,Option.some.injEq]at ht hs;by_cases z:e%2=0
   ·rw[Xd z]at ht hs ⊢
    subst ht hs;rw[Int.add_mul];omega
   ·rw[Xb z]at ht hs ⊢
    subst ht hs;rw[Int.add_mul,Int.neg_mul,UE a,UE a];omega
inductive Chain (L:Lay ν)(s:ν):ν->Qk->Prop
 |nil:Chain L s s []
 |cons {n m:ν} {e:Nat} {w:Qk} (h:hdE L e=some n) (t:tlE L e=some m) (c:Chain L s m w):Chain L s n (e::w)
def Y6 (L:Lay ν)(a:Int)(φ:QR ν)(w:Qk):QR ν:=w.foldl (V9 L a) φ
theorem DL {L:Lay ν}(hd:Dis L){s:ν}{a:Int}(p:ν):∀{w:Qk} {n:ν} {φ:QR ν},Chain L s n w->Vl L (Y6 L a φ w) p=Vl L φ p+a*(ind (s=p)-ind (n=p))
 |_,_,φ,.nil=>by
   show Vl L φ p=_;rw[Int.sub_self,Int.mul_zero,UF]
 |e::w,n,φ,.cons (m:=m) h t c=>by
   show Vl L (Y6 L a (V9 L a φ e) w) p=_;rw[DL hd p c,AD hd h t,UE,UE,UE];omega
def Within (L:Lay ν)(φ:QR ν):Prop := ∀x∈L,0<=φ x.1 x.2.1/\φ x.1 x.2.1<=x.2.2
def D1:∀{L:Lay ν},Dis L->∀{i j:Nat} {x y:ν×ν×Int},L[i]?=some x->L[j]?=some y->x.1=y.1->x.2.1=y.2.1->i=j:=fun{L} hd {i j x y} hi hj e1 e2=>by
 have a:(L.map fun x=>(x.1,x.2.1))[i]?=some (x.1,x.2.1):=by rw[Xt,hi];rfl
 have b:(L.map fun x=>(x.1,x.2.1))[j]?=some (x.1,x.2.1):=by rw[Xt,hj,e1,e2];rfl
 have li:i<(L.map fun x=>(x.1,x.2.1)).length:=(Xg.mp a).1
 exact(List.getElem?_inj li hd).mp (a.trans b.symm)
def Il {L:Lay ν}(hd:Dis L){φ:QR ν}(h:Within L φ){a:Int}(ha:0<=a){e:Nat}{r:Int}(he:rmE L φ e=some r)(hr:a<=r):Within L (V9 L a φ e):=by
 unfold rmE at he;cases ex:L[e/2]? with
 |none=>rw[ex]at he;cases he
 |some x =>
   rw[ex]at he;simp only[YJ,Option.some.injEq]at he;have hx:=h x (List.mem_of_getElem? ex);intro y hy;have hyv:=h y hy;have hp:V9 L a φ e=V2 φ x.1 x.2.1 (if e%2=0 then a else -a):=by unfold V9;rw[ex]
   rw[hp];unfold V2;by_cases z:y.1=x.1/\y.2.1=x.2.1
   ·rw[Xd z]
    obtain⟨j,hj⟩:=List.mem_iff_getElem?.mp hy;have ij:=D1 hd hj ex z.1 z.2;subst ij;rw[ex]at hj;cases hj
    by_cases q:e%2=0
    ·rw[Xd q]at he ⊢;omega
    ·rw[Xb q]at he ⊢;omega
   ·rw[Xb z];exact hyv
def E5 {L:Lay ν}(hd:Dis L){φ:QR ν}{a:Int}(ha:0<=a){e e':Nat}(ne:e'≠e){r:Int}(he:rmE L φ e'=some r):∃r',rmE L (V9 L a φ e) e'=some r'/\r<=r':=by
 unfold rmE at he ⊢;cases ey:L[e'/2]? with
 |none=>rw[ey]at he;cases he
 |some y =>
   rw[ey]at he;simp only[YJ,Option.some.injEq]at he ⊢;refine⟨_,rfl,?_⟩;unfold V9;cases ex:L[e/2]? with
   |none=>simp only[];omega
   |some x =>
     simp only[];unfold V2;by_cases z:y.1=x.1/\y.2.1=x.2.1
     ·rw[Xd z]
      have ij:=D1 hd ey ex z.1 z.2
      by_cases q:e%2=0
      ·have q':¬e'%2=0:=by omega
       rw[Xb q']at he ⊢;rw[Xd q];omega
      ·have q':e'%2=0:=by omega
       rw[Xd q']at he ⊢;rw[Xb q];omega
     ·rw[Xb z];omega
theorem SY {L:Lay ν}(hd:Dis L){a:Int}(ha:0<=a):∀{w:Qk} {φ:QR ν},Within L φ->w.Nodup->(∀e∈w,∃r,rmE L φ e=some r/\a<=r)->Within L (Y6 L a φ w)
 |[],_,h,_,_=>h
 |e::w,φ,h,hn,hw=>by
   obtain⟨h1,h2⟩:=XF.mp hn;obtain⟨r,er,lr⟩:=hw e Xa;show Within L (Y6 L a (V9 L a φ e) w);refine SY hd ha (Il hd h ha er lr) h2 fun e' he'=>?_;obtain⟨r',er',lr'⟩:=hw e' (Xf _ he');obtain⟨q,eq,lq⟩:=E5 hd ha (e:=e) (fun z=>h1 (z▸he')) er'
   exact⟨q,eq,by omega⟩
abbrev Got (ν:Type):=List (ν×Option Nat)
def QT (es:Got ν):List ν:=es.map (·.1)
inductive Tree (L:Lay ν)(φ:QR ν)(s:ν):Got ν->Prop
 |root:Tree L φ s [(s,none)]
 |add {es:Got ν} {e:Nat} {n m:ν} {r:Int} (t:Tree L φ s es) (hn:n∉QT es) (hh:hdE L e=some n) (ht:tlE L e=some m) (hm:m∈QT es) (hr:rmE L φ e=some r) (h0:0<r):Tree L φ s (es++[(n,some e)])
def WK (es:Got ν)(n:ν):Option (Option Nat):=es.lookup n
def IB {es:Got ν}{n:ν}:n∉QT es->es.lookup n=none:=by
 induction es with
 |nil=>intro _;rfl
 |cons p es ih =>
   intro h;have h1:n≠p.1:=fun z=>h (by rw[z];exact Xa);have h2:n∉QT es:=fun z=>h (Xf _ z);obtain⟨k,v⟩:=p;rw[XI];have:(n==k)=false:=by rw[beq_eq_false_iff_ne];exact h1
   rw[this];exact ih h2
def HW {es fs:Got ν}{n:ν}:(es++fs).lookup n=(es.lookup n).or (fs.lookup n):=by
 induction es with
 |nil=>rfl
 |cons p es ih =>
   obtain⟨k,v⟩:=p;rw[Jc,XI,XI];cases (n==k)
   ·exact ih
   ·rfl
inductive Back (L:Lay ν)(es:Got ν):ν->Qk->Prop
 |nil {n:ν} (h:WK es n=some none):Back L es n []
 |cons {n m:ν} {e:Nat} {w:Qk} (h:WK es n=some (some e)) (t:tlE L e=some m) (b:Back L es m w):Back L es n (e::w)
theorem Back.app {L:Lay ν}{es fs:Got ν}:∀{w:Qk} {n:ν},Back L es n w->Back L (es++fs) n w
 |_,_,.nil h=>.nil (by unfold WK at h ⊢;rw[HW,h];rfl)
 |_,_,.cons h t b=>.cons (by unfold WK at h ⊢;rw[HW,h];rfl) t b.app
structure WayOk (L:Lay ν)(φ:QR ν)(s:ν)(es:Got ν)(n:ν)(w:Qk):Prop where
 back:Back L es n w
 chain:Chain L s n w
 nodup:w.Nodup
 room:∀e∈w,∃r,rmE L φ e=some r/\0<r
 heads:∀e∈w,∃m,hdE L e=some m/\m∈QT es
theorem Tree.way {L:Lay ν}{φ:QR ν}{s:ν}:∀{es:Got ν},Tree L φ s es->∀n∈QT es,∃w,WayOk L φ s es n w
 |_,.root,n,hn=>by
   have e:n=s:=by simpa [QT] using hn
   subst e;exact⟨[],.nil (by simp[WK]),.nil,Jb,(fun e h=>nomatch h),(fun e h=>nomatch h)⟩
 |_,.add (es:=es) (e:=e) (n:=k) (m:=m) t hk hh ht hm hr h0,n,hn=>by
   have hn':n∈QT es\/n=k:=by simpa [QT] using hn
   have sub:∀p,p∈QT es->p∈QT (es++[(k,some e)]):=fun p hp=>by
    unfold QT at hp ⊢;rw[Xy];exact UB _ hp
   rcases hn' with hn'|rfl
   ·obtain⟨w,q⟩:=t.way n hn'
    exact⟨w,q.back.app,q.chain,q.nodup,q.room,fun e' he'=>let ⟨m',a,b⟩:=q.heads e' he';⟨m',a,sub _ b⟩⟩
   ·obtain⟨w,q⟩:=t.way m hm
    refine⟨e::w,.cons ?_ ht q.back.app,.cons hh ht q.chain,XF.mpr ⟨fun z=>?_,q.nodup⟩,fun e' he'=>?_,fun e' he'=>?_⟩
    ·unfold WK
     rw[HW,IB hk];simp
    ·obtain⟨m',a,b⟩:=q.heads e z
     rw[hh]at a;cases a;exact hk b
    ·rcases Xe.mp he' with rfl|he'
     ·exact⟨_,hr,h0⟩
     ·exact q.room e' he'
    ·rcases Xe.mp he' with rfl|he'
     ·exact⟨n,hh,by simp[QT]⟩
     ·obtain⟨m',a,b⟩:=q.heads e' he'
      exact⟨m',a,sub _ b⟩
theorem Tree.nodup {L:Lay ν}{φ:QR ν}{s:ν}:∀{es:Got ν},Tree L φ s es->(QT es).Nodup
 |_,.root=>by simp[QT]
 |_,.add (n:=k) t hk _ _ _ _ _=>by
   have:=t.nodup
   unfold QT at this hk ⊢;rw[Xy,U7];refine⟨this,by simp,fun a ha b hb=>?_⟩;have e:b=k:=by simpa using hb
   exact fun z=>hk (e▸z▸ha)
theorem Tree.start {L:Lay ν}{φ:QR ν}{s:ν}:∀{es:Got ν},Tree L φ s es->s∈QT es
 |_,.root=>by simp[QT]
 |_,.add t _ _ _ _ _ _=>by
   have:=t.start
   unfold QT at this ⊢;rw[Xy];exact UB _ this
theorem Tree.sub {L:Lay ν}{φ:QR ν}{s:ν}:∀{es:Got ν},Tree L φ s es->∀n∈QT es,n∈s::YO L
 |_,.root,n,hn=>by
   have e:n=s:=by simpa [QT] using hn
   rw[e];exact Xa
 |_,.add (es:=es) (n:=k) t hk hh _ _ _ _,n,hn=>by
   have hn':n∈QT es\/n=k:=by simpa [QT] using hn
   rcases hn' with hn'|rfl
   ·exact t.sub n hn'
   ·exact Xf _ (List.mem_of_getElem? ((DD L _).trans hh))
theorem Hi {α:Type} [DecidableEq α]:∀{xs ys:List α},xs.Nodup->(∀x∈xs,x∈ys)->xs.length<=ys.length
 |[],_,_,_=>XN _
 |x::xs,ys,hd,h=>by
   obtain⟨h1,h2⟩:=XF.mp hd;have hx:=h x Xa
   have:=Hi (xs:=xs) (ys:=ys.erase x) h2 fun z hz=>by
    have ne:z≠x:=fun q=>h1 (q▸hz)
    exact(List.mem_erase_of_ne ne).mpr (h z (Xf _ hz))
   rw[List.length_erase_of_mem hx]at this;have:0<ys.length:=List.length_pos_of_mem hx;rw[Oq];omega
def Tree.len {L:Lay ν}{φ:QR ν}{s:ν}{es:Got ν}(t:Tree L φ s es):es.length<=(YO L).length+1:=by
 have:=Hi t.nodup t.sub
 simpa [QT] using this
def VC (L:Lay ν)(φ:QR ν)(es:Got ν):Prop := ∀e m n r,tlE L e=some m->hdE L e=some n->rmE L φ e=some r->0<r->m∈QT es->n∈QT es
end
end Mir
namespace Mir
inductive Nd where
 |start|fin
 |guest (k:Nat)
 |line (l t:Nat)
deriving DecidableEq
structure Gv where
 m:Nat
 ln:Nat->Nat
 wa:Qn
 mo:Qn
 th:Nat->Qm
def upN (y:Yd)(l:Nat):Nat:=(Zh y l).getD 0
def ZU (y:Yd)(G:Gv)(k:Nat):Lay Nd:=(.start,.guest k,G.wa k)::(List.range y.T).flatMap fun t=>if G.th k t=true then [(.guest k,.line (G.ln k) t,G.mo k)] else []
def Vu (y:Yd)(t:Nat):Lay Nd:=(.line 0 t,.fin,Z9 y 0 t)::(List.range (y.ls.length-1)).flatMap fun i=>[(.line (i+1) t,.line (upN y (i+1)) t,Z9 y (i+1) t)]
def Zd (y:Yd)(G:Gv):Lay Nd:=(List.range G.m).flatMap (ZU y G)++(List.range y.T).flatMap (Vu y)
def Sl (A B:Lay Nd)(F:Nd->Nd->Int):ZX (A++B) F=ZX A F+ZX B F:=by
 unfold ZX;rw[Xy,List.sum_append]
theorem G4 (f:Nat->Lay Nd)(F:Nd->Nd->Int):∀n,ZX ((List.range n).flatMap f) F=Q7 (fun k=>ZX (f k) F) n
 |0=>rfl
 |n+1=>by
   rw[YK,JB,Sl,G4 f F n];simp[Q7]
def RX (x:Nd×Nd×Int)(F:Nd->Nd->Int):ZX [x] F=F x.1 x.2.1:=by simp[ZX]
def Su (x:Nd×Nd×Int)(L:Lay Nd)(F:Nd->Nd->Int):ZX (x::L) F=F x.1 x.2.1+ZX L F:=by simp[ZX]
def AJ (y:Yd)(G:Gv)(F:Nd->Nd->Int)(k:Nat):ZX (ZU y G k) F=F .start (.guest k)+Q7 (fun t=>if G.th k t=true then F (.guest k) (.line (G.ln k) t) else 0) y.T:=by
 unfold ZU;rw[Su,G4];congr 1;refine Zq fun t _=>?_
 split
 ·rw[RX]
 ·rfl
def A4 (y:Yd)(F:Nd->Nd->Int)(t:Nat):ZX (Vu y t) F=F (.line 0 t) .fin+Q7 (fun i=>F (.line (i+1) t) (.line (upN y (i+1)) t)) (y.ls.length-1):=by
 unfold Vu;rw[Su,G4];congr 1;refine Zq fun t _=>?_;rw[RX]
def Hg (y:Yd)(G:Gv)(F:Nd->Nd->Int):ZX (Zd y G) F =
 Q7 (fun k=>F .start (.guest k)+Q7 (fun t=>if G.th k t=true then F (.guest k) (.line (G.ln k) t) else 0) y.T) G.m +
 Q7 (fun t=>F (.line 0 t) .fin+Q7 (fun i=>F (.line (i+1) t) (.line (upN y (i+1)) t)) (y.ls.length-1)) y.T:=by
 unfold Zd;rw[Sl,G4,G4];congr 1
 ·exact Zq fun k _=>AJ y G F k
 ·exact Zq fun t _=>A4 y F t
def YG {y:Yd}{G:Gv}{x:Nd×Nd×Int}{k:Nat}:x∈ZU y G k↔x=(.start,.guest k,G.wa k)\/∃t,t<y.T/\G.th k t=true/\x=(.guest k,.line (G.ln k) t,G.mo k):=by
 unfold ZU;rw[Xe,YL];refine or_congr Iff.rfl ⟨fun⟨t,ht,hx⟩=>?_,fun⟨t,ht,hc,hx⟩=>⟨t,XU.mpr ht,by rw[Xd hc];exact Xh.mpr hx⟩⟩
 by_cases c:G.th k t=true
 ·rw[Xd c]at hx
  exact⟨t,XU.mp ht,c,Xh.mp hx⟩
 ·rw[Xb c]at hx;cases hx
def W1 {y:Yd}{x:Nd×Nd×Int}{t:Nat}:x∈Vu y t↔x=(.line 0 t,.fin,Z9 y 0 t)\/∃i,i<y.ls.length-1/\x=(.line (i+1) t,.line (upN y (i+1)) t,Z9 y (i+1) t):=by
 unfold Vu;rw[Xe,YL];exact or_congr Iff.rfl ⟨fun⟨i,hi,hx⟩=>⟨i,XU.mp hi,Xh.mp hx⟩,fun⟨i,hi,hx⟩=>⟨i,XU.mpr hi,Xh.mpr hx⟩⟩
def Ux {y:Yd}{G:Gv}{x:Nd×Nd×Int}:x∈Zd y G↔(∃k,k<G.m/\x∈ZU y G k)\/∃t,t<y.T/\x∈Vu y t:=by
 unfold Zd;rw[XG,YL,YL];simp only[XU]
def BC (n:Nat):(List.range n).Pairwise (· ≠ ·):=List.nodup_range
def B1 (y:Yd)(G:Gv):Dis (Zd y G):=by
 unfold Dis List.Nodup;rw[List.pairwise_map];unfold Zd;rw[List.pairwise_append];refine⟨?_,?_,?_⟩
 ·rw[Md]
  refine⟨fun k _=>?_,(BC _).imp fun{k j} hkj x hx z hz=>?_⟩
  ·unfold ZU
   rw[List.pairwise_cons];refine⟨fun x hx=>?_,?_⟩
   ·obtain⟨t,_,hx⟩:=YL.mp hx
    split at hx
    ·rw[Xh.mp hx];intro q;cases q
    ·cases hx
   ·rw[Md]
    refine⟨fun t _=>?_,(BC _).imp fun{t u} htu x hx z hz=>?_⟩
    ·split
     ·exact List.pairwise_singleton _ _
     ·exact List.Pairwise.nil
    ·split at hx
     ·split at hz
      ·rw[Xh.mp hx,Xh.mp hz]
       intro q;simp at q;exact htu q
      ·cases hz
     ·cases hx
  ·rcases YG.mp hx with rfl|⟨t,_,_,rfl⟩<;>rcases YG.mp hz with rfl|⟨u,_,_,rfl⟩<;>intro q<;>simp at q
   ·exact hkj q
   ·exact hkj q.1
 ·rw[Md]
  refine⟨fun t _=>?_,(BC _).imp fun{t u} htu x hx z hz=>?_⟩
  ·unfold Vu
   rw[List.pairwise_cons];refine⟨fun x hx=>?_,?_⟩
   ·obtain⟨i,_,hx⟩:=YL.mp hx
    rw[Xh.mp hx];intro q;cases q
   ·rw[Md]
    refine⟨fun t _=>List.pairwise_singleton _ _,(BC _).imp fun{i j} hij x hx z hz=>?_⟩;rw[Xh.mp hx,Xh.mp hz];intro q;simp at q;exact hij q.1
  ·rcases W1.mp hx with rfl|⟨i,_,rfl⟩<;>rcases W1.mp hz with rfl|⟨j,_,rfl⟩<;>intro q<;>simp at q
   ·exact htu q
   ·exact htu q.1.2
 ·intro x hx z hz
  obtain⟨k,_,hx⟩:=YL.mp hx;obtain⟨t,_,hz⟩:=YL.mp hz
  rcases YG.mp hx with rfl|⟨t',_,_,rfl⟩<;>rcases W1.mp hz with rfl|⟨j,_,rfl⟩<;>intro q<;>simp at q
end Mir
namespace Mir
def Zb (G:Gv)(φ:QR Nd)(t k:Nat):Int:=if G.th k t=true then φ (.guest k) (.line (G.ln k) t) else 0
def upF (y:Yd)(φ:QR Nd)(t l:Nat):Int:=if l=0 then φ (.line 0 t) .fin else φ (.line l t) (.line (upN y l) t)
theorem He (f:Qn):∀n,Q7 f (n+1)=f 0+Q7 (fun i=>f (i+1)) n
 |0=>by simp[Q7]
 |n+1=>by
   show Q7 f (n+1)+f (n+1)=_;rw[He f n];simp[Q7];omega
def ZO {p:Prop} [Decidable p] (h:¬p):ind p=0:=Xb h
def Bs {p q:Prop} [Decidable p] [Decidable q] (h:p↔q):ind p=ind q:=by unfold ind;simp only[h]
def El (y:Yd)(G:Gv)(φ:QR Nd){k0:Nat}(hk:k0<G.m):Vl (Zd y G) φ (.guest k0)=Q7 (fun t=>Zb G φ t k0) y.T-φ .start (.guest k0):=by
 unfold Vl;rw[Hg];have h2:Q7 (fun t=>φ (.line 0 t) .fin*(ind (Nd.line 0 t=.guest k0)-ind (Nd.fin=.guest k0))+Q7 (fun i=>φ (.line (i+1) t) (.line (upN y (i+1)) t)*(ind (Nd.line (i+1) t=.guest k0)-ind (Nd.line (upN y (i+1)) t=.guest k0))) (y.ls.length-1)) y.T=0:=by
  rw[Zq (g:=fun _=>0) fun t _=>?_,VE];rw[ZO (fun z=>nomatch z),ZO (fun z=>nomatch z),Zq (g:=fun _=>0) fun i _=>?_,VE]
  ·simp
  ·rw[ZO (fun z=>nomatch z),ZO (fun z=>nomatch z)];simp
 rw[h2,UF];rw[Zq (g:=fun k=>if k=k0 then Q7 (fun t=>Zb G φ t k0) y.T-φ .start (.guest k0) else 0) fun k _=>?_,Ui,Xd hk];rw[ZO (p:=Nd.start=.guest k0) (fun z=>nomatch z)]
 by_cases e:k=k0
 ·subst e
  rw[Xd rfl];have:Q7 (fun t=>if G.th k t=true then φ (.guest k) (.line (G.ln k) t)*(ind (Nd.guest k=.guest k)-ind (Nd.line (G.ln k) t=.guest k)) else 0) y.T=Q7 (fun t=>Zb G φ t k) y.T:=by
   refine Zq fun t _=>?_;unfold Zb;split
   ·rw[ZO (p:=Nd.line (G.ln k) t=.guest k) (fun z=>nomatch z)]
    simp[ind]
   ·rfl
  rw[this];simp[ind];omega
 ·have ne:¬Nd.guest k=.guest k0:=fun z=>e (by injection z)
  rw[Xb e,ZO ne,Zq (g:=fun _=>0) fun t _=>?_,VE]
  ·simp
  ·rw[ZO (p:=Nd.line (G.ln k) t=.guest k0) (fun z=>nomatch z)]
   simp
def DN {y:Yd}(ok:y.Ok){c l:Nat}(h0:0<c)(hc:c<y.ls.length):upN y c=l↔Zh y c=some l:=by
 obtain⟨a,ea,_⟩:=ok.ups c h0 hc;unfold upN;rw[ea];simp
def A7 {y:Yd}(ok:y.Ok)(G:Gv)(φ:QR Nd){l t0:Nat}(hl:l<y.ls.length)(ht:t0<y.T):Vl (Zd y G) φ (.line l t0) =
 upF y φ t0 l-Q7 (fun k=>Zb G φ t0 k*ind (G.ln k=l)) G.m-Q7 (fun c=>if Zh y c=some l then upF y φ t0 c else 0) y.ls.length:=by
 unfold Vl;rw[Hg];have h1:Q7 (fun k=>φ .start (.guest k)*(ind (Nd.start=.line l t0)-ind (Nd.guest k=.line l t0))+Q7 (fun t=>if G.th k t=true then φ (.guest k) (.line (G.ln k) t)*(ind (Nd.guest k=.line l t0)-ind (Nd.line (G.ln k) t=.line l t0)) else 0) y.T) G.m = - Q7 (fun k=>Zb G φ t0 k*ind (G.ln k=l)) G.m:=by
  rw[show-Q7 (fun k=>Zb G φ t0 k*ind (G.ln k=l)) G.m=(-1)*Q7 (fun k=>Zb G φ t0 k*ind (G.ln k=l)) G.m by omega,<- Bx];refine Zq fun k _=>?_;rw[ZO (p:=Nd.start=.line l t0) (fun z=>nomatch z),ZO (p:=Nd.guest k=.line l t0) (fun z=>nomatch z)];rw[Zq (g:=fun t=>if t=t0 then-(Zb G φ t0 k*ind (G.ln k=l)) else 0) fun t _=>?_,Ui,Xd ht]
  ·simp
  ·by_cases e:t=t0
   ·subst e
    rw[Xd rfl,Bs (p:=Nd.line (G.ln k) t=.line l t) (q:=G.ln k=l) (by simp)];unfold Zb;split
    ·rw[Int.zero_sub,Int.mul_neg]
    ·simp
   ·rw[Xb e,ZO (p:=Nd.line (G.ln k) t=.line l t0) (fun z=>e (by injection z))]
    simp
 rw[h1];have h2:Q7 (fun t=>φ (.line 0 t) .fin*(ind (Nd.line 0 t=.line l t0)-ind (Nd.fin=.line l t0))+Q7 (fun i=>φ (.line (i+1) t) (.line (upN y (i+1)) t)*(ind (Nd.line (i+1) t=.line l t0)-ind (Nd.line (upN y (i+1)) t=.line l t0))) (y.ls.length-1)) y.T
  = upF y φ t0 l-Q7 (fun c=>if Zh y c=some l then upF y φ t0 c else 0) y.ls.length:=by
  rw[Zq (g:=fun t=>if t=t0 then upF y φ t0 l-Q7 (fun c=>if Zh y c=some l then upF y φ t0 c else 0) y.ls.length else 0) fun t _=>?_,Ui,Xd ht];rw[ZO (p:=Nd.fin=.line l t0) (fun z=>nomatch z)]
  by_cases e:t=t0
  ·subst e
   rw[Xd rfl,Bs (p:=Nd.line 0 t=.line l t) (q:=0=l) (by simp)];have hn:y.ls.length=(y.ls.length-1)+1:=by omega
   have e1:upF y φ t l=Q7 (fun c=>if c=l then upF y φ t l else 0) y.ls.length:=by rw[Ui,Xd hl]
   have e2:∀c,c<y.ls.length->(if c=l then upF y φ t l else 0)=upF y φ t c*ind (c=l):=fun c _=>by
    by_cases q:c=l
    ·subst q;simp[ind]
    ·simp[ind,q]
   rw[e1,Zq e2,hn,He,He];have u0:¬Zh y 0=some l:=fun z=>by rw[ok.up0]at z;cases z
   have f0:upF y φ t 0=φ (.line 0 t) .fin:=by unfold upF;rw[Xd rfl]
   rw[Xb u0,f0,<- hn];have e3:Q7 (fun i=>φ (.line (i+1) t) (.line (upN y (i+1)) t)*(ind (Nd.line (i+1) t=.line l t)-ind (Nd.line (upN y (i+1)) t=.line l t))) (y.ls.length-1)
    = Q7 (fun i=>upF y φ t (i+1)*ind (i+1=l)) (y.ls.length-1)+Q7 (fun i => -1*(if Zh y (i+1)=some l then upF y φ t (i+1) else 0)) (y.ls.length-1):=by
    rw[<- G2];refine Zq fun i hi=>?_;rw[Bs (p:=Nd.line (i+1) t=.line l t) (q:=i+1=l) (by simp),Bs (p:=Nd.line (upN y (i+1)) t=.line l t) (q:=Zh y (i+1)=some l) (by rw[<- DN ok (by omega) (by omega)];simp)]
    have:upF y φ t (i+1)=φ (.line (i+1) t) (.line (upN y (i+1)) t):=by unfold upF;rw[Xb (by omega)]
    rw[this,UE];by_cases q:Zh y (i+1)=some l
    ·rw[Xd q];simp[ind,q];omega
    ·rw[Xb q];simp[ind,q]
   rw[e3,Bx];simp only[Int.sub_zero];omega
  ·rw[Xb e,ZO (p:=Nd.line 0 t=.line l t0) (fun z=>e (by injection z)),Zq (g:=fun _=>0) fun i _=>?_,VE]
   ·simp
   ·rw[ZO (p:=Nd.line (i+1) t=.line l t0) (fun z=>e (by injection z)),ZO (p:=Nd.line (upN y (i+1)) t=.line l t0) (fun z=>e (by injection z))]
    simp
 rw[h2];omega
end Mir
namespace Mir
section
variable {ν:Type} [DecidableEq ν]
def VC.fwd {L:Lay ν}{φ:QR ν}(hw:Within L φ){es:Got ν}(hc:VC L φ es){x:ν×ν×Int}(hx:x∈L)(h1:x.1∈QT es)(h2:x.2.1∉QT es):φ x.1 x.2.1=x.2.2:=by
 obtain⟨i,hi⟩:=List.mem_iff_getElem?.mp hx;have e:(2*i)/2=i:=by omega
 have e2:(2*i)%2=0:=by omega
 by_cases z:φ x.1 x.2.1=x.2.2
 ·exact z
 ·have:=hw x hx
  exact Xl (hc (2*i) x.1 x.2.1 (x.2.2-φ x.1 x.2.1) (by unfold tlE;rw[e,hi,e2];rfl) (by unfold hdE;rw[e,hi,e2];rfl) (by unfold rmE;rw[e,hi,e2];rfl) (by omega) h1) h2
def VC.bwd {L:Lay ν}{φ:QR ν}(hw:Within L φ){es:Got ν}(hc:VC L φ es){x:ν×ν×Int}(hx:x∈L)(h1:x.1∉QT es)(h2:x.2.1∈QT es):φ x.1 x.2.1=0:=by
 obtain⟨i,hi⟩:=List.mem_iff_getElem?.mp hx;have e:(2*i+1)/2=i:=by omega
 have e2:¬(2*i+1)%2=0:=by omega
 by_cases z:φ x.1 x.2.1=0
 ·exact z
 ·have:=hw x hx
  exact Xl (hc (2*i+1) x.2.1 x.1 (φ x.1 x.2.1) (by unfold tlE;rw[e,hi];simp[e2]) (by unfold hdE;rw[e,hi];simp[e2]) (by unfold rmE;rw[e,hi];simp[e2]) (by omega) h2) h1
end
structure Flow (y:Yd)(G:Gv)(φ:QR Nd):Prop where
 wi:Within (Zd y G) φ
 kp:∀n,n≠.start->n≠.fin->Vl (Zd y G) φ n=0
def R7 {y:Yd}{G:Gv}{k:Nat}(hk:k<G.m):((.start,.guest k,G.wa k):Nd×Nd×Int)∈Zd y G:=Ux.mpr (.inl ⟨k,hk,YG.mpr (.inl rfl)⟩)
def Bt {y:Yd}{G:Gv}{k t:Nat}(hk:k<G.m)(ht:t<y.T)(h:G.th k t=true):((.guest k,.line (G.ln k) t,G.mo k):Nd×Nd×Int)∈Zd y G:=Ux.mpr (.inl ⟨k,hk,YG.mpr (.inr ⟨t,ht,h,rfl⟩)⟩)
def N0 {y:Yd}{G:Gv}{t:Nat}(ht:t<y.T):((.line 0 t,.fin,Z9 y 0 t):Nd×Nd×Int)∈Zd y G:=Ux.mpr (.inr ⟨t,ht,W1.mpr (.inl rfl)⟩)
def MC {y:Yd}{G:Gv}{t l:Nat}(ht:t<y.T)(h0:0<l)(hl:l<y.ls.length):((.line l t,.line (upN y l) t,Z9 y l t):Nd×Nd×Int)∈Zd y G :=
 Ux.mpr (.inr ⟨t,ht,W1.mpr (.inr ⟨l-1,by omega,by rw[show l-1+1=l by omega]⟩)⟩)
def moT (G:Gv)(t k:Nat):Int:=if G.th k t=true then G.mo k else 0
section
variable {y:Yd}{G:Gv}{φ:QR Nd}(F:Flow y G φ)
include F
theorem Flow.tak {k t:Nat}(hk:k<G.m)(ht:t<y.T):0<=Zb G φ t k/\Zb G φ t k<=moT G t k:=by
 unfold Zb moT;by_cases c:G.th k t=true
 ·rw[Xd c,Xd c]
  exact F.wi _ (Bt hk ht c)
 ·rw[Xb c,Xb c]
  omega
theorem Flow.total {k:Nat}(hk:k<G.m):Q7 (fun t=>Zb G φ t k) y.T=φ .start (.guest k):=by
 have:=F.kp (.guest k) (fun z=>nomatch z) (fun z=>nomatch z)
 rw[El y G φ hk]at this;omega
theorem Flow.want {k:Nat}(hk:k<G.m):0<=φ .start (.guest k)/\φ .start (.guest k)<=G.wa k:=F.wi _ (R7 hk)
theorem Flow.up (ok:y.Ok)(hln:∀k,k<G.m->G.ln k<y.ls.length){t:Nat}(ht:t<y.T):∀n l,y.ls.length<=l+n->l<y.ls.length->upF y φ t l=Vc y G.m G.ln (Zb G φ t) l
 |0,l,h,hl=>by omega
 |n+1,l,h,hl=>by
   have z:=F.kp (.line l t) (fun z=>nomatch z) (fun z=>nomatch z)
   rw[A7 ok G φ hl ht]at z;have e:Q7 (fun c=>if Zh y c=some l then upF y φ t c else 0) y.ls.length=Q7 (fun c=>if Zh y c=some l then Vc y G.m G.ln (Zb G φ t) c else 0) y.ls.length:=by
    refine Zq fun c hc=>?_
    by_cases u:Zh y c=some l
    ·rw[Xd u,Xd u]
     have:=JQ ok hc u
     exact Flow.up ok hln ht n c (by omega) hc
    ·rw[Xb u,Xb u]
   rw[G7 ok hln _ hl,<- e];omega
theorem Flow.up_ok (ok:y.Ok){t l:Nat}(ht:t<y.T)(hl:l<y.ls.length):0<=upF y φ t l/\upF y φ t l<=Z9 y l t:=by
 unfold upF;by_cases z:l=0
 ·subst z
  rw[Xd rfl];exact F.wi _ (N0 ht)
 ·rw[Xb z]
  exact F.wi _ (MC ht (by omega) hl)
theorem Flow.load (ok:y.Ok)(hln:∀k,k<G.m->G.ln k<y.ls.length){t l:Nat}(ht:t<y.T)(hl:l<y.ls.length):Vc y G.m G.ln (Zb G φ t) l<=Z9 y l t:=by
 rw[<- F.up ok hln ht y.ls.length l (by omega) hl];exact(F.up_ok ok ht hl).2
def Vo (es:Got Nd)(k:Nat):Bool:=decide (Nd.guest k∈QT es)
def PQ (es:Got Nd)(t l:Nat):Bool:=decide (Nd.line l t∈QT es)
omit F in
theorem not_of {p:Prop} [Decidable p] (h:decide p=false):¬p:=GI h
theorem Flow.shut (ok:y.Ok)(hln:∀k,k<G.m->G.ln k<y.ls.length){es:Got Nd}(hc:VC (Zd y G) φ es)(hf:Nd.fin∉QT es){t:Nat}(ht:t<y.T) :
 Shut y G.m G.ln (Zb G φ t) (moT G t) (fun l=>Z9 y l t) (Vo es) (PQ es t) where
 nn k hk:=(F.tak hk ht).1
 full k hk hS hR:=by
  unfold Zb moT;by_cases c:G.th k t=true
  ·rw[Xd c,Xd c]
   exact hc.fwd F.wi (Bt hk ht c) (X7 hS) (not_of hR)
  ·rw[Xb c,Xb c]
 none k hk hS hR:=by
  unfold Zb;by_cases c:G.th k t=true
  ·rw[Xd c]
   exact hc.bwd F.wi (Bt hk ht c) (not_of hS) (X7 hR)
  ·rw[Xb c]
 top hR:=by
  have h0:=ok.l1;rw[<- F.up ok hln ht y.ls.length 0 (by omega) (by omega)];unfold upF;rw[Xd rfl];exact hc.fwd F.wi (N0 ht) (X7 hR) hf
 out c a hcl u h1 h2:=by
  have c0:c≠0:=fun z=>by subst z;rw[ok.up0]at u;cases u
  have ea:upN y c=a:=(DN ok (by omega) hcl).mpr u;rw[<- F.up ok hln ht y.ls.length c (by omega) hcl];unfold upF;rw[Xb c0];exact hc.fwd F.wi (MC ht (by omega) hcl) (X7 h1) (by rw[ea];exact not_of h2)
 inn c a hcl u h1 h2:=by
  have c0:c≠0:=fun z=>by subst z;rw[ok.up0]at u;cases u
  have ea:upN y c=a:=(DN ok (by omega) hcl).mpr u;rw[<- F.up ok hln ht y.ls.length c (by omega) hcl];unfold upF;rw[Xb c0];exact hc.bwd F.wi (MC ht (by omega) hcl) (not_of h1) (by rw[ea];exact X7 h2)
theorem Flow.filled {es:Got Nd}(hc:VC (Zd y G) φ es)(hs:Nd.start∈QT es){k:Nat}(hk:k<G.m)(hS:Vo es k=false):Q7 (fun t=>Zb G φ t k) y.T=G.wa k:=by
 rw[F.total hk];exact hc.fwd F.wi (R7 hk) hs (not_of hS)
def Wp (G:Gv)(S:Qm)(t l:Nat):Int:=Q7 (fun k=>Zj S (moT G t) k*ind (G.ln k=l)) G.m
omit F in
theorem Rw {y:Yd}(ok:y.Ok):∀n j,j<n->j<y.ls.length->0∈upL y j
 |0,j,h,_=>by omega
 |n+1,j,h,hj=>by
   by_cases z:j=0
   ·subst z;exact DY y 0
   ·obtain⟨a,ea,la⟩:=ok.ups j (by omega) hj
    exact(MN ok (by omega) hj ea 0 (fun q=>z q.symm)).mpr (Rw ok n a (by omega) (by omega))
omit F in
theorem RU {y:Yd}(ok:y.Ok){m:Nat}{ln:Nat->Nat}(hln:∀k,k<m->ln k<y.ls.length)(f:Qn):Vc y m ln f 0=Q7 f m :=
 Zq fun k hk=>by
  unfold ind;rw[Xd (Rw ok _ _ (WA _) (hln k hk)),Int.mul_one]
theorem Flow.no_more (ok:y.Ok)(hln:∀k,k<G.m->G.ln k<y.ls.length)(S:Qm){t:Nat}(ht:t<y.T):Q7 (Zj S (Zb G φ t)) G.m<=passes y (fun l=>Z9 y l t) (Wp G S t) 0:=by
 have l1:=ok.l1;rw[<- RU ok hln];refine Mir.no_more ok hln (fun l hl=>?_) (fun l hl=>?_) y.ls.length 0 (by omega) (by omega)
 ·refine Wh fun k hk=>?_
  have q:=F.tak hk ht
  by_cases e:G.ln k=l
  ·unfold Zj ind
   rw[Xd e];split<;>omega
  ·rw[ZO e];omega
 ·have q:=F.load ok hln ht hl
  have q2:=Rl (y:=y) (ln:=G.ln) (f:=Zj S (Zb G φ t)) (g:=Zb G φ t) (fun k hk=>DK (F.tak hk ht).1) l;omega
theorem Flow.meet (ok:y.Ok)(hln:∀k,k<G.m->G.ln k<y.ls.length){es:Got Nd}(hc:VC (Zd y G) φ es)(hf:Nd.fin∉QT es){t:Nat}(ht:t<y.T) :
 passes y (fun l=>Z9 y l t) (Wp G (Vo es) t) 0=Q7 (Zj (Vo es) (Zb G φ t)) G.m:=by
 have l1:=ok.l1;have a:=F.no_more ok hln (Vo es) ht;have b:=(F.shut ok hln hc hf ht).all ok hln (own:=Wp G (Vo es) t) (fun l hl=>rfl) y.ls.length 0 (by omega) (by omega) (fun _=>.inl rfl);rw[RU ok hln]at b;omega
omit F in
theorem DU (f g:Qn):∀n,Q7 (fun k=>f k-g k) n=Q7 f n-Q7 g n
 |0=>rfl
 |n+1=>by
   simp only[Q7];rw[DU f g n];omega
theorem Flow.lack (ok:y.Ok)(hln:∀k,k<G.m->G.ln k<y.ls.length){es:Got Nd}(hc:VC (Zd y G) φ es)(hs:Nd.start∈QT es)(hf:Nd.fin∉QT es) :
 Q7 (fun k=>G.wa k-Q7 (fun t=>Zb G φ t k) y.T) G.m=Q7 (Zj (Vo es) G.wa) G.m-Q7 (fun t=>passes y (fun l=>Z9 y l t) (Wp G (Vo es) t) 0) y.T:=by
 rw[Zq (n:=y.T) fun t ht=>F.meet ok hln hc hf ht,BG,<- DU];refine Zq fun k hk=>?_
 cases s:Vo es k with
 |true =>
   have:Q7 (fun t=>Zj (Vo es) (Zb G φ t) k) y.T=Q7 (fun t=>Zb G φ t k) y.T:=Zq fun t _=>by unfold Zj;rw[Xd s]
   rw[this];unfold Zj;rw[Xd s]
 |false =>
   have:Q7 (fun t=>Zj (Vo es) (Zb G φ t) k) y.T=0:=by
    rw[Zq (g:=fun _=>0) fun t _=>?_,VE];unfold Zj;rw[Xb (by rw[s];decide)]
   rw[this,F.filled hc hs hk s];unfold Zj;rw[Xb (by rw[s];decide)];omega
omit F in
theorem EQ (y:Yd)(G:Gv)(φ:QR Nd):Vl (Zd y G) φ .start=Q7 (fun k=>φ .start (.guest k)) G.m:=by
 unfold Vl;rw[Hg];have h2:Q7 (fun t=>φ (.line 0 t) .fin*(ind (Nd.line 0 t=.start)-ind (Nd.fin=.start))+Q7 (fun i=>φ (.line (i+1) t) (.line (upN y (i+1)) t)*(ind (Nd.line (i+1) t=.start)-ind (Nd.line (upN y (i+1)) t=.start))) (y.ls.length-1)) y.T=0:=by
  rw[Zq (g:=fun _=>0) fun t _=>?_,VE];rw[ZO (fun z=>nomatch z),ZO (fun z=>nomatch z),Zq (g:=fun _=>0) fun i _=>?_,VE]
  ·simp
  ·rw[ZO (fun z=>nomatch z),ZO (fun z=>nomatch z)];simp
 rw[h2,UF];refine Zq fun k _=>?_;rw[ZO (p:=Nd.guest k=.start) (fun z=>nomatch z),Zq (g:=fun _=>0) fun t _=>?_,VE]
 ·simp[ind]
 ·rw[ZO (p:=Nd.line (G.ln k) t=.start) (fun z=>nomatch z)];simp
theorem Flow.push {a:Int}(ha:0<=a){w:Qk}(hw:Chain (Zd y G) .start .fin w)(hn:w.Nodup)(hr:∀e∈w,∃r,rmE (Zd y G) φ e=some r/\a<=r) :
 Flow y G (Y6 (Zd y G) a φ w)/\Vl (Zd y G) (Y6 (Zd y G) a φ w) .start=Vl (Zd y G) φ .start+a:=by
 refine⟨⟨SY (B1 y G) ha F.wi hn hr,fun n h1 h2=>?_⟩,?_⟩
 ·rw[DL (B1 y G) n hw,F.kp n h1 h2,ZO (fun z=>h1 z.symm),ZO (fun z=>h2 z.symm)]
  simp
 ·rw[DL (B1 y G) .start hw,ZO (p:=Nd.fin=.start) (fun z=>nomatch z)]
  simp[ind]
theorem Flow.most:Vl (Zd y G) φ .start<=Q7 G.wa G.m:=by
 rw[EQ];exact Wh fun k hk=>(F.want hk).2
end
def Ts {y:Yd}{G:Gv}(h:∀x∈Zd y G,0<=x.2.2):Flow y G (fun _ _=>0):=by
 refine⟨fun x hx=>⟨Jf _,h x hx⟩,fun n _ _=>?_⟩
 unfold Vl ZX;have:∀L:Lay Nd,(L.map fun x=>(0:Int)*(ind (x.1=n)-ind (x.2.1=n))).sum=0:=fun L=>by
  induction L with
  |nil=>rfl
  |cons x L ih=>rw[Xu,GE,ih];simp
 exact this _
end Mir
namespace Mir
open PySem
def EK (e:Nat):Builtin.bitAnd (e:Int) 1=((e%2:Nat):Int):=by
 unfold Builtin.bitAnd;have h1:decide ((0:Int)<=(e:Int))=true:=XV (by omega);have h2:decide ((0:Int)<=1)=true:=rfl;rw[h1,h2];show((((e:Int).toNat &&& (1:Int).toNat:Nat)):Int)=_;rw[XS,show(1:Int).toNat=1 from rfl,Nat.and_one_is_mod]
def Tg (e:Nat):e ||| 1=e+1-e%2:=by
 apply Nat.eq_of_testBit_eq
 intro i;rw[Nat.testBit_or];have h2:e%2=0\/e%2=1:=by omega
 cases i with
 |zero =>
   rw[Nat.testBit_zero,Nat.testBit_zero,Nat.testBit_zero];have:(e+1-e%2)%2=1:=by omega
   rw[this];rcases h2 with h|h<;>rw[h]<;>rfl
 |succ i =>
   rw[Nat.testBit_succ,Nat.testBit_succ,Nat.testBit_succ];have:(e+1-e%2)/2=e/2:=by omega
   rw[this];simp
def AV (e:Nat):Builtin.bitOr (e:Int) 1=((e+1-e%2:Nat):Int):=by
 unfold Builtin.bitOr;have a:Builtin.bitNot (e:Int) = -(e:Int)-1:=rfl;have b:Builtin.bitNot 1 = -2:=rfl
 have c:Builtin.bitAnd (Builtin.bitNot (e:Int)) (Builtin.bitNot 1)=Builtin.bitNot (((e ||| 1:Nat)):Int):=by
  rw[a,b];unfold Builtin.bitAnd;have h1:decide ((0:Int) <= -(e:Int)-1)=false:=XO (by omega);have h2:decide ((0:Int) <= -2)=false:=rfl;rw[h1,h2];show Builtin.bitNot ((((Builtin.bitNot (-(e:Int)-1)).toNat ||| (Builtin.bitNot (-2)).toNat:Nat)):Int)=_;have e1:(Builtin.bitNot (-(e:Int)-1)).toNat=e:=by show(-(-(e:Int)-1)-1).toNat=e;omega
  have e2:(Builtin.bitNot (-2)).toNat=1:=rfl;rw[e1,e2]
 rw[c,Tg];show -(-(((e+1-e%2:Nat)):Int)-1)-1=_;omega
def HP (e:Nat):Builtin.bitXor (e:Int) 1=(Ze7 e:Int):=by
 unfold Builtin.bitXor;rw[EK,AV];unfold Ze7;split<;>omega
end Mir
namespace L2
open PySem PySem.Spec PyProof.Rows
abbrev KK:=List Key×List Key
def WE (P:Program)(w:World)(a:Addr)(xs:List (KK×Addr×V))(h:Heap):Prop:=xs.length<=sizeLine/\(a==sysModules)=false/\∃vs:List (KK×Addr×Value),
 Paired (fun(x:KK×Addr×V) (y:KK×Addr×Value)=>x.1=y.1/\x.2.1=y.2.1/\QH x.2.2 y.2.2) xs vs /\
 ∃o es ep,h.get? a=some o/\o.ExactDict/\o.data=.dict es ep/\es.toList=vs.map (entryOfKey (DS (ZD P w)))/\(vs.map (·.1)).Nodup
def pdO (P:Program)(w:World)(a:Addr)(xs:List (KK×Addr×V)):HO:=.ext (WE P w a xs)
def WE.move {P:Program}{w:World}{a:Addr}{xs:List (KK×Addr×V)}{h1 h2:Heap}(x:WE P w a xs h1)(k:∀o,h1.get? a=some o->h2.get? a=some o):WE P w a xs h2:=by
 obtain⟨z,y,vs,r,o,es,ep,e1,e2,e3,e4,e5⟩:=x
 exact⟨z,y,vs,r,o,es,ep,k _ e1,e2,e3,e4,e5⟩
def WE.ok {P:Program}{w:World}{a:Addr}{xs:List (KK×Addr×V)}{H:Hp}{h:Heap}(x:WE P w a xs h):Z3 P w H h a (pdO P w a xs):=by
 refine⟨x,?_,fun h1 h2 y k=>y.move k⟩;obtain⟨z,y,vs,r,o,es,ep,e1,_⟩:=x
 exact⟨o,e1⟩
def Va (H:Hp)(k:KK)(b:Addr):Prop := ∃p q,H b=some (.tup [.ref p,.ref q])/\H p=some (.tup (k.1.map kV))/\H q=some (.tup (k.2.map kV))
def Va.mono {H H':Hp}(s:∀b ys,H b=some (.tup ys)->H' b=some (.tup ys)){k:KK}{b:Addr}(x:Va H k b):Va H' k b:=by
 obtain⟨p,q,h1,h2,h3⟩:=x
 exact⟨p,q,s _ _ h1,s _ _ h2,s _ _ h3⟩
section
variable {P:Program}{w:World}{H:Hp}{h:Heap}{a b:Addr}
def B9 {k:KK}(ok:HOk P w H h)(x:Va H k b):(DS (ZD P w)).is h k b:=by
 obtain⟨p,q,h1,h2,h3⟩:=x;obtain⟨_,its,r,o,e1,e2,n,e3⟩:=(show Z3 P w H h b (.tup [.ref p,.ref q]) from ok b _ h1)
 cases r with
 |cons r1 r =>
   cases r with
   |cons r2 r =>
     cases r
     cases (show _=Value.ref p from r1)
     cases (show _=Value.ref q from r2)
     exact⟨o,n,p,q,e1,e2,e3,YS ok h2,YS ok h3⟩
def ML {xs:List (KK×Addr×V)}(ok:HOk P w H h)(e:H a=some (pdO P w a xs))(hk:∀x∈xs,Va H x.1 x.2.1):xs.length<=sizeLine/\(a==sysModules)=false/\∃vs,
 Paired (fun(x:KK×Addr×V) (y:KK×Addr×Value)=>x.1=y.1/\x.2.1=y.2.1/\QH x.2.2 y.2.2) xs vs/\h.DictOfH (DS (ZD P w)) a vs:=by
 obtain⟨⟨z,y,vs,r,o,es,ep,e1,e2,e3,e4,e5⟩,hst⟩:=(show Z3 P w H h a (pdO P w a xs) from ok a _ e);refine⟨z,y,vs,r,o,es,ep,e1,e2,e3,e4,?_,e5⟩;clear e5 e4 z e hst;induction r with
 |nil=>intro x hx;exact nomatch hx
 |@cons p q ps qs hq t ih =>
   intro x hx;rcases Xe.mp hx with rfl|hx
   ·have:=B9 ok (hk p Xa)
    rw[hq.1,hq.2.1]at this;exact this
   ·exact ih (fun z hz=>hk z (Xf _ hz)) x hx
end
def VH (xs:List (KK×Addr×V))(k:KK):Option V:=(xs.find? fun x=>decide (x.1=k)).map (·.2.2)
abbrev RPD:=Paired (fun(x:KK×Addr×V) (y:KK×Addr×Value)=>x.1=y.1/\x.2.1=y.2.1/\QH x.2.2 y.2.2)
def RPD.val (k:KK){xs:List (KK×Addr×V)}{vs:List (KK×Addr×Value)}(r:RPD xs vs):ZG (VH xs k) ((atKey vs k).map (·.2)):=by
 induction r with
 |nil=>exact True.intro
 |@cons p q ps qs hq t ih =>
   by_cases e:p.1=k
   ·have e1:VH (p::ps) k=some p.2.2:=by simp[VH,Xw,e]
    have e2:(atKey (q::qs) k).map (·.2)=some q.2.2:=by simp[atKey,Xw,<- hq.1,e]
    rw[e1,e2];exact hq.2.2
   ·have e1:VH (p::ps) k=VH ps k:=by simp[VH,Xw,e]
    have e2:(atKey (q::qs) k).map (·.2)=(atKey qs k).map (·.2):=by simp[atKey,Xw,<- hq.1,e]
    rw[e1,e2];exact ih
def WC (xs:List (KK×Addr×V))(k:KK)(b:Addr)(v:V):List (KK×Addr×V):=if (VH xs k).isSome=true then xs.map (fun x=>if x.1=k then (x.1,x.2.1,v) else x) else xs++[(k,b,v)]
def RPD.repl (k:KK){v:V}{u:Value}(rv:QH v u){xs:List (KK×Addr×V)}{vs:List (KK×Addr×Value)}(r:RPD xs vs):RPD (xs.map fun x=>if x.1=k then (x.1,x.2.1,v) else x) (vs.map (putAt k u)):=by
 induction r with
 |nil=>exact .nil
 |@cons p q ps qs hq t ih =>
   rw[Xu,Xu];refine .cons ?_ ih;unfold putAt;by_cases e:p.1=k
   ·rw[Xd e,Xd (hq.1▸e)]
    exact⟨hq.1,hq.2.1,rv⟩
   ·rw[Xb e,Xb (hq.1▸e)]
    exact hq
theorem ZG.some_eq:∀{x:Option V} {y:Qf},ZG x y->x.isSome=y.isSome
 |none,none,_=>rfl
 |some _,some _,_=>rfl
 |none,some _,h=>by cases h
 |some _,none,h=>by cases h
def RPD.put (k:KK)(b:Addr){v:V}{u:Value}(rv:QH v u){xs:List (KK×Addr×V)}{vs:List (KK×Addr×Value)}(r:RPD xs vs):RPD (WC xs k b v) (storedH vs k b u):=by
 have e:=ZG.some_eq (r.val k);rw[Jd]at e;unfold WC storedH;rw[e];split
 ·exact r.repl k rv
 ·exact Paired.snoc r ⟨rfl,rfl,rv⟩
def EU (xs:List (KK×Addr×V))(k:KK)(b:Addr)(v:V):(WC xs k b v).length<=xs.length+1:=by
 unfold WC;split<;>simp
section
variable {X:Cx}{XaU:Qc}{σ:St}{H:Hp}{s:Shared}{a b:Addr}{v:V}{r:Value}{A:Around}{E:Qb}{xs:List (KK×Addr×V)}{k:KK}
def Ec {Q:Unit->Shared->Prop}(hu:A.units+6<cLine)(I:Qq X XaU σ H s)(e:H a=some (pdO X.prog X.w a xs))(hk:∀x∈xs,Va H x.1 x.2.1)(hb:Va H k b)(l:xs.length<sizeLine)(rv:QH v r)
 (h:∀s',Qq X XaU σ (upd H a (pdO X.prog X.w a (WC xs k b v))) s'->Q () s'):wpAny (model X.prog X.w) A (setItem (.ref a) (.ref b) r) Q E s:=by
 obtain⟨z,hd,vs,rel,dd⟩:=ML I.hok e hk;have hz:vs.length<=sizeLine:=by rw[<- Paired.length rel];exact z
 refine wpAny_setItem_heap (hsz:=hz) (show A.units+1+5<cLine by omega) (B9 I.hok hb) dd fun h' dd' hs=>h _ ?_;obtain⟨q,es,ep,hq,h2,h3,h4,_,h5⟩:=dd';exact Go I (by rw[e];exact True.intro) hs ⟨q,hq⟩ (WE.ok ⟨by have:=EU xs k b v;omega,hd,_,RPD.put k b rv rel,q,es,ep,hq,h2,h3,h4,h5⟩)
def Ef {Q:Qb}(hu:A.units+6<cLine)(I:Qq X XaU σ H s)(e:H a=some (pdO X.prog X.w a xs))(hk:∀x∈xs,Va H x.1 x.2.1)(hb:Va H k b)(hv:VH xs k=some v)
 (h:∀u s',Qq X XaU σ H s'->QH v u->Q u s'):wpAny (model X.prog X.w) A (getItem (.ref a) (.ref b)) Q E s:=by
 obtain⟨z,hd,vs,rel,dd⟩:=ML I.hok e hk;have rr:=RPD.val k rel;rw[hv]at rr;cases ek:atKey vs k with
 |none=>rw[ek]at rr;cases rr
 |some p =>
   rw[ek]at rr;exact wpAny_getItem_heap (show A.units+1+5<cLine by omega) (B9 I.hok hb) dd ek (h _ _ (I.tok _) rr)
def LP {Q:Qb}(hu:A.units+6<cLine)(I:Qq X XaU σ H s)(e:H a=some (pdO X.prog X.w a xs))(hk:∀x∈xs,Va H x.1 x.2.1)(hb:Va H k b)
 (h:∀s',Qq X XaU σ H s'->Q (.bool (!(VH xs k).isSome)) s'):wpAny (model X.prog X.w) A (compareOp .NotIn (.ref b) (.ref a)) Q E s:=by
 obtain⟨z,hd,vs,rel,dd⟩:=ML I.hok e hk;have rr:=ZG.some_eq (RPD.val k rel);rw[Jd]at rr;refine wpAny_notIn_heap (show A.units+1+5<cLine by omega) (B9 I.hok hb) hd dd ?_;rw[<- rr];exact h _ (I.tok _)
end
section
variable {X:Cx}{XaU:Qc}{σ:St}{H:Hp}{s:Shared}{a b:Addr}{d:V}{r:Value}{A:Around}{E:Qb}{kvs:List (List Key×V)}{k:List Key}
def Ce {Q:Qb}(hu:A.units+1<cLine)(I:Qq X XaU σ H s)(e:H a=some (.dT kvs))(eb:H b=some (.tup (k.map kV)))(l:kvs.length<sizeLine)(rd:QH d r)
 (h1:∀v u s',Zs kvs k=some v->Qq X XaU σ H s'->QH v u->Q u s') (h2:Zs kvs k=none->∀s',Qq X XaU σ (upd H a (.dT (kvs++[(k,d)]))) s'->Q r s') :
 wpAny (model X.prog X.w) A (call (.builtin "dict.setdefault") [.ref a,.ref b,r]) Q E s:=by
 obtain⟨z,hd,xs,rel,dd⟩:=M7 I.hok e;have hz:xs.length<=sizeLine:=by rw[<- Paired.length rel];exact z
 have rr:=rel.val k
 refine call_meetsIn PySem.F.slot_dict_setdefault dd.typeIs PySem.F.entry_dict_setdefault (PySem.F.args_dict_setdefault_3 _ _ _) (Of (tupleKind (ZD X.prog X.w)) a b hd r)
  ⟨tupleKind_room_in1 hu,k,xs,YS I.hok eb,dd,hz,fun p hp=>?_,fun hn h' dd' hs=>?_⟩
 ·rw[hp]at rr
  cases ev:Zs kvs k with
  |none=>rw[ev]at rr;cases rr
  |some v=>rw[ev]at rr;exact h1 v _ _ ev (I.tok _) rr
 ·have ev:Zs kvs k=none:=by
   rw[hn]at rr;cases ev:Zs kvs k with
   |none=>rfl
   |some v=>rw[ev]at rr;cases rr
  refine h2 ev _ ?_;obtain⟨q,es,ep,hq,g2,g3,g4,_,g5⟩:=dd';refine Go I (by rw[e];exact True.intro) hs ⟨q,hq⟩ ⟨by simp;omega,hd,_,(show KT H (kvs++[(k,d)]) (xs++[(k,b,r)]) from Paired.snoc rel ⟨rfl,eb,rd⟩).keeps fun c ys ec=>?_,q,es,ep,hq,g2,g3,g4,g5⟩;rw[Qs (fun z=>by subst z;rw[e]at ec;cases ec)];exact ec
end
def NK (td ty tx:TE):TE:=fun σ H Q=>td σ H fun x H1=>∃a,x=.ref a/\IsD H1 a/\ty σ H1 fun y H2=>tx σ H2 fun z H3=>∃kvs k b,y=.ref b/\H3 a=some (.dT kvs)/\H3 b=some (.tup (k.map kV))/\kvs.length<sizeLine /\
 (∀v,Zs kvs k=some v->Q v H3)/\(Zs kvs k=none->Q z (upd H3 a (.dT (kvs++[(k,z)]))))
section
variable {X:Cx}{o e f value:Expr}{apos cpos pos pos':Pos}{td ty tx tv:TE}
def C2 (hu:X.A.units+1<cLine) (ho:PE X o td) (he:PE X e ty) (hf:PE X f tx) (m:M2 X o "setdefault" apos e f cpos):PE X (.Call (.Attribute o "setdefault" apos) [e,f] [] cpos) (NK td ty tx):=by
 intro XaU s σ H Q I h;refine wpAny_Call_method m.base m.few m.line PySem.F.plainAttrs_dict PySem.F.slot_dict_setdefault PySem.F.type_dict_setdefault (QA (ho XaU s σ H _ I h) fun u s1 ⟨x,H1,I1,rx,a,ex,d,q1⟩=>?_);subst ex;obtain rfl:u=Value.ref a:=rx;obtain⟨t1,t2,_⟩:=NM I1 d;refine⟨t1,t2,?_⟩
 rw[m.trees];refine Calls.callWith_builtin rfl (Calls.evalArgs_plain (Calls.spliced_cons (QA (he XaU s1 σ H1 _ I1 q1) fun iv s2 ⟨y,H2,I2,ry,q2⟩ =>
  Calls.spliced_cons (QA (hf XaU s2 σ H2 _ I2 q2) fun fv s3 ⟨z,H3,I3,rz,kvs,k,b,ey,e1,e2,l,q3,q4⟩=>Calls.spliced_nil ?_))))
 subst ey;cases (show iv=Value.ref b from ry);exact Ce hu I3 e1 e2 l rz (fun v u s' ev I4 rv=>⟨v,H3,I4,rv,q3 v ev⟩) (fun ev s' I4=>⟨z,_,I4,rz,q4 ev⟩)
def KQ (P:Program)(w:World)(td ty:TE):TE:=fun σ H Q=>td σ H fun x H1=>ty σ H1 fun y H2=>∃a b xs k v,x=.ref a/\y=.ref b/\H2 a=some (pdO P w a xs)/\(∀x∈xs,Va H2 x.1 x.2.1)/\Va H2 k b/\VH xs k=some v/\Q v H2
def Rv (P:Program)(w:World)(ty td:TE):TE:=fun σ H Q=>ty σ H fun y H1=>td σ H1 fun x H2=>∃a b xs k,x=.ref a/\y=.ref b/\H2 a=some (pdO P w a xs)/\(∀x∈xs,Va H2 x.1 x.2.1)/\Va H2 k b/\Q (.bl (!(VH xs k).isSome)) H2
def Nn (P:Program)(w:World)(td ty tv:TE):TS:=fun D σ H=>tv σ H fun v H1=>td σ H1 fun x H2=>ty σ H2 fun y H3=>∃a b xs k,x=.ref a/\y=.ref b/\H3 a=some (pdO P w a xs)/\(∀x∈xs,Va H3 x.1 x.2.1)/\Va H3 k b/\xs.length<sizeLine /\
 D.nx σ (upd H3 a (pdO P w a (WC xs k b v)))
def AC {XaU:Qc} {σ:St} {H:Hp} {s:Shared} {a:Addr} {xs:List (KK×Addr×V)} (I:Qq X XaU σ H s) (e:H a=some (pdO X.prog X.w a xs)):s.TypeIs (.ref a) "dict" := by
 obtain⟨⟨_,_,vs,_,o,es,ep,e1,e2,_⟩,_⟩:=(show Z3 X.prog X.w H s.heap a (pdO X.prog X.w a xs) from I.hok a _ e)
 exact⟨o,e1,e2.1⟩
def Ff (hu:X.A.units+6<cLine)(ho:PE X o td)(hi:PE X e ty)(hs:M0 e):PE X (.Subscript o e pos) (KQ X.prog X.w td ty):=by
 intro XaU s σ H Q I h;refine R5 PySem.F.slot_dict_getitem.lookup hs (QA (ho XaU s σ H _ I h) fun u s1 ⟨x,H1,I1,rx,q1⟩=>QA (hi XaU s1 σ H1 _ I1 q1) fun iv s2 ⟨y,H2,I2,ry,a,b,xs,k,v,ex,ey,e1,e2,e3,e4,q2⟩=>?_);subst ex ey;obtain rfl:u=Value.ref a:=rx;obtain rfl:iv=Value.ref b:=ry
 exact⟨AC I2 e1,Ef hu I2 e1 e2 e3 e4 fun w' s3 I3 rw'=>⟨v,H2,I3,rw',q2⟩⟩
def AL (hu:X.A.units+6<cLine)(hi:PE X e ty)(ho:PE X o td):PC X .NotIn e o (Rv X.prog X.w ty td):=by
 intro XaU s σ H Q I h;refine QA (hi XaU s σ H _ I h) fun iv s1 ⟨y,H1,I1,ry,q1⟩=>QA (ho XaU s1 σ H1 _ I1 q1) fun u s2 ⟨x,H2,I2,rx,a,b,xs,k,ex,ey,e1,e2,e3,q2⟩=>?_;subst ex ey;obtain rfl:u=Value.ref a:=rx;obtain rfl:iv=Value.ref b:=ry;exact LP hu I2 e1 e2 e3 fun s3 I3=>⟨.bl (!(VH xs k).isSome),H2,I3,rfl,q2⟩
def Fj (hu:X.A.units+6<cLine)(ho:PE X o td)(hi:PE X e ty)(hv:PE X value tv)(hs:swapsWith value (some (.Subscript o e pos')) pos.line X.env=pure false) :
 PS X (.Assign [.Subscript o e pos'] value pos) (Nn X.prog X.w td ty tv):=by
 intro XaU s σ H D I h;refine wpAny_Assign_Subscript (QA (hv XaU s σ H _ I h) fun r s1 ⟨v,H1,I1,rv,q1⟩=>QA (ho XaU s1 σ H1 _ I1 q1) fun u s2 ⟨x,H2,I2,rx,q2⟩=>QA (hi XaU s2 σ H2 _ I2 q2) fun iv s3 ⟨y,H3,I3,ry,a,b,xs,k,ex,ey,e1,e2,e3,l,q3⟩=>?_) hs;subst ex ey;obtain rfl:u=Value.ref a:=rx;obtain rfl:iv=Value.ref b:=ry;exact Ec hu I3 e1 e2 e3 l rv fun s4 I4=>⟨σ,_,I4,q3⟩
end
def TF (P:Program)(w:World):TE:=fun _ H Q=>∀p,H p=none->Q (.ref p) (upd H p (pdO P w p []))
def FM {X:Cx}{pos:Pos}:PE X (.Dict [] [] pos) (TF X.prog X.w):=fun XaU s σ H Q I h =>
 wpAny_Dict_empty ⟨.ref s.heap.objs.size,_,I.laid (a:=s.heap.objs.size) (o:=pdO X.prog X.w s.heap.objs.size []) (t':=s.toks) (fun _ _ q=>Xi _ q) (Xs _)
  (WE.ok ⟨XN _,beq_eq_false_iff_ne.mpr (Ne.symm (Xr I.big)),[],.nil,_,#[],0,XD _ rfl,⟨rfl,rfl,rfl⟩,rfl,rfl,Jb⟩),rfl,h _ (I.hok.fresh (Xs _))⟩
structure Qz where
 ends:List (List Key)
 rooms:Ql
 leav:List (List Key×Ql)
 laid:List (KK×Int)
inductive LaidD (F:Hp):List (KK×Addr×V)->List (KK×Int)->Prop
 |nil:LaidD F [] []
 |cons {k:KK} {b:Addr} {n:Int} {xs:List (KK×Addr×V)} {ls:List (KK×Int)}:Va F k b->LaidD F xs ls->LaidD F ((k,b,.int n)::xs) ((k,n)::ls)
theorem LaidD.mono {F F':Hp}(s:Q2 F F'):∀{xs:List (KK×Addr×V)} {ls:List (KK×Int)},LaidD F xs ls->LaidD F' xs ls
 |_,_,.nil=>.nil
 |_,_,.cons h t=>.cons (h.mono fun b ys e=>s _ _ e) (t.mono s)
theorem LaidD.at {F H:Hp}(s:Q2 F H):∀{xs:List (KK×Addr×V)} {ls:List (KK×Int)},LaidD F xs ls->∀x∈xs,Va H x.1 x.2.1
 |_,_,.nil,x,hx=>nomatch hx
 |_,_,.cons h t,x,hx=>by
   rcases Xe.mp hx with rfl|hx
   ·exact h.mono fun b ys e=>s _ _ e
   ·exact t.at s x hx
inductive LeavD (F H:Hp):List (List Key×V)->List (List Key×Ql)->Qg->Prop
 |nil:LeavD F H [] [] []
 |cons {k:List Key} {a:Addr} {ns:Ql} {xs:List (List Key×V)} {ls:List (List Key×Ql)} {as:Qg}:Vb F H a (ns.map PyData.int)->LeavD F H xs ls as->LeavD F H ((k,.ref a)::xs) ((k,ns)::ls) (a::as)
theorem LeavD.mem {F H:Hp}:∀{xs:List (List Key×V)} {ls:List (List Key×Ql)} {as:Qg},LeavD F H xs ls as->∀a∈as,F a=none/\H a≠none
 |_,_,_,.nil,a,ha=>nomatch ha
 |_,_,_,.cons h t,a,ha=>by
   rcases Xe.mp ha with rfl|ha
   ·obtain⟨h1,xs,h2,_⟩:=h
    exact⟨h1,Zm h2⟩
   ·exact t.mem a ha
theorem LeavD.mono {F F' H H':Hp}(s:Q2 F F'):∀{xs:List (List Key×V)} {ls:List (List Key×Ql)} {as:Qg},(∀a∈as,F' a=none)->(∀a∈as,H' a=H a)->LeavD F H xs ls as->LeavD F' H' xs ls as
 |_,_,_,_,_,.nil=>.nil
 |_,_,_,hF,hH,.cons h t=>by
   obtain⟨h1,xs,h2,h3⟩:=h;exact .cons ⟨hF _ Xa,xs,by rw[hH _ Xa];exact h2,h3.mono s⟩ (t.mono s (fun a ha=>hF a (Xf _ ha)) (fun a ha=>hH a (Xf _ ha)))
theorem LeavD.addrs {F F' H H':Hp}:∀{xs:List (List Key×V)} {ls ls':List (List Key×Ql)} {as bs:Qg},LeavD F H xs ls as->LeavD F' H' xs ls' bs->as=bs
 |_,_,_,_,_,.nil,.nil=>rfl
 |_,_,_,_,_,.cons _ t,.cons _ t'=>by rw[t.addrs t']
structure NetOk (P:Program)(w:World)(C:Addr)(N:Qz)(F H:Hp)(a dx e r l d:Addr)(xs:List (List Key×V))(ys:List (KK×Addr×V))(as:Qg):Prop where
 nd:(a::dx::e::r::l::d::as).Nodup
 ins:F a=none/\H a=some (.ins C dx [("ends",.ref e),("rooms",.ref r),("leaving",.ref l),("laid",.ref d)])
 own:F dx=none/\H dx=some (.own a)
 ends:Vb F H e (N.ends.map QS)
 rooms:Vb F H r (N.rooms.map PyData.int)
 leav:F l=none/\H l=some (.dT xs)/\LeavD F H xs N.leav as
 laid:F d=none/\H d=some (pdO P w d ys)/\LaidD F ys N.laid
def Zc (P:Program)(w:World)(C:Addr)(N:Qz):OwnP where
 ok K F H v p := ∃a dx e r l d xs ys as,v=.ref a/\p=a::dx::e::r::l::d::as/\NetOk P w C N F H a dx e r l d xs ys as
 there:=by
  rintro K F H v p ⟨a,dx,e,r,l,d,xs,ys,as,rfl,rfl,o⟩ b hb
  obtain⟨_,⟨i1,i2⟩,⟨o1,o2⟩,⟨e1,ex,e2,_⟩,⟨r1,rx,r2,_⟩,⟨l1,l2,l3⟩,⟨d1,d2,_⟩⟩:=o;simp only[Xe]at hb;rcases hb with rfl|rfl|rfl|rfl|rfl|rfl|hb
  ·exact⟨i1,Zm i2⟩
  ·exact⟨o1,Zm o2⟩
  ·exact⟨e1,Zm e2⟩
  ·exact⟨r1,Zm r2⟩
  ·exact⟨l1,Zm l2⟩
  ·exact⟨d1,Zm d2⟩
  ·exact l3.mem b hb
 mono:=by
  rintro K F F' H H' v p s hF hH ⟨a,dx,e,r,l,d,xs,ys,as,rfl,rfl,o⟩
  obtain⟨nd,⟨i1,i2⟩,⟨o1,o2⟩,⟨e1,ex,e2,e3⟩,⟨r1,rx,r2,r3⟩,⟨l1,l2,l3⟩,⟨d1,d2,d3⟩⟩:=o
  refine⟨a,dx,e,r,l,d,xs,ys,as,rfl,rfl,nd,⟨hF _ (by simp),by rw[hH _ (by simp)];exact i2⟩,⟨hF _ (by simp),by rw[hH _ (by simp)];exact o2⟩,⟨hF _ (by simp),ex,by rw[hH _ (by simp)];exact e2,e3.mono s⟩,
   ⟨hF _ (by simp),rx,by rw[hH _ (by simp)];exact r2,r3.mono s⟩,⟨hF _ (by simp),by rw[hH _ (by simp)];exact l2,l3.mono s (fun b hb=>hF b (by simp[hb])) (fun b hb=>hH b (by simp[hb]))⟩,⟨hF _ (by simp),by rw[hH _ (by simp)];exact d2,d3.mono s⟩⟩
 uniq:=by
  rintro K F H v p q ⟨a,dx,e,r,l,d,xs,ys,as,rfl,rfl,o⟩ ⟨a',dx',e',r',l',d',xs',ys',as',ev,rfl,o'⟩ c hc
  cases ev
  have i:=o.ins.2.symm.trans o'.ins.2;injection i with i;injection i with _ i1 i2;subst i1;simp only[List.cons.injEq,Prod.mk.injEq,true_and,and_true,V.ref.injEq]at i2;obtain⟨rfl,rfl,rfl,rfl⟩:=i2;have j:=o.leav.2.1.symm.trans o'.leav.2.1;injection j with j;injection j with j;subst j;rw[o.leav.2.2.addrs o'.leav.2.2];exact hc
structure NetC (K:W.Frag)(C:Addr):Prop where
 cl:Cls K C
 ends:Vj K C "ends"
 rooms:Vj K C "rooms"
 leav:Vj K C "leaving"
 laid:Vj K C "laid"
section
variable {K:W.Frag}{ρ:Q6}{tb te ty tx:TE}{D:PEnds}{i:Nat}{v:V}{P:Program}{w:World}{C:Addr}{N:Qz}
def Q9.net {H0 F H:Hp}{σ:St}(S:Q9 K H0 F ρ σ H)(e:ρ[i]?=some (some (.own v (Zc P w C N)))) :
 ∃a dx el r l d xs ys as,v=.ref a/\σ[i]?=some (some (.ref a))/\NetOk P w C N F H a dx el r l d xs ys as/\(∀b∈a::dx::el::r::l::d::as,H0 b=none/\F b=none/\H b≠none) /\
  ∀(H':Hp) (N':Qz) (xs':List (List Key×V)) (ys':List (KK×Addr×V)) (as':Qg),Q2 F H'->(∀b,b∉a::dx::el::r::l::d::as->H b≠none->H' b=H b)->(∀b,H b≠none->H' b≠none) ->
   NetOk P w C N' F H' a dx el r l d xs' ys' as'->(∀b∈as',b∈as\/(H b=none/\H0 b=none))->Q9 K H0 F (ρ.set i (some (.own v (Zc P w C N')))) σ H':=by
 obtain⟨e1,p,⟨a,dx,el,r,l,d,xs,ys,as,rfl,rfl,ok⟩,hp,w'⟩:=S.writeOwn e;refine⟨a,dx,el,r,l,d,xs,ys,as,rfl,e1,ok,hp,fun H' N' xs' ys' as' h1 h2 h3 h4 h5=>w' H' _ _ h1 h2 h3 ⟨a,dx,el,r,l,d,xs',ys',as',rfl,rfl,h4⟩ fun b hb=>?_⟩;simp only[Xe]at hb ⊢;rcases hb with h|h|h|h|h|h|hb
 ·exact .inl (.inl h)
 ·exact .inl (.inr (.inl h))
 ·exact .inl (.inr (.inr (.inl h)))
 ·exact .inl (.inr (.inr (.inr (.inl h))))
 ·exact .inl (.inr (.inr (.inr (.inr (.inl h)))))
 ·exact .inl (.inr (.inr (.inr (.inr (.inr (.inl h))))))
 ·rcases h5 b hb with z|z
  ·exact .inl (.inr (.inr (.inr (.inr (.inr (.inr z))))))
  ·exact .inr z
def LeavD.other {F H:Hp}{b:Addr}{o:HO}{xs:List (List Key×V)}{ls:List (List Key×Ql)}{as:Qg}(h:LeavD F H xs ls as)(n:b∉as):LeavD F (upd H b o) xs ls as :=
 h.mono (Q2.refl _) (fun a ha=>(h.mem a ha).1) (fun a ha=>Qs fun z=>n (z▸ha))
def NetOk.setRooms {F H:Hp}{a dx el r l d:Addr}{xs:List (List Key×V)}{ys:List (KK×Addr×V)}{as:Qg}(ok:NetOk P w C N F H a dx el r l d xs ys as){ns:Ql}{zs:List V}(hr:Qw F zs (ns.map PyData.int)) :
 NetOk P w C { N with rooms:=ns } F (upd H r (.lst zs)) a dx el r l d xs ys as:=by
 obtain⟨nd,⟨i1,i2⟩,⟨o1,o2⟩,⟨e1,ex,e2,e3⟩,⟨r1,rx,r2,r3⟩,⟨l1,l2,l3⟩,⟨d1,d2,d3⟩⟩:=ok;have nd':=nd;simp only[XF,Xe,not_or]at nd';obtain⟨⟨a1,a2,a3,_⟩,⟨b1,b2,_⟩,⟨c1,_⟩,⟨g1,g2,g3⟩,_⟩:=nd'
 exact⟨nd,⟨i1,by rw[Qs a3];exact i2⟩,⟨o1,by rw[Qs b2];exact o2⟩,⟨e1,ex,by rw[Qs c1];exact e2,e3⟩,⟨r1,zs,QC,hr⟩,⟨l1,by rw[Qs (Ne.symm g1)];exact l2,l3.other g3⟩,⟨d1,by rw[Qs (Ne.symm g2)];exact d2,d3⟩⟩
def VF {H:Hp}{a:Addr}{o:HO}:∀b,H b≠none->upd H a o b≠none:=fun b hb=>by
 by_cases z:b=a
 ·subst z;rw[QC];exact fun q=>nomatch q
 ·rw[Qs z];exact hb
def S6 {f:Int->Int->Int}(c:NetC K C)(e:ρ[i]?=some (some (.own v (Zc P w C N)))){k m n:Int}(hi:Qu K tb ρ (.int k))(h0:0<=k)(hm:N.rooms[k.toNat]?=some m)(h:Qu K te ρ (.int n))
 (hn:D.nx (ρ.set i (some (.own v (Zc P w C { N with rooms:=N.rooms.set k.toNat (f m n) }))))):Q1 K (GV (ZL K (QB i) "rooms") tb te (GY K) (ipI f) UU) ρ D:=fun F0 H0 F σ H E x S C'=>by
 obtain⟨a,dx,el,r,l,d,xs,ys,as,rfl,e1,ok,_⟩:=S.net e;refine⟨_,e1,a,C,dx,_,.ref r,rfl,ok.ins.2,c.cl,c.rooms,rfl,hi H0 F σ H _ S fun F1 H1 y x1 r1=>?_⟩
 cases r1
 obtain⟨_,rx,r2,r3⟩:=ok.rooms;have hm':(N.rooms.map PyData.int)[k.toNat]?=some (.int m):=by rw[Xt,hm];rfl
 obtain⟨z,z1,z2⟩:=(r3.mono x1.ff).get hm';refine⟨r,rx,k,z,rfl,rfl,SqL.of (x1.hh _ _ r2),h0,z1,h H0 F1 σ H1 _ (S.ext x1) fun F2 H2 u x2 r2'=>?_⟩
 cases r2'
 cases z2
 refine⟨m,n,rfl,rfl,?_⟩;obtain⟨a',dx',el',r',l',d',xs',ys',as',ea,g1,ok',hp,wr⟩:=(S.ext (x1.trans x2)).net e
 cases ea
 have hi2:=ok'.ins.2.symm.trans ((x1.trans x2).hh _ _ ok.ins.2);injection hi2 with hi2;injection hi2 with _ _ hi3;simp only[List.cons.injEq,Prod.mk.injEq,true_and,and_true,V.ref.injEq]at hi3;obtain⟨rfl,rfl,rfl,rfl⟩:=hi3;obtain⟨q1,qx,q2,q3⟩:=ok'.rooms;have hlt:k.toNat<N.rooms.length:=(Xg.mp hm).1
 have hr:Qw F2 (qx.set k.toNat (.int (f m n))) ((N.rooms.set k.toNat (f m n)).map PyData.int):=by
  rw[List.map_set];exact q3.set (.int _) _
 refine⟨r',qx,k,k.toNat,rfl,rfl,q2,?_,?_⟩
 ·rw[q3.length,Xm]
  unfold ixN;rw[Xd h0,Xd (by omega)]
 ·have hr0:=hp r' (by simp)
  exact C'.nx F2 σ _ _ ((x.trans (x1.trans x2)).wr hr0.1 hr0.2.1) (wr _ { N with rooms:=N.rooms.set k.toNat (f m n) } xs' ys' as' ((S.ext (x1.trans x2)).sub.upd hr0.2.1) (fun b hb _=>Qs fun z=>hb (by rw[z];simp)) VF (ok'.setRooms hr) (fun b hb=>.inl hb)) hn
end
section
variable {K:W.Frag}{ρ:Q6}{tb te ty tx:TE}{D:PEnds}{i:Nat}{v:V}{P:Program}{w:World}{C:Addr}{N:Qz}
def NetOk.same {N':Qz}{F H F' H':Hp}{a dx el r l d dx' el' r' l' d':Addr}{xs xs':List (List Key×V)}{ys ys':List (KK×Addr×V)}{as as':Qg}
 (ok:NetOk P w C N F H a dx el r l d xs ys as) (ok':NetOk P w C N' F' H' a dx' el' r' l' d' xs' ys' as') (s:H' a=H a):dx'=dx/\el'=el/\r'=r/\l'=l/\d'=d:=by
 have h:=ok'.ins.2;rw[s,ok.ins.2]at h;injection h with h;injection h with _ h1 h2;simp only[List.cons.injEq,Prod.mk.injEq,true_and,and_true,V.ref.injEq]at h2;obtain⟨z1,z2,z3,z4⟩:=h2
 exact⟨h1.symm,z1.symm,z2.symm,z3.symm,z4.symm⟩
def NetOk.setEnds {F H:Hp}{a dx el r l d:Addr}{xs:List (List Key×V)}{ys:List (KK×Addr×V)}{as:Qg}(ok:NetOk P w C N F H a dx el r l d xs ys as){ns:List (List Key)}{zs:List V}(hr:Qw F zs (ns.map QS)) :
 NetOk P w C { N with ends:=ns } F (upd H el (.lst zs)) a dx el r l d xs ys as:=by
 obtain⟨nd,⟨i1,i2⟩,⟨o1,o2⟩,⟨e1,ex,e2,e3⟩,⟨r1,rx,r2,r3⟩,⟨l1,l2,l3⟩,⟨d1,d2,d3⟩⟩:=ok;have nd':=nd;simp only[XF,Xe,not_or]at nd';obtain⟨⟨a1,a2,a3,_⟩,⟨b1,b2,_⟩,⟨c1,c2,c3,c4⟩,_⟩:=nd'
 exact⟨nd,⟨i1,by rw[Qs a2];exact i2⟩,⟨o1,by rw[Qs b1];exact o2⟩,⟨e1,zs,QC,hr⟩,⟨r1,rx,by rw[Qs (Ne.symm c1)];exact r2,r3⟩,⟨l1,by rw[Qs (Ne.symm c2)];exact l2,l3.other c4⟩,⟨d1,by rw[Qs (Ne.symm c3)];exact d2,d3⟩⟩
def Eu (c:NetC K C)(e:ρ[i]?=some (some (.own v (Zc P w C N)))){n:Int}(h:Qu K te ρ (.int n))(hl:N.rooms.length<1000)
 (hn:D.nx (ρ.set i (some (.own v (Zc P w C { N with rooms:=N.rooms++[n] }))))):Q1 K (Vh (tBM K "list" VQ (ZL K (QB i) "rooms") (QE te QP))) ρ D:=fun F0 H0 F σ H E x S C'=>by
 obtain⟨a,dx,el,r,l,d,xs,ys,as,rfl,e1,ok,_⟩:=S.net e;refine⟨_,e1,a,C,dx,_,.ref r,rfl,ok.ins.2,c.cl,c.rooms,rfl,.inl ⟨rfl,_,SqL.of ok.rooms.2.choose_spec.1⟩,h H0 F σ H _ S fun F1 H1 u x1 r1=>?_⟩
 cases r1
 obtain⟨a',dx',el',r',l',d',xs',ys',as',ea,g1,ok',hp,wr⟩:=(S.ext x1).net e
 cases ea
 obtain⟨rfl,rfl,rfl,rfl,rfl⟩:=ok.same ok' ((x1.hh _ _ ok.ins.2).trans ok.ins.2.symm);obtain⟨q1,qx,q2,q3⟩:=ok'.rooms;have hr0:=hp r' (by simp);refine⟨r',qx,.int n,rfl,rfl,q2,by rw[q3.length,Xm];exact ZT (by omega),?_⟩;exact C'.nx F1 σ _ _ ((x.trans x1).wr hr0.1 hr0.2.1) (wr _ { N with rooms:=N.rooms++[n] } xs' ys' as' ((S.ext x1).sub.upd hr0.2.1) (fun b hb _=>Qs fun z=>hb (by rw[z];simp)) VF (ok'.setRooms (by rw[Xy];exact q3.snoc (.int n))) (fun b hb=>.inl hb)) hn
def Ew (c:NetC K C)(e:ρ[i]?=some (some (.own v (Zc P w C N)))){n:List Key}(h:Qu K te ρ (QS n))(hl:N.ends.length<1000)
 (hn:D.nx (ρ.set i (some (.own v (Zc P w C { N with ends:=N.ends++[n] }))))):Q1 K (Vh (tBM K "list" VQ (ZL K (QB i) "ends") (QE te QP))) ρ D:=fun F0 H0 F σ H E x S C'=>by
 obtain⟨a,dx,el,r,l,d,xs,ys,as,rfl,e1,ok,_⟩:=S.net e;refine⟨_,e1,a,C,dx,_,.ref el,rfl,ok.ins.2,c.cl,c.ends,rfl,.inl ⟨rfl,_,SqL.of ok.ends.2.choose_spec.1⟩,h H0 F σ H _ S fun F1 H1 u x1 r1=>?_⟩;obtain⟨a',dx',el',r',l',d',xs',ys',as',ea,g1,ok',hp,wr⟩:=(S.ext x1).net e
 cases ea
 obtain⟨rfl,rfl,rfl,rfl,rfl⟩:=ok.same ok' ((x1.hh _ _ ok.ins.2).trans ok.ins.2.symm);obtain⟨q1,qx,q2,q3⟩:=ok'.ends;have hr0:=hp el' (by simp);refine⟨el',qx,u,rfl,rfl,q2,by rw[q3.length,Xm];exact ZT (by omega),?_⟩;exact C'.nx F1 σ _ _ ((x.trans x1).wr hr0.1 hr0.2.1) (wr _ { N with ends:=N.ends++[n] } xs' ys' as' ((S.ext x1).sub.upd hr0.2.1) (fun b hb _=>Qs fun z=>hb (by rw[z];simp)) VF (ok'.setEnds (by rw[Xy];exact q3.snoc r1)) (fun b hb=>.inl hb)) hn
def SO (c:NetC K C) (e:ρ[i]?=some (some (.own v (Zc P w C N)))):Qu K (tCB (UP K) (QE (ZL K (QB i) "ends") QP)) ρ (.int (N.ends.length:Int)):=fun H0 F σ H Q S q=>by
 obtain⟨a,dx,el,r,l,d,xs,ys,as,rfl,e1,ok,_⟩:=S.net e;obtain⟨_,ex,e2,e3⟩:=ok.ends;refine⟨_,e1,a,C,dx,_,.ref el,rfl,ok.ins.2,c.cl,c.ends,rfl,el,ex,rfl,.inl (SqL.of e2),?_⟩
 have:ex.length=N.ends.length:=by rw[e3.length,Xm]
 rw[this];exact q F H _ (Qx.refl S.sub) (.int _)
end
def ZF (ls:List (KK×Int))(k:KK):Option Int:=(ls.find? fun x=>decide (x.1=k)).map (·.2)
def Yi (ls:List (KK×Int))(k:KK)(n:Int):List (KK×Int):=if (ZF ls k).isSome=true then ls.map (fun x=>if x.1=k then (x.1,n) else x) else ls++[(k,n)]
theorem LaidD.val {F:Hp}(k:KK):∀{xs:List (KK×Addr×V)} {ls:List (KK×Int)},LaidD F xs ls->VH xs k=(ZF ls k).map V.int
 |_,_,.nil=>rfl
 |_,_,.cons (k:=k') h t=>by
   by_cases e:k'=k
   ·simp[VH,ZF,Xw,e]
   ·have:=t.val k
    simpa [VH,ZF,Xw,e] using this
theorem LaidD.length {F:Hp}:∀{xs:List (KK×Addr×V)} {ls:List (KK×Int)},LaidD F xs ls->xs.length=ls.length
 |_,_,.nil=>rfl
 |_,_,.cons h t=>by simp[t.length]
theorem LaidD.repl {F:Hp}(k:KK)(n:Int):∀{xs:List (KK×Addr×V)} {ls:List (KK×Int)},LaidD F xs ls->LaidD F (xs.map fun x=>if x.1=k then (x.1,x.2.1,.int n) else x) (ls.map fun x=>if x.1=k then (x.1,n) else x)
 |_,_,.nil=>.nil
 |_,_,.cons (k:=k') h t=>by
   rw[Xu,Xu];by_cases e:k'=k
   ·simp only[e,if_true]
    exact .cons (e▸h) (t.repl k n)
   ·simp only[e,if_false]
    exact .cons h (t.repl k n)
theorem LaidD.snoc {F:Hp}{k:KK}{b:Addr}(n:Int)(hb:Va F k b):∀{xs:List (KK×Addr×V)} {ls:List (KK×Int)},LaidD F xs ls->LaidD F (xs++[(k,b,.int n)]) (ls++[(k,n)])
 |_,_,.nil=>.cons hb .nil
 |_,_,.cons h t=>.cons h (t.snoc n hb)
def LaidD.put {F:Hp}{k:KK}{b:Addr}(n:Int)(hb:Va F k b){xs:List (KK×Addr×V)}{ls:List (KK×Int)}(t:LaidD F xs ls):LaidD F (WC xs k b (.int n)) (Yi ls k n):=by
 unfold WC Yi;rw[t.val k,Jd];split
 ·exact t.repl k n
 ·exact t.snoc n hb
def DP {F:Hp}{y:V}{k1 k2:List Key}(r:Rep F y (.tuple [QS k1,QS k2])):∃b,y=.ref b/\Va F (k1,k2) b:=by
 cases r with
 |tup h rs =>
   cases rs with
   |cons r1 rs =>
     cases rs with
     |cons r2 rs =>
       cases rs
       obtain⟨p,rfl,hp⟩:=Wf r1;obtain⟨q,rfl,hq⟩:=Wf r2
       exact⟨_,rfl,p,q,h,hp,hq⟩
section
variable {K:W.Frag}{ρ:Q6}{tb te ty tx tv:TE}{D:PEnds}{i:Nat}{v:V}{P:Program}{w:World}{C:Addr}{N:Qz}{k1 k2:List Key}
def NetOk.setLaid {F H:Hp}{a dx el r l d:Addr}{xs:List (List Key×V)}{ys ys':List (KK×Addr×V)}{as:Qg}(ok:NetOk P w C N F H a dx el r l d xs ys as){ls:List (KK×Int)}(hr:LaidD F ys' ls) :
 NetOk P w C { N with laid:=ls } F (upd H d (pdO P w d ys')) a dx el r l d xs ys' as:=by
 obtain⟨nd,⟨i1,i2⟩,⟨o1,o2⟩,⟨e1,ex,e2,e3⟩,⟨r1,rx,r2,r3⟩,⟨l1,l2,l3⟩,⟨d1,d2,d3⟩⟩:=ok;have nd':=nd;simp only[XF,Xe,not_or]at nd';obtain⟨⟨a1,a2,a3,a4,a5,_⟩,⟨b1,b2,b3,b4,_⟩,⟨c1,c2,c3,c4⟩,⟨g1,g2,g3⟩,⟨h1,h2⟩,f1,_⟩:=nd'
 exact⟨nd,⟨i1,by rw[Qs a5];exact i2⟩,⟨o1,by rw[Qs b4];exact o2⟩,⟨e1,ex,by rw[Qs c3];exact e2,e3⟩,⟨r1,rx,by rw[Qs g2];exact r2,r3⟩,⟨l1,by rw[Qs h1];exact l2,l3.other f1⟩,⟨d1,QC,hr⟩⟩
def Ak (c:NetC K C)(e:ρ[i]?=some (some (.own v (Zc P w C N)))){n:Int}(hv:Qu K tv ρ (.int n))(hy:Qu K ty ρ (.tuple [QS k1,QS k2]))(hl:N.laid.length<1000)
 (hn:D.nx (ρ.set i (some (.own v (Zc P w C { N with laid:=Yi N.laid (k1,k2) n }))))):Q1 K (Nn P w (ZL K (QB i) "laid") ty tv) ρ D:=fun F0 H0 F σ H E x S C' =>
 hv H0 F σ H _ S fun F1 H1 u x1 r1=>by
  cases r1
  obtain⟨a,dx,el,r,l,d,xs,ys,as,rfl,e1,ok,_⟩:=(S.ext x1).net e;refine⟨_,e1,a,C,dx,_,.ref d,rfl,ok.ins.2,c.cl,c.laid,rfl,hy H0 F1 σ H1 _ (S.ext x1) fun F2 H2 y x2 r2=>?_⟩;have S2:=S.ext (x1.trans x2);obtain⟨a',dx',el',r',l',d',xs',ys',as',ea,g1,ok',hp,wr⟩:=S2.net e
  cases ea
  obtain⟨rfl,rfl,rfl,rfl,rfl⟩:=ok.same ok' ((x2.hh _ _ ok.ins.2).trans ok.ins.2.symm);obtain⟨b,rfl,hb⟩:=DP r2;obtain⟨d1,d2,d3⟩:=ok'.laid;refine⟨d',b,ys',(k1,k2),rfl,rfl,d2,d3.at S2.sub,hb.mono fun c' z ez=>S2.sub _ _ ez,by rw[d3.length];exact ZT (by omega),?_⟩;have hr0:=hp d' (by simp);exact C'.nx F2 σ _ _ ((x.trans (x1.trans x2)).wr hr0.1 hr0.2.1) (wr _ { N with laid:=Yi N.laid (k1,k2) n } xs' _ as' (S2.sub.upd hr0.2.1) (fun b' hb' _=>Qs fun z=>hb' (by rw[z];simp)) VF (ok'.setLaid (d3.put n hb)) (fun b' hb'=>.inl hb')) hn
end
def QL (ls:List (List Key×Ql))(k:List Key):Option (Ql):=(ls.find? fun x=>decide (x.1=k)).map (·.2)
def V0:List (List Key×Ql)->List Key->Int->List (List Key×Ql)
 |[],_,_=>[]
 |(k',ns)::r,k,n=>if k'=k then (k',ns++[n])::r else (k',ns)::V0 r k n
theorem LeavD.val {F H:Hp}(k:List Key):∀{xs:List (List Key×V)} {ls:List (List Key×Ql)} {as:Qg},LeavD F H xs ls as->(Zs xs k=none/\QL ls k=none) \/
 ∃a ns,Zs xs k=some (.ref a)/\QL ls k=some ns/\a∈as/\Vb F H a (ns.map PyData.int)
 |_,_,_,.nil=>.inl ⟨rfl,rfl⟩
 |_,_,_,.cons (k:=k') (a:=a) (ns:=ns) (xs:=xs) (ls:=ls) h t=>by
   by_cases e:k'=k
   ·exact .inr ⟨a,ns,Yq e,by simp[QL,Xw,e],Xa,h⟩
   ·have q:QL ((k',ns)::ls) k=QL ls k:=by simp[QL,Xw,e]
    rw[Yp (p:=(k',V.ref a)) e,q]
    rcases t.val k with z|⟨a',ns',z1,z2,z3,z4⟩
    ·exact .inl z
    ·exact .inr ⟨a',ns',z1,z2,Xf _ z3,z4⟩
theorem LeavD.app {F H:Hp}(k:List Key){a:Addr}{n:Int}{zs:List V}:∀{xs:List (List Key×V)} {ls:List (List Key×Ql)} {as:Qg} {ns:Ql},LeavD F H xs ls as->as.Nodup->Zs xs k=some (.ref a)->QL ls k=some ns ->
 Qw F zs ((ns++[n]).map PyData.int)->LeavD F (upd H a (.lst zs)) xs (V0 ls k n) as
 |_,_,_,_,.nil,_,h,_,_=>by cases h
 |_,_,_,ns,.cons (k:=k') (a:=a') (ns:=ns') (xs:=xs) (ls:=ls) (as:=as) h t,nd,hv,he,hr=>by
   obtain⟨n1,n2⟩:=XF.mp nd;unfold V0;by_cases e:k'=k
   ·rw[Yq (p:=(k',V.ref a')) e]at hv
    have q:QL ((k',ns')::ls) k=some ns':=by simp[QL,Xw,e]
    rw[q]at he;cases hv
    cases he
    rw[Xd e];exact .cons ⟨h.1,zs,QC,hr⟩ (t.other n1)
   ·rw[Yp (p:=(k',V.ref a')) e]at hv
    have q:QL ((k',ns')::ls) k=QL ls k:=by simp[QL,Xw,e]
    rw[q]at he;rw[Xb e];have ha:a∈as:=by
     rcases t.val k with z|⟨a2,ns2,z1,z2,z3,z4⟩
     ·rw[hv]at z;cases z.1
     ·rw[hv]at z1;cases z1;exact z3
    refine .cons ?_ (t.app k n2 hv he hr);obtain⟨h1,xs',h2,h3⟩:=h;have ne:a'≠a:=fun z=>n1 (by rw[z];exact ha)
    exact⟨h1,xs',by rw[Qs ne];exact h2,h3⟩
theorem LeavD.snoc {F H:Hp}(k:List Key){a:Addr}(o:Vb F H a []):∀{xs:List (List Key×V)} {ls:List (List Key×Ql)} {as:Qg},LeavD F H xs ls as->LeavD F H (xs++[(k,.ref a)]) (ls++[(k,[])]) (as++[a])
 |_,_,_,.nil=>.cons o .nil
 |_,_,_,.cons h t=>.cons h (t.snoc k o)
theorem LeavD.length {F H:Hp}:∀{xs:List (List Key×V)} {ls:List (List Key×Ql)} {as:Qg},LeavD F H xs ls as->xs.length=ls.length
 |_,_,_,.nil=>rfl
 |_,_,_,.cons h t=>by simp[t.length]
def V1 (ls:List (List Key×Ql))(k:List Key):List (List Key×Ql):=if (QL ls k).isSome=true then ls else ls++[(k,[])]
section
variable {K:W.Frag}{ρ:Q6}{tb te ty tx tv:TE}{D:PEnds}{i:Nat}{v:V}{P:Program}{w:World}{C:Addr}{N:Qz}{k:List Key}
def NetOk.appLeav {F H:Hp}{a dx el r l d:Addr}{xs:List (List Key×V)}{ys:List (KK×Addr×V)}{as:Qg}(ok:NetOk P w C N F H a dx el r l d xs ys as){b:Addr}{ns:Ql}{n:Int}{zs:List V}
 (hv:Zs xs k=some (.ref b)) (he:QL N.leav k=some ns) (hb:b∈as) (hr:Qw F zs ((ns++[n]).map PyData.int)):NetOk P w C { N with leav:=V0 N.leav k n } F (upd H b (.lst zs)) a dx el r l d xs ys as:=by
 obtain⟨nd,⟨i1,i2⟩,⟨o1,o2⟩,⟨e1,ex,e2,e3⟩,⟨r1,rx,r2,r3⟩,⟨l1,l2,l3⟩,⟨d1,d2,d3⟩⟩:=ok;have nd':=nd;simp only[XF,Xe,not_or]at nd';obtain⟨⟨a1,a2,a3,a4,a5,a6⟩,⟨b1,b2,b3,b4,b5⟩,⟨c1,c2,c3,c4⟩,⟨g1,g2,g3⟩,⟨h1,h2⟩,f1,f2⟩:=nd';have ne:∀{x:Addr},x∉as->x≠b:=fun h z=>h (by rw[z];exact hb)
 exact⟨nd,⟨i1,by rw[Qs (ne a6)];exact i2⟩,⟨o1,by rw[Qs (ne b5)];exact o2⟩,⟨e1,ex,by rw[Qs (ne c4)];exact e2,e3⟩,⟨r1,rx,by rw[Qs (ne g3)];exact r2,r3⟩,⟨l1,by rw[Qs (ne h2)];exact l2,l3.app k f2 hv he hr⟩,⟨d1,by rw[Qs (ne f1)];exact d2,d3⟩⟩
end
section
variable {K:W.Frag}{ρ:Q6}{tb te ty tx tv:TE}{D:PEnds}{i:Nat}{v:V}{P:Program}{w:World}{C:Addr}{N:Qz}{k:List Key}
def Re (c:NetC K C)(e:ρ[i]?=some (some (.own v (Zc P w C N)))){n:Int}(h:Qu K te ρ (.int n)){ns:Ql}(he:QL N.leav k=some ns)(hz:ns.length<1000)
 (hn:D.nx (ρ.set i (some (.own v (Zc P w C { N with leav:=V0 N.leav k n }))))) {F0 H0 F H:Hp} {σ:St} {E:Ends} (x:Qx F0 H0 F H) (S:Q9 K H0 F ρ σ H) (C':Cnv K F0 H0 D E)
 {a dx el r l d:Addr} {xs:List (List Key×V)} {ys:List (KK×Addr×V)} {as:Qg} {al:Addr} (ok:NetOk P w C N F H a dx el r l d xs ys as) (ev:v=.ref a) (hv:Zs xs k=some (.ref al)) :
 tyV K "list" (.ref al) H/\QE te QP σ H fun vs H2=>VQ (.ref al) vs H2 fun _ H3=>E.nx σ H3:=by
 have find:∀{F H:Hp} {a dx el r l d:Addr} {xs:List (List Key×V)} {ys:List (KK×Addr×V)} {as:Qg},NetOk P w C N F H a dx el r l d xs ys as->Zs xs k=some (.ref al)->al∈as/\Vb F H al (ns.map PyData.int):=fun ok hv=>by
  rcases ok.leav.2.2.val k with z|⟨a2,ns2,z1,z2,z3,z4⟩
  ·rw[hv]at z;cases z.1
  ·rw[hv]at z1
   rw[he]at z2;cases z1
   cases z2
   exact⟨z3,z4⟩
 obtain⟨_,_,zs,hz1,_⟩:=find ok hv;refine⟨.inl ⟨rfl,_,SqL.of hz1⟩,h H0 F σ H _ S fun F1 H1 u x1 r1=>?_⟩
 cases r1
 obtain⟨a',dx',el',r',l',d',xs',ys',as',ea,g1,ok',hp,wr⟩:=(S.ext x1).net e;rw[ev]at ea;cases ea;obtain⟨rfl,rfl,rfl,rfl,rfl⟩:=ok.same ok' ((x1.hh _ _ ok.ins.2).trans ok.ins.2.symm);have el2:=ok'.leav.2.1.symm.trans (x1.hh _ _ ok.leav.2.1);injection el2 with el2;injection el2 with el2;subst el2;obtain⟨m1,m2,zs2,m3,m4⟩:=find ok' hv;have hr0:=hp al (by simp[m1]);refine⟨al,zs2,.int n,rfl,rfl,m3,by rw[m4.length,Xm];exact ZT (by omega),?_⟩
 exact C'.nx F1 σ _ _ ((x.trans x1).wr hr0.1 hr0.2.1) (wr _ { N with leav:=V0 N.leav k n } _ ys' as' ((S.ext x1).sub.upd hr0.2.1) (fun b hb _=>Qs fun z=>hb (by rw[z];simp[m1])) VF
  (ok'.appLeav hv he m1 (by rw[Xy];exact m4.snoc (.int n))) (fun b hb=>.inl hb)) hn
def SL (ls:List (List Key×Ql))(h:QL ls k=none):QL (ls++[(k,[])]) k=some []:=by
 induction ls with
 |nil=>simp[QL]
 |cons x ls ih =>
   obtain⟨k',ns⟩:=x
   by_cases e:k'=k
   ·simp[QL,Xw,e]at h
   ·have q:QL ((k',ns)::ls) k=QL ls k:=by simp[QL,Xw,e]
    rw[q]at h;have q2:QL ((k',ns)::ls++[(k,[])]) k=QL (ls++[(k,[])]) k:=by simp[QL,Xw,e]
    rw[q2];exact ih h
def Eo (c:NetC K C)(e:ρ[i]?=some (some (.own v (Zc P w C N)))){n:Int}(hy:Qu K ty ρ (QS k))(hl:N.leav.length<1000)(hz:∀ns,QL (V1 N.leav k) k=some ns->ns.length<1000)
 (h:Qu K te (ρ.set i (some (.own v (Zc P w C { N with leav:=V1 N.leav k })))) (.int n)) (hn:D.nx (ρ.set i (some (.own v (Zc P w C { N with leav:=V0 (V1 N.leav k) k n }))))) :
 Q1 K (Vh (tBM K "list" VQ (NK (ZL K (QB i) "leaving") ty (WG QP)) (QE te QP))) ρ D:=fun F0 H0 F σ H E x S C'=>by
 obtain⟨a,dx,el,r,l,d,xs,ys,as,rfl,e1,ok,hp0,_⟩:=S.net e;refine⟨_,e1,a,C,dx,_,.ref l,rfl,ok.ins.2,c.cl,c.leav,rfl,l,rfl,.inr ⟨xs,Rd.of ok.leav.2.1⟩,hy H0 F σ H _ S fun F1 H1 y x1 r1=>⟨XN _,fun p hp=>?_⟩⟩;have S1:=S.ext x1;have x2:Qx F1 H1 F1 (upd H1 p (.lst [])):=Qx.own S1.sub hp;obtain⟨a',dx',el',r',l',d',xs',ys',as',ea,g1,ok',hp',wr⟩:=S1.net e
 cases ea
 obtain⟨rfl,rfl,rfl,rfl,rfl⟩:=ok.same ok' ((x1.hh _ _ ok.ins.2).trans ok.ins.2.symm);have hlt:i<ρ.length:=(Xg.mp e).1;obtain⟨b,rfl,hb⟩:=Wf r1;obtain⟨l1,l2,l3⟩:=ok'.leav;have np:∀q∈a::dx'::el'::r'::l'::d'::as',q≠p:=fun q hq z=>by rw[z]at hq;exact(hp' p hq).2.2 hp
 have lp:l'≠p:=np l' (by simp);have bp:b≠p:=fun z=>by rw[z]at hb;rw[S1.sub _ _ hb]at hp;cases hp
 have h0p:H0 p=none:=(x.trans x1).hh.free hp;refine⟨xs',k,b,rfl,by rw[Qs lp];exact l2,by rw[Qs bp];exact S1.sub _ _ hb,by rw[l3.length];exact ZT (by omega),fun v0 hv0=>?_,fun hv0=>?_⟩
 ·rcases l3.val k with z|⟨al,ns,z1,z2,z3,z4⟩
  ·rw[hv0]at z;cases z.1
  ·rw[hv0]at z1
   cases z1
   have ens:V1 N.leav k=N.leav:=by unfold V1;rw[z2];rfl
   rw[ens]at h hn hz;have S3:=S1.ext x2
   have ok3:NetOk P w C N F1 (upd H1 p (.lst [])) a dx' el' r' l' d' xs' ys' as':=by
    obtain⟨q0,q1,q2,q3,q4,q5,q6⟩:=ok';obtain⟨e1',ex,e2,e3⟩:=q3;obtain⟨r1',rx,r2,r3⟩:=q4
    exact⟨q0,⟨q1.1,by rw[Qs (np a (by simp))];exact q1.2⟩,⟨q2.1,by rw[Qs (np dx' (by simp))];exact q2.2⟩,⟨e1',ex,by rw[Qs (np el' (by simp))];exact e2,e3⟩,⟨r1',rx,by rw[Qs (np r' (by simp))];exact r2,r3⟩,
     ⟨q5.1,by rw[Qs lp];exact q5.2.1,q5.2.2.other fun z=>np p (by simp[z]) rfl⟩,⟨q6.1,by rw[Qs (np d' (by simp))];exact q6.2.1,q6.2.2⟩⟩
   have S4:Q9 K H0 F1 (ρ.set i (some (.own (.ref a) (Zc P w C N)))) σ (upd H1 p (.lst [])):=wr _ N xs' ys' as' S3.sub (fun b' _ hb'=>Qs fun z=>hb' (by rw[z];exact hp)) VF ok3 (fun b' hb'=>.inl hb');exact Re (N:=N) c (Xk hlt) h z2 (hz ns z2) (by rw[List.set_set];exact hn) (x.trans (x1.trans x2)) S4 C' ok3 rfl hv0
 ·have z2:QL N.leav k=none:=by
   rcases l3.val k with z|⟨al,ns,z1,z2,z3,z4⟩
   ·exact z.2
   ·rw[hv0]at z1;cases z1
  have ens:V1 N.leav k=N.leav++[(k,[])]:=by unfold V1;rw[z2];rfl
  rw[ens]at h hn hz;have fp:F1 p=none:=S1.sub.free hp
  have ok3:NetOk P w C { N with leav:=N.leav++[(k,[])] } F1 (upd (upd H1 p (.lst [])) l' (.dT (xs'++[(k,.ref p)]))) a dx' el' r' l' d' (xs'++[(k,.ref p)]) ys' (as'++[p]):=by
   have ok2:=ok';obtain⟨q0,q1,q2,q3,q4,q5,q6⟩:=ok';obtain⟨e1',ex,e2,e3⟩:=q3;obtain⟨r1',rx,r2,r3⟩:=q4;have nd':=q0;simp only[XF,Xe,not_or]at nd';obtain⟨⟨a1,a2,a3,a4,a5,a6⟩,⟨b1,b2,b3,b4,b5⟩,⟨c1,c2,c3,c4⟩,⟨g1',g2,g3⟩,⟨h1,h2⟩,f1,f2⟩:=nd';have up:∀{q:Addr},q∈a::dx'::el'::r'::l'::d'::as'->q≠l'->upd (upd H1 p (.lst [])) l' (.dT (xs'++[(k,.ref p)])) q=H1 q:=fun hq ne=>by rw[Qs ne,Qs (np _ hq)]
   refine⟨?_,⟨q1.1,by rw[up (by simp) a4];exact q1.2⟩,⟨q2.1,by rw[up (by simp) b3];exact q2.2⟩,⟨e1',ex,by rw[up (by simp) c2];exact e2,e3⟩,⟨r1',rx,by rw[up (by simp) g1'];exact r2,r3⟩,⟨l1,QC,?_⟩,⟨q6.1,by rw[up (by simp) (Ne.symm h1)];exact q6.2.1,q6.2.2⟩⟩
   ·have:(a::dx'::el'::r'::l'::d'::(as'++[p]))=(a::dx'::el'::r'::l'::d'::as')++[p]:=by simp
    rw[this,U7];refine⟨q0,by simp,fun u hu t ht=>?_⟩
    cases Xh.mp ht
    exact np u hu
   ·refine LeavD.snoc k ⟨fp,[],by rw[Qs (Ne.symm lp),QC],.nil⟩ ?_
    exact(l3.other fun z=>np p (by simp[z]) rfl).other h2
  have S4:Q9 K H0 F1 (ρ.set i (some (.own (.ref a) (Zc P w C { N with leav:=N.leav++[(k,[])] })))) σ (upd (upd H1 p (.lst [])) l' (.dT (xs'++[(k,.ref p)]))) :=
   wr _ _ _ ys' (as'++[p]) ((S1.sub.upd fp).upd l1) (fun b' hb1 hb2=>by rw[Qs (fun z=>hb1 (by rw[z];simp)),Qs (fun z=>hb2 (by rw[z];exact hp))]) (fun b' hb'=>VF b' (VF b' hb')) ok3 (fun b' hb'=>by
    rcases XG.mp hb' with z|z
    ·exact .inl z
    ·cases Xh.mp z;exact .inr ⟨hp,h0p⟩)
  have hl0:=hp' l' (by simp)
  exact Re (N:={ N with leav:=N.leav++[(k,[])] }) c (Xk hlt) h (SL _ z2) (hz [] (SL _ z2)) (by rw[List.set_set];exact hn) ((x.trans (x1.trans x2)).wr hl0.1 hl0.2.1) S4 C' ok3 rfl (by
   rw[SG k k (.ref p) xs' hv0,Xd rfl])
end
end L2
section
namespace L2
open PySem PySem.Spec PyProof.Rows
structure KTup (K:W.Frag)(g:Addr)(x:Str):Prop where
 ex:∃(d:Qj) (t:Nat) (n:Nat) (sl:Array (Qf)),K.lookup g=some ⟨.type "tuple",d,.seq #[.str x t] n,sl⟩
def AI {P:Program}{w:World}{K:W.Frag}{mg mb:Str->Qf}{k:Nat}{fa a gS gE:Addr}{fd:FuncData}{x:Str}{sp:Sp}{b6:Shared}{vs:Qe}{ns:Ql}
 (KX:K.In b6.heap) (hns:b6.heap.Ns mainGlobals mg) (hb:b6.heap.Ns builtinsNs mb) (hbb:∀x:Str,x ≠ "__name__" -> mb x=bootBuiltins x) (hlim:b6.heap.NoLimit) (hg:b6.gens=#[])
 (ha:b6.heap.get? a=some { cls:=.type "list",data:=.seq vs.toArray }) (hi:IntsAre vs ns) (hl:ns.length<=sizeLine) (hr:Room k callerA) (tS:KTup K gS "start") (tE:KTup K gE "end")
 (F:∀base:Heap,K.In base->base.Ns mainGlobals mg->FnOk P w K mg base CX0 k fa fd [x] sp) (hbind:∀(s:Shared) (u:Value),BindsTo s fd ⟨[u],[]⟩ [(x,u)])
 (hsp:∀H:Hp,SqL K H a (ns.map V.int)->H gS=some (.tup [.str "start"])->H gE=some (.tup [.str "end"])->sp [.ref a] H (fun v _=>v=.bl true) fun _ _ _=>False) :
 codeAny (model P w) callerA (.call (.ref fa) ⟨[.ref a],[]⟩) (fun r s'=>r=.ok (.ret (.bool true))/\OldK b6.heap s'.heap/\s'.os=b6.os/\AllBare s'.gens) b6:=by
 have rv:=S7 hi;have lenV:=hi.length;obtain⟨dS,kS,cS,slS,lS⟩:=tS.ex;obtain⟨dE,kE,cE,slE,lE⟩:=tE.ex;have hS0:=KX gS _ lS;have hE0:=KX gE _ lE
 have naS:gS≠a:=fun z=>by
  rw[z,ha]at hS0;injection hS0 with z1;injection z1 with z2;injection z2 with z3;exact Xl z3 (by decide)
 have naE:gE≠a:=fun z=>by
  rw[z,ha]at hE0;injection hE0 with z1;injection z1 with z2;injection z2 with z3;exact Xl z3 (by decide)
 have nSE:gE≠gS:=fun z=>by
  rw[z,lS]at lE;injection lE with z1;injection z1 with _ _ z2 _;injection z2 with z3 _;have z4:=X0 Array.toList z3;simp only[List.cons.injEq,Value.str.injEq,and_true]at z4;exact Xl z4.1 (by decide)
 have core:∀Hs:Hp,PU Hs->SqL K Hs a (ns.map V.int)->HOk P w Hs b6.heap->(∀b,Hs b≠none->b=a)->(Hs a≠none->K.lookup a=none) ->
  codeAny (model P w) callerA (.call (.ref fa) ⟨[.ref a],[]⟩) (fun r s'=>r=.ok (.ret (.bool true))/\OldK b6.heap s'.heap/\s'.os=b6.os/\AllBare s'.gens) b6:=by
  intro Hs hO hSq hok hA hK;have fS:Hs gS=none:=by
   cases q:Hs gS with
   |none=>rfl
   |some u=>exact Xl (hA gS (by rw[q];simp)) naS
  have fE:Hs gE=none:=by
   cases q:Hs gE with
   |none=>rfl
   |some u=>exact Xl (hA gE (by rw[q];simp)) naE
  have base_of:∀{b:Addr} {o:Obj},b6.heap.get? b=some o->Hs b=none->(Wo b6.heap Hs).get? b=some o:=fun e n=>CN e n
  have noA:∀{b:Addr} {o:Obj} {es:Array DictEntry} {ep:Nat},b6.heap.get? b=some o->o.data=.dict es ep->Hs b=none:=fun{b o es ep} e d=>by
   cases q:Hs b with
   |none=>rfl
   |some u =>
     have e':b=a:=hA b (by rw[q];simp);subst e';rw[ha]at e;cases e;have d':Data.seq vs.toArray _=Data.dict es ep:=d
     cases d'
  have nsK:∀{b:Addr} {m:Str->Qf},b6.heap.Ns b m->(Wo b6.heap Hs).Ns b m:=fun{b m} ⟨o,es,ep,e,d,r⟩=>⟨o,es,ep,base_of e (noA e d),d,r⟩
  have hKb:K.In (Wo b6.heap Hs):=fun b o e=>base_of (KX b o e) (by
   cases q:Hs b with
   |none=>rfl
   |some u =>
     have e':b=a:=hA b (by rw[q];simp);subst e';rw[hK (by rw[q];simp)]at e;cases e)
  have hM:Mod K mg (Wo b6.heap Hs):=⟨hKb,nsK hns,⟨mb,nsK hb,hbb⟩,let ⟨mc,h1,h2⟩:=hlim;⟨mc,nsK h1,h2⟩⟩
  let H:Hp:=upd (upd Hs gS (.tup [.str "start"])) gE (.tup [.str "end"])
  have hHS:H gS=some (.tup [.str "start"]):=by show upd _ _ _ gS=_;rw[Qs (Ne.symm nSE),QC]
  have hHE:H gE=some (.tup [.str "end"]):=QC;have hHo:∀b,b≠gS->b≠gE->H b=Hs b:=fun b h1 h2=>by show upd _ _ _ b=_;rw[Qs h2,Qs h1]
  have sm:Q2 Hs H:=fun b u e=>by
   rw[hHo b (fun z=>by rw[z,fS]at e;cases e) (fun z=>by rw[z,fE]at e;cases e)];exact e
  have l1:∀x:Str,[V.str x].length<=sizeLine:=fun _=>Yr (ZT YM)
  have hokH:HOk P w H b6.heap:=fun b u e=>by
   by_cases h1:b=gS
   ·subst h1
    rw[hHS]at e;cases e
    exact⟨l1 _,[.str "start" kS],.cons ⟨kS,rfl⟩ .nil,⟨_,hS0,rfl,_,rfl⟩⟩
   ·by_cases h2:b=gE
    ·subst h2
     rw[hHE]at e;cases e
     exact⟨l1 _,[.str "end" kE],.cons ⟨kE,rfl⟩ .nil,⟨_,hE0,rfl,_,rfl⟩⟩
    ·rw[hHo b h1 h2]at e
     rcases hO b with z|⟨o,xs,z⟩
     ·rw[z]at e;cases e
     ·rw[z]at e
      cases e
      obtain⟨q1,q2⟩:=hok b _ z
      exact⟨q1,q2⟩
  have e0:Env0 P w K mg (Wo b6.heap Hs) callerA [] b6 H:=⟨rfl,hM,fun b o e=>by
   obtain⟨e1,e2⟩:=LW e;refine⟨e1,?_⟩
   by_cases h1:b=gS
   ·exact .inr ⟨_,by rw[h1];exact hHS⟩
   ·by_cases h2:b=gE
    ·exact .inr ⟨_,by rw[h2];exact hHE⟩
    ·exact .inl (by rw[hHo b h1 h2];exact e2),Nat.le_of_eq (Ay _ _),trivial,fun b hb=>Xl (show b∈([]:Qg) from hb) (by simp),hokH,.of_eq hg⟩
  refine codeAny_mono ((F _ hKb (nsK hns)).run callerA [] b6 H ⟨[.ref a],[]⟩ [.ref a] [.ref a] _ _ hr e0 (hbind b6 (.ref a)) (.cons rfl .nil) (hsp H (sm.seq hSq) hHS hHE)) fun r s' h=>?_
  cases r with
  |error e=>exact False.elim h
  |ok fl =>
    cases fl with
    |next=>exact False.elim h
    |brk=>exact False.elim h
    |cont=>exact False.elim h
    |ret u =>
      obtain⟨v,H',os,bare,un,hok',r',q⟩:=h;have q':v=.bl true:=q;subst q';obtain rfl:u=Value.bool true:=r';refine⟨rfl,OldK.of_keep fun b o e=>?_,os,bare⟩
      by_cases h1:b=gS
      ·subst h1
       exact un.tupo b _ o hHS e (by simp)
      ·by_cases h2:b=gE
       ·subst h2
        exact un.tupo b _ o hHE e (by simp)
       ·rcases hO b with z|⟨ob,xs,z⟩
        ·exact un.keep b o e (by rw[hHo b h1 h2];exact z) (by intro z;exact Xl (show b∈([]:Qg) from z) (by simp)) (by simp)
        ·have z2:=un.frzs b ob _ (by rw[hHo b h1 h2];exact z)
         obtain⟨e1,_⟩:=hok b _ z;obtain⟨e2,_⟩:=hok' b _ z2;rw[e]at e1;cases e1;exact e2
 cases hk:K.lookup a with
 |some o =>
   have e:=KX a o hk;rw[ha]at e;cases e;refine core (fun _=>none) (fun _=>.inl rfl) (.inr ⟨_,vs.toArray,_,hk,rfl,rfl,rfl,by rw[Xx,lenV];exact hl,by simpa using rv⟩) (fun b u z=>by have z':(none:Option HO)=some u:=z;cases z') (fun b z=>Xl rfl z) fun z=>Xl rfl z
 |none =>
   refine core (fun b=>if b=a then some (.frz { cls:=.type "list",data:=.seq vs.toArray } (.lst (ns.map V.int))) else none) (fun b=>?_) (.inl (.inr ⟨{ cls:=.type "list",data:=.seq vs.toArray },Xd rfl⟩)) (fun b u z=>?_) (fun b z=>?_) fun _=>hk
   ·by_cases hb:b=a
    ·exact .inr ⟨_,_,Xd hb⟩
    ·exact .inl (Xb hb)
   ·by_cases hb:b=a
    ·have z':=(Xd hb).symm.trans z
     cases z'
     subst hb;exact⟨ha,by rw[Xm];exact hl,vs,_,rv,ha⟩
    ·have z':=(Xb hb).symm.trans z
     cases z'
   ·by_cases hb:b=a
    ·exact hb
    ·exact Xl (Xb hb) z
def ZmK {l:W.OpenLaw}{k:Nat}{q:Program}{loose:Qh}{XP:(Str->Qf)->Heap->Prop}{YP:World->Heap->Prop}{d:DefRec}{K:Params->W.Frag}{x:Str}
 (hn:l.most=some 63) (hdf:d.params.defaults=[]) (hr:Room k callerA)
 (hY:∀(w:World) (h:Heap),YP w h->(K w.params).In h)
 (F:∀(w:World) (mg:Str->Qf) (fa:Addr) (h:Heap),(K w.params).In h->h.Ns mainGlobals mg->mg d.name=some (.ref fa) ->
  (∃gS gE,W.nsIn (K w.params) mainGlobals "START"=some (some (.ref gS))/\W.nsIn (K w.params) mainGlobals "END"=some (some (.ref gE))/\KTup (K w.params) gS "start" /\ KTup (K w.params) gE "end") /\
  ∃fd:FuncData,(∀(s:Shared) (u:Value),BindsTo s fd ⟨[u],[]⟩ [(x,u)]) /\
   ∀base:Heap,(K w.params).In base->base.Ns mainGlobals mg->FnOk l.prog w (K w.params) mg base CX0 k fa fd [x] (Bh (K w.params))) :
 W.WalkO q loose XP YP l.row.toRowW d [] (fun f vs=>PySem.call f vs):=by
 refine Att.attach_callW hn hdf fun w s₀ b6 mg mb fa o pm cd doc a vs ns G Y ho hd hcd hmg hobj hints hlen hbits hg=>?_
 have KX:=hY w _ Y;obtain⟨⟨gS,gE,n1,n2,t1,t2⟩,fd,hb,hF⟩:=F w mg fa _ KX G.T.g hmg;exact AI KX G.T.g G.T.b G.T.builtins G.T.nolimit hg hobj hints (X8 hlen (by decide)) hr t1 t2 hF hb (fun H hS h1 h2=>⟨a,ns,rfl,⟨gS,gE,n1,n2,h1,h2⟩,⟨hS,hlen,hbits⟩,fun _=>rfl⟩)
def DM {K:W.Frag} {ρ:Q6} {g:Addr} (a:W.nsIn K mainGlobals "START"=some (some (.ref g))):Qu K (tC (.ref g)) ρ (QS [.inr "start"]):=fun H0 F σ H Q S q=>by
 obtain⟨gS,gE,h1,h2,h3,h4⟩:=S.kt;rw[h1]at a;cases a;exact q F H _ (Qx.refl S.sub) (.tup h3 (.cons (.str _) .nil))
def NV {K:W.Frag} {ρ:Q6} {g:Addr} (a:W.nsIn K mainGlobals "END"=some (some (.ref g))):Qu K (tC (.ref g)) ρ (QS [.inr "end"]):=fun H0 F σ H Q S q=>by
 obtain⟨gS,gE,h1,h2,h3,h4⟩:=S.kt;rw[h2]at a;cases a;exact q F H _ (Qx.refl S.sub) (.tup h4 (.cons (.str _) .nil))
def Dj {A:Around}{k:Nat}(hr:Room k A):A.units+6<cLine:=Mb (Nat.add_le_add_left (by decide:6<=64) _) hr.units
def NF (tk tv:TE):TE:=fun σ H Q=>∀p,H p=none->tk σ (upd H p (.dT [])) fun x H1=>tv σ H1 fun y H2=>∃k b,x=.ref b/\H2 p=some (.dT [])/\H2 b=some (.tup (k.map kV))/\Q (.ref p) (upd H2 p (.dT [(k,y)]))
def Aa {X:Cx}{pos:Pos}{ke ve:Expr}{tk tv:TE}(hu:X.A.units+1<cLine)(hk:PE X ke tk)(hv:PE X ve tv):PE X (.Dict [some ke] [ve] pos) (NF tk tv):=by
 intro XaU s σ H Q I q;have hn:=I.hok.fresh (Xs s.heap.objs.size);have I1:=I.laid (a:=s.heap.objs.size) (o:=.dT []) (h':=s.heap.push { cls:=.type "dict",data:=.dict #[] }) (t':=s.toks) (fun _ _ q=>Xi _ q) (Xs _) (Sd s.heap I.big);refine wpAny_Dict_any rfl rfl (by simp) (by show(1:Nat)<=15;decide) (pairTrees_cons_walk (QA (hk XaU _ σ _ _ I1 (q _ hn)) fun kv s1 ⟨x,H1,I2,rx,q1⟩=>QA (hv XaU s1 σ H1 _ I2 q1) fun vv s2 ⟨y,H2,I3,ry,k,b,ex,e,eb,q2⟩=>pairTrees_nil_walk ?_));subst ex;obtain rfl:kv=Value.ref b:=rx;obtain⟨z,hd,xs,rel,dd⟩:=M7 I3.hok e;have hx:xs=[]:=by cases rel;rfl
 subst hx;unfold storeAll;rw[List.forIn_cons];refine Xc (Xc (wpAny_dictSet_heap (hsz:=XN _) (knd:=tupleKind (ZD X.prog X.w)) (show X.A.units<cLine by omega) (YS I3.hok eb) dd fun h' dd' hs=>Xq ?_));obtain⟨q',es,ep,hq,g2,g3,g4,_,g5⟩:=dd';show wpAny _ _ (forIn [] PUnit.unit _) _ _ _;rw[List.forIn_nil];refine Xq ⟨.ref s.heap.objs.size,upd H2 s.heap.objs.size (.dT [(k,y)]),Go (ob:=.dT [(k,y)]) I3 (by rw[e];exact True.intro) hs ⟨q',hq⟩ ⟨Yr (ZT YM),hd,_,(show KT H2 [(k,y)] [(k,b,vv)] from .cons ⟨rfl,eb,ry⟩ .nil).keeps fun c ys ec=>?_,q',es,ep,hq,g2,g3,g4,g5⟩,rfl,q2⟩;rw[Qs (fun z=>by subst z;rw[e]at ec;cases ec)];exact ec
def FR {K:W.Frag}{ρ:Q6}{tk tv:TE}{k:List Key}{d:PyData}(hk:Qu K tk ρ (QS k))(hv:Qu K tv ρ d):EvX K (NF tk tv) ρ (Vk [(k,d)]):=fun H0 F σ H Q S q=>fun p hp=>by
 have x0:Qx F H F (upd H p (.dT [])):=Qx.own S.sub hp;have f0:F p=none:=S.sub.free hp;refine hk H0 F σ _ _ (S.ext x0) fun F1 H1 x x1 r1=>hv H0 F1 σ H1 _ (S.ext (x0.trans x1)) fun F2 H2 y x2 r2=>?_;obtain⟨b,rfl,hb⟩:=Wf r1;have X:=x1.trans x2;have hp2:H2 p=some (.dT []):=X.hh _ _ QC;have fp2:F2 p=none:=X.free f0 (by rw[QC];exact fun z=>nomatch z);have X':=x0.trans X;refine⟨k,b,rfl,hp2,X.fh _ _ (x2.ff _ _ hb),q F2 _ (.ref p) [p] (X'.wr hp fp2) (fun a ha=>by cases Xh.mp ha;exact hp) ⟨p,_,rfl,rfl,fp2,QC,.cons r2 .nil⟩⟩
inductive LeavZ (F:Hp):List (List Key×V)->List (List Key×Ql)->Prop
 |nil:LeavZ F [] []
 |cons {k:List Key} {a:Addr} {ns:Ql} {zs:List V} {xs:List (List Key×V)} {ls:List (List Key×Ql)}:F a=some (.lst zs)->Qw F zs (ns.map PyData.int)->LeavZ F xs ls->LeavZ F ((k,.ref a)::xs) ((k,ns)::ls)
theorem LeavZ.mono {F F':Hp}(s:Q2 F F'):∀{xs:List (List Key×V)} {ls:List (List Key×Ql)},LeavZ F xs ls->LeavZ F' xs ls
 |_,_,.nil=>.nil
 |_,_,.cons h r t=>.cons (s _ _ h) (r.mono s) (t.mono s)
theorem LeavZ.val {F:Hp}(k:List Key):∀{xs:List (List Key×V)} {ls:List (List Key×Ql)},LeavZ F xs ls->(Zs xs k=none/\QL ls k=none)\/∃a ns zs,Zs xs k=some (.ref a)/\QL ls k=some ns/\F a=some (.lst zs)/\Qw F zs (ns.map PyData.int)
 |_,_,.nil=>.inl ⟨rfl,rfl⟩
 |_,_,.cons (k:=k') (a:=a) (ns:=ns) (zs:=zs) (xs:=xs) (ls:=ls) h r t=>by
   by_cases e:k'=k
   ·exact .inr ⟨a,ns,zs,Yq e,by simp[QL,Xw,e],h,r⟩
   ·have q:QL ((k',ns)::ls) k=QL ls k:=by simp[QL,Xw,e]
    rw[Yp (p:=(k',V.ref a)) e,q];exact t.val k
theorem LeavD.fz {F F' H:Hp}(s:Q2 F F'):∀{xs:List (List Key×V)} {ls:List (List Key×Ql)} {as:Qg},LeavD F H xs ls as->(∀b∈as,F' b=H b)->LeavZ F' xs ls
 |_,_,_,.nil,_=>.nil
 |_,_,_,.cons h t,he=>by
   obtain⟨h1,xs,h2,h3⟩:=h;exact .cons (by rw[he _ Xa];exact h2) (h3.mono s) (t.fz s fun b hb=>he b (Xf _ hb))
structure NetFz (P:Program)(w:World)(C:Addr)(N:Qz)(F:Hp)(a dx e r l d:Addr)(xs:List (List Key×V))(ys:List (KK×Addr×V)):Prop where
 ins:F a=some (.ins C dx [("ends",.ref e),("rooms",.ref r),("leaving",.ref l),("laid",.ref d)])
 ends:∃ex,F e=some (.lst ex)/\Qw F ex (N.ends.map QS)
 rooms:∃rx,F r=some (.lst rx)/\Qw F rx (N.rooms.map PyData.int)
 leav:F l=some (.dT xs)/\LeavZ F xs N.leav
 laid:F d=some (pdO P w d ys)/\LaidD F ys N.laid
def NetFz.mono {P:Program}{w:World}{C:Addr}{N:Qz}{F F':Hp}{a dx e r l d:Addr}{xs:List (List Key×V)}{ys:List (KK×Addr×V)}(s:Q2 F F')(h:NetFz P w C N F a dx e r l d xs ys):NetFz P w C N F' a dx e r l d xs ys:=by
 obtain⟨h1,⟨ex,h2,h3⟩,⟨rx,h4,h5⟩,⟨h6,h7⟩,⟨h8,h9⟩⟩:=h
 exact⟨s _ _ h1,⟨ex,s _ _ h2,h3.mono s⟩,⟨rx,s _ _ h4,h5.mono s⟩,⟨s _ _ h6,h7.mono s⟩,⟨s _ _ h8,h9.mono s⟩⟩
def ZR (P:Program)(w:World)(C:Addr)(N:Qz):ZP where
 ok K F v := ∃a dx e r l d xs ys,v=.ref a/\NetFz P w C N F a dx e r l d xs ys
 mono:=by
  rintro K F F' v s ⟨a,dx,e,r,l,d,xs,ys,rfl,h⟩
  exact⟨a,dx,e,r,l,d,xs,ys,rfl,h.mono s⟩
def NetOk.fz {P:Program}{w:World}{C:Addr}{N:Qz}{F F' H:Hp}{a dx el r l d:Addr}{xs:List (List Key×V)}{ys:List (KK×Addr×V)}{as:Qg}(ok:NetOk P w C N F H a dx el r l d xs ys as)(s:Q2 F F')(he:∀b∈a::dx::el::r::l::d::as,F' b=H b) :
 NetFz P w C N F' a dx el r l d xs ys:=by
 obtain⟨nd,⟨i1,i2⟩,⟨o1,o2⟩,⟨e1,ex,e2,e3⟩,⟨r1,rx,r2,r3⟩,⟨l1,l2,l3⟩,⟨d1,d2,d3⟩⟩:=ok
 exact⟨by rw[he _ (by simp)];exact i2,⟨ex,by rw[he _ (by simp)];exact e2,e3.mono s⟩,⟨rx,by rw[he _ (by simp)];exact r2,r3.mono s⟩,⟨by rw[he _ (by simp)];exact l2,l3.fz s fun b hb=>he b (by simp[hb])⟩,⟨by rw[he _ (by simp)];exact d2,d3.mono s⟩⟩
def Zc.fz {P:Program}{w:World}{C:Addr}{N:Qz}{K:W.Frag}{F F' H:Hp}{v:V}{p:Qg}(h:(Zc P w C N).ok K F H v p)(s:Q2 F F')(he:∀b∈p,F' b=H b):(ZR P w C N).ok K F' v:=by
 obtain⟨a,dx,e,r,l,d,xs,ys,as,rfl,rfl,o⟩:=h
 exact⟨a,dx,e,r,l,d,xs,ys,rfl,o.fz s he⟩
def Jh (kvs:ZQ):ZP where
 ok K F v := ∃a xs,v=.ref a/\F a=some (.dT xs)/\PairD F xs kvs
 mono:=by
  rintro K F F' v s ⟨a,xs,rfl,h1,h2⟩
  exact⟨a,xs,rfl,s _ _ h1,h2.mono s⟩
def Vk.fz {kvs:ZQ}{K:W.Frag}{F F' H:Hp}{v:V}{p:Qg}(h:(Vk kvs).ok K F H v p)(s:Q2 F F')(he:∀b∈p,F' b=H b):(Jh kvs).ok K F' v:=by
 obtain⟨a,xs,rfl,rfl,h1,h2,h3⟩:=h
 exact⟨a,xs,rfl,by rw[he a Xa];exact h2,h3.mono s⟩
section
variable {K:W.Frag}{ρ:Q6}{D:PEnds}
def Q9.freezeZ {H0 F H:Hp}{σ:St}{i:Nat}{v:V}{Φ:OwnP}{Ψ:ZP}(s:Q9 K H0 F ρ σ H)(e:ρ[i]?=some (some (.own v Φ)))
 (hz:∀{F F' H:Hp} {u:V} {p:Qg},Φ.ok K F H u p->Q2 F F'->(∀b∈p,F' b=H b)->Ψ.ok K F' u) :
 ∃p,(∀a∈p,F a=none/\H a≠none/\H0 a=none)/\Q9 K H0 (frF F H p) (ρ.set i (some (.zow Ψ))) σ H:=by
 obtain⟨kt,h1,h2,fp,h3,h4,h5⟩:=s;obtain⟨u,e1,rfl,ok⟩:=h3 i _ e;have hlt:=(Xg.mp e).1;have th:=fun a ha=>Φ.there ok a ha;have sm:Q2 F (frF F H (fp i)):=Y1 fun a ha=>(th a ha).1;refine⟨fp i,fun a ha=>⟨(th a ha).1,(th a ha).2,(h5 i a ha).1⟩,kt.mono sm,WR h1,by simp[h2],fun j=>if j=i then [] else fp j,fun j t' e'=>?_,fun j k b hb hc=>?_,fun j b hb=>?_⟩
 ·by_cases hj:j=i
  ·subst hj
   rw[Xk hlt]at e';cases e';refine⟨_,e1,?_,hz ok sm fun b hb=>Ym hb⟩;dsimp only;rw[Xd rfl]
  ·rw[Xp (Ne.symm hj)]at e'
   obtain⟨u',f1,f2⟩:=h3 j t' e';refine⟨u',f1,?_⟩;dsimp only;rw[Xb hj];exact f2.frOther sm fun a ha z=>hj (h4 j i a ha z)
 ·by_cases hj:j=i
  ·simp[hj]at hb
  ·by_cases hk:k=i
   ·simp[hk]at hc
   ·simp only[Xb hj]at hb
    simp only[Xb hk]at hc;exact h4 j k b hb hc
 ·by_cases hj:j=i
  ·simp[hj]at hb
  ·simp only[Xb hj]at hb
   exact h5 j b hb
def N9 {t:TS}(i:Nat){v:V}{Φ:OwnP}{Ψ:ZP}(e:ρ[i]?=some (some (.own v Φ)))(hz:∀{F F' H:Hp} {u:V} {p:Qg},Φ.ok K F H u p->Q2 F F'->(∀b∈p,F' b=H b)->Ψ.ok K F' u)
 (h:Q1 K t (ρ.set i (some (.zow Ψ))) D):Q1 K t ρ D:=fun F0 H0 F σ H E x S C=>by
 obtain⟨p,hp,S'⟩:=S.freezeZ e hz;refine h F0 H0 _ σ H E ⟨x.hh,x.ff.trans (Y1 fun a ha=>(hp a ha).1),S'.sub,fun a ha=>?_⟩ S' C
 by_cases z:a∈p
 ·exact .inr (hp a z).2.2
 ·rw[Yb z]at ha;exact x.fr a ha
def C7 {t:TS}{P:Program}{w:World}{C:Addr}{N:Qz}{v:V}(i:Nat)(e:ρ[i]?=some (some (.own v (Zc P w C N))))(h:Q1 K t (ρ.set i (some (.zow (ZR P w C N)))) D):Q1 K t ρ D:=N9 i e (fun a b c=>Zc.fz a b c) h
def RN {t:TS}{kvs:ZQ}{v:V}(i:Nat)(e:ρ[i]?=some (some (.own v (Vk kvs))))(h:Q1 K t (ρ.set i (some (.zow (Jh kvs)))) D):Q1 K t ρ D:=N9 i e (fun a b c=>Vk.fz a b c) h
def Zl (K:W.Frag)(t:TE)(ρ:Q6)(Φ:OT->Prop):Prop := ∀(H0 F:Hp) (σ:St) (H:Hp) (Q:VK),Q9 K H0 F ρ σ H->(∀F' H' v p r,Φ r->Qx F H F' H'->(∀a∈p,H a=none)->Zk K F' H' v r p->Q v H')->t σ H Q
def EvO.d {t:TE}{r:OT}{Φ:OT->Prop}(h:EvO K t ρ r)(hr:Φ r):Zl K t ρ Φ:=fun H0 F σ H Q S q=>h H0 F σ H Q S fun F' H' v p x hp ok=>q F' H' v p r hr x hp ok
def Zl.o {t:TE}{r:OT}(h:Zl K t ρ (fun r'=>r'=r)):EvO K t ρ r:=fun H0 F σ H Q S q=>h H0 F σ H Q S fun F' H' v p r' e x hp ok=>by subst e;exact q F' H' v p x hp ok
def EvX.d {t:TE}{Φ0:OwnP}{Φ:OT->Prop}(h:EvX K t ρ Φ0)(hr:∀v,Φ (.own v Φ0)):Zl K t ρ Φ:=fun H0 F σ H Q S q=>h H0 F σ H Q S fun F' H' v p x hp ok=>q F' H' v p (.own v Φ0) (hr v) x hp ⟨rfl,ok⟩
def Wg {te:TE}{i:Nat}{Φ:OT->Prop}(h:Zl K te ρ Φ)(hn:∀r,Φ r->D.nx (ρ.set i (some r))):Q1 K (ZJ te (ZC i)) ρ D:=fun F0 H0 F σ H E x S C =>
 h H0 F σ H _ S fun F' H' v p r hr x' hp ok=>by
  refine C.nx F' _ H' _ (x.trans x') ((S.ext x').set ok (fun a ha=>x.hh.free (hp a ha)) (hn:=fun a ha j w t' q e1 e2 ok'=>?_)) (hn r hr);obtain⟨fp,g1,g2,g3⟩:=S.fp;obtain⟨w',f1,f2⟩:=g1 j t' e1;intro hq;have f3:=f2.ext x';rw[e2]at f1;cases f1
  exact(g3 j a (Uo (K:=K) f3 ok' a hq)).2 (hp a ha)
def D9 {te:TE}{Φ:OT->Prop}(h:Zl K te ρ Φ)(hr:∀r,Φ r->D.rt r):Q1 K (Yk te) ρ D:=fun F0 H0 F σ H E x S C =>
 h H0 F σ H _ S fun F' H' v p r e x' hp ok=>C.rt F' H' v r p (x.trans x') (fun a ha=>x.hh.free (hp a ha)) ok (hr r e)
def Dw {i:Nat}{v:V}{Φ:OwnP}(e:ρ[i]?=some (some (.own v Φ)))(hr:D.rt (.own v Φ)):Q1 K (Yk (QB i)) ρ D:=fun F0 H0 F σ H E x S C=>by
 obtain⟨fp,h,_,h5⟩:=S.fp;obtain⟨u,e1,e2⟩:=h i _ e
 exact⟨_,e1,C.rt F H u (.own v Φ) (fp i) x (fun a ha=>(h5 i a ha).1) e2 hr⟩
def WB (r:OT):Prop := ∀(K:W.Frag) (F F' H:Hp) (v:V) (p:Qg),(∀a∈p,F' a=none)->Zk K F H v r p->Zk K F' H v r p
def Rep.thin {F F':Hp}{v w:V}{d:PyData}(r:Rep F v d)(h:ZN d=some w):Rep F' v d:=by
 cases r<;>simp[ZN]at h
 ·exact .non
 ·exact .bl _
 ·exact .int _
 ·exact .str _
def W5 {d:PyData}{w:V}(h:ZN d=some w):WB (.fz d):=fun K F F' H v p _ ok=>⟨ok.1,ok.2.thin h⟩
def Rc {ds:Qd}(h:JZ ds):WB (.ol ds):=fun K F F' H v p hp ok=>by
 obtain⟨a,rfl,rfl,h1,xs,h2,h3⟩:=ok
 exact⟨a,rfl,rfl,hp a Xa,xs,h2,h3.flats h⟩
def MS (kvs:ZQ):Prop := ∀x∈kvs,∃w,ZN x.2=some w
theorem PairD.flats {F F':Hp}:∀{xs:List (List Key×V)} {kvs:ZQ},MS kvs->PairD F xs kvs->PairD F' xs kvs
 |_,_,_,.nil=>.nil
 |_,_,h,.cons r t=>by
   obtain⟨w,e⟩:=h _ Xa;exact .cons (r.thin e) (t.flats fun x hx=>h x (Xf _ hx))
def FQ {kvs:ZQ}{v:V}(h:MS kvs):WB (.own v (Vk kvs)):=fun K F F' H u p hp ok=>by
 obtain⟨e,a,xs,rfl,rfl,h1,h2,h3⟩:=ok
 exact⟨e,a,xs,rfl,rfl,hp a Xa,h2,h3.flats h⟩
def Sm {t:TE}{v:V}{Φ0:OwnP}{Ψ:ZP}{Φ:OT->Prop}(i:Nat)(e:ρ[i]?=some (some (.own v Φ0)))(hz:∀{F F' H:Hp} {u:V} {p:Qg},Φ0.ok K F H u p->Q2 F F'->(∀b∈p,F' b=H b)->Ψ.ok K F' u)
 (hf:∀r,Φ r->WB r) (h:Zl K t (ρ.set i (some (.zow Ψ))) Φ):Zl K t ρ Φ:=fun H0 F σ H Q S q=>by
 obtain⟨p,hp,S'⟩:=S.freezeZ e hz;refine h H0 _ σ H Q S' fun F' H' u pp r hr x hpp ok=>?_;refine q _ H' u pp r hr (Us (fun a ha=>⟨(hp a ha).1,(hp a ha).2.1⟩) x) hpp (hf r hr K F' _ H' u pp (fun a ha=>?_) ok)
 by_cases z:a∈p
 ·show(if a∈p then none else F' a)=none
  rw[Xd z]
 ·show(if a∈p then none else F' a)=none
  rw[Xb z];exact(ok.there a ha).1
def Hv {t:TE}{P:Program}{w:World}{C:Addr}{N:Qz}{v:V}{Φ:OT->Prop}(i:Nat)(e:ρ[i]?=some (some (.own v (Zc P w C N))))(hf:∀r,Φ r->WB r)(h:Zl K t (ρ.set i (some (.zow (ZR P w C N)))) Φ):Zl K t ρ Φ :=
 Sm i e (fun a b c=>Zc.fz a b c) hf h
def Ev {t:TE}{P:Program}{w:World}{C:Addr}{N:Qz}{v:V}{d:PyData}{u:V}(i:Nat)(e:ρ[i]?=some (some (.own v (Zc P w C N))))(hf:ZN d=some u)(h:Qu K t (ρ.set i (some (.zow (ZR P w C N)))) d):Qu K t ρ d :=
 EvO.e (Zl.o (Hv (Φ:=fun r=>r=.fz d) i e (fun r hr=>by subst hr;exact W5 hf) (h.o.d rfl)))
section
variable {tb te ty tx:TE}{i:Nat}{P:Program}{w:World}{C:Addr}{N:Qz}{k:List Key}
def Q9.netz {H0 F H:Hp}{σ:St}(S:Q9 K H0 F ρ σ H)(e:ρ[i]?=some (some (.zow (ZR P w C N)))):∃a dx el r l d xs ys,σ[i]?=some (some (.ref a))/\NetFz P w C N F a dx el r l d xs ys:=by
 obtain⟨fp,h,_⟩:=S.fp;obtain⟨v,e1,_,a,dx,el,r,l,d,xs,ys,rfl,h1⟩:=h i _ e
 exact⟨a,dx,el,r,l,d,xs,ys,e1,h1⟩
def DQ (c:NetC K C) (e:ρ[i]?=some (some (.zow (ZR P w C N)))) {k m:Int} (hb:Qu K tb ρ (.int k)) (hm:atI (N.rooms.map PyData.int) k=some (.int m)):Qu K (tOp (rIx K) (ZL K (QB i) "rooms") tb) ρ (.int m):=fun H0 F σ H Q S q=>by
 obtain⟨a,dx,el,r,l,d,xs,ys,e1,ok⟩:=S.netz e;refine⟨_,e1,a,C,dx,_,.ref r,rfl,S.sub _ _ ok.ins,c.cl,c.rooms,rfl,hb H0 F σ H _ S fun F1 H1 y x1 r1=>?_⟩
 cases r1
 obtain⟨rx,r2,r3⟩:=ok.rooms;obtain⟨z,z1,z2⟩:=Uu (r3.mono x1.ff) hm;exact .inl ⟨r,rx,k,z,rfl,rfl,SqL.of (x1.fh _ _ (x1.ff _ _ r2)),z1,q F1 H1 z x1 z2⟩
def R9 (c:NetC K C) (e:ρ[i]?=some (some (.zow (ZR P w C N)))) {k:Int} {n:PyData} (hb:Qu K tb ρ (.int k)) (hm:atI (N.ends.map QS) k=some n):Qu K (tOp (rIx K) (ZL K (QB i) "ends") tb) ρ n:=fun H0 F σ H Q S q=>by
 obtain⟨a,dx,el,r,l,d,xs,ys,e1,ok⟩:=S.netz e;refine⟨_,e1,a,C,dx,_,.ref el,rfl,S.sub _ _ ok.ins,c.cl,c.ends,rfl,hb H0 F σ H _ S fun F1 H1 y x1 r1=>?_⟩
 cases r1
 obtain⟨rx,r2,r3⟩:=ok.ends;obtain⟨z,z1,z2⟩:=Uu (r3.mono x1.ff) hm;exact .inl ⟨el,rx,k,z,rfl,rfl,SqL.of (x1.fh _ _ (x1.ff _ _ r2)),z1,q F1 H1 z x1 z2⟩
def CZ (c:NetC K C) (e:ρ[i]?=some (some (.zow (ZR P w C N)))) (hy:Qu K ty ρ (QS k)):Qu K (NA (ZL K (QB i) "leaving") ty (WG QP)) ρ (.list (((QL N.leav k).getD []).map PyData.int)):=fun H0 F σ H Q S q=>by
 obtain⟨a,dx,el,r,l,d,xs,ys,e1,ok⟩:=S.netz e;refine⟨_,e1,a,C,dx,_,.ref l,rfl,S.sub _ _ ok.ins,c.cl,c.leav,rfl,l,rfl,.inr ⟨xs,Rd.of (S.sub _ _ ok.leav.1)⟩,hy H0 F σ H _ S fun F1 H1 y x1 r1=>⟨XN _,fun p hp=>?_⟩⟩;obtain⟨b,rfl,hb⟩:=Wf r1;have S1:=S.ext x1;have x2:Qx F1 H1 (upd F1 p (.lst [])) (upd H1 p (.lst [])):=Qx.new S1.sub hp;have xx:=x1.trans x2;have lH:upd H1 p (.lst []) l=some (.dT xs):=xx.fh _ _ (xx.ff _ _ ok.leav.1);have bH:upd H1 p (.lst []) b=some (.tup (k.map kV)):=x2.fh _ _ (x2.ff _ _ hb);refine⟨Zs xs k,Vn.t lH bH,?_⟩
 rcases ok.leav.2.val k with ⟨z1,z2⟩|⟨c1,ns,zs,z1,z2,z3,z4⟩
 ·rw[z1]
  exact q _ _ _ xx (by rw[z2];exact .lst QC .nil)
 ·rw[z1]
  exact q _ _ _ xx (by rw[z2];exact .lst (xx.ff _ _ z3) (z4.mono xx.ff))
def FU (c:NetC K C) (e:ρ[i]?=some (some (.zow (ZR P w C N)))) {k1 k2:List Key} {n:Int} (hy:Qu K ty ρ (.tuple [QS k1,QS k2])) (hn:ZF N.laid (k1,k2)=some n):Qu K (KQ P w (ZL K (QB i) "laid") ty) ρ (.int n):=fun H0 F σ H Q S q=>by
 obtain⟨a,dx,el,r,l,d,xs,ys,e1,ok⟩:=S.netz e;refine⟨_,e1,a,C,dx,_,.ref d,rfl,S.sub _ _ ok.ins,c.cl,c.laid,rfl,hy H0 F σ H _ S fun F2 H2 y x2 r2=>?_⟩;obtain⟨b,rfl,hb⟩:=DP r2;have S2:=S.ext x2;have d3:=ok.laid.2.mono x2.ff
 exact⟨d,b,ys,(k1,k2),.int n,rfl,rfl,x2.fh _ _ (x2.ff _ _ ok.laid.1),d3.at S2.sub,hb.mono fun c' z ez=>S2.sub _ _ ez,by rw[d3.val,hn];rfl,q F2 H2 _ x2 (.int n)⟩
def AO (c:NetC K C) {k1 k2:List Key} (hy:Qu K ty ρ (.tuple [QS k1,QS k2])) (e:ρ[i]?=some (some (.zow (ZR P w C N)))):Qu K (Rv P w ty (ZL K (QB i) "laid")) ρ (.bool (!(ZF N.laid (k1,k2)).isSome)):=fun H0 F σ H Q S q =>
 hy H0 F σ H _ S fun F2 H2 y x2 r2=>by
  have S2:=S.ext x2;obtain⟨a,dx,el,r,l,d,xs,ys,e1,ok⟩:=S2.netz e;obtain⟨b,rfl,hb⟩:=DP r2;have d3:=ok.laid.2;refine⟨_,e1,a,C,dx,_,.ref d,rfl,S2.sub _ _ ok.ins,c.cl,c.laid,rfl,d,b,ys,(k1,k2),rfl,rfl,S2.sub _ _ ok.laid.1,d3.at S2.sub,hb.mono fun c' z ez=>S2.sub _ _ ez,q F2 H2 _ x2 ?_⟩;rw[d3.val,Jd];exact .bl _
def Q9.dctz {H0 F H:Hp}{σ:St}{kvs:ZQ}(S:Q9 K H0 F ρ σ H)(e:ρ[i]?=some (some (.zow (Jh kvs)))):∃a xs,σ[i]?=some (some (.ref a))/\F a=some (.dT xs)/\PairD F xs kvs:=by
 obtain⟨fp,h,_⟩:=S.fp;obtain⟨v,e1,_,a,xs,rfl,h1,h2⟩:=h i _ e
 exact⟨a,xs,e1,h1,h2⟩
def Rp {kvs:ZQ}{d:PyData}(e:ρ[i]?=some (some (.zow (Jh kvs))))(hy:Qu K ty ρ (QS k))(hd:V7 kvs k=some d):Qu K (Nc (QB i) ty) ρ d:=fun H0 F σ H Q S q=>by
 obtain⟨a,xs,e1,_⟩:=S.dctz e;refine⟨_,e1,hy H0 F σ H _ S fun F1 H1 y x1 r1=>?_⟩;obtain⟨a',xs',e1',f2,f3⟩:=(S.ext x1).dctz e;rw[e1]at e1';cases e1';obtain⟨b,rfl,hb⟩:=Wf r1
 rcases f3.val k with ⟨_,z⟩|⟨x,d',z1,z2,z3⟩
 ·rw[hd]at z;cases z
 ·rw[hd]at z2
  cases z2
  exact⟨a,x,rfl,z1▸Vn.t (x1.fh _ _ f2) (x1.fh _ _ hb),q F1 H1 x x1 z3⟩
def TR {kvs:ZQ}(hy:Qu K ty ρ (QS k))(e:ρ[i]?=some (some (.zow (Jh kvs)))):Qu K (GJ ty (QB i)) ρ (.bool (V7 kvs k).isSome):=fun H0 F σ H Q S q =>
 hy H0 F σ H _ S fun F1 H1 y x1 r1=>by
  obtain⟨a,xs,e1,f2,f3⟩:=(S.ext x1).dctz e;obtain⟨b,rfl,hb⟩:=Wf r1
  exact⟨_,e1,a,_,rfl,Vn.t (x1.fh _ _ f2) (x1.fh _ _ hb),q F1 H1 _ x1 (by rw[Hy f3];exact .bl _)⟩
end
end
def Zg (K:W.Frag)(R:List OT->(OT->Prop)->Prop):Sp:=fun vs H Q _=>∃F ts Φ,KTs K F/\Q2 F H/\Args K F vs ts/\R ts Φ/\∀F' H' v p r,Φ r->Qx F H F' H'->(∀a∈p,H a=none)->Zk K F' H' v r p->Q v H'
def GL (K:W.Frag)(t:TA)(ρ:Q6)(Φ:List OT->Prop):Prop := ∀(H0 F:Hp) (σ:St) (H:Hp) (Q:List V->Hp->Prop),Q9 K H0 F ρ σ H->(∀F' H' vs ts,Φ ts->Qx F H F' H'->Args K F' vs ts->Q vs H')->t σ H Q
section
variable {K:W.Frag}{ρ:Q6}{D:PEnds}
def VR {R:List OT->(OT->Prop)->Prop}{t:TA}{E:XK}{ts:List OT}{Φ:OT->Prop}(h:Zn K t ρ ts)(hR:R ts Φ):Zl K (VA (Zg K R) [] E t) ρ Φ:=fun H0 F σ H Q S q =>
 h H0 F σ H _ S fun F1 H1 vs x1 r1=>⟨F1,ts,Φ,(S.ext x1).kt,x1.fh,by rw[Xz];exact r1,hR,fun F2 H2 v p r hr x2 hp ok=>q F2 H2 v p r hr (x1.trans x2) (fun a ha=>x1.hh.free (hp a ha)) ok⟩
def Wz {t:TA}{ts:List OT}{Φ:List OT->Prop}(h:Zn K t ρ ts)(hp:Φ ts):GL K t ρ Φ:=fun H0 F σ H Q S q=>h H0 F σ H Q S fun F' H' vs x r=>q F' H' vs ts hp x r
def TW {ta:TE}{Φ:OT->Prop}{Φ':List OT->Prop}(h:Zl K ta ρ Φ)(hi:∀r,Φ r->∃ds,r=.ol ds/\Φ' [.fz (.list ds)]):GL K (QE ta QP) ρ Φ':=fun H0 F σ H Q S q =>
 h H0 F σ H _ S fun F1 H1 v p r hr x hp ok=>by
  obtain⟨ds,rfl,hp'⟩:=hi r hr;obtain⟨a,rfl,rfl,r1,xs,r2,r3⟩:=ok;exact q (upd F1 a (.lst xs)) H1 [.ref a] _ hp' (x.freeze r1 r2 (hp a Xa)) (.fz (.lst QC (r3.mono (Q2.new r1))) .nil)
section
variable {P:Program}{w:World}{C:Addr}{N:Qz}{i:Nat}{m:Str}
def NoF (m:Str):Prop := ∀e r l d:Addr,([("ends",V.ref e),("rooms",V.ref r),("leaving",V.ref l),("laid",V.ref d)]:List (Str×V)).lookup m=none
def DF {R:List OT->(OT->Prop)->Prop}{t:TA}{E:XK}{ts:List OT}{Φ:OT->Prop}(hm:NoF m)(e:ρ[i]?=some (some (.zow (ZR P w C N))))(h:Zn K t ρ ts)(hR:R (.zow (ZR P w C N)::ts) Φ) :
 Zl K (ZY C m (Zg K R) [] E (QB i) t) ρ Φ:=fun H0 F σ H Q S q=>by
 obtain⟨a,dx,el,r,l,d,xs,ys,e1,ok⟩:=S.netz e;refine⟨_,e1,a,dx,_,rfl,S.sub _ _ ok.ins,hm _ _ _ _,h H0 F σ H _ S fun F1 H1 vs x1 r1=>?_⟩;refine⟨F1,_,Φ,(S.ext x1).kt,x1.fh,.zow (Ψ:=ZR P w C N) ⟨a,dx,el,r,l,d,xs,ys,rfl,ok.mono x1.ff⟩ (by rw[Xz];exact r1),hR,fun F2 H2 v p r' hr x2 hp ok'=>q F2 H2 v p r' hr (x1.trans x2) (fun b hb=>x1.hh.free (hp b hb)) ok'⟩
def CI {R:List OT->(OT->Prop)->Prop}{ta:TE}{t:TA}{E:XK}{ts:List OT}{Φ1 Φ:OT->Prop}(hm:NoF m)(h1:Zl K ta ρ Φ1)(hz:∀r,Φ1 r->∃v N,r=.own v (Zc P w C N)/\∃Φ2,R (.zow (ZR P w C N)::ts) Φ2/\∀r,Φ2 r->Φ r)
 (h:Zn K t ρ ts):Zl K (ZY C m (Zg K R) [] E ta t) ρ Φ:=fun H0 F σ H Q S q =>
 h1 H0 F σ H _ S fun F1 H1 v p r hr x1 hp ok=>by
  obtain⟨v0,N,rfl,Φ2,hR,hi⟩:=hz r hr;obtain⟨rfl,ok⟩:=ok;have th:=fun a ha=>(Zc P w C N).there ok a ha;have sm:Q2 F1 (frF F1 H1 p):=Y1 fun a ha=>(th a ha).1
  have x1':Qx F H (frF F1 H1 p) H1:=⟨x1.hh,x1.ff.trans sm,WR x1.fh,fun a ha=>by
   by_cases z:a∈p
   ·exact .inr (hp a z)
   ·rw[Yb z]at ha;exact x1.fr a ha⟩
  obtain⟨a,dx,el,r,l,d,xs,ys,as,rfl,rfl,o⟩:=ok;refine⟨a,dx,_,rfl,o.ins.2,hm _ _ _ _,h H0 _ σ H1 _ (S.ext x1') fun F2 H2 vs x2 r2=>?_⟩;have z:=o.fz sm (fun b hb=>Ym hb)
  exact⟨F2,_,Φ2,(S.ext (x1'.trans x2)).kt,x2.fh,.zow (Ψ:=ZR P w C N) ⟨a,dx,el,r,l,d,xs,ys,rfl,z.mono x2.ff⟩ (by rw[Xz];exact r2),hR,fun F3 H3 v p' r' hr' x3 hp' ok'=>q F3 H3 v p' r' (hi r' hr') ((x1'.trans x2).trans x3) (fun b hb=>(x1'.trans x2).hh.free (hp' b hb)) ok'⟩
structure ExtN (p:Qg)(F H F' H':Hp):Prop where
 hh:∀b o,b∉p->H b=some o->H' b=some o
 ff:Q2 F F'
 fh:Q2 F' H'
 fr:∀b,F' b≠none->F b≠none\/H b=none\/b∈p
def spN (K:W.Frag)(P:Program)(w:World)(C:Addr)(R:Qz->List OT->(Qz->Prop)->Prop):Sp:=fun vs H Q _=>∃F a vs' p ts N Ψ,vs=.ref a::vs'/\KTs K F/\Q2 F H/\Args K F vs' ts/\(Zc P w C N).ok K F H (.ref a) p/\R N ts Ψ /\
 ∀F' H' p' N',Ψ N'->ExtN p F H F' H'->(Zc P w C N').ok K F' H' (.ref a) p'->(∀b∈p',b∈p\/H b=none)->Q .non H'
theorem Zt.move {F F' H H':Hp}(s:Q2 F F'):∀{as:Qg} {dss:List (Qd)},(∀a∈as,F' a=none)->(∀a∈as,H' a=H a)->Zt F H as dss->Zt F' H' as dss
 |[],[],_,_,_=>trivial
 |a::as,_::_,hF,hH,o=>by
   obtain⟨⟨h1,xs,h2,h3⟩,o2⟩:=o
   exact⟨⟨hF a Xa,xs,by rw[hH a Xa];exact h2,h3.mono s⟩,Zt.move s (fun b hb=>hF b (Xf _ hb)) (fun b hb=>hH b (Xf _ hb)) o2⟩
 |[],_::_,_,_,h=>False.elim h
 |_::_,[],_,_,h=>False.elim h
def Zk.move {F F' H H':Hp}{v:V}{t:OT}{p:Qg}(s:Q2 F F')(hF:∀a∈p,F' a=none)(hH:∀a∈p,H' a=H a)(h:Zk K F H v t p):Zk K F' H' v t p:=by
 cases t with
 |fz d=>exact⟨h.1,h.2.mono s⟩
 |zow Ψ=>exact⟨h.1,Ψ.mono s h.2⟩
 |ol ds =>
   obtain⟨a,rfl,rfl,h1,xs,h2,h3⟩:=h
   exact⟨a,rfl,rfl,hF a Xa,xs,by rw[hH a Xa];exact h2,h3.mono s⟩
 |oll dss =>
   obtain⟨a,as,rfl,rfl,h1,h2,h3,h4⟩:=h
   exact⟨a,as,rfl,rfl,h1,hF a Xa,by rw[hH a Xa];exact h3,h4.move s (fun b hb=>hF b (Xf _ hb)) fun b hb=>hH b (Xf _ hb)⟩
 |scr ns=>obtain⟨h1,a,h2,h3⟩:=h;exact⟨h1,a,h2,h3.mono s⟩
 |own v0 Φ=>exact⟨h.1,Φ.mono s hF hH h.2⟩
def Sc {F0 H0 F H:Hp}{σ:St}{E:Ends}{v:V}{Ψ:Qz->Prop}(S:Q9 K H0 F ρ σ H)(x:Qx F0 H0 F H)(e:ρ[i]?=some (some (.own v (Zc P w C N))))(hn:∀N',Ψ N'->D.nx (ρ.set i (some (.own v (Zc P w C N')))))(C':Cnv K F0 H0 D E) :
 ∃a p,v=.ref a/\(Zc P w C N).ok K F H (.ref a) p/\∀F' H' p' N',Ψ N'->ExtN p F H F' H'->(Zc P w C N').ok K F' H' (.ref a) p'->(∀b∈p',b∈p\/H b=none)->E.nx σ H':=by
 obtain⟨kt,h1,h2,fp,h3,h4,h5⟩:=S;obtain⟨u,e1,rfl,ok⟩:=h3 i _ e;obtain⟨a,_,_,_,_,_,_,_,_,rfl,_⟩:=id ok;have hlt:=(Xg.mp e).1;refine⟨a,fp i,rfl,ok,fun F' H' p' N' hN xn ok' sub=>?_⟩;have out:∀j,j≠i->∀b∈fp j,b∉fp i:=fun j hj b hb z=>hj (h4 j i b hb z)
 have hH:∀j,j≠i->∀b∈fp j,H' b=H b:=fun j hj b hb=>by
  obtain⟨o,ho⟩:=Uh (h5 j b hb).2;rw[xn.hh b o (out j hj b hb) ho,ho]
 refine C'.nx F' σ H' _ ⟨fun b o hb=>xn.hh b o (fun z=>by rw[(h5 i b z).1]at hb;cases hb) (x.hh b o hb),x.ff.trans xn.ff,xn.fh,fun b hb=>?_⟩ ⟨kt.mono xn.ff,xn.fh,by simp[h2],fun j=>if j=i then p' else fp j,fun j t' e'=>?_,fun j k b hb hc=>?_,fun j b hb=>?_⟩ (hn N' hN)
 ·rcases xn.fr b hb with z|z|z
  ·exact x.fr b z
  ·exact .inr (x.hh.free z)
  ·exact .inr (h5 i b z).1
 ·by_cases hj:j=i
  ·subst hj
   rw[Xk hlt]at e';cases e';refine⟨_,e1,rfl,?_⟩;simp only[if_true];exact ok'
  ·rw[Xp (Ne.symm hj)]at e'
   obtain⟨u',f1,f2⟩:=h3 j t' e';refine⟨u',f1,?_⟩;simp only[Xb hj];refine f2.move xn.ff (fun b hb=>?_) (hH j hj)
   cases z:F' b with
   |none=>rfl
   |some o =>
     rcases xn.fr b (Zm z) with y|y|y
     ·exact Xl (f2.there b hb).1 y
     ·exact Xl y (h5 j b hb).2
     ·exact Xl y (out j hj b hb)
 ·by_cases hj:j=i
  ·by_cases hk:k=i
   ·omega
   ·simp only[Xd hj]at hb
    simp only[Xb hk]at hc;rcases sub b hb with z|z
    ·exact Xl (h4 k i b hc z) hk
    ·exact Xl z (h5 k b hc).2
  ·simp only[Xb hj]at hb
   by_cases hk:k=i
   ·simp only[Xd hk]at hc
    rcases sub b hc with z|z
    ·exact Xl (h4 j i b hb z) hj
    ·exact Xl z (h5 j b hb).2
   ·simp only[Xb hk]at hc
    exact h4 j k b hb hc
 ·by_cases hj:j=i
  ·simp only[Xd hj]at hb
   refine⟨?_,((Zc P w C N').there ok' b hb).2⟩
   rcases sub b hb with z|z
   ·exact(h5 i b z).1
   ·exact x.hh.free z
  ·simp only[Xb hj]at hb
   exact⟨(h5 j b hb).1,by rw[hH j hj b hb];exact(h5 j b hb).2⟩
def WW {R:Qz->List OT->(Qz->Prop)->Prop}{t:TA}{E':XK}{v:V}{ΦA:List OT->Prop}(hm:NoF m)(e:ρ[i]?=some (some (.own v (Zc P w C N))))(hA:GL K t ρ ΦA)
 (hR:∀ts,ΦA ts->∃Ψ,R N ts Ψ/\∀N',Ψ N'->D.nx (ρ.set i (some (.own v (Zc P w C N'))))):Q1 K (Vh (ZY C m (spN K P w C R) [] E' (QB i) t)) ρ D:=fun F0 H0 F σ H E x S C'=>by
 obtain⟨a,dx,el,r,l,d,xs,ys,as,rfl,e1,ok,_⟩:=S.net e;refine⟨_,e1,a,dx,_,rfl,ok.ins.2,hm _ _ _ _,hA H0 F σ H _ S fun F1 H1 vs ts ht x1 r1=>?_⟩;obtain⟨Ψ,hR',hn⟩:=hR ts ht;obtain⟨a',p,ea,okp,fin⟩:=Sc (S.ext x1) (x.trans x1) e hn C'
 cases ea
 exact⟨F1,a,vs++[],p,ts,N,Ψ,rfl,(S.ext x1).kt,x1.fh,by rw[Xz];exact r1,okp,hR',fin⟩
def RQ {R:Qz->List OT->(Qz->Prop)->Prop}{t:TA}{E':XK}{v:V}{ΦA:List OT->Prop}(e:ρ[i]?=some (some (.own v (Zc P w C N))))(hA:GL K t ρ ΦA)
 (hR:∀ts,ΦA ts->∃Ψ,R N ts Ψ/\∀N',Ψ N'->D.nx (ρ.set i (some (.own v (Zc P w C N'))))):Q1 K (Vh (VA (spN K P w C R) [] E' (QE (QB i) t))) ρ D:=fun F0 H0 F σ H E x S C'=>by
 obtain⟨a,dx,el,r,l,d,xs,ys,as,rfl,e1,ok,_⟩:=S.net e;refine⟨_,e1,hA H0 F σ H _ S fun F1 H1 vs ts ht x1 r1=>?_⟩;obtain⟨Ψ,hR',hn⟩:=hR ts ht;obtain⟨a',p,ea,okp,fin⟩:=Sc (S.ext x1) (x.trans x1) e hn C'
 cases ea
 exact⟨F1,a,vs++[],p,ts,N,Ψ,rfl,(S.ext x1).kt,x1.fh,by rw[Xz];exact r1,okp,hR',fin⟩
def spI (P:Program)(w:World)(C:Addr):Sp:=fun vs H Q _=>∃x dx,vs=[.ref x]/\H x=some (.ins C dx [])/\∀e r l d H',H e=none->H r=none->H l=none->H d=none->[x,e,r,l,d].Nodup ->
 H' x=some (.ins C dx [("ends",.ref e),("rooms",.ref r),("leaving",.ref l),("laid",.ref d)])->H' e=some (.lst [])->H' r=some (.lst [])->H' l=some (.dT [])->H' d=some (pdO P w d [])->(∀b,b∉[x,e,r,l,d]->H' b=H b)->Q .non H'
def Lm {E:XK}:EvX K (JN C (spI P w C) [] E QP) ρ (Zc P w C ⟨[],[],[],[]⟩):=fun H0 F σ H Q S q=>fun x dx hx hdx ne=>by
 refine⟨x,dx,rfl,QC,fun e r l d H' he hr hl hd nd h1 h2 h3 h4 h5 ho=>⟨rfl,?_⟩⟩
 have un:∀{b:Addr},upd (upd H dx (.own x)) x (.ins C dx []) b=none->H b=none/\b≠x/\b≠dx:=fun{b} hb=>by
  have n1:b≠x:=fun z=>by rw[z,QC]at hb;cases hb
  rw[Qs n1]at hb;have n2:b≠dx:=fun z=>by rw[z,QC]at hb;cases hb
  rw[Qs n2]at hb;exact⟨hb,n1,n2⟩
 obtain⟨e1,e2,e3⟩:=un he;obtain⟨r1,r2,r3⟩:=un hr;obtain⟨l1,l2,l3⟩:=un hl;obtain⟨d1,d2,d3⟩:=un hd
 have hdx':H' dx=some (.own x):=by
  rw[ho dx (by simp only[Xe,XM,or_false,not_or];exact⟨ne,Ne.symm e3,Ne.symm r3,Ne.symm l3,Ne.symm d3⟩),Qs ne,QC]
 have kp:∀b o,H b=some o->H' b=some o:=fun b o hb=>by
  have nb:∀{c:Addr},H c=none->b≠c:=fun hc z=>by rw[z,hc]at hb;cases hb
  rw[ho b (by simp only[Xe,XM,or_false,not_or];exact⟨nb hx,nb e1,nb r1,nb l1,nb d1⟩),Qs (nb hx),Qs (nb hdx)];exact hb
 have fr:∀{b:Addr},H b=none->F b=none:=fun hb=>S.sub.free hb;refine q F H' (.ref x) [x,dx,e,r,l,d] ⟨kp,Q2.refl _,fun b o hb=>kp b o (S.sub b o hb),fun _ h=>.inl h⟩ (fun b hb=>?_) ⟨x,dx,e,r,l,d,[],[],[],rfl,rfl,?_,⟨fr hx,h1⟩,⟨fr hdx,hdx'⟩,⟨fr e1,[],h2,.nil⟩,⟨fr r1,[],h3,.nil⟩,⟨fr l1,h4,.nil⟩,⟨fr d1,h5,.nil⟩⟩
 ·simp only[Xe,XM,or_false]at hb
  rcases hb with rfl|rfl|rfl|rfl|rfl|rfl
  ·exact hx
  ·exact hdx
  ·exact e1
  ·exact r1
  ·exact l1
  ·exact d1
 ·simp only[XF,Xe,XM,or_false,not_or,not_false_eq_true,Jb,and_true]at nd ⊢
  obtain⟨⟨a1,a2,a3,a4⟩,b1,c1,f1⟩:=nd
  exact⟨⟨Ne.symm ne,a1,a2,a3,a4⟩,⟨Ne.symm e3,Ne.symm r3,Ne.symm l3,Ne.symm d3⟩,b1,c1,f1⟩
end
end
section
variable {P:Program}{w:World}{K:W.Frag}{mg:Str->Qf}{base:Heap}
def Fun.evD {x qual:Str}{st:Stmt}{f:Addr}{fd:FuncData}{N ps:Qh}{k:Nat}{R:List OT->(OT->Prop)->Prop}(F:Fun K x qual st f fd)(S:Qp N ps (Q0 st))(len:∀ts Φ,R ts Φ->ts.length=ps.length)
 (XaV:∀(cdv:Value) (A:Around) (outer:List Env) (s:Shared) (H:Hp) (E:XK) (ts:List OT) (Φ:OT->Prop),Room k (A.deeper (envOfC qual (Q0 st) s.heap.objs.size f cdv))->R ts Φ ->
  ∃t,PSs (Vd CX0 P w K mg base N qual (Q0 st) f cdv A outer s H E).nox (Zx st) t/\Q1 K t (ts.map some++List.replicate (N.length-ts.length) none) { nx:=fun _=>Φ (.fz .none),rt:=Φ }):FnOk P w K mg base CX0 (k+1) f fd ps (Zg K R):=by
 refine F.ok S (fun vs H Q E ⟨F,ts,Φ,_,_,ha,hR,_⟩=>ha.length.trans (len ts Φ hR)) fun cdv A outer s H vs Q E hr ⟨F,ts,Φ,kt,sm,ha,hR,q⟩=>?_;obtain⟨t,h1,h2⟩:=XaV cdv A outer s H E ts Φ hr hR;refine⟨t,h1,h2 F H F (start N vs) H _ (Qx.refl sm) ⟨kt,sm,?_,fun _=>[],fun i t' e=>?_,fun i j a h=>(nomatch h),fun i a h=>(nomatch h)⟩ ⟨fun F' σ' H' ρ' x' _ e=>?_,fun F' H' v r' p x' hp ok e=>q F' H' v p r' e x' hp ok,fun _ _ _ _ _ _ z=>False.elim z,fun _ _ _ _ _ _ z=>False.elim z⟩⟩
 ·unfold start
  simp[ha.length]
 ·have hlt:i<ts.length:=by
   by_cases z:i<ts.length
   ·exact z
   ·rw[XY (by simpa using z)]at e
    have:=List.mem_of_getElem? e
    simp at this
  rw[XH (by simpa using hlt),Xt]at e;have e':ts[i]?=some t':=by
   cases z:ts[i]? with
   |none=>rw[z]at e;simp at e
   |some w=>rw[z]at e;simp at e;rw[e]
  obtain⟨v,e1,e2⟩:=ha.get (H:=H) i t' e';refine⟨v,?_,e2⟩;unfold start;have hl2:i<vs.length:=by rw[ha.length];exact hlt
  rw[XH (by simpa using hl2),Xt,e1];rfl
 ·exact q F' H' _ [] _ e x' (fun _ z=>nomatch z) ⟨rfl,.non⟩
def Fun.evN {C:Addr}{x qual:Str}{st:Stmt}{f:Addr}{fd:FuncData}{N ps:Qh}{k:Nat}{R:Qz->List OT->(Qz->Prop)->Prop}(F:Fun K x qual st f fd)(S:Qp N ps (Q0 st))(len:∀M ts Ψ,R M ts Ψ->ts.length+1=ps.length)
 (XaV:∀(cdv:Value) (A:Around) (outer:List Env) (s:Shared) (H:Hp) (E:XK) (v:V) (M:Qz) (ts:List OT) (Ψ:Qz->Prop),Room k (A.deeper (envOfC qual (Q0 st) s.heap.objs.size f cdv))->R M ts Ψ ->
  ∃t,PSs (Vd CX0 P w K mg base N qual (Q0 st) f cdv A outer s H E).nox (Zx st) t/\Q1 K t (some (.own v (Zc P w C M))::(ts.map some++List.replicate (N.length-(ts.length+1)) none)) { nx:=fun ρ'=>∃M',Ψ M'/\ρ'[0]?=some (some (.own v (Zc P w C M'))),rt:=fun _=>False }) :
 FnOk P w K mg base CX0 (k+1) f fd ps (spN K P w C R):=by
 refine F.ok S (fun vs H Q E ⟨F,a,vs',p,ts,M,Ψ,e,_,_,ha,_,hR,_⟩=>by rw[e,Oq,ha.length];exact len _ _ _ hR) fun cdv A outer s H vs Q E hr ⟨F,a,vs',p,ts,M,Ψ,e,kt,sm,ha,ok,hR,q⟩=>?_;subst e;obtain⟨t,h1,h2⟩:=XaV cdv A outer s H E (.ref a) M ts Ψ hr hR
 have h0:∀b,(fun b=>if b∈p then none else H b:Hp) b=none->b∈p\/H b=none:=fun b hb=>by
  by_cases z:b∈p
  ·exact .inl z
  ·simp only[Xb z]at hb;exact .inr hb
 have th:=fun b hb=>(Zc P w C M).there ok b hb
 refine⟨t,h1,h2 F (fun b=>if b∈p then none else H b) F (start N (.ref a::vs')) H _ ⟨fun b o hb=>?_,Q2.refl _,sm,fun _ h=>.inl h⟩ ⟨kt,sm,?_,fun j=>if j=0 then p else [],fun j t' e=>?_,fun j k' b hb hc=>?_,fun j b hb=>?_⟩
  ⟨fun F' σ' H' ρ' x' S' ⟨M',hM,e0⟩=>?_,fun F' H' v r' p x' hp ok e=>False.elim e,fun _ _ _ _ _ _ z=>False.elim z,fun _ _ _ _ _ _ z=>False.elim z⟩⟩
 ·by_cases z:b∈p
  ·simp[z]at hb
  ·simp only[Xb z]at hb;exact hb
 ·unfold start
  simp[ha.length]
 ·cases j with
  |zero =>
    simp at e
    subst e;refine⟨.ref a,?_,rfl,?_⟩
    ·unfold start
     simp
    ·simp only[if_true]
     exact ok
  |succ i =>
    rw[UC]at e;have hlt:i<ts.length:=by
     by_cases z:i<ts.length
     ·exact z
     ·rw[XY (by simpa using z)]at e
      have:=List.mem_of_getElem? e
      simp at this
    rw[XH (by simpa using hlt),Xt]at e;have e':ts[i]?=some t':=by
     cases z:ts[i]? with
     |none=>rw[z]at e;simp at e
     |some w=>rw[z]at e;simp at e;rw[e]
    obtain⟨v,e1,e2⟩:=ha.get (H:=H) i t' e';refine⟨v,?_,?_⟩
    ·unfold start
     have hl2:i<vs'.length:=by rw[ha.length];exact hlt
     rw[Xu,Jc,UC,XH (by simpa using hl2),Xt,e1];rfl
    ·simp only[Nat.add_one_ne_zero,if_false]
     exact e2
 ·by_cases hj:j=0
  ·by_cases hk:k'=0
   ·rw[hj,hk]
   ·simp[hk]at hc
  ·simp[hj]at hb
 ·by_cases hj:j=0
  ·simp only[Xd hj]at hb
   exact⟨by simp[hb],(th b hb).2⟩
  ·simp[hj]at hb
 ·obtain⟨fp,g1,g2,g3⟩:=S'.fp
  obtain⟨u,u1,rfl,ok'⟩:=g1 0 _ e0;refine q F' H' (fp 0) M' hM ⟨fun b o nb hb=>x'.hh b o (by simp only[Xb nb];exact hb),x'.ff,x'.fh,fun b hb=>?_⟩ ok' (fun b hb=>h0 b (g3 0 b hb).1)
  rcases x'.fr b hb with z|z
  ·exact .inl z
  ·exact .inr ((h0 b z).symm)
structure Mf (K:W.Frag)(C:Addr)(m qual:Str)(st:Stmt)(ps:Qh):Prop where
 ex:∃f fd,Fun K m qual st f fd/\Meth K C m f/\Ve K fd ps []
def Zv (P:Program)(w:World)(K:W.Frag)(mg:Str->Qf)(base:Heap)(C:Addr)(m:Str)(ps:Qh)(k:Nat)(sp:Sp):Prop :=
 ∃f fd,Meth K C m f/\Ve K fd ps []/\FnOk P w K mg base CX0 k f fd ps sp
def Mf.evD {C:Addr}{m qual:Str}{st:Stmt}{N ps:Qh}{k:Nat}{R:List OT->(OT->Prop)->Prop}(D:Mf K C m qual st ps)(S:Qp N ps (Q0 st))(len:∀ts Φ,R ts Φ->ts.length=ps.length)
 (XaV:∀(f:Addr) (cdv:Value) (A:Around) (outer:List Env) (s:Shared) (H:Hp) (E:XK) (ts:List OT) (Φ:OT->Prop),Room k (A.deeper (envOfC qual (Q0 st) s.heap.objs.size f cdv))->R ts Φ ->
  ∃t,PSs (Vd CX0 P w K mg base N qual (Q0 st) f cdv A outer s H E).nox (Zx st) t/\Q1 K t (ts.map some++List.replicate (N.length-ts.length) none) { nx:=fun _=>Φ (.fz .none),rt:=Φ }):Zv P w K mg base C m ps (k+1) (Zg K R):=by
 obtain⟨f,fd,F,hm,hb⟩:=D.ex
 exact⟨f,fd,hm,hb,F.evD S len fun cdv A outer s H E ts Φ=>XaV f cdv A outer s H E ts Φ⟩
def Mf.evN {C:Addr}{m qual:Str}{st:Stmt}{N ps:Qh}{k:Nat}{R:Qz->List OT->(Qz->Prop)->Prop}(D:Mf K C m qual st ps)(S:Qp N ps (Q0 st))(len:∀M ts Ψ,R M ts Ψ->ts.length+1=ps.length)
 (XaV:∀(f:Addr) (cdv:Value) (A:Around) (outer:List Env) (s:Shared) (H:Hp) (E:XK) (v:V) (M:Qz) (ts:List OT) (Ψ:Qz->Prop),Room k (A.deeper (envOfC qual (Q0 st) s.heap.objs.size f cdv))->R M ts Ψ ->
  ∃t,PSs (Vd CX0 P w K mg base N qual (Q0 st) f cdv A outer s H E).nox (Zx st) t/\Q1 K t (some (.own v (Zc P w C M))::(ts.map some++List.replicate (N.length-(ts.length+1)) none)) { nx:=fun ρ'=>∃M',Ψ M'/\ρ'[0]?=some (some (.own v (Zc P w C M'))),rt:=fun _=>False }) :
 Zv P w K mg base C m ps (k+1) (spN K P w C R):=by
 obtain⟨f,fd,F,hm,hb⟩:=D.ex
 exact⟨f,fd,hm,hb,F.evN S len fun cdv A outer s H E v M ts Ψ=>XaV f cdv A outer s H E v M ts Ψ⟩
def Df.evD {x:Str}{st:Stmt}{N ps:Qh}{k:Nat}{R:List OT->(OT->Prop)->Prop}(D:Df K mg x st ps)(S:Qp N ps (Q0 st))(len:∀ts Φ,R ts Φ->ts.length=ps.length)
 (XaV:∀(f:Addr) (cdv:Value) (A:Around) (outer:List Env) (s:Shared) (H:Hp) (E:XK) (ts:List OT) (Φ:OT->Prop),Room k (A.deeper (envOfC x (Q0 st) s.heap.objs.size f cdv))->R ts Φ ->
  ∃t,PSs (Vd CX0 P w K mg base N x (Q0 st) f cdv A outer s H E).nox (Zx st) t/\Q1 K t (ts.map some++List.replicate (N.length-ts.length) none) { nx:=fun _=>Φ (.fz .none),rt:=Φ }):QD P w K mg base x ps (k+1) (Zg K R):=by
 obtain⟨f,fd,F,hm,hb⟩:=D.ex
 exact⟨f,fd,hm,F.kp,hb,F.evD S len fun cdv A outer s H E ts Φ=>XaV f cdv A outer s H E ts Φ⟩
def Df.evN {C:Addr}{x:Str}{st:Stmt}{N ps:Qh}{k:Nat}{R:Qz->List OT->(Qz->Prop)->Prop}(D:Df K mg x st ps)(S:Qp N ps (Q0 st))(len:∀M ts Ψ,R M ts Ψ->ts.length+1=ps.length)
 (XaV:∀(f:Addr) (cdv:Value) (A:Around) (outer:List Env) (s:Shared) (H:Hp) (E:XK) (v:V) (M:Qz) (ts:List OT) (Ψ:Qz->Prop),Room k (A.deeper (envOfC x (Q0 st) s.heap.objs.size f cdv))->R M ts Ψ ->
  ∃t,PSs (Vd CX0 P w K mg base N x (Q0 st) f cdv A outer s H E).nox (Zx st) t/\Q1 K t (some (.own v (Zc P w C M))::(ts.map some++List.replicate (N.length-(ts.length+1)) none)) { nx:=fun ρ'=>∃M',Ψ M'/\ρ'[0]?=some (some (.own v (Zc P w C M'))),rt:=fun _=>False }) :
 QD P w K mg base x ps (k+1) (spN K P w C R):=by
 obtain⟨f,fd,F,hm,hb⟩:=D.ex
 exact⟨f,fd,hm,F.kp,hb,F.evN S len fun cdv A outer s H E v M ts Ψ=>XaV f cdv A outer s H E v M ts Ψ⟩
def Ml (P:Program)(w:World)(K:W.Frag)(mg:Str->Qf)(base:Heap)(x:Str)(C:Addr)(k:Nat):Prop :=
 ∃f fd,Mk K C f/\mg x=some (.ref C)/\Ve K fd Zal []/\FnOk P w K mg base CX0 k f fd Zal (spI P w C)
end
section
variable {X:Cx}
def Yo {C:Addr}{m:Str}{pos apos:Pos}{o e:Expr}{es:Qi}{ta:TE}{t:TA}{ps:Qh}{j k:Nat}{sp:Sp}{pl:Sem Bool}(M:Zv X.prog X.w X.K X.mg X.base C m ps j sp)(c:NetC X.K C)(hr:Room k X.A)(he:PE X o ta)(ha:PA X (e::es) t)(hj:j<=k:=by walk_at"j")
 (hst:starEach (e::es) X.env=(false,eval e X.env)::starEach es X.env:=by rfl) (hpl:(backTo pos (starEach es X.env)).any (·.1)=false:=by rfl)
 (ht:eval (.Call (.Attribute o m apos) (e::es) [] pos) X.env=(do
  let ov <- eval o X.env
  standAt apos.atName
  let (f,first) <- holding [ov] (getMethod ov m pl)
  callWith pos f first (backTo pos (starEach (e::es) X.env)) (backToKw pos (keywordEach [] X.env))):=by rfl) :
 PE X (.Call (.Attribute o m apos) (e::es) [] pos) (ZY C m sp [] E0 ta t):=by
 obtain⟨f,fd,hm,hb,F⟩:=M;exact DB (pl:=pl) he c.cl hm F (hr.mono hj) hb .nil Jn ha hst hpl ht
def LI {C:Addr} {x:Str} {p pos:Pos} {j k:Nat} (M:Ml X.prog X.w X.K X.mg X.base x C j) (hr:Room k X.A) (hj:j+1<=k:=by walk_at"j") (hg:Gl X x:=by rfl) (hdb:(x==("__debug__" : Str))=false:=by decide +kernel) :
 PE X (.Call (.Name x p) [] [] pos) (JN C (spI X.prog X.w C) [] E0 QP):=by
 obtain⟨f,fd,M,hm,hb,F⟩:=M;exact C3 M F (hr.mono hj) hg hm hb .nil Jn hdb
end
end L2
end
section
namespace Mir
open PySem L2
def nk:Nd->List Key
 |.start=>[.inr "start"]
 |.fin=>[.inr "end"]
 |.guest k=>[.inr "guest",.inl (k:Int)]
 |.line l t=>[.inr "line",.inl (l:Int),.inl (t:Int)]
theorem Jy:∀{a b:Nd},nk a=nk b->a=b
 |.start,.start,_=>rfl
 |.fin,.fin,_=>rfl
 |.start,.fin,h=>Xl h (by decide)
 |.fin,.start,h=>Xl h (by decide)
 |.guest a,.guest b,h=>by
   injection h with _ h;injection h with h _;injection h with h
   have:a=b:=by omega
   rw[this]
 |.line a b,.line c d,h=>by
   injection h with _ h;injection h with h1 h;injection h with h2 _;injection h1 with h1;injection h2 with h2;have e1:a=c:=by omega
   have e2:b=d:=by omega
   rw[e1,e2]
 |.start,.guest _,h=>by have q:=X0 List.length h;simp[nk]at q
 |.start,.line _ _,h=>by have q:=X0 List.length h;simp[nk]at q
 |.fin,.guest _,h=>by have q:=X0 List.length h;simp[nk]at q
 |.fin,.line _ _,h=>by have q:=X0 List.length h;simp[nk]at q
 |.guest _,.start,h=>by have q:=X0 List.length h;simp[nk]at q
 |.guest _,.fin,h=>by have q:=X0 List.length h;simp[nk]at q
 |.guest _,.line _ _,h=>by have q:=X0 List.length h;simp[nk]at q
 |.line _ _,.start,h=>by have q:=X0 List.length h;simp[nk]at q
 |.line _ _,.fin,h=>by have q:=X0 List.length h;simp[nk]at q
 |.line _ _,.guest _,h=>by have q:=X0 List.length h;simp[nk]at q
def Tk {a b:Nd}:nk a=nk b↔a=b:=⟨Jy,fun h=>by rw[h]⟩
def JK:Option Nat->PyData
 |none=>.none
 |some e=>.int (e:Int)
def kvG (es:Got Nd):ZQ:=es.map fun x=>(nk x.1,JK x.2)
theorem DZ (n:Nd):∀es:Got Nd,V7 (kvG es) (nk n)=(WK es n).map JK
 |[]=>rfl
 |(k,v)::es=>by
   have ih:=DZ n es;unfold WK at ih ⊢;rw[XI];unfold kvG V7 at ih ⊢;rw[Xu,Xw];by_cases e:k=n
   ·subst e
    simp
   ·have e1:¬nk k=nk n:=fun z=>e (Jy z)
    have e2:(n==k)=false:=by rw[beq_eq_false_iff_ne];exact fun z=>e z.symm
    rw[e2];simp only[e1,decide_false];exact ih
def Iv {es:Got Nd}{n:Nd}:(es.lookup n).isSome=decide (n∈QT es):=by
 induction es with
 |nil=>rfl
 |cons p es ih =>
   obtain⟨k,v⟩:=p;rw[XI];by_cases e:n=k
   ·subst e
    simp[QT]
   ·have e2:(n==k)=false:=by rw[beq_eq_false_iff_ne];exact e
    rw[e2];have:decide (n∈QT ((k,v)::es))=decide (n∈QT es):=by
     apply decide_eq_decide.mpr
     unfold QT;rw[Xu,Xe];exact⟨fun z=>z.resolve_left e,.inr⟩
    rw[this];exact ih
def Gk (n:Nd)(es:Got Nd):(V7 (kvG es) (nk n)).isSome=decide (n∈QT es):=by
 rw[DZ,Jd];exact Iv
def Co (es:Got Nd):MS (kvG es):=fun x hx=>by
 obtain⟨y,_,rfl⟩:=XJ.mp hx
 cases h:y.2 with
 |none=>exact⟨.non,by simp[h,JK,ZN]⟩
 |some e=>exact⟨.int (e:Int),by simp[h,JK,ZN]⟩
def CP {es:Got Nd}{n:Nd}{e:Nat}(h:n∉QT es):JM (kvG es) (nk n) (.int (e:Int))=kvG (es++[(n,some e)]):=by
 unfold JM;have:¬((kvG es).any fun kv=>decide (kv.1=nk n))=true:=fun z=>by
  obtain⟨x,hx,hz⟩:=List.any_eq_true.mp z;obtain⟨y,hy,rfl⟩:=XJ.mp hx;have q:y.1=n:=Jy (X7 hz);exact h (by rw[<- q];exact XJ.mpr ⟨y,hy,rfl⟩)
 rw[Xb this];unfold kvG;rw[Xy];rfl
structure NetR (N:Qz)(L:Lay Nd)(φ:QR Nd):Prop where
 ends:N.ends=(YO L).map nk
 rooms:N.rooms=Vq L φ
 leav:∀(n:Nd) (e:Int),e∈(QL N.leav (nk n)).getD [] ↔ ∃j:Nat,e=(j:Int)/\tlE L j=some n
 laid:∀(i:Nat) (x:Nd×Nd×Int),L[i]?=some x->ZF N.laid (nk x.1,nk x.2.1)=some ((2*i:Nat):Int)
 laid0:∀p q:Nd,(p,q)∉L.map (fun x=>(x.1,x.2.1))->ZF N.laid (nk p,nk q)=none
 l1:N.leav.length<=2*L.length
 l2:N.laid.length<=L.length
 l3:∀k ns,QL N.leav k=some ns->ns.length<=2*L.length
theorem P8 (φ:QR Nd):NetR ⟨[],[],[],[]⟩ [] φ where
 ends:=rfl
 rooms:=rfl
 leav n e:=by
  constructor
  ·intro h;simp[QL]at h
  ·rintro⟨j,_,h⟩;simp[tlE]at h
 laid i x h:=by simp at h
 laid0 p q _:=rfl
 l1:=XN _
 l2:=XN _
 l3 k ns h:=by simp[QL]at h
def Wj {k k':List Key}{ns:Ql}{ls:List (List Key×Ql)}:QL ((k',ns)::ls) k=if k'=k then some ns else QL ls k:=by
 by_cases e:k'=k
 ·simp[QL,Xw,e]
 ·simp[QL,Xw,e]
theorem RF (k k':List Key)(x:Int):∀ls:List (List Key×Ql),QL (V0 ls k x) k'=if k'=k then (QL ls k).map (· ++ [x]) else QL ls k'
 |[]=>by
   unfold V0;by_cases e:k'=k
   ·rw[Xd e];simp[QL]
   ·rw[Xb e]
 |(j,ns)::ls=>by
   unfold V0;have ih:=RF k k' x ls
   by_cases e:j=k
   ·rw[Xd e,Wj,Wj,Wj,Xd e]
    by_cases e2:k'=k
    ·rw[Xd e2,Xd (e.trans e2.symm)];rfl
    ·rw[Xb e2,Xb (fun z=>e2 (z.symm.trans e)),Xb (fun z=>e2 (z.symm.trans e))]
   ·rw[Xb e,Wj,Wj,Wj,Xb e,ih]
    by_cases e2:k'=k
    ·rw[Xd e2,Xb (fun z=>e (z.trans e2)),Xd e2]
    ·rw[Xb e2,Xb e2]
theorem B7 (k:List Key)(x:Int):∀ls:List (List Key×Ql),(V0 ls k x).length=ls.length
 |[]=>rfl
 |(j,ns)::ls=>by
   unfold V0;split
   ·simp
   ·simp[B7 k x ls]
theorem Pp (k k':List Key):∀ls:List (List Key×Ql),QL ls k=none->QL (ls++[(k,[])]) k'=if k'=k then some [] else QL ls k'
 |[],_=>by
   rw[List.nil_append,Wj];by_cases e:k'=k
   ·rw[Xd e,Xd e.symm]
   ·rw[Xb e,Xb (fun z=>e z.symm)]
 |(j,ns)::ls,h=>by
   rw[Wj]at h;by_cases e:j=k
   ·rw[Xd e]at h;cases h
   ·rw[Xb e]at h
    rw[Jc,Wj,Wj,Pp k k' ls h];by_cases e2:k'=k
    ·rw[Xd e2,Xb (fun z=>e (z.trans e2)),Xd e2]
    ·rw[Xb e2,Xb e2]
def DR (ls:List (List Key×Ql))(k k':List Key):QL (V1 ls k) k'=if k'=k then some ((QL ls k).getD []) else QL ls k':=by
 unfold V1;cases h:QL ls k with
 |some ns =>
   rw[Xd (by rfl)];by_cases e:k'=k
   ·rw[Xd e,e,h];rfl
   ·rw[Xb e]
 |none =>
   rw[Xb (by simp),Pp k k' ls h];rfl
def D2 (ls:List (List Key×Ql))(k:List Key):(V1 ls k).length<=ls.length+1:=by
 unfold V1;split
 ·omega
 ·simp
def JF (N:Qz)(s e:List Key)(r:Int):Qz:={ N with ends:=N.ends++[e],rooms:=N.rooms++[r],leav:=V0 (V1 N.leav s) s (N.ends.length:Int) }
def Jk (N:Qz)(s e:List Key)(r:Int):Qz:=JF (JF { N with laid:=Yi N.laid (s,e) (N.ends.length:Int) } s e r) e s 0
def Up (N:Qz)(s e:List Key)(r:Int)(k:List Key):QL (JF N s e r).leav k=if k=s then some ((QL N.leav s).getD []++[(N.ends.length:Int)]) else QL N.leav k:=by
 show QL (V0 (V1 N.leav s) s _) k=_;rw[RF,DR,Xd rfl,DR];by_cases e:k=s
 ·rw[Xd e,Xd e];rfl
 ·rw[Xb e,Xb e,Xb e]
def Wi {k k':KK}{n:Int}{ls:List (KK×Int)}:ZF ((k',n)::ls) k=if k'=k then some n else ZF ls k:=by
 by_cases e:k'=k
 ·simp[ZF,Xw,e]
 ·simp[ZF,Xw,e]
theorem RO (k k':KK)(n:Int):∀ls:List (KK×Int),ZF (ls.map fun x=>if x.1=k then (x.1,n) else x) k'=if k'=k then (ZF ls k).map fun _=>n else ZF ls k'
 |[]=>by
   by_cases e:k'=k
   ·rw[Xd e];rfl
   ·rw[Xb e];rfl
 |(j,m)::ls=>by
   rw[Xu];have ih:=RO k k' n ls
   by_cases e:j=k
   ·simp only[e,if_true]
    rw[Wi,Wi,Wi,ih];by_cases e2:k'=k
    ·simp[e2]
    ·have:¬k=k':=fun z=>e2 z.symm
     simp[e2,this]
   ·simp only[e,if_false]
    rw[Wi,Wi,Wi,ih];by_cases e2:k'=k
    ·simp[e2,e]
    ·simp[e2]
theorem SE (k k':KK)(n:Int):∀ls:List (KK×Int),ZF ls k=none->ZF (ls++[(k,n)]) k'=if k'=k then some n else ZF ls k'
 |[],_=>by
   rw[List.nil_append,Wi];by_cases e:k'=k
   ·rw[Xd e,Xd e.symm]
   ·rw[Xb e,Xb (fun z=>e z.symm)]
 |(j,m)::ls,h=>by
   rw[Wi]at h;by_cases e:j=k
   ·rw[Xd e]at h;cases h
   ·rw[Xb e]at h
    rw[Jc,Wi,Wi,SE k k' n ls h];by_cases e2:k'=k
    ·rw[Xd e2,Xb (fun z=>e (z.trans e2)),Xd e2]
    ·rw[Xb e2,Xb e2]
def RZ (ls:List (KK×Int))(k k':KK)(n:Int):ZF (Yi ls k n) k'=if k'=k then some n else ZF ls k':=by
 unfold Yi;cases h:ZF ls k with
 |some m=>rw[Xd (by rfl),RO,h];rfl
 |none=>rw[Xb (by simp),SE k k' n ls h]
def Ck (ls:List (KK×Int))(k:KK)(n:Int):(Yi ls k n).length<=ls.length+1:=by
 unfold Yi;split
 ·simp
 ·simp
def Sy {ν:Type} [DecidableEq ν] (L:Lay ν):(YO L).length=2*L.length:=by
 unfold YO;induction L with
 |nil=>rfl
 |cons x L ih=>rw[Ma,Xo,ih,Oq];simp;omega
def NetR.elen {N:Qz}{L:Lay Nd}{φ:QR Nd}(h:NetR N L φ):N.ends.length=2*L.length:=by rw[h.ends,Xm,Sy]
def Ka {ν:Type} [DecidableEq ν] (L:Lay ν)(φ:QR ν):(Vq L φ).length=2*L.length:=by
 unfold Vq;induction L with
 |nil=>rfl
 |cons x L ih=>rw[Ma,Xo,ih,Oq];simp;omega
def B2 {L:Lay Nd}{x:Nd×Nd×Int}{j:Nat}{n:Nd}:tlE (L++[x]) j=some n↔tlE L j=some n\/(j=2*L.length/\n=x.1)\/(j=2*L.length+1/\n=x.2.1):=by
 unfold tlE;by_cases h:j/2<L.length
 ·rw[XH h]
  constructor
  ·exact .inl
  ·rintro(z|⟨z,_⟩|⟨z,_⟩)
   ·exact z
   ·omega
   ·omega
 ·rw[XY (by omega),Kx.mpr (show L.length<=j/2 by omega)]
  by_cases h2:j/2=L.length
  ·rw[h2,Nat.sub_self]
   simp only[List.getElem?_cons_zero,YJ,Option.map_none,Option.some.injEq];by_cases p:j%2=0
   ·rw[Xd p]
    constructor
    ·intro z;exact .inr (.inl ⟨by omega,z.symm⟩)
    ·rintro(z|⟨_,z⟩|⟨z,_⟩)
     ·cases z
     ·exact z.symm
     ·omega
   ·rw[Xb p]
    constructor
    ·intro z;exact .inr (.inr ⟨by omega,z.symm⟩)
    ·rintro(z|⟨z,_⟩|⟨_,z⟩)
     ·cases z
     ·omega
     ·exact z.symm
  ·have:([x]:Lay Nd)[j/2-L.length]?=none:=Kx.mpr (by simp;omega)
   rw[this];constructor
   ·intro z;cases z
   ·rintro(z|⟨z,_⟩|⟨z,_⟩)
    ·cases z
    ·omega
    ·omega
theorem Cz {N:Qz}{L:Lay Nd}{φ:QR Nd}(h:NetR N L φ){s e:Nd}{r:Int}(h0:φ s e=0)(new:(s,e)∉L.map (fun x=>(x.1,x.2.1))):NetR (Jk N (nk s) (nk e) r) (L++[(s,e,r)]) φ where
 ends:=by
  show(N.ends++[nk e])++[nk s]=_
  unfold YO;rw[JB,Xy,h.ends];simp[YO]
 rooms:=by
  show(N.rooms++[r])++[0]=_
  unfold Vq;rw[JB,h.rooms];simp[Vq,h0]
 leav n e':=by
  have le:=h.elen
  have l1:(JF { N with laid:=Yi N.laid (nk s,nk e) (N.ends.length:Int) } (nk s) (nk e) r).ends.length=2*L.length+1:=by
   show(N.ends++[nk e]).length=_
   rw[Xo,le];rfl
  have q:(QL (Jk N (nk s) (nk e) r).leav (nk n)).getD []=((QL N.leav (nk n)).getD []++(if n=s then [((2*L.length:Nat):Int)] else []))++(if n=e then [((2*L.length+1:Nat):Int)] else []):=by
   unfold Jk;rw[Up,l1,Up,Up];show Option.getD (if nk n=nk e then some ((if nk e=nk s then some ((QL N.leav (nk s)).getD []++[(N.ends.length:Int)]) else QL N.leav (nk e)).getD []++[((2*L.length+1:Nat):Int)]) else if nk n=nk s then some ((QL N.leav (nk s)).getD []++[(N.ends.length:Int)]) else QL N.leav (nk n)) []=_;rw[le];simp only[Tk];by_cases e1:n=e
   ·subst e1
    by_cases e2:n=s
    ·subst e2;simp
    ·simp[e2]
   ·by_cases e2:n=s
    ·subst e2;simp[e1]
    ·simp[e1,e2]
  rw[q,XG,XG,h.leav n e'];constructor
  ·rintro((⟨j,rfl,hj⟩|z)|z)
   ·exact⟨j,rfl,B2.mpr (.inl hj)⟩
   ·by_cases e2:n=s
    ·rw[Xd e2]at z
     exact⟨2*L.length,Xh.mp z,B2.mpr (.inr (.inl ⟨rfl,e2⟩))⟩
    ·rw[Xb e2]at z;cases z
   ·by_cases e2:n=e
    ·rw[Xd e2]at z
     exact⟨2*L.length+1,Xh.mp z,B2.mpr (.inr (.inr ⟨rfl,e2⟩))⟩
    ·rw[Xb e2]at z;cases z
  ·rintro⟨j,rfl,hj⟩
   rcases B2.mp hj with z|⟨rfl,z⟩|⟨rfl,z⟩
   ·exact .inl (.inl ⟨j,rfl,z⟩)
   ·exact .inl (.inr (by rw[Xd z];exact Xh.mpr rfl))
   ·exact .inr (by rw[Xd z];exact Xh.mpr rfl)
 laid i x hx:=by
  show ZF (Yi N.laid (nk s,nk e) (N.ends.length:Int)) (nk x.1,nk x.2.1)=_;rw[RZ,h.elen];by_cases hi:i<L.length
  ·rw[XH hi]at hx
   have ne:¬(nk x.1,nk x.2.1)=(nk s,nk e):=fun z=>new (by
    injection z with z1 z2;exact XJ.mpr ⟨x,List.mem_of_getElem? hx,by rw[Jy z1,Jy z2]⟩)
   rw[Xb ne];exact h.laid i x hx
  ·rw[XY (by omega)]at hx
   have hi2:i=L.length:=by
    have:=(Xg.mp hx).1
    simp at this
    omega
   subst hi2;rw[Nat.sub_self]at hx;cases hx;rw[Xd rfl]
 laid0 p q hn:=by
  show ZF (Yi N.laid (nk s,nk e) (N.ends.length:Int)) (nk p,nk q)=_;rw[Xy,XG,not_or]at hn;rw[RZ,Xb (fun z=>?_)]
  ·exact h.laid0 p q hn.1
  ·injection z with z1 z2
   exact hn.2 (by rw[Jy z1,Jy z2];simp)
 l1:=by
  have a:=h.l1
  have b:(Jk N (nk s) (nk e) r).leav.length<=N.leav.length+2:=by
   unfold Jk;show(V0 (V1 (V0 (V1 N.leav (nk s)) (nk s) _) (nk e)) (nk e) _).length<=_;rw[B7];refine X8 (D2 _ _) ?_;rw[B7];have:=D2 N.leav (nk s);omega
  rw[Xo];simp;omega
 l2:=by
  have a:=h.l2;have b:(Jk N (nk s) (nk e) r).laid.length<=N.laid.length+1:=Ck _ _ _;rw[Xo];simp;omega
 l3 k ns hk:=by
  have g:∀k',((QL N.leav k').getD []).length<=2*L.length:=fun k'=>by
   cases z:QL N.leav k' with
   |none=>exact XN _
   |some m=>exact h.l3 k' m z
  have g1:∀k',((QL (JF { N with laid:=Yi N.laid (nk s,nk e) (N.ends.length:Int) } (nk s) (nk e) r).leav k').getD []).length<=2*L.length+1:=fun k'=>by
   rw[Up];by_cases z:k'=nk s
   ·rw[Xd z]
    have:=g (nk s)
    simpa using this
   ·rw[Xb z]
    have:=g k'
    show((QL N.leav k').getD []).length<=_
    omega
  unfold Jk at hk;rw[Up]at hk;rw[Xo];by_cases z:k=nk e
  ·rw[Xd z]at hk
   cases hk
   have:=g1 (nk e)
   simp at this ⊢
   omega
  ·rw[Xb z]at hk
   have:=g1 k
   rw[hk]at this;simp at this ⊢;omega
def EL {L:Lay Nd}(hd:Dis L){φ:QR Nd}{a r r':Int}{e:Nat}(h1:(Vq L φ)[e]?=some r)(h2:(Vq L φ)[Ze7 e]?=some r'):Vq L (V9 L a φ e)=((Vq L φ).set e (r-a)).set (Ze7 e) (r'+a):=by
 have me:Ze7 e≠e:=by unfold Ze7;split<;>omega
 have mh:Ze7 e/2=e/2:=by unfold Ze7;split<;>omega
 rw[Uw]at h1 h2;have h1':=h1;unfold rmE at h1 h2;rw[mh]at h2;cases ex:L[e/2]? with
 |none=>rw[ex]at h1;cases h1
 |some x =>
   rw[ex]at h1 h2;simp only[YJ,Option.some.injEq]at h1 h2;have hp:V9 L a φ e=V2 φ x.1 x.2.1 (if e%2=0 then a else -a):=by unfold V9;rw[ex]
   have bx:V2 φ x.1 x.2.1 (if e%2=0 then a else -a) x.1 x.2.1=φ x.1 x.2.1+(if e%2=0 then a else -a):=by unfold V2;rw[Xd ⟨rfl,rfl⟩]
   have le:e/2<L.length:=(Xg.mp ex).1;have lr:=Ka L φ;have le2:e<(Vq L φ).length:=by omega
   have lm:Ze7 e<(Vq L φ).length:=by omega
   refine List.ext_getElem? fun i=>?_;rw[Uw,List.getElem?_set,List.getElem?_set,Uw,hp];by_cases im:Ze7 e=i
   ·subst im
    rw[Xd rfl,Xd (show Ze7 e<((Vq L φ).set e (r-a)).length by simpa using lm)]
    unfold rmE;rw[mh,ex];simp only[YJ,Option.some.injEq];rw[bx];have pm:(Ze7 e%2=0)=¬(e%2=0):=by
     apply propext
     unfold Ze7;split<;>omega
    by_cases p:e%2=0
    ·have p2:¬Ze7 e%2=0:=by rw[pm];exact fun z=>z p
     rw[Xb p2]at h2 ⊢;rw[Xd p];omega
    ·have p2:Ze7 e%2=0:=by rw[pm];exact p
     rw[Xd p2]at h2 ⊢;rw[Xb p];omega
   ·rw[Xb im]
    by_cases ie:e=i
    ·subst ie
     rw[Xd rfl,Xd le2];unfold rmE;rw[ex];simp only[YJ,Option.some.injEq];rw[bx];by_cases p:e%2=0
     ·rw[Xd p]at h1 ⊢
      rw[Xd p];omega
     ·rw[Xb p]at h1 ⊢
      rw[Xb p];omega
    ·rw[Xb ie]
     unfold rmE;cases ey:L[i/2]? with
     |none=>rfl
     |some y =>
       have ne:¬(y.1=x.1/\y.2.1=x.2.1):=fun⟨z1,z2⟩=>by
        have q:=D1 hd ey ex z1 z2;unfold Ze7 at im;split at im<;>omega
       have by':V2 φ x.1 x.2.1 (if e%2=0 then a else -a) y.1 y.2.1=φ y.1 y.2.1:=by unfold V2;rw[Xb ne]
       simp only[YJ,by']
def Ji (L:Lay Nd)(φ:QR Nd)(es:Got Nd)(U:List Nd):Prop := ∀e m n r,tlE L e=some m->hdE L e=some n->rmE L φ e=some r->0<r->m∈QT es->m∉U->n∈QT es
def Ji.closed {L:Lay Nd}{φ:QR Nd}{es:Got Nd}(h:Ji L φ es []):VC L φ es:=fun e m n r h1 h2 h3 h4 h5=>h e m n r h1 h2 h3 h4 h5 (fun z=>nomatch z)
def Ja {es:Got Nd}{x:Nd×Option Nat}{n:Nd}:n∈QT (es++[x])↔n∈QT es\/n=x.1:=by
 unfold QT;rw[Xy,XG];simp
def Ji.add {L:Lay Nd}{φ:QR Nd}{es:Got Nd}{U V:List Nd}(h:Ji L φ es (U++V))(n:Nd)(o:Option Nat):Ji L φ (es++[(n,o)]) (U++(V++[n])):=fun e m k r h1 h2 h3 h4 h5 h6=>by
 rw[<- GF,XG,not_or]at h6;have ne:m≠n:=fun z=>h6.2 (by simp[z])
 rcases Ja.mp h5 with z|z
 ·exact Ja.mpr (.inl (h e m k r h1 h2 h3 h4 z h6.1))
 ·exact Xl z ne
theorem Tree.inClosed {L:Lay Nd}{φ:QR Nd}{s:Nd}{fs:Got Nd}(hc:VC L φ fs)(hs:s∈QT fs):∀{es:Got Nd},Tree L φ s es->∀n∈QT es,n∈QT fs
 |_,.root,n,hn=>by
   have e:n=s:=by simpa [QT] using hn
   rw[e];exact hs
 |_,.add t hn hh ht hm hr h0,n,hx=>by
   rcases Ja.mp hx with z|z
   ·exact t.inClosed hc hs n z
   ·rw[z]
    exact hc _ _ _ _ ht hh hr h0 (t.inClosed hc hs _ hm)
end Mir
end
section
namespace L2
open PySem PySem.Spec PyProof.Rows
section
variable {K:W.Frag}{ρ:Q6}{ta tb tc te:TE}{D:PEnds}
theorem Pt {F F' H:Hp}:∀{as:Qg} {dss:List (Qd)},(∀ds∈dss,JZ ds)->(∀a∈as,F' a=none)->Zt F H as dss->Zt F' H as dss
 |[],[],_,_,_=>trivial
 |a::as,ds::dss,h,hp,o=>by
   obtain⟨⟨_,xs,h2,h3⟩,o2⟩:=o
   exact⟨⟨hp a Xa,xs,h2,h3.flats (h ds Xa)⟩,Pt (fun d hd=>h d (Xf _ hd)) (fun b hb=>hp b (Xf _ hb)) o2⟩
 |[],_::_,_,_,o=>False.elim o
 |_::_,[],_,_,o=>False.elim o
def C0 {dss:List (Qd)}(h:∀ds∈dss,JZ ds):WB (.oll dss):=fun K F F' H v p hp ok=>by
 obtain⟨a,as,rfl,rfl,h1,h2,h3,h4⟩:=ok
 exact⟨a,as,rfl,rfl,h1,hp a Xa,h3,Pt h (fun b hb=>hp b (Xf _ hb)) h4⟩
end
end L2
end
namespace L2
open PySem
section
variable {prog:Program}{w:World}{A:Around}{E:Qb}{h:Heap}{g:Array GenState}{d:Drawn}{t:Nat}{os:OsState}
variable {nm q:Str}{C N:Addr}{bs bm bmB:Qe}{hdct:Bool}{sn:Qh}{sub:Qe}{ab:Bool}{col:Option Bool}{dd:Qj}{k0 k1 k2 k3 k5:Qf}{B newId initId:String}
abbrev Dl (C a:Addr):Obj:={ cls:=.ref C,data:=.fields #[.ref a,.none,.none,.none,.bool false,.none] }
abbrev Tb (vs:Qe):Obj:={ cls:=.type "tuple",data:=.seq vs.toArray }
def Yu (h:Heap)(C:Addr)(vs:Qe):Heap:=(h.push (Tb vs)).push (Dl C h.objs.size)
def LC (F:ExcBaseFacts B newId initId bmB)(T:OwnTail h bmB bm){mN:Str->Qf}{rest:Qe}{f:Addr}{fo:Obj}{Q:Fin->Shared->Prop}
 (hC:h.get? C=some (excClassObj nm q C N bs bm hdct sn sub ab col dd k0 k1 k2 k3 k5 newId)) (hn:h.Ns N mN)
 (hi:mN "__init__"=some (.ref f)) (hf:h.get? f=some fo) (hc:fo.cls=.type "function") (hrest:rest.length<=sizeLine)
 (hq:wpAny (model prog w) A (call (.ref f) (.ref (h.objs.size+1)::rest)) (fun r s'=>r=.none/\Q (.done (.ret (.ref (h.objs.size+1)))) s') E ⟨Yu h C rest,g,d,t,os⟩) :
 wpAny (model prog w) A (Builtin.«type.__call__» ⟨.ref C::rest,[]⟩) Q E ⟨h,g,d,t,os⟩:=by
 have kp:∀b o,h.get? b=some o->(Yu h C rest).get? b=some o:=fun b o e=>Xi _ (Xi _ e)
 repeat (first
  |with_reducible refine wpAny_loadPart_at hC ?_
  |with_reducible refine wpAny_madeBy_exc hC ?_
  |wp_step)
 refine codeAny_call_builtin_code (Code.quiet_builtin _ F.quiet)
  (wpAny_check_new_subT F T hC ?_)
 refine codeAny_exc_new_subT F T hC ?_ hrest;show wpAny _ _ _ _ _ ⟨Yu h C rest,g,d,t,os⟩
 have me:(Yu h C rest).get? (h.objs.size+1)=some (Dl C h.objs.size):=by
  unfold Yu;exact Heap.get?_push_at (by rw[W8]) rfl
 have hC1:=kp _ _ hC;have hn1:(Yu h C rest).Ns N mN:=hn.keeps kp;have T1:=T.keeps kp;have own:(Value.ref C::bm).contains (.ref C)=true:=by simp
 unfold isInstance;repeat (first
  |with_reducible refine wpAny_loadPart_at me ?_
  |(with_reducible refine wpAny_isSubtype_exc hC1 ?_;rw[own])
  |wp_step)
 show wpAny _ _ (typeLookup (.ref C) _) _ _ _;refine wpAny_typeLookup_tail hC1 hn1 T1 F.mroIs F.init.lookup ?_;rw[hi];refine wpAny_holding (Xc (wpAny_bindSpecial_def (s:=⟨Yu h C rest,g,d,t,os⟩) (kp _ _ hf) hc ?_));refine Xc (wpAny_mono hq (fun r s' hr=>?_) fun _ _ z=>z);obtain⟨rfl,hr⟩:=hr
 wp_walk
 exact hr
def TK (F:ExcBaseFacts B newId initId bmB)(T:OwnTail h bmB bm){mN:Str->Qf}{rest:Qe}{f:Addr}{fo:Obj}{Q:Qb}
 (hC:h.get? C=some (excClassObj nm q C N bs bm hdct sn sub ab col dd k0 k1 k2 k3 k5 newId)) (hn:h.Ns N mN)
 (hi:mN "__init__"=some (.ref f)) (hf:h.get? f=some fo) (hc:fo.cls=.type "function") (hrest:rest.length<=sizeLine)
 (hq:wpAny (model prog w) (A.under (.builtin "type.__call__" ⟨.ref C::rest,[]⟩)) (call (.ref f) (.ref (h.objs.size+1)::rest)) (fun r s'=>r=.none/\Q (.ref (h.objs.size+1)) s') E ⟨Yu h C rest,g,d,t,os⟩) :
 wpAny (model prog w) A (call (.ref C) rest) Q E ⟨h,g,d,t,os⟩:=by
 have l1:=tc_lookup;have l2:=tc_bind (.ref C);have ty:(⟨h,g,d,t,os⟩:Shared).TypeIs (.ref C) "type" := ⟨_,hC,rfl⟩;refine wpAny_call (codeAny_of_tree ?_);show wpAny _ _ (callAny (.ref C) _) _ _ _
 repeat (any_goals (first
  |assumption
  |with_reducible refine wpAny_loadPart_at hC ?_
  |wp_step))
 refine⟨rfl,?_⟩;refine codeAny_call_builtin_at (Code.quiet_builtin _ (by decide +kernel)) entry_typeCall (wpAny_check_type_call_sub hC ?_);refine LC F T hC hn hi hf hc hrest ?_;exact wpAny_mono hq (fun r s' z=>z) fun _ _ z=>z
end
end L2
namespace L2
open PySem PySem.Spec PyProof.Rows
def phX (C e:Addr)(dct:Qj):Heap->Prop:=fun h=>∃(t:Addr) (sl:Array (Qf)),h.get? e=some { cls:=.ref C,dict:=dct,data:=.fields #[.ref t,.none,.none,.none,.bool false,.none],slots:=sl }
def Dt {P:Program}{w:World}{H:Hp}{h:Heap}{C e:Addr}{dct:Qj}(p:phX C e dct h):Z3 P w H h e (.ext (phX C e dct)):=⟨p,by obtain⟨t,sl,q⟩:=p;exact⟨_,q⟩,fun h1 h2 p1 k=>by obtain⟨t,sl,q⟩:=p1;exact⟨t,sl,k _ q⟩⟩
section
variable {prog:Program}{w:World}{A:Around}{E:Qb}{h:Heap}{g:Array GenState}{d:Drawn}{t:Nat}{os:OsState}
variable {nm q:Str}{C N:Addr}{bs bm bmB:Qe}{hdct:Bool}{sn:Qh}{sub:Qe}{ab:Bool}{col:Option Bool}{dd:Qj}{k0 k1 k2 k3 k5:Qf}{B newId initId:String}
def TB (F:ExcBaseFacts B newId initId bmB)(T:OwnTail h bmB bm){e a:Addr}{dct:Qj}{sl:Array (Qf)}{v:Value}{Q:Qb}
 (hC:h.get? C=some (excClassObj nm q C N bs bm hdct sn sub ab col dd k0 k1 k2 k3 k5 newId))
 (he:h.get? e=some { cls:=.ref C,dict:=dct,data:=.fields #[.ref a,.none,.none,.none,.bool false,.none],slots:=sl })
 (hq:∀h',(∀b o,b≠e->h.get? b=some o->h'.get? b=some o)->phX C e dct h'->Q .none ⟨h',g,d,t,os⟩) :
 wpAny (model prog w) A (call (.builtin initId) [.ref e,v]) Q E ⟨h,g,d,t,os⟩:=by
 refine wpAny_call (codeAny_call_builtin F.init.plain F.initEntry (wpAny_check_init_subT F T hC he rfl ?_))
 wp_walk using AutoSeq1.wpAny_loadPart' he
 refine hq _ (fun b o hb z=>?_) ⟨h.objs.size,sl,?_⟩
 ·rw[XW _ _ (Ne.symm hb)]
  exact Xi _ z
 ·rw[X9 _ (Xi _ he) rfl]
  rfl
end
structure Jg (K:W.Frag)(Y C f:Addr):Prop where
 ga:W.specialIn K (.ref Y) "__getattribute__"=some (some (.builtin "type.__getattribute__"))
 rd:W.readsIn K Y (.type "type")=true
 ini:W.findCls K (.ref Y) (.type "type") "__init__"=some (.val (.builtin "ValueError.__init__"))
 cls:∀h:Heap,K.In h->∃(bmB bm:Qe) (nm q:Str) (N:Addr) (bs:Qe) (hdct:Bool) (sn:Qh) (sub:Qe) (ab:Bool) (col:Option Bool) (dd:Qj) (k0 k1 k2 k3 k5:Qf),
  ExcBaseFacts "ValueError" "ValueError.__new__" "ValueError.__init__" bmB/\OwnTail h bmB bm/\h.get? C=some (excClassObj nm q C N bs bm hdct sn sub ab col dd k0 k1 k2 k3 k5 "ValueError.__new__") /\
  ∃(mN:Str->Qf) (fo:Obj),h.Ns N mN/\mN "__init__"=some (.ref f)/\h.get? f=some fo/\fo.cls=.type "function"
def tXI (C:Addr)(i:Nat):TE:=fun σ H Q=>∃e dct,σ[i]?=some (some (.ref e))/\H e=some (.ext (phX C e dct))/\Q .non H
def Sj {X:Cx}{Y C f:Addr}(c:Jg X.K Y C f){x y:Str}{i:Nat}{p0 p1 p2 p3 p4:Pos}{txt:Str}{kd:Nat}(hg:Gl X x)(hm:X.mg x=some (.ref Y))(hN:X.N[i]?=some y)(hv:Vis X.env.scope y)
 (hdb:(x==("__debug__" : Str))=false:=by decide) (hd:(y==("__debug__" : Str))=false:=by decide) (hcd:(y==("__classdict__" : Str))=false:=by decide) {pl:Sem Bool}
 (ht:eval (.Call (.Attribute (.Name x p0) "__init__" p1) [.Name y p2,.Constant (.str txt) kd p3] [] p4) X.env=(do
  let ov <- eval (.Name x p0) X.env
  standAt p1.atName
  let (f,first) <- holding [ov] (getMethod ov "__init__" pl)
  callWith p4 f first (backTo p4 (starEach [.Name y p2,.Constant (.str txt) kd p3] X.env)) (backToKw p4 (keywordEach [] X.env))):=by rfl) :
 PE X (.Call (.Attribute (.Name x p0) "__init__" p1) [.Name y p2,.Constant (.str txt) kd p3] [] p4) (tXI C i):=by
 intro XaU s σ H Q I h;obtain⟨e,dct,e1,e2,q⟩:=h;refine W.methodCall_KW (pl:=pl) (J1 I hg hm ?_ hdb) ht;refine W.method_cls I.kIn c.ga (W.cls_value I.kIn c.rd c.ini (by decide +kernel) ?_);have I1:=I.tok (s.toks+1);have args:PA X [.Name y p2,.Constant (.str txt) kd p3] (QE (QB i) (QE (tC (.str txt)) QP)):=Qo (NN hN hv hd hcd) (Qo VO Qr);refine PyProof.Rows.callWith_builtin1 (QA (args p4 XaU _ σ H (fun vs H1=>vs=[.ref e,.str txt]/\H1=H) I1 ⟨_,e1,rfl,rfl⟩) fun us s1 ⟨vs,H1,I2,r,ev,eH⟩=>?_) rfl rfl;subst ev eH;cases r with
 |cons r1 r =>
 cases r with
 |cons r2 r =>
 cases r
 cases r1
 obtain⟨tk,rfl⟩:=r2;have hx:=I2.hok e _ e2;obtain⟨⟨ta,sl,he⟩,_,_⟩:=hx;obtain⟨bmB,bm,nm,qn,N,bs,hdct,sn,sub,ab,col,dd,k0,k1,k2,k3,k5,F,T,hC,_⟩:=c.cls _ I2.kIn;refine TB F T hC he fun h' kp px=>?_;have mu:Mut (H1 e):=by rw[e2];trivial
 have W:=I2.write (h':=h') (t':=s1.toks) (o:=.ext (phX C e dct)) mu Qa kp (by obtain⟨_,_,z⟩:=px;exact⟨_,z⟩) (Dt px)
 have eu:upd H1 e (.ext (phX C e dct))=H1:=by
  funext b
  by_cases hb:b=e
  ·subst hb;simp[upd,e2]
  ·simp[upd,hb]
 rw[eu]at W;exact⟨.non,H1,W,rfl,q⟩
def YU:Qe->Bool
 |.ref _::r=>YU r
 |l=>l==[.type "ValueError",.type "Exception",.type "BaseException",.type "object"]
theorem SQ (self:Value):∀{l:Qe},YU l=true->refuseLoop self "__setattr__" l=pure ()
 |.ref c::r,e=>by rw[refuseLoop_ref];exact SQ self (by simpa [YU] using e)
 |[],e=>by cases e
 |.type n::r,e=>by rw[show(Value.type n::r)=_ from beq_iff_eq.mp e];exact PySem.F.store_ValueError.passes self
theorem N3:∀{l:Qe},YU l=true->l.contains (.type "object")=true
 |.ref c::r,e=>by rw[List.contains_cons,N3 (l:=r) (by simpa [YU] using e),Bool.or_true]
 |[],e=>by cases e
 |.type n::r,e=>by rw[show(Value.type n::r)=_ from beq_iff_eq.mp e];decide
section
open PySem.W
variable {prog:Program}{w:World}{A:Around}{R:Result->Shared->Prop}{K:Frag}{s:Shared}{x C:Addr}
def Tq {ox:Obj}{od:Option Obj}{name:Str}{tk:Tok}{v:Value}{r:Qf}(X:K.In s.heap)(I:W.InstAt s.heap x ox C od)(hp:((clsIn K C).any fun cd=>YU cd.mro)=true)(ht:takerIn K C name=some r)
 (h:∀b,wpAny (model prog w) A.in1 (match r with|some a=>Builtin.ObjectAttr.setByDescriptor a (.ref x) v|none=>Builtin.ObjectAttr.storeInOwnDict (.ref x) (.ref C) (.str name tk) name v b)
  (fun fin s'=>match fin with|.done f=>R (.ok f) s'|.again c'=>c'.quiet=true/\codeAny (model prog w) A c' R s') (fun e s'=>R (.error e) s') s) :
 codeAny (model prog w) A (.call (.builtin "object.__setattr__") ⟨[.ref x,.str name tk,v],[]⟩) R s:=by
 have SF:=PySem.F.store_object;obtain⟨cd,hc,ho⟩:=any_some hp;have ne:cd.mro.isEmpty=false:=by cases q:cd.mro with|nil=>rw[q]at ho;cases ho|cons _ _=>rfl
 have sub:Looks (model prog w) s.heap (isInstance (.ref x) (.type "object")) true:=I.type.andThen (looks_mroIn X (by unfold mroIn;rw[hc,Option.bind_some,Xb (by rw[ne];decide),N3 ho]));refine codeAny_call_builtin SF.slot.plain SF.entry (@check_slot (model prog w) _ _ s "object.__setattr__" "object" "__setattr__" (.ref x) [.str name tk,v] [] _ SF.kind SF.split sub (SF.args (.ref x) (.str name tk) v) ?_);obtain⟨attr,ha,hr⟩:=Option.bind_eq_some_iff.mp ht;have hm:Looks (model prog w) s.heap (mroOf (.ref C)) cd.mro:=(looks_clsIn X hc).andThen .now
 have L3:Looks (model prog w) s.heap (Builtin.ObjectAttr.storeTaker? attr) r:=by
  cases attr with
  |none=>cases hr;exact .now
  |some a =>
    obtain⟨b,hb,rfl⟩:=Option.map_eq_some_iff.mp hr;refine(looks_takesIn X hb).andThen ?_
    cases b<;>exact .now
 rw[osa_eq,refuse_eq];refine Xc (Xc (I.type.here (Xc (hm.here ?_))));rw[SQ _ ho];refine Xq (Xc (I.type.here (Xc ((looks_findIn X ha).here (Xc (L3.here ?_))))));exact h _
def Tr {E:Qb}{Q:Unit->Shared->Prop}{name:Str}{v:Value}{fs:Array Value}{sl:Array (Qf)}(X:K.In s.heap)
 (hs:findIn K (.ref C) "__setattr__"=some (some (.builtin "object.__setattr__"))) (hp:((clsIn K C).any fun cd=>YU cd.mro)=true) (ht:takerIn K C name=some none) (hh:hasDictIn K C=true)
 (hx:s.heap.get? x=some { cls:=.ref C,dict:=none,data:=.fields fs,slots:=sl })
 (h:∀h' t',(∀b o,b≠x->s.heap.get? b=some o->h'.get? b=some o)->h'.get? x=some { cls:=.ref C,dict:=some s.heap.objs.size,data:=.fields fs,slots:=sl } ->
  h'.Ns1 s.heap.objs.size (fun y=>if y=name then some v else none)->Q () { s with heap:=h',toks:=t' }) :
 wpAny (model prog w) A (setAttr (.ref x) name v) Q E s:=by
 have J:W.InstAt s.heap x _ C none:=⟨hx,rfl,rfl,trivial⟩;refine W.set_plain X J hs (Tq (s:={ s with toks:=s.toks+1 }) (r:=none) X J hp ht fun b=>?_);obtain⟨cd,hc,hd'⟩:=W.any_some hh;refine Xc (Xq (Xc (Xc (wpAny_loadPart hx (Xc (W.Looks.here (s:={ s with toks:=s.toks+1 }) (W.looks_clsIn X hc) ?_))))));rw[hd'];have c9:(s.heap.push { cls:=.type "dict",data:=.dict #[] }).get? x=_:=Xi _ hx;have hxs:x≠s.heap.objs.size:=Xr (Xj hx);rw[Xb (by decide)];dsimp only;rw[Xb (by simp[typeHasDict])];refine Xc (wpAny_alloc' ?_);refine Xc (wpAny_update' c9 ?_);refine Xq ?_
 have hgd:((s.heap.push { cls:=.type "dict",data:=.dict #[] }).update x fun o=>{ cls:=o.cls,dict:=some s.heap.objs.size,data:=o.data,slots:=o.slots }).get? s.heap.objs.size
  = some { cls:=.type "dict",data:=.dict #[] } :=
  (Heap.get?_update_ne _ _ _ _ hxs.symm).trans (Heap.get?_push_at rfl rfl)
 have hnd:((s.heap.push { cls:=.type "dict",data:=.dict #[] }).update x fun o=>{ cls:=o.cls,dict:=some s.heap.objs.size,data:=o.data,slots:=o.slots }).Ns s.heap.objs.size (fun _=>none) :=
  ⟨_,#[],_,hgd,rfl,fun e he=>Xl he (by simp),fun _=>rfl⟩
 show wpAny _ _ (Builtin.ObjectAttr.storeInDict s.heap.objs.size (.str name s.toks) name v) _ _ _;unfold Builtin.ObjectAttr.storeInDict Builtin.ObjectAttr.newKeyGuard;refine Xc (Xq (Xc (wpAny_nsSet1 (Heap.Ns1.of_empty hnd) fun h' hn' hs=>?_)));obtain⟨oD,esD,epD,hoD,hdD,hcD⟩:=hn'.count (Within.cons name v Within.nil);refine Xc (wpAny_lookBehind hoD (by rw[hdD];exact pastItsLine_dict (X8 hcD (by rw[Oq,List.length_nil,sizeLine_eq];omega))) ?_);refine Xq (h _ _ (fun b ob hbx hb=>?_) ?_ hn')
 ·exact(hs.2 b (Xr (Xj hb))).trans ((Heap.get?_update_ne _ _ _ _ hbx).trans (Xi _ hb))
 ·exact(hs.2 x hxs).trans (X9 _ c9 rfl)
end
structure Ky (K:W.Frag)(C:Addr):Prop where
 sa:W.findIn K (.ref C) "__setattr__"=some (some (.builtin "object.__setattr__"))
 ov:((W.clsIn K C).any fun cd=>YU cd.mro)=true
 hd:W.hasDictIn K C=true
def sXF (C:Addr)(ta tv:TE)(f:Str):TS:=fun D σ H=>tv σ H fun y H1=>ta σ H1 fun x H2=>∃e,x=.ref e/\H2 e=some (.ext (phX C e none)) /\
 ∀dx,H2 dx=none->dx≠e->D.nx σ (upd (upd H2 e (.ext (phX C e (some dx)))) dx (.xd [(f,y)]))
section
variable {X:Cx}{o value:Expr}{f:Str}{pos pos':Pos}{ta tv:TE}{C:Addr}
def NZ (c:Ky X.K C)(ht:W.takerIn X.K C f=some none)(ha:PE X o ta)(hv:PE X value tv)(hs:swapsWith value (some (.Attribute o f pos')) pos.line X.env=pure false):PS X (.Assign [.Attribute o f pos'] value pos) (sXF C ta tv f):=by
 intro XaU s σ H D I h;refine plainObj_wpAny_Assign_Attribute (QA (hv XaU s σ H _ I h) fun u s1 ⟨y,H1,I1,ry,q⟩=>QA (ha XaU s1 σ H1 _ I1 q) fun ov s2 ⟨x,H2,I2,rx,e,ex,ea,q2⟩=>?_) hs;subst ex;obtain rfl:ov=Value.ref e:=rx;obtain⟨⟨ta,sl,he⟩,_,_⟩:=I2.hok e _ ea;refine Tr I2.kIn c.sa c.ov ht c.hd he fun h' t' kp hx hn=>?_;have mu:Mut (H2 e):=by rw[ea];trivial
 have W:=I2.write (h':=h') (t':=t') (o:=.ext (phX C e (some s2.heap.objs.size))) mu Qa kp ⟨_,hx⟩ (Dt ⟨ta,sl,hx⟩);have hne:s2.heap.objs.size≠e:=(Xr (Xj he)).symm;have hfr:H2 s2.heap.objs.size=none:=I2.fresh;refine⟨σ,_,W.track (a:=s2.heap.objs.size) (o:=.xd [(f,y)]) (by rw[Qs hne];exact hfr) I2.sz (VU I2.lt) (fun z c hc hz=>?_) (fun p hp hz=>?_) ⟨_,hn,fun g=>?_⟩,q2 _ hfr hne⟩
 ·obtain⟨v,hv⟩:=I2.cell z c hc
  subst hz;obtain⟨oc,hc2,_⟩:=hv;exact Xl (Xj hc2) (Yc _)
 ·have:=(I2.pin p hp).1
  rw[hz]at this;exact Xl (Xj this) (Yc _)
 ·show ZG (List.lookup g [(f,y)]) (if g=f then some u else none)
  by_cases hg:g=f
  ·subst hg;simp[List.lookup];exact ry
  ·rw[Xb hg]
   have:(g==f)=false:=by simpa using hg
   simp[List.lookup,this]
   trivial
end
def GN (C:Addr)(sp:Sp)(E:XK)(t:TA):TE:=fun σ H Q=>t σ H fun vs H1=>vs.length<=1000/\∀x,H1 x=none ->
 sp (.ref x::vs) (upd H1 x (.ext (phX C x none))) (fun v H2=>v=.non/\Q (.ref x) H2) E
section
variable {X:Cx}{CX:CXT}{k:Nat}{f C Y:Addr}{fd:FuncData}{ps:Qh}{sp:Sp}{E:XK}{x:Str}{p pos:Pos}{e:Expr}{es:Qi}{t:TA}
def Eg {XaU:Qc}{σ:St}{H:Hp}{s:Shared}{Q:VK}{us:Qe}{vs:List V}(c:Jg X.K Y C f)(F:FnOk X.prog X.w X.K X.mg X.base CX k f fd ps sp)(hr:Room (k+1) X.A)(hb:Ve X.K fd ps [])
 (hx:VP CX X E) (I:Qq X XaU σ H s) (r:QV vs us) (hl:vs.length<=1000)
 (h:∀x,H x=none->sp (.ref x::vs) (upd H x (.ext (phX C x none))) (fun v H2=>v=.non/\Q (.ref x) H2) E) :
 wpAny (model X.prog X.w) X.A (call (.ref C) us) (EP X XaU σ Q) X.xe s:=by
 obtain⟨bmB,bm,nm,qn,N,bs,hdct,sn,sub,ab,col,dd,k0,k1,k2,k3,k5,FB,T,hC,mN,fo,hN,hi,hf,hfc⟩:=c.cls _ I.kIn;have hq:=h (s.heap.objs.size+1) (I.hok.fresh (Nat.le_succ _));obtain⟨hp,g,d,tk,os⟩:=s;have kp:∀b o,hp.get? b=some o->(Yu hp C us).get? b=some o:=fun b o e=>Xi _ (Xi _ e)
 have me:(Yu hp C us).get? (hp.objs.size+1)=some (Dl C hp.objs.size):=by
  unfold Yu;exact Heap.get?_push_at (by rw[W8]) rfl
 have I2:Qq X XaU σ (upd H (hp.objs.size+1) (.ext (phX C (hp.objs.size+1) none))) ⟨Yu hp C us,g,d,tk,os⟩:=I.laid (t':=tk) kp (Nat.le_succ _) (Dt ⟨_,_,me⟩);have r2:QV (V.ref (hp.objs.size+1)::vs) (Value.ref (hp.objs.size+1)::us):=.cons rfl r
 have hl2:(Value.ref (hp.objs.size+1)::us++[]).length=ps.length:=by
  have e:=r2.length;rw[F.len _ _ _ _ hq]at e;simpa using e.symm
 refine TK FB T hC hN hi hf hfc (by rw[<- r.length,sizeLine_eq];omega) ?_;have run:=F.run _ X.stack _ _ ⟨Value.ref (hp.objs.size+1)::us,[]⟩ (Value.ref (hp.objs.size+1)::us) _ _ E (hr.make C us []) (I2.env0.make C us []) (by simpa using hb _ (Value.ref (hp.objs.size+1)::us) I2.kIn hl2) r2 hq;refine wpAny_call (codeAny_mono run fun r s' hq'=>?_)
 cases r with
 |error e=>exact hx XaU σ _ _ e s' I2 hq'
 |ok fl =>
   cases fl with
   |ret u =>
     obtain⟨v,H',I3,rv,ev,q3⟩:=I2.after hq';subst ev;exact⟨rv,⟨V.ref (hp.objs.size+1),H',I3,rfl,q3⟩⟩
   |next=>exact False.elim hq'
   |brk=>exact False.elim hq'
   |cont=>exact False.elim hq'
def FD (c:Jg X.K Y C f)(kp:W.keepIn X.K (.ref C)=true)(F:FnOk X.prog X.w X.K X.mg X.base CX k f fd ps sp)(hr:Room (k+1) X.A)(hg:Gl X x)(hm:X.mg x=some (.ref C))(hb:Ve X.K fd ps [])(hx:VP CX X E)
 (ha:PA X (e::es) t) (hdb:(x==("__debug__" : Str))=false:=by decide) (he:starEach (e::es) X.env=(false,eval e X.env)::starEach es X.env:=by rfl) (hpl:(backTo pos (starEach es X.env)).any (·.1)=false:=by rfl) :
 PE X (.Call (.Name x p) (e::es) [] pos) (GN C sp E t):=by
 intro XaU s σ H Q I h;refine wpAny_Call_Name_kw (J1 I hg hm ?_ hdb);refine W.callWith_K (h₀:=X.base) I.ok.mod.kin kp (QA (ha pos XaU s σ H _ I h) fun us s1 ⟨vs,H1,I1,r,q⟩=>⟨I1.kIn,?_⟩) he hpl;exact Eg c F hr hb hx I1 r q.1 q.2
end
def sXR (C:Addr)(te:TE)(R:Addr->Qj->Hp->Prop):TS:=fun D σ H=>te σ H fun v H1=>∃e dct,v=.ref e/\H1 e=some (.ext (phX C e dct))/\R e dct H1
section
variable {M:Model}{A:Around}{E:Qb}{env:Env}
variable {nm q:Str}{C N:Addr}{bs bm:Qe}{hdct:Bool}{sn:Qh}{sub:Qe}{ab:Bool}{col:Option Bool}{dd:Qj}{k0 k1 k2 k3 k5:Qf}{newId:String}
def Fw {s:Shared}{x:Sem Value}{Q:Flow->Shared->Prop}(hh:A.handled=none)
 (h:wpAny M A x (fun v b6=>∃e t dct sl bm nm q N bs hdct sn sub ab col dd k0 k1 k2 k3 k5 newId,v=.ref e/\bm.contains (Value.type "BaseException")=true/\b6.heap.get? C=some (excClassObj nm q C N bs bm hdct sn sub ab col dd k0 k1 k2 k3 k5 newId) /\
  b6.heap.get? e=some { cls:=.ref C,dict:=dct,data:=.fields #[.ref t,.none,.none,.none,.bool false,.none],slots:=sl }/\E (.ref e) b6) E s) :
 wpAny M A (raiseStmt env (some x) none) Q E s:=by
 unfold raiseStmt;refine Xc (wpAny_mono h (fun v b6 b8=>?_) fun _ _ x=>x);obtain⟨e,t,dct,sl,bm,nm,q,N,bs,hdct,sn,sub,ab,col,dd,k0,k1,k2,k3,k5,newId,rfl,hbase,hC,he,hE⟩:=b8;have hcB:(Value.ref C::bm).contains (.type "BaseException")=true:=by rw[List.contains_cons,hbase,Bool.or_true]
 obtain⟨hp,g,d,tk,os⟩:=b6
 repeat (first|with_reducible refine wpAny_loadPart_at he ?_|with_reducible refine wpAny_loadPart_at hC ?_|(with_reducible refine wpAny_isSubtype_exc hC ?_;rw[hcB])|wp_step)
 exact wpAny_raiseNew_none hh hE
end
end L2
namespace L2
open PySem
section
variable {M:Model}{A:Around}{E:Qb}{s:Shared}
structure Leaves (l:List Env)(e:Addr)(oe:Obj)(h h':Heap)(T:Addr):Prop where
 keep:∀b o,b∉l.filterMap (·.frame)->b≠e->h.get? b=some o->h'.get? b=some o
 slot:∀b o,b∈l.filterMap (·.frame)->h.get? b=some o->∃sl,h'.get? b=some { o with slots:=sl }
 new:h.objs.size<=T
 exc:h'.get? e=some (Obj.mapFields (·.setIfInBounds 1 (Value.ref T)) oe)
 tb:∃oT ts,h'.get? T=some oT/\oT.data=.fields ts/\ts[3]?=some .none
def S5 {base:Heap}{env:Env}{outer:List Env}{L e:Addr}{oe:Obj}{vs:Array Value}{head:Value}{hadNext:Bool}{Q:Unit->Shared->Prop}
 (hfr:A.frames=some (env::outer)) (hl:s.heap.FunFrames base (env::outer)) (hf:env.frame=some L)
 (he:s.heap.get? e=some oe) (hd:oe.data=.fields vs) (hsz:1<vs.size)
 (h:∀h' T,Leaves (env::outer) e oe s.heap h' T->Q () { s with heap:=h' }) :
 wpAny M A (do let a <- frameOf env;let pl <- entryPlaceOf L hadNext;let b <- EntryCells.newEntry head a .none (rawInt L) .none pl;setField (.ref e) 1 b) (fun _ s'=>wpAny M A (setFlight (.ref e) none) Q E s') E s:=by
 have hene:e∉(env::outer).filterMap (·.frame):=fun hm=>by
  obtain⟨_,o,ho,hnf⟩:=hl.mem hm;rw[he]at ho;injection ho with ho;subst ho;exact hnf vs hd
 refine Xc (wpAny_frameOf_fun hfr hl hf fun b8 c5=>?_);refine Xc (wpAny_entryPlaceOf fun pl hpl=>?_);unfold EntryCells.newEntry newFields;refine Xc (wpAny_newObj_type ?_ (hpl.sizeOk5 _ _ _ _ _));have cj:b8.get? e=some oe:=(c5.2.1 e hene).trans he;have cq:=Xi (h:=b8) { cls:=.type "traceback",dict:=none,data:=.fields ([head,.ref L,.none,rawInt L,.none]++(if pl.isEmpty then List.replicate 6 Value.none else pl)).toArray } cj;refine wpAny_setField cq hd hsz ?_;have hTe:b8.objs.size≠e:=VU (Xj cj);have cw:=Obj.data_mapFields hd (·.setIfInBounds 1 (Value.ref b8.objs.size));have cx:=X9 (Obj.mapFields (·.setIfInBounds 1 (Value.ref b8.objs.size))) cq (Obj.isFreed_of_fields cw)
 have cz:=(XW (b8.push { cls:=.type "traceback",dict:=none,data:=.fields ([head,.ref L,.none,rawInt L,.none]++(if pl.isEmpty then List.replicate 6 Value.none else pl)).toArray })
  (Obj.mapFields (·.setIfInBounds 1 (Value.ref b8.objs.size))) (Ne.symm hTe)).trans (XD b8 rfl)
 unfold setFlight;refine Xc (Je cx cw (x:=.ref b8.objs.size) (by simp[hsz]) ?_);rw[Xd (show(Value.ref b8.objs.size != Value.none)=true from by simp)];refine wpAny_setField cz rfl (by simp only[Xx,Xo,Oq,List.length_nil]<;>omega) (h _ b8.objs.size ?_)
 have keep:∀b o,b≠e->b8.get? b=some o ->
  (((b8.push { cls:=.type "traceback",dict:=none,data:=.fields ([head,.ref L,.none,rawInt L,.none]++(if pl.isEmpty then List.replicate 6 Value.none else pl)).toArray }).update e (Obj.mapFields (·.setIfInBounds 1 (Value.ref b8.objs.size)))).update b8.objs.size
    (Obj.mapFields (·.setIfInBounds 3 ((none:Qj).elim Value.none fun f=>rawInt f)))).get? b=some o:=fun b o hbe hb=>by
  have hbT:b8.objs.size≠b:=VU (Xj hb);rw[XW _ _ hbT,XW _ _ (Ne.symm hbe)];exact Xi _ hb
 refine⟨fun b o hb hbe ho=>keep b o hbe ((c5.2.1 b hb).trans ho),fun b o hb ho=>?_,?_,?_,?_⟩
 ·obtain⟨sl,hs⟩:=c5.2.2 b o ho
  exact⟨sl,keep b _ (fun q=>hene (q▸hb)) hs⟩
 ·exact Nat.le_of_eq c5.1.symm
 ·rw[XW _ _ hTe];exact cx
 ·exact⟨_,_,X9 _ cz (Obj.isFreed_of_fields (Obj.data_mapFields rfl _)),Obj.data_mapFields rfl _,by first|(simp;done)|(rcases hpl with rfl|⟨_,_,_,_,_,_,_,rfl⟩<;>simp)⟩
def Ih {base:Heap}{env:Env}{outer:List Env}{L e:Addr}{oe:Obj}{vs:Array Value}{Q:Unit->Shared->Prop}
 (hfr:A.frames=some (env::outer)) (hl:s.heap.FunFrames base (env::outer)) (hf:env.frame=some L)
 (he:s.heap.get? e=some oe) (hd:oe.data=.fields vs) (h1:vs[1]?=some .none)
 (h:∀h' T,Leaves (env::outer) e oe s.heap h' T->Q () { s with heap:=h' }):wpAny M A (leaving env (.ref e)) Q E s:=by
 unfold leaving noteFrame;simp only[hf];refine Xc (Xc (Je he hd h1 ?_));rw[Xb (by decide)];exact S5 hfr hl hf he hd (Array.getElem?_eq_some_iff.mp h1).1 h
def Pk {base:Heap}{env:Env}{outer:List Env}{L e T0:Addr}{oe oT:Obj}{vs ts:Array Value}{Q:Unit->Shared->Prop}
 (hfr:A.frames=some (env::outer)) (hl:s.heap.FunFrames base (env::outer)) (hf:env.frame=some L)
 (he:s.heap.get? e=some oe) (hd:oe.data=.fields vs) (h1:vs[1]?=some (.ref T0)) (hTe:T0≠e) (hT:s.heap.get? T0=some oT) (hdT:oT.data=.fields ts) (h3:ts[3]?=some .none)
 (h:∀h' T,Leaves (env::outer) e oe s.heap h' T->Q () { s with heap:=h' }):wpAny M A (noteFrame (.ref e) env) (fun _ s'=>wpAny M A (setFlight (.ref e) none) Q E s') E s:=by
 unfold noteFrame;simp only[hf];refine Xc (Je he hd h1 ?_);rw[Xd (show(Value.ref T0 != Value.none)=true from by simp)];refine Xc (Je hT hdT h3 ?_);rw[Xb (show ¬((Value.none==rawInt L)=true) from by simp[rawInt])];refine Xc (wpAny_setField hT hdT (Array.getElem?_eq_some_iff.mp h3).1 ?_);have hsz3:3<ts.size:=(Array.getElem?_eq_some_iff.mp h3).1
 have same:Obj.mapFields (·.setIfInBounds 3 Value.none) oT=oT:=by
  obtain⟨c,d,dt,sl⟩:=oT
  subst hdT;have:ts.setIfInBounds 3 Value.none=ts:=by
   apply Array.ext_getElem?
   intro i;rw[Array.getElem?_setIfInBounds];by_cases hi:3=i
   ·subst hi;rw[Xd rfl,Xd hsz3,h3]
   ·rw[Xb hi]
  unfold Obj.mapFields;simp[this]
 have all:∀b o,s.heap.get? b=some o->(s.heap.update T0 (Obj.mapFields (·.setIfInBounds 3 Value.none))).get? b=some o:=fun b o hb=>by
  by_cases q:b=T0
  ·subst q
   rw[hT]at hb;cases hb;rw[X9 _ hT (Obj.isFreed_of_fields (Obj.data_mapFields hdT _)),same]
  ·rw[XW _ _ (Ne.symm q)];exact hb
 refine S5 (s:={ s with heap:=_ }) hfr (hl.of_keeps fun b o hb hnf=>⟨o,all b o hb,rfl⟩) hf (all e _ he) hd (Array.getElem?_eq_some_iff.mp h1).1 fun h' T Z=>h h' T ?_
 exact⟨fun b o x1 x2 x3=>Z.keep b o x1 x2 (all b o x3),fun b o x1 x2=>Z.slot b o x1 (all b o x2),by have:=Z.new;simpa only [Heap.size_update] using this,Z.exc,Z.tb⟩
def EE {base:Heap}{env:Env}{outer:List Env}{L e T0:Addr}{oe oT:Obj}{vs ts:Array Value}{Q:Unit->Shared->Prop}
 (hfr:A.frames=some (env::outer)) (hl:s.heap.FunFrames base (env::outer)) (hf:env.frame=some L)
 (he:s.heap.get? e=some oe) (hd:oe.data=.fields vs) (h1:vs[1]?=some (.ref T0)) (hTe:T0≠e) (hT:s.heap.get? T0=some oT) (hdT:oT.data=.fields ts) (h3:ts[3]?=some .none)
 (h:∀h' T,Leaves (env::outer) e oe s.heap h' T->Q () { s with heap:=h' }):wpAny M A (leaving env (.ref e)) Q E s:=Xc (Pk hfr hl hf he hd h1 hTe hT hdT h3 h)
end
end L2
namespace L2
open PySem PySem.Spec PyProof.Rows
def phT (T:Addr):Heap->Prop:=fun h=>∃oT ts,h.get? T=some oT/\oT.data=.fields ts/\ts[3]?=some .none
def phF (C e:Addr)(dct:Qj)(T:Addr):Heap->Prop:=fun h=>∃(vs:Array Value) (sl:Array (Qf)),h.get? e=some { cls:=.ref C,dict:=dct,data:=.fields vs,slots:=sl }/\vs[1]?=some (.ref T)/\vs[2]?=some .none
def T7 {P:Program}{w:World}{H:Hp}{h:Heap}{T:Addr}(p:phT T h):Z3 P w H h T (.ext (phT T)):=⟨p,by obtain⟨o,_,q,_⟩:=p;exact⟨_,q⟩,fun h1 h2 p1 k=>by obtain⟨o,ts,q,r⟩:=p1;exact⟨o,ts,k _ q,r⟩⟩
def T8 {P:Program}{w:World}{H:Hp}{h:Heap}{C e T:Addr}{dct:Qj}(p:phF C e dct T h):Z3 P w H h e (.ext (phF C e dct T)):=⟨p,by obtain⟨o,_,q,_⟩:=p;exact⟨_,q⟩,fun h1 h2 p1 k=>by obtain⟨o,ts,q,r⟩:=p1;exact⟨o,ts,k _ q,r⟩⟩
abbrev left (C e:Addr)(dct:Qj)(T:Addr)(H:Hp):Hp:=upd (upd H e (.ext (phF C e dct T))) T (.ext (phT T))
section
variable {X:Cx}{XaU:Qc}{σ:St}{H:Hp}{s:Shared}
def Hd {C e T:Addr}{dct:Qj}{vs:Array Value}{sl:Array (Qf)}{h':Heap}(I:Qq X XaU σ H s)(mu:Mut (H e))
 (he:s.heap.get? e=some { cls:=.ref C,dict:=dct,data:=.fields vs,slots:=sl }) (hsz:1<vs.size) (hc2:vs[2]?=some .none)
 (Z:Leaves X.stack e { cls:=.ref C,dict:=dct,data:=.fields vs,slots:=sl } s.heap h' T):Qq X XaU σ (left C e dct T H) { s with heap:=h' }:=by
 have hTe:T≠e:=VU (Xn (Xj he) Z.new);have hnone:∀b,H b=none->b≠e:=fun b hb q=>by subst q;rw[hb]at mu;exact mu
 have hlt:∀b o,H b=some o->b≠T:=fun b o hb=>Xr (Xn (I.hok.lt hb) Z.new)
 have hne:∀b o,H b=some o->b≠e->left C e dct T H b=some o:=fun b o hb q=>by
  unfold left;rw[Qs (hlt b o hb),Qs q];exact hb
 have nfr:∀b o,H b=some o->b∉frs X.stack:=fun b o hb q=>by rw[I.stkFree b q]at hb;cases hb
 have nmu:∀b o,H b=some o->¬Mut (some o)->b≠e:=fun b o hb n q=>by subst q;rw[hb]at mu;exact n mu
 have U:Un (frs X.stack) [] H (left C e dct T H) s.heap h' :=
  { keep:=fun b o ho hb hf _=>Z.keep b o hf (hnone b hb) ho
    slot:=fun b o ho hb hf _=>Z.slot b o hf ho
    free:=fun b o ho hb _=>by
     unfold left;rw[Qs (Xr (Xn (Xj ho) Z.new)),Qs (hnone b hb)];exact hb
    there:=fun b o ho _=>by
     by_cases hf:b∈frs X.stack
     ·obtain⟨sl,z⟩:=Z.slot b o hf ho;exact⟨_,z⟩
     ·by_cases q:b=e
      ·subst q;exact⟨_,Z.exc⟩
      ·exact⟨_,Z.keep b o hf q ho⟩
    tups:=fun b xs hb=>hne b _ hb (nmu b _ hb (fun z=>z))
    frzs:=fun b o u hb=>hne b _ hb (nmu b _ hb (fun z=>z))
    tupo:=fun b xs o hb ho _=>Z.keep b o (nfr b _ hb) (nmu b _ hb (fun z=>z)) ho
    tbls:=fun b ps hb=>⟨#[],by rw[hne b _ hb (nmu b _ hb (fun z=>z))];simp⟩ }
 have hok:HOk X.prog X.w (left C e dct T H) h':=fun b u hb=>by
  by_cases q:b=T
  ·subst q
   unfold left at hb;rw[QC]at hb;cases hb;exact T7 Z.tb
  ·by_cases q2:b=e
   ·subst q2
    unfold left at hb;rw[Qs q,QC]at hb;cases hb;exact T8 ⟨_,_,Z.exc,by simp[hsz],by rw[Array.getElem?_setIfInBounds_ne (by decide)];exact hc2⟩
   ·have hb':H b=some u:=by unfold left at hb;rw[Qs q,Qs q2]at hb;exact hb
    refine(I.hok b u hb').stay (fun c v hc hv=>?_) (fun c hc=>?_) fun c xs hc=>?_
    ·rcases hc with z|z
     ·subst z;exact Z.keep c v (nfr c _ hb') q2 hv
     ·exact Z.keep c v (nfr c _ z) (nmu c _ z (fun z=>z)) hv
    ·exact hne c _ hc (nmu c _ hc (fun z=>z))
    ·exact hne c _ hc (nmu c _ hc (fun z=>z))
 obtain⟨hh,g,d,t,os⟩:=s;exact I.call (h':=h') (g':=g) (d':=d) (t':=t) (ch:=[]) U hok I.bare fun b z=>nomatch z
end
def Fly (C e:Addr)(dct:Qj)(H:Hp):Prop := ∃T,T≠e/\H e=some (.ext (phF C e dct T))/\H T=some (.ext (phT T))
def XE (C:Addr)(R:Addr->Qj->Hp->Prop):XK:=fun v dct H=>∃e,v=.ref e/\Fly C e dct H/\R e dct H
def CX1 (P:Program)(w:World):CXT:=fun outer H s E v s'=>∃dct H',s'.os=s.os/\AllBare s'.gens/\Un (frs outer) [] H H' s.heap s'.heap/\HOk P w H' s'.heap/\E v dct H'
def ZM (C:Addr)(R:Addr->Qj->Hp->Prop):Prop := ∀e dct H T,R e dct H->H T=none->T≠e->R e dct (left C e dct T H)
section
variable {P:Program}{w:World}{K:W.Frag}{mg:Str->Qf}{base:Heap}{N:Qh}{qual:Str}{scope:Scope}{f:Addr}{cd:Value}{A:Around}{outer:List Env}{s0:Shared}{H0:Hp}{C:Addr}{R:Addr->Qj->Hp->Prop}
abbrev cx1 (P:Program)(w:World)(K:W.Frag)(mg:Str->Qf)(base:Heap)(N:Qh)(qual:Str)(scope:Scope)(f:Addr)(cd:Value)(A:Around)(outer:List Env)(s0:Shared)(H0:Hp)(E:XK):Cx:=Vd (CX1 P w) P w K mg base N qual scope f cd A outer s0 H0 E
variable {XaU:Qc}{σ:St}{H:Hp}{s:Shared}
def Ah {e T:Addr}{dct:Qj}(h:T≠e):Fly C e dct (left C e dct T H):=⟨T,h,by unfold left;rw[Qs (Ne.symm h),QC],by unfold left;rw[QC]⟩
def NO {e:Addr}{dct:Qj}{h':Heap}{T:Addr}(hR:ZM C R)(I:Qq (cx1 P w K mg base N qual scope f cd A outer s0 H0 (XE C R)) XaU σ (left C e dct T H) { s with heap:=h' })(hT:H T=none)(hTe:T≠e)(r:R e dct H) :
 CX1 P w outer H0 s0 (XE C R) (.ref e) { s with heap:=h' }:=⟨dct,_,I.os,I.bare,I.base,I.hok,e,rfl,Ah hTe,hR e dct H T r hT hTe⟩
def Ad {e:Addr}{dct:Qj}(hR:ZM C R)(I:Qq (cx1 P w K mg base N qual scope f cd A outer s0 H0 (XE C R)) XaU σ H s)(he:H e=some (.ext (phX C e dct)))(r:R e dct H) :
 (cx1 P w K mg base N qual scope f cd A outer s0 H0 (XE C R)).xe (.ref e) s:=by
 obtain⟨⟨t,sl,hx⟩,_,_⟩:=I.hok e _ he;refine Ih I.ok.frames I.stack rfl hx rfl rfl fun h' T Z=>?_;exact NO hR (Hd I (by rw[he];trivial) hx (by simp) rfl Z) (I.hok.fresh Z.new) (VU (Xn (Xj hx) Z.new)) r
def Wu (hR:ZM C R):VP (CX1 P w) (cx1 P w K mg base N qual scope f cd A outer s0 H0 (XE C R)) (XE C R):=by
 intro XaU σ H s v s' I h;obtain⟨dct,H',os,bare,un,hok,e,rfl,⟨T0,hT0,he,hT⟩,r⟩:=h;obtain⟨hh,g,d,t,os'⟩:=s';obtain rfl:os'=s.os:=os;have I2:=I.call (h':=hh) (g':=g) (d':=d) (t':=t) (ch:=[]) un hok bare (fun b z=>nomatch z);obtain⟨⟨vs,sl,hx,h1,h2c⟩,_,_⟩:=I2.hok e _ he;obtain⟨⟨oT,ts,hx2,h2,h3⟩,_,_⟩:=I2.hok T0 _ hT;refine EE I2.ok.frames I2.stack rfl hx rfl h1 hT0 hx2 h2 h3 fun h' T Z=>?_;exact NO hR (Hd I2 (by rw[he];trivial) hx (Array.getElem?_eq_some_iff.mp h1).1 h2c Z) (I2.hok.fresh Z.new) (VU (Xn (Xj hx) Z.new)) r
end
section
variable {X:Cx}{C Y f:Addr}{e:Expr}{te:TE}{pos:Pos}{R:Addr->Qj->Hp->Prop}
def FP (c:Jg X.K Y C f)(calm:X.calm=true)(hv:PE X e te)(hx:∀XaU σ H s a dct,Qq X XaU σ H s->H a=some (.ext (phX C a dct))->R a dct H->X.xe (.ref a) s):PS X (.Raise (some e) none pos) (sXR C te R):=by
 intro XaU s σ H D I h;rw[arm_exec_Raise];simp only[evalOpt,Option.map];refine Xc (wpAny_standAt (Fw (C:=C) (I.ok.hd calm) (Xc (QA (hv XaU s σ H _ I h) fun u s1 ⟨v,H1,I1,r,a,dct,ev,ea,q⟩=>Xc (wpAny_standAt (Xq ?_))))));subst ev;obtain rfl:u=Value.ref a:=r;obtain⟨⟨t,sl,hx1⟩,_,_⟩:=I1.hok a _ ea;obtain⟨bmB,bm,nm,qn,N,bs,hdct,sn,sub,ab,col,dd,k0,k1,k2,k3,k5,FB,T,hC,_⟩:=c.cls _ I1.kIn
 exact⟨a,t,dct,sl,bm,nm,qn,N,bs,hdct,sn,sub,ab,col,dd,k0,k1,k2,k3,k5,_,rfl,T.hasType FB.hasBase,hC,hx1,hx _ _ _ _ _ _ I1 ea q⟩
end
inductive Lefts (C e:Addr)(dct:Qj):Hp->Hp->Prop
 |nil {H}:Lefts C e dct H H
 |step {H H' T}:Lefts C e dct H H'->H' T=none->T≠e->Lefts C e dct H (left C e dct T H')
def Lefts.head {C e:Addr}{dct:Qj}{H H':Hp}{T:Addr}(hT:H T=none)(he:T≠e)(h:Lefts C e dct (left C e dct T H) H'):Lefts C e dct H H':=by
 induction h with
 |nil=>exact .step .nil hT he
 |step _ a b ih=>exact .step ih a b
abbrev W4 (X:Cx)(e:Addr)(pn:Qc):Cx:={ X with pn:=pn,A:=X.A.mark (some (.ref e)),calm:=false,xe:=fun _ _=>False }
section
variable {X:Cx}{XaU:Qc}{σ:St}{H:Hp}{s:Shared}{C:Addr}{th:TS}{D:Ends}
def Qq.toPn (I:Qq X XaU σ H s):Qq { X with pn:=X.pn++XaU } [] σ H s :=
 ⟨⟨I.ok.mod,I.ok.kind,I.ok.glob,I.ok.blt,I.ok.above,I.ok.inj,I.ok.has,I.ok.cab,I.ok.hd,I.ok.frames,I.ok.stk,I.ok.exf,I.ok.bs,I.ok.bsz,I.ok.noex,I.ok.exfs,I.ok.funs,I.ok.frf⟩,I.os,I.bare,I.base,I.loc,I.cell,I.free,I.freeC,fun p hp=>I.pin p (by simpa using hp),I.hok,I.len⟩
def Qq.ofPn {pins':Qc}(I:Qq { X with pn:=X.pn++XaU } pins' σ H s):Qq X XaU σ H s :=
 ⟨⟨I.ok.mod,I.ok.kind,I.ok.glob,I.ok.blt,I.ok.above,I.ok.inj,I.ok.has,I.ok.cab,I.ok.hd,I.ok.frames,I.ok.stk,I.ok.exf,I.ok.bs,I.ok.bsz,I.ok.noex,I.ok.exfs,I.ok.funs,I.ok.frf⟩,I.os,I.bare,I.base,I.loc,I.cell,I.free,I.freeC,fun p hp=>I.pin p (UB _ hp),I.hok,I.len⟩
def Qq.toHandler {pn:Qc}{e:Addr}(I:Qq { X with pn:=pn } XaU σ H s):Qq (W4 X e pn) XaU σ H s :=
 ⟨⟨I.ok.mod,I.ok.kind,I.ok.glob,I.ok.blt,I.ok.above,I.ok.inj,I.ok.has,I.ok.cab,(fun z=>by cases z),I.ok.frames,I.ok.stk,I.ok.exf,I.ok.bs,I.ok.bsz,I.ok.noex,I.ok.exfs,I.ok.funs,I.ok.frf⟩,I.os,I.bare,I.base,I.loc,I.cell,I.free,I.freeC,I.pin,I.hok,I.len⟩
def Qq.ofHandler {pn:Qc}{e:Addr}(hc:X.Ok)(I:Qq (W4 X e pn) XaU σ H s):Qq { X with pn:=pn } XaU σ H s :=
 ⟨⟨I.ok.mod,I.ok.kind,I.ok.glob,I.ok.blt,I.ok.above,I.ok.inj,I.ok.has,I.ok.cab,hc.hd,hc.frames,I.ok.stk,I.ok.exf,I.ok.bs,I.ok.bsz,I.ok.noex,I.ok.exfs,I.ok.funs,I.ok.frf⟩,I.os,I.bare,I.base,I.loc,I.cell,I.free,I.freeC,I.pin,I.hok,I.len⟩
def SP.ofPn {f:Flow}{s':Shared}{pins':Qc}{E:Qb}(h:SP { X with pn:=X.pn++XaU,xe:=E } pins' D f s'):SP X XaU D f s':=by
 have o:∀{σ' H'},Qq { X with pn:=X.pn++XaU,xe:=E } pins' σ' H' s'->Qq X XaU σ' H' s':=fun I=>Qq.ofPn (I.unwish (X:={ X with pn:=X.pn++XaU }))
 cases f with
 |next=>obtain⟨σ',H',I,q⟩:=h;exact⟨σ',H',o I,q⟩
 |brk=>obtain⟨σ',H',I,q⟩:=h;exact⟨σ',H',o I,q⟩
 |cont=>obtain⟨σ',H',I,q⟩:=h;exact⟨σ',H',o I,q⟩
 |ret u=>obtain⟨v,σ',H',I,r,q⟩:=h;exact⟨v,σ',H',o I,r,q⟩
end
def Iq {M:Model}{A:Around}{E:Qb}{s:Shared}{C e T:Addr}{dct:Qj}{Q:Unit->Shared->Prop}(he:phF C e dct T s.heap)(hT:phT T s.heap)
 (h:∀h',(∀b o,s.heap.get? b=some o->h'.get? b=some o)->Q () { s with heap:=h' }):wpAny M A (setFlight (.ref e) none) Q E s:=by
 obtain⟨vs,sl,hx,h1,_⟩:=he;obtain⟨oT,ts,hx2,hdT,h3⟩:=hT;have hsz3:3<ts.size:=(Array.getElem?_eq_some_iff.mp h3).1
 have same:Obj.mapFields (·.setIfInBounds 3 Value.none) oT=oT:=by
  obtain⟨c,d,dt,sl⟩:=oT
  subst hdT;have:ts.setIfInBounds 3 Value.none=ts:=by
   apply Array.ext_getElem?
   intro i;rw[Array.getElem?_setIfInBounds];by_cases hi:3=i
   ·subst hi;rw[Xd rfl,Xd hsz3,h3]
   ·rw[Xb hi]
  unfold Obj.mapFields;simp[this]
 refine wpAny_setFlight_none hx rfl h1 hx2 hdT hsz3 (h _ fun b o hb=>?_)
 by_cases q:b=T
 ·subst q
  rw[hx2]at hb;cases hb;rw[X9 _ hx2 (Obj.isFreed_of_fields (Obj.data_mapFields hdT _)),same]
 ·rw[XW _ _ (Ne.symm q)];exact hb
def GM (tb:Ends->TS):TS:=fun D σ H=>tb D D σ H
section
variable {X:Cx}{C Y f:Addr}{th:TS}{tb:Ends->TS}{body suite:List Stmt}{b0:Stmt}{x:Str}{np hpos pos:Pos}{rest:List ExceptHandler}
end
end L2
namespace L2
open PySem PySem.Spec PyProof.Rows PySem.W
abbrev K5:Qe:=[.type "ValueError",.type "Exception",.type "BaseException",.type "object"]
def EC {K:Frag}{h:Heap}{N:Addr}{mg:Str->Qf}{n:Str}{v:Value}(X:K.In h)(G:h.Ns N mg)(e:nsIn K N n=some (some v)):mg n=some v:=by
 obtain⟨o,es,ep,ho,hd,_,hf⟩:=G;unfold nsIn at e;split at e
 ·rename_i c d es' n' sl q
  have:=X _ _ q
  rw[ho]at this;cases this
  cases hd
  split at e
  ·rename_i he
   cases e
   rw[<- hf];unfold nsFind findBy;rw[<- Array.find?_toList,he];rfl
  ·split at e<;>cases e
 ·cases e
def Bi (K:Frag)(C f:Addr):Bool:=match K.lookup C with
 |some ⟨.type "type",_,.cls cd,sl⟩=>(match cd.mro,sl.toList with
   |.ref C'::bm,[_,_,_,_,some (.builtin n),_]=>C'==C&&n == "ValueError.__new__" && !cd.hasDel&&tailIn K K5 bm&&nsOkIn K cd.ns&&nsIn K cd.ns "__init__" == some (some (.ref f))
   |_,_=>false)
 |_=>false
theorem NQ {K:Frag} {Y C f:Addr} {fo:Obj} (q:Bi K C f=true) (lf:K.lookup f=some fo) (hf:fo.cls=.type "function")
 (ga:specialIn K (.ref Y) "__getattribute__"=some (some (.builtin "type.__getattribute__"))) (rd:readsIn K Y (.type "type")=true) (ini:findCls K (.ref Y) (.type "type") "__init__"=some (.val (.builtin "ValueError.__init__"))):Jg K Y C f where
 ga:=ga
 rd:=rd
 ini:=ini
 cls:=fun h X=>by
  unfold Bi at q;split at q
  ·rename_i dd cd sl ho
   split at q
   ·rename_i C' bm k0 k1 k2 k3 n k5 hm hs
    simp only[JA,beq_iff_eq,Bool.not_eq_true']at q;obtain⟨⟨⟨⟨⟨rfl,rfl⟩,hdel⟩,ht⟩,hok⟩,hni⟩:=q;obtain⟨nm,bs,mro,ns,qn,hd,sn,sub,ab,col,del⟩:=cd
    dsimp only at hm hdel hok hni;subst hm hdel;have hsl:sl=#[k0,k1,k2,k3,some (.builtin "ValueError.__new__"),k5]:=by
     obtain⟨l⟩:=sl
     simp only at hs
     rw[hs]
    subst hsl;have G:h.Ns ns _:=.of_isNs (isNs_of_in X hok)
    exact⟨K5,bm,nm,qn,ns,bs,hd,sn,sub,ab,col,dd,k0,k1,k2,k3,k5,PySem.F.excBase_ValueError,tail_of_in X ht,X _ _ ho,_,fo,G,EC X G hni,X _ _ lf,hf⟩
   ·cases q
  ·cases q
end L2
namespace L2
open PySem PySem.Spec PyProof.Rows
def UO (P:Program)(w:World)(K:W.Frag)(mg:Str->Qf)(base:Heap)(x:Str)(ps:Qh)(k:Nat)(sp:Sp):Prop :=
 ∃f fd,mg x=some (.ref f)/\W.keepIn K (.ref f)=true/\Ve K fd ps []/\FnOk P w K mg base (CX1 P w) k f fd ps sp
section
variable {P:Program}{w:World}{K:W.Frag}{mg:Str->Qf}{base:Heap}
def Fun.okX {x qual:Str}{st:Stmt}{f:Addr}{fd:FuncData}{N ps:Qh}{k:Nat}{sp:Sp}(F:Fun K x qual st f fd)(S:Qp N ps (Q0 st))(len:∀vs H Q E,sp vs H Q E->vs.length=ps.length)
 (XaV:∀(cdv:Value) (A:Around) (outer:List Env) (s:Shared) (H:Hp) (vs:List V) (Q:VK) (E:XK),Room k (A.deeper (envOfC qual (Q0 st) s.heap.objs.size f cdv))->sp vs H Q E ->
  ∃t,PSs (cx1 P w K mg base N qual (Q0 st) f cdv A outer s H E) (Zx st) t/\t { nx:=fun _ H'=>Q .non H',rt:=Q } (start N vs) H):FnOk P w K mg base (CX1 P w) (k+1) f fd ps sp:=by
 obtain⟨oc,od,kV,doc,pm,an,cdv,ct,osl,rfl,lk,hcd⟩:=F.ex;exact Nt lk hcd S len fun A outer s H vs Q E hr hsp=>XaV cdv A outer s H vs Q E hr hsp
def Df.calX {x:Str}{st:Stmt}{N ps:Qh}{k:Nat}{sp:Sp}(D:Df K mg x st ps)(S:Qp N ps (Q0 st))(len:∀vs H Q E,sp vs H Q E->vs.length=ps.length)
 (XaV:∀(f:Addr) (cdv:Value) (A:Around) (outer:List Env) (s:Shared) (H:Hp) (vs:List V) (Q:VK) (E:XK),Room k (A.deeper (envOfC x (Q0 st) s.heap.objs.size f cdv))->sp vs H Q E ->
  ∃t,PSs (cx1 P w K mg base N x (Q0 st) f cdv A outer s H E) (Zx st) t/\t { nx:=fun _ H'=>Q .non H',rt:=Q } (start N vs) H):UO P w K mg base x ps (k+1) sp:=by
 obtain⟨f,fd,F,hm,hb⟩:=D.ex
 exact⟨f,fd,hm,F.kp,hb,F.okX S len fun cdv A outer s H vs Q E hr h=>XaV f cdv A outer s H vs Q E hr h⟩
end
section
variable {X:Cx}
def Rj {x:Str}{p pos:Pos}{e:Expr}{es:Qi}{t:TA}{ps:Qh}{j k:Nat}{sp:Sp}{E:XK}(C:UO X.prog X.w X.K X.mg X.base x ps j sp)(hr:Room k X.A)(hx:VP (CX1 X.prog X.w) X E)(ha:PA X (e::es) t)(hj:j<=k:=by walk_at"j")(hg:Gl X x:=by rfl)
 (hdb:(x==("__debug__" : Str))=false:=by decide +kernel)
 (he:starEach (e::es) X.env=(false,eval e X.env)::starEach es X.env:=by rfl) (hpl:(backTo pos (starEach es X.env)).any (·.1)=false:=by rfl):PE X (.Call (.Name x p) (e::es) [] pos) (VA sp [] E t):=by
 obtain⟨f,fd,hm,hk,hb,F⟩:=C;exact Ry F (hr.mono hj) hg hm hk hb .nil hx ha hdb he hpl
end
def Gz (K:W.Frag)(C:Addr)(f:Str):Sp:=fun vs H Q _=>∃(e p:Addr) (xs:List V),vs=[.ref e,.ref p]/\H e=some (.ext (phX C e none))/\SqL K H p xs /\
 ∀q dx,H q=none->H dx=none->dx≠q->dx≠e->q≠e->Q .non (upd (upd (upd H q (.lst xs)) e (.ext (phX C e (some dx)))) dx (.xd [(f,.ref q)]))
def Cw {K:W.Frag}{C:Addr}{f:Str}{n:Nat}{vs:List V}{H:Hp}{Q:VK}{E:XK}(h:Gz K C f vs H Q E) :
 VV (Vh (tXI C 0)) (sXF C (QB 0) (tCB (R6 K) (QE (QB 1) QP)) f) { nx:=fun _ H'=>Q .non H',rt:=Q } (vs.map some++List.replicate n none) H:=by
 obtain⟨e,p,xs,rfl,he,hp,hq⟩:=h;refine⟨e,none,rfl,he,?_⟩;refine⟨.ref p,rfl,?_⟩;refine⟨p,xs,rfl,.inl hp,fun q hqn=>?_⟩;have hqe:q≠e:=fun z=>by subst z;rw[he]at hqn;cases hqn
 refine⟨.ref e,rfl,e,rfl,by rw[Qs (Ne.symm hqe)];exact he,fun dx hdx hde=>?_⟩;have hdq:dx≠q:=fun z=>by subst z;rw[QC]at hdx;cases hdx
 exact hq q dx hqn (by rw[Qs hdq]at hdx;exact hdx) hdq hde hqe
structure FldL (f:Str)(e:Addr)(F H H0:Hp)(ds:Qd)(dx q:Addr)(xs:List V):Prop where
 hd:H dx=some (.xd [(f,.ref q)])
 hq:H q=some (.lst xs)
 fq:F q=none
 rp:Qw F xs ds
 nd:dx≠e
 nq:q≠e
 dq:dx≠q
 fe:F e=none
 fd:F dx=none
 q0:H0 q=none
 d0:H0 dx=none
def Fld (f:Str)(e:Addr)(F H H0:Hp)(dct:Qj)(ds:Qd):Prop := ∃dx q xs,dct=some dx/\FldL f e F H H0 ds dx q xs
def Fld.back {f:Str}{e:Addr}{F H H0 H1:Hp}{dct:Qj}{ds:Qd}(h:Fld f e F H H1 dct ds)(s:Q2 H0 H1):Fld f e F H H0 dct ds:=by
 obtain⟨dx,q,xs,a,b⟩:=h
 exact⟨dx,q,xs,a,b.hd,b.hq,b.fq,b.rp,b.nd,b.nq,b.dq,b.fe,b.fd,s.free b.q0,s.free b.d0⟩
def Wm (K:W.Frag)(C:Addr){δ:Type}(FL:Addr->Hp->Hp->Hp->Qj->δ->Prop)(R:List OT->(OT->Prop)->Prop)(Rx:List OT->(δ->Prop)->Prop):Sp:=fun vs H Q E=>∃F ts,KTs K F/\Q2 F H/\Args K F vs ts/\∃RR,E=XE C RR/\ZM C RR /\
 ((∃Φ,R ts Φ/\∀F' H' v p r,Φ r->Qx F H F' H'->(∀a∈p,H a=none)->Zk K F' H' v r p->Q v H')\/(∃Φx,Rx ts Φx/\∀F' H' e dct d,Φx d->Qx F H F' H'->H e=none->FL e F' H' H dct d->RR e dct H'))
abbrev spX (K:W.Frag)(C:Addr)(f:Str)(R:List OT->(OT->Prop)->Prop)(Rx:List OT->(Qd->Prop)->Prop):Sp:=Wm K C (Fld f) R Rx
def EvZ (K:W.Frag)(F0 H0:Hp)(t:TS)(ρ:Q6):Prop := ∀(F:Hp) (σ:St) (H:Hp) (E:Ends),Qx F0 H0 F H->Q9 K H0 F ρ σ H->t E σ H
section
variable {P:Program}{w:World}{K:W.Frag}{mg:Str->Qf}{base:Heap}
def Um {N ps:Qh}{vs:List V}{ts:List OT}{F H:Hp}(kt:KTs K F)(sm:Q2 F H)(ha:Args K F vs ts)(hl:ts.length<=N.length):Q9 K H F (ts.map some++List.replicate (N.length-ts.length) none) (start N vs) H:=by
 refine⟨kt,sm,?_,fun _=>[],fun i t' e=>?_,fun i j a h=>(nomatch h),fun i a h=>(nomatch h)⟩
 ·unfold start
  simp[ha.length]
 ·have hlt:i<ts.length:=by
   by_cases z:i<ts.length
   ·exact z
   ·rw[XY (by simpa using z)]at e
    have:=List.mem_of_getElem? e
    simp at this
  rw[XH (by simpa using hlt),Xt]at e;have e':ts[i]?=some t':=by
   cases z:ts[i]? with
   |none=>rw[z]at e;simp at e
   |some w=>rw[z]at e;simp at e;rw[e]
  obtain⟨v,e1,e2⟩:=ha.get (H:=H) i t' e';refine⟨v,?_,e2⟩;unfold start;have hl2:i<vs.length:=by rw[ha.length];exact hlt
  rw[XH (by simpa using hl2),Xt,e1];rfl
def Df.evZ {x:Str}{st:Stmt}{N ps:Qh}{k:Nat}{C:Addr}{δ:Type}{FL:Addr->Hp->Hp->Hp->Qj->δ->Prop}{R:List OT->(OT->Prop)->Prop}{Rx:List OT->(δ->Prop)->Prop}(D:Df K mg x st ps)(S:Qp N ps (Q0 st))(len:∀ts Φ,R ts Φ->ts.length=ps.length)(lenx:∀ts Φ,Rx ts Φ->ts.length=ps.length)
 (hpn:ps.length<=N.length)
 (hret:∀(f:Addr) (cdv:Value) (A:Around) (outer:List Env) (s:Shared) (H:Hp) RR (ts:List OT) (Φ:OT->Prop),Room k (A.deeper (envOfC x (Q0 st) s.heap.objs.size f cdv))->ZM C RR->R ts Φ ->
  ∃t,PSs (cx1 P w K mg base N x (Q0 st) f cdv A outer s H (XE C RR)) (Zx st) t/\Q1 K t (ts.map some++List.replicate (N.length-ts.length) none) { nx:=fun _=>Φ (.fz .none),rt:=Φ })
 (hexc:∀(f:Addr) (cdv:Value) (A:Around) (outer:List Env) (s:Shared) (F H:Hp) RR (ts:List OT) (Φx:δ->Prop),Room k (A.deeper (envOfC x (Q0 st) s.heap.objs.size f cdv))->ZM C RR->(∀F' H' e dct d,Φx d->Qx F H F' H'->H e=none->FL e F' H' H dct d->RR e dct H')->Rx ts Φx ->
  ∃t,PSs (cx1 P w K mg base N x (Q0 st) f cdv A outer s H (XE C RR)) (Zx st) t/\EvZ K F H t (ts.map some++List.replicate (N.length-ts.length) none)) :
 UO P w K mg base x ps (k+1) (Wm K C FL R Rx):=by
 refine D.calX S (fun vs H Q E ⟨F,ts,_,_,ha,RR,_,_,q⟩=>?_) fun f cdv A outer s H vs Q E hr ⟨F,ts,kt,sm,ha,RR,eE,st,q⟩=>?_
 ·rcases q with ⟨r,hR,_⟩|⟨r,hR,_⟩
  ·exact ha.length.trans (len ts r hR)
  ·exact ha.length.trans (lenx ts r hR)
 ·subst eE
  rcases q with ⟨Φ,hR,q⟩|⟨Φx,hR,q⟩
  ·obtain⟨t,h1,h2⟩:=hret f cdv A outer s H RR ts Φ hr st hR
   refine⟨t,h1,h2 F H F (start N vs) H _ (Qx.refl sm) (Um (ps:=ps) kt sm ha (by rw[len ts Φ hR];exact hpn)) ⟨fun F' σ' H' ρ' x' _ e=>?_,fun F' H' v r' p x' hp ok e=>?_,fun _ _ _ _ _ _ z=>False.elim z,fun _ _ _ _ _ _ z=>False.elim z⟩⟩
   ·exact q F' H' _ [] _ e x' (fun _ z=>nomatch z) ⟨rfl,.non⟩
   ·exact q F' H' v p r' e x' hp ok
  ·obtain⟨t,h1,h2⟩:=hexc f cdv A outer s F H RR ts Φx hr st q hR
   exact⟨t,h1,h2 F (start N vs) H _ (Qx.refl sm) (Um (ps:=ps) kt sm ha (by rw[lenx ts Φx hR];exact hpn))⟩
end
section
variable {K:W.Frag}{ρ:Q6}{ta:TE}{C:Addr}{f:Str}{F0 H0:Hp}{RR:Addr->Qj->Hp->Prop}{ds:Qd}{E:XK}
def CO {Φx:Qd->Prop}(h:Qu K ta ρ (.list ds))(hd:Φx ds)(hq:∀F' H' e dct d,Φx d->Qx F0 H0 F' H'->H0 e=none->Fld f e F' H' H0 dct d->RR e dct H'):EvZ K F0 H0 (sXR C (GN C (Gz K C f) E (QE ta QP)) RR) ρ:=by
 intro F σ H D x S;refine h H0 F σ H _ S fun F1 H1 v x1 rp=>⟨by simp,fun e he=>?_⟩
 cases rp with
 |@lst a xs _ r1 r2 =>
 have ha:H1 a=some (.lst xs):=x1.fh a _ r1;have hae:a≠e:=fun z=>by subst z;rw[he]at ha;cases ha
 refine⟨e,a,xs,rfl,QC,SqL.of (by rw[Qs hae];exact ha),fun q dx hqn hdn hdq hde hqe=>⟨rfl,e,some dx,rfl,?_,?_⟩⟩
 ·rw[Qs (Ne.symm hde),QC]
 ·have hq1:H1 q=none:=by rw[Qs hqe]at hqn;exact hqn
  have hd1:H1 dx=none:=by rw[Qs hde]at hdn;exact hdn
  have hf1:F1 q=none:=x1.fh.free hq1
  have sm:Q2 H1 (upd (upd (upd (upd H1 e (.ext (phX C e none))) q (.lst xs)) e (.ext (phX C e (some dx)))) dx (.xd [(f,.ref q)])):=fun b o hb=>by
   have n1:b≠e:=fun z=>by subst z;rw[he]at hb;cases hb
   have n2:b≠q:=fun z=>by subst z;rw[hq1]at hb;cases hb
   have n3:b≠dx:=fun z=>by subst z;rw[hd1]at hb;cases hb
   rw[Qs n3,Qs n1,Qs n2,Qs n1];exact hb
  have X1:=x.trans x1
  have hqh:upd (upd (upd (upd H1 e (.ext (phX C e none))) q (.lst xs)) e (.ext (phX C e (some dx)))) dx (.xd [(f,.ref q)]) q=some (.lst xs):=by
   rw[Qs (Ne.symm hdq),Qs hqe,QC]
  have X2:Qx F0 H0 F1 (upd (upd (upd (upd H1 e (.ext (phX C e none))) q (.lst xs)) e (.ext (phX C e (some dx)))) dx (.xd [(f,.ref q)])):=X1.trans ⟨sm,Q2.refl _,X1.fh.trans sm,fun b hb=>.inl hb⟩;exact hq F1 _ e (some dx) ds hd X2 (X1.hh.free he) ⟨dx,q,xs,rfl,QC,hqh,hf1,r2,hde,hqe,hdq,X1.fh.free he,X1.fh.free hd1,X1.hh.free hq1,X1.hh.free hd1⟩
def T2 {t u:TS}(M:Q6->Prop)(h1:Q1 K t ρ { nx:=M,rt:=fun _=>False })(h2:∀ρ',M ρ'->EvZ K F0 H0 u ρ'):EvZ K F0 H0 (VV t u) ρ:=fun F σ H E x S =>
 h1 F0 H0 F σ H _ x S ⟨fun F' σ' H' ρ' x' S' e=>h2 ρ' e F' σ' H' E x' S',fun _ _ _ _ _ _ _ _ z=>z.elim,fun _ _ _ _ _ _ z=>False.elim z,fun _ _ _ _ _ _ z=>False.elim z⟩
def Tp {t:TS}(i:Nat){ds:Qd}(e:ρ[i]?=some (some (.ol ds)))(h:EvZ K F0 H0 t (ρ.set i (some (.fz (.list ds))))):EvZ K F0 H0 t ρ:=fun F σ H E x S=>by
 obtain⟨a,xs,e1,e2,e3,_,_,S'⟩:=S.freeze e;exact h _ σ H E (x.freeze e1 e2 e3) S'
def MQ {t u:TS}{ρ1:Q6}(h1:Q1 K t ρ { nx:=fun ρ'=>ρ'=ρ1,rt:=fun _=>False })(h2:EvZ K F0 H0 u ρ1):EvZ K F0 H0 (VV t u) ρ:=fun F σ H E x S =>
 h1 F0 H0 F σ H _ x S ⟨fun F' σ' H' ρ' x' S' e=>by subst e;exact h2 F' σ' H' E x' S',fun _ _ _ _ _ _ _ _ z=>z.elim,fun _ _ _ _ _ _ z=>False.elim z,fun _ _ _ _ _ _ z=>False.elim z⟩
def Gc {t u:TS}(h:EvZ K F0 H0 t ρ):EvZ K F0 H0 (VV t u) ρ:=fun F σ H E x S=>h F σ H _ x S
def MK {tA:TT}{t u:TS}{b:Bool}(h:Ze K tA ρ b)(h1:b=true->EvZ K F0 H0 t ρ)(h2:b=false->EvZ K F0 H0 u ρ):EvZ K F0 H0 (UM tA t u) ρ:=fun F σ H E x S =>
 h H0 F σ H _ S fun F' H' x'=>by
  cases b with
  |true=>rw[Xd rfl];exact h1 rfl F' σ H' E (x.trans x') (S.ext x')
  |false=>rw[Xb (by decide)];exact h2 rfl F' σ H' E (x.trans x') (S.ext x')
def FZ {R:List OT->(OT->Prop)->Prop}{Rx:List OT->(Qd->Prop)->Prop}{Φx:Qd->Prop}{t:TA}{ts:List OT}{Q:VK}(hA:Zn K t ρ ts)(hR:Rx ts Φx)(st:ZM C RR)(hq:∀F' H' e dct d,Φx d->Qx F0 H0 F' H'->H0 e=none->Fld f e F' H' H0 dct d->RR e dct H'){F H9:Hp}{σ:St}{H:Hp}(x:Qx F0 H0 F H)(S:Q9 K H9 F ρ σ H) :
 VA (spX K C f R Rx) [] (XE C RR) t σ H Q:=hA H9 F σ H _ S fun F1 H1 vs x1 r1 =>
 ⟨F1,ts,(S.ext x1).kt,x1.fh,by rw[Xz];exact r1,RR,rfl,st,.inr ⟨Φx,hR,fun F' H' e dct d hd x2 he hf=>hq F' H' e dct d hd ((x.trans x1).trans x2) ((x.trans x1).hh.free he) (hf.back (x.trans x1).hh)⟩⟩
def LV {R:List OT->(OT->Prop)->Prop}{Rx:List OT->(Qd->Prop)->Prop}{Φx:Qd->Prop}{t:TA}{ts:List OT}(hA:Zn K t ρ ts)(hR:Rx ts Φx)(st:ZM C RR)(hq:∀F' H' e dct d,Φx d->Qx F0 H0 F' H'->H0 e=none->Fld f e F' H' H0 dct d->RR e dct H') :
 EvZ K F0 H0 (Vh (VA (spX K C f R Rx) [] (XE C RR) t)) ρ:=fun F σ H E x S=>FZ hA hR st hq x S
def FN {R:List OT->(OT->Prop)->Prop}{Rx:List OT->(Qd->Prop)->Prop}{Φ:OT->Prop}{t:TA}{ts:List OT}(hA:Zn K t ρ ts)(hR:R ts Φ)(st:ZM C RR):Zl K (VA (spX K C f R Rx) [] (XE C RR) t) ρ Φ:=fun H0 F σ H Q S q =>
 hA H0 F σ H _ S fun F1 H1 vs x1 r1 =>
  ⟨F1,ts,(S.ext x1).kt,x1.fh,by rw[Xz];exact r1,RR,rfl,st,.inl ⟨Φ,hR,fun F2 H2 v p r hr x2 hp ok=>q F2 H2 v p r hr (x1.trans x2) (fun a ha=>x1.hh.free (hp a ha)) ok⟩⟩
def WX {t:TE}{D:PEnds}{Φ:OT->Prop}(h:Zl K t ρ Φ)(hn:D.nx ρ):Q1 K (Vh t) ρ D:=fun F0 H0 F σ H E x S c =>
 h H0 F σ H _ S fun F' H' v p r _ x' _ _=>c.nx F' σ H' ρ (x.trans x') (S.ext x') hn
end
section
variable {K:W.Frag}{ρ:Q6}{C:Addr}{th:TS}{tb:Ends->TS}{D:PEnds}{n:Nat}
def BM {e:Addr}{dct:Qj}{G H H':Hp}(h:Lefts C e dct H H')(s:Q2 G H)(he:G e=none):Q2 G H':=by
 induction h with
 |nil=>exact s
 |@step H1 T h1 hT hTe ih =>
   intro b o hb;have n1:b≠e:=fun z=>by subst z;rw[he]at hb;cases hb
   have hb1:=ih b o hb;have n2:b≠T:=fun z=>by subst z;rw[hT]at hb1;cases hb1
   unfold left;rw[Qs n2,Qs n1];exact hb1
def Dy (h:∀E,Q1 K (tb E) ρ D):Q1 K (GM tb) ρ D:=fun F0 H0 F σ H E x S c=>h E F0 H0 F σ H E x S c
end
structure XC (K:W.Frag)(mg:Str->Qf)(x:Str)(Y C f:Addr):Prop where
 cl:Jg K Y C f
 kp:W.keepIn K (.ref C)=true
 m:mg x=some (.ref C)
def JS (P:Program)(w:World)(K:W.Frag)(mg:Str->Qf)(base:Heap)(f:Addr)(ps:Qh)(k:Nat)(sp:Sp):Prop := ∃fd,Ve K fd ps []/\FnOk P w K mg base CX0 k f fd ps sp
section
variable {P:Program}{w:World}{K:W.Frag}{mg:Str->Qf}{base:Heap}{N:Qh}{qual:Str}{scope:Scope}{f f0:Addr}{cd:Value}{A:Around}{outer:List Env}{s0:Shared}{H0:Hp}{Y C:Addr}{RR:Addr->Qj->Hp->Prop}
def J6 {x:Str}{p pos pos':Pos}{e:Expr}{es:Qi}{t:TA}{ps:Qh}{j k:Nat}{sp:Sp}(c:XC K mg x Y C f)(ci:JS P w K mg base f ps j sp)(hst:ZM C RR)(hr:Room k (cx1 P w K mg base N qual scope f0 cd A outer s0 H0 (XE C RR)).A)
 (ha:PA (cx1 P w K mg base N qual scope f0 cd A outer s0 H0 (XE C RR)) (e::es) t) (hj:j+1<=k:=by walk_at"j") (hg:Gl (cx1 P w K mg base N qual scope f0 cd A outer s0 H0 (XE C RR)) x:=by rfl)
 (hdb:(x==("__debug__" : Str))=false:=by decide) (he:starEach (e::es) (cx1 P w K mg base N qual scope f0 cd A outer s0 H0 (XE C RR)).env=(false,eval e (cx1 P w K mg base N qual scope f0 cd A outer s0 H0 (XE C RR)).env)::starEach es (cx1 P w K mg base N qual scope f0 cd A outer s0 H0 (XE C RR)).env:=by rfl)
 (hpl:(backTo pos (starEach es (cx1 P w K mg base N qual scope f0 cd A outer s0 H0 (XE C RR)).env)).any (·.1)=false:=by rfl) :
 PS (cx1 P w K mg base N qual scope f0 cd A outer s0 H0 (XE C RR)) (.Raise (some (.Call (.Name x p) (e::es) [] pos)) none pos') (sXR C (GN C sp E0 t) RR):=by
 obtain⟨fd,hb,F⟩:=ci;exact FP c.cl rfl (FD c.cl c.kp F (hr.mono hj) hg c.m hb Jn ha hdb he hpl) (fun XaU σ H s a dct I he r=>Ad hst I he r)
end
section
variable {K:W.Frag}{ρ:Q6}{ta tb:TE}{t:TA}
end
def Dh (D:Ends)(j:Nat):Ends:={ nx:=fun σ H=>D.nx (σ.set j none) H,rt:=fun _ _=>False }
def Ol (X:Cx)(E:XK)(pn:Qc)(v:Value)(s:Shared):Prop := ∃(σ:St) (H:Hp) (dct:Qj),Qq { X with pn:=pn } [] σ H s/\E v dct H
abbrev MV (X:Cx)(E:XK)(pn:Qc):Cx:={ X with pn:=pn,xe:=Ol X E pn }
section
variable {X:Cx}{XaU:Qc}{σ:St}{H:Hp}{s:Shared}{C:Addr}{th:TS}{D:Ends}
def G9 {E:XK}{pn:Qc}:VP (CX1 X.prog X.w) (MV X E pn) E:=by
 intro XaU σ H s v s' I h;obtain⟨dct,H',os,bare,un,hok,hE⟩:=h;obtain⟨hh,g,d,t,os'⟩:=s';obtain rfl:os'=s.os:=os;have I2:=I.call (h':=hh) (g':=g) (d':=d) (t':=t) (ch:=[]) un hok bare (fun b z=>nomatch z)
 exact⟨σ,H',dct,(I2.unwish (X:={ X with pn:=pn })).pins_of (fun p hp=>by cases hp),hE⟩
def E6 {M:Model}{A:Around}{E:Qb}{i:Nat}{x:Str}{pos:Pos}{Q:Unit->Shared->Prop}(I:Qq X XaU σ H s)(hN:X.N.Nodup)(hi:X.N[i]?=some x)(hk:X.env.scope.names.lookup x=some .local)
 (h:∀s',Qq X XaU (σ.set i none) H s'->Q () s'):wpAny M A (do bindName X.env x .none;unbindBehindTheSuite X.env x pos) Q E s:=by
 obtain⟨m,hn,hl⟩:=id I.loc;have hcls:(X.env.scope.kind==.class||(X.env.scope.kind==.module&&X.env.locals != X.env.globals))=false:=by rw[I.ok.kind];rfl
 have hiσ:i<σ.length:=by rw[I.len];exact(Xg.mp hi).1
 have cne:=I.cne
 have tracked:∀{a:Addr} {h':Heap},(∃o,s.heap.get? a=some o/\H a=none)->Heap.SameBut a s.heap h'->HOk X.prog X.w H h':=fun{a h'} ha hs b ob e=>by
  obtain⟨_,_,hfree⟩:=ha;refine(I.hok b ob e).stay (fun c w' hc q=>(hs.2 c ?_).trans q) (fun _ q=>q) fun _ _ q=>q
  rintro rfl
  rcases hc with rfl|hc
  ·rw[hfree]at e;cases e
  ·rw[hfree]at hc;cases hc
 refine wpAny_nameGoes_keeps (m:=m) (by exact hk) hn hcls fun h' v hn' hs=>?_;obtain⟨oL,_,_,hoL,_⟩:=id hn;refine h _ ⟨I.ok,I.os,I.bare,⟨fun b o e n hb hx=>?_,fun b o e n hb hx=>?_,I.base.free,fun b o e hx=>?_,I.base.tups,I.base.frzs,fun b xs o q e hx=>(hs.2 b (Xr (Xn (Xj e) I.ok.above))).trans (I.base.tupo b xs o q e hx),I.base.tbls⟩,⟨_,hn',fun j y v' e1 e2 e3=>?_⟩,fun y c e=>?_,I.free,I.freeC,fun p hp=>?_,tracked ⟨oL,hoL,I.free⟩ hs,by simpa using I.len⟩
 ·exact(hs.2 b (Xr (Xn (Xj e) I.ok.above))).trans (I.base.keep b o e n hb hx)
 ·obtain⟨sl,e1⟩:=I.base.slot b o e n hb hx
  exact⟨sl,(hs.2 b (Xr (Xn (Xj e) I.ok.above))).trans e1⟩
 ·obtain⟨o',e1⟩:=I.base.there b o e hx
  exact⟨o',(hs.2 b (Xr (Xn (Xj e) I.ok.above))).trans e1⟩
 ·by_cases hj:j=i
  ·subst hj
   rw[Xk hiσ]at e2;cases e2
  ·rw[Xp (Ne.symm hj)]at e2
   obtain⟨u',r',q⟩:=hl j y v' e1 e2 e3;refine⟨u',r',?_⟩
   rcases q with ⟨k,e⟩|⟨k,c,e,z⟩
   ·refine .inl ⟨k,?_⟩
    have:y≠x:=fun e=>hj (B3 hN e1 (e▸hi))
    simp[this,e]
   ·exact .inr ⟨k,c,e,z.sameBut hs (cne y c e)⟩
 ·obtain⟨w',z⟩:=I.cell y c e
  exact⟨w',z.sameBut hs (cne y c e)⟩
 ·obtain⟨e,n,ne,nf,d⟩:=I.pin p hp
  exact⟨(hs.2 p.1 ne).trans e,n,ne,nf,d⟩
end
section
variable {X:Cx}{C B:Addr}{th:TS}{tb:Ends->TS}{body suite:List Stmt}{b0:Stmt}{x n:Str}{j:Nat}{np hpos pos:Pos}{rest:List ExceptHandler}
end
end L2
section
namespace L2
open PySem PySem.Spec PyProof.Rows
section
variable {K:W.Frag}{ρ:Q6}{D:PEnds}
def Q9.setN {H0 F H:Hp}{σ:St}{r:Nat}(u:Option V)(s:Q9 K H0 F ρ σ H):Q9 K H0 F (ρ.set r none) (σ.set r u) H:=by
 obtain⟨kt,h1,h2,fp,h3,h4,h5⟩:=s;refine⟨kt,h1,by simp[h2],fp,fun j t e=>?_,h4,h5⟩
 by_cases z:r=j
 ·subst z
  by_cases l:r<ρ.length
  ·rw[Xk l]at e;cases e
  ·rw[Kx.mpr (by simp;omega)]at e;cases e
 ·rw[Xp z]at e ⊢
  exact h3 j t e
end
end L2
end
namespace L2
open PySem PySem.Spec PyProof.Rows
section
open PySem.W
variable {prog:Program}{w:World}{A:Around}{E:Qb}{s:Shared}{K:Frag}{x C:Addr}{ox:Obj}{od:Option Obj}{name:Str}{tk:Tok}{fill expr:Bool}
structure JE (K:Frag)(C:Addr):Prop where
 ga:findIn K (.ref C) "__getattribute__"=some (some (.builtin "BaseException.__getattribute__"))
 gt:findIn K (.ref C) "__getattr__"=some none
 mb:mroIn K C (.type "BaseException")=some true
def SR {Q:Unit->Shared->Prop} {M:Model} {nameV:Value} (c:JE K C) (X:K.In s.heap) (I:InstAt s.heap x ox C od) (hq:Q () s):wpAny M A (checkBuiltinCall "BaseException.__getattribute__" ⟨[.ref x,nameV],[]⟩) Q E s:=by
 have hk:builtinKind "BaseException.__getattribute__"=some .slot:=by decide +kernel
 have hsplit:splitId "BaseException.__getattribute__"=some ("BaseException","__getattribute__"):=by decide +kernel
 have ha:=F.args_bexc_ga (.ref x) nameV;have L0:=I.type (M:=M);have L1:=looks_mroIn (M:=M) X c.mb;simp only[checkBuiltinCall,hk,hsplit];obtain⟨hh,g,d,t,os⟩:=s;refine Xc ((L0.andThen L1).at ?_)
 repeat (any_goals (first|assumption|wp_step))
def Sh {Q:Qb}(c:JE K C)(X:K.In s.heap)(I:InstAt s.heap x ox C od)
 (h:codeAny (model prog w) A (.call (.builtin "BaseException.__getattribute__") ⟨[.ref x,.str name tk],[]⟩) (fun r s'=>∃v,r=.ok (.ret v)/\wpAny (model prog w) A (handedOut v) Q E s') s) :
 wpAny (model prog w) A (getAttrBy (.ref x) (.str name tk) fill expr) Q E s:=by
 have f3:=F.excAttr_ValueError.ga.bind (.ref x);have hx0:(expr&&onTheHeap (Value.builtin "BaseException.__getattribute__"))=false:=by cases expr<;>rfl
 have hx2:(Value.builtin "BaseException.__getattribute__" == Value.builtin "object.__getattribute__")=false:=by decide +kernel
 have hx1:(onTheHeap (Value.ref C)&&Value.builtin "BaseException.__getattribute__" == Value.builtin "object.__getattribute__")=false:=by rw[hx2];rfl
 obtain⟨hh,g,d,t,os⟩:=s;have L0:=I.type (M:=model prog w);have L1:=looks_findIn (M:=model prog w) X c.ga;have L2:=looks_findIn (M:=model prog w) X c.gt;unfold getAttrBy;refine wpAny_holding (Xc (L0.at (Xc (L1.at ?_))));dsimp only;rw[hx1,Xb Xv];unfold getAttrByItsOwn;refine Xc (L2.at ?_);refine Xc (wpAny_attempt (wpAny_holding ?_));unfold callGetattribute;rw[hx0,Xb Xv];unfold boundAndCalled;rw[f3];refine Xc (Xq ?_);refine wpAny_call (codeAny_mono h fun r s' hq=>?_);obtain⟨v,rfl,hq⟩:=hq;exact hq
def Ee {Q:Qb}{v:Value}(c:JE K C)(X:K.In s.heap)(I:InstAt s.heap x ox C od)(hf:findObj K C od name=some (.value v))(hh:handedIn v=true)(h:Q v { s with toks:=s.toks+1 }):wpAny (model prog w) A (getAttr (.ref x) name expr) Q E s:=by
 unfold getAttr;refine Xc (wpAny_mkText (Sh (s:={ s with toks:=s.toks+1 }) c X I (codeAny_call_builtin F.excAttr_ValueError.ga.plain F.entry_bexc_ga (SR c X I ?_))));obtain⟨hh',g,d,t,os⟩:=s;have L0:=I.type (M:=model prog w);have L1:=looks_find (M:=model prog w) X I hf;refine Xc (Xq (Xc (Xq (Xc (L0.at (Xc (L1.at ?_)))))));refine Xq ⟨v,rfl,?_⟩;rw[handedOut_of hh];exact Xq h
def AN {Q:Qf->Shared->Prop} {od:Obj} (c:JE K C) (hdct:hasDictIn K C=true) (ha:findIn K (.ref C) "__class__"=some (some (.builtin "object.__class__")))
 (hn:specialIn K (.builtin "object.__class__") "__get__"=some (some (.builtin "getset_descriptor.__get__"))) (htk:takesIn K (.builtin "object.__class__")=some true) (hm:mroIn K C (.type "object")=some true)
 (X:K.In s.heap) (I:InstAt s.heap x ox C (some od)) (h:Q (some (.ref C)) { s with toks:=s.toks+1 }):wpAny (model prog w) A (getAttr? (.ref x) "__class__") Q E s:=by
 have hf:findObj K C (some od) "__class__"=some (.bind (.builtin "getset_descriptor.__get__") (.builtin "object.__class__")):=findObj_data (by obtain⟨cd,hc,_⟩:=any_some hdct;rw[hc];rfl) ha hn htk;unfold getAttr? getAttrBy?;refine Xc (wpAny_mkText (Xc (wpAny_attempt (Sh (s:={ s with toks:=s.toks+1 }) c X I (codeAny_call_builtin F.excAttr_ValueError.ga.plain F.entry_bexc_ga (SR c X I ?_))))));obtain⟨hh',g,d,t,os⟩:=s;have L0:=I.type (M:=model prog w);have L1:=looks_find (M:=model prog w) X I hf;refine Xc (Xq (Xc (Xq (Xc (L0.at (Xc (L1.at ?_)))))));show wpAny _ _ (holding [_] (call _ [_,_,_]) >>= ret) _ _ _;refine Xc (wpAny_holding (wpAny_call (class_get (s:=⟨hh',g,d,t+1,os⟩) (ox:=ox) (od:=some od) X I hm ?_)));exact Xq ⟨_,rfl,Xq (Xq h)⟩
theorem RC {od:Obj} (c:JE K C) (hdct:hasDictIn K C=true) (ha:findIn K (.ref C) "__class__"=some (some (.builtin "object.__class__")))
 (hn:specialIn K (.builtin "object.__class__") "__get__"=some (some (.builtin "getset_descriptor.__get__"))) (htk:takesIn K (.builtin "object.__class__")=some true) (hm:mroIn K C (.type "object")=some true) :
 KitX K (.ref x) (.ref C) (fun h=>InstAt h x ox C (some od)) where
 ty:=fun _ _ _ I=>I.type
 it:=fun _ _ X _=>by
  obtain⟨cdD,hcD,_⟩:=any_some hdct;unfold clsIn at hcD;split at hcD
  ·rename_i c' d' cd' sl' ho
   intro A' Q' E' s' k q;unfold isType loadHead;exact Xc (wpAny_loadPart (k _ _ (X _ _ ho)) (Xq q))
  ·cases hcD
 ne:=fun h tp dd its n sl X htp=>by
  obtain⟨cdD,hcD,_⟩:=any_some hdct;refine Bool.eq_false_iff.mpr fun q=>?_;have e:C=tp:=Value.ref.inj (beq_iff_eq.mp q);subst e;unfold clsIn at hcD;split at hcD
  ·rename_i c' d' cd' sl' ho
   have z:=(X _ _ ho).symm.trans htp
   cases z
  ·cases hcD
 ca:=fun X I k=>AN c hdct ha hn htk hm X I k
end
def tXG (C:Addr)(ta:TE)(f:Str):TE:=fun σ H Q=>ta σ H fun x H1=>∃e dx T v,x=.ref e/\H1 e=some (.ext (phF C e (some dx) T))/\H1 dx=some (.xd [(f,v)])/\Q v H1
structure Kz (K:W.Frag)(C:Addr):Prop where
 ga:JE K C
 hd:W.hasDictIn K C=true
section
variable {X:Cx}{e:Expr}{ta:TE}{f:Str}{C:Addr}{pos:Pos}
def Ds {H:Hp}{XaU:Qc}{σ:St}{s:Shared}(I:Qq X XaU σ H s){a dx T:Addr}{fs:List (Str×V)}(h1:H a=some (.ext (phF C a (some dx) T)))(h2:H dx=some (.xd fs)) :
 ∃(mA:Str->Qf) (ox od:Obj),W.InstAt s.heap a ox C (some od)/\(∀name,W.lookIn name od=some (mA name))/\∀f,ZG (fs.lookup f) (mA f):=by
 obtain⟨⟨vs,sl,hx,_⟩,_,_⟩:=I.hok a _ h1;obtain⟨mA,n,r⟩:=(show Z3 X.prog X.w H s.heap dx (.xd fs) from I.hok dx _ h2);obtain⟨od,ho,hl⟩:=S9 n
 exact⟨mA,_,od,⟨hx,rfl,rfl,ho⟩,hl,r⟩
def D0 (c:Kz X.K C)(n:Vj X.K C f)(he:PE X e ta)(hb:attributeBase e f X.env (eval e X.env)=eval e X.env:=by rfl):PE X (.Attribute e f pos) (tXG C ta f):=by
 intro XaU s σ H Q I h;refine Ri hb (QA (he XaU s σ H _ I h) fun u s1 ⟨x,H1,I1,rx,a,dx,T,v,ex,ea,ed,q⟩=>?_);subst ex;obtain rfl:u=Value.ref a:=rx;obtain⟨mA,ox,od,J,hl,r⟩:=Ds I1 ea ed;obtain⟨u,hu,ru⟩:=ZG.some_of (v:=v) (o:=mA f) (by have:=r f;simpa [List.lookup] using this);exact Ee c.ga I1.kIn J (W.findObj_own c.hd n rfl (by rw[hl,hu])) (Pf ru) ⟨v,H1,I1.tok _,ru,q⟩
def UL:V->Qf
 |.ref a=>some (.ref a)
 |.ty t=>some (.type t)
 |_=>none
structure Mg (K:W.Frag)(C:Addr):Prop where
 ga:JE K C
 hd:W.hasDictIn K C=true
 fc:W.findIn K (.ref C) "__class__"=some (some (.builtin "object.__class__"))
 sp:W.specialIn K (.builtin "object.__class__") "__get__"=some (some (.builtin "getset_descriptor.__get__"))
 tk:W.takesIn K (.builtin "object.__class__")=some true
 mo:W.mroIn K C (.type "object")=some true
def VW (K:W.Frag)(C:Addr):List V->Hp->VK->Prop:=fun xs H Q=>∃x c cv b,xs=[x,c]/\UL c=some cv /\
 ((∃e dx T fs,x=.ref e/\H e=some (.ext (phF C e (some dx) T))/\H dx=some (.xd fs)/\W.kitOne K (.ref C) cv=some b)\/(x=.non/\W.kitOne K (.type "NoneType") cv=some b))/\Q (.bl b) H
def YT (c:Mg X.K C):Zy X (.builtin "isinstance") (VW X.K C):=by
 intro XaU s σ H xs us Q I r h;obtain⟨x,cc,cv,b,rfl,hcv,hx,q⟩:=h;obtain⟨u,w,rfl,ru,rw'⟩:=UW r
 have ew:w=cv:=by
  cases cc<;>simp[UL]at hcv
  ·subst hcv;exact rw'
  ·subst hcv;exact rw'
 subst ew;rcases hx with ⟨e,dx,T,fs,rfl,h1,h2,hk⟩|⟨rfl,hk⟩
 ·obtain rfl:u=Value.ref e:=ru
  obtain⟨mA,ox,od,J,_⟩:=Ds I h1 h2;exact W.kia_one (RC c.ga c.hd c.fc c.sp c.tk c.mo) I.kIn J hk (by intro z;cases z) fun tk=>⟨.bl b,H,I.tok tk,rfl,q⟩
 ·obtain rfl:u=Value.none:=ru
  exact W.kia_one W.kitx_none I.kIn trivial hk (by intro z;cases z) fun tk=>⟨.bl b,H,I.tok tk,rfl,q⟩
def Mw (K:W.Frag)(C:Addr):List V->Hp->VK->Prop:=fun xs H Q=>∃(e dx T:Addr) (fs:List (Str×V)) (tp:Addr) (cs:Qg) (b:Bool),xs=[.ref e,.ref tp]/\H e=some (.ext (phF C e (some dx) T))/\H dx=some (.xd fs)/\SqT K H tp (cs.map V.ref)/\W.kitAny K (.ref C) (cs.map Value.ref)=some b/\Q (.bl b) H
theorem Sx:∀{cs:Qg} {us:Qe},QV (cs.map V.ref) us->us=cs.map Value.ref
 |[],_,r=>by cases r;rfl
 |c::cs,_,r=>by
   rw[Xu]at r;cases r with
   |cons r1 r2 =>
     cases r1
     rw[Sx r2];rfl
def Tf (c:Mg X.K C):Zy X (.builtin "isinstance") (Mw X.K C):=by
 intro XaU s σ H xs us Q I r h;obtain⟨e,dx,T,fs,tp,cs,b,rfl,h1,h2,ht,hk,q⟩:=h;obtain⟨u,w,rfl,ru,rw'⟩:=UW r;obtain rfl:u=Value.ref e:=ru;obtain rfl:w=Value.ref tp:=rw';obtain⟨mA,ox,od,J,_⟩:=Ds I h1 h2;obtain⟨its,rv,htp,hz⟩:=I.tuple ht;obtain rfl:=Sx rv;obtain⟨⟨cls,dct,dt,sl⟩,ho,hc,n,hd⟩:=id htp
 simp only at hc hd
 subst hc hd;exact W.kia_tup (RC c.ga c.hd c.fc c.sp c.tk c.mo) I.kIn J ho hk (by intro z;cases z) fun tk=>⟨.bl b,H,I.tok tk,rfl,q⟩
end
def WD (C:Addr)(f:Str)(ds:Qd)(e dx q:Addr):OwnP where
 ok:=fun K F H v p=>p=[e,dx,q]/\(F e=none/\F dx=none/\F q=none)/\(∃T,H e=some (.ext (phF C e (some dx) T)))/\H dx=some (.xd [(f,.ref q)])/\∃xs,H q=some (.lst xs)/\Qw F xs ds
 there:=fun{K F H v p} h a ha=>by
  obtain⟨rfl,⟨f1,f2,f3⟩,⟨T,h1⟩,h2,xs,h3,_⟩:=h
  rcases Xe.mp ha with rfl|ha
  ·exact⟨f1,Zm h1⟩
  ·rcases Xe.mp ha with rfl|ha
   ·exact⟨f2,Zm h2⟩
   ·rcases Xe.mp ha with rfl|ha
    ·exact⟨f3,Zm h3⟩
    ·cases ha
 mono:=fun{K F F' H H' v p} s hF hH h=>by
  obtain⟨rfl,⟨f1,f2,f3⟩,⟨T,h1⟩,h2,xs,h3,r⟩:=h;have m1:e∈[e,dx,q]:=Xa;have m2:dx∈[e,dx,q]:=Xf _ Xa;have m3:q∈[e,dx,q]:=Xf _ (Xf _ Xa)
  exact⟨rfl,⟨hF _ m1,hF _ m2,hF _ m3⟩,⟨T,(hH _ m1).trans h1⟩,(hH _ m2).trans h2,xs,(hH _ m3).trans h3,r.mono s⟩
 uniq:=fun{K F H v p p'} h h' a ha=>by
  obtain⟨rfl,_⟩:=h;obtain⟨rfl,_⟩:=h';exact ha
def DO {C e:Addr}{dct:Qj}{H H':Hp}(h:Lefts C e dct H H'){b:Addr}{o:HO}(hb:b≠e)(ho:H b=some o):H' b=some o:=by
 induction h with
 |nil=>exact ho
 |@step H1 T h1 hT hTe ih =>
   have n2:b≠T:=fun z=>by subst z;rw[hT]at ih;cases ih
   unfold left;rw[Qs n2,Qs hb];exact ih
section
variable {K:W.Frag}{ρ:Q6}{C:Addr}{f:Str}{th:TS}{tb:Ends->TS}{D:PEnds}{n i j:Nat}{ta tb':TE}
variable {ds:Qd}{e dx q:Addr}
def Q9.exc {H0 F H:Hp}{σ:St}{v:V}(S:Q9 K H0 F ρ σ H)(h:ρ[i]?=some (some (.own v (WD C f ds e dx q)))):σ[i]?=some (some v)/\(∃T,H e=some (.ext (phF C e (some dx) T)))/\H dx=some (.xd [(f,.ref q)])/\(∃xs,H q=some (.lst xs)/\Qw F xs ds)/\F q=none/\H0 q=none:=by
 obtain⟨kt,h1,h2,fp,h3,h4,h5⟩:=S;obtain⟨u,e1,hu,hp,⟨f1,f2,f3⟩,hT,hd,hq⟩:=h3 i _ h;subst hu;exact⟨e1,hT,hd,hq,f3,(h5 i q (by rw[hp];exact Xf _ (Xf _ Xa))).1⟩
def MO {c:V}{cv:Value}{b:Bool}(h:ρ[i]?=some (some (.own (.ref e) (WD C f ds e dx q))))(hc:UL c=some cv)(hk:W.kitOne K (.ref C) cv=some b):Qu K (tCB (VW K C) (QE (QB i) (QE (tC c) QP))) ρ (.bool b):=fun H0 F σ H Q S k=>by
 obtain⟨e1,⟨T,h1⟩,h2,_⟩:=S.exc h
 exact⟨.ref e,e1,.ref e,c,cv,b,rfl,hc,.inl ⟨e,dx,T,_,rfl,h1,h2,hk⟩,k F H _ (Qx.refl S.sub) (.bl b)⟩
def MM:Qg->TA
 |[]=>QP
 |c::cs=>QE (tC (.ref c)) (MM cs)
theorem Rf {σ:St}{H:Hp}:∀{cs:Qg} {Q:List V->Hp->Prop},Q (cs.map V.ref) H->MM cs σ H Q
 |[],_,h=>h
 |_::cs,_,h=>Rf (cs:=cs) h
end
end L2
section
namespace L2
open PySem PySem.Spec PyProof.Rows
def QV.at {xs:List V}{us:Qe}(r:QV xs us):∀i:Nat,(xs[i]?=none/\us[i]?=none)\/∃x u,xs[i]?=some x/\us[i]?=some u/\QH x u:=by
 induction r with
 |nil=>intro i;exact .inl ⟨rfl,rfl⟩
 |cons a b ih =>
   intro i;cases i with
   |zero=>exact .inr ⟨_,_,rfl,rfl,a⟩
   |succ i=>exact ih i
section
variable {X:Cx}{e:Expr}{te:TE}{lo hi:Option Expr}{se:Expr}{tl th ts:TO}{pos p2:Pos}
end
section
variable {K:W.Frag}{ρ:Q6}{te:TE}
end
section
variable {X:Cx}
end
section
variable {X:Cx}
end
section
variable {K:W.Frag}{ρ:Q6}{ta tb:TE}{D:PEnds}
end
end L2
end
namespace L2
open PySem PySem.Spec PyProof.Rows
section
variable {prog:Program}{w:World}{A:Around}{E:Qb}{s:Shared}
end
section
variable {prog:Program}{w:World}{A:Around}{R:Result->Shared->Prop}{E:Qb}{s:Shared}
end
section
variable {prog:Program}{w:World}{A:Around}{E:Qb}{s:Shared}
end
end L2
set_option maxHeartbeats 8000000
namespace L2
open PySem PySem.Spec PyProof.Rows
section
variable {prog:Program}{w:World}{A:Around}{E:Qb}{s:Shared}
end
end L2
set_option maxHeartbeats 8000000
namespace L2
open PySem PySem.Spec PyProof.Rows
end L2
set_option maxHeartbeats 8000000
namespace L2
open PySem PySem.Spec PyProof.Rows
section
variable {prog:Program}{w:World}{A:Around}{E:Qb}{s:Shared}
end
end L2
set_option maxHeartbeats 8000000
namespace L2
open PySem PySem.Spec PyProof.Rows
section
variable {prog:Program}{w:World}{A:Around}{E:Qb}{s:Shared}
end
end L2
set_option maxHeartbeats 8000000
namespace L2
open PySem PySem.Spec PyProof.Rows
section
variable {prog:Program}{w:World}{A:Around}{E:Qb}{s:Shared}
end
section
variable {X:Cx}
end
section
variable {K:W.Frag}{ρ:Q6}{ta:TE}{X X':Cx}{p:Qm}
end
end L2
section
namespace L2
open PySem PySem.Spec PyProof.Rows
section
variable {X:Cx}
end
section
variable {K:W.Frag}{ρ:Q6}{te ti:TE}{D:PEnds}
end
end L2
end
namespace L2
open PySem PySem.Spec PyProof.Rows
def Ke:bootBuiltins "ValueError"=some (.type "ValueError"):=by decide +kernel
def Jm {X:Cx}{C:Addr}:VP (CX1 X.prog X.w) X (XE C fun _ _ _=>False):=fun _ _ _ _ _ _ _ h=>by
 obtain⟨_,_,_,_,_,_,_,_,_,z⟩:=h;exact z.elim
def J0 {C:Addr}:ZM C fun _ _ _=>False:=fun _ _ _ _ z=>z.elim
end L2
section
namespace L2
open PySem PySem.Spec PyProof.Rows
abbrev QX:=List (Key×PyData)
def Yh (kvs:QX)(k:Key):Option PyData:=(kvs.find? fun kv=>decide (kv.1=k)).map (·.2)
def Wt (kvs:QX)(k:Key)(d:PyData):QX:=if (kvs.any fun kv=>decide (kv.1=k))=true then kvs.map (fun kv=>if kv.1=k then (kv.1,d) else kv) else kvs++[(k,d)]
inductive PairK (F:Hp):List (Key×V)->QX->Prop
 |nil:PairK F [] []
 |cons {k:Key} {x:V} {d:PyData} {xs:List (Key×V)} {kvs:QX}:Rep F x d->PairK F xs kvs->PairK F ((k,x)::xs) ((k,d)::kvs)
theorem PairK.mono {F F':Hp}(s:Q2 F F'):∀{xs:List (Key×V)} {kvs:QX},PairK F xs kvs->PairK F' xs kvs
 |_,_,.nil=>.nil
 |_,_,.cons r t=>.cons (r.mono s) (t.mono s)
theorem PairK.length {F:Hp}:∀{xs:List (Key×V)} {kvs:QX},PairK F xs kvs->xs.length=kvs.length
 |_,_,.nil=>rfl
 |_,_,.cons _ t=>by simp[t.length]
theorem PairK.val {F:Hp}(k:Key):∀{xs:List (Key×V)} {kvs:QX},PairK F xs kvs->(Zs xs k=none/\Yh kvs k=none)\/∃x d,Zs xs k=some x/\Yh kvs k=some d/\Rep F x d
 |_,_,.nil=>.inl ⟨rfl,rfl⟩
 |_,_,.cons (k:=k') (x:=x) (d:=d) (xs:=xs) (kvs:=kvs) r t=>by
   by_cases e:k'=k
   ·exact .inr ⟨x,d,Yq e,by simp[Yh,Xw,e],r⟩
   ·have q:Yh ((k',d)::kvs) k=Yh kvs k:=by simp[Yh,Xw,e]
    rw[Yp (p:=(k',x)) e,q];exact t.val k
theorem PairK.any {F:Hp}(k:Key):∀{xs:List (Key×V)} {kvs:QX},PairK F xs kvs->(xs.any fun kv=>decide (kv.1=k))=(kvs.any fun kv=>decide (kv.1=k))
 |_,_,.nil=>rfl
 |_,_,.cons _ t=>by simp[t.any k]
theorem PairK.mapP {F:Hp}(k:Key){y:V}{d:PyData}(r:Rep F y d):∀{xs:List (Key×V)} {kvs:QX},PairK F xs kvs->PairK F (xs.map fun kv=>if kv.1=k then (kv.1,y) else kv) (kvs.map fun kv=>if kv.1=k then (kv.1,d) else kv)
 |_,_,.nil=>.nil
 |_,_,.cons (k:=k') r' t=>by
   rw[Xu,Xu];by_cases e:k'=k
   ·simp only[e,if_true]
    exact .cons r (t.mapP k r)
   ·simp only[e,if_false]
    exact .cons r' (t.mapP k r)
theorem PairK.snoc {F:Hp}(k:Key){y:V}{d:PyData}(r:Rep F y d):∀{xs:List (Key×V)} {kvs:QX},PairK F xs kvs->PairK F (xs++[(k,y)]) (kvs++[(k,d)])
 |_,_,.nil=>.cons r .nil
 |_,_,.cons r' t=>.cons r' (t.snoc k r)
def PairK.put {F:Hp}(k:Key){y:V}{d:PyData}(r:Rep F y d){xs:List (Key×V)}{kvs:QX}(t:PairK F xs kvs):PairK F (V8 xs k y) (Wt kvs k d):=by
 unfold V8 Wt;rw[t.any k];split
 ·exact t.mapP k r
 ·exact t.snoc k r
def dkP (kvs:QX):OwnP where
 ok K F H v p := ∃a xs,v=.ref a/\p=[a]/\F a=none/\H a=some (.dK xs)/\PairK F xs kvs
 there:=by
  rintro K F H v p ⟨a,xs,rfl,rfl,h1,h2,h3⟩ b hb
  cases Xh.mp hb
  exact⟨h1,Zm h2⟩
 mono:=by
  rintro K F F' H H' v p s hF hH ⟨a,xs,rfl,rfl,h1,h2,h3⟩
  exact⟨a,xs,rfl,rfl,hF a Xa,by rw[hH a Xa];exact h2,h3.mono s⟩
 uniq:=by
  rintro K F H v p q ⟨a,xs,rfl,rfl,_⟩ ⟨b,ys,e,rfl,_⟩ c hc
  cases e
  exact hc
section
variable {K:W.Frag}{ρ:Q6}{te ty tv:TE}{D:PEnds}{i:Nat}{v:V}{kvs:QX}{k:Key}{d:PyData}
def Q9.dk {H0 F H:Hp}{σ:St}(S:Q9 K H0 F ρ σ H)(e:ρ[i]?=some (some (.own v (dkP kvs)))) :
 ∃a xs,v=.ref a/\σ[i]?=some (some (.ref a))/\F a=none/\H0 a=none/\H a=some (.dK xs)/\PairK F xs kvs:=by
 obtain⟨e1,p,⟨a,xs,rfl,rfl,h1,h2,h3⟩,hp,_⟩:=S.writeOwn e
 exact⟨a,xs,rfl,e1,h1,(hp a Xa).1,h2,h3⟩
def Cm (e:ρ[i]?=some (some (.own v (dkP kvs))))(hv:Qu K tv ρ d)(hy:Qu K ty ρ (JJ k))(hz:kvs.length<sizeLine)(hn:D.nx (ρ.set i (some (.own v (dkP (Wt kvs k d)))))):Q1 K (GX (QB i) ty tv) ρ D:=fun F0 H0 F σ H E x S C =>
 hv H0 F σ H _ S fun F1 H1 u x1 r1=>by
  obtain⟨a,xs,rfl,e1,_⟩:=(S.ext x1).dk e;refine⟨_,e1,hy H0 F1 σ H1 _ (S.ext x1) fun F2 H2 y x2 r2=>?_⟩;have S2:=S.ext (x1.trans x2);obtain⟨a',xs',ea,_,g1,g0,g2,g3⟩:=S2.dk e
  cases ea
  rw[B6 r2];refine⟨a,_,rfl,Wq.k g2 (by rw[g3.length];exact hz),?_⟩;obtain⟨_,p,ok,hp,w⟩:=S2.writeOwn e;obtain⟨a'',xs'',ea,rfl,_,g4,_⟩:=ok
  cases ea
  refine C.nx F2 σ _ _ ((x.trans (x1.trans x2)).wr g0 g1) (w _ (dkP (Wt kvs k d)) [a] (S2.sub.upd g1) (fun c hc _=>Qs fun z=>hc (by rw[z];exact Xa)) (fun c hc=>?_) ⟨a,_,rfl,rfl,g1,QC,g3.put k (r1.mono x2.ff)⟩ (fun c hc=>.inl hc)) hn
  by_cases z:c=a
  ·subst z;rw[QC];exact fun q=>nomatch q
  ·rw[Qs z];exact hc
def CG:EvX K NL ρ (dkP []):=fun H0 F σ H Q S q=>fun p hp=>by
 have fp:F p=none:=by
  cases z:F p with
  |none=>rfl
  |some o=>rw[S.sub _ _ z]at hp;cases hp
 refine q F _ (.ref p) [p] (Qx.own S.sub hp) (fun a ha=>by cases Xh.mp ha;exact hp) ⟨p,[],rfl,rfl,fp,QC,.nil⟩
end
section
variable {K:W.Frag}{ρ:Q6}{ty:TE}{D:PEnds}{i:Nat}{k:Key}
end
structure HandS where
 yard:PyData
 now:Int
 known:Qd
 given:Ql
 gone:QX
 made:List QX
inductive MadeD (F H:Hp):Qg->List QX->Prop
 |nil:MadeD F H [] []
 |cons {a:Addr} {xs:List (Key×V)} {kvs:QX} {as:Qg} {ms:List QX}:F a=none->H a=some (.dK xs)->PairK F xs kvs->MadeD F H as ms->MadeD F H (a::as) (kvs::ms)
theorem MadeD.mem {F H:Hp}:∀{as:Qg} {ms:List QX},MadeD F H as ms->∀a∈as,F a=none/\H a≠none
 |_,_,.nil,a,ha=>nomatch ha
 |_,_,.cons h1 h2 _ t,a,ha=>by
   rcases Xe.mp ha with rfl|ha
   ·exact⟨h1,Zm h2⟩
   ·exact t.mem a ha
theorem MadeD.mono {F F' H H':Hp}(s:Q2 F F'):∀{as:Qg} {ms:List QX},(∀a∈as,F' a=none)->(∀a∈as,H' a=H a)->MadeD F H as ms->MadeD F' H' as ms
 |_,_,_,_,.nil=>.nil
 |_,_,hF,hH,.cons h1 h2 h3 t=>.cons (hF _ Xa) (by rw[hH _ Xa];exact h2) (h3.mono s) (t.mono s (fun a ha=>hF a (Xf _ ha)) (fun a ha=>hH a (Xf _ ha)))
def MadeD.other {F H:Hp}{b:Addr}{o:HO}{as:Qg}{ms:List QX}(h:MadeD F H as ms)(n:b∉as):MadeD F (upd H b o) as ms :=
 h.mono (Q2.refl _) (fun a ha=>(h.mem a ha).1) (fun a ha=>Qs fun z=>n (z▸ha))
inductive MadeZ (F:Hp):Qg->List QX->Prop
 |nil:MadeZ F [] []
 |cons {a:Addr} {xs:List (Key×V)} {kvs:QX} {as:Qg} {ms:List QX}:F a=some (.dK xs)->PairK F xs kvs->MadeZ F as ms->MadeZ F (a::as) (kvs::ms)
theorem MadeZ.mono {F F':Hp}(s:Q2 F F'):∀{as:Qg} {ms:List QX},MadeZ F as ms->MadeZ F' as ms
 |_,_,.nil=>.nil
 |_,_,.cons h1 h2 t=>.cons (s _ _ h1) (h2.mono s) (t.mono s)
theorem MadeD.fz {F F' H:Hp}(s:Q2 F F'):∀{as:Qg} {ms:List QX},(∀a∈as,F' a=H a)->MadeD F H as ms->MadeZ F' as ms
 |_,_,_,.nil=>.nil
 |_,_,he,.cons _ h2 h3 t=>.cons (by rw[he _ Xa];exact h2) (h3.mono s) (t.fz s fun a ha=>he a (Xf _ ha))
abbrev hfs (y:V) (n:Int) (k g d m:Addr):List (Str×V):=[("yard",y),("present",.int n),("known",.ref k),("given",.ref g),("gone",.ref d),("made",.ref m)]
structure HandOk (C:Addr)(N:HandS)(F H:Hp)(a dx k g d m:Addr)(y:V)(xs:List (Key×V))(as:Qg):Prop where
 nd:(a::dx::k::g::d::m::as).Nodup
 ins:F a=none/\H a=some (.ins C dx (hfs y N.now k g d m))
 own:F dx=none/\H dx=some (.own a)
 yd:Rep F y N.yard
 known:Vb F H k N.known
 given:Vb F H g (N.given.map PyData.int)
 gone:F d=none/\H d=some (.dK xs)/\PairK F xs N.gone
 made:F m=none/\H m=some (.lst (as.map V.ref))/\MadeD F H as N.made
def HandOk.mono {C:Addr}{N:HandS}{F F' H H':Hp}{a dx k g d m:Addr}{y:V}{xs:List (Key×V)}{as:Qg}(o:HandOk C N F H a dx k g d m y xs as)(s:Q2 F F')(hF:∀b∈a::dx::k::g::d::m::as,F' b=none)(hH:∀b∈a::dx::k::g::d::m::as,H' b=H b):HandOk C N F' H' a dx k g d m y xs as:=by
 obtain⟨nd,⟨i1,i2⟩,⟨o1,o2⟩,yd,⟨k1,kx,k2,k3⟩,⟨g1,gx,g2,g3⟩,⟨d1,d2,d3⟩,⟨m1,m2,m3⟩⟩:=o
 exact⟨nd,⟨hF _ (by simp),by rw[hH _ (by simp)];exact i2⟩,⟨hF _ (by simp),by rw[hH _ (by simp)];exact o2⟩,yd.mono s,⟨hF _ (by simp),kx,by rw[hH _ (by simp)];exact k2,k3.mono s⟩,⟨hF _ (by simp),gx,by rw[hH _ (by simp)];exact g2,g3.mono s⟩,
  ⟨hF _ (by simp),by rw[hH _ (by simp)];exact d2,d3.mono s⟩,⟨hF _ (by simp),by rw[hH _ (by simp)];exact m2,m3.mono s (fun b hb=>hF b (by simp[hb])) (fun b hb=>hH b (by simp[hb]))⟩⟩
def QM (C:Addr)(N:HandS):OwnP where
 ok K F H v p := ∃a dx k g d m y xs as,v=.ref a/\p=a::dx::k::g::d::m::as/\HandOk C N F H a dx k g d m y xs as
 there:=by
  rintro K F H v p ⟨a,dx,k,g,d,m,y,xs,as,rfl,rfl,o⟩ b hb
  obtain⟨_,⟨i1,i2⟩,⟨o1,o2⟩,_,⟨k1,kx,k2,_⟩,⟨g1,gx,g2,_⟩,⟨d1,d2,_⟩,⟨m1,m2,m3⟩⟩:=o;simp only[Xe]at hb;rcases hb with rfl|rfl|rfl|rfl|rfl|rfl|hb
  ·exact⟨i1,Zm i2⟩
  ·exact⟨o1,Zm o2⟩
  ·exact⟨k1,Zm k2⟩
  ·exact⟨g1,Zm g2⟩
  ·exact⟨d1,Zm d2⟩
  ·exact⟨m1,Zm m2⟩
  ·exact m3.mem b hb
 mono:=by
  rintro K F F' H H' v p s hF hH ⟨a,dx,k,g,d,m,y,xs,as,rfl,rfl,o⟩
  exact⟨a,dx,k,g,d,m,y,xs,as,rfl,rfl,o.mono s hF hH⟩
 uniq:=by
  rintro K F H v p q ⟨a,dx,k,g,d,m,y,xs,as,rfl,rfl,o⟩ ⟨a',dx',k',g',d',m',y',xs',as',ev,rfl,o'⟩ c hc
  cases ev
  have i:=o.ins.2.symm.trans o'.ins.2;injection i with i;injection i with _ i1 i2;subst i1;simp only[hfs,List.cons.injEq,Prod.mk.injEq,true_and,and_true,V.ref.injEq]at i2;obtain⟨rfl,rfl,rfl,rfl,rfl⟩:=i2;have j:=o.made.2.1.symm.trans o'.made.2.1;injection j with j;injection j with j;rw[BA j];exact hc
structure HandFz (C:Addr)(N:HandS)(F:Hp)(a dx k g d m:Addr)(y:V)(ks gs:List V)(xs:List (Key×V))(as:Qg):Prop where
 ins:F a=some (.ins C dx (hfs y N.now k g d m))
 yd:Rep F y N.yard
 known:F k=some (.lst ks)/\Qw F ks N.known
 given:F g=some (.lst gs)/\Qw F gs (N.given.map PyData.int)
 gone:F d=some (.dK xs)/\PairK F xs N.gone
 made:F m=some (.lst (as.map V.ref))/\MadeZ F as N.made
def QJ (C:Addr)(N:HandS):ZP where
 ok K F v := ∃a dx k g d m y ks gs xs as,v=.ref a/\HandFz C N F a dx k g d m y ks gs xs as
 mono:=by
  rintro K F F' v s ⟨a,dx,k,g,d,m,y,ks,gs,xs,as,rfl,⟨h1,h2,⟨h3,h4⟩,⟨h5,h6⟩,⟨h7,h8⟩,⟨h9,h10⟩⟩⟩
  exact⟨a,dx,k,g,d,m,y,ks,gs,xs,as,rfl,s _ _ h1,h2.mono s,⟨s _ _ h3,h4.mono s⟩,⟨s _ _ h5,h6.mono s⟩,⟨s _ _ h7,h8.mono s⟩,⟨s _ _ h9,h10.mono s⟩⟩
def QM.fz {C:Addr}{N:HandS}{K:W.Frag}{F F' H:Hp}{v:V}{p:Qg}(h:(QM C N).ok K F H v p)(s:Q2 F F')(he:∀b∈p,F' b=H b):(QJ C N).ok K F' v:=by
 obtain⟨a,dx,k,g,d,m,y,xs,as,rfl,rfl,o⟩:=h;obtain⟨nd,⟨i1,i2⟩,⟨o1,o2⟩,yd,⟨k1,kx,k2,k3⟩,⟨g1,gx,g2,g3⟩,⟨d1,d2,d3⟩,⟨m1,m2,m3⟩⟩:=o
 exact⟨a,dx,k,g,d,m,y,kx,gx,xs,as,rfl,by rw[he _ (by simp)];exact i2,yd.mono s,⟨by rw[he _ (by simp)];exact k2,k3.mono s⟩,⟨by rw[he _ (by simp)];exact g2,g3.mono s⟩,⟨by rw[he _ (by simp)];exact d2,d3.mono s⟩,⟨by rw[he _ (by simp)];exact m2,m3.fz s fun b hb=>he b (by simp[hb])⟩⟩
structure HandC (K:W.Frag)(C:Addr):Prop where
 cl:Cls K C
 yd:Vj K C "yard"
 pr:Vj K C "present"
 kn:Vj K C "known"
 gv:Vj K C "given"
 go:Vj K C "gone"
 md:Vj K C "made"
def NoH (m:Str):Prop := ∀(y:V) (n:Int) (k g d e:Addr),(hfs y n k g d e).lookup m=none
section
variable {K:W.Frag}{ρ:Q6}{ty:TE}{D:PEnds}{i:Nat}{C:Addr}{N:HandS}{m:Str}
def Q9.hz {H0 F H:Hp}{σ:St}(S:Q9 K H0 F ρ σ H)(e:ρ[i]?=some (some (.zow (QJ C N)))):∃a dx k g d m y ks gs xs as,σ[i]?=some (some (.ref a))/\HandFz C N F a dx k g d m y ks gs xs as:=by
 obtain⟨fp,h,_⟩:=S.fp;obtain⟨v,e1,_,a,dx,k,g,d,m,y,ks,gs,xs,as,rfl,h1⟩:=h i _ e
 exact⟨a,dx,k,g,d,m,y,ks,gs,xs,as,e1,h1⟩
def U0 (c:HandC K C) (e:ρ[i]?=some (some (.zow (QJ C N)))):Qu K (ZL K (QB i) "yard") ρ N.yard:=fun H0 F σ H Q S q=>by
 obtain⟨a,dx,k,g,d,m,y,ks,gs,xs,as,e1,o⟩:=S.hz e
 exact⟨_,e1,a,C,dx,_,y,rfl,S.sub _ _ o.ins,c.cl,c.yd,rfl,q F H y (Qx.refl S.sub) o.yd⟩
def B8 (c:HandC K C) (e:ρ[i]?=some (some (.zow (QJ C N)))):Qu K (ZL K (QB i) "present") ρ (.int N.now):=fun H0 F σ H Q S q=>by
 obtain⟨a,dx,k,g,d,m,y,ks,gs,xs,as,e1,o⟩:=S.hz e
 exact⟨_,e1,a,C,dx,_,.int N.now,rfl,S.sub _ _ o.ins,c.cl,c.pr,rfl,q F H _ (Qx.refl S.sub) (.int _)⟩
def Uz (c:HandC K C) (e:ρ[i]?=some (some (.zow (QJ C N)))):Qu K (ZL K (QB i) "known") ρ (.list N.known):=fun H0 F σ H Q S q=>by
 obtain⟨a,dx,k,g,d,m,y,ks,gs,xs,as,e1,o⟩:=S.hz e
 exact⟨_,e1,a,C,dx,_,.ref k,rfl,S.sub _ _ o.ins,c.cl,c.kn,rfl,q F H _ (Qx.refl S.sub) (.lst o.known.1 o.known.2)⟩
def HB (c:HandC K C) (e:ρ[i]?=some (some (.zow (QJ C N)))):Qu K (ZL K (QB i) "given") ρ (.list (N.given.map PyData.int)):=fun H0 F σ H Q S q=>by
 obtain⟨a,dx,k,g,d,m,y,ks,gs,xs,as,e1,o⟩:=S.hz e
 exact⟨_,e1,a,C,dx,_,.ref g,rfl,S.sub _ _ o.ins,c.cl,c.gv,rfl,q F H _ (Qx.refl S.sub) (.lst o.given.1 o.given.2)⟩
def Hl {k:Key} (c:HandC K C) (hy:Qu K ty ρ (JJ k)) (e:ρ[i]?=some (some (.zow (QJ C N)))):Qu K (GJ ty (ZL K (QB i) "gone")) ρ (.bool (Yh N.gone k).isSome):=fun H0 F σ H Q S q =>
 hy H0 F σ H _ S fun F1 H1 y x1 r1=>by
  obtain⟨a,dx,kk,g,d,m,y',ks,gs,xs,as,e1,o⟩:=(S.ext x1).hz e;refine⟨_,e1,a,C,dx,_,.ref d,rfl,x1.fh _ _ o.ins,c.cl,c.go,rfl,?_⟩;rw[B6 r1];refine⟨d,_,rfl,Vn.k (x1.fh _ _ o.gone.1),?_⟩
  have hv:(Zs xs k).isSome=(Yh N.gone k).isSome:=by
   rcases o.gone.2.val k with ⟨z1,z2⟩|⟨x,d',z1,z2,_⟩
   ·rw[z1,z2];rfl
   ·rw[z1,z2];rfl
  rw[hv];exact q F1 H1 _ x1 (.bl _)
def WV {R:List OT->(OT->Prop)->Prop}{t:TA}{E:XK}{ts:List OT}{Φ:OT->Prop}(hm:NoH m)(e:ρ[i]?=some (some (.zow (QJ C N))))(h:Zn K t ρ ts)(hR:R (.zow (QJ C N)::ts) Φ) :
 Zl K (ZY C m (Zg K R) [] E (QB i) t) ρ Φ:=fun H0 F σ H Q S q=>by
 obtain⟨a,dx,k,g,d,m',y,ks,gs,xs,as,e1,ok⟩:=S.hz e;refine⟨_,e1,a,dx,_,rfl,S.sub _ _ ok.ins,hm _ _ _ _ _ _,h H0 F σ H _ S fun F1 H1 vs x1 r1=>?_⟩
 exact⟨F1,_,Φ,(S.ext x1).kt,x1.fh,.zow (Ψ:=QJ C N) ((QJ C N).mono (K:=K) x1.ff ⟨a,dx,k,g,d,m',y,ks,gs,xs,as,rfl,ok⟩) (by rw[Xz];exact r1),hR,fun F2 H2 v p r' hr x2 hp ok'=>q F2 H2 v p r' hr (x1.trans x2) (fun b hb=>x1.hh.free (hp b hb)) ok'⟩
def FS {R:List OT->(OT->Prop)->Prop}{t:TA}{E:XK}{ts:List OT}{d:PyData}(hm:NoH m)(e:ρ[i]?=some (some (.zow (QJ C N))))(h:Zn K t ρ ts)(hR:R (.zow (QJ C N)::ts) (fun r=>r=.fz d)):Qu K (ZY C m (Zg K R) [] E (QB i) t) ρ d:=EvO.e (Zl.o (WV hm e h hR))
def Uq {t:TE}{v:V}{Φ:OT->Prop}(i:Nat)(e:ρ[i]?=some (some (.own v (QM C N))))(hf:∀r,Φ r->WB r)(h:Zl K t (ρ.set i (some (.zow (QJ C N)))) Φ):Zl K t ρ Φ :=
 Sm i e (fun a b c=>QM.fz a b c) hf h
def Ut {t:TE}{v:V}{d:PyData}{u:V}(i:Nat)(e:ρ[i]?=some (some (.own v (QM C N))))(hf:ZN d=some u)(h:Qu K t (ρ.set i (some (.zow (QJ C N)))) d):Qu K t ρ d :=
 EvO.e (Zl.o (Uq (Φ:=fun r=>r=.fz d) i e (fun r hr=>by subst hr;exact W5 hf) (h.o.d rfl)))
def G0 {t:TT}{v:V}{b:Bool}(i:Nat)(e:ρ[i]?=some (some (.own v (QM C N))))(h:Ze K t (ρ.set i (some (.zow (QJ C N)))) b):Ze K t ρ b:=fun H0 F σ H Q S q=>by
 obtain⟨p,hp,S'⟩:=S.freezeZ e (fun a b c=>QM.fz a b c);exact h H0 _ σ H Q S' fun F' H' x=>q _ H' (Us (fun a ha=>⟨(hp a ha).1,(hp a ha).2.1⟩) x)
def Q9.hand {v:V}{H0 F H:Hp}{σ:St}(S:Q9 K H0 F ρ σ H)(e:ρ[i]?=some (some (.own v (QM C N)))) :
 ∃a dx k g d m y xs as,v=.ref a/\σ[i]?=some (some (.ref a))/\HandOk C N F H a dx k g d m y xs as/\(∀b∈a::dx::k::g::d::m::as,H0 b=none/\F b=none/\H b≠none) /\
  ∀(H':Hp) (N':HandS) (y':V) (xs':List (Key×V)) (as':Qg),Q2 F H'->(∀b,b∉a::dx::k::g::d::m::as->H b≠none->H' b=H b)->(∀b,H b≠none->H' b≠none) ->
   HandOk C N' F H' a dx k g d m y' xs' as'->(∀b∈as',b∈as\/(H b=none/\H0 b=none))->Q9 K H0 F (ρ.set i (some (.own v (QM C N')))) σ H':=by
 obtain⟨e1,p,⟨a,dx,k,g,d,m,y,xs,as,rfl,rfl,ok⟩,hp,w'⟩:=S.writeOwn e;refine⟨a,dx,k,g,d,m,y,xs,as,rfl,e1,ok,hp,fun H' N' y' xs' as' h1 h2 h3 h4 h5=>w' H' _ _ h1 h2 h3 ⟨a,dx,k,g,d,m,y',xs',as',rfl,rfl,h4⟩ fun b hb=>?_⟩;simp only[Xe]at hb ⊢;rcases hb with h|h|h|h|h|h|hb
 ·exact .inl (.inl h)
 ·exact .inl (.inr (.inl h))
 ·exact .inl (.inr (.inr (.inl h)))
 ·exact .inl (.inr (.inr (.inr (.inl h))))
 ·exact .inl (.inr (.inr (.inr (.inr (.inl h)))))
 ·exact .inl (.inr (.inr (.inr (.inr (.inr (.inl h))))))
 ·rcases h5 b hb with z|z
  ·exact .inl (.inr (.inr (.inr (.inr (.inr (.inr z))))))
  ·exact .inr z
def HandOk.same {N':HandS}{F H F' H':Hp}{a dx k g d m dx' k' g' d' m':Addr}{y y':V}{xs xs':List (Key×V)}{as as':Qg}
 (ok:HandOk C N F H a dx k g d m y xs as) (ok':HandOk C N' F' H' a dx' k' g' d' m' y' xs' as') (s:H' a=H a):dx'=dx/\k'=k/\g'=g/\d'=d/\m'=m/\y'=y:=by
 have h:=ok'.ins.2;rw[s,ok.ins.2]at h;injection h with h;injection h with _ h1 h2;simp only[hfs,List.cons.injEq,Prod.mk.injEq,true_and,and_true,V.ref.injEq]at h2;obtain⟨z0,_,z1,z2,z3,z4⟩:=h2
 exact⟨h1.symm,z1.symm,z2.symm,z3.symm,z4.symm,z0.symm⟩
def HandOk.setKnown {F H:Hp}{a dx k g d m:Addr}{y:V}{xs:List (Key×V)}{as:Qg}(ok:HandOk C N F H a dx k g d m y xs as){ns:Qd}{zs:List V}(hr:Qw F zs ns) :
 HandOk C { N with known:=ns } F (upd H k (.lst zs)) a dx k g d m y xs as:=by
 obtain⟨nd,⟨i1,i2⟩,⟨o1,o2⟩,yd,⟨k1,kx,k2,k3⟩,⟨g1,gx,g2,g3⟩,⟨d1,d2,d3⟩,⟨m1,m2,m3⟩⟩:=ok;have nd':=nd;simp only[XF,Xe,not_or]at nd';obtain⟨⟨a1,a2,_⟩,⟨b1,_⟩,⟨c1,c2,c3,c4⟩,_⟩:=nd'
 exact⟨nd,⟨i1,by rw[Qs a2];exact i2⟩,⟨o1,by rw[Qs b1];exact o2⟩,yd,⟨k1,zs,QC,hr⟩,⟨g1,gx,by rw[Qs (Ne.symm c1)];exact g2,g3⟩,⟨d1,by rw[Qs (Ne.symm c2)];exact d2,d3⟩,⟨m1,by rw[Qs (Ne.symm c3)];exact m2,m3.other c4⟩⟩
def HandOk.setGiven {F H:Hp}{a dx k g d m:Addr}{y:V}{xs:List (Key×V)}{as:Qg}(ok:HandOk C N F H a dx k g d m y xs as){ns:Ql}{zs:List V}(hr:Qw F zs (ns.map PyData.int)) :
 HandOk C { N with given:=ns } F (upd H g (.lst zs)) a dx k g d m y xs as:=by
 obtain⟨nd,⟨i1,i2⟩,⟨o1,o2⟩,yd,⟨k1,kx,k2,k3⟩,⟨g1,gx,g2,g3⟩,⟨d1,d2,d3⟩,⟨m1,m2,m3⟩⟩:=ok;have nd':=nd;simp only[XF,Xe,not_or]at nd';obtain⟨⟨a1,a2,a3,_⟩,⟨b1,b2,_⟩,⟨c1,_⟩,⟨f1,f2,f3⟩,_⟩:=nd'
 exact⟨nd,⟨i1,by rw[Qs a3];exact i2⟩,⟨o1,by rw[Qs b2];exact o2⟩,yd,⟨k1,kx,by rw[Qs c1];exact k2,k3⟩,⟨g1,zs,QC,hr⟩,⟨d1,by rw[Qs (Ne.symm f1)];exact d2,d3⟩,⟨m1,by rw[Qs (Ne.symm f2)];exact m2,m3.other f3⟩⟩
variable {te:TE}{v:V}
def An (c:HandC K C)(e:ρ[i]?=some (some (.own v (QM C N)))){n:PyData}(h:Qu K te ρ n)(hl:N.known.length<1000)
 (hn:D.nx (ρ.set i (some (.own v (QM C { N with known:=N.known++[n] }))))):Q1 K (Vh (tBM K "list" VQ (ZL K (QB i) "known") (QE te QP))) ρ D:=fun F0 H0 F σ H E x S C'=>by
 obtain⟨a,dx,k,g,d,m,y,xs,as,rfl,e1,ok,_⟩:=S.hand e;refine⟨_,e1,a,C,dx,_,.ref k,rfl,ok.ins.2,c.cl,c.kn,rfl,.inl ⟨rfl,_,SqL.of ok.known.2.choose_spec.1⟩,h H0 F σ H _ S fun F1 H1 u x1 r1=>?_⟩;obtain⟨a',dx',k',g',d',m',y',xs',as',ea,g1,ok',hp,wr⟩:=(S.ext x1).hand e
 cases ea
 obtain⟨rfl,rfl,rfl,rfl,rfl,rfl⟩:=ok.same ok' ((x1.hh _ _ ok.ins.2).trans ok.ins.2.symm);obtain⟨q1,qx,q2,q3⟩:=ok'.known;have hr0:=hp k' (by simp);refine⟨k',qx,u,rfl,rfl,q2,by rw[q3.length];exact ZT (by omega),?_⟩;exact C'.nx F1 σ _ _ ((x.trans x1).wr hr0.1 hr0.2.1) (wr _ { N with known:=N.known++[n] } y' xs' as' ((S.ext x1).sub.upd hr0.2.1) (fun b hb _=>Qs fun z=>hb (by rw[z];simp)) VF (ok'.setKnown (q3.snoc r1)) (fun b hb=>.inl hb)) hn
def E9 (c:HandC K C)(e:ρ[i]?=some (some (.own v (QM C N)))){n:Int}(h:Qu K te ρ (.int n))(hl:N.given.length<1000)
 (hn:D.nx (ρ.set i (some (.own v (QM C { N with given:=N.given++[n] }))))):Q1 K (Vh (tBM K "list" VQ (ZL K (QB i) "given") (QE te QP))) ρ D:=fun F0 H0 F σ H E x S C'=>by
 obtain⟨a,dx,k,g,d,m,y,xs,as,rfl,e1,ok,_⟩:=S.hand e;refine⟨_,e1,a,C,dx,_,.ref g,rfl,ok.ins.2,c.cl,c.gv,rfl,.inl ⟨rfl,_,SqL.of ok.given.2.choose_spec.1⟩,h H0 F σ H _ S fun F1 H1 u x1 r1=>?_⟩;obtain⟨a',dx',k',g',d',m',y',xs',as',ea,g1,ok',hp,wr⟩:=(S.ext x1).hand e
 cases ea
 obtain⟨rfl,rfl,rfl,rfl,rfl,rfl⟩:=ok.same ok' ((x1.hh _ _ ok.ins.2).trans ok.ins.2.symm);obtain⟨q1,qx,q2,q3⟩:=ok'.given;have hr0:=hp g' (by simp);refine⟨g',qx,u,rfl,rfl,q2,by rw[q3.length,Xm];exact ZT (by omega),?_⟩;exact C'.nx F1 σ _ _ ((x.trans x1).wr hr0.1 hr0.2.1) (wr _ { N with given:=N.given++[n] } y' xs' as' ((S.ext x1).sub.upd hr0.2.1) (fun b hb _=>Qs fun z=>hb (by rw[z];simp)) VF (ok'.setGiven (by rw[Xy];exact q3.snoc r1)) (fun b hb=>.inl hb)) hn
end
def spP (K:W.Frag){α:Type}(Φ:α->OwnP)(R:α->List OT->(OT->α->Prop)->Prop):Sp:=fun vs H Q _=>∃F v0 vs' p ts N Ψ,vs=v0::vs'/\KTs K F/\Q2 F H/\Args K F vs' ts/\(Φ N).ok K F H v0 p/\R N ts Ψ /\
 ∀F' H' p' N' v r q,Ψ r N'->ExtN p F H F' H'->(Φ N').ok K F' H' v0 p'->(∀b∈p',b∈p\/H b=none)->Zk K F' H' v r q->(∀b∈q,(b∈p\/H b=none)/\b∉p')->Q v H'
abbrev spH (K:W.Frag)(C:Addr)(R:HandS->List OT->(OT->HandS->Prop)->Prop):Sp:=spP K (QM C) R
def GR (K:W.Frag)(C CR:Addr){δ:Type}(FL:Addr->Hp->Hp->Hp->Qj->δ->Prop)(R:HandS->List OT->(OT->HandS->Prop)->Prop)(Rx:List OT->(δ->Prop)->Prop):Sp:=fun vs H Q E=>(∃RR,E=XE CR RR/\ZM CR RR/\spH K C R vs H Q E)\/Wm K CR FL (fun _ _=>False) Rx vs H Q E
abbrev GP (K:W.Frag)(C CR:Addr)(f:Str)(R:HandS->List OT->(OT->HandS->Prop)->Prop)(Rx:List OT->(Qd->Prop)->Prop):Sp:=GR K C CR (Fld f) R Rx
def GK (K:W.Frag)(C:Addr)(R:HandS->List OT->(OT->HandS->Prop)->Prop)(R2:List OT->(OT->Prop)->Prop):Sp:=fun vs H Q E=>spH K C R vs H Q E\/Zg K R2 vs H Q E
def EvR (K:W.Frag)(t:TS)(ρ:Q6)(Ψ:OT->Q6->Prop):Prop := ∀(F0 H0 F:Hp) (σ:St) (H:Hp) (E:Ends),Qx F0 H0 F H->Q9 K H0 F ρ σ H ->
 (∀F' σ' H' ρ' v r q,Qx F0 H0 F' H'->Q9 K H0 F' ρ' σ' H'->Zk K F' H' v r q->(∀a∈q,H0 a=none)->(∀a∈q,∀u t' q',ρ'[0]?=some (some t')->σ'[0]?=some (some u)->Zk K F' H' u t' q'->a∉q')->Ψ r ρ'->E.rt v H')->t E σ H
section
variable {K:W.Frag}{ρ:Q6}{te:TE}{t u:TS}{Ψ:OT->Q6->Prop}
def ZB (M:Q6->Prop)(h1:Q1 K t ρ { nx:=M,rt:=fun _=>False })(h2:∀ρ',M ρ'->EvR K u ρ' Ψ):EvR K (VV t u) ρ Ψ:=fun F0 H0 F σ H E x S k =>
 h1 F0 H0 F σ H _ x S ⟨fun F' σ' H' ρ' x' S' e=>h2 ρ' e F0 H0 F' σ' H' E x' S' k,fun _ _ _ _ _ _ _ _ z=>z.elim,fun _ _ _ _ _ _ z=>False.elim z,fun _ _ _ _ _ _ z=>False.elim z⟩
def Gf {d:PyData}(h:Qu K te ρ d)(hr:Ψ (.fz d) ρ):EvR K (Yk te) ρ Ψ:=fun F0 H0 F σ H E x S k =>
 h H0 F σ H _ S fun F' H' v x' r=>k F' σ H' ρ v (.fz d) [] (x.trans x') (S.ext x') ⟨rfl,r⟩ (fun _ z=>nomatch z) (fun _ z=>nomatch z) hr
def Fr {j:Nat}{r:OT}(hj:j≠0)(e:ρ[j]?=some (some r))(hr:Ψ r ρ):EvR K (Yk (QB j)) ρ Ψ:=fun F0 H0 F σ H E x S k=>by
 obtain⟨fp,h,h4,h5⟩:=S.fp;obtain⟨v,e1,ok⟩:=h j _ e;refine⟨v,e1,k F σ H ρ v r (fp j) x S ok (fun a ha=>(h5 j a ha).1) (fun a ha u t' q' e2 e3 ok' hq=>?_) hr⟩;obtain⟨v2,f1,f2⟩:=h 0 _ e2;rw[e3]at f1;cases f1;exact hj (h4 j 0 a ha (Uo (K:=K) f2 ok' a hq))
variable {α:Type}{Φ:α->OwnP}{N:α}
def EH {L:Qh}{vs:List V}{ts:List OT}{F H:Hp}{v0:V}{p:Qg}(kt:KTs K F)(sm:Q2 F H)(ha:Args K F vs ts)(ok:(Φ N).ok K F H v0 p) :
 Q9 K (fun b=>if b∈p then none else H b) F (some (.own v0 (Φ N))::(ts.map some++List.replicate (L.length-(ts.length+1)) none)) (start L (v0::vs)) H:=by
 have th:=fun b hb=>(Φ N).there ok b hb;refine⟨kt,sm,?_,fun j=>if j=0 then p else [],fun j t' e=>?_,fun j k' b hb hc=>?_,fun j b hb=>?_⟩
 ·unfold start
  simp[ha.length]
 ·cases j with
  |zero =>
    simp at e
    subst e;refine⟨v0,?_,rfl,?_⟩
    ·unfold start
     simp
    ·simp only[if_true]
     exact ok
  |succ i =>
    rw[UC]at e;have hlt:i<ts.length:=by
     by_cases z:i<ts.length
     ·exact z
     ·rw[XY (by simpa using z)]at e
      have:=List.mem_of_getElem? e
      simp at this
    rw[XH (by simpa using hlt),Xt]at e;have e':ts[i]?=some t':=by
     cases z:ts[i]? with
     |none=>rw[z]at e;simp at e
     |some w=>rw[z]at e;simp at e;rw[e]
    obtain⟨v,e1,e2⟩:=ha.get (H:=H) i t' e';refine⟨v,?_,?_⟩
    ·unfold start
     have hl2:i<vs.length:=by rw[ha.length];exact hlt
     rw[Xu,Jc,UC,XH (by simpa using hl2),Xt,e1];rfl
    ·simp only[Nat.add_one_ne_zero,if_false]
     exact e2
 ·by_cases hj:j=0
  ·by_cases hk:k'=0
   ·rw[hj,hk]
   ·simp[hk]at hc
  ·simp[hj]at hb
 ·by_cases hj:j=0
  ·simp only[Xd hj]at hb
   exact⟨by simp[hb],(th b hb).2⟩
  ·simp[hj]at hb
def B4 {L:Qh}{R:α->List OT->(OT->α->Prop)->Prop}{vs:List V}{ts:List OT}{F H:Hp}{v0:V}{p:Qg}{Ψ:OT->α->Prop}{Q:VK}{t:TS}{q0:St->Hp->Prop}
 (h:EvR K t (some (.own v0 (Φ N))::(ts.map some++List.replicate (L.length-(ts.length+1)) none)) (fun r ρ'=>∃M',Ψ r M'/\ρ'[0]?=some (some (.own v0 (Φ M')))))
 (kt:KTs K F) (sm:Q2 F H) (ha:Args K F vs ts) (ok:(Φ N).ok K F H v0 p)
 (q:∀F' H' p' N' v r q,Ψ r N'->ExtN p F H F' H'->(Φ N').ok K F' H' v0 p'->(∀b∈p',b∈p\/H b=none)->Zk K F' H' v r q->(∀b∈q,(b∈p\/H b=none)/\b∉p')->Q v H') :
 t { nx:=q0,rt:=Q } (start L (v0::vs)) H:=by
 have h0:∀b,(fun b=>if b∈p then none else H b:Hp) b=none->b∈p\/H b=none:=fun b hb=>by
  by_cases z:b∈p
  ·exact .inl z
  ·simp only[Xb z]at hb;exact .inr hb
 refine h F (fun b=>if b∈p then none else H b) F _ H _ ⟨fun b o hb=>?_,Q2.refl _,sm,fun _ h=>.inl h⟩ (EH kt sm ha ok) fun F' σ' H' ρ' v r qq x' S' sok hq hd ⟨M',hM,e0⟩=>?_
 ·by_cases z:b∈p
  ·simp[z]at hb
  ·simp only[Xb z]at hb;exact hb
 ·obtain⟨fp,g1,g2,g3⟩:=S'.fp
  obtain⟨u,u1,rfl,ok'⟩:=g1 0 _ e0;refine q F' H' (fp 0) M' v r qq hM ⟨fun b o nb hb=>x'.hh b o (by simp only[Xb nb];exact hb),x'.ff,x'.fh,fun b hb=>?_⟩ ok' (fun b hb=>h0 b (g3 0 b hb).1) sok (fun b hb=>⟨h0 b (hq b hb),hd b hb _ _ _ e0 u1 ⟨rfl,ok'⟩⟩)
  rcases x'.fr b hb with z|z
  ·exact .inl z
  ·exact .inr ((h0 b z).symm)
end
def Vf (P:Program)(w:World)(K:W.Frag)(mg:Str->Qf)(base:Heap)(C:Addr)(m:Str)(ps:Qh)(k:Nat)(sp:Sp):Prop :=
 ∃f fd,Meth K C m f/\Ve K fd ps []/\FnOk P w K mg base (CX1 P w) k f fd ps sp
section
variable {P:Program}{w:World}{K:W.Frag}{mg:Str->Qf}{base:Heap}{C CR:Addr}
def Mf.evHX {m qual:Str}{st:Stmt}{L ps:Qh}{k:Nat}{δ:Type}{FL:Addr->Hp->Hp->Hp->Qj->δ->Prop}{R:HandS->List OT->(OT->HandS->Prop)->Prop}{Rx:List OT->(δ->Prop)->Prop}(D:Mf K C m qual st ps)(S:Qp L ps (Q0 st))(len:∀M ts Ψ,R M ts Ψ->ts.length+1=ps.length)(lenx:∀ts Φ,Rx ts Φ->ts.length=ps.length)(hpn:ps.length<=L.length)
 (hret:∀(f:Addr) (cdv:Value) (A:Around) (outer:List Env) (s:Shared) (H:Hp) RR (v:V) (M:HandS) (ts:List OT) (Ψ:OT->HandS->Prop),Room k (A.deeper (envOfC qual (Q0 st) s.heap.objs.size f cdv))->ZM CR RR->R M ts Ψ ->
  ∃t,PSs (cx1 P w K mg base L qual (Q0 st) f cdv A outer s H (XE CR RR)) (Zx st) t/\EvR K t (some (.own v (QM C M))::(ts.map some++List.replicate (L.length-(ts.length+1)) none)) (fun r ρ'=>∃M',Ψ r M'/\ρ'[0]?=some (some (.own v (QM C M')))))
 (hexc:∀(f:Addr) (cdv:Value) (A:Around) (outer:List Env) (s:Shared) (F H:Hp) RR (ts:List OT) (Φx:δ->Prop),Room k (A.deeper (envOfC qual (Q0 st) s.heap.objs.size f cdv))->ZM CR RR->(∀F' H' e dct d,Φx d->Qx F H F' H'->H e=none->FL e F' H' H dct d->RR e dct H')->Rx ts Φx ->
  ∃t,PSs (cx1 P w K mg base L qual (Q0 st) f cdv A outer s H (XE CR RR)) (Zx st) t/\EvZ K F H t (ts.map some++List.replicate (L.length-ts.length) none)) :
 Vf P w K mg base C m ps (k+1) (GR K C CR FL R Rx):=by
 obtain⟨f,fd,F,hm,hb⟩:=D.ex;refine⟨f,fd,hm,hb,F.okX S (fun vs H Q E h=>?_) fun cdv A outer s H vs Q E hr h=>?_⟩
 ·rcases h with ⟨RR,_,_,F,v0,vs',p,ts,M,Ψ,e,_,_,ha,_,hR,_⟩|⟨F,ts,_,_,ha,RR,_,_,q⟩
  ·rw[e,Oq,ha.length];exact len _ _ _ hR
  ·rcases q with ⟨_,z,_⟩|⟨r,hR,_⟩
   ·exact z.elim
   ·exact ha.length.trans (lenx ts r hR)
 ·rcases h with ⟨RR,eE,sts,F,v0,vs',p,ts,M,Ψ,e,kt,sm,ha,ok,hR,q⟩|⟨F,ts,kt,sm,ha,RR,eE,sts,q⟩
  ·subst e eE
   obtain⟨t,h1,h2⟩:=hret f cdv A outer s H RR v0 M ts Ψ hr sts hR
   exact⟨t,h1,B4 (R:=R) h2 kt sm ha ok q⟩
  ·subst eE
   rcases q with ⟨_,z,_⟩|⟨Φx,hR,q⟩
   ·exact z.elim
   ·obtain⟨t,h1,h2⟩:=hexc f cdv A outer s F H RR ts Φx hr sts q hR
    exact⟨t,h1,h2 F (start L vs) H _ (Qx.refl sm) (Um (ps:=ps) kt sm ha (by rw[lenx ts Φx hR];exact hpn))⟩
def Df.evH2 {x:Str}{st:Stmt}{L ps:Qh}{k:Nat}{R:HandS->List OT->(OT->HandS->Prop)->Prop}{R2:List OT->(OT->Prop)->Prop}(D:Df K mg x st ps)(S:Qp L ps (Q0 st))(len:∀M ts Ψ,R M ts Ψ->ts.length+1=ps.length)(len2:∀ts Φ,R2 ts Φ->ts.length=ps.length)(hpn:ps.length<=L.length)
 (hret:∀(f:Addr) (cdv:Value) (A:Around) (outer:List Env) (s:Shared) (H:Hp) (E:XK) (v:V) (M:HandS) (ts:List OT) (Ψ:OT->HandS->Prop),Room k (A.deeper (envOfC x (Q0 st) s.heap.objs.size f cdv))->R M ts Ψ ->
  ∃t,PSs (Vd CX0 P w K mg base L x (Q0 st) f cdv A outer s H E).nox (Zx st) t/\EvR K t (some (.own v (QM C M))::(ts.map some++List.replicate (L.length-(ts.length+1)) none)) (fun r ρ'=>∃M',Ψ r M'/\ρ'[0]?=some (some (.own v (QM C M')))))
 (XaV:∀(f:Addr) (cdv:Value) (A:Around) (outer:List Env) (s:Shared) (H:Hp) (E:XK) (ts:List OT) (Φ:OT->Prop),Room k (A.deeper (envOfC x (Q0 st) s.heap.objs.size f cdv))->R2 ts Φ ->
  ∃t,PSs (Vd CX0 P w K mg base L x (Q0 st) f cdv A outer s H E).nox (Zx st) t/\Q1 K t (ts.map some++List.replicate (L.length-ts.length) none) { nx:=fun _=>Φ (.fz .none),rt:=Φ }):QD P w K mg base x ps (k+1) (GK K C R R2):=by
 obtain⟨f,fd,F,hm,hb⟩:=D.ex;refine⟨f,fd,hm,F.kp,hb,F.ok S (fun vs H Q E h=>?_) fun cdv A outer s H vs Q E hr h=>?_⟩
 ·rcases h with ⟨F,v0,vs',p,ts,M,Ψ,e,_,_,ha,_,hR,_⟩|⟨F,ts,Φ,_,_,ha,hR,_⟩
  ·rw[e,Oq,ha.length];exact len _ _ _ hR
  ·exact ha.length.trans (len2 ts Φ hR)
 ·rcases h with ⟨F,v0,vs',p,ts,M,Ψ,e,kt,sm,ha,ok,hR,q⟩|⟨F,ts,Φ,kt,sm,ha,hR,q⟩
  ·subst e
   obtain⟨t,h1,h2⟩:=hret f cdv A outer s H E v0 M ts Ψ hr hR
   exact⟨t,h1,B4 (R:=R) h2 kt sm ha ok q⟩
  ·obtain⟨t,h1,h2⟩:=XaV f cdv A outer s H E ts Φ hr hR
   refine⟨t,h1,h2 F H F (start L vs) H _ (Qx.refl sm) (Um (ps:=ps) kt sm ha (by rw[len2 ts Φ hR];exact hpn)) ⟨fun F' σ' H' ρ' x' _ e=>?_,fun F' H' v r' p x' hp ok e=>q F' H' v p r' e x' hp ok,fun _ _ _ _ _ _ z=>False.elim z,fun _ _ _ _ _ _ z=>False.elim z⟩⟩;exact q F' H' _ [] _ e x' (fun _ z=>nomatch z) ⟨rfl,.non⟩
end
section
variable {X:Cx}
def DA {C:Addr}{m:Str}{pos apos:Pos}{o e:Expr}{es:Qi}{ta:TE}{t:TA}{ps:Qh}{j k:Nat}{sp:Sp}{pl:Sem Bool}(M:Zv X.prog X.w X.K X.mg X.base C m ps j sp)(c:HandC X.K C)(hr:Room k X.A)(he:PE X o ta)(ha:PA X (e::es) t)(hj:j<=k:=by walk_at"j")
 (hst:starEach (e::es) X.env=(false,eval e X.env)::starEach es X.env:=by rfl) (hpl:(backTo pos (starEach es X.env)).any (·.1)=false:=by rfl)
 (ht:eval (.Call (.Attribute o m apos) (e::es) [] pos) X.env=(do
  let ov <- eval o X.env
  standAt apos.atName
  let (f,first) <- holding [ov] (getMethod ov m pl)
  callWith pos f first (backTo pos (starEach (e::es) X.env)) (backToKw pos (keywordEach [] X.env))):=by rfl) :
 PE X (.Call (.Attribute o m apos) (e::es) [] pos) (ZY C m sp [] E0 ta t):=by
 obtain⟨f,fd,hm,hb,F⟩:=M;exact DB (pl:=pl) he c.cl hm F (hr.mono hj) hb .nil Jn ha hst hpl ht
def J4 {C:Addr}{m:Str}{pos apos:Pos}{o:Expr}{ta:TE}{ps:Qh}{j k:Nat}{sp:Sp}{pl:Sem Bool}(M:Zv X.prog X.w X.K X.mg X.base C m ps j sp)(c:HandC X.K C)(hr:Room k X.A)(he:PE X o ta)(hj:j<=k:=by walk_at"j")
 (ht:eval (.Call (.Attribute o m apos) [] [] pos) X.env=(do
  let ov <- eval o X.env
  standAt apos.atName
  let (f,first) <- holding [ov] (getMethod ov m pl)
  callWith pos f first (backTo pos (starEach [] X.env)) (backToKw pos (keywordEach [] X.env))):=by rfl) :
 PE X (.Call (.Attribute o m apos) [] [] pos) (ZY C m sp [] E0 ta QP):=by
 obtain⟨f,fd,hm,hb,F⟩:=M;exact Cg (pl:=pl) he c.cl hm F (hr.mono hj) hb .nil Jn ht
def Vs {C:Addr}{m:Str}{pos apos:Pos}{o e:Expr}{es:Qi}{ta:TE}{t:TA}{ps:Qh}{j k:Nat}{sp:Sp}{E:XK}{pl:Sem Bool}(M:Vf X.prog X.w X.K X.mg X.base C m ps j sp)(c:HandC X.K C)(hr:Room k X.A)(hx:VP (CX1 X.prog X.w) X E)(he:PE X o ta)(ha:PA X (e::es) t)(hj:j<=k:=by walk_at"j")
 (hst:starEach (e::es) X.env=(false,eval e X.env)::starEach es X.env:=by rfl) (hpl:(backTo pos (starEach es X.env)).any (·.1)=false:=by rfl)
 (ht:eval (.Call (.Attribute o m apos) (e::es) [] pos) X.env=(do
  let ov <- eval o X.env
  standAt apos.atName
  let (f,first) <- holding [ov] (getMethod ov m pl)
  callWith pos f first (backTo pos (starEach (e::es) X.env)) (backToKw pos (keywordEach [] X.env))):=by rfl) :
 PE X (.Call (.Attribute o m apos) (e::es) [] pos) (ZY C m sp [] E ta t):=by
 obtain⟨f,fd,hm,hb,F⟩:=M;exact DB (pl:=pl) he c.cl hm F (hr.mono hj) hb .nil hx ha hst hpl ht
end
section
variable {K:W.Frag}{ρ:Q6}{tx:TE}{t:TA}{D:PEnds}{i j:Nat}{v:V}{C CR:Addr}{N:HandS}{m f:Str}{RR:Addr->Qj->Hp->Prop}{ts:List OT}
def We {α:Type}{Φ:α->OwnP}{N:α}{F0 H0 F H:Hp}{σ:St}(S:Q9 K H0 F ρ σ H)(x:Qx F0 H0 F H)(e:ρ[i]?=some (some (.own v (Φ N)))) :
 ∃p,σ[i]?=some (some v)/\(Φ N).ok K F H v p/\∀F' H' p' N',ExtN p F H F' H'->(Φ N').ok K F' H' v p'->(∀b∈p',b∈p\/H b=none) ->
  Qx F0 H0 F' H'/\Q9 K H0 F' (ρ.set i (some (.own v (Φ N')))) σ H'/\∀(q:Qg),(∀b∈q,(b∈p\/H b=none)/\b∉p')->(∀b∈q,H0 b=none)/\∀b∈q,∀(j:Nat) (u:V) (t':OT) (q':Qg),(ρ.set i (some (.own v (Φ N'))))[j]?=some (some t')->σ[j]?=some (some u)->Zk K F' H' u t' q'->b∉q':=by
 obtain⟨kt,h1,h2,fp,h3,h4,h5⟩:=S;obtain⟨u,e1,rfl,ok⟩:=h3 i _ e;have hlt:=(Xg.mp e).1;refine⟨fp i,e1,ok,fun F' H' p' N' xn ok' sub=>?_⟩;have out:∀j,j≠i->∀b∈fp j,b∉fp i:=fun j hj b hb z=>hj (h4 j i b hb z)
 have hH:∀j,j≠i->∀b∈fp j,H' b=H b:=fun j hj b hb=>by
  obtain⟨o,ho⟩:=Uh (h5 j b hb).2;rw[xn.hh b o (out j hj b hb) ho,ho]
 have mv:∀j t' u',j≠i->Zk K F H u' t' (fp j)->Zk K F' H' u' t' (fp j):=fun j t' u' hj f2=>by
  refine f2.move xn.ff (fun b hb=>?_) (hH j hj)
  cases z:F' b with
  |none=>rfl
  |some o =>
    rcases xn.fr b (Zm z) with y|y|y
    ·exact Xl (f2.there b hb).1 y
    ·exact Xl y (h5 j b hb).2
    ·exact Xl y (out j hj b hb)
 refine⟨⟨fun b o hb=>xn.hh b o (fun z=>by rw[(h5 i b z).1]at hb;cases hb) (x.hh b o hb),x.ff.trans xn.ff,xn.fh,fun b hb=>?_⟩,⟨kt.mono xn.ff,xn.fh,by simp[h2],fun j=>if j=i then p' else fp j,fun j t' e'=>?_,fun j k b hb hc=>?_,fun j b hb=>?_⟩,fun q hq=>⟨fun b hb=>?_,fun b hb j u t' q' m1 m2 ok2 hb'=>?_⟩⟩
 ·rcases xn.fr b hb with z|z|z
  ·exact x.fr b z
  ·exact .inr (x.hh.free z)
  ·exact .inr (h5 i b z).1
 ·by_cases hj:j=i
  ·subst hj
   rw[Xk hlt]at e';cases e';refine⟨_,e1,rfl,?_⟩;simp only[if_true];exact ok'
  ·rw[Xp (Ne.symm hj)]at e'
   obtain⟨u',f1,f2⟩:=h3 j t' e';refine⟨u',f1,?_⟩;simp only[Xb hj];exact mv j t' u' hj f2
 ·by_cases hj:j=i
  ·by_cases hk:k=i
   ·omega
   ·simp only[Xd hj]at hb
    simp only[Xb hk]at hc;rcases sub b hb with z|z
    ·exact Xl (h4 k i b hc z) hk
    ·exact Xl z (h5 k b hc).2
  ·simp only[Xb hj]at hb
   by_cases hk:k=i
   ·simp only[Xd hk]at hc
    rcases sub b hc with z|z
    ·exact Xl (h4 j i b hb z) hj
    ·exact Xl z (h5 j b hb).2
   ·simp only[Xb hk]at hc
    exact h4 j k b hb hc
 ·by_cases hj:j=i
  ·simp only[Xd hj]at hb
   refine⟨?_,((Φ N').there ok' b hb).2⟩
   rcases sub b hb with z|z
   ·exact(h5 i b z).1
   ·exact x.hh.free z
  ·simp only[Xb hj]at hb
   exact⟨(h5 j b hb).1,by rw[hH j hj b hb];exact(h5 j b hb).2⟩
 ·rcases(hq b hb).1 with z|z
  ·exact(h5 i b z).1
  ·exact x.hh.free z
 ·by_cases hj:j=i
  ·subst hj
   rw[Xk hlt]at m1;cases m1;rw[e1]at m2;cases m2
   exact(hq b hb).2 ((Φ N').uniq ok' ok2.2 b hb')
  ·rw[Xp (Ne.symm hj)]at m1
   obtain⟨u',f1,f2⟩:=h3 j t' m1;rw[f1]at m2;cases m2;have hb2:=Uo (K:=K) (mv j t' u hj f2) ok2 b hb'
   rcases(hq b hb).1 with z|z
   ·exact out j hj b hb2 z
   ·exact(h5 j b hb2).2 z
def QM.at {F H:Hp}{p:Qg}(h:(QM C N).ok K F H v p):∃a dx y n k g d e,v=.ref a/\H a=some (.ins C dx (hfs y n k g d e)):=by
 obtain⟨a,dx,k,g,d,m,y,xs,as,rfl,_,o⟩:=h
 exact⟨a,dx,y,_,k,g,d,m,rfl,o.ins.2⟩
def CS {R:HandS->List OT->(OT->HandS->Prop)->Prop}{Rx:List OT->(Qd->Prop)->Prop}{Ψ:OT->HandS->Prop}{d0:PyData}{w0:V}(hm:NoH m)(e:ρ[i]?=some (some (.own v (QM C N))))(hx:Qu K tx ρ d0)(hf:ZN d0=some w0)(hA:Zn K t ρ ts)(hR:R N ts Ψ)(st:ZM CR RR)
 (hn:∀r N',Ψ r N'->∃d w,r=.fz d/\ZN d=some w/\D.nx ((ρ.set i (some (.own v (QM C N')))).set j (some (.ol [d0,d])))) :
 Q1 K (ZJ (WG (QE tx (QE (ZY C m (GP K C CR f R Rx) [] (XE CR RR) (QB i) t) QP))) (ZC j)) ρ D:=fun F0 H0 F σ H E x S C' =>
 hx H0 F σ H _ S fun F1 H1 u x1 r1=>by
  obtain⟨p0,s0,ok0,_⟩:=We (S.ext x1) (x.trans x1) e;obtain⟨a0,dx,y,n,k,g,d,e',rfl,h1⟩:=QM.at ok0;refine⟨.ref a0,s0,a0,dx,_,rfl,h1,hm _ _ _ _ _ _,hA H0 F1 σ H1 _ (S.ext x1) fun F2 H2 vs x2 r2=>.inl ⟨RR,rfl,st,?_⟩⟩;obtain⟨p,s1,okp,fin⟩:=We (S.ext (x1.trans x2)) (x.trans (x1.trans x2)) e;refine⟨F2,_,vs++[],p,ts,N,Ψ,rfl,(S.ext (x1.trans x2)).kt,x2.fh,by rw[Xz];exact r2,okp,hR,fun F' H' p' N' v' r q hr xn ok' sub sok hq=>?_⟩;obtain⟨d,w,rfl,hfd,hnx⟩:=hn r N' hr;obtain⟨X',S',_⟩:=fin F' H' p' N' xn ok' sub;refine⟨Yr (ZT Wr),fun z hz=>?_⟩;have hp:H' z=none:=hz;have X2:Qx F' H' F' (upd H' z (.lst [u,v'])):=Qx.own S'.sub hp;have S2:=S'.ext X2;refine C'.nx F' _ _ _ (X'.trans X2) (S2.set (t:=.ol [d0,d]) (p:=[z]) ⟨z,rfl,rfl,S'.sub.free hp,_,QC,.cons (r1.thin hf) (.cons sok.2 .nil)⟩ (fun b hb=>?_) (hn:=fun b hb k u' t' q' m1 m2 ok2 hb'=>?_)) hnx
  ·cases Xh.mp hb
   exact X'.hh.free hp
  ·cases Xh.mp hb
   obtain⟨fp,g1,g2,g3⟩:=S'.fp;obtain⟨u2,f1,f2⟩:=g1 k t' m1;rw[f1]at m2;cases m2
   exact(g3 k z (Uo (K:=K) (f2.ext X2) ok2 z hb')).2 hp
def CC {R:HandS->List OT->(OT->HandS->Prop)->Prop}{Rx:List OT->(Qd->Prop)->Prop}{Φx:Qd->Prop}{d0:PyData}{F0 H0 H9:Hp}{E:Ends}(hm:NoH m)(e:ρ[i]?=some (some (.zow (QJ C N))))(hx:Qu K tx ρ d0)(hA:Zn K t ρ ts)(hR:Rx (.zow (QJ C N)::ts) Φx)(st:ZM CR RR)
 (hq:∀F' H' e dct d,Φx d->Qx F0 H0 F' H'->H0 e=none->Fld f e F' H' H0 dct d->RR e dct H') {F:Hp} {σ:St} {H:Hp} (x:Qx F0 H0 F H) (S:Q9 K H9 F ρ σ H) :
 ZJ (WG (QE tx (QE (ZY C m (GP K C CR f R Rx) [] (XE CR RR) (QB i) t) QP))) (ZC j) E σ H :=
 hx H9 F σ H _ S fun F1 H1 u x1 r1=>by
  obtain⟨a,dx,k,g,d,m',y,ks,gs,xs,as,e1,ok⟩:=(S.ext x1).hz e;refine⟨_,e1,a,dx,_,rfl,x1.fh _ _ ok.ins,hm _ _ _ _ _ _,hA H9 F1 σ H1 _ (S.ext x1) fun F2 H2 vs x2 r2=>.inr ?_⟩;have X2:=x.trans (x1.trans x2)
  exact⟨F2,_,(S.ext (x1.trans x2)).kt,x2.fh,.zow (Ψ:=QJ C N) ((QJ C N).mono (K:=K) x2.ff ⟨a,dx,k,g,d,m',y,ks,gs,xs,as,rfl,ok⟩) (by rw[Xz];exact r2),RR,rfl,st,.inr ⟨Φx,hR,fun F' H' e dct d hd x3 he hf=>hq F' H' e dct d hd (X2.trans x3) (X2.hh.free he) (hf.back X2.hh)⟩⟩
end
def GQ (C:Addr):Sp:=fun vs H Q _=>∃x dx y,vs=[.ref x,y]/\H x=some (.ins C dx [])/\∀k g d m H',H k=none->H g=none->H d=none->H m=none->[x,k,g,d,m].Nodup ->
 H' x=some (.ins C dx (hfs y 0 k g d m))->H' k=some (.lst [])->H' g=some (.lst [])->H' d=some (.dK [])->H' m=some (.lst [])->(∀b,b∉[x,k,g,d,m]->H' b=H b)->Q .non H'
def M6 (P:Program)(w:World)(K:W.Frag)(mg:Str->Qf)(base:Heap)(x:Str)(C:Addr)(ps:Qh)(k:Nat):Prop :=
 ∃f fd,Mk K C f/\mg x=some (.ref C)/\Ve K fd ps []/\FnOk P w K mg base CX0 k f fd ps (GQ C)
def Cq {X:Cx} {C:Addr} {x:Str} {p pos:Pos} {e:Expr} {es:Qi} {t:TA} {ps:Qh} {j k:Nat} (M:M6 X.prog X.w X.K X.mg X.base x C ps j) (hr:Room k X.A) (ha:PA X (e::es) t) (hj:j+1<=k:=by walk_at"j") (hg:Gl X x:=by rfl) (hdb:(x==("__debug__" : Str))=false:=by decide +kernel)
 (he:starEach (e::es) X.env=(false,eval e X.env)::starEach es X.env:=by rfl) (hpl:(backTo pos (starEach es X.env)).any (·.1)=false:=by rfl) :
 PE X (.Call (.Name x p) (e::es) [] pos) (JN C (GQ C) [] E0 t):=by
 obtain⟨f,fd,M,hm,hb,F⟩:=M;exact LD M F (hr.mono hj) hg hm hb .nil Jn ha hdb he hpl
def Aj {K:W.Frag}{ρ:Q6}{ta:TE}{C:Addr}{E:XK}{yd:PyData}(h:Qu K ta ρ yd):EvX K (JN C (GQ C) [] E (QE ta QP)) ρ (QM C ⟨yd,0,[],[],[],[]⟩):=fun H0 F σ H Q S0 q=>h H0 F σ H _ S0 fun F1 H1 yv x1 r1=>fun x dx hx hdx ne=>by
 have S:=S0.ext x1;refine⟨x,dx,yv,rfl,QC,fun e r l d H' he hr hl hd nd h1 h2 h3 h4 h5 ho=>⟨rfl,?_⟩⟩
 have un:∀{b:Addr},upd (upd H1 dx (.own x)) x (.ins C dx []) b=none->H1 b=none/\b≠x/\b≠dx:=fun{b} hb=>by
  have n1:b≠x:=fun z=>by rw[z,QC]at hb;cases hb
  rw[Qs n1]at hb;have n2:b≠dx:=fun z=>by rw[z,QC]at hb;cases hb
  rw[Qs n2]at hb;exact⟨hb,n1,n2⟩
 obtain⟨e1,e2,e3⟩:=un he;obtain⟨r1',r2,r3⟩:=un hr;obtain⟨l1,l2,l3⟩:=un hl;obtain⟨d1,d2,d3⟩:=un hd
 have hdx':H' dx=some (.own x):=by
  rw[ho dx (by simp only[Xe,XM,or_false,not_or];exact⟨ne,Ne.symm e3,Ne.symm r3,Ne.symm l3,Ne.symm d3⟩),Qs ne,QC]
 have kp:∀b o,H1 b=some o->H' b=some o:=fun b o hb=>by
  have nb:∀{c:Addr},H1 c=none->b≠c:=fun hc z=>by rw[z,hc]at hb;cases hb
  rw[ho b (by simp only[Xe,XM,or_false,not_or];exact⟨nb hx,nb e1,nb r1',nb l1,nb d1⟩),Qs (nb hx),Qs (nb hdx)];exact hb
 have fr:∀{b:Addr},H1 b=none->F1 b=none:=fun hb=>S.sub.free hb;refine q F1 H' (.ref x) [x,dx,e,r,l,d] (x1.trans ⟨kp,Q2.refl _,fun b o hb=>kp b o (S.sub b o hb),fun _ h=>.inl h⟩) (fun b hb=>?_) ⟨x,dx,e,r,l,d,yv,[],[],rfl,rfl,?_,⟨fr hx,h1⟩,⟨fr hdx,hdx'⟩,r1,⟨fr e1,[],h2,.nil⟩,⟨fr r1',[],h3,.nil⟩,⟨fr l1,h4,.nil⟩,⟨fr d1,h5,.nil⟩⟩
 ·refine x1.hh.free ?_
  simp only[Xe,XM,or_false]at hb;rcases hb with rfl|rfl|rfl|rfl|rfl|rfl
  ·exact hx
  ·exact hdx
  ·exact e1
  ·exact r1'
  ·exact l1
  ·exact d1
 ·simp only[XF,Xe,XM,or_false,not_or,not_false_eq_true,Jb,and_true]at nd ⊢
  obtain⟨⟨a1,a2,a3,a4⟩,b1,c1,f1⟩:=nd
  exact⟨⟨Ne.symm ne,a1,a2,a3,a4⟩,⟨Ne.symm e3,Ne.symm r3,Ne.symm l3,Ne.symm d3⟩,b1,c1,f1⟩
section
variable {X:Cx}{XaU:Qc}{σ:St}{H:Hp}{s:Shared}
def EF {M:Model}{A:Around}{E:Qb}{i:Nat}{x:Str}{pos:Pos}{Q:Unit->Shared->Prop}(I0:Qq X XaU σ H s)(hN:X.N.Nodup)(hi:X.N[i]?=some x)(hk:X.env.scope.names.lookup x=some .cell)(hfn:X.fn x=true)
 (h:∀s',Qq X XaU (σ.set i none) H s'->Q () s'):wpAny M A (do bindName X.env x .none;unbindBehindTheSuite X.env x pos) Q E s:=by
 have hi0:i<σ.length:=by rw[I0.len];exact(Xg.mp hi).1
 refine Xc (wpAny_bindName (B0 (v:=.non) I0 hN hi (.inr hk) rfl (fun s I=>?_) (.inl hfn)));obtain⟨m,hn,hl⟩:=id I.loc;have hiσ:i<(σ.set i (some V.non)).length:=by simpa using hi0
 have cne:=I.cne;obtain⟨c,hc⟩:=I.ok.has x (.inl hk)
 have hv:s.heap.IsCell c (some .none):=by
  obtain⟨u,ru,q⟩:=hl i x .non hi (by rw[Xk hi0]) (.inr (.inl hk))
  cases ru
  rcases q with ⟨k,_⟩|⟨k,c',e,z⟩
  ·have z:=hk.symm.trans k;cases z
  ·rw[hc]at e;cases e;exact z
 have tracked:∀{a:Addr} {h':Heap},(∃o,s.heap.get? a=some o/\H a=none)->Heap.SameBut a s.heap h'->HOk X.prog X.w H h':=fun{a h'} ha hs b ob e=>by
  obtain⟨_,_,hfree⟩:=ha;refine(I.hok b ob e).stay (fun c w' hc q=>(hs.2 c ?_).trans q) (fun _ q=>q) fun _ _ q=>q
  rintro rfl
  rcases hc with rfl|hc
  ·rw[hfree]at e;cases e
  ·rw[hfree]at hc;cases hc
 unfold unbindBehindTheSuite;refine wpAny_onRaise ?_;unfold unbindName;refine Xc (wpAny_point (Xc ?_));unfold deleteName;have hk':X.env.kindOf x=some .cell:=hk;simp only[hk'];refine Xc (wpAny_cellOf hc (Xc (wpAny_cellGet hv ?_)));simp only[Option.isSome_some,if_true];refine wpAny_cellSet hv fun h' hc' hs=>?_;obtain⟨oc,hoc,hocd⟩:=id hv;refine wpAny_point (h _ ⟨I.ok,I.os,I.bare,⟨fun b o e n hb hx=>?_,fun b o e n hb hx=>?_,I.base.free,fun b o e hx=>?_,I.base.tups,I.base.frzs,fun b xs o q e hx=>(hs.2 b (Xr (Xn (Xj e) (I.ok.cab x c hfn hc)))).trans (I.base.tupo b xs o q e hx),I.base.tbls⟩,⟨m,hn.sameBut hs (Ne.symm (cne x c hc)),fun j y v' e1 e2 e3=>?_⟩,fun y c' e=>?_,I.free,I.freeC,fun p hp=>?_,tracked ⟨oc,hoc,I.freeC x c hc⟩ hs,by simpa using I0.len⟩)
 ·exact(hs.2 b (Xr (Xn (Xj e) (I.ok.cab x c hfn hc)))).trans (I.base.keep b o e n hb hx)
 ·obtain⟨sl,e1⟩:=I.base.slot b o e n hb hx
  exact⟨sl,(hs.2 b (Xr (Xn (Xj e) (I.ok.cab x c hfn hc)))).trans e1⟩
 ·obtain⟨o',e1⟩:=I.base.there b o e hx
  exact⟨o',(hs.2 b (Xr (Xn (Xj e) (I.ok.cab x c hfn hc)))).trans e1⟩
 ·by_cases hj:j=i
  ·subst hj
   rw[Xk hi0]at e2;cases e2
  ·rw[Xp (Ne.symm hj)]at e2
   obtain⟨u',r',q⟩:=hl j y v' e1 (by rw[Xp (Ne.symm hj)];exact e2) e3;refine⟨u',r',?_⟩
   rcases q with q|⟨k,c',e,z'⟩
   ·exact .inl q
   ·refine .inr ⟨k,c',e,z'.sameBut hs ?_⟩
    rintro rfl
    exact hj (B3 hN e1 (I.ok.inj _ _ _ e hc▸hi))
 ·by_cases hcc:c'=c
  ·subst hcc;exact⟨_,hc'⟩
  ·obtain⟨w2,z2⟩:=I.cell y c' e
   exact⟨w2,z2.sameBut hs hcc⟩
 ·obtain⟨e,n,ne,nf,d⟩:=I.pin p hp
  refine⟨(hs.2 p.1 ?_).trans e,n,ne,nf,d⟩;intro q;rw[q,hoc]at e;have q':oc=p.2:=Option.some.inj e;exact d _ (by rw[<- q'];exact hocd)
end
def EHc (C:Addr)(th:Addr->TS)(D:Ends)(n j:Nat):XK:=XE C fun e dct H=>∀(σ:St) H' T,σ.length=n->Lefts C e dct H H'->H' T=none->T≠e->th e (Dh D j) (σ.set j (some (.ref e))) (left C e dct T H')
def WS {C:Addr}{th:Addr->TS}{D:Ends}{n j:Nat}:ZM C fun e dct H=>∀(σ:St) H' T,σ.length=n->Lefts C e dct H H'->H' T=none->T≠e->th e (Dh D j) (σ.set j (some (.ref e))) (left C e dct T H'):=fun _ _ _ _ r hT hTe σ H' T' hl hL=>r σ H' T' hl (.head hT hTe hL)
section
variable {X:Cx}{C B:Addr}{th:Addr->TS}{tb:Ends->TS}{body suite:List Stmt}{b0:Stmt}{x n:Str}{j:Nat}{np hpos pos:Pos}{rest:List ExceptHandler}
def Aq {XaU:Qc}{Q:Flow->Shared->Prop}{E:Qb}{e T0:Addr}{dct:Qj}{σ:St}{H:Hp}{s:Shared}{D:Ends}(cm:W.exmOne X.K (.ref C) (.ref B)=some true)(hok:X.Ok)(hst:X.stack=X.env::X.outer)(hfr:X.env.frame=some X.env.locals)(hg:Gl X x)(hm:X.mg x=some (.ref B))
 (hN:X.N.Nodup) (hj:X.N[j]?=some n) (hl:X.env.scope.names.lookup n=some .local\/(X.env.scope.names.lookup n=some .cell/\X.fn n=true))
 (hh:∀e pn,PSs (W4 X e pn) (b0::suite) (th e)) (I:Qq { X with pn:=X.pn++XaU } [] σ H s) (hT0:T0≠e) (he:H e=some (.ext (phF C e dct T0))) (hT:H T0=some (.ext (phT T0)))
 (hd:(x==("__debug__" : Str))=false)
 (hq:∀T,H T=none->T≠e->th e (Dh D j) (σ.set j (some (.ref e))) (left C e dct T H)) (hQ:∀f s',SP X XaU D f s'->Q f s') :
 wpAny (model X.prog X.w) X.A (noteFrame (.ref e) X.env) (fun _ s2=>wpAny (model X.prog X.w) X.A (setFlight (.ref e) none) (fun _ s3=>wpAny (model X.prog X.w) X.A (handleBy (.ref e) X.env (.ExceptHandler (some (.Name x np)) (some n) (b0::suite) hpos::rest)) Q E s3) E s2) E s:=by
 obtain⟨⟨vs,sl,hx,h1,h2c⟩,_,_⟩:=I.hok e _ he;obtain⟨⟨oT,ts,hx2,h2,h3⟩,_,_⟩:=I.hok T0 _ hT;have fr:X.A.frames=some (X.env::X.outer):=by rw[hok.frames,hst]
 have ff:=I.stack;have ff:s.heap.FunFrames X.base (X.env::X.outer):=by rw[<- hst];exact ff
 refine Pk fr ff hfr hx rfl h1 hT0 hx2 h2 h3 fun h' T Z=>?_;have J:=Hd I (by rw[he];trivial) hx (Array.getElem?_eq_some_iff.mp h1).1 h2c (by show Leaves X.stack _ _ _ _ _;rw[hst];exact Z);have hTn:H T=none:=I.hok.fresh Z.new;have hTe:T≠e:=VU (Xn (Xj hx) Z.new);have JH:Qq (W4 X e (X.pn++XaU)) [] σ (left C e dct T H) { s with heap:=h' }:=J.toHandler;refine wpAny_handleBy_cons (codeAny_handlers_test (J1 JH hg hm ?_ hd)) (by intro q;cases q);have LT:W.Looks (model X.prog X.w) h' (typeOf (.ref e)) (.ref C):=(W.Looks.ld Z.exc).andThen .now;refine(W.exm_one J.kIn LT cm).here (codeAny_handlers_suite_as ?_);have o1:left C e dct T H e=some (.ext (phF C e dct T)):=by unfold left;rw[Qs (Ne.symm hTe),QC]
 have o2:left C e dct T H T=some (.ext (phT T)):=by unfold left;rw[QC]
 obtain⟨p1,_,_⟩:=JH.hok e _ o1;obtain⟨p2,_,_⟩:=JH.hok T _ o2;refine Iq p1 p2 fun h2 k2=>?_;have J2:Qq (W4 X e (X.pn++XaU)) [] σ (left C e dct T H) { s with heap:=h2 }:=JH.kept (t':=s.toks) k2;refine B0 (X:=W4 X e (X.pn++XaU)) J2 hN hj (hl.imp id And.left) (v:=.ref e) rfl (fun s3 J3=>?_) (hl.symm.imp And.right id);refine wpAny_mono (hh e _ [] s3 _ _ (Dh D j) J3 (hq T hTn hTe)) (fun fl s4 z=>?_) fun _ _ z=>False.elim z
 cases fl with
 |next =>
   obtain⟨σ',H',I4,q⟩:=z
   rcases hl with hl|⟨hl,hfn⟩
   ·exact E6 (X:=W4 X e (X.pn++XaU)) I4 hN hj hl fun s5 I5=>hQ _ _ ⟨_,H',(I5.ofHandler hok).ofPn,q⟩
   ·exact EF (X:=W4 X e (X.pn++XaU)) I4 hN hj hl hfn fun s5 I5=>hQ _ _ ⟨_,H',(I5.ofHandler hok).ofPn,q⟩
 |ret u=>obtain⟨_,_,_,_,_,z⟩:=z;exact False.elim z
 |brk=>obtain⟨_,_,_,z⟩:=z;exact False.elim z
 |cont=>obtain⟨_,_,_,z⟩:=z;exact False.elim z
def Hj (cm:W.exmOne X.K (.ref C) (.ref B)=some true)(hst:X.stack=X.env::X.outer)(hfr:X.env.frame=some X.env.locals)(hg:Gl X x)(hm:X.mg x=some (.ref B))
 (hN:X.N.Nodup) (hj:X.N[j]?=some n) (hl:X.env.scope.names.lookup n=some .local\/(X.env.scope.names.lookup n=some .cell/\X.fn n=true))
 (hb:∀D pn,PSs (MV X (EHc C th D X.N.length j) pn) body (tb D)) (hh:∀e pn,PSs (W4 X e pn) (b0::suite) (th e)) (hd:(x==("__debug__" : Str))=false:=by decide) :
 PS X (.Try body (.ExceptHandler (some (.Name x np)) (some n) (b0::suite) hpos::rest) [] [] pos) (GM tb):=by
 intro XaU s σ H D I h;have I1:Qq (MV X (EHc C th D X.N.length j) (X.pn++XaU)) [] σ H s:=I.toPn.wish _;refine wpAny_Try_except (wpAny_mono (hb D (X.pn++XaU) [] s σ H D I1 h) (fun fl s1 q=>?_) fun v s1 q=>?_)
 ·have q':=SP.ofPn q
  cases fl with
  |next=>exact wpAny_execs_nil q'
  |ret u=>exact q'
  |brk=>exact q'
  |cont=>exact q'
 ·obtain⟨σ1,H1,dct,J,e,rfl,⟨T0,hT0,he,hT⟩,hq⟩:=q
  exact Aq cm I.ok hst hfr hg hm hN hj hl hh J hT0 he hT hd (fun T a b=>hq σ1 _ T J.len .nil a b) fun fl s' z=>z
end
end L2
end
namespace L2
open PySem PySem.Spec PyProof.Rows
section
variable {K:W.Frag}{ρ:Q6}{ta tb tc te:TE}{D:PEnds}{d:PyData}{dss:List (Qd)}
end
section
variable {K:W.Frag}{ρ:Q6}{ta:TE}{D:PEnds}
end
section
variable {X:Cx}
variable {C B:Addr}{th:TS}{tb:Ends->TS}{body suite:List Stmt}{b0:Stmt}{x n:Str}{j:Nat}{np hpos pos:Pos}{rest:List ExceptHandler}
end
section
variable {K:W.Frag}{ρ:Q6}{C:Addr}{f:Str}{th:TS}{tb:Ends->TS}{D:PEnds}{i j:Nat}{ta:TE}
end
section
variable {K:W.Frag}{ρ:Q6}{ta tb te:TE}{D:PEnds}{d:PyData}{dss:List (Qd)}{ds:Qd}
def Q9.freezeO {Φ:OwnP}{H0 F H:Hp}{σ:St}{i:Nat}{v:V}(hz:∀{p:Qg},Φ.ok K F H v p->Rep (frF F H p) v d)(s:Q9 K H0 F ρ σ H)(e:ρ[i]?=some (some (.own v Φ))) :
 ∃p,(∀a∈p,F a=none/\H a≠none/\H0 a=none)/\Q9 K H0 (frF F H p) (ρ.set i (some (.fz d))) σ H:=by
 obtain⟨kt,h1,h2,fp,h3,h4,h5⟩:=s;obtain⟨u,e1,rfl,ok⟩:=h3 i _ e;have hlt:=(Xg.mp e).1;have th:=fun a ha=>Φ.there ok a ha;have sm:Q2 F (frF F H (fp i)):=Y1 fun a ha=>(th a ha).1;refine⟨fp i,fun a ha=>⟨(th a ha).1,(th a ha).2,(h5 i a ha).1⟩,kt.mono sm,WR h1,by simp[h2],fun j=>if j=i then [] else fp j,fun j t' e'=>?_,fun j k b hb hc=>?_,fun j b hb=>?_⟩
 ·by_cases hj:j=i
  ·subst hj
   rw[Xk hlt]at e';cases e';refine⟨_,e1,?_,hz ok⟩;dsimp only;rw[Xd rfl]
  ·rw[Xp (Ne.symm hj)]at e'
   obtain⟨u',f1,f2⟩:=h3 j t' e';refine⟨u',f1,?_⟩;dsimp only;rw[Xb hj];exact f2.frOther sm fun a ha z=>hj (h4 j i a ha z)
 ·by_cases hj:j=i
  ·simp[hj]at hb
  ·by_cases hk:k=i
   ·simp[hk]at hc
   ·simp only[Xb hj]at hb
    simp only[Xb hk]at hc;exact h4 j k b hb hc
 ·by_cases hj:j=i
  ·simp[hj]at hb
  ·simp only[Xb hj]at hb
   exact h5 j b hb
end
end L2
section
namespace L2
open PySem PySem.Spec PyProof.Rows
def lsO (d0:PyData)(ds:Qd):OwnP where
 ok K F H v p := ∃a b x,v=.ref a/\p=[a,b]/\a≠b/\F a=none/\H a=some (.lst [x,.ref b])/\Rep F x d0/\Vb F H b ds
 there:=by
  rintro K F H v p ⟨a,b,x,rfl,rfl,_,h1,h2,_,h3,xs,h4,_⟩ c hc
  simp only[Xe,XM,or_false]at hc;rcases hc with rfl|rfl
  ·exact⟨h1,Zm h2⟩
  ·exact⟨h3,Zm h4⟩
 mono:=by
  rintro K F F' H H' v p s hF hH ⟨a,b,x,rfl,rfl,n,h1,h2,r,h3,xs,h4,h5⟩
  exact⟨a,b,x,rfl,rfl,n,hF _ (by simp),by rw[hH _ (by simp)];exact h2,r.mono s,hF _ (by simp),xs,by rw[hH _ (by simp)];exact h4,h5.mono s⟩
 uniq:=by
  rintro K F H v p q ⟨a,b,x,rfl,rfl,_,_,h2,_⟩ ⟨a',b',x',e,rfl,_,_,h2',_⟩ c hc
  cases e
  have z:=h2.symm.trans h2';simp only[Option.some.injEq,HO.lst.injEq,List.cons.injEq,V.ref.injEq,and_true]at z;rw[z.2];exact hc
section
variable {K:W.Frag}{ρ:Q6}{D:PEnds}{i j:Nat}{d0:PyData}{ds:Qd}{C:Addr}{f:Str}
def CA {e dx q:Addr}(hij:i≠j)(hi:ρ[i]?=some (some (.ol [d0])))(h:ρ[j]?=some (some (.own (.ref e) (WD C f ds e dx q))))(hn:∀v,D.nx ((ρ.set j none).set i (some (.own v (lsO d0 ds))))) :
 Q1 K (Vh (tBM K "list" VQ (QB i) (QE (tXG C (QB j) f) QP))) ρ D:=fun F0 H0 F σ H E x S c=>by
 obtain⟨kt,s1,s2,fp,h3,h4,h5⟩:=id S;obtain⟨u,u1,a,rfl,ui,fa,xs,ha,ra⟩:=h3 i _ hi;obtain⟨w,w1,rfl,wp,⟨f1,f2,f3⟩,⟨T,hT⟩,hd,ys,hq,rq⟩:=h3 j _ h;have hil:=(Xg.mp hi).1;have hjl:=(Xg.mp h).1;have ai:a∈fp i:=by rw[ui];exact Xa
 have qj:q∈fp j:=by rw[wp];simp
 have naq:a≠q:=fun z=>hij (h4 i j a ai (z▸qj));have a0:=(h5 i a ai).1;have q0:=(h5 j q qj).1
 obtain⟨x0,rfl,r0⟩:∃x0,xs=[x0]/\Rep F x0 d0:=by
  cases ra with
  |cons r1 r2=>cases r2;exact⟨_,rfl,r1⟩
 refine⟨.ref a,u1,.inl ⟨rfl,_,SqL.of ha⟩,.ref e,w1,e,dx,T,.ref q,rfl,hT,hd,a,[x0],.ref q,rfl,rfl,ha,ZT YM,?_⟩;refine c.nx F σ _ _ (x.wr a0 fa) ⟨kt,s1.upd fa,by simp[s2],fun k=>if k=i then [a,q] else if k=j then [] else fp k,fun k t ek=>?_,fun k l b hb hc=>?_,fun k b hb=>?_⟩ (hn (.ref a))
 ·by_cases hk:k=i
  ·subst hk
   rw[Xk (by simpa using hil)]at ek;cases ek;refine⟨.ref a,u1,rfl,a,q,x0,rfl,?_,naq,fa,QC,r0,f3,ys,by rw[Qs (Ne.symm naq)];exact hq,rq⟩
   simp
  ·rw[Xp (Ne.symm hk)]at ek
   by_cases hkj:k=j
   ·subst hkj
    rw[Xk hjl]at ek;cases ek
   ·rw[Xp (Ne.symm hkj)]at ek
    obtain⟨v',g1,g2⟩:=h3 k t ek;refine⟨v',g1,?_⟩;simp only[Xb hk,Xb hkj];exact g2.other fun z=>hk (h4 k i a z ai)
 ·have key:∀k b,b∈(if k=i then [a,q] else if k=j then [] else fp k)->(k=i/\(b=a\/b=q))\/(k≠i/\k≠j/\b∈fp k):=fun k b hk=>by
   by_cases z:k=i
   ·rw[Xd z]at hk;exact .inl ⟨z,by simpa using hk⟩
   ·rw[Xb z]at hk
    by_cases z':k=j
    ·rw[Xd z']at hk;cases hk
    ·rw[Xb z']at hk;exact .inr ⟨z,z',hk⟩
  rcases key k b hb with ⟨z1,m1⟩|⟨z1,z2,m1⟩
  ·rcases key l b hc with ⟨y1,_⟩|⟨y1,y2,n1⟩
   ·rw[z1,y1]
   ·rcases m1 with rfl|rfl
    ·exact Xl (h4 l i _ n1 ai) y1
    ·exact Xl (h4 l j _ n1 qj) y2
  ·rcases key l b hc with ⟨y1,n1⟩|⟨y1,y2,n1⟩
   ·rcases n1 with rfl|rfl
    ·exact Xl (h4 k i _ m1 ai) z1
    ·exact Xl (h4 k j _ m1 qj) z2
   ·exact h4 k l b m1 n1
 ·refine⟨?_,VF b ?_⟩
  ·by_cases z:k=i
   ·simp only[Xd z,Xe,XM,or_false]at hb
    rcases hb with rfl|rfl
    ·exact a0
    ·exact q0
   ·simp only[Xb z]at hb
    by_cases z':k=j
    ·simp[z']at hb
    ·simp only[Xb z']at hb
     exact(h5 k b hb).1
  ·by_cases z:k=i
   ·simp only[Xd z,Xe,XM,or_false]at hb
    rcases hb with rfl|rfl
    ·exact Zm ha
    ·exact Zm hq
   ·simp only[Xb z]at hb
    by_cases z':k=j
    ·simp[z']at hb
    ·simp only[Xb z']at hb
     exact(h5 k b hb).2
structure P6 (K:W.Frag)(mg:Str->Qf)(Y C cg ct:Addr):Prop where
 em:W.exmOne K (.ref C) (.ref Y)=some true
 my:mg "YardError"=some (.ref Y)
 gt:Kz K C
 na:Vj K C "some"
 is:Mg K C
 k1:W.kitOne K (.ref C) (.ref C)=some true
 k2:W.kitOne K (.ref C) (.type "ValueError")=some true
 kg:W.kitOne K (.ref C) (.ref cg)=some false
 kt:W.kitOne K (.ref C) (.ref ct)=some false
 m1:mg "NoGuest"=some (.ref cg)
 m2:mg "NoTime"=some (.ref ct)
end
end L2
end
section
set_option maxHeartbeats 400000
namespace L2
open PySem PySem.Spec PyProof.Rows
section
variable {X:Cx}
end
section
variable {X:Cx}
def Nu (X:Cx):List V->Hp->VK->Prop:=fun xs H Q=>X.calm=true/\∃(x:V) (ns:Ql) (M:Int),xs=[x]/\Rep H x (.list (ns.map PyData.int))/\M∈ns/\(∀a∈ns,a<=M)/\Q (.int M) H
def Lv:Zy X (.builtin "max") (Nu X):=by
 intro XaU s σ H xs us Q I r h;obtain⟨hc,x,ns,M,rfl,hx,hM,hmax,q⟩:=h;obtain⟨u,rfl,rx⟩:=Y7 r
 cases hx with
 |@lst l ys _ ha rr =>
   cases rx
   have er:=G5 rr;subst er;obtain⟨its,rv,p,hz⟩:=I.list (SqL.of (K:=X.K) ha);have hl:=p.isList;have hi:=BH rv;have hlen:its.length=ns.length:=hi.length;have hpos:0<ns.length:=Mc.mpr fun z=>by rw[z]at hM;cases hM
   have hlt:l<s.heap.objs.size:=by obtain⟨_,e,_⟩:=hl;exact Xj e
   refine call_max_walk (wpAny_pyIter_list hl ?_)
   refine⟨s.heap.objs.size,[s.heap.objs.size,l],[s.heap.objs.size],its.toArray.size,_,_,_,rfl,Walks.list (A:=X.A.in1) (I.ok.hd hc) _ l (Xr hlt) its.toArray,
    ⟨⟨_,XD _ rfl,rfl,rfl⟩,hl.push _⟩,fun b hb=>?_,by simp only[Xx];omega,CmpOf.ints_gt (fun i=>ns.getD i 0) (fun i v hP=>WP hi (by simpa using hP)),fun v h' tk hP hk=>?_⟩
   ·show b<(s.heap.push _).objs.size
    rw[W8];rcases Xe.mp hb with rfl|hb
    ·exact WA _
    ·rcases Xe.mp hb with rfl|hb
     ·exact GG hlt
     ·cases hb
   ·rw[List.getElem?_toArray]at hP
    obtain⟨t,rfl⟩:=WP hi hP;obtain⟨g1,g2⟩:=argBest_gt (fun i=>ns.getD i 0) (its.toArray.size-1);have hsz:its.toArray.size=its.length:=by simp
    generalize argBest (fun i j=>decide (ns.getD i 0 > ns.getD j 0)) (its.toArray.size-1)=k at g1 g2 ⊢;rw[hsz]at g1 g2;have hk2:k<ns.length:=by omega
    have em:ns.getD k 0=M:=by
     have h1:ns.getD k 0∈ns:=by simp[hk2]
     have h2:=hmax _ h1;obtain⟨j,hj,e⟩:=UA.mp hM;have h3:=g2 j (by omega);have h4:ns.getD j 0=M:=by simp[hj,e]
     omega
    exact⟨.int M,H,I.kept (D8 hk),⟨t,by rw[em]⟩,q⟩
end
section
variable {K:W.Frag}{ρ:Q6}{ta tb tc te:TE}{D:PEnds}
def Lf {X:Cx}{ns:Ql}{M:Int}(h:Qu K ta ρ (.list (ns.map PyData.int)))(hc:X.calm=true)(hM:M∈ns)(hm:∀a∈ns,a<=M):Qu K (tCB (Nu X) (QE ta QP)) ρ (.int M):=fun H0 F σ H Q S q =>
 h H0 F σ H _ S fun F1 H1 v x1 r1=>⟨hc,v,ns,M,rfl,r1.mono x1.fh,hM,hm,q F1 H1 _ x1 (.int _)⟩
def P9 {t:TS}(J:Q6->Prop)(h:Q1 K t ρ { nx:=J,ct:=D.ct,bk:=D.bk,rt:=D.rt })(k:∀ρ',J ρ'->D.nx ρ'):Q1 K t ρ D:=fun F0 H0 F σ H E x S C =>
 h F0 H0 F σ H E x S ⟨fun F' σ' H' ρ' x' S' hj=>C.nx F' σ' H' ρ' x' S' (k ρ' hj),C.rt,C.bk,C.ct⟩
end
def olP (ds:Qd):OwnP where
 ok K F H v p := ∃a,v=.ref a/\p=[a]/\Vb F H a ds
 there:=by
  rintro K F H v p ⟨a,rfl,rfl,h1,xs,h2,_⟩ c hc
  cases Xh.mp hc
  exact⟨h1,Zm h2⟩
 mono:=by
  rintro K F F' H H' v p s hF hH ⟨a,rfl,rfl,h1,xs,h2,h3⟩
  exact⟨a,rfl,rfl,hF _ (by simp),xs,by rw[hH _ (by simp)];exact h2,h3.mono s⟩
 uniq:=by
  rintro K F H v p q ⟨a,rfl,rfl,_⟩ ⟨a',e,rfl,_⟩ c hc
  cases e
  exact hc
def EvW (K:W.Frag)(t:TE)(ρ:Q6)(i:Nat)(Θ:Int->OT->Prop):Prop := ∀(F0 H0 F:Hp) (σ:St) (H:Hp) (Q:VK),Qx F0 H0 F H->Q9 K H0 F ρ σ H ->
 (∀F' H' n o,Θ n o->Qx F0 H0 F' H'->Q2 F F'->Q9 K H0 F' (ρ.set i (some o)) σ H'->Q (.int n) H')->t σ H Q
section
variable {K:W.Frag}{ρ:Q6}{ta te tb:TE}{t:TA}{D:PEnds}{i j:Nat}{v:V}{ds:Qd}{ts:List OT}{Θ:Int->OT->Prop}
def olP.frz {F H:Hp}{p:Qg}(ok:(olP ds).ok K F H v p):Rep (frF F H p) v (.list ds):=by
 have sm:Q2 F (frF F H p):=Y1 fun a ha=>((olP ds).there ok a ha).1;obtain⟨a,rfl,rfl,h1,xs,h2,h3⟩:=ok;exact .lst (by rw[Ym (by simp)];exact h2) (h3.mono sm)
def RV {d:PyData}{u:V}(i:Nat)(e:ρ[i]?=some (some (.own v (olP ds))))(hf:ZN d=some u)(h:Qu K te (ρ.set i (some (.fz (.list ds)))) d):Qu K te ρ d:=fun H0 F σ H Q S q=>by
 obtain⟨p,hp,S'⟩:=S.freezeO olP.frz e;exact h H0 _ σ H Q S' fun F' H' v x r=>q _ H' v (Us (fun a ha=>⟨(hp a ha).1,(hp a ha).2.1⟩) x) (r.thin hf)
def Hq {d:PyData}{k:Int}{j:Nat}(e:ρ[i]?=some (some (.own v (olP ds))))(h:Qu K te ρ d)(hi:Qu K tb ρ (.int k))(hj:ixN ds.length k=some j)(hn:D.nx (ρ.set i (some (.own v (olP (ds.set j d)))))) :
 Q1 K (ZJ te (K0 (QB i) tb UU)) ρ D:=fun F0 H0 F σ H E x S C =>
 h H0 F σ H _ S fun F1 H1 u x1 r1=>by
  obtain⟨e1,p,⟨a,rfl,rfl,o1,xs,o2,o3⟩,hp,_⟩:=(S.ext x1).writeOwn e;refine⟨_,e1,hi H0 F1 σ H1 _ (S.ext x1) fun F2 H2 y x2 r2=>?_⟩
  cases r2
  obtain⟨_,p',⟨a',ea,rfl,q1,ys,q2,q3⟩,hp',w⟩:=(S.ext (x1.trans x2)).writeOwn e
  cases ea
  obtain⟨z0,zf,_⟩:=hp' a Xa;refine⟨a,ys,k,j,rfl,rfl,q2,by rw[q3.length];exact hj,?_⟩;exact C.nx F2 σ _ _ ((x.trans (x1.trans x2)).wr z0 zf) (w _ (olP (ds.set j d)) [a] ((S.ext (x1.trans x2)).sub.upd zf) (fun c hc _=>Qs fun z=>hc (by rw[z];exact Xa)) VF ⟨a,rfl,rfl,zf,_,QC,q3.set (r1.mono x2.ff) j⟩ (fun c hc=>.inl hc)) hn
def L7 {α:Type}{Φ:α->OwnP}{N:α}{R:α->List OT->(OT->α->Prop)->Prop}{Ψ:OT->α->Prop}{E':XK}(e:ρ[i]?=some (some (.own v (Φ N))))(hA:Zn K t ρ ts)(hR:R N ts Ψ)(hn:∀r N',Ψ r N'->∃n,r=.fz (.int n)/\Θ n (.own v (Φ N'))) :
 EvW K (VA (spP K Φ R) [] E' (QE (QB i) t)) ρ i Θ:=fun F0 H0 F σ H Q x S q=>by
 obtain⟨p0,s0,_⟩:=We S x e;refine⟨_,s0,hA H0 F σ H _ S fun F1 H1 vs x1 r1=>?_⟩;obtain⟨p,s1,okp,fin⟩:=We (S.ext x1) (x.trans x1) e;refine⟨F1,v,vs++[],p,ts,N,Ψ,rfl,(S.ext x1).kt,x1.fh,by rw[Xz];exact r1,okp,hR,fun F' H' p' N' v' r qq hr xn ok' sub sok hq=>?_⟩;obtain⟨n,rfl,hΘ⟩:=hn r N' hr;obtain⟨X',S',_⟩:=fin F' H' p' N' xn ok' sub;obtain⟨_,rp⟩:=sok
 cases rp
 exact q F' H' n _ hΘ X' (x1.ff.trans xn.ff) S'
def Gg {s:TE->TS}(hw:EvW K te ρ i Θ)(hs:∀(H0 F:Hp) (σ:St) (H:Hp) (E:Ends),Q9 K H0 F ρ σ H->(∀Q:VK,(∀n H1,s (tC (.int n)) E σ H1->Q (.int n) H1)->te σ H Q)->s te E σ H)
 (hn:∀n o,Θ n o->Q1 K (s (tC (.int n))) (ρ.set i (some o)) D):Q1 K (s te) ρ D:=fun F0 H0 F σ H E x S c =>
 hs H0 F σ H E S fun Q hQ=>hw F0 H0 F σ H Q x S fun F' H' n o hΘ x' _ S'=>hQ n H' (hn n o hΘ F0 H0 F' σ H' E x' S' c)
def S8 (ha:Qu K ta ρ (.list ds))(hw:EvW K te ρ i Θ)(hn:∀n o,Θ n o->∃d,atI ds n=some d/\D.nx ((ρ.set i (some o)).set j (some (.fz d)))):Q1 K (ZJ (tOp (rIx K) ta te) (ZC j)) ρ D:=fun F0 H0 F σ H E x S c =>
 ha H0 F σ H _ S fun F1 H1 u x1 r1=>hw F0 H0 F1 σ H1 _ (x.trans x1) (S.ext x1) fun F' H' n o hΘ x' sm S'=>by
  obtain⟨d,e,hnx⟩:=hn n o hΘ
  cases r1 with
  |@lst a xs _ k1 k2 =>
    obtain⟨z,z1,z2⟩:=Uu (k2.mono sm) e;exact .inl ⟨a,xs,n,z,rfl,rfl,SqL.of (S'.sub _ _ (sm _ _ k1)),z1,c.nx F' _ H' _ x' (S'.setF z2) hnx⟩
end
section
variable {P:Program}{w:World}{K:W.Frag}{mg:Str->Qf}{base:Heap}
def Df.evP {α:Type}{Φ:α->OwnP}{x:Str}{st:Stmt}{L ps:Qh}{k:Nat}{R:α->List OT->(OT->α->Prop)->Prop}(D:Df K mg x st ps)(S:Qp L ps (Q0 st))(len:∀M ts Ψ,R M ts Ψ->ts.length+1=ps.length)
 (hret:∀(f:Addr) (cdv:Value) (A:Around) (outer:List Env) (s:Shared) (H:Hp) (E:XK) (v:V) (M:α) (ts:List OT) (Ψ:OT->α->Prop),Room k (A.deeper (envOfC x (Q0 st) s.heap.objs.size f cdv))->R M ts Ψ ->
  ∃t,PSs (Vd CX0 P w K mg base L x (Q0 st) f cdv A outer s H E).nox (Zx st) t/\EvR K t (some (.own v (Φ M))::(ts.map some++List.replicate (L.length-(ts.length+1)) none)) (fun r ρ'=>∃M',Ψ r M'/\ρ'[0]?=some (some (.own v (Φ M'))))):QD P w K mg base x ps (k+1) (spP K Φ R):=by
 obtain⟨f,fd,F,hm,hb⟩:=D.ex;refine⟨f,fd,hm,F.kp,hb,F.ok S (fun vs H Q E h=>?_) fun cdv A outer s H vs Q E hr h=>?_⟩
 ·obtain⟨F,v0,vs',p,ts,M,Ψ,e,_,_,ha,_,hR,_⟩:=h
  rw[e,Oq,ha.length];exact len _ _ _ hR
 ·obtain⟨F,v0,vs',p,ts,M,Ψ,e,kt,sm,ha,ok,hR,q⟩:=h
  subst e;obtain⟨t,h1,h2⟩:=hret f cdv A outer s H E v0 M ts Ψ hr hR
  exact⟨t,h1,B4 (R:=R) h2 kt sm ha ok q⟩
end
section
variable {X:Cx}
def KR (X:Cx):List V->Hp->VK->Prop:=fun xs H Q=>X.calm=true/\∃(x:V) (ns:Ql) (M:Int),xs=[x]/\Rep H x (.tuple (ns.map PyData.int))/\M∈ns/\(∀a∈ns,a<=M)/\Q (.int M) H
def Lg:Zy X (.builtin "max") (KR X):=by
 intro XaU s σ H xs us Q I r h;obtain⟨hc,x,ns,M,rfl,hx,hM,hmax,q⟩:=h;obtain⟨u,rfl,rx⟩:=Y7 r
 cases hx with
 |@tup l ys _ ha rr =>
   cases rx
   have er:=G5 rr;subst er;obtain⟨its,rv,hl,hz⟩:=I.tuple (SqT.of (K:=X.K) ha);have hi:=BH rv;have hlen:its.length=ns.length:=hi.length;have hpos:0<ns.length:=Mc.mpr fun z=>by rw[z]at hM;cases hM
   have hlt:l<s.heap.objs.size:=by obtain⟨_,e,_⟩:=hl;exact Xj e
   refine call_max_walk (wpAny_pyIter_tuple hl ?_)
   refine⟨s.heap.objs.size,[s.heap.objs.size,l],[s.heap.objs.size],its.toArray.size,_,_,_,rfl,Walks.tuple (A:=X.A.in1) (I.ok.hd hc) _ l (Xr hlt) its.toArray,
    ⟨⟨_,XD _ rfl,rfl,rfl⟩,hl.push _⟩,fun b hb=>?_,by simp only[Xx];omega,CmpOf.ints_gt (fun i=>ns.getD i 0) (fun i v hP=>WP hi (by simpa using hP)),fun v h' tk hP hk=>?_⟩
   ·show b<(s.heap.push _).objs.size
    rw[W8];rcases Xe.mp hb with rfl|hb
    ·exact WA _
    ·rcases Xe.mp hb with rfl|hb
     ·exact GG hlt
     ·cases hb
   ·rw[List.getElem?_toArray]at hP
    obtain⟨t,rfl⟩:=WP hi hP;obtain⟨g1,g2⟩:=argBest_gt (fun i=>ns.getD i 0) (its.toArray.size-1);have hsz:its.toArray.size=its.length:=by simp
    generalize argBest (fun i j=>decide (ns.getD i 0 > ns.getD j 0)) (its.toArray.size-1)=k at g1 g2 ⊢;rw[hsz]at g1 g2;have hk2:k<ns.length:=by omega
    have em:ns.getD k 0=M:=by
     have h1:ns.getD k 0∈ns:=by simp[hk2]
     have h2:=hmax _ h1;obtain⟨j,hj,e⟩:=UA.mp hM;have h3:=g2 j (by omega);have h4:ns.getD j 0=M:=by simp[hj,e]
     omega
    exact⟨.int M,H,I.kept (D8 hk),⟨t,by rw[em]⟩,q⟩
def Ft {K:W.Frag}{ρ:Q6}{ta:TE}{ns:Ql}{M:Int}(h:Qu K ta ρ (.tuple (ns.map PyData.int)))(hc:X.calm=true)(hM:M∈ns)(hm:∀a∈ns,a<=M):Qu K (tCB (KR X) (QE ta QP)) ρ (.int M):=fun H0 F σ H Q S q =>
 h H0 F σ H _ S fun F1 H1 v x1 r1=>⟨hc,v,ns,M,rfl,r1.mono x1.fh,hM,hm,q F1 H1 _ x1 (.int _)⟩
end
def IJ:entryFor table "proto.unchain"=some Builtin.«proto.unchain» := entryFor_of_tree (by kernel_rfl)
section
variable {prog:Program}{w:World}{A:Around}{E:Qb}{s:Shared}
def Et {it e:Addr}{x left step:Int}{oe:Obj}{vs:Array Value}{Q:Qf->Shared->Prop}(hh:A.handled=some (.ref e))(hit:IsRangeIter s.heap it x left step)(hleft:left<=0)(he:s.heap.get? e=some oe)(hd:oe.data=.fields vs)(h2:vs[2]?=some .none)
 (hQ:∀h',Heap.ExtBut it s.heap h'->Q none { s with heap:=h' }):wpAny (model prog w) A (pyNext (.ref it)) Q E s:=by
 have hT:s.TypeIs (.ref it) "range_iterator" := ⟨_,hit,rfl⟩
 unfold pyNext;refine Xc (wpAny_attempt (wpAny_callSpecial?_slot (name:=Str.ofString "__next__") hT F.slot_range_iterator_next
  (wpAny_call_entry F.slot_range_iterator_next hT F.entry_range_iterator_next ?_ (F.args_range_iterator_next_1 _))))
 show wpAny _ _ (field (.ref it) 0 >>= _) _ _ s;refine Xc (Je hit rfl (x:=rawInt x) rfl ?_);show wpAny _ _ (field (.ref it) 1 >>= _) _ _ s;refine Xc (Je hit rfl (x:=rawInt left) rfl ?_);show wpAny _ _ (field (.ref it) 2 >>= _) _ _ s;refine Xc (Je hit rfl (x:=rawInt step) rfl ?_);show wpAny _ _ (if left<=0 then _ else _) _ _ s;rw[Xd hleft];refine Xc (wpAny_rule ?_);refine Xc ?_;show wpAny _ _ (newExc (.type "StopIteration") [] >>= _) _ _ _;refine Xc ?_;simp only[newExc,newTuple];refine Xc (wpAny_newObj_type ?_ (by size_fits));refine Xc (m:=firstArgMember _ _) (wpAny_of_eq (a:=Value.none) (by first|rfl|(simp only[firstArgMember];rfl)) ?_);refine wpAny_newObj_type ?_ (by size_fits);simp only[raiseNew];refine Xc (wpAny_handled ?_)
 first|rw[show A.in1.handled=some (.ref e) from hh]|rw[hh]
 have hlt:e<s.heap.objs.size:=Xj he;have hsz:(s.heap.push { cls:=Value.type "tuple",data:=Data.seq #[] }).objs.size=s.heap.objs.size+1:=W8 _ _
 have hne:(Value.ref e != Value.ref (s.heap.push { cls:=Value.type "tuple",data:=Data.seq #[] }).objs.size)=true:=by
  rw[hsz,bne_iff_ne];intro z;injection z with z;exact Xr (GG hlt) z
 have he':((s.heap.push { cls:=Value.type "tuple",data:=Data.seq #[] }).push { cls:=Value.type "StopIteration",data:=Data.fields (#[Value.ref s.heap.objs.size,Value.none,Value.none,Value.none,Value.bool false,Value.none]++ownMembersOf (Value.type "StopIteration") []) }).get? e=some oe:=Xi _ (Xi _ he);show wpAny _ _ (if (Value.ref e != Value.ref (s.heap.push { cls:=Value.type "tuple",data:=Data.seq #[] }).objs.size)=true then _ else _) _ _ _;rw[Xd hne];refine Xc (wpAny_holding (wpAny_runValue (codeAny_builtin IJ ?_)));show wpAny _ _ (field (.ref e) 2 >>= _) _ _ _;refine Xc (Je he' hd h2 ?_);show wpAny _ _ (if (Value.none==Value.none)=true then _ else _) _ _ _;rw[Xd (by decide)];refine Xc (Xq ?_);refine Xq ?_;show wpAny _ _ (updateField (s.heap.push { cls:=Value.type "tuple",data:=Data.seq #[] }).objs.size 2 (.ref e) >>= _) _ _ _;refine Xc ?_;unfold updateField;refine Xc (wpAny_load (XD _ rfl) ?_);show wpAny _ _ (if 2<(#[Value.ref s.heap.objs.size,Value.none,Value.none,Value.none,Value.bool false,Value.none]++ownMembersOf (Value.type "StopIteration") []).size then _ else _) _ _ _;rw[Xd (by rw[Array.size_append];show 2<6+_;omega)];refine wpAny_update (XD _ rfl) (wpAny_throw ?_);refine Xc (wpAny_isInstance (T := "StopIteration") (b:=true) ⟨_,X9 _ (XD _ rfl) rfl,rfl⟩ isSubtype_stop ?_);refine Xq (hQ _ fun b o hb eb=>?_);have q:=Xi { cls:=Value.type "StopIteration",data:=Data.fields (#[Value.ref s.heap.objs.size,Value.none,Value.none,Value.none,Value.bool false,Value.none]++ownMembersOf (Value.type "StopIteration") []) } (Xi { cls:=Value.type "tuple",data:=Data.seq #[] } eb)
 rw[XW _ _ (fun z=>by
  have:=Xj eb
  have z':(s.heap.push { cls:=Value.type "tuple",data:=Data.seq #[] }).objs.size=b:=z;rw[hsz]at z';exact Xl this (by rw[<- z'];exact Nat.not_lt.mpr (Nat.le_succ _)))]
 exact q
end
def Mt (C e:Addr)(lo:Int)(n:Nat):It where
 go:=(Itr lo n).go
 stop:=fun i H=>(Itr lo n).stop i H/\∃dct T,H e=some (.ext (phF C e dct T))
 yld:=(Itr lo n).yld
theorem ET {X:Cx}{C e:Addr}{tg:Expr}(hh:X.A.handled=some (.ref e))(it:Addr)(lo:Int)(n:Nat):TurnX X tg (Mt C e lo n) [it] it (fun i h=>IsRangeIter h it (lo+(i:Nat)*1) ((n:Int)-(i:Nat)) 1) where
 mem:=by simp
 obj:=fun i h st b hb=>by
  have e:b=it:=by simpa using hb
  subst e;exact⟨_,st,fun v z=>by
   have z':Data.fields _=Data.cell v:=z
   cases z'⟩
 keep:=fun i h h' st k=>k it (by simp) _ st
 item:=by
  intro X' hP hw hK hA _ i XaU s σ H E I hf st hg;rw[<- hP,<- hw];obtain⟨f0,f1,f2,f3,f4,f5⟩:=hf it (by simp);have hg':i<n:=hg;refine wpAny_pyNext_range_item st (by omega) fun h' hit' hs'=>?_;have e1:lo+((i+1:Nat):Int)*1=lo+(i:Int)*1+1:=by push_cast;omega
  have e2:(n:Int)-((i+1:Nat):Int)=(n:Int)-(i:Int)-1:=by push_cast;omega
  have st':IsRangeIter h' it (lo+((i+1:Nat):Int)*1) ((n:Int)-((i+1:Nat):Int)) 1:=by rw[e1,e2];exact hit'
  refine⟨_,rfl,?_⟩;refine UV (n := "range_iterator") st' rfl rfl (by decide) ⟨.int (lo+i),H,I.turned (fun b o hb e=>(hs'.2 b hb).trans e) f0 f1 f3 f4 f5,?_,⟨rfl,rfl⟩,st',fun b hb=>(hf b hb).1⟩;have z:lo+(i:Int)=lo+(i:Int)*1:=by omega
  rw[z];exact⟨_,rfl⟩
 done:=by
  intro X' hP hw hK hA _ i XaU s σ H E I hf st hg;rw[<- hP,<- hw];obtain⟨f0,f1,f2,f3,f4,f5⟩:=hf it (by simp);obtain⟨hg,dct,T,he⟩:=hg;obtain⟨⟨vs,sl,hx,h1,h2⟩,_,_⟩:=I.hok e _ he;exact Et (by rw[hA];exact hh) st (by have:n<=i:=hg;omega) hx rfl h2 fun h' eb=>⟨rfl,I.turned (t':=s.toks) (fun b o hb e=>eb b o hb e) f0 f1 f3 f4 f5⟩
 self:=fun _ _ _ _ _ st h=>wpAny_pyIter_rangeiter st h
section
variable {X:Cx}{tg:Expr}
def Nq (C e:Addr)(ta:TA):TI:=fun σ H R=>ta σ H fun vs H1=>∃j:Int,vs=[.int j] /\ -(2^62)<=j/\j<2^62/\R (Mt C e 0 j.toNat) H1
def Ax {C e:Addr}{XaU:Qc}{σ:St}{H:Hp}{s:Shared}{R:It->Hp->Prop}{E:Qb}{lo hi:Int}{t u v:Tok}{tk:Nat}(hh:X.A.handled=some (.ref e))(I:Qq X XaU σ H s)(h1 : -(2^62)<=lo)(h2:lo<2^62)(h3 : -(2^62)<=hi)(h4:hi<2^62)
 (q:R (Mt C e lo (hi-lo).toNat) H):wpAny (model X.prog X.w) X.A (pyIter (.ref s.heap.objs.size)) (KI X XaU σ tg R) E { s with heap:=s.heap.push { cls:=.type "range",data:=.fields #[.int lo t,.int hi u,.int 1 v] },toks:=tk }:=by
 refine wpAny_pyIter_range (IsRange.new ..) (small_one h1 h2 h3 h4) ?_;have I1:Qq X XaU σ H { s with heap:=s.heap.push { cls:=.type "range",data:=.fields #[.int lo t,.int hi u,.int 1 v] },toks:=tk }:=I.kept fun b o e=>Xi _ e
 refine⟨(s.heap.push { cls:=.type "range",data:=.fields #[.int lo t,.int hi u,.int 1 v] }).objs.size,[(s.heap.push { cls:=.type "range",data:=.fields #[.int lo t,.int hi u,.int 1 v] }).objs.size],_,_,H,rfl,
  I1.kept (t':=tk) fun b o e=>Xi _ e,ET hh _ lo (hi-lo).toNat,?_,fun b hb=>?_,q⟩
 ·have e1:lo+((0:Nat):Int)*1=lo:=by simp
  have e2:(((hi-lo).toNat:Nat):Int)-((0:Nat):Int)=Builtin.Range.rangeSize lo hi 1:=by rw[rangeSize_one];split<;>omega
  show IsRangeIter _ _ (lo+((0:Nat):Int)*1) ((((hi-lo).toNat:Nat):Int)-((0:Nat):Int)) 1;rw[e1,e2];exact XD _ rfl
 ·have e:b=(s.heap.push { cls:=.type "range",data:=.fields #[.int lo t,.int hi u,.int 1 v] }).objs.size:=by simpa using hb
  subst e;exact I1.fpOk (Xs _) (I1.hok.fresh (Xs _))
def Sw {C e:Addr} {a:Expr} {ta:TA} {p pos:Pos} (hh:X.A.handled=some (.ref e)) (hg:Gl X "range") (hm:X.mg "range"=none) (ha:PA X [a] ta) (hs:starEach [a] X.env=[(false,eval a X.env)]:=by rfl):PIH X tg (.Call (.Name "range" p) [a] [] pos) (Nq C e ta):=by
 intro XaU s σ H R I h;refine Call_ (WN I hg hm boot_range (PyProof.Rows.callWith_type1 (QA (ha pos XaU s σ H _ I h) fun us s1 ⟨vs,H1,I1,r1,q1⟩=>?_) hs rfl));obtain⟨j,e,q1,q2,q⟩:=q1;subst e;cases r1 with
 |cons r rr =>
   cases rr
   obtain⟨t,rfl⟩:=r;exact call_range_1 (Ax hh I1 (by omega) (by omega) q1 q2 (by simpa using q))
end
def UK (C:Addr)(f:Str)(ds:Qd)(e dx q:Addr):ZP where
 ok:=fun K F v=>v=.ref e/\(∃T,F e=some (.ext (phF C e (some dx) T)))/\F dx=some (.xd [(f,.ref q)])/\∃xs,F q=some (.lst xs)/\Qw F xs ds
 mono:=by
  rintro K F F' v s ⟨rfl,⟨T,h1⟩,h2,xs,h3,h4⟩
  exact⟨rfl,⟨T,s _ _ h1⟩,s _ _ h2,xs,s _ _ h3,h4.mono s⟩
section
variable {K:W.Frag}{ρ:Q6}{C:Addr}{f:Str}{th:Addr->TS}{tb:Ends->TS}{D:PEnds}{n i j:Nat}{ta:TE}{ds:Qd}{e dx q:Addr}
def WD.fz {F F' H:Hp}{p:Qg}(h:(WD C f ds e dx q).ok K F H (.ref e) p)(s:Q2 F F')(he:∀b∈p,F' b=H b):(UK C f ds e dx q).ok K F' (.ref e):=by
 obtain⟨rfl,_,⟨T,h1⟩,h2,xs,h3,h4⟩:=h
 exact⟨rfl,⟨T,by rw[he _ (by simp)];exact h1⟩,by rw[he _ (by simp)];exact h2,xs,by rw[he _ (by simp)];exact h3,h4.mono s⟩
def Q9.excz {H0 F H:Hp}{σ:St}(S:Q9 K H0 F ρ σ H)(h:ρ[i]?=some (some (.zow (UK C f ds e dx q)))):σ[i]?=some (some (.ref e))/\(∃T,F e=some (.ext (phF C e (some dx) T)))/\F dx=some (.xd [(f,.ref q)]):=by
 obtain⟨fp,g,_⟩:=S.fp;obtain⟨v,e1,_,rfl,h1,h2,_⟩:=g i _ h
 exact⟨e1,h1,h2⟩
def Lb {c:V}{cv:Value}{b:Bool}(h:ρ[i]?=some (some (.zow (UK C f ds e dx q))))(hc:UL c=some cv)(hk:W.kitOne K (.ref C) cv=some b):Qu K (tCB (VW K C) (QE (QB i) (QE (tC c) QP))) ρ (.bool b):=fun H0 F σ H Q S k=>by
 obtain⟨e1,⟨T,h1⟩,h2⟩:=S.excz h
 exact⟨.ref e,e1,.ref e,c,cv,b,rfl,hc,.inl ⟨e,dx,T,_,rfl,S.sub _ _ h1,S.sub _ _ h2,hk⟩,k F H _ (Qx.refl S.sub) (.bl b)⟩
def AH {t:TA}{k:Int}(h:ρ[i]?=some (some (.zow (UK C f ds e dx q))))(ht:Zn K t ρ [.fz (.int k)])(h1 : -(2^62)<=k)(h2:k<2^62):EvI K (Nq C e t) ρ (ZK 0 k.toNat):=fun H0 F σ H R S r =>
 ht H0 F σ H _ S fun F1 H1 vs x1 r1=>by
  cases r1 with
  |fz a b =>
    cases b
    cases a
    obtain⟨_,⟨T,g1⟩,_⟩:=(S.ext x1).excz h;refine⟨k,rfl,h1,h2,r F1 H1 _ x1 fun F2 H2 s1 s2=>⟨⟨?_,_,T,s2 _ _ (s1 _ _ g1)⟩,fun i d hd=>?_⟩⟩
    ·rw[W2];exact Xs _
    ·obtain⟨hi,rfl⟩:=Y2 hd
     exact⟨hi,fun x H3 hy=>by
      obtain⟨rfl,rfl⟩:=hy
      exact⟨F2,Qx.refl s2,.int _⟩⟩
def Q9.freezeZX {H0 F H:Hp}{σ:St}{i:Nat}{v:V}{Φ:OwnP}{Ψ:ZP}(s:Q9 K H0 F ρ σ H)(e:ρ[i]?=some (some (.own v Φ)))
 (hz:∀{F F' H:Hp} {p:Qg},Φ.ok K F H v p->Q2 F F'->(∀b∈p,F' b=H b)->Ψ.ok K F' v) :
 ∃p,(∀a∈p,F a=none/\H a≠none/\H0 a=none)/\Q9 K H0 (frF F H p) (ρ.set i (some (.zow Ψ))) σ H:=by
 obtain⟨kt,h1,h2,fp,h3,h4,h5⟩:=s;obtain⟨u,e1,rfl,ok⟩:=h3 i _ e;have hlt:=(Xg.mp e).1;have th:=fun a ha=>Φ.there ok a ha;have sm:Q2 F (frF F H (fp i)):=Y1 fun a ha=>(th a ha).1;refine⟨fp i,fun a ha=>⟨(th a ha).1,(th a ha).2,(h5 i a ha).1⟩,kt.mono sm,WR h1,by simp[h2],fun j=>if j=i then [] else fp j,fun j t' e'=>?_,fun j k b hb hc=>?_,fun j b hb=>?_⟩
 ·by_cases hj:j=i
  ·subst hj
   rw[Xk hlt]at e';cases e';refine⟨_,e1,?_,hz ok sm fun b hb=>Ym hb⟩;dsimp only;rw[Xd rfl]
  ·rw[Xp (Ne.symm hj)]at e'
   obtain⟨u',f1,f2⟩:=h3 j t' e';refine⟨u',f1,?_⟩;dsimp only;rw[Xb hj];exact f2.frOther sm fun a ha z=>hj (h4 j i a ha z)
 ·by_cases hj:j=i
  ·simp[hj]at hb
  ·by_cases hk:k=i
   ·simp[hk]at hc
   ·simp only[Xb hj]at hb
    simp only[Xb hk]at hc;exact h4 j k b hb hc
 ·by_cases hj:j=i
  ·simp[hj]at hb
  ·simp only[Xb hj]at hb
   exact h5 j b hb
def CU {t:TE}{fs:Qd}(i:Nat)(h:ρ[i]?=some (some (.own (.ref e) (WD C f ds e dx q))))(hf:JZ fs)(k:EvO K t (ρ.set i (some (.zow (UK C f ds e dx q)))) (.ol fs)):EvO K t ρ (.ol fs):=fun H0 F σ H Q S r=>by
 obtain⟨p,hp,S'⟩:=S.freezeZX h (fun a b c=>WD.fz a b c);refine k H0 _ σ H Q S' fun F' H' u pp x hpp ok=>?_;refine r _ H' u pp (Us (fun a ha=>⟨(hp a ha).1,(hp a ha).2.1⟩) x) hpp (Rc hf K F' _ H' u pp (fun a ha=>?_) ok)
 by_cases z:a∈p
 ·show(if a∈p then none else F' a)=none
  rw[Xd z]
 ·show(if a∈p then none else F' a)=none
  rw[Xb z];exact(ok.there a ha).1
def E3 (Φx:Qd->Prop)(hj:j<n)(hth:∀ds e dx q,Φx ds->Q1 K (th e) ((List.replicate n none).set j (some (.own (.ref e) (WD C f ds e dx q)))) { nx:=fun ρ'=>D.nx (ρ'.set j none),rt:=fun _=>False })
 (hz:∀(E:Ends) (F0 H0 F:Hp) (σ:St) (H:Hp),Qx F0 H0 F H->Q9 K H0 F ρ σ H->(∀F' H' e dct ds,Φx ds->Qx F H F' H'->H e=none->Fld f e F' H' H dct ds->∀(σ1:St) H'' T,σ1.length=n->Lefts C e dct H' H''->H'' T=none->T≠e->th e (Dh E j) (σ1.set j (some (.ref e))) (left C e dct T H''))->tb E E σ H):Q1 K (GM tb) ρ D:=fun F0 H0 F σ H E x S c=>by
 refine hz E F0 H0 F σ H x S fun F' H' e dct ds hds x' he fl σ1 H'' T hl hL hT hTe=>?_;obtain⟨dx,q,xs,rfl,fl⟩:=fl;have b1:H'' dx=some (.xd [(f,.ref q)]):=DO hL fl.nd fl.hd;have b2:H'' q=some (.lst xs):=DO hL fl.nq fl.hq;have nT1:dx≠T:=fun z=>by subst z;rw[hT]at b1;cases b1
 have nT2:q≠T:=fun z=>by subst z;rw[hT]at b2;cases b2
 have s1:Q2 H (left C e (some dx) T H''):=BM (.step hL hT hTe) x'.hh he;have s2:Q2 F' (left C e (some dx) T H''):=BM (.step hL hT hTe) x'.fh fl.fe;have o1:left C e (some dx) T H'' e=some (.ext (phF C e (some dx) T)):=by unfold left;rw[Qs (Ne.symm hTe),QC]
 have o2:left C e (some dx) T H'' dx=some (.xd [(f,.ref q)]):=by unfold left;rw[Qs nT1,Qs fl.nd];exact b1
 have o3:left C e (some dx) T H'' q=some (.lst xs):=by unfold left;rw[Qs nT2,Qs fl.nq];exact b2
 have X1:Qx F0 H0 F' (left C e (some dx) T H''):=x.trans ⟨s1,x'.ff,s2,x'.fr⟩;have hj':j<σ1.length:=by omega
 refine hth ds e dx q hds F0 H0 F' (σ1.set j (some (.ref e))) _ (Dh E j) X1 ⟨S.kt.mono x'.ff,s2,by simp[hl],fun k=>if k=j then [e,dx,q] else [],fun k t ek=>?_,fun k l a ha hb=>?_,fun k a ha=>?_⟩ ⟨fun F4 σ4 H4 ρ4 x4 S4 q4=>c.nx F4 _ H4 _ x4 (S4.setN none) q4,fun _ _ _ _ _ _ _ _ z=>False.elim z,fun _ _ _ _ _ _ z=>False.elim z,fun _ _ _ _ _ _ z=>False.elim z⟩
 ·by_cases hk:k=j
  ·subst hk
   rw[Xk (by simpa using hj)]at ek;cases ek;refine⟨.ref e,Xk hj',?_⟩;dsimp only;rw[Xd rfl];exact⟨rfl,rfl,⟨fl.fe,fl.fd,fl.fq⟩,⟨T,o1⟩,o2,xs,o3,fl.rp⟩
  ·rw[Xp (Ne.symm hk),Me]at ek
   split at ek<;>cases ek
 ·by_cases hk:k=j
  ·by_cases hm:l=j
   ·omega
   ·simp[hm]at hb
  ·simp[hk]at ha
 ·dsimp only at ha
  by_cases hk:k=j
  ·rw[Xd hk]at ha
   rcases Xe.mp ha with rfl|ha
   ·exact⟨x.hh.free he,Zm o1⟩
   ·rcases Xe.mp ha with rfl|ha
    ·exact⟨x.hh.free fl.d0,Zm o2⟩
    ·rcases Xe.mp ha with rfl|ha
     ·exact⟨x.hh.free fl.q0,Zm o3⟩
     ·cases ha
  ·simp[hk]at ha
end
section
variable {K:W.Frag}{ρ:Q6}{te:TE}{D:PEnds}{i j k:Nat}{Θ:Int->OT->Prop}{r:R2}{c:V}{Ψ:OT->Q6->Prop}
def Tm {s:TE->TS}(hw:EvW K te ρ i Θ)(hs:∀(H0 F:Hp) (σ:St) (H:Hp) (E:Ends),Q9 K H0 F ρ σ H->(∀Q:VK,(∀n H1,s (tC (.int n)) E σ H1->Q (.int n) H1)->te σ H Q)->s te E σ H)
 (hn:∀n o,Θ n o->EvR K (s (tC (.int n))) (ρ.set i (some o)) Ψ):EvR K (s te) ρ Ψ:=fun F0 H0 F σ H E x S c =>
 hs H0 F σ H E S fun Q hQ=>hw F0 H0 F σ H Q x S fun F' H' n o hΘ x' _ S'=>hQ n H' (hn n o hΘ F0 H0 F' σ H' E x' S' c)
def BB (hw:EvW K te ρ i Θ)(hn:∀n o,Θ n o->D.nx ((ρ.set i (some o)).set j (some (.fz (.int n))))):Q1 K (ZJ te (ZC j)) ρ D :=
 Gg (s:=fun x=>ZJ x (ZC j)) hw (fun _ _ _ _ _ _ h=>h _ fun _ _ q=>q) fun n o h=>Zu Q8 (hn n o h)
def RW (hw:EvW K te ρ i Θ)(hn:∀n o,Θ n o->Q1 K (ZJ (tOp r (tC c) (tC (.int n))) (ZC j)) (ρ.set i (some o)) D):Q1 K (ZJ (tOp r (tC c) te) (ZC j)) ρ D :=
 Gg (s:=fun x=>ZJ (tOp r (tC c) x) (ZC j)) hw (fun _ _ _ _ _ _ h=>h _ fun _ _ q=>q) hn
def Ct {d:PyData}(ek:ρ[k]?=some (some (.fz d)))(hw:EvW K te ρ i Θ)(hn:∀n o,Θ n o->Q1 K (ZJ (tOp r (QB k) (tC (.int n))) (ZC j)) (ρ.set i (some o)) D):Q1 K (ZJ (tOp r (QB k) te) (ZC j)) ρ D :=
 Gg (s:=fun x=>ZJ (tOp r (QB k) x) (ZC j)) hw (fun H0 F σ H E S h=>by
  obtain⟨fp,g,_⟩:=S.fp;obtain⟨v',e1,_⟩:=g k _ ek
  exact⟨v',e1,h _ fun n H1 ⟨v'',e2,q⟩=>by rw[e1]at e2;cases e2;exact q⟩) hn
def Lz {g:TG}{b:TS}(hw:EvW K te ρ i Θ)(hn:∀n o,Θ n o->Q1 K (JI (US (QE (tOp r (tC c) (tC (.int n))) QP)) g b) (ρ.set i (some o)) D):Q1 K (JI (US (QE (tOp r (tC c) te) QP)) g b) ρ D :=
 Gg (s:=fun x=>JI (US (QE (tOp r (tC c) x) QP)) g b) hw (fun _ _ _ _ _ _ h=>h _ fun _ _ q=>q) hn
def Lx {b:Nat}{ds:Qd}{d:PyData}{r2:List V->Hp->VK->Prop}{r3:R2}(eb:ρ[b]?=some (some (.ol ds)))(ek:ρ[k]?=some (some (.fz d)))(hw:EvW K te ρ i Θ)
 (hn:∀n o,Θ n o->Q1 K (Vh (tBM K "list" VQ (QB b) (QE (tOp r (QB k) (tCB r2 (QE (tOp r3 (tC (.int n)) (tC c)) QP))) QP))) (ρ.set i (some o)) D) :
 Q1 K (Vh (tBM K "list" VQ (QB b) (QE (tOp r (QB k) (tCB r2 (QE (tOp r3 te (tC c)) QP))) QP))) ρ D :=
 Gg (s:=fun x=>Vh (tBM K "list" VQ (QB b) (QE (tOp r (QB k) (tCB r2 (QE (tOp r3 x (tC c)) QP))) QP))) hw (fun H0 F σ H E S h=>by
  obtain⟨fp,g,_⟩:=S.fp;obtain⟨v',e1,_⟩:=g k _ ek;obtain⟨u,e2,a,rfl,_,_,xs,ha,_⟩:=g b _ eb;refine⟨.ref a,e2,.inl ⟨rfl,_,SqL.of ha⟩,v',e1,h _ fun n H1 ⟨u2,e3,_,v2,e4,q⟩=>?_⟩;rw[e2]at e3;cases e3;rw[e1]at e4;cases e4;exact q) hn
def Fm {a1 a2 a3 a4:Nat}{d1 d2 d3 d4:PyData}(e1:ρ[a1]?=some (some (.fz d1)))(e2:ρ[a2]?=some (some (.fz d2)))(e3:ρ[a3]?=some (some (.fz d3)))(e4:ρ[a4]?=some (some (.fz d4)))(hw:EvW K te ρ i Θ)
 (hn:∀n o,Θ n o->EvR K (Yk (Jj (QE (QB a1) (QE (QB a2) (QE (QB a3) (QE (QB a4) (QE (tOp r (tC c) (tC (.int n))) QP))))))) (ρ.set i (some o)) Ψ) :
 EvR K (Yk (Jj (QE (QB a1) (QE (QB a2) (QE (QB a3) (QE (QB a4) (QE (tOp r (tC c) te) QP))))))) ρ Ψ :=
 Tm (s:=fun x=>Yk (Jj (QE (QB a1) (QE (QB a2) (QE (QB a3) (QE (QB a4) (QE (tOp r (tC c) x) QP))))))) hw (fun H0 F σ H E S h=>by
  obtain⟨fp,g,_⟩:=S.fp;obtain⟨v1,f1,_⟩:=g a1 _ e1;obtain⟨v2,f2,_⟩:=g a2 _ e2;obtain⟨v3,f3,_⟩:=g a3 _ e3;obtain⟨v4,f4,_⟩:=g a4 _ e4;refine⟨v1,f1,v2,f2,v3,f3,v4,f4,h _ fun n H1 ⟨u1,k1,u2,k2,u3,k3,u4,k4,q⟩=>?_⟩;rw[f1]at k1;cases k1;rw[f2]at k2;cases k2;rw[f3]at k3;cases k3;rw[f4]at k4;cases k4;exact q) hn
end
section
variable {prog:Program}{w:World}{A:Around}{E:Qb}{s:Shared}
end
section
variable {X:Cx}{pos:Pos}
end
def Pj {K:W.Frag}{ρ:Q6}{ta:TE}{t:TA}{ts:List OT}{R:Qd->List OT->(OT->Qd->Prop)->Prop}{Φ1 Φ:OT->Prop}{E':XK}(h:Zl K ta ρ Φ1)(hA:Zn K t ρ ts)(hR:∀r,Φ1 r->∃ds Ψ,r=.ol ds/\R ds ts Ψ/\∀r ds',Ψ r ds'->Φ r) :
 Zl K (VA (spP K olP R) [] E' (QE ta t)) ρ Φ:=fun H0 F σ H Q S q =>
 h H0 F σ H _ S fun F1 H1 u p r0 hr0 x1 hp ok=>by
  obtain⟨ds,Ψ,rfl,hR,hn⟩:=hR r0 hr0;refine hA H0 F1 σ H1 _ (S.ext x1) fun F2 H2 vs x2 r2=>?_;have ok2:=ok.ext x2;obtain⟨a,rfl,rfl,ol⟩:=ok2;have x12:=x1.trans x2;have ha:H a=none:=hp a Xa;refine⟨F2,.ref a,vs++[],[a],ts,ds,Ψ,rfl,(S.ext x12).kt,x2.fh,by rw[Xz];exact r2,⟨a,rfl,rfl,ol⟩,hR,fun F' H' p' N' v' r qq hr xn ok' sub sok hq=>?_⟩;refine q F' H' v' qq r (hn r N' hr) ⟨fun b o hb=>?_,x12.ff.trans xn.ff,xn.fh,fun b hb=>?_⟩ (fun b hb=>?_) sok
  ·refine xn.hh b o (fun z=>?_) (x12.hh b o hb)
   cases Xh.mp z
   rw[ha]at hb;cases hb
  ·rcases xn.fr b hb with z|z|z
   ·exact x12.fr b z
   ·exact .inr (x12.hh.free z)
   ·cases Xh.mp z;exact .inr ha
  ·rcases(hq b hb).1 with z|z
   ·cases Xh.mp z;exact ha
   ·exact x12.hh.free z
section
variable {K:W.Frag}{ρ:Q6}{te ty tv:TE}{t:TA}{D:PEnds}{i j:Nat}{v:V}{C:Addr}{N:HandS}{m:Str}{ts:List OT}
def HandOk.setGone {F H:Hp}{a dx k g d m:Addr}{y:V}{xs:List (Key×V)}{as:Qg}(ok:HandOk C N F H a dx k g d m y xs as){ns:QX}{zs:List (Key×V)}(hr:PairK F zs ns) :
 HandOk C { N with gone:=ns } F (upd H d (.dK zs)) a dx k g d m y zs as:=by
 obtain⟨nd,⟨i1,i2⟩,⟨o1,o2⟩,yd,⟨k1,kx,k2,k3⟩,⟨g1,gx,g2,g3⟩,⟨d1,d2,d3⟩,⟨m1,m2,m3⟩⟩:=ok;have nd':=nd;simp only[XF,Xe,not_or]at nd';obtain⟨⟨a1,a2,a3,a4,_⟩,⟨b1,b2,b3,_⟩,⟨c1,c2,_⟩,⟨f1,_⟩,⟨h1,h2⟩,_⟩:=nd'
 exact⟨nd,⟨i1,by rw[Qs a4];exact i2⟩,⟨o1,by rw[Qs b3];exact o2⟩,yd,⟨k1,kx,by rw[Qs c2];exact k2,k3⟩,⟨g1,gx,by rw[Qs f1];exact g2,g3⟩,⟨d1,QC,hr⟩,⟨m1,by rw[Qs (Ne.symm h1)];exact m2,m3.other h2⟩⟩
def FW {k:Key}{d:PyData}(c:HandC K C)(e:ρ[i]?=some (some (.own v (QM C N))))(hv:Qu K tv ρ d)(hy:Qu K ty ρ (JJ k))(hz:N.gone.length<sizeLine)
 (hn:D.nx (ρ.set i (some (.own v (QM C { N with gone:=Wt N.gone k d }))))):Q1 K (GX (ZL K (QB i) "gone") ty tv) ρ D:=fun F0 H0 F σ H E x S C' =>
 hv H0 F σ H _ S fun F1 H1 u x1 r1=>by
  obtain⟨a,dx,kk,g,d,m,y,xs,as,rfl,e1,ok,_⟩:=(S.ext x1).hand e;refine⟨_,e1,a,C,dx,_,.ref d,rfl,ok.ins.2,c.cl,c.go,rfl,hy H0 F1 σ H1 _ (S.ext x1) fun F2 H2 y2 x2 r2=>?_⟩;obtain⟨a',dx',k',g',d',m',y',xs',as',ea,g1,ok',hp,wr⟩:=(S.ext (x1.trans x2)).hand e
  cases ea
  obtain⟨rfl,rfl,rfl,rfl,rfl,rfl⟩:=ok.same ok' ((x2.hh _ _ ok.ins.2).trans ok.ins.2.symm);obtain⟨q1,q2,q3⟩:=ok'.gone;have hr0:=hp d' (by simp);rw[B6 r2];refine⟨d',_,rfl,Wq.k q2 (by rw[q3.length];exact hz),?_⟩;exact C'.nx F2 σ _ _ ((x.trans (x1.trans x2)).wr hr0.1 hr0.2.1) (wr _ _ y' _ as' ((S.ext (x1.trans x2)).sub.upd hr0.2.1) (fun b hb _=>Qs fun z=>hb (by rw[z];simp)) VF (ok'.setGone (q3.put k (r1.mono x2.ff))) (fun b hb=>.inl hb)) hn
def Cj {R:HandS->List OT->(OT->HandS->Prop)->Prop}{Ψ:OT->HandS->Prop}{E':XK}(hm:NoH m)(e:ρ[i]?=some (some (.own v (QM C N))))(hA:Zn K t ρ ts)(hR:R N ts Ψ)
 (hn:∀r N',Ψ r N'->D.nx (ρ.set i (some (.own v (QM C N'))))):Q1 K (Vh (ZY C m (spP K (QM C) R) [] E' (QB i) t)) ρ D:=fun F0 H0 F σ H E x S C'=>by
 obtain⟨p0,s0,ok0,_⟩:=We S x e;obtain⟨a0,dx,y,n,k,g,d,e',rfl,h1⟩:=QM.at ok0;refine⟨.ref a0,s0,a0,dx,_,rfl,h1,hm _ _ _ _ _ _,hA H0 F σ H _ S fun F2 H2 vs x2 r2=>?_⟩;obtain⟨p,s1,okp,fin⟩:=We (S.ext x2) (x.trans x2) e;refine⟨F2,_,vs++[],p,ts,N,Ψ,rfl,(S.ext x2).kt,x2.fh,by rw[Xz];exact r2,okp,hR,fun F' H' p' N' v' r q hr xn ok' sub sok hq=>?_⟩;obtain⟨X',S',_⟩:=fin F' H' p' N' xn ok' sub;exact C'.nx F' σ H' _ X' S' (hn r N' hr)
end
section
variable {P:Program}{w:World}{K:W.Frag}{mg:Str->Qf}{base:Heap}
def Mf.evP {α:Type}{Φ:α->OwnP}{C:Addr}{m qual:Str}{st:Stmt}{L ps:Qh}{k:Nat}{R:α->List OT->(OT->α->Prop)->Prop}(D:Mf K C m qual st ps)(S:Qp L ps (Q0 st))(len:∀M ts Ψ,R M ts Ψ->ts.length+1=ps.length)
 (hret:∀(f:Addr) (cdv:Value) (A:Around) (outer:List Env) (s:Shared) (H:Hp) (E:XK) (v:V) (M:α) (ts:List OT) (Ψ:OT->α->Prop),Room k (A.deeper (envOfC qual (Q0 st) s.heap.objs.size f cdv))->R M ts Ψ ->
  ∃t,PSs (Vd CX0 P w K mg base L qual (Q0 st) f cdv A outer s H E).nox (Zx st) t/\EvR K t (some (.own v (Φ M))::(ts.map some++List.replicate (L.length-(ts.length+1)) none)) (fun r ρ'=>∃M',Ψ r M'/\ρ'[0]?=some (some (.own v (Φ M'))))):Zv P w K mg base C m ps (k+1) (spP K Φ R):=by
 obtain⟨f,fd,F,hm,hb⟩:=D.ex;refine⟨f,fd,hm,hb,F.ok S (fun vs H Q E h=>?_) fun cdv A outer s H vs Q E hr h=>?_⟩
 ·obtain⟨F,v0,vs',p,ts,M,Ψ,e,_,_,ha,_,hR,_⟩:=h
  rw[e,Oq,ha.length];exact len _ _ _ hR
 ·obtain⟨F,v0,vs',p,ts,M,Ψ,e,kt,sm,ha,ok,hR,q⟩:=h
  subst e;obtain⟨t,h1,h2⟩:=hret f cdv A outer s H E v0 M ts Ψ hr hR
  exact⟨t,h1,B4 (R:=R) h2 kt sm ha ok q⟩
end
section
variable {K:W.Frag}{ρ:Q6}{D:PEnds}{i:Nat}{v:V}{C:Addr}
end
section
variable {K:W.Frag}{ρ:Q6}{D:PEnds}{i j:Nat}{v:V}{C:Addr}{N:HandS}{t:TA}{ts:List OT}{te:TE}{R:HandS->List OT->(OT->HandS->Prop)->Prop}{R2:List OT->(OT->Prop)->Prop}{E':XK}
def M3 (K:W.Frag)(t:TE)(ρ:Q6)(i:Nat)(Θ:PyData->OT->Prop):Prop := ∀(F0 H0 F:Hp) (σ:St) (H:Hp) (Q:VK),Qx F0 H0 F H->Q9 K H0 F ρ σ H ->
 (∀F' H' d w o,Θ d o->ZN d=some w->Qx F0 H0 F' H'->Q2 F F'->Q9 K H0 F' (ρ.set i (some o)) σ H'->Q w H')->t σ H Q
def Dz {s:TE->TS}{Θ:PyData->OT->Prop}(hw:M3 K te ρ i Θ)(hs:∀(H0 F:Hp) (σ:St) (H:Hp) (E:Ends),Q9 K H0 F ρ σ H->(∀Q:VK,(∀w H1,s (tC w) E σ H1->Q w H1)->te σ H Q)->s te E σ H)
 (hn:∀d w o,Θ d o->ZN d=some w->Q1 K (s (tC w)) (ρ.set i (some o)) D):Q1 K (s te) ρ D:=fun F0 H0 F σ H E x S c =>
 hs H0 F σ H E S fun Q hQ=>hw F0 H0 F σ H Q x S fun F' H' d w o hΘ hf x' _ S'=>hQ w H' (hn d w o hΘ hf F0 H0 F' σ H' E x' S' c)
def Sk {Θ:PyData->OT->Prop}(e:ρ[i]?=some (some (.own v (QM C N))))(hA:Zn K t ρ ts)
 (hs:(∃Ψ,R N ts Ψ/\∀r N',Ψ r N'->∃d dd w,r=.ol (d::dd)/\ZN d=some w/\Θ d (.own v (QM C N'))) \/
  (∃Φ,R2 (.zow (QJ C N)::ts) Φ/\∀r,Φ r->∃v' d w dd,r=.own v' (lsO d dd)/\ZN d=some w/\Θ d (.own v (QM C N)))) :
 M3 K (tOp (rIx K) (VA (GK K C R R2) [] E' (QE (QB i) t)) (tC (.int 0))) ρ i Θ:=fun F0 H0 F σ H Q x S q=>by
 have hil:=(Xg.mp e).1;obtain⟨p0,s0,_⟩:=We S x e;refine⟨_,s0,hA H0 F σ H _ S fun F1 H1 vs x1 r1=>?_⟩;have S1:=S.ext x1;have X1:=x.trans x1;obtain⟨p,s1,okp,fin⟩:=We S1 X1 e
 rcases hs with ⟨Ψ,hR,hΨ⟩|⟨Φ,hR,hΦ⟩
 ·refine .inl ⟨F1,_,vs++[],p,ts,N,Ψ,rfl,S1.kt,x1.fh,by rw[Xz];exact r1,okp,hR,fun F' H' p' N' v' r qq hr xn ok' sub sok hq=>?_⟩
  obtain⟨d,dd,w,rfl,hf,hΘ⟩:=hΨ r N' hr;obtain⟨X',S',_⟩:=fin F' H' p' N' xn ok' sub;obtain⟨b,rfl,rfl,b1,zs,b2,b3⟩:=sok
  cases b3 with
  |@cons z zs' _ _ z1 z2 =>
    have ew:=z1.flat hf;subst ew;exact .inl ⟨b,_,0,z,rfl,rfl,SqL.of b2,Yn (j:=0) rfl,q F' H' d z _ hΘ hf X' (x1.ff.trans xn.ff) S'⟩
 ·obtain⟨pf,hpf,Sf⟩:=S1.freezeZ e (fun a b c=>QM.fz a b c)
  obtain⟨fp,g1,_⟩:=Sf.fp;obtain⟨v2,f1,_,zok⟩:=g1 i _ (Xk hil);rw[s1]at f1;cases f1;have smf:Q2 F1 (frF F1 H1 pf):=Y1 fun a ha=>(hpf a ha).1;refine .inr ⟨frF F1 H1 pf,_,Φ,Sf.kt,Sf.sub,.zow (Ψ:=QJ C N) zok (by show Args K _ (vs++[]) ts;rw[Xz];exact r1.mono smf),hR,fun F4 H4 v' qq r hr x4 hq' sok=>?_⟩;obtain⟨v'',d,w,dd,rfl,hf,hΘ⟩:=hΦ r hr;have xt:=Us (fun a ha=>⟨(hpf a ha).1,(hpf a ha).2.1⟩) x4;obtain⟨_,a,b,z,rfl,rfl,nab,fa,ha,rz,_⟩:=sok;have ew:=rz.flat hf;subst ew;refine .inl ⟨a,_,0,z,rfl,rfl,SqL.of ha,Yn (j:=0) rfl,q _ H4 d z _ hΘ hf (X1.trans xt) (x1.ff.trans xt.ff) ?_⟩
  have ze:ρ.set i (some (.own v (QM C N)))=ρ:=by
   apply List.ext_getElem?
   intro k;by_cases hk:k=i
   ·subst hk;rw[Xk hil,e]
   ·rw[Xp (Ne.symm hk)]
  rw[ze];exact S1.ext xt
end
end L2
end
namespace L2
open PySem PySem.Spec PyProof.Rows
section
variable {prog:Program}{w:World}{A:Around}{E:Qb}{s:Shared}
end
section
variable {X:Cx}{e:Expr}{te:TE}{lo hi:Option Expr}{se:Expr}{tl th ts:TO}{pos p2:Pos}
end
section
variable {K:W.Frag}{ρ:Q6}{te:TE}
end
end L2
namespace Mir
section
variable {m:Nat}{w:Qn}{g:(Qm)->Int}
end
end Mir
namespace Mir
end Mir
section
namespace L2
open PySem PySem.Spec PyProof.Rows
def Rs:bootBuiltins "dict"=some (.type "dict"):=by decide +kernel
def MR:List V->Hp->VK->Prop:=fun vs H Q=>∃a kvs,vs=[.ref a]/\H a=some (.dK kvs)/\∀p,H p=none->Q (.ref p) (upd H p (.dK kvs))
def Sn {X:Cx}:Zy X (.type "dict") MR:=by
 intro XaU s σ H xs us Q I r h;obtain⟨a,kvs,rfl,ha,q⟩:=h;obtain⟨u,rfl,ru⟩:=Y7 r
 cases ru
 exact Ch I (.of ha) fun p s' hp I'=>⟨.ref p,_,I',rfl,q p hp⟩
section
variable {K:W.Frag}{ρ:Q6}{ty tv te tb:TE}{t:TA}{D:PEnds}{i j:Nat}{v u:V}{C:Addr}{N:HandS}{m:Str}{ts:List OT}{kvs:QX}
def Q9.absorb {H0 F H:Hp}{σ:St}{Φ Φj:OwnP}(s:Q9 K H0 F ρ σ H)(hij:i≠j)(e:ρ[i]?=some (some (.own v Φ)))(ej:ρ[j]?=some (some (.own u Φj))) :
 σ[i]?=some (some v)/\σ[j]?=some (some u)/\∃p q,Φ.ok K F H v p/\Φj.ok K F H u q/\(∀a∈p,H0 a=none/\F a=none/\H a≠none)/\(∀a∈q,H0 a=none/\F a=none/\H a≠none)/\(∀a∈q,a∉p) /\
  ∀(H':Hp) (Φ':OwnP) (p':Qg),Q2 F H'->(∀b,b∉p->b∉q->H b≠none->H' b=H b)->(∀b,H b≠none->H' b≠none)->Φ'.ok K F H' v p'->(∀a∈p',a∈p\/a∈q\/(H a=none/\H0 a=none)) ->
   Q9 K H0 F ((ρ.set j none).set i (some (.own v Φ'))) σ H':=by
 obtain⟨kt,h1,h2,fp,h3,h4,h5⟩:=s;obtain⟨v',e1,rfl,e2⟩:=h3 i _ e;obtain⟨u',f1,rfl,f2⟩:=h3 j _ ej;refine⟨e1,f1,fp i,fp j,e2,f2,fun a ha=>⟨(h5 i a ha).1,(Φ.there e2 a ha).1,(h5 i a ha).2⟩,fun a ha=>⟨(h5 j a ha).1,(Φj.there f2 a ha).1,(h5 j a ha).2⟩,fun a ha hb=>hij (h4 j i a ha hb).symm,fun H' Φ' p' sm kp st ok sub=>?_⟩;have hlt:=(Xg.mp e).1;have hlj:=(Xg.mp ej).1;refine⟨kt,sm,by simp[h2],fun k=>if k=i then p' else if k=j then [] else fp k,fun k t' e'=>?_,fun k l a ha hb=>?_,fun k a ha=>?_⟩
 ·by_cases hk:k=i
  ·subst hk
   rw[Xk (by simpa using hlt)]at e';cases e';refine⟨_,e1,rfl,?_⟩;simp only[if_true];exact ok
  ·rw[Xp (Ne.symm hk)]at e'
   by_cases hj:k=j
   ·subst hj
    rw[Xk hlj]at e';cases e'
   ·rw[Xp (Ne.symm hj)]at e'
    obtain⟨u',g1,g2⟩:=h3 k t' e';refine⟨u',g1,?_⟩;simp only[Xb hk,Xb hj];exact g2.keep fun b hb=>kp b (fun z=>hk (h4 k i b hb z)) (fun z=>hj (h4 k j b hb z)) (h5 k b hb).2
 ·have key:∀{k l:Nat} {a:Addr},k≠i->a∈(if k=j then ([]:Qg) else fp k)->a∈p'->False:=fun{k l a} hk ha hb=>by
   by_cases hj:k=j
   ·rw[Xd hj]at ha;exact nomatch ha
   ·rw[Xb hj]at ha
    rcases sub a hb with z|z|z
    ·exact hk (h4 k i a ha z)
    ·exact hj (h4 k j a ha z)
    ·exact(h5 k a ha).2 z.1
  by_cases hk:k=i
  ·by_cases hl:l=i
   ·omega
   ·simp only[Xd hk]at ha
    simp only[Xb hl]at hb;exact(key (l:=0) hl hb ha).elim
  ·simp only[Xb hk]at ha
   by_cases hl:l=i
   ·simp only[Xd hl]at hb
    exact(key (l:=0) hk ha hb).elim
   ·simp only[Xb hl]at hb
    by_cases hj:k=j
    ·rw[Xd hj]at ha;exact nomatch ha
    ·by_cases hj':l=j
     ·rw[Xd hj']at hb;exact nomatch hb
     ·rw[Xb hj]at ha
      rw[Xb hj']at hb;exact h4 k l a ha hb
 ·by_cases hk:k=i
  ·simp only[Xd hk]at ha
   rcases sub a ha with z|z|z
   ·exact⟨(h5 i a z).1,st a (h5 i a z).2⟩
   ·exact⟨(h5 j a z).1,st a (h5 j a z).2⟩
   ·exact⟨z.2,(Φ'.there ok a ha).2⟩
  ·simp only[Xb hk]at ha
   by_cases hj:k=j
   ·rw[Xd hj]at ha;exact nomatch ha
   ·rw[Xb hj]at ha
    exact⟨(h5 k a ha).1,st a (h5 k a ha).2⟩
def Fu {k m n:Int}(c:HandC K C)(e:ρ[i]?=some (some (.own v (QM C N))))(hi:Qu K tb ρ (.int k))(h0:0<=k)(hm:N.given[k.toNat]?=some m)(h:Qu K te ρ (.int n))
 (hn:D.nx (ρ.set i (some (.own v (QM C { N with given:=N.given.set k.toNat (m+n) }))))):Q1 K (GV (ZL K (QB i) "given") tb te (GY K) (ipI fun a b=>a+b) UU) ρ D:=fun F0 H0 F σ H E x S C'=>by
 obtain⟨a,dx,kk,g,d,m',y,xs,as,rfl,e1,ok,_⟩:=S.hand e;refine⟨_,e1,a,C,dx,_,.ref g,rfl,ok.ins.2,c.cl,c.gv,rfl,hi H0 F σ H _ S fun F1 H1 y1 x1 r1=>?_⟩
 cases r1
 obtain⟨_,rx,r2,r3⟩:=ok.given;have hm':(N.given.map PyData.int)[k.toNat]?=some (.int m):=by rw[Xt,hm];rfl
 obtain⟨z,z1,z2⟩:=(r3.mono x1.ff).get hm';refine⟨g,rx,k,z,rfl,rfl,SqL.of (x1.hh _ _ r2),h0,z1,h H0 F1 σ H1 _ (S.ext x1) fun F2 H2 u x2 r2'=>?_⟩
 cases r2'
 cases z2
 refine⟨m,n,rfl,rfl,?_⟩;obtain⟨a',dx',k',g',d',m'',y',xs',as',ea,g1,ok',hp,wr⟩:=(S.ext (x1.trans x2)).hand e
 cases ea
 obtain⟨rfl,rfl,rfl,rfl,rfl,rfl⟩:=ok.same ok' (((x1.trans x2).hh _ _ ok.ins.2).trans ok.ins.2.symm);obtain⟨q1,qx,q2,q3⟩:=ok'.given;have hlt:k.toNat<N.given.length:=(Xg.mp hm).1
 have hr:Qw F2 (qx.set k.toNat (.int (m+n))) ((N.given.set k.toNat (m+n)).map PyData.int):=by
  rw[List.map_set];exact q3.set (.int _) _
 have hr0:=hp g' (by simp);refine⟨g',qx,k,k.toNat,rfl,rfl,q2,?_,?_⟩
 ·rw[q3.length,Xm]
  unfold ixN;rw[Xd h0,Xd (by omega)]
 ·exact C'.nx F2 σ _ _ ((x.trans (x1.trans x2)).wr hr0.1 hr0.2.1) (wr _ _ y' xs' as' ((S.ext (x1.trans x2)).sub.upd hr0.2.1) (fun b hb _=>Qs fun z=>hb (by rw[z];simp)) VF (ok'.setGiven hr) (fun b hb=>.inl hb)) hn
theorem MadeD.len {F H:Hp}:∀{as:Qg} {ms:List QX},MadeD F H as ms->as.length=ms.length
 |_,_,.nil=>rfl
 |_,_,.cons _ _ _ t=>by simp[t.len]
theorem MadeD.snoc {F H:Hp}{b:Addr}{xs:List (Key×V)}{ms:List QX}(h1:F b=none)(h2:H b=some (.dK xs))(h3:PairK F xs kvs):∀{as:Qg} {ms:List QX},MadeD F H as ms->MadeD F H (as++[b]) (ms++[kvs])
 |_,_,.nil=>.cons h1 h2 h3 .nil
 |_,_,.cons g1 g2 g3 t=>.cons g1 g2 g3 (MadeD.snoc (ms:=ms) h1 h2 h3 t)
def HandOk.addMade {F H:Hp}{a dx k g d m b:Addr}{y:V}{xs zs:List (Key×V)}{as:Qg}(ok:HandOk C N F H a dx k g d m y xs as)(hb:b∉a::dx::k::g::d::m::as)(h1:F b=none)(h2:H b=some (.dK zs))(h3:PairK F zs kvs) :
 HandOk C { N with made:=N.made++[kvs] } F (upd H m (.lst ((as++[b]).map V.ref))) a dx k g d m y xs (as++[b]):=by
 obtain⟨nd,⟨i1,i2⟩,⟨o1,o2⟩,yd,⟨k1,kx,k2,k3⟩,⟨g1,gx,g2,g3⟩,⟨d1,d2,d3⟩,⟨m1,m2,m3⟩⟩:=ok;have nd':=nd;simp only[XF,Xe,not_or]at nd';obtain⟨⟨a1,a2,a3,a4,a5,a6⟩,⟨b1,b2,b3,b4,b5⟩,⟨c1,c2,c3,c4⟩,⟨f1,f2,f3⟩,⟨u1,u2⟩,w1,w2⟩:=nd';simp only[Xe,not_or]at hb;obtain⟨n1,n2,n3,n4,n5,n6,n7⟩:=hb
 have nd2:(a::dx::k::g::d::m::(as++[b])).Nodup:=by
  have e:a::dx::k::g::d::m::(as++[b])=(a::dx::k::g::d::m::as)++[b]:=rfl;rw[e,U7];refine⟨nd,by simp,fun z hz z' hz'=>?_⟩;rw[Xh.mp hz'];rintro rfl;simp only[Xe]at hz;rcases hz with h|h|h|h|h|h|h
  ·exact n1 h
  ·exact n2 h
  ·exact n3 h
  ·exact n4 h
  ·exact n5 h
  ·exact n6 h
  ·exact n7 h
 refine⟨nd2,⟨i1,by rw[Qs a5];exact i2⟩,⟨o1,by rw[Qs b4];exact o2⟩,yd,⟨k1,kx,by rw[Qs c3];exact k2,k3⟩,⟨g1,gx,by rw[Qs f2];exact g2,g3⟩,⟨d1,by rw[Qs u1];exact d2,d3⟩,⟨m1,QC,?_⟩⟩
 exact(m3.snoc (ms:=N.made) h1 h2 h3).other fun z=>by
  rcases XG.mp z with z|z
  ·exact w1 z
  ·exact n6 (Xh.mp z).symm
def HandOk.setNow {F H:Hp}{a dx k g d m:Addr}{y:V}{xs:List (Key×V)}{as:Qg}(ok:HandOk C N F H a dx k g d m y xs as)(n:Int) :
 HandOk C { N with now:=n } F (upd H a (.ins C dx (hfs y n k g d m))) a dx k g d m y xs as:=by
 obtain⟨nd,⟨i1,i2⟩,⟨o1,o2⟩,yd,⟨k1,kx,k2,k3⟩,⟨g1,gx,g2,g3⟩,⟨d1,d2,d3⟩,⟨m1,m2,m3⟩⟩:=ok;have nd':=nd;simp only[XF,Xe,not_or]at nd';obtain⟨⟨a1,a2,a3,a4,a5,a6⟩,_⟩:=nd'
 exact⟨nd,⟨i1,QC⟩,⟨o1,by rw[Qs (Ne.symm a1)];exact o2⟩,yd,⟨k1,kx,by rw[Qs (Ne.symm a2)];exact k2,k3⟩,⟨g1,gx,by rw[Qs (Ne.symm a3)];exact g2,g3⟩,⟨d1,by rw[Qs (Ne.symm a4)];exact d2,d3⟩,⟨m1,by rw[Qs (Ne.symm a5)];exact m2,m3.other a6⟩⟩
def Aw {Ψ:OT->Q6->Prop}(hj:0≠j)(c:HandC K C)(e0:ρ[0]?=some (some (.own v (QM C N))))(ej:ρ[j]?=some (some (.own u (dkP kvs))))(hl:N.made.length<1000)
 (hr:∀w,Ψ (.own w (dkP kvs)) ((ρ.set j none).set 0 (some (.own v (QM C { N with made:=N.made++[kvs],now:=N.now+1 }))))) :
 EvR K (VV (Vh (tBM K "list" VQ (ZL K (QB 0) "made") (QE (QB j) QP))) (VV (R8 K (QB 0) (tC (.int 1)) K8 "present") (Yk (tCB MR (QE (QB j) QP))))) ρ Ψ:=fun F0 H0 F σ H E x S kk=>by
 obtain⟨s0,sj,p,q,okp,okq,hp,hq,hd,wr⟩:=S.absorb hj e0 ej;obtain⟨a,dx,k,g,d,m,y,xs,as,rfl,rfl,ok⟩:=okp;obtain⟨b,zs,rfl,rfl,b1,b2,b3⟩:=okq;have hb:b∉a::dx::k::g::d::m::as:=hd b Xa;have al:as.length=N.made.length:=ok.made.2.2.len;have nd:=ok.nd;simp only[XF,Xe,not_or]at nd;have am:a≠m:=nd.1.2.2.2.2.1;have hpm:=hp m (by simp);have hpa:=hp a (by simp);have ok1:=ok.addMade hb b1 b2 b3;have ok2:=ok1.setNow (N.now+1)
 have nb:b≠a/\b≠m:=by
  simp only[Xe,not_or]at hb;exact⟨hb.1,hb.2.2.2.2.2.1⟩
 refine⟨_,s0,a,C,dx,_,.ref m,rfl,ok.ins.2,c.cl,c.md,rfl,.inl ⟨rfl,_,SqL.of ok.made.2.1⟩,_,sj,m,_,_,rfl,rfl,ok.made.2.1,by rw[Xm,al];exact ZT (by omega),?_⟩;have em:as.map V.ref++[V.ref b]=(as++[b]).map V.ref:=by rw[Xy];rfl
 rw[em];refine⟨_,s0,a,C,dx,_,.int N.now,rfl,ok1.ins.2,c.cl,c.pr,rfl,N.now,1,rfl,rfl,dx,_,ok1.ins.2,by show 6<1000;decide,?_⟩;have ef:Vv "present" (.int (N.now+1)) (hfs y N.now k g d m)=hfs y (N.now+1) k g d m:=rfl;rw[ef];generalize hH1:upd H m (.lst ((as++[b]).map V.ref))=H1 at ok1 ok2;generalize hH2:upd H1 a (.ins C dx (hfs y (N.now+1) k g d m))=H2 at ok2;have e2:∀z,z≠a->z≠m->H2 z=H z:=fun z z1 z2=>by rw[<- hH2,Qs z1,<- hH1,Qs z2]
 have X1:Qx F0 H0 F H1:=by rw[<- hH1];exact x.wr hpm.1 hpm.2.1
 have X2:Qx F0 H0 F H2:=by rw[<- hH2];exact X1.wr hpa.1 hpa.2.1
 have th1:∀z,H z≠none->H1 z≠none:=by rw[<- hH1];exact VF
 have th2:∀z,H1 z≠none->H2 z≠none:=by rw[<- hH2];exact VF
 have S2:=wr H2 (QM C { N with made:=N.made++[kvs],now:=N.now+1 }) (a::dx::k::g::d::m::(as++[b])) X2.fh
  (fun z z1 _ _=>e2 z (fun h=>z1 (by rw[h];simp)) (fun h=>z1 (by rw[h];simp))) (fun z hz=>th2 z (th1 z hz)) ⟨a,dx,k,g,d,m,y,xs,as++[b],rfl,rfl,ok2⟩ (fun z hz=>by
   have ee:a::dx::k::g::d::m::(as++[b])=(a::dx::k::g::d::m::as)++[b]:=rfl;rw[ee]at hz;rcases XG.mp hz with hz|hz
   ·exact .inl hz
   ·exact .inr (.inl hz))
 refine⟨_,sj,b,zs,rfl,(e2 b nb.1 nb.2).trans b2,fun r hr'=>?_⟩;have X3:Qx F H2 F (upd H2 r (.dK zs)):=Qx.own S2.sub hr';have hr0:H0 r=none:=X2.hh.free hr';refine kk F σ _ _ (.ref r) (.own (.ref r) (dkP kvs)) [r] (X2.trans X3) (S2.ext X3) ⟨rfl,r,zs,rfl,rfl,S2.sub.free hr',QC,b3⟩ (fun z hz=>by rw[Xh.mp hz];exact hr0) (fun z hz u' t' q' f1 f2 ok' hq'=>?_) (hr _);rw[Xh.mp hz]at hq';obtain⟨fp,g1,g2,g3⟩:=S2.fp;obtain⟨v2,h1,h2⟩:=g1 0 _ f1;rw[f2]at h1;cases h1
 exact(g3 0 r (Uo (K:=K) (h2.ext X3) ok' r hq')).2 hr'
def Td {t:TS}{Ψ:OT->Q6->Prop}(i:Nat){r:OT}{d:PyData}(e:ρ[i]?=some (some r))(ed:GS r=some d)(h:EvR K t (ρ.set i (some (.fz d))) Ψ):EvR K t ρ Ψ:=fun F0 H0 F σ H E x S C=>by
 obtain⟨p,hp,S'⟩:=S.freezeG e ed;refine h F0 H0 _ σ H E ⟨x.hh,x.ff.trans (Y1 fun a ha=>(hp a ha).1),S'.sub,fun a ha=>?_⟩ S' C
 by_cases z:a∈p
 ·exact .inr (hp a z).2.2
 ·rw[Yb z]at ha;exact x.fr a ha
end
def dlP (kss:List QX):OwnP where
 ok K F H v p := ∃a as,v=.ref a/\p=a::as/\(a::as).Nodup/\F a=none/\H a=some (.lst (as.map V.ref))/\MadeD F H as kss
 there:=by
  rintro K F H v p ⟨a,as,rfl,rfl,nd,h1,h2,h3⟩ b hb
  rcases Xe.mp hb with rfl|hb
  ·exact⟨h1,Zm h2⟩
  ·exact h3.mem b hb
 mono:=by
  rintro K F F' H H' v p s hF hH ⟨a,as,rfl,rfl,nd,h1,h2,h3⟩
  exact⟨a,as,rfl,rfl,nd,hF a Xa,by rw[hH a Xa];exact h2,h3.mono s (fun b hb=>hF b (Xf _ hb)) (fun b hb=>hH b (Xf _ hb))⟩
 uniq:=by
  rintro K F H v p q ⟨a,as,rfl,rfl,nd,h1,h2,h3⟩ ⟨a',as',e,rfl,nd',h1',h2',h3'⟩ c hc
  cases e
  have j:=h2.symm.trans h2';injection j with j;injection j with j;rw[BA j];exact hc
def JT (kvs:QX):Prop := ∀x∈kvs,∃k n,x.1=.inl k/\x.2=.int n
def Mn (xs:List (Key×V)):Prop := ∀p∈xs,∃k n,p.1=.inl k/\p.2=.int n
def PairK.ints {F:Hp}{xs:List (Key×V)}{kvs:QX}(h:PairK F xs kvs)(hf:JT kvs):Mn xs:=by
 induction h with
 |nil=>exact fun p hp=>nomatch hp
 |@cons k x d xs kvs r t ih =>
   intro p hp;rcases Xe.mp hp with rfl|hp
   ·obtain⟨k0,n,e0,e⟩:=hf _ Xa
    have e:d=.int n:=e;subst e;cases r
    exact⟨k0,n,e0,rfl⟩
   ·exact ih (fun x hx=>hf x (Xf _ hx)) p hp
def PairK.one {F:Hp}{xs:List (Key×V)}{kvs:QX}(hf:JT kvs)(h:PairK F xs kvs):∀{ys:List (Key×V)},PairK F ys kvs->xs=ys:=by
 induction h with
 |nil =>
   intro ys h';cases h'
   rfl
 |@cons k x d xs kvs r t ih =>
   intro ys h';obtain⟨k0,n,e0,e⟩:=hf _ Xa;have e:d=.int n:=e;subst e;cases h' with
   |cons r' t' =>
     cases r
     cases r'
     rw[ih (fun x hx=>hf x (Xf _ hx)) t']
def FF {xs:List (Key×V)}(nd:(xs.map (·.1)).Nodup):∀p∈xs,Zs xs p.1=some p.2:=by
 induction xs with
 |nil=>exact fun p hp=>nomatch hp
 |cons q xs ih =>
   intro p hp;rw[Xu,XF]at nd;rcases Xe.mp hp with rfl|hp
   ·exact Yq rfl
   ·rw[Yp fun z=>nd.1 (by rw[z];exact XJ.mpr ⟨p,hp,rfl⟩)]
    exact ih nd.2 p hp
def PF {A:Around}{s:Shared}{kb:List (Key×Value)}{xs:List (Key×V)}{ka:List (Key×Value)}(r:KV xs ka)(h:∀p∈xs,∃n t,p.2=.int n/\valueAt kb p.1=some (.int n t)):W.KeqHits A s kb ka true:=by
 unfold KV at r;induction r with
 |nil=>exact .nil
 |@cons p q ps qs hh t ih =>
   obtain⟨h1,h2⟩:=hh;obtain⟨n,tk,e1,e2⟩:=h p Xa;rw[e1]at h2;obtain⟨tk',e3⟩:=h2;obtain⟨k,v⟩:=q;have e3:v=.int n tk':=e3;have h1:p.1=k:=h1;subst e3;rw[h1]at e2;have eq:=SeqAt.EqAt.int_int (A:=A) (s:=s) n tk' n tk;rw[show(n==n)=true by simp]at eq;exact .hit e2 eq (ih fun p' hp'=>h p' (Xf _ hp'))
section
variable {X:Cx}{XaU:Qc}{σ:St}{H:Hp}{s:Shared}
def RT {P P':Program}{w w':World}{h:Heap}{a:Addr}{vs:List (Key×Value)}(d:h.DictOf (ZD P w) a vs)(hk:∀p∈vs,∃i,p.1=.inl i):h.DictOf (ZD P' w') a vs:=by
 obtain⟨o,es,ep,h1,h2,h3,h4,h5,h6⟩:=d
 have key:∀{l:List DictEntry} {ws:List (Key×Value)},Pairs (ZD P w) l ws->(∀p∈ws,∃i,p.1=.inl i)->Pairs (ZD P' w') l ws/\∀e∈l,∃i,Jq (.inl i) e.key=true:=by
  intro l ws q;induction q with
  |nil=>exact fun _=>⟨.nil,fun e he=>nomatch he⟩
  |@cons e kv es kvs q1 q2 q3 ih =>
    intro hk;obtain⟨i1,i2⟩:=ih fun p hp=>hk p (Xf _ hp);refine⟨.cons q1 q2 i1,fun e' he=>?_⟩
    rcases Xe.mp he with rfl|he
    ·obtain⟨i,ei⟩:=hk kv Xa
     refine⟨i,?_⟩;rw[<- ei];exact q1
    ·exact i2 e' he
 obtain⟨k1,k2⟩:=key h5 hk;refine⟨o,es,ep,h1,h2,h3,fun e he=>?_,k1,h6⟩;obtain⟨k,g1,g2⟩:=h4 e he;obtain⟨i,g3⟩:=k2 e (by simpa using he);have ek:k=.inl i:=(ZD P w).inj e.key k (.inl i) g1 g3;subst ek;exact⟨.inl i,g3,g2⟩
def A6 (I:Qq X XaU σ H s){a b:Addr}{xs:List (Key×V)}(ha:H a=some (.dK xs))(hb:H b=some (.dK xs))(hx:Mn xs)(A:Around)(P:Program)(w:World) :
 ∃ka kb,(a==sysModules)=false/\(b==sysModules)=false/\s.heap.DictOf (ZD P w) a ka/\s.heap.DictOf (ZD P w) b kb/\ka.length=kb.length/\W.KeqHits A s kb ka true:=by
 obtain⟨z,n1,vs,rel,dd⟩:=M5 I.hok ha;obtain⟨z',n2,vs',rel',dd'⟩:=M5 I.hok hb
 have nd:(xs.map (·.1)).Nodup:=by
  rw[rel'.keys];obtain⟨_,_,_,_,_,_,_,_,q⟩:=dd';exact q
 have ks:∀{vs:List (Key×Value)},KV xs vs->∀p∈vs,∃i,p.1=.inl i:=fun{vs} r p hp=>by
  have:p.1∈xs.map (·.1):=by rw[r.keys];exact XJ.mpr ⟨p,hp,rfl⟩
  obtain⟨q,hq,e⟩:=XJ.mp this;obtain⟨k0,n,e0,_⟩:=hx q hq
  exact⟨k0,by rw[<- e,e0]⟩
 refine⟨vs,vs',n1,n2,RT dd (ks rel),RT dd' (ks rel'),rel.length.symm.trans rel'.length,PF rel fun p hp=>?_⟩;obtain⟨k0,n,e0,e⟩:=hx p hp;have r:=rel'.val p.1;rw[FF nd p hp,e]at r;cases q:valueAt vs' p.1 with
 |none=>rw[q]at r;exact r.elim
 |some v =>
   rw[q]at r;obtain⟨t,e'⟩:=(show ∃t,v=Value.int n t from r)
   exact⟨n,t,e,by rw[e']⟩
def Dn (H:Hp)(as bs:Qg):Prop:=as.length=bs.length/\∀(i:Nat) (a b:Addr),as[i]?=some a->bs[i]?=some b->∃xs,H a=some (.dK xs)/\H b=some (.dK xs)/\Mn xs
theorem HH:∀{as:Qg} {us:Qe},QV (as.map V.ref) us->us=as.map Value.ref
 |[],_,.nil=>rfl
 |a::as,_,.cons r t=>by
   cases r
   rw[HH t];rfl
def C9 (I:Qq X XaU σ H s){as bs:Qg}(h:Dn H as bs){A:Around}(hu:A.units+8<cLine) :
 (as.map Value.ref).toArray.size=(bs.map Value.ref).toArray.size/\∀j (h1:j<(as.map Value.ref).toArray.size) (h2:j<(bs.map Value.ref).toArray.size),SeqAt.EqAt A.in1 s (as.map Value.ref).toArray[j] (bs.map Value.ref).toArray[j] ((fun _=>true) j):=by
 refine⟨by simpa using h.1,fun j h1 h2=>?_⟩;have j1:j<as.length:=by simpa using h1
 have j2:j<bs.length:=by simpa using h2
 obtain⟨xs,e1,e2,e3⟩:=h.2 j as[j] bs[j] (by simp[j1]) (by simp[j2]);have q1:(as.map Value.ref).toArray[j]=.ref as[j]:=by simp
 have q2:(bs.map Value.ref).toArray[j]=.ref bs[j]:=by simp
 rw[q1,q2];by_cases hab:as[j]=bs[j]
 ·rw[hab];exact SeqAt.EqAt.same _
 ·refine SeqAt.EqAt.of_refs hab fun prog w E Q q=>?_
  obtain⟨ka,kb,n1,n2,d1,d2,hl,hh⟩:=A6 I e1 e2 e3 A.in1.in1 prog w;refine W.keq_eq (r:=true) n1 n2 d1 d2 (show A.units+1<cLine by omega) (fun _=>hh) ?_;rw[hl,beq_self_eq_true];exact q
end
section
variable {K:W.Frag}{ρ:Q6}{ty tv te tb:TE}{t:TA}{D:PEnds}{i j:Nat}{v u:V}{C:Addr}{N:HandS}{m:Str}{ts:List OT}{kvs:QX}{kss:List QX}
theorem MadeZ.len {F:Hp}:∀{as:Qg} {ms:List QX},MadeZ F as ms->as.length=ms.length
 |_,_,.nil=>rfl
 |_,_,.cons _ _ t=>by simp[t.len]
theorem MadeZ.at {F:Hp}:∀{as:Qg} {ms:List QX},MadeZ F as ms->∀(i:Nat) (a:Addr),as[i]?=some a->∃xs k,ms[i]?=some k/\F a=some (.dK xs)/\PairK F xs k
 |_,_,.nil,i,a,e=>by simp at e
 |_,_,.cons h1 h2 t,0,a,e=>by
   simp at e
   subst e;exact⟨_,_,rfl,h1,h2⟩
 |_,_,.cons h1 h2 t,i+1,a,e=>t.at i a (by simpa using e)
theorem MadeD.at {F H:Hp}:∀{as:Qg} {ms:List QX},MadeD F H as ms->∀(i:Nat) (a:Addr),as[i]?=some a->∃xs k,ms[i]?=some k/\H a=some (.dK xs)/\PairK F xs k
 |_,_,.nil,i,a,e=>by simp at e
 |_,_,.cons _ h1 h2 t,0,a,e=>by
   simp at e
   subst e;exact⟨_,_,rfl,h1,h2⟩
 |_,_,.cons _ h1 h2 t,i+1,a,e=>t.at i a (by simpa using e)
def T5 {F H:Hp}{as bs:Qg}(hk:∀k∈kss,JT k)(l1:as.length=kss.length)(l2:bs.length=kss.length)
 (h1:∀(i:Nat) (a:Addr),as[i]?=some a->∃xs k,kss[i]?=some k/\H a=some (.dK xs)/\PairK F xs k) (h2:∀(i:Nat) (a:Addr),bs[i]?=some a->∃xs k,kss[i]?=some k/\H a=some (.dK xs)/\PairK F xs k):Dn H as bs:=by
 refine⟨l1.trans l2.symm,fun i a b e1 e2=>?_⟩;obtain⟨xs,k,g1,g2,g3⟩:=h1 i a e1;obtain⟨ys,k',g1',g2',g3'⟩:=h2 i b e2;rw[g1]at g1';cases g1';have fk:=hk k (List.mem_of_getElem? g1)
 have:=g3.one fk g3'
 subst this;exact⟨xs,g2,g2',g3.ints fk⟩
end
section
variable {K:W.Frag}{ρ:Q6}{ty tv te tb:TE}{t:TA}{D:PEnds}{i j:Nat}{v u:V}{C:Addr}{N:HandS}{m:Str}{ts:List OT}{kvs:QX}{kss:List QX}
def Cu {g:CIn->TG}{tcc:CIn->TT}{tee:CIn->TE}(c:HandC K C)(e:ρ[i]?=some (some (.zow (QJ C N))))(hl:N.made.length<=1000)(hgt:∀c,g c=ZC 0)(htc:∀c,tcc c=Ws)(hte:∀c,tee c=tCB MR (QE (QB 0) QP)) :
 Zl K (tLC [none] (MB K (ZL K (QB i) "made")) g tcc tee) ρ fun r=>∃v,r=.own v (dlP N.made):=fun H0 F σ H Q S q=>by
 obtain⟨a,dx,k,gg,d,m,y,ks,gs,xs,as,s1,o⟩:=S.hz e;have sub:=S.sub;have al:as.length=N.made.length:=o.made.2.len;refine⟨_,s1,a,C,dx,_,.ref m,rfl,sub _ _ o.ins,c.cl,c.md,rfl,m,rfl,⟨_,SqL.of (sub _ _ o.made.1)⟩,fun ci=>?_⟩;refine⟨fun k mm ys H'=>mm=as.length-k/\k<=as.length/\∃bs:Qg,ys=bs.map V.ref/\bs.length=k/\Qx F H F H'/\(∀b∈bs,H b=none)/\bs.Nodup/\MadeD F H' bs (N.made.take k),⟨as.length,by simp,XN _,[],rfl,rfl,Qx.refl sub,(fun b hb=>nomatch hb),Jb,.nil⟩,?_⟩
 rintro k mm ys H' ⟨rfl,hle,bs,rfl,bl,x',bn,nd,md⟩
 have hm':H' m=some (.lst (as.map V.ref)):=x'.fh _ _ o.made.1
 by_cases hk:k<as.length
 ·have ek:(as.map V.ref)[k]?=some (.ref as[k]):=by simp[hk]
  have ec:as[k]?=some as[k]:=by simp[hk]
  refine .inr ⟨⟨_,_,SqL.of hm',ek⟩,?_⟩
  rintro v1 H3 ⟨rfl,hy⟩
  have ev:=hy _ (SqL.of hm');rw[ek]at ev;cases ev;obtain⟨zs,kv,g1,g2,g3⟩:=o.made.2.at k as[k] ec;rw[hgt ci,htc ci,hte ci];dsimp only[ZC,Ws];rw[Xd rfl];refine⟨.ref as[k],by simp[VI],as[k],zs,rfl,x'.fh _ _ g2,fun p hp=>⟨by rw[Xm,bl];exact ZT (by omega),as.length-(k+1),by omega,rfl,hk,bs++[p],by rw[Xy];rfl,by rw[Xo,bl];rfl,x'.trans (Qx.own x'.fh hp),fun b hb=>?_,?_,?_⟩⟩
  ·rcases XG.mp hb with hb|hb
   ·exact bn b hb
   ·rw[Xh.mp hb];exact x'.hh.free hp
  ·rw[U7]
   refine⟨nd,by simp,fun c hc c' hc'=>?_⟩;rw[Xh.mp hc'];rintro rfl
   exact(md.mem c hc).2 hp
  ·have ek2:N.made.take (k+1)=N.made.take k++[kv]:=by rw[JD,g1];rfl
   rw[ek2];exact MadeD.snoc (ms:=[]) (x'.fh.free hp) QC g3 (md.other fun z=>(md.mem p z).2 hp)
 ·have ee:k=as.length:=by omega
  refine .inl ⟨⟨_,SqL.of hm',by simp;omega⟩,fun p hp=>?_⟩;have X2:Qx F H' F (upd H' p (.lst (bs.map V.ref))):=Qx.own x'.fh hp;have tk:N.made.take k=N.made:=by rw[ee,al,J9]
  rw[tk]at md;have npb:p∉bs:=fun z=>(md.mem p z).2 hp;refine q F _ (.ref p) (p::bs) _ ⟨.ref p,rfl⟩ (x'.trans X2) (fun b hb=>?_) ⟨rfl,p,bs,rfl,rfl,XF.mpr ⟨npb,nd⟩,x'.fh.free hp,QC,md.other npb⟩
  rcases Xe.mp hb with rfl|hb
  ·exact x'.hh.free hp
  ·exact bn b hb
variable {d0:PyData}{ds:Qd}
end
section
variable {X:Cx}{tg:Expr}
end
section
variable {K:W.Frag}{ρ:Q6}{te ty tv:TE}{D:PEnds}{i j:Nat}{v:V}{kvs:QX}{k:Key}{d:PyData}{o:Obj}
end
def Uj (C:Addr)(f:Str):Sp:=fun vs H Q _=>∃(e:Addr) (x:V),vs=[.ref e,x]/\H e=some (.ext (phX C e none)) /\
 ∀dx,H dx=none->dx≠e->Q .non (upd (upd H e (.ext (phX C e (some dx)))) dx (.xd [(f,x)]))
def FV {C:Addr}{f:Str}{n:Nat}{vs:List V}{H:Hp}{Q:VK}{E:XK}(h:Uj C f vs H Q E) :
 VV (Vh (tXI C 0)) (sXF C (QB 0) (QB 1) f) { nx:=fun _ H'=>Q .non H',rt:=Q } (vs.map some++List.replicate n none) H:=by
 obtain⟨e,x,rfl,he,hq⟩:=h
 exact⟨e,none,rfl,he,x,rfl,.ref e,rfl,e,rfl,he,fun dx hdx hde=>hq dx hdx hde⟩
structure FldW (f:Str)(e:Addr)(F H H0:Hp)(w:V)(dx:Addr):Prop where
 hd:H dx=some (.xd [(f,w)])
 nd:dx≠e
 fe:F e=none
 fd:F dx=none
 d0:H0 dx=none
def Yt (f:Str)(e:Addr)(F H H0:Hp)(dct:Qj)(w:V):Prop := ∃dx,dct=some dx/\FldW f e F H H0 w dx
def Yt.back {f:Str}{e:Addr}{F H H0 H1:Hp}{dct:Qj}{w:V}(h:Yt f e F H H1 dct w)(s:Q2 H0 H1):Yt f e F H H0 dct w:=by
 obtain⟨dx,a,b⟩:=h
 exact⟨dx,a,b.hd,b.nd,b.fe,b.fd,s.free b.d0⟩
abbrev Yg (K:W.Frag)(C:Addr)(f:Str)(R:List OT->(OT->Prop)->Prop)(Rx:List OT->(V->Prop)->Prop):Sp:=Wm K C (Yt f) R Rx
abbrev GO (K:W.Frag)(C CR:Addr)(f:Str)(R:HandS->List OT->(OT->HandS->Prop)->Prop)(Rx:List OT->(V->Prop)->Prop):Sp:=GR K C CR (Yt f) R Rx
section
variable {K:W.Frag}{ρ:Q6}{ta te tx:TE}{t:TA}{D:PEnds}{i j:Nat}{v:V}{C CR:Addr}{N:HandS}{m f:Str}{RR:Addr->Qj->Hp->Prop}{ts:List OT}{E:XK}{F0 H0:Hp}
def SI {Φx:V->Prop}{d:PyData}{w:V}(h:Qu K ta ρ d)(hf:ZN d=some w)(hd:Φx w)(hq:∀F' H' e dct d,Φx d->Qx F0 H0 F' H'->H0 e=none->Yt f e F' H' H0 dct d->RR e dct H'):EvZ K F0 H0 (sXR C (GN C (Uj C f) E (QE ta QP)) RR) ρ:=by
 intro F σ H D x S;refine h H0 F σ H _ S fun F1 H1 u x1 rp=>⟨by simp,fun e he=>?_⟩;have eu:=rp.flat hf;subst eu;refine⟨e,u,rfl,QC,fun dx hdn hde=>⟨rfl,e,some dx,rfl,?_,?_⟩⟩
 ·rw[Qs (Ne.symm hde),QC]
 ·have hd1:H1 dx=none:=by rw[Qs hde]at hdn;exact hdn
  have sm:Q2 H1 (upd (upd (upd H1 e (.ext (phX C e none))) e (.ext (phX C e (some dx)))) dx (.xd [(f,u)])):=fun b o hb=>by
   have n1:b≠e:=fun z=>by subst z;rw[he]at hb;cases hb
   have n3:b≠dx:=fun z=>by subst z;rw[hd1]at hb;cases hb
   rw[Qs n3,Qs n1,Qs n1];exact hb
  have X1:=x.trans x1;have X2:Qx F0 H0 F1 (upd (upd (upd H1 e (.ext (phX C e none))) e (.ext (phX C e (some dx)))) dx (.xd [(f,u)])):=X1.trans ⟨sm,Q2.refl _,X1.fh.trans sm,fun b hb=>.inl hb⟩;exact hq F1 _ e (some dx) u hd X2 (X1.hh.free he) ⟨dx,rfl,QC,hde,X1.fh.free he,X1.fh.free hd1,X1.hh.free hd1⟩
def RS {R:HandS->List OT->(OT->HandS->Prop)->Prop}{Rx:List OT->(V->Prop)->Prop}{Φx:V->Prop}{H9:Hp}{E:Ends}(hm:NoH m)(e:ρ[i]?=some (some (.zow (QJ C N))))(hA:Zn K t ρ ts)(hR:Rx (.zow (QJ C N)::ts) Φx)(st:ZM CR RR)
 (hq:∀F' H' e dct d,Φx d->Qx F0 H0 F' H'->H0 e=none->Yt f e F' H' H0 dct d->RR e dct H') {F:Hp} {σ:St} {H:Hp} (x:Qx F0 H0 F H) (S:Q9 K H9 F ρ σ H) :
 ZJ (ZY C m (GO K C CR f R Rx) [] (XE CR RR) (QB i) t) (ZC j) E σ H:=by
 obtain⟨a,dx,k,g,d,m',y,ks,gs,xs,as,e1,ok⟩:=S.hz e;refine⟨_,e1,a,dx,_,rfl,x.fh _ _ ok.ins,hm _ _ _ _ _ _,hA H9 F σ H _ S fun F2 H2 vs x2 r2=>.inr ?_⟩;have X2:=x.trans x2
 exact⟨F2,_,(S.ext x2).kt,x2.fh,.zow (Ψ:=QJ C N) ((QJ C N).mono (K:=K) x2.ff ⟨a,dx,k,g,d,m',y,ks,gs,xs,as,rfl,ok⟩) (by rw[Xz];exact r2),RR,rfl,st,.inr ⟨Φx,hR,fun F' H' e dct d hd x3 he hf=>hq F' H' e dct d hd (X2.trans x3) (X2.hh.free he) (hf.back X2.hh)⟩⟩
end
def excV (C:Addr)(f:Str)(w:V)(e dx:Addr):OwnP where
 ok:=fun K F H v p=>p=[e,dx]/\(F e=none/\F dx=none)/\(∃T,H e=some (.ext (phF C e (some dx) T)))/\H dx=some (.xd [(f,w)])
 there:=fun{K F H v p} h a ha=>by
  obtain⟨rfl,⟨f1,f2⟩,⟨T,h1⟩,h2⟩:=h
  rcases Xe.mp ha with rfl|ha
  ·exact⟨f1,Zm h1⟩
  ·rcases Xe.mp ha with rfl|ha
   ·exact⟨f2,Zm h2⟩
   ·cases ha
 mono:=fun{K F F' H H' v p} s hF hH h=>by
  obtain⟨rfl,⟨f1,f2⟩,⟨T,h1⟩,h2⟩:=h;have m1:e∈[e,dx]:=Xa;have m2:dx∈[e,dx]:=Xf _ Xa
  exact⟨rfl,⟨hF _ m1,hF _ m2⟩,⟨T,(hH _ m1).trans h1⟩,(hH _ m2).trans h2⟩
 uniq:=fun{K F H v p p'} h h' a ha=>by
  obtain⟨rfl,_⟩:=h;obtain⟨rfl,_⟩:=h';exact ha
section
variable {K:W.Frag}{ρ:Q6}{C:Addr}{f:Str}{th:Addr->TS}{tb:Ends->TS}{D:PEnds}{n i j:Nat}{ta tb':TE}
def SK (Φx:V->Prop)(hj:j<n)(hth:∀w e dx,Φx w->Q1 K (th e) ((List.replicate n none).set j (some (.own (.ref e) (excV C f w e dx)))) { nx:=fun ρ'=>D.nx (ρ'.set j none),rt:=fun _=>False })
 (hz:∀(E:Ends) (F0 H0 F:Hp) (σ:St) (H:Hp),Qx F0 H0 F H->Q9 K H0 F ρ σ H->(∀F' H' e dct w,Φx w->Qx F H F' H'->H e=none->Yt f e F' H' H dct w->∀(σ1:St) H'' T,σ1.length=n->Lefts C e dct H' H''->H'' T=none->T≠e->th e (Dh E j) (σ1.set j (some (.ref e))) (left C e dct T H''))->tb E E σ H):Q1 K (GM tb) ρ D:=fun F0 H0 F σ H E x S c=>by
 refine hz E F0 H0 F σ H x S fun F' H' e dct w hds x' he fl σ1 H'' T hl hL hT hTe=>?_;obtain⟨dx,rfl,fl⟩:=fl;have b1:H'' dx=some (.xd [(f,w)]):=DO hL fl.nd fl.hd;have nT1:dx≠T:=fun z=>by subst z;rw[hT]at b1;cases b1
 have s1:Q2 H (left C e (some dx) T H''):=BM (.step hL hT hTe) x'.hh he;have s2:Q2 F' (left C e (some dx) T H''):=BM (.step hL hT hTe) x'.fh fl.fe;have o1:left C e (some dx) T H'' e=some (.ext (phF C e (some dx) T)):=by unfold left;rw[Qs (Ne.symm hTe),QC]
 have o2:left C e (some dx) T H'' dx=some (.xd [(f,w)]):=by unfold left;rw[Qs nT1,Qs fl.nd];exact b1
 have X1:Qx F0 H0 F' (left C e (some dx) T H''):=x.trans ⟨s1,x'.ff,s2,x'.fr⟩;have hj':j<σ1.length:=by omega
 refine hth w e dx hds F0 H0 F' (σ1.set j (some (.ref e))) _ (Dh E j) X1 ⟨S.kt.mono x'.ff,s2,by simp[hl],fun k=>if k=j then [e,dx] else [],fun k t ek=>?_,fun k l a ha hb=>?_,fun k a ha=>?_⟩ ⟨fun F4 σ4 H4 ρ4 x4 S4 q4=>c.nx F4 _ H4 _ x4 (S4.setN none) q4,fun _ _ _ _ _ _ _ _ z=>False.elim z,fun _ _ _ _ _ _ z=>False.elim z,fun _ _ _ _ _ _ z=>False.elim z⟩
 ·by_cases hk:k=j
  ·subst hk
   rw[Xk (by simpa using hj)]at ek;cases ek;refine⟨.ref e,Xk hj',?_⟩;dsimp only;rw[Xd rfl];exact⟨rfl,rfl,⟨fl.fe,fl.fd⟩,⟨T,o1⟩,o2⟩
  ·rw[Xp (Ne.symm hk),Me]at ek
   split at ek<;>cases ek
 ·by_cases hk:k=j
  ·by_cases hm:l=j
   ·omega
   ·simp[hm]at hb
  ·simp[hk]at ha
 ·dsimp only at ha
  by_cases hk:k=j
  ·rw[Xd hk]at ha
   rcases Xe.mp ha with rfl|ha
   ·exact⟨x.hh.free he,Zm o1⟩
   ·rcases Xe.mp ha with rfl|ha
    ·exact⟨x.hh.free fl.d0,Zm o2⟩
    ·cases ha
  ·simp[hk]at ha
variable {w:V}{e dx:Addr}
def Q9.excV {H0 F H:Hp}{σ:St}{v:V}(S:Q9 K H0 F ρ σ H)(h:ρ[i]?=some (some (.own v (excV C f w e dx)))):σ[i]?=some (some v)/\(∃T,H e=some (.ext (phF C e (some dx) T)))/\H dx=some (.xd [(f,w)]):=by
 obtain⟨kt,h1,h2,fp,h3,h4,h5⟩:=S;obtain⟨u,e1,hu,hp,⟨f1,f2⟩,hT,hd⟩:=h3 i _ h;subst hu;exact⟨e1,hT,hd⟩
def Bb {c:V}{cv:Value}{b:Bool}(h:ρ[i]?=some (some (.own (.ref e) (excV C f w e dx))))(hc:UL c=some cv)(hk:W.kitOne K (.ref C) cv=some b):Qu K (tCB (VW K C) (QE (QB i) (QE (tC c) QP))) ρ (.bool b):=fun H0 F σ H Q S k=>by
 obtain⟨e1,⟨T,h1⟩,h2⟩:=S.excV h
 exact⟨.ref e,e1,.ref e,c,cv,b,rfl,hc,.inl ⟨e,dx,T,_,rfl,h1,h2,hk⟩,k F H _ (Qx.refl S.sub) (.bl b)⟩
def Ny {d:PyData}(h:ρ[i]?=some (some (.own (.ref e) (excV C f w e dx))))(hf:∀F,Rep F w d):Qu K (tXG C (QB i) f) ρ d:=fun H0 F σ H Q S k=>by
 obtain⟨e1,⟨T,h1⟩,h2⟩:=S.excV h
 exact⟨.ref e,e1,e,dx,T,w,rfl,h1,h2,k F H _ (Qx.refl S.sub) (hf F)⟩
end
section
variable {K:W.Frag}{ρ:Q6}{D:PEnds}{i:Nat}{v:V}{C:Addr}{N:HandS}{t:TA}{ts:List OT}{R:HandS->List OT->(OT->HandS->Prop)->Prop}{R2:List OT->(OT->Prop)->Prop}{E':XK}
end
structure P5 (K:W.Frag)(mg:Str->Qf)(Y C:Addr):Prop where
 em:W.exmOne K (.ref C) (.ref Y)=some true
 my:mg "YardError"=some (.ref Y)
 gt:Kz K C
 na:Vj K C "number"
 is:Mg K C
 k1:W.kitOne K (.ref C) (.ref C)=some true
 k2:W.kitOne K (.ref C) (.type "ValueError")=some true
section
variable {P:Program}{w:World}{K:W.Frag}{mg:Str->Qf}{base:Heap}{C CR:Addr}
def Mf.evZ {m qual:Str}{st:Stmt}{N ps:Qh}{k:Nat}{δ:Type}{FL:Addr->Hp->Hp->Hp->Qj->δ->Prop}{R:List OT->(OT->Prop)->Prop}{Rx:List OT->(δ->Prop)->Prop}(D:Mf K C m qual st ps)(S:Qp N ps (Q0 st))(len:∀ts Φ,R ts Φ->ts.length=ps.length)(lenx:∀ts Φ,Rx ts Φ->ts.length=ps.length)
 (hpn:ps.length<=N.length)
 (hret:∀(f:Addr) (cdv:Value) (A:Around) (outer:List Env) (s:Shared) (H:Hp) RR (ts:List OT) (Φ:OT->Prop),Room k (A.deeper (envOfC qual (Q0 st) s.heap.objs.size f cdv))->ZM CR RR->R ts Φ ->
  ∃t,PSs (cx1 P w K mg base N qual (Q0 st) f cdv A outer s H (XE CR RR)) (Zx st) t/\Q1 K t (ts.map some++List.replicate (N.length-ts.length) none) { nx:=fun _=>Φ (.fz .none),rt:=Φ })
 (hexc:∀(f:Addr) (cdv:Value) (A:Around) (outer:List Env) (s:Shared) (F H:Hp) RR (ts:List OT) (Φx:δ->Prop),Room k (A.deeper (envOfC qual (Q0 st) s.heap.objs.size f cdv))->ZM CR RR->(∀F' H' e dct d,Φx d->Qx F H F' H'->H e=none->FL e F' H' H dct d->RR e dct H')->Rx ts Φx ->
  ∃t,PSs (cx1 P w K mg base N qual (Q0 st) f cdv A outer s H (XE CR RR)) (Zx st) t/\EvZ K F H t (ts.map some++List.replicate (N.length-ts.length) none)) :
 Vf P w K mg base C m ps (k+1) (Wm K CR FL R Rx):=by
 obtain⟨f,fd,F,hm,hb⟩:=D.ex;refine⟨f,fd,hm,hb,F.okX S (fun vs H Q E ⟨F,ts,_,_,ha,RR,_,_,q⟩=>?_) fun cdv A outer s H vs Q E hr ⟨F,ts,kt,sm,ha,RR,eE,st,q⟩=>?_⟩
 ·rcases q with ⟨r,hR,_⟩|⟨r,hR,_⟩
  ·exact ha.length.trans (len ts r hR)
  ·exact ha.length.trans (lenx ts r hR)
 ·subst eE
  rcases q with ⟨Φ,hR,q⟩|⟨Φx,hR,q⟩
  ·obtain⟨t,h1,h2⟩:=hret f cdv A outer s H RR ts Φ hr st hR
   refine⟨t,h1,h2 F H F (start N vs) H _ (Qx.refl sm) (Um (ps:=ps) kt sm ha (by rw[len ts Φ hR];exact hpn)) ⟨fun F' σ' H' ρ' x' _ e=>?_,fun F' H' v r' p x' hp ok e=>?_,fun _ _ _ _ _ _ z=>False.elim z,fun _ _ _ _ _ _ z=>False.elim z⟩⟩
   ·exact q F' H' _ [] _ e x' (fun _ z=>nomatch z) ⟨rfl,.non⟩
   ·exact q F' H' v p r' e x' hp ok
  ·obtain⟨t,h1,h2⟩:=hexc f cdv A outer s F H RR ts Φx hr st q hR
   exact⟨t,h1,h2 F (start N vs) H _ (Qx.refl sm) (Um (ps:=ps) kt sm ha (by rw[lenx ts Φx hR];exact hpn))⟩
end
section
variable {K:W.Frag}{ρ:Q6}{t:TA}{D:PEnds}{i j:Nat}{v:V}{C CR:Addr}{N:HandS}{m f:Str}{RR:Addr->Qj->Hp->Prop}{ts:List OT}{F0 H0:Hp}{δ:Type}{FL:Addr->Hp->Hp->Hp->Qj->δ->Prop}{R:List OT->(OT->Prop)->Prop}
def G6 {Rx:List OT->(δ->Prop)->Prop}{Φ:OT->Prop}(hm:NoH m)(e:ρ[i]?=some (some (.zow (QJ C N))))(h:Zn K t ρ ts)(hR:R (.zow (QJ C N)::ts) Φ)(st:ZM CR RR) :
 Zl K (ZY C m (Wm K CR FL R Rx) [] (XE CR RR) (QB i) t) ρ Φ:=fun H0 F σ H Q S q=>by
 obtain⟨a,dx,k,g,d,m',y,ks,gs,xs,as,e1,ok⟩:=S.hz e;refine⟨_,e1,a,dx,_,rfl,S.sub _ _ ok.ins,hm _ _ _ _ _ _,h H0 F σ H _ S fun F1 H1 vs x1 r1=>?_⟩
 exact⟨F1,_,(S.ext x1).kt,x1.fh,.zow (Ψ:=QJ C N) ((QJ C N).mono (K:=K) x1.ff ⟨a,dx,k,g,d,m',y,ks,gs,xs,as,rfl,ok⟩) (by rw[Xz];exact r1),RR,rfl,st,.inl ⟨Φ,hR,fun F2 H2 v p r' hr x2 hp ok'=>q F2 H2 v p r' hr (x1.trans x2) (fun b hb=>x1.hh.free (hp b hb)) ok'⟩⟩
def WT {Rx:List OT->(δ->Prop)->Prop}{d:PyData}(hm:NoH m)(e:ρ[i]?=some (some (.zow (QJ C N))))(h:Zn K t ρ ts)(hR:R (.zow (QJ C N)::ts) (fun r=>r=.fz d))(st:ZM CR RR):Qu K (ZY C m (Wm K CR FL R Rx) [] (XE CR RR) (QB i) t) ρ d:=EvO.e (Zl.o (G6 hm e h hR st))
def DX {Rx:List OT->(V->Prop)->Prop}{Φx:V->Prop}{H9:Hp}{Q:VK}(hm:NoH m)(e:ρ[i]?=some (some (.zow (QJ C N))))(hA:Zn K t ρ ts)(hR:Rx (.zow (QJ C N)::ts) Φx)(st:ZM CR RR)
 (hq:∀F' H' e dct d,Φx d->Qx F0 H0 F' H'->H0 e=none->Yt f e F' H' H0 dct d->RR e dct H') {F:Hp} {σ:St} {H:Hp} (x:Qx F0 H0 F H) (S:Q9 K H9 F ρ σ H) :
 ZY C m (Wm K CR (Yt f) R Rx) [] (XE CR RR) (QB i) t σ H Q:=by
 obtain⟨a,dx,k,g,d,m',y,ks,gs,xs,as,e1,ok⟩:=S.hz e;refine⟨_,e1,a,dx,_,rfl,x.fh _ _ ok.ins,hm _ _ _ _ _ _,hA H9 F σ H _ S fun F2 H2 vs x2 r2=>?_⟩;have X2:=x.trans x2
 exact⟨F2,_,(S.ext x2).kt,x2.fh,.zow (Ψ:=QJ C N) ((QJ C N).mono (K:=K) x2.ff ⟨a,dx,k,g,d,m',y,ks,gs,xs,as,rfl,ok⟩) (by rw[Xz];exact r2),RR,rfl,st,.inr ⟨Φx,hR,fun F' H' e dct d hd x3 he hf=>hq F' H' e dct d hd (X2.trans x3) (X2.hh.free he) (hf.back X2.hh)⟩⟩
def Ho {Rx:List OT->(V->Prop)->Prop}{Φx:V->Prop}(hm:NoH m)(e:ρ[i]?=some (some (.zow (QJ C N))))(hA:Zn K t ρ ts)(hR:Rx (.zow (QJ C N)::ts) Φx)(st:ZM CR RR)
 (hq:∀F' H' e dct d,Φx d->Qx F0 H0 F' H'->H0 e=none->Yt f e F' H' H0 dct d->RR e dct H'):EvZ K F0 H0 (Vh (ZY C m (Wm K CR (Yt f) R Rx) [] (XE CR RR) (QB i) t)) ρ:=fun F σ H E x S=>DX hm e hA hR st hq x S
def M9 {tA:TT}{th el:TS}{b:Bool}{H9 F H:Hp}{σ:St}{E:Ends}(h:Ze K tA ρ b)(x:Qx F0 H0 F H)(S:Q9 K H9 F ρ σ H)(k1:b=true->∀F' H',Qx F0 H0 F' H'->Q9 K H9 F' ρ σ H'->th E σ H')(k2:b=false->∀F' H',Qx F0 H0 F' H'->Q9 K H9 F' ρ σ H'->el E σ H'):UM tA th el E σ H :=
 h H9 F σ H _ S fun F' H' x'=>by
  cases b with
  |true=>rw[Xd rfl];exact k1 rfl F' H' (x.trans x') (S.ext x')
  |false=>rw[Xb (by decide)];exact k2 rfl F' H' (x.trans x') (S.ext x')
def AZ {R:HandS->List OT->(OT->HandS->Prop)->Prop}{Rx:List OT->(δ->Prop)->Prop}{Ψ:OT->HandS->Prop}{Θ:PyData->OT->Prop}(hm:NoH m)(e:ρ[i]?=some (some (.own v (QM C N))))(hA:Zn K t ρ ts)(hR:R N ts Ψ)(st:ZM CR RR)(hs:∀r N',Ψ r N'->∃d w,r=.fz d/\ZN d=some w/\Θ d (.own v (QM C N'))) :
 M3 K (ZY C m (GR K C CR FL R Rx) [] (XE CR RR) (QB i) t) ρ i Θ:=fun F0 H0 F σ H Q x S q=>by
 obtain⟨p0,s0,ok0,_⟩:=We S x e;obtain⟨a0,dx,y,n,k,g,d,e',rfl,h1⟩:=QM.at ok0;refine⟨.ref a0,s0,a0,dx,_,rfl,h1,hm _ _ _ _ _ _,hA H0 F σ H _ S fun F1 H1 vs x1 r1=>.inl ⟨RR,rfl,st,?_⟩⟩;have S1:=S.ext x1;obtain⟨p,s1,okp,fin⟩:=We S1 (x.trans x1) e;refine⟨F1,_,vs++[],p,ts,N,Ψ,rfl,S1.kt,x1.fh,by rw[Xz];exact r1,okp,hR,fun F' H' p' N' v' r qq hr xn ok' sub sok hq=>?_⟩;obtain⟨d,w,rfl,hf,hΘ⟩:=hs r N' hr;obtain⟨X',S',_⟩:=fin F' H' p' N' xn ok' sub;have ew:=sok.2.flat hf;subst ew;exact q F' H' d v' _ hΘ hf X' (x1.ff.trans xn.ff) S'
variable {w:V}{e dx:Addr}
def Ro {cs:Qg}{b:Bool}(h:ρ[i]?=some (some (.own (.ref e) (excV C f w e dx))))(hl:cs.length<=1000)(hk:W.kitAny K (.ref C) (cs.map Value.ref)=some b):Qu K (tCB (Mw K C) (QE (QB i) (QE (Jj (MM cs)) QP))) ρ (.bool b):=fun H0 F σ H Q S k=>by
 obtain⟨e1,⟨T,h1⟩,h2⟩:=S.excV h;refine⟨.ref e,e1,Rf ⟨by rw[Xm];exact Yr (ZT hl),fun p hp=>?_⟩⟩;have n1:e≠p:=fun z=>by subst z;rw[hp]at h1;cases h1
 have n2:dx≠p:=fun z=>by subst z;rw[hp]at h2;cases h2
 exact⟨e,dx,T,_,p,cs,b,rfl,by rw[Qs n1];exact h1,by rw[Qs n2];exact h2,SqT.of QC,hk,k F _ _ (Qx.own S.sub hp) (.bl b)⟩
end
def StZ (ds:Qd)(kss:List QX):ZP where
 ok K F v := ∃a xs b as,v=.ref a/\F a=some (.lst (xs++[.ref b]))/\Qw F xs ds/\F b=some (.lst (as.map V.ref))/\MadeZ F as kss
 mono:=by
  rintro K F F' v s ⟨a,xs,b,as,rfl,h1,h2,h3,h4⟩
  exact⟨a,xs,b,as,rfl,s _ _ h1,h2.mono s,s _ _ h3,h4.mono s⟩
def Nj (H:Hp)(x y:V):Prop:=(∃d,Rep H x d/\Rep H y d/\Vm d)\/∃a b as bs,x=.ref a/\y=.ref b/\H a=some (.lst (as.map V.ref))/\H b=some (.lst (bs.map V.ref))/\Dn H as bs
def Nr:R2:=fun x y H Q=>∃a b xs ys,x=.ref a/\y=.ref b/\H a=some (.lst xs)/\H b=some (.lst ys)/\xs.length=ys.length/\(∀(i:Nat) (u v:V),xs[i]?=some u->ys[i]?=some v->Nj H u v)/\Q (.bl false) H
section
variable {X:Cx}{XaU:Qc}{σ:St}{H:Hp}{s:Shared}
def Fn (I:Qq X XaU σ H s){x y:V}{u v:Value}(h:Nj H x y)(ru:QH x u)(rv:QH y v){A:Around}(hu:A.units+62<cLine):SeqAt.EqAt A s u v true:=by
 rcases h with ⟨d,h1,h2,fd⟩|⟨a,b,as,bs,rfl,rfl,h1,h2,sm⟩
 ·obtain⟨as,ra⟩:=h1.reads I ru
  obtain⟨bs,rb⟩:=h2.reads I rv
  have:=SeqAt.eqAt_reads d d A s u v as bs ra rb fd.1 fd.1 (by
   have h1:=fd.2;have h2:min d.depth d.depth<=d.depth:=Nat.min_le_left _ _
   omega)
  rwa [Uv fd]at this
 ·cases ru
  cases rv
  by_cases hab:a=b
  ·rw[hab];exact SeqAt.EqAt.same _
  ·refine SeqAt.EqAt.of_refs hab ?_
   obtain⟨z,its,n,r1,e⟩:=I.hok _ _ h1;obtain⟨z',its',n',r2,e'⟩:=I.hok _ _ h2;obtain rfl:=HH r1;obtain rfl:=HH r2;obtain⟨q1,q2⟩:=C9 I sm (A:=A) (by omega);have r:=SeqAt.RcAt.lists (l:=a) (b:=b) ⟨_,e,rfl,n,rfl⟩ ⟨_,e',rfl,n',rfl⟩ q1 (by omega) q2;rw[show(List.range (as.map Value.ref).toArray.size).all (fun _=>true)=true by simp]at r;exact r
def Ru {xs:List V}{us:Qe}(r:QV xs us):∀{j:Nat} {u:Value},us[j]?=some u->∃x,xs[j]?=some x/\QH x u:=by
 induction r with
 |nil=>intro j u e;simp at e
 |cons r t ih =>
   intro j u e;cases j with
   |zero =>
     simp at e
     subst e;exact⟨_,rfl,r⟩
   |succ j =>
     obtain⟨x,e1,e2⟩:=ih (by simpa using e)
     exact⟨x,by simpa using e1,e2⟩
def Fe (hu:X.A.units+64<cLine):OpR X (compareOp .NotEq) Nr:=by
 intro XaU s σ H x y v u Q I rx ry h;obtain⟨a,b,xs,ys,rfl,rfl,ha,hb,hl,sm,q⟩:=h
 cases rx
 cases ry
 obtain⟨z,its,n,rv,e⟩:=I.hok _ _ ha;obtain⟨z',its',n',rv',e'⟩:=I.hok _ _ hb;have l1:=rv.length;have l2:=rv'.length;have h1:its.toArray.size=its'.toArray.size:=by simp;omega
 have r:=SeqAt.RcNeAt.lists (l:=a) (b:=b) (e:=fun _=>true) ⟨_,e,rfl,n,rfl⟩ ⟨_,e',rfl,n',rfl⟩ h1 (show X.A.units<cLine by omega) (fun j j1 j2=>?_)
 ·rw[show(List.range its.toArray.size).all (fun _=>true)=true by simp]at r
  exact r X.prog X.w _ _ ⟨.bl false,H,I,rfl,q⟩
 ·have k1:j<its.length:=by simpa using j1
  have k2:j<its'.length:=by simpa using j2
  obtain⟨x1,f1,g1⟩:=Ru rv (j:=j) (u:=its[j]) (by simp[k1]);obtain⟨x2,f2,g2⟩:=Ru rv' (j:=j) (u:=its'[j]) (by simp[k2])
  have:=Fn I (sm j x1 x2 f1 f2) g1 g2 (A:=X.A.in1) (show X.A.units+1+62<cLine by omega)
  simpa using this
end
section
variable {K:W.Frag}{ρ:Q6}{t1 t2 t3 t4 te:TE}{D:PEnds}{j:Nat}{kss:List QX}
def Cc {d1 d3:PyData}{ds:Qd}(h1:Qu K t1 ρ d1)(h2:Qu K t2 ρ (.list ds))(h3:Qu K t3 ρ d3)(h4:Zl K t4 ρ fun r=>∃v,r=.own v (dlP kss))(hr:D.rt (.zow (StZ [d1,.list ds,d3] kss))) :
 Q1 K (Yk (WG (QE t1 (QE t2 (QE t3 (QE t4 QP)))))) ρ D:=fun F0 H0 F σ H E x S c =>
 h1 H0 F σ H _ S fun F1 H1 u1 x1 r1=>h2 H0 F1 σ H1 _ (S.ext x1) fun F2 H2 u2 x2 r2=>h3 H0 F2 σ H2 _ ((S.ext x1).ext x2) fun F3 H3 u3 x3 r3 =>
  h4 H0 F3 σ H3 _ (((S.ext x1).ext x2).ext x3) fun F4 H4 u4 p r hr' x4 hp ok=>by
   obtain⟨v,rfl⟩:=hr';have th:=fun b hb=>(dlP kss).there ok.2 b hb;obtain⟨rfl,a,as,rfl,rfl,nd,a0,a1,a2⟩:=ok;have X4:=((x.trans x1).trans x2).trans (x3.trans x4);have sF:Q2 F4 (frF F4 H4 (a::as)):=Y1 fun b hb=>(th b hb).1
   have X5:Qx F0 H0 (frF F4 H4 (a::as)) H4:=⟨X4.hh,X4.ff.trans sF,WR X4.fh,fun b hb=>by
    by_cases z:b∈a::as
    ·exact .inr (((x.trans x1).trans x2).trans x3 |>.hh.free (hp b z))
    ·rw[Yb z]at hb;exact X4.fr b hb⟩
   refine⟨Yr (ZT (by show(4:Nat)<=1000;decide)),fun z hz=>?_⟩;have hz:H4 z=none:=hz;have X6:=X5.trans (Qx.new (o:=.lst [u1,u2,u3,.ref a]) X5.fh hz);have sN:Q2 (frF F4 H4 (a::as)) (upd (frF F4 H4 (a::as)) z (.lst [u1,u2,u3,.ref a])):=Q2.new (X5.fh.free hz);have S1:=(x2.ff.trans (x3.ff.trans (x4.ff.trans sF))).trans sN;have S2:=(x3.ff.trans (x4.ff.trans sF)).trans sN;have S3:=(x4.ff.trans sF).trans sN;have mz:MadeZ (frF F4 H4 (a::as)) as kss:=a2.fz sF fun b hb=>Ym (Xf _ hb);exact c.rt _ _ (.ref z) (.zow (StZ [d1,.list ds,d3] kss)) [] X6 (fun _ q=>nomatch q) ⟨rfl,z,[u1,u2,u3],a,as,rfl,QC,.cons (r1.mono S1) (.cons (r2.mono S2) (.cons (r3.mono S3) .nil)),sN _ _ (by rw[Ym Xa];exact a1),mz.mono sN⟩ hr
theorem D5 {F:Hp}:∀{xs:List V} {ds:Qd},Qw F xs ds->∀(i:Nat) (u:V),xs[i]?=some u->∃d,ds[i]?=some d/\Rep F u d
 |_,_,.nil,i,u,e=>by simp at e
 |_,_,.cons r t,0,u,e=>by
   simp at e
   subst e;exact⟨_,rfl,r⟩
 |_,_,.cons r t,i+1,u,e=>D5 t i u (by simpa using e)
def Lj {ds:Qd}(fd:∀d∈ds,Vm d)(hk:∀k∈kss,JT k)(h:Zl K te ρ fun r=>r=.zow (StZ ds kss))(e2:ρ[j]?=some (some (.zow (StZ ds kss)))):Qu K (tOp Nr te (QB j)) ρ (.bool false):=fun H0 F σ H Q S q =>
 h H0 F σ H _ S fun F1 H1 v p r hr x1 hp ok=>by
  subst hr;obtain⟨_,a,xs,a',as,rfl,a1,a2,a3,a4⟩:=ok;obtain⟨fp,g,_⟩:=(S.ext x1).fp;obtain⟨u,s2,_,b,ys,b',bs,rfl,b1,b2,b3,b4⟩:=g j _ e2;have lx:=a2.length;have ly:=b2.length;refine⟨_,s2,a,b,_,_,rfl,rfl,x1.fh _ _ a1,x1.fh _ _ b1,by simp;omega,fun i u v f1 f2=>?_,q F1 H1 _ x1 (.bl _)⟩
  by_cases hi:i<ds.length
  ·rw[XH (by omega)]at f1 f2
   obtain⟨d,g1,g2⟩:=D5 a2 i u f1;obtain⟨d',g1',g2'⟩:=D5 b2 i v f2;rw[g1]at g1';cases g1';exact .inl ⟨d,g2.mono x1.fh,g2'.mono x1.fh,fd d (List.mem_of_getElem? g1)⟩
  ·rw[XY (by omega)]at f1 f2
   have e1:u=.ref a':=by
    have:=List.mem_of_getElem? f1
    simpa using this
   have e2:v=.ref b':=by
    have:=List.mem_of_getElem? f2
    simpa using this
   refine .inr ⟨a',b',as,bs,e1,e2,x1.fh _ _ a3,x1.fh _ _ b3,T5 (F:=F1) hk a4.len b4.len (fun i a e=>?_) (fun i a e=>?_)⟩
   ·obtain⟨xs,k,g1,g2,g3⟩:=a4.at i a e
    exact⟨xs,k,g1,x1.fh _ _ g2,g3⟩
   ·obtain⟨xs,k,g1,g2,g3⟩:=b4.at i a e
    exact⟨xs,k,g1,x1.fh _ _ g2,g3⟩
end
structure P4 (K:W.Frag)(mg:Str->Qf)(C q1 q2 q3 q4 q5 q6:Addr):Prop where
 ka:W.kitAny K (.ref C) [.ref q1,.ref q2,.ref q3,.ref q4,.ref q5,.ref q6]=some false
 m1:mg "NoGuest"=some (.ref q1)
 m2:mg "NoRoom"=some (.ref q2)
 m3:mg "NoRow"=some (.ref q3)
 m4:mg "NoText"=some (.ref q4)
 m5:mg "NoTime"=some (.ref q5)
 m6:mg "NoYard"=some (.ref q6)
def Wn (v:V)(Ψ:ZP):ZP where
 ok K F u:=u=v/\Ψ.ok K F u
 mono:=by
  rintro K F F' u s ⟨rfl,h⟩
  exact⟨rfl,Ψ.mono s h⟩
section
variable {K:W.Frag}{ρ:Q6}{i j:Nat}{v:V}{C:Addr}{N:HandS}{D:PEnds}{Ψ:ZP}
def Q9.reslot {H0 F H:Hp}{σ:St}{t t':OT}(S:Q9 K H0 F ρ σ H)(e:ρ[i]?=some (some t))(h:∀u p,σ[i]?=some (some u)->Zk K F H u t p->Zk K F H u t' p):Q9 K H0 F (ρ.set i (some t')) σ H:=by
 obtain⟨kt,h1,h2,fp,h3,h4,h5⟩:=S;have hlt:=(Xg.mp e).1;refine⟨kt,h1,by simp[h2],fp,fun k t2 ek=>?_,h4,h5⟩
 by_cases hk:k=i
 ·subst hk
  rw[Xk hlt]at ek;cases ek;obtain⟨u,e1,ok⟩:=h3 k _ e
  exact⟨u,e1,h u _ e1 ok⟩
 ·rw[Xp (Ne.symm hk)]at ek
  exact h3 k t2 ek
def Q9.unfix {H0 F H:Hp}{σ:St}(S:Q9 K H0 F ρ σ H)(e:ρ[i]?=some (some (.zow (Wn v Ψ)))):Q9 K H0 F (ρ.set i (some (.zow Ψ))) σ H:=S.reslot e fun u p _ ok=>⟨ok.1,ok.2.2⟩
def FY {t:TE}{Φ:OT->Prop}(i:Nat)(e:ρ[i]?=some (some (.zow (Wn v Ψ))))(h:Zl K t (ρ.set i (some (.zow Ψ))) Φ):Zl K t ρ Φ:=fun H0 F σ H Q S q=>h H0 F σ H Q (S.unfix e) q
def FH {t:TT}{b:Bool}(i:Nat)(e:ρ[i]?=some (some (.zow (Wn v Ψ))))(h:Ze K t (ρ.set i (some (.zow Ψ))) b):Ze K t ρ b:=fun H0 F σ H Q S q=>h H0 F σ H Q (S.unfix e) q
def Cp {t u w:TS}(h:Q1 K (VV (VV t u) w) ρ D):Q1 K (VV t (VV u w)) ρ D:=h
def CT {t:TS}{M:Q6->Prop}(i:Nat)(e:ρ[i]?=some (some (.own v (QM C N))))(h:Q1 K t (ρ.set i (some (.zow (Wn v (QJ C N))))) { nx:=M,rt:=fun _=>False })
 (hn:∀ρ',M ρ'->ρ'[i]?=some (some (.zow (Wn v (QJ C N))))/\∃ρ2:Q6,ρ2.length=ρ'.length/\ρ2[i]?=some (some (.own v (QM C N)))/\(∀j o,j≠i->ρ2[j]?=some (some o)->ρ'[j]?=some (some o)/\WB o)/\D.nx ρ2):Q1 K t ρ D:=fun F0 H0 F σ H E x S c=>by
 obtain⟨kt,h1,h2,fp,h3,h4,h5⟩:=id S;obtain⟨u,e1,rfl,ok⟩:=h3 i _ e;have hlt:=(Xg.mp e).1;have th:=fun a ha=>(QM C N).there ok a ha;have sm:Q2 F (frF F H (fp i)):=Y1 fun a ha=>(th a ha).1
 have Sf:Q9 K H0 (frF F H (fp i)) (ρ.set i (some (.zow (Wn u (QJ C N))))) σ H:=by
  refine⟨kt.mono sm,WR h1,by simp[h2],fun j=>if j=i then [] else fp j,fun j t' e'=>?_,fun j k b hb hc=>?_,fun j b hb=>?_⟩
  ·by_cases hj:j=i
   ·subst hj
    rw[Xk hlt]at e';cases e';refine⟨_,e1,?_,rfl,QM.fz ok sm fun b hb=>Ym hb⟩;dsimp only;rw[Xd rfl]
   ·rw[Xp (Ne.symm hj)]at e'
    obtain⟨u',f1,f2⟩:=h3 j t' e';refine⟨u',f1,?_⟩;dsimp only;rw[Xb hj];exact f2.frOther sm fun a ha z=>hj (h4 j i a ha z)
  ·by_cases hj:j=i
   ·simp[hj]at hb
   ·by_cases hk:k=i
    ·simp[hk]at hc
    ·simp only[Xb hj]at hb
     simp only[Xb hk]at hc;exact h4 j k b hb hc
  ·by_cases hj:j=i
   ·simp[hj]at hb
   ·simp only[Xb hj]at hb
    exact h5 j b hb
 refine h (frF F H (fp i)) H0 (frF F H (fp i)) σ H E ⟨x.hh,Q2.refl _,WR h1,fun _ z=>.inl z⟩ Sf ⟨fun F' σ' H' ρ' x' S' hM=>?_,fun _ _ _ _ _ _ _ _ z=>z.elim,fun _ _ _ _ _ _ z=>False.elim z,fun _ _ _ _ _ _ z=>False.elim z⟩;obtain⟨ei,ρ2,l2,o2,k2,nx2⟩:=hn ρ' hM;obtain⟨kt',g1,g2,fp',g3,g4,g5⟩:=S';obtain⟨u2,d1,d2,d3,d4⟩:=g3 i _ ei;have d3:u2=u:=d3
 have sF:Q2 F fun b=>if b∈fp i then none else F' b:=fun b o hb=>by
  have nb:b∉fp i:=fun z=>by rw[(th b z).1]at hb;cases hb
  simp only[Xb nb];exact x'.ff b o (by rw[Yb nb];exact hb)
 have sH:Q2 (fun b=>if b∈fp i then none else F' b) H':=fun b o hb=>by
  by_cases z:b∈fp i
  ·simp[z]at hb
  ·simp only[Xb z]at hb;exact g1 b o hb
 have pH:∀b∈fp i,H' b=H b:=fun b hb=>by
  obtain⟨o,ho⟩:=Uh (th b hb).2
  have:(frF F H (fp i)) b=some o:=by rw[Ym hb];exact ho
  rw[g1 b o (x'.ff b o this),ho]
 have x2:Qx F0 H0 (fun b=>if b∈fp i then none else F' b) H':=⟨x'.hh,x.ff.trans sF,sH,fun b hb=>by
  by_cases z:b∈fp i
  ·simp[z]at hb
  ·simp only[Xb z]at hb
   rcases x'.fr b hb with y|y
   ·rw[Yb z]at y;exact x.fr b y
   ·exact .inr y⟩
 have hn':∀b∈fp i,(fun b=>if b∈fp i then none else F' b:Hp) b=none:=fun b hb=>by simp only[Xd hb]
 have ok':(QM C N).ok K (fun b=>if b∈fp i then none else F' b) H' u (fp i):=(QM C N).mono sF hn' pH ok
 have out:∀j b,b∈fp' j->∀o,ρ'[j]?=some (some o)->b∉fp i:=fun j b hb o ho z=>by
  obtain⟨u',f1,f2⟩:=g3 j o ho
  have:=(f2.there b hb).1
  obtain⟨o',ho'⟩:=Uh (th b z).2;have q:(frF F H (fp i)) b=some o':=by rw[Ym z];exact ho'
  rw[x'.ff b o' q]at this;cases this
 refine c.nx _ σ' H' ρ2 x2 ⟨kt.mono sF,sH,by rw[g2,l2],fun j=>if j=i then fp i else (match ρ2[j]? with|some (some _)=>fp' j|_=>[]),fun j o ej=>?_,fun j k b hb hc=>?_,fun j b hb=>?_⟩ nx2
 ·by_cases hj:j=i
  ·subst hj
   rw[o2]at ej;cases ej;refine⟨u2,d1,d3,?_⟩;dsimp only;rw[Xd rfl,d3];exact ok'
  ·obtain⟨f1,f2⟩:=k2 j o hj ej
   obtain⟨u',f3,f4⟩:=g3 j o f1;refine⟨u',f3,?_⟩;dsimp only;rw[Xb hj,ej];refine f2 K F' _ H' u' _ (fun b hb=>?_) f4
   show(if b∈fp i then none else F' b)=none
   rw[Xb (out j b hb o f1)];exact(f4.there b hb).1
 ·have key:∀j b,b∈(if j=i then fp i else (match ρ2[j]? with|some (some _)=>fp' j|_=>[]))->(j=i/\b∈fp i)\/(j≠i/\b∈fp' j/\b∉fp i):=fun j b hb=>by
   by_cases hj:j=i
   ·rw[Xd hj]at hb;exact .inl ⟨hj,hb⟩
   ·rw[Xb hj]at hb
    cases z:ρ2[j]? with
    |none=>rw[z]at hb;cases hb
    |some o =>
      cases o with
      |none=>rw[z]at hb;cases hb
      |some o =>
        rw[z]at hb;exact .inr ⟨hj,hb,out j b hb o (k2 j o hj z).1⟩
  rcases key j b hb with ⟨a1,a2⟩|⟨a1,a2,a3⟩
  ·rcases key k b hc with ⟨b1,b2⟩|⟨b1,b2,b3⟩
   ·rw[a1,b1]
   ·exact Xl a2 b3
  ·rcases key k b hc with ⟨b1,b2⟩|⟨b1,b2,b3⟩
   ·exact Xl b2 a3
   ·exact g4 j k b a2 b2
 ·by_cases hj:j=i
  ·simp only[Xd hj]at hb
   exact⟨(h5 i b hb).1,by rw[pH b hb];exact(th b hb).2⟩
  ·simp only[Xb hj]at hb
   cases z:ρ2[j]? with
   |none=>rw[z]at hb;cases hb
   |some o =>
     cases o with
     |none=>rw[z]at hb;cases hb
     |some o=>rw[z]at hb;exact g5 j b hb
end
end L2
end
section
namespace My
open PySem L2 Mir
local macro_rules | `(tactic| walk_at "d") => `(tactic| dsimp only [List.set])
local macro_rules | `(tactic| walk_at "e") => `(tactic| dsimp only [List.set,WI,List.map,YX])
local macro_rules | `(tactic| walk_at "x") => `(tactic| try dsimp only [PZ,FK])
local macro_rules | `(tactic| walk_at "p") => `(tactic| exact ⟨rfl,rfl,rfl,by decide +kernel,rfl,by decide +kernel,by decide +kernel⟩)
local macro_rules | `(tactic| walk_at "j") => `(tactic| first | decide | omega)
def top (i:Nat):Stmt:=PySem.Challenge.pw_chargeyard_k66_no_numbers.main.body.getD i (.Pass ⟨0,0,0,0⟩)
abbrev Kb:Stmt:=top 11
abbrev Kt:Stmt:=top 12
abbrev HN:Stmt:=top 13
abbrev Kf:Stmt:=top 14
abbrev HX:Stmt:=top 15
abbrev HY:Stmt:=top 16
abbrev Kd:Stmt:=top 17
abbrev HE:Stmt:=top 18
abbrev Hx:Stmt:=top 19
abbrev Hm:Stmt:=top 20
abbrev Hw:Stmt:=top 21
abbrev Hn:Stmt:=top 22
abbrev Hr:Stmt:=top 23
abbrev HL:Stmt:=top 24
abbrev Kr:Stmt:=top 25
abbrev Kl:Stmt:=top 30
abbrev HM:Stmt:=top 31
abbrev HU:Stmt:=top 32
abbrev HD:Stmt:=top 33
abbrev Kc:Stmt:=top 34
abbrev BK:Stmt:=top 35
abbrev BW:Stmt:=top 36
abbrev BY:Stmt:=top 37
abbrev BP:Stmt:=top 39
abbrev Hz:Stmt:=top 40
abbrev BV:Stmt:=top 41
abbrev BI:Stmt:=top 42
abbrev Kp:Stmt:=top 44
abbrev Kj:Stmt:=top 45
abbrev Kg:Stmt:=top 46
abbrev Kq:Stmt:=top 50
abbrev HJ:Stmt:=top 51
abbrev Kn:Stmt:=top 52
abbrev HI:Stmt:=top 53
abbrev BT:Stmt:=top 54
abbrev GB:Stmt:=top 55
abbrev Km:Stmt:=top 56
abbrev BR:Stmt:=top 57
abbrev YA:Stmt:=top 58
abbrev U4:Stmt:=ZZ (top 5) 0
abbrev U5:Stmt:=ZZ (top 7) 0
abbrev U2:Stmt:=ZZ (top 29) 0
abbrev Hf:Stmt:=ZZ (top 29) 1
abbrev Kh:Stmt:=ZZ (top 29) 2
abbrev HA:Stmt:=ZZ (top 29) 3
abbrev Ki:Stmt:=ZZ (top 29) 4
abbrev BN:Stmt:=ZZ (top 29) 5
abbrev HZ:Stmt:=ZZ (top 29) 6
abbrev Kk:Stmt:=ZZ (top 29) 7
abbrev U3:Stmt:=ZZ (top 48) 0
abbrev Ht:Stmt:=ZZ (top 48) 1
abbrev HS:Stmt:=ZZ (top 48) 2
abbrev HQ:Stmt:=ZZ (top 48) 3
abbrev Ko:Stmt:=ZZ (top 48) 4
abbrev HC:Stmt:=ZZ (top 48) 5
abbrev HV:Stmt:=ZZ (top 48) 6
abbrev BZ:Stmt:=ZZ (top 48) 8
abbrev BU:Stmt:=ZZ (top 48) 9
abbrev Kv:Stmt:=ZZ (top 48) 11
abbrev Ku:Stmt:=ZZ (top 48) 12
abbrev Kw:Stmt:=ZZ (top 48) 13
structure Bl (mg:Str->Qf):Prop where
 abs:mg "abs"=none
 len:mg "len"=none
 max:mg "max"=none
 min:mg "min"=none
 sum:mg "sum"=none
 any:mg "any"=none
 all:mg "all"=none
 isi:mg "isinstance"=none
 int:mg "int"=none
 bool:mg "bool"=none
 list:mg "list"=none
 tuple:mg "tuple"=none
 range:mg "range"=none
 zip:mg "zip"=none
 enumerate:mg "enumerate"=none
 dict:mg "dict"=none
 ValueError:mg "ValueError"=none
structure Tx (K:W.Frag)(mg:Str->Qf)(C gS gE:Addr):Prop where
 net:NetC K C
 mSTART:mg "START"=some (.ref gS)
 mEND:mg "END"=some (.ref gE)
 aS:W.nsIn K mainGlobals "START"=some (some (.ref gS))
 aE:W.nsIn K mainGlobals "END"=some (some (.ref gE))
def upD:Option Nat->PyData
 |none=>.none
 |some a=>.int (a:Int)
def Y4 (l:Ln):PyData:=.tuple [upD l.up,.tuple (l.bs.map PyData.int)]
def Zi (y:Yd):PyData:=.tuple [.int (y.T:Int),.tuple (y.ls.map Y4)]
def ZW (l:Qk):Qd:=l.map fun(j:Nat)=>PyData.int (j:Int)
def cdl {i j:Int}(h1:0<j)(h2:j<=10^60):JU i j:=⟨h1,Int.lt_of_le_of_lt h2 (by decide +kernel)⟩
def K9:(0:Int)<10^(30:Int).toNat:=by decide +kernel
def UQ {j:Int}(h0:0<=j)(h1:j<=1000000):KH 10 j:=⟨h0,h1,by decide⟩
def z60:(10:Int)^60=1000000000000000000000000000000000000000000000000000000000000:=by decide +kernel
def Mp {i j:Int}(h1:0<j)(h2:j<=1000000000000000000000000000000000000000000000000000000000000):JU i j:=cdl h1 (by rw[z60];exact h2)
def PJ {α:Type} [Inhabited α] {f:α->PyData}{xs:List α}{k:Int}(h0:0<=k)(h1:k<(xs.length:Int)):atI (xs.map f) k=some (f (xs.getD k.toNat default)):=by
 have h:k.toNat<xs.length:=by omega
 have e:(xs.map f)[k.toNat]?=some (f (xs.getD k.toNat default)):=by simp[h]
 have e2:=Yn e
 rwa [XZ h0]at e2
def Tv {xs:Ql}{k:Int}(h0:0<=k)(h1:k<(xs.length:Int)):atI (xs.map PyData.int) k=some (.int (xs.getD k.toNat 0)):=by
 have h:k.toNat<xs.length:=by omega
 have e:(xs.map PyData.int)[k.toNat]?=some (.int (xs.getD k.toNat 0)):=by simp[h]
 have e2:=Yn e
 rwa [XZ h0]at e2
def PH {xs:Ql}{k:Int}(h0:0<=k)(h1:k<(xs.length:Int)):atI xs k=some (xs.getD k.toNat 0):=by
 have h:k.toNat<xs.length:=by omega
 have e:xs[k.toNat]?=some (xs.getD k.toNat 0):=by simp[h]
 have e2:=Yn e
 rwa [XZ h0]at e2
def Nx {f:Nat->PyData}{n:Nat}{k:Int}(h0:0<=k)(h1:k<(n:Int)):atI ((List.range n).map f) k=some (f k.toNat):=by
 have h:k.toNat<n:=by omega
 have e:((List.range n).map f)[k.toNat]?=some (f k.toNat):=by simp[h]
 have e2:=Yn e
 rwa [XZ h0]at e2
instance:Inhabited Ln:=⟨⟨none,[]⟩⟩
def QK (g:Gs):PyData:=.tuple [.int (g.line:Int),.int (g.first:Int),.int (g.last:Int),.int g.want,.int g.most]
instance:Inhabited Gs:=⟨⟨0,0,0,1,1⟩⟩
def Pu {ds:Qd}{m:Nat}(h:∀d∈ds,d.canLay0=true/\d.depth<=m):PyData.canLayAll0 ds=true/\PyData.depthAll ds<=m:=by
 induction ds with
 |nil=>exact⟨rfl,XN _⟩
 |cons d ds ih =>
   obtain⟨a,b⟩:=h d Xa;obtain⟨c,e⟩:=ih fun x hx=>h x (Xf _ hx);refine⟨by rw[PyData.canLayAll0,a,c];rfl,?_⟩;rw[PyData.depthAll];omega
def VJ (m:Nat)(d:PyData):Prop:=d.canLay0=true/\d.depth<=m
def VJ.fine {m:Nat}{d:PyData}(h:VJ m d)(hm:m<=60):Vm d:=⟨h.1,X8 h.2 hm⟩
def Au {ds:Qd}{m:Nat}(h:∀d∈ds,VJ m d):VJ (m+1) (.tuple ds):=by
 obtain⟨a,b⟩:=Pu h;refine⟨by rw[PyData.canLay0];exact a,?_⟩;rw[PyData.depth];omega
def Ue {ds:Qd}{m:Nat}(h:∀d∈ds,VJ m d):VJ (m+1) (.list ds):=by
 obtain⟨a,b⟩:=Pu h;refine⟨by rw[PyData.canLay0];exact a,?_⟩;rw[PyData.depth];omega
def Jt (i:Int)(m:Nat):VJ m (.int i):=⟨rfl,XN _⟩
def MU {α:Type}{f:α->PyData}{xs:List α}{m:Nat}(h:∀x,VJ m (f x)):∀d∈xs.map f,VJ m d:=fun d hd=>by
 obtain⟨x,_,rfl⟩:=XJ.mp hd;exact h x
def Bf {m:Nat}:∀d∈([]:Qd),VJ m d:=fun d hd=>(nomatch hd)
def Gx {m:Nat}{d:PyData}{ds:Qd}(h:VJ m d)(h2:∀d∈ds,VJ m d):∀x∈d::ds,VJ m x:=fun x hx=>by
 rcases Xe.mp hx with rfl|hx
 ·exact h
 ·exact h2 x hx
def LA (l:Qk):VJ 1 (.list (ZW l)):=Ue (MU fun j=>Jt _ 0)
def LX (l:Ql):VJ 1 (.list (l.map PyData.int)):=Ue (MU fun j=>Jt _ 0)
def Rk (l:Qk):Vm (.list (ZW l)):=(LA l).fine (by decide)
def Bw (l:Ql):Vm (.list (l.map PyData.int)):=(LX l).fine (by decide)
def Mx (w:String):Lean.MacroM (Lean.TSyntax `tactic):=do
 let n:=Lean.mkIdent (w.drop 1).toString.toName
 match w.front with
 |'@' => `(tactic| with_reducible apply $n)
 |'!' => `(tactic| with_reducible exact $n)
 |'~' => `(tactic| apply $n)
 |_ => `(tactic| walk_at $(Lean.Syntax.mkStrLit w))
def Vt (s:String):Lean.MacroM (Lean.TSyntax `tactic):=do
 let l ← (s.splitOn "|").mapM fun a=>do
  match a.splitOn "<" with
  |[x,z] => `(tactic| ($(← Mx x):tactic <;> $(← Mx z):tactic))
  |_ =>
    let ts ← (a.splitOn " ").mapM Mx
    `(tactic| ($[$ts.toArray:tactic];*))
 `(tactic| first $[| $l.toArray:tactic]*)
local macro_rules | `(tactic| walk_at "rfl") => `(tactic| rfl)
local macro_rules | `(tactic| walk_at "hc") => `(tactic| intro hc)
local macro_rules | `(tactic| walk_at "ls") => `(tactic| dsimp only [List.set])
local macro_rules | `(tactic| walk_at "om") => `(tactic| first | lia | omega)
local macro_rules | `(tactic| walk_at "asm") => `(tactic| with_reducible assumption)
local macro_rules | `(tactic| walk_at "ble") => `(tactic| first | with_reducible rfl | decide | exact Nat.le_of_ble_eq_true rfl)
local macro_rules | `(tactic| walk_at "smo") => `(tactic| (focus (simp; (first | done | walk_at "om"))))
local macro_rules | `(tactic| walk_at "dso") => `(tactic| (focus (dsimp only; walk_at "om")))
local macro_rules | `(tactic| walk_at "r4") => `(tactic| (refine ⟨?_,?_,?_,?_⟩ <;> walk_at "r62"))
local macro_rules | `(tactic| walk_at "r62") => `(tactic| (rw [z62]; walk_at "side"))
local macro_rules | `(tactic| walk_at "ss") => `(tactic| repeat walk_at "s1")
local macro_rules | `(tactic| walk_at "call") => `(tactic| (constructor <;> walk_at "side"))
local macro_rules | `(tactic| walk_at "rg") => `(tactic| first | with_reducible rfl | (apply J5 <;> walk_at "rs") | (apply rngU_cong <;> walk_at "rs"))
local macro_rules | `(tactic| walk_at "rs")=>Vt "om|smo"
local macro_rules | `(tactic| walk_at "side")=>Vt "om|asm|ble|smo"
local macro_rules | `(tactic| walk_at "arith")=>Vt "om|asm|ble|smo"
local macro_rules | `(tactic| walk_at "ev")=>Vt "@Qt rfl|!Q8|!KW|!Ww|!VM|@Z8 ev ev|@Wb ev ev|@ZE ev ev cond|@Mq ev|@Yz ev ev|@UY ev ev|@NH ev|@Dv ev ev ev|@Ga ev hc ev|@Nh ev|@P7 rfl ev item|@PX rfl ev item|@WL evd ev item|@Wa evd ev item|@YC eas side|@Zf ea call|@Tu ea call|@NI ev ev|@Nw ev ev|@Bm ev|@Ba ev rfl|@Tt rfl|@Dr evd|@Uc evd|@De rfl|@UZ ev ev fine fine|@MF ev ev fine fine|@ME ev rfl|@EvO.fz eo"
local macro_rules | `(tactic| walk_at "evd")=>Vt "~Qt rfl|ev|@EvO.fz eo"
local macro_rules | `(tactic| walk_at "ea")=>Vt "!Q3|@UX rfl ea|@Qv ev ea"
local macro_rules | `(tactic| walk_at "eas")=>Vt "~Z7|~QY ev eas"
local macro_rules | `(tactic| walk_at "eo")=>Vt "@Vi eas side|@Bo ea call|@Nm evd evd side"
local macro_rules | `(tactic| walk_at "et")=>Vt "!KU|@Z5 ev|@ZV ev|@Wv et hc et|@GU et hc et|@YB et"
local macro_rules | `(tactic| walk_at "g")=>Vt "!Z2|!JV|@YF g g|@Jl g rfl|~Jl g rfl"
local macro_rules | `(tactic| walk_at "ei")=>Vt "@VD ea r62 r62|@Rr ea r4|@Tj ea r4|@Gh ea|@JX evd|@Ng evd"
local macro_rules | `(tactic| walk_at "s1")=>Vt "@QI s1|@VY eo ls|@Zu ev ls|@Ul rfl ev side ls"
local macro_rules | `(tactic| walk_at "ret")=>Vt "@Gn rfl|@Vg evd|@WM eo"
local macro_rules | `(tactic| walk_at "if")=>Vt "@QI if|@Z1 et"
local macro_rules | `(tactic| walk_at "eir")=>Vt "~EvI.cast ei rg"
local macro_rules | `(tactic| walk_at "item")=>Vt "rfl|asm|@Tv<arith|@PH<arith|@Nx<arith|~PJ<arith"
local macro_rules | `(tactic| walk_at "cond")=>Vt "asm|@Mp<om|@UQ<om|~K9|om|dso"
local macro_rules | `(tactic| walk_at "fine")=>Vt "~Rk|~Bw"
section
variable {P:Program}{w:World}{K:W.Frag}{mg:Str->Qf}{base:Heap}{C gS gE YR CR fR CH cg ct CQ fQ q1 q2 q3 q4 q5 q6:Addr}
inductive R_cell:List OT->OT->Prop
 |mk {ns:Ql} {k:Int} (h:0<=k):R_cell [.scr ns,.fz (.int k)] (.fz (.int (Yl ns k)))
def IR:Qp Zav Zav (Q0 Kq):=by walk_at"p"
def Fb (T:Bl mg) (D:Df K mg "_law_cell_at" Kq Zav):QD P w K mg base "_law_cell_at" Zav 1 (QQ (K:=K) R_cell):=by
 refine D.ev IR (fun ts r h=>by cases h;rfl) (fun _ _ _ _ s H E ts r hr h=>?_)
 cases h with
 |@mk ns k h0 =>
   refine⟨_,(Q5 (Zw (ZS JO (pv 1) (Zz Yw (by rfl) T.len Yx (Qo (pv 0) Qr)) (ZA _)) (Q4 (QU (QO QN (pv 0) (pv 1)))) Z0)
 (Q4 (QU Qy))),?_⟩
   show Q1 K _ [some _,some _] _
   walk_at"x"
   walk_at"if"
   ·
    intro c;have c:=X7 c
    walk_at"ret"
    rfl
   ·
    intro c;have c:=GI c;refine ZI ?_
    walk_at"ret"
    have e:Yl ns k=0:=by
     have:ns.length<=k.toNat:=by omega
     simp[Yl,List.getD,this]
    rw[e]
def VG (y:Yd)(k:Nat):Ln:=y.ls.getD k default
def upN (y:Yd)(k:Nat):Nat:=(Zh y k).getD 0
def SA {y:Yd}{k:Nat}(h:k<y.ls.length):Zh y k=(VG y k).up:=by simp[Zh,VG,h]
def Pm {y:Yd}{k t:Nat}(h:k<y.ls.length):Z9 y k t=(VG y k).bs.getD t 0:=by simp[Z9,VG,h]
def RE {y:Yd}(ok:y.Ok){k:Nat}(h:k<y.ls.length):(VG y k).bs.length=y.T:=ok.bl _ (by simp[VG,h])
inductive R_turns:List OT->OT->Prop
 |mk {y:Yd}:R_turns [.fz (Zi y)] (.fz (.int (y.T:Int)))
def Ie:Qp Zay Zay (Q0 HY):=by walk_at"p"
def Ca (T:Bl mg) (D:Df K mg "turns_of" HY Zay):QD P w K mg base "turns_of" Zay 1 (QQ (K:=K) R_turns):=by
 refine D.ev Ie (fun ts r h=>by cases h;rfl) (fun _ _ _ _ s H E ts r hr h=>?_)
 cases h with
 |@mk y =>
   refine⟨_,(Q4 (QU (QO QN (pv 0) Qy))),?_⟩;show Q1 K _ [some _] _
   walk_at"x"
   walk_at"ret"
   rfl
inductive R_count:List OT->OT->Prop
 |mk {y:Yd}:R_count [.fz (Zi y)] (.fz (.int (y.ls.length:Int)))
def II:Qp Zay Zay (Q0 Kd):=by walk_at"p"
def C8 (T:Bl mg) (D:Df K mg "line_count" Kd Zay):QD P w K mg base "line_count" Zay 1 (QQ (K:=K) R_count):=by
 refine D.ev II (fun ts r h=>by cases h;rfl) (fun _ _ _ _ s H E ts r hr h=>?_)
 cases h with
 |@mk y =>
   refine⟨_,(Q4 (QU (Zz Yw (by rfl) T.len Yx (Qo (QO QN (pv 0) Qy) Qr)))),?_⟩;show Q1 K _ [some _] _
   walk_at"x"
   walk_at"ret"
   show _=_;rw[Xm]
inductive R_above:List OT->OT->Prop
 |mk {y:Yd} {k:Int} (ok:y.Ok) (h0:0<k) (h1:k<(y.ls.length:Int)):R_above [.fz (Zi y),.fz (.int k)] (.fz (.int (upN y k.toNat:Int)))
 |zero {y:Yd} (ok:y.Ok):R_above [.fz (Zi y),.fz (.int 0)] (.fz .none)
def EY:Qp ZaE ZaE (Q0 HE):=by walk_at"p"
def FT (T:Bl mg) (D:Df K mg "above_of" HE ZaE):QD P w K mg base "above_of" ZaE 1 (QQ (K:=K) R_above):=by
 refine D.ev EY (fun ts r h=>by cases h<;>rfl) (fun _ _ _ _ s H E ts r hr h=>?_)
 cases h with
 |@mk y k ok h0 h1 =>
   refine⟨_,(Q4 (QU (QO QN (QO QN (QO QN (pv 0) Qy) (pv 1)) Qy))),?_⟩;show Q1 K _ [some _,some _] _
   walk_at"x"
   walk_at"ret"
   obtain⟨a,e,l⟩:=ok.ups k.toNat (by omega) (by omega);have e2:(VG y k.toNat).up=some a:=by rw[<- SA (by omega)];exact e
   show OT.fz (upD (VG y k.toNat).up)=_;rw[e2];simp[upN,e,upD]
 |@zero y ok =>
   refine⟨_,(Q4 (QU (QO QN (QO QN (QO QN (pv 0) Qy) (pv 1)) Qy))),?_⟩;show Q1 K _ [some _,some _] _
   walk_at"x"
   have l1:=ok.l1
   walk_at"ret"
   have e2:(VG y 0).up=none:=by rw[<- SA (by omega)];exact ok.up0
   show OT.fz (upD (VG y 0).up)=_;rw[e2];rfl
inductive R_bound:List OT->OT->Prop
 |mk {y:Yd} {k t:Int} (ok:y.Ok) (h0:0<=k) (h1:k<(y.ls.length:Int)) (h2:0<=t) (h3:t<(y.T:Int)):R_bound [.fz (Zi y),.fz (.int k),.fz (.int t)] (.fz (.int (Z9 y k.toNat t.toNat)))
def Ip:Qp Zar Zar (Q0 Hx):=by walk_at"p"
def Ab (T:Bl mg) (D:Df K mg "bound_at" Hx Zar):QD P w K mg base "bound_at" Zar 1 (QQ (K:=K) R_bound):=by
 refine D.ev Ip (fun ts r h=>by cases h;rfl) (fun _ _ _ _ s H E ts r hr h=>?_)
 cases h with
 |@mk y k t ok h0 h1 h2 h3 =>
   refine⟨_,(Q4 (QU (QO QN (QO QN (QO QN (QO QN (pv 0) Qy) (pv 1)) Qy) (pv 2)))),?_⟩;show Q1 K _ [some _,some _,some _] _
   walk_at"x"
   have hl:(y.ls.getD k.toNat default).bs.length=y.T:=RE ok (by omega)
   walk_at"ret"
   show _=_;rw[Pm (by omega)];rfl
inductive R_lineof:List OT->OT->Prop
 |mk {g:Gs}:R_lineof [.fz (QK g)] (.fz (.int (g.line:Int)))
def Ei:Qp Zat Zat (Q0 Hm):=by walk_at"p"
def A8 (T:Bl mg) (D:Df K mg "line_of" Hm Zat):QD P w K mg base "line_of" Zat 1 (QQ (K:=K) R_lineof):=by
 refine D.ev Ei (fun ts r h=>by cases h;rfl) (fun _ _ _ _ s H E ts r hr h=>?_)
 cases h with
 |@mk g =>
   refine⟨_,(Q4 (QU (QO QN (pv 0) Qy))),?_⟩;show Q1 K _ [some _] _
   walk_at"x"
   walk_at"ret"
   rfl
inductive R_there:List OT->OT->Prop
 |mk {g:Gs} {t:Int}:R_there [.fz (QK g),.fz (.int t)] (.fz (.bool (W0 g t)))
def Ib:Qp Zan Zan (Q0 Hw):=by walk_at"p"
def F6 (T:Bl mg) (D:Df K mg "is_there" Hw Zan):QD P w K mg base "is_there" Zan 1 (QQ (K:=K) R_there):=by
 refine D.ev Ib (fun ts r h=>by cases h;rfl) (fun _ _ _ _ s H E ts r hr h=>?_)
 cases h with
 |@mk g t =>
   refine⟨_,(Q4 (QU (RD MG MG (QO QN (pv 0) Qy) (pv 1) (QO QN (pv 0) Qy)))),?_⟩;show Q1 K _ [some _,some _] _
   walk_at"x"
   walk_at"ret"
   rfl
inductive R_most:List OT->OT->Prop
 |mk {g:Gs}:R_most [.fz (QK g)] (.fz (.int g.most))
def Ey:Qp Zat Zat (Q0 Hr):=by walk_at"p"
def LB (T:Bl mg) (D:Df K mg "most_of" Hr Zat):QD P w K mg base "most_of" Zat 1 (QQ (K:=K) R_most):=by
 refine D.ev Ey (fun ts r h=>by cases h;rfl) (fun _ _ _ _ s H E ts r hr h=>?_)
 cases h with
 |@mk g =>
   refine⟨_,(Q4 (QU (QO QN (pv 0) Qy))),?_⟩;show Q1 K _ [some _] _
   walk_at"x"
   walk_at"ret"
   rfl
inductive R_want:List OT->OT->Prop
 |mk {g:Gs}:R_want [.fz (QK g)] (.fz (.int g.want))
def EM:Qp Zat Zat (Q0 Hn):=by walk_at"p"
def Li (T:Bl mg) (D:Df K mg "want_of" Hn Zat):QD P w K mg base "want_of" Zat 1 (QQ (K:=K) R_want):=by
 refine D.ev EM (fun ts r h=>by cases h;rfl) (fun _ _ _ _ s H E ts r hr h=>?_)
 cases h with
 |@mk g =>
   refine⟨_,(Q4 (QU (QO QN (pv 0) Qy))),?_⟩;show Q1 K _ [some _] _
   walk_at"x"
   walk_at"ret"
   rfl
structure SetOk (gs:List Gs)(some:Qk):Prop where
 mem:∀k∈some,k<gs.length
 len:some.length<=8
def JW (gs:List Gs)(t:Nat)(sm:Qk):Qn:=fun l=>Vp gs (t:Int) l sm
def JY (y:Yd)(gs:List Gs)(sm:Qk)(t:Nat):Ql:=(List.range y.ls.length).map fun l=>VX y (fun k=>Z9 y k t) (JW gs t sm) l
inductive R_reaching:List OT->OT->Prop
 |mk {y:Yd} {gs:List Gs} {sm:Qk} {t:Int} (ok:y.Ok) (hg:∀g∈gs,g.line<y.ls.length) (hs:SetOk gs sm) (h0:0<=t) (h1:t<(y.T:Int)) :
  R_reaching [.fz (Zi y),.fz (.list (gs.map QK)),.fz (.list (ZW sm)),.fz (.int t)] (.ol ((JY y gs sm t.toNat).map PyData.int))
def Rg {n j:Nat}{f g:Qn}(hj:j<n)(e1:∀l,l<n->l≠j->g l=f l){v:Int}(e2:g j=v) :
 (((List.range n).map fun l=>PyData.int (f l)).set j (.int v))=(List.range n).map fun l=>PyData.int (g l):=by
 apply List.ext_getElem?
 intro i;by_cases hi:i=j
 ·subst hi
  rw[Xk (by simpa using hj)];simp[hj,e2]
 ·rw[Xp (Ne.symm hi)]
  by_cases h:i<n
  ·simp[h,e1 i h hi]
  ·simp[h]
def GD:Qp Zas Zag (Q0 BP):=by walk_at"p"
def EZ (T:Bl mg) (D:Df K mg "reaching_at" BP Zag) (Xa2:QD P w K mg base "line_count" Zay 1 (QQ (K:=K) R_count)) (Xbe:QD P w K mg base "is_there" Zan 1 (QQ (K:=K) R_there))
 (Xa7:QD P w K mg base "line_of" Zat 1 (QQ (K:=K) R_lineof)) (Xbf:QD P w K mg base "most_of" Zat 1 (QQ (K:=K) R_most)) (Xbg:QD P w K mg base "above_of" ZaE 1 (QQ (K:=K) R_above))
 (Xa3:QD P w K mg base "bound_at" Zar 1 (QQ (K:=K) R_bound)):QD P w K mg base "reaching_at" Zag 2 (QQ (K:=K) R_reaching):=by
 refine D.ev GD (fun ts r h=>by cases h;rfl) (fun _ _ _ _ s H E ts r hr h=>?_)
 cases h with
 |@mk y gs sm t ok hg hs h0 h1 =>
   refine⟨_,(Q5 (Sq (i:=4) GD.nd rfl rfl (NX:=Zas) (sc:=Q0 BP) (N:=["line"]) (f:=[none]) rfl (by decide +kernel) rfl rfl (V6 rfl T.range (Qo (QF Xa2 hr (Qo (pv 0) Qr)) Qr)) (fun _=>(Zr (i:=0) (show(["line"]:Qh).Nodup by decide +kernel) rfl Qa)) (fun _=>V5) (fun _=>YE) (fun _=>Qy) rfl)
 (Q5 (Vr PassesOwn.never rfl (WQ (pv 2)) (Zr (i:=5) GD.nd rfl Qa) (Q5 (QW (i:=6) GD.nd rfl Qa (QO QN (pv 1) (pv 5)))
 (Q4 (Zw (V4 (QF Xbe hr (Qo (pv 6) (Qo (pv 3) Qr)))) (Q4 (Gp (pv 4) (QF Xa7 hr (Qo (pv 6) Qr)) G1 (QF Xbf hr (Qo (pv 6) Qr)) Bn WU)) Z0))))
 (Q5 (Vr PassesOwn.never rfl (AR rfl T.range (Qo (Za YD (QF Xa2 hr (Qo (pv 0) Qr)) Qy) (Qo Qy (Qo (MA Da Qy) Qr)))) (Zr (i:=7) GD.nd rfl Qa) (Q4 (Gp (pv 4) (QF Xbg hr (Qo (pv 0) (Qo (pv 7) Qr))) G1 (Zz (Dd rfl) (by rfl) T.min Be (Qo (QO QN (pv 4) (pv 7)) (Qo (QF Xa3 hr (Qo (pv 0) (Qo (pv 7) (Qo (pv 3) Qr)))) Qr))) Bn WU)))
 (Q4 (QU (pv 4)))))),?_⟩
   show Q1 K _ [some _,some _,some _,some _,none,none,none,none] _
   walk_at"x"
   have l1:=ok.l1;have l5:=ok.l5;have n8:=hs.len;refine QI (VY (Dc (lo:=0) (n:=y.ls.length) (h:=fun _=>.int 0) ?ei (by omega) ?el) ?_)
   case ei=>walk_at"eir"
   case el =>
    intro x hx c;exact⟨_,by walk_at"g",by walk_at"ev"⟩
   walk_at"d"
   refine QI (D7 (fun i=>[some (.fz (Zi y)),some (.fz (.list (gs.map QK))),some (.fz (.list (ZW sm))),some (.fz (.int t)),some (.ol ((List.range y.ls.length).map fun l=>PyData.int (Vp gs t l (sm.take i)))),none,none,none]) (by walk_at"ei") ⟨rfl,rfl,rfl,rfl,rfl,trivial⟩ ?st ?fin)
   case st =>
    intro i d hd;have hi:i<sm.length:=by
     have:=(Xg.mp hd).1
     simpa [ZW] using this
    obtain rfl:d=.int ((sm[i]:Nat):Int):=by simpa [ZW,hi] using hd.symm
    have hk:sm[i]<gs.length:=hs.mem _ (W9 hi);refine⟨_,by walk_at"g",?_⟩
    walk_at"d"
    walk_at"s1";have eg:gs.getD ((sm[i]:Nat):Int).toNat default=gs[sm[i]]:=by simp[hk]
    rw[eg];have gok:=hg gs[sm[i]] (W9 hk);have gl:=gok;have tk:sm.take (i+1)=sm.take i++[sm[i]]:=by rw[JD];simp[hi]
    refine Z1 (by walk_at"et") (fun c=>?_) (fun c=>?_)
    ·refine R1 (m:=Vp gs t gs[sm[i]].line (sm.take i)) rfl (by walk_at"ev") (by omega) ?_ (by walk_at"ev") ?_
     ·simp[gl]
     ·walk_at"d"
      refine⟨rfl,rfl,rfl,rfl,?_,trivial⟩;rw[XS];congr 2;refine Rg gl (fun l hl hn=>?_) ?_
      ·rw[tk,BS]
       simp[Vp,hk,Ne.symm hn]
      ·rw[tk,BS]
       simp[Vp,hk,c]
    ·refine ZI ⟨rfl,rfl,rfl,rfl,?_,trivial⟩
     refine X0 (fun z=>some (OT.ol z)) (U9 fun l _=>?_);rw[tk,BS];simp[Vp,hk,c]
   case fin =>
    intro ρ' hf;refine Dk hf ?_;have el:(ZW sm).length=sm.length:=by simp[ZW]
    rw[el,J9];refine QI (D7 (fun i=>[some (.fz (Zi y)),some (.fz (.list (gs.map QK))),some (.fz (.list (ZW sm))),some (.fz (.int t)),some (.ol ((List.range y.ls.length).map fun l=>PyData.int (VN y (fun k=>Z9 y k t.toNat) (fun l=>Vp gs t l sm) i l))),none,none,none]) (by walk_at"ei") ⟨rfl,rfl,rfl,rfl,rfl,trivial⟩ ?st2 ?fin2)
    case st2 =>
     intro i d hd;obtain⟨hi,rfl⟩:=RJ hd;have hi2:i<y.ls.length-1:=by omega
     refine⟨_,by walk_at"g",?_⟩
     walk_at"d"
     have ej:((y.ls.length:Int)-1-(i:Int)).toNat=y.ls.length-1-i:=by omega
     obtain⟨a,ea,la⟩:=ok.ups (y.ls.length-1-i) (by omega) (by omega);have un:upN y ((y.ls.length:Int)-1-(i:Int)).toNat=a:=by rw[ej];simp[upN,ea]
     refine R1 (m:=VN y (fun k=>Z9 y k t.toNat) (fun l=>Vp gs t l sm) i a) rfl (by walk_at"ev") (by omega) ?_ (by walk_at"ev") ?_
     ·rw[un,XS]
      have:a<y.ls.length:=by omega
      simp[this]
     ·walk_at"d"
      refine⟨rfl,rfl,rfl,rfl,?_,trivial⟩;rw[un,XS];refine X0 (fun z=>some (OT.ol z)) (Rg (by omega) (fun l hl hn=>?_) ?_)
      ·simp only[VN,Js]
       rw[ea,Xb (by simpa using fun z=>hn z.symm)];omega
      ·simp only[VN,Js]
       rw[ea,Xd rfl,ej]
    case fin2 =>
     intro ρ' hf;refine Dk hf ?_
     walk_at"ret"
     show _=_;have e2:(JG ((y.ls.length:Int)-1) ((y.ls.length:Int)-1-0).toNat).length=y.ls.length-1:=by rw[Se];omega
     rw[e2];unfold JY VX JW;rw[XZ h0,Y3];rfl
def EN (y:Yd)(gs:List Gs)(sm:Qk)(t:Nat):(JY y gs sm t).length=y.ls.length:=by simp[JY]
def AY {y:Yd}{gs:List Gs}{sm:Qk}{t l:Nat}(h:l<y.ls.length):(JY y gs sm t).getD l 0=VX y (fun k=>Z9 y k t) (JW gs t sm) l:=by simp[JY,List.getD,h]
def Gw (y:Yd)(gs:List Gs)(sm:Qk)(t:Nat):Int:=passes y (fun k=>Z9 y k t) (JW gs t sm) 0
def BD (y:Yd)(gs:List Gs)(sm:Qk):Int:=((List.range y.T).map fun t=>Gw y gs sm t).sum
inductive R_given:List OT->OT->Prop
 |mk {y:Yd} {gs:List Gs} {sm:Qk} {t:Int} (ok:y.Ok) (hg:∀g∈gs,g.line<y.ls.length) (hs:SetOk gs sm) (h0:0<=t) (h1:t<(y.T:Int)) :
  R_given [.fz (Zi y),.fz (.list (gs.map QK)),.fz (.list (ZW sm)),.fz (.int t)] (.fz (.int (Gw y gs sm t.toNat)))
def Ij:Qp Zag Zag (Q0 Hz):=by walk_at"p"
def Ag (T:Bl mg) (D:Df K mg "given_at" Hz Zag) (Xbu:QD P w K mg base "reaching_at" Zag 2 (QQ (K:=K) R_reaching)) (Xa3:QD P w K mg base "bound_at" Zar 1 (QQ (K:=K) R_bound)) :
 QD P w K mg base "given_at" Zag 3 (QQ (K:=K) R_given):=by
 refine D.ev Ij (fun ts r h=>by cases h;rfl) (fun _ _ _ _ s H E ts r hr h=>?_)
 cases h with
 |@mk y gs sm t ok hg hs h0 h1 =>
   refine⟨_,(Q4 (QU (Zz (Dd rfl) (by rfl) T.min Be (Qo (QO QN (QF Xbu hr (Qo (pv 0) (Qo (pv 1) (Qo (pv 2) (Qo (pv 3) Qr))))) Qy) (Qo (QF Xa3 hr (Qo (pv 0) (Qo Qy (Qo (pv 3) Qr)))) Qr))))),?_⟩;show Q1 K _ [some _,some _,some _,some _] _
   walk_at"x"
   have l1:=ok.l1;have rl:=EN y gs sm t.toNat
   walk_at"ret"
   show _=_;rw[show(0:Int).toNat=0 from rfl,AY (by omega)];rfl
inductive R_givenm:List OT->OT->Prop
 |mk {y:Yd} {gs:List Gs} {sm:Qk} (ok:y.Ok) (hg:∀g∈gs,g.line<y.ls.length) (hs:SetOk gs sm) :
  R_givenm [.fz (Zi y),.fz (.list (gs.map QK)),.fz (.list (ZW sm))] (.fz (.int (BD y gs sm)))
def IL:Qp Zaf Zaf (Q0 BV):=by walk_at"p"
def Ed (T:Bl mg) (D:Df K mg "given_most" BV Zaf) (XaW:QD P w K mg base "turns_of" Zay 1 (QQ (K:=K) R_turns)) (Xbv:QD P w K mg base "given_at" Zag 3 (QQ (K:=K) R_given)) :
 QD P w K mg base "given_most" Zaf 4 (QQ (K:=K) R_givenm):=by
 refine D.ev IL (fun ts r h=>by cases h;rfl) (fun _ _ _ _ s H E ts r hr h=>?_)
 cases h with
 |@mk y gs sm ok hg hs =>
   refine⟨_,(Q4 (QU (Zz NB (by rfl) T.sum NS (Qo (Y8 (NX:=Zaf) (sc:=Q0 BV) (N:=["turn","yard","guests","some"]) (f:=[none,some 0,some 1,some 2]) rfl (by decide +kernel) rfl rfl (V6 rfl T.range (Qo (QF XaW hr (Qo (pv 0) Qr)) Qr)) (fun _=>(Zr (i:=0) (show(["turn","yard","guests","some"]:Qh).Nodup by decide +kernel) rfl Qa)) (fun _=>V5) (fun _=>YE) (fun _=>(QF Xbv hr (Qo (pv 1) (Qo (pv 2) (Qo (pv 3) (Qo (pv 0) Qr))))))) Qr)))),?_⟩;show Q1 K _ [some _,some _,some _] _
   walk_at"x"
   have t8:=ok.t8;refine Vg (ME (ns:=(List.range y.T).map fun t=>Gw y gs sm t) ?_ rfl) rfl;refine EvO.fz ?_;rw[Y3];refine Dc (lo:=0) (n:=y.T) ?_ (by omega) ?_
   ·walk_at"eir"
   ·intro x hx c
    refine⟨_,by walk_at"g",?_⟩
    walk_at"e"
    rw[YI];have h:R_given [.fz (Zi y),.fz (.list (gs.map QK)),.fz (.list (ZW sm)),.fz (.int (x:Int))] (.fz (.int (Gw y gs sm x))):=R_given.mk (t:=(x:Int)) ok hg hs (by omega) (by omega);exact Zf (by walk_at"ea") h
def Br:NoF "lay" := fun _ _ _ _=>rfl
def So:NoF "lay_one" := fun _ _ _ _=>rfl
def Cl:NoF "flow" := fun _ _ _ _=>rfl
def Pi:NoF "reached" := fun _ _ _ _=>rfl
def Cd:NoF "push" := fun _ _ _ _=>rfl
def Ae:NoF "fill" := fun _ _ _ _=>rfl
def LH:NoF "way_to" := fun _ _ _ _=>rfl
def IV:Qp Zal Zal (Q0 U2):=by walk_at"p"
def Te {f:Addr} {fd:FuncData} (T:Bl mg) (U:Tx K mg C gS gE) (F:Fun K "__init__" "Net.__init__" U2 f fd):FnOk P w K mg base CX0 1 f fd Zal (spI P w C):=by
 refine F.ok IV (fun vs H Q E ⟨x,dx,e,_⟩=>by rw[e];rfl) fun cdv A outer s H vs Q E hr ⟨x,dx,e,hx,q⟩=>?_;subst e;refine⟨_,(Q5 (YZ (pv 0) (Z4 Qr) rfl)
 (Q5 (YZ (pv 0) (Z4 Qr) rfl)
 (Q5 (YZ (pv 0) FO rfl)
 (Q4 (YZ (pv 0) FM rfl))))),?_⟩
 refine⟨XN _,fun e he=>⟨_,rfl,x,C,dx,[],rfl,?_,U.net.cl,U.net.ends,by decide,?_⟩⟩
 ·rw[Qs (Zp hx he)];exact hx
 have xe:x≠e:=Zp hx he;refine⟨XN _,fun r hr'=>⟨_,rfl,x,C,dx,[("ends",.ref e)],rfl,?_,U.net.cl,U.net.rooms,(by show(1:Nat)<1000;decide),?_⟩⟩
 ·have xr:x≠r:=Zp QC hr'
  rw[Qs xr,QC];rfl
 have xr:x≠r:=Zp QC hr';have rr:upd H e (.lst []) r=none:=by rw[Qs (Ne.symm xr)]at hr';exact hr'
 have er:e≠r:=Zp QC rr;have r0:H r=none:=by rw[Qs (Ne.symm er)]at rr;exact rr
 refine fun l hl=>⟨_,rfl,x,C,dx,[("ends",.ref e),("rooms",.ref r)],rfl,?_,U.net.cl,U.net.leav,(by show(2:Nat)<1000;decide),?_⟩
 ·have xl:x≠l:=Zp QC hl
  rw[Qs xl,QC];rfl
 have xl:x≠l:=Zp QC hl;rw[Qs (Ne.symm xl)]at hl;have rl:r≠l:=Zp QC hl;rw[Qs (Ne.symm rl),Qs (Ne.symm xl)]at hl;have el:e≠l:=Zp QC hl;rw[Qs (Ne.symm el)]at hl;refine fun d hd=>⟨_,rfl,x,C,dx,[("ends",.ref e),("rooms",.ref r),("leaving",.ref l)],rfl,?_,U.net.cl,U.net.laid,(by show(3:Nat)<1000;decide),?_⟩
 ·have xd:x≠d:=Zp QC hd
  rw[Qs xd,QC];rfl
 have xd:x≠d:=Zp QC hd;rw[Qs (Ne.symm xd)]at hd;have ld:l≠d:=Zp QC hd;rw[Qs (Ne.symm ld),Qs (Ne.symm xd)]at hd;have rd:r≠d:=Zp QC hd;rw[Qs (Ne.symm rd),Qs (Ne.symm xd)]at hd;have ed:e≠d:=Zp QC hd;rw[Qs (Ne.symm ed)]at hd;refine q e r l d _ he r0 hl hd ?_ ?_ ?_ ?_ ?_ ?_ (fun b hb=>?_)
 ·simp only[XF,Xe,XM,or_false,not_or,not_false_eq_true,Jb,and_true]
  exact⟨⟨xe,xr,xl,xd⟩,⟨er,el,ed⟩,⟨rl,rd⟩,ld⟩
 ·rw[QC];rfl
 ·rw[Qs (Ne.symm xe),Qs ed,Qs (Ne.symm xe),Qs el,Qs (Ne.symm xe),Qs er,Qs (Ne.symm xe),QC]
 ·rw[Qs (Ne.symm xr),Qs rd,Qs (Ne.symm xr),Qs rl,Qs (Ne.symm xr),QC]
 ·rw[Qs (Ne.symm xl),Qs ld,Qs (Ne.symm xl),QC]
 ·rw[Qs (Ne.symm xd),QC];rfl
 ·simp only[Xe,XM,or_false,not_or]at hb
  obtain⟨b1,b2,b3,b4,b5⟩:=hb;rw[Qs b1,Qs b5,Qs b1,Qs b4,Qs b1,Qs b3,Qs b1,Qs b2]
inductive R_lay1:Qz->List OT->(Qz->Prop)->Prop
 |mk {N:Qz} {s e:List Key} {r:Int} (h1:N.ends.length<900) (h2:N.rooms.length<900) (h3:N.leav.length<900) (h4:∀k ns,QL N.leav k=some ns->ns.length<900):R_lay1 N [.fz (QS s),.fz (QS e),.fz (.int r)] (fun N'=>N'=JF N s e r)
def IS:Qp Zad Zad (Q0 Kh):=by walk_at"p"
def LO (T:Bl mg) (U:Tx K mg C gS gE) (D:Mf K C "lay_one" "Net.lay_one" Kh Zad):Zv P w K mg base C "lay_one" Zad 1 (spN K P w C R_lay1):=by
 refine D.evN IS (fun M ts Ψ h=>by cases h;rfl) (fun f cdv A outer s H E v M ts Ψ hr h=>?_)
 cases h with
 |@mk s' e r h1 h2 h3 h4 =>
   refine⟨_,(Q5 (Zo (VL PySem.F.plainAttrs_list PySem.F.slot_list_append PySem.F.type_list_append VS (C2 (Vw hr) (QZ (pv 0) rfl) (pv 1) (Z4 Qr) ⟨rfl,rfl,rfl,rfl⟩) (Qo (Zz Yw (by rfl) T.len Yx (Qo (QZ (pv 0) rfl) Qr)) Qr)))
 (Q5 (Zo (VL PySem.F.plainAttrs_list PySem.F.slot_list_append PySem.F.type_list_append VS (QZ (pv 0) rfl) (Qo (pv 2) Qr)))
 (Q4 (Zo (VL PySem.F.plainAttrs_list PySem.F.slot_list_append PySem.F.type_list_append VS (QZ (pv 0) rfl) (Qo (pv 3) Qr)))))),?_⟩
   show Q1 K _ [some _,some _,some _,some _] _
   walk_at"x"
   refine QI (Eo (N:=M) (n:=(M.ends.length:Int)) U.net rfl (Qt rfl) (by omega) (fun ns hns=>?_) (SO (N:={ M with leav:=V1 M.leav s' }) U.net rfl) ?_)
   ·rw[DR,Xd rfl]at hns
    cases hns
    cases z:QL M.leav s' with
    |none=>decide
    |some ms=>have:=h4 s' ms z;show ms.length<1000;omega
   walk_at"d"
   refine QI (Ew U.net rfl (Qt rfl) (show M.ends.length<1000 by omega) ?_)
   walk_at"d"
   refine Eu U.net rfl (Qt rfl) (show M.rooms.length<1000 by omega) ?_
   walk_at"d"
   exact⟨_,rfl,rfl⟩
abbrev Y9:QR Nd:=fun _ _=>0
inductive R_lay:Qz->List OT->(Qz->Prop)->Prop
 |mk {N:Qz} {L:Lay Nd} {s e:Nd} {r:Int} (h:NetR N L Y9) (new:(s,e)∉L.map (fun x=>(x.1,x.2.1))) (l:L.length<400):R_lay N [.fz (QS (nk s)),.fz (QS (nk e)),.fz (.int r)] (fun N'=>NetR N' (L++[(s,e,r)]) Y9)
def Ej:Qp Zad Zad (Q0 Hf):=by walk_at"p"
def Tl (T:Bl mg) (U:Tx K mg C gS gE) (D:Mf K C "lay" "Net.lay" Hf Zad) (Xbk:Zv P w K mg base C "lay_one" Zad 1 (spN K P w C R_lay1)):Zv P w K mg base C "lay" Zad 2 (spN K P w C R_lay):=by
 refine D.evN Ej (fun M ts Ψ h=>by cases h;rfl) (fun f cdv A outer s H E v M ts Ψ hr h=>?_)
 cases h with
 |@mk L s' e r h new l =>
   refine⟨_,(Q5 (Fj (Dj hr) (QZ (pv 0) rfl) (Yy (Qo (pv 1) (Qo (pv 2) Qr))) (Zz Yw (by rfl) T.len Yx (Qo (QZ (pv 0) rfl) Qr)) rfl)
 (Q5 (Zo (Yo Xbk U.net hr (pv 0) (Qo (pv 1) (Qo (pv 2) (Qo (pv 3) Qr)))))
 (Q4 (Zo (Yo Xbk U.net hr (pv 0) (Qo (pv 2) (Qo (pv 1) (Qo Qy Qr)))))))),?_⟩
   show Q1 K _ [some _,some _,some _,some _] _
   walk_at"x"
   have le:=h.elen;have lr:M.rooms.length=2*L.length:=by rw[h.rooms,Ka]
   have l1:=h.l1;have l2:=h.l2;have l3:=h.l3;refine QI (Ak (N:=M) (n:=(M.ends.length:Int)) (k1:=nk s') (k2:=nk e) U.net rfl (SO U.net rfl) (YC (QY (Qt rfl) (QY (Qt rfl) Z7)) Wr) (by omega) ?_)
   walk_at"d"
   refine QI (WW (ΦA:=fun ts=>ts=[.fz (QS (nk s')),.fz (QS (nk e)),.fz (.int r)]) So rfl (Wz (Qv (Qt rfl) (Qv (Qt rfl) (Qv (Qt rfl) Q3))) rfl) (fun ts hts=>?_));subst hts;refine⟨_,R_lay1.mk (show M.ends.length<900 by omega) (show M.rooms.length<900 by omega) (show M.leav.length<900 by omega) (fun k ns hk=>by have:=l3 k ns hk;omega),fun N' hN=>?_⟩;subst hN;walk_at"d"
   refine WW (ΦA:=fun ts=>ts=[.fz (QS (nk e)),.fz (QS (nk s')),.fz (.int 0)]) So rfl (Wz (Qv (Qt rfl) (Qv (Qt rfl) (Qv Q8 Q3))) rfl) (fun ts hts=>?_);subst hts;refine⟨_,R_lay1.mk ?a1 ?a2 ?a3 ?a4,fun N' hN=>?_⟩
   case a1=>show(M.ends++[nk e]).length<900;rw[Xo,le];show 2*L.length+1<900;omega
   case a2=>show(M.rooms++[r]).length<900;rw[Xo,lr];show 2*L.length+1<900;omega
   case a3 =>
    show(V0 (V1 M.leav (nk s')) (nk s') _).length<900
    rw[B7];have:=D2 M.leav (nk s');omega
   case a4 =>
    intro k ns hk;rw[Up]at hk;by_cases z:k=nk s'
    ·rw[Xd z]at hk
     cases hk
     have:((QL M.leav (nk s')).getD []).length<=2*L.length:=by
      cases q:QL M.leav (nk s') with
      |none=>exact XN _
      |some ms=>exact l3 _ ms q
     show((QL M.leav (nk s')).getD []++[_]).length<900
     rw[Xo];show _+1<900;omega
    ·rw[Xb z]at hk
     have:=l3 k ns hk
     omega
   subst hN;walk_at"d"
   exact⟨_,Cz (r:=r) h rfl new,rfl⟩
def Ge (L:Lay Nd)(φ:QR Nd)(p q:Nd):Int:=if (p,q)∈L.map (fun x=>(x.1,x.2.1)) then φ p q else 0
inductive R_flow (P:Program)(w:World)(C:Addr):List OT->(OT->Prop)->Prop
 |mk {N:Qz} {L:Lay Nd} {φ:QR Nd} {p q:Nd} (h:NetR N L φ):R_flow P w C [.zow (ZR P w C N),.fz (QS (nk p)),.fz (QS (nk q))] (fun r=>r=.fz (.int (Ge L φ p q)))
def EV:Qp Zaj Zaj (Q0 HA):=by walk_at"p"
def Lk (T:Bl mg) (U:Tx K mg C gS gE) (D:Mf K C "flow" "Net.flow" HA Zaj):Zv P w K mg base C "flow" Zaj 1 (Zg K (R_flow P w C)):=by
 refine D.evD EV (fun ts Φ h=>by cases h;rfl) (fun _ _ _ _ s H E ts Φ hr h=>?_)
 cases h with
 |@mk N L φ p q h =>
   refine⟨_,(Q5 (Zw (YW (AL (Dj hr) (Yy (Qo (pv 1) (Qo (pv 2) Qr))) (QZ (pv 0) rfl))) (Q4 (QU Qy)) Z0)
 (Q4 (QU (QO QN (QZ (pv 0) rfl) (Za Du (Ff (Dj hr) (QZ (pv 0) rfl) (Yy (Qo (pv 1) (Qo (pv 2) Qr))) (fun _ _=>rfl)) Qy))))),?_⟩
   show Q1 K _ [some _,some _,some _] _
   walk_at"x"
   have key:∀{ρ:Q6},ρ[1]?=some (some (.fz (QS (nk p))))->ρ[2]?=some (some (.fz (QS (nk q))))->Qu K (Jj (QE (QB 1) (QE (QB 2) QP))) ρ (.tuple [QS (nk p),QS (nk q)]):=fun e1 e2=>YC (QY (Qt e1) (QY (Qt e2) Z7)) Wr;refine QI (Z1 (b := !(ZF N.laid (nk p,nk q)).isSome) (ZV (AO U.net (key rfl rfl) rfl)) (fun c=>Vg Q8 ?_) (fun c=>ZI ?_))
   ·have c:ZF N.laid (nk p,nk q)=none:=by
     cases z:ZF N.laid (nk p,nk q) with
     |none=>rfl
     |some n=>rw[z]at c;cases c
    show OT.fz (.int 0)=_;unfold Ge;rw[Xb (fun hm=>?_)];obtain⟨x,hx,ex⟩:=XJ.mp hm;obtain⟨i,hi⟩:=List.mem_iff_getElem?.mp hx
    have:=h.laid i x hi
    injection ex with e1 e2;rw[e1,e2,c]at this;cases this
   ·have hm:(p,q)∈L.map (fun x=>(x.1,x.2.1)):=by
     apply Classical.byContradiction
     intro hn;rw[h.laid0 p q hn]at c;cases c
    obtain⟨x,hx,ex⟩:=XJ.mp hm;obtain⟨i,hi⟩:=List.mem_iff_getElem?.mp hx;have hl:=h.laid i x hi;injection ex with e1 e2
    rw[e1,e2]at hl;have hr':N.rooms[2*i+1]?=some (φ p q):=by
     rw[h.rooms,Uw];unfold rmE;have a:(2*i+1)/2=i:=by omega
     have b:¬(2*i+1)%2=0:=by omega
     rw[a,hi];simp only[YJ,Xb b,e1,e2]
    have ea:atI (N.rooms.map PyData.int) (Builtin.bitXor ((2*i:Nat):Int) 1)=some (.int (φ p q)):=by
     rw[HP];have a:Ze7 (2*i)=2*i+1:=by unfold Ze7;rw[Xd (by omega)]
     rw[a];exact Yn (by rw[Xt,hr'];rfl)
    refine Vg (DQ (N:=N) U.net rfl (Z8 (g:=Builtin.bitXor) (FU (n:=((2*i:Nat):Int)) U.net rfl (key rfl rfl) hl) Q8) ea) ?_;unfold Ge;rw[Xd hm]
def LE {K:W.Frag}{ρ:Q6}{ta:TE}{ds:Qd}(h:Qu K ta ρ (.list ds)):Ze K (fun σ H Q=>ta σ H fun x H'=>∃k,M1 K x H' k/\Q k H') ρ (!ds.isEmpty):=fun H0 F σ H Q S q=>h H0 F σ H _ S fun F1 H1 v x1 r1=>by
 obtain⟨a,xs,rfl,h1,h2,_⟩:=U1 (K:=K) r1 x1.fh;refine⟨_,.inl ⟨xs,h1,rfl⟩,?_⟩
 have e:xs.isEmpty=ds.isEmpty:=by
  have:=h2.length
  cases xs<;>cases ds<;>simp at this ⊢
 rw[e];exact q F1 H1 x1
def YN (n:Nd):PyData:=QS (nk n)
inductive R_reached (P:Program)(w:World)(C:Addr):List OT->(OT->Prop)->Prop
 |mk {N:Qz} {L:Lay Nd} {φ:QR Nd} {s:Nd} (h:NetR N L φ) (l:L.length<400):R_reached P w C [.zow (ZR P w C N),.fz (QS (nk s))] (fun r=>∃v es,r=.own v (Vk (kvG es))/\Tree L φ s es/\VC L φ es)
structure ReachI (L:Lay Nd)(φ:QR Nd)(s:Nd)(es0 es:Got Nd)(U fu:List Nd):Prop where
 tree:Tree L φ s es
 fin:∀n∈fu,n∈QT es
 sub:∀n∈QT es0,n∈QT es
 done:Ji L φ es (U++fu)
 len:es.length=es0.length+fu.length
def J8:Qp ["self","start","edges","latest","further","node","edge"] ZaK (Q0 Ki):=by walk_at"p"
def EB (T:Bl mg) (U:Tx K mg C gS gE) (D:Mf K C "reached" "Net.reached" Ki ZaK):Zv P w K mg base C "reached" ZaK 1 (Zg K (R_reached P w C)):=by
 refine D.evD J8 (fun ts Φ h=>by cases h;rfl) (fun _ _ _ _ s H E ts Φ hr h=>?_)
 cases h with
 |@mk N L φ s' h l =>
   refine⟨_,(Q5 (QW (i:=2) J8.nd rfl Qa (Aa (Vw hr) (pv 1) Gi))
 (Q5 (QW (i:=3) J8.nd rfl Qa (Z4 (Qo (pv 1) Qr)))
 (Q5 (Ha PassesOwn.never (Ai (pv 3) (fun _=>rfl)) (Q5 (QW (i:=4) J8.nd rfl Qa (Z4 Qr))
 (Q5 (Vr PassesOwn.never rfl (WQ (pv 3)) (Zr (i:=5) J8.nd rfl Qa) (Q4 (Vr PassesOwn.never rfl (WQ (CM (Vw hr) (QZ (pv 0) rfl) (pv 5) (Z4 Qr) ⟨rfl,rfl,rfl,rfl⟩)) (Zr (i:=6) J8.nd rfl Qa) (Q4 (Zw (PW.pt (Jw (ZS WJ (QO QN (QZ (pv 0) rfl) (pv 6)) Qy (ZA _)) (Uk (YW (A2 (Vw hr) (QO QN (QZ (pv 0) rfl) (pv 6)) (pv 2)))))) (Q5 (Gr (Vw hr) (pv 2) (QO QN (QZ (pv 0) rfl) (pv 6)) (pv 6) rfl)
 (Q4 (Zo (VL PySem.F.plainAttrs_list PySem.F.slot_list_append PySem.F.type_list_append VS (pv 4) (Qo (QO QN (QZ (pv 0) rfl) (pv 6)) Qr))))) Z0)))))
 (Q4 (QW (i:=3) J8.nd rfl Qa (pv 4))))))
 (Q4 (QU (pv 2)))))),?_⟩
   show Q1 K _ [some _,some _,none,none,none,none,none] _
   walk_at"x"
   refine QI (Bv (FR (k:=nk s') (d:=.none) (Qt rfl) Ww) (fun v=>?_))
   walk_at"d"
   refine QI (VY (Vi (ds:=[QS (nk s')]) (QY (Qt rfl) Z7) YM) ?_)
   walk_at"d"
   refine UT 3 rfl ?_
   walk_at"d"
   have bnd:∀es,Tree L φ s' es->es.length<=2*L.length+1:=fun es t=>by have:=t.len;rw[Sy]at this;exact this
   refine QI (DG (fun m ρ'=>∃(es:Got Nd) (lt:List Nd) (u4 u5 u6:Option OT),Tree L φ s' es/\(∀n∈lt,n∈QT es)/\Ji L φ es lt/\m=2*(2*L.length+2-es.length)+(if lt=[] then 0 else 1) /\
    ρ'=[some (.zow (ZR P w C N)),some (.fz (QS (nk s'))),some (.own v (Vk (kvG es))),some (.fz (.list (lt.map YN))),u4,u5,u6]) _ ⟨[(s',none)],[s'],none,none,none,.root,(fun n hn=>by simpa [QT] using hn),?d0,rfl,rfl⟩ ?ws)
   case d0 =>
    intro e m n r h1 h2 h3 h4 h5 h6;have:m=s':=by simpa [QT] using h5
    exact Xl (by rw[this];exact Xa) h6
   case ws =>
    rintro m _ ⟨es,lt,u4,u5,u6,tr,sb,dn,rfl,rfl⟩
    refine⟨_,LE (ds:=lt.map YN) (Qt rfl),fun c=>?_,fun c=>?_⟩
    ·have hlt:lt≠[]:=fun z=>by rw[z]at c;cases c
     rw[Xb hlt];refine QI (VY (Vi (ds:=[]) Z7 (by decide)) ?_)
     walk_at"d"
     refine QI (V3 (ds:=lt.map YN) (fun i ρ'=>∃(es':Got Nd) (fu:List Nd) (u5 u6:Option OT),ReachI L φ s' es es' (lt.drop i) fu /\
      ρ'=[some (.zow (ZR P w C N)),some (.fz (QS (nk s'))),some (.own v (Vk (kvG es'))),some (.fz (.list (lt.map YN))),some (.ol (fu.map YN)),u5,u6]) (JX (Qt rfl)) ⟨es,[],_,_,⟨tr,(fun n hn=>nomatch hn),fun n hn=>hn,by rw[List.drop_zero,Xz];exact dn,by simp⟩,rfl⟩ ?st ?fin)
     case fin =>
      rintro _ ⟨es',fu,w5,w6,I,rfl⟩
      rw[Xm]at I;have dn':=I.done;rw[List.drop_length,List.nil_append]at dn';refine UT 4 rfl ?_
      walk_at"d"
      refine Zu (Qt rfl) ?_
      walk_at"d"
      refine⟨2*(2*L.length+2-es'.length)+(if fu=[] then 0 else 1),?_,es',fu,_,_,_,I.tree,I.fin,dn',rfl,rfl⟩;have b1:=bnd es' I.tree;have b2:=I.len
      by_cases z:fu=[]
      ·rw[Xd z]
       rw[z]at b2;simp at b2;omega
      ·rw[Xb z]
       have:0<fu.length:=Mc.mpr z
       omega
     case st =>
      rintro i d _ hd ⟨es1,fu1,w5,w6,I1,rfl⟩
      have hi:i<lt.length:=by
       have:=(Xg.mp hd).1
       simpa using this
      obtain rfl:d=YN lt[i]:=by simpa [hi] using hd.symm
      have hdr:lt.drop i=lt[i]::lt.drop (i+1):=List.drop_eq_getElem_cons hi;generalize lt[i]=x at hdr;refine⟨_,Z2,?_⟩
      walk_at"d"
      refine V3 (ds:=((QL N.leav (nk x)).getD []).map PyData.int) (fun j ρ'=>∃(es2:Got Nd) (fu2:List Nd) (u6:Option OT),ReachI L φ s' es es2 (lt.drop i) fu2 /\
       (∀(k:Nat) (n:Nd) (r:Int),(k:Int)∈((QL N.leav (nk x)).getD []).take j->hdE L k=some n->rmE L φ k=some r->0<r->n∈QT es2) /\
       ρ'=[some (.zow (ZR P w C N)),some (.fz (QS (nk s'))),some (.own v (Vk (kvG es2))),some (.fz (.list (lt.map YN))),some (.ol (fu2.map YN)),some (.fz (YN x)),u6]) (JX (CZ (k:=nk x) U.net rfl (Qt rfl))) ⟨es1,fu1,_,I1,(fun k n r hk=>by simp at hk),rfl⟩ ?st2 ?fin2
      case fin2 =>
       rintro _ ⟨es2,fu2,w6,I2,dn2,rfl⟩
       refine⟨es2,fu2,_,_,⟨I2.tree,I2.fin,I2.sub,?_,I2.len⟩,rfl⟩;rw[Xm,J9]at dn2;intro e m n r h1 h2 h3 h4 h5 h6;by_cases z:m=x
       ·subst z
        exact dn2 e n r ((h.leav m (e:Int)).mpr ⟨e,rfl,h1⟩) h2 h3 h4
       ·refine I2.done e m n r h1 h2 h3 h4 h5 ?_
        rw[hdr,Jc,Xe,not_or];exact⟨z,h6⟩
      case st2 =>
       rintro j d2 _ hd2 ⟨es2,fu2,w6,I2,dn2,rfl⟩
       have hj:j<((QL N.leav (nk x)).getD []).length:=by
        have:=(Xg.mp hd2).1
        simpa using this
       obtain⟨k,ek,tk⟩:=(h.leav x _).mp (W9 hj)
       obtain rfl:d2=.int (k:Int):=by
        rw[Xt,UD hj]at hd2;rw[ek]at hd2;simpa using hd2.symm
       obtain⟨y,hy⟩:∃y,L[k/2]?=some y:=by
        unfold tlE at tk;cases z:L[k/2]? with
        |none=>rw[z]at tk;cases tk
        |some y=>exact⟨y,rfl⟩
       obtain⟨n,hn⟩:∃n,hdE L k=some n:=⟨_,by unfold hdE;rw[hy];rfl⟩;obtain⟨r,hr'⟩:∃r,rmE L φ k=some r:=⟨_,by unfold rmE;rw[hy];rfl⟩;have ra:atI (N.rooms.map PyData.int) (k:Int)=some (.int r):=Yn (by rw[Xt,h.rooms,Uw,hr'];rfl);have ea:atI (N.ends.map QS) (k:Int)=some (QS (nk n)):=Yn (by rw[h.ends,Y3,Xt,DD,hn];rfl);have tks:((QL N.leav (nk x)).getD []).take (j+1)=((QL N.leav (nk x)).getD []).take j++[(k:Int)]:=by rw[JD,UD hj,ek];rfl
       have bes:=bnd es2 I2.tree;have ben:=I2.len;refine⟨_,Z2,?_⟩
       walk_at"d"
       have eend:∀{ρ:Q6},ρ[0]?=some (some (.zow (ZR P w C N)))->ρ[6]?=some (some (.fz (.int (k:Int))))->Qu K (tOp (rIx K) (ZL K (QB 0) "ends") (QB 6)) ρ (QS (nk n)):=fun e0 e6=>R9 U.net e0 (Qt e6) ea;refine Z1 (b:=decide (r > 0) && !(V7 (kvG es2) (nk n)).isSome) (Wv (Z5 (Wb (DQ U.net rfl (Qt rfl) ra) Q8)) (fun _=>ZV (EG (eend rfl rfl) rfl))) (fun c=>?_) (fun c=>ZI ?_)
       ·rw[Gk]at c
        have c1:r > 0:=X7 (Bool.and_eq_true_iff.mp c).1;have c2:n∉QT es2:=by simpa using (Bool.and_eq_true_iff.mp c).2
        refine QI (Cv rfl (Qt rfl) (eend rfl rfl) (by rw[show(kvG es2).length=es2.length from Xm _];exact ZT (by omega)) ?_)
        walk_at"d"
        rw[CP c2];refine Ul (ds:=fu2.map YN) rfl (eend rfl rfl) (by rw[Xm];omega) ?_
        walk_at"d"
        have km:x∈QT es2:=I2.sub x (sb x (List.mem_of_mem_drop (by rw[hdr];exact Xa)));refine⟨es2++[(n,some k)],fu2++[n],_,⟨I2.tree.add c2 hn tk km hr' c1,fun z hz=>?_,fun z hz=>Ja.mpr (.inl (I2.sub z hz)),?_,by simp;omega⟩,fun k' n' r' hk' q1 q2 q3=>?_,by rw[Xy];rfl⟩
        ·rcases XG.mp hz with hz|hz
         ·exact Ja.mpr (.inl (I2.fin z hz))
         ·exact Ja.mpr (.inr (by simpa using hz))
        ·exact I2.done.add n (some k)
        ·rw[tks]at hk'
         rcases XG.mp hk' with z|z
         ·exact Ja.mpr (.inl (dn2 k' n' r' z q1 q2 q3))
         ·have:k'=k:=by have:=Xh.mp z;omega
          subst this;rw[hn]at q1;cases q1;exact Ja.mpr (.inr rfl)
       ·rw[Gk]at c
        refine⟨es2,fu2,_,I2,fun k' n' r' hk' q1 q2 q3=>?_,rfl⟩;rw[tks]at hk';rcases XG.mp hk' with z|z
        ·exact dn2 k' n' r' z q1 q2 q3
        ·have:k'=k:=by have:=Xh.mp z;omega
         subst this;rw[hn]at q1;rw[hr']at q2;cases q1
         cases q2
         apply Classical.byContradiction
         intro hq;have q3':r > 0:=q3
         simp[q3',hq]at c
    ·have hlt:lt=[]:=by
      cases lt with
      |nil=>rfl
      |cons a b=>cases c
     subst hlt;exact Dw rfl ⟨v,es,rfl,tr,dn.closed⟩
def Yj (w:Qk):Qd:=w.map fun(e:Nat)=>PyData.int (e:Int)
def SM {L:Lay Nd}{es:Got Nd}{n:Nd}{w:Qk}(b:Back L es n w):V7 (kvG es) (nk n)=some (JK w.head?):=by
 rw[DZ];cases b with
 |nil h=>rw[h];rfl
 |cons h t b=>rw[h];rfl
def Nv {L:Lay Nd}{φ:QR Nd}{e:Nat}{r:Int}(h:rmE L φ e=some r):e<2*L.length:=by
 unfold rmE at h;cases z:L[e/2]? with
 |none=>rw[z]at h;cases h
 |some x=>have:=(Xg.mp z).1;omega
def Rb {L:Lay Nd}{φ:QR Nd}{s n:Nd}{es:Got Nd}{w:Qk}(q:WayOk L φ s es n w):w.length<=2*L.length:=by
 have:=Hi (ys:=List.range (2*L.length)) q.nodup fun e he=>by
  obtain⟨r,hr,_⟩:=q.room e he;exact XU.mpr (Nv hr)
 simpa using this
inductive R_way (P:Program)(w:World)(C:Addr):List OT->(OT->Prop)->Prop
 |mk {N:Qz} {L:Lay Nd} {φ:QR Nd} {s n:Nd} {es:Got Nd} {wy:Qk} (h:NetR N L φ) (l:L.length<400) (q:WayOk L φ s es n wy):R_way P w C [.zow (ZR P w C N),.zow (Jh (kvG es)),.fz (QS (nk n))] (fun r=>r=.ol (Yj wy))
def BO:Qp ["self","edges","end","way","edge"] ZaB (Q0 Kk):=by walk_at"p"
def TQ (T:Bl mg) (U:Tx K mg C gS gE) (D:Mf K C "way_to" "Net.way_to" Kk ZaB):Zv P w K mg base C "way_to" ZaB 1 (Zg K (R_way P w C)):=by
 refine D.evD BO (fun ts Φ h=>by cases h;rfl) (fun _ _ _ _ s H E ts Φ hr h=>?_)
 cases h with
 |@mk N L φ s' n es wy h l q =>
   refine⟨_,(Q5 (QW (i:=3) BO.nd rfl Qa (Z4 Qr))
 (Q5 (QW (i:=4) BO.nd rfl Qa (Rt (Vw hr) (pv 1) (pv 2) (fun _ _=>rfl)))
 (Q5 (Ha PassesOwn.never (YW (Fz (pv 4))) (Q5 (Zo (VL PySem.F.plainAttrs_list PySem.F.slot_list_append PySem.F.type_list_append VS (pv 3) (Qo (pv 4) Qr)))
 (Q4 (QW (i:=4) BO.nd rfl Qa (Rt (Vw hr) (pv 1) (QO QN (QZ (pv 0) rfl) (Za Du (pv 4) Qy)) (fun _ _=>rfl))))))
 (Q4 (QU (pv 3)))))),?_⟩
   show Q1 K _ [some _,some _,some _,none,none] _
   walk_at"x"
   have wl:=Rb q;refine QI (VY (Vi (ds:=[]) Z7 (by decide)) ?_)
   walk_at"d"
   refine QI (Zu (Rp rfl (Qt rfl) (SM q.back)) ?_)
   walk_at"d"
   refine QI (DG (fun m ρ'=>∃(dn rs:Qk) (n':Nd),m=rs.length/\dn++rs=wy/\Back L es n' rs/\ρ'=[some (.zow (ZR P w C N)),some (.zow (Jh (kvG es))),some (.fz (QS (nk n))),some (.ol (Yj dn)),some (.fz (JK rs.head?))]) wy.length ⟨[],wy,n,rfl,rfl,q.back,rfl⟩ ?ws)
   case ws =>
    rintro m _ ⟨dn,rs,n',rfl,hw,b,rfl⟩
    refine⟨_,ZV (NH (Qt rfl)),fun c=>?_,fun c=>?_⟩
    ·cases b with
     |nil h0=>cases c
     |@cons _ m' e rs' h0 t0 b0 =>
       have dl:dn.length<1000:=by
        have:=X0 List.length hw
        rw[Xo]at this;omega
       refine QI (Ul (ds:=Yj dn) (d:=.int (e:Int)) rfl (Qt rfl) (by unfold Yj;rw[Xm];exact dl) ?_)
       walk_at"d"
       have ea:atI (N.ends.map QS) (Builtin.bitXor (e:Int) 1)=some (QS (nk m')):=by
        rw[HP];exact Yn (by rw[h.ends,Y3,Xt,Az,t0];rfl)
       refine Zu (Rp rfl (R9 U.net rfl (Z8 (g:=Builtin.bitXor) (Qt rfl) Q8) ea) (SM b0)) ?_
       walk_at"d"
       refine⟨rs'.length,WA _,dn++[e],rs',m',rfl,by rw[<- hw,GF];rfl,b0,?_⟩;unfold Yj;rw[Xy];rfl
    ·have:rs=[]:=by
      cases rs with
      |nil=>rfl
      |cons a b=>cases c
     subst this;rw[Xz]at hw;subst hw;exact Gn rfl rfl
def amt (L:Lay Nd)(φ:QR Nd)(w:Qk):Int:=Ye (w.map fun e=>(rmE L φ e).getD 0)
inductive R_push:Qz->List OT->(Qz->Prop)->Prop
 |mk {N:Qz} {L:Lay Nd} {φ:QR Nd} {wy:Qk} (h:NetR N L φ) (hd:Dis L) (ne:wy≠[]) (hin:∀e∈wy,∃r,rmE L φ e=some r) (hl:wy.length<900):R_push N [.fz (.list (Yj wy))] (fun N'=>NetR N' L (Y6 L (amt L φ wy) φ wy))
def NetR.rm {N:Qz}{L:Lay Nd}{φ:QR Nd}(h:NetR N L φ){e:Nat}(he:e<2*L.length):∃r,N.rooms[e]?=some r/\(Vq L φ)[e]?=some r:=by
 have:e<(Vq L φ).length:=by rw[Ka];exact he
 exact⟨(Vq L φ)[e],by rw[h.rooms,UD this],UD this⟩
def NetR.push {N:Qz}{L:Lay Nd}{φ:QR Nd}(h:NetR N L φ)(hd:Dis L){a r r':Int}{e:Nat}(h1:(Vq L φ)[e]?=some r)(h2:(Vq L φ)[Ze7 e]?=some r'):NetR { N with rooms:=(N.rooms.set e (r-a)).set (Ze7 e) (r'+a) } L (V9 L a φ e) :=
 ⟨h.ends,by show(N.rooms.set e (r-a)).set (Ze7 e) (r'+a)=_;rw[h.rooms,EL hd h1 h2],h.leav,h.laid,h.laid0,h.l1,h.l2,h.l3⟩
def EJ {L:Lay Nd}{a:Int}{φ:QR Nd}{wy:Qk}{i e:Nat}(h:wy[i]?=some e):Y6 L a φ (wy.take (i+1))=V9 L a (Y6 L a φ (wy.take i)) e:=by
 have t:wy.take (i+1)=wy.take i++[e]:=by rw[JD,h];rfl
 rw[t];unfold Y6;rw[List.foldl_append];rfl
def HR:Qp ["self","way","amount","edge"] ["self","way"] (Q0 BN):=by walk_at"p"
def Lu (T:Bl mg) (U:Tx K mg C gS gE) (D:Mf K C "push" "Net.push" BN ["self","way"]):Zv P w K mg base C "push" ["self","way"] 1 (spN K P w C R_push):=by
 refine D.evN HR (fun M ts Ψ h=>by cases h;rfl) (fun f cdv A outer s H E v M ts Ψ hr h=>?_)
 cases h with
 |@mk L φ wy h hd ne hin hl =>
   refine⟨_,(Q5 (QW (i:=2) HR.nd rfl Qa (Zz LS (by rfl) T.min Be (Qo (Y8 (NX:=["self","way","amount","edge"]) (sc:=Q0 BN) (N:=["edge","self"]) (f:=[none,some 0]) rfl (by decide +kernel) rfl rfl (WQ (pv 1)) (fun _=>(Zr (i:=0) (show(["edge","self"]:Qh).Nodup by decide +kernel) rfl Qa)) (fun _=>V5) (fun _=>YE) (fun _=>(QO QN (QZ (pv 1) rfl) (pv 0)))) Qr)))
 (Q4 (Vr PassesOwn.never rfl (WQ (pv 1)) (Zr (i:=3) HR.nd rfl Qa) (Q5 (Gp (QZ (pv 0) rfl) (pv 3) G1 (pv 2) TJ WU)
 (Q4 (Gp (QZ (pv 0) rfl) (Za Du (pv 3) Qy) G1 (pv 2) Bn WU)))))),?_⟩
   show Q1 K _ [some _,some _,none,none] _
   walk_at"x"
   refine QI (Zu (d:=.int (amt L φ wy)) (Ev 0 rfl rfl (Lh (ns:=wy.map fun e=>(rmE L φ e).getD 0) (Qu.cast (EvO.fz (Jr (xs:=wy) (enc:=fun(e:Nat)=>PyData.int (e:Int)) (h:=fun e=>.int ((rmE L φ e).getD 0)) ?ei (by omega) ?el)) (by rw[Y3];rfl)) rfl (fun z=>ne (List.map_eq_nil_iff.mp z)))) ?_)
   case ei=>exact JX (Qt rfl)
   case el =>
    intro e he c;refine⟨_,Z2,?_⟩
    walk_at"e"
    obtain⟨r,hr'⟩:=hin e he;refine Qu.cast (DQ (N:=M) (m:=r) U.net rfl (Qt rfl) ?_) (by rw[hr'];rfl);exact Yn (by rw[Xt,h.rooms,Uw,hr'];rfl)
   walk_at"d"
   generalize amt L φ wy=a;refine V3 (ds:=Yj wy) (fun i ρ'=>∃(N':Qz) (u3:Option OT),NetR N' L (Y6 L a φ (wy.take i))/\ρ'=[some (.own v (Zc P w C N')),some (.fz (.list (Yj wy))),some (.fz (.int a)),u3]) (JX (Qt rfl)) ⟨M,_,h,rfl⟩ ?st ?fin
   case fin =>
    rintro _ ⟨N',u3,hN,rfl⟩
    unfold Yj at hN;rw[Xm,J9]at hN;exact⟨N',hN,rfl⟩
   case st =>
    rintro i d _ hd' ⟨N',u3,hN,rfl⟩
    have hi:i<wy.length:=by
     have:=(Xg.mp hd').1
     unfold Yj at this;simpa using this
    obtain rfl:d=.int (wy[i]:Int):=by
     unfold Yj at hd';simpa [hi] using hd'.symm
    obtain⟨r0,hr0⟩:=hin wy[i] (W9 hi);have el:=Nv hr0;rw[EJ (UD hi)];generalize wy[i]=e at el;have em:Ze7 e<2*L.length:=by unfold Ze7;split<;>omega
    have me:Ze7 e≠e:=by unfold Ze7;split<;>omega
    obtain⟨r,h1,h2⟩:=My.NetR.rm hN el;obtain⟨r',h3,h4⟩:=My.NetR.rm hN em;refine⟨_,Z2,?_⟩
    walk_at"d"
    refine QI (S6 (N:=N') (f:=fun i j=>i-j) (k:=(e:Int)) (m:=r) (n:=a) U.net rfl (Qt rfl) (by omega) (by rw[XS];exact h1) (Qt rfl) ?_)
    walk_at"d"
    rw[XS];refine S6 (f:=fun i j=>i+j) (k:=(Ze7 e:Int)) (m:=r') (n:=a) U.net rfl (Qu.cast (Z8 (g:=Builtin.bitXor) (Qt rfl) Q8) (by rw[HP])) (by omega) (by rw[XS];show(N'.rooms.set e (r-a))[Ze7 e]?=_;rw[Xp (Ne.symm me)];exact h3) (Qt rfl) ?_
    walk_at"d"
    rw[XS];exact⟨_,_,My.NetR.push hN hd h2 h4,rfl⟩
inductive R_fill:Qz->List OT->(Qz->Prop)->Prop
 |mk {N:Qz} {y:Yd} {G:Gv} {φ:QR Nd} (h:NetR N (Zd y G) φ) (F:Flow y G φ) (l:(Zd y G).length<400):R_fill N [.fz (QS (nk .start)),.fz (QS (nk .fin))] (fun N'=>∃φ' es,NetR N' (Zd y G) φ'/\Flow y G φ'/\Nd.start∈QT es/\VC (Zd y G) φ' es/\Nd.fin∉QT es)
def HK:Qp ["self","start","end","edges"] Zaj (Q0 HZ):=by walk_at"p"
def LG (T:Bl mg) (U:Tx K mg C gS gE) (D:Mf K C "fill" "Net.fill" HZ Zaj) (Xba:Zv P w K mg base C "reached" ZaK 1 (Zg K (R_reached P w C))) (Xbw:Zv P w K mg base C "push" ["self","way"] 1 (spN K P w C R_push)) (Xbx:Zv P w K mg base C "way_to" ZaB 1 (Zg K (R_way P w C))) :
 Zv P w K mg base C "fill" Zaj 2 (spN K P w C R_fill):=by
 refine D.evN HK (fun M ts Ψ h=>by cases h;rfl) (fun f cdv A outer s H E v M ts Ψ hr h=>?_)
 cases h with
 |@mk y G φ h F l =>
   refine⟨_,(Q5 (QW (i:=3) HK.nd rfl Qa (Yo Xba U.net hr (pv 0) (Qo (pv 1) Qr)))
 (Q4 (Ha PassesOwn.never (YW (Ju (Vw hr) (pv 2) (pv 3))) (Q5 (Zo (Yo Xbw U.net hr (pv 0) (Qo (Yo Xbx U.net hr (pv 0) (Qo (pv 3) (Qo (pv 2) Qr))) Qr)))
 (Q4 (QW (i:=3) HK.nd rfl Qa (Yo Xba U.net hr (pv 0) (Qo (pv 1) Qr)))))))),?_⟩
   show Q1 K _ [some _,some _,some _,none] _
   walk_at"x"
   have VX:∀{M:Qz} {φ:QR Nd} {u:Option OT} {E':XK},NetR M (Zd y G) φ->Zl K (ZY C "reached" (Zg K (R_reached P w C)) [] E' (QB 0) (QE (QB 1) QP)) [some (.own v (Zc P w C M)),some (.fz (QS (nk .start))),some (.fz (QS (nk .fin))),u] (fun r=>∃v' es,r=.own v' (Vk (kvG es))/\Tree (Zd y G) φ .start es/\VC (Zd y G) φ es):=fun h' =>
    Hv 0 rfl (fun r ⟨v',es,e,_⟩=>by subst e;exact FQ (Co es)) (DF Pi rfl (Qv (Qt rfl) Q3) (R_reached.mk h' l))
   refine QI (Wg (VX h) (fun r hr'=>?_));obtain⟨v3,es,rfl,tr,cl⟩:=hr'
   walk_at"d"
   refine DG (fun m ρ'=>∃(M:Qz) (φ:QR Nd) (es:Got Nd) (v3:V),NetR M (Zd y G) φ/\Flow y G φ/\Tree (Zd y G) φ .start es/\VC (Zd y G) φ es/\m=(Q7 G.wa G.m-Vl (Zd y G) φ .start).toNat /\
    ρ'=[some (.own v (Zc P w C M)),some (.fz (QS (nk .start))),some (.fz (QS (nk .fin))),some (.own v3 (Vk (kvG es)))]) _ ⟨M,φ,es,v3,h,F,tr,cl,rfl,rfl⟩ ?ws
   clear tr cl es v3 h F;rintro m _ ⟨M,φ,es,v3,h,F,tr,cl,rfl,rfl⟩;refine⟨_,ZV (LR (k:=nk .fin) (Qt rfl) rfl),fun c=>?_,fun c=>?_⟩
   ·rw[Gk]at c
    obtain⟨wy,q⟩:=tr.way .fin (X7 c);have wl:=Rb q
    have wne:wy≠[]:=fun z=>by
     have:=q.chain
     rw[z]at this;cases this
    refine RN 3 rfl ?_
    walk_at"d"
    refine QI (WW (ΦA:=fun ts=>ts=[.fz (.list (Yj wy))]) Cd rfl (TW (Φ:=fun r=>r=.ol (Yj wy)) (Hv 0 rfl (fun r e=>by subst e;exact Rc (fun d hd=>by
     obtain⟨e,_,rfl⟩:=XJ.mp hd
     exact⟨_,rfl⟩)) (DF LH rfl (WO rfl (Qv (Qt rfl) Q3)) (R_way.mk h l q))) (fun r e=>⟨_,e,rfl⟩)) (fun ts hts=>?_))
    subst hts;refine⟨_,R_push.mk h (B1 y G) wne (fun e he=>let ⟨r,a,_⟩:=q.room e he;⟨r,a⟩) (by omega),fun N' hN=>?_⟩
    walk_at"d"
    obtain⟨m1,m2⟩:=HF (ns:=wy.map fun e=>(rmE (Zd y G) φ e).getD 0) (fun z=>wne (List.map_eq_nil_iff.mp z))
    have a0:0<amt (Zd y G) φ wy:=by
     obtain⟨e,he,ee⟩:=XJ.mp m1;obtain⟨r,hr1,hr2⟩:=q.room e he;rw[hr1]at ee;show 0<Ye _;rw[<- ee];exact hr2
    obtain⟨F',nd⟩:=F.push (a:=amt (Zd y G) φ wy) (by omega) q.chain q.nodup (fun e he=>by
     obtain⟨r,hr1,_⟩:=q.room e he;refine⟨r,hr1,?_⟩
     have:=m2 _ (XJ.mpr ⟨e,he,rfl⟩)
     rw[hr1]at this;exact this)
    refine Wg (VX hN) (fun r hr'=>?_);obtain⟨v4,es',rfl,tr',cl'⟩:=hr'
    walk_at"d"
    refine⟨_,?_,N',_,es',v4,hN,F',tr',cl',rfl,rfl⟩
    have:=F'.most
    rw[nd]at this ⊢;omega
   ·rw[Gk]at c
    exact⟨M,⟨φ,es,h,F,tr.start,cl,GI c⟩,rfl⟩
structure GOk (y:Yd)(g:Gs):Prop where
 ln:g.line<y.ls.length
 w0:0<=g.want
 m0:0<=g.most
def Le {y:Yd}{g:Gs}(h:g.Ok y):GOk y g:=⟨h.ln,by have:=h.w1;omega,by have:=h.m1;omega⟩
def QG (gs:List Gs):Gv:={ m:=gs.length,ln:=fun k=>(gs.getD k default).line,wa:=fun k=>(gs.getD k default).want,mo:=fun k=>(gs.getD k default).most,th:=fun k t=>W0 (gs.getD k default) (t:Int) }
def Jz {gs:List Gs}{k:Nat}(h:k<gs.length):gs.getD k default=gs[k]:=by simp[List.getD,h]
def Cb (y:Yd)(G:Gv)(k:Nat):(ZU y G k).length<=1+y.T:=by
 unfold ZU;rw[Oq];have:∀n,((List.range n).flatMap fun t=>if G.th k t=true then [((.guest k,.line (G.ln k) t,G.mo k):Nd×Nd×Int)] else []).length<=n:=by
  intro n;induction n with
  |zero=>simp
  |succ n ih =>
    rw[YK,JB,Xo];have:([n].flatMap fun t=>if G.th k t=true then [((.guest k,.line (G.ln k) t,G.mo k):Nd×Nd×Int)] else []).length<=1:=by
     simp only[Ma,List.flatMap_nil,Xz];split<;>simp
    omega
 have:=this y.T
 omega
def Av {y:Yd}(h:1<=y.ls.length)(t:Nat):(Vu y t).length=y.ls.length:=by
 unfold Vu;rw[Oq];have:∀n,((List.range n).flatMap fun i=>[((.line (i+1) t,.line (Mir.upN y (i+1)) t,Z9 y (i+1) t):Nd×Nd×Int)]).length=n:=by
  intro n;induction n with
  |zero=>simp
  |succ n ih=>rw[YK,JB,Xo,ih];simp
 rw[this];omega
theorem G3 {f:Nat->Lay Nd}{c:Nat}(h:∀k,(f k).length<=c):∀n,((List.range n).flatMap f).length<=n*c
 |0=>by simp
 |n+1=>by
   rw[YK,JB,Xo];have a:=G3 h n;have b:([n].flatMap f).length<=c:=by simpa using h n
   rw[Nat.add_mul];omega
def G8 (f:Nat->Lay Nd)(n:Nat):(List.range (n+1)).flatMap f=(List.range n).flatMap f++f n:=by rw[YK,JB];simp
def Hc {f:Nat->Lay Nd}{n:Nat}{x:Nd×Nd×Int}:x∈(List.range n).flatMap f ↔ ∃k,k<n/\x∈f k:=by
 rw[YL];simp only[XU]
def BJ {y:Yd}(ok:y.Ok)(G:Gv){n:Nat}(h:n<=8):((List.range n).flatMap (ZU y G)).length<=72:=by
 have a:=G3 (f:=ZU y G) (c:=9) (fun k=>by have:=Cb y G k;have:=ok.t8;omega) n;omega
def HG {y:Yd}(ok:y.Ok){n:Nat}(h:n<=8):((List.range n).flatMap (Vu y)).length<=40:=by
 have a:=G3 (f:=Vu y) (c:=5) (fun k=>by rw[Av ok.l1 k];exact ok.l5) n;omega
inductive R_gnode:List OT->OT->Prop
 |mk {k:Nat}:R_gnode [.fz (.int (k:Int))] (.fz (QS (nk (.guest k))))
def IK:Qp ZaP ZaP (Q0 Kl):=by walk_at"p"
def C1 (T:Bl mg) (D:Df K mg "guest_node" Kl ZaP):QD P w K mg base "guest_node" ZaP 1 (QQ (K:=K) R_gnode):=by
 refine D.ev IK (fun ts r h=>by cases h;rfl) (fun _ _ _ _ s H E ts r hr h=>?_)
 cases h with
 |@mk k =>
   refine⟨_,(Q4 (QU (Yy (Qo VO (Qo (pv 0) Qr))))),?_⟩;show Q1 K _ [some _] _
   walk_at"x"
   exact Vg (YC (ds:=[.str "guest",.int (k:Int)]) (QY VM (QY (Qt rfl) Z7)) Wr) rfl
inductive R_lnode:List OT->OT->Prop
 |mk {l t:Nat}:R_lnode [.fz (.int (l:Int)),.fz (.int (t:Int))] (.fz (QS (nk (.line l t))))
def IE:Qp Zaz Zaz (Q0 HM):=by walk_at"p"
def CF (T:Bl mg) (D:Df K mg "line_node" HM Zaz):QD P w K mg base "line_node" Zaz 1 (QQ (K:=K) R_lnode):=by
 refine D.ev IE (fun ts r h=>by cases h;rfl) (fun _ _ _ _ s H E ts r hr h=>?_)
 cases h with
 |@mk l t =>
   refine⟨_,(Q4 (QU (Yy (Qo VO (Qo (pv 0) (Qo (pv 1) Qr)))))),?_⟩;show Q1 K _ [some _,some _] _
   walk_at"x"
   exact Vg (YC (ds:=[.str "line",.int (l:Int),.int (t:Int)]) (QY VM (QY (Qt rfl) (QY (Qt rfl) Z7))) (by show(3:Nat)<=1000;decide)) rfl
inductive R_lguest:Qz->List OT->(Qz->Prop)->Prop
 |mk {N:Qz} {y:Yd} {gs:List Gs} {k:Nat} (ok:y.Ok) (g8:gs.length<=8) (hk:k<gs.length) (h:NetR N ((List.range k).flatMap (ZU y (QG gs))) Y9) :
  R_lguest N [.fz (Zi y),.fz (.int (k:Int)),.fz (QK gs[k])] (fun N'=>NetR N' ((List.range (k+1)).flatMap (ZU y (QG gs))) Y9)
def Pv:Qp ["net","yard","number","guest","turn"] Zae (Q0 HU):=by walk_at"p"
def Eh (T:Bl mg) (U:Tx K mg C gS gE) (D:Df K mg "lay_guest" HU Zae) (Xa9:Zv P w K mg base C "lay" Zad 2 (spN K P w C R_lay)) (Xa4:QD P w K mg base "want_of" Zat 1 (QQ (K:=K) R_want)) (Xa5:QD P w K mg base "guest_node" ZaP 1 (QQ (K:=K) R_gnode))
 (XaW:QD P w K mg base "turns_of" Zay 1 (QQ (K:=K) R_turns)) (Xbe:QD P w K mg base "is_there" Zan 1 (QQ (K:=K) R_there)) (Xbf:QD P w K mg base "most_of" Zat 1 (QQ (K:=K) R_most)) (Xa1:QD P w K mg base "line_node" Zaz 1 (QQ (K:=K) R_lnode)) (Xa7:QD P w K mg base "line_of" Zat 1 (QQ (K:=K) R_lineof)) :
 QD P w K mg base "lay_guest" Zae 3 (spN K P w C R_lguest):=by
 refine D.evN Pv (fun M ts Ψ h=>by cases h;rfl) (fun f cdv A outer s H E v M ts Ψ hr h=>?_)
 cases h with
 |@mk y gs k ok g8 hk h =>
   refine⟨_,(Q5 (Zo (Yo Xa9 U.net hr (pv 0) (Qo (Vx (v:=.ref _) rfl U.mSTART rfl) (Qo (QF Xa5 hr (Qo (pv 2) Qr)) (Qo (QF Xa4 hr (Qo (pv 3) Qr)) Qr)))))
 (Q4 (Vr PassesOwn.never rfl (V6 rfl T.range (Qo (QF XaW hr (Qo (pv 1) Qr)) Qr)) (Zr (i:=4) Pv.nd rfl Qa) (Q4 (Zw (V4 (QF Xbe hr (Qo (pv 3) (Qo (pv 4) Qr)))) (Q4 (Zo (Yo Xa9 U.net hr (pv 0) (Qo (QF Xa5 hr (Qo (pv 2) Qr)) (Qo (QF Xa1 hr (Qo (QF Xa7 hr (Qo (pv 3) Qr)) (Qo (pv 4) Qr))) (Qo (QF Xbf hr (Qo (pv 3) Qr)) Qr)))))) Z0))))),?_⟩
   show Q1 K _ [some _,some _,some _,some _,none] _
   walk_at"x"
   have t8:=ok.t8;have gl:=BJ ok (QG gs) (n:=k) (by omega);have gk:=Jz hk;have ew:(QG gs).wa k=gs[k].want:=by show(gs.getD k default).want=_;rw[gk]
   have glb:∀x∈(List.range k).flatMap (ZU y (QG gs)),∃j,j<k/\x∈ZU y (QG gs) j:=fun x hx=>Hc.mp hx;refine QI (WW (ΦA:=fun ts=>ts=[.fz (QS (nk .start)),.fz (QS (nk (.guest k))),.fz (.int gs[k].want)]) Br rfl (Wz (Qv (DM U.aS) (Qv (Zf (Qv (Qt rfl) Q3) R_gnode.mk) (Qv (Zf (Qv (Qt rfl) Q3) R_want.mk) Q3))) rfl) (fun ts hts=>?_));subst hts;refine⟨_,R_lay.mk h ?n0 (by omega),fun N1 hN1=>?_⟩
   case n0 =>
    intro hm;obtain⟨x,hx,ex⟩:=XJ.mp hm;obtain⟨j,hj,hx⟩:=glb x hx;injection ex with e1 e2
    rcases YG.mp hx with rfl|⟨t,_,_,rfl⟩
    ·injection e2 with e2
     omega
    ·cases e1
   walk_at"d"
   refine V3 (ds:=ZK 0 y.T) (fun i ρ'=>∃(N':Qz) (u4:Option OT),NetR N' ((List.range k).flatMap (ZU y (QG gs))++((.start,.guest k,(QG gs).wa k)::(List.range i).flatMap fun t=>if (QG gs).th k t=true then [(.guest k,.line ((QG gs).ln k) t,(QG gs).mo k)] else [])) Y9 /\
    ρ'=[some (.own v (Zc P w C N')),some (.fz (Zi y)),some (.fz (.int (k:Int))),some (.fz (QK gs[k])),u4]) ?ei ⟨N1,none,by rw[ew];exact hN1,rfl⟩ ?st ?fin
   case ei=>exact EvI.cast (VD (Qv (Zf (Qv (Qt rfl) Q3) R_turns.mk) Q3) (by rw[z62];omega) (by rw[z62];omega)) (J5 rfl (by omega))
   case fin =>
    rintro _ ⟨N',u4,hN,rfl⟩
    rw[W2]at hN;refine⟨N',?_,rfl⟩;rw[G8];exact hN
   case st =>
    rintro t d _ hd ⟨N',u4,hN,rfl⟩
    obtain⟨ht,rfl⟩:=Y2 hd;rw[YI];refine⟨_,Z2,?_⟩
    walk_at"d"
    have et:W0 gs[k] (t:Int)=(QG gs).th k t:=by show _=W0 (gs.getD k default) (t:Int);rw[gk]
    refine Z1 (b:=(QG gs).th k t) (Ze.cast (ZV (Zf (Qv (Qt rfl) (Qv (Qt rfl) Q3)) R_there.mk)) et) (fun c=>?_) (fun c=>ZI ?_)
    ·refine WW (ΦA:=fun ts=>ts=[.fz (QS (nk (.guest k))),.fz (QS (nk (.line gs[k].line t))),.fz (.int gs[k].most)]) Br rfl (Wz (Qv (Zf (Qv (Qt rfl) Q3) R_gnode.mk) (Qv (Zf (Qv (Zf (Qv (Qt rfl) Q3) R_lineof.mk) (Qv (Qt rfl) Q3)) R_lnode.mk) (Qv (Zf (Qv (Qt rfl) Q3) R_most.mk) Q3))) rfl) (fun ts hts=>?_)
     subst hts;refine⟨_,R_lay.mk hN ?n1 ?l1,fun N2 hN2=>?_⟩
     case n1 =>
      intro hm;obtain⟨x,hx,ex⟩:=XJ.mp hm;injection ex with e1 e2
      rcases XG.mp hx with hx|hx
      ·obtain⟨j,hj,hx⟩:=glb x hx
       rcases YG.mp hx with rfl|⟨t',_,_,rfl⟩
       ·cases e1
       ·injection e1 with e1
        omega
      ·rcases Xe.mp hx with rfl|hx
       ·cases e1
       ·obtain⟨t',ht',hx⟩:=YL.mp hx
        split at hx
        ·rw[Xh.mp hx]at e2
         injection e2 with _ e2
         have:=XU.mp ht'
         omega
        ·cases hx
     case l1 =>
      rw[Xo];have:(((.start,.guest k,(QG gs).wa k):Nd×Nd×Int)::(List.range t).flatMap fun t=>if (QG gs).th k t=true then [((.guest k,.line ((QG gs).ln k) t,(QG gs).mo k):Nd×Nd×Int)] else []).length<=1+t*1:=by
       rw[Oq];have:=G3 (f:=fun t=>if (QG gs).th k t=true then [((.guest k,.line ((QG gs).ln k) t,(QG gs).mo k):Nd×Nd×Int)] else []) (c:=1) (fun t=>by split<;>simp) t;omega
      omega
     walk_at"d"
     refine⟨N2,_,?_,rfl⟩;rw[G8,Xd c];have e1:(QG gs).ln k=gs[k].line:=by show(gs.getD k default).line=_;rw[gk]
     have e2:(QG gs).mo k=gs[k].most:=by show(gs.getD k default).most=_;rw[gk]
     rw[<- e1,<- e2,GF]at hN2;exact hN2
    ·refine⟨N',_,?_,rfl⟩
     rw[G8,Xb (by rw[c];decide),Xz];exact hN
inductive R_lturn:Qz->List OT->(Qz->Prop)->Prop
 |mk {N:Qz} {y:Yd} {G:Gv} {t:Nat} (ok:y.Ok) (g8:G.m<=8) (ht:t<y.T) (h:NetR N ((List.range G.m).flatMap (ZU y G)++(List.range t).flatMap (Vu y)) Y9) :
  R_lturn N [.fz (Zi y),.fz (.int (t:Int))] (fun N'=>NetR N' ((List.range G.m).flatMap (ZU y G)++(List.range (t+1)).flatMap (Vu y)) Y9)
def Pr:Qp ["net","yard","turn","line"] ZaF (Q0 HD):=by walk_at"p"
def Af (T:Bl mg) (U:Tx K mg C gS gE) (D:Df K mg "lay_turn" HD ZaF) (Xa9:Zv P w K mg base C "lay" Zad 2 (spN K P w C R_lay)) (Xa3:QD P w K mg base "bound_at" Zar 1 (QQ (K:=K) R_bound)) (Xa1:QD P w K mg base "line_node" Zaz 1 (QQ (K:=K) R_lnode))
 (Xa2:QD P w K mg base "line_count" Zay 1 (QQ (K:=K) R_count)) (Xbg:QD P w K mg base "above_of" ZaE 1 (QQ (K:=K) R_above)):QD P w K mg base "lay_turn" ZaF 3 (spN K P w C R_lturn):=by
 refine D.evN Pr (fun M ts Ψ h=>by cases h;rfl) (fun f cdv A outer s H E v M ts Ψ hr h=>?_)
 cases h with
 |@mk y G t ok g8 ht h =>
   refine⟨_,(Q5 (Zo (Yo Xa9 U.net hr (pv 0) (Qo (QF Xa1 hr (Qo Qy (Qo (pv 2) Qr))) (Qo (Vx (v:=.ref _) rfl U.mEND rfl) (Qo (QF Xa3 hr (Qo (pv 1) (Qo Qy (Qo (pv 2) Qr)))) Qr)))))
 (Q4 (Vr PassesOwn.never rfl (EA rfl T.range (Qo Qy (Qo (QF Xa2 hr (Qo (pv 1) Qr)) Qr))) (Zr (i:=3) Pr.nd rfl Qa) (Q4 (Zo (Yo Xa9 U.net hr (pv 0) (Qo (QF Xa1 hr (Qo (pv 3) (Qo (pv 2) Qr))) (Qo (QF Xa1 hr (Qo (QF Xbg hr (Qo (pv 1) (Qo (pv 3) Qr))) (Qo (pv 2) Qr))) (Qo (QF Xa3 hr (Qo (pv 1) (Qo (pv 3) (Qo (pv 2) Qr)))) Qr))))))))),?_⟩
   show Q1 K _ [some _,some _,some _,none] _
   walk_at"x"
   have t8:=ok.t8;have l1:=ok.l1;have l5:=ok.l5;have gl:=BJ ok G g8;have tl:=HG ok (n:=t) (by omega)
   have glb:∀x∈(List.range G.m).flatMap (ZU y G)++(List.range t).flatMap (Vu y),(∃j,x∈ZU y G j)\/∃t',t'<t/\x∈Vu y t':=fun x hx=>by
    rcases XG.mp hx with hx|hx
    ·obtain⟨j,_,hx⟩:=Hc.mp hx
     exact .inl ⟨j,hx⟩
    ·obtain⟨j,hj,hx⟩:=Hc.mp hx
     exact .inr ⟨j,hj,hx⟩
   refine QI (WW (ΦA:=fun ts=>ts=[.fz (QS (nk (.line 0 t))),.fz (QS (nk .fin)),.fz (.int (Z9 y 0 t))]) Br rfl (Wz (Qv (Zf (Qv Q8 (Qv (Qt rfl) Q3)) (R_lnode.mk (l:=0))) (Qv (NV U.aE) (Qv (Zf (Qv (Qt rfl) (Qv Q8 (Qv (Qt rfl) Q3))) (R_bound.mk (k:=0) (t:=(t:Int)) ok (by decide) (by omega) (by omega) (by omega))) Q3))) ?e0) (fun ts hts=>?_))
   case e0=>rw[XS];rfl
   subst hts;refine⟨_,R_lay.mk h ?n0 (by rw[Xo];omega),fun N1 hN1=>?_⟩
   case n0 =>
    intro hm;obtain⟨x,hx,ex⟩:=XJ.mp hm;injection ex with e1 e2
    rcases glb x hx with ⟨j,hx⟩|⟨t',ht',hx⟩
    ·rcases YG.mp hx with rfl|⟨u,_,_,rfl⟩<;>cases e1
    ·rcases W1.mp hx with rfl|⟨i,_,rfl⟩
     ·injection e1 with _ e1
      omega
     ·cases e2
   walk_at"d"
   refine V3 (ds:=ZK 1 (y.ls.length-1)) (fun i ρ'=>∃(N':Qz) (u3:Option OT),NetR N' (((List.range G.m).flatMap (ZU y G)++(List.range t).flatMap (Vu y))++((.line 0 t,.fin,Z9 y 0 t)::(List.range i).flatMap fun i=>[(.line (i+1) t,.line (Mir.upN y (i+1)) t,Z9 y (i+1) t)])) Y9 /\
    ρ'=[some (.own v (Zc P w C N')),some (.fz (Zi y)),some (.fz (.int (t:Int))),u3]) ?ei ⟨N1,none,by simpa using hN1,rfl⟩ ?st ?fin
   case ei=>exact EvI.cast (Rr (Qv Q8 (Qv (Zf (Qv (Qt rfl) Q3) R_count.mk) Q3)) (by rw[z62];omega)) (J5 rfl (by omega))
   case fin =>
    rintro _ ⟨N',u3,hN,rfl⟩
    rw[W2]at hN;refine⟨N',?_,rfl⟩;rw[G8,<- GF];exact hN
   case st =>
    rintro i d _ hd ⟨N',u3,hN,rfl⟩
    obtain⟨hi,rfl⟩:=Y2 hd;have ei:(1:Int)+(i:Int)=((i+1:Nat):Int):=by omega
    rw[ei];refine⟨_,Z2,?_⟩
    walk_at"d"
    refine WW (ΦA:=fun ts=>ts=[.fz (QS (nk (.line (i+1) t))),.fz (QS (nk (.line (Mir.upN y (i+1)) t))),.fz (.int (Z9 y (i+1) t))]) Br rfl (Wz (Qv (Zf (Qv (Qt rfl) (Qv (Qt rfl) Q3)) (R_lnode.mk (l:=i+1))) (Qv (Zf (Qv (Zf (Qv (Qt rfl) (Qv (Qt rfl) Q3)) (R_above.mk (k:=((i+1:Nat):Int)) ok (by omega) (by omega))) (Qv (Qt rfl) Q3)) (R_lnode.mk (l:=upN y (((i+1:Nat):Int)).toNat))) (Qv (Zf (Qv (Qt rfl) (Qv (Qt rfl) (Qv (Qt rfl) Q3))) (R_bound.mk (k:=((i+1:Nat):Int)) (t:=(t:Int)) ok (by omega) (by omega) (by omega) (by omega))) Q3))) ?e1) (fun ts hts=>?_)
    case e1=>rw[XS,XS];rfl
    subst hts;refine⟨_,R_lay.mk hN ?n1 ?l1,fun N2 hN2=>?_⟩
    case n1 =>
     intro hm;obtain⟨x,hx,ex⟩:=XJ.mp hm;injection ex with e1 e2
     rcases XG.mp hx with hx|hx
     ·rcases glb x hx with ⟨j,hx⟩|⟨t',ht',hx⟩
      ·rcases YG.mp hx with rfl|⟨u,_,_,rfl⟩<;>cases e1
      ·rcases W1.mp hx with rfl|⟨i',_,rfl⟩
       ·cases e2
       ·injection e1 with _ e1
        omega
     ·rcases Xe.mp hx with rfl|hx
      ·cases e2
      ·obtain⟨i',hi',hx⟩:=YL.mp hx
       rw[Xh.mp hx]at e1;injection e1 with e1 _
       have:=XU.mp hi'
       omega
    case l1 =>
     rw[Xo,Xo,Oq];have:=G3 (f:=fun i=>[((.line (i+1) t,.line (Mir.upN y (i+1)) t,Z9 y (i+1) t):Nd×Nd×Int)]) (c:=1) (fun i=>by simp) i;omega
    walk_at"d"
    refine⟨N2,_,?_,rfl⟩;rw[G8];rw[GF]at hN2;exact hN2
def JL (y:Yd)(G:Gv)(φ:QR Nd):Prop:=Flow y G φ/\∃es:Got Nd,Nd.start∈QT es/\VC (Zd y G) φ es/\Nd.fin∉QT es
inductive R_filled (P:Program)(w:World)(C:Addr):List OT->(OT->Prop)->Prop
 |mk {y:Yd} {gs:List Gs} (ok:y.Ok) (hg:∀g∈gs,GOk y g) (g8:gs.length<=8):R_filled P w C [.fz (Zi y),.fz (.list (gs.map QK))] (fun r=>∃v N φ,r=.own v (Zc P w C N)/\NetR N (Zd y (QG gs)) φ/\JL y (QG gs) φ)
def Nk {y:Yd}(ok:y.Ok){l t:Nat}(hl:l<y.ls.length)(ht:t<y.T):0<=Z9 y l t:=by
 rw[Pm hl];have h1:=RE ok hl;have hm:VG y l∈y.ls:=by simp[VG,hl]
 have:(VG y l).bs.getD t 0=(VG y l).bs[t]'(by omega):=by simp[List.getD,show t<(VG y l).bs.length by omega]
 rw[this];exact(ok.bb _ hm _ (W9 _)).1
def Ll {y:Yd}(ok:y.Ok){gs:List Gs}(hg:∀g∈gs,GOk y g):∀x∈Zd y (QG gs),0<=x.2.2:=fun x hx=>by
 have l1:=ok.l1
 rcases Ux.mp hx with ⟨k,hk,hx⟩|⟨t,ht,hx⟩
 ·have gk:GOk y (gs.getD k default):=by rw[Jz hk];exact hg _ (W9 _)
  rcases YG.mp hx with rfl|⟨t,_,_,rfl⟩
  ·exact gk.w0
  ·exact gk.m0
 ·rcases W1.mp hx with rfl|⟨i,hi,rfl⟩
  ·exact Nk ok (by omega) ht
  ·exact Nk ok (by omega) ht
def GC:Qp ["yard","guests","net","number","guest","turn"] Zac (Q0 Kc):=by walk_at"p"
def AG (T:Bl mg) (U:Tx K mg C gS gE) (D:Df K mg "filled_net" Kc Zac) (Xby:Ml P w K mg base "Net" C 1) (Xbz:QD P w K mg base "lay_guest" Zae 3 (spN K P w C R_lguest)) (XaW:QD P w K mg base "turns_of" Zay 1 (QQ (K:=K) R_turns))
 (XbA:QD P w K mg base "lay_turn" ZaF 3 (spN K P w C R_lturn)) (XbB:Zv P w K mg base C "fill" Zaj 2 (spN K P w C R_fill)):QD P w K mg base "filled_net" Zac 4 (Zg K (R_filled P w C)):=by
 refine D.evD GC (fun ts Φ h=>by cases h;rfl) (fun _ _ _ _ s H E ts Φ hr h=>?_)
 cases h with
 |@mk y gs ok hg g8 =>
   refine⟨_,(Q5 (QW (i:=2) GC.nd rfl Qa (LI Xby hr))
 (Q5 (Vr PassesOwn.never rfl (BQ rfl T.enumerate (Qo (pv 1) Qr)) (Gb (n:=2) rfl (Wd (Zr (i:=3) GC.nd rfl Qa) (Wd (Zr (i:=4) GC.nd rfl Qa) Gy))) (Q4 (Zo (QF Xbz hr (Qo (pv 2) (Qo (pv 0) (Qo (pv 3) (Qo (pv 4) Qr))))))))
 (Q5 (Vr PassesOwn.never rfl (V6 rfl T.range (Qo (QF XaW hr (Qo (pv 0) Qr)) Qr)) (Zr (i:=5) GC.nd rfl Qa) (Q4 (Zo (QF XbA hr (Qo (pv 2) (Qo (pv 0) (Qo (pv 5) Qr)))))))
 (Q5 (Zo (Yo XbB U.net hr (pv 2) (Qo (Vx (v:=.ref _) rfl U.mSTART rfl) (Qo (Vx (v:=.ref _) rfl U.mEND rfl) Qr))))
 (Q4 (QU (pv 2))))))),?_⟩
   show Q1 K _ [some _,some _,none,none,none,none] _
   walk_at"x"
   have t8:=ok.t8;refine QI (Bv Lm (fun v=>?_))
   walk_at"d"
   refine QI (V3 (ds:=Jo (gs.map QK)) (fun i ρ'=>∃(N':Qz) (u3 u4:Option OT),NetR N' ((List.range i).flatMap (ZU y (QG gs))) Y9/\ρ'=[some (.fz (Zi y)),some (.fz (.list (gs.map QK))),some (.own v (Zc P w C N')),u3,u4,none]) (Gh (Qv (Qt rfl) Q3)) ⟨_,none,none,P8 _,rfl⟩ ?st ?fin)
   case st =>
    rintro i d _ hd ⟨N',u3,u4,hN,rfl⟩
    obtain⟨a,ha,rfl⟩:=BE hd
    have hi:i<gs.length:=by
     have:=(Xg.mp ha).1
     simpa using this
    obtain rfl:a=QK gs[i]:=by simpa [hi] using ha.symm
    refine⟨_,Jl (ds:=[.int (i:Int),QK gs[i]]) (YF Z2 (YF Z2 JV)) rfl,?_⟩
    walk_at"d"
    refine RQ (ΦA:=fun ts=>ts=[.fz (Zi y),.fz (.int (i:Int)),.fz (QK gs[i])]) rfl (Wz (Qv (Qt rfl) (Qv (Qt rfl) (Qv (Qt rfl) Q3))) rfl) (fun ts hts=>?_);subst hts;refine⟨_,R_lguest.mk ok g8 hi hN,fun N2 hN2=>?_⟩
    walk_at"d"
    exact⟨N2,_,_,hN2,rfl⟩
   case fin =>
    rintro _ ⟨N1,u3,u4,hN1,rfl⟩
    rw[BF,Xm]at hN1;refine QI (V3 (ds:=ZK 0 y.T) (fun i ρ'=>∃(N':Qz) (u5:Option OT),NetR N' ((List.range (QG gs).m).flatMap (ZU y (QG gs))++(List.range i).flatMap (Vu y)) Y9/\ρ'=[some (.fz (Zi y)),some (.fz (.list (gs.map QK))),some (.own v (Zc P w C N')),u3,u4,u5]) ?ei2 ⟨N1,none,by rw[show(List.range 0).flatMap (Vu y)=[] from rfl,Xz];exact hN1,rfl⟩ ?st2 ?fin2)
    case ei2=>exact EvI.cast (VD (Qv (Zf (Qv (Qt rfl) Q3) R_turns.mk) Q3) (by rw[z62];omega) (by rw[z62];omega)) (J5 rfl (by omega))
    case st2 =>
     rintro t d _ hd ⟨N',u5,hN,rfl⟩
     obtain⟨ht,rfl⟩:=Y2 hd;rw[YI];refine⟨_,Z2,?_⟩
     walk_at"d"
     refine RQ (ΦA:=fun ts=>ts=[.fz (Zi y),.fz (.int (t:Int))]) rfl (Wz (Qv (Qt rfl) (Qv (Qt rfl) Q3)) rfl) (fun ts hts=>?_);subst hts;refine⟨_,R_lturn.mk ok g8 ht hN,fun N2 hN2=>?_⟩
     walk_at"d"
     exact⟨N2,_,hN2,rfl⟩
    case fin2 =>
     rintro _ ⟨N',u5,hN,rfl⟩
     rw[W2]at hN;have hN:NetR N' (Zd y (QG gs)) Y9:=hN
     have ll:(Zd y (QG gs)).length<400:=by
      unfold Zd;rw[Xo];have a:=BJ ok (QG gs) (n:=(QG gs).m) g8;have b:=HG ok t8;omega
     refine QI (WW (ΦA:=fun ts=>ts=[.fz (QS (nk .start)),.fz (QS (nk .fin))]) Ae rfl (Wz (Qv (DM U.aS) (Qv (NV U.aE) Q3)) rfl) (fun ts hts=>?_));subst hts;refine⟨_,R_fill.mk hN (Ts (Ll ok hg)) ll,fun N2 hN2=>?_⟩;obtain⟨φ',es,h1,h2,h3,h4,h5⟩:=hN2
     walk_at"d"
     exact Dw rfl ⟨v,N2,φ',rfl,h1,h2,es,h3,h4,h5⟩
def YY (y:Yd)(G:Gv)(φ:QR Nd):List (Ql):=(List.range G.m).map fun k=>(List.range y.T).map fun t=>Zb G φ t k
def Ap {y:Yd}{G:Gv}{φ:QR Nd}{k t:Nat}(hk:k<G.m)(ht:t<y.T):Ge (Zd y G) φ (.guest k) (.line (G.ln k) t)=Zb G φ t k:=by
 unfold Ge Zb;by_cases c:G.th k t=true
 ·rw[Xd c,Xd (XJ.mpr ⟨_,Bt hk ht c,rfl⟩)]
 ·rw[Xb c,Xb (fun hm=>?_)]
  obtain⟨x,hx,ex⟩:=XJ.mp hm;injection ex with e1 e2
  rcases Ux.mp hx with ⟨j,_,hx⟩|⟨t',_,hx⟩
  ·rcases YG.mp hx with rfl|⟨t',_,c',rfl⟩
   ·cases e1
   ·injection e1 with e1
    injection e2 with _ e2;subst e1 e2;exact c c'
  ·rcases W1.mp hx with rfl|⟨i,_,rfl⟩<;>cases e1
inductive R_takes (P:Program)(w:World)(C:Addr):List OT->OT->Prop
 |mk {N:Qz} {y:Yd} {gs:List Gs} {φ:QR Nd} {k:Nat} (ok:y.Ok) (h:NetR N (Zd y (QG gs)) φ) (hk:k<gs.length):R_takes P w C [.zow (ZR P w C N),.fz (Zi y),.fz (.int (k:Int)),.fz (QK gs[k])] (.ol ((List.range y.T).map fun t=>PyData.int (Zb (QG gs) φ t k)))
def Io:Qp Zae Zae (Q0 BK):=by walk_at"p"
def FJ (T:Bl mg) (U:Tx K mg C gS gE) (D:Df K mg "takes_by" BK Zae) (XaW:QD P w K mg base "turns_of" Zay 1 (QQ (K:=K) R_turns)) (XbC:Zv P w K mg base C "flow" Zaj 1 (Zg K (R_flow P w C))) (Xa1:QD P w K mg base "line_node" Zaz 1 (QQ (K:=K) R_lnode)) (Xa7:QD P w K mg base "line_of" Zat 1 (QQ (K:=K) R_lineof)) (Xa5:QD P w K mg base "guest_node" ZaP 1 (QQ (K:=K) R_gnode)) :
 QD P w K mg base "takes_by" Zae 2 (QQ (K:=K) (R_takes P w C)):=by
 refine D.ev Io (fun ts r h=>by cases h;rfl) (fun _ _ _ _ s H E ts r hr h=>?_)
 cases h with
 |@mk N y gs φ k ok h hk =>
   refine⟨_,(Q4 (QU (Y8 (NX:=Zae) (sc:=Q0 BK) (N:=["turn","net","number","guest"]) (f:=[none,some 0,some 2,some 3]) rfl (by decide +kernel) rfl rfl (V6 rfl T.range (Qo (QF XaW hr (Qo (pv 1) Qr)) Qr)) (fun _=>(Zr (i:=0) (show(["turn","net","number","guest"]:Qh).Nodup by decide +kernel) rfl Qa)) (fun _=>V5) (fun _=>YE) (fun _=>(Yo XbC U.net hr (pv 1) (Qo (QF Xa5 hr (Qo (pv 2) Qr)) (Qo (QF Xa1 hr (Qo (QF Xa7 hr (Qo (pv 3) Qr)) (Qo (pv 0) Qr))) Qr))))))),?_⟩;show Q1 K _ [some _,some _,some _,some _] _
   walk_at"x"
   have t8:=ok.t8;refine WM (Dc (lo:=0) (n:=y.T) (h:=fun t=>PyData.int (Zb (QG gs) φ t k)) ?ei (by omega) ?el) rfl
   case ei=>exact EvI.cast (VD (Qv (Zf (Qv (Qt rfl) Q3) R_turns.mk) Q3) (by rw[z62];omega) (by rw[z62];omega)) (J5 rfl (by omega))
   case el =>
    intro t ht c;refine⟨_,Z2,?_⟩
    walk_at"e"
    rw[YI];have eL:(QG gs).ln k=gs[k].line:=by show(gs.getD k default).line=_;rw[Jz hk]
    have ef:=Ap (y:=y) (G:=QG gs) (φ:=φ) (k:=k) hk ht;rw[eL]at ef;exact Qu.cast (EvO.e (Zl.o (DF Cl rfl (Qv (Zf (Qv (Qt rfl) Q3) R_gnode.mk) (Qv (Zf (Qv (Zf (Qv (Qt rfl) Q3) R_lineof.mk) (Qv (Qt rfl) Q3)) R_lnode.mk) Q3)) (R_flow.mk (p:=.guest k) (q:=.line gs[k].line t) h)))) (by rw[ef])
inductive R_great:List OT->(OT->Prop)->Prop
 |mk {y:Yd} {gs:List Gs} (ok:y.Ok) (hg:∀g∈gs,GOk y g) (g8:gs.length<=8):R_great [.fz (Zi y),.fz (.list (gs.map QK))] (fun r=>∃φ,JL y (QG gs) φ/\r=.oll ((YY y (QG gs) φ).map fun row=>row.map PyData.int))
def P1:Qp ["yard","guests","net"] Zac (Q0 BW):=by walk_at"p"
def Ac (T:Bl mg) (U:Tx K mg C gS gE) (D:Df K mg "greatest_filling" BW Zac) (Xbh:QD P w K mg base "filled_net" Zac 4 (Zg K (R_filled P w C))) (XbD:QD P w K mg base "takes_by" Zae 2 (QQ (K:=K) (R_takes P w C))):QD P w K mg base "greatest_filling" Zac 5 (Zg K R_great):=by
 refine D.evD P1 (fun ts Φ h=>by cases h;rfl) (fun _ _ _ _ s H E ts Φ hr h=>?_)
 cases h with
 |@mk y gs ok hg g8 =>
   refine⟨_,(Q5 (QW (i:=2) P1.nd rfl (Or.inr rfl) (QF Xbh hr (Qo (pv 0) (Qo (pv 1) Qr))))
 (Q4 (QU (Y8 (NX:=["yard","guests","net"]) (sc:=Q0 BW) (N:=ZaA) (f:=[none,none,some 2,some 0]) rfl (by decide +kernel) rfl rfl (BQ rfl T.enumerate (Qo (pv 1) Qr)) (fun _=>(Gb (n:=2) rfl (Wd (Zr (i:=0) (show(ZaA:Qh).Nodup by decide +kernel) rfl Qa) (Wd (Zr (i:=1) (show(ZaA:Qh).Nodup by decide +kernel) rfl Qa) Gy)))) (fun _=>(NT (n:=2) (Bz V5 (Bz V5 Rh)))) (fun _=>YE) (fun _=>(QF XbD hr (Qo (pv 2) (Qo (pv 3) (Qo (pv 0) (Qo (pv 1) Qr)))))))))),?_⟩
   show Q1 K _ [some _,some _,none] _
   walk_at"x"
   refine QI (Wg (VR (Qv (Qt rfl) (Qv (Qt rfl) Q3)) (R_filled.mk ok hg g8)) (fun r hr'=>?_));obtain⟨v,N,φ,rfl,hN,full⟩:=hr'
   walk_at"d"
   refine C7 2 rfl ?_
   walk_at"d"
   refine WM (r:=.oll ((YY y (QG gs) φ).map fun row=>row.map PyData.int)) (EvO.cast (Ti (xs:=gs.zipIdx) (enc:=fun p=>PyData.tuple [.int (p.2:Int),QK p.1]) (h:=fun p=>(List.range y.T).map fun t=>PyData.int (Zb (QG gs) φ t p.2)) ?ei (by simp;omega) ?el) ?eq) ⟨φ,full,rfl⟩
   case ei =>
    refine EvI.cast (Gh (Qv (Qt rfl) Q3)) ?_;unfold Jo;rw[List.zipIdx_map,Y3];rfl
   case eq =>
    congr 1
    unfold YY;rw[Y3];have:(QG gs).m=gs.length:=rfl;rw[this];apply List.ext_getElem?;intro i;by_cases hi:i<gs.length
    ·simp[hi,Y3,Function.comp_def]
    ·simp[hi]
   case el =>
    intro p hp c;obtain⟨hk,e2⟩:∃h:p.2<gs.length,p.1=gs[p.2]:=by
     have:=List.mem_zipIdx hp
     simp at this
     exact⟨this.1,this.2⟩
    obtain⟨g,k⟩:=p
    simp only at hk e2
    subst e2;refine⟨_,Jl (ds:=[.int (k:Int),QK gs[k]]) (YF Z2 (YF Z2 JV)) rfl,?_⟩
    walk_at"e"
    exact Bo (WO rfl (Qv (Qt rfl) (Qv (Qt rfl) (Qv (Qt rfl) Q3)))) (R_takes.mk ok hN hk)
def IX:Qp Zac Zac (Q0 Kp):=by walk_at"p"
def Lq (T:Bl mg) (D:Df K mg "best_filling" Kp Zac) (XbE:QD P w K mg base "greatest_filling" Zac 5 (Zg K R_great)):QD P w K mg base "best_filling" Zac 6 (Zg K R_great):=by
 refine D.evD IX (fun ts Φ h=>by cases h;rfl) (fun _ _ _ _ s H E ts Φ hr h=>?_);have h0:=h
 cases h with
 |@mk y gs ok hg g8 =>
   refine⟨_,(Q4 (QU (QF XbE hr (Qo (pv 0) (Qo (pv 1) Qr))))),?_⟩;show Q1 K _ [some _,some _] _
   walk_at"x"
   exact D9 (VR (Qv (Qt rfl) (Qv (Qt rfl) Q3)) h0) (fun r hr'=>hr')
def Vy (y:Yd)(G:Gv)(S:Qm):Int:=Q7 (Zj S G.wa) G.m-Q7 (fun t=>passes y (fun l=>Z9 y l t) (Wp G S t) 0) y.T
def MJ (y:Yd)(G:Gv)(φ:QR Nd):Int:=Q7 (fun k=>G.wa k-Q7 (fun t=>Zb G φ t k) y.T) G.m
def AW {y:Yd}{G:Gv}{φ:QR Nd}(F:Flow y G φ)(ok:y.Ok)(hln:∀k,k<G.m->G.ln k<y.ls.length)(S:Qm):Vy y G S<=MJ y G φ:=by
 have nn:∀k,k<G.m->0<=G.wa k-Q7 (fun t=>Zb G φ t k) y.T:=fun k hk=>by
  rw[F.total hk];have:=F.want hk;omega
 have h1:Q7 (Zj S fun k=>G.wa k-Q7 (fun t=>Zb G φ t k) y.T) G.m<=MJ y G φ:=Wh fun k hk=>DK (nn k hk)
 have h2:Q7 (Zj S fun k=>G.wa k-Q7 (fun t=>Zb G φ t k) y.T) G.m=Q7 (Zj S G.wa) G.m-Q7 (Zj S fun k=>Q7 (fun t=>Zb G φ t k) y.T) G.m:=by
  rw[<- DU];refine Zq fun k _=>?_;unfold Zj;dsimp only;split<;>omega
 have h3:Q7 (fun t=>Q7 (Zj S (Zb G φ t)) G.m) y.T=Q7 (Zj S fun k=>Q7 (fun t=>Zb G φ t k) y.T) G.m:=by
  rw[BG (fun t k=>Zj S (Zb G φ t) k) y.T G.m];refine Zq fun k _=>?_;unfold Zj;cases S k with
  |true=>rfl
  |false=>simp only[Wl,if_false];exact VE _
 have h4:Q7 (fun t=>Q7 (Zj S (Zb G φ t)) G.m) y.T<=Q7 (fun t=>passes y (fun l=>Z9 y l t) (Wp G S t) 0) y.T:=Wh fun t ht=>F.no_more ok hln S ht;unfold Vy;omega
def N7 {y:Yd}{gs:List Gs}(hg:∀g∈gs,GOk y g):∀k,k<(QG gs).m->(QG gs).ln k<y.ls.length:=fun k hk=>by
 show(gs.getD k default).line<_
 rw[Jz hk];exact(hg _ (W9 _)).ln
def Yv (gs:List Gs)(S:Qm):Qk:=(List.range gs.length).filter S
def RP {gs:List Gs}(g8:gs.length<=8)(S:Qm):SetOk gs (Yv gs S) :=
 ⟨fun k hk=>XU.mp (List.mem_filter.mp hk).1,X8 (List.length_filter_le _ _) (by simpa using g8)⟩
theorem SS (f:Qn):∀n,((List.range n).map f).sum=Q7 f n
 |0=>rfl
 |n+1=>by rw[YK,Xy,List.sum_append,SS f n];simp[Q7]
theorem Pb (f:Qn)(p:Qm):∀n,(((List.range n).filter p).map f).sum=Q7 (Zj p f) n
 |0=>rfl
 |n+1=>by
   rw[YK,U8,Xy,List.sum_append,Pb f p n];show _=Q7 (Zj p f) n+Zj p f n;unfold Zj;cases e:p n with
   |true=>simp[UJ,e]
   |false=>simp[UJ,e]
def Fq (gs:List Gs)(S:Qm)(t l:Nat):Wp (QG gs) S t l=JW gs t (Yv gs S) l:=by
 show _=Vp gs (t:Int) l ((List.range gs.length).filter S);rw[Er];unfold Wp;refine Zq fun k hk=>?_;have hk:k<gs.length:=hk;unfold Zj moT wgt ind;rw[UD hk];have e1:(QG gs).th k t=W0 gs[k] (t:Int):=by show W0 (gs.getD k default) _=_;rw[Jz hk]
 have e2:(QG gs).mo k=gs[k].most:=by show(gs.getD k default).most=_;rw[Jz hk]
 have e3:(QG gs).ln k=gs[k].line:=by show(gs.getD k default).line=_;rw[Jz hk]
 rw[e1,e2,e3];cases S k with
 |false=>simp
 |true =>
   simp only[if_true];by_cases c:gs[k].line=l
   ·by_cases d:W0 gs[k] (t:Int)=true
    ·simp[c,d]
    ·simp[c,d]
   ·simp[c]
def R4 (gs:List Gs)(sm:Qk):Int:=(sm.map fun k=>(gs.getD k default).want).sum
def SD (y:Yd)(gs:List Gs)(S:Qm):Vy y (QG gs) S=R4 gs (Yv gs S)-BD y gs (Yv gs S):=by
 unfold Vy;congr 1
 ·exact(Pb _ S gs.length).symm
 ·unfold BD
  rw[SS];refine Zq fun t _=>?_;unfold Gw;rw[show Wp (QG gs) S t=JW gs t (Yv gs S) from funext fun l=>Fq gs S t l]
def MX (y:Yd)(G:Gv)(φ:QR Nd)(es:Got Nd):Prop:=Flow y G φ/\Nd.start∈QT es/\VC (Zd y G) φ es/\Nd.fin∉QT es
inductive R_lset:List OT->(OT->Prop)->Prop
 |mk {y:Yd} {gs:List Gs} (ok:y.Ok) (hg:∀g∈gs,GOk y g) (g8:gs.length<=8):R_lset [.fz (Zi y),.fz (.list (gs.map QK))] (fun r=>∃φ es,MX y (QG gs) φ es/\r=.ol (ZW (Yv gs (Vo es))))
def P0:Qp ["yard","guests","edges"] Zac (Q0 BY):=by walk_at"p"
def ER (T:Bl mg) (U:Tx K mg C gS gE) (D:Df K mg "guests_reached" BY Zac) (Xbh:QD P w K mg base "filled_net" Zac 4 (Zg K (R_filled P w C))) (Xba:Zv P w K mg base C "reached" ZaK 1 (Zg K (R_reached P w C))) (Xa5:QD P w K mg base "guest_node" ZaP 1 (QQ (K:=K) R_gnode)) :
 QD P w K mg base "guests_reached" Zac 5 (Zg K R_lset):=by
 refine D.evD P0 (fun ts Φ h=>by cases h;rfl) (fun _ _ _ _ s H E ts Φ hr h=>?_)
 cases h with
 |@mk y gs ok hg g8 =>
   refine⟨_,(Q5 (QW (i:=2) P0.nd rfl (Or.inr rfl) (Yo Xba U.net hr (QF Xbh hr (Qo (pv 0) (Qo (pv 1) Qr))) (Qo (Vx (v:=.ref _) rfl U.mSTART rfl) Qr)))
 (Q4 (QU (Y8 (NX:=["yard","guests","edges"]) (sc:=Q0 BY) (N:=["number","edges"]) (f:=[none,some 2]) rfl (by decide +kernel) rfl rfl (V6 rfl T.range (Qo (Zz Yw (by rfl) T.len Yx (Qo (pv 1) Qr)) Qr)) (fun _=>(Zr (i:=0) (show(["number","edges"]:Qh).Nodup by decide +kernel) rfl Qa)) (fun _=>V5) (fun _=>(Bq (YW (Ju (Vw hr) (QF Xa5 hr (Qo (pv 0) Qr)) (pv 1))))) (fun _=>(pv 0)))))),?_⟩
   show Q1 K _ [some _,some _,none] _
   walk_at"x"
   have ll:(Zd y (QG gs)).length<400:=by
    unfold Zd;rw[Xo];have a:=BJ ok (QG gs) (n:=(QG gs).m) g8;have b:=HG ok ok.t8;omega
   refine QI (Wg (Φ:=fun r=>∃v φ es,r=.own v (Vk (kvG es))/\MX y (QG gs) φ es) (CI (P:=P) (w:=w) Pi (VR (Qv (Qt rfl) (Qv (Qt rfl) Q3)) (R_filled.mk ok hg g8)) (fun r hr'=>?_) (Qv (DM U.aS) Q3)) (fun r hr'=>?_))
   ·obtain⟨v,N,φ,rfl,hN,F,es0,h1,h2,h3⟩:=hr'
    refine⟨v,N,rfl,_,R_reached.mk (s:=.start) hN ll,fun r ⟨v',es,e,tr,cl⟩=>⟨v',φ,es,e,F,tr.start,cl,fun z=>h3 (tr.inClosed h2 h1 _ z)⟩⟩
   ·obtain⟨v,φ,es,rfl,fb⟩:=hr'
    walk_at"d"
    refine RN 2 rfl ?_
    walk_at"d"
    refine WM (r:=.ol (ZW (Yv gs (Vo es)))) (Bg (xs:=List.range gs.length) (enc:=fun(j:Nat)=>PyData.int (j:Int)) (h:=fun(j:Nat)=>PyData.int (j:Int)) (p:=Vo es) ?ei (by simp;omega) ?el) ⟨φ,es,fb,rfl⟩
    case ei =>
     have e:(gs.map QK).length=gs.length:=by simp
     refine EvI.cast (VD (Qv (Uc (Qt rfl)) Q3) (by rw[z62,e];omega) (by rw[z62,e];omega)) ?_;rw[e,XS];unfold ZK;refine U9 fun i _=>?_;rw[YI]
    case el =>
     intro k hk c;refine⟨_,Z2,?_,fun _=>?_⟩
     ·walk_at"e"
      exact Ze.cast (ZV (TR (k:=nk (.guest k)) (Zf (Qv (Qt rfl) Q3) R_gnode.mk) rfl)) (Gk _ _)
     ·walk_at"e"
      exact Qt rfl
def IU:Qp Zac Zac (Q0 Kj):=by walk_at"p"
def L4 (T:Bl mg) (D:Df K mg "lacking_set" Kj Zac) (XbF:QD P w K mg base "guests_reached" Zac 5 (Zg K R_lset)):QD P w K mg base "lacking_set" Zac 6 (Zg K R_lset):=by
 refine D.evD IU (fun ts Φ h=>by cases h;rfl) (fun _ _ _ _ s H E ts Φ hr h=>?_);have h0:=h
 cases h with
 |@mk y gs ok hg g8 =>
   refine⟨_,(Q4 (QU (QF XbF hr (Qo (pv 0) (Qo (pv 1) Qr))))),?_⟩;show Q1 K _ [some _,some _] _
   walk_at"x"
   exact D9 (VR (Qv (Qt rfl) (Qv (Qt rfl) Q3)) h0) (fun r hr'=>hr')
def DE (y:Yd)(gs:List Gs)(sm:Qk):Int:=R4 gs sm-BD y gs sm
inductive R_short:List OT->OT->Prop
 |mk {y:Yd} {gs:List Gs} {sm:Qk} (ok:y.Ok) (hg:∀g∈gs,g.line<y.ls.length) (hs:SetOk gs sm) :
  R_short [.fz (Zi y),.fz (.list (gs.map QK)),.fz (.list (ZW sm))] (.fz (.int (DE y gs sm)))
def Ic:Qp Zaf Zaf (Q0 BI):=by walk_at"p"
def F8 (T:Bl mg) (D:Df K mg "short_of" BI Zaf) (Xa4:QD P w K mg base "want_of" Zat 1 (QQ (K:=K) R_want)) (XbG:QD P w K mg base "given_most" Zaf 4 (QQ (K:=K) R_givenm)) :
 QD P w K mg base "short_of" Zaf 5 (QQ (K:=K) R_short):=by
 refine D.ev Ic (fun ts r h=>by cases h;rfl) (fun _ _ _ _ s H E ts r hr h=>?_)
 cases h with
 |@mk y gs sm ok hg hs =>
   refine⟨_,(Q4 (QU (Za YD (Zz NB (by rfl) T.sum NS (Qo (Y8 (NX:=Zaf) (sc:=Q0 BI) (N:=["number","guests"]) (f:=[none,some 1]) rfl (by decide +kernel) rfl rfl (WQ (pv 2)) (fun _=>(Zr (i:=0) (show(["number","guests"]:Qh).Nodup by decide +kernel) rfl Qa)) (fun _=>V5) (fun _=>YE) (fun _=>(QF Xa4 hr (Qo (QO QN (pv 1) (pv 0)) Qr)))) Qr)) (QF XbG hr (Qo (pv 0) (Qo (pv 1) (Qo (pv 2) Qr))))))),?_⟩;show Q1 K _ [some _,some _,some _] _
   walk_at"x"
   have n8:=hs.len;refine Vg (Z8 (ME (ns:=sm.map fun k=>(gs.getD k default).want) ?_ rfl) (Zf (by walk_at"ea") (R_givenm.mk ok hg hs))) rfl
   refine EvO.fz ?_;rw[Y3];refine Jr (xs:=sm) (enc:=fun(j:Nat)=>PyData.int (j:Int)) ?_ (by omega) ?_
   ·walk_at"ei"
   ·intro x hx c
    have hk:=hs.mem x hx;refine⟨_,by walk_at"g",?_⟩
    walk_at"e"
    refine Zf (ts:=[.fz (QK (gs.getD x default))]) (Qv (Qu.cast (by walk_at"ev") (by rw[XS])) Q3) R_want.mk
def Oe:Qp ZaG ZaG (Q0 U4):=by walk_at"p"
def AA {f:Addr} {fd:FuncData} (T:Bl mg) (F:Fun K "__init__" "NoRoom.__init__" U4 f fd) (cl:Jg K YR CR f) (xs:Ky K CR) (tk:W.takerIn K CR "some"=some none) (my:mg "YardError"=some (.ref YR)):FnOk P w K mg base CX0 1 f fd ZaG (Gz K CR "some"):=by
 refine F.ok Oe (fun vs H Q E ⟨e,p,xs,h,_⟩=>by rw[h];rfl) (fun cdv A outer s H vs Q E hr h=>⟨_,Q5 (Zo (Sj (i:=0) cl rfl my rfl Qa)) (Q4 (NZ xs tk (pv 0) (J7 Fx (by rfl) T.list LZ (Qo (pv 1) Qr)) rfl)),Cw h⟩)
inductive R_refuse:List OT->(OT->Prop)->Prop
 |mk {y:Yd} {gs:List Gs} (ok:y.Ok) (hg:∀g∈gs,GOk y g) (g8:gs.length<=8) (h:∀S,Vy y (QG gs) S<=0):R_refuse [.fz (Zi y),.fz (.list (gs.map QK))] (fun r=>r=.fz .none)
inductive X_refuse:List OT->(Qd->Prop)->Prop
 |mk {y:Yd} {gs:List Gs} (ok:y.Ok) (hg:∀g∈gs,GOk y g) (g8:gs.length<=8) {S:Qm} (h:0<Vy y (QG gs) S):X_refuse [.fz (Zi y),.fz (.list (gs.map QK))] (fun d=>∃S,0<Vy y (QG gs) S/\d=ZW (Yv gs S))
def Ks:Qp Zaf Zac (Q0 Kg):=by walk_at"p"
def E7 (T:Bl mg) (XR:XC K mg "NoRoom" YR CR fR) (D:Df K mg "refuse_lack" Kg Zac) (Xbl:QD P w K mg base "lacking_set" Zac 6 (Zg K R_lset)) (Xbm:QD P w K mg base "short_of" Zaf 5 (QQ (K:=K) R_short)) (Xbn:JS P w K mg base fR ZaG 1 (Gz K CR "some")) :
 UO P w K mg base "refuse_lack" Zac 7 (spX K CR "some" R_refuse X_refuse):=by
 refine D.evZ Ks (fun ts Φ h=>by cases h;rfl) (fun ts Φ h=>by cases h;rfl) (by decide) (fun f cdv A outer s H RR ts Φ hr hst h=>?_) (fun f cdv A outer s F H RR ts Φ hr hst hq h=>?_)
 ·cases h with
  |@mk y gs ok hg g8 h =>
    refine⟨_,(Q5 (QW (i:=2) Ks.nd rfl Qa (QF Xbl hr (Qo (pv 0) (Qo (pv 1) Qr))))
 (Q4 (Zw (ZS WJ (QF Xbm hr (Qo (pv 0) (Qo (pv 1) (Qo (pv 2) Qr)))) Qy (ZA _)) (Q4 (J6 XR Xbn hst hr (Qo (pv 2) Qr))) Z0))),?_⟩
    show Q1 K _ [some _,some _,none] _
    walk_at"x"
    have hk:=hg;refine QI (Wg (VR (Qv (Qt rfl) (Qv (Qt rfl) Q3)) (R_lset.mk ok hk g8)) (fun r hr'=>?_));obtain⟨φ,es,fb,rfl⟩:=hr'
    walk_at"d"
    refine UT 2 rfl ?_
    walk_at"d"
    have h1:=h (Vo es);rw[SD]at h1;exact Z1 (b:=false) (Ze.cast (Z5 (Wb (Zf (Qv (Qt rfl) (Qv (Qt rfl) (Qv (Qt rfl) Q3))) (R_short.mk ok (fun g h=>(hg g h).ln) (RP g8 _))) Q8)) (XO (by unfold DE;omega))) (fun c=>nomatch c) (fun _=>ZI rfl)
 ·cases h with
  |@mk y gs ok hg g8 S h =>
    refine⟨_,(Q5 (QW (i:=2) Ks.nd rfl Qa (QF Xbl hr (Qo (pv 0) (Qo (pv 1) Qr))))
 (Q4 (Zw (ZS WJ (QF Xbm hr (Qo (pv 0) (Qo (pv 1) (Qo (pv 2) Qr)))) Qy (ZA _)) (Q4 (J6 XR Xbn hst hr (Qo (pv 2) Qr))) Z0))),?_⟩
    show EvZ K F H _ [some _,some _,none]
    walk_at"x"
    have hk:=hg;refine T2 (fun ρ'=>∃φ es,MX y (QG gs) φ es/\ρ'=[some (.fz (Zi y)),some (.fz (.list (gs.map QK))),some (.ol (ZW (Yv gs (Vo es))))]) (Wg (VR (Qv (Qt rfl) (Qv (Qt rfl) Q3)) (R_lset.mk ok hk g8)) (fun r hr'=>?_)) ?_
    ·obtain⟨φ,es,fb,rfl⟩:=hr'
     exact⟨φ,es,fb,rfl⟩
    ·rintro _ ⟨φ,es,fb,rfl⟩
     refine Tp 2 rfl ?_
     walk_at"d"
     have h1:0<Vy y (QG gs) (Vo es):=by
      have a:=AW fb.1 ok (N7 hk) S;have e:=fb.1.lack ok (N7 hk) fb.2.2.1 fb.2.1 fb.2.2.2;have e:MJ y (QG gs) φ=Vy y (QG gs) (Vo es):=e;omega
     have h2:=h1;rw[SD]at h2;exact MK (b:=true) (Ze.cast (Z5 (Wb (Zf (Qv (Qt rfl) (Qv (Qt rfl) (Qv (Qt rfl) Q3))) (R_short.mk ok (fun g h=>(hg g h).ln) (RP g8 _))) Q8)) (XV (by unfold DE;omega))) (fun _=>CO (Qt rfl) ⟨Vo es,h1,rfl⟩ hq) (fun c=>nomatch c)
inductive R_feed:List OT->(OT->Prop)->Prop
 |mk {n:Int}:R_feed [.fz (.int n)] (fun r=>∃a b:Int,r=.ol [.int a,.int b])
def WY:Qp ["_law_cell","_law_big","_law_one","_law_other","_law_k"] ["_law_cell"] (Q0 HJ):=by walk_at"p"
def LM (T:Bl mg) (D:Df K mg "_law_feed" HJ ["_law_cell"]):QD P w K mg base "_law_feed" ["_law_cell"] 1 (Zg K R_feed):=by
 refine D.evD WY (fun ts r h=>by cases h;rfl) (fun _ _ _ _ s H E ts r hr h=>?_)
 cases h with
 |@mk n =>
   refine⟨_,(Q5 (QW (i:=1) WY.nd rfl Qa Qy)
 (Q5 (QW (i:=2) WY.nd rfl Qa (Za Vz (Za Wc (Za Uy (pv 0) Qy) Qy) Qy))
 (Q5 (QW (i:=3) WY.nd rfl Qa (Za Vz (Za Wc (Za Uy (pv 0) Qy) Qy) Qy))
 (Q5 (Vr PassesOwn.never rfl (V6 rfl T.range (Qo Qy Qr)) (Zr (i:=4) WY.nd rfl Qa) (Q5 (QW (i:=2) WY.nd rfl Qa (Za Wc (Za Vz (Za Vz (Za Ub (pv 2) (pv 2)) (Za Ub Qy (pv 3))) (pv 4)) Qy))
 (Q5 (QW (i:=3) WY.nd rfl Qa (Za Wc (Za Vz (Za Vz (Za Ub (pv 3) (pv 3)) (Za Ub Qy (pv 2))) Qy) Qy))
 (Q4 (QW (i:=1) WY.nd rfl Qa (Za Vz (Za Ub (pv 1) Qy) (pv 3)))))))
 (Q5 (Zw (ZS JP (Za Wc (pv 0) Qy) Qy (ZA _)) (Q4 (QU (Z4 (Qo (Za Uy (pv 0) Qy) (Qo (pv 1) Qr))))) Z0)
 (Q4 (QU (Z4 (Qo (pv 1) (Qo Qy Qr)))))))))),?_⟩
   show Q1 K _ [some _,none,none,none,none] _
   walk_at"x"
   refine QI (Zu Q8 ?_)
   walk_at"d"
   have d2:∀{i:Int},JU i 2:=Mp (by decide) (by decide);have d3:∀{i:Int},JU i 3:=Mp (by decide) (by decide);refine QI (Zu (Z8 (ZE (ZE (Qt rfl) Q8 d2) Q8 (by decide)) Q8) ?_)
   walk_at"d"
   refine QI (Zu (Z8 (ZE (ZE (Qt rfl) Q8 d3) Q8 (by decide)) Q8) ?_)
   walk_at"d"
   have b1:0<=n/2%2147483647+11/\n/2%2147483647+11<4294967296:=by omega
   have b2:0<=n/3%2147483629+7/\n/3%2147483629+7<4294967296:=by omega
   generalize n/2%2147483647+11=x at b1;generalize n/3%2147483629+7=y at b2;refine QI (V3 (ds:=ZK 0 40) (fun _ ρ'=>∃(a b c:Int) (u:Option OT),(0<=a/\a<4294967296)/\(0<=b/\b<4294967296)/\ρ'=[some (.fz (.int n)),some (.fz (.int c)),some (.fz (.int a)),some (.fz (.int b)),u]) ?ei ⟨x,y,0,none,b1,b2,rfl⟩ ?st ?fin)
   case ei=>exact EvI.cast (VD (Qv Q8 Q3) (by rw[z62];decide) (by rw[z62];decide)) (J5 rfl (by decide))
   case st =>
    rintro i d _ hd ⟨a,b,c,u,ha,hb,rfl⟩
    obtain⟨hi,rfl⟩:=Y2 hd;refine⟨_,Z2,?_⟩
    walk_at"d"
    have p64:(2:Int)^64=18446744073709551616:=by decide
    have m1:WF a a:=.inl ⟨by omega,by omega⟩;have m2:∀{z:Int},WF 48271 z:=.inl ⟨by decide,by decide⟩;have m3:∀{z:Int},WF 69621 z:=.inl ⟨by decide,by decide⟩;have m4:∀{z:Int},WF z 2147483629:=.inr ⟨by decide,by decide⟩;have m5:WF b b:=.inl ⟨by omega,by omega⟩;refine QI (Zu (ZE (Z8 (Z8 (ZE (Qt rfl) (Qt rfl) m1) (ZE Q8 (Qt rfl) m2)) (Qt rfl)) Q8 (by decide)) ?_)
    walk_at"d"
    have e1:0<=(a*a+48271*b+(0+(i:Int)))%2147483647/\(a*a+48271*b+(0+(i:Int)))%2147483647<4294967296:=⟨UI _ (by decide),Int.lt_trans (GH _ (by decide)) (by decide)⟩;generalize (a*a+48271*b+(0+(i:Int)))%2147483647=a' at e1;refine QI (Zu (ZE (Z8 (Z8 (ZE (Qt rfl) (Qt rfl) m5) (ZE Q8 (Qt rfl) m3)) Q8) Q8 (by decide)) ?_)
    walk_at"d"
    have e2:0<=(b*b+69621*a'+1)%2147483629/\(b*b+69621*a'+1)%2147483629<4294967296:=⟨UI _ (by decide),Int.lt_trans (GH _ (by decide)) (by decide)⟩;generalize (b*b+69621*a'+1)%2147483629=b' at e2;refine Zu (Z8 (ZE (Qt rfl) Q8 m4) (Qt rfl)) ?_
    exact⟨a',b',_,_,e1,e2,rfl⟩
   case fin =>
    rintro _ ⟨a,b,c,u,ha,hb,rfl⟩
    refine QI (Z1 (b:=decide (n%2=0)) (Ze.cast (Z5 (Yz (ZE (Qt rfl) Q8 (by decide)) Q8)) rfl) (fun _=>?_) (fun _=>ZI ?_))
    ·exact WM (Vi (ds:=[.int (n/2),.int c]) (QY (ZE (Qt rfl) Q8 d2) (QY (Qt rfl) Z7)) Wr) ⟨_,_,rfl⟩
    ·exact WM (Vi (ds:=[.int c,.int 0]) (QY (Qt rfl) (QY Q8 Z7)) Wr) ⟨_,_,rfl⟩
inductive R_digit:Qd->List OT->(OT->Qd->Prop)->Prop
 |mk {a b m:Int} (h0:0<m) (h1:m<=10^60):R_digit [.int a,.int b] [.fz (.int m)] (fun r ds'=>∃n a' b':Int,0<=n/\n<m/\r=.fz (.int n)/\ds'=[.int a',.int b'])
def Py:Qp ["_law_feed_here","_law_many","_law_digit_here"] Zaq (Q0 Kn):=by walk_at"p"
def CK (T:Bl mg) (D:Df K mg "_law_digit" Kn Zaq):QD P w K mg base "_law_digit" Zaq 1 (spP K olP R_digit):=by
 refine D.evP Py (fun M ts Ψ h=>by cases h;rfl) (fun f cdv A outer s H E v M ts Ψ hr h=>?_)
 cases h with
 |@mk a b m h0 h1 =>
   refine⟨_,(Q5 (Zw (ZS JP (QO QN (pv 0) Qy) Qy (ZA _)) (Q5 (Di (QO QN (pv 0) Qy) (Dm (pv 0) Qy WU))
 (Q4 (Di Qy (Dm (pv 0) Qy WU)))) Z0)
 (Q5 (QW (i:=2) Py.nd rfl Qa (Za Wc (QO QN (pv 0) Qy) (pv 1)))
 (Q5 (Di (Za Uy (QO QN (pv 0) Qy) (pv 1)) (Dm (pv 0) Qy WU))
 (Q4 (QU (pv 2)))))),?_⟩
   show EvR K _ [some (.own v (olP [.int a,.int b])),some (.fz (.int m)),none] _
   walk_at"x"
   have rd:∀{ρ:Q6} {x y:Int},ρ[0]?=some (some (.own v (olP [.int x,.int y])))->Qu K (tOp (rIx K) (QB 0) (tC (.int 0))) ρ (.int x)/\Qu K (tOp (rIx K) (QB 0) (tC (.int 1))) ρ (.int y):=fun{ρ x y} e=>by
    have hl:=(Xg.mp e).1
    exact⟨RV 0 e rfl (Wa (ds:=[.int x,.int y]) (Qt (Xk hl)) Q8 rfl),RV 0 e rfl (Wa (ds:=[.int x,.int y]) (Qt (Xk hl)) Q8 rfl)⟩
   refine ZB (fun ρ'=>∃x y:Int,ρ'=[some (.own v (olP [.int x,.int y])),some (.fz (.int m)),none]) (Z1 (b:=decide (a=0)) (Ze.cast (Z5 (Yz (rd rfl).1 Q8)) rfl) (fun _=>?_) (fun _=>ZI ⟨a,b,rfl⟩)) ?_
   ·refine QI (Hq (j:=0) rfl (rd rfl).2 Q8 rfl ?_)
    walk_at"d"
    refine Hq (j:=1) rfl Q8 Q8 rfl ?_
    exact⟨b,0,rfl⟩
   ·rintro _ ⟨x,y,rfl⟩
    refine ZB (fun ρ'=>ρ'=[some (.own v (olP [.int x,.int y])),some (.fz (.int m)),some (.fz (.int (x%m)))]) (Zu (ZE (rd rfl).1 (Qt rfl) h0) rfl) ?_
    rintro _ rfl
    refine ZB (fun ρ'=>ρ'=[some (.own v (olP [.int (x/m),.int y])),some (.fz (.int m)),some (.fz (.int (x%m)))]) (Hq (j:=0) rfl (ZE (rd rfl).1 (Qt rfl) (cdl h0 h1)) Q8 rfl rfl) ?_
    rintro _ rfl
    exact Gf (Qt rfl) ⟨_,⟨x%m,x/m,y,UI _ (Int.ne_of_gt h0),GH _ h0,rfl,rfl⟩,rfl⟩
def Dg (K:W.Frag)(t:TE)(ρ:Q6)(v:V)(m:Int):Prop:=EvW K t ρ 0 fun n o=>0<=n/\n<m/\∃a b:Int,o=.own v (olP [.int a,.int b])
def Y0 {ρ:Q6}{t:TE}{v:V}{a b m:Int}{E:XK}(e:ρ[0]?=some (some (.own v (olP [.int a,.int b]))))(h:Qu K t ρ (.int m))(h0:0<m)(h1:m<=10^60):Dg K (VA (spP K olP R_digit) [] E (QE (QB 0) (QE t QP))) ρ v m :=
 L7 (Φ:=olP) e (Qv h Q3) (R_digit.mk h0 h1) (by
  rintro r N' ⟨n,a',b',n0,n1,rfl,rfl⟩
  exact⟨n,rfl,n0,n1,a',b',rfl⟩)
def Mv (k T:Nat)(l:Ln):Prop:=(l.up=none↔k=0)/\(∀a,l.up=some a->a<k)/\l.bs.length=T/\∀b∈l.bs,0<=b/\b<10^30
theorem PD {T:Nat}{ls:List Ln}(t1:1<=T)(t8:T<=8)(l1:1<=ls.length)(l5:ls.length<=5)(h:∀k (hk:k<ls.length),Mv k T ls[k]):(⟨T,ls⟩:Yd).Ok where
 t1:=t1
 t8:=t8
 l1:=l1
 l5:=l5
 up0:=by
  have h0:=(h 0 (by omega)).1.mpr rfl
  simp[Zh,show 0<ls.length by omega,h0]
 ups:=fun k k0 hk=>by
  have hk:k<ls.length:=hk;obtain⟨a1,a2,_⟩:=h k hk
  cases e:ls[k].up with
  |none=>have:=a1.mp e;omega
  |some a=>exact⟨a,by simp[Zh,hk,e],a2 a e⟩
 bl:=fun l hl=>by
  obtain⟨k,hk,rfl⟩:=UA.mp hl
  exact(h k hk).2.2.1
 bb:=fun l hl b hb=>by
  obtain⟨k,hk,rfl⟩:=UA.mp hl
  have:=(h k hk).2.2.2 b hb
  exact⟨this.1,D3 this.2⟩
def PR (y:Yd):Prop := ∀l∈y.ls,∀b∈l.bs,0<=b/\b<10^30
inductive R_dyard:Qd->List OT->(OT->Qd->Prop)->Prop
 |mk {a b:Int}:R_dyard [.int a,.int b] [] (fun r ds'=>∃y:Yd,y.Ok/\PR y/\r=.fz (Zi y))
def To {b:Int}{c:Bool}(h0:0<=b)(h1:b<10^30):0<=b*(if c then 1 else 0)/\b*(if c then 1 else 0)<10^30:=by
 have e:(0:Int)<10^30:=by decide +kernel
 cases c
 ·simp
 ·simpa using ⟨h0,h1⟩
def p60 {m:Int}(h:m<=10^30):m<=10^60:=Int.le_trans h (by decide +kernel)
def Wk:Qp ["_law_feed_here","_law_turns","_law_scale","_law_lines","_law_k","_law_above","_law_bounds","_law_turn","_law_bound"] ZaO (Q0 HI):=by walk_at"p"
def CJ (T:Bl mg) (D:Df K mg "_law_yard" HI ZaO) (XaX:QD P w K mg base "_law_digit" Zaq 1 (spP K olP R_digit)):QD P w K mg base "_law_yard" ZaO 2 (spP K olP R_dyard):=by
 refine D.evP Wk (fun M ts Ψ h=>by cases h;rfl) (fun f cdv A outer s H E v M ts Ψ hr h=>?_)
 cases h with
 |@mk a b =>
   refine⟨_,(Q5 (QW (i:=1) Wk.nd rfl Qa (Za Vz Qy (QF XaX hr (Qo (pv 0) (Qo Qy Qr)))))
 (Q5 (QW (i:=2) Wk.nd rfl Qa (QO QN (Z4 (Qo Qy (Qo Qy (Qo Qy (Qo (Za Bk Qy Qy) Qr))))) (QF XaX hr (Qo (pv 0) (Qo Qy Qr)))))
 (Q5 (QW (i:=3) Wk.nd rfl Qa (Z4 Qr))
 (Q5 (Vr PassesOwn.never rfl (V6 rfl T.range (Qo (Za Vz Qy (QF XaX hr (Qo (pv 0) (Qo Qy Qr)))) Qr)) (Zr (i:=4) Wk.nd rfl Qa) (Q5 (QW (i:=5) Wk.nd rfl Qa Gi)
 (Q5 (Zw (ZS WJ (pv 4) Qy (ZA _)) (Q4 (QW (i:=5) Wk.nd rfl Qa (QF XaX hr (Qo (pv 0) (Qo (pv 4) Qr))))) Z0)
 (Q5 (QW (i:=6) Wk.nd rfl Qa (Z4 Qr))
 (Q5 (Vr PassesOwn.never rfl (V6 rfl T.range (Qo (pv 1) Qr)) (Zr (i:=7) Wk.nd rfl Qa) (Q5 (QW (i:=8) Wk.nd rfl Qa (QF XaX hr (Qo (pv 0) (Qo (pv 2) Qr))))
 (Q4 (Zo (VL PySem.F.plainAttrs_list PySem.F.slot_list_append PySem.F.type_list_append VS (pv 6) (Qo (Za Ub (pv 8) (J7 NP (by rfl) T.int MW (Qo (Bp WJ (QF XaX hr (Qo (pv 0) (Qo Qy Qr))) Qy (ZA _)) Qr))) Qr))))))
 (Q4 (Zo (VL PySem.F.plainAttrs_list PySem.F.slot_list_append PySem.F.type_list_append VS (pv 3) (Qo (Yy (Qo (pv 5) (Qo (J7 RI (by rfl) T.tuple Hb (Qo (pv 6) Qr)) Qr))) Qr)))))))))
 (Q4 (QU (Yy (Qo (pv 1) (Qo (J7 RI (by rfl) T.tuple Hb (Qo (pv 3) Qr)) Qr))))))))),?_⟩
   show EvR K _ [some (.own v (olP [.int a,.int b])),none,none,none,none,none,none,none,none] _
   walk_at"x"
   have q30:(0:Int)<10^(30:Int).toNat/\(10:Int)^(30:Int).toNat<=10^30:=by decide +kernel
   have q31:(16:Int)<=10^30:=by decide +kernel
   refine ZB (fun ρ'=>∃(T:Nat) (a b:Int),1<=T/\T<=8/\ρ'=[some (.own v (olP [.int a,.int b])),some (.fz (.int (T:Int))),none,none,none,none,none,none,none]) (RW (Y0 rfl Q8 (by decide) (by decide +kernel)) ?_) ?_
   ·rintro n _ ⟨n0,n1,a,b,rfl⟩
    refine Zu (Z8 Q8 Q8) ⟨(1+n).toNat,a,b,by omega,by omega,?_⟩;rw[XZ (by omega)];rfl
   rintro _ ⟨T,a,b,t1,t8,rfl⟩
   refine ZB (fun ρ'=>∃sc a b:Int,0<sc/\sc<=10^30/\ρ'=[some (.own v (olP [.int a,.int b])),some (.fz (.int (T:Int))),some (.fz (.int sc)),none,none,none,none,none,none]) (S8 (ds:=[.int 5,.int 9,.int 16,.int (10^(30:Int).toNat)]) (EvO.fz (Vi (QY Q8 (QY Q8 (QY Q8 (QY (ZE Q8 Q8 (UQ (by decide) (by decide))) Z7)))) (by show(4:Nat)<=1000;decide))) (Y0 rfl Q8 (by decide) (by decide +kernel)) ?_) ?_
   ·rintro n _ ⟨n0,n1,a,b,rfl⟩
    obtain rfl|rfl|rfl|rfl:n=0\/n=1\/n=2\/n=3:=by omega
    ·exact⟨_,rfl,5,a,b,by decide,by omega,rfl⟩
    ·exact⟨_,rfl,9,a,b,by decide,by omega,rfl⟩
    ·exact⟨_,rfl,16,a,b,by decide,by omega,rfl⟩
    ·exact⟨_,rfl,_,a,b,q30.1,q30.2,rfl⟩
   rintro _ ⟨sc,a,b,s0,s1,rfl⟩
   refine ZB (fun ρ'=>ρ'=[some (.own v (olP [.int a,.int b])),some (.fz (.int (T:Int))),some (.fz (.int sc)),some (.ol []),none,none,none,none,none]) (VY (Vi (ds:=[]) Z7 (by decide)) rfl) ?_
   rintro _ rfl
   refine ZB (fun ρ'=>∃(ls:List Ln) (a b:Int) (u4 u5 u6 u7 u8:Option OT),(1<=ls.length/\ls.length<=5)/\(∀k (hk:k<ls.length),Mv k T ls[k])/\ρ'=[some (.own v (olP [.int a,.int b])),some (.fz (.int (T:Int))),some (.fz (.int sc)),some (.ol (ls.map Y4)),u4,u5,u6,u7,u8]) (Lz (Y0 rfl Q8 (by decide) (by decide +kernel)) ?_) ?_
   ·rintro n _ ⟨n0,n1,a,b,rfl⟩
    walk_at"d"
    refine V3 (ds:=ZK 0 (1+n).toNat) (fun i ρ'=>∃(ls:List Ln) (a b:Int) (u4 u5 u6 u7 u8:Option OT),ls.length=i/\(∀k (hk:k<ls.length),Mv k T ls[k])/\ρ'=[some (.own v (olP [.int a,.int b])),some (.fz (.int (T:Int))),some (.fz (.int sc)),some (.ol (ls.map Y4)),u4,u5,u6,u7,u8]) ?ei ⟨[],a,b,_,_,_,_,_,rfl,(fun k hk=>Xl hk (Nat.not_lt_zero k)),rfl⟩ ?st ?fin
    case ei=>exact VD (Qv (Z8 Q8 Q8) Q3) (by rw[z62];omega) (by rw[z62];omega)
    case fin =>
     rintro _ ⟨ls,a,b,u4,u5,u6,u7,u8,e,h,rfl⟩
     rw[W2]at e;exact⟨ls,a,b,u4,u5,u6,u7,u8,by omega,h,rfl⟩
    case st =>
     rintro i d _ hd ⟨ls,a,b,u4,u5,u6,u7,u8,e,h,rfl⟩
     obtain⟨hi,rfl⟩:=Y2 hd;have hi:i<(1+n).toNat:=hi;refine⟨_,Z2,?_⟩
     walk_at"d"
     rw[YI];refine QI (Zu Ww ?_)
     walk_at"d"
     refine QI (P9 (fun ρ'=>∃(ab:Option Nat) (a b:Int),(ab=none↔i=0)/\(∀x,ab=some x->x<i)/\ρ'=[some (.own v (olP [.int a,.int b])),some (.fz (.int (T:Int))),some (.fz (.int sc)),some (.ol (ls.map Y4)),some (.fz (.int (i:Int))),some (.fz (upD ab)),u6,u7,u8]) (Z1 (b:=decide ((i:Int) > 0)) (Ze.cast (Z5 (Wb (Qt rfl) Q8)) rfl) (fun c=>?_) (fun c=>ZI ⟨none,a,b,⟨fun _=>by have:=GI c;omega,fun _=>rfl⟩,(fun x z=>nomatch z),rfl⟩)) ?_)
     ·have c:=X7 c
      refine BB (Y0 rfl (Qt rfl) (by omega) (Int.le_trans (show(i:Int)<=5 by omega) (by decide +kernel))) ?_
      rintro m _ ⟨m0,m1,a,b,rfl⟩
      refine⟨some m.toNat,a,b,⟨fun z=>(nomatch z),fun z=>Xl z (by omega)⟩,(fun x z=>by injection z with z;omega),?_⟩;show _=([_,_,_,_,_,some (OT.fz (.int ((m.toNat:Nat):Int))),_,_,_]:Q6);rw[XZ m0];rfl
     rintro _ ⟨ab,a,b,ab1,ab2,rfl⟩
     refine QI (VY (Vi (ds:=[]) Z7 (by decide)) ?_)
     walk_at"d"
     refine QI (V3 (ds:=ZK 0 T) (fun j ρ'=>∃(bs:Ql) (a b:Int) (u7 u8:Option OT),bs.length=j/\(∀x∈bs,0<=x/\x<10^30)/\ρ'=[some (.own v (olP [.int a,.int b])),some (.fz (.int (T:Int))),some (.fz (.int sc)),some (.ol (ls.map Y4)),some (.fz (.int (i:Int))),some (.fz (upD ab)),some (.ol (bs.map PyData.int)),u7,u8]) ?ei2 ⟨[],a,b,_,_,rfl,(fun x z=>nomatch z),rfl⟩ ?st2 ?fin2)
     case ei2=>exact EvI.cast (VD (Qv (Qt rfl) Q3) (by rw[z62];omega) (by rw[z62];omega)) (J5 rfl (by omega))
     case st2 =>
      rintro j d _ hd ⟨bs,a,b,u7,u8,e2,h2,rfl⟩
      obtain⟨hj,rfl⟩:=Y2 hd;refine⟨_,Z2,?_⟩
      walk_at"d"
      refine QI (BB (Y0 rfl (Qt rfl) s0 (p60 s1)) ?_)
      rintro m _ ⟨m0,m1,a,b,rfl⟩
      walk_at"d"
      refine Lx rfl rfl (Y0 rfl Q8 (by decide) (by decide +kernel)) ?_
      rintro z _ ⟨z0,z1,a,b,rfl⟩
      walk_at"d"
      have mm:=To (c:=decide (z > 0)) m0 (Int.lt_of_lt_of_le m1 s1);refine Ul rfl (ZE (Qt rfl) (Bm (Wb Q8 Q8)) (.inr ⟨by split<;>decide,by split<;>decide⟩)) (by rw[Xm];omega) ⟨bs++[m*(if decide (z > 0) then 1 else 0)],a,b,some (.fz (.int (0+(j:Int)))),some (.fz (.int m)),by rw[Xo,e2];rfl,fun x hx=>?_,?_⟩
      ·rcases XG.mp hx with hx|hx
       ·exact h2 x hx
       ·rw[Xh.mp hx];exact mm
      ·rw[Xy]
       rfl
     case fin2 =>
      rintro _ ⟨bs,a,b,u7,u8,e2,h2,rfl⟩
      rw[W2]at e2;refine Ul rfl (YC (ds:=[upD ab,.tuple (bs.map PyData.int)]) (QY (Qt rfl) (QY (De rfl) Z7)) Wr) (by rw[Xm];omega) ⟨ls++[⟨ab,bs⟩],a,b,some (.fz (.int (i:Int))),some (.fz (upD ab)),some (.ol (bs.map PyData.int)),u7,u8,by rw[Xo,e];rfl,fun k hk=>?_,?_⟩
      ·by_cases z:k<ls.length
       ·rw[List.getElem_append_left z];exact h k z
       ·have:k=ls.length:=by rw[Xo]at hk;have:[(⟨ab,bs⟩:Ln)].length=1:=rfl;omega
        subst this;rw[List.getElem_append_right (Xs _)];simp only[Nat.sub_self,List.getElem_cons_zero];rw[e];exact⟨ab1,ab2,e2,h2⟩
      ·rw[Xy]
       rfl
   rintro _ ⟨ls,a,b,u4,u5,u6,u7,u8,⟨l1,l5⟩,h,rfl⟩
   refine Gf (YC (ds:=[.int (T:Int),.tuple (ls.map Y4)]) (QY (Qt rfl) (QY (De rfl) Z7)) Wr) ⟨_,⟨⟨T,ls⟩,PD t1 t8 l1 l5 h,fun l hl=>?_,rfl⟩,rfl⟩;obtain⟨k,hk,rfl⟩:=UA.mp hl
   exact(h k hk).2.2.2
theorem Dq:∀{bs:Ql},bs≠[]->∃M∈bs,∀a∈bs,a<=M
 |[],h=>Xl rfl h
 |[x],_=>⟨x,Xa,fun a ha=>by rw[Xh.mp ha];exact Jf _⟩
 |x::y::bs,_=>by
   obtain⟨M,m1,m2⟩:=Dq (bs:=y::bs) (List.cons_ne_nil _ _)
   by_cases h:x<=M
   ·refine⟨M,Xf _ m1,fun a ha=>?_⟩
    rcases Xe.mp ha with rfl|ha
    ·exact h
    ·exact m2 a ha
   ·refine⟨x,Xa,fun a ha=>?_⟩
    rcases Xe.mp ha with rfl|ha
    ·exact Jf _
    ·have:=m2 a ha
     omega
noncomputable def mxB (bs:Ql):Int:=open Classical in if h:bs≠[] then Classical.choose (Dq h) else 0
def NW {bs:Ql}(h:bs≠[]):mxB bs∈bs/\∀a∈bs,a<=mxB bs:=by
 unfold mxB;rw[dif_pos h];exact Classical.choose_spec (Dq h)
structure G30 (y:Yd)(g:Gs):Prop where
 ok:g.Ok y
 w:g.want<10^30
 m:g.most<10^30
inductive R_dguest:Qd->List OT->(OT->Qd->Prop)->Prop
 |mk {a b:Int} {y:Yd} (ok:y.Ok):R_dguest [.int a,.int b] [.fz (Zi y),.fz (.int 0)] (fun r ds'=>∃g:Gs,G30 y g/\r=.fz (QK g))
def Mj {n:Nat}(h:n<=8):(n:Int)<=10^60:=Int.le_trans (show(n:Int)<=8 by omega) (by decide +kernel)
def WZ:Qp Zah Zai (Q0 BT):=by walk_at"p"
def AM (T:Bl mg) (D:Df K mg "_law_guest" BT Zai) (XaX:QD P w K mg base "_law_digit" Zaq 1 (spP K olP R_digit)):QD P w K mg base "_law_guest" Zai 2 (spP K olP R_dguest):=by
 refine D.evP WZ (fun M ts Ψ h=>by cases h;rfl) (fun f cdv A outer s H E v M ts Ψ hr h=>?_)
 cases h with
 |@mk a b y ok =>
   refine⟨_,(Q5 (QW (i:=3) WZ.nd rfl Qa (QF XaX hr (Qo (pv 0) (Qo (QO QN (pv 1) Qy) Qr))))
 (Q5 (Zw (PW.pt (Jw (CD JO JO (pv 3) (pv 2) (QO QN (pv 1) Qy)) (Uk (ZS WJ (QF XaX hr (Qo (pv 0) (Qo Qy Qr))) Qy (ZA _))))) (Q4 (QW (i:=3) WZ.nd rfl Qa (Za Vz (pv 2) (QF XaX hr (Qo (pv 0) (Qo (Za YD (QO QN (pv 1) Qy) (pv 2)) Qr)))))) Z0)
 (Q5 (QW (i:=4) WZ.nd rfl Qa (Za Vz (pv 3) (QF XaX hr (Qo (pv 0) (Qo (Za YD (QO QN (pv 1) Qy) (pv 3)) Qr)))))
 (Q5 (QW (i:=5) WZ.nd rfl Qa (QF XaX hr (Qo (pv 0) (Qo (Zz Yw (by rfl) T.len Yx (Qo (QO QN (pv 1) Qy) Qr)) Qr))))
 (Q5 (QW (i:=6) WZ.nd rfl Qa (QO QN (Z4 (Qo Qy (Qo Qy (Qo Qy (Qo (Za YD (Za Bk Qy Qy) Qy) Qr))))) (QF XaX hr (Qo (pv 0) (Qo Qy Qr)))))
 (Q5 (Zw (ZS JO (Zz Lv (by rfl) T.max MT (Qo (Y8 (NX:=Zah) (sc:=Q0 BT) (N:=ZaC) (f:=[none,none]) rfl (by decide +kernel) rfl rfl (T6 (QO QN (pv 1) Qy)) (fun _=>(Gb (n:=2) rfl (Wd (Zr (i:=0) (show(ZaC:Qh).Nodup by decide +kernel) rfl Qa) (Wd (Zr (i:=1) (show(ZaC:Qh).Nodup by decide +kernel) rfl Qa) Gy)))) (fun _=>(NT (n:=2) (Bz V5 (Bz V5 Rh)))) (fun _=>YE) (fun _=>(Zz Lg (by rfl) T.max MT (Qo (pv 1) Qr)))) Qr)) Qy (ZA _)) (Q4 (QW (i:=6) WZ.nd rfl Qa (Zz (Dd rfl) (by rfl) T.min Be (Qo (pv 6) (Qo Qy Qr))))) Z0)
 (Q5 (QW (i:=7) WZ.nd rfl Qa (Za Vz Qy (QF XaX hr (Qo (pv 0) (Qo (pv 6) Qr)))))
 (Q4 (QU (Yy (Qo (pv 5) (Qo (pv 3) (Qo (pv 4) (Qo (pv 7) (Qo (Za Vz Qy (QF XaX hr (Qo (pv 0) (Qo (pv 6) Qr)))) Qr))))))))))))))),?_⟩
   show EvR K _ [some (.own v (olP [.int a,.int b])),some (.fz (Zi y)),some (.fz (.int 0)),none,none,none,none,none] _
   walk_at"x"
   have t1:=ok.t1;have t8:=ok.t8;have l1:=ok.l1;have l5:=ok.l5;have q30:(0:Int)<10^(30:Int).toNat-1/\(10:Int)^(30:Int).toNat-1<10^30:=by decide +kernel
   have q31:(20:Int)<10^30:=by decide +kernel
   have eT:∀{ρ:Q6},ρ[1]?=some (some (.fz (Zi y)))->Qu K (tOp (rIx K) (QB 1) (tC (.int 0))) ρ (.int (y.T:Int)):=fun e=>WL (ds:=[PyData.int (y.T:Int),.tuple (y.ls.map Y4)]) (Qt e) Q8 rfl;have eL:∀{ρ:Q6},ρ[1]?=some (some (.fz (Zi y)))->Qu K (tOp (rIx K) (QB 1) (tC (.int 1))) ρ (.tuple (y.ls.map Y4)):=fun e=>WL (ds:=[PyData.int (y.T:Int),.tuple (y.ls.map Y4)]) (Qt e) Q8 rfl;refine ZB (fun ρ'=>∃(fs:Nat) (a b:Int),fs<y.T/\ρ'=[some (.own v (olP [.int a,.int b])),some (.fz (Zi y)),some (.fz (.int 0)),some (.fz (.int (fs:Int))),none,none,none,none]) (BB (Y0 rfl (eT rfl) (by omega) (Mj t8)) ?_) ?_
   ·rintro n _ ⟨n0,n1,a,b,rfl⟩
    refine⟨n.toNat,a,b,by omega,?_⟩;rw[XZ n0];rfl
   rintro _ ⟨fs,a,b,hfs,rfl⟩
   refine ZB (fun ρ'=>ρ'=[some (.own v (olP [.int a,.int b])),some (.fz (Zi y)),some (.fz (.int 0)),some (.fz (.int (fs:Int))),none,none,none,none]) (Z1 (b:=false) (Wv (b:=false) (c:=false) (Ze.cast (Z5 (Dv (Qt rfl) (Qt rfl) (eT rfl))) ?_) (fun c=>nomatch c)) (fun c=>nomatch c) (fun _=>ZI rfl)) ?_
   ·rw[XO (show ¬(fs:Int)<0 by omega)]
    rfl
   rintro _ rfl
   refine ZB (fun ρ'=>∃(la:Nat) (a b:Int),fs<=la/\la<y.T/\ρ'=[some (.own v (olP [.int a,.int b])),some (.fz (Zi y)),some (.fz (.int 0)),some (.fz (.int (fs:Int))),some (.fz (.int (la:Int))),none,none,none]) (Ct rfl (Y0 rfl (Z8 (eT rfl) (Qt rfl)) (by omega) (Int.le_trans (show(y.T:Int)-(fs:Int)<=(y.T:Int) by omega) (Mj t8))) ?_) ?_
   ·rintro n _ ⟨n0,n1,a,b,rfl⟩
    refine Zu (Z8 (Qt rfl) Q8) ⟨((fs:Int)+n).toNat,a,b,by omega,by omega,?_⟩;rw[XZ (by omega)];rfl
   rintro _ ⟨la,a,b,hla1,hla2,rfl⟩
   refine ZB (fun ρ'=>∃(li:Nat) (a b:Int),li<y.ls.length/\ρ'=[some (.own v (olP [.int a,.int b])),some (.fz (Zi y)),some (.fz (.int 0)),some (.fz (.int (fs:Int))),some (.fz (.int (la:Int))),some (.fz (.int (li:Int))),none,none]) (BB (Y0 rfl (Qu.cast (Dr (eL rfl)) (show _=PyData.int (y.ls.length:Int) by rw[Xm])) (by omega) (Mj (by omega))) ?_) ?_
   ·rintro n _ ⟨n0,n1,a,b,rfl⟩
    refine⟨n.toNat,a,b,by omega,?_⟩;rw[XZ n0];rfl
   rintro _ ⟨li,a,b,hli,rfl⟩
   refine ZB (fun ρ'=>∃sc a b:Int,0<sc/\sc<10^30/\ρ'=[some (.own v (olP [.int a,.int b])),some (.fz (Zi y)),some (.fz (.int 0)),some (.fz (.int (fs:Int))),some (.fz (.int (la:Int))),some (.fz (.int (li:Int))),some (.fz (.int sc)),none]) (S8 (ds:=[.int 4,.int 9,.int 20,.int (10^(30:Int).toNat-1)]) (EvO.fz (Vi (QY Q8 (QY Q8 (QY Q8 (QY (Z8 (ZE Q8 Q8 (UQ (by decide) (by decide))) Q8) Z7)))) (by show(4:Nat)<=1000;decide))) (Y0 rfl Q8 (by decide) (by decide +kernel)) ?_) ?_
   ·rintro n _ ⟨n0,n1,a,b,rfl⟩
    obtain rfl|rfl|rfl|rfl:n=0\/n=1\/n=2\/n=3:=by omega
    ·exact⟨_,rfl,4,a,b,by decide,by omega,rfl⟩
    ·exact⟨_,rfl,9,a,b,by decide,by omega,rfl⟩
    ·exact⟨_,rfl,20,a,b,by decide,by omega,rfl⟩
    ·exact⟨_,rfl,_,a,b,q30.1,q30.2,rfl⟩
   rintro _ ⟨sc,a,b,s0,s1,rfl⟩
   have ne:∀l∈y.ls,l.bs≠[]:=fun l hl z=>by
    have:=ok.bl l hl
    rw[z]at this;have:(0:Nat)=y.T:=this;omega
   have nel:(y.ls.map fun l=>mxB l.bs)≠[]:=fun z=>by
    have:=X0 List.length z
    rw[Xm]at this;have:y.ls.length=0:=this;omega
   obtain⟨mx1,mx2⟩:=NW nel;refine ZB (fun ρ'=>∃sc:Int,0<sc/\sc<10^30/\ρ'=[some (.own v (olP [.int a,.int b])),some (.fz (Zi y)),some (.fz (.int 0)),some (.fz (.int (fs:Int))),some (.fz (.int (la:Int))),some (.fz (.int (li:Int))),some (.fz (.int sc)),none]) (Z1 (b:=decide (mxB (y.ls.map fun l=>mxB l.bs)<20)) (Ze.cast (Z5 (Wb (Lf (ns:=y.ls.map fun l=>mxB l.bs) (Qu.cast (EvO.fz (Jr (xs:=y.ls) (enc:=Y4) (h:=fun l=>.int (mxB l.bs)) ?ei (by omega) ?el)) (by rw[Y3];rfl)) rfl mx1 mx2) Q8)) rfl) (fun _=>?_) (fun _=>ZI ⟨sc,s0,s1,rfl⟩)) ?_
   case ei=>exact Ng (eL rfl)
   case el =>
    intro l hl c;obtain⟨k1,k2⟩:=NW (ne l hl);refine⟨_,Jl (ds:=[upD l.up,.tuple (l.bs.map PyData.int)]) (YF Z2 (YF Z2 JV)) rfl,?_⟩
    walk_at"e"
    exact Ft (ns:=l.bs) (Qt rfl) rfl k1 k2
   ·refine Zu (Nw (Qt rfl) Q8) ⟨min sc 20,by omega,by omega,rfl⟩
   rintro _ ⟨sc,s0,s1,rfl⟩
   refine ZB (fun ρ'=>∃wa a b:Int,1<=wa/\wa<10^30/\ρ'=[some (.own v (olP [.int a,.int b])),some (.fz (Zi y)),some (.fz (.int 0)),some (.fz (.int (fs:Int))),some (.fz (.int (la:Int))),some (.fz (.int (li:Int))),some (.fz (.int sc)),some (.fz (.int wa))]) (RW (Y0 rfl (Qt rfl) s0 (p60 (Int.le_of_lt s1))) ?_) ?_
   ·rintro n _ ⟨n0,n1,a,b,rfl⟩
    refine Zu (Z8 Q8 Q8) ⟨1+n,a,b,by omega,by omega,rfl⟩
   rintro _ ⟨wa,a,b,w1,w2,rfl⟩
   refine Fm rfl rfl rfl rfl (Y0 rfl (Qt rfl) s0 (p60 (Int.le_of_lt s1))) ?_
   rintro n _ ⟨n0,n1,a,b,rfl⟩
   refine Gf (YC (ds:=[.int (li:Int),.int (fs:Int),.int (la:Int),.int wa,.int (1+n)]) (QY (Qt rfl) (QY (Qt rfl) (QY (Qt rfl) (QY (Qt rfl) (QY (Z8 Q8 Q8) Z7))))) (by show(5:Nat)<=1000;decide)) ⟨_,⟨⟨li,fs,la,wa,1+n⟩,⟨⟨hli,hla1,hla2,w1,D3 w2,by show 1<=1+n;omega,D3 (by show 1+n<_;omega)⟩,w2,by show 1+n<_;omega⟩,rfl⟩,rfl⟩
inductive R_iswhole:List OT->OT->Prop
 |mk {i:Int}:R_iswhole [.fz (.int i)] (.fz (.bool true))
def Ia:Qp ["thing"] ["thing"] (Q0 Kb):=by walk_at"p"
def Ep (T:Bl mg) (D:Df K mg "is_whole" Kb ["thing"]):QD P w K mg base "is_whole" ["thing"] 1 (QQ (K:=K) R_iswhole):=by
 refine D.ev Ia (fun ts r h=>by cases h;rfl) (fun _ _ _ _ s H E ts r hr h=>?_)
 cases h with
 |@mk i =>
   refine⟨_,(Q4 (QU (Bj (Zz MZ (by rfl) T.isi VZ (Qo (pv 0) (Qo (Ug (v:=.ty "int") rfl T.int MW rfl) Qr))) (Bd (Tz (Zz MZ (by rfl) T.isi VZ (Qo (pv 0) (Qo (Ug (v:=.ty "bool") rfl T.bool Ly rfl) Qr)))))))),?_⟩;show Q1 K _ [some _] _
   walk_at"x"
   exact Vg (Ga (b:=true) (Ba (Qt rfl) rfl) (fun _=>Nh (b:=false) (Ba (Qt rfl) rfl))) rfl
inductive R_within:List OT->OT->Prop
 |mk {i lo hi:Int}:R_within [.fz (.int i),.fz (.int lo),.fz (.int hi)] (.fz (.bool (decide (lo<=i)&&decide (i<hi))))
def Od:Qp Zao Zao (Q0 Kt):=by walk_at"p"
def AT (T:Bl mg) (D:Df K mg "is_whole_within" Kt Zao) (XbH:QD P w K mg base "is_whole" ["thing"] 1 (QQ (K:=K) R_iswhole)):QD P w K mg base "is_whole_within" Zao 2 (QQ (K:=K) R_within):=by
 refine D.ev Od (fun ts r h=>by cases h;rfl) (fun _ _ _ _ s H E ts r hr h=>?_)
 cases h with
 |@mk i lo hi =>
   refine⟨_,(Q4 (QU (Bj (QF XbH hr (Qo (pv 0) Qr)) (Bd (RD MG JO (pv 1) (pv 0) (pv 2)))))),?_⟩;show Q1 K _ [some _,some _,some _] _
   walk_at"x"
   exact Vg (Ga (b:=true) (Zf (Qv (Qt rfl) Q3) R_iswhole.mk) (fun _=>Dv (Qt rfl) (Qt rfl) (Qt rfl))) rfl
inductive R_isamount:List OT->OT->Prop
 |mk {i:Int} (h0:1<=i) (h1:i<10^30):R_isamount [.fz (.int i),.fz (.int 1)] (.fz (.bool true))
def IF:Qp ZaJ ZaJ (Q0 HN):=by walk_at"p"
def Is (T:Bl mg) (D:Df K mg "is_amount" HN ZaJ) (XaZ:QD P w K mg base "is_whole_within" Zao 2 (QQ (K:=K) R_within)):QD P w K mg base "is_amount" ZaJ 3 (QQ (K:=K) R_isamount):=by
 refine D.ev IF (fun ts r h=>by cases h;rfl) (fun _ _ _ _ s H E ts r hr h=>?_)
 cases h with
 |@mk i h0 h1 =>
   refine⟨_,(Q4 (QU (QF XaZ hr (Qo (pv 0) (Qo (pv 1) (Qo (Za Bk Qy Qy) Qr)))))),?_⟩;show Q1 K _ [some _,some _] _
   walk_at"x"
   have e:(10:Int)^30=10^(30:Int).toNat:=by decide +kernel
   rw[e]at h1;refine Vg (Qu.cast (Zf (Qv (Qt rfl) (Qv (Qt rfl) (Qv (ZE Q8 Q8 (UQ (by decide) (by decide))) Q3))) R_within.mk) ?_) rfl;rw[XV h0,XV h1];rfl
inductive R_tupof:List OT->OT->Prop
 |mk {g:Gs}:R_tupof [.fz (QK g),.fz (.int 5)] (.fz (.bool true))
def IT:Qp ZaD ZaD (Q0 Kf):=by walk_at"p"
def FE (T:Bl mg) (D:Df K mg "is_tuple_of" Kf ZaD):QD P w K mg base "is_tuple_of" ZaD 1 (QQ (K:=K) R_tupof):=by
 refine D.ev IT (fun ts r h=>by cases h;rfl) (fun _ _ _ _ s H E ts r hr h=>?_)
 cases h with
 |@mk g =>
   refine⟨_,(Q4 (QU (Bj (Zz MZ (by rfl) T.isi VZ (Qo (pv 0) (Qo (Ug (v:=.ty "tuple") rfl T.tuple Hb rfl) Qr))) (Bd (Bp JP (Zz Yw (by rfl) T.len Yx (Qo (pv 0) Qr)) (pv 1) (ZA _)))))),?_⟩;show Q1 K _ [some _,some _] _
   walk_at"x"
   exact Vg (Ga (b:=true) (Ba (Qt rfl) rfl) (fun _=>Yz (Dr (ds:=[.int (g.line:Int),.int (g.first:Int),.int (g.last:Int),.int g.want,.int g.most]) (Qt rfl)) (Qt rfl))) rfl
inductive R_isguest:List OT->OT->Prop
 |mk {y:Yd} {g:Gs} (h:G30 y g):R_isguest [.fz (Zi y),.fz (QK g)] (.fz (.bool true))
def Ir:Qp ZaL ZaL (Q0 HX):=by walk_at"p"
def ED (T:Bl mg) (D:Df K mg "is_guest" HX ZaL) (XbI:QD P w K mg base "is_tuple_of" ZaD 1 (QQ (K:=K) R_tupof)) (XaZ:QD P w K mg base "is_whole_within" Zao 2 (QQ (K:=K) R_within)) (Xa2:QD P w K mg base "line_count" Zay 1 (QQ (K:=K) R_count)) (XaW:QD P w K mg base "turns_of" Zay 1 (QQ (K:=K) R_turns)) (Xbo:QD P w K mg base "is_amount" ZaJ 3 (QQ (K:=K) R_isamount)):QD P w K mg base "is_guest" ZaL 4 (QQ (K:=K) R_isguest):=by
 refine D.ev Ir (fun ts r h=>by cases h;rfl) (fun _ _ _ _ s H E ts r hr h=>?_)
 cases h with
 |@mk y g h =>
   refine⟨_,(Q5 (Zw (Wy (V4 (QF XbI hr (Qo (pv 1) (Qo Qy Qr))))) (Q4 (QU YQ)) Z0)
 (Q5 (Zw (Wy (V4 (QF XaZ hr (Qo (QO QN (pv 1) Qy) (Qo Qy (Qo (QF Xa2 hr (Qo (pv 0) Qr)) Qr)))))) (Q4 (QU YQ)) Z0)
 (Q5 (Zw (Wy (V4 (QF XaZ hr (Qo (QO QN (pv 1) Qy) (Qo Qy (Qo (QF XaW hr (Qo (pv 0) Qr)) Qr)))))) (Q4 (QU YQ)) Z0)
 (Q5 (Zw (Wy (V4 (QF XaZ hr (Qo (QO QN (pv 1) Qy) (Qo (QO QN (pv 1) Qy) (Qo (QF XaW hr (Qo (pv 0) Qr)) Qr)))))) (Q4 (QU YQ)) Z0)
 (Q4 (QU (Bj (QF Xbo hr (Qo (QO QN (pv 1) Qy) (Qo Qy Qr))) (Bd (QF Xbo hr (Qo (QO QN (pv 1) Qy) (Qo Qy Qr))))))))))),?_⟩
   show Q1 K _ [some _,some _] _
   walk_at"x"
   obtain⟨⟨k1,k2,k3,k4,_,k6,_⟩,k5,k7⟩:=h;have it:∀{ρ:Q6} {n:Int} {d:PyData},ρ[1]?=some (some (.fz (QK g)))->atI [.int (g.line:Int),.int (g.first:Int),.int (g.last:Int),.int g.want,.int g.most] n=some d->Qu K (tOp (rIx K) (QB 1) (tC (.int n))) ρ d:=fun e h=>WL (Qt e) Q8 h;refine QI (Z1 (b:=false) (YB (b:=true) (ZV (Zf (Qv (Qt rfl) (Qv Q8 Q3)) R_tupof.mk))) (fun c=>nomatch c) (fun _=>ZI ?_));refine QI (Z1 (b:=false) (YB (b:=true) (ZV (Qu.cast (Zf (Qv (it rfl rfl) (Qv Q8 (Qv (Zf (Qv (Qt rfl) Q3) R_count.mk) Q3))) R_within.mk) ?_))) (fun c=>nomatch c) (fun _=>ZI ?_))
   ·rw[XV (show(0:Int)<=(g.line:Int) by omega),XV (show(g.line:Int)<(y.ls.length:Int) by omega)]
    rfl
   refine QI (Z1 (b:=false) (YB (b:=true) (ZV (Qu.cast (Zf (Qv (it rfl rfl) (Qv Q8 (Qv (Zf (Qv (Qt rfl) Q3) R_turns.mk) Q3))) R_within.mk) ?_))) (fun c=>nomatch c) (fun _=>ZI ?_))
   ·rw[XV (show(0:Int)<=(g.first:Int) by omega),XV (show(g.first:Int)<(y.T:Int) by omega)]
    rfl
   refine QI (Z1 (b:=false) (YB (b:=true) (ZV (Qu.cast (Zf (Qv (it rfl rfl) (Qv (it rfl rfl) (Qv (Zf (Qv (Qt rfl) Q3) R_turns.mk) Q3))) R_within.mk) ?_))) (fun c=>nomatch c) (fun _=>ZI ?_))
   ·rw[XV (show(g.first:Int)<=(g.last:Int) by omega),XV (show(g.last:Int)<(y.T:Int) by omega)]
    rfl
   exact Vg (Ga (b:=true) (Zf (Qv (it rfl rfl) (Qv Q8 Q3)) (R_isamount.mk k4 k5)) (fun _=>Zf (Qv (it rfl rfl) (Qv Q8 Q3)) (R_isamount.mk k6 k7))) rfl
def Th:NoH "now" := fun _ _ _ _ _ _=>rfl
def DJ:NoH "leave" := fun _ _ _ _ _ _=>rfl
def Rq:NoH "come" := fun _ _ _ _ _ _=>rfl
def Gj:NoH "got" := fun _ _ _ _ _ _=>rfl
def Gu:NoH "rest" := fun _ _ _ _ _ _=>rfl
def L6:NoH "open_ones" := fun _ _ _ _ _ _=>rfl
def CY:NoH "gifts" := fun _ _ _ _ _ _=>rfl
def RG:NoH "still_there" := fun _ _ _ _ _ _=>rfl
def D6:NoH "refuse_past" := fun _ _ _ _ _ _=>rfl
def Fh:NoH "turn" := fun _ _ _ _ _ _=>rfl
def Jx:NoH "refuse_number" := fun _ _ _ _ _ _=>rfl
def IY:Qp ZaH ZaH (Q0 U3):=by walk_at"p"
def Fa {f:Addr} {fd:FuncData} (T:Bl mg) (UH:HandC K CH) (F:Fun K "__init__" "Hand.__init__" U3 f fd):FnOk P w K mg base CX0 1 f fd ZaH (GQ CH):=by
 refine F.ok IY (fun vs H Q E ⟨x,dx,y,e,_⟩=>by rw[e];rfl) fun cdv A outer s H vs Q E hr ⟨x,dx,y,e,hx,q⟩=>?_;subst e;refine⟨_,(Q5 (YZ (pv 0) (pv 1) rfl)
 (Q5 (YZ (pv 0) Qy rfl)
 (Q5 (YZ (pv 0) (Z4 Qr) rfl)
 (Q5 (YZ (pv 0) (Z4 Qr) rfl)
 (Q5 (YZ (pv 0) RL rfl)
 (Q4 (YZ (pv 0) (Z4 Qr) rfl))))))),?_⟩
 refine⟨y,rfl,_,rfl,x,CH,dx,[],rfl,hx,UH.cl,UH.yd,by decide,?_⟩;refine⟨_,rfl,x,CH,dx,[("yard",y)],rfl,by rw[QC];rfl,UH.cl,UH.pr,(by show(1:Nat)<1000;decide),?_⟩;refine⟨XN _,fun k hk=>⟨_,rfl,x,CH,dx,[("yard",y),("present",.int 0)],rfl,?_,UH.cl,UH.kn,(by show(2:Nat)<1000;decide),?_⟩⟩
 ·have xk:x≠k:=Zp QC hk
  rw[Qs xk,QC];rfl
 have xk:x≠k:=Zp QC hk;rw[Qs (Ne.symm xk),Qs (Ne.symm xk)]at hk;refine⟨XN _,fun g hg=>⟨_,rfl,x,CH,dx,[("yard",y),("present",.int 0),("known",.ref k)],rfl,?_,UH.cl,UH.gv,(by show(3:Nat)<1000;decide),?_⟩⟩
 ·have xg:x≠g:=Zp QC hg
  rw[Qs xg,QC];rfl
 have xg:x≠g:=Zp QC hg;rw[Qs (Ne.symm xg)]at hg;have kg:k≠g:=Zp QC hg;rw[Qs (Ne.symm kg),Qs (Ne.symm xg),Qs (Ne.symm xg)]at hg;refine fun d hd=>⟨_,rfl,x,CH,dx,[("yard",y),("present",.int 0),("known",.ref k),("given",.ref g)],rfl,?_,UH.cl,UH.go,(by show(4:Nat)<1000;decide),?_⟩
 ·have xd:x≠d:=Zp QC hd
  rw[Qs xd,QC];rfl
 have xd:x≠d:=Zp QC hd;rw[Qs (Ne.symm xd)]at hd;have gd:g≠d:=Zp QC hd;rw[Qs (Ne.symm gd),Qs (Ne.symm xd)]at hd;have kd:k≠d:=Zp QC hd;rw[Qs (Ne.symm kd),Qs (Ne.symm xd),Qs (Ne.symm xd)]at hd;refine⟨XN _,fun m hm=>⟨_,rfl,x,CH,dx,[("yard",y),("present",.int 0),("known",.ref k),("given",.ref g),("gone",.ref d)],rfl,?_,UH.cl,UH.md,(by show(5:Nat)<1000;decide),?_⟩⟩
 ·have xm:x≠m:=Zp QC hm
  rw[Qs xm,QC];rfl
 have xm:x≠m:=Zp QC hm;rw[Qs (Ne.symm xm)]at hm;have dm:d≠m:=Zp QC hm;rw[Qs (Ne.symm dm),Qs (Ne.symm xm)]at hm;have gm:g≠m:=Zp QC hm;rw[Qs (Ne.symm gm),Qs (Ne.symm xm)]at hm;have km:k≠m:=Zp QC hm;rw[Qs (Ne.symm km),Qs (Ne.symm xm),Qs (Ne.symm xm)]at hm;refine q k g d m _ hk hg hd hm ?_ ?_ ?_ ?_ ?_ ?_ (fun b hb=>?_)
 ·simp only[XF,Xe,XM,or_false,not_or,not_false_eq_true,Jb,and_true]
  exact⟨⟨xk,xg,xd,xm⟩,⟨kg,kd,km⟩,⟨gd,gm⟩,dm⟩
 ·rw[QC];rfl
 ·rw[Qs (Ne.symm xk),Qs km,Qs (Ne.symm xk),Qs kd,Qs (Ne.symm xk),Qs kg,Qs (Ne.symm xk),QC]
 ·rw[Qs (Ne.symm xg),Qs gm,Qs (Ne.symm xg),Qs gd,Qs (Ne.symm xg),QC]
 ·rw[Qs (Ne.symm xd),Qs dm,Qs (Ne.symm xd),QC]
 ·rw[Qs (Ne.symm xm),QC]
 ·simp only[Xe,XM,or_false,not_or]at hb
  obtain⟨b1,b2,b3,b4,b5⟩:=hb;rw[Qs b1,Qs b5,Qs b1,Qs b4,Qs b1,Qs b3,Qs b1,Qs b2,Qs b1,Qs b1]
inductive R_hpast (CH:Addr):List OT->(OT->Prop)->Prop
 |mk {N:HandS} {t:Int} (h:N.now<=t):R_hpast CH [.zow (QJ CH N),.fz (.int t)] (fun r=>r=.fz .none)
def IZ:Qp ZaI ZaI (Q0 Ku):=by walk_at"p"
def CL (T:Bl mg) (UH:HandC K CH) (D:Mf K CH "refuse_past" "Hand.refuse_past" Ku ZaI):Zv P w K mg base CH "refuse_past" ZaI 1 (Zg K (R_hpast CH)):=by
 refine D.evD IZ (fun ts Φ h=>by cases h;rfl) (fun _ _ _ _ s H E ts Φ hr h=>?_)
 cases h with
 |@mk N t h =>
   refine⟨_,(Q4 (Zw (ZS JO (pv 1) (QZ (pv 0) rfl) (ZA _)) (Q4 DV) Z0)),?_⟩;show Q1 K _ [some _,some _] _
   walk_at"x"
   exact Z1 (b:=false) (Ze.cast (Z5 (Wb (Qt rfl) (B8 UH rfl))) (XO (by omega))) (fun c=>nomatch c) (fun _=>ZI rfl)
def Oh:Qp Zab Zab (Q0 U5):=by walk_at"p"
def A3 {f:Addr} {fd:FuncData} (T:Bl mg) (F:Fun K "__init__" "NoNumber.__init__" U5 f fd) (cl:Jg K YR CQ f) (xs:Ky K CQ) (tk:W.takerIn K CQ "number"=some none) (my:mg "YardError"=some (.ref YR)):FnOk P w K mg base CX0 1 f fd Zab (Uj CQ "number"):=by
 refine F.ok Oh (fun vs H Q E ⟨e,x,h,_⟩=>by rw[h];rfl) (fun cdv A outer s H vs Q E hr h=>⟨_,Q5 (Zo (Sj (i:=0) cl rfl my rfl Qa)) (Q4 (NZ xs tk (pv 0) (pv 1) rfl)),FV h⟩)
inductive R_withw:List OT->OT->Prop
 |mk {g:Gs} {z:Int}:R_withw [.fz (QK g),.fz (.int z)] (.fz (QK { g with want:=z }))
def IH:Qp ZaM ZaM (Q0 HL):=by walk_at"p"
def FC (T:Bl mg) (D:Df K mg "with_want" HL ZaM):QD P w K mg base "with_want" ZaM 1 (QQ (K:=K) R_withw):=by
 refine D.ev IH (fun ts r h=>by cases h;rfl) (fun _ _ _ _ s H E ts r hr h=>?_)
 cases h with
 |@mk g z =>
   refine⟨_,(Q4 (QU (Yy (Qo (QO QN (pv 0) Qy) (Qo (QO QN (pv 0) Qy) (Qo (QO QN (pv 0) Qy) (Qo (pv 1) (Qo (QO QN (pv 0) Qy) Qr)))))))),?_⟩;show Q1 K _ [some _,some _] _
   walk_at"x"
   have it:∀{ρ:Q6} {n:Int} {d:PyData},ρ[0]?=some (some (.fz (QK g)))->atI [.int (g.line:Int),.int (g.first:Int),.int (g.last:Int),.int g.want,.int g.most] n=some d->Qu K (tOp (rIx K) (QB 0) (tC (.int n))) ρ d:=fun e h=>WL (Qt e) Q8 h;exact Vg (YC (ds:=[.int (g.line:Int),.int (g.first:Int),.int (g.last:Int),.int z,.int g.most]) (QY (it rfl rfl) (QY (it rfl rfl) (QY (it rfl rfl) (QY (Qt rfl) (QY (it rfl rfl) Z7))))) (by show(5:Nat)<=1000;decide)) rfl
inductive R_stay:List OT->OT->Prop
 |mk {g:Gs} {n:Nat}:R_stay [.fz (QK g),.fz (.int (n:Int))] (.fz (QK { g with first:=max g.first n }))
def IQ:Qp Zan Zan (Q0 Kr):=by walk_at"p"
def LN (T:Bl mg) (D:Df K mg "staying_from" Kr Zan):QD P w K mg base "staying_from" Zan 1 (QQ (K:=K) R_stay):=by
 refine D.ev IQ (fun ts r h=>by cases h;rfl) (fun _ _ _ _ s H E ts r hr h=>?_)
 cases h with
 |@mk g n =>
   refine⟨_,(Q4 (QU (Yy (Qo (QO QN (pv 0) Qy) (Qo (Zz (T3 rfl) (by rfl) T.max MT (Qo (QO QN (pv 0) Qy) (Qo (pv 1) Qr))) (Qo (QO QN (pv 0) Qy) (Qo (QO QN (pv 0) Qy) (Qo (QO QN (pv 0) Qy) Qr)))))))),?_⟩;show Q1 K _ [some _,some _] _
   walk_at"x"
   have it:∀{ρ:Q6} {n:Int} {d:PyData},ρ[0]?=some (some (.fz (QK g)))->atI [.int (g.line:Int),.int (g.first:Int),.int (g.last:Int),.int g.want,.int g.most] n=some d->Qu K (tOp (rIx K) (QB 0) (tC (.int n))) ρ d:=fun e h=>WL (Qt e) Q8 h;refine Vg (Qu.cast (YC (ds:=[.int (g.line:Int),.int (max (g.first:Int) (n:Int)),.int (g.last:Int),.int g.want,.int g.most]) (QY (it rfl rfl) (QY (NI (it rfl rfl) (Qt rfl)) (QY (it rfl rfl) (QY (it rfl rfl) (QY (it rfl rfl) Z7))))) (by show(5:Nat)<=1000;decide)) ?_) rfl;have e:max (g.first:Int) (n:Int)=((max g.first n:Nat):Int):=by omega
   rw[e];rfl
def UR (N:HandS)(k:Nat)(z:Int):Prop := ∃(g:Gs) (x:Int),N.known[k]?=some (QK g)/\N.given[k]?=some x/\z=if (Yh N.gone (.inl (k:Int))).isSome then 0 else g.want-x
inductive R_hnum (CH:Addr):List OT->(OT->Prop)->Prop
 |mk {N:HandS} {k:Nat} (h:k<N.known.length):R_hnum CH [.zow (QJ CH N),.fz (.int (k:Int))] (fun r=>r=.fz .none)
inductive X_hnum (CH:Addr):List OT->(V->Prop)->Prop
 |mk {N:HandS} {z:Int} (h:z<0\/(N.known.length:Int)<=z):X_hnum CH [.zow (QJ CH N),.fz (.int z)] (fun w=>w=.int z)
def Oi:Qp Zab Zab (Q0 Kw):=by walk_at"p"
def L9 (T:Bl mg) (UH:HandC K CH) (XQ:XC K mg "NoNumber" YR CQ fQ) (D:Mf K CH "refuse_number" "Hand.refuse_number" Kw Zab) (XaZ:QD P w K mg base "is_whole_within" Zao 2 (QQ (K:=K) R_within)) (Xa8:JS P w K mg base fQ Zab 1 (Uj CQ "number")):Vf P w K mg base CH "refuse_number" Zab 3 (Yg K CQ "number" (R_hnum CH) (X_hnum CH)):=by
 refine D.evZ Oi (fun ts Φ h=>by cases h;rfl) (fun ts Φ h=>by cases h;rfl) (by decide) (fun f cdv A outer s H RR ts Φ hr hst h=>?_) (fun f cdv A outer s F H RR ts Φ hr hst hq h=>?_)
 ·cases h with
  |@mk N k h =>
    refine⟨_,(Q4 (Zw (Wy (V4 (QF XaZ hr (Qo (pv 1) (Qo Qy (Qo (Zz Yw (by rfl) T.len Yx (Qo (QZ (pv 0) rfl) Qr)) Qr)))))) (Q4 (J6 XQ Xa8 hst hr (Qo (pv 1) Qr))) Z0)),?_⟩;show Q1 K _ [some _,some _] _
    walk_at"x"
    refine Z1 (b:=false) (YB (b:=true) (ZV (Qu.cast (Zf (Qv (Qt rfl) (Qv Q8 (Qv (Uc (Uz UH rfl)) Q3))) R_within.mk) ?_))) (fun c=>nomatch c) (fun _=>ZI rfl);rw[XV (show(0:Int)<=(k:Int) by omega),XV (show(k:Int)<(N.known.length:Int) by omega)]
    rfl
 ·cases h with
  |@mk N z h =>
    refine⟨_,(Q4 (Zw (Wy (V4 (QF XaZ hr (Qo (pv 1) (Qo Qy (Qo (Zz Yw (by rfl) T.len Yx (Qo (QZ (pv 0) rfl) Qr)) Qr)))))) (Q4 (J6 XQ Xa8 hst hr (Qo (pv 1) Qr))) Z0)),?_⟩;show EvZ K F H _ [some (.zow (QJ CH N)),some (.fz (.int z))]
    walk_at"x"
    refine MK (b:=true) (YB (b:=false) (ZV (Qu.cast (Zf (Qv (Qt rfl) (Qv Q8 (Qv (Uc (Uz UH rfl)) Q3))) R_within.mk) ?_))) (fun _=>SI (Φx:=fun w=>w=.int z) (Qt rfl) rfl rfl hq) (fun c=>nomatch c)
    rcases h with h|h
    ·rw[XO (show ¬(0:Int)<=z by omega)]
     rfl
    ·rw[XO (show ¬z<(N.known.length:Int) by omega),Bool.and_false]
inductive R_hgot (CH:Addr):List OT->(OT->Prop)->Prop
 |mk {N:HandS} {k:Nat} {x:Int} (h:k<N.known.length) (hx:N.given[k]?=some x):R_hgot CH [.zow (QJ CH N),.fz (.int (k:Int))] (fun r=>r=.fz (.int x))
def DT {N:HandS}{k:Nat}{x:Int}(hx:N.given[k]?=some x):atI (N.given.map PyData.int) (k:Int)=some (.int x):=Yn (by rw[Xt,hx];rfl)
def Im:Qp Zab Zab (Q0 HC):=by walk_at"p"
def Fl (T:Bl mg) (UH:HandC K CH) (D:Mf K CH "got" "Hand.got" HC Zab) (XaY:Vf P w K mg base CH "refuse_number" Zab 3 (Yg K CQ "number" (R_hnum CH) (X_hnum CH))):Vf P w K mg base CH "got" Zab 4 (Yg K CQ "number" (R_hgot CH) (X_hnum CH)):=by
 refine D.evZ Im (fun ts Φ h=>by cases h;rfl) (fun ts Φ h=>by cases h;rfl) (by decide) (fun f cdv A outer s H RR ts Φ hr hst h=>?_) (fun f cdv A outer s F H RR ts Φ hr hst hq h=>?_)
 ·cases h with
  |@mk N k x h hx =>
    refine⟨_,(Q5 (Zo (Vs XaY UH hr (Wu hst) (pv 0) (Qo (pv 1) Qr)))
 (PSs.nox (Q4 (QU (QO QN (QZ (pv 0) rfl) (pv 1)))))),?_⟩
    show Q1 K _ [some _,some _] _
    walk_at"x"
    refine QI (WX (G6 Jx rfl (Qv (Qt rfl) Q3) (R_hnum.mk h) hst) ?_);exact Vg (Wa (HB UH rfl) (Qt rfl) (DT hx)) rfl
 ·cases h with
  |@mk N z h =>
    refine⟨_,(Q5 (Zo (Vs XaY UH hr (Wu hst) (pv 0) (Qo (pv 1) Qr)))
 (PSs.nox (Q4 (QU (QO QN (QZ (pv 0) rfl) (pv 1)))))),?_⟩
    show EvZ K F H _ [some (.zow (QJ CH N)),some (.fz (.int z))]
    walk_at"x"
    exact Gc (Ho Jx rfl (Qv (Qt rfl) Q3) (X_hnum.mk h) hst hq)
inductive R_hrest (CH:Addr):List OT->(OT->Prop)->Prop
 |mk {N:HandS} {k:Nat} {z:Int} (h:UR N k z):R_hrest CH [.zow (QJ CH N),.fz (.int (k:Int))] (fun r=>r=.fz (.int z))
def ID:Qp Zab Zab (Q0 HV):=by walk_at"p"
def CV (T:Bl mg) (UH:HandC K CH) (D:Mf K CH "rest" "Hand.rest" HV Zab) (XaY:Vf P w K mg base CH "refuse_number" Zab 3 (Yg K CQ "number" (R_hnum CH) (X_hnum CH))) (Xa4:QD P w K mg base "want_of" Zat 1 (QQ (K:=K) R_want)):Vf P w K mg base CH "rest" Zab 4 (Yg K CQ "number" (R_hrest CH) (X_hnum CH)):=by
 refine D.evZ ID (fun ts Φ h=>by cases h;rfl) (fun ts Φ h=>by cases h;rfl) (by decide) (fun f cdv A outer s H RR ts Φ hr hst h=>?_) (fun f cdv A outer s F H RR ts Φ hr hst hq h=>?_)
 ·cases h with
  |@mk N k z h =>
    refine⟨_,(Q5 (Zo (Vs XaY UH hr (Wu hst) (pv 0) (Qo (pv 1) Qr)))
 (PSs.nox (Q5 (Zw (YW (Ju (Vw hr) (pv 1) (QZ (pv 0) rfl))) (Q4 (QU Qy)) Z0)
 (Q4 (QU (Za YD (QF Xa4 hr (Qo (QO QN (QZ (pv 0) rfl) (pv 1)) Qr)) (QO QN (QZ (pv 0) rfl) (pv 1)))))))),?_⟩
    show Q1 K _ [some _,some _] _
    walk_at"x"
    obtain⟨g,x,hg,hx,rfl⟩:=h;have hl:=(Xg.mp hg).1;refine QI (WX (G6 Jx rfl (Qv (Qt rfl) Q3) (R_hnum.mk hl) hst) ?_);refine QI (Z1 (b:=(Yh N.gone (.inl (k:Int))).isSome) (Z5 (Hl (k:=.inl (k:Int)) UH (Qt rfl) rfl)) (fun c=>?_) (fun c=>ZI ?_))
    ·rw[c]
     exact Vg Q8 rfl
    ·rw[c]
     exact Vg (Z8 (Zf (Qv (Wa (Uz UH rfl) (Qt rfl) (Yn hg)) Q3) R_want.mk) (Wa (HB UH rfl) (Qt rfl) (DT hx))) rfl
 ·cases h with
  |@mk N z h =>
    refine⟨_,(Q5 (Zo (Vs XaY UH hr (Wu hst) (pv 0) (Qo (pv 1) Qr)))
 (PSs.nox (Q5 (Zw (YW (Ju (Vw hr) (pv 1) (QZ (pv 0) rfl))) (Q4 (QU Qy)) Z0)
 (Q4 (QU (Za YD (QF Xa4 hr (Qo (QO QN (QZ (pv 0) rfl) (pv 1)) Qr)) (QO QN (QZ (pv 0) rfl) (pv 1)))))))),?_⟩
    show EvZ K F H _ [some (.zow (QJ CH N)),some (.fz (.int z))]
    walk_at"x"
    exact Gc (Ho Jx rfl (Qv (Qt rfl) Q3) (X_hnum.mk h) hst hq)
inductive R_hopen (CH:Addr):List OT->(OT->Prop)->Prop
 |mk {N:HandS} (rs:Qn) (h:∀k,k<N.known.length->UR N k (rs k)) (l:N.known.length<=1000):R_hopen CH [.zow (QJ CH N)] (fun r=>r=.ol (ZW ((List.range N.known.length).filter fun k => !decide (rs k=0))))
def Oc:Qp Zal Zal (Q0 BZ):=by walk_at"p"
def FI (T:Bl mg) (UH:HandC K CH) (D:Mf K CH "open_ones" "Hand.open_ones" BZ Zal) (Xa0:Vf P w K mg base CH "rest" Zab 4 (Yg K CQ "number" (R_hrest CH) (X_hnum CH))):Zv P w K mg base CH "open_ones" Zal 5 (Zg K (R_hopen CH)):=by
 refine D.evD Oc (fun ts Φ h=>by cases h;rfl) (fun _ _ _ _ s H E ts Φ hr h=>?_)
 cases h with
 |@mk N rs h l =>
   refine⟨_,(Q4 (QU (Y8 (NX:=Zal) (sc:=Q0 BZ) (N:=["number","self"]) (f:=[none,some 0]) rfl (by decide +kernel) rfl rfl (V6 rfl T.range (Qo (Zz Yw (by rfl) T.len Yx (Qo (QZ (pv 0) rfl) Qr)) Qr)) (fun _=>(Zr (i:=0) (show(["number","self"]:Qh).Nodup by decide +kernel) rfl Qa)) (fun _=>V5) (fun _=>(Bq (ZS GW (Vs Xa0 UH hr (Jm (C:=CQ)) (pv 1) (Qo (pv 0) Qr)) Qy (ZA _)))) (fun _=>(pv 0))))),?_⟩;show Q1 K _ [some _] _
   walk_at"x"
   refine WM (Bg (xs:=List.range N.known.length) (enc:=fun(k:Nat)=>PyData.int (k:Int)) (h:=fun(k:Nat)=>PyData.int (k:Int)) (p:=fun k => !decide (rs k=0)) ?ei (by rw[U6];exact l) ?el) rfl
   case ei =>
    refine EvI.cast (VD (Qv (Uc (Uz UH rfl)) Q3) (by rw[z62];omega) (by rw[z62];omega)) ?_;rw[XS];unfold ZK;exact U9 fun i _=>by rw[YI]
   case el =>
    intro k hk c;have hk:=XU.mp hk;refine⟨_,Z2,?_⟩
    walk_at"e"
    exact⟨Z5 (UY (WT Gu rfl (Qv (Qt rfl) Q3) (R_hrest.mk (h k hk)) J0) Q8),fun _=>Qt rfl⟩
def stl (gs:List Gs)(n:Nat)(rs:Qn)(k:Nat):Gs:={ gs.getD k default with first:=max (gs.getD k default).first n,want:=rs k }
inductive R_hstill (CH:Addr):List OT->(OT->Prop)->Prop
 |mk {N:HandS} {gs:List Gs} {n:Nat} (rs:Qn) (hk:N.known=gs.map QK) (hn:N.now=(n:Int)) (h:∀k,k<gs.length->UR N k (rs k)) (l:gs.length<=900):R_hstill CH [.zow (QJ CH N)] (fun r=>r=.ol ((List.range gs.length).map fun k=>QK (stl gs n rs k)))
def BX:Qp ["self","guests","number","guest"] Zal (Q0 Kv):=by walk_at"p"
def AK (T:Bl mg) (UH:HandC K CH) (D:Mf K CH "still_there" "Hand.still_there" Kv Zal) (XbJ:QD P w K mg base "with_want" ZaM 1 (QQ (K:=K) R_withw)) (XbK:QD P w K mg base "staying_from" Zan 1 (QQ (K:=K) R_stay)) (Xa0:Vf P w K mg base CH "rest" Zab 4 (Yg K CQ "number" (R_hrest CH) (X_hnum CH))):Zv P w K mg base CH "still_there" Zal 5 (Zg K (R_hstill CH)):=by
 refine D.evD BX (fun ts Φ h=>by cases h;rfl) (fun _ _ _ _ s H E ts Φ hr h=>?_)
 cases h with
 |@mk N gs n rs hk hn h l =>
   refine⟨_,(Q5 (QW (i:=1) BX.nd rfl Qa (Z4 Qr))
 (Q5 (Vr PassesOwn.never rfl (BQ rfl T.enumerate (Qo (QZ (pv 0) rfl) Qr)) (Gb (n:=2) rfl (Wd (Zr (i:=2) BX.nd rfl Qa) (Wd (Zr (i:=3) BX.nd rfl Qa) Gy))) (Q4 (Zo (VL PySem.F.plainAttrs_list PySem.F.slot_list_append PySem.F.type_list_append VS (pv 1) (Qo (QF XbJ hr (Qo (QF XbK hr (Qo (pv 3) (Qo (QZ (pv 0) rfl) Qr))) (Qo (Vs Xa0 UH hr (Jm (C:=CQ)) (pv 0) (Qo (pv 2) Qr)) Qr))) Qr)))))
 (Q4 (QU (pv 1))))),?_⟩
   show Q1 K _ [some _,none,none,none] _
   walk_at"x"
   refine QI (VY (Vi (ds:=[]) Z7 (by decide)) ?_)
   walk_at"d"
   refine QI (D7 (fun i=>[some (.zow (QJ CH N)),some (.ol ((List.range i).map fun k=>QK (stl gs n rs k))),none,none]) (Gh (Qv (Qu.cast (Uz UH rfl) (show _=PyData.list (gs.map QK) by rw[hk])) Q3)) ⟨rfl,rfl,trivial⟩ ?st ?fin)
   case st =>
    intro i d hd;obtain⟨d1,e1,rfl⟩:=BE hd
    have hi:i<gs.length:=by
     have:=(Xg.mp e1).1
     simpa using this
    obtain rfl:d1=QK (gs.getD i default):=by simpa [hi] using e1.symm
    refine⟨_,Jl (ds:=[.int (i:Int),QK (gs.getD i default)]) (YF Z2 (YF Z2 JV)) rfl,?_⟩
    walk_at"d"
    refine Ul rfl (Zf (Qv (Zf (Qv (Qt rfl) (Qv (Qu.cast (B8 UH rfl) (by rw[hn])) Q3)) R_stay.mk) (Qv (WT Gu rfl (Qv (Qt rfl) Q3) (R_hrest.mk (h i hi)) J0) Q3)) R_withw.mk) (by rw[Xm,U6];omega) ⟨rfl,?_,trivial⟩;rw[YK,Xy];rfl
   case fin =>
    intro ρ' hf;refine Dk hf ?_;rw[BF,Xm];exact Gn rfl rfl
def hT (y:Yd)(n:Nat)(gs:List Gs)(gv:Ql)(go:Qk)(ms:List QX):HandS:=⟨Zi y,(n:Int),gs.map QK,gv,go.map fun(k:Nat)=>(.inl (k:Int),.bool true),ms⟩
def rsT (gs:List Gs)(gv:Ql)(go:Qk)(k:Nat):Int:=if k∈go then 0 else (gs.getD k default).want-gv.getD k 0
theorem Bu (k:Nat):∀go:Qk,(Yh (go.map fun(k:Nat)=>((.inl (k:Int):Key),PyData.bool true)) (.inl (k:Int))).isSome=decide (k∈go)
 |[]=>rfl
 |x::go=>by
   have ih:=Bu k go;unfold Yh at ih ⊢;rw[Xu,Xw];by_cases z:x=k
   ·subst z
    simp
   ·have z1:¬((.inl (x:Int):Key)=.inl (k:Int)):=fun q=>z (by injection q with q;omega)
    simp only[z1,decide_false];rw[ih];simp[Ne.symm z]
def Gq {y:Yd}{n:Nat}{gs:List Gs}{gv:Ql}{go:Qk}{ms:List QX}(gl:gv.length=gs.length){k:Nat}(h:k<gs.length):UR (hT y n gs gv go ms) k (rsT gs gv go k):=by
 refine⟨gs.getD k default,gv.getD k 0,by simp[hT,h],by simp[hT,h,gl],?_⟩;show _=if (Yh (go.map fun(k:Nat)=>((.inl (k:Int):Key),PyData.bool true)) (.inl (k:Int))).isSome=true then _ else _;rw[Bu];unfold rsT;simp only[decide_eq_true_eq]
def mT (n:Nat)(gs:List Gs)(gv:Ql)(go:Qk):List Gs:=(List.range gs.length).map (stl gs n (rsT gs gv go))
def Ua (n:Nat)(gs:List Gs)(gv:Ql)(go:Qk):(mT n gs gv go).length=gs.length:=by simp[mT]
def NC (n:Nat)(gs:List Gs)(gv:Ql)(go:Qk):((List.range gs.length).map fun k=>QK (stl gs n (rsT gs gv go) k))=(mT n gs gv go).map QK:=by
 unfold mT;rw[Y3];rfl
def PK {n:Nat}{gs:List Gs}{gv:Ql}{go:Qk}{k:Nat}(h:k<gs.length):(mT n gs gv go).getD k default=stl gs n (rsT gs gv go) k:=by simp[mT,h]
def KZ {y:Yd}{n:Nat}{gs:List Gs}{gv:Ql}{go:Qk}(hg:∀x∈gs,G30 y x)(h0:∀k,k<gs.length->0<=rsT gs gv go k):∀x∈mT n gs gv go,GOk y x:=fun x hx=>by
 obtain⟨k,hk,rfl⟩:=XJ.mp hx;have hk:=XU.mp hk;have g:=(hg (gs.getD k default) (by simp[hk])).ok;have m1:=g.m1
 exact⟨g.ln,h0 k hk,by show 0<=(gs.getD k default).most;omega⟩
inductive R_hcome:HandS->List OT->(OT->HandS->Prop)->Prop
 |mk {y:Yd} {n:Nat} {gs:List Gs} {gv:Ql} {go:Qk} {ms:List QX} {g:Gs} (ok:y.Ok) (hg:∀x∈gs,G30 y x) (gk:G30 y g) (gl:gv.length=gs.length) (gn:n<=g.first) (h0:∀k,k<gs.length->0<=rsT gs gv go k) (l:gs.length<=7) (h:∀S,Vy y (QG (mT n gs gv go++[g])) S<=0):R_hcome (hT y n gs gv go ms) [.fz (QK g)] (fun r N'=>r=.fz (.int (gs.length:Int))/\N'=hT y n (gs++[g]) (gv++[0]) go ms)
inductive X_hcome (CH:Addr):List OT->(Qd->Prop)->Prop
 |mk {y:Yd} {n:Nat} {gs:List Gs} {gv:Ql} {go:Qk} {ms:List QX} {g:Gs} (ok:y.Ok) (hg:∀x∈gs,G30 y x) (gk:G30 y g) (gl:gv.length=gs.length) (gn:n<=g.first) (h0:∀k,k<gs.length->0<=rsT gs gv go k) (l:gs.length<=7) {S:Qm} (h:0<Vy y (QG (mT n gs gv go++[g])) S):X_hcome CH [.zow (QJ CH (hT y n gs gv go ms)),.fz (QK g)] (fun d=>∃S,0<Vy y (QG (mT n gs gv go++[g])) S/\d=ZW (Yv (mT n gs gv go++[g]) S))
def Iw:Qp ZaN ZaN (Q0 HS):=by walk_at"p"
def C4 (T:Bl mg) (UH:HandC K CH) (XR:XC K mg "NoRoom" YR CR fR) (D:Mf K CH "come" "Hand.come" HS ZaN) (Xbp:QD P w K mg base "is_guest" ZaL 4 (QQ (K:=K) R_isguest)) (Xbb:Zv P w K mg base CH "refuse_past" ZaI 1 (Zg K (R_hpast CH))) (Xbq:UO P w K mg base "refuse_lack" Zac 7 (spX K CR "some" R_refuse X_refuse)) (Xbc:Zv P w K mg base CH "still_there" Zal 5 (Zg K (R_hstill CH))) :
 Vf P w K mg base CH "come" ZaN 8 (GP K CH CR "some" R_hcome (X_hcome CH)):=by
 have gus:∀{ρ:Q6} {y:Yd} {n:Nat} {gs:List Gs} {gv:Ql} {go:Qk} {ms:List QX} {g:Gs} {E:XK},gv.length=gs.length->ρ[0]?=some (some (.zow (QJ CH (hT y n gs gv go ms))))->ρ[1]?=some (some (.fz (QK g)))->gs.length<=7->Qu K (tOp Mi (ZY CH "still_there" (Zg K (R_hstill CH)) [] E (QB 0) QP) (WG (QE (QB 1) QP))) ρ (.list ((mT n gs gv go++[g]).map QK)):=fun{ρ y n gs gv go ms g E} gl e0 e1 l =>
  Qu.cast (EvO.fz (Nm (as:=(mT n gs gv go).map QK) (bs:=[QK g]) (Qu.cast (EvO.fz (Zl.o (WV RG e0 Q3 (R_hstill.mk (n:=n) (rsT gs gv go) rfl rfl (fun k hk=>Gq gl hk) (by omega))))) (by rw[NC])) (EvO.fz (Vi (QY (Qt e1) Z7) YM)) (by rw[Xm,Ua];show gs.length+1<=1000;omega))) (by rw[Xy];rfl)
 have it1:∀{ρ:Q6} {g:Gs},ρ[1]?=some (some (.fz (QK g)))->Qu K (tOp (rIx K) (QB 1) (tC (.int 1))) ρ (.int (g.first:Int)):=fun{ρ g} e=>WL (ds:=[.int (g.line:Int),.int (g.first:Int),.int (g.last:Int),.int g.want,.int g.most]) (Qt e) Q8 rfl
 have gks:∀{y:Yd} {n:Nat} {gs:List Gs} {gv:Ql} {go:Qk} {g:Gs},(∀x∈gs,G30 y x)->G30 y g->(∀k,k<gs.length->0<=rsT gs gv go k)->∀x∈mT n gs gv go++[g],GOk y x:=fun hg gk h0 x hx=>by
  rcases XG.mp hx with hx|hx
  ·exact KZ hg h0 x hx
  ·rw[Xh.mp hx];exact Le gk.ok
 refine D.evHX Iw (fun M ts Ψ h=>by cases h;rfl) (fun ts Φ h=>by cases h;rfl) (by decide) (fun f cdv A outer s H RR v M ts Ψ hr hst h=>?_) (fun f cdv A outer s F H RR ts Φ hr hst hq h=>?_)
 ·cases h with
  |@mk y n gs gv go ms g ok hg gk gl gn h0 l h =>
    refine⟨_,(Q5 (Zw (Wy (V4 (QF Xbp hr (Qo (QZ (pv 0) rfl) (Qo (pv 1) Qr))))) (PSs.nox (Q4 DV)) Z0)
 (Q5 (Zo (DA Xbb UH hr (pv 0) (Qo (QO QN (pv 1) Qy) Qr)))
 (Q5 (Zo (Rj Xbq hr (Wu hst) (Qo (QZ (pv 0) rfl) (Qo (Za N6 (J4 Xbc UH hr (pv 0)) (Z4 (Qo (pv 1) Qr))) Qr))))
 (PSs.nox (Q5 (Zo (VL PySem.F.plainAttrs_list PySem.F.slot_list_append PySem.F.type_list_append VS (QZ (pv 0) rfl) (Qo (pv 1) Qr)))
 (Q5 (Zo (VL PySem.F.plainAttrs_list PySem.F.slot_list_append PySem.F.type_list_append VS (QZ (pv 0) rfl) (Qo Qy Qr)))
 (Q4 (QU (Za YD (Zz Yw (by rfl) T.len Yx (Qo (QZ (pv 0) rfl) Qr)) Qy))))))))),?_⟩
    show EvR K _ [some (.own v (QM CH (hT y n gs gv go ms))),some (.fz (QK g))] _
    walk_at"x"
    refine ZB (fun ρ'=>ρ'=[some (.own v (QM CH (hT y n gs gv go ms))),some (.fz (QK g))]) (Z1 (b:=false) (G0 0 rfl (YB (b:=true) (ZV (Zf (Qv (Qu.cast (U0 (N:=hT y n gs gv go ms) UH rfl) rfl) (Qv (Qt rfl) Q3)) (R_isguest.mk gk))))) (fun c=>nomatch c) (fun _=>ZI rfl)) ?_
    rintro _ rfl
    refine ZB (fun ρ'=>ρ'=[some (.own v (QM CH (hT y n gs gv go ms))),some (.fz (QK g))]) (WX (Uq 0 rfl (fun r hr=>by rw[hr];exact W5 rfl) (WV D6 rfl (Qv (it1 rfl) Q3) (R_hpast.mk (by show(n:Int)<=(g.first:Int);omega)))) rfl) ?_
    rintro _ rfl
    refine ZB (fun ρ'=>ρ'=[some (.own v (QM CH (hT y n gs gv go ms))),some (.fz (QK g))]) (WX (Uq 0 rfl (fun r hr=>by rw[hr];exact W5 rfl) (FN (Qv (Qu.cast (U0 (N:=hT y n gs gv go ms) UH rfl) rfl) (Qv (gus gl rfl rfl l) Q3)) (R_refuse.mk ok (gks hg gk h0) (by rw[Xo,Ua];show gs.length+1<=8;omega) h) hst)) rfl) ?_
    rintro _ rfl
    refine ZB (fun ρ'=>ρ'=[some (.own v (QM CH { hT y n gs gv go ms with known:=gs.map QK++[QK g] })),some (.fz (QK g))]) (An UH rfl (Qt rfl) (by show(gs.map QK).length<1000;rw[Xm];omega) rfl) ?_
    rintro _ rfl
    refine ZB (fun ρ'=>ρ'=[some (.own v (QM CH (hT y n (gs++[g]) (gv++[0]) go ms))),some (.fz (QK g))]) (E9 (n:=0) UH rfl Q8 (by show gv.length<1000;omega) ?_) ?_
    ·simp[hT]
    rintro _ rfl
    refine Gf (Qu.cast (Ut (d:=.int ((gs.length:Int)+1-1)) 0 rfl rfl (Z8 (Qu.cast (Uc (Uz (N:=hT y n (gs++[g]) (gv++[0]) go ms) UH rfl)) ?_) Q8)) ?_) ⟨_,⟨rfl,rfl⟩,rfl⟩
    ·show PyData.int (((gs++[g]).map QK).length:Int)=_
     rw[Xm,Xo];rfl
    ·rw[Int.add_sub_cancel]
 ·cases h with
  |@mk y n gs gv go ms g ok hg gk gl gn h0 l S h =>
    refine⟨_,(Q5 (Zw (Wy (V4 (QF Xbp hr (Qo (QZ (pv 0) rfl) (Qo (pv 1) Qr))))) (PSs.nox (Q4 DV)) Z0)
 (Q5 (Zo (DA Xbb UH hr (pv 0) (Qo (QO QN (pv 1) Qy) Qr)))
 (Q5 (Zo (Rj Xbq hr (Wu hst) (Qo (QZ (pv 0) rfl) (Qo (Za N6 (J4 Xbc UH hr (pv 0)) (Z4 (Qo (pv 1) Qr))) Qr))))
 (PSs.nox (Q5 (Zo (VL PySem.F.plainAttrs_list PySem.F.slot_list_append PySem.F.type_list_append VS (QZ (pv 0) rfl) (Qo (pv 1) Qr)))
 (Q5 (Zo (VL PySem.F.plainAttrs_list PySem.F.slot_list_append PySem.F.type_list_append VS (QZ (pv 0) rfl) (Qo Qy Qr)))
 (Q4 (QU (Za YD (Zz Yw (by rfl) T.len Yx (Qo (QZ (pv 0) rfl) Qr)) Qy))))))))),?_⟩
    show EvZ K F H _ [some (.zow (QJ CH (hT y n gs gv go ms))),some (.fz (QK g))]
    walk_at"x"
    refine MQ (Z1 (b:=false) (YB (b:=true) (ZV (Zf (Qv (Qu.cast (U0 (N:=hT y n gs gv go ms) UH rfl) rfl) (Qv (Qt rfl) Q3)) (R_isguest.mk gk)))) (fun c=>nomatch c) (fun _=>ZI rfl)) ?_;refine MQ (WX (WV D6 rfl (Qv (it1 rfl) Q3) (R_hpast.mk (by show(n:Int)<=(g.first:Int);omega))) rfl) ?_;exact Gc (LV (Qv (Qu.cast (U0 (N:=hT y n gs gv go ms) UH rfl) rfl) (Qv (gus gl rfl rfl l) Q3)) (X_refuse.mk ok (gks hg gk h0) (by rw[Xo,Ua];show gs.length+1<=8;omega) h) hst hq)
def gfD (f:Qn)(m:Nat):QX:=((List.range m).filter fun k=>decide (f k > 0)).map fun(k:Nat)=>(.inl (k:Int),.int (f k))
def gvT (gv:Ql)(f:Qn)(m i:Nat):Ql:=(List.range m).map fun k=>gv.getD k 0+if k<i then f k else 0
def PB {gv:Ql}{m:Nat}(h:gv.length=m)(f:Qn):gvT gv f m 0=gv:=by
 subst h;apply List.ext_getElem?;intro i;by_cases hi:i<gv.length
 ·simp[gvT,hi]
 ·simp[gvT,hi]
def FA {f:Qn}{m i:Nat}(h:m<=i):((gfD f m).any fun kv=>decide (kv.1=(.inl (i:Int):Key)))=false:=by
 rw[List.any_eq_false];intro x hx;unfold gfD at hx;obtain⟨k,hk,rfl⟩:=XJ.mp hx;have hk:=XU.mp (List.mem_filter.mp hk).1;simp only[decide_eq_true_eq];intro z;injection z with z;omega
def LF {f:Qn}{i:Nat}(h:f i > 0):Wt (gfD f i) (.inl (i:Int)) (.int (f i))=gfD f (i+1):=by
 unfold Wt;rw[FA (Xs _),Xb (by decide)];unfold gfD;rw[YK,U8,Xy];simp[h]
def LQ {f:Qn}{i:Nat}(h:¬f i > 0):gfD f (i+1)=gfD f i:=by
 unfold gfD;rw[YK,U8,Xy];simp[h]
def LK (f:Qn)(m:Nat):(gfD f m).length<=m:=by
 unfold gfD;rw[Xm];exact X8 (List.length_filter_le _ _) (by simp)
def Lp {gv:Ql}{f:Qn}{m i:Nat}(hi:i<m):(gvT gv f m i).set i (gv.getD i 0+f i)=gvT gv f m (i+1):=by
 apply List.ext_getElem?
 intro j;by_cases hj:j<m
 ·by_cases e:j=i
  ·subst e
   rw[Xk (by simp[gvT,hj])];simp[gvT,hj]
  ·rw[Xp (Ne.symm e)]
   simp only[gvT,Xt,List.getElem?_range hj,YJ];congr 2
   by_cases c:j<i
   ·rw[Xd c,Xd (by omega)]
   ·rw[Xb c,Xb (by omega)]
 ·rw[List.getElem?_eq_none (by simp[gvT];omega),List.getElem?_eq_none (by simp[gvT];omega)]
def Lw {gv:Ql}{f:Qn}{m i:Nat}(h:f i=0):gvT gv f m (i+1)=gvT gv f m i:=by
 unfold gvT;refine U9 fun k _=>?_
 congr 1
 by_cases c:k<i
 ·rw[Xd c,Xd (by omega)]
 ·by_cases c2:k=i
  ·subst c2
   rw[Xd (by omega),Xb c,h]
  ·rw[Xb c,Xb (by omega)]
def NJ {gv:Ql}{f:Qn}{m i k:Nat}(hk:k<m):(gvT gv f m i)[k]?=some (gv.getD k 0+if k<i then f k else 0):=by simp[gvT,hk]
def Cr {y:Yd}{G:Gv}{φ:QR Nd}{i:Nat}(hi:i<G.m):((YY y G φ).map fun row=>PyData.list (row.map PyData.int))[i]?=some (.list ((List.range y.T).map fun t=>PyData.int (Zb G φ t i))):=by
 unfold YY;simp[hi]
inductive R_hturn:HandS->List OT->(OT->HandS->Prop)->Prop
 |mk {y:Yd} {n:Nat} {gs:List Gs} {gv:Ql} {go:Qk} {ms:List QX} (ok:y.Ok) (hg:∀x∈gs,G30 y x) (gl:gv.length=gs.length) (hn:n<y.T) (h0:∀k,k<gs.length->0<=rsT gs gv go k) (l:gs.length<=8) (ml:ms.length<=8) :
  R_hturn (hT y n gs gv go ms) [] (fun r N'=>∃φ v,JL y (QG (mT n gs gv go)) φ/\r=.own v (dkP (gfD (Zb (QG (mT n gs gv go)) φ n) gs.length))/\N'=hT y (n+1) gs (gvT gv (Zb (QG (mT n gs gv go)) φ n) gs.length gs.length) go (ms++[gfD (Zb (QG (mT n gs gv go)) φ n) gs.length]))
def GA:Qp ["self","filling","gifts","number","takes"] Zal (Q0 HQ):=by walk_at"p"
def CB (T:Bl mg) (UH:HandC K CH) (D:Mf K CH "turn" "Hand.turn" HQ Zal) (Xbb:Zv P w K mg base CH "refuse_past" ZaI 1 (Zg K (R_hpast CH))) (XaW:QD P w K mg base "turns_of" Zay 1 (QQ (K:=K) R_turns)) (XbL:QD P w K mg base "best_filling" Zac 6 (Zg K R_great)) (Xbc:Zv P w K mg base CH "still_there" Zal 5 (Zg K (R_hstill CH))) :
 Zv P w K mg base CH "turn" Zal 7 (spP K (QM CH) R_hturn):=by
 refine D.evP GA (fun M ts Ψ h=>by cases h;rfl) (fun f cdv A outer s H E v M ts Ψ hr h=>?_)
 cases h with
 |@mk y n gs gv go ms ok hg gl hn h0 l ml =>
   refine⟨_,(Q5 (Zo (DA Xbb UH hr (pv 0) (Qo (Za YD (QF XaW hr (Qo (QZ (pv 0) rfl) Qr)) Qy) Qr)))
 (Q5 (QW (i:=1) GA.nd rfl Qa (QF XbL hr (Qo (QZ (pv 0) rfl) (Qo (J4 Xbc UH hr (pv 0)) Qr))))
 (Q5 (QW (i:=2) GA.nd rfl Qa RL)
 (Q5 (Vr PassesOwn.never rfl (BQ rfl T.enumerate (Qo (pv 1) Qr)) (Gb (n:=2) rfl (Wd (Zr (i:=3) GA.nd rfl Qa) (Wd (Zr (i:=4) GA.nd rfl Qa) Gy))) (Q4 (Zw (ZS WJ (QO QN (pv 4) (QZ (pv 0) rfl)) Qy (ZA _)) (Q5 (Gr (Vw hr) (pv 2) (pv 3) (QO QN (pv 4) (QZ (pv 0) rfl)) rfl)
 (Q4 (Gp (QZ (pv 0) rfl) (pv 3) G1 (QO QN (pv 4) (QZ (pv 0) rfl)) Bn WU))) Z0)))
 (Q5 (Zo (VL PySem.F.plainAttrs_list PySem.F.slot_list_append PySem.F.type_list_append VS (QZ (pv 0) rfl) (Qo (pv 2) Qr)))
 (Q5 (A0 (pv 0) Qy Tc)
 (Q4 (QU (J7 Sn (by rfl) T.dict Rs (Qo (pv 2) Qr)))))))))),?_⟩
   show EvR K _ [some (.own v (QM CH (hT y n gs gv go ms))),none,none,none,none] _
   walk_at"x"
   refine ZB (fun ρ'=>ρ'=[some (.own v (QM CH (hT y n gs gv go ms))),none,none,none,none]) (WX (Uq 0 rfl (fun r hr=>by rw[hr];exact W5 rfl) (WV D6 rfl (Qv (Z8 (Zf (Qv (Qu.cast (U0 (N:=hT y n gs gv go ms) UH rfl) rfl) Q3) R_turns.mk) Q8) Q3) (R_hpast.mk (by show(n:Int)<=(y.T:Int)-1;omega)))) rfl) ?_
   rintro _ rfl
   refine ZB (fun ρ'=>∃φ,JL y (QG (mT n gs gv go)) φ/\ρ'=[some (.own v (QM CH (hT y n gs gv go ms))),some (.oll ((YY y (QG (mT n gs gv go)) φ).map fun row=>row.map PyData.int)),none,none,none]) (Wg (Uq 0 rfl ?th (VR (Qv (Qu.cast (U0 (N:=hT y n gs gv go ms) UH rfl) rfl) (Qv (Qu.cast (EvO.fz (Zl.o (WV RG rfl Q3 (R_hstill.mk (n:=n) (rsT gs gv go) rfl rfl (fun k hk=>Gq gl hk) (by omega))))) (by rw[NC])) Q3)) (R_great.mk ok (KZ hg h0) (by rw[Ua];exact l)))) ?_) ?_
   case th =>
    rintro r ⟨φ,_,rfl⟩
    refine C0 fun ds hd=>?_;obtain⟨row,_,rfl⟩:=XJ.mp hd;intro d hd';obtain⟨x,_,rfl⟩:=XJ.mp hd'
    exact⟨_,rfl⟩
   ·rintro r ⟨φ,full,rfl⟩
    exact⟨φ,full,rfl⟩
   rintro _ ⟨φ,full,rfl⟩
   refine Td 1 rfl rfl ?_
   walk_at"d"
   rw[Y3];have Gm:(QG (mT n gs gv go)).m=gs.length:=Ua n gs gv go;have fn:∀k,k<gs.length->0<=Zb (QG (mT n gs gv go)) φ n k:=fun k hk=>(full.1.tak (by rw[Gm];exact hk) hn).1;have frow:∀i,i<gs.length->((YY y (QG (mT n gs gv go)) φ).map (PyData.list ∘ fun row=>row.map PyData.int))[i]?=some (.list ((List.range y.T).map fun t=>PyData.int (Zb (QG (mT n gs gv go)) φ t i))):=fun i hi=>Cr (by rw[Gm];exact hi)
   have flen:((YY y (QG (mT n gs gv go)) φ).map (PyData.list ∘ fun row=>row.map PyData.int)).length=gs.length:=by
    rw[Xm];unfold YY;rw[Xm,U6,Gm]
   generalize ((YY y (QG (mT n gs gv go)) φ).map (PyData.list ∘ fun row=>row.map PyData.int))=rows at frow flen;refine ZB (fun ρ'=>∃w,ρ'=[some (.own v (QM CH (hT y n gs gv go ms))),some (.fz (.list rows)),some (.own w (dkP [])),none,none]) (Bv CG fun w=>⟨w,rfl⟩) ?_
   rintro _ ⟨w,rfl⟩
   generalize hf:Zb (QG (mT n gs gv go)) φ n=f at fn;have frow':∀i,i<gs.length->∃ts,rows[i]?=some (.list ts)/\atI ts (n:Int)=some (.int (f i)):=fun i hi=>⟨_,frow i hi,by rw[Nx (by omega) (by omega),XS,<- hf]⟩;refine ZB (fun ρ'=>∃u3 u4:Option OT,ρ'=[some (.own v (QM CH (hT y n gs (gvT gv f gs.length gs.length) go ms))),some (.fz (.list rows)),some (.own w (dkP (gfD f gs.length))),u3,u4]) (V3 (fun i ρ'=>∃u3 u4:Option OT,ρ'=[some (.own v (QM CH (hT y n gs (gvT gv f gs.length i) go ms))),some (.fz (.list rows)),some (.own w (dkP (gfD f i))),u3,u4]) (Gh (Qv (Qt rfl) Q3)) ⟨_,_,by rw[PB gl];rfl⟩ ?st ?fin) ?_
   case fin =>
    intro ρ' h;rw[BF,flen]at h;exact h
   case st =>
    rintro i d _ hd ⟨u3,u4,rfl⟩
    obtain⟨d1,e1,rfl⟩:=BE hd
    have hi:i<gs.length:=by
     have:=(Xg.mp e1).1
     omega
    obtain⟨ts,t1,t2⟩:=frow' i hi;obtain rfl:d1=.list ts:=by rw[e1]at t1;exact Option.some.inj t1
    refine⟨_,Jl (ds:=[.int (i:Int),.list ts]) (YF Z2 (YF Z2 JV)) rfl,?_⟩
    walk_at"d"
    have tk:∀{ρ:Q6} {N:HandS},N.now=(n:Int)->ρ[0]?=some (some (.zow (QJ CH N)))->ρ[4]?=some (some (.fz (.list ts)))->Qu K (tOp (rIx K) (QB 4) (ZL K (QB 0) "present")) ρ (.int (f i)):=fun{ρ N} hn e0 e4=>Wa (Qt e4) (Qu.cast (B8 UH e0) (by rw[hn])) t2;refine Z1 (b:=decide (f i > 0)) (Ze.cast (G0 0 rfl (Z5 (Wb (tk (N:=hT y n gs (gvT gv f gs.length i) go ms) rfl rfl rfl) Q8))) rfl) (fun c=>?_) (fun c=>ZI ?_)
    ·have c:=X7 c
     refine QI (Cm (k:=.inl (i:Int)) (d:=.int (f i)) rfl (Ut 0 rfl rfl (tk (N:=hT y n gs (gvT gv f gs.length i) go ms) rfl rfl rfl)) (Qt rfl) (Mb (LK f i) (ZT (by omega))) ?_)
     walk_at"d"
     rw[LF c];refine Fu (k:=(i:Int)) (m:=gv.getD i 0+0) (n:=f i) UH rfl (Qt rfl) (by omega) (by show(gvT gv f gs.length i)[(i:Int).toNat]?=_;rw[XS,NJ hi,Xb (Yc i)]) (Ut 0 rfl rfl (tk (N:=hT y n gs (gvT gv f gs.length i) go ms) rfl rfl rfl)) ?_;dsimp only[List.set,hT];rw[XS,UF,Lp hi];exact⟨_,_,rfl⟩
    ·have c:=GI c
     have fi:=fn i hi;rw[LQ c,Lw (show f i=0 by omega)]
     exact⟨_,_,rfl⟩
   rintro _ ⟨u3,u4,rfl⟩
   refine Aw (j:=2) (by decide) UH rfl rfl (by show ms.length<1000;omega) fun w'=>⟨_,⟨φ,w',full,?_,?_⟩,rfl⟩
   ·rw[hf]
   ·rw[hf]
    rfl
inductive R_lcome:HandS->List OT->(OT->HandS->Prop)->Prop
 | mk {y:Yd} {n:Nat} {gs:List Gs} {gv:Ql} {go:Qk} {ms:List QX} {g:Gs} (ok:y.Ok) (hg:∀x∈gs,G30 y x) (gk:G30 y g) (gl:gv.length=gs.length) (gn:n<=g.first) (h0:∀k,k<gs.length->0<=rsT gs gv go k) (l:gs.length<=7) (h:∀S,Vy y (QG (mT n gs gv go++[g])) S<=0):R_lcome (hT y n gs gv go ms) [.fz (QK g)] (fun r N'=>r=.ol [.str "in",.int (gs.length:Int)]/\N'=hT y n (gs++[g]) (gv++[0]) go ms)
inductive X_lcome (CH:Addr):List OT->(OT->Prop)->Prop
 | mk {y:Yd} {n:Nat} {gs:List Gs} {gv:Ql} {go:Qk} {ms:List QX} {g:Gs} (ok:y.Ok) (hg:∀x∈gs,G30 y x) (gk:G30 y g) (gl:gv.length=gs.length) (gn:n<=g.first) (h0:∀k,k<gs.length->0<=rsT gs gv go k) (l:gs.length<=7) {S:Qm} (h:0<Vy y (QG (mT n gs gv go++[g])) S):X_lcome CH [.zow (QJ CH (hT y n gs gv go ms)),.fz (QK g)] (fun r=>∃v S,0<Vy y (QG (mT n gs gv go++[g])) S/\r=.own v (lsO (.str "room") (ZW (Yv (mT n gs gv go++[g]) S))))
def YH:Qp Zak Zau (Q0 GB):=by walk_at"p"
def FG (T:Bl mg) (UH:HandC K CH) (XR:XC K mg "NoRoom" YR CR fR) (XA:P6 K mg YR CR cg ct) (D:Df K mg "_law_come" GB Zau) (Xbr:Vf P w K mg base CH "come" ZaN 8 (GP K CH CR "some" R_hcome (X_hcome CH))) :
 QD P w K mg base "_law_come" Zau 9 (GK K CH R_lcome (X_lcome CH)):=by
 refine D.evH2 YH (fun M ts Ψ h=>by cases h;rfl) (fun ts Φ h=>by cases h;rfl) (by decide) (fun f cdv A outer s H E v M ts Ψ hr h=>?_) (fun _ _ _ _ s H E ts Φ hr h=>?_)
 ·have hu:=hr.units
  cases h with
  |@mk y n gs gv go ms g ok hg gk gl gn h0 l h =>
    refine⟨_,(Q5 (QW (i:=2) YH.nd rfl Qa Gi)
 (Q5 (Hj (j:=3) XA.em rfl rfl rfl XA.my YH.nd rfl (.inr ⟨rfl,rfl⟩) (fun D pn=>(Q4 (QW (i:=2) YH.nd rfl Qa (Z4 (Qo VO (Qo (Vs Xbr UH hr G9 (pv 0) (Qo (pv 1) Qr)) Qr)))))) (fun e pn=>(Q5 (QW (i:=4) YH.nd rfl (Or.inr rfl) (Z4 (Qo (Zz (show Zy _ (.builtin "isinstance") (VW K CR) from YT XA.is) (by rfl) T.isi VZ (Qo (pv 3) (Qo (Vx (v:=.ref _) rfl XA.m1 rfl) Qr))) (Qo (Zz (show Zy _ (.builtin "isinstance") (VW K CR) from YT XA.is) (by rfl) T.isi VZ (Qo (pv 3) (Qo (Vx (v:=.ref _) rfl XA.m2 rfl) Qr))) (Qo (Zz (show Zy _ (.builtin "isinstance") (VW K CR) from YT XA.is) (by rfl) T.isi VZ (Qo (pv 3) (Qo (Vx (v:=.ref _) rfl XR.m rfl) Qr))) Qr)))))
 (Q5 (Hh (i:=2) YH.nd rfl rfl (NX:=Zak) (sc:=Q0 GB) (N:=Zaw) (f:=[none,some 4,some 3]) (by decide +kernel) rfl rfl (Sw (C:=CR) (e:=e) rfl rfl T.range (Qo Qy Qr)) (fun _=>(Zr (i:=0) (show(Zaw:Qh).Nodup by decide +kernel) rfl Qa)) (fun _=>V5) (fun _=>(Bq (PW.pt (Jw (V4 (QO (show IxR _ (rIx K) from QN) (pv 1) (pv 0))) (Uk (V4 (Zz (show Zy _ (.builtin "isinstance") (VW K CR) from YT XA.is) (by rfl) T.isi VZ (Qo (pv 2) (Qo (Ug (v:=.ty "ValueError") rfl T.ValueError Ke rfl) Qr))))))))) (fun _=>(QO (show IxR _ (rIx K) from QN) (Z4 (Qo VO (Qo VO (Qo VO Qr)))) (pv 0))) rfl)
 (Q4 (Zw (ZS (Bc hu) (pv 2) (Z4 (Qo VO Qr)) (ZA _)) (Q4 (Zo (show PE _ _ (tBM K "list" VQ _ _) from VL PySem.F.plainAttrs_list PySem.F.slot_list_append PySem.F.type_list_append VS (pv 2) (Qo (D0 XA.gt XA.na (pv 3)) Qr)))) Z0))))))
 (Q4 (QU (pv 2))))),?_⟩
    show EvR K _ [some (.own v (QM CH (hT y n gs gv go ms))),some (.fz (QK g)),none,none,none] _
    walk_at"x"
    refine ZB (fun ρ'=>ρ'=[some (.own v (QM CH (hT y n gs gv go ms))),some (.fz (QK g)),some (.fz .none),none,none]) (Zu Ww rfl) ?_
    rintro _ rfl
    refine ZB (fun ρ'=>ρ'=[some (.own v (QM CH (hT y n (gs++[g]) (gv++[0]) go ms))),some (.fz (QK g)),some (.ol [.str "in",.int (gs.length:Int)]),none,none]) (Dy fun E'=>CS Rq rfl VM rfl (Qv (Qt rfl) Q3) (R_hcome.mk ok hg gk gl gn h0 l h) WS ?_) ?_
    ·rintro r N' ⟨rfl,rfl⟩
     exact⟨_,_,rfl,rfl,rfl⟩
    rintro _ rfl
    exact Fr (j:=2) (by decide) rfl ⟨_,⟨rfl,rfl⟩,rfl⟩
 ·have hu:=hr.units
  cases h with
  |@mk y n gs gv go ms g ok hg gk gl gn h0 l S h =>
    refine⟨_,(Q5 (QW (i:=2) YH.nd rfl Qa Gi)
 (Q5 (Hj (j:=3) XA.em rfl rfl rfl XA.my YH.nd rfl (.inr ⟨rfl,rfl⟩) (fun D pn=>(Q4 (QW (i:=2) YH.nd rfl Qa (Z4 (Qo VO (Qo (Vs Xbr UH hr G9 (pv 0) (Qo (pv 1) Qr)) Qr)))))) (fun e pn=>(Q5 (QW (i:=4) YH.nd rfl (Or.inr rfl) (Z4 (Qo (Zz (show Zy _ (.builtin "isinstance") (VW K CR) from YT XA.is) (by rfl) T.isi VZ (Qo (pv 3) (Qo (Vx (v:=.ref _) rfl XA.m1 rfl) Qr))) (Qo (Zz (show Zy _ (.builtin "isinstance") (VW K CR) from YT XA.is) (by rfl) T.isi VZ (Qo (pv 3) (Qo (Vx (v:=.ref _) rfl XA.m2 rfl) Qr))) (Qo (Zz (show Zy _ (.builtin "isinstance") (VW K CR) from YT XA.is) (by rfl) T.isi VZ (Qo (pv 3) (Qo (Vx (v:=.ref _) rfl XR.m rfl) Qr))) Qr)))))
 (Q5 (Hh (i:=2) YH.nd rfl rfl (NX:=Zak) (sc:=Q0 GB) (N:=Zaw) (f:=[none,some 4,some 3]) (by decide +kernel) rfl rfl (Sw (C:=CR) (e:=e) rfl rfl T.range (Qo Qy Qr)) (fun _=>(Zr (i:=0) (show(Zaw:Qh).Nodup by decide +kernel) rfl Qa)) (fun _=>V5) (fun _=>(Bq (PW.pt (Jw (V4 (QO (show IxR _ (rIx K) from QN) (pv 1) (pv 0))) (Uk (V4 (Zz (show Zy _ (.builtin "isinstance") (VW K CR) from YT XA.is) (by rfl) T.isi VZ (Qo (pv 2) (Qo (Ug (v:=.ty "ValueError") rfl T.ValueError Ke rfl) Qr))))))))) (fun _=>(QO (show IxR _ (rIx K) from QN) (Z4 (Qo VO (Qo VO (Qo VO Qr)))) (pv 0))) rfl)
 (Q4 (Zw (ZS (Bc hu) (pv 2) (Z4 (Qo VO Qr)) (ZA _)) (Q4 (Zo (show PE _ _ (tBM K "list" VQ _ _) from VL PySem.F.plainAttrs_list PySem.F.slot_list_append PySem.F.type_list_append VS (pv 2) (Qo (D0 XA.gt XA.na (pv 3)) Qr)))) Z0))))))
 (Q4 (QU (pv 2))))),?_⟩
    show Q1 K _ [some (.zow (QJ CH (hT y n gs gv go ms))),some (.fz (QK g)),none,none,none] _
    walk_at"x"
    refine QI (Zu (d:=.none) Ww ?_)
    walk_at"d"
    apply QI
    apply E3 (C:=CR) (f := "some") (n:=5) (j:=3) (fun d=>∃S,0<Vy y (QG (mT n gs gv go++[g])) S/\d=ZW (Yv (mT n gs gv go++[g]) S)) (by decide)
    case hz =>
     intro E' F0 H0 F σ H' x St k;exact CC (F0:=F) (H0:=H') Rq rfl VM (Qv (Qt rfl) Q3) (X_hcome.mk ok hg gk gl gn h0 l h) WS (fun F' H'' e dct d hd x' he fl=>k F' H'' e dct d hd x' he fl) (Qx.refl St.sub) St
    case hth =>
     rintro _ e dx q ⟨S',hS',rfl⟩
     dsimp only[List.set,List.replicate];refine QI (VY (Vi (ds:=[.bool false,.bool false,.bool true]) (QY (MO rfl rfl XA.kg) (QY (MO rfl rfl XA.kt) (QY (MO rfl rfl XA.k1) Z7))) (by show(3:Nat)<=1000;decide)) ?_)
     walk_at"d"
     refine UT 4 rfl ?_
     walk_at"d"
     have fl:JZ [PyData.str "room"]:=fun d hd=>by rw[Xh.mp hd];exact⟨_,rfl⟩
     refine QI (VY (r:=.ol [.str "room"]) (CU 3 rfl fl (EvO.cast (Bg (xs:=List.range 3) (enc:=fun(k:Nat)=>PyData.int (k:Int)) (h:=fun(k:Nat)=>([.str "guest",.str "time",.str "room"]:Qd).getD k .none) (p:=fun k=>decide (k=2)) ?ei (by decide) ?el) rfl)) ?_)
     case ei=>exact EvI.cast (AH (i:=3) rfl (Qv Q8 Q3) (by rw[z62];decide) (by rw[z62];decide)) rfl
     case el =>
      intro k hk c;have hk:=XU.mp hk;refine⟨_,Z2,?_⟩
      walk_at"e"
      have im:atI [PyData.bool false,.bool false,.bool true] (k:Int)=some (PyData.bool (decide (k=2))):=by
       obtain rfl|rfl|rfl:k=0\/k=1\/k=2:=by omega
       all_goals rfl
      refine⟨Ze.cast (Wv (b:=decide (k=2)) (c:=true) (ZV (Wa (Qt rfl) (Qt rfl) im)) (fun _=>ZV (Lb rfl rfl XA.k2))) (by rw[Bool.and_true]),fun hc=>?_⟩;have hc:=X7 hc;subst hc;exact Wa (EvO.fz (Vi (ds:=[.str "guest",.str "time",.str "room"]) (QY VM (QY VM (QY VM Z7))) (by show(3:Nat)<=1000;decide))) (Qt rfl) rfl
     walk_at"d"
     have fr:Vm (.list [.str "room"]):=(Ue (m:=0) (Gx ⟨by decide +kernel,XN _⟩ Bf)).fine (by decide);refine Z1 (b:=true) (CW 2 rfl rfl (Ze.cast (Z5 (UZ (a:=.list [.str "room"]) (b:=.list [.str "room"]) (Qt rfl) (EvO.fz (Vi (QY VM Z7) YM)) fr fr)) (by rw[Uv fr]))) (fun _=>?_) (fun c=>nomatch c);refine CA (by decide) rfl rfl fun v=>?_
     walk_at"d"
     exact Dw rfl ⟨v,S',hS',rfl⟩
theorem SH {f:Qn}{t:Nat}:∀{n:Nat},(∀k,k<n->0<=f k)->t<n->f t<=Q7 f n
 |0,_,h=>by omega
 |n+1,h0,h=>by
   rw[Q7];have nn:=Rm (f:=f) (n:=n) fun k hk=>h0 k (by omega);have fn:=h0 n (by omega)
   by_cases e:t=n
   ·subst e;omega
   ·have:=SH (f:=f) (n:=n) (fun k hk=>h0 k (by omega)) (show t<n by omega)
    omega
def F7 (f:Qn)(m:Nat):JT (gfD f m):=fun x hx=>by
 unfold gfD at hx;obtain⟨k,_,rfl⟩:=XJ.mp hx
 exact⟨_,_,rfl,rfl⟩
def Fi (gv:Ql)(f:Qn)(m i:Nat):(gvT gv f m i).length=m:=by simp[gvT]
def LL {gv:Ql}{f:Qn}{m k:Nat}(hk:k<m):(gvT gv f m m).getD k 0=gv.getD k 0+f k:=by
 rw[List.getD,NJ hk,Xd hk];rfl
def Fo {y:Yd}{n:Nat}{gs:List Gs}{gv:Ql}{go:Qk}{φ:QR Nd}(full:JL y (QG (mT n gs gv go)) φ)(hn:n<y.T){k:Nat}(hk:k<gs.length):Zb (QG (mT n gs gv go)) φ n k<=rsT gs gv go k:=by
 have F:=full.1;have hk':k<(QG (mT n gs gv go)).m:=by show k<(mT n gs gv go).length;rw[Ua];exact hk
 have a:=SH (f:=fun t=>Zb (QG (mT n gs gv go)) φ t k) (fun t ht=>(F.tak hk' ht).1) hn;have b:=F.total hk';have c:=(F.want hk').2
 have e:(QG (mT n gs gv go)).wa k=rsT gs gv go k:=by
  show((mT n gs gv go).getD k default).want=_
  rw[PK hk];rfl
 omega
def A5 {y:Yd}{n:Nat}{gs:List Gs}{gv:Ql}{go:Qk}{φ:QR Nd}(full:JL y (QG (mT n gs gv go)) φ)(hn:n<y.T):∀k,k<gs.length->0<=rsT gs (gvT gv (Zb (QG (mT n gs gv go)) φ n) gs.length gs.length) go k:=fun k hk=>by
 have a:=Fo full hn hk;unfold rsT at a ⊢;by_cases c:k∈go
 ·rw[Xd c];exact Jf _
 ·rw[Xb c]at a ⊢
  rw[LL hk];omega
inductive R_hnow (CH:Addr):List OT->(OT->Prop)->Prop
 |mk {N:HandS}:R_hnow CH [.zow (QJ CH N)] (fun r=>r=.fz (.int N.now))
def Ig:Qp Zal Zal (Q0 Ht):=by walk_at"p"
def LJ (T:Bl mg) (UH:HandC K CH) (D:Mf K CH "now" "Hand.now" Ht Zal):Zv P w K mg base CH "now" Zal 1 (Zg K (R_hnow CH)):=by
 refine D.evD Ig (fun ts Φ h=>by cases h;rfl) (fun _ _ _ _ s H E ts Φ hr h=>?_)
 cases h with
 |@mk N =>
   refine⟨_,(Q4 (QU (QZ (pv 0) rfl))),?_⟩;show Q1 K _ [some _] _
   walk_at"x"
   exact Vg (B8 UH rfl) rfl
inductive R_hgifts (CH:Addr):List OT->(OT->Prop)->Prop
 |mk {N:HandS} (h:N.made.length<=1000):R_hgifts CH [.zow (QJ CH N)] (fun r=>∃v,r=.own v (dlP N.made))
def IM:Qp Zal Zal (Q0 BU):=by walk_at"p"
def E4 (T:Bl mg) (UH:HandC K CH) (D:Mf K CH "gifts" "Hand.gifts" BU Zal):Zv P w K mg base CH "gifts" Zal 1 (Zg K (R_hgifts CH)):=by
 refine D.evD IM (fun ts Φ h=>by cases h;rfl) (fun _ _ _ _ s H E ts Φ hr h=>?_)
 cases h with
 |@mk N h =>
   refine⟨_,(Q4 (QU (Y8 (NX:=Zal) (sc:=Q0 BU) (N:=["gifts"]) (f:=[none]) rfl (by decide +kernel) rfl rfl (WQ (QZ (pv 0) rfl)) (fun _=>(Zr (i:=0) (show(["gifts"]:Qh).Nodup by decide +kernel) rfl Qa)) (fun _=>V5) (fun _=>YE) (fun _=>(J7 Sn (by rfl) T.dict Rs (Qo (pv 0) Qr)))))),?_⟩;show Q1 K _ [some _] _
   walk_at"x"
   exact D9 (Cu UH rfl h (fun _=>rfl) (fun _=>rfl) (fun _=>rfl)) (fun r hr'=>hr')
inductive R_hleave:HandS->List OT->(OT->HandS->Prop)->Prop
 |mk {y:Yd} {n:Nat} {gs:List Gs} {gv:Ql} {go:Qk} {ms:List QX} {k:Nat} (hk:k<gs.length) (gl:gv.length=gs.length) (hn:k∉go) (l:go.length<=900):R_hleave (hT y n gs gv go ms) [.fz (.int (k:Int))] (fun r N'=>r=.fz (.int (gv.getD k 0))/\N'=hT y n gs gv (go++[k]) ms)
inductive X_hleave (CH:Addr):List OT->(V->Prop)->Prop
 |mk {y:Yd} {n:Nat} {gs:List Gs} {gv:Ql} {go:Qk} {ms:List QX} {k:Nat} (hk:k<gs.length) (hn:k∈go):X_hleave CH [.zow (QJ CH (hT y n gs gv go ms)),.fz (.int (k:Int))] (fun w=>w=.int (k:Int))
 |out {N:HandS} {z:Int} (h:z<0\/(N.known.length:Int)<=z):X_hleave CH [.zow (QJ CH N),.fz (.int z)] (fun w=>w=.int z)
def TX {go:Qk}{k:Nat}(h:k∉go):Wt (go.map fun(k:Nat)=>((.inl (k:Int):Key),PyData.bool true)) (.inl (k:Int)) (.bool true)=(go++[k]).map fun(k:Nat)=>((.inl (k:Int):Key),PyData.bool true):=by
 unfold Wt;have e:((go.map fun(k:Nat)=>((.inl (k:Int):Key),PyData.bool true)).any fun kv=>decide (kv.1=(.inl (k:Int):Key)))=false:=by
  rw[List.any_eq_false];intro x hx;obtain⟨j,hj,rfl⟩:=XJ.mp hx;simp only[decide_eq_true_eq];intro z;injection z with z;exact h (by rw[<- (show j=k by omega)];exact hj)
 rw[e,Xb (by decide),Xy];rfl
def Ur {y:Yd}{n:Nat}{gs:List Gs}{gv:Ql}{go:Qk}{ms:List QX}{k:Nat}(hk:k<gs.length)(gl:gv.length=gs.length):(hT y n gs gv go ms).given[k]?=some (gv.getD k 0):=by
 show gv[k]?=_
 simp[gl,hk]
def IN:Qp Zab Zab (Q0 Ko):=by walk_at"p"
def A9 (T:Bl mg) (UH:HandC K CH) (XQ:XC K mg "NoNumber" YR CQ fQ) (D:Mf K CH "leave" "Hand.leave" Ko Zab) (XaY:Vf P w K mg base CH "refuse_number" Zab 3 (Yg K CQ "number" (R_hnum CH) (X_hnum CH))) (Xa8:JS P w K mg base fQ Zab 1 (Uj CQ "number")):Vf P w K mg base CH "leave" Zab 4 (GO K CH CQ "number" R_hleave (X_hleave CH)):=by
 refine D.evHX IN (fun M ts Ψ h=>by cases h;rfl) (fun ts Φ h=>by cases h<;>rfl) (by decide) (fun f cdv A outer s H RR v M ts Ψ hr hst h=>?_) (fun f cdv A outer s F H RR ts Φ hr hst hq h=>?_)
 ·cases h with
  |@mk y n gs gv go ms k hk gl hn l =>
    refine⟨_,(Q5 (Zo (Vs XaY UH hr (Wu hst) (pv 0) (Qo (pv 1) Qr)))
 (Q5 (Zw (YW (Ju (Vw hr) (pv 1) (QZ (pv 0) rfl))) (Q4 (J6 XQ Xa8 hst hr (Qo (pv 1) Qr))) Z0)
 (PSs.nox (Q5 (Gr (Vw hr) (QZ (pv 0) rfl) (pv 1) YQ rfl)
 (Q4 (QU (QO QN (QZ (pv 0) rfl) (pv 1)))))))),?_⟩
    show EvR K _ [some (.own v (QM CH (hT y n gs gv go ms))),some (.fz (.int (k:Int)))] _
    walk_at"x"
    refine ZB (fun ρ'=>ρ'=[some (.own v (QM CH (hT y n gs gv go ms))),some (.fz (.int (k:Int)))]) (WX (Uq 0 rfl (fun r hr=>by rw[hr];exact W5 rfl) (G6 Jx rfl (Qv (Qt rfl) Q3) (R_hnum.mk (by simp[hT,hk])) hst)) rfl) ?_
    rintro _ rfl
    refine ZB (fun ρ'=>ρ'=[some (.own v (QM CH (hT y n gs gv go ms))),some (.fz (.int (k:Int)))]) (Z1 (b:=false) (G0 0 rfl (Ze.cast (Z5 (Hl (N:=hT y n gs gv go ms) (k:=.inl (k:Int)) UH (Qt rfl) rfl)) ((Bu k go).trans (XO hn)))) (fun c=>nomatch c) (fun _=>ZI rfl)) ?_
    rintro _ rfl
    refine ZB (fun ρ'=>ρ'=[some (.own v (QM CH (hT y n gs gv (go++[k]) ms))),some (.fz (.int (k:Int)))]) (FW (k:=.inl (k:Int)) (d:=.bool true) UH rfl KW (Qt rfl) (ZT (by show(go.map _).length<=1000;rw[Xm];omega)) ?_) ?_
    ·dsimp only[List.set,hT]
     rw[TX hn]
    rintro _ rfl
    exact Gf (Ut 0 rfl rfl (Wa (HB (N:=hT y n gs gv (go++[k]) ms) UH rfl) (Qt rfl) (DT (Ur hk gl)))) ⟨_,⟨rfl,rfl⟩,rfl⟩
 ·cases h with
  |@mk y n gs gv go ms k hk hn =>
    refine⟨_,(Q5 (Zo (Vs XaY UH hr (Wu hst) (pv 0) (Qo (pv 1) Qr)))
 (Q5 (Zw (YW (Ju (Vw hr) (pv 1) (QZ (pv 0) rfl))) (Q4 (J6 XQ Xa8 hst hr (Qo (pv 1) Qr))) Z0)
 (PSs.nox (Q5 (Gr (Vw hr) (QZ (pv 0) rfl) (pv 1) YQ rfl)
 (Q4 (QU (QO QN (QZ (pv 0) rfl) (pv 1)))))))),?_⟩
    show EvZ K F H _ [some (.zow (QJ CH (hT y n gs gv go ms))),some (.fz (.int (k:Int)))]
    walk_at"x"
    refine MQ (WX (G6 Jx rfl (Qv (Qt rfl) Q3) (R_hnum.mk (by simp[hT,hk])) hst) rfl) ?_;exact Gc (MK (b:=true) (Ze.cast (Z5 (Hl (N:=hT y n gs gv go ms) (k:=.inl (k:Int)) UH (Qt rfl) rfl)) ((Bu k go).trans (XV hn))) (fun _=>SI (Φx:=fun w=>w=.int (k:Int)) (Qt rfl) rfl rfl hq) (fun c=>nomatch c))
  |@out N z h =>
    refine⟨_,(Q5 (Zo (Vs XaY UH hr (Wu hst) (pv 0) (Qo (pv 1) Qr)))
 (Q5 (Zw (YW (Ju (Vw hr) (pv 1) (QZ (pv 0) rfl))) (Q4 (J6 XQ Xa8 hst hr (Qo (pv 1) Qr))) Z0)
 (PSs.nox (Q5 (Gr (Vw hr) (QZ (pv 0) rfl) (pv 1) YQ rfl)
 (Q4 (QU (QO QN (QZ (pv 0) rfl) (pv 1)))))))),?_⟩
    show EvZ K F H _ [some (.zow (QJ CH N)),some (.fz (.int z))]
    walk_at"x"
    exact Gc (Ho Jx rfl (Qv (Qt rfl) Q3) (X_hnum.mk h) hst hq)
inductive R_lask (CH:Addr):List OT->(OT->Prop)->Prop
 |bad {N:HandS} {w:Nat} {z:Int} (hw:w<3) (h:z<0\/(N.known.length:Int)<=z):R_lask CH [.zow (QJ CH N),.fz (.int (w:Int)),.fz (.int z)] (fun r=>r=.ol [.int z])
 |gone {y:Yd} {n:Nat} {gs:List Gs} {gv:Ql} {go:Qk} {ms:List QX} {k:Nat} (hk:k<gs.length) (hn:k∈go):R_lask CH [.zow (QJ CH (hT y n gs gv go ms)),.fz (.int 0),.fz (.int (k:Int))] (fun r=>r=.ol [.int (k:Int)])
 |got {N:HandS} {k:Nat} {x:Int} (h:k<N.known.length) (hx:N.given[k]?=some x):R_lask CH [.zow (QJ CH N),.fz (.int 1),.fz (.int (k:Int))] (fun r=>r=.fz (.int x))
 |rest {N:HandS} {k:Nat} {z:Int} (h:UR N k z):R_lask CH [.zow (QJ CH N),.fz (.int 2),.fz (.int (k:Int))] (fun r=>r=.fz (.int z))
def W7:Qp ["_law_hand","_law_way","_law_number","_law_told","e","_law_others"] Zap (Q0 Km):=by walk_at"p"
def Ls (T:Bl mg) (UH:HandC K CH) (XQ:XC K mg "NoNumber" YR CQ fQ) (XB:P5 K mg YR CQ) (XT:P4 K mg CQ q1 q2 q3 q4 q5 q6) (D:Df K mg "_law_asked" Km Zap) (Xbi:Vf P w K mg base CH "leave" Zab 4 (GO K CH CQ "number" R_hleave (X_hleave CH))) (Xa6:Vf P w K mg base CH "got" Zab 4 (Yg K CQ "number" (R_hgot CH) (X_hnum CH))) (Xa0:Vf P w K mg base CH "rest" Zab 4 (Yg K CQ "number" (R_hrest CH) (X_hnum CH))) :
 QD P w K mg base "_law_asked" Zap 5 (Zg K (R_lask CH)):=by
 refine D.evD W7 (fun ts Φ h=>by cases h<;>rfl) (fun _ _ _ _ s H E ts Φ hr h=>?_);have hu:=hr.units;refine⟨_,(Q5 (QW (i:=3) W7.nd rfl Qa Gi)
 (Q5 (Hj (j:=4) XB.em rfl rfl rfl XB.my W7.nd rfl (.inl rfl) (fun D pn=>(Q4 (Zw (ZS JP (pv 1) Qy (ZA _)) (Q4 (QW (i:=3) W7.nd rfl Qa (Vs Xbi UH hr G9 (pv 0) (Qo (pv 2) Qr)))) (Q4 (Zw (ZS JP (pv 1) Qy (ZA _)) (Q4 (QW (i:=3) W7.nd rfl Qa (Vs Xa6 UH hr G9 (pv 0) (Qo (pv 2) Qr)))) (Q4 (QW (i:=3) W7.nd rfl Qa (Vs Xa0 UH hr G9 (pv 0) (Qo (pv 2) Qr))))))))) (fun e pn=>(Q5 (QW (i:=3) W7.nd rfl Qa VO)
 (Q5 (QW (i:=5) W7.nd rfl Qa (Zz (show Zy _ (.builtin "isinstance") (Mw K CQ) from Tf XB.is) (by rfl) T.isi VZ (Qo (pv 4) (Qo (Yy (Qo (Vx (v:=.ref _) rfl XT.m1 rfl) (Qo (Vx (v:=.ref _) rfl XT.m2 rfl) (Qo (Vx (v:=.ref _) rfl XT.m3 rfl) (Qo (Vx (v:=.ref _) rfl XT.m4 rfl) (Qo (Vx (v:=.ref _) rfl XT.m5 rfl) (Qo (Vx (v:=.ref _) rfl XT.m6 rfl) Qr Uf) Uf) Uf) Uf) Uf) Uf)) Qr))))
 (Q4 (Zw (PW.pt (Jw (V4 (Zz (show Zy _ (.builtin "isinstance") (VW K CQ) from YT XB.is) (by rfl) T.isi VZ (Qo (pv 4) (Qo (Vx (v:=.ref _) rfl XQ.m rfl) Qr)))) (Jw (V4 (Zz (show Zy _ (.builtin "isinstance") (VW K CQ) from YT XB.is) (by rfl) T.isi VZ (Qo (pv 4) (Qo (Ug (v:=.ty "ValueError") rfl T.ValueError Ke rfl) Qr)))) (Uk (Wy (V4 (pv 5))))))) (Q4 (QW (i:=3) W7.nd rfl Qa (Z4 (Qo (D0 XB.gt XB.na (pv 4)) Qr)))) Z0))))))
 (Q4 (QU (pv 3))))),?_⟩
 walk_at"x"
 cases h with
 |@bad N w z hw h =>
   show Q1 K _ [some (.zow (QJ CH N)),some (.fz (.int (w:Int))),some (.fz (.int z)),none,none,none] _;refine QI (Zu (d:=.none) Ww ?_)
   walk_at"d"
   apply QI
   apply SK (C:=CQ) (f := "number") (n:=6) (j:=4) (fun w=>w=.int z) (by decide)
   case hz =>
    intro E' F0 H0 F σ H' x St kk;have kk':=fun F' H'' e dct d hd x' he fl=>kk F' H'' e dct d hd x' he fl;refine M9 (F0:=F) (H0:=H') (b:=decide ((w:Int)=0)) (Z5 (Yz (Qt rfl) Q8)) (Qx.refl St.sub) St (fun _ F1 H1 x1 S1=>RS (i:=0) (j:=3) DJ rfl (Qv (Qt rfl) Q3) (X_hleave.out h) WS kk' x1 S1) (fun _ F1 H1 x1 S1=>?_);exact M9 (b:=decide ((w:Int)=1)) (Z5 (Yz (Qt rfl) Q8)) x1 S1 (fun _ F2 H2 x2 S2=>DX Gj rfl (Qv (Qt rfl) Q3) (X_hnum.mk h) WS kk' x2 S2) (fun _ F2 H2 x2 S2=>DX Gu rfl (Qv (Qt rfl) Q3) (X_hnum.mk h) WS kk' x2 S2)
   case hth =>
    rintro _ e dx rfl
    dsimp only[List.set,List.replicate];refine QI (Zu (d:=.str "other") VM ?_)
    walk_at"d"
    refine QI (Zu (Ro (cs:=[q1,q2,q3,q4,q5,q6]) rfl (by show(6:Nat)<=1000;decide) XT.ka) ?_)
    walk_at"d"
    refine Z1 (b:=true) (Wv (b:=true) (c:=true) (ZV (Bb rfl rfl XB.k1)) (fun _=>Wv (b:=true) (c:=true) (ZV (Bb rfl rfl XB.k2)) (fun _=>YB (b:=false) (ZV (Qt rfl))))) (fun _=>?_) (fun c=>nomatch c);refine VY (r:=.ol [.int z]) (Vi (ds:=[.int z]) (QY (Ny rfl (fun _=>.int _)) Z7) YM) ?_
    walk_at"d"
    exact Gn rfl rfl
 |@gone y n gs gv go ms k hk hn =>
   show Q1 K _ [some (.zow (QJ CH (hT y n gs gv go ms))),some (.fz (.int 0)),some (.fz (.int (k:Int))),none,none,none] _;refine QI (Zu (d:=.none) Ww ?_)
   walk_at"d"
   apply QI
   apply SK (C:=CQ) (f := "number") (n:=6) (j:=4) (fun w=>w=.int (k:Int)) (by decide)
   case hz =>
    intro E' F0 H0 F σ H' x St kk;exact M9 (F0:=F) (H0:=H') (b:=true) (Ze.cast (Z5 (Yz (Qt rfl) Q8)) (by decide)) (Qx.refl St.sub) St (fun _ F1 H1 x1 S1=>RS (i:=0) (j:=3) DJ rfl (Qv (Qt rfl) Q3) (X_hleave.mk hk hn) WS (fun F' H'' e dct d hd x' he fl=>kk F' H'' e dct d hd x' he fl) x1 S1) (fun c=>nomatch c)
   case hth =>
    rintro _ e dx rfl
    dsimp only[List.set,List.replicate];refine QI (Zu (d:=.str "other") VM ?_)
    walk_at"d"
    refine QI (Zu (Ro (cs:=[q1,q2,q3,q4,q5,q6]) rfl (by show(6:Nat)<=1000;decide) XT.ka) ?_)
    walk_at"d"
    refine Z1 (b:=true) (Wv (b:=true) (c:=true) (ZV (Bb rfl rfl XB.k1)) (fun _=>Wv (b:=true) (c:=true) (ZV (Bb rfl rfl XB.k2)) (fun _=>YB (b:=false) (ZV (Qt rfl))))) (fun _=>?_) (fun c=>nomatch c);refine VY (r:=.ol [.int (k:Int)]) (Vi (ds:=[.int (k:Int)]) (QY (Ny rfl (fun _=>.int _)) Z7) YM) ?_
    walk_at"d"
    exact Gn rfl rfl
 |@got N k x h hx =>
   show Q1 K _ [some (.zow (QJ CH N)),some (.fz (.int 1)),some (.fz (.int (k:Int))),none,none,none] _;refine QI (Zu (d:=.none) Ww ?_)
   walk_at"d"
   refine QI (Dy fun E'=>Z1 (b:=false) (Ze.cast (Z5 (Yz (Qt rfl) Q8)) (by decide)) (fun c=>nomatch c) (fun _=>Z1 (b:=true) (Ze.cast (Z5 (Yz (Qt rfl) Q8)) (by decide)) (fun _=>Zu (WT Gj rfl (Qv (Qt rfl) Q3) (R_hgot.mk h hx) WS) ?_) (fun c=>nomatch c)))
   walk_at"d"
   exact Vg (Qt rfl) rfl
 |@rest N k z h =>
   show Q1 K _ [some (.zow (QJ CH N)),some (.fz (.int 2)),some (.fz (.int (k:Int))),none,none,none] _;refine QI (Zu (d:=.none) Ww ?_)
   walk_at"d"
   refine QI (Dy fun E'=>Z1 (b:=false) (Ze.cast (Z5 (Yz (Qt rfl) Q8)) (by decide)) (fun c=>nomatch c) (fun _=>Z1 (b:=false) (Ze.cast (Z5 (Yz (Qt rfl) Q8)) (by decide)) (fun c=>nomatch c) (fun _=>Zu (WT Gu rfl (Qv (Qt rfl) Q3) (R_hrest.mk h) WS) ?_)))
   walk_at"d"
   exact Vg (Qt rfl) rfl
def stD (n:Nat)(gs:List Gs)(gv:Ql)(go:Qk):Qd:=[.int (n:Int),.list (ZW ((List.range gs.length).filter fun k => !decide (rsT gs gv go k=0))),.list ((List.range gs.length).map fun k=>PyData.tuple [.int (gv.getD k 0),.int (rsT gs gv go k)])]
inductive R_lstate (CH:Addr):List OT->(OT->Prop)->Prop
 |mk {y:Yd} {n:Nat} {gs:List Gs} {gv:Ql} {go:Qk} {ms:List QX} (vl:gv.length=gs.length) (g8:gs.length<=8) (ml:ms.length<=8):R_lstate CH [.zow (QJ CH (hT y n gs gv go ms)),.fz (.int (gs.length:Int))] (fun r=>r=.zow (StZ (stD n gs gv go) ms))
def DW {n:Nat}:ZK 0 ((n:Int)).toNat=(List.range n).map fun(k:Nat)=>PyData.int (k:Int):=by
 rw[XS];unfold ZK;exact U9 fun i _=>by rw[YI]
def Pz:Qp ["_law_hand","_law_many","_law_some"] Zax (Q0 BR):=by walk_at"p"
def AS (T:Bl mg) (UH:HandC K CH) (D:Df K mg "_law_state" BR Zax) (Xa6:Vf P w K mg base CH "got" Zab 4 (Yg K CQ "number" (R_hgot CH) (X_hnum CH))) (Xa0:Vf P w K mg base CH "rest" Zab 4 (Yg K CQ "number" (R_hrest CH) (X_hnum CH))) (XbM:Zv P w K mg base CH "now" Zal 1 (Zg K (R_hnow CH))) (XbN:Zv P w K mg base CH "open_ones" Zal 5 (Zg K (R_hopen CH))) (XbO:Zv P w K mg base CH "gifts" Zal 1 (Zg K (R_hgifts CH))) :
 QD P w K mg base "_law_state" Zax 6 (Zg K (R_lstate CH)):=by
 refine D.evD Pz (fun ts Φ h=>by cases h;rfl) (fun _ _ _ _ s H E ts Φ hr h=>?_)
 cases h with
 |@mk y n gs gv go ms vl g8 ml =>
   refine⟨_,(Q5 (Sq (i:=2) Pz.nd rfl rfl (NX:=["_law_hand","_law_many","_law_some"]) (sc:=Q0 BR) (N:=Zam) (f:=[none,some 0]) rfl (by decide +kernel) rfl rfl (V6 rfl T.range (Qo (pv 1) Qr)) (fun _=>(Zr (i:=0) (show(Zam:Qh).Nodup by decide +kernel) rfl Qa)) (fun _=>V5) (fun _=>YE) (fun _=>(Yy (Qo (Vs Xa6 UH hr (Jm (C:=CQ)) (pv 1) (Qo (pv 0) Qr)) (Qo (Vs Xa0 UH hr (Jm (C:=CQ)) (pv 1) (Qo (pv 0) Qr)) Qr)))) rfl)
 (Q4 (QU (Z4 (Qo (J4 XbM UH hr (pv 0)) (Qo (J4 XbN UH hr (pv 0)) (Qo (pv 2) (Qo (J4 XbO UH hr (pv 0)) Qr)))))))),?_⟩
   show Q1 K _ [some _,some _,none] _
   walk_at"x"
   refine QI (VY (Jr (xs:=List.range gs.length) (enc:=fun(k:Nat)=>PyData.int (k:Int)) (h:=fun(k:Nat)=>PyData.tuple [.int (gv.getD k 0),.int (rsT gs gv go k)]) ?ei (by rw[U6];omega) ?el) ?_)
   case ei=>exact EvI.cast (VD (Qv (Qt rfl) Q3) (by rw[z62];omega) (by rw[z62];omega)) DW
   case el =>
    intro k hk c;have hk:=XU.mp hk;refine⟨_,Z2,?_⟩
    walk_at"e"
    exact YC (QY (WT Gj rfl (Qv (Qt rfl) Q3) (R_hgot.mk (by simp[hT,hk]) (Ur hk vl)) J0) (QY (WT Gu rfl (Qv (Qt rfl) Q3) (R_hrest.mk (Gq vl hk)) J0) Z7)) Wr
   walk_at"d"
   refine UT 2 rfl ?_
   walk_at"d"
   refine Cc (FS Th rfl Q3 R_hnow.mk) (Qu.cast (EvO.fz (Zl.o (WV L6 rfl Q3 (R_hopen.mk (N:=hT y n gs gv go ms) (rsT gs gv go) (fun k hk=>Gq vl (by simpa [hT] using hk)) (by show(gs.map QK).length<=1000;rw[Xm];omega))))) ?op) (Qt rfl) (WV CY rfl Q3 (R_hgifts.mk (N:=hT y n gs gv go ms) (by show ms.length<=1000;omega))) rfl
   case op =>
    show PyData.list (ZW ((List.range (gs.map QK).length).filter fun j => !decide (rsT gs gv go j=0)))=_;rw[Xm]
def SU (s:Str) (h:s = "in" \/ s = "room"):Vm (.str s):=by rcases h with rfl|rfl<;>exact⟨by decide +kernel,XN _⟩
def Sa {gs:List Gs}{k:Nat}:rsT gs (List.replicate gs.length 0) [] k=(gs.getD k default).want:=by
 unfold rsT;rw[Xb (by simp)];have:(List.replicate gs.length (0:Int)).getD k 0=0:=by
  rw[List.getD,Me];split<;>rfl
 rw[this,Int.sub_zero]
def Lo (n:Nat)(gs:List Gs)(gv:Ql)(go:Qk):∀d∈stD n gs gv go,Vm d:=fun d hd=>by
 unfold stD at hd;simp only[Xe,XM,or_false]at hd;rcases hd with rfl|rfl|rfl
 ·exact(Jt _ 0).fine (by decide)
 ·exact Rk _
 ·exact(Ue (MU fun k=>Au (m:=0) (Gx (Jt _ 0) (Gx (Jt _ 0) Bf)))).fine (by decide)
def TM {m:Nat}{far:Int}(h0:0<=far){d:PyData}(h:d∈[PyData.int (-1),.int (-1-far),.int (m:Int),.int ((m:Int)+far),.int ((m:Int)+1)]):∃z:Int,d=.int z/\(z<0\/(m:Int)<=z):=by
 simp only[Xe,XM,or_false]at h;rcases h with rfl|rfl|rfl|rfl|rfl
 ·exact⟨_,rfl,.inl (by omega)⟩
 ·exact⟨_,rfl,.inl (by omega)⟩
 ·exact⟨_,rfl,.inr (by omega)⟩
 ·exact⟨_,rfl,.inr (by omega)⟩
 ·exact⟨_,rfl,.inr (by omega)⟩
def VB:Qp Zaa ["_law_script"] (Q0 YA):=by walk_at"p"
def Ty {f:Addr} {fd:FuncData} (T:Bl mg) (UH:HandC K CH) (F:Fun K "law" "law" YA f fd) (Xbj:QD P w K mg base "_law_cell_at" Zav 1 (QQ (K:=K) R_cell)) (Xbs:QD P w K mg base "_law_feed" ["_law_cell"] 1 (Zg K R_feed)) (XbP:QD P w K mg base "_law_yard" ZaO 2 (spP K olP R_dyard)) (XbQ:QD P w K mg base "_law_guest" Zai 2 (spP K olP R_dguest)) (XbR:M6 P w K mg base "Hand" CH ZaH 1)
 (XbS:QD P w K mg base "_law_come" Zau 9 (GK K CH R_lcome (X_lcome CH))) (XbT:Zv P w K mg base CH "turn" Zal 7 (spP K (QM CH) R_hturn)) (Xbt:QD P w K mg base "_law_state" Zax 6 (Zg K (R_lstate CH))) (Xbd:QD P w K mg base "_law_asked" Zap 5 (Zg K (R_lask CH))) (Xa6:Vf P w K mg base CH "got" Zab 4 (Yg K CQ "number" (R_hgot CH) (X_hnum CH))) (Xbi:Vf P w K mg base CH "leave" Zab 4 (GO K CH CQ "number" R_hleave (X_hleave CH))) :
 FnOk P w K mg base CX0 10 f fd ["_law_script"] (Bh K):=by
 refine F.evLaw VB (fun cdv A outer s H E ns hr hl hb=>?_);have hu:=hr.units;refine⟨_,(Q5 (QW (i:=1) VB.nd rfl Qa (QF XbP hr (Qo (QF Xbs hr (Qo (QF Xbj hr (Qo (pv 0) (Qo Qy Qr))) Qr)) Qr)))
 (Q5 (QW (i:=2) VB.nd rfl (Or.inr rfl) (Cq XbR hr (Qo (pv 1) Qr)))
 (Q5 (QW (i:=3) VB.nd rfl Qa Qy)
 (Q5 (Vr PassesOwn.never rfl (V6 rfl T.range (Qo (Za Wc (QF Xbj hr (Qo (pv 0) (Qo Qy Qr))) Qy) Qr)) (Zr (i:=4) VB.nd rfl Qa) (Q5 (QW (i:=5) VB.nd rfl Qa (QF XbQ hr (Qo (QF Xbs hr (Qo (QF Xbj hr (Qo (pv 0) (Qo (Za Vz Qy (pv 4)) Qr))) Qr)) (Qo (pv 1) (Qo Qy Qr)))))
 (Q4 (QW (i:=3) VB.nd rfl Qa (Za Vz (pv 3) (J7 NP (by rfl) T.int MW (Qo (Bp (Bc hu) (QO QN (QF XbS hr (Qo (pv 2) (Qo (pv 5) Qr))) Qy) VO (ZA _)) Qr)))))))
 (Q5 (QW (i:=6) VB.nd rfl Qa (Za Uy (QF Xbj hr (Qo (pv 0) (Qo Qy Qr))) Qy))
 (Q5 (Vr PassesOwn.never rfl (V6 rfl T.range (Qo (Za Wc (pv 6) (Za Vz (QO QN (pv 1) Qy) Qy)) Qr)) (Zr (i:=4) VB.nd rfl Qa) (Q4 (Zo (J4 XbT UH hr (pv 2)))))
 (Q5 (QW (i:=7) VB.nd rfl Qa (Za Wc (Za Uy (pv 6) Qy) (Za Bk Qy Qy)))
 (Q5 (Vr PassesOwn.never rfl (V6 rfl T.range (Qo Qy Qr)) (Zr (i:=8) VB.nd rfl Qa) (Q5 (QW (i:=9) VB.nd rfl Qa (QF Xbt hr (Qo (pv 2) (Qo (pv 3) Qr))))
 (Q5 (Vr PassesOwn.never rfl (WQ (Z4 (Qo (MA Da Qy) (Qo (Za YD (MA Da Qy) (pv 7)) (Qo (pv 3) (Qo (Za Vz (pv 3) (pv 7)) (Qo (Za Vz (pv 3) Qy) Qr))))))) (Zr (i:=10) VB.nd rfl Qa) (Q4 (Vr PassesOwn.never rfl (V6 rfl T.range (Qo Qy Qr)) (Zr (i:=11) VB.nd rfl Qa) (Q4 (Zw (PW.pt (MD (ZS (NR hu) (QF Xbd hr (Qo (pv 2) (Qo (pv 11) (Qo (pv 10) Qr)))) (Z4 (Qo (pv 10) Qr)) (ZA _)) (Dp (ZS (Fe hu) (QF Xbt hr (Qo (pv 2) (Qo (pv 3) Qr))) (pv 9) (ZA _))))) (Q4 (QU YQ)) Z0)))))
 (Q4 (Zw (PW.pt (Jw (ZS JP (pv 8) Qy (ZA _)) (Uk (ZS WJ (pv 3) Qy (ZA _))))) (Q5 (QW (i:=10) VB.nd rfl Qa (Za Wc (pv 7) (pv 3)))
 (Q5 (QW (i:=12) VB.nd rfl Qa (Vs Xa6 UH hr (Jm (C:=CQ)) (pv 2) (Qo (pv 10) Qr)))
 (Q5 (Zw (PW.pt (MD (ZS GW (Vs Xbi UH hr (Jm (C:=CQ)) (pv 2) (Qo (pv 10) Qr)) (pv 12) (ZA _)) (Dp (ZS (NR hu) (QF Xbd hr (Qo (pv 2) (Qo Qy (Qo (pv 10) Qr)))) (Z4 (Qo (pv 10) Qr)) (ZA _))))) (Q4 (QU YQ)) Z0)
 (Q4 (Zw (PW.pt (MD (ZS GW (QF Xbd hr (Qo (pv 2) (Qo Qy (Qo (pv 10) Qr)))) (pv 12) (ZA _)) (Dp (ZS GW (QF Xbd hr (Qo (pv 2) (Qo Qy (Qo (pv 10) Qr)))) Qy (ZA _))))) (Q4 (QU YQ)) Z0))))) Z0)))))
 (Q4 (QU (Bp (Bc hu) (Y8 (NX:=Zaa) (sc:=Q0 YA) (N:=Zam) (f:=[none,some 2]) rfl (by decide +kernel) rfl rfl (V6 rfl T.range (Qo (pv 3) Qr)) (fun _=>(Zr (i:=0) (show(Zam:Qh).Nodup by decide +kernel) rfl Qa)) (fun _=>V5) (fun _=>YE) (fun _=>(QF Xbd hr (Qo (pv 1) (Qo Qy (Qo (pv 0) Qr)))))) (Y8 (NX:=Zaa) (sc:=Q0 YA) (N:=Zam) (f:=[none,some 2]) rfl (by decide +kernel) rfl rfl (V6 rfl T.range (Qo (pv 3) Qr)) (fun _=>(Zr (i:=0) (show(Zam:Qh).Nodup by decide +kernel) rfl Qa)) (fun _=>V5) (fun _=>YE) (fun _=>(Vs Xa6 UH hr (Jm (C:=CQ)) (pv 1) (Qo (pv 0) Qr)))) (ZA _)))))))))))),?_⟩
 show Q1 K _ [some _,none,none,none,none,none,none,none,none,none,none,none,none] _
 walk_at"x"
 refine QI (Wg (Pj (Φ:=fun r=>∃y:Yd,y.Ok/\r=.fz (Zi y)) (VR (Qv (Zf (UX rfl (Qv Q8 Q3)) (R_cell.mk (by decide))) Q3) R_feed.mk) Q3 (fun r hr'=>?_)) (fun r hr'=>?_))
 ·obtain⟨a,b,rfl⟩:=hr'
  exact⟨_,_,rfl,R_dyard.mk,fun r ds' ⟨y,ok,_,e⟩=>⟨y,ok,e⟩⟩
 obtain⟨y,ok,rfl⟩:=hr'
 walk_at"d"
 have t1:=ok.t1;have t8:=ok.t8;refine QI (Bv (Aj (Qt rfl)) (fun v=>?_))
 walk_at"d"
 refine QI (Zu Q8 ?_)
 walk_at"d"
 have n0:0<=Yl ns 1%9/\Yl ns 1%9<9:=by omega
 refine QI (V3 (ds:=ZK 0 (Yl ns 1%9).toNat) (fun i ρ'=>∃(gs:List Gs) (u4 u5:Option OT),gs.length<=i/\(∀g∈gs,G30 y g)/\ρ'=[some (.scr ns),some (.fz (Zi y)),some (.own v (QM CH (hT y 0 gs (List.replicate gs.length 0) [] []))),some (.fz (.int (gs.length:Int))),u4,u5,none,none,none,none,none,none,none]) ?ei ⟨[],_,_,Xs _,(fun g hg=>nomatch hg),rfl⟩ ?st ?fin)
 case ei=>exact VD (Qv (ZE (Zf (UX rfl (Qv Q8 Q3)) (R_cell.mk (by decide))) Q8 (by decide)) Q3) (by rw[z62];omega) (by rw[z62];omega)
 case st =>
  rintro i d _ hd ⟨gs,u4,u5,gl,hg,rfl⟩
  obtain⟨hi,rfl⟩:=Y2 hd;have hi:i<(Yl ns 1%9).toNat:=hi;have l7:gs.length<=7:=by omega
  refine⟨_,Z2,?_⟩
  walk_at"d"
  rw[YI];refine QI (Wg (Pj (Φ:=fun r=>∃g:Gs,G30 y g/\r=.fz (QK g)) (VR (Qv (Zf (UX rfl (Qv (Z8 Q8 (Qt rfl)) Q3)) (R_cell.mk (by omega))) Q3) R_feed.mk) (Qv (Qt rfl) (Qv Q8 Q3)) (fun r hr'=>?_)) (fun r hr'=>?_))
  ·obtain⟨a,b,rfl⟩:=hr'
   exact⟨_,_,rfl,R_dguest.mk ok,fun r ds' z=>z⟩
  obtain⟨g,gk,rfl⟩:=hr'
  walk_at"d"
  have zl:(List.replicate gs.length (0:Int)).length=gs.length:=List.length_replicate
  have h0:∀k,k<gs.length->0<=rsT gs (List.replicate gs.length 0) [] k:=fun k hk=>by
   rw[Sa];have:=(hg (gs.getD k default) (by simp[hk])).ok.w1;omega
  have fin:=SU "in" (.inl rfl);have frm:=SU "room" (.inr rfl)
  have hs:∀{te ti:TE} {rp:R2} {rq:R2} {rc:List V->Hp->VK->Prop} {ρ:Q6} {z:OT},ρ[3]?=some (some z)->∀(H0 F:Hp) (σ:St) (H:Hp) (E:Ends),Q9 K H0 F ρ σ H->(∀Q:VK,(∀w H1,(ZJ (tOp rp (QB 3) (tCB rc (QE (tOp rq (tC w) ti) QP))) (ZC 3)) E σ H1->Q w H1)->te σ H Q)->(ZJ (tOp rp (QB 3) (tCB rc (QE (tOp rq te ti) QP))) (ZC 3)) E σ H:=fun{te ti rp rq rc ρ z} e3 H0 F σ H E S k=>by
   obtain⟨fp,h,_⟩:=S.fp;obtain⟨x,e1,_⟩:=h 3 _ e3
   exact⟨x,e1,k _ fun w H1 ⟨x',e2,q⟩=>by rw[e1]at e2;cases e2;exact q⟩
  by_cases hS:∀S,Vy y (QG (mT 0 gs (List.replicate gs.length 0) []++[g])) S<=0
  ·refine Dz (i:=2) (s:=fun te=>ZJ (tOp _ (QB 3) (tCB _ (QE (tOp _ te _) QP))) (ZC 3)) (Θ:=fun d o=>d=.str "in" /\ o=.own v (QM CH (hT y 0 (gs++[g]) (List.replicate gs.length 0++[0]) [] []))) (Sk rfl (Qv (Qt rfl) Q3) (.inl ⟨_,R_lcome.mk (ms:=[]) ok hg gk zl (XN _) h0 l7 hS,?_⟩)) (hs rfl) ?_
   ·rintro r N' ⟨rfl,rfl⟩
    exact⟨_,_,_,rfl,rfl,rfl,rfl⟩
   rintro d w o ⟨rfl,rfl⟩ hf
   cases hf
   walk_at"d"
   refine Zu (d:=.int (gs.length+1)) (Qu.cast (Z8 (Qt rfl) (Bm (b:=true) (Qu.cast (UZ (a:=.str "in") (b:=.str "in") VM VM fin fin) (by rw[Uv fin])))) rfl) ?_
   walk_at"d"
   have e1:List.replicate gs.length (0:Int)++[0]=List.replicate (gs++[g]).length 0:=by
    rw[Xo,List.length_singleton,List.replicate_succ']
   have e2:(gs.length:Int)+1=((gs++[g]).length:Int):=by rw[Xo];rfl
   rw[e1,e2];refine⟨gs++[g],_,_,by rw[Xo];show gs.length+1<=_;omega,fun x hx=>?_,rfl⟩
   rcases XG.mp hx with hx|hx
   ·exact hg x hx
   ·rw[Xh.mp hx];exact gk
  ·obtain⟨S0,hS0⟩:∃S,0<Vy y (QG (mT 0 gs (List.replicate gs.length 0) []++[g])) S:=Classical.byContradiction fun c=>hS fun S=>Int.not_lt.mp fun z=>c ⟨S,z⟩
   refine Dz (i:=2) (s:=fun te=>ZJ (tOp _ (QB 3) (tCB _ (QE (tOp _ te _) QP))) (ZC 3)) (Θ:=fun d o=>d=.str "room" /\ o=.own v (QM CH (hT y 0 gs (List.replicate gs.length 0) [] []))) (Sk rfl (Qv (Qt rfl) Q3) (.inr ⟨_,X_lcome.mk (CH:=CH) (ms:=[]) ok hg gk zl (XN _) h0 l7 hS0,?_⟩)) (hs rfl) ?_
   ·rintro r ⟨v',S,_,rfl⟩
    exact⟨_,_,_,_,rfl,rfl,rfl,rfl⟩
   rintro d w o ⟨rfl,rfl⟩ hf
   cases hf
   walk_at"d"
   refine Zu (d:=.int (gs.length:Int)) (Qu.cast (Z8 (Qt rfl) (Bm (b:=false) (Qu.cast (UZ (a:=.str "room") (b:=.str "in") VM VM frm fin) (X0 PyData.bool (by decide +kernel))))) (by show PyData.int ((gs.length:Int)+0)=_;rw[UF])) ?_
   walk_at"d"
   exact⟨gs,_,_,by omega,hg,rfl⟩
 case fin =>
  rintro _ ⟨gs,u4,u5,gl,hg,rfl⟩
  rw[W2]at gl;have g8:gs.length<=8:=by omega
  clear gl n0;refine QI (Zu (ZE (Zf (UX rfl (Qv Q8 Q3)) (R_cell.mk (by decide))) Q8 (cdl (by decide) (by decide))) ?_)
  walk_at"d"
  generalize Yl ns 1/9=c;have h00:∀k,k<gs.length->0<=rsT gs (List.replicate gs.length 0) [] k:=fun k hk=>by
   rw[Sa];have:=(hg (gs.getD k default) (by simp[hk])).ok.w1;omega
  have c1:0<=c%((y.T:Int)+1):=UI _ (by omega);have c2:c%((y.T:Int)+1)<(y.T:Int)+1:=GH _ (by omega);refine QI (V3 (ds:=ZK 0 (c%((y.T:Int)+1)).toNat) (fun t ρ'=>∃(gv:Ql) (ms:List QX) (u4:Option OT),gv.length=gs.length/\(∀k,k<gs.length->0<=rsT gs gv [] k)/\ms.length=t/\(∀k∈ms,JT k)/\ρ'=[some (.scr ns),some (.fz (Zi y)),some (.own v (QM CH (hT y t gs gv [] ms))),some (.fz (.int (gs.length:Int))),u4,u5,some (.fz (.int c)),none,none,none,none,none,none]) ?ei2 ⟨_,[],_,List.length_replicate,h00,rfl,(fun k hk=>nomatch hk),rfl⟩ ?st2 ?fin2)
  case ei2=>exact VD (Qv (ZE (Qt rfl) (Z8 (WL (ds:=[PyData.int (y.T:Int),.tuple (y.ls.map Y4)]) (Qt rfl) Q8 rfl) Q8) (show(0:Int)<(y.T:Int)+1 by omega)) Q3) (by rw[z62];omega) (by rw[z62];omega)
  case st2 =>
   rintro t d _ hd ⟨gv,ms,u4,vl,h0,ml,mf,rfl⟩
   obtain⟨ht,rfl⟩:=Y2 hd;have ht:t<(c%((y.T:Int)+1)).toNat:=ht;have ht':t<y.T:=by omega
   refine⟨_,Z2,?_⟩
   walk_at"d"
   refine Cj Fh rfl Q3 (R_hturn.mk ok hg vl ht' h0 g8 (by omega)) ?_
   rintro r N' ⟨φ,v3,full,rfl,rfl⟩
   walk_at"d"
   refine⟨_,_,_,Fi _ _ _ _,A5 full ht',by rw[Xo,ml];rfl,fun k hk=>?_,rfl⟩
   rcases XG.mp hk with hk|hk
   ·exact mf k hk
   ·rw[Xh.mp hk];exact F7 _ _
  case fin2 =>
   rintro _ ⟨gv,ms,u4,vl,h0,ml,mf,rfl⟩
   rw[W2]at ml ⊢;have m8:ms.length<=8:=by omega
   generalize (c%((y.T:Int)+1)).toNat=n at ml;clear c1 c2 ml h0 h00;refine QI (Zu (ZE (ZE (Qt rfl) Q8 (cdl (by decide) (by decide))) (ZE Q8 Q8 (UQ (by decide) (by decide))) K9) ?_)
   walk_at"d"
   obtain⟨far,hfar⟩:∃far:Nat,c/9%10^(30:Int).toNat=(far:Int):=⟨(c/9%10^(30:Int).toNat).toNat,(XZ (UI _ (by decide +kernel))).symm⟩;rw[hfar];have kl:∀go:Qk,(hT y n gs gv go ms).known.length=gs.length:=fun go=>by simp[hT]
   refine QI (V3 (ds:=ZK 0 2) (fun i ρ'=>∃(go:Qk) (u0 u1 u4 u5 u6 u8 u9 u10 u11 u12:Option OT),(i=0->go=[])/\ρ'=[u0,u1,some (.own v (QM CH (hT y n gs gv go ms))),some (.fz (.int (gs.length:Int))),u4,u5,u6,some (.fz (.int (far:Int))),u8,u9,u10,u11,u12]) (VD (Qv Q8 Q3) (by rw[z62];decide) (by rw[z62];decide)) ⟨[],_,_,_,_,_,_,_,_,_,_,fun _=>rfl,rfl⟩ ?st3 ?fin3)
   case st3 =>
    rintro i d _ hd ⟨go,u0,u1,u4,u5,u6,u8,u9,u10,u11,u12,hgo,rfl⟩
    obtain⟨hi,rfl⟩:=Y2 hd;refine⟨_,Z2,?_⟩
    walk_at"d"
    rw[YI];have lst:∀{ρ:Q6} {E':XK},ρ[2]?=some (some (.zow (QJ CH (hT y n gs gv go ms))))->ρ[3]?=some (some (.fz (.int (gs.length:Int))))->Zl K (VA (Zg K (R_lstate CH)) [] E' (QE (QB 2) (QE (QB 3) QP))) ρ (fun r=>r=.zow (StZ (stD n gs gv go) ms)):=fun e2 e3=>VR (WO e2 (Qv (Qt e3) Q3)) (R_lstate.mk vl g8 m8)
    apply Cp
    refine QI (CT 2 rfl (M:=fun ρ'=>∃(u0 u1 u4 u5 u6 u9 u10 u11 u12:Option OT),ρ'=[u0,u1,some (.zow (Wn v (QJ CH (hT y n gs gv go ms)))),some (.fz (.int (gs.length:Int))),u4,u5,u6,some (.fz (.int (far:Int))),some (.fz (.int (i:Int))),u9,u10,u11,u12]) ?blk ?bhn)
    case blk =>
     walk_at"d"
     refine QI (Wg (FY 2 rfl (lst rfl rfl)) ?_)
     rintro r rfl
     walk_at"d"
     refine V3 (fun i' ρ'=>∃(u10 u11:Option OT),ρ'=[u0,u1,some (.zow (Wn v (QJ CH (hT y n gs gv go ms)))),some (.fz (.int (gs.length:Int))),u4,u5,u6,some (.fz (.int (far:Int))),some (.fz (.int (i:Int))),some (.zow (StZ (stD n gs gv go) ms)),u10,u11,u12]) (JX (ds:=[PyData.int (-1),.int (-1-(far:Int)),.int (gs.length:Int),.int ((gs.length:Int)+far),.int ((gs.length:Int)+1)]) (EvO.fz (Vi (QY (Mq (g:=fun i => -i) (x:=1) Q8) (QY (Z8 (Mq (g:=fun i => -i) (x:=1) Q8) (Qt rfl)) (QY (Qt rfl) (QY (Z8 (Qt rfl) (Qt rfl)) (QY (Z8 (Qt rfl) Q8) Z7))))) (by show(5:Nat)<=1000;decide)))) ⟨_,_,rfl⟩ ?st4 ?fin4
     case fin4 =>
      rintro _ ⟨u10,u11,rfl⟩
      exact⟨_,_,_,_,_,_,_,_,_,rfl⟩
     case st4 =>
      rintro i' d _ hd ⟨u10,u11,rfl⟩
      obtain⟨z,rfl,hz⟩:=TM (by omega) (List.mem_of_getElem? hd);have hz':z<0\/((hT y n gs gv go ms).known.length:Int)<=z:=by rw[kl];exact hz
      refine⟨_,Z2,?_⟩
      walk_at"d"
      refine V3 (ds:=ZK 0 3) (fun i2 ρ'=>∃(u11:Option OT),ρ'=[u0,u1,some (.zow (Wn v (QJ CH (hT y n gs gv go ms)))),some (.fz (.int (gs.length:Int))),u4,u5,u6,some (.fz (.int (far:Int))),some (.fz (.int (i:Int))),some (.zow (StZ (stD n gs gv go) ms)),some (.fz (.int z)),u11,u12]) (VD (Qv Q8 Q3) (by rw[z62];decide) (by rw[z62];decide)) ⟨_,rfl⟩ ?st5 ?fin5
      case fin5 =>
       rintro _ ⟨u11,rfl⟩
       exact⟨_,_,rfl⟩
      case st5 =>
       rintro w d _ hd ⟨u11,rfl⟩
       obtain⟨hw,rfl⟩:=Y2 hd;have hw:w<3:=hw;refine⟨_,Z2,?_⟩
       walk_at"d"
       rw[YI];have fo:Vm (.list [.int z]):=(Ue (m:=0) (Gx (Jt _ 0) Bf)).fine (by decide);exact Z1 (b:=false) (FH 2 rfl (GU (b:=false) (c:=false) (Ze.cast (Z5 (MF (a:=.list [.int z]) (b:=.list [.int z]) (EvO.fz (Zl.o (VR (WO rfl (Qv (Qt rfl) (Qv (Qt rfl) Q3))) (R_lask.bad hw hz')))) (EvO.fz (Vi (QY (Qt rfl) Z7) YM)) fo fo)) (by rw[Uv fo];rfl)) (fun _=>Z5 (Lj (Lo n gs gv go) mf (lst rfl rfl) rfl)))) (fun c=>nomatch c) (fun _=>ZI ⟨_,rfl⟩)
    case bhn =>
     rintro _ ⟨u0,u1,u4,u5,u6,u9,u10,u11,u12,rfl⟩
     refine⟨rfl,[none,none,some (.own v (QM CH (hT y n gs gv go ms))),some (.fz (.int (gs.length:Int))),none,none,none,some (.fz (.int (far:Int))),some (.fz (.int (i:Int))),none,none,none,none],rfl,rfl,fun j o hj ej=>?_,?_⟩
     ·match j,hj,ej with
      |3,_,ej=>cases ej;exact⟨rfl,W5 rfl⟩
      |7,_,ej=>cases ej;exact⟨rfl,W5 rfl⟩
      |8,_,ej=>cases ej;exact⟨rfl,W5 rfl⟩
      |2,hj,_=>exact Xl rfl hj
      |0,_,ej|1,_,ej|4,_,ej|5,_,ej|6,_,ej|9,_,ej|10,_,ej|11,_,ej|12,_,ej=>cases ej
      |j+13,_,ej=>simp at ej
     ·refine Z1 (b:=decide ((i:Int)=0)&&decide ((gs.length:Int) > 0)) (Wv (Z5 (Yz (Qt rfl) Q8)) (fun _=>Z5 (Wb (Qt rfl) Q8))) (fun cc=>?_) (fun _=>ZI ⟨go,_,_,_,_,_,_,_,_,_,_,fun z=>Xl z (Nat.succ_ne_zero _),rfl⟩)
      simp only[JA,decide_eq_true_eq]at cc;obtain rfl:=hgo (by omega);have gp:(0:Int)<(gs.length:Int):=cc.2;obtain⟨k,hke⟩:∃k:Nat,(far:Int)%(gs.length:Int)=(k:Int):=⟨((far:Int)%(gs.length:Int)).toNat,(XZ (UI _ (by omega))).symm⟩
      have hk:k<gs.length:=by
       have:=GH (far:Int) gp
       omega
      refine QI (Zu (d:=.int (k:Int)) (Qu.cast (ZE (Qt rfl) (Qt rfl) gp) (by show PyData.int ((far:Int)%(gs.length:Int))=_;rw[hke])) ?_)
      walk_at"d"
      refine QI (Zu (d:=.int (gv.getD k 0)) (Ut 2 rfl rfl (WT Gj rfl (Qv (Qt rfl) Q3) (R_hgot.mk (by simp[hT,hk]) (Ur hk vl)) J0)) ?_)
      walk_at"d"
      have fo:Vm (.list [.int (k:Int)]):=(Ue (m:=0) (Gx (Jt _ 0) Bf)).fine (by decide);refine QI (Dz (i:=2) (s:=fun te=>UM (tOr (GZ (tOp _ te _)) _) _ _) (Θ:=fun d o=>d=.int (gv.getD k 0)/\o=.own v (QM CH (hT y n gs gv [k] ms))) (AZ DJ rfl (Qv (Qt rfl) Q3) (R_hleave.mk hk vl (by simp) (XN _)) J0 ?_) (fun _ _ _ _ _ _ h=>h _ fun _ _ z=>z) ?_)
      ·rintro r N' ⟨rfl,rfl⟩
       exact⟨_,_,rfl,rfl,rfl,rfl⟩
      rintro d w o ⟨rfl,rfl⟩ hf
      cases hf
      walk_at"d"
      refine Z1 (b:=false) (G0 2 rfl (GU (b:=false) (c:=false) (Ze.cast (Z5 (UY Q8 (Qt rfl))) (by rw[XV rfl];rfl)) (fun _=>Ze.cast (Z5 (MF (a:=.list [.int (k:Int)]) (b:=.list [.int (k:Int)]) (EvO.fz (Zl.o (VR (WO rfl (Qv Q8 (Qv (Qt rfl) Q3))) (R_lask.gone hk (List.mem_singleton_self k))))) (EvO.fz (Vi (QY (Qt rfl) Z7) YM)) fo fo)) (by rw[Uv fo];rfl)))) (fun c=>nomatch c) (fun _=>ZI ?_);have rs0:rsT gs gv [k] k=0:=by unfold rsT;rw[Xd (List.mem_singleton_self k)]
      exact Z1 (b:=false) (G0 2 rfl (GU (b:=false) (c:=false) (Ze.cast (Z5 (UY (EvO.e (Zl.o (VR (WO rfl (Qv Q8 (Qv (Qt rfl) Q3))) (R_lask.got (by simp[hT,hk]) (Ur hk vl))))) (Qt rfl))) (by rw[XV rfl];rfl)) (fun _=>Ze.cast (Z5 (UY (EvO.e (Zl.o (VR (WO rfl (Qv Q8 (Qv (Qt rfl) Q3))) (R_lask.rest (Gq vl hk))))) Q8)) (by rw[rs0];rfl)))) (fun c=>nomatch c) (fun _=>ZI ⟨[k],_,_,_,_,_,_,_,_,_,_,fun z=>Xl z (Nat.succ_ne_zero _),rfl⟩)
   case fin3 =>
    rintro _ ⟨go,u0,u1,u4,u5,u6,u8,u9,u10,u11,u12,_,rfl⟩
    have ge:((List.range gs.length).map fun(k:Nat)=>PyData.int (gv.getD k 0))=gv.map PyData.int:=by
     apply List.ext_getElem?
     intro i;by_cases h:i<gs.length
     ·simp[h,vl]
     ·simp[h,vl]
    refine Vg (Qu.cast (Ut (d:=.bool true) 2 rfl rfl (Qu.cast (UZ (a:=.list (gv.map PyData.int)) (b:=.list (gv.map PyData.int)) (EvO.fz (EvO.cast (Jr (xs:=List.range gs.length) (enc:=fun(k:Nat)=>PyData.int (k:Int)) (h:=fun(k:Nat)=>PyData.int (gv.getD k 0)) ?ei6 (by rw[U6];omega) ?el6) (by rw[ge]))) (EvO.fz (EvO.cast (Jr (xs:=List.range gs.length) (enc:=fun(k:Nat)=>PyData.int (k:Int)) (h:=fun(k:Nat)=>PyData.int (gv.getD k 0)) ?ei7 (by rw[U6];omega) ?el7) (by rw[ge]))) (Bw _) (Bw _)) (by rw[Uv (Bw _)]))) rfl) rfl
    case ei6=>exact EvI.cast (VD (Qv (Qt rfl) Q3) (by rw[z62];omega) (by rw[z62];omega)) DW
    case ei7=>exact EvI.cast (VD (Qv (Qt rfl) Q3) (by rw[z62];omega) (by rw[z62];omega)) DW
    case el6 =>
     intro k hk c;have hk:=XU.mp hk;refine⟨_,Z2,?_⟩
     walk_at"e"
     exact EvO.e (Zl.o (VR (WO rfl (Qv Q8 (Qv (Qt rfl) Q3))) (R_lask.got (by simp[hT,hk]) (Ur hk vl))))
    case el7 =>
     intro k hk c;have hk:=XU.mp hk;refine⟨_,Z2,?_⟩
     walk_at"e"
     exact WT Gj rfl (Qv (Qt rfl) Q3) (R_hgot.mk (by simp[hT,hk]) (Ur hk vl)) J0
end
inductive DH (K:W.Frag)(x:Str)(st:Stmt):Prop
 |mk {f:Addr} {oc kV dc pm cd ct:Value} {od an:Qj} {sl:Array (Qf)} (a:W.nsIn K mainGlobals x=some (some (.ref f))) (l:K.lookup f=some ⟨oc,od,.func (W.fnOf x x (Ya st) (Zx st) (Q0 st) .none kV dc pm an cd ct),sl⟩) (c:W.codeIn K cd x=true) (k:W.keepIn K (.ref f)=true):DH K x st
def DH.df {K:W.Frag}{h:Heap}{mg:Str->Qf}{x:Str}{st:Stmt}{ps:Qh}(X:K.In h)(G:h.Ns mainGlobals mg)(H:DH K x st)(hb:∀(z:Value×Value×Value×Qj×Value×Value) (us:Qe),us.length=ps.length->bindArgs (W.fnOf x x (Ya st) (Zx st) (Q0 st) .none z.1 z.2.1 z.2.2.1 z.2.2.2.1 z.2.2.2.2.1 z.2.2.2.2.2) ⟨us,[]⟩=pure (ps.zip us)):Df K mg x st ps:=by
 cases H with
 |mk a l c k=>exact⟨_,_,Wx l c k,W.mg_of X G a,(Wx l c k).binds fun kV dc pm an cd ct us hl=>hb (kV,dc,pm,an,cd,ct) us hl⟩
inductive MH (K:W.Frag)(C:Addr)(m q:Str)(st:Stmt):Prop
 |mk {f:Addr} {oc kV dc pm cd ct:Value} {od an:Qj} {sl:Array (Qf)} (a:W.findIn K (.ref C) m=some (some (.ref f))) (i:W.isFn K (.ref f)=true) (l:K.lookup f=some ⟨oc,od,.func (W.fnOf m q (Ya st) (Zx st) (Q0 st) .none kV dc pm an cd ct),sl⟩) (c:W.codeIn K cd q=true) (k:W.keepIn K (.ref f)=true):MH K C m q st
def MH.mf {K:W.Frag}{C:Addr}{m q:Str}{st:Stmt}{ps:Qh}(H:MH K C m q st)(hb:∀(z:Value×Value×Value×Qj×Value×Value) (us:Qe),us.length=ps.length->bindArgs (W.fnOf m q (Ya st) (Zx st) (Q0 st) .none z.1 z.2.1 z.2.2.1 z.2.2.2.1 z.2.2.2.2.1 z.2.2.2.2.2) ⟨us,[]⟩=pure (ps.zip us)):Mf K C m q st ps:=by
 cases H with
 |mk a i l c k=>exact⟨_,_,Wx l c k,⟨a,i,k⟩,(Wx l c k).binds fun kV dc pm an cd ct us hl=>hb (kV,dc,pm,an,cd,ct) us hl⟩
@[elab_as_elim] theorem ln1 {α:Type}{p:List α->Prop}{us:List α}(h:us.length=1)(k:∀a0,p [a0]):p us:=by
 match us,h with
 |[a0],_=>exact k a0
@[elab_as_elim] theorem ln2 {α:Type}{p:List α->Prop}{us:List α}(h:us.length=2)(k:∀a0 a1,p [a0,a1]):p us:=by
 match us,h with
 |[a0,a1],_=>exact k a0 a1
@[elab_as_elim] theorem ln3 {α:Type}{p:List α->Prop}{us:List α}(h:us.length=3)(k:∀a0 a1 a2,p [a0,a1,a2]):p us:=by
 match us,h with
 |[a0,a1,a2],_=>exact k a0 a1 a2
@[elab_as_elim] theorem ln4 {α:Type}{p:List α->Prop}{us:List α}(h:us.length=4)(k:∀a0 a1 a2 a3,p [a0,a1,a2,a3]):p us:=by
 match us,h with
 |[a0,a1,a2,a3],_=>exact k a0 a1 a2 a3
def Ztd {P:Program} {w:World} {K:W.Frag} {h:Heap} {mg:Str->Qf} {fa C gS gE:Addr} (X:K.In h) (G:h.Ns mainGlobals mg) (hfa:mg "law"=some (.ref fa))
 {cg ct:Addr}
 {CH:Addr}
 {YR CR fR:Addr} {odR anR:Qj} {slR:Array (Qf)} {kVR dcR pmR cdR ctR:Value}
 {q1 q2 q3 q4 q5 q6:Addr}
 {CQ fQ:Addr} {odQ anQ:Qj} {slQ:Array (Qf)} {kVQ dcQ pmQ cdQ ctQ:Value}
 {f38 f57 f58:Addr} {od38 an38 od57 an57 od58 an58 dS dE:Qj} {sl38 sl57 sl58 slS slE:Array (Qf)} {oc38 kV38 dc38 pm38 cd38 ct38 oc57 kV57 dc57 pm57 cd57 ct57 oc58 kV58 dc58 pm58 cd58 ct58:Value} {tS tE nS nE:Nat}
 (aC:W.nsIn K mainGlobals "Net"=some (some (.ref C)))
 (aH:W.nsIn K mainGlobals "Hand"=some (some (.ref CH)))
 (h0:DH K "is_whole" Kb)
 (h1:DH K "is_whole_within" Kt)
 (h2:DH K "is_amount" HN)
 (h3:DH K "is_tuple_of" Kf)
 (h4:DH K "is_guest" HX)
 (h5:DH K "turns_of" HY)
 (h6:DH K "line_count" Kd)
 (h7:DH K "above_of" HE)
 (h8:DH K "bound_at" Hx)
 (h9:DH K "line_of" Hm)
 (h10:DH K "is_there" Hw)
 (h11:DH K "want_of" Hn)
 (h12:DH K "most_of" Hr)
 (h13:DH K "with_want" HL)
 (h14:DH K "staying_from" Kr)
 (h15:DH K "guest_node" Kl)
 (h16:DH K "line_node" HM)
 (h17:DH K "lay_guest" HU)
 (h18:DH K "lay_turn" HD)
 (h19:DH K "filled_net" Kc)
 (h20:DH K "takes_by" BK)
 (h21:DH K "greatest_filling" BW)
 (h22:DH K "guests_reached" BY)
 (h23:DH K "reaching_at" BP)
 (h24:DH K "given_at" Hz)
 (h25:DH K "given_most" BV)
 (h26:DH K "short_of" BI)
 (h27:DH K "best_filling" Kp)
 (h28:DH K "lacking_set" Kj)
 (h29:DH K "refuse_lack" Kg)
 (h30:DH K "_law_cell_at" Kq)
 (h31:DH K "_law_feed" HJ)
 (h32:DH K "_law_digit" Kn)
 (h33:DH K "_law_yard" HI)
 (h34:DH K "_law_guest" BT)
 (h35:DH K "_law_come" GB)
 (h36:DH K "_law_asked" Km)
 (h37:DH K "_law_state" BR)
 (a38:W.nsIn K mainGlobals "law"=some (some (.ref f38)))
 (l38:K.lookup f38=some ⟨oc38,od38,.func (W.fnOf "law" "law" (Ya YA) (Zx YA) (Q0 YA) .none kV38 dc38 pm38 an38 cd38 ct38),sl38⟩)
 (c38:W.codeIn K cd38 "law"=true)
 (k38:W.keepIn K (.ref f38)=true)
 (m39:MH K C "lay" "Net.lay" Hf)
 (m40:MH K C "lay_one" "Net.lay_one" Kh)
 (m41:MH K C "flow" "Net.flow" HA)
 (m42:MH K C "reached" "Net.reached" Ki)
 (m43:MH K C "push" "Net.push" BN)
 (m44:MH K C "fill" "Net.fill" HZ)
 (m45:MH K C "way_to" "Net.way_to" Kk)
 (m46:MH K CH "now" "Hand.now" Ht)
 (m47:MH K CH "come" "Hand.come" HS)
 (m48:MH K CH "turn" "Hand.turn" HQ)
 (m49:MH K CH "leave" "Hand.leave" Ko)
 (m50:MH K CH "got" "Hand.got" HC)
 (m51:MH K CH "rest" "Hand.rest" HV)
 (m52:MH K CH "open_ones" "Hand.open_ones" BZ)
 (m53:MH K CH "gifts" "Hand.gifts" BU)
 (m54:MH K CH "still_there" "Hand.still_there" Kv)
 (m55:MH K CH "refuse_past" "Hand.refuse_past" Ku)
 (m56:MH K CH "refuse_number" "Hand.refuse_number" Kw)
 (a57:W.findIn K (.ref C) "__init__"=some (some (.ref f57)))
 (i57:W.isFn K (.ref f57)=true)
 (l57:K.lookup f57=some ⟨oc57,od57,.func (W.fnOf "__init__" "Net.__init__" (Ya U2) (Zx U2) (Q0 U2) .none kV57 dc57 pm57 an57 cd57 ct57),sl57⟩)
 (c57:W.codeIn K cd57 "Net.__init__"=true)
 (k57:W.keepIn K (.ref f57)=true)
 (a58:W.findIn K (.ref CH) "__init__"=some (some (.ref f58)))
 (i58:W.isFn K (.ref f58)=true)
 (l58:K.lookup f58=some ⟨oc58,od58,.func (W.fnOf "__init__" "Hand.__init__" (Ya U3) (Zx U3) (Q0 U3) .none kV58 dc58 pm58 an58 cd58 ct58),sl58⟩)
 (c58:W.codeIn K cd58 "Hand.__init__"=true)
 (k58:W.keepIn K (.ref f58)=true)
 (pg:W.plainGet K C Str.empty=true)
 (hd:W.hasDictIn K C=true)
 (po:W.plainOver K C=true)
 (sa:W.findIn K (.ref C) "__setattr__"=some (some (.builtin "object.__setattr__")))
 (mk:W.makesIn K C=true)
 (kc:W.keepIn K (.ref C)=true)
 (Hpg:W.plainGet K CH Str.empty=true)
 (Hhd:W.hasDictIn K CH=true)
 (Hpo:W.plainOver K CH=true)
 (Hsa:W.findIn K (.ref CH) "__setattr__"=some (some (.builtin "object.__setattr__")))
 (Hmk:W.makesIn K CH=true)
 (Hkc:W.keepIn K (.ref CH)=true)
 (Hn0:W.findIn K (.ref CH) "yard"=some none)
 (Hn1:W.findIn K (.ref CH) "present"=some none)
 (Hn2:W.findIn K (.ref CH) "known"=some none)
 (Hn3:W.findIn K (.ref CH) "given"=some none)
 (Hn4:W.findIn K (.ref CH) "gone"=some none)
 (Hn5:W.findIn K (.ref CH) "made"=some none)
 (n0:W.findIn K (.ref C) "ends"=some none)
 (n1:W.findIn K (.ref C) "rooms"=some none)
 (n2:W.findIn K (.ref C) "leaving"=some none)
 (n3:W.findIn K (.ref C) "laid"=some none)
 (aS:W.nsIn K mainGlobals "START"=some (some (.ref gS)))
 (lS:K.lookup gS=some ⟨.type "tuple",dS,.seq #[.str "start" tS] nS,slS⟩)
 (aE:W.nsIn K mainGlobals "END"=some (some (.ref gE)))
 (lE:K.lookup gE=some ⟨.type "tuple",dE,.seq #[.str "end" tE] nE,slE⟩)
 (rC:W.nsIn K mainGlobals "NoRoom"=some (some (.ref CR)))
 (rY:W.nsIn K mainGlobals "YardError"=some (some (.ref YR)))
 (rf:W.findIn K (.ref CR) "__init__"=some (some (.ref fR)))
 (rl:K.lookup fR=some ⟨.type "function",odR,.func (W.fnOf "__init__" "NoRoom.__init__" (Ya U4) (Zx U4) (Q0 U4) .none kVR dcR pmR anR cdR ctR),slR⟩)
 (rc:W.codeIn K cdR "NoRoom.__init__"=true)
 (rk:W.keepIn K (.ref fR)=true)
 (rx:Bi K CR fR=true)
 (rg:W.specialIn K (.ref YR) "__getattribute__"=some (some (.builtin "type.__getattribute__")))
 (rr:W.readsIn K YR (.type "type")=true)
 (ri:W.findCls K (.ref YR) (.type "type") "__init__"=some (.val (.builtin "ValueError.__init__")))
 (rs:W.findIn K (.ref CR) "__setattr__"=some (some (.builtin "object.__setattr__")))
 (ro:((W.clsIn K CR).any fun cd=>YU cd.mro)=true)
 (xa0:W.nsIn K mainGlobals "NoGuest"=some (some (.ref cg)))
 (xa1:W.nsIn K mainGlobals "NoTime"=some (some (.ref ct)))
 (xe:W.exmOne K (.ref CR) (.ref YR)=some true)
 (xp:W.findIn K (.ref CR) "__getattribute__"=some (some (.builtin "BaseException.__getattribute__")))
 (xn:W.findIn K (.ref CR) "some"=some none)
 (xq:W.findIn K (.ref CR) "__getattr__"=some none)
 (xb:W.mroIn K CR (.type "BaseException")=some true)
 (xc:W.findIn K (.ref CR) "__class__"=some (some (.builtin "object.__class__")))
 (xs:W.specialIn K (.builtin "object.__class__") "__get__"=some (some (.builtin "getset_descriptor.__get__")))
 (xt:W.takesIn K (.builtin "object.__class__")=some true)
 (xm:W.mroIn K CR (.type "object")=some true)
 (xk1:W.kitOne K (.ref CR) (.ref CR)=some true)
 (xk2:W.kitOne K (.ref CR) (.type "ValueError")=some true)
 (xk3:W.kitOne K (.ref CR) (.ref cg)=some false)
 (xk4:W.kitOne K (.ref CR) (.ref ct)=some false)
 (rd:W.hasDictIn K CR=true)
 (rt:W.takerIn K CR "some"=some none)
 (rK:W.keepIn K (.ref CR)=true)
 (qC:W.nsIn K mainGlobals "NoNumber"=some (some (.ref CQ)))
 (qf:W.findIn K (.ref CQ) "__init__"=some (some (.ref fQ)))
 (ql:K.lookup fQ=some ⟨.type "function",odQ,.func (W.fnOf "__init__" "NoNumber.__init__" (Ya U5) (Zx U5) (Q0 U5) .none kVQ dcQ pmQ anQ cdQ ctQ),slQ⟩)
 (qc:W.codeIn K cdQ "NoNumber.__init__"=true)
 (qk:W.keepIn K (.ref fQ)=true)
 (qx:Bi K CQ fQ=true)
 (qs:W.findIn K (.ref CQ) "__setattr__"=some (some (.builtin "object.__setattr__")))
 (qo:((W.clsIn K CQ).any fun cd=>YU cd.mro)=true)
 (qd:W.hasDictIn K CQ=true)
 (qt:W.takerIn K CQ "number"=some none)
 (qK:W.keepIn K (.ref CQ)=true)
 (qe:W.exmOne K (.ref CQ) (.ref YR)=some true)
 (qp:W.findIn K (.ref CQ) "__getattribute__"=some (some (.builtin "BaseException.__getattribute__")))
 (qn:W.findIn K (.ref CQ) "number"=some none)
 (qq:W.findIn K (.ref CQ) "__getattr__"=some none)
 (qb:W.mroIn K CQ (.type "BaseException")=some true)
 (qcl:W.findIn K (.ref CQ) "__class__"=some (some (.builtin "object.__class__")))
 (qm:W.mroIn K CQ (.type "object")=some true)
 (qa0:W.nsIn K mainGlobals "NoGuest"=some (some (.ref q1)))
 (qa1:W.nsIn K mainGlobals "NoRoom"=some (some (.ref q2)))
 (qa2:W.nsIn K mainGlobals "NoRow"=some (some (.ref q3)))
 (qa3:W.nsIn K mainGlobals "NoText"=some (some (.ref q4)))
 (qa4:W.nsIn K mainGlobals "NoTime"=some (some (.ref q5)))
 (qa5:W.nsIn K mainGlobals "NoYard"=some (some (.ref q6)))
 (qka:W.kitAny K (.ref CQ) [.ref q1,.ref q2,.ref q3,.ref q4,.ref q5,.ref q6]=some false)
 (qk1:W.kitOne K (.ref CQ) (.ref CQ)=some true)
 (qk2:W.kitOne K (.ref CQ) (.type "ValueError")=some true)
 (z0:W.nsIn K mainGlobals "abs"=some none)
 (z1:W.nsIn K mainGlobals "len"=some none)
 (z2:W.nsIn K mainGlobals "max"=some none)
 (z3:W.nsIn K mainGlobals "min"=some none)
 (z4:W.nsIn K mainGlobals "sum"=some none)
 (z5:W.nsIn K mainGlobals "any"=some none)
 (z6:W.nsIn K mainGlobals "all"=some none)
 (z7:W.nsIn K mainGlobals "isinstance"=some none)
 (z8:W.nsIn K mainGlobals "int"=some none)
 (z9:W.nsIn K mainGlobals "bool"=some none)
 (z10:W.nsIn K mainGlobals "list"=some none)
 (z11:W.nsIn K mainGlobals "tuple"=some none)
 (z12:W.nsIn K mainGlobals "range"=some none)
 (z13:W.nsIn K mainGlobals "zip"=some none)
 (z14:W.nsIn K mainGlobals "enumerate"=some none)
 (z15:W.nsIn K mainGlobals "dict"=some none)
 (z16:W.nsIn K mainGlobals "ValueError"=some none)
 : (∃gS gE,W.nsIn K mainGlobals "START"=some (some (.ref gS))/\W.nsIn K mainGlobals "END"=some (some (.ref gE))/\KTup K gS "start" /\ KTup K gE "end")/\∃fd:FuncData,(∀(s:Shared) (v:Value),BindsTo s fd ⟨[v],[]⟩ [("_law_script",v)])/\∀base:Heap,K.In base->base.Ns mainGlobals mg->FnOk P w K mg base CX0 10 fa fd ["_law_script"] (Bh K):=by
 have e:=hfa.symm.trans (W.mg_of X G a38)
 cases e
 have T:Bl mg:=⟨W.mg_none_of X G z0,W.mg_none_of X G z1,W.mg_none_of X G z2,W.mg_none_of X G z3,W.mg_none_of X G z4,W.mg_none_of X G z5,W.mg_none_of X G z6,W.mg_none_of X G z7,W.mg_none_of X G z8,W.mg_none_of X G z9,W.mg_none_of X G z10,W.mg_none_of X G z11,W.mg_none_of X G z12,W.mg_none_of X G z13,W.mg_none_of X G z14,W.mg_none_of X G z15,W.mg_none_of X G z16⟩;have U:Tx K mg C gS gE:=⟨⟨⟨pg,hd,po,sa⟩,n0,n1,n2,n3⟩,W.mg_of X G aS,W.mg_of X G aE,aS,aE⟩;have UH:HandC K CH:=⟨⟨Hpg,Hhd,Hpo,Hsa⟩,Hn0,Hn1,Hn2,Hn3,Hn4,Hn5⟩;have XR:XC K mg "NoRoom" YR CR fR:=⟨NQ rx rl rfl rg rr ri,rK,W.mg_of X G rC⟩;have XA:P6 K mg YR CR cg ct:=⟨xe,W.mg_of X G rY,⟨⟨xp,xq,xb⟩,rd⟩,xn,⟨⟨xp,xq,xb⟩,rd,xc,xs,xt,xm⟩,xk1,xk2,xk3,xk4,W.mg_of X G xa0,W.mg_of X G xa1⟩;have XbU:=Wx (st:=U4) rl rc rk;have B_NoRoom:=XbU.binds (ps:=ZaG) fun _ _ _ _ _ _ us hl=>ln2 hl fun _ _=>rfl;have XQ:XC K mg "NoNumber" YR CQ fQ:=⟨NQ qx ql rfl rg rr ri,qK,W.mg_of X G qC⟩;have XB:P5 K mg YR CQ:=⟨qe,W.mg_of X G rY,⟨⟨qp,qq,qb⟩,qd⟩,qn,⟨⟨qp,qq,qb⟩,qd,qcl,xs,xt,qm⟩,qk1,qk2⟩;have XT:P4 K mg CQ q1 q2 q3 q4 q5 q6:=⟨qka,W.mg_of X G qa0,W.mg_of X G qa1,W.mg_of X G qa2,W.mg_of X G qa3,W.mg_of X G qa4,W.mg_of X G qa5⟩;have XbV:=Wx (st:=U5) ql qc qk;have B_NoNumber:=XbV.binds (ps:=Zab) fun _ _ _ _ _ _ us hl=>ln2 hl fun _ _=>rfl;have XbY:=Wx (st:=YA) l38 c38 k38;have XbW:=Wx (st:=U2) l57 c57 k57;have B_Net:=XbW.binds (ps:=Zal) fun _ _ _ _ _ _ us hl=>ln1 hl fun _=>rfl;have XbX:=Wx (st:=U3) l58 c58 k58;have B_Hand:=XbX.binds (ps:=ZaH) fun _ _ _ _ _ _ us hl=>ln2 hl fun _ _=>rfl;refine⟨⟨gS,gE,aS,aE,⟨_,_,_,_,lS⟩,⟨_,_,_,_,lE⟩⟩,W.fnOf "law" "law" (Ya YA) (Zx YA) (Q0 YA) .none kV38 dc38 pm38 an38 cd38 ct38,fun s v=>.of_eq rfl,fun base _ _=>?_⟩;have Xbj:=Fb (P:=P) (w:=w) (base:=base) T (h30.df X G fun _ us hl=>ln2 hl fun _ _=>rfl);have Xbs:=LM (P:=P) (w:=w) (base:=base) T (h31.df X G fun _ us hl=>ln1 hl fun _=>rfl);have XaX:=CK (P:=P) (w:=w) (base:=base) T (h32.df X G fun _ us hl=>ln2 hl fun _ _=>rfl);have XbP:=CJ T (h33.df X G fun _ us hl=>ln1 hl fun _=>rfl) XaX;have XbQ:=AM T (h34.df X G fun _ us hl=>ln3 hl fun _ _ _=>rfl) XaX;have XbR:M6 P w K mg base "Hand" CH ZaH 1:=⟨_,_,⟨Hmk,a58,i58,Hkc⟩,W.mg_of X G aH,B_Hand,Fa (P:=P) (w:=w) (base:=base) T UH XbX⟩;have XbI:=FE (P:=P) (w:=w) (base:=base) T (h3.df X G fun _ us hl=>ln2 hl fun _ _=>rfl);have XbH:=Ep (P:=P) (w:=w) (base:=base) T (h0.df X G fun _ us hl=>ln1 hl fun _=>rfl);have XaZ:=AT T (h1.df X G fun _ us hl=>ln3 hl fun _ _ _=>rfl) XbH;have Xa2:=C8 (P:=P) (w:=w) (base:=base) T (h6.df X G fun _ us hl=>ln1 hl fun _=>rfl);have XaW:=Ca (P:=P) (w:=w) (base:=base) T (h5.df X G fun _ us hl=>ln1 hl fun _=>rfl);have Xbo:=Is T (h2.df X G fun _ us hl=>ln2 hl fun _ _=>rfl) XaZ;have Xbp:=ED T (h4.df X G fun _ us hl=>ln2 hl fun _ _=>rfl) XbI XaZ Xa2 XaW Xbo;have Xbb:=CL (P:=P) (w:=w) (base:=base) T UH (m55.mf fun _ us hl=>ln2 hl fun _ _=>rfl);have Xby:Ml P w K mg base "Net" C 1:=⟨_,_,⟨mk,a57,i57,kc⟩,W.mg_of X G aC,B_Net,Te (P:=P) (w:=w) (base:=base) T U XbW⟩;have Xbk:=LO (P:=P) (w:=w) (base:=base) T U (m40.mf fun _ us hl=>ln4 hl fun _ _ _ _=>rfl);have Xa9:=Tl T U (m39.mf fun _ us hl=>ln4 hl fun _ _ _ _=>rfl) Xbk;have Xa4:=Li (P:=P) (w:=w) (base:=base) T (h11.df X G fun _ us hl=>ln1 hl fun _=>rfl);have Xa5:=C1 (P:=P) (w:=w) (base:=base) T (h15.df X G fun _ us hl=>ln1 hl fun _=>rfl);have Xbe:=F6 (P:=P) (w:=w) (base:=base) T (h10.df X G fun _ us hl=>ln2 hl fun _ _=>rfl);have Xbf:=LB (P:=P) (w:=w) (base:=base) T (h12.df X G fun _ us hl=>ln1 hl fun _=>rfl);have Xa1:=CF (P:=P) (w:=w) (base:=base) T (h16.df X G fun _ us hl=>ln2 hl fun _ _=>rfl);have Xa7:=A8 (P:=P) (w:=w) (base:=base) T (h9.df X G fun _ us hl=>ln1 hl fun _=>rfl);have Xbz:=Eh T U (h17.df X G fun _ us hl=>ln4 hl fun _ _ _ _=>rfl) Xa9 Xa4 Xa5 XaW Xbe Xbf Xa1 Xa7;have Xa3:=Ab (P:=P) (w:=w) (base:=base) T (h8.df X G fun _ us hl=>ln3 hl fun _ _ _=>rfl);have Xbg:=FT (P:=P) (w:=w) (base:=base) T (h7.df X G fun _ us hl=>ln2 hl fun _ _=>rfl);have XbA:=Af T U (h18.df X G fun _ us hl=>ln3 hl fun _ _ _=>rfl) Xa9 Xa3 Xa1 Xa2 Xbg;have Xba:=EB (P:=P) (w:=w) (base:=base) T U (m42.mf fun _ us hl=>ln2 hl fun _ _=>rfl);have Xbw:=Lu (P:=P) (w:=w) (base:=base) T U (m43.mf fun _ us hl=>ln2 hl fun _ _=>rfl);have Xbx:=TQ (P:=P) (w:=w) (base:=base) T U (m45.mf fun _ us hl=>ln3 hl fun _ _ _=>rfl);have XbB:=LG T U (m44.mf fun _ us hl=>ln3 hl fun _ _ _=>rfl) Xba Xbw Xbx;have Xbh:=AG T U (h19.df X G fun _ us hl=>ln2 hl fun _ _=>rfl) Xby Xbz XaW XbA XbB;have XbF:=ER T U (h22.df X G fun _ us hl=>ln2 hl fun _ _=>rfl) Xbh Xba Xa5;have Xbl:=L4 T (h28.df X G fun _ us hl=>ln2 hl fun _ _=>rfl) XbF;have Xbu:=EZ T (h23.df X G fun _ us hl=>ln4 hl fun _ _ _ _=>rfl) Xa2 Xbe Xa7 Xbf Xbg Xa3;have Xbv:=Ag T (h24.df X G fun _ us hl=>ln4 hl fun _ _ _ _=>rfl) Xbu Xa3;have XbG:=Ed T (h25.df X G fun _ us hl=>ln3 hl fun _ _ _=>rfl) XaW Xbv;have Xbm:=F8 T (h26.df X G fun _ us hl=>ln3 hl fun _ _ _=>rfl) Xa4 XbG;have Xbn:JS P w K mg base fR ZaG 1 (Gz K CR "some"):=⟨_,B_NoRoom,AA (P:=P) (w:=w) (base:=base) T XbU XR.cl ⟨rs,ro,rd⟩ rt (W.mg_of X G rY)⟩;have Xbq:=E7 T XR (h29.df X G fun _ us hl=>ln2 hl fun _ _=>rfl) Xbl Xbm Xbn;have XbJ:=FC (P:=P) (w:=w) (base:=base) T (h13.df X G fun _ us hl=>ln2 hl fun _ _=>rfl);have XbK:=LN (P:=P) (w:=w) (base:=base) T (h14.df X G fun _ us hl=>ln2 hl fun _ _=>rfl);have Xa8:JS P w K mg base fQ Zab 1 (Uj CQ "number"):=⟨_,B_NoNumber,A3 (P:=P) (w:=w) (base:=base) T XbV XQ.cl ⟨qs,qo,qd⟩ qt (W.mg_of X G rY)⟩;have XaY:=L9 T UH XQ (m56.mf fun _ us hl=>ln2 hl fun _ _=>rfl) XaZ Xa8;have Xa0:=CV T UH (m51.mf fun _ us hl=>ln2 hl fun _ _=>rfl) XaY Xa4;have Xbc:=AK T UH (m54.mf fun _ us hl=>ln1 hl fun _=>rfl) XbJ XbK Xa0;have Xbr:=C4 T UH XR (m47.mf fun _ us hl=>ln2 hl fun _ _=>rfl) Xbp Xbb Xbq Xbc;have XbS:=FG T UH XR XA (h35.df X G fun _ us hl=>ln2 hl fun _ _=>rfl) Xbr;have XbC:=Lk (P:=P) (w:=w) (base:=base) T U (m41.mf fun _ us hl=>ln3 hl fun _ _ _=>rfl);have XbD:=FJ T U (h20.df X G fun _ us hl=>ln4 hl fun _ _ _ _=>rfl) XaW XbC Xa1 Xa7 Xa5;have XbE:=Ac T U (h21.df X G fun _ us hl=>ln2 hl fun _ _=>rfl) Xbh XbD;have XbL:=Lq T (h27.df X G fun _ us hl=>ln2 hl fun _ _=>rfl) XbE;have XbT:=CB T UH (m48.mf fun _ us hl=>ln1 hl fun _=>rfl) Xbb XaW XbL Xbc;have Xa6:=Fl T UH (m50.mf fun _ us hl=>ln2 hl fun _ _=>rfl) XaY;have XbM:=LJ (P:=P) (w:=w) (base:=base) T UH (m46.mf fun _ us hl=>ln1 hl fun _=>rfl);have XbN:=FI T UH (m52.mf fun _ us hl=>ln1 hl fun _=>rfl) Xa0;have XbO:=E4 (P:=P) (w:=w) (base:=base) T UH (m53.mf fun _ us hl=>ln1 hl fun _=>rfl);have Xbt:=AS T UH (h37.df X G fun _ us hl=>ln2 hl fun _ _=>rfl) Xa6 Xa0 XbM XbN XbO;have Xbi:=A9 T UH XQ (m49.mf fun _ us hl=>ln2 hl fun _ _=>rfl) XaY Xa8;have Xbd:=Ls T UH XQ XB XT (h36.df X G fun _ us hl=>ln3 hl fun _ _ _=>rfl) Xbi Xa6 Xa0;exact Ty T UH XbY Xbj Xbs XbP XbQ XbR XbS XbT Xbt Xbd Xa6 Xbi
end My
namespace PySem.W.Fast
def tw8220423158498948682:=0
def tw10251212618402387405:=0
def tw18371360639437594433:=0
def tw4906238927985771853:=0
def tw8901298407744754661:=0
def tw4166488286596685458:=0
def tw15680396754465687623:=0
def tw15534476324258323201:=0
def tw7663742373517152694:=0
def tw16113912270246620168:=0
def tw15639697534235195913:=0
def tw1396494627590689518:=0
def tw11069851107214673967:=0
def tw15457371110449688887:=0
def tw9455792226134732709:=0
def tw1930190212808372112:=0
def tw1351423073458738800:=0
def tw6985013861238291923:=0
def tw13729824026803153005:=0
def tw792205423529162165:=0
def tw17523824401303306671:=0
def tw2845613164919174060:=0
def tw12289496672878349982:=0
def tw8624396472847521008:=0
def tw8362281492116540343:=0
def tw4909531615472828982:=0
def tw9422615934988731605:=0
def tw16919319045453703889:=0
def tw17008319152306715623:=0
def tw3610988925246298504:=0
def tw3086730635558440677:=0
def tw7022649605897038939:=0
def tw18155883275173501407:=0
def tw12740976021492583833:=0
def tw5949632156805116847:=0
def tw2746688640422409766:=0
def tw5134868422510580452:=0
def tw10916376303805650381:=0
def tw400872086582909900:=0
def tw13640209636104359692:=0
def tw6659314216883746452:=0
def tw7771581520826162095:=0
def tw13507585628908421515:=0
def tw8612846857534597220:=0
def tw13890586485459865407:=0
def tw15822511714368674624:=0
def tw12373867636212386734:=0
def tw1229931037825034897:=0
def tw7788713149075056178:=0
def tw13795863654983626060:=0
def tw7508963804809690535:=0
def tw7893232474503222617:=0
def tw4510928374640574016:=0
def tw18330102413425064182:=0
def tw13946385259405781434:=0
def tw11352271812356615330:=0
def tw2153087344267440376:=0
def tw12844744445088114334:=0
def tw15202074779905716106:=0
def tw1200196185845635495:=0
def tw5713879267745368448:=0
def tw5139760404108030661:=0
def tw11297786249959273528:=0
def tw5436268583389225420:=0
def tw3897407627303996831:=0
def tw11019978564175967135:=0
def tw599251266383155452:=0
def tw5511754170156369050:=0
def tw2825181559461130739:=0
def tw12687449066845569984:=0
def tw1442861097573170989:=0
def tw15439831903162343830:=0
def tw11316254686508762945:=0
def tw1266259120754902401:=0
def tw8632943239176401635:=0
def tw15161782698885218021:=0
def tw17856768967449172794:=0
def tw2949276134704419346:=0
def tw11789316331908181878:=0
def tw394638038535127339:=0
def tw8945150976817359427:=0
def tw8771686500861311584:=0
def tw15511117093131701786:=0
def tw17858428197610755553:=0
def tw12814103108751212625:=0
def tw12828705588432196156:=0
def tw11273906305805549757:=0
def tw6015690424512859819:=0
def tw8669554844522569393:=0
def tw8838034809330937491:=0
def tw17945749883073086302:=0
def tw11827994706007039160:=0
def tw1412082458507450680:=0
def tw12542277527697684091:=0
def tw15907024144054729071:=0
def tw5968714906249917391:=0
def tw7755078758466489187:=0
def tw9106305828926068945:=0
def tw2957648088967188790:=0
def tw12353111743380917122:=0
def tw8082133954590758328:=0
def tw5915885317572950204:=0
def tw6362582394446678262:=0
def tw15080319454427609014:=0
def tw4141211217543670198:=0
def tw4557777473432523630:=0
def tw11638469959356514032:=0
def tw17302103493638786250:=0
def tw7676605050247159150:=0
def tw11161005108429574415:=0
def tw5051046417423640061:=0
def tw733035639749880168:=0
def tw16642506801193131413:=0
def tw3747343673932702211:=0
end PySem.W.Fast
open PySem PySem.W PyProof.Rows
set_option maxRecDepth 100000 in
set_option maxHeartbeats 0 in
theorem PySem.Challenge.cw_chargeyard_k66_no_numbers_holds : PySem.Challenge.rw_chargeyard_k66_no_numbers.Holds := by
 w_on; o_law; k_head; (case hw=>w_witness2)
 k_fill
 refine L2.ZmK (l:=PySem.Challenge.rw_chargeyard_k66_no_numbers) (k:=10) (x := "_law_script") rfl rfl ⟨rfl,by decide,by decide⟩ (fun w h Y=>W.kIn_of Y) ?F
 case F =>
  intro w mg fa h KX G hmg
  refine' My.Ztd KX G hmg ?aC ?aH ?h0 ?h1 ?h2 ?h3 ?h4 ?h5 ?h6 ?h7 ?h8 ?h9 ?h10 ?h11 ?h12 ?h13 ?h14 ?h15 ?h16 ?h17 ?h18 ?h19 ?h20 ?h21 ?h22 ?h23 ?h24 ?h25 ?h26 ?h27 ?h28 ?h29 ?h30 ?h31 ?h32 ?h33 ?h34 ?h35 ?h36 ?h37 ?a38 ?l38 ?c38 ?k38 ?m39 ?m40 ?m41 ?m42 ?m43 ?m44 ?m45 ?m46 ?m47 ?m48 ?m49 ?m50 ?m51 ?m52 ?m53 ?m54 ?m55 ?m56 ?a57 ?i57 ?l57 ?c57 ?k57 ?a58 ?i58 ?l58 ?c58 ?k58 ?pg ?hd ?po ?sa ?mk ?kc ?Hpg ?Hhd ?Hpo ?Hsa ?Hmk ?Hkc ?Hn0 ?Hn1 ?Hn2 ?Hn3 ?Hn4 ?Hn5 ?n0 ?n1 ?n2 ?n3 ?aS ?lS ?aE ?lE ?rC ?rY ?rf ?rl ?rc ?rk ?rx ?rg ?rr ?ri ?rs ?ro ?xa0 ?xa1 ?xe ?xp ?xn ?xq ?xb ?xc ?xs ?xt ?xm ?xk1 ?xk2 ?xk3 ?xk4 ?rd ?rt ?rK ?qC ?qf ?ql ?qc ?qk ?qx ?qs ?qo ?qd ?qt ?qK ?qe ?qp ?qn ?qq ?qb ?qcl ?qm ?qa0 ?qa1 ?qa2 ?qa3 ?qa4 ?qa5 ?qka ?qk1 ?qk2 ?z0 ?z1 ?z2 ?z3 ?z4 ?z5 ?z6 ?z7 ?z8 ?z9 ?z10 ?z11 ?z12 ?z13 ?z14 ?z15 ?z16
  case aC | aH | a38 | l38 | c38 | k38 | a57 | i57 | l57 | c57 | k57 | a58 | i58 | l58 | c58 | k58 | pg | hd | po | sa | mk | kc | Hpg | Hhd | Hpo | Hsa | Hmk | Hkc | Hn0 | Hn1 | Hn2 | Hn3 | Hn4 | Hn5 | n0 | n1 | n2 | n3 | aS | lS | aE | lE | rC | rY | rf | rl | rc | rk | rg | rr | ri | rs | xa0 | xa1 | xp | xn | xq | xb | xc | xs | xt | xm | rd | rt | rK | qC | qf | ql | qc | qk | qs | qd | qt | qK | qp | qn | qq | qb | qcl | qm | qa0 | qa1 | qa2 | qa3 | qa4 | qa5 | z0 | z1 | z2 | z3 | z4 | z5 | z6 | z7 | z8 | z9 | z10 | z11 | z12 | z13 | z14 | z15 | z16=>k_is
  case xk1 | xk2 | xk3 | xk4 | qka | qk1 | qk2=>kit_is
  case xe | qe=>kts_exm
  case h0 | h1 | h2 | h3 | h4 | h5 | h6 | h7 | h8 | h9 | h10 | h11 | h12 | h13 | h14 | h15 | h16 | h17 | h18 | h19 | h20 | h21 | h22 | h23 | h24 | h25 | h26 | h27 | h28 | h29 | h30 | h31 | h32 | h33 | h34 | h35 | h36 | h37 =>
   refine' My.DH.mk ?a ?l ?c ?k
   case a | l | c | k=>k_is
  case m39 | m40 | m41 | m42 | m43 | m44 | m45 | m46 | m47 | m48 | m49 | m50 | m51 | m52 | m53 | m54 | m55 | m56 =>
   refine' My.MH.mk ?a ?i ?l ?c ?k
   case a | i | l | c | k=>k_is
  case rx | ro | qx | qo=>with_unfolding_all exact Eq.refl true
end
