import PyProof.Rows.All
import Wide.All
import OpenK.AllK
import Wide.FinOn
import Lean
import PyProof.EqAt
import PyProof.EqKinds
import PyProof.TupleCall
import PyProof.EqLayable
import PyProof.SumAny
import PyProof.ListRange
import PyProof.WalksEnum
import PyProof.ZipIter
import PyProof.EnumMake
import PyProof.ConsumeS
import PyProof.SeqI3
import PyProof.MaxThree
import PyProof.Rows.TupAdd
import KE.KIsAll
import KE.KTryMore
import OpenK.KOwn
import PyProof.CollectWalk
import PyProof.DictRoadsH
import PyProof.DictWalks
import PyProof.ExcArgs
import PyProof.ExcBaseAll.ValueError
import PyProof.ExcClass3
import PyProof.FactsAll.dict
import PyProof.FactsAll.set
import PyProof.FactsLen
import PyProof.InstSpecial
import PyProof.MeetsDict
import PyProof.MinMaxWalk
import PyProof.NeKinds
import PyProof.NsDelKeeps
import PyProof.Rows.CatchBare
import PyProof.Rows.SetFrom
import PyProof.Rows.SortWalk
import PyProof.Rows.TupDisplay
import PyProof.RulesAs
import PyProof.SetRoads
import PyProof.StationsW
import PyProof.WalkLemmas
import PyProof.WalksMore
import PySem.Challenge.RW_chargeyard_k65_the_askers_own
set_option Elab.async false
set_option linter.all false
set_option maxRecDepth 100000
set_option maxHeartbeats 4000000
set_option compiler.extract_closed false
set_option genSizeOf false
section
open PySem PySem.Spec PyProof.Rows
def Qa {α:Sort _}{a:α}{q:Prop}:a=a\/q:=Or.inl rfl
abbrev Qb:=Value->Shared->Prop
abbrev Qc:=List (Addr×Obj)
abbrev Qd:=List PyData
abbrev Qe:=List Value
abbrev Qf:=Option Value
abbrev Qg:=List Addr
abbrev Qh:=List Str
abbrev Zaa:Qh:=["_law_script","_law_yard_here","_law_hand","_law_other","_law_many","_law_k","_law_guest_here","_law_told","_law_kept","_law_again","_law_turn","_law_gifts","_law_opened"]
abbrev Zab:Qh:=["yard","guests"]
abbrev Zac:Qh:=["self","start","end","room"]
abbrev Zad:Qh:=["net","yard","number","guest"]
abbrev Zae:Qh:=["yard","guests","some"]
abbrev Zaf:Qh:=["yard","guests","some","turn"]
abbrev Zag:Qh:=["self"]
abbrev Zah:Qh:=["self","start","end"]
abbrev Zai:Qh:=["self","number"]
abbrev Zaj:Qh:=["_law_feed_here","_law_yard_here","_law_now"]
abbrev Zak:Qh:=["_law_feed_here","_law_yard_here","_law_now","_law_first","_law_last","_law_line","_law_scale","_law_want"]
abbrev Zal:Qh:=["_law_hand","_law_told","_law_opened"]
abbrev Zam:Qh:=["_law_hand","_law_guest_here","_law_told","e","_law_marks"]
abbrev Zan:Qh:=["guest","turn"]
abbrev Zao:Qh:=["_law_feed_here","_law_many"]
abbrev Zap:Qh:=["thing","least","end"]
abbrev Zaq:Qh:=["yard","line","turn"]
abbrev Zar:Qh:=["_law_hand","_law_guest_here"]
abbrev Zas:Qh:=["guest"]
abbrev Zat:Qh:=["_law_script","_law_k"]
abbrev Zau:Qh:=["yard","guests","some","turn","reaching","number","guest","line"]
abbrev Zav:Qh:=["self","edges","end"]
abbrev Zaw:Qh:=["line","turn"]
abbrev Zax:Qh:=["self","turn"]
abbrev Zay:Qh:=["_law_k","_law_marks","e"]
abbrev Zaz:Qh:=["yard"]
abbrev ZaA:Qh:=["self","start"]
abbrev ZaB:Qh:=["self","guest"]
abbrev ZaC:Qh:=["net","yard","turn"]
abbrev ZaD:Qh:=["thing","length"]
abbrev ZaE:Qh:=["yard","line"]
abbrev ZaF:Qh:=["number","guest","net","yard"]
abbrev ZaG:Qh:=["thing","least"]
abbrev ZaH:Qh:=["yard","thing"]
abbrev ZaI:Qh:=["guest","want"]
abbrev ZaJ:Qh:=["_law_feed_here"]
abbrev ZaK:Qh:=["_law_above","_law_bounds"]
abbrev ZaL:Qh:=["self","some"]
abbrev ZaM:Qh:=["self","yard"]
abbrev ZaN:Qh:=["self","way"]
abbrev ZaO:Qh:=["_law_script"]
abbrev ZaP:Qh:=["number"]
abbrev ZaQ:Qh:=["_law_cell"]
abbrev Qi:=List Expr
abbrev Qj:=Option Addr
abbrev Qk:=List Nat
abbrev Ql:=List Int
abbrev Qm:=Nat->Bool
abbrev Qn:=Nat->Int
def Xa:=@List.mem_cons_self
def Xb:=@wpAny_bind
def Xc:=@if_neg
def Xd:=@List.mem_cons_of_mem
def Xe:=@if_pos
def Xf:=@List.mem_cons
def Xg:=@List.mem_singleton
def Xh:=@List.getElem?_eq_some_iff
def Xi:=@Heap.get?_push_of_some
def Xj:=@Heap.lt_size
def Xk:=@absurd
def Xl:=@List.getElem?_set_self
def Xm:=@List.length_append
def Xn:=@List.length_map
def Xo:=@Nat.ne_of_lt
def Xp:=@wpAny_pure
def Xq:=@Nat.le_refl
def Xr:=@List.getElem?_set_ne
def Xs:=@Nat.lt_of_lt_of_le
def Xt:=@List.getElem?_map
def Xu:=@List.nodup_cons
def Xv:=@List.map_cons
def Xw:=@Bool.false_ne_true
def Xx:=@List.mem_append
def Xy:=@List.map_append
def Xz:=@List.find?_cons
def XB:=@List.size_toArray
def XD:=@Heap.get?_push_size
def XF:=@Nat.zero_le
def XG:=@List.mem_append_right
def XH:=@List.append_nil
def XI:=@List.mem_map
def XJ:=@List.length_cons
def XL:=@List.lookup_cons
def XM:=@List.getElem?_append_left
def XN:=@Int.toNat_natCast
def XO:=@Heap.get?_update_other
def XQ:=@List.not_mem_nil
def XS:=@decide_eq_false
def XT:=@List.mem_range
def XU:=@Nat.ne_of_gt
def XV:=@decide_eq_true
def XW:=@Nat.lt_irrefl
def XX:=@congrArg
def XY:=@List.getElem?_append_right
def XZ:=@Nat.le_trans
def X0:=@of_decide_eq_true
def X4:=@Option.map_some
def X5:=@List.getElem_mem
def X6:=@List.getElem?_eq_getElem
def X7:=@Int.toNat_of_nonneg
def X8:=@Heap.get?_update_self
def X9:=@List.range_succ
def Wb:=@Bool.false_eq_true
def YA:=@List.mem_flatMap
def Wa:=@Nat.lt_succ_self
def Yt:=@Nat.le_of_lt
def Ys:=@List.map_map
def JK:=@List.mem_append_left
def YZ:=@Heap.size_push
def U5:=@List.getElem?_cons_succ
def WR:=@Option.isSome_map
def JJ:=@List.map_congr_left
def JI:=@List.flatMap_append
def Y9:=@Int.zero_add
def WQ:=@List.cons_append
def U4:=@List.length_replicate
def U3:=@List.mem_iff_getElem
def JG:=@List.nodup_append
def JF:=@List.length_range
def JE:=@List.take_length
def WP:=@List.nodup_nil
def U2:=@List.filter_append
def BS:=@List.getElem?_eq_none_iff
def JD:=@List.take_succ
def U1:=@Bool.and_eq_true
def U0:=@List.filter_cons
def JC:=@Bool.not_true
def Gz:=@Nat.lt_of_le_of_lt
def G5:=@of_decide_eq_false
def WT:=@Int.le_refl
def WS:=@wpAny_field
def G4:=@Nat.lt_succ_of_lt
def G3:=@List.append_assoc
def BX:=@List.length_singleton
def BW:=@List.length_filter_le
def BV:=@List.pairwise_flatMap
def G2:=@Option.getD_some
def BU:=@List.length_pos_iff
def G1:=@List.sum_append
def U8:=@List.map_nil
def U7:=@Int.add_zero
def HP:=@List.getElem?_replicate
def BT:=@List.flatMap_cons
def U6:=@Int.mul_sub
def G0:=@List.sum_cons
end
namespace L2
open PySem PySem.Spec PyProof.Rows
abbrev Key:=Sum Int Str
def Jb:Key->Value->Bool
 |.inl k,v=>Value.isInt k v
 |.inr x,v=>Value.isStrOf x v
def Pf (w:World):Key->Int
 |.inl k=>hashInt k
 |.inr x=>hashStr w x
theorem Wt:∀{k:Key} {v:Value},Jb k v=true->(∃i t,k=Sum.inl i/\v=Value.int i t)\/(∃x t,k=Sum.inr x/\v=Value.str x t)
 |.inl i,v,h=>by
   obtain⟨t,e⟩:=Value.isInt_shape (k:=i) (v:=v) h;exact .inl ⟨i,t,rfl,e⟩
 |.inr x,v,h=>by
   obtain⟨t,e⟩:=Value.isStrOf_shape (x:=x) (v:=v) h;exact .inr ⟨x,t,rfl,e⟩
def CA (i:Int)(t:Tok):Jb (.inl i) (.int i t)=true:=by simp[Jb,Value.isInt]
def Ec (x:Str)(t:Tok):Jb (.inr x) (.str x t)=true:=by simp[Jb,Value.isStrOf]
def PP (a b:Int):decide ((Sum.inl a:Key)=Sum.inl b)=(a==b):=by
 by_cases e:a=b
 ·subst e;simp
 ·have h:¬(Sum.inl a:Key)=Sum.inl b:=fun q=>e (Sum.inl.inj q)
  rw[XS h];exact(beq_eq_false_iff_ne.mpr e).symm
def Tz (a b:Str):decide ((Sum.inr a:Key)=Sum.inr b)=decide (a=b):=by
 by_cases e:a=b
 ·subst e;simp
 ·have h:¬(Sum.inr a:Key)=Sum.inr b:=fun q=>e (Sum.inr.inj q)
  rw[XS h,XS e]
def Lh (a:Int)(b:Str):decide ((Sum.inl a:Key)=Sum.inr b)=false:=XS (fun q=>nomatch q)
def Lg (a:Str)(b:Int):decide ((Sum.inr a:Key)=Sum.inl b)=false:=XS (fun q=>nomatch q)
def ZA (prog:Program)(w:World):PySem.KeyKind prog w Key where
 is:=Jb
 hash:=Pf w
 inj:=fun v a b ha hb=>by
  rcases Wt ha with ⟨i,t,rfl,rfl⟩|⟨x,t,rfl,rfl⟩
  ·rcases Wt hb with ⟨j,u,rfl,e⟩|⟨y,u,rfl,e⟩
   ·injection e with e1 _;rw[e1]
   ·exact nomatch e
  ·rcases Wt hb with ⟨j,u,rfl,e⟩|⟨y,u,rfl,e⟩
   ·exact nomatch e
   ·injection e with e1 _;rw[e1]
 byValue:=fun k v h=>by
  rcases Wt h with ⟨i,t,rfl,rfl⟩|⟨x,t,rfl,rfl⟩<;>rfl
 pyHash:=fun hv h=>by
  rcases Wt hv with ⟨i,t,rfl,rfl⟩|⟨x,t,rfl,rfl⟩
  ·exact wpAny_pyHash_int h
  ·exact wpAny_pyHash_str h
 eqBool:=fun hu hv h=>by
  rcases Wt hu with ⟨i,t,rfl,rfl⟩|⟨x,t,rfl,rfl⟩
  ·rcases Wt hv with ⟨j,u,rfl,rfl⟩|⟨y,u,rfl,rfl⟩
   ·rw[PP]at h;exact wpAny_eqBool_int h
   ·rw[Lh]at h;exact SeqAt.EqAt.int_str i t y u _ _ _ _ h
  ·rcases Wt hv with ⟨j,u,rfl,rfl⟩|⟨y,u,rfl,rfl⟩
   ·rw[Lg]at h;exact SeqAt.EqAt.str_int x t j u _ _ _ _ h
   ·rw[Tz]at h;exact wpAny_eqBool_str h
 «strs» := fun k x t v h=>by
  rcases Wt h with ⟨i,u,rfl,e⟩|⟨y,u,rfl,e⟩
  ·exact nomatch e
  ·injection e with e1 _
   subst e1;cases v<;>rfl
def EX (prog:Program)(w:World)(i:Int)(t:Tok):(ZA prog w).is (.inl i) (.int i t)=true:=CA i t
def E4 (prog:Program)(w:World)(x:Str)(t:Tok):(ZA prog w).is (.inr x) (.str x t)=true:=Ec x t
inductive V where
 |non|bl (b:Bool)|int (i:Int)|str (x:Str)|byt (b:Array UInt8)|flt (b:UInt64)|ref (a:Addr)|ty (n:String)
 deriving DecidableEq
def QI:V->Value->Prop
 |.non,u=>u=Value.none
 |.bl b,u=>u=Value.bool b
 |.int i,u=>∃t,u=Value.int i t
 |.str x,u=>∃t,u=Value.str x t
 |.byt b,u=>∃t,u=Value.bytes b t
 |.flt b,u=>∃t,u=Value.float b t
 |.ref a,u=>u=Value.ref a
 |.ty n,u=>u=Value.type n
abbrev QS:List V->Qe->Prop:=Paired QI
def QS.length {xs:List V}{us:Qe}(r:QS xs us):xs.length=us.length:=Paired.length r
theorem QS.get:∀{xs:List V} {us:Qe} {i:Nat} {x:V},QS xs us->xs[i]?=some x->∃u,us[i]?=some u/\QI x u
 |_,_,_,_,.nil,e=>by simp at e
 |_,_,0,_,.cons r _,e=>by simp at e;subst e;exact⟨_,rfl,r⟩
 |_,_,i+1,x,.cons _ t,e=>by
   obtain⟨u,h1,h2⟩:=QS.get (i:=i) (x:=x) t (by simpa using e)
   exact⟨u,by simpa using h1,h2⟩
theorem QS.set {x:V}{u:Value}(r:QI x u):∀{xs:List V} {us:Qe} (i:Nat),QS xs us->QS (xs.set i x) (us.set i u)
 |_,_,_,.nil=>.nil
 |_,_,0,.cons _ t=>.cons r t
 |_,_,i+1,.cons q t=>.cons q (QS.set r i t)
theorem QS.append:∀{xs ys:List V} {us ws:Qe},QS xs us->QS ys ws->QS (xs++ys) (us++ws)
 |_,_,_,_,.nil,s=>s
 |_,_,_,_,.cons r t,s=>.cons r (QS.append t s)
def ZE:Option V->Qf->Prop
 |some v,some u=>QI v u
 |none,none=>True
 |_,_=>False
def KV {κ:Type}:List (κ×V)->List (κ×Value)->Prop:=Paired fun(p:κ×V) (q:κ×Value)=>p.1=q.1/\QI p.2 q.2
def kV:Key->V
 |.inl i=>.int i
 |.inr x=>.str x
inductive HO where
 |lst (xs:List V)
 |tup (xs:List V)
 |dK (kvs:List (Key×V))|dT (kvs:List (List Key×V))
 |set (S:Int->Bool) (n:Nat)
 |ins (C dx:Addr) (fs:List (Str×V))
 |own (x:Addr)
 |xd (fs:List (Str×V))
 |met (f x:Addr)
 |rng (lo hi:Int)
 |frz (o:Obj) (u:HO)
 |tbl (ps:Array Value)
 |ext (φ:Heap->Prop)
abbrev Hp:=Addr->Option HO
def upd (H:Hp)(a:Addr)(o:HO):Hp:=fun b=>if b=a then some o else H b
def QA {H:Hp}{a:Addr}{o:HO}:upd H a o a=some o:=by unfold upd;rw[Xe rfl]
def Qr {H:Hp}{a b:Addr}{o:HO}(h:b≠a):upd H a o b=H b:=by unfold upd;rw[Xc h]
def Kv {H:Hp}{a b:Addr}{o u:HO}(h:H a=some o)(h':H b=some u)(d:o≠u):a≠b:=by
 intro e;subst e;rw[h]at h';exact d (Option.some.inj h')
def Zp {H:Hp}{a b:Addr}{o:HO}(h:H a=some o)(h':H b=none):a≠b:=by
 intro e;subst e;rw[h]at h';cases h'
section
variable (P:Program)(w:World)
def Z0 (H:Hp)(h:Heap)(a:Addr):HO->Prop
 |.lst xs=>xs.length<=sizeLine/\∃(its:Qe) (n:Nat),QS xs its/\h.get? a=some { cls:=.type "list",data:=.seq its.toArray n }
 |.tup xs=>xs.length<=sizeLine/\∃its:Qe,QS xs its/\IsTup h a its.toArray
 |.dK kvs=>kvs.length<=sizeLine/\(a==sysModules)=false/\∃vs,KV kvs vs/\h.DictOf (ZA P w) a vs
 |.dT kvs=>kvs.length<=sizeLine/\(a==sysModules)=false/\∃xs:List (List Key×Addr×Value),
  Paired (fun(p:List Key×V) (q:List Key×Addr×Value)=>p.1=q.1/\H q.2.1=some (.tup (p.1.map kV))/\QI p.2 q.2.2) kvs xs /\
  ∃o es ep,h.get? a=some o/\o.ExactDict/\o.data=.dict es ep/\es.toList=xs.map (entryOfKey (tupleKind (ZA P w)))/\(xs.map (·.1)).Nodup
 |.set S n=>h.SetOf (intKind P w) a S n
 |.ins C dx fs=>H dx=some (.own a)/\fs.length<=1000/\dx≠a/\h.get? a=some (W.instObj C dx) /\
  ∃mA,h.Ns1 dx mA/\(∀f,ZE (fs.lookup f) (mA f))/\PySem.Within mA (fs.map (·.1))
 |.own _=>∃o,h.get? a=some o
 |.xd fs=>∃mA,h.Ns1 a mA/\∀f,ZE (fs.lookup f) (mA f)
 |.rng lo hi=>∃t u v,h.get? a=some { cls:=.type "range",data:=.fields #[.int lo t,.int hi u,.int 1 v] }
 |.frz o u=>h.get? a=some o/\Z0 H h a u
 |.tbl ps=>h.get? a=some { cls:=.none,data:=.fields ps }
 |.met f x=>h.get? a=some (W.methodObj (.ref f) (.ref x))
 |.ext φ=>φ h/\(∃o,h.get? a=some o)/\∀h1 h2:Heap,φ h1->(∀o,h1.get? a=some o->h2.get? a=some o)->φ h2
def HOk (H:Hp)(h:Heap):Prop := ∀a o,H a=some o->Z0 P w H h a o
end
section
variable {P:Program}{w:World}{H H':Hp}{h h':Heap}{a:Addr}{o:HO}
def Z0.lt (x:Z0 P w H h a o):a<h.objs.size:=by
 cases o with
 |lst xs=>obtain⟨_,_,_,_,e⟩:=x;exact Xj e
 |tup xs=>obtain⟨_,_,_,p⟩:=x;exact p.lt
 |dK kvs=>obtain⟨_,_,_,_,o,_,_,e,_⟩:=x;exact Xj e
 |dT kvs=>obtain⟨_,_,_,_,o,_,_,e,_⟩:=x;exact Xj e
 |set S n=>obtain⟨o,_,_,_,e,_⟩:=x;exact Xj e
 |ins C dx fs=>obtain⟨_,_,_,e,_⟩:=x;exact Xj e
 |own y=>obtain⟨_,e⟩:=x;exact Xj e
 |xd fs=>obtain⟨_,⟨_,_,_,e,_⟩,_⟩:=x;exact Xj e
 |rng lo hi=>obtain⟨_,_,_,e⟩:=x;exact Xj e
 |frz ob u=>obtain⟨e,_⟩:=x;exact Xj e
 |tbl ps=>exact Xj (show h.get? a=some _ from x)
 |met f y=>exact Xj (show h.get? a=some _ from x)
 |ext φ=>obtain⟨_,⟨_,e⟩,_⟩:=x;exact Xj e
theorem Paired.mapP {α β:Type}{F G:α->β->Prop}:∀{c6:List α} {c7:List β},Paired F c6 c7->(∀a b,F a b->G a b)->Paired G c6 c7
 |_,_,.nil,_=>.nil
 |_,_,.cons r t,f=>.cons (f _ _ r) (Paired.mapP t f)
def Z0.stay (x:Z0 P w H h a o)(k:∀b u,(b=a\/H b=some (.own a))->h.get? b=some u->h'.get? b=some u)
 (ho:∀b,H b=some (.own a)->H' b=some (.own a)) (ht:∀b xs,H b=some (.tup xs)->H' b=some (.tup xs)):Z0 P w H' h' a o:=by
 induction o with
 |lst xs=>obtain⟨z,its,n,r,e⟩:=x;exact⟨z,its,n,r,k _ _ (.inl rfl) e⟩
 |tup xs=>obtain⟨z,its,r,ob,e,c⟩:=x;exact⟨z,its,r,ob,k _ _ (.inl rfl) e,c⟩
 |dK kvs=>obtain⟨z,y,vs,r,ob,es,ep,e,c⟩:=x;exact⟨z,y,vs,r,ob,es,ep,k _ _ (.inl rfl) e,c⟩
 |dT kvs =>
   obtain⟨z,y,xs,r,ob,es,ep,e,c⟩:=x
   exact⟨z,y,xs,Paired.mapP r fun p q z=>⟨z.1,ht _ _ z.2.1,z.2.2⟩,ob,es,ep,k _ _ (.inl rfl) e,c⟩
 |set S n=>obtain⟨ob,es,ep,t,e,c⟩:=x;exact⟨ob,es,ep,t,k _ _ (.inl rfl) e,c⟩
 |ins C dx fs =>
   obtain⟨d,z,ne,e,mA,⟨od,es,ep,e2,c⟩,r⟩:=x
   exact⟨ho _ d,z,ne,k _ _ (.inl rfl) e,mA,⟨od,es,ep,k _ _ (.inr d) e2,c⟩,r⟩
 |own y=>obtain⟨ob,e⟩:=x;exact⟨ob,k _ _ (.inl rfl) e⟩
 |xd fs=>obtain⟨mA,⟨od,es,ep,e,c⟩,r⟩:=x;exact⟨mA,⟨od,es,ep,k _ _ (.inl rfl) e,c⟩,r⟩
 |rng lo hi=>obtain⟨t,u,v,e⟩:=x;exact⟨t,u,v,k _ _ (.inl rfl) e⟩
 |frz ob u ih=>obtain⟨e,q⟩:=x;exact⟨k _ _ (.inl rfl) e,ih q⟩
 |tbl ps =>
   have e:h.get? a=some { cls:=.none,data:=.fields ps }:=x;show h'.get? a=some { cls:=.none,data:=.fields ps };exact k a _ (.inl rfl) e
 |met f y =>
   have e:h.get? a=some (W.methodObj (.ref f) (.ref y)):=x;show h'.get? a=some (W.methodObj (.ref f) (.ref y));exact k a _ (.inl rfl) e
 |ext φ=>obtain⟨p,⟨o,e⟩,st⟩:=x;exact⟨st _ _ p fun o q=>k _ _ (.inl rfl) q,⟨o,k _ _ (.inl rfl) e⟩,st⟩
def HOk.lt (x:HOk P w H h)(e:H a=some o):a<h.objs.size:=(x a o e).lt
def HOk.fresh (x:HOk P w H h)(e:h.objs.size<=a):H a=none:=by
 cases q:H a with
 |none=>rfl
 |some u=>exact Xk (Xs (x.lt q) e) (XW _)
def HOk.kept (x:HOk P w H h)(k:∀b u,h.get? b=some u->h'.get? b=some u):HOk P w H h':=fun a o e =>
 (x a o e).stay (fun b u _ q=>k b u q) (fun _ q=>q) fun _ _ q=>q
def HOk.laid (x:HOk P w H h)(k:∀b u,h.get? b=some u->h'.get? b=some u)(hp:h.objs.size<=a)(new:Z0 P w (upd H a o) h' a o):HOk P w (upd H a o) h':=fun b u e=>by
 have hn:=x.fresh hp
 by_cases hb:b=a
 ·subst hb;rw[QA]at e;cases e;exact new
 ·rw[Qr hb]at e
  exact(x b u e).stay (fun c v _ q=>k c v q) (fun c q=>by rw[Qr (Zp q hn)];exact q) fun c xs q=>by rw[Qr (Zp q hn)];exact q
end
def Rd (H:Hp)(a:Addr)(u:HO):Prop:=H a=some u\/∃o,H a=some (.frz o u)
def Rd.of {H:Hp}{a:Addr}{u:HO}(h:H a=some u):Rd H a u:=.inl h
def Rd.ok {P:Program}{w:World}{H:Hp}{h:Heap}{a:Addr}{u:HO}(r:Rd H a u)(x:HOk P w H h):Z0 P w H h a u:=by
 rcases r with r|⟨o,r⟩
 ·exact x a u r
 ·obtain⟨_,q⟩:=x a _ r
  exact q
def Mut:Option HO->Prop
 |some (.lst _)=>True
 |some (.dK _)=>True
 |some (.dT _)=>True
 |some (.set _ _)=>True
 |some (.ins _ _ _)=>True
 |some (.ext _)=>True
 |_=>False
section
variable {P:Program}{w:World}{H:Hp}{h h':Heap}{x e:Addr}{o':HO}
def HOk.write (ok:HOk P w H h)(mu:Mut (H x))(he:e=x\/H e=some (.own x))(k:∀b u,b≠e->h.get? b=some u->h'.get? b=some u)(heo:∃u,h'.get? e=some u)
 (new:Z0 P w (upd H x o') h' x o'):HOk P w (upd H x o') h':=fun b u q=>by
 have nown:∀c y,H c=some (.own y)->c≠x:=fun c y r z=>by subst z;rw[r]at mu;exact mu
 have ntup:∀c xs,H c=some (.tup xs)->c≠x:=fun c xs r z=>by subst z;rw[r]at mu;exact mu
 by_cases hb:b=x
 ·subst hb;rw[QA]at q;cases q;exact new
 ·rw[Qr hb]at q
  by_cases hbe:b=e
  ·have q':H b=some (.own x):=by
    rcases he with z|z
    ·exact Xk (hbe.trans z) hb
    ·rw[hbe];exact z
   rw[q]at q';cases q';obtain⟨v,hv⟩:=heo
   exact⟨v,by rw[hbe];exact hv⟩
  ·refine(ok b u q).stay (fun c v hc r=>k c v ?_ r) (fun c r=>by rw[Qr (nown c b r)];exact r) fun c xs r=>by rw[Qr (ntup c xs r)];exact r
   rcases hc with rfl|hc
   ·exact hbe
   ·rintro rfl
    rcases he with z|z
    ·exact nown c b hc z
    ·rw[hc]at z;cases z;exact hb rfl
end
structure Un (fs ex:Qg)(H H':Hp)(h h':Heap):Prop where
 keep:∀b o,h.get? b=some o->H b=none->b∉fs->b∉ex->h'.get? b=some o
 slot:∀b o,h.get? b=some o->H b=none->b∈fs->b∉ex->∃sl,h'.get? b=some { o with slots:=sl }
 free:∀b o,h.get? b=some o->H b=none->b∉ex->H' b=none
 there:∀b o,h.get? b=some o->b∉ex->∃o',h'.get? b=some o'
 tups:∀b xs,H b=some (.tup xs)->H' b=some (.tup xs)
 frzs:∀b o u,H b=some (.frz o u)->H' b=some (.frz o u)
 tupo:∀b xs o,H b=some (.tup xs)->h.get? b=some o->b∉ex->h'.get? b=some o
 tbls:∀b ps,H b=some (.tbl ps)->∃more,H' b=some (.tbl (ps++more))
section
variable {fs fs' ex ex':Qg}{H H1 H2:Hp}{h h1 h2 h':Heap}{a x e:Addr}{o:HO}
def Un.any (u:Un fs ex H H1 h h1){b:Addr}{ob:Obj}(q:h.get? b=some ob)(n:H b=none)(hx:b∉ex):∃sl,h1.get? b=some { ob with slots:=sl }:=by
 by_cases hb:b∈fs
 ·exact u.slot b ob q n hb hx
 ·exact⟨ob.slots,u.keep b ob q n hb hx⟩
def Un.kept (k:∀b u,h.get? b=some u->h'.get? b=some u):Un fs ex H H h h' :=
 ⟨fun b ob q _ _ _=>k b ob q,fun b ob q _ _ _=>⟨ob.slots,k b ob q⟩,fun _ _ _ n _=>n,fun b ob q _=>⟨ob,k b ob q⟩,fun _ _ q=>q,fun _ _ _ q=>q,fun b _ ob _ e _=>k b ob e,fun _ ps q=>⟨#[],by rw[q];simp⟩⟩
def Un.refl:Un fs ex H H h h:=Un.kept fun _ _ q=>q
theorem Un.laid (k:∀b u,h.get? b=some u->h'.get? b=some u)(hp:h.objs.size<=a)(hn:H a=none):Un fs ex H (upd H a o) h h' where
 keep:=fun b u q _ _ _=>k b u q
 slot:=fun b u q _ _ _=>⟨u.slots,k b u q⟩
 free:=fun b u q n _=>by rw[Qr (Xo (Xs (Xj q) hp))];exact n
 there:=fun b u q _=>⟨u,k b u q⟩
 tups:=fun b xs q=>by rw[Qr (Zp q hn)];exact q
 frzs:=fun b u xs q=>by rw[Qr (Zp q hn)];exact q
 tupo:=fun b _ ob _ e _=>k b ob e
 tbls:=fun b ps q=>⟨#[],by rw[Qr (Zp q hn),q];simp⟩
def Un.write (mu:Mut (H x))(he:e=x\/H e=some (.own x))(k:∀b u,b≠e->h.get? b=some u->h'.get? b=some u)(heo:∃u,h'.get? e=some u):Un fs ex H (upd H x o) h h':=by
 have hx:∀b,H b=none->b≠x:=fun b n z=>by subst z;rw[n]at mu;exact mu
 have hb:∀b,H b=none->b≠e:=fun b n z=>by
  subst z;rcases he with r|r
  ·exact hx b n r
  ·rw[n]at r;cases r
 have hm:∀b u,H b=some u->¬Mut (some u)->b≠x:=fun b u q nm z=>by subst z;rw[q]at mu;exact nm mu
 refine⟨fun b u q n _ _=>k b u (hb b n) q,fun b u q n _ _=>⟨u.slots,k b u (hb b n) q⟩,fun b u q n _=>by rw[Qr (hx b n)];exact n,fun b u q _=>?_,
  fun b xs q=>by rw[Qr (hm b _ q fun z=>z)];exact q,fun b u xs q=>by rw[Qr (hm b _ q fun z=>z)];exact q,fun b xs u q e' _=>k b u (fun z=>by
   rcases he with r|r
   ·exact hm b _ q (fun y=>y) (z.trans r)
   ·rw[<- z,q]at r;cases r) e',fun b ps q=>⟨#[],by rw[Qr (hm b _ q fun z=>z),q];simp⟩⟩
 by_cases hbe:b=e
 ·subst hbe;exact heo
 ·exact⟨u,k b u hbe q⟩
end
def trk (h:Heap)(H:Hp):Qg:=(List.range h.objs.size).filter fun a=>(H a).isSome
def We (h:Heap)(H:Hp):Heap:=W.hideAll h (trk h H)
def Ap (h:Heap)(H:Hp):(We h H).objs.size=h.objs.size:=W.hideAll_size _ _
def CO {h:Heap}{H:Hp}{b:Addr}{o:Obj}(e:h.get? b=some o)(n:H b=none):(We h H).get? b=some o :=
 W.hideAll_get _ e fun hm=>by
  have q:(H b).isSome=true:=(List.mem_filter.mp hm).2;rw[n]at q;simp at q
def Lv {h:Heap}{H:Hp}{b:Addr}{o:Obj}(e:(We h H).get? b=some o):h.get? b=some o/\H b=none:=by
 have e':h.get? b=some o:=W.of_hideAll (trk h H) e;refine⟨e',?_⟩
 cases q:H b with
 |none=>rfl
 |some x =>
   have hm:b∈trk h H:=List.mem_filter.mpr ⟨XT.mpr (Xj e'),by simp[q]⟩;have z:(We h H).get? b=none:=W.hideAll_none (trk h H) hm;rw[z]at e;cases e
structure Mod (K:W.Frag)(mg:Str->Qf)(base:Heap):Prop where
 kin:K.In base
 glob:base.Ns mainGlobals mg
 blt:∃mb,base.Ns builtinsNs mb/\∀x:Str,x ≠ "__name__" -> mb x=bootBuiltins x
 nolimit:base.NoLimit
structure Cx where
 prog:Program
 w:World
 K:W.Frag
 mg:Str->Qf
 base:Heap
 A:Around
 N:Qh
 s₀:Shared
 H₀:Hp
 env:Env
 outer:List Env
 stack:List Env
 ex:Qg
 fn:Str->Bool
 calm:Bool
 pn:Qc
 xe:Qb
def frs (l:List Env):Qg:=l.filterMap (·.frame)
abbrev Cx.fs (X:Cx):Qg:=frs X.outer
def Vis (sc:Scope)(x:Str):Prop:=sc.names.lookup x=some .local\/sc.names.lookup x=some .cell\/sc.names.lookup x=some .free
def Loc (sc:Scope)(x:Str):Prop:=sc.names.lookup x=some .local\/sc.names.lookup x=some .cell
def Pj (env:Env)(h:Heap)(m:Str->Qf)(x:Str)(u:Value):Prop :=
 (env.kindOf x=some .local/\m x=some u)\/((env.kindOf x=some .cell\/env.kindOf x=some .free)/\∃c,env.cells.lookup x=some c/\h.IsCell c (some u))
structure Cx.Ok (X:Cx):Prop where
 mod:Mod X.K X.mg X.base
 kind:X.env.scope.kind=.function
 glob:X.env.globals=mainGlobals
 blt:X.env.builtins=builtinsNs
 above:X.s₀.heap.objs.size<=X.env.locals
 inj:∀x y c,X.env.cells.lookup x=some c->X.env.cells.lookup y=some c->x=y
 has:∀x,(X.env.kindOf x=some .cell\/X.env.kindOf x=some .free)->∃c,X.env.cells.lookup x=some c
 cab:∀x c,X.fn x=true->X.env.cells.lookup x=some c->X.s₀.heap.objs.size<=c
 hd:X.calm=true->X.A.handled=none
 frames:X.A.frames=some X.stack
 stk:X.stack=X.outer\/(X.stack=X.env::X.outer/\X.env.frame=some X.env.locals)
 exf:∀b∈X.ex,b≠X.env.locals/\∀x c,X.env.cells.lookup x=some c->c≠b
 bs:∀b o,X.base.get? b=some o->X.s₀.heap.get? b=some o/\(X.H₀ b=none\/∃xs,X.H₀ b=some (.tup xs))
 bsz:X.base.objs.size<=X.s₀.heap.objs.size
 noex:∀b o,X.base.get? b=some o->b∉X.ex
 exfs:∀b∈X.ex,b∉X.fs
 funs:X.s₀.heap.FunFrames X.base X.outer
 frf:∀b∈X.fs,X.H₀ b=none
structure Qq (X:Cx)(XaR:Qc)(σ:List (Option V))(H:Hp)(s:Shared):Prop where
 ok:X.Ok
 os:s.os=X.s₀.os
 bare:AllBare s.gens
 base:Un X.fs X.ex X.H₀ H X.s₀.heap s.heap
 loc:∃m,s.heap.Ns X.env.locals m/\∀(i:Nat) (x:Str) (v:V),X.N[i]?=some x->σ[i]?=some (some v)->Vis X.env.scope x->∃u,QI v u/\Pj X.env s.heap m x u
 cell:∀x c,X.env.cells.lookup x=some c->∃v,s.heap.IsCell c v
 free:H X.env.locals=none
 freeC:∀x c,X.env.cells.lookup x=some c->H c=none
 pin:∀p∈X.pn++XaR,s.heap.get? p.1=some p.2/\H p.1=none/\p.1≠X.env.locals/\p.1∉X.fs/\∀v,p.2.data≠.cell v
 hok:HOk X.prog X.w H s.heap
 len:σ.length=X.N.length
section
variable {X:Cx}{XaR:Qc}{σ:List (Option V)}{H H':Hp}{s:Shared}{h':Heap}
def Cx.Ok.nofr (ok:X.Ok){b:Addr}{o:Obj}(e:X.base.get? b=some o):b∉X.fs:=fun hb=>by
 have:=(ok.funs.mem hb).1
 rw[e]at this;cases this
def Qq.bs (I:Qq X XaR σ H s):∀b o,X.base.get? b=some o->s.heap.get? b=some o/\(H b=none\/∃xs,H b=some (.tup xs)):=fun b o e=>by
 obtain⟨e1,e2⟩:=I.ok.bs b o e
 rcases e2 with e2|⟨xs,e2⟩
 ·exact⟨I.base.keep b o e1 e2 (I.ok.nofr e) (I.ok.noex b o e),.inl (I.base.free b o e1 e2 (I.ok.noex b o e))⟩
 ·exact⟨I.base.tupo b xs o e2 e1 (I.ok.noex b o e),.inr ⟨xs,I.base.tups b xs e2⟩⟩
def Qq.bk (I:Qq X XaR σ H s):∀b o,X.base.get? b=some o->s.heap.get? b=some o:=fun b o e=>(I.bs b o e).1
def Qq.mod (I:Qq X XaR σ H s):Mod X.K X.mg X.base:=I.ok.mod
def Qq.kIn (I:Qq X XaR σ H s):X.K.In s.heap:=I.ok.mod.kin.keeps I.bk
def Qq.lt (I:Qq X XaR σ H s):X.env.locals<s.heap.objs.size:=let ⟨_,hn,_⟩:=I.loc;hn.lt
def Qq.sz (I:Qq X XaR σ H s):X.s₀.heap.objs.size<=s.heap.objs.size:=XZ I.ok.above (Yt I.lt)
def Qq.nofs (I:Qq X XaR σ H s){a:Addr}(h:s.heap.objs.size<=a):a∉X.fs:=fun hb=>by
 obtain⟨_,o,ho,_⟩:=I.ok.funs.mem hb;exact Xk (Xs (Xj ho) (XZ I.sz h)) (XW _)
def Qq.cne (I:Qq X XaR σ H s):∀x c,X.env.cells.lookup x=some c->c≠X.env.locals:=fun x c e z=>by
 obtain⟨v,o,ho,hd⟩:=I.cell x c e;obtain⟨m,⟨o',es,ep,ho',hd',_⟩,_⟩:=I.loc;rw[z,ho']at ho;cases ho;rw[hd']at hd;cases hd
def Qq.funs (I:Qq X XaR σ H s):s.heap.FunFrames X.base X.outer:=by
 have all:∀(l:List Env),(∀b∈frs l,b∈X.fs)->X.s₀.heap.FunFrames X.base l->s.heap.FunFrames X.base l:=by
  intro l;induction l with
  |nil=>intro _ _;trivial
  |cons env r ih =>
    intro hs hl;obtain⟨hk,⟨L,o,hf,hn,ho,hd⟩,hr⟩:=hl;have hL:L∈X.fs:=hs L (by unfold frs;rw[List.filterMap_cons,hf];exact Xa);obtain⟨sl,e⟩:=I.base.slot L o ho (I.ok.frf L hL) hL fun z=>I.ok.exfs L z hL
    exact⟨hk,⟨L,_,hf,hn,e,hd⟩,ih (fun b hb=>hs b (by unfold frs;rw[List.filterMap_cons,hf];exact Xd _ hb)) hr⟩
 exact all X.outer (fun _ hb=>hb) I.ok.funs
def Qq.stack (I:Qq X XaR σ H s):s.heap.FunFrames X.base X.stack:=by
 rcases I.ok.stk with e|⟨e,hf⟩
 ·rw[e];exact I.funs
 ·rw[e]
  obtain⟨m,hn,_⟩:=I.loc;refine .cons (by rw[I.ok.kind];decide) hf hn ?_ I.funs;exact Heap.get?_none_of_le (XZ I.ok.bsz I.ok.above)
def Qq.stkSub (I:Qq X XaR σ H s):∀b∈frs X.stack,b∈X.env.locals::X.fs:=fun b hb=>by
 rcases I.ok.stk with e|⟨e,hf⟩
 ·rw[e]at hb;exact Xd _ hb
 ·rw[e]at hb
  unfold frs at hb;rw[List.filterMap_cons,hf]at hb;exact hb
def Qq.stkFree (I:Qq X XaR σ H s):∀b∈frs X.stack,H b=none:=fun b hb=>by
 rcases Xf.mp (I.stkSub b hb) with e|hb
 ·rw[e];exact I.free
 ·obtain⟨_,o,ho,_⟩:=I.ok.funs.mem hb
  exact I.base.free b o ho (I.ok.frf b hb) fun z=>I.ok.exfs b z hb
def Qq.step {g':Array GenState}{t':Nat}{d':Drawn}{ch:Qg}(I:Qq X XaR σ H s)
 (hch:∀b∈ch,(b∈X.ex\/X.s₀.heap.objs.size<=b)/\b≠X.env.locals/\(∀x c,X.env.cells.lookup x=some c->c≠b)/\∀p∈X.pn++XaR,p.1≠b)
 (keep:∀b o,b≠X.env.locals->b∉X.fs->b∉ch->s.heap.get? b=some o->H b=none->h'.get? b=some o)
 (slot:∀b o,b≠X.env.locals->b∈X.fs->b∉ch->s.heap.get? b=some o->H b=none->∃sl,h'.get? b=some { o with slots:=sl }) (free:∀b o,b∉ch->s.heap.get? b=some o->H b=none->H' b=none)
 (there:∀b o,b∉ch->s.heap.get? b=some o->∃o',h'.get? b=some o')
 (tups:∀b xs,H b=some (.tup xs)->H' b=some (.tup xs)) (frzs:∀b o u,H b=some (.frz o u)->H' b=some (.frz o u)) (tbls:∀b ps,H b=some (.tbl ps)->∃more,H' b=some (.tbl (ps++more)))
 (ns:∀m,s.heap.Ns X.env.locals m->h'.Ns X.env.locals m) (hok:HOk X.prog X.w H' h') (hg:AllBare g') (tupo:∀b xs o,b∉ch->H b=some (.tup xs)->s.heap.get? b=some o->h'.get? b=some o) :
 Qq X XaR σ H' { s with heap:=h',gens:=g',drawn:=d',toks:=t' }:=by
 have neL:∀b o,X.s₀.heap.get? b=some o->b≠X.env.locals:=fun b o e=>Xo (Xs (Xj e) I.ok.above)
 have neC:∀b o,X.s₀.heap.get? b=some o->b∉X.ex->b∉ch:=fun b o e hx hb=>by
  rcases(hch b hb).1 with z|z
  ·exact hx z
  ·exact Xk (Xs (Xj e) z) (XW _)
 have cellK:∀x c,X.env.cells.lookup x=some c->∀v,s.heap.IsCell c v->h'.IsCell c v:=fun x c e v ⟨o,ho,hd⟩=>by
  have nch:c∉ch:=fun z=>(hch c z).2.2.1 x c e rfl
  by_cases hc:c∈X.fs
  ·obtain⟨sl,q⟩:=slot c o (I.cne x c e) hc nch ho (I.freeC x c e)
   exact⟨_,q,hd⟩
  ·exact⟨o,keep c o (I.cne x c e) hc nch ho (I.freeC x c e),hd⟩
 refine⟨I.ok,I.os,hg,⟨fun b o e n hb hx=>?_,fun b o e n hb hx=>?_,fun b o e n hx=>?_,fun b o e hx=>?_,fun b xs e=>tups b xs (I.base.tups b xs e),fun b o xs e=>frzs b o xs (I.base.frzs b o xs e),fun b xs o q e hx=>tupo b xs o (neC b o e hx) (I.base.tups b xs q) (I.base.tupo b xs o q e hx),fun b ps e=>?_⟩,?_,fun x c e=>?_,?_,fun x c e=>?_,fun p hp=>?_,hok,I.len⟩
 ·exact keep b o (neL b o e) hb (neC b o e hx) (I.base.keep b o e n hb hx) (I.base.free b o e n hx)
 ·obtain⟨sl,e1⟩:=I.base.slot b o e n hb hx
  obtain⟨sl',e2⟩:=slot b _ (neL b o e) hb (neC b o e hx) e1 (I.base.free b o e n hx)
  exact⟨sl',e2⟩
 ·obtain⟨o',e1⟩:=I.base.there b o e hx
  exact free b o' (neC b o e hx) e1 (I.base.free b o e n hx)
 ·obtain⟨o',e1⟩:=I.base.there b o e hx
  exact there b o' (neC b o e hx) e1
 ·obtain⟨m1,e1⟩:=I.base.tbls b ps e
  obtain⟨m2,e2⟩:=tbls b _ e1
  exact⟨m1++m2,by rw[e2,Array.append_assoc]⟩
 ·obtain⟨m,hn,hl⟩:=I.loc
  refine⟨m,ns m hn,fun i x v e1 e2 e3=>?_⟩;obtain⟨u,r,l⟩:=hl i x v e1 e2 e3;refine⟨u,r,?_⟩
  rcases l with l|⟨k,c,e,z⟩
  ·exact .inl l
  ·exact .inr ⟨k,c,e,cellK x c e _ z⟩
 ·obtain⟨v,z⟩:=I.cell x c e
  exact⟨v,cellK x c e v z⟩
 ·obtain⟨m,⟨o,_,_,ho,_⟩,_⟩:=I.loc
  exact free _ o (fun z=>(hch _ z).2.1 rfl) ho I.free
 ·obtain⟨v,o,ho,hd⟩:=I.cell x c e
  exact free c o (fun z=>(hch c z).2.2.1 x c e rfl) ho (I.freeC x c e)
 ·obtain⟨e,n,ne,nf,d⟩:=I.pin p hp
  have nch:p.1∉ch:=fun z=>(hch p.1 z).2.2.2 p hp rfl
  exact⟨keep p.1 p.2 ne nf nch e n,free p.1 p.2 nch e n,ne,nf,d⟩
def Qq.un {t':Nat}(I:Qq X XaR σ H s)(u:Un X.fs [] H H' s.heap h')(hok:HOk X.prog X.w H' h'):Qq X XaR σ H' { s with heap:=h',toks:=t' }:=by
 obtain⟨m,⟨o,es,ep,ho,r⟩,_⟩:=id I.loc;obtain⟨sl,hL⟩:=u.any ho I.free (by simp)
 exact I.step (g':=s.gens) (d':=s.drawn) (ch:=[]) (fun _ z=>nomatch z) (fun b o _ hb _ e n=>u.keep b o e n hb (by simp)) (fun b o _ hb _ e n=>u.slot b o e n hb (by simp)) (fun b o _ e n=>u.free b o e n (by simp)) (fun b o _ e=>u.there b o e (by simp)) u.tups u.frzs u.tbls (fun m' hm=>by
  obtain⟨o',es',ep',ho',r'⟩:=hm;rw[ho]at ho';cases ho';exact⟨_,es',ep',hL,r'⟩) hok I.bare (fun b xs o _ q e=>u.tupo b xs o q e (by simp))
def Qq.call {g':Array GenState}{t':Nat}{d':Drawn}{ch:Qg}(I:Qq X XaR σ H s)(u:Un (frs X.stack) ch H H' s.heap h')(hok:HOk X.prog X.w H' h')(hg:AllBare g')
 (hch:∀b∈ch,(b∈X.ex\/X.s₀.heap.objs.size<=b)/\b≠X.env.locals/\(∀x c,X.env.cells.lookup x=some c->c≠b)/\∀p∈X.pn++XaR,p.1≠b) :
 Qq X XaR σ H' { s with heap:=h',gens:=g',drawn:=d',toks:=t' }:=by
 obtain⟨m,⟨o,es,ep,ho,r⟩,_⟩:=id I.loc;obtain⟨sl,hL⟩:=u.any ho I.free fun z=>(hch _ z).2.1 rfl
 exact I.step (ch:=ch) hch (fun b o hL hb hc e n=>u.keep b o e n (fun z=>(Xf.mp (I.stkSub b z)).elim hL hb) hc) (fun b o _ _ hc e n=>u.any e n hc) (fun b o hc e n=>u.free b o e n hc) (fun b o hc e=>u.there b o e hc) u.tups u.frzs u.tbls (fun m' hm=>by
  obtain⟨o',es',ep',ho',r'⟩:=hm;rw[ho]at ho';cases ho';exact⟨_,es',ep',hL,r'⟩) hok hg (fun b xs o hc q e=>u.tupo b xs o q e hc)
def Qq.turned {t':Nat}{it:Addr}(I:Qq X XaR σ H s)(k:∀b o,b≠it->s.heap.get? b=some o->h'.get? b=some o)(hn:H it=none)(hL:it≠X.env.locals)
 (h1:it∈X.ex\/X.s₀.heap.objs.size<=it) (h2:∀x c,X.env.cells.lookup x=some c->c≠it) (h3:∀p∈X.pn++XaR,p.1≠it):Qq X XaR σ H { s with heap:=h',toks:=t' }:=by
 have nit:∀b u,H b=some u->b≠it:=fun b u e z=>by rw[z,hn]at e;cases e
 refine I.step (g':=s.gens) (d':=s.drawn) (ch:=[it]) (fun b hb=>?_) (fun b o _ _ hc e _=>k b o (fun z=>hc (by simp[z])) e) (fun b o _ _ hc e _=>⟨o.slots,k b o (fun z=>hc (by simp[z])) e⟩) (fun _ _ _ _ n=>n)
  (fun b o hc e=>⟨o,k b o (fun z=>hc (by simp[z])) e⟩) (fun _ _ e=>e) (fun _ _ _ e=>e) (fun b ps e=>⟨#[],by rw[e];simp⟩) (fun m hm=>?_) (fun b u e=>?_) I.bare (fun b _ o hc _ e=>k b o (fun z=>hc (by simp[z])) e)
 ·have e:b=it:=by simpa using hb
  subst e;exact⟨h1,hL,h2,h3⟩
 ·obtain⟨o,es,ep,ho,r⟩:=hm
  exact⟨o,es,ep,k _ o (Ne.symm hL) ho,r⟩
 ·refine(I.hok b u e).stay (fun c v hc q=>k c v ?_ q) (fun _ q=>q) fun _ _ q=>q
  rcases hc with z|z
  ·rw[z];exact nit b u e
  ·exact nit c _ z
def Qq.tok (I:Qq X XaR σ H s)(t:Nat):Qq X XaR σ H { s with toks:=t }:=I.un (h':=s.heap) (t':=t) Un.refl I.hok
def Qq.kept {t':Nat}(I:Qq X XaR σ H s)(k:∀b u,s.heap.get? b=some u->h'.get? b=some u):Qq X XaR σ H { s with heap:=h',toks:=t' }:=I.un (Un.kept k) (I.hok.kept k)
def Qq.laid {a:Addr}{o:HO}{t':Nat}(I:Qq X XaR σ H s)(k:∀b u,s.heap.get? b=some u->h'.get? b=some u)(hp:s.heap.objs.size<=a)(new:Z0 X.prog X.w (upd H a o) h' a o) :
 Qq X XaR σ (upd H a o) { s with heap:=h',toks:=t' }:=I.un (Un.laid k hp (I.hok.fresh hp)) (I.hok.laid k hp new)
def Qq.write {x e:Addr}{o:HO}{t':Nat}(I:Qq X XaR σ H s)(mu:Mut (H x))(he:e=x\/H e=some (.own x))(k:∀b u,b≠e->s.heap.get? b=some u->h'.get? b=some u)(heo:∃u,h'.get? e=some u)
 (new:Z0 X.prog X.w (upd H x o) h' x o):Qq X XaR σ (upd H x o) { s with heap:=h',toks:=t' }:=I.un (Un.write mu he k heo) (I.hok.write mu he k heo new)
def Qq.weak {σ':List (Option V)}(I:Qq X XaR σ H s)(hl:σ'.length=σ.length)(w:∀(i:Nat) v,σ'[i]?=some (some v)->σ[i]?=some (some v)):Qq X XaR σ' H s :=
 ⟨I.ok,I.os,I.bare,I.base,let ⟨m,hn,hl'⟩:=I.loc;⟨m,hn,fun i x v e1 e2 e3=>hl' i x v e1 (w i v e2) e3⟩,I.cell,I.free,I.freeC,I.pin,I.hok,hl.trans I.len⟩
def Qq.pins_of {pins':Qc}(I:Qq X XaR σ H s)(h:∀p∈pins',s.heap.get? p.1=some p.2/\H p.1=none/\p.1≠X.env.locals/\p.1∉X.fs/\∀v,p.2.data≠.cell v):Qq X pins' σ H s :=
 ⟨I.ok,I.os,I.bare,I.base,I.loc,I.cell,I.free,I.freeC,fun p hp=>(Xx.mp hp).elim (fun z=>I.pin p (JK _ z)) (h p),I.hok,I.len⟩
def DE {N:Qh}(hN:N.Nodup){i j:Nat}{x:Str}(a:N[i]?=some x)(b:N[j]?=some x):i=j:=by
 obtain⟨h1,e1⟩:=Xh.mp a;obtain⟨h2,e2⟩:=Xh.mp b
 exact(List.getElem_inj hN).mp (e1.trans e2.symm)
def DV {M:Model}{A:Around}{E:Qb}{i:Nat}{x:Str}{v:V}{u:Value}{Q:Unit->Shared->Prop}(I:Qq X XaR σ H s)(hN:X.N.Nodup)(hi:X.N[i]?=some x)(hx:Loc X.env.scope x)(r:QI v u)
 (h:∀s',Qq X XaR (σ.set i (some v)) H s'->(∃a,Heap.SameBut a s.heap s'.heap/\(a=X.env.locals\/X.env.cells.lookup x=some a))->Q () s') (hf:X.fn x=true\/X.env.scope.names.lookup x=some .local:=by first|exact .inl rfl|exact .inr rfl|assumption):wpAny M A (storeName X.env x u) Q E s:=by
 obtain⟨m,hn,hl⟩:=id I.loc;have hcls:(X.env.scope.kind==.class||(X.env.scope.kind==.module&&X.env.locals != X.env.globals))=false:=by rw[I.ok.kind];rfl
 have hiσ:i<σ.length:=by rw[I.len];exact(Xh.mp hi).1
 have cne:=I.cne
 have tracked:∀{a:Addr} {h':Heap},(∃o,s.heap.get? a=some o/\H a=none)->Heap.SameBut a s.heap h'->HOk X.prog X.w H h':=fun{a h'} ha hs b ob e=>by
  obtain⟨_,_,hfree⟩:=ha;refine(I.hok b ob e).stay (fun c w' hc q=>(hs.2 c ?_).trans q) (fun _ q=>q) fun _ _ q=>q
  rintro rfl
  rcases hc with rfl|hc
  ·rw[hfree]at e;cases e
  ·rw[hfree]at hc;cases hc
 rcases hx with hk|hk
 ·refine wpAny_storeName_local hk hn (fun h' hn' hs=>?_) hcls
  obtain⟨oL,_,_,hoL,_⟩:=id hn;refine h _ ⟨I.ok,I.os,I.bare,⟨fun b o e n hb hx=>?_,fun b o e n hb hx=>?_,I.base.free,fun b o e hx=>?_,I.base.tups,I.base.frzs,fun b xs o q e hx=>(hs.2 b (Xo (Xs (Xj e) I.ok.above))).trans (I.base.tupo b xs o q e hx),I.base.tbls⟩,⟨_,hn',fun j y v' e1 e2 e3=>?_⟩,fun y c e=>?_,I.free,I.freeC,fun p hp=>?_,tracked ⟨oL,hoL,I.free⟩ hs,by simpa using I.len⟩ ⟨_,hs,.inl rfl⟩
  ·exact(hs.2 b (Xo (Xs (Xj e) I.ok.above))).trans (I.base.keep b o e n hb hx)
  ·obtain⟨sl,e1⟩:=I.base.slot b o e n hb hx
   exact⟨sl,(hs.2 b (Xo (Xs (Xj e) I.ok.above))).trans e1⟩
  ·obtain⟨o',e1⟩:=I.base.there b o e hx
   exact⟨o',(hs.2 b (Xo (Xs (Xj e) I.ok.above))).trans e1⟩
  ·by_cases hj:j=i
   ·subst hj
    rw[hi]at e1;cases e1;rw[Xl hiσ]at e2;cases e2
    exact⟨u,r,.inl ⟨hk,by simp⟩⟩
   ·rw[Xr (Ne.symm hj)]at e2
    obtain⟨u',r',q⟩:=hl j y v' e1 e2 e3;refine⟨u',r',?_⟩
    rcases q with ⟨k,e⟩|⟨k,c,e,z⟩
    ·refine .inl ⟨k,?_⟩
     have:y≠x:=fun e=>hj (DE hN e1 (e▸hi))
     simp[this,e]
    ·exact .inr ⟨k,c,e,z.sameBut hs (cne y c e)⟩
  ·obtain⟨w',z⟩:=I.cell y c e
   exact⟨w',z.sameBut hs (cne y c e)⟩
  ·obtain⟨e,n,ne,nf,d⟩:=I.pin p hp
   exact⟨(hs.2 p.1 ne).trans e,n,ne,nf,d⟩
 ·have hfn:X.fn x=true:=by
   rcases hf with z|z
   ·exact z
   ·rw[z]at hk;cases hk
  obtain⟨c,hc⟩:=I.ok.has x (.inl hk);obtain⟨w',z⟩:=I.cell x c hc;refine wpAny_storeName_cell I.ok.kind hk hc z (fun h' hc' hs=>?_);obtain⟨oc,hoc,hocd⟩:=id z;refine h { s with heap:=h' } ⟨I.ok,I.os,I.bare,⟨fun b o e n hb hx=>?_,fun b o e n hb hx=>?_,I.base.free,fun b o e hx=>?_,I.base.tups,I.base.frzs,fun b xs o q e hx=>(hs.2 b (Xo (Xs (Xj e) (I.ok.cab x c hfn hc)))).trans (I.base.tupo b xs o q e hx),I.base.tbls⟩,⟨m,hn.sameBut hs (Ne.symm (cne x c hc)),fun j y v' e1 e2 e3=>?_⟩,fun y c' e=>?_,I.free,I.freeC,fun p hp=>?_,tracked ⟨oc,hoc,I.freeC x c hc⟩ hs,by simpa using I.len⟩ ⟨c,hs,.inr hc⟩
  ·exact(hs.2 b (Xo (Xs (Xj e) (I.ok.cab x c hfn hc)))).trans (I.base.keep b o e n hb hx)
  ·obtain⟨sl,e1⟩:=I.base.slot b o e n hb hx
   exact⟨sl,(hs.2 b (Xo (Xs (Xj e) (I.ok.cab x c hfn hc)))).trans e1⟩
  ·obtain⟨o',e1⟩:=I.base.there b o e hx
   exact⟨o',(hs.2 b (Xo (Xs (Xj e) (I.ok.cab x c hfn hc)))).trans e1⟩
  ·by_cases hj:j=i
   ·subst hj
    rw[hi]at e1;cases e1;rw[Xl hiσ]at e2;cases e2
    exact⟨u,r,.inr ⟨.inl hk,c,hc,hc'⟩⟩
   ·rw[Xr (Ne.symm hj)]at e2
    obtain⟨u',r',q⟩:=hl j y v' e1 e2 e3;refine⟨u',r',?_⟩
    rcases q with q|⟨k,c',e,z'⟩
    ·exact .inl q
    ·refine .inr ⟨k,c',e,z'.sameBut hs ?_⟩
     rintro rfl
     exact hj (DE hN e1 (I.ok.inj _ _ _ e hc▸hi))
  ·by_cases hcc:c'=c
   ·subst hcc;exact⟨_,hc'⟩
   ·obtain⟨w2,z2⟩:=I.cell y c' e
    exact⟨w2,z2.sameBut hs hcc⟩
  ·obtain⟨e,n,ne,nf,d⟩:=I.pin p hp
   refine⟨(hs.2 p.1 ?_).trans e,n,ne,nf,d⟩;intro q;rw[q,hoc]at e;have q':oc=p.2:=Option.some.inj e;exact d w' (by rw[<- q'];exact hocd)
def Bz {M:Model}{A:Around}{E:Qb}{i:Nat}{x:Str}{v:V}{u:Value}{Q:Unit->Shared->Prop}(I:Qq X XaR σ H s)(hN:X.N.Nodup)(hi:X.N[i]?=some x)(hx:Loc X.env.scope x)(r:QI v u)
 (h:∀s',Qq X XaR (σ.set i (some v)) H s'->Q () s') (hf:X.fn x=true\/X.env.scope.names.lookup x=some .local:=by first|exact .inl rfl|exact .inr rfl|assumption):wpAny M A (storeName X.env x u) Q E s :=
 DV I hN hi hx r (fun s' I' _=>h s' I') hf
def Qq.call' {s':Shared}{ch:Qg}(I:Qq X XaR σ H s)(ho:s'.os=s.os)(u:Un (frs X.stack) ch H H' s.heap s'.heap)(hok:HOk X.prog X.w H' s'.heap)(hg:AllBare s'.gens)
 (hch:∀b∈ch,(b∈X.ex\/X.s₀.heap.objs.size<=b)/\b≠X.env.locals/\(∀x c,X.env.cells.lookup x=some c->c≠b)/\∀p∈X.pn++XaR,p.1≠b):Qq X XaR σ H' s':=by
 obtain⟨h',g',d',t',o'⟩:=s';have e:o'=s.os:=ho;subst e;exact I.call (g':=g') (t':=t') (d':=d') u hok hg hch
end
abbrev XK:=Value->Qj->Hp->Prop
abbrev St:=List (Option V)
abbrev VK:=V->Hp->Prop
abbrev TE:=St->Hp->VK->Prop
abbrev TT:=St->Hp->(Bool->Hp->Prop)->Prop
abbrev TA:=St->Hp->(List V->Hp->Prop)->Prop
structure Ends where
 nx:St->Hp->Prop
 rt:VK
 bk:St->Hp->Prop:=fun _ _=>False
 ct:St->Hp->Prop:=fun _ _=>False
abbrev TS:=Ends->St->Hp->Prop
def EP (X:Cx)(XaR:Qc)(σ:St)(Q:VK)(u:Value)(s':Shared):Prop := ∃v H',Qq X XaR σ H' s'/\QI v u/\Q v H'
def TP (X:Cx)(XaR:Qc)(σ:St)(Q:Bool->Hp->Prop)(b:Bool)(s':Shared):Prop := ∃H',Qq X XaR σ H' s'/\Q b H'
def AP (X:Cx)(XaR:Qc)(σ:St)(Q:List V->Hp->Prop)(us:Qe)(s':Shared):Prop := ∃vs H',Qq X XaR σ H' s'/\QS vs us/\Q vs H'
def SP (X:Cx)(XaR:Qc)(D:Ends)(f:Flow)(s':Shared):Prop :=
 match f with
 |.next=>∃σ' H',Qq X XaR σ' H' s'/\D.nx σ' H'
 |.brk=>∃σ' H',Qq X XaR σ' H' s'/\D.bk σ' H'
 |.cont=>∃σ' H',Qq X XaR σ' H' s'/\D.ct σ' H'
 |.ret u=>∃v σ' H',Qq X XaR σ' H' s'/\QI v u/\D.rt v H'
def PE (X:Cx)(e:Expr)(t:TE):Prop :=
 ∀(XaR:Qc) (s:Shared) (σ:St) (H:Hp) (Q:VK),Qq X XaR σ H s->t σ H Q->wpAny (model X.prog X.w) X.A (eval e X.env) (EP X XaR σ Q) X.xe s
def PT (X:Cx)(e:Expr)(t:TT):Prop :=
 ∀(XaR:Qc) (s:Shared) (σ:St) (H:Hp) (Q:Bool->Hp->Prop),Qq X XaR σ H s->t σ H Q->wpAny (model X.prog X.w) X.A (isTrue e X.env (eval e X.env)) (TP X XaR σ Q) X.xe s
def PW (X:Cx)(e:Expr)(t:TT):Prop :=
 ∀(whole:Sem Value) (XaR:Qc) (s:Shared) (σ:St) (H:Hp) (Q:Bool->Hp->Prop),Qq X XaR σ H s->t σ H Q->wpAny (model X.prog X.w) X.A (isTrue e X.env whole) (TP X XaR σ Q) X.xe s
def PW.pt {X:Cx}{e:Expr}{t:TT}(h:PW X e t):PT X e t:=h _
def PA (X:Cx)(es:Qi)(t:TA):Prop :=
 ∀(pos:Pos) (XaR:Qc) (s:Shared) (σ:St) (H:Hp) (Q:List V->Hp->Prop),Qq X XaR σ H s->t σ H Q->wpAny (model X.prog X.w) X.A (spliced (backTo pos (starEach es X.env))) (AP X XaR σ Q) X.xe s
def PS (X:Cx)(st:Stmt)(t:TS):Prop :=
 ∀(XaR:Qc) (s:Shared) (σ:St) (H:Hp) (D:Ends),Qq X XaR σ H s->t D σ H->wpAny (model X.prog X.w) X.A (exec st X.env) (SP X XaR D) X.xe s
def PSs (X:Cx)(st:List Stmt)(t:TS):Prop :=
 ∀(XaR:Qc) (s:Shared) (σ:St) (H:Hp) (D:Ends),Qq X XaR σ H s->t D σ H->wpAny (model X.prog X.w) X.A (execs st X.env) (SP X XaR D) X.xe s
def Q2 {α:Type}{t:Sem α}{Q Q':α->Shared->Prop}{M:Model}{A:Around}{E:Qb}{s:Shared}(h:wpAny M A t Q E s)(hQ:∀a s,Q a s->Q' a s):wpAny M A t Q' E s:=wpAny_mono h hQ fun _ _ x=>x
section
variable {X:Cx}
def Q8 (i:Nat):TE:=fun σ H Q=>∃v,σ[i]?=some (some v)/\Q v H
def tC (v:V):TE:=fun _ H Q=>Q v H
def Nv {i:Nat} {x:Str} {pos:Pos} (hN:X.N[i]?=some x) (hv:Vis X.env.scope x) (hd:(x==("__debug__" : Str))=false:=by decide) (hcd:(x==("__classdict__" : Str))=false:=by decide):PE X (.Name x pos) (Q8 i):=by
 intro XaR s σ H Q I h;obtain⟨v,e,h⟩:=h;obtain⟨m,hn,hl⟩:=I.loc;obtain⟨u,r,l⟩:=hl i x v hN e hv;have fin:EP X XaR σ Q u s:=⟨v,H,I,r,h⟩
 rcases l with ⟨hk,hm⟩|⟨hk,c,hc,hcell⟩
 ·exact wpAny_Name (wpAny_loadName_local I.ok.kind hk hn hm fin) hd
 ·rcases hk with hk|hk
  ·exact wpAny_Name (wpAny_loadName_cell I.ok.kind hk hc hcell fin) hd
  ·exact wpAny_Name (wpAny_loadName_free I.ok.kind hk hc hcell fin hcd) hd
def Qz {i j pos}:PE X (.Constant (.int i) j pos) (tC (.int i)):=fun _ _ _ H _ I h=>wpAny_Constant_int ⟨.int i,H,I.tok _,⟨_,rfl⟩,h⟩
def YG {b j pos}:PE X (.Constant (.bool b) j pos) (tC (.bl b)):=fun _ _ _ H _ I h=>Constant_bool ⟨.bl b,H,I,rfl,h⟩
def GP {j pos}:PE X (.Constant .none j pos) (tC .non):=fun _ _ _ H _ I h=>Constant_none ⟨.non,H,I,rfl,h⟩
def VG {x j pos}:PE X (.Constant (.str x) j pos) (tC (.str x)):=fun _ _ _ H _ I h=>Calls.Constant_str ⟨.str x,H,I.tok _,⟨_,rfl⟩,h⟩
def Gl (X:Cx)(x:Str):Prop:=X.env.kindOf x=some .globalImplicit
def Jp {E:Qb}{XaR:Qc}{s:Shared}{σ:St}{H:Hp}{x:Str}{u:Value}{pos:Pos}{Q:Qb}(I:Qq X XaR σ H s)(hg:Gl X x)(hm:X.mg x=some u)(h:Q u s)
 (hd:(x==("__debug__" : Str))=false:=by decide):wpAny (model X.prog X.w) X.A (eval (.Name x pos) X.env) Q E s :=
 Calls.Name_function_global I.ok.kind hg (Calls.loadGlobal_global (by rw[I.ok.glob];exact I.mod.glob.keeps I.bk) hm h) hd
def W8 {E:Qb}{XaR:Qc}{s:Shared}{σ:St}{H:Hp}{x:Str}{u:Value}{pos:Pos}{Q:Qb}(I:Qq X XaR σ H s)(hg:Gl X x)(hm:X.mg x=none)(hv:bootBuiltins x=some u)(h:Q u s)
 (hn:x ≠ "__name__" := by decide) (hd:(x==("__debug__" : Str))=false:=by decide):wpAny (model X.prog X.w) X.A (eval (.Name x pos) X.env) Q E s:=by
 obtain⟨mb,h1,h2⟩:=I.mod.blt;exact Calls.Name_function_global I.ok.kind hg (Calls.loadGlobal_builtin (by rw[I.ok.glob];exact I.mod.glob.keeps I.bk) hm (by rw[I.ok.blt];exact h1.keeps I.bk) ((h2 x hn).trans hv) h) hd
def Y4 {x:Str} {v:V} {u:Value} {pos:Pos} (hg:Gl X x) (hm:X.mg x=some u) (r:QI v u) (hd:(x==("__debug__" : Str))=false:=by decide):PE X (.Name x pos) (tC v) :=
 fun _ _ _ H _ I h=>Jp I hg hm ⟨v,H,I,r,h⟩ hd
def Wn {x:Str} {v:V} {u:Value} {pos:Pos} (hg:Gl X x) (hm:X.mg x=none) (hv:bootBuiltins x=some u) (r:QI v u) (hn:x ≠ "__name__" := by decide) (hd:(x==("__debug__" : Str))=false:=by decide):PE X (.Name x pos) (tC v) :=
 fun _ _ _ H _ I h=>W8 I hg hm hv ⟨v,H,I,r,h⟩ hn hd
variable {a b:Expr}{ta tb:TE}{pos:Pos}
def PC (X:Cx)(op:CmpOp)(a b:Expr)(t:TE):Prop :=
 ∀(XaR:Qc) (s:Shared) (σ:St) (H:Hp) (Q:VK),Qq X XaR σ H s->t σ H Q ->
  wpAny (model X.prog X.w) X.A (eval a X.env) (fun v b7=>wpAny (model X.prog X.w) X.A (eval b X.env) (fun u b6=>wpAny (model X.prog X.w) X.A (compareOp op v u) (EP X XaR σ Q) X.xe b6) X.xe b7) X.xe s
def FS (b:Expr){op:CmpOp}(h:op≠.In)(h2:op≠.NotIn):behindInMarks op b=false:=by
 have e1:(op==CmpOp.In)=false:=by cases op<;>first|rfl|exact Xk rfl h
 have e2:(op==CmpOp.NotIn)=false:=by cases op<;>first|rfl|exact Xk rfl h2
 cases b<;>simp[behindInMarks,e1,e2]
def K5 (ta:TE):TE:=fun σ H Q=>ta σ H fun x H1=>Q (.bl (!decide (x=.non))) H1
def QI.none_iff {x:V}{v:Value}(r:QI x v):(v==Value.none)=decide (x=.non):=by
 cases x with
 |non=>cases r;rfl
 |bl _=>cases r;rfl
 |int _=>obtain⟨t,rfl⟩:=r;rfl
 |str _=>obtain⟨t,rfl⟩:=r;rfl
 |byt _=>obtain⟨t,rfl⟩:=r;rfl
 |flt _=>obtain⟨t,rfl⟩:=r;rfl
 |ref _=>cases r;rfl
 |ty _=>cases r;rfl
def T9 {j pos'}(ha:PE X a ta):PC X .IsNot a (.Constant .none j pos') (K5 ta):=by
 intro XaR s σ H Q I h;refine Q2 (ha XaR s σ H _ I h) fun v s1 ⟨x,H1,I1,r1,q1⟩=>?_;exact Constant_none (isnot_none_gen ⟨.bl _,H1,I1,by rw[r1.none_iff];rfl,q1⟩)
def tB (t:TE):TT:=fun σ H Q=>t σ H fun x H1=>∃c,x=.bl c/\Q c H1
def Ug {op:CmpOp}{t:TE}(h:PC X op a b t)(h1:behindInMarks op b=false:=by first|exact FS _ (by decide) (by decide)|rfl):PT X (.Compare a [op] [b] pos) (tB t):=by
 intro XaR s σ H Q I hw;refine wpAny_isTrue_Compare1 (Q2 (h XaR s σ H _ I hw) fun v s1 h1=>Q2 h1 fun u s2 h2=>Q2 h2 fun c s3 ⟨x,H1,I1,r1,q1⟩=>?_) h1;obtain⟨d,rfl,q⟩:=q1
 cases r1
 exact wpAny_truthy_bool ⟨H1,I1,q⟩
def V1 {e:Expr}{t:TE}(h:PE X e t)(he:∀whole,isTrue e X.env whole=(do let v <- whole;standAt e.pos;holding [v] (truthy v)):=by intro _;rfl):PT X e (tB t):=by
 intro XaR s σ H Q I hw;refine isTrue_plain (Q2 (h XaR s σ H _ I hw) fun v s1 ⟨x,H1,I1,r1,q1⟩=>?_) (he _);obtain⟨d,rfl,q⟩:=q1
 cases r1
 exact wpAny_truthy_bool ⟨H1,I1,q⟩
variable {tA tB':TT}{rest:Qi}
def Kd (t u:TT):TT:=fun σ H Q=>t σ H fun c H1=>if c=true then u σ H1 Q else Q false H1
def tOr (t u:TT):TT:=fun σ H Q=>t σ H fun c H1=>if c=true then Q true H1 else u σ H1 Q
def Mn (t:TT):TT:=fun σ H Q=>t σ H fun c H1=>Q (!c) H1
def Bg (ha:PT X a tA):PW X (.BoolOp .And [a] pos) tA:=by
 intro wh XaR s σ H Q I h;refine isTrue_and (Q2 (ha XaR s σ H Q I h) fun c s1 e=>?_)
 cases c with
 |true=>exact isTrue_and_nil e
 |false=>exact e
def GZ (ha:PT X a tA):PW X (.BoolOp .Or [a] pos) tA:=by
 intro wh XaR s σ H Q I h;refine isTrue_or (Q2 (ha XaR s σ H Q I h) fun c s1 e=>?_)
 cases c with
 |false=>exact isTrue_or_nil e
 |true=>exact e
def GS (ha:PT X a tA)(hb:PW X (.BoolOp .And (b::rest) pos) tB'):PW X (.BoolOp .And (a::b::rest) pos) (Kd tA tB'):=by
 intro wh XaR s σ H Q I h;refine isTrue_and (Q2 (ha XaR s σ H _ I h) fun c s1 ⟨H1,I1,q1⟩=>?_)
 cases c with
 |true=>exact hb wh XaR s1 σ H1 Q I1 q1
 |false=>exact⟨H1,I1,q1⟩
def Jf (ha:PT X a tA)(hb:PW X (.BoolOp .Or (b::rest) pos) tB'):PW X (.BoolOp .Or (a::b::rest) pos) (tOr tA tB'):=by
 intro wh XaR s σ H Q I h;refine isTrue_or (Q2 (ha XaR s σ H _ I h) fun c s1 ⟨H1,I1,q1⟩=>?_)
 cases c with
 |true=>exact⟨H1,I1,q1⟩
 |false=>exact hb wh XaR s1 σ H1 Q I1 q1
def Yo (ha:PT X a tA):PT X (.UnaryOp .Not a pos) (Mn tA):=by
 intro XaR s σ H Q I h;exact isTrue_not (ha XaR s σ H (fun c H1=>Q (!c) H1) I h)
def Ki (ta tb:TE):TE:=fun σ H Q=>ta σ H fun x H1=>∃c,x=.bl c/\if c=true then tb σ H1 Q else Q (.bl false) H1
def Ku (ta:TE):TE:=fun σ H Q=>ta σ H fun x H1=>∃c,x=.bl c/\Q (.bl (!c)) H1
def Uf {op}{t:TE}(h:PE X a t):PE X (.BoolOp op [a] pos) t:=fun XaR s σ H Q I hw=>BoolOp_one (h XaR s σ H Q I hw)
def Ul (ha:PE X a ta)(hb:PE X (.BoolOp .And (b::rest) pos) tb):PE X (.BoolOp .And (a::b::rest) pos) (Ki ta tb):=by
 intro XaR s σ H Q I h;refine BoolOp_and (Q2 (ha XaR s σ H _ I h) fun v s1 ⟨x,H1,I1,r1,q1⟩=>?_);obtain⟨c,rfl,q1⟩:=q1
 cases r1
 refine wpAny_truthy_bool ?_
 cases c with
 |true=>exact hb XaR s1 σ H1 Q I1 q1
 |false=>exact⟨.bl false,H1,I1,rfl,q1⟩
def PY (ha:PE X a ta):PE X (.UnaryOp .Not a pos) (Ku ta):=by
 intro XaR s σ H Q I h;refine UnaryOp_ (Q2 (ha XaR s σ H _ I h) fun v s1 ⟨x,H1,I1,r1,q1⟩=>?_);obtain⟨c,rfl,q1⟩:=q1
 cases r1
 exact not_of (wpAny_truthy_bool ⟨.bl (!c),H1,I1,rfl,q1⟩)
end
def SqL (K:W.Frag)(H:Hp)(a:Addr)(xs:List V):Prop :=
 Rd H a (.lst xs) \/
  ∃(o:Obj) (its:Array Value) (n:Nat),K.lookup a=some o/\o.cls=.type "list" /\ o.dict=none/\o.data=.seq its n/\its.size<=sizeLine/\QS xs its.toList
def SqT (K:W.Frag)(H:Hp)(a:Addr)(xs:List V):Prop :=
 Rd H a (.tup xs) \/
  ∃(o:Obj) (its:Array Value) (n:Nat),K.lookup a=some o/\o.cls=.type "tuple" /\ o.data=.seq its n/\its.size<=sizeLine/\QS xs its.toList
def Pq:Value->Option V
 |.none=>some .non
 |.bool b=>some (.bl b)
 |.int i _=>some (.int i)
 |.str x _=>some (.str x)
 |.bytes b _=>some (.byt b)
 |.float b _=>some (.flt b)
 |.ref a=>some (.ref a)
 |.type n=>some (.ty n)
 |_=>none
def QI.abs {x:V}{u:Value}(r:QI x u):Pq u=some x:=by
 cases x with
 |non=>cases r;rfl
 |bl _=>cases r;rfl
 |int _=>obtain⟨t,rfl⟩:=r;rfl
 |str _=>obtain⟨t,rfl⟩:=r;rfl
 |byt _=>obtain⟨t,rfl⟩:=r;rfl
 |flt _=>obtain⟨t,rfl⟩:=r;rfl
 |ref _=>cases r;rfl
 |ty _=>cases r;rfl
def QI.inj {x y:V}{u:Value}(r:QI x u)(q:QI y u):x=y:=Option.some.inj (r.abs.symm.trans q.abs)
theorem QS.inj:∀{xs ys:List V} {us:Qe},QS xs us->QS ys us->xs=ys
 |_,_,_,.nil,.nil=>rfl
 |_,_,_,.cons r t,.cons r' t'=>by rw[r.inj r',QS.inj t t']
section
variable {X:Cx}{XaR:Qc}{σ:St}{H:Hp}{s:Shared}{a:Addr}{xs ys:List V}
def SqL.of {K:W.Frag}(h:H a=some (.lst xs)):SqL K H a xs:=.inl (.inl h)
def SqT.of {K:W.Frag}(h:H a=some (.tup xs)):SqT K H a xs:=.inl (.inl h)
def Qq.list (I:Qq X XaR σ H s)(h:SqL X.K H a xs):∃its:Qe,QS xs its/\PlainL s.heap a its.toArray/\xs.length<=sizeLine:=by
 rcases h with h|⟨o,its,n,hk,hc,hd,hs,hz,r⟩
 ·obtain⟨z,its,n,r,e⟩:=h.ok I.hok
  exact⟨its,r,⟨_,n,e,rfl,rfl,rfl⟩,z⟩
 ·refine⟨its.toList,r,⟨o,n,I.kIn a o hk,hc,hd,by simpa using hs⟩,?_⟩
  have e:=r.length;simp only[Array.length_toList]at e;omega
def Qq.tuple (I:Qq X XaR σ H s)(h:SqT X.K H a xs):∃its:Qe,QS xs its/\IsTup s.heap a its.toArray/\xs.length<=sizeLine:=by
 rcases h with h|⟨o,its,n,hk,hc,hs,hz,r⟩
 ·obtain⟨z,its,r,p⟩:=h.ok I.hok
  exact⟨its,r,p,z⟩
 ·refine⟨its.toList,r,⟨o,I.kIn a o hk,hc,n,by simpa using hs⟩,?_⟩
  have e:=r.length;simp only[Array.length_toList]at e;omega
def Qq.list_inj (I:Qq X XaR σ H s)(h:SqL X.K H a xs)(h':SqL X.K H a ys):xs=ys:=by
 obtain⟨its,r,⟨o,n,e,_,_,d⟩,_⟩:=I.list h;obtain⟨its',r',⟨o',n',e',_,_,d'⟩,_⟩:=I.list h';rw[e]at e';cases e';rw[d]at d';injection d' with d1 _
 have:its=its':=by simpa using XX Array.toList d1
 subst this;exact r.inj r'
def Qq.tuple_inj (I:Qq X XaR σ H s)(h:SqT X.K H a xs)(h':SqT X.K H a ys):xs=ys:=by
 obtain⟨its,r,⟨o,e,_,n,d⟩,_⟩:=I.tuple h;obtain⟨its',r',⟨o',e',_,n',d'⟩,_⟩:=I.tuple h';rw[e]at e';cases e';rw[d]at d';injection d' with d1 _
 have:its=its':=by simpa using XX Array.toList d1
 subst this;exact r.inj r'
end
abbrev Cx.wish (X:Cx)(E:Qb):Cx:={ X with xe:=E }
abbrev Cx.nox (X:Cx):Cx:=X.wish fun _ _=>False
def Cx.Ok.wish {X:Cx}(ok:X.Ok)(E:Qb):(X.wish E).Ok :=
 ⟨ok.mod,ok.kind,ok.glob,ok.blt,ok.above,ok.inj,ok.has,ok.cab,ok.hd,ok.frames,ok.stk,ok.exf,ok.bs,ok.bsz,ok.noex,ok.exfs,ok.funs,ok.frf⟩
def Cx.Ok.unwish {X:Cx}{E:Qb}(ok:(X.wish E).Ok):X.Ok :=
 ⟨ok.mod,ok.kind,ok.glob,ok.blt,ok.above,ok.inj,ok.has,ok.cab,ok.hd,ok.frames,ok.stk,ok.exf,ok.bs,ok.bsz,ok.noex,ok.exfs,ok.funs,ok.frf⟩
section
variable {X:Cx}{XaR:Qc}{σ:St}{H:Hp}{s:Shared}{E:Qb}
def Qq.wish (I:Qq X XaR σ H s)(E:Qb):Qq (X.wish E) XaR σ H s:=⟨I.ok.wish E,I.os,I.bare,I.base,I.loc,I.cell,I.free,I.freeC,I.pin,I.hok,I.len⟩
def Qq.unwish (I:Qq (X.wish E) XaR σ H s):Qq X XaR σ H s:=⟨I.ok.unwish,I.os,I.bare,I.base,I.loc,I.cell,I.free,I.freeC,I.pin,I.hok,I.len⟩
def SP.unwish {D:Ends}{f:Flow}{s':Shared}(h:SP (X.wish E) XaR D f s'):SP X XaR D f s':=by
 cases f with
 |next=>obtain⟨σ',H',I,q⟩:=h;exact⟨σ',H',I.unwish,q⟩
 |brk=>obtain⟨σ',H',I,q⟩:=h;exact⟨σ',H',I.unwish,q⟩
 |cont=>obtain⟨σ',H',I,q⟩:=h;exact⟨σ',H',I.unwish,q⟩
 |ret u=>obtain⟨v,σ',H',I,r,q⟩:=h;exact⟨v,σ',H',I.unwish,r,q⟩
def PSs.nox {st:List Stmt}{t:TS}(h:PSs X.nox st t):PSs X st t:=fun XaR s σ H D I hw =>
 wpAny_mono (h XaR s σ H D (I.wish _) hw) (fun _ _ q=>q.unwish) fun _ _ z=>False.elim z
end
section
variable {X:Cx}{st:Stmt}{rest:List Stmt}{t u:TS}{e:Expr}{te:TE}{pos:Pos}
def M4:TS:=fun D σ H=>D.nx σ H
def YD (t u:TS):TS:=fun D σ H=>t { D with nx:=u D } σ H
def Z3:PSs X [] M4:=fun _ _ σ H _ I h=>wpAny_execs_nil ⟨σ,H,I,h⟩
def Q5 (h1:PS X st t)(h2:PSs X rest u):PSs X (st::rest) (YD t u):=by
 intro XaR s σ H D I h;refine wpAny_execs_cons (Q2 (h1 XaR s σ H { D with nx:=u D } I h) fun f s1 q=>?_)
 cases f with
 |next =>
   obtain⟨σ',H',I',q⟩:=q;exact h2 XaR s1 σ' H' D I' q
 |ret v=>exact q
 |brk=>exact q
 |cont=>exact q
def Q7 (h1:PS X st t):PSs X [st] t:=by
 intro XaR s σ H D I h;refine wpAny_execs_cons (Q2 (h1 XaR s σ H D I h) fun f s1 q=>?_)
 cases f with
 |next=>exact wpAny_execs_nil q
 |ret v=>exact q
 |brk=>exact q
 |cont=>exact q
def Qq.quiet {XaR:Qc}{σ:St}{H:Hp}{s:Shared}(I:Qq X XaR σ H s):interactive X.env=false:=by simp[interactive,I.ok.kind]
def Vi (te:TE):TS:=fun D σ H=>te σ H fun _ H1=>D.nx σ H1
def Zv (he:PE X e te)(hs:swapsWith e none pos.line X.env=pure false:=by rfl):PS X (.Expr e pos) (Vi te):=by
 intro XaR s σ H D I h;exact wpAny_Expr_any (Q2 (he XaR s σ H _ I h) fun v s1 ⟨x,H1,I1,r1,q1⟩=>⟨σ,H1,I1,q1⟩) I.quiet hs
def Yl (te:TE):TS:=fun D σ H=>te σ H D.rt
def QT (he:PE X e te):PS X (.Return (some e) pos) (Yl te):=by
 intro XaR s σ H D I h;exact wpAny_Return_some (Q2 (he XaR s σ H _ I h) fun v s1 ⟨x,H1,I1,r1,q1⟩=>⟨x,σ,H1,I1,r1,q1⟩)
def JT (c:TT)(t u:TS):TS:=fun D σ H=>c σ H fun b H1=>if b=true then t D σ H1 else u D σ H1
def Z2 {c:Expr}{a b:List Stmt}{tc:TT}(hc:PT X c tc)(ha:PSs X a t)(hb:PSs X b u):PS X (.If c a b pos) (JT tc t u):=by
 intro XaR s σ H D I h;refine wpAny_If (Q2 (hc XaR s σ H _ I h) fun d s1 ⟨H1,I1,q1⟩=>?_)
 cases d with
 |true=>exact ha XaR s1 σ H1 D I1 q1
 |false=>exact hb XaR s1 σ H1 D I1 q1
def PU:TS:=fun _ _ _=>False
def Bq:PS X st PU:=fun _ _ _ _ _ _ h=>h.elim
end
abbrev TG:=V->St->Hp->(St->Hp->Prop)->Prop
abbrev TGs:=List V->St->Hp->(St->Hp->Prop)->Prop
def PG (X:Cx)(target:Expr)(t:TG):Prop :=
 ∀(XaR:Qc) (s:Shared) (σ:St) (H:Hp) (v:V) (u:Value) (Q:St->Hp->Prop),Qq X XaR σ H s->QI v u->t v σ H Q ->
  wpAny (model X.prog X.w) X.A (assign target X.env u) (fun _ s'=>∃σ' H',Qq X XaR σ' H' s'/\Q σ' H') X.xe s
def PGs (X:Cx)(ts:Qi)(t:TGs):Prop :=
 ∀(XaR:Qc) (s:Shared) (σ:St) (H:Hp) (vs:List V) (us:Qe) (Q:St->Hp->Prop),Qq X XaR σ H s->QS vs us->t vs σ H Q ->
  wpAny (model X.prog X.w) X.A (assignInOrder ((assignEach ts X.env).map (·.2)) us) (fun _ s'=>∃σ' H',Qq X XaR σ' H' s'/\Q σ' H') X.xe s
abbrev UC:=V->V->V->Hp->(Hp->Prop)->Prop
def Mo (X:Cx)(t:UC):Prop :=
 ∀(XaR:Qc) (s:Shared) (σ:St) (H:Hp) (o i v:V) (ov iv u:Value) (Q:Hp->Prop),Qq X XaR σ H s->QI o ov->QI i iv->QI v u->t o i v H Q ->
  wpAny (model X.prog X.w) X.A (setItem ov iv u) (fun _ s'=>∃H',Qq X XaR σ H' s'/\Q H') X.xe s
abbrev TIp:=V->V->Hp->VK->Prop
def PIp (X:Cx)(op:Operator)(t:TIp):Prop :=
 ∀(XaR:Qc) (s:Shared) (σ:St) (H:Hp) (x y:V) (v u:Value) (Q:VK),Qq X XaR σ H s->QI x v->QI y u->t x y H Q ->
  wpAny (model X.prog X.w) X.A (inplaceOp op v u) (EP X XaR σ Q) X.xe s
section
variable {X:Cx}{pos:Pos}
def ZG (i:Nat):TG:=fun v σ H Q=>Q (σ.set i (some v)) H
def Zw {i:Nat}{x:Str}(hN:X.N.Nodup)(hi:X.N[i]?=some x)(hx:Loc X.env.scope x)(hf:X.fn x=true\/X.env.scope.names.lookup x=some .local:=by first|exact .inl rfl|exact .inr rfl|assumption):PG X (.Name x pos) (ZG i):=by
 intro XaR s σ H v u Q I r h;exact wpAny_assign_Name (Bz I hN hi hx r (fun s' I'=>⟨_,H,I',h⟩) hf)
def Mh:TGs:=fun vs σ H Q=>vs=[]/\Q σ H
def Mu (t:TG)(u:TGs):TGs:=fun vs σ H Q=>∃v r,vs=v::r/\t v σ H fun σ' H'=>u r σ' H' Q
def UW:PGs X [] Mh:=by
 intro XaR s σ H vs us Q I r h;obtain⟨e,h⟩:=h;subst e;cases r;exact assignInOrder_nil ⟨σ,H,I,h⟩
def YU {e:Expr}{es:Qi}{t:TG}{u:TGs}(h1:PG X e t)(h2:PGs X es u)
 (hs:(assignEach (e::es) X.env).map (·.2)=assign e X.env::(assignEach es X.env).map (·.2):=by rfl):PGs X (e::es) (Mu t u):=by
 intro XaR s σ H vs us Q I r h;obtain⟨v,vr,e1,h⟩:=h;subst e1;cases r with
 |cons r rr =>
   rw[hs];refine assignInOrder_cons (Q2 (h1 XaR s σ H _ _ _ I r h) fun _ s1 ⟨σ1,H1,I1,q1⟩=>?_);exact h2 XaR s1 σ1 H1 _ _ Q I1 rr q1
def Mr (K:W.Frag)(n:Nat)(t:TGs):TG:=fun v σ H Q=>∃a xs,v=.ref a/\SqT K H a xs/\xs.length=n/\t xs σ H Q
def UQ {es:Qi}{k:Nat}{t:TGs}{n:Nat}(hc:X.calm=true)(h:PGs X es t)
 (hn:(assignEach es X.env).length=n:=by rfl) (hst:(assignEach es X.env).findIdx? (·.1)=none:=by rfl):PG X (.Tuple es k pos) (Mr X.K n t):=by
 intro XaR s σ H v u Q I r hw;obtain⟨a,xs,e1,hq,hl,hw⟩:=hw;subst e1;cases r;obtain⟨its,rv,ht,hz⟩:=I.tuple hq;refine assign_Tuple_tuple (I.ok.hd hc) ht (by simp[hn,<- hl,rv.length]) hst fun h' hx=>?_;have I1:Qq X XaR σ H { s with heap:=h' }:=I.kept (t':=s.toks) fun b o e=>hx b o (Xo (Xj e)) e;exact h XaR _ σ H xs _ Q I1 (by simpa using rv) hw
def HZ (to ti:TE)(t:UC):TG:=fun v σ H Q=>to σ H fun o H1=>ti σ H1 fun i H2=>t o i v H2 fun H3=>Q σ H3
def Dd {o i:Expr}{to ti:TE}{t:UC}(ho:PE X o to)(hi:PE X i ti)(hs:Mo X t)
 (ha:∀v,assign (.Subscript o i pos) X.env v=(do
  let ov <- holding [v] (eval o X.env)
  let iv <- holding [v,ov] (eval i X.env)
  standAt pos
  holding [v,ov,iv] (setItem ov iv v)
  release [v,ov,iv] []):=by intro _;rfl):PG X (.Subscript o i pos) (HZ to ti t):=by
 intro XaR s σ H v u Q I r h;rw[ha];refine Xb (wpAny_holding (Q2 (ho XaR s σ H _ I h) fun ov s1 ⟨x,H1,I1,r1,q1⟩=>?_));refine Xb (wpAny_holding (Q2 (hi XaR s1 σ H1 _ I1 q1) fun iv s2 ⟨y,H2,I2,r2,q2⟩=>?_));refine Xb (wpAny_standAt (Xb (wpAny_holding (Q2 (hs XaR s2 σ H2 x y v ov iv u _ I2 r1 r2 r q2) fun _ s3 ⟨H3,I3,q3⟩=>?_))));exact wpAny_release ⟨σ,H3,I3,q3⟩
def ZX (te:TE)(g:TG):TS:=fun D σ H=>te σ H fun x H1=>g x σ H1 D.nx
def Da {tg e:Expr}{te:TE}{g:TG}(he:PE X e te)(hg:PG X tg g)(hs:swapsWithSole [tg] e pos.line X.env=pure false:=by rfl)(hw:swappedStores [tg] e X.env=pure none:=by rfl)
 (h1:(assignEach [tg] X.env).map (·.2)=[assign tg X.env]:=by rfl):PS X (.Assign [tg] e pos) (ZX te g):=by
 intro XaR s σ H D I h;refine wpAny_Assign_stores (Q2 (he XaR s σ H _ I h) fun v s1 ⟨x,H1,I1,r1,q1⟩=>?_) hs hw;rw[h1];exact Q2 (hg XaR s1 σ H1 x v _ I1 r1 q1) fun _ s2 q=>q
def QW {i:Nat}{x:Str}{e:Expr}{te:TE}{pos':Pos}(hN:X.N.Nodup)(hi:X.N[i]?=some x)(hx:Loc X.env.scope x)(he:PE X e te)(hs:swapsWith e (some (.Name x pos')) pos.line X.env=pure false:=by rfl)(hf:X.fn x=true\/X.env.scope.names.lookup x=some .local:=by first|exact .inl rfl|exact .inr rfl|assumption) :
 PS X (.Assign [.Name x pos'] e pos) (ZX te (ZG i)):=by
 intro XaR s σ H D I h;refine wpAny_Assign_Name (Q2 (he XaR s σ H _ I h) fun v s1 ⟨y,H1,I1,r1,q1⟩=>?_) hs;exact Bz I1 hN hi hx r1 (fun s2 I2=>⟨_,H1,I2,q1⟩) hf
def GE (to ti te:TE)(tget:V->V->Hp->VK->Prop)(tip:TIp)(tset:UC):TS:=fun D σ H=>to σ H fun o H1=>ti σ H1 fun i H2=>tget o i H2 fun x H3=>te σ H3 fun y H4=>tip x y H4 fun z H5=>tset o i z H5 fun H6=>D.nx σ H6
def Kf (X:Cx)(t:V->V->Hp->VK->Prop):Prop :=
 ∀(XaR:Qc) (s:Shared) (σ:St) (H:Hp) (o i:V) (ov iv:Value) (Q:VK),Qq X XaR σ H s->QI o ov->QI i iv->t o i H Q ->
  wpAny (model X.prog X.w) X.A (getItem ov iv) (EP X XaR σ Q) X.xe s
def Ga {o i e:Expr}{to ti te:TE}{tget:V->V->Hp->VK->Prop}{tip:TIp}{tset:UC}{op:Operator}{tpos:Pos}(ho:PE X o to)(hi:PE X i ti)(hg:Kf X tget)(he:PE X e te)(hp:PIp X op tip)(hs:Mo X tset)
 (ha:∀ov iv new,augStore i ov iv new=(do holding [new,ov,iv] (setItem ov iv new);release [new,ov,iv] [];pure .next):=by intros;rfl):PS X (.AugAssign (.Subscript o i tpos) op e pos) (GE to ti te tget tip tset):=by
 intro XaR s σ H D I h;refine wpAny_AugAssign_SubscriptAny (Q2 (ho XaR s σ H _ I h) fun ov s1 ⟨x1,H1,I1,r1,q1⟩=>?_) ha;refine Q2 (hi XaR s1 σ H1 _ I1 q1) fun iv s2 ⟨x2,H2,I2,r2,q2⟩=>?_;refine Q2 (hg XaR s2 σ H2 x1 x2 ov iv _ I2 r1 r2 q2) fun old s3 ⟨x3,H3,I3,r3,q3⟩=>?_;refine Q2 (he XaR s3 σ H3 _ I3 q3) fun v s4 ⟨x4,H4,I4,r4,q4⟩=>?_;refine Q2 (hp XaR s4 σ H4 x3 x4 old v _ I4 r3 r4 q4) fun new s5 ⟨x5,H5,I5,r5,q5⟩=>?_;exact Q2 (hs XaR s5 σ H5 x1 x2 x5 ov iv new _ I5 r1 r2 r5 q5) fun _ s6 ⟨H6,I6,q6⟩=>⟨σ,H6,I6,q6⟩
def ipI (f:Int->Int->Int):TIp:=fun x y H Q=>∃i j,x=.int i/\y=.int j/\Q (.int (f i j)) H
def GU:PIp X .Add (ipI fun i j=>i+j):=by
 intro XaR s σ H x y v u Q I r1 r2 h;obtain⟨i,j,e1,e2,q⟩:=h;subst e1;subst e2;obtain⟨t,rfl⟩:=r1;obtain⟨t',rfl⟩:=r2;exact iadd_int ⟨.int _,H,I.tok _,⟨_,rfl⟩,q⟩
def PR:PIp X .Sub (ipI fun i j=>i-j):=by
 intro XaR s σ H x y v u Q I r1 r2 h;obtain⟨i,j,e1,e2,q⟩:=h;subst e1;subst e2;obtain⟨t,rfl⟩:=r1;obtain⟨t',rfl⟩:=r2;exact isub_int ⟨.int _,H,I.tok _,⟨_,rfl⟩,q⟩
end
section
variable {X:Cx}{pos:Pos}
def Nx (c:TT)(tb:TS):TS:=fun D σ H=>∃W:Nat->St->Hp->Prop,(∃m,W m σ H)/\∀m σ H,W m σ H ->
 c σ H fun b H1=>if b=true then ∃N:St->Hp->Prop,(∀σ' H',N σ' H'->∃m',m'<m/\W m' σ' H')/\tb { D with nx:=N,ct:=N,bk:=D.nx } σ H1 else D.nx σ H1
def DB {c:Expr}{body:List Stmt}{tc:TT}{tb:TS}(hp:PassesOwn (model X.prog X.w) X.A X.env X.xe)(hc:PT X c tc)(hb:PSs X body tb):PS X (.While c body [] pos) (Nx tc tb):=by
 intro XaR s σ H D I h;obtain⟨W,⟨m0,w0⟩,turn⟩:=h;refine wpAny_While (codeAny_whileLoop (fun n s'=>∃σ' H',Qq X XaR σ' H' s'/\W n σ' H') ?_ m0 ⟨σ,H,I,w0⟩)
 rintro n s1 ⟨σ1,H1,I1,w1⟩
 refine wpAny_passesOwn hp (Q2 (hc XaR s1 σ1 H1 _ I1 (turn n σ1 H1 w1)) fun b s2 ⟨H2,I2,q2⟩=>?_)
 cases b with
 |true =>
   obtain⟨N,hN,q2⟩:=q2;rw[Xe rfl];refine wpAny_passesOwn hp (Q2 (hb XaR s2 σ1 H2 _ I2 q2) fun f s3 q3=>?_)
   cases f with
   |next =>
     obtain⟨σ3,H3,I3,n3⟩:=q3;obtain⟨m',hm,w3⟩:=hN σ3 H3 n3
     exact⟨m',hm,σ3,H3,I3,w3⟩
   |cont =>
     obtain⟨σ3,H3,I3,n3⟩:=q3;obtain⟨m',hm,w3⟩:=hN σ3 H3 n3
     exact⟨m',hm,σ3,H3,I3,w3⟩
   |brk=>exact q3
   |ret v=>exact q3
 |false =>
   rw[Xc Xw];exact wpAny_execs_nil ⟨σ1,H2,I2,q2⟩
end
structure It where
 go:Nat->Hp->Prop
 yld:Nat->Hp->V->Hp->Prop
 stop:Nat->Hp->Prop
def VJ (X:Cx)(XaR:Qc)(H:Hp)(b:Addr):Prop :=
 H b=none/\b≠X.env.locals/\b∉X.fs/\(b∈X.ex\/X.s₀.heap.objs.size<=b)/\(∀x c,X.env.cells.lookup x=some c->c≠b)/\∀p∈X.pn++XaR,p.1≠b
def Qq.fpOk {X:Cx}{XaR:Qc}{σ:St}{H H':Hp}{s:Shared}{b:Addr}(I:Qq X XaR σ H s)(hb:s.heap.objs.size<=b)(hn:H' b=none):VJ X XaR H' b:=by
 refine⟨hn,XU (Xs I.lt hb),I.nofs hb,.inr (XZ I.sz hb),fun x c e z=>?_,fun p hp z=>?_⟩
 ·obtain⟨v,q⟩:=I.cell x c e
  exact Xk (Xs q.lt (by rw[z];exact hb)) (XW _)
 ·exact Xk (Xs (Xj (I.pin p hp).1) (by rw[z];exact hb)) (XW _)
structure Turn (P:Program)(w:World)(K:W.Frag)(tg:Expr)(J:It)(fp:Qg)(it:Addr)(tn:Nat->Heap->Prop):Prop where
 mem:it∈fp
 obj:∀i h,tn i h->∀b∈fp,∃o,h.get? b=some o/\∀v,o.data≠.cell v
 keep:∀i h h',tn i h->(∀b∈fp,∀o,h.get? b=some o->h'.get? b=some o)->tn i h'
 item:∀(X:Cx),X.prog=P->X.w=w->X.K=K->X.calm=true->∀(i:Nat) (XaR:Qc) (s:Shared) (σ:St) (H:Hp) (E:Qb),Qq X XaR σ H s->(∀b∈fp,VJ X XaR H b)->tn i s.heap->J.go i H ->
  wpAny (model P w) X.A (pyNext (.ref it)) (fun r s1=>∃u,r=some u /\
   wpAny (model P w) X.A (letOwnedTupleGo tg (.ref it) u) (fun _ s2=>∃x H',Qq X XaR σ H' s2/\QI x u/\J.yld i H x H'/\tn (i+1) s2.heap/\∀b∈fp,H' b=none) E s1) E s
 done:∀(X:Cx),X.prog=P->X.w=w->X.K=K->X.calm=true->∀(i:Nat) (XaR:Qc) (s:Shared) (σ:St) (H:Hp) (E:Qb),Qq X XaR σ H s->(∀b∈fp,VJ X XaR H b)->tn i s.heap->J.stop i H ->
  wpAny (model P w) X.A (pyNext (.ref it)) (fun r s1=>r=none/\Qq X XaR σ H s1) E s
 self:∀(A:Around) (i:Nat) (s:Shared) (Q:Qb) (E:Qb),tn i s.heap->Q (.ref it) s->wpAny (model P w) A (pyIter (.ref it)) Q E s
abbrev TI:=St->Hp->(It->Hp->Prop)->Prop
def PIE (X:Cx)(XaR:Qc)(σ:St)(tg:Expr)(R:It->Hp->Prop)(itv:Value)(s2:Shared):Prop :=
 ∃(it:Addr) (fp:Qg) (tn:Nat->Heap->Prop) (J:It) (H':Hp),itv=.ref it/\Qq X XaR σ H' s2/\Turn X.prog X.w X.K tg J fp it tn/\tn 0 s2.heap/\(∀b∈fp,VJ X XaR H' b)/\R J H'
def PI (X:Cx)(tg iter:Expr)(wi:TI):Prop :=
 ∀(XaR:Qc) (s:Shared) (σ:St) (H:Hp) (R:It->Hp->Prop),Qq X XaR σ H s->wi σ H R ->
  wpAny (model X.prog X.w) X.A (eval iter X.env) (fun v s1=>wpAny (model X.prog X.w) X.A (pyIter v) (PIE X XaR σ tg R) X.xe s1) X.xe s
def UI {M:Model}{A:Around}{E:Qb}{s:Shared}{tg:Expr}{it:Addr}{u:Value}{o:Obj}{n:String}{vs:Array Value}{Q:Unit->Shared->Prop}(ho:s.heap.get? it=some o)(hc:o.cls=.type n)(hd:o.data=.fields vs)
 (hn:["enumerate","zip","dict_itemiterator","dict_reverseitemiterator","odict_iterator","itertools.zip_longest","itertools.pairwise"].contains n=false) (hQ:Q () s):wpAny M A (letOwnedTupleGo tg (.ref it) u) Q E s:=by
 unfold letOwnedTupleGo;cases tg<;>first
  |exact Xp hQ
  | (cases u<;>first
   |exact Xp hQ
   | (refine Xb (wpAny_load ho ?_)
      rw[hc,hd];show wpAny M A (if (["enumerate","zip","dict_itemiterator","dict_reverseitemiterator","odict_iterator","itertools.zip_longest","itertools.pairwise"].contains n&&vs[0]?==some (rawInt _))=true then _ else _) Q E s;rw[Xc (by intro h;rw[hn,Bool.false_and]at h;cases h)];exact Xp hQ))
def Itl (K:W.Frag)(a:Addr):It :=
 ⟨fun i H=>∃xs x,SqL K H a xs/\xs[i]?=some x,fun i H x H'=>H'=H/\∀xs,SqL K H a xs->xs[i]?=some x,fun i H=>∃xs,SqL K H a xs/\xs.length<=i⟩
def Itt (K:W.Frag)(a:Addr):It :=
 ⟨fun i H=>∃xs x,SqT K H a xs/\xs[i]?=some x,fun i H x H'=>H'=H/\∀xs,SqT K H a xs->xs[i]?=some x,fun i H=>∃xs,SqT K H a xs/\xs.length<=i⟩
def Itr (lo:Int)(n:Nat):It:=⟨fun i _=>i<n,fun i H x H'=>H'=H/\x=.int (lo+i),fun i _=>n<=i⟩
theorem Ao {P:Program}{w:World}{K:W.Frag}{tg:Expr}(a it:Addr):Turn P w K tg (Itl K a) [it] it (fun i h=>h.IsListIter it a i) where
 mem:=by simp
 obj:=fun i h st b hb=>by
  have e:b=it:=by simpa using hb
  subst e;obtain⟨o,e,c,d⟩:=st
  exact⟨o,e,fun v z=>by rw[d]at z;cases z⟩
 keep:=fun i h h' st k=>st.at fun o e=>k it (by simp) o e
 item:=by
  intro X hP hw hK hc i XaR s σ H E I hf st hg;subst hP hw hK;obtain⟨xs,x,hq,hx⟩:=hg;obtain⟨its,rv,p,hz⟩:=I.list hq;obtain⟨u,hu,ru⟩:=rv.get hx;obtain⟨f0,f1,f2,f3,f4,f5⟩:=hf it (by simp);refine wpAny_pyNext_list_item st p.isList (x:=u) (by simpa using hu) fun h' st' sb=>?_;have I1:Qq X XaR σ H { s with heap:=h' }:=I.turned (t':=s.toks) (fun b o hb e=>(sb.2 b hb).trans e) f0 f1 f3 f4 f5;obtain⟨o,e,c,d⟩:=id st'
  exact⟨u,rfl,UI (s:={ s with heap:=h' }) e c d (by decide) ⟨x,H,I1,ru,⟨rfl,fun ys hy=>by rw[I.list_inj hy hq];exact hx⟩,st',fun b hb=>(hf b hb).1⟩⟩
 done:=by
  intro X hP hw hK hc i XaR s σ H E I hf st hg;subst hP hw hK;obtain⟨xs,hq,hx⟩:=hg;obtain⟨its,rv,p,hz⟩:=I.list hq;obtain⟨f0,f1,f2,f3,f4,f5⟩:=hf it (by simp);have hl:=rv.length;exact wpAny_pyNext_list_end (I.ok.hd hc) st p.isList (by simp;omega) fun h' eb=>⟨rfl,I.turned (t':=s.toks) (fun b o hb e=>eb b o hb e) f0 f1 f3 f4 f5⟩
 self:=fun _ _ _ _ _ st h=>wpAny_pyIter_listiter st h
theorem A8 {P:Program}{w:World}{K:W.Frag}{tg:Expr}(a it:Addr):Turn P w K tg (Itt K a) [it] it (fun i h=>h.IsTupleIter it a i) where
 mem:=by simp
 obj:=fun i h st b hb=>by
  have e:b=it:=by simpa using hb
  subst e;obtain⟨o,e,c,d⟩:=st
  exact⟨o,e,fun v z=>by rw[d]at z;cases z⟩
 keep:=fun i h h' st k=>st.at fun o e=>k it (by simp) o e
 item:=by
  intro X hP hw hK hc i XaR s σ H E I hf st hg;subst hP hw hK;obtain⟨xs,x,hq,hx⟩:=hg;obtain⟨its,rv,p,hz⟩:=I.tuple hq;obtain⟨u,hu,ru⟩:=rv.get hx;obtain⟨f0,f1,f2,f3,f4,f5⟩:=hf it (by simp);refine wpAny_pyNext_tuple_item st (show s.heap.IsTuple a its.toArray from p) (x:=u) (by simpa using hu) fun h' st' sb=>?_;have I1:Qq X XaR σ H { s with heap:=h' }:=I.turned (t':=s.toks) (fun b o hb e=>(sb.2 b hb).trans e) f0 f1 f3 f4 f5;obtain⟨o,e,c,d⟩:=id st'
  exact⟨u,rfl,UI (s:={ s with heap:=h' }) e c d (by decide) ⟨x,H,I1,ru,⟨rfl,fun ys hy=>by rw[I.tuple_inj hy hq];exact hx⟩,st',fun b hb=>(hf b hb).1⟩⟩
 done:=by
  intro X hP hw hK hc i XaR s σ H E I hf st hg;subst hP hw hK;obtain⟨xs,hq,hx⟩:=hg;obtain⟨its,rv,p,hz⟩:=I.tuple hq;obtain⟨f0,f1,f2,f3,f4,f5⟩:=hf it (by simp);have hl:=rv.length;exact wpAny_pyNext_tuple_end (I.ok.hd hc) st (show s.heap.IsTuple a its.toArray from p) (by simp;omega) fun h' eb=>⟨rfl,I.turned (t':=s.toks) (fun b o hb e=>eb b o hb e) f0 f1 f3 f4 f5⟩
 self:=fun _ _ _ _ _ st h=>wpAny_pyIter_tupleiter st h
theorem A9 {P:Program}{w:World}{K:W.Frag}{tg:Expr}(it:Addr)(lo:Int)(n:Nat):Turn P w K tg (Itr lo n) [it] it (fun i h=>IsRangeIter h it (lo+(i:Nat)*1) ((n:Int)-(i:Nat)) 1) where
 mem:=by simp
 obj:=fun i h st b hb=>by
  have e:b=it:=by simpa using hb
  subst e;exact⟨_,st,fun v z=>by
   have z':Data.fields _=Data.cell v:=z
   cases z'⟩
 keep:=fun i h h' st k=>k it (by simp) _ st
 item:=by
  intro X hP hw hK hc i XaR s σ H E I hf st hg;subst hP hw hK;obtain⟨f0,f1,f2,f3,f4,f5⟩:=hf it (by simp);have W:=Walks.range (prog:=X.prog) (w:=X.w) (I.ok.hd hc) it lo 1 n;refine W.item i s _ _ hg st fun v h' tk hv st' kk=>?_;obtain⟨t,rfl⟩:=hv;have I1:Qq X XaR σ H { s with heap:=h',toks:=tk }:=I.turned (fun b o hb e=>kk b o (by simpa using hb) e) f0 f1 f3 f4 f5;refine⟨_,rfl,UI (s:={ s with heap:=h',toks:=tk }) (n := "range_iterator") st' rfl rfl (by decide) ⟨.int (lo+i),H,I1,⟨t,?_⟩,⟨rfl,rfl⟩,st',fun b hb=>(hf b hb).1⟩⟩;rw[Int.mul_one]
 done:=by
  intro X hP hw hK hc i XaR s σ H E I hf st hg;subst hP hw hK;obtain⟨f0,f1,f2,f3,f4,f5⟩:=hf it (by simp);exact wpAny_pyNext_range_end (I.ok.hd hc) st (by have:n<=i:=hg;omega) fun h' eb=>⟨rfl,I.turned (t':=s.toks) (fun b o hb e=>eb b o hb e) f0 f1 f3 f4 f5⟩
 self:=fun _ _ _ _ _ st h=>wpAny_pyIter_rangeiter st h
section
variable {X:Cx}{tg:Expr}
def GI (K:W.Frag)(tl:TE):TI:=fun σ H R=>tl σ H fun x H1=>∃a,x=.ref a/\(∃xs,SqL K H1 a xs)/\R (Itl K a) H1
def Kb (K:W.Frag)(tl:TE):TI:=fun σ H R=>tl σ H fun x H1=>∃a,x=.ref a/\(∃xs,SqT K H1 a xs)/\R (Itt K a) H1
def WA {l:Expr}{tl:TE}(hl:PE X l tl):PI X tg l (GI X.K tl):=by
 intro XaR s σ H R I h;refine Q2 (hl XaR s σ H _ I h) fun v s1 ⟨x,H1,I1,r1,q1⟩=>?_;obtain⟨a,e,⟨xs,hq⟩,q⟩:=q1;subst e;cases r1;obtain⟨its,rv,p,hz⟩:=I1.list hq;refine wpAny_pyIter_list p.isList ?_;refine⟨s1.heap.objs.size,[s1.heap.objs.size],_,_,H1,rfl,I1.kept (t':=s1.toks) fun b o e=>Xi _ e,Ao a _,⟨_,XD _ rfl,rfl,rfl⟩,fun b hb=>?_,q⟩;have e:b=s1.heap.objs.size:=by simpa using hb
 subst e;exact I1.fpOk (Xq _) (I1.hok.fresh (Xq _))
def T3 {l:Expr}{tl:TE}(hl:PE X l tl):PI X tg l (Kb X.K tl):=by
 intro XaR s σ H R I h;refine Q2 (hl XaR s σ H _ I h) fun v s1 ⟨x,H1,I1,r1,q1⟩=>?_;obtain⟨a,e,⟨xs,hq⟩,q⟩:=q1;subst e;cases r1;obtain⟨its,rv,p,hz⟩:=I1.tuple hq;refine wpAny_pyIter_tuple (show s1.heap.IsTuple a its.toArray from p) ?_;refine⟨s1.heap.objs.size,[s1.heap.objs.size],_,_,H1,rfl,I1.kept (t':=s1.toks) fun b o e=>Xi _ e,A8 a _,⟨_,XD _ rfl,rfl,rfl⟩,fun b hb=>?_,q⟩;have e:b=s1.heap.objs.size:=by simpa using hb
 subst e;exact I1.fpOk (Xq _) (I1.hok.fresh (Xq _))
def Ru {XaR:Qc}{σ:St}{H:Hp}{s:Shared}{R:It->Hp->Prop}{E:Qb}{lo hi:Int}{t u v:Tok}{tk:Nat}(I:Qq X XaR σ H s)(h1 : -(2^62)<=lo)(h2:lo<2^62)(h3 : -(2^62)<=hi)(h4:hi<2^62)
 (q:R (Itr lo (hi-lo).toNat) H):wpAny (model X.prog X.w) X.A (pyIter (.ref s.heap.objs.size)) (PIE X XaR σ tg R) E { s with heap:=s.heap.push { cls:=.type "range",data:=.fields #[.int lo t,.int hi u,.int 1 v] },toks:=tk }:=by
 refine wpAny_pyIter_range (IsRange.new ..) (small_one h1 h2 h3 h4) ?_;have I1:Qq X XaR σ H { s with heap:=s.heap.push { cls:=.type "range",data:=.fields #[.int lo t,.int hi u,.int 1 v] },toks:=tk }:=I.kept fun b o e=>Xi _ e
 refine⟨(s.heap.push { cls:=.type "range",data:=.fields #[.int lo t,.int hi u,.int 1 v] }).objs.size,[(s.heap.push { cls:=.type "range",data:=.fields #[.int lo t,.int hi u,.int 1 v] }).objs.size],_,_,H,rfl,
  I1.kept (t':=tk) fun b o e=>Xi _ e,A9 _ lo (hi-lo).toNat,?_,fun b hb=>?_,q⟩
 ·have e1:lo+((0:Nat):Int)*1=lo:=by simp
  have e2:(((hi-lo).toNat:Nat):Int)-((0:Nat):Int)=Builtin.Range.rangeSize lo hi 1:=by rw[rangeSize_one];split<;>omega
  show IsRangeIter _ _ (lo+((0:Nat):Int)*1) ((((hi-lo).toNat:Nat):Int)-((0:Nat):Int)) 1;rw[e1,e2];exact XD _ rfl
 ·have e:b=(s.heap.push { cls:=.type "range",data:=.fields #[.int lo t,.int hi u,.int 1 v] }).objs.size:=by simpa using hb
  subst e;exact I1.fpOk (Xq _) (I1.hok.fresh (Xq _))
def UJ (ta:TA):TI:=fun σ H R=>ta σ H fun vs H1=>∃j:Int,vs=[.int j] /\ -(2^62)<=j/\j<2^62/\R (Itr 0 j.toNat) H1
def Kp (ta:TA):TI:=fun σ H R=>ta σ H fun vs H1=>∃i j:Int,vs=[.int i,.int j]/\(-(2^62)<=i/\i<2^62 /\ -(2^62)<=j/\j<2^62)/\R (Itr i (j-i).toNat) H1
def VW {a:Expr} {ta:TA} {p pos:Pos} (hg:Gl X "range") (hm:X.mg "range"=none) (ha:PA X [a] ta) (hs:starEach [a] X.env=[(false,eval a X.env)]:=by rfl):PI X tg (.Call (.Name "range" p) [a] [] pos) (UJ ta):=by
 intro XaR s σ H R I h;refine Call_ (W8 I hg hm boot_range (PyProof.Rows.callWith_type1 (Q2 (ha pos XaR s σ H _ I h) fun us s1 ⟨vs,H1,I1,r1,q1⟩=>?_) hs rfl));obtain⟨j,e,q1,q2,q⟩:=q1;subst e;cases r1 with
 |cons r rr =>
   cases rr
   obtain⟨t,rfl⟩:=r;exact call_range_1 (Ru I1 (by omega) (by omega) q1 q2 (by simpa using q))
def AU {a b:Expr} {ta:TA} {p pos:Pos} (hg:Gl X "range") (hm:X.mg "range"=none) (ha:PA X [a,b] ta) (hs:starEach [a,b] X.env=[(false,eval a X.env),(false,eval b X.env)]:=by rfl) (hs2:starEach [b] X.env=[(false,eval b X.env)]:=by rfl) :
 PI X tg (.Call (.Name "range" p) [a,b] [] pos) (Kp ta):=by
 intro XaR s σ H R I h;refine Call_ (W8 I hg hm boot_range (PyProof.Rows.callWith_type1 (Q2 (ha pos XaR s σ H _ I h) fun us s1 ⟨vs,H1,I1,r1,q1⟩=>?_) (by rw[hs,hs2]) (by rw[hs2];rfl)));obtain⟨i,j,e,⟨q1,q2,q3,q4⟩,q⟩:=q1;subst e;cases r1 with
 |cons r rr =>
   cases rr with
   |cons r' rr =>
     cases rr
     obtain⟨t,rfl⟩:=r;obtain⟨t',rfl⟩:=r';exact call_range_2 (Ru I1 q1 q2 q3 q4 q)
def WY (wi:TI)(g:TG)(tb:TS):TS:=fun D σ H=>wi σ H fun J H1=>∃W:Nat->Nat->St->Hp->Prop,(∃m,W 0 m σ H1)/\∀i m σ H,W i m σ H ->
 (J.stop i H/\D.nx σ H)\/(J.go i H/\∃N:St->Hp->Prop,(∀σ' H',N σ' H'->∃m',m'<m/\W (i+1) m' σ' H')/\∀x H',J.yld i H x H'->g x σ H' fun σ2 H2=>tb { D with nx:=N,ct:=N,bk:=D.nx } σ2 H2)
def Uj (fp:Qg)(h:Heap):Qc:=fp.filterMap fun b=>(h.get? b).map fun o=>(b,o)
def Uw {fp:Qg}{h:Heap}{b:Addr}{o:Obj}(hb:b∈fp)(e:h.get? b=some o):(b,o)∈Uj fp h:=List.mem_filterMap.mpr ⟨b,hb,by rw[e];rfl⟩
def A7 {fp:Qg}{h:Heap}{p:Addr×Obj}(hp:p∈Uj fp h):p.1∈fp/\h.get? p.1=some p.2:=by
 obtain⟨b,hb,e⟩:=List.mem_filterMap.mp hp
 cases q:h.get? b with
 |none=>rw[q]at e;cases e
 |some o =>
   rw[q]at e;have e':(b,o)=p:=Option.some.inj e;subst e';exact⟨hb,q⟩
def Qq.pinned {XaR:Qc}{σ:St}{H:Hp}{s:Shared}{fp:Qg}(I:Qq X XaR σ H s)(hf:∀b∈fp,VJ X XaR H b)(ho:∀b∈fp,∃o,s.heap.get? b=some o/\∀v,o.data≠.cell v):Qq X (XaR++Uj fp s.heap) σ H s :=
 I.pins_of fun p hp=>(Xx.mp hp).elim (fun z=>I.pin p (XG _ z)) fun z=>by
  obtain⟨hb,e⟩:=A7 z;obtain⟨f0,f1,f2,_⟩:=hf p.1 hb;obtain⟨o,e',d⟩:=ho p.1 hb;rw[e]at e';cases e';exact⟨e,f0,f1,f2,d⟩
def Qq.unpinned {XaR pl:Qc}{σ:St}{H:Hp}{s:Shared}(I:Qq X (XaR++pl) σ H s):Qq X XaR σ H s:=I.pins_of fun p hp=>I.pin p (XG _ (JK _ hp))
def V7 {iter:Expr}{body:List Stmt}{wi:TI}{g:TG}{tb:TS}{pos:Pos}(hp:PassesOwn (model X.prog X.w) X.A X.env X.xe)(hc:X.calm=true)(hi:PI X tg iter wi)(hg:PG X tg g)(hb:PSs X body tb)
 (hs:∀x,foldedSetIterable iter X.env x=pure x:=by intro _;rfl):PS X (.For tg iter body [] pos) (WY wi g tb):=by
 intro XaR s σ H D I h;refine wpAny_For (Q2 (hi XaR s σ H _ I h) fun v s1 h1=>Q2 h1 fun itv s2 h2=>?_) hs;obtain⟨it,fp,tn,J,H2,e,I2,T,st2,f2,W,⟨m0,w0⟩,turn⟩:=h2;subst e;have stat:∀{H':Hp},(∀b∈fp,H' b=none)->∀b∈fp,VJ X XaR H' b:=fun hn b hb=>⟨hn b hb,(f2 b hb).2⟩;refine codeAny_forLoop_any (fun n s'=>∃i σ' H',Qq X XaR σ' H' s'/\tn i s'.heap/\(∀b∈fp,H' b=none)/\W i n σ' H') ?_ m0 ⟨0,σ,H2,I2,st2,fun b hb=>(f2 b hb).1,w0⟩
 rintro n s3 ⟨i,σ3,H3,I3,st3,fr3,w3⟩
 rcases turn i n σ3 H3 w3 with ⟨stop,qn⟩|⟨go,N,hN,step⟩
 ·refine wpAny_passesOwn hp (Q2 (T.done X rfl rfl rfl hc i XaR s3 σ3 H3 X.xe I3 (stat fr3) st3 stop) fun r s4 ⟨hr,I4⟩=>?_)
  subst hr;exact wpAny_execs_nil ⟨σ3,H3,I4,qn⟩
 ·refine wpAny_passesOwn hp (Q2 (T.item X rfl rfl rfl hc i XaR s3 σ3 H3 X.xe I3 (stat fr3) st3 go) fun r s4 ⟨u,hr,h4⟩=>?_)
  subst hr;refine wpAny_passesOwn hp (Q2 h4 fun _ s5 ⟨x,H5,I5,r5,y5,st5,fr5⟩=>?_);have I5':=I5.pinned (stat fr5) (T.obj _ _ st5);refine wpAny_passesOwn hp (Q2 (hg _ s5 σ3 H5 x u _ I5' r5 (step x H5 y5)) fun _ s6 ⟨σ6,H6,I6,q6⟩=>?_);refine wpAny_passesOwn hp (Q2 (hb _ s6 σ6 H6 _ I6 q6) fun f s7 q7=>?_)
  have again:∀{σ7:St} {H7:Hp},Qq X (XaR++Uj fp s5.heap) σ7 H7 s7->N σ7 H7->∃m,m<n/\∃i σ' H',Qq X XaR σ' H' s7/\tn i s7.heap/\(∀b∈fp,H' b=none)/\W i m σ' H':=fun{σ7 H7} I7 n7=>by
   obtain⟨m',hm,w7⟩:=hN σ7 H7 n7;refine⟨m',hm,i+1,σ7,H7,I7.unpinned,T.keep _ _ _ st5 fun b hb o e=>(I7.pin (b,o) (XG _ (XG _ (Uw hb e)))).1,fun b hb=>?_,w7⟩;obtain⟨o,e,d⟩:=T.obj _ _ st5 b hb
   exact(I7.pin (b,o) (XG _ (XG _ (Uw hb e)))).2.1
  cases f with
  |next=>obtain⟨σ7,H7,I7,n7⟩:=q7;exact again I7 n7
  |cont=>obtain⟨σ7,H7,I7,n7⟩:=q7;exact again I7 n7
  |brk=>obtain⟨σ7,H7,I7,q7⟩:=q7;exact⟨σ7,H7,I7.unpinned,q7⟩
  |ret v=>obtain⟨x7,σ7,H7,I7,r7,q7⟩:=q7;exact⟨x7,σ7,H7,I7.unpinned,r7,q7⟩
end
abbrev R2:=V->V->Hp->VK->Prop
def OpR (X:Cx)(f:Value->Value->Sem Value)(r:R2):Prop :=
 ∀(XaR:Qc) (s:Shared) (σ:St) (H:Hp) (x y:V) (v u:Value) (Q:VK),Qq X XaR σ H s->QI x v->QI y u->r x y H Q ->
  wpAny (model X.prog X.w) X.A (f v u) (EP X XaR σ Q) X.xe s
def UnR (X:Cx)(f:Value->Sem Value)(r:V->Hp->VK->Prop):Prop :=
 ∀(XaR:Qc) (s:Shared) (σ:St) (H:Hp) (x:V) (v:Value) (Q:VK),Qq X XaR σ H s->QI x v->r x H Q ->
  wpAny (model X.prog X.w) X.A (f v) (EP X XaR σ Q) X.xe s
def Z1 (X:Cx)(f:Value)(r:List V->Hp->VK->Prop):Prop :=
 ∀(XaR:Qc) (s:Shared) (σ:St) (H:Hp) (xs:List V) (us:Qe) (Q:VK),Qq X XaR σ H s->QS xs us->r xs H Q ->
  wpAny (model X.prog X.w) X.A (call f us) (EP X XaR σ Q) X.xe s
def Po (X:Cx)(r:V->Hp->(Bool->Hp->Prop)->Prop):Prop :=
 ∀(XaR:Qc) (s:Shared) (σ:St) (H:Hp) (x:V) (v:Value) (Q:Bool->Hp->Prop),Qq X XaR σ H s->QI x v->r x H Q ->
  wpAny (model X.prog X.w) X.A (truthy v) (TP X XaR σ Q) X.xe s
def tOp (r:R2)(ta tb:TE):TE:=fun σ H Q=>ta σ H fun x H1=>tb σ H1 fun y H2=>r x y H2 Q
def tUn (r:V->Hp->VK->Prop)(ta:TE):TE:=fun σ H Q=>ta σ H fun x H1=>r x H1 Q
def rI (C:Int->Int->Prop)(g:Int->Int->V):R2:=fun x y H Q=>∃i j,x=.int i/\y=.int j/\C i j/\Q (g i j) H
def rI0 (g:Int->Int->V):R2:=fun x y H Q=>∃i j,x=.int i/\y=.int j/\Q (g i j) H
def rU (g:Int->V):V->Hp->VK->Prop:=fun x H Q=>∃i,x=.int i/\Q (g i) H
section
variable {X:Cx}{a b c:Expr}{ta tb tc:TE}{pos:Pos}
def Ml (ha:PE X a ta)(hb:PE X b tb){XaR:Qc}{s:Shared}{σ:St}{H:Hp}{R:V->V->Hp->Prop}(I:Qq X XaR σ H s)
 (h:ta σ H fun x H1=>tb σ H1 fun y H2=>R x y H2) {Q:Qb} {f:Value->Value->Sem Value}
 (hf:∀v u s2 x y H2,Qq X XaR σ H2 s2->QI x v->QI y u->R x y H2->wpAny (model X.prog X.w) X.A (f v u) Q X.xe s2) :
 wpAny (model X.prog X.w) X.A (eval a X.env) (fun v b7=>wpAny (model X.prog X.w) X.A (eval b X.env) (fun u b6=>wpAny (model X.prog X.w) X.A (f v u) Q X.xe b6) X.xe b7) X.xe s:=by
 refine Q2 (ha XaR s σ H _ I h) fun v s1 ⟨x,H1,I1,r1,q1⟩=>?_;refine Q2 (hb XaR s1 σ H1 _ I1 q1) fun u s2 ⟨y,H2,I2,r2,q2⟩=>?_;exact hf v u s2 x y H2 I2 r1 r2 q2
def Zb {op:Operator}{r:R2}(ho:OpR X (binaryOp op) r)(ha:PE X a ta)(hb:PE X b tb):PE X (.BinOp a op b pos) (tOp r ta tb):=by
 intro XaR s σ H Q I h;exact wpAny_BinOp (Ml ha hb I h fun v u s2 x y H2 I2 rx ry q=>ho XaR s2 σ H2 x y v u Q I2 rx ry q)
def PJ {op:UnaryOp}{r:V->Hp->VK->Prop}(ho:UnR X (unaryOp op) r)(ha:PE X a ta):PE X (.UnaryOp op a pos) (tUn r ta):=by
 intro XaR s σ H Q I h;exact UnaryOp_ (Q2 (ha XaR s σ H _ I h) fun v s1 ⟨x,H1,I1,r1,q1⟩=>ho XaR s1 σ H1 x v Q I1 r1 q1)
def opI {f:Value->Value->Sem Value}{C:Int->Int->Prop}{g:Int->Int->Int}
 (rule:∀(i j:Int) (t u:Tok) (s:Shared) (Q:Qb) (E:Qb),C i j->Q (.int (g i j) s.toks) { s with toks:=s.toks+1 }->wpAny (model X.prog X.w) X.A (f (.int i t) (.int j u)) Q E s) :
 OpR X f (rI C fun i j=>.int (g i j)):=by
 intro XaR s σ H x y v u Q I rx ry h;obtain⟨i,j,rfl,rfl,hc,q⟩:=h;obtain⟨t,rfl⟩:=rx;obtain⟨t',rfl⟩:=ry;exact rule i j t t' s _ _ hc ⟨.int (g i j),H,I.tok _,⟨_,rfl⟩,q⟩
def Me {f:Value->Value->Sem Value}{g:Int->Int->Int}
 (rule:∀(i j:Int) (t u:Tok) (s:Shared) (Q:Qb) (E:Qb),Q (.int (g i j) s.toks) { s with toks:=s.toks+1 }->wpAny (model X.prog X.w) X.A (f (.int i t) (.int j u)) Q E s) :
 OpR X f (rI0 fun i j=>.int (g i j)):=by
 intro XaR s σ H x y v u Q I rx ry h;obtain⟨i,j,rfl,rfl,q⟩:=h;obtain⟨t,rfl⟩:=rx;obtain⟨t',rfl⟩:=ry;exact rule i j t t' s _ _ ⟨.int (g i j),H,I.tok _,⟨_,rfl⟩,q⟩
def Mp {f:Value->Value->Sem Value}{g:Int->Int->Bool}
 (rule:∀(i j:Int) (t u:Tok) (s:Shared) (Q:Qb) (E:Qb),Q (.bool (g i j)) s->wpAny (model X.prog X.w) X.A (f (.int i t) (.int j u)) Q E s) :
 OpR X f (rI0 fun i j=>.bl (g i j)):=by
 intro XaR s σ H x y v u Q I rx ry h;obtain⟨i,j,rfl,rfl,q⟩:=h;obtain⟨t,rfl⟩:=rx;obtain⟨t',rfl⟩:=ry;exact rule i j t t' s _ _ ⟨.bl (g i j),H,I,rfl,q⟩
def Kh (i j:Int):Prop:=0<=j/\j<=1000000/\i.natAbs<2^64
def Wx (i j:Int):Prop:=(-(2^64)<i/\i<2^64)\/(-(2^64)<j/\j<2^64)
def Wx.ok {i j:Int}(h:Wx i j):IntMulOk i j:=by
 rcases h with ⟨h1,h2⟩|⟨h1,h2⟩
 ·exact .of_left (intBits_le_64 h1 h2)
 ·exact .of_right (intBits_le_64 h1 h2)
def V9:OpR X (binaryOp .Add) (rI0 fun i j=>.int (i+j)):=Me fun _ _ _ _ _ _ _ q=>add_int q
def Wi:OpR X (binaryOp .Sub) (rI0 fun i j=>.int (i-j)):=Me fun _ _ _ _ _ _ _ q=>sub_int q
def Ui:OpR X (binaryOp .Mult) (rI Wx fun i j=>.int (i*j)):=opI fun _ _ _ _ _ _ _ hc q=>mul_int q hc.ok
def Jm:OpR X (binaryOp .Mod) (rI (fun _ j=>0<j) fun i j=>.int (i%j)):=opI fun i j _ _ _ _ _ hc q=>by
 have h1:(0:Int)<j:=hc;exact mod_int' (by omega) (by rw[Int.fmod_eq_emod_of_nonneg i (by omega)];exact q)
def MO:OpR X (binaryOp .Pow) (rI Kh fun i j=>.int (i^j.toNat)):=opI fun _ _ _ _ _ _ _ hc q=>pow_int_small hc.1 hc.2.1 hc.2.2 q
def Db:OpR X (binaryOp .BitXor) (rI0 fun i j=>.int (Builtin.bitXor i j)):=Me fun _ _ _ _ _ _ _ q=>xor_int q
def unI {f:Value->Sem Value}{g:Int->Int}
 (rule:∀(i:Int) (t:Tok) (s:Shared) (Q:Qb) (E:Qb),Q (.int (g i) s.toks) { s with toks:=s.toks+1 }->wpAny (model X.prog X.w) X.A (f (.int i t)) Q E s) :
 UnR X f (rU fun i=>.int (g i)):=by
 intro XaR s σ H x v Q I rx h;obtain⟨i,rfl,q⟩:=h;obtain⟨t,rfl⟩:=rx;exact rule i t s _ _ ⟨.int (g i),H,I.tok _,⟨_,rfl⟩,q⟩
def Tg:UnR X (unaryOp .USub) (rU fun i=>.int (-i)):=unI fun _ _ _ _ _ q=>neg_int q
end
def HY:V->V->Bool
 |.non,.non=>true|.non,.int _=>true|.int _,.non=>true|.non,.bl _=>true|.bl _,.non=>true|.non,.str _=>true|.str _,.non=>true
 |.int _,.int _=>true|.bl _,.bl _=>true|.str _,.str _=>true|.byt _,.byt _=>true
 |.int _,.str _=>true|.str _,.int _=>true|.bl _,.str _=>true|.str _,.bl _=>true
 |_,_=>false
def rEq:R2:=fun x y H Q=>HY x y=true/\Q (.bl (decide (x=y))) H
def rNe:R2:=fun x y H Q=>HY x y=true/\Q (.bl (!decide (x=y))) H
def NQ {i j:Int}:decide (V.int i=V.int j)=(i==j):=by
 rw[Bool.eq_iff_iff];simp
def Nb {i j:Bool}:decide (V.bl i=V.bl j)=(i==j):=by
 rw[Bool.eq_iff_iff];simp
def N6 {i j:Str}:decide (V.str i=V.str j)=(i==j):=by
 rw[Bool.eq_iff_iff];simp
def NO {i j:Array UInt8}:decide (V.byt i=V.byt j)=(i.toList==j.toList):=by
 rw[Bool.eq_iff_iff];cases i
 cases j
 simp
section
variable {X:Cx}{a b c:Expr}{ta tb tc:TE}{pos:Pos}
def Z5 {XaR:Qc}{σ:St}{H:Hp}{s:Shared}{Q:VK}{k k':Bool}(I:Qq X XaR σ H s)(q:Q (.bl k) H)(e:k=k'):EP X XaR σ Q (.bool k') s:=by
 subst e;exact⟨.bl k,H,I,rfl,q⟩
def Mz:OpR X (compareOp .Eq) rEq:=by
 intro XaR s σ H x y v u Q I rx ry h;obtain⟨hs,q⟩:=h
 cases x with
 |non =>
   cases rx
   cases y with
   |non=>cases ry;exact PySem.EqNone.eq_none_none (Z5 I q (by simp))
   |bl j=>cases ry;exact PySem.EqNone.eq_none_bool (Z5 I q (by simp))
   |int j=>obtain⟨t',rfl⟩:=ry;exact PySem.EqNone.eq_none_int (Z5 I q (by simp))
   |str j=>obtain⟨t',rfl⟩:=ry;exact PySem.EqNone.eq_none_str (Z5 I q (by simp))
   |_=>exact Xk (show false=true from hs) Xw
 |bl i =>
   cases rx
   cases y with
   |non=>cases ry;exact PySem.EqNone.eq_bool_none (Z5 I q (by simp))
   |bl j=>cases ry;exact eq_bool (Z5 I q Nb)
   |str j=>obtain⟨t',rfl⟩:=ry;exact PySem.EqMixed.eq_bool_str (Z5 I q (by simp))
   |_=>exact Xk (show false=true from hs) Xw
 |int i =>
   obtain⟨t,rfl⟩:=rx
   cases y with
   |non=>cases ry;exact PySem.EqNone.eq_int_none (Z5 I q (by simp))
   |int j=>obtain⟨t',rfl⟩:=ry;exact eq_int (Z5 I q NQ)
   |str j=>obtain⟨t',rfl⟩:=ry;exact PySem.EqMixed.eq_int_str (Z5 I q (by simp))
   |_=>exact Xk (show false=true from hs) Xw
 |str i =>
   obtain⟨t,rfl⟩:=rx
   cases y with
   |non=>cases ry;exact PySem.EqNone.eq_str_none (Z5 I q (by simp))
   |bl j=>cases ry;exact PySem.EqMixed.eq_str_bool (Z5 I q (by simp))
   |int j=>obtain⟨t',rfl⟩:=ry;exact PySem.EqMixed.eq_str_int (Z5 I q (by simp))
   |str j=>obtain⟨t',rfl⟩:=ry;exact eq_str (Z5 I q N6)
   |_=>exact Xk (show false=true from hs) Xw
 |byt i =>
   obtain⟨t,rfl⟩:=rx
   cases y with
   |byt j=>obtain⟨t',rfl⟩:=ry;exact W.eq_bytes (Z5 I q NO)
   |_=>exact Xk (show false=true from hs) Xw
 |_=>cases y<;>exact Xk (show false=true from hs) Xw
def Kk:OpR X (compareOp .NotEq) rNe:=by
 intro XaR s σ H x y v u Q I rx ry h;obtain⟨hs,q⟩:=h
 cases x with
 |non =>
   cases rx
   cases y with
   |non=>cases ry;exact PySem.EqNone.ne_none_none (Z5 I q (by simp))
   |bl j=>cases ry;exact PySem.EqNone.ne_none_bool (Z5 I q (by simp))
   |int j=>obtain⟨t',rfl⟩:=ry;exact PySem.EqNone.ne_none_int (Z5 I q (by simp))
   |str j=>obtain⟨t',rfl⟩:=ry;exact PySem.EqNone.ne_none_str (Z5 I q (by simp))
   |_=>exact Xk (show false=true from hs) Xw
 |bl i =>
   cases rx
   cases y with
   |non=>cases ry;exact PySem.EqNone.ne_bool_none (Z5 I q (by simp))
   |bl j=>cases ry;exact ne_bool (Z5 I q (XX not Nb))
   |str j=>obtain⟨t',rfl⟩:=ry;exact PySem.EqMixed.ne_bool_str (Z5 I q (by simp))
   |_=>exact Xk (show false=true from hs) Xw
 |int i =>
   obtain⟨t,rfl⟩:=rx
   cases y with
   |non=>cases ry;exact PySem.EqNone.ne_int_none (Z5 I q (by simp))
   |int j=>obtain⟨t',rfl⟩:=ry;exact ne_int (Z5 I q (XX not NQ))
   |str j=>obtain⟨t',rfl⟩:=ry;exact PySem.EqMixed.ne_int_str (Z5 I q (by simp))
   |_=>exact Xk (show false=true from hs) Xw
 |str i =>
   obtain⟨t,rfl⟩:=rx
   cases y with
   |non=>cases ry;exact PySem.EqNone.ne_str_none (Z5 I q (by simp))
   |bl j=>cases ry;exact PySem.EqMixed.ne_str_bool (Z5 I q (by simp))
   |int j=>obtain⟨t',rfl⟩:=ry;exact PySem.EqMixed.ne_str_int (Z5 I q (by simp))
   |str j=>obtain⟨t',rfl⟩:=ry;exact ne_str (Z5 I q (XX not N6))
   |_=>exact Xk (show false=true from hs) Xw
 |byt i =>
   obtain⟨t,rfl⟩:=rx
   cases y with
   |byt j=>obtain⟨t',rfl⟩:=ry;exact W.ne_bytes (Z5 I q (XX not NO))
   |_=>exact Xk (show false=true from hs) Xw
 |_=>cases y<;>exact Xk (show false=true from hs) Xw
def JY:OpR X (compareOp .Lt) (rI0 fun i j=>.bl (decide (i<j))):=Mp fun _ _ _ _ _ _ _ q=>lt_int q
def M7:OpR X (compareOp .LtE) (rI0 fun i j=>.bl (decide (i<=j))):=Mp fun _ _ _ _ _ _ _ q=>le_int q
def W2:OpR X (compareOp .Gt) (rI0 fun i j=>.bl (decide (j<i))):=Mp fun _ _ _ _ _ _ _ q=>gt_int q
def Z4 (b:Expr){op:CmpOp}(h:op≠.In:=by decide)(h2:op≠.NotIn:=by decide):behindInMarks op b=false:=by
 have e1:(op==CmpOp.In)=false:=by cases op<;>first|rfl|exact Xk rfl h
 have e2:(op==CmpOp.NotIn)=false:=by cases op<;>first|rfl|exact Xk rfl h2
 cases b<;>simp[behindInMarks,e1,e2]
def Jn {op:CmpOp}{r:R2}(ho:OpR X (compareOp op) r)(ha:PE X a ta)(hb:PE X b tb)(hm:behindInMarks op b=false):PE X (.Compare a [op] [b] pos) (tOp r ta tb):=by
 intro XaR s σ H Q I h;exact wpAny_Compare1 (Ml ha hb I h fun v u s2 x y H2 I2 rx ry q=>ho XaR s2 σ H2 x y v u Q I2 rx ry q) hm
def GF (t:TE):TT:=fun σ H Q=>t σ H fun x H'=>∃k,x=.bl k/\Q k H'
def ZR {op:CmpOp}{r:R2}(ho:OpR X (compareOp op) r)(ha:PE X a ta)(hb:PE X b tb)(hm:behindInMarks op b=false):PT X (.Compare a [op] [b] pos) (GF (tOp r ta tb)):=by
 intro XaR s σ H Q I h;refine wpAny_isTrue_Compare1 (Q2 (ha XaR s σ H _ I h) fun v s1 ⟨x,H1,I1,r1,q1⟩=>Q2 (hb XaR s1 σ H1 _ I1 q1) fun u s2 ⟨y,H2,I2,r2,q2⟩ =>
  Q2 (ho XaR s2 σ H2 x y v u _ I2 r1 r2 q2) fun c s3 ⟨z,H3,I3,r3,k,e,q3⟩=>?_) hm
 subst e;cases r3;exact wpAny_truthy_bool ⟨H3,I3,q3⟩
def MJ (r r':R2)(ta tb tc:TE):TE:=fun σ H Q=>ta σ H fun x H1=>tb σ H1 fun y H2=>r x y H2 fun z H3=>∃k,z=.bl k /\
 (if k=true then tc σ H3 fun w' H4=>r' y w' H4 Q else Q (.bl false) H3)
def Rm {op op':CmpOp}{r r':R2}(ho:OpR X (compareOp op) r)(ho':OpR X (compareOp op') r')(ha:PE X a ta)(hb:PE X b tb)(hc:PE X c tc)
 (hm:lastMarks [op,op'] [b,c]=false:=by with_unfolding_all rfl):PE X (.Compare a [op,op'] [b,c] pos) (MJ r r' ta tb tc):=by
 intro XaR s σ H Q I h;refine Compare_chain (Q2 (ha XaR s σ H _ I h) fun v s1 ⟨x,H1,I1,r1,q1⟩=>chain_link (Q2 (hb XaR s1 σ H1 _ I1 q1) fun u s2 ⟨y,H2,I2,r2,q2⟩ =>
  Q2 (ho XaR s2 σ H2 x y v u _ I2 r1 r2 q2) fun d s3 ⟨z,H3,I3,r3,k,e,q3⟩=>?_)) hm
 subst e;cases r3;refine wpAny_truthy_bool ?_
 cases k with
 |false=>exact ite_ff ⟨.bl false,H3,I3,rfl,q3⟩
 |true=>exact ite_tt (chain_last (Q2 (hc XaR s3 σ H3 _ I3 q3) fun w' s4 ⟨z',H4,I4,r4,q4⟩=>ho' XaR s4 σ H4 y z' u w' Q I4 r2 r4 q4))
def Fo {op op':CmpOp}{r r':R2}(ho:OpR X (compareOp op) r)(ho':OpR X (compareOp op') r')(ha:PE X a ta)(hb:PE X b tb)(hc:PE X c tc)
 (hm:lastMarks [op,op'] [b,c]=false:=by with_unfolding_all rfl):PT X (.Compare a [op,op'] [b,c] pos) (GF (MJ r r' ta tb tc)):=by
 intro XaR s σ H Q I h;refine isTrue_chain (Q2 (ha XaR s σ H _ I h) fun v s1 ⟨x,H1,I1,r1,q1⟩=>test_link (Q2 (hb XaR s1 σ H1 _ I1 q1) fun u s2 ⟨y,H2,I2,r2,q2⟩ =>
  Q2 (ho XaR s2 σ H2 x y v u _ I2 r1 r2 q2) fun d s3 ⟨z,H3,I3,r3,k,e,q3⟩=>?_)) hm
 subst e;cases r3;refine wpAny_truthy_bool ?_
 cases k with
 |false =>
   obtain⟨k',e',q'⟩:=q3
   cases e'
   exact ite_ff ⟨H3,I3,q'⟩
 |true =>
   refine ite_tt (test_last (Q2 (hc XaR s3 σ H3 _ I3 q3) fun w' s4 ⟨z',H4,I4,r4,q4⟩=>Q2 (ho' XaR s4 σ H4 y z' u w' _ I4 r2 r4 q4) fun d' s5 ⟨z2,H5,I5,r5,k2,e2,q5⟩=>?_));subst e2;cases r5;exact wpAny_truthy_bool ⟨H5,I5,q5⟩
def Mm (K:W.Frag)(x:V)(H:Hp)(k:Bool):Prop :=
 match x with
 |.non=>k=false
 |.bl b=>k=b
 |.int i=>k=(i != 0)
 |.str y=>y.length<=sizeLine/\k=((y.length:Int) != 0)
 |.byt y=>y.size<=sizeLine/\k=((y.size:Int) != 0)
 |.ref p=>(∃xs,SqL K H p xs/\k = !xs.isEmpty)\/(∃xs,SqT K H p xs/\k = !xs.isEmpty)\/∃kvs,H p=some (.dK kvs)/\k = !kvs.isEmpty
 |_=>False
def AL {κ:Type}{kvs:List (κ×V)}{vs:List (κ×Value)}(r:KV kvs vs):(!vs.isEmpty) = !kvs.isEmpty:=by
 cases r<;>rfl
def SH {xs:List V}{its:Qe}(r:QS xs its):(!its.toArray.isEmpty) = !xs.isEmpty:=by
 cases r<;>simp
def Jh:(sizeLine:Nat)<2^63:=by rw[sizeLine_eq];decide
def Lb:Po X (fun x H Q=>∃k,Mm X.K x H k/\Q k H):=by
 intro XaR s σ H x v Q I rx h;obtain⟨k,e,q⟩:=h;have hl:=Jh;have hs:sizeLine=16777216:=sizeLine_eq
 cases x with
 |non =>
   cases rx
   have e':k=false:=e;subst e';exact truthy_none ⟨H,I,q⟩
 |bl b =>
   cases rx
   have e':k=b:=e;subst e';exact wpAny_truthy_bool ⟨H,I,q⟩
 |int i =>
   obtain⟨t,rfl⟩:=rx;have e':k=(i != 0):=e;subst e';exact PySem.P.truthy_int ⟨H,I,q⟩
 |str y =>
   obtain⟨t,rfl⟩:=rx;obtain⟨hy,e'⟩:y.length<=sizeLine/\k=((y.length:Int) != 0):=e;subst e';exact PySem.P.truthy_str (by omega) ⟨H,I.tok _,q⟩
 |byt y =>
   obtain⟨t,rfl⟩:=rx;obtain⟨hy,e'⟩:y.size<=sizeLine/\k=((y.size:Int) != 0):=e;subst e';exact W.truthy_bytes (by omega) ⟨H,I.tok _,q⟩
 |ref p =>
   cases rx
   have e':(∃xs,SqL X.K H p xs/\k = !xs.isEmpty)\/(∃xs,SqT X.K H p xs/\k = !xs.isEmpty)\/∃kvs,H p=some (.dK kvs)/\k = !kvs.isEmpty:=e
   rcases e' with ⟨xs,hx,e'⟩|⟨xs,hx,e'⟩|⟨kvs,hx,e'⟩
   ·subst e'
    obtain⟨its,r,pl,hz⟩:=I.list hx;have hlen:=r.length;exact wpAny_truthy_list pl.isList (by simp only[XB];omega) ⟨H,I.tok _,by rw[SH r];exact q⟩
   ·subst e'
    obtain⟨its,r,pl,hz⟩:=I.tuple hx;have hlen:=r.length;exact truthy_tuple pl (by simp only[XB];omega) ⟨H,I.tok _,by rw[SH r];exact q⟩
   ·subst e'
    obtain⟨hz,hS,vs,r,m⟩:kvs.length<=sizeLine/\(p==sysModules)=false/\∃vs,KV kvs vs/\s.heap.DictOf (ZA X.prog X.w) p vs:=I.hok p _ hx;have hlen:kvs.length=vs.length:=Paired.length r;exact wpAny_truthy_dict hS m (by omega) ⟨H,I.tok _,by rw[AL r];exact q⟩
 |_=>exact(show False from e).elim
def CL (ha:PE X a ta)(he:∀whole,isTrue a X.env whole=(do let v <- whole;standAt a.pos;holding [v] (truthy v))) :
 PT X a (fun σ H Q=>ta σ H fun x H'=>∃k,Mm X.K x H' k/\Q k H'):=by
 intro XaR s σ H Q I h;exact isTrue_plain (Q2 (ha XaR s σ H _ I h) fun v s1 ⟨x,H1,I1,r1,q1⟩=>Lb XaR s1 σ H1 x v Q I1 r1 q1) (he _)
def Yx {x:V}{us:Qe}(r:QS [x] us):∃u,us=[u]/\QI x u:=by
 cases r with
 |cons r1 r2=>cases r2;exact⟨_,rfl,r1⟩
def UG {x y:V}{us:Qe}(r:QS [x,y] us):∃u w',us=[u,w']/\QI x u/\QI y w':=by
 cases r with
 |cons r1 r2 =>
   cases r2 with
   |cons r3 r4=>cases r4;exact⟨_,_,rfl,r1,r3⟩
def AR (hc:X.calm=true):Z1 X (.builtin "max") (fun xs H Q=>∃i j,xs=[.int i,.int j]/\Q (.int (if j > i then j else i)) H):=by
 intro XaR s σ H xs us Q I r h;obtain⟨i,j,rfl,q⟩:=h;obtain⟨u,w',rfl,⟨t,rfl⟩,⟨t',rfl⟩⟩:=UG r;refine max_two_ints (I.ok.hd hc) fun h' tk k=>⟨_,H,I.kept k,?_,q⟩
 by_cases hj:j > i
 ·rw[Xe hj,Xe hj];exact⟨_,rfl⟩
 ·rw[Xc hj,Xc hj];exact⟨_,rfl⟩
def C1 (hc:X.calm=true):Z1 X (.builtin "min") (fun xs H Q=>∃i j,xs=[.int i,.int j]/\Q (.int (if j<i then j else i)) H):=by
 intro XaR s σ H xs us Q I r h;obtain⟨i,j,rfl,q⟩:=h;obtain⟨u,w',rfl,⟨t,rfl⟩,⟨t',rfl⟩⟩:=UG r;refine min_two_ints (I.ok.hd hc) fun h' tk k=>⟨_,H,I.kept k,?_,q⟩
 by_cases hj:j<i
 ·rw[Xe hj,Xe hj];exact⟨_,rfl⟩
 ·rw[Xc hj,Xc hj];exact⟨_,rfl⟩
def Ag:Z1 X (.type "int") (fun xs H Q=>(∃i,xs=[.int i]/\Q (.int i) H)\/∃k,xs=[.bl k]/\Q (.int (if k then 1 else 0)) H):=by
 intro XaR s σ H xs us Q I r h;rcases h with ⟨i,rfl,q⟩|⟨k,rfl,q⟩
 ·obtain⟨u,rfl,t,rfl⟩:=Yx r
  exact call_int_int ⟨.int i,H,I,⟨_,rfl⟩,q⟩
 ·obtain⟨u,rfl,r1⟩:=Yx r
  cases r1
  exact call_int_bool ⟨.int (if k then 1 else 0),H,I.tok _,⟨_,rfl⟩,q⟩
end
structure ObjM (h:Heap)(x dx C:Addr)(mA:Str->Qf):Prop where
 obj:h.get? x=some (W.instObj C dx)
 ns:h.Ns1 dx mA
 ne:dx≠x
def Sb {h:Heap}{dx:Addr}{mA:Str->Qf}(n:h.Ns1 dx mA):∃od,h.get? dx=some od/\∀name,W.lookIn name od=some (mA name):=by
 obtain⟨o,es,ep,ho,hd,hk,_,hm⟩:=n;refine⟨o,ho,fun name=>?_⟩;have e:=hm name;unfold nsFind findBy at e;rw[<- Array.find?_toList]at e;unfold W.lookIn;rw[hd];dsimp only;split
 ·rename_i y q
  rw[q]at e;exact XX some e
 ·rename_i q
  rw[q]at e;have a:es.toList.any (·.refKey)=false:=by
   rw[List.any_eq_false];intro y hy;obtain⟨z,t,hkey⟩:=hk y (Array.mem_toList_iff.mp hy)
   simp[DictEntry.refKey,hkey]
  have a':¬es.toList.any (·.refKey)=true:=by rw[a];exact Xw
  rw[Xc a'];exact XX some e
def ObjM.look {h:Heap}{x dx C:Addr}{mA:Str->Qf}(I:ObjM h x dx C mA):∃od,W.InstAt h x (W.instObj C dx) C (some od)/\∀name,W.lookIn name od=some (mA name) :=
 let ⟨od,ho,hl⟩:=Sb I.ns
 ⟨od,⟨I.obj,rfl,rfl,ho⟩,hl⟩
section
variable {prog:Program}{w:World}{A:Around}{E:Qb}{s:Shared}{K:W.Frag}{x dx C f:Addr}{mA:Str->Qf}{name:Str}{v:Value}
def L5 {expr:Bool}{Q:Qb}(X:K.In s.heap)(I:ObjM s.heap x dx C mA)(hg:W.plainGet K C name=true)(hh:W.hasDictIn K C=true)
 (ha:W.findIn K (.ref C) name=some none) (hv:mA name=some v) (hv':W.handedIn v=true) (h:Q v { s with toks:=s.toks+1 }) :
 wpAny (model prog w) A (getAttr (.ref x) name expr) Q E s:=by
 obtain⟨od,J,hl⟩:=I.look;exact W.get_value X J (W.plainGet_of hg).1 (W.findObj_own hh ha rfl (by rw[hl,hv])) hv' h
def CJ {pl:Sem Bool}{Q:Value×Qe->Shared->Prop}(X:K.In s.heap)(I:ObjM s.heap x dx C mA)(hg:W.plainGet K C name=true)
 (hf:W.findIn K (.ref C) name=some (some (.ref f))) (ht:W.isFn K (.ref f)=true) (hv:mA name=none) (h:Q (.ref f,[.ref x]) s) :
 wpAny (model prog w) A (getMethod (.ref x) name pl) Q E s:=by
 obtain⟨od,J,hl⟩:=I.look;exact W.method_fn X J (W.plainGet_of hg).1 (W.plainGet_of hg).2 hf (beq_iff_eq.mp ht) (by show(W.lookIn name od).map (·.isSome)=some false;rw[hl,hv];rfl) h
def LH {ns:Qh}{Q:Unit->Shared->Prop}(X:K.In s.heap)(I:ObjM s.heap x dx C mA)
 (hs:W.findIn K (.ref C) "__setattr__"=some (some (.builtin "object.__setattr__"))) (hp:W.plainOver K C=true) (ht:W.takerIn K C name=some none) (hh:W.hasDictIn K C=true)
 (hw:PySem.Within mA ns) (hsz:ns.length<=sizeLine)
 (h:∀h',ObjM h' x dx C (fun y=>if y=name then some v else mA y)->Heap.SameBut dx s.heap h'->Q () { s with heap:=h',toks:=s.toks+2 }) :
 wpAny (model prog w) A (setAttr (.ref x) name v) Q E s:=by
 obtain⟨od,J,hl⟩:=I.look;refine W.set_plain X J hs (W.osa_open (s:={ s with toks:=s.toks+1 }) (r:=none) X J hp ht fun b=>?_);obtain⟨cd,hc,hd'⟩:=W.any_some hh;have hx:s.heap.get? x=some ⟨.ref C,some dx,.plain,#[]⟩:=I.obj;refine Xb (Xp (Xb (Xb (wpAny_loadPart hx (Xb (W.Looks.here (s:={ s with toks:=s.toks+1 }) (W.looks_clsIn X hc) ?_))))));rw[hd'];refine Xp (a:=some dx) (Xb (Xp (Xb ?_)));refine wpAny_nsSet1 (s:={ s with toks:=s.toks+1 }) I.ns fun h' hn2 hs2=>?_;obtain⟨oD,esD,epD,hoD,hdD,hcD⟩:=hn2.count (PySem.Within.cons name v hw);refine Xb (wpAny_lookBehind hoD (by rw[hdD];exact pastItsLine_dict (XZ hcD (by rw[XJ];omega))) ?_);exact Xp (h _ ⟨(hs2.2 _ (Ne.symm I.ne)).trans I.obj,hn2,I.ne⟩ hs2)
def FY {R:Result->Shared->Prop}{vs:Qe}{kw:List (Str×Value)}(X:K.In s.heap)(hm:W.makesIn K C=true)
 (hi:W.findIn K (.ref C) "__init__"=some (some (.ref f))) (hf:W.typeIn K (.ref f)=some (.type "function"))
 (h:codeAny (model prog w) (A.under (.builtin "type.__call__" ⟨.ref C::vs,kw⟩)) (.call (.ref f) ⟨.ref (s.heap.objs.size+1)::vs,kw⟩) (W.InitBack (s.heap.objs.size+1) R)
  { s with heap:=(s.heap.push W.emptyDict).push (W.instObj C s.heap.objs.size) }) :
 codeAny (model prog w) A (.call (.ref C) ⟨vs,kw⟩) R s:=by
 obtain⟨hh,g,d,t,os⟩:=s;exact W.make_core (W.makes_of X hm) (W.looks_findIn X hi) (fun self=>W.bind_fn X self hf) (.inl rfl) h
end
def Vy (f:Str)(v:V):List (Str×V)->List (Str×V)
 |[]=>[(f,v)]
 |(g,x)::r=>if g=f then (g,v)::r else (g,x)::Vy f v r
theorem ST (f g:Str)(v:V):∀fs:List (Str×V),(Vy f v fs).lookup g=if g=f then some v else fs.lookup g
 |[]=>by
   show List.lookup g [(f,v)]=_
   by_cases h:g=f
   ·have hb:(g==f)=true:=beq_iff_eq.mpr h
    simp only[List.lookup,hb,Xe h]
   ·have hb:(g==f)=false:=beq_eq_false_iff_ne.mpr h
    simp only[List.lookup,hb,Xc h]
 |(k,x)::r=>by
   have ih:=ST f g v r;rw[show Vy f v ((k,x)::r)=(if k=f then (k,v)::r else (k,x)::Vy f v r) from rfl];by_cases hk:k=f
   ·rw[Xe hk]
    by_cases h:g=k
    ·have hb:(g==k)=true:=beq_iff_eq.mpr h
     simp only[List.lookup,hb,Xe (h.trans hk)]
    ·have hb:(g==k)=false:=beq_eq_false_iff_ne.mpr h
     simp only[List.lookup,hb,Xc (fun e:g=f=>h (e.trans hk.symm))]
   ·rw[Xc hk]
    by_cases h:g=k
    ·have hb:(g==k)=true:=beq_iff_eq.mpr h
     simp only[List.lookup,hb,Xc (fun e:g=f=>hk (h.symm.trans e))]
    ·have hb:(g==k)=false:=beq_eq_false_iff_ne.mpr h
     simp only[List.lookup,hb];exact ih
theorem DU (f:Str)(v:V):∀fs:List (Str×V),f∈(Vy f v fs).map (·.1)/\∀g,g∈fs.map (·.1)->g∈(Vy f v fs).map (·.1)
 |[]=>⟨by simp[Vy],fun g h=>by simp at h⟩
 |(k,x)::r=>by
   obtain⟨i1,i2⟩:=DU f v r;rw[show Vy f v ((k,x)::r)=(if k=f then (k,v)::r else (k,x)::Vy f v r) from rfl];by_cases hk:k=f
   ·rw[Xe hk]
    subst hk;exact⟨by simp,fun g h=>by simpa using h⟩
   ·rw[Xc hk]
    refine⟨?_,fun g h=>?_⟩
    ·rw[Xv]
     exact Xd _ i1
    ·rw[Xv]at h ⊢
     rcases Xf.mp h with e|e
     ·exact Xf.mpr (.inl e)
     ·exact Xd _ (i2 g e)
theorem SS (f:Str)(v:V):∀fs:List (Str×V),(Vy f v fs).length<=fs.length+1
 |[]=>by simp[Vy]
 |(k,x)::r=>by
   have ih:=SS f v r;rw[show Vy f v ((k,x)::r)=(if k=f then (k,v)::r else (k,x)::Vy f v r) from rfl];by_cases hk:k=f
   ·rw[Xe hk,XJ,XJ];omega
   ·rw[Xc hk,XJ,XJ];omega
def ZE.some_of {v:V}{o:Qf}(r:ZE (some v) o):∃u,o=some u/\QI v u:=by
 cases o with
 |none=>exact(show False from r).elim
 |some u=>exact⟨u,rfl,r⟩
def ZE.none_of {o:Qf}(r:ZE none o):o=none:=by
 cases o with
 |none=>rfl
 |some u=>exact(show False from r).elim
def RQ {v:V}{u:Value}(r:QI v u):W.handedIn u=true:=by
 cases v with
 |non=>cases (show u=Value.none from r);rfl
 |bl b=>cases (show u=Value.bool b from r);rfl
 |int i=>obtain⟨t,e⟩:=(show ∃t,u=Value.int i t from r);cases e;rfl
 |str x=>obtain⟨t,e⟩:=(show ∃t,u=Value.str x t from r);cases e;rfl
 |byt b=>obtain⟨t,e⟩:=(show ∃t,u=Value.bytes b t from r);cases e;rfl
 |flt b=>obtain⟨t,e⟩:=(show ∃t,u=Value.float b t from r);cases e;rfl
 |ref a=>cases (show u=Value.ref a from r);rfl
 |ty n=>cases (show u=Value.type n from r);rfl
section
variable {P:Program}{w:World}{H H':Hp}{h h':Heap}{a C dx:Addr}{fs fs':List (Str×V)}
def Dr (hok:HOk P w H h)(e:H a=some (.ins C dx fs)):∃mA,ObjM h a dx C mA/\(∀f,ZE (fs.lookup f) (mA f))/\PySem.Within mA (fs.map (·.1))/\fs.length<=1000/\H dx=some (.own a):=by
 obtain⟨d,z,ne,ob,mA,n,r,q⟩:=(show Z0 P w H h a (.ins C dx fs) from hok a _ e)
 exact⟨mA,⟨ob,n,ne⟩,r,q,z,d⟩
end
structure Cls (K:W.Frag)(C:Addr):Prop where
 pg:W.plainGet K C Str.empty=true
 hd:W.hasDictIn K C=true
 po:W.plainOver K C=true
 sa:W.findIn K (.ref C) "__setattr__"=some (some (.builtin "object.__setattr__"))
def Cls.get {K:W.Frag}{C:Addr}(c:Cls K C)(f:Str):W.plainGet K C f=true:=c.pg
def Vt (K:W.Frag)(C:Addr)(f:Str):Prop:=W.findIn K (.ref C) f=some none
def Vt.taker {K:W.Frag}{C:Addr}{f:Str}(n:Vt K C f):W.takerIn K C f=some none:=by
 unfold W.takerIn;rw[show W.findIn K (.ref C) f=some none from n];rfl
structure Meth (K:W.Frag)(C:Addr)(m:Str)(f:Addr):Prop where
 at_:W.findIn K (.ref C) m=some (some (.ref f))
 fn:W.isFn K (.ref f)=true
 kp:W.keepIn K (.ref f)=true
section
variable {X:Cx}{XaR:Qc}{σ:St}{H:Hp}{s:Shared}{a C dx:Addr}{fs:List (Str×V)}{f:Str}{v:V}{A:Around}{E:Qb}
def S8 {b:Bool}{Q:Qb}(I:Qq X XaR σ H s)(e:H a=some (.ins C dx fs))(c:Cls X.K C)(n:Vt X.K C f)(l:fs.lookup f=some v)
 (h:∀u s',Qq X XaR σ H s'->QI v u->Q u s'):wpAny (model X.prog X.w) A (getAttr (.ref a) f b) Q E s:=by
 obtain⟨mA,O,r,_,_,_⟩:=Dr I.hok e;obtain⟨u,hu,ru⟩:=ZE.some_of (v:=v) (o:=mA f) (by rw[<- l];exact r f);exact L5 I.kIn O (c.get f) c.hd n hu (RQ ru) (h u _ (I.tok _) ru)
def SB {m:Str}{g:Addr}{pl:Sem Bool}{Q:Value×Qe->Shared->Prop}(I:Qq X XaR σ H s)(e:H a=some (.ins C dx fs))(c:Cls X.K C)(k:Meth X.K C m g)(l:fs.lookup m=none)
 (h:Q (.ref g,[.ref a]) s):wpAny (model X.prog X.w) A (getMethod (.ref a) m pl) Q E s:=by
 obtain⟨mA,O,r,_,_,_⟩:=Dr I.hok e;have hn:mA m=none:=ZE.none_of (by rw[<- l];exact r m);exact CJ I.kIn O (c.get m) k.at_ k.fn hn h
def SD {y:V}{u:Value}{Q:Unit->Shared->Prop}(I:Qq X XaR σ H s)(e:H a=some (.ins C dx fs))(c:Cls X.K C)(n:Vt X.K C f)(hl:fs.length<1000)(ry:QI y u)
 (h:∀s',Qq X XaR σ (upd H a (.ins C dx (Vy f y fs))) s'->Q () s'):wpAny (model X.prog X.w) A (setAttr (.ref a) f u) Q E s:=by
 obtain⟨mA,O,r,wi,_,ho⟩:=Dr I.hok e;have hz:(fs.map (·.1)).length<=sizeLine:=by rw[Xn,sizeLine_eq];omega
 refine LH I.kIn O c.sa c.po n.taker c.hd wi hz fun h' O' sb=>h _ ?_;have hd:∃o,h'.get? dx=some o:=let ⟨o,_,_,e',_⟩:=O'.ns;⟨o,e'⟩;refine I.write (x:=a) (e:=dx) (by rw[e];exact True.intro) (.inr ho) (fun b q hb z=>(sb.2 b hb).trans z) hd ?_;refine⟨by rw[Qr O.ne];exact ho,?_,O.ne,O'.obj,_,O'.ns,fun g=>?_,fun g hg=>?_⟩
 ·have:=SS f y fs;omega
 ·show ZE ((Vy f y fs).lookup g) (if g=f then some u else mA g)
  rw[ST];by_cases q:g=f
  ·rw[Xe q,Xe q];exact ry
  ·rw[Xc q,Xc q];exact r g
 ·by_cases q:g=f
  ·rw[q];exact(DU f y fs).1
  ·refine(DU f y fs).2 g (wi g fun z=>hg ?_)
   show(if g=f then some u else mA g)=none
   rw[Xc q];exact z
def Qq.made (I:Qq X XaR σ H s):Qq X XaR σ (upd (upd H s.heap.objs.size (.own (s.heap.objs.size+1))) (s.heap.objs.size+1) (.ins C s.heap.objs.size []))
 { s with heap:=(s.heap.push W.emptyDict).push (W.instObj C s.heap.objs.size) }:=by
 have e1:(s.heap.push W.emptyDict).get? s.heap.objs.size=some W.emptyDict:=XD s.heap rfl
 have e2:((s.heap.push W.emptyDict).push (W.instObj C s.heap.objs.size)).get? (s.heap.objs.size+1)=some (W.instObj C s.heap.objs.size):=by
  have:=XD (s.heap.push W.emptyDict) (o:=W.instObj C s.heap.objs.size) rfl
  rwa [YZ]at this
 have e3:(s.heap.push W.emptyDict).Ns s.heap.objs.size (fun _=>none):=⟨W.emptyDict,#[],_,e1,rfl,(fun e he=>Xk he (by simp)),fun _=>rfl⟩;have I1:=I.laid (a:=s.heap.objs.size) (o:=.own (s.heap.objs.size+1)) (h':=s.heap.push W.emptyDict) (t':=s.toks) (fun b u q=>Xi _ q) (Xq _) ⟨_,e1⟩;refine I1.laid (a:=s.heap.objs.size+1) (o:=.ins C s.heap.objs.size []) (t':=s.toks) (fun b u q=>Xi _ q) (Nat.le_of_eq (YZ _ _)) ?_;have ne:s.heap.objs.size≠s.heap.objs.size+1:=Xo (Wa _);refine⟨by rw[Qr ne,QA],XF _,ne,e2,fun _=>none,(Heap.Ns1.of_empty e3).at fun o q=>Xi _ q,fun _=>True.intro,fun y hy=>Xk rfl hy⟩
def N7 {prog:Program}{w:World}{env:Env}{e:Expr}{f:Str}{pos:Pos}{s:Shared}{Q:Qb}(hb:attributeBase e f env (eval e env)=eval e env)
 (h:wpAny (model prog w) A (eval e env) (fun o b7=>wpAny (model prog w) A (getAttr o f true) Q E b7) E s):wpAny (model prog w) A (eval (.Attribute e f pos) env) Q E s :=
 Attribute_any_ h (by rw[arm_eval_Attribute,hb])
end
def ZL (K:W.Frag)(ta:TE)(f:Str):TE:=fun σ H Q=>ta σ H fun x H1=>∃a C dx fs v,x=.ref a/\H1 a=some (.ins C dx fs)/\Cls K C/\Vt K C f/\fs.lookup f=some v/\Q v H1
def Pp (K:W.Frag)(ta tv:TE)(f:Str):TS:=fun D σ H=>tv σ H fun y H1=>ta σ H1 fun x H2=>∃a C dx fs,x=.ref a/\H2 a=some (.ins C dx fs)/\Cls K C/\Vt K C f/\fs.length<1000 /\
 D.nx σ (upd H2 a (.ins C dx (Vy f y fs)))
def HR (X:Cx)(op:Operator)(rd:V->V->Hp->VK->Prop):Prop :=
 ∀(XaR:Qc) (s:Shared) (σ:St) (H:Hp) (x y:V) (u v:Value) (Q:VK),Qq X XaR σ H s->QI x u->QI y v->rd x y H Q->wpAny (model X.prog X.w) X.A (inplaceOp op u v) (EP X XaR σ Q) X.xe s
def NL (K:W.Frag)(ta tv:TE)(rd:V->V->Hp->VK->Prop)(f:Str):TS:=fun D σ H=>ta σ H fun x H1=>∃a C dx fs v,x=.ref a/\H1 a=some (.ins C dx fs)/\Cls K C/\Vt K C f/\fs.lookup f=some v /\
 tv σ H1 fun y H2=>rd v y H2 fun z H3=>∃dx' fs',H3 a=some (.ins C dx' fs')/\fs'.length<1000/\D.nx σ (upd H3 a (.ins C dx' (Vy f z fs')))
section
variable {X:Cx}{o e value:Expr}{f:Str}{pos pos' tpos:Pos}{ta tv:TE}
def Zj (he:PE X e ta)(hb:attributeBase e f X.env (eval e X.env)=eval e X.env):PE X (.Attribute e f pos) (ZL X.K ta f):=by
 intro XaR s σ H Q I h;refine N7 hb (Q2 (he XaR s σ H _ I h) fun u s1 ⟨x,H1,I1,rx,a,C,dx,fs,v,ex,ea,c,n,l,q⟩=>?_);subst ex;obtain rfl:u=Value.ref a:=rx;exact S8 I1 ea c n l fun u' s2 I2 ru=>⟨v,H1,I2,ru,q⟩
def YM (ha:PE X o ta)(hv:PE X value tv)(hs:swapsWith value (some (.Attribute o f pos')) pos.line X.env=pure false):PS X (.Assign [.Attribute o f pos'] value pos) (Pp X.K ta tv f):=by
 intro XaR s σ H D I h;refine plainObj_wpAny_Assign_Attribute (Q2 (hv XaR s σ H _ I h) fun u s1 ⟨y,H1,I1,ry,q⟩=>Q2 (ha XaR s1 σ H1 _ I1 q) fun ov s2 ⟨x,H2,I2,rx,a,C,dx,fs,ex,ea,c,n,l,q2⟩=>?_) hs;subst ex;obtain rfl:ov=Value.ref a:=rx;exact SD I2 ea c n l ry fun s3 I3=>⟨σ,_,I3,q2⟩
def C5 {op:Operator}{rd:V->V->Hp->VK->Prop}(ha:PE X o ta)(hv:PE X value tv)(hop:HR X op rd):PS X (.AugAssign (.Attribute o f tpos) op value pos) (NL X.K ta tv rd f):=by
 intro XaR s σ H D I h;refine wpAny_AugAssign_AttributeAny (Q2 (ha XaR s σ H _ I h) fun ov s1 ⟨x,H1,I1,rx,a,C,dx,fs,v,ex,ea,c,n,l,q⟩=>?_);subst ex;obtain rfl:ov=Value.ref a:=rx;refine S8 I1 ea c n l fun u s2 I2 ru=>Q2 (hv XaR s2 σ H1 _ I2 q) fun w3 s3 ⟨y,H2,I3,ry,q3⟩=>Q2 (hop XaR s3 σ H2 v y u w3 _ I3 ru ry q3) fun w4 s4 ⟨z,H3,I4,rz,dx',fs',ea',l',q4⟩=>?_;exact SD I4 ea' c n l' rz fun s5 I5=>⟨σ,_,I5,q4⟩
def HU:V->V->Hp->VK->Prop:=fun x y H Q=>∃i j,x=.int i/\y=.int j/\Q (.int (i+j)) H
def PN:HR X .Add HU:=by
 rintro XaR s σ H x y u v Q I rx ry ⟨i,j,rfl,rfl,q⟩
 obtain⟨t,rfl⟩:=(show ∃t,u=Value.int i t from rx);obtain⟨t',rfl⟩:=(show ∃t',v=Value.int j t' from ry);exact PyProof.Rows.iadd_int ⟨.int (i+j),H,I.tok _,⟨_,rfl⟩,q⟩
end
section
variable {X:Cx}{XaR:Qc}{σ:St}{H:Hp}{s:Shared}{A:Around}{E:Qb}{Q:Qb}{c:Value}{b:Bool}
end
structure Room (k:Nat)(A:Around):Prop where
 hd:A.handled=none
 dp:A.depth+3*k+5<recursionLimit
 un:A.units+16*k+200<cLine
def Room.mono {j k:Nat}{A:Around}(r:Room k A)(h:j<=k):Room j A:=⟨r.hd,by have:=r.dp;omega,by have:=r.un;omega⟩
def Room.deeper {k:Nat}{A:Around}(r:Room (k+1) A)(env:Env):Room k (A.deeper env) :=
 ⟨r.hd,by have:=r.dp;show A.depth+1+3*k+5<_;omega,by have:=r.un;show A.units+3+16*k+200<_;omega⟩
def AD {A:Around} {C:Addr} {us:Qe} {kw:List (Str×Value)}:(A.under (.builtin "type.__call__" ⟨.ref C::us,kw⟩)).depth=A.depth+1:=by
 first|rfl|simp[Around.under,Code.weight,Code.isCreation,Code.isGuard,Code.isCaller,Code.frames,Code.isFrame,guardIds]
def AN {A:Around} {C:Addr} {us:Qe} {kw:List (Str×Value)}:(A.under (.builtin "type.__call__" ⟨.ref C::us,kw⟩)).units=A.units+1:=by
 first|rfl|simp[Around.under,Code.cUnits,Code.frames,Code.isFrame]
def Room.make {k:Nat} {A:Around} (r:Room (k+1) A) (C:Addr) (us:Qe) (kw:List (Str×Value)):Room k (A.under (.builtin "type.__call__" ⟨.ref C::us,kw⟩)) :=
 ⟨r.hd,by have:=r.dp;rw[AD];omega,by have:=r.un;rw[AN];omega⟩
def Room.depth {k:Nat}{A:Around}(r:Room k A):A.depth<recursionLimit:=by have:=r.dp;omega
def Room.units {k:Nat}{A:Around}(r:Room k A):A.units+64<cLine:=by have:=r.un;omega
def QO:TA:=fun _ H Q=>Q [] H
def QF (ta:TE)(tr:TA):TA:=fun σ H Q=>ta σ H fun x H1=>tr σ H1 fun xs H2=>Q (x::xs) H2
section
variable {X:Cx}{e:Expr}{es:Qi}{te:TE}{t:TA}{pos:Pos}
def Qs:PA X [] QO:=fun _ _ _ _ H Q I h=>Calls.spliced_nil ⟨[],H,I,.nil,h⟩
def Qo (ha:PE X e te)(hr:PA X es t)(hs:starEach (e::es) X.env=(false,eval e X.env)::starEach es X.env:=by rfl):PA X (e::es) (QF te t):=by
 intro pos XaR s σ H Q I h;rw[hs];show wpAny _ _ (spliced ((false,eval e X.env)::backTo pos (starEach es X.env))) _ _ s;refine Calls.spliced_cons (Q2 (ha XaR s σ H _ I h) fun u s1 ⟨x,H1,I1,r1,q1⟩=>?_);exact Q2 (hr pos XaR s1 σ H1 _ I1 q1) fun us s2 ⟨xs,H2,I2,r2,q2⟩=>⟨x::xs,H2,I2,.cons r1 r2,q2⟩
def JS (t:TA):TE:=fun σ H Q=>t σ H fun xs H1=>xs.length<=sizeLine/\∀p,H1 p=none->Q (.ref p) (upd H1 p (.tup xs))
def WW (t:TA):TE:=fun σ H Q=>t σ H fun xs H1=>xs.length<=sizeLine/\∀p,H1 p=none->Q (.ref p) (upd H1 p (.lst xs))
def YL {x1}(h:PA X es t):PE X (.Tuple es x1 pos) (JS t):=by
 intro XaR s σ H Q I hq;refine wpAny_Tuple_spliced (Q2 (h pos XaR s σ H _ I hq) fun us s1 ⟨xs,H1,I1,r,z,q⟩=>⟨by rw[<- r.length];exact z,?_⟩);have hf:H1 s1.heap.objs.size=none:=I1.hok.fresh (Xq _);refine⟨.ref s1.heap.objs.size,upd H1 s1.heap.objs.size (.tup xs),I1.laid (t':=s1.toks) (fun b u e=>Xi _ e) (Xq _) ?_,rfl,q _ hf⟩
 exact⟨z,us,r,⟨_,XD _ rfl,rfl,_,rfl⟩⟩
def Z6 (h:PA X es t):PE X (.List es pos) (WW t):=by
 intro XaR s σ H Q I hq;refine wpAny_List_spliced (Q2 (h pos XaR s σ H _ I hq) fun us s1 ⟨xs,H1,I1,r,z,q⟩=>⟨by rw[<- r.length];exact z,?_⟩);have hf:H1 s1.heap.objs.size=none:=I1.hok.fresh (Xq _);refine⟨.ref s1.heap.objs.size,upd H1 s1.heap.objs.size (.lst xs),I1.laid (t':=s1.toks) (fun b u e=>Xi _ e) (Xq _) ?_,rfl,q _ hf⟩
 exact⟨z,us,0,r,XD _ rfl⟩
end
abbrev Sp:=List V->Hp->VK->XK->Prop
abbrev CXT:=List Env->Hp->Shared->XK->Qb
structure Env0 (P:Program)(w:World)(K:W.Frag)(mg:Str->Qf)(base:Heap)(A:Around)(outer:List Env)(s:Shared)(H:Hp):Prop where
 frames:A.frames=some outer
 mod:Mod K mg base
 bs:∀b o,base.get? b=some o->s.heap.get? b=some o/\(H b=none\/∃xs,H b=some (.tup xs))
 bsz:base.objs.size<=s.heap.objs.size
 funs:s.heap.FunFrames base outer
 frf:∀b∈frs outer,H b=none
 hok:HOk P w H s.heap
 bare:AllBare s.gens
def CE (outer:List Env)(P:Program)(w:World)(H:Hp)(s:Shared)(Q:VK)(u:Value)(s':Shared):Prop :=
 ∃v H',s'.os=s.os/\AllBare s'.gens/\Un (frs outer) [] H H' s.heap s'.heap/\HOk P w H' s'.heap/\QI v u/\Q v H'
def CR (CX:CXT)(outer:List Env)(P:Program)(w:World)(H:Hp)(s:Shared)(Q:VK)(E:XK)(r:Result)(s':Shared):Prop :=
 match r with
 |.ok (.ret u)=>CE outer P w H s Q u s'
 |.ok _=>False
 |.error e=>CX outer H s E e s'
structure FnOk (P:Program)(w:World)(K:W.Frag)(mg:Str->Qf)(base:Heap)(CX:CXT)(k:Nat)(f:Addr)(fd:FuncData)(ps:Qh)(sp:Sp):Prop where
 len:∀vs H Q E,sp vs H Q E->vs.length=ps.length
 run:∀(A:Around) (outer:List Env) (s:Shared) (H:Hp) (args:Args) (us:Qe) (vs:List V) (Q:VK) (E:XK),Room k A->Env0 P w K mg base A outer s H->BindsTo s fd args (ps.zip us)->QS vs us->sp vs H Q E ->
  codeAny (model P w) A (.call (.ref f) args) (CR CX outer P w H s Q E) s
def Env0.make {P:Program}{w:World}{K:W.Frag}{mg:Str->Qf}{base:Heap}{A:Around}{outer:List Env}{s:Shared}{H:Hp}(e:Env0 P w K mg base A outer s H)(C:Addr)(us:Qe)(kw:List (Str×Value)) :
 Env0 P w K mg base (A.under (.builtin "type.__call__" ⟨.ref C::us,kw⟩)) outer s H:=⟨by first|exact e.frames|(simpa [Around.under,Code.envs,Code.isFrame,pushEnvs] using e.frames),e.mod,e.bs,e.bsz,e.funs,e.frf,e.hok,e.bare⟩
section
variable {X:Cx}{XaR:Qc}{σ:St}{H:Hp}{s s':Shared}
def Qq.env0 (I:Qq X XaR σ H s):Env0 X.prog X.w X.K X.mg X.base X.A X.stack s H :=
 ⟨I.ok.frames,I.ok.mod,I.bs,XZ I.ok.bsz I.sz,I.stack,I.stkFree,I.hok,I.bare⟩
def Qq.after {Q:VK}{u:Value}(I:Qq X XaR σ H s)(h:CE X.stack X.prog X.w H s Q u s'):EP X XaR σ Q u s':=by
 obtain⟨v,H',os,bare,un,hok,r,q⟩:=h;obtain⟨hh,g,d,t,os'⟩:=s';obtain rfl:os'=s.os:=os
 exact⟨v,H',I.call (h':=hh) (g':=g) (d':=d) (t':=t) (ch:=[]) un hok bare (fun b z=>Xk z (by simp)),r,q⟩
end
def VF (sp:Sp)(dvs:List V)(E:XK)(t:TA):TE:=fun σ H Q=>t σ H fun vs H1=>sp (vs++dvs) H1 Q E
def Vr (C:Addr)(m:Str)(sp:Sp)(dvs:List V)(E:XK)(ta:TE)(t:TA):TE:=fun σ H Q=>ta σ H fun x H1=>∃a dx fs,x=.ref a/\H1 a=some (.ins C dx fs)/\fs.lookup m=none /\
 t σ H1 fun vs H2=>sp (x::(vs++dvs)) H2 Q E
def Ub (C:Addr)(sp:Sp)(dvs:List V)(E:XK)(t:TA):TE:=fun σ H Q=>t σ H fun vs H1=>∀x dx,H1 x=none->H1 dx=none->dx≠x ->
 sp (.ref x::(vs++dvs)) (upd (upd H1 dx (.own x)) x (.ins C dx [])) (fun v H2=>v=.non/\Q (.ref x) H2) E
def Vd (K:W.Frag)(fd:FuncData)(ps:Qh)(ds:Qe):Prop :=
 ∀(s:Shared) (us:Qe),K.In s.heap->(us++ds).length=ps.length->BindsTo s fd ⟨us,[]⟩ (ps.zip (us++ds))
def Vd.all {K:W.Frag}{fd:FuncData}{ps:Qh}(h:∀us:Qe,us.length=ps.length->bindArgs fd ⟨us,[]⟩=pure (ps.zip us)):Vd K fd ps []:=fun s us _ hl=>by
 rw[XH]at hl ⊢;exact .of_eq (h us hl)
def VU (CX:CXT)(X:Cx)(E:XK):Prop := ∀(XaR:Qc) (σ:St) (H:Hp) (s:Shared) (e:Value) (s':Shared),Qq X XaR σ H s->CX X.stack H s E e s'->X.xe e s'
section
variable {X:Cx}{CX:CXT}{k:Nat}{f C:Addr}{fd:FuncData}{ps:Qh}{sp:Sp}{dvs:List V}{ds:Qe}{E:XK}{x m:Str}{p pos apos:Pos}{e o:Expr}{es:Qi}{ta:TE}{t:TA}
def MY {XaR:Qc}{σ:St}{H:Hp}{s:Shared}{Q:VK}{us:Qe}{vs:List V}(F:FnOk X.prog X.w X.K X.mg X.base CX k f fd ps sp)(hr:Room k X.A)(hb:Vd X.K fd ps ds)(hd:QS dvs ds)(hx:VU CX X E)
 (I:Qq X XaR σ H s) (r:QS vs us) (h:sp (vs++dvs) H Q E):wpAny (model X.prog X.w) X.A (call (.ref f) us) (EP X XaR σ Q) X.xe s:=by
 have r2:QS (vs++dvs) (us++ds):=r.append hd;have hl:(us++ds).length=ps.length:=by rw[<- r2.length];exact F.len _ _ _ _ h
 refine wpAny_call (codeAny_mono (F.run X.A X.stack s H ⟨us,[]⟩ (us++ds) (vs++dvs) Q E hr I.env0 (hb s us I.kIn hl) r2 h) fun r s' hq=>?_)
 cases r with
 |error e=>exact hx XaR σ H s e s' I hq
 |ok fl =>
   cases fl with
   |ret u=>exact I.after hq
   |next=>exact False.elim hq
   |brk=>exact False.elim hq
   |cont=>exact False.elim hq
def N9 (F:FnOk X.prog X.w X.K X.mg X.base CX k f fd ps sp)(hr:Room k X.A)(hg:Gl X x)(hm:X.mg x=some (.ref f))(hk:W.keepIn X.K (.ref f)=true)(hb:Vd X.K fd ps ds)(hd:QS dvs ds)(hx:VU CX X E)
 (ha:PA X (e::es) t) (hdb:(x==("__debug__" : Str))=false:=by decide) (he:starEach (e::es) X.env=(false,eval e X.env)::starEach es X.env:=by rfl) (hpl:(backTo pos (starEach es X.env)).any (·.1)=false:=by rfl) :
 PE X (.Call (.Name x p) (e::es) [] pos) (VF sp dvs E t):=by
 intro XaR s σ H Q I h;refine wpAny_Call_Name_kw (Jp I hg hm ?_ hdb);refine W.callWith_K (h₀:=X.base) I.ok.mod.kin hk (Q2 (ha pos XaR s σ H _ I h) fun us s1 ⟨vs,H1,I1,r,q⟩=>⟨I1.kIn,?_⟩) he hpl;exact MY F hr hb hd hx I1 r q
def Dp {pl:Sem Bool}(he:PE X o ta)(c:Cls X.K C)(hm:Meth X.K C m f)(F:FnOk X.prog X.w X.K X.mg X.base CX k f fd ps sp)(hr:Room k X.A)(hb:Vd X.K fd ps ds)(hd:QS dvs ds)(hx:VU CX X E)(ha:PA X (e::es) t)
 (hst:starEach (e::es) X.env=(false,eval e X.env)::starEach es X.env:=by rfl) (hpl:(backTo pos (starEach es X.env)).any (·.1)=false:=by rfl)
 (ht:eval (.Call (.Attribute o m apos) (e::es) [] pos) X.env=(do
  let ov <- eval o X.env
  standAt apos.atName
  let (f,first) <- holding [ov] (getMethod ov m pl)
  callWith pos f first (backTo pos (starEach (e::es) X.env)) (backToKw pos (keywordEach [] X.env))):=by rfl) :
 PE X (.Call (.Attribute o m apos) (e::es) [] pos) (Vr C m sp dvs E ta t):=by
 intro XaR s σ H Q I h;refine W.methodCall_KW (pl:=pl) (Q2 (he XaR s σ H _ I h) fun u s1 ⟨x,H1,I1,rx,a,dx,fs,ex,ea,l,q⟩=>?_) ht;subst ex;obtain rfl:u=Value.ref a:=rx;refine SB I1 ea c hm l ?_;refine W.callWith_K (first:=[.ref a]) (h₀:=X.base) I.ok.mod.kin hm.kp (Q2 (ha pos XaR s1 σ H1 _ I1 q) fun us s2 ⟨vs,H2,I2,r,q2⟩=>⟨I2.kIn,?_⟩) hst hpl;exact MY (us:=.ref a::us) (vs:=.ref a::vs) F hr hb hd hx I2 (.cons rfl r) q2
def Cf {pl:Sem Bool}(he:PE X o ta)(c:Cls X.K C)(hm:Meth X.K C m f)(F:FnOk X.prog X.w X.K X.mg X.base CX k f fd ps sp)(hr:Room k X.A)(hb:Vd X.K fd ps ds)(hd:QS dvs ds)(hx:VU CX X E)
 (ht:eval (.Call (.Attribute o m apos) [] [] pos) X.env=(do
  let ov <- eval o X.env
  standAt apos.atName
  let (f,first) <- holding [ov] (getMethod ov m pl)
  callWith pos f first (backTo pos (starEach [] X.env)) (backToKw pos (keywordEach [] X.env))):=by rfl) :
 PE X (.Call (.Attribute o m apos) [] [] pos) (Vr C m sp dvs E ta QO):=by
 intro XaR s σ H Q I h;refine W.methodCall_KW (pl:=pl) (Q2 (he XaR s σ H _ I h) fun u s1 ⟨x,H1,I1,rx,a,dx,fs,ex,ea,l,q⟩=>?_) ht;subst ex;obtain rfl:u=Value.ref a:=rx;refine SB I1 ea c hm l ?_;exact W.callWith_K0 (first:=[.ref a]) I1.kIn hm.kp (MY (us:=[.ref a]) (vs:=[.ref a]) F hr hb hd hx I1 (.cons rfl .nil) q)
structure Mk (K:W.Frag)(C f:Addr):Prop where
 makes:W.makesIn K C=true
 init:W.findIn K (.ref C) "__init__"=some (some (.ref f))
 fn:W.isFn K (.ref f)=true
 kp:W.keepIn K (.ref C)=true
def Rj {XaR:Qc}{σ:St}{H:Hp}{s:Shared}{Q:VK}{us:Qe}{vs:List V}(M:Mk X.K C f)(F:FnOk X.prog X.w X.K X.mg X.base CX k f fd ps sp)(hr:Room (k+1) X.A)(hb:Vd X.K fd ps ds)(hd:QS dvs ds)
 (hx:VU CX X E) (I:Qq X XaR σ H s) (r:QS vs us)
 (h:∀x dx,H x=none->H dx=none->dx≠x->sp (.ref x::(vs++dvs)) (upd (upd H dx (.own x)) x (.ins C dx [])) (fun v H2=>v=.non/\Q (.ref x) H2) E) :
 wpAny (model X.prog X.w) X.A (call (.ref C) us) (EP X XaR σ Q) X.xe s:=by
 have hq:=h (s.heap.objs.size+1) s.heap.objs.size (I.hok.fresh (Nat.le_succ _)) (I.hok.fresh (Xq _)) (Xo (Wa _));have I2:=Qq.made (C:=C) I;have r2:QS (V.ref (s.heap.objs.size+1)::(vs++dvs)) (Value.ref (s.heap.objs.size+1)::(us++ds)):=.cons rfl (r.append hd)
 have hl:(Value.ref (s.heap.objs.size+1)::us++ds).length=ps.length:=by
  have e:=r2.length;rw[F.len _ _ _ _ hq]at e;exact e.symm
 refine wpAny_call (FY (f:=f) I.kIn M.makes M.init (beq_iff_eq.mp M.fn) (codeAny_mono (F.run _ X.stack _ _ ⟨Value.ref (s.heap.objs.size+1)::us,[]⟩ (Value.ref (s.heap.objs.size+1)::(us++ds)) _ _ E (hr.make C us [])
  (I2.env0.make C us []) (hb _ (Value.ref (s.heap.objs.size+1)::us) I2.kIn hl) r2 hq) fun r s' hq'=>?_))
 cases r with
 |error e=>exact hx XaR σ _ _ e s' I2 hq'
 |ok fl =>
   cases fl with
   |ret u =>
     obtain⟨v,H',I3,rv,ev,q3⟩:=I2.after hq';subst ev;exact⟨rv,⟨V.ref (s.heap.objs.size+1),H',I3,rfl,q3⟩⟩
   |next=>exact False.elim hq'
   |brk=>exact False.elim hq'
   |cont=>exact False.elim hq'
def LZ (M:Mk X.K C f)(F:FnOk X.prog X.w X.K X.mg X.base CX k f fd ps sp)(hr:Room (k+1) X.A)(hg:Gl X x)(hm:X.mg x=some (.ref C))(hb:Vd X.K fd ps ds)(hd:QS dvs ds)(hx:VU CX X E)
 (ha:PA X (e::es) t) (hdb:(x==("__debug__" : Str))=false:=by decide) (he:starEach (e::es) X.env=(false,eval e X.env)::starEach es X.env:=by rfl) (hpl:(backTo pos (starEach es X.env)).any (·.1)=false:=by rfl) :
 PE X (.Call (.Name x p) (e::es) [] pos) (Ub C sp dvs E t):=by
 intro XaR s σ H Q I h;refine wpAny_Call_Name_kw (Jp I hg hm ?_ hdb);refine W.callWith_K (h₀:=X.base) I.ok.mod.kin M.kp (Q2 (ha pos XaR s σ H _ I h) fun us s1 ⟨vs,H1,I1,r,q⟩=>⟨I1.kIn,?_⟩) he hpl;exact Rj M F hr hb hd hx I1 r q
def Cu (M:Mk X.K C f)(F:FnOk X.prog X.w X.K X.mg X.base CX k f fd ps sp)(hr:Room (k+1) X.A)(hg:Gl X x)(hm:X.mg x=some (.ref C))(hb:Vd X.K fd ps ds)(hd:QS dvs ds)(hx:VU CX X E)
 (hdb:(x==("__debug__" : Str))=false:=by decide):PE X (.Call (.Name x p) [] [] pos) (Ub C sp dvs E QO):=by
 intro XaR s σ H Q I h;refine wpAny_Call_Name_kw (Jp I hg hm ?_ hdb);exact W.callWith_K0 I.kIn M.kp (Rj (us:=[]) M F hr hb hd hx I .nil h)
end
section
variable {X:Cx}{CX:CXT}{k:Nat}{f C:Addr}{fd:FuncData}{ps ks:Qh}{sp:Sp}{E:XK}{x m:Str}{p pos apos kpos:Pos}{e o:Expr}{es:Qi}{kws:List Keyword}{te ta:TE}{t tk:TA}{nm:Option Str}
variable {g:Qe->Qe->Qe}{gV:List V->List V->List V}
end
structure Qp (N P:Qh)(sc:Scope):Prop where
 kind:sc.kind=.function
 co:sc.isCoroutine=false
 gen:sc.isGenerator=false
 nd:N.Nodup
 pre:N.take P.length=P
 par:∀x∈P,sc.names.lookup x=some .local\/sc.names.lookup x=some .cell
 nofree:∀y∈sc.names,y.2≠.free
theorem RW {kindOf:Str->Option NameKind}{x:Str}:∀{binds:List (Str×Value)} {m:Str->Qf},(∀v,(x,v)∉binds)->bindL kindOf binds m x=m x
 |[],_,_=>rfl
 |(n,v)::r,m,h=>by
   unfold bindL;rw[RW fun w hw=>h w (Xd _ hw)]
   split
   ·have:x≠n:=by rintro rfl;exact h v Xa
    simp[this]
   ·rfl
theorem Ss {kindOf:Str->Option NameKind}{x:Str}:∀{binds:List (Str×Value)} {m:Str->Qf},(∀v,(x,v)∉binds)->bindC kindOf binds m x=m x
 |[],_,_=>rfl
 |(n,v)::r,m,h=>by
   unfold bindC;rw[Ss fun w hw=>h w (Xd _ hw)]
   split
   ·rfl
   ·have:x≠n:=by rintro rfl;exact h v Xa
    simp[this]
theorem RP {kindOf:Str->Option NameKind}{x:Str}{v:Value}:∀{P:Qh} {vs:Qe} {i:Nat} {m:Str->Qf},P.Nodup->P[i]?=some x->vs[i]?=some v->kindOf x=some .local ->
 bindL kindOf (P.zip vs) m x=some v
 |[],_,_,_,_,h,_,_=>by simp at h
 |_::_,[],_,_,_,_,h,_=>by simp at h
 |p::P,w::vs,0,m,nd,h1,h2,hk=>by
   simp at h1 h2;subst h1;subst h2
   show bindL kindOf ((p,w)::P.zip vs) m p=_;unfold bindL;rw[RW fun v hv=>(Xu.mp nd).1 (List.of_mem_zip hv).1,Xe hk]
   simp
 |p::P,w::vs,i+1,m,nd,h1,h2,hk=>by
   show bindL kindOf ((p,w)::P.zip vs) m x=_;unfold bindL;exact RP (i:=i) (Xu.mp nd).2 (by simpa using h1) (by simpa using h2) hk
theorem RV {kindOf:Str->Option NameKind}{x:Str}{v:Value}:∀{P:Qh} {vs:Qe} {i:Nat} {m:Str->Qf},P.Nodup->P[i]?=some x->vs[i]?=some v->kindOf x≠some .local ->
 bindC kindOf (P.zip vs) m x=some v
 |[],_,_,_,_,h,_,_=>by simp at h
 |_::_,[],_,_,_,_,h,_=>by simp at h
 |p::P,w::vs,0,m,nd,h1,h2,hk=>by
   simp at h1 h2;subst h1;subst h2
   show bindC kindOf ((p,w)::P.zip vs) m p=_;unfold bindC;rw[Ss fun v hv=>(Xu.mp nd).1 (List.of_mem_zip hv).1,Xc hk]
   simp
 |p::P,w::vs,i+1,m,nd,h1,h2,hk=>by
   show bindC kindOf ((p,w)::P.zip vs) m x=_;unfold bindC;exact RV (i:=i) (Xu.mp nd).2 (by simpa using h1) (by simpa using h2) hk
def start (N:Qh)(vs:List V):St:=vs.map some++List.replicate (N.length-vs.length) none
def Vb (CX:CXT)(P:Program)(w:World)(K:W.Frag)(mg:Str->Qf)(base:Heap)(N:Qh)(qual:Str)(scope:Scope)(f:Addr)(cd:Value)(A:Around)(outer:List Env)(s:Shared)(H:Hp)(E:XK):Cx where
 prog:=P
 w:=w
 K:=K
 mg:=mg
 base:=base
 A:=A.deeper (envOfC qual scope s.heap.objs.size f cd)
 N:=N
 s₀:=s
 H₀:=H
 env:=envOfC qual scope s.heap.objs.size f cd
 outer:=outer
 stack:=envOfC qual scope s.heap.objs.size f cd::outer
 ex:=[]
 calm:=true
 fn:=fun _=>true
 pn:=[]
 xe:=fun e s'=>wpAny (model P w) (A.deeper (envOfC qual scope s.heap.objs.size f cd)) (leaving (envOfC qual scope s.heap.objs.size f cd) e) (fun _ s''=>CX outer H s E e s'') (fun e' s''=>CX outer H s E e' s'') s'
def Rk {sc:Scope}{n:Nat}{x:Str}(h:sc.names.lookup x=some .cell):∃c,(cellsFrom n sc.names []).lookup x=some c:=by
 have q:=W.cellsFrom_some sc.names n [] (.inl h);exact Option.isSome_iff_exists.mp q
def Ax {CX:CXT}{P:Program}{w:World}{K:W.Frag}{mg:Str->Qf}{base:Heap}{N ps:Qh}{qual:Str}{scope:Scope}{f:Addr}{cd:Value}{A:Around}{outer:List Env}{s s1:Shared}{H:Hp}{E:XK}{us:Qe}{vs:List V}
 (S:Qp N ps scope) (hd:A.handled=none) (e0:Env0 P w K mg base A outer s H) (hl:vs.length=ps.length) (r:QS vs us)
 (x:InCallC s s.heap.objs.size (bindL (envOfC qual scope s.heap.objs.size f cd).kindOf (ps.zip us) fun _=>none) (cellsFrom (s.heap.objs.size+1) scope.names []) (bindC (envOfC qual scope s.heap.objs.size f cd).kindOf (ps.zip us) fun _=>none) s1) :
 Qq (Vb CX P w K mg base N qual scope f cd A outer s H E) [] (start N vs) H s1:=by
 have hpl:ps.length<=N.length:=by have:=XX List.length S.pre;rw[List.length_take]at this;omega
 obtain⟨h1,tk,rfl,hk⟩:=x.done;have noA:∀b:Addr,b∉(Vb CX P w K mg base N qual scope f cd A outer s H E).ex:=fun b z=>Xk (show b∈([]:Qg) from z) (by simp)
 refine⟨⟨e0.mod,S.kind,rfl,rfl,Xq _,fun y z c h1 h2=>?_,fun y hy=>?_,fun y c _ h=>?_,fun _=>hd,Around.frames_deeper e0.frames,.inr ⟨rfl,rfl⟩,fun b z=>Xk z (noA b),e0.bs,e0.bsz,fun b _ _=>noA b,fun b z=>Xk z (noA b),e0.funs,e0.frf⟩,
  rfl,e0.bare,Un.kept hk,⟨_,x.toInCall.ns,fun i y v h1 h2 h3=>?_⟩,fun y c h=>⟨_,x.cell y c h⟩,e0.hok.fresh (Xq _),fun y c h=>?_,fun p hp=>Xk (show p∈([]:Qc) from hp) (by simp),e0.hok.kept hk,?_⟩
 ·exact name_of_addr x.apart (PySem.mem_of_lookup h1) (PySem.mem_of_lookup h2)
 ·have hy:scope.names.lookup y=some .cell\/scope.names.lookup y=some .free:=hy
  rcases hy with hy|hy
  ·exact Rk hy
  ·exact Xk rfl (S.nofree _ (PySem.mem_of_lookup hy))
 ·exact Yt (x.above y c (PySem.mem_of_lookup h))
 ·have hi:i<vs.length:=by
   unfold start at h2;by_cases hi:i<vs.length
   ·exact hi
   ·rw[XY (by simpa using hi)]at h2
    rw[HP]at h2;split at h2<;>cases h2
  have ha:vs[i]?=some v:=by
   unfold start at h2;rw[XM (by simpa using hi),Xt]at h2;cases e:vs[i]? with
   |none=>rw[e]at h2;cases h2
   |some a=>rw[e]at h2;cases h2;rfl
  obtain⟨u,hu,rv⟩:=r.get ha
  have hp:ps[i]?=some y:=by
   rw[<- S.pre,List.getElem?_take_of_lt (by omega)];exact h1
  have ndP:ps.Nodup:=by rw[<- S.pre];exact S.nd.sublist (List.take_sublist _ _)
  refine⟨u,rv,?_⟩
  rcases S.par y (List.mem_of_getElem? hp) with k|k
  ·exact .inl ⟨k,RP ndP hp hu k⟩
  ·obtain⟨c,e⟩:=Rk (n:=s.heap.objs.size+1) k
   refine .inr ⟨.inl k,c,e,?_⟩;have q:=x.cell y c e;rw[RV ndP hp hu (by show scope.names.lookup y≠_;rw[k];decide)]at q;exact q
 ·exact e0.hok.fresh (Yt (x.above y c (PySem.mem_of_lookup h)))
 ·unfold start
  show _=N.length;rw[Xm,Xn,U4];omega
def Kj {CX:CXT}{P:Program}{w:World}{K:W.Frag}{mg:Str->Qf}{base:Heap}{k:Nat}{f:Addr}{name qual:Str}{params:Arguments}{body:List Stmt}{scope:Scope}{dV kV doc pm cdv ct oc:Value}{an od:Qj}
 {osl:Array (Qf)} {N ps:Qh} {sp:Sp} (lk:K.lookup f=some ⟨oc,od,.func (W.fnOf name qual params body scope dV kV doc pm an cdv ct),osl⟩) (hcd:W.codeIn K cdv qual=true) (S:Qp N ps scope)
 (len:∀vs H Q E,sp vs H Q E->vs.length=ps.length)
 (XaS:∀(A:Around) (outer:List Env) (s:Shared) (H:Hp) (vs:List V) (Q:VK) (E:XK),Room k (A.deeper (envOfC qual scope s.heap.objs.size f cdv))->sp vs H Q E ->
  ∃t,PSs (Vb CX P w K mg base N qual scope f cdv A outer s H E) body t/\t { nx:=fun _ H'=>Q .non H',rt:=Q } (start N vs) H) :
 FnOk P w K mg base CX (k+1) f (W.fnOf name qual params body scope dV kV doc pm an cdv ct) ps sp:=by
 refine⟨len,fun A outer s H args us vs Q E hr e0 hb r hsp=>?_⟩;have hl:=len _ _ _ _ hsp;have KX:K.In s.heap:=e0.mod.kin.keeps fun b o e=>(e0.bs b o e).1;have lim:s.heap.NoLimit:=e0.mod.nolimit.keeps fun b o e=>(e0.bs b o e).1
 have hkind:∀y∈ps.zip us,scope.names.lookup y.1=some .local\/(scope.names.lookup y.1=some .cell/\((cellsFrom (s.heap.objs.size+1) scope.names []).lookup y.1).isSome=true):=fun⟨n,v⟩ hy=>by
  rcases S.par n (List.of_mem_zip hy).1 with q|q
  ·exact .inl q
  ·exact .inr ⟨q,W.cellsFrom_some _ _ _ (.inl q)⟩
 refine codeAny_call_function hr.depth (KX _ _ lk) rfl S.co S.gen rfl (W.codeRec_of KX hcd) (hb _ _ _ _ ?_);refine wpAny_newFunctionEnv_cells S.kind hkind fun env he s1 x=>?_;subst he;refine⟨lim.keeps x.toInCall.keep,codeAny_func ?_⟩;obtain⟨t,ht,hq⟩:=XaS A outer s H vs Q E (hr.deeper _) hsp;have I:Qq (Vb CX P w K mg base N qual scope f cdv A outer s H E) [] (start N vs) H s1:=Ax S hr.hd e0 hl r x;refine wpAny_mono (ht [] s1 (start N vs) H _ I hq) (fun fl s' hs=>?_) fun e s' hs=>hs
 have fin:∀{σ':St} {H':Hp} {v:V} {u:Value},Qq (Vb CX P w K mg base N qual scope f cdv A outer s H E) [] σ' H' s'->QI v u->Q v H'->CE outer P w H s Q u s' :=
  fun{σ' H' v u} J rv q=>⟨v,H',J.os,J.bare,J.base,J.hok,rv,q⟩
 cases fl with
 |ret u =>
   obtain⟨v,σ',H',J,rv,q⟩:=hs;exact fin J rv q
 |next =>
   obtain⟨σ',H',J,q⟩:=hs;exact fin (v:=V.non) (u:=Value.none) J rfl q
 |brk =>
   obtain⟨_,_,_,q⟩:=hs;exact False.elim q
 |cont =>
   obtain⟨_,_,_,q⟩:=hs;exact False.elim q
section
variable {X:Cx}{x:Str}{p pos:Pos}{e:Expr}{es:Qi}{t:TA}{id T:String}{r:List V->Hp->VK->Prop}
def tCB (r:List V->Hp->VK->Prop)(t:TA):TE:=fun σ H Q=>t σ H fun vs H1=>r vs H1 Q
def Zy (hc:Z1 X (.builtin id) r) (hg:Gl X x) (hm:X.mg x=none) (hv:bootBuiltins x=some (.builtin id)) (ha:PA X (e::es) t) (hn:x ≠ "__name__" := by decide) (hdb:(x==("__debug__" : Str))=false:=by decide)
 (he:starEach (e::es) X.env=(false,eval e X.env)::starEach es X.env:=by rfl) (hpl:(backTo pos (starEach es X.env)).any (·.1)=false:=by rfl):PE X (.Call (.Name x p) (e::es) [] pos) (tCB r t):=by
 intro XaR s σ H Q I h;refine wpAny_Call_Name_kw (W8 I hg hm hv ?_ hn hdb);exact PyProof.Rows.callWith_builtin1 (Q2 (ha pos XaR s σ H _ I h) fun us s1 ⟨vs,H1,I1,r1,q1⟩=>hc XaR s1 σ H1 vs us Q I1 r1 q1) he hpl
def Wu (hc:Z1 X (.type T) r) (hg:Gl X x) (hm:X.mg x=none) (hv:bootBuiltins x=some (.type T)) (ha:PA X (e::es) t) (hn:x ≠ "__name__" := by decide) (hdb:(x==("__debug__" : Str))=false:=by decide)
 (he:starEach (e::es) X.env=(false,eval e X.env)::starEach es X.env:=by rfl) (hpl:(backTo pos (starEach es X.env)).any (·.1)=false:=by rfl):PE X (.Call (.Name x p) (e::es) [] pos) (tCB r t):=by
 intro XaR s σ H Q I h;refine wpAny_Call_Name_kw (W8 I hg hm hv ?_ hn hdb);exact PyProof.Rows.callWith_type1 (Q2 (ha pos XaR s σ H _ I h) fun us s1 ⟨vs,H1,I1,r1,q1⟩=>hc XaR s1 σ H1 vs us Q I1 r1 q1) he hpl
end
end L2
namespace HT
open PySem PyProof.Rows
section
open PySem.SeqAt
open PySem.AutoSeq1 (wpAny_loadPart')
open PySem.MeetsSeq PySem.MeetsSeq2 PySem.MeetsSeq3
end
section
variable {prog:Program}{w:World}{A:Around}{E:Qb}{s:Shared}
def sIx (n d:Nat):Option Int->Nat
 |none=>d
 |some v=>if v<0 then (v+(n:Int)).toNat else min v.toNat n
end
end HT
namespace L2
open PySem PySem.Spec PyProof.Rows
def BH {ns:Ql}:∀{us:Qe},QS (ns.map V.int) us->IntsAre us ns:=by
 induction ns with
 |nil=>intro us r;rw[U8]at r;cases r;exact .nil
 |cons n ns ih =>
   intro us r;rw[Xv]at r;cases r with
   |cons r1 r2 =>
     obtain⟨t,e⟩:=r1;subst e;exact .cons n t (ih r2)
section
variable {X:Cx}{e:Expr}{te:TE}{lo hi:Option Expr}{tl th:TO}{pos p2:Pos}
end
def ixN (n:Nat)(i:Int):Option Nat:=if 0<=i then (if i<n then some i.toNat else none) else if -(n:Int)<=i then some (i+n).toNat else none
def atI {α:Type}(xs:List α)(i:Int):Option α:=(ixN xs.length i).bind fun j=>xs[j]?
def N0 {n:Nat}{i:Int}{j:Nat}(h:ixN n i=some j):seqIndex? i n=some j/\j<n /\ -(n:Int)<=i/\i<n:=by
 unfold ixN at h;by_cases h0:0<=i
 ·rw[Xe h0]at h
  by_cases h1:i<n
  ·rw[Xe h1]at h
   have e:i.toNat=j:=Option.some.inj h
   exact⟨by rw[seqIndex_of h0 h1,e],by omega,by omega,h1⟩
  ·rw[Xc h1]at h;cases h
 ·rw[Xc h0]at h
  by_cases h1 : -(n:Int)<=i
  ·rw[Xe h1]at h
   have e:(i+n).toNat=j:=Option.some.inj h
   exact⟨by rw[seqIndex_neg (by omega) h1,e],by omega,h1,by omega⟩
  ·rw[Xc h1]at h;cases h
def Du {α:Type}{xs:List α}{i:Int}{v:α}(h:atI xs i=some v):∃j,seqIndex? i xs.length=some j/\xs[j]?=some v/\j<xs.length /\ -(xs.length:Int)<=i/\i<xs.length:=by
 unfold atI at h;cases e:ixN xs.length i with
 |none=>rw[e]at h;cases h
 |some j =>
   rw[e]at h;obtain⟨h1,h2,h3,h4⟩:=N0 e
   exact⟨j,h1,h,h2,h3,h4⟩
def Y3 {α:Type}{xs:List α}{j:Nat}{v:α}(h:xs[j]?=some v):atI xs (j:Int)=some v:=by
 have hj:j<xs.length:=(Xh.mp h).1
 have e:ixN xs.length (j:Int)=some j:=by
  unfold ixN;rw[Xe (by omega),Xe (by omega)];simp
 unfold atI;rw[e];exact h
def Ff (b:Expr):Prop := ∀o i,subscripted b false o i=operate [o,i] (getItem o i)
def IxR (X:Cx)(r:R2):Prop :=
 ∀(value slice:Expr) (XaR:Qc) (s:Shared) (σ:St) (H:Hp) (x y:V) (v u:Value) (Q:VK),Qq X XaR σ H s->QI x v->QI y u->r x y H Q ->
  subscripted slice false v u=operate [v,u] (getItem v u)->wpAny (model X.prog X.w) X.A (subscriptTail value slice v u) (EP X XaR σ Q) X.xe s
def MtR (X:Cx)(id:String)(r:V->List V->Hp->VK->Prop):Prop :=
 ∀(XaR:Qc) (s:Shared) (σ:St) (H:Hp) (x:V) (xs:List V) (v:Value) (us:Qe) (Q:VK),Qq X XaR σ H s->QI x v->QS xs us->r x xs H Q ->
  wpAny (model X.prog X.w) X.A (call (.builtin id) (v::us)) (EP X XaR σ Q) X.xe s
section
variable {X:Cx}{a b:Expr}{ta tb:TE}{pos:Pos}
def IxR.or {r r':R2}(h:IxR X r)(h':IxR X r'):IxR X (fun x y H Q=>r x y H Q\/r' x y H Q):=by
 intro value slice XaR s σ H x y v u Q I rx ry q hs;rcases q with q|q
 ·exact h value slice XaR s σ H x y v u Q I rx ry q hs
 ·exact h' value slice XaR s σ H x y v u Q I rx ry q hs
def QL {r:R2}(hr:IxR X r)(ha:PE X a ta)(hb:PE X b tb)(hs:Ff b:=by exact fun _ _=>rfl):PE X (.Subscript a b pos) (tOp r ta tb):=by
 intro XaR s σ H Q I h;exact Subscript_ (Ml ha hb I h fun v u s2 x y H2 I2 rx ry q=>hr a b XaR s2 σ H2 x y v u Q I2 rx ry q (hs _ _))
def HV (K:W.Frag):R2:=fun x y H Q=>∃p xs i v,x=.ref p/\y=.int i/\SqL K H p xs/\atI xs i=some v/\Q v H
def Kc (K:W.Frag):R2:=fun x y H Q=>∃p xs i v,x=.ref p/\y=.int i/\SqT K H p xs/\atI xs i=some v/\Q v H
def Kg:R2:=fun x y H Q=>∃z i c,x=.str z/\y=.int i/\z.length<=sizeLine/\atI z.cps.toList i=some c/\Q (.str ⟨#[c]⟩) H
def LK:IxR X (HV X.K):=by
 intro value slice XaR s σ H x y v u Q I rx ry h hs;obtain⟨p,xs,i,z,rfl,rfl,hq,he,q⟩:=h
 cases rx
 obtain⟨t,rfl⟩:=ry;obtain⟨its,r,pl,hz⟩:=I.list hq;obtain⟨j,h1,h2,h3,h4,h5⟩:=Du he;obtain⟨w,ew,rw'⟩:=r.get h2;have hl:=r.length;have hn:=Jh;have fin:EP X XaR σ Q w s:=⟨z,H,I,rw',q⟩
 by_cases h0:0<=i
 ·have hj:i.toNat=j:=by
   rw[seqIndex_of h0 h5]at h1;exact Option.some.inj h1
  exact item_listR pl.isList h0 (by omega) (by rw[hj];simpa using ew) fin hs
 ·have hj:(i+(its.toArray.size:Int)).toNat=j:=by
   rw[seqIndex_neg (by omega) h4]at h1;rw[XB,<- hl];exact Option.some.inj h1
  exact subscriptTail_builtinR (x:=w) pl.isList.typeIs slot_list_getitem.lookup
   (wpAny_getItem_list_neg (Q:=fun r s'=>r=w/\EP X XaR σ Q r s') pl.isList (by omega) (by rw[XB]<;>omega) (by omega) (by rw[hj];simpa using ew) ⟨rfl,fin⟩) hs
def TY:IxR X (Kc X.K):=by
 intro value slice XaR s σ H x y v u Q I rx ry h hs;obtain⟨p,xs,i,z,rfl,rfl,hq,he,q⟩:=h
 cases rx
 obtain⟨t,rfl⟩:=ry;obtain⟨its,r,pl,hz⟩:=I.tuple hq;obtain⟨j,h1,h2,h3,h4,h5⟩:=Du he;obtain⟨w,ew,rw'⟩:=r.get h2;have hl:=r.length;have hn:=Jh;have fin:EP X XaR σ Q w s:=⟨z,H,I,rw',q⟩
 exact subscriptTail_builtinR (x:=w) pl.typeIs slot_tuple_getitem.lookup
  (getItem_tuple (j:=j) (Q:=fun r s'=>r=w/\EP X XaR σ Q r s') pl (by omega) (by omega) (by rw[XB,<- hl];exact h1) (by simpa using ew) ⟨rfl,fin⟩) hs
def Ld:IxR X Kg:=by
 intro value slice XaR s σ H x y v u Q I rx ry h hs;obtain⟨z,i,c,rfl,rfl,hz,he,q⟩:=h;obtain⟨t,rfl⟩:=rx;obtain⟨t',rfl⟩:=ry;obtain⟨j,h1,h2,h3,h4,h5⟩:=Du he;have hl:z.cps.toList.length=z.length:=by simp[Str.length]
 rw[hl]at h1 h4 h5;have hn:=Jh
 exact tail_any (typeIs_str s z t) slot_str_getitem.lookup (getItem_str (c:=c) (by
  have e1:decide (i < -(2^63:Int))=false:=XS (by omega);have e2:decide (i>=2^63)=false:=XS (by omega);rw[e1,e2,Bool.or_false]) (by rw[h1];simpa using h2) ⟨.str ⟨#[c]⟩,H,I.tok _,⟨_,rfl⟩,q⟩) hs
def rIx (K:W.Frag):R2:=fun x y H Q=>HV K x y H Q\/Kc K x y H Q\/Kg x y H Q
def QM:IxR X (rIx X.K):=LK.or (TY.or Ld)
def Et (its:Qe) (n j:Nat) (u:Value):Obj.mapSeq (·.setIfInBounds j u) { cls:=.type "list",data:=.seq its.toArray n }={ cls:=.type "list",data:=.seq (its.set j u).toArray n }:=by
 simp[Obj.mapSeq]
def Qq.lst {XaR:Qc}{σ:St}{H:Hp}{s:Shared}{p:Addr}{xs:List V}(I:Qq X XaR σ H s)(h:H p=some (.lst xs)) :
 ∃(its:Qe) (n:Nat),QS xs its/\s.heap.get? p=some { cls:=.type "list",data:=.seq its.toArray n }/\xs.length<=sizeLine:=by
 obtain⟨z,its,n,r,e⟩:=I.hok p _ h
 exact⟨its,n,r,e,z⟩
def Qq.lstUpd {XaR:Qc}{σ:St}{H:Hp}{s:Shared}{p:Addr}{xs ys:List V}{its its':Qe}{n n':Nat}{f:Obj->Obj}(I:Qq X XaR σ H s)(h:H p=some (.lst xs))
 (ho:s.heap.get? p=some { cls:=.type "list",data:=.seq its.toArray n }) (hf:f { cls:=.type "list",data:=.seq its.toArray n }={ cls:=.type "list",data:=.seq its'.toArray n' }) (r:QS ys its') (hz:ys.length<=sizeLine) (t:Nat) :
 Qq X XaR σ (upd H p (.lst ys)) { s with heap:=s.heap.update p f,toks:=t }:=by
 have e:(s.heap.update p f).get? p=some { cls:=.type "list",data:=.seq its'.toArray n' }:=by
  rw[X8 f ho (by rw[hf]<;>rfl),hf]
 refine I.write (x:=p) (e:=p) (by rw[h];trivial) (.inl rfl) (fun b u hb q=>(XO _ _ (Ne.symm hb)).trans q) ⟨_,e⟩ ?_
 exact⟨hz,its',n',r,e⟩
def UK:V->V->V->Hp->(Hp->Prop)->Prop:=fun o i v H Q=>∃p xs k j,o=.ref p/\i=.int k/\H p=some (.lst xs)/\ixN xs.length k=some j/\Q (upd H p (.lst (xs.set j v)))
def WE:Mo X UK:=by
 intro XaR s σ H o i v ov iv u Q I ro ri rv h;obtain⟨p,xs,k,j,rfl,rfl,hp,hj,q⟩:=h
 cases ro
 obtain⟨t,rfl⟩:=ri;obtain⟨its,n,r,ho,hz⟩:=I.lst hp;obtain⟨h1,h2,h3,h4⟩:=N0 hj;have hl:=r.length;have hn:=Jh
 have I':Qq X XaR σ (upd H p (.lst (xs.set j v))) { s with heap:=s.heap.update p (Obj.mapSeq (·.setIfInBounds j u)) } :=
  I.lstUpd hp ho (Et its n j u) (r.set rv j) (by rw[List.length_set];exact hz) s.toks
 by_cases h0:0<=k
 ·have hk:k.toNat=j:=by
   rw[seqIndex_of h0 h4]at h1;exact Option.some.inj h1
  exact W.ki_setAt ho h0 (by omega) (by rw[XB,<- hl];exact h4) (by rw[hk];exact⟨_,I',q⟩)
 ·have hk:(k+(its.toArray.size:Int)).toNat=j:=by
   rw[seqIndex_neg (by omega) h3]at h1;rw[XB,<- hl];exact Option.some.inj h1
  exact W.ki_setBack ho (by omega) (by rw[XB,<- hl];exact h3) (by omega) (by rw[hk];exact⟨_,I',q⟩)
def ES:Z1 X (.builtin "len") (fun xs H Q=>∃p ys,xs=[.ref p]/\(SqL X.K H p ys\/SqT X.K H p ys)/\Q (.int ys.length) H):=by
 intro XaR s σ H xs us Q I r h;obtain⟨p,ys,rfl,hq,q⟩:=h;obtain⟨u,rfl,rx⟩:=Yx r
 cases rx
 have hn:=Jh
 rcases hq with hq|hq
 ·obtain⟨its,r',pl,hz⟩:=I.list hq
  have hlen:=r'.length;exact Calls.call_len_list pl.isList (by simp only[XB]<;>omega) ⟨.int ys.length,H,I.tok _,⟨s.toks+1,by rw[XB,hlen]⟩,q⟩
 ·obtain⟨its,r',pl,hz⟩:=I.tuple hq
  have hlen:=r'.length;exact len_tuple pl (by simp only[XB]<;>omega) ⟨.int ys.length,H,I.tok _,⟨s.toks+1,by rw[XB,hlen]⟩,q⟩
def EN:Z1 X (.type "list") (fun xs H Q=>∃p ys,xs=[.ref p]/\(SqL X.K H p ys\/SqT X.K H p ys)/\∀l,H l=none->Q (.ref l) (upd H l (.lst ys))):=by
 intro XaR s σ H xs us Q I r h;obtain⟨p,ys,rfl,hq,q⟩:=h;obtain⟨u,rfl,rx⟩:=Yx r
 cases rx
 have fin:∀(its:Qe),QS ys its->ys.length<=sizeLine->∀(h':Heap) (c':Nat),(∀b o',s.heap.get? b=some o'->h'.get? b=some o') ->
  h'.get? s.heap.objs.size=some { cls:=.type "list",dict:=none,data:=.seq its.toArray c',slots := #[] }->EP X XaR σ Q (.ref s.heap.objs.size) { s with heap:=h' }:=fun its r' hz h' c' kp e =>
  ⟨.ref s.heap.objs.size,_,I.laid (t':=s.toks) kp (Xq _) (show Z0 X.prog X.w _ h' _ (.lst ys) from⟨hz,its,c',r',e⟩),rfl,q _ (I.hok.fresh (Xq _))⟩
 rcases hq with hq|hq
 ·obtain⟨its,r',pl,hz⟩:=I.list hq
  have hlen:=r'.length;obtain⟨o,ho,hc,n,hd⟩:=pl.isList;exact call_list_seq p (.inl rfl) ho hc hd (fun h' c' kp e=>fin its r' hz h' c' kp e) (by simp only[XB]<;>omega)
 ·obtain⟨its,r',pl,hz⟩:=I.tuple hq
  have hlen:=r'.length;obtain⟨o,ho,hc,n,hd⟩:=pl;exact call_list_seq p (.inr rfl) ho hc hd (fun h' c' kp e=>fin its r' hz h' c' kp e) (by simp only[XB]<;>omega)
def Ib:Z1 X (.type "tuple") (fun xs H Q=>∃p ys,xs=[.ref p]/\((SqL X.K H p ys/\∀l,H l=none->Q (.ref l) (upd H l (.tup ys)))\/(SqT X.K H p ys/\Q (.ref p) H))):=by
 intro XaR s σ H xs us Q I r h;obtain⟨p,ys,rfl,h⟩:=h;obtain⟨u,rfl,rx⟩:=Yx r
 cases rx
 rcases h with ⟨hq,q⟩|⟨hq,q⟩
 ·obtain⟨its,r',pl,hz⟩:=I.list hq
  have hlen:=r'.length;refine call_tuple_list pl.isList (fun h' kp=>?_) (by simp only[XB]<;>omega);have I1:Qq X XaR σ H { s with heap:=h' }:=I.kept (t':=s.toks) kp
  have I2:Qq X XaR σ (upd H h'.objs.size (.tup ys)) { s with heap:=h'.push { cls:=.type "tuple",data:=.seq its.toArray } } :=
   I1.laid (t':=s.toks) (fun b o e=>Xi _ e) (Xq _) (show Z0 X.prog X.w _ _ _ (.tup ys) from⟨hz,its,r',IsTup.new _ _⟩)
  exact⟨.ref h'.objs.size,_,I2,rfl,q _ (I1.hok.fresh (Xq _))⟩
 ·obtain⟨its,r',pl,hz⟩:=I.tuple hq
  exact call_tuple_same pl ⟨.ref p,H,I,rfl,q⟩
def tyV (K:W.Frag)(T:String)(x:V)(H:Hp):Prop:=match x with
 |.str _=>T = "str"
 |.int _=>T = "int"
 | .ref p=>(T = "list" /\ ∃xs,SqL K H p xs)\/(T = "tuple" /\ ∃o,K.lookup p=some o/\o.cls=.type "tuple" /\ o.dict=none) \/
  (T = "dict" /\ ((∃kvs,H p=some (.dK kvs))\/∃kvs,H p=some (.dT kvs)))\/(T = "set" /\ ∃S n,H p=some (.set S n))
 |_=>False
def Pw {XaR:Qc}{σ:St}{H:Hp}{s:Shared}{T:String}{x:V}{v:Value}(I:Qq X XaR σ H s)(r:QI x v)(ty:tyV X.K T x H) :
 s.TypeIs v T/\∀a,v=.ref a->∃ob,s.heap.get? a=some ob/\ob.dict=none:=by
 cases x with
 |str z =>
   obtain⟨t,rfl⟩:=r
   cases (show T = "str" from ty)
   exact⟨typeIs_str s z t,fun _ e=>nomatch e⟩
 |int i =>
   obtain⟨t,rfl⟩:=r
   cases (show T = "int" from ty)
   exact⟨typeIs_int s i t,fun _ e=>nomatch e⟩
 |ref p =>
   cases r
   rcases ty with ⟨rfl,xs,hq⟩|⟨rfl,o,hk,hc,hd⟩|⟨rfl,hk⟩|⟨rfl,S,n,hk⟩
   ·obtain⟨its,_,pl,_⟩:=I.list hq
    refine⟨pl.isList.typeIs,fun a e=>?_⟩
    cases e
    obtain⟨o,n,e,c,hd,_⟩:=pl
    exact⟨o,e,hd⟩
   ·refine⟨⟨o,I.kIn p o hk,hc⟩,fun a e=>?_⟩
    cases e
    exact⟨o,I.kIn _ o hk,hd⟩
   ·have z:∃o,s.heap.get? p=some o/\o.ExactDict:=by
     rcases hk with ⟨kvs,hk⟩|⟨kvs,hk⟩
     ·obtain⟨_,_,_,_,o,_,_,e,ex,_⟩:=I.hok p _ hk
      exact⟨o,e,ex⟩
     ·obtain⟨_,_,_,_,o,_,_,e,ex,_⟩:=I.hok p _ hk
      exact⟨o,e,ex⟩
    obtain⟨o,e,ex⟩:=z;refine⟨⟨o,e,ex.1⟩,fun a e2=>?_⟩
    cases e2
    exact⟨o,e,ex.2.1⟩
   ·obtain⟨o,_,_,_,e,ex,_⟩:=I.hok p _ hk
    refine⟨⟨o,e,ex.1⟩,fun a e2=>?_⟩
    cases e2
    exact⟨o,e,ex.2.1⟩
 |_=>exact False.elim ty
def tBM (K:W.Frag)(T:String)(r:V->List V->Hp->VK->Prop)(to:TE)(t:TA):TE:=fun σ H Q=>to σ H fun x H1=>tyV K T x H1/\t σ H1 fun xs H2=>r x xs H2 Q
variable {o e:Expr}{es:Qi}{to:TE}{t:TA}{name:Str}{apos cpos:Pos}{T id:String}{r:V->List V->Hp->VK->Prop}
def Vq (pa:PlainAttrs T) (slot:Slot T name id) (hty:typeOf (.builtin id)=pure (.type "method_descriptor")) (hm:MtR X id r) (ho:PE X o to) (ha:PA X (e::es) t)
 (hbase:attributeBase o name X.env (eval o X.env)=eval o X.env:=by rfl)
 (hfew:((backTo cpos (starEach (e::es) X.env)).all (fun x => !x.1)&&(backToKw cpos (keywordEach [] X.env)).all (fun x=>x.1.isSome)
  && decide ((e::es).length+([]:List Keyword).length+(if ([]:List Keyword).isEmpty then 0 else 1)<30))=true:=by rfl)
 (hline:(apos.endLine==cpos.line)=true:=by rfl) (hs:starEach (e::es) X.env=(false,eval e X.env)::starEach es X.env:=by rfl) (hplain:(backTo cpos (starEach es X.env)).any (·.1)=false:=by rfl) :
 PE X (.Call (.Attribute o name apos) (e::es) [] cpos) (tBM X.K T r to t):=by
 intro XaR s σ H Q I h;refine wpAny_Call_method_late hbase hfew hline rfl (Q2 (ho XaR s σ H _ I h) fun v s1 ⟨x,H1,I1,r1,ty,q1⟩=>?_);obtain⟨h1,h2⟩:=Pw I1 r1 ty;refine⟨T,id,pa,slot,hty,h1,h2,?_⟩;have hA:=ha cpos XaR s1 σ H1 _ I1 q1;rw[hs]at hA ⊢;refine Calls.callWith_builtin (by show(false||(backTo cpos (starEach es X.env)).any (·.1))=false;rw[hplain]<;>rfl) (Calls.evalArgs_plain ?_);exact Q2 hA fun us s2 ⟨vs,H2,I2,r2,q2⟩=>hm XaR s2 σ H2 x vs v us Q I2 r1 r2 q2
end
def MtM (X:Cx)(id:String)(r:V->List V->Hp->VK->Prop):Prop :=
 ∀(XaR:Qc) (s:Shared) (σ:St) (H:Hp) (x:V) (xs:List V) (v:Value) (us:Qe) (Q:VK),Qq X XaR σ H s->QI x v->QS xs us->r x xs H Q ->
  wpAny (model X.prog X.w) X.A (call (.builtin id) (v::us)) (EP X XaR σ Q) X.xe s
theorem QS.one:∀{x:V} {us:Qe},QS [x] us->∃u,us=[u]/\QI x u
 |_,_,.cons r .nil=>⟨_,rfl,r⟩
section
variable {X:Cx}{XaR:Qc}{σ:St}{H:Hp}{s:Shared}{l b:Addr}{xs ys zs:List V}
def Qq.lset {its its':Qe}{n:Nat}{f:Array Value->Array Value}{t':Nat}(I:Qq X XaR σ H s)(hH:H l=some (.lst xs))
 (e:s.heap.get? l=some { cls:=.type "list",data:=.seq its.toArray n }) (hf:f its.toArray=its'.toArray) (hv:QS ys its') (hz:ys.length<=sizeLine) :
 Qq X XaR σ (upd H l (.lst ys)) { s with heap:=s.heap.update l (Obj.mapSeq f),toks:=t' }:=by
 have q:=PySem.IsL.update e f;rw[hf]at q;refine I.write (x:=l) (e:=l) (by rw[hH];exact trivial) (.inl rfl) (fun b' u hb hu=>(XO s.heap (Obj.mapSeq f) (Ne.symm hb)).trans hu) ⟨_,q⟩ ?_
 exact⟨hz,its',_,hv,q⟩
def Qq.lnew {its:Qe}{t':Nat}(I:Qq X XaR σ H s)(hv:QS ys its)(hz:ys.length<=sizeLine) :
 Qq X XaR σ (upd H s.heap.objs.size (.lst ys)) { s with heap:=s.heap.push { cls:=.type "list",data:=.seq its.toArray },toks:=t' } :=
 I.laid (fun _ _ q=>Xi _ q) (Xq _) ⟨hz,its,0,hv,XD _ rfl⟩
def Qq.fresh (I:Qq X XaR σ H s):H s.heap.objs.size=none:=I.hok.fresh (Xq _)
def Qq.lstM (I:Qq X XaR σ H s) (hH:H l=some (.lst xs)):xs.length<=sizeLine/\∃(its:Qe) (n:Nat),QS xs its/\xs.length=its.length/\s.heap.get? l=some { cls:=.type "list",data:=.seq its.toArray n }:=by
 obtain⟨z,its,n,r,e⟩:=I.hok l _ hH
 exact⟨z,its,n,r,r.length,e⟩
end
section
variable {X:Cx}
def V2:V->List V->Hp->VK->Prop:=fun x vs H Q=>∃l xs y,x=.ref l/\vs=[y]/\H l=some (.lst xs)/\xs.length<sizeLine/\Q .non (upd H l (.lst (xs++[y])))
def Vv:MtM X "list.append" V2:=by
 intro XaR s σ H x vs v us Q I rx rv h;obtain⟨l,xs,y,rfl,rfl,hH,hz,q⟩:=h
 cases rx
 obtain⟨u,rfl,ru⟩:=rv.one;obtain⟨z,its,n,r,hl,e⟩:=I.lstM hH;refine call_meets F.slot_list_append ⟨_,e,rfl⟩ F.entry_list_append (F.args_list_append_2 _ _) (PySem.list_append l its.toArray n u (by rw[XB];omega)) ⟨e,?_⟩;refine⟨.non,_,I.lset (its':=its++[u]) hH e (by simp) (r.append (.cons ru .nil)) ?_,rfl,q⟩;rw[Xm,BX];omega
def Mi:R2:=fun x y H Q=>∃l b xs zs,x=.ref l/\y=.ref b/\H l=some (.lst xs)/\H b=some (.lst zs)/\xs.length+zs.length<=sizeLine/\∀p,H p=none->Q (.ref p) (upd H p (.lst (xs++zs)))
def Nj:OpR X (binaryOp .Add) Mi:=by
 intro XaR s σ H x y v u Q I rx ry h;obtain⟨l,b,xs,zs,rfl,rfl,hH,hB,hz,q⟩:=h
 cases rx
 cases ry
 obtain⟨z,its,n,r,hl,e⟩:=I.lstM hH;obtain⟨z2,its2,n2,r2,hl2,e2⟩:=I.lstM hB;refine PySem.P.add_list e e2 ?_ (by rw[XB,XB];omega);have ea:its.toArray++its2.toArray=(its++its2).toArray:=by simp
 rw[ea];exact⟨.ref _,_,I.lnew (t':=s.toks) (r.append r2) (by rw[Xm];omega),rfl,q _ I.fresh⟩
end
section
variable {prog:Program}{w:World}{A:Around}{E:Qb}{s:Shared}
end
section
variable {X:Cx}
end
end L2
namespace Att
open PySem PySem.W PySem.Calls PyProof.Rows
def Im {P:Params}{h:Heap}:∀(ns:Ql) (vs:Qe),WellAll P h vs (ns.map WData.int)->IntsAre vs ns:=by
 intro ns;induction ns with
 |nil =>
   intro vs w;rw[U8]at w;cases w;exact .nil
 |cons n ns ih =>
   intro vs w;rw[Xv]at w;cases w with
   |cons a b =>
     cases a
     exact .cons _ _ (ih _ b)
def A2 {l:OpenLaw}{n:Nat}(hn:l.most=some n){P:Params}{h:Heap}{args:List WData}{vals:Qe}
 (hpre:l.row.toRowW.claim.pre args=true) (hwl:WellAll P h vals args) :
 ∃a vs ns,vals=[Value.ref a]/\args=[WData.list (ns.map WData.int)]/\h.get? a=some { cls:=.type "list",data:=.seq vs.toArray }/\IntsAre vs ns/\ns.length<=n:=by
 have hsh:WShape.hasAll [] args [.list .int]=true:=(pre_splitW hpre).1;have hc:l.pre.holds [] { args:=args }=true:=(pre_splitW hpre).2;obtain⟨d,r,rfl,h1,h2⟩:=hasAllW_cons hsh;obtain rfl:=hasAllW_nil h2;obtain⟨xs,rfl,h3⟩:=hasW_list h1;obtain⟨ns,rfl⟩:=items_int h3
 have hlen:ns.length<=n:=by
  unfold OpenLaw.pre at hc;have h4:(WTm.not (.lt (.lit (.int (n:Int))) (.len (.arg 0)))).holds [] { args:=[.list (ns.map .int)] }=true:=by
   have h4:=(holds_andW hc).1;rw[hn]at h4;exact h4
  have h5:=condW_of h4 (w_not (w_lt w_lit (w_len_list (w_arg rfl))));rw[Xn]at h5;refine Nat.le_of_not_lt fun q=>?_;have q':(n:Int)<((ns.length:Nat):Int):=by omega
  first
   |(rw[XV q']at h5;exact Xk h5 (by decide))
   |(simp at h5;omega)
 cases hwl with
 |cons w1 w2 =>
   cases w2
   cases w1 with
   |list ho hall=>exact⟨_,_,ns,rfl,rfl,ho,Im ns _ hall,hlen⟩
def Eh (l:OpenLaw)(args:List WData):l.row.toRowW.claim.post args (.bool true) args=true :=
 postW_of (r:=l.row.toRowW) (X:=(true==true))
  (show WShape.has [] (.bool true) .bool=true by first|rfl|decide|simp[WShape.has,WShape.arms,WShape.armsAll])
  (show(WTm.eq .res (.lit (.bool true))).value [] { args:=args,res:=some (.bool true),after:=args }=some (.bool (true==true)) from w_eq_bool (w_res rfl) w_lit) rfl
section
variable {prog:Program}{w:World}{A:Around}{E:Qb}{s:Shared}{K:Frag}
end
end Att
namespace L2
open PySem PySem.Spec PyProof.Rows
theorem Sa:∀{vs:Qe} {ns:Ql},IntsAre vs ns->QS (ns.map V.int) vs
 |_,_,.nil=>.nil
 |_,_,.cons n t h=>.cons ⟨t,rfl⟩ (Sa h)
def Pi (H:Hp):Prop := ∀b,H b=none\/∃o xs,H b=some (.frz o (.lst xs))
abbrev KOf {K:W.Frag}{h:Heap}(_:K.In h):W.Frag:=K
def Vk (s:Stmt)(j:Nat):Stmt:=match s with
 |.ClassDef _ _ _ body _ _ _ _ _ _ _=>body.getD j (.Pass ⟨0,0,0,0⟩)
 |_=>.Pass ⟨0,0,0,0⟩
def Z9 (s:Stmt):Arguments:=match s with
 |.FunctionDef _ a _ _ _ _ _ _ _ _=>a
 |_=>{ posonlyargs:=[],args:=[],vararg:=none,kwonlyargs:=[],kw_defaults:=[],kwarg:=none,defaults:=[] }
def Zg (s:Stmt):List Stmt:=match s with
 |.FunctionDef _ _ b _ _ _ _ _ _ _=>b
 |_=>[]
def Qx (s:Stmt):Scope:=match s with
 |.FunctionDef _ _ _ _ _ _ sc _ _ _=>sc
 |_=>{ kind:=.function,names:=[],isGenerator:=false,isCoroutine:=false }
abbrev CX0:CXT:=fun _ _ _ _ _ _=>False
abbrev E0:XK:=fun _ _ _=>False
def Jc {X:Cx}:VU CX0 X E0:=fun _ _ _ _ _ _ _ h=>h.elim
structure Fun (K:W.Frag)(x qual:Str)(st:Stmt)(f:Addr)(fd:FuncData):Prop where
 ex:∃(oc:Value) (od:Qj) (kV doc pm:Value) (an:Qj) (cdv ct:Value) (osl:Array (Qf)),
  fd=W.fnOf x qual (Z9 st) (Zg st) (Qx st) .none kV doc pm an cdv ct/\K.lookup f=some ⟨oc,od,.func fd,osl⟩/\W.codeIn K cdv qual=true
 kp:W.keepIn K (.ref f)=true
section
variable {P:Program}{w:World}{K:W.Frag}{mg:Str->Qf}{base:Heap}
def Fun.ok {x qual:Str}{st:Stmt}{f:Addr}{fd:FuncData}{N ps:Qh}{k:Nat}{sp:Sp}(F:Fun K x qual st f fd)(S:Qp N ps (Qx st))(len:∀vs H Q E,sp vs H Q E->vs.length=ps.length)
 (XaS:∀(cdv:Value) (A:Around) (outer:List Env) (s:Shared) (H:Hp) (vs:List V) (Q:VK) (E:XK),Room k (A.deeper (envOfC qual (Qx st) s.heap.objs.size f cdv))->sp vs H Q E ->
  ∃t,PSs (Vb CX0 P w K mg base N qual (Qx st) f cdv A outer s H E).nox (Zg st) t/\t { nx:=fun _ H'=>Q .non H',rt:=Q } (start N vs) H):FnOk P w K mg base CX0 (k+1) f fd ps sp:=by
 obtain⟨oc,od,kV,doc,pm,an,cdv,ct,osl,rfl,lk,hcd⟩:=F.ex;refine Kj lk hcd S len fun A outer s H vs Q E hr hsp=>?_;obtain⟨t,h,q⟩:=XaS cdv A outer s H vs Q E hr hsp
 exact⟨t,h.nox,q⟩
def Fun.binds {x qual:Str}{st:Stmt}{f:Addr}{fd:FuncData}{ps:Qh}(F:Fun K x qual st f fd)
 (h:∀(kV doc pm:Value) (an:Qj) (cdv ct:Value) (us:Qe),us.length=ps.length->bindArgs (W.fnOf x qual (Z9 st) (Zg st) (Qx st) .none kV doc pm an cdv ct) ⟨us,[]⟩=pure (ps.zip us)):Vd K fd ps []:=by
 obtain⟨oc,od,kV,doc,pm,an,cdv,ct,osl,rfl,lk,hcd⟩:=F.ex;exact .all (h kV doc pm an cdv ct)
def ZW {x qual:Str}{st:Stmt}{f:Addr}{oc:Value}{od an:Qj}{osl:Array (Qf)}{kV doc pm cdv ct:Value}(l:K.lookup f=some ⟨oc,od,.func (W.fnOf x qual (Z9 st) (Zg st) (Qx st) .none kV doc pm an cdv ct),osl⟩)
 (c:W.codeIn K cdv qual=true) (k:W.keepIn K (.ref f)=true):Fun K x qual st f (W.fnOf x qual (Z9 st) (Zg st) (Qx st) .none kV doc pm an cdv ct):=⟨⟨oc,od,kV,doc,pm,an,cdv,ct,osl,rfl,l,c⟩,k⟩
end
def Ye {A:Around}{k:Nat}(hr:Room k A):A.units+1<cLine:=Gz (Nat.add_le_add_left (by decide:1<=64) _) hr.units
def ZH {n:Nat}(h:n<=1000):n<sizeLine:=Gz h (by decide)
section
variable {X:Cx}
def pv (i:Nat) {x:Str} {pos:Pos} (hN:X.N[i]?=some x:=by rfl) (hv:Vis X.env.scope x:=by first|exact Or.inl rfl|exact Or.inr Qa|exact Or.inr (Or.inr rfl)) (hd:(x==("__debug__" : Str))=false:=by decide)
 (hcd:(x==("__classdict__" : Str))=false:=by decide):PE X (.Name x pos) (Q8 i):=Nv hN hv hd hcd
end
def Q4 (H H':Hp):Prop := ∀b o,H b=some o->H' b=some o
def Q4.refl (H:Hp):Q4 H H:=fun _ _ h=>h
def Q4.trans {H H1 H2:Hp}(a:Q4 H H1)(b:Q4 H1 H2):Q4 H H2:=fun c o h=>b c o (a c o h)
def Q4.free {H H':Hp}(e:Q4 H H'){l:Addr}(h:H' l=Option.none):H l=Option.none:=by
 cases q:H l with
 |none=>rfl
 |some o =>
   rw[e l o q]at h;cases h
def Q4.seq {K:W.Frag}{H H':Hp}{a:Addr}{xs:List V}(e:Q4 H H')(h:SqL K H a xs):SqL K H' a xs:=by
 rcases h with (h|⟨o,h⟩)|h
 ·exact .inl (.inl (e _ _ h))
 ·exact .inl (.inr ⟨o,e _ _ h⟩)
 ·exact .inr h
end L2
section
namespace L2
open PySem PySem.Spec PyProof.Rows
theorem Ht {env:Env}{F:Str×NameKind->List (Str×Addr)->Sem (ForInStep (List (Str×Addr)))}
 (h1:∀n c cs,env.cells.lookup n=some c->F (n,NameKind.free) cs=pure (.yield ((n,c)::cs)))
 (h2:∀n k cs,k≠NameKind.free->F (n,k) cs=pure (.yield cs)) :
 ∀(l:List (Str×NameKind)) (cs:List (Str×Addr)),(∀p∈l,p.2=NameKind.free->∃c,env.cells.lookup p.1=some c)->(∀x c,cs.lookup x=some c->env.cells.lookup x=some c) ->
  ∃cl,forIn l cs F=pure cl/\(∀x c,cl.lookup x=some c->env.cells.lookup x=some c)/\(∀x c,cs.lookup x=some c->∃c',cl.lookup x=some c')/\∀p∈l,p.2=NameKind.free->∃c,cl.lookup p.1=some c
 |[],cs,_,hc=>⟨cs,by rw[List.forIn_nil],hc,fun x c h=>⟨c,h⟩,fun p hp=>Xk hp (by simp)⟩
 |(n,k)::l,cs,hl,hc=>by
   have hl':∀p∈l,p.2=NameKind.free->∃c,env.cells.lookup p.1=some c:=fun p hp=>hl p (Xd _ hp)
   by_cases hk:k=NameKind.free
   ·subst hk
    obtain⟨c,e⟩:=hl (n,NameKind.free) Xa rfl
    have hc':∀x d,((n,c)::cs).lookup x=some d->env.cells.lookup x=some d:=fun x d q=>by
     cases hx:x==n with
     |true =>
       simp only[XL,hx]at q;cases q;rw[eq_of_beq hx];exact e
     |false =>
       simp only[XL,hx]at q;exact hc x d q
    obtain⟨cl,a1,a2,a3,a4⟩:=Ht h1 h2 l ((n,c)::cs) hl' hc'
    have up:∀x d,cs.lookup x=some d->∃d',((n,c)::cs).lookup x=some d':=fun x d q=>by
     cases hx:x==n with
     |true=>exact⟨c,by simp only[XL,hx]⟩
     |false=>exact⟨d,by simp only[XL,hx];exact q⟩
    refine⟨cl,by rw[List.forIn_cons,h1 n c cs e,pure_bind];exact a1,a2,fun x d q=>?_,fun p hp hf=>?_⟩
    ·obtain⟨d',q'⟩:=up x d q
     exact a3 x d' q'
    ·rcases Xf.mp hp with rfl|hp
     ·exact a3 n c (by simp only[XL,beq_self_eq_true])
     ·exact a4 p hp hf
   ·obtain⟨cl,a1,a2,a3,a4⟩:=Ht h1 h2 l cs hl' hc
    refine⟨cl,by rw[List.forIn_cons,h2 n k cs hk,pure_bind];exact a1,a2,a3,fun p hp hf=>?_⟩
    rcases Xf.mp hp with rfl|hp
    ·exact Xk hf hk
    ·exact a4 p hp hf
def Hw {scope:Scope}{env:Env}(h:∀p∈scope.names,p.2=NameKind.free->∃c,env.cells.lookup p.1=some c) :
 ∃cl,closureFor scope env=pure cl/\(∀x c,cl.lookup x=some c->env.cells.lookup x=some c)/\∀p∈scope.names,p.2=NameKind.free->∃c,cl.lookup p.1=some c:=by
 simp only[closureFor];obtain⟨cl,a1,a2,_,a4⟩:=Ht (env:=env) (F:=fun x r=>match x with|(name,kind)=>if (kind==NameKind.free)=true then do let a <- cellOf env name;pure (ForInStep.yield ((name,a)::r)) else pure (ForInStep.yield r))
  (fun n c cs e=>by
   show(if (NameKind.free==NameKind.free)=true then _ else _)=_
   rw[Xe (show(NameKind.free==NameKind.free)=true from rfl)];unfold cellOf;rw[e];rfl)
  (fun n k cs hk=>by
   have:(k==NameKind.free)=false:=by simpa using hk
   show(if (k==NameKind.free)=true then _ else _)=_
   rw[this,Xc Xw]) scope.names [] h (fun x c q=>by simp at q)
 refine⟨cl,?_,a2,a4⟩
 first
  |exact a1
  |(rw[bind_pure];exact a1)
  |(simp only[bind_pure]at *;exact a1)
  |(rw[show(forIn scope.names ([]:List (Str×Addr)) _ >>= fun r=>pure r)=_ from bind_pure _];exact a1)
theorem HN {env:Env}:∀{names:List (Str×NameKind)} {x:Str},names.lookup x=some .free ->
 (names.map fun(n,k)=>if (k==NameKind.free&&env.scope.kind==.function&&env.kindOf n==some .cell) then (n,NameKind.cell) else (n,k)).lookup x=some .cell \/
 (names.map fun(n,k)=>if (k==NameKind.free&&env.scope.kind==.function&&env.kindOf n==some .cell) then (n,NameKind.cell) else (n,k)).lookup x=some .free
 |[],_,h=>by simp at h
 |(n,k)::r,x,h=>by
   have ih:=@HN env r x;show List.lookup x ((if (k==NameKind.free&&env.scope.kind==.function&&env.kindOf n==some .cell)=true then (n,NameKind.cell) else (n,k))::_)=_\/List.lookup x ((if (k==NameKind.free&&env.scope.kind==.function&&env.kindOf n==some .cell)=true then (n,NameKind.cell) else (n,k))::_)=_
   cases hx:x==n with
   |true =>
     simp only[XL,hx]at h;cases h
     by_cases hc:(NameKind.free==NameKind.free&&env.scope.kind==.function&&env.kindOf n==some .cell)=true
     ·rw[Xe hc];left;simp only[XL,hx]
     ·rw[Xc hc];right;simp only[XL,hx]
   |false =>
     simp only[XL,hx]at h;by_cases hc:(k==NameKind.free&&env.scope.kind==.function&&env.kindOf n==some .cell)=true
     ·rw[Xe hc];simp only[XL,hx];exact ih h
     ·rw[Xc hc];simp only[XL,hx];exact ih h
theorem HM {env:Env}:∀{names:List (Str×NameKind)} {x:Str},((names.map fun(n,k)=>if (k==NameKind.free&&env.scope.kind==.function&&env.kindOf n==some .cell) then (n,NameKind.cell) else (n,k)).lookup x=some .cell \/
 (names.map fun(n,k)=>if (k==NameKind.free&&env.scope.kind==.function&&env.kindOf n==some .cell) then (n,NameKind.cell) else (n,k)).lookup x=some .free)->names.lookup x=some .free\/names.lookup x=some .cell
 |[],_,h=>by simp at h
 |(n,k)::r,x,h=>by
   have ih:=@HM env r x;have h:List.lookup x ((if (k==NameKind.free&&env.scope.kind==.function&&env.kindOf n==some .cell)=true then (n,NameKind.cell) else (n,k))::_)=_\/List.lookup x ((if (k==NameKind.free&&env.scope.kind==.function&&env.kindOf n==some .cell)=true then (n,NameKind.cell) else (n,k))::_)=_:=h
   cases hx:x==n with
   |true =>
     simp only[XL,hx];by_cases hc:(k==NameKind.free&&env.scope.kind==.function&&env.kindOf n==some .cell)=true
     ·have:k=NameKind.free:=by
       rw[U1,U1]at hc;exact eq_of_beq hc.1.1
      left;rw[this]
     ·rw[Xc hc]at h
      simp only[XL,hx]at h;exact h.symm
   |false =>
     simp only[XL,hx];by_cases hc:(k==NameKind.free&&env.scope.kind==.function&&env.kindOf n==some .cell)=true
     ·rw[Xe hc]at h;simp only[XL,hx]at h;exact ih h
     ·rw[Xc hc]at h;simp only[XL,hx]at h;exact ih h
structure CIn where
 cl:List (Str×Addr)
 C:Addr
 s₀:Shared
 H₀:Hp
 ex:Qg
 pn:Qc
def Zu (X:Cx)(N:Qh)(scope:Scope)(c:CIn):Cx where
 prog:=X.prog
 w:=X.w
 K:=X.K
 mg:=X.mg
 base:=X.base
 A:=X.A
 N:=N
 s₀:=c.s₀
 H₀:=c.H₀
 env:=compEnvC scope c.cl c.C X.env
 outer:=X.stack
 stack:=X.stack
 ex:=c.ex
 fn:=fun _=>false
 calm:=X.calm
 pn:=c.pn
 xe:=fun _ _=>False
def ZI (f:List (Option Nat))(σ:St):St:=f.map fun o=>match o with|some i=>(σ[i]?).join|none=>none
structure CompOk (NX:Qh)(sc:Scope)(N:Qh)(f:List (Option Nat))(scope:Scope):Prop where
 kind:scope.kind=.function
 nocell:∀y∈scope.names,y.2≠NameKind.cell
 names:∀y∈scope.names,y.2=NameKind.local->scope.names.lookup y.1=some .local
 free:∀y∈scope.names,y.2=NameKind.free->sc.names.lookup y.1=some .cell\/sc.names.lookup y.1=some .free
 len:f.length=N.length
 ix:∀(j i:Nat),f[j]?=some (some i)->∃x,N[j]?=some x/\NX[i]?=some x/\scope.names.lookup x=some .free
def Ge (NX:Qh)(sc:Scope)(N:Qh)(f:List (Option Nat))(scope:Scope):Bool :=
 decide (scope.kind=.function)&&(scope.names.all fun y=>decide (y.2≠NameKind.cell)&&(decide (y.2≠NameKind.local)||decide (scope.names.lookup y.1=some .local)) &&
  (decide (y.2≠NameKind.free)||decide (sc.names.lookup y.1=some .cell)||decide (sc.names.lookup y.1=some .free)))&&decide (f.length=N.length) &&
 (List.range f.length).all fun j=>match f[j]? with
  | some (some i)=>(match N[j]? with
    |some x=>decide (NX[i]?=some x)&&decide (scope.names.lookup x=some .free)
    |none=>false)
  |_=>true
def DZ {NX:Qh}{sc:Scope}{N:Qh}{f:List (Option Nat)}{scope:Scope}(h:Ge NX sc N f scope=true):CompOk NX sc N f scope:=by
 unfold Ge at h;simp only[U1,List.all_eq_true,decide_eq_true_eq,Bool.or_eq_true]at h;obtain⟨⟨⟨h1,h2⟩,h3⟩,h4⟩:=h;refine⟨h1,fun y hy=>(h2 y hy).1.1,fun y hy e=>?_,fun y hy e=>?_,h3,fun j i e=>?_⟩
 ·rcases(h2 y hy).1.2 with z|z
  ·exact Xk e z
  ·exact z
 ·rcases(h2 y hy).2 with (z|z)|z
  ·exact Xk e z
  ·exact .inl z
  ·exact .inr z
 ·have hj:j<f.length:=(Xh.mp e).1
  have q:=h4 j (XT.mpr hj);rw[e]at q;cases hN:N[j]? with
  |none=>rw[hN]at q;simp at q
  |some x =>
    rw[hN]at q;simp only[U1,decide_eq_true_eq]at q;exact⟨x,rfl,q.1,q.2⟩
def HX (f:List (Option Nat))(σ σ':St):Prop:=σ'.length=σ.length/\∀(i j:Nat),f[i]?=some (some j)->σ'[i]?=σ[i]?
structure TgOk (f:List (Option Nat))(g:TG):Prop where
 keep:∀x σ H Q,g x σ H Q->g x σ H fun σ2 H2=>HX f σ σ2/\Q σ2 H2
 mono:∀x σ H Q Q',(∀σ H,Q σ H->Q' σ H)->g x σ H Q->g x σ H Q'
structure TgsOk (f:List (Option Nat))(g:TGs):Prop where
 keep:∀xs σ H Q,g xs σ H Q->g xs σ H fun σ2 H2=>HX f σ σ2/\Q σ2 H2
 mono:∀xs σ H Q Q',(∀σ H,Q σ H->Q' σ H)->g xs σ H Q->g xs σ H Q'
theorem VI {f:List (Option Nat)}{j:Nat}(h:f[j]?=some none:=by rfl):TgOk f (ZG j) where
 keep:=fun x σ H Q q=>⟨⟨List.length_set ..,fun i k e=>Xr (by rintro rfl;rw[h]at e;cases e)⟩,q⟩
 mono:=fun x σ H Q Q' m q=>m _ _ q
theorem NA {f:List (Option Nat)}:TgsOk f Mh where
 keep:=fun xs σ H Q ⟨e,q⟩=>⟨e,⟨rfl,fun _ _ _=>rfl⟩,q⟩
 mono:=fun xs σ H Q Q' m ⟨e,q⟩=>⟨e,m _ _ q⟩
theorem B0 {f:List (Option Nat)}{t:TG}{u:TGs}(h1:TgOk f t)(h2:TgsOk f u):TgsOk f (Mu t u) where
 keep:=fun xs σ H Q ⟨v,r,e,q⟩=>⟨v,r,e,h1.mono _ _ _ _ _ (fun σ1 H1 z=>h2.mono _ _ _ _ _ (fun σ2 H2 y=>⟨⟨y.1.1.trans z.1.1,fun i j ef=>(y.1.2 i j ef).trans (z.1.2 i j ef)⟩,y.2⟩) (h2.keep _ _ _ _ z.2)) (h1.keep _ _ _ _ q)⟩
 mono:=fun xs σ H Q Q' m ⟨v,r,e,q⟩=>⟨v,r,e,h1.mono _ _ _ _ _ (fun σ1 H1 z=>h2.mono _ _ _ _ _ m z) q⟩
theorem Nq {f:List (Option Nat)}{K:W.Frag}{n:Nat}{t:TGs}(h:TgsOk f t):TgOk f (Mr K n t) where
 keep:=fun x σ H Q ⟨a,xs,e,q,l,z⟩=>⟨a,xs,e,q,l,h.keep _ _ _ _ z⟩
 mono:=fun x σ H Q Q' m ⟨a,xs,e,q,l,z⟩=>⟨a,xs,e,q,l,h.mono _ _ _ _ _ m z⟩
def PCs (X:Cx)(ifs:Qi)(tc:TT):Prop :=
 ∀(XaR:Qc) (s:Shared) (σ:St) (H:Hp) (Q:Bool->Hp->Prop),Qq X XaR σ H s->tc σ H Q ->
  wpAny (model X.prog X.w) X.A (forIn ifs true fun c r=>if r=true then do let ok <- isTrue c X.env (eval c X.env);pure (ForInStep.yield ok) else pure (ForInStep.yield r)) (TP X XaR σ Q) X.xe s
def Wc:TT:=fun _ H Q=>Q true H
def Wp {X:Cx}:PCs X [] Wc:=fun _ _ _ H _ I h=>wpAny_tests_nil ⟨H,I,h⟩
def Gd {X:Cx}{c:Expr}{tc:TT}(h:PT X c tc):PCs X [c] tc:=fun XaR s σ H Q I q=>wpAny_tests_one (h XaR s σ H Q I q)
def SN {prog:Program}{w:World}{A:Around}{R:Result->Shared->Prop}{s:Shared}{elt target iter:Expr}{ifs:Qi}{scope:Scope}{pos:Pos}{it acc:Value}{env:Env}(I:Nat->Shared->Prop)
 (turn:∀n s,I n s->wpAny (model prog w) A (pyNext it) (fun r b7=>match r with
  |none=>R (.ok .next) b7
  | some v=>wpAny (model prog w) A (letOwnedTupleGo target it v) (fun _ s₁'=>wpAny (model prog w) A (assign target env v) (fun _ b6 =>
   wpAny (model prog w) A (forIn ifs true fun c r=>if r=true then do let ok <- isTrue c env (eval c env);pure (ForInStep.yield ok) else pure (ForInStep.yield r)) (fun ok b8 =>
    if ok=true then wpAny (model prog w) A (eval elt env) (fun x bw =>
     wpAny (model prog w) A (call (.builtin "list.append") [acc,x]) (fun _ c8 => ∃m,m<n/\I m c8) (fun _ _=>False) bw) (fun _ _=>False) b8
    else ∃m,m<n/\I m b8) (fun _ _=>False) b6) (fun _ _=>False) s₁') (fun _ _=>False) b7) (fun _ _=>False) s)
 (n:Nat) (h:I n s) :
 codeAny (model prog w) A (.compLoop (.ListComp elt [⟨target,iter,ifs,0⟩] scope pos) 0 it acc env) R s:=by
 refine codeAny_loop rfl I (fun n s hI=>?_) n h;show wpAny _ A ((compTurn (.ListComp elt [⟨target,iter,ifs,0⟩] scope pos) 0 it acc env).onRaise (fun x=>do noteFrame x env;theTreesLotGoes x)) _ _ s;refine wpAny_noted ?_;rw[compTurn_list];refine Xb (wpAny_standAt (Xb (wpAny_mono (turn n s hI) (fun r b7 b9=>?_) fun _ _ h'=>h'.elim)))
 cases r with
 |none=>exact Xp b9
 |some v =>
   refine Xb (wpAny_mono b9 (fun _ s₁' h₁'=>?_) fun _ _ h'=>h'.elim);refine Xb (wpAny_mono h₁' (fun _ b6 bj=>Xb (wpAny_mono bj (fun ok b8 bz=>?_) fun _ _ h'=>h'.elim)) fun _ _ h'=>h'.elim)
   cases ok with
   |false=>exact Xp ⟨rfl,bz⟩
   |true =>
     exact Xb (Xb (wpAny_mono bz (fun x bw d5=>Xb (wpAny_mono d5 (fun _ c8 d6=>Xp (Xp ⟨rfl,d6⟩)) fun _ _ h'=>h'.elim)) fun _ _ h'=>h'.elim))
theorem Qq.track {X:Cx}{XaR:Qc}{σ:St}{H:Hp}{s:Shared}{a:Addr}{o:HO}(I:Qq X XaR σ H s)(hn:H a=none)(h0:X.s₀.heap.objs.size<=a)(hL:a≠X.env.locals)(hC:∀x c,X.env.cells.lookup x=some c->c≠a)
 (hp:∀p∈X.pn++XaR,p.1≠a) (new:Z0 X.prog X.w (upd H a o) s.heap a o):Qq X XaR σ (upd H a o) s where
 ok:=I.ok
 os:=I.os
 bare:=I.bare
 base :=
  { keep:=I.base.keep
    slot:=I.base.slot
    free:=fun b ob q n hx=>by rw[Qr (Xo (Xs (Xj q) h0))];exact I.base.free b ob q n hx
    there:=I.base.there
    tups:=fun b xs q=>by have z:=I.base.tups b xs q;rw[Qr (Zp z hn)];exact z
    tupo:=I.base.tupo
    frzs:=fun b u xs q=>by have z:=I.base.frzs b u xs q;rw[Qr (Zp z hn)];exact z
    tbls:=fun b ps q=>by obtain⟨more,z⟩:=I.base.tbls b ps q;exact⟨more,by rw[Qr (Zp z hn)];exact z⟩ }
 loc:=I.loc
 cell:=I.cell
 free:=by rw[Qr hL.symm];exact I.free
 freeC:=fun x c e=>by rw[Qr (hC x c e)];exact I.freeC x c e
 pin:=fun p hp'=>by obtain⟨e,n,r⟩:=I.pin p hp';exact⟨e,by rw[Qr (hp p hp')];exact n,r⟩
 hok:=fun b u e=>by
  by_cases hb:b=a
  ·subst hb;rw[QA]at e;cases e;exact new
  ·rw[Qr hb]at e
   exact(I.hok b u e).stay (fun _ _ _ q=>q) (fun c q=>by rw[Qr (Zp q hn)];exact q) fun c xs q=>by rw[Qr (Zp q hn)];exact q
 len:=I.len
def LCw (f:List (Option Nat))(g:TG)(tc:TT)(te:TE)(σ:St)(J:It)(Q:VK)(H1:Hp):Prop :=
 ∃W:Nat->Nat->List V->Hp->Prop,(∃m,W 0 m [] H1)/\∀i m ys H,W i m ys H ->
  (J.stop i H/\∀p,H p=none->Q (.ref p) (upd H p (.lst ys))) \/
  (J.go i H/\∀x H',J.yld i H x H'->g x (ZI f σ) H' fun σ2 H2=>tc σ2 H2 fun b H3 =>
   if b=true then te σ2 H3 fun y H4=>ys.length<sizeLine/\∃m',m'<m/\W (i+1) m' (ys++[y]) H4
   else ∃m',m'<m/\W (i+1) m' ys H3)
def tLC (f:List (Option Nat))(wi:TI)(g:CIn->TG)(tc:CIn->TT)(te:CIn->TE):TE:=fun σ H Q=>wi σ H fun J H1=>∀c:CIn,LCw f (g c) (tc c) (te c) σ J Q H1
abbrev ZO (its:Qe) (k:Nat):Obj:={ cls:=.type "list",data:=.seq its.toArray k }
section
variable {X:Cx}{XaR:Qc}{σ:St}{H2:Hp}{b6:Shared}
def KL {tg iter elt:Expr}{ifs:Qi}{scope:Scope}{pos:Pos}{N:Qh}{f:List (Option Nat)}{g:CIn->TG}{tc:CIn->TT}{te:CIn->TE}{cl:List (Str×Addr)}
 (hc:X.calm=true) (ck:CompOk X.N X.env.scope N f scope)
 (hg:∀c,PG (Zu X N scope c) tg (g c)) (ht:∀c,TgOk f (g c)) (hcs:∀c,PCs (Zu X N scope c) ifs (tc c)) (he:∀c,PE (Zu X N scope c) elt (te c))
 (I2:Qq X XaR σ H2 b6) {it:Addr} {fp:Qg} {tn:Nat->Heap->Prop} {J:It} (T:Turn X.prog X.w X.K tg J fp it tn) (st:tn 0 b6.heap) (f2:∀b∈fp,VJ X XaR H2 b)
 {Q:VK} (hq:∀c:CIn,LCw f (g c) (tc c) (te c) σ J Q H2)
 (hcl1:∀x c,cl.lookup x=some c->X.env.cells.lookup x=some c) (hcl2:∀p∈scope.names,p.2=NameKind.free->∃c,cl.lookup p.1=some c)
 {RR:Value->Addr->Result->Shared->Prop} {E:Qb}
 (hRR:∀(acc C:Addr) (H':Hp) (s':Shared) (m':Str->Qf),s'.heap.Ns C m'->Qq X XaR σ H' s'->H' C=none->C≠X.env.locals->X.s₀.heap.objs.size<=C->(∀x c,X.env.cells.lookup x=some c->c≠C) ->
  (∀p∈X.pn++XaR,p.1≠C)->Q (.ref acc) H'->RR (.ref acc) C (.ok .next) s') :
 wpAny (model X.prog X.w) X.A (newList []) (fun acc b8=>wpAny (model X.prog X.w) X.A (newFunctionEnv scope X.env.globals cl [] X.env.qual none .none (some X.env)) (fun cenv bw =>
  codeAny (model X.prog X.w) X.A (.compStart (.ListComp elt [⟨tg,iter,ifs,0⟩] scope pos) 0 (.ref it) acc { cenv with scope:=relabel scope X.env }) (RR acc cenv.locals) bw) E b8) E b6:=by
 refine wpAny_newObj_type (wpAny_newFunctionEnv ck.nocell (by intro y hy;simp at hy) (fun b9 bq bv=>?_) ck.kind);dsimp only at bq bv ⊢;have I3:Qq X XaR σ H2 { b6 with heap:=b6.heap.push (ZO [] 0) }:=I2.kept (t':=b6.toks) fun b u e=>Xi _ e;have hD:(b6.heap.push (ZO [] 0)).get? b6.heap.objs.size=some (ZO [] 0):=XD _ rfl;generalize hs3:({ b6 with heap:=b6.heap.push (ZO [] 0) }:Shared)=b8 at I3 bq bv ⊢;have hp3:b6.heap.push (ZO [] 0)=b8.heap:=by rw[<- hs3]
 have hp3':b6.heap.push { cls:=.type "list",dict:=none,data:=.seq ([]:Qe).toArray }=b8.heap:=hp3;rw[hp3]at hD;simp only[hp3']at bq bv ⊢;have sz3:b6.heap.objs.size<b8.heap.objs.size:=by rw[<- hp3,YZ];exact Wa _
 have k3:∀b u,b6.heap.get? b=some u->b8.heap.get? b=some u:=fun b u e=>by rw[<- hp3];exact Xi _ e
 have k1:∀b u,b8.heap.get? b=some u->b9.get? b=some u:=fun b u e =>
  bv.extBut b u (Xo (Xj e)) (Xi _ e)
 have fpo:∀b∈fp,b<b6.heap.objs.size:=fun b hb=>by
  obtain⟨o,e,_⟩:=T.obj 0 _ st b hb;exact Xj e
 have st1:tn 0 b9:=T.keep _ _ _ st fun b hb o e=>k1 b o (k3 b o e);have fneC:∀b∈fp,b≠b8.heap.objs.size:=fun b hb=>Xo (Nat.lt_trans (fpo b hb) sz3);have fneD:∀b∈fp,b≠b6.heap.objs.size:=fun b hb=>Xo (fpo b hb)
 have cneD:∀x d,X.env.cells.lookup x=some d->d≠b6.heap.objs.size:=fun x d e=>by
  obtain⟨v,z⟩:=I2.cell x d e;exact Xo z.lt
 have pneD:∀p∈X.pn++XaR,p.1≠b6.heap.objs.size:=fun p hp=>Xo (Xj (I2.pin p hp).1);have freeD:H2 b6.heap.objs.size=none:=I2.fresh
 have stk:∀b,b≠X.env.locals->b∉X.fs->b∉frs X.stack:=fun b h1 h2 hb=>by
  rcases Xf.mp (I3.stkSub b hb) with z|z
  ·exact h1 z
  ·exact h2 z
 have exD:∀b,b∈b6.heap.objs.size::fp->b=b6.heap.objs.size\/b∈fp:=fun b hb=>Xf.mp hb
 let c:CIn:=⟨cl,b8.heap.objs.size,b8,H2,b6.heap.objs.size::fp,X.pn++XaR⟩
 have okX:(Zu X N scope c).Ok :=
  { mod:=I3.ok.mod
    kind:=ck.kind
    glob:=I3.ok.glob
    blt:=I3.ok.blt
    above:=Xq _
    inj:=fun x y d h1 h2=>I3.ok.inj x y d (hcl1 x d h1) (hcl1 y d h2)
    has:=fun x hx=>by
     rcases HM hx with z|z
     ·exact hcl2 (x,.free) (PySem.mem_of_lookup z) rfl
     ·exact Xk rfl (ck.nocell (x,.cell) (PySem.mem_of_lookup z))
    cab:=fun x d h=>Xk (show false=true from h) Xw
    hd:=I3.ok.hd
    frames:=I3.ok.frames
    stk:=.inl rfl
    exf:=fun b hb=>by
     rcases exD b hb with rfl|hb
     ·exact⟨Xo sz3,fun x d e=>cneD x d (hcl1 x d e)⟩
     ·exact⟨fneC b hb,fun x d e=>(f2 b hb).2.2.2.2.1 x d (hcl1 x d e)⟩
    bs:=fun b o e=>I3.bs b o e
    bsz:=XZ I3.ok.bsz I3.sz
    noex:=fun b o e hb=>by
     rcases exD b hb with rfl|hb
     ·exact Xk (Xj (I2.bk _ _ e)) (XW _)
     ·rcases(f2 b hb).2.2.2.1 with z|z
      ·exact I3.ok.noex b o e z
      ·exact Xk (Xs (Xj (I3.ok.bs b o e).1) z) (XW _)
    exfs:=fun b hb=>by
     rcases exD b hb with rfl|hb
     ·exact stk _ (XU I2.lt) (I2.nofs (Xq _))
     ·exact stk b (f2 b hb).2.1 (f2 b hb).2.2.1
    funs:=I3.stack
    frf:=I3.stkFree }
 have I4:Qq (Zu X N scope c) [(b6.heap.objs.size,ZO [] 0)] (ZI f σ) H2 { b8 with heap:=b9,toks:=b8.toks+([]:List (Str×Value)).length } :=
  { ok:=okX
    os:=rfl
    bare:=I3.bare
    base:=Un.kept k1
    loc:=⟨_,bq,fun i x v e1 e2 e3=>by
     have hfi:∃j,f[i]?=some (some j)/\σ[j]?=some (some v):=by
      unfold ZI at e2;rw[Xt]at e2;cases ef:f[i]? with
      |none=>rw[ef]at e2;cases e2
      |some o =>
        rw[ef]at e2;cases o with
        |none=>cases e2
        |some j =>
          refine⟨j,rfl,?_⟩;have e2':(σ[j]?).join=some v:=Option.some.inj e2
          cases es:σ[j]? with
          |none=>rw[es]at e2';cases e2'
          |some o2 =>
            rw[es]at e2';have:o2=some v:=e2';rw[this]
     obtain⟨j,ef,es⟩:=hfi;obtain⟨x',n1,n2,n3⟩:=ck.ix i j ef
     have:x'=x:=Option.some.inj (n1.symm.trans e1)
     subst this;have hfr:=ck.free (x',.free) (PySem.mem_of_lookup n3) rfl;obtain⟨m0,hm0,hl0⟩:=I3.loc;obtain⟨u,ru,lk⟩:=hl0 j x' v n2 es (hfr.elim (fun z=>.inr (.inl z)) fun z=>.inr (.inr z));refine⟨u,ru,.inr ⟨HN n3,?_⟩⟩
     rcases lk with ⟨kl,_⟩|⟨_,d,ed,hd⟩
     ·have kl':X.env.scope.names.lookup x'=some .local:=kl
      rcases hfr with z|z
      ·rw[kl']at z;cases z
      ·rw[kl']at z;cases z
     ·obtain⟨d',ed'⟩:=hcl2 (x',.free) (PySem.mem_of_lookup n3) rfl
      have:d'=d:=Option.some.inj ((hcl1 x' d' ed').symm.trans ed)
      subst this;exact⟨d',ed',hd.keeps k1⟩⟩
    cell:=fun x d e=>by
     obtain⟨v,z⟩:=I3.cell x d (hcl1 x d e)
     exact⟨v,z.keeps k1⟩
    free:=I3.fresh
    freeC:=fun x d e=>I3.freeC x d (hcl1 x d e)
    pin:=fun p hp=>by
     rcases Xx.mp (show p∈(X.pn++XaR)++[(b6.heap.objs.size,ZO [] 0)] from hp) with hp'|hp'
     ·obtain⟨e,n,ne,nf,d⟩:=I3.pin p hp'
      exact⟨k1 _ _ e,n,Xo (Xj e),stk p.1 ne nf,d⟩
     ·have z:p=(b6.heap.objs.size,ZO [] 0):=Xg.mp hp'
      subst z;exact⟨k1 _ _ hD,freeD,Xo sz3,stk _ (XU I2.lt) (I2.nofs (Xq _)),fun v z=>nomatch (show Data.seq _ _=Data.cell v from z)⟩
    hok:=I3.hok.kept k1
    len:=by
     show(ZI f σ).length=N.length
     unfold ZI;rw[Xn];exact ck.len }
 have back:∀{σ':St} {H':Hp} {s':Shared} {ps:Qc},Qq (Zu X N scope c) ps σ' H' s'->Qq X XaR σ H' s':=fun{σ' H' s' ps} J' =>
  I3.call' (ch:=b6.heap.objs.size::fp) J'.os J'.base J'.hok J'.bare fun b hb=>by
   rcases exD b hb with rfl|hb
   ·exact⟨.inr I2.sz,XU I2.lt,cneD,pneD⟩
   ·exact⟨(f2 b hb).2.2.2.1,(f2 b hb).2.1,(f2 b hb).2.2.2.2.1,(f2 b hb).2.2.2.2.2⟩
 have fpX:∀{H':Hp} {ob:Obj},(∀b∈fp,H' b=none)->∀b∈fp,VJ (Zu X N scope c) [(b6.heap.objs.size,ob)] H' b:=fun{H' ob} hn b hb =>
  ⟨hn b hb,(okX.exf b (Xd _ hb)).1,okX.exfs b (Xd _ hb),.inl (Xd _ hb),(okX.exf b (Xd _ hb)).2,fun p hp=>by
   rcases Xx.mp (show p∈(X.pn++XaR)++[(b6.heap.objs.size,ob)] from hp) with z|z
   ·exact(f2 b hb).2.2.2.2.2 p z
   ·have z:p=(b6.heap.objs.size,ob):=Xg.mp z
    subst z;exact(fneD b hb).symm⟩
 obtain⟨W,⟨m0,w0⟩,turn⟩:=hq c
 have loop:∀s,s=({ b8 with heap:=b9,toks:=b8.toks+([]:List (Str×Value)).length }:Shared) ->
  codeAny (model X.prog X.w) X.A (.compLoop (.ListComp elt [⟨tg,iter,ifs,0⟩] scope pos) 0 (.ref it) (.ref b6.heap.objs.size) (compEnvC scope cl b8.heap.objs.size X.env)) (RR (.ref b6.heap.objs.size) b8.heap.objs.size) s:=by
  rintro s rfl
  refine SN (fun n s'=>∃i H' ys its k,Qq (Zu X N scope c) [(b6.heap.objs.size,ZO its k)] (ZI f σ) H' s'/\QS ys its/\ys.length<=sizeLine/\tn i s'.heap/\(∀b∈fp,H' b=none)/\W i n ys H') ?_ m0 ⟨0,_,[],[],0,I4,.nil,XF _,st1,fun b hb=>(f2 b hb).1,w0⟩
  rintro n s5 ⟨i,H5,ys,its,k,I5,rv5,hz5,st5,fr5,w5⟩
  rcases turn i n ys H5 w5 with ⟨stop,qn⟩|⟨go,step⟩
  ·refine Q2 (T.done (Zu X N scope c) rfl rfl rfl hc i _ s5 (ZI f σ) H5 _ I5 (fpX fr5) st5 stop) fun r s6 ⟨hr,I6⟩=>?_
   subst hr;obtain⟨m6,hn6,_⟩:=id I6.loc;obtain⟨eD,nD,_⟩:=I6.pin (b6.heap.objs.size,ZO its k) (XG _ (Xg.mpr rfl));have I7:Qq X XaR σ (upd H5 b6.heap.objs.size (.lst ys)) s6:=(back I6).track nD I2.sz (XU I2.lt) cneD pneD ⟨hz5,its,k,rv5,eD⟩;refine hRR _ _ _ s6 m6 hn6 I7 (by rw[Qr (XU sz3)];exact I6.free) (XU I3.lt) I3.sz (fun x d e=>?_) (fun p hp=>?_) (qn _ nD)
   ·obtain⟨v,z⟩:=I3.cell x d e
    exact Xo z.lt
   ·exact Xo (Xj (I3.pin p hp).1)
  ·refine Q2 (T.item (Zu X N scope c) rfl rfl rfl hc i _ s5 (ZI f σ) H5 _ I5 (fpX fr5) st5 go) fun r s6 ⟨u,hr,h6⟩=>?_
   subst hr;refine Q2 h6 fun _ s7 ⟨x,H7,I7,r7,y7,st7,fr7⟩=>?_;have I7':=I7.pinned (fpX fr7) (T.obj _ _ st7);refine Q2 (hg c _ s7 (ZI f σ) H7 x u _ I7' r7 ((ht c).keep _ _ _ _ (step x H7 y7))) fun _ s8 ⟨σ8,H8,I8,kp8,q8⟩=>?_
   have wk:∀(j:Nat) v,(ZI f σ)[j]?=some (some v)->σ8[j]?=some (some v):=fun j v e=>by
    have ef:∃k,f[j]?=some (some k):=by
     have e':=e;unfold ZI at e';rw[Xt]at e';cases q:f[j]? with
     |none=>rw[q]at e';cases e'
     |some o =>
       cases o with
       |none=>rw[q]at e';cases e'
       |some k=>exact⟨k,rfl⟩
    obtain⟨k,ef⟩:=ef;rw[kp8.2 j k ef];exact e
   have recs:∀{H9:Hp} {s9:Shared} {ob:Obj},Qq (Zu X N scope c) ([(b6.heap.objs.size,ob)]++Uj fp s7.heap) σ8 H9 s9->tn (i+1) s9.heap/\∀b∈fp,H9 b=none:=fun{H9 s9 ob} I9 =>
    ⟨T.keep _ _ _ st7 fun b hb o e=>(I9.pin (b,o) (XG _ (XG _ (Uw hb e)))).1,fun b hb=>by
     obtain⟨o,e,d⟩:=T.obj _ _ st7 b hb
     exact(I9.pin (b,o) (XG _ (XG _ (Uw hb e)))).2.1⟩
   refine Q2 (hcs c _ s8 σ8 H8 _ I8 q8) fun ok s9 ⟨H9,I9,q9⟩=>?_
   cases ok with
   |false =>
     obtain⟨m',hm,w9⟩:=(show ∃m',m'<n/\W (i+1) m' ys H9 from q9);obtain⟨z1,z2⟩:=recs I9
     exact⟨m',hm,i+1,H9,ys,its,k,(I9.unpinned).weak kp8.1.symm wk,rv5,hz5,z1,z2,w9⟩
   |true =>
     refine Q2 (he c _ s9 σ8 H9 _ I9 (show te c σ8 H9 _ from q9)) fun v s10 ⟨y,H10,I10,r10,hlen,m',hm,w10⟩=>?_;obtain⟨eD,nD,neD,nfD,dD⟩:=I10.pin (b6.heap.objs.size,ZO its k) (XG _ (JK _ (Xg.mpr rfl)));obtain⟨z1,z2⟩:=recs I10;have lv:=rv5.length;refine call_meets F.slot_list_append ⟨_,eD,rfl⟩ F.entry_list_append (F.args_list_append_2 _ _) (PySem.list_append b6.heap.objs.size its.toArray k v (by rw[XB];omega)) ⟨eD,?_⟩;have q:=PySem.IsL.update eD (·.push v);have hf:its.toArray.push v=(its++[v]).toArray:=by simp
     rw[hf]at q;have I11:Qq (Zu X N scope c) [] σ8 H10 { s10 with heap:=s10.heap.update b6.heap.objs.size (Obj.mapSeq (·.push v)) } :=
      (I10.pins_of (pins':=[]) fun p hp=>Xk hp (by simp)).turned (t':=s10.toks) (it:=b6.heap.objs.size) (fun b o hb e=>(XO s10.heap (Obj.mapSeq (·.push v)) (Ne.symm hb)).trans e) nD neD (.inl Xa) (okX.exf _ Xa).2 fun p hp=>by
       have z:p∈(X.pn++XaR)++[]:=hp;rw[XH]at z;exact pneD p z
     have I12:Qq (Zu X N scope c) [(b6.heap.objs.size,ZO (its++[v]) _)] σ8 H10 { s10 with heap:=s10.heap.update b6.heap.objs.size (Obj.mapSeq (·.push v)) } :=
      I11.pins_of fun p hp=>by
       have z:p=(b6.heap.objs.size,_):=Xg.mp hp;subst z;exact⟨q,nD,neD,nfD,fun v z=>nomatch (show Data.seq _ _=Data.cell v from z)⟩
     refine⟨m',hm,i+1,H10,ys++[y],its++[v],_,I12.weak kp8.1.symm wk,rv5.append (.cons r10 .nil),by rw[Xm,BX];omega,?_,z2,w10⟩;exact T.keep _ _ _ z1 fun b hb o e=>(XO s10.heap (Obj.mapSeq (·.push v)) (fneD b hb).symm).trans e
 exact codeAny_compStart_list (loop _ (by rw[<- hs3])) (T.self _ 0 _ _ _ st1 (loop _ (by rw[<- hs3])))
def YF {tg iter elt:Expr}{ifs:Qi}{scope:Scope}{pos:Pos}{NX:Qh}{sc:Scope}{N:Qh}{f:List (Option Nat)}{wi:TI}{g:CIn->TG}{tc:CIn->TT}{te:CIn->TE}
 (hc:X.calm=true) (ck:Ge NX sc N f scope=true) (hNX:X.N=NX) (hsc:X.env.scope=sc) (hi:PI X tg iter wi)
 (hg:∀c,PG (Zu X N scope c) tg (g c)) (ht:∀c,TgOk f (g c)) (hcs:∀c,PCs (Zu X N scope c) ifs (tc c)) (he:∀c,PE (Zu X N scope c) elt (te c))
 (hs:∀x,foldedSetIterable iter X.env x=pure x:=by intro _;rfl):PE X (.ListComp elt [⟨tg,iter,ifs,0⟩] scope pos) (tLC f wi g tc te):=by
 subst hNX hsc;intro XaR s σ H Q I h;have ck':=DZ ck;obtain⟨cl,hclos,hcl1,hcl2⟩:=Hw (scope:=scope) (env:=X.env) fun p hp hf=>I.ok.has p.1 (ck'.free p hp hf);rw[eval_ListComp];refine wpAny_comprehension_free (use:=none) rfl hs hclos ck'.kind ck'.names (Q2 (hi XaR s σ H _ I h) fun xv b7 b9=>Q2 b9 fun itv b6 bj=>?_);obtain⟨it,fp,tn,J,H2,e,I2,T,st,f2,hq⟩:=bj;subst e;refine KL (RR:=fun acc C=>compPost (model X.prog X.w) X.A X.xe none (EP X XaR σ Q) acc C) hc ck' hg ht hcs he I2 T st f2 hq hcl1 hcl2 ?_;intro acc C H' s' m' hn I' hC hL h0 h1 h2 q;exact⟨m',hn,fun h'' hs''=>⟨.ref acc,H',I'.turned (t':=s'.toks) (fun b o hb e=>(hs''.2 b hb).trans e) hC hL (.inr h0) h1 h2,rfl,q⟩⟩
def RH {i:Nat}{x:Str}{px spos:Pos}{tg iter elt:Expr}{ifs:Qi}{scope:Scope}{pos:Pos}{NX:Qh}{sc:Scope}{N:Qh}{f:List (Option Nat)}{wi:TI}{g:CIn->TG}{tc:CIn->TT}{te:CIn->TE}
 (hN:X.N.Nodup) (hix:X.N[i]?=some x) (hx:X.env.scope.names.lookup x=some .local)
 (hc:X.calm=true) (ck:Ge NX sc N f scope=true) (hNX:X.N=NX) (hsc:X.env.scope=sc) (hi:PI X tg iter wi)
 (hg:∀c,PG (Zu X N scope c) tg (g c)) (ht:∀c,TgOk f (g c)) (hcs:∀c,PCs (Zu X N scope c) ifs (tc c)) (he:∀c,PE (Zu X N scope c) elt (te c))
 (hsw:swapsWith (.ListComp elt [⟨tg,iter,ifs,0⟩] scope pos) (some (.Name x px)) spos.line X.env=pure true)
 (hs:∀x,foldedSetIterable iter X.env x=pure x:=by intro _;rfl):PS X (.Assign [.Name x px] (.ListComp elt [⟨tg,iter,ifs,0⟩] scope pos) spos) (ZX (tLC f wi g tc te) (ZG i)):=by
 subst hNX hsc;intro XaR s σ H D I h;have ck':=DZ ck;obtain⟨cl,hclos,hcl1,hcl2⟩:=Hw (scope:=scope) (env:=X.env) fun p hp hf=>I.ok.has p.1 (ck'.free p hp hf);rw[exec_Assign_Name_used _ _ _ _ hsw];refine Xb (wpAny_standAt (Xb ?_));show wpAny _ X.A (do let _ <- comprehension (.ListComp elt [⟨tg,iter,ifs,0⟩] scope pos) scope X.env _ (newList []) false (eval iter X.env) (some (assign (.Name x px) X.env))) _ _ s
 refine Xb (wpAny_mono (wpAny_comprehension_free (use:=some (assign (.Name x px) X.env)) (Q:=fun _ s'=>SP X XaR D .next s') rfl hs hclos ck'.kind ck'.names
  (Q2 (hi XaR s σ H _ I h) fun xv b7 b9=>Q2 b9 fun itv b6 bj=>?_)) (fun _ s' hq=>Xp (Xp hq)) fun _ _ e=>e)
 obtain⟨it,fp,tn,J,H2,e,I2,T,st,f2,hq⟩:=bj;subst e;refine KL (RR:=fun acc C=>compPost (model X.prog X.w) X.A X.xe (some (assign (.Name x px) X.env)) (fun _ s'=>SP X XaR D .next s') acc C) hc ck' hg ht hcs he I2 T st f2 hq hcl1 hcl2 ?_;intro acc C H' s' m' hn I' hC hL h0 h1 h2 q;show wpAny _ X.A (assign (.Name x px) X.env (.ref acc)) _ _ _;refine wpAny_assign_Name (DV I' hN hix (.inl hx) (v:=.ref acc) rfl (fun s'' I'' ⟨a,sb,ha⟩=>?_) (.inr hx))
 have nC:C≠a:=by
  rcases ha with z|z
  ·rw[z];exact hL
  ·exact(h1 _ _ z).symm
 refine⟨m',hn.sameBut sb nC,fun h'' hs''=>?_⟩
 exact⟨_,H',I''.turned (t':=s''.toks) (fun b o hb e=>(hs''.2 b hb).trans e) hC hL (.inr h0) h1 h2,q⟩
end
section
variable {f:List (Option Nat)}{g:TG}{tc:TT}{te:TE}{σ:St}{Q:VK}{H1:Hp}{K:W.Frag}{a:Addr}{xs:List V}
end
mutual
inductive Rep (H:Hp):V->PyData->Prop
 |non:Rep H .non .none
 |bl (b:Bool):Rep H (.bl b) (.bool b)
 |int (i:Int):Rep H (.int i) (.int i)
 |str (x:Str):Rep H (.str x) (.str x)
 |lst {a:Addr} {xs:List V} {ds:Qd}:H a=some (.lst xs)->Qv H xs ds->Rep H (.ref a) (.list ds)
 |tup {a:Addr} {xs:List V} {ds:Qd}:H a=some (.tup xs)->Qv H xs ds->Rep H (.ref a) (.tuple ds)
 |dct {a:Addr}:H a=some (.dK [])->Rep H (.ref a) (.dict [])
inductive Qv (H:Hp):List V->Qd->Prop
 |nil:Qv H [] []
 |cons {x:V} {xs:List V} {d:PyData} {ds:Qd}:Rep H x d->Qv H xs ds->Qv H (x::xs) (d::ds)
end
mutual
theorem Rep.mono {H H':Hp}(s:Q4 H H'):∀{v:V} {d:PyData},Rep H v d->Rep H' v d
 |_,_,.non=>.non
 |_,_,.bl b=>.bl b
 |_,_,.int i=>.int i
 |_,_,.str x=>.str x
 |_,_,.lst h r=>.lst (s _ _ h) (Qv.mono s r)
 |_,_,.tup h r=>.tup (s _ _ h) (Qv.mono s r)
 |_,_,.dct h=>.dct (s _ _ h)
theorem Qv.mono {H H':Hp}(s:Q4 H H'):∀{vs:List V} {ds:Qd},Qv H vs ds->Qv H' vs ds
 |_,_,.nil=>.nil
 |_,_,.cons r t=>.cons (Rep.mono s r) (Qv.mono s t)
end
theorem Qv.length {H:Hp}:∀{vs:List V} {ds:Qd},Qv H vs ds->vs.length=ds.length
 |_,_,.nil=>rfl
 |_,_,.cons _ t=>by simp[Qv.length t]
theorem Qv.get {H:Hp}:∀{vs:List V} {ds:Qd} {i:Nat} {d:PyData},Qv H vs ds->ds[i]?=some d->∃v,vs[i]?=some v/\Rep H v d
 |_,_,_,_,.nil,e=>by simp at e
 |_,_,0,_,.cons r _,e=>by simp at e;subst e;exact⟨_,rfl,r⟩
 |_,_,i+1,d,.cons _ t,e=>by
   obtain⟨u,h1,h2⟩:=Qv.get (i:=i) (d:=d) t (by simpa using e)
   exact⟨u,by simpa using h1,h2⟩
theorem Qv.snoc {H:Hp}{v:V}{d:PyData}:∀{vs:List V} {ds:Qd},Qv H vs ds->Rep H v d->Qv H (vs++[v]) (ds++[d])
 |_,_,.nil,h=>.cons h .nil
 |_,_,.cons r t,h=>.cons r (Qv.snoc t h)
theorem Qv.append {H:Hp}:∀{vs ws:List V} {ds es:Qd},Qv H vs ds->Qv H ws es->Qv H (vs++ws) (ds++es)
 |_,_,_,_,.nil,s=>s
 |_,_,_,_,.cons r t,s=>.cons r (Qv.append t s)
theorem Qv.set {H:Hp}{v:V}{d:PyData}(r:Rep H v d):∀{vs:List V} {ds:Qd} (i:Nat),Qv H vs ds->Qv H (vs.set i v) (ds.set i d)
 |_,_,_,.nil=>.nil
 |_,_,0,.cons _ t=>.cons r t
 |_,_,i+1,.cons q t=>.cons q (Qv.set r i t)
theorem Gr {H:Hp}:∀{vs:List V} {l:Ql},Qv H vs (l.map PyData.int)->vs=l.map V.int
 |_,[],.nil=>rfl
 |_,i::l,.cons (.int _) t=>by rw[Xv,Gr t]
section
variable {X:Cx}{XaR:Qc}{σ:St}{H:Hp}{s:Shared}
mutual
theorem Rep.reads (I:Qq X XaR σ H s):∀{v:V} {d:PyData} {u:Value},Rep H v d->QI v u->∃as,Reads s.heap u d as
 |_,_,_,.non,r=>by cases r;exact⟨_,.none⟩
 |_,_,_,.bl b,r=>by cases r;exact⟨_,.bool b⟩
 |_,_,_,.int i,r=>by obtain⟨t,rfl⟩:=r;exact⟨_,.int i t⟩
 |_,_,_,.str x,r=>by obtain⟨t,rfl⟩:=r;exact⟨_,.str x t⟩
 |_,_,_,.lst h q,r=>by
   cases r
   obtain⟨z,its,n,rv,e⟩:=I.hok _ _ h;obtain⟨as,ra⟩:=Qv.reads I q rv
   exact⟨_,.list e rfl rfl (by simpa using ra)⟩
 |_,_,_,.tup h q,r=>by
   cases r
   obtain⟨z,its,rv,o,e,c,n,dd⟩:=I.hok _ _ h;obtain⟨as,ra⟩:=Qv.reads I q rv
   exact⟨_,.tuple e c dd (by simpa using ra)⟩
 |_,_,_,.dct h,r=>by
   cases r
   obtain⟨z,y,vs,kv,ob,es,ep,e,c,dd,_,pr,_⟩:=I.hok _ _ h
   cases kv
   have ee:es.toList=[]:=List.eq_nil_of_length_eq_zero pr.length
   exact⟨_,.dict (kvs:=[]) e c.1 dd (by rw[ee];exact .nil) (by rw[ee];exact .nil)⟩
theorem Qv.reads (I:Qq X XaR σ H s):∀{vs:List V} {ds:Qd} {us:Qe},Qv H vs ds->QS vs us->∃as,ReadsAll s.heap us ds as
 |_,_,_,.nil,r=>by cases r;exact⟨_,.nil⟩
 |_,_,_,.cons q t,r=>by
   cases r with
   |cons r1 r2 =>
     obtain⟨as,ra⟩:=Rep.reads I q r1;obtain⟨bs,rb⟩:=Qv.reads I t r2
     exact⟨_,.cons ra rb⟩
end
def Va (d:PyData):Prop:=d.canLay0=true/\d.depth<=60
def HS:R2:=fun x y H Q=>∃d e,Rep H x d/\Rep H y e/\Va d/\Va e/\Q (.bl (PyData.eqv d e)) H
def HW:R2:=fun x y H Q=>∃d e,Rep H x d/\Rep H y e/\Va d/\Va e/\Q (.bl (!PyData.eqv d e)) H
def Ji (hu:X.A.units+64<cLine):OpR X (compareOp .Eq) HS:=by
 intro XaR s σ H x y v u Q I rx ry h;obtain⟨d,e,hd,he,fd,fe,q⟩:=h;obtain⟨as,ra⟩:=hd.reads I rx;obtain⟨bs,rb⟩:=he.reads I ry;refine SeqAt.compareEq_reads ra rb fd.1 fe.1 ?_ ⟨.bl (PyData.eqv d e),H,I,rfl,q⟩;have h1:=fd.2;have h2:min d.depth e.depth<=d.depth:=Nat.min_le_left _ _;omega
def MN (hu:X.A.units+64<cLine):OpR X (compareOp .NotEq) HW:=by
 intro XaR s σ H x y v u Q I rx ry h;obtain⟨d,e,hd,he,fd,fe,q⟩:=h;obtain⟨as,ra⟩:=hd.reads I rx;obtain⟨bs,rb⟩:=he.reads I ry;refine SeqAt.compareNe_reads ra rb fd.1 fe.1 ?_ ⟨.bl (!PyData.eqv d e),H,I,rfl,q⟩;have h1:=fd.2;have h2:min d.depth e.depth<=d.depth:=Nat.min_le_left _ _;omega
end
def WF {d:PyData}(f:Va d):PyData.eqv d d=true:=SeqAt.eqv_refl d f.1
def Ng {α:Type}{xs:List α}{i:Int}{v:α}(h:atI xs i=some v):∃j:Nat,xs[j]?=some v/\ixN xs.length i=some j:=by
 unfold atI at h;cases e:ixN xs.length i with
 |none=>rw[e]at h;cases h
 |some j=>rw[e]at h;exact⟨j,h,rfl⟩
section
variable {X:Cx}
end
inductive TyN (H:Hp):V->String->Prop
 |non:TyN H .non "NoneType"
 |bl (b:Bool):TyN H (.bl b) "bool"
 |int (i:Int):TyN H (.int i) "int"
 |str (x:Str):TyN H (.str x) "str"
 |lst {a:Addr} {xs:List V}:H a=some (.lst xs)->TyN H (.ref a) "list"
 |tup {a:Addr} {xs:List V}:H a=some (.tup xs)->TyN H (.ref a) "tuple"
 |dct {a:Addr}:H a=some (.dK [])->TyN H (.ref a) "dict"
def tyD:PyData->String
 |.none => "NoneType"
 |.bool _ => "bool"
 |.int _ => "int"
 |.str _ => "str"
 |.list _ => "list"
 |.tuple _ => "tuple"
 |.dict _ => "dict"
def Rep.ty {H:Hp}{v:V}{d:PyData}(r:Rep H v d):TyN H v (tyD d):=by
 cases r with
 |non=>exact .non
 |bl b=>exact .bl b
 |int i=>exact .int i
 |str x=>exact .str x
 |lst h _=>exact .lst h
 |tup h _=>exact .tup h
 |dct h=>exact .dct h
def Yv (T c:String):Option Bool :=
 if c = "int" then some (T == "int" || T == "bool") else if c = "bool" then some (T == "bool") else if c = "list" then some (T == "list") else if c = "tuple" then some (T == "tuple") else if c = "str" then some (T == "str") else if c = "dict" then some (T == "dict") else none
def Fa {prog:Program} {w:World} {A:Around} {E:Qb} {s:Shared} {Q:Qb} {a:Addr} {o:Obj} {c:String} {b:Bool} (hx:s.heap.get? a=some o) (hc:o.cls=.type "list") (e:Yv "list" c=some b) (h:∀t,Q (.bool b) { s with toks:=t }) :
 wpAny (model prog w) A (call (.builtin "isinstance") [.ref a,.type c]) Q E s:=by
 unfold Yv at e;split at e
 ·rename_i z;subst z;cases e;exact IsiPair.list_int hx hc (h _)
 ·split at e
  ·rename_i z;subst z;cases e;exact IsiPair.list_bool hx hc (h _)
  ·split at e
   ·rename_i z;subst z;cases e;exact IsiPair.list_list hx hc (h _)
   ·split at e
    ·rename_i z;subst z;cases e;exact IsiPair.list_tuple hx hc (h _)
    ·split at e
     ·rename_i z;subst z;cases e;exact IsiPair.list_str hx hc (h _)
     ·split at e
      ·rename_i z;subst z;cases e;exact IsiPair.list_dict hx hc (h _)
      ·cases e
def Lu {prog:Program} {w:World} {A:Around} {E:Qb} {s:Shared} {Q:Qb} {a:Addr} {o:Obj} {c:String} {b:Bool} (hx:s.heap.get? a=some o) (hc:o.cls=.type "tuple") (e:Yv "tuple" c=some b) (h:∀t,Q (.bool b) { s with toks:=t }) :
 wpAny (model prog w) A (call (.builtin "isinstance") [.ref a,.type c]) Q E s:=by
 unfold Yv at e;split at e
 ·rename_i z;subst z;cases e;exact IsiPair.tuple_int hx hc (h _)
 ·split at e
  ·rename_i z;subst z;cases e;exact IsiPair.tuple_bool hx hc (h _)
  ·split at e
   ·rename_i z;subst z;cases e;exact IsiPair.tuple_list hx hc (h _)
   ·split at e
    ·rename_i z;subst z;cases e;exact IsiPair.tuple_tuple hx hc (h _)
    ·split at e
     ·rename_i z;subst z;cases e;exact IsiPair.tuple_str hx hc (h _)
     ·split at e
      ·rename_i z;subst z;cases e;exact IsiPair.tuple_dict hx hc (h _)
      ·cases e
def Rb {prog:Program} {w:World} {A:Around} {E:Qb} {s:Shared} {Q:Qb} {a:Addr} {o:Obj} {c:String} {b:Bool} (hx:s.heap.get? a=some o) (hc:o.cls=.type "dict") (e:Yv "dict" c=some b) (h:∀t,Q (.bool b) { s with toks:=t }) :
 wpAny (model prog w) A (call (.builtin "isinstance") [.ref a,.type c]) Q E s:=by
 unfold Yv at e;split at e
 ·rename_i z;subst z;cases e;exact IsiPair.dict_int hx hc (h _)
 ·split at e
  ·rename_i z;subst z;cases e;exact IsiPair.dict_bool hx hc (h _)
  ·split at e
   ·rename_i z;subst z;cases e;exact IsiPair.dict_list hx hc (h _)
   ·split at e
    ·rename_i z;subst z;cases e;exact IsiPair.dict_tuple hx hc (h _)
    ·split at e
     ·rename_i z;subst z;cases e;exact IsiPair.dict_str hx hc (h _)
     ·split at e
      ·rename_i z;subst z;cases e;exact IsiPair.dict_dict hx hc (h _)
      ·cases e
def Ce {prog:Program}{w:World}{A:Around}{E:Qb}{s:Shared}{Q:Qb}{H:Hp}{x:V}{u:Value}{T c:String}{b:Bool}(ty:TyN H x T)(rx:QI x u)(hf:∀a,x≠.ref a)(e:Yv T c=some b)(h:∀t,Q (.bool b) { s with toks:=t }) :
 wpAny (model prog w) A (call (.builtin "isinstance") [u,.type c]) Q E s:=by
 unfold Yv at e;split at e
 ·rename_i z;subst z;cases e
  cases ty with
  |non=>cases rx;exact IsiPair.NoneType_int (h _)
  |bl b=>cases rx;exact IsiPair.bool_int (h _)
  |int i=>obtain⟨t,rfl⟩:=rx;exact IsiPair.int_int (h _)
  |str i=>obtain⟨t,rfl⟩:=rx;exact IsiPair.str_int (h _)
  |lst _=>exact Xk rfl (hf _)
  |tup _=>exact Xk rfl (hf _)
  |dct _=>exact Xk rfl (hf _)
 ·split at e
  ·rename_i z;subst z;cases e
   cases ty with
   |non=>cases rx;exact IsiPair.NoneType_bool (h _)
   |bl b=>cases rx;exact IsiPair.bool_bool (h _)
   |int i=>obtain⟨t,rfl⟩:=rx;exact IsiPair.int_bool (h _)
   |str i=>obtain⟨t,rfl⟩:=rx;exact IsiPair.str_bool (h _)
   |lst _=>exact Xk rfl (hf _)
   |tup _=>exact Xk rfl (hf _)
   |dct _=>exact Xk rfl (hf _)
  ·split at e
   ·rename_i z;subst z;cases e
    cases ty with
    |non=>cases rx;exact IsiPair.NoneType_list (h _)
    |bl b=>cases rx;exact IsiPair.bool_list (h _)
    |int i=>obtain⟨t,rfl⟩:=rx;exact IsiPair.int_list (h _)
    |str i=>obtain⟨t,rfl⟩:=rx;exact IsiPair.str_list (h _)
    |lst _=>exact Xk rfl (hf _)
    |tup _=>exact Xk rfl (hf _)
    |dct _=>exact Xk rfl (hf _)
   ·split at e
    ·rename_i z;subst z;cases e
     cases ty with
     |non=>cases rx;exact IsiPair.NoneType_tuple (h _)
     |bl b=>cases rx;exact IsiPair.bool_tuple (h _)
     |int i=>obtain⟨t,rfl⟩:=rx;exact IsiPair.int_tuple (h _)
     |str i=>obtain⟨t,rfl⟩:=rx;exact IsiPair.str_tuple (h _)
     |lst _=>exact Xk rfl (hf _)
     |tup _=>exact Xk rfl (hf _)
     |dct _=>exact Xk rfl (hf _)
    ·split at e
     ·rename_i z;subst z;cases e
      cases ty with
      |non=>cases rx;exact IsiPair.NoneType_str (h _)
      |bl b=>cases rx;exact IsiPair.bool_str (h _)
      |int i=>obtain⟨t,rfl⟩:=rx;exact IsiPair.int_str (h _)
      |str i=>obtain⟨t,rfl⟩:=rx;exact IsiPair.str_str (h _)
      |lst _=>exact Xk rfl (hf _)
      |tup _=>exact Xk rfl (hf _)
      |dct _=>exact Xk rfl (hf _)
     ·split at e
      ·rename_i z;subst z;cases e
       cases ty with
       |non=>cases rx;exact IsiPair.NoneType_dict (h _)
       |bl b=>cases rx;exact IsiPair.bool_dict (h _)
       |int i=>obtain⟨t,rfl⟩:=rx;exact IsiPair.int_dict (h _)
       |str i=>obtain⟨t,rfl⟩:=rx;exact IsiPair.str_dict (h _)
       |lst _=>exact Xk rfl (hf _)
       |tup _=>exact Xk rfl (hf _)
       |dct _=>exact Xk rfl (hf _)
      ·cases e
section
variable {X:Cx}
def Cj:Z1 X (.builtin "isinstance") (fun xs H Q=>∃x T c b,xs=[x,.ty c]/\TyN H x T/\Yv T c=some b/\Q (.bl b) H):=by
 intro XaR s σ H xs us Q I r h;obtain⟨x,T,c,b,rfl,ty,e,q⟩:=h;obtain⟨u,w',rfl,rx,rc⟩:=UG r
 cases (show w'=Value.type c from rc)
 have fin:∀t,EP X XaR σ Q (.bool b) { s with toks:=t }:=fun t=>⟨.bl b,H,I.tok t,rfl,q⟩
 by_cases hf:∀a,x≠.ref a
 ·exact Ce ty rx hf e fin
 ·cases ty with
  |lst ha =>
    cases rx
    obtain⟨z,its,n,rv,e1⟩:=I.hok _ _ ha;exact Fa e1 rfl e fin
  |tup ha =>
    cases rx
    obtain⟨z,its,rv,o,e1,c1,n,dd⟩:=I.hok _ _ ha;exact Lu e1 c1 e fin
  |dct ha =>
    cases rx
    obtain⟨z,y,vs,kv,ob,es,ep,e1,c1,_⟩:=I.hok _ _ ha;exact Rb e1 c1.1 e fin
  |_=>exact Xk (fun a z=>nomatch z) hf
def JZ (_ j:Int):Prop:=0<j/\j<2^8000
def Ls {j:Int}(h:JZ 0 j):j.natAbs.log2<9000:=by
 have h0:j.natAbs≠0:=by have:=h.1;omega
 have h1:j.natAbs<2^8000:=by have:=h.2;have:=h.1;omega
 have:=(Nat.log2_lt h0).mpr h1
 omega
def B8:OpR X (binaryOp .FloorDiv) (rI JZ fun i j=>.int (i/j)):=opI fun i j _ _ _ _ _ hc q=>by
 have e:i.fdiv j=i/j:=Int.fdiv_eq_ediv_of_nonneg _ (Int.le_of_lt hc.1);refine floordiv_int (Int.ne_of_gt hc.1) ?_ (.inl (PyProof.noPylong_of_log2 (Ls hc)));rw[e];exact q
end
def Q4.upd {H H':Hp}{a:Addr}{o:HO}(s:Q4 H H')(h:H a=none):Q4 H (L2.upd H' a o):=fun b u e=>by
 rw[Qr (Zp e h)];exact s b u e
def Q4.new {H:Hp}{a:Addr}{o:HO}(h:H a=none):Q4 H (L2.upd H a o):=(Q4.refl H).upd h
def T7 {X:Cx}{XaR:Qc}{σ:St}{H:Hp}{s:Shared}(I:Qq X XaR σ H s):sysModules<s.heap.objs.size :=
 Nat.lt_trans (show sysModules<mainGlobals by decide) ((I.mod.glob.keeps I.bk).lt)
def GT:TE:=fun _ H Q=>∀p,H p=none->Q (.ref p) (upd H p (.dK []))
def D2 {X:Cx}{pos:Pos}:PE X (.Dict [] [] pos) GT:=fun XaR s σ H Q I h =>
 wpAny_Dict_empty ⟨.ref s.heap.objs.size,_,I.laid (a:=s.heap.objs.size) (o:=.dK []) (t':=s.toks) (fun _ _ q=>Xi _ q) (Xq _) ⟨XF _,beq_eq_false_iff_ne.mpr (Ne.symm (Xo (T7 I))),[],.nil,Heap.DictOf.new s.heap⟩,rfl,h _ (I.hok.fresh (Xq _))⟩
end L2
end
section
namespace Att
open PySem PySem.W PySem.Calls PyProof.Rows
theorem SK:∀(ns:Ql) (i:Int),i∈ns->Builtin.Int.intBits i<=WData.weightAll (ns.map WData.int)
 |[],i,h=>by simp at h
 |n::ns,i,h=>by
   rw[Xv,WData.weightAll];rcases Xf.mp h with rfl|h
   ·have:WData.weight (.int i)=Builtin.Int.intBits i:=by rw[WData.weight];rfl
    omega
   ·have:=SK ns i h
    omega
def LB {ns:Ql}(h:WData.layableAll [WData.list (ns.map WData.int)]=true):∀i∈ns,Builtin.Int.intBits i<=2^20:=fun i hi=>by
 have h1:=layableW_arg h (WData.list (ns.map WData.int)) (Xg.mpr rfl);obtain⟨_,_,h2⟩:=layableW_iff.mp h1;rw[WData.weight]at h2;exact XZ (SK ns i hi) h2
def attach_callW {l:OpenLaw}{n:Nat}{q:Program}{loose:Qh}{XP:(Str->Qf)->Heap->Prop}{YP:World->Heap->Prop}{d:DefRec}
 (hn:l.most=some n) (hdf:d.params.defaults=[])
 (call:∀(w:World) (s₀ b7:Shared) (mg mb:Str->Qf) (fa:Addr) (o:Obj) (pm cd doc:Value) (a:Addr) (vs:Qe) (ns:Ql),
  Ground q loose [] XP w s₀ mg mb b7.heap->YP w b7.heap ->
  b7.heap.get? fa=some o->o.data=.func (docDef d.name d.params d.body d.scope pm cd doc)->b7.heap.CodeRec cd d.name->mg d.name=some (.ref fa) ->
  b7.heap.get? a=some { cls:=.type "list",data:=.seq vs.toArray }->IntsAre vs ns->ns.length<=n->(∀i∈ns,Builtin.Int.intBits i<=2^20)->b7.gens=#[] ->
  codeAny (model l.prog w) callerA (.call (.ref fa) ⟨[.ref a],[]⟩) (fun r s'=>r=.ok (.ret (.bool true))/\OldK b7.heap s'.heap/\s'.os=b7.os/\AllBare s'.gens) b7) :
 WalkO q loose XP YP l.row.toRowW d [] (fun f vs=>PySem.call f vs):=by
 intro w s₀ b7 mg mb G Y fa o pm cd doc dV kV ho hd hcd hD hmg hg args vals as hpre hlay hrd hwl hlo;obtain rfl:dV=.none:=Dflts.none hD hdf
 obtain rfl:kV=.none:=Dflts.noKw hD;obtain⟨a,vs,ns,rfl,rfl,hobj,hints,hlen⟩:=A2 hn hpre hwl;refine enter_call (codeAny_mono (call w s₀ b7 mg mb fa o pm cd doc a vs ns G Y ho (fd_plain hd) hcd hmg hobj hints hlen (LB hlay) hg) fun r s' hq=>?_)
 obtain⟨rfl,h2,h3,h4⟩:=hq
 exact⟨.inl ⟨.bool true,.bool true,[],rfl,fun _=>rfl,.bool true,Eh l _,fun _=>⟨List.Pairwise.nil,fun _ hm=>(nomatch hm)⟩⟩,h2,h3,h4⟩
end Att
namespace L2
open PySem PySem.Spec PyProof.Rows
structure Scr (K:W.Frag)(H:Hp)(a:Addr)(ns:Ql):Prop where
 sq:SqL K H a (ns.map V.int)
 len:ns.length<=63
 bits:∀i∈ns,Builtin.Int.intBits i<=2^20
def Scr.mono {K:W.Frag}{H H':Hp}{a:Addr}{ns:Ql}(h:Scr K H a ns)(s:Q4 H H'):Scr K H' a ns:=⟨s.seq h.sq,h.len,h.bits⟩
structure Df (K:W.Frag)(mg:Str->Qf)(x:Str)(st:Stmt)(ps:Qh):Prop where
 ex:∃f fd,Fun K x x st f fd/\mg x=some (.ref f)/\Vd K fd ps []
def QD (P:Program)(w:World)(K:W.Frag)(mg:Str->Qf)(base:Heap)(x:Str)(ps:Qh)(k:Nat)(sp:Sp):Prop :=
 ∃f fd,mg x=some (.ref f)/\W.keepIn K (.ref f)=true/\Vd K fd ps []/\FnOk P w K mg base CX0 k f fd ps sp
def Df.cal {P:Program}{w:World}{K:W.Frag}{mg:Str->Qf}{base:Heap}{x:Str}{st:Stmt}{N ps:Qh}{k:Nat}{sp:Sp}(D:Df K mg x st ps)(S:Qp N ps (Qx st))(len:∀vs H Q E,sp vs H Q E->vs.length=ps.length)
 (XaS:∀(f:Addr) (cdv:Value) (A:Around) (outer:List Env) (s:Shared) (H:Hp) (vs:List V) (Q:VK) (E:XK),Room k (A.deeper (envOfC x (Qx st) s.heap.objs.size f cdv))->sp vs H Q E ->
  ∃t,PSs (Vb CX0 P w K mg base N x (Qx st) f cdv A outer s H E).nox (Zg st) t/\t { nx:=fun _ H'=>Q .non H',rt:=Q } (start N vs) H):QD P w K mg base x ps (k+1) sp:=by
 obtain⟨f,fd,F,hm,hb⟩:=D.ex
 exact⟨f,fd,hm,F.kp,hb,F.ok S len fun cdv A outer s H vs Q E hr h=>XaS f cdv A outer s H vs Q E hr h⟩
section
variable {X:Cx}
def QG {x:Str}{p pos:Pos}{e:Expr}{es:Qi}{t:TA}{ps:Qh}{j k:Nat}{sp:Sp}(C:QD X.prog X.w X.K X.mg X.base x ps j sp)(hr:Room k X.A)(ha:PA X (e::es) t)(hj:j<=k:=by walk_at"j")(hg:Gl X x:=by rfl)
 (hdb:(x==("__debug__" : Str))=false:=by decide +kernel)
 (he:starEach (e::es) X.env=(false,eval e X.env)::starEach es X.env:=by rfl) (hpl:(backTo pos (starEach es X.env)).any (·.1)=false:=by rfl):PE X (.Call (.Name x p) (e::es) [] pos) (VF sp [] E0 t):=by
 obtain⟨f,fd,hm,hk,hb,F⟩:=C;exact N9 F (hr.mono hj) hg hm hk hb .nil Jc ha hdb he hpl
end
def Y1:bootBuiltins "len"=some (.builtin "len"):=by decide +kernel
def Dc:bootBuiltins "max"=some (.builtin "max"):=by decide +kernel
def GY:bootBuiltins "min"=some (.builtin "min"):=by decide +kernel
def KJ:bootBuiltins "sum"=some (.builtin "sum"):=by decide +kernel
def VP:bootBuiltins "isinstance"=some (.builtin "isinstance"):=by decide +kernel
def ME:bootBuiltins "int"=some (.type "int"):=by decide +kernel
def TQ:bootBuiltins "bool"=some (.type "bool"):=by decide +kernel
def Bc:bootBuiltins "list"=some (.type "list"):=by decide +kernel
def Bw:bootBuiltins "tuple"=some (.type "tuple"):=by decide +kernel
mutual
theorem Rep.uniq {H:Hp}:∀{v:V} {d e:PyData},Rep H v d->Rep H v e->d=e
 |_,_,_,.non,.non=>rfl
 |_,_,_,.bl b,.bl _=>rfl
 |_,_,_,.int b,.int _=>rfl
 |_,_,_,.str b,.str _=>rfl
 |_,_,_,.lst h r,.lst h' r'=>by
   rw[h]at h';cases h';rw[Qv.uniq r r']
 |_,_,_,.tup h r,.tup h' r'=>by
   rw[h]at h';cases h';rw[Qv.uniq r r']
 |_,_,_,.lst h r,.tup h' r'=>by rw[h]at h';cases h'
 |_,_,_,.tup h r,.lst h' r'=>by rw[h]at h';cases h'
 |_,_,_,.dct h,.dct h'=>rfl
 |_,_,_,.lst h r,.dct h'=>by rw[h]at h';cases h'
 |_,_,_,.tup h r,.dct h'=>by rw[h]at h';cases h'
 |_,_,_,.dct h,.lst h' r'=>by rw[h]at h';cases h'
 |_,_,_,.dct h,.tup h' r'=>by rw[h]at h';cases h'
theorem Qv.uniq {H:Hp}:∀{vs:List V} {ds es:Qd},Qv H vs ds->Qv H vs es->ds=es
 |_,_,_,.nil,.nil=>rfl
 |_,_,_,.cons r t,.cons r' t'=>by rw[Rep.uniq r r',Qv.uniq t t']
end
section
variable {X:Cx}{tg:Expr}
end
section
variable {v:V}{ds:Qd}{g:TG}{tb:TS}{D:Ends}{σ:St}{H:Hp}
end
section
variable {f:List (Option Nat)}{g:TG}{tc:TT}{te:TE}{σ:St}{Q:VK}{H1:Hp}{v:V}{ds:Qd}
end
mutual
def noL:PyData->Bool
 |.none=>true
 |.bool _=>true
 |.int _=>true
 |.str _=>true
 |.list _=>false
 |.dict _=>false
 |.tuple ds=>noLs ds
def noLs:Qd->Bool
 |[]=>true
 |d::ds=>noL d&&noLs ds
end
mutual
theorem Rep.updL {H:Hp}{l:Addr}{us zs:List V}(hl:H l=some (.lst us)):∀{v:V} {d:PyData},noL d=true->Rep H v d->Rep (L2.upd H l (.lst zs)) v d
 |_,_,_,.non=>.non
 |_,_,_,.bl b=>.bl b
 |_,_,_,.int i=>.int i
 |_,_,_,.str x=>.str x
 |_,_,h,.lst _ _=>by simp[noL]at h
 |_,_,h,.tup ha r=>.tup (by rw[Qr (Kv ha hl (by intro z;cases z))];exact ha) (Qv.updL hl (by simpa [noL] using h) r)
theorem Qv.updL {H:Hp}{l:Addr}{us zs:List V}(hl:H l=some (.lst us)):∀{vs:List V} {ds:Qd},noLs ds=true->Qv H vs ds->Qv (L2.upd H l (.lst zs)) vs ds
 |_,_,_,.nil=>.nil
 |_,_,h,.cons r t=>.cons (Rep.updL hl (by simp[noLs]at h;exact h.1) r) (Qv.updL hl (by simp[noLs]at h;exact h.2) t)
end
def SA (a b:Int):Builtin.Range.rangeSize a b (-1)=((a-b).toNat:Int):=by
 unfold Builtin.Range.rangeSize;simp only[show ¬((-1:Int) > 0) by decide,if_false,show(-(-1):Int)=1 from rfl,Int.ediv_one]
 split<;>omega
def EL {a b:Int}(ha : -(2^62)<=a)(ha':a<2^62)(hb : -(2^62)<=b)(hb':b<2^62):Builtin.Range.small a b (-1)=true:=by
 unfold Builtin.Range.small;rw[SA];simp only[Builtin.Range.rangeFitsLong,U1,Bool.or_eq_true,decide_eq_true_eq,beq_iff_eq,show ¬((-1:Int) > 0) by decide,if_false];omega
def Mg (hi:Int)(n:Nat):It:=⟨fun i _=>i<n,fun i H x H'=>H'=H/\x=.int (hi-i),fun i _=>n<=i⟩
theorem EH {P:Program}{w:World}{K:W.Frag}{tg:Expr}(it:Addr)(hi:Int)(n:Nat):Turn P w K tg (Mg hi n) [it] it (fun i h=>IsRangeIter h it (hi+(i:Nat)*(-1)) ((n:Int)-(i:Nat)) (-1)) where
 mem:=by simp
 obj:=fun i h st b hb=>by
  have e:b=it:=by simpa using hb
  subst e;exact⟨_,st,fun v z=>by
   have z':Data.fields _=Data.cell v:=z
   cases z'⟩
 keep:=fun i h h' st k=>k it (by simp) _ st
 item:=by
  intro X hP hw hK hc i XaR s σ H E I hf st hg;subst hP hw hK;obtain⟨f0,f1,f2,f3,f4,f5⟩:=hf it (by simp);have W:=Walks.range (prog:=X.prog) (w:=X.w) (I.ok.hd hc) it hi (-1) n;refine W.item i s _ _ hg st fun v h' tk hv st' kk=>?_;obtain⟨t,rfl⟩:=hv;have I1:Qq X XaR σ H { s with heap:=h',toks:=tk }:=I.turned (fun b o hb e=>kk b o (by simpa using hb) e) f0 f1 f3 f4 f5;refine⟨_,rfl,UI (s:={ s with heap:=h',toks:=tk }) (n := "range_iterator") st' rfl rfl (by decide) ⟨.int (hi-i),H,I1,⟨t,?_⟩,⟨rfl,rfl⟩,st',fun b hb=>(hf b hb).1⟩⟩;rw[show hi+(i:Int)*(-1)=hi-i by omega]
 done:=by
  intro X hP hw hK hc i XaR s σ H E I hf st hg;subst hP hw hK;obtain⟨f0,f1,f2,f3,f4,f5⟩:=hf it (by simp);exact wpAny_pyNext_range_end (I.ok.hd hc) st (by have:n<=i:=hg;omega) fun h' eb=>⟨rfl,I.turned (t':=s.toks) (fun b o hb e=>eb b o hb e) f0 f1 f3 f4 f5⟩
 self:=fun _ _ _ _ _ st h=>wpAny_pyIter_rangeiter st h
section
variable {X:Cx}{tg:Expr}
def Ae {XaR:Qc}{σ:St}{H:Hp}{s:Shared}{R:It->Hp->Prop}{E:Qb}{lo hi:Int}{t u v:Tok}{tk:Nat}(I:Qq X XaR σ H s)(h1 : -(2^62)<=hi)(h2:hi<2^62)(h3 : -(2^62)<=lo)(h4:lo<2^62)
 (q:R (Mg hi (hi-lo).toNat) H):wpAny (model X.prog X.w) X.A (pyIter (.ref s.heap.objs.size)) (PIE X XaR σ tg R) E { s with heap:=s.heap.push { cls:=.type "range",data:=.fields #[.int hi t,.int lo u,.int (-1) v] },toks:=tk }:=by
 refine wpAny_pyIter_range (IsRange.new ..) (EL h1 h2 h3 h4) ?_;have I1:Qq X XaR σ H { s with heap:=s.heap.push { cls:=.type "range",data:=.fields #[.int hi t,.int lo u,.int (-1) v] },toks:=tk }:=I.kept fun b o e=>Xi _ e
 refine⟨(s.heap.push { cls:=.type "range",data:=.fields #[.int hi t,.int lo u,.int (-1) v] }).objs.size,[(s.heap.push { cls:=.type "range",data:=.fields #[.int hi t,.int lo u,.int (-1) v] }).objs.size],_,_,H,rfl,
  I1.kept (t':=tk) fun b o e=>Xi _ e,EH _ hi (hi-lo).toNat,?_,fun b hb=>?_,q⟩
 ·have e1:hi+((0:Nat):Int)*(-1)=hi:=by simp
  have e2:(((hi-lo).toNat:Nat):Int)-((0:Nat):Int)=Builtin.Range.rangeSize hi lo (-1):=by rw[SA];omega
  show IsRangeIter _ _ (hi+((0:Nat):Int)*(-1)) ((((hi-lo).toNat:Nat):Int)-((0:Nat):Int)) (-1);rw[e1,e2];exact XD _ rfl
 ·have e:b=(s.heap.push { cls:=.type "range",data:=.fields #[.int hi t,.int lo u,.int (-1) v] }).objs.size:=by simpa using hb
  subst e;exact I1.fpOk (Xq _) (I1.hok.fresh (Xq _))
def K7 (ta:TA):TI:=fun σ H R=>ta σ H fun vs H1=>∃i j:Int,vs=[.int i,.int j,.int (-1)]/\(-(2^62)<=i/\i<2^62 /\ -(2^62)<=j/\j<2^62)/\R (Mg i (i-j).toNat) H1
def AX {a b c:Expr} {ta:TA} {p pos:Pos} (hg:Gl X "range") (hm:X.mg "range"=none) (ha:PA X [a,b,c] ta) (hs:starEach [a,b,c] X.env=[(false,eval a X.env),(false,eval b X.env),(false,eval c X.env)]:=by rfl)
 (hs2:starEach [b,c] X.env=[(false,eval b X.env),(false,eval c X.env)]:=by rfl):PI X tg (.Call (.Name "range" p) [a,b,c] [] pos) (K7 ta):=by
 intro XaR s σ H R I h;refine Call_ (W8 I hg hm boot_range (PyProof.Rows.callWith_type1 (Q2 (ha pos XaR s σ H _ I h) fun us s1 ⟨vs,H1,I1,r1,q1⟩=>?_) (by rw[hs,hs2]) (by rw[hs2];rfl)));obtain⟨i,j,e,⟨q1,q2,q3,q4⟩,q⟩:=q1;subst e;cases r1 with
 |cons r rr =>
   cases rr with
   |cons r' rr =>
     cases rr with
     |cons r2 rr =>
       cases rr
       obtain⟨t,rfl⟩:=r;obtain⟨t',rfl⟩:=r';obtain⟨t2,rfl⟩:=r2;exact call_range_3 (by decide) (Ae I1 q1 q2 q3 q4 q) (.inl (PyProof.noPylong_small (by decide)))
end
def GG (K:W.Frag):V->V->Hp->VK->Prop:=fun o i H Q=>∃p xs k v,o=.ref p/\i=.int k/\SqL K H p xs/\0<=k/\xs[k.toNat]?=some v/\Q v H
def EJ (ns:Ql):preSum (fun i=>ns.getD i 0) ns.length=ns.sum:=by
 have key:∀k,k<=ns.length->preSum (fun i=>ns.getD i 0) k=(ns.take k).sum:=by
  intro k;induction k with
  |zero=>intro _;simp[preSum]
  |succ k ih =>
    intro hk;have h1:k<ns.length:=by omega
    rw[JD,G1,<- ih (by omega)];simp[preSum,h1]
 rw[key ns.length (Xq _),JE]
theorem WB:∀{vs:Qe} {ns:Ql} {i:Nat} {v:Value},IntsAre vs ns->vs[i]?=some v->∃t,v=.int (ns.getD i 0) t
 |_,_,_,_,.nil,e=>by simp at e
 |_,_,0,_,.cons n t h,e=>by simp at e;exact⟨t,by simp[<- e]⟩
 |_,_,i+1,v,.cons n t h,e=>by
   obtain⟨t',z⟩:=WB (i:=i) (v:=v) h (by simpa using e)
   exact⟨t',by simpa using z⟩
def EQ {prog:Program}{w:World}{A:Around}{E:Qb}{s:Shared}{l:Addr}{vs:Qe}{ns:Ql}{Q:Qb}(hh:A.handled=none)(hl:s.heap.IsList l vs.toArray)(hi:IntsAre vs ns)
 (h:∀h' tk t',(∀b o,s.heap.get? b=some o->h'.get? b=some o)->Q (.int ns.sum t') { s with heap:=h',toks:=tk }):wpAny (model prog w) A (call (.builtin "sum") [.ref l]) Q E s:=by
 obtain⟨o,ho,hc,n,hd⟩:=id hl;have hne:l≠s.heap.objs.size:=Xo (Xj ho);have W:=(Walks.list (prog:=prog) (w:=w) (A:=A.in1) hh s.heap.objs.size l hne vs.toArray).toS;refine call_sum_walkAnyS (wpAny_pyIter_list hl ?_);refine⟨s.heap.objs.size,_,_,_,_,_,_,fun i=>ns.getD i 0,rfl,W,⟨⟨_,XD _ rfl,rfl,rfl⟩,hl.at fun o e=>Xi _ e⟩,fun b hb=>?_,fun i v hP=>WB hi (by simpa using hP),fun s' t' hm=>?_⟩
 ·rcases Xf.mp hb with rfl|hb
  ·exact Xj (XD _ rfl)
  ·obtain rfl:=Xg.mp hb
   exact Xj (Xi _ ho)
 ·obtain⟨h',g',d',tk',os'⟩:=s'
  have e1:g'=s.gens:=hm.gens;have e2:d'=s.drawn:=hm.drawn;have e3:os'=s.os:=hm.os;subst e1 e2 e3;have es:vs.toArray.size=ns.length:=by rw[XB,hi.length]
  rw[es,EJ];exact h h' tk' t' fun b o e=>hm.heap b o (fun hb=>Xk (Xj e) ((Xg.mp hb)▸XW _)) (Xi _ e)
section
variable {X:Cx}
def Gh:Kf X (GG X.K):=by
 intro XaR s σ H o i ov iv Q I ro ri h;obtain⟨p,xs,k,v,rfl,rfl,hq,h0,hv,q⟩:=h
 cases ro
 obtain⟨t,rfl⟩:=ri;obtain⟨its,r,pl,hz⟩:=I.list hq;obtain⟨w,ew,rw'⟩:=r.get hv;have hl:=r.length;have hn:=Jh;have hlt:k.toNat<xs.length:=(Xh.mp hv).1;exact wpAny_getItem_list pl.isList h0 (by omega) (by simpa using ew) ⟨v,H,I,rw',q⟩
def AQ:Z1 X (.builtin "sum") (fun xs H Q=>X.calm=true/\∃(x:V) (ns:Ql),xs=[x]/\Rep H x (.list (ns.map PyData.int))/\Q (.int ns.sum) H):=by
 intro XaR s σ H xs us Q I r h;obtain⟨hc,x,ns,rfl,hx,q⟩:=h;obtain⟨u,rfl,rx⟩:=Yx r
 cases hx with
 |lst ha rr =>
   cases rx
   have er:=Gr rr;subst er;obtain⟨its,rv,p,hz⟩:=I.list (SqL.of (K:=X.K) ha);exact EQ (I.ok.hd hc) p.isList (BH rv) fun h' tk t' k=>⟨.int ns.sum,H,I.kept k,⟨_,rfl⟩,q⟩
end
section
variable {X:Cx}
end
def Qq.turnedL {X:Cx}{XaR:Qc}{σ:St}{H:Hp}{s:Shared}{h':Heap}{t':Nat}{ch:Qg}(I:Qq X XaR σ H s)(k:∀b o,b∉ch->s.heap.get? b=some o->h'.get? b=some o)(hch:∀b∈ch,VJ X XaR H b):Qq X XaR σ H { s with heap:=h',toks:=t' }:=by
 refine I.step (g':=s.gens) (d':=s.drawn) (ch:=ch) (fun b hb=>?_) (fun b o _ _ hc e _=>k b o hc e) (fun b o _ _ hc e _=>⟨o.slots,k b o hc e⟩) (fun _ _ _ _ n=>n)
  (fun b o hc e=>⟨o,k b o hc e⟩) (fun _ _ e=>e) (fun _ _ _ e=>e) (fun b ps e=>⟨#[],by rw[e];simp⟩) (fun m hm=>?_) (fun b u e=>?_) I.bare (fun b _ o hc _ e=>k b o hc e)
 ·obtain⟨f0,f1,f2,f3,f4,f5⟩:=hch b hb
  exact⟨f3,f1,f4,f5⟩
 ·obtain⟨o,es,ep,ho,r⟩:=hm
  exact⟨o,es,ep,k _ o (fun z=>(hch _ z).2.1 rfl) ho,r⟩
 ·refine(I.hok b u e).stay (fun c v hc q=>k c v (fun z=>?_) q) (fun _ q=>q) fun _ _ q=>q
  have hn:=(hch c z).1
  rcases hc with rfl|hc
  ·rw[hn]at e;cases e
  ·rw[hn]at hc;cases hc
def Qq.trackTup {X:Cx}{XaR:Qc}{σ:St}{H:Hp}{s0 s:Shared}{T:Addr}{x y:V}{u v:Value}(I0:Qq X XaR σ H s0)(I:Qq X XaR σ H s)(hT:s0.heap.objs.size<=T)(rx:QI x u)(ry:QI y v)(tup:s.heap.IsTuple T #[u,v]):Qq X XaR σ (upd H T (.tup [x,y])) s:=by
 refine I.track (I0.hok.fresh hT) (XZ I0.sz hT) (XU (Xs I0.lt hT)) (fun z c e q=>?_) (fun p hp q=>?_) ⟨by show 2<=sizeLine;decide,[u,v],.cons rx (.cons ry .nil),tup⟩
 ·obtain⟨w,hw⟩:=I0.cell z c e
  exact Xk (Xs hw.lt (by rw[q];exact hT)) (XW _)
 ·exact Xk (Xs (Xj (I0.pin p hp).1) (by rw[q];exact hT)) (XW _)
def Ite (K:W.Frag)(a:Addr):It :=
 ⟨fun i H=>∃xs x,SqL K H a xs/\xs[i]?=some x,
  fun i H v H'=>∃p x,H p=none/\v=.ref p/\H'=upd H p (.tup [.int (i:Int),x])/\∀xs,SqL K H a xs->xs[i]?=some x,
  fun i H=>∃xs,SqL K H a xs/\i=xs.length⟩
theorem Am {P:Program}{w:World}{K:W.Frag}{elts:Qi}{k:Nat}{pos:Pos}{e it a:Addr}(hei:e≠it)(hle:a≠e)(hli:a≠it) :
 Turn P w K (.Tuple elts k pos) (Ite K a) [e,it] e (fun i h=>(∃old,IsEnum h e it i old)/\h.IsListIter it a i) where
 mem:=by simp
 obj:=fun i h st c hc=>by
  obtain⟨⟨old,he⟩,o1,e1,c1,d1⟩:=st;simp only[Xf,XQ,or_false]at hc;rcases hc with rfl|rfl
  ·exact⟨_,he,fun v z=>nomatch z⟩
  ·exact⟨_,e1,fun v z=>by rw[d1]at z;cases z⟩
 keep:=fun i h h' st kk=>by
  obtain⟨⟨old,he⟩,h1⟩:=st
  exact⟨⟨old,kk e (by simp) _ he⟩,h1.at fun o x=>kk it (by simp) o x⟩
 item:=by
  intro X hP hw hK hc i XaR s σ H E I hf st hg;subst hP hw hK;obtain⟨xs,x,hq1,hx⟩:=hg;obtain⟨its1,rv1,p1,hz1⟩:=I.list hq1;obtain⟨u1,hu1,ru1⟩:=rv1.get hx;obtain⟨he,h1⟩:=st;have W:=WalksT.enumerate (prog:=X.prog) (w:=X.w) (A:=X.A) (I.ok.hd hc) e it a hei hle hli its1.toArray;have l1:i<its1.length:=(Xh.mp hu1).1;have wr:∀c∈[e,it],VJ X XaR H c:=hf;refine W.item i s _ _ (by simp only[XB];omega) ⟨he,h1,p1.isList⟩ fun T vals h' tk pt hT tup mid kp=>?_;obtain⟨t,v1,e1,rfl⟩:=pt
  have ev1:v1=u1:=by
   have:its1[i]?=some v1:=by simpa using e1
   rw[hu1]at this;exact(Option.some.inj this).symm
  subst ev1;have I1:Qq X XaR σ H { s with heap:=h',toks:=tk }:=I.turnedL kp wr;refine⟨.ref T,rfl,W.go elts k pos i T { s with heap:=h',toks:=tk } _ _ mid fun h'' st' kp2=>?_⟩;have I2:Qq X XaR σ H { s with heap:=h'',toks:=tk }:=I1.turnedL (t':=tk) kp2 wr
  have tup2:h''.IsTuple T #[.int (i:Int) t,v1]:=by
   obtain⟨o,ho,hcl,n,hd⟩:=tup
   exact⟨o,kp2 T o (W.apart i T h' mid) ho,hcl,n,hd⟩
  have I3:=I.trackTup I2 hT (x:=.int (i:Int)) ⟨t,rfl⟩ ru1 tup2;obtain⟨s1,s2,_⟩:=st';refine⟨.ref T,_,I3,rfl,⟨T,x,I.hok.fresh hT,rfl,rfl,fun xs' h=>by rw[I.list_inj h hq1];exact hx⟩,⟨s1,s2⟩,fun c hc'=>?_⟩
  have hlt:c<s.heap.objs.size:=by
   simp only[Xf,XQ,or_false]at hc';obtain⟨old,he⟩:=he
   rcases hc' with rfl|rfl
   ·exact Xj he
   ·obtain⟨_,z,_⟩:=h1;exact Xj z
  rw[Qr (Xo (Xs hlt hT))];exact(hf c hc').1
 done:=by
  intro X hP hw hK hc i XaR s σ H E I hf st hg;subst hP hw hK;obtain⟨xs,hq1,rfl⟩:=hg;obtain⟨its1,rv1,p1,hz1⟩:=I.list hq1;obtain⟨he,h1⟩:=st;have W:=WalksT.enumerate (prog:=X.prog) (w:=X.w) (A:=X.A) (I.ok.hd hc) e it a hei hle hli its1.toArray;have en:xs.length=its1.toArray.size:=by simp[rv1.length]
  refine W.done s _ _ (by rw[<- en];exact⟨he,h1,p1.isList⟩) fun h' tk kp=>⟨rfl,I.turnedL kp hf⟩
 self:=fun _ _ _ _ _ st h=>by
  obtain⟨⟨old,he⟩,_⟩:=st;exact wpAny_pyIter_enum he h
section
variable {X:Cx}
def KC (K:W.Frag)(ta:TA):TI:=fun σ H R=>ta σ H fun vs H1=>∃a,vs=[.ref a]/\(∃xs,SqL K H1 a xs)/\R (Ite K a) H1
def Ac:bootBuiltins "enumerate"=some (.type "enumerate"):=by decide +kernel
def BM {a:Expr} {ta:TA} {p pos:Pos} {elts:Qi} {k:Nat} {tpos:Pos} (hg:Gl X "enumerate") (hm:X.mg "enumerate"=none) (ha:PA X [a] ta) (hs:starEach [a] X.env=[(false,eval a X.env)]:=by rfl) :
 PI X (.Tuple elts k tpos) (.Call (.Name "enumerate" p) [a] [] pos) (KC X.K ta):=by
 intro XaR s σ H R I h;refine Call_ (W8 I hg hm Ac (PyProof.Rows.callWith_type1 (Q2 (ha pos XaR s σ H _ I h) fun us s1 ⟨vs,H1,I1,r1,q1⟩=>?_) hs rfl));obtain⟨x,e,⟨xs,hx⟩,q⟩:=q1;subst e;obtain⟨u,rfl,rx⟩:=Yx r1
 cases rx
 obtain⟨its1,rv1,p1,hz1⟩:=I1.list hx;refine call_enumerate_list p1.isList fun h' he h1 hsz kp=>wpAny_pyIter_enum he ?_;have lx:x<s1.heap.objs.size:=by obtain⟨o,ho,_⟩:=p1.isList;exact Xj ho
 have I2:Qq X XaR σ H1 { s1 with heap:=h' }:=I1.kept (t':=s1.toks) kp;refine⟨_,[s1.heap.objs.size+1,s1.heap.objs.size],_,_,H1,rfl,I2,Am (e:=s1.heap.objs.size+1) (it:=s1.heap.objs.size) (a:=x) (Nat.succ_ne_self _) (Xo (G4 lx)) (Xo lx),⟨⟨_,he⟩,h1⟩,fun c hc=>?_,q⟩
 have hle:s1.heap.objs.size<=c:=by
  simp only[Xf,XQ,or_false]at hc;rcases hc with rfl|rfl
  ·exact Nat.le_add_right _ _
  ·exact Xq _
 exact I1.fpOk hle (I1.hok.fresh hle)
end
def Dx {s:Shared}{h':Heap}{o:Obj}(hk:∀b x,b∉[s.heap.objs.size]->(s.heap.push o).get? b=some x->h'.get? b=some x):∀b x,s.heap.get? b=some x->h'.get? b=some x :=
 fun b x e=>hk b x (fun hm=>by rw[Xg.mp hm]at e;exact XW _ (Xj e)) (Xi _ e)
def VZ:Ql->Int
 |[]=>0
 |[a]=>a
 |a::b::r=>min a (VZ (b::r))
theorem DW:∀{ns:Ql},ns≠[]->VZ ns∈ns/\∀a∈ns,VZ ns<=a
 |[],h=>Xk rfl h
 |[a],_=>by simp[VZ]
 |a::b::r,_=>by
   obtain⟨h1,h2⟩:=DW (ns:=b::r) (by simp);simp only[VZ];refine⟨?_,fun c hc=>?_⟩
   ·by_cases h:a<=VZ (b::r)
    ·rw[Int.min_eq_left h];exact Xa
    ·rw[Int.min_eq_right (by omega)];exact Xd _ h1
   ·rcases Xf.mp hc with rfl|hc
    ·omega
    ·have:=h2 c hc
     omega
def LC {ns:Ql}{M:Int}(h1:M∈ns)(h2:∀a∈ns,M<=a):M=VZ ns:=by
 obtain⟨g1,g2⟩:=DW (ns:=ns) (fun z=>by rw[z]at h1;cases h1)
 have:=h2 _ g1
 have:=g2 _ h1
 omega
section
variable {X:Cx}
def Kx (X:Cx):List V->Hp->VK->Prop:=fun xs H Q=>X.calm=true/\∃(x:V) (ns:Ql),xs=[x]/\Rep H x (.list (ns.map PyData.int))/\ns≠[]/\Q (.int (VZ ns)) H
def Lx:Z1 X (.builtin "min") (Kx X):=by
 intro XaR s σ H xs us Q I r h;obtain⟨hc,x,ns,rfl,hx,hne,q⟩:=h;obtain⟨u,rfl,rx⟩:=Yx r
 cases hx with
 |@lst l ys _ ha rr =>
   cases rx
   have er:=Gr rr;subst er;obtain⟨its,rv,p,hz⟩:=I.list (SqL.of (K:=X.K) ha);have hl:=p.isList;have hi:=BH rv;have hlen:its.length=ns.length:=hi.length;have hpos:0<ns.length:=BU.mpr hne;have hlt:l<s.heap.objs.size:=by obtain⟨_,e,_⟩:=hl;exact Xj e
   refine call_min_walk (wpAny_pyIter_list hl ?_)
   refine⟨s.heap.objs.size,[s.heap.objs.size,l],[s.heap.objs.size],its.toArray.size,_,_,_,rfl,Walks.list (A:=X.A.in1) (I.ok.hd hc) _ l (Xo hlt) its.toArray,
    ⟨⟨_,XD _ rfl,rfl,rfl⟩,hl.push _⟩,fun b hb=>?_,by simp only[XB];omega,CmpOf.ints_lt (fun i=>ns.getD i 0) (fun i v hP=>WB hi (by simpa using hP)),fun v h' tk hP hk=>?_⟩
   ·show b<(s.heap.push _).objs.size
    rw[YZ];rcases Xf.mp hb with rfl|hb
    ·exact Wa _
    ·rcases Xf.mp hb with rfl|hb
     ·exact G4 hlt
     ·cases hb
   ·rw[List.getElem?_toArray]at hP
    obtain⟨t,rfl⟩:=WB hi hP;obtain⟨g1,g2⟩:=argBest_lt (fun i=>ns.getD i 0) (its.toArray.size-1);have hsz:its.toArray.size=its.length:=by simp
    generalize argBest (fun i j=>decide (ns.getD i 0<ns.getD j 0)) (its.toArray.size-1)=k at g1 g2 ⊢;rw[hsz]at g1 g2;have hk2:k<ns.length:=by omega
    have em:ns.getD k 0=VZ ns:=by
     refine LC (by simp[hk2]) fun a ha'=>?_;obtain⟨j,hj,rfl⟩:=U3.mp ha'
     have:=g2 j (by omega)
     simpa [hj,hk2] using this
    exact⟨.int (VZ ns),H,I.kept (Dx hk),⟨t,by rw[em]⟩,q⟩
end
end L2
end
namespace Mir
def Ym (ns:Ql)(k:Int):Int:=ns.getD k.toNat 0
def PD (x:Int):Nat:=if x==0 then 0 else x.natAbs.log2+1
def HQ (i:Int):Int:=if i<0 then -i else i
def mix (head k:Int):Nat->Int×Int×Int
 |0=>(head%2147483629+7919*k,69621*k+5,0)
 |i+1 =>
   ((((mix head k i).1*48271+11+(i:Int)*k)%2147483647),
    (((mix head k i).2.1*16807+((mix head k i).1*48271+11+(i:Int)*k)%2147483647)%2147483629),
    (mix head k i).2.2*2147483629+(((mix head k i).2.1*16807+((mix head k i).1*48271+11+(i:Int)*k)%2147483647)%2147483629*(((mix head k i).2.1*16807+((mix head k i).1*48271+11+(i:Int)*k)%2147483647)%2147483629)+((mix head k i).1*48271+11+(i:Int)*k)%2147483647)%2147483587)
def PV (ns:Ql)(k:Int):Int :=
 if Ym ns 0/720%2=1 then (mix (Ym ns 0) k 30).2.2 else HQ (Ym ns k)+(mix (Ym ns 0) k 30).2.2*2^PD (HQ (Ym ns k))
structure Ln where
 up:Option Nat
 bs:Ql
structure Yd where
 T:Nat
 ls:List Ln
def Zf (y:Yd)(k:Nat):Option Nat:=(y.ls[k]?).bind (·.up)
structure Yd.Ok (y:Yd):Prop where
 t1:1<=y.T
 t8:y.T<=8
 l1:1<=y.ls.length
 l5:y.ls.length<=5
 up0:Zf y 0=none
 ups:∀k,0<k->k<y.ls.length->∃a,Zf y k=some a/\a<k
 bl:∀l∈y.ls,l.bs.length=y.T
 bb:∀l∈y.ls,∀b∈l.bs,0<=b/\b<10^300
def Dk {b:Int}(h:b<10^30):b<10^300:=Int.lt_trans h (by decide +kernel)
def upF9(y:Yd):Nat->Nat->Qk
 |0,k=>[k]
 |n+1,k=>k::match Zf y k with
  |none=>[]
  |some a=>if a<k then upF9 y n a else []
theorem upE9(y:Yd):∀n k m,k<=n->k<=m->upF9 y n k=upF9 y m k
 |0,k,0,_,_=>rfl
 |0,k,m+1,h,_=>by
  cases Nat.le_zero.mp h;unfold upF9;cases Zf y 0<;>simp
 |n+1,k,0,_,h=>by
  cases Nat.le_zero.mp h;unfold upF9;cases Zf y 0<;>simp
 |n+1,k,m+1,h,g=>by
  unfold upF9;cases Zf y k with
  |none=>rfl
  |some a=>
   by_cases l:a<k
   ·simp only[l,if_true,upE9 y n a m (by omega) (by omega)]
   ·simp only[l,if_false]
def upL(y:Yd)(k:Nat):Qk:=upF9 y k k
theorem upD9(y:Yd)(k:Nat):upL y k=k::match Zf y k with|none=>[]|some a=>if a<k then upL y a else []:=by
 unfold upL;rw[upE9 y k k (k+1) (Nat.le_refl _) (by omega)]
 show k::_=_
 cases Zf y k with
 |none=>rfl
 |some a=>
  by_cases l:a<k
  ·simp only[l,if_true,upE9 y k a a (by omega) (Nat.le_refl _)]
  ·simp only[l,if_false]
def Nt {y:Yd}(ok:y.Ok){k:Nat}(hk:k<y.ls.length):upL y k=if k=0 then [0] else k::upL y ((Zf y k).getD 0):=by
 rw[upD9];by_cases h0:k=0
 ·subst h0;simp[ok.up0]
 ·obtain⟨a,e,l⟩:=ok.ups k (by omega) hk
  simp[e,l,h0]
def KR (y:Yd):∀k,∀j∈upL y k,j<=k:=by
 intro k;induction k using Nat.strongRecOn with
 |ind k ih =>
   intro j hj;rw[upD9]at hj;rcases Xf.mp hj with rfl|hj
   ·exact Xq _
   ·cases e:Zf y k with
    |none=>rw[e]at hj;simp at hj
    |some a =>
      rw[e]at hj;by_cases hl:a<k
      ·simp only[hl,if_true]at hj
       have:=ih a hl j hj
       omega
      ·simp only[hl,if_false]at hj;simp at hj
def DC (y:Yd)(k:Nat):k∈upL y k:=by rw[upD9];exact Xa
def MR {y:Yd}(ok:y.Ok){k:Nat}(h0:0<k)(hk:k<y.ls.length){a:Nat}(e:Zf y k=some a)(l:Nat)(hl:l≠k):l∈upL y k↔l∈upL y a:=by
 rw[Nt ok hk,Xc (by omega),e];simp only[G2,Xf];constructor
 ·rintro(h|h)
  ·exact Xk h hl
  ·exact h
 ·exact .inr
end Mir
namespace Mir
structure Gs where
 line:Nat
 first:Nat
 last:Nat
 want:Int
 most:Int
structure Gs.Ok (y:Yd)(g:Gs):Prop where
 ln:g.line<y.ls.length
 fl:g.first<=g.last
 lt:g.last<y.T
 w1:1<=g.want
 w2:g.want<10^300
 m1:1<=g.most
 m2:g.most<10^300
def gn0 (ns:Ql)(k:Nat):Int:=PV ns (6+(k:Int))
def gn1 (ns:Ql)(y:Yd)(k:Nat):Int:=gn0 ns k/(y.ls.length:Int)
def gn2 (ns:Ql)(y:Yd)(k:Nat):Int:=gn1 ns y k/(y.T:Int)
def gf (ns:Ql)(y:Yd)(k:Nat):Int:=gn1 ns y k%(y.T:Int)
def gl (ns:Ql)(y:Yd)(k:Nat):Int:=gf ns y k+gn2 ns y k%((y.T:Int)-gf ns y k)
def Wo (g:Gs)(t:Int):Bool:=decide ((g.first:Int)<=t)&&decide (t<=(g.last:Int))
def Zz (y:Yd)(l:Nat)(t:Nat):Int:=(((y.ls[l]?).map (·.bs)).getD []).getD t 0
def Vs (gs:List Gs)(t:Int)(l:Nat):Qk->Int
 |[]=>0
 |k::r=>(match gs[k]? with|some g=>if g.line=l/\Wo g t=true then g.most else 0|none=>0)+Vs gs t l r
def BL (gs:List Gs)(t:Int)(l:Nat)(a b:Qk):Vs gs t l (a++b)=Vs gs t l a+Vs gs t l b:=by
 induction a with
 |nil=>simp[Vs]
 |cons k r ih=>simp only[WQ,Vs,ih];omega
def W4 (y:Yd)(b:Qn)(st:Qn)(j:Nat):Qn:=fun l=>st l+(if Zf y j=some l then min (st j) (b j) else 0)
def V8 (y:Yd)(b own:Qn):Nat->Qn
 |0=>own
 |i+1=>W4 y b (V8 y b own i) (y.ls.length-1-i)
def VN (y:Yd)(b own:Qn)(l:Nat):Int:=V8 y b own (y.ls.length-1) l
def passes (y:Yd)(b own:Qn)(l:Nat):Int:=min (VN y b own l) (b l)
def Wv (y:Yd)(b own:Qn)(l:Nat):Qn
 |0=>0
 |n+1=>Wv y b own l n+(if Zf y (l+1+n)=some l then passes y b own (l+1+n) else 0)
theorem SG (y:Yd)(ok:y.Ok)(b own:Qn)(l:Nat):∀i,i<=y.ls.length-1->y.ls.length-1-i<=l->∀d,i+d<=y.ls.length-1->V8 y b own (i+d) l=V8 y b own i l
 |i,hi,hl,0,_=>rfl
 |i,hi,hl,d+1,hd=>by
   have ih:=SG y ok b own l i hi hl d (by omega);show W4 y b (V8 y b own (i+d)) (y.ls.length-1-(i+d)) l=_;unfold W4;rw[ih];by_cases h0:0<y.ls.length-1-(i+d)
   ·obtain⟨a,ea,la⟩:=ok.ups (y.ls.length-1-(i+d)) h0 (by omega)
    rw[ea];have:¬some a=some l:=by
     intro z;injection z with z;omega
    rw[Xc this];omega
   ·have:y.ls.length-1-(i+d)=0:=by omega
    omega
def Ey {y:Yd}(ok:y.Ok)(b own:Qn){j:Nat}(hj:j<y.ls.length):V8 y b own (y.ls.length-1-j) j=VN y b own j:=by
 unfold VN;have:=SG y ok b own j (y.ls.length-1-j) (by omega) (by omega) j (by omega);rw[show y.ls.length-1-j+j=y.ls.length-1 by omega]at this;exact this.symm
theorem Se {y:Yd}(ok:y.Ok)(b own:Qn)(l:Nat):∀i,i<=y.ls.length-1->V8 y b own i l+Wv y b own l (y.ls.length-1-i-l)=own l+Wv y b own l (y.ls.length-1-l)
 |0,_=>by simp[V8]
 |i+1,hi=>by
   have ih:=Se ok b own l i (by omega)
   have e:V8 y b own (i+1) l=V8 y b own i l+(if Zf y (y.ls.length-1-i)=some l then passes y b own (y.ls.length-1-i) else 0):=by
    show W4 y b (V8 y b own i) (y.ls.length-1-i) l=_;unfold W4 passes;have hj:y.ls.length-1-i<y.ls.length:=by have:=ok.l1;omega
    have rf:=Ey ok b own hj;rw[show y.ls.length-1-(y.ls.length-1-i)=i by omega]at rf;rw[rf]
   rw[e];by_cases hl:l<y.ls.length-1-i
   ·obtain⟨d,ed⟩:∃d,y.ls.length-1-i-l=d+1:=⟨y.ls.length-1-i-l-1,by omega⟩
    rw[ed]at ih;have e2:y.ls.length-1-(i+1)-l=d:=by omega
    rw[e2];have e3:l+1+d=y.ls.length-1-i:=by omega
    simp only[Wv,e3]at ih;omega
   ·have e1:y.ls.length-1-i-l=0:=by omega
    have e2:y.ls.length-1-(i+1)-l=0:=by omega
    rw[e1]at ih;rw[e2];have:¬Zf y (y.ls.length-1-i)=some l:=by
     intro z;have h0:0<y.ls.length-1-i:=by omega
     obtain⟨a,ea,la⟩:=ok.ups (y.ls.length-1-i) h0 (by omega);rw[ea]at z;injection z with z;omega
    rw[Xc this];simp only[Wv]at ih ⊢;omega
def FP {y:Yd}(ok:y.Ok)(b own:Qn)(l:Nat):VN y b own l=own l+Wv y b own l (y.ls.length-1-l):=by
 have h:=Se ok b own l (y.ls.length-1) (Xq _);rw[show y.ls.length-1-(y.ls.length-1)-l=0 by omega]at h;simp only[Wv]at h;unfold VN;omega
end Mir
namespace Mir
def Q3 (f:Qn):Qn
 |0=>0
 |n+1=>Q3 f n+f n
theorem Zn {f g:Qn}:∀{n:Nat},(∀k,k<n->f k=g k)->Q3 f n=Q3 g n
 |0,_=>rfl
 |n+1,h=>by
   simp only[Q3];rw[Zn (n:=n) fun k hk=>h k (by omega),h n (by omega)]
theorem YV {f g:Qn}:∀{n:Nat},(∀k,k<n->f k<=g k)->Q3 f n<=Q3 g n
 |0,_=>WT _
 |n+1,h=>by
   simp only[Q3];have:=YV (n:=n) fun k hk=>h k (by omega)
   have:=h n (by omega)
   omega
theorem Gi (f g:Qn):∀n,Q3 (fun k=>f k+g k) n=Q3 f n+Q3 g n
 |0=>rfl
 |n+1=>by simp only[Q3];rw[Gi f g n];omega
theorem B3 (c:Int)(f:Qn):∀n,Q3 (fun k=>c*f k) n=c*Q3 f n
 |0=>by simp[Q3]
 |n+1=>by simp only[Q3];rw[B3 c f n,Int.mul_add]
theorem VA:∀n,Q3 (fun _=>0) n=0
 |0=>rfl
 |n+1=>by simp only[Q3];rw[VA n];rfl
theorem Um {a:Nat}{v:Int}:∀{n:Nat},Q3 (fun l=>if l=a then v else 0) n=if a<n then v else 0
 |0=>by simp[Q3]
 |n+1=>by
   simp only[Q3];rw[Um (n:=n)]
   by_cases h:n=a
   ·subst h;simp
   ·by_cases h2:a<n
    ·simp[h,h2];omega
    ·have:¬a<n+1:=by omega
     simp[h,h2,this]
def NE {f:Qn}{n:Nat}(h:∀k,k<n->0<=f k):0<=Q3 f n:=by
 have:=YV (f:=fun _=>0) (g:=f) (n:=n) h
 rw[VA]at this;exact this
def BD (f:Qn)(n:Nat):((List.range n).map f).sum=Q3 f n:=by
 induction n with
 |zero=>rfl
 |succ n ih=>rw[X9,Xy,G1,ih];simp[Q3]
def wgt (gs:List Gs)(t:Int)(l k:Nat):Int:=match gs[k]? with|some g=>if g.line=l/\Wo g t=true then g.most else 0|none=>0
def LP (gs:List Gs)(t:Int)(l k:Nat):Vs gs t l [k]=wgt gs t l k:=by
 simp only[Vs,wgt];cases gs[k]? with
 |none=>rfl
 |some g=>simp
def Ex (gs:List Gs)(t:Int)(l:Nat)(p:Qm)(m:Nat):Vs gs t l ((List.range m).filter p)=Q3 (fun k=>if p k=true then wgt gs t l k else 0) m:=by
 induction m with
 |zero=>rfl
 |succ m ih =>
   rw[X9,U2,BL,ih];simp only[Q3];cases e:p m with
   |true=>simp only[U0,e,if_true,List.filter_nil,LP]
   |false=>simp only[U0,e,List.filter_nil,Vs,Wb,if_false]
theorem B9 (f:Nat->Qn)(n:Nat):∀m,Q3 (fun l=>Q3 (fun k=>f l k) m) n=Q3 (fun k=>Q3 (fun l=>f l k) n) m
 |0=>by simp only[Q3];exact VA n
 |m+1=>by
   simp only[Q3];rw[Gi,B9 f n m]
end Mir
namespace Mir
section
variable {y:Yd}{b b' own:Qn}{l0:Nat}
end
end Mir
section
namespace L2
open PySem PySem.Spec PyProof.Rows
structure Q0 (F H F' H':Hp):Prop where
 hh:Q4 H H'
 ff:Q4 F F'
 fh:Q4 F' H'
 fr:∀a,F' a≠none->F a≠none\/H a=none
def Q0.refl {F H:Hp}(s:Q4 F H):Q0 F H F H:=⟨Q4.refl _,Q4.refl _,s,fun _ h=>.inl h⟩
def Q0.trans {F H F1 H1 F2 H2:Hp}(a:Q0 F H F1 H1)(b:Q0 F1 H1 F2 H2):Q0 F H F2 H2 :=
 ⟨a.hh.trans b.hh,a.ff.trans b.ff,b.fh,fun p h=>by
  rcases b.fr p h with z|z
  ·exact a.fr p z
  ·exact .inr (a.hh.free z)⟩
def Zt {H:Hp}{a:Addr}{o:HO}(h:H a=some o):H a≠none:=by rw[h];exact fun z=>nomatch z
def Bn {H:Hp}{a:Addr}(h:H a≠none):∃o,H a=some o:=by
 cases e:H a with
 |none=>exact Xk e h
 |some o=>exact⟨o,rfl⟩
def FO {F H:Hp}{p:Addr}{o:HO}(s:Q4 F H):Q4 (upd F p o) (upd H p o):=fun b u e=>by
 by_cases h:b=p
 ·subst h;rw[QA]at e ⊢;exact e
 ·rw[Qr h]at e ⊢;exact s b u e
def Q0.new {F H:Hp}{p:Addr}{o:HO}(s:Q4 F H)(hp:H p=none):Q0 F H (upd F p o) (upd H p o) :=
 ⟨Q4.new hp,Q4.new (s.free hp),FO s,fun a h=>by
  by_cases e:a=p
  ·subst e;exact .inr hp
  ·rw[Qr e]at h;exact .inl h⟩
def Q0.own {F H:Hp}{p:Addr}{o:HO}(s:Q4 F H)(hp:H p=none):Q0 F H F (upd H p o) :=
 ⟨Q4.new hp,Q4.refl _,s.upd (s.free hp),fun _ h=>.inl h⟩
def Q0.freeze {F0 H0 F H:Hp}{a:Addr}{o:HO}(x:Q0 F0 H0 F H)(hf:F a=none)(ho:H a=some o)(h0:H0 a=none):Q0 F0 H0 (upd F a o) H :=
 ⟨x.hh,x.ff.trans (Q4.new hf),fun b u e=>by
  by_cases h:b=a
  ·subst h;rw[QA]at e;rw[ho];exact e
  ·rw[Qr h]at e;exact x.fh b u e,fun b h=>by
  by_cases e:b=a
  ·subst e;exact .inr h0
  ·rw[Qr e]at h;exact x.fr b h⟩
def Q0.free {F H F' H':Hp}{a:Addr}(x:Q0 F H F' H')(hf:F a=none)(hh:H a≠none):F' a=none:=by
 cases e:F' a with
 |none=>rfl
 |some o =>
   rcases x.fr a (Zt e) with z|z
   ·exact Xk hf z
   ·exact Xk z hh
structure OwnP where
 ok:W.Frag->Hp->Hp->V->Qg->Prop
 there:∀{K:W.Frag} {F H:Hp} {v:V} {p:Qg},ok K F H v p->∀a∈p,F a=none/\H a≠none
 mono:∀{K:W.Frag} {F F' H H':Hp} {v:V} {p:Qg},Q4 F F'->(∀a∈p,F' a=none)->(∀a∈p,H' a=H a)->ok K F H v p->ok K F' H' v p
 uniq:∀{K:W.Frag} {F H:Hp} {v:V} {p q:Qg},ok K F H v p->ok K F H v q->∀a∈q,a∈p
structure ZP where
 ok:W.Frag->Hp->V->Prop
 mono:∀{K:W.Frag} {F F':Hp} {v:V},Q4 F F'->ok K F v->ok K F' v
inductive OT where
 |zow (Ψ:ZP)
 |fz (d:PyData)
 |ol (ds:Qd)
 |oll (dss:List (Qd))
 |scr (ns:Ql)
 |own (v:V) (Φ:OwnP)
abbrev Q6:=List (Option OT)
def Vc (F H:Hp)(a:Addr)(ds:Qd):Prop:=F a=none/\∃xs,H a=some (.lst xs)/\Qv F xs ds
def Zs (F H:Hp):Qg->List (Qd)->Prop
 |[],[]=>True
 |a::as,ds::dss=>Vc F H a ds/\Zs F H as dss
 |_,_=>False
def Zm (K:W.Frag)(F H:Hp)(v:V):OT->Qg->Prop
 |.fz d,p=>p=[]/\Rep F v d
 |.ol ds,p=>∃a,v=.ref a/\p=[a]/\Vc F H a ds
 |.oll dss,p=>∃a as,v=.ref a/\p=a::as/\(a::as).Nodup/\F a=none/\H a=some (.lst (as.map V.ref))/\Zs F H as dss
 |.scr ns,p=>p=[]/\∃a,v=.ref a/\Scr K F a ns
 |.own v0 Φ,p=>v=v0/\Φ.ok K F H v p
 |.zow Ψ,p=>p=[]/\Ψ.ok K F v
def Q4.at_eq {H H':Hp}(s:Q4 H H'){a:Addr}(h:H a≠none):H' a=H a:=by
 cases e:H a with
 |none=>exact Xk e h
 |some o=>exact s _ _ e
def Vc.ext {F H F' H':Hp}{a:Addr}{ds:Qd}(h:Vc F H a ds)(x:Q0 F H F' H'):Vc F' H' a ds:=by
 obtain⟨h1,xs,h2,h3⟩:=h
 exact⟨x.free h1 (Zt h2),xs,x.hh _ _ h2,h3.mono x.ff⟩
theorem Zs.ext {F H F' H':Hp}(x:Q0 F H F' H'):∀{as:Qg} {dss:List (Qd)},Zs F H as dss->Zs F' H' as dss
 |[],[],_=>trivial
 |_::_,_::_,h=>⟨h.1.ext x,Zs.ext x h.2⟩
 |[],_::_,h=>False.elim h
 |_::_,[],h=>False.elim h
theorem Zs.mem {F H:Hp}:∀{as:Qg} {dss:List (Qd)},Zs F H as dss->∀a∈as,F a=none/\H a≠none
 |[],[],_,a,ha=>by cases ha
 |b::as,_::_,h,a,ha=>by
   rcases Xf.mp ha with rfl|ha
   ·obtain⟨h1,xs,h2,_⟩:=h.1
    exact⟨h1,Zt h2⟩
   ·exact Zs.mem h.2 a ha
 |[],_::_,h,_,_=>False.elim h
 |_::_,[],h,_,_=>False.elim h
def Zm.ext {K:W.Frag}{F H F' H':Hp}{v:V}{t:OT}{p:Qg}(h:Zm K F H v t p)(x:Q0 F H F' H'):Zm K F' H' v t p:=by
 cases t with
 |fz d=>exact⟨h.1,h.2.mono x.ff⟩
 |zow Ψ=>exact⟨h.1,Ψ.mono x.ff h.2⟩
 |ol ds=>obtain⟨a,h1,h2,h3⟩:=h;exact⟨a,h1,h2,h3.ext x⟩
 |oll dss=>obtain⟨a,as,h1,h2,h3,h4,h5,h6⟩:=h;exact⟨a,as,h1,h2,h3,x.free h4 (Zt h5),x.hh _ _ h5,h6.ext x⟩
 |scr ns=>obtain⟨h1,a,h2,h3⟩:=h;exact⟨h1,a,h2,h3.mono x.ff⟩
 |own v0 Φ=>exact⟨h.1,Φ.mono x.ff (fun a ha=>x.free (Φ.there h.2 a ha).1 (Φ.there h.2 a ha).2) (fun a ha=>x.hh.at_eq (Φ.there h.2 a ha).2) h.2⟩
def Zm.there {K:W.Frag}{F H:Hp}{v:V}{t:OT}{p:Qg}(h:Zm K F H v t p):∀a∈p,F a=none/\H a≠none:=by
 cases t with
 |fz d=>obtain⟨rfl,_⟩:=h;intro a ha;cases ha
 |zow Ψ=>obtain⟨rfl,_⟩:=h;intro a ha;cases ha
 |ol ds =>
   obtain⟨a,h1,rfl,h3,xs,h4,_⟩:=h;intro b hb;have e:b=a:=by simpa using hb
   subst e;exact⟨h3,Zt h4⟩
 |oll dss =>
   obtain⟨a,as,h1,rfl,h3,h4,h5,h6⟩:=h;intro b hb;rcases Xf.mp hb with rfl|hb
   ·exact⟨h4,Zt h5⟩
   ·exact h6.mem b hb
 |scr ns=>obtain⟨rfl,_⟩:=h;intro a ha;cases ha
 |own v0 Φ=>exact Φ.there h.2
def Vc.other {F H:Hp}{a b:Addr}{o:HO}{ds:Qd}(h:Vc F H a ds)(n:a≠b):Vc F (upd H b o) a ds:=by
 obtain⟨h1,xs,h2,h3⟩:=h
 exact⟨h1,xs,by rw[Qr n];exact h2,h3⟩
theorem Zs.other {F H:Hp}{b:Addr}{o:HO}:∀{as:Qg} {dss:List (Qd)},Zs F H as dss->b∉as->Zs F (upd H b o) as dss
 |[],[],_,_=>trivial
 |a::as,_::_,h,n=>⟨h.1.other (fun z=>n (by rw[z];exact Xa)),Zs.other h.2 fun z=>n (Xd _ z)⟩
 |[],_::_,h,_=>False.elim h
 |_::_,[],h,_=>False.elim h
def Zm.other {K:W.Frag}{F H:Hp}{v:V}{t:OT}{p:Qg}{b:Addr}{o:HO}(h:Zm K F H v t p)(n:b∉p):Zm K F (upd H b o) v t p:=by
 cases t with
 |fz d=>exact h
 |zow Ψ=>exact h
 |ol ds=>obtain⟨a,h1,rfl,h3⟩:=h;exact⟨a,h1,rfl,h3.other (fun z=>n (by simp[z]))⟩
 |oll dss =>
   obtain⟨a,as,h1,rfl,h3,h4,h5,h6⟩:=h
   exact⟨a,as,h1,rfl,h3,h4,by rw[Qr (fun z=>n (by simp[z]))];exact h5,h6.other fun z=>n (Xd _ z)⟩
 |scr ns=>exact h
 |own v0 Φ=>exact⟨h.1,Φ.mono (Q4.refl _) (fun a ha=>(Φ.there h.2 a ha).1) (fun a ha=>Qr fun z=>n (by rw[<- z];exact ha)) h.2⟩
def KTs (K:W.Frag) (F:Hp):Prop := ∃gS gE,W.nsIn K mainGlobals "START"=some (some (.ref gS))/\W.nsIn K mainGlobals "END"=some (some (.ref gE))/\F gS=some (.tup [.str "start"])/\F gE=some (.tup [.str "end"])
def KTs.mono {K:W.Frag}{F F':Hp}(h:KTs K F)(s:Q4 F F'):KTs K F':=by
 obtain⟨gS,gE,h1,h2,h3,h4⟩:=h
 exact⟨gS,gE,h1,h2,s _ _ h3,s _ _ h4⟩
structure QB (K:W.Frag)(H0 F:Hp)(ρ:Q6)(σ:St)(H:Hp):Prop where
 kt:KTs K F
 sub:Q4 F H
 len:σ.length=ρ.length
 fp:∃fp:Nat->Qg,(∀(i:Nat) (t:OT),ρ[i]?=some (some t)->∃v,σ[i]?=some (some v)/\Zm K F H v t (fp i)) /\
  (∀(i j:Nat) (a:Addr),a∈fp i->a∈fp j->i=j)/\∀(i:Nat) (a:Addr),a∈fp i->H0 a=none/\H a≠none
def QB.ext {K:W.Frag}{H0 F F' H H':Hp}{ρ:Q6}{σ:St}(s:QB K H0 F ρ σ H)(x:Q0 F H F' H'):QB K H0 F' ρ σ H':=by
 obtain⟨kt,h1,h2,fp,h3,h4,h5⟩:=s;refine⟨kt.mono x.ff,x.fh,h2,fp,fun i t e=>?_,h4,fun i a ha=>?_⟩
 ·obtain⟨v,e1,e2⟩:=h3 i t e
  exact⟨v,e1,e2.ext x⟩
 ·obtain⟨e1,e2⟩:=h5 i a ha
  obtain⟨o,e3⟩:=Bn e2
  exact⟨e1,Zt (x.hh _ _ e3)⟩
def Fgt:Q6->Q6->Prop
 |[],[]=>True
 |_::r,none::r'=>Fgt r r'
 |s::r,some x::r'=>s=some x/\Fgt r r'
 |_,_=>False
theorem Fgt.len:∀{ρ ρ':Q6},Fgt ρ ρ'->ρ.length=ρ'.length
 |[],[],_=>rfl
 |_::r,none::r',h=>by
   have h':Fgt r r':=h
   simp[Fgt.len h']
 |s::r,some x::r',h=>by
   have h':s=some x/\Fgt r r':=h
   simp[Fgt.len h'.2]
 |[],none::_,h=>False.elim h
 |[],some _::_,h=>False.elim h
 |_::_,[],h=>False.elim h
theorem Fgt.get:∀{ρ ρ':Q6},Fgt ρ ρ'->∀(i:Nat) (t:OT),ρ'[i]?=some (some t)->ρ[i]?=some (some t)
 |[],[],_,i,t,e=>by simp at e
 |_::r,none::r',h,0,t,e=>by simp at e
 |_::r,none::r',h,i+1,t,e=>by
   have h':Fgt r r':=h
   have:=Fgt.get h' i t (by simpa using e)
   simpa using this
 |s::r,some x::r',h,0,t,e=>by
   have h':s=some x/\Fgt r r':=h
   simp at e;subst e;simp[h'.1]
 |s::r,some x::r',h,i+1,t,e=>by
   have h':s=some x/\Fgt r r':=h
   have:=Fgt.get h'.2 i t (by simpa using e)
   simpa using this
 |[],none::_,h,_,_,_=>False.elim h
 |[],some _::_,h,_,_,_=>False.elim h
 |_::_,[],h,_,_,_=>False.elim h
def QB.fgt {K:W.Frag}{H0 F H:Hp}{ρ ρ':Q6}{σ:St}(s:QB K H0 F ρ σ H)(f:Fgt ρ ρ'):QB K H0 F ρ' σ H:=by
 obtain⟨kt,h1,h2,fp,h3,h4,h5⟩:=s
 exact⟨kt,h1,h2.trans f.len,fp,fun i t e=>h3 i t (f.get i t e),h4,h5⟩
def QB.set {K:W.Frag}{H0 F H:Hp}{ρ:Q6}{σ:St}{i:Nat}{v:V}{t:OT}{p:Qg}(s:QB K H0 F ρ σ H)(ok:Zm K F H v t p)
 (hp:∀(a:Addr),a∈p->H0 a=none)
 (hn:∀(a:Addr),a∈p->∀(j:Nat) (u:V) (t':OT) (q:Qg),ρ[j]?=some (some t')->σ[j]?=some (some u)->Zm K F H u t' q->a∉q) :
 QB K H0 F (ρ.set i (some t)) (σ.set i (some v)) H:=by
 obtain⟨kt,h1,h2,fp,h3,h4,h5⟩:=s;refine⟨kt,h1,by simp[h2],fun j=>if j=i then p else if (ρ[j]?).join.isSome then fp j else [],fun j t' e=>?_,fun j k a ha hb=>?_,fun j a ha=>?_⟩
 ·by_cases hj:j=i
  ·subst hj
   have hlt:j<ρ.length:=by
    have:=(Xh.mp e).1
    simpa using this
   rw[Xl hlt]at e;cases e;refine⟨v,Xl (by omega),?_⟩;dsimp only;rw[Xe rfl];exact ok
  ·rw[Xr (Ne.symm hj)]at e
   obtain⟨u,e1,e2⟩:=h3 j t' e;refine⟨u,by rw[Xr (Ne.symm hj)];exact e1,?_⟩;dsimp only;rw[Xc hj,e,Xe (by rfl)];exact e2
 ·have key:∀(j:Nat),j≠i->a∈(if j=i then p else if (ρ[j]?).join.isSome then fp j else [])->∃t' u,ρ[j]?=some (some t')/\σ[j]?=some (some u)/\Zm K F H u t' (fp j)/\a∈fp j:=fun j hj hm=>by
   rw[Xc hj]at hm;cases e:(ρ[j]?).join with
   |none=>rw[e]at hm;simp at hm
   |some t' =>
     rw[e]at hm;have e':ρ[j]?=some (some t'):=by
      cases z:ρ[j]? with
      |none=>rw[z]at e;simp at e
      |some w=>rw[z]at e;simp at e;rw[e]
     obtain⟨u,e1,e2⟩:=h3 j t' e'
     exact⟨t',u,e',e1,e2,by simpa using hm⟩
  by_cases hj:j=i
  ·by_cases hk:k=i
   ·omega
   ·obtain⟨t',u,e1,e2,e3,e4⟩:=key k hk hb
    have ha':a∈p:=by simpa [hj] using ha
    exact Xk e4 (hn a ha' k u t' _ e1 e2 e3)
  ·obtain⟨t',u,e1,e2,e3,e4⟩:=key j hj ha
   by_cases hk:k=i
   ·have hb':a∈p:=by simpa [hk] using hb
    exact Xk e4 (hn a hb' j u t' _ e1 e2 e3)
   ·obtain⟨t2,u2,f1,f2,f3,f4⟩:=key k hk hb
    exact h4 j k a e4 f4
 ·by_cases hj:j=i
  ·have ha':a∈p:=by simpa [hj] using ha
   exact⟨hp a ha',(ok.there a ha').2⟩
  ·simp only[Xc hj]at ha
   split at ha
   ·exact h5 j a ha
   ·cases ha
def QB.setF {K:W.Frag}{H0 F H:Hp}{ρ:Q6}{σ:St}{i:Nat}{v:V}{d:PyData}(s:QB K H0 F ρ σ H)(r:Rep F v d):QB K H0 F (ρ.set i (some (.fz d))) (σ.set i (some v)) H :=
 s.set (p:=[]) ⟨rfl,r⟩ (fun a ha=>nomatch ha) (hn:=fun a ha=>nomatch ha)
def QB.write {K:W.Frag}{H0 F H:Hp}{ρ:Q6}{σ:St}{i:Nat}{ds:Qd}(s:QB K H0 F ρ σ H)(e:ρ[i]?=some (some (.ol ds))) :
 ∃a xs,σ[i]?=some (some (.ref a))/\H a=some (.lst xs)/\Qv F xs ds/\H0 a=none/\F a=none/\∀xs' ds',Qv F xs' ds'->QB K H0 F (ρ.set i (some (.ol ds'))) σ (upd H a (.lst xs')):=by
 obtain⟨kt,h1,h2,fp,h3,h4,h5⟩:=s;obtain⟨v,e1,a,rfl,e2,e3,xs,e4,e5⟩:=h3 i _ e;have ha:a∈fp i:=by rw[e2];exact Xa
 refine⟨a,xs,e1,e4,e5,(h5 i a ha).1,e3,fun xs' ds' r=>?_⟩;have hlt:=(Xh.mp e).1;refine⟨kt,h1.upd e3,by simp[h2],fp,fun j t' e'=>?_,h4,fun j b hb=>?_⟩
 ·by_cases hj:j=i
  ·subst hj
   rw[Xl hlt]at e';cases e'
   exact⟨_,e1,a,rfl,e2,e3,xs',QA,r⟩
  ·rw[Xr (Ne.symm hj)]at e'
   obtain⟨u,f1,f2⟩:=h3 j t' e'
   exact⟨u,f1,f2.other fun z=>hj (h4 j i a z ha)⟩
 ·obtain⟨f1,f2⟩:=h5 j b hb
  refine⟨f1,?_⟩
  by_cases z:b=a
  ·subst z;rw[QA];exact fun q=>nomatch q
  ·rw[Qr z];exact f2
def QB.freeze {K:W.Frag}{H0 F H:Hp}{ρ:Q6}{σ:St}{i:Nat}{ds:Qd}(s:QB K H0 F ρ σ H)(e:ρ[i]?=some (some (.ol ds))) :
 ∃a xs,F a=none/\H a=some (.lst xs)/\H0 a=none/\σ[i]?=some (some (.ref a))/\Qv F xs ds/\QB K H0 (upd F a (.lst xs)) (ρ.set i (some (.fz (.list ds)))) σ H:=by
 obtain⟨kt,h1,h2,fp,h3,h4,h5⟩:=s;obtain⟨v,e1,a,rfl,e2,e3,xs,e4,e5⟩:=h3 i _ e;have ha:a∈fp i:=by rw[e2];exact Xa
 have hlt:=(Xh.mp e).1;have sm:Q4 F (upd F a (.lst xs)):=Q4.new e3;refine⟨a,xs,e3,e4,(h5 i a ha).1,e1,e5,kt.mono sm,?_,by simp[h2],fun j=>if j=i then [] else fp j,fun j t' e'=>?_,fun j k b hb hc=>?_,fun j b hb=>?_⟩
 ·intro b u hb
  by_cases z:b=a
  ·subst z;rw[QA]at hb;rw[e4];exact hb
  ·rw[Qr z]at hb;exact h1 b u hb
 ·by_cases hj:j=i
  ·subst hj
   rw[Xl hlt]at e';cases e';refine⟨_,e1,?_,.lst QA (e5.mono sm)⟩;dsimp only;rw[Xe rfl]
  ·rw[Xr (Ne.symm hj)]at e'
   obtain⟨u,f1,f2⟩:=h3 j t' e';refine⟨u,f1,?_⟩;dsimp only;rw[Xc hj];have na:a∉fp j:=fun z=>hj (h4 j i a z ha);have nb:∀b,F b=none->b≠a->upd F a (.lst xs) b=none:=fun b hb hn=>by rw[Qr hn];exact hb
   have go:∀{b:Addr} {es:Qd},b≠a->Vc F H b es->Vc (upd F a (.lst xs)) H b es:=fun{b es} hn ⟨z1,zs,z2,z3⟩=>⟨nb _ z1 hn,zs,z2,z3.mono sm⟩
   cases t' with
   |fz d=>exact⟨f2.1,f2.2.mono sm⟩
   |zow Ψ=>exact⟨f2.1,Ψ.mono sm f2.2⟩
   |ol es =>
     obtain⟨b,g1,g2,g3⟩:=f2
     exact⟨b,g1,g2,go (fun z=>na (by rw[g2,z];exact Xa)) g3⟩
   |oll dss =>
     obtain⟨b,bs,g1,g2,g3,g4,g5,g6⟩:=f2;refine⟨b,bs,g1,g2,g3,nb _ g4 (fun z=>na (by rw[g2,z];exact Xa)),g5,?_⟩;have nbs:a∉bs:=fun z=>na (by rw[g2];exact Xd _ z)
     clear g1 g2 g3 g5;have all:∀(bs:Qg) (dss:List (Qd)),a∉bs->Zs F H bs dss->Zs (upd F a (.lst xs)) H bs dss:=by
      intro bs;induction bs with
      |nil =>
        intro dss _ h;cases dss with
        |nil=>exact trivial
        |cons _ _=>exact False.elim h
      |cons c cs ih =>
        intro dss hn h;cases dss with
        |nil=>exact False.elim h
        |cons es ess=>exact⟨go (fun z=>hn (by rw[z];exact Xa)) h.1,ih ess (fun z=>hn (Xd _ z)) h.2⟩
     exact all bs dss nbs g6
   |scr ns =>
     obtain⟨g1,b,g2,g3⟩:=f2
     exact⟨g1,b,g2,g3.mono sm⟩
   |own v0 Φ=>exact⟨f2.1,Φ.mono sm (fun b hb=>nb b (Φ.there f2.2 b hb).1 fun z=>na (by rw[<- z];exact hb)) (fun _ _=>rfl) f2.2⟩
 ·by_cases hj:j=i
  ·simp[hj]at hb
  ·by_cases hk:k=i
   ·simp[hk]at hc
   ·simp only[Xc hj]at hb
    simp only[Xc hk]at hc;exact h4 j k b hb hc
 ·by_cases hj:j=i
  ·simp[hj]at hb
  ·simp only[Xc hj]at hb
   exact h5 j b hb
inductive Args (K:W.Frag)(F:Hp):List V->List OT->Prop
 |nil:Args K F [] []
 |fz {v:V} {d:PyData} {vs:List V} {ts:List OT}:Rep F v d->Args K F vs ts->Args K F (v::vs) (.fz d::ts)
 |zow {v:V} {Ψ:ZP} {vs:List V} {ts:List OT}:Ψ.ok K F v->Args K F vs ts->Args K F (v::vs) (.zow Ψ::ts)
 |scr {a:Addr} {ns:Ql} {vs:List V} {ts:List OT}:Scr K F a ns->Args K F vs ts->Args K F (.ref a::vs) (.scr ns::ts)
theorem Args.length {K:W.Frag}{F:Hp}:∀{vs:List V} {ts:List OT},Args K F vs ts->vs.length=ts.length
 |_,_,.nil=>rfl
 |_,_,.fz _ t=>by simp[Args.length t]
 |_,_,.scr _ t=>by simp[Args.length t]
 |_,_,.zow _ t=>by simp[Args.length t]
theorem Args.get {K:W.Frag}{F H:Hp}:∀{vs:List V} {ts:List OT},Args K F vs ts->∀(i:Nat) (t:OT),ts[i]?=some t->∃v,vs[i]?=some v/\Zm K F H v t []
 |_,_,.nil,i,t,e=>by simp at e
 |_,_,.fz r _,0,t,e=>by simp at e;subst e;exact⟨_,rfl,rfl,r⟩
 |_,_,.scr r _,0,t,e=>by simp at e;subst e;exact⟨_,rfl,rfl,_,rfl,r⟩
 |_,_,.zow r _,0,t,e=>by simp at e;subst e;exact⟨_,rfl,rfl,r⟩
 |_,_,.zow _ q,i+1,t,e=>by
   obtain⟨v,h1,h2⟩:=Args.get (H:=H) q i t (by simpa using e)
   exact⟨v,by simpa using h1,h2⟩
 |_,_,.fz _ q,i+1,t,e=>by
   obtain⟨v,h1,h2⟩:=Args.get (H:=H) q i t (by simpa using e)
   exact⟨v,by simpa using h1,h2⟩
 |_,_,.scr _ q,i+1,t,e=>by
   obtain⟨v,h1,h2⟩:=Args.get (H:=H) q i t (by simpa using e)
   exact⟨v,by simpa using h1,h2⟩
section
variable (K:W.Frag)
def Qt (t:TE)(ρ:Q6)(d:PyData):Prop := ∀(H0 F:Hp) (σ:St) (H:Hp) (Q:VK),QB K H0 F ρ σ H->(∀F' H' v,Q0 F H F' H'->Rep F' v d->Q v H')->t σ H Q
def EvO (t:TE)(ρ:Q6)(r:OT):Prop := ∀(H0 F:Hp) (σ:St) (H:Hp) (Q:VK),QB K H0 F ρ σ H->(∀F' H' v p,Q0 F H F' H'->(∀a∈p,H a=none)->Zm K F' H' v r p->Q v H')->t σ H Q
def Zh (t:TT)(ρ:Q6)(b:Bool):Prop := ∀(H0 F:Hp) (σ:St) (H:Hp) (Q:Bool->Hp->Prop),QB K H0 F ρ σ H->(∀F' H',Q0 F H F' H'->Q b H')->t σ H Q
def Zx (t:TA)(ρ:Q6)(ts:List OT):Prop := ∀(H0 F:Hp) (σ:St) (H:Hp) (Q:List V->Hp->Prop),QB K H0 F ρ σ H->(∀F' H' vs,Q0 F H F' H'->Args K F' vs ts->Q vs H')->t σ H Q
def KQ (F':Hp)(J:It)(ds:Qd):Prop := ∀(F'' H'':Hp),Q4 F' F''->Q4 F'' H''->J.stop ds.length H'' /\
 ∀(i:Nat) (d:PyData),ds[i]?=some d->J.go i H''/\∀x H3,J.yld i H'' x H3->∃F3,Q0 F'' H'' F3 H3/\Rep F3 x d
def EvI (wi:TI)(ρ:Q6)(ds:Qd):Prop := ∀(H0 F:Hp) (σ:St) (H:Hp) (R:It->Hp->Prop),QB K H0 F ρ σ H->(∀F' H' J,Q0 F H F' H'->KQ F' J ds->R J H')->wi σ H R
def GTo (g:TG)(d:PyData)(ρ ρ':Q6):Prop := ∀(H0 F:Hp) (σ:St) (H:Hp) (x:V) (Q:St->Hp->Prop),QB K H0 F ρ σ H->Rep F x d->(∀σ',QB K H0 F ρ' σ' H->Q σ' H)->g x σ H Q
def G9 (g:TGs)(ds:Qd)(ρ ρ':Q6):Prop := ∀(H0 F:Hp) (σ:St) (H:Hp) (xs:List V) (Q:St->Hp->Prop),QB K H0 F ρ σ H->Qv F xs ds->(∀σ',QB K H0 F ρ' σ' H->Q σ' H)->g xs σ H Q
structure PEnds where
 nx:Q6->Prop
 rt:OT->Prop
 bk:Q6->Prop:=fun _=>False
 ct:Q6->Prop:=fun _=>False
structure Cnv (F0 H0:Hp)(D:PEnds)(E:Ends):Prop where
 nx:∀F σ H ρ,Q0 F0 H0 F H->QB K H0 F ρ σ H->D.nx ρ->E.nx σ H
 rt:∀F H v r p,Q0 F0 H0 F H->(∀a∈p,H0 a=none)->Zm K F H v r p->D.rt r->E.rt v H
 bk:∀F σ H ρ,Q0 F0 H0 F H->QB K H0 F ρ σ H->D.bk ρ->E.bk σ H
 ct:∀F σ H ρ,Q0 F0 H0 F H->QB K H0 F ρ σ H->D.ct ρ->E.ct σ H
def Q1 (t:TS)(ρ:Q6)(D:PEnds):Prop := ∀(F0 H0 F:Hp) (σ:St) (H:Hp) (E:Ends),Q0 F0 H0 F H->QB K H0 F ρ σ H->Cnv K F0 H0 D E->t E σ H
end
section
variable {K:W.Frag}{ρ:Q6}{ta tb tc:TE}{tA tB':TT}
def Qt.o {t:TE}{d:PyData}(h:Qt K t ρ d):EvO K t ρ (.fz d):=fun H0 F σ H Q S q=>h H0 F σ H Q S fun F' H' v x r=>q F' H' v [] x (fun _ z=>nomatch z) ⟨rfl,r⟩
def EvO.e {t:TE}{d:PyData}(h:EvO K t ρ (.fz d)):Qt K t ρ d:=fun H0 F σ H Q S q=>h H0 F σ H Q S fun F' H' v p x _ r=>q F' H' v x r.2
def EvO.fz {t:TE}{ds:Qd}(h:EvO K t ρ (.ol ds)):Qt K t ρ (.list ds):=fun H0 F σ H Q S q=>h H0 F σ H Q S fun F' H' v p x hp r=>by
 obtain⟨a,rfl,rfl,r1,xs,r2,r3⟩:=r;refine q (upd F' a (.lst xs)) H' _ (x.freeze r1 r2 (hp a Xa)) (.lst QA (r3.mono (Q4.new r1)))
def Qu {i:Nat}{d:PyData}(e:ρ[i]?=some (some (.fz d))):Qt K (Q8 i) ρ d:=fun H0 F σ H Q S q=>by
 obtain⟨fp,h,_⟩:=S.fp;obtain⟨v,e1,e2⟩:=h i _ e
 exact⟨v,e1,q F H v (Q0.refl S.sub) e2.2⟩
def QC {i:Int}:Qt K (tC (.int i)) ρ (.int i):=fun H0 F σ H Q S q=>q F H _ (Q0.refl S.sub) (.int i)
def UM:Qt K (tC .non) ρ .none:=fun H0 F σ H Q S q=>q F H _ (Q0.refl S.sub) .non
def VT {x:Str}:Qt K (tC (.str x)) ρ (.str x):=fun H0 F σ H Q S q=>q F H _ (Q0.refl S.sub) (.str x)
def Y0 {a b:PyData}{Q:VK}{r:R2}{H0 F H:Hp}{σ:St}(ha:Qt K ta ρ a)(hb:Qt K tb ρ b)(S:QB K H0 F ρ σ H)
 (h:∀F' H' x y,Q0 F H F' H'->Rep F' x a->Rep F' y b->r x y H' Q):tOp r ta tb σ H Q :=
 ha H0 F σ H _ S fun F1 H1 x x1 r1=>hb H0 F1 σ H1 _ (S.ext x1) fun F2 H2 y x2 r2=>h F2 H2 x y (x1.trans x2) (r1.mono x2.ff) r2
def ZB {g:Int->Int->Int}{x y:Int}(ha:Qt K ta ρ (.int x))(hb:Qt K tb ρ (.int y)):Qt K (tOp (rI0 fun i j=>.int (g i j)) ta tb) ρ (.int (g x y)):=fun H0 F σ H Q S q =>
 Y0 ha hb S fun F' H' u v e r1 r2=>by cases r1;cases r2;exact⟨x,y,rfl,rfl,q F' H' _ e (.int _)⟩
def YJ {g:Int->Int->Bool}{x y:Int}(ha:Qt K ta ρ (.int x))(hb:Qt K tb ρ (.int y)):Qt K (tOp (rI0 fun i j=>.bl (g i j)) ta tb) ρ (.bool (g x y)):=fun H0 F σ H Q S q =>
 Y0 ha hb S fun F' H' u v e r1 r2=>by cases r1;cases r2;exact⟨x,y,rfl,rfl,q F' H' _ e (.bl _)⟩
def Ve {C:Int->Int->Prop}{g:Int->Int->Int}{x y:Int}(ha:Qt K ta ρ (.int x))(hb:Qt K tb ρ (.int y))(hc:C x y):Qt K (tOp (rI C fun i j=>.int (g i j)) ta tb) ρ (.int (g x y)):=fun H0 F σ H Q S q =>
 Y0 ha hb S fun F' H' u v e r1 r2=>by cases r1;cases r2;exact⟨x,y,rfl,rfl,hc,q F' H' _ e (.int _)⟩
def Pk {g:Int->Int}{x:Int}(ha:Qt K ta ρ (.int x)):Qt K (tUn (rU fun i=>.int (g i)) ta) ρ (.int (g x)):=fun H0 F σ H Q S q =>
 ha H0 F σ H _ S fun F1 H1 v x1 r1=>by cases r1;exact⟨x,rfl,q F1 H1 _ x1 (.int _)⟩
def Vh:PyData->Option V
 |.none=>some .non
 |.bool b=>some (.bl b)
 |.int i=>some (.int i)
 |.str x=>some (.str x)
 |_=>Option.none
def Rep.flat {H:Hp}{x v:V}{d:PyData}(r:Rep H x d)(e:Vh d=some v):x=v:=by
 cases r<;>simp[Vh]at e<;>exact e
def Te {a b:PyData}{v w:V}(ha:Qt K ta ρ a)(hb:Qt K tb ρ b)(e1:Vh a=some v)(e2:Vh b=some w)(hs:∀(H:Hp) (Q:VK),Q (.bl (decide (v=w))) H->rEq v w H Q) :
 Qt K (tOp rEq ta tb) ρ (.bool (decide (v=w))):=fun H0 F σ H Q S q =>
 Y0 ha hb S fun F' H' x y e r1 r2=>by rw[r1.flat e1,r2.flat e2];exact hs _ _ (q F' H' _ e (.bl _))
def To {a b:PyData}{v w:V}(ha:Qt K ta ρ a)(hb:Qt K tb ρ b)(e1:Vh a=some v)(e2:Vh b=some w)(hs:∀(H:Hp) (Q:VK),Q (.bl (!decide (v=w))) H->rNe v w H Q) :
 Qt K (tOp rNe ta tb) ρ (.bool (!decide (v=w))):=fun H0 F σ H Q S q =>
 Y0 ha hb S fun F' H' x y e r1 r2=>by rw[r1.flat e1,r2.flat e2];exact hs _ _ (q F' H' _ e (.bl _))
def Rl {x y:Int}:decide (V.int x=V.int y)=decide (x=y):=by
 by_cases h:x=y
 ·subst h;simp
 ·rw[XS h,XS (fun z=>h (by injection z))]
def GJ {x y:Int}(ha:Qt K ta ρ (.int x))(hb:Qt K tb ρ (.int y)):Qt K (tOp rEq ta tb) ρ (.bool (decide (x=y))):=by
 rw[<- Rl];exact Te ha hb rfl rfl fun H Q q=>⟨rfl,q⟩
def MB {x y:Int}(ha:Qt K ta ρ (.int x))(hb:Qt K tb ρ (.int y)):Qt K (tOp rNe ta tb) ρ (.bool (!decide (x=y))):=by
 rw[<- Rl];exact To ha hb rfl rfl fun H Q q=>⟨rfl,q⟩
def Wk {a b:PyData}(ha:Qt K ta ρ a)(hb:Qt K tb ρ b)(fa:Va a)(fb:Va b):Qt K (tOp HS ta tb) ρ (.bool (PyData.eqv a b)):=fun H0 F σ H Q S q =>
 Y0 ha hb S fun F' H' x y e r1 r2=>⟨a,b,r1.mono e.fh,r2.mono e.fh,fa,fb,q F' H' _ e (.bl _)⟩
def GM {a b:PyData}(ha:Qt K ta ρ a)(hb:Qt K tb ρ b)(fa:Va a)(fb:Va b):Qt K (tOp HW ta tb) ρ (.bool (!PyData.eqv a b)):=fun H0 F σ H Q S q =>
 Y0 ha hb S fun F' H' x y e r1 r2=>⟨a,b,r1.mono e.fh,r2.mono e.fh,fa,fb,q F' H' _ e (.bl _)⟩
def KD:PyData->Bool
 |.none=>true
 |_=>false
def Rep.isNon {H:Hp}{x:V}{d:PyData}(r:Rep H x d):decide (x=.non)=KD d:=by cases r<;>rfl
def KA {a:PyData}(ha:Qt K ta ρ a):Qt K (K5 ta) ρ (.bool (!KD a)):=fun H0 F σ H Q S q =>
 ha H0 F σ H _ S fun F1 H1 v x1 r1=>by rw[r1.isNon];exact q F1 H1 _ x1 (.bl _)
def ZQ {b:Bool}(h:Qt K ta ρ (.bool b)):Zh K (GF ta) ρ b:=fun H0 F σ H Q S q=>h H0 F σ H _ S fun F1 H1 v x1 r1=>by cases r1;exact⟨b,rfl,q F1 H1 x1⟩
def Vf {b:Bool}(h:Qt K ta ρ (.bool b)):Zh K (tB ta) ρ b:=fun H0 F σ H Q S q=>h H0 F σ H _ S fun F1 H1 v x1 r1=>by cases r1;exact⟨b,rfl,q F1 H1 x1⟩
def Kl:Zh K Wc ρ true:=fun H0 F σ H Q S q=>q F H (Q0.refl S.sub)
def GN {b c:Bool}(h1:Zh K tA ρ b)(h2:b=true->Zh K tB' ρ c):Zh K (Kd tA tB') ρ (b&&c):=fun H0 F σ H Q S q=>h1 H0 F σ H _ S fun F1 H1 x1=>by
 cases b with
 |true=>rw[Xe rfl];exact h2 rfl H0 F1 σ H1 Q (S.ext x1) fun F2 H2 x2=>by simpa using q F2 H2 (x1.trans x2)
 |false=>rw[Xc Xw];simpa using q F1 H1 x1
def Ja {b c:Bool}(h1:Zh K tA ρ b)(h2:b=false->Zh K tB' ρ c):Zh K (tOr tA tB') ρ (b||c):=fun H0 F σ H Q S q=>h1 H0 F σ H _ S fun F1 H1 x1=>by
 cases b with
 |false=>rw[Xc Xw];exact h2 rfl H0 F1 σ H1 Q (S.ext x1) fun F2 H2 x2=>by simpa using q F2 H2 (x1.trans x2)
 |true=>rw[Xe rfl];simpa using q F1 H1 x1
def Yp {b:Bool}(h1:Zh K tA ρ b):Zh K (Mn tA) ρ (!b):=fun H0 F σ H Q S q=>h1 H0 F σ H _ S fun F1 H1 x1=>q F1 H1 x1
def Jj {b c:Bool}(h1:Qt K ta ρ (.bool b))(h2:b=true->Qt K tb ρ (.bool c)):Qt K (Ki ta tb) ρ (.bool (b&&c)):=fun H0 F σ H Q S q=>h1 H0 F σ H _ S fun F1 H1 v x1 r1=>by
 cases r1
 refine⟨b,rfl,?_⟩
 cases b with
 |true=>rw[Xe rfl];exact h2 rfl H0 F1 σ H1 Q (S.ext x1) fun F2 H2 v x2 r2=>by simpa using q F2 H2 v (x1.trans x2) (by simpa using r2)
 |false=>rw[Xc Xw];exact q F1 H1 _ x1 (.bl _)
def K8 {b:Bool}(h1:Qt K ta ρ (.bool b)):Qt K (Ku ta) ρ (.bool (!b)):=fun H0 F σ H Q S q=>h1 H0 F σ H _ S fun F1 H1 v x1 r1=>by cases r1;exact⟨b,rfl,q F1 H1 _ x1 (.bl _)⟩
def De {g g':Int->Int->Bool}{x y z:Int}(ha:Qt K ta ρ (.int x))(hb:Qt K tb ρ (.int y))(hc:Qt K tc ρ (.int z)) :
 Qt K (MJ (rI0 fun i j=>.bl (g i j)) (rI0 fun i j=>.bl (g' i j)) ta tb tc) ρ (.bool (g x y&&g' y z)):=fun H0 F σ H Q S q =>
 ha H0 F σ H _ S fun F1 H1 v x1 r1=>hb H0 F1 σ H1 _ (S.ext x1) fun F2 H2 w x2 r2=>by
  cases r1;cases r2
  refine⟨x,y,rfl,rfl,g x y,rfl,?_⟩
  cases e:g x y with
  |true=>rw[Xe rfl];exact hc H0 F2 σ H2 _ (S.ext (x1.trans x2)) fun F3 H3 u x3 r3=>by cases r3;exact⟨y,z,rfl,rfl,by simpa [e] using q F3 H3 _ ((x1.trans x2).trans x3) (by rw[e];exact .bl _)⟩
  |false=>rw[Xc Xw];simpa [e] using q F2 H2 _ (x1.trans x2) (by rw[e];exact .bl _)
def Q9:Zx K QO ρ []:=fun H0 F σ H Q S q=>q F H [] (Q0.refl S.sub) .nil
def Qw {t:TA}{d:PyData}{ts:List OT}(h1:Qt K ta ρ d)(h2:Zx K t ρ ts):Zx K (QF ta t) ρ (.fz d::ts):=fun H0 F σ H Q S q =>
 h1 H0 F σ H _ S fun F1 H1 v x1 r1=>h2 H0 F1 σ H1 _ (S.ext x1) fun F2 H2 vs x2 r2=>q F2 H2 _ (x1.trans x2) (.fz (r1.mono x2.ff) r2)
def GK {t:TA}{i:Nat}{ns:Ql}{ts:List OT}(e:ρ[i]?=some (some (.scr ns)))(h2:Zx K t ρ ts):Zx K (QF (Q8 i) t) ρ (.scr ns::ts):=fun H0 F σ H Q S q=>by
 obtain⟨fp,h,_⟩:=S.fp;obtain⟨v,e1,_,a,rfl,e3⟩:=h i _ e
 exact⟨_,e1,h2 H0 F σ H _ S fun F2 H2 vs x2 r2=>q F2 H2 _ x2 (.scr (e3.mono x2.ff) r2)⟩
def Uk {t:TA}{i:Nat}{Ψ:ZP}{ts:List OT}(e:ρ[i]?=some (some (.zow Ψ)))(h2:Zx K t ρ ts):Zx K (QF (Q8 i) t) ρ (.zow Ψ::ts):=fun H0 F σ H Q S q=>by
 obtain⟨fp,h,_⟩:=S.fp;obtain⟨v,e1,_,e3⟩:=h i _ e
 exact⟨_,e1,h2 H0 F σ H _ S fun F2 H2 vs x2 r2=>q F2 H2 _ x2 (.zow (Ψ.mono x2.ff e3) r2)⟩
def fzs (ds:Qd):List OT:=ds.map OT.fz
theorem Args.reps {F:Hp}:∀{vs:List V} {ds:Qd},Args K F vs (fzs ds)->Qv F vs ds
 |_,[],.nil=>.nil
 |_,_::_,.fz r t=>.cons r (Args.reps t)
def YH {t:TA}{ds:Qd}(h:Zx K t ρ (fzs ds))(hl:ds.length<=1000):Qt K (JS t) ρ (.tuple ds):=fun H0 F σ H Q S q =>
 h H0 F σ H _ S fun F1 H1 vs x1 r1=>⟨by rw[r1.reps.length];exact Yt (ZH hl),fun p hp=>by
  have s1:=x1.fh;exact q _ _ _ (x1.trans (Q0.new s1 hp)) (.tup QA (r1.reps.mono (Q4.new (s1.free hp))))⟩
def Bh {F0 H0 F H:Hp}{p:Addr}{xs:List V}{ds:Qd}(x:Q0 F0 H0 F H)(hp:H p=none)(r:Qv F xs ds):Q0 F0 H0 F (upd H p (.lst xs))/\(∀a∈[p],H0 a=none)/\Zm K F (upd H p (.lst xs)) (.ref p) (.ol ds) [p] :=
 ⟨x.trans (Q0.own x.fh hp),fun a ha=>by
  have e:a=p:=by simpa using ha
  subst e;exact x.hh.free hp,p,rfl,rfl,x.fh.free hp,xs,QA,r⟩
def V0 {t:TA}{ds:Qd}(h:Zx K t ρ (fzs ds))(hl:ds.length<=1000):EvO K (WW t) ρ (.ol ds):=fun H0 F σ H Q S q =>
 h H0 F σ H _ S fun F1 H1 vs x1 r1=>⟨by rw[r1.reps.length];exact Yt (ZH hl),fun p hp=>by
  obtain⟨a,b,c⟩:=Bh (K:=K) x1 hp r1.reps;exact q _ _ _ _ a b c⟩
def Jx {F H:Hp}{x:V}{ds:Qd}(r:Rep F x (.list ds))(s:Q4 F H):∃a xs,x=.ref a/\SqL K H a xs/\Qv F xs ds/\H a=some (.lst xs):=by
 cases r with
 |lst ha rr=>exact⟨_,_,rfl,SqL.of (s _ _ ha),rr,s _ _ ha⟩
def Bv {F H:Hp}{x:V}{ds:Qd}(r:Rep F x (.tuple ds))(s:Q4 F H):∃a xs,x=.ref a/\SqT K H a xs/\Qv F xs ds/\H a=some (.tup xs):=by
 cases r with
 |tup ha rr=>exact⟨_,_,rfl,SqT.of (s _ _ ha),rr,s _ _ ha⟩
def Ut {F:Hp}{xs:List V}{ds:Qd}{i:Int}{d:PyData}(r:Qv F xs ds)(e:atI ds i=some d):∃z,atI xs i=some z/\Rep F z d:=by
 obtain⟨j,e1,e2⟩:=Ng e;obtain⟨z,z1,z2⟩:=r.get e1;refine⟨z,?_,z2⟩;unfold atI;rw[r.length,e2];exact z1
def VO {ds:Qd}{i:Int}{d:PyData}(ha:Qt K ta ρ (.list ds))(hb:Qt K tb ρ (.int i))(e:atI ds i=some d):Qt K (tOp (rIx K) ta tb) ρ d:=fun H0 F σ H Q S q =>
 Y0 ha hb S fun F' H' x y x1 r1 r2=>by
  obtain⟨a,xs,rfl,h1,h2,_⟩:=Jx (K:=K) r1 x1.fh;obtain⟨z,z1,z2⟩:=Ut h2 e
  cases r2
  exact .inl ⟨a,xs,i,z,rfl,rfl,h1,z1,q F' H' z x1 z2⟩
def Wh {ds:Qd}{i:Int}{d:PyData}(ha:Qt K ta ρ (.tuple ds))(hb:Qt K tb ρ (.int i))(e:atI ds i=some d):Qt K (tOp (rIx K) ta tb) ρ d:=fun H0 F σ H Q S q =>
 Y0 ha hb S fun F' H' x y x1 r1 r2=>by
  obtain⟨a,xs,rfl,h1,h2,_⟩:=Bv (K:=K) r1 x1.fh;obtain⟨z,z1,z2⟩:=Ut h2 e
  cases r2
  exact .inr (.inl ⟨a,xs,i,z,rfl,rfl,h1,z1,q F' H' z x1 z2⟩)
def Pm {i:Nat}{ds:Qd}{k:Int}{d:PyData}(e0:ρ[i]?=some (some (.ol ds)))(hb:Qt K tb ρ (.int k))(e:atI ds k=some d):Qt K (tOp (rIx K) (Q8 i) tb) ρ d:=fun H0 F σ H Q S q=>by
 obtain⟨fp,h,_⟩:=S.fp;obtain⟨v,e1,a,rfl,_,o1⟩:=h i _ e0;refine⟨_,e1,hb H0 F σ H _ S fun F1 H1 y x1 r1=>?_⟩;obtain⟨f1,xs,f2,f3⟩:=o1.ext x1;obtain⟨z,z1,z2⟩:=Ut f3 e
 cases r1
 exact .inl ⟨a,xs,k,z,rfl,rfl,SqL.of f2,z1,q F1 H1 z x1 z2⟩
def Pl {i:Nat}{ns:Ql}{k n:Int}(e0:ρ[i]?=some (some (.scr ns)))(hb:Qt K tb ρ (.int k))(e:atI ns k=some n):Qt K (tOp (rIx K) (Q8 i) tb) ρ (.int n):=fun H0 F σ H Q S q=>by
 obtain⟨fp,h,_⟩:=S.fp;obtain⟨v,e1,_,a,rfl,sc⟩:=h i _ e0;refine⟨_,e1,hb H0 F σ H _ S fun F1 H1 y x1 r1=>?_⟩
 cases r1
 obtain⟨j,j1,j2⟩:=Ng e
 have z1:atI (ns.map V.int) k=some (.int n):=by
  unfold atI;rw[Xn,j2];show(ns.map V.int)[j]?=_;rw[Xt,j1];rfl
 exact .inl ⟨a,_,k,_,rfl,rfl,(x1.ff.trans x1.fh).seq sc.sq,z1,q F1 H1 _ x1 (.int n)⟩
def QN (R:List OT->OT->Prop):Sp:=fun vs H Q _=>∃F ts r,KTs K F/\Q4 F H/\Args K F vs ts/\R ts r/\∀F' H' v p,Q0 F H F' H'->(∀a∈p,H a=none)->Zm K F' H' v r p->Q v H'
def GX {R:List OT->OT->Prop}{t:TA}{E:XK}{ts:List OT}{r:OT}(h:Zx K t ρ ts)(hR:R ts r):EvO K (VF (QN (K:=K) R) [] E t) ρ r:=fun H0 F σ H Q S q =>
 h H0 F σ H _ S fun F1 H1 vs x1 r1=>by
  refine⟨F1,ts,r,(S.ext x1).kt,x1.fh,by rw[XH];exact r1,hR,fun F2 H2 v p x2 hp ok=>q F2 H2 v p (x1.trans x2) (fun a ha=>x1.hh.free (hp a ha)) ok⟩
def Ze {R:List OT->OT->Prop}{t:TA}{E:XK}{ts:List OT}{d:PyData}(h:Zx K t ρ ts)(hR:R ts (.fz d)):Qt K (VF (QN (K:=K) R) [] E t) ρ d:=(GX h hR).e
def Pt {R:List OT->OT->Prop}{t:TA}{E:XK}{ts:List OT}{ds:Qd}(h:Zx K t ρ ts)(hR:R ts (.ol ds)):Qt K (VF (QN (K:=K) R) [] E t) ρ (.list ds):=(GX h hR).fz
end
def Df.ev {P:Program}{w:World}{K:W.Frag}{mg:Str->Qf}{base:Heap}{x:Str}{st:Stmt}{N ps:Qh}{k:Nat}{R:List OT->OT->Prop}(D:Df K mg x st ps)(S:Qp N ps (Qx st))(len:∀ts r,R ts r->ts.length=ps.length)
 (XaS:∀(f:Addr) (cdv:Value) (A:Around) (outer:List Env) (s:Shared) (H:Hp) (E:XK) (ts:List OT) (r:OT),Room k (A.deeper (envOfC x (Qx st) s.heap.objs.size f cdv))->R ts r ->
  ∃t,PSs (Vb CX0 P w K mg base N x (Qx st) f cdv A outer s H E).nox (Zg st) t/\Q1 K t (ts.map some++List.replicate (N.length-ts.length) none) { nx:=fun _=>r=.fz .none,rt:=fun r'=>r'=r }):QD P w K mg base x ps (k+1) (QN (K:=K) R):=by
 refine D.cal S (fun vs H Q E ⟨F,ts,r,_,_,ha,hR,_⟩=>ha.length.trans (len ts r hR)) fun f cdv A outer s H vs Q E hr ⟨F,ts,r,kt,sm,ha,hR,q⟩=>?_;obtain⟨t,h1,h2⟩:=XaS f cdv A outer s H E ts r hr hR;refine⟨t,h1,h2 F H F (start N vs) H _ (Q0.refl sm) ⟨kt,sm,?_,fun _=>[],fun i t' e=>?_,fun i j a h=>(nomatch h),fun i a h=>(nomatch h)⟩ ⟨fun F' σ' H' ρ' x' _ e=>?_,fun F' H' v r' p x' hp ok e=>?_,fun _ _ _ _ _ _ z=>False.elim z,fun _ _ _ _ _ _ z=>False.elim z⟩⟩
 ·unfold start
  simp[ha.length]
 ·have hlt:i<ts.length:=by
   by_cases z:i<ts.length
   ·exact z
   ·rw[XY (by simpa using z)]at e
    have:=List.mem_of_getElem? e
    simp at this
  rw[XM (by simpa using hlt),Xt]at e;have e':ts[i]?=some t':=by
   cases z:ts[i]? with
   |none=>rw[z]at e;simp at e
   |some w=>rw[z]at e;simp at e;rw[e]
  obtain⟨v,e1,e2⟩:=ha.get (H:=H) i t' e';refine⟨v,?_,e2⟩;unfold start;have hl2:i<vs.length:=by rw[ha.length];exact hlt
  rw[XM (by simpa using hl2),Xt,e1];rfl
 ·subst e
  exact q F' H' _ [] x' (fun _ z=>nomatch z) ⟨rfl,.non⟩
 ·subst e
  exact q F' H' v p x' hp ok
theorem S5:∀{as bs:Qg},as.map V.ref=bs.map V.ref->as=bs
 |[],[],_=>rfl
 |[],_::_,h=>by simp at h
 |_::_,[],h=>by simp at h
 |a::as,b::bs,h=>by
   simp only[Xv,List.cons.injEq]at h;obtain⟨h1,h2⟩:=h;injection h1 with h1;rw[h1,S5 h2]
section
variable {K:W.Frag}{ρ:Q6}{ta tb tc te:TE}{tA:TT}{t u:TS}{D:PEnds}
def ZD (h:D.nx ρ):Q1 K M4 ρ D:=fun F0 H0 F σ H E x S C=>C.nx F σ H ρ x S h
def QH (h:Q1 K t ρ { D with nx:=fun ρ'=>Q1 K u ρ' D }):Q1 K (YD t u) ρ D:=fun F0 H0 F σ H E x S C =>
 h F0 H0 F σ H { E with nx:=u E } x S ⟨fun F' σ' H' ρ' x' S' q=>q F0 H0 F' σ' H' E x' S' C,C.rt,C.bk,C.ct⟩
def MF {ρ':Q6}(f:Fgt ρ ρ')(h:Q1 K t ρ' D):Q1 K t ρ D:=fun F0 H0 F σ H E x S C=>h F0 H0 F σ H E x (S.fgt f) C
def Je (i:Nat){ds:Qd}(e:ρ[i]?=some (some (.ol ds)))(h:Q1 K t (ρ.set i (some (.fz (.list ds)))) D):Q1 K t ρ D:=fun F0 H0 F σ H E x S C=>by
 obtain⟨a,xs,e1,e2,e3,_,_,S'⟩:=S.freeze e;exact h F0 H0 _ σ H E (x.freeze e1 e2 e3) S' C
def W6 {r:OT}(h:EvO K te ρ r)(hr:D.rt r):Q1 K (Yl te) ρ D:=fun F0 H0 F σ H E x S C =>
 h H0 F σ H _ S fun F' H' v p x' hp ok=>C.rt F' H' v r p (x.trans x') (fun a ha=>x.hh.free (hp a ha)) ok hr
def Vj {d:PyData}(h:Qt K te ρ d)(hr:D.rt (.fz d)):Q1 K (Yl te) ρ D:=W6 h.o hr
def MT {i:Nat}{ds:Qd}(e:ρ[i]?=some (some (.ol ds)))(hr:D.rt (.ol ds)):Q1 K (Yl (Q8 i)) ρ D:=fun F0 H0 F σ H E x S C=>by
 obtain⟨fp,h,_,h5⟩:=S.fp;obtain⟨v,e1,ok⟩:=h i _ e
 exact⟨v,e1,C.rt F H v _ _ x (fun a ha=>(h5 i a ha).1) ok hr⟩
def Z7 {b:Bool}(h:Zh K tA ρ b)(h1:b=true->Q1 K t ρ D)(h2:b=false->Q1 K u ρ D):Q1 K (JT tA t u) ρ D:=fun F0 H0 F σ H E x S C =>
 h H0 F σ H _ S fun F' H' x'=>by
  cases b with
  |true=>rw[Xe rfl];exact h1 rfl F0 H0 F' σ H' E (x.trans x') (S.ext x') C
  |false=>rw[Xc Xw];exact h2 rfl F0 H0 F' σ H' E (x.trans x') (S.ext x') C
def Yf {i:Nat}{r:OT}(h:EvO K te ρ r)(hn:D.nx (ρ.set i (some r))):Q1 K (ZX te (ZG i)) ρ D:=fun F0 H0 F σ H E x S C =>
 h H0 F σ H _ S fun F' H' v p x' hp ok=>by
  refine C.nx F' _ H' _ (x.trans x') ((S.ext x').set ok (fun a ha=>x.hh.free (hp a ha)) (hn:=fun a ha j w t' q e1 e2 ok'=>?_)) hn;obtain⟨fp,g1,g2,g3⟩:=S.fp;obtain⟨w',f1,f2⟩:=g1 j t' e1;intro hq;have f3:=f2.ext x';rw[e2]at f1;cases f1
  have same:∀b∈q,b∈fp j:=by
   cases t' with
   |fz d=>rw[ok'.1];intro b hb;cases hb
   |zow Ψ=>rw[ok'.1];intro b hb;cases hb
   |ol ds =>
     obtain⟨b1,z1,z2,z3⟩:=ok';obtain⟨b2,y1,y2,y3⟩:=f3;rw[z1]at y1;cases y1;rw[z2,y2];exact fun _ z=>z
   |oll dss =>
     obtain⟨b1,bs1,z1,z2,z3,z4,z5,z6⟩:=ok';obtain⟨b2,bs2,y1,y2,y3,y4,y5,y6⟩:=f3;rw[z1]at y1;cases y1;rw[z5]at y5;have e5:bs1.map V.ref=bs2.map V.ref:=by injection y5 with z;injection z
     have e6:bs1=bs2:=S5 e5;rw[z2,y2,e6];exact fun _ z=>z
   |scr ns=>rw[ok'.1];intro b hb;cases hb
   |own v0 Φ=>exact fun b hb=>Φ.uniq f3.2 ok'.2 b hb
  exact(g3 j a (same a hq)).2 (hp a ha)
def ZV {i:Nat}{d:PyData}(h:Qt K te ρ d)(hn:D.nx (ρ.set i (some (.fz d)))):Q1 K (ZX te (ZG i)) ρ D:=Yf h.o hn
def Z8 {i:Nat}{d:PyData}:GTo K (ZG i) d ρ (ρ.set i (some (.fz d))):=fun H0 F σ H x Q S r q=>q _ (S.setF r)
def Ud:G9 K Mh [] ρ ρ:=fun H0 F σ H xs Q S r q=>by cases r;exact⟨rfl,q _ S⟩
def Y2 {g:TG}{gs:TGs}{d:PyData}{ds:Qd}{ρ1 ρ2:Q6}(h1:GTo K g d ρ ρ1)(h2:G9 K gs ds ρ1 ρ2):G9 K (Mu g gs) (d::ds) ρ ρ2:=fun H0 F σ H xs Q S r q=>by
 cases r with
 |cons r1 r2=>exact⟨_,_,rfl,h1 H0 F σ H _ _ S r1 fun σ1 S1=>h2 H0 F σ1 H _ _ S1 r2 q⟩
def WZ {n:Nat}{gs:TGs}{ds:Qd}{ρ1:Q6}(h:G9 K gs ds ρ ρ1)(hn:ds.length=n):GTo K (Mr K n gs) (.tuple ds) ρ ρ1:=fun H0 F σ H x Q S r q=>by
 obtain⟨a,xs,rfl,h1,h2,_⟩:=Bv (K:=K) r S.sub
 exact⟨a,xs,rfl,h1,by rw[h2.length,hn],h H0 F σ H xs Q S h2 q⟩
def Q0.wr {F0 H0 F H:Hp}{a:Addr}{o:HO}(x:Q0 F0 H0 F H)(h0:H0 a=none)(hf:F a=none):Q0 F0 H0 F (upd H a o) :=
 ⟨x.hh.upd h0,x.ff,x.fh.upd hf,x.fr⟩
def Js {i:Nat}{ds:Qd}{d:PyData}(e:ρ[i]?=some (some (.ol ds)))(h:Qt K te ρ d)(hl:ds.length<1000)(hn:D.nx (ρ.set i (some (.ol (ds++[d]))))) :
 Q1 K (Vi (tBM K "list" V2 (Q8 i) (QF te QO))) ρ D:=fun F0 H0 F σ H E x S C=>by
 obtain⟨a,xs,e1,e2,e3,_⟩:=S.write e;refine⟨_,e1,.inl ⟨rfl,_,SqL.of e2⟩,h H0 F σ H _ S fun F1 H1 v x1 r1=>?_⟩;obtain⟨a',xs',f1,f2,f3,f4,f5,f6⟩:=(S.ext x1).write e;rw[e1]at f1;cases f1;refine⟨a,xs',v,rfl,rfl,f2,by rw[f3.length];exact ZH (by omega),?_⟩;exact C.nx F1 σ _ _ ((x.trans x1).wr f4 f5) (f6 _ _ (f3.snoc r1)) hn
def NP {f:Int->Int->Int}{i:Nat}{ds:Qd}{k m n:Int}(e:ρ[i]?=some (some (.ol ds)))(hi:Qt K tb ρ (.int k))(h0:0<=k)(hm:ds[k.toNat]?=some (.int m))(h:Qt K te ρ (.int n))
 (hn:D.nx (ρ.set i (some (.ol (ds.set k.toNat (.int (f m n))))))):Q1 K (GE (Q8 i) tb te (GG K) (ipI f) UK) ρ D:=fun F0 H0 F σ H E x S C=>by
 obtain⟨a,xs,e1,e2,e3,_⟩:=S.write e;refine⟨_,e1,hi H0 F σ H _ S fun F1 H1 y x1 r1=>?_⟩
 cases r1
 obtain⟨a1,xs1,f1,f2,f3,_⟩:=(S.ext x1).write e;rw[e1]at f1;cases f1;obtain⟨z,z1,z2⟩:=f3.get hm;refine⟨a,xs1,k,z,rfl,rfl,SqL.of f2,h0,z1,h H0 F1 σ H1 _ (S.ext x1) fun F2 H2 w x2 r2=>?_⟩
 cases r2
 cases z2
 refine⟨m,n,rfl,rfl,?_⟩;obtain⟨a2,xs2,g1,g2,g3,g4,g5,g6⟩:=(S.ext (x1.trans x2)).write e;rw[e1]at g1;cases g1;have hlt:k.toNat<ds.length:=(Xh.mp hm).1;refine⟨a,xs2,k,k.toNat,rfl,rfl,g2,?_,?_⟩
 ·rw[g3.length]
  unfold ixN;rw[Xe h0,Xe (by omega)]
 ·exact C.nx F2 σ _ _ ((x.trans (x1.trans x2)).wr g4 g5) (g6 _ _ (g3.set (.int _) _)) hn
def Q0.base {F0 H0 F H:Hp}(x:Q0 F0 H0 F H):Q0 F H0 F H:=⟨x.hh,Q4.refl _,x.fh,fun _ h=>.inl h⟩
def Q0.rebase {F0 H0 F H F' H':Hp}(x:Q0 F0 H0 F H)(y:Q0 F H0 F' H'):Q0 F0 H0 F' H' :=
 ⟨y.hh,x.ff.trans y.ff,y.fh,fun a h=>(y.fr a h).elim (fun z=>x.fr a z) .inr⟩
def VV {wi:TI}{g:TG}{tbd:TS}{ds:Qd}(P:Nat->Q6->Prop)(hi:EvI K wi ρ ds)(h0:P 0 ρ)
 (hs:∀(i:Nat) (d:PyData) (ρ':Q6),ds[i]?=some d->P i ρ'->∃ρ2,GTo K g d ρ' ρ2/\Q1 K tbd ρ2 { nx:=P (i+1),ct:=P (i+1),bk:=D.nx,rt:=D.rt }) (hd:∀ρ',P ds.length ρ'->D.nx ρ'):Q1 K (WY wi g tbd) ρ D:=fun F0 H0 F σ H E x S C =>
 hi H0 F σ H _ S fun F1 H1 J x1 W=>by
  refine⟨fun i m σ H=>m=ds.length-i/\i<=ds.length/\∃F ρ',Q0 F0 H0 F H/\Q4 F1 F/\QB K H0 F ρ' σ H/\P i ρ',⟨ds.length,by simp,XF _,F1,ρ,x.trans x1,Q4.refl _,S.ext x1,h0⟩,?_⟩
  rintro i m σ' H' ⟨rfl,hle,F',ρ',x',s',S',p⟩
  obtain⟨w1,w2⟩:=W F' H' s' S'.sub
  by_cases hlt:i<ds.length
  ·have e:ds[i]?=some ds[i]:=by simp[hlt]
   obtain⟨go,yl⟩:=w2 i _ e;refine .inr ⟨go,fun σ2 H2=>∃F2 ρ2,Q0 F0 H0 F2 H2/\Q4 F1 F2/\QB K H0 F2 ρ2 σ2 H2/\P (i+1) ρ2,fun σ2 H2 q=>⟨ds.length-(i+1),by omega,rfl,hlt,q⟩,fun v H3 y=>?_⟩;obtain⟨F3,x3,r3⟩:=yl v H3 y;obtain⟨ρ2,hg,hb⟩:=hs i _ ρ' e p;refine hg H0 F3 σ' H3 v _ (S'.ext x3) r3 fun σ2 S2=>?_;have big:Q0 F0 H0 F3 H3:=x'.trans x3;have s13:=s'.trans x3.ff
   exact hb F3 H0 F3 σ2 H3 _ big.base S2 ⟨fun F4 σ4 H4 ρ4 x4 S4 q4=>⟨F4,ρ4,big.rebase x4,s13.trans x4.ff,S4,q4⟩,fun F4 H4 v4 r4 p4 x4=>C.rt F4 H4 v4 r4 p4 (big.rebase x4),
    fun F4 σ4 H4 ρ4 x4=>C.nx F4 σ4 H4 ρ4 (big.rebase x4),fun F4 σ4 H4 ρ4 x4 S4 q4=>⟨F4,ρ4,big.rebase x4,s13.trans x4.ff,S4,q4⟩⟩
  ·have e:i=ds.length:=by omega
   subst e;exact .inl ⟨w1,C.nx F' σ' H' ρ' x' S' (hd ρ' p)⟩
def Dt {wi:TI}{g:TG}{tbd:TS}{ds:Qd}(R:Nat->Q6)(hi:EvI K wi ρ ds)(h0:Fgt ρ (R 0))
 (hs:∀(i:Nat) (d:PyData),ds[i]?=some d->∃ρ2,GTo K g d (R i) ρ2/\Q1 K tbd ρ2 { nx:=fun ρ'=>Fgt ρ' (R (i+1)),ct:=fun ρ'=>Fgt ρ' (R (i+1)),bk:=D.nx,rt:=D.rt }) (hd:∀ρ',Fgt ρ' (R ds.length)->D.nx ρ'):Q1 K (WY wi g tbd) ρ D:=by
 refine VV (fun i ρ'=>Fgt ρ' (R i)) hi h0 (fun i d ρ' e f=>?_) hd;obtain⟨ρ2,h1,h2⟩:=hs i d e
 exact⟨ρ2,fun H0 F σ H x Q S r q=>h1 H0 F σ H x Q (S.fgt f) r q,h2⟩
def D3 {c:TT}{tbd:TS}(P:Nat->Q6->Prop)(m0:Nat)(h0:P m0 ρ)
 (hs:∀(m:Nat) (ρ':Q6),P m ρ'->∃b,Zh K c ρ' b/\(b=true->Q1 K tbd ρ' { nx:=fun ρ2=>∃m',m'<m/\P m' ρ2,ct:=fun ρ2=>∃m',m'<m/\P m' ρ2,bk:=D.nx,rt:=D.rt })/\(b=false->D.nx ρ')):Q1 K (Nx c tbd) ρ D:=fun F0 H0 F σ H E x S C=>by
 refine⟨fun m σ H=>∃F ρ',Q0 F0 H0 F H/\QB K H0 F ρ' σ H/\P m ρ',⟨m0,F,ρ,x,S,h0⟩,?_⟩
 rintro m σ' H' ⟨F',ρ',x',S',p⟩
 obtain⟨b,h1,h2,h3⟩:=hs m ρ' p;refine h1 H0 F' σ' H' _ S' fun F1 H1 x1=>?_;have X1:=x'.trans x1;have S1:=S'.ext x1
 cases b with
 |false=>rw[Xc Xw];exact C.nx F1 σ' H1 ρ' X1 S1 (h3 rfl)
 |true =>
   rw[Xe rfl];refine⟨fun σ2 H2=>∃m',m'<m/\∃F2 ρ2,Q0 F0 H0 F2 H2/\QB K H0 F2 ρ2 σ2 H2/\P m' ρ2,fun σ2 H2 h=>h,?_⟩;have go:∀F4 σ4 H4 ρ4,Q0 F0 H0 F4 H4->QB K H0 F4 ρ4 σ4 H4->(∃m',m'<m/\P m' ρ4)->∃m',m'<m/\∃F2 ρ2,Q0 F0 H0 F2 H4/\QB K H0 F2 ρ2 σ4 H4/\P m' ρ2:=fun F4 σ4 H4 ρ4 x4 S4 ⟨m',q1,q2⟩=>⟨m',q1,F4,ρ4,x4,S4,q2⟩;exact h2 rfl F0 H0 F1 σ' H1 _ X1 S1 ⟨go,C.rt,C.nx,go⟩
def UT {ds:Qd}(h:Qt K ta ρ (.list ds)):EvI K (GI K ta) ρ ds:=fun H0 F σ H R S q =>
 h H0 F σ H _ S fun F1 H1 v x1 r1=>by
  obtain⟨a,xs,rfl,h1,h2,h3⟩:=Jx (K:=K) r1 x1.fh
  have hF:F1 a=some (.lst xs):=by
   cases r1 with
   |lst ha rr =>
     have:=x1.fh _ _ ha
     rw[h3]at this;cases this;exact ha
  refine⟨a,rfl,⟨xs,h1⟩,q F1 H1 _ x1 fun F2 H2 s2 s3=>?_⟩;have hq:SqL K H2 a xs:=SqL.of (s3 _ _ (s2 _ _ hF));refine⟨⟨xs,hq,by rw[h2.length];exact Xq _⟩,fun i d e=>?_⟩;obtain⟨z,z1,z2⟩:=h2.get e;refine⟨⟨xs,z,hq,z1⟩,fun y H3 hy=>?_⟩;obtain⟨rfl,hy⟩:=hy;have e2:=hy xs hq;rw[z1]at e2;cases e2
  exact⟨F2,Q0.refl s3,z2.mono s2⟩
def K3 {ds:Qd}(h:Qt K ta ρ (.tuple ds)):EvI K (Kb K ta) ρ ds:=fun H0 F σ H R S q =>
 h H0 F σ H _ S fun F1 H1 v x1 r1=>by
  obtain⟨a,xs,rfl,h1,h2,h3⟩:=Bv (K:=K) r1 x1.fh
  have hF:F1 a=some (.tup xs):=by
   cases r1 with
   |tup ha rr =>
     have:=x1.fh _ _ ha
     rw[h3]at this;cases this;exact ha
  refine⟨a,rfl,⟨xs,h1⟩,q F1 H1 _ x1 fun F2 H2 s2 s3=>?_⟩;have hq:SqT K H2 a xs:=SqT.of (s3 _ _ (s2 _ _ hF));refine⟨⟨xs,hq,by rw[h2.length];exact Xq _⟩,fun i d e=>?_⟩;obtain⟨z,z1,z2⟩:=h2.get e;refine⟨⟨xs,z,hq,z1⟩,fun y H3 hy=>?_⟩;obtain⟨rfl,hy⟩:=hy;have e2:=hy xs hq;rw[z1]at e2;cases e2
  exact⟨F2,Q0.refl s3,z2.mono s2⟩
def ZS (lo:Int)(n:Nat):Qd:=(List.range n).map fun(i:Nat)=>PyData.int (lo+(i:Int))
def YS {lo:Int}{n i:Nat}{d:PyData}(e:(ZS lo n)[i]?=some d):i<n/\d=.int (lo+(i:Int)):=by
 unfold ZS at e;rw[Xt]at e;by_cases h:i<n
 ·simp[h]at e;exact⟨h,e.symm⟩
 ·simp[h]at e
def Wr {lo:Int}{n:Nat}:(ZS lo n).length=n:=by simp[ZS]
def Sm {F:Hp}{lo:Int}{n:Nat}:KQ F (Itr lo n) (ZS lo n):=fun F2 H2 s2 s3=>by
 refine⟨by show n<=_;rw[Wr];exact Xq _,fun i d e=>?_⟩;obtain⟨h1,rfl⟩:=YS e;refine⟨h1,fun x H3 hy=>?_⟩;obtain⟨rfl,rfl⟩:=hy
 exact⟨F2,Q0.refl s3,.int _⟩
def Yh {t:TA}{n:Int}(h:Zx K t ρ [.fz (.int n)])(h1 : -(2^62)<=n)(h2:n<2^62):EvI K (UJ t) ρ (ZS 0 n.toNat):=fun H0 F σ H R S q =>
 h H0 F σ H _ S fun F1 H1 vs x1 r1=>by
  cases r1 with
  |fz r r1=>cases r1;cases r;exact⟨n,rfl,h1,h2,q F1 H1 _ x1 Sm⟩
def NK {t:TA}{m n:Int}(h:Zx K t ρ [.fz (.int m),.fz (.int n)])(h1 : -(2^62)<=m/\m<2^62 /\ -(2^62)<=n/\n<2^62):EvI K (Kp t) ρ (ZS m (n-m).toNat):=fun H0 F σ H R S q =>
 h H0 F σ H _ S fun F1 H1 vs x1 r1=>by
  cases r1 with
  |fz r r1 =>
    cases r1 with
    |fz r' r1=>cases r1;cases r;cases r';exact⟨m,n,rfl,h1,q F1 H1 _ x1 Sm⟩
def JU (hi:Int)(n:Nat):Qd:=(List.range n).map fun(i:Nat)=>PyData.int (hi-(i:Int))
def R7 {hi:Int}{n i:Nat}{d:PyData}(e:(JU hi n)[i]?=some d):i<n/\d=.int (hi-(i:Int)):=by
 unfold JU at e;rw[Xt]at e;by_cases h:i<n
 ·simp[h]at e;exact⟨h,e.symm⟩
 ·simp[h]at e
def RB {hi:Int}{n:Nat}:(JU hi n).length=n:=by simp[JU]
def PZ {t:TA}{m n:Int}(h:Zx K t ρ [.fz (.int m),.fz (.int n),.fz (.int (-1))])(h1 : -(2^62)<=m/\m<2^62 /\ -(2^62)<=n/\n<2^62):EvI K (K7 t) ρ (JU m (m-n).toNat):=fun H0 F σ H R S q =>
 h H0 F σ H _ S fun F1 H1 vs x1 r1=>by
  cases r1 with
  |fz r r1 =>
    cases r1 with
    |fz r' r1 =>
      cases r1 with
      |fz r2 r1 =>
        cases r1;cases r;cases r';cases r2
        refine⟨m,n,rfl,h1,q F1 H1 _ x1 fun F2 H2 s2 s3=>⟨by show _<=_;rw[RB];exact Xq _,fun i d e=>?_⟩⟩;obtain⟨h1,rfl⟩:=R7 e;refine⟨h1,fun x H3 hy=>?_⟩;obtain⟨rfl,rfl⟩:=hy
        exact⟨F2,Q0.refl s3,.int _⟩
def YI:Option OT->Option OT
 |some (.fz d)=>some (.fz d)
 |some (.scr ns)=>some (.scr ns)
 |some (.zow Ψ)=>some (.zow Ψ)
 |_=>none
def W3 (f:List (Option Nat))(ρ:Q6):Q6:=f.map fun o=>match o with|some i=>YI (ρ[i]?).join|none=>none
def QB.inner {H0 F H:Hp}{σ:St}(f:List (Option Nat))(S:QB K H0 F ρ σ H):QB K H0 F (W3 f ρ) (ZI f σ) H:=by
 obtain⟨kt,h1,h2,fp,h3,h4,h5⟩:=S;refine⟨kt,h1,by simp[W3,ZI],fun _=>[],fun i t e=>?_,fun i j a h=>(nomatch h),fun i a h=>(nomatch h)⟩;unfold W3 at e;rw[Xt]at e;cases z:f[i]? with
 |none=>rw[z]at e;simp at e
 |some o =>
   rw[z]at e;simp only[X4,Option.some.injEq]at e;cases o with
   |none=>cases e
   |some k =>
     simp only at e
     have e':ρ[k]?=some (some t)/\((∃d,t=.fz d)\/(∃ns,t=.scr ns)\/∃Ψ,t=.zow Ψ):=by
      cases y:ρ[k]? with
      |none=>rw[y]at e;simp[YI]at e
      |some w =>
        rw[y]at e;simp only[Option.join_some]at e;cases w with
        |none=>simp[YI]at e
        |some w =>
          cases w with
          |fz d=>simp[YI]at e;subst e;exact⟨rfl,.inl ⟨_,rfl⟩⟩
          |scr ns=>simp[YI]at e;subst e;exact⟨rfl,.inr (.inl ⟨_,rfl⟩)⟩
          |zow Ψ=>simp[YI]at e;subst e;exact⟨rfl,.inr (.inr ⟨_,rfl⟩)⟩
          |ol ds=>simp[YI]at e
          |oll ds=>simp[YI]at e
          |own v0 Φ=>simp[YI]at e
     obtain⟨v,e1,e2⟩:=h3 k t e'.1;refine⟨v,?_,?_⟩
     ·unfold ZI
      rw[Xt,z];simp[e1]
     ·rcases e'.2 with ⟨d,rfl⟩|⟨ns,rfl⟩|⟨Ψ,rfl⟩
      ·exact⟨rfl,e2.2⟩
      ·exact⟨rfl,e2.2⟩
      ·exact⟨rfl,e2.2⟩
def UP {α:Type}{f:List (Option Nat)}{wi:TI}{g:CIn->TG}{tcc:CIn->TT}{tee:CIn->TE}{xs:List α}{enc h:α->PyData}{p:α->Bool}(hi:EvI K wi ρ (xs.map enc))(hl:xs.length<=1000)
 (hs:∀x∈xs,∀c,∃ρ2,GTo K (g c) (enc x) (W3 f ρ) ρ2/\Zh K (tcc c) ρ2 (p x)/\(p x=true->Qt K (tee c) ρ2 (h x))):EvO K (tLC f wi g tcc tee) ρ (.ol ((xs.filter p).map h)):=fun H0 F σ H Q S q =>
 hi H0 F σ H _ S fun F1 H1 J x1 W c=>by
  have hn:xs.length<=sizeLine:=Yt (ZH hl);refine⟨fun i m ys H=>m=xs.length-i/\i<=xs.length/\∃F',Q0 F1 H1 F' H/\Qv F' ys (((xs.take i).filter p).map h),⟨xs.length,by simp,XF _,F1,Q0.refl x1.fh,.nil⟩,?_⟩
  rintro i m ys H' ⟨rfl,hle,F',x',r'⟩
  obtain⟨w1,w2⟩:=W F' H' x'.ff x'.fh
  by_cases hlt:i<xs.length
  ·have e:(xs.map enc)[i]?=some (enc xs[i]):=by simp[hlt]
   obtain⟨go,yl⟩:=w2 i _ e;refine .inr ⟨go,fun v H3 y=>?_⟩;obtain⟨F3,x3,r3⟩:=yl v H3 y;obtain⟨ρ2,k1,k2,k3⟩:=hs xs[i] (X5 hlt) c;have S3:=(S.ext (x1.trans (x'.trans x3))).inner f;have tk:xs.take (i+1)=xs.take i++[xs[i]]:=by rw[JD];simp[hlt]
   have ly:=r'.length
   have ly2:ys.length<=i:=by
    rw[ly,Xn];refine XZ (BW _ _) ?_;rw[List.length_take];omega
   refine k1 H0 F3 _ H3 v _ S3 r3 fun σ2 S4=>k2 H0 F3 σ2 H3 _ S4 fun F4 H4 x4=>?_
   cases ep:p xs[i] with
   |true =>
     rw[Xe rfl];refine k3 ep H0 F4 σ2 H4 _ (S4.ext x4) fun F5 H5 z x5 r5=>⟨by omega,xs.length-(i+1),by omega,rfl,hlt,F5,x'.trans (x3.trans (x4.trans x5)),?_⟩;rw[tk,U2,Xy];simp only[U0,ep,if_true,List.filter_nil,Xv,U8];exact(r'.mono (x3.trans (x4.trans x5)).ff).snoc r5
   |false =>
     rw[Xc Xw];refine⟨xs.length-(i+1),by omega,rfl,hlt,F4,x'.trans (x3.trans x4),?_⟩;rw[tk,U2,Xy];simp only[U0,ep,List.filter_nil,U8,XH,Wb,if_false];exact r'.mono (x3.trans x4).ff
  ·have e:i=xs.length:=by omega
   subst e;refine .inl ⟨by simpa using w1,fun a ha=>?_⟩;rw[JE]at r';obtain⟨z1,z2,z3⟩:=Bh (K:=K) (x1.trans x') ha r';exact q _ _ _ _ z1 z2 z3
def UL {α:Type}{f:List (Option Nat)}{wi:TI}{g:CIn->TG}{tee:CIn->TE}{xs:List α}{enc h:α->PyData}(hi:EvI K wi ρ (xs.map enc))(hl:xs.length<=1000)
 (hs:∀x∈xs,∀c,∃ρ2,GTo K (g c) (enc x) (W3 f ρ) ρ2/\Qt K (tee c) ρ2 (h x)):EvO K (tLC f wi g (fun _=>Wc) tee) ρ (.ol (xs.map h)):=by
 have:=UP (K:=K) (ρ:=ρ) (f:=f) (wi:=wi) (g:=g) (tcc:=fun _=>Wc) (tee:=tee) (xs:=xs) (enc:=enc) (h:=h) (p:=fun _=>true) hi hl fun x hx c=>by
  obtain⟨ρ2,h1,h2⟩:=hs x hx c
  exact⟨ρ2,h1,Kl,fun _=>h2⟩
 have e:xs.filter (fun _=>true)=xs:=List.filter_eq_self.mpr fun _ _=>rfl;rw[e]at this;exact this
def Mx:List V->Hp->VK->Prop:=fun xs H Q=>∃i j,xs=[.int i,.int j]/\Q (.int (if j > i then j else i)) H
def M8:List V->Hp->VK->Prop:=fun xs H Q=>∃i j,xs=[.int i,.int j]/\Q (.int (if j<i then j else i)) H
def KF:List V->Hp->VK->Prop:=fun xs H Q=>(∃i,xs=[.int i]/\Q (.int i) H)\/∃k,xs=[.bl k]/\Q (.int (if k then 1 else 0)) H
def Mc:List V->Hp->VK->Prop:=fun xs H Q=>∃x T c b,xs=[x,.ty c]/\TyN H x T/\Yv T c=some b/\Q (.bl b) H
def UF (K:W.Frag):List V->Hp->VK->Prop:=fun xs H Q=>∃p ys,xs=[.ref p]/\(SqL K H p ys\/SqT K H p ys)/\Q (.int ys.length) H
def Dn (K:W.Frag):List V->Hp->VK->Prop:=fun xs H Q=>∃p ys,xs=[.ref p]/\(SqL K H p ys\/SqT K H p ys)/\∀l,H l=none->Q (.ref l) (upd H l (.lst ys))
def KS (K:W.Frag):List V->Hp->VK->Prop:=fun xs H Q=>∃p ys,xs=[.ref p]/\((SqL K H p ys/\∀l,H l=none->Q (.ref l) (upd H l (.tup ys)))\/(SqT K H p ys/\Q (.ref p) H))
def Kn (X:Cx):List V->Hp->VK->Prop:=fun xs H Q=>X.calm=true/\∃(x:V) (ns:Ql),xs=[x]/\Rep H x (.list (ns.map PyData.int))/\Q (.int ns.sum) H
def Th {X:Cx} (h:X.calm=true):Z1 X (.builtin "max") Mx:=AR h
def MZ {X:Cx} (h:X.calm=true):Z1 X (.builtin "min") M8:=C1 h
def KZ {X:Cx}:Z1 X (.type "int") KF:=Ag
def Ue {X:Cx}:Z1 X (.builtin "isinstance") Mc:=Cj
def Yz {X:Cx}:Z1 X (.builtin "len") (UF X.K):=ES
def NV {X:Cx}:Z1 X (.type "list") (Dn X.K):=EN
def RC {X:Cx}:Z1 X (.type "tuple") (KS X.K):=Ib
def Nk {X:Cx}:Z1 X (.builtin "sum") (Kn X):=AQ
def Nc {x y:Int}{r:List V->Hp->VK->Prop}{H0 F H:Hp}{σ:St}{Q:VK}(ha:Qt K ta ρ (.int x))(hb:Qt K tb ρ (.int y))(S:QB K H0 F ρ σ H)(h:∀F' H',Q0 F H F' H'->r [.int x,.int y] H' Q):tCB r (QF ta (QF tb QO)) σ H Q :=
 ha H0 F σ H _ S fun F1 H1 v x1 r1=>hb H0 F1 σ H1 _ (S.ext x1) fun F2 H2 w x2 r2=>by cases r1;cases r2;exact h F2 H2 (x1.trans x2)
def Pz {x y:Int}(ha:Qt K ta ρ (.int x))(hb:Qt K tb ρ (.int y)):Qt K (tCB Mx (QF ta (QF tb QO))) ρ (.int (if y > x then y else x)):=fun H0 F σ H Q S q =>
 Nc ha hb S fun F' H' e=>⟨x,y,rfl,q F' H' _ e (.int _)⟩
def Ti {x y:Int}(ha:Qt K ta ρ (.int x))(hb:Qt K tb ρ (.int y)):Qt K (tCB M8 (QF ta (QF tb QO))) ρ (.int (if y<x then y else x)):=fun H0 F σ H Q S q =>
 Nc ha hb S fun F' H' e=>⟨x,y,rfl,q F' H' _ e (.int _)⟩
def Ba {b:Bool}(h:Qt K ta ρ (.bool b)):Qt K (tCB KF (QF ta QO)) ρ (.int (if b then 1 else 0)):=fun H0 F σ H Q S q =>
 h H0 F σ H _ S fun F1 H1 v x1 r1=>by cases r1;exact .inr ⟨b,rfl,q F1 H1 _ x1 (.int _)⟩
def Uc {a:PyData}{c:String}{b:Bool}(h:Qt K ta ρ a)(hb:Yv (tyD a) c=some b):Qt K (tCB Mc (QF ta (QF (tC (.ty c)) QO))) ρ (.bool b):=fun H0 F σ H Q S q =>
 h H0 F σ H _ S fun F1 H1 v x1 r1=>⟨v,_,c,b,rfl,(r1.mono x1.fh).ty,hb,q F1 H1 _ x1 (.bl _)⟩
def US {ds:Qd}(h:Qt K ta ρ (.list ds)):Qt K (tCB (UF K) (QF ta QO)) ρ (.int (ds.length:Int)):=fun H0 F σ H Q S q =>
 h H0 F σ H _ S fun F1 H1 v x1 r1=>by
  obtain⟨a,xs,rfl,h1,h2,_⟩:=Jx (K:=K) r1 x1.fh
  exact⟨a,xs,rfl,.inl h1,by rw[h2.length];exact q F1 H1 _ x1 (.int _)⟩
def MV {ds:Qd}(h:Qt K ta ρ (.tuple ds)):Qt K (tCB (UF K) (QF ta QO)) ρ (.int (ds.length:Int)):=fun H0 F σ H Q S q =>
 h H0 F σ H _ S fun F1 H1 v x1 r1=>by
  obtain⟨a,xs,rfl,h1,h2,_⟩:=Bv (K:=K) r1 x1.fh
  exact⟨a,xs,rfl,.inr h1,by rw[h2.length];exact q F1 H1 _ x1 (.int _)⟩
def P7 {i:Nat}{ns:Ql}(e0:ρ[i]?=some (some (.scr ns))):Qt K (tCB (UF K) (QF (Q8 i) QO)) ρ (.int (ns.length:Int)):=fun H0 F σ H Q S q=>by
 obtain⟨fp,h,_⟩:=S.fp;obtain⟨v,e1,_,a,rfl,sc⟩:=h i _ e0
 exact⟨_,e1,a,ns.map V.int,rfl,.inl (S.sub.seq sc.sq),by rw[Xn];exact q F H _ (Q0.refl S.sub) (.int _)⟩
def Ny {ds:Qd}(h:Qt K ta ρ (.list ds)):EvO K (tCB (Dn K) (QF ta QO)) ρ (.ol ds):=fun H0 F σ H Q S q =>
 h H0 F σ H _ S fun F1 H1 v x1 r1=>by
  obtain⟨a,xs,rfl,h1,h2,_⟩:=Jx (K:=K) r1 x1.fh;refine⟨a,xs,rfl,.inl h1,fun p hp=>?_⟩;obtain⟨z1,z2,z3⟩:=Bh (K:=K) x1 hp h2;exact q _ _ _ _ z1 z2 z3
def MK {i:Nat}{ds:Qd}(e0:ρ[i]?=some (some (.ol ds))):Qt K (tCB (KS K) (QF (Q8 i) QO)) ρ (.tuple ds):=fun H0 F σ H Q S q=>by
 obtain⟨fp,h,_⟩:=S.fp;obtain⟨v,e1,a,rfl,_,_,xs,o2,o3⟩:=h i _ e0;refine⟨_,e1,a,xs,rfl,.inl ⟨SqL.of o2,fun p hp=>?_⟩⟩;exact q _ _ _ (Q0.new S.sub hp) (.tup QA (o3.mono (Q4.new (S.sub.free hp))))
def MA {X:Cx}{ns:Ql}(h:Qt K ta ρ (.list (ns.map PyData.int)))(hc:X.calm=true):Qt K (tCB (Kn X) (QF ta QO)) ρ (.int ns.sum):=fun H0 F σ H Q S q =>
 h H0 F σ H _ S fun F1 H1 v x1 r1=>⟨hc,v,ns,rfl,r1.mono x1.fh,q F1 H1 _ x1 (.int _)⟩
def KB {as bs:Qd}(ha:Qt K ta ρ (.list as))(hb:Qt K tb ρ (.list bs))(hl:as.length+bs.length<=1000):EvO K (tOp Mi ta tb) ρ (.ol (as++bs)):=fun H0 F σ H Q S q =>
 Y0 ha hb S fun F' H' x y e r1 r2=>by
  obtain⟨a,xs,rfl,h1,h2,h3⟩:=Jx (K:=K) r1 e.fh;obtain⟨b,ys,rfl,g1,g2,g3⟩:=Jx (K:=K) r2 e.fh;refine⟨a,b,xs,ys,rfl,rfl,h3,g3,by rw[h2.length,g2.length];exact Yt (ZH hl),fun p hp=>?_⟩;obtain⟨z1,z2,z3⟩:=Bh (K:=K) e hp (h2.append g2);exact q _ _ _ _ z1 z2 z3
end
def Zc {K:W.Frag}{ρ:Q6}{ta:TE}{t:TA}{d:PyData}{ds:Qd}(h1:Qt K ta ρ d)(h2:Zx K t ρ (fzs ds)):Zx K (QF ta t) ρ (fzs (d::ds)):=Qw h1 h2
def EvI.cast {K:W.Frag}{wi:TI}{ρ:Q6}{ds ds':Qd}(h:EvI K wi ρ ds)(e:ds=ds'):EvI K wi ρ ds':=e▸h
def WD {a b:Int}{m n:Nat}(h:a=b)(h2:m=n):ZS a m=ZS b n:=by rw[h,h2]
def KI {K:W.Frag}{ρ:Q6}{ta tb:TE}{x y:Int}(ha:Qt K ta ρ (.int x))(hb:Qt K tb ρ (.int y)):Qt K (tCB Mx (QF ta (QF tb QO))) ρ (.int (max x y)):=by
 have e:max x y=if y > x then y else x:=by split<;>omega
 rw[e];exact Pz ha hb
def K9 {K:W.Frag}{ρ:Q6}{ta tb:TE}{x y:Int}(ha:Qt K ta ρ (.int x))(hb:Qt K tb ρ (.int y)):Qt K (tCB M8 (QF ta (QF tb QO))) ρ (.int (min x y)):=by
 have e:min x y=if y<x then y else x:=by split<;>omega
 rw[e];exact Ti ha hb
def MD {K:W.Frag}{ρ:Q6}{f:List (Option Nat)}{wi:TI}{g:CIn->TG}{tee:CIn->TE}{lo:Int}{n:Nat}{h:Nat->PyData}(hi:EvI K wi ρ (ZS lo n))(hl:n<=1000)
 (hs:∀(x:Nat),x<n->∀c,∃ρ2,GTo K (g c) (.int (lo+(x:Int))) (W3 f ρ) ρ2/\Qt K (tee c) ρ2 (h x)):EvO K (tLC f wi g (fun _=>Wc) tee) ρ (.ol ((List.range n).map h)) :=
 UL (xs:=List.range n) (enc:=fun(i:Nat)=>PyData.int (lo+(i:Int))) hi (by simpa using hl) fun x hx c=>hs x (XT.mp hx) c
def Qt.cast {K:W.Frag}{t:TE}{ρ:Q6}{d d':PyData}(h:Qt K t ρ d)(e:d=d'):Qt K t ρ d':=e▸h
def EvO.cast {K:W.Frag}{t:TE}{ρ:Q6}{d d':OT}(h:EvO K t ρ d)(e:d=d'):EvO K t ρ d':=e▸h
def Zh.cast {K:W.Frag}{t:TT}{ρ:Q6}{d d':Bool}(h:Zh K t ρ d)(e:d=d'):Zh K t ρ d':=e▸h
def GO (K:W.Frag):Sp:=fun vs H Q _=>∃(a:Addr) (ns:Ql),vs=[.ref a]/\KTs K H/\Scr K H a ns/\∀H',Q (.bl true) H'
def Fun.evLaw {P:Program}{w:World}{K:W.Frag}{mg:Str->Qf}{base:Heap}{x qual p:Str}{st:Stmt}{f:Addr}{fd:FuncData}{N:Qh}{k:Nat}(F:Fun K x qual st f fd)(S:Qp N [p] (Qx st))
 (XaS:∀(cdv:Value) (A:Around) (outer:List Env) (s:Shared) (H:Hp) (E:XK) (ns:Ql),Room k (A.deeper (envOfC qual (Qx st) s.heap.objs.size f cdv))->ns.length<=63->(∀i∈ns,Builtin.Int.intBits i<=2^20) ->
  ∃t,PSs (Vb CX0 P w K mg base N qual (Qx st) f cdv A outer s H E).nox (Zg st) t/\Q1 K t (some (.scr ns)::List.replicate (N.length-1) none) { nx:=fun _=>False,rt:=fun r=>r=.fz (.bool true) }):FnOk P w K mg base CX0 (k+1) f fd [p] (GO K):=by
 refine F.ok S (fun vs H Q E ⟨a,ns,e,_⟩=>by rw[e];rfl) fun cdv A outer s H vs Q E hr ⟨a,ns,e,kt,sc,q⟩=>?_;subst e;obtain⟨t,h1,h2⟩:=XaS cdv A outer s H E ns hr sc.len sc.bits;refine⟨t,h1,h2 H H H (start N [.ref a]) H _ (Q0.refl (Q4.refl _)) ⟨kt,Q4.refl _,?_,fun _=>[],fun i t' e=>?_,fun i j a h=>(nomatch h),fun i a h=>(nomatch h)⟩ ⟨fun F' σ' H' ρ' x' _ e=>False.elim e,fun F' H' v r' p x' hp ok e=>?_,fun _ _ _ _ _ _ z=>False.elim z,fun _ _ _ _ _ _ z=>False.elim z⟩⟩
 ·unfold start
  simp
 ·cases i with
  |zero =>
    simp at e
    subst e;exact⟨_,rfl,rfl,a,rfl,sc⟩
  |succ i =>
    rw[U5]at e;have:=List.mem_of_getElem? e
    simp at this
 ·subst e
  obtain⟨_,r⟩:=ok
  cases r
  exact q H'
def ZC {K:W.Frag}{ρ:Q6}:Zx K QO ρ (fzs []):=Q9
def z62:(2:Int)^62=4611686018427387904:=by decide
def Px {CX:CXT}{P:Program}{w:World}{K:W.Frag}{mg:Str->Qf}{base:Heap}{N:Qh}{q:Str}{sc:Scope}{f:Addr}{cd:Value}{A:Around}{o:List Env}{s:Shared}{H:Hp}{E:XK}:(Vb CX P w K mg base N q sc f cd A o s H E).nox.K=K:=rfl
def Fv {X:Cx}{N:Qh}{sc:Scope}{c:CIn}:(Zu X N sc c).K=X.K:=rfl
section
variable {K:W.Frag}{ρ:Q6}{ta tb te:TE}
def cut {α:Type}(xs:List α)(lo hi:Option Int):List α:=(xs.drop (HT.sIx xs.length 0 lo)).take (HT.sIx xs.length xs.length hi-HT.sIx xs.length 0 lo)
end
section
variable {K:W.Frag}{ρ:Q6}{ta tb te:TE}
def Jg (as:Qd):Qd:=as.zipIdx.map fun p=>PyData.tuple [.int (p.2:Int),p.1]
def BC (as:Qd):(Jg as).length=as.length:=by simp[Jg]
def BB {as:Qd}{i:Nat}{d:PyData}(e:(Jg as)[i]?=some d):∃a,as[i]?=some a/\d=.tuple [.int (i:Int),a]:=by
 unfold Jg at e;rw[Xt,List.getElem?_zipIdx]at e;cases z:as[i]? with
 |none=>rw[z]at e;cases e
 |some a=>rw[z]at e;simp at e;exact⟨a,rfl,e.symm⟩
def C9 {F H:Hp}{x:V}{ds:Qd}(r:Rep F x (.list ds)):∃a xs,x=.ref a/\F a=some (.lst xs)/\Qv F xs ds:=by
 cases r with
 |lst ha rr=>exact⟨_,_,rfl,ha,rr⟩
def UR {t:TA}{as:Qd}(h:Zx K t ρ [.fz (.list as)]):EvI K (KC K t) ρ (Jg as):=fun H0 F σ H R S q =>
 h H0 F σ H _ S fun F1 H1 vs x1 r1=>by
  cases r1 with
  |fz r r1 =>
    cases r1
    obtain⟨a,xs,rfl,ha,ra⟩:=C9 (H:=H1) r;refine⟨a,rfl,⟨xs,SqL.of (x1.fh _ _ ha)⟩,q F1 H1 _ x1 fun F2 H2 s2 s3=>?_⟩;have qa:SqL K H2 a xs:=SqL.of (s3 _ _ (s2 _ _ ha));refine⟨⟨xs,qa,by rw[BC,ra.length]⟩,fun i d e=>?_⟩;obtain⟨d1,e1,rfl⟩:=BB e;obtain⟨z1,f1,g1⟩:=ra.get e1;refine⟨⟨xs,z1,qa,f1⟩,fun v H3 hy=>?_⟩;obtain⟨p,x,hp,rfl,rfl,k1⟩:=hy;have ex:=k1 xs qa;rw[f1]at ex;cases ex;have sn:Q4 F2 (upd F2 p (.tup [.int (i:Int),z1])):=Q4.new (s3.free hp)
    exact⟨_,Q0.new s3 hp,.tup QA (.cons (.int _) (.cons ((g1.mono s2).mono sn) .nil))⟩
def LA {X:Cx}{ns:Ql}(h:Qt K ta ρ (.list (ns.map PyData.int)))(hc:X.calm=true)(hn:ns≠[]):Qt K (tCB (Kx X) (QF ta QO)) ρ (.int (VZ ns)):=fun H0 F σ H Q S q =>
 h H0 F σ H _ S fun F1 H1 v x1 r1=>⟨hc,v,ns,rfl,r1.mono x1.fh,hn,q F1 H1 _ x1 (.int _)⟩
def G6:OT->Option PyData
 |.fz d=>some d
 |.ol ds=>some (.list ds)
 |.oll dss=>some (.list (dss.map PyData.list))
 |.scr _=>none
 |.own _ _=>none
 |.zow _=>none
def frF (F H:Hp)(p:Qg):Hp:=fun b=>if b∈p then H b else F b
def YN {F H:Hp}{p:Qg}{b:Addr}(h:b∈p):frF F H p b=H b:=by unfold frF;rw[Xe h]
def Yr {F H:Hp}{p:Qg}{b:Addr}(h:b∉p):frF F H p b=F b:=by unfold frF;rw[Xc h]
def Y5 {F H:Hp}{p:Qg}(h:∀a∈p,F a=none):Q4 F (frF F H p):=fun b u e=>by
 rw[Yr fun z=>by rw[h b z]at e;cases e];exact e
def UZ {F H:Hp}{p:Qg}(s:Q4 F H):Q4 (frF F H p) H:=fun b u e=>by
 by_cases z:b∈p
 ·rw[YN z]at e;exact e
 ·rw[Yr z]at e;exact s b u e
theorem Rp {F F' H:Hp}(sm:Q4 F F'):∀{as:Qg} {dss:List (Qd)},Zs F H as dss->(∀a∈as,F' a=H a)->Qv F' (as.map V.ref) (dss.map PyData.list)
 |[],[],_,_=>.nil
 |a::as,ds::dss,h,he=>by
   obtain⟨⟨h1,xs,h2,h3⟩,h4⟩:=h;exact .cons (.lst (by rw[he a Xa];exact h2) (h3.mono sm)) (Rp sm h4 fun b hb=>he b (Xd _ hb))
 |[],_::_,h,_=>False.elim h
 |_::_,[],h,_=>False.elim h
def Zm.frz {F H:Hp}{v:V}{t:OT}{p:Qg}{d:PyData}(ok:Zm K F H v t p)(e:G6 t=some d):Rep (frF F H p) v d:=by
 have sm:Q4 F (frF F H p):=Y5 fun a ha=>(ok.there a ha).1
 cases t with
 |fz d'=>cases e;exact ok.2.mono sm
 |ol ds =>
   cases e
   obtain⟨a,rfl,rfl,h1,xs,h2,h3⟩:=ok;exact .lst (by rw[YN Xa];exact h2) (h3.mono sm)
 |oll dss =>
   cases e
   obtain⟨a,as,rfl,rfl,hn,h1,h2,h3⟩:=ok;exact .lst (by rw[YN Xa];exact h2) (Rp sm h3 fun b hb=>YN (Xd _ hb))
 |scr ns=>cases e
 |own v0 Φ=>cases e
 |zow Ψ=>cases e
theorem Zs.frOther {F H:Hp}{p:Qg}(sm:Q4 F (frF F H p)):∀{as:Qg} {dss:List (Qd)},(∀a∈as,a∉p)->Zs F H as dss->Zs (frF F H p) H as dss
 |[],[],_,_=>trivial
 |a::as,ds::dss,hn,h=>by
   obtain⟨⟨h1,xs,h2,h3⟩,h4⟩:=h
   exact⟨⟨by rw[Yr (hn a Xa)];exact h1,xs,h2,h3.mono sm⟩,Zs.frOther sm (fun b hb=>hn b (Xd _ hb)) h4⟩
 |[],_::_,_,h=>False.elim h
 |_::_,[],_,h=>False.elim h
def Zm.frOther {F H:Hp}{v:V}{t:OT}{p q:Qg}(sm:Q4 F (frF F H p))(ok:Zm K F H v t q)(hn:∀a∈q,a∉p):Zm K (frF F H p) H v t q:=by
 cases t with
 |fz d=>exact⟨ok.1,ok.2.mono sm⟩
 |zow Ψ=>exact⟨ok.1,Ψ.mono sm ok.2⟩
 |ol ds =>
   obtain⟨a,rfl,rfl,h1,xs,h2,h3⟩:=ok
   exact⟨a,rfl,rfl,by rw[Yr (hn a Xa)];exact h1,xs,h2,h3.mono sm⟩
 |oll dss =>
   obtain⟨a,as,rfl,rfl,hd,h1,h2,h3⟩:=ok
   exact⟨a,as,rfl,rfl,hd,by rw[Yr (hn a Xa)];exact h1,h2,h3.frOther sm fun b hb=>hn b (Xd _ hb)⟩
 |scr ns=>obtain⟨h1,a,h2,h3⟩:=ok;exact⟨h1,a,h2,h3.mono sm⟩
 |own v0 Φ=>exact⟨ok.1,Φ.mono sm (fun a ha=>by rw[Yr (hn a ha)];exact(Φ.there ok.2 a ha).1) (fun _ _=>rfl) ok.2⟩
def QB.freezeG {H0 F H:Hp}{σ:St}{i:Nat}{t:OT}{d:PyData}(s:QB K H0 F ρ σ H)(e:ρ[i]?=some (some t))(ed:G6 t=some d) :
 ∃p,(∀a∈p,F a=none/\H a≠none/\H0 a=none)/\QB K H0 (frF F H p) (ρ.set i (some (.fz d))) σ H:=by
 obtain⟨kt,h1,h2,fp,h3,h4,h5⟩:=s;obtain⟨v,e1,ok⟩:=h3 i _ e;have hlt:=(Xh.mp e).1;have sm:Q4 F (frF F H (fp i)):=Y5 fun a ha=>(ok.there a ha).1;refine⟨fp i,fun a ha=>⟨(ok.there a ha).1,(ok.there a ha).2,(h5 i a ha).1⟩,kt.mono sm,UZ h1,by simp[h2],fun j=>if j=i then [] else fp j,fun j t' e'=>?_,fun j k b hb hc=>?_,fun j b hb=>?_⟩
 ·by_cases hj:j=i
  ·subst hj
   rw[Xl hlt]at e';cases e';refine⟨_,e1,?_,ok.frz ed⟩;dsimp only;rw[Xe rfl]
  ·rw[Xr (Ne.symm hj)]at e'
   obtain⟨u,f1,f2⟩:=h3 j t' e';refine⟨u,f1,?_⟩;dsimp only;rw[Xc hj];exact f2.frOther sm fun a ha z=>hj (h4 j i a ha z)
 ·by_cases hj:j=i
  ·simp[hj]at hb
  ·by_cases hk:k=i
   ·simp[hk]at hc
   ·simp only[Xc hj]at hb
    simp only[Xc hk]at hc;exact h4 j k b hb hc
 ·by_cases hj:j=i
  ·simp[hj]at hb
  ·simp only[Xc hj]at hb
   exact h5 j b hb
def WG {F H F' H':Hp}{p:Qg}(hp:∀a∈p,F a=none/\H a≠none)(x:Q0 (frF F H p) H F' H'):Q0 F H (fun b=>if b∈p then none else F' b) H' :=
 ⟨x.hh,fun b u hb=>by
  have nb:b∉p:=fun z=>by rw[(hp b z).1]at hb;cases hb
  simp only[Xc nb];exact x.ff b u (by rw[Yr nb];exact hb),fun b u hb=>by
  by_cases z:b∈p
  ·simp[z]at hb
  ·simp only[Xc z]at hb;exact x.fh b u hb,fun b hb=>by
  by_cases z:b∈p
  ·simp[z]at hb
  ·simp only[Xc z]at hb
   rcases x.fr b hb with y|y
   ·rw[Yr z]at y;exact .inl y
   ·exact .inr y⟩
def R0 {t:TT}(i:Nat){r:OT}{d0:PyData}{b:Bool}(e:ρ[i]?=some (some r))(ed:G6 r=some d0)(h:Zh K t (ρ.set i (some (.fz d0))) b):Zh K t ρ b:=fun H0 F σ H Q S q=>by
 obtain⟨p,hp,S'⟩:=S.freezeG e ed;exact h H0 _ σ H Q S' fun F' H' x=>q _ H' (WG (fun a ha=>⟨(hp a ha).1,(hp a ha).2.1⟩) x)
def W7 (ds:Qd):Prop := ∀d∈ds,∃w,Vh d=some w
theorem Qv.flats {F F':Hp}:∀{xs:List V} {ds:Qd},W7 ds->Qv F xs ds->Qv F' xs ds
 |_,_,_,.nil=>.nil
 |_::_,d::_,h,.cons r t=>by
   obtain⟨w,e⟩:=h d Xa;refine .cons ?_ (Qv.flats (fun c hc=>h c (Xd _ hc)) t)
   cases r<;>simp[Vh]at e
   ·exact .non
   ·exact .bl _
   ·exact .int _
   ·exact .str _
end
section
variable {K:W.Frag}{ρ:Q6}{ta tb tc te ti tj:TE}{D:PEnds}
theorem Zs.snoc {F H:Hp}{b:Addr}{ds:Qd}:∀{as:Qg} {dss:List (Qd)},Zs F H as dss->Vc F H b ds->Zs F H (as++[b]) (dss++[ds])
 |[],[],_,h=>⟨h,trivial⟩
 |_::_,_::_,h,h2=>⟨h.1,Zs.snoc h.2 h2⟩
 |[],_::_,h,_=>False.elim h
 |_::_,[],h,_=>False.elim h
theorem Zs.length {F H:Hp}:∀{as:Qg} {dss:List (Qd)},Zs F H as dss->as.length=dss.length
 |[],[],_=>rfl
 |_::_,_::_,h=>by simp[Zs.length h.2]
 |[],_::_,h=>False.elim h
 |_::_,[],h=>False.elim h
def Tc {α:Type}{f:List (Option Nat)}{wi:TI}{g:CIn->TG}{tee:CIn->TE}{xs:List α}{enc:α->PyData}{h:α->Qd}(hi:EvI K wi ρ (xs.map enc))(hl:xs.length<=1000)
 (hs:∀x∈xs,∀c,∃ρ2,GTo K (g c) (enc x) (W3 f ρ) ρ2/\EvO K (tee c) ρ2 (.ol (h x))):EvO K (tLC f wi g (fun _=>Wc) tee) ρ (.oll (xs.map h)):=fun H0 F σ H Q S q =>
 hi H0 F σ H _ S fun F1 H1 J x1 W c=>by
  have hn:xs.length<=sizeLine:=Yt (ZH hl);refine⟨fun i m ys H=>m=xs.length-i/\i<=xs.length/\∃F' as,Q0 F1 H1 F' H/\ys=as.map V.ref/\as.Nodup/\(∀a∈as,H1 a=none)/\Zs F' H as ((xs.take i).map h),⟨xs.length,by simp,XF _,F1,[],Q0.refl x1.fh,rfl,by simp,fun a ha=>(nomatch ha),trivial⟩,?_⟩
  rintro i m ys H' ⟨rfl,hle,F',as,x',rfl,nd,hfr,oa⟩
  obtain⟨w1,w2⟩:=W F' H' x'.ff x'.fh
  by_cases hlt:i<xs.length
  ·have e:(xs.map enc)[i]?=some (enc xs[i]):=by simp[hlt]
   obtain⟨go,yl⟩:=w2 i _ e;refine .inr ⟨go,fun v H3 y=>?_⟩;obtain⟨F3,x3,r3⟩:=yl v H3 y;obtain⟨ρ2,k1,k2⟩:=hs xs[i] (X5 hlt) c;have S3:=(S.ext (x1.trans (x'.trans x3))).inner f;have tk:xs.take (i+1)=xs.take i++[xs[i]]:=by rw[JD];simp[hlt]
   have ol:=oa.length;refine k1 H0 F3 _ H3 v _ S3 r3 fun σ2 S4=>?_;dsimp only[Wc];rw[Xe rfl];refine k2 H0 F3 σ2 H3 _ S4 fun F5 H5 z p x5 hp ok=>⟨?_,xs.length-(i+1),by omega,rfl,hlt,F5,as++[?_],x'.trans (x3.trans x5),?_,?_,?_,?_⟩
   ·rw[Xn,ol,Xn,List.length_take];omega
   ·exact(match z with|.ref b=>b|_=>0)
   all_goals obtain⟨b,rfl,rfl,o1⟩:=ok
   ·simp
   ·rw[JG]
    refine⟨nd,by simp,fun c' hc' d hd=>?_⟩;have hd':d=b:=by simpa using hd
    subst hd';intro z;subst z;have hb:H3 c'=none:=hp c' Xa
    have:=(oa.mem c' hc').2
    obtain⟨o,ho⟩:=Bn this;rw[x3.hh _ _ ho]at hb;cases hb
   ·intro c' hc'
    rcases Xx.mp hc' with hc'|hc'
    ·exact hfr c' hc'
    ·have:c'=b:=by simpa using hc'
     subst this;exact(x'.trans x3).hh.free (hp c' Xa)
   ·rw[tk,Xy]
    exact(oa.ext (x3.trans x5)).snoc o1
  ·have e:i=xs.length:=by omega
   subst e;refine .inl ⟨by simpa using w1,fun a ha=>?_⟩;rw[JE]at oa;have na:a∉as:=fun z=>(oa.mem a z).2 ha;refine q F' _ _ (a::as) ((x1.trans x').trans (Q0.own x'.fh ha)) (fun b hb=>?_) ⟨a,as,rfl,rfl,Xu.mpr ⟨na,nd⟩,x'.fh.free ha,QA,oa.other na⟩
   rcases Xf.mp hb with rfl|hb
   ·exact(x1.trans x').hh.free ha
   ·exact x1.hh.free (hfr b hb)
end
section
variable {es:Qi}{env:Env}
end
section
variable {X:Cx}{e:Expr}{es:Qi}{te:TE}{t:TA}{pos:Pos}
end
def Lf {K:W.Frag}{ρ:Q6}:Qt K GT ρ (.dict []):=fun H0 F σ H Q S q p hp=>by
 have s1:=S.sub;exact q _ _ _ (Q0.new s1 hp) (.dct QA)
section
variable {X:Cx}{a:Expr}{ta:TE}
end
section
variable {K:W.Frag}{ρ:Q6}{ta tb tc td:TE}
end
section
variable {X:Cx}{a b c d:Expr}{ta tb tc td:TE}{pos:Pos}
end
section
variable {K:W.Frag}{ρ:Q6}{ta tb tc td:TE}
end
end L2
end
namespace PySem
section
variable {prog:Program}{w:World}{K:Type} [DecidableEq K] (knd:KeyKind prog w K)
def VS (h:Heap) (xy:List K×List K) (a:Addr):Prop := ∃o n p q,h.get? a=some o/\o.cls=.type "tuple" /\ o.data=.seq #[.ref p,.ref q] n/\IsTupleKey knd h xy.1 p/\IsTupleKey knd h xy.2 q
variable {knd}
def VS.typeIs {s:Shared} {ks:List K×List K} {a:Addr} (x:VS knd s.heap ks a):s.TypeIs (.ref a) "tuple" := let ⟨o,_,_,_,ho,hc,_⟩:=x;⟨o,ho,hc⟩
def VS.inj {h:Heap}{a:Addr}{x y:List K×List K}(hx:VS knd h x a)(hy:VS knd h y a):x=y:=by
 obtain⟨o,n,p,q,ho,_,hd,h1,h2⟩:=hx;obtain⟨o',n',p',q',ho',_,hd',h1',h2'⟩:=hy
 cases Option.some.inj (ho.symm.trans ho')
 rw[hd]at hd';injection hd' with z _;have z1:=XX Array.toList z
 simp at z1
 obtain⟨rfl,rfl⟩:=z1;exact Prod.ext (h1.inj h1') (h2.inj h2')
def VS.keeps {h h':Heap}{ks:List K×List K}{a d:Addr}{o:Obj}{es ep}(x:VS knd h ks a)(ho:h.get? d=some o)(hd:o.data=.dict es ep)(hs:Heap.SameBut d h h'):VS knd h' ks a:=by
 obtain⟨o',n,p,q,ho',hc,hd',h1,h2⟩:=x
 have hne:a≠d:=fun z=>by
  subst z;cases Option.some.inj (ho'.symm.trans ho);rw[hd]at hd';exact nomatch hd'
 exact⟨o',n,p,q,(hs.2 a hne).trans ho',hc,hd',h1.keeps ho hd hs,h2.keeps ho hd hs⟩
def D5 (knd:KeyKind prog w K)(ks:List K×List K):Int:=reduceHash (Builtin.Tuple.tupleHashOf [tupleKeyHash knd ks.1,tupleKeyHash knd ks.2])
variable {A:Around}{E:Qb}{s:Shared}
def IB {ks:List K×List K}{a:Addr}{Q:Int->Shared->Prop}(hu:A.units+5<cLine)(hk:VS knd s.heap ks a)(h:Q (D5 knd ks) { s with toks:=s.toks+(ks.1.length+ks.2.length+3) }) :
 wpAny (model prog w) A (pyHash (.ref a)) Q E s:=by
 have hT:=hk.typeIs;obtain⟨o,n,p,q,ho,_,hd,h1,h2⟩:=hk;unfold pyHash pyHashByItsType;refine Xb (wpAny_cRoomFor_or (.inr (by omega)) ?_);refine Xb (wpAny_specialOf hT F.slot_tuple_hash.lookup ?_);show wpAny _ _ (if (some (Value.builtin "tuple.__hash__")==some Value.none)=true then _ else _) Q E s;rw[Xc (by rw[beq_builtin_none];exact Xw)];refine Xb (wpAny_specialOf hT F.slot_tuple_hash.lookup ?_);show wpAny _ _ (callSpecialIfBoundUnlessNone? (.ref a) "__hash__" _ >>= _) Q E s;refine Xb (wpAny_callSpecialIfBoundUnlessNone?_slot hT F.slot_tuple_hash (wpAny_call_entry F.slot_tuple_hash hT F.entry_tuple_hash ?_ (F.args_tuple_hash_1 _)));show wpAny _ _ (Builtin.Tuple.tupleItemsOf (.ref a) >>= _) _ _ s;refine Xb (wpAny_tupleItemsOf ho hd ?_);refine Xb ?_
 rw[<- Array.forIn_toList];refine wpAny_forIn_list _
  (fun rest (b:Array Int) s'=>(rest=[.ref p,.ref q]/\b.toList=[]/\s'=s)\/(rest=[.ref q]/\b.toList=[tupleKeyHash knd ks.1]/\s'={ s with toks:=s.toks+(ks.1.length+1) }) \/
   (rest=[]/\b.toList=[tupleKeyHash knd ks.1,tupleKeyHash knd ks.2]/\s'={ s with toks:=s.toks+(ks.1.length+1)+(ks.2.length+1) }))
  _ ?_ ?_ _ _ (.inl ⟨rfl,rfl,rfl⟩)
 ·rintro x rest b s' (⟨hr,hb,rfl⟩|⟨hr,hb,rfl⟩|⟨hr,_⟩)
  ·injection hr with e1 e2
   subst e1 e2;refine Xb (wpAny_pyHash_tuple ?hu1 h1 ?_)
   case hu1=>show A.units+1<cLine;omega
   exact Xp (.inr (.inl ⟨rfl,by simp[hb],rfl⟩))
  ·injection hr with e1 e2
   subst e1 e2;refine Xb (wpAny_pyHash_tuple ?hu2 h2 ?_)
   case hu2=>show A.units+1<cLine;omega
   exact Xp (.inr (.inr ⟨rfl,by simp[hb],rfl⟩))
  ·cases hr
 ·rintro b s' (⟨hr,_⟩|⟨hr,_⟩|⟨_,hb,rfl⟩)
  ·cases hr
  ·cases hr
  show wpAny _ _ (retInt (Builtin.Tuple.tupleHashOf b.toList)) _ _ _;rw[hb];refine wpAny_ret_mkInt ?_;show wpAny _ _ (if (decide (-(2:Int)^63<=Builtin.Tuple.tupleHashOf [tupleKeyHash knd ks.1,tupleKeyHash knd ks.2])&&decide (Builtin.Tuple.tupleHashOf [tupleKeyHash knd ks.1,tupleKeyHash knd ks.2]<2^63))=true then _ else _) Q E _;unfold D5 reduceHash at h;have et:s.toks+(ks.1.length+ks.2.length+3)=s.toks+(ks.1.length+1)+(ks.2.length+1)+1:=by omega
  rw[et]at h;split
  ·rename_i hr
   rw[Xe hr]at h;exact Xp h
  ·rename_i hr
   rw[Xc hr]at h;exact Xb (wpAny_rule (Xp h))
def Ig {x y:List K×List K}{a b:Addr}{P:Fin->Shared->Prop}(hu:A.units+1<cLine)(hx:VS knd s.heap x a)(hy:VS knd s.heap y b)(h:P (.done (.ret (.bool (decide (x=y))))) s) :
 wpAny (model prog w) A (Builtin.«tuple.__eq__» ⟨[.ref a,.ref b],[]⟩) P E s:=by
 have hTb:=hy.typeIs;obtain⟨oa,na,p,q,hoa,_,hda,ha1,ha2⟩:=hx;obtain⟨ob,nb,p',q',hob,_,hdb,hb1,hb2⟩:=hy;show wpAny _ _ (isInstance (.ref b) (.type "tuple") >>= _) _ _ s;refine Xb (wpAny_isInstance hTb isSubtype_tuple_tuple ?_);simp only[JC,Wb,if_false];refine Xb (wpAny_tupleItemsOf hoa hda ?_);refine Xb (wpAny_tupleItemsOf hob hdb ?_);refine Xb ?_
 have e2:decide (x=y)=(decide (x.1=y.1)&&decide (x.2=y.2)):=by
  obtain⟨x1,x2⟩:=x;obtain⟨y1,y2⟩:=y
  simp
 refine wpAny_forIn_list _
  (fun rest r s'=>r.1=none/\s'=s/\((rest=[(.ref p,.ref p'),(.ref q,.ref q')])\/(rest=[(.ref q,.ref q')]/\x.1=y.1)\/(rest=[]/\x=y)))
  _ ?_ ?_ _ _ ⟨rfl,rfl,.inl rfl⟩
 ·rintro⟨u,v⟩ rest r s' ⟨hr,rfl,(hz|⟨hz,e1⟩|⟨hz,_⟩)⟩
  ·injection hz with z1 z2
   injection z1 with z3 z4;subst z2 z3 z4;refine Xb (wpAny_eqBool_tuple (by omega) ha1 hb1 ?_)
   by_cases hk:x.1=y.1
   ·rw[XV hk]
    simp only[JC,Wb,if_false];exact Xp ⟨rfl,rfl,.inr (.inl ⟨trivial,hk⟩)⟩
   ·rw[XS hk]
    simp only[Bool.not_false,if_true];rw[e2,XS hk,Bool.false_and]at h;exact Xb (Xp (Xp (Xp h)))
  ·injection hz with z1 z2
   injection z1 with z3 z4;subst z2 z3 z4;refine Xb (wpAny_eqBool_tuple (by omega) ha2 hb2 ?_)
   by_cases hk:x.2=y.2
   ·rw[XV hk]
    simp only[JC,Wb,if_false];exact Xp ⟨rfl,rfl,.inr (.inr ⟨trivial,Prod.ext e1 hk⟩)⟩
   ·rw[XS hk]
    simp only[Bool.not_false,if_true];rw[e2,XS hk,Bool.and_false]at h;exact Xb (Xp (Xp (Xp h)))
  ·cases hz
 ·rintro⟨r1,r2⟩ s' ⟨hr,rfl,(hz|⟨hz,_⟩|⟨_,e⟩)⟩
  ·cases hz
  ·cases hz
  simp only at hr
  subst hr;refine Xp ?_;rw[XV e]at h;exact h
def Iz {x y:List K×List K}{a b:Addr}{Q:Bool->Shared->Prop}(hu:A.units+5<cLine)(hx:VS knd s.heap x a)(hy:VS knd s.heap y b)(h:Q (decide (x=y)) s) :
 wpAny (model prog w) A (eqBool (.ref a) (.ref b)) Q E s:=by
 unfold eqBool;try with_reducible refine wpAny_holding ?_;show wpAny _ _ (if (Value.ref a==Value.ref b)=true then _ else _) Q E s
 by_cases hab:(Value.ref a==Value.ref b)=true
 ·rw[Xe hab]
  have e:a=b:=by have:=eq_of_beq hab;injection this
  subst e;cases hx.inj hy;exact Xb (wpAny_rule (Xp (by simpa using h)))
 ·rw[Xc hab]
  exact Xb (wpAny_richCompare_same_room (op:=.Eq) hx.typeIs hy.typeIs F.slot_tuple_eq
   (wpAny_call_entry F.slot_tuple_eq hx.typeIs F.entry_tuple_eq (Ig (by show _+1<cLine;simp;omega) hx hy ⟨_,rfl,(fun e=>nomatch e),wpAny_truthy_bool h⟩) (F.args_tuple_eq_2 _ _)) (by omega))
def E5 (n:Nat){ks:List K}{a:Addr}{Q:Bool->Shared->Prop}(hk:IsTupleKey knd s.heap ks a)(h:Q true s):wpAny (model prog w) A (eqIsQuiet (n+1) (.ref a)) Q E s:=by
 have hT:=hk.typeIs;obtain⟨o,items,m,ho,_,hd,hi⟩:=hk;unfold eqIsQuiet;refine Xb (wpAny_specialOf hT F.slot_tuple_eq.lookup ?_);show wpAny _ _ (isInstance (.ref a) (.type "tuple") >>= _) _ _ s;refine Xb (wpAny_isInstance hT isSubtype_tuple_tuple ?_);simp only[JC,Wb,if_false];refine Xb (wpAny_seqItems ho hd ?_);refine Xb ?_;show wpAny _ _ (forIn items _ _) _ _ s;rw[<- Array.forIn_toList];refine wpAny_forIn_list _ (fun rest r s'=>r.1=none/\s'=s/\∀v∈rest,carriedByValue v=true) _ ?_ ?_ _ _ ⟨rfl,rfl,hi.byValue⟩
 ·rintro v rest r s' ⟨hr,rfl,hall⟩
  rw[eqIsQuiet_byValue _ (hall v Xa)];refine Xb (Xp ?_);simp only[JC,Wb,if_false];exact Xp ⟨rfl,rfl,fun u hu'=>hall u (Xd _ hu')⟩
 ·rintro⟨r1,r2⟩ s' ⟨hr,rfl,_⟩
  simp only at hr
  subst hr;exact Xp h
def IE {ks:List K×List K}{a:Addr}{Q:Bool->Shared->Prop}(hk:VS knd s.heap ks a)(h:Q true s):wpAny (model prog w) A (eqIsQuiet 8 (.ref a)) Q E s:=by
 have hT:=hk.typeIs;obtain⟨o,n,p,q,ho,_,hd,h1,h2⟩:=hk;unfold eqIsQuiet;refine Xb (wpAny_specialOf hT F.slot_tuple_eq.lookup ?_);show wpAny _ _ (isInstance (.ref a) (.type "tuple") >>= _) _ _ s;refine Xb (wpAny_isInstance hT isSubtype_tuple_tuple ?_);simp only[JC,Wb,if_false];refine Xb (wpAny_seqItems ho hd ?_);refine Xb ?_;show wpAny _ _ (forIn #[Value.ref p,Value.ref q] _ _) _ _ s;rw[<- Array.forIn_toList];refine wpAny_forIn_list _ (fun rest r s'=>r.1=none/\s'=s/\∀v∈rest,∃z zs,v=.ref z/\IsTupleKey knd s.heap zs z) _ ?_ ?_ _ _ ⟨rfl,rfl,fun v hv=>?_⟩
 ·rintro v rest r s' ⟨hr,rfl,hall⟩
  obtain⟨z,zs,rfl,hz⟩:=hall v Xa;refine Xb (E5 6 hz ?_);simp only[JC,Wb,if_false];exact Xp ⟨rfl,rfl,fun u hu'=>hall u (Xd _ hu')⟩
 ·rintro⟨r1,r2⟩ s' ⟨hr,rfl,_⟩
  simp only at hr
  subst hr;exact Xp h
 ·rcases Xf.mp hv with rfl|hv
  ·exact⟨p,_,rfl,h1⟩
  ·rcases Xf.mp hv with rfl|hv
   ·exact⟨q,_,rfl,h2⟩
   ·cases hv
end
def DQ {prog:Program}{w:World}{K:Type} [DecidableEq K] (knd:KeyKind prog w K):HeapKind prog w (List K×List K) where
 is:=VS knd
 hash:=D5 knd
 draws:=fun ks=>ks.1.length+ks.2.length+3
 room:=fun A=>A.units+5<cLine
 inj:=fun hx hy=>hx.inj hy
 keeps:=fun x ho hd hs=>x.keeps ho hd hs
 pyHash:=fun hu hk h=>IB hu hk h
 eqBool:=fun hu hx hy h=>Iz hu hx hy h
 quiet:=fun hk h=>IE hk h
section
variable {prog:Program}{w:World}{K:Type} [DecidableEq K] {knd:HeapKind prog w K}{A:Around}{E:Qb}{s:Shared}
def IH {d a:Addr}{xs:List (K×Addr×Value)}{k:K}{dflt:Value}{Q:Qb}(hu:knd.room A)(hkey:knd.is s.heap k a)(hm:s.heap.DictOfH knd d xs)
 (hthere:∀p,atKey xs k=some p->Q p.2 { s with toks:=s.toks+knd.draws k })
 (hnew:atKey xs k=none->∀h',h'.DictOfH knd d (xs++[(k,a,dflt)])->Heap.SameBut d s.heap h'->Q dflt { s with heap:=h',toks:=s.toks+knd.draws k })
 (hsz:xs.length<=sizeLine) :
 wpAny (model prog w) A (dictSetDefault d (.ref a) dflt) Q E s:=by
 obtain⟨o,es,ep,ho,hc,hd,he,his,hn⟩:=hm;unfold dictSetDefault;try with_reducible refine wpAny_holding ?_;refine Xb (knd.pyHash hu hkey ?_);refine Xb (wpAny_dictFind_heap (s:={ s with toks:=s.toks+knd.draws k }) hu hkey ho hd he his hn ?_ ?_)
 ·intro hno
  have hnot:k∉xs.map (·.1):=not_mem_keys_of_get hno
  refine Xb (wpAny_rule (Xb (wpAny_updateDictKeys (hz:=by have e:=size_of_entries he;omega) (s:={ s with toks:=s.toks+knd.draws k }) ho hd (Xp (hnew (atKey_none_of_get hno) _ ⟨_,_,ep+1,X8 _ ho (Obj.isFreed_of_dict (Obj.data_mapDictKeys hd _)),
   hc.mapDictKeys _,Obj.data_mapDictKeys hd _,?_,?_,?_⟩ (Heap.SameBut.update ..))))))
  ·simp[he,entryOfKey]
  ·intro x hx
   rcases Xx.mp hx with hx|hx
   ·exact knd.keeps (his x hx) ho hd (Heap.SameBut.update ..)
   ·simp only[Xg]at hx
    subst hx;exact knd.keeps hkey ho hd (Heap.SameBut.update ..)
  ·rw[Xy,JG]
   refine⟨hn,by simp,?_⟩;intro x hx y hy;simp only[Xv,U8,Xg]at hy;subst hy;exact fun e=>hnot (e▸hx)
 ·intro j p hj
  refine Xb (wpAny_dictEntries (s:={ s with toks:=s.toks+knd.draws k }) ho hd ?_);rw[entry_at he j,hj];exact Xb (wpAny_rule (Xp (hthere _ (atKey_of_get hn hj))))
def IG (knd:HeapKind prog w K)(d a:Addr)(hd:(d==sysModules)=false)(dflt:Value) :
 MeetsIn prog w (Builtin.«dict.setdefault» ⟨[.ref d,.ref a,dflt],[]⟩) (fun A R s=>knd.room A.in1/\∃k xs,knd.is s.heap k a/\s.heap.DictOfH knd d xs/\xs.length<=sizeLine /\
  (∀p,atKey xs k=some p->R (.ok (.ret p.2)) { s with toks:=s.toks+knd.draws k }) /\
  (atKey xs k=none->∀h',h'.DictOfH knd d (xs++[(k,a,dflt)])->Heap.SameBut d s.heap h'->R (.ok (.ret dflt)) { s with heap:=h',toks:=s.toks+knd.draws k })) :=
 .of_wp fun A R s ⟨hu,k,xs,hkey,hm,hz,h1,h2⟩=>by
  unfold Builtin.«dict.setdefault»;refine Xb ?_;unfold Builtin.Dict.keyAndDefault;refine Xb (wpAny_notOrdered_dict hm.typeIs ?_);show wpAny _ _ (pure (d,Value.ref a,some dflt)) _ _ s;refine Xp ?_;show wpAny _ _ (if (d==sysModules)=true then _ else (dictSetDefault d (.ref a) dflt >>= _)) _ _ s;rw[Xc (by rw[hd];exact Xw)];exact Xb (IH hu hkey hm (fun p hp=>Xp ⟨p.2,rfl,h1 p hp⟩) (fun hn h' hm' hs'=>Xp ⟨dflt,rfl,h2 hn h' hm' hs'⟩) hz)
end
end PySem
namespace L2
open PySem PySem.Spec PyProof.Rows
section
variable {κ:Type} [DecidableEq κ]
def Zr (kvs:List (κ×V))(k:κ):Option V:=(kvs.find? fun kv=>decide (kv.1=k)).map (·.2)
def VB (kvs:List (κ×V))(k:κ)(v:V):List (κ×V) :=
 if (kvs.any fun kv=>decide (kv.1=k))=true then kvs.map (fun kv=>if kv.1=k then (kv.1,v) else kv) else kvs++[(k,v)]
def Yj {p:κ×V}{r:List (κ×V)}{k:κ}(e:p.1=k):Zr (p::r) k=some p.2:=by simp[Zr,Xz,e]
def Yi {p:κ×V}{r:List (κ×V)}{k:κ}(e:¬p.1=k):Zr (p::r) k=Zr r k:=by simp[Zr,Xz,e]
theorem RK (k:κ):∀kvs:List (κ×V),(kvs.any fun kv=>decide (kv.1=k))=(Zr kvs k).isSome
 |[]=>rfl
 |p::r=>by
   rw[List.any_cons];by_cases e:p.1=k
   ·simp only[Yj e,XV e,Bool.true_or,Option.isSome_some]
   ·rw[Yi e,XS e,Bool.false_or];exact RK k r
theorem Sl (k j:κ)(y:V):∀kvs:List (κ×V),Zr kvs k=none->Zr (kvs++[(k,y)]) j=if j=k then some y else Zr kvs j
 |[],_=>by
   by_cases e:k=j
   ·rw[Xe e.symm];exact Yj (p:=(k,y)) e
   ·rw[Xc (fun z=>e z.symm)];exact Yi (p:=(k,y)) e
 |p::r,hn=>by
   rw[WQ];have hk:¬p.1=k:=fun z=>by rw[Yj z]at hn;cases hn
   rw[Yi hk]at hn;have ih:=Sl k j y r hn
   by_cases e:p.1=j
   ·rw[Yj e,Yj e,Xc (fun z=>hk (e.trans z))]
   ·rw[Yi e,Yi e,ih]
def SV (kvs:List (κ×V))(k:κ)(v:V):(VB kvs k v).length<=kvs.length+1:=by
 unfold VB;split
 ·rw[Xn];omega
 ·rw[Xm,XJ,List.length_nil];omega
def ZE.isSome_eq {o:Option V}{u:Qf}(r:ZE o u):o.isSome=u.isSome:=by
 cases o with
 |none=>cases u with
   |none=>rfl
   |some _=>exact(show False from r).elim
 |some _=>cases u with
   |none=>exact(show False from r).elim
   |some _=>rfl
def ZE.getD {o:Option V}{u:Qf}{d:V}{d':Value}(r:ZE o u)(rd:QI d d'):QI (o.getD d) (u.getD d'):=by
 cases o with
 |none=>cases u with
   |none=>exact rd
   |some _=>exact(show False from r).elim
 |some _=>cases u with
   |none=>exact(show False from r).elim
   |some _=>exact r
def KV.val {kvs:List (κ×V)}{vs:List (κ×Value)}(r:KV kvs vs)(k:κ):ZE (Zr kvs k) (valueAt vs k):=by
 unfold KV at r;induction r with
 |nil=>exact True.intro
 |@cons p q ps qs h t ih =>
   obtain⟨h1,h2⟩:=h
   by_cases e:p.1=k
   ·have e':q.1=k:=h1.symm.trans e
    have b:valueAt (q::qs) k=some q.2:=by simp[valueAt,Xz,e']
    rw[Yj e,b];exact h2
   ·have e':¬q.1=k:=fun z=>e (h1.trans z)
    have b:valueAt (q::qs) k=valueAt qs k:=by simp[valueAt,Xz,e']
    rw[Yi e,b];exact ih
def KV.any {kvs:List (κ×V)}{vs:List (κ×Value)}(r:KV kvs vs)(k:κ):(kvs.any fun kv=>decide (kv.1=k))=vs.any fun kv=>decide (kv.1=k):=by
 unfold KV at r;induction r with
 |nil=>rfl
 |cons h t ih=>rw[List.any_cons,List.any_cons,ih,h.1]
def KV.repl {kvs:List (κ×V)}{vs:List (κ×Value)}(r:KV kvs vs)(k:κ){y:V}{u:Value}(ry:QI y u) :
 KV (kvs.map fun kv=>if kv.1=k then (kv.1,y) else kv) (vs.map fun kv=>if kv.1=k then (kv.1,u) else kv):=by
 unfold KV at r ⊢;induction r with
 |nil=>exact .nil
 |@cons p q ps qs h t ih =>
   rw[Xv,Xv];refine .cons ?_ ih;obtain⟨h1,h2⟩:=h
   by_cases e:p.1=k
   ·rw[Xe e,Xe (h1.symm.trans e)];exact⟨h1,ry⟩
   ·rw[Xc e,Xc (fun z=>e (h1.trans z))];exact⟨h1,h2⟩
def KV.put {kvs:List (κ×V)}{vs:List (κ×Value)}(r:KV kvs vs)(k:κ){y:V}{u:Value}(ry:QI y u):KV (VB kvs k y) (stored vs k u):=by
 unfold VB stored;rw[r.any k];by_cases e:(vs.any fun kv=>decide (kv.1=k))=true
 ·rw[Xe e,Xe e];exact r.repl k ry
 ·rw[Xc e,Xc e];exact Paired.snoc r ⟨rfl,ry⟩
def KV.keys {kvs:List (κ×V)}{vs:List (κ×Value)}(r:KV kvs vs):kvs.map (·.1)=vs.map (·.1):=by
 unfold KV at r;induction r with
 |nil=>rfl
 |cons h t ih=>rw[Xv,Xv,ih,h.1]
def KV.length {kvs:List (κ×V)}{vs:List (κ×Value)}(r:KV kvs vs):kvs.length=vs.length:=Paired.length r
end
def JW {P:Program}{w:World}{k:Key}{u:Value}(r:QI (kV k) u):(ZA P w).is k u=true:=by
 cases k with
 |inl i=>obtain⟨t,e⟩:=(show ∃t,u=Value.int i t from r);subst e;exact EX P w i t
 |inr x=>obtain⟨t,e⟩:=(show ∃t,u=Value.str x t from r);subst e;exact E4 P w x t
theorem Sh {P:Program}{w:World}:∀{ks:List Key} {us:Qe},QS (ks.map kV) us->ItemsAre (ZA P w) ks us
 |[],_,r=>by rw[U8]at r;cases r;exact .nil
 |k::ks,_,r=>by
   rw[Xv]at r;cases r with
   |cons h t=>exact .cons (JW h) (Sh t)
abbrev KT (H:Hp):List (List Key×V)->List (List Key×Addr×Value)->Prop:=Paired fun p q=>p.1=q.1/\H q.2.1=some (.tup (p.1.map kV))/\QI p.2 q.2.2
def KT.val {H:Hp}{kvs:List (List Key×V)}{xs:List (List Key×Addr×Value)}(r:KT H kvs xs)(k:List Key):ZE (Zr kvs k) ((atKey xs k).map (·.2)):=by
 induction r with
 |nil=>exact True.intro
 |@cons p q ps qs h t ih =>
   obtain⟨h1,_,h2⟩:=h
   by_cases e:p.1=k
   ·have e':q.1=k:=h1.symm.trans e
    have b:atKey (q::qs) k=some q.2:=by simp[atKey,Xz,e']
    rw[Yj e,b];exact h2
   ·have e':¬q.1=k:=fun z=>e (h1.trans z)
    have b:atKey (q::qs) k=atKey qs k:=by simp[atKey,Xz,e']
    rw[Yi e,b];exact ih
def KT.repl {H:Hp}{kvs:List (List Key×V)}{xs:List (List Key×Addr×Value)}(r:KT H kvs xs)(k:List Key){y:V}{u:Value}(ry:QI y u) :
 KT H (kvs.map fun kv=>if kv.1=k then (kv.1,y) else kv) (xs.map (putAt k u)):=by
 induction r with
 |nil=>exact .nil
 |@cons p q ps qs h t ih =>
   rw[Xv,Xv];refine .cons ?_ ih;obtain⟨h1,h2,h3⟩:=h;unfold putAt;by_cases e:p.1=k
   ·rw[Xe e,Xe (h1.symm.trans e)];exact⟨h1,h2,ry⟩
   ·rw[Xc e,Xc (fun z=>e (h1.trans z))];exact⟨h1,h2,h3⟩
def KT.put {H:Hp}{kvs:List (List Key×V)}{xs:List (List Key×Addr×Value)}(r:KT H kvs xs)(k:List Key){b:Addr}{y:V}{u:Value}(hb:H b=some (.tup (k.map kV)))(ry:QI y u) :
 KT H (VB kvs k y) (storedH xs k b u):=by
 have e:(kvs.any fun kv=>decide (kv.1=k))=(atKey xs k).isSome:=by
  rw[RK,(r.val k).isSome_eq,WR]
 unfold VB storedH;rw[e];by_cases q:(atKey xs k).isSome=true
 ·rw[Xe q,Xe q];exact r.repl k ry
 ·rw[Xc q,Xc q];exact Paired.snoc r ⟨rfl,hb,ry⟩
def KT.keeps {H H':Hp}{kvs:List (List Key×V)}{xs:List (List Key×Addr×Value)}(r:KT H kvs xs)(ht:∀b ys,H b=some (.tup ys)->H' b=some (.tup ys)):KT H' kvs xs :=
 Paired.mapP r fun _ _ z=>⟨z.1,ht _ _ z.2.1,z.2.2⟩
section
variable {P:Program}{w:World}{H:Hp}{h:Heap}{a:Addr}
def Ks {u:HO}(ok:HOk P w H h)(e:Rd H a u):Z0 P w H h a u:=e.ok ok
def W5 {kvs:List (Key×V)}(ok:HOk P w H h)(e:Rd H a (.dK kvs)):kvs.length<=sizeLine/\(a==sysModules)=false/\∃vs,KV kvs vs/\h.DictOf (ZA P w) a vs :=
 show Z0 P w H h a (.dK kvs) from Ks ok e
def M0 {kvs:List (Key×V)}(ok:HOk P w H h)(e:H a=some (.dK kvs)):kvs.length<=sizeLine/\(a==sysModules)=false/\∃vs,KV kvs vs/\h.DictOf (ZA P w) a vs:=W5 ok (.inl e)
def YO {ks:List Key}(ok:HOk P w H h)(e:H a=some (.tup (ks.map kV))):(tupleKind (ZA P w)).is h ks a:=by
 obtain⟨_,its,r,o,h1,h2,n,h3⟩:=(show Z0 P w H h a (.tup (ks.map kV)) from ok a _ e)
 exact⟨o,its.toArray,n,h1,h2,h3,by simpa using Sh r⟩
def Jd {kvs:List (List Key×V)}(ok:HOk P w H h)(e:Rd H a (.dT kvs)):kvs.length<=sizeLine/\(a==sysModules)=false /\
 ∃xs,KT H kvs xs/\h.DictOfH (tupleKind (ZA P w)) a xs:=by
 obtain⟨z,y,xs,r,o,es,ep,h1,h2,h3,h4,h5⟩:=(show Z0 P w H h a (.dT kvs) from Ks ok e);refine⟨z,y,xs,r,o,es,ep,h1,h2,h3,h4,fun x hx=>?_,h5⟩
 have all:∀{l:List (List Key×V)} {m:List (List Key×Addr×Value)},KT H l m->∀x∈m,(tupleKind (ZA P w)).is h x.1 x.2.1:=by
  intro l m q;induction q with
  |nil=>intro x hx;exact nomatch hx
  |@cons p q ps qs hq t ih =>
    intro x hx;rcases Xf.mp hx with e|hx
    ·subst e
     exact YO ok (by rw[<- hq.1];exact hq.2.1)
    ·exact ih x hx
 exact all r x hx
def Mv {kvs:List (List Key×V)}(ok:HOk P w H h)(e:H a=some (.dT kvs)):kvs.length<=sizeLine/\(a==sysModules)=false /\
 ∃xs,KT H kvs xs/\h.DictOfH (tupleKind (ZA P w)) a xs:=Jd ok (.inl e)
end
def Vp (H:Hp)(a:Addr)(y:V)(r:Option V):Prop :=
 (∃kvs k,Rd H a (.dK kvs)/\y=kV k/\r=Zr kvs k)\/∃kvs k b,Rd H a (.dT kvs)/\y=.ref b/\H b=some (.tup (k.map kV))/\r=Zr kvs k
def Wf (H:Hp)(a:Addr)(y v:V)(H':Hp):Prop :=
 (∃kvs k,H a=some (.dK kvs)/\y=kV k/\kvs.length<sizeLine/\H'=upd H a (.dK (VB kvs k v))) \/
 ∃kvs k b,H a=some (.dT kvs)/\y=.ref b/\H b=some (.tup (k.map kV))/\kvs.length<sizeLine/\H'=upd H a (.dT (VB kvs k v))
def Vp.k {H:Hp}{a:Addr}{kvs:List (Key×V)}{k:Key}(e:H a=some (.dK kvs)):Vp H a (kV k) (Zr kvs k):=.inl ⟨kvs,k,.inl e,rfl,rfl⟩
def Vp.t {H:Hp}{a b:Addr}{kvs:List (List Key×V)}{k:List Key}(e:H a=some (.dT kvs))(eb:H b=some (.tup (k.map kV))):Vp H a (.ref b) (Zr kvs k):=.inr ⟨kvs,k,b,.inl e,rfl,eb,rfl⟩
def Wf.k {H:Hp}{a:Addr}{kvs:List (Key×V)}{k:Key}{v:V}(e:H a=some (.dK kvs))(hl:kvs.length<sizeLine):Wf H a (kV k) v (upd H a (.dK (VB kvs k v))):=.inl ⟨kvs,k,e,rfl,hl,rfl⟩
def Wf.t {H:Hp}{a b:Addr}{kvs:List (List Key×V)}{k:List Key}{v:V}(e:H a=some (.dT kvs))(eb:H b=some (.tup (k.map kV)))(hl:kvs.length<sizeLine) :
 Wf H a (.ref b) v (upd H a (.dT (VB kvs k v))):=.inr ⟨kvs,k,b,e,rfl,eb,hl,rfl⟩
section
variable {X:Cx}{XaR:Qc}{σ:St}{H:Hp}{s:Shared}{a:Addr}{y v:V}{u r:Value}{o:Option V}{A:Around}{E:Qb}
def Qq.big (I:Qq X XaR σ H s):sysModules<s.heap.objs.size:=by
 have h:mainGlobals<s.heap.objs.size:=(I.mod.glob.keeps I.bk).lt;exact Nat.lt_trans (by decide) h
def AS {Q:Qb}(hu:A.units+1<cLine)(I:Qq X XaR σ H s)(g:Vp H a y (some v))(ry:QI y u)(h:∀w' s',Qq X XaR σ H s'->QI v w'->Q w' s') :
 wpAny (model X.prog X.w) A (getItem (.ref a) u) Q E s:=by
 rcases g with ⟨kvs,k,e,ey,l⟩|⟨kvs,k,b,e,ey,eb,l⟩
 ·subst ey
  obtain⟨z,hd,vs,rel,dd⟩:=W5 I.hok e;obtain⟨w',hw,rw'⟩:=ZE.some_of (v:=v) (o:=valueAt vs k) (by rw[l];exact rel.val k);exact wpAny_getItem_of (JW ry) dd.mapOf hw (h w' _ (I.tok _) rw')
 ·subst ey
  cases (show u=Value.ref b from ry)
  obtain⟨z,hd,xs,rel,dd⟩:=Jd I.hok e;obtain⟨w',hw,rw'⟩:=ZE.some_of (v:=v) (o:=(atKey xs k).map (·.2)) (by rw[l];exact rel.val k);obtain⟨p,hp,hp2⟩:=Option.map_eq_some_iff.mp hw;refine wpAny_getItem_heap (tupleKind_room_in1 hu) (YO I.hok eb) dd hp ?_;rw[hp2];exact h w' _ (I.tok _) rw'
def Ph {Q:Qb}(hu:A.units+1<cLine)(I:Qq X XaR σ H s)(g:Vp H a y o)(ry:QI y u)(h:∀s',Qq X XaR σ H s'->Q (.bool o.isSome) s') :
 wpAny (model X.prog X.w) A (compareOp .In u (.ref a)) Q E s:=by
 rcases g with ⟨kvs,k,e,ey,l⟩|⟨kvs,k,b,e,ey,eb,l⟩
 ·subst ey
  obtain⟨z,hd,vs,rel,dd⟩:=W5 I.hok e;refine wpAny_in_of (JW ry) hd dd.mapOf ?_;rw[<- (rel.val k).isSome_eq,<- l];exact h _ (I.tok _)
 ·subst ey
  cases (show u=Value.ref b from ry)
  obtain⟨z,hd,xs,rel,dd⟩:=Jd I.hok e;refine wpAny_in_heap (tupleKind_room_in1 hu) (YO I.hok eb) hd dd ?_;have q:=(rel.val k).isSome_eq;rw[WR]at q;rw[<- q,<- l];exact h _ (I.tok _)
def TM {Q:Qb}(hu:A.units+1<cLine)(I:Qq X XaR σ H s)(g:Vp H a y o)(ry:QI y u)(h:∀s',Qq X XaR σ H s'->Q (.bool (!o.isSome)) s') :
 wpAny (model X.prog X.w) A (compareOp .NotIn u (.ref a)) Q E s:=by
 rcases g with ⟨kvs,k,e,ey,l⟩|⟨kvs,k,b,e,ey,eb,l⟩
 ·subst ey
  obtain⟨z,hd,vs,rel,dd⟩:=W5 I.hok e;refine wpAny_notIn_of (JW ry) hd dd.mapOf ?_;rw[<- (rel.val k).isSome_eq,<- l];exact h _ (I.tok _)
 ·subst ey
  cases (show u=Value.ref b from ry)
  obtain⟨z,hd,xs,rel,dd⟩:=Jd I.hok e;refine wpAny_notIn_heap (tupleKind_room_in1 hu) (YO I.hok eb) hd dd ?_;have q:=(rel.val k).isSome_eq;rw[WR]at q;rw[<- q,<- l];exact h _ (I.tok _)
def UX {h':Heap}{t':Nat}{ob:HO}(I:Qq X XaR σ H s)(mu:Mut (H a))(hs:Heap.SameBut a s.heap h')(he:∃q,h'.get? a=some q)(new:Z0 X.prog X.w (upd H a ob) h' a ob) :
 Qq X XaR σ (upd H a ob) { s with heap:=h',toks:=t' } :=
 I.write (x:=a) (e:=a) mu (.inl rfl) (fun b q hb z=>(hs.2 b hb).trans z) he new
def KW {P:Program}{w:World}{H':Hp}{h':Heap}{kvs:List (Key×V)}{vs:List (Key×Value)}(z:kvs.length<=sizeLine)(hd:(a==sysModules)=false)(rel:KV kvs vs)(dd:h'.DictOf (ZA P w) a vs) :
 Z0 P w H' h' a (.dK kvs):=⟨z,hd,vs,rel,dd⟩
def C8 {H':Hp}{Q:Unit->Shared->Prop}(hu:A.units+1<cLine)(I:Qq X XaR σ H s)(g:Wf H a y v H')(ry:QI y u)(rv:QI v r)(h:∀s',Qq X XaR σ H' s'->Q () s') :
 wpAny (model X.prog X.w) A (setItem (.ref a) u r) Q E s:=by
 rcases g with ⟨kvs,k,e,ey,l,eH⟩|⟨kvs,k,b,e,ey,eb,l,eH⟩
 ·subst ey eH
  obtain⟨z,hd,vs,rel,dd⟩:=M0 I.hok e;have hz:vs.length<=sizeLine:=by rw[<- rel.length];exact z
  have hl:(VB kvs k v).length<=sizeLine:=by have:=SV kvs k v;omega
  refine wpAny_setItem_pairs (hsz:=hz) (JW ry) dd fun h' dd' hs=>h _ ?_;have he:∃q,h'.get? a=some q:=let ⟨q,_,_,hq,_⟩:=dd';⟨q,hq⟩;exact UX I (by rw[e];exact True.intro) hs he (KW hl hd (rel.put k rv) dd')
 ·subst ey eH
  cases (show u=Value.ref b from ry)
  obtain⟨z,hd,xs,rel,dd⟩:=Mv I.hok e;have hz:xs.length<=sizeLine:=by rw[<- Paired.length rel];exact z
  have hl:(VB kvs k v).length<=sizeLine:=by have:=SV kvs k v;omega
  refine wpAny_setItem_heap (hsz:=hz) (tupleKind_room_in1 hu) (YO I.hok eb) dd fun h' dd' hs=>h _ ?_;obtain⟨q,es,ep,hq,h2,h3,h4,_,h5⟩:=dd';refine UX I (by rw[e];exact True.intro) hs ⟨q,hq⟩ ⟨hl,hd,_,(rel.put k eb rv).keeps fun c ys ec=>?_,q,es,ep,hq,h2,h3,h4,h5⟩;rw[Qr (Kv ec e (fun z=>nomatch z))];exact ec
end
section
variable {X:Cx}{XaR:Qc}{σ:St}{H:Hp}{s:Shared}{a:Addr}{kvs:List (Key×V)}{k:Key}{u:Value}{A:Around}{E:Qb}
end
def BZ (i:Expr):Prop := ∀ov iv,subscripted i false ov iv=operate [ov,iv] (getItem ov iv)
def ND {prog:Program}{w:World}{A:Around}{E:Qb}{s:Shared}{env:Env}{value slice:Expr}{pos:Pos}{T id:String}{Q:Qb}
 (hl:typeLookup (.type T) "__getitem__"=pure (some (.builtin id))) (hs:BZ slice)
 (h:wpAny (model prog w) A (eval value env) (fun o b7=>wpAny (model prog w) A (eval slice env) (fun i b6=>b6.TypeIs o T/\wpAny (model prog w) A (getItem o i) Q E b6) E b7) E s) :
 wpAny (model prog w) A (eval (.Subscript value slice pos) env) Q E s:=by
 refine Subscript_ (wpAny_mono h (fun o b7 b9=>wpAny_mono b9 (fun i b6 bj=>?_) fun _ _ x=>x) fun _ _ x=>x);obtain⟨hT,bj⟩:=bj;unfold subscriptTail;refine Xb ?_;rw[getitemInPython_of_ne hT.not_modules];refine Xb (wpAny_specialOf hT hl ?_)
 have fin:wpAny (model prog w) A (subscripted slice false o i) (fun r b8=>wpAny (model prog w) A (letTemporaryGo value o r >>= fun _=>pure r) Q E b8) E b6:=by
  rw[hs o i];exact wpAny_operating (wpAny_mono bj (fun r b8 bz=>Xb (wpAny_letTemporaryGo (Xp bz))) fun _ _ x=>x)
 first
  |exact Xp (Xb fin)
  |exact Xb (Xp (Xb fin))
  |exact Xb fin
def EV {X:Cx} {XaR:Qc} {σ:St} {H:Hp} {s:Shared} {a:Addr} {y:V} {o:Option V} (I:Qq X XaR σ H s) (g:Vp H a y o):s.TypeIs (.ref a) "dict" := by
 rcases g with ⟨kvs,k,e,_,_⟩|⟨kvs,k,b,e,_,_,_⟩
 ·obtain⟨_,_,vs,_,dd⟩:=W5 I.hok e
  exact dd.typeIs
 ·obtain⟨_,_,xs,_,dd⟩:=Jd I.hok e
  exact dd.typeIs
def KG (td ty:TE):TE:=fun σ H Q=>td σ H fun x H1=>ty σ H1 fun y H2=>∃a v,x=.ref a/\Vp H2 a y (some v)/\Q v H2
def GB (ty td:TE):TE:=fun σ H Q=>ty σ H fun y H1=>td σ H1 fun x H2=>∃a o,x=.ref a/\Vp H2 a y o/\Q (.bl o.isSome) H2
def NG (ty td:TE):TE:=fun σ H Q=>ty σ H fun y H1=>td σ H1 fun x H2=>∃a o,x=.ref a/\Vp H2 a y o/\Q (.bl (!o.isSome)) H2
def GL (td ty tv:TE):TS:=fun D σ H=>tv σ H fun v H1=>td σ H1 fun x H2=>ty σ H2 fun y H3=>∃a H4,x=.ref a/\Wf H3 a y v H4/\D.nx σ H4
section
variable {X:Cx}{o i e value:Expr}{pos pos' tpos:Pos}{td ty tv:TE}
def NI (hu:X.A.units+1<cLine)(ho:PE X o td)(hi:PE X i ty)(hs:BZ i):PE X (.Subscript o i pos) (KG td ty):=by
 intro XaR s σ H Q I h;refine ND PySem.F.slot_dict_getitem.lookup hs (Q2 (ho XaR s σ H _ I h) fun u s1 ⟨x,H1,I1,rx,q1⟩=>Q2 (hi XaR s1 σ H1 _ I1 q1) fun iv s2 ⟨y,H2,I2,ry,a,v,ex,g,q2⟩=>?_);subst ex;obtain rfl:u=Value.ref a:=rx
 exact⟨EV I2 g,AS hu I2 g ry fun w' s3 I3 rw'=>⟨v,H2,I3,rw',q2⟩⟩
def MW (hu:X.A.units+1<cLine)(hi:PE X i ty)(ho:PE X o td):PC X .In i o (GB ty td):=by
 intro XaR s σ H Q I h;refine Q2 (hi XaR s σ H _ I h) fun iv s1 ⟨y,H1,I1,ry,q1⟩=>Q2 (ho XaR s1 σ H1 _ I1 q1) fun u s2 ⟨x,H2,I2,rx,a,ov,ex,g,q2⟩=>?_;subst ex;obtain rfl:u=Value.ref a:=rx;exact Ph hu I2 g ry fun s3 I3=>⟨.bl ov.isSome,H2,I3,rfl,q2⟩
def Aj (hu:X.A.units+1<cLine)(hi:PE X i ty)(ho:PE X o td):PC X .NotIn i o (NG ty td):=by
 intro XaR s σ H Q I h;refine Q2 (hi XaR s σ H _ I h) fun iv s1 ⟨y,H1,I1,ry,q1⟩=>Q2 (ho XaR s1 σ H1 _ I1 q1) fun u s2 ⟨x,H2,I2,rx,a,ov,ex,g,q2⟩=>?_;subst ex;obtain rfl:u=Value.ref a:=rx;exact TM hu I2 g ry fun s3 I3=>⟨.bl (!ov.isSome),H2,I3,rfl,q2⟩
def Bk (hu:X.A.units+1<cLine)(ho:PE X o td)(hi:PE X i ty)(hv:PE X value tv)(hs:swapsWith value (some (.Subscript o i pos')) pos.line X.env=pure false) :
 PS X (.Assign [.Subscript o i pos'] value pos) (GL td ty tv):=by
 intro XaR s σ H D I h;refine wpAny_Assign_Subscript (Q2 (hv XaR s σ H _ I h) fun r s1 ⟨v,H1,I1,rv,q1⟩=>Q2 (ho XaR s1 σ H1 _ I1 q1) fun u s2 ⟨x,H2,I2,rx,q2⟩=>Q2 (hi XaR s2 σ H2 _ I2 q2) fun iv s3 ⟨y,H3,I3,ry,a,H4,ex,g,q3⟩=>?_) hs;subst ex;obtain rfl:u=Value.ref a:=rx;exact C8 hu I3 g ry rv fun s4 I4=>⟨σ,H4,I4,q3⟩
end
def Fl {P:Program} {w:World} {H:Hp} (h:Heap) (hb:sysModules<h.objs.size):Z0 P w H (h.push { cls:=.type "dict",data:=.dict #[] }) h.objs.size (.dK []) :=
 ⟨XF _,beq_eq_false_iff_ne.mpr (Ne.symm (Xo hb)),[],.nil,Heap.DictOf.new h⟩
def Rh {P:Program} {w:World} {H:Hp} (h:Heap) (hb:sysModules<h.objs.size):Z0 P w H (h.push { cls:=.type "dict",data:=.dict #[] }) h.objs.size (.dT []) :=
 ⟨XF _,beq_eq_false_iff_ne.mpr (Ne.symm (Xo hb)),[],.nil,_,#[],0,XD _ rfl,⟨rfl,rfl,rfl⟩,rfl,rfl,WP⟩
def KY:TE:=fun _ H Q=>∀p,H p=none->Q (.ref p) (upd H p (.dK []))
def Pu:TE:=fun _ H Q=>∀p,H p=none->Q (.ref p) (upd H p (.dT []))
section
variable {X:Cx}{pos:Pos}
def RG:PE X (.Dict [] [] pos) KY:=fun XaR s σ H Q I h =>
 wpAny_Dict_empty ⟨.ref s.heap.objs.size,_,I.laid (a:=s.heap.objs.size) (o:=.dK []) (t':=s.toks) (fun _ _ q=>Xi _ q) (Xq _) (Fl s.heap I.big),rfl,h _ (I.hok.fresh (Xq _))⟩
def FF:PE X (.Dict [] [] pos) Pu:=fun XaR s σ H Q I h =>
 wpAny_Dict_empty ⟨.ref s.heap.objs.size,_,I.laid (a:=s.heap.objs.size) (o:=.dT []) (t':=s.toks) (fun _ _ q=>Xi _ q) (Xq _) (Rh s.heap I.big),rfl,h _ (I.hok.fresh (Xq _))⟩
end
structure M2 (X:Cx)(o:Expr)(m:Str)(apos:Pos)(e f:Expr)(cpos:Pos):Prop where
 base:attributeBase o m X.env (eval o X.env)=eval o X.env
 few:((backTo cpos (starEach [e,f] X.env)).all (fun x => !x.1)&&(backToKw cpos (keywordEach [] X.env)).all (fun x=>x.1.isSome)
  && decide (([e,f]:Qi).length+([]:List Keyword).length+(if ([]:List Keyword).isEmpty then 0 else 1)<30))=true
 line:(apos.endLine==cpos.line)=true
 trees:backTo cpos (starEach [e,f] X.env)=[(false,eval e X.env),(false,eval f X.env)]
def IsD (H:Hp)(a:Addr):Prop:=(∃kvs,Rd H a (.dK kvs))\/∃kvs,Rd H a (.dT kvs)
def Na {X:Cx}{XaR:Qc}{σ:St}{H:Hp}{s:Shared}{a:Addr}(I:Qq X XaR σ H s)(d:IsD H a) :
 s.TypeIs (.ref a) "dict" /\ (∀b,Value.ref a=.ref b->∃ob,s.heap.get? b=some ob/\ob.dict=none)/\(a==sysModules)=false:=by
 rcases d with ⟨kvs,e⟩|⟨kvs,e⟩
 ·obtain⟨_,hd,vs,_,dd⟩:=W5 I.hok e
  refine⟨dd.typeIs,fun b q=>?_,hd⟩
  cases q
  obtain⟨ob,_,_,h1,h2,_⟩:=dd
  exact⟨ob,h1,h2.2.1⟩
 ·obtain⟨_,hd,xs,_,dd⟩:=Jd I.hok e
  refine⟨dd.typeIs,fun b q=>?_,hd⟩
  cases q
  obtain⟨ob,_,_,h1,h2,_⟩:=dd
  exact⟨ob,h1,h2.2.1⟩
section
variable {X:Cx}{XaR:Qc}{σ:St}{H:Hp}{s:Shared}{a:Addr}{y d:V}{u r:Value}{o:Option V}{A:Around}{E:Qb}
def Tt {Q:Qb}(hu:A.units+1<cLine)(I:Qq X XaR σ H s)(g:Vp H a y o)(ry:QI y u)(rd:QI d r)(h:∀w' s',Qq X XaR σ H s'->QI (o.getD d) w'->Q w' s') :
 wpAny (model X.prog X.w) A (call (.builtin "dict.get") [.ref a,u,r]) Q E s:=by
 rcases g with ⟨kvs,k,e,ey,l⟩|⟨kvs,k,b,e,ey,eb,l⟩
 ·subst ey
  obtain⟨z,hd,vs,rel,dd⟩:=W5 I.hok e;refine call_meetsIn PySem.F.slot_dict_get dd.typeIs PySem.F.entry_dict_get (PySem.F.args_dict_get_3 _ _ _) (meets_dict_get_default (ZA X.prog X.w) a (JW ry) hd r) ⟨_,dd.mapOf,h _ _ (I.tok _) ?_⟩;rw[l];exact(rel.val k).getD rd
 ·subst ey
  cases (show u=Value.ref b from ry)
  obtain⟨z,hd,xs,rel,dd⟩:=Jd I.hok e;refine call_meetsIn PySem.F.slot_dict_get dd.typeIs PySem.F.entry_dict_get (PySem.F.args_dict_get_3 _ _ _) (meetsH_dict_get_default (tupleKind (ZA X.prog X.w)) a b hd r) ⟨tupleKind_room_in1 hu,k,xs,YO I.hok eb,dd,h _ _ (I.tok _) ?_⟩;rw[l];exact(rel.val k).getD rd
end
def Nh (td ty tx:TE):TE:=fun σ H Q=>td σ H fun x H1=>∃a,x=.ref a/\IsD H1 a/\ty σ H1 fun y H2=>tx σ H2 fun z H3=>∃o,Vp H3 a y o/\Q (o.getD z) H3
section
variable {X:Cx}{o e f:Expr}{apos cpos:Pos}{td ty tx:TE}
def FA (hu:X.A.units+1<cLine) (ho:PE X o td) (he:PE X e ty) (hf:PE X f tx) (m:M2 X o "get" apos e f cpos):PE X (.Call (.Attribute o "get" apos) [e,f] [] cpos) (Nh td ty tx):=by
 intro XaR s σ H Q I h;refine wpAny_Call_method m.base m.few m.line PySem.F.plainAttrs_dict PySem.F.slot_dict_get PySem.F.type_dict_get (Q2 (ho XaR s σ H _ I h) fun u s1 ⟨x,H1,I1,rx,a,ex,d,q1⟩=>?_);subst ex;obtain rfl:u=Value.ref a:=rx;obtain⟨t1,t2,_⟩:=Na I1 d;refine⟨t1,t2,?_⟩
 rw[m.trees];refine Calls.callWith_builtin rfl (Calls.evalArgs_plain (Calls.spliced_cons (Q2 (he XaR s1 σ H1 _ I1 q1) fun iv s2 ⟨y,H2,I2,ry,q2⟩ =>
  Calls.spliced_cons (Q2 (hf XaR s2 σ H2 _ I2 q2) fun fv s3 ⟨z,H3,I3,rz,ov,g,q3⟩=>Calls.spliced_nil ?_))))
 exact Tt hu I3 g ry rz fun w' s4 I4 rw'=>⟨_,H3,I4,rw',q3⟩
end
section
variable {X:Cx}{XaR:Qc}{σ:St}{H:Hp}{s:Shared}{a:Addr}{kvs:List (Key×V)}{A:Around}{E:Qb}
def FT {Q:Qb} (I:Qq X XaR σ H s) (e:Rd H a (.dK kvs)) (h:∀p s',H p=none->Qq X XaR σ (upd H p (.dK kvs)) s'->Q (.ref p) s'):wpAny (model X.prog X.w) A (call (.type "dict") [.ref a]) Q E s:=by
 obtain⟨z,hd,vs,rel,dd⟩:=W5 I.hok e;refine kt_call_dict hd dd (by rw[<- rel.length];exact z) fun h' dd' hs=>?_;refine h _ _ (I.hok.fresh (Xq _)) (I.laid (a:=s.heap.objs.size) (o:=.dK kvs) (t':=s.toks) (fun b q hq=>?_) (Xq _) (KW z (beq_eq_false_iff_ne.mpr (Ne.symm (Xo I.big))) rel dd'))
 exact(hs.2 b (Xo (Xj hq))).trans (Xi _ hq)
end
section
variable {X:Cx}{XaR:Qc}{σ:St}{H:Hp}{s:Shared}{a:Addr}{y:V}{u:Value}{A:Around}{E:Qb}
end
end L2
def JQ:1<=1000:=by decide
def Wz:2<=1000:=by decide
namespace My
end My
namespace L2
open PySem
theorem Zs.keep {F H H':Hp}:∀{as:Qg} {dss:List (Qd)},(∀b∈as,H' b=H b)->Zs F H as dss->Zs F H' as dss
 |[],[],_,_=>trivial
 |a::as,_::_,h,o=>by
   obtain⟨⟨h1,xs,h2,h3⟩,o2⟩:=o
   exact⟨⟨h1,xs,by rw[h a Xa];exact h2,h3⟩,Zs.keep (fun b hb=>h b (Xd _ hb)) o2⟩
 |[],_::_,_,h=>False.elim h
 |_::_,[],_,h=>False.elim h
def Zm.keep {K:W.Frag}{F H H':Hp}{v:V}{t:OT}{p:Qg}(k:∀b∈p,H' b=H b)(h:Zm K F H v t p):Zm K F H' v t p:=by
 cases t with
 |fz d=>exact h
 |zow Ψ=>exact h
 |ol ds =>
   obtain⟨a,rfl,rfl,h1,xs,h2,h3⟩:=h
   exact⟨a,rfl,rfl,h1,xs,by rw[k a Xa];exact h2,h3⟩
 |oll dss =>
   obtain⟨a,as,rfl,rfl,h1,h2,h3,h4⟩:=h
   exact⟨a,as,rfl,rfl,h1,h2,by rw[k a Xa];exact h3,h4.keep fun b hb=>k b (Xd _ hb)⟩
 |scr ns=>exact h
 |own v0 Φ =>
   obtain⟨h1,h2⟩:=h
   exact⟨h1,Φ.mono (Q4.refl _) (fun a ha=>(Φ.there h2 a ha).1) k h2⟩
def QB.writeOwn {K:W.Frag}{H0 F H:Hp}{ρ:Q6}{σ:St}{i:Nat}{v:V}{Φ:OwnP}(s:QB K H0 F ρ σ H)(e:ρ[i]?=some (some (.own v Φ))) :
 σ[i]?=some (some v)/\∃p,Φ.ok K F H v p/\(∀a∈p,H0 a=none/\F a=none/\H a≠none) /\
  ∀(H':Hp) (Φ':OwnP) (p':Qg),Q4 F H'->(∀b,b∉p->H b≠none->H' b=H b)->(∀b,H b≠none->H' b≠none)->Φ'.ok K F H' v p'->(∀a∈p',a∈p\/(H a=none/\H0 a=none)) ->
   QB K H0 F (ρ.set i (some (.own v Φ'))) σ H':=by
 obtain⟨kt,h1,h2,fp,h3,h4,h5⟩:=s;obtain⟨u,e1,rfl,e2⟩:=h3 i _ e;refine⟨e1,fp i,e2,fun a ha=>⟨(h5 i a ha).1,(Φ.there e2 a ha).1,(h5 i a ha).2⟩,fun H' Φ' p' sm kp st ok sub=>?_⟩;have hlt:=(Xh.mp e).1;refine⟨kt,sm,by simp[h2],fun j=>if j=i then p' else fp j,fun j t' e'=>?_,fun j k a ha hb=>?_,fun j a ha=>?_⟩
 ·by_cases hj:j=i
  ·subst hj
   rw[Xl hlt]at e';cases e';refine⟨_,e1,rfl,?_⟩;simp only[if_true];exact ok
  ·rw[Xr (Ne.symm hj)]at e'
   obtain⟨u',f1,f2⟩:=h3 j t' e';refine⟨u',f1,?_⟩;simp only[Xc hj];exact f2.keep fun b hb=>kp b (fun z=>hj (h4 j i b hb z)) (h5 j b hb).2
 ·by_cases hj:j=i
  ·by_cases hk:k=i
   ·omega
   ·simp only[Xe hj]at ha
    simp only[Xc hk]at hb;rcases sub a ha with z|z
    ·exact Xk (h4 k i a hb z) hk
    ·exact Xk z.1 (h5 k a hb).2
  ·simp only[Xc hj]at ha
   by_cases hk:k=i
   ·simp only[Xe hk]at hb
    rcases sub a hb with z|z
    ·exact Xk (h4 j i a ha z) hj
    ·exact Xk z.1 (h5 j a ha).2
   ·simp only[Xc hk]at hb
    exact h4 j k a ha hb
 ·by_cases hj:j=i
  ·simp only[Xe hj]at ha
   rcases sub a ha with z|z
   ·exact⟨(h5 i a z).1,st a (h5 i a z).2⟩
   ·exact⟨z.2,(Φ'.there ok a ha).2⟩
  ·simp only[Xc hj]at ha
   exact⟨(h5 j a ha).1,st a (h5 j a ha).2⟩
def UD:Key->PyData
 |.inl i=>.int i
 |.inr x=>.str x
def QQ (k:List Key):PyData:=.tuple (k.map UD)
def DA {F:Hp}{y:V}{k:Key}(r:Rep F y (UD k)):y=kV k:=by
 cases k with
 |inl i=>cases r;rfl
 |inr x=>cases r;rfl
theorem Sv {F:Hp}:∀{ys:List V} {k:List Key},Qv F ys (k.map UD)->ys=k.map kV
 |_,[],.nil=>rfl
 |_,k::ks,.cons r rs=>by rw[DA r,Sv rs];rfl
def YK {F:Hp}{y:V}{k:List Key}(r:Rep F y (QQ k)):∃b,y=.ref b/\F b=some (.tup (k.map kV)):=by
 unfold QQ at r;cases r with
 |tup h rs=>exact⟨_,rfl,by rw[h,Sv rs]⟩
abbrev ZN:=List (List Key×PyData)
def VC (kvs:ZN)(k:List Key):Option PyData:=(kvs.find? fun kv=>decide (kv.1=k)).map (·.2)
def JO (kvs:ZN)(k:List Key)(d:PyData):ZN:=if (kvs.any fun kv=>decide (kv.1=k))=true then kvs.map (fun kv=>if kv.1=k then (kv.1,d) else kv) else kvs++[(k,d)]
inductive PairD (F:Hp):List (List Key×V)->ZN->Prop
 |nil:PairD F [] []
 |cons {k:List Key} {x:V} {d:PyData} {xs:List (List Key×V)} {kvs:ZN}:Rep F x d->PairD F xs kvs->PairD F ((k,x)::xs) ((k,d)::kvs)
theorem PairD.mono {F F':Hp}(s:Q4 F F'):∀{xs:List (List Key×V)} {kvs:ZN},PairD F xs kvs->PairD F' xs kvs
 |_,_,.nil=>.nil
 |_,_,.cons r t=>.cons (r.mono s) (t.mono s)
theorem PairD.length {F:Hp}:∀{xs:List (List Key×V)} {kvs:ZN},PairD F xs kvs->xs.length=kvs.length
 |_,_,.nil=>rfl
 |_,_,.cons _ t=>by simp[t.length]
theorem PairD.val {F:Hp}(k:List Key):∀{xs:List (List Key×V)} {kvs:ZN},PairD F xs kvs->(Zr xs k=none/\VC kvs k=none)\/∃x d,Zr xs k=some x/\VC kvs k=some d/\Rep F x d
 |_,_,.nil=>.inl ⟨rfl,rfl⟩
 |_,_,.cons (k:=k') (x:=x) (d:=d) (xs:=xs) (kvs:=kvs) r t=>by
   by_cases e:k'=k
   ·exact .inr ⟨x,d,Yj e,by simp[VC,Xz,e],r⟩
   ·have q:VC ((k',d)::kvs) k=VC kvs k:=by simp[VC,Xz,e]
    rw[Yi (p:=(k',x)) e,q];exact t.val k
theorem PairD.any {F:Hp}(k:List Key):∀{xs:List (List Key×V)} {kvs:ZN},PairD F xs kvs->(xs.any fun kv=>decide (kv.1=k))=(kvs.any fun kv=>decide (kv.1=k))
 |_,_,.nil=>rfl
 |_,_,.cons _ t=>by simp[t.any k]
theorem PairD.mapP {F:Hp}(k:List Key){y:V}{d:PyData}(r:Rep F y d):∀{xs:List (List Key×V)} {kvs:ZN},PairD F xs kvs->PairD F (xs.map fun kv=>if kv.1=k then (kv.1,y) else kv) (kvs.map fun kv=>if kv.1=k then (kv.1,d) else kv)
 |_,_,.nil=>.nil
 |_,_,.cons (k:=k') r' t=>by
   rw[Xv,Xv];by_cases e:k'=k
   ·simp only[e,if_true]
    exact .cons r (t.mapP k r)
   ·simp only[e,if_false]
    exact .cons r' (t.mapP k r)
theorem PairD.snoc {F:Hp}(k:List Key){y:V}{d:PyData}(r:Rep F y d):∀{xs:List (List Key×V)} {kvs:ZN},PairD F xs kvs->PairD F (xs++[(k,y)]) (kvs++[(k,d)])
 |_,_,.nil=>.cons r .nil
 |_,_,.cons r' t=>.cons r' (t.snoc k r)
def PairD.put {F:Hp}(k:List Key){y:V}{d:PyData}(r:Rep F y d){xs:List (List Key×V)}{kvs:ZN}(t:PairD F xs kvs):PairD F (VB xs k y) (JO kvs k d):=by
 unfold VB JO;rw[t.any k];split
 ·exact t.mapP k r
 ·exact t.snoc k r
def Vo (kvs:ZN):OwnP where
 ok K F H v p := ∃a xs,v=.ref a/\p=[a]/\F a=none/\H a=some (.dT xs)/\PairD F xs kvs
 there:=by
  rintro K F H v p ⟨a,xs,rfl,rfl,h1,h2,h3⟩ b hb
  cases Xg.mp hb
  exact⟨h1,Zt h2⟩
 mono:=by
  rintro K F F' H H' v p s hF hH ⟨a,xs,rfl,rfl,h1,h2,h3⟩
  exact⟨a,xs,rfl,rfl,hF a Xa,by rw[hH a Xa];exact h2,h3.mono s⟩
 uniq:=by
  rintro K F H v p q ⟨a,xs,rfl,rfl,_⟩ ⟨b,ys,e,rfl,_⟩ c hc
  cases e
  exact hc
section
variable {K:W.Frag}{ρ:Q6}{te ty tv:TE}{D:PEnds}{i:Nat}{v:V}{kvs:ZN}{k:List Key}{d:PyData}
def QB.dct {H0 F H:Hp}{σ:St}(S:QB K H0 F ρ σ H)(e:ρ[i]?=some (some (.own v (Vo kvs)))) :
 ∃a xs,v=.ref a/\σ[i]?=some (some (.ref a))/\F a=none/\H0 a=none/\H a=some (.dT xs)/\PairD F xs kvs:=by
 obtain⟨e1,p,⟨a,xs,rfl,rfl,h1,h2,h3⟩,hp,_⟩:=S.writeOwn e
 exact⟨a,xs,rfl,e1,h1,(hp a Xa).1,h2,h3⟩
def Hj {F:Hp}{xs:List (List Key×V)}(t:PairD F xs kvs):(Zr xs k).isSome=(VC kvs k).isSome:=by
 rcases t.val k with ⟨z1,z2⟩|⟨x,d',z1,z2,_⟩<;>rw[z1,z2]<;>rfl
def Fw (hy:Qt K ty ρ (QQ k))(e:ρ[i]?=some (some (.own v (Vo kvs)))):Qt K (GB ty (Q8 i)) ρ (.bool (VC kvs k).isSome):=fun H0 F σ H Q S q =>
 hy H0 F σ H _ S fun F1 H1 y x1 r1=>by
  obtain⟨a,xs,rfl,e1,_,_,f2,f3⟩:=(S.ext x1).dct e;obtain⟨b,rfl,hb⟩:=YK r1
  exact⟨_,e1,a,_,rfl,Vp.t f2 (x1.fh _ _ hb),q F1 H1 _ x1 (by rw[Hj f3];exact .bl _)⟩
def AG (hy:Qt K ty ρ (QQ k))(e:ρ[i]?=some (some (.own v (Vo kvs)))):Qt K (NG ty (Q8 i)) ρ (.bool (!(VC kvs k).isSome)):=fun H0 F σ H Q S q =>
 hy H0 F σ H _ S fun F1 H1 y x1 r1=>by
  obtain⟨a,xs,rfl,e1,_,_,f2,f3⟩:=(S.ext x1).dct e;obtain⟨b,rfl,hb⟩:=YK r1
  exact⟨_,e1,a,_,rfl,Vp.t f2 (x1.fh _ _ hb),q F1 H1 _ x1 (by rw[Hj f3];exact .bl _)⟩
def Ch (e:ρ[i]?=some (some (.own v (Vo kvs))))(hv:Qt K tv ρ d)(hy:Qt K ty ρ (QQ k))(hz:kvs.length<sizeLine)(hn:D.nx (ρ.set i (some (.own v (Vo (JO kvs k d)))))):Q1 K (GL (Q8 i) ty tv) ρ D:=fun F0 H0 F σ H E x S C =>
 hv H0 F σ H _ S fun F1 H1 u x1 r1=>by
  obtain⟨a,xs,rfl,e1,_⟩:=(S.ext x1).dct e;refine⟨_,e1,hy H0 F1 σ H1 _ (S.ext x1) fun F2 H2 y x2 r2=>?_⟩;have S2:=S.ext (x1.trans x2);obtain⟨a',xs',ea,_,g1,g0,g2,g3⟩:=S2.dct e
  cases ea
  obtain⟨b,rfl,hb⟩:=YK r2;refine⟨a,_,rfl,Wf.t g2 (x2.fh _ _ hb) (by rw[g3.length];exact hz),?_⟩;obtain⟨_,p,ok,hp,w⟩:=S2.writeOwn e;obtain⟨a'',xs'',ea,rfl,_,g4,_⟩:=ok
  cases ea
  refine C.nx F2 σ _ _ ((x.trans (x1.trans x2)).wr g0 g1) (w _ (Vo (JO kvs k d)) [a] (S2.sub.upd g1) (fun c hc _=>Qr fun z=>hc (by rw[z];exact Xa)) (fun c hc=>?_) ⟨a,_,rfl,rfl,g1,QA,g3.put k (r1.mono x2.ff)⟩ (fun c hc=>.inl hc)) hn
  by_cases z:c=a
  ·subst z;rw[QA];exact fun q=>nomatch q
  ·rw[Qr z];exact hc
def EvX (K:W.Frag)(t:TE)(ρ:Q6)(Φ:OwnP):Prop := ∀(H0 F:Hp) (σ:St) (H:Hp) (Q:VK),QB K H0 F ρ σ H->(∀F' H' v p,Q0 F H F' H'->(∀a∈p,H a=none)->Φ.ok K F' H' v p->Q v H')->t σ H Q
theorem B4:∀{as bs:Qg},as.map V.ref=bs.map V.ref->as=bs
 |[],[],_=>rfl
 |a::as,b::bs,h=>by
   rw[Xv,Xv]at h;injection h with h1 h2
   cases h1
   rw[B4 h2]
 |[],_::_,h=>by cases h
 |_::_,[],h=>by cases h
def Up {F H:Hp}{w:V}{t:OT}{p q:Qg}(h:Zm K F H w t p)(h':Zm K F H w t q):∀b∈q,b∈p:=by
 cases t with
 |fz d=>rw[h'.1];intro b hb;cases hb
 |zow Ψ=>rw[h'.1];intro b hb;cases hb
 |ol ds =>
   obtain⟨b1,z1,z2,z3⟩:=h';obtain⟨b2,y1,y2,y3⟩:=h;rw[z1]at y1;cases y1;rw[z2,y2];exact fun _ z=>z
 |oll dss =>
   obtain⟨a,as,z1,z2,_,_,z3,_⟩:=h';obtain⟨b,bs,y1,y2,_,_,y3,_⟩:=h;rw[z1]at y1;cases y1;rw[z3]at y3;injection y3 with y4;injection y4 with y5;rw[z2,y2,B4 y5];exact fun _ z=>z
 |scr ns=>rw[h'.1];intro b hb;cases hb
 |own v0 Φ=>exact Φ.uniq h.2 h'.2
def UY {Φ:OwnP}(h:EvX K te ρ Φ)(hn:∀v,D.nx (ρ.set i (some (.own v Φ)))):Q1 K (ZX te (ZG i)) ρ D:=fun F0 H0 F σ H E x S C =>
 h H0 F σ H _ S fun F' H' v p x' hp ok=>by
  refine C.nx F' _ H' _ (x.trans x') ((S.ext x').set (t:=.own v Φ) ⟨rfl,ok⟩ (fun a ha=>x.hh.free (hp a ha)) (hn:=fun a ha j w t' q e1 e2 ok'=>?_)) (hn v);obtain⟨fp,g1,g2,g3⟩:=S.fp;obtain⟨w',f1,f2⟩:=g1 j t' e1;intro hq;have f3:=f2.ext x';rw[e2]at f1;cases f1
  exact(g3 j a (Up (K:=K) f3 ok' a hq)).2 (hp a ha)
end
end L2
namespace Mir
theorem RM {g:Qn}{l:Nat}(h:∀c,c<=l->g c=0):∀m,Q3 g (l+1+m)=Q3 (fun j=>g (l+1+j)) m
 |0=>by
   show Q3 g (l+1)=0;rw[Zn (g:=fun _=>0) fun k hk=>h k (by omega),VA]
 |m+1=>by
   show Q3 g (l+1+m)+g (l+1+m)=_;rw[RM h m];rfl
theorem SL (y:Yd)(b own:Qn)(l:Nat):∀m,Wv y b own l m=Q3 (fun j=>if Zf y (l+1+j)=some l then passes y b own (l+1+j) else 0) m
 |0=>rfl
 |m+1=>by simp only[Wv,Q3];rw[SL y b own l m]
def Ua {y:Yd}(ok:y.Ok){c l:Nat}(hc:c<y.ls.length)(e:Zf y c=some l):l<c:=by
 by_cases h0:c=0
 ·subst h0;rw[ok.up0]at e;cases e
 ·obtain⟨a,ea,la⟩:=ok.ups c (by omega) hc
  rw[ea]at e;cases e;exact la
def RO {y:Yd}(ok:y.Ok)(b own:Qn){l:Nat}(hl:l<y.ls.length):VN y b own l=own l+Q3 (fun c=>if Zf y c=some l then passes y b own c else 0) y.ls.length:=by
 rw[FP ok,SL];have e:y.ls.length=l+1+(y.ls.length-1-l):=by omega
 have h:=RM (g:=fun c=>if Zf y c=some l then passes y b own c else 0) (l:=l) (fun c hc=>Xc fun z=>by
  have:=Ua ok (by omega) z
  omega) (y.ls.length-1-l)
 rw[<- e]at h;rw[h]
section
variable (y:Yd)(b own:Qn)
end
section
variable {y:Yd}{b own:Qn}
def Rv (ok:y.Ok):upL y 0=[0]:=by
 have:=ok.l1
 rw[Nt ok (by omega),Xe rfl]
end
end Mir
namespace Mir
def ind (p:Prop) [Decidable p]:Int:=if p then 1 else 0
theorem Rg {y:Yd}(ok:y.Ok)(l:Nat)(hl:l<y.ls.length):∀n j,j<n->j<y.ls.length ->
 ind (l∈upL y j)=ind (j=l)+Q3 (fun c=>if Zf y c=some l then ind (c∈upL y j) else 0) y.ls.length
 |0,j,h,_=>by omega
 |n+1,j,h,hj=>by
   by_cases e:j=l
   ·subst e
    have z:Q3 (fun c=>if Zf y c=some j then ind (c∈upL y j) else 0) y.ls.length=0:=by
     rw[Zn (g:=fun _=>0) fun c hc=>?_,VA]
     by_cases u:Zf y c=some j
     ·have:=Ua ok hc u
      have w:¬c∈upL y j:=fun z=>by have:=KR y j c z;omega
      simp[u,ind,w]
     ·simp[u]
    rw[z];simp[ind,DC]
   ·by_cases j0:j=0
    ·subst j0
     have w:¬l∈upL y 0:=fun z=>by rw[Rv ok]at z;simp at z;exact e z.symm
     have z:Q3 (fun c=>if Zf y c=some l then ind (c∈upL y 0) else 0) y.ls.length=0:=by
      rw[Zn (g:=fun _=>0) fun c hc=>?_,VA]
      by_cases u:Zf y c=some l
      ·have c0:¬c∈upL y 0:=fun z=>by
        rw[Rv ok]at z;simp at z;subst z;rw[ok.up0]at u;cases u
       simp[u,ind,c0]
      ·simp[u]
     rw[z];simp[ind,w,e]
    ·obtain⟨a,ea,la⟩:=ok.ups j (by omega) hj
     have ih:=Rg ok l hl n a (by omega) (by omega);have m1:(l∈upL y j)↔(l∈upL y a):=MR ok (by omega) hj ea l (fun z=>e z.symm);have e1:ind (l∈upL y j)=ind (l∈upL y a):=by unfold ind;simp only[m1]
     have e2:∀c,c<y.ls.length->(if Zf y c=some l then ind (c∈upL y j) else 0)=(if Zf y c=some l then ind (c∈upL y a) else 0)+(if c=j then ind (a=l) else 0):=by
      intro c hc;by_cases z:c=j
      ·subst z
       have w:¬c∈upL y a:=fun q=>by have:=KR y a c q;omega
       rw[ea];by_cases q:a=l
       ·subst q;simp[ind,DC,w]
       ·have:¬some a=some l:=fun z=>q (by injection z)
        simp[ind,q]
      ·have m2:(c∈upL y j)↔(c∈upL y a):=MR ok (by omega) hj ea c z
       have:ind (c∈upL y j)=ind (c∈upL y a):=by unfold ind;simp only[m2]
       rw[this,Xc z,U7]
     rw[e1,ih,Zn e2,Gi,Um,Xe hj];have:ind (j=l)=0:=by unfold ind;rw[Xc e]
     omega
def ZZ (y:Yd)(m:Nat)(ln:Nat->Nat)(f:Qn)(l:Nat):Int:=Q3 (fun k=>f k*ind (l∈upL y (ln k))) m
def Gq {y:Yd}(ok:y.Ok){m:Nat}{ln:Nat->Nat}(hln:∀k,k<m->ln k<y.ls.length)(f:Qn){l:Nat}(hl:l<y.ls.length) :
 ZZ y m ln f l=Q3 (fun k=>f k*ind (ln k=l)) m+Q3 (fun c=>if Zf y c=some l then ZZ y m ln f c else 0) y.ls.length:=by
 unfold ZZ;have h1:∀k,k<m->f k*ind (l∈upL y (ln k))=f k*ind (ln k=l)+Q3 (fun c=>if Zf y c=some l then f k*ind (c∈upL y (ln k)) else 0) y.ls.length:=by
  intro k hk;rw[Rg ok l hl _ (ln k) (Wa _) (hln k hk),Int.mul_add,<- B3];congr 1;refine Zn fun c _=>?_
  by_cases u:Zf y c=some l
  ·rw[Xe u,Xe u]
  ·rw[Xc u,Xc u,Int.mul_zero]
 rw[Zn h1,Gi,B9];congr 1;refine Zn fun c _=>?_
 by_cases u:Zf y c=some l
 ·simp only[Xe u]
 ·simp only[Xc u]
  rw[VA]
theorem no_more {y:Yd}(ok:y.Ok){m:Nat}{ln:Nat->Nat}(hln:∀k,k<m->ln k<y.ls.length){f:Qn}{b own:Qn}(ho:∀l,l<y.ls.length->Q3 (fun k=>f k*ind (ln k=l)) m<=own l)(hb:∀l,l<y.ls.length->ZZ y m ln f l<=b l) :
 ∀n l,y.ls.length<=l+n->l<y.ls.length->ZZ y m ln f l<=passes y b own l
 |0,l,h,hl=>by omega
 |n+1,l,h,hl=>by
   have h1:ZZ y m ln f l<=VN y b own l:=by
    rw[Gq ok hln f hl,RO ok b own hl];refine Int.add_le_add (ho l hl) (YV fun c hc=>?_)
    by_cases u:Zf y c=some l
    ·rw[Xe u,Xe u]
     have:=Ua ok hc u
     exact no_more ok hln ho hb n c (by omega) hc
    ·rw[Xc u,Xc u]
     exact WT _
   have h2:=hb l hl;unfold passes;omega
end Mir
namespace Mir
def NN {y:Yd}{m:Nat}{ln:Nat->Nat}{f g:Qn}(h:∀k,k<m->f k<=g k)(l:Nat):ZZ y m ln f l<=ZZ y m ln g l :=
 YV fun k hk=>by
  unfold ind;split
  ·have:=h k hk;omega
  ·omega
def TJ {y:Yd}{m:Nat}{ln:Nat->Nat}{f:Qn}(h:∀k,k<m->0<=f k)(l:Nat):0<=ZZ y m ln f l :=
 NE fun k hk=>by
  unfold ind;split
  ·have:=h k hk;omega
  ·omega
structure Shut (y:Yd)(m:Nat)(ln:Nat->Nat)(f mo:Qn)(b:Qn)(S R:Qm):Prop where
 nn:∀k,k<m->0<=f k
 full:∀k,k<m->S k=true->R (ln k)=false->f k=mo k
 none:∀k,k<m->S k=false->R (ln k)=true->f k=0
 top:R 0=true->ZZ y m ln f 0=b 0
 out:∀c a,c<y.ls.length->Zf y c=some a->R c=true->R a=false->ZZ y m ln f c=b c
 inn:∀c a,c<y.ls.length->Zf y c=some a->R c=false->R a=true->ZZ y m ln f c=0
def Zk (S:Qm)(f:Qn):Qn:=fun k=>if S k=true then f k else 0
def DI {S:Qm}{f:Qn}{k:Nat}(h:0<=f k):Zk S f k<=f k:=by
 unfold Zk;split<;>omega
def Fh {S:Qm}{f:Qn}{k:Nat}(h:0<=f k):0<=Zk S f k:=by
 unfold Zk;split<;>omega
theorem Shut.alike {y:Yd}(ok:y.Ok){m:Nat}{ln:Nat->Nat}(hln:∀k,k<m->ln k<y.ls.length){f mo b:Qn}{S R:Qm}(h:Shut y m ln f mo b S R) :
 ∀n l,y.ls.length<=l+n->l<y.ls.length->R l=true->ZZ y m ln f l=ZZ y m ln (Zk S f) l
 |0,l,h0,hl,_=>by omega
 |n+1,l,h0,hl,hR=>by
   rw[Gq ok hln f hl,Gq ok hln (Zk S f) hl];congr 1
   ·refine Zn fun k hk=>?_
    by_cases e:ln k=l
    ·have:f k=Zk S f k:=by
      unfold Zk;cases s:S k with
      |true=>simp
      |false=>simp;exact h.none k hk s (by rw[e];exact hR)
     rw[this]
    ·simp[ind,e]
   ·refine Zn fun c hc=>?_
    by_cases u:Zf y c=some l
    ·rw[Xe u,Xe u]
     have:=Ua ok hc u
     cases r:R c with
     |true=>exact Shut.alike ok hln h n c (by omega) hc r
     |false =>
       have e:=h.inn c l hc u r hR;have q1:=NN (y:=y) (ln:=ln) (f:=Zk S f) (g:=f) (fun k hk=>DI (S:=S) (h.nn k hk)) c;have q2:=TJ (y:=y) (ln:=ln) (f:=Zk S f) (fun k hk=>Fh (S:=S) (h.nn k hk)) c;omega
    ·rw[Xc u,Xc u]
theorem Shut.all {y:Yd}(ok:y.Ok){m:Nat}{ln:Nat->Nat}(hln:∀k,k<m->ln k<y.ls.length){f mo b own:Qn}{S R:Qm}(h:Shut y m ln f mo b S R)
 (ho:∀l,l<y.ls.length->own l=Q3 (fun k=>Zk S mo k*ind (ln k=l)) m) :
 ∀n l,y.ls.length<=l+n->l<y.ls.length->(R l=true->l=0\/∃a,Zf y l=some a/\R a=false)->passes y b own l<=ZZ y m ln (Zk S f) l
 |0,l,h0,hl,_=>by omega
 |n+1,l,h0,hl,hU=>by
   cases r:R l with
   |true =>
     have e:ZZ y m ln f l=b l:=by
      rcases hU r with z|⟨a,u,ra⟩
      ·subst z;exact h.top r
      ·exact h.out l a hl u r ra
     rw[<- h.alike ok hln (n+1) l h0 hl r,e];unfold passes;omega
   |false =>
     have h1:VN y b own l<=ZZ y m ln (Zk S f) l:=by
      rw[Gq ok hln _ hl,RO ok b own hl];refine Int.add_le_add ?_ (YV fun c hc=>?_)
      ·rw[ho l hl]
       refine YV fun k hk=>?_
       by_cases e:ln k=l
       ·have:Zk S mo k=Zk S f k:=by
         unfold Zk;cases s:S k with
         |true=>simp;exact(h.full k hk s (by rw[e];exact r)).symm
         |false=>simp
        rw[this];exact WT _
       ·simp[ind,e]
      ·by_cases u:Zf y c=some l
       ·rw[Xe u,Xe u]
        have:=Ua ok hc u
        exact Shut.all ok hln h ho n c (by omega) hc (fun _=>.inr ⟨l,u,r⟩)
       ·rw[Xc u,Xc u]
        exact WT _
     unfold passes;omega
end Mir
namespace Mir
section
variable {ν:Type} [DecidableEq ν]
abbrev Lay (ν:Type):=List (ν×ν×Int)
abbrev QP (ν:Type):=ν->ν->Int
def YE (L:Lay ν):List ν:=L.flatMap fun x=>[x.2.1,x.1]
def Vu (L:Lay ν)(φ:QP ν):Ql:=L.flatMap fun x=>[x.2.2-φ x.1 x.2.1,φ x.1 x.2.1]
def Dis (L:Lay ν):Prop:=(L.map fun x=>(x.1,x.2.1)).Nodup
def V5 (φ:QP ν)(s e:ν)(a:Int):QP ν:=fun p q=>if p=s/\q=e then φ p q+a else φ p q
theorem MH {α β:Type}(f g:α->β):∀(L:List α) (e:Nat),(L.flatMap fun x=>[f x,g x])[e]?=L[e/2]?.map (if e%2=0 then f else g)
 |[],e=>by simp
 |x::L,0=>by simp
 |x::L,1=>by simp
 |x::L,e+2=>by
   have h:=MH f g L e;have e1:(e+2)/2=e/2+1:=by omega
   have e2:(e+2)%2=e%2:=by omega
   rw[e1,e2,BT,U5];simpa using h
def hdE (L:Lay ν)(e:Nat):Option ν:=L[e/2]?.map fun x=>if e%2=0 then x.2.1 else x.1
def tlE (L:Lay ν)(e:Nat):Option ν:=L[e/2]?.map fun x=>if e%2=0 then x.1 else x.2.1
def rmE (L:Lay ν)(φ:QP ν)(e:Nat):Option Int:=L[e/2]?.map fun x=>if e%2=0 then x.2.2-φ x.1 x.2.1 else φ x.1 x.2.1
def Dq (L:Lay ν)(e:Nat):(YE L)[e]?=hdE L e:=by
 unfold YE hdE;rw[MH];congr 1
 split<;>rfl
def Uv (L:Lay ν)(φ:QP ν)(e:Nat):(Vu L φ)[e]?=rmE L φ e:=by
 unfold Vu rmE;rw[MH];congr 1
 split<;>rfl
def Zes (e:Nat):Nat:=if e%2=0 then e+1 else e-1
def A5 (L:Lay ν)(e:Nat):(YE L)[Zes e]?=tlE L e:=by
 rw[Dq];unfold hdE tlE Zes;by_cases h:e%2=0
 ·have h1:(e+1)/2=e/2:=by omega
  have h2:¬(e+1)%2=0:=by omega
  simp only[h,if_true,h1,h2,if_false]
 ·have h1:(e-1)/2=e/2:=by omega
  have h2:(e-1)%2=0:=by omega
  simp only[h,if_false,h1,h2,if_true]
def ZT (L:Lay ν)(F:ν->ν->Int):Int:=(L.map fun x=>F x.1 x.2.1).sum
def Vn (L:Lay ν)(φ:QP ν)(n:ν):Int:=ZT L fun s e=>φ s e*(ind (s=n)-ind (e=n))
def AA {φ:QP ν}{s e:ν}{a:Int}{L:Lay ν}(h:(s,e)∉L.map fun x=>(x.1,x.2.1))(G:Int->ν->ν->Int) :
 ZT L (fun p q=>G (V5 φ s e a p q) p q)=ZT L fun p q=>G (φ p q) p q:=by
 unfold ZT;congr 1;refine JJ fun x hx=>?_
 have:¬(x.1=s/\x.2.1=e):=fun⟨z1,z2⟩=>h (XI.mpr ⟨x,hx,by rw[z1,z2]⟩)
 unfold V5;dsimp only;rw[Xc this]
theorem Si {φ:QP ν}{a:Int}(G:Int->ν->ν->Int):∀{L:Lay ν},Dis L->∀{x:ν×ν×Int},x∈L ->
 ZT L (fun p q=>G (V5 φ x.1 x.2.1 a p q) p q)=ZT L (fun p q=>G (φ p q) p q)-G (φ x.1 x.2.1) x.1 x.2.1+G (φ x.1 x.2.1+a) x.1 x.2.1
 |[],_,_,h=>by cases h
 |y::L,hd,x,h=>by
   unfold Dis at hd;rw[Xv,Xu]at hd;rcases Xf.mp h with rfl|h
   ·have:=AA (φ:=φ) (a:=a) hd.1 G
    have e:V5 φ x.1 x.2.1 a x.1 x.2.1=φ x.1 x.2.1+a:=by unfold V5;rw[Xe ⟨rfl,rfl⟩]
    unfold ZT at this ⊢;rw[Xv,G0,Xv,G0,this];dsimp only;rw[e];omega
   ·have ih:=Si (φ:=φ) (a:=a) G (L:=L) hd.2 h
    have ne:¬(y.1=x.1/\y.2.1=x.2.1):=fun⟨z1,z2⟩=>hd.1 (XI.mpr ⟨x,h,by rw[z1,z2]⟩);have e:V5 φ x.1 x.2.1 a y.1 y.2.1=φ y.1 y.2.1:=by unfold V5;rw[Xc ne]
    unfold ZT at ih ⊢;rw[Xv,G0,Xv,G0,ih];dsimp only;rw[e];omega
def VD (L:Lay ν)(a:Int)(φ:QP ν)(e:Nat):QP ν :=
 match L[e/2]? with
 |some x=>V5 φ x.1 x.2.1 (if e%2=0 then a else -a)
 |none=>φ
def A0 {L:Lay ν}(hd:Dis L){φ:QP ν}{a:Int}{e:Nat}{s t:ν}(ht:hdE L e=some t)(hs:tlE L e=some s)(n:ν) :
 Vn L (VD L a φ e) n=Vn L φ n+a*(ind (s=n)-ind (t=n)):=by
 unfold hdE at ht;unfold tlE at hs;cases ex:L[e/2]? with
 |none=>rw[ex]at ht;cases ht
 |some x =>
   rw[ex]at ht hs;have hx:x∈L:=List.mem_of_getElem? ex;have hp:VD L a φ e=V5 φ x.1 x.2.1 (if e%2=0 then a else -a):=by unfold VD;rw[ex]
   rw[hp];unfold Vn;rw[Si (fun v p q=>v*(ind (p=n)-ind (q=n))) hd hx];simp only[X4,Option.some.injEq]at ht hs;by_cases z:e%2=0
   ·rw[Xe z]at ht hs ⊢
    subst ht hs;rw[Int.add_mul];omega
   ·rw[Xc z]at ht hs ⊢
    subst ht hs;rw[Int.add_mul,Int.neg_mul,U6 a,U6 a];omega
inductive Chain (L:Lay ν)(s:ν):ν->Qk->Prop
 |nil:Chain L s s []
 |cons {n m:ν} {e:Nat} {w:Qk} (h:hdE L e=some n) (t:tlE L e=some m) (c:Chain L s m w):Chain L s n (e::w)
def Yw (L:Lay ν)(a:Int)(φ:QP ν)(w:Qk):QP ν:=w.foldl (VD L a) φ
theorem D9 {L:Lay ν}(hd:Dis L){s:ν}{a:Int}(p:ν):∀{w:Qk} {n:ν} {φ:QP ν},Chain L s n w->Vn L (Yw L a φ w) p=Vn L φ p+a*(ind (s=p)-ind (n=p))
 |_,_,φ,.nil=>by
   show Vn L φ p=_;rw[Int.sub_self,Int.mul_zero,U7]
 |e::w,n,φ,.cons (m:=m) h t c=>by
   show Vn L (Yw L a (VD L a φ e) w) p=_;rw[D9 hd p c,A0 hd h t,U6,U6,U6];omega
def Within (L:Lay ν)(φ:QP ν):Prop := ∀x∈L,0<=φ x.1 x.2.1/\φ x.1 x.2.1<=x.2.2
def Dz:∀{L:Lay ν},Dis L->∀{i j:Nat} {x y:ν×ν×Int},L[i]?=some x->L[j]?=some y->x.1=y.1->x.2.1=y.2.1->i=j:=fun{L} hd {i j x y} hi hj e1 e2=>by
 have a:(L.map fun x=>(x.1,x.2.1))[i]?=some (x.1,x.2.1):=by rw[Xt,hi];rfl
 have b:(L.map fun x=>(x.1,x.2.1))[j]?=some (x.1,x.2.1):=by rw[Xt,hj,e1,e2];rfl
 have li:i<(L.map fun x=>(x.1,x.2.1)).length:=(Xh.mp a).1
 exact(List.getElem?_inj li hd).mp (a.trans b.symm)
def E6 {L:Lay ν}(hd:Dis L){φ:QP ν}(h:Within L φ){a:Int}(ha:0<=a){e:Nat}{r:Int}(he:rmE L φ e=some r)(hr:a<=r):Within L (VD L a φ e):=by
 unfold rmE at he;cases ex:L[e/2]? with
 |none=>rw[ex]at he;cases he
 |some x =>
   rw[ex]at he;simp only[X4,Option.some.injEq]at he;have hx:=h x (List.mem_of_getElem? ex);intro y hy;have hyv:=h y hy;have hp:VD L a φ e=V5 φ x.1 x.2.1 (if e%2=0 then a else -a):=by unfold VD;rw[ex]
   rw[hp];unfold V5;by_cases z:y.1=x.1/\y.2.1=x.2.1
   ·rw[Xe z]
    obtain⟨j,hj⟩:=List.mem_iff_getElem?.mp hy;have ij:=Dz hd hj ex z.1 z.2;subst ij;rw[ex]at hj;cases hj
    by_cases q:e%2=0
    ·rw[Xe q]at he ⊢;omega
    ·rw[Xc q]at he ⊢;omega
   ·rw[Xc z];exact hyv
def Ah {L:Lay ν}(hd:Dis L){φ:QP ν}{a:Int}(ha:0<=a){e e':Nat}(ne:e'≠e){r:Int}(he:rmE L φ e'=some r):∃r',rmE L (VD L a φ e) e'=some r'/\r<=r':=by
 unfold rmE at he ⊢;cases ey:L[e'/2]? with
 |none=>rw[ey]at he;cases he
 |some y =>
   rw[ey]at he;simp only[X4,Option.some.injEq]at he ⊢;refine⟨_,rfl,?_⟩;unfold VD;cases ex:L[e/2]? with
   |none=>simp only[];omega
   |some x =>
     simp only[];unfold V5;by_cases z:y.1=x.1/\y.2.1=x.2.1
     ·rw[Xe z]
      have ij:=Dz hd ey ex z.1 z.2
      by_cases q:e%2=0
      ·have q':¬e'%2=0:=by omega
       rw[Xc q']at he ⊢;rw[Xe q];omega
      ·have q':e'%2=0:=by omega
       rw[Xe q']at he ⊢;rw[Xc q];omega
     ·rw[Xc z];omega
theorem SE {L:Lay ν}(hd:Dis L){a:Int}(ha:0<=a):∀{w:Qk} {φ:QP ν},Within L φ->w.Nodup->(∀e∈w,∃r,rmE L φ e=some r/\a<=r)->Within L (Yw L a φ w)
 |[],_,h,_,_=>h
 |e::w,φ,h,hn,hw=>by
   obtain⟨h1,h2⟩:=Xu.mp hn;obtain⟨r,er,lr⟩:=hw e Xa;show Within L (Yw L a (VD L a φ e) w);refine SE hd ha (E6 hd h ha er lr) h2 fun e' he'=>?_;obtain⟨r',er',lr'⟩:=hw e' (Xd _ he');obtain⟨q,eq,lq⟩:=Ah hd ha (e:=e) (fun z=>h1 (z▸he')) er'
   exact⟨q,eq,by omega⟩
abbrev Got (ν:Type):=List (ν×Option Nat)
def QR (es:Got ν):List ν:=es.map (·.1)
inductive Tree (L:Lay ν)(φ:QP ν)(s:ν):Got ν->Prop
 |root:Tree L φ s [(s,none)]
 |add {es:Got ν} {e:Nat} {n m:ν} {r:Int} (t:Tree L φ s es) (hn:n∉QR es) (hh:hdE L e=some n) (ht:tlE L e=some m) (hm:m∈QR es) (hr:rmE L φ e=some r) (h0:0<r):Tree L φ s (es++[(n,some e)])
def W1 (es:Got ν)(n:ν):Option (Option Nat):=es.lookup n
def ED {es:Got ν}{n:ν}:n∉QR es->es.lookup n=none:=by
 induction es with
 |nil=>intro _;rfl
 |cons p es ih =>
   intro h;have h1:n≠p.1:=fun z=>h (by rw[z];exact Xa);have h2:n∉QR es:=fun z=>h (Xd _ z);obtain⟨k,v⟩:=p;rw[XL];have:(n==k)=false:=by rw[beq_eq_false_iff_ne];exact h1
   rw[this];exact ih h2
def Hy {es fs:Got ν}{n:ν}:(es++fs).lookup n=(es.lookup n).or (fs.lookup n):=by
 induction es with
 |nil=>rfl
 |cons p es ih =>
   obtain⟨k,v⟩:=p;rw[WQ,XL,XL];cases (n==k)
   ·exact ih
   ·rfl
inductive Back (L:Lay ν)(es:Got ν):ν->Qk->Prop
 |nil {n:ν} (h:W1 es n=some none):Back L es n []
 |cons {n m:ν} {e:Nat} {w:Qk} (h:W1 es n=some (some e)) (t:tlE L e=some m) (b:Back L es m w):Back L es n (e::w)
theorem Back.app {L:Lay ν}{es fs:Got ν}:∀{w:Qk} {n:ν},Back L es n w->Back L (es++fs) n w
 |_,_,.nil h=>.nil (by unfold W1 at h ⊢;rw[Hy,h];rfl)
 |_,_,.cons h t b=>.cons (by unfold W1 at h ⊢;rw[Hy,h];rfl) t b.app
structure WayOk (L:Lay ν)(φ:QP ν)(s:ν)(es:Got ν)(n:ν)(w:Qk):Prop where
 back:Back L es n w
 chain:Chain L s n w
 nodup:w.Nodup
 room:∀e∈w,∃r,rmE L φ e=some r/\0<r
 heads:∀e∈w,∃m,hdE L e=some m/\m∈QR es
theorem Tree.way {L:Lay ν}{φ:QP ν}{s:ν}:∀{es:Got ν},Tree L φ s es->∀n∈QR es,∃w,WayOk L φ s es n w
 |_,.root,n,hn=>by
   have e:n=s:=by simpa [QR] using hn
   subst e;exact⟨[],.nil (by simp[W1]),.nil,WP,(fun e h=>nomatch h),(fun e h=>nomatch h)⟩
 |_,.add (es:=es) (e:=e) (n:=k) (m:=m) t hk hh ht hm hr h0,n,hn=>by
   have hn':n∈QR es\/n=k:=by simpa [QR] using hn
   have sub:∀p,p∈QR es->p∈QR (es++[(k,some e)]):=fun p hp=>by
    unfold QR at hp ⊢;rw[Xy];exact JK _ hp
   rcases hn' with hn'|rfl
   ·obtain⟨w,q⟩:=t.way n hn'
    exact⟨w,q.back.app,q.chain,q.nodup,q.room,fun e' he'=>let ⟨m',a,b⟩:=q.heads e' he';⟨m',a,sub _ b⟩⟩
   ·obtain⟨w,q⟩:=t.way m hm
    refine⟨e::w,.cons ?_ ht q.back.app,.cons hh ht q.chain,Xu.mpr ⟨fun z=>?_,q.nodup⟩,fun e' he'=>?_,fun e' he'=>?_⟩
    ·unfold W1
     rw[Hy,ED hk];simp
    ·obtain⟨m',a,b⟩:=q.heads e z
     rw[hh]at a;cases a;exact hk b
    ·rcases Xf.mp he' with rfl|he'
     ·exact⟨_,hr,h0⟩
     ·exact q.room e' he'
    ·rcases Xf.mp he' with rfl|he'
     ·exact⟨n,hh,by simp[QR]⟩
     ·obtain⟨m',a,b⟩:=q.heads e' he'
      exact⟨m',a,sub _ b⟩
theorem Tree.nodup {L:Lay ν}{φ:QP ν}{s:ν}:∀{es:Got ν},Tree L φ s es->(QR es).Nodup
 |_,.root=>by simp[QR]
 |_,.add (n:=k) t hk _ _ _ _ _=>by
   have:=t.nodup
   unfold QR at this hk ⊢;rw[Xy,JG];refine⟨this,by simp,fun a ha b hb=>?_⟩;have e:b=k:=by simpa using hb
   exact fun z=>hk (e▸z▸ha)
theorem Tree.start {L:Lay ν}{φ:QP ν}{s:ν}:∀{es:Got ν},Tree L φ s es->s∈QR es
 |_,.root=>by simp[QR]
 |_,.add t _ _ _ _ _ _=>by
   have:=t.start
   unfold QR at this ⊢;rw[Xy];exact JK _ this
theorem Tree.sub {L:Lay ν}{φ:QP ν}{s:ν}:∀{es:Got ν},Tree L φ s es->∀n∈QR es,n∈s::YE L
 |_,.root,n,hn=>by
   have e:n=s:=by simpa [QR] using hn
   rw[e];exact Xa
 |_,.add (es:=es) (n:=k) t hk hh _ _ _ _,n,hn=>by
   have hn':n∈QR es\/n=k:=by simpa [QR] using hn
   rcases hn' with hn'|rfl
   ·exact t.sub n hn'
   ·exact Xd _ (List.mem_of_getElem? ((Dq L _).trans hh))
theorem DL {α:Type} [DecidableEq α]:∀{xs ys:List α},xs.Nodup->(∀x∈xs,x∈ys)->xs.length<=ys.length
 |[],_,_,_=>XF _
 |x::xs,ys,hd,h=>by
   obtain⟨h1,h2⟩:=Xu.mp hd;have hx:=h x Xa
   have:=DL (xs:=xs) (ys:=ys.erase x) h2 fun z hz=>by
    have ne:z≠x:=fun q=>h1 (q▸hz)
    exact(List.mem_erase_of_ne ne).mpr (h z (Xd _ hz))
   rw[List.length_erase_of_mem hx]at this;have:0<ys.length:=List.length_pos_of_mem hx;rw[XJ];omega
def Tree.len {L:Lay ν}{φ:QP ν}{s:ν}{es:Got ν}(t:Tree L φ s es):es.length<=(YE L).length+1:=by
 have:=DL t.nodup t.sub
 simpa [QR] using this
def VH (L:Lay ν)(φ:QP ν)(es:Got ν):Prop := ∀e m n r,tlE L e=some m->hdE L e=some n->rmE L φ e=some r->0<r->m∈QR es->n∈QR es
end
end Mir
namespace Mir
inductive Nd where
 |start|fin
 |guest (k:Nat)
 |line (l t:Nat)
deriving DecidableEq
structure Gv where
 m:Nat
 ln:Nat->Nat
 wa:Qn
 mo:Qn
 th:Nat->Qm
def upN (y:Yd)(l:Nat):Nat:=(Zf y l).getD 0
def ZU (y:Yd)(G:Gv)(k:Nat):Lay Nd:=(.start,.guest k,G.wa k)::(List.range y.T).flatMap fun t=>if G.th k t=true then [(.guest k,.line (G.ln k) t,G.mo k)] else []
def Vx (y:Yd)(t:Nat):Lay Nd:=(.line 0 t,.fin,Zz y 0 t)::(List.range (y.ls.length-1)).flatMap fun i=>[(.line (i+1) t,.line (upN y (i+1)) t,Zz y (i+1) t)]
def Za (y:Yd)(G:Gv):Lay Nd:=(List.range G.m).flatMap (ZU y G)++(List.range y.T).flatMap (Vx y)
def Rq (A B:Lay Nd)(F:Nd->Nd->Int):ZT (A++B) F=ZT A F+ZT B F:=by
 unfold ZT;rw[Xy,G1]
theorem Gn (f:Nat->Lay Nd)(F:Nd->Nd->Int):∀n,ZT ((List.range n).flatMap f) F=Q3 (fun k=>ZT (f k) F) n
 |0=>rfl
 |n+1=>by
   rw[X9,JI,Rq,Gn f F n];simp[Q3]
def Rw (x:Nd×Nd×Int)(F:Nd->Nd->Int):ZT [x] F=F x.1 x.2.1:=by simp[ZT]
def Sq (x:Nd×Nd×Int)(L:Lay Nd)(F:Nd->Nd->Int):ZT (x::L) F=F x.1 x.2.1+ZT L F:=by simp[ZT]
def Ed (y:Yd)(G:Gv)(F:Nd->Nd->Int)(k:Nat):ZT (ZU y G k) F=F .start (.guest k)+Q3 (fun t=>if G.th k t=true then F (.guest k) (.line (G.ln k) t) else 0) y.T:=by
 unfold ZU;rw[Sq,Gn];congr 1;refine Zn fun t _=>?_
 split
 ·rw[Rw]
 ·rfl
def AO (y:Yd)(F:Nd->Nd->Int)(t:Nat):ZT (Vx y t) F=F (.line 0 t) .fin+Q3 (fun i=>F (.line (i+1) t) (.line (upN y (i+1)) t)) (y.ls.length-1):=by
 unfold Vx;rw[Sq,Gn];congr 1;refine Zn fun t _=>?_;rw[Rw]
def DK (y:Yd)(G:Gv)(F:Nd->Nd->Int):ZT (Za y G) F =
 Q3 (fun k=>F .start (.guest k)+Q3 (fun t=>if G.th k t=true then F (.guest k) (.line (G.ln k) t) else 0) y.T) G.m +
 Q3 (fun t=>F (.line 0 t) .fin+Q3 (fun i=>F (.line (i+1) t) (.line (upN y (i+1)) t)) (y.ls.length-1)) y.T:=by
 unfold Za;rw[Rq,Gn,Gn];congr 1
 ·exact Zn fun k _=>Ed y G F k
 ·exact Zn fun t _=>AO y F t
def Y6 {y:Yd}{G:Gv}{x:Nd×Nd×Int}{k:Nat}:x∈ZU y G k↔x=(.start,.guest k,G.wa k)\/∃t,t<y.T/\G.th k t=true/\x=(.guest k,.line (G.ln k) t,G.mo k):=by
 unfold ZU;rw[Xf,YA];refine or_congr Iff.rfl ⟨fun⟨t,ht,hx⟩=>?_,fun⟨t,ht,hc,hx⟩=>⟨t,XT.mpr ht,by rw[Xe hc];exact Xg.mpr hx⟩⟩
 by_cases c:G.th k t=true
 ·rw[Xe c]at hx
  exact⟨t,XT.mp ht,c,Xg.mp hx⟩
 ·rw[Xc c]at hx;cases hx
def Ws {y:Yd}{x:Nd×Nd×Int}{t:Nat}:x∈Vx y t↔x=(.line 0 t,.fin,Zz y 0 t)\/∃i,i<y.ls.length-1/\x=(.line (i+1) t,.line (upN y (i+1)) t,Zz y (i+1) t):=by
 unfold Vx;rw[Xf,YA];exact or_congr Iff.rfl ⟨fun⟨i,hi,hx⟩=>⟨i,XT.mp hi,Xg.mp hx⟩,fun⟨i,hi,hx⟩=>⟨i,XT.mpr hi,Xg.mpr hx⟩⟩
def Us {y:Yd}{G:Gv}{x:Nd×Nd×Int}:x∈Za y G↔(∃k,k<G.m/\x∈ZU y G k)\/∃t,t<y.T/\x∈Vx y t:=by
 unfold Za;rw[Xx,YA,YA];simp only[XT]
def Bp (n:Nat):(List.range n).Pairwise (· ≠ ·):=List.nodup_range
def B7 (y:Yd)(G:Gv):Dis (Za y G):=by
 unfold Dis List.Nodup;rw[List.pairwise_map];unfold Za;rw[List.pairwise_append];refine⟨?_,?_,?_⟩
 ·rw[BV]
  refine⟨fun k _=>?_,(Bp _).imp fun{k j} hkj x hx z hz=>?_⟩
  ·unfold ZU
   rw[List.pairwise_cons];refine⟨fun x hx=>?_,?_⟩
   ·obtain⟨t,_,hx⟩:=YA.mp hx
    split at hx
    ·rw[Xg.mp hx];intro q;cases q
    ·cases hx
   ·rw[BV]
    refine⟨fun t _=>?_,(Bp _).imp fun{t u} htu x hx z hz=>?_⟩
    ·split
     ·exact List.pairwise_singleton _ _
     ·exact List.Pairwise.nil
    ·split at hx
     ·split at hz
      ·rw[Xg.mp hx,Xg.mp hz]
       intro q;simp at q;exact htu q
      ·cases hz
     ·cases hx
  ·rcases Y6.mp hx with rfl|⟨t,_,_,rfl⟩<;>rcases Y6.mp hz with rfl|⟨u,_,_,rfl⟩<;>intro q<;>simp at q
   ·exact hkj q
   ·exact hkj q.1
 ·rw[BV]
  refine⟨fun t _=>?_,(Bp _).imp fun{t u} htu x hx z hz=>?_⟩
  ·unfold Vx
   rw[List.pairwise_cons];refine⟨fun x hx=>?_,?_⟩
   ·obtain⟨i,_,hx⟩:=YA.mp hx
    rw[Xg.mp hx];intro q;cases q
   ·rw[BV]
    refine⟨fun t _=>List.pairwise_singleton _ _,(Bp _).imp fun{i j} hij x hx z hz=>?_⟩;rw[Xg.mp hx,Xg.mp hz];intro q;simp at q;exact hij q.1
  ·rcases Ws.mp hx with rfl|⟨i,_,rfl⟩<;>rcases Ws.mp hz with rfl|⟨j,_,rfl⟩<;>intro q<;>simp at q
   ·exact htu q
   ·exact htu q.1.2
 ·intro x hx z hz
  obtain⟨k,_,hx⟩:=YA.mp hx;obtain⟨t,_,hz⟩:=YA.mp hz
  rcases Y6.mp hx with rfl|⟨t',_,_,rfl⟩<;>rcases Ws.mp hz with rfl|⟨j,_,rfl⟩<;>intro q<;>simp at q
end Mir
namespace Mir
def QV (G:Gv)(φ:QP Nd)(t k:Nat):Int:=if G.th k t=true then φ (.guest k) (.line (G.ln k) t) else 0
def upF (y:Yd)(φ:QP Nd)(t l:Nat):Int:=if l=0 then φ (.line 0 t) .fin else φ (.line l t) (.line (upN y l) t)
theorem DO (f:Qn):∀n,Q3 f (n+1)=f 0+Q3 (fun i=>f (i+1)) n
 |0=>by simp[Q3]
 |n+1=>by
   show Q3 f (n+1)+f (n+1)=_;rw[DO f n];simp[Q3];omega
def ZK {p:Prop} [Decidable p] (h:¬p):ind p=0:=Xc h
def Be {p q:Prop} [Decidable p] [Decidable q] (h:p↔q):ind p=ind q:=by unfold ind;simp only[h]
def Ej (y:Yd)(G:Gv)(φ:QP Nd){k0:Nat}(hk:k0<G.m):Vn (Za y G) φ (.guest k0)=Q3 (fun t=>QV G φ t k0) y.T-φ .start (.guest k0):=by
 unfold Vn;rw[DK];have h2:Q3 (fun t=>φ (.line 0 t) .fin*(ind (Nd.line 0 t=.guest k0)-ind (Nd.fin=.guest k0))+Q3 (fun i=>φ (.line (i+1) t) (.line (upN y (i+1)) t)*(ind (Nd.line (i+1) t=.guest k0)-ind (Nd.line (upN y (i+1)) t=.guest k0))) (y.ls.length-1)) y.T=0:=by
  rw[Zn (g:=fun _=>0) fun t _=>?_,VA];rw[ZK (fun z=>nomatch z),ZK (fun z=>nomatch z),Zn (g:=fun _=>0) fun i _=>?_,VA]
  ·simp
  ·rw[ZK (fun z=>nomatch z),ZK (fun z=>nomatch z)];simp
 rw[h2,U7];rw[Zn (g:=fun k=>if k=k0 then Q3 (fun t=>QV G φ t k0) y.T-φ .start (.guest k0) else 0) fun k _=>?_,Um,Xe hk];rw[ZK (p:=Nd.start=.guest k0) (fun z=>nomatch z)]
 by_cases e:k=k0
 ·subst e
  rw[Xe rfl];have:Q3 (fun t=>if G.th k t=true then φ (.guest k) (.line (G.ln k) t)*(ind (Nd.guest k=.guest k)-ind (Nd.line (G.ln k) t=.guest k)) else 0) y.T=Q3 (fun t=>QV G φ t k) y.T:=by
   refine Zn fun t _=>?_;unfold QV;split
   ·rw[ZK (p:=Nd.line (G.ln k) t=.guest k) (fun z=>nomatch z)]
    simp[ind]
   ·rfl
  rw[this];simp[ind];omega
 ·have ne:¬Nd.guest k=.guest k0:=fun z=>e (by injection z)
  rw[Xc e,ZK ne,Zn (g:=fun _=>0) fun t _=>?_,VA]
  ·simp
  ·rw[ZK (p:=Nd.line (G.ln k) t=.guest k0) (fun z=>nomatch z)]
   simp
def D1 {y:Yd}(ok:y.Ok){c l:Nat}(h0:0<c)(hc:c<y.ls.length):upN y c=l↔Zf y c=some l:=by
 obtain⟨a,ea,_⟩:=ok.ups c h0 hc;unfold upN;rw[ea];simp
def Au {y:Yd}(ok:y.Ok)(G:Gv)(φ:QP Nd){l t0:Nat}(hl:l<y.ls.length)(ht:t0<y.T):Vn (Za y G) φ (.line l t0) =
 upF y φ t0 l-Q3 (fun k=>QV G φ t0 k*ind (G.ln k=l)) G.m-Q3 (fun c=>if Zf y c=some l then upF y φ t0 c else 0) y.ls.length:=by
 unfold Vn;rw[DK];have h1:Q3 (fun k=>φ .start (.guest k)*(ind (Nd.start=.line l t0)-ind (Nd.guest k=.line l t0))+Q3 (fun t=>if G.th k t=true then φ (.guest k) (.line (G.ln k) t)*(ind (Nd.guest k=.line l t0)-ind (Nd.line (G.ln k) t=.line l t0)) else 0) y.T) G.m = - Q3 (fun k=>QV G φ t0 k*ind (G.ln k=l)) G.m:=by
  rw[show-Q3 (fun k=>QV G φ t0 k*ind (G.ln k=l)) G.m=(-1)*Q3 (fun k=>QV G φ t0 k*ind (G.ln k=l)) G.m by omega,<- B3];refine Zn fun k _=>?_;rw[ZK (p:=Nd.start=.line l t0) (fun z=>nomatch z),ZK (p:=Nd.guest k=.line l t0) (fun z=>nomatch z)];rw[Zn (g:=fun t=>if t=t0 then-(QV G φ t0 k*ind (G.ln k=l)) else 0) fun t _=>?_,Um,Xe ht]
  ·simp
  ·by_cases e:t=t0
   ·subst e
    rw[Xe rfl,Be (p:=Nd.line (G.ln k) t=.line l t) (q:=G.ln k=l) (by simp)];unfold QV;split
    ·rw[Int.zero_sub,Int.mul_neg]
    ·simp
   ·rw[Xc e,ZK (p:=Nd.line (G.ln k) t=.line l t0) (fun z=>e (by injection z))]
    simp
 rw[h1];have h2:Q3 (fun t=>φ (.line 0 t) .fin*(ind (Nd.line 0 t=.line l t0)-ind (Nd.fin=.line l t0))+Q3 (fun i=>φ (.line (i+1) t) (.line (upN y (i+1)) t)*(ind (Nd.line (i+1) t=.line l t0)-ind (Nd.line (upN y (i+1)) t=.line l t0))) (y.ls.length-1)) y.T
  = upF y φ t0 l-Q3 (fun c=>if Zf y c=some l then upF y φ t0 c else 0) y.ls.length:=by
  rw[Zn (g:=fun t=>if t=t0 then upF y φ t0 l-Q3 (fun c=>if Zf y c=some l then upF y φ t0 c else 0) y.ls.length else 0) fun t _=>?_,Um,Xe ht];rw[ZK (p:=Nd.fin=.line l t0) (fun z=>nomatch z)]
  by_cases e:t=t0
  ·subst e
   rw[Xe rfl,Be (p:=Nd.line 0 t=.line l t) (q:=0=l) (by simp)];have hn:y.ls.length=(y.ls.length-1)+1:=by omega
   have e1:upF y φ t l=Q3 (fun c=>if c=l then upF y φ t l else 0) y.ls.length:=by rw[Um,Xe hl]
   have e2:∀c,c<y.ls.length->(if c=l then upF y φ t l else 0)=upF y φ t c*ind (c=l):=fun c _=>by
    by_cases q:c=l
    ·subst q;simp[ind]
    ·simp[ind,q]
   rw[e1,Zn e2,hn,DO,DO];have u0:¬Zf y 0=some l:=fun z=>by rw[ok.up0]at z;cases z
   have f0:upF y φ t 0=φ (.line 0 t) .fin:=by unfold upF;rw[Xe rfl]
   rw[Xc u0,f0,<- hn];have e3:Q3 (fun i=>φ (.line (i+1) t) (.line (upN y (i+1)) t)*(ind (Nd.line (i+1) t=.line l t)-ind (Nd.line (upN y (i+1)) t=.line l t))) (y.ls.length-1)
    = Q3 (fun i=>upF y φ t (i+1)*ind (i+1=l)) (y.ls.length-1)+Q3 (fun i => -1*(if Zf y (i+1)=some l then upF y φ t (i+1) else 0)) (y.ls.length-1):=by
    rw[<- Gi];refine Zn fun i hi=>?_;rw[Be (p:=Nd.line (i+1) t=.line l t) (q:=i+1=l) (by simp),Be (p:=Nd.line (upN y (i+1)) t=.line l t) (q:=Zf y (i+1)=some l) (by rw[<- D1 ok (by omega) (by omega)];simp)]
    have:upF y φ t (i+1)=φ (.line (i+1) t) (.line (upN y (i+1)) t):=by unfold upF;rw[Xc (by omega)]
    rw[this,U6];by_cases q:Zf y (i+1)=some l
    ·rw[Xe q];simp[ind,q];omega
    ·rw[Xc q];simp[ind,q]
   rw[e3,B3];simp only[Int.sub_zero];omega
  ·rw[Xc e,ZK (p:=Nd.line 0 t=.line l t0) (fun z=>e (by injection z)),Zn (g:=fun _=>0) fun i _=>?_,VA]
   ·simp
   ·rw[ZK (p:=Nd.line (i+1) t=.line l t0) (fun z=>e (by injection z)),ZK (p:=Nd.line (upN y (i+1)) t=.line l t0) (fun z=>e (by injection z))]
    simp
 rw[h2];omega
end Mir
namespace Mir
section
variable {ν:Type} [DecidableEq ν]
def VH.fwd {L:Lay ν}{φ:QP ν}(hw:Within L φ){es:Got ν}(hc:VH L φ es){x:ν×ν×Int}(hx:x∈L)(h1:x.1∈QR es)(h2:x.2.1∉QR es):φ x.1 x.2.1=x.2.2:=by
 obtain⟨i,hi⟩:=List.mem_iff_getElem?.mp hx;have e:(2*i)/2=i:=by omega
 have e2:(2*i)%2=0:=by omega
 by_cases z:φ x.1 x.2.1=x.2.2
 ·exact z
 ·have:=hw x hx
  exact Xk (hc (2*i) x.1 x.2.1 (x.2.2-φ x.1 x.2.1) (by unfold tlE;rw[e,hi,e2];rfl) (by unfold hdE;rw[e,hi,e2];rfl) (by unfold rmE;rw[e,hi,e2];rfl) (by omega) h1) h2
def VH.bwd {L:Lay ν}{φ:QP ν}(hw:Within L φ){es:Got ν}(hc:VH L φ es){x:ν×ν×Int}(hx:x∈L)(h1:x.1∉QR es)(h2:x.2.1∈QR es):φ x.1 x.2.1=0:=by
 obtain⟨i,hi⟩:=List.mem_iff_getElem?.mp hx;have e:(2*i+1)/2=i:=by omega
 have e2:¬(2*i+1)%2=0:=by omega
 by_cases z:φ x.1 x.2.1=0
 ·exact z
 ·have:=hw x hx
  exact Xk (hc (2*i+1) x.2.1 x.1 (φ x.1 x.2.1) (by unfold tlE;rw[e,hi];simp[e2]) (by unfold hdE;rw[e,hi];simp[e2]) (by unfold rmE;rw[e,hi];simp[e2]) (by omega) h2) h1
end
structure Flow (y:Yd)(G:Gv)(φ:QP Nd):Prop where
 wi:Within (Za y G) φ
 kp:∀n,n≠.start->n≠.fin->Vn (Za y G) φ n=0
def NS {y:Yd}{G:Gv}{k:Nat}(hk:k<G.m):((.start,.guest k,G.wa k):Nd×Nd×Int)∈Za y G:=Us.mpr (.inl ⟨k,hk,Y6.mpr (.inl rfl)⟩)
def Bd {y:Yd}{G:Gv}{k t:Nat}(hk:k<G.m)(ht:t<y.T)(h:G.th k t=true):((.guest k,.line (G.ln k) t,G.mo k):Nd×Nd×Int)∈Za y G:=Us.mpr (.inl ⟨k,hk,Y6.mpr (.inr ⟨t,ht,h,rfl⟩)⟩)
def KO {y:Yd}{G:Gv}{t:Nat}(ht:t<y.T):((.line 0 t,.fin,Zz y 0 t):Nd×Nd×Int)∈Za y G:=Us.mpr (.inr ⟨t,ht,Ws.mpr (.inl rfl)⟩)
def M9 {y:Yd}{G:Gv}{t l:Nat}(ht:t<y.T)(h0:0<l)(hl:l<y.ls.length):((.line l t,.line (upN y l) t,Zz y l t):Nd×Nd×Int)∈Za y G :=
 Us.mpr (.inr ⟨t,ht,Ws.mpr (.inr ⟨l-1,by omega,by rw[show l-1+1=l by omega]⟩)⟩)
def moT (G:Gv)(t k:Nat):Int:=if G.th k t=true then G.mo k else 0
section
variable {y:Yd}{G:Gv}{φ:QP Nd}(F:Flow y G φ)
include F
theorem Flow.tak {k t:Nat}(hk:k<G.m)(ht:t<y.T):0<=QV G φ t k/\QV G φ t k<=moT G t k:=by
 unfold QV moT;by_cases c:G.th k t=true
 ·rw[Xe c,Xe c]
  exact F.wi _ (Bd hk ht c)
 ·rw[Xc c,Xc c]
  omega
theorem Flow.total {k:Nat}(hk:k<G.m):Q3 (fun t=>QV G φ t k) y.T=φ .start (.guest k):=by
 have:=F.kp (.guest k) (fun z=>nomatch z) (fun z=>nomatch z)
 rw[Ej y G φ hk]at this;omega
theorem Flow.want {k:Nat}(hk:k<G.m):0<=φ .start (.guest k)/\φ .start (.guest k)<=G.wa k:=F.wi _ (NS hk)
theorem Flow.up (ok:y.Ok)(hln:∀k,k<G.m->G.ln k<y.ls.length){t:Nat}(ht:t<y.T):∀n l,y.ls.length<=l+n->l<y.ls.length->upF y φ t l=ZZ y G.m G.ln (QV G φ t) l
 |0,l,h,hl=>by omega
 |n+1,l,h,hl=>by
   have z:=F.kp (.line l t) (fun z=>nomatch z) (fun z=>nomatch z)
   rw[Au ok G φ hl ht]at z;have e:Q3 (fun c=>if Zf y c=some l then upF y φ t c else 0) y.ls.length=Q3 (fun c=>if Zf y c=some l then ZZ y G.m G.ln (QV G φ t) c else 0) y.ls.length:=by
    refine Zn fun c hc=>?_
    by_cases u:Zf y c=some l
    ·rw[Xe u,Xe u]
     have:=Ua ok hc u
     exact Flow.up ok hln ht n c (by omega) hc
    ·rw[Xc u,Xc u]
   rw[Gq ok hln _ hl,<- e];omega
theorem Flow.up_ok (ok:y.Ok){t l:Nat}(ht:t<y.T)(hl:l<y.ls.length):0<=upF y φ t l/\upF y φ t l<=Zz y l t:=by
 unfold upF;by_cases z:l=0
 ·subst z
  rw[Xe rfl];exact F.wi _ (KO ht)
 ·rw[Xc z]
  exact F.wi _ (M9 ht (by omega) hl)
theorem Flow.load (ok:y.Ok)(hln:∀k,k<G.m->G.ln k<y.ls.length){t l:Nat}(ht:t<y.T)(hl:l<y.ls.length):ZZ y G.m G.ln (QV G φ t) l<=Zz y l t:=by
 rw[<- F.up ok hln ht y.ls.length l (by omega) hl];exact(F.up_ok ok ht hl).2
def Vm (es:Got Nd)(k:Nat):Bool:=decide (Nd.guest k∈QR es)
def Pn (es:Got Nd)(t l:Nat):Bool:=decide (Nd.line l t∈QR es)
omit F in
theorem not_of {p:Prop} [Decidable p] (h:decide p=false):¬p:=G5 h
theorem Flow.shut (ok:y.Ok)(hln:∀k,k<G.m->G.ln k<y.ls.length){es:Got Nd}(hc:VH (Za y G) φ es)(hf:Nd.fin∉QR es){t:Nat}(ht:t<y.T) :
 Shut y G.m G.ln (QV G φ t) (moT G t) (fun l=>Zz y l t) (Vm es) (Pn es t) where
 nn k hk:=(F.tak hk ht).1
 full k hk hS hR:=by
  unfold QV moT;by_cases c:G.th k t=true
  ·rw[Xe c,Xe c]
   exact hc.fwd F.wi (Bd hk ht c) (X0 hS) (not_of hR)
  ·rw[Xc c,Xc c]
 none k hk hS hR:=by
  unfold QV;by_cases c:G.th k t=true
  ·rw[Xe c]
   exact hc.bwd F.wi (Bd hk ht c) (not_of hS) (X0 hR)
  ·rw[Xc c]
 top hR:=by
  have h0:=ok.l1;rw[<- F.up ok hln ht y.ls.length 0 (by omega) (by omega)];unfold upF;rw[Xe rfl];exact hc.fwd F.wi (KO ht) (X0 hR) hf
 out c a hcl u h1 h2:=by
  have c0:c≠0:=fun z=>by subst z;rw[ok.up0]at u;cases u
  have ea:upN y c=a:=(D1 ok (by omega) hcl).mpr u;rw[<- F.up ok hln ht y.ls.length c (by omega) hcl];unfold upF;rw[Xc c0];exact hc.fwd F.wi (M9 ht (by omega) hcl) (X0 h1) (by rw[ea];exact not_of h2)
 inn c a hcl u h1 h2:=by
  have c0:c≠0:=fun z=>by subst z;rw[ok.up0]at u;cases u
  have ea:upN y c=a:=(D1 ok (by omega) hcl).mpr u;rw[<- F.up ok hln ht y.ls.length c (by omega) hcl];unfold upF;rw[Xc c0];exact hc.bwd F.wi (M9 ht (by omega) hcl) (not_of h1) (by rw[ea];exact X0 h2)
theorem Flow.filled {es:Got Nd}(hc:VH (Za y G) φ es)(hs:Nd.start∈QR es){k:Nat}(hk:k<G.m)(hS:Vm es k=false):Q3 (fun t=>QV G φ t k) y.T=G.wa k:=by
 rw[F.total hk];exact hc.fwd F.wi (NS hk) hs (not_of hS)
def Wd (G:Gv)(S:Qm)(t l:Nat):Int:=Q3 (fun k=>Zk S (moT G t) k*ind (G.ln k=l)) G.m
omit F in
theorem NC {y:Yd}(ok:y.Ok):∀n j,j<n->j<y.ls.length->0∈upL y j
 |0,j,h,_=>by omega
 |n+1,j,h,hj=>by
   by_cases z:j=0
   ·subst z;exact DC y 0
   ·obtain⟨a,ea,la⟩:=ok.ups j (by omega) hj
    exact(MR ok (by omega) hj ea 0 (fun q=>z q.symm)).mpr (NC ok n a (by omega) (by omega))
omit F in
theorem R1 {y:Yd}(ok:y.Ok){m:Nat}{ln:Nat->Nat}(hln:∀k,k<m->ln k<y.ls.length)(f:Qn):ZZ y m ln f 0=Q3 f m :=
 Zn fun k hk=>by
  unfold ind;rw[Xe (NC ok _ _ (Wa _) (hln k hk)),Int.mul_one]
theorem Flow.no_more (ok:y.Ok)(hln:∀k,k<G.m->G.ln k<y.ls.length)(S:Qm){t:Nat}(ht:t<y.T):Q3 (Zk S (QV G φ t)) G.m<=passes y (fun l=>Zz y l t) (Wd G S t) 0:=by
 have l1:=ok.l1;rw[<- R1 ok hln];refine Mir.no_more ok hln (fun l hl=>?_) (fun l hl=>?_) y.ls.length 0 (by omega) (by omega)
 ·refine YV fun k hk=>?_
  have q:=F.tak hk ht
  by_cases e:G.ln k=l
  ·unfold Zk ind
   rw[Xe e];split<;>omega
  ·rw[ZK e];omega
 ·have q:=F.load ok hln ht hl
  have q2:=NN (y:=y) (ln:=G.ln) (f:=Zk S (QV G φ t)) (g:=QV G φ t) (fun k hk=>DI (F.tak hk ht).1) l;omega
theorem Flow.meet (ok:y.Ok)(hln:∀k,k<G.m->G.ln k<y.ls.length){es:Got Nd}(hc:VH (Za y G) φ es)(hf:Nd.fin∉QR es){t:Nat}(ht:t<y.T) :
 passes y (fun l=>Zz y l t) (Wd G (Vm es) t) 0=Q3 (Zk (Vm es) (QV G φ t)) G.m:=by
 have l1:=ok.l1;have a:=F.no_more ok hln (Vm es) ht;have b:=(F.shut ok hln hc hf ht).all ok hln (own:=Wd G (Vm es) t) (fun l hl=>rfl) y.ls.length 0 (by omega) (by omega) (fun _=>.inl rfl);rw[R1 ok hln]at b;omega
omit F in
theorem DF (f g:Qn):∀n,Q3 (fun k=>f k-g k) n=Q3 f n-Q3 g n
 |0=>rfl
 |n+1=>by
   simp only[Q3];rw[DF f g n];omega
theorem Flow.lack (ok:y.Ok)(hln:∀k,k<G.m->G.ln k<y.ls.length){es:Got Nd}(hc:VH (Za y G) φ es)(hs:Nd.start∈QR es)(hf:Nd.fin∉QR es) :
 Q3 (fun k=>G.wa k-Q3 (fun t=>QV G φ t k) y.T) G.m=Q3 (Zk (Vm es) G.wa) G.m-Q3 (fun t=>passes y (fun l=>Zz y l t) (Wd G (Vm es) t) 0) y.T:=by
 rw[Zn (n:=y.T) fun t ht=>F.meet ok hln hc hf ht,B9,<- DF];refine Zn fun k hk=>?_
 cases s:Vm es k with
 |true =>
   have:Q3 (fun t=>Zk (Vm es) (QV G φ t) k) y.T=Q3 (fun t=>QV G φ t k) y.T:=Zn fun t _=>by unfold Zk;rw[Xe s]
   rw[this];unfold Zk;rw[Xe s]
 |false =>
   have:Q3 (fun t=>Zk (Vm es) (QV G φ t) k) y.T=0:=by
    rw[Zn (g:=fun _=>0) fun t _=>?_,VA];unfold Zk;rw[Xc (by rw[s];decide)]
   rw[this,F.filled hc hs hk s];unfold Zk;rw[Xc (by rw[s];decide)];omega
omit F in
theorem AI (y:Yd)(G:Gv)(φ:QP Nd):Vn (Za y G) φ .start=Q3 (fun k=>φ .start (.guest k)) G.m:=by
 unfold Vn;rw[DK];have h2:Q3 (fun t=>φ (.line 0 t) .fin*(ind (Nd.line 0 t=.start)-ind (Nd.fin=.start))+Q3 (fun i=>φ (.line (i+1) t) (.line (upN y (i+1)) t)*(ind (Nd.line (i+1) t=.start)-ind (Nd.line (upN y (i+1)) t=.start))) (y.ls.length-1)) y.T=0:=by
  rw[Zn (g:=fun _=>0) fun t _=>?_,VA];rw[ZK (fun z=>nomatch z),ZK (fun z=>nomatch z),Zn (g:=fun _=>0) fun i _=>?_,VA]
  ·simp
  ·rw[ZK (fun z=>nomatch z),ZK (fun z=>nomatch z)];simp
 rw[h2,U7];refine Zn fun k _=>?_;rw[ZK (p:=Nd.guest k=.start) (fun z=>nomatch z),Zn (g:=fun _=>0) fun t _=>?_,VA]
 ·simp[ind]
 ·rw[ZK (p:=Nd.line (G.ln k) t=.start) (fun z=>nomatch z)];simp
theorem Flow.push {a:Int}(ha:0<=a){w:Qk}(hw:Chain (Za y G) .start .fin w)(hn:w.Nodup)(hr:∀e∈w,∃r,rmE (Za y G) φ e=some r/\a<=r) :
 Flow y G (Yw (Za y G) a φ w)/\Vn (Za y G) (Yw (Za y G) a φ w) .start=Vn (Za y G) φ .start+a:=by
 refine⟨⟨SE (B7 y G) ha F.wi hn hr,fun n h1 h2=>?_⟩,?_⟩
 ·rw[D9 (B7 y G) n hw,F.kp n h1 h2,ZK (fun z=>h1 z.symm),ZK (fun z=>h2 z.symm)]
  simp
 ·rw[D9 (B7 y G) .start hw,ZK (p:=Nd.fin=.start) (fun z=>nomatch z)]
  simp[ind]
theorem Flow.most:Vn (Za y G) φ .start<=Q3 G.wa G.m:=by
 rw[AI];exact YV fun k hk=>(F.want hk).2
end
def PK {y:Yd}{G:Gv}(h:∀x∈Za y G,0<=x.2.2):Flow y G (fun _ _=>0):=by
 refine⟨fun x hx=>⟨WT _,h x hx⟩,fun n _ _=>?_⟩
 unfold Vn ZT;have:∀L:Lay Nd,(L.map fun x=>(0:Int)*(ind (x.1=n)-ind (x.2.1=n))).sum=0:=fun L=>by
  induction L with
  |nil=>rfl
  |cons x L ih=>rw[Xv,G0,ih];simp
 exact this _
end Mir
namespace Mir
open PySem
def AB (e:Nat):Builtin.bitAnd (e:Int) 1=((e%2:Nat):Int):=by
 unfold Builtin.bitAnd;have h1:decide ((0:Int)<=(e:Int))=true:=XV (by omega);have h2:decide ((0:Int)<=1)=true:=rfl;rw[h1,h2];show((((e:Int).toNat &&& (1:Int).toNat:Nat)):Int)=_;rw[XN,show(1:Int).toNat=1 from rfl,Nat.and_one_is_mod]
def Tj (e:Nat):e ||| 1=e+1-e%2:=by
 apply Nat.eq_of_testBit_eq
 intro i;rw[Nat.testBit_or];have h2:e%2=0\/e%2=1:=by omega
 cases i with
 |zero =>
   rw[Nat.testBit_zero,Nat.testBit_zero,Nat.testBit_zero];have:(e+1-e%2)%2=1:=by omega
   rw[this];rcases h2 with h|h<;>rw[h]<;>rfl
 |succ i =>
   rw[Nat.testBit_succ,Nat.testBit_succ,Nat.testBit_succ];have:(e+1-e%2)/2=e/2:=by omega
   rw[this];simp
def Az (e:Nat):Builtin.bitOr (e:Int) 1=((e+1-e%2:Nat):Int):=by
 unfold Builtin.bitOr;have a:Builtin.bitNot (e:Int) = -(e:Int)-1:=rfl;have b:Builtin.bitNot 1 = -2:=rfl
 have c:Builtin.bitAnd (Builtin.bitNot (e:Int)) (Builtin.bitNot 1)=Builtin.bitNot (((e ||| 1:Nat)):Int):=by
  rw[a,b];unfold Builtin.bitAnd;have h1:decide ((0:Int) <= -(e:Int)-1)=false:=XS (by omega);have h2:decide ((0:Int) <= -2)=false:=rfl;rw[h1,h2];show Builtin.bitNot ((((Builtin.bitNot (-(e:Int)-1)).toNat ||| (Builtin.bitNot (-2)).toNat:Nat)):Int)=_;have e1:(Builtin.bitNot (-(e:Int)-1)).toNat=e:=by show(-(-(e:Int)-1)-1).toNat=e;omega
  have e2:(Builtin.bitNot (-2)).toNat=1:=rfl;rw[e1,e2]
 rw[c,Tj];show -(-(((e+1-e%2:Nat)):Int)-1)-1=_;omega
def Hf (e:Nat):Builtin.bitXor (e:Int) 1=(Zes e:Int):=by
 unfold Builtin.bitXor;rw[AB,Az];unfold Zes;split<;>omega
end Mir
namespace L2
open PySem PySem.Spec PyProof.Rows
abbrev KK:=List Key×List Key
def Wy (P:Program)(w:World)(a:Addr)(xs:List (KK×Addr×V))(h:Heap):Prop:=xs.length<=sizeLine/\(a==sysModules)=false/\∃vs:List (KK×Addr×Value),
 Paired (fun(x:KK×Addr×V) (y:KK×Addr×Value)=>x.1=y.1/\x.2.1=y.2.1/\QI x.2.2 y.2.2) xs vs /\
 ∃o es ep,h.get? a=some o/\o.ExactDict/\o.data=.dict es ep/\es.toList=vs.map (entryOfKey (DQ (ZA P w)))/\(vs.map (·.1)).Nodup
def pdO (P:Program)(w:World)(a:Addr)(xs:List (KK×Addr×V)):HO:=.ext (Wy P w a xs)
def Wy.move {P:Program}{w:World}{a:Addr}{xs:List (KK×Addr×V)}{h1 h2:Heap}(x:Wy P w a xs h1)(k:∀o,h1.get? a=some o->h2.get? a=some o):Wy P w a xs h2:=by
 obtain⟨z,y,vs,r,o,es,ep,e1,e2,e3,e4,e5⟩:=x
 exact⟨z,y,vs,r,o,es,ep,k _ e1,e2,e3,e4,e5⟩
def Wy.ok {P:Program}{w:World}{a:Addr}{xs:List (KK×Addr×V)}{H:Hp}{h:Heap}(x:Wy P w a xs h):Z0 P w H h a (pdO P w a xs):=by
 refine⟨x,?_,fun h1 h2 y k=>y.move k⟩;obtain⟨z,y,vs,r,o,es,ep,e1,_⟩:=x
 exact⟨o,e1⟩
def ZY (H:Hp)(k:KK)(b:Addr):Prop := ∃p q,H b=some (.tup [.ref p,.ref q])/\H p=some (.tup (k.1.map kV))/\H q=some (.tup (k.2.map kV))
def ZY.mono {H H':Hp}(s:∀b ys,H b=some (.tup ys)->H' b=some (.tup ys)){k:KK}{b:Addr}(x:ZY H k b):ZY H' k b:=by
 obtain⟨p,q,h1,h2,h3⟩:=x
 exact⟨p,q,s _ _ h1,s _ _ h2,s _ _ h3⟩
section
variable {P:Program}{w:World}{H:Hp}{h:Heap}{a b:Addr}
def B6 {k:KK}(ok:HOk P w H h)(x:ZY H k b):(DQ (ZA P w)).is h k b:=by
 obtain⟨p,q,h1,h2,h3⟩:=x;obtain⟨_,its,r,o,e1,e2,n,e3⟩:=(show Z0 P w H h b (.tup [.ref p,.ref q]) from ok b _ h1)
 cases r with
 |cons r1 r =>
   cases r with
   |cons r2 r =>
     cases r
     cases (show _=Value.ref p from r1)
     cases (show _=Value.ref q from r2)
     exact⟨o,n,p,q,e1,e2,e3,YO ok h2,YO ok h3⟩
def Mw {xs:List (KK×Addr×V)}(ok:HOk P w H h)(e:H a=some (pdO P w a xs))(hk:∀x∈xs,ZY H x.1 x.2.1):xs.length<=sizeLine/\(a==sysModules)=false/\∃vs,
 Paired (fun(x:KK×Addr×V) (y:KK×Addr×Value)=>x.1=y.1/\x.2.1=y.2.1/\QI x.2.2 y.2.2) xs vs/\h.DictOfH (DQ (ZA P w)) a vs:=by
 obtain⟨⟨z,y,vs,r,o,es,ep,e1,e2,e3,e4,e5⟩,hst⟩:=(show Z0 P w H h a (pdO P w a xs) from ok a _ e);refine⟨z,y,vs,r,o,es,ep,e1,e2,e3,e4,?_,e5⟩;clear e5 e4 z e hst;induction r with
 |nil=>intro x hx;exact nomatch hx
 |@cons p q ps qs hq t ih =>
   intro x hx;rcases Xf.mp hx with rfl|hx
   ·have:=B6 ok (hk p Xa)
    rw[hq.1,hq.2.1]at this;exact this
   ·exact ih (fun z hz=>hk z (Xd _ hz)) x hx
end
def VL (xs:List (KK×Addr×V))(k:KK):Option V:=(xs.find? fun x=>decide (x.1=k)).map (·.2.2)
abbrev RPD:=Paired (fun(x:KK×Addr×V) (y:KK×Addr×Value)=>x.1=y.1/\x.2.1=y.2.1/\QI x.2.2 y.2.2)
def RPD.val (k:KK){xs:List (KK×Addr×V)}{vs:List (KK×Addr×Value)}(r:RPD xs vs):ZE (VL xs k) ((atKey vs k).map (·.2)):=by
 induction r with
 |nil=>exact True.intro
 |@cons p q ps qs hq t ih =>
   by_cases e:p.1=k
   ·have e1:VL (p::ps) k=some p.2.2:=by simp[VL,Xz,e]
    have e2:(atKey (q::qs) k).map (·.2)=some q.2.2:=by simp[atKey,Xz,<- hq.1,e]
    rw[e1,e2];exact hq.2.2
   ·have e1:VL (p::ps) k=VL ps k:=by simp[VL,Xz,e]
    have e2:(atKey (q::qs) k).map (·.2)=(atKey qs k).map (·.2):=by simp[atKey,Xz,<- hq.1,e]
    rw[e1,e2];exact ih
def Ww (xs:List (KK×Addr×V))(k:KK)(b:Addr)(v:V):List (KK×Addr×V):=if (VL xs k).isSome=true then xs.map (fun x=>if x.1=k then (x.1,x.2.1,v) else x) else xs++[(k,b,v)]
def RPD.repl (k:KK){v:V}{u:Value}(rv:QI v u){xs:List (KK×Addr×V)}{vs:List (KK×Addr×Value)}(r:RPD xs vs):RPD (xs.map fun x=>if x.1=k then (x.1,x.2.1,v) else x) (vs.map (putAt k u)):=by
 induction r with
 |nil=>exact .nil
 |@cons p q ps qs hq t ih =>
   rw[Xv,Xv];refine .cons ?_ ih;unfold putAt;by_cases e:p.1=k
   ·rw[Xe e,Xe (hq.1▸e)]
    exact⟨hq.1,hq.2.1,rv⟩
   ·rw[Xc e,Xc (hq.1▸e)]
    exact hq
theorem ZE.some_eq:∀{x:Option V} {y:Qf},ZE x y->x.isSome=y.isSome
 |none,none,_=>rfl
 |some _,some _,_=>rfl
 |none,some _,h=>by cases h
 |some _,none,h=>by cases h
def RPD.put (k:KK)(b:Addr){v:V}{u:Value}(rv:QI v u){xs:List (KK×Addr×V)}{vs:List (KK×Addr×Value)}(r:RPD xs vs):RPD (Ww xs k b v) (storedH vs k b u):=by
 have e:=ZE.some_eq (r.val k);rw[WR]at e;unfold Ww storedH;rw[e];split
 ·exact r.repl k rv
 ·exact Paired.snoc r ⟨rfl,rfl,rv⟩
def EB (xs:List (KK×Addr×V))(k:KK)(b:Addr)(v:V):(Ww xs k b v).length<=xs.length+1:=by
 unfold Ww;split<;>simp
section
variable {X:Cx}{XaR:Qc}{σ:St}{H:Hp}{s:Shared}{a b:Addr}{v:V}{r:Value}{A:Around}{E:Qb}{xs:List (KK×Addr×V)}{k:KK}
def C0 {Q:Unit->Shared->Prop}(hu:A.units+6<cLine)(I:Qq X XaR σ H s)(e:H a=some (pdO X.prog X.w a xs))(hk:∀x∈xs,ZY H x.1 x.2.1)(hb:ZY H k b)(l:xs.length<sizeLine)(rv:QI v r)
 (h:∀s',Qq X XaR σ (upd H a (pdO X.prog X.w a (Ww xs k b v))) s'->Q () s'):wpAny (model X.prog X.w) A (setItem (.ref a) (.ref b) r) Q E s:=by
 obtain⟨z,hd,vs,rel,dd⟩:=Mw I.hok e hk;have hz:vs.length<=sizeLine:=by rw[<- Paired.length rel];exact z
 refine wpAny_setItem_heap (hsz:=hz) (show A.units+1+5<cLine by omega) (B6 I.hok hb) dd fun h' dd' hs=>h _ ?_;obtain⟨q,es,ep,hq,h2,h3,h4,_,h5⟩:=dd';exact UX I (by rw[e];exact True.intro) hs ⟨q,hq⟩ (Wy.ok ⟨by have:=EB xs k b v;omega,hd,_,RPD.put k b rv rel,q,es,ep,hq,h2,h3,h4,h5⟩)
def Ad {Q:Qb}(hu:A.units+6<cLine)(I:Qq X XaR σ H s)(e:H a=some (pdO X.prog X.w a xs))(hk:∀x∈xs,ZY H x.1 x.2.1)(hb:ZY H k b)(hv:VL xs k=some v)
 (h:∀u s',Qq X XaR σ H s'->QI v u->Q u s'):wpAny (model X.prog X.w) A (getItem (.ref a) (.ref b)) Q E s:=by
 obtain⟨z,hd,vs,rel,dd⟩:=Mw I.hok e hk;have rr:=RPD.val k rel;rw[hv]at rr;cases ek:atKey vs k with
 |none=>rw[ek]at rr;cases rr
 |some p =>
   rw[ek]at rr;exact wpAny_getItem_heap (show A.units+1+5<cLine by omega) (B6 I.hok hb) dd ek (h _ _ (I.tok _) rr)
def Fc {Q:Qb}(hu:A.units+6<cLine)(I:Qq X XaR σ H s)(e:H a=some (pdO X.prog X.w a xs))(hk:∀x∈xs,ZY H x.1 x.2.1)(hb:ZY H k b)
 (h:∀s',Qq X XaR σ H s'->Q (.bool (!(VL xs k).isSome)) s'):wpAny (model X.prog X.w) A (compareOp .NotIn (.ref b) (.ref a)) Q E s:=by
 obtain⟨z,hd,vs,rel,dd⟩:=Mw I.hok e hk;have rr:=ZE.some_eq (RPD.val k rel);rw[WR]at rr;refine wpAny_notIn_heap (show A.units+1+5<cLine by omega) (B6 I.hok hb) hd dd ?_;rw[<- rr];exact h _ (I.tok _)
end
section
variable {X:Cx}{XaR:Qc}{σ:St}{H:Hp}{s:Shared}{a b:Addr}{d:V}{r:Value}{A:Around}{E:Qb}{kvs:List (List Key×V)}{k:List Key}
def Fz {Q:Qb}(hu:A.units+1<cLine)(I:Qq X XaR σ H s)(e:H a=some (.dT kvs))(eb:H b=some (.tup (k.map kV)))(l:kvs.length<sizeLine)(rd:QI d r)
 (h1:∀v u s',Zr kvs k=some v->Qq X XaR σ H s'->QI v u->Q u s') (h2:Zr kvs k=none->∀s',Qq X XaR σ (upd H a (.dT (kvs++[(k,d)]))) s'->Q r s') :
 wpAny (model X.prog X.w) A (call (.builtin "dict.setdefault") [.ref a,.ref b,r]) Q E s:=by
 obtain⟨z,hd,xs,rel,dd⟩:=Mv I.hok e;have hz:xs.length<=sizeLine:=by rw[<- Paired.length rel];exact z
 have rr:=rel.val k
 refine call_meetsIn PySem.F.slot_dict_setdefault dd.typeIs PySem.F.entry_dict_setdefault (PySem.F.args_dict_setdefault_3 _ _ _) (IG (tupleKind (ZA X.prog X.w)) a b hd r)
  ⟨tupleKind_room_in1 hu,k,xs,YO I.hok eb,dd,hz,fun p hp=>?_,fun hn h' dd' hs=>?_⟩
 ·rw[hp]at rr
  cases ev:Zr kvs k with
  |none=>rw[ev]at rr;cases rr
  |some v=>rw[ev]at rr;exact h1 v _ _ ev (I.tok _) rr
 ·have ev:Zr kvs k=none:=by
   rw[hn]at rr;cases ev:Zr kvs k with
   |none=>rfl
   |some v=>rw[ev]at rr;cases rr
  refine h2 ev _ ?_;obtain⟨q,es,ep,hq,g2,g3,g4,_,g5⟩:=dd';refine UX I (by rw[e];exact True.intro) hs ⟨q,hq⟩ ⟨by simp;omega,hd,_,(show KT H (kvs++[(k,d)]) (xs++[(k,b,r)]) from Paired.snoc rel ⟨rfl,eb,rd⟩).keeps fun c ys ec=>?_,q,es,ep,hq,g2,g3,g4,g5⟩;rw[Qr (fun z=>by subst z;rw[e]at ec;cases ec)];exact ec
end
def Nu (td ty tx:TE):TE:=fun σ H Q=>td σ H fun x H1=>∃a,x=.ref a/\IsD H1 a/\ty σ H1 fun y H2=>tx σ H2 fun z H3=>∃kvs k b,y=.ref b/\H3 a=some (.dT kvs)/\H3 b=some (.tup (k.map kV))/\kvs.length<sizeLine /\
 (∀v,Zr kvs k=some v->Q v H3)/\(Zr kvs k=none->Q z (upd H3 a (.dT (kvs++[(k,z)]))))
section
variable {X:Cx}{o e f value:Expr}{apos cpos pos pos':Pos}{td ty tx tv:TE}
def CT (hu:X.A.units+1<cLine) (ho:PE X o td) (he:PE X e ty) (hf:PE X f tx) (m:M2 X o "setdefault" apos e f cpos):PE X (.Call (.Attribute o "setdefault" apos) [e,f] [] cpos) (Nu td ty tx):=by
 intro XaR s σ H Q I h;refine wpAny_Call_method m.base m.few m.line PySem.F.plainAttrs_dict PySem.F.slot_dict_setdefault PySem.F.type_dict_setdefault (Q2 (ho XaR s σ H _ I h) fun u s1 ⟨x,H1,I1,rx,a,ex,d,q1⟩=>?_);subst ex;obtain rfl:u=Value.ref a:=rx;obtain⟨t1,t2,_⟩:=Na I1 d;refine⟨t1,t2,?_⟩
 rw[m.trees];refine Calls.callWith_builtin rfl (Calls.evalArgs_plain (Calls.spliced_cons (Q2 (he XaR s1 σ H1 _ I1 q1) fun iv s2 ⟨y,H2,I2,ry,q2⟩ =>
  Calls.spliced_cons (Q2 (hf XaR s2 σ H2 _ I2 q2) fun fv s3 ⟨z,H3,I3,rz,kvs,k,b,ey,e1,e2,l,q3,q4⟩=>Calls.spliced_nil ?_))))
 subst ey;cases (show iv=Value.ref b from ry);exact Fz hu I3 e1 e2 l rz (fun v u s' ev I4 rv=>⟨v,H3,I4,rv,q3 v ev⟩) (fun ev s' I4=>⟨z,_,I4,rz,q4 ev⟩)
def K2 (P:Program)(w:World)(td ty:TE):TE:=fun σ H Q=>td σ H fun x H1=>ty σ H1 fun y H2=>∃a b xs k v,x=.ref a/\y=.ref b/\H2 a=some (pdO P w a xs)/\(∀x∈xs,ZY H2 x.1 x.2.1)/\ZY H2 k b/\VL xs k=some v/\Q v H2
def N4 (P:Program)(w:World)(ty td:TE):TE:=fun σ H Q=>ty σ H fun y H1=>td σ H1 fun x H2=>∃a b xs k,x=.ref a/\y=.ref b/\H2 a=some (pdO P w a xs)/\(∀x∈xs,ZY H2 x.1 x.2.1)/\ZY H2 k b/\Q (.bl (!(VL xs k).isSome)) H2
def K4 (P:Program)(w:World)(td ty tv:TE):TS:=fun D σ H=>tv σ H fun v H1=>td σ H1 fun x H2=>ty σ H2 fun y H3=>∃a b xs k,x=.ref a/\y=.ref b/\H3 a=some (pdO P w a xs)/\(∀x∈xs,ZY H3 x.1 x.2.1)/\ZY H3 k b/\xs.length<sizeLine /\
 D.nx σ (upd H3 a (pdO P w a (Ww xs k b v)))
def Aq {XaR:Qc} {σ:St} {H:Hp} {s:Shared} {a:Addr} {xs:List (KK×Addr×V)} (I:Qq X XaR σ H s) (e:H a=some (pdO X.prog X.w a xs)):s.TypeIs (.ref a) "dict" := by
 obtain⟨⟨_,_,vs,_,o,es,ep,e1,e2,_⟩,_⟩:=(show Z0 X.prog X.w H s.heap a (pdO X.prog X.w a xs) from I.hok a _ e)
 exact⟨o,e1,e2.1⟩
def Lr (hu:X.A.units+6<cLine)(ho:PE X o td)(hi:PE X e ty)(hs:BZ e):PE X (.Subscript o e pos) (K2 X.prog X.w td ty):=by
 intro XaR s σ H Q I h;refine ND PySem.F.slot_dict_getitem.lookup hs (Q2 (ho XaR s σ H _ I h) fun u s1 ⟨x,H1,I1,rx,q1⟩=>Q2 (hi XaR s1 σ H1 _ I1 q1) fun iv s2 ⟨y,H2,I2,ry,a,b,xs,k,v,ex,ey,e1,e2,e3,e4,q2⟩=>?_);subst ex ey;obtain rfl:u=Value.ref a:=rx;obtain rfl:iv=Value.ref b:=ry
 exact⟨Aq I2 e1,Ad hu I2 e1 e2 e3 e4 fun w' s3 I3 rw'=>⟨v,H2,I3,rw',q2⟩⟩
def AW (hu:X.A.units+6<cLine)(hi:PE X e ty)(ho:PE X o td):PC X .NotIn e o (N4 X.prog X.w ty td):=by
 intro XaR s σ H Q I h;refine Q2 (hi XaR s σ H _ I h) fun iv s1 ⟨y,H1,I1,ry,q1⟩=>Q2 (ho XaR s1 σ H1 _ I1 q1) fun u s2 ⟨x,H2,I2,rx,a,b,xs,k,ex,ey,e1,e2,e3,q2⟩=>?_;subst ex ey;obtain rfl:u=Value.ref a:=rx;obtain rfl:iv=Value.ref b:=ry;exact Fc hu I2 e1 e2 e3 fun s3 I3=>⟨.bl (!(VL xs k).isSome),H2,I3,rfl,q2⟩
def TF (hu:X.A.units+6<cLine)(ho:PE X o td)(hi:PE X e ty)(hv:PE X value tv)(hs:swapsWith value (some (.Subscript o e pos')) pos.line X.env=pure false) :
 PS X (.Assign [.Subscript o e pos'] value pos) (K4 X.prog X.w td ty tv):=by
 intro XaR s σ H D I h;refine wpAny_Assign_Subscript (Q2 (hv XaR s σ H _ I h) fun r s1 ⟨v,H1,I1,rv,q1⟩=>Q2 (ho XaR s1 σ H1 _ I1 q1) fun u s2 ⟨x,H2,I2,rx,q2⟩=>Q2 (hi XaR s2 σ H2 _ I2 q2) fun iv s3 ⟨y,H3,I3,ry,a,b,xs,k,ex,ey,e1,e2,e3,l,q3⟩=>?_) hs;subst ex ey;obtain rfl:u=Value.ref a:=rx;obtain rfl:iv=Value.ref b:=ry;exact C0 hu I3 e1 e2 e3 l rv fun s4 I4=>⟨σ,_,I4,q3⟩
end
def Tl (P:Program)(w:World):TE:=fun _ H Q=>∀p,H p=none->Q (.ref p) (upd H p (pdO P w p []))
def Fm {X:Cx}{pos:Pos}:PE X (.Dict [] [] pos) (Tl X.prog X.w):=fun XaR s σ H Q I h =>
 wpAny_Dict_empty ⟨.ref s.heap.objs.size,_,I.laid (a:=s.heap.objs.size) (o:=pdO X.prog X.w s.heap.objs.size []) (t':=s.toks) (fun _ _ q=>Xi _ q) (Xq _)
  (Wy.ok ⟨XF _,beq_eq_false_iff_ne.mpr (Ne.symm (Xo I.big)),[],.nil,_,#[],0,XD _ rfl,⟨rfl,rfl,rfl⟩,rfl,rfl,WP⟩),rfl,h _ (I.hok.fresh (Xq _))⟩
structure Qy where
 ends:List (List Key)
 rooms:Ql
 leav:List (List Key×Ql)
 laid:List (KK×Int)
inductive LaidD (F:Hp):List (KK×Addr×V)->List (KK×Int)->Prop
 |nil:LaidD F [] []
 |cons {k:KK} {b:Addr} {n:Int} {xs:List (KK×Addr×V)} {ls:List (KK×Int)}:ZY F k b->LaidD F xs ls->LaidD F ((k,b,.int n)::xs) ((k,n)::ls)
theorem LaidD.mono {F F':Hp}(s:Q4 F F'):∀{xs:List (KK×Addr×V)} {ls:List (KK×Int)},LaidD F xs ls->LaidD F' xs ls
 |_,_,.nil=>.nil
 |_,_,.cons h t=>.cons (h.mono fun b ys e=>s _ _ e) (t.mono s)
theorem LaidD.at {F H:Hp}(s:Q4 F H):∀{xs:List (KK×Addr×V)} {ls:List (KK×Int)},LaidD F xs ls->∀x∈xs,ZY H x.1 x.2.1
 |_,_,.nil,x,hx=>nomatch hx
 |_,_,.cons h t,x,hx=>by
   rcases Xf.mp hx with rfl|hx
   ·exact h.mono fun b ys e=>s _ _ e
   ·exact t.at s x hx
inductive LeavD (F H:Hp):List (List Key×V)->List (List Key×Ql)->Qg->Prop
 |nil:LeavD F H [] [] []
 |cons {k:List Key} {a:Addr} {ns:Ql} {xs:List (List Key×V)} {ls:List (List Key×Ql)} {as:Qg}:Vc F H a (ns.map PyData.int)->LeavD F H xs ls as->LeavD F H ((k,.ref a)::xs) ((k,ns)::ls) (a::as)
theorem LeavD.mem {F H:Hp}:∀{xs:List (List Key×V)} {ls:List (List Key×Ql)} {as:Qg},LeavD F H xs ls as->∀a∈as,F a=none/\H a≠none
 |_,_,_,.nil,a,ha=>nomatch ha
 |_,_,_,.cons h t,a,ha=>by
   rcases Xf.mp ha with rfl|ha
   ·obtain⟨h1,xs,h2,_⟩:=h
    exact⟨h1,Zt h2⟩
   ·exact t.mem a ha
theorem LeavD.mono {F F' H H':Hp}(s:Q4 F F'):∀{xs:List (List Key×V)} {ls:List (List Key×Ql)} {as:Qg},(∀a∈as,F' a=none)->(∀a∈as,H' a=H a)->LeavD F H xs ls as->LeavD F' H' xs ls as
 |_,_,_,_,_,.nil=>.nil
 |_,_,_,hF,hH,.cons h t=>by
   obtain⟨h1,xs,h2,h3⟩:=h;exact .cons ⟨hF _ Xa,xs,by rw[hH _ Xa];exact h2,h3.mono s⟩ (t.mono s (fun a ha=>hF a (Xd _ ha)) (fun a ha=>hH a (Xd _ ha)))
theorem LeavD.addrs {F F' H H':Hp}:∀{xs:List (List Key×V)} {ls ls':List (List Key×Ql)} {as bs:Qg},LeavD F H xs ls as->LeavD F' H' xs ls' bs->as=bs
 |_,_,_,_,_,.nil,.nil=>rfl
 |_,_,_,_,_,.cons _ t,.cons _ t'=>by rw[t.addrs t']
structure NetOk (P:Program)(w:World)(C:Addr)(N:Qy)(F H:Hp)(a dx e r l d:Addr)(xs:List (List Key×V))(ys:List (KK×Addr×V))(as:Qg):Prop where
 nd:(a::dx::e::r::l::d::as).Nodup
 ins:F a=none/\H a=some (.ins C dx [("ends",.ref e),("rooms",.ref r),("leaving",.ref l),("laid",.ref d)])
 own:F dx=none/\H dx=some (.own a)
 ends:Vc F H e (N.ends.map QQ)
 rooms:Vc F H r (N.rooms.map PyData.int)
 leav:F l=none/\H l=some (.dT xs)/\LeavD F H xs N.leav as
 laid:F d=none/\H d=some (pdO P w d ys)/\LaidD F ys N.laid
def QZ (P:Program)(w:World)(C:Addr)(N:Qy):OwnP where
 ok K F H v p := ∃a dx e r l d xs ys as,v=.ref a/\p=a::dx::e::r::l::d::as/\NetOk P w C N F H a dx e r l d xs ys as
 there:=by
  rintro K F H v p ⟨a,dx,e,r,l,d,xs,ys,as,rfl,rfl,o⟩ b hb
  obtain⟨_,⟨i1,i2⟩,⟨o1,o2⟩,⟨e1,ex,e2,_⟩,⟨r1,rx,r2,_⟩,⟨l1,l2,l3⟩,⟨d1,d2,_⟩⟩:=o;simp only[Xf]at hb;rcases hb with rfl|rfl|rfl|rfl|rfl|rfl|hb
  ·exact⟨i1,Zt i2⟩
  ·exact⟨o1,Zt o2⟩
  ·exact⟨e1,Zt e2⟩
  ·exact⟨r1,Zt r2⟩
  ·exact⟨l1,Zt l2⟩
  ·exact⟨d1,Zt d2⟩
  ·exact l3.mem b hb
 mono:=by
  rintro K F F' H H' v p s hF hH ⟨a,dx,e,r,l,d,xs,ys,as,rfl,rfl,o⟩
  obtain⟨nd,⟨i1,i2⟩,⟨o1,o2⟩,⟨e1,ex,e2,e3⟩,⟨r1,rx,r2,r3⟩,⟨l1,l2,l3⟩,⟨d1,d2,d3⟩⟩:=o
  refine⟨a,dx,e,r,l,d,xs,ys,as,rfl,rfl,nd,⟨hF _ (by simp),by rw[hH _ (by simp)];exact i2⟩,⟨hF _ (by simp),by rw[hH _ (by simp)];exact o2⟩,⟨hF _ (by simp),ex,by rw[hH _ (by simp)];exact e2,e3.mono s⟩,
   ⟨hF _ (by simp),rx,by rw[hH _ (by simp)];exact r2,r3.mono s⟩,⟨hF _ (by simp),by rw[hH _ (by simp)];exact l2,l3.mono s (fun b hb=>hF b (by simp[hb])) (fun b hb=>hH b (by simp[hb]))⟩,⟨hF _ (by simp),by rw[hH _ (by simp)];exact d2,d3.mono s⟩⟩
 uniq:=by
  rintro K F H v p q ⟨a,dx,e,r,l,d,xs,ys,as,rfl,rfl,o⟩ ⟨a',dx',e',r',l',d',xs',ys',as',ev,rfl,o'⟩ c hc
  cases ev
  have i:=o.ins.2.symm.trans o'.ins.2;injection i with i;injection i with _ i1 i2;subst i1;simp only[List.cons.injEq,Prod.mk.injEq,true_and,and_true,V.ref.injEq]at i2;obtain⟨rfl,rfl,rfl,rfl⟩:=i2;have j:=o.leav.2.1.symm.trans o'.leav.2.1;injection j with j;injection j with j;subst j;rw[o.leav.2.2.addrs o'.leav.2.2];exact hc
structure NetC (K:W.Frag)(C:Addr):Prop where
 cl:Cls K C
 ends:Vt K C "ends"
 rooms:Vt K C "rooms"
 leav:Vt K C "leaving"
 laid:Vt K C "laid"
section
variable {K:W.Frag}{ρ:Q6}{tb te ty tx:TE}{D:PEnds}{i:Nat}{v:V}{P:Program}{w:World}{C:Addr}{N:Qy}
def QB.net {H0 F H:Hp}{σ:St}(S:QB K H0 F ρ σ H)(e:ρ[i]?=some (some (.own v (QZ P w C N)))) :
 ∃a dx el r l d xs ys as,v=.ref a/\σ[i]?=some (some (.ref a))/\NetOk P w C N F H a dx el r l d xs ys as/\(∀b∈a::dx::el::r::l::d::as,H0 b=none/\F b=none/\H b≠none) /\
  ∀(H':Hp) (N':Qy) (xs':List (List Key×V)) (ys':List (KK×Addr×V)) (as':Qg),Q4 F H'->(∀b,b∉a::dx::el::r::l::d::as->H b≠none->H' b=H b)->(∀b,H b≠none->H' b≠none) ->
   NetOk P w C N' F H' a dx el r l d xs' ys' as'->(∀b∈as',b∈as\/(H b=none/\H0 b=none))->QB K H0 F (ρ.set i (some (.own v (QZ P w C N')))) σ H':=by
 obtain⟨e1,p,⟨a,dx,el,r,l,d,xs,ys,as,rfl,rfl,ok⟩,hp,w'⟩:=S.writeOwn e;refine⟨a,dx,el,r,l,d,xs,ys,as,rfl,e1,ok,hp,fun H' N' xs' ys' as' h1 h2 h3 h4 h5=>w' H' _ _ h1 h2 h3 ⟨a,dx,el,r,l,d,xs',ys',as',rfl,rfl,h4⟩ fun b hb=>?_⟩;simp only[Xf]at hb ⊢;rcases hb with h|h|h|h|h|h|hb
 ·exact .inl (.inl h)
 ·exact .inl (.inr (.inl h))
 ·exact .inl (.inr (.inr (.inl h)))
 ·exact .inl (.inr (.inr (.inr (.inl h))))
 ·exact .inl (.inr (.inr (.inr (.inr (.inl h)))))
 ·exact .inl (.inr (.inr (.inr (.inr (.inr (.inl h))))))
 ·rcases h5 b hb with z|z
  ·exact .inl (.inr (.inr (.inr (.inr (.inr (.inr z))))))
  ·exact .inr z
def LeavD.other {F H:Hp}{b:Addr}{o:HO}{xs:List (List Key×V)}{ls:List (List Key×Ql)}{as:Qg}(h:LeavD F H xs ls as)(n:b∉as):LeavD F (upd H b o) xs ls as :=
 h.mono (Q4.refl _) (fun a ha=>(h.mem a ha).1) (fun a ha=>Qr fun z=>n (z▸ha))
def NetOk.setRooms {F H:Hp}{a dx el r l d:Addr}{xs:List (List Key×V)}{ys:List (KK×Addr×V)}{as:Qg}(ok:NetOk P w C N F H a dx el r l d xs ys as){ns:Ql}{zs:List V}(hr:Qv F zs (ns.map PyData.int)) :
 NetOk P w C { N with rooms:=ns } F (upd H r (.lst zs)) a dx el r l d xs ys as:=by
 obtain⟨nd,⟨i1,i2⟩,⟨o1,o2⟩,⟨e1,ex,e2,e3⟩,⟨r1,rx,r2,r3⟩,⟨l1,l2,l3⟩,⟨d1,d2,d3⟩⟩:=ok;have nd':=nd;simp only[Xu,Xf,not_or]at nd';obtain⟨⟨a1,a2,a3,_⟩,⟨b1,b2,_⟩,⟨c1,_⟩,⟨g1,g2,g3⟩,_⟩:=nd'
 exact⟨nd,⟨i1,by rw[Qr a3];exact i2⟩,⟨o1,by rw[Qr b2];exact o2⟩,⟨e1,ex,by rw[Qr c1];exact e2,e3⟩,⟨r1,zs,QA,hr⟩,⟨l1,by rw[Qr (Ne.symm g1)];exact l2,l3.other g3⟩,⟨d1,by rw[Qr (Ne.symm g2)];exact d2,d3⟩⟩
def Vw {H:Hp}{a:Addr}{o:HO}:∀b,H b≠none->upd H a o b≠none:=fun b hb=>by
 by_cases z:b=a
 ·subst z;rw[QA];exact fun q=>nomatch q
 ·rw[Qr z];exact hb
def Sx {f:Int->Int->Int}(c:NetC K C)(e:ρ[i]?=some (some (.own v (QZ P w C N)))){k m n:Int}(hi:Qt K tb ρ (.int k))(h0:0<=k)(hm:N.rooms[k.toNat]?=some m)(h:Qt K te ρ (.int n))
 (hn:D.nx (ρ.set i (some (.own v (QZ P w C { N with rooms:=N.rooms.set k.toNat (f m n) }))))):Q1 K (GE (ZL K (Q8 i) "rooms") tb te (GG K) (ipI f) UK) ρ D:=fun F0 H0 F σ H E x S C'=>by
 obtain⟨a,dx,el,r,l,d,xs,ys,as,rfl,e1,ok,_⟩:=S.net e;refine⟨_,e1,a,C,dx,_,.ref r,rfl,ok.ins.2,c.cl,c.rooms,rfl,hi H0 F σ H _ S fun F1 H1 y x1 r1=>?_⟩
 cases r1
 obtain⟨_,rx,r2,r3⟩:=ok.rooms;have hm':(N.rooms.map PyData.int)[k.toNat]?=some (.int m):=by rw[Xt,hm];rfl
 obtain⟨z,z1,z2⟩:=(r3.mono x1.ff).get hm';refine⟨r,rx,k,z,rfl,rfl,SqL.of (x1.hh _ _ r2),h0,z1,h H0 F1 σ H1 _ (S.ext x1) fun F2 H2 u x2 r2'=>?_⟩
 cases r2'
 cases z2
 refine⟨m,n,rfl,rfl,?_⟩;obtain⟨a',dx',el',r',l',d',xs',ys',as',ea,g1,ok',hp,wr⟩:=(S.ext (x1.trans x2)).net e
 cases ea
 have hi2:=ok'.ins.2.symm.trans ((x1.trans x2).hh _ _ ok.ins.2);injection hi2 with hi2;injection hi2 with _ _ hi3;simp only[List.cons.injEq,Prod.mk.injEq,true_and,and_true,V.ref.injEq]at hi3;obtain⟨rfl,rfl,rfl,rfl⟩:=hi3;obtain⟨q1,qx,q2,q3⟩:=ok'.rooms;have hlt:k.toNat<N.rooms.length:=(Xh.mp hm).1
 have hr:Qv F2 (qx.set k.toNat (.int (f m n))) ((N.rooms.set k.toNat (f m n)).map PyData.int):=by
  rw[List.map_set];exact q3.set (.int _) _
 refine⟨r',qx,k,k.toNat,rfl,rfl,q2,?_,?_⟩
 ·rw[q3.length,Xn]
  unfold ixN;rw[Xe h0,Xe (by omega)]
 ·have hr0:=hp r' (by simp)
  exact C'.nx F2 σ _ _ ((x.trans (x1.trans x2)).wr hr0.1 hr0.2.1) (wr _ { N with rooms:=N.rooms.set k.toNat (f m n) } xs' ys' as' ((S.ext (x1.trans x2)).sub.upd hr0.2.1) (fun b hb _=>Qr fun z=>hb (by rw[z];simp)) Vw (ok'.setRooms hr) (fun b hb=>.inl hb)) hn
end
section
variable {K:W.Frag}{ρ:Q6}{tb te ty tx:TE}{D:PEnds}{i:Nat}{v:V}{P:Program}{w:World}{C:Addr}{N:Qy}
def NetOk.same {N':Qy}{F H F' H':Hp}{a dx el r l d dx' el' r' l' d':Addr}{xs xs':List (List Key×V)}{ys ys':List (KK×Addr×V)}{as as':Qg}
 (ok:NetOk P w C N F H a dx el r l d xs ys as) (ok':NetOk P w C N' F' H' a dx' el' r' l' d' xs' ys' as') (s:H' a=H a):dx'=dx/\el'=el/\r'=r/\l'=l/\d'=d:=by
 have h:=ok'.ins.2;rw[s,ok.ins.2]at h;injection h with h;injection h with _ h1 h2;simp only[List.cons.injEq,Prod.mk.injEq,true_and,and_true,V.ref.injEq]at h2;obtain⟨z1,z2,z3,z4⟩:=h2
 exact⟨h1.symm,z1.symm,z2.symm,z3.symm,z4.symm⟩
def NetOk.setEnds {F H:Hp}{a dx el r l d:Addr}{xs:List (List Key×V)}{ys:List (KK×Addr×V)}{as:Qg}(ok:NetOk P w C N F H a dx el r l d xs ys as){ns:List (List Key)}{zs:List V}(hr:Qv F zs (ns.map QQ)) :
 NetOk P w C { N with ends:=ns } F (upd H el (.lst zs)) a dx el r l d xs ys as:=by
 obtain⟨nd,⟨i1,i2⟩,⟨o1,o2⟩,⟨e1,ex,e2,e3⟩,⟨r1,rx,r2,r3⟩,⟨l1,l2,l3⟩,⟨d1,d2,d3⟩⟩:=ok;have nd':=nd;simp only[Xu,Xf,not_or]at nd';obtain⟨⟨a1,a2,a3,_⟩,⟨b1,b2,_⟩,⟨c1,c2,c3,c4⟩,_⟩:=nd'
 exact⟨nd,⟨i1,by rw[Qr a2];exact i2⟩,⟨o1,by rw[Qr b1];exact o2⟩,⟨e1,zs,QA,hr⟩,⟨r1,rx,by rw[Qr (Ne.symm c1)];exact r2,r3⟩,⟨l1,by rw[Qr (Ne.symm c2)];exact l2,l3.other c4⟩,⟨d1,by rw[Qr (Ne.symm c3)];exact d2,d3⟩⟩
def Ew (c:NetC K C)(e:ρ[i]?=some (some (.own v (QZ P w C N)))){n:Int}(h:Qt K te ρ (.int n))(hl:N.rooms.length<1000)
 (hn:D.nx (ρ.set i (some (.own v (QZ P w C { N with rooms:=N.rooms++[n] }))))):Q1 K (Vi (tBM K "list" V2 (ZL K (Q8 i) "rooms") (QF te QO))) ρ D:=fun F0 H0 F σ H E x S C'=>by
 obtain⟨a,dx,el,r,l,d,xs,ys,as,rfl,e1,ok,_⟩:=S.net e;refine⟨_,e1,a,C,dx,_,.ref r,rfl,ok.ins.2,c.cl,c.rooms,rfl,.inl ⟨rfl,_,SqL.of ok.rooms.2.choose_spec.1⟩,h H0 F σ H _ S fun F1 H1 u x1 r1=>?_⟩
 cases r1
 obtain⟨a',dx',el',r',l',d',xs',ys',as',ea,g1,ok',hp,wr⟩:=(S.ext x1).net e
 cases ea
 obtain⟨rfl,rfl,rfl,rfl,rfl⟩:=ok.same ok' ((x1.hh _ _ ok.ins.2).trans ok.ins.2.symm);obtain⟨q1,qx,q2,q3⟩:=ok'.rooms;have hr0:=hp r' (by simp);refine⟨r',qx,.int n,rfl,rfl,q2,by rw[q3.length,Xn];exact ZH (by omega),?_⟩;exact C'.nx F1 σ _ _ ((x.trans x1).wr hr0.1 hr0.2.1) (wr _ { N with rooms:=N.rooms++[n] } xs' ys' as' ((S.ext x1).sub.upd hr0.2.1) (fun b hb _=>Qr fun z=>hb (by rw[z];simp)) Vw (ok'.setRooms (by rw[Xy];exact q3.snoc (.int n))) (fun b hb=>.inl hb)) hn
def Es (c:NetC K C)(e:ρ[i]?=some (some (.own v (QZ P w C N)))){n:List Key}(h:Qt K te ρ (QQ n))(hl:N.ends.length<1000)
 (hn:D.nx (ρ.set i (some (.own v (QZ P w C { N with ends:=N.ends++[n] }))))):Q1 K (Vi (tBM K "list" V2 (ZL K (Q8 i) "ends") (QF te QO))) ρ D:=fun F0 H0 F σ H E x S C'=>by
 obtain⟨a,dx,el,r,l,d,xs,ys,as,rfl,e1,ok,_⟩:=S.net e;refine⟨_,e1,a,C,dx,_,.ref el,rfl,ok.ins.2,c.cl,c.ends,rfl,.inl ⟨rfl,_,SqL.of ok.ends.2.choose_spec.1⟩,h H0 F σ H _ S fun F1 H1 u x1 r1=>?_⟩;obtain⟨a',dx',el',r',l',d',xs',ys',as',ea,g1,ok',hp,wr⟩:=(S.ext x1).net e
 cases ea
 obtain⟨rfl,rfl,rfl,rfl,rfl⟩:=ok.same ok' ((x1.hh _ _ ok.ins.2).trans ok.ins.2.symm);obtain⟨q1,qx,q2,q3⟩:=ok'.ends;have hr0:=hp el' (by simp);refine⟨el',qx,u,rfl,rfl,q2,by rw[q3.length,Xn];exact ZH (by omega),?_⟩;exact C'.nx F1 σ _ _ ((x.trans x1).wr hr0.1 hr0.2.1) (wr _ { N with ends:=N.ends++[n] } xs' ys' as' ((S.ext x1).sub.upd hr0.2.1) (fun b hb _=>Qr fun z=>hb (by rw[z];simp)) Vw (ok'.setEnds (by rw[Xy];exact q3.snoc r1)) (fun b hb=>.inl hb)) hn
def Sy (c:NetC K C) (e:ρ[i]?=some (some (.own v (QZ P w C N)))):Qt K (tCB (UF K) (QF (ZL K (Q8 i) "ends") QO)) ρ (.int (N.ends.length:Int)):=fun H0 F σ H Q S q=>by
 obtain⟨a,dx,el,r,l,d,xs,ys,as,rfl,e1,ok,_⟩:=S.net e;obtain⟨_,ex,e2,e3⟩:=ok.ends;refine⟨_,e1,a,C,dx,_,.ref el,rfl,ok.ins.2,c.cl,c.ends,rfl,el,ex,rfl,.inl (SqL.of e2),?_⟩
 have:ex.length=N.ends.length:=by rw[e3.length,Xn]
 rw[this];exact q F H _ (Q0.refl S.sub) (.int _)
end
def ZF (ls:List (KK×Int))(k:KK):Option Int:=(ls.find? fun x=>decide (x.1=k)).map (·.2)
def Yb (ls:List (KK×Int))(k:KK)(n:Int):List (KK×Int):=if (ZF ls k).isSome=true then ls.map (fun x=>if x.1=k then (x.1,n) else x) else ls++[(k,n)]
theorem LaidD.val {F:Hp}(k:KK):∀{xs:List (KK×Addr×V)} {ls:List (KK×Int)},LaidD F xs ls->VL xs k=(ZF ls k).map V.int
 |_,_,.nil=>rfl
 |_,_,.cons (k:=k') h t=>by
   by_cases e:k'=k
   ·simp[VL,ZF,Xz,e]
   ·have:=t.val k
    simpa [VL,ZF,Xz,e] using this
theorem LaidD.length {F:Hp}:∀{xs:List (KK×Addr×V)} {ls:List (KK×Int)},LaidD F xs ls->xs.length=ls.length
 |_,_,.nil=>rfl
 |_,_,.cons h t=>by simp[t.length]
theorem LaidD.repl {F:Hp}(k:KK)(n:Int):∀{xs:List (KK×Addr×V)} {ls:List (KK×Int)},LaidD F xs ls->LaidD F (xs.map fun x=>if x.1=k then (x.1,x.2.1,.int n) else x) (ls.map fun x=>if x.1=k then (x.1,n) else x)
 |_,_,.nil=>.nil
 |_,_,.cons (k:=k') h t=>by
   rw[Xv,Xv];by_cases e:k'=k
   ·simp only[e,if_true]
    exact .cons (e▸h) (t.repl k n)
   ·simp only[e,if_false]
    exact .cons h (t.repl k n)
theorem LaidD.snoc {F:Hp}{k:KK}{b:Addr}(n:Int)(hb:ZY F k b):∀{xs:List (KK×Addr×V)} {ls:List (KK×Int)},LaidD F xs ls->LaidD F (xs++[(k,b,.int n)]) (ls++[(k,n)])
 |_,_,.nil=>.cons hb .nil
 |_,_,.cons h t=>.cons h (t.snoc n hb)
def LaidD.put {F:Hp}{k:KK}{b:Addr}(n:Int)(hb:ZY F k b){xs:List (KK×Addr×V)}{ls:List (KK×Int)}(t:LaidD F xs ls):LaidD F (Ww xs k b (.int n)) (Yb ls k n):=by
 unfold Ww Yb;rw[t.val k,WR];split
 ·exact t.repl k n
 ·exact t.snoc n hb
def D8 {F:Hp}{y:V}{k1 k2:List Key}(r:Rep F y (.tuple [QQ k1,QQ k2])):∃b,y=.ref b/\ZY F (k1,k2) b:=by
 cases r with
 |tup h rs =>
   cases rs with
   |cons r1 rs =>
     cases rs with
     |cons r2 rs =>
       cases rs
       obtain⟨p,rfl,hp⟩:=YK r1;obtain⟨q,rfl,hq⟩:=YK r2
       exact⟨_,rfl,p,q,h,hp,hq⟩
section
variable {K:W.Frag}{ρ:Q6}{tb te ty tx tv:TE}{D:PEnds}{i:Nat}{v:V}{P:Program}{w:World}{C:Addr}{N:Qy}{k1 k2:List Key}
def NetOk.setLaid {F H:Hp}{a dx el r l d:Addr}{xs:List (List Key×V)}{ys ys':List (KK×Addr×V)}{as:Qg}(ok:NetOk P w C N F H a dx el r l d xs ys as){ls:List (KK×Int)}(hr:LaidD F ys' ls) :
 NetOk P w C { N with laid:=ls } F (upd H d (pdO P w d ys')) a dx el r l d xs ys' as:=by
 obtain⟨nd,⟨i1,i2⟩,⟨o1,o2⟩,⟨e1,ex,e2,e3⟩,⟨r1,rx,r2,r3⟩,⟨l1,l2,l3⟩,⟨d1,d2,d3⟩⟩:=ok;have nd':=nd;simp only[Xu,Xf,not_or]at nd';obtain⟨⟨a1,a2,a3,a4,a5,_⟩,⟨b1,b2,b3,b4,_⟩,⟨c1,c2,c3,c4⟩,⟨g1,g2,g3⟩,⟨h1,h2⟩,f1,_⟩:=nd'
 exact⟨nd,⟨i1,by rw[Qr a5];exact i2⟩,⟨o1,by rw[Qr b4];exact o2⟩,⟨e1,ex,by rw[Qr c3];exact e2,e3⟩,⟨r1,rx,by rw[Qr g2];exact r2,r3⟩,⟨l1,by rw[Qr h1];exact l2,l3.other f1⟩,⟨d1,QA,hr⟩⟩
def AZ (c:NetC K C)(e:ρ[i]?=some (some (.own v (QZ P w C N)))){n:Int}(hv:Qt K tv ρ (.int n))(hy:Qt K ty ρ (.tuple [QQ k1,QQ k2]))(hl:N.laid.length<1000)
 (hn:D.nx (ρ.set i (some (.own v (QZ P w C { N with laid:=Yb N.laid (k1,k2) n }))))):Q1 K (K4 P w (ZL K (Q8 i) "laid") ty tv) ρ D:=fun F0 H0 F σ H E x S C' =>
 hv H0 F σ H _ S fun F1 H1 u x1 r1=>by
  cases r1
  obtain⟨a,dx,el,r,l,d,xs,ys,as,rfl,e1,ok,_⟩:=(S.ext x1).net e;refine⟨_,e1,a,C,dx,_,.ref d,rfl,ok.ins.2,c.cl,c.laid,rfl,hy H0 F1 σ H1 _ (S.ext x1) fun F2 H2 y x2 r2=>?_⟩;have S2:=S.ext (x1.trans x2);obtain⟨a',dx',el',r',l',d',xs',ys',as',ea,g1,ok',hp,wr⟩:=S2.net e
  cases ea
  obtain⟨rfl,rfl,rfl,rfl,rfl⟩:=ok.same ok' ((x2.hh _ _ ok.ins.2).trans ok.ins.2.symm);obtain⟨b,rfl,hb⟩:=D8 r2;obtain⟨d1,d2,d3⟩:=ok'.laid;refine⟨d',b,ys',(k1,k2),rfl,rfl,d2,d3.at S2.sub,hb.mono fun c' z ez=>S2.sub _ _ ez,by rw[d3.length];exact ZH (by omega),?_⟩;have hr0:=hp d' (by simp);exact C'.nx F2 σ _ _ ((x.trans (x1.trans x2)).wr hr0.1 hr0.2.1) (wr _ { N with laid:=Yb N.laid (k1,k2) n } xs' _ as' (S2.sub.upd hr0.2.1) (fun b' hb' _=>Qr fun z=>hb' (by rw[z];simp)) Vw (ok'.setLaid (d3.put n hb)) (fun b' hb'=>.inl hb')) hn
end
def QJ (ls:List (List Key×Ql))(k:List Key):Option (Ql):=(ls.find? fun x=>decide (x.1=k)).map (·.2)
def V4:List (List Key×Ql)->List Key->Int->List (List Key×Ql)
 |[],_,_=>[]
 |(k',ns)::r,k,n=>if k'=k then (k',ns++[n])::r else (k',ns)::V4 r k n
theorem LeavD.val {F H:Hp}(k:List Key):∀{xs:List (List Key×V)} {ls:List (List Key×Ql)} {as:Qg},LeavD F H xs ls as->(Zr xs k=none/\QJ ls k=none) \/
 ∃a ns,Zr xs k=some (.ref a)/\QJ ls k=some ns/\a∈as/\Vc F H a (ns.map PyData.int)
 |_,_,_,.nil=>.inl ⟨rfl,rfl⟩
 |_,_,_,.cons (k:=k') (a:=a) (ns:=ns) (xs:=xs) (ls:=ls) h t=>by
   by_cases e:k'=k
   ·exact .inr ⟨a,ns,Yj e,by simp[QJ,Xz,e],Xa,h⟩
   ·have q:QJ ((k',ns)::ls) k=QJ ls k:=by simp[QJ,Xz,e]
    rw[Yi (p:=(k',V.ref a)) e,q]
    rcases t.val k with z|⟨a',ns',z1,z2,z3,z4⟩
    ·exact .inl z
    ·exact .inr ⟨a',ns',z1,z2,Xd _ z3,z4⟩
theorem LeavD.app {F H:Hp}(k:List Key){a:Addr}{n:Int}{zs:List V}:∀{xs:List (List Key×V)} {ls:List (List Key×Ql)} {as:Qg} {ns:Ql},LeavD F H xs ls as->as.Nodup->Zr xs k=some (.ref a)->QJ ls k=some ns ->
 Qv F zs ((ns++[n]).map PyData.int)->LeavD F (upd H a (.lst zs)) xs (V4 ls k n) as
 |_,_,_,_,.nil,_,h,_,_=>by cases h
 |_,_,_,ns,.cons (k:=k') (a:=a') (ns:=ns') (xs:=xs) (ls:=ls) (as:=as) h t,nd,hv,he,hr=>by
   obtain⟨n1,n2⟩:=Xu.mp nd;unfold V4;by_cases e:k'=k
   ·rw[Yj (p:=(k',V.ref a')) e]at hv
    have q:QJ ((k',ns')::ls) k=some ns':=by simp[QJ,Xz,e]
    rw[q]at he;cases hv
    cases he
    rw[Xe e];exact .cons ⟨h.1,zs,QA,hr⟩ (t.other n1)
   ·rw[Yi (p:=(k',V.ref a')) e]at hv
    have q:QJ ((k',ns')::ls) k=QJ ls k:=by simp[QJ,Xz,e]
    rw[q]at he;rw[Xc e];have ha:a∈as:=by
     rcases t.val k with z|⟨a2,ns2,z1,z2,z3,z4⟩
     ·rw[hv]at z;cases z.1
     ·rw[hv]at z1;cases z1;exact z3
    refine .cons ?_ (t.app k n2 hv he hr);obtain⟨h1,xs',h2,h3⟩:=h;have ne:a'≠a:=fun z=>n1 (by rw[z];exact ha)
    exact⟨h1,xs',by rw[Qr ne];exact h2,h3⟩
theorem LeavD.snoc {F H:Hp}(k:List Key){a:Addr}(o:Vc F H a []):∀{xs:List (List Key×V)} {ls:List (List Key×Ql)} {as:Qg},LeavD F H xs ls as->LeavD F H (xs++[(k,.ref a)]) (ls++[(k,[])]) (as++[a])
 |_,_,_,.nil=>.cons o .nil
 |_,_,_,.cons h t=>.cons h (t.snoc k o)
theorem LeavD.length {F H:Hp}:∀{xs:List (List Key×V)} {ls:List (List Key×Ql)} {as:Qg},LeavD F H xs ls as->xs.length=ls.length
 |_,_,_,.nil=>rfl
 |_,_,_,.cons h t=>by simp[t.length]
def V3 (ls:List (List Key×Ql))(k:List Key):List (List Key×Ql):=if (QJ ls k).isSome=true then ls else ls++[(k,[])]
section
variable {K:W.Frag}{ρ:Q6}{tb te ty tx tv:TE}{D:PEnds}{i:Nat}{v:V}{P:Program}{w:World}{C:Addr}{N:Qy}{k:List Key}
def NetOk.appLeav {F H:Hp}{a dx el r l d:Addr}{xs:List (List Key×V)}{ys:List (KK×Addr×V)}{as:Qg}(ok:NetOk P w C N F H a dx el r l d xs ys as){b:Addr}{ns:Ql}{n:Int}{zs:List V}
 (hv:Zr xs k=some (.ref b)) (he:QJ N.leav k=some ns) (hb:b∈as) (hr:Qv F zs ((ns++[n]).map PyData.int)):NetOk P w C { N with leav:=V4 N.leav k n } F (upd H b (.lst zs)) a dx el r l d xs ys as:=by
 obtain⟨nd,⟨i1,i2⟩,⟨o1,o2⟩,⟨e1,ex,e2,e3⟩,⟨r1,rx,r2,r3⟩,⟨l1,l2,l3⟩,⟨d1,d2,d3⟩⟩:=ok;have nd':=nd;simp only[Xu,Xf,not_or]at nd';obtain⟨⟨a1,a2,a3,a4,a5,a6⟩,⟨b1,b2,b3,b4,b5⟩,⟨c1,c2,c3,c4⟩,⟨g1,g2,g3⟩,⟨h1,h2⟩,f1,f2⟩:=nd';have ne:∀{x:Addr},x∉as->x≠b:=fun h z=>h (by rw[z];exact hb)
 exact⟨nd,⟨i1,by rw[Qr (ne a6)];exact i2⟩,⟨o1,by rw[Qr (ne b5)];exact o2⟩,⟨e1,ex,by rw[Qr (ne c4)];exact e2,e3⟩,⟨r1,rx,by rw[Qr (ne g3)];exact r2,r3⟩,⟨l1,by rw[Qr (ne h2)];exact l2,l3.app k f2 hv he hr⟩,⟨d1,by rw[Qr (ne f1)];exact d2,d3⟩⟩
end
section
variable {K:W.Frag}{ρ:Q6}{tb te ty tx tv:TE}{D:PEnds}{i:Nat}{v:V}{P:Program}{w:World}{C:Addr}{N:Qy}{k:List Key}
def NM (c:NetC K C)(e:ρ[i]?=some (some (.own v (QZ P w C N)))){n:Int}(h:Qt K te ρ (.int n)){ns:Ql}(he:QJ N.leav k=some ns)(hz:ns.length<1000)
 (hn:D.nx (ρ.set i (some (.own v (QZ P w C { N with leav:=V4 N.leav k n }))))) {F0 H0 F H:Hp} {σ:St} {E:Ends} (x:Q0 F0 H0 F H) (S:QB K H0 F ρ σ H) (C':Cnv K F0 H0 D E)
 {a dx el r l d:Addr} {xs:List (List Key×V)} {ys:List (KK×Addr×V)} {as:Qg} {al:Addr} (ok:NetOk P w C N F H a dx el r l d xs ys as) (ev:v=.ref a) (hv:Zr xs k=some (.ref al)) :
 tyV K "list" (.ref al) H/\QF te QO σ H fun vs H2=>V2 (.ref al) vs H2 fun _ H3=>E.nx σ H3:=by
 have find:∀{F H:Hp} {a dx el r l d:Addr} {xs:List (List Key×V)} {ys:List (KK×Addr×V)} {as:Qg},NetOk P w C N F H a dx el r l d xs ys as->Zr xs k=some (.ref al)->al∈as/\Vc F H al (ns.map PyData.int):=fun ok hv=>by
  rcases ok.leav.2.2.val k with z|⟨a2,ns2,z1,z2,z3,z4⟩
  ·rw[hv]at z;cases z.1
  ·rw[hv]at z1
   rw[he]at z2;cases z1
   cases z2
   exact⟨z3,z4⟩
 obtain⟨_,_,zs,hz1,_⟩:=find ok hv;refine⟨.inl ⟨rfl,_,SqL.of hz1⟩,h H0 F σ H _ S fun F1 H1 u x1 r1=>?_⟩
 cases r1
 obtain⟨a',dx',el',r',l',d',xs',ys',as',ea,g1,ok',hp,wr⟩:=(S.ext x1).net e;rw[ev]at ea;cases ea;obtain⟨rfl,rfl,rfl,rfl,rfl⟩:=ok.same ok' ((x1.hh _ _ ok.ins.2).trans ok.ins.2.symm);have el2:=ok'.leav.2.1.symm.trans (x1.hh _ _ ok.leav.2.1);injection el2 with el2;injection el2 with el2;subst el2;obtain⟨m1,m2,zs2,m3,m4⟩:=find ok' hv;have hr0:=hp al (by simp[m1]);refine⟨al,zs2,.int n,rfl,rfl,m3,by rw[m4.length,Xn];exact ZH (by omega),?_⟩
 exact C'.nx F1 σ _ _ ((x.trans x1).wr hr0.1 hr0.2.1) (wr _ { N with leav:=V4 N.leav k n } _ ys' as' ((S.ext x1).sub.upd hr0.2.1) (fun b hb _=>Qr fun z=>hb (by rw[z];simp[m1])) Vw
  (ok'.appLeav hv he m1 (by rw[Xy];exact m4.snoc (.int n))) (fun b hb=>.inl hb)) hn
def RX (ls:List (List Key×Ql))(h:QJ ls k=none):QJ (ls++[(k,[])]) k=some []:=by
 induction ls with
 |nil=>simp[QJ]
 |cons x ls ih =>
   obtain⟨k',ns⟩:=x
   by_cases e:k'=k
   ·simp[QJ,Xz,e]at h
   ·have q:QJ ((k',ns)::ls) k=QJ ls k:=by simp[QJ,Xz,e]
    rw[q]at h;have q2:QJ ((k',ns)::ls++[(k,[])]) k=QJ (ls++[(k,[])]) k:=by simp[QJ,Xz,e]
    rw[q2];exact ih h
def Ei (c:NetC K C)(e:ρ[i]?=some (some (.own v (QZ P w C N)))){n:Int}(hy:Qt K ty ρ (QQ k))(hl:N.leav.length<1000)(hz:∀ns,QJ (V3 N.leav k) k=some ns->ns.length<1000)
 (h:Qt K te (ρ.set i (some (.own v (QZ P w C { N with leav:=V3 N.leav k })))) (.int n)) (hn:D.nx (ρ.set i (some (.own v (QZ P w C { N with leav:=V4 (V3 N.leav k) k n }))))) :
 Q1 K (Vi (tBM K "list" V2 (Nu (ZL K (Q8 i) "leaving") ty (WW QO)) (QF te QO))) ρ D:=fun F0 H0 F σ H E x S C'=>by
 obtain⟨a,dx,el,r,l,d,xs,ys,as,rfl,e1,ok,hp0,_⟩:=S.net e;refine⟨_,e1,a,C,dx,_,.ref l,rfl,ok.ins.2,c.cl,c.leav,rfl,l,rfl,.inr ⟨xs,Rd.of ok.leav.2.1⟩,hy H0 F σ H _ S fun F1 H1 y x1 r1=>⟨XF _,fun p hp=>?_⟩⟩;have S1:=S.ext x1;have x2:Q0 F1 H1 F1 (upd H1 p (.lst [])):=Q0.own S1.sub hp;obtain⟨a',dx',el',r',l',d',xs',ys',as',ea,g1,ok',hp',wr⟩:=S1.net e
 cases ea
 obtain⟨rfl,rfl,rfl,rfl,rfl⟩:=ok.same ok' ((x1.hh _ _ ok.ins.2).trans ok.ins.2.symm);have hlt:i<ρ.length:=(Xh.mp e).1;obtain⟨b,rfl,hb⟩:=YK r1;obtain⟨l1,l2,l3⟩:=ok'.leav;have np:∀q∈a::dx'::el'::r'::l'::d'::as',q≠p:=fun q hq z=>by rw[z]at hq;exact(hp' p hq).2.2 hp
 have lp:l'≠p:=np l' (by simp);have bp:b≠p:=fun z=>by rw[z]at hb;rw[S1.sub _ _ hb]at hp;cases hp
 have h0p:H0 p=none:=(x.trans x1).hh.free hp;refine⟨xs',k,b,rfl,by rw[Qr lp];exact l2,by rw[Qr bp];exact S1.sub _ _ hb,by rw[l3.length];exact ZH (by omega),fun v0 hv0=>?_,fun hv0=>?_⟩
 ·rcases l3.val k with z|⟨al,ns,z1,z2,z3,z4⟩
  ·rw[hv0]at z;cases z.1
  ·rw[hv0]at z1
   cases z1
   have ens:V3 N.leav k=N.leav:=by unfold V3;rw[z2];rfl
   rw[ens]at h hn hz;have S3:=S1.ext x2
   have ok3:NetOk P w C N F1 (upd H1 p (.lst [])) a dx' el' r' l' d' xs' ys' as':=by
    obtain⟨q0,q1,q2,q3,q4,q5,q6⟩:=ok';obtain⟨e1',ex,e2,e3⟩:=q3;obtain⟨r1',rx,r2,r3⟩:=q4
    exact⟨q0,⟨q1.1,by rw[Qr (np a (by simp))];exact q1.2⟩,⟨q2.1,by rw[Qr (np dx' (by simp))];exact q2.2⟩,⟨e1',ex,by rw[Qr (np el' (by simp))];exact e2,e3⟩,⟨r1',rx,by rw[Qr (np r' (by simp))];exact r2,r3⟩,
     ⟨q5.1,by rw[Qr lp];exact q5.2.1,q5.2.2.other fun z=>np p (by simp[z]) rfl⟩,⟨q6.1,by rw[Qr (np d' (by simp))];exact q6.2.1,q6.2.2⟩⟩
   have S4:QB K H0 F1 (ρ.set i (some (.own (.ref a) (QZ P w C N)))) σ (upd H1 p (.lst [])):=wr _ N xs' ys' as' S3.sub (fun b' _ hb'=>Qr fun z=>hb' (by rw[z];exact hp)) Vw ok3 (fun b' hb'=>.inl hb');exact NM (N:=N) c (Xl hlt) h z2 (hz ns z2) (by rw[List.set_set];exact hn) (x.trans (x1.trans x2)) S4 C' ok3 rfl hv0
 ·have z2:QJ N.leav k=none:=by
   rcases l3.val k with z|⟨al,ns,z1,z2,z3,z4⟩
   ·exact z.2
   ·rw[hv0]at z1;cases z1
  have ens:V3 N.leav k=N.leav++[(k,[])]:=by unfold V3;rw[z2];rfl
  rw[ens]at h hn hz;have fp:F1 p=none:=S1.sub.free hp
  have ok3:NetOk P w C { N with leav:=N.leav++[(k,[])] } F1 (upd (upd H1 p (.lst [])) l' (.dT (xs'++[(k,.ref p)]))) a dx' el' r' l' d' (xs'++[(k,.ref p)]) ys' (as'++[p]):=by
   have ok2:=ok';obtain⟨q0,q1,q2,q3,q4,q5,q6⟩:=ok';obtain⟨e1',ex,e2,e3⟩:=q3;obtain⟨r1',rx,r2,r3⟩:=q4;have nd':=q0;simp only[Xu,Xf,not_or]at nd';obtain⟨⟨a1,a2,a3,a4,a5,a6⟩,⟨b1,b2,b3,b4,b5⟩,⟨c1,c2,c3,c4⟩,⟨g1',g2,g3⟩,⟨h1,h2⟩,f1,f2⟩:=nd';have up:∀{q:Addr},q∈a::dx'::el'::r'::l'::d'::as'->q≠l'->upd (upd H1 p (.lst [])) l' (.dT (xs'++[(k,.ref p)])) q=H1 q:=fun hq ne=>by rw[Qr ne,Qr (np _ hq)]
   refine⟨?_,⟨q1.1,by rw[up (by simp) a4];exact q1.2⟩,⟨q2.1,by rw[up (by simp) b3];exact q2.2⟩,⟨e1',ex,by rw[up (by simp) c2];exact e2,e3⟩,⟨r1',rx,by rw[up (by simp) g1'];exact r2,r3⟩,⟨l1,QA,?_⟩,⟨q6.1,by rw[up (by simp) (Ne.symm h1)];exact q6.2.1,q6.2.2⟩⟩
   ·have:(a::dx'::el'::r'::l'::d'::(as'++[p]))=(a::dx'::el'::r'::l'::d'::as')++[p]:=by simp
    rw[this,JG];refine⟨q0,by simp,fun u hu t ht=>?_⟩
    cases Xg.mp ht
    exact np u hu
   ·refine LeavD.snoc k ⟨fp,[],by rw[Qr (Ne.symm lp),QA],.nil⟩ ?_
    exact(l3.other fun z=>np p (by simp[z]) rfl).other h2
  have S4:QB K H0 F1 (ρ.set i (some (.own (.ref a) (QZ P w C { N with leav:=N.leav++[(k,[])] })))) σ (upd (upd H1 p (.lst [])) l' (.dT (xs'++[(k,.ref p)]))) :=
   wr _ _ _ ys' (as'++[p]) ((S1.sub.upd fp).upd l1) (fun b' hb1 hb2=>by rw[Qr (fun z=>hb1 (by rw[z];simp)),Qr (fun z=>hb2 (by rw[z];exact hp))]) (fun b' hb'=>Vw b' (Vw b' hb')) ok3 (fun b' hb'=>by
    rcases Xx.mp hb' with z|z
    ·exact .inl z
    ·cases Xg.mp z;exact .inr ⟨hp,h0p⟩)
  have hl0:=hp' l' (by simp)
  exact NM (N:={ N with leav:=N.leav++[(k,[])] }) c (Xl hlt) h (RX _ z2) (hz [] (RX _ z2)) (by rw[List.set_set];exact hn) ((x.trans (x1.trans x2)).wr hl0.1 hl0.2.1) S4 C' ok3 rfl (by
   rw[Sl k k (.ref p) xs' hv0,Xe rfl])
end
end L2
section
namespace L2
open PySem PySem.Spec PyProof.Rows
structure KTup (K:W.Frag)(g:Addr)(x:Str):Prop where
 ex:∃(d:Qj) (t:Nat) (n:Nat) (sl:Array (Qf)),K.lookup g=some ⟨.type "tuple",d,.seq #[.str x t] n,sl⟩
def C7 {P:Program}{w:World}{K:W.Frag}{mg mb:Str->Qf}{k:Nat}{fa a gS gE:Addr}{fd:FuncData}{x:Str}{sp:Sp}{b7:Shared}{vs:Qe}{ns:Ql}
 (KX:K.In b7.heap) (hns:b7.heap.Ns mainGlobals mg) (hb:b7.heap.Ns builtinsNs mb) (hbb:∀x:Str,x ≠ "__name__" -> mb x=bootBuiltins x) (hlim:b7.heap.NoLimit) (hg:b7.gens=#[])
 (ha:b7.heap.get? a=some { cls:=.type "list",data:=.seq vs.toArray }) (hi:IntsAre vs ns) (hl:ns.length<=sizeLine) (hr:Room k callerA) (tS:KTup K gS "start") (tE:KTup K gE "end")
 (F:∀base:Heap,K.In base->base.Ns mainGlobals mg->FnOk P w K mg base CX0 k fa fd [x] sp) (hbind:∀(s:Shared) (u:Value),BindsTo s fd ⟨[u],[]⟩ [(x,u)])
 (hsp:∀H:Hp,SqL K H a (ns.map V.int)->H gS=some (.tup [.str "start"])->H gE=some (.tup [.str "end"])->sp [.ref a] H (fun v _=>v=.bl true) fun _ _ _=>False) :
 codeAny (model P w) callerA (.call (.ref fa) ⟨[.ref a],[]⟩) (fun r s'=>r=.ok (.ret (.bool true))/\OldK b7.heap s'.heap/\s'.os=b7.os/\AllBare s'.gens) b7:=by
 have rv:=Sa hi;have lenV:=hi.length;obtain⟨dS,kS,cS,slS,lS⟩:=tS.ex;obtain⟨dE,kE,cE,slE,lE⟩:=tE.ex;have hS0:=KX gS _ lS;have hE0:=KX gE _ lE
 have naS:gS≠a:=fun z=>by
  rw[z,ha]at hS0;injection hS0 with z1;injection z1 with z2;injection z2 with z3;exact Xk z3 (by decide)
 have naE:gE≠a:=fun z=>by
  rw[z,ha]at hE0;injection hE0 with z1;injection z1 with z2;injection z2 with z3;exact Xk z3 (by decide)
 have nSE:gE≠gS:=fun z=>by
  rw[z,lS]at lE;injection lE with z1;injection z1 with _ _ z2 _;injection z2 with z3 _;have z4:=XX Array.toList z3;simp only[List.cons.injEq,Value.str.injEq,and_true]at z4;exact Xk z4.1 (by decide)
 have core:∀Hs:Hp,Pi Hs->SqL K Hs a (ns.map V.int)->HOk P w Hs b7.heap->(∀b,Hs b≠none->b=a)->(Hs a≠none->K.lookup a=none) ->
  codeAny (model P w) callerA (.call (.ref fa) ⟨[.ref a],[]⟩) (fun r s'=>r=.ok (.ret (.bool true))/\OldK b7.heap s'.heap/\s'.os=b7.os/\AllBare s'.gens) b7:=by
  intro Hs hO hSq hok hA hK;have fS:Hs gS=none:=by
   cases q:Hs gS with
   |none=>rfl
   |some u=>exact Xk (hA gS (by rw[q];simp)) naS
  have fE:Hs gE=none:=by
   cases q:Hs gE with
   |none=>rfl
   |some u=>exact Xk (hA gE (by rw[q];simp)) naE
  have base_of:∀{b:Addr} {o:Obj},b7.heap.get? b=some o->Hs b=none->(We b7.heap Hs).get? b=some o:=fun e n=>CO e n
  have noA:∀{b:Addr} {o:Obj} {es:Array DictEntry} {ep:Nat},b7.heap.get? b=some o->o.data=.dict es ep->Hs b=none:=fun{b o es ep} e d=>by
   cases q:Hs b with
   |none=>rfl
   |some u =>
     have e':b=a:=hA b (by rw[q];simp);subst e';rw[ha]at e;cases e;have d':Data.seq vs.toArray _=Data.dict es ep:=d
     cases d'
  have nsK:∀{b:Addr} {m:Str->Qf},b7.heap.Ns b m->(We b7.heap Hs).Ns b m:=fun{b m} ⟨o,es,ep,e,d,r⟩=>⟨o,es,ep,base_of e (noA e d),d,r⟩
  have hKb:K.In (We b7.heap Hs):=fun b o e=>base_of (KX b o e) (by
   cases q:Hs b with
   |none=>rfl
   |some u =>
     have e':b=a:=hA b (by rw[q];simp);subst e';rw[hK (by rw[q];simp)]at e;cases e)
  have hM:Mod K mg (We b7.heap Hs):=⟨hKb,nsK hns,⟨mb,nsK hb,hbb⟩,let ⟨mc,h1,h2⟩:=hlim;⟨mc,nsK h1,h2⟩⟩
  let H:Hp:=upd (upd Hs gS (.tup [.str "start"])) gE (.tup [.str "end"])
  have hHS:H gS=some (.tup [.str "start"]):=by show upd _ _ _ gS=_;rw[Qr (Ne.symm nSE),QA]
  have hHE:H gE=some (.tup [.str "end"]):=QA;have hHo:∀b,b≠gS->b≠gE->H b=Hs b:=fun b h1 h2=>by show upd _ _ _ b=_;rw[Qr h2,Qr h1]
  have sm:Q4 Hs H:=fun b u e=>by
   rw[hHo b (fun z=>by rw[z,fS]at e;cases e) (fun z=>by rw[z,fE]at e;cases e)];exact e
  have l1:∀x:Str,[V.str x].length<=sizeLine:=fun _=>Yt (ZH JQ)
  have hokH:HOk P w H b7.heap:=fun b u e=>by
   by_cases h1:b=gS
   ·subst h1
    rw[hHS]at e;cases e
    exact⟨l1 _,[.str "start" kS],.cons ⟨kS,rfl⟩ .nil,⟨_,hS0,rfl,_,rfl⟩⟩
   ·by_cases h2:b=gE
    ·subst h2
     rw[hHE]at e;cases e
     exact⟨l1 _,[.str "end" kE],.cons ⟨kE,rfl⟩ .nil,⟨_,hE0,rfl,_,rfl⟩⟩
    ·rw[hHo b h1 h2]at e
     rcases hO b with z|⟨o,xs,z⟩
     ·rw[z]at e;cases e
     ·rw[z]at e
      cases e
      obtain⟨q1,q2⟩:=hok b _ z
      exact⟨q1,q2⟩
  have e0:Env0 P w K mg (We b7.heap Hs) callerA [] b7 H:=⟨rfl,hM,fun b o e=>by
   obtain⟨e1,e2⟩:=Lv e;refine⟨e1,?_⟩
   by_cases h1:b=gS
   ·exact .inr ⟨_,by rw[h1];exact hHS⟩
   ·by_cases h2:b=gE
    ·exact .inr ⟨_,by rw[h2];exact hHE⟩
    ·exact .inl (by rw[hHo b h1 h2];exact e2),Nat.le_of_eq (Ap _ _),trivial,fun b hb=>Xk (show b∈([]:Qg) from hb) (by simp),hokH,.of_eq hg⟩
  refine codeAny_mono ((F _ hKb (nsK hns)).run callerA [] b7 H ⟨[.ref a],[]⟩ [.ref a] [.ref a] _ _ hr e0 (hbind b7 (.ref a)) (.cons rfl .nil) (hsp H (sm.seq hSq) hHS hHE)) fun r s' h=>?_
  cases r with
  |error e=>exact False.elim h
  |ok fl =>
    cases fl with
    |next=>exact False.elim h
    |brk=>exact False.elim h
    |cont=>exact False.elim h
    |ret u =>
      obtain⟨v,H',os,bare,un,hok',r',q⟩:=h;have q':v=.bl true:=q;subst q';obtain rfl:u=Value.bool true:=r';refine⟨rfl,OldK.of_keep fun b o e=>?_,os,bare⟩
      by_cases h1:b=gS
      ·subst h1
       exact un.tupo b _ o hHS e (by simp)
      ·by_cases h2:b=gE
       ·subst h2
        exact un.tupo b _ o hHE e (by simp)
       ·rcases hO b with z|⟨ob,xs,z⟩
        ·exact un.keep b o e (by rw[hHo b h1 h2];exact z) (by intro z;exact Xk (show b∈([]:Qg) from z) (by simp)) (by simp)
        ·have z2:=un.frzs b ob _ (by rw[hHo b h1 h2];exact z)
         obtain⟨e1,_⟩:=hok b _ z;obtain⟨e2,_⟩:=hok' b _ z2;rw[e]at e1;cases e1;exact e2
 cases hk:K.lookup a with
 |some o =>
   have e:=KX a o hk;rw[ha]at e;cases e;refine core (fun _=>none) (fun _=>.inl rfl) (.inr ⟨_,vs.toArray,_,hk,rfl,rfl,rfl,by rw[XB,lenV];exact hl,by simpa using rv⟩) (fun b u z=>by have z':(none:Option HO)=some u:=z;cases z') (fun b z=>Xk rfl z) fun z=>Xk rfl z
 |none =>
   refine core (fun b=>if b=a then some (.frz { cls:=.type "list",data:=.seq vs.toArray } (.lst (ns.map V.int))) else none) (fun b=>?_) (.inl (.inr ⟨{ cls:=.type "list",data:=.seq vs.toArray },Xe rfl⟩)) (fun b u z=>?_) (fun b z=>?_) fun _=>hk
   ·by_cases hb:b=a
    ·exact .inr ⟨_,_,Xe hb⟩
    ·exact .inl (Xc hb)
   ·by_cases hb:b=a
    ·have z':=(Xe hb).symm.trans z
     cases z'
     subst hb;exact⟨ha,by rw[Xn];exact hl,vs,_,rv,ha⟩
    ·have z':=(Xc hb).symm.trans z
     cases z'
   ·by_cases hb:b=a
    ·exact hb
    ·exact Xk (Xc hb) z
def Znl {l:W.OpenLaw}{k:Nat}{q:Program}{loose:Qh}{XP:(Str->Qf)->Heap->Prop}{YP:World->Heap->Prop}{d:DefRec}{K:Params->W.Frag}{x:Str}
 (hn:l.most=some 63) (hdf:d.params.defaults=[]) (hr:Room k callerA)
 (hY:∀(w:World) (h:Heap),YP w h->(K w.params).In h)
 (F:∀(w:World) (mg:Str->Qf) (fa:Addr) (h:Heap),(K w.params).In h->h.Ns mainGlobals mg->mg d.name=some (.ref fa) ->
  (∃gS gE,W.nsIn (K w.params) mainGlobals "START"=some (some (.ref gS))/\W.nsIn (K w.params) mainGlobals "END"=some (some (.ref gE))/\KTup (K w.params) gS "start" /\ KTup (K w.params) gE "end") /\
  ∃fd:FuncData,(∀(s:Shared) (u:Value),BindsTo s fd ⟨[u],[]⟩ [(x,u)]) /\
   ∀base:Heap,(K w.params).In base->base.Ns mainGlobals mg->FnOk l.prog w (K w.params) mg base CX0 k fa fd [x] (GO (K w.params))) :
 W.WalkO q loose XP YP l.row.toRowW d [] (fun f vs=>PySem.call f vs):=by
 refine Att.attach_callW hn hdf fun w s₀ b7 mg mb fa o pm cd doc a vs ns G Y ho hd hcd hmg hobj hints hlen hbits hg=>?_
 have KX:=hY w _ Y;obtain⟨⟨gS,gE,n1,n2,t1,t2⟩,fd,hb,hF⟩:=F w mg fa _ KX G.T.g hmg;exact C7 KX G.T.g G.T.b G.T.builtins G.T.nolimit hg hobj hints (XZ hlen (by decide)) hr t1 t2 hF hb (fun H hS h1 h2=>⟨a,ns,rfl,⟨gS,gE,n1,n2,h1,h2⟩,⟨hS,hlen,hbits⟩,fun _=>rfl⟩)
def DJ {K:W.Frag} {ρ:Q6} {g:Addr} (a:W.nsIn K mainGlobals "START"=some (some (.ref g))):Qt K (tC (.ref g)) ρ (QQ [.inr "start"]):=fun H0 F σ H Q S q=>by
 obtain⟨gS,gE,h1,h2,h3,h4⟩:=S.kt;rw[h1]at a;cases a;exact q F H _ (Q0.refl S.sub) (.tup h3 (.cons (.str _) .nil))
def Nf {K:W.Frag} {ρ:Q6} {g:Addr} (a:W.nsIn K mainGlobals "END"=some (some (.ref g))):Qt K (tC (.ref g)) ρ (QQ [.inr "end"]):=fun H0 F σ H Q S q=>by
 obtain⟨gS,gE,h1,h2,h3,h4⟩:=S.kt;rw[h2]at a;cases a;exact q F H _ (Q0.refl S.sub) (.tup h4 (.cons (.str _) .nil))
def MX {A:Around}{k:Nat}(hr:Room k A):A.units+6<cLine:=Gz (Nat.add_le_add_left (by decide:6<=64) _) hr.units
def KM (tk tv:TE):TE:=fun σ H Q=>∀p,H p=none->tk σ (upd H p (.dT [])) fun x H1=>tv σ H1 fun y H2=>∃k b,x=.ref b/\H2 p=some (.dT [])/\H2 b=some (.tup (k.map kV))/\Q (.ref p) (upd H2 p (.dT [(k,y)]))
def FZ {X:Cx}{pos:Pos}{ke ve:Expr}{tk tv:TE}(hu:X.A.units+1<cLine)(hk:PE X ke tk)(hv:PE X ve tv):PE X (.Dict [some ke] [ve] pos) (KM tk tv):=by
 intro XaR s σ H Q I q;have hn:=I.hok.fresh (Xq s.heap.objs.size);have I1:=I.laid (a:=s.heap.objs.size) (o:=.dT []) (h':=s.heap.push { cls:=.type "dict",data:=.dict #[] }) (t':=s.toks) (fun _ _ q=>Xi _ q) (Xq _) (Rh s.heap I.big);refine wpAny_Dict_any rfl rfl (by simp) (by show(1:Nat)<=15;decide) (pairTrees_cons_walk (Q2 (hk XaR _ σ _ _ I1 (q _ hn)) fun kv s1 ⟨x,H1,I2,rx,q1⟩=>Q2 (hv XaR s1 σ H1 _ I2 q1) fun vv s2 ⟨y,H2,I3,ry,k,b,ex,e,eb,q2⟩=>pairTrees_nil_walk ?_));subst ex;obtain rfl:kv=Value.ref b:=rx;obtain⟨z,hd,xs,rel,dd⟩:=Mv I3.hok e;have hx:xs=[]:=by cases rel;rfl
 subst hx;unfold storeAll;rw[List.forIn_cons];refine Xb (Xb (wpAny_dictSet_heap (hsz:=XF _) (knd:=tupleKind (ZA X.prog X.w)) (show X.A.units<cLine by omega) (YO I3.hok eb) dd fun h' dd' hs=>Xp ?_));obtain⟨q',es,ep,hq,g2,g3,g4,_,g5⟩:=dd';show wpAny _ _ (forIn [] PUnit.unit _) _ _ _;rw[List.forIn_nil];refine Xp ⟨.ref s.heap.objs.size,upd H2 s.heap.objs.size (.dT [(k,y)]),UX (ob:=.dT [(k,y)]) I3 (by rw[e];exact True.intro) hs ⟨q',hq⟩ ⟨Yt (ZH JQ),hd,_,(show KT H2 [(k,y)] [(k,b,vv)] from .cons ⟨rfl,eb,ry⟩ .nil).keeps fun c ys ec=>?_,q',es,ep,hq,g2,g3,g4,g5⟩,rfl,q2⟩;rw[Qr (fun z=>by subst z;rw[e]at ec;cases ec)];exact ec
def Cy {K:W.Frag}{ρ:Q6}{tk tv:TE}{k:List Key}{d:PyData}(hk:Qt K tk ρ (QQ k))(hv:Qt K tv ρ d):EvX K (KM tk tv) ρ (Vo [(k,d)]):=fun H0 F σ H Q S q=>fun p hp=>by
 have x0:Q0 F H F (upd H p (.dT [])):=Q0.own S.sub hp;have f0:F p=none:=S.sub.free hp;refine hk H0 F σ _ _ (S.ext x0) fun F1 H1 x x1 r1=>hv H0 F1 σ H1 _ (S.ext (x0.trans x1)) fun F2 H2 y x2 r2=>?_;obtain⟨b,rfl,hb⟩:=YK r1;have X:=x1.trans x2;have hp2:H2 p=some (.dT []):=X.hh _ _ QA;have fp2:F2 p=none:=X.free f0 (by rw[QA];exact fun z=>nomatch z);have X':=x0.trans X;refine⟨k,b,rfl,hp2,X.fh _ _ (x2.ff _ _ hb),q F2 _ (.ref p) [p] (X'.wr hp fp2) (fun a ha=>by cases Xg.mp ha;exact hp) ⟨p,_,rfl,rfl,fp2,QA,.cons r2 .nil⟩⟩
inductive LeavZ (F:Hp):List (List Key×V)->List (List Key×Ql)->Prop
 |nil:LeavZ F [] []
 |cons {k:List Key} {a:Addr} {ns:Ql} {zs:List V} {xs:List (List Key×V)} {ls:List (List Key×Ql)}:F a=some (.lst zs)->Qv F zs (ns.map PyData.int)->LeavZ F xs ls->LeavZ F ((k,.ref a)::xs) ((k,ns)::ls)
theorem LeavZ.mono {F F':Hp}(s:Q4 F F'):∀{xs:List (List Key×V)} {ls:List (List Key×Ql)},LeavZ F xs ls->LeavZ F' xs ls
 |_,_,.nil=>.nil
 |_,_,.cons h r t=>.cons (s _ _ h) (r.mono s) (t.mono s)
theorem LeavZ.val {F:Hp}(k:List Key):∀{xs:List (List Key×V)} {ls:List (List Key×Ql)},LeavZ F xs ls->(Zr xs k=none/\QJ ls k=none)\/∃a ns zs,Zr xs k=some (.ref a)/\QJ ls k=some ns/\F a=some (.lst zs)/\Qv F zs (ns.map PyData.int)
 |_,_,.nil=>.inl ⟨rfl,rfl⟩
 |_,_,.cons (k:=k') (a:=a) (ns:=ns) (zs:=zs) (xs:=xs) (ls:=ls) h r t=>by
   by_cases e:k'=k
   ·exact .inr ⟨a,ns,zs,Yj e,by simp[QJ,Xz,e],h,r⟩
   ·have q:QJ ((k',ns)::ls) k=QJ ls k:=by simp[QJ,Xz,e]
    rw[Yi (p:=(k',V.ref a)) e,q];exact t.val k
theorem LeavD.fz {F F' H:Hp}(s:Q4 F F'):∀{xs:List (List Key×V)} {ls:List (List Key×Ql)} {as:Qg},LeavD F H xs ls as->(∀b∈as,F' b=H b)->LeavZ F' xs ls
 |_,_,_,.nil,_=>.nil
 |_,_,_,.cons h t,he=>by
   obtain⟨h1,xs,h2,h3⟩:=h;exact .cons (by rw[he _ Xa];exact h2) (h3.mono s) (t.fz s fun b hb=>he b (Xd _ hb))
structure NetFz (P:Program)(w:World)(C:Addr)(N:Qy)(F:Hp)(a dx e r l d:Addr)(xs:List (List Key×V))(ys:List (KK×Addr×V)):Prop where
 ins:F a=some (.ins C dx [("ends",.ref e),("rooms",.ref r),("leaving",.ref l),("laid",.ref d)])
 ends:∃ex,F e=some (.lst ex)/\Qv F ex (N.ends.map QQ)
 rooms:∃rx,F r=some (.lst rx)/\Qv F rx (N.rooms.map PyData.int)
 leav:F l=some (.dT xs)/\LeavZ F xs N.leav
 laid:F d=some (pdO P w d ys)/\LaidD F ys N.laid
def NetFz.mono {P:Program}{w:World}{C:Addr}{N:Qy}{F F':Hp}{a dx e r l d:Addr}{xs:List (List Key×V)}{ys:List (KK×Addr×V)}(s:Q4 F F')(h:NetFz P w C N F a dx e r l d xs ys):NetFz P w C N F' a dx e r l d xs ys:=by
 obtain⟨h1,⟨ex,h2,h3⟩,⟨rx,h4,h5⟩,⟨h6,h7⟩,⟨h8,h9⟩⟩:=h
 exact⟨s _ _ h1,⟨ex,s _ _ h2,h3.mono s⟩,⟨rx,s _ _ h4,h5.mono s⟩,⟨s _ _ h6,h7.mono s⟩,⟨s _ _ h8,h9.mono s⟩⟩
def ZM (P:Program)(w:World)(C:Addr)(N:Qy):ZP where
 ok K F v := ∃a dx e r l d xs ys,v=.ref a/\NetFz P w C N F a dx e r l d xs ys
 mono:=by
  rintro K F F' v s ⟨a,dx,e,r,l,d,xs,ys,rfl,h⟩
  exact⟨a,dx,e,r,l,d,xs,ys,rfl,h.mono s⟩
def NetOk.fz {P:Program}{w:World}{C:Addr}{N:Qy}{F F' H:Hp}{a dx el r l d:Addr}{xs:List (List Key×V)}{ys:List (KK×Addr×V)}{as:Qg}(ok:NetOk P w C N F H a dx el r l d xs ys as)(s:Q4 F F')(he:∀b∈a::dx::el::r::l::d::as,F' b=H b) :
 NetFz P w C N F' a dx el r l d xs ys:=by
 obtain⟨nd,⟨i1,i2⟩,⟨o1,o2⟩,⟨e1,ex,e2,e3⟩,⟨r1,rx,r2,r3⟩,⟨l1,l2,l3⟩,⟨d1,d2,d3⟩⟩:=ok
 exact⟨by rw[he _ (by simp)];exact i2,⟨ex,by rw[he _ (by simp)];exact e2,e3.mono s⟩,⟨rx,by rw[he _ (by simp)];exact r2,r3.mono s⟩,⟨by rw[he _ (by simp)];exact l2,l3.fz s fun b hb=>he b (by simp[hb])⟩,⟨by rw[he _ (by simp)];exact d2,d3.mono s⟩⟩
def QZ.fz {P:Program}{w:World}{C:Addr}{N:Qy}{K:W.Frag}{F F' H:Hp}{v:V}{p:Qg}(h:(QZ P w C N).ok K F H v p)(s:Q4 F F')(he:∀b∈p,F' b=H b):(ZM P w C N).ok K F' v:=by
 obtain⟨a,dx,e,r,l,d,xs,ys,as,rfl,rfl,o⟩:=h
 exact⟨a,dx,e,r,l,d,xs,ys,rfl,o.fz s he⟩
def WX (kvs:ZN):ZP where
 ok K F v := ∃a xs,v=.ref a/\F a=some (.dT xs)/\PairD F xs kvs
 mono:=by
  rintro K F F' v s ⟨a,xs,rfl,h1,h2⟩
  exact⟨a,xs,rfl,s _ _ h1,h2.mono s⟩
def Vo.fz {kvs:ZN}{K:W.Frag}{F F' H:Hp}{v:V}{p:Qg}(h:(Vo kvs).ok K F H v p)(s:Q4 F F')(he:∀b∈p,F' b=H b):(WX kvs).ok K F' v:=by
 obtain⟨a,xs,rfl,rfl,h1,h2,h3⟩:=h
 exact⟨a,xs,rfl,by rw[he a Xa];exact h2,h3.mono s⟩
section
variable {K:W.Frag}{ρ:Q6}{D:PEnds}
def QB.freezeZ {H0 F H:Hp}{σ:St}{i:Nat}{v:V}{Φ:OwnP}{Ψ:ZP}(s:QB K H0 F ρ σ H)(e:ρ[i]?=some (some (.own v Φ)))
 (hz:∀{F F' H:Hp} {u:V} {p:Qg},Φ.ok K F H u p->Q4 F F'->(∀b∈p,F' b=H b)->Ψ.ok K F' u) :
 ∃p,(∀a∈p,F a=none/\H a≠none/\H0 a=none)/\QB K H0 (frF F H p) (ρ.set i (some (.zow Ψ))) σ H:=by
 obtain⟨kt,h1,h2,fp,h3,h4,h5⟩:=s;obtain⟨u,e1,rfl,ok⟩:=h3 i _ e;have hlt:=(Xh.mp e).1;have th:=fun a ha=>Φ.there ok a ha;have sm:Q4 F (frF F H (fp i)):=Y5 fun a ha=>(th a ha).1;refine⟨fp i,fun a ha=>⟨(th a ha).1,(th a ha).2,(h5 i a ha).1⟩,kt.mono sm,UZ h1,by simp[h2],fun j=>if j=i then [] else fp j,fun j t' e'=>?_,fun j k b hb hc=>?_,fun j b hb=>?_⟩
 ·by_cases hj:j=i
  ·subst hj
   rw[Xl hlt]at e';cases e';refine⟨_,e1,?_,hz ok sm fun b hb=>YN hb⟩;dsimp only;rw[Xe rfl]
  ·rw[Xr (Ne.symm hj)]at e'
   obtain⟨u',f1,f2⟩:=h3 j t' e';refine⟨u',f1,?_⟩;dsimp only;rw[Xc hj];exact f2.frOther sm fun a ha z=>hj (h4 j i a ha z)
 ·by_cases hj:j=i
  ·simp[hj]at hb
  ·by_cases hk:k=i
   ·simp[hk]at hc
   ·simp only[Xc hj]at hb
    simp only[Xc hk]at hc;exact h4 j k b hb hc
 ·by_cases hj:j=i
  ·simp[hj]at hb
  ·simp only[Xc hj]at hb
   exact h5 j b hb
def Nr {t:TS}(i:Nat){v:V}{Φ:OwnP}{Ψ:ZP}(e:ρ[i]?=some (some (.own v Φ)))(hz:∀{F F' H:Hp} {u:V} {p:Qg},Φ.ok K F H u p->Q4 F F'->(∀b∈p,F' b=H b)->Ψ.ok K F' u)
 (h:Q1 K t (ρ.set i (some (.zow Ψ))) D):Q1 K t ρ D:=fun F0 H0 F σ H E x S C=>by
 obtain⟨p,hp,S'⟩:=S.freezeZ e hz;refine h F0 H0 _ σ H E ⟨x.hh,x.ff.trans (Y5 fun a ha=>(hp a ha).1),S'.sub,fun a ha=>?_⟩ S' C
 by_cases z:a∈p
 ·exact .inr (hp a z).2.2
 ·rw[Yr z]at ha;exact x.fr a ha
def Fi {t:TS}{P:Program}{w:World}{C:Addr}{N:Qy}{v:V}(i:Nat)(e:ρ[i]?=some (some (.own v (QZ P w C N))))(h:Q1 K t (ρ.set i (some (.zow (ZM P w C N)))) D):Q1 K t ρ D:=Nr i e (fun a b c=>QZ.fz a b c) h
def Rf {t:TS}{kvs:ZN}{v:V}(i:Nat)(e:ρ[i]?=some (some (.own v (Vo kvs))))(h:Q1 K t (ρ.set i (some (.zow (WX kvs)))) D):Q1 K t ρ D:=Nr i e (fun a b c=>Vo.fz a b c) h
def Zq (K:W.Frag)(t:TE)(ρ:Q6)(Φ:OT->Prop):Prop := ∀(H0 F:Hp) (σ:St) (H:Hp) (Q:VK),QB K H0 F ρ σ H->(∀F' H' v p r,Φ r->Q0 F H F' H'->(∀a∈p,H a=none)->Zm K F' H' v r p->Q v H')->t σ H Q
def EvO.d {t:TE}{r:OT}{Φ:OT->Prop}(h:EvO K t ρ r)(hr:Φ r):Zq K t ρ Φ:=fun H0 F σ H Q S q=>h H0 F σ H Q S fun F' H' v p x hp ok=>q F' H' v p r hr x hp ok
def Zq.o {t:TE}{r:OT}(h:Zq K t ρ (fun r'=>r'=r)):EvO K t ρ r:=fun H0 F σ H Q S q=>h H0 F σ H Q S fun F' H' v p r' e x hp ok=>by subst e;exact q F' H' v p x hp ok
def EvX.d {t:TE}{Φ0:OwnP}{Φ:OT->Prop}(h:EvX K t ρ Φ0)(hr:∀v,Φ (.own v Φ0)):Zq K t ρ Φ:=fun H0 F σ H Q S q=>h H0 F σ H Q S fun F' H' v p x hp ok=>q F' H' v p (.own v Φ0) (hr v) x hp ⟨rfl,ok⟩
def VX {te:TE}{i:Nat}{Φ:OT->Prop}(h:Zq K te ρ Φ)(hn:∀r,Φ r->D.nx (ρ.set i (some r))):Q1 K (ZX te (ZG i)) ρ D:=fun F0 H0 F σ H E x S C =>
 h H0 F σ H _ S fun F' H' v p r hr x' hp ok=>by
  refine C.nx F' _ H' _ (x.trans x') ((S.ext x').set ok (fun a ha=>x.hh.free (hp a ha)) (hn:=fun a ha j w t' q e1 e2 ok'=>?_)) (hn r hr);obtain⟨fp,g1,g2,g3⟩:=S.fp;obtain⟨w',f1,f2⟩:=g1 j t' e1;intro hq;have f3:=f2.ext x';rw[e2]at f1;cases f1
  exact(g3 j a (Up (K:=K) f3 ok' a hq)).2 (hp a ha)
def Dw {te:TE}{Φ:OT->Prop}(h:Zq K te ρ Φ)(hr:∀r,Φ r->D.rt r):Q1 K (Yl te) ρ D:=fun F0 H0 F σ H E x S C =>
 h H0 F σ H _ S fun F' H' v p r e x' hp ok=>C.rt F' H' v r p (x.trans x') (fun a ha=>x.hh.free (hp a ha)) ok (hr r e)
def Dv {i:Nat}{v:V}{Φ:OwnP}(e:ρ[i]?=some (some (.own v Φ)))(hr:D.rt (.own v Φ)):Q1 K (Yl (Q8 i)) ρ D:=fun F0 H0 F σ H E x S C=>by
 obtain⟨fp,h,_,h5⟩:=S.fp;obtain⟨u,e1,e2⟩:=h i _ e
 exact⟨_,e1,C.rt F H u (.own v Φ) (fp i) x (fun a ha=>(h5 i a ha).1) e2 hr⟩
def YB (r:OT):Prop := ∀(K:W.Frag) (F F' H:Hp) (v:V) (p:Qg),(∀a∈p,F' a=none)->Zm K F H v r p->Zm K F' H v r p
def Rep.thin {F F':Hp}{v w:V}{d:PyData}(r:Rep F v d)(h:Vh d=some w):Rep F' v d:=by
 cases r<;>simp[Vh]at h
 ·exact .non
 ·exact .bl _
 ·exact .int _
 ·exact .str _
def Uq {d:PyData}{w:V}(h:Vh d=some w):YB (.fz d):=fun K F F' H v p _ ok=>⟨ok.1,ok.2.thin h⟩
def Bi {ds:Qd}(h:W7 ds):YB (.ol ds):=fun K F F' H v p hp ok=>by
 obtain⟨a,rfl,rfl,h1,xs,h2,h3⟩:=ok
 exact⟨a,rfl,rfl,hp a Xa,xs,h2,h3.flats h⟩
def MU (kvs:ZN):Prop := ∀x∈kvs,∃w,Vh x.2=some w
theorem PairD.flats {F F':Hp}:∀{xs:List (List Key×V)} {kvs:ZN},MU kvs->PairD F xs kvs->PairD F' xs kvs
 |_,_,_,.nil=>.nil
 |_,_,h,.cons r t=>by
   obtain⟨w,e⟩:=h _ Xa;exact .cons (r.thin e) (t.flats fun x hx=>h x (Xd _ hx))
def F7 {kvs:ZN}{v:V}(h:MU kvs):YB (.own v (Vo kvs)):=fun K F F' H u p hp ok=>by
 obtain⟨e,a,xs,rfl,rfl,h1,h2,h3⟩:=ok
 exact⟨e,a,xs,rfl,rfl,hp a Xa,h2,h3.flats h⟩
def Rc {t:TE}{v:V}{Φ0:OwnP}{Ψ:ZP}{Φ:OT->Prop}(i:Nat)(e:ρ[i]?=some (some (.own v Φ0)))(hz:∀{F F' H:Hp} {u:V} {p:Qg},Φ0.ok K F H u p->Q4 F F'->(∀b∈p,F' b=H b)->Ψ.ok K F' u)
 (hf:∀r,Φ r->YB r) (h:Zq K t (ρ.set i (some (.zow Ψ))) Φ):Zq K t ρ Φ:=fun H0 F σ H Q S q=>by
 obtain⟨p,hp,S'⟩:=S.freezeZ e hz;refine h H0 _ σ H Q S' fun F' H' u pp r hr x hpp ok=>?_;refine q _ H' u pp r hr (WG (fun a ha=>⟨(hp a ha).1,(hp a ha).2.1⟩) x) hpp (hf r hr K F' _ H' u pp (fun a ha=>?_) ok)
 by_cases z:a∈p
 ·show(if a∈p then none else F' a)=none
  rw[Xe z]
 ·show(if a∈p then none else F' a)=none
  rw[Xc z];exact(ok.there a ha).1
def Hn {t:TE}{P:Program}{w:World}{C:Addr}{N:Qy}{v:V}{Φ:OT->Prop}(i:Nat)(e:ρ[i]?=some (some (.own v (QZ P w C N))))(hf:∀r,Φ r->YB r)(h:Zq K t (ρ.set i (some (.zow (ZM P w C N)))) Φ):Zq K t ρ Φ :=
 Rc i e (fun a b c=>QZ.fz a b c) hf h
def AH {t:TE}{P:Program}{w:World}{C:Addr}{N:Qy}{v:V}{d:PyData}{u:V}(i:Nat)(e:ρ[i]?=some (some (.own v (QZ P w C N))))(hf:Vh d=some u)(h:Qt K t (ρ.set i (some (.zow (ZM P w C N)))) d):Qt K t ρ d :=
 EvO.e (Zq.o (Hn (Φ:=fun r=>r=.fz d) i e (fun r hr=>by subst hr;exact Uq hf) (h.o.d rfl)))
section
variable {tb te ty tx:TE}{i:Nat}{P:Program}{w:World}{C:Addr}{N:Qy}{k:List Key}
def QB.netz {H0 F H:Hp}{σ:St}(S:QB K H0 F ρ σ H)(e:ρ[i]?=some (some (.zow (ZM P w C N)))):∃a dx el r l d xs ys,σ[i]?=some (some (.ref a))/\NetFz P w C N F a dx el r l d xs ys:=by
 obtain⟨fp,h,_⟩:=S.fp;obtain⟨v,e1,_,a,dx,el,r,l,d,xs,ys,rfl,h1⟩:=h i _ e
 exact⟨a,dx,el,r,l,d,xs,ys,e1,h1⟩
def D0 (c:NetC K C) (e:ρ[i]?=some (some (.zow (ZM P w C N)))) {k m:Int} (hb:Qt K tb ρ (.int k)) (hm:atI (N.rooms.map PyData.int) k=some (.int m)):Qt K (tOp (rIx K) (ZL K (Q8 i) "rooms") tb) ρ (.int m):=fun H0 F σ H Q S q=>by
 obtain⟨a,dx,el,r,l,d,xs,ys,e1,ok⟩:=S.netz e;refine⟨_,e1,a,C,dx,_,.ref r,rfl,S.sub _ _ ok.ins,c.cl,c.rooms,rfl,hb H0 F σ H _ S fun F1 H1 y x1 r1=>?_⟩
 cases r1
 obtain⟨rx,r2,r3⟩:=ok.rooms;obtain⟨z,z1,z2⟩:=Ut (r3.mono x1.ff) hm;exact .inl ⟨r,rx,k,z,rfl,rfl,SqL.of (x1.fh _ _ (x1.ff _ _ r2)),z1,q F1 H1 z x1 z2⟩
def N3 (c:NetC K C) (e:ρ[i]?=some (some (.zow (ZM P w C N)))) {k:Int} {n:PyData} (hb:Qt K tb ρ (.int k)) (hm:atI (N.ends.map QQ) k=some n):Qt K (tOp (rIx K) (ZL K (Q8 i) "ends") tb) ρ n:=fun H0 F σ H Q S q=>by
 obtain⟨a,dx,el,r,l,d,xs,ys,e1,ok⟩:=S.netz e;refine⟨_,e1,a,C,dx,_,.ref el,rfl,S.sub _ _ ok.ins,c.cl,c.ends,rfl,hb H0 F σ H _ S fun F1 H1 y x1 r1=>?_⟩
 cases r1
 obtain⟨rx,r2,r3⟩:=ok.ends;obtain⟨z,z1,z2⟩:=Ut (r3.mono x1.ff) hm;exact .inl ⟨el,rx,k,z,rfl,rfl,SqL.of (x1.fh _ _ (x1.ff _ _ r2)),z1,q F1 H1 z x1 z2⟩
def Cs (c:NetC K C) (e:ρ[i]?=some (some (.zow (ZM P w C N)))) (hy:Qt K ty ρ (QQ k)):Qt K (Nh (ZL K (Q8 i) "leaving") ty (WW QO)) ρ (.list (((QJ N.leav k).getD []).map PyData.int)):=fun H0 F σ H Q S q=>by
 obtain⟨a,dx,el,r,l,d,xs,ys,e1,ok⟩:=S.netz e;refine⟨_,e1,a,C,dx,_,.ref l,rfl,S.sub _ _ ok.ins,c.cl,c.leav,rfl,l,rfl,.inr ⟨xs,Rd.of (S.sub _ _ ok.leav.1)⟩,hy H0 F σ H _ S fun F1 H1 y x1 r1=>⟨XF _,fun p hp=>?_⟩⟩;obtain⟨b,rfl,hb⟩:=YK r1;have S1:=S.ext x1;have x2:Q0 F1 H1 (upd F1 p (.lst [])) (upd H1 p (.lst [])):=Q0.new S1.sub hp;have xx:=x1.trans x2;have lH:upd H1 p (.lst []) l=some (.dT xs):=xx.fh _ _ (xx.ff _ _ ok.leav.1);have bH:upd H1 p (.lst []) b=some (.tup (k.map kV)):=x2.fh _ _ (x2.ff _ _ hb);refine⟨Zr xs k,Vp.t lH bH,?_⟩
 rcases ok.leav.2.val k with ⟨z1,z2⟩|⟨c1,ns,zs,z1,z2,z3,z4⟩
 ·rw[z1]
  exact q _ _ _ xx (by rw[z2];exact .lst QA .nil)
 ·rw[z1]
  exact q _ _ _ xx (by rw[z2];exact .lst (xx.ff _ _ z3) (z4.mono xx.ff))
def FJ (c:NetC K C) (e:ρ[i]?=some (some (.zow (ZM P w C N)))) {k1 k2:List Key} {n:Int} (hy:Qt K ty ρ (.tuple [QQ k1,QQ k2])) (hn:ZF N.laid (k1,k2)=some n):Qt K (K2 P w (ZL K (Q8 i) "laid") ty) ρ (.int n):=fun H0 F σ H Q S q=>by
 obtain⟨a,dx,el,r,l,d,xs,ys,e1,ok⟩:=S.netz e;refine⟨_,e1,a,C,dx,_,.ref d,rfl,S.sub _ _ ok.ins,c.cl,c.laid,rfl,hy H0 F σ H _ S fun F2 H2 y x2 r2=>?_⟩;obtain⟨b,rfl,hb⟩:=D8 r2;have S2:=S.ext x2;have d3:=ok.laid.2.mono x2.ff
 exact⟨d,b,ys,(k1,k2),.int n,rfl,rfl,x2.fh _ _ (x2.ff _ _ ok.laid.1),d3.at S2.sub,hb.mono fun c' z ez=>S2.sub _ _ ez,by rw[d3.val,hn];rfl,q F2 H2 _ x2 (.int n)⟩
def AV (c:NetC K C) {k1 k2:List Key} (hy:Qt K ty ρ (.tuple [QQ k1,QQ k2])) (e:ρ[i]?=some (some (.zow (ZM P w C N)))):Qt K (N4 P w ty (ZL K (Q8 i) "laid")) ρ (.bool (!(ZF N.laid (k1,k2)).isSome)):=fun H0 F σ H Q S q =>
 hy H0 F σ H _ S fun F2 H2 y x2 r2=>by
  have S2:=S.ext x2;obtain⟨a,dx,el,r,l,d,xs,ys,e1,ok⟩:=S2.netz e;obtain⟨b,rfl,hb⟩:=D8 r2;have d3:=ok.laid.2;refine⟨_,e1,a,C,dx,_,.ref d,rfl,S2.sub _ _ ok.ins,c.cl,c.laid,rfl,d,b,ys,(k1,k2),rfl,rfl,S2.sub _ _ ok.laid.1,d3.at S2.sub,hb.mono fun c' z ez=>S2.sub _ _ ez,q F2 H2 _ x2 ?_⟩;rw[d3.val,WR];exact .bl _
def QB.dctz {H0 F H:Hp}{σ:St}{kvs:ZN}(S:QB K H0 F ρ σ H)(e:ρ[i]?=some (some (.zow (WX kvs)))):∃a xs,σ[i]?=some (some (.ref a))/\F a=some (.dT xs)/\PairD F xs kvs:=by
 obtain⟨fp,h,_⟩:=S.fp;obtain⟨v,e1,_,a,xs,rfl,h1,h2⟩:=h i _ e
 exact⟨a,xs,e1,h1,h2⟩
def NT {kvs:ZN}{d:PyData}(e:ρ[i]?=some (some (.zow (WX kvs))))(hy:Qt K ty ρ (QQ k))(hd:VC kvs k=some d):Qt K (KG (Q8 i) ty) ρ d:=fun H0 F σ H Q S q=>by
 obtain⟨a,xs,e1,_⟩:=S.dctz e;refine⟨_,e1,hy H0 F σ H _ S fun F1 H1 y x1 r1=>?_⟩;obtain⟨a',xs',e1',f2,f3⟩:=(S.ext x1).dctz e;rw[e1]at e1';cases e1';obtain⟨b,rfl,hb⟩:=YK r1
 rcases f3.val k with ⟨_,z⟩|⟨x,d',z1,z2,z3⟩
 ·rw[hd]at z;cases z
 ·rw[hd]at z2
  cases z2
  exact⟨a,x,rfl,z1▸Vp.t (x1.fh _ _ f2) (x1.fh _ _ hb),q F1 H1 x x1 z3⟩
def Ts {kvs:ZN}(hy:Qt K ty ρ (QQ k))(e:ρ[i]?=some (some (.zow (WX kvs)))):Qt K (GB ty (Q8 i)) ρ (.bool (VC kvs k).isSome):=fun H0 F σ H Q S q =>
 hy H0 F σ H _ S fun F1 H1 y x1 r1=>by
  obtain⟨a,xs,e1,f2,f3⟩:=(S.ext x1).dctz e;obtain⟨b,rfl,hb⟩:=YK r1
  exact⟨_,e1,a,_,rfl,Vp.t (x1.fh _ _ f2) (x1.fh _ _ hb),q F1 H1 _ x1 (by rw[Hj f3];exact .bl _)⟩
end
end
def QY (K:W.Frag)(R:List OT->(OT->Prop)->Prop):Sp:=fun vs H Q _=>∃F ts Φ,KTs K F/\Q4 F H/\Args K F vs ts/\R ts Φ/\∀F' H' v p r,Φ r->Q0 F H F' H'->(∀a∈p,H a=none)->Zm K F' H' v r p->Q v H'
def GA (K:W.Frag)(t:TA)(ρ:Q6)(Φ:List OT->Prop):Prop := ∀(H0 F:Hp) (σ:St) (H:Hp) (Q:List V->Hp->Prop),QB K H0 F ρ σ H->(∀F' H' vs ts,Φ ts->Q0 F H F' H'->Args K F' vs ts->Q vs H')->t σ H Q
section
variable {K:W.Frag}{ρ:Q6}{D:PEnds}
def Wq {R:List OT->(OT->Prop)->Prop}{t:TA}{E:XK}{ts:List OT}{Φ:OT->Prop}(h:Zx K t ρ ts)(hR:R ts Φ):Zq K (VF (QY K R) [] E t) ρ Φ:=fun H0 F σ H Q S q =>
 h H0 F σ H _ S fun F1 H1 vs x1 r1=>⟨F1,ts,Φ,(S.ext x1).kt,x1.fh,by rw[XH];exact r1,hR,fun F2 H2 v p r hr x2 hp ok=>q F2 H2 v p r hr (x1.trans x2) (fun a ha=>x1.hh.free (hp a ha)) ok⟩
def Wl {t:TA}{ts:List OT}{Φ:List OT->Prop}(h:Zx K t ρ ts)(hp:Φ ts):GA K t ρ Φ:=fun H0 F σ H Q S q=>h H0 F σ H Q S fun F' H' vs x r=>q F' H' vs ts hp x r
def Lc {ta:TE}{Φ:OT->Prop}{Φ':List OT->Prop}(h:Zq K ta ρ Φ)(hi:∀r,Φ r->∃ds,r=.ol ds/\Φ' [.fz (.list ds)]):GA K (QF ta QO) ρ Φ':=fun H0 F σ H Q S q =>
 h H0 F σ H _ S fun F1 H1 v p r hr x hp ok=>by
  obtain⟨ds,rfl,hp'⟩:=hi r hr;obtain⟨a,rfl,rfl,r1,xs,r2,r3⟩:=ok;exact q (upd F1 a (.lst xs)) H1 [.ref a] _ hp' (x.freeze r1 r2 (hp a Xa)) (.fz (.lst QA (r3.mono (Q4.new r1))) .nil)
section
variable {P:Program}{w:World}{C:Addr}{N:Qy}{i:Nat}{m:Str}
def NoF (m:Str):Prop := ∀e r l d:Addr,([("ends",V.ref e),("rooms",V.ref r),("leaving",V.ref l),("laid",V.ref d)]:List (Str×V)).lookup m=none
def D4 {R:List OT->(OT->Prop)->Prop}{t:TA}{E:XK}{ts:List OT}{Φ:OT->Prop}(hm:NoF m)(e:ρ[i]?=some (some (.zow (ZM P w C N))))(h:Zx K t ρ ts)(hR:R (.zow (ZM P w C N)::ts) Φ) :
 Zq K (Vr C m (QY K R) [] E (Q8 i) t) ρ Φ:=fun H0 F σ H Q S q=>by
 obtain⟨a,dx,el,r,l,d,xs,ys,e1,ok⟩:=S.netz e;refine⟨_,e1,a,dx,_,rfl,S.sub _ _ ok.ins,hm _ _ _ _,h H0 F σ H _ S fun F1 H1 vs x1 r1=>?_⟩;refine⟨F1,_,Φ,(S.ext x1).kt,x1.fh,.zow (Ψ:=ZM P w C N) ⟨a,dx,el,r,l,d,xs,ys,rfl,ok.mono x1.ff⟩ (by rw[XH];exact r1),hR,fun F2 H2 v p r' hr x2 hp ok'=>q F2 H2 v p r' hr (x1.trans x2) (fun b hb=>x1.hh.free (hp b hb)) ok'⟩
def Cl {R:List OT->(OT->Prop)->Prop}{ta:TE}{t:TA}{E:XK}{ts:List OT}{Φ1 Φ:OT->Prop}(hm:NoF m)(h1:Zq K ta ρ Φ1)(hz:∀r,Φ1 r->∃v N,r=.own v (QZ P w C N)/\∃Φ2,R (.zow (ZM P w C N)::ts) Φ2/\∀r,Φ2 r->Φ r)
 (h:Zx K t ρ ts):Zq K (Vr C m (QY K R) [] E ta t) ρ Φ:=fun H0 F σ H Q S q =>
 h1 H0 F σ H _ S fun F1 H1 v p r hr x1 hp ok=>by
  obtain⟨v0,N,rfl,Φ2,hR,hi⟩:=hz r hr;obtain⟨rfl,ok⟩:=ok;have th:=fun a ha=>(QZ P w C N).there ok a ha;have sm:Q4 F1 (frF F1 H1 p):=Y5 fun a ha=>(th a ha).1
  have x1':Q0 F H (frF F1 H1 p) H1:=⟨x1.hh,x1.ff.trans sm,UZ x1.fh,fun a ha=>by
   by_cases z:a∈p
   ·exact .inr (hp a z)
   ·rw[Yr z]at ha;exact x1.fr a ha⟩
  obtain⟨a,dx,el,r,l,d,xs,ys,as,rfl,rfl,o⟩:=ok;refine⟨a,dx,_,rfl,o.ins.2,hm _ _ _ _,h H0 _ σ H1 _ (S.ext x1') fun F2 H2 vs x2 r2=>?_⟩;have z:=o.fz sm (fun b hb=>YN hb)
  exact⟨F2,_,Φ2,(S.ext (x1'.trans x2)).kt,x2.fh,.zow (Ψ:=ZM P w C N) ⟨a,dx,el,r,l,d,xs,ys,rfl,z.mono x2.ff⟩ (by rw[XH];exact r2),hR,fun F3 H3 v p' r' hr' x3 hp' ok'=>q F3 H3 v p' r' (hi r' hr') ((x1'.trans x2).trans x3) (fun b hb=>(x1'.trans x2).hh.free (hp' b hb)) ok'⟩
structure ExtN (p:Qg)(F H F' H':Hp):Prop where
 hh:∀b o,b∉p->H b=some o->H' b=some o
 ff:Q4 F F'
 fh:Q4 F' H'
 fr:∀b,F' b≠none->F b≠none\/H b=none\/b∈p
def spN (K:W.Frag)(P:Program)(w:World)(C:Addr)(R:Qy->List OT->(Qy->Prop)->Prop):Sp:=fun vs H Q _=>∃F a vs' p ts N Ψ,vs=.ref a::vs'/\KTs K F/\Q4 F H/\Args K F vs' ts/\(QZ P w C N).ok K F H (.ref a) p/\R N ts Ψ /\
 ∀F' H' p' N',Ψ N'->ExtN p F H F' H'->(QZ P w C N').ok K F' H' (.ref a) p'->(∀b∈p',b∈p\/H b=none)->Q .non H'
theorem Zs.move {F F' H H':Hp}(s:Q4 F F'):∀{as:Qg} {dss:List (Qd)},(∀a∈as,F' a=none)->(∀a∈as,H' a=H a)->Zs F H as dss->Zs F' H' as dss
 |[],[],_,_,_=>trivial
 |a::as,_::_,hF,hH,o=>by
   obtain⟨⟨h1,xs,h2,h3⟩,o2⟩:=o
   exact⟨⟨hF a Xa,xs,by rw[hH a Xa];exact h2,h3.mono s⟩,Zs.move s (fun b hb=>hF b (Xd _ hb)) (fun b hb=>hH b (Xd _ hb)) o2⟩
 |[],_::_,_,_,h=>False.elim h
 |_::_,[],_,_,h=>False.elim h
def Zm.move {F F' H H':Hp}{v:V}{t:OT}{p:Qg}(s:Q4 F F')(hF:∀a∈p,F' a=none)(hH:∀a∈p,H' a=H a)(h:Zm K F H v t p):Zm K F' H' v t p:=by
 cases t with
 |fz d=>exact⟨h.1,h.2.mono s⟩
 |zow Ψ=>exact⟨h.1,Ψ.mono s h.2⟩
 |ol ds =>
   obtain⟨a,rfl,rfl,h1,xs,h2,h3⟩:=h
   exact⟨a,rfl,rfl,hF a Xa,xs,by rw[hH a Xa];exact h2,h3.mono s⟩
 |oll dss =>
   obtain⟨a,as,rfl,rfl,h1,h2,h3,h4⟩:=h
   exact⟨a,as,rfl,rfl,h1,hF a Xa,by rw[hH a Xa];exact h3,h4.move s (fun b hb=>hF b (Xd _ hb)) fun b hb=>hH b (Xd _ hb)⟩
 |scr ns=>obtain⟨h1,a,h2,h3⟩:=h;exact⟨h1,a,h2,h3.mono s⟩
 |own v0 Φ=>exact⟨h.1,Φ.mono s hF hH h.2⟩
def R8 {F0 H0 F H:Hp}{σ:St}{E:Ends}{v:V}{Ψ:Qy->Prop}(S:QB K H0 F ρ σ H)(x:Q0 F0 H0 F H)(e:ρ[i]?=some (some (.own v (QZ P w C N))))(hn:∀N',Ψ N'->D.nx (ρ.set i (some (.own v (QZ P w C N')))))(C':Cnv K F0 H0 D E) :
 ∃a p,v=.ref a/\(QZ P w C N).ok K F H (.ref a) p/\∀F' H' p' N',Ψ N'->ExtN p F H F' H'->(QZ P w C N').ok K F' H' (.ref a) p'->(∀b∈p',b∈p\/H b=none)->E.nx σ H':=by
 obtain⟨kt,h1,h2,fp,h3,h4,h5⟩:=S;obtain⟨u,e1,rfl,ok⟩:=h3 i _ e;obtain⟨a,_,_,_,_,_,_,_,_,rfl,_⟩:=id ok;have hlt:=(Xh.mp e).1;refine⟨a,fp i,rfl,ok,fun F' H' p' N' hN xn ok' sub=>?_⟩;have out:∀j,j≠i->∀b∈fp j,b∉fp i:=fun j hj b hb z=>hj (h4 j i b hb z)
 have hH:∀j,j≠i->∀b∈fp j,H' b=H b:=fun j hj b hb=>by
  obtain⟨o,ho⟩:=Bn (h5 j b hb).2;rw[xn.hh b o (out j hj b hb) ho,ho]
 refine C'.nx F' σ H' _ ⟨fun b o hb=>xn.hh b o (fun z=>by rw[(h5 i b z).1]at hb;cases hb) (x.hh b o hb),x.ff.trans xn.ff,xn.fh,fun b hb=>?_⟩ ⟨kt.mono xn.ff,xn.fh,by simp[h2],fun j=>if j=i then p' else fp j,fun j t' e'=>?_,fun j k b hb hc=>?_,fun j b hb=>?_⟩ (hn N' hN)
 ·rcases xn.fr b hb with z|z|z
  ·exact x.fr b z
  ·exact .inr (x.hh.free z)
  ·exact .inr (h5 i b z).1
 ·by_cases hj:j=i
  ·subst hj
   rw[Xl hlt]at e';cases e';refine⟨_,e1,rfl,?_⟩;simp only[if_true];exact ok'
  ·rw[Xr (Ne.symm hj)]at e'
   obtain⟨u',f1,f2⟩:=h3 j t' e';refine⟨u',f1,?_⟩;simp only[Xc hj];refine f2.move xn.ff (fun b hb=>?_) (hH j hj)
   cases z:F' b with
   |none=>rfl
   |some o =>
     rcases xn.fr b (Zt z) with y|y|y
     ·exact Xk (f2.there b hb).1 y
     ·exact Xk y (h5 j b hb).2
     ·exact Xk y (out j hj b hb)
 ·by_cases hj:j=i
  ·by_cases hk:k=i
   ·omega
   ·simp only[Xe hj]at hb
    simp only[Xc hk]at hc;rcases sub b hb with z|z
    ·exact Xk (h4 k i b hc z) hk
    ·exact Xk z (h5 k b hc).2
  ·simp only[Xc hj]at hb
   by_cases hk:k=i
   ·simp only[Xe hk]at hc
    rcases sub b hc with z|z
    ·exact Xk (h4 j i b hb z) hj
    ·exact Xk z (h5 j b hb).2
   ·simp only[Xc hk]at hc
    exact h4 j k b hb hc
 ·by_cases hj:j=i
  ·simp only[Xe hj]at hb
   refine⟨?_,((QZ P w C N').there ok' b hb).2⟩
   rcases sub b hb with z|z
   ·exact(h5 i b z).1
   ·exact x.hh.free z
  ·simp only[Xc hj]at hb
   exact⟨(h5 j b hb).1,by rw[hH j hj b hb];exact(h5 j b hb).2⟩
def WI {R:Qy->List OT->(Qy->Prop)->Prop}{t:TA}{E':XK}{v:V}{ΦA:List OT->Prop}(hm:NoF m)(e:ρ[i]?=some (some (.own v (QZ P w C N))))(hA:GA K t ρ ΦA)
 (hR:∀ts,ΦA ts->∃Ψ,R N ts Ψ/\∀N',Ψ N'->D.nx (ρ.set i (some (.own v (QZ P w C N'))))):Q1 K (Vi (Vr C m (spN K P w C R) [] E' (Q8 i) t)) ρ D:=fun F0 H0 F σ H E x S C'=>by
 obtain⟨a,dx,el,r,l,d,xs,ys,as,rfl,e1,ok,_⟩:=S.net e;refine⟨_,e1,a,dx,_,rfl,ok.ins.2,hm _ _ _ _,hA H0 F σ H _ S fun F1 H1 vs ts ht x1 r1=>?_⟩;obtain⟨Ψ,hR',hn⟩:=hR ts ht;obtain⟨a',p,ea,okp,fin⟩:=R8 (S.ext x1) (x.trans x1) e hn C'
 cases ea
 exact⟨F1,a,vs++[],p,ts,N,Ψ,rfl,(S.ext x1).kt,x1.fh,by rw[XH];exact r1,okp,hR',fin⟩
def R3 {R:Qy->List OT->(Qy->Prop)->Prop}{t:TA}{E':XK}{v:V}{ΦA:List OT->Prop}(e:ρ[i]?=some (some (.own v (QZ P w C N))))(hA:GA K t ρ ΦA)
 (hR:∀ts,ΦA ts->∃Ψ,R N ts Ψ/\∀N',Ψ N'->D.nx (ρ.set i (some (.own v (QZ P w C N'))))):Q1 K (Vi (VF (spN K P w C R) [] E' (QF (Q8 i) t))) ρ D:=fun F0 H0 F σ H E x S C'=>by
 obtain⟨a,dx,el,r,l,d,xs,ys,as,rfl,e1,ok,_⟩:=S.net e;refine⟨_,e1,hA H0 F σ H _ S fun F1 H1 vs ts ht x1 r1=>?_⟩;obtain⟨Ψ,hR',hn⟩:=hR ts ht;obtain⟨a',p,ea,okp,fin⟩:=R8 (S.ext x1) (x.trans x1) e hn C'
 cases ea
 exact⟨F1,a,vs++[],p,ts,N,Ψ,rfl,(S.ext x1).kt,x1.fh,by rw[XH];exact r1,okp,hR',fin⟩
def spI (P:Program)(w:World)(C:Addr):Sp:=fun vs H Q _=>∃x dx,vs=[.ref x]/\H x=some (.ins C dx [])/\∀e r l d H',H e=none->H r=none->H l=none->H d=none->[x,e,r,l,d].Nodup ->
 H' x=some (.ins C dx [("ends",.ref e),("rooms",.ref r),("leaving",.ref l),("laid",.ref d)])->H' e=some (.lst [])->H' r=some (.lst [])->H' l=some (.dT [])->H' d=some (pdO P w d [])->(∀b,b∉[x,e,r,l,d]->H' b=H b)->Q .non H'
def L4 {E:XK}:EvX K (Ub C (spI P w C) [] E QO) ρ (QZ P w C ⟨[],[],[],[]⟩):=fun H0 F σ H Q S q=>fun x dx hx hdx ne=>by
 refine⟨x,dx,rfl,QA,fun e r l d H' he hr hl hd nd h1 h2 h3 h4 h5 ho=>⟨rfl,?_⟩⟩
 have un:∀{b:Addr},upd (upd H dx (.own x)) x (.ins C dx []) b=none->H b=none/\b≠x/\b≠dx:=fun{b} hb=>by
  have n1:b≠x:=fun z=>by rw[z,QA]at hb;cases hb
  rw[Qr n1]at hb;have n2:b≠dx:=fun z=>by rw[z,QA]at hb;cases hb
  rw[Qr n2]at hb;exact⟨hb,n1,n2⟩
 obtain⟨e1,e2,e3⟩:=un he;obtain⟨r1,r2,r3⟩:=un hr;obtain⟨l1,l2,l3⟩:=un hl;obtain⟨d1,d2,d3⟩:=un hd
 have hdx':H' dx=some (.own x):=by
  rw[ho dx (by simp only[Xf,XQ,or_false,not_or];exact⟨ne,Ne.symm e3,Ne.symm r3,Ne.symm l3,Ne.symm d3⟩),Qr ne,QA]
 have kp:∀b o,H b=some o->H' b=some o:=fun b o hb=>by
  have nb:∀{c:Addr},H c=none->b≠c:=fun hc z=>by rw[z,hc]at hb;cases hb
  rw[ho b (by simp only[Xf,XQ,or_false,not_or];exact⟨nb hx,nb e1,nb r1,nb l1,nb d1⟩),Qr (nb hx),Qr (nb hdx)];exact hb
 have fr:∀{b:Addr},H b=none->F b=none:=fun hb=>S.sub.free hb;refine q F H' (.ref x) [x,dx,e,r,l,d] ⟨kp,Q4.refl _,fun b o hb=>kp b o (S.sub b o hb),fun _ h=>.inl h⟩ (fun b hb=>?_) ⟨x,dx,e,r,l,d,[],[],[],rfl,rfl,?_,⟨fr hx,h1⟩,⟨fr hdx,hdx'⟩,⟨fr e1,[],h2,.nil⟩,⟨fr r1,[],h3,.nil⟩,⟨fr l1,h4,.nil⟩,⟨fr d1,h5,.nil⟩⟩
 ·simp only[Xf,XQ,or_false]at hb
  rcases hb with rfl|rfl|rfl|rfl|rfl|rfl
  ·exact hx
  ·exact hdx
  ·exact e1
  ·exact r1
  ·exact l1
  ·exact d1
 ·simp only[Xu,Xf,XQ,or_false,not_or,not_false_eq_true,WP,and_true]at nd ⊢
  obtain⟨⟨a1,a2,a3,a4⟩,b1,c1,f1⟩:=nd
  exact⟨⟨Ne.symm ne,a1,a2,a3,a4⟩,⟨Ne.symm e3,Ne.symm r3,Ne.symm l3,Ne.symm d3⟩,b1,c1,f1⟩
end
end
section
variable {P:Program}{w:World}{K:W.Frag}{mg:Str->Qf}{base:Heap}
def Fun.evD {x qual:Str}{st:Stmt}{f:Addr}{fd:FuncData}{N ps:Qh}{k:Nat}{R:List OT->(OT->Prop)->Prop}(F:Fun K x qual st f fd)(S:Qp N ps (Qx st))(len:∀ts Φ,R ts Φ->ts.length=ps.length)
 (XaS:∀(cdv:Value) (A:Around) (outer:List Env) (s:Shared) (H:Hp) (E:XK) (ts:List OT) (Φ:OT->Prop),Room k (A.deeper (envOfC qual (Qx st) s.heap.objs.size f cdv))->R ts Φ ->
  ∃t,PSs (Vb CX0 P w K mg base N qual (Qx st) f cdv A outer s H E).nox (Zg st) t/\Q1 K t (ts.map some++List.replicate (N.length-ts.length) none) { nx:=fun _=>Φ (.fz .none),rt:=Φ }):FnOk P w K mg base CX0 (k+1) f fd ps (QY K R):=by
 refine F.ok S (fun vs H Q E ⟨F,ts,Φ,_,_,ha,hR,_⟩=>ha.length.trans (len ts Φ hR)) fun cdv A outer s H vs Q E hr ⟨F,ts,Φ,kt,sm,ha,hR,q⟩=>?_;obtain⟨t,h1,h2⟩:=XaS cdv A outer s H E ts Φ hr hR;refine⟨t,h1,h2 F H F (start N vs) H _ (Q0.refl sm) ⟨kt,sm,?_,fun _=>[],fun i t' e=>?_,fun i j a h=>(nomatch h),fun i a h=>(nomatch h)⟩ ⟨fun F' σ' H' ρ' x' _ e=>?_,fun F' H' v r' p x' hp ok e=>q F' H' v p r' e x' hp ok,fun _ _ _ _ _ _ z=>False.elim z,fun _ _ _ _ _ _ z=>False.elim z⟩⟩
 ·unfold start
  simp[ha.length]
 ·have hlt:i<ts.length:=by
   by_cases z:i<ts.length
   ·exact z
   ·rw[XY (by simpa using z)]at e
    have:=List.mem_of_getElem? e
    simp at this
  rw[XM (by simpa using hlt),Xt]at e;have e':ts[i]?=some t':=by
   cases z:ts[i]? with
   |none=>rw[z]at e;simp at e
   |some w=>rw[z]at e;simp at e;rw[e]
  obtain⟨v,e1,e2⟩:=ha.get (H:=H) i t' e';refine⟨v,?_,e2⟩;unfold start;have hl2:i<vs.length:=by rw[ha.length];exact hlt
  rw[XM (by simpa using hl2),Xt,e1];rfl
 ·exact q F' H' _ [] _ e x' (fun _ z=>nomatch z) ⟨rfl,.non⟩
def Fun.evN {C:Addr}{x qual:Str}{st:Stmt}{f:Addr}{fd:FuncData}{N ps:Qh}{k:Nat}{R:Qy->List OT->(Qy->Prop)->Prop}(F:Fun K x qual st f fd)(S:Qp N ps (Qx st))(len:∀M ts Ψ,R M ts Ψ->ts.length+1=ps.length)
 (XaS:∀(cdv:Value) (A:Around) (outer:List Env) (s:Shared) (H:Hp) (E:XK) (v:V) (M:Qy) (ts:List OT) (Ψ:Qy->Prop),Room k (A.deeper (envOfC qual (Qx st) s.heap.objs.size f cdv))->R M ts Ψ ->
  ∃t,PSs (Vb CX0 P w K mg base N qual (Qx st) f cdv A outer s H E).nox (Zg st) t/\Q1 K t (some (.own v (QZ P w C M))::(ts.map some++List.replicate (N.length-(ts.length+1)) none)) { nx:=fun ρ'=>∃M',Ψ M'/\ρ'[0]?=some (some (.own v (QZ P w C M'))),rt:=fun _=>False }) :
 FnOk P w K mg base CX0 (k+1) f fd ps (spN K P w C R):=by
 refine F.ok S (fun vs H Q E ⟨F,a,vs',p,ts,M,Ψ,e,_,_,ha,_,hR,_⟩=>by rw[e,XJ,ha.length];exact len _ _ _ hR) fun cdv A outer s H vs Q E hr ⟨F,a,vs',p,ts,M,Ψ,e,kt,sm,ha,ok,hR,q⟩=>?_;subst e;obtain⟨t,h1,h2⟩:=XaS cdv A outer s H E (.ref a) M ts Ψ hr hR
 have h0:∀b,(fun b=>if b∈p then none else H b:Hp) b=none->b∈p\/H b=none:=fun b hb=>by
  by_cases z:b∈p
  ·exact .inl z
  ·simp only[Xc z]at hb;exact .inr hb
 have th:=fun b hb=>(QZ P w C M).there ok b hb
 refine⟨t,h1,h2 F (fun b=>if b∈p then none else H b) F (start N (.ref a::vs')) H _ ⟨fun b o hb=>?_,Q4.refl _,sm,fun _ h=>.inl h⟩ ⟨kt,sm,?_,fun j=>if j=0 then p else [],fun j t' e=>?_,fun j k' b hb hc=>?_,fun j b hb=>?_⟩
  ⟨fun F' σ' H' ρ' x' S' ⟨M',hM,e0⟩=>?_,fun F' H' v r' p x' hp ok e=>False.elim e,fun _ _ _ _ _ _ z=>False.elim z,fun _ _ _ _ _ _ z=>False.elim z⟩⟩
 ·by_cases z:b∈p
  ·simp[z]at hb
  ·simp only[Xc z]at hb;exact hb
 ·unfold start
  simp[ha.length]
 ·cases j with
  |zero =>
    simp at e
    subst e;refine⟨.ref a,?_,rfl,?_⟩
    ·unfold start
     simp
    ·simp only[if_true]
     exact ok
  |succ i =>
    rw[U5]at e;have hlt:i<ts.length:=by
     by_cases z:i<ts.length
     ·exact z
     ·rw[XY (by simpa using z)]at e
      have:=List.mem_of_getElem? e
      simp at this
    rw[XM (by simpa using hlt),Xt]at e;have e':ts[i]?=some t':=by
     cases z:ts[i]? with
     |none=>rw[z]at e;simp at e
     |some w=>rw[z]at e;simp at e;rw[e]
    obtain⟨v,e1,e2⟩:=ha.get (H:=H) i t' e';refine⟨v,?_,?_⟩
    ·unfold start
     have hl2:i<vs'.length:=by rw[ha.length];exact hlt
     rw[Xv,WQ,U5,XM (by simpa using hl2),Xt,e1];rfl
    ·simp only[Nat.add_one_ne_zero,if_false]
     exact e2
 ·by_cases hj:j=0
  ·by_cases hk:k'=0
   ·rw[hj,hk]
   ·simp[hk]at hc
  ·simp[hj]at hb
 ·by_cases hj:j=0
  ·simp only[Xe hj]at hb
   exact⟨by simp[hb],(th b hb).2⟩
  ·simp[hj]at hb
 ·obtain⟨fp,g1,g2,g3⟩:=S'.fp
  obtain⟨u,u1,rfl,ok'⟩:=g1 0 _ e0;refine q F' H' (fp 0) M' hM ⟨fun b o nb hb=>x'.hh b o (by simp only[Xc nb];exact hb),x'.ff,x'.fh,fun b hb=>?_⟩ ok' (fun b hb=>h0 b (g3 0 b hb).1)
  rcases x'.fr b hb with z|z
  ·exact .inl z
  ·exact .inr ((h0 b z).symm)
structure Mf (K:W.Frag)(C:Addr)(m qual:Str)(st:Stmt)(ps:Qh):Prop where
 ex:∃f fd,Fun K m qual st f fd/\Meth K C m f/\Vd K fd ps []
def Zi (P:Program)(w:World)(K:W.Frag)(mg:Str->Qf)(base:Heap)(C:Addr)(m:Str)(ps:Qh)(k:Nat)(sp:Sp):Prop :=
 ∃f fd,Meth K C m f/\Vd K fd ps []/\FnOk P w K mg base CX0 k f fd ps sp
def Mf.evD {C:Addr}{m qual:Str}{st:Stmt}{N ps:Qh}{k:Nat}{R:List OT->(OT->Prop)->Prop}(D:Mf K C m qual st ps)(S:Qp N ps (Qx st))(len:∀ts Φ,R ts Φ->ts.length=ps.length)
 (XaS:∀(f:Addr) (cdv:Value) (A:Around) (outer:List Env) (s:Shared) (H:Hp) (E:XK) (ts:List OT) (Φ:OT->Prop),Room k (A.deeper (envOfC qual (Qx st) s.heap.objs.size f cdv))->R ts Φ ->
  ∃t,PSs (Vb CX0 P w K mg base N qual (Qx st) f cdv A outer s H E).nox (Zg st) t/\Q1 K t (ts.map some++List.replicate (N.length-ts.length) none) { nx:=fun _=>Φ (.fz .none),rt:=Φ }):Zi P w K mg base C m ps (k+1) (QY K R):=by
 obtain⟨f,fd,F,hm,hb⟩:=D.ex
 exact⟨f,fd,hm,hb,F.evD S len fun cdv A outer s H E ts Φ=>XaS f cdv A outer s H E ts Φ⟩
def Mf.evN {C:Addr}{m qual:Str}{st:Stmt}{N ps:Qh}{k:Nat}{R:Qy->List OT->(Qy->Prop)->Prop}(D:Mf K C m qual st ps)(S:Qp N ps (Qx st))(len:∀M ts Ψ,R M ts Ψ->ts.length+1=ps.length)
 (XaS:∀(f:Addr) (cdv:Value) (A:Around) (outer:List Env) (s:Shared) (H:Hp) (E:XK) (v:V) (M:Qy) (ts:List OT) (Ψ:Qy->Prop),Room k (A.deeper (envOfC qual (Qx st) s.heap.objs.size f cdv))->R M ts Ψ ->
  ∃t,PSs (Vb CX0 P w K mg base N qual (Qx st) f cdv A outer s H E).nox (Zg st) t/\Q1 K t (some (.own v (QZ P w C M))::(ts.map some++List.replicate (N.length-(ts.length+1)) none)) { nx:=fun ρ'=>∃M',Ψ M'/\ρ'[0]?=some (some (.own v (QZ P w C M'))),rt:=fun _=>False }) :
 Zi P w K mg base C m ps (k+1) (spN K P w C R):=by
 obtain⟨f,fd,F,hm,hb⟩:=D.ex
 exact⟨f,fd,hm,hb,F.evN S len fun cdv A outer s H E v M ts Ψ=>XaS f cdv A outer s H E v M ts Ψ⟩
def Df.evD {x:Str}{st:Stmt}{N ps:Qh}{k:Nat}{R:List OT->(OT->Prop)->Prop}(D:Df K mg x st ps)(S:Qp N ps (Qx st))(len:∀ts Φ,R ts Φ->ts.length=ps.length)
 (XaS:∀(f:Addr) (cdv:Value) (A:Around) (outer:List Env) (s:Shared) (H:Hp) (E:XK) (ts:List OT) (Φ:OT->Prop),Room k (A.deeper (envOfC x (Qx st) s.heap.objs.size f cdv))->R ts Φ ->
  ∃t,PSs (Vb CX0 P w K mg base N x (Qx st) f cdv A outer s H E).nox (Zg st) t/\Q1 K t (ts.map some++List.replicate (N.length-ts.length) none) { nx:=fun _=>Φ (.fz .none),rt:=Φ }):QD P w K mg base x ps (k+1) (QY K R):=by
 obtain⟨f,fd,F,hm,hb⟩:=D.ex
 exact⟨f,fd,hm,F.kp,hb,F.evD S len fun cdv A outer s H E ts Φ=>XaS f cdv A outer s H E ts Φ⟩
def Df.evN {C:Addr}{x:Str}{st:Stmt}{N ps:Qh}{k:Nat}{R:Qy->List OT->(Qy->Prop)->Prop}(D:Df K mg x st ps)(S:Qp N ps (Qx st))(len:∀M ts Ψ,R M ts Ψ->ts.length+1=ps.length)
 (XaS:∀(f:Addr) (cdv:Value) (A:Around) (outer:List Env) (s:Shared) (H:Hp) (E:XK) (v:V) (M:Qy) (ts:List OT) (Ψ:Qy->Prop),Room k (A.deeper (envOfC x (Qx st) s.heap.objs.size f cdv))->R M ts Ψ ->
  ∃t,PSs (Vb CX0 P w K mg base N x (Qx st) f cdv A outer s H E).nox (Zg st) t/\Q1 K t (some (.own v (QZ P w C M))::(ts.map some++List.replicate (N.length-(ts.length+1)) none)) { nx:=fun ρ'=>∃M',Ψ M'/\ρ'[0]?=some (some (.own v (QZ P w C M'))),rt:=fun _=>False }) :
 QD P w K mg base x ps (k+1) (spN K P w C R):=by
 obtain⟨f,fd,F,hm,hb⟩:=D.ex
 exact⟨f,fd,hm,F.kp,hb,F.evN S len fun cdv A outer s H E v M ts Ψ=>XaS f cdv A outer s H E v M ts Ψ⟩
def Mq (P:Program)(w:World)(K:W.Frag)(mg:Str->Qf)(base:Heap)(x:Str)(C:Addr)(k:Nat):Prop :=
 ∃f fd,Mk K C f/\mg x=some (.ref C)/\Vd K fd Zag []/\FnOk P w K mg base CX0 k f fd Zag (spI P w C)
end
section
variable {X:Cx}
def Yg {C:Addr}{m:Str}{pos apos:Pos}{o e:Expr}{es:Qi}{ta:TE}{t:TA}{ps:Qh}{j k:Nat}{sp:Sp}{pl:Sem Bool}(M:Zi X.prog X.w X.K X.mg X.base C m ps j sp)(c:NetC X.K C)(hr:Room k X.A)(he:PE X o ta)(ha:PA X (e::es) t)(hj:j<=k:=by walk_at"j")
 (hst:starEach (e::es) X.env=(false,eval e X.env)::starEach es X.env:=by rfl) (hpl:(backTo pos (starEach es X.env)).any (·.1)=false:=by rfl)
 (ht:eval (.Call (.Attribute o m apos) (e::es) [] pos) X.env=(do
  let ov <- eval o X.env
  standAt apos.atName
  let (f,first) <- holding [ov] (getMethod ov m pl)
  callWith pos f first (backTo pos (starEach (e::es) X.env)) (backToKw pos (keywordEach [] X.env))):=by rfl) :
 PE X (.Call (.Attribute o m apos) (e::es) [] pos) (Vr C m sp [] E0 ta t):=by
 obtain⟨f,fd,hm,hb,F⟩:=M;exact Dp (pl:=pl) he c.cl hm F (hr.mono hj) hb .nil Jc ha hst hpl ht
def TD {C:Addr} {x:Str} {p pos:Pos} {j k:Nat} (M:Mq X.prog X.w X.K X.mg X.base x C j) (hr:Room k X.A) (hj:j+1<=k:=by walk_at"j") (hg:Gl X x:=by rfl) (hdb:(x==("__debug__" : Str))=false:=by decide +kernel) :
 PE X (.Call (.Name x p) [] [] pos) (Ub C (spI X.prog X.w C) [] E0 QO):=by
 obtain⟨f,fd,M,hm,hb,F⟩:=M;exact Cu M F (hr.mono hj) hg hm hb .nil Jc hdb
end
end L2
end
section
namespace Mir
open PySem L2
def nk:Nd->List Key
 |.start=>[.inr "start"]
 |.fin=>[.inr "end"]
 |.guest k=>[.inr "guest",.inl (k:Int)]
 |.line l t=>[.inr "line",.inl (l:Int),.inl (t:Int)]
theorem Jk:∀{a b:Nd},nk a=nk b->a=b
 |.start,.start,_=>rfl
 |.fin,.fin,_=>rfl
 |.start,.fin,h=>Xk h (by decide)
 |.fin,.start,h=>Xk h (by decide)
 |.guest a,.guest b,h=>by
   injection h with _ h;injection h with h _;injection h with h
   have:a=b:=by omega
   rw[this]
 |.line a b,.line c d,h=>by
   injection h with _ h;injection h with h1 h;injection h with h2 _;injection h1 with h1;injection h2 with h2;have e1:a=c:=by omega
   have e2:b=d:=by omega
   rw[e1,e2]
 |.start,.guest _,h=>by have q:=XX List.length h;simp[nk]at q
 |.start,.line _ _,h=>by have q:=XX List.length h;simp[nk]at q
 |.fin,.guest _,h=>by have q:=XX List.length h;simp[nk]at q
 |.fin,.line _ _,h=>by have q:=XX List.length h;simp[nk]at q
 |.guest _,.start,h=>by have q:=XX List.length h;simp[nk]at q
 |.guest _,.fin,h=>by have q:=XX List.length h;simp[nk]at q
 |.guest _,.line _ _,h=>by have q:=XX List.length h;simp[nk]at q
 |.line _ _,.start,h=>by have q:=XX List.length h;simp[nk]at q
 |.line _ _,.fin,h=>by have q:=XX List.length h;simp[nk]at q
 |.line _ _,.guest _,h=>by have q:=XX List.length h;simp[nk]at q
def Tf {a b:Nd}:nk a=nk b↔a=b:=⟨Jk,fun h=>by rw[h]⟩
def JP:Option Nat->PyData
 |none=>.none
 |some e=>.int (e:Int)
def kvG (es:Got Nd):ZN:=es.map fun x=>(nk x.1,JP x.2)
theorem DG (n:Nd):∀es:Got Nd,VC (kvG es) (nk n)=(W1 es n).map JP
 |[]=>rfl
 |(k,v)::es=>by
   have ih:=DG n es;unfold W1 at ih ⊢;rw[XL];unfold kvG VC at ih ⊢;rw[Xv,Xz];by_cases e:k=n
   ·subst e
    simp
   ·have e1:¬nk k=nk n:=fun z=>e (Jk z)
    have e2:(n==k)=false:=by rw[beq_eq_false_iff_ne];exact fun z=>e z.symm
    rw[e2];simp only[e1,decide_false];exact ih
def EK {es:Got Nd}{n:Nd}:(es.lookup n).isSome=decide (n∈QR es):=by
 induction es with
 |nil=>rfl
 |cons p es ih =>
   obtain⟨k,v⟩:=p;rw[XL];by_cases e:n=k
   ·subst e
    simp[QR]
   ·have e2:(n==k)=false:=by rw[beq_eq_false_iff_ne];exact e
    rw[e2];have:decide (n∈QR ((k,v)::es))=decide (n∈QR es):=by
     apply decide_eq_decide.mpr
     unfold QR;rw[Xv,Xf];exact⟨fun z=>z.resolve_left e,.inr⟩
    rw[this];exact ih
def UV (n:Nd)(es:Got Nd):(VC (kvG es) (nk n)).isSome=decide (n∈QR es):=by
 rw[DG,WR];exact EK
def Fj (es:Got Nd):MU (kvG es):=fun x hx=>by
 obtain⟨y,_,rfl⟩:=XI.mp hx
 cases h:y.2 with
 |none=>exact⟨.non,by simp[h,JP,Vh]⟩
 |some e=>exact⟨.int (e:Int),by simp[h,JP,Vh]⟩
def CM {es:Got Nd}{n:Nd}{e:Nat}(h:n∉QR es):JO (kvG es) (nk n) (.int (e:Int))=kvG (es++[(n,some e)]):=by
 unfold JO;have:¬((kvG es).any fun kv=>decide (kv.1=nk n))=true:=fun z=>by
  obtain⟨x,hx,hz⟩:=List.any_eq_true.mp z;obtain⟨y,hy,rfl⟩:=XI.mp hx;have q:y.1=n:=Jk (X0 hz);exact h (by rw[<- q];exact XI.mpr ⟨y,hy,rfl⟩)
 rw[Xc this];unfold kvG;rw[Xy];rfl
structure NetR (N:Qy)(L:Lay Nd)(φ:QP Nd):Prop where
 ends:N.ends=(YE L).map nk
 rooms:N.rooms=Vu L φ
 leav:∀(n:Nd) (e:Int),e∈(QJ N.leav (nk n)).getD [] ↔ ∃j:Nat,e=(j:Int)/\tlE L j=some n
 laid:∀(i:Nat) (x:Nd×Nd×Int),L[i]?=some x->ZF N.laid (nk x.1,nk x.2.1)=some ((2*i:Nat):Int)
 laid0:∀p q:Nd,(p,q)∉L.map (fun x=>(x.1,x.2.1))->ZF N.laid (nk p,nk q)=none
 l1:N.leav.length<=2*L.length
 l2:N.laid.length<=L.length
 l3:∀k ns,QJ N.leav k=some ns->ns.length<=2*L.length
theorem PF (φ:QP Nd):NetR ⟨[],[],[],[]⟩ [] φ where
 ends:=rfl
 rooms:=rfl
 leav n e:=by
  constructor
  ·intro h;simp[QJ]at h
  ·rintro⟨j,_,h⟩;simp[tlE]at h
 laid i x h:=by simp at h
 laid0 p q _:=rfl
 l1:=XF _
 l2:=XF _
 l3 k ns h:=by simp[QJ]at h
def YW {k k':List Key}{ns:Ql}{ls:List (List Key×Ql)}:QJ ((k',ns)::ls) k=if k'=k then some ns else QJ ls k:=by
 by_cases e:k'=k
 ·simp[QJ,Xz,e]
 ·simp[QJ,Xz,e]
theorem Ro (k k':List Key)(x:Int):∀ls:List (List Key×Ql),QJ (V4 ls k x) k'=if k'=k then (QJ ls k).map (· ++ [x]) else QJ ls k'
 |[]=>by
   unfold V4;by_cases e:k'=k
   ·rw[Xe e];simp[QJ]
   ·rw[Xc e]
 |(j,ns)::ls=>by
   unfold V4;have ih:=Ro k k' x ls
   by_cases e:j=k
   ·rw[Xe e,YW,YW,YW,Xe e]
    by_cases e2:k'=k
    ·rw[Xe e2,Xe (e.trans e2.symm)];rfl
    ·rw[Xc e2,Xc (fun z=>e2 (z.symm.trans e)),Xc (fun z=>e2 (z.symm.trans e))]
   ·rw[Xc e,YW,YW,YW,Xc e,ih]
    by_cases e2:k'=k
    ·rw[Xe e2,Xc (fun z=>e (z.trans e2)),Xe e2]
    ·rw[Xc e2,Xc e2]
theorem Bs (k:List Key)(x:Int):∀ls:List (List Key×Ql),(V4 ls k x).length=ls.length
 |[]=>rfl
 |(j,ns)::ls=>by
   unfold V4;split
   ·simp
   ·simp[Bs k x ls]
theorem S7 (k k':List Key):∀ls:List (List Key×Ql),QJ ls k=none->QJ (ls++[(k,[])]) k'=if k'=k then some [] else QJ ls k'
 |[],_=>by
   rw[List.nil_append,YW];by_cases e:k'=k
   ·rw[Xe e,Xe e.symm]
   ·rw[Xc e,Xc (fun z=>e z.symm)]
 |(j,ns)::ls,h=>by
   rw[YW]at h;by_cases e:j=k
   ·rw[Xe e]at h;cases h
   ·rw[Xc e]at h
    rw[WQ,YW,YW,S7 k k' ls h];by_cases e2:k'=k
    ·rw[Xe e2,Xc (fun z=>e (z.trans e2)),Xe e2]
    ·rw[Xc e2,Xc e2]
def D6 (ls:List (List Key×Ql))(k k':List Key):QJ (V3 ls k) k'=if k'=k then some ((QJ ls k).getD []) else QJ ls k':=by
 unfold V3;cases h:QJ ls k with
 |some ns =>
   rw[Xe (by rfl)];by_cases e:k'=k
   ·rw[Xe e,e,h];rfl
   ·rw[Xc e]
 |none =>
   rw[Xc (by simp),S7 k k' ls h];rfl
def Ds (ls:List (List Key×Ql))(k:List Key):(V3 ls k).length<=ls.length+1:=by
 unfold V3;split
 ·omega
 ·simp
def JR (N:Qy)(s e:List Key)(r:Int):Qy:={ N with ends:=N.ends++[e],rooms:=N.rooms++[r],leav:=V4 (V3 N.leav s) s (N.ends.length:Int) }
def WU (N:Qy)(s e:List Key)(r:Int):Qy:=JR (JR { N with laid:=Yb N.laid (s,e) (N.ends.length:Int) } s e r) e s 0
def Uo (N:Qy)(s e:List Key)(r:Int)(k:List Key):QJ (JR N s e r).leav k=if k=s then some ((QJ N.leav s).getD []++[(N.ends.length:Int)]) else QJ N.leav k:=by
 show QJ (V4 (V3 N.leav s) s _) k=_;rw[Ro,D6,Xe rfl,D6];by_cases e:k=s
 ·rw[Xe e,Xe e];rfl
 ·rw[Xc e,Xc e,Xc e]
def YX {k k':KK}{n:Int}{ls:List (KK×Int)}:ZF ((k',n)::ls) k=if k'=k then some n else ZF ls k:=by
 by_cases e:k'=k
 ·simp[ZF,Xz,e]
 ·simp[ZF,Xz,e]
theorem Rr (k k':KK)(n:Int):∀ls:List (KK×Int),ZF (ls.map fun x=>if x.1=k then (x.1,n) else x) k'=if k'=k then (ZF ls k).map fun _=>n else ZF ls k'
 |[]=>by
   by_cases e:k'=k
   ·rw[Xe e];rfl
   ·rw[Xc e];rfl
 |(j,m)::ls=>by
   rw[Xv];have ih:=Rr k k' n ls
   by_cases e:j=k
   ·simp only[e,if_true]
    rw[YX,YX,YX,ih];by_cases e2:k'=k
    ·simp[e2]
    ·have:¬k=k':=fun z=>e2 z.symm
     simp[e2,this]
   ·simp only[e,if_false]
    rw[YX,YX,YX,ih];by_cases e2:k'=k
    ·simp[e2,e]
    ·simp[e2]
theorem RU (k k':KK)(n:Int):∀ls:List (KK×Int),ZF ls k=none->ZF (ls++[(k,n)]) k'=if k'=k then some n else ZF ls k'
 |[],_=>by
   rw[List.nil_append,YX];by_cases e:k'=k
   ·rw[Xe e,Xe e.symm]
   ·rw[Xc e,Xc (fun z=>e z.symm)]
 |(j,m)::ls,h=>by
   rw[YX]at h;by_cases e:j=k
   ·rw[Xe e]at h;cases h
   ·rw[Xc e]at h
    rw[WQ,YX,YX,RU k k' n ls h];by_cases e2:k'=k
    ·rw[Xe e2,Xc (fun z=>e (z.trans e2)),Xe e2]
    ·rw[Xc e2,Xc e2]
def R9 (ls:List (KK×Int))(k k':KK)(n:Int):ZF (Yb ls k n) k'=if k'=k then some n else ZF ls k':=by
 unfold Yb;cases h:ZF ls k with
 |some m=>rw[Xe (by rfl),Rr,h];rfl
 |none=>rw[Xc (by simp),RU k k' n ls h]
def CC (ls:List (KK×Int))(k:KK)(n:Int):(Yb ls k n).length<=ls.length+1:=by
 unfold Yb;split
 ·simp
 ·simp
def Sc {ν:Type} [DecidableEq ν] (L:Lay ν):(YE L).length=2*L.length:=by
 unfold YE;induction L with
 |nil=>rfl
 |cons x L ih=>rw[BT,Xm,ih,XJ];simp;omega
def NetR.elen {N:Qy}{L:Lay Nd}{φ:QP Nd}(h:NetR N L φ):N.ends.length=2*L.length:=by rw[h.ends,Xn,Sc]
def Hr {ν:Type} [DecidableEq ν] (L:Lay ν)(φ:QP ν):(Vu L φ).length=2*L.length:=by
 unfold Vu;induction L with
 |nil=>rfl
 |cons x L ih=>rw[BT,Xm,ih,XJ];simp;omega
def Bu {L:Lay Nd}{x:Nd×Nd×Int}{j:Nat}{n:Nd}:tlE (L++[x]) j=some n↔tlE L j=some n\/(j=2*L.length/\n=x.1)\/(j=2*L.length+1/\n=x.2.1):=by
 unfold tlE;by_cases h:j/2<L.length
 ·rw[XM h]
  constructor
  ·exact .inl
  ·rintro(z|⟨z,_⟩|⟨z,_⟩)
   ·exact z
   ·omega
   ·omega
 ·rw[XY (by omega),BS.mpr (show L.length<=j/2 by omega)]
  by_cases h2:j/2=L.length
  ·rw[h2,Nat.sub_self]
   simp only[List.getElem?_cons_zero,X4,Option.map_none,Option.some.injEq];by_cases p:j%2=0
   ·rw[Xe p]
    constructor
    ·intro z;exact .inr (.inl ⟨by omega,z.symm⟩)
    ·rintro(z|⟨_,z⟩|⟨z,_⟩)
     ·cases z
     ·exact z.symm
     ·omega
   ·rw[Xc p]
    constructor
    ·intro z;exact .inr (.inr ⟨by omega,z.symm⟩)
    ·rintro(z|⟨z,_⟩|⟨_,z⟩)
     ·cases z
     ·omega
     ·exact z.symm
  ·have:([x]:Lay Nd)[j/2-L.length]?=none:=BS.mpr (by simp;omega)
   rw[this];constructor
   ·intro z;cases z
   ·rintro(z|⟨z,_⟩|⟨z,_⟩)
    ·cases z
    ·omega
    ·omega
theorem Ck {N:Qy}{L:Lay Nd}{φ:QP Nd}(h:NetR N L φ){s e:Nd}{r:Int}(h0:φ s e=0)(new:(s,e)∉L.map (fun x=>(x.1,x.2.1))):NetR (WU N (nk s) (nk e) r) (L++[(s,e,r)]) φ where
 ends:=by
  show(N.ends++[nk e])++[nk s]=_
  unfold YE;rw[JI,Xy,h.ends];simp[YE]
 rooms:=by
  show(N.rooms++[r])++[0]=_
  unfold Vu;rw[JI,h.rooms];simp[Vu,h0]
 leav n e':=by
  have le:=h.elen
  have l1:(JR { N with laid:=Yb N.laid (nk s,nk e) (N.ends.length:Int) } (nk s) (nk e) r).ends.length=2*L.length+1:=by
   show(N.ends++[nk e]).length=_
   rw[Xm,le];rfl
  have q:(QJ (WU N (nk s) (nk e) r).leav (nk n)).getD []=((QJ N.leav (nk n)).getD []++(if n=s then [((2*L.length:Nat):Int)] else []))++(if n=e then [((2*L.length+1:Nat):Int)] else []):=by
   unfold WU;rw[Uo,l1,Uo,Uo];show Option.getD (if nk n=nk e then some ((if nk e=nk s then some ((QJ N.leav (nk s)).getD []++[(N.ends.length:Int)]) else QJ N.leav (nk e)).getD []++[((2*L.length+1:Nat):Int)]) else if nk n=nk s then some ((QJ N.leav (nk s)).getD []++[(N.ends.length:Int)]) else QJ N.leav (nk n)) []=_;rw[le];simp only[Tf];by_cases e1:n=e
   ·subst e1
    by_cases e2:n=s
    ·subst e2;simp
    ·simp[e2]
   ·by_cases e2:n=s
    ·subst e2;simp[e1]
    ·simp[e1,e2]
  rw[q,Xx,Xx,h.leav n e'];constructor
  ·rintro((⟨j,rfl,hj⟩|z)|z)
   ·exact⟨j,rfl,Bu.mpr (.inl hj)⟩
   ·by_cases e2:n=s
    ·rw[Xe e2]at z
     exact⟨2*L.length,Xg.mp z,Bu.mpr (.inr (.inl ⟨rfl,e2⟩))⟩
    ·rw[Xc e2]at z;cases z
   ·by_cases e2:n=e
    ·rw[Xe e2]at z
     exact⟨2*L.length+1,Xg.mp z,Bu.mpr (.inr (.inr ⟨rfl,e2⟩))⟩
    ·rw[Xc e2]at z;cases z
  ·rintro⟨j,rfl,hj⟩
   rcases Bu.mp hj with z|⟨rfl,z⟩|⟨rfl,z⟩
   ·exact .inl (.inl ⟨j,rfl,z⟩)
   ·exact .inl (.inr (by rw[Xe z];exact Xg.mpr rfl))
   ·exact .inr (by rw[Xe z];exact Xg.mpr rfl)
 laid i x hx:=by
  show ZF (Yb N.laid (nk s,nk e) (N.ends.length:Int)) (nk x.1,nk x.2.1)=_;rw[R9,h.elen];by_cases hi:i<L.length
  ·rw[XM hi]at hx
   have ne:¬(nk x.1,nk x.2.1)=(nk s,nk e):=fun z=>new (by
    injection z with z1 z2;exact XI.mpr ⟨x,List.mem_of_getElem? hx,by rw[Jk z1,Jk z2]⟩)
   rw[Xc ne];exact h.laid i x hx
  ·rw[XY (by omega)]at hx
   have hi2:i=L.length:=by
    have:=(Xh.mp hx).1
    simp at this
    omega
   subst hi2;rw[Nat.sub_self]at hx;cases hx;rw[Xe rfl]
 laid0 p q hn:=by
  show ZF (Yb N.laid (nk s,nk e) (N.ends.length:Int)) (nk p,nk q)=_;rw[Xy,Xx,not_or]at hn;rw[R9,Xc (fun z=>?_)]
  ·exact h.laid0 p q hn.1
  ·injection z with z1 z2
   exact hn.2 (by rw[Jk z1,Jk z2];simp)
 l1:=by
  have a:=h.l1
  have b:(WU N (nk s) (nk e) r).leav.length<=N.leav.length+2:=by
   unfold WU;show(V4 (V3 (V4 (V3 N.leav (nk s)) (nk s) _) (nk e)) (nk e) _).length<=_;rw[Bs];refine XZ (Ds _ _) ?_;rw[Bs];have:=Ds N.leav (nk s);omega
  rw[Xm];simp;omega
 l2:=by
  have a:=h.l2;have b:(WU N (nk s) (nk e) r).laid.length<=N.laid.length+1:=CC _ _ _;rw[Xm];simp;omega
 l3 k ns hk:=by
  have g:∀k',((QJ N.leav k').getD []).length<=2*L.length:=fun k'=>by
   cases z:QJ N.leav k' with
   |none=>exact XF _
   |some m=>exact h.l3 k' m z
  have g1:∀k',((QJ (JR { N with laid:=Yb N.laid (nk s,nk e) (N.ends.length:Int) } (nk s) (nk e) r).leav k').getD []).length<=2*L.length+1:=fun k'=>by
   rw[Uo];by_cases z:k'=nk s
   ·rw[Xe z]
    have:=g (nk s)
    simpa using this
   ·rw[Xc z]
    have:=g k'
    show((QJ N.leav k').getD []).length<=_
    omega
  unfold WU at hk;rw[Uo]at hk;rw[Xm];by_cases z:k=nk e
  ·rw[Xe z]at hk
   cases hk
   have:=g1 (nk e)
   simp at this ⊢
   omega
  ·rw[Xc z]at hk
   have:=g1 k
   rw[hk]at this;simp at this ⊢;omega
def Eu {L:Lay Nd}(hd:Dis L){φ:QP Nd}{a r r':Int}{e:Nat}(h1:(Vu L φ)[e]?=some r)(h2:(Vu L φ)[Zes e]?=some r'):Vu L (VD L a φ e)=((Vu L φ).set e (r-a)).set (Zes e) (r'+a):=by
 have me:Zes e≠e:=by unfold Zes;split<;>omega
 have mh:Zes e/2=e/2:=by unfold Zes;split<;>omega
 rw[Uv]at h1 h2;have h1':=h1;unfold rmE at h1 h2;rw[mh]at h2;cases ex:L[e/2]? with
 |none=>rw[ex]at h1;cases h1
 |some x =>
   rw[ex]at h1 h2;simp only[X4,Option.some.injEq]at h1 h2;have hp:VD L a φ e=V5 φ x.1 x.2.1 (if e%2=0 then a else -a):=by unfold VD;rw[ex]
   have bx:V5 φ x.1 x.2.1 (if e%2=0 then a else -a) x.1 x.2.1=φ x.1 x.2.1+(if e%2=0 then a else -a):=by unfold V5;rw[Xe ⟨rfl,rfl⟩]
   have le:e/2<L.length:=(Xh.mp ex).1;have lr:=Hr L φ;have le2:e<(Vu L φ).length:=by omega
   have lm:Zes e<(Vu L φ).length:=by omega
   refine List.ext_getElem? fun i=>?_;rw[Uv,List.getElem?_set,List.getElem?_set,Uv,hp];by_cases im:Zes e=i
   ·subst im
    rw[Xe rfl,Xe (show Zes e<((Vu L φ).set e (r-a)).length by simpa using lm)]
    unfold rmE;rw[mh,ex];simp only[X4,Option.some.injEq];rw[bx];have pm:(Zes e%2=0)=¬(e%2=0):=by
     apply propext
     unfold Zes;split<;>omega
    by_cases p:e%2=0
    ·have p2:¬Zes e%2=0:=by rw[pm];exact fun z=>z p
     rw[Xc p2]at h2 ⊢;rw[Xe p];omega
    ·have p2:Zes e%2=0:=by rw[pm];exact p
     rw[Xe p2]at h2 ⊢;rw[Xc p];omega
   ·rw[Xc im]
    by_cases ie:e=i
    ·subst ie
     rw[Xe rfl,Xe le2];unfold rmE;rw[ex];simp only[X4,Option.some.injEq];rw[bx];by_cases p:e%2=0
     ·rw[Xe p]at h1 ⊢
      rw[Xe p];omega
     ·rw[Xc p]at h1 ⊢
      rw[Xc p];omega
    ·rw[Xc ie]
     unfold rmE;cases ey:L[i/2]? with
     |none=>rfl
     |some y =>
       have ne:¬(y.1=x.1/\y.2.1=x.2.1):=fun⟨z1,z2⟩=>by
        have q:=Dz hd ey ex z1 z2;unfold Zes at im;split at im<;>omega
       have by':V5 φ x.1 x.2.1 (if e%2=0 then a else -a) y.1 y.2.1=φ y.1 y.2.1:=by unfold V5;rw[Xc ne]
       simp only[X4,by']
def WV (L:Lay Nd)(φ:QP Nd)(es:Got Nd)(U:List Nd):Prop := ∀e m n r,tlE L e=some m->hdE L e=some n->rmE L φ e=some r->0<r->m∈QR es->m∉U->n∈QR es
def WV.closed {L:Lay Nd}{φ:QP Nd}{es:Got Nd}(h:WV L φ es []):VH L φ es:=fun e m n r h1 h2 h3 h4 h5=>h e m n r h1 h2 h3 h4 h5 (fun z=>nomatch z)
def WM {es:Got Nd}{x:Nd×Option Nat}{n:Nd}:n∈QR (es++[x])↔n∈QR es\/n=x.1:=by
 unfold QR;rw[Xy,Xx];simp
def WV.add {L:Lay Nd}{φ:QP Nd}{es:Got Nd}{U V:List Nd}(h:WV L φ es (U++V))(n:Nd)(o:Option Nat):WV L φ (es++[(n,o)]) (U++(V++[n])):=fun e m k r h1 h2 h3 h4 h5 h6=>by
 rw[<- G3,Xx,not_or]at h6;have ne:m≠n:=fun z=>h6.2 (by simp[z])
 rcases WM.mp h5 with z|z
 ·exact WM.mpr (.inl (h e m k r h1 h2 h3 h4 z h6.1))
 ·exact Xk z ne
theorem Tree.inClosed {L:Lay Nd}{φ:QP Nd}{s:Nd}{fs:Got Nd}(hc:VH L φ fs)(hs:s∈QR fs):∀{es:Got Nd},Tree L φ s es->∀n∈QR es,n∈QR fs
 |_,.root,n,hn=>by
   have e:n=s:=by simpa [QR] using hn
   rw[e];exact hs
 |_,.add t hn hh ht hm hr h0,n,hx=>by
   rcases WM.mp hx with z|z
   ·exact t.inClosed hc hs n z
   ·rw[z]
    exact hc _ _ _ _ ht hh hr h0 (t.inClosed hc hs _ hm)
end Mir
end
section
namespace L2
open PySem PySem.Spec PyProof.Rows
section
variable {K:W.Frag}{ρ:Q6}{ta tb tc te:TE}{D:PEnds}
theorem SO {F F' H:Hp}:∀{as:Qg} {dss:List (Qd)},(∀ds∈dss,W7 ds)->(∀a∈as,F' a=none)->Zs F H as dss->Zs F' H as dss
 |[],[],_,_,_=>trivial
 |a::as,ds::dss,h,hp,o=>by
   obtain⟨⟨_,xs,h2,h3⟩,o2⟩:=o
   exact⟨⟨hp a Xa,xs,h2,h3.flats (h ds Xa)⟩,SO (fun d hd=>h d (Xd _ hd)) (fun b hb=>hp b (Xd _ hb)) o2⟩
 |[],_::_,_,_,o=>False.elim o
 |_::_,[],_,_,o=>False.elim o
def CG {dss:List (Qd)}(h:∀ds∈dss,W7 ds):YB (.oll dss):=fun K F F' H v p hp ok=>by
 obtain⟨a,as,rfl,rfl,h1,h2,h3,h4⟩:=ok
 exact⟨a,as,rfl,rfl,h1,hp a Xa,h3,SO h (fun b hb=>hp b (Xd _ hb)) h4⟩
end
end L2
end
namespace L2
open PySem
section
variable {prog:Program}{w:World}{A:Around}{E:Qb}{h:Heap}{g:Array GenState}{d:Drawn}{t:Nat}{os:OsState}
variable {nm q:Str}{C N:Addr}{bs bm bmB:Qe}{hdct:Bool}{sn:Qh}{sub:Qe}{ab:Bool}{col:Option Bool}{dd:Qj}{k0 k1 k2 k3 k5:Qf}{B newId initId:String}
abbrev MP (C a:Addr):Obj:={ cls:=.ref C,data:=.fields #[.ref a,.none,.none,.none,.bool false,.none] }
abbrev Py (vs:Qe):Obj:={ cls:=.type "tuple",data:=.seq vs.toArray }
def Yk (h:Heap)(C:Addr)(vs:Qe):Heap:=(h.push (Py vs)).push (MP C h.objs.size)
def Fg (F:ExcBaseFacts B newId initId bmB)(T:OwnTail h bmB bm){mN:Str->Qf}{rest:Qe}{f:Addr}{fo:Obj}{Q:Fin->Shared->Prop}
 (hC:h.get? C=some (excClassObj nm q C N bs bm hdct sn sub ab col dd k0 k1 k2 k3 k5 newId)) (hn:h.Ns N mN)
 (hi:mN "__init__"=some (.ref f)) (hf:h.get? f=some fo) (hc:fo.cls=.type "function") (hrest:rest.length<=sizeLine)
 (hq:wpAny (model prog w) A (call (.ref f) (.ref (h.objs.size+1)::rest)) (fun r s'=>r=.none/\Q (.done (.ret (.ref (h.objs.size+1)))) s') E ⟨Yk h C rest,g,d,t,os⟩) :
 wpAny (model prog w) A (Builtin.«type.__call__» ⟨.ref C::rest,[]⟩) Q E ⟨h,g,d,t,os⟩:=by
 have kp:∀b o,h.get? b=some o->(Yk h C rest).get? b=some o:=fun b o e=>Xi _ (Xi _ e)
 repeat (first
  |with_reducible refine wpAny_loadPart_at hC ?_
  |with_reducible refine wpAny_madeBy_exc hC ?_
  |wp_step)
 refine codeAny_call_builtin_code (Code.quiet_builtin _ F.quiet)
  (wpAny_check_new_subT F T hC ?_)
 refine codeAny_exc_new_subT F T hC ?_ hrest;show wpAny _ _ _ _ _ ⟨Yk h C rest,g,d,t,os⟩
 have me:(Yk h C rest).get? (h.objs.size+1)=some (MP C h.objs.size):=by
  unfold Yk;exact Heap.get?_push_at (by rw[YZ]) rfl
 have hC1:=kp _ _ hC;have hn1:(Yk h C rest).Ns N mN:=hn.keeps kp;have T1:=T.keeps kp;have own:(Value.ref C::bm).contains (.ref C)=true:=by simp
 unfold isInstance;repeat (first
  |with_reducible refine wpAny_loadPart_at me ?_
  |(with_reducible refine wpAny_isSubtype_exc hC1 ?_;rw[own])
  |wp_step)
 show wpAny _ _ (typeLookup (.ref C) _) _ _ _;refine wpAny_typeLookup_tail hC1 hn1 T1 F.mroIs F.init.lookup ?_;rw[hi];refine wpAny_holding (Xb (wpAny_bindSpecial_def (s:=⟨Yk h C rest,g,d,t,os⟩) (kp _ _ hf) hc ?_));refine Xb (wpAny_mono hq (fun r s' hr=>?_) fun _ _ z=>z);obtain⟨rfl,hr⟩:=hr
 wp_walk
 exact hr
def PX (F:ExcBaseFacts B newId initId bmB)(T:OwnTail h bmB bm){mN:Str->Qf}{rest:Qe}{f:Addr}{fo:Obj}{Q:Qb}
 (hC:h.get? C=some (excClassObj nm q C N bs bm hdct sn sub ab col dd k0 k1 k2 k3 k5 newId)) (hn:h.Ns N mN)
 (hi:mN "__init__"=some (.ref f)) (hf:h.get? f=some fo) (hc:fo.cls=.type "function") (hrest:rest.length<=sizeLine)
 (hq:wpAny (model prog w) (A.under (.builtin "type.__call__" ⟨.ref C::rest,[]⟩)) (call (.ref f) (.ref (h.objs.size+1)::rest)) (fun r s'=>r=.none/\Q (.ref (h.objs.size+1)) s') E ⟨Yk h C rest,g,d,t,os⟩) :
 wpAny (model prog w) A (call (.ref C) rest) Q E ⟨h,g,d,t,os⟩:=by
 have l1:=tc_lookup;have l2:=tc_bind (.ref C);have ty:(⟨h,g,d,t,os⟩:Shared).TypeIs (.ref C) "type" := ⟨_,hC,rfl⟩;refine wpAny_call (codeAny_of_tree ?_);show wpAny _ _ (callAny (.ref C) _) _ _ _
 repeat (any_goals (first
  |assumption
  |with_reducible refine wpAny_loadPart_at hC ?_
  |wp_step))
 refine⟨rfl,?_⟩;refine codeAny_call_builtin_at (Code.quiet_builtin _ (by decide +kernel)) entry_typeCall (wpAny_check_type_call_sub hC ?_);refine Fg F T hC hn hi hf hc hrest ?_;exact wpAny_mono hq (fun r s' z=>z) fun _ _ z=>z
end
end L2
namespace L2
open PySem PySem.Spec PyProof.Rows
def phX (C e:Addr)(dct:Qj):Heap->Prop:=fun h=>∃(t:Addr) (sl:Array (Qf)),h.get? e=some { cls:=.ref C,dict:=dct,data:=.fields #[.ref t,.none,.none,.none,.bool false,.none],slots:=sl }
def MM {P:Program}{w:World}{H:Hp}{h:Heap}{C e:Addr}{dct:Qj}(p:phX C e dct h):Z0 P w H h e (.ext (phX C e dct)):=⟨p,by obtain⟨t,sl,q⟩:=p;exact⟨_,q⟩,fun h1 h2 p1 k=>by obtain⟨t,sl,q⟩:=p1;exact⟨t,sl,k _ q⟩⟩
section
variable {prog:Program}{w:World}{A:Around}{E:Qb}{h:Heap}{g:Array GenState}{d:Drawn}{t:Nat}{os:OsState}
variable {nm q:Str}{C N:Addr}{bs bm bmB:Qe}{hdct:Bool}{sn:Qh}{sub:Qe}{ab:Bool}{col:Option Bool}{dd:Qj}{k0 k1 k2 k3 k5:Qf}{B newId initId:String}
def Tq (F:ExcBaseFacts B newId initId bmB)(T:OwnTail h bmB bm){e a:Addr}{dct:Qj}{sl:Array (Qf)}{v:Value}{Q:Qb}
 (hC:h.get? C=some (excClassObj nm q C N bs bm hdct sn sub ab col dd k0 k1 k2 k3 k5 newId))
 (he:h.get? e=some { cls:=.ref C,dict:=dct,data:=.fields #[.ref a,.none,.none,.none,.bool false,.none],slots:=sl })
 (hq:∀h',(∀b o,b≠e->h.get? b=some o->h'.get? b=some o)->phX C e dct h'->Q .none ⟨h',g,d,t,os⟩) :
 wpAny (model prog w) A (call (.builtin initId) [.ref e,v]) Q E ⟨h,g,d,t,os⟩:=by
 refine wpAny_call (codeAny_call_builtin F.init.plain F.initEntry (wpAny_check_init_subT F T hC he rfl ?_))
 wp_walk using AutoSeq1.wpAny_loadPart' he
 refine hq _ (fun b o hb z=>?_) ⟨h.objs.size,sl,?_⟩
 ·rw[XO _ _ (Ne.symm hb)]
  exact Xi _ z
 ·rw[X8 _ (Xi _ he) rfl]
  rfl
end
structure JM (K:W.Frag)(Y C f:Addr):Prop where
 ga:W.specialIn K (.ref Y) "__getattribute__"=some (some (.builtin "type.__getattribute__"))
 rd:W.readsIn K Y (.type "type")=true
 ini:W.findCls K (.ref Y) (.type "type") "__init__"=some (.val (.builtin "ValueError.__init__"))
 cls:∀h:Heap,K.In h->∃(bmB bm:Qe) (nm q:Str) (N:Addr) (bs:Qe) (hdct:Bool) (sn:Qh) (sub:Qe) (ab:Bool) (col:Option Bool) (dd:Qj) (k0 k1 k2 k3 k5:Qf),
  ExcBaseFacts "ValueError" "ValueError.__new__" "ValueError.__init__" bmB/\OwnTail h bmB bm/\h.get? C=some (excClassObj nm q C N bs bm hdct sn sub ab col dd k0 k1 k2 k3 k5 "ValueError.__new__") /\
  ∃(mN:Str->Qf) (fo:Obj),h.Ns N mN/\mN "__init__"=some (.ref f)/\h.get? f=some fo/\fo.cls=.type "function"
def tXI (C:Addr)(i:Nat):TE:=fun σ H Q=>∃e dct,σ[i]?=some (some (.ref e))/\H e=some (.ext (phX C e dct))/\Q .non H
def CW {X:Cx}{Y C f:Addr}(c:JM X.K Y C f){x y:Str}{i:Nat}{p0 p1 p2 p3 p4:Pos}{txt:Str}{kd:Nat}(hg:Gl X x)(hm:X.mg x=some (.ref Y))(hN:X.N[i]?=some y)(hv:Vis X.env.scope y)
 (hdb:(x==("__debug__" : Str))=false:=by decide) (hd:(y==("__debug__" : Str))=false:=by decide) (hcd:(y==("__classdict__" : Str))=false:=by decide) {pl:Sem Bool}
 (ht:eval (.Call (.Attribute (.Name x p0) "__init__" p1) [.Name y p2,.Constant (.str txt) kd p3] [] p4) X.env=(do
  let ov <- eval (.Name x p0) X.env
  standAt p1.atName
  let (f,first) <- holding [ov] (getMethod ov "__init__" pl)
  callWith p4 f first (backTo p4 (starEach [.Name y p2,.Constant (.str txt) kd p3] X.env)) (backToKw p4 (keywordEach [] X.env))):=by rfl) :
 PE X (.Call (.Attribute (.Name x p0) "__init__" p1) [.Name y p2,.Constant (.str txt) kd p3] [] p4) (tXI C i):=by
 intro XaR s σ H Q I h;obtain⟨e,dct,e1,e2,q⟩:=h;refine W.methodCall_KW (pl:=pl) (Jp I hg hm ?_ hdb) ht;refine W.method_cls I.kIn c.ga (W.cls_value I.kIn c.rd c.ini (by decide +kernel) ?_);have I1:=I.tok (s.toks+1);have args:PA X [.Name y p2,.Constant (.str txt) kd p3] (QF (Q8 i) (QF (tC (.str txt)) QO)):=Qo (Nv hN hv hd hcd) (Qo VG Qs);refine PyProof.Rows.callWith_builtin1 (Q2 (args p4 XaR _ σ H (fun vs H1=>vs=[.ref e,.str txt]/\H1=H) I1 ⟨_,e1,rfl,rfl⟩) fun us s1 ⟨vs,H1,I2,r,ev,eH⟩=>?_) rfl rfl;subst ev eH;cases r with
 |cons r1 r =>
 cases r with
 |cons r2 r =>
 cases r
 cases r1
 obtain⟨tk,rfl⟩:=r2;have hx:=I2.hok e _ e2;obtain⟨⟨ta,sl,he⟩,_,_⟩:=hx;obtain⟨bmB,bm,nm,qn,N,bs,hdct,sn,sub,ab,col,dd,k0,k1,k2,k3,k5,F,T,hC,_⟩:=c.cls _ I2.kIn;refine Tq F T hC he fun h' kp px=>?_;have mu:Mut (H1 e):=by rw[e2];trivial
 have W:=I2.write (h':=h') (t':=s1.toks) (o:=.ext (phX C e dct)) mu Qa kp (by obtain⟨_,_,z⟩:=px;exact⟨_,z⟩) (MM px)
 have eu:upd H1 e (.ext (phX C e dct))=H1:=by
  funext b
  by_cases hb:b=e
  ·subst hb;simp[upd,e2]
  ·simp[upd,hb]
 rw[eu]at W;exact⟨.non,H1,W,rfl,q⟩
def Wm:Qe->Bool
 |.ref _::r=>Wm r
 |l=>l==[.type "ValueError",.type "Exception",.type "BaseException",.type "object"]
theorem Sn (self:Value):∀{l:Qe},Wm l=true->refuseLoop self "__setattr__" l=pure ()
 |.ref c::r,e=>by rw[refuseLoop_ref];exact Sn self (by simpa [Wm] using e)
 |[],e=>by cases e
 |.type n::r,e=>by rw[show(Value.type n::r)=_ from beq_iff_eq.mp e];exact PySem.F.store_ValueError.passes self
theorem KU:∀{l:Qe},Wm l=true->l.contains (.type "object")=true
 |.ref c::r,e=>by rw[List.contains_cons,KU (l:=r) (by simpa [Wm] using e),Bool.or_true]
 |[],e=>by cases e
 |.type n::r,e=>by rw[show(Value.type n::r)=_ from beq_iff_eq.mp e];decide
section
open PySem.W
variable {prog:Program}{w:World}{A:Around}{R:Result->Shared->Prop}{K:Frag}{s:Shared}{x C:Addr}
def Pr {ox:Obj}{od:Option Obj}{name:Str}{tk:Tok}{v:Value}{r:Qf}(X:K.In s.heap)(I:W.InstAt s.heap x ox C od)(hp:((clsIn K C).any fun cd=>Wm cd.mro)=true)(ht:takerIn K C name=some r)
 (h:∀b,wpAny (model prog w) A.in1 (match r with|some a=>Builtin.ObjectAttr.setByDescriptor a (.ref x) v|none=>Builtin.ObjectAttr.storeInOwnDict (.ref x) (.ref C) (.str name tk) name v b)
  (fun fin s'=>match fin with|.done f=>R (.ok f) s'|.again c'=>c'.quiet=true/\codeAny (model prog w) A c' R s') (fun e s'=>R (.error e) s') s) :
 codeAny (model prog w) A (.call (.builtin "object.__setattr__") ⟨[.ref x,.str name tk,v],[]⟩) R s:=by
 have SF:=PySem.F.store_object;obtain⟨cd,hc,ho⟩:=any_some hp;have ne:cd.mro.isEmpty=false:=by cases q:cd.mro with|nil=>rw[q]at ho;cases ho|cons _ _=>rfl
 have sub:Looks (model prog w) s.heap (isInstance (.ref x) (.type "object")) true:=I.type.andThen (looks_mroIn X (by unfold mroIn;rw[hc,Option.bind_some,Xc (by rw[ne];decide),KU ho]));refine codeAny_call_builtin SF.slot.plain SF.entry (@check_slot (model prog w) _ _ s "object.__setattr__" "object" "__setattr__" (.ref x) [.str name tk,v] [] _ SF.kind SF.split sub (SF.args (.ref x) (.str name tk) v) ?_);obtain⟨attr,ha,hr⟩:=Option.bind_eq_some_iff.mp ht;have hm:Looks (model prog w) s.heap (mroOf (.ref C)) cd.mro:=(looks_clsIn X hc).andThen .now
 have L3:Looks (model prog w) s.heap (Builtin.ObjectAttr.storeTaker? attr) r:=by
  cases attr with
  |none=>cases hr;exact .now
  |some a =>
    obtain⟨b,hb,rfl⟩:=Option.map_eq_some_iff.mp hr;refine(looks_takesIn X hb).andThen ?_
    cases b<;>exact .now
 rw[osa_eq,refuse_eq];refine Xb (Xb (I.type.here (Xb (hm.here ?_))));rw[Sn _ ho];refine Xp (Xb (I.type.here (Xb ((looks_findIn X ha).here (Xb (L3.here ?_))))));exact h _
def P4 {E:Qb}{Q:Unit->Shared->Prop}{name:Str}{v:Value}{fs:Array Value}{sl:Array (Qf)}(X:K.In s.heap)
 (hs:findIn K (.ref C) "__setattr__"=some (some (.builtin "object.__setattr__"))) (hp:((clsIn K C).any fun cd=>Wm cd.mro)=true) (ht:takerIn K C name=some none) (hh:hasDictIn K C=true)
 (hx:s.heap.get? x=some { cls:=.ref C,dict:=none,data:=.fields fs,slots:=sl })
 (h:∀h' t',(∀b o,b≠x->s.heap.get? b=some o->h'.get? b=some o)->h'.get? x=some { cls:=.ref C,dict:=some s.heap.objs.size,data:=.fields fs,slots:=sl } ->
  h'.Ns1 s.heap.objs.size (fun y=>if y=name then some v else none)->Q () { s with heap:=h',toks:=t' }) :
 wpAny (model prog w) A (setAttr (.ref x) name v) Q E s:=by
 have J:W.InstAt s.heap x _ C none:=⟨hx,rfl,rfl,trivial⟩;refine W.set_plain X J hs (Pr (s:={ s with toks:=s.toks+1 }) (r:=none) X J hp ht fun b=>?_);obtain⟨cd,hc,hd'⟩:=W.any_some hh;refine Xb (Xp (Xb (Xb (wpAny_loadPart hx (Xb (W.Looks.here (s:={ s with toks:=s.toks+1 }) (W.looks_clsIn X hc) ?_))))));rw[hd'];have c9:(s.heap.push { cls:=.type "dict",data:=.dict #[] }).get? x=_:=Xi _ hx;have hxs:x≠s.heap.objs.size:=Xo (Xj hx);rw[Xc (by decide)];dsimp only;rw[Xc (by simp[typeHasDict])];refine Xb (wpAny_alloc' ?_);refine Xb (wpAny_update' c9 ?_);refine Xp ?_
 have hgd:((s.heap.push { cls:=.type "dict",data:=.dict #[] }).update x fun o=>{ cls:=o.cls,dict:=some s.heap.objs.size,data:=o.data,slots:=o.slots }).get? s.heap.objs.size
  = some { cls:=.type "dict",data:=.dict #[] } :=
  (Heap.get?_update_ne _ _ _ _ hxs.symm).trans (Heap.get?_push_at rfl rfl)
 have hnd:((s.heap.push { cls:=.type "dict",data:=.dict #[] }).update x fun o=>{ cls:=o.cls,dict:=some s.heap.objs.size,data:=o.data,slots:=o.slots }).Ns s.heap.objs.size (fun _=>none) :=
  ⟨_,#[],_,hgd,rfl,fun e he=>Xk he (by simp),fun _=>rfl⟩
 show wpAny _ _ (Builtin.ObjectAttr.storeInDict s.heap.objs.size (.str name s.toks) name v) _ _ _;unfold Builtin.ObjectAttr.storeInDict Builtin.ObjectAttr.newKeyGuard;refine Xb (Xp (Xb (wpAny_nsSet1 (Heap.Ns1.of_empty hnd) fun h' hn' hs=>?_)));obtain⟨oD,esD,epD,hoD,hdD,hcD⟩:=hn'.count (Within.cons name v Within.nil);refine Xb (wpAny_lookBehind hoD (by rw[hdD];exact pastItsLine_dict (XZ hcD (by rw[XJ,List.length_nil,sizeLine_eq];omega))) ?_);refine Xp (h _ _ (fun b ob hbx hb=>?_) ?_ hn')
 ·exact(hs.2 b (Xo (Xj hb))).trans ((Heap.get?_update_ne _ _ _ _ hbx).trans (Xi _ hb))
 ·exact(hs.2 x hxs).trans (X8 _ c9 rfl)
end
structure Pb (K:W.Frag)(C:Addr):Prop where
 sa:W.findIn K (.ref C) "__setattr__"=some (some (.builtin "object.__setattr__"))
 ov:((W.clsIn K C).any fun cd=>Wm cd.mro)=true
 hd:W.hasDictIn K C=true
def sXF (C:Addr)(ta tv:TE)(f:Str):TS:=fun D σ H=>tv σ H fun y H1=>ta σ H1 fun x H2=>∃e,x=.ref e/\H2 e=some (.ext (phX C e none)) /\
 ∀dx,H2 dx=none->dx≠e->D.nx σ (upd (upd H2 e (.ext (phX C e (some dx)))) dx (.xd [(f,y)]))
section
variable {X:Cx}{o value:Expr}{f:Str}{pos pos':Pos}{ta tv:TE}{C:Addr}
def LQ (c:Pb X.K C)(ht:W.takerIn X.K C f=some none)(ha:PE X o ta)(hv:PE X value tv)(hs:swapsWith value (some (.Attribute o f pos')) pos.line X.env=pure false):PS X (.Assign [.Attribute o f pos'] value pos) (sXF C ta tv f):=by
 intro XaR s σ H D I h;refine plainObj_wpAny_Assign_Attribute (Q2 (hv XaR s σ H _ I h) fun u s1 ⟨y,H1,I1,ry,q⟩=>Q2 (ha XaR s1 σ H1 _ I1 q) fun ov s2 ⟨x,H2,I2,rx,e,ex,ea,q2⟩=>?_) hs;subst ex;obtain rfl:ov=Value.ref e:=rx;obtain⟨⟨ta,sl,he⟩,_,_⟩:=I2.hok e _ ea;refine P4 I2.kIn c.sa c.ov ht c.hd he fun h' t' kp hx hn=>?_;have mu:Mut (H2 e):=by rw[ea];trivial
 have W:=I2.write (h':=h') (t':=t') (o:=.ext (phX C e (some s2.heap.objs.size))) mu Qa kp ⟨_,hx⟩ (MM ⟨ta,sl,hx⟩);have hne:s2.heap.objs.size≠e:=(Xo (Xj he)).symm;have hfr:H2 s2.heap.objs.size=none:=I2.fresh;refine⟨σ,_,W.track (a:=s2.heap.objs.size) (o:=.xd [(f,y)]) (by rw[Qr hne];exact hfr) I2.sz (XU I2.lt) (fun z c hc hz=>?_) (fun p hp hz=>?_) ⟨_,hn,fun g=>?_⟩,q2 _ hfr hne⟩
 ·obtain⟨v,hv⟩:=I2.cell z c hc
  subst hz;obtain⟨oc,hc2,_⟩:=hv;exact Xk (Xj hc2) (XW _)
 ·have:=(I2.pin p hp).1
  rw[hz]at this;exact Xk (Xj this) (XW _)
 ·show ZE (List.lookup g [(f,y)]) (if g=f then some u else none)
  by_cases hg:g=f
  ·subst hg;simp[List.lookup];exact ry
  ·rw[Xc hg]
   have:(g==f)=false:=by simpa using hg
   simp[List.lookup,this]
   trivial
end
def Ma (C:Addr)(sp:Sp)(E:XK)(t:TA):TE:=fun σ H Q=>t σ H fun vs H1=>vs.length<=1000/\∀x,H1 x=none ->
 sp (.ref x::vs) (upd H1 x (.ext (phX C x none))) (fun v H2=>v=.non/\Q (.ref x) H2) E
section
variable {X:Cx}{CX:CXT}{k:Nat}{f C Y:Addr}{fd:FuncData}{ps:Qh}{sp:Sp}{E:XK}{x:Str}{p pos:Pos}{e:Expr}{es:Qi}{t:TA}
def A4 {XaR:Qc}{σ:St}{H:Hp}{s:Shared}{Q:VK}{us:Qe}{vs:List V}(c:JM X.K Y C f)(F:FnOk X.prog X.w X.K X.mg X.base CX k f fd ps sp)(hr:Room (k+1) X.A)(hb:Vd X.K fd ps [])
 (hx:VU CX X E) (I:Qq X XaR σ H s) (r:QS vs us) (hl:vs.length<=1000)
 (h:∀x,H x=none->sp (.ref x::vs) (upd H x (.ext (phX C x none))) (fun v H2=>v=.non/\Q (.ref x) H2) E) :
 wpAny (model X.prog X.w) X.A (call (.ref C) us) (EP X XaR σ Q) X.xe s:=by
 obtain⟨bmB,bm,nm,qn,N,bs,hdct,sn,sub,ab,col,dd,k0,k1,k2,k3,k5,FB,T,hC,mN,fo,hN,hi,hf,hfc⟩:=c.cls _ I.kIn;have hq:=h (s.heap.objs.size+1) (I.hok.fresh (Nat.le_succ _));obtain⟨hp,g,d,tk,os⟩:=s;have kp:∀b o,hp.get? b=some o->(Yk hp C us).get? b=some o:=fun b o e=>Xi _ (Xi _ e)
 have me:(Yk hp C us).get? (hp.objs.size+1)=some (MP C hp.objs.size):=by
  unfold Yk;exact Heap.get?_push_at (by rw[YZ]) rfl
 have I2:Qq X XaR σ (upd H (hp.objs.size+1) (.ext (phX C (hp.objs.size+1) none))) ⟨Yk hp C us,g,d,tk,os⟩:=I.laid (t':=tk) kp (Nat.le_succ _) (MM ⟨_,_,me⟩);have r2:QS (V.ref (hp.objs.size+1)::vs) (Value.ref (hp.objs.size+1)::us):=.cons rfl r
 have hl2:(Value.ref (hp.objs.size+1)::us++[]).length=ps.length:=by
  have e:=r2.length;rw[F.len _ _ _ _ hq]at e;simpa using e.symm
 refine PX FB T hC hN hi hf hfc (by rw[<- r.length,sizeLine_eq];omega) ?_;have run:=F.run _ X.stack _ _ ⟨Value.ref (hp.objs.size+1)::us,[]⟩ (Value.ref (hp.objs.size+1)::us) _ _ E (hr.make C us []) (I2.env0.make C us []) (by simpa using hb _ (Value.ref (hp.objs.size+1)::us) I2.kIn hl2) r2 hq;refine wpAny_call (codeAny_mono run fun r s' hq'=>?_)
 cases r with
 |error e=>exact hx XaR σ _ _ e s' I2 hq'
 |ok fl =>
   cases fl with
   |ret u =>
     obtain⟨v,H',I3,rv,ev,q3⟩:=I2.after hq';subst ev;exact⟨rv,⟨V.ref (hp.objs.size+1),H',I3,rfl,q3⟩⟩
   |next=>exact False.elim hq'
   |brk=>exact False.elim hq'
   |cont=>exact False.elim hq'
def FN (c:JM X.K Y C f)(kp:W.keepIn X.K (.ref C)=true)(F:FnOk X.prog X.w X.K X.mg X.base CX k f fd ps sp)(hr:Room (k+1) X.A)(hg:Gl X x)(hm:X.mg x=some (.ref C))(hb:Vd X.K fd ps [])(hx:VU CX X E)
 (ha:PA X (e::es) t) (hdb:(x==("__debug__" : Str))=false:=by decide) (he:starEach (e::es) X.env=(false,eval e X.env)::starEach es X.env:=by rfl) (hpl:(backTo pos (starEach es X.env)).any (·.1)=false:=by rfl) :
 PE X (.Call (.Name x p) (e::es) [] pos) (Ma C sp E t):=by
 intro XaR s σ H Q I h;refine wpAny_Call_Name_kw (Jp I hg hm ?_ hdb);refine W.callWith_K (h₀:=X.base) I.ok.mod.kin kp (Q2 (ha pos XaR s σ H _ I h) fun us s1 ⟨vs,H1,I1,r,q⟩=>⟨I1.kIn,?_⟩) he hpl;exact A4 c F hr hb hx I1 r q.1 q.2
end
def sXR (C:Addr)(te:TE)(R:Addr->Qj->Hp->Prop):TS:=fun D σ H=>te σ H fun v H1=>∃e dct,v=.ref e/\H1 e=some (.ext (phX C e dct))/\R e dct H1
section
variable {M:Model}{A:Around}{E:Qb}{env:Env}
variable {nm q:Str}{C N:Addr}{bs bm:Qe}{hdct:Bool}{sn:Qh}{sub:Qe}{ab:Bool}{col:Option Bool}{dd:Qj}{k0 k1 k2 k3 k5:Qf}{newId:String}
def L6 {s:Shared}{x:Sem Value}{Q:Flow->Shared->Prop}(hh:A.handled=none)
 (h:wpAny M A x (fun v b7=>∃e t dct sl bm nm q N bs hdct sn sub ab col dd k0 k1 k2 k3 k5 newId,v=.ref e/\bm.contains (Value.type "BaseException")=true/\b7.heap.get? C=some (excClassObj nm q C N bs bm hdct sn sub ab col dd k0 k1 k2 k3 k5 newId) /\
  b7.heap.get? e=some { cls:=.ref C,dict:=dct,data:=.fields #[.ref t,.none,.none,.none,.bool false,.none],slots:=sl }/\E (.ref e) b7) E s) :
 wpAny M A (raiseStmt env (some x) none) Q E s:=by
 unfold raiseStmt;refine Xb (wpAny_mono h (fun v b7 b9=>?_) fun _ _ x=>x);obtain⟨e,t,dct,sl,bm,nm,q,N,bs,hdct,sn,sub,ab,col,dd,k0,k1,k2,k3,k5,newId,rfl,hbase,hC,he,hE⟩:=b9;have hcB:(Value.ref C::bm).contains (.type "BaseException")=true:=by rw[List.contains_cons,hbase,Bool.or_true]
 obtain⟨hp,g,d,tk,os⟩:=b7
 repeat (first|with_reducible refine wpAny_loadPart_at he ?_|with_reducible refine wpAny_loadPart_at hC ?_|(with_reducible refine wpAny_isSubtype_exc hC ?_;rw[hcB])|wp_step)
 exact wpAny_raiseNew_none hh hE
end
end L2
namespace L2
open PySem
section
variable {M:Model}{A:Around}{E:Qb}{s:Shared}
structure Leaves (l:List Env)(e:Addr)(oe:Obj)(h h':Heap)(T:Addr):Prop where
 keep:∀b o,b∉l.filterMap (·.frame)->b≠e->h.get? b=some o->h'.get? b=some o
 slot:∀b o,b∈l.filterMap (·.frame)->h.get? b=some o->∃sl,h'.get? b=some { o with slots:=sl }
 new:h.objs.size<=T
 exc:h'.get? e=some (Obj.mapFields (·.setIfInBounds 1 (Value.ref T)) oe)
 tb:∃oT ts,h'.get? T=some oT/\oT.data=.fields ts/\ts[3]?=some .none
def Sk {base:Heap}{env:Env}{outer:List Env}{L e:Addr}{oe:Obj}{vs:Array Value}{head:Value}{hadNext:Bool}{Q:Unit->Shared->Prop}
 (hfr:A.frames=some (env::outer)) (hl:s.heap.FunFrames base (env::outer)) (hf:env.frame=some L)
 (he:s.heap.get? e=some oe) (hd:oe.data=.fields vs) (hsz:1<vs.size)
 (h:∀h' T,Leaves (env::outer) e oe s.heap h' T->Q () { s with heap:=h' }) :
 wpAny M A (do let a <- frameOf env;let pl <- entryPlaceOf L hadNext;let b <- EntryCells.newEntry head a .none (rawInt L) .none pl;setField (.ref e) 1 b) (fun _ s'=>wpAny M A (setFlight (.ref e) none) Q E s') E s:=by
 have hene:e∉(env::outer).filterMap (·.frame):=fun hm=>by
  obtain⟨_,o,ho,hnf⟩:=hl.mem hm;rw[he]at ho;injection ho with ho;subst ho;exact hnf vs hd
 refine Xb (wpAny_frameOf_fun hfr hl hf fun b9 c5=>?_);refine Xb (wpAny_entryPlaceOf fun pl hpl=>?_);unfold EntryCells.newEntry newFields;refine Xb (wpAny_newObj_type ?_ (hpl.sizeOk5 _ _ _ _ _));have cj:b9.get? e=some oe:=(c5.2.1 e hene).trans he;have cq:=Xi (h:=b9) { cls:=.type "traceback",dict:=none,data:=.fields ([head,.ref L,.none,rawInt L,.none]++(if pl.isEmpty then List.replicate 6 Value.none else pl)).toArray } cj;refine wpAny_setField cq hd hsz ?_;have hTe:b9.objs.size≠e:=XU (Xj cj);have cw:=Obj.data_mapFields hd (·.setIfInBounds 1 (Value.ref b9.objs.size));have cx:=X8 (Obj.mapFields (·.setIfInBounds 1 (Value.ref b9.objs.size))) cq (Obj.isFreed_of_fields cw)
 have cz:=(XO (b9.push { cls:=.type "traceback",dict:=none,data:=.fields ([head,.ref L,.none,rawInt L,.none]++(if pl.isEmpty then List.replicate 6 Value.none else pl)).toArray })
  (Obj.mapFields (·.setIfInBounds 1 (Value.ref b9.objs.size))) (Ne.symm hTe)).trans (XD b9 rfl)
 unfold setFlight;refine Xb (WS cx cw (x:=.ref b9.objs.size) (by simp[hsz]) ?_);rw[Xe (show(Value.ref b9.objs.size != Value.none)=true from by simp)];refine wpAny_setField cz rfl (by simp only[XB,Xm,XJ,List.length_nil]<;>omega) (h _ b9.objs.size ?_)
 have keep:∀b o,b≠e->b9.get? b=some o ->
  (((b9.push { cls:=.type "traceback",dict:=none,data:=.fields ([head,.ref L,.none,rawInt L,.none]++(if pl.isEmpty then List.replicate 6 Value.none else pl)).toArray }).update e (Obj.mapFields (·.setIfInBounds 1 (Value.ref b9.objs.size)))).update b9.objs.size
    (Obj.mapFields (·.setIfInBounds 3 ((none:Qj).elim Value.none fun f=>rawInt f)))).get? b=some o:=fun b o hbe hb=>by
  have hbT:b9.objs.size≠b:=XU (Xj hb);rw[XO _ _ hbT,XO _ _ (Ne.symm hbe)];exact Xi _ hb
 refine⟨fun b o hb hbe ho=>keep b o hbe ((c5.2.1 b hb).trans ho),fun b o hb ho=>?_,?_,?_,?_⟩
 ·obtain⟨sl,hs⟩:=c5.2.2 b o ho
  exact⟨sl,keep b _ (fun q=>hene (q▸hb)) hs⟩
 ·exact Nat.le_of_eq c5.1.symm
 ·rw[XO _ _ hTe];exact cx
 ·exact⟨_,_,X8 _ cz (Obj.isFreed_of_fields (Obj.data_mapFields rfl _)),Obj.data_mapFields rfl _,by first|(simp;done)|(rcases hpl with rfl|⟨_,_,_,_,_,_,_,rfl⟩<;>simp)⟩
def EI {base:Heap}{env:Env}{outer:List Env}{L e:Addr}{oe:Obj}{vs:Array Value}{Q:Unit->Shared->Prop}
 (hfr:A.frames=some (env::outer)) (hl:s.heap.FunFrames base (env::outer)) (hf:env.frame=some L)
 (he:s.heap.get? e=some oe) (hd:oe.data=.fields vs) (h1:vs[1]?=some .none)
 (h:∀h' T,Leaves (env::outer) e oe s.heap h' T->Q () { s with heap:=h' }):wpAny M A (leaving env (.ref e)) Q E s:=by
 unfold leaving noteFrame;simp only[hf];refine Xb (Xb (WS he hd h1 ?_));rw[Xc (by decide)];exact Sk hfr hl hf he hd (Array.getElem?_eq_some_iff.mp h1).1 h
def SU {base:Heap}{env:Env}{outer:List Env}{L e T0:Addr}{oe oT:Obj}{vs ts:Array Value}{Q:Unit->Shared->Prop}
 (hfr:A.frames=some (env::outer)) (hl:s.heap.FunFrames base (env::outer)) (hf:env.frame=some L)
 (he:s.heap.get? e=some oe) (hd:oe.data=.fields vs) (h1:vs[1]?=some (.ref T0)) (hTe:T0≠e) (hT:s.heap.get? T0=some oT) (hdT:oT.data=.fields ts) (h3:ts[3]?=some .none)
 (h:∀h' T,Leaves (env::outer) e oe s.heap h' T->Q () { s with heap:=h' }):wpAny M A (noteFrame (.ref e) env) (fun _ s'=>wpAny M A (setFlight (.ref e) none) Q E s') E s:=by
 unfold noteFrame;simp only[hf];refine Xb (WS he hd h1 ?_);rw[Xe (show(Value.ref T0 != Value.none)=true from by simp)];refine Xb (WS hT hdT h3 ?_);rw[Xc (show ¬((Value.none==rawInt L)=true) from by simp[rawInt])];refine Xb (wpAny_setField hT hdT (Array.getElem?_eq_some_iff.mp h3).1 ?_);have hsz3:3<ts.size:=(Array.getElem?_eq_some_iff.mp h3).1
 have same:Obj.mapFields (·.setIfInBounds 3 Value.none) oT=oT:=by
  obtain⟨c,d,dt,sl⟩:=oT
  subst hdT;have:ts.setIfInBounds 3 Value.none=ts:=by
   apply Array.ext_getElem?
   intro i;rw[Array.getElem?_setIfInBounds];by_cases hi:3=i
   ·subst hi;rw[Xe rfl,Xe hsz3,h3]
   ·rw[Xc hi]
  unfold Obj.mapFields;simp[this]
 have all:∀b o,s.heap.get? b=some o->(s.heap.update T0 (Obj.mapFields (·.setIfInBounds 3 Value.none))).get? b=some o:=fun b o hb=>by
  by_cases q:b=T0
  ·subst q
   rw[hT]at hb;cases hb;rw[X8 _ hT (Obj.isFreed_of_fields (Obj.data_mapFields hdT _)),same]
  ·rw[XO _ _ (Ne.symm q)];exact hb
 refine Sk (s:={ s with heap:=_ }) hfr (hl.of_keeps fun b o hb hnf=>⟨o,all b o hb,rfl⟩) hf (all e _ he) hd (Array.getElem?_eq_some_iff.mp h1).1 fun h' T Z=>h h' T ?_
 exact⟨fun b o x1 x2 x3=>Z.keep b o x1 x2 (all b o x3),fun b o x1 x2=>Z.slot b o x1 (all b o x2),by have:=Z.new;simpa only [Heap.size_update] using this,Z.exc,Z.tb⟩
def En {base:Heap}{env:Env}{outer:List Env}{L e T0:Addr}{oe oT:Obj}{vs ts:Array Value}{Q:Unit->Shared->Prop}
 (hfr:A.frames=some (env::outer)) (hl:s.heap.FunFrames base (env::outer)) (hf:env.frame=some L)
 (he:s.heap.get? e=some oe) (hd:oe.data=.fields vs) (h1:vs[1]?=some (.ref T0)) (hTe:T0≠e) (hT:s.heap.get? T0=some oT) (hdT:oT.data=.fields ts) (h3:ts[3]?=some .none)
 (h:∀h' T,Leaves (env::outer) e oe s.heap h' T->Q () { s with heap:=h' }):wpAny M A (leaving env (.ref e)) Q E s:=Xb (SU hfr hl hf he hd h1 hTe hT hdT h3 h)
end
end L2
namespace L2
open PySem PySem.Spec PyProof.Rows
def phT (T:Addr):Heap->Prop:=fun h=>∃oT ts,h.get? T=some oT/\oT.data=.fields ts/\ts[3]?=some .none
def phF (C e:Addr)(dct:Qj)(T:Addr):Heap->Prop:=fun h=>∃(vs:Array Value) (sl:Array (Qf)),h.get? e=some { cls:=.ref C,dict:=dct,data:=.fields vs,slots:=sl }/\vs[1]?=some (.ref T)/\vs[2]?=some .none
def Li {P:Program}{w:World}{H:Hp}{h:Heap}{T:Addr}(p:phT T h):Z0 P w H h T (.ext (phT T)):=⟨p,by obtain⟨o,_,q,_⟩:=p;exact⟨_,q⟩,fun h1 h2 p1 k=>by obtain⟨o,ts,q,r⟩:=p1;exact⟨o,ts,k _ q,r⟩⟩
def Tr {P:Program}{w:World}{H:Hp}{h:Heap}{C e T:Addr}{dct:Qj}(p:phF C e dct T h):Z0 P w H h e (.ext (phF C e dct T)):=⟨p,by obtain⟨o,_,q,_⟩:=p;exact⟨_,q⟩,fun h1 h2 p1 k=>by obtain⟨o,ts,q,r⟩:=p1;exact⟨o,ts,k _ q,r⟩⟩
abbrev left (C e:Addr)(dct:Qj)(T:Addr)(H:Hp):Hp:=upd (upd H e (.ext (phF C e dct T))) T (.ext (phT T))
section
variable {X:Cx}{XaR:Qc}{σ:St}{H:Hp}{s:Shared}
def DN {C e T:Addr}{dct:Qj}{vs:Array Value}{sl:Array (Qf)}{h':Heap}(I:Qq X XaR σ H s)(mu:Mut (H e))
 (he:s.heap.get? e=some { cls:=.ref C,dict:=dct,data:=.fields vs,slots:=sl }) (hsz:1<vs.size) (hc2:vs[2]?=some .none)
 (Z:Leaves X.stack e { cls:=.ref C,dict:=dct,data:=.fields vs,slots:=sl } s.heap h' T):Qq X XaR σ (left C e dct T H) { s with heap:=h' }:=by
 have hTe:T≠e:=XU (Xs (Xj he) Z.new);have hnone:∀b,H b=none->b≠e:=fun b hb q=>by subst q;rw[hb]at mu;exact mu
 have hlt:∀b o,H b=some o->b≠T:=fun b o hb=>Xo (Xs (I.hok.lt hb) Z.new)
 have hne:∀b o,H b=some o->b≠e->left C e dct T H b=some o:=fun b o hb q=>by
  unfold left;rw[Qr (hlt b o hb),Qr q];exact hb
 have nfr:∀b o,H b=some o->b∉frs X.stack:=fun b o hb q=>by rw[I.stkFree b q]at hb;cases hb
 have nmu:∀b o,H b=some o->¬Mut (some o)->b≠e:=fun b o hb n q=>by subst q;rw[hb]at mu;exact n mu
 have U:Un (frs X.stack) [] H (left C e dct T H) s.heap h' :=
  { keep:=fun b o ho hb hf _=>Z.keep b o hf (hnone b hb) ho
    slot:=fun b o ho hb hf _=>Z.slot b o hf ho
    free:=fun b o ho hb _=>by
     unfold left;rw[Qr (Xo (Xs (Xj ho) Z.new)),Qr (hnone b hb)];exact hb
    there:=fun b o ho _=>by
     by_cases hf:b∈frs X.stack
     ·obtain⟨sl,z⟩:=Z.slot b o hf ho;exact⟨_,z⟩
     ·by_cases q:b=e
      ·subst q;exact⟨_,Z.exc⟩
      ·exact⟨_,Z.keep b o hf q ho⟩
    tups:=fun b xs hb=>hne b _ hb (nmu b _ hb (fun z=>z))
    frzs:=fun b o u hb=>hne b _ hb (nmu b _ hb (fun z=>z))
    tupo:=fun b xs o hb ho _=>Z.keep b o (nfr b _ hb) (nmu b _ hb (fun z=>z)) ho
    tbls:=fun b ps hb=>⟨#[],by rw[hne b _ hb (nmu b _ hb (fun z=>z))];simp⟩ }
 have hok:HOk X.prog X.w (left C e dct T H) h':=fun b u hb=>by
  by_cases q:b=T
  ·subst q
   unfold left at hb;rw[QA]at hb;cases hb;exact Li Z.tb
  ·by_cases q2:b=e
   ·subst q2
    unfold left at hb;rw[Qr q,QA]at hb;cases hb;exact Tr ⟨_,_,Z.exc,by simp[hsz],by rw[Array.getElem?_setIfInBounds_ne (by decide)];exact hc2⟩
   ·have hb':H b=some u:=by unfold left at hb;rw[Qr q,Qr q2]at hb;exact hb
    refine(I.hok b u hb').stay (fun c v hc hv=>?_) (fun c hc=>?_) fun c xs hc=>?_
    ·rcases hc with z|z
     ·subst z;exact Z.keep c v (nfr c _ hb') q2 hv
     ·exact Z.keep c v (nfr c _ z) (nmu c _ z (fun z=>z)) hv
    ·exact hne c _ hc (nmu c _ hc (fun z=>z))
    ·exact hne c _ hc (nmu c _ hc (fun z=>z))
 obtain⟨hh,g,d,t,os⟩:=s;exact I.call (h':=h') (g':=g) (d':=d) (t':=t) (ch:=[]) U hok I.bare fun b z=>nomatch z
end
def Fly (C e:Addr)(dct:Qj)(H:Hp):Prop := ∃T,T≠e/\H e=some (.ext (phF C e dct T))/\H T=some (.ext (phT T))
def XE (C:Addr)(R:Addr->Qj->Hp->Prop):XK:=fun v dct H=>∃e,v=.ref e/\Fly C e dct H/\R e dct H
def CX1 (P:Program)(w:World):CXT:=fun outer H s E v s'=>∃dct H',s'.os=s.os/\AllBare s'.gens/\Un (frs outer) [] H H' s.heap s'.heap/\HOk P w H' s'.heap/\E v dct H'
def VE (C:Addr)(R:Addr->Qj->Hp->Prop):Prop := ∀e dct H T,R e dct H->H T=none->T≠e->R e dct (left C e dct T H)
section
variable {P:Program}{w:World}{K:W.Frag}{mg:Str->Qf}{base:Heap}{N:Qh}{qual:Str}{scope:Scope}{f:Addr}{cd:Value}{A:Around}{outer:List Env}{s0:Shared}{H0:Hp}{C:Addr}{R:Addr->Qj->Hp->Prop}
abbrev cx1 (P:Program)(w:World)(K:W.Frag)(mg:Str->Qf)(base:Heap)(N:Qh)(qual:Str)(scope:Scope)(f:Addr)(cd:Value)(A:Around)(outer:List Env)(s0:Shared)(H0:Hp)(E:XK):Cx:=Vb (CX1 P w) P w K mg base N qual scope f cd A outer s0 H0 E
variable {XaR:Qc}{σ:St}{H:Hp}{s:Shared}
def FX {e T:Addr}{dct:Qj}(h:T≠e):Fly C e dct (left C e dct T H):=⟨T,h,by unfold left;rw[Qr (Ne.symm h),QA],by unfold left;rw[QA]⟩
def KN {e:Addr}{dct:Qj}{h':Heap}{T:Addr}(hR:VE C R)(I:Qq (cx1 P w K mg base N qual scope f cd A outer s0 H0 (XE C R)) XaR σ (left C e dct T H) { s with heap:=h' })(hT:H T=none)(hTe:T≠e)(r:R e dct H) :
 CX1 P w outer H0 s0 (XE C R) (.ref e) { s with heap:=h' }:=⟨dct,_,I.os,I.bare,I.base,I.hok,e,rfl,FX hTe,hR e dct H T r hT hTe⟩
def Fu {e:Addr}{dct:Qj}(hR:VE C R)(I:Qq (cx1 P w K mg base N qual scope f cd A outer s0 H0 (XE C R)) XaR σ H s)(he:H e=some (.ext (phX C e dct)))(r:R e dct H) :
 (cx1 P w K mg base N qual scope f cd A outer s0 H0 (XE C R)).xe (.ref e) s:=by
 obtain⟨⟨t,sl,hx⟩,_,_⟩:=I.hok e _ he;refine EI I.ok.frames I.stack rfl hx rfl rfl fun h' T Z=>?_;exact KN hR (DN I (by rw[he];trivial) hx (by simp) rfl Z) (I.hok.fresh Z.new) (XU (Xs (Xj hx) Z.new)) r
def Km (hR:VE C R):VU (CX1 P w) (cx1 P w K mg base N qual scope f cd A outer s0 H0 (XE C R)) (XE C R):=by
 intro XaR σ H s v s' I h;obtain⟨dct,H',os,bare,un,hok,e,rfl,⟨T0,hT0,he,hT⟩,r⟩:=h;obtain⟨hh,g,d,t,os'⟩:=s';obtain rfl:os'=s.os:=os;have I2:=I.call (h':=hh) (g':=g) (d':=d) (t':=t) (ch:=[]) un hok bare (fun b z=>nomatch z);obtain⟨⟨vs,sl,hx,h1,h2c⟩,_,_⟩:=I2.hok e _ he;obtain⟨⟨oT,ts,hx2,h2,h3⟩,_,_⟩:=I2.hok T0 _ hT;refine En I2.ok.frames I2.stack rfl hx rfl h1 hT0 hx2 h2 h3 fun h' T Z=>?_;exact KN hR (DN I2 (by rw[he];trivial) hx (Array.getElem?_eq_some_iff.mp h1).1 h2c Z) (I2.hok.fresh Z.new) (XU (Xs (Xj hx) Z.new)) r
end
section
variable {X:Cx}{C Y f:Addr}{e:Expr}{te:TE}{pos:Pos}{R:Addr->Qj->Hp->Prop}
def FR (c:JM X.K Y C f)(calm:X.calm=true)(hv:PE X e te)(hx:∀XaR σ H s a dct,Qq X XaR σ H s->H a=some (.ext (phX C a dct))->R a dct H->X.xe (.ref a) s):PS X (.Raise (some e) none pos) (sXR C te R):=by
 intro XaR s σ H D I h;rw[arm_exec_Raise];simp only[evalOpt,Option.map];refine Xb (wpAny_standAt (L6 (C:=C) (I.ok.hd calm) (Xb (Q2 (hv XaR s σ H _ I h) fun u s1 ⟨v,H1,I1,r,a,dct,ev,ea,q⟩=>Xb (wpAny_standAt (Xp ?_))))));subst ev;obtain rfl:u=Value.ref a:=r;obtain⟨⟨t,sl,hx1⟩,_,_⟩:=I1.hok a _ ea;obtain⟨bmB,bm,nm,qn,N,bs,hdct,sn,sub,ab,col,dd,k0,k1,k2,k3,k5,FB,T,hC,_⟩:=c.cls _ I1.kIn
 exact⟨a,t,dct,sl,bm,nm,qn,N,bs,hdct,sn,sub,ab,col,dd,k0,k1,k2,k3,k5,_,rfl,T.hasType FB.hasBase,hC,hx1,hx _ _ _ _ _ _ I1 ea q⟩
end
inductive Lefts (C e:Addr)(dct:Qj):Hp->Hp->Prop
 |nil {H}:Lefts C e dct H H
 |step {H H' T}:Lefts C e dct H H'->H' T=none->T≠e->Lefts C e dct H (left C e dct T H')
def Lefts.head {C e:Addr}{dct:Qj}{H H':Hp}{T:Addr}(hT:H T=none)(he:T≠e)(h:Lefts C e dct (left C e dct T H) H'):Lefts C e dct H H':=by
 induction h with
 |nil=>exact .step .nil hT he
 |step _ a b ih=>exact .step ih a b
abbrev WC (X:Cx)(e:Addr)(pn:Qc):Cx:={ X with pn:=pn,A:=X.A.mark (some (.ref e)),calm:=false,xe:=fun _ _=>False }
section
variable {X:Cx}{XaR:Qc}{σ:St}{H:Hp}{s:Shared}{C:Addr}{th:TS}{D:Ends}
def Qq.toPn (I:Qq X XaR σ H s):Qq { X with pn:=X.pn++XaR } [] σ H s :=
 ⟨⟨I.ok.mod,I.ok.kind,I.ok.glob,I.ok.blt,I.ok.above,I.ok.inj,I.ok.has,I.ok.cab,I.ok.hd,I.ok.frames,I.ok.stk,I.ok.exf,I.ok.bs,I.ok.bsz,I.ok.noex,I.ok.exfs,I.ok.funs,I.ok.frf⟩,I.os,I.bare,I.base,I.loc,I.cell,I.free,I.freeC,fun p hp=>I.pin p (by simpa using hp),I.hok,I.len⟩
def Qq.ofPn {pins':Qc}(I:Qq { X with pn:=X.pn++XaR } pins' σ H s):Qq X XaR σ H s :=
 ⟨⟨I.ok.mod,I.ok.kind,I.ok.glob,I.ok.blt,I.ok.above,I.ok.inj,I.ok.has,I.ok.cab,I.ok.hd,I.ok.frames,I.ok.stk,I.ok.exf,I.ok.bs,I.ok.bsz,I.ok.noex,I.ok.exfs,I.ok.funs,I.ok.frf⟩,I.os,I.bare,I.base,I.loc,I.cell,I.free,I.freeC,fun p hp=>I.pin p (JK _ hp),I.hok,I.len⟩
def Qq.toHandler {pn:Qc}{e:Addr}(I:Qq { X with pn:=pn } XaR σ H s):Qq (WC X e pn) XaR σ H s :=
 ⟨⟨I.ok.mod,I.ok.kind,I.ok.glob,I.ok.blt,I.ok.above,I.ok.inj,I.ok.has,I.ok.cab,(fun z=>by cases z),I.ok.frames,I.ok.stk,I.ok.exf,I.ok.bs,I.ok.bsz,I.ok.noex,I.ok.exfs,I.ok.funs,I.ok.frf⟩,I.os,I.bare,I.base,I.loc,I.cell,I.free,I.freeC,I.pin,I.hok,I.len⟩
def Qq.ofHandler {pn:Qc}{e:Addr}(hc:X.Ok)(I:Qq (WC X e pn) XaR σ H s):Qq { X with pn:=pn } XaR σ H s :=
 ⟨⟨I.ok.mod,I.ok.kind,I.ok.glob,I.ok.blt,I.ok.above,I.ok.inj,I.ok.has,I.ok.cab,hc.hd,hc.frames,I.ok.stk,I.ok.exf,I.ok.bs,I.ok.bsz,I.ok.noex,I.ok.exfs,I.ok.funs,I.ok.frf⟩,I.os,I.bare,I.base,I.loc,I.cell,I.free,I.freeC,I.pin,I.hok,I.len⟩
def SP.ofPn {f:Flow}{s':Shared}{pins':Qc}{E:Qb}(h:SP { X with pn:=X.pn++XaR,xe:=E } pins' D f s'):SP X XaR D f s':=by
 have o:∀{σ' H'},Qq { X with pn:=X.pn++XaR,xe:=E } pins' σ' H' s'->Qq X XaR σ' H' s':=fun I=>Qq.ofPn (I.unwish (X:={ X with pn:=X.pn++XaR }))
 cases f with
 |next=>obtain⟨σ',H',I,q⟩:=h;exact⟨σ',H',o I,q⟩
 |brk=>obtain⟨σ',H',I,q⟩:=h;exact⟨σ',H',o I,q⟩
 |cont=>obtain⟨σ',H',I,q⟩:=h;exact⟨σ',H',o I,q⟩
 |ret u=>obtain⟨v,σ',H',I,r,q⟩:=h;exact⟨v,σ',H',o I,r,q⟩
end
def EE {M:Model}{A:Around}{E:Qb}{s:Shared}{C e T:Addr}{dct:Qj}{Q:Unit->Shared->Prop}(he:phF C e dct T s.heap)(hT:phT T s.heap)
 (h:∀h',(∀b o,s.heap.get? b=some o->h'.get? b=some o)->Q () { s with heap:=h' }):wpAny M A (setFlight (.ref e) none) Q E s:=by
 obtain⟨vs,sl,hx,h1,_⟩:=he;obtain⟨oT,ts,hx2,hdT,h3⟩:=hT;have hsz3:3<ts.size:=(Array.getElem?_eq_some_iff.mp h3).1
 have same:Obj.mapFields (·.setIfInBounds 3 Value.none) oT=oT:=by
  obtain⟨c,d,dt,sl⟩:=oT
  subst hdT;have:ts.setIfInBounds 3 Value.none=ts:=by
   apply Array.ext_getElem?
   intro i;rw[Array.getElem?_setIfInBounds];by_cases hi:3=i
   ·subst hi;rw[Xe rfl,Xe hsz3,h3]
   ·rw[Xc hi]
  unfold Obj.mapFields;simp[this]
 refine wpAny_setFlight_none hx rfl h1 hx2 hdT hsz3 (h _ fun b o hb=>?_)
 by_cases q:b=T
 ·subst q
  rw[hx2]at hb;cases hb;rw[X8 _ hx2 (Obj.isFreed_of_fields (Obj.data_mapFields hdT _)),same]
 ·rw[XO _ _ (Ne.symm q)];exact hb
def Mb (tb:Ends->TS):TS:=fun D σ H=>tb D D σ H
section
variable {X:Cx}{C Y f:Addr}{th:TS}{tb:Ends->TS}{body suite:List Stmt}{b0:Stmt}{x:Str}{np hpos pos:Pos}{rest:List ExceptHandler}
end
end L2
namespace L2
open PySem PySem.Spec PyProof.Rows PySem.W
abbrev Ka:Qe:=[.type "ValueError",.type "Exception",.type "BaseException",.type "object"]
def AF {K:Frag}{h:Heap}{N:Addr}{mg:Str->Qf}{n:Str}{v:Value}(X:K.In h)(G:h.Ns N mg)(e:nsIn K N n=some (some v)):mg n=some v:=by
 obtain⟨o,es,ep,ho,hd,_,hf⟩:=G;unfold nsIn at e;split at e
 ·rename_i c d es' n' sl q
  have:=X _ _ q
  rw[ho]at this;cases this
  cases hd
  split at e
  ·rename_i he
   cases e
   rw[<- hf];unfold nsFind findBy;rw[<- Array.find?_toList,he];rfl
  ·split at e<;>cases e
 ·cases e
def MS (K:Frag)(C f:Addr):Bool:=match K.lookup C with
 |some ⟨.type "type",_,.cls cd,sl⟩=>(match cd.mro,sl.toList with
   |.ref C'::bm,[_,_,_,_,some (.builtin n),_]=>C'==C&&n == "ValueError.__new__" && !cd.hasDel&&tailIn K Ka bm&&nsOkIn K cd.ns&&nsIn K cd.ns "__init__" == some (some (.ref f))
   |_,_=>false)
 |_=>false
theorem Tn {K:Frag} {Y C f:Addr} {fo:Obj} (q:MS K C f=true) (lf:K.lookup f=some fo) (hf:fo.cls=.type "function")
 (ga:specialIn K (.ref Y) "__getattribute__"=some (some (.builtin "type.__getattribute__"))) (rd:readsIn K Y (.type "type")=true) (ini:findCls K (.ref Y) (.type "type") "__init__"=some (.val (.builtin "ValueError.__init__"))):JM K Y C f where
 ga:=ga
 rd:=rd
 ini:=ini
 cls:=fun h X=>by
  unfold MS at q;split at q
  ·rename_i dd cd sl ho
   split at q
   ·rename_i C' bm k0 k1 k2 k3 n k5 hm hs
    simp only[U1,beq_iff_eq,Bool.not_eq_true']at q;obtain⟨⟨⟨⟨⟨rfl,rfl⟩,hdel⟩,ht⟩,hok⟩,hni⟩:=q;obtain⟨nm,bs,mro,ns,qn,hd,sn,sub,ab,col,del⟩:=cd
    dsimp only at hm hdel hok hni;subst hm hdel;have hsl:sl=#[k0,k1,k2,k3,some (.builtin "ValueError.__new__"),k5]:=by
     obtain⟨l⟩:=sl
     simp only at hs
     rw[hs]
    subst hsl;have G:h.Ns ns _:=.of_isNs (isNs_of_in X hok)
    exact⟨Ka,bm,nm,qn,ns,bs,hd,sn,sub,ab,col,dd,k0,k1,k2,k3,k5,PySem.F.excBase_ValueError,tail_of_in X ht,X _ _ ho,_,fo,G,AF X G hni,X _ _ lf,hf⟩
   ·cases q
  ·cases q
end L2
namespace L2
open PySem PySem.Spec PyProof.Rows
def UE (P:Program)(w:World)(K:W.Frag)(mg:Str->Qf)(base:Heap)(x:Str)(ps:Qh)(k:Nat)(sp:Sp):Prop :=
 ∃f fd,mg x=some (.ref f)/\W.keepIn K (.ref f)=true/\Vd K fd ps []/\FnOk P w K mg base (CX1 P w) k f fd ps sp
section
variable {P:Program}{w:World}{K:W.Frag}{mg:Str->Qf}{base:Heap}
def Fun.okX {x qual:Str}{st:Stmt}{f:Addr}{fd:FuncData}{N ps:Qh}{k:Nat}{sp:Sp}(F:Fun K x qual st f fd)(S:Qp N ps (Qx st))(len:∀vs H Q E,sp vs H Q E->vs.length=ps.length)
 (XaS:∀(cdv:Value) (A:Around) (outer:List Env) (s:Shared) (H:Hp) (vs:List V) (Q:VK) (E:XK),Room k (A.deeper (envOfC qual (Qx st) s.heap.objs.size f cdv))->sp vs H Q E ->
  ∃t,PSs (cx1 P w K mg base N qual (Qx st) f cdv A outer s H E) (Zg st) t/\t { nx:=fun _ H'=>Q .non H',rt:=Q } (start N vs) H):FnOk P w K mg base (CX1 P w) (k+1) f fd ps sp:=by
 obtain⟨oc,od,kV,doc,pm,an,cdv,ct,osl,rfl,lk,hcd⟩:=F.ex;exact Kj lk hcd S len fun A outer s H vs Q E hr hsp=>XaS cdv A outer s H vs Q E hr hsp
def Df.calX {x:Str}{st:Stmt}{N ps:Qh}{k:Nat}{sp:Sp}(D:Df K mg x st ps)(S:Qp N ps (Qx st))(len:∀vs H Q E,sp vs H Q E->vs.length=ps.length)
 (XaS:∀(f:Addr) (cdv:Value) (A:Around) (outer:List Env) (s:Shared) (H:Hp) (vs:List V) (Q:VK) (E:XK),Room k (A.deeper (envOfC x (Qx st) s.heap.objs.size f cdv))->sp vs H Q E ->
  ∃t,PSs (cx1 P w K mg base N x (Qx st) f cdv A outer s H E) (Zg st) t/\t { nx:=fun _ H'=>Q .non H',rt:=Q } (start N vs) H):UE P w K mg base x ps (k+1) sp:=by
 obtain⟨f,fd,F,hm,hb⟩:=D.ex
 exact⟨f,fd,hm,F.kp,hb,F.okX S len fun cdv A outer s H vs Q E hr h=>XaS f cdv A outer s H vs Q E hr h⟩
end
section
variable {X:Cx}
def NH {x:Str}{p pos:Pos}{e:Expr}{es:Qi}{t:TA}{ps:Qh}{j k:Nat}{sp:Sp}{E:XK}(C:UE X.prog X.w X.K X.mg X.base x ps j sp)(hr:Room k X.A)(hx:VU (CX1 X.prog X.w) X E)(ha:PA X (e::es) t)(hj:j<=k:=by walk_at"j")(hg:Gl X x:=by rfl)
 (hdb:(x==("__debug__" : Str))=false:=by decide +kernel)
 (he:starEach (e::es) X.env=(false,eval e X.env)::starEach es X.env:=by rfl) (hpl:(backTo pos (starEach es X.env)).any (·.1)=false:=by rfl):PE X (.Call (.Name x p) (e::es) [] pos) (VF sp [] E t):=by
 obtain⟨f,fd,hm,hk,hb,F⟩:=C;exact N9 F (hr.mono hj) hg hm hk hb .nil hx ha hdb he hpl
end
def Gb (K:W.Frag)(C:Addr)(f:Str):Sp:=fun vs H Q _=>∃(e p:Addr) (xs:List V),vs=[.ref e,.ref p]/\H e=some (.ext (phX C e none))/\SqL K H p xs /\
 ∀q dx,H q=none->H dx=none->dx≠q->dx≠e->q≠e->Q .non (upd (upd (upd H q (.lst xs)) e (.ext (phX C e (some dx)))) dx (.xd [(f,.ref q)]))
def CK {K:W.Frag}{C:Addr}{f:Str}{n:Nat}{vs:List V}{H:Hp}{Q:VK}{E:XK}(h:Gb K C f vs H Q E) :
 YD (Vi (tXI C 0)) (sXF C (Q8 0) (tCB (Dn K) (QF (Q8 1) QO)) f) { nx:=fun _ H'=>Q .non H',rt:=Q } (vs.map some++List.replicate n none) H:=by
 obtain⟨e,p,xs,rfl,he,hp,hq⟩:=h;refine⟨e,none,rfl,he,?_⟩;refine⟨.ref p,rfl,?_⟩;refine⟨p,xs,rfl,.inl hp,fun q hqn=>?_⟩;have hqe:q≠e:=fun z=>by subst z;rw[he]at hqn;cases hqn
 refine⟨.ref e,rfl,e,rfl,by rw[Qr (Ne.symm hqe)];exact he,fun dx hdx hde=>?_⟩;have hdq:dx≠q:=fun z=>by subst z;rw[QA]at hdx;cases hdx
 exact hq q dx hqn (by rw[Qr hdq]at hdx;exact hdx) hdq hde hqe
structure FldL (f:Str)(e:Addr)(F H H0:Hp)(ds:Qd)(dx q:Addr)(xs:List V):Prop where
 hd:H dx=some (.xd [(f,.ref q)])
 hq:H q=some (.lst xs)
 fq:F q=none
 rp:Qv F xs ds
 nd:dx≠e
 nq:q≠e
 dq:dx≠q
 fe:F e=none
 fd:F dx=none
 q0:H0 q=none
 d0:H0 dx=none
def Fld (f:Str)(e:Addr)(F H H0:Hp)(dct:Qj)(ds:Qd):Prop := ∃dx q xs,dct=some dx/\FldL f e F H H0 ds dx q xs
def Fld.back {f:Str}{e:Addr}{F H H0 H1:Hp}{dct:Qj}{ds:Qd}(h:Fld f e F H H1 dct ds)(s:Q4 H0 H1):Fld f e F H H0 dct ds:=by
 obtain⟨dx,q,xs,a,b⟩:=h
 exact⟨dx,q,xs,a,b.hd,b.hq,b.fq,b.rp,b.nd,b.nq,b.dq,b.fe,b.fd,s.free b.q0,s.free b.d0⟩
def spX (K:W.Frag)(C:Addr)(f:Str)(R:List OT->(OT->Prop)->Prop)(Rx:List OT->(Qd->Prop)->Prop):Sp:=fun vs H Q E=>∃F ts,KTs K F/\Q4 F H/\Args K F vs ts/\∃RR,E=XE C RR/\VE C RR /\
 ((∃Φ,R ts Φ/\∀F' H' v p r,Φ r->Q0 F H F' H'->(∀a∈p,H a=none)->Zm K F' H' v r p->Q v H')\/(∃Φx,Rx ts Φx/\∀F' H' e dct d,Φx d->Q0 F H F' H'->H e=none->Fld f e F' H' H dct d->RR e dct H'))
def EvZ (K:W.Frag)(F0 H0:Hp)(t:TS)(ρ:Q6):Prop := ∀(F:Hp) (σ:St) (H:Hp) (E:Ends),Q0 F0 H0 F H->QB K H0 F ρ σ H->t E σ H
section
variable {P:Program}{w:World}{K:W.Frag}{mg:Str->Qf}{base:Heap}
def BA {N ps:Qh}{vs:List V}{ts:List OT}{F H:Hp}(kt:KTs K F)(sm:Q4 F H)(ha:Args K F vs ts)(hl:ts.length<=N.length):QB K H F (ts.map some++List.replicate (N.length-ts.length) none) (start N vs) H:=by
 refine⟨kt,sm,?_,fun _=>[],fun i t' e=>?_,fun i j a h=>(nomatch h),fun i a h=>(nomatch h)⟩
 ·unfold start
  simp[ha.length]
 ·have hlt:i<ts.length:=by
   by_cases z:i<ts.length
   ·exact z
   ·rw[XY (by simpa using z)]at e
    have:=List.mem_of_getElem? e
    simp at this
  rw[XM (by simpa using hlt),Xt]at e;have e':ts[i]?=some t':=by
   cases z:ts[i]? with
   |none=>rw[z]at e;simp at e
   |some w=>rw[z]at e;simp at e;rw[e]
  obtain⟨v,e1,e2⟩:=ha.get (H:=H) i t' e';refine⟨v,?_,e2⟩;unfold start;have hl2:i<vs.length:=by rw[ha.length];exact hlt
  rw[XM (by simpa using hl2),Xt,e1];rfl
def Df.evZ {x:Str}{st:Stmt}{N ps:Qh}{k:Nat}{C:Addr}{fl:Str}{R:List OT->(OT->Prop)->Prop}{Rx:List OT->(Qd->Prop)->Prop}(D:Df K mg x st ps)(S:Qp N ps (Qx st))(len:∀ts Φ,R ts Φ->ts.length=ps.length)(lenx:∀ts Φ,Rx ts Φ->ts.length=ps.length)
 (hpn:ps.length<=N.length)
 (hret:∀(f:Addr) (cdv:Value) (A:Around) (outer:List Env) (s:Shared) (H:Hp) RR (ts:List OT) (Φ:OT->Prop),Room k (A.deeper (envOfC x (Qx st) s.heap.objs.size f cdv))->VE C RR->R ts Φ ->
  ∃t,PSs (cx1 P w K mg base N x (Qx st) f cdv A outer s H (XE C RR)) (Zg st) t/\Q1 K t (ts.map some++List.replicate (N.length-ts.length) none) { nx:=fun _=>Φ (.fz .none),rt:=Φ })
 (hexc:∀(f:Addr) (cdv:Value) (A:Around) (outer:List Env) (s:Shared) (F H:Hp) RR (ts:List OT) (Φx:Qd->Prop),Room k (A.deeper (envOfC x (Qx st) s.heap.objs.size f cdv))->VE C RR->(∀F' H' e dct d,Φx d->Q0 F H F' H'->H e=none->Fld fl e F' H' H dct d->RR e dct H')->Rx ts Φx ->
  ∃t,PSs (cx1 P w K mg base N x (Qx st) f cdv A outer s H (XE C RR)) (Zg st) t/\EvZ K F H t (ts.map some++List.replicate (N.length-ts.length) none)) :
 UE P w K mg base x ps (k+1) (spX K C fl R Rx):=by
 refine D.calX S (fun vs H Q E ⟨F,ts,_,_,ha,RR,_,_,q⟩=>?_) fun f cdv A outer s H vs Q E hr ⟨F,ts,kt,sm,ha,RR,eE,st,q⟩=>?_
 ·rcases q with ⟨r,hR,_⟩|⟨r,hR,_⟩
  ·exact ha.length.trans (len ts r hR)
  ·exact ha.length.trans (lenx ts r hR)
 ·subst eE
  rcases q with ⟨Φ,hR,q⟩|⟨Φx,hR,q⟩
  ·obtain⟨t,h1,h2⟩:=hret f cdv A outer s H RR ts Φ hr st hR
   refine⟨t,h1,h2 F H F (start N vs) H _ (Q0.refl sm) (BA (ps:=ps) kt sm ha (by rw[len ts Φ hR];exact hpn)) ⟨fun F' σ' H' ρ' x' _ e=>?_,fun F' H' v r' p x' hp ok e=>?_,fun _ _ _ _ _ _ z=>False.elim z,fun _ _ _ _ _ _ z=>False.elim z⟩⟩
   ·exact q F' H' _ [] _ e x' (fun _ z=>nomatch z) ⟨rfl,.non⟩
   ·exact q F' H' v p r' e x' hp ok
  ·obtain⟨t,h1,h2⟩:=hexc f cdv A outer s F H RR ts Φx hr st q hR
   exact⟨t,h1,h2 F (start N vs) H _ (Q0.refl sm) (BA (ps:=ps) kt sm ha (by rw[lenx ts Φx hR];exact hpn))⟩
end
section
variable {K:W.Frag}{ρ:Q6}{ta:TE}{C:Addr}{f:Str}{F0 H0:Hp}{RR:Addr->Qj->Hp->Prop}{ds:Qd}{E:XK}
def Cr {Φx:Qd->Prop}(h:Qt K ta ρ (.list ds))(hd:Φx ds)(hq:∀F' H' e dct d,Φx d->Q0 F0 H0 F' H'->H0 e=none->Fld f e F' H' H0 dct d->RR e dct H'):EvZ K F0 H0 (sXR C (Ma C (Gb K C f) E (QF ta QO)) RR) ρ:=by
 intro F σ H D x S;refine h H0 F σ H _ S fun F1 H1 v x1 rp=>⟨by simp,fun e he=>?_⟩
 cases rp with
 |@lst a xs _ r1 r2 =>
 have ha:H1 a=some (.lst xs):=x1.fh a _ r1;have hae:a≠e:=fun z=>by subst z;rw[he]at ha;cases ha
 refine⟨e,a,xs,rfl,QA,SqL.of (by rw[Qr hae];exact ha),fun q dx hqn hdn hdq hde hqe=>⟨rfl,e,some dx,rfl,?_,?_⟩⟩
 ·rw[Qr (Ne.symm hde),QA]
 ·have hq1:H1 q=none:=by rw[Qr hqe]at hqn;exact hqn
  have hd1:H1 dx=none:=by rw[Qr hde]at hdn;exact hdn
  have hf1:F1 q=none:=x1.fh.free hq1
  have sm:Q4 H1 (upd (upd (upd (upd H1 e (.ext (phX C e none))) q (.lst xs)) e (.ext (phX C e (some dx)))) dx (.xd [(f,.ref q)])):=fun b o hb=>by
   have n1:b≠e:=fun z=>by subst z;rw[he]at hb;cases hb
   have n2:b≠q:=fun z=>by subst z;rw[hq1]at hb;cases hb
   have n3:b≠dx:=fun z=>by subst z;rw[hd1]at hb;cases hb
   rw[Qr n3,Qr n1,Qr n2,Qr n1];exact hb
  have X1:=x.trans x1
  have hqh:upd (upd (upd (upd H1 e (.ext (phX C e none))) q (.lst xs)) e (.ext (phX C e (some dx)))) dx (.xd [(f,.ref q)]) q=some (.lst xs):=by
   rw[Qr (Ne.symm hdq),Qr hqe,QA]
  have X2:Q0 F0 H0 F1 (upd (upd (upd (upd H1 e (.ext (phX C e none))) q (.lst xs)) e (.ext (phX C e (some dx)))) dx (.xd [(f,.ref q)])):=X1.trans ⟨sm,Q4.refl _,X1.fh.trans sm,fun b hb=>.inl hb⟩;exact hq F1 _ e (some dx) ds hd X2 (X1.hh.free he) ⟨dx,q,xs,rfl,QA,hqh,hf1,r2,hde,hqe,hdq,X1.fh.free he,X1.fh.free hd1,X1.hh.free hq1,X1.hh.free hd1⟩
def Tk {t u:TS}(M:Q6->Prop)(h1:Q1 K t ρ { nx:=M,rt:=fun _=>False })(h2:∀ρ',M ρ'->EvZ K F0 H0 u ρ'):EvZ K F0 H0 (YD t u) ρ:=fun F σ H E x S =>
 h1 F0 H0 F σ H _ x S ⟨fun F' σ' H' ρ' x' S' e=>h2 ρ' e F' σ' H' E x' S',fun _ _ _ _ _ _ _ _ z=>z.elim,fun _ _ _ _ _ _ z=>False.elim z,fun _ _ _ _ _ _ z=>False.elim z⟩
def P3 {t:TS}(i:Nat){ds:Qd}(e:ρ[i]?=some (some (.ol ds)))(h:EvZ K F0 H0 t (ρ.set i (some (.fz (.list ds))))):EvZ K F0 H0 t ρ:=fun F σ H E x S=>by
 obtain⟨a,xs,e1,e2,e3,_,_,S'⟩:=S.freeze e;exact h _ σ H E (x.freeze e1 e2 e3) S'
def Np {t u:TS}{ρ1:Q6}(h1:Q1 K t ρ { nx:=fun ρ'=>ρ'=ρ1,rt:=fun _=>False })(h2:EvZ K F0 H0 u ρ1):EvZ K F0 H0 (YD t u) ρ:=fun F σ H E x S =>
 h1 F0 H0 F σ H _ x S ⟨fun F' σ' H' ρ' x' S' e=>by subst e;exact h2 F' σ' H' E x' S',fun _ _ _ _ _ _ _ _ z=>z.elim,fun _ _ _ _ _ _ z=>False.elim z,fun _ _ _ _ _ _ z=>False.elim z⟩
def Tw {t u:TS}(h:EvZ K F0 H0 t ρ):EvZ K F0 H0 (YD t u) ρ:=fun F σ H E x S=>h F σ H _ x S
def P8 {tA:TT}{t u:TS}{b:Bool}(h:Zh K tA ρ b)(h1:b=true->EvZ K F0 H0 t ρ)(h2:b=false->EvZ K F0 H0 u ρ):EvZ K F0 H0 (JT tA t u) ρ:=fun F σ H E x S =>
 h H0 F σ H _ S fun F' H' x'=>by
  cases b with
  |true=>rw[Xe rfl];exact h1 rfl F' σ H' E (x.trans x') (S.ext x')
  |false=>rw[Xc (by decide)];exact h2 rfl F' σ H' E (x.trans x') (S.ext x')
def Cb {R:List OT->(OT->Prop)->Prop}{Rx:List OT->(Qd->Prop)->Prop}{Φx:Qd->Prop}{t:TA}{ts:List OT}{Q:VK}(hA:Zx K t ρ ts)(hR:Rx ts Φx)(st:VE C RR)(hq:∀F' H' e dct d,Φx d->Q0 F0 H0 F' H'->H0 e=none->Fld f e F' H' H0 dct d->RR e dct H'){F H9:Hp}{σ:St}{H:Hp}(x:Q0 F0 H0 F H)(S:QB K H9 F ρ σ H) :
 VF (spX K C f R Rx) [] (XE C RR) t σ H Q:=hA H9 F σ H _ S fun F1 H1 vs x1 r1 =>
 ⟨F1,ts,(S.ext x1).kt,x1.fh,by rw[XH];exact r1,RR,rfl,st,.inr ⟨Φx,hR,fun F' H' e dct d hd x2 he hf=>hq F' H' e dct d hd ((x.trans x1).trans x2) ((x.trans x1).hh.free he) (hf.back (x.trans x1).hh)⟩⟩
def Lz {R:List OT->(OT->Prop)->Prop}{Rx:List OT->(Qd->Prop)->Prop}{Φx:Qd->Prop}{t:TA}{ts:List OT}(hA:Zx K t ρ ts)(hR:Rx ts Φx)(st:VE C RR)(hq:∀F' H' e dct d,Φx d->Q0 F0 H0 F' H'->H0 e=none->Fld f e F' H' H0 dct d->RR e dct H') :
 EvZ K F0 H0 (Vi (VF (spX K C f R Rx) [] (XE C RR) t)) ρ:=fun F σ H E x S=>Cb hA hR st hq x S
def F6 {R:List OT->(OT->Prop)->Prop}{Rx:List OT->(Qd->Prop)->Prop}{Φ:OT->Prop}{t:TA}{ts:List OT}(hA:Zx K t ρ ts)(hR:R ts Φ)(st:VE C RR):Zq K (VF (spX K C f R Rx) [] (XE C RR) t) ρ Φ:=fun H0 F σ H Q S q =>
 hA H0 F σ H _ S fun F1 H1 vs x1 r1 =>
  ⟨F1,ts,(S.ext x1).kt,x1.fh,by rw[XH];exact r1,RR,rfl,st,.inl ⟨Φ,hR,fun F2 H2 v p r hr x2 hp ok=>q F2 H2 v p r hr (x1.trans x2) (fun a ha=>x1.hh.free (hp a ha)) ok⟩⟩
def Gf {t:TE}{D:PEnds}{Φ:OT->Prop}(h:Zq K t ρ Φ)(hn:D.nx ρ):Q1 K (Vi t) ρ D:=fun F0 H0 F σ H E x S c =>
 h H0 F σ H _ S fun F' H' v p r _ x' _ _=>c.nx F' σ H' ρ (x.trans x') (S.ext x') hn
end
section
variable {K:W.Frag}{ρ:Q6}{C:Addr}{th:TS}{tb:Ends->TS}{D:PEnds}{n:Nat}
def SJ {e:Addr}{dct:Qj}{G H H':Hp}(h:Lefts C e dct H H')(s:Q4 G H)(he:G e=none):Q4 G H':=by
 induction h with
 |nil=>exact s
 |@step H1 T h1 hT hTe ih =>
   intro b o hb;have n1:b≠e:=fun z=>by subst z;rw[he]at hb;cases hb
   have hb1:=ih b o hb;have n2:b≠T:=fun z=>by subst z;rw[hT]at hb1;cases hb1
   unfold left;rw[Qr n2,Qr n1];exact hb1
def Lp (h:∀E,Q1 K (tb E) ρ D):Q1 K (Mb tb) ρ D:=fun F0 H0 F σ H E x S c=>h E F0 H0 F σ H E x S c
end
structure XC (K:W.Frag)(mg:Str->Qf)(x:Str)(Y C f:Addr):Prop where
 cl:JM K Y C f
 kp:W.keepIn K (.ref C)=true
 m:mg x=some (.ref C)
def M6 (P:Program)(w:World)(K:W.Frag)(mg:Str->Qf)(base:Heap)(f:Addr)(ps:Qh)(k:Nat)(sp:Sp):Prop := ∃fd,Vd K fd ps []/\FnOk P w K mg base CX0 k f fd ps sp
section
variable {P:Program}{w:World}{K:W.Frag}{mg:Str->Qf}{base:Heap}{N:Qh}{qual:Str}{scope:Scope}{f f0:Addr}{cd:Value}{A:Around}{outer:List Env}{s0:Shared}{H0:Hp}{Y C:Addr}{RR:Addr->Qj->Hp->Prop}
def RT {x:Str}{p pos pos':Pos}{e:Expr}{es:Qi}{t:TA}{ps:Qh}{j k:Nat}{sp:Sp}(c:XC K mg x Y C f)(ci:M6 P w K mg base f ps j sp)(hst:VE C RR)(hr:Room k (cx1 P w K mg base N qual scope f0 cd A outer s0 H0 (XE C RR)).A)
 (ha:PA (cx1 P w K mg base N qual scope f0 cd A outer s0 H0 (XE C RR)) (e::es) t) (hj:j+1<=k:=by walk_at"j") (hg:Gl (cx1 P w K mg base N qual scope f0 cd A outer s0 H0 (XE C RR)) x:=by rfl)
 (hdb:(x==("__debug__" : Str))=false:=by decide) (he:starEach (e::es) (cx1 P w K mg base N qual scope f0 cd A outer s0 H0 (XE C RR)).env=(false,eval e (cx1 P w K mg base N qual scope f0 cd A outer s0 H0 (XE C RR)).env)::starEach es (cx1 P w K mg base N qual scope f0 cd A outer s0 H0 (XE C RR)).env:=by rfl)
 (hpl:(backTo pos (starEach es (cx1 P w K mg base N qual scope f0 cd A outer s0 H0 (XE C RR)).env)).any (·.1)=false:=by rfl) :
 PS (cx1 P w K mg base N qual scope f0 cd A outer s0 H0 (XE C RR)) (.Raise (some (.Call (.Name x p) (e::es) [] pos)) none pos') (sXR C (Ma C sp E0 t) RR):=by
 obtain⟨fd,hb,F⟩:=ci;exact FR c.cl rfl (FN c.cl c.kp F (hr.mono hj) hg c.m hb Jc ha hdb he hpl) (fun XaR σ H s a dct I he r=>Fu hst I he r)
end
section
variable {K:W.Frag}{ρ:Q6}{ta tb:TE}{t:TA}
end
def Dh (D:Ends)(j:Nat):Ends:={ nx:=fun σ H=>D.nx (σ.set j none) H,rt:=fun _ _=>False }
def II (X:Cx)(E:XK)(pn:Qc)(v:Value)(s:Shared):Prop := ∃(σ:St) (H:Hp) (dct:Qj),Qq { X with pn:=pn } [] σ H s/\E v dct H
abbrev ML (X:Cx)(E:XK)(pn:Qc):Cx:={ X with pn:=pn,xe:=II X E pn }
section
variable {X:Cx}{XaR:Qc}{σ:St}{H:Hp}{s:Shared}{C:Addr}{th:TS}{D:Ends}
def Sd {E:XK}{pn:Qc}:VU (CX1 X.prog X.w) (ML X E pn) E:=by
 intro XaR σ H s v s' I h;obtain⟨dct,H',os,bare,un,hok,hE⟩:=h;obtain⟨hh,g,d,t,os'⟩:=s';obtain rfl:os'=s.os:=os;have I2:=I.call (h':=hh) (g':=g) (d':=d) (t':=t) (ch:=[]) un hok bare (fun b z=>nomatch z)
 exact⟨σ,H',dct,(I2.unwish (X:={ X with pn:=pn })).pins_of (fun p hp=>by cases hp),hE⟩
end
section
variable {X:Cx}{C B:Addr}{th:TS}{tb:Ends->TS}{body suite:List Stmt}{b0:Stmt}{x n:Str}{j:Nat}{np hpos pos:Pos}{rest:List ExceptHandler}
end
end L2
section
namespace L2
open PySem PySem.Spec PyProof.Rows
section
variable {K:W.Frag}{ρ:Q6}{D:PEnds}
def QB.setN {H0 F H:Hp}{σ:St}{r:Nat}(u:Option V)(s:QB K H0 F ρ σ H):QB K H0 F (ρ.set r none) (σ.set r u) H:=by
 obtain⟨kt,h1,h2,fp,h3,h4,h5⟩:=s;refine⟨kt,h1,by simp[h2],fp,fun j t e=>?_,h4,h5⟩
 by_cases z:r=j
 ·subst z
  by_cases l:r<ρ.length
  ·rw[Xl l]at e;cases e
  ·rw[BS.mpr (by simp;omega)]at e;cases e
 ·rw[Xr z]at e ⊢
  exact h3 j t e
def QB.forg {H0 F H:Hp}{σ:St}{r:Nat}(s:QB K H0 F ρ σ H):QB K H0 F (ρ.set r none) σ H:=by
 obtain⟨kt,h1,h2,fp,h3,h4,h5⟩:=s;refine⟨kt,h1,by simp[h2],fp,fun j t e=>?_,h4,h5⟩
 by_cases z:r=j
 ·subst z
  by_cases l:r<ρ.length
  ·rw[Xl l]at e;cases e
  ·rw[BS.mpr (by simp;omega)]at e;cases e
 ·rw[Xr z]at e
  exact h3 j t e
end
end L2
end
namespace L2
open PySem PySem.Spec PyProof.Rows
section
open PySem.W
variable {prog:Program}{w:World}{A:Around}{E:Qb}{s:Shared}{K:Frag}{x C:Addr}{ox:Obj}{od:Option Obj}{name:Str}{tk:Tok}{fill expr:Bool}
structure JL (K:Frag)(C:Addr):Prop where
 ga:findIn K (.ref C) "__getattribute__"=some (some (.builtin "BaseException.__getattribute__"))
 gt:findIn K (.ref C) "__getattr__"=some none
 mb:mroIn K C (.type "BaseException")=some true
def RZ {Q:Unit->Shared->Prop} {M:Model} {nameV:Value} (c:JL K C) (X:K.In s.heap) (I:InstAt s.heap x ox C od) (hq:Q () s):wpAny M A (checkBuiltinCall "BaseException.__getattribute__" ⟨[.ref x,nameV],[]⟩) Q E s:=by
 have hk:builtinKind "BaseException.__getattribute__"=some .slot:=by decide +kernel
 have hsplit:splitId "BaseException.__getattribute__"=some ("BaseException","__getattribute__"):=by decide +kernel
 have ha:=F.args_bexc_ga (.ref x) nameV;have L0:=I.type (M:=M);have L1:=looks_mroIn (M:=M) X c.mb;simp only[checkBuiltinCall,hk,hsplit];obtain⟨hh,g,d,t,os⟩:=s;refine Xb ((L0.andThen L1).at ?_)
 repeat (any_goals (first|assumption|wp_step))
def Ry {Q:Qb}(c:JL K C)(X:K.In s.heap)(I:InstAt s.heap x ox C od)
 (h:codeAny (model prog w) A (.call (.builtin "BaseException.__getattribute__") ⟨[.ref x,.str name tk],[]⟩) (fun r s'=>∃v,r=.ok (.ret v)/\wpAny (model prog w) A (handedOut v) Q E s') s) :
 wpAny (model prog w) A (getAttrBy (.ref x) (.str name tk) fill expr) Q E s:=by
 have f3:=F.excAttr_ValueError.ga.bind (.ref x);have hx0:(expr&&onTheHeap (Value.builtin "BaseException.__getattribute__"))=false:=by cases expr<;>rfl
 have hx2:(Value.builtin "BaseException.__getattribute__" == Value.builtin "object.__getattribute__")=false:=by decide +kernel
 have hx1:(onTheHeap (Value.ref C)&&Value.builtin "BaseException.__getattribute__" == Value.builtin "object.__getattribute__")=false:=by rw[hx2];rfl
 obtain⟨hh,g,d,t,os⟩:=s;have L0:=I.type (M:=model prog w);have L1:=looks_findIn (M:=model prog w) X c.ga;have L2:=looks_findIn (M:=model prog w) X c.gt;unfold getAttrBy;refine wpAny_holding (Xb (L0.at (Xb (L1.at ?_))));dsimp only;rw[hx1,Xc Xw];unfold getAttrByItsOwn;refine Xb (L2.at ?_);refine Xb (wpAny_attempt (wpAny_holding ?_));unfold callGetattribute;rw[hx0,Xc Xw];unfold boundAndCalled;rw[f3];refine Xb (Xp ?_);refine wpAny_call (codeAny_mono h fun r s' hq=>?_);obtain⟨v,rfl,hq⟩:=hq;exact hq
def C6 {Q:Qb}{v:Value}(c:JL K C)(X:K.In s.heap)(I:InstAt s.heap x ox C od)(hf:findObj K C od name=some (.value v))(hh:handedIn v=true)(h:Q v { s with toks:=s.toks+1 }):wpAny (model prog w) A (getAttr (.ref x) name expr) Q E s:=by
 unfold getAttr;refine Xb (wpAny_mkText (Ry (s:={ s with toks:=s.toks+1 }) c X I (codeAny_call_builtin F.excAttr_ValueError.ga.plain F.entry_bexc_ga (RZ c X I ?_))));obtain⟨hh',g,d,t,os⟩:=s;have L0:=I.type (M:=model prog w);have L1:=looks_find (M:=model prog w) X I hf;refine Xb (Xp (Xb (Xp (Xb (L0.at (Xb (L1.at ?_)))))));refine Xp ⟨v,rfl,?_⟩;rw[handedOut_of hh];exact Xp h
def Al {Q:Qf->Shared->Prop} {od:Obj} (c:JL K C) (hdct:hasDictIn K C=true) (ha:findIn K (.ref C) "__class__"=some (some (.builtin "object.__class__")))
 (hn:specialIn K (.builtin "object.__class__") "__get__"=some (some (.builtin "getset_descriptor.__get__"))) (htk:takesIn K (.builtin "object.__class__")=some true) (hm:mroIn K C (.type "object")=some true)
 (X:K.In s.heap) (I:InstAt s.heap x ox C (some od)) (h:Q (some (.ref C)) { s with toks:=s.toks+1 }):wpAny (model prog w) A (getAttr? (.ref x) "__class__") Q E s:=by
 have hf:findObj K C (some od) "__class__"=some (.bind (.builtin "getset_descriptor.__get__") (.builtin "object.__class__")):=findObj_data (by obtain⟨cd,hc,_⟩:=any_some hdct;rw[hc];rfl) ha hn htk;unfold getAttr? getAttrBy?;refine Xb (wpAny_mkText (Xb (wpAny_attempt (Ry (s:={ s with toks:=s.toks+1 }) c X I (codeAny_call_builtin F.excAttr_ValueError.ga.plain F.entry_bexc_ga (RZ c X I ?_))))));obtain⟨hh',g,d,t,os⟩:=s;have L0:=I.type (M:=model prog w);have L1:=looks_find (M:=model prog w) X I hf;refine Xb (Xp (Xb (Xp (Xb (L0.at (Xb (L1.at ?_)))))));show wpAny _ _ (holding [_] (call _ [_,_,_]) >>= ret) _ _ _;refine Xb (wpAny_holding (wpAny_call (class_get (s:=⟨hh',g,d,t+1,os⟩) (ox:=ox) (od:=some od) X I hm ?_)));exact Xp ⟨_,rfl,Xp (Xp h)⟩
theorem Ft {od:Obj} (c:JL K C) (hdct:hasDictIn K C=true) (ha:findIn K (.ref C) "__class__"=some (some (.builtin "object.__class__")))
 (hn:specialIn K (.builtin "object.__class__") "__get__"=some (some (.builtin "getset_descriptor.__get__"))) (htk:takesIn K (.builtin "object.__class__")=some true) (hm:mroIn K C (.type "object")=some true) :
 KitX K (.ref x) (.ref C) (fun h=>InstAt h x ox C (some od)) where
 ty:=fun _ _ _ I=>I.type
 it:=fun _ _ X _=>by
  obtain⟨cdD,hcD,_⟩:=any_some hdct;unfold clsIn at hcD;split at hcD
  ·rename_i c' d' cd' sl' ho
   intro A' Q' E' s' k q;unfold isType loadHead;exact Xb (wpAny_loadPart (k _ _ (X _ _ ho)) (Xp q))
  ·cases hcD
 ne:=fun h tp dd its n sl X htp=>by
  obtain⟨cdD,hcD,_⟩:=any_some hdct;refine Bool.eq_false_iff.mpr fun q=>?_;have e:C=tp:=Value.ref.inj (beq_iff_eq.mp q);subst e;unfold clsIn at hcD;split at hcD
  ·rename_i c' d' cd' sl' ho
   have z:=(X _ _ ho).symm.trans htp
   cases z
  ·cases hcD
 ca:=fun X I k=>Al c hdct ha hn htk hm X I k
end
def tXG (C:Addr)(ta:TE)(f:Str):TE:=fun σ H Q=>ta σ H fun x H1=>∃e dx T v,x=.ref e/\H1 e=some (.ext (phF C e (some dx) T))/\H1 dx=some (.xd [(f,v)])/\Q v H1
structure Pd (K:W.Frag)(C:Addr):Prop where
 ga:JL K C
 hd:W.hasDictIn K C=true
section
variable {X:Cx}{e:Expr}{ta:TE}{f:Str}{C:Addr}{pos:Pos}
def Nm {H:Hp}{XaR:Qc}{σ:St}{s:Shared}(I:Qq X XaR σ H s){a dx T:Addr}{fs:List (Str×V)}(h1:H a=some (.ext (phF C a (some dx) T)))(h2:H dx=some (.xd fs)) :
 ∃(mA:Str->Qf) (ox od:Obj),W.InstAt s.heap a ox C (some od)/\(∀name,W.lookIn name od=some (mA name))/\∀f,ZE (fs.lookup f) (mA f):=by
 obtain⟨⟨vs,sl,hx,_⟩,_,_⟩:=I.hok a _ h1;obtain⟨mA,n,r⟩:=(show Z0 X.prog X.w H s.heap dx (.xd fs) from I.hok dx _ h2);obtain⟨od,ho,hl⟩:=Sb n
 exact⟨mA,_,od,⟨hx,rfl,rfl,ho⟩,hl,r⟩
def Ra (c:Pd X.K C)(n:Vt X.K C f)(he:PE X e ta)(hb:attributeBase e f X.env (eval e X.env)=eval e X.env:=by rfl):PE X (.Attribute e f pos) (tXG C ta f):=by
 intro XaR s σ H Q I h;refine N7 hb (Q2 (he XaR s σ H _ I h) fun u s1 ⟨x,H1,I1,rx,a,dx,T,v,ex,ea,ed,q⟩=>?_);subst ex;obtain rfl:u=Value.ref a:=rx;obtain⟨mA,ox,od,J,hl,r⟩:=Nm I1 ea ed;obtain⟨u,hu,ru⟩:=ZE.some_of (v:=v) (o:=mA f) (by have:=r f;simpa [List.lookup] using this);exact C6 c.ga I1.kIn J (W.findObj_own c.hd n rfl (by rw[hl,hu])) (RQ ru) ⟨v,H1,I1.tok _,ru,q⟩
def G8:V->Qf
 |.ref a=>some (.ref a)
 |.ty t=>some (.type t)
 |_=>none
structure Pc (K:W.Frag)(C:Addr):Prop where
 ga:JL K C
 hd:W.hasDictIn K C=true
 fc:W.findIn K (.ref C) "__class__"=some (some (.builtin "object.__class__"))
 sp:W.specialIn K (.builtin "object.__class__") "__get__"=some (some (.builtin "getset_descriptor.__get__"))
 tk:W.takesIn K (.builtin "object.__class__")=some true
 mo:W.mroIn K C (.type "object")=some true
def Yu (K:W.Frag)(C:Addr):List V->Hp->VK->Prop:=fun xs H Q=>∃x c cv b,xs=[x,c]/\G8 c=some cv /\
 ((∃e dx T fs,x=.ref e/\H e=some (.ext (phF C e (some dx) T))/\H dx=some (.xd fs)/\W.kitOne K (.ref C) cv=some b)\/(x=.non/\W.kitOne K (.type "NoneType") cv=some b))/\Q (.bl b) H
def W9 (c:Pc X.K C):Z1 X (.builtin "isinstance") (Yu X.K C):=by
 intro XaR s σ H xs us Q I r h;obtain⟨x,cc,cv,b,rfl,hcv,hx,q⟩:=h;obtain⟨u,w,rfl,ru,rw'⟩:=UG r
 have ew:w=cv:=by
  cases cc<;>simp[G8]at hcv
  ·subst hcv;exact rw'
  ·subst hcv;exact rw'
 subst ew;rcases hx with ⟨e,dx,T,fs,rfl,h1,h2,hk⟩|⟨rfl,hk⟩
 ·obtain rfl:u=Value.ref e:=ru
  obtain⟨mA,ox,od,J,_⟩:=Nm I h1 h2;exact W.kia_one (Ft c.ga c.hd c.fc c.sp c.tk c.mo) I.kIn J hk (by intro z;cases z) fun tk=>⟨.bl b,H,I.tok tk,rfl,q⟩
 ·obtain rfl:u=Value.none:=ru
  exact W.kia_one W.kitx_none I.kIn trivial hk (by intro z;cases z) fun tk=>⟨.bl b,H,I.tok tk,rfl,q⟩
end
def W0 (C:Addr)(f:Str)(ds:Qd)(e dx q:Addr):OwnP where
 ok:=fun K F H v p=>p=[e,dx,q]/\(F e=none/\F dx=none/\F q=none)/\(∃T,H e=some (.ext (phF C e (some dx) T)))/\H dx=some (.xd [(f,.ref q)])/\∃xs,H q=some (.lst xs)/\Qv F xs ds
 there:=fun{K F H v p} h a ha=>by
  obtain⟨rfl,⟨f1,f2,f3⟩,⟨T,h1⟩,h2,xs,h3,_⟩:=h
  rcases Xf.mp ha with rfl|ha
  ·exact⟨f1,Zt h1⟩
  ·rcases Xf.mp ha with rfl|ha
   ·exact⟨f2,Zt h2⟩
   ·rcases Xf.mp ha with rfl|ha
    ·exact⟨f3,Zt h3⟩
    ·cases ha
 mono:=fun{K F F' H H' v p} s hF hH h=>by
  obtain⟨rfl,⟨f1,f2,f3⟩,⟨T,h1⟩,h2,xs,h3,r⟩:=h;have m1:e∈[e,dx,q]:=Xa;have m2:dx∈[e,dx,q]:=Xd _ Xa;have m3:q∈[e,dx,q]:=Xd _ (Xd _ Xa)
  exact⟨rfl,⟨hF _ m1,hF _ m2,hF _ m3⟩,⟨T,(hH _ m1).trans h1⟩,(hH _ m2).trans h2,xs,(hH _ m3).trans h3,r.mono s⟩
 uniq:=fun{K F H v p p'} h h' a ha=>by
  obtain⟨rfl,_⟩:=h;obtain⟨rfl,_⟩:=h';exact ha
def RD {C e:Addr}{dct:Qj}{H H':Hp}(h:Lefts C e dct H H'){b:Addr}{o:HO}(hb:b≠e)(ho:H b=some o):H' b=some o:=by
 induction h with
 |nil=>exact ho
 |@step H1 T h1 hT hTe ih =>
   have n2:b≠T:=fun z=>by subst z;rw[hT]at ih;cases ih
   unfold left;rw[Qr n2,Qr hb];exact ih
section
variable {K:W.Frag}{ρ:Q6}{C:Addr}{f:Str}{th:TS}{tb:Ends->TS}{D:PEnds}{n i j:Nat}{ta tb':TE}
variable {ds:Qd}{e dx q:Addr}
def QB.exc {H0 F H:Hp}{σ:St}{v:V}(S:QB K H0 F ρ σ H)(h:ρ[i]?=some (some (.own v (W0 C f ds e dx q)))):σ[i]?=some (some v)/\(∃T,H e=some (.ext (phF C e (some dx) T)))/\H dx=some (.xd [(f,.ref q)])/\(∃xs,H q=some (.lst xs)/\Qv F xs ds)/\F q=none/\H0 q=none:=by
 obtain⟨kt,h1,h2,fp,h3,h4,h5⟩:=S;obtain⟨u,e1,hu,hp,⟨f1,f2,f3⟩,hT,hd,hq⟩:=h3 i _ h;subst hu;exact⟨e1,hT,hd,hq,f3,(h5 i q (by rw[hp];exact Xd _ (Xd _ Xa))).1⟩
def MG {c:V}{cv:Value}{b:Bool}(h:ρ[i]?=some (some (.own (.ref e) (W0 C f ds e dx q))))(hc:G8 c=some cv)(hk:W.kitOne K (.ref C) cv=some b):Qt K (tCB (Yu K C) (QF (Q8 i) (QF (tC c) QO))) ρ (.bool b):=fun H0 F σ H Q S k=>by
 obtain⟨e1,⟨T,h1⟩,h2,_⟩:=S.exc h
 exact⟨.ref e,e1,.ref e,c,cv,b,rfl,hc,.inl ⟨e,dx,T,_,rfl,h1,h2,hk⟩,k F H _ (Q0.refl S.sub) (.bl b)⟩
end
end L2
section
namespace L2
open PySem PySem.Spec PyProof.Rows
def QS.at {xs:List V}{us:Qe}(r:QS xs us):∀i:Nat,(xs[i]?=none/\us[i]?=none)\/∃x u,xs[i]?=some x/\us[i]?=some u/\QI x u:=by
 induction r with
 |nil=>intro i;exact .inl ⟨rfl,rfl⟩
 |cons a b ih =>
   intro i;cases i with
   |zero=>exact .inr ⟨_,_,rfl,rfl,a⟩
   |succ i=>exact ih i
section
variable {X:Cx}{e:Expr}{te:TE}{lo hi:Option Expr}{se:Expr}{tl th ts:TO}{pos p2:Pos}
end
section
variable {K:W.Frag}{ρ:Q6}{te:TE}
end
section
variable {X:Cx}
end
section
variable {X:Cx}
end
section
variable {K:W.Frag}{ρ:Q6}{ta tb:TE}{D:PEnds}
end
end L2
end
namespace L2
open PySem PySem.Spec PyProof.Rows
section
variable {prog:Program}{w:World}{A:Around}{E:Qb}{s:Shared}
end
section
variable {prog:Program}{w:World}{A:Around}{R:Result->Shared->Prop}{E:Qb}{s:Shared}
end
section
variable {prog:Program}{w:World}{A:Around}{E:Qb}{s:Shared}
end
end L2
set_option maxHeartbeats 8000000
namespace L2
open PySem PySem.Spec PyProof.Rows
section
variable {prog:Program}{w:World}{A:Around}{E:Qb}{s:Shared}
end
end L2
set_option maxHeartbeats 8000000
namespace L2
open PySem PySem.Spec PyProof.Rows
end L2
set_option maxHeartbeats 8000000
namespace L2
open PySem PySem.Spec PyProof.Rows
section
variable {prog:Program}{w:World}{A:Around}{E:Qb}{s:Shared}
end
end L2
set_option maxHeartbeats 8000000
namespace L2
open PySem PySem.Spec PyProof.Rows
section
variable {prog:Program}{w:World}{A:Around}{E:Qb}{s:Shared}
end
end L2
set_option maxHeartbeats 8000000
namespace L2
open PySem PySem.Spec PyProof.Rows
section
variable {prog:Program}{w:World}{A:Around}{E:Qb}{s:Shared}
end
section
variable {X:Cx}
end
section
variable {K:W.Frag}{ρ:Q6}{ta:TE}{X X':Cx}{p:Qm}
end
end L2
section
namespace L2
open PySem PySem.Spec PyProof.Rows
section
variable {X:Cx}
end
section
variable {K:W.Frag}{ρ:Q6}{te ti:TE}{D:PEnds}
end
end L2
end
namespace L2
open PySem PySem.Spec PyProof.Rows
def SW:bootBuiltins "ValueError"=some (.type "ValueError"):=by decide +kernel
end L2
section
namespace L2
open PySem PySem.Spec PyProof.Rows
abbrev QX:=List (Key×PyData)
def Yc (kvs:QX)(k:Key):Option PyData:=(kvs.find? fun kv=>decide (kv.1=k)).map (·.2)
def JV (kvs:QX)(k:Key)(d:PyData):QX:=if (kvs.any fun kv=>decide (kv.1=k))=true then kvs.map (fun kv=>if kv.1=k then (kv.1,d) else kv) else kvs++[(k,d)]
inductive PairK (F:Hp):List (Key×V)->QX->Prop
 |nil:PairK F [] []
 |cons {k:Key} {x:V} {d:PyData} {xs:List (Key×V)} {kvs:QX}:Rep F x d->PairK F xs kvs->PairK F ((k,x)::xs) ((k,d)::kvs)
theorem PairK.mono {F F':Hp}(s:Q4 F F'):∀{xs:List (Key×V)} {kvs:QX},PairK F xs kvs->PairK F' xs kvs
 |_,_,.nil=>.nil
 |_,_,.cons r t=>.cons (r.mono s) (t.mono s)
theorem PairK.length {F:Hp}:∀{xs:List (Key×V)} {kvs:QX},PairK F xs kvs->xs.length=kvs.length
 |_,_,.nil=>rfl
 |_,_,.cons _ t=>by simp[t.length]
theorem PairK.val {F:Hp}(k:Key):∀{xs:List (Key×V)} {kvs:QX},PairK F xs kvs->(Zr xs k=none/\Yc kvs k=none)\/∃x d,Zr xs k=some x/\Yc kvs k=some d/\Rep F x d
 |_,_,.nil=>.inl ⟨rfl,rfl⟩
 |_,_,.cons (k:=k') (x:=x) (d:=d) (xs:=xs) (kvs:=kvs) r t=>by
   by_cases e:k'=k
   ·exact .inr ⟨x,d,Yj e,by simp[Yc,Xz,e],r⟩
   ·have q:Yc ((k',d)::kvs) k=Yc kvs k:=by simp[Yc,Xz,e]
    rw[Yi (p:=(k',x)) e,q];exact t.val k
theorem PairK.any {F:Hp}(k:Key):∀{xs:List (Key×V)} {kvs:QX},PairK F xs kvs->(xs.any fun kv=>decide (kv.1=k))=(kvs.any fun kv=>decide (kv.1=k))
 |_,_,.nil=>rfl
 |_,_,.cons _ t=>by simp[t.any k]
theorem PairK.mapP {F:Hp}(k:Key){y:V}{d:PyData}(r:Rep F y d):∀{xs:List (Key×V)} {kvs:QX},PairK F xs kvs->PairK F (xs.map fun kv=>if kv.1=k then (kv.1,y) else kv) (kvs.map fun kv=>if kv.1=k then (kv.1,d) else kv)
 |_,_,.nil=>.nil
 |_,_,.cons (k:=k') r' t=>by
   rw[Xv,Xv];by_cases e:k'=k
   ·simp only[e,if_true]
    exact .cons r (t.mapP k r)
   ·simp only[e,if_false]
    exact .cons r' (t.mapP k r)
theorem PairK.snoc {F:Hp}(k:Key){y:V}{d:PyData}(r:Rep F y d):∀{xs:List (Key×V)} {kvs:QX},PairK F xs kvs->PairK F (xs++[(k,y)]) (kvs++[(k,d)])
 |_,_,.nil=>.cons r .nil
 |_,_,.cons r' t=>.cons r' (t.snoc k r)
def PairK.put {F:Hp}(k:Key){y:V}{d:PyData}(r:Rep F y d){xs:List (Key×V)}{kvs:QX}(t:PairK F xs kvs):PairK F (VB xs k y) (JV kvs k d):=by
 unfold VB JV;rw[t.any k];split
 ·exact t.mapP k r
 ·exact t.snoc k r
def dkP (kvs:QX):OwnP where
 ok K F H v p := ∃a xs,v=.ref a/\p=[a]/\F a=none/\H a=some (.dK xs)/\PairK F xs kvs
 there:=by
  rintro K F H v p ⟨a,xs,rfl,rfl,h1,h2,h3⟩ b hb
  cases Xg.mp hb
  exact⟨h1,Zt h2⟩
 mono:=by
  rintro K F F' H H' v p s hF hH ⟨a,xs,rfl,rfl,h1,h2,h3⟩
  exact⟨a,xs,rfl,rfl,hF a Xa,by rw[hH a Xa];exact h2,h3.mono s⟩
 uniq:=by
  rintro K F H v p q ⟨a,xs,rfl,rfl,_⟩ ⟨b,ys,e,rfl,_⟩ c hc
  cases e
  exact hc
section
variable {K:W.Frag}{ρ:Q6}{te ty tv:TE}{D:PEnds}{i:Nat}{v:V}{kvs:QX}{k:Key}{d:PyData}
def QB.dk {H0 F H:Hp}{σ:St}(S:QB K H0 F ρ σ H)(e:ρ[i]?=some (some (.own v (dkP kvs)))) :
 ∃a xs,v=.ref a/\σ[i]?=some (some (.ref a))/\F a=none/\H0 a=none/\H a=some (.dK xs)/\PairK F xs kvs:=by
 obtain⟨e1,p,⟨a,xs,rfl,rfl,h1,h2,h3⟩,hp,_⟩:=S.writeOwn e
 exact⟨a,xs,rfl,e1,h1,(hp a Xa).1,h2,h3⟩
def Ri (e:ρ[i]?=some (some (.own v (dkP kvs))))(hv:Qt K tv ρ d)(hy:Qt K ty ρ (UD k))(hz:kvs.length<sizeLine)(hn:D.nx (ρ.set i (some (.own v (dkP (JV kvs k d)))))):Q1 K (GL (Q8 i) ty tv) ρ D:=fun F0 H0 F σ H E x S C =>
 hv H0 F σ H _ S fun F1 H1 u x1 r1=>by
  obtain⟨a,xs,rfl,e1,_⟩:=(S.ext x1).dk e;refine⟨_,e1,hy H0 F1 σ H1 _ (S.ext x1) fun F2 H2 y x2 r2=>?_⟩;have S2:=S.ext (x1.trans x2);obtain⟨a',xs',ea,_,g1,g0,g2,g3⟩:=S2.dk e
  cases ea
  rw[DA r2];refine⟨a,_,rfl,Wf.k g2 (by rw[g3.length];exact hz),?_⟩;obtain⟨_,p,ok,hp,w⟩:=S2.writeOwn e;obtain⟨a'',xs'',ea,rfl,_,g4,_⟩:=ok
  cases ea
  refine C.nx F2 σ _ _ ((x.trans (x1.trans x2)).wr g0 g1) (w _ (dkP (JV kvs k d)) [a] (S2.sub.upd g1) (fun c hc _=>Qr fun z=>hc (by rw[z];exact Xa)) (fun c hc=>?_) ⟨a,_,rfl,rfl,g1,QA,g3.put k (r1.mono x2.ff)⟩ (fun c hc=>.inl hc)) hn
  by_cases z:c=a
  ·subst z;rw[QA];exact fun q=>nomatch q
  ·rw[Qr z];exact hc
def FU:EvX K KY ρ (dkP []):=fun H0 F σ H Q S q=>fun p hp=>by
 have fp:F p=none:=by
  cases z:F p with
  |none=>rfl
  |some o=>rw[S.sub _ _ z]at hp;cases hp
 refine q F _ (.ref p) [p] (Q0.own S.sub hp) (fun a ha=>by cases Xg.mp ha;exact hp) ⟨p,[],rfl,rfl,fp,QA,.nil⟩
end
section
variable {K:W.Frag}{ρ:Q6}{ty:TE}{D:PEnds}{i:Nat}{k:Key}
end
structure HandS where
 yard:PyData
 now:Int
 known:Qd
 given:Ql
 gone:QX
 made:List QX
inductive MadeD (F H:Hp):Qg->List QX->Prop
 |nil:MadeD F H [] []
 |cons {a:Addr} {xs:List (Key×V)} {kvs:QX} {as:Qg} {ms:List QX}:F a=none->H a=some (.dK xs)->PairK F xs kvs->MadeD F H as ms->MadeD F H (a::as) (kvs::ms)
theorem MadeD.mem {F H:Hp}:∀{as:Qg} {ms:List QX},MadeD F H as ms->∀a∈as,F a=none/\H a≠none
 |_,_,.nil,a,ha=>nomatch ha
 |_,_,.cons h1 h2 _ t,a,ha=>by
   rcases Xf.mp ha with rfl|ha
   ·exact⟨h1,Zt h2⟩
   ·exact t.mem a ha
theorem MadeD.mono {F F' H H':Hp}(s:Q4 F F'):∀{as:Qg} {ms:List QX},(∀a∈as,F' a=none)->(∀a∈as,H' a=H a)->MadeD F H as ms->MadeD F' H' as ms
 |_,_,_,_,.nil=>.nil
 |_,_,hF,hH,.cons h1 h2 h3 t=>.cons (hF _ Xa) (by rw[hH _ Xa];exact h2) (h3.mono s) (t.mono s (fun a ha=>hF a (Xd _ ha)) (fun a ha=>hH a (Xd _ ha)))
def MadeD.other {F H:Hp}{b:Addr}{o:HO}{as:Qg}{ms:List QX}(h:MadeD F H as ms)(n:b∉as):MadeD F (upd H b o) as ms :=
 h.mono (Q4.refl _) (fun a ha=>(h.mem a ha).1) (fun a ha=>Qr fun z=>n (z▸ha))
inductive MadeZ (F:Hp):Qg->List QX->Prop
 |nil:MadeZ F [] []
 |cons {a:Addr} {xs:List (Key×V)} {kvs:QX} {as:Qg} {ms:List QX}:F a=some (.dK xs)->PairK F xs kvs->MadeZ F as ms->MadeZ F (a::as) (kvs::ms)
theorem MadeZ.mono {F F':Hp}(s:Q4 F F'):∀{as:Qg} {ms:List QX},MadeZ F as ms->MadeZ F' as ms
 |_,_,.nil=>.nil
 |_,_,.cons h1 h2 t=>.cons (s _ _ h1) (h2.mono s) (t.mono s)
theorem MadeD.fz {F F' H:Hp}(s:Q4 F F'):∀{as:Qg} {ms:List QX},(∀a∈as,F' a=H a)->MadeD F H as ms->MadeZ F' as ms
 |_,_,_,.nil=>.nil
 |_,_,he,.cons _ h2 h3 t=>.cons (by rw[he _ Xa];exact h2) (h3.mono s) (t.fz s fun a ha=>he a (Xd _ ha))
abbrev hfs (y:V) (n:Int) (k g d m:Addr):List (Str×V):=[("yard",y),("present",.int n),("known",.ref k),("given",.ref g),("gone",.ref d),("made",.ref m)]
structure HandOk (C:Addr)(N:HandS)(F H:Hp)(a dx k g d m:Addr)(y:V)(xs:List (Key×V))(as:Qg):Prop where
 nd:(a::dx::k::g::d::m::as).Nodup
 ins:F a=none/\H a=some (.ins C dx (hfs y N.now k g d m))
 own:F dx=none/\H dx=some (.own a)
 yd:Rep F y N.yard
 known:Vc F H k N.known
 given:Vc F H g (N.given.map PyData.int)
 gone:F d=none/\H d=some (.dK xs)/\PairK F xs N.gone
 made:F m=none/\H m=some (.lst (as.map V.ref))/\MadeD F H as N.made
def HandOk.mono {C:Addr}{N:HandS}{F F' H H':Hp}{a dx k g d m:Addr}{y:V}{xs:List (Key×V)}{as:Qg}(o:HandOk C N F H a dx k g d m y xs as)(s:Q4 F F')(hF:∀b∈a::dx::k::g::d::m::as,F' b=none)(hH:∀b∈a::dx::k::g::d::m::as,H' b=H b):HandOk C N F' H' a dx k g d m y xs as:=by
 obtain⟨nd,⟨i1,i2⟩,⟨o1,o2⟩,yd,⟨k1,kx,k2,k3⟩,⟨g1,gx,g2,g3⟩,⟨d1,d2,d3⟩,⟨m1,m2,m3⟩⟩:=o
 exact⟨nd,⟨hF _ (by simp),by rw[hH _ (by simp)];exact i2⟩,⟨hF _ (by simp),by rw[hH _ (by simp)];exact o2⟩,yd.mono s,⟨hF _ (by simp),kx,by rw[hH _ (by simp)];exact k2,k3.mono s⟩,⟨hF _ (by simp),gx,by rw[hH _ (by simp)];exact g2,g3.mono s⟩,
  ⟨hF _ (by simp),by rw[hH _ (by simp)];exact d2,d3.mono s⟩,⟨hF _ (by simp),by rw[hH _ (by simp)];exact m2,m3.mono s (fun b hb=>hF b (by simp[hb])) (fun b hb=>hH b (by simp[hb]))⟩⟩
def QU (C:Addr)(N:HandS):OwnP where
 ok K F H v p := ∃a dx k g d m y xs as,v=.ref a/\p=a::dx::k::g::d::m::as/\HandOk C N F H a dx k g d m y xs as
 there:=by
  rintro K F H v p ⟨a,dx,k,g,d,m,y,xs,as,rfl,rfl,o⟩ b hb
  obtain⟨_,⟨i1,i2⟩,⟨o1,o2⟩,_,⟨k1,kx,k2,_⟩,⟨g1,gx,g2,_⟩,⟨d1,d2,_⟩,⟨m1,m2,m3⟩⟩:=o;simp only[Xf]at hb;rcases hb with rfl|rfl|rfl|rfl|rfl|rfl|hb
  ·exact⟨i1,Zt i2⟩
  ·exact⟨o1,Zt o2⟩
  ·exact⟨k1,Zt k2⟩
  ·exact⟨g1,Zt g2⟩
  ·exact⟨d1,Zt d2⟩
  ·exact⟨m1,Zt m2⟩
  ·exact m3.mem b hb
 mono:=by
  rintro K F F' H H' v p s hF hH ⟨a,dx,k,g,d,m,y,xs,as,rfl,rfl,o⟩
  exact⟨a,dx,k,g,d,m,y,xs,as,rfl,rfl,o.mono s hF hH⟩
 uniq:=by
  rintro K F H v p q ⟨a,dx,k,g,d,m,y,xs,as,rfl,rfl,o⟩ ⟨a',dx',k',g',d',m',y',xs',as',ev,rfl,o'⟩ c hc
  cases ev
  have i:=o.ins.2.symm.trans o'.ins.2;injection i with i;injection i with _ i1 i2;subst i1;simp only[hfs,List.cons.injEq,Prod.mk.injEq,true_and,and_true,V.ref.injEq]at i2;obtain⟨rfl,rfl,rfl,rfl,rfl⟩:=i2;have j:=o.made.2.1.symm.trans o'.made.2.1;injection j with j;injection j with j;rw[B4 j];exact hc
structure HandFz (C:Addr)(N:HandS)(F:Hp)(a dx k g d m:Addr)(y:V)(ks gs:List V)(xs:List (Key×V))(as:Qg):Prop where
 ins:F a=some (.ins C dx (hfs y N.now k g d m))
 yd:Rep F y N.yard
 known:F k=some (.lst ks)/\Qv F ks N.known
 given:F g=some (.lst gs)/\Qv F gs (N.given.map PyData.int)
 gone:F d=some (.dK xs)/\PairK F xs N.gone
 made:F m=some (.lst (as.map V.ref))/\MadeZ F as N.made
def Zo (C:Addr)(N:HandS):ZP where
 ok K F v := ∃a dx k g d m y ks gs xs as,v=.ref a/\HandFz C N F a dx k g d m y ks gs xs as
 mono:=by
  rintro K F F' v s ⟨a,dx,k,g,d,m,y,ks,gs,xs,as,rfl,⟨h1,h2,⟨h3,h4⟩,⟨h5,h6⟩,⟨h7,h8⟩,⟨h9,h10⟩⟩⟩
  exact⟨a,dx,k,g,d,m,y,ks,gs,xs,as,rfl,s _ _ h1,h2.mono s,⟨s _ _ h3,h4.mono s⟩,⟨s _ _ h5,h6.mono s⟩,⟨s _ _ h7,h8.mono s⟩,⟨s _ _ h9,h10.mono s⟩⟩
def QU.fz {C:Addr}{N:HandS}{K:W.Frag}{F F' H:Hp}{v:V}{p:Qg}(h:(QU C N).ok K F H v p)(s:Q4 F F')(he:∀b∈p,F' b=H b):(Zo C N).ok K F' v:=by
 obtain⟨a,dx,k,g,d,m,y,xs,as,rfl,rfl,o⟩:=h;obtain⟨nd,⟨i1,i2⟩,⟨o1,o2⟩,yd,⟨k1,kx,k2,k3⟩,⟨g1,gx,g2,g3⟩,⟨d1,d2,d3⟩,⟨m1,m2,m3⟩⟩:=o
 exact⟨a,dx,k,g,d,m,y,kx,gx,xs,as,rfl,by rw[he _ (by simp)];exact i2,yd.mono s,⟨by rw[he _ (by simp)];exact k2,k3.mono s⟩,⟨by rw[he _ (by simp)];exact g2,g3.mono s⟩,⟨by rw[he _ (by simp)];exact d2,d3.mono s⟩,⟨by rw[he _ (by simp)];exact m2,m3.fz s fun b hb=>he b (by simp[hb])⟩⟩
structure HandC (K:W.Frag)(C:Addr):Prop where
 cl:Cls K C
 yd:Vt K C "yard"
 pr:Vt K C "present"
 kn:Vt K C "known"
 gv:Vt K C "given"
 go:Vt K C "gone"
 md:Vt K C "made"
def NoH (m:Str):Prop := ∀(y:V) (n:Int) (k g d e:Addr),(hfs y n k g d e).lookup m=none
section
variable {K:W.Frag}{ρ:Q6}{ty:TE}{D:PEnds}{i:Nat}{C:Addr}{N:HandS}{m:Str}
def QB.hz {H0 F H:Hp}{σ:St}(S:QB K H0 F ρ σ H)(e:ρ[i]?=some (some (.zow (Zo C N)))):∃a dx k g d m y ks gs xs as,σ[i]?=some (some (.ref a))/\HandFz C N F a dx k g d m y ks gs xs as:=by
 obtain⟨fp,h,_⟩:=S.fp;obtain⟨v,e1,_,a,dx,k,g,d,m,y,ks,gs,xs,as,rfl,h1⟩:=h i _ e
 exact⟨a,dx,k,g,d,m,y,ks,gs,xs,as,e1,h1⟩
def Jy (c:HandC K C) (e:ρ[i]?=some (some (.zow (Zo C N)))):Qt K (ZL K (Q8 i) "yard") ρ N.yard:=fun H0 F σ H Q S q=>by
 obtain⟨a,dx,k,g,d,m,y,ks,gs,xs,as,e1,o⟩:=S.hz e
 exact⟨_,e1,a,C,dx,_,y,rfl,S.sub _ _ o.ins,c.cl,c.yd,rfl,q F H y (Q0.refl S.sub) o.yd⟩
def Bx (c:HandC K C) (e:ρ[i]?=some (some (.zow (Zo C N)))):Qt K (ZL K (Q8 i) "present") ρ (.int N.now):=fun H0 F σ H Q S q=>by
 obtain⟨a,dx,k,g,d,m,y,ks,gs,xs,as,e1,o⟩:=S.hz e
 exact⟨_,e1,a,C,dx,_,.int N.now,rfl,S.sub _ _ o.ins,c.cl,c.pr,rfl,q F H _ (Q0.refl S.sub) (.int _)⟩
def Gk (c:HandC K C) (e:ρ[i]?=some (some (.zow (Zo C N)))):Qt K (ZL K (Q8 i) "known") ρ (.list N.known):=fun H0 F σ H Q S q=>by
 obtain⟨a,dx,k,g,d,m,y,ks,gs,xs,as,e1,o⟩:=S.hz e
 exact⟨_,e1,a,C,dx,_,.ref k,rfl,S.sub _ _ o.ins,c.cl,c.kn,rfl,q F H _ (Q0.refl S.sub) (.lst o.known.1 o.known.2)⟩
def Ev (c:HandC K C) (e:ρ[i]?=some (some (.zow (Zo C N)))):Qt K (ZL K (Q8 i) "given") ρ (.list (N.given.map PyData.int)):=fun H0 F σ H Q S q=>by
 obtain⟨a,dx,k,g,d,m,y,ks,gs,xs,as,e1,o⟩:=S.hz e
 exact⟨_,e1,a,C,dx,_,.ref g,rfl,S.sub _ _ o.ins,c.cl,c.gv,rfl,q F H _ (Q0.refl S.sub) (.lst o.given.1 o.given.2)⟩
def Ay {k:Key} (c:HandC K C) (hy:Qt K ty ρ (UD k)) (e:ρ[i]?=some (some (.zow (Zo C N)))):Qt K (GB ty (ZL K (Q8 i) "gone")) ρ (.bool (Yc N.gone k).isSome):=fun H0 F σ H Q S q =>
 hy H0 F σ H _ S fun F1 H1 y x1 r1=>by
  obtain⟨a,dx,kk,g,d,m,y',ks,gs,xs,as,e1,o⟩:=(S.ext x1).hz e;refine⟨_,e1,a,C,dx,_,.ref d,rfl,x1.fh _ _ o.ins,c.cl,c.go,rfl,?_⟩;rw[DA r1];refine⟨d,_,rfl,Vp.k (x1.fh _ _ o.gone.1),?_⟩
  have hv:(Zr xs k).isSome=(Yc N.gone k).isSome:=by
   rcases o.gone.2.val k with ⟨z1,z2⟩|⟨x,d',z1,z2,_⟩
   ·rw[z1,z2];rfl
   ·rw[z1,z2];rfl
  rw[hv];exact q F1 H1 _ x1 (.bl _)
def Y7 {R:List OT->(OT->Prop)->Prop}{t:TA}{E:XK}{ts:List OT}{Φ:OT->Prop}(hm:NoH m)(e:ρ[i]?=some (some (.zow (Zo C N))))(h:Zx K t ρ ts)(hR:R (.zow (Zo C N)::ts) Φ) :
 Zq K (Vr C m (QY K R) [] E (Q8 i) t) ρ Φ:=fun H0 F σ H Q S q=>by
 obtain⟨a,dx,k,g,d,m',y,ks,gs,xs,as,e1,ok⟩:=S.hz e;refine⟨_,e1,a,dx,_,rfl,S.sub _ _ ok.ins,hm _ _ _ _ _ _,h H0 F σ H _ S fun F1 H1 vs x1 r1=>?_⟩
 exact⟨F1,_,Φ,(S.ext x1).kt,x1.fh,.zow (Ψ:=Zo C N) ((Zo C N).mono (K:=K) x1.ff ⟨a,dx,k,g,d,m',y,ks,gs,xs,as,rfl,ok⟩) (by rw[XH];exact r1),hR,fun F2 H2 v p r' hr x2 hp ok'=>q F2 H2 v p r' hr (x1.trans x2) (fun b hb=>x1.hh.free (hp b hb)) ok'⟩
def Uu {R:List OT->(OT->Prop)->Prop}{t:TA}{E:XK}{ts:List OT}{d:PyData}(hm:NoH m)(e:ρ[i]?=some (some (.zow (Zo C N))))(h:Zx K t ρ ts)(hR:R (.zow (Zo C N)::ts) (fun r=>r=.fz d)):Qt K (Vr C m (QY K R) [] E (Q8 i) t) ρ d:=EvO.e (Zq.o (Y7 hm e h hR))
def WH {t:TE}{v:V}{Φ:OT->Prop}(i:Nat)(e:ρ[i]?=some (some (.own v (QU C N))))(hf:∀r,Φ r->YB r)(h:Zq K t (ρ.set i (some (.zow (Zo C N)))) Φ):Zq K t ρ Φ :=
 Rc i e (fun a b c=>QU.fz a b c) hf h
def Gj {t:TE}{v:V}{d:PyData}{u:V}(i:Nat)(e:ρ[i]?=some (some (.own v (QU C N))))(hf:Vh d=some u)(h:Qt K t (ρ.set i (some (.zow (Zo C N)))) d):Qt K t ρ d :=
 EvO.e (Zq.o (WH (Φ:=fun r=>r=.fz d) i e (fun r hr=>by subst hr;exact Uq hf) (h.o.d rfl)))
def B2 {t:TT}{v:V}{b:Bool}(i:Nat)(e:ρ[i]?=some (some (.own v (QU C N))))(h:Zh K t (ρ.set i (some (.zow (Zo C N)))) b):Zh K t ρ b:=fun H0 F σ H Q S q=>by
 obtain⟨p,hp,S'⟩:=S.freezeZ e (fun a b c=>QU.fz a b c);exact h H0 _ σ H Q S' fun F' H' x=>q _ H' (WG (fun a ha=>⟨(hp a ha).1,(hp a ha).2.1⟩) x)
def QB.hand {v:V}{H0 F H:Hp}{σ:St}(S:QB K H0 F ρ σ H)(e:ρ[i]?=some (some (.own v (QU C N)))) :
 ∃a dx k g d m y xs as,v=.ref a/\σ[i]?=some (some (.ref a))/\HandOk C N F H a dx k g d m y xs as/\(∀b∈a::dx::k::g::d::m::as,H0 b=none/\F b=none/\H b≠none) /\
  ∀(H':Hp) (N':HandS) (y':V) (xs':List (Key×V)) (as':Qg),Q4 F H'->(∀b,b∉a::dx::k::g::d::m::as->H b≠none->H' b=H b)->(∀b,H b≠none->H' b≠none) ->
   HandOk C N' F H' a dx k g d m y' xs' as'->(∀b∈as',b∈as\/(H b=none/\H0 b=none))->QB K H0 F (ρ.set i (some (.own v (QU C N')))) σ H':=by
 obtain⟨e1,p,⟨a,dx,k,g,d,m,y,xs,as,rfl,rfl,ok⟩,hp,w'⟩:=S.writeOwn e;refine⟨a,dx,k,g,d,m,y,xs,as,rfl,e1,ok,hp,fun H' N' y' xs' as' h1 h2 h3 h4 h5=>w' H' _ _ h1 h2 h3 ⟨a,dx,k,g,d,m,y',xs',as',rfl,rfl,h4⟩ fun b hb=>?_⟩;simp only[Xf]at hb ⊢;rcases hb with h|h|h|h|h|h|hb
 ·exact .inl (.inl h)
 ·exact .inl (.inr (.inl h))
 ·exact .inl (.inr (.inr (.inl h)))
 ·exact .inl (.inr (.inr (.inr (.inl h))))
 ·exact .inl (.inr (.inr (.inr (.inr (.inl h)))))
 ·exact .inl (.inr (.inr (.inr (.inr (.inr (.inl h))))))
 ·rcases h5 b hb with z|z
  ·exact .inl (.inr (.inr (.inr (.inr (.inr (.inr z))))))
  ·exact .inr z
def HandOk.same {N':HandS}{F H F' H':Hp}{a dx k g d m dx' k' g' d' m':Addr}{y y':V}{xs xs':List (Key×V)}{as as':Qg}
 (ok:HandOk C N F H a dx k g d m y xs as) (ok':HandOk C N' F' H' a dx' k' g' d' m' y' xs' as') (s:H' a=H a):dx'=dx/\k'=k/\g'=g/\d'=d/\m'=m/\y'=y:=by
 have h:=ok'.ins.2;rw[s,ok.ins.2]at h;injection h with h;injection h with _ h1 h2;simp only[hfs,List.cons.injEq,Prod.mk.injEq,true_and,and_true,V.ref.injEq]at h2;obtain⟨z0,_,z1,z2,z3,z4⟩:=h2
 exact⟨h1.symm,z1.symm,z2.symm,z3.symm,z4.symm,z0.symm⟩
def HandOk.setKnown {F H:Hp}{a dx k g d m:Addr}{y:V}{xs:List (Key×V)}{as:Qg}(ok:HandOk C N F H a dx k g d m y xs as){ns:Qd}{zs:List V}(hr:Qv F zs ns) :
 HandOk C { N with known:=ns } F (upd H k (.lst zs)) a dx k g d m y xs as:=by
 obtain⟨nd,⟨i1,i2⟩,⟨o1,o2⟩,yd,⟨k1,kx,k2,k3⟩,⟨g1,gx,g2,g3⟩,⟨d1,d2,d3⟩,⟨m1,m2,m3⟩⟩:=ok;have nd':=nd;simp only[Xu,Xf,not_or]at nd';obtain⟨⟨a1,a2,_⟩,⟨b1,_⟩,⟨c1,c2,c3,c4⟩,_⟩:=nd'
 exact⟨nd,⟨i1,by rw[Qr a2];exact i2⟩,⟨o1,by rw[Qr b1];exact o2⟩,yd,⟨k1,zs,QA,hr⟩,⟨g1,gx,by rw[Qr (Ne.symm c1)];exact g2,g3⟩,⟨d1,by rw[Qr (Ne.symm c2)];exact d2,d3⟩,⟨m1,by rw[Qr (Ne.symm c3)];exact m2,m3.other c4⟩⟩
def HandOk.setGiven {F H:Hp}{a dx k g d m:Addr}{y:V}{xs:List (Key×V)}{as:Qg}(ok:HandOk C N F H a dx k g d m y xs as){ns:Ql}{zs:List V}(hr:Qv F zs (ns.map PyData.int)) :
 HandOk C { N with given:=ns } F (upd H g (.lst zs)) a dx k g d m y xs as:=by
 obtain⟨nd,⟨i1,i2⟩,⟨o1,o2⟩,yd,⟨k1,kx,k2,k3⟩,⟨g1,gx,g2,g3⟩,⟨d1,d2,d3⟩,⟨m1,m2,m3⟩⟩:=ok;have nd':=nd;simp only[Xu,Xf,not_or]at nd';obtain⟨⟨a1,a2,a3,_⟩,⟨b1,b2,_⟩,⟨c1,_⟩,⟨f1,f2,f3⟩,_⟩:=nd'
 exact⟨nd,⟨i1,by rw[Qr a3];exact i2⟩,⟨o1,by rw[Qr b2];exact o2⟩,yd,⟨k1,kx,by rw[Qr c1];exact k2,k3⟩,⟨g1,zs,QA,hr⟩,⟨d1,by rw[Qr (Ne.symm f1)];exact d2,d3⟩,⟨m1,by rw[Qr (Ne.symm f2)];exact m2,m3.other f3⟩⟩
variable {te:TE}{v:V}
def Ab (c:HandC K C)(e:ρ[i]?=some (some (.own v (QU C N)))){n:PyData}(h:Qt K te ρ n)(hl:N.known.length<1000)
 (hn:D.nx (ρ.set i (some (.own v (QU C { N with known:=N.known++[n] }))))):Q1 K (Vi (tBM K "list" V2 (ZL K (Q8 i) "known") (QF te QO))) ρ D:=fun F0 H0 F σ H E x S C'=>by
 obtain⟨a,dx,k,g,d,m,y,xs,as,rfl,e1,ok,_⟩:=S.hand e;refine⟨_,e1,a,C,dx,_,.ref k,rfl,ok.ins.2,c.cl,c.kn,rfl,.inl ⟨rfl,_,SqL.of ok.known.2.choose_spec.1⟩,h H0 F σ H _ S fun F1 H1 u x1 r1=>?_⟩;obtain⟨a',dx',k',g',d',m',y',xs',as',ea,g1,ok',hp,wr⟩:=(S.ext x1).hand e
 cases ea
 obtain⟨rfl,rfl,rfl,rfl,rfl,rfl⟩:=ok.same ok' ((x1.hh _ _ ok.ins.2).trans ok.ins.2.symm);obtain⟨q1,qx,q2,q3⟩:=ok'.known;have hr0:=hp k' (by simp);refine⟨k',qx,u,rfl,rfl,q2,by rw[q3.length];exact ZH (by omega),?_⟩;exact C'.nx F1 σ _ _ ((x.trans x1).wr hr0.1 hr0.2.1) (wr _ { N with known:=N.known++[n] } y' xs' as' ((S.ext x1).sub.upd hr0.2.1) (fun b hb _=>Qr fun z=>hb (by rw[z];simp)) Vw (ok'.setKnown (q3.snoc r1)) (fun b hb=>.inl hb)) hn
def Cz (c:HandC K C)(e:ρ[i]?=some (some (.own v (QU C N)))){n:Int}(h:Qt K te ρ (.int n))(hl:N.given.length<1000)
 (hn:D.nx (ρ.set i (some (.own v (QU C { N with given:=N.given++[n] }))))):Q1 K (Vi (tBM K "list" V2 (ZL K (Q8 i) "given") (QF te QO))) ρ D:=fun F0 H0 F σ H E x S C'=>by
 obtain⟨a,dx,k,g,d,m,y,xs,as,rfl,e1,ok,_⟩:=S.hand e;refine⟨_,e1,a,C,dx,_,.ref g,rfl,ok.ins.2,c.cl,c.gv,rfl,.inl ⟨rfl,_,SqL.of ok.given.2.choose_spec.1⟩,h H0 F σ H _ S fun F1 H1 u x1 r1=>?_⟩;obtain⟨a',dx',k',g',d',m',y',xs',as',ea,g1,ok',hp,wr⟩:=(S.ext x1).hand e
 cases ea
 obtain⟨rfl,rfl,rfl,rfl,rfl,rfl⟩:=ok.same ok' ((x1.hh _ _ ok.ins.2).trans ok.ins.2.symm);obtain⟨q1,qx,q2,q3⟩:=ok'.given;have hr0:=hp g' (by simp);refine⟨g',qx,u,rfl,rfl,q2,by rw[q3.length,Xn];exact ZH (by omega),?_⟩;exact C'.nx F1 σ _ _ ((x.trans x1).wr hr0.1 hr0.2.1) (wr _ { N with given:=N.given++[n] } y' xs' as' ((S.ext x1).sub.upd hr0.2.1) (fun b hb _=>Qr fun z=>hb (by rw[z];simp)) Vw (ok'.setGiven (by rw[Xy];exact q3.snoc r1)) (fun b hb=>.inl hb)) hn
end
def spP (K:W.Frag){α:Type}(Φ:α->OwnP)(R:α->List OT->(OT->α->Prop)->Prop):Sp:=fun vs H Q _=>∃F v0 vs' p ts N Ψ,vs=v0::vs'/\KTs K F/\Q4 F H/\Args K F vs' ts/\(Φ N).ok K F H v0 p/\R N ts Ψ /\
 ∀F' H' p' N' v r q,Ψ r N'->ExtN p F H F' H'->(Φ N').ok K F' H' v0 p'->(∀b∈p',b∈p\/H b=none)->Zm K F' H' v r q->(∀b∈q,(b∈p\/H b=none)/\b∉p')->Q v H'
abbrev spH (K:W.Frag)(C:Addr)(R:HandS->List OT->(OT->HandS->Prop)->Prop):Sp:=spP K (QU C) R
def UA (K:W.Frag)(C CR:Addr)(f:Str)(R:HandS->List OT->(OT->HandS->Prop)->Prop)(Rx:List OT->(Qd->Prop)->Prop):Sp:=fun vs H Q E=>(∃RR,E=XE CR RR/\VE CR RR/\spH K C R vs H Q E)\/spX K CR f (fun _ _=>False) Rx vs H Q E
def U9 (K:W.Frag)(C:Addr)(R:HandS->List OT->(OT->HandS->Prop)->Prop)(R2:List OT->(OT->Prop)->Prop):Sp:=fun vs H Q E=>spH K C R vs H Q E\/QY K R2 vs H Q E
def EvR (K:W.Frag)(t:TS)(ρ:Q6)(Ψ:OT->Q6->Prop):Prop := ∀(F0 H0 F:Hp) (σ:St) (H:Hp) (E:Ends),Q0 F0 H0 F H->QB K H0 F ρ σ H ->
 (∀F' σ' H' ρ' v r q,Q0 F0 H0 F' H'->QB K H0 F' ρ' σ' H'->Zm K F' H' v r q->(∀a∈q,H0 a=none)->(∀a∈q,∀u t' q',ρ'[0]?=some (some t')->σ'[0]?=some (some u)->Zm K F' H' u t' q'->a∉q')->Ψ r ρ'->E.rt v H')->t E σ H
section
variable {K:W.Frag}{ρ:Q6}{te:TE}{t u:TS}{Ψ:OT->Q6->Prop}
def ZJ (M:Q6->Prop)(h1:Q1 K t ρ { nx:=M,rt:=fun _=>False })(h2:∀ρ',M ρ'->EvR K u ρ' Ψ):EvR K (YD t u) ρ Ψ:=fun F0 H0 F σ H E x S k =>
 h1 F0 H0 F σ H _ x S ⟨fun F' σ' H' ρ' x' S' e=>h2 ρ' e F0 H0 F' σ' H' E x' S' k,fun _ _ _ _ _ _ _ _ z=>z.elim,fun _ _ _ _ _ _ z=>False.elim z,fun _ _ _ _ _ _ z=>False.elim z⟩
def GV {d:PyData}(h:Qt K te ρ d)(hr:Ψ (.fz d) ρ):EvR K (Yl te) ρ Ψ:=fun F0 H0 F σ H E x S k =>
 h H0 F σ H _ S fun F' H' v x' r=>k F' σ H' ρ v (.fz d) [] (x.trans x') (S.ext x') ⟨rfl,r⟩ (fun _ z=>nomatch z) (fun _ z=>nomatch z) hr
def L7 {j:Nat}{r:OT}(hj:j≠0)(e:ρ[j]?=some (some r))(hr:Ψ r ρ):EvR K (Yl (Q8 j)) ρ Ψ:=fun F0 H0 F σ H E x S k=>by
 obtain⟨fp,h,h4,h5⟩:=S.fp;obtain⟨v,e1,ok⟩:=h j _ e;refine⟨v,e1,k F σ H ρ v r (fp j) x S ok (fun a ha=>(h5 j a ha).1) (fun a ha u t' q' e2 e3 ok' hq=>?_) hr⟩;obtain⟨v2,f1,f2⟩:=h 0 _ e2;rw[e3]at f1;cases f1;exact hj (h4 j 0 a ha (Up (K:=K) f2 ok' a hq))
variable {α:Type}{Φ:α->OwnP}{N:α}
def AJ {L:Qh}{vs:List V}{ts:List OT}{F H:Hp}{v0:V}{p:Qg}(kt:KTs K F)(sm:Q4 F H)(ha:Args K F vs ts)(ok:(Φ N).ok K F H v0 p) :
 QB K (fun b=>if b∈p then none else H b) F (some (.own v0 (Φ N))::(ts.map some++List.replicate (L.length-(ts.length+1)) none)) (start L (v0::vs)) H:=by
 have th:=fun b hb=>(Φ N).there ok b hb;refine⟨kt,sm,?_,fun j=>if j=0 then p else [],fun j t' e=>?_,fun j k' b hb hc=>?_,fun j b hb=>?_⟩
 ·unfold start
  simp[ha.length]
 ·cases j with
  |zero =>
    simp at e
    subst e;refine⟨v0,?_,rfl,?_⟩
    ·unfold start
     simp
    ·simp only[if_true]
     exact ok
  |succ i =>
    rw[U5]at e;have hlt:i<ts.length:=by
     by_cases z:i<ts.length
     ·exact z
     ·rw[XY (by simpa using z)]at e
      have:=List.mem_of_getElem? e
      simp at this
    rw[XM (by simpa using hlt),Xt]at e;have e':ts[i]?=some t':=by
     cases z:ts[i]? with
     |none=>rw[z]at e;simp at e
     |some w=>rw[z]at e;simp at e;rw[e]
    obtain⟨v,e1,e2⟩:=ha.get (H:=H) i t' e';refine⟨v,?_,?_⟩
    ·unfold start
     have hl2:i<vs.length:=by rw[ha.length];exact hlt
     rw[Xv,WQ,U5,XM (by simpa using hl2),Xt,e1];rfl
    ·simp only[Nat.add_one_ne_zero,if_false]
     exact e2
 ·by_cases hj:j=0
  ·by_cases hk:k'=0
   ·rw[hj,hk]
   ·simp[hk]at hc
  ·simp[hj]at hb
 ·by_cases hj:j=0
  ·simp only[Xe hj]at hb
   exact⟨by simp[hb],(th b hb).2⟩
  ·simp[hj]at hb
def B1 {L:Qh}{R:α->List OT->(OT->α->Prop)->Prop}{vs:List V}{ts:List OT}{F H:Hp}{v0:V}{p:Qg}{Ψ:OT->α->Prop}{Q:VK}{t:TS}{q0:St->Hp->Prop}
 (h:EvR K t (some (.own v0 (Φ N))::(ts.map some++List.replicate (L.length-(ts.length+1)) none)) (fun r ρ'=>∃M',Ψ r M'/\ρ'[0]?=some (some (.own v0 (Φ M')))))
 (kt:KTs K F) (sm:Q4 F H) (ha:Args K F vs ts) (ok:(Φ N).ok K F H v0 p)
 (q:∀F' H' p' N' v r q,Ψ r N'->ExtN p F H F' H'->(Φ N').ok K F' H' v0 p'->(∀b∈p',b∈p\/H b=none)->Zm K F' H' v r q->(∀b∈q,(b∈p\/H b=none)/\b∉p')->Q v H') :
 t { nx:=q0,rt:=Q } (start L (v0::vs)) H:=by
 have h0:∀b,(fun b=>if b∈p then none else H b:Hp) b=none->b∈p\/H b=none:=fun b hb=>by
  by_cases z:b∈p
  ·exact .inl z
  ·simp only[Xc z]at hb;exact .inr hb
 refine h F (fun b=>if b∈p then none else H b) F _ H _ ⟨fun b o hb=>?_,Q4.refl _,sm,fun _ h=>.inl h⟩ (AJ kt sm ha ok) fun F' σ' H' ρ' v r qq x' S' sok hq hd ⟨M',hM,e0⟩=>?_
 ·by_cases z:b∈p
  ·simp[z]at hb
  ·simp only[Xc z]at hb;exact hb
 ·obtain⟨fp,g1,g2,g3⟩:=S'.fp
  obtain⟨u,u1,rfl,ok'⟩:=g1 0 _ e0;refine q F' H' (fp 0) M' v r qq hM ⟨fun b o nb hb=>x'.hh b o (by simp only[Xc nb];exact hb),x'.ff,x'.fh,fun b hb=>?_⟩ ok' (fun b hb=>h0 b (g3 0 b hb).1) sok (fun b hb=>⟨h0 b (hq b hb),hd b hb _ _ _ e0 u1 ⟨rfl,ok'⟩⟩)
  rcases x'.fr b hb with z|z
  ·exact .inl z
  ·exact .inr ((h0 b z).symm)
end
def GH (P:Program)(w:World)(K:W.Frag)(mg:Str->Qf)(base:Heap)(C:Addr)(m:Str)(ps:Qh)(k:Nat)(sp:Sp):Prop :=
 ∃f fd,Meth K C m f/\Vd K fd ps []/\FnOk P w K mg base (CX1 P w) k f fd ps sp
section
variable {P:Program}{w:World}{K:W.Frag}{mg:Str->Qf}{base:Heap}{C CR:Addr}
def Mf.evHX {m qual fl:Str}{st:Stmt}{L ps:Qh}{k:Nat}{R:HandS->List OT->(OT->HandS->Prop)->Prop}{Rx:List OT->(Qd->Prop)->Prop}(D:Mf K C m qual st ps)(S:Qp L ps (Qx st))(len:∀M ts Ψ,R M ts Ψ->ts.length+1=ps.length)(lenx:∀ts Φ,Rx ts Φ->ts.length=ps.length)(hpn:ps.length<=L.length)
 (hret:∀(f:Addr) (cdv:Value) (A:Around) (outer:List Env) (s:Shared) (H:Hp) RR (v:V) (M:HandS) (ts:List OT) (Ψ:OT->HandS->Prop),Room k (A.deeper (envOfC qual (Qx st) s.heap.objs.size f cdv))->VE CR RR->R M ts Ψ ->
  ∃t,PSs (cx1 P w K mg base L qual (Qx st) f cdv A outer s H (XE CR RR)) (Zg st) t/\EvR K t (some (.own v (QU C M))::(ts.map some++List.replicate (L.length-(ts.length+1)) none)) (fun r ρ'=>∃M',Ψ r M'/\ρ'[0]?=some (some (.own v (QU C M')))))
 (hexc:∀(f:Addr) (cdv:Value) (A:Around) (outer:List Env) (s:Shared) (F H:Hp) RR (ts:List OT) (Φx:Qd->Prop),Room k (A.deeper (envOfC qual (Qx st) s.heap.objs.size f cdv))->VE CR RR->(∀F' H' e dct d,Φx d->Q0 F H F' H'->H e=none->Fld fl e F' H' H dct d->RR e dct H')->Rx ts Φx ->
  ∃t,PSs (cx1 P w K mg base L qual (Qx st) f cdv A outer s H (XE CR RR)) (Zg st) t/\EvZ K F H t (ts.map some++List.replicate (L.length-ts.length) none)) :
 GH P w K mg base C m ps (k+1) (UA K C CR fl R Rx):=by
 obtain⟨f,fd,F,hm,hb⟩:=D.ex;refine⟨f,fd,hm,hb,F.okX S (fun vs H Q E h=>?_) fun cdv A outer s H vs Q E hr h=>?_⟩
 ·rcases h with ⟨RR,_,_,F,v0,vs',p,ts,M,Ψ,e,_,_,ha,_,hR,_⟩|⟨F,ts,_,_,ha,RR,_,_,q⟩
  ·rw[e,XJ,ha.length];exact len _ _ _ hR
  ·rcases q with ⟨_,z,_⟩|⟨r,hR,_⟩
   ·exact z.elim
   ·exact ha.length.trans (lenx ts r hR)
 ·rcases h with ⟨RR,eE,sts,F,v0,vs',p,ts,M,Ψ,e,kt,sm,ha,ok,hR,q⟩|⟨F,ts,kt,sm,ha,RR,eE,sts,q⟩
  ·subst e eE
   obtain⟨t,h1,h2⟩:=hret f cdv A outer s H RR v0 M ts Ψ hr sts hR
   exact⟨t,h1,B1 (R:=R) h2 kt sm ha ok q⟩
  ·subst eE
   rcases q with ⟨_,z,_⟩|⟨Φx,hR,q⟩
   ·exact z.elim
   ·obtain⟨t,h1,h2⟩:=hexc f cdv A outer s F H RR ts Φx hr sts q hR
    exact⟨t,h1,h2 F (start L vs) H _ (Q0.refl sm) (BA (ps:=ps) kt sm ha (by rw[lenx ts Φx hR];exact hpn))⟩
def Df.evH2 {x:Str}{st:Stmt}{L ps:Qh}{k:Nat}{R:HandS->List OT->(OT->HandS->Prop)->Prop}{R2:List OT->(OT->Prop)->Prop}(D:Df K mg x st ps)(S:Qp L ps (Qx st))(len:∀M ts Ψ,R M ts Ψ->ts.length+1=ps.length)(len2:∀ts Φ,R2 ts Φ->ts.length=ps.length)(hpn:ps.length<=L.length)
 (hret:∀(f:Addr) (cdv:Value) (A:Around) (outer:List Env) (s:Shared) (H:Hp) (E:XK) (v:V) (M:HandS) (ts:List OT) (Ψ:OT->HandS->Prop),Room k (A.deeper (envOfC x (Qx st) s.heap.objs.size f cdv))->R M ts Ψ ->
  ∃t,PSs (Vb CX0 P w K mg base L x (Qx st) f cdv A outer s H E).nox (Zg st) t/\EvR K t (some (.own v (QU C M))::(ts.map some++List.replicate (L.length-(ts.length+1)) none)) (fun r ρ'=>∃M',Ψ r M'/\ρ'[0]?=some (some (.own v (QU C M')))))
 (XaS:∀(f:Addr) (cdv:Value) (A:Around) (outer:List Env) (s:Shared) (H:Hp) (E:XK) (ts:List OT) (Φ:OT->Prop),Room k (A.deeper (envOfC x (Qx st) s.heap.objs.size f cdv))->R2 ts Φ ->
  ∃t,PSs (Vb CX0 P w K mg base L x (Qx st) f cdv A outer s H E).nox (Zg st) t/\Q1 K t (ts.map some++List.replicate (L.length-ts.length) none) { nx:=fun _=>Φ (.fz .none),rt:=Φ }):QD P w K mg base x ps (k+1) (U9 K C R R2):=by
 obtain⟨f,fd,F,hm,hb⟩:=D.ex;refine⟨f,fd,hm,F.kp,hb,F.ok S (fun vs H Q E h=>?_) fun cdv A outer s H vs Q E hr h=>?_⟩
 ·rcases h with ⟨F,v0,vs',p,ts,M,Ψ,e,_,_,ha,_,hR,_⟩|⟨F,ts,Φ,_,_,ha,hR,_⟩
  ·rw[e,XJ,ha.length];exact len _ _ _ hR
  ·exact ha.length.trans (len2 ts Φ hR)
 ·rcases h with ⟨F,v0,vs',p,ts,M,Ψ,e,kt,sm,ha,ok,hR,q⟩|⟨F,ts,Φ,kt,sm,ha,hR,q⟩
  ·subst e
   obtain⟨t,h1,h2⟩:=hret f cdv A outer s H E v0 M ts Ψ hr hR
   exact⟨t,h1,B1 (R:=R) h2 kt sm ha ok q⟩
  ·obtain⟨t,h1,h2⟩:=XaS f cdv A outer s H E ts Φ hr hR
   refine⟨t,h1,h2 F H F (start L vs) H _ (Q0.refl sm) (BA (ps:=ps) kt sm ha (by rw[len2 ts Φ hR];exact hpn)) ⟨fun F' σ' H' ρ' x' _ e=>?_,fun F' H' v r' p x' hp ok e=>q F' H' v p r' e x' hp ok,fun _ _ _ _ _ _ z=>False.elim z,fun _ _ _ _ _ _ z=>False.elim z⟩⟩;exact q F' H' _ [] _ e x' (fun _ z=>nomatch z) ⟨rfl,.non⟩
end
section
variable {X:Cx}
def Jo {C:Addr}{m:Str}{pos apos:Pos}{o e:Expr}{es:Qi}{ta:TE}{t:TA}{ps:Qh}{j k:Nat}{sp:Sp}{pl:Sem Bool}(M:Zi X.prog X.w X.K X.mg X.base C m ps j sp)(c:HandC X.K C)(hr:Room k X.A)(he:PE X o ta)(ha:PA X (e::es) t)(hj:j<=k:=by walk_at"j")
 (hst:starEach (e::es) X.env=(false,eval e X.env)::starEach es X.env:=by rfl) (hpl:(backTo pos (starEach es X.env)).any (·.1)=false:=by rfl)
 (ht:eval (.Call (.Attribute o m apos) (e::es) [] pos) X.env=(do
  let ov <- eval o X.env
  standAt apos.atName
  let (f,first) <- holding [ov] (getMethod ov m pl)
  callWith pos f first (backTo pos (starEach (e::es) X.env)) (backToKw pos (keywordEach [] X.env))):=by rfl) :
 PE X (.Call (.Attribute o m apos) (e::es) [] pos) (Vr C m sp [] E0 ta t):=by
 obtain⟨f,fd,hm,hb,F⟩:=M;exact Dp (pl:=pl) he c.cl hm F (hr.mono hj) hb .nil Jc ha hst hpl ht
def VR {C:Addr}{m:Str}{pos apos:Pos}{o:Expr}{ta:TE}{ps:Qh}{j k:Nat}{sp:Sp}{pl:Sem Bool}(M:Zi X.prog X.w X.K X.mg X.base C m ps j sp)(c:HandC X.K C)(hr:Room k X.A)(he:PE X o ta)(hj:j<=k:=by walk_at"j")
 (ht:eval (.Call (.Attribute o m apos) [] [] pos) X.env=(do
  let ov <- eval o X.env
  standAt apos.atName
  let (f,first) <- holding [ov] (getMethod ov m pl)
  callWith pos f first (backTo pos (starEach [] X.env)) (backToKw pos (keywordEach [] X.env))):=by rfl) :
 PE X (.Call (.Attribute o m apos) [] [] pos) (Vr C m sp [] E0 ta QO):=by
 obtain⟨f,fd,hm,hb,F⟩:=M;exact Cf (pl:=pl) he c.cl hm F (hr.mono hj) hb .nil Jc ht
def RA {C:Addr}{m:Str}{pos apos:Pos}{o e:Expr}{es:Qi}{ta:TE}{t:TA}{ps:Qh}{j k:Nat}{sp:Sp}{E:XK}{pl:Sem Bool}(M:GH X.prog X.w X.K X.mg X.base C m ps j sp)(c:HandC X.K C)(hr:Room k X.A)(hx:VU (CX1 X.prog X.w) X E)(he:PE X o ta)(ha:PA X (e::es) t)(hj:j<=k:=by walk_at"j")
 (hst:starEach (e::es) X.env=(false,eval e X.env)::starEach es X.env:=by rfl) (hpl:(backTo pos (starEach es X.env)).any (·.1)=false:=by rfl)
 (ht:eval (.Call (.Attribute o m apos) (e::es) [] pos) X.env=(do
  let ov <- eval o X.env
  standAt apos.atName
  let (f,first) <- holding [ov] (getMethod ov m pl)
  callWith pos f first (backTo pos (starEach (e::es) X.env)) (backToKw pos (keywordEach [] X.env))):=by rfl) :
 PE X (.Call (.Attribute o m apos) (e::es) [] pos) (Vr C m sp [] E ta t):=by
 obtain⟨f,fd,hm,hb,F⟩:=M;exact Dp (pl:=pl) he c.cl hm F (hr.mono hj) hb .nil hx ha hst hpl ht
end
section
variable {K:W.Frag}{ρ:Q6}{tx:TE}{t:TA}{D:PEnds}{i j:Nat}{v:V}{C CR:Addr}{N:HandS}{m f:Str}{RR:Addr->Qj->Hp->Prop}{ts:List OT}
def YT {α:Type}{Φ:α->OwnP}{N:α}{F0 H0 F H:Hp}{σ:St}(S:QB K H0 F ρ σ H)(x:Q0 F0 H0 F H)(e:ρ[i]?=some (some (.own v (Φ N)))) :
 ∃p,σ[i]?=some (some v)/\(Φ N).ok K F H v p/\∀F' H' p' N',ExtN p F H F' H'->(Φ N').ok K F' H' v p'->(∀b∈p',b∈p\/H b=none) ->
  Q0 F0 H0 F' H'/\QB K H0 F' (ρ.set i (some (.own v (Φ N')))) σ H'/\∀(q:Qg),(∀b∈q,(b∈p\/H b=none)/\b∉p')->(∀b∈q,H0 b=none)/\∀b∈q,∀(j:Nat) (u:V) (t':OT) (q':Qg),(ρ.set i (some (.own v (Φ N'))))[j]?=some (some t')->σ[j]?=some (some u)->Zm K F' H' u t' q'->b∉q':=by
 obtain⟨kt,h1,h2,fp,h3,h4,h5⟩:=S;obtain⟨u,e1,rfl,ok⟩:=h3 i _ e;have hlt:=(Xh.mp e).1;refine⟨fp i,e1,ok,fun F' H' p' N' xn ok' sub=>?_⟩;have out:∀j,j≠i->∀b∈fp j,b∉fp i:=fun j hj b hb z=>hj (h4 j i b hb z)
 have hH:∀j,j≠i->∀b∈fp j,H' b=H b:=fun j hj b hb=>by
  obtain⟨o,ho⟩:=Bn (h5 j b hb).2;rw[xn.hh b o (out j hj b hb) ho,ho]
 have mv:∀j t' u',j≠i->Zm K F H u' t' (fp j)->Zm K F' H' u' t' (fp j):=fun j t' u' hj f2=>by
  refine f2.move xn.ff (fun b hb=>?_) (hH j hj)
  cases z:F' b with
  |none=>rfl
  |some o =>
    rcases xn.fr b (Zt z) with y|y|y
    ·exact Xk (f2.there b hb).1 y
    ·exact Xk y (h5 j b hb).2
    ·exact Xk y (out j hj b hb)
 refine⟨⟨fun b o hb=>xn.hh b o (fun z=>by rw[(h5 i b z).1]at hb;cases hb) (x.hh b o hb),x.ff.trans xn.ff,xn.fh,fun b hb=>?_⟩,⟨kt.mono xn.ff,xn.fh,by simp[h2],fun j=>if j=i then p' else fp j,fun j t' e'=>?_,fun j k b hb hc=>?_,fun j b hb=>?_⟩,fun q hq=>⟨fun b hb=>?_,fun b hb j u t' q' m1 m2 ok2 hb'=>?_⟩⟩
 ·rcases xn.fr b hb with z|z|z
  ·exact x.fr b z
  ·exact .inr (x.hh.free z)
  ·exact .inr (h5 i b z).1
 ·by_cases hj:j=i
  ·subst hj
   rw[Xl hlt]at e';cases e';refine⟨_,e1,rfl,?_⟩;simp only[if_true];exact ok'
  ·rw[Xr (Ne.symm hj)]at e'
   obtain⟨u',f1,f2⟩:=h3 j t' e';refine⟨u',f1,?_⟩;simp only[Xc hj];exact mv j t' u' hj f2
 ·by_cases hj:j=i
  ·by_cases hk:k=i
   ·omega
   ·simp only[Xe hj]at hb
    simp only[Xc hk]at hc;rcases sub b hb with z|z
    ·exact Xk (h4 k i b hc z) hk
    ·exact Xk z (h5 k b hc).2
  ·simp only[Xc hj]at hb
   by_cases hk:k=i
   ·simp only[Xe hk]at hc
    rcases sub b hc with z|z
    ·exact Xk (h4 j i b hb z) hj
    ·exact Xk z (h5 j b hb).2
   ·simp only[Xc hk]at hc
    exact h4 j k b hb hc
 ·by_cases hj:j=i
  ·simp only[Xe hj]at hb
   refine⟨?_,((Φ N').there ok' b hb).2⟩
   rcases sub b hb with z|z
   ·exact(h5 i b z).1
   ·exact x.hh.free z
  ·simp only[Xc hj]at hb
   exact⟨(h5 j b hb).1,by rw[hH j hj b hb];exact(h5 j b hb).2⟩
 ·rcases(hq b hb).1 with z|z
  ·exact(h5 i b z).1
  ·exact x.hh.free z
 ·by_cases hj:j=i
  ·subst hj
   rw[Xl hlt]at m1;cases m1;rw[e1]at m2;cases m2
   exact(hq b hb).2 ((Φ N').uniq ok' ok2.2 b hb')
  ·rw[Xr (Ne.symm hj)]at m1
   obtain⟨u',f1,f2⟩:=h3 j t' m1;rw[f1]at m2;cases m2;have hb2:=Up (K:=K) (mv j t' u hj f2) ok2 b hb'
   rcases(hq b hb).1 with z|z
   ·exact out j hj b hb2 z
   ·exact(h5 j b hb2).2 z
def QU.at {F H:Hp}{p:Qg}(h:(QU C N).ok K F H v p):∃a dx y n k g d e,v=.ref a/\H a=some (.ins C dx (hfs y n k g d e)):=by
 obtain⟨a,dx,k,g,d,m,y,xs,as,rfl,_,o⟩:=h
 exact⟨a,dx,y,_,k,g,d,m,rfl,o.ins.2⟩
def Fs {R:HandS->List OT->(OT->HandS->Prop)->Prop}{Rx:List OT->(Qd->Prop)->Prop}{Ψ:OT->HandS->Prop}{d0:PyData}{w0:V}(hm:NoH m)(e:ρ[i]?=some (some (.own v (QU C N))))(hx:Qt K tx ρ d0)(hf:Vh d0=some w0)(hA:Zx K t ρ ts)(hR:R N ts Ψ)(st:VE CR RR)
 (hn:∀r N',Ψ r N'->∃d w,r=.fz d/\Vh d=some w/\D.nx ((ρ.set i (some (.own v (QU C N')))).set j (some (.ol [d0,d])))) :
 Q1 K (ZX (WW (QF tx (QF (Vr C m (UA K C CR f R Rx) [] (XE CR RR) (Q8 i) t) QO))) (ZG j)) ρ D:=fun F0 H0 F σ H E x S C' =>
 hx H0 F σ H _ S fun F1 H1 u x1 r1=>by
  obtain⟨p0,s0,ok0,_⟩:=YT (S.ext x1) (x.trans x1) e;obtain⟨a0,dx,y,n,k,g,d,e',rfl,h1⟩:=QU.at ok0;refine⟨.ref a0,s0,a0,dx,_,rfl,h1,hm _ _ _ _ _ _,hA H0 F1 σ H1 _ (S.ext x1) fun F2 H2 vs x2 r2=>.inl ⟨RR,rfl,st,?_⟩⟩;obtain⟨p,s1,okp,fin⟩:=YT (S.ext (x1.trans x2)) (x.trans (x1.trans x2)) e;refine⟨F2,_,vs++[],p,ts,N,Ψ,rfl,(S.ext (x1.trans x2)).kt,x2.fh,by rw[XH];exact r2,okp,hR,fun F' H' p' N' v' r q hr xn ok' sub sok hq=>?_⟩;obtain⟨d,w,rfl,hfd,hnx⟩:=hn r N' hr;obtain⟨X',S',_⟩:=fin F' H' p' N' xn ok' sub;refine⟨Yt (ZH Wz),fun z hz=>?_⟩;have hp:H' z=none:=hz;have X2:Q0 F' H' F' (upd H' z (.lst [u,v'])):=Q0.own S'.sub hp;have S2:=S'.ext X2;refine C'.nx F' _ _ _ (X'.trans X2) (S2.set (t:=.ol [d0,d]) (p:=[z]) ⟨z,rfl,rfl,S'.sub.free hp,_,QA,.cons (r1.thin hf) (.cons sok.2 .nil)⟩ (fun b hb=>?_) (hn:=fun b hb k u' t' q' m1 m2 ok2 hb'=>?_)) hnx
  ·cases Xg.mp hb
   exact X'.hh.free hp
  ·cases Xg.mp hb
   obtain⟨fp,g1,g2,g3⟩:=S'.fp;obtain⟨u2,f1,f2⟩:=g1 k t' m1;rw[f1]at m2;cases m2
   exact(g3 k z (Up (K:=K) (f2.ext X2) ok2 z hb')).2 hp
def CN {R:HandS->List OT->(OT->HandS->Prop)->Prop}{Rx:List OT->(Qd->Prop)->Prop}{Φx:Qd->Prop}{d0:PyData}{F0 H0 H9:Hp}{E:Ends}(hm:NoH m)(e:ρ[i]?=some (some (.zow (Zo C N))))(hx:Qt K tx ρ d0)(hA:Zx K t ρ ts)(hR:Rx (.zow (Zo C N)::ts) Φx)(st:VE CR RR)
 (hq:∀F' H' e dct d,Φx d->Q0 F0 H0 F' H'->H0 e=none->Fld f e F' H' H0 dct d->RR e dct H') {F:Hp} {σ:St} {H:Hp} (x:Q0 F0 H0 F H) (S:QB K H9 F ρ σ H) :
 ZX (WW (QF tx (QF (Vr C m (UA K C CR f R Rx) [] (XE CR RR) (Q8 i) t) QO))) (ZG j) E σ H :=
 hx H9 F σ H _ S fun F1 H1 u x1 r1=>by
  obtain⟨a,dx,k,g,d,m',y,ks,gs,xs,as,e1,ok⟩:=(S.ext x1).hz e;refine⟨_,e1,a,dx,_,rfl,x1.fh _ _ ok.ins,hm _ _ _ _ _ _,hA H9 F1 σ H1 _ (S.ext x1) fun F2 H2 vs x2 r2=>.inr ?_⟩;have X2:=x.trans (x1.trans x2)
  exact⟨F2,_,(S.ext (x1.trans x2)).kt,x2.fh,.zow (Ψ:=Zo C N) ((Zo C N).mono (K:=K) x2.ff ⟨a,dx,k,g,d,m',y,ks,gs,xs,as,rfl,ok⟩) (by rw[XH];exact r2),RR,rfl,st,.inr ⟨Φx,hR,fun F' H' e dct d hd x3 he hf=>hq F' H' e dct d hd (X2.trans x3) (X2.hh.free he) (hf.back X2.hh)⟩⟩
def Fr {R:HandS->List OT->(OT->HandS->Prop)->Prop}{R2:List OT->(OT->Prop)->Prop}{Ψ:OT->HandS->Prop}{E':XK}(hij:i≠j)(e:ρ[i]?=some (some (.own v (QU C N))))(hA:Zx K t ρ ts)(hR:R N ts Ψ)
 (hn:∀r N',Ψ r N'->D.nx ((ρ.set i (some (.own v (QU C N')))).set j (some r))) :
 Q1 K (ZX (VF (U9 K C R R2) [] E' (QF (Q8 i) t)) (ZG j)) ρ D:=fun F0 H0 F σ H E x S C'=>by
 obtain⟨p0,s0,_⟩:=YT S x e;refine⟨_,s0,hA H0 F σ H _ S fun F1 H1 vs x1 r1=>.inl ?_⟩;obtain⟨p,s1,okp,fin⟩:=YT (S.ext x1) (x.trans x1) e;refine⟨F1,_,vs++[],p,ts,N,Ψ,rfl,(S.ext x1).kt,x1.fh,by rw[XH];exact r1,okp,hR,fun F' H' p' N' v' r q hr xn ok' sub sok hq=>?_⟩;obtain⟨X',S',dj⟩:=fin F' H' p' N' xn ok' sub;obtain⟨d1,d2⟩:=dj q hq;exact C'.nx F' _ H' _ X' (S'.set sok d1 (hn:=d2)) (hn r N' hr)
def Sj {R:HandS->List OT->(OT->HandS->Prop)->Prop}{R2:List OT->(OT->Prop)->Prop}{E':XK}{Φ:OT->Prop}(h:Zx K t ρ ts)(hR:R2 ts Φ):Zq K (VF (U9 K C R R2) [] E' t) ρ Φ:=fun H0 F σ H Q S q =>
 h H0 F σ H _ S fun F1 H1 vs x1 r1=>.inr ⟨F1,ts,Φ,(S.ext x1).kt,x1.fh,by rw[XH];exact r1,hR,fun F2 H2 v p r hr x2 hp ok=>q F2 H2 v p r hr (x1.trans x2) (fun a ha=>x1.hh.free (hp a ha)) ok⟩
end
def G7 (C:Addr):Sp:=fun vs H Q _=>∃x dx y,vs=[.ref x,y]/\H x=some (.ins C dx [])/\∀k g d m H',H k=none->H g=none->H d=none->H m=none->[x,k,g,d,m].Nodup ->
 H' x=some (.ins C dx (hfs y 0 k g d m))->H' k=some (.lst [])->H' g=some (.lst [])->H' d=some (.dK [])->H' m=some (.lst [])->(∀b,b∉[x,k,g,d,m]->H' b=H b)->Q .non H'
def M3 (P:Program)(w:World)(K:W.Frag)(mg:Str->Qf)(base:Heap)(x:Str)(C:Addr)(ps:Qh)(k:Nat):Prop :=
 ∃f fd,Mk K C f/\mg x=some (.ref C)/\Vd K fd ps []/\FnOk P w K mg base CX0 k f fd ps (G7 C)
def R5 {X:Cx} {C:Addr} {x:Str} {p pos:Pos} {e:Expr} {es:Qi} {t:TA} {ps:Qh} {j k:Nat} (M:M3 X.prog X.w X.K X.mg X.base x C ps j) (hr:Room k X.A) (ha:PA X (e::es) t) (hj:j+1<=k:=by walk_at"j") (hg:Gl X x:=by rfl) (hdb:(x==("__debug__" : Str))=false:=by decide +kernel)
 (he:starEach (e::es) X.env=(false,eval e X.env)::starEach es X.env:=by rfl) (hpl:(backTo pos (starEach es X.env)).any (·.1)=false:=by rfl) :
 PE X (.Call (.Name x p) (e::es) [] pos) (Ub C (G7 C) [] E0 t):=by
 obtain⟨f,fd,M,hm,hb,F⟩:=M;exact LZ M F (hr.mono hj) hg hm hb .nil Jc ha hdb he hpl
def Rs {K:W.Frag}{ρ:Q6}{ta:TE}{C:Addr}{E:XK}{yd:PyData}(h:Qt K ta ρ yd):EvX K (Ub C (G7 C) [] E (QF ta QO)) ρ (QU C ⟨yd,0,[],[],[],[]⟩):=fun H0 F σ H Q S0 q=>h H0 F σ H _ S0 fun F1 H1 yv x1 r1=>fun x dx hx hdx ne=>by
 have S:=S0.ext x1;refine⟨x,dx,yv,rfl,QA,fun e r l d H' he hr hl hd nd h1 h2 h3 h4 h5 ho=>⟨rfl,?_⟩⟩
 have un:∀{b:Addr},upd (upd H1 dx (.own x)) x (.ins C dx []) b=none->H1 b=none/\b≠x/\b≠dx:=fun{b} hb=>by
  have n1:b≠x:=fun z=>by rw[z,QA]at hb;cases hb
  rw[Qr n1]at hb;have n2:b≠dx:=fun z=>by rw[z,QA]at hb;cases hb
  rw[Qr n2]at hb;exact⟨hb,n1,n2⟩
 obtain⟨e1,e2,e3⟩:=un he;obtain⟨r1',r2,r3⟩:=un hr;obtain⟨l1,l2,l3⟩:=un hl;obtain⟨d1,d2,d3⟩:=un hd
 have hdx':H' dx=some (.own x):=by
  rw[ho dx (by simp only[Xf,XQ,or_false,not_or];exact⟨ne,Ne.symm e3,Ne.symm r3,Ne.symm l3,Ne.symm d3⟩),Qr ne,QA]
 have kp:∀b o,H1 b=some o->H' b=some o:=fun b o hb=>by
  have nb:∀{c:Addr},H1 c=none->b≠c:=fun hc z=>by rw[z,hc]at hb;cases hb
  rw[ho b (by simp only[Xf,XQ,or_false,not_or];exact⟨nb hx,nb e1,nb r1',nb l1,nb d1⟩),Qr (nb hx),Qr (nb hdx)];exact hb
 have fr:∀{b:Addr},H1 b=none->F1 b=none:=fun hb=>S.sub.free hb;refine q F1 H' (.ref x) [x,dx,e,r,l,d] (x1.trans ⟨kp,Q4.refl _,fun b o hb=>kp b o (S.sub b o hb),fun _ h=>.inl h⟩) (fun b hb=>?_) ⟨x,dx,e,r,l,d,yv,[],[],rfl,rfl,?_,⟨fr hx,h1⟩,⟨fr hdx,hdx'⟩,r1,⟨fr e1,[],h2,.nil⟩,⟨fr r1',[],h3,.nil⟩,⟨fr l1,h4,.nil⟩,⟨fr d1,h5,.nil⟩⟩
 ·refine x1.hh.free ?_
  simp only[Xf,XQ,or_false]at hb;rcases hb with rfl|rfl|rfl|rfl|rfl|rfl
  ·exact hx
  ·exact hdx
  ·exact e1
  ·exact r1'
  ·exact l1
  ·exact d1
 ·simp only[Xu,Xf,XQ,or_false,not_or,not_false_eq_true,WP,and_true]at nd ⊢
  obtain⟨⟨a1,a2,a3,a4⟩,b1,c1,f1⟩:=nd
  exact⟨⟨Ne.symm ne,a1,a2,a3,a4⟩,⟨Ne.symm e3,Ne.symm r3,Ne.symm l3,Ne.symm d3⟩,b1,c1,f1⟩
section
variable {X:Cx}{XaR:Qc}{σ:St}{H:Hp}{s:Shared}
def Ep {M:Model}{A:Around}{E:Qb}{i:Nat}{x:Str}{pos:Pos}{Q:Unit->Shared->Prop}(I0:Qq X XaR σ H s)(hN:X.N.Nodup)(hi:X.N[i]?=some x)(hk:X.env.scope.names.lookup x=some .cell)(hfn:X.fn x=true)
 (h:∀s',Qq X XaR (σ.set i none) H s'->Q () s'):wpAny M A (do bindName X.env x .none;unbindBehindTheSuite X.env x pos) Q E s:=by
 have hi0:i<σ.length:=by rw[I0.len];exact(Xh.mp hi).1
 refine Xb (wpAny_bindName (Bz (v:=.non) I0 hN hi (.inr hk) rfl (fun s I=>?_) (.inl hfn)));obtain⟨m,hn,hl⟩:=id I.loc;have hiσ:i<(σ.set i (some V.non)).length:=by simpa using hi0
 have cne:=I.cne;obtain⟨c,hc⟩:=I.ok.has x (.inl hk)
 have hv:s.heap.IsCell c (some .none):=by
  obtain⟨u,ru,q⟩:=hl i x .non hi (by rw[Xl hi0]) (.inr (.inl hk))
  cases ru
  rcases q with ⟨k,_⟩|⟨k,c',e,z⟩
  ·have z:=hk.symm.trans k;cases z
  ·rw[hc]at e;cases e;exact z
 have tracked:∀{a:Addr} {h':Heap},(∃o,s.heap.get? a=some o/\H a=none)->Heap.SameBut a s.heap h'->HOk X.prog X.w H h':=fun{a h'} ha hs b ob e=>by
  obtain⟨_,_,hfree⟩:=ha;refine(I.hok b ob e).stay (fun c w' hc q=>(hs.2 c ?_).trans q) (fun _ q=>q) fun _ _ q=>q
  rintro rfl
  rcases hc with rfl|hc
  ·rw[hfree]at e;cases e
  ·rw[hfree]at hc;cases hc
 unfold unbindBehindTheSuite;refine wpAny_onRaise ?_;unfold unbindName;refine Xb (wpAny_point (Xb ?_));unfold deleteName;have hk':X.env.kindOf x=some .cell:=hk;simp only[hk'];refine Xb (wpAny_cellOf hc (Xb (wpAny_cellGet hv ?_)));simp only[Option.isSome_some,if_true];refine wpAny_cellSet hv fun h' hc' hs=>?_;obtain⟨oc,hoc,hocd⟩:=id hv;refine wpAny_point (h _ ⟨I.ok,I.os,I.bare,⟨fun b o e n hb hx=>?_,fun b o e n hb hx=>?_,I.base.free,fun b o e hx=>?_,I.base.tups,I.base.frzs,fun b xs o q e hx=>(hs.2 b (Xo (Xs (Xj e) (I.ok.cab x c hfn hc)))).trans (I.base.tupo b xs o q e hx),I.base.tbls⟩,⟨m,hn.sameBut hs (Ne.symm (cne x c hc)),fun j y v' e1 e2 e3=>?_⟩,fun y c' e=>?_,I.free,I.freeC,fun p hp=>?_,tracked ⟨oc,hoc,I.freeC x c hc⟩ hs,by simpa using I0.len⟩)
 ·exact(hs.2 b (Xo (Xs (Xj e) (I.ok.cab x c hfn hc)))).trans (I.base.keep b o e n hb hx)
 ·obtain⟨sl,e1⟩:=I.base.slot b o e n hb hx
  exact⟨sl,(hs.2 b (Xo (Xs (Xj e) (I.ok.cab x c hfn hc)))).trans e1⟩
 ·obtain⟨o',e1⟩:=I.base.there b o e hx
  exact⟨o',(hs.2 b (Xo (Xs (Xj e) (I.ok.cab x c hfn hc)))).trans e1⟩
 ·by_cases hj:j=i
  ·subst hj
   rw[Xl hi0]at e2;cases e2
  ·rw[Xr (Ne.symm hj)]at e2
   obtain⟨u',r',q⟩:=hl j y v' e1 (by rw[Xr (Ne.symm hj)];exact e2) e3;refine⟨u',r',?_⟩
   rcases q with q|⟨k,c',e,z'⟩
   ·exact .inl q
   ·refine .inr ⟨k,c',e,z'.sameBut hs ?_⟩
    rintro rfl
    exact hj (DE hN e1 (I.ok.inj _ _ _ e hc▸hi))
 ·by_cases hcc:c'=c
  ·subst hcc;exact⟨_,hc'⟩
  ·obtain⟨w2,z2⟩:=I.cell y c' e
   exact⟨w2,z2.sameBut hs hcc⟩
 ·obtain⟨e,n,ne,nf,d⟩:=I.pin p hp
  refine⟨(hs.2 p.1 ?_).trans e,n,ne,nf,d⟩;intro q;rw[q,hoc]at e;have q':oc=p.2:=Option.some.inj e;exact d _ (by rw[<- q'];exact hocd)
end
def EHc (C:Addr)(th:Addr->TS)(D:Ends)(n j:Nat):XK:=XE C fun e dct H=>∀(σ:St) H' T,σ.length=n->Lefts C e dct H H'->H' T=none->T≠e->th e (Dh D j) (σ.set j (some (.ref e))) (left C e dct T H')
def RN {C:Addr}{th:Addr->TS}{D:Ends}{n j:Nat}:VE C fun e dct H=>∀(σ:St) H' T,σ.length=n->Lefts C e dct H H'->H' T=none->T≠e->th e (Dh D j) (σ.set j (some (.ref e))) (left C e dct T H'):=fun _ _ _ _ r hT hTe σ H' T' hl hL=>r σ H' T' hl (.head hT hTe hL)
section
variable {X:Cx}{C B:Addr}{th:Addr->TS}{tb:Ends->TS}{body suite:List Stmt}{b0:Stmt}{x n:Str}{j:Nat}{np hpos pos:Pos}{rest:List ExceptHandler}
def Ee {XaR:Qc}{Q:Flow->Shared->Prop}{E:Qb}{e T0:Addr}{dct:Qj}{σ:St}{H:Hp}{s:Shared}{D:Ends}(cm:W.exmOne X.K (.ref C) (.ref B)=some true)(hok:X.Ok)(hst:X.stack=X.env::X.outer)(hfr:X.env.frame=some X.env.locals)(hg:Gl X x)(hm:X.mg x=some (.ref B))
 (hN:X.N.Nodup) (hj:X.N[j]?=some n) (hl:X.env.scope.names.lookup n=some .cell) (hfn:X.fn n=true)
 (hh:∀e pn,PSs (WC X e pn) (b0::suite) (th e)) (I:Qq { X with pn:=X.pn++XaR } [] σ H s) (hT0:T0≠e) (he:H e=some (.ext (phF C e dct T0))) (hT:H T0=some (.ext (phT T0)))
 (hd:(x==("__debug__" : Str))=false)
 (hq:∀T,H T=none->T≠e->th e (Dh D j) (σ.set j (some (.ref e))) (left C e dct T H)) (hQ:∀f s',SP X XaR D f s'->Q f s') :
 wpAny (model X.prog X.w) X.A (noteFrame (.ref e) X.env) (fun _ s2=>wpAny (model X.prog X.w) X.A (setFlight (.ref e) none) (fun _ s3=>wpAny (model X.prog X.w) X.A (handleBy (.ref e) X.env (.ExceptHandler (some (.Name x np)) (some n) (b0::suite) hpos::rest)) Q E s3) E s2) E s:=by
 obtain⟨⟨vs,sl,hx,h1,h2c⟩,_,_⟩:=I.hok e _ he;obtain⟨⟨oT,ts,hx2,h2,h3⟩,_,_⟩:=I.hok T0 _ hT;have fr:X.A.frames=some (X.env::X.outer):=by rw[hok.frames,hst]
 have ff:=I.stack;have ff:s.heap.FunFrames X.base (X.env::X.outer):=by rw[<- hst];exact ff
 refine SU fr ff hfr hx rfl h1 hT0 hx2 h2 h3 fun h' T Z=>?_;have J:=DN I (by rw[he];trivial) hx (Array.getElem?_eq_some_iff.mp h1).1 h2c (by show Leaves X.stack _ _ _ _ _;rw[hst];exact Z);have hTn:H T=none:=I.hok.fresh Z.new;have hTe:T≠e:=XU (Xs (Xj hx) Z.new);have JH:Qq (WC X e (X.pn++XaR)) [] σ (left C e dct T H) { s with heap:=h' }:=J.toHandler;refine wpAny_handleBy_cons (codeAny_handlers_test (Jp JH hg hm ?_ hd)) (by intro q;cases q);have LT:W.Looks (model X.prog X.w) h' (typeOf (.ref e)) (.ref C):=(W.Looks.ld Z.exc).andThen .now;refine(W.exm_one J.kIn LT cm).here (codeAny_handlers_suite_as ?_);have o1:left C e dct T H e=some (.ext (phF C e dct T)):=by unfold left;rw[Qr (Ne.symm hTe),QA]
 have o2:left C e dct T H T=some (.ext (phT T)):=by unfold left;rw[QA]
 obtain⟨p1,_,_⟩:=JH.hok e _ o1;obtain⟨p2,_,_⟩:=JH.hok T _ o2;refine EE p1 p2 fun h2 k2=>?_;have J2:Qq (WC X e (X.pn++XaR)) [] σ (left C e dct T H) { s with heap:=h2 }:=JH.kept (t':=s.toks) k2;refine Bz (X:=WC X e (X.pn++XaR)) J2 hN hj (.inr hl) (v:=.ref e) rfl (fun s3 J3=>?_) (.inl hfn);refine wpAny_mono (hh e _ [] s3 _ _ (Dh D j) J3 (hq T hTn hTe)) (fun fl s4 z=>?_) fun _ _ z=>False.elim z
 cases fl with
 |next =>
   obtain⟨σ',H',I4,q⟩:=z;refine Ep (X:=WC X e (X.pn++XaR)) I4 hN hj hl hfn fun s5 I5=>hQ _ _ ?_
   exact⟨_,H',(I5.ofHandler hok).ofPn,q⟩
 |ret u=>obtain⟨_,_,_,_,_,z⟩:=z;exact False.elim z
 |brk=>obtain⟨_,_,_,z⟩:=z;exact False.elim z
 |cont=>obtain⟨_,_,_,z⟩:=z;exact False.elim z
def RL (cm:W.exmOne X.K (.ref C) (.ref B)=some true)(hst:X.stack=X.env::X.outer)(hfr:X.env.frame=some X.env.locals)(hg:Gl X x)(hm:X.mg x=some (.ref B))
 (hN:X.N.Nodup) (hj:X.N[j]?=some n) (hl:X.env.scope.names.lookup n=some .cell) (hfn:X.fn n=true)
 (hb:∀D pn,PSs (ML X (EHc C th D X.N.length j) pn) body (tb D)) (hh:∀e pn,PSs (WC X e pn) (b0::suite) (th e)) (hd:(x==("__debug__" : Str))=false:=by decide) :
 PS X (.Try body (.ExceptHandler (some (.Name x np)) (some n) (b0::suite) hpos::rest) [] [] pos) (Mb tb):=by
 intro XaR s σ H D I h;have I1:Qq (ML X (EHc C th D X.N.length j) (X.pn++XaR)) [] σ H s:=I.toPn.wish _;refine wpAny_Try_except (wpAny_mono (hb D (X.pn++XaR) [] s σ H D I1 h) (fun fl s1 q=>?_) fun v s1 q=>?_)
 ·have q':=SP.ofPn q
  cases fl with
  |next=>exact wpAny_execs_nil q'
  |ret u=>exact q'
  |brk=>exact q'
  |cont=>exact q'
 ·obtain⟨σ1,H1,dct,J,e,rfl,⟨T0,hT0,he,hT⟩,hq⟩:=q
  exact Ee cm I.ok hst hfr hg hm hN hj hl hfn hh J hT0 he hT hd (fun T a b=>hq σ1 _ T J.len .nil a b) fun fl s' z=>z
end
end L2
end
namespace L2
open PySem PySem.Spec PyProof.Rows
section
variable {K:W.Frag}{ρ:Q6}{ta tb tc te:TE}{D:PEnds}{d:PyData}{dss:List (Qd)}
end
section
variable {K:W.Frag}{ρ:Q6}{ta:TE}{D:PEnds}
end
section
variable {X:Cx}
variable {C B:Addr}{th:TS}{tb:Ends->TS}{body suite:List Stmt}{b0:Stmt}{x n:Str}{j:Nat}{np hpos pos:Pos}{rest:List ExceptHandler}
end
section
variable {K:W.Frag}{ρ:Q6}{C:Addr}{f:Str}{th:TS}{tb:Ends->TS}{D:PEnds}{i j:Nat}{ta:TE}
end
section
variable {K:W.Frag}{ρ:Q6}{ta tb te:TE}{D:PEnds}{d:PyData}{dss:List (Qd)}{ds:Qd}
def QB.freezeO {Φ:OwnP}{H0 F H:Hp}{σ:St}{i:Nat}{v:V}(hz:∀{p:Qg},Φ.ok K F H v p->Rep (frF F H p) v d)(s:QB K H0 F ρ σ H)(e:ρ[i]?=some (some (.own v Φ))) :
 ∃p,(∀a∈p,F a=none/\H a≠none/\H0 a=none)/\QB K H0 (frF F H p) (ρ.set i (some (.fz d))) σ H:=by
 obtain⟨kt,h1,h2,fp,h3,h4,h5⟩:=s;obtain⟨u,e1,rfl,ok⟩:=h3 i _ e;have hlt:=(Xh.mp e).1;have th:=fun a ha=>Φ.there ok a ha;have sm:Q4 F (frF F H (fp i)):=Y5 fun a ha=>(th a ha).1;refine⟨fp i,fun a ha=>⟨(th a ha).1,(th a ha).2,(h5 i a ha).1⟩,kt.mono sm,UZ h1,by simp[h2],fun j=>if j=i then [] else fp j,fun j t' e'=>?_,fun j k b hb hc=>?_,fun j b hb=>?_⟩
 ·by_cases hj:j=i
  ·subst hj
   rw[Xl hlt]at e';cases e';refine⟨_,e1,?_,hz ok⟩;dsimp only;rw[Xe rfl]
  ·rw[Xr (Ne.symm hj)]at e'
   obtain⟨u',f1,f2⟩:=h3 j t' e';refine⟨u',f1,?_⟩;dsimp only;rw[Xc hj];exact f2.frOther sm fun a ha z=>hj (h4 j i a ha z)
 ·by_cases hj:j=i
  ·simp[hj]at hb
  ·by_cases hk:k=i
   ·simp[hk]at hc
   ·simp only[Xc hj]at hb
    simp only[Xc hk]at hc;exact h4 j k b hb hc
 ·by_cases hj:j=i
  ·simp[hj]at hb
  ·simp only[Xc hj]at hb
   exact h5 j b hb
end
end L2
section
namespace L2
open PySem PySem.Spec PyProof.Rows
def lsO (d0:PyData)(ds:Qd):OwnP where
 ok K F H v p := ∃a b x,v=.ref a/\p=[a,b]/\a≠b/\F a=none/\H a=some (.lst [x,.ref b])/\Rep F x d0/\Vc F H b ds
 there:=by
  rintro K F H v p ⟨a,b,x,rfl,rfl,_,h1,h2,_,h3,xs,h4,_⟩ c hc
  simp only[Xf,XQ,or_false]at hc;rcases hc with rfl|rfl
  ·exact⟨h1,Zt h2⟩
  ·exact⟨h3,Zt h4⟩
 mono:=by
  rintro K F F' H H' v p s hF hH ⟨a,b,x,rfl,rfl,n,h1,h2,r,h3,xs,h4,h5⟩
  exact⟨a,b,x,rfl,rfl,n,hF _ (by simp),by rw[hH _ (by simp)];exact h2,r.mono s,hF _ (by simp),xs,by rw[hH _ (by simp)];exact h4,h5.mono s⟩
 uniq:=by
  rintro K F H v p q ⟨a,b,x,rfl,rfl,_,_,h2,_⟩ ⟨a',b',x',e,rfl,_,_,h2',_⟩ c hc
  cases e
  have z:=h2.symm.trans h2';simp only[Option.some.injEq,HO.lst.injEq,List.cons.injEq,V.ref.injEq,and_true]at z;rw[z.2];exact hc
section
variable {K:W.Frag}{ρ:Q6}{D:PEnds}{i j:Nat}{d0:PyData}{ds:Qd}{C:Addr}{f:Str}
def CQ {v w:V}(h0:Vh d0=some w)(h:W7 ds):YB (.own v (lsO d0 ds)):=fun K F F' H u p hp ok=>by
 obtain⟨e,a,b,x,rfl,rfl,n,h1,h2,r,h3,xs,h4,h5⟩:=ok
 exact⟨e,a,b,x,rfl,rfl,n,hp _ (by simp),h2,r.thin h0,hp _ (by simp),xs,h4,h5.flats h⟩
def lsO.frz {F H:Hp}{v:V}{p:Qg}(ok:(lsO d0 ds).ok K F H v p):Rep (frF F H p) v (.list [d0,.list ds]):=by
 have sm:Q4 F (frF F H p):=Y5 fun a ha=>((lsO d0 ds).there ok a ha).1;obtain⟨a,b,x,rfl,rfl,n,h1,h2,r,h3,xs,h4,h5⟩:=ok;exact .lst (xs:=[x,.ref b]) (by rw[YN (by simp)];exact h2) (.cons (r.mono sm) (.cons (.lst (by rw[YN (by simp)];exact h4) (h5.mono sm)) .nil))
def TC {t:TS}(i:Nat){v:V}(e:ρ[i]?=some (some (.own v (lsO d0 ds))))(h:Q1 K t (ρ.set i (some (.fz (.list [d0,.list ds])))) D):Q1 K t ρ D:=fun F0 H0 F σ H E x S C=>by
 obtain⟨p,hp,S'⟩:=S.freezeO lsO.frz e;refine h F0 H0 _ σ H E ⟨x.hh,x.ff.trans (Y5 fun a ha=>(hp a ha).1),S'.sub,fun a ha=>?_⟩ S' C
 by_cases z:a∈p
 ·exact .inr (hp a z).2.2
 ·rw[Yr z]at ha;exact x.fr a ha
def F9 {e dx q:Addr}(hij:i≠j)(hi:ρ[i]?=some (some (.ol [d0])))(h:ρ[j]?=some (some (.own (.ref e) (W0 C f ds e dx q))))(hn:∀v,D.nx ((ρ.set j none).set i (some (.own v (lsO d0 ds))))) :
 Q1 K (Vi (tBM K "list" V2 (Q8 i) (QF (tXG C (Q8 j) f) QO))) ρ D:=fun F0 H0 F σ H E x S c=>by
 obtain⟨kt,s1,s2,fp,h3,h4,h5⟩:=id S;obtain⟨u,u1,a,rfl,ui,fa,xs,ha,ra⟩:=h3 i _ hi;obtain⟨w,w1,rfl,wp,⟨f1,f2,f3⟩,⟨T,hT⟩,hd,ys,hq,rq⟩:=h3 j _ h;have hil:=(Xh.mp hi).1;have hjl:=(Xh.mp h).1;have ai:a∈fp i:=by rw[ui];exact Xa
 have qj:q∈fp j:=by rw[wp];simp
 have naq:a≠q:=fun z=>hij (h4 i j a ai (z▸qj));have a0:=(h5 i a ai).1;have q0:=(h5 j q qj).1
 obtain⟨x0,rfl,r0⟩:∃x0,xs=[x0]/\Rep F x0 d0:=by
  cases ra with
  |cons r1 r2=>cases r2;exact⟨_,rfl,r1⟩
 refine⟨.ref a,u1,.inl ⟨rfl,_,SqL.of ha⟩,.ref e,w1,e,dx,T,.ref q,rfl,hT,hd,a,[x0],.ref q,rfl,rfl,ha,ZH JQ,?_⟩;refine c.nx F σ _ _ (x.wr a0 fa) ⟨kt,s1.upd fa,by simp[s2],fun k=>if k=i then [a,q] else if k=j then [] else fp k,fun k t ek=>?_,fun k l b hb hc=>?_,fun k b hb=>?_⟩ (hn (.ref a))
 ·by_cases hk:k=i
  ·subst hk
   rw[Xl (by simpa using hil)]at ek;cases ek;refine⟨.ref a,u1,rfl,a,q,x0,rfl,?_,naq,fa,QA,r0,f3,ys,by rw[Qr (Ne.symm naq)];exact hq,rq⟩
   simp
  ·rw[Xr (Ne.symm hk)]at ek
   by_cases hkj:k=j
   ·subst hkj
    rw[Xl hjl]at ek;cases ek
   ·rw[Xr (Ne.symm hkj)]at ek
    obtain⟨v',g1,g2⟩:=h3 k t ek;refine⟨v',g1,?_⟩;simp only[Xc hk,Xc hkj];exact g2.other fun z=>hk (h4 k i a z ai)
 ·have key:∀k b,b∈(if k=i then [a,q] else if k=j then [] else fp k)->(k=i/\(b=a\/b=q))\/(k≠i/\k≠j/\b∈fp k):=fun k b hk=>by
   by_cases z:k=i
   ·rw[Xe z]at hk;exact .inl ⟨z,by simpa using hk⟩
   ·rw[Xc z]at hk
    by_cases z':k=j
    ·rw[Xe z']at hk;cases hk
    ·rw[Xc z']at hk;exact .inr ⟨z,z',hk⟩
  rcases key k b hb with ⟨z1,m1⟩|⟨z1,z2,m1⟩
  ·rcases key l b hc with ⟨y1,_⟩|⟨y1,y2,n1⟩
   ·rw[z1,y1]
   ·rcases m1 with rfl|rfl
    ·exact Xk (h4 l i _ n1 ai) y1
    ·exact Xk (h4 l j _ n1 qj) y2
  ·rcases key l b hc with ⟨y1,n1⟩|⟨y1,y2,n1⟩
   ·rcases n1 with rfl|rfl
    ·exact Xk (h4 k i _ m1 ai) z1
    ·exact Xk (h4 k j _ m1 qj) z2
   ·exact h4 k l b m1 n1
 ·refine⟨?_,Vw b ?_⟩
  ·by_cases z:k=i
   ·simp only[Xe z,Xf,XQ,or_false]at hb
    rcases hb with rfl|rfl
    ·exact a0
    ·exact q0
   ·simp only[Xc z]at hb
    by_cases z':k=j
    ·simp[z']at hb
    ·simp only[Xc z']at hb
     exact(h5 k b hb).1
  ·by_cases z:k=i
   ·simp only[Xe z,Xf,XQ,or_false]at hb
    rcases hb with rfl|rfl
    ·exact Zt ha
    ·exact Zt hq
   ·simp only[Xc z]at hb
    by_cases z':k=j
    ·simp[z']at hb
    ·simp only[Xc z']at hb
     exact(h5 k b hb).2
structure Pe (K:W.Frag)(mg:Str->Qf)(Y C cg ct:Addr):Prop where
 em:W.exmOne K (.ref C) (.ref Y)=some true
 my:mg "YardError"=some (.ref Y)
 gt:Pd K C
 na:Vt K C "some"
 is:Pc K C
 k1:W.kitOne K (.ref C) (.ref C)=some true
 k2:W.kitOne K (.ref C) (.type "ValueError")=some true
 kg:W.kitOne K (.ref C) (.ref cg)=some false
 kt:W.kitOne K (.ref C) (.ref ct)=some false
 m1:mg "NoGuest"=some (.ref cg)
 m2:mg "NoTime"=some (.ref ct)
end
end L2
end
section
set_option maxHeartbeats 400000
namespace L2
open PySem PySem.Spec PyProof.Rows
section
variable {X:Cx}
end
section
variable {X:Cx}
def Kz (X:Cx):List V->Hp->VK->Prop:=fun xs H Q=>X.calm=true/\∃(x:V) (ns:Ql) (M:Int),xs=[x]/\Rep H x (.list (ns.map PyData.int))/\M∈ns/\(∀a∈ns,a<=M)/\Q (.int M) H
def TU:Z1 X (.builtin "max") (Kz X):=by
 intro XaR s σ H xs us Q I r h;obtain⟨hc,x,ns,M,rfl,hx,hM,hmax,q⟩:=h;obtain⟨u,rfl,rx⟩:=Yx r
 cases hx with
 |@lst l ys _ ha rr =>
   cases rx
   have er:=Gr rr;subst er;obtain⟨its,rv,p,hz⟩:=I.list (SqL.of (K:=X.K) ha);have hl:=p.isList;have hi:=BH rv;have hlen:its.length=ns.length:=hi.length;have hpos:0<ns.length:=BU.mpr fun z=>by rw[z]at hM;cases hM
   have hlt:l<s.heap.objs.size:=by obtain⟨_,e,_⟩:=hl;exact Xj e
   refine call_max_walk (wpAny_pyIter_list hl ?_)
   refine⟨s.heap.objs.size,[s.heap.objs.size,l],[s.heap.objs.size],its.toArray.size,_,_,_,rfl,Walks.list (A:=X.A.in1) (I.ok.hd hc) _ l (Xo hlt) its.toArray,
    ⟨⟨_,XD _ rfl,rfl,rfl⟩,hl.push _⟩,fun b hb=>?_,by simp only[XB];omega,CmpOf.ints_gt (fun i=>ns.getD i 0) (fun i v hP=>WB hi (by simpa using hP)),fun v h' tk hP hk=>?_⟩
   ·show b<(s.heap.push _).objs.size
    rw[YZ];rcases Xf.mp hb with rfl|hb
    ·exact Wa _
    ·rcases Xf.mp hb with rfl|hb
     ·exact G4 hlt
     ·cases hb
   ·rw[List.getElem?_toArray]at hP
    obtain⟨t,rfl⟩:=WB hi hP;obtain⟨g1,g2⟩:=argBest_gt (fun i=>ns.getD i 0) (its.toArray.size-1);have hsz:its.toArray.size=its.length:=by simp
    generalize argBest (fun i j=>decide (ns.getD i 0 > ns.getD j 0)) (its.toArray.size-1)=k at g1 g2 ⊢;rw[hsz]at g1 g2;have hk2:k<ns.length:=by omega
    have em:ns.getD k 0=M:=by
     have h1:ns.getD k 0∈ns:=by simp[hk2]
     have h2:=hmax _ h1;obtain⟨j,hj,e⟩:=U3.mp hM;have h3:=g2 j (by omega);have h4:ns.getD j 0=M:=by simp[hj,e]
     omega
    exact⟨.int M,H,I.kept (Dx hk),⟨t,by rw[em]⟩,q⟩
end
section
variable {K:W.Frag}{ρ:Q6}{ta tb tc te:TE}{D:PEnds}
def TX {X:Cx}{ns:Ql}{M:Int}(h:Qt K ta ρ (.list (ns.map PyData.int)))(hc:X.calm=true)(hM:M∈ns)(hm:∀a∈ns,a<=M):Qt K (tCB (Kz X) (QF ta QO)) ρ (.int M):=fun H0 F σ H Q S q =>
 h H0 F σ H _ S fun F1 H1 v x1 r1=>⟨hc,v,ns,M,rfl,r1.mono x1.fh,hM,hm,q F1 H1 _ x1 (.int _)⟩
def Kt {t:TS}(J:Q6->Prop)(h:Q1 K t ρ { nx:=J,ct:=D.ct,bk:=D.bk,rt:=D.rt })(k:∀ρ',J ρ'->D.nx ρ'):Q1 K t ρ D:=fun F0 H0 F σ H E x S C =>
 h F0 H0 F σ H E x S ⟨fun F' σ' H' ρ' x' S' hj=>C.nx F' σ' H' ρ' x' S' (k ρ' hj),C.rt,C.bk,C.ct⟩
end
def olP (ds:Qd):OwnP where
 ok K F H v p := ∃a,v=.ref a/\p=[a]/\Vc F H a ds
 there:=by
  rintro K F H v p ⟨a,rfl,rfl,h1,xs,h2,_⟩ c hc
  cases Xg.mp hc
  exact⟨h1,Zt h2⟩
 mono:=by
  rintro K F F' H H' v p s hF hH ⟨a,rfl,rfl,h1,xs,h2,h3⟩
  exact⟨a,rfl,rfl,hF _ (by simp),xs,by rw[hH _ (by simp)];exact h2,h3.mono s⟩
 uniq:=by
  rintro K F H v p q ⟨a,rfl,rfl,_⟩ ⟨a',e,rfl,_⟩ c hc
  cases e
  exact hc
def EvW (K:W.Frag)(t:TE)(ρ:Q6)(i:Nat)(Θ:Int->OT->Prop):Prop := ∀(F0 H0 F:Hp) (σ:St) (H:Hp) (Q:VK),Q0 F0 H0 F H->QB K H0 F ρ σ H ->
 (∀F' H' n o,Θ n o->Q0 F0 H0 F' H'->Q4 F F'->QB K H0 F' (ρ.set i (some o)) σ H'->Q (.int n) H')->t σ H Q
section
variable {K:W.Frag}{ρ:Q6}{ta te tb:TE}{t:TA}{D:PEnds}{i j:Nat}{v:V}{ds:Qd}{ts:List OT}{Θ:Int->OT->Prop}
def olP.frz {F H:Hp}{p:Qg}(ok:(olP ds).ok K F H v p):Rep (frF F H p) v (.list ds):=by
 have sm:Q4 F (frF F H p):=Y5 fun a ha=>((olP ds).there ok a ha).1;obtain⟨a,rfl,rfl,h1,xs,h2,h3⟩:=ok;exact .lst (by rw[YN (by simp)];exact h2) (h3.mono sm)
def RJ {d:PyData}{u:V}(i:Nat)(e:ρ[i]?=some (some (.own v (olP ds))))(hf:Vh d=some u)(h:Qt K te (ρ.set i (some (.fz (.list ds)))) d):Qt K te ρ d:=fun H0 F σ H Q S q=>by
 obtain⟨p,hp,S'⟩:=S.freezeO olP.frz e;exact h H0 _ σ H Q S' fun F' H' v x r=>q _ H' v (WG (fun a ha=>⟨(hp a ha).1,(hp a ha).2.1⟩) x) (r.thin hf)
def DT {d:PyData}{k:Int}{j:Nat}(e:ρ[i]?=some (some (.own v (olP ds))))(h:Qt K te ρ d)(hi:Qt K tb ρ (.int k))(hj:ixN ds.length k=some j)(hn:D.nx (ρ.set i (some (.own v (olP (ds.set j d)))))) :
 Q1 K (ZX te (HZ (Q8 i) tb UK)) ρ D:=fun F0 H0 F σ H E x S C =>
 h H0 F σ H _ S fun F1 H1 u x1 r1=>by
  obtain⟨e1,p,⟨a,rfl,rfl,o1,xs,o2,o3⟩,hp,_⟩:=(S.ext x1).writeOwn e;refine⟨_,e1,hi H0 F1 σ H1 _ (S.ext x1) fun F2 H2 y x2 r2=>?_⟩
  cases r2
  obtain⟨_,p',⟨a',ea,rfl,q1,ys,q2,q3⟩,hp',w⟩:=(S.ext (x1.trans x2)).writeOwn e
  cases ea
  obtain⟨z0,zf,_⟩:=hp' a Xa;refine⟨a,ys,k,j,rfl,rfl,q2,by rw[q3.length];exact hj,?_⟩;exact C.nx F2 σ _ _ ((x.trans (x1.trans x2)).wr z0 zf) (w _ (olP (ds.set j d)) [a] ((S.ext (x1.trans x2)).sub.upd zf) (fun c hc _=>Qr fun z=>hc (by rw[z];exact Xa)) Vw ⟨a,rfl,rfl,zf,_,QA,q3.set (r1.mono x2.ff) j⟩ (fun c hc=>.inl hc)) hn
def Fy {α:Type}{Φ:α->OwnP}{N:α}{R:α->List OT->(OT->α->Prop)->Prop}{Ψ:OT->α->Prop}{E':XK}(e:ρ[i]?=some (some (.own v (Φ N))))(hA:Zx K t ρ ts)(hR:R N ts Ψ)(hn:∀r N',Ψ r N'->∃n,r=.fz (.int n)/\Θ n (.own v (Φ N'))) :
 EvW K (VF (spP K Φ R) [] E' (QF (Q8 i) t)) ρ i Θ:=fun F0 H0 F σ H Q x S q=>by
 obtain⟨p0,s0,_⟩:=YT S x e;refine⟨_,s0,hA H0 F σ H _ S fun F1 H1 vs x1 r1=>?_⟩;obtain⟨p,s1,okp,fin⟩:=YT (S.ext x1) (x.trans x1) e;refine⟨F1,v,vs++[],p,ts,N,Ψ,rfl,(S.ext x1).kt,x1.fh,by rw[XH];exact r1,okp,hR,fun F' H' p' N' v' r qq hr xn ok' sub sok hq=>?_⟩;obtain⟨n,rfl,hΘ⟩:=hn r N' hr;obtain⟨X',S',_⟩:=fin F' H' p' N' xn ok' sub;obtain⟨_,rp⟩:=sok
 cases rp
 exact q F' H' n _ hΘ X' (x1.ff.trans xn.ff) S'
def UO {s:TE->TS}(hw:EvW K te ρ i Θ)(hs:∀(H0 F:Hp) (σ:St) (H:Hp) (E:Ends),QB K H0 F ρ σ H->(∀Q:VK,(∀n H1,s (tC (.int n)) E σ H1->Q (.int n) H1)->te σ H Q)->s te E σ H)
 (hn:∀n o,Θ n o->Q1 K (s (tC (.int n))) (ρ.set i (some o)) D):Q1 K (s te) ρ D:=fun F0 H0 F σ H E x S c =>
 hs H0 F σ H E S fun Q hQ=>hw F0 H0 F σ H Q x S fun F' H' n o hΘ x' _ S'=>hQ n H' (hn n o hΘ F0 H0 F' σ H' E x' S' c)
def Su (ha:Qt K ta ρ (.list ds))(hw:EvW K te ρ i Θ)(hn:∀n o,Θ n o->∃d,atI ds n=some d/\D.nx ((ρ.set i (some o)).set j (some (.fz d)))):Q1 K (ZX (tOp (rIx K) ta te) (ZG j)) ρ D:=fun F0 H0 F σ H E x S c =>
 ha H0 F σ H _ S fun F1 H1 u x1 r1=>hw F0 H0 F1 σ H1 _ (x.trans x1) (S.ext x1) fun F' H' n o hΘ x' sm S'=>by
  obtain⟨d,e,hnx⟩:=hn n o hΘ
  cases r1 with
  |@lst a xs _ k1 k2 =>
    obtain⟨z,z1,z2⟩:=Ut (k2.mono sm) e;exact .inl ⟨a,xs,n,z,rfl,rfl,SqL.of (S'.sub _ _ (sm _ _ k1)),z1,c.nx F' _ H' _ x' (S'.setF z2) hnx⟩
end
section
variable {P:Program}{w:World}{K:W.Frag}{mg:Str->Qf}{base:Heap}
def Df.evP {α:Type}{Φ:α->OwnP}{x:Str}{st:Stmt}{L ps:Qh}{k:Nat}{R:α->List OT->(OT->α->Prop)->Prop}(D:Df K mg x st ps)(S:Qp L ps (Qx st))(len:∀M ts Ψ,R M ts Ψ->ts.length+1=ps.length)
 (hret:∀(f:Addr) (cdv:Value) (A:Around) (outer:List Env) (s:Shared) (H:Hp) (E:XK) (v:V) (M:α) (ts:List OT) (Ψ:OT->α->Prop),Room k (A.deeper (envOfC x (Qx st) s.heap.objs.size f cdv))->R M ts Ψ ->
  ∃t,PSs (Vb CX0 P w K mg base L x (Qx st) f cdv A outer s H E).nox (Zg st) t/\EvR K t (some (.own v (Φ M))::(ts.map some++List.replicate (L.length-(ts.length+1)) none)) (fun r ρ'=>∃M',Ψ r M'/\ρ'[0]?=some (some (.own v (Φ M'))))):QD P w K mg base x ps (k+1) (spP K Φ R):=by
 obtain⟨f,fd,F,hm,hb⟩:=D.ex;refine⟨f,fd,hm,F.kp,hb,F.ok S (fun vs H Q E h=>?_) fun cdv A outer s H vs Q E hr h=>?_⟩
 ·obtain⟨F,v0,vs',p,ts,M,Ψ,e,_,_,ha,_,hR,_⟩:=h
  rw[e,XJ,ha.length];exact len _ _ _ hR
 ·obtain⟨F,v0,vs',p,ts,M,Ψ,e,kt,sm,ha,ok,hR,q⟩:=h
  subst e;obtain⟨t,h1,h2⟩:=hret f cdv A outer s H E v0 M ts Ψ hr hR
  exact⟨t,h1,B1 (R:=R) h2 kt sm ha ok q⟩
end
section
variable {X:Cx}
def Kr (X:Cx):List V->Hp->VK->Prop:=fun xs H Q=>X.calm=true/\∃(x:V) (ns:Ql) (M:Int),xs=[x]/\Rep H x (.tuple (ns.map PyData.int))/\M∈ns/\(∀a∈ns,a<=M)/\Q (.int M) H
def TN:Z1 X (.builtin "max") (Kr X):=by
 intro XaR s σ H xs us Q I r h;obtain⟨hc,x,ns,M,rfl,hx,hM,hmax,q⟩:=h;obtain⟨u,rfl,rx⟩:=Yx r
 cases hx with
 |@tup l ys _ ha rr =>
   cases rx
   have er:=Gr rr;subst er;obtain⟨its,rv,hl,hz⟩:=I.tuple (SqT.of (K:=X.K) ha);have hi:=BH rv;have hlen:its.length=ns.length:=hi.length;have hpos:0<ns.length:=BU.mpr fun z=>by rw[z]at hM;cases hM
   have hlt:l<s.heap.objs.size:=by obtain⟨_,e,_⟩:=hl;exact Xj e
   refine call_max_walk (wpAny_pyIter_tuple hl ?_)
   refine⟨s.heap.objs.size,[s.heap.objs.size,l],[s.heap.objs.size],its.toArray.size,_,_,_,rfl,Walks.tuple (A:=X.A.in1) (I.ok.hd hc) _ l (Xo hlt) its.toArray,
    ⟨⟨_,XD _ rfl,rfl,rfl⟩,hl.push _⟩,fun b hb=>?_,by simp only[XB];omega,CmpOf.ints_gt (fun i=>ns.getD i 0) (fun i v hP=>WB hi (by simpa using hP)),fun v h' tk hP hk=>?_⟩
   ·show b<(s.heap.push _).objs.size
    rw[YZ];rcases Xf.mp hb with rfl|hb
    ·exact Wa _
    ·rcases Xf.mp hb with rfl|hb
     ·exact G4 hlt
     ·cases hb
   ·rw[List.getElem?_toArray]at hP
    obtain⟨t,rfl⟩:=WB hi hP;obtain⟨g1,g2⟩:=argBest_gt (fun i=>ns.getD i 0) (its.toArray.size-1);have hsz:its.toArray.size=its.length:=by simp
    generalize argBest (fun i j=>decide (ns.getD i 0 > ns.getD j 0)) (its.toArray.size-1)=k at g1 g2 ⊢;rw[hsz]at g1 g2;have hk2:k<ns.length:=by omega
    have em:ns.getD k 0=M:=by
     have h1:ns.getD k 0∈ns:=by simp[hk2]
     have h2:=hmax _ h1;obtain⟨j,hj,e⟩:=U3.mp hM;have h3:=g2 j (by omega);have h4:ns.getD j 0=M:=by simp[hj,e]
     omega
    exact⟨.int M,H,I.kept (Dx hk),⟨t,by rw[em]⟩,q⟩
def T6 {K:W.Frag}{ρ:Q6}{ta:TE}{ns:Ql}{M:Int}(h:Qt K ta ρ (.tuple (ns.map PyData.int)))(hc:X.calm=true)(hM:M∈ns)(hm:∀a∈ns,a<=M):Qt K (tCB (Kr X) (QF ta QO)) ρ (.int M):=fun H0 F σ H Q S q =>
 h H0 F σ H _ S fun F1 H1 v x1 r1=>⟨hc,v,ns,M,rfl,r1.mono x1.fh,hM,hm,q F1 H1 _ x1 (.int _)⟩
end
def Ii:entryFor table "proto.unchain"=some Builtin.«proto.unchain» := entryFor_of_tree (by kernel_rfl)
section
variable {prog:Program}{w:World}{A:Around}{E:Qb}{s:Shared}
def AE {it e:Addr}{x left step:Int}{oe:Obj}{vs:Array Value}{Q:Qf->Shared->Prop}(hh:A.handled=some (.ref e))(hit:IsRangeIter s.heap it x left step)(hleft:left<=0)(he:s.heap.get? e=some oe)(hd:oe.data=.fields vs)(h2:vs[2]?=some .none)
 (hQ:∀h',Heap.ExtBut it s.heap h'->Q none { s with heap:=h' }):wpAny (model prog w) A (pyNext (.ref it)) Q E s:=by
 have hT:s.TypeIs (.ref it) "range_iterator" := ⟨_,hit,rfl⟩
 unfold pyNext;refine Xb (wpAny_attempt (wpAny_callSpecial?_slot (name:=Str.ofString "__next__") hT F.slot_range_iterator_next
  (wpAny_call_entry F.slot_range_iterator_next hT F.entry_range_iterator_next ?_ (F.args_range_iterator_next_1 _))))
 show wpAny _ _ (field (.ref it) 0 >>= _) _ _ s;refine Xb (WS hit rfl (x:=rawInt x) rfl ?_);show wpAny _ _ (field (.ref it) 1 >>= _) _ _ s;refine Xb (WS hit rfl (x:=rawInt left) rfl ?_);show wpAny _ _ (field (.ref it) 2 >>= _) _ _ s;refine Xb (WS hit rfl (x:=rawInt step) rfl ?_);show wpAny _ _ (if left<=0 then _ else _) _ _ s;rw[Xe hleft];refine Xb (wpAny_rule ?_);refine Xb ?_;show wpAny _ _ (newExc (.type "StopIteration") [] >>= _) _ _ _;refine Xb ?_;simp only[newExc,newTuple];refine Xb (wpAny_newObj_type ?_ (by size_fits));refine Xb (m:=firstArgMember _ _) (wpAny_of_eq (a:=Value.none) (by first|rfl|(simp only[firstArgMember];rfl)) ?_);refine wpAny_newObj_type ?_ (by size_fits);simp only[raiseNew];refine Xb (wpAny_handled ?_)
 first|rw[show A.in1.handled=some (.ref e) from hh]|rw[hh]
 have hlt:e<s.heap.objs.size:=Xj he;have hsz:(s.heap.push { cls:=Value.type "tuple",data:=Data.seq #[] }).objs.size=s.heap.objs.size+1:=YZ _ _
 have hne:(Value.ref e != Value.ref (s.heap.push { cls:=Value.type "tuple",data:=Data.seq #[] }).objs.size)=true:=by
  rw[hsz,bne_iff_ne];intro z;injection z with z;exact Xo (G4 hlt) z
 have he':((s.heap.push { cls:=Value.type "tuple",data:=Data.seq #[] }).push { cls:=Value.type "StopIteration",data:=Data.fields (#[Value.ref s.heap.objs.size,Value.none,Value.none,Value.none,Value.bool false,Value.none]++ownMembersOf (Value.type "StopIteration") []) }).get? e=some oe:=Xi _ (Xi _ he);show wpAny _ _ (if (Value.ref e != Value.ref (s.heap.push { cls:=Value.type "tuple",data:=Data.seq #[] }).objs.size)=true then _ else _) _ _ _;rw[Xe hne];refine Xb (wpAny_holding (wpAny_runValue (codeAny_builtin Ii ?_)));show wpAny _ _ (field (.ref e) 2 >>= _) _ _ _;refine Xb (WS he' hd h2 ?_);show wpAny _ _ (if (Value.none==Value.none)=true then _ else _) _ _ _;rw[Xe (by decide)];refine Xb (Xp ?_);refine Xp ?_;show wpAny _ _ (updateField (s.heap.push { cls:=Value.type "tuple",data:=Data.seq #[] }).objs.size 2 (.ref e) >>= _) _ _ _;refine Xb ?_;unfold updateField;refine Xb (wpAny_load (XD _ rfl) ?_);show wpAny _ _ (if 2<(#[Value.ref s.heap.objs.size,Value.none,Value.none,Value.none,Value.bool false,Value.none]++ownMembersOf (Value.type "StopIteration") []).size then _ else _) _ _ _;rw[Xe (by rw[Array.size_append];show 2<6+_;omega)];refine wpAny_update (XD _ rfl) (wpAny_throw ?_);refine Xb (wpAny_isInstance (T := "StopIteration") (b:=true) ⟨_,X8 _ (XD _ rfl) rfl,rfl⟩ isSubtype_stop ?_);refine Xp (hQ _ fun b o hb eb=>?_);have q:=Xi { cls:=Value.type "StopIteration",data:=Data.fields (#[Value.ref s.heap.objs.size,Value.none,Value.none,Value.none,Value.bool false,Value.none]++ownMembersOf (Value.type "StopIteration") []) } (Xi { cls:=Value.type "tuple",data:=Data.seq #[] } eb)
 rw[XO _ _ (fun z=>by
  have:=Xj eb
  have z':(s.heap.push { cls:=Value.type "tuple",data:=Data.seq #[] }).objs.size=b:=z;rw[hsz]at z';exact Xk this (by rw[<- z'];exact Nat.not_lt.mpr (Nat.le_succ _)))]
 exact q
end
structure TurnX (X:Cx)(tg:Expr)(J:It)(fp:Qg)(it:Addr)(tn:Nat->Heap->Prop):Prop where
 mem:it∈fp
 obj:∀i h,tn i h->∀b∈fp,∃o,h.get? b=some o/\∀v,o.data≠.cell v
 keep:∀i h h',tn i h->(∀b∈fp,∀o,h.get? b=some o->h'.get? b=some o)->tn i h'
 item:∀(X':Cx),X'.prog=X.prog->X'.w=X.w->X'.K=X.K->X'.A=X.A->∀(i:Nat) (XaR:Qc) (s:Shared) (σ:St) (H:Hp) (E:Qb),Qq X' XaR σ H s->(∀b∈fp,VJ X' XaR H b)->tn i s.heap->J.go i H ->
  wpAny (model X.prog X.w) X'.A (pyNext (.ref it)) (fun r s1=>∃u,r=some u /\
   wpAny (model X.prog X.w) X'.A (letOwnedTupleGo tg (.ref it) u) (fun _ s2=>∃x H',Qq X' XaR σ H' s2/\QI x u/\J.yld i H x H'/\tn (i+1) s2.heap/\∀b∈fp,H' b=none) E s1) E s
 done:∀(X':Cx),X'.prog=X.prog->X'.w=X.w->X'.K=X.K->X'.A=X.A->∀(i:Nat) (XaR:Qc) (s:Shared) (σ:St) (H:Hp) (E:Qb),Qq X' XaR σ H s->(∀b∈fp,VJ X' XaR H b)->tn i s.heap->J.stop i H ->
  wpAny (model X.prog X.w) X'.A (pyNext (.ref it)) (fun r s1=>r=none/\Qq X' XaR σ H s1) E s
 self:∀(A:Around) (i:Nat) (s:Shared) (Q:Qb) (E:Qb),tn i s.heap->Q (.ref it) s->wpAny (model X.prog X.w) A (pyIter (.ref it)) Q E s
def Ko (X:Cx)(XaR:Qc)(σ:St)(tg:Expr)(R:It->Hp->Prop)(itv:Value)(s2:Shared):Prop :=
 ∃(it:Addr) (fp:Qg) (tn:Nat->Heap->Prop) (J:It) (H':Hp),itv=.ref it/\Qq X XaR σ H' s2/\TurnX X tg J fp it tn/\tn 0 s2.heap/\(∀b∈fp,VJ X XaR H' b)/\R J H'
def PIH (X:Cx)(tg iter:Expr)(wi:TI):Prop :=
 ∀(XaR:Qc) (s:Shared) (σ:St) (H:Hp) (R:It->Hp->Prop),Qq X XaR σ H s->wi σ H R ->
  wpAny (model X.prog X.w) X.A (eval iter X.env) (fun v s1=>wpAny (model X.prog X.w) X.A (pyIter v) (Ko X XaR σ tg R) X.xe s1) X.xe s
def Md (C e:Addr)(lo:Int)(n:Nat):It where
 go:=(Itr lo n).go
 stop:=fun i H=>(Itr lo n).stop i H/\∃dct T,H e=some (.ext (phF C e dct T))
 yld:=(Itr lo n).yld
theorem E7 {X:Cx}{C e:Addr}{tg:Expr}(hh:X.A.handled=some (.ref e))(it:Addr)(lo:Int)(n:Nat):TurnX X tg (Md C e lo n) [it] it (fun i h=>IsRangeIter h it (lo+(i:Nat)*1) ((n:Int)-(i:Nat)) 1) where
 mem:=by simp
 obj:=fun i h st b hb=>by
  have e:b=it:=by simpa using hb
  subst e;exact⟨_,st,fun v z=>by
   have z':Data.fields _=Data.cell v:=z
   cases z'⟩
 keep:=fun i h h' st k=>k it (by simp) _ st
 item:=by
  intro X' hP hw hK hA i XaR s σ H E I hf st hg;rw[<- hP,<- hw];obtain⟨f0,f1,f2,f3,f4,f5⟩:=hf it (by simp);have hg':i<n:=hg;refine wpAny_pyNext_range_item st (by omega) fun h' hit' hs'=>?_;have e1:lo+((i+1:Nat):Int)*1=lo+(i:Int)*1+1:=by push_cast;omega
  have e2:(n:Int)-((i+1:Nat):Int)=(n:Int)-(i:Int)-1:=by push_cast;omega
  have st':IsRangeIter h' it (lo+((i+1:Nat):Int)*1) ((n:Int)-((i+1:Nat):Int)) 1:=by rw[e1,e2];exact hit'
  refine⟨_,rfl,?_⟩;refine UI (n := "range_iterator") st' rfl rfl (by decide) ⟨.int (lo+i),H,I.turned (fun b o hb e=>(hs'.2 b hb).trans e) f0 f1 f3 f4 f5,?_,⟨rfl,rfl⟩,st',fun b hb=>(hf b hb).1⟩;have z:lo+(i:Int)=lo+(i:Int)*1:=by omega
  rw[z];exact⟨_,rfl⟩
 done:=by
  intro X' hP hw hK hA i XaR s σ H E I hf st hg;rw[<- hP,<- hw];obtain⟨f0,f1,f2,f3,f4,f5⟩:=hf it (by simp);obtain⟨hg,dct,T,he⟩:=hg;obtain⟨⟨vs,sl,hx,h1,h2⟩,_,_⟩:=I.hok e _ he;exact AE (by rw[hA];exact hh) st (by have:n<=i:=hg;omega) hx rfl h2 fun h' eb=>⟨rfl,I.turned (t':=s.toks) (fun b o hb e=>eb b o hb e) f0 f1 f3 f4 f5⟩
 self:=fun _ _ _ _ _ st h=>wpAny_pyIter_rangeiter st h
section
variable {X:Cx}{tg:Expr}
def Ky (C e:Addr)(ta:TA):TI:=fun σ H R=>ta σ H fun vs H1=>∃j:Int,vs=[.int j] /\ -(2^62)<=j/\j<2^62/\R (Md C e 0 j.toNat) H1
def Eb {C e:Addr}{XaR:Qc}{σ:St}{H:Hp}{s:Shared}{R:It->Hp->Prop}{E:Qb}{lo hi:Int}{t u v:Tok}{tk:Nat}(hh:X.A.handled=some (.ref e))(I:Qq X XaR σ H s)(h1 : -(2^62)<=lo)(h2:lo<2^62)(h3 : -(2^62)<=hi)(h4:hi<2^62)
 (q:R (Md C e lo (hi-lo).toNat) H):wpAny (model X.prog X.w) X.A (pyIter (.ref s.heap.objs.size)) (Ko X XaR σ tg R) E { s with heap:=s.heap.push { cls:=.type "range",data:=.fields #[.int lo t,.int hi u,.int 1 v] },toks:=tk }:=by
 refine wpAny_pyIter_range (IsRange.new ..) (small_one h1 h2 h3 h4) ?_;have I1:Qq X XaR σ H { s with heap:=s.heap.push { cls:=.type "range",data:=.fields #[.int lo t,.int hi u,.int 1 v] },toks:=tk }:=I.kept fun b o e=>Xi _ e
 refine⟨(s.heap.push { cls:=.type "range",data:=.fields #[.int lo t,.int hi u,.int 1 v] }).objs.size,[(s.heap.push { cls:=.type "range",data:=.fields #[.int lo t,.int hi u,.int 1 v] }).objs.size],_,_,H,rfl,
  I1.kept (t':=tk) fun b o e=>Xi _ e,E7 hh _ lo (hi-lo).toNat,?_,fun b hb=>?_,q⟩
 ·have e1:lo+((0:Nat):Int)*1=lo:=by simp
  have e2:(((hi-lo).toNat:Nat):Int)-((0:Nat):Int)=Builtin.Range.rangeSize lo hi 1:=by rw[rangeSize_one];split<;>omega
  show IsRangeIter _ _ (lo+((0:Nat):Int)*1) ((((hi-lo).toNat:Nat):Int)-((0:Nat):Int)) 1;rw[e1,e2];exact XD _ rfl
 ·have e:b=(s.heap.push { cls:=.type "range",data:=.fields #[.int lo t,.int hi u,.int 1 v] }).objs.size:=by simpa using hb
  subst e;exact I1.fpOk (Xq _) (I1.hok.fresh (Xq _))
def Sz {C e:Addr} {a:Expr} {ta:TA} {p pos:Pos} (hh:X.A.handled=some (.ref e)) (hg:Gl X "range") (hm:X.mg "range"=none) (ha:PA X [a] ta) (hs:starEach [a] X.env=[(false,eval a X.env)]:=by rfl):PIH X tg (.Call (.Name "range" p) [a] [] pos) (Ky C e ta):=by
 intro XaR s σ H R I h;refine Call_ (W8 I hg hm boot_range (PyProof.Rows.callWith_type1 (Q2 (ha pos XaR s σ H _ I h) fun us s1 ⟨vs,H1,I1,r1,q1⟩=>?_) hs rfl));obtain⟨j,e,q1,q2,q⟩:=q1;subst e;cases r1 with
 |cons r rr =>
   cases rr
   obtain⟨t,rfl⟩:=r;exact call_range_1 (Eb hh I1 (by omega) (by omega) q1 q2 (by simpa using q))
end
section
variable {X:Cx}{XaR:Qc}{σ:St}{H2:Hp}{b6:Shared}
def Lj {tg iter elt:Expr}{ifs:Qi}{scope:Scope}{pos:Pos}{N:Qh}{f:List (Option Nat)}{g:CIn->TG}{tc:CIn->TT}{te:CIn->TE}{cl:List (Str×Addr)}
 (ck:CompOk X.N X.env.scope N f scope)
 (hg:∀c,PG (Zu X N scope c) tg (g c)) (ht:∀c,TgOk f (g c)) (hcs:∀c,PCs (Zu X N scope c) ifs (tc c)) (he:∀c,PE (Zu X N scope c) elt (te c))
 (I2:Qq X XaR σ H2 b6) {it:Addr} {fp:Qg} {tn:Nat->Heap->Prop} {J:It} (T:TurnX X tg J fp it tn) (st:tn 0 b6.heap) (f2:∀b∈fp,VJ X XaR H2 b)
 {Q:VK} (hq:∀c:CIn,LCw f (g c) (tc c) (te c) σ J Q H2)
 (hcl1:∀x c,cl.lookup x=some c->X.env.cells.lookup x=some c) (hcl2:∀p∈scope.names,p.2=NameKind.free->∃c,cl.lookup p.1=some c)
 {RR:Value->Addr->Result->Shared->Prop} {E:Qb}
 (hRR:∀(acc C:Addr) (H':Hp) (s':Shared) (m':Str->Qf),s'.heap.Ns C m'->Qq X XaR σ H' s'->H' C=none->C≠X.env.locals->X.s₀.heap.objs.size<=C->(∀x c,X.env.cells.lookup x=some c->c≠C) ->
  (∀p∈X.pn++XaR,p.1≠C)->Q (.ref acc) H'->RR (.ref acc) C (.ok .next) s') :
 wpAny (model X.prog X.w) X.A (newList []) (fun acc b8=>wpAny (model X.prog X.w) X.A (newFunctionEnv scope X.env.globals cl [] X.env.qual none .none (some X.env)) (fun cenv bw =>
  codeAny (model X.prog X.w) X.A (.compStart (.ListComp elt [⟨tg,iter,ifs,0⟩] scope pos) 0 (.ref it) acc { cenv with scope:=relabel scope X.env }) (RR acc cenv.locals) bw) E b8) E b6:=by
 refine wpAny_newObj_type (wpAny_newFunctionEnv ck.nocell (by intro y hy;simp at hy) (fun b9 bq bv=>?_) ck.kind);dsimp only at bq bv ⊢;have I3:Qq X XaR σ H2 { b6 with heap:=b6.heap.push (ZO [] 0) }:=I2.kept (t':=b6.toks) fun b u e=>Xi _ e;have hD:(b6.heap.push (ZO [] 0)).get? b6.heap.objs.size=some (ZO [] 0):=XD _ rfl;generalize hs3:({ b6 with heap:=b6.heap.push (ZO [] 0) }:Shared)=b8 at I3 bq bv ⊢;have hp3:b6.heap.push (ZO [] 0)=b8.heap:=by rw[<- hs3]
 have hp3':b6.heap.push { cls:=.type "list",dict:=none,data:=.seq ([]:Qe).toArray }=b8.heap:=hp3;rw[hp3]at hD;simp only[hp3']at bq bv ⊢;have sz3:b6.heap.objs.size<b8.heap.objs.size:=by rw[<- hp3,YZ];exact Wa _
 have k3:∀b u,b6.heap.get? b=some u->b8.heap.get? b=some u:=fun b u e=>by rw[<- hp3];exact Xi _ e
 have k1:∀b u,b8.heap.get? b=some u->b9.get? b=some u:=fun b u e =>
  bv.extBut b u (Xo (Xj e)) (Xi _ e)
 have fpo:∀b∈fp,b<b6.heap.objs.size:=fun b hb=>by
  obtain⟨o,e,_⟩:=T.obj 0 _ st b hb;exact Xj e
 have st1:tn 0 b9:=T.keep _ _ _ st fun b hb o e=>k1 b o (k3 b o e);have fneC:∀b∈fp,b≠b8.heap.objs.size:=fun b hb=>Xo (Nat.lt_trans (fpo b hb) sz3);have fneD:∀b∈fp,b≠b6.heap.objs.size:=fun b hb=>Xo (fpo b hb)
 have cneD:∀x d,X.env.cells.lookup x=some d->d≠b6.heap.objs.size:=fun x d e=>by
  obtain⟨v,z⟩:=I2.cell x d e;exact Xo z.lt
 have pneD:∀p∈X.pn++XaR,p.1≠b6.heap.objs.size:=fun p hp=>Xo (Xj (I2.pin p hp).1);have freeD:H2 b6.heap.objs.size=none:=I2.fresh
 have stk:∀b,b≠X.env.locals->b∉X.fs->b∉frs X.stack:=fun b h1 h2 hb=>by
  rcases Xf.mp (I3.stkSub b hb) with z|z
  ·exact h1 z
  ·exact h2 z
 have exD:∀b,b∈b6.heap.objs.size::fp->b=b6.heap.objs.size\/b∈fp:=fun b hb=>Xf.mp hb
 let c:CIn:=⟨cl,b8.heap.objs.size,b8,H2,b6.heap.objs.size::fp,X.pn++XaR⟩
 have okX:(Zu X N scope c).Ok :=
  { mod:=I3.ok.mod
    kind:=ck.kind
    glob:=I3.ok.glob
    blt:=I3.ok.blt
    above:=Xq _
    inj:=fun x y d h1 h2=>I3.ok.inj x y d (hcl1 x d h1) (hcl1 y d h2)
    has:=fun x hx=>by
     rcases HM hx with z|z
     ·exact hcl2 (x,.free) (PySem.mem_of_lookup z) rfl
     ·exact Xk rfl (ck.nocell (x,.cell) (PySem.mem_of_lookup z))
    cab:=fun x d h=>Xk (show false=true from h) Xw
    hd:=I3.ok.hd
    frames:=I3.ok.frames
    stk:=.inl rfl
    exf:=fun b hb=>by
     rcases exD b hb with rfl|hb
     ·exact⟨Xo sz3,fun x d e=>cneD x d (hcl1 x d e)⟩
     ·exact⟨fneC b hb,fun x d e=>(f2 b hb).2.2.2.2.1 x d (hcl1 x d e)⟩
    bs:=fun b o e=>I3.bs b o e
    bsz:=XZ I3.ok.bsz I3.sz
    noex:=fun b o e hb=>by
     rcases exD b hb with rfl|hb
     ·exact Xk (Xj (I2.bk _ _ e)) (XW _)
     ·rcases(f2 b hb).2.2.2.1 with z|z
      ·exact I3.ok.noex b o e z
      ·exact Xk (Xs (Xj (I3.ok.bs b o e).1) z) (XW _)
    exfs:=fun b hb=>by
     rcases exD b hb with rfl|hb
     ·exact stk _ (XU I2.lt) (I2.nofs (Xq _))
     ·exact stk b (f2 b hb).2.1 (f2 b hb).2.2.1
    funs:=I3.stack
    frf:=I3.stkFree }
 have I4:Qq (Zu X N scope c) [(b6.heap.objs.size,ZO [] 0)] (ZI f σ) H2 { b8 with heap:=b9,toks:=b8.toks+([]:List (Str×Value)).length } :=
  { ok:=okX
    os:=rfl
    bare:=I3.bare
    base:=Un.kept k1
    loc:=⟨_,bq,fun i x v e1 e2 e3=>by
     have hfi:∃j,f[i]?=some (some j)/\σ[j]?=some (some v):=by
      unfold ZI at e2;rw[Xt]at e2;cases ef:f[i]? with
      |none=>rw[ef]at e2;cases e2
      |some o =>
        rw[ef]at e2;cases o with
        |none=>cases e2
        |some j =>
          refine⟨j,rfl,?_⟩;have e2':(σ[j]?).join=some v:=Option.some.inj e2
          cases es:σ[j]? with
          |none=>rw[es]at e2';cases e2'
          |some o2 =>
            rw[es]at e2';have:o2=some v:=e2';rw[this]
     obtain⟨j,ef,es⟩:=hfi;obtain⟨x',n1,n2,n3⟩:=ck.ix i j ef
     have:x'=x:=Option.some.inj (n1.symm.trans e1)
     subst this;have hfr:=ck.free (x',.free) (PySem.mem_of_lookup n3) rfl;obtain⟨m0,hm0,hl0⟩:=I3.loc;obtain⟨u,ru,lk⟩:=hl0 j x' v n2 es (hfr.elim (fun z=>.inr (.inl z)) fun z=>.inr (.inr z));refine⟨u,ru,.inr ⟨HN n3,?_⟩⟩
     rcases lk with ⟨kl,_⟩|⟨_,d,ed,hd⟩
     ·have kl':X.env.scope.names.lookup x'=some .local:=kl
      rcases hfr with z|z
      ·rw[kl']at z;cases z
      ·rw[kl']at z;cases z
     ·obtain⟨d',ed'⟩:=hcl2 (x',.free) (PySem.mem_of_lookup n3) rfl
      have:d'=d:=Option.some.inj ((hcl1 x' d' ed').symm.trans ed)
      subst this;exact⟨d',ed',hd.keeps k1⟩⟩
    cell:=fun x d e=>by
     obtain⟨v,z⟩:=I3.cell x d (hcl1 x d e)
     exact⟨v,z.keeps k1⟩
    free:=I3.fresh
    freeC:=fun x d e=>I3.freeC x d (hcl1 x d e)
    pin:=fun p hp=>by
     rcases Xx.mp (show p∈(X.pn++XaR)++[(b6.heap.objs.size,ZO [] 0)] from hp) with hp'|hp'
     ·obtain⟨e,n,ne,nf,d⟩:=I3.pin p hp'
      exact⟨k1 _ _ e,n,Xo (Xj e),stk p.1 ne nf,d⟩
     ·have z:p=(b6.heap.objs.size,ZO [] 0):=Xg.mp hp'
      subst z;exact⟨k1 _ _ hD,freeD,Xo sz3,stk _ (XU I2.lt) (I2.nofs (Xq _)),fun v z=>nomatch (show Data.seq _ _=Data.cell v from z)⟩
    hok:=I3.hok.kept k1
    len:=by
     show(ZI f σ).length=N.length
     unfold ZI;rw[Xn];exact ck.len }
 have back:∀{σ':St} {H':Hp} {s':Shared} {ps:Qc},Qq (Zu X N scope c) ps σ' H' s'->Qq X XaR σ H' s':=fun{σ' H' s' ps} J' =>
  I3.call' (ch:=b6.heap.objs.size::fp) J'.os J'.base J'.hok J'.bare fun b hb=>by
   rcases exD b hb with rfl|hb
   ·exact⟨.inr I2.sz,XU I2.lt,cneD,pneD⟩
   ·exact⟨(f2 b hb).2.2.2.1,(f2 b hb).2.1,(f2 b hb).2.2.2.2.1,(f2 b hb).2.2.2.2.2⟩
 have fpX:∀{H':Hp} {ob:Obj},(∀b∈fp,H' b=none)->∀b∈fp,VJ (Zu X N scope c) [(b6.heap.objs.size,ob)] H' b:=fun{H' ob} hn b hb =>
  ⟨hn b hb,(okX.exf b (Xd _ hb)).1,okX.exfs b (Xd _ hb),.inl (Xd _ hb),(okX.exf b (Xd _ hb)).2,fun p hp=>by
   rcases Xx.mp (show p∈(X.pn++XaR)++[(b6.heap.objs.size,ob)] from hp) with z|z
   ·exact(f2 b hb).2.2.2.2.2 p z
   ·have z:p=(b6.heap.objs.size,ob):=Xg.mp z
    subst z;exact(fneD b hb).symm⟩
 obtain⟨W,⟨m0,w0⟩,turn⟩:=hq c
 have loop:∀s,s=({ b8 with heap:=b9,toks:=b8.toks+([]:List (Str×Value)).length }:Shared) ->
  codeAny (model X.prog X.w) X.A (.compLoop (.ListComp elt [⟨tg,iter,ifs,0⟩] scope pos) 0 (.ref it) (.ref b6.heap.objs.size) (compEnvC scope cl b8.heap.objs.size X.env)) (RR (.ref b6.heap.objs.size) b8.heap.objs.size) s:=by
  rintro s rfl
  refine SN (fun n s'=>∃i H' ys its k,Qq (Zu X N scope c) [(b6.heap.objs.size,ZO its k)] (ZI f σ) H' s'/\QS ys its/\ys.length<=sizeLine/\tn i s'.heap/\(∀b∈fp,H' b=none)/\W i n ys H') ?_ m0 ⟨0,_,[],[],0,I4,.nil,XF _,st1,fun b hb=>(f2 b hb).1,w0⟩
  rintro n s5 ⟨i,H5,ys,its,k,I5,rv5,hz5,st5,fr5,w5⟩
  rcases turn i n ys H5 w5 with ⟨stop,qn⟩|⟨go,step⟩
  ·refine Q2 (T.done (Zu X N scope c) rfl rfl rfl rfl i _ s5 (ZI f σ) H5 _ I5 (fpX fr5) st5 stop) fun r s6 ⟨hr,I6⟩=>?_
   subst hr;obtain⟨m6,hn6,_⟩:=id I6.loc;obtain⟨eD,nD,_⟩:=I6.pin (b6.heap.objs.size,ZO its k) (XG _ (Xg.mpr rfl));have I7:Qq X XaR σ (upd H5 b6.heap.objs.size (.lst ys)) s6:=(back I6).track nD I2.sz (XU I2.lt) cneD pneD ⟨hz5,its,k,rv5,eD⟩;refine hRR _ _ _ s6 m6 hn6 I7 (by rw[Qr (XU sz3)];exact I6.free) (XU I3.lt) I3.sz (fun x d e=>?_) (fun p hp=>?_) (qn _ nD)
   ·obtain⟨v,z⟩:=I3.cell x d e
    exact Xo z.lt
   ·exact Xo (Xj (I3.pin p hp).1)
  ·refine Q2 (T.item (Zu X N scope c) rfl rfl rfl rfl i _ s5 (ZI f σ) H5 _ I5 (fpX fr5) st5 go) fun r s6 ⟨u,hr,h6⟩=>?_
   subst hr;refine Q2 h6 fun _ s7 ⟨x,H7,I7,r7,y7,st7,fr7⟩=>?_;have I7':=I7.pinned (fpX fr7) (T.obj _ _ st7);refine Q2 (hg c _ s7 (ZI f σ) H7 x u _ I7' r7 ((ht c).keep _ _ _ _ (step x H7 y7))) fun _ s8 ⟨σ8,H8,I8,kp8,q8⟩=>?_
   have wk:∀(j:Nat) v,(ZI f σ)[j]?=some (some v)->σ8[j]?=some (some v):=fun j v e=>by
    have ef:∃k,f[j]?=some (some k):=by
     have e':=e;unfold ZI at e';rw[Xt]at e';cases q:f[j]? with
     |none=>rw[q]at e';cases e'
     |some o =>
       cases o with
       |none=>rw[q]at e';cases e'
       |some k=>exact⟨k,rfl⟩
    obtain⟨k,ef⟩:=ef;rw[kp8.2 j k ef];exact e
   have recs:∀{H9:Hp} {s9:Shared} {ob:Obj},Qq (Zu X N scope c) ([(b6.heap.objs.size,ob)]++Uj fp s7.heap) σ8 H9 s9->tn (i+1) s9.heap/\∀b∈fp,H9 b=none:=fun{H9 s9 ob} I9 =>
    ⟨T.keep _ _ _ st7 fun b hb o e=>(I9.pin (b,o) (XG _ (XG _ (Uw hb e)))).1,fun b hb=>by
     obtain⟨o,e,d⟩:=T.obj _ _ st7 b hb
     exact(I9.pin (b,o) (XG _ (XG _ (Uw hb e)))).2.1⟩
   refine Q2 (hcs c _ s8 σ8 H8 _ I8 q8) fun ok s9 ⟨H9,I9,q9⟩=>?_
   cases ok with
   |false =>
     obtain⟨m',hm,w9⟩:=(show ∃m',m'<n/\W (i+1) m' ys H9 from q9);obtain⟨z1,z2⟩:=recs I9
     exact⟨m',hm,i+1,H9,ys,its,k,(I9.unpinned).weak kp8.1.symm wk,rv5,hz5,z1,z2,w9⟩
   |true =>
     refine Q2 (he c _ s9 σ8 H9 _ I9 (show te c σ8 H9 _ from q9)) fun v s10 ⟨y,H10,I10,r10,hlen,m',hm,w10⟩=>?_;obtain⟨eD,nD,neD,nfD,dD⟩:=I10.pin (b6.heap.objs.size,ZO its k) (XG _ (JK _ (Xg.mpr rfl)));obtain⟨z1,z2⟩:=recs I10;have lv:=rv5.length;refine call_meets F.slot_list_append ⟨_,eD,rfl⟩ F.entry_list_append (F.args_list_append_2 _ _) (PySem.list_append b6.heap.objs.size its.toArray k v (by rw[XB];omega)) ⟨eD,?_⟩;have q:=PySem.IsL.update eD (·.push v);have hf:its.toArray.push v=(its++[v]).toArray:=by simp
     rw[hf]at q;have I11:Qq (Zu X N scope c) [] σ8 H10 { s10 with heap:=s10.heap.update b6.heap.objs.size (Obj.mapSeq (·.push v)) } :=
      (I10.pins_of (pins':=[]) fun p hp=>Xk hp (by simp)).turned (t':=s10.toks) (it:=b6.heap.objs.size) (fun b o hb e=>(XO s10.heap (Obj.mapSeq (·.push v)) (Ne.symm hb)).trans e) nD neD (.inl Xa) (okX.exf _ Xa).2 fun p hp=>by
       have z:p∈(X.pn++XaR)++[]:=hp;rw[XH]at z;exact pneD p z
     have I12:Qq (Zu X N scope c) [(b6.heap.objs.size,ZO (its++[v]) _)] σ8 H10 { s10 with heap:=s10.heap.update b6.heap.objs.size (Obj.mapSeq (·.push v)) } :=
      I11.pins_of fun p hp=>by
       have z:p=(b6.heap.objs.size,_):=Xg.mp hp;subst z;exact⟨q,nD,neD,nfD,fun v z=>nomatch (show Data.seq _ _=Data.cell v from z)⟩
     refine⟨m',hm,i+1,H10,ys++[y],its++[v],_,I12.weak kp8.1.symm wk,rv5.append (.cons r10 .nil),by rw[Xm,BX];omega,?_,z2,w10⟩;exact T.keep _ _ _ z1 fun b hb o e=>(XO s10.heap (Obj.mapSeq (·.push v)) (fneD b hb).symm).trans e
 exact codeAny_compStart_list (loop _ (by rw[<- hs3])) (T.self _ 0 _ _ _ st1 (loop _ (by rw[<- hs3])))
def Sr {i:Nat}{x:Str}{px spos:Pos}{tg iter elt:Expr}{ifs:Qi}{scope:Scope}{pos:Pos}{NX:Qh}{sc:Scope}{N:Qh}{f:List (Option Nat)}{wi:TI}{g:CIn->TG}{tc:CIn->TT}{te:CIn->TE}
 (hN:X.N.Nodup) (hix:X.N[i]?=some x) (hx:X.env.scope.names.lookup x=some .local)
 (ck:Ge NX sc N f scope=true) (hNX:X.N=NX) (hsc:X.env.scope=sc) (hi:PIH X tg iter wi)
 (hg:∀c,PG (Zu X N scope c) tg (g c)) (ht:∀c,TgOk f (g c)) (hcs:∀c,PCs (Zu X N scope c) ifs (tc c)) (he:∀c,PE (Zu X N scope c) elt (te c))
 (hsw:swapsWith (.ListComp elt [⟨tg,iter,ifs,0⟩] scope pos) (some (.Name x px)) spos.line X.env=pure true)
 (hs:∀x,foldedSetIterable iter X.env x=pure x:=by intro _;rfl):PS X (.Assign [.Name x px] (.ListComp elt [⟨tg,iter,ifs,0⟩] scope pos) spos) (ZX (tLC f wi g tc te) (ZG i)):=by
 subst hNX hsc;intro XaR s σ H D I h;have ck':=DZ ck;obtain⟨cl,hclos,hcl1,hcl2⟩:=Hw (scope:=scope) (env:=X.env) fun p hp hf=>I.ok.has p.1 (ck'.free p hp hf);rw[exec_Assign_Name_used _ _ _ _ hsw];refine Xb (wpAny_standAt (Xb ?_));show wpAny _ X.A (do let _ <- comprehension (.ListComp elt [⟨tg,iter,ifs,0⟩] scope pos) scope X.env _ (newList []) false (eval iter X.env) (some (assign (.Name x px) X.env))) _ _ s
 refine Xb (wpAny_mono (wpAny_comprehension_free (use:=some (assign (.Name x px) X.env)) (Q:=fun _ s'=>SP X XaR D .next s') rfl hs hclos ck'.kind ck'.names
  (Q2 (hi XaR s σ H _ I h) fun xv b7 b9=>Q2 b9 fun itv b6 bj=>?_)) (fun _ s' hq=>Xp (Xp hq)) fun _ _ e=>e)
 obtain⟨it,fp,tn,J,H2,e,I2,T,st,f2,hq⟩:=bj;subst e;refine Lj (RR:=fun acc C=>compPost (model X.prog X.w) X.A X.xe (some (assign (.Name x px) X.env)) (fun _ s'=>SP X XaR D .next s') acc C) ck' hg ht hcs he I2 T st f2 hq hcl1 hcl2 ?_;intro acc C H' s' m' hn I' hC hL h0 h1 h2 q;show wpAny _ X.A (assign (.Name x px) X.env (.ref acc)) _ _ _;refine wpAny_assign_Name (DV I' hN hix (.inl hx) (v:=.ref acc) rfl (fun s'' I'' ⟨a,sb,ha⟩=>?_) (.inr hx))
 have nC:C≠a:=by
  rcases ha with z|z
  ·rw[z];exact hL
  ·exact(h1 _ _ z).symm
 refine⟨m',hn.sameBut sb nC,fun h'' hs''=>?_⟩
 exact⟨_,H',I''.turned (t':=s''.toks) (fun b o hb e=>(hs''.2 b hb).trans e) hC hL (.inr h0) h1 h2,q⟩
end
def UB (C:Addr)(f:Str)(ds:Qd)(e dx q:Addr):ZP where
 ok:=fun K F v=>v=.ref e/\(∃T,F e=some (.ext (phF C e (some dx) T)))/\F dx=some (.xd [(f,.ref q)])/\∃xs,F q=some (.lst xs)/\Qv F xs ds
 mono:=by
  rintro K F F' v s ⟨rfl,⟨T,h1⟩,h2,xs,h3,h4⟩
  exact⟨rfl,⟨T,s _ _ h1⟩,s _ _ h2,xs,s _ _ h3,h4.mono s⟩
section
variable {K:W.Frag}{ρ:Q6}{C:Addr}{f:Str}{th:Addr->TS}{tb:Ends->TS}{D:PEnds}{n i j:Nat}{ta:TE}{ds:Qd}{e dx q:Addr}
def W0.fz {F F' H:Hp}{p:Qg}(h:(W0 C f ds e dx q).ok K F H (.ref e) p)(s:Q4 F F')(he:∀b∈p,F' b=H b):(UB C f ds e dx q).ok K F' (.ref e):=by
 obtain⟨rfl,_,⟨T,h1⟩,h2,xs,h3,h4⟩:=h
 exact⟨rfl,⟨T,by rw[he _ (by simp)];exact h1⟩,by rw[he _ (by simp)];exact h2,xs,by rw[he _ (by simp)];exact h3,h4.mono s⟩
def QB.excz {H0 F H:Hp}{σ:St}(S:QB K H0 F ρ σ H)(h:ρ[i]?=some (some (.zow (UB C f ds e dx q)))):σ[i]?=some (some (.ref e))/\(∃T,F e=some (.ext (phF C e (some dx) T)))/\F dx=some (.xd [(f,.ref q)]):=by
 obtain⟨fp,g,_⟩:=S.fp;obtain⟨v,e1,_,rfl,h1,h2,_⟩:=g i _ h
 exact⟨e1,h1,h2⟩
def TZ {c:V}{cv:Value}{b:Bool}(h:ρ[i]?=some (some (.zow (UB C f ds e dx q))))(hc:G8 c=some cv)(hk:W.kitOne K (.ref C) cv=some b):Qt K (tCB (Yu K C) (QF (Q8 i) (QF (tC c) QO))) ρ (.bool b):=fun H0 F σ H Q S k=>by
 obtain⟨e1,⟨T,h1⟩,h2⟩:=S.excz h
 exact⟨.ref e,e1,.ref e,c,cv,b,rfl,hc,.inl ⟨e,dx,T,_,rfl,S.sub _ _ h1,S.sub _ _ h2,hk⟩,k F H _ (Q0.refl S.sub) (.bl b)⟩
def Ar {t:TA}{k:Int}(h:ρ[i]?=some (some (.zow (UB C f ds e dx q))))(ht:Zx K t ρ [.fz (.int k)])(h1 : -(2^62)<=k)(h2:k<2^62):EvI K (Ky C e t) ρ (ZS 0 k.toNat):=fun H0 F σ H R S r =>
 ht H0 F σ H _ S fun F1 H1 vs x1 r1=>by
  cases r1 with
  |fz a b =>
    cases b
    cases a
    obtain⟨_,⟨T,g1⟩,_⟩:=(S.ext x1).excz h;refine⟨k,rfl,h1,h2,r F1 H1 _ x1 fun F2 H2 s1 s2=>⟨⟨?_,_,T,s2 _ _ (s1 _ _ g1)⟩,fun i d hd=>?_⟩⟩
    ·rw[Wr];exact Xq _
    ·obtain⟨hi,rfl⟩:=YS hd
     exact⟨hi,fun x H3 hy=>by
      obtain⟨rfl,rfl⟩:=hy
      exact⟨F2,Q0.refl s2,.int _⟩⟩
def QB.freezeZX {H0 F H:Hp}{σ:St}{i:Nat}{v:V}{Φ:OwnP}{Ψ:ZP}(s:QB K H0 F ρ σ H)(e:ρ[i]?=some (some (.own v Φ)))
 (hz:∀{F F' H:Hp} {p:Qg},Φ.ok K F H v p->Q4 F F'->(∀b∈p,F' b=H b)->Ψ.ok K F' v) :
 ∃p,(∀a∈p,F a=none/\H a≠none/\H0 a=none)/\QB K H0 (frF F H p) (ρ.set i (some (.zow Ψ))) σ H:=by
 obtain⟨kt,h1,h2,fp,h3,h4,h5⟩:=s;obtain⟨u,e1,rfl,ok⟩:=h3 i _ e;have hlt:=(Xh.mp e).1;have th:=fun a ha=>Φ.there ok a ha;have sm:Q4 F (frF F H (fp i)):=Y5 fun a ha=>(th a ha).1;refine⟨fp i,fun a ha=>⟨(th a ha).1,(th a ha).2,(h5 i a ha).1⟩,kt.mono sm,UZ h1,by simp[h2],fun j=>if j=i then [] else fp j,fun j t' e'=>?_,fun j k b hb hc=>?_,fun j b hb=>?_⟩
 ·by_cases hj:j=i
  ·subst hj
   rw[Xl hlt]at e';cases e';refine⟨_,e1,?_,hz ok sm fun b hb=>YN hb⟩;dsimp only;rw[Xe rfl]
  ·rw[Xr (Ne.symm hj)]at e'
   obtain⟨u',f1,f2⟩:=h3 j t' e';refine⟨u',f1,?_⟩;dsimp only;rw[Xc hj];exact f2.frOther sm fun a ha z=>hj (h4 j i a ha z)
 ·by_cases hj:j=i
  ·simp[hj]at hb
  ·by_cases hk:k=i
   ·simp[hk]at hc
   ·simp only[Xc hj]at hb
    simp only[Xc hk]at hc;exact h4 j k b hb hc
 ·by_cases hj:j=i
  ·simp[hj]at hb
  ·simp only[Xc hj]at hb
   exact h5 j b hb
def FK {t:TE}{fs:Qd}(i:Nat)(h:ρ[i]?=some (some (.own (.ref e) (W0 C f ds e dx q))))(hf:W7 fs)(k:EvO K t (ρ.set i (some (.zow (UB C f ds e dx q)))) (.ol fs)):EvO K t ρ (.ol fs):=fun H0 F σ H Q S r=>by
 obtain⟨p,hp,S'⟩:=S.freezeZX h (fun a b c=>W0.fz a b c);refine k H0 _ σ H Q S' fun F' H' u pp x hpp ok=>?_;refine r _ H' u pp (WG (fun a ha=>⟨(hp a ha).1,(hp a ha).2.1⟩) x) hpp (Bi hf K F' _ H' u pp (fun a ha=>?_) ok)
 by_cases z:a∈p
 ·show(if a∈p then none else F' a)=none
  rw[Xe z]
 ·show(if a∈p then none else F' a)=none
  rw[Xc z];exact(ok.there a ha).1
def C3 (Φx:Qd->Prop)(hj:j<n)(hth:∀ds e dx q,Φx ds->Q1 K (th e) ((List.replicate n none).set j (some (.own (.ref e) (W0 C f ds e dx q)))) { nx:=fun ρ'=>D.nx (ρ'.set j none),rt:=fun _=>False })
 (hz:∀(E:Ends) (F0 H0 F:Hp) (σ:St) (H:Hp),Q0 F0 H0 F H->QB K H0 F ρ σ H->(∀F' H' e dct ds,Φx ds->Q0 F H F' H'->H e=none->Fld f e F' H' H dct ds->∀(σ1:St) H'' T,σ1.length=n->Lefts C e dct H' H''->H'' T=none->T≠e->th e (Dh E j) (σ1.set j (some (.ref e))) (left C e dct T H''))->tb E E σ H):Q1 K (Mb tb) ρ D:=fun F0 H0 F σ H E x S c=>by
 refine hz E F0 H0 F σ H x S fun F' H' e dct ds hds x' he fl σ1 H'' T hl hL hT hTe=>?_;obtain⟨dx,q,xs,rfl,fl⟩:=fl;have b1:H'' dx=some (.xd [(f,.ref q)]):=RD hL fl.nd fl.hd;have b2:H'' q=some (.lst xs):=RD hL fl.nq fl.hq;have nT1:dx≠T:=fun z=>by subst z;rw[hT]at b1;cases b1
 have nT2:q≠T:=fun z=>by subst z;rw[hT]at b2;cases b2
 have s1:Q4 H (left C e (some dx) T H''):=SJ (.step hL hT hTe) x'.hh he;have s2:Q4 F' (left C e (some dx) T H''):=SJ (.step hL hT hTe) x'.fh fl.fe;have o1:left C e (some dx) T H'' e=some (.ext (phF C e (some dx) T)):=by unfold left;rw[Qr (Ne.symm hTe),QA]
 have o2:left C e (some dx) T H'' dx=some (.xd [(f,.ref q)]):=by unfold left;rw[Qr nT1,Qr fl.nd];exact b1
 have o3:left C e (some dx) T H'' q=some (.lst xs):=by unfold left;rw[Qr nT2,Qr fl.nq];exact b2
 have X1:Q0 F0 H0 F' (left C e (some dx) T H''):=x.trans ⟨s1,x'.ff,s2,x'.fr⟩;have hj':j<σ1.length:=by omega
 refine hth ds e dx q hds F0 H0 F' (σ1.set j (some (.ref e))) _ (Dh E j) X1 ⟨S.kt.mono x'.ff,s2,by simp[hl],fun k=>if k=j then [e,dx,q] else [],fun k t ek=>?_,fun k l a ha hb=>?_,fun k a ha=>?_⟩ ⟨fun F4 σ4 H4 ρ4 x4 S4 q4=>c.nx F4 _ H4 _ x4 (S4.setN none) q4,fun _ _ _ _ _ _ _ _ z=>False.elim z,fun _ _ _ _ _ _ z=>False.elim z,fun _ _ _ _ _ _ z=>False.elim z⟩
 ·by_cases hk:k=j
  ·subst hk
   rw[Xl (by simpa using hj)]at ek;cases ek;refine⟨.ref e,Xl hj',?_⟩;dsimp only;rw[Xe rfl];exact⟨rfl,rfl,⟨fl.fe,fl.fd,fl.fq⟩,⟨T,o1⟩,o2,xs,o3,fl.rp⟩
  ·rw[Xr (Ne.symm hk),HP]at ek
   split at ek<;>cases ek
 ·by_cases hk:k=j
  ·by_cases hm:l=j
   ·omega
   ·simp[hm]at hb
  ·simp[hk]at ha
 ·dsimp only at ha
  by_cases hk:k=j
  ·rw[Xe hk]at ha
   rcases Xf.mp ha with rfl|ha
   ·exact⟨x.hh.free he,Zt o1⟩
   ·rcases Xf.mp ha with rfl|ha
    ·exact⟨x.hh.free fl.d0,Zt o2⟩
    ·rcases Xf.mp ha with rfl|ha
     ·exact⟨x.hh.free fl.q0,Zt o3⟩
     ·cases ha
  ·simp[hk]at ha
end
section
variable {K:W.Frag}{ρ:Q6}{te:TE}{D:PEnds}{i j k:Nat}{Θ:Int->OT->Prop}{r:R2}{c:V}{Ψ:OT->Q6->Prop}
def Tb {s:TE->TS}(hw:EvW K te ρ i Θ)(hs:∀(H0 F:Hp) (σ:St) (H:Hp) (E:Ends),QB K H0 F ρ σ H->(∀Q:VK,(∀n H1,s (tC (.int n)) E σ H1->Q (.int n) H1)->te σ H Q)->s te E σ H)
 (hn:∀n o,Θ n o->EvR K (s (tC (.int n))) (ρ.set i (some o)) Ψ):EvR K (s te) ρ Ψ:=fun F0 H0 F σ H E x S c =>
 hs H0 F σ H E S fun Q hQ=>hw F0 H0 F σ H Q x S fun F' H' n o hΘ x' _ S'=>hQ n H' (hn n o hΘ F0 H0 F' σ H' E x' S' c)
def Br (hw:EvW K te ρ i Θ)(hn:∀n o,Θ n o->D.nx ((ρ.set i (some o)).set j (some (.fz (.int n))))):Q1 K (ZX te (ZG j)) ρ D :=
 UO (s:=fun x=>ZX x (ZG j)) hw (fun _ _ _ _ _ _ h=>h _ fun _ _ q=>q) fun n o h=>ZV QC (hn n o h)
def RF (hw:EvW K te ρ i Θ)(hn:∀n o,Θ n o->Q1 K (ZX (tOp r (tC c) (tC (.int n))) (ZG j)) (ρ.set i (some o)) D):Q1 K (ZX (tOp r (tC c) te) (ZG j)) ρ D :=
 UO (s:=fun x=>ZX (tOp r (tC c) x) (ZG j)) hw (fun _ _ _ _ _ _ h=>h _ fun _ _ q=>q) hn
def Cp {d:PyData}(ek:ρ[k]?=some (some (.fz d)))(hw:EvW K te ρ i Θ)(hn:∀n o,Θ n o->Q1 K (ZX (tOp r (Q8 k) (tC (.int n))) (ZG j)) (ρ.set i (some o)) D):Q1 K (ZX (tOp r (Q8 k) te) (ZG j)) ρ D :=
 UO (s:=fun x=>ZX (tOp r (Q8 k) x) (ZG j)) hw (fun H0 F σ H E S h=>by
  obtain⟨fp,g,_⟩:=S.fp;obtain⟨v',e1,_⟩:=g k _ ek
  exact⟨v',e1,h _ fun n H1 ⟨v'',e2,q⟩=>by rw[e1]at e2;cases e2;exact q⟩) hn
def LL {g:TG}{b:TS}(hw:EvW K te ρ i Θ)(hn:∀n o,Θ n o->Q1 K (WY (UJ (QF (tOp r (tC c) (tC (.int n))) QO)) g b) (ρ.set i (some o)) D):Q1 K (WY (UJ (QF (tOp r (tC c) te) QO)) g b) ρ D :=
 UO (s:=fun x=>WY (UJ (QF (tOp r (tC c) x) QO)) g b) hw (fun _ _ _ _ _ _ h=>h _ fun _ _ q=>q) hn
def LV {b:Nat}{ds:Qd}{d:PyData}{r2:List V->Hp->VK->Prop}{r3:R2}(eb:ρ[b]?=some (some (.ol ds)))(ek:ρ[k]?=some (some (.fz d)))(hw:EvW K te ρ i Θ)
 (hn:∀n o,Θ n o->Q1 K (Vi (tBM K "list" V2 (Q8 b) (QF (tOp r (Q8 k) (tCB r2 (QF (tOp r3 (tC (.int n)) (tC c)) QO))) QO))) (ρ.set i (some o)) D) :
 Q1 K (Vi (tBM K "list" V2 (Q8 b) (QF (tOp r (Q8 k) (tCB r2 (QF (tOp r3 te (tC c)) QO))) QO))) ρ D :=
 UO (s:=fun x=>Vi (tBM K "list" V2 (Q8 b) (QF (tOp r (Q8 k) (tCB r2 (QF (tOp r3 x (tC c)) QO))) QO))) hw (fun H0 F σ H E S h=>by
  obtain⟨fp,g,_⟩:=S.fp;obtain⟨v',e1,_⟩:=g k _ ek;obtain⟨u,e2,a,rfl,_,_,xs,ha,_⟩:=g b _ eb;refine⟨.ref a,e2,.inl ⟨rfl,_,SqL.of ha⟩,v',e1,h _ fun n H1 ⟨u2,e3,_,v2,e4,q⟩=>?_⟩;rw[e2]at e3;cases e3;rw[e1]at e4;cases e4;exact q) hn
def LG {a1 a2 a3 a4:Nat}{d1 d2 d3 d4:PyData}(e1:ρ[a1]?=some (some (.fz d1)))(e2:ρ[a2]?=some (some (.fz d2)))(e3:ρ[a3]?=some (some (.fz d3)))(e4:ρ[a4]?=some (some (.fz d4)))(hw:EvW K te ρ i Θ)
 (hn:∀n o,Θ n o->EvR K (Yl (JS (QF (Q8 a1) (QF (Q8 a2) (QF (Q8 a3) (QF (Q8 a4) (QF (tOp r (tC c) (tC (.int n))) QO))))))) (ρ.set i (some o)) Ψ) :
 EvR K (Yl (JS (QF (Q8 a1) (QF (Q8 a2) (QF (Q8 a3) (QF (Q8 a4) (QF (tOp r (tC c) te) QO))))))) ρ Ψ :=
 Tb (s:=fun x=>Yl (JS (QF (Q8 a1) (QF (Q8 a2) (QF (Q8 a3) (QF (Q8 a4) (QF (tOp r (tC c) x) QO))))))) hw (fun H0 F σ H E S h=>by
  obtain⟨fp,g,_⟩:=S.fp;obtain⟨v1,f1,_⟩:=g a1 _ e1;obtain⟨v2,f2,_⟩:=g a2 _ e2;obtain⟨v3,f3,_⟩:=g a3 _ e3;obtain⟨v4,f4,_⟩:=g a4 _ e4;refine⟨v1,f1,v2,f2,v3,f3,v4,f4,h _ fun n H1 ⟨u1,k1,u2,k2,u3,k3,u4,k4,q⟩=>?_⟩;rw[f1]at k1;cases k1;rw[f2]at k2;cases k2;rw[f3]at k3;cases k3;rw[f4]at k4;cases k4;exact q) hn
end
section
variable {prog:Program}{w:World}{A:Around}{E:Qb}{s:Shared}
end
section
variable {X:Cx}{pos:Pos}
end
def SQ {K:W.Frag}{ρ:Q6}{ta:TE}{t:TA}{ts:List OT}{R:Qd->List OT->(OT->Qd->Prop)->Prop}{Φ1 Φ:OT->Prop}{E':XK}(h:Zq K ta ρ Φ1)(hA:Zx K t ρ ts)(hR:∀r,Φ1 r->∃ds Ψ,r=.ol ds/\R ds ts Ψ/\∀r ds',Ψ r ds'->Φ r) :
 Zq K (VF (spP K olP R) [] E' (QF ta t)) ρ Φ:=fun H0 F σ H Q S q =>
 h H0 F σ H _ S fun F1 H1 u p r0 hr0 x1 hp ok=>by
  obtain⟨ds,Ψ,rfl,hR,hn⟩:=hR r0 hr0;refine hA H0 F1 σ H1 _ (S.ext x1) fun F2 H2 vs x2 r2=>?_;have ok2:=ok.ext x2;obtain⟨a,rfl,rfl,ol⟩:=ok2;have x12:=x1.trans x2;have ha:H a=none:=hp a Xa;refine⟨F2,.ref a,vs++[],[a],ts,ds,Ψ,rfl,(S.ext x12).kt,x2.fh,by rw[XH];exact r2,⟨a,rfl,rfl,ol⟩,hR,fun F' H' p' N' v' r qq hr xn ok' sub sok hq=>?_⟩;refine q F' H' v' qq r (hn r N' hr) ⟨fun b o hb=>?_,x12.ff.trans xn.ff,xn.fh,fun b hb=>?_⟩ (fun b hb=>?_) sok
  ·refine xn.hh b o (fun z=>?_) (x12.hh b o hb)
   cases Xg.mp z
   rw[ha]at hb;cases hb
  ·rcases xn.fr b hb with z|z|z
   ·exact x12.fr b z
   ·exact .inr (x12.hh.free z)
   ·cases Xg.mp z;exact .inr ha
  ·rcases(hq b hb).1 with z|z
   ·cases Xg.mp z;exact ha
   ·exact x12.hh.free z
section
variable {K:W.Frag}{ρ:Q6}{te ty tv:TE}{t:TA}{D:PEnds}{i j:Nat}{v:V}{C:Addr}{N:HandS}{m:Str}{ts:List OT}
end
section
variable {P:Program}{w:World}{K:W.Frag}{mg:Str->Qf}{base:Heap}
def Mf.evP {α:Type}{Φ:α->OwnP}{C:Addr}{m qual:Str}{st:Stmt}{L ps:Qh}{k:Nat}{R:α->List OT->(OT->α->Prop)->Prop}(D:Mf K C m qual st ps)(S:Qp L ps (Qx st))(len:∀M ts Ψ,R M ts Ψ->ts.length+1=ps.length)
 (hret:∀(f:Addr) (cdv:Value) (A:Around) (outer:List Env) (s:Shared) (H:Hp) (E:XK) (v:V) (M:α) (ts:List OT) (Ψ:OT->α->Prop),Room k (A.deeper (envOfC qual (Qx st) s.heap.objs.size f cdv))->R M ts Ψ ->
  ∃t,PSs (Vb CX0 P w K mg base L qual (Qx st) f cdv A outer s H E).nox (Zg st) t/\EvR K t (some (.own v (Φ M))::(ts.map some++List.replicate (L.length-(ts.length+1)) none)) (fun r ρ'=>∃M',Ψ r M'/\ρ'[0]?=some (some (.own v (Φ M'))))):Zi P w K mg base C m ps (k+1) (spP K Φ R):=by
 obtain⟨f,fd,F,hm,hb⟩:=D.ex;refine⟨f,fd,hm,hb,F.ok S (fun vs H Q E h=>?_) fun cdv A outer s H vs Q E hr h=>?_⟩
 ·obtain⟨F,v0,vs',p,ts,M,Ψ,e,_,_,ha,_,hR,_⟩:=h
  rw[e,XJ,ha.length];exact len _ _ _ hR
 ·obtain⟨F,v0,vs',p,ts,M,Ψ,e,kt,sm,ha,ok,hR,q⟩:=h
  subst e;obtain⟨t,h1,h2⟩:=hret f cdv A outer s H E v0 M ts Ψ hr hR
  exact⟨t,h1,B1 (R:=R) h2 kt sm ha ok q⟩
end
section
variable {K:W.Frag}{ρ:Q6}{D:PEnds}{i:Nat}{v:V}{C:Addr}
end
section
variable {K:W.Frag}{ρ:Q6}{D:PEnds}{i j:Nat}{v:V}{C:Addr}{N:HandS}{t:TA}{ts:List OT}{te:TE}{R:HandS->List OT->(OT->HandS->Prop)->Prop}{R2:List OT->(OT->Prop)->Prop}{E':XK}
end
end L2
end
namespace L2
open PySem PySem.Spec PyProof.Rows
section
variable {prog:Program}{w:World}{A:Around}{E:Qb}{s:Shared}
end
section
variable {X:Cx}{e:Expr}{te:TE}{lo hi:Option Expr}{se:Expr}{tl th ts:TO}{pos p2:Pos}
end
section
variable {K:W.Frag}{ρ:Q6}{te:TE}
end
end L2
namespace Mir
section
variable {m:Nat}{w:Qn}{g:(Qm)->Int}
end
end Mir
namespace Mir
end Mir
section
namespace L2
open PySem PySem.Spec PyProof.Rows
def Bj:bootBuiltins "dict"=some (.type "dict"):=by decide +kernel
def GR:List V->Hp->VK->Prop:=fun vs H Q=>∃a kvs,vs=[.ref a]/\H a=some (.dK kvs)/\∀p,H p=none->Q (.ref p) (upd H p (.dK kvs))
def DD {X:Cx}:Z1 X (.type "dict") GR:=by
 intro XaR s σ H xs us Q I r h;obtain⟨a,kvs,rfl,ha,q⟩:=h;obtain⟨u,rfl,ru⟩:=Yx r
 cases ru
 exact FT I (.of ha) fun p s' hp I'=>⟨.ref p,_,I',rfl,q p hp⟩
section
variable {K:W.Frag}{ρ:Q6}{ty tv te tb:TE}{t:TA}{D:PEnds}{i j:Nat}{v u:V}{C:Addr}{N:HandS}{m:Str}{ts:List OT}{kvs:QX}
def QB.absorb {H0 F H:Hp}{σ:St}{Φ Φj:OwnP}(s:QB K H0 F ρ σ H)(hij:i≠j)(e:ρ[i]?=some (some (.own v Φ)))(ej:ρ[j]?=some (some (.own u Φj))) :
 σ[i]?=some (some v)/\σ[j]?=some (some u)/\∃p q,Φ.ok K F H v p/\Φj.ok K F H u q/\(∀a∈p,H0 a=none/\F a=none/\H a≠none)/\(∀a∈q,H0 a=none/\F a=none/\H a≠none)/\(∀a∈q,a∉p) /\
  ∀(H':Hp) (Φ':OwnP) (p':Qg),Q4 F H'->(∀b,b∉p->b∉q->H b≠none->H' b=H b)->(∀b,H b≠none->H' b≠none)->Φ'.ok K F H' v p'->(∀a∈p',a∈p\/a∈q\/(H a=none/\H0 a=none)) ->
   QB K H0 F ((ρ.set j none).set i (some (.own v Φ'))) σ H':=by
 obtain⟨kt,h1,h2,fp,h3,h4,h5⟩:=s;obtain⟨v',e1,rfl,e2⟩:=h3 i _ e;obtain⟨u',f1,rfl,f2⟩:=h3 j _ ej;refine⟨e1,f1,fp i,fp j,e2,f2,fun a ha=>⟨(h5 i a ha).1,(Φ.there e2 a ha).1,(h5 i a ha).2⟩,fun a ha=>⟨(h5 j a ha).1,(Φj.there f2 a ha).1,(h5 j a ha).2⟩,fun a ha hb=>hij (h4 j i a ha hb).symm,fun H' Φ' p' sm kp st ok sub=>?_⟩;have hlt:=(Xh.mp e).1;have hlj:=(Xh.mp ej).1;refine⟨kt,sm,by simp[h2],fun k=>if k=i then p' else if k=j then [] else fp k,fun k t' e'=>?_,fun k l a ha hb=>?_,fun k a ha=>?_⟩
 ·by_cases hk:k=i
  ·subst hk
   rw[Xl (by simpa using hlt)]at e';cases e';refine⟨_,e1,rfl,?_⟩;simp only[if_true];exact ok
  ·rw[Xr (Ne.symm hk)]at e'
   by_cases hj:k=j
   ·subst hj
    rw[Xl hlj]at e';cases e'
   ·rw[Xr (Ne.symm hj)]at e'
    obtain⟨u',g1,g2⟩:=h3 k t' e';refine⟨u',g1,?_⟩;simp only[Xc hk,Xc hj];exact g2.keep fun b hb=>kp b (fun z=>hk (h4 k i b hb z)) (fun z=>hj (h4 k j b hb z)) (h5 k b hb).2
 ·have key:∀{k l:Nat} {a:Addr},k≠i->a∈(if k=j then ([]:Qg) else fp k)->a∈p'->False:=fun{k l a} hk ha hb=>by
   by_cases hj:k=j
   ·rw[Xe hj]at ha;exact nomatch ha
   ·rw[Xc hj]at ha
    rcases sub a hb with z|z|z
    ·exact hk (h4 k i a ha z)
    ·exact hj (h4 k j a ha z)
    ·exact(h5 k a ha).2 z.1
  by_cases hk:k=i
  ·by_cases hl:l=i
   ·omega
   ·simp only[Xe hk]at ha
    simp only[Xc hl]at hb;exact(key (l:=0) hl hb ha).elim
  ·simp only[Xc hk]at ha
   by_cases hl:l=i
   ·simp only[Xe hl]at hb
    exact(key (l:=0) hk ha hb).elim
   ·simp only[Xc hl]at hb
    by_cases hj:k=j
    ·rw[Xe hj]at ha;exact nomatch ha
    ·by_cases hj':l=j
     ·rw[Xe hj']at hb;exact nomatch hb
     ·rw[Xc hj]at ha
      rw[Xc hj']at hb;exact h4 k l a ha hb
 ·by_cases hk:k=i
  ·simp only[Xe hk]at ha
   rcases sub a ha with z|z|z
   ·exact⟨(h5 i a z).1,st a (h5 i a z).2⟩
   ·exact⟨(h5 j a z).1,st a (h5 j a z).2⟩
   ·exact⟨z.2,(Φ'.there ok a ha).2⟩
  ·simp only[Xc hk]at ha
   by_cases hj:k=j
   ·rw[Xe hj]at ha;exact nomatch ha
   ·rw[Xc hj]at ha
    exact⟨(h5 k a ha).1,st a (h5 k a ha).2⟩
def T5 {k m n:Int}(c:HandC K C)(e:ρ[i]?=some (some (.own v (QU C N))))(hi:Qt K tb ρ (.int k))(h0:0<=k)(hm:N.given[k.toNat]?=some m)(h:Qt K te ρ (.int n))
 (hn:D.nx (ρ.set i (some (.own v (QU C { N with given:=N.given.set k.toNat (m+n) }))))):Q1 K (GE (ZL K (Q8 i) "given") tb te (GG K) (ipI fun a b=>a+b) UK) ρ D:=fun F0 H0 F σ H E x S C'=>by
 obtain⟨a,dx,kk,g,d,m',y,xs,as,rfl,e1,ok,_⟩:=S.hand e;refine⟨_,e1,a,C,dx,_,.ref g,rfl,ok.ins.2,c.cl,c.gv,rfl,hi H0 F σ H _ S fun F1 H1 y1 x1 r1=>?_⟩
 cases r1
 obtain⟨_,rx,r2,r3⟩:=ok.given;have hm':(N.given.map PyData.int)[k.toNat]?=some (.int m):=by rw[Xt,hm];rfl
 obtain⟨z,z1,z2⟩:=(r3.mono x1.ff).get hm';refine⟨g,rx,k,z,rfl,rfl,SqL.of (x1.hh _ _ r2),h0,z1,h H0 F1 σ H1 _ (S.ext x1) fun F2 H2 u x2 r2'=>?_⟩
 cases r2'
 cases z2
 refine⟨m,n,rfl,rfl,?_⟩;obtain⟨a',dx',k',g',d',m'',y',xs',as',ea,g1,ok',hp,wr⟩:=(S.ext (x1.trans x2)).hand e
 cases ea
 obtain⟨rfl,rfl,rfl,rfl,rfl,rfl⟩:=ok.same ok' (((x1.trans x2).hh _ _ ok.ins.2).trans ok.ins.2.symm);obtain⟨q1,qx,q2,q3⟩:=ok'.given;have hlt:k.toNat<N.given.length:=(Xh.mp hm).1
 have hr:Qv F2 (qx.set k.toNat (.int (m+n))) ((N.given.set k.toNat (m+n)).map PyData.int):=by
  rw[List.map_set];exact q3.set (.int _) _
 have hr0:=hp g' (by simp);refine⟨g',qx,k,k.toNat,rfl,rfl,q2,?_,?_⟩
 ·rw[q3.length,Xn]
  unfold ixN;rw[Xe h0,Xe (by omega)]
 ·exact C'.nx F2 σ _ _ ((x.trans (x1.trans x2)).wr hr0.1 hr0.2.1) (wr _ _ y' xs' as' ((S.ext (x1.trans x2)).sub.upd hr0.2.1) (fun b hb _=>Qr fun z=>hb (by rw[z];simp)) Vw (ok'.setGiven hr) (fun b hb=>.inl hb)) hn
theorem MadeD.len {F H:Hp}:∀{as:Qg} {ms:List QX},MadeD F H as ms->as.length=ms.length
 |_,_,.nil=>rfl
 |_,_,.cons _ _ _ t=>by simp[t.len]
theorem MadeD.snoc {F H:Hp}{b:Addr}{xs:List (Key×V)}{ms:List QX}(h1:F b=none)(h2:H b=some (.dK xs))(h3:PairK F xs kvs):∀{as:Qg} {ms:List QX},MadeD F H as ms->MadeD F H (as++[b]) (ms++[kvs])
 |_,_,.nil=>.cons h1 h2 h3 .nil
 |_,_,.cons g1 g2 g3 t=>.cons g1 g2 g3 (MadeD.snoc (ms:=ms) h1 h2 h3 t)
def HandOk.addMade {F H:Hp}{a dx k g d m b:Addr}{y:V}{xs zs:List (Key×V)}{as:Qg}(ok:HandOk C N F H a dx k g d m y xs as)(hb:b∉a::dx::k::g::d::m::as)(h1:F b=none)(h2:H b=some (.dK zs))(h3:PairK F zs kvs) :
 HandOk C { N with made:=N.made++[kvs] } F (upd H m (.lst ((as++[b]).map V.ref))) a dx k g d m y xs (as++[b]):=by
 obtain⟨nd,⟨i1,i2⟩,⟨o1,o2⟩,yd,⟨k1,kx,k2,k3⟩,⟨g1,gx,g2,g3⟩,⟨d1,d2,d3⟩,⟨m1,m2,m3⟩⟩:=ok;have nd':=nd;simp only[Xu,Xf,not_or]at nd';obtain⟨⟨a1,a2,a3,a4,a5,a6⟩,⟨b1,b2,b3,b4,b5⟩,⟨c1,c2,c3,c4⟩,⟨f1,f2,f3⟩,⟨u1,u2⟩,w1,w2⟩:=nd';simp only[Xf,not_or]at hb;obtain⟨n1,n2,n3,n4,n5,n6,n7⟩:=hb
 have nd2:(a::dx::k::g::d::m::(as++[b])).Nodup:=by
  have e:a::dx::k::g::d::m::(as++[b])=(a::dx::k::g::d::m::as)++[b]:=rfl;rw[e,JG];refine⟨nd,by simp,fun z hz z' hz'=>?_⟩;rw[Xg.mp hz'];rintro rfl;simp only[Xf]at hz;rcases hz with h|h|h|h|h|h|h
  ·exact n1 h
  ·exact n2 h
  ·exact n3 h
  ·exact n4 h
  ·exact n5 h
  ·exact n6 h
  ·exact n7 h
 refine⟨nd2,⟨i1,by rw[Qr a5];exact i2⟩,⟨o1,by rw[Qr b4];exact o2⟩,yd,⟨k1,kx,by rw[Qr c3];exact k2,k3⟩,⟨g1,gx,by rw[Qr f2];exact g2,g3⟩,⟨d1,by rw[Qr u1];exact d2,d3⟩,⟨m1,QA,?_⟩⟩
 exact(m3.snoc (ms:=N.made) h1 h2 h3).other fun z=>by
  rcases Xx.mp z with z|z
  ·exact w1 z
  ·exact n6 (Xg.mp z).symm
def HandOk.setNow {F H:Hp}{a dx k g d m:Addr}{y:V}{xs:List (Key×V)}{as:Qg}(ok:HandOk C N F H a dx k g d m y xs as)(n:Int) :
 HandOk C { N with now:=n } F (upd H a (.ins C dx (hfs y n k g d m))) a dx k g d m y xs as:=by
 obtain⟨nd,⟨i1,i2⟩,⟨o1,o2⟩,yd,⟨k1,kx,k2,k3⟩,⟨g1,gx,g2,g3⟩,⟨d1,d2,d3⟩,⟨m1,m2,m3⟩⟩:=ok;have nd':=nd;simp only[Xu,Xf,not_or]at nd';obtain⟨⟨a1,a2,a3,a4,a5,a6⟩,_⟩:=nd'
 exact⟨nd,⟨i1,QA⟩,⟨o1,by rw[Qr (Ne.symm a1)];exact o2⟩,yd,⟨k1,kx,by rw[Qr (Ne.symm a2)];exact k2,k3⟩,⟨g1,gx,by rw[Qr (Ne.symm a3)];exact g2,g3⟩,⟨d1,by rw[Qr (Ne.symm a4)];exact d2,d3⟩,⟨m1,by rw[Qr (Ne.symm a5)];exact m2,m3.other a6⟩⟩
def CY {Ψ:OT->Q6->Prop}(hj:0≠j)(c:HandC K C)(e0:ρ[0]?=some (some (.own v (QU C N))))(ej:ρ[j]?=some (some (.own u (dkP kvs))))(hl:N.made.length<1000)
 (hr:∀w,Ψ (.own w (dkP kvs)) ((ρ.set j none).set 0 (some (.own v (QU C { N with made:=N.made++[kvs],now:=N.now+1 }))))) :
 EvR K (YD (Vi (tBM K "list" V2 (ZL K (Q8 0) "made") (QF (Q8 j) QO))) (YD (NL K (Q8 0) (tC (.int 1)) HU "present") (Yl (tCB GR (QF (Q8 j) QO))))) ρ Ψ:=fun F0 H0 F σ H E x S kk=>by
 obtain⟨s0,sj,p,q,okp,okq,hp,hq,hd,wr⟩:=S.absorb hj e0 ej;obtain⟨a,dx,k,g,d,m,y,xs,as,rfl,rfl,ok⟩:=okp;obtain⟨b,zs,rfl,rfl,b1,b2,b3⟩:=okq;have hb:b∉a::dx::k::g::d::m::as:=hd b Xa;have al:as.length=N.made.length:=ok.made.2.2.len;have nd:=ok.nd;simp only[Xu,Xf,not_or]at nd;have am:a≠m:=nd.1.2.2.2.2.1;have hpm:=hp m (by simp);have hpa:=hp a (by simp);have ok1:=ok.addMade hb b1 b2 b3;have ok2:=ok1.setNow (N.now+1)
 have nb:b≠a/\b≠m:=by
  simp only[Xf,not_or]at hb;exact⟨hb.1,hb.2.2.2.2.2.1⟩
 refine⟨_,s0,a,C,dx,_,.ref m,rfl,ok.ins.2,c.cl,c.md,rfl,.inl ⟨rfl,_,SqL.of ok.made.2.1⟩,_,sj,m,_,_,rfl,rfl,ok.made.2.1,by rw[Xn,al];exact ZH (by omega),?_⟩;have em:as.map V.ref++[V.ref b]=(as++[b]).map V.ref:=by rw[Xy];rfl
 rw[em];refine⟨_,s0,a,C,dx,_,.int N.now,rfl,ok1.ins.2,c.cl,c.pr,rfl,N.now,1,rfl,rfl,dx,_,ok1.ins.2,by show 6<1000;decide,?_⟩;have ef:Vy "present" (.int (N.now+1)) (hfs y N.now k g d m)=hfs y (N.now+1) k g d m:=rfl;rw[ef];generalize hH1:upd H m (.lst ((as++[b]).map V.ref))=H1 at ok1 ok2;generalize hH2:upd H1 a (.ins C dx (hfs y (N.now+1) k g d m))=H2 at ok2;have e2:∀z,z≠a->z≠m->H2 z=H z:=fun z z1 z2=>by rw[<- hH2,Qr z1,<- hH1,Qr z2]
 have X1:Q0 F0 H0 F H1:=by rw[<- hH1];exact x.wr hpm.1 hpm.2.1
 have X2:Q0 F0 H0 F H2:=by rw[<- hH2];exact X1.wr hpa.1 hpa.2.1
 have th1:∀z,H z≠none->H1 z≠none:=by rw[<- hH1];exact Vw
 have th2:∀z,H1 z≠none->H2 z≠none:=by rw[<- hH2];exact Vw
 have S2:=wr H2 (QU C { N with made:=N.made++[kvs],now:=N.now+1 }) (a::dx::k::g::d::m::(as++[b])) X2.fh
  (fun z z1 _ _=>e2 z (fun h=>z1 (by rw[h];simp)) (fun h=>z1 (by rw[h];simp))) (fun z hz=>th2 z (th1 z hz)) ⟨a,dx,k,g,d,m,y,xs,as++[b],rfl,rfl,ok2⟩ (fun z hz=>by
   have ee:a::dx::k::g::d::m::(as++[b])=(a::dx::k::g::d::m::as)++[b]:=rfl;rw[ee]at hz;rcases Xx.mp hz with hz|hz
   ·exact .inl hz
   ·exact .inr (.inl hz))
 refine⟨_,sj,b,zs,rfl,(e2 b nb.1 nb.2).trans b2,fun r hr'=>?_⟩;have X3:Q0 F H2 F (upd H2 r (.dK zs)):=Q0.own S2.sub hr';have hr0:H0 r=none:=X2.hh.free hr';refine kk F σ _ _ (.ref r) (.own (.ref r) (dkP kvs)) [r] (X2.trans X3) (S2.ext X3) ⟨rfl,r,zs,rfl,rfl,S2.sub.free hr',QA,b3⟩ (fun z hz=>by rw[Xg.mp hz];exact hr0) (fun z hz u' t' q' f1 f2 ok' hq'=>?_) (hr _);rw[Xg.mp hz]at hq';obtain⟨fp,g1,g2,g3⟩:=S2.fp;obtain⟨v2,h1,h2⟩:=g1 0 _ f1;rw[f2]at h1;cases h1
 exact(g3 0 r (Up (K:=K) (h2.ext X3) ok' r hq')).2 hr'
def Le {t:TS}{Ψ:OT->Q6->Prop}(i:Nat){r:OT}{d:PyData}(e:ρ[i]?=some (some r))(ed:G6 r=some d)(h:EvR K t (ρ.set i (some (.fz d))) Ψ):EvR K t ρ Ψ:=fun F0 H0 F σ H E x S C=>by
 obtain⟨p,hp,S'⟩:=S.freezeG e ed;refine h F0 H0 _ σ H E ⟨x.hh,x.ff.trans (Y5 fun a ha=>(hp a ha).1),S'.sub,fun a ha=>?_⟩ S' C
 by_cases z:a∈p
 ·exact .inr (hp a z).2.2
 ·rw[Yr z]at ha;exact x.fr a ha
end
def dlP (kss:List QX):OwnP where
 ok K F H v p := ∃a as,v=.ref a/\p=a::as/\(a::as).Nodup/\F a=none/\H a=some (.lst (as.map V.ref))/\MadeD F H as kss
 there:=by
  rintro K F H v p ⟨a,as,rfl,rfl,nd,h1,h2,h3⟩ b hb
  rcases Xf.mp hb with rfl|hb
  ·exact⟨h1,Zt h2⟩
  ·exact h3.mem b hb
 mono:=by
  rintro K F F' H H' v p s hF hH ⟨a,as,rfl,rfl,nd,h1,h2,h3⟩
  exact⟨a,as,rfl,rfl,nd,hF a Xa,by rw[hH a Xa];exact h2,h3.mono s (fun b hb=>hF b (Xd _ hb)) (fun b hb=>hH b (Xd _ hb))⟩
 uniq:=by
  rintro K F H v p q ⟨a,as,rfl,rfl,nd,h1,h2,h3⟩ ⟨a',as',e,rfl,nd',h1',h2',h3'⟩ c hc
  cases e
  have j:=h2.symm.trans h2';injection j with j;injection j with j;rw[B4 j];exact hc
def DlZ (kss:List QX):ZP where
 ok K F v := ∃a as,v=.ref a/\F a=some (.lst (as.map V.ref))/\MadeZ F as kss
 mono:=by
  rintro K F F' v s ⟨a,as,rfl,h1,h2⟩
  exact⟨a,as,rfl,s _ _ h1,h2.mono s⟩
def dlP.fz {kss:List QX}{K:W.Frag}{F F' H:Hp}{v:V}{p:Qg}(h:(dlP kss).ok K F H v p)(s:Q4 F F')(he:∀b∈p,F' b=H b):(DlZ kss).ok K F' v:=by
 obtain⟨a,as,rfl,rfl,nd,h1,h2,h3⟩:=h
 exact⟨a,as,rfl,by rw[he a Xa];exact h2,h3.fz s fun b hb=>he b (Xd _ hb)⟩
def Wg (kvs:QX):Prop := ∀x∈kvs,∃k n,x.1=.inl k/\x.2=.int n
def GC (xs:List (Key×V)):Prop := ∀p∈xs,∃k n,p.1=.inl k/\p.2=.int n
def PairK.ints {F:Hp}{xs:List (Key×V)}{kvs:QX}(h:PairK F xs kvs)(hf:Wg kvs):GC xs:=by
 induction h with
 |nil=>exact fun p hp=>nomatch hp
 |@cons k x d xs kvs r t ih =>
   intro p hp;rcases Xf.mp hp with rfl|hp
   ·obtain⟨k0,n,e0,e⟩:=hf _ Xa
    have e:d=.int n:=e;subst e;cases r
    exact⟨k0,n,e0,rfl⟩
   ·exact ih (fun x hx=>hf x (Xd _ hx)) p hp
def PairK.one {F:Hp}{xs:List (Key×V)}{kvs:QX}(hf:Wg kvs)(h:PairK F xs kvs):∀{ys:List (Key×V)},PairK F ys kvs->xs=ys:=by
 induction h with
 |nil =>
   intro ys h';cases h'
   rfl
 |@cons k x d xs kvs r t ih =>
   intro ys h';obtain⟨k0,n,e0,e⟩:=hf _ Xa;have e:d=.int n:=e;subst e;cases h' with
   |cons r' t' =>
     cases r
     cases r'
     rw[ih (fun x hx=>hf x (Xd _ hx)) t']
def CU {xs:List (Key×V)}(nd:(xs.map (·.1)).Nodup):∀p∈xs,Zr xs p.1=some p.2:=by
 induction xs with
 |nil=>exact fun p hp=>nomatch hp
 |cons q xs ih =>
   intro p hp;rw[Xv,Xu]at nd;rcases Xf.mp hp with rfl|hp
   ·exact Yj rfl
   ·rw[Yi fun z=>nd.1 (by rw[z];exact XI.mpr ⟨p,hp,rfl⟩)]
    exact ih nd.2 p hp
def P2 {A:Around}{s:Shared}{kb:List (Key×Value)}{xs:List (Key×V)}{ka:List (Key×Value)}(r:KV xs ka)(h:∀p∈xs,∃n t,p.2=.int n/\valueAt kb p.1=some (.int n t)):W.KeqHits A s kb ka true:=by
 unfold KV at r;induction r with
 |nil=>exact .nil
 |@cons p q ps qs hh t ih =>
   obtain⟨h1,h2⟩:=hh;obtain⟨n,tk,e1,e2⟩:=h p Xa;rw[e1]at h2;obtain⟨tk',e3⟩:=h2;obtain⟨k,v⟩:=q;have e3:v=.int n tk':=e3;have h1:p.1=k:=h1;subst e3;rw[h1]at e2;have eq:=SeqAt.EqAt.int_int (A:=A) (s:=s) n tk' n tk;rw[show(n==n)=true by simp]at eq;exact .hit e2 eq (ih fun p' hp'=>h p' (Xd _ hp'))
section
variable {X:Cx}{XaR:Qc}{σ:St}{H:Hp}{s:Shared}
def RE {P P':Program}{w w':World}{h:Heap}{a:Addr}{vs:List (Key×Value)}(d:h.DictOf (ZA P w) a vs)(hk:∀p∈vs,∃i,p.1=.inl i):h.DictOf (ZA P' w') a vs:=by
 obtain⟨o,es,ep,h1,h2,h3,h4,h5,h6⟩:=d
 have key:∀{l:List DictEntry} {ws:List (Key×Value)},Pairs (ZA P w) l ws->(∀p∈ws,∃i,p.1=.inl i)->Pairs (ZA P' w') l ws/\∀e∈l,∃i,Jb (.inl i) e.key=true:=by
  intro l ws q;induction q with
  |nil=>exact fun _=>⟨.nil,fun e he=>nomatch he⟩
  |@cons e kv es kvs q1 q2 q3 ih =>
    intro hk;obtain⟨i1,i2⟩:=ih fun p hp=>hk p (Xd _ hp);refine⟨.cons q1 q2 i1,fun e' he=>?_⟩
    rcases Xf.mp he with rfl|he
    ·obtain⟨i,ei⟩:=hk kv Xa
     refine⟨i,?_⟩;rw[<- ei];exact q1
    ·exact i2 e' he
 obtain⟨k1,k2⟩:=key h5 hk;refine⟨o,es,ep,h1,h2,h3,fun e he=>?_,k1,h6⟩;obtain⟨k,g1,g2⟩:=h4 e he;obtain⟨i,g3⟩:=k2 e (by simpa using he);have ek:k=.inl i:=(ZA P w).inj e.key k (.inl i) g1 g3;subst ek;exact⟨.inl i,g3,g2⟩
def Sg (I:Qq X XaR σ H s){a b:Addr}{xs:List (Key×V)}(ha:H a=some (.dK xs))(hb:H b=some (.dK xs))(hx:GC xs)(A:Around)(P:Program)(w:World) :
 ∃ka kb,(a==sysModules)=false/\(b==sysModules)=false/\s.heap.DictOf (ZA P w) a ka/\s.heap.DictOf (ZA P w) b kb/\ka.length=kb.length/\W.KeqHits A s kb ka true:=by
 obtain⟨z,n1,vs,rel,dd⟩:=M0 I.hok ha;obtain⟨z',n2,vs',rel',dd'⟩:=M0 I.hok hb
 have nd:(xs.map (·.1)).Nodup:=by
  rw[rel'.keys];obtain⟨_,_,_,_,_,_,_,_,q⟩:=dd';exact q
 have ks:∀{vs:List (Key×Value)},KV xs vs->∀p∈vs,∃i,p.1=.inl i:=fun{vs} r p hp=>by
  have:p.1∈xs.map (·.1):=by rw[r.keys];exact XI.mpr ⟨p,hp,rfl⟩
  obtain⟨q,hq,e⟩:=XI.mp this;obtain⟨k0,n,e0,_⟩:=hx q hq
  exact⟨k0,by rw[<- e,e0]⟩
 refine⟨vs,vs',n1,n2,RE dd (ks rel),RE dd' (ks rel'),rel.length.symm.trans rel'.length,P2 rel fun p hp=>?_⟩;obtain⟨k0,n,e0,e⟩:=hx p hp;have r:=rel'.val p.1;rw[CU nd p hp,e]at r;cases q:valueAt vs' p.1 with
 |none=>rw[q]at r;exact r.elim
 |some v =>
   rw[q]at r;obtain⟨t,e'⟩:=(show ∃t,v=Value.int n t from r)
   exact⟨n,t,e,by rw[e']⟩
def GW (H:Hp)(as bs:Qg):Prop:=as.length=bs.length/\∀(i:Nat) (a b:Addr),as[i]?=some a->bs[i]?=some b->∃xs,H a=some (.dK xs)/\H b=some (.dK xs)/\GC xs
def M5:R2:=fun x y H Q=>∃a b as bs,x=.ref a/\y=.ref b/\H a=some (.lst (as.map V.ref))/\H b=some (.lst (bs.map V.ref))/\GW H as bs/\Q (.bl true) H
def KH:R2:=fun x y H Q=>∃a b as bs,x=.ref a/\y=.ref b/\H a=some (.lst (as.map V.ref))/\H b=some (.lst (bs.map V.ref))/\GW H as bs/\Q (.bl false) H
def K6:R2:=fun x y H Q=>∃a b xs,x=.ref a/\y=.ref b/\H a=some (.dK xs)/\H b=some (.dK xs)/\GC xs/\Q (.bl false) H
theorem Go:∀{as:Qg} {us:Qe},QS (as.map V.ref) us->us=as.map Value.ref
 |[],_,.nil=>rfl
 |a::as,_,.cons r t=>by
   cases r
   rw[Go t];rfl
def Rn (I:Qq X XaR σ H s){as bs:Qg}(h:GW H as bs){A:Around}(hu:A.units+8<cLine) :
 (as.map Value.ref).toArray.size=(bs.map Value.ref).toArray.size/\∀j (h1:j<(as.map Value.ref).toArray.size) (h2:j<(bs.map Value.ref).toArray.size),SeqAt.EqAt A.in1 s (as.map Value.ref).toArray[j] (bs.map Value.ref).toArray[j] ((fun _=>true) j):=by
 refine⟨by simpa using h.1,fun j h1 h2=>?_⟩;have j1:j<as.length:=by simpa using h1
 have j2:j<bs.length:=by simpa using h2
 obtain⟨xs,e1,e2,e3⟩:=h.2 j as[j] bs[j] (by simp[j1]) (by simp[j2]);have q1:(as.map Value.ref).toArray[j]=.ref as[j]:=by simp
 have q2:(bs.map Value.ref).toArray[j]=.ref bs[j]:=by simp
 rw[q1,q2];by_cases hab:as[j]=bs[j]
 ·rw[hab];exact SeqAt.EqAt.same _
 ·refine SeqAt.EqAt.of_refs hab fun prog w E Q q=>?_
  obtain⟨ka,kb,n1,n2,d1,d2,hl,hh⟩:=Sg I e1 e2 e3 A.in1.in1 prog w;refine W.keq_eq (r:=true) n1 n2 d1 d2 (show A.units+1<cLine by omega) (fun _=>hh) ?_;rw[hl,beq_self_eq_true];exact q
def NY (hu:X.A.units+64<cLine):OpR X (compareOp .Eq) M5:=by
 intro XaR s σ H x y v u Q I rx ry h;obtain⟨a,b,as,bs,rfl,rfl,ha,hb,sm,q⟩:=h
 cases rx
 cases ry
 obtain⟨z,its,n,rv,e⟩:=I.hok _ _ ha;obtain⟨z',its',n',rv',e'⟩:=I.hok _ _ hb;obtain rfl:=Go rv;obtain rfl:=Go rv';obtain⟨h1,h2⟩:=Rn I sm (A:=X.A) (by omega);have r:=SeqAt.RcAt.lists (l:=a) (b:=b) ⟨_,e,rfl,n,rfl⟩ ⟨_,e',rfl,n',rfl⟩ h1 (by omega) h2;rw[show(List.range (as.map Value.ref).toArray.size).all (fun _=>true)=true by simp]at r;exact r X.prog X.w _ _ ⟨.bl true,H,I,rfl,q⟩
def TW (hu:X.A.units+64<cLine):OpR X (compareOp .NotEq) KH:=by
 intro XaR s σ H x y v u Q I rx ry h;obtain⟨a,b,as,bs,rfl,rfl,ha,hb,sm,q⟩:=h
 cases rx
 cases ry
 obtain⟨z,its,n,rv,e⟩:=I.hok _ _ ha;obtain⟨z',its',n',rv',e'⟩:=I.hok _ _ hb;obtain rfl:=Go rv;obtain rfl:=Go rv';obtain⟨h1,h2⟩:=Rn I sm (A:=X.A) (by omega);have r:=SeqAt.RcNeAt.lists (l:=a) (b:=b) ⟨_,e,rfl,n,rfl⟩ ⟨_,e',rfl,n',rfl⟩ h1 (by omega) h2;rw[show(List.range (as.map Value.ref).toArray.size).all (fun _=>true)=true by simp]at r;exact r X.prog X.w _ _ ⟨.bl false,H,I,rfl,q⟩
def LI (hu:X.A.units+64<cLine):OpR X (compareOp .NotEq) K6:=by
 intro XaR s σ H x y v u Q I rx ry h;obtain⟨a,b,xs,rfl,rfl,ha,hb,hx,q⟩:=h
 cases rx
 cases ry
 obtain⟨ka,kb,n1,n2,d1,d2,hl,hh⟩:=Sg I ha hb hx X.A.in1 X.prog X.w;refine W.keq_ne (r:=true) n1 n2 d1 d2 (by omega) (fun _=>hh) ?_;rw[hl,beq_self_eq_true];exact⟨.bl false,H,I,rfl,q⟩
end
def Kw:List V->Hp->VK->Prop:=fun xs H Q=>∃a kvs,xs=[.ref a,.ty "dict"]/\H a=some (.dK kvs)/\Q (.bl true) H
def PQ {X:Cx}:Z1 X (.builtin "isinstance") Kw:=by
 intro XaR s σ H xs us Q I r h;obtain⟨a,kvs,rfl,ha,q⟩:=h;obtain⟨u,w',rfl,rx,rc⟩:=UG r
 cases (show w'=Value.type "dict" from rc)
 cases rx
 obtain⟨z,y,vs,kv,ob,es,ep,e1,c1,_⟩:=I.hok _ _ ha;exact Rb e1 c1.1 (b:=true) (by decide) fun t=>⟨.bl true,H,I.tok t,rfl,q⟩
section
variable {K:W.Frag}{ρ:Q6}{ty tv te tb:TE}{t:TA}{D:PEnds}{i j:Nat}{v u:V}{C:Addr}{N:HandS}{m:Str}{ts:List OT}{kvs:QX}{kss:List QX}
def Rz {t:TT}{v:V}{b:Bool}{Φ0:OwnP}{Ψ:ZP}(i:Nat)(e:ρ[i]?=some (some (.own v Φ0)))(hz:∀{F F' H:Hp} {u:V} {p:Qg},Φ0.ok K F H u p->Q4 F F'->(∀b∈p,F' b=H b)->Ψ.ok K F' u)(h:Zh K t (ρ.set i (some (.zow Ψ))) b):Zh K t ρ b:=fun H0 F σ H Q S q=>by
 obtain⟨p,hp,S'⟩:=S.freezeZ e hz;exact h H0 _ σ H Q S' fun F' H' x=>q _ H' (WG (fun a ha=>⟨(hp a ha).1,(hp a ha).2.1⟩) x)
def QB.dlz {H0 F H:Hp}{σ:St}(S:QB K H0 F ρ σ H)(e:ρ[i]?=some (some (.zow (DlZ kss)))):∃a as,σ[i]?=some (some (.ref a))/\F a=some (.lst (as.map V.ref))/\MadeZ F as kss:=by
 obtain⟨fp,h,_⟩:=S.fp;obtain⟨v,e1,_,a,as,rfl,h1,h2⟩:=h i _ e
 exact⟨a,as,e1,h1,h2⟩
theorem MadeZ.len {F:Hp}:∀{as:Qg} {ms:List QX},MadeZ F as ms->as.length=ms.length
 |_,_,.nil=>rfl
 |_,_,.cons _ _ t=>by simp[t.len]
theorem MadeZ.at {F:Hp}:∀{as:Qg} {ms:List QX},MadeZ F as ms->∀(i:Nat) (a:Addr),as[i]?=some a->∃xs k,ms[i]?=some k/\F a=some (.dK xs)/\PairK F xs k
 |_,_,.nil,i,a,e=>by simp at e
 |_,_,.cons h1 h2 t,0,a,e=>by
   simp at e
   subst e;exact⟨_,_,rfl,h1,h2⟩
 |_,_,.cons h1 h2 t,i+1,a,e=>t.at i a (by simpa using e)
theorem MadeD.at {F H:Hp}:∀{as:Qg} {ms:List QX},MadeD F H as ms->∀(i:Nat) (a:Addr),as[i]?=some a->∃xs k,ms[i]?=some k/\H a=some (.dK xs)/\PairK F xs k
 |_,_,.nil,i,a,e=>by simp at e
 |_,_,.cons _ h1 h2 t,0,a,e=>by
   simp at e
   subst e;exact⟨_,_,rfl,h1,h2⟩
 |_,_,.cons _ h1 h2 t,i+1,a,e=>t.at i a (by simpa using e)
def No {F H:Hp}{as bs:Qg}(hk:∀k∈kss,Wg k)(l1:as.length=kss.length)(l2:bs.length=kss.length)
 (h1:∀(i:Nat) (a:Addr),as[i]?=some a->∃xs k,kss[i]?=some k/\H a=some (.dK xs)/\PairK F xs k) (h2:∀(i:Nat) (a:Addr),bs[i]?=some a->∃xs k,kss[i]?=some k/\H a=some (.dK xs)/\PairK F xs k):GW H as bs:=by
 refine⟨l1.trans l2.symm,fun i a b e1 e2=>?_⟩;obtain⟨xs,k,g1,g2,g3⟩:=h1 i a e1;obtain⟨ys,k',g1',g2',g3'⟩:=h2 i b e2;rw[g1]at g1';cases g1';have fk:=hk k (List.mem_of_getElem? g1)
 have:=g3.one fk g3'
 subst this;exact⟨xs,g2,g2',g3.ints fk⟩
def LM (hk:∀k∈kss,Wg k)(e1:ρ[i]?=some (some (.zow (DlZ kss))))(e2:ρ[j]?=some (some (.zow (DlZ kss)))):Qt K (tOp KH (Q8 i) (Q8 j)) ρ (.bool false):=fun H0 F σ H Q S q=>by
 obtain⟨a,as,s1,a1,a2⟩:=S.dlz e1;obtain⟨b,bs,s2,b1,b2⟩:=S.dlz e2;refine⟨_,s1,_,s2,a,b,as,bs,rfl,rfl,S.sub _ _ a1,S.sub _ _ b1,No (F:=F) hk a2.len b2.len (fun i a e=>?_) (fun i a e=>?_),q F H _ (Q0.refl S.sub) (.bl _)⟩
 ·obtain⟨xs,k,g1,g2,g3⟩:=a2.at i a e
  exact⟨xs,k,g1,S.sub _ _ g2,g3⟩
 ·obtain⟨xs,k,g1,g2,g3⟩:=b2.at i a e
  exact⟨xs,k,g1,S.sub _ _ g2,g3⟩
def LY (hk:∀k∈kss,Wg k)(h:Zq K te ρ fun r=>∃v,r=.own v (dlP kss))(e2:ρ[j]?=some (some (.zow (DlZ kss)))):Qt K (tOp M5 te (Q8 j)) ρ (.bool true):=fun H0 F σ H Q S q =>
 h H0 F σ H _ S fun F1 H1 v p r hr x1 hp ok=>by
  obtain⟨v',rfl⟩:=hr;obtain⟨rfl,a,as,rfl,rfl,nd,a0,a1,a2⟩:=ok;obtain⟨b,bs,s2,b1,b2⟩:=(S.ext x1).dlz e2;refine⟨_,s2,a,b,as,bs,rfl,rfl,a1,x1.fh _ _ b1,No (F:=F1) hk a2.len b2.len (fun i a e=>a2.at i a e) (fun i a e=>?_),q F1 H1 _ x1 (.bl _)⟩;obtain⟨xs,k,g1,g2,g3⟩:=b2.at i a e
  exact⟨xs,k,g1,x1.fh _ _ g2,g3⟩
def LR {n:Nat}(h:Zq K te ρ fun r=>∃v,r=.own v (dlP (List.replicate n [])))(h2:EvO K tb ρ (.ol (List.replicate n (.dict [])))):Qt K (tOp M5 te tb) ρ (.bool true):=fun H0 F σ H Q S q =>
 h H0 F σ H _ S fun F1 H1 v p r hr x1 hp ok=>by
  obtain⟨v',rfl⟩:=hr;obtain⟨rfl,a,as,rfl,rfl,nd,a0,a1,a2⟩:=ok;refine h2 H0 F1 σ H1 _ (S.ext x1) fun F2 H2 v2 p2 x2 hp2 ok2=>?_;obtain⟨b,rfl,rfl,b0,ys,b1,b2⟩:=ok2
  have key:∀{n:Nat} {ys:List V},Qv F2 ys (List.replicate n (.dict []))->∃bs:Qg,ys=bs.map V.ref/\bs.length=n/\∀b∈bs,F2 b=some (.dK []):=by
   intro n;induction n with
   |zero=>intro ys r;cases r;exact⟨[],rfl,rfl,fun b hb=>nomatch hb⟩
   |succ n ih =>
     intro ys r;rw[List.replicate_succ]at r;cases r with
     |cons r1 r2 =>
       obtain⟨bs,e1,e2,e3⟩:=ih r2
       cases r1 with
       |@dct c hc =>
         refine⟨c::bs,by rw[e1];rfl,by rw[XJ,e2],fun b hb=>?_⟩
         rcases Xf.mp hb with rfl|hb
         ·exact hc
         ·exact e3 b hb
  obtain⟨bs,rfl,e2,e3⟩:=key b2;have al:=a2.len;rw[U4]at al;refine⟨a,b,as,bs,rfl,rfl,x2.hh _ _ a1,b1,⟨al.trans e2.symm,fun i a b f1 f2=>⟨[],?_,?_,fun p hp=>nomatch hp⟩⟩,q F2 H2 _ (x1.trans x2) (.bl _)⟩
  ·obtain⟨xs,k,g1,g2,g3⟩:=a2.at i a f1
   have:k=[]:=by
    have:=List.mem_of_getElem? g1
    exact(List.mem_replicate.mp this).2
   subst this;cases g3;exact x2.hh _ _ g2
  ·exact x2.fh _ _ (e3 b (List.mem_of_getElem? f2))
def Lo (e:ρ[i]?=some (some (.zow (DlZ kss)))):Qt K (tCB Mc (QF (Q8 i) (QF (tC (.ty "list")) QO))) ρ (.bool true):=fun H0 F σ H Q S q=>by
 obtain⟨a,as,s1,a1,a2⟩:=S.dlz e
 exact⟨_,s1,.ref a, "list","list",true,rfl,.lst (S.sub _ _ a1),rfl,q F H _ (Q0.refl S.sub) (.bl _)⟩
def L9 {t:TS}(i:Nat)(e:ρ[i]?=some (some (.ol [])))(h:∀v,Q1 K t (ρ.set i (some (.own v (dlP [])))) D):Q1 K t ρ D:=fun F0 H0 F σ H E x S C=>by
 obtain⟨fp,h3,h4,h5⟩:=S.fp;obtain⟨v,e1,a,rfl,e2,e3,xs,e4,e5⟩:=h3 i _ e
 cases e5
 have hlt:=(Xh.mp e).1;refine h (.ref a) F0 H0 F σ H E x ⟨S.kt,S.sub,by simp[S.len],fp,fun j t' e'=>?_,h4,h5⟩ C
 by_cases hj:j=i
 ·subst hj
  rw[Xl hlt]at e';cases e'
  exact⟨_,e1,rfl,a,[],rfl,e2,by simp,e3,e4,.nil⟩
 ·rw[Xr (Ne.symm hj)]at e'
  exact h3 j t' e'
def QB.dlApp {H0 F H:Hp}{σ:St}{zs:List (Key×V)}{p:Addr}(S:QB K H0 F ρ σ H)(e:ρ[i]?=some (some (.own v (dlP kss))))(hp:H p=none)(hp0:H0 p=none)(hz:PairK F zs kvs) :
 ∃a as,v=.ref a/\σ[i]?=some (some (.ref a))/\H a=some (.lst (as.map V.ref))/\as.length=kss.length/\H0 a=none/\F a=none/\a≠p/\QB K H0 F (ρ.set i (some (.own v (dlP (kss++[kvs]))))) σ (upd (upd H p (.dK zs)) a (.lst ((as++[p]).map V.ref))):=by
 obtain⟨s0,q,ok,hq,wr⟩:=S.writeOwn e;obtain⟨a,as,rfl,rfl,nd,a0,a1,a2⟩:=ok;have ha:=hq a Xa;have nap:a≠p:=fun z=>ha.2.2 (by rw[z];exact hp);have npa:p∉as:=fun z=>(hq p (Xd _ z)).2.2 hp
 have fp:F p=none:=by
  cases z:F p with
  |none=>rfl
  |some o=>rw[S.sub _ _ z]at hp;cases hp
 refine⟨a,as,rfl,s0,a1,a2.len,ha.1,ha.2.1,nap,wr _ (dlP (kss++[kvs])) (a::(as++[p])) ((S.sub.upd fp).upd ha.2.1) (fun b hb hbn=>?_) (fun b hb=>?_) ⟨a,as++[p],rfl,rfl,?_,a0,QA,?_⟩ (fun b hb=>?_)⟩
 ·have n1:b≠a:=fun z=>hb (by rw[z];exact Xa)
  have n2:b≠p:=fun z=>hbn (by rw[z];exact hp);rw[Qr n1,Qr n2]
 ·exact Vw b (Vw b hb)
 ·have nd':=Xu.mp nd
  rw[Xu];refine⟨fun z=>?_,?_⟩
  ·rcases Xx.mp z with z|z
   ·exact nd'.1 z
   ·exact nap (Xg.mp z)
  ·rw[JG]
   refine⟨nd'.2,by simp,fun c hc c' hc'=>?_⟩;rw[Xg.mp hc'];rintro rfl;exact npa hc
 ·have m1:MadeD F (upd H p (.dK zs)) (as++[p]) (kss++[kvs]):=MadeD.snoc (ms:=kss) fp QA hz (a2.other npa)
  exact m1.other fun z=>by
   rcases Xx.mp z with z|z
   ·exact(Xu.mp nd).1 z
   ·exact nap (Xg.mp z)
 ·rcases Xf.mp hb with rfl|hb
  ·exact .inl Xa
  ·rcases Xx.mp hb with hb|hb
   ·exact .inl (Xd _ hb)
   ·rw[Xg.mp hb]
    exact .inr ⟨hp,hp0⟩
def CF (e:ρ[i]?=some (some (.own v (dlP kss))))(ej:ρ[j]?=some (some (.own u (dkP kvs))))(hl:kss.length<1000)(hn:D.nx (ρ.set i (some (.own v (dlP (kss++[kvs])))))) :
 Q1 K (Vi (tBM K "list" V2 (Q8 i) (QF (tCB GR (QF (Q8 j) QO)) QO))) ρ D:=fun F0 H0 F σ H E x S C'=>by
 obtain⟨b,zs,rfl,sj,b1,b0,b2,b3⟩:=S.dk ej;obtain⟨s0,q,ok,hq,_⟩:=S.writeOwn e;obtain⟨a,as,rfl,rfl,nd,a0,a1,a2⟩:=ok;refine⟨_,s0,.inl ⟨rfl,_,SqL.of a1⟩,_,sj,b,zs,rfl,b2,fun p hp=>?_⟩;have hp0:H0 p=none:=x.hh.free hp;obtain⟨a',as',ea,_,a1',al,h0,f0,nap,S'⟩:=S.dlApp e hp hp0 b3
 cases ea
 refine⟨a,as'.map V.ref,.ref p,rfl,rfl,by rw[Qr nap];exact a1',by rw[Xn,al];exact ZH (by omega),?_⟩;have em:as'.map V.ref++[V.ref p]=(as'++[p]).map V.ref:=by rw[Xy];rfl
 rw[em];exact C'.nx F σ _ _ ((x.trans (Q0.own S.sub hp)).wr h0 f0) S' hn
def A1 (e:ρ[i]?=some (some (.own v (dlP kss))))(hl:kss.length<1000)(hn:D.nx (ρ.set i (some (.own v (dlP (kss++[[]])))))) :
 Q1 K (Vi (tBM K "list" V2 (Q8 i) (QF GT QO))) ρ D:=fun F0 H0 F σ H E x S C'=>by
 obtain⟨s0,q,ok,hq,_⟩:=S.writeOwn e;obtain⟨a,as,rfl,rfl,nd,a0,a1,a2⟩:=ok;refine⟨_,s0,.inl ⟨rfl,_,SqL.of a1⟩,fun p hp=>?_⟩;have hp0:H0 p=none:=x.hh.free hp;obtain⟨a',as',ea,_,a1',al,h0,f0,nap,S'⟩:=S.dlApp (zs:=[]) (kvs:=[]) e hp hp0 .nil
 cases ea
 refine⟨a,as'.map V.ref,.ref p,rfl,rfl,by rw[Qr nap];exact a1',by rw[Xn,al];exact ZH (by omega),?_⟩;have em:as'.map V.ref++[V.ref p]=(as'++[p]).map V.ref:=by rw[Xy];rfl
 rw[em];exact C'.nx F σ _ _ ((x.trans (Q0.own S.sub hp)).wr h0 f0) S' hn
end
section
variable {K:W.Frag}{ρ:Q6}{ty tv te tb:TE}{t:TA}{D:PEnds}{i j:Nat}{v u:V}{C:Addr}{N:HandS}{m:Str}{ts:List OT}{kvs:QX}{kss:List QX}
def MadeD.set {F H:Hp}{b:Addr}{zs:List (Key×V)}(hz:PairK F zs kvs){as:Qg}{ms:List QX}(h:MadeD F H as ms):∀(j:Nat),as.Nodup->as[j]?=some b->MadeD F (upd H b (.dK zs)) as (ms.set j kvs):=by
 induction h with
 |nil=>intro j _ e;simp at e
 |@cons a xs kv as ms h1 h2 h3 t ih =>
   intro j nd e;cases j with
   |zero =>
     simp at e
     subst e;exact .cons h1 QA hz (t.other (Xu.mp nd).1)
   |succ j =>
     have e':as[j]?=some b:=by simpa using e
     have nab:a≠b:=fun z=>(Xu.mp nd).1 (by rw[z];exact List.mem_of_getElem? e');exact .cons h1 (by rw[Qr nab];exact h2) h3 (ih j (Xu.mp nd).2 e')
def Cn {th:TS}(hij:i≠j)(e:ρ[i]?=some (some (.own v (dlP kss))))(hjl:j<ρ.length)(hl:∀k∈kss,k.length<1000)(hn:∀kss':List QX,kss'.length=kss.length->D.nx ((ρ.set i (some (.own v (dlP kss')))).set j none)) :
 Q1 K (WY (GI K (Q8 i)) (ZG j) (YD (JT (Mn (tB (tCB Kw (QF (Q8 j) (QF (tC (.ty "dict")) QO))))) th M4) (GL (Q8 j) (tC (.int 99)) (tC (.int 1))))) ρ D:=fun F0 H0 F σ H E x S C=>by
 obtain⟨fp,h3,h4,h5⟩:=S.fp;obtain⟨u,e1,rfl,a,as,rfl,p1,nd,fa,ha,oa⟩:=h3 i _ e;have hlt:=(Xh.mp e).1;have asm:∀c∈as,c∈fp i:=fun c hc=>by rw[p1];exact Xd _ hc
 have nda:as.Nodup:=(Xu.mp nd).2;have na:a∉as:=(Xu.mp nd).1;have la:as.length=kss.length:=oa.len;refine⟨_,e1,a,rfl,⟨_,SqL.of ha⟩,?_⟩;refine⟨fun k m σ' H'=>m=as.length-k/\k<=as.length/\(σ'=σ\/∃u,σ'=σ.set j u)/\Q0 F0 H0 F H'/\(∀c,c∉as->H' c=H c)/\(∀c∈as,H' c≠none)/\∃kss',MadeD F H' as kss'/\∀l,k<=l->kss'[l]?=kss[l]?,⟨as.length,by simp,XF _,.inl rfl,x,fun _ _=>rfl,fun c hc=>(oa.mem c hc).2,kss,oa,fun _ _=>rfl⟩,?_⟩
 rintro k m σ' H' ⟨rfl,hle,hσ,x',hs,hh,kss',oa',hd⟩
 have ha':H' a=some (.lst (as.map V.ref)):=by rw[hs a na];exact ha
 by_cases hk:k<as.length
 ·have ek:(as.map V.ref)[k]?=some (.ref as[k]):=by simp[hk]
  refine .inr ⟨⟨_,_,SqL.of ha',ek⟩,fun σ2 H2=>(∃u,σ2=σ.set j u)/\Q0 F0 H0 F H2/\(∀c,c∉as->H2 c=H c)/\(∀c∈as,H2 c≠none)/\∃kss',MadeD F H2 as kss'/\∀l,k+1<=l->kss'[l]?=kss[l]?,fun σ2 H2 q=>⟨as.length-(k+1),by omega,rfl,hk,.inr q.1,q.2⟩,?_⟩
  rintro v1 H3 ⟨rfl,hy⟩
  have ev:=hy _ (SqL.of ha');rw[ek]at ev;cases ev;have cm:as[k]∈as:=X5 hk;have ec:as[k]?=some as[k]:=by simp[hk]
  obtain⟨xs,kv,g1,g2,g3⟩:=oa'.at k as[k] ec;have g0:kss[k]?=some kv:=by rw[<- hd k (Xq _)];exact g1
  have eσ:∃u,σ'.set j (some (V.ref as[k]))=σ.set j u:=by
   rcases hσ with z|⟨u,z⟩
   ·exact⟨_,by rw[z]⟩
   ·exact⟨_,by rw[z,List.set_set]⟩
  have lσ:j<σ'.length:=by
   rcases hσ with z|⟨u,z⟩
   ·rw[z,S.len];exact hjl
   ·rw[z,List.length_set,S.len];exact hjl
  have sj:(σ'.set j (some (V.ref as[k])))[j]?=some (some (.ref as[k])):=Xl lσ;refine⟨_,sj,as[k],xs,rfl,g2,true,rfl,?_⟩;dsimp only;rw[Xc (by decide)];refine⟨_,sj,as[k],_,rfl,Wf.k (k:=.inl 99) g2 (by rw[g3.length];exact ZH (Yt (hl _ (List.mem_of_getElem? g0)))),?_⟩;have fk:=(oa.mem _ cm).1;refine⟨eσ,x'.wr (h5 i _ (asm _ cm)).1 fk,fun c hc=>?_,fun c hc=>?_,kss'.set k _,oa'.set (g3.put (.inl 99) (.int 1)) k nda ec,fun l hl'=>?_⟩
  ·rw[Qr fun z=>hc (by rw[z];exact cm)]
   exact hs c hc
  ·exact Vw c (hh c hc)
  ·rw[Xr (by omega)]
   exact hd l (by omega)
 ·have ee:k=as.length:=by omega
  refine .inl ⟨⟨_,SqL.of ha',by simp;omega⟩,C.nx F σ' H' _ x' ?_ (hn kss' (oa'.len.symm.trans la))⟩;have hsub:Q4 F H':=x'.fh
  have S':QB K H0 F (ρ.set i (some (.own (.ref a) (dlP kss')))) σ H':=by
   refine⟨S.kt,hsub,by simp[S.len],fp,fun k t ek=>?_,h4,fun k c hc=>⟨(h5 k c hc).1,?_⟩⟩
   ·by_cases hki:k=i
    ·subst hki
     rw[Xl hlt]at ek;cases ek
     exact⟨_,e1,rfl,a,as,rfl,p1,nd,fa,ha',oa'⟩
    ·rw[Xr (Ne.symm hki)]at ek
     obtain⟨u,f1,f2⟩:=h3 k t ek
     exact⟨u,f1,f2.move (Q4.refl _) (fun c hc=>(f2.there c hc).1) fun c hc=>hs c fun z=>hki (h4 k i c hc (asm c z))⟩
   ·by_cases z:c∈as
    ·exact hh c z
    ·rw[hs c z];exact(h5 k c hc).2
  rcases hσ with z|⟨u,z⟩
  ·rw[z];exact S'.forg
  ·rw[z];exact S'.setN u
def Fq {g:CIn->TG}{tcc:CIn->TT}{tee:CIn->TE}(c:HandC K C)(e:ρ[i]?=some (some (.zow (Zo C N))))(hl:N.made.length<=1000)(hgt:∀c,g c=ZG 0)(htc:∀c,tcc c=Wc)(hte:∀c,tee c=tCB GR (QF (Q8 0) QO)) :
 Zq K (tLC [none] (GI K (ZL K (Q8 i) "made")) g tcc tee) ρ fun r=>∃v,r=.own v (dlP N.made):=fun H0 F σ H Q S q=>by
 obtain⟨a,dx,k,gg,d,m,y,ks,gs,xs,as,s1,o⟩:=S.hz e;have sub:=S.sub;have al:as.length=N.made.length:=o.made.2.len;refine⟨_,s1,a,C,dx,_,.ref m,rfl,sub _ _ o.ins,c.cl,c.md,rfl,m,rfl,⟨_,SqL.of (sub _ _ o.made.1)⟩,fun ci=>?_⟩;refine⟨fun k mm ys H'=>mm=as.length-k/\k<=as.length/\∃bs:Qg,ys=bs.map V.ref/\bs.length=k/\Q0 F H F H'/\(∀b∈bs,H b=none)/\bs.Nodup/\MadeD F H' bs (N.made.take k),⟨as.length,by simp,XF _,[],rfl,rfl,Q0.refl sub,(fun b hb=>nomatch hb),WP,.nil⟩,?_⟩
 rintro k mm ys H' ⟨rfl,hle,bs,rfl,bl,x',bn,nd,md⟩
 have hm':H' m=some (.lst (as.map V.ref)):=x'.fh _ _ o.made.1
 by_cases hk:k<as.length
 ·have ek:(as.map V.ref)[k]?=some (.ref as[k]):=by simp[hk]
  have ec:as[k]?=some as[k]:=by simp[hk]
  refine .inr ⟨⟨_,_,SqL.of hm',ek⟩,?_⟩
  rintro v1 H3 ⟨rfl,hy⟩
  have ev:=hy _ (SqL.of hm');rw[ek]at ev;cases ev;obtain⟨zs,kv,g1,g2,g3⟩:=o.made.2.at k as[k] ec;rw[hgt ci,htc ci,hte ci];dsimp only[ZG,Wc];rw[Xe rfl];refine⟨.ref as[k],by simp[ZI],as[k],zs,rfl,x'.fh _ _ g2,fun p hp=>⟨by rw[Xn,bl];exact ZH (by omega),as.length-(k+1),by omega,rfl,hk,bs++[p],by rw[Xy];rfl,by rw[Xm,bl];rfl,x'.trans (Q0.own x'.fh hp),fun b hb=>?_,?_,?_⟩⟩
  ·rcases Xx.mp hb with hb|hb
   ·exact bn b hb
   ·rw[Xg.mp hb];exact x'.hh.free hp
  ·rw[JG]
   refine⟨nd,by simp,fun c hc c' hc'=>?_⟩;rw[Xg.mp hc'];rintro rfl
   exact(md.mem c hc).2 hp
  ·have ek2:N.made.take (k+1)=N.made.take k++[kv]:=by rw[JD,g1];rfl
   rw[ek2];exact MadeD.snoc (ms:=[]) (x'.fh.free hp) QA g3 (md.other fun z=>(md.mem p z).2 hp)
 ·have ee:k=as.length:=by omega
  refine .inl ⟨⟨_,SqL.of hm',by simp;omega⟩,fun p hp=>?_⟩;have X2:Q0 F H' F (upd H' p (.lst (bs.map V.ref))):=Q0.own x'.fh hp;have tk:N.made.take k=N.made:=by rw[ee,al,JE]
  rw[tk]at md;have npb:p∉bs:=fun z=>(md.mem p z).2 hp;refine q F _ (.ref p) (p::bs) _ ⟨.ref p,rfl⟩ (x'.trans X2) (fun b hb=>?_) ⟨rfl,p,bs,rfl,rfl,Xu.mpr ⟨npb,nd⟩,x'.fh.free hp,QA,md.other npb⟩
  rcases Xf.mp hb with rfl|hb
  ·exact x'.hh.free hp
  ·exact bn b hb
def Lq {R:HandS->List OT->(OT->HandS->Prop)->Prop}{Ψ:OT->HandS->Prop}{E':XK}(hm:NoH m)(e:ρ[i]?=some (some (.own v (QU C N))))(hA:Zx K t ρ ts)(hR:R N ts Ψ)
 (hn:∀r N',Ψ r N'->D.nx ((ρ.set i (some (.own v (QU C N')))).set j (some r))):Q1 K (ZX (Vr C m (spP K (QU C) R) [] E' (Q8 i) t) (ZG j)) ρ D:=fun F0 H0 F σ H E x S C'=>by
 obtain⟨p0,s0,ok0,_⟩:=YT S x e;obtain⟨a0,dx,y,n,k,g,d,e',rfl,h1⟩:=QU.at ok0;refine⟨.ref a0,s0,a0,dx,_,rfl,h1,hm _ _ _ _ _ _,hA H0 F σ H _ S fun F2 H2 vs x2 r2=>?_⟩;obtain⟨p,s1,okp,fin⟩:=YT (S.ext x2) (x.trans x2) e;refine⟨F2,_,vs++[],p,ts,N,Ψ,rfl,(S.ext x2).kt,x2.fh,by rw[XH];exact r2,okp,hR,fun F' H' p' N' v' r q hr xn ok' sub sok hq=>?_⟩;obtain⟨X',S',dj⟩:=fin F' H' p' N' xn ok' sub;obtain⟨d1,d2⟩:=dj q hq;exact C'.nx F' _ H' _ X' (S'.set sok d1 (hn:=d2)) (hn r N' hr)
def Af {R:HandS->List OT->(OT->HandS->Prop)->Prop}{Ψ:OT->HandS->Prop}{E':XK}{tr:TT}{th el:TS}(hm:NoH m)(e:ρ[i]?=some (some (.own v (QU C N))))(hR:R N [] Ψ)
 (hn:∀r N',Ψ r N'->(∃w,r=.own w (dkP []))/\Q1 K (JT tr th el) (ρ.set i (some (.own v (QU C N')))) D):Q1 K (JT (tOr (GF (tOp K6 (Vr C m (spP K (QU C) R) [] E' (Q8 i) QO) GT)) tr) th el) ρ D:=fun F0 H0 F σ H E x S C'=>by
 obtain⟨p0,s0,ok0,_⟩:=YT S x e;obtain⟨a0,dx,y,n,k,g,d,e',rfl,h1⟩:=QU.at ok0;obtain⟨p,s1,okp,fin⟩:=YT S x e;refine⟨.ref a0,s0,a0,dx,_,rfl,h1,hm _ _ _ _ _ _,F,_,[],p,[],N,Ψ,rfl,S.kt,S.sub,.nil,okp,hR,fun F' H' p' N' v' r q hr xn ok' sub sok hq=>?_⟩;obtain⟨⟨w,rfl⟩,hs⟩:=hn r N' hr;obtain⟨X',S',dj⟩:=fin F' H' p' N' xn ok' sub;obtain⟨rfl,b,zs,rfl,rfl,b1,b2,b3⟩:=sok
 cases b3
 intro p2 hp2;have X2:Q0 F' H' F' (upd H' p2 (.dK [])):=Q0.own S'.sub hp2;have nb:b≠p2:=fun z=>by rw[z]at b2;rw[b2]at hp2;cases hp2
 refine⟨b,p2,[],rfl,rfl,by rw[Qr nb];exact b2,QA,(fun p hp=>nomatch hp),false,rfl,?_⟩;dsimp only;rw[Xc (by decide)];exact hs F0 H0 F' σ _ E (X'.trans X2) (S'.ext X2) C'
variable {d0:PyData}{ds:Qd}
def Ai {t:TT}{b:Bool}(i:Nat)(e:ρ[i]?=some (some (.own v (lsO d0 ds))))(h:Zh K t (ρ.set i (some (.fz (.list [d0,.list ds])))) b):Zh K t ρ b:=fun H0 F σ H Q S q=>by
 obtain⟨p,hp,S'⟩:=S.freezeO lsO.frz e;exact h H0 _ σ H Q S' fun F' H' x=>q _ H' (WG (fun a ha=>⟨(hp a ha).1,(hp a ha).2.1⟩) x)
def RY {t:TE}{Φ:OT->Prop}(i:Nat)(e:ρ[i]?=some (some (.own v (lsO d0 ds))))(hf:∀r,Φ r->YB r)(h:Zq K t (ρ.set i (some (.fz (.list [d0,.list ds])))) Φ):Zq K t ρ Φ:=fun H0 F σ H Q S q=>by
 obtain⟨p,hp,S'⟩:=S.freezeO lsO.frz e;refine h H0 _ σ H Q S' fun F' H' u pp r hr x hpp ok=>?_;refine q _ H' u pp r hr (WG (fun a ha=>⟨(hp a ha).1,(hp a ha).2.1⟩) x) hpp (hf r hr K F' _ H' u pp (fun a ha=>?_) ok)
 by_cases z:a∈p
 ·show(if a∈p then none else F' a)=none
  rw[Xe z]
 ·show(if a∈p then none else F' a)=none
  rw[Xc z];exact(ok.there a ha).1
def FE {n:Int}(e:ρ[i]?=some (some (.own v (lsO d0 ds))))(hl:ds.length<1000)(hn:D.nx (ρ.set i (some (.own v (lsO d0 (ds++[.int n])))))) :
 Q1 K (Vi (tBM K "list" V2 (tOp (rIx K) (Q8 i) (tC (.int 1))) (QF (tC (.int n)) QO))) ρ D:=fun F0 H0 F σ H E x S C'=>by
 obtain⟨s0,p,ok,hp,wr⟩:=S.writeOwn e;obtain⟨a,b,x0,rfl,rfl,nab,a0,a1,r0,b0,xs,b1,b2⟩:=ok;have hb:=hp b (by simp);refine⟨_,s0,.inl ⟨a,_,1,.ref b,rfl,rfl,SqL.of a1,rfl,.inl ⟨rfl,_,SqL.of b1⟩,b,xs,.int n,rfl,rfl,b1,by rw[b2.length];exact ZH (by omega),?_⟩⟩;refine C'.nx F σ _ _ (x.wr hb.1 hb.2.1) (wr _ (lsO d0 (ds++[.int n])) [a,b] (S.sub.upd hb.2.1) (fun c hc _=>Qr fun z=>hc (by rw[z];simp)) Vw ⟨a,b,x0,rfl,rfl,nab,a0,by rw[Qr nab];exact a1,r0,b0,_,QA,b2.snoc (.int n)⟩ (fun c hc=>.inl hc)) hn
end
end L2
end
section
namespace My
open PySem L2 Mir
local macro_rules | `(tactic| walk_at "d") => `(tactic| dsimp only [List.set])
local macro_rules | `(tactic| walk_at "e") => `(tactic| dsimp only [List.set,W3,List.map,YI])
local macro_rules | `(tactic| walk_at "x") => `(tactic| try dsimp only [Px,Fv])
local macro_rules | `(tactic| walk_at "p") => `(tactic| exact ⟨rfl,rfl,rfl,by decide +kernel,rfl,by decide +kernel,by decide +kernel⟩)
local macro_rules | `(tactic| walk_at "j") => `(tactic| first | decide | omega)
def top (i:Nat):Stmt:=PySem.Challenge.pw_chargeyard_k65_the_askers_own.main.body.getD i (.Pass ⟨0,0,0,0⟩)
abbrev Hx:Stmt:=top 8
abbrev HI:Stmt:=top 9
abbrev Hg:Stmt:=top 10
abbrev HB:Stmt:=top 11
abbrev Hz:Stmt:=top 12
abbrev Ho:Stmt:=top 13
abbrev HE:Stmt:=top 14
abbrev Hk:Stmt:=top 15
abbrev Hm:Stmt:=top 16
abbrev DS:Stmt:=top 17
abbrev Hv:Stmt:=top 18
abbrev DY:Stmt:=top 19
abbrev DM:Stmt:=top 20
abbrev Hb:Stmt:=top 21
abbrev HK:Stmt:=top 22
abbrev HG:Stmt:=top 27
abbrev Hd:Stmt:=top 28
abbrev Hi:Stmt:=top 29
abbrev Hu:Stmt:=top 30
abbrev HH:Stmt:=top 31
abbrev BF:Stmt:=top 32
abbrev BR:Stmt:=top 33
abbrev BQ:Stmt:=top 34
abbrev BN:Stmt:=top 36
abbrev Hl:Stmt:=top 37
abbrev BJ:Stmt:=top 38
abbrev BG:Stmt:=top 39
abbrev HL:Stmt:=top 41
abbrev HC:Stmt:=top 42
abbrev HA:Stmt:=top 43
abbrev HJ:Stmt:=top 47
abbrev Ha:Stmt:=top 48
abbrev HF:Stmt:=top 49
abbrev Hh:Stmt:=top 50
abbrev BK:Stmt:=top 51
abbrev Gw:Stmt:=top 52
abbrev Hq:Stmt:=top 53
abbrev Yn:Stmt:=top 54
abbrev Uz:Stmt:=Vk (top 4) 0
abbrev Ux:Stmt:=Vk (top 26) 0
abbrev Jw:Stmt:=Vk (top 26) 1
abbrev Jz:Stmt:=Vk (top 26) 2
abbrev Jv:Stmt:=Vk (top 26) 3
abbrev J0:Stmt:=Vk (top 26) 4
abbrev WN:Stmt:=Vk (top 26) 5
abbrev Ju:Stmt:=Vk (top 26) 6
abbrev J7:Stmt:=Vk (top 26) 7
abbrev Uy:Stmt:=Vk (top 45) 0
abbrev Jt:Stmt:=Vk (top 45) 1
abbrev J4:Stmt:=Vk (top 45) 2
abbrev J6:Stmt:=Vk (top 45) 3
abbrev J5:Stmt:=Vk (top 45) 6
abbrev WO:Stmt:=Vk (top 45) 8
abbrev WJ:Stmt:=Vk (top 45) 9
abbrev J8:Stmt:=Vk (top 45) 10
abbrev JA:Stmt:=Vk (top 45) 11
abbrev J9:Stmt:=Vk (top 45) 12
abbrev JB:Stmt:=Vk (top 45) 13
structure Bl (mg:Str->Qf):Prop where
 abs:mg "abs"=none
 len:mg "len"=none
 max:mg "max"=none
 min:mg "min"=none
 sum:mg "sum"=none
 any:mg "any"=none
 all:mg "all"=none
 isi:mg "isinstance"=none
 int:mg "int"=none
 bool:mg "bool"=none
 list:mg "list"=none
 tuple:mg "tuple"=none
 range:mg "range"=none
 zip:mg "zip"=none
 enumerate:mg "enumerate"=none
 dict:mg "dict"=none
 ValueError:mg "ValueError"=none
structure Tx (K:W.Frag)(mg:Str->Qf)(C gS gE:Addr):Prop where
 net:NetC K C
 mSTART:mg "START"=some (.ref gS)
 mEND:mg "END"=some (.ref gE)
 aS:W.nsIn K mainGlobals "START"=some (some (.ref gS))
 aE:W.nsIn K mainGlobals "END"=some (some (.ref gE))
def upD:Option Nat->PyData
 |none=>.none
 |some a=>.int (a:Int)
def VY (l:Ln):PyData:=.tuple [upD l.up,.tuple (l.bs.map PyData.int)]
def Zd (y:Yd):PyData:=.tuple [.int (y.T:Int),.tuple (y.ls.map VY)]
def Zl (l:Qk):Qd:=l.map fun(j:Nat)=>PyData.int (j:Int)
def cdl {i j:Int}(h1:0<j)(h2:j<=10^60):JZ i j:=⟨h1,Int.lt_of_le_of_lt h2 (by decide +kernel)⟩
def GD {j:Int}(h0:0<=j)(h1:j<=1000000):Kh 10 j:=⟨h0,h1,by decide⟩
def z60:(10:Int)^60=1000000000000000000000000000000000000000000000000000000000000:=by decide +kernel
def BY {i j:Int}(h1:0<j)(h2:j<=1000000000000000000000000000000000000000000000000000000000000):JZ i j:=cdl h1 (by rw[z60];exact h2)
def PL {α:Type} [Inhabited α] {f:α->PyData}{xs:List α}{k:Int}(h0:0<=k)(h1:k<(xs.length:Int)):atI (xs.map f) k=some (f (xs.getD k.toNat default)):=by
 have h:k.toNat<xs.length:=by omega
 have e:(xs.map f)[k.toNat]?=some (f (xs.getD k.toNat default)):=by simp[h]
 have e2:=Y3 e
 rwa [X7 h0]at e2
def Ps {xs:Ql}{k:Int}(h0:0<=k)(h1:k<(xs.length:Int)):atI (xs.map PyData.int) k=some (.int (xs.getD k.toNat 0)):=by
 have h:k.toNat<xs.length:=by omega
 have e:(xs.map PyData.int)[k.toNat]?=some (.int (xs.getD k.toNat 0)):=by simp[h]
 have e2:=Y3 e
 rwa [X7 h0]at e2
def PH {xs:Ql}{k:Int}(h0:0<=k)(h1:k<(xs.length:Int)):atI xs k=some (xs.getD k.toNat 0):=by
 have h:k.toNat<xs.length:=by omega
 have e:xs[k.toNat]?=some (xs.getD k.toNat 0):=by simp[h]
 have e2:=Y3 e
 rwa [X7 h0]at e2
def KP {f:Nat->PyData}{n:Nat}{k:Int}(h0:0<=k)(h1:k<(n:Int)):atI ((List.range n).map f) k=some (f k.toNat):=by
 have h:k.toNat<n:=by omega
 have e:((List.range n).map f)[k.toNat]?=some (f k.toNat):=by simp[h]
 have e2:=Y3 e
 rwa [X7 h0]at e2
instance:Inhabited Ln:=⟨⟨none,[]⟩⟩
def QK (g:Gs):PyData:=.tuple [.int (g.line:Int),.int (g.first:Int),.int (g.last:Int),.int g.want,.int g.most]
instance:Inhabited Gs:=⟨⟨0,0,0,1,1⟩⟩
def SX {ds:Qd}{m:Nat}(h:∀d∈ds,d.canLay0=true/\d.depth<=m):PyData.canLayAll0 ds=true/\PyData.depthAll ds<=m:=by
 induction ds with
 |nil=>exact⟨rfl,XF _⟩
 |cons d ds ih =>
   obtain⟨a,b⟩:=h d Xa;obtain⟨c,e⟩:=ih fun x hx=>h x (Xd _ hx);refine⟨by rw[PyData.canLayAll0,a,c];rfl,?_⟩;rw[PyData.depthAll];omega
def V6 (m:Nat)(d:PyData):Prop:=d.canLay0=true/\d.depth<=m
def V6.fine {m:Nat}{d:PyData}(h:V6 m d)(hm:m<=60):Va d:=⟨h.1,XZ h.2 hm⟩
def Bt {ds:Qd}{m:Nat}(h:∀d∈ds,V6 m d):V6 (m+1) (.tuple ds):=by
 obtain⟨a,b⟩:=SX h;refine⟨by rw[PyData.canLay0];exact a,?_⟩;rw[PyData.depth];omega
def Dj {ds:Qd}{m:Nat}(h:∀d∈ds,V6 m d):V6 (m+1) (.list ds):=by
 obtain⟨a,b⟩:=SX h;refine⟨by rw[PyData.canLay0];exact a,?_⟩;rw[PyData.depth];omega
def UU (i:Int)(m:Nat):V6 m (.int i):=⟨rfl,XF _⟩
def MI {α:Type}{f:α->PyData}{xs:List α}{m:Nat}(h:∀x,V6 m (f x)):∀d∈xs.map f,V6 m d:=fun d hd=>by
 obtain⟨x,_,rfl⟩:=XI.mp hd;exact h x
def GQ {m:Nat}:∀d∈([]:Qd),V6 m d:=fun d hd=>(nomatch hd)
def Gc {m:Nat}{d:PyData}{ds:Qd}(h:V6 m d)(h2:∀d∈ds,V6 m d):∀x∈d::ds,V6 m x:=fun x hx=>by
 rcases Xf.mp hx with rfl|hx
 ·exact h
 ·exact h2 x hx
def P1 (o:Option Nat)(m:Nat):V6 m (upD o):=by cases o<;>exact⟨rfl,XF _⟩
def PM (l:Ln):V6 2 (VY l):=Bt (Gc (P1 _ _) (Gc (Bt (m:=0) (MI fun i=>UU i 0)) GQ))
def P6 (y:Yd):V6 4 (Zd y):=Bt (Gc (UU _ _) (Gc (Bt (MI PM)) GQ))
def LN (l:Qk):V6 1 (.list (Zl l)):=Dj (MI fun j=>UU _ 0)
def Bb (y:Yd):Va (Zd y):=(P6 y).fine (by decide)
def Bm (l:Qk):Va (.list (Zl l)):=(LN l).fine (by decide)
def Nz:Va (.list []):=(Dj (m:=0) GQ).fine (by decide)
def Ms (w:String):Lean.MacroM (Lean.TSyntax `tactic):=do
 let n:=Lean.mkIdent (w.drop 1).toString.toName
 match w.front with
 |'@' => `(tactic| with_reducible apply $n)
 |'!' => `(tactic| with_reducible exact $n)
 |'~' => `(tactic| apply $n)
 |_ => `(tactic| walk_at $(Lean.Syntax.mkStrLit w))
def Vz (s:String):Lean.MacroM (Lean.TSyntax `tactic):=do
 let l ← (s.splitOn "|").mapM fun a=>do
  match a.splitOn "<" with
  |[x,z] => `(tactic| ($(← Ms x):tactic <;> $(← Ms z):tactic))
  |_ =>
    let ts ← (a.splitOn " ").mapM Ms
    `(tactic| ($[$ts.toArray:tactic];*))
 `(tactic| first $[| $l.toArray:tactic]*)
local macro_rules | `(tactic| walk_at "rfl") => `(tactic| rfl)
local macro_rules | `(tactic| walk_at "hc") => `(tactic| intro hc)
local macro_rules | `(tactic| walk_at "ls") => `(tactic| dsimp only [List.set])
local macro_rules | `(tactic| walk_at "om") => `(tactic| first | lia | omega)
local macro_rules | `(tactic| walk_at "asm") => `(tactic| with_reducible assumption)
local macro_rules | `(tactic| walk_at "ble") => `(tactic| first | with_reducible rfl | decide | exact Nat.le_of_ble_eq_true rfl)
local macro_rules | `(tactic| walk_at "smo") => `(tactic| (focus (simp; (first | done | walk_at "om"))))
local macro_rules | `(tactic| walk_at "dso") => `(tactic| (focus (dsimp only; walk_at "om")))
local macro_rules | `(tactic| walk_at "r4") => `(tactic| (refine ⟨?_,?_,?_,?_⟩ <;> walk_at "r62"))
local macro_rules | `(tactic| walk_at "r62") => `(tactic| (rw [z62]; walk_at "side"))
local macro_rules | `(tactic| walk_at "ss") => `(tactic| repeat walk_at "s1")
local macro_rules | `(tactic| walk_at "call") => `(tactic| (constructor <;> walk_at "side"))
local macro_rules | `(tactic| walk_at "rg") => `(tactic| first | with_reducible rfl | (apply WD <;> walk_at "rs") | (apply rngU_cong <;> walk_at "rs"))
local macro_rules | `(tactic| walk_at "rs")=>Vz "om|smo"
local macro_rules | `(tactic| walk_at "side")=>Vz "om|asm|ble|smo"
local macro_rules | `(tactic| walk_at "arith")=>Vz "om|asm|ble|smo"
local macro_rules | `(tactic| walk_at "ev")=>Vz "@Qu rfl|!QC|!UM|!VT|@ZB ev ev|@YJ ev ev|@Ve ev ev cond|@Pk ev|@GJ ev ev|@MB ev ev|@KA ev|@De ev ev ev|@Jj ev hc ev|@K8 ev|@Pm rfl ev item|@Pl rfl ev item|@Wh evd ev item|@VO evd ev item|@YH eas side|@Ze ea call|@Pt ea call|@KI ev ev|@K9 ev ev|@Ba ev|@Uc ev rfl|@P7 rfl|@MV evd|@US evd|@MK rfl|@Wk ev ev fine fine|@GM ev ev fine fine|@MA ev rfl|@EvO.fz eo"
local macro_rules | `(tactic| walk_at "evd")=>Vz "~Qu rfl|ev|@EvO.fz eo"
local macro_rules | `(tactic| walk_at "ea")=>Vz "!Q9|@GK rfl ea|@Qw ev ea"
local macro_rules | `(tactic| walk_at "eas")=>Vz "~ZC|~Zc ev eas"
local macro_rules | `(tactic| walk_at "eo")=>Vz "@V0 eas side|@GX ea call|@Ny evd|@KB evd evd side"
local macro_rules | `(tactic| walk_at "et")=>Vz "!Kl|@ZQ ev|@Vf ev|@GN et hc et|@Ja et hc et|@Yp et"
local macro_rules | `(tactic| walk_at "g")=>Vz "!Z8|!Ud|@Y2 g g|@WZ g rfl|~WZ g rfl"
local macro_rules | `(tactic| walk_at "ei")=>Vz "@Yh ea r62 r62|@NK ea r4|@PZ ea r4|@UR ea|@UT evd|@K3 evd"
local macro_rules | `(tactic| walk_at "s1")=>Vz "@QH s1|@Yf eo ls|@ZV ev ls|@Js rfl ev side ls"
local macro_rules | `(tactic| walk_at "ret")=>Vz "@MT rfl|@Vj evd|@W6 eo"
local macro_rules | `(tactic| walk_at "if")=>Vz "@QH if|@Z7 et"
local macro_rules | `(tactic| walk_at "eir")=>Vz "~EvI.cast ei rg"
local macro_rules | `(tactic| walk_at "item")=>Vz "rfl|asm|@Ps<arith|@PH<arith|@KP<arith|~PL<arith"
local macro_rules | `(tactic| walk_at "cond")=>Vz "asm|@BY<om|@GD<om|om|dso"
local macro_rules | `(tactic| walk_at "fine")=>Vz "~Bb|~Bm|~Nz"
section
variable {P:Program}{w:World}{K:W.Frag}{mg:Str->Qf}{base:Heap}{C gS gE YR CR fR CH cg ct:Addr}
inductive R_cell:List OT->OT->Prop
 |mk {ns:Ql} {k:Int} (h:0<=k):R_cell [.scr ns,.fz (.int k)] (.fz (.int (Ym ns k)))
def Iq:Qp Zat Zat (Qx HJ):=by walk_at"p"
def LU (T:Bl mg) (D:Df K mg "_law_cell_at" HJ Zat):QD P w K mg base "_law_cell_at" Zat 1 (QN (K:=K) R_cell):=by
 refine D.ev Iq (fun ts r h=>by cases h;rfl) (fun _ _ _ _ s H E ts r hr h=>?_)
 cases h with
 |@mk ns k h0 =>
   refine⟨_,(Q5 (Z2 (ZR JY (pv 1) (Zy Yz (by rfl) T.len Y1 (Qo (pv 0) Qs)) (Z4 _)) (Q7 (QT (QL QM (pv 0) (pv 1)))) Z3)
 (Q7 (QT Qz))),?_⟩
   show Q1 K _ [some _,some _] _
   walk_at"x"
   walk_at"if"
   ·
    intro c;have c:=X0 c
    walk_at"ret"
    rfl
   ·
    intro c;have c:=G5 c;refine ZD ?_
    walk_at"ret"
    have e:Ym ns k=0:=by
     have:ns.length<=k.toNat:=by omega
     simp[Ym,List.getD,this]
    rw[e]
def VM (y:Yd)(k:Nat):Ln:=y.ls.getD k default
def upN (y:Yd)(k:Nat):Nat:=(Zf y k).getD 0
def Sf {y:Yd}{k:Nat}(h:k<y.ls.length):Zf y k=(VM y k).up:=by simp[Zf,VM,h]
def S9 {y:Yd}{k t:Nat}(h:k<y.ls.length):Zz y k t=(VM y k).bs.getD t 0:=by simp[Zz,VM,h]
def R6 {y:Yd}(ok:y.Ok){k:Nat}(h:k<y.ls.length):(VM y k).bs.length=y.T:=ok.bl _ (by simp[VM,h])
inductive R_turns:List OT->OT->Prop
 |mk {y:Yd}:R_turns [.fz (Zd y)] (.fz (.int (y.T:Int)))
def EZ:Qp Zaz Zaz (Qx Ho):=by walk_at"p"
def FM (T:Bl mg) (D:Df K mg "turns_of" Ho Zaz):QD P w K mg base "turns_of" Zaz 1 (QN (K:=K) R_turns):=by
 refine D.ev EZ (fun ts r h=>by cases h;rfl) (fun _ _ _ _ s H E ts r hr h=>?_)
 cases h with
 |@mk y =>
   refine⟨_,(Q7 (QT (QL QM (pv 0) Qz))),?_⟩;show Q1 K _ [some _] _
   walk_at"x"
   walk_at"ret"
   rfl
inductive R_count:List OT->OT->Prop
 |mk {y:Yd}:R_count [.fz (Zd y)] (.fz (.int (y.ls.length:Int)))
def Ik:Qp Zaz Zaz (Qx HE):=by walk_at"p"
def CB (T:Bl mg) (D:Df K mg "line_count" HE Zaz):QD P w K mg base "line_count" Zaz 1 (QN (K:=K) R_count):=by
 refine D.ev Ik (fun ts r h=>by cases h;rfl) (fun _ _ _ _ s H E ts r hr h=>?_)
 cases h with
 |@mk y =>
   refine⟨_,(Q7 (QT (Zy Yz (by rfl) T.len Y1 (Qo (QL QM (pv 0) Qz) Qs)))),?_⟩;show Q1 K _ [some _] _
   walk_at"x"
   walk_at"ret"
   show _=_;rw[Xn]
inductive R_above:List OT->OT->Prop
 |mk {y:Yd} {k:Int} (ok:y.Ok) (h0:0<k) (h1:k<(y.ls.length:Int)):R_above [.fz (Zd y),.fz (.int k)] (.fz (.int (upN y k.toNat:Int)))
 |zero {y:Yd} (ok:y.Ok):R_above [.fz (Zd y),.fz (.int 0)] (.fz .none)
def E3:Qp ZaE ZaE (Qx Hk):=by walk_at"p"
def CP (T:Bl mg) (D:Df K mg "above_of" Hk ZaE):QD P w K mg base "above_of" ZaE 1 (QN (K:=K) R_above):=by
 refine D.ev E3 (fun ts r h=>by cases h<;>rfl) (fun _ _ _ _ s H E ts r hr h=>?_)
 cases h with
 |@mk y k ok h0 h1 =>
   refine⟨_,(Q7 (QT (QL QM (QL QM (QL QM (pv 0) Qz) (pv 1)) Qz))),?_⟩;show Q1 K _ [some _,some _] _
   walk_at"x"
   walk_at"ret"
   obtain⟨a,e,l⟩:=ok.ups k.toNat (by omega) (by omega);have e2:(VM y k.toNat).up=some a:=by rw[<- Sf (by omega)];exact e
   show OT.fz (upD (VM y k.toNat).up)=_;rw[e2];simp[upN,e,upD]
 |@zero y ok =>
   refine⟨_,(Q7 (QT (QL QM (QL QM (QL QM (pv 0) Qz) (pv 1)) Qz))),?_⟩;show Q1 K _ [some _,some _] _
   walk_at"x"
   have l1:=ok.l1
   walk_at"ret"
   have e2:(VM y 0).up=none:=by rw[<- Sf (by omega)];exact ok.up0
   show OT.fz (upD (VM y 0).up)=_;rw[e2];rfl
inductive R_bound:List OT->OT->Prop
 |mk {y:Yd} {k t:Int} (ok:y.Ok) (h0:0<=k) (h1:k<(y.ls.length:Int)) (h2:0<=t) (h3:t<(y.T:Int)):R_bound [.fz (Zd y),.fz (.int k),.fz (.int t)] (.fz (.int (Zz y k.toNat t.toNat)))
def E9:Qp Zaq Zaq (Qx Hm):=by walk_at"p"
def CZ (T:Bl mg) (D:Df K mg "bound_at" Hm Zaq):QD P w K mg base "bound_at" Zaq 1 (QN (K:=K) R_bound):=by
 refine D.ev E9 (fun ts r h=>by cases h;rfl) (fun _ _ _ _ s H E ts r hr h=>?_)
 cases h with
 |@mk y k t ok h0 h1 h2 h3 =>
   refine⟨_,(Q7 (QT (QL QM (QL QM (QL QM (QL QM (pv 0) Qz) (pv 1)) Qz) (pv 2)))),?_⟩;show Q1 K _ [some _,some _,some _] _
   walk_at"x"
   have hl:(y.ls.getD k.toNat default).bs.length=y.T:=R6 ok (by omega)
   walk_at"ret"
   show _=_;rw[S9 (by omega)];rfl
inductive R_lineof:List OT->OT->Prop
 |mk {g:Gs}:R_lineof [.fz (QK g)] (.fz (.int (g.line:Int)))
def AC:Qp Zas Zas (Qx DS):=by walk_at"p"
def AY (T:Bl mg) (D:Df K mg "line_of" DS Zas):QD P w K mg base "line_of" Zas 1 (QN (K:=K) R_lineof):=by
 refine D.ev AC (fun ts r h=>by cases h;rfl) (fun _ _ _ _ s H E ts r hr h=>?_)
 cases h with
 |@mk g =>
   refine⟨_,(Q7 (QT (QL QM (pv 0) Qz))),?_⟩;show Q1 K _ [some _] _
   walk_at"x"
   walk_at"ret"
   rfl
inductive R_there:List OT->OT->Prop
 |mk {g:Gs} {t:Int}:R_there [.fz (QK g),.fz (.int t)] (.fz (.bool (Wo g t)))
def EG:Qp Zan Zan (Qx Hv):=by walk_at"p"
def Ct (T:Bl mg) (D:Df K mg "is_there" Hv Zan):QD P w K mg base "is_there" Zan 1 (QN (K:=K) R_there):=by
 refine D.ev EG (fun ts r h=>by cases h;rfl) (fun _ _ _ _ s H E ts r hr h=>?_)
 cases h with
 |@mk g t =>
   refine⟨_,(Q7 (QT (Rm M7 M7 (QL QM (pv 0) Qz) (pv 1) (QL QM (pv 0) Qz)))),?_⟩;show Q1 K _ [some _,some _] _
   walk_at"x"
   walk_at"ret"
   rfl
inductive R_most:List OT->OT->Prop
 |mk {g:Gs}:R_most [.fz (QK g)] (.fz (.int g.most))
def AK:Qp Zas Zas (Qx DM):=by walk_at"p"
def Fe (T:Bl mg) (D:Df K mg "most_of" DM Zas):QD P w K mg base "most_of" Zas 1 (QN (K:=K) R_most):=by
 refine D.ev AK (fun ts r h=>by cases h;rfl) (fun _ _ _ _ s H E ts r hr h=>?_)
 cases h with
 |@mk g =>
   refine⟨_,(Q7 (QT (QL QM (pv 0) Qz))),?_⟩;show Q1 K _ [some _] _
   walk_at"x"
   walk_at"ret"
   rfl
inductive R_want:List OT->OT->Prop
 |mk {g:Gs}:R_want [.fz (QK g)] (.fz (.int g.want))
def AM:Qp Zas Zas (Qx DY):=by walk_at"p"
def Ly (T:Bl mg) (D:Df K mg "want_of" DY Zas):QD P w K mg base "want_of" Zas 1 (QN (K:=K) R_want):=by
 refine D.ev AM (fun ts r h=>by cases h;rfl) (fun _ _ _ _ s H E ts r hr h=>?_)
 cases h with
 |@mk g =>
   refine⟨_,(Q7 (QT (QL QM (pv 0) Qz))),?_⟩;show Q1 K _ [some _] _
   walk_at"x"
   walk_at"ret"
   rfl
structure SetOk (gs:List Gs)(some:Qk):Prop where
 mem:∀k∈some,k<gs.length
 len:some.length<=8
def Jl (gs:List Gs)(t:Nat)(sm:Qk):Qn:=fun l=>Vs gs (t:Int) l sm
def Uh (y:Yd)(gs:List Gs)(sm:Qk)(t:Nat):Ql:=(List.range y.ls.length).map fun l=>VN y (fun k=>Zz y k t) (Jl gs t sm) l
inductive R_reaching:List OT->OT->Prop
 |mk {y:Yd} {gs:List Gs} {sm:Qk} {t:Int} (ok:y.Ok) (hg:∀g∈gs,g.line<y.ls.length) (hs:SetOk gs sm) (h0:0<=t) (h1:t<(y.T:Int)) :
  R_reaching [.fz (Zd y),.fz (.list (gs.map QK)),.fz (.list (Zl sm)),.fz (.int t)] (.ol ((Uh y gs sm t.toNat).map PyData.int))
def N8 {n j:Nat}{f g:Qn}(hj:j<n)(e1:∀l,l<n->l≠j->g l=f l){v:Int}(e2:g j=v) :
 (((List.range n).map fun l=>PyData.int (f l)).set j (.int v))=(List.range n).map fun l=>PyData.int (g l):=by
 apply List.ext_getElem?
 intro i;by_cases hi:i=j
 ·subst hi
  rw[Xl (by simpa using hj)];simp[hj,e2]
 ·rw[Xr (Ne.symm hi)]
  by_cases h:i<n
  ·simp[h,e1 i h hi]
  ·simp[h]
def Gy:Qp Zau Zaf (Qx BN):=by walk_at"p"
def E1 (T:Bl mg) (D:Df K mg "reaching_at" BN Zaf) (XaX:QD P w K mg base "line_count" Zaz 1 (QN (K:=K) R_count)) (Xa9:QD P w K mg base "is_there" Zan 1 (QN (K:=K) R_there))
 (Xa0:QD P w K mg base "line_of" Zas 1 (QN (K:=K) R_lineof)) (Xba:QD P w K mg base "most_of" Zas 1 (QN (K:=K) R_most)) (Xbb:QD P w K mg base "above_of" ZaE 1 (QN (K:=K) R_above))
 (XaY:QD P w K mg base "bound_at" Zaq 1 (QN (K:=K) R_bound)):QD P w K mg base "reaching_at" Zaf 2 (QN (K:=K) R_reaching):=by
 refine D.ev Gy (fun ts r h=>by cases h;rfl) (fun _ _ _ _ s H E ts r hr h=>?_)
 cases h with
 |@mk y gs sm t ok hg hs h0 h1 =>
   refine⟨_,(Q5 (RH (i:=4) Gy.nd rfl rfl (NX:=Zau) (sc:=Qx BN) (N:=["line"]) (f:=[none]) rfl (by decide +kernel) rfl rfl (VW rfl T.range (Qo (QG XaX hr (Qo (pv 0) Qs)) Qs)) (fun _=>(Zw (i:=0) (show(["line"]:Qh).Nodup by decide +kernel) rfl Qa)) (fun _=>VI) (fun _=>Wp) (fun _=>Qz) rfl)
 (Q5 (V7 PassesOwn.never rfl (WA (pv 2)) (Zw (i:=5) Gy.nd rfl Qa) (Q5 (QW (i:=6) Gy.nd rfl Qa (QL QM (pv 1) (pv 5)))
 (Q7 (Z2 (V1 (QG Xa9 hr (Qo (pv 6) (Qo (pv 3) Qs)))) (Q7 (Ga (pv 4) (QG Xa0 hr (Qo (pv 6) Qs)) Gh (QG Xba hr (Qo (pv 6) Qs)) GU WE)) Z3))))
 (Q5 (V7 PassesOwn.never rfl (AX rfl T.range (Qo (Zb Wi (QG XaX hr (Qo (pv 0) Qs)) Qz) (Qo Qz (Qo (PJ Tg Qz) Qs)))) (Zw (i:=7) Gy.nd rfl Qa) (Q7 (Ga (pv 4) (QG Xbb hr (Qo (pv 0) (Qo (pv 7) Qs))) Gh (Zy (MZ rfl) (by rfl) T.min GY (Qo (QL QM (pv 4) (pv 7)) (Qo (QG XaY hr (Qo (pv 0) (Qo (pv 7) (Qo (pv 3) Qs)))) Qs))) GU WE)))
 (Q7 (QT (pv 4)))))),?_⟩
   show Q1 K _ [some _,some _,some _,some _,none,none,none,none] _
   walk_at"x"
   have l1:=ok.l1;have l5:=ok.l5;have n8:=hs.len;refine QH (Yf (MD (lo:=0) (n:=y.ls.length) (h:=fun _=>.int 0) ?ei (by omega) ?el) ?_)
   case ei=>walk_at"eir"
   case el =>
    intro x hx c;exact⟨_,by walk_at"g",by walk_at"ev"⟩
   walk_at"d"
   refine QH (Dt (fun i=>[some (.fz (Zd y)),some (.fz (.list (gs.map QK))),some (.fz (.list (Zl sm))),some (.fz (.int t)),some (.ol ((List.range y.ls.length).map fun l=>PyData.int (Vs gs t l (sm.take i)))),none,none,none]) (by walk_at"ei") ⟨rfl,rfl,rfl,rfl,rfl,trivial⟩ ?st ?fin)
   case st =>
    intro i d hd;have hi:i<sm.length:=by
     have:=(Xh.mp hd).1
     simpa [Zl] using this
    obtain rfl:d=.int ((sm[i]:Nat):Int):=by simpa [Zl,hi] using hd.symm
    have hk:sm[i]<gs.length:=hs.mem _ (X5 hi);refine⟨_,by walk_at"g",?_⟩
    walk_at"d"
    walk_at"s1";have eg:gs.getD ((sm[i]:Nat):Int).toNat default=gs[sm[i]]:=by simp[hk]
    rw[eg];have gok:=hg gs[sm[i]] (X5 hk);have gl:=gok;have tk:sm.take (i+1)=sm.take i++[sm[i]]:=by rw[JD];simp[hi]
    refine Z7 (by walk_at"et") (fun c=>?_) (fun c=>?_)
    ·refine NP (m:=Vs gs t gs[sm[i]].line (sm.take i)) rfl (by walk_at"ev") (by omega) ?_ (by walk_at"ev") ?_
     ·simp[gl]
     ·walk_at"d"
      refine⟨rfl,rfl,rfl,rfl,?_,trivial⟩;rw[XN];congr 2;refine N8 gl (fun l hl hn=>?_) ?_
      ·rw[tk,BL]
       simp[Vs,hk,Ne.symm hn]
      ·rw[tk,BL]
       simp[Vs,hk,c]
    ·refine ZD ⟨rfl,rfl,rfl,rfl,?_,trivial⟩
     refine XX (fun z=>some (OT.ol z)) (JJ fun l _=>?_);rw[tk,BL];simp[Vs,hk,c]
   case fin =>
    intro ρ' hf;refine MF hf ?_;have el:(Zl sm).length=sm.length:=by simp[Zl]
    rw[el,JE];refine QH (Dt (fun i=>[some (.fz (Zd y)),some (.fz (.list (gs.map QK))),some (.fz (.list (Zl sm))),some (.fz (.int t)),some (.ol ((List.range y.ls.length).map fun l=>PyData.int (V8 y (fun k=>Zz y k t.toNat) (fun l=>Vs gs t l sm) i l))),none,none,none]) (by walk_at"ei") ⟨rfl,rfl,rfl,rfl,rfl,trivial⟩ ?st2 ?fin2)
    case st2 =>
     intro i d hd;obtain⟨hi,rfl⟩:=R7 hd;have hi2:i<y.ls.length-1:=by omega
     refine⟨_,by walk_at"g",?_⟩
     walk_at"d"
     have ej:((y.ls.length:Int)-1-(i:Int)).toNat=y.ls.length-1-i:=by omega
     obtain⟨a,ea,la⟩:=ok.ups (y.ls.length-1-i) (by omega) (by omega);have un:upN y ((y.ls.length:Int)-1-(i:Int)).toNat=a:=by rw[ej];simp[upN,ea]
     refine NP (m:=V8 y (fun k=>Zz y k t.toNat) (fun l=>Vs gs t l sm) i a) rfl (by walk_at"ev") (by omega) ?_ (by walk_at"ev") ?_
     ·rw[un,XN]
      have:a<y.ls.length:=by omega
      simp[this]
     ·walk_at"d"
      refine⟨rfl,rfl,rfl,rfl,?_,trivial⟩;rw[un,XN];refine XX (fun z=>some (OT.ol z)) (N8 (by omega) (fun l hl hn=>?_) ?_)
      ·simp only[V8,W4]
       rw[ea,Xc (by simpa using fun z=>hn z.symm)];omega
      ·simp only[V8,W4]
       rw[ea,Xe rfl,ej]
    case fin2 =>
     intro ρ' hf;refine MF hf ?_
     walk_at"ret"
     show _=_;have e2:(JU ((y.ls.length:Int)-1) ((y.ls.length:Int)-1-0).toNat).length=y.ls.length-1:=by rw[RB];omega
     rw[e2];unfold Uh VN Jl;rw[X7 h0,Ys];rfl
def Em (y:Yd)(gs:List Gs)(sm:Qk)(t:Nat):(Uh y gs sm t).length=y.ls.length:=by simp[Uh]
def Ef {y:Yd}{gs:List Gs}{sm:Qk}{t l:Nat}(h:l<y.ls.length):(Uh y gs sm t).getD l 0=VN y (fun k=>Zz y k t) (Jl gs t sm) l:=by simp[Uh,List.getD,h]
def Jq (y:Yd)(gs:List Gs)(sm:Qk)(t:Nat):Int:=passes y (fun k=>Zz y k t) (Jl gs t sm) 0
def Ur (y:Yd)(gs:List Gs)(sm:Qk):Int:=((List.range y.T).map fun t=>Jq y gs sm t).sum
def TH (y:Yd)(gs:List Gs)(t:Nat):Jl gs t []=fun _=>0:=rfl
theorem SC {y:Yd}(ok:y.Ok)(t:Nat):∀i l,V8 y (fun k=>Zz y k t) (fun _=>0) i l=0
 |0,l=>rfl
 |i+1,l=>by
   have b0:∀k,0<=Zz y k t:=fun k=>by
    unfold Zz;cases e:y.ls[k]? with
    |none=>simp
    |some ln =>
      have:=ok.bb ln (List.mem_of_getElem? e)
      simp only[X4,G2];by_cases h:t<ln.bs.length
      ·have h2:=this (ln.bs[t]) (X5 h)
       simp only[List.getD,X6 h,G2];exact h2.1
      ·simp[List.getD,h]
   simp only[V8,W4,SC ok t i];have:=b0 (y.ls.length-1-i)
   split<;>omega
def T2 {y:Yd}(ok:y.Ok)(k t:Nat):0<=Zz y k t:=by
 unfold Zz;cases e:y.ls[k]? with
 |none=>simp
 |some ln =>
   have:=ok.bb ln (List.mem_of_getElem? e)
   simp only[X4,G2];by_cases h:t<ln.bs.length
   ·have h2:=this (ln.bs[t]) (X5 h)
    simp only[List.getD,X6 h,G2];exact h2.1
   ·simp[List.getD,h]
def Ie {y:Yd}(ok:y.Ok)(gs:List Gs):Ur y gs []=0:=by
 have g0:∀t,Jq y gs [] t=0:=fun t=>by
  unfold Jq passes VN;rw[TH y,SC ok];have:=T2 ok 0 t;dsimp only;omega
 unfold Ur;rw[BD,Zn (g:=fun _=>0) fun t _=>g0 t,VA]
inductive R_given:List OT->OT->Prop
 |mk {y:Yd} {gs:List Gs} {sm:Qk} {t:Int} (ok:y.Ok) (hg:∀g∈gs,g.line<y.ls.length) (hs:SetOk gs sm) (h0:0<=t) (h1:t<(y.T:Int)) :
  R_given [.fz (Zd y),.fz (.list (gs.map QK)),.fz (.list (Zl sm)),.fz (.int t)] (.fz (.int (Jq y gs sm t.toNat)))
def EW:Qp Zaf Zaf (Qx Hl):=by walk_at"p"
def Cc (T:Bl mg) (D:Df K mg "given_at" Hl Zaf) (Xbr:QD P w K mg base "reaching_at" Zaf 2 (QN (K:=K) R_reaching)) (XaY:QD P w K mg base "bound_at" Zaq 1 (QN (K:=K) R_bound)) :
 QD P w K mg base "given_at" Zaf 3 (QN (K:=K) R_given):=by
 refine D.ev EW (fun ts r h=>by cases h;rfl) (fun _ _ _ _ s H E ts r hr h=>?_)
 cases h with
 |@mk y gs sm t ok hg hs h0 h1 =>
   refine⟨_,(Q7 (QT (Zy (MZ rfl) (by rfl) T.min GY (Qo (QL QM (QG Xbr hr (Qo (pv 0) (Qo (pv 1) (Qo (pv 2) (Qo (pv 3) Qs))))) Qz) (Qo (QG XaY hr (Qo (pv 0) (Qo Qz (Qo (pv 3) Qs)))) Qs))))),?_⟩;show Q1 K _ [some _,some _,some _,some _] _
   walk_at"x"
   have l1:=ok.l1;have rl:=Em y gs sm t.toNat
   walk_at"ret"
   show _=_;rw[show(0:Int).toNat=0 from rfl,Ef (by omega)];rfl
inductive R_givenm:List OT->OT->Prop
 |mk {y:Yd} {gs:List Gs} {sm:Qk} (ok:y.Ok) (hg:∀g∈gs,g.line<y.ls.length) (hs:SetOk gs sm) :
  R_givenm [.fz (Zd y),.fz (.list (gs.map QK)),.fz (.list (Zl sm))] (.fz (.int (Ur y gs sm)))
def Ir:Qp Zae Zae (Qx BJ):=by walk_at"p"
def Ak (T:Bl mg) (D:Df K mg "given_most" BJ Zae) (XaT:QD P w K mg base "turns_of" Zaz 1 (QN (K:=K) R_turns)) (Xbs:QD P w K mg base "given_at" Zaf 3 (QN (K:=K) R_given)) :
 QD P w K mg base "given_most" Zae 4 (QN (K:=K) R_givenm):=by
 refine D.ev Ir (fun ts r h=>by cases h;rfl) (fun _ _ _ _ s H E ts r hr h=>?_)
 cases h with
 |@mk y gs sm ok hg hs =>
   refine⟨_,(Q7 (QT (Zy Nk (by rfl) T.sum KJ (Qo (YF (NX:=Zae) (sc:=Qx BJ) (N:=["turn","yard","guests","some"]) (f:=[none,some 0,some 1,some 2]) rfl (by decide +kernel) rfl rfl (VW rfl T.range (Qo (QG XaT hr (Qo (pv 0) Qs)) Qs)) (fun _=>(Zw (i:=0) (show(["turn","yard","guests","some"]:Qh).Nodup by decide +kernel) rfl Qa)) (fun _=>VI) (fun _=>Wp) (fun _=>(QG Xbs hr (Qo (pv 1) (Qo (pv 2) (Qo (pv 3) (Qo (pv 0) Qs))))))) Qs)))),?_⟩;show Q1 K _ [some _,some _,some _] _
   walk_at"x"
   have t8:=ok.t8;refine Vj (MA (ns:=(List.range y.T).map fun t=>Jq y gs sm t) ?_ rfl) rfl;refine EvO.fz ?_;rw[Ys];refine MD (lo:=0) (n:=y.T) ?_ (by omega) ?_
   ·walk_at"eir"
   ·intro x hx c
    refine⟨_,by walk_at"g",?_⟩
    walk_at"e"
    rw[Y9];have h:R_given [.fz (Zd y),.fz (.list (gs.map QK)),.fz (.list (Zl sm)),.fz (.int (x:Int))] (.fz (.int (Jq y gs sm x))):=R_given.mk (t:=(x:Int)) ok hg hs (by omega) (by omega);exact Ze (by walk_at"ea") h
def Bo:NoF "lay" := fun _ _ _ _=>rfl
def Re:NoF "lay_one" := fun _ _ _ _=>rfl
def FC:NoF "flow" := fun _ _ _ _=>rfl
def S6:NoF "reached" := fun _ _ _ _=>rfl
def Cq:NoF "push" := fun _ _ _ _=>rfl
def Fn:NoF "fill" := fun _ _ _ _=>rfl
def LE:NoF "way_to" := fun _ _ _ _=>rfl
def Il:Qp Zag Zag (Qx Ux):=by walk_at"p"
def PO {f:Addr} {fd:FuncData} (T:Bl mg) (U:Tx K mg C gS gE) (F:Fun K "__init__" "Net.__init__" Ux f fd):FnOk P w K mg base CX0 1 f fd Zag (spI P w C):=by
 refine F.ok Il (fun vs H Q E ⟨x,dx,e,_⟩=>by rw[e];rfl) fun cdv A outer s H vs Q E hr ⟨x,dx,e,hx,q⟩=>?_;subst e;refine⟨_,(Q5 (YM (pv 0) (Z6 Qs) rfl)
 (Q5 (YM (pv 0) (Z6 Qs) rfl)
 (Q5 (YM (pv 0) FF rfl)
 (Q7 (YM (pv 0) Fm rfl))))),?_⟩
 refine⟨XF _,fun e he=>⟨_,rfl,x,C,dx,[],rfl,?_,U.net.cl,U.net.ends,by decide,?_⟩⟩
 ·rw[Qr (Zp hx he)];exact hx
 have xe:x≠e:=Zp hx he;refine⟨XF _,fun r hr'=>⟨_,rfl,x,C,dx,[("ends",.ref e)],rfl,?_,U.net.cl,U.net.rooms,(by show(1:Nat)<1000;decide),?_⟩⟩
 ·have xr:x≠r:=Zp QA hr'
  rw[Qr xr,QA];rfl
 have xr:x≠r:=Zp QA hr';have rr:upd H e (.lst []) r=none:=by rw[Qr (Ne.symm xr)]at hr';exact hr'
 have er:e≠r:=Zp QA rr;have r0:H r=none:=by rw[Qr (Ne.symm er)]at rr;exact rr
 refine fun l hl=>⟨_,rfl,x,C,dx,[("ends",.ref e),("rooms",.ref r)],rfl,?_,U.net.cl,U.net.leav,(by show(2:Nat)<1000;decide),?_⟩
 ·have xl:x≠l:=Zp QA hl
  rw[Qr xl,QA];rfl
 have xl:x≠l:=Zp QA hl;rw[Qr (Ne.symm xl)]at hl;have rl:r≠l:=Zp QA hl;rw[Qr (Ne.symm rl),Qr (Ne.symm xl)]at hl;have el:e≠l:=Zp QA hl;rw[Qr (Ne.symm el)]at hl;refine fun d hd=>⟨_,rfl,x,C,dx,[("ends",.ref e),("rooms",.ref r),("leaving",.ref l)],rfl,?_,U.net.cl,U.net.laid,(by show(3:Nat)<1000;decide),?_⟩
 ·have xd:x≠d:=Zp QA hd
  rw[Qr xd,QA];rfl
 have xd:x≠d:=Zp QA hd;rw[Qr (Ne.symm xd)]at hd;have ld:l≠d:=Zp QA hd;rw[Qr (Ne.symm ld),Qr (Ne.symm xd)]at hd;have rd:r≠d:=Zp QA hd;rw[Qr (Ne.symm rd),Qr (Ne.symm xd)]at hd;have ed:e≠d:=Zp QA hd;rw[Qr (Ne.symm ed)]at hd;refine q e r l d _ he r0 hl hd ?_ ?_ ?_ ?_ ?_ ?_ (fun b hb=>?_)
 ·simp only[Xu,Xf,XQ,or_false,not_or,not_false_eq_true,WP,and_true]
  exact⟨⟨xe,xr,xl,xd⟩,⟨er,el,ed⟩,⟨rl,rd⟩,ld⟩
 ·rw[QA];rfl
 ·rw[Qr (Ne.symm xe),Qr ed,Qr (Ne.symm xe),Qr el,Qr (Ne.symm xe),Qr er,Qr (Ne.symm xe),QA]
 ·rw[Qr (Ne.symm xr),Qr rd,Qr (Ne.symm xr),Qr rl,Qr (Ne.symm xr),QA]
 ·rw[Qr (Ne.symm xl),Qr ld,Qr (Ne.symm xl),QA]
 ·rw[Qr (Ne.symm xd),QA];rfl
 ·simp only[Xf,XQ,or_false,not_or]at hb
  obtain⟨b1,b2,b3,b4,b5⟩:=hb;rw[Qr b1,Qr b5,Qr b1,Qr b4,Qr b1,Qr b3,Qr b1,Qr b2]
inductive R_lay1:Qy->List OT->(Qy->Prop)->Prop
 |mk {N:Qy} {s e:List Key} {r:Int} (h1:N.ends.length<900) (h2:N.rooms.length<900) (h3:N.leav.length<900) (h4:∀k ns,QJ N.leav k=some ns->ns.length<900):R_lay1 N [.fz (QQ s),.fz (QQ e),.fz (.int r)] (fun N'=>N'=JR N s e r)
def Iv:Qp Zac Zac (Qx Jz):=by walk_at"p"
def Lm (T:Bl mg) (U:Tx K mg C gS gE) (D:Mf K C "lay_one" "Net.lay_one" Jz Zac):Zi P w K mg base C "lay_one" Zac 1 (spN K P w C R_lay1):=by
 refine D.evN Iv (fun M ts Ψ h=>by cases h;rfl) (fun f cdv A outer s H E v M ts Ψ hr h=>?_)
 cases h with
 |@mk s' e r h1 h2 h3 h4 =>
   refine⟨_,(Q5 (Zv (Vq PySem.F.plainAttrs_list PySem.F.slot_list_append PySem.F.type_list_append Vv (CT (Ye hr) (Zj (pv 0) rfl) (pv 1) (Z6 Qs) ⟨rfl,rfl,rfl,rfl⟩) (Qo (Zy Yz (by rfl) T.len Y1 (Qo (Zj (pv 0) rfl) Qs)) Qs)))
 (Q5 (Zv (Vq PySem.F.plainAttrs_list PySem.F.slot_list_append PySem.F.type_list_append Vv (Zj (pv 0) rfl) (Qo (pv 2) Qs)))
 (Q7 (Zv (Vq PySem.F.plainAttrs_list PySem.F.slot_list_append PySem.F.type_list_append Vv (Zj (pv 0) rfl) (Qo (pv 3) Qs)))))),?_⟩
   show Q1 K _ [some _,some _,some _,some _] _
   walk_at"x"
   refine QH (Ei (N:=M) (n:=(M.ends.length:Int)) U.net rfl (Qu rfl) (by omega) (fun ns hns=>?_) (Sy (N:={ M with leav:=V3 M.leav s' }) U.net rfl) ?_)
   ·rw[D6,Xe rfl]at hns
    cases hns
    cases z:QJ M.leav s' with
    |none=>decide
    |some ms=>have:=h4 s' ms z;show ms.length<1000;omega
   walk_at"d"
   refine QH (Es U.net rfl (Qu rfl) (show M.ends.length<1000 by omega) ?_)
   walk_at"d"
   refine Ew U.net rfl (Qu rfl) (show M.rooms.length<1000 by omega) ?_
   walk_at"d"
   exact⟨_,rfl,rfl⟩
abbrev Yy:QP Nd:=fun _ _=>0
inductive R_lay:Qy->List OT->(Qy->Prop)->Prop
 |mk {N:Qy} {L:Lay Nd} {s e:Nd} {r:Int} (h:NetR N L Yy) (new:(s,e)∉L.map (fun x=>(x.1,x.2.1))) (l:L.length<400):R_lay N [.fz (QQ (nk s)),.fz (QQ (nk e)),.fz (.int r)] (fun N'=>NetR N' (L++[(s,e,r)]) Yy)
def Eo:Qp Zac Zac (Qx Jw):=by walk_at"p"
def Tp (T:Bl mg) (U:Tx K mg C gS gE) (D:Mf K C "lay" "Net.lay" Jw Zac) (Xbe:Zi P w K mg base C "lay_one" Zac 1 (spN K P w C R_lay1)):Zi P w K mg base C "lay" Zac 2 (spN K P w C R_lay):=by
 refine D.evN Eo (fun M ts Ψ h=>by cases h;rfl) (fun f cdv A outer s H E v M ts Ψ hr h=>?_)
 cases h with
 |@mk L s' e r h new l =>
   refine⟨_,(Q5 (TF (MX hr) (Zj (pv 0) rfl) (YL (Qo (pv 1) (Qo (pv 2) Qs))) (Zy Yz (by rfl) T.len Y1 (Qo (Zj (pv 0) rfl) Qs)) rfl)
 (Q5 (Zv (Yg Xbe U.net hr (pv 0) (Qo (pv 1) (Qo (pv 2) (Qo (pv 3) Qs)))))
 (Q7 (Zv (Yg Xbe U.net hr (pv 0) (Qo (pv 2) (Qo (pv 1) (Qo Qz Qs)))))))),?_⟩
   show Q1 K _ [some _,some _,some _,some _] _
   walk_at"x"
   have le:=h.elen;have lr:M.rooms.length=2*L.length:=by rw[h.rooms,Hr]
   have l1:=h.l1;have l2:=h.l2;have l3:=h.l3;refine QH (AZ (N:=M) (n:=(M.ends.length:Int)) (k1:=nk s') (k2:=nk e) U.net rfl (Sy U.net rfl) (YH (Zc (Qu rfl) (Zc (Qu rfl) ZC)) Wz) (by omega) ?_)
   walk_at"d"
   refine QH (WI (ΦA:=fun ts=>ts=[.fz (QQ (nk s')),.fz (QQ (nk e)),.fz (.int r)]) Re rfl (Wl (Qw (Qu rfl) (Qw (Qu rfl) (Qw (Qu rfl) Q9))) rfl) (fun ts hts=>?_));subst hts;refine⟨_,R_lay1.mk (show M.ends.length<900 by omega) (show M.rooms.length<900 by omega) (show M.leav.length<900 by omega) (fun k ns hk=>by have:=l3 k ns hk;omega),fun N' hN=>?_⟩;subst hN;walk_at"d"
   refine WI (ΦA:=fun ts=>ts=[.fz (QQ (nk e)),.fz (QQ (nk s')),.fz (.int 0)]) Re rfl (Wl (Qw (Qu rfl) (Qw (Qu rfl) (Qw QC Q9))) rfl) (fun ts hts=>?_);subst hts;refine⟨_,R_lay1.mk ?a1 ?a2 ?a3 ?a4,fun N' hN=>?_⟩
   case a1=>show(M.ends++[nk e]).length<900;rw[Xm,le];show 2*L.length+1<900;omega
   case a2=>show(M.rooms++[r]).length<900;rw[Xm,lr];show 2*L.length+1<900;omega
   case a3 =>
    show(V4 (V3 M.leav (nk s')) (nk s') _).length<900
    rw[Bs];have:=Ds M.leav (nk s');omega
   case a4 =>
    intro k ns hk;rw[Uo]at hk;by_cases z:k=nk s'
    ·rw[Xe z]at hk
     cases hk
     have:((QJ M.leav (nk s')).getD []).length<=2*L.length:=by
      cases q:QJ M.leav (nk s') with
      |none=>exact XF _
      |some ms=>exact l3 _ ms q
     show((QJ M.leav (nk s')).getD []++[_]).length<900
     rw[Xm];show _+1<900;omega
    ·rw[Xc z]at hk
     have:=l3 k ns hk
     omega
   subst hN;walk_at"d"
   exact⟨_,Ck (r:=r) h rfl new,rfl⟩
def UN (L:Lay Nd)(φ:QP Nd)(p q:Nd):Int:=if (p,q)∈L.map (fun x=>(x.1,x.2.1)) then φ p q else 0
inductive R_flow (P:Program)(w:World)(C:Addr):List OT->(OT->Prop)->Prop
 |mk {N:Qy} {L:Lay Nd} {φ:QP Nd} {p q:Nd} (h:NetR N L φ):R_flow P w C [.zow (ZM P w C N),.fz (QQ (nk p)),.fz (QQ (nk q))] (fun r=>r=.fz (.int (UN L φ p q)))
def EM:Qp Zah Zah (Qx Jv):=by walk_at"p"
def T8 (T:Bl mg) (U:Tx K mg C gS gE) (D:Mf K C "flow" "Net.flow" Jv Zah):Zi P w K mg base C "flow" Zah 1 (QY K (R_flow P w C)):=by
 refine D.evD EM (fun ts Φ h=>by cases h;rfl) (fun _ _ _ _ s H E ts Φ hr h=>?_)
 cases h with
 |@mk N L φ p q h =>
   refine⟨_,(Q5 (Z2 (Ug (AW (MX hr) (YL (Qo (pv 1) (Qo (pv 2) Qs))) (Zj (pv 0) rfl))) (Q7 (QT Qz)) Z3)
 (Q7 (QT (QL QM (Zj (pv 0) rfl) (Zb Db (Lr (MX hr) (Zj (pv 0) rfl) (YL (Qo (pv 1) (Qo (pv 2) Qs))) (fun _ _=>rfl)) Qz))))),?_⟩
   show Q1 K _ [some _,some _,some _] _
   walk_at"x"
   have key:∀{ρ:Q6},ρ[1]?=some (some (.fz (QQ (nk p))))->ρ[2]?=some (some (.fz (QQ (nk q))))->Qt K (JS (QF (Q8 1) (QF (Q8 2) QO))) ρ (.tuple [QQ (nk p),QQ (nk q)]):=fun e1 e2=>YH (Zc (Qu e1) (Zc (Qu e2) ZC)) Wz;refine QH (Z7 (b := !(ZF N.laid (nk p,nk q)).isSome) (Vf (AV U.net (key rfl rfl) rfl)) (fun c=>Vj QC ?_) (fun c=>ZD ?_))
   ·have c:ZF N.laid (nk p,nk q)=none:=by
     cases z:ZF N.laid (nk p,nk q) with
     |none=>rfl
     |some n=>rw[z]at c;cases c
    show OT.fz (.int 0)=_;unfold UN;rw[Xc (fun hm=>?_)];obtain⟨x,hx,ex⟩:=XI.mp hm;obtain⟨i,hi⟩:=List.mem_iff_getElem?.mp hx
    have:=h.laid i x hi
    injection ex with e1 e2;rw[e1,e2,c]at this;cases this
   ·have hm:(p,q)∈L.map (fun x=>(x.1,x.2.1)):=by
     apply Classical.byContradiction
     intro hn;rw[h.laid0 p q hn]at c;cases c
    obtain⟨x,hx,ex⟩:=XI.mp hm;obtain⟨i,hi⟩:=List.mem_iff_getElem?.mp hx;have hl:=h.laid i x hi;injection ex with e1 e2
    rw[e1,e2]at hl;have hr':N.rooms[2*i+1]?=some (φ p q):=by
     rw[h.rooms,Uv];unfold rmE;have a:(2*i+1)/2=i:=by omega
     have b:¬(2*i+1)%2=0:=by omega
     rw[a,hi];simp only[X4,Xc b,e1,e2]
    have ea:atI (N.rooms.map PyData.int) (Builtin.bitXor ((2*i:Nat):Int) 1)=some (.int (φ p q)):=by
     rw[Hf];have a:Zes (2*i)=2*i+1:=by unfold Zes;rw[Xe (by omega)]
     rw[a];exact Y3 (by rw[Xt,hr'];rfl)
    refine Vj (D0 (N:=N) U.net rfl (ZB (g:=Builtin.bitXor) (FJ (n:=((2*i:Nat):Int)) U.net rfl (key rfl rfl) hl) QC) ea) ?_;unfold UN;rw[Xe hm]
def LO {K:W.Frag}{ρ:Q6}{ta:TE}{ds:Qd}(h:Qt K ta ρ (.list ds)):Zh K (fun σ H Q=>ta σ H fun x H'=>∃k,Mm K x H' k/\Q k H') ρ (!ds.isEmpty):=fun H0 F σ H Q S q=>h H0 F σ H _ S fun F1 H1 v x1 r1=>by
 obtain⟨a,xs,rfl,h1,h2,_⟩:=Jx (K:=K) r1 x1.fh;refine⟨_,.inl ⟨xs,h1,rfl⟩,?_⟩
 have e:xs.isEmpty=ds.isEmpty:=by
  have:=h2.length
  cases xs<;>cases ds<;>simp at this ⊢
 rw[e];exact q F1 H1 x1
def YC (n:Nd):PyData:=QQ (nk n)
inductive R_reached (P:Program)(w:World)(C:Addr):List OT->(OT->Prop)->Prop
 |mk {N:Qy} {L:Lay Nd} {φ:QP Nd} {s:Nd} (h:NetR N L φ) (l:L.length<400):R_reached P w C [.zow (ZM P w C N),.fz (QQ (nk s))] (fun r=>∃v es,r=.own v (Vo (kvG es))/\Tree L φ s es/\VH L φ es)
structure ReachI (L:Lay Nd)(φ:QP Nd)(s:Nd)(es0 es:Got Nd)(U fu:List Nd):Prop where
 tree:Tree L φ s es
 fin:∀n∈fu,n∈QR es
 sub:∀n∈QR es0,n∈QR es
 done:WV L φ es (U++fu)
 len:es.length=es0.length+fu.length
def J1:Qp ["self","start","edges","latest","further","node","edge"] ZaA (Qx J0):=by walk_at"p"
def Ez (T:Bl mg) (U:Tx K mg C gS gE) (D:Mf K C "reached" "Net.reached" J0 ZaA):Zi P w K mg base C "reached" ZaA 1 (QY K (R_reached P w C)):=by
 refine D.evD J1 (fun ts Φ h=>by cases h;rfl) (fun _ _ _ _ s H E ts Φ hr h=>?_)
 cases h with
 |@mk N L φ s' h l =>
   refine⟨_,(Q5 (QW (i:=2) J1.nd rfl Qa (FZ (Ye hr) (pv 1) GP))
 (Q5 (QW (i:=3) J1.nd rfl Qa (Z6 (Qo (pv 1) Qs)))
 (Q5 (DB PassesOwn.never (CL (pv 3) (fun _=>rfl)) (Q5 (QW (i:=4) J1.nd rfl Qa (Z6 Qs))
 (Q5 (V7 PassesOwn.never rfl (WA (pv 3)) (Zw (i:=5) J1.nd rfl Qa) (Q7 (V7 PassesOwn.never rfl (WA (FA (Ye hr) (Zj (pv 0) rfl) (pv 5) (Z6 Qs) ⟨rfl,rfl,rfl,rfl⟩)) (Zw (i:=6) J1.nd rfl Qa) (Q7 (Z2 (PW.pt (GS (ZR W2 (QL QM (Zj (pv 0) rfl) (pv 6)) Qz (Z4 _)) (Bg (Ug (Aj (Ye hr) (QL QM (Zj (pv 0) rfl) (pv 6)) (pv 2)))))) (Q5 (Bk (Ye hr) (pv 2) (QL QM (Zj (pv 0) rfl) (pv 6)) (pv 6) rfl)
 (Q7 (Zv (Vq PySem.F.plainAttrs_list PySem.F.slot_list_append PySem.F.type_list_append Vv (pv 4) (Qo (QL QM (Zj (pv 0) rfl) (pv 6)) Qs))))) Z3)))))
 (Q7 (QW (i:=3) J1.nd rfl Qa (pv 4))))))
 (Q7 (QT (pv 2)))))),?_⟩
   show Q1 K _ [some _,some _,none,none,none,none,none] _
   walk_at"x"
   refine QH (UY (Cy (k:=nk s') (d:=.none) (Qu rfl) UM) (fun v=>?_))
   walk_at"d"
   refine QH (Yf (V0 (ds:=[QQ (nk s')]) (Zc (Qu rfl) ZC) JQ) ?_)
   walk_at"d"
   refine Je 3 rfl ?_
   walk_at"d"
   have bnd:∀es,Tree L φ s' es->es.length<=2*L.length+1:=fun es t=>by have:=t.len;rw[Sc]at this;exact this
   refine QH (D3 (fun m ρ'=>∃(es:Got Nd) (lt:List Nd) (u4 u5 u6:Option OT),Tree L φ s' es/\(∀n∈lt,n∈QR es)/\WV L φ es lt/\m=2*(2*L.length+2-es.length)+(if lt=[] then 0 else 1) /\
    ρ'=[some (.zow (ZM P w C N)),some (.fz (QQ (nk s'))),some (.own v (Vo (kvG es))),some (.fz (.list (lt.map YC))),u4,u5,u6]) _ ⟨[(s',none)],[s'],none,none,none,.root,(fun n hn=>by simpa [QR] using hn),?d0,rfl,rfl⟩ ?ws)
   case d0 =>
    intro e m n r h1 h2 h3 h4 h5 h6;have:m=s':=by simpa [QR] using h5
    exact Xk (by rw[this];exact Xa) h6
   case ws =>
    rintro m _ ⟨es,lt,u4,u5,u6,tr,sb,dn,rfl,rfl⟩
    refine⟨_,LO (ds:=lt.map YC) (Qu rfl),fun c=>?_,fun c=>?_⟩
    ·have hlt:lt≠[]:=fun z=>by rw[z]at c;cases c
     rw[Xc hlt];refine QH (Yf (V0 (ds:=[]) ZC (by decide)) ?_)
     walk_at"d"
     refine QH (VV (ds:=lt.map YC) (fun i ρ'=>∃(es':Got Nd) (fu:List Nd) (u5 u6:Option OT),ReachI L φ s' es es' (lt.drop i) fu /\
      ρ'=[some (.zow (ZM P w C N)),some (.fz (QQ (nk s'))),some (.own v (Vo (kvG es'))),some (.fz (.list (lt.map YC))),some (.ol (fu.map YC)),u5,u6]) (UT (Qu rfl)) ⟨es,[],_,_,⟨tr,(fun n hn=>nomatch hn),fun n hn=>hn,by rw[List.drop_zero,XH];exact dn,by simp⟩,rfl⟩ ?st ?fin)
     case fin =>
      rintro _ ⟨es',fu,w5,w6,I,rfl⟩
      rw[Xn]at I;have dn':=I.done;rw[List.drop_length,List.nil_append]at dn';refine Je 4 rfl ?_
      walk_at"d"
      refine ZV (Qu rfl) ?_
      walk_at"d"
      refine⟨2*(2*L.length+2-es'.length)+(if fu=[] then 0 else 1),?_,es',fu,_,_,_,I.tree,I.fin,dn',rfl,rfl⟩;have b1:=bnd es' I.tree;have b2:=I.len
      by_cases z:fu=[]
      ·rw[Xe z]
       rw[z]at b2;simp at b2;omega
      ·rw[Xc z]
       have:0<fu.length:=BU.mpr z
       omega
     case st =>
      rintro i d _ hd ⟨es1,fu1,w5,w6,I1,rfl⟩
      have hi:i<lt.length:=by
       have:=(Xh.mp hd).1
       simpa using this
      obtain rfl:d=YC lt[i]:=by simpa [hi] using hd.symm
      have hdr:lt.drop i=lt[i]::lt.drop (i+1):=List.drop_eq_getElem_cons hi;generalize lt[i]=x at hdr;refine⟨_,Z8,?_⟩
      walk_at"d"
      refine VV (ds:=((QJ N.leav (nk x)).getD []).map PyData.int) (fun j ρ'=>∃(es2:Got Nd) (fu2:List Nd) (u6:Option OT),ReachI L φ s' es es2 (lt.drop i) fu2 /\
       (∀(k:Nat) (n:Nd) (r:Int),(k:Int)∈((QJ N.leav (nk x)).getD []).take j->hdE L k=some n->rmE L φ k=some r->0<r->n∈QR es2) /\
       ρ'=[some (.zow (ZM P w C N)),some (.fz (QQ (nk s'))),some (.own v (Vo (kvG es2))),some (.fz (.list (lt.map YC))),some (.ol (fu2.map YC)),some (.fz (YC x)),u6]) (UT (Cs (k:=nk x) U.net rfl (Qu rfl))) ⟨es1,fu1,_,I1,(fun k n r hk=>by simp at hk),rfl⟩ ?st2 ?fin2
      case fin2 =>
       rintro _ ⟨es2,fu2,w6,I2,dn2,rfl⟩
       refine⟨es2,fu2,_,_,⟨I2.tree,I2.fin,I2.sub,?_,I2.len⟩,rfl⟩;rw[Xn,JE]at dn2;intro e m n r h1 h2 h3 h4 h5 h6;by_cases z:m=x
       ·subst z
        exact dn2 e n r ((h.leav m (e:Int)).mpr ⟨e,rfl,h1⟩) h2 h3 h4
       ·refine I2.done e m n r h1 h2 h3 h4 h5 ?_
        rw[hdr,WQ,Xf,not_or];exact⟨z,h6⟩
      case st2 =>
       rintro j d2 _ hd2 ⟨es2,fu2,w6,I2,dn2,rfl⟩
       have hj:j<((QJ N.leav (nk x)).getD []).length:=by
        have:=(Xh.mp hd2).1
        simpa using this
       obtain⟨k,ek,tk⟩:=(h.leav x _).mp (X5 hj)
       obtain rfl:d2=.int (k:Int):=by
        rw[Xt,X6 hj]at hd2;rw[ek]at hd2;simpa using hd2.symm
       obtain⟨y,hy⟩:∃y,L[k/2]?=some y:=by
        unfold tlE at tk;cases z:L[k/2]? with
        |none=>rw[z]at tk;cases tk
        |some y=>exact⟨y,rfl⟩
       obtain⟨n,hn⟩:∃n,hdE L k=some n:=⟨_,by unfold hdE;rw[hy];rfl⟩;obtain⟨r,hr'⟩:∃r,rmE L φ k=some r:=⟨_,by unfold rmE;rw[hy];rfl⟩;have ra:atI (N.rooms.map PyData.int) (k:Int)=some (.int r):=Y3 (by rw[Xt,h.rooms,Uv,hr'];rfl);have ea:atI (N.ends.map QQ) (k:Int)=some (QQ (nk n)):=Y3 (by rw[h.ends,Ys,Xt,Dq,hn];rfl);have tks:((QJ N.leav (nk x)).getD []).take (j+1)=((QJ N.leav (nk x)).getD []).take j++[(k:Int)]:=by rw[JD,X6 hj,ek];rfl
       have bes:=bnd es2 I2.tree;have ben:=I2.len;refine⟨_,Z8,?_⟩
       walk_at"d"
       have eend:∀{ρ:Q6},ρ[0]?=some (some (.zow (ZM P w C N)))->ρ[6]?=some (some (.fz (.int (k:Int))))->Qt K (tOp (rIx K) (ZL K (Q8 0) "ends") (Q8 6)) ρ (QQ (nk n)):=fun e0 e6=>N3 U.net e0 (Qu e6) ea;refine Z7 (b:=decide (r > 0) && !(VC (kvG es2) (nk n)).isSome) (GN (ZQ (YJ (D0 U.net rfl (Qu rfl) ra) QC)) (fun _=>Vf (AG (eend rfl rfl) rfl))) (fun c=>?_) (fun c=>ZD ?_)
       ·rw[UV]at c
        have c1:r > 0:=X0 (Bool.and_eq_true_iff.mp c).1;have c2:n∉QR es2:=by simpa using (Bool.and_eq_true_iff.mp c).2
        refine QH (Ch rfl (Qu rfl) (eend rfl rfl) (by rw[show(kvG es2).length=es2.length from Xn _];exact ZH (by omega)) ?_)
        walk_at"d"
        rw[CM c2];refine Js (ds:=fu2.map YC) rfl (eend rfl rfl) (by rw[Xn];omega) ?_
        walk_at"d"
        have km:x∈QR es2:=I2.sub x (sb x (List.mem_of_mem_drop (by rw[hdr];exact Xa)));refine⟨es2++[(n,some k)],fu2++[n],_,⟨I2.tree.add c2 hn tk km hr' c1,fun z hz=>?_,fun z hz=>WM.mpr (.inl (I2.sub z hz)),?_,by simp;omega⟩,fun k' n' r' hk' q1 q2 q3=>?_,by rw[Xy];rfl⟩
        ·rcases Xx.mp hz with hz|hz
         ·exact WM.mpr (.inl (I2.fin z hz))
         ·exact WM.mpr (.inr (by simpa using hz))
        ·exact I2.done.add n (some k)
        ·rw[tks]at hk'
         rcases Xx.mp hk' with z|z
         ·exact WM.mpr (.inl (dn2 k' n' r' z q1 q2 q3))
         ·have:k'=k:=by have:=Xg.mp z;omega
          subst this;rw[hn]at q1;cases q1;exact WM.mpr (.inr rfl)
       ·rw[UV]at c
        refine⟨es2,fu2,_,I2,fun k' n' r' hk' q1 q2 q3=>?_,rfl⟩;rw[tks]at hk';rcases Xx.mp hk' with z|z
        ·exact dn2 k' n' r' z q1 q2 q3
        ·have:k'=k:=by have:=Xg.mp z;omega
         subst this;rw[hn]at q1;rw[hr']at q2;cases q1
         cases q2
         apply Classical.byContradiction
         intro hq;have q3':r > 0:=q3
         simp[q3',hq]at c
    ·have hlt:lt=[]:=by
      cases lt with
      |nil=>rfl
      |cons a b=>cases c
     subst hlt;exact Dv rfl ⟨v,es,rfl,tr,dn.closed⟩
def Ya (w:Qk):Qd:=w.map fun(e:Nat)=>PyData.int (e:Int)
def So {L:Lay Nd}{es:Got Nd}{n:Nd}{w:Qk}(b:Back L es n w):VC (kvG es) (nk n)=some (JP w.head?):=by
 rw[DG];cases b with
 |nil h=>rw[h];rfl
 |cons h t b=>rw[h];rfl
def K1 {L:Lay Nd}{φ:QP Nd}{e:Nat}{r:Int}(h:rmE L φ e=some r):e<2*L.length:=by
 unfold rmE at h;cases z:L[e/2]? with
 |none=>rw[z]at h;cases h
 |some x=>have:=(Xh.mp z).1;omega
def NZ {L:Lay Nd}{φ:QP Nd}{s n:Nd}{es:Got Nd}{w:Qk}(q:WayOk L φ s es n w):w.length<=2*L.length:=by
 have:=DL (ys:=List.range (2*L.length)) q.nodup fun e he=>by
  obtain⟨r,hr,_⟩:=q.room e he;exact XT.mpr (K1 hr)
 simpa using this
inductive R_way (P:Program)(w:World)(C:Addr):List OT->(OT->Prop)->Prop
 |mk {N:Qy} {L:Lay Nd} {φ:QP Nd} {s n:Nd} {es:Got Nd} {wy:Qk} (h:NetR N L φ) (l:L.length<400) (q:WayOk L φ s es n wy):R_way P w C [.zow (ZM P w C N),.zow (WX (kvG es)),.fz (QQ (nk n))] (fun r=>r=.ol (Ya wy))
def BO:Qp ["self","edges","end","way","edge"] Zav (Qx J7):=by walk_at"p"
def Tu (T:Bl mg) (U:Tx K mg C gS gE) (D:Mf K C "way_to" "Net.way_to" J7 Zav):Zi P w K mg base C "way_to" Zav 1 (QY K (R_way P w C)):=by
 refine D.evD BO (fun ts Φ h=>by cases h;rfl) (fun _ _ _ _ s H E ts Φ hr h=>?_)
 cases h with
 |@mk N L φ s' n es wy h l q =>
   refine⟨_,(Q5 (QW (i:=3) BO.nd rfl Qa (Z6 Qs))
 (Q5 (QW (i:=4) BO.nd rfl Qa (NI (Ye hr) (pv 1) (pv 2) (fun _ _=>rfl)))
 (Q5 (DB PassesOwn.never (Ug (T9 (pv 4))) (Q5 (Zv (Vq PySem.F.plainAttrs_list PySem.F.slot_list_append PySem.F.type_list_append Vv (pv 3) (Qo (pv 4) Qs)))
 (Q7 (QW (i:=4) BO.nd rfl Qa (NI (Ye hr) (pv 1) (QL QM (Zj (pv 0) rfl) (Zb Db (pv 4) Qz)) (fun _ _=>rfl))))))
 (Q7 (QT (pv 3)))))),?_⟩
   show Q1 K _ [some _,some _,some _,none,none] _
   walk_at"x"
   have wl:=NZ q;refine QH (Yf (V0 (ds:=[]) ZC (by decide)) ?_)
   walk_at"d"
   refine QH (ZV (NT rfl (Qu rfl) (So q.back)) ?_)
   walk_at"d"
   refine QH (D3 (fun m ρ'=>∃(dn rs:Qk) (n':Nd),m=rs.length/\dn++rs=wy/\Back L es n' rs/\ρ'=[some (.zow (ZM P w C N)),some (.zow (WX (kvG es))),some (.fz (QQ (nk n))),some (.ol (Ya dn)),some (.fz (JP rs.head?))]) wy.length ⟨[],wy,n,rfl,rfl,q.back,rfl⟩ ?ws)
   case ws =>
    rintro m _ ⟨dn,rs,n',rfl,hw,b,rfl⟩
    refine⟨_,Vf (KA (Qu rfl)),fun c=>?_,fun c=>?_⟩
    ·cases b with
     |nil h0=>cases c
     |@cons _ m' e rs' h0 t0 b0 =>
       have dl:dn.length<1000:=by
        have:=XX List.length hw
        rw[Xm]at this;omega
       refine QH (Js (ds:=Ya dn) (d:=.int (e:Int)) rfl (Qu rfl) (by unfold Ya;rw[Xn];exact dl) ?_)
       walk_at"d"
       have ea:atI (N.ends.map QQ) (Builtin.bitXor (e:Int) 1)=some (QQ (nk m')):=by
        rw[Hf];exact Y3 (by rw[h.ends,Ys,Xt,A5,t0];rfl)
       refine ZV (NT rfl (N3 U.net rfl (ZB (g:=Builtin.bitXor) (Qu rfl) QC) ea) (So b0)) ?_
       walk_at"d"
       refine⟨rs'.length,Wa _,dn++[e],rs',m',rfl,by rw[<- hw,G3];rfl,b0,?_⟩;unfold Ya;rw[Xy];rfl
    ·have:rs=[]:=by
      cases rs with
      |nil=>rfl
      |cons a b=>cases c
     subst this;rw[XH]at hw;subst hw;exact MT rfl rfl
def amt (L:Lay Nd)(φ:QP Nd)(w:Qk):Int:=VZ (w.map fun e=>(rmE L φ e).getD 0)
inductive R_push:Qy->List OT->(Qy->Prop)->Prop
 |mk {N:Qy} {L:Lay Nd} {φ:QP Nd} {wy:Qk} (h:NetR N L φ) (hd:Dis L) (ne:wy≠[]) (hin:∀e∈wy,∃r,rmE L φ e=some r) (hl:wy.length<900):R_push N [.fz (.list (Ya wy))] (fun N'=>NetR N' L (Yw L (amt L φ wy) φ wy))
def NetR.rm {N:Qy}{L:Lay Nd}{φ:QP Nd}(h:NetR N L φ){e:Nat}(he:e<2*L.length):∃r,N.rooms[e]?=some r/\(Vu L φ)[e]?=some r:=by
 have:e<(Vu L φ).length:=by rw[Hr];exact he
 exact⟨(Vu L φ)[e],by rw[h.rooms,X6 this],X6 this⟩
def NetR.push {N:Qy}{L:Lay Nd}{φ:QP Nd}(h:NetR N L φ)(hd:Dis L){a r r':Int}{e:Nat}(h1:(Vu L φ)[e]?=some r)(h2:(Vu L φ)[Zes e]?=some r'):NetR { N with rooms:=(N.rooms.set e (r-a)).set (Zes e) (r'+a) } L (VD L a φ e) :=
 ⟨h.ends,by show(N.rooms.set e (r-a)).set (Zes e) (r'+a)=_;rw[h.rooms,Eu hd h1 h2],h.leav,h.laid,h.laid0,h.l1,h.l2,h.l3⟩
def El {L:Lay Nd}{a:Int}{φ:QP Nd}{wy:Qk}{i e:Nat}(h:wy[i]?=some e):Yw L a φ (wy.take (i+1))=VD L a (Yw L a φ (wy.take i)) e:=by
 have t:wy.take (i+1)=wy.take i++[e]:=by rw[JD,h];rfl
 rw[t];unfold Yw;rw[List.foldl_append];rfl
def Hc:Qp ["self","way","amount","edge"] ZaN (Qx WN):=by walk_at"p"
def Fd (T:Bl mg) (U:Tx K mg C gS gE) (D:Mf K C "push" "Net.push" WN ZaN):Zi P w K mg base C "push" ZaN 1 (spN K P w C R_push):=by
 refine D.evN Hc (fun M ts Ψ h=>by cases h;rfl) (fun f cdv A outer s H E v M ts Ψ hr h=>?_)
 cases h with
 |@mk L φ wy h hd ne hin hl =>
   refine⟨_,(Q5 (QW (i:=2) Hc.nd rfl Qa (Zy Lx (by rfl) T.min GY (Qo (YF (NX:=["self","way","amount","edge"]) (sc:=Qx WN) (N:=["edge","self"]) (f:=[none,some 0]) rfl (by decide +kernel) rfl rfl (WA (pv 1)) (fun _=>(Zw (i:=0) (show(["edge","self"]:Qh).Nodup by decide +kernel) rfl Qa)) (fun _=>VI) (fun _=>Wp) (fun _=>(QL QM (Zj (pv 1) rfl) (pv 0)))) Qs)))
 (Q7 (V7 PassesOwn.never rfl (WA (pv 1)) (Zw (i:=3) Hc.nd rfl Qa) (Q5 (Ga (Zj (pv 0) rfl) (pv 3) Gh (pv 2) PR WE)
 (Q7 (Ga (Zj (pv 0) rfl) (Zb Db (pv 3) Qz) Gh (pv 2) GU WE)))))),?_⟩
   show Q1 K _ [some _,some _,none,none] _
   walk_at"x"
   refine QH (ZV (d:=.int (amt L φ wy)) (AH 0 rfl rfl (LA (ns:=wy.map fun e=>(rmE L φ e).getD 0) (Qt.cast (EvO.fz (UL (xs:=wy) (enc:=fun(e:Nat)=>PyData.int (e:Int)) (h:=fun e=>.int ((rmE L φ e).getD 0)) ?ei (by omega) ?el)) (by rw[Ys];rfl)) rfl (fun z=>ne (List.map_eq_nil_iff.mp z)))) ?_)
   case ei=>exact UT (Qu rfl)
   case el =>
    intro e he c;refine⟨_,Z8,?_⟩
    walk_at"e"
    obtain⟨r,hr'⟩:=hin e he;refine Qt.cast (D0 (N:=M) (m:=r) U.net rfl (Qu rfl) ?_) (by rw[hr'];rfl);exact Y3 (by rw[Xt,h.rooms,Uv,hr'];rfl)
   walk_at"d"
   generalize amt L φ wy=a;refine VV (ds:=Ya wy) (fun i ρ'=>∃(N':Qy) (u3:Option OT),NetR N' L (Yw L a φ (wy.take i))/\ρ'=[some (.own v (QZ P w C N')),some (.fz (.list (Ya wy))),some (.fz (.int a)),u3]) (UT (Qu rfl)) ⟨M,_,h,rfl⟩ ?st ?fin
   case fin =>
    rintro _ ⟨N',u3,hN,rfl⟩
    unfold Ya at hN;rw[Xn,JE]at hN;exact⟨N',hN,rfl⟩
   case st =>
    rintro i d _ hd' ⟨N',u3,hN,rfl⟩
    have hi:i<wy.length:=by
     have:=(Xh.mp hd').1
     unfold Ya at this;simpa using this
    obtain rfl:d=.int (wy[i]:Int):=by
     unfold Ya at hd';simpa [hi] using hd'.symm
    obtain⟨r0,hr0⟩:=hin wy[i] (X5 hi);have el:=K1 hr0;rw[El (X6 hi)];generalize wy[i]=e at el;have em:Zes e<2*L.length:=by unfold Zes;split<;>omega
    have me:Zes e≠e:=by unfold Zes;split<;>omega
    obtain⟨r,h1,h2⟩:=My.NetR.rm hN el;obtain⟨r',h3,h4⟩:=My.NetR.rm hN em;refine⟨_,Z8,?_⟩
    walk_at"d"
    refine QH (Sx (N:=N') (f:=fun i j=>i-j) (k:=(e:Int)) (m:=r) (n:=a) U.net rfl (Qu rfl) (by omega) (by rw[XN];exact h1) (Qu rfl) ?_)
    walk_at"d"
    rw[XN];refine Sx (f:=fun i j=>i+j) (k:=(Zes e:Int)) (m:=r') (n:=a) U.net rfl (Qt.cast (ZB (g:=Builtin.bitXor) (Qu rfl) QC) (by rw[Hf])) (by omega) (by rw[XN];show(N'.rooms.set e (r-a))[Zes e]?=_;rw[Xr (Ne.symm me)];exact h3) (Qu rfl) ?_
    walk_at"d"
    rw[XN];exact⟨_,_,My.NetR.push hN hd h2 h4,rfl⟩
inductive R_fill:Qy->List OT->(Qy->Prop)->Prop
 |mk {N:Qy} {y:Yd} {G:Gv} {φ:QP Nd} (h:NetR N (Za y G) φ) (F:Flow y G φ) (l:(Za y G).length<400):R_fill N [.fz (QQ (nk .start)),.fz (QQ (nk .fin))] (fun N'=>∃φ' es,NetR N' (Za y G) φ'/\Flow y G φ'/\Nd.start∈QR es/\VH (Za y G) φ' es/\Nd.fin∉QR es)
def He:Qp ["self","start","end","edges"] Zah (Qx Ju):=by walk_at"p"
def LD (T:Bl mg) (U:Tx K mg C gS gE) (D:Mf K C "fill" "Net.fill" Ju Zah) (Xa5:Zi P w K mg base C "reached" ZaA 1 (QY K (R_reached P w C))) (Xbt:Zi P w K mg base C "push" ZaN 1 (spN K P w C R_push)) (Xbu:Zi P w K mg base C "way_to" Zav 1 (QY K (R_way P w C))) :
 Zi P w K mg base C "fill" Zah 2 (spN K P w C R_fill):=by
 refine D.evN He (fun M ts Ψ h=>by cases h;rfl) (fun f cdv A outer s H E v M ts Ψ hr h=>?_)
 cases h with
 |@mk y G φ h F l =>
   refine⟨_,(Q5 (QW (i:=3) He.nd rfl Qa (Yg Xa5 U.net hr (pv 0) (Qo (pv 1) Qs)))
 (Q7 (DB PassesOwn.never (Ug (MW (Ye hr) (pv 2) (pv 3))) (Q5 (Zv (Yg Xbt U.net hr (pv 0) (Qo (Yg Xbu U.net hr (pv 0) (Qo (pv 3) (Qo (pv 2) Qs))) Qs)))
 (Q7 (QW (i:=3) He.nd rfl Qa (Yg Xa5 U.net hr (pv 0) (Qo (pv 1) Qs)))))))),?_⟩
   show Q1 K _ [some _,some _,some _,none] _
   walk_at"x"
   have VN:∀{M:Qy} {φ:QP Nd} {u:Option OT} {E':XK},NetR M (Za y G) φ->Zq K (Vr C "reached" (QY K (R_reached P w C)) [] E' (Q8 0) (QF (Q8 1) QO)) [some (.own v (QZ P w C M)),some (.fz (QQ (nk .start))),some (.fz (QQ (nk .fin))),u] (fun r=>∃v' es,r=.own v' (Vo (kvG es))/\Tree (Za y G) φ .start es/\VH (Za y G) φ es):=fun h' =>
    Hn 0 rfl (fun r ⟨v',es,e,_⟩=>by subst e;exact F7 (Fj es)) (D4 S6 rfl (Qw (Qu rfl) Q9) (R_reached.mk h' l))
   refine QH (VX (VN h) (fun r hr'=>?_));obtain⟨v3,es,rfl,tr,cl⟩:=hr'
   walk_at"d"
   refine D3 (fun m ρ'=>∃(M:Qy) (φ:QP Nd) (es:Got Nd) (v3:V),NetR M (Za y G) φ/\Flow y G φ/\Tree (Za y G) φ .start es/\VH (Za y G) φ es/\m=(Q3 G.wa G.m-Vn (Za y G) φ .start).toNat /\
    ρ'=[some (.own v (QZ P w C M)),some (.fz (QQ (nk .start))),some (.fz (QQ (nk .fin))),some (.own v3 (Vo (kvG es)))]) _ ⟨M,φ,es,v3,h,F,tr,cl,rfl,rfl⟩ ?ws
   clear tr cl es v3 h F;rintro m _ ⟨M,φ,es,v3,h,F,tr,cl,rfl,rfl⟩;refine⟨_,Vf (Fw (k:=nk .fin) (Qu rfl) rfl),fun c=>?_,fun c=>?_⟩
   ·rw[UV]at c
    obtain⟨wy,q⟩:=tr.way .fin (X0 c);have wl:=NZ q
    have wne:wy≠[]:=fun z=>by
     have:=q.chain
     rw[z]at this;cases this
    refine Rf 3 rfl ?_
    walk_at"d"
    refine QH (WI (ΦA:=fun ts=>ts=[.fz (.list (Ya wy))]) Cq rfl (Lc (Φ:=fun r=>r=.ol (Ya wy)) (Hn 0 rfl (fun r e=>by subst e;exact Bi (fun d hd=>by
     obtain⟨e,_,rfl⟩:=XI.mp hd
     exact⟨_,rfl⟩)) (D4 LE rfl (Uk rfl (Qw (Qu rfl) Q9)) (R_way.mk h l q))) (fun r e=>⟨_,e,rfl⟩)) (fun ts hts=>?_))
    subst hts;refine⟨_,R_push.mk h (B7 y G) wne (fun e he=>let ⟨r,a,_⟩:=q.room e he;⟨r,a⟩) (by omega),fun N' hN=>?_⟩
    walk_at"d"
    obtain⟨m1,m2⟩:=DW (ns:=wy.map fun e=>(rmE (Za y G) φ e).getD 0) (fun z=>wne (List.map_eq_nil_iff.mp z))
    have a0:0<amt (Za y G) φ wy:=by
     obtain⟨e,he,ee⟩:=XI.mp m1;obtain⟨r,hr1,hr2⟩:=q.room e he;rw[hr1]at ee;show 0<VZ _;rw[<- ee];exact hr2
    obtain⟨F',nd⟩:=F.push (a:=amt (Za y G) φ wy) (by omega) q.chain q.nodup (fun e he=>by
     obtain⟨r,hr1,_⟩:=q.room e he;refine⟨r,hr1,?_⟩
     have:=m2 _ (XI.mpr ⟨e,he,rfl⟩)
     rw[hr1]at this;exact this)
    refine VX (VN hN) (fun r hr'=>?_);obtain⟨v4,es',rfl,tr',cl'⟩:=hr'
    walk_at"d"
    refine⟨_,?_,N',_,es',v4,hN,F',tr',cl',rfl,rfl⟩
    have:=F'.most
    rw[nd]at this ⊢;omega
   ·rw[UV]at c
    exact⟨M,⟨φ,es,h,F,tr.start,cl,G5 c⟩,rfl⟩
structure GOk (y:Yd)(g:Gs):Prop where
 ln:g.line<y.ls.length
 w0:0<=g.want
 m0:0<=g.most
def Tv {y:Yd}{g:Gs}(h:g.Ok y):GOk y g:=⟨h.ln,by have:=h.w1;omega,by have:=h.m1;omega⟩
def QE (gs:List Gs):Gv:={ m:=gs.length,ln:=fun k=>(gs.getD k default).line,wa:=fun k=>(gs.getD k default).want,mo:=fun k=>(gs.getD k default).most,th:=fun k t=>Wo (gs.getD k default) (t:Int) }
def Jr {gs:List Gs}{k:Nat}(h:k<gs.length):gs.getD k default=gs[k]:=by simp[List.getD,h]
def Cv (y:Yd)(G:Gv)(k:Nat):(ZU y G k).length<=1+y.T:=by
 unfold ZU;rw[XJ];have:∀n,((List.range n).flatMap fun t=>if G.th k t=true then [((.guest k,.line (G.ln k) t,G.mo k):Nd×Nd×Int)] else []).length<=n:=by
  intro n;induction n with
  |zero=>simp
  |succ n ih =>
    rw[X9,JI,Xm];have:([n].flatMap fun t=>if G.th k t=true then [((.guest k,.line (G.ln k) t,G.mo k):Nd×Nd×Int)] else []).length<=1:=by
     simp only[BT,List.flatMap_nil,XH];split<;>simp
    omega
 have:=this y.T
 omega
def CV {y:Yd}(h:1<=y.ls.length)(t:Nat):(Vx y t).length=y.ls.length:=by
 unfold Vx;rw[XJ];have:∀n,((List.range n).flatMap fun i=>[((.line (i+1) t,.line (Mir.upN y (i+1)) t,Zz y (i+1) t):Nd×Nd×Int)]).length=n:=by
  intro n;induction n with
  |zero=>simp
  |succ n ih=>rw[X9,JI,Xm,ih];simp
 rw[this];omega
theorem Gg {f:Nat->Lay Nd}{c:Nat}(h:∀k,(f k).length<=c):∀n,((List.range n).flatMap f).length<=n*c
 |0=>by simp
 |n+1=>by
   rw[X9,JI,Xm];have a:=Gg h n;have b:([n].flatMap f).length<=c:=by simpa using h n
   rw[Nat.add_mul];omega
def Gp (f:Nat->Lay Nd)(n:Nat):(List.range (n+1)).flatMap f=(List.range n).flatMap f++f n:=by rw[X9,JI];simp
def D7 {f:Nat->Lay Nd}{n:Nat}{x:Nd×Nd×Int}:x∈(List.range n).flatMap f ↔ ∃k,k<n/\x∈f k:=by
 rw[YA];simp only[XT]
def BI {y:Yd}(ok:y.Ok)(G:Gv){n:Nat}(h:n<=8):((List.range n).flatMap (ZU y G)).length<=72:=by
 have a:=Gg (f:=ZU y G) (c:=9) (fun k=>by have:=Cv y G k;have:=ok.t8;omega) n;omega
def DR {y:Yd}(ok:y.Ok){n:Nat}(h:n<=8):((List.range n).flatMap (Vx y)).length<=40:=by
 have a:=Gg (f:=Vx y) (c:=5) (fun k=>by rw[CV ok.l1 k];exact ok.l5) n;omega
inductive R_gnode:List OT->OT->Prop
 |mk {k:Nat}:R_gnode [.fz (.int (k:Int))] (.fz (QQ (nk (.guest k))))
def Ij:Qp ZaP ZaP (Qx HG):=by walk_at"p"
def Fk (T:Bl mg) (D:Df K mg "guest_node" HG ZaP):QD P w K mg base "guest_node" ZaP 1 (QN (K:=K) R_gnode):=by
 refine D.ev Ij (fun ts r h=>by cases h;rfl) (fun _ _ _ _ s H E ts r hr h=>?_)
 cases h with
 |@mk k =>
   refine⟨_,(Q7 (QT (YL (Qo VG (Qo (pv 0) Qs))))),?_⟩;show Q1 K _ [some _] _
   walk_at"x"
   exact Vj (YH (ds:=[.str "guest",.int (k:Int)]) (Zc VT (Zc (Qu rfl) ZC)) Wz) rfl
inductive R_lnode:List OT->OT->Prop
 |mk {l t:Nat}:R_lnode [.fz (.int (l:Int)),.fz (.int (t:Int))] (.fz (QQ (nk (.line l t))))
def ET:Qp Zaw Zaw (Qx Hd):=by walk_at"p"
def Fp (T:Bl mg) (D:Df K mg "line_node" Hd Zaw):QD P w K mg base "line_node" Zaw 1 (QN (K:=K) R_lnode):=by
 refine D.ev ET (fun ts r h=>by cases h;rfl) (fun _ _ _ _ s H E ts r hr h=>?_)
 cases h with
 |@mk l t =>
   refine⟨_,(Q7 (QT (YL (Qo VG (Qo (pv 0) (Qo (pv 1) Qs)))))),?_⟩;show Q1 K _ [some _,some _] _
   walk_at"x"
   exact Vj (YH (ds:=[.str "line",.int (l:Int),.int (t:Int)]) (Zc VT (Zc (Qu rfl) (Zc (Qu rfl) ZC))) (by show(3:Nat)<=1000;decide)) rfl
inductive R_lguest:Qy->List OT->(Qy->Prop)->Prop
 |mk {N:Qy} {y:Yd} {gs:List Gs} {k:Nat} (ok:y.Ok) (g8:gs.length<=8) (hk:k<gs.length) (h:NetR N ((List.range k).flatMap (ZU y (QE gs))) Yy) :
  R_lguest N [.fz (Zd y),.fz (.int (k:Int)),.fz (QK gs[k])] (fun N'=>NetR N' ((List.range (k+1)).flatMap (ZU y (QE gs))) Yy)
def SM:Qp ["net","yard","number","guest","turn"] Zad (Qx Hi):=by walk_at"p"
def Eg (T:Bl mg) (U:Tx K mg C gS gE) (D:Df K mg "lay_guest" Hi Zad) (Xa3:Zi P w K mg base C "lay" Zac 2 (spN K P w C R_lay)) (Xa1:QD P w K mg base "want_of" Zas 1 (QN (K:=K) R_want)) (XaZ:QD P w K mg base "guest_node" ZaP 1 (QN (K:=K) R_gnode))
 (XaT:QD P w K mg base "turns_of" Zaz 1 (QN (K:=K) R_turns)) (Xa9:QD P w K mg base "is_there" Zan 1 (QN (K:=K) R_there)) (Xba:QD P w K mg base "most_of" Zas 1 (QN (K:=K) R_most)) (XaV:QD P w K mg base "line_node" Zaw 1 (QN (K:=K) R_lnode)) (Xa0:QD P w K mg base "line_of" Zas 1 (QN (K:=K) R_lineof)) :
 QD P w K mg base "lay_guest" Zad 3 (spN K P w C R_lguest):=by
 refine D.evN SM (fun M ts Ψ h=>by cases h;rfl) (fun f cdv A outer s H E v M ts Ψ hr h=>?_)
 cases h with
 |@mk y gs k ok g8 hk h =>
   refine⟨_,(Q5 (Zv (Yg Xa3 U.net hr (pv 0) (Qo (Y4 (v:=.ref _) rfl U.mSTART rfl) (Qo (QG XaZ hr (Qo (pv 2) Qs)) (Qo (QG Xa1 hr (Qo (pv 3) Qs)) Qs)))))
 (Q7 (V7 PassesOwn.never rfl (VW rfl T.range (Qo (QG XaT hr (Qo (pv 1) Qs)) Qs)) (Zw (i:=4) SM.nd rfl Qa) (Q7 (Z2 (V1 (QG Xa9 hr (Qo (pv 3) (Qo (pv 4) Qs)))) (Q7 (Zv (Yg Xa3 U.net hr (pv 0) (Qo (QG XaZ hr (Qo (pv 2) Qs)) (Qo (QG XaV hr (Qo (QG Xa0 hr (Qo (pv 3) Qs)) (Qo (pv 4) Qs))) (Qo (QG Xba hr (Qo (pv 3) Qs)) Qs)))))) Z3))))),?_⟩
   show Q1 K _ [some _,some _,some _,some _,none] _
   walk_at"x"
   have t8:=ok.t8;have gl:=BI ok (QE gs) (n:=k) (by omega);have gk:=Jr hk;have ew:(QE gs).wa k=gs[k].want:=by show(gs.getD k default).want=_;rw[gk]
   have glb:∀x∈(List.range k).flatMap (ZU y (QE gs)),∃j,j<k/\x∈ZU y (QE gs) j:=fun x hx=>D7.mp hx;refine QH (WI (ΦA:=fun ts=>ts=[.fz (QQ (nk .start)),.fz (QQ (nk (.guest k))),.fz (.int gs[k].want)]) Bo rfl (Wl (Qw (DJ U.aS) (Qw (Ze (Qw (Qu rfl) Q9) R_gnode.mk) (Qw (Ze (Qw (Qu rfl) Q9) R_want.mk) Q9))) rfl) (fun ts hts=>?_));subst hts;refine⟨_,R_lay.mk h ?n0 (by omega),fun N1 hN1=>?_⟩
   case n0 =>
    intro hm;obtain⟨x,hx,ex⟩:=XI.mp hm;obtain⟨j,hj,hx⟩:=glb x hx;injection ex with e1 e2
    rcases Y6.mp hx with rfl|⟨t,_,_,rfl⟩
    ·injection e2 with e2
     omega
    ·cases e1
   walk_at"d"
   refine VV (ds:=ZS 0 y.T) (fun i ρ'=>∃(N':Qy) (u4:Option OT),NetR N' ((List.range k).flatMap (ZU y (QE gs))++((.start,.guest k,(QE gs).wa k)::(List.range i).flatMap fun t=>if (QE gs).th k t=true then [(.guest k,.line ((QE gs).ln k) t,(QE gs).mo k)] else [])) Yy /\
    ρ'=[some (.own v (QZ P w C N')),some (.fz (Zd y)),some (.fz (.int (k:Int))),some (.fz (QK gs[k])),u4]) ?ei ⟨N1,none,by rw[ew];exact hN1,rfl⟩ ?st ?fin
   case ei=>exact EvI.cast (Yh (Qw (Ze (Qw (Qu rfl) Q9) R_turns.mk) Q9) (by rw[z62];omega) (by rw[z62];omega)) (WD rfl (by omega))
   case fin =>
    rintro _ ⟨N',u4,hN,rfl⟩
    rw[Wr]at hN;refine⟨N',?_,rfl⟩;rw[Gp];exact hN
   case st =>
    rintro t d _ hd ⟨N',u4,hN,rfl⟩
    obtain⟨ht,rfl⟩:=YS hd;rw[Y9];refine⟨_,Z8,?_⟩
    walk_at"d"
    have et:Wo gs[k] (t:Int)=(QE gs).th k t:=by show _=Wo (gs.getD k default) (t:Int);rw[gk]
    refine Z7 (b:=(QE gs).th k t) (Zh.cast (Vf (Ze (Qw (Qu rfl) (Qw (Qu rfl) Q9)) R_there.mk)) et) (fun c=>?_) (fun c=>ZD ?_)
    ·refine WI (ΦA:=fun ts=>ts=[.fz (QQ (nk (.guest k))),.fz (QQ (nk (.line gs[k].line t))),.fz (.int gs[k].most)]) Bo rfl (Wl (Qw (Ze (Qw (Qu rfl) Q9) R_gnode.mk) (Qw (Ze (Qw (Ze (Qw (Qu rfl) Q9) R_lineof.mk) (Qw (Qu rfl) Q9)) R_lnode.mk) (Qw (Ze (Qw (Qu rfl) Q9) R_most.mk) Q9))) rfl) (fun ts hts=>?_)
     subst hts;refine⟨_,R_lay.mk hN ?n1 ?l1,fun N2 hN2=>?_⟩
     case n1 =>
      intro hm;obtain⟨x,hx,ex⟩:=XI.mp hm;injection ex with e1 e2
      rcases Xx.mp hx with hx|hx
      ·obtain⟨j,hj,hx⟩:=glb x hx
       rcases Y6.mp hx with rfl|⟨t',_,_,rfl⟩
       ·cases e1
       ·injection e1 with e1
        omega
      ·rcases Xf.mp hx with rfl|hx
       ·cases e1
       ·obtain⟨t',ht',hx⟩:=YA.mp hx
        split at hx
        ·rw[Xg.mp hx]at e2
         injection e2 with _ e2
         have:=XT.mp ht'
         omega
        ·cases hx
     case l1 =>
      rw[Xm];have:(((.start,.guest k,(QE gs).wa k):Nd×Nd×Int)::(List.range t).flatMap fun t=>if (QE gs).th k t=true then [((.guest k,.line ((QE gs).ln k) t,(QE gs).mo k):Nd×Nd×Int)] else []).length<=1+t*1:=by
       rw[XJ];have:=Gg (f:=fun t=>if (QE gs).th k t=true then [((.guest k,.line ((QE gs).ln k) t,(QE gs).mo k):Nd×Nd×Int)] else []) (c:=1) (fun t=>by split<;>simp) t;omega
      omega
     walk_at"d"
     refine⟨N2,_,?_,rfl⟩;rw[Gp,Xe c];have e1:(QE gs).ln k=gs[k].line:=by show(gs.getD k default).line=_;rw[gk]
     have e2:(QE gs).mo k=gs[k].most:=by show(gs.getD k default).most=_;rw[gk]
     rw[<- e1,<- e2,G3]at hN2;exact hN2
    ·refine⟨N',_,?_,rfl⟩
     rw[Gp,Xc (by rw[c];decide),XH];exact hN
inductive R_lturn:Qy->List OT->(Qy->Prop)->Prop
 |mk {N:Qy} {y:Yd} {G:Gv} {t:Nat} (ok:y.Ok) (g8:G.m<=8) (ht:t<y.T) (h:NetR N ((List.range G.m).flatMap (ZU y G)++(List.range t).flatMap (Vx y)) Yy) :
  R_lturn N [.fz (Zd y),.fz (.int (t:Int))] (fun N'=>NetR N' ((List.range G.m).flatMap (ZU y G)++(List.range (t+1)).flatMap (Vx y)) Yy)
def SR:Qp ["net","yard","turn","line"] ZaC (Qx Hu):=by walk_at"p"
def FI (T:Bl mg) (U:Tx K mg C gS gE) (D:Df K mg "lay_turn" Hu ZaC) (Xa3:Zi P w K mg base C "lay" Zac 2 (spN K P w C R_lay)) (XaY:QD P w K mg base "bound_at" Zaq 1 (QN (K:=K) R_bound)) (XaV:QD P w K mg base "line_node" Zaw 1 (QN (K:=K) R_lnode))
 (XaX:QD P w K mg base "line_count" Zaz 1 (QN (K:=K) R_count)) (Xbb:QD P w K mg base "above_of" ZaE 1 (QN (K:=K) R_above)):QD P w K mg base "lay_turn" ZaC 3 (spN K P w C R_lturn):=by
 refine D.evN SR (fun M ts Ψ h=>by cases h;rfl) (fun f cdv A outer s H E v M ts Ψ hr h=>?_)
 cases h with
 |@mk y G t ok g8 ht h =>
   refine⟨_,(Q5 (Zv (Yg Xa3 U.net hr (pv 0) (Qo (QG XaV hr (Qo Qz (Qo (pv 2) Qs))) (Qo (Y4 (v:=.ref _) rfl U.mEND rfl) (Qo (QG XaY hr (Qo (pv 1) (Qo Qz (Qo (pv 2) Qs)))) Qs)))))
 (Q7 (V7 PassesOwn.never rfl (AU rfl T.range (Qo Qz (Qo (QG XaX hr (Qo (pv 1) Qs)) Qs))) (Zw (i:=3) SR.nd rfl Qa) (Q7 (Zv (Yg Xa3 U.net hr (pv 0) (Qo (QG XaV hr (Qo (pv 3) (Qo (pv 2) Qs))) (Qo (QG XaV hr (Qo (QG Xbb hr (Qo (pv 1) (Qo (pv 3) Qs))) (Qo (pv 2) Qs))) (Qo (QG XaY hr (Qo (pv 1) (Qo (pv 3) (Qo (pv 2) Qs)))) Qs))))))))),?_⟩
   show Q1 K _ [some _,some _,some _,none] _
   walk_at"x"
   have t8:=ok.t8;have l1:=ok.l1;have l5:=ok.l5;have gl:=BI ok G g8;have tl:=DR ok (n:=t) (by omega)
   have glb:∀x∈(List.range G.m).flatMap (ZU y G)++(List.range t).flatMap (Vx y),(∃j,x∈ZU y G j)\/∃t',t'<t/\x∈Vx y t':=fun x hx=>by
    rcases Xx.mp hx with hx|hx
    ·obtain⟨j,_,hx⟩:=D7.mp hx
     exact .inl ⟨j,hx⟩
    ·obtain⟨j,hj,hx⟩:=D7.mp hx
     exact .inr ⟨j,hj,hx⟩
   refine QH (WI (ΦA:=fun ts=>ts=[.fz (QQ (nk (.line 0 t))),.fz (QQ (nk .fin)),.fz (.int (Zz y 0 t))]) Bo rfl (Wl (Qw (Ze (Qw QC (Qw (Qu rfl) Q9)) (R_lnode.mk (l:=0))) (Qw (Nf U.aE) (Qw (Ze (Qw (Qu rfl) (Qw QC (Qw (Qu rfl) Q9))) (R_bound.mk (k:=0) (t:=(t:Int)) ok (by decide) (by omega) (by omega) (by omega))) Q9))) ?e0) (fun ts hts=>?_))
   case e0=>rw[XN];rfl
   subst hts;refine⟨_,R_lay.mk h ?n0 (by rw[Xm];omega),fun N1 hN1=>?_⟩
   case n0 =>
    intro hm;obtain⟨x,hx,ex⟩:=XI.mp hm;injection ex with e1 e2
    rcases glb x hx with ⟨j,hx⟩|⟨t',ht',hx⟩
    ·rcases Y6.mp hx with rfl|⟨u,_,_,rfl⟩<;>cases e1
    ·rcases Ws.mp hx with rfl|⟨i,_,rfl⟩
     ·injection e1 with _ e1
      omega
     ·cases e2
   walk_at"d"
   refine VV (ds:=ZS 1 (y.ls.length-1)) (fun i ρ'=>∃(N':Qy) (u3:Option OT),NetR N' (((List.range G.m).flatMap (ZU y G)++(List.range t).flatMap (Vx y))++((.line 0 t,.fin,Zz y 0 t)::(List.range i).flatMap fun i=>[(.line (i+1) t,.line (Mir.upN y (i+1)) t,Zz y (i+1) t)])) Yy /\
    ρ'=[some (.own v (QZ P w C N')),some (.fz (Zd y)),some (.fz (.int (t:Int))),u3]) ?ei ⟨N1,none,by simpa using hN1,rfl⟩ ?st ?fin
   case ei=>exact EvI.cast (NK (Qw QC (Qw (Ze (Qw (Qu rfl) Q9) R_count.mk) Q9)) (by rw[z62];omega)) (WD rfl (by omega))
   case fin =>
    rintro _ ⟨N',u3,hN,rfl⟩
    rw[Wr]at hN;refine⟨N',?_,rfl⟩;rw[Gp,<- G3];exact hN
   case st =>
    rintro i d _ hd ⟨N',u3,hN,rfl⟩
    obtain⟨hi,rfl⟩:=YS hd;have ei:(1:Int)+(i:Int)=((i+1:Nat):Int):=by omega
    rw[ei];refine⟨_,Z8,?_⟩
    walk_at"d"
    refine WI (ΦA:=fun ts=>ts=[.fz (QQ (nk (.line (i+1) t))),.fz (QQ (nk (.line (Mir.upN y (i+1)) t))),.fz (.int (Zz y (i+1) t))]) Bo rfl (Wl (Qw (Ze (Qw (Qu rfl) (Qw (Qu rfl) Q9)) (R_lnode.mk (l:=i+1))) (Qw (Ze (Qw (Ze (Qw (Qu rfl) (Qw (Qu rfl) Q9)) (R_above.mk (k:=((i+1:Nat):Int)) ok (by omega) (by omega))) (Qw (Qu rfl) Q9)) (R_lnode.mk (l:=upN y (((i+1:Nat):Int)).toNat))) (Qw (Ze (Qw (Qu rfl) (Qw (Qu rfl) (Qw (Qu rfl) Q9))) (R_bound.mk (k:=((i+1:Nat):Int)) (t:=(t:Int)) ok (by omega) (by omega) (by omega) (by omega))) Q9))) ?e1) (fun ts hts=>?_)
    case e1=>rw[XN,XN];rfl
    subst hts;refine⟨_,R_lay.mk hN ?n1 ?l1,fun N2 hN2=>?_⟩
    case n1 =>
     intro hm;obtain⟨x,hx,ex⟩:=XI.mp hm;injection ex with e1 e2
     rcases Xx.mp hx with hx|hx
     ·rcases glb x hx with ⟨j,hx⟩|⟨t',ht',hx⟩
      ·rcases Y6.mp hx with rfl|⟨u,_,_,rfl⟩<;>cases e1
      ·rcases Ws.mp hx with rfl|⟨i',_,rfl⟩
       ·cases e2
       ·injection e1 with _ e1
        omega
     ·rcases Xf.mp hx with rfl|hx
      ·cases e2
      ·obtain⟨i',hi',hx⟩:=YA.mp hx
       rw[Xg.mp hx]at e1;injection e1 with e1 _
       have:=XT.mp hi'
       omega
    case l1 =>
     rw[Xm,Xm,XJ];have:=Gg (f:=fun i=>[((.line (i+1) t,.line (Mir.upN y (i+1)) t,Zz y (i+1) t):Nd×Nd×Int)]) (c:=1) (fun i=>by simp) i;omega
    walk_at"d"
    refine⟨N2,_,?_,rfl⟩;rw[Gp];rw[G3]at hN2;exact hN2
def JN (y:Yd)(G:Gv)(φ:QP Nd):Prop:=Flow y G φ/\∃es:Got Nd,Nd.start∈QR es/\VH (Za y G) φ es/\Nd.fin∉QR es
inductive R_filled (P:Program)(w:World)(C:Addr):List OT->(OT->Prop)->Prop
 |mk {y:Yd} {gs:List Gs} (ok:y.Ok) (hg:∀g∈gs,GOk y g) (g8:gs.length<=8):R_filled P w C [.fz (Zd y),.fz (.list (gs.map QK))] (fun r=>∃v N φ,r=.own v (QZ P w C N)/\NetR N (Za y (QE gs)) φ/\JN y (QE gs) φ)
def K0 {y:Yd}(ok:y.Ok){l t:Nat}(hl:l<y.ls.length)(ht:t<y.T):0<=Zz y l t:=by
 rw[S9 hl];have h1:=R6 ok hl;have hm:VM y l∈y.ls:=by simp[VM,hl]
 have:(VM y l).bs.getD t 0=(VM y l).bs[t]'(by omega):=by simp[List.getD,show t<(VM y l).bs.length by omega]
 rw[this];exact(ok.bb _ hm _ (X5 _)).1
def LX {y:Yd}(ok:y.Ok){gs:List Gs}(hg:∀g∈gs,GOk y g):∀x∈Za y (QE gs),0<=x.2.2:=fun x hx=>by
 have l1:=ok.l1
 rcases Us.mp hx with ⟨k,hk,hx⟩|⟨t,ht,hx⟩
 ·have gk:GOk y (gs.getD k default):=by rw[Jr hk];exact hg _ (X5 _)
  rcases Y6.mp hx with rfl|⟨t,_,_,rfl⟩
  ·exact gk.w0
  ·exact gk.m0
 ·rcases Ws.mp hx with rfl|⟨i,hi,rfl⟩
  ·exact K0 ok (by omega) ht
  ·exact K0 ok (by omega) ht
def Gx:Qp ["yard","guests","net","number","guest","turn"] Zab (Qx HH):=by walk_at"p"
def C2 (T:Bl mg) (U:Tx K mg C gS gE) (D:Df K mg "filled_net" HH Zab) (Xbv:Mq P w K mg base "Net" C 1) (Xbw:QD P w K mg base "lay_guest" Zad 3 (spN K P w C R_lguest)) (XaT:QD P w K mg base "turns_of" Zaz 1 (QN (K:=K) R_turns))
 (Xbx:QD P w K mg base "lay_turn" ZaC 3 (spN K P w C R_lturn)) (Xby:Zi P w K mg base C "fill" Zah 2 (spN K P w C R_fill)):QD P w K mg base "filled_net" Zab 4 (QY K (R_filled P w C)):=by
 refine D.evD Gx (fun ts Φ h=>by cases h;rfl) (fun _ _ _ _ s H E ts Φ hr h=>?_)
 cases h with
 |@mk y gs ok hg g8 =>
   refine⟨_,(Q5 (QW (i:=2) Gx.nd rfl Qa (TD Xbv hr))
 (Q5 (V7 PassesOwn.never rfl (BM rfl T.enumerate (Qo (pv 1) Qs)) (UQ (n:=2) rfl (YU (Zw (i:=3) Gx.nd rfl Qa) (YU (Zw (i:=4) Gx.nd rfl Qa) UW))) (Q7 (Zv (QG Xbw hr (Qo (pv 2) (Qo (pv 0) (Qo (pv 3) (Qo (pv 4) Qs))))))))
 (Q5 (V7 PassesOwn.never rfl (VW rfl T.range (Qo (QG XaT hr (Qo (pv 0) Qs)) Qs)) (Zw (i:=5) Gx.nd rfl Qa) (Q7 (Zv (QG Xbx hr (Qo (pv 2) (Qo (pv 0) (Qo (pv 5) Qs)))))))
 (Q5 (Zv (Yg Xby U.net hr (pv 2) (Qo (Y4 (v:=.ref _) rfl U.mSTART rfl) (Qo (Y4 (v:=.ref _) rfl U.mEND rfl) Qs))))
 (Q7 (QT (pv 2))))))),?_⟩
   show Q1 K _ [some _,some _,none,none,none,none] _
   walk_at"x"
   have t8:=ok.t8;refine QH (UY L4 (fun v=>?_))
   walk_at"d"
   refine QH (VV (ds:=Jg (gs.map QK)) (fun i ρ'=>∃(N':Qy) (u3 u4:Option OT),NetR N' ((List.range i).flatMap (ZU y (QE gs))) Yy/\ρ'=[some (.fz (Zd y)),some (.fz (.list (gs.map QK))),some (.own v (QZ P w C N')),u3,u4,none]) (UR (Qw (Qu rfl) Q9)) ⟨_,none,none,PF _,rfl⟩ ?st ?fin)
   case st =>
    rintro i d _ hd ⟨N',u3,u4,hN,rfl⟩
    obtain⟨a,ha,rfl⟩:=BB hd
    have hi:i<gs.length:=by
     have:=(Xh.mp ha).1
     simpa using this
    obtain rfl:a=QK gs[i]:=by simpa [hi] using ha.symm
    refine⟨_,WZ (ds:=[.int (i:Int),QK gs[i]]) (Y2 Z8 (Y2 Z8 Ud)) rfl,?_⟩
    walk_at"d"
    refine R3 (ΦA:=fun ts=>ts=[.fz (Zd y),.fz (.int (i:Int)),.fz (QK gs[i])]) rfl (Wl (Qw (Qu rfl) (Qw (Qu rfl) (Qw (Qu rfl) Q9))) rfl) (fun ts hts=>?_);subst hts;refine⟨_,R_lguest.mk ok g8 hi hN,fun N2 hN2=>?_⟩
    walk_at"d"
    exact⟨N2,_,_,hN2,rfl⟩
   case fin =>
    rintro _ ⟨N1,u3,u4,hN1,rfl⟩
    rw[BC,Xn]at hN1;refine QH (VV (ds:=ZS 0 y.T) (fun i ρ'=>∃(N':Qy) (u5:Option OT),NetR N' ((List.range (QE gs).m).flatMap (ZU y (QE gs))++(List.range i).flatMap (Vx y)) Yy/\ρ'=[some (.fz (Zd y)),some (.fz (.list (gs.map QK))),some (.own v (QZ P w C N')),u3,u4,u5]) ?ei2 ⟨N1,none,by rw[show(List.range 0).flatMap (Vx y)=[] from rfl,XH];exact hN1,rfl⟩ ?st2 ?fin2)
    case ei2=>exact EvI.cast (Yh (Qw (Ze (Qw (Qu rfl) Q9) R_turns.mk) Q9) (by rw[z62];omega) (by rw[z62];omega)) (WD rfl (by omega))
    case st2 =>
     rintro t d _ hd ⟨N',u5,hN,rfl⟩
     obtain⟨ht,rfl⟩:=YS hd;rw[Y9];refine⟨_,Z8,?_⟩
     walk_at"d"
     refine R3 (ΦA:=fun ts=>ts=[.fz (Zd y),.fz (.int (t:Int))]) rfl (Wl (Qw (Qu rfl) (Qw (Qu rfl) Q9)) rfl) (fun ts hts=>?_);subst hts;refine⟨_,R_lturn.mk ok g8 ht hN,fun N2 hN2=>?_⟩
     walk_at"d"
     exact⟨N2,_,hN2,rfl⟩
    case fin2 =>
     rintro _ ⟨N',u5,hN,rfl⟩
     rw[Wr]at hN;have hN:NetR N' (Za y (QE gs)) Yy:=hN
     have ll:(Za y (QE gs)).length<400:=by
      unfold Za;rw[Xm];have a:=BI ok (QE gs) (n:=(QE gs).m) g8;have b:=DR ok t8;omega
     refine QH (WI (ΦA:=fun ts=>ts=[.fz (QQ (nk .start)),.fz (QQ (nk .fin))]) Fn rfl (Wl (Qw (DJ U.aS) (Qw (Nf U.aE) Q9)) rfl) (fun ts hts=>?_));subst hts;refine⟨_,R_fill.mk hN (PK (LX ok hg)) ll,fun N2 hN2=>?_⟩;obtain⟨φ',es,h1,h2,h3,h4,h5⟩:=hN2
     walk_at"d"
     exact Dv rfl ⟨v,N2,φ',rfl,h1,h2,es,h3,h4,h5⟩
def YQ (y:Yd)(G:Gv)(φ:QP Nd):List (Ql):=(List.range G.m).map fun k=>(List.range y.T).map fun t=>QV G φ t k
def Ea {y:Yd}{G:Gv}{φ:QP Nd}{k t:Nat}(hk:k<G.m)(ht:t<y.T):UN (Za y G) φ (.guest k) (.line (G.ln k) t)=QV G φ t k:=by
 unfold UN QV;by_cases c:G.th k t=true
 ·rw[Xe c,Xe (XI.mpr ⟨_,Bd hk ht c,rfl⟩)]
 ·rw[Xc c,Xc (fun hm=>?_)]
  obtain⟨x,hx,ex⟩:=XI.mp hm;injection ex with e1 e2
  rcases Us.mp hx with ⟨j,_,hx⟩|⟨t',_,hx⟩
  ·rcases Y6.mp hx with rfl|⟨t',_,c',rfl⟩
   ·cases e1
   ·injection e1 with e1
    injection e2 with _ e2;subst e1 e2;exact c c'
  ·rcases Ws.mp hx with rfl|⟨i,_,rfl⟩<;>cases e1
inductive R_takes (P:Program)(w:World)(C:Addr):List OT->OT->Prop
 |mk {N:Qy} {y:Yd} {gs:List Gs} {φ:QP Nd} {k:Nat} (ok:y.Ok) (h:NetR N (Za y (QE gs)) φ) (hk:k<gs.length):R_takes P w C [.zow (ZM P w C N),.fz (Zd y),.fz (.int (k:Int)),.fz (QK gs[k])] (.ol ((List.range y.T).map fun t=>PyData.int (QV (QE gs) φ t k)))
def EY:Qp Zad Zad (Qx BF):=by walk_at"p"
def CS (T:Bl mg) (U:Tx K mg C gS gE) (D:Df K mg "takes_by" BF Zad) (XaT:QD P w K mg base "turns_of" Zaz 1 (QN (K:=K) R_turns)) (Xbz:Zi P w K mg base C "flow" Zah 1 (QY K (R_flow P w C))) (XaV:QD P w K mg base "line_node" Zaw 1 (QN (K:=K) R_lnode)) (Xa0:QD P w K mg base "line_of" Zas 1 (QN (K:=K) R_lineof)) (XaZ:QD P w K mg base "guest_node" ZaP 1 (QN (K:=K) R_gnode)) :
 QD P w K mg base "takes_by" Zad 2 (QN (K:=K) (R_takes P w C)):=by
 refine D.ev EY (fun ts r h=>by cases h;rfl) (fun _ _ _ _ s H E ts r hr h=>?_)
 cases h with
 |@mk N y gs φ k ok h hk =>
   refine⟨_,(Q7 (QT (YF (NX:=Zad) (sc:=Qx BF) (N:=["turn","net","number","guest"]) (f:=[none,some 0,some 2,some 3]) rfl (by decide +kernel) rfl rfl (VW rfl T.range (Qo (QG XaT hr (Qo (pv 1) Qs)) Qs)) (fun _=>(Zw (i:=0) (show(["turn","net","number","guest"]:Qh).Nodup by decide +kernel) rfl Qa)) (fun _=>VI) (fun _=>Wp) (fun _=>(Yg Xbz U.net hr (pv 1) (Qo (QG XaZ hr (Qo (pv 2) Qs)) (Qo (QG XaV hr (Qo (QG Xa0 hr (Qo (pv 3) Qs)) (Qo (pv 0) Qs))) Qs))))))),?_⟩;show Q1 K _ [some _,some _,some _,some _] _
   walk_at"x"
   have t8:=ok.t8;refine W6 (MD (lo:=0) (n:=y.T) (h:=fun t=>PyData.int (QV (QE gs) φ t k)) ?ei (by omega) ?el) rfl
   case ei=>exact EvI.cast (Yh (Qw (Ze (Qw (Qu rfl) Q9) R_turns.mk) Q9) (by rw[z62];omega) (by rw[z62];omega)) (WD rfl (by omega))
   case el =>
    intro t ht c;refine⟨_,Z8,?_⟩
    walk_at"e"
    rw[Y9];have eL:(QE gs).ln k=gs[k].line:=by show(gs.getD k default).line=_;rw[Jr hk]
    have ef:=Ea (y:=y) (G:=QE gs) (φ:=φ) (k:=k) hk ht;rw[eL]at ef;exact Qt.cast (EvO.e (Zq.o (D4 FC rfl (Qw (Ze (Qw (Qu rfl) Q9) R_gnode.mk) (Qw (Ze (Qw (Ze (Qw (Qu rfl) Q9) R_lineof.mk) (Qw (Qu rfl) Q9)) R_lnode.mk) Q9)) (R_flow.mk (p:=.guest k) (q:=.line gs[k].line t) h)))) (by rw[ef])
inductive R_great:List OT->(OT->Prop)->Prop
 |mk {y:Yd} {gs:List Gs} (ok:y.Ok) (hg:∀g∈gs,GOk y g) (g8:gs.length<=8):R_great [.fz (Zd y),.fz (.list (gs.map QK))] (fun r=>∃φ,JN y (QE gs) φ/\r=.oll ((YQ y (QE gs) φ).map fun row=>row.map PyData.int))
def Pa:Qp ["yard","guests","net"] Zab (Qx BR):=by walk_at"p"
def FG (T:Bl mg) (U:Tx K mg C gS gE) (D:Df K mg "greatest_filling" BR Zab) (Xbc:QD P w K mg base "filled_net" Zab 4 (QY K (R_filled P w C))) (XbA:QD P w K mg base "takes_by" Zad 2 (QN (K:=K) (R_takes P w C))):QD P w K mg base "greatest_filling" Zab 5 (QY K R_great):=by
 refine D.evD Pa (fun ts Φ h=>by cases h;rfl) (fun _ _ _ _ s H E ts Φ hr h=>?_)
 cases h with
 |@mk y gs ok hg g8 =>
   refine⟨_,(Q5 (QW (i:=2) Pa.nd rfl (Or.inr rfl) (QG Xbc hr (Qo (pv 0) (Qo (pv 1) Qs))))
 (Q7 (QT (YF (NX:=["yard","guests","net"]) (sc:=Qx BR) (N:=ZaF) (f:=[none,none,some 2,some 0]) rfl (by decide +kernel) rfl rfl (BM rfl T.enumerate (Qo (pv 1) Qs)) (fun _=>(UQ (n:=2) rfl (YU (Zw (i:=0) (show(ZaF:Qh).Nodup by decide +kernel) rfl Qa) (YU (Zw (i:=1) (show(ZaF:Qh).Nodup by decide +kernel) rfl Qa) UW)))) (fun _=>(Nq (n:=2) (B0 VI (B0 VI NA)))) (fun _=>Wp) (fun _=>(QG XbA hr (Qo (pv 2) (Qo (pv 3) (Qo (pv 0) (Qo (pv 1) Qs)))))))))),?_⟩
   show Q1 K _ [some _,some _,none] _
   walk_at"x"
   refine QH (VX (Wq (Qw (Qu rfl) (Qw (Qu rfl) Q9)) (R_filled.mk ok hg g8)) (fun r hr'=>?_));obtain⟨v,N,φ,rfl,hN,full⟩:=hr'
   walk_at"d"
   refine Fi 2 rfl ?_
   walk_at"d"
   refine W6 (r:=.oll ((YQ y (QE gs) φ).map fun row=>row.map PyData.int)) (EvO.cast (Tc (xs:=gs.zipIdx) (enc:=fun p=>PyData.tuple [.int (p.2:Int),QK p.1]) (h:=fun p=>(List.range y.T).map fun t=>PyData.int (QV (QE gs) φ t p.2)) ?ei (by simp;omega) ?el) ?eq) ⟨φ,full,rfl⟩
   case ei =>
    refine EvI.cast (UR (Qw (Qu rfl) Q9)) ?_;unfold Jg;rw[List.zipIdx_map,Ys];rfl
   case eq =>
    congr 1
    unfold YQ;rw[Ys];have:(QE gs).m=gs.length:=rfl;rw[this];apply List.ext_getElem?;intro i;by_cases hi:i<gs.length
    ·simp[hi,Ys,Function.comp_def]
    ·simp[hi]
   case el =>
    intro p hp c;obtain⟨hk,e2⟩:∃h:p.2<gs.length,p.1=gs[p.2]:=by
     have:=List.mem_zipIdx hp
     simp at this
     exact⟨this.1,this.2⟩
    obtain⟨g,k⟩:=p
    simp only at hk e2
    subst e2;refine⟨_,WZ (ds:=[.int (k:Int),QK gs[k]]) (Y2 Z8 (Y2 Z8 Ud)) rfl,?_⟩
    walk_at"e"
    exact GX (Uk rfl (Qw (Qu rfl) (Qw (Qu rfl) (Qw (Qu rfl) Q9)))) (R_takes.mk ok hN hk)
def Io:Qp Zab Zab (Qx HL):=by walk_at"p"
def Fb (T:Bl mg) (D:Df K mg "best_filling" HL Zab) (XbB:QD P w K mg base "greatest_filling" Zab 5 (QY K R_great)):QD P w K mg base "best_filling" Zab 6 (QY K R_great):=by
 refine D.evD Io (fun ts Φ h=>by cases h;rfl) (fun _ _ _ _ s H E ts Φ hr h=>?_);have h0:=h
 cases h with
 |@mk y gs ok hg g8 =>
   refine⟨_,(Q7 (QT (QG XbB hr (Qo (pv 0) (Qo (pv 1) Qs))))),?_⟩;show Q1 K _ [some _,some _] _
   walk_at"x"
   exact Dw (Wq (Qw (Qu rfl) (Qw (Qu rfl) Q9)) h0) (fun r hr'=>hr')
def Vl (y:Yd)(G:Gv)(S:Qm):Int:=Q3 (Zk S G.wa) G.m-Q3 (fun t=>passes y (fun l=>Zz y l t) (Wd G S t) 0) y.T
def M1 (y:Yd)(G:Gv)(φ:QP Nd):Int:=Q3 (fun k=>G.wa k-Q3 (fun t=>QV G φ t k) y.T) G.m
def A6 {y:Yd}{G:Gv}{φ:QP Nd}(F:Flow y G φ)(ok:y.Ok)(hln:∀k,k<G.m->G.ln k<y.ls.length)(S:Qm):Vl y G S<=M1 y G φ:=by
 have nn:∀k,k<G.m->0<=G.wa k-Q3 (fun t=>QV G φ t k) y.T:=fun k hk=>by
  rw[F.total hk];have:=F.want hk;omega
 have h1:Q3 (Zk S fun k=>G.wa k-Q3 (fun t=>QV G φ t k) y.T) G.m<=M1 y G φ:=YV fun k hk=>DI (nn k hk)
 have h2:Q3 (Zk S fun k=>G.wa k-Q3 (fun t=>QV G φ t k) y.T) G.m=Q3 (Zk S G.wa) G.m-Q3 (Zk S fun k=>Q3 (fun t=>QV G φ t k) y.T) G.m:=by
  rw[<- DF];refine Zn fun k _=>?_;unfold Zk;dsimp only;split<;>omega
 have h3:Q3 (fun t=>Q3 (Zk S (QV G φ t)) G.m) y.T=Q3 (Zk S fun k=>Q3 (fun t=>QV G φ t k) y.T) G.m:=by
  rw[B9 (fun t k=>Zk S (QV G φ t) k) y.T G.m];refine Zn fun k _=>?_;unfold Zk;cases S k with
  |true=>rfl
  |false=>simp only[Wb,if_false];exact VA _
 have h4:Q3 (fun t=>Q3 (Zk S (QV G φ t)) G.m) y.T<=Q3 (fun t=>passes y (fun l=>Zz y l t) (Wd G S t) 0) y.T:=YV fun t ht=>F.no_more ok hln S ht;unfold Vl;omega
def Nn {y:Yd}{gs:List Gs}(hg:∀g∈gs,GOk y g):∀k,k<(QE gs).m->(QE gs).ln k<y.ls.length:=fun k hk=>by
 show(gs.getD k default).line<_
 rw[Jr hk];exact(hg _ (X5 _)).ln
def Vg (gs:List Gs)(S:Qm):Qk:=(List.range gs.length).filter S
def B5 {gs:List Gs}(g8:gs.length<=8)(S:Qm):SetOk gs (Vg gs S) :=
 ⟨fun k hk=>XT.mp (List.mem_filter.mp hk).1,XZ (BW _ _) (by simpa using g8)⟩
theorem BD (f:Qn):∀n,((List.range n).map f).sum=Q3 f n
 |0=>rfl
 |n+1=>by rw[X9,Xy,G1,BD f n];simp[Q3]
theorem SI (f:Qn)(p:Qm):∀n,(((List.range n).filter p).map f).sum=Q3 (Zk p f) n
 |0=>rfl
 |n+1=>by
   rw[X9,U2,Xy,G1,SI f p n];show _=Q3 (Zk p f) n+Zk p f n;unfold Zk;cases e:p n with
   |true=>simp[U0,e]
   |false=>simp[U0,e]
def TL (gs:List Gs)(S:Qm)(t l:Nat):Wd (QE gs) S t l=Jl gs t (Vg gs S) l:=by
 show _=Vs gs (t:Int) l ((List.range gs.length).filter S);rw[Ex];unfold Wd;refine Zn fun k hk=>?_;have hk:k<gs.length:=hk;unfold Zk moT wgt ind;rw[X6 hk];have e1:(QE gs).th k t=Wo gs[k] (t:Int):=by show Wo (gs.getD k default) _=_;rw[Jr hk]
 have e2:(QE gs).mo k=gs[k].most:=by show(gs.getD k default).most=_;rw[Jr hk]
 have e3:(QE gs).ln k=gs[k].line:=by show(gs.getD k default).line=_;rw[Jr hk]
 rw[e1,e2,e3];cases S k with
 |false=>simp
 |true =>
   simp only[if_true];by_cases c:gs[k].line=l
   ·by_cases d:Wo gs[k] (t:Int)=true
    ·simp[c,d]
    ·simp[c,d]
   ·simp[c]
def Dy (gs:List Gs)(sm:Qk):Int:=(sm.map fun k=>(gs.getD k default).want).sum
def DX (y:Yd)(gs:List Gs)(S:Qm):Vl y (QE gs) S=Dy gs (Vg gs S)-Ur y gs (Vg gs S):=by
 unfold Vl;congr 1
 ·exact(SI _ S gs.length).symm
 ·unfold Ur
  rw[BD];refine Zn fun t _=>?_;unfold Jq;rw[show Wd (QE gs) S t=Jl gs t (Vg gs S) from funext fun l=>TL gs S t l]
def MC (y:Yd)(G:Gv)(φ:QP Nd)(es:Got Nd):Prop:=Flow y G φ/\Nd.start∈QR es/\VH (Za y G) φ es/\Nd.fin∉QR es
inductive R_lset:List OT->(OT->Prop)->Prop
 |mk {y:Yd} {gs:List Gs} (ok:y.Ok) (hg:∀g∈gs,GOk y g) (g8:gs.length<=8):R_lset [.fz (Zd y),.fz (.list (gs.map QK))] (fun r=>∃φ es,MC y (QE gs) φ es/\r=.ol (Zl (Vg gs (Vm es))))
def SZ:Qp ["yard","guests","edges"] Zab (Qx BQ):=by walk_at"p"
def EA (T:Bl mg) (U:Tx K mg C gS gE) (D:Df K mg "guests_reached" BQ Zab) (Xbc:QD P w K mg base "filled_net" Zab 4 (QY K (R_filled P w C))) (Xa5:Zi P w K mg base C "reached" ZaA 1 (QY K (R_reached P w C))) (XaZ:QD P w K mg base "guest_node" ZaP 1 (QN (K:=K) R_gnode)) :
 QD P w K mg base "guests_reached" Zab 5 (QY K R_lset):=by
 refine D.evD SZ (fun ts Φ h=>by cases h;rfl) (fun _ _ _ _ s H E ts Φ hr h=>?_)
 cases h with
 |@mk y gs ok hg g8 =>
   refine⟨_,(Q5 (QW (i:=2) SZ.nd rfl (Or.inr rfl) (Yg Xa5 U.net hr (QG Xbc hr (Qo (pv 0) (Qo (pv 1) Qs))) (Qo (Y4 (v:=.ref _) rfl U.mSTART rfl) Qs)))
 (Q7 (QT (YF (NX:=["yard","guests","edges"]) (sc:=Qx BQ) (N:=["number","edges"]) (f:=[none,some 2]) rfl (by decide +kernel) rfl rfl (VW rfl T.range (Qo (Zy Yz (by rfl) T.len Y1 (Qo (pv 1) Qs)) Qs)) (fun _=>(Zw (i:=0) (show(["number","edges"]:Qh).Nodup by decide +kernel) rfl Qa)) (fun _=>VI) (fun _=>(Gd (Ug (MW (Ye hr) (QG XaZ hr (Qo (pv 0) Qs)) (pv 1))))) (fun _=>(pv 0)))))),?_⟩
   show Q1 K _ [some _,some _,none] _
   walk_at"x"
   have ll:(Za y (QE gs)).length<400:=by
    unfold Za;rw[Xm];have a:=BI ok (QE gs) (n:=(QE gs).m) g8;have b:=DR ok ok.t8;omega
   refine QH (VX (Φ:=fun r=>∃v φ es,r=.own v (Vo (kvG es))/\MC y (QE gs) φ es) (Cl (P:=P) (w:=w) S6 (Wq (Qw (Qu rfl) (Qw (Qu rfl) Q9)) (R_filled.mk ok hg g8)) (fun r hr'=>?_) (Qw (DJ U.aS) Q9)) (fun r hr'=>?_))
   ·obtain⟨v,N,φ,rfl,hN,F,es0,h1,h2,h3⟩:=hr'
    refine⟨v,N,rfl,_,R_reached.mk (s:=.start) hN ll,fun r ⟨v',es,e,tr,cl⟩=>⟨v',φ,es,e,F,tr.start,cl,fun z=>h3 (tr.inClosed h2 h1 _ z)⟩⟩
   ·obtain⟨v,φ,es,rfl,fb⟩:=hr'
    walk_at"d"
    refine Rf 2 rfl ?_
    walk_at"d"
    refine W6 (r:=.ol (Zl (Vg gs (Vm es)))) (UP (xs:=List.range gs.length) (enc:=fun(j:Nat)=>PyData.int (j:Int)) (h:=fun(j:Nat)=>PyData.int (j:Int)) (p:=Vm es) ?ei (by simp;omega) ?el) ⟨φ,es,fb,rfl⟩
    case ei =>
     have e:(gs.map QK).length=gs.length:=by simp
     refine EvI.cast (Yh (Qw (US (Qu rfl)) Q9) (by rw[z62,e];omega) (by rw[z62,e];omega)) ?_;rw[e,XN];unfold ZS;refine JJ fun i _=>?_;rw[Y9]
    case el =>
     intro k hk c;refine⟨_,Z8,?_,fun _=>?_⟩
     ·walk_at"e"
      exact Zh.cast (Vf (Ts (k:=nk (.guest k)) (Ze (Qw (Qu rfl) Q9) R_gnode.mk) rfl)) (UV _ _)
     ·walk_at"e"
      exact Qu rfl
def Iu:Qp Zab Zab (Qx HC):=by walk_at"p"
def Ll (T:Bl mg) (D:Df K mg "lacking_set" HC Zab) (XbC:QD P w K mg base "guests_reached" Zab 5 (QY K R_lset)):QD P w K mg base "lacking_set" Zab 6 (QY K R_lset):=by
 refine D.evD Iu (fun ts Φ h=>by cases h;rfl) (fun _ _ _ _ s H E ts Φ hr h=>?_);have h0:=h
 cases h with
 |@mk y gs ok hg g8 =>
   refine⟨_,(Q7 (QT (QG XbC hr (Qo (pv 0) (Qo (pv 1) Qs))))),?_⟩;show Q1 K _ [some _,some _] _
   walk_at"x"
   exact Dw (Wq (Qw (Qu rfl) (Qw (Qu rfl) Q9)) h0) (fun r hr'=>hr')
def Di (y:Yd)(gs:List Gs)(sm:Qk):Int:=Dy gs sm-Ur y gs sm
inductive R_short:List OT->OT->Prop
 |mk {y:Yd} {gs:List Gs} {sm:Qk} (ok:y.Ok) (hg:∀g∈gs,g.line<y.ls.length) (hs:SetOk gs sm) :
  R_short [.fz (Zd y),.fz (.list (gs.map QK)),.fz (.list (Zl sm))] (.fz (.int (Di y gs sm)))
def E8:Qp Zae Zae (Qx BG):=by walk_at"p"
def FL (T:Bl mg) (D:Df K mg "short_of" BG Zae) (Xa1:QD P w K mg base "want_of" Zas 1 (QN (K:=K) R_want)) (XbD:QD P w K mg base "given_most" Zae 4 (QN (K:=K) R_givenm)) :
 QD P w K mg base "short_of" Zae 5 (QN (K:=K) R_short):=by
 refine D.ev E8 (fun ts r h=>by cases h;rfl) (fun _ _ _ _ s H E ts r hr h=>?_)
 cases h with
 |@mk y gs sm ok hg hs =>
   refine⟨_,(Q7 (QT (Zb Wi (Zy Nk (by rfl) T.sum KJ (Qo (YF (NX:=Zae) (sc:=Qx BG) (N:=["number","guests"]) (f:=[none,some 1]) rfl (by decide +kernel) rfl rfl (WA (pv 2)) (fun _=>(Zw (i:=0) (show(["number","guests"]:Qh).Nodup by decide +kernel) rfl Qa)) (fun _=>VI) (fun _=>Wp) (fun _=>(QG Xa1 hr (Qo (QL QM (pv 1) (pv 0)) Qs)))) Qs)) (QG XbD hr (Qo (pv 0) (Qo (pv 1) (Qo (pv 2) Qs))))))),?_⟩;show Q1 K _ [some _,some _,some _] _
   walk_at"x"
   have n8:=hs.len;refine Vj (ZB (MA (ns:=sm.map fun k=>(gs.getD k default).want) ?_ rfl) (Ze (by walk_at"ea") (R_givenm.mk ok hg hs))) rfl
   refine EvO.fz ?_;rw[Ys];refine UL (xs:=sm) (enc:=fun(j:Nat)=>PyData.int (j:Int)) ?_ (by omega) ?_
   ·walk_at"ei"
   ·intro x hx c
    have hk:=hs.mem x hx;refine⟨_,by walk_at"g",?_⟩
    walk_at"e"
    refine Ze (ts:=[.fz (QK (gs.getD x default))]) (Qw (Qt.cast (by walk_at"ev") (by rw[XN])) Q9) R_want.mk
def IC:Qp ZaL ZaL (Qx Uz):=by walk_at"p"
def Aw {f:Addr} {fd:FuncData} (T:Bl mg) (F:Fun K "__init__" "NoRoom.__init__" Uz f fd) (cl:JM K YR CR f) (xs:Pb K CR) (tk:W.takerIn K CR "some"=some none) (my:mg "YardError"=some (.ref YR)):FnOk P w K mg base CX0 1 f fd ZaL (Gb K CR "some"):=by
 refine F.ok IC (fun vs H Q E ⟨e,p,xs,h,_⟩=>by rw[h];rfl) (fun cdv A outer s H vs Q E hr h=>⟨_,Q5 (Zv (CW (i:=0) cl rfl my rfl Qa)) (Q7 (LQ xs tk (pv 0) (Wu NV (by rfl) T.list Bc (Qo (pv 1) Qs)) rfl)),CK h⟩)
inductive R_refuse:List OT->(OT->Prop)->Prop
 |mk {y:Yd} {gs:List Gs} (ok:y.Ok) (hg:∀g∈gs,GOk y g) (g8:gs.length<=8) (h:∀S,Vl y (QE gs) S<=0):R_refuse [.fz (Zd y),.fz (.list (gs.map QK))] (fun r=>r=.fz .none)
inductive X_refuse:List OT->(Qd->Prop)->Prop
 |mk {y:Yd} {gs:List Gs} (ok:y.Ok) (hg:∀g∈gs,GOk y g) (g8:gs.length<=8) {S:Qm} (h:0<Vl y (QE gs) S):X_refuse [.fz (Zd y),.fz (.list (gs.map QK))] (fun d=>∃S,0<Vl y (QE gs) S/\d=Zl (Vg gs S))
def HD:Qp Zae Zab (Qx HA):=by walk_at"p"
def As (T:Bl mg) (XR:XC K mg "NoRoom" YR CR fR) (D:Df K mg "refuse_lack" HA Zab) (Xbf:QD P w K mg base "lacking_set" Zab 6 (QY K R_lset)) (Xbg:QD P w K mg base "short_of" Zae 5 (QN (K:=K) R_short)) (Xbh:M6 P w K mg base fR ZaL 1 (Gb K CR "some")) :
 UE P w K mg base "refuse_lack" Zab 7 (spX K CR "some" R_refuse X_refuse):=by
 refine D.evZ HD (fun ts Φ h=>by cases h;rfl) (fun ts Φ h=>by cases h;rfl) (by decide) (fun f cdv A outer s H RR ts Φ hr hst h=>?_) (fun f cdv A outer s F H RR ts Φ hr hst hq h=>?_)
 ·cases h with
  |@mk y gs ok hg g8 h =>
    refine⟨_,(Q5 (QW (i:=2) HD.nd rfl Qa (QG Xbf hr (Qo (pv 0) (Qo (pv 1) Qs))))
 (Q7 (Z2 (ZR W2 (QG Xbg hr (Qo (pv 0) (Qo (pv 1) (Qo (pv 2) Qs)))) Qz (Z4 _)) (Q7 (RT XR Xbh hst hr (Qo (pv 2) Qs))) Z3))),?_⟩
    show Q1 K _ [some _,some _,none] _
    walk_at"x"
    have hk:=hg;refine QH (VX (Wq (Qw (Qu rfl) (Qw (Qu rfl) Q9)) (R_lset.mk ok hk g8)) (fun r hr'=>?_));obtain⟨φ,es,fb,rfl⟩:=hr'
    walk_at"d"
    refine Je 2 rfl ?_
    walk_at"d"
    have h1:=h (Vm es);rw[DX]at h1;exact Z7 (b:=false) (Zh.cast (ZQ (YJ (Ze (Qw (Qu rfl) (Qw (Qu rfl) (Qw (Qu rfl) Q9))) (R_short.mk ok (fun g h=>(hg g h).ln) (B5 g8 _))) QC)) (XS (by unfold Di;omega))) (fun c=>nomatch c) (fun _=>ZD rfl)
 ·cases h with
  |@mk y gs ok hg g8 S h =>
    refine⟨_,(Q5 (QW (i:=2) HD.nd rfl Qa (QG Xbf hr (Qo (pv 0) (Qo (pv 1) Qs))))
 (Q7 (Z2 (ZR W2 (QG Xbg hr (Qo (pv 0) (Qo (pv 1) (Qo (pv 2) Qs)))) Qz (Z4 _)) (Q7 (RT XR Xbh hst hr (Qo (pv 2) Qs))) Z3))),?_⟩
    show EvZ K F H _ [some _,some _,none]
    walk_at"x"
    have hk:=hg;refine Tk (fun ρ'=>∃φ es,MC y (QE gs) φ es/\ρ'=[some (.fz (Zd y)),some (.fz (.list (gs.map QK))),some (.ol (Zl (Vg gs (Vm es))))]) (VX (Wq (Qw (Qu rfl) (Qw (Qu rfl) Q9)) (R_lset.mk ok hk g8)) (fun r hr'=>?_)) ?_
    ·obtain⟨φ,es,fb,rfl⟩:=hr'
     exact⟨φ,es,fb,rfl⟩
    ·rintro _ ⟨φ,es,fb,rfl⟩
     refine P3 2 rfl ?_
     walk_at"d"
     have h1:0<Vl y (QE gs) (Vm es):=by
      have a:=A6 fb.1 ok (Nn hk) S;have e:=fb.1.lack ok (Nn hk) fb.2.2.1 fb.2.1 fb.2.2.2;have e:M1 y (QE gs) φ=Vl y (QE gs) (Vm es):=e;omega
     have h2:=h1;rw[DX]at h2;exact P8 (b:=true) (Zh.cast (ZQ (YJ (Ze (Qw (Qu rfl) (Qw (Qu rfl) (Qw (Qu rfl) Q9))) (R_short.mk ok (fun g h=>(hg g h).ln) (B5 g8 _))) QC)) (XV (by unfold Di;omega))) (fun _=>Cr (Qu rfl) ⟨Vm es,h1,rfl⟩ hq) (fun c=>nomatch c)
inductive R_feed:List OT->(OT->Prop)->Prop
 |mk {n:Int}:R_feed [.fz (.int n)] (fun r=>∃a b:Int,r=.ol [.int a,.int b])
def WK:Qp ["_law_cell","_law_big","_law_one","_law_other","_law_k"] ZaQ (Qx Ha):=by walk_at"p"
def LS (T:Bl mg) (D:Df K mg "_law_feed" Ha ZaQ):QD P w K mg base "_law_feed" ZaQ 1 (QY K R_feed):=by
 refine D.evD WK (fun ts r h=>by cases h;rfl) (fun _ _ _ _ s H E ts r hr h=>?_)
 cases h with
 |@mk n =>
   refine⟨_,(Q5 (QW (i:=1) WK.nd rfl Qa Qz)
 (Q5 (QW (i:=2) WK.nd rfl Qa (Zb V9 (Zb Jm (Zb B8 (pv 0) Qz) Qz) Qz))
 (Q5 (QW (i:=3) WK.nd rfl Qa (Zb V9 (Zb Jm (Zb B8 (pv 0) Qz) Qz) Qz))
 (Q5 (V7 PassesOwn.never rfl (VW rfl T.range (Qo Qz Qs)) (Zw (i:=4) WK.nd rfl Qa) (Q5 (QW (i:=2) WK.nd rfl Qa (Zb Jm (Zb V9 (Zb V9 (Zb Ui (pv 2) (pv 2)) (Zb Ui Qz (pv 3))) (pv 4)) Qz))
 (Q5 (QW (i:=3) WK.nd rfl Qa (Zb Jm (Zb V9 (Zb V9 (Zb Ui (pv 3) (pv 3)) (Zb Ui Qz (pv 2))) Qz) Qz))
 (Q7 (QW (i:=1) WK.nd rfl Qa (Zb V9 (Zb Ui (pv 1) Qz) (pv 3)))))))
 (Q5 (Z2 (ZR Mz (Zb Jm (pv 0) Qz) Qz (Z4 _)) (Q7 (QT (Z6 (Qo (Zb B8 (pv 0) Qz) (Qo (pv 1) Qs))))) Z3)
 (Q7 (QT (Z6 (Qo (pv 1) (Qo Qz Qs)))))))))),?_⟩
   show Q1 K _ [some _,none,none,none,none] _
   walk_at"x"
   refine QH (ZV QC ?_)
   walk_at"d"
   have d2:∀{i:Int},JZ i 2:=BY (by decide) (by decide);have d3:∀{i:Int},JZ i 3:=BY (by decide) (by decide);refine QH (ZV (ZB (Ve (Ve (Qu rfl) QC d2) QC (by decide)) QC) ?_)
   walk_at"d"
   refine QH (ZV (ZB (Ve (Ve (Qu rfl) QC d3) QC (by decide)) QC) ?_)
   walk_at"d"
   have b1:0<=n/2%2147483647+11/\n/2%2147483647+11<4294967296:=by omega
   have b2:0<=n/3%2147483629+7/\n/3%2147483629+7<4294967296:=by omega
   generalize n/2%2147483647+11=x at b1;generalize n/3%2147483629+7=y at b2;refine QH (VV (ds:=ZS 0 40) (fun _ ρ'=>∃(a b c:Int) (u:Option OT),(0<=a/\a<4294967296)/\(0<=b/\b<4294967296)/\ρ'=[some (.fz (.int n)),some (.fz (.int c)),some (.fz (.int a)),some (.fz (.int b)),u]) ?ei ⟨x,y,0,none,b1,b2,rfl⟩ ?st ?fin)
   case ei=>exact EvI.cast (Yh (Qw QC Q9) (by rw[z62];decide) (by rw[z62];decide)) (WD rfl (by decide))
   case st =>
    rintro i d _ hd ⟨a,b,c,u,ha,hb,rfl⟩
    obtain⟨hi,rfl⟩:=YS hd;refine⟨_,Z8,?_⟩
    walk_at"d"
    have p64:(2:Int)^64=18446744073709551616:=by decide
    have m1:Wx a a:=.inl ⟨by omega,by omega⟩;have m2:∀{z:Int},Wx 48271 z:=.inl ⟨by decide,by decide⟩;have m3:∀{z:Int},Wx 69621 z:=.inl ⟨by decide,by decide⟩;have m4:∀{z:Int},Wx z 2147483629:=.inr ⟨by decide,by decide⟩;have m5:Wx b b:=.inl ⟨by omega,by omega⟩;refine QH (ZV (Ve (ZB (ZB (Ve (Qu rfl) (Qu rfl) m1) (Ve QC (Qu rfl) m2)) (Qu rfl)) QC (by decide)) ?_)
    walk_at"d"
    have e1:0<=(a*a+48271*b+(0+(i:Int)))%2147483647/\(a*a+48271*b+(0+(i:Int)))%2147483647<4294967296:=⟨Int.emod_nonneg _ (by decide),Int.lt_trans (Int.emod_lt_of_pos _ (by decide)) (by decide)⟩;generalize (a*a+48271*b+(0+(i:Int)))%2147483647=a' at e1;refine QH (ZV (Ve (ZB (ZB (Ve (Qu rfl) (Qu rfl) m5) (Ve QC (Qu rfl) m3)) QC) QC (by decide)) ?_)
    walk_at"d"
    have e2:0<=(b*b+69621*a'+1)%2147483629/\(b*b+69621*a'+1)%2147483629<4294967296:=⟨Int.emod_nonneg _ (by decide),Int.lt_trans (Int.emod_lt_of_pos _ (by decide)) (by decide)⟩;generalize (b*b+69621*a'+1)%2147483629=b' at e2;refine ZV (ZB (Ve (Qu rfl) QC m4) (Qu rfl)) ?_
    exact⟨a',b',_,_,e1,e2,rfl⟩
   case fin =>
    rintro _ ⟨a,b,c,u,ha,hb,rfl⟩
    refine QH (Z7 (b:=decide (n%2=0)) (Zh.cast (ZQ (GJ (Ve (Qu rfl) QC (by decide)) QC)) rfl) (fun _=>?_) (fun _=>ZD ?_))
    ·exact W6 (V0 (ds:=[.int (n/2),.int c]) (Zc (Ve (Qu rfl) QC d2) (Zc (Qu rfl) ZC)) Wz) ⟨_,_,rfl⟩
    ·exact W6 (V0 (ds:=[.int c,.int 0]) (Zc (Qu rfl) (Zc QC ZC)) Wz) ⟨_,_,rfl⟩
inductive R_digit:Qd->List OT->(OT->Qd->Prop)->Prop
 |mk {a b m:Int} (h0:0<m) (h1:m<=10^60):R_digit [.int a,.int b] [.fz (.int m)] (fun r ds'=>∃n a' b':Int,0<=n/\n<m/\r=.fz (.int n)/\ds'=[.int a',.int b'])
def SY:Qp ["_law_feed_here","_law_many","_law_digit_here"] Zao (Qx HF):=by walk_at"p"
def Cm (T:Bl mg) (D:Df K mg "_law_digit" HF Zao):QD P w K mg base "_law_digit" Zao 1 (spP K olP R_digit):=by
 refine D.evP SY (fun M ts Ψ h=>by cases h;rfl) (fun f cdv A outer s H E v M ts Ψ hr h=>?_)
 cases h with
 |@mk a b m h0 h1 =>
   refine⟨_,(Q5 (Z2 (ZR Mz (QL QM (pv 0) Qz) Qz (Z4 _)) (Q5 (Da (QL QM (pv 0) Qz) (Dd (pv 0) Qz WE))
 (Q7 (Da Qz (Dd (pv 0) Qz WE)))) Z3)
 (Q5 (QW (i:=2) SY.nd rfl Qa (Zb Jm (QL QM (pv 0) Qz) (pv 1)))
 (Q5 (Da (Zb B8 (QL QM (pv 0) Qz) (pv 1)) (Dd (pv 0) Qz WE))
 (Q7 (QT (pv 2)))))),?_⟩
   show EvR K _ [some (.own v (olP [.int a,.int b])),some (.fz (.int m)),none] _
   walk_at"x"
   have rd:∀{ρ:Q6} {x y:Int},ρ[0]?=some (some (.own v (olP [.int x,.int y])))->Qt K (tOp (rIx K) (Q8 0) (tC (.int 0))) ρ (.int x)/\Qt K (tOp (rIx K) (Q8 0) (tC (.int 1))) ρ (.int y):=fun{ρ x y} e=>by
    have hl:=(Xh.mp e).1
    exact⟨RJ 0 e rfl (VO (ds:=[.int x,.int y]) (Qu (Xl hl)) QC rfl),RJ 0 e rfl (VO (ds:=[.int x,.int y]) (Qu (Xl hl)) QC rfl)⟩
   refine ZJ (fun ρ'=>∃x y:Int,ρ'=[some (.own v (olP [.int x,.int y])),some (.fz (.int m)),none]) (Z7 (b:=decide (a=0)) (Zh.cast (ZQ (GJ (rd rfl).1 QC)) rfl) (fun _=>?_) (fun _=>ZD ⟨a,b,rfl⟩)) ?_
   ·refine QH (DT (j:=0) rfl (rd rfl).2 QC rfl ?_)
    walk_at"d"
    refine DT (j:=1) rfl QC QC rfl ?_
    exact⟨b,0,rfl⟩
   ·rintro _ ⟨x,y,rfl⟩
    refine ZJ (fun ρ'=>ρ'=[some (.own v (olP [.int x,.int y])),some (.fz (.int m)),some (.fz (.int (x%m)))]) (ZV (Ve (rd rfl).1 (Qu rfl) h0) rfl) ?_
    rintro _ rfl
    refine ZJ (fun ρ'=>ρ'=[some (.own v (olP [.int (x/m),.int y])),some (.fz (.int m)),some (.fz (.int (x%m)))]) (DT (j:=0) rfl (Ve (rd rfl).1 (Qu rfl) (cdl h0 h1)) QC rfl rfl) ?_
    rintro _ rfl
    exact GV (Qu rfl) ⟨_,⟨x%m,x/m,y,Int.emod_nonneg _ (Int.ne_of_gt h0),Int.emod_lt_of_pos _ h0,rfl,rfl⟩,rfl⟩
def Dg (K:W.Frag)(t:TE)(ρ:Q6)(v:V)(m:Int):Prop:=EvW K t ρ 0 fun n o=>0<=n/\n<m/\∃a b:Int,o=.own v (olP [.int a,.int b])
def Yq {ρ:Q6}{t:TE}{v:V}{a b m:Int}{E:XK}(e:ρ[0]?=some (some (.own v (olP [.int a,.int b]))))(h:Qt K t ρ (.int m))(h0:0<m)(h1:m<=10^60):Dg K (VF (spP K olP R_digit) [] E (QF (Q8 0) (QF t QO))) ρ v m :=
 Fy (Φ:=olP) e (Qw h Q9) (R_digit.mk h0 h1) (by
  rintro r N' ⟨n,a',b',n0,n1,rfl,rfl⟩
  exact⟨n,rfl,n0,n1,a',b',rfl⟩)
def Mj (k T:Nat)(l:Ln):Prop:=(l.up=none↔k=0)/\(∀a,l.up=some a->a<k)/\l.bs.length=T/\∀b∈l.bs,0<=b/\b<10^30
theorem P9 {T:Nat}{ls:List Ln}(t1:1<=T)(t8:T<=8)(l1:1<=ls.length)(l5:ls.length<=5)(h:∀k (hk:k<ls.length),Mj k T ls[k]):(⟨T,ls⟩:Yd).Ok where
 t1:=t1
 t8:=t8
 l1:=l1
 l5:=l5
 up0:=by
  have h0:=(h 0 (by omega)).1.mpr rfl
  simp[Zf,show 0<ls.length by omega,h0]
 ups:=fun k k0 hk=>by
  have hk:k<ls.length:=hk;obtain⟨a1,a2,_⟩:=h k hk
  cases e:ls[k].up with
  |none=>have:=a1.mp e;omega
  |some a=>exact⟨a,by simp[Zf,hk,e],a2 a e⟩
 bl:=fun l hl=>by
  obtain⟨k,hk,rfl⟩:=U3.mp hl
  exact(h k hk).2.2.1
 bb:=fun l hl b hb=>by
  obtain⟨k,hk,rfl⟩:=U3.mp hl
  have:=(h k hk).2.2.2 b hb
  exact⟨this.1,Dk this.2⟩
def Pg (y:Yd):Prop := ∀l∈y.ls,∀b∈l.bs,0<=b/\b<10^30
inductive R_dyard:Qd->List OT->(OT->Qd->Prop)->Prop
 |mk {a b:Int}:R_dyard [.int a,.int b] [] (fun r ds'=>∃y:Yd,y.Ok/\Pg y/\r=.fz (Zd y))
def PB {b:Int}{c:Bool}(h0:0<=b)(h1:b<10^30):0<=b*(if c then 1 else 0)/\b*(if c then 1 else 0)<10^30:=by
 have e:(0:Int)<10^30:=by decide +kernel
 cases c
 ·simp
 ·simpa using ⟨h0,h1⟩
def p60 {m:Int}(h:m<=10^30):m<=10^60:=Int.le_trans h (by decide +kernel)
def YY:Qp ["_law_feed_here","_law_turns","_law_scale","_law_lines","_law_k","_law_above","_law_bounds","_law_turn","_law_bound"] ZaJ (Qx Hh):=by walk_at"p"
def Aa (T:Bl mg) (D:Df K mg "_law_yard" Hh ZaJ) (XaU:QD P w K mg base "_law_digit" Zao 1 (spP K olP R_digit)):QD P w K mg base "_law_yard" ZaJ 2 (spP K olP R_dyard):=by
 refine D.evP YY (fun M ts Ψ h=>by cases h;rfl) (fun f cdv A outer s H E v M ts Ψ hr h=>?_)
 cases h with
 |@mk a b =>
   refine⟨_,(Q5 (QW (i:=1) YY.nd rfl Qa (Zb V9 Qz (QG XaU hr (Qo (pv 0) (Qo Qz Qs)))))
 (Q5 (QW (i:=2) YY.nd rfl Qa (QL QM (Z6 (Qo Qz (Qo Qz (Qo Qz (Qo (Zb MO Qz Qz) Qs))))) (QG XaU hr (Qo (pv 0) (Qo Qz Qs)))))
 (Q5 (QW (i:=3) YY.nd rfl Qa (Z6 Qs))
 (Q5 (V7 PassesOwn.never rfl (VW rfl T.range (Qo (Zb V9 Qz (QG XaU hr (Qo (pv 0) (Qo Qz Qs)))) Qs)) (Zw (i:=4) YY.nd rfl Qa) (Q5 (QW (i:=5) YY.nd rfl Qa GP)
 (Q5 (Z2 (ZR W2 (pv 4) Qz (Z4 _)) (Q7 (QW (i:=5) YY.nd rfl Qa (QG XaU hr (Qo (pv 0) (Qo (pv 4) Qs))))) Z3)
 (Q5 (QW (i:=6) YY.nd rfl Qa (Z6 Qs))
 (Q5 (V7 PassesOwn.never rfl (VW rfl T.range (Qo (pv 1) Qs)) (Zw (i:=7) YY.nd rfl Qa) (Q5 (QW (i:=8) YY.nd rfl Qa (QG XaU hr (Qo (pv 0) (Qo (pv 2) Qs))))
 (Q7 (Zv (Vq PySem.F.plainAttrs_list PySem.F.slot_list_append PySem.F.type_list_append Vv (pv 6) (Qo (Zb Ui (pv 8) (Wu KZ (by rfl) T.int ME (Qo (Jn W2 (QG XaU hr (Qo (pv 0) (Qo Qz Qs))) Qz (Z4 _)) Qs))) Qs))))))
 (Q7 (Zv (Vq PySem.F.plainAttrs_list PySem.F.slot_list_append PySem.F.type_list_append Vv (pv 3) (Qo (YL (Qo (pv 5) (Qo (Wu RC (by rfl) T.tuple Bw (Qo (pv 6) Qs)) Qs))) Qs)))))))))
 (Q7 (QT (YL (Qo (pv 1) (Qo (Wu RC (by rfl) T.tuple Bw (Qo (pv 3) Qs)) Qs))))))))),?_⟩
   show EvR K _ [some (.own v (olP [.int a,.int b])),none,none,none,none,none,none,none,none] _
   walk_at"x"
   have q30:(0:Int)<10^(30:Int).toNat/\(10:Int)^(30:Int).toNat<=10^30:=by decide +kernel
   have q31:(16:Int)<=10^30:=by decide +kernel
   refine ZJ (fun ρ'=>∃(T:Nat) (a b:Int),1<=T/\T<=8/\ρ'=[some (.own v (olP [.int a,.int b])),some (.fz (.int (T:Int))),none,none,none,none,none,none,none]) (RF (Yq rfl QC (by decide) (by decide +kernel)) ?_) ?_
   ·rintro n _ ⟨n0,n1,a,b,rfl⟩
    refine ZV (ZB QC QC) ⟨(1+n).toNat,a,b,by omega,by omega,?_⟩;rw[X7 (by omega)];rfl
   rintro _ ⟨T,a,b,t1,t8,rfl⟩
   refine ZJ (fun ρ'=>∃sc a b:Int,0<sc/\sc<=10^30/\ρ'=[some (.own v (olP [.int a,.int b])),some (.fz (.int (T:Int))),some (.fz (.int sc)),none,none,none,none,none,none]) (Su (ds:=[.int 5,.int 9,.int 16,.int (10^(30:Int).toNat)]) (EvO.fz (V0 (Zc QC (Zc QC (Zc QC (Zc (Ve QC QC (GD (by decide) (by decide))) ZC)))) (by show(4:Nat)<=1000;decide))) (Yq rfl QC (by decide) (by decide +kernel)) ?_) ?_
   ·rintro n _ ⟨n0,n1,a,b,rfl⟩
    obtain rfl|rfl|rfl|rfl:n=0\/n=1\/n=2\/n=3:=by omega
    ·exact⟨_,rfl,5,a,b,by decide,by omega,rfl⟩
    ·exact⟨_,rfl,9,a,b,by decide,by omega,rfl⟩
    ·exact⟨_,rfl,16,a,b,by decide,by omega,rfl⟩
    ·exact⟨_,rfl,_,a,b,q30.1,q30.2,rfl⟩
   rintro _ ⟨sc,a,b,s0,s1,rfl⟩
   refine ZJ (fun ρ'=>ρ'=[some (.own v (olP [.int a,.int b])),some (.fz (.int (T:Int))),some (.fz (.int sc)),some (.ol []),none,none,none,none,none]) (Yf (V0 (ds:=[]) ZC (by decide)) rfl) ?_
   rintro _ rfl
   refine ZJ (fun ρ'=>∃(ls:List Ln) (a b:Int) (u4 u5 u6 u7 u8:Option OT),(1<=ls.length/\ls.length<=5)/\(∀k (hk:k<ls.length),Mj k T ls[k])/\ρ'=[some (.own v (olP [.int a,.int b])),some (.fz (.int (T:Int))),some (.fz (.int sc)),some (.ol (ls.map VY)),u4,u5,u6,u7,u8]) (LL (Yq rfl QC (by decide) (by decide +kernel)) ?_) ?_
   ·rintro n _ ⟨n0,n1,a,b,rfl⟩
    walk_at"d"
    refine VV (ds:=ZS 0 (1+n).toNat) (fun i ρ'=>∃(ls:List Ln) (a b:Int) (u4 u5 u6 u7 u8:Option OT),ls.length=i/\(∀k (hk:k<ls.length),Mj k T ls[k])/\ρ'=[some (.own v (olP [.int a,.int b])),some (.fz (.int (T:Int))),some (.fz (.int sc)),some (.ol (ls.map VY)),u4,u5,u6,u7,u8]) ?ei ⟨[],a,b,_,_,_,_,_,rfl,(fun k hk=>Xk hk (Nat.not_lt_zero k)),rfl⟩ ?st ?fin
    case ei=>exact Yh (Qw (ZB QC QC) Q9) (by rw[z62];omega) (by rw[z62];omega)
    case fin =>
     rintro _ ⟨ls,a,b,u4,u5,u6,u7,u8,e,h,rfl⟩
     rw[Wr]at e;exact⟨ls,a,b,u4,u5,u6,u7,u8,by omega,h,rfl⟩
    case st =>
     rintro i d _ hd ⟨ls,a,b,u4,u5,u6,u7,u8,e,h,rfl⟩
     obtain⟨hi,rfl⟩:=YS hd;have hi:i<(1+n).toNat:=hi;refine⟨_,Z8,?_⟩
     walk_at"d"
     rw[Y9];refine QH (ZV UM ?_)
     walk_at"d"
     refine QH (Kt (fun ρ'=>∃(ab:Option Nat) (a b:Int),(ab=none↔i=0)/\(∀x,ab=some x->x<i)/\ρ'=[some (.own v (olP [.int a,.int b])),some (.fz (.int (T:Int))),some (.fz (.int sc)),some (.ol (ls.map VY)),some (.fz (.int (i:Int))),some (.fz (upD ab)),u6,u7,u8]) (Z7 (b:=decide ((i:Int) > 0)) (Zh.cast (ZQ (YJ (Qu rfl) QC)) rfl) (fun c=>?_) (fun c=>ZD ⟨none,a,b,⟨fun _=>by have:=G5 c;omega,fun _=>rfl⟩,(fun x z=>nomatch z),rfl⟩)) ?_)
     ·have c:=X0 c
      refine Br (Yq rfl (Qu rfl) (by omega) (Int.le_trans (show(i:Int)<=5 by omega) (by decide +kernel))) ?_
      rintro m _ ⟨m0,m1,a,b,rfl⟩
      refine⟨some m.toNat,a,b,⟨fun z=>(nomatch z),fun z=>Xk z (by omega)⟩,(fun x z=>by injection z with z;omega),?_⟩;show _=([_,_,_,_,_,some (OT.fz (.int ((m.toNat:Nat):Int))),_,_,_]:Q6);rw[X7 m0];rfl
     rintro _ ⟨ab,a,b,ab1,ab2,rfl⟩
     refine QH (Yf (V0 (ds:=[]) ZC (by decide)) ?_)
     walk_at"d"
     refine QH (VV (ds:=ZS 0 T) (fun j ρ'=>∃(bs:Ql) (a b:Int) (u7 u8:Option OT),bs.length=j/\(∀x∈bs,0<=x/\x<10^30)/\ρ'=[some (.own v (olP [.int a,.int b])),some (.fz (.int (T:Int))),some (.fz (.int sc)),some (.ol (ls.map VY)),some (.fz (.int (i:Int))),some (.fz (upD ab)),some (.ol (bs.map PyData.int)),u7,u8]) ?ei2 ⟨[],a,b,_,_,rfl,(fun x z=>nomatch z),rfl⟩ ?st2 ?fin2)
     case ei2=>exact EvI.cast (Yh (Qw (Qu rfl) Q9) (by rw[z62];omega) (by rw[z62];omega)) (WD rfl (by omega))
     case st2 =>
      rintro j d _ hd ⟨bs,a,b,u7,u8,e2,h2,rfl⟩
      obtain⟨hj,rfl⟩:=YS hd;refine⟨_,Z8,?_⟩
      walk_at"d"
      refine QH (Br (Yq rfl (Qu rfl) s0 (p60 s1)) ?_)
      rintro m _ ⟨m0,m1,a,b,rfl⟩
      walk_at"d"
      refine LV rfl rfl (Yq rfl QC (by decide) (by decide +kernel)) ?_
      rintro z _ ⟨z0,z1,a,b,rfl⟩
      walk_at"d"
      have mm:=PB (c:=decide (z > 0)) m0 (Int.lt_of_lt_of_le m1 s1);refine Js rfl (Ve (Qu rfl) (Ba (YJ QC QC)) (.inr ⟨by split<;>decide,by split<;>decide⟩)) (by rw[Xn];omega) ⟨bs++[m*(if decide (z > 0) then 1 else 0)],a,b,some (.fz (.int (0+(j:Int)))),some (.fz (.int m)),by rw[Xm,e2];rfl,fun x hx=>?_,?_⟩
      ·rcases Xx.mp hx with hx|hx
       ·exact h2 x hx
       ·rw[Xg.mp hx];exact mm
      ·rw[Xy]
       rfl
     case fin2 =>
      rintro _ ⟨bs,a,b,u7,u8,e2,h2,rfl⟩
      rw[Wr]at e2;refine Js rfl (YH (ds:=[upD ab,.tuple (bs.map PyData.int)]) (Zc (Qu rfl) (Zc (MK rfl) ZC)) Wz) (by rw[Xn];omega) ⟨ls++[⟨ab,bs⟩],a,b,some (.fz (.int (i:Int))),some (.fz (upD ab)),some (.ol (bs.map PyData.int)),u7,u8,by rw[Xm,e];rfl,fun k hk=>?_,?_⟩
      ·by_cases z:k<ls.length
       ·rw[List.getElem_append_left z];exact h k z
       ·have:k=ls.length:=by rw[Xm]at hk;have:[(⟨ab,bs⟩:Ln)].length=1:=rfl;omega
        subst this;rw[List.getElem_append_right (Xq _)];simp only[Nat.sub_self,List.getElem_cons_zero];rw[e];exact⟨ab1,ab2,e2,h2⟩
      ·rw[Xy]
       rfl
   rintro _ ⟨ls,a,b,u4,u5,u6,u7,u8,⟨l1,l5⟩,h,rfl⟩
   refine GV (YH (ds:=[.int (T:Int),.tuple (ls.map VY)]) (Zc (Qu rfl) (Zc (MK rfl) ZC)) Wz) ⟨_,⟨⟨T,ls⟩,P9 t1 t8 l1 l5 h,fun l hl=>?_,rfl⟩,rfl⟩;obtain⟨k,hk,rfl⟩:=U3.mp hl
   exact(h k hk).2.2.2
theorem MQ:∀{bs:Ql},bs≠[]->∃M∈bs,∀a∈bs,a<=M
 |[],h=>Xk rfl h
 |[x],_=>⟨x,Xa,fun a ha=>by rw[Xg.mp ha];exact WT _⟩
 |x::y::bs,_=>by
   obtain⟨M,m1,m2⟩:=MQ (bs:=y::bs) (List.cons_ne_nil _ _)
   by_cases h:x<=M
   ·refine⟨M,Xd _ m1,fun a ha=>?_⟩
    rcases Xf.mp ha with rfl|ha
    ·exact h
    ·exact m2 a ha
   ·refine⟨x,Xa,fun a ha=>?_⟩
    rcases Xf.mp ha with rfl|ha
    ·exact WT _
    ·have:=m2 a ha
     omega
noncomputable def mxB (bs:Ql):Int:=open Classical in if h:bs≠[] then Classical.choose (MQ h) else 0
def Nw {bs:Ql}(h:bs≠[]):mxB bs∈bs/\∀a∈bs,a<=mxB bs:=by
 unfold mxB;rw[dif_pos h];exact Classical.choose_spec (MQ h)
structure G30 (y:Yd)(g:Gs):Prop where
 ok:g.Ok y
 w:g.want<10^30
 m:g.most<10^30
inductive R_dguest:Qd->List OT->(OT->Qd->Prop)->Prop
 |mk {a b:Int} {y:Yd} (ok:y.Ok):R_dguest [.int a,.int b] [.fz (Zd y),.fz (.int 0)] (fun r ds'=>∃g:Gs,G30 y g/\r=.fz (QK g))
def Mt {n:Nat}(h:n<=8):(n:Int)<=10^60:=Int.le_trans (show(n:Int)<=8 by omega) (by decide +kernel)
def WL:Qp Zak Zaj (Qx BK):=by walk_at"p"
def An (T:Bl mg) (D:Df K mg "_law_guest" BK Zaj) (XaU:QD P w K mg base "_law_digit" Zao 1 (spP K olP R_digit)):QD P w K mg base "_law_guest" Zaj 2 (spP K olP R_dguest):=by
 refine D.evP WL (fun M ts Ψ h=>by cases h;rfl) (fun f cdv A outer s H E v M ts Ψ hr h=>?_)
 cases h with
 |@mk a b y ok =>
   refine⟨_,(Q5 (QW (i:=3) WL.nd rfl Qa (QG XaU hr (Qo (pv 0) (Qo (QL QM (pv 1) Qz) Qs))))
 (Q5 (Z2 (PW.pt (GS (Fo JY JY (pv 3) (pv 2) (QL QM (pv 1) Qz)) (Bg (ZR W2 (QG XaU hr (Qo (pv 0) (Qo Qz Qs))) Qz (Z4 _))))) (Q7 (QW (i:=3) WL.nd rfl Qa (Zb V9 (pv 2) (QG XaU hr (Qo (pv 0) (Qo (Zb Wi (QL QM (pv 1) Qz) (pv 2)) Qs)))))) Z3)
 (Q5 (QW (i:=4) WL.nd rfl Qa (Zb V9 (pv 3) (QG XaU hr (Qo (pv 0) (Qo (Zb Wi (QL QM (pv 1) Qz) (pv 3)) Qs)))))
 (Q5 (QW (i:=5) WL.nd rfl Qa (QG XaU hr (Qo (pv 0) (Qo (Zy Yz (by rfl) T.len Y1 (Qo (QL QM (pv 1) Qz) Qs)) Qs))))
 (Q5 (QW (i:=6) WL.nd rfl Qa (QL QM (Z6 (Qo Qz (Qo Qz (Qo Qz (Qo (Zb Wi (Zb MO Qz Qz) Qz) Qs))))) (QG XaU hr (Qo (pv 0) (Qo Qz Qs)))))
 (Q5 (Z2 (ZR JY (Zy TU (by rfl) T.max Dc (Qo (YF (NX:=Zak) (sc:=Qx BK) (N:=ZaK) (f:=[none,none]) rfl (by decide +kernel) rfl rfl (T3 (QL QM (pv 1) Qz)) (fun _=>(UQ (n:=2) rfl (YU (Zw (i:=0) (show(ZaK:Qh).Nodup by decide +kernel) rfl Qa) (YU (Zw (i:=1) (show(ZaK:Qh).Nodup by decide +kernel) rfl Qa) UW)))) (fun _=>(Nq (n:=2) (B0 VI (B0 VI NA)))) (fun _=>Wp) (fun _=>(Zy TN (by rfl) T.max Dc (Qo (pv 1) Qs)))) Qs)) Qz (Z4 _)) (Q7 (QW (i:=6) WL.nd rfl Qa (Zy (MZ rfl) (by rfl) T.min GY (Qo (pv 6) (Qo Qz Qs))))) Z3)
 (Q5 (QW (i:=7) WL.nd rfl Qa (Zb V9 Qz (QG XaU hr (Qo (pv 0) (Qo (pv 6) Qs)))))
 (Q7 (QT (YL (Qo (pv 5) (Qo (pv 3) (Qo (pv 4) (Qo (pv 7) (Qo (Zb V9 Qz (QG XaU hr (Qo (pv 0) (Qo (pv 6) Qs)))) Qs))))))))))))))),?_⟩
   show EvR K _ [some (.own v (olP [.int a,.int b])),some (.fz (Zd y)),some (.fz (.int 0)),none,none,none,none,none] _
   walk_at"x"
   have t1:=ok.t1;have t8:=ok.t8;have l1:=ok.l1;have l5:=ok.l5;have q30:(0:Int)<10^(30:Int).toNat-1/\(10:Int)^(30:Int).toNat-1<10^30:=by decide +kernel
   have q31:(20:Int)<10^30:=by decide +kernel
   have eT:∀{ρ:Q6},ρ[1]?=some (some (.fz (Zd y)))->Qt K (tOp (rIx K) (Q8 1) (tC (.int 0))) ρ (.int (y.T:Int)):=fun e=>Wh (ds:=[PyData.int (y.T:Int),.tuple (y.ls.map VY)]) (Qu e) QC rfl;have eL:∀{ρ:Q6},ρ[1]?=some (some (.fz (Zd y)))->Qt K (tOp (rIx K) (Q8 1) (tC (.int 1))) ρ (.tuple (y.ls.map VY)):=fun e=>Wh (ds:=[PyData.int (y.T:Int),.tuple (y.ls.map VY)]) (Qu e) QC rfl;refine ZJ (fun ρ'=>∃(fs:Nat) (a b:Int),fs<y.T/\ρ'=[some (.own v (olP [.int a,.int b])),some (.fz (Zd y)),some (.fz (.int 0)),some (.fz (.int (fs:Int))),none,none,none,none]) (Br (Yq rfl (eT rfl) (by omega) (Mt t8)) ?_) ?_
   ·rintro n _ ⟨n0,n1,a,b,rfl⟩
    refine⟨n.toNat,a,b,by omega,?_⟩;rw[X7 n0];rfl
   rintro _ ⟨fs,a,b,hfs,rfl⟩
   refine ZJ (fun ρ'=>ρ'=[some (.own v (olP [.int a,.int b])),some (.fz (Zd y)),some (.fz (.int 0)),some (.fz (.int (fs:Int))),none,none,none,none]) (Z7 (b:=false) (GN (b:=false) (c:=false) (Zh.cast (ZQ (De (Qu rfl) (Qu rfl) (eT rfl))) ?_) (fun c=>nomatch c)) (fun c=>nomatch c) (fun _=>ZD rfl)) ?_
   ·rw[XS (show ¬(fs:Int)<0 by omega)]
    rfl
   rintro _ rfl
   refine ZJ (fun ρ'=>∃(la:Nat) (a b:Int),fs<=la/\la<y.T/\ρ'=[some (.own v (olP [.int a,.int b])),some (.fz (Zd y)),some (.fz (.int 0)),some (.fz (.int (fs:Int))),some (.fz (.int (la:Int))),none,none,none]) (Cp rfl (Yq rfl (ZB (eT rfl) (Qu rfl)) (by omega) (Int.le_trans (show(y.T:Int)-(fs:Int)<=(y.T:Int) by omega) (Mt t8))) ?_) ?_
   ·rintro n _ ⟨n0,n1,a,b,rfl⟩
    refine ZV (ZB (Qu rfl) QC) ⟨((fs:Int)+n).toNat,a,b,by omega,by omega,?_⟩;rw[X7 (by omega)];rfl
   rintro _ ⟨la,a,b,hla1,hla2,rfl⟩
   refine ZJ (fun ρ'=>∃(li:Nat) (a b:Int),li<y.ls.length/\ρ'=[some (.own v (olP [.int a,.int b])),some (.fz (Zd y)),some (.fz (.int 0)),some (.fz (.int (fs:Int))),some (.fz (.int (la:Int))),some (.fz (.int (li:Int))),none,none]) (Br (Yq rfl (Qt.cast (MV (eL rfl)) (show _=PyData.int (y.ls.length:Int) by rw[Xn])) (by omega) (Mt (by omega))) ?_) ?_
   ·rintro n _ ⟨n0,n1,a,b,rfl⟩
    refine⟨n.toNat,a,b,by omega,?_⟩;rw[X7 n0];rfl
   rintro _ ⟨li,a,b,hli,rfl⟩
   refine ZJ (fun ρ'=>∃sc a b:Int,0<sc/\sc<10^30/\ρ'=[some (.own v (olP [.int a,.int b])),some (.fz (Zd y)),some (.fz (.int 0)),some (.fz (.int (fs:Int))),some (.fz (.int (la:Int))),some (.fz (.int (li:Int))),some (.fz (.int sc)),none]) (Su (ds:=[.int 4,.int 9,.int 20,.int (10^(30:Int).toNat-1)]) (EvO.fz (V0 (Zc QC (Zc QC (Zc QC (Zc (ZB (Ve QC QC (GD (by decide) (by decide))) QC) ZC)))) (by show(4:Nat)<=1000;decide))) (Yq rfl QC (by decide) (by decide +kernel)) ?_) ?_
   ·rintro n _ ⟨n0,n1,a,b,rfl⟩
    obtain rfl|rfl|rfl|rfl:n=0\/n=1\/n=2\/n=3:=by omega
    ·exact⟨_,rfl,4,a,b,by decide,by omega,rfl⟩
    ·exact⟨_,rfl,9,a,b,by decide,by omega,rfl⟩
    ·exact⟨_,rfl,20,a,b,by decide,by omega,rfl⟩
    ·exact⟨_,rfl,_,a,b,q30.1,q30.2,rfl⟩
   rintro _ ⟨sc,a,b,s0,s1,rfl⟩
   have ne:∀l∈y.ls,l.bs≠[]:=fun l hl z=>by
    have:=ok.bl l hl
    rw[z]at this;have:(0:Nat)=y.T:=this;omega
   have nel:(y.ls.map fun l=>mxB l.bs)≠[]:=fun z=>by
    have:=XX List.length z
    rw[Xn]at this;have:y.ls.length=0:=this;omega
   obtain⟨mx1,mx2⟩:=Nw nel;refine ZJ (fun ρ'=>∃sc:Int,0<sc/\sc<10^30/\ρ'=[some (.own v (olP [.int a,.int b])),some (.fz (Zd y)),some (.fz (.int 0)),some (.fz (.int (fs:Int))),some (.fz (.int (la:Int))),some (.fz (.int (li:Int))),some (.fz (.int sc)),none]) (Z7 (b:=decide (mxB (y.ls.map fun l=>mxB l.bs)<20)) (Zh.cast (ZQ (YJ (TX (ns:=y.ls.map fun l=>mxB l.bs) (Qt.cast (EvO.fz (UL (xs:=y.ls) (enc:=VY) (h:=fun l=>.int (mxB l.bs)) ?ei (by omega) ?el)) (by rw[Ys];rfl)) rfl mx1 mx2) QC)) rfl) (fun _=>?_) (fun _=>ZD ⟨sc,s0,s1,rfl⟩)) ?_
   case ei=>exact K3 (eL rfl)
   case el =>
    intro l hl c;obtain⟨k1,k2⟩:=Nw (ne l hl);refine⟨_,WZ (ds:=[upD l.up,.tuple (l.bs.map PyData.int)]) (Y2 Z8 (Y2 Z8 Ud)) rfl,?_⟩
    walk_at"e"
    exact T6 (ns:=l.bs) (Qu rfl) rfl k1 k2
   ·refine ZV (K9 (Qu rfl) QC) ⟨min sc 20,by omega,by omega,rfl⟩
   rintro _ ⟨sc,s0,s1,rfl⟩
   refine ZJ (fun ρ'=>∃wa a b:Int,1<=wa/\wa<10^30/\ρ'=[some (.own v (olP [.int a,.int b])),some (.fz (Zd y)),some (.fz (.int 0)),some (.fz (.int (fs:Int))),some (.fz (.int (la:Int))),some (.fz (.int (li:Int))),some (.fz (.int sc)),some (.fz (.int wa))]) (RF (Yq rfl (Qu rfl) s0 (p60 (Int.le_of_lt s1))) ?_) ?_
   ·rintro n _ ⟨n0,n1,a,b,rfl⟩
    refine ZV (ZB QC QC) ⟨1+n,a,b,by omega,by omega,rfl⟩
   rintro _ ⟨wa,a,b,w1,w2,rfl⟩
   refine LG rfl rfl rfl rfl (Yq rfl (Qu rfl) s0 (p60 (Int.le_of_lt s1))) ?_
   rintro n _ ⟨n0,n1,a,b,rfl⟩
   refine GV (YH (ds:=[.int (li:Int),.int (fs:Int),.int (la:Int),.int wa,.int (1+n)]) (Zc (Qu rfl) (Zc (Qu rfl) (Zc (Qu rfl) (Zc (Qu rfl) (Zc (ZB QC QC) ZC))))) (by show(5:Nat)<=1000;decide)) ⟨_,⟨⟨li,fs,la,wa,1+n⟩,⟨⟨hli,hla1,hla2,w1,Dk w2,by show 1<=1+n;omega,Dk (by show 1+n<_;omega)⟩,w2,by show 1+n<_;omega⟩,rfl⟩,rfl⟩
inductive R_iswhole:List OT->OT->Prop
 |mk {i:Int}:R_iswhole [.fz (.int i)] (.fz (.bool true))
def EF:Qp ["thing"] ["thing"] (Qx Hx):=by walk_at"p"
def Er (T:Bl mg) (D:Df K mg "is_whole" Hx ["thing"]):QD P w K mg base "is_whole" ["thing"] 1 (QN (K:=K) R_iswhole):=by
 refine D.ev EF (fun ts r h=>by cases h;rfl) (fun _ _ _ _ s H E ts r hr h=>?_)
 cases h with
 |@mk i =>
   refine⟨_,(Q7 (QT (Ul (Zy Ue (by rfl) T.isi VP (Qo (pv 0) (Qo (Wn (v:=.ty "int") rfl T.int ME rfl) Qs))) (Uf (PY (Zy Ue (by rfl) T.isi VP (Qo (pv 0) (Qo (Wn (v:=.ty "bool") rfl T.bool TQ rfl) Qs)))))))),?_⟩;show Q1 K _ [some _] _
   walk_at"x"
   exact Vj (Jj (b:=true) (Uc (Qu rfl) rfl) (fun _=>K8 (b:=false) (Uc (Qu rfl) rfl))) rfl
inductive R_within:List OT->OT->Prop
 |mk {i lo hi:Int}:R_within [.fz (.int i),.fz (.int lo),.fz (.int hi)] (.fz (.bool (decide (lo<=i)&&decide (i<hi))))
def ID:Qp Zap Zap (Qx HI):=by walk_at"p"
def C4 (T:Bl mg) (D:Df K mg "is_whole_within" HI Zap) (XbE:QD P w K mg base "is_whole" ["thing"] 1 (QN (K:=K) R_iswhole)):QD P w K mg base "is_whole_within" Zap 2 (QN (K:=K) R_within):=by
 refine D.ev ID (fun ts r h=>by cases h;rfl) (fun _ _ _ _ s H E ts r hr h=>?_)
 cases h with
 |@mk i lo hi =>
   refine⟨_,(Q7 (QT (Ul (QG XbE hr (Qo (pv 0) Qs)) (Uf (Rm M7 JY (pv 1) (pv 0) (pv 2)))))),?_⟩;show Q1 K _ [some _,some _,some _] _
   walk_at"x"
   exact Vj (Jj (b:=true) (Ze (Qw (Qu rfl) Q9) R_iswhole.mk) (fun _=>De (Qu rfl) (Qu rfl) (Qu rfl))) rfl
inductive R_isamount:List OT->OT->Prop
 |mk {i:Int} (h0:1<=i) (h1:i<10^30):R_isamount [.fz (.int i),.fz (.int 1)] (.fz (.bool true))
def Ih:Qp ZaG ZaG (Qx Hg):=by walk_at"p"
def EU (T:Bl mg) (D:Df K mg "is_amount" Hg ZaG) (XaW:QD P w K mg base "is_whole_within" Zap 2 (QN (K:=K) R_within)):QD P w K mg base "is_amount" ZaG 3 (QN (K:=K) R_isamount):=by
 refine D.ev Ih (fun ts r h=>by cases h;rfl) (fun _ _ _ _ s H E ts r hr h=>?_)
 cases h with
 |@mk i h0 h1 =>
   refine⟨_,(Q7 (QT (QG XaW hr (Qo (pv 0) (Qo (pv 1) (Qo (Zb MO Qz Qz) Qs)))))),?_⟩;show Q1 K _ [some _,some _] _
   walk_at"x"
   have e:(10:Int)^30=10^(30:Int).toNat:=by decide +kernel
   rw[e]at h1;refine Vj (Qt.cast (Ze (Qw (Qu rfl) (Qw (Qu rfl) (Qw (Ve QC QC (GD (by decide) (by decide))) Q9))) R_within.mk) ?_) rfl;rw[XV h0,XV h1];rfl
inductive R_tupof:List OT->OT->Prop
 |mk {g:Gs}:R_tupof [.fz (QK g),.fz (.int 5)] (.fz (.bool true))
def Is:Qp ZaD ZaD (Qx HB):=by walk_at"p"
def Cw (T:Bl mg) (D:Df K mg "is_tuple_of" HB ZaD):QD P w K mg base "is_tuple_of" ZaD 1 (QN (K:=K) R_tupof):=by
 refine D.ev Is (fun ts r h=>by cases h;rfl) (fun _ _ _ _ s H E ts r hr h=>?_)
 cases h with
 |@mk g =>
   refine⟨_,(Q7 (QT (Ul (Zy Ue (by rfl) T.isi VP (Qo (pv 0) (Qo (Wn (v:=.ty "tuple") rfl T.tuple Bw rfl) Qs))) (Uf (Jn Mz (Zy Yz (by rfl) T.len Y1 (Qo (pv 0) Qs)) (pv 1) (Z4 _)))))),?_⟩;show Q1 K _ [some _,some _] _
   walk_at"x"
   exact Vj (Jj (b:=true) (Uc (Qu rfl) rfl) (fun _=>GJ (MV (ds:=[.int (g.line:Int),.int (g.first:Int),.int (g.last:Int),.int g.want,.int g.most]) (Qu rfl)) (Qu rfl))) rfl
inductive R_isguest:List OT->OT->Prop
 |mk {y:Yd} {g:Gs} (h:G30 y g):R_isguest [.fz (Zd y),.fz (QK g)] (.fz (.bool true))
def EC:Qp ZaH ZaH (Qx Hz):=by walk_at"p"
def Ek (T:Bl mg) (D:Df K mg "is_guest" Hz ZaH) (XbF:QD P w K mg base "is_tuple_of" ZaD 1 (QN (K:=K) R_tupof)) (XaW:QD P w K mg base "is_whole_within" Zap 2 (QN (K:=K) R_within)) (XaX:QD P w K mg base "line_count" Zaz 1 (QN (K:=K) R_count)) (XaT:QD P w K mg base "turns_of" Zaz 1 (QN (K:=K) R_turns)) (Xbi:QD P w K mg base "is_amount" ZaG 3 (QN (K:=K) R_isamount)):QD P w K mg base "is_guest" ZaH 4 (QN (K:=K) R_isguest):=by
 refine D.ev EC (fun ts r h=>by cases h;rfl) (fun _ _ _ _ s H E ts r hr h=>?_)
 cases h with
 |@mk y g h =>
   refine⟨_,(Q5 (Z2 (Yo (V1 (QG XbF hr (Qo (pv 1) (Qo Qz Qs))))) (Q7 (QT YG)) Z3)
 (Q5 (Z2 (Yo (V1 (QG XaW hr (Qo (QL QM (pv 1) Qz) (Qo Qz (Qo (QG XaX hr (Qo (pv 0) Qs)) Qs)))))) (Q7 (QT YG)) Z3)
 (Q5 (Z2 (Yo (V1 (QG XaW hr (Qo (QL QM (pv 1) Qz) (Qo Qz (Qo (QG XaT hr (Qo (pv 0) Qs)) Qs)))))) (Q7 (QT YG)) Z3)
 (Q5 (Z2 (Yo (V1 (QG XaW hr (Qo (QL QM (pv 1) Qz) (Qo (QL QM (pv 1) Qz) (Qo (QG XaT hr (Qo (pv 0) Qs)) Qs)))))) (Q7 (QT YG)) Z3)
 (Q7 (QT (Ul (QG Xbi hr (Qo (QL QM (pv 1) Qz) (Qo Qz Qs))) (Uf (QG Xbi hr (Qo (QL QM (pv 1) Qz) (Qo Qz Qs))))))))))),?_⟩
   show Q1 K _ [some _,some _] _
   walk_at"x"
   obtain⟨⟨k1,k2,k3,k4,_,k6,_⟩,k5,k7⟩:=h;have it:∀{ρ:Q6} {n:Int} {d:PyData},ρ[1]?=some (some (.fz (QK g)))->atI [.int (g.line:Int),.int (g.first:Int),.int (g.last:Int),.int g.want,.int g.most] n=some d->Qt K (tOp (rIx K) (Q8 1) (tC (.int n))) ρ d:=fun e h=>Wh (Qu e) QC h;refine QH (Z7 (b:=false) (Yp (b:=true) (Vf (Ze (Qw (Qu rfl) (Qw QC Q9)) R_tupof.mk))) (fun c=>nomatch c) (fun _=>ZD ?_));refine QH (Z7 (b:=false) (Yp (b:=true) (Vf (Qt.cast (Ze (Qw (it rfl rfl) (Qw QC (Qw (Ze (Qw (Qu rfl) Q9) R_count.mk) Q9))) R_within.mk) ?_))) (fun c=>nomatch c) (fun _=>ZD ?_))
   ·rw[XV (show(0:Int)<=(g.line:Int) by omega),XV (show(g.line:Int)<(y.ls.length:Int) by omega)]
    rfl
   refine QH (Z7 (b:=false) (Yp (b:=true) (Vf (Qt.cast (Ze (Qw (it rfl rfl) (Qw QC (Qw (Ze (Qw (Qu rfl) Q9) R_turns.mk) Q9))) R_within.mk) ?_))) (fun c=>nomatch c) (fun _=>ZD ?_))
   ·rw[XV (show(0:Int)<=(g.first:Int) by omega),XV (show(g.first:Int)<(y.T:Int) by omega)]
    rfl
   refine QH (Z7 (b:=false) (Yp (b:=true) (Vf (Qt.cast (Ze (Qw (it rfl rfl) (Qw (it rfl rfl) (Qw (Ze (Qw (Qu rfl) Q9) R_turns.mk) Q9))) R_within.mk) ?_))) (fun c=>nomatch c) (fun _=>ZD ?_))
   ·rw[XV (show(g.first:Int)<=(g.last:Int) by omega),XV (show(g.last:Int)<(y.T:Int) by omega)]
    rfl
   exact Vj (Jj (b:=true) (Ze (Qw (it rfl rfl) (Qw QC Q9)) (R_isamount.mk k4 k5)) (fun _=>Ze (Qw (it rfl rfl) (Qw QC Q9)) (R_isamount.mk k6 k7))) rfl
def Td:NoH "now" := fun _ _ _ _ _ _=>rfl
def NF:NoH "come" := fun _ _ _ _ _ _=>rfl
def Dl:NoH "rest" := fun _ _ _ _ _ _=>rfl
def N5:NoH "open_ones" := fun _ _ _ _ _ _=>rfl
def R4:NoH "gifts" := fun _ _ _ _ _ _=>rfl
def NB:NoH "yard_now" := fun _ _ _ _ _ _=>rfl
def Rt:NoH "still_there" := fun _ _ _ _ _ _=>rfl
def Dm:NoH "refuse_past" := fun _ _ _ _ _ _=>rfl
def NW:NoH "turn" := fun _ _ _ _ _ _=>rfl
def Ty:NoH "refuse_number" := fun _ _ _ _ _ _=>rfl
def Iw:Qp ZaM ZaM (Qx Uy):=by walk_at"p"
def TB {f:Addr} {fd:FuncData} (T:Bl mg) (UH:HandC K CH) (F:Fun K "__init__" "Hand.__init__" Uy f fd):FnOk P w K mg base CX0 1 f fd ZaM (G7 CH):=by
 refine F.ok Iw (fun vs H Q E ⟨x,dx,y,e,_⟩=>by rw[e];rfl) fun cdv A outer s H vs Q E hr ⟨x,dx,y,e,hx,q⟩=>?_;subst e;refine⟨_,(Q5 (YM (pv 0) (pv 1) rfl)
 (Q5 (YM (pv 0) Qz rfl)
 (Q5 (YM (pv 0) (Z6 Qs) rfl)
 (Q5 (YM (pv 0) (Z6 Qs) rfl)
 (Q5 (YM (pv 0) RG rfl)
 (Q7 (YM (pv 0) (Z6 Qs) rfl))))))),?_⟩
 refine⟨y,rfl,_,rfl,x,CH,dx,[],rfl,hx,UH.cl,UH.yd,by decide,?_⟩;refine⟨_,rfl,x,CH,dx,[("yard",y)],rfl,by rw[QA];rfl,UH.cl,UH.pr,(by show(1:Nat)<1000;decide),?_⟩;refine⟨XF _,fun k hk=>⟨_,rfl,x,CH,dx,[("yard",y),("present",.int 0)],rfl,?_,UH.cl,UH.kn,(by show(2:Nat)<1000;decide),?_⟩⟩
 ·have xk:x≠k:=Zp QA hk
  rw[Qr xk,QA];rfl
 have xk:x≠k:=Zp QA hk;rw[Qr (Ne.symm xk),Qr (Ne.symm xk)]at hk;refine⟨XF _,fun g hg=>⟨_,rfl,x,CH,dx,[("yard",y),("present",.int 0),("known",.ref k)],rfl,?_,UH.cl,UH.gv,(by show(3:Nat)<1000;decide),?_⟩⟩
 ·have xg:x≠g:=Zp QA hg
  rw[Qr xg,QA];rfl
 have xg:x≠g:=Zp QA hg;rw[Qr (Ne.symm xg)]at hg;have kg:k≠g:=Zp QA hg;rw[Qr (Ne.symm kg),Qr (Ne.symm xg),Qr (Ne.symm xg)]at hg;refine fun d hd=>⟨_,rfl,x,CH,dx,[("yard",y),("present",.int 0),("known",.ref k),("given",.ref g)],rfl,?_,UH.cl,UH.go,(by show(4:Nat)<1000;decide),?_⟩
 ·have xd:x≠d:=Zp QA hd
  rw[Qr xd,QA];rfl
 have xd:x≠d:=Zp QA hd;rw[Qr (Ne.symm xd)]at hd;have gd:g≠d:=Zp QA hd;rw[Qr (Ne.symm gd),Qr (Ne.symm xd)]at hd;have kd:k≠d:=Zp QA hd;rw[Qr (Ne.symm kd),Qr (Ne.symm xd),Qr (Ne.symm xd)]at hd;refine⟨XF _,fun m hm=>⟨_,rfl,x,CH,dx,[("yard",y),("present",.int 0),("known",.ref k),("given",.ref g),("gone",.ref d)],rfl,?_,UH.cl,UH.md,(by show(5:Nat)<1000;decide),?_⟩⟩
 ·have xm:x≠m:=Zp QA hm
  rw[Qr xm,QA];rfl
 have xm:x≠m:=Zp QA hm;rw[Qr (Ne.symm xm)]at hm;have dm:d≠m:=Zp QA hm;rw[Qr (Ne.symm dm),Qr (Ne.symm xm)]at hm;have gm:g≠m:=Zp QA hm;rw[Qr (Ne.symm gm),Qr (Ne.symm xm)]at hm;have km:k≠m:=Zp QA hm;rw[Qr (Ne.symm km),Qr (Ne.symm xm),Qr (Ne.symm xm)]at hm;refine q k g d m _ hk hg hd hm ?_ ?_ ?_ ?_ ?_ ?_ (fun b hb=>?_)
 ·simp only[Xu,Xf,XQ,or_false,not_or,not_false_eq_true,WP,and_true]
  exact⟨⟨xk,xg,xd,xm⟩,⟨kg,kd,km⟩,⟨gd,gm⟩,dm⟩
 ·rw[QA];rfl
 ·rw[Qr (Ne.symm xk),Qr km,Qr (Ne.symm xk),Qr kd,Qr (Ne.symm xk),Qr kg,Qr (Ne.symm xk),QA]
 ·rw[Qr (Ne.symm xg),Qr gm,Qr (Ne.symm xg),Qr gd,Qr (Ne.symm xg),QA]
 ·rw[Qr (Ne.symm xd),Qr dm,Qr (Ne.symm xd),QA]
 ·rw[Qr (Ne.symm xm),QA]
 ·simp only[Xf,XQ,or_false,not_or]at hb
  obtain⟨b1,b2,b3,b4,b5⟩:=hb;rw[Qr b1,Qr b5,Qr b1,Qr b4,Qr b1,Qr b3,Qr b1,Qr b2,Qr b1,Qr b1]
inductive R_hpast (CH:Addr):List OT->(OT->Prop)->Prop
 |mk {N:HandS} {t:Int} (h:N.now<=t):R_hpast CH [.zow (Zo CH N),.fz (.int t)] (fun r=>r=.fz .none)
def Iy:Qp Zax Zax (Qx J9):=by walk_at"p"
def FV (T:Bl mg) (UH:HandC K CH) (D:Mf K CH "refuse_past" "Hand.refuse_past" J9 Zax):Zi P w K mg base CH "refuse_past" Zax 1 (QY K (R_hpast CH)):=by
 refine D.evD Iy (fun ts Φ h=>by cases h;rfl) (fun _ _ _ _ s H E ts Φ hr h=>?_)
 cases h with
 |@mk N t h =>
   refine⟨_,(Q7 (Z2 (ZR JY (pv 1) (Zj (pv 0) rfl) (Z4 _)) (Q7 Bq) Z3)),?_⟩;show Q1 K _ [some _,some _] _
   walk_at"x"
   exact Z7 (b:=false) (Zh.cast (ZQ (YJ (Qu rfl) (Bx UH rfl))) (XS (by omega))) (fun c=>nomatch c) (fun _=>ZD rfl)
inductive R_withw:List OT->OT->Prop
 |mk {g:Gs} {z:Int}:R_withw [.fz (QK g),.fz (.int z)] (.fz (QK { g with want:=z }))
def ER:Qp ZaI ZaI (Qx Hb):=by walk_at"p"
def CD (T:Bl mg) (D:Df K mg "with_want" Hb ZaI):QD P w K mg base "with_want" ZaI 1 (QN (K:=K) R_withw):=by
 refine D.ev ER (fun ts r h=>by cases h;rfl) (fun _ _ _ _ s H E ts r hr h=>?_)
 cases h with
 |@mk g z =>
   refine⟨_,(Q7 (QT (YL (Qo (QL QM (pv 0) Qz) (Qo (QL QM (pv 0) Qz) (Qo (QL QM (pv 0) Qz) (Qo (pv 1) (Qo (QL QM (pv 0) Qz) Qs)))))))),?_⟩;show Q1 K _ [some _,some _] _
   walk_at"x"
   have it:∀{ρ:Q6} {n:Int} {d:PyData},ρ[0]?=some (some (.fz (QK g)))->atI [.int (g.line:Int),.int (g.first:Int),.int (g.last:Int),.int g.want,.int g.most] n=some d->Qt K (tOp (rIx K) (Q8 0) (tC (.int n))) ρ d:=fun e h=>Wh (Qu e) QC h;exact Vj (YH (ds:=[.int (g.line:Int),.int (g.first:Int),.int (g.last:Int),.int z,.int g.most]) (Zc (it rfl rfl) (Zc (it rfl rfl) (Zc (it rfl rfl) (Zc (Qu rfl) (Zc (it rfl rfl) ZC))))) (by show(5:Nat)<=1000;decide)) rfl
inductive R_stay:List OT->OT->Prop
 |mk {g:Gs} {n:Nat}:R_stay [.fz (QK g),.fz (.int (n:Int))] (.fz (QK { g with first:=max g.first n }))
def Ip:Qp Zan Zan (Qx HK):=by walk_at"p"
def TV (T:Bl mg) (D:Df K mg "staying_from" HK Zan):QD P w K mg base "staying_from" Zan 1 (QN (K:=K) R_stay):=by
 refine D.ev Ip (fun ts r h=>by cases h;rfl) (fun _ _ _ _ s H E ts r hr h=>?_)
 cases h with
 |@mk g n =>
   refine⟨_,(Q7 (QT (YL (Qo (QL QM (pv 0) Qz) (Qo (Zy (Th rfl) (by rfl) T.max Dc (Qo (QL QM (pv 0) Qz) (Qo (pv 1) Qs))) (Qo (QL QM (pv 0) Qz) (Qo (QL QM (pv 0) Qz) (Qo (QL QM (pv 0) Qz) Qs)))))))),?_⟩;show Q1 K _ [some _,some _] _
   walk_at"x"
   have it:∀{ρ:Q6} {n:Int} {d:PyData},ρ[0]?=some (some (.fz (QK g)))->atI [.int (g.line:Int),.int (g.first:Int),.int (g.last:Int),.int g.want,.int g.most] n=some d->Qt K (tOp (rIx K) (Q8 0) (tC (.int n))) ρ d:=fun e h=>Wh (Qu e) QC h;refine Vj (Qt.cast (YH (ds:=[.int (g.line:Int),.int (max (g.first:Int) (n:Int)),.int (g.last:Int),.int g.want,.int g.most]) (Zc (it rfl rfl) (Zc (KI (it rfl rfl) (Qu rfl)) (Zc (it rfl rfl) (Zc (it rfl rfl) (Zc (it rfl rfl) ZC))))) (by show(5:Nat)<=1000;decide)) ?_) rfl;have e:max (g.first:Int) (n:Int)=((max g.first n:Nat):Int):=by omega
   rw[e];rfl
def JX (N:HandS)(k:Nat)(z:Int):Prop := ∃(g:Gs) (x:Int),N.known[k]?=some (QK g)/\N.given[k]?=some x/\z=if (Yc N.gone (.inl (k:Int))).isSome then 0 else g.want-x
inductive R_hnum (CH:Addr):List OT->(OT->Prop)->Prop
 |mk {N:HandS} {k:Nat} (h:k<N.known.length):R_hnum CH [.zow (Zo CH N),.fz (.int (k:Int))] (fun r=>r=.fz .none)
def IF:Qp Zai Zai (Qx JB):=by walk_at"p"
def T4 (T:Bl mg) (UH:HandC K CH) (D:Mf K CH "refuse_number" "Hand.refuse_number" JB Zai) (XaW:QD P w K mg base "is_whole_within" Zap 2 (QN (K:=K) R_within)):Zi P w K mg base CH "refuse_number" Zai 3 (QY K (R_hnum CH)):=by
 refine D.evD IF (fun ts Φ h=>by cases h;rfl) (fun _ _ _ _ s H E ts Φ hr h=>?_)
 cases h with
 |@mk N k h =>
   refine⟨_,(Q7 (Z2 (Yo (V1 (QG XaW hr (Qo (pv 1) (Qo Qz (Qo (Zy Yz (by rfl) T.len Y1 (Qo (Zj (pv 0) rfl) Qs)) Qs)))))) (Q7 Bq) Z3)),?_⟩;show Q1 K _ [some _,some _] _
   walk_at"x"
   refine Z7 (b:=false) (Yp (b:=true) (Vf (Qt.cast (Ze (Qw (Qu rfl) (Qw QC (Qw (US (Gk UH rfl)) Q9))) R_within.mk) ?_))) (fun c=>nomatch c) (fun _=>ZD rfl);rw[XV (show(0:Int)<=(k:Int) by omega),XV (show(k:Int)<(N.known.length:Int) by omega)]
   rfl
def Cg {N:HandS}{k:Nat}{x:Int}(hx:N.given[k]?=some x):atI (N.given.map PyData.int) (k:Int)=some (.int x):=Y3 (by rw[Xt,hx];rfl)
inductive R_hrest (CH:Addr):List OT->(OT->Prop)->Prop
 |mk {N:HandS} {k:Nat} {z:Int} (h:JX N k z):R_hrest CH [.zow (Zo CH N),.fz (.int (k:Int))] (fun r=>r=.fz (.int z))
def EO:Qp Zai Zai (Qx J5):=by walk_at"p"
def Co (T:Bl mg) (UH:HandC K CH) (D:Mf K CH "rest" "Hand.rest" J5 Zai) (XbG:Zi P w K mg base CH "refuse_number" Zai 3 (QY K (R_hnum CH))) (Xa1:QD P w K mg base "want_of" Zas 1 (QN (K:=K) R_want)):Zi P w K mg base CH "rest" Zai 4 (QY K (R_hrest CH)):=by
 refine D.evD EO (fun ts Φ h=>by cases h;rfl) (fun _ _ _ _ s H E ts Φ hr h=>?_)
 cases h with
 |@mk N k z h =>
   refine⟨_,(Q5 (Zv (Jo XbG UH hr (pv 0) (Qo (pv 1) Qs)))
 (Q5 (Z2 (Ug (MW (Ye hr) (pv 1) (Zj (pv 0) rfl))) (Q7 (QT Qz)) Z3)
 (Q7 (QT (Zb Wi (QG Xa1 hr (Qo (QL QM (Zj (pv 0) rfl) (pv 1)) Qs)) (QL QM (Zj (pv 0) rfl) (pv 1))))))),?_⟩
   show Q1 K _ [some _,some _] _
   walk_at"x"
   obtain⟨g,x,hg,hx,rfl⟩:=h;have hl:=(Xh.mp hg).1;refine QH (Gf (Y7 Ty rfl (Qw (Qu rfl) Q9) (R_hnum.mk hl)) ?_);refine QH (Z7 (b:=(Yc N.gone (.inl (k:Int))).isSome) (ZQ (Ay (k:=.inl (k:Int)) UH (Qu rfl) rfl)) (fun c=>?_) (fun c=>ZD ?_))
   ·rw[c]
    exact Vj QC rfl
   ·rw[c]
    exact Vj (ZB (Ze (Qw (VO (Gk UH rfl) (Qu rfl) (Y3 hg)) Q9) R_want.mk) (VO (Ev UH rfl) (Qu rfl) (Cg hx))) rfl
inductive R_hopen (CH:Addr):List OT->(OT->Prop)->Prop
 |mk {N:HandS} (rs:Qn) (h:∀k,k<N.known.length->JX N k (rs k)) (l:N.known.length<=1000):R_hopen CH [.zow (Zo CH N)] (fun r=>r=.ol (Zl ((List.range N.known.length).filter fun k => !decide (rs k=0))))
def IA:Qp Zag Zag (Qx WO):=by walk_at"p"
def CI (T:Bl mg) (UH:HandC K CH) (D:Mf K CH "open_ones" "Hand.open_ones" WO Zag) (Xa2:Zi P w K mg base CH "rest" Zai 4 (QY K (R_hrest CH))):Zi P w K mg base CH "open_ones" Zag 5 (QY K (R_hopen CH)):=by
 refine D.evD IA (fun ts Φ h=>by cases h;rfl) (fun _ _ _ _ s H E ts Φ hr h=>?_)
 cases h with
 |@mk N rs h l =>
   refine⟨_,(Q7 (QT (YF (NX:=Zag) (sc:=Qx WO) (N:=["number","self"]) (f:=[none,some 0]) rfl (by decide +kernel) rfl rfl (VW rfl T.range (Qo (Zy Yz (by rfl) T.len Y1 (Qo (Zj (pv 0) rfl) Qs)) Qs)) (fun _=>(Zw (i:=0) (show(["number","self"]:Qh).Nodup by decide +kernel) rfl Qa)) (fun _=>VI) (fun _=>(Gd (ZR Kk (Jo Xa2 UH hr (pv 1) (Qo (pv 0) Qs)) Qz (Z4 _)))) (fun _=>(pv 0))))),?_⟩;show Q1 K _ [some _] _
   walk_at"x"
   refine W6 (UP (xs:=List.range N.known.length) (enc:=fun(k:Nat)=>PyData.int (k:Int)) (h:=fun(k:Nat)=>PyData.int (k:Int)) (p:=fun k => !decide (rs k=0)) ?ei (by rw[JF];exact l) ?el) rfl
   case ei =>
    refine EvI.cast (Yh (Qw (US (Gk UH rfl)) Q9) (by rw[z62];omega) (by rw[z62];omega)) ?_;rw[XN];unfold ZS;exact JJ fun i _=>by rw[Y9]
   case el =>
    intro k hk c;have hk:=XT.mp hk;refine⟨_,Z8,?_⟩
    walk_at"e"
    exact⟨ZQ (MB (Uu Dl rfl (Qw (Qu rfl) Q9) (R_hrest.mk (h k hk))) QC),fun _=>Qu rfl⟩
def stl (gs:List Gs)(n:Nat)(rs:Qn)(k:Nat):Gs:={ gs.getD k default with first:=max (gs.getD k default).first n,want:=rs k }
inductive R_hstill (CH:Addr):List OT->(OT->Prop)->Prop
 |mk {N:HandS} {gs:List Gs} {n:Nat} (rs:Qn) (hk:N.known=gs.map QK) (hn:N.now=(n:Int)) (h:∀k,k<gs.length->JX N k (rs k)) (l:gs.length<=900):R_hstill CH [.zow (Zo CH N)] (fun r=>r=.ol ((List.range gs.length).map fun k=>QK (stl gs n rs k)))
def BP:Qp ["self","guests","number","guest"] Zag (Qx JA):=by walk_at"p"
def A3 (T:Bl mg) (UH:HandC K CH) (D:Mf K CH "still_there" "Hand.still_there" JA Zag) (XbH:QD P w K mg base "with_want" ZaI 1 (QN (K:=K) R_withw)) (XbI:QD P w K mg base "staying_from" Zan 1 (QN (K:=K) R_stay)) (Xa2:Zi P w K mg base CH "rest" Zai 4 (QY K (R_hrest CH))):Zi P w K mg base CH "still_there" Zag 5 (QY K (R_hstill CH)):=by
 refine D.evD BP (fun ts Φ h=>by cases h;rfl) (fun _ _ _ _ s H E ts Φ hr h=>?_)
 cases h with
 |@mk N gs n rs hk hn h l =>
   refine⟨_,(Q5 (QW (i:=1) BP.nd rfl Qa (Z6 Qs))
 (Q5 (V7 PassesOwn.never rfl (BM rfl T.enumerate (Qo (Zj (pv 0) rfl) Qs)) (UQ (n:=2) rfl (YU (Zw (i:=2) BP.nd rfl Qa) (YU (Zw (i:=3) BP.nd rfl Qa) UW))) (Q7 (Zv (Vq PySem.F.plainAttrs_list PySem.F.slot_list_append PySem.F.type_list_append Vv (pv 1) (Qo (QG XbH hr (Qo (QG XbI hr (Qo (pv 3) (Qo (Zj (pv 0) rfl) Qs))) (Qo (Jo Xa2 UH hr (pv 0) (Qo (pv 2) Qs)) Qs))) Qs)))))
 (Q7 (QT (pv 1))))),?_⟩
   show Q1 K _ [some _,none,none,none] _
   walk_at"x"
   refine QH (Yf (V0 (ds:=[]) ZC (by decide)) ?_)
   walk_at"d"
   refine QH (Dt (fun i=>[some (.zow (Zo CH N)),some (.ol ((List.range i).map fun k=>QK (stl gs n rs k))),none,none]) (UR (Qw (Qt.cast (Gk UH rfl) (show _=PyData.list (gs.map QK) by rw[hk])) Q9)) ⟨rfl,rfl,trivial⟩ ?st ?fin)
   case st =>
    intro i d hd;obtain⟨d1,e1,rfl⟩:=BB hd
    have hi:i<gs.length:=by
     have:=(Xh.mp e1).1
     simpa using this
    obtain rfl:d1=QK (gs.getD i default):=by simpa [hi] using e1.symm
    refine⟨_,WZ (ds:=[.int (i:Int),QK (gs.getD i default)]) (Y2 Z8 (Y2 Z8 Ud)) rfl,?_⟩
    walk_at"d"
    refine Js rfl (Ze (Qw (Ze (Qw (Qu rfl) (Qw (Qt.cast (Bx UH rfl) (by rw[hn])) Q9)) R_stay.mk) (Qw (Uu Dl rfl (Qw (Qu rfl) Q9) (R_hrest.mk (h i hi))) Q9)) R_withw.mk) (by rw[Xn,JF];omega) ⟨rfl,?_,trivial⟩;rw[X9,Xy];rfl
   case fin =>
    intro ρ' hf;refine MF hf ?_;rw[BC,Xn];exact MT rfl rfl
def hT (y:Yd)(n:Nat)(gs:List Gs)(gv:Ql)(go:Qk)(ms:List QX):HandS:=⟨Zd y,(n:Int),gs.map QK,gv,go.map fun(k:Nat)=>(.inl (k:Int),.bool true),ms⟩
def rsT (gs:List Gs)(gv:Ql)(go:Qk)(k:Nat):Int:=if k∈go then 0 else (gs.getD k default).want-gv.getD k 0
theorem NR (k:Nat):∀go:Qk,(Yc (go.map fun(k:Nat)=>((.inl (k:Int):Key),PyData.bool true)) (.inl (k:Int))).isSome=decide (k∈go)
 |[]=>rfl
 |x::go=>by
   have ih:=NR k go;unfold Yc at ih ⊢;rw[Xv,Xz];by_cases z:x=k
   ·subst z
    simp
   ·have z1:¬((.inl (x:Int):Key)=.inl (k:Int)):=fun q=>z (by injection q with q;omega)
    simp only[z1,decide_false];rw[ih];simp[Ne.symm z]
def Bf {y:Yd}{n:Nat}{gs:List Gs}{gv:Ql}{go:Qk}{ms:List QX}(gl:gv.length=gs.length){k:Nat}(h:k<gs.length):JX (hT y n gs gv go ms) k (rsT gs gv go k):=by
 refine⟨gs.getD k default,gv.getD k 0,by simp[hT,h],by simp[hT,h,gl],?_⟩;show _=if (Yc (go.map fun(k:Nat)=>((.inl (k:Int):Key),PyData.bool true)) (.inl (k:Int))).isSome=true then _ else _;rw[NR];unfold rsT;simp only[decide_eq_true_eq]
def mT (n:Nat)(gs:List Gs)(gv:Ql)(go:Qk):List Gs:=(List.range gs.length).map (stl gs n (rsT gs gv go))
def Wj (n:Nat)(gs:List Gs)(gv:Ql)(go:Qk):(mT n gs gv go).length=gs.length:=by simp[mT]
def Nl (n:Nat)(gs:List Gs)(gv:Ql)(go:Qk):((List.range gs.length).map fun k=>QK (stl gs n (rsT gs gv go) k))=(mT n gs gv go).map QK:=by
 unfold mT;rw[Ys];rfl
def P0 {n:Nat}{gs:List Gs}{gv:Ql}{go:Qk}{k:Nat}(h:k<gs.length):(mT n gs gv go).getD k default=stl gs n (rsT gs gv go) k:=by simp[mT,h]
def Kq {y:Yd}{n:Nat}{gs:List Gs}{gv:Ql}{go:Qk}(hg:∀x∈gs,G30 y x)(h0:∀k,k<gs.length->0<=rsT gs gv go k):∀x∈mT n gs gv go,GOk y x:=fun x hx=>by
 obtain⟨k,hk,rfl⟩:=XI.mp hx;have hk:=XT.mp hk;have g:=(hg (gs.getD k default) (by simp[hk])).ok;have m1:=g.m1
 exact⟨g.ln,h0 k hk,by show 0<=(gs.getD k default).most;omega⟩
inductive R_hcome:HandS->List OT->(OT->HandS->Prop)->Prop
 |mk {y:Yd} {n:Nat} {gs:List Gs} {gv:Ql} {go:Qk} {ms:List QX} {g:Gs} (ok:y.Ok) (hg:∀x∈gs,G30 y x) (gk:G30 y g) (gl:gv.length=gs.length) (gn:n<=g.first) (h0:∀k,k<gs.length->0<=rsT gs gv go k) (l:gs.length<=7) (h:∀S,Vl y (QE (mT n gs gv go++[g])) S<=0):R_hcome (hT y n gs gv go ms) [.fz (QK g)] (fun r N'=>r=.fz (.int (gs.length:Int))/\N'=hT y n (gs++[g]) (gv++[0]) go ms)
inductive X_hcome (CH:Addr):List OT->(Qd->Prop)->Prop
 |mk {y:Yd} {n:Nat} {gs:List Gs} {gv:Ql} {go:Qk} {ms:List QX} {g:Gs} (ok:y.Ok) (hg:∀x∈gs,G30 y x) (gk:G30 y g) (gl:gv.length=gs.length) (gn:n<=g.first) (h0:∀k,k<gs.length->0<=rsT gs gv go k) (l:gs.length<=7) {S:Qm} (h:0<Vl y (QE (mT n gs gv go++[g])) S):X_hcome CH [.zow (Zo CH (hT y n gs gv go ms)),.fz (QK g)] (fun d=>∃S,0<Vl y (QE (mT n gs gv go++[g])) S/\d=Zl (Vg (mT n gs gv go++[g]) S))
def Ia:Qp ZaB ZaB (Qx J4):=by walk_at"p"
def FH (T:Bl mg) (UH:HandC K CH) (XR:XC K mg "NoRoom" YR CR fR) (D:Mf K CH "come" "Hand.come" J4 ZaB) (Xbj:QD P w K mg base "is_guest" ZaH 4 (QN (K:=K) R_isguest)) (Xa6:Zi P w K mg base CH "refuse_past" Zax 1 (QY K (R_hpast CH))) (Xbk:UE P w K mg base "refuse_lack" Zab 7 (spX K CR "some" R_refuse X_refuse)) (Xa7:Zi P w K mg base CH "still_there" Zag 5 (QY K (R_hstill CH))) :
 GH P w K mg base CH "come" ZaB 8 (UA K CH CR "some" R_hcome (X_hcome CH)):=by
 have gus:∀{ρ:Q6} {y:Yd} {n:Nat} {gs:List Gs} {gv:Ql} {go:Qk} {ms:List QX} {g:Gs} {E:XK},gv.length=gs.length->ρ[0]?=some (some (.zow (Zo CH (hT y n gs gv go ms))))->ρ[1]?=some (some (.fz (QK g)))->gs.length<=7->Qt K (tOp Mi (Vr CH "still_there" (QY K (R_hstill CH)) [] E (Q8 0) QO) (WW (QF (Q8 1) QO))) ρ (.list ((mT n gs gv go++[g]).map QK)):=fun{ρ y n gs gv go ms g E} gl e0 e1 l =>
  Qt.cast (EvO.fz (KB (as:=(mT n gs gv go).map QK) (bs:=[QK g]) (Qt.cast (EvO.fz (Zq.o (Y7 Rt e0 Q9 (R_hstill.mk (n:=n) (rsT gs gv go) rfl rfl (fun k hk=>Bf gl hk) (by omega))))) (by rw[Nl])) (EvO.fz (V0 (Zc (Qu e1) ZC) JQ)) (by rw[Xn,Wj];show gs.length+1<=1000;omega))) (by rw[Xy];rfl)
 have it1:∀{ρ:Q6} {g:Gs},ρ[1]?=some (some (.fz (QK g)))->Qt K (tOp (rIx K) (Q8 1) (tC (.int 1))) ρ (.int (g.first:Int)):=fun{ρ g} e=>Wh (ds:=[.int (g.line:Int),.int (g.first:Int),.int (g.last:Int),.int g.want,.int g.most]) (Qu e) QC rfl
 have gks:∀{y:Yd} {n:Nat} {gs:List Gs} {gv:Ql} {go:Qk} {g:Gs},(∀x∈gs,G30 y x)->G30 y g->(∀k,k<gs.length->0<=rsT gs gv go k)->∀x∈mT n gs gv go++[g],GOk y x:=fun hg gk h0 x hx=>by
  rcases Xx.mp hx with hx|hx
  ·exact Kq hg h0 x hx
  ·rw[Xg.mp hx];exact Tv gk.ok
 refine D.evHX Ia (fun M ts Ψ h=>by cases h;rfl) (fun ts Φ h=>by cases h;rfl) (by decide) (fun f cdv A outer s H RR v M ts Ψ hr hst h=>?_) (fun f cdv A outer s F H RR ts Φ hr hst hq h=>?_)
 ·cases h with
  |@mk y n gs gv go ms g ok hg gk gl gn h0 l h =>
    refine⟨_,(Q5 (Z2 (Yo (V1 (QG Xbj hr (Qo (Zj (pv 0) rfl) (Qo (pv 1) Qs))))) (PSs.nox (Q7 Bq)) Z3)
 (Q5 (Zv (Jo Xa6 UH hr (pv 0) (Qo (QL QM (pv 1) Qz) Qs)))
 (Q5 (Zv (NH Xbk hr (Km hst) (Qo (Zj (pv 0) rfl) (Qo (Zb Nj (VR Xa7 UH hr (pv 0)) (Z6 (Qo (pv 1) Qs))) Qs))))
 (PSs.nox (Q5 (Zv (Vq PySem.F.plainAttrs_list PySem.F.slot_list_append PySem.F.type_list_append Vv (Zj (pv 0) rfl) (Qo (pv 1) Qs)))
 (Q5 (Zv (Vq PySem.F.plainAttrs_list PySem.F.slot_list_append PySem.F.type_list_append Vv (Zj (pv 0) rfl) (Qo Qz Qs)))
 (Q7 (QT (Zb Wi (Zy Yz (by rfl) T.len Y1 (Qo (Zj (pv 0) rfl) Qs)) Qz))))))))),?_⟩
    show EvR K _ [some (.own v (QU CH (hT y n gs gv go ms))),some (.fz (QK g))] _
    walk_at"x"
    refine ZJ (fun ρ'=>ρ'=[some (.own v (QU CH (hT y n gs gv go ms))),some (.fz (QK g))]) (Z7 (b:=false) (B2 0 rfl (Yp (b:=true) (Vf (Ze (Qw (Qt.cast (Jy (N:=hT y n gs gv go ms) UH rfl) rfl) (Qw (Qu rfl) Q9)) (R_isguest.mk gk))))) (fun c=>nomatch c) (fun _=>ZD rfl)) ?_
    rintro _ rfl
    refine ZJ (fun ρ'=>ρ'=[some (.own v (QU CH (hT y n gs gv go ms))),some (.fz (QK g))]) (Gf (WH 0 rfl (fun r hr=>by rw[hr];exact Uq rfl) (Y7 Dm rfl (Qw (it1 rfl) Q9) (R_hpast.mk (by show(n:Int)<=(g.first:Int);omega)))) rfl) ?_
    rintro _ rfl
    refine ZJ (fun ρ'=>ρ'=[some (.own v (QU CH (hT y n gs gv go ms))),some (.fz (QK g))]) (Gf (WH 0 rfl (fun r hr=>by rw[hr];exact Uq rfl) (F6 (Qw (Qt.cast (Jy (N:=hT y n gs gv go ms) UH rfl) rfl) (Qw (gus gl rfl rfl l) Q9)) (R_refuse.mk ok (gks hg gk h0) (by rw[Xm,Wj];show gs.length+1<=8;omega) h) hst)) rfl) ?_
    rintro _ rfl
    refine ZJ (fun ρ'=>ρ'=[some (.own v (QU CH { hT y n gs gv go ms with known:=gs.map QK++[QK g] })),some (.fz (QK g))]) (Ab UH rfl (Qu rfl) (by show(gs.map QK).length<1000;rw[Xn];omega) rfl) ?_
    rintro _ rfl
    refine ZJ (fun ρ'=>ρ'=[some (.own v (QU CH (hT y n (gs++[g]) (gv++[0]) go ms))),some (.fz (QK g))]) (Cz (n:=0) UH rfl QC (by show gv.length<1000;omega) ?_) ?_
    ·simp[hT]
    rintro _ rfl
    refine GV (Qt.cast (Gj (d:=.int ((gs.length:Int)+1-1)) 0 rfl rfl (ZB (Qt.cast (US (Gk (N:=hT y n (gs++[g]) (gv++[0]) go ms) UH rfl)) ?_) QC)) ?_) ⟨_,⟨rfl,rfl⟩,rfl⟩
    ·show PyData.int (((gs++[g]).map QK).length:Int)=_
     rw[Xn,Xm];rfl
    ·rw[Int.add_sub_cancel]
 ·cases h with
  |@mk y n gs gv go ms g ok hg gk gl gn h0 l S h =>
    refine⟨_,(Q5 (Z2 (Yo (V1 (QG Xbj hr (Qo (Zj (pv 0) rfl) (Qo (pv 1) Qs))))) (PSs.nox (Q7 Bq)) Z3)
 (Q5 (Zv (Jo Xa6 UH hr (pv 0) (Qo (QL QM (pv 1) Qz) Qs)))
 (Q5 (Zv (NH Xbk hr (Km hst) (Qo (Zj (pv 0) rfl) (Qo (Zb Nj (VR Xa7 UH hr (pv 0)) (Z6 (Qo (pv 1) Qs))) Qs))))
 (PSs.nox (Q5 (Zv (Vq PySem.F.plainAttrs_list PySem.F.slot_list_append PySem.F.type_list_append Vv (Zj (pv 0) rfl) (Qo (pv 1) Qs)))
 (Q5 (Zv (Vq PySem.F.plainAttrs_list PySem.F.slot_list_append PySem.F.type_list_append Vv (Zj (pv 0) rfl) (Qo Qz Qs)))
 (Q7 (QT (Zb Wi (Zy Yz (by rfl) T.len Y1 (Qo (Zj (pv 0) rfl) Qs)) Qz))))))))),?_⟩
    show EvZ K F H _ [some (.zow (Zo CH (hT y n gs gv go ms))),some (.fz (QK g))]
    walk_at"x"
    refine Np (Z7 (b:=false) (Yp (b:=true) (Vf (Ze (Qw (Qt.cast (Jy (N:=hT y n gs gv go ms) UH rfl) rfl) (Qw (Qu rfl) Q9)) (R_isguest.mk gk)))) (fun c=>nomatch c) (fun _=>ZD rfl)) ?_;refine Np (Gf (Y7 Dm rfl (Qw (it1 rfl) Q9) (R_hpast.mk (by show(n:Int)<=(g.first:Int);omega))) rfl) ?_;exact Tw (Lz (Qw (Qt.cast (Jy (N:=hT y n gs gv go ms) UH rfl) rfl) (Qw (gus gl rfl rfl l) Q9)) (X_refuse.mk ok (gks hg gk h0) (by rw[Xm,Wj];show gs.length+1<=8;omega) h) hst hq)
def gfD (f:Qn)(m:Nat):QX:=((List.range m).filter fun k=>decide (f k > 0)).map fun(k:Nat)=>(.inl (k:Int),.int (f k))
def gvT (gv:Ql)(f:Qn)(m i:Nat):Ql:=(List.range m).map fun k=>gv.getD k 0+if k<i then f k else 0
def P5 {gv:Ql}{m:Nat}(h:gv.length=m)(f:Qn):gvT gv f m 0=gv:=by
 subst h;apply List.ext_getElem?;intro i;by_cases hi:i<gv.length
 ·simp[gvT,hi]
 ·simp[gvT,hi]
def Ci {f:Qn}{m i:Nat}(h:m<=i):((gfD f m).any fun kv=>decide (kv.1=(.inl (i:Int):Key)))=false:=by
 rw[List.any_eq_false];intro x hx;unfold gfD at hx;obtain⟨k,hk,rfl⟩:=XI.mp hx;have hk:=XT.mp (List.mem_filter.mp hk).1;simp only[decide_eq_true_eq];intro z;injection z with z;omega
def TK {f:Qn}{i:Nat}(h:f i > 0):JV (gfD f i) (.inl (i:Int)) (.int (f i))=gfD f (i+1):=by
 unfold JV;rw[Ci (Xq _),Xc (by decide)];unfold gfD;rw[X9,U2,Xy];simp[h]
def TR {f:Qn}{i:Nat}(h:¬f i > 0):gfD f (i+1)=gfD f i:=by
 unfold gfD;rw[X9,U2,Xy];simp[h]
def NJ (f:Qn)(m:Nat):(gfD f m).length<=m:=by
 unfold gfD;rw[Xn];exact XZ (BW _ _) (by simp)
def Fx {gv:Ql}{f:Qn}{m i:Nat}(hi:i<m):(gvT gv f m i).set i (gv.getD i 0+f i)=gvT gv f m (i+1):=by
 apply List.ext_getElem?
 intro j;by_cases hj:j<m
 ·by_cases e:j=i
  ·subst e
   rw[Xl (by simp[gvT,hj])];simp[gvT,hj]
  ·rw[Xr (Ne.symm e)]
   simp only[gvT,Xt,List.getElem?_range hj,X4];congr 2
   by_cases c:j<i
   ·rw[Xe c,Xe (by omega)]
   ·rw[Xc c,Xc (by omega)]
 ·rw[List.getElem?_eq_none (by simp[gvT];omega),List.getElem?_eq_none (by simp[gvT];omega)]
def LJ {gv:Ql}{f:Qn}{m i:Nat}(h:f i=0):gvT gv f m (i+1)=gvT gv f m i:=by
 unfold gvT;refine JJ fun k _=>?_
 congr 1
 by_cases c:k<i
 ·rw[Xe c,Xe (by omega)]
 ·by_cases c2:k=i
  ·subst c2
   rw[Xe (by omega),Xc c,h]
  ·rw[Xc c,Xc (by omega)]
def Ni {gv:Ql}{f:Qn}{m i k:Nat}(hk:k<m):(gvT gv f m i)[k]?=some (gv.getD k 0+if k<i then f k else 0):=by simp[gvT,hk]
def FW {y:Yd}{G:Gv}{φ:QP Nd}{i:Nat}(hi:i<G.m):((YQ y G φ).map fun row=>PyData.list (row.map PyData.int))[i]?=some (.list ((List.range y.T).map fun t=>PyData.int (QV G φ t i))):=by
 unfold YQ;simp[hi]
inductive R_hturn:HandS->List OT->(OT->HandS->Prop)->Prop
 |mk {y:Yd} {n:Nat} {gs:List Gs} {gv:Ql} {go:Qk} {ms:List QX} (ok:y.Ok) (hg:∀x∈gs,G30 y x) (gl:gv.length=gs.length) (hn:n<y.T) (h0:∀k,k<gs.length->0<=rsT gs gv go k) (l:gs.length<=8) (ml:ms.length<=8) :
  R_hturn (hT y n gs gv go ms) [] (fun r N'=>∃φ v,JN y (QE (mT n gs gv go)) φ/\r=.own v (dkP (gfD (QV (QE (mT n gs gv go)) φ n) gs.length))/\N'=hT y (n+1) gs (gvT gv (QV (QE (mT n gs gv go)) φ n) gs.length gs.length) go (ms++[gfD (QV (QE (mT n gs gv go)) φ n) gs.length]))
def Gu:Qp ["self","filling","gifts","number","takes"] Zag (Qx J6):=by walk_at"p"
def FQ (T:Bl mg) (UH:HandC K CH) (D:Mf K CH "turn" "Hand.turn" J6 Zag) (Xa6:Zi P w K mg base CH "refuse_past" Zax 1 (QY K (R_hpast CH))) (XaT:QD P w K mg base "turns_of" Zaz 1 (QN (K:=K) R_turns)) (XbJ:QD P w K mg base "best_filling" Zab 6 (QY K R_great)) (Xa7:Zi P w K mg base CH "still_there" Zag 5 (QY K (R_hstill CH))) :
 Zi P w K mg base CH "turn" Zag 7 (spP K (QU CH) R_hturn):=by
 refine D.evP Gu (fun M ts Ψ h=>by cases h;rfl) (fun f cdv A outer s H E v M ts Ψ hr h=>?_)
 cases h with
 |@mk y n gs gv go ms ok hg gl hn h0 l ml =>
   refine⟨_,(Q5 (Zv (Jo Xa6 UH hr (pv 0) (Qo (Zb Wi (QG XaT hr (Qo (Zj (pv 0) rfl) Qs)) Qz) Qs)))
 (Q5 (QW (i:=1) Gu.nd rfl Qa (QG XbJ hr (Qo (Zj (pv 0) rfl) (Qo (VR Xa7 UH hr (pv 0)) Qs))))
 (Q5 (QW (i:=2) Gu.nd rfl Qa RG)
 (Q5 (V7 PassesOwn.never rfl (BM rfl T.enumerate (Qo (pv 1) Qs)) (UQ (n:=2) rfl (YU (Zw (i:=3) Gu.nd rfl Qa) (YU (Zw (i:=4) Gu.nd rfl Qa) UW))) (Q7 (Z2 (ZR W2 (QL QM (pv 4) (Zj (pv 0) rfl)) Qz (Z4 _)) (Q5 (Bk (Ye hr) (pv 2) (pv 3) (QL QM (pv 4) (Zj (pv 0) rfl)) rfl)
 (Q7 (Ga (Zj (pv 0) rfl) (pv 3) Gh (QL QM (pv 4) (Zj (pv 0) rfl)) GU WE))) Z3)))
 (Q5 (Zv (Vq PySem.F.plainAttrs_list PySem.F.slot_list_append PySem.F.type_list_append Vv (Zj (pv 0) rfl) (Qo (pv 2) Qs)))
 (Q5 (C5 (pv 0) Qz PN)
 (Q7 (QT (Wu DD (by rfl) T.dict Bj (Qo (pv 2) Qs)))))))))),?_⟩
   show EvR K _ [some (.own v (QU CH (hT y n gs gv go ms))),none,none,none,none] _
   walk_at"x"
   refine ZJ (fun ρ'=>ρ'=[some (.own v (QU CH (hT y n gs gv go ms))),none,none,none,none]) (Gf (WH 0 rfl (fun r hr=>by rw[hr];exact Uq rfl) (Y7 Dm rfl (Qw (ZB (Ze (Qw (Qt.cast (Jy (N:=hT y n gs gv go ms) UH rfl) rfl) Q9) R_turns.mk) QC) Q9) (R_hpast.mk (by show(n:Int)<=(y.T:Int)-1;omega)))) rfl) ?_
   rintro _ rfl
   refine ZJ (fun ρ'=>∃φ,JN y (QE (mT n gs gv go)) φ/\ρ'=[some (.own v (QU CH (hT y n gs gv go ms))),some (.oll ((YQ y (QE (mT n gs gv go)) φ).map fun row=>row.map PyData.int)),none,none,none]) (VX (WH 0 rfl ?th (Wq (Qw (Qt.cast (Jy (N:=hT y n gs gv go ms) UH rfl) rfl) (Qw (Qt.cast (EvO.fz (Zq.o (Y7 Rt rfl Q9 (R_hstill.mk (n:=n) (rsT gs gv go) rfl rfl (fun k hk=>Bf gl hk) (by omega))))) (by rw[Nl])) Q9)) (R_great.mk ok (Kq hg h0) (by rw[Wj];exact l)))) ?_) ?_
   case th =>
    rintro r ⟨φ,_,rfl⟩
    refine CG fun ds hd=>?_;obtain⟨row,_,rfl⟩:=XI.mp hd;intro d hd';obtain⟨x,_,rfl⟩:=XI.mp hd'
    exact⟨_,rfl⟩
   ·rintro r ⟨φ,full,rfl⟩
    exact⟨φ,full,rfl⟩
   rintro _ ⟨φ,full,rfl⟩
   refine Le 1 rfl rfl ?_
   walk_at"d"
   rw[Ys];have Gm:(QE (mT n gs gv go)).m=gs.length:=Wj n gs gv go;have fn:∀k,k<gs.length->0<=QV (QE (mT n gs gv go)) φ n k:=fun k hk=>(full.1.tak (by rw[Gm];exact hk) hn).1;have frow:∀i,i<gs.length->((YQ y (QE (mT n gs gv go)) φ).map (PyData.list ∘ fun row=>row.map PyData.int))[i]?=some (.list ((List.range y.T).map fun t=>PyData.int (QV (QE (mT n gs gv go)) φ t i))):=fun i hi=>FW (by rw[Gm];exact hi)
   have flen:((YQ y (QE (mT n gs gv go)) φ).map (PyData.list ∘ fun row=>row.map PyData.int)).length=gs.length:=by
    rw[Xn];unfold YQ;rw[Xn,JF,Gm]
   generalize ((YQ y (QE (mT n gs gv go)) φ).map (PyData.list ∘ fun row=>row.map PyData.int))=rows at frow flen;refine ZJ (fun ρ'=>∃w,ρ'=[some (.own v (QU CH (hT y n gs gv go ms))),some (.fz (.list rows)),some (.own w (dkP [])),none,none]) (UY FU fun w=>⟨w,rfl⟩) ?_
   rintro _ ⟨w,rfl⟩
   generalize hf:QV (QE (mT n gs gv go)) φ n=f at fn;have frow':∀i,i<gs.length->∃ts,rows[i]?=some (.list ts)/\atI ts (n:Int)=some (.int (f i)):=fun i hi=>⟨_,frow i hi,by rw[KP (by omega) (by omega),XN,<- hf]⟩;refine ZJ (fun ρ'=>∃u3 u4:Option OT,ρ'=[some (.own v (QU CH (hT y n gs (gvT gv f gs.length gs.length) go ms))),some (.fz (.list rows)),some (.own w (dkP (gfD f gs.length))),u3,u4]) (VV (fun i ρ'=>∃u3 u4:Option OT,ρ'=[some (.own v (QU CH (hT y n gs (gvT gv f gs.length i) go ms))),some (.fz (.list rows)),some (.own w (dkP (gfD f i))),u3,u4]) (UR (Qw (Qu rfl) Q9)) ⟨_,_,by rw[P5 gl];rfl⟩ ?st ?fin) ?_
   case fin =>
    intro ρ' h;rw[BC,flen]at h;exact h
   case st =>
    rintro i d _ hd ⟨u3,u4,rfl⟩
    obtain⟨d1,e1,rfl⟩:=BB hd
    have hi:i<gs.length:=by
     have:=(Xh.mp e1).1
     omega
    obtain⟨ts,t1,t2⟩:=frow' i hi;obtain rfl:d1=.list ts:=by rw[e1]at t1;exact Option.some.inj t1
    refine⟨_,WZ (ds:=[.int (i:Int),.list ts]) (Y2 Z8 (Y2 Z8 Ud)) rfl,?_⟩
    walk_at"d"
    have tk:∀{ρ:Q6} {N:HandS},N.now=(n:Int)->ρ[0]?=some (some (.zow (Zo CH N)))->ρ[4]?=some (some (.fz (.list ts)))->Qt K (tOp (rIx K) (Q8 4) (ZL K (Q8 0) "present")) ρ (.int (f i)):=fun{ρ N} hn e0 e4=>VO (Qu e4) (Qt.cast (Bx UH e0) (by rw[hn])) t2;refine Z7 (b:=decide (f i > 0)) (Zh.cast (B2 0 rfl (ZQ (YJ (tk (N:=hT y n gs (gvT gv f gs.length i) go ms) rfl rfl rfl) QC))) rfl) (fun c=>?_) (fun c=>ZD ?_)
    ·have c:=X0 c
     refine QH (Ri (k:=.inl (i:Int)) (d:=.int (f i)) rfl (Gj 0 rfl rfl (tk (N:=hT y n gs (gvT gv f gs.length i) go ms) rfl rfl rfl)) (Qu rfl) (Gz (NJ f i) (ZH (by omega))) ?_)
     walk_at"d"
     rw[TK c];refine T5 (k:=(i:Int)) (m:=gv.getD i 0+0) (n:=f i) UH rfl (Qu rfl) (by omega) (by show(gvT gv f gs.length i)[(i:Int).toNat]?=_;rw[XN,Ni hi,Xc (XW i)]) (Gj 0 rfl rfl (tk (N:=hT y n gs (gvT gv f gs.length i) go ms) rfl rfl rfl)) ?_;dsimp only[List.set,hT];rw[XN,U7,Fx hi];exact⟨_,_,rfl⟩
    ·have c:=G5 c
     have fi:=fn i hi;rw[TR c,LJ (show f i=0 by omega)]
     exact⟨_,_,rfl⟩
   rintro _ ⟨u3,u4,rfl⟩
   refine CY (j:=2) (by decide) UH rfl rfl (by show ms.length<1000;omega) fun w'=>⟨_,⟨φ,w',full,?_,?_⟩,rfl⟩
   ·rw[hf]
   ·rw[hf]
    rfl
inductive R_hnow (CH:Addr):List OT->(OT->Prop)->Prop
 |mk {N:HandS}:R_hnow CH [.zow (Zo CH N)] (fun r=>r=.fz (.int N.now))
def E2:Qp Zag Zag (Qx Jt):=by walk_at"p"
def LW (T:Bl mg) (UH:HandC K CH) (D:Mf K CH "now" "Hand.now" Jt Zag):Zi P w K mg base CH "now" Zag 1 (QY K (R_hnow CH)):=by
 refine D.evD E2 (fun ts Φ h=>by cases h;rfl) (fun _ _ _ _ s H E ts Φ hr h=>?_)
 cases h with
 |@mk N =>
   refine⟨_,(Q7 (QT (Zj (pv 0) rfl))),?_⟩;show Q1 K _ [some _] _
   walk_at"x"
   exact Vj (Bx UH rfl) rfl
inductive R_hyard (CH:Addr):List OT->(OT->Prop)->Prop
 |mk {N:HandS}:R_hyard CH [.zow (Zo CH N)] (fun r=>r=.fz N.yard)
def Ix:Qp Zag Zag (Qx J8):=by walk_at"p"
def Cd (T:Bl mg) (UH:HandC K CH) (D:Mf K CH "yard_now" "Hand.yard_now" J8 Zag):Zi P w K mg base CH "yard_now" Zag 1 (QY K (R_hyard CH)):=by
 refine D.evD Ix (fun ts Φ h=>by cases h;rfl) (fun _ _ _ _ s H E ts Φ hr h=>?_)
 cases h with
 |@mk N =>
   refine⟨_,(Q7 (QT (Zj (pv 0) rfl))),?_⟩;show Q1 K _ [some _] _
   walk_at"x"
   exact Vj (Jy UH rfl) rfl
inductive R_hgifts (CH:Addr):List OT->(OT->Prop)->Prop
 |mk {N:HandS} (h:N.made.length<=1000):R_hgifts CH [.zow (Zo CH N)] (fun r=>∃v,r=.own v (dlP N.made))
def Ic:Qp Zag Zag (Qx WJ):=by walk_at"p"
def AT (T:Bl mg) (UH:HandC K CH) (D:Mf K CH "gifts" "Hand.gifts" WJ Zag):Zi P w K mg base CH "gifts" Zag 1 (QY K (R_hgifts CH)):=by
 refine D.evD Ic (fun ts Φ h=>by cases h;rfl) (fun _ _ _ _ s H E ts Φ hr h=>?_)
 cases h with
 |@mk N h =>
   refine⟨_,(Q7 (QT (YF (NX:=Zag) (sc:=Qx WJ) (N:=["gifts"]) (f:=[none]) rfl (by decide +kernel) rfl rfl (WA (Zj (pv 0) rfl)) (fun _=>(Zw (i:=0) (show(["gifts"]:Qh).Nodup by decide +kernel) rfl Qa)) (fun _=>VI) (fun _=>Wp) (fun _=>(Wu DD (by rfl) T.dict Bj (Qo (pv 0) Qs)))))),?_⟩;show Q1 K _ [some _] _
   walk_at"x"
   exact Dw (Fq UH rfl h (fun _=>rfl) (fun _=>rfl) (fun _=>rfl)) (fun r hr'=>hr')
inductive R_lcome:HandS->List OT->(OT->HandS->Prop)->Prop
 | mk {y:Yd} {n:Nat} {gs:List Gs} {gv:Ql} {go:Qk} {ms:List QX} {g:Gs} (ok:y.Ok) (hg:∀x∈gs,G30 y x) (gk:G30 y g) (gl:gv.length=gs.length) (gn:n<=g.first) (h0:∀k,k<gs.length->0<=rsT gs gv go k) (l:gs.length<=7) (h:∀S,Vl y (QE (mT n gs gv go++[g])) S<=0):R_lcome (hT y n gs gv go ms) [.fz (QK g)] (fun r N'=>r=.ol [.str "in",.int (gs.length:Int)]/\N'=hT y n (gs++[g]) (gv++[0]) go ms)
inductive X_lcome (CH:Addr):List OT->(OT->Prop)->Prop
 | mk {y:Yd} {n:Nat} {gs:List Gs} {gv:Ql} {go:Qk} {ms:List QX} {g:Gs} (ok:y.Ok) (hg:∀x∈gs,G30 y x) (gk:G30 y g) (gl:gv.length=gs.length) (gn:n<=g.first) (h0:∀k,k<gs.length->0<=rsT gs gv go k) (l:gs.length<=7) {S:Qm} (h:0<Vl y (QE (mT n gs gv go++[g])) S):X_lcome CH [.zow (Zo CH (hT y n gs gv go ms)),.fz (QK g)] (fun r=>∃v S,0<Vl y (QE (mT n gs gv go++[g])) S/\r=.own v (lsO (.str "room") (Zl (Vg (mT n gs gv go++[g]) S))))
def Y8:Qp Zam Zar (Qx Gw):=by walk_at"p"
def FD (T:Bl mg) (UH:HandC K CH) (XR:XC K mg "NoRoom" YR CR fR) (XA:Pe K mg YR CR cg ct) (D:Df K mg "_law_come" Gw Zar) (Xbl:GH P w K mg base CH "come" ZaB 8 (UA K CH CR "some" R_hcome (X_hcome CH))) :
 QD P w K mg base "_law_come" Zar 9 (U9 K CH R_lcome (X_lcome CH)):=by
 refine D.evH2 Y8 (fun M ts Ψ h=>by cases h;rfl) (fun ts Φ h=>by cases h;rfl) (by decide) (fun f cdv A outer s H E v M ts Ψ hr h=>?_) (fun _ _ _ _ s H E ts Φ hr h=>?_)
 ·have hu:=hr.units
  cases h with
  |@mk y n gs gv go ms g ok hg gk gl gn h0 l h =>
    refine⟨_,(Q5 (QW (i:=2) Y8.nd rfl Qa GP)
 (Q5 (RL (j:=3) XA.em rfl rfl rfl XA.my Y8.nd rfl rfl rfl (fun D pn=>(Q7 (QW (i:=2) Y8.nd rfl Qa (Z6 (Qo VG (Qo (RA Xbl UH hr Sd (pv 0) (Qo (pv 1) Qs)) Qs)))))) (fun e pn=>(Q5 (QW (i:=4) Y8.nd rfl (Or.inr rfl) (Z6 (Qo (Zy (show Z1 _ (.builtin "isinstance") (Yu K CR) from W9 XA.is) (by rfl) T.isi VP (Qo (pv 3) (Qo (Y4 (v:=.ref _) rfl XA.m1 rfl) Qs))) (Qo (Zy (show Z1 _ (.builtin "isinstance") (Yu K CR) from W9 XA.is) (by rfl) T.isi VP (Qo (pv 3) (Qo (Y4 (v:=.ref _) rfl XA.m2 rfl) Qs))) (Qo (Zy (show Z1 _ (.builtin "isinstance") (Yu K CR) from W9 XA.is) (by rfl) T.isi VP (Qo (pv 3) (Qo (Y4 (v:=.ref _) rfl XR.m rfl) Qs))) Qs)))))
 (Q5 (Sr (i:=2) Y8.nd rfl rfl (NX:=Zam) (sc:=Qx Gw) (N:=Zay) (f:=[none,some 4,some 3]) (by decide +kernel) rfl rfl (Sz (C:=CR) (e:=e) rfl rfl T.range (Qo Qz Qs)) (fun _=>(Zw (i:=0) (show(Zay:Qh).Nodup by decide +kernel) rfl Qa)) (fun _=>VI) (fun _=>(Gd (PW.pt (GS (V1 (QL (show IxR _ (rIx K) from QM) (pv 1) (pv 0))) (Bg (V1 (Zy (show Z1 _ (.builtin "isinstance") (Yu K CR) from W9 XA.is) (by rfl) T.isi VP (Qo (pv 2) (Qo (Wn (v:=.ty "ValueError") rfl T.ValueError SW rfl) Qs))))))))) (fun _=>(QL (show IxR _ (rIx K) from QM) (Z6 (Qo VG (Qo VG (Qo VG Qs)))) (pv 0))) rfl)
 (Q7 (Z2 (ZR (Ji hu) (pv 2) (Z6 (Qo VG Qs)) (Z4 _)) (Q7 (Zv (show PE _ _ (tBM K "list" V2 _ _) from Vq PySem.F.plainAttrs_list PySem.F.slot_list_append PySem.F.type_list_append Vv (pv 2) (Qo (Ra XA.gt XA.na (pv 3)) Qs)))) Z3))))))
 (Q7 (QT (pv 2))))),?_⟩
    show EvR K _ [some (.own v (QU CH (hT y n gs gv go ms))),some (.fz (QK g)),none,none,none] _
    walk_at"x"
    refine ZJ (fun ρ'=>ρ'=[some (.own v (QU CH (hT y n gs gv go ms))),some (.fz (QK g)),some (.fz .none),none,none]) (ZV UM rfl) ?_
    rintro _ rfl
    refine ZJ (fun ρ'=>ρ'=[some (.own v (QU CH (hT y n (gs++[g]) (gv++[0]) go ms))),some (.fz (QK g)),some (.ol [.str "in",.int (gs.length:Int)]),none,none]) (Lp fun E'=>Fs NF rfl VT rfl (Qw (Qu rfl) Q9) (R_hcome.mk ok hg gk gl gn h0 l h) RN ?_) ?_
    ·rintro r N' ⟨rfl,rfl⟩
     exact⟨_,_,rfl,rfl,rfl⟩
    rintro _ rfl
    exact L7 (j:=2) (by decide) rfl ⟨_,⟨rfl,rfl⟩,rfl⟩
 ·have hu:=hr.units
  cases h with
  |@mk y n gs gv go ms g ok hg gk gl gn h0 l S h =>
    refine⟨_,(Q5 (QW (i:=2) Y8.nd rfl Qa GP)
 (Q5 (RL (j:=3) XA.em rfl rfl rfl XA.my Y8.nd rfl rfl rfl (fun D pn=>(Q7 (QW (i:=2) Y8.nd rfl Qa (Z6 (Qo VG (Qo (RA Xbl UH hr Sd (pv 0) (Qo (pv 1) Qs)) Qs)))))) (fun e pn=>(Q5 (QW (i:=4) Y8.nd rfl (Or.inr rfl) (Z6 (Qo (Zy (show Z1 _ (.builtin "isinstance") (Yu K CR) from W9 XA.is) (by rfl) T.isi VP (Qo (pv 3) (Qo (Y4 (v:=.ref _) rfl XA.m1 rfl) Qs))) (Qo (Zy (show Z1 _ (.builtin "isinstance") (Yu K CR) from W9 XA.is) (by rfl) T.isi VP (Qo (pv 3) (Qo (Y4 (v:=.ref _) rfl XA.m2 rfl) Qs))) (Qo (Zy (show Z1 _ (.builtin "isinstance") (Yu K CR) from W9 XA.is) (by rfl) T.isi VP (Qo (pv 3) (Qo (Y4 (v:=.ref _) rfl XR.m rfl) Qs))) Qs)))))
 (Q5 (Sr (i:=2) Y8.nd rfl rfl (NX:=Zam) (sc:=Qx Gw) (N:=Zay) (f:=[none,some 4,some 3]) (by decide +kernel) rfl rfl (Sz (C:=CR) (e:=e) rfl rfl T.range (Qo Qz Qs)) (fun _=>(Zw (i:=0) (show(Zay:Qh).Nodup by decide +kernel) rfl Qa)) (fun _=>VI) (fun _=>(Gd (PW.pt (GS (V1 (QL (show IxR _ (rIx K) from QM) (pv 1) (pv 0))) (Bg (V1 (Zy (show Z1 _ (.builtin "isinstance") (Yu K CR) from W9 XA.is) (by rfl) T.isi VP (Qo (pv 2) (Qo (Wn (v:=.ty "ValueError") rfl T.ValueError SW rfl) Qs))))))))) (fun _=>(QL (show IxR _ (rIx K) from QM) (Z6 (Qo VG (Qo VG (Qo VG Qs)))) (pv 0))) rfl)
 (Q7 (Z2 (ZR (Ji hu) (pv 2) (Z6 (Qo VG Qs)) (Z4 _)) (Q7 (Zv (show PE _ _ (tBM K "list" V2 _ _) from Vq PySem.F.plainAttrs_list PySem.F.slot_list_append PySem.F.type_list_append Vv (pv 2) (Qo (Ra XA.gt XA.na (pv 3)) Qs)))) Z3))))))
 (Q7 (QT (pv 2))))),?_⟩
    show Q1 K _ [some (.zow (Zo CH (hT y n gs gv go ms))),some (.fz (QK g)),none,none,none] _
    walk_at"x"
    refine QH (ZV (d:=.none) UM ?_)
    walk_at"d"
    apply QH
    apply C3 (C:=CR) (f := "some") (n:=5) (j:=3) (fun d=>∃S,0<Vl y (QE (mT n gs gv go++[g])) S/\d=Zl (Vg (mT n gs gv go++[g]) S)) (by decide)
    case hz =>
     intro E' F0 H0 F σ H' x St k;exact CN (F0:=F) (H0:=H') NF rfl VT (Qw (Qu rfl) Q9) (X_hcome.mk ok hg gk gl gn h0 l h) RN (fun F' H'' e dct d hd x' he fl=>k F' H'' e dct d hd x' he fl) (Q0.refl St.sub) St
    case hth =>
     rintro _ e dx q ⟨S',hS',rfl⟩
     dsimp only[List.set,List.replicate];refine QH (Yf (V0 (ds:=[.bool false,.bool false,.bool true]) (Zc (MG rfl rfl XA.kg) (Zc (MG rfl rfl XA.kt) (Zc (MG rfl rfl XA.k1) ZC))) (by show(3:Nat)<=1000;decide)) ?_)
     walk_at"d"
     refine Je 4 rfl ?_
     walk_at"d"
     have fl:W7 [PyData.str "room"]:=fun d hd=>by rw[Xg.mp hd];exact⟨_,rfl⟩
     refine QH (Yf (r:=.ol [.str "room"]) (FK 3 rfl fl (EvO.cast (UP (xs:=List.range 3) (enc:=fun(k:Nat)=>PyData.int (k:Int)) (h:=fun(k:Nat)=>([.str "guest",.str "time",.str "room"]:Qd).getD k .none) (p:=fun k=>decide (k=2)) ?ei (by decide) ?el) rfl)) ?_)
     case ei=>exact EvI.cast (Ar (i:=3) rfl (Qw QC Q9) (by rw[z62];decide) (by rw[z62];decide)) rfl
     case el =>
      intro k hk c;have hk:=XT.mp hk;refine⟨_,Z8,?_⟩
      walk_at"e"
      have im:atI [PyData.bool false,.bool false,.bool true] (k:Int)=some (PyData.bool (decide (k=2))):=by
       obtain rfl|rfl|rfl:k=0\/k=1\/k=2:=by omega
       all_goals rfl
      refine⟨Zh.cast (GN (b:=decide (k=2)) (c:=true) (Vf (VO (Qu rfl) (Qu rfl) im)) (fun _=>Vf (TZ rfl rfl XA.k2))) (by rw[Bool.and_true]),fun hc=>?_⟩;have hc:=X0 hc;subst hc;exact VO (EvO.fz (V0 (ds:=[.str "guest",.str "time",.str "room"]) (Zc VT (Zc VT (Zc VT ZC))) (by show(3:Nat)<=1000;decide))) (Qu rfl) rfl
     walk_at"d"
     have fr:Va (.list [.str "room"]):=(Dj (m:=0) (Gc ⟨by decide +kernel,XF _⟩ GQ)).fine (by decide);refine Z7 (b:=true) (R0 2 rfl rfl (Zh.cast (ZQ (Wk (a:=.list [.str "room"]) (b:=.list [.str "room"]) (Qu rfl) (EvO.fz (V0 (Zc VT ZC) JQ)) fr fr)) (by rw[WF fr]))) (fun _=>?_) (fun c=>nomatch c);refine F9 (by decide) rfl rfl fun v=>?_
     walk_at"d"
     exact Dv rfl ⟨v,S',hS',rfl⟩
inductive R_lown (CH:Addr):List OT->OT->Prop
 |mk {N:HandS} (rs:Qn) (h:∀k,k<N.known.length->JX N k (rs k)) (l:N.known.length<=900) (ml:N.made.length<=900) (mf:∀k∈N.made,Wg k) (mk:∀k∈N.made,k.length<1000) :
  R_lown CH [.zow (Zo CH N),.zow (DlZ N.made),.fz (.list (Zl ((List.range N.known.length).filter fun k => !decide (rs k=0))))] (.fz (.bool true))
def BE:Qp ["_law_hand","_law_told","_law_opened","_law_gifts","_law_one","_law_some"] Zal (Qx Hq):=by walk_at"p"
def LF (T:Bl mg) (UH:HandC K CH) (D:Df K mg "_law_own" Hq Zal) (Xa8:Zi P w K mg base CH "gifts" Zag 1 (QY K (R_hgifts CH))) (Xa4:Zi P w K mg base CH "open_ones" Zag 5 (QY K (R_hopen CH))):QD P w K mg base "_law_own" Zal 6 (QN (K:=K) (R_lown CH)):=by
 refine D.ev BE (fun ts r h=>by cases h;rfl) (fun _ _ _ _ s H E ts r hr h=>?_);have hu:=hr.units
 cases h with
 |@mk N rs h l ml mf mk =>
   refine⟨_,(Q5 (QW (i:=3) BE.nd rfl Qa (VR Xa8 UH hr (pv 0)))
 (Q5 (Z2 (PW.pt (Jf (Yo (V1 (Zy Ue (by rfl) T.isi VP (Qo (pv 3) (Qo (Wn (v:=.ty "list") rfl T.list Bc rfl) Qs))))) (Jf (ZR (TW hu) (pv 3) (pv 1) (Z4 _)) (GZ (ZR (MN hu) (VR Xa4 UH hr (pv 0)) (pv 2) (Z4 _)))))) (Q7 (QT YG)) Z3)
 (Q5 (V7 PassesOwn.never rfl (WA (pv 3)) (Zw (i:=4) BE.nd rfl Qa) (Q5 (Z2 (Yo (V1 (Zy PQ (by rfl) T.isi VP (Qo (pv 4) (Qo (Wn (v:=.ty "dict") rfl T.dict Bj rfl) Qs))))) (Q7 (QT YG)) Z3)
 (Q7 (Bk (Ye hr) (pv 4) Qz Qz rfl))))
 (Q5 (Zv (Vq PySem.F.plainAttrs_list PySem.F.slot_list_append PySem.F.type_list_append Vv (pv 3) (Qo D2 Qs)))
 (Q5 (QW (i:=5) BE.nd rfl Qa (VR Xa4 UH hr (pv 0)))
 (Q5 (Z2 (Yo (V1 (Zy Ue (by rfl) T.isi VP (Qo (pv 5) (Qo (Wn (v:=.ty "list") rfl T.list Bc rfl) Qs))))) (Q7 (QT YG)) Z3)
 (Q5 (Zv (Vq PySem.F.plainAttrs_list PySem.F.slot_list_append PySem.F.type_list_append Vv (pv 5) (Qo Qz Qs)))
 (Q7 (QT (Ul (Jn (NY hu) (VR Xa8 UH hr (pv 0)) (pv 1) (Z4 _)) (Uf (Jn (Ji hu) (VR Xa4 UH hr (pv 0)) (pv 2) (Z4 _))))))))))))),?_⟩
   show Q1 K _ [some _,some _,some _,none,none,none] _
   walk_at"x"
   generalize hO:((List.range N.known.length).filter fun k => !decide (rs k=0))=ops;have fo:Va (.list (Zl ops)):=Bm _;have opn:∀{ρ:Q6} {E':XK},ρ[0]?=some (some (.zow (Zo CH N)))->EvO K (Vr CH "open_ones" (QY K (R_hopen CH)) [] E' (Q8 0) QO) ρ (.ol (Zl ops)):=fun e=>EvO.cast (Zq.o (Y7 N5 e Q9 (R_hopen.mk rs h (by omega)))) (by rw[hO]);have gft:∀{ρ:Q6} {E':XK},ρ[0]?=some (some (.zow (Zo CH N)))->Zq K (Vr CH "gifts" (QY K (R_hgifts CH)) [] E' (Q8 0) QO) ρ (fun r=>∃v,r=.own v (dlP N.made)):=fun e=>Y7 R4 e Q9 (R_hgifts.mk (by omega));refine QH (VX (gft rfl) ?_)
   rintro r ⟨v,rfl⟩
   walk_at"d"
   refine QH (Z7 (b:=false) (Rz (Ψ:=DlZ N.made) 3 rfl (fun a b c=>dlP.fz a b c) (Ja (b:=false) (c:=false) (Yp (b:=true) (Vf (Lo rfl))) (fun _=>Ja (b:=false) (c:=false) (ZQ (LM mf rfl rfl)) (fun _=>Zh.cast (ZQ (GM (a:=.list (Zl ops)) (b:=.list (Zl ops)) (EvO.fz (opn rfl)) (Qu rfl) fo fo)) (by rw[WF fo];rfl))))) (fun c=>nomatch c) (fun _=>ZD ?_));refine QH (Cn (by decide) rfl (by show 4<6;decide) mk ?_);intro kss' kl;walk_at"d"
   refine QH (A1 rfl (by omega) ?_)
   walk_at"d"
   refine QH (Yf (opn rfl) ?_)
   walk_at"d"
   refine QH (Z7 (b:=false) (R0 5 rfl rfl (Yp (b:=true) (Vf (Uc (Qu rfl) rfl)))) (fun c=>nomatch c) (fun _=>ZD ?_));refine QH (Js rfl QC (by unfold Zl;rw[Xn,<- hO];exact Gz (BW _ _) (by rw[JF];omega)) ?_)
   walk_at"d"
   exact Vj (Qt.cast (Jj (b:=true) (c:=true) (LY mf (gft rfl) rfl) (fun _=>Qt.cast (Wk (a:=.list (Zl ops)) (b:=.list (Zl ops)) (EvO.fz (opn rfl)) (Qu rfl) fo fo) (by rw[WF fo]))) rfl) rfl
theorem RS {f:Qn}{t:Nat}:∀{n:Nat},(∀k,k<n->0<=f k)->t<n->f t<=Q3 f n
 |0,_,h=>by omega
 |n+1,h0,h=>by
   rw[Q3];have nn:=NE (f:=f) (n:=n) fun k hk=>h0 k (by omega);have fn:=h0 n (by omega)
   by_cases e:t=n
   ·subst e;omega
   ·have:=RS (f:=f) (n:=n) (fun k hk=>h0 k (by omega)) (show t<n by omega)
    omega
def F8 (f:Qn)(m:Nat):Wg (gfD f m):=fun x hx=>by
 unfold gfD at hx;obtain⟨k,_,rfl⟩:=XI.mp hx
 exact⟨_,_,rfl,rfl⟩
def Lw (gv:Ql)(f:Qn)(m i:Nat):(gvT gv f m i).length=m:=by simp[gvT]
def L8 {gv:Ql}{f:Qn}{m k:Nat}(hk:k<m):(gvT gv f m m).getD k 0=gv.getD k 0+f k:=by
 rw[List.getD,Ni hk,Xe hk];rfl
def Lk {y:Yd}{n:Nat}{gs:List Gs}{gv:Ql}{go:Qk}{φ:QP Nd}(full:JN y (QE (mT n gs gv go)) φ)(hn:n<y.T){k:Nat}(hk:k<gs.length):QV (QE (mT n gs gv go)) φ n k<=rsT gs gv go k:=by
 have F:=full.1;have hk':k<(QE (mT n gs gv go)).m:=by show k<(mT n gs gv go).length;rw[Wj];exact hk
 have a:=RS (f:=fun t=>QV (QE (mT n gs gv go)) φ t k) (fun t ht=>(F.tak hk' ht).1) hn;have b:=F.total hk';have c:=(F.want hk').2
 have e:(QE (mT n gs gv go)).wa k=rsT gs gv go k:=by
  show((mT n gs gv go).getD k default).want=_
  rw[P0 hk];rfl
 omega
def Av {y:Yd}{n:Nat}{gs:List Gs}{gv:Ql}{go:Qk}{φ:QP Nd}(full:JN y (QE (mT n gs gv go)) φ)(hn:n<y.T):∀k,k<gs.length->0<=rsT gs (gvT gv (QV (QE (mT n gs gv go)) φ n) gs.length gs.length) go k:=fun k hk=>by
 have a:=Lk full hn hk;unfold rsT at a ⊢;by_cases c:k∈go
 ·rw[Xe c];exact WT _
 ·rw[Xc c]at a ⊢
  rw[L8 hk];omega
theorem NU {X:Cx}{XaR:Qc}{σ:St}{H:Hp}{s:Shared}(I:Qq X XaR σ H s):∀{xs:List V} {ds:Qd} {us:Qe},Qv H xs ds->QS xs us->∀w∈us,∃e∈ds,∃bs,Reads s.heap w e bs
 |_,_,_,.nil,r=>by cases r;exact fun _ h=>(nomatch h)
 |_,_,_,.cons q t,r=>by
   cases r with
   |cons r1 r2 =>
     obtain⟨as,ra⟩:=Rep.reads I q r1;intro w hw;rcases Xf.mp hw with rfl|hw
     ·exact⟨_,Xa,_,ra⟩
     ·obtain⟨e,he,b⟩:=NU I t r2 w hw
      exact⟨e,Xd _ he,b⟩
def Ke:R2:=fun x y H Q=>∃d ds,Rep H x d/\Rep H y (.list ds)/\Va d/\(∀e∈ds,Va e)/\(∀e∈ds,PyData.eqv e d=false)/\Q (.bl false) H
def Pv {X:Cx}(hu:X.A.units+64<cLine):OpR X (compareOp .In) Ke:=by
 intro XaR s σ H x y v u Q I rx ry h;obtain⟨d,ds,hd,he,fd,fe,hm,q⟩:=h;obtain⟨as,ra⟩:=hd.reads I rx
 cases he with
 |lst h q' =>
   cases ry
   obtain⟨z,its,n,rv,e⟩:=I.hok _ _ h;refine SeqAt.in_listAt (fun _=>false) ⟨_,e,rfl,n,rfl⟩ (fun w hw=>?_) ⟨.bl false,H,I,?_,q⟩
   ·obtain⟨e,he,bs,hr⟩:=NU I q' rv w (by simpa using hw)
    have k:SeqAt.EqAt X.A.in1 s w v (PyData.eqv e d):=SeqAt.eqAt_reads e d _ s _ _ _ _ hr ra (fe _ he).1 fd.1 (by
     have h1:=fd.2;have h2:=Nat.min_le_right e.depth d.depth;rw[Around.in1_units];omega)
    rw[hm e he]at k;exact k
   ·show Value.bool _=Value.bool false
    congr 1
    simp
def La {K:W.Frag}{ρ:Q6}{ta tb:TE}{d:PyData}{ds:Qd}(ha:Qt K ta ρ d)(hb:Qt K tb ρ (.list ds))(fd:Va d)(fe:∀e∈ds,Va e)(hn:∀e∈ds,PyData.eqv e d=false):Qt K (tOp Ke ta tb) ρ (.bool false):=fun H0 F σ H Q S q =>
 Y0 ha hb S fun F' H' x y e r1 r2=>⟨d,ds,r1.mono e.fh,r2.mono e.fh,fd,fe,hn,q _ _ _ e (.bl _)⟩
def Sw (s:Str) (h:s = "in" \/ s = "room"):Va (.str s):=by rcases h with rfl|rfl<;>exact⟨by decide +kernel,XF _⟩
def DP (l:Qk):W7 (Zl l):=fun d hd=>by
 obtain⟨j,_,rfl⟩:=XI.mp hd
 exact⟨_,rfl⟩
theorem Ca {α:Type}{e:α->PyData}:∀xs:List α,PyData.eqv (.list (xs.map e)) (.list [])=xs.isEmpty
 |[]=>rfl
 |_::_=>rfl
def Tm {y:Yd}(ok:y.Ok){gs:List Gs}{S:Qm}(h:0<Vl y (QE gs) S):(Vg gs S).isEmpty=false:=by
 cases e:Vg gs S with
 |nil =>
   rw[DX,e,Ie ok]at h;have e:Dy gs []-0=0:=rfl;rw[e]at h;exact Xk h (by decide)
 |cons _ _=>rfl
def RI {gs:List Gs}{k:Nat}:rsT gs (List.replicate gs.length 0) [] k=(gs.getD k default).want:=by
 unfold rsT;rw[Xc (by simp)];have:(List.replicate gs.length (0:Int)).getD k 0=0:=by
  rw[List.getD,HP];split<;>rfl
 rw[this,Int.sub_zero]
def VQ:Qp Zaa ZaO (Qx Yn):=by walk_at"p"
def Ta {f:Addr} {fd:FuncData} (T:Bl mg) (UH:HandC K CH) (F:Fun K "law" "law" Yn f fd) (Xbd:QD P w K mg base "_law_cell_at" Zat 1 (QN (K:=K) R_cell)) (Xbm:QD P w K mg base "_law_feed" ZaQ 1 (QY K R_feed)) (XbK:QD P w K mg base "_law_yard" ZaJ 2 (spP K olP R_dyard)) (XbL:QD P w K mg base "_law_guest" Zaj 2 (spP K olP R_dguest)) (Xbn:M3 P w K mg base "Hand" CH ZaM 1)
 (Xbo:QD P w K mg base "_law_come" Zar 9 (U9 K CH R_lcome (X_lcome CH))) (Xbp:Zi P w K mg base CH "turn" Zag 7 (spP K (QU CH) R_hturn)) (Xa2:Zi P w K mg base CH "rest" Zai 4 (QY K (R_hrest CH))) (Xbq:Zi P w K mg base CH "yard_now" Zag 1 (QY K (R_hyard CH))) (XbM:QD P w K mg base "_law_own" Zal 6 (QN (K:=K) (R_lown CH))) (XbN:Zi P w K mg base CH "now" Zag 1 (QY K (R_hnow CH))) (Xa4:Zi P w K mg base CH "open_ones" Zag 5 (QY K (R_hopen CH))) (Xa8:Zi P w K mg base CH "gifts" Zag 1 (QY K (R_hgifts CH))) :
 FnOk P w K mg base CX0 10 f fd ZaO (GO K):=by
 refine F.evLaw VQ (fun cdv A outer s H E ns hr hl hb=>?_);have hu:=hr.units;refine⟨_,(Q5 (QW (i:=1) VQ.nd rfl Qa (QG XbK hr (Qo (QG Xbm hr (Qo (QG Xbd hr (Qo (pv 0) (Qo Qz Qs))) Qs)) Qs)))
 (Q5 (QW (i:=2) VQ.nd rfl (Or.inr rfl) (R5 Xbn hr (Qo (pv 1) Qs)))
 (Q5 (QW (i:=3) VQ.nd rfl Qa (R5 Xbn hr (Qo (pv 1) Qs)))
 (Q5 (QW (i:=4) VQ.nd rfl Qa Qz)
 (Q5 (V7 PassesOwn.never rfl (VW rfl T.range (Qo (Zb V9 Qz (Zb Jm (QG Xbd hr (Qo (pv 0) (Qo Qz Qs))) Qz)) Qs)) (Zw (i:=5) VQ.nd rfl Qa) (Q5 (QW (i:=6) VQ.nd rfl Qa (QG XbL hr (Qo (QG Xbm hr (Qo (QG Xbd hr (Qo (pv 0) (Qo (Zb V9 Qz (pv 5)) Qs))) Qs)) (Qo (pv 1) (Qo Qz Qs)))))
 (Q5 (QW (i:=7) VQ.nd rfl Qa (QG Xbo hr (Qo (pv 2) (Qo (pv 6) Qs))))
 (Q5 (Z2 (ZR (Ji hu) (QL QM (pv 7) Qz) VG (Z4 _)) (Q5 (QW (i:=8) VQ.nd rfl Qa (Wu NV (by rfl) T.list Bc (Qo (QL QM (pv 7) Qz) Qs)))
 (Q5 (Zv (Vq PySem.F.plainAttrs_list PySem.F.slot_list_append PySem.F.type_list_append Vv (QL QM (pv 7) Qz) (Qo Qz Qs)))
 (Q5 (QW (i:=9) VQ.nd rfl Qa (QG Xbo hr (Qo (pv 2) (Qo (pv 6) Qs))))
 (Q7 (Z2 (PW.pt (Jf (ZR (MN hu) (QL QM (pv 9) Qz) VG (Z4 _)) (Jf (ZR (Pv hu) Qz (QL QM (pv 9) Qz) rfl) (GZ (ZR (Ji hu) (pv 8) (Z6 Qs) (Z4 _)))))) (Q7 (QT YG)) Z3))))) Z3)
 (Q7 (QW (i:=4) VQ.nd rfl Qa (Zb V9 (pv 4) (Wu KZ (by rfl) T.int ME (Qo (Jn (Ji hu) (QL QM (pv 7) Qz) VG (Z4 _)) Qs)))))))))
 (Q5 (QW (i:=7) VQ.nd rfl Qa (Z6 Qs))
 (Q5 (V7 PassesOwn.never rfl (VW rfl T.range (Qo (QL QM (pv 1) Qz) Qs)) (Zw (i:=10) VQ.nd rfl Qa) (Q5 (QW (i:=11) VQ.nd rfl Qa (VR Xbp UH hr (pv 2)))
 (Q5 (Zv (Vq PySem.F.plainAttrs_list PySem.F.slot_list_append PySem.F.type_list_append Vv (pv 7) (Qo (Wu DD (by rfl) T.dict Bj (Qo (pv 11) Qs)) Qs)))
 (Q5 (Bk (Ye hr) (pv 11) Qz Qz rfl)
 (Q5 (RH (i:=12) VQ.nd rfl rfl (NX:=Zaa) (sc:=Qx Yn) (N:=["_law_number","_law_hand"]) (f:=[none,some 2]) rfl (by decide +kernel) rfl rfl (VW rfl T.range (Qo (pv 4) Qs)) (fun _=>(Zw (i:=0) (show(["_law_number","_law_hand"]:Qh).Nodup by decide +kernel) rfl Qa)) (fun _=>VI) (fun _=>(Gd (ZR W2 (Jo Xa2 UH hr (pv 1) (Qo (pv 0) Qs)) Qz (Z4 _)))) (fun _=>(pv 0)) rfl)
 (Q5 (Z2 (PW.pt (Jf (Yo (V1 (QG XbM hr (Qo (pv 2) (Qo (pv 7) (Qo (pv 12) Qs)))))) (GZ (Yo (V1 (Zy Ue (by rfl) T.isi VP (Qo (VR Xbq UH hr (pv 2)) (Qo (Wn (v:=.ty "tuple") rfl T.tuple Bw rfl) Qs)))))))) (Q7 (QT YG)) Z3)
 (Q7 (Z2 (PW.pt (Jf (ZR (LI hu) (VR Xbp UH hr (pv 3)) D2 (Z4 _)) (Jf (ZR (MN hu) (VR Xa4 UH hr (pv 3)) (Z6 Qs) (Z4 _)) (GZ (ZR Kk (VR XbN UH hr (pv 3)) (Zb V9 (pv 10) Qz) (Z4 _)))))) (Q7 (QT YG)) Z3))))))))
 (Q7 (QT (Ul (Jn (NY hu) (VR Xa8 UH hr (pv 3)) (YF (NX:=Zaa) (sc:=Qx Yn) (N:=["_law_turn"]) (f:=[none]) rfl (by decide +kernel) rfl rfl (VW rfl T.range (Qo (QL QM (pv 1) Qz) Qs)) (fun _=>(Zw (i:=0) (show(["_law_turn"]:Qh).Nodup by decide +kernel) rfl Qa)) (fun _=>VI) (fun _=>Wp) (fun _=>D2)) (Z4 _)) (Uf (Jn (Ji hu) (VR Xbq UH hr (pv 2)) (pv 1) (Z4 _))))))))))))),?_⟩
 show Q1 K _ [some _,none,none,none,none,none,none,none,none,none,none,none,none] _
 walk_at"x"
 refine QH (VX (SQ (Φ:=fun r=>∃y:Yd,y.Ok/\r=.fz (Zd y)) (Wq (Qw (Ze (GK rfl (Qw QC Q9)) (R_cell.mk (by decide))) Q9) R_feed.mk) Q9 (fun r hr'=>?_)) (fun r hr'=>?_))
 ·obtain⟨a,b,rfl⟩:=hr'
  exact⟨_,_,rfl,R_dyard.mk,fun r ds' ⟨y,ok,_,e⟩=>⟨y,ok,e⟩⟩
 obtain⟨y,ok,rfl⟩:=hr'
 walk_at"d"
 have t1:=ok.t1;have t8:=ok.t8;refine QH (UY (Rs (Qu rfl)) (fun v=>?_))
 walk_at"d"
 refine QH (UY (Rs (Qu rfl)) (fun v2=>?_))
 walk_at"d"
 refine QH (ZV QC ?_)
 walk_at"d"
 have n0:0<=Ym ns 1%6/\Ym ns 1%6<6:=by omega
 refine QH (VV (ds:=ZS 0 (1+Ym ns 1%6).toNat) (fun i ρ'=>∃(gs:List Gs) (u5 u6 u7 u8 u9:Option OT),gs.length<=i/\(∀g∈gs,G30 y g)/\ρ'=[some (.scr ns),some (.fz (Zd y)),some (.own v (QU CH (hT y 0 gs (List.replicate gs.length 0) [] []))),some (.own v2 (QU CH (hT y 0 [] [] [] []))),some (.fz (.int (gs.length:Int))),u5,u6,u7,u8,u9,none,none,none]) ?ei ⟨[],_,_,_,_,_,Xq _,(fun g hg=>nomatch hg),rfl⟩ ?st ?fin)
 case ei=>exact Yh (Qw (ZB QC (Ve (Ze (GK rfl (Qw QC Q9)) (R_cell.mk (by decide))) QC (by decide))) Q9) (by rw[z62];omega) (by rw[z62];omega)
 case st =>
  rintro i d _ hd ⟨gs,u5,u6,u7,u8,u9,gl,hg,rfl⟩
  obtain⟨hi,rfl⟩:=YS hd;have hi:i<(1+Ym ns 1%6).toNat:=hi;have l7:gs.length<=7:=by omega
  refine⟨_,Z8,?_⟩
  walk_at"d"
  rw[Y9];refine QH (VX (SQ (Φ:=fun r=>∃g:Gs,G30 y g/\r=.fz (QK g)) (Wq (Qw (Ze (GK rfl (Qw (ZB QC (Qu rfl)) Q9)) (R_cell.mk (by omega))) Q9) R_feed.mk) (Qw (Qu rfl) (Qw QC Q9)) (fun r hr'=>?_)) (fun r hr'=>?_))
  ·obtain⟨a,b,rfl⟩:=hr'
   exact⟨_,_,rfl,R_dguest.mk ok,fun r ds' z=>z⟩
  obtain⟨g,gk,rfl⟩:=hr'
  walk_at"d"
  have zl:(List.replicate gs.length (0:Int)).length=gs.length:=U4
  have h0:∀k,k<gs.length->0<=rsT gs (List.replicate gs.length 0) [] k:=fun k hk=>by
   rw[RI];have:=(hg (gs.getD k default) (by simp[hk])).ok.w1;omega
  have fin:=Sw "in" (.inl rfl);have frm:=Sw "room" (.inr rfl)
  by_cases hS:∀S,Vl y (QE (mT 0 gs (List.replicate gs.length 0) []++[g])) S<=0
  ·refine QH (Fr (i:=2) (j:=7) (by decide) rfl (Qw (Qu rfl) Q9) (R_lcome.mk ok hg gk zl (XF _) h0 l7 hS) ?_)
   rintro r N' ⟨rfl,rfl⟩
   walk_at"d"
   refine Je 7 rfl ?_
   walk_at"d"
   refine QH (Z7 (b:=false) (Zh.cast (ZQ (Wk (a:=.str "in") (b:=.str "room") (VO (ds:=[.str "in",.int (gs.length:Int)]) (Qu rfl) QC rfl) VT fin frm)) (by decide +kernel)) (fun c=>nomatch c) (fun _=>ZD ?_));refine ZV (d:=.int (gs.length+1)) (Qt.cast (ZB (Qu rfl) (Ba (b:=true) (Qt.cast (Wk (a:=.str "in") (b:=.str "in") (VO (ds:=[.str "in",.int (gs.length:Int)]) (Qu rfl) QC rfl) VT fin fin) (by rw[WF fin])))) rfl) ?_
   walk_at"d"
   have e1:List.replicate gs.length (0:Int)++[0]=List.replicate (gs++[g]).length 0:=by
    rw[Xm,BX,List.replicate_succ']
   have e2:(gs.length:Int)+1=((gs++[g]).length:Int):=by rw[Xm];rfl
   rw[e1,e2];refine⟨gs++[g],_,_,_,_,_,by rw[Xm];show gs.length+1<=_;omega,fun x hx=>?_,rfl⟩
   rcases Xx.mp hx with hx|hx
   ·exact hg x hx
   ·rw[Xg.mp hx];exact gk
  ·obtain⟨S0,hS0⟩:∃S,0<Vl y (QE (mT 0 gs (List.replicate gs.length 0) []++[g])) S:=Classical.byContradiction fun c=>hS fun S=>Int.not_lt.mp fun z=>c ⟨S,z⟩
   have Q2:∀r,(∃v' S,0<Vl y (QE (mT 0 gs (List.replicate gs.length 0) []++[g])) S/\r=.own v' (lsO (.str "room") (Zl (Vg (mT 0 gs (List.replicate gs.length 0) []++[g]) S))))->YB r:=by
    rintro r ⟨v',S,_,rfl⟩
    exact CQ rfl (DP _)
   refine QH (VX (WH 2 rfl Q2 (Sj (Uk rfl (Qw (Qu rfl) Q9)) (X_lcome.mk ok hg gk zl (XF _) h0 l7 hS0))) ?_)
   rintro r ⟨v',S,hSS,rfl⟩
   walk_at"d"
   have sl:(Vg (mT 0 gs (List.replicate gs.length 0) []++[g]) S).length<=8:=(B5 (by rw[Xm,Wj];show gs.length+1<=8;omega) S).len;have ne:=Tm ok hSS;generalize Vg (mT 0 gs (List.replicate gs.length 0) []++[g]) S=S1 at sl ne;refine QH (Kt (fun ρ'=>∃u8 u9 v' ds,ρ'=[some (.scr ns),some (.fz (Zd y)),some (.own v (QU CH (hT y 0 gs (List.replicate gs.length 0) [] []))),some (.own v2 (QU CH (hT y 0 [] [] [] []))),some (.fz (.int (gs.length:Int))),some (.fz (.int (i:Int))),some (.fz (QK g)),some (.own v' (lsO (.str "room") ds)),u8,u9,none,none,none]) (Z7 (b:=true) (Ai 7 rfl (Zh.cast (ZQ (Wk (a:=.str "room") (b:=.str "room") (VO (ds:=[.str "room",.list (Zl S1)]) (Qu rfl) QC rfl) VT frm frm)) (by rw[WF frm]))) (fun _=>?_) (fun c=>nomatch c)) ?_)
   ·refine QH (VX (Φ:=fun r=>r=.ol (Zl S1)) (RY 7 rfl (fun r hr=>by rw[hr];exact Bi (DP _)) (EvO.d (Ny (VO (ds:=[.str "room",.list (Zl S1)]) (Qu rfl) QC rfl)) rfl)) ?_)
    rintro r rfl
    walk_at"d"
    refine Je 8 rfl ?_
    walk_at"d"
    refine QH (FE (n:=99) rfl (by unfold Zl;rw[Xn];omega) ?_)
    walk_at"d"
    refine QH (VX (WH 2 rfl Q2 (Sj (Uk rfl (Qw (Qu rfl) Q9)) (X_lcome.mk ok hg gk zl (XF _) h0 l7 hS0))) ?_)
    rintro r ⟨v3,S',hSS',rfl⟩
    walk_at"d"
    refine TC 9 rfl ?_
    walk_at"d"
    have so:SetOk (mT 0 gs (List.replicate gs.length 0) []++[g]) (Vg (mT 0 gs (List.replicate gs.length 0) []++[g]) S'):=B5 (by rw[Xm,Wj];show gs.length+1<=8;omega) S';refine Z7 (b:=false) (Ja (b:=false) (c:=false) (Zh.cast (ZQ (GM (a:=.str "room") (b:=.str "room") (VO (ds:=[.str "room",.list (Zl (Vg (mT 0 gs (List.replicate gs.length 0) []++[g]) S'))]) (Qu rfl) QC rfl) VT frm frm)) (by rw[WF frm];rfl)) (fun _=>Ja (b:=false) (c:=false) (ZQ (La QC (VO (ds:=[.str "room",.list (Zl (Vg (mT 0 gs (List.replicate gs.length 0) []++[g]) S'))]) (Qu rfl) QC rfl) ((UU _ 0).fine (by decide)) ?if1 ?if2)) (fun _=>Zh.cast (ZQ (Wk (a:=.list (Zl S1)) (b:=.list []) (Qu rfl) (EvO.fz (V0 (ds:=[]) ZC (by simp))) (Bm _) Nz)) ((Ca S1).trans ne)))) (fun c=>nomatch c) (fun _=>ZD ⟨_,_,_,_,rfl⟩)
    case if1 =>
     intro e he;obtain⟨k,_,rfl⟩:=XI.mp he
     exact(UU _ 0).fine (by decide)
    case if2 =>
     intro e he;obtain⟨k,hk,rfl⟩:=XI.mp he
     have:=so.mem k hk
     rw[Xm,Wj]at this;have:k<gs.length+1:=this;show decide ((k:Int)=99)=false;exact XS (by omega)
   ·rintro _ ⟨u8,u9,v',ds,rfl⟩
    refine ZV (d:=.int (gs.length:Int)) (Qt.cast (ZB (Qu rfl) (EvO.e (Zq.o (RY (Φ:=fun r=>r=.fz (.int 0)) 7 rfl (fun r hr=>by rw[hr];exact Uq rfl) (EvO.d (Qt.o (Qt.cast (Ba (b:=false) (Qt.cast (Wk (a:=.str "room") (b:=.str "in") (VO (ds:=[.str "room",.list ds]) (Qu rfl) QC rfl) VT frm fin) (XX PyData.bool (by decide +kernel)))) rfl)) rfl))))) (by rw[U7])) ?_
    walk_at"d"
    exact⟨gs,_,_,_,_,_,by omega,hg,rfl⟩
 case fin =>
  rintro _ ⟨gs,u5,u6,u7,u8,u9,gl,hg,rfl⟩
  rw[Wr]at gl;have g8:gs.length<=8:=by omega
  clear gl n0;refine QH (Yf (V0 (ds:=[]) ZC (by decide)) ?_)
  walk_at"d"
  refine L9 7 rfl fun w7=>?_
  walk_at"d"
  have h00:∀k,k<gs.length->0<=rsT gs (List.replicate gs.length 0) [] k:=fun k hk=>by
   rw[RI];have:=(hg (gs.getD k default) (by simp[hk])).ok.w1;omega
  refine QH (VV (ds:=ZS 0 y.T) (fun t ρ'=>∃(gv:Ql) (ms:List QX) (u10 u11 u12:Option OT),gv.length=gs.length/\(∀k,k<gs.length->0<=rsT gs gv [] k)/\ms.length=t/\(∀k∈ms,Wg k)/\(∀k∈ms,k.length<1000)/\ρ'=[some (.scr ns),some (.fz (Zd y)),some (.own v (QU CH (hT y t gs gv [] ms))),some (.own v2 (QU CH (hT y t [] [] [] (List.replicate t [])))),some (.fz (.int (gs.length:Int))),u5,u6,some (.own w7 (dlP ms)),u8,u9,u10,u11,u12]) ?ei2 ⟨_,[],_,_,_,U4,h00,rfl,(fun k hk=>nomatch hk),(fun k hk=>nomatch hk),rfl⟩ ?st2 ?fin2)
  case ei2=>exact EvI.cast (Yh (Qw (Wh (ds:=[PyData.int (y.T:Int),.tuple (y.ls.map VY)]) (Qu rfl) QC rfl) Q9) (by rw[z62];omega) (by rw[z62];omega)) (WD rfl (by omega))
  case st2 =>
   rintro t d _ hd ⟨gv,ms,u10,u11,u12,vl,h0,ml,mf,mk,rfl⟩
   obtain⟨ht,rfl⟩:=YS hd;have ht:t<y.T:=ht;refine⟨_,Z8,?_⟩
   walk_at"d"
   rw[Y9];refine QH (Lq (i:=2) (j:=11) NW rfl Q9 (R_hturn.mk ok hg vl ht h0 g8 (by omega)) ?_)
   rintro r N' ⟨φ,v3,full,rfl,rfl⟩
   walk_at"d"
   have h0':=Av full ht;have gfl:=F8 (QV (QE (mT t gs gv [])) φ t) gs.length;have gfn:=NJ (QV (QE (mT t gs gv [])) φ t) gs.length;have vl':=Lw gv (QV (QE (mT t gs gv [])) φ t) gs.length gs.length;generalize gfD (QV (QE (mT t gs gv [])) φ t) gs.length=gf at gfl gfn;generalize gvT gv (QV (QE (mT t gs gv [])) φ t) gs.length gs.length=gv' at h0' vl';clear h0 vl full;refine QH (CF (i:=7) (j:=11) rfl rfl (by omega) ?_)
   walk_at"d"
   refine QH (Ri (k:=.inl 99) (d:=.int 1) rfl QC QC (ZH (by omega)) ?_)
   walk_at"d"
   have hN:∀k,k<(hT y (t+1) gs gv' [] (ms++[gf])).known.length->JX (hT y (t+1) gs gv' [] (ms++[gf])) k (rsT gs gv' [] k):=fun k hk=>Bf vl' (by simpa [hT] using hk);have kl:(hT y (t+1) gs gv' [] (ms++[gf])).known.length=gs.length:=by simp[hT]
   refine QH (VX (Φ:=fun r=>r=.ol (Zl ((List.range gs.length).filter fun k => !decide (rsT gs gv' [] k=0)))) (WH 2 rfl (fun r hr=>by rw[hr];exact Bi (DP _)) (EvO.d (EvO.cast (UP (xs:=List.range gs.length) (enc:=fun(k:Nat)=>PyData.int (k:Int)) (h:=fun(k:Nat)=>PyData.int (k:Int)) (p:=fun k=>decide (rsT gs gv' [] k > 0)) ?ei3 (by rw[JF];omega) ?el3) ?eq3) rfl)) ?_)
   case ei3 =>
    refine EvI.cast (Yh (Qw (Qu rfl) Q9) (by rw[z62];omega) (by rw[z62];omega)) ?_;rw[XN];unfold ZS;exact JJ fun i _=>by rw[Y9]
   case el3 =>
    intro k hk c;have hk:=XT.mp hk;refine⟨_,Z8,?_⟩
    walk_at"e"
    exact⟨ZQ (YJ (Uu Dl rfl (Qw (Qu rfl) Q9) (R_hrest.mk (Bf vl' hk))) QC),fun _=>Qu rfl⟩
   case eq3 =>
    unfold Zl;rw[List.filter_congr fun k hk=>?_];have hk:=XT.mp hk
    have:=h0' k hk
    rw[<- decide_not];exact decide_eq_decide.mpr ⟨fun z=>by omega,fun z=>by omega⟩
   rintro r rfl
   walk_at"d"
   refine Je 12 rfl ?_
   walk_at"d"
   have mf':∀k∈ms++[gf],Wg k:=fun k hk=>by
    rcases Xx.mp hk with hk|hk
    ·exact mf k hk
    ·rw[Xg.mp hk];exact gfl
   have mk':∀k∈ms++[gf],k.length<1000:=fun k hk=>by
    rcases Xx.mp hk with hk|hk
    ·exact mk k hk
    ·rw[Xg.mp hk];omega
   have ml':(ms++[gf]).length=t+1:=by rw[Xm,ml];rfl
   have own:=R_lown.mk (CH:=CH) (N:=hT y (t+1) gs gv' [] (ms++[gf])) (rsT gs gv' []) hN (by rw[kl];omega) (by show(ms++[gf]).length<=900;omega) mf' mk';rw[kl]at own;refine QH (Z7 (b:=false) (B2 2 rfl (Rz (Ψ:=DlZ (ms++[gf])) 7 rfl (fun a b c=>dlP.fz a b c) (Ja (b:=false) (c:=false) (Yp (b:=true) (Vf (Ze (Uk rfl (Uk rfl (Qw (Qu rfl) Q9))) own))) (fun _=>Yp (b:=true) (Vf (Uc (Uu NB rfl Q9 R_hyard.mk) rfl)))))) (fun c=>nomatch c) (fun _=>ZD ?_));refine Af NW rfl (R_hturn.mk (gs:=[]) (gv:=[]) ok (fun x hx=>nomatch hx) rfl ht (fun k hk=>Xk hk (Nat.not_lt_zero _)) (XF _) (by rw[U4];omega)) ?_
   rintro r N' ⟨φ',v4,_,rfl,rfl⟩
   refine⟨⟨v4,rfl⟩,?_⟩
   walk_at"d"
   have fn0:Va (.list (Zl [])):=Bm _;refine Z7 (b:=false) (B2 3 rfl (Ja (b:=false) (c:=false) (Zh.cast (ZQ (GM (a:=.list (Zl [])) (b:=.list (Zl [])) (Qt.cast (EvO.fz (Zq.o (Y7 N5 rfl Q9 (R_hopen.mk (fun _=>0) (fun k hk=>Xk hk (Nat.not_lt_zero _)) (XF _))))) rfl) (EvO.fz (V0 (ds:=[]) ZC (by simp))) fn0 fn0)) (by rw[WF fn0];rfl)) (fun _=>Zh.cast (ZQ (MB (Uu Td rfl Q9 R_hnow.mk) (ZB (Qu rfl) QC))) ?nw))) (fun c=>nomatch c) (fun _=>ZD ?_)
   case nw =>
    show(!decide (((t+1:Nat):Int)=(t:Int)+1))=false
    rw[XV (by omega)];rfl
   have e9:List.replicate t ([]:QX)++[[]]=List.replicate (t+1) []:=List.replicate_succ'.symm;rw[<- e9];exact⟨gv',ms++[gf],_,_,_,vl',h0',ml',mf',mk',rfl⟩
  case fin2 =>
   rintro _ ⟨gv,ms,u10,u11,u12,vl,h0,ml,mf,mk,rfl⟩
   rw[Wr]at ml ⊢;refine Vj (Qt.cast (Jj (b:=true) (c:=true) (Gj 3 rfl rfl (LR (n:=y.T) (Y7 R4 rfl Q9 (R_hgifts.mk (by show(List.replicate y.T ([]:QX)).length<=1000;rw[U4];omega))) (EvO.cast (UL (xs:=List.range y.T) (enc:=fun(k:Nat)=>PyData.int (k:Int)) (h:=fun _=>.dict []) ?ei4 (by rw[JF];omega) ?el4) ?eq4))) (fun _=>Gj 2 rfl rfl (Qt.cast (Wk (a:=Zd y) (b:=Zd y) (Uu NB rfl Q9 R_hyard.mk) (Qu rfl) (Bb y) (Bb y)) (by rw[WF (Bb y)])))) rfl) rfl
   case ei4 =>
    refine EvI.cast (Yh (Qw (Wh (ds:=[PyData.int (y.T:Int),.tuple (y.ls.map VY)]) (Qu rfl) QC rfl) Q9) (by rw[z62];omega) (by rw[z62];omega)) ?_;rw[XN];unfold ZS;exact JJ fun i _=>by rw[Y9]
   case el4 =>
    intro k hk c;refine⟨_,Z8,?_⟩;exact Lf
   case eq4 =>
    rw[List.map_const',JF]
end
inductive DH (K:W.Frag)(x:Str)(st:Stmt):Prop
 |mk {f:Addr} {oc kV dc pm cd ct:Value} {od an:Qj} {sl:Array (Qf)} (a:W.nsIn K mainGlobals x=some (some (.ref f))) (l:K.lookup f=some ⟨oc,od,.func (W.fnOf x x (Z9 st) (Zg st) (Qx st) .none kV dc pm an cd ct),sl⟩) (c:W.codeIn K cd x=true) (k:W.keepIn K (.ref f)=true):DH K x st
def DH.df {K:W.Frag}{h:Heap}{mg:Str->Qf}{x:Str}{st:Stmt}{ps:Qh}(X:K.In h)(G:h.Ns mainGlobals mg)(H:DH K x st)(hb:∀(z:Value×Value×Value×Qj×Value×Value) (us:Qe),us.length=ps.length->bindArgs (W.fnOf x x (Z9 st) (Zg st) (Qx st) .none z.1 z.2.1 z.2.2.1 z.2.2.2.1 z.2.2.2.2.1 z.2.2.2.2.2) ⟨us,[]⟩=pure (ps.zip us)):Df K mg x st ps:=by
 cases H with
 |mk a l c k=>exact⟨_,_,ZW l c k,W.mg_of X G a,(ZW l c k).binds fun kV dc pm an cd ct us hl=>hb (kV,dc,pm,an,cd,ct) us hl⟩
@[elab_as_elim] theorem ln1 {α:Type}{p:List α->Prop}{us:List α}(h:us.length=1)(k:∀a0,p [a0]):p us:=by
 match us,h with
 |[a0],_=>exact k a0
@[elab_as_elim] theorem ln2 {α:Type}{p:List α->Prop}{us:List α}(h:us.length=2)(k:∀a0 a1,p [a0,a1]):p us:=by
 match us,h with
 |[a0,a1],_=>exact k a0 a1
@[elab_as_elim] theorem ln3 {α:Type}{p:List α->Prop}{us:List α}(h:us.length=3)(k:∀a0 a1 a2,p [a0,a1,a2]):p us:=by
 match us,h with
 |[a0,a1,a2],_=>exact k a0 a1 a2
@[elab_as_elim] theorem ln4 {α:Type}{p:List α->Prop}{us:List α}(h:us.length=4)(k:∀a0 a1 a2 a3,p [a0,a1,a2,a3]):p us:=by
 match us,h with
 |[a0,a1,a2,a3],_=>exact k a0 a1 a2 a3
def Ztd {P:Program} {w:World} {K:W.Frag} {h:Heap} {mg:Str->Qf} {fa C gS gE:Addr} (X:K.In h) (G:h.Ns mainGlobals mg) (hfa:mg "law"=some (.ref fa))
 {cg ct:Addr}
 {CH:Addr}
 {YR CR fR:Addr} {odR anR:Qj} {slR:Array (Qf)} {kVR dcR pmR cdR ctR:Value}
 {f37 f38 f39 f40 f41 f42 f43 f44 f45 f46 f47 f48 f49 f50 f51 f52 f53 f54 f55 f56:Addr} {od37 an37 od38 an38 od39 an39 od40 an40 od41 an41 od42 an42 od43 an43 od44 an44 od45 an45 od46 an46 od47 an47 od48 an48 od49 an49 od50 an50 od51 an51 od52 an52 od53 an53 od54 an54 od55 an55 od56 an56 dS dE:Qj} {sl37 sl38 sl39 sl40 sl41 sl42 sl43 sl44 sl45 sl46 sl47 sl48 sl49 sl50 sl51 sl52 sl53 sl54 sl55 sl56 slS slE:Array (Qf)} {oc37 kV37 dc37 pm37 cd37 ct37 oc38 kV38 dc38 pm38 cd38 ct38 oc39 kV39 dc39 pm39 cd39 ct39 oc40 kV40 dc40 pm40 cd40 ct40 oc41 kV41 dc41 pm41 cd41 ct41 oc42 kV42 dc42 pm42 cd42 ct42 oc43 kV43 dc43 pm43 cd43 ct43 oc44 kV44 dc44 pm44 cd44 ct44 oc45 kV45 dc45 pm45 cd45 ct45 oc46 kV46 dc46 pm46 cd46 ct46 oc47 kV47 dc47 pm47 cd47 ct47 oc48 kV48 dc48 pm48 cd48 ct48 oc49 kV49 dc49 pm49 cd49 ct49 oc50 kV50 dc50 pm50 cd50 ct50 oc51 kV51 dc51 pm51 cd51 ct51 oc52 kV52 dc52 pm52 cd52 ct52 oc53 kV53 dc53 pm53 cd53 ct53 oc54 kV54 dc54 pm54 cd54 ct54 oc55 kV55 dc55 pm55 cd55 ct55 oc56 kV56 dc56 pm56 cd56 ct56:Value} {tS tE nS nE:Nat}
 (aC:W.nsIn K mainGlobals "Net"=some (some (.ref C)))
 (aH:W.nsIn K mainGlobals "Hand"=some (some (.ref CH)))
 (h0:DH K "is_whole" Hx)
 (h1:DH K "is_whole_within" HI)
 (h2:DH K "is_amount" Hg)
 (h3:DH K "is_tuple_of" HB)
 (h4:DH K "is_guest" Hz)
 (h5:DH K "turns_of" Ho)
 (h6:DH K "line_count" HE)
 (h7:DH K "above_of" Hk)
 (h8:DH K "bound_at" Hm)
 (h9:DH K "line_of" DS)
 (h10:DH K "is_there" Hv)
 (h11:DH K "want_of" DY)
 (h12:DH K "most_of" DM)
 (h13:DH K "with_want" Hb)
 (h14:DH K "staying_from" HK)
 (h15:DH K "guest_node" HG)
 (h16:DH K "line_node" Hd)
 (h17:DH K "lay_guest" Hi)
 (h18:DH K "lay_turn" Hu)
 (h19:DH K "filled_net" HH)
 (h20:DH K "takes_by" BF)
 (h21:DH K "greatest_filling" BR)
 (h22:DH K "guests_reached" BQ)
 (h23:DH K "reaching_at" BN)
 (h24:DH K "given_at" Hl)
 (h25:DH K "given_most" BJ)
 (h26:DH K "short_of" BG)
 (h27:DH K "best_filling" HL)
 (h28:DH K "lacking_set" HC)
 (h29:DH K "refuse_lack" HA)
 (h30:DH K "_law_cell_at" HJ)
 (h31:DH K "_law_feed" Ha)
 (h32:DH K "_law_digit" HF)
 (h33:DH K "_law_yard" Hh)
 (h34:DH K "_law_guest" BK)
 (h35:DH K "_law_come" Gw)
 (h36:DH K "_law_own" Hq)
 (a37:W.nsIn K mainGlobals "law"=some (some (.ref f37)))
 (l37:K.lookup f37=some ⟨oc37,od37,.func (W.fnOf "law" "law" (Z9 Yn) (Zg Yn) (Qx Yn) .none kV37 dc37 pm37 an37 cd37 ct37),sl37⟩)
 (c37:W.codeIn K cd37 "law"=true)
 (k37:W.keepIn K (.ref f37)=true)
 (a38:W.findIn K (.ref C) "lay"=some (some (.ref f38)))
 (i38:W.isFn K (.ref f38)=true)
 (l38:K.lookup f38=some ⟨oc38,od38,.func (W.fnOf "lay" "Net.lay" (Z9 Jw) (Zg Jw) (Qx Jw) .none kV38 dc38 pm38 an38 cd38 ct38),sl38⟩)
 (c38:W.codeIn K cd38 "Net.lay"=true)
 (k38:W.keepIn K (.ref f38)=true)
 (a39:W.findIn K (.ref C) "lay_one"=some (some (.ref f39)))
 (i39:W.isFn K (.ref f39)=true)
 (l39:K.lookup f39=some ⟨oc39,od39,.func (W.fnOf "lay_one" "Net.lay_one" (Z9 Jz) (Zg Jz) (Qx Jz) .none kV39 dc39 pm39 an39 cd39 ct39),sl39⟩)
 (c39:W.codeIn K cd39 "Net.lay_one"=true)
 (k39:W.keepIn K (.ref f39)=true)
 (a40:W.findIn K (.ref C) "flow"=some (some (.ref f40)))
 (i40:W.isFn K (.ref f40)=true)
 (l40:K.lookup f40=some ⟨oc40,od40,.func (W.fnOf "flow" "Net.flow" (Z9 Jv) (Zg Jv) (Qx Jv) .none kV40 dc40 pm40 an40 cd40 ct40),sl40⟩)
 (c40:W.codeIn K cd40 "Net.flow"=true)
 (k40:W.keepIn K (.ref f40)=true)
 (a41:W.findIn K (.ref C) "reached"=some (some (.ref f41)))
 (i41:W.isFn K (.ref f41)=true)
 (l41:K.lookup f41=some ⟨oc41,od41,.func (W.fnOf "reached" "Net.reached" (Z9 J0) (Zg J0) (Qx J0) .none kV41 dc41 pm41 an41 cd41 ct41),sl41⟩)
 (c41:W.codeIn K cd41 "Net.reached"=true)
 (k41:W.keepIn K (.ref f41)=true)
 (a42:W.findIn K (.ref C) "push"=some (some (.ref f42)))
 (i42:W.isFn K (.ref f42)=true)
 (l42:K.lookup f42=some ⟨oc42,od42,.func (W.fnOf "push" "Net.push" (Z9 WN) (Zg WN) (Qx WN) .none kV42 dc42 pm42 an42 cd42 ct42),sl42⟩)
 (c42:W.codeIn K cd42 "Net.push"=true)
 (k42:W.keepIn K (.ref f42)=true)
 (a43:W.findIn K (.ref C) "fill"=some (some (.ref f43)))
 (i43:W.isFn K (.ref f43)=true)
 (l43:K.lookup f43=some ⟨oc43,od43,.func (W.fnOf "fill" "Net.fill" (Z9 Ju) (Zg Ju) (Qx Ju) .none kV43 dc43 pm43 an43 cd43 ct43),sl43⟩)
 (c43:W.codeIn K cd43 "Net.fill"=true)
 (k43:W.keepIn K (.ref f43)=true)
 (a44:W.findIn K (.ref C) "way_to"=some (some (.ref f44)))
 (i44:W.isFn K (.ref f44)=true)
 (l44:K.lookup f44=some ⟨oc44,od44,.func (W.fnOf "way_to" "Net.way_to" (Z9 J7) (Zg J7) (Qx J7) .none kV44 dc44 pm44 an44 cd44 ct44),sl44⟩)
 (c44:W.codeIn K cd44 "Net.way_to"=true)
 (k44:W.keepIn K (.ref f44)=true)
 (a45:W.findIn K (.ref CH) "now"=some (some (.ref f45)))
 (i45:W.isFn K (.ref f45)=true)
 (l45:K.lookup f45=some ⟨oc45,od45,.func (W.fnOf "now" "Hand.now" (Z9 Jt) (Zg Jt) (Qx Jt) .none kV45 dc45 pm45 an45 cd45 ct45),sl45⟩)
 (c45:W.codeIn K cd45 "Hand.now"=true)
 (k45:W.keepIn K (.ref f45)=true)
 (a46:W.findIn K (.ref CH) "come"=some (some (.ref f46)))
 (i46:W.isFn K (.ref f46)=true)
 (l46:K.lookup f46=some ⟨oc46,od46,.func (W.fnOf "come" "Hand.come" (Z9 J4) (Zg J4) (Qx J4) .none kV46 dc46 pm46 an46 cd46 ct46),sl46⟩)
 (c46:W.codeIn K cd46 "Hand.come"=true)
 (k46:W.keepIn K (.ref f46)=true)
 (a47:W.findIn K (.ref CH) "turn"=some (some (.ref f47)))
 (i47:W.isFn K (.ref f47)=true)
 (l47:K.lookup f47=some ⟨oc47,od47,.func (W.fnOf "turn" "Hand.turn" (Z9 J6) (Zg J6) (Qx J6) .none kV47 dc47 pm47 an47 cd47 ct47),sl47⟩)
 (c47:W.codeIn K cd47 "Hand.turn"=true)
 (k47:W.keepIn K (.ref f47)=true)
 (a48:W.findIn K (.ref CH) "rest"=some (some (.ref f48)))
 (i48:W.isFn K (.ref f48)=true)
 (l48:K.lookup f48=some ⟨oc48,od48,.func (W.fnOf "rest" "Hand.rest" (Z9 J5) (Zg J5) (Qx J5) .none kV48 dc48 pm48 an48 cd48 ct48),sl48⟩)
 (c48:W.codeIn K cd48 "Hand.rest"=true)
 (k48:W.keepIn K (.ref f48)=true)
 (a49:W.findIn K (.ref CH) "open_ones"=some (some (.ref f49)))
 (i49:W.isFn K (.ref f49)=true)
 (l49:K.lookup f49=some ⟨oc49,od49,.func (W.fnOf "open_ones" "Hand.open_ones" (Z9 WO) (Zg WO) (Qx WO) .none kV49 dc49 pm49 an49 cd49 ct49),sl49⟩)
 (c49:W.codeIn K cd49 "Hand.open_ones"=true)
 (k49:W.keepIn K (.ref f49)=true)
 (a50:W.findIn K (.ref CH) "gifts"=some (some (.ref f50)))
 (i50:W.isFn K (.ref f50)=true)
 (l50:K.lookup f50=some ⟨oc50,od50,.func (W.fnOf "gifts" "Hand.gifts" (Z9 WJ) (Zg WJ) (Qx WJ) .none kV50 dc50 pm50 an50 cd50 ct50),sl50⟩)
 (c50:W.codeIn K cd50 "Hand.gifts"=true)
 (k50:W.keepIn K (.ref f50)=true)
 (a51:W.findIn K (.ref CH) "yard_now"=some (some (.ref f51)))
 (i51:W.isFn K (.ref f51)=true)
 (l51:K.lookup f51=some ⟨oc51,od51,.func (W.fnOf "yard_now" "Hand.yard_now" (Z9 J8) (Zg J8) (Qx J8) .none kV51 dc51 pm51 an51 cd51 ct51),sl51⟩)
 (c51:W.codeIn K cd51 "Hand.yard_now"=true)
 (k51:W.keepIn K (.ref f51)=true)
 (a52:W.findIn K (.ref CH) "still_there"=some (some (.ref f52)))
 (i52:W.isFn K (.ref f52)=true)
 (l52:K.lookup f52=some ⟨oc52,od52,.func (W.fnOf "still_there" "Hand.still_there" (Z9 JA) (Zg JA) (Qx JA) .none kV52 dc52 pm52 an52 cd52 ct52),sl52⟩)
 (c52:W.codeIn K cd52 "Hand.still_there"=true)
 (k52:W.keepIn K (.ref f52)=true)
 (a53:W.findIn K (.ref CH) "refuse_past"=some (some (.ref f53)))
 (i53:W.isFn K (.ref f53)=true)
 (l53:K.lookup f53=some ⟨oc53,od53,.func (W.fnOf "refuse_past" "Hand.refuse_past" (Z9 J9) (Zg J9) (Qx J9) .none kV53 dc53 pm53 an53 cd53 ct53),sl53⟩)
 (c53:W.codeIn K cd53 "Hand.refuse_past"=true)
 (k53:W.keepIn K (.ref f53)=true)
 (a54:W.findIn K (.ref CH) "refuse_number"=some (some (.ref f54)))
 (i54:W.isFn K (.ref f54)=true)
 (l54:K.lookup f54=some ⟨oc54,od54,.func (W.fnOf "refuse_number" "Hand.refuse_number" (Z9 JB) (Zg JB) (Qx JB) .none kV54 dc54 pm54 an54 cd54 ct54),sl54⟩)
 (c54:W.codeIn K cd54 "Hand.refuse_number"=true)
 (k54:W.keepIn K (.ref f54)=true)
 (a55:W.findIn K (.ref C) "__init__"=some (some (.ref f55)))
 (i55:W.isFn K (.ref f55)=true)
 (l55:K.lookup f55=some ⟨oc55,od55,.func (W.fnOf "__init__" "Net.__init__" (Z9 Ux) (Zg Ux) (Qx Ux) .none kV55 dc55 pm55 an55 cd55 ct55),sl55⟩)
 (c55:W.codeIn K cd55 "Net.__init__"=true)
 (k55:W.keepIn K (.ref f55)=true)
 (a56:W.findIn K (.ref CH) "__init__"=some (some (.ref f56)))
 (i56:W.isFn K (.ref f56)=true)
 (l56:K.lookup f56=some ⟨oc56,od56,.func (W.fnOf "__init__" "Hand.__init__" (Z9 Uy) (Zg Uy) (Qx Uy) .none kV56 dc56 pm56 an56 cd56 ct56),sl56⟩)
 (c56:W.codeIn K cd56 "Hand.__init__"=true)
 (k56:W.keepIn K (.ref f56)=true)
 (pg:W.plainGet K C Str.empty=true)
 (hd:W.hasDictIn K C=true)
 (po:W.plainOver K C=true)
 (sa:W.findIn K (.ref C) "__setattr__"=some (some (.builtin "object.__setattr__")))
 (mk:W.makesIn K C=true)
 (kc:W.keepIn K (.ref C)=true)
 (Hpg:W.plainGet K CH Str.empty=true)
 (Hhd:W.hasDictIn K CH=true)
 (Hpo:W.plainOver K CH=true)
 (Hsa:W.findIn K (.ref CH) "__setattr__"=some (some (.builtin "object.__setattr__")))
 (Hmk:W.makesIn K CH=true)
 (Hkc:W.keepIn K (.ref CH)=true)
 (Hn0:W.findIn K (.ref CH) "yard"=some none)
 (Hn1:W.findIn K (.ref CH) "present"=some none)
 (Hn2:W.findIn K (.ref CH) "known"=some none)
 (Hn3:W.findIn K (.ref CH) "given"=some none)
 (Hn4:W.findIn K (.ref CH) "gone"=some none)
 (Hn5:W.findIn K (.ref CH) "made"=some none)
 (n0:W.findIn K (.ref C) "ends"=some none)
 (n1:W.findIn K (.ref C) "rooms"=some none)
 (n2:W.findIn K (.ref C) "leaving"=some none)
 (n3:W.findIn K (.ref C) "laid"=some none)
 (aS:W.nsIn K mainGlobals "START"=some (some (.ref gS)))
 (lS:K.lookup gS=some ⟨.type "tuple",dS,.seq #[.str "start" tS] nS,slS⟩)
 (aE:W.nsIn K mainGlobals "END"=some (some (.ref gE)))
 (lE:K.lookup gE=some ⟨.type "tuple",dE,.seq #[.str "end" tE] nE,slE⟩)
 (rC:W.nsIn K mainGlobals "NoRoom"=some (some (.ref CR)))
 (rY:W.nsIn K mainGlobals "YardError"=some (some (.ref YR)))
 (rf:W.findIn K (.ref CR) "__init__"=some (some (.ref fR)))
 (rl:K.lookup fR=some ⟨.type "function",odR,.func (W.fnOf "__init__" "NoRoom.__init__" (Z9 Uz) (Zg Uz) (Qx Uz) .none kVR dcR pmR anR cdR ctR),slR⟩)
 (rc:W.codeIn K cdR "NoRoom.__init__"=true)
 (rk:W.keepIn K (.ref fR)=true)
 (rx:MS K CR fR=true)
 (rg:W.specialIn K (.ref YR) "__getattribute__"=some (some (.builtin "type.__getattribute__")))
 (rr:W.readsIn K YR (.type "type")=true)
 (ri:W.findCls K (.ref YR) (.type "type") "__init__"=some (.val (.builtin "ValueError.__init__")))
 (rs:W.findIn K (.ref CR) "__setattr__"=some (some (.builtin "object.__setattr__")))
 (ro:((W.clsIn K CR).any fun cd=>Wm cd.mro)=true)
 (xa0:W.nsIn K mainGlobals "NoGuest"=some (some (.ref cg)))
 (xa1:W.nsIn K mainGlobals "NoTime"=some (some (.ref ct)))
 (xe:W.exmOne K (.ref CR) (.ref YR)=some true)
 (xp:W.findIn K (.ref CR) "__getattribute__"=some (some (.builtin "BaseException.__getattribute__")))
 (xn:W.findIn K (.ref CR) "some"=some none)
 (xq:W.findIn K (.ref CR) "__getattr__"=some none)
 (xb:W.mroIn K CR (.type "BaseException")=some true)
 (xc:W.findIn K (.ref CR) "__class__"=some (some (.builtin "object.__class__")))
 (xs:W.specialIn K (.builtin "object.__class__") "__get__"=some (some (.builtin "getset_descriptor.__get__")))
 (xt:W.takesIn K (.builtin "object.__class__")=some true)
 (xm:W.mroIn K CR (.type "object")=some true)
 (xk1:W.kitOne K (.ref CR) (.ref CR)=some true)
 (xk2:W.kitOne K (.ref CR) (.type "ValueError")=some true)
 (xk3:W.kitOne K (.ref CR) (.ref cg)=some false)
 (xk4:W.kitOne K (.ref CR) (.ref ct)=some false)
 (rd:W.hasDictIn K CR=true)
 (rt:W.takerIn K CR "some"=some none)
 (rK:W.keepIn K (.ref CR)=true)
 (z0:W.nsIn K mainGlobals "abs"=some none)
 (z1:W.nsIn K mainGlobals "len"=some none)
 (z2:W.nsIn K mainGlobals "max"=some none)
 (z3:W.nsIn K mainGlobals "min"=some none)
 (z4:W.nsIn K mainGlobals "sum"=some none)
 (z5:W.nsIn K mainGlobals "any"=some none)
 (z6:W.nsIn K mainGlobals "all"=some none)
 (z7:W.nsIn K mainGlobals "isinstance"=some none)
 (z8:W.nsIn K mainGlobals "int"=some none)
 (z9:W.nsIn K mainGlobals "bool"=some none)
 (z10:W.nsIn K mainGlobals "list"=some none)
 (z11:W.nsIn K mainGlobals "tuple"=some none)
 (z12:W.nsIn K mainGlobals "range"=some none)
 (z13:W.nsIn K mainGlobals "zip"=some none)
 (z14:W.nsIn K mainGlobals "enumerate"=some none)
 (z15:W.nsIn K mainGlobals "dict"=some none)
 (z16:W.nsIn K mainGlobals "ValueError"=some none)
 : (∃gS gE,W.nsIn K mainGlobals "START"=some (some (.ref gS))/\W.nsIn K mainGlobals "END"=some (some (.ref gE))/\KTup K gS "start" /\ KTup K gE "end")/\∃fd:FuncData,(∀(s:Shared) (v:Value),BindsTo s fd ⟨[v],[]⟩ [("_law_script",v)])/\∀base:Heap,K.In base->base.Ns mainGlobals mg->FnOk P w K mg base CX0 10 fa fd ZaO (GO K):=by
 have e:=hfa.symm.trans (W.mg_of X G a37)
 cases e
 have T:Bl mg:=⟨W.mg_none_of X G z0,W.mg_none_of X G z1,W.mg_none_of X G z2,W.mg_none_of X G z3,W.mg_none_of X G z4,W.mg_none_of X G z5,W.mg_none_of X G z6,W.mg_none_of X G z7,W.mg_none_of X G z8,W.mg_none_of X G z9,W.mg_none_of X G z10,W.mg_none_of X G z11,W.mg_none_of X G z12,W.mg_none_of X G z13,W.mg_none_of X G z14,W.mg_none_of X G z15,W.mg_none_of X G z16⟩;have U:Tx K mg C gS gE:=⟨⟨⟨pg,hd,po,sa⟩,n0,n1,n2,n3⟩,W.mg_of X G aS,W.mg_of X G aE,aS,aE⟩;have UH:HandC K CH:=⟨⟨Hpg,Hhd,Hpo,Hsa⟩,Hn0,Hn1,Hn2,Hn3,Hn4,Hn5⟩;have XR:XC K mg "NoRoom" YR CR fR:=⟨Tn rx rl rfl rg rr ri,rK,W.mg_of X G rC⟩;have XA:Pe K mg YR CR cg ct:=⟨xe,W.mg_of X G rY,⟨⟨xp,xq,xb⟩,rd⟩,xn,⟨⟨xp,xq,xb⟩,rd,xc,xs,xt,xm⟩,xk1,xk2,xk3,xk4,W.mg_of X G xa0,W.mg_of X G xa1⟩;have XbP:=ZW (st:=Uz) rl rc rk;have B_NoRoom:=XbP.binds (ps:=ZaL) fun _ _ _ _ _ _ us hl=>ln2 hl fun _ _=>rfl;have Xb9:=h0.df (ps:=["thing"]) X G fun _ us hl=>ln1 hl fun _=>rfl;have Xca:=h1.df (ps:=Zap) X G fun _ us hl=>ln3 hl fun _ _ _=>rfl;have Xcb:=h2.df (ps:=ZaG) X G fun _ us hl=>ln2 hl fun _ _=>rfl;have Xcc:=h3.df (ps:=ZaD) X G fun _ us hl=>ln2 hl fun _ _=>rfl;have Xcd:=h4.df (ps:=ZaH) X G fun _ us hl=>ln2 hl fun _ _=>rfl;have Xce:=h5.df (ps:=Zaz) X G fun _ us hl=>ln1 hl fun _=>rfl;have Xcf:=h6.df (ps:=Zaz) X G fun _ us hl=>ln1 hl fun _=>rfl;have Xcg:=h7.df (ps:=ZaE) X G fun _ us hl=>ln2 hl fun _ _=>rfl;have Xch:=h8.df (ps:=Zaq) X G fun _ us hl=>ln3 hl fun _ _ _=>rfl;have Xci:=h9.df (ps:=Zas) X G fun _ us hl=>ln1 hl fun _=>rfl;have Xcj:=h10.df (ps:=Zan) X G fun _ us hl=>ln2 hl fun _ _=>rfl;have Xck:=h11.df (ps:=Zas) X G fun _ us hl=>ln1 hl fun _=>rfl;have Xcl:=h12.df (ps:=Zas) X G fun _ us hl=>ln1 hl fun _=>rfl;have Xcm:=h13.df (ps:=ZaI) X G fun _ us hl=>ln2 hl fun _ _=>rfl;have Xcn:=h14.df (ps:=Zan) X G fun _ us hl=>ln2 hl fun _ _=>rfl;have Xco:=h15.df (ps:=ZaP) X G fun _ us hl=>ln1 hl fun _=>rfl;have Xcp:=h16.df (ps:=Zaw) X G fun _ us hl=>ln2 hl fun _ _=>rfl;have Xcq:=h17.df (ps:=Zad) X G fun _ us hl=>ln4 hl fun _ _ _ _=>rfl;have Xcr:=h18.df (ps:=ZaC) X G fun _ us hl=>ln3 hl fun _ _ _=>rfl;have Xcs:=h19.df (ps:=Zab) X G fun _ us hl=>ln2 hl fun _ _=>rfl;have Xct:=h20.df (ps:=Zad) X G fun _ us hl=>ln4 hl fun _ _ _ _=>rfl;have Xcu:=h21.df (ps:=Zab) X G fun _ us hl=>ln2 hl fun _ _=>rfl;have Xcv:=h22.df (ps:=Zab) X G fun _ us hl=>ln2 hl fun _ _=>rfl;have Xcw:=h23.df (ps:=Zaf) X G fun _ us hl=>ln4 hl fun _ _ _ _=>rfl;have Xcx:=h24.df (ps:=Zaf) X G fun _ us hl=>ln4 hl fun _ _ _ _=>rfl;have Xcy:=h25.df (ps:=Zae) X G fun _ us hl=>ln3 hl fun _ _ _=>rfl;have Xcz:=h26.df (ps:=Zae) X G fun _ us hl=>ln3 hl fun _ _ _=>rfl;have XcA:=h27.df (ps:=Zab) X G fun _ us hl=>ln2 hl fun _ _=>rfl;have XcB:=h28.df (ps:=Zab) X G fun _ us hl=>ln2 hl fun _ _=>rfl;have XcC:=h29.df (ps:=Zab) X G fun _ us hl=>ln2 hl fun _ _=>rfl;have XcD:=h30.df (ps:=Zat) X G fun _ us hl=>ln2 hl fun _ _=>rfl;have XcE:=h31.df (ps:=ZaQ) X G fun _ us hl=>ln1 hl fun _=>rfl;have XcF:=h32.df (ps:=Zao) X G fun _ us hl=>ln2 hl fun _ _=>rfl;have XcG:=h33.df (ps:=ZaJ) X G fun _ us hl=>ln1 hl fun _=>rfl;have XcH:=h34.df (ps:=Zaj) X G fun _ us hl=>ln3 hl fun _ _ _=>rfl;have XcI:=h35.df (ps:=Zar) X G fun _ us hl=>ln2 hl fun _ _=>rfl;have XcJ:=h36.df (ps:=Zal) X G fun _ us hl=>ln3 hl fun _ _ _=>rfl;have XbO:=ZW (st:=Yn) l37 c37 k37;have D_law:Df K mg "law" Yn ZaO:=⟨_,_,XbO,W.mg_of X G a37,XbO.binds (ps:=ZaO) fun _ _ _ _ _ _ us hl=>ln1 hl fun _=>rfl⟩;have XbQ:=ZW (st:=Jw) l38 c38 k38;have XcK:Mf K C "lay" "Net.lay" Jw Zac:=⟨_,_,XbQ,⟨a38,i38,k38⟩,XbQ.binds (ps:=Zac) fun _ _ _ _ _ _ us hl=>ln4 hl fun _ _ _ _=>rfl⟩;have XbR:=ZW (st:=Jz) l39 c39 k39;have XcL:Mf K C "lay_one" "Net.lay_one" Jz Zac:=⟨_,_,XbR,⟨a39,i39,k39⟩,XbR.binds (ps:=Zac) fun _ _ _ _ _ _ us hl=>ln4 hl fun _ _ _ _=>rfl⟩;have XbS:=ZW (st:=Jv) l40 c40 k40;have XcM:Mf K C "flow" "Net.flow" Jv Zah:=⟨_,_,XbS,⟨a40,i40,k40⟩,XbS.binds (ps:=Zah) fun _ _ _ _ _ _ us hl=>ln3 hl fun _ _ _=>rfl⟩;have XbT:=ZW (st:=J0) l41 c41 k41;have XcN:Mf K C "reached" "Net.reached" J0 ZaA:=⟨_,_,XbT,⟨a41,i41,k41⟩,XbT.binds (ps:=ZaA) fun _ _ _ _ _ _ us hl=>ln2 hl fun _ _=>rfl⟩;have XbU:=ZW (st:=WN) l42 c42 k42;have XcO:Mf K C "push" "Net.push" WN ZaN:=⟨_,_,XbU,⟨a42,i42,k42⟩,XbU.binds (ps:=ZaN) fun _ _ _ _ _ _ us hl=>ln2 hl fun _ _=>rfl⟩;have XbV:=ZW (st:=Ju) l43 c43 k43;have XcP:Mf K C "fill" "Net.fill" Ju Zah:=⟨_,_,XbV,⟨a43,i43,k43⟩,XbV.binds (ps:=Zah) fun _ _ _ _ _ _ us hl=>ln3 hl fun _ _ _=>rfl⟩;have XbW:=ZW (st:=J7) l44 c44 k44;have XcQ:Mf K C "way_to" "Net.way_to" J7 Zav:=⟨_,_,XbW,⟨a44,i44,k44⟩,XbW.binds (ps:=Zav) fun _ _ _ _ _ _ us hl=>ln3 hl fun _ _ _=>rfl⟩;have XbX:=ZW (st:=Jt) l45 c45 k45;have XcR:Mf K CH "now" "Hand.now" Jt Zag:=⟨_,_,XbX,⟨a45,i45,k45⟩,XbX.binds (ps:=Zag) fun _ _ _ _ _ _ us hl=>ln1 hl fun _=>rfl⟩;have XbY:=ZW (st:=J4) l46 c46 k46;have XcS:Mf K CH "come" "Hand.come" J4 ZaB:=⟨_,_,XbY,⟨a46,i46,k46⟩,XbY.binds (ps:=ZaB) fun _ _ _ _ _ _ us hl=>ln2 hl fun _ _=>rfl⟩;have XbZ:=ZW (st:=J6) l47 c47 k47;have XcT:Mf K CH "turn" "Hand.turn" J6 Zag:=⟨_,_,XbZ,⟨a47,i47,k47⟩,XbZ.binds (ps:=Zag) fun _ _ _ _ _ _ us hl=>ln1 hl fun _=>rfl⟩;have Xb0:=ZW (st:=J5) l48 c48 k48;have XcU:Mf K CH "rest" "Hand.rest" J5 Zai:=⟨_,_,Xb0,⟨a48,i48,k48⟩,Xb0.binds (ps:=Zai) fun _ _ _ _ _ _ us hl=>ln2 hl fun _ _=>rfl⟩;have Xb1:=ZW (st:=WO) l49 c49 k49;have XcV:Mf K CH "open_ones" "Hand.open_ones" WO Zag:=⟨_,_,Xb1,⟨a49,i49,k49⟩,Xb1.binds (ps:=Zag) fun _ _ _ _ _ _ us hl=>ln1 hl fun _=>rfl⟩;have Xb2:=ZW (st:=WJ) l50 c50 k50;have XcW:Mf K CH "gifts" "Hand.gifts" WJ Zag:=⟨_,_,Xb2,⟨a50,i50,k50⟩,Xb2.binds (ps:=Zag) fun _ _ _ _ _ _ us hl=>ln1 hl fun _=>rfl⟩;have Xb3:=ZW (st:=J8) l51 c51 k51;have XcX:Mf K CH "yard_now" "Hand.yard_now" J8 Zag:=⟨_,_,Xb3,⟨a51,i51,k51⟩,Xb3.binds (ps:=Zag) fun _ _ _ _ _ _ us hl=>ln1 hl fun _=>rfl⟩;have Xb4:=ZW (st:=JA) l52 c52 k52;have XcY:Mf K CH "still_there" "Hand.still_there" JA Zag:=⟨_,_,Xb4,⟨a52,i52,k52⟩,Xb4.binds (ps:=Zag) fun _ _ _ _ _ _ us hl=>ln1 hl fun _=>rfl⟩;have Xb5:=ZW (st:=J9) l53 c53 k53;have XcZ:Mf K CH "refuse_past" "Hand.refuse_past" J9 Zax:=⟨_,_,Xb5,⟨a53,i53,k53⟩,Xb5.binds (ps:=Zax) fun _ _ _ _ _ _ us hl=>ln2 hl fun _ _=>rfl⟩;have Xb6:=ZW (st:=JB) l54 c54 k54;have Xc0:Mf K CH "refuse_number" "Hand.refuse_number" JB Zai:=⟨_,_,Xb6,⟨a54,i54,k54⟩,Xb6.binds (ps:=Zai) fun _ _ _ _ _ _ us hl=>ln2 hl fun _ _=>rfl⟩;have Xb7:=ZW (st:=Ux) l55 c55 k55;have B_Net:=Xb7.binds (ps:=Zag) fun _ _ _ _ _ _ us hl=>ln1 hl fun _=>rfl;have Xb8:=ZW (st:=Uy) l56 c56 k56;have B_Hand:=Xb8.binds (ps:=ZaM) fun _ _ _ _ _ _ us hl=>ln2 hl fun _ _=>rfl;refine⟨⟨gS,gE,aS,aE,⟨_,_,_,_,lS⟩,⟨_,_,_,_,lE⟩⟩,W.fnOf "law" "law" (Z9 Yn) (Zg Yn) (Qx Yn) .none kV37 dc37 pm37 an37 cd37 ct37,fun s v=>.of_eq rfl,fun base _ _=>?_⟩;have Xbd:=LU (P:=P) (w:=w) (base:=base) T XcD;have Xbm:=LS (P:=P) (w:=w) (base:=base) T XcE;have XaU:=Cm (P:=P) (w:=w) (base:=base) T XcF;have XbK:=Aa T XcG XaU;have XbL:=An T XcH XaU;have Xbn:M3 P w K mg base "Hand" CH ZaM 1:=⟨_,_,⟨Hmk,a56,i56,Hkc⟩,W.mg_of X G aH,B_Hand,TB (P:=P) (w:=w) (base:=base) T UH Xb8⟩;have XbF:=Cw (P:=P) (w:=w) (base:=base) T Xcc;have XbE:=Er (P:=P) (w:=w) (base:=base) T Xb9;have XaW:=C4 T Xca XbE;have XaX:=CB (P:=P) (w:=w) (base:=base) T Xcf;have XaT:=FM (P:=P) (w:=w) (base:=base) T Xce;have Xbi:=EU T Xcb XaW;have Xbj:=Ek T Xcd XbF XaW XaX XaT Xbi;have Xa6:=FV (P:=P) (w:=w) (base:=base) T UH XcZ;have Xbv:Mq P w K mg base "Net" C 1:=⟨_,_,⟨mk,a55,i55,kc⟩,W.mg_of X G aC,B_Net,PO (P:=P) (w:=w) (base:=base) T U Xb7⟩;have Xbe:=Lm (P:=P) (w:=w) (base:=base) T U XcL;have Xa3:=Tp T U XcK Xbe;have Xa1:=Ly (P:=P) (w:=w) (base:=base) T Xck;have XaZ:=Fk (P:=P) (w:=w) (base:=base) T Xco;have Xa9:=Ct (P:=P) (w:=w) (base:=base) T Xcj;have Xba:=Fe (P:=P) (w:=w) (base:=base) T Xcl;have XaV:=Fp (P:=P) (w:=w) (base:=base) T Xcp;have Xa0:=AY (P:=P) (w:=w) (base:=base) T Xci;have Xbw:=Eg T U Xcq Xa3 Xa1 XaZ XaT Xa9 Xba XaV Xa0;have XaY:=CZ (P:=P) (w:=w) (base:=base) T Xch;have Xbb:=CP (P:=P) (w:=w) (base:=base) T Xcg;have Xbx:=FI T U Xcr Xa3 XaY XaV XaX Xbb;have Xa5:=Ez (P:=P) (w:=w) (base:=base) T U XcN;have Xbt:=Fd (P:=P) (w:=w) (base:=base) T U XcO;have Xbu:=Tu (P:=P) (w:=w) (base:=base) T U XcQ;have Xby:=LD T U XcP Xa5 Xbt Xbu;have Xbc:=C2 T U Xcs Xbv Xbw XaT Xbx Xby;have XbC:=EA T U Xcv Xbc Xa5 XaZ;have Xbf:=Ll T XcB XbC;have Xbr:=E1 T Xcw XaX Xa9 Xa0 Xba Xbb XaY;have Xbs:=Cc T Xcx Xbr XaY;have XbD:=Ak T Xcy XaT Xbs;have Xbg:=FL T Xcz Xa1 XbD;have Xbh:M6 P w K mg base fR ZaL 1 (Gb K CR "some"):=⟨_,B_NoRoom,Aw (P:=P) (w:=w) (base:=base) T XbP XR.cl ⟨rs,ro,rd⟩ rt (W.mg_of X G rY)⟩;have Xbk:=As T XR XcC Xbf Xbg Xbh;have XbH:=CD (P:=P) (w:=w) (base:=base) T Xcm;have XbI:=TV (P:=P) (w:=w) (base:=base) T Xcn;have XbG:=T4 T UH Xc0 XaW;have Xa2:=Co T UH XcU XbG Xa1;have Xa7:=A3 T UH XcY XbH XbI Xa2;have Xbl:=FH T UH XR XcS Xbj Xa6 Xbk Xa7;have Xbo:=FD T UH XR XA XcI Xbl;have Xbz:=T8 (P:=P) (w:=w) (base:=base) T U XcM;have XbA:=CS T U Xct XaT Xbz XaV Xa0 XaZ;have XbB:=FG T U Xcu Xbc XbA;have XbJ:=Fb T XcA XbB;have Xbp:=FQ T UH XcT Xa6 XaT XbJ Xa7;have Xbq:=Cd (P:=P) (w:=w) (base:=base) T UH XcX;have Xa8:=AT (P:=P) (w:=w) (base:=base) T UH XcW;have Xa4:=CI T UH XcV Xa2;have XbM:=LF T UH XcJ Xa8 Xa4;have XbN:=LW (P:=P) (w:=w) (base:=base) T UH XcR;exact Ta T UH XbO Xbd Xbm XbK XbL Xbn Xbo Xbp Xa2 Xbq XbM XbN Xa4 Xa8
end My
namespace PySem.W.Fast
def tw1600033563252941653:=0
def tw13630737856601992642:=0
def tw11681805869451709947:=0
def tw5874440862710129996:=0
def tw9557070493193732963:=0
def tw13940956433934035535:=0
def tw3905696370783564397:=0
def tw17793429867638688049:=0
def tw11759134319623094946:=0
def tw16478883877050015316:=0
def tw13524054879110978302:=0
def tw11434746101841535428:=0
def tw11674636013440571141:=0
def tw5542907465002821611:=0
def tw732690042876363325:=0
def tw14652085349390551723:=0
def tw14358954452223003369:=0
def tw10204721223997872307:=0
def tw15836861921057741665:=0
def tw1112513045210591223:=0
def tw16066420847952943482:=0
def tw2080294645321949593:=0
def tw14851383382620272359:=0
def tw1298523001174672708:=0
def tw10135686975515206195:=0
def tw9132160591244291481:=0
def tw12690320866860984767:=0
def tw13755992464083018177:=0
def tw14712643180634230677:=0
def tw11398743016638978862:=0
def tw8636164760737715262:=0
def tw11963921612896496309:=0
def tw14072458122141559669:=0
def tw14741644874344769246:=0
def tw15432899074966793542:=0
def tw9308471988615215891:=0
def tw3948249343142210555:=0
def tw6714590473739560653:=0
def tw484615843979705514:=0
def tw5333918616421301992:=0
def tw13026777848603601101:=0
def tw9440855962276435401:=0
def tw13087565450056480103:=0
def tw7072925015132703832:=0
def tw11672545627414812328:=0
def tw15008520924294231418:=0
def tw8789228299829956491:=0
def tw12963429654268574209:=0
def tw5712833549321698170:=0
def tw9801586123314354769:=0
def tw11065991097936424087:=0
def tw11016957456143863690:=0
def tw10125946673159556571:=0
def tw14262302368990316391:=0
def tw13330479469318403432:=0
def tw15872103778868431572:=0
def tw14002943521122027559:=0
def tw16966917747794903384:=0
def tw9064320972775116446:=0
def tw8456678377811092262:=0
def tw747968879329903465:=0
def tw5119622178789646488:=0
def tw6859823691796011289:=0
def tw5826969307006547717:=0
def tw3612123496749526458:=0
def tw3838558842992114638:=0
def tw5326900260541546207:=0
def tw12489326463471657596:=0
def tw9607359876722734428:=0
def tw2070224396994731559:=0
def tw3325271974606235522:=0
def tw681977710637258241:=0
def tw15907227241040806247:=0
def tw11987849148529164433:=0
def tw674198733017433155:=0
def tw248416724395563142:=0
def tw3360214804921197868:=0
def tw11499144708341968056:=0
def tw17859295298715561293:=0
def tw748854801312137460:=0
def tw14762993961026777503:=0
def tw3838100386941718497:=0
def tw17035457020305664557:=0
def tw1576663788874491375:=0
def tw14210455296225289427:=0
def tw6295348948939762114:=0
def tw10632141915226416609:=0
def tw5673572655450218585:=0
def tw17394227273296961216:=0
def tw15717592964743226549:=0
def tw17950132150618339360:=0
def tw10399087149003995444:=0
def tw10750992135103521914:=0
def tw10005007311292136200:=0
def tw15248618170772535489:=0
def tw17990189666013237606:=0
def tw17586949229490004193:=0
def tw2111042061485438760:=0
def tw12179903428757717934:=0
def tw8320586653165811249:=0
def tw10851739159140000011:=0
def tw7853199563624298462:=0
def tw13719563548983000818:=0
def tw12407445644022662797:=0
def tw15787961955997518610:=0
def tw7408550709592174972:=0
def tw3392031816563821400:=0
def tw9010365184947870456:=0
def tw18337259258202952292:=0
def tw4598529264472141680:=0
end PySem.W.Fast
open PySem PySem.W PyProof.Rows
set_option maxRecDepth 100000 in
set_option maxHeartbeats 0 in
theorem PySem.Challenge.cw_chargeyard_k65_the_askers_own_holds : PySem.Challenge.rw_chargeyard_k65_the_askers_own.Holds := by
 w_on; o_law; k_head; (case hw=>w_witness2)
 k_fill
 refine L2.Znl (l:=PySem.Challenge.rw_chargeyard_k65_the_askers_own) (k:=10) (x := "_law_script") rfl rfl ⟨rfl,by decide,by decide⟩ (fun w h Y=>W.kIn_of Y) ?F
 case F =>
  intro w mg fa h KX G hmg
  refine' My.Ztd KX G hmg ?aC ?aH ?h0 ?h1 ?h2 ?h3 ?h4 ?h5 ?h6 ?h7 ?h8 ?h9 ?h10 ?h11 ?h12 ?h13 ?h14 ?h15 ?h16 ?h17 ?h18 ?h19 ?h20 ?h21 ?h22 ?h23 ?h24 ?h25 ?h26 ?h27 ?h28 ?h29 ?h30 ?h31 ?h32 ?h33 ?h34 ?h35 ?h36 ?a37 ?l37 ?c37 ?k37 ?a38 ?i38 ?l38 ?c38 ?k38 ?a39 ?i39 ?l39 ?c39 ?k39 ?a40 ?i40 ?l40 ?c40 ?k40 ?a41 ?i41 ?l41 ?c41 ?k41 ?a42 ?i42 ?l42 ?c42 ?k42 ?a43 ?i43 ?l43 ?c43 ?k43 ?a44 ?i44 ?l44 ?c44 ?k44 ?a45 ?i45 ?l45 ?c45 ?k45 ?a46 ?i46 ?l46 ?c46 ?k46 ?a47 ?i47 ?l47 ?c47 ?k47 ?a48 ?i48 ?l48 ?c48 ?k48 ?a49 ?i49 ?l49 ?c49 ?k49 ?a50 ?i50 ?l50 ?c50 ?k50 ?a51 ?i51 ?l51 ?c51 ?k51 ?a52 ?i52 ?l52 ?c52 ?k52 ?a53 ?i53 ?l53 ?c53 ?k53 ?a54 ?i54 ?l54 ?c54 ?k54 ?a55 ?i55 ?l55 ?c55 ?k55 ?a56 ?i56 ?l56 ?c56 ?k56 ?pg ?hd ?po ?sa ?mk ?kc ?Hpg ?Hhd ?Hpo ?Hsa ?Hmk ?Hkc ?Hn0 ?Hn1 ?Hn2 ?Hn3 ?Hn4 ?Hn5 ?n0 ?n1 ?n2 ?n3 ?aS ?lS ?aE ?lE ?rC ?rY ?rf ?rl ?rc ?rk ?rx ?rg ?rr ?ri ?rs ?ro ?xa0 ?xa1 ?xe ?xp ?xn ?xq ?xb ?xc ?xs ?xt ?xm ?xk1 ?xk2 ?xk3 ?xk4 ?rd ?rt ?rK ?z0 ?z1 ?z2 ?z3 ?z4 ?z5 ?z6 ?z7 ?z8 ?z9 ?z10 ?z11 ?z12 ?z13 ?z14 ?z15 ?z16
  case aC | aH | a37 | l37 | c37 | k37 | a38 | i38 | l38 | c38 | k38 | a39 | i39 | l39 | c39 | k39 | a40 | i40 | l40 | c40 | k40 | a41 | i41 | l41 | c41 | k41 | a42 | i42 | l42 | c42 | k42 | a43 | i43 | l43 | c43 | k43 | a44 | i44 | l44 | c44 | k44 | a45 | i45 | l45 | c45 | k45 | a46 | i46 | l46 | c46 | k46 | a47 | i47 | l47 | c47 | k47 | a48 | i48 | l48 | c48 | k48 | a49 | i49 | l49 | c49 | k49 | a50 | i50 | l50 | c50 | k50 | a51 | i51 | l51 | c51 | k51 | a52 | i52 | l52 | c52 | k52 | a53 | i53 | l53 | c53 | k53 | a54 | i54 | l54 | c54 | k54 | a55 | i55 | l55 | c55 | k55 | a56 | i56 | l56 | c56 | k56 | pg | hd | po | sa | mk | kc | Hpg | Hhd | Hpo | Hsa | Hmk | Hkc | Hn0 | Hn1 | Hn2 | Hn3 | Hn4 | Hn5 | n0 | n1 | n2 | n3 | aS | lS | aE | lE | rC | rY | rf | rl | rc | rk | rg | rr | ri | rs | xa0 | xa1 | xp | xn | xq | xb | xc | xs | xt | xm | rd | rt | rK | z0 | z1 | z2 | z3 | z4 | z5 | z6 | z7 | z8 | z9 | z10 | z11 | z12 | z13 | z14 | z15 | z16=>k_is
  case xk1 | xk2 | xk3 | xk4=>kit_is
  case xe=>kts_exm
  case h0 | h1 | h2 | h3 | h4 | h5 | h6 | h7 | h8 | h9 | h10 | h11 | h12 | h13 | h14 | h15 | h16 | h17 | h18 | h19 | h20 | h21 | h22 | h23 | h24 | h25 | h26 | h27 | h28 | h29 | h30 | h31 | h32 | h33 | h34 | h35 | h36 =>
   refine' My.DH.mk ?a ?l ?c ?k
   case a | l | c | k=>k_is
  case rx | ro=>with_unfolding_all exact Eq.refl true
end
