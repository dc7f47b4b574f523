import PyProof.Rows.All
import Wide.All
import OpenK.AllK
import Wide.FinOn
import Lean
import PyProof.EqAt
import PyProof.EqKinds
import PyProof.TupleCall
import PyProof.EqLayable
import PyProof.SumAny
import PyProof.ListRange
import PyProof.WalksEnum
import PyProof.ZipIter
import PyProof.EnumMake
import PyProof.ConsumeS
import PyProof.SeqI3
import PyProof.MaxThree
import PyProof.Rows.TupAdd
import KE.KIsAll
import KE.KTryMore
import OpenK.KOwn
import PyProof.CollectWalk
import PyProof.DictRoadsH
import PyProof.DictWalks
import PyProof.ExcArgs
import PyProof.ExcBaseAll.ValueError
import PyProof.ExcClass3
import PyProof.FactsAll.dict
import PyProof.FactsAll.set
import PyProof.FactsLen
import PyProof.InstSpecial
import PyProof.MeetsDict
import PyProof.MinMaxWalk
import PyProof.NsDelKeeps
import PyProof.Rows.CatchBare
import PyProof.Rows.SetFrom
import PyProof.Rows.SortWalk
import PyProof.Rows.TupDisplay
import PyProof.RulesAs
import PyProof.SetRoads
import PyProof.StationsW
import PyProof.WalkLemmas
import PyProof.WalksMore
import PySem.Challenge.RW_chargeyard_k60_let_in_or_refused
set_option Elab.async false
set_option linter.all false
set_option maxRecDepth 100000
set_option maxHeartbeats 4000000
set_option compiler.extract_closed false
set_option genSizeOf false
section
open PySem PySem.Spec PyProof.Rows
def Qa {α:Sort _}{a:α}{q:Prop}:a=a\/q:=Or.inl rfl
abbrev Qb:=Value->Shared->Prop
abbrev Qc:=List (Addr×Obj)
abbrev Qd:=List PyData
abbrev Qe:=List Value
abbrev Qf:=Option Value
abbrev Qg:=List Addr
abbrev Qh:=List Str
abbrev Zaa:Qh:=["self","start","end","room"]
abbrev Zab:Qh:=["self","number"]
abbrev Zac:Qh:=["yard","guests","some"]
abbrev Zad:Qh:=["_law_yard_here","_law_rows","_law_picked","_law_now"]
abbrev Zae:Qh:=["yard","guests","some","turn"]
abbrev Zaf:Qh:=["yard","guests"]
abbrev Zag:Qh:=["_law_yard_here","_law_rows","_law_picked","_law_turn"]
abbrev Zah:Qh:=["_law_some","_law_yard_here","_law_rows","_law_now"]
abbrev Zai:Qh:=["_law_feed_here","_law_yard_here","_law_now"]
abbrev Zaj:Qh:=["self"]
abbrev Zak:Qh:=["_law_feed_here","_law_yard_here","_law_now","_law_first","_law_last","_law_line","_law_scale","_law_want"]
abbrev Zal:Qh:=["_law_hand","_law_yard_here","_law_rows"]
abbrev Zam:Qh:=["_law_hand","_law_guest_here","_law_told","e","_law_marks"]
abbrev Zan:Qh:=["guest","turn"]
abbrev Zao:Qh:=["_law_feed_here","_law_many"]
abbrev Zap:Qh:=["thing","least","end"]
abbrev Zaq:Qh:=["_law_yard_here","_law_rows","_law_picked","_law_now","_law_total","_law_turn"]
abbrev Zar:Qh:=["yard","line","turn"]
abbrev Zas:Qh:=["net","yard","number","guest"]
abbrev Zat:Qh:=["_law_hand","_law_guest_here"]
abbrev Zau:Qh:=["_law_yard_here","_law_rows"]
abbrev Zav:Qh:=["guest"]
abbrev Zaw:Qh:=["_law_yard_here","_law_rows","_law_last","_law_bits","_law_picked"]
abbrev Zax:Qh:=["_law_script","_law_k"]
abbrev Zay:Qh:=["yard","guests","some","turn","reaching","number","guest","line"]
abbrev Zaz:Qh:=["self","edges","end"]
abbrev ZaA:Qh:=["self","start","end"]
abbrev ZaB:Qh:=["_law_k","_law_marks","e"]
abbrev ZaC:Qh:=["self","start"]
abbrev ZaD:Qh:=["self","guest"]
abbrev ZaE:Qh:=["net","yard","turn"]
abbrev ZaF:Qh:=["thing","length"]
abbrev ZaG:Qh:=["yard"]
abbrev ZaH:Qh:=["yard","line"]
abbrev ZaI:Qh:=["line","turn"]
abbrev ZaJ:Qh:=["self","turn"]
abbrev ZaK:Qh:=["thing","least"]
abbrev ZaL:Qh:=["yard","thing"]
abbrev ZaM:Qh:=["guest","want"]
abbrev ZaN:Qh:=["_law_feed_here"]
abbrev ZaO:Qh:=["_law_above","_law_bounds"]
abbrev ZaP:Qh:=["self","some"]
abbrev ZaQ:Qh:=["self","yard"]
abbrev ZaR:Qh:=["self","way"]
abbrev ZaS:Qh:=["_law_script"]
abbrev ZaT:Qh:=["_law_cell"]
abbrev ZaU:Qh:=["number"]
abbrev Qi:=List Expr
abbrev Qj:=Option Addr
abbrev Qk:=List Nat
abbrev Ql:=List Int
abbrev Qm:=Nat->Bool
abbrev Qn:=Nat->Int
def Xa:=@wpAny_bind
def Xb:=@if_neg
def Xc:=@List.mem_cons_self
def Xd:=@if_pos
def Xe:=@List.mem_cons_of_mem
def Xf:=@Heap.get?_push_of_some
def Xg:=@List.mem_cons
def Xh:=@List.getElem?_eq_some_iff
def Xi:=@List.mem_singleton
def Xj:=@Heap.lt_size
def Xk:=@wpAny_pure
def Xl:=@absurd
def Xm:=@Nat.ne_of_lt
def Xn:=@List.length_map
def Xo:=@List.length_append
def Xp:=@Nat.lt_of_lt_of_le
def Xq:=@Nat.le_refl
def Xr:=@List.getElem?_set_self
def Xs:=@Bool.false_ne_true
def Xt:=@List.getElem?_map
def Xu:=@Heap.get?_push_size
def Xv:=@List.size_toArray
def Xw:=@List.getElem?_set_ne
def Xx:=@List.find?_cons
def Xy:=@List.map_cons
def Xz:=@Int.toNat_natCast
def XB:=@List.mem_append_right
def XD:=@List.map_append
def XF:=@List.getElem?_append_left
def XG:=@List.append_nil
def XH:=@List.mem_append
def XI:=@List.length_cons
def XJ:=@List.lookup_cons
def XL:=@List.not_mem_nil
def XM:=@Heap.get?_update_other
def XN:=@decide_eq_false
def XO:=@List.nodup_cons
def XQ:=@Nat.zero_le
def XS:=@decide_eq_true
def XT:=@List.mem_range
def XU:=@Nat.ne_of_gt
def XV:=@of_decide_eq_true
def XW:=@congrArg
def XX:=@Heap.get?_update_self
def XY:=@List.getElem_mem
def XZ:=@Bool.false_eq_true
def X0:=@List.getElem?_eq_getElem
def X3:=@List.getElem?_append_right
def X4:=@List.mem_map
def X5:=@Nat.lt_irrefl
def X6:=@List.range_succ
def X7:=@Nat.le_trans
def X8:=@Int.toNat_of_nonneg
def X9:=@Nat.lt_succ_self
def YI:=@List.mem_flatMap
def YH:=@Option.map_some
def Yn:=@Nat.le_of_lt
def YG:=@Heap.size_push
def Jb:=@List.replicate_succ
def Ja:=@List.map_congr_left
def JV:=@List.mem_append_left
def JU:=@List.mem_iff_getElem
def UI:=@List.getElem?_cons_succ
def JT:=@List.flatMap_append
def YF:=@Int.zero_add
def WZ:=@Bool.and_eq_true
def WY:=@List.cons_append
def Wl:=@List.map_map
def JS:=@List.flatten_cons
def JR:=@Nat.lt_succ_of_lt
def JQ:=@List.take_length
def JP:=@List.filter_cons
def UG:=@List.filter_append
def UF:=@of_decide_eq_false
def UE:=@List.append_assoc
def UD:=@List.length_range
def UC:=@Option.isSome_map
def JO:=@List.take_succ
def JN:=@List.nodup_nil
def JM:=@Bool.not_true
def Jd:=@Nat.le_succ
def Jc:=@wpAny_field
def BV:=@List.length_singleton
def BU:=@List.length_filter_le
def BT:=@List.pairwise_flatMap
def GH:=@Option.getD_some
def JW:=@Int.le_refl
def BS:=@List.filterMap_cons
def BR:=@List.length_pos_iff
def GG:=@List.sum_append
def HP:=@List.getElem?_eq_none_iff
def UK:=@List.map_nil
def BQ:=@Nat.lt_of_le_of_lt
def BP:=@List.flatMap_cons
def UJ:=@Int.mul_sub
def GF:=@List.sum_cons
def BO:=@List.length_take
end
namespace L2
open PySem PySem.Spec PyProof.Rows
abbrev Key:=Sum Int Str
def Uj:Key->Value->Bool
 |.inl k,v=>Value.isInt k v
 |.inr x,v=>Value.isStrOf x v
def Pa (w:World):Key->Int
 |.inl k=>hashInt k
 |.inr x=>hashStr w x
theorem W2:∀{k:Key} {v:Value},Uj k v=true->(∃i t,k=Sum.inl i/\v=Value.int i t)\/(∃x t,k=Sum.inr x/\v=Value.str x t)
 |.inl i,v,h=>by
   obtain⟨t,e⟩:=Value.isInt_shape (k:=i) (v:=v) h;exact .inl ⟨i,t,rfl,e⟩
 |.inr x,v,h=>by
   obtain⟨t,e⟩:=Value.isStrOf_shape (x:=x) (v:=v) h;exact .inr ⟨x,t,rfl,e⟩
def CZ (i:Int)(t:Tok):Uj (.inl i) (.int i t)=true:=by simp[Uj,Value.isInt]
def AK (x:Str)(t:Tok):Uj (.inr x) (.str x t)=true:=by simp[Uj,Value.isStrOf]
def TZ (a b:Int):decide ((Sum.inl a:Key)=Sum.inl b)=(a==b):=by
 by_cases e:a=b
 ·subst e;simp
 ·have h:¬(Sum.inl a:Key)=Sum.inl b:=fun q=>e (Sum.inl.inj q)
  rw[XN h];exact(beq_eq_false_iff_ne.mpr e).symm
def Tf (a b:Str):decide ((Sum.inr a:Key)=Sum.inr b)=decide (a=b):=by
 by_cases e:a=b
 ·subst e;simp
 ·have h:¬(Sum.inr a:Key)=Sum.inr b:=fun q=>e (Sum.inr.inj q)
  rw[XN h,XN e]
def TL (a:Int)(b:Str):decide ((Sum.inl a:Key)=Sum.inr b)=false:=XN (fun q=>nomatch q)
def PU (a:Str)(b:Int):decide ((Sum.inr a:Key)=Sum.inl b)=false:=XN (fun q=>nomatch q)
def Vc (prog:Program)(w:World):PySem.KeyKind prog w Key where
 is:=Uj
 hash:=Pa w
 inj:=fun v a b ha hb=>by
  rcases W2 ha with ⟨i,t,rfl,rfl⟩|⟨x,t,rfl,rfl⟩
  ·rcases W2 hb with ⟨j,u,rfl,e⟩|⟨y,u,rfl,e⟩
   ·injection e with e1 _;rw[e1]
   ·exact nomatch e
  ·rcases W2 hb with ⟨j,u,rfl,e⟩|⟨y,u,rfl,e⟩
   ·exact nomatch e
   ·injection e with e1 _;rw[e1]
 byValue:=fun k v h=>by
  rcases W2 h with ⟨i,t,rfl,rfl⟩|⟨x,t,rfl,rfl⟩<;>rfl
 pyHash:=fun hv h=>by
  rcases W2 hv with ⟨i,t,rfl,rfl⟩|⟨x,t,rfl,rfl⟩
  ·exact wpAny_pyHash_int h
  ·exact wpAny_pyHash_str h
 eqBool:=fun hu hv h=>by
  rcases W2 hu with ⟨i,t,rfl,rfl⟩|⟨x,t,rfl,rfl⟩
  ·rcases W2 hv with ⟨j,u,rfl,rfl⟩|⟨y,u,rfl,rfl⟩
   ·rw[TZ]at h;exact wpAny_eqBool_int h
   ·rw[TL]at h;exact SeqAt.EqAt.int_str i t y u _ _ _ _ h
  ·rcases W2 hv with ⟨j,u,rfl,rfl⟩|⟨y,u,rfl,rfl⟩
   ·rw[PU]at h;exact SeqAt.EqAt.str_int x t j u _ _ _ _ h
   ·rw[Tf]at h;exact wpAny_eqBool_str h
 «strs» := fun k x t v h=>by
  rcases W2 h with ⟨i,u,rfl,e⟩|⟨y,u,rfl,e⟩
  ·exact nomatch e
  ·injection e with e1 _
   subst e1;cases v<;>rfl
def Ex (prog:Program)(w:World)(i:Int)(t:Tok):(Vc prog w).is (.inl i) (.int i t)=true:=CZ i t
def EB (prog:Program)(w:World)(x:Str)(t:Tok):(Vc prog w).is (.inr x) (.str x t)=true:=AK x t
inductive V where
 |non|bl (b:Bool)|int (i:Int)|str (x:Str)|byt (b:Array UInt8)|flt (b:UInt64)|ref (a:Addr)|ty (n:String)
 deriving DecidableEq
def QJ:V->Value->Prop
 |.non,u=>u=Value.none
 |.bl b,u=>u=Value.bool b
 |.int i,u=>∃t,u=Value.int i t
 |.str x,u=>∃t,u=Value.str x t
 |.byt b,u=>∃t,u=Value.bytes b t
 |.flt b,u=>∃t,u=Value.float b t
 |.ref a,u=>u=Value.ref a
 |.ty n,u=>u=Value.type n
abbrev QN:List V->Qe->Prop:=Paired QJ
def QN.length {xs:List V}{us:Qe}(r:QN xs us):xs.length=us.length:=Paired.length r
theorem QN.get:∀{xs:List V} {us:Qe} {i:Nat} {x:V},QN xs us->xs[i]?=some x->∃u,us[i]?=some u/\QJ x u
 |_,_,_,_,.nil,e=>by simp at e
 |_,_,0,_,.cons r _,e=>by simp at e;subst e;exact⟨_,rfl,r⟩
 |_,_,i+1,x,.cons _ t,e=>by
   obtain⟨u,h1,h2⟩:=QN.get (i:=i) (x:=x) t (by simpa using e)
   exact⟨u,by simpa using h1,h2⟩
theorem QN.set {x:V}{u:Value}(r:QJ x u):∀{xs:List V} {us:Qe} (i:Nat),QN xs us->QN (xs.set i x) (us.set i u)
 |_,_,_,.nil=>.nil
 |_,_,0,.cons _ t=>.cons r t
 |_,_,i+1,.cons q t=>.cons q (QN.set r i t)
theorem QN.append:∀{xs ys:List V} {us ws:Qe},QN xs us->QN ys ws->QN (xs++ys) (us++ws)
 |_,_,_,_,.nil,s=>s
 |_,_,_,_,.cons r t,s=>.cons r (QN.append t s)
def ZI:Option V->Qf->Prop
 |some v,some u=>QJ v u
 |none,none=>True
 |_,_=>False
def KV {κ:Type}:List (κ×V)->List (κ×Value)->Prop:=Paired fun(p:κ×V) (q:κ×Value)=>p.1=q.1/\QJ p.2 q.2
def kV:Key->V
 |.inl i=>.int i
 |.inr x=>.str x
inductive HO where
 |lst (xs:List V)
 |tup (xs:List V)
 |dK (kvs:List (Key×V))|dT (kvs:List (List Key×V))
 |set (S:Int->Bool) (n:Nat)
 |ins (C dx:Addr) (fs:List (Str×V))
 |own (x:Addr)
 |xd (fs:List (Str×V))
 |met (f x:Addr)
 |rng (lo hi:Int)
 |frz (o:Obj) (u:HO)
 |tbl (ps:Array Value)
 |ext (φ:Heap->Prop)
abbrev Hp:=Addr->Option HO
def upd (H:Hp)(a:Addr)(o:HO):Hp:=fun b=>if b=a then some o else H b
def QA {H:Hp}{a:Addr}{o:HO}:upd H a o a=some o:=by unfold upd;rw[Xd rfl]
def Qt {H:Hp}{a b:Addr}{o:HO}(h:b≠a):upd H a o b=H b:=by unfold upd;rw[Xb h]
def Kr {H:Hp}{a b:Addr}{o u:HO}(h:H a=some o)(h':H b=some u)(d:o≠u):a≠b:=by
 intro e;subst e;rw[h]at h';exact d (Option.some.inj h')
def Zo {H:Hp}{a b:Addr}{o:HO}(h:H a=some o)(h':H b=none):a≠b:=by
 intro e;subst e;rw[h]at h';cases h'
section
variable (P:Program)(w:World)
def Z6 (H:Hp)(h:Heap)(a:Addr):HO->Prop
 |.lst xs=>xs.length<=sizeLine/\∃(its:Qe) (n:Nat),QN xs its/\h.get? a=some { cls:=.type "list",data:=.seq its.toArray n }
 |.tup xs=>xs.length<=sizeLine/\∃its:Qe,QN xs its/\IsTup h a its.toArray
 |.dK kvs=>kvs.length<=sizeLine/\(a==sysModules)=false/\∃vs,KV kvs vs/\h.DictOf (Vc P w) a vs
 |.dT kvs=>kvs.length<=sizeLine/\(a==sysModules)=false/\∃xs:List (List Key×Addr×Value),
  Paired (fun(p:List Key×V) (q:List Key×Addr×Value)=>p.1=q.1/\H q.2.1=some (.tup (p.1.map kV))/\QJ p.2 q.2.2) kvs xs /\
  ∃o es ep,h.get? a=some o/\o.ExactDict/\o.data=.dict es ep/\es.toList=xs.map (entryOfKey (tupleKind (Vc P w)))/\(xs.map (·.1)).Nodup
 |.set S n=>h.SetOf (intKind P w) a S n
 |.ins C dx fs=>H dx=some (.own a)/\fs.length<=1000/\dx≠a/\h.get? a=some (W.instObj C dx) /\
  ∃mA,h.Ns1 dx mA/\(∀f,ZI (fs.lookup f) (mA f))/\PySem.Within mA (fs.map (·.1))
 |.own _=>∃o,h.get? a=some o
 |.xd fs=>∃mA,h.Ns1 a mA/\∀f,ZI (fs.lookup f) (mA f)
 |.rng lo hi=>∃t u v,h.get? a=some { cls:=.type "range",data:=.fields #[.int lo t,.int hi u,.int 1 v] }
 |.frz o u=>h.get? a=some o/\Z6 H h a u
 |.tbl ps=>h.get? a=some { cls:=.none,data:=.fields ps }
 |.met f x=>h.get? a=some (W.methodObj (.ref f) (.ref x))
 |.ext φ=>φ h/\(∃o,h.get? a=some o)/\∀h1 h2:Heap,φ h1->(∀o,h1.get? a=some o->h2.get? a=some o)->φ h2
def HOk (H:Hp)(h:Heap):Prop := ∀a o,H a=some o->Z6 P w H h a o
end
section
variable {P:Program}{w:World}{H H':Hp}{h h':Heap}{a:Addr}{o:HO}
def Z6.lt (x:Z6 P w H h a o):a<h.objs.size:=by
 cases o with
 |lst xs=>obtain⟨_,_,_,_,e⟩:=x;exact Xj e
 |tup xs=>obtain⟨_,_,_,p⟩:=x;exact p.lt
 |dK kvs=>obtain⟨_,_,_,_,o,_,_,e,_⟩:=x;exact Xj e
 |dT kvs=>obtain⟨_,_,_,_,o,_,_,e,_⟩:=x;exact Xj e
 |set S n=>obtain⟨o,_,_,_,e,_⟩:=x;exact Xj e
 |ins C dx fs=>obtain⟨_,_,_,e,_⟩:=x;exact Xj e
 |own y=>obtain⟨_,e⟩:=x;exact Xj e
 |xd fs=>obtain⟨_,⟨_,_,_,e,_⟩,_⟩:=x;exact Xj e
 |rng lo hi=>obtain⟨_,_,_,e⟩:=x;exact Xj e
 |frz ob u=>obtain⟨e,_⟩:=x;exact Xj e
 |tbl ps=>exact Xj (show h.get? a=some _ from x)
 |met f y=>exact Xj (show h.get? a=some _ from x)
 |ext φ=>obtain⟨_,⟨_,e⟩,_⟩:=x;exact Xj e
theorem Paired.mapP {α β:Type}{F G:α->β->Prop}:∀{cj:List α} {cq:List β},Paired F cj cq->(∀a b,F a b->G a b)->Paired G cj cq
 |_,_,.nil,_=>.nil
 |_,_,.cons r t,f=>.cons (f _ _ r) (Paired.mapP t f)
def Z6.stay (x:Z6 P w H h a o)(k:∀b u,(b=a\/H b=some (.own a))->h.get? b=some u->h'.get? b=some u)
 (ho:∀b,H b=some (.own a)->H' b=some (.own a)) (ht:∀b xs,H b=some (.tup xs)->H' b=some (.tup xs)):Z6 P w H' h' a o:=by
 induction o with
 |lst xs=>obtain⟨z,its,n,r,e⟩:=x;exact⟨z,its,n,r,k _ _ (.inl rfl) e⟩
 |tup xs=>obtain⟨z,its,r,ob,e,c⟩:=x;exact⟨z,its,r,ob,k _ _ (.inl rfl) e,c⟩
 |dK kvs=>obtain⟨z,y,vs,r,ob,es,ep,e,c⟩:=x;exact⟨z,y,vs,r,ob,es,ep,k _ _ (.inl rfl) e,c⟩
 |dT kvs =>
   obtain⟨z,y,xs,r,ob,es,ep,e,c⟩:=x
   exact⟨z,y,xs,Paired.mapP r fun p q z=>⟨z.1,ht _ _ z.2.1,z.2.2⟩,ob,es,ep,k _ _ (.inl rfl) e,c⟩
 |set S n=>obtain⟨ob,es,ep,t,e,c⟩:=x;exact⟨ob,es,ep,t,k _ _ (.inl rfl) e,c⟩
 |ins C dx fs =>
   obtain⟨d,z,ne,e,mA,⟨od,es,ep,e2,c⟩,r⟩:=x
   exact⟨ho _ d,z,ne,k _ _ (.inl rfl) e,mA,⟨od,es,ep,k _ _ (.inr d) e2,c⟩,r⟩
 |own y=>obtain⟨ob,e⟩:=x;exact⟨ob,k _ _ (.inl rfl) e⟩
 |xd fs=>obtain⟨mA,⟨od,es,ep,e,c⟩,r⟩:=x;exact⟨mA,⟨od,es,ep,k _ _ (.inl rfl) e,c⟩,r⟩
 |rng lo hi=>obtain⟨t,u,v,e⟩:=x;exact⟨t,u,v,k _ _ (.inl rfl) e⟩
 |frz ob u ih=>obtain⟨e,q⟩:=x;exact⟨k _ _ (.inl rfl) e,ih q⟩
 |tbl ps =>
   have e:h.get? a=some { cls:=.none,data:=.fields ps }:=x;show h'.get? a=some { cls:=.none,data:=.fields ps };exact k a _ (.inl rfl) e
 |met f y =>
   have e:h.get? a=some (W.methodObj (.ref f) (.ref y)):=x;show h'.get? a=some (W.methodObj (.ref f) (.ref y));exact k a _ (.inl rfl) e
 |ext φ=>obtain⟨p,⟨o,e⟩,st⟩:=x;exact⟨st _ _ p fun o q=>k _ _ (.inl rfl) q,⟨o,k _ _ (.inl rfl) e⟩,st⟩
def HOk.lt (x:HOk P w H h)(e:H a=some o):a<h.objs.size:=(x a o e).lt
def HOk.fresh (x:HOk P w H h)(e:h.objs.size<=a):H a=none:=by
 cases q:H a with
 |none=>rfl
 |some u=>exact Xl (Xp (x.lt q) e) (X5 _)
def HOk.kept (x:HOk P w H h)(k:∀b u,h.get? b=some u->h'.get? b=some u):HOk P w H h':=fun a o e =>
 (x a o e).stay (fun b u _ q=>k b u q) (fun _ q=>q) fun _ _ q=>q
def HOk.laid (x:HOk P w H h)(k:∀b u,h.get? b=some u->h'.get? b=some u)(hp:h.objs.size<=a)(new:Z6 P w (upd H a o) h' a o):HOk P w (upd H a o) h':=fun b u e=>by
 have hn:=x.fresh hp
 by_cases hb:b=a
 ·subst hb;rw[QA]at e;cases e;exact new
 ·rw[Qt hb]at e
  exact(x b u e).stay (fun c v _ q=>k c v q) (fun c q=>by rw[Qt (Zo q hn)];exact q) fun c xs q=>by rw[Qt (Zo q hn)];exact q
end
def Rd (H:Hp)(a:Addr)(u:HO):Prop:=H a=some u\/∃o,H a=some (.frz o u)
def Rd.of {H:Hp}{a:Addr}{u:HO}(h:H a=some u):Rd H a u:=.inl h
def Rd.ok {P:Program}{w:World}{H:Hp}{h:Heap}{a:Addr}{u:HO}(r:Rd H a u)(x:HOk P w H h):Z6 P w H h a u:=by
 rcases r with r|⟨o,r⟩
 ·exact x a u r
 ·obtain⟨_,q⟩:=x a _ r
  exact q
def Mut:Option HO->Prop
 |some (.lst _)=>True
 |some (.dK _)=>True
 |some (.dT _)=>True
 |some (.set _ _)=>True
 |some (.ins _ _ _)=>True
 |some (.ext _)=>True
 |_=>False
section
variable {P:Program}{w:World}{H:Hp}{h h':Heap}{x e:Addr}{o':HO}
def HOk.write (ok:HOk P w H h)(mu:Mut (H x))(he:e=x\/H e=some (.own x))(k:∀b u,b≠e->h.get? b=some u->h'.get? b=some u)(heo:∃u,h'.get? e=some u)
 (new:Z6 P w (upd H x o') h' x o'):HOk P w (upd H x o') h':=fun b u q=>by
 have nown:∀c y,H c=some (.own y)->c≠x:=fun c y r z=>by subst z;rw[r]at mu;exact mu
 have ntup:∀c xs,H c=some (.tup xs)->c≠x:=fun c xs r z=>by subst z;rw[r]at mu;exact mu
 by_cases hb:b=x
 ·subst hb;rw[QA]at q;cases q;exact new
 ·rw[Qt hb]at q
  by_cases hbe:b=e
  ·have q':H b=some (.own x):=by
    rcases he with z|z
    ·exact Xl (hbe.trans z) hb
    ·rw[hbe];exact z
   rw[q]at q';cases q';obtain⟨v,hv⟩:=heo
   exact⟨v,by rw[hbe];exact hv⟩
  ·refine(ok b u q).stay (fun c v hc r=>k c v ?_ r) (fun c r=>by rw[Qt (nown c b r)];exact r) fun c xs r=>by rw[Qt (ntup c xs r)];exact r
   rcases hc with rfl|hc
   ·exact hbe
   ·rintro rfl
    rcases he with z|z
    ·exact nown c b hc z
    ·rw[hc]at z;cases z;exact hb rfl
end
structure Un (fs ex:Qg)(H H':Hp)(h h':Heap):Prop where
 keep:∀b o,h.get? b=some o->H b=none->b∉fs->b∉ex->h'.get? b=some o
 slot:∀b o,h.get? b=some o->H b=none->b∈fs->b∉ex->∃sl,h'.get? b=some { o with slots:=sl }
 free:∀b o,h.get? b=some o->H b=none->b∉ex->H' b=none
 there:∀b o,h.get? b=some o->b∉ex->∃o',h'.get? b=some o'
 tups:∀b xs,H b=some (.tup xs)->H' b=some (.tup xs)
 frzs:∀b o u,H b=some (.frz o u)->H' b=some (.frz o u)
 tupo:∀b xs o,H b=some (.tup xs)->h.get? b=some o->b∉ex->h'.get? b=some o
 tbls:∀b ps,H b=some (.tbl ps)->∃more,H' b=some (.tbl (ps++more))
section
variable {fs fs' ex ex':Qg}{H H1 H2:Hp}{h h1 h2 h':Heap}{a x e:Addr}{o:HO}
def Un.any (u:Un fs ex H H1 h h1){b:Addr}{ob:Obj}(q:h.get? b=some ob)(n:H b=none)(hx:b∉ex):∃sl,h1.get? b=some { ob with slots:=sl }:=by
 by_cases hb:b∈fs
 ·exact u.slot b ob q n hb hx
 ·exact⟨ob.slots,u.keep b ob q n hb hx⟩
def Un.kept (k:∀b u,h.get? b=some u->h'.get? b=some u):Un fs ex H H h h' :=
 ⟨fun b ob q _ _ _=>k b ob q,fun b ob q _ _ _=>⟨ob.slots,k b ob q⟩,fun _ _ _ n _=>n,fun b ob q _=>⟨ob,k b ob q⟩,fun _ _ q=>q,fun _ _ _ q=>q,fun b _ ob _ e _=>k b ob e,fun _ ps q=>⟨#[],by rw[q];simp⟩⟩
def Un.refl:Un fs ex H H h h:=Un.kept fun _ _ q=>q
theorem Un.laid (k:∀b u,h.get? b=some u->h'.get? b=some u)(hp:h.objs.size<=a)(hn:H a=none):Un fs ex H (upd H a o) h h' where
 keep:=fun b u q _ _ _=>k b u q
 slot:=fun b u q _ _ _=>⟨u.slots,k b u q⟩
 free:=fun b u q n _=>by rw[Qt (Xm (Xp (Xj q) hp))];exact n
 there:=fun b u q _=>⟨u,k b u q⟩
 tups:=fun b xs q=>by rw[Qt (Zo q hn)];exact q
 frzs:=fun b u xs q=>by rw[Qt (Zo q hn)];exact q
 tupo:=fun b _ ob _ e _=>k b ob e
 tbls:=fun b ps q=>⟨#[],by rw[Qt (Zo q hn),q];simp⟩
def Un.write (mu:Mut (H x))(he:e=x\/H e=some (.own x))(k:∀b u,b≠e->h.get? b=some u->h'.get? b=some u)(heo:∃u,h'.get? e=some u):Un fs ex H (upd H x o) h h':=by
 have hx:∀b,H b=none->b≠x:=fun b n z=>by subst z;rw[n]at mu;exact mu
 have hb:∀b,H b=none->b≠e:=fun b n z=>by
  subst z;rcases he with r|r
  ·exact hx b n r
  ·rw[n]at r;cases r
 have hm:∀b u,H b=some u->¬Mut (some u)->b≠x:=fun b u q nm z=>by subst z;rw[q]at mu;exact nm mu
 refine⟨fun b u q n _ _=>k b u (hb b n) q,fun b u q n _ _=>⟨u.slots,k b u (hb b n) q⟩,fun b u q n _=>by rw[Qt (hx b n)];exact n,fun b u q _=>?_,
  fun b xs q=>by rw[Qt (hm b _ q fun z=>z)];exact q,fun b u xs q=>by rw[Qt (hm b _ q fun z=>z)];exact q,fun b xs u q e' _=>k b u (fun z=>by
   rcases he with r|r
   ·exact hm b _ q (fun y=>y) (z.trans r)
   ·rw[<- z,q]at r;cases r) e',fun b ps q=>⟨#[],by rw[Qt (hm b _ q fun z=>z),q];simp⟩⟩
 by_cases hbe:b=e
 ·subst hbe;exact heo
 ·exact⟨u,k b u hbe q⟩
end
def trk (h:Heap)(H:Hp):Qg:=(List.range h.objs.size).filter fun a=>(H a).isSome
def Wp (h:Heap)(H:Hp):Heap:=W.hideAll h (trk h H)
def Cq (h:Heap)(H:Hp):(Wp h H).objs.size=h.objs.size:=W.hideAll_size _ _
def FK {h:Heap}{H:Hp}{b:Addr}{o:Obj}(e:h.get? b=some o)(n:H b=none):(Wp h H).get? b=some o :=
 W.hideAll_get _ e fun hm=>by
  have q:(H b).isSome=true:=(List.mem_filter.mp hm).2;rw[n]at q;simp at q
def Lh {h:Heap}{H:Hp}{b:Addr}{o:Obj}(e:(Wp h H).get? b=some o):h.get? b=some o/\H b=none:=by
 have e':h.get? b=some o:=W.of_hideAll (trk h H) e;refine⟨e',?_⟩
 cases q:H b with
 |none=>rfl
 |some x =>
   have hm:b∈trk h H:=List.mem_filter.mpr ⟨XT.mpr (Xj e'),by simp[q]⟩;have z:(Wp h H).get? b=none:=W.hideAll_none (trk h H) hm;rw[z]at e;cases e
structure Mod (K:W.Frag)(mg:Str->Qf)(base:Heap):Prop where
 kin:K.In base
 glob:base.Ns mainGlobals mg
 blt:∃mb,base.Ns builtinsNs mb/\∀x:Str,x ≠ "__name__" -> mb x=bootBuiltins x
 nolimit:base.NoLimit
structure Cx where
 prog:Program
 w:World
 K:W.Frag
 mg:Str->Qf
 base:Heap
 A:Around
 N:Qh
 s₀:Shared
 H₀:Hp
 env:Env
 outer:List Env
 stack:List Env
 ex:Qg
 fn:Str->Bool
 calm:Bool
 pn:Qc
 xe:Qb
def frs (l:List Env):Qg:=l.filterMap (·.frame)
abbrev Cx.fs (X:Cx):Qg:=frs X.outer
def Vis (sc:Scope)(x:Str):Prop:=sc.names.lookup x=some .local\/sc.names.lookup x=some .cell\/sc.names.lookup x=some .free
def Loc (sc:Scope)(x:Str):Prop:=sc.names.lookup x=some .local\/sc.names.lookup x=some .cell
def SZ (env:Env)(h:Heap)(m:Str->Qf)(x:Str)(u:Value):Prop :=
 (env.kindOf x=some .local/\m x=some u)\/((env.kindOf x=some .cell\/env.kindOf x=some .free)/\∃c,env.cells.lookup x=some c/\h.IsCell c (some u))
structure Cx.Ok (X:Cx):Prop where
 mod:Mod X.K X.mg X.base
 kind:X.env.scope.kind=.function
 glob:X.env.globals=mainGlobals
 blt:X.env.builtins=builtinsNs
 above:X.s₀.heap.objs.size<=X.env.locals
 inj:∀x y c,X.env.cells.lookup x=some c->X.env.cells.lookup y=some c->x=y
 has:∀x,(X.env.kindOf x=some .cell\/X.env.kindOf x=some .free)->∃c,X.env.cells.lookup x=some c
 cab:∀x c,X.fn x=true->X.env.cells.lookup x=some c->X.s₀.heap.objs.size<=c
 hd:X.calm=true->X.A.handled=none
 frames:X.A.frames=some X.stack
 stk:X.stack=X.outer\/(X.stack=X.env::X.outer/\X.env.frame=some X.env.locals)
 exf:∀b∈X.ex,b≠X.env.locals/\∀x c,X.env.cells.lookup x=some c->c≠b
 bs:∀b o,X.base.get? b=some o->X.s₀.heap.get? b=some o/\(X.H₀ b=none\/∃xs,X.H₀ b=some (.tup xs))
 bsz:X.base.objs.size<=X.s₀.heap.objs.size
 noex:∀b o,X.base.get? b=some o->b∉X.ex
 exfs:∀b∈X.ex,b∉X.fs
 funs:X.s₀.heap.FunFrames X.base X.outer
 frf:∀b∈X.fs,X.H₀ b=none
structure Qq (X:Cx)(XaR:Qc)(σ:List (Option V))(H:Hp)(s:Shared):Prop where
 ok:X.Ok
 os:s.os=X.s₀.os
 bare:AllBare s.gens
 base:Un X.fs X.ex X.H₀ H X.s₀.heap s.heap
 loc:∃m,s.heap.Ns X.env.locals m/\∀(i:Nat) (x:Str) (v:V),X.N[i]?=some x->σ[i]?=some (some v)->Vis X.env.scope x->∃u,QJ v u/\SZ X.env s.heap m x u
 cell:∀x c,X.env.cells.lookup x=some c->∃v,s.heap.IsCell c v
 free:H X.env.locals=none
 freeC:∀x c,X.env.cells.lookup x=some c->H c=none
 pin:∀p∈X.pn++XaR,s.heap.get? p.1=some p.2/\H p.1=none/\p.1≠X.env.locals/\p.1∉X.fs/\∀v,p.2.data≠.cell v
 hok:HOk X.prog X.w H s.heap
 len:σ.length=X.N.length
section
variable {X:Cx}{XaR:Qc}{σ:List (Option V)}{H H':Hp}{s:Shared}{h':Heap}
def Cx.Ok.nofr (ok:X.Ok){b:Addr}{o:Obj}(e:X.base.get? b=some o):b∉X.fs:=fun hb=>by
 have:=(ok.funs.mem hb).1
 rw[e]at this;cases this
def Qq.bs (I:Qq X XaR σ H s):∀b o,X.base.get? b=some o->s.heap.get? b=some o/\(H b=none\/∃xs,H b=some (.tup xs)):=fun b o e=>by
 obtain⟨e1,e2⟩:=I.ok.bs b o e
 rcases e2 with e2|⟨xs,e2⟩
 ·exact⟨I.base.keep b o e1 e2 (I.ok.nofr e) (I.ok.noex b o e),.inl (I.base.free b o e1 e2 (I.ok.noex b o e))⟩
 ·exact⟨I.base.tupo b xs o e2 e1 (I.ok.noex b o e),.inr ⟨xs,I.base.tups b xs e2⟩⟩
def Qq.bk (I:Qq X XaR σ H s):∀b o,X.base.get? b=some o->s.heap.get? b=some o:=fun b o e=>(I.bs b o e).1
def Qq.mod (I:Qq X XaR σ H s):Mod X.K X.mg X.base:=I.ok.mod
def Qq.kIn (I:Qq X XaR σ H s):X.K.In s.heap:=I.ok.mod.kin.keeps I.bk
def Qq.lt (I:Qq X XaR σ H s):X.env.locals<s.heap.objs.size:=let ⟨_,hn,_⟩:=I.loc;hn.lt
def Qq.sz (I:Qq X XaR σ H s):X.s₀.heap.objs.size<=s.heap.objs.size:=X7 I.ok.above (Yn I.lt)
def Qq.nofs (I:Qq X XaR σ H s){a:Addr}(h:s.heap.objs.size<=a):a∉X.fs:=fun hb=>by
 obtain⟨_,o,ho,_⟩:=I.ok.funs.mem hb;exact Xl (Xp (Xj ho) (X7 I.sz h)) (X5 _)
def Qq.cne (I:Qq X XaR σ H s):∀x c,X.env.cells.lookup x=some c->c≠X.env.locals:=fun x c e z=>by
 obtain⟨v,o,ho,hd⟩:=I.cell x c e;obtain⟨m,⟨o',es,ep,ho',hd',_⟩,_⟩:=I.loc;rw[z,ho']at ho;cases ho;rw[hd']at hd;cases hd
def Qq.funs (I:Qq X XaR σ H s):s.heap.FunFrames X.base X.outer:=by
 have all:∀(l:List Env),(∀b∈frs l,b∈X.fs)->X.s₀.heap.FunFrames X.base l->s.heap.FunFrames X.base l:=by
  intro l;induction l with
  |nil=>intro _ _;trivial
  |cons env r ih =>
    intro hs hl;obtain⟨hk,⟨L,o,hf,hn,ho,hd⟩,hr⟩:=hl;have hL:L∈X.fs:=hs L (by unfold frs;rw[BS,hf];exact Xc);obtain⟨sl,e⟩:=I.base.slot L o ho (I.ok.frf L hL) hL fun z=>I.ok.exfs L z hL
    exact⟨hk,⟨L,_,hf,hn,e,hd⟩,ih (fun b hb=>hs b (by unfold frs;rw[BS,hf];exact Xe _ hb)) hr⟩
 exact all X.outer (fun _ hb=>hb) I.ok.funs
def Qq.stack (I:Qq X XaR σ H s):s.heap.FunFrames X.base X.stack:=by
 rcases I.ok.stk with e|⟨e,hf⟩
 ·rw[e];exact I.funs
 ·rw[e]
  obtain⟨m,hn,_⟩:=I.loc;refine .cons (by rw[I.ok.kind];decide) hf hn ?_ I.funs;exact Heap.get?_none_of_le (X7 I.ok.bsz I.ok.above)
def Qq.stkSub (I:Qq X XaR σ H s):∀b∈frs X.stack,b∈X.env.locals::X.fs:=fun b hb=>by
 rcases I.ok.stk with e|⟨e,hf⟩
 ·rw[e]at hb;exact Xe _ hb
 ·rw[e]at hb
  unfold frs at hb;rw[BS,hf]at hb;exact hb
def Qq.stkFree (I:Qq X XaR σ H s):∀b∈frs X.stack,H b=none:=fun b hb=>by
 rcases Xg.mp (I.stkSub b hb) with e|hb
 ·rw[e];exact I.free
 ·obtain⟨_,o,ho,_⟩:=I.ok.funs.mem hb
  exact I.base.free b o ho (I.ok.frf b hb) fun z=>I.ok.exfs b z hb
def Qq.step {g':Array GenState}{t':Nat}{d':Drawn}{ch:Qg}(I:Qq X XaR σ H s)
 (hch:∀b∈ch,(b∈X.ex\/X.s₀.heap.objs.size<=b)/\b≠X.env.locals/\(∀x c,X.env.cells.lookup x=some c->c≠b)/\∀p∈X.pn++XaR,p.1≠b)
 (keep:∀b o,b≠X.env.locals->b∉X.fs->b∉ch->s.heap.get? b=some o->H b=none->h'.get? b=some o)
 (slot:∀b o,b≠X.env.locals->b∈X.fs->b∉ch->s.heap.get? b=some o->H b=none->∃sl,h'.get? b=some { o with slots:=sl }) (free:∀b o,b∉ch->s.heap.get? b=some o->H b=none->H' b=none)
 (there:∀b o,b∉ch->s.heap.get? b=some o->∃o',h'.get? b=some o')
 (tups:∀b xs,H b=some (.tup xs)->H' b=some (.tup xs)) (frzs:∀b o u,H b=some (.frz o u)->H' b=some (.frz o u)) (tbls:∀b ps,H b=some (.tbl ps)->∃more,H' b=some (.tbl (ps++more)))
 (ns:∀m,s.heap.Ns X.env.locals m->h'.Ns X.env.locals m) (hok:HOk X.prog X.w H' h') (hg:AllBare g') (tupo:∀b xs o,b∉ch->H b=some (.tup xs)->s.heap.get? b=some o->h'.get? b=some o) :
 Qq X XaR σ H' { s with heap:=h',gens:=g',drawn:=d',toks:=t' }:=by
 have neL:∀b o,X.s₀.heap.get? b=some o->b≠X.env.locals:=fun b o e=>Xm (Xp (Xj e) I.ok.above)
 have neC:∀b o,X.s₀.heap.get? b=some o->b∉X.ex->b∉ch:=fun b o e hx hb=>by
  rcases(hch b hb).1 with z|z
  ·exact hx z
  ·exact Xl (Xp (Xj e) z) (X5 _)
 have cellK:∀x c,X.env.cells.lookup x=some c->∀v,s.heap.IsCell c v->h'.IsCell c v:=fun x c e v ⟨o,ho,hd⟩=>by
  have nch:c∉ch:=fun z=>(hch c z).2.2.1 x c e rfl
  by_cases hc:c∈X.fs
  ·obtain⟨sl,q⟩:=slot c o (I.cne x c e) hc nch ho (I.freeC x c e)
   exact⟨_,q,hd⟩
  ·exact⟨o,keep c o (I.cne x c e) hc nch ho (I.freeC x c e),hd⟩
 refine⟨I.ok,I.os,hg,⟨fun b o e n hb hx=>?_,fun b o e n hb hx=>?_,fun b o e n hx=>?_,fun b o e hx=>?_,fun b xs e=>tups b xs (I.base.tups b xs e),fun b o xs e=>frzs b o xs (I.base.frzs b o xs e),fun b xs o q e hx=>tupo b xs o (neC b o e hx) (I.base.tups b xs q) (I.base.tupo b xs o q e hx),fun b ps e=>?_⟩,?_,fun x c e=>?_,?_,fun x c e=>?_,fun p hp=>?_,hok,I.len⟩
 ·exact keep b o (neL b o e) hb (neC b o e hx) (I.base.keep b o e n hb hx) (I.base.free b o e n hx)
 ·obtain⟨sl,e1⟩:=I.base.slot b o e n hb hx
  obtain⟨sl',e2⟩:=slot b _ (neL b o e) hb (neC b o e hx) e1 (I.base.free b o e n hx)
  exact⟨sl',e2⟩
 ·obtain⟨o',e1⟩:=I.base.there b o e hx
  exact free b o' (neC b o e hx) e1 (I.base.free b o e n hx)
 ·obtain⟨o',e1⟩:=I.base.there b o e hx
  exact there b o' (neC b o e hx) e1
 ·obtain⟨m1,e1⟩:=I.base.tbls b ps e
  obtain⟨m2,e2⟩:=tbls b _ e1
  exact⟨m1++m2,by rw[e2,Array.append_assoc]⟩
 ·obtain⟨m,hn,hl⟩:=I.loc
  refine⟨m,ns m hn,fun i x v e1 e2 e3=>?_⟩;obtain⟨u,r,l⟩:=hl i x v e1 e2 e3;refine⟨u,r,?_⟩
  rcases l with l|⟨k,c,e,z⟩
  ·exact .inl l
  ·exact .inr ⟨k,c,e,cellK x c e _ z⟩
 ·obtain⟨v,z⟩:=I.cell x c e
  exact⟨v,cellK x c e v z⟩
 ·obtain⟨m,⟨o,_,_,ho,_⟩,_⟩:=I.loc
  exact free _ o (fun z=>(hch _ z).2.1 rfl) ho I.free
 ·obtain⟨v,o,ho,hd⟩:=I.cell x c e
  exact free c o (fun z=>(hch c z).2.2.1 x c e rfl) ho (I.freeC x c e)
 ·obtain⟨e,n,ne,nf,d⟩:=I.pin p hp
  have nch:p.1∉ch:=fun z=>(hch p.1 z).2.2.2 p hp rfl
  exact⟨keep p.1 p.2 ne nf nch e n,free p.1 p.2 nch e n,ne,nf,d⟩
def Qq.un {t':Nat}(I:Qq X XaR σ H s)(u:Un X.fs [] H H' s.heap h')(hok:HOk X.prog X.w H' h'):Qq X XaR σ H' { s with heap:=h',toks:=t' }:=by
 obtain⟨m,⟨o,es,ep,ho,r⟩,_⟩:=id I.loc;obtain⟨sl,hL⟩:=u.any ho I.free (by simp)
 exact I.step (g':=s.gens) (d':=s.drawn) (ch:=[]) (fun _ z=>nomatch z) (fun b o _ hb _ e n=>u.keep b o e n hb (by simp)) (fun b o _ hb _ e n=>u.slot b o e n hb (by simp)) (fun b o _ e n=>u.free b o e n (by simp)) (fun b o _ e=>u.there b o e (by simp)) u.tups u.frzs u.tbls (fun m' hm=>by
  obtain⟨o',es',ep',ho',r'⟩:=hm;rw[ho]at ho';cases ho';exact⟨_,es',ep',hL,r'⟩) hok I.bare (fun b xs o _ q e=>u.tupo b xs o q e (by simp))
def Qq.call {g':Array GenState}{t':Nat}{d':Drawn}{ch:Qg}(I:Qq X XaR σ H s)(u:Un (frs X.stack) ch H H' s.heap h')(hok:HOk X.prog X.w H' h')(hg:AllBare g')
 (hch:∀b∈ch,(b∈X.ex\/X.s₀.heap.objs.size<=b)/\b≠X.env.locals/\(∀x c,X.env.cells.lookup x=some c->c≠b)/\∀p∈X.pn++XaR,p.1≠b) :
 Qq X XaR σ H' { s with heap:=h',gens:=g',drawn:=d',toks:=t' }:=by
 obtain⟨m,⟨o,es,ep,ho,r⟩,_⟩:=id I.loc;obtain⟨sl,hL⟩:=u.any ho I.free fun z=>(hch _ z).2.1 rfl
 exact I.step (ch:=ch) hch (fun b o hL hb hc e n=>u.keep b o e n (fun z=>(Xg.mp (I.stkSub b z)).elim hL hb) hc) (fun b o _ _ hc e n=>u.any e n hc) (fun b o hc e n=>u.free b o e n hc) (fun b o hc e=>u.there b o e hc) u.tups u.frzs u.tbls (fun m' hm=>by
  obtain⟨o',es',ep',ho',r'⟩:=hm;rw[ho]at ho';cases ho';exact⟨_,es',ep',hL,r'⟩) hok hg (fun b xs o hc q e=>u.tupo b xs o q e hc)
def Qq.turned {t':Nat}{it:Addr}(I:Qq X XaR σ H s)(k:∀b o,b≠it->s.heap.get? b=some o->h'.get? b=some o)(hn:H it=none)(hL:it≠X.env.locals)
 (h1:it∈X.ex\/X.s₀.heap.objs.size<=it) (h2:∀x c,X.env.cells.lookup x=some c->c≠it) (h3:∀p∈X.pn++XaR,p.1≠it):Qq X XaR σ H { s with heap:=h',toks:=t' }:=by
 have nit:∀b u,H b=some u->b≠it:=fun b u e z=>by rw[z,hn]at e;cases e
 refine I.step (g':=s.gens) (d':=s.drawn) (ch:=[it]) (fun b hb=>?_) (fun b o _ _ hc e _=>k b o (fun z=>hc (by simp[z])) e) (fun b o _ _ hc e _=>⟨o.slots,k b o (fun z=>hc (by simp[z])) e⟩) (fun _ _ _ _ n=>n)
  (fun b o hc e=>⟨o,k b o (fun z=>hc (by simp[z])) e⟩) (fun _ _ e=>e) (fun _ _ _ e=>e) (fun b ps e=>⟨#[],by rw[e];simp⟩) (fun m hm=>?_) (fun b u e=>?_) I.bare (fun b _ o hc _ e=>k b o (fun z=>hc (by simp[z])) e)
 ·have e:b=it:=by simpa using hb
  subst e;exact⟨h1,hL,h2,h3⟩
 ·obtain⟨o,es,ep,ho,r⟩:=hm
  exact⟨o,es,ep,k _ o (Ne.symm hL) ho,r⟩
 ·refine(I.hok b u e).stay (fun c v hc q=>k c v ?_ q) (fun _ q=>q) fun _ _ q=>q
  rcases hc with z|z
  ·rw[z];exact nit b u e
  ·exact nit c _ z
def Qq.tok (I:Qq X XaR σ H s)(t:Nat):Qq X XaR σ H { s with toks:=t }:=I.un (h':=s.heap) (t':=t) Un.refl I.hok
def Qq.kept {t':Nat}(I:Qq X XaR σ H s)(k:∀b u,s.heap.get? b=some u->h'.get? b=some u):Qq X XaR σ H { s with heap:=h',toks:=t' }:=I.un (Un.kept k) (I.hok.kept k)
def Qq.laid {a:Addr}{o:HO}{t':Nat}(I:Qq X XaR σ H s)(k:∀b u,s.heap.get? b=some u->h'.get? b=some u)(hp:s.heap.objs.size<=a)(new:Z6 X.prog X.w (upd H a o) h' a o) :
 Qq X XaR σ (upd H a o) { s with heap:=h',toks:=t' }:=I.un (Un.laid k hp (I.hok.fresh hp)) (I.hok.laid k hp new)
def Qq.write {x e:Addr}{o:HO}{t':Nat}(I:Qq X XaR σ H s)(mu:Mut (H x))(he:e=x\/H e=some (.own x))(k:∀b u,b≠e->s.heap.get? b=some u->h'.get? b=some u)(heo:∃u,h'.get? e=some u)
 (new:Z6 X.prog X.w (upd H x o) h' x o):Qq X XaR σ (upd H x o) { s with heap:=h',toks:=t' }:=I.un (Un.write mu he k heo) (I.hok.write mu he k heo new)
def Qq.weak {σ':List (Option V)}(I:Qq X XaR σ H s)(hl:σ'.length=σ.length)(w:∀(i:Nat) v,σ'[i]?=some (some v)->σ[i]?=some (some v)):Qq X XaR σ' H s :=
 ⟨I.ok,I.os,I.bare,I.base,let ⟨m,hn,hl'⟩:=I.loc;⟨m,hn,fun i x v e1 e2 e3=>hl' i x v e1 (w i v e2) e3⟩,I.cell,I.free,I.freeC,I.pin,I.hok,hl.trans I.len⟩
def Qq.pins_of {pins':Qc}(I:Qq X XaR σ H s)(h:∀p∈pins',s.heap.get? p.1=some p.2/\H p.1=none/\p.1≠X.env.locals/\p.1∉X.fs/\∀v,p.2.data≠.cell v):Qq X pins' σ H s :=
 ⟨I.ok,I.os,I.bare,I.base,I.loc,I.cell,I.free,I.freeC,fun p hp=>(XH.mp hp).elim (fun z=>I.pin p (JV _ z)) (h p),I.hok,I.len⟩
def Dx {N:Qh}(hN:N.Nodup){i j:Nat}{x:Str}(a:N[i]?=some x)(b:N[j]?=some x):i=j:=by
 obtain⟨h1,e1⟩:=Xh.mp a;obtain⟨h2,e2⟩:=Xh.mp b
 exact(List.getElem_inj hN).mp (e1.trans e2.symm)
def DO {M:Model}{A:Around}{E:Qb}{i:Nat}{x:Str}{v:V}{u:Value}{Q:Unit->Shared->Prop}(I:Qq X XaR σ H s)(hN:X.N.Nodup)(hi:X.N[i]?=some x)(hx:Loc X.env.scope x)(r:QJ v u)
 (h:∀s',Qq X XaR (σ.set i (some v)) H s'->(∃a,Heap.SameBut a s.heap s'.heap/\(a=X.env.locals\/X.env.cells.lookup x=some a))->Q () s') (hf:X.fn x=true\/X.env.scope.names.lookup x=some .local:=by first|exact .inl rfl|exact .inr rfl|assumption):wpAny M A (storeName X.env x u) Q E s:=by
 obtain⟨m,hn,hl⟩:=id I.loc;have hcls:(X.env.scope.kind==.class||(X.env.scope.kind==.module&&X.env.locals != X.env.globals))=false:=by rw[I.ok.kind];rfl
 have hiσ:i<σ.length:=by rw[I.len];exact(Xh.mp hi).1
 have cne:=I.cne
 have tracked:∀{a:Addr} {h':Heap},(∃o,s.heap.get? a=some o/\H a=none)->Heap.SameBut a s.heap h'->HOk X.prog X.w H h':=fun{a h'} ha hs b ob e=>by
  obtain⟨_,_,hfree⟩:=ha;refine(I.hok b ob e).stay (fun c w' hc q=>(hs.2 c ?_).trans q) (fun _ q=>q) fun _ _ q=>q
  rintro rfl
  rcases hc with rfl|hc
  ·rw[hfree]at e;cases e
  ·rw[hfree]at hc;cases hc
 rcases hx with hk|hk
 ·refine wpAny_storeName_local hk hn (fun h' hn' hs=>?_) hcls
  obtain⟨oL,_,_,hoL,_⟩:=id hn;refine h _ ⟨I.ok,I.os,I.bare,⟨fun b o e n hb hx=>?_,fun b o e n hb hx=>?_,I.base.free,fun b o e hx=>?_,I.base.tups,I.base.frzs,fun b xs o q e hx=>(hs.2 b (Xm (Xp (Xj e) I.ok.above))).trans (I.base.tupo b xs o q e hx),I.base.tbls⟩,⟨_,hn',fun j y v' e1 e2 e3=>?_⟩,fun y c e=>?_,I.free,I.freeC,fun p hp=>?_,tracked ⟨oL,hoL,I.free⟩ hs,by simpa using I.len⟩ ⟨_,hs,.inl rfl⟩
  ·exact(hs.2 b (Xm (Xp (Xj e) I.ok.above))).trans (I.base.keep b o e n hb hx)
  ·obtain⟨sl,e1⟩:=I.base.slot b o e n hb hx
   exact⟨sl,(hs.2 b (Xm (Xp (Xj e) I.ok.above))).trans e1⟩
  ·obtain⟨o',e1⟩:=I.base.there b o e hx
   exact⟨o',(hs.2 b (Xm (Xp (Xj e) I.ok.above))).trans e1⟩
  ·by_cases hj:j=i
   ·subst hj
    rw[hi]at e1;cases e1;rw[Xr hiσ]at e2;cases e2
    exact⟨u,r,.inl ⟨hk,by simp⟩⟩
   ·rw[Xw (Ne.symm hj)]at e2
    obtain⟨u',r',q⟩:=hl j y v' e1 e2 e3;refine⟨u',r',?_⟩
    rcases q with ⟨k,e⟩|⟨k,c,e,z⟩
    ·refine .inl ⟨k,?_⟩
     have:y≠x:=fun e=>hj (Dx hN e1 (e▸hi))
     simp[this,e]
    ·exact .inr ⟨k,c,e,z.sameBut hs (cne y c e)⟩
  ·obtain⟨w',z⟩:=I.cell y c e
   exact⟨w',z.sameBut hs (cne y c e)⟩
  ·obtain⟨e,n,ne,nf,d⟩:=I.pin p hp
   exact⟨(hs.2 p.1 ne).trans e,n,ne,nf,d⟩
 ·have hfn:X.fn x=true:=by
   rcases hf with z|z
   ·exact z
   ·rw[z]at hk;cases hk
  obtain⟨c,hc⟩:=I.ok.has x (.inl hk);obtain⟨w',z⟩:=I.cell x c hc;refine wpAny_storeName_cell I.ok.kind hk hc z (fun h' hc' hs=>?_);obtain⟨oc,hoc,hocd⟩:=id z;refine h { s with heap:=h' } ⟨I.ok,I.os,I.bare,⟨fun b o e n hb hx=>?_,fun b o e n hb hx=>?_,I.base.free,fun b o e hx=>?_,I.base.tups,I.base.frzs,fun b xs o q e hx=>(hs.2 b (Xm (Xp (Xj e) (I.ok.cab x c hfn hc)))).trans (I.base.tupo b xs o q e hx),I.base.tbls⟩,⟨m,hn.sameBut hs (Ne.symm (cne x c hc)),fun j y v' e1 e2 e3=>?_⟩,fun y c' e=>?_,I.free,I.freeC,fun p hp=>?_,tracked ⟨oc,hoc,I.freeC x c hc⟩ hs,by simpa using I.len⟩ ⟨c,hs,.inr hc⟩
  ·exact(hs.2 b (Xm (Xp (Xj e) (I.ok.cab x c hfn hc)))).trans (I.base.keep b o e n hb hx)
  ·obtain⟨sl,e1⟩:=I.base.slot b o e n hb hx
   exact⟨sl,(hs.2 b (Xm (Xp (Xj e) (I.ok.cab x c hfn hc)))).trans e1⟩
  ·obtain⟨o',e1⟩:=I.base.there b o e hx
   exact⟨o',(hs.2 b (Xm (Xp (Xj e) (I.ok.cab x c hfn hc)))).trans e1⟩
  ·by_cases hj:j=i
   ·subst hj
    rw[hi]at e1;cases e1;rw[Xr hiσ]at e2;cases e2
    exact⟨u,r,.inr ⟨.inl hk,c,hc,hc'⟩⟩
   ·rw[Xw (Ne.symm hj)]at e2
    obtain⟨u',r',q⟩:=hl j y v' e1 e2 e3;refine⟨u',r',?_⟩
    rcases q with q|⟨k,c',e,z'⟩
    ·exact .inl q
    ·refine .inr ⟨k,c',e,z'.sameBut hs ?_⟩
     rintro rfl
     exact hj (Dx hN e1 (I.ok.inj _ _ _ e hc▸hi))
  ·by_cases hcc:c'=c
   ·subst hcc;exact⟨_,hc'⟩
   ·obtain⟨w2,z2⟩:=I.cell y c' e
    exact⟨w2,z2.sameBut hs hcc⟩
  ·obtain⟨e,n,ne,nf,d⟩:=I.pin p hp
   refine⟨(hs.2 p.1 ?_).trans e,n,ne,nf,d⟩;intro q;rw[q,hoc]at e;have q':oc=p.2:=Option.some.inj e;exact d w' (by rw[<- q'];exact hocd)
def B7 {M:Model}{A:Around}{E:Qb}{i:Nat}{x:Str}{v:V}{u:Value}{Q:Unit->Shared->Prop}(I:Qq X XaR σ H s)(hN:X.N.Nodup)(hi:X.N[i]?=some x)(hx:Loc X.env.scope x)(r:QJ v u)
 (h:∀s',Qq X XaR (σ.set i (some v)) H s'->Q () s') (hf:X.fn x=true\/X.env.scope.names.lookup x=some .local:=by first|exact .inl rfl|exact .inr rfl|assumption):wpAny M A (storeName X.env x u) Q E s :=
 DO I hN hi hx r (fun s' I' _=>h s' I') hf
def Qq.call' {s':Shared}{ch:Qg}(I:Qq X XaR σ H s)(ho:s'.os=s.os)(u:Un (frs X.stack) ch H H' s.heap s'.heap)(hok:HOk X.prog X.w H' s'.heap)(hg:AllBare s'.gens)
 (hch:∀b∈ch,(b∈X.ex\/X.s₀.heap.objs.size<=b)/\b≠X.env.locals/\(∀x c,X.env.cells.lookup x=some c->c≠b)/\∀p∈X.pn++XaR,p.1≠b):Qq X XaR σ H' s':=by
 obtain⟨h',g',d',t',o'⟩:=s';have e:o'=s.os:=ho;subst e;exact I.call (g':=g') (t':=t') (d':=d') u hok hg hch
end
abbrev XK:=Value->Qj->Hp->Prop
abbrev St:=List (Option V)
abbrev VK:=V->Hp->Prop
abbrev TE:=St->Hp->VK->Prop
abbrev TT:=St->Hp->(Bool->Hp->Prop)->Prop
abbrev TA:=St->Hp->(List V->Hp->Prop)->Prop
structure Ends where
 nx:St->Hp->Prop
 rt:VK
 bk:St->Hp->Prop:=fun _ _=>False
 ct:St->Hp->Prop:=fun _ _=>False
abbrev TS:=Ends->St->Hp->Prop
def EP (X:Cx)(XaR:Qc)(σ:St)(Q:VK)(u:Value)(s':Shared):Prop := ∃v H',Qq X XaR σ H' s'/\QJ v u/\Q v H'
def TP (X:Cx)(XaR:Qc)(σ:St)(Q:Bool->Hp->Prop)(b:Bool)(s':Shared):Prop := ∃H',Qq X XaR σ H' s'/\Q b H'
def AP (X:Cx)(XaR:Qc)(σ:St)(Q:List V->Hp->Prop)(us:Qe)(s':Shared):Prop := ∃vs H',Qq X XaR σ H' s'/\QN vs us/\Q vs H'
def SP (X:Cx)(XaR:Qc)(D:Ends)(f:Flow)(s':Shared):Prop :=
 match f with
 |.next=>∃σ' H',Qq X XaR σ' H' s'/\D.nx σ' H'
 |.brk=>∃σ' H',Qq X XaR σ' H' s'/\D.bk σ' H'
 |.cont=>∃σ' H',Qq X XaR σ' H' s'/\D.ct σ' H'
 |.ret u=>∃v σ' H',Qq X XaR σ' H' s'/\QJ v u/\D.rt v H'
def PE (X:Cx)(e:Expr)(t:TE):Prop :=
 ∀(XaR:Qc) (s:Shared) (σ:St) (H:Hp) (Q:VK),Qq X XaR σ H s->t σ H Q->wpAny (model X.prog X.w) X.A (eval e X.env) (EP X XaR σ Q) X.xe s
def PT (X:Cx)(e:Expr)(t:TT):Prop :=
 ∀(XaR:Qc) (s:Shared) (σ:St) (H:Hp) (Q:Bool->Hp->Prop),Qq X XaR σ H s->t σ H Q->wpAny (model X.prog X.w) X.A (isTrue e X.env (eval e X.env)) (TP X XaR σ Q) X.xe s
def PW (X:Cx)(e:Expr)(t:TT):Prop :=
 ∀(whole:Sem Value) (XaR:Qc) (s:Shared) (σ:St) (H:Hp) (Q:Bool->Hp->Prop),Qq X XaR σ H s->t σ H Q->wpAny (model X.prog X.w) X.A (isTrue e X.env whole) (TP X XaR σ Q) X.xe s
def PW.pt {X:Cx}{e:Expr}{t:TT}(h:PW X e t):PT X e t:=h _
def PA (X:Cx)(es:Qi)(t:TA):Prop :=
 ∀(pos:Pos) (XaR:Qc) (s:Shared) (σ:St) (H:Hp) (Q:List V->Hp->Prop),Qq X XaR σ H s->t σ H Q->wpAny (model X.prog X.w) X.A (spliced (backTo pos (starEach es X.env))) (AP X XaR σ Q) X.xe s
def PS (X:Cx)(st:Stmt)(t:TS):Prop :=
 ∀(XaR:Qc) (s:Shared) (σ:St) (H:Hp) (D:Ends),Qq X XaR σ H s->t D σ H->wpAny (model X.prog X.w) X.A (exec st X.env) (SP X XaR D) X.xe s
def PSs (X:Cx)(st:List Stmt)(t:TS):Prop :=
 ∀(XaR:Qc) (s:Shared) (σ:St) (H:Hp) (D:Ends),Qq X XaR σ H s->t D σ H->wpAny (model X.prog X.w) X.A (execs st X.env) (SP X XaR D) X.xe s
def Q6 {α:Type}{t:Sem α}{Q Q':α->Shared->Prop}{M:Model}{A:Around}{E:Qb}{s:Shared}(h:wpAny M A t Q E s)(hQ:∀a s,Q a s->Q' a s):wpAny M A t Q' E s:=wpAny_mono h hQ fun _ _ x=>x
section
variable {X:Cx}
def QD (i:Nat):TE:=fun σ H Q=>∃v,σ[i]?=some (some v)/\Q v H
def tC (v:V):TE:=fun _ H Q=>Q v H
def KO {i:Nat} {x:Str} {pos:Pos} (hN:X.N[i]?=some x) (hv:Vis X.env.scope x) (hd:(x==("__debug__" : Str))=false:=by decide) (hcd:(x==("__classdict__" : Str))=false:=by decide):PE X (.Name x pos) (QD i):=by
 intro XaR s σ H Q I h;obtain⟨v,e,h⟩:=h;obtain⟨m,hn,hl⟩:=I.loc;obtain⟨u,r,l⟩:=hl i x v hN e hv;have fin:EP X XaR σ Q u s:=⟨v,H,I,r,h⟩
 rcases l with ⟨hk,hm⟩|⟨hk,c,hc,hcell⟩
 ·exact wpAny_Name (wpAny_loadName_local I.ok.kind hk hn hm fin) hd
 ·rcases hk with hk|hk
  ·exact wpAny_Name (wpAny_loadName_cell I.ok.kind hk hc hcell fin) hd
  ·exact wpAny_Name (wpAny_loadName_free I.ok.kind hk hc hcell fin hcd) hd
def Qx {i j pos}:PE X (.Constant (.int i) j pos) (tC (.int i)):=fun _ _ _ H _ I h=>wpAny_Constant_int ⟨.int i,H,I.tok _,⟨_,rfl⟩,h⟩
def V9 {b j pos}:PE X (.Constant (.bool b) j pos) (tC (.bl b)):=fun _ _ _ H _ I h=>Constant_bool ⟨.bl b,H,I,rfl,h⟩
def Bk {j pos}:PE X (.Constant .none j pos) (tC .non):=fun _ _ _ H _ I h=>Constant_none ⟨.non,H,I,rfl,h⟩
def VQ {x j pos}:PE X (.Constant (.str x) j pos) (tC (.str x)):=fun _ _ _ H _ I h=>Calls.Constant_str ⟨.str x,H,I.tok _,⟨_,rfl⟩,h⟩
def Gl (X:Cx)(x:Str):Prop:=X.env.kindOf x=some .globalImplicit
def Jw {E:Qb}{XaR:Qc}{s:Shared}{σ:St}{H:Hp}{x:Str}{u:Value}{pos:Pos}{Q:Qb}(I:Qq X XaR σ H s)(hg:Gl X x)(hm:X.mg x=some u)(h:Q u s)
 (hd:(x==("__debug__" : Str))=false:=by decide):wpAny (model X.prog X.w) X.A (eval (.Name x pos) X.env) Q E s :=
 Calls.Name_function_global I.ok.kind hg (Calls.loadGlobal_global (by rw[I.ok.glob];exact I.mod.glob.keeps I.bk) hm h) hd
def WH {E:Qb}{XaR:Qc}{s:Shared}{σ:St}{H:Hp}{x:Str}{u:Value}{pos:Pos}{Q:Qb}(I:Qq X XaR σ H s)(hg:Gl X x)(hm:X.mg x=none)(hv:bootBuiltins x=some u)(h:Q u s)
 (hn:x ≠ "__name__" := by decide) (hd:(x==("__debug__" : Str))=false:=by decide):wpAny (model X.prog X.w) X.A (eval (.Name x pos) X.env) Q E s:=by
 obtain⟨mb,h1,h2⟩:=I.mod.blt;exact Calls.Name_function_global I.ok.kind hg (Calls.loadGlobal_builtin (by rw[I.ok.glob];exact I.mod.glob.keeps I.bk) hm (by rw[I.ok.blt];exact h1.keeps I.bk) ((h2 x hn).trans hv) h) hd
def YB {x:Str} {v:V} {u:Value} {pos:Pos} (hg:Gl X x) (hm:X.mg x=some u) (r:QJ v u) (hd:(x==("__debug__" : Str))=false:=by decide):PE X (.Name x pos) (tC v) :=
 fun _ _ _ H _ I h=>Jw I hg hm ⟨v,H,I,r,h⟩ hd
def YZ {x:Str} {v:V} {u:Value} {pos:Pos} (hg:Gl X x) (hm:X.mg x=none) (hv:bootBuiltins x=some u) (r:QJ v u) (hn:x ≠ "__name__" := by decide) (hd:(x==("__debug__" : Str))=false:=by decide):PE X (.Name x pos) (tC v) :=
 fun _ _ _ H _ I h=>WH I hg hm hv ⟨v,H,I,r,h⟩ hn hd
variable {a b:Expr}{ta tb:TE}{pos:Pos}
def PC (X:Cx)(op:CmpOp)(a b:Expr)(t:TE):Prop :=
 ∀(XaR:Qc) (s:Shared) (σ:St) (H:Hp) (Q:VK),Qq X XaR σ H s->t σ H Q ->
  wpAny (model X.prog X.w) X.A (eval a X.env) (fun v b9=>wpAny (model X.prog X.w) X.A (eval b X.env) (fun u b8=>wpAny (model X.prog X.w) X.A (compareOp op v u) (EP X XaR σ Q) X.xe b8) X.xe b9) X.xe s
def C6 (b:Expr){op:CmpOp}(h:op≠.In)(h2:op≠.NotIn):behindInMarks op b=false:=by
 have e1:(op==CmpOp.In)=false:=by cases op<;>first|rfl|exact Xl rfl h
 have e2:(op==CmpOp.NotIn)=false:=by cases op<;>first|rfl|exact Xl rfl h2
 cases b<;>simp[behindInMarks,e1,e2]
def Kq (ta:TE):TE:=fun σ H Q=>ta σ H fun x H1=>Q (.bl (!decide (x=.non))) H1
def QJ.none_iff {x:V}{v:Value}(r:QJ x v):(v==Value.none)=decide (x=.non):=by
 cases x with
 |non=>cases r;rfl
 |bl _=>cases r;rfl
 |int _=>obtain⟨t,rfl⟩:=r;rfl
 |str _=>obtain⟨t,rfl⟩:=r;rfl
 |byt _=>obtain⟨t,rfl⟩:=r;rfl
 |flt _=>obtain⟨t,rfl⟩:=r;rfl
 |ref _=>cases r;rfl
 |ty _=>cases r;rfl
def LF {j pos'}(ha:PE X a ta):PC X .IsNot a (.Constant .none j pos') (Kq ta):=by
 intro XaR s σ H Q I h;refine Q6 (ha XaR s σ H _ I h) fun v s1 ⟨x,H1,I1,r1,q1⟩=>?_;exact Constant_none (isnot_none_gen ⟨.bl _,H1,I1,by rw[r1.none_iff];rfl,q1⟩)
def tB (t:TE):TT:=fun σ H Q=>t σ H fun x H1=>∃c,x=.bl c/\Q c H1
def Gi {op:CmpOp}{t:TE}(h:PC X op a b t)(h1:behindInMarks op b=false:=by first|exact C6 _ (by decide) (by decide)|rfl):PT X (.Compare a [op] [b] pos) (tB t):=by
 intro XaR s σ H Q I hw;refine wpAny_isTrue_Compare1 (Q6 (h XaR s σ H _ I hw) fun v s1 h1=>Q6 h1 fun u s2 h2=>Q6 h2 fun c s3 ⟨x,H1,I1,r1,q1⟩=>?_) h1;obtain⟨d,rfl,q⟩:=q1
 cases r1
 exact wpAny_truthy_bool ⟨H1,I1,q⟩
def Vg {e:Expr}{t:TE}(h:PE X e t)(he:∀whole,isTrue e X.env whole=(do let v <- whole;standAt e.pos;holding [v] (truthy v)):=by intro _;rfl):PT X e (tB t):=by
 intro XaR s σ H Q I hw;refine isTrue_plain (Q6 (h XaR s σ H _ I hw) fun v s1 ⟨x,H1,I1,r1,q1⟩=>?_) (he _);obtain⟨d,rfl,q⟩:=q1
 cases r1
 exact wpAny_truthy_bool ⟨H1,I1,q⟩
variable {tA tB':TT}{rest:Qi}
def Ka (t u:TT):TT:=fun σ H Q=>t σ H fun c H1=>if c=true then u σ H1 Q else Q false H1
def tOr (t u:TT):TT:=fun σ H Q=>t σ H fun c H1=>if c=true then Q true H1 else u σ H1 Q
def Kb (t:TT):TT:=fun σ H Q=>t σ H fun c H1=>Q (!c) H1
def Gw (ha:PT X a tA):PW X (.BoolOp .And [a] pos) tA:=by
 intro wh XaR s σ H Q I h;refine isTrue_and (Q6 (ha XaR s σ H Q I h) fun c s1 e=>?_)
 cases c with
 |true=>exact isTrue_and_nil e
 |false=>exact e
def Uu (ha:PT X a tA):PW X (.BoolOp .Or [a] pos) tA:=by
 intro wh XaR s σ H Q I h;refine isTrue_or (Q6 (ha XaR s σ H Q I h) fun c s1 e=>?_)
 cases c with
 |false=>exact isTrue_or_nil e
 |true=>exact e
def Gg (ha:PT X a tA)(hb:PW X (.BoolOp .And (b::rest) pos) tB'):PW X (.BoolOp .And (a::b::rest) pos) (Ka tA tB'):=by
 intro wh XaR s σ H Q I h;refine isTrue_and (Q6 (ha XaR s σ H _ I h) fun c s1 ⟨H1,I1,q1⟩=>?_)
 cases c with
 |true=>exact hb wh XaR s1 σ H1 Q I1 q1
 |false=>exact⟨H1,I1,q1⟩
def Wq (ha:PT X a tA)(hb:PW X (.BoolOp .Or (b::rest) pos) tB'):PW X (.BoolOp .Or (a::b::rest) pos) (tOr tA tB'):=by
 intro wh XaR s σ H Q I h;refine isTrue_or (Q6 (ha XaR s σ H _ I h) fun c s1 ⟨H1,I1,q1⟩=>?_)
 cases c with
 |true=>exact⟨H1,I1,q1⟩
 |false=>exact hb wh XaR s1 σ H1 Q I1 q1
def Yq (ha:PT X a tA):PT X (.UnaryOp .Not a pos) (Kb tA):=by
 intro XaR s σ H Q I h;exact isTrue_not (ha XaR s σ H (fun c H1=>Q (!c) H1) I h)
def KB (ta tb:TE):TE:=fun σ H Q=>ta σ H fun x H1=>∃c,x=.bl c/\if c=true then tb σ H1 Q else Q (.bl false) H1
def Ku (ta:TE):TE:=fun σ H Q=>ta σ H fun x H1=>∃c,x=.bl c/\Q (.bl (!c)) H1
def GY {op}{t:TE}(h:PE X a t):PE X (.BoolOp op [a] pos) t:=fun XaR s σ H Q I hw=>BoolOp_one (h XaR s σ H Q I hw)
def GZ (ha:PE X a ta)(hb:PE X (.BoolOp .And (b::rest) pos) tb):PE X (.BoolOp .And (a::b::rest) pos) (KB ta tb):=by
 intro XaR s σ H Q I h;refine BoolOp_and (Q6 (ha XaR s σ H _ I h) fun v s1 ⟨x,H1,I1,r1,q1⟩=>?_);obtain⟨c,rfl,q1⟩:=q1
 cases r1
 refine wpAny_truthy_bool ?_
 cases c with
 |true=>exact hb XaR s1 σ H1 Q I1 q1
 |false=>exact⟨.bl false,H1,I1,rfl,q1⟩
def TF (ha:PE X a ta):PE X (.UnaryOp .Not a pos) (Ku ta):=by
 intro XaR s σ H Q I h;refine UnaryOp_ (Q6 (ha XaR s σ H _ I h) fun v s1 ⟨x,H1,I1,r1,q1⟩=>?_);obtain⟨c,rfl,q1⟩:=q1
 cases r1
 exact not_of (wpAny_truthy_bool ⟨.bl (!c),H1,I1,rfl,q1⟩)
end
def SqL (K:W.Frag)(H:Hp)(a:Addr)(xs:List V):Prop :=
 Rd H a (.lst xs) \/
  ∃(o:Obj) (its:Array Value) (n:Nat),K.lookup a=some o/\o.cls=.type "list" /\ o.dict=none/\o.data=.seq its n/\its.size<=sizeLine/\QN xs its.toList
def SqT (K:W.Frag)(H:Hp)(a:Addr)(xs:List V):Prop :=
 Rd H a (.tup xs) \/
  ∃(o:Obj) (its:Array Value) (n:Nat),K.lookup a=some o/\o.cls=.type "tuple" /\ o.data=.seq its n/\its.size<=sizeLine/\QN xs its.toList
def SS:Value->Option V
 |.none=>some .non
 |.bool b=>some (.bl b)
 |.int i _=>some (.int i)
 |.str x _=>some (.str x)
 |.bytes b _=>some (.byt b)
 |.float b _=>some (.flt b)
 |.ref a=>some (.ref a)
 |.type n=>some (.ty n)
 |_=>none
def QJ.abs {x:V}{u:Value}(r:QJ x u):SS u=some x:=by
 cases x with
 |non=>cases r;rfl
 |bl _=>cases r;rfl
 |int _=>obtain⟨t,rfl⟩:=r;rfl
 |str _=>obtain⟨t,rfl⟩:=r;rfl
 |byt _=>obtain⟨t,rfl⟩:=r;rfl
 |flt _=>obtain⟨t,rfl⟩:=r;rfl
 |ref _=>cases r;rfl
 |ty _=>cases r;rfl
def QJ.inj {x y:V}{u:Value}(r:QJ x u)(q:QJ y u):x=y:=Option.some.inj (r.abs.symm.trans q.abs)
theorem QN.inj:∀{xs ys:List V} {us:Qe},QN xs us->QN ys us->xs=ys
 |_,_,_,.nil,.nil=>rfl
 |_,_,_,.cons r t,.cons r' t'=>by rw[r.inj r',QN.inj t t']
section
variable {X:Cx}{XaR:Qc}{σ:St}{H:Hp}{s:Shared}{a:Addr}{xs ys:List V}
def SqL.of {K:W.Frag}(h:H a=some (.lst xs)):SqL K H a xs:=.inl (.inl h)
def SqT.of {K:W.Frag}(h:H a=some (.tup xs)):SqT K H a xs:=.inl (.inl h)
def Qq.list (I:Qq X XaR σ H s)(h:SqL X.K H a xs):∃its:Qe,QN xs its/\PlainL s.heap a its.toArray/\xs.length<=sizeLine:=by
 rcases h with h|⟨o,its,n,hk,hc,hd,hs,hz,r⟩
 ·obtain⟨z,its,n,r,e⟩:=h.ok I.hok
  exact⟨its,r,⟨_,n,e,rfl,rfl,rfl⟩,z⟩
 ·refine⟨its.toList,r,⟨o,n,I.kIn a o hk,hc,hd,by simpa using hs⟩,?_⟩
  have e:=r.length;simp only[Array.length_toList]at e;omega
def Qq.tuple (I:Qq X XaR σ H s)(h:SqT X.K H a xs):∃its:Qe,QN xs its/\IsTup s.heap a its.toArray/\xs.length<=sizeLine:=by
 rcases h with h|⟨o,its,n,hk,hc,hs,hz,r⟩
 ·obtain⟨z,its,r,p⟩:=h.ok I.hok
  exact⟨its,r,p,z⟩
 ·refine⟨its.toList,r,⟨o,I.kIn a o hk,hc,n,by simpa using hs⟩,?_⟩
  have e:=r.length;simp only[Array.length_toList]at e;omega
def Qq.list_inj (I:Qq X XaR σ H s)(h:SqL X.K H a xs)(h':SqL X.K H a ys):xs=ys:=by
 obtain⟨its,r,⟨o,n,e,_,_,d⟩,_⟩:=I.list h;obtain⟨its',r',⟨o',n',e',_,_,d'⟩,_⟩:=I.list h';rw[e]at e';cases e';rw[d]at d';injection d' with d1 _
 have:its=its':=by simpa using XW Array.toList d1
 subst this;exact r.inj r'
def Qq.tuple_inj (I:Qq X XaR σ H s)(h:SqT X.K H a xs)(h':SqT X.K H a ys):xs=ys:=by
 obtain⟨its,r,⟨o,e,_,n,d⟩,_⟩:=I.tuple h;obtain⟨its',r',⟨o',e',_,n',d'⟩,_⟩:=I.tuple h';rw[e]at e';cases e';rw[d]at d';injection d' with d1 _
 have:its=its':=by simpa using XW Array.toList d1
 subst this;exact r.inj r'
end
abbrev Cx.wish (X:Cx)(E:Qb):Cx:={ X with xe:=E }
abbrev Cx.nox (X:Cx):Cx:=X.wish fun _ _=>False
def Cx.Ok.wish {X:Cx}(ok:X.Ok)(E:Qb):(X.wish E).Ok :=
 ⟨ok.mod,ok.kind,ok.glob,ok.blt,ok.above,ok.inj,ok.has,ok.cab,ok.hd,ok.frames,ok.stk,ok.exf,ok.bs,ok.bsz,ok.noex,ok.exfs,ok.funs,ok.frf⟩
def Cx.Ok.unwish {X:Cx}{E:Qb}(ok:(X.wish E).Ok):X.Ok :=
 ⟨ok.mod,ok.kind,ok.glob,ok.blt,ok.above,ok.inj,ok.has,ok.cab,ok.hd,ok.frames,ok.stk,ok.exf,ok.bs,ok.bsz,ok.noex,ok.exfs,ok.funs,ok.frf⟩
section
variable {X:Cx}{XaR:Qc}{σ:St}{H:Hp}{s:Shared}{E:Qb}
def Qq.wish (I:Qq X XaR σ H s)(E:Qb):Qq (X.wish E) XaR σ H s:=⟨I.ok.wish E,I.os,I.bare,I.base,I.loc,I.cell,I.free,I.freeC,I.pin,I.hok,I.len⟩
def Qq.unwish (I:Qq (X.wish E) XaR σ H s):Qq X XaR σ H s:=⟨I.ok.unwish,I.os,I.bare,I.base,I.loc,I.cell,I.free,I.freeC,I.pin,I.hok,I.len⟩
def SP.unwish {D:Ends}{f:Flow}{s':Shared}(h:SP (X.wish E) XaR D f s'):SP X XaR D f s':=by
 cases f with
 |next=>obtain⟨σ',H',I,q⟩:=h;exact⟨σ',H',I.unwish,q⟩
 |brk=>obtain⟨σ',H',I,q⟩:=h;exact⟨σ',H',I.unwish,q⟩
 |cont=>obtain⟨σ',H',I,q⟩:=h;exact⟨σ',H',I.unwish,q⟩
 |ret u=>obtain⟨v,σ',H',I,r,q⟩:=h;exact⟨v,σ',H',I.unwish,r,q⟩
def PSs.nox {st:List Stmt}{t:TS}(h:PSs X.nox st t):PSs X st t:=fun XaR s σ H D I hw =>
 wpAny_mono (h XaR s σ H D (I.wish _) hw) (fun _ _ q=>q.unwish) fun _ _ z=>False.elim z
end
section
variable {X:Cx}{st:Stmt}{rest:List Stmt}{t u:TS}{e:Expr}{te:TE}{pos:Pos}
def K0:TS:=fun D σ H=>D.nx σ H
def Jf (t u:TS):TS:=fun D σ H=>t { D with nx:=u D } σ H
def Z4:PSs X [] K0:=fun _ _ σ H _ I h=>wpAny_execs_nil ⟨σ,H,I,h⟩
def Q7 (h1:PS X st t)(h2:PSs X rest u):PSs X (st::rest) (Jf t u):=by
 intro XaR s σ H D I h;refine wpAny_execs_cons (Q6 (h1 XaR s σ H { D with nx:=u D } I h) fun f s1 q=>?_)
 cases f with
 |next =>
   obtain⟨σ',H',I',q⟩:=q;exact h2 XaR s1 σ' H' D I' q
 |ret v=>exact q
 |brk=>exact q
 |cont=>exact q
def Q3 (h1:PS X st t):PSs X [st] t:=by
 intro XaR s σ H D I h;refine wpAny_execs_cons (Q6 (h1 XaR s σ H D I h) fun f s1 q=>?_)
 cases f with
 |next=>exact wpAny_execs_nil q
 |ret v=>exact q
 |brk=>exact q
 |cont=>exact q
def Qq.quiet {XaR:Qc}{σ:St}{H:Hp}{s:Shared}(I:Qq X XaR σ H s):interactive X.env=false:=by simp[interactive,I.ok.kind]
def VF (te:TE):TS:=fun D σ H=>te σ H fun _ H1=>D.nx σ H1
def Z8 (he:PE X e te)(hs:swapsWith e none pos.line X.env=pure false:=by rfl):PS X (.Expr e pos) (VF te):=by
 intro XaR s σ H D I h;exact wpAny_Expr_any (Q6 (he XaR s σ H _ I h) fun v s1 ⟨x,H1,I1,r1,q1⟩=>⟨σ,H1,I1,q1⟩) I.quiet hs
def Y2 (te:TE):TS:=fun D σ H=>te σ H D.rt
def QQ (he:PE X e te):PS X (.Return (some e) pos) (Y2 te):=by
 intro XaR s σ H D I h;exact wpAny_Return_some (Q6 (he XaR s σ H _ I h) fun v s1 ⟨x,H1,I1,r1,q1⟩=>⟨x,σ,H1,I1,r1,q1⟩)
def BY (c:TT)(t u:TS):TS:=fun D σ H=>c σ H fun b H1=>if b=true then t D σ H1 else u D σ H1
def Z0 {c:Expr}{a b:List Stmt}{tc:TT}(hc:PT X c tc)(ha:PSs X a t)(hb:PSs X b u):PS X (.If c a b pos) (BY tc t u):=by
 intro XaR s σ H D I h;refine wpAny_If (Q6 (hc XaR s σ H _ I h) fun d s1 ⟨H1,I1,q1⟩=>?_)
 cases d with
 |true=>exact ha XaR s1 σ H1 D I1 q1
 |false=>exact hb XaR s1 σ H1 D I1 q1
def Tb:TS:=fun _ _ _=>False
def B2:PS X st Tb:=fun _ _ _ _ _ _ h=>h.elim
end
abbrev TG:=V->St->Hp->(St->Hp->Prop)->Prop
abbrev TGs:=List V->St->Hp->(St->Hp->Prop)->Prop
def PG (X:Cx)(target:Expr)(t:TG):Prop :=
 ∀(XaR:Qc) (s:Shared) (σ:St) (H:Hp) (v:V) (u:Value) (Q:St->Hp->Prop),Qq X XaR σ H s->QJ v u->t v σ H Q ->
  wpAny (model X.prog X.w) X.A (assign target X.env u) (fun _ s'=>∃σ' H',Qq X XaR σ' H' s'/\Q σ' H') X.xe s
def PGs (X:Cx)(ts:Qi)(t:TGs):Prop :=
 ∀(XaR:Qc) (s:Shared) (σ:St) (H:Hp) (vs:List V) (us:Qe) (Q:St->Hp->Prop),Qq X XaR σ H s->QN vs us->t vs σ H Q ->
  wpAny (model X.prog X.w) X.A (assignInOrder ((assignEach ts X.env).map (·.2)) us) (fun _ s'=>∃σ' H',Qq X XaR σ' H' s'/\Q σ' H') X.xe s
abbrev UM:=V->V->V->Hp->(Hp->Prop)->Prop
def Mp (X:Cx)(t:UM):Prop :=
 ∀(XaR:Qc) (s:Shared) (σ:St) (H:Hp) (o i v:V) (ov iv u:Value) (Q:Hp->Prop),Qq X XaR σ H s->QJ o ov->QJ i iv->QJ v u->t o i v H Q ->
  wpAny (model X.prog X.w) X.A (setItem ov iv u) (fun _ s'=>∃H',Qq X XaR σ H' s'/\Q H') X.xe s
abbrev TIp:=V->V->Hp->VK->Prop
def PIp (X:Cx)(op:Operator)(t:TIp):Prop :=
 ∀(XaR:Qc) (s:Shared) (σ:St) (H:Hp) (x y:V) (v u:Value) (Q:VK),Qq X XaR σ H s->QJ x v->QJ y u->t x y H Q ->
  wpAny (model X.prog X.w) X.A (inplaceOp op v u) (EP X XaR σ Q) X.xe s
section
variable {X:Cx}{pos:Pos}
def ZW (i:Nat):TG:=fun v σ H Q=>Q (σ.set i (some v)) H
def Zj {i:Nat}{x:Str}(hN:X.N.Nodup)(hi:X.N[i]?=some x)(hx:Loc X.env.scope x)(hf:X.fn x=true\/X.env.scope.names.lookup x=some .local:=by first|exact .inl rfl|exact .inr rfl|assumption):PG X (.Name x pos) (ZW i):=by
 intro XaR s σ H v u Q I r h;exact wpAny_assign_Name (B7 I hN hi hx r (fun s' I'=>⟨_,H,I',h⟩) hf)
def Mg:TGs:=fun vs σ H Q=>vs=[]/\Q σ H
def Mr (t:TG)(u:TGs):TGs:=fun vs σ H Q=>∃v r,vs=v::r/\t v σ H fun σ' H'=>u r σ' H' Q
def Gu:PGs X [] Mg:=by
 intro XaR s σ H vs us Q I r h;obtain⟨e,h⟩:=h;subst e;cases r;exact assignInOrder_nil ⟨σ,H,I,h⟩
def Ym {e:Expr}{es:Qi}{t:TG}{u:TGs}(h1:PG X e t)(h2:PGs X es u)
 (hs:(assignEach (e::es) X.env).map (·.2)=assign e X.env::(assignEach es X.env).map (·.2):=by rfl):PGs X (e::es) (Mr t u):=by
 intro XaR s σ H vs us Q I r h;obtain⟨v,vr,e1,h⟩:=h;subst e1;cases r with
 |cons r rr =>
   rw[hs];refine assignInOrder_cons (Q6 (h1 XaR s σ H _ _ _ I r h) fun _ s1 ⟨σ1,H1,I1,q1⟩=>?_);exact h2 XaR s1 σ1 H1 _ _ Q I1 rr q1
def Md (K:W.Frag)(n:Nat)(t:TGs):TG:=fun v σ H Q=>∃a xs,v=.ref a/\SqT K H a xs/\xs.length=n/\t xs σ H Q
def Bd {es:Qi}{k:Nat}{t:TGs}{n:Nat}(hc:X.calm=true)(h:PGs X es t)
 (hn:(assignEach es X.env).length=n:=by rfl) (hst:(assignEach es X.env).findIdx? (·.1)=none:=by rfl):PG X (.Tuple es k pos) (Md X.K n t):=by
 intro XaR s σ H v u Q I r hw;obtain⟨a,xs,e1,hq,hl,hw⟩:=hw;subst e1;cases r;obtain⟨its,rv,ht,hz⟩:=I.tuple hq;refine assign_Tuple_tuple (I.ok.hd hc) ht (by simp[hn,<- hl,rv.length]) hst fun h' hx=>?_;have I1:Qq X XaR σ H { s with heap:=h' }:=I.kept (t':=s.toks) fun b o e=>hx b o (Xm (Xj e)) e;exact h XaR _ σ H xs _ Q I1 (by simpa using rv) hw
def BZ (to ti:TE)(t:UM):TG:=fun v σ H Q=>to σ H fun o H1=>ti σ H1 fun i H2=>t o i v H2 fun H3=>Q σ H3
def Ut {o i:Expr}{to ti:TE}{t:UM}(ho:PE X o to)(hi:PE X i ti)(hs:Mp X t)
 (ha:∀v,assign (.Subscript o i pos) X.env v=(do
  let ov <- holding [v] (eval o X.env)
  let iv <- holding [v,ov] (eval i X.env)
  standAt pos
  holding [v,ov,iv] (setItem ov iv v)
  release [v,ov,iv] []):=by intro _;rfl):PG X (.Subscript o i pos) (BZ to ti t):=by
 intro XaR s σ H v u Q I r h;rw[ha];refine Xa (wpAny_holding (Q6 (ho XaR s σ H _ I h) fun ov s1 ⟨x,H1,I1,r1,q1⟩=>?_));refine Xa (wpAny_holding (Q6 (hi XaR s1 σ H1 _ I1 q1) fun iv s2 ⟨y,H2,I2,r2,q2⟩=>?_));refine Xa (wpAny_standAt (Xa (wpAny_holding (Q6 (hs XaR s2 σ H2 x y v ov iv u _ I2 r1 r2 r q2) fun _ s3 ⟨H3,I3,q3⟩=>?_))));exact wpAny_release ⟨σ,H3,I3,q3⟩
def ZS (te:TE)(g:TG):TS:=fun D σ H=>te σ H fun x H1=>g x σ H1 D.nx
def WI {tg e:Expr}{te:TE}{g:TG}(he:PE X e te)(hg:PG X tg g)(hs:swapsWithSole [tg] e pos.line X.env=pure false:=by rfl)(hw:swappedStores [tg] e X.env=pure none:=by rfl)
 (h1:(assignEach [tg] X.env).map (·.2)=[assign tg X.env]:=by rfl):PS X (.Assign [tg] e pos) (ZS te g):=by
 intro XaR s σ H D I h;refine wpAny_Assign_stores (Q6 (he XaR s σ H _ I h) fun v s1 ⟨x,H1,I1,r1,q1⟩=>?_) hs hw;rw[h1];exact Q6 (hg XaR s1 σ H1 x v _ I1 r1 q1) fun _ s2 q=>q
def QY {i:Nat}{x:Str}{e:Expr}{te:TE}{pos':Pos}(hN:X.N.Nodup)(hi:X.N[i]?=some x)(hx:Loc X.env.scope x)(he:PE X e te)(hs:swapsWith e (some (.Name x pos')) pos.line X.env=pure false:=by rfl)(hf:X.fn x=true\/X.env.scope.names.lookup x=some .local:=by first|exact .inl rfl|exact .inr rfl|assumption) :
 PS X (.Assign [.Name x pos'] e pos) (ZS te (ZW i)):=by
 intro XaR s σ H D I h;refine wpAny_Assign_Name (Q6 (he XaR s σ H _ I h) fun v s1 ⟨y,H1,I1,r1,q1⟩=>?_) hs;exact B7 I1 hN hi hx r1 (fun s2 I2=>⟨_,H1,I2,q1⟩) hf
def M4 (to ti te:TE)(tget:V->V->Hp->VK->Prop)(tip:TIp)(tset:UM):TS:=fun D σ H=>to σ H fun o H1=>ti σ H1 fun i H2=>tget o i H2 fun x H3=>te σ H3 fun y H4=>tip x y H4 fun z H5=>tset o i z H5 fun H6=>D.nx σ H6
def Kn (X:Cx)(t:V->V->Hp->VK->Prop):Prop :=
 ∀(XaR:Qc) (s:Shared) (σ:St) (H:Hp) (o i:V) (ov iv:Value) (Q:VK),Qq X XaR σ H s->QJ o ov->QJ i iv->t o i H Q ->
  wpAny (model X.prog X.w) X.A (getItem ov iv) (EP X XaR σ Q) X.xe s
def Bo {o i e:Expr}{to ti te:TE}{tget:V->V->Hp->VK->Prop}{tip:TIp}{tset:UM}{op:Operator}{tpos:Pos}(ho:PE X o to)(hi:PE X i ti)(hg:Kn X tget)(he:PE X e te)(hp:PIp X op tip)(hs:Mp X tset)
 (ha:∀ov iv new,augStore i ov iv new=(do holding [new,ov,iv] (setItem ov iv new);release [new,ov,iv] [];pure .next):=by intros;rfl):PS X (.AugAssign (.Subscript o i tpos) op e pos) (M4 to ti te tget tip tset):=by
 intro XaR s σ H D I h;refine wpAny_AugAssign_SubscriptAny (Q6 (ho XaR s σ H _ I h) fun ov s1 ⟨x1,H1,I1,r1,q1⟩=>?_) ha;refine Q6 (hi XaR s1 σ H1 _ I1 q1) fun iv s2 ⟨x2,H2,I2,r2,q2⟩=>?_;refine Q6 (hg XaR s2 σ H2 x1 x2 ov iv _ I2 r1 r2 q2) fun old s3 ⟨x3,H3,I3,r3,q3⟩=>?_;refine Q6 (he XaR s3 σ H3 _ I3 q3) fun v s4 ⟨x4,H4,I4,r4,q4⟩=>?_;refine Q6 (hp XaR s4 σ H4 x3 x4 old v _ I4 r3 r4 q4) fun new s5 ⟨x5,H5,I5,r5,q5⟩=>?_;exact Q6 (hs XaR s5 σ H5 x1 x2 x5 ov iv new _ I5 r1 r2 r5 q5) fun _ s6 ⟨H6,I6,q6⟩=>⟨σ,H6,I6,q6⟩
def ipI (f:Int->Int->Int):TIp:=fun x y H Q=>∃i j,x=.int i/\y=.int j/\Q (.int (f i j)) H
def MD:PIp X .Add (ipI fun i j=>i+j):=by
 intro XaR s σ H x y v u Q I r1 r2 h;obtain⟨i,j,e1,e2,q⟩:=h;subst e1;subst e2;obtain⟨t,rfl⟩:=r1;obtain⟨t',rfl⟩:=r2;exact iadd_int ⟨.int _,H,I.tok _,⟨_,rfl⟩,q⟩
def TX:PIp X .Sub (ipI fun i j=>i-j):=by
 intro XaR s σ H x y v u Q I r1 r2 h;obtain⟨i,j,e1,e2,q⟩:=h;subst e1;subst e2;obtain⟨t,rfl⟩:=r1;obtain⟨t',rfl⟩:=r2;exact isub_int ⟨.int _,H,I.tok _,⟨_,rfl⟩,q⟩
end
section
variable {X:Cx}{pos:Pos}
def Nn (c:TT)(tb:TS):TS:=fun D σ H=>∃W:Nat->St->Hp->Prop,(∃m,W m σ H)/\∀m σ H,W m σ H ->
 c σ H fun b H1=>if b=true then ∃N:St->Hp->Prop,(∀σ' H',N σ' H'->∃m',m'<m/\W m' σ' H')/\tb { D with nx:=N,ct:=N,bk:=D.nx } σ H1 else D.nx σ H1
def D7 {c:Expr}{body:List Stmt}{tc:TT}{tb:TS}(hp:PassesOwn (model X.prog X.w) X.A X.env X.xe)(hc:PT X c tc)(hb:PSs X body tb):PS X (.While c body [] pos) (Nn tc tb):=by
 intro XaR s σ H D I h;obtain⟨W,⟨m0,w0⟩,turn⟩:=h;refine wpAny_While (codeAny_whileLoop (fun n s'=>∃σ' H',Qq X XaR σ' H' s'/\W n σ' H') ?_ m0 ⟨σ,H,I,w0⟩)
 rintro n s1 ⟨σ1,H1,I1,w1⟩
 refine wpAny_passesOwn hp (Q6 (hc XaR s1 σ1 H1 _ I1 (turn n σ1 H1 w1)) fun b s2 ⟨H2,I2,q2⟩=>?_)
 cases b with
 |true =>
   obtain⟨N,hN,q2⟩:=q2;rw[Xd rfl];refine wpAny_passesOwn hp (Q6 (hb XaR s2 σ1 H2 _ I2 q2) fun f s3 q3=>?_)
   cases f with
   |next =>
     obtain⟨σ3,H3,I3,n3⟩:=q3;obtain⟨m',hm,w3⟩:=hN σ3 H3 n3
     exact⟨m',hm,σ3,H3,I3,w3⟩
   |cont =>
     obtain⟨σ3,H3,I3,n3⟩:=q3;obtain⟨m',hm,w3⟩:=hN σ3 H3 n3
     exact⟨m',hm,σ3,H3,I3,w3⟩
   |brk=>exact q3
   |ret v=>exact q3
 |false =>
   rw[Xb Xs];exact wpAny_execs_nil ⟨σ1,H2,I2,q2⟩
end
structure It where
 go:Nat->Hp->Prop
 yld:Nat->Hp->V->Hp->Prop
 stop:Nat->Hp->Prop
def VO (X:Cx)(XaR:Qc)(H:Hp)(b:Addr):Prop :=
 H b=none/\b≠X.env.locals/\b∉X.fs/\(b∈X.ex\/X.s₀.heap.objs.size<=b)/\(∀x c,X.env.cells.lookup x=some c->c≠b)/\∀p∈X.pn++XaR,p.1≠b
def Qq.fpOk {X:Cx}{XaR:Qc}{σ:St}{H H':Hp}{s:Shared}{b:Addr}(I:Qq X XaR σ H s)(hb:s.heap.objs.size<=b)(hn:H' b=none):VO X XaR H' b:=by
 refine⟨hn,XU (Xp I.lt hb),I.nofs hb,.inr (X7 I.sz hb),fun x c e z=>?_,fun p hp z=>?_⟩
 ·obtain⟨v,q⟩:=I.cell x c e
  exact Xl (Xp q.lt (by rw[z];exact hb)) (X5 _)
 ·exact Xl (Xp (Xj (I.pin p hp).1) (by rw[z];exact hb)) (X5 _)
structure Turn (P:Program)(w:World)(K:W.Frag)(tg:Expr)(J:It)(fp:Qg)(it:Addr)(tn:Nat->Heap->Prop):Prop where
 mem:it∈fp
 obj:∀i h,tn i h->∀b∈fp,∃o,h.get? b=some o/\∀v,o.data≠.cell v
 keep:∀i h h',tn i h->(∀b∈fp,∀o,h.get? b=some o->h'.get? b=some o)->tn i h'
 item:∀(X:Cx),X.prog=P->X.w=w->X.K=K->X.calm=true->∀(i:Nat) (XaR:Qc) (s:Shared) (σ:St) (H:Hp) (E:Qb),Qq X XaR σ H s->(∀b∈fp,VO X XaR H b)->tn i s.heap->J.go i H ->
  wpAny (model P w) X.A (pyNext (.ref it)) (fun r s1=>∃u,r=some u /\
   wpAny (model P w) X.A (letOwnedTupleGo tg (.ref it) u) (fun _ s2=>∃x H',Qq X XaR σ H' s2/\QJ x u/\J.yld i H x H'/\tn (i+1) s2.heap/\∀b∈fp,H' b=none) E s1) E s
 done:∀(X:Cx),X.prog=P->X.w=w->X.K=K->X.calm=true->∀(i:Nat) (XaR:Qc) (s:Shared) (σ:St) (H:Hp) (E:Qb),Qq X XaR σ H s->(∀b∈fp,VO X XaR H b)->tn i s.heap->J.stop i H ->
  wpAny (model P w) X.A (pyNext (.ref it)) (fun r s1=>r=none/\Qq X XaR σ H s1) E s
 self:∀(A:Around) (i:Nat) (s:Shared) (Q:Qb) (E:Qb),tn i s.heap->Q (.ref it) s->wpAny (model P w) A (pyIter (.ref it)) Q E s
abbrev TI:=St->Hp->(It->Hp->Prop)->Prop
def PIE (X:Cx)(XaR:Qc)(σ:St)(tg:Expr)(R:It->Hp->Prop)(itv:Value)(s2:Shared):Prop :=
 ∃(it:Addr) (fp:Qg) (tn:Nat->Heap->Prop) (J:It) (H':Hp),itv=.ref it/\Qq X XaR σ H' s2/\Turn X.prog X.w X.K tg J fp it tn/\tn 0 s2.heap/\(∀b∈fp,VO X XaR H' b)/\R J H'
def PI (X:Cx)(tg iter:Expr)(wi:TI):Prop :=
 ∀(XaR:Qc) (s:Shared) (σ:St) (H:Hp) (R:It->Hp->Prop),Qq X XaR σ H s->wi σ H R ->
  wpAny (model X.prog X.w) X.A (eval iter X.env) (fun v s1=>wpAny (model X.prog X.w) X.A (pyIter v) (PIE X XaR σ tg R) X.xe s1) X.xe s
def UX {M:Model}{A:Around}{E:Qb}{s:Shared}{tg:Expr}{it:Addr}{u:Value}{o:Obj}{n:String}{vs:Array Value}{Q:Unit->Shared->Prop}(ho:s.heap.get? it=some o)(hc:o.cls=.type n)(hd:o.data=.fields vs)
 (hn:["enumerate","zip","dict_itemiterator","dict_reverseitemiterator","odict_iterator","itertools.zip_longest","itertools.pairwise"].contains n=false) (hQ:Q () s):wpAny M A (letOwnedTupleGo tg (.ref it) u) Q E s:=by
 unfold letOwnedTupleGo;cases tg<;>first
  |exact Xk hQ
  | (cases u<;>first
   |exact Xk hQ
   | (refine Xa (wpAny_load ho ?_)
      rw[hc,hd];show wpAny M A (if (["enumerate","zip","dict_itemiterator","dict_reverseitemiterator","odict_iterator","itertools.zip_longest","itertools.pairwise"].contains n&&vs[0]?==some (rawInt _))=true then _ else _) Q E s;rw[Xb (by intro h;rw[hn,Bool.false_and]at h;cases h)];exact Xk hQ))
def Itl (K:W.Frag)(a:Addr):It :=
 ⟨fun i H=>∃xs x,SqL K H a xs/\xs[i]?=some x,fun i H x H'=>H'=H/\∀xs,SqL K H a xs->xs[i]?=some x,fun i H=>∃xs,SqL K H a xs/\xs.length<=i⟩
def Itt (K:W.Frag)(a:Addr):It :=
 ⟨fun i H=>∃xs x,SqT K H a xs/\xs[i]?=some x,fun i H x H'=>H'=H/\∀xs,SqT K H a xs->xs[i]?=some x,fun i H=>∃xs,SqT K H a xs/\xs.length<=i⟩
def Itr (lo:Int)(n:Nat):It:=⟨fun i _=>i<n,fun i H x H'=>H'=H/\x=.int (lo+i),fun i _=>n<=i⟩
theorem Aj {P:Program}{w:World}{K:W.Frag}{tg:Expr}(a it:Addr):Turn P w K tg (Itl K a) [it] it (fun i h=>h.IsListIter it a i) where
 mem:=by simp
 obj:=fun i h st b hb=>by
  have e:b=it:=by simpa using hb
  subst e;obtain⟨o,e,c,d⟩:=st
  exact⟨o,e,fun v z=>by rw[d]at z;cases z⟩
 keep:=fun i h h' st k=>st.at fun o e=>k it (by simp) o e
 item:=by
  intro X hP hw hK hc i XaR s σ H E I hf st hg;subst hP hw hK;obtain⟨xs,x,hq,hx⟩:=hg;obtain⟨its,rv,p,hz⟩:=I.list hq;obtain⟨u,hu,ru⟩:=rv.get hx;obtain⟨f0,f1,f2,f3,f4,f5⟩:=hf it (by simp);refine wpAny_pyNext_list_item st p.isList (x:=u) (by simpa using hu) fun h' st' sb=>?_;have I1:Qq X XaR σ H { s with heap:=h' }:=I.turned (t':=s.toks) (fun b o hb e=>(sb.2 b hb).trans e) f0 f1 f3 f4 f5;obtain⟨o,e,c,d⟩:=id st'
  exact⟨u,rfl,UX (s:={ s with heap:=h' }) e c d (by decide) ⟨x,H,I1,ru,⟨rfl,fun ys hy=>by rw[I.list_inj hy hq];exact hx⟩,st',fun b hb=>(hf b hb).1⟩⟩
 done:=by
  intro X hP hw hK hc i XaR s σ H E I hf st hg;subst hP hw hK;obtain⟨xs,hq,hx⟩:=hg;obtain⟨its,rv,p,hz⟩:=I.list hq;obtain⟨f0,f1,f2,f3,f4,f5⟩:=hf it (by simp);have hl:=rv.length;exact wpAny_pyNext_list_end (I.ok.hd hc) st p.isList (by simp;omega) fun h' eb=>⟨rfl,I.turned (t':=s.toks) (fun b o hb e=>eb b o hb e) f0 f1 f3 f4 f5⟩
 self:=fun _ _ _ _ _ st h=>wpAny_pyIter_listiter st h
theorem El {P:Program}{w:World}{K:W.Frag}{tg:Expr}(a it:Addr):Turn P w K tg (Itt K a) [it] it (fun i h=>h.IsTupleIter it a i) where
 mem:=by simp
 obj:=fun i h st b hb=>by
  have e:b=it:=by simpa using hb
  subst e;obtain⟨o,e,c,d⟩:=st
  exact⟨o,e,fun v z=>by rw[d]at z;cases z⟩
 keep:=fun i h h' st k=>st.at fun o e=>k it (by simp) o e
 item:=by
  intro X hP hw hK hc i XaR s σ H E I hf st hg;subst hP hw hK;obtain⟨xs,x,hq,hx⟩:=hg;obtain⟨its,rv,p,hz⟩:=I.tuple hq;obtain⟨u,hu,ru⟩:=rv.get hx;obtain⟨f0,f1,f2,f3,f4,f5⟩:=hf it (by simp);refine wpAny_pyNext_tuple_item st (show s.heap.IsTuple a its.toArray from p) (x:=u) (by simpa using hu) fun h' st' sb=>?_;have I1:Qq X XaR σ H { s with heap:=h' }:=I.turned (t':=s.toks) (fun b o hb e=>(sb.2 b hb).trans e) f0 f1 f3 f4 f5;obtain⟨o,e,c,d⟩:=id st'
  exact⟨u,rfl,UX (s:={ s with heap:=h' }) e c d (by decide) ⟨x,H,I1,ru,⟨rfl,fun ys hy=>by rw[I.tuple_inj hy hq];exact hx⟩,st',fun b hb=>(hf b hb).1⟩⟩
 done:=by
  intro X hP hw hK hc i XaR s σ H E I hf st hg;subst hP hw hK;obtain⟨xs,hq,hx⟩:=hg;obtain⟨its,rv,p,hz⟩:=I.tuple hq;obtain⟨f0,f1,f2,f3,f4,f5⟩:=hf it (by simp);have hl:=rv.length;exact wpAny_pyNext_tuple_end (I.ok.hd hc) st (show s.heap.IsTuple a its.toArray from p) (by simp;omega) fun h' eb=>⟨rfl,I.turned (t':=s.toks) (fun b o hb e=>eb b o hb e) f0 f1 f3 f4 f5⟩
 self:=fun _ _ _ _ _ st h=>wpAny_pyIter_tupleiter st h
theorem Az {P:Program}{w:World}{K:W.Frag}{tg:Expr}(it:Addr)(lo:Int)(n:Nat):Turn P w K tg (Itr lo n) [it] it (fun i h=>IsRangeIter h it (lo+(i:Nat)*1) ((n:Int)-(i:Nat)) 1) where
 mem:=by simp
 obj:=fun i h st b hb=>by
  have e:b=it:=by simpa using hb
  subst e;exact⟨_,st,fun v z=>by
   have z':Data.fields _=Data.cell v:=z
   cases z'⟩
 keep:=fun i h h' st k=>k it (by simp) _ st
 item:=by
  intro X hP hw hK hc i XaR s σ H E I hf st hg;subst hP hw hK;obtain⟨f0,f1,f2,f3,f4,f5⟩:=hf it (by simp);have W:=Walks.range (prog:=X.prog) (w:=X.w) (I.ok.hd hc) it lo 1 n;refine W.item i s _ _ hg st fun v h' tk hv st' kk=>?_;obtain⟨t,rfl⟩:=hv;have I1:Qq X XaR σ H { s with heap:=h',toks:=tk }:=I.turned (fun b o hb e=>kk b o (by simpa using hb) e) f0 f1 f3 f4 f5;refine⟨_,rfl,UX (s:={ s with heap:=h',toks:=tk }) (n := "range_iterator") st' rfl rfl (by decide) ⟨.int (lo+i),H,I1,⟨t,?_⟩,⟨rfl,rfl⟩,st',fun b hb=>(hf b hb).1⟩⟩;rw[Int.mul_one]
 done:=by
  intro X hP hw hK hc i XaR s σ H E I hf st hg;subst hP hw hK;obtain⟨f0,f1,f2,f3,f4,f5⟩:=hf it (by simp);exact wpAny_pyNext_range_end (I.ok.hd hc) st (by have:n<=i:=hg;omega) fun h' eb=>⟨rfl,I.turned (t':=s.toks) (fun b o hb e=>eb b o hb e) f0 f1 f3 f4 f5⟩
 self:=fun _ _ _ _ _ st h=>wpAny_pyIter_rangeiter st h
section
variable {X:Cx}{tg:Expr}
def Kc (K:W.Frag)(tl:TE):TI:=fun σ H R=>tl σ H fun x H1=>∃a,x=.ref a/\(∃xs,SqL K H1 a xs)/\R (Itl K a) H1
def Kg (K:W.Frag)(tl:TE):TI:=fun σ H R=>tl σ H fun x H1=>∃a,x=.ref a/\(∃xs,SqT K H1 a xs)/\R (Itt K a) H1
def YY {l:Expr}{tl:TE}(hl:PE X l tl):PI X tg l (Kc X.K tl):=by
 intro XaR s σ H R I h;refine Q6 (hl XaR s σ H _ I h) fun v s1 ⟨x,H1,I1,r1,q1⟩=>?_;obtain⟨a,e,⟨xs,hq⟩,q⟩:=q1;subst e;cases r1;obtain⟨its,rv,p,hz⟩:=I1.list hq;refine wpAny_pyIter_list p.isList ?_;refine⟨s1.heap.objs.size,[s1.heap.objs.size],_,_,H1,rfl,I1.kept (t':=s1.toks) fun b o e=>Xf _ e,Aj a _,⟨_,Xu _ rfl,rfl,rfl⟩,fun b hb=>?_,q⟩;have e:b=s1.heap.objs.size:=by simpa using hb
 subst e;exact I1.fpOk (Xq _) (I1.hok.fresh (Xq _))
def PV {l:Expr}{tl:TE}(hl:PE X l tl):PI X tg l (Kg X.K tl):=by
 intro XaR s σ H R I h;refine Q6 (hl XaR s σ H _ I h) fun v s1 ⟨x,H1,I1,r1,q1⟩=>?_;obtain⟨a,e,⟨xs,hq⟩,q⟩:=q1;subst e;cases r1;obtain⟨its,rv,p,hz⟩:=I1.tuple hq;refine wpAny_pyIter_tuple (show s1.heap.IsTuple a its.toArray from p) ?_;refine⟨s1.heap.objs.size,[s1.heap.objs.size],_,_,H1,rfl,I1.kept (t':=s1.toks) fun b o e=>Xf _ e,El a _,⟨_,Xu _ rfl,rfl,rfl⟩,fun b hb=>?_,q⟩;have e:b=s1.heap.objs.size:=by simpa using hb
 subst e;exact I1.fpOk (Xq _) (I1.hok.fresh (Xq _))
def Rl {XaR:Qc}{σ:St}{H:Hp}{s:Shared}{R:It->Hp->Prop}{E:Qb}{lo hi:Int}{t u v:Tok}{tk:Nat}(I:Qq X XaR σ H s)(h1 : -(2^62)<=lo)(h2:lo<2^62)(h3 : -(2^62)<=hi)(h4:hi<2^62)
 (q:R (Itr lo (hi-lo).toNat) H):wpAny (model X.prog X.w) X.A (pyIter (.ref s.heap.objs.size)) (PIE X XaR σ tg R) E { s with heap:=s.heap.push { cls:=.type "range",data:=.fields #[.int lo t,.int hi u,.int 1 v] },toks:=tk }:=by
 refine wpAny_pyIter_range (IsRange.new ..) (small_one h1 h2 h3 h4) ?_;have I1:Qq X XaR σ H { s with heap:=s.heap.push { cls:=.type "range",data:=.fields #[.int lo t,.int hi u,.int 1 v] },toks:=tk }:=I.kept fun b o e=>Xf _ e
 refine⟨(s.heap.push { cls:=.type "range",data:=.fields #[.int lo t,.int hi u,.int 1 v] }).objs.size,[(s.heap.push { cls:=.type "range",data:=.fields #[.int lo t,.int hi u,.int 1 v] }).objs.size],_,_,H,rfl,
  I1.kept (t':=tk) fun b o e=>Xf _ e,Az _ lo (hi-lo).toNat,?_,fun b hb=>?_,q⟩
 ·have e1:lo+((0:Nat):Int)*1=lo:=by simp
  have e2:(((hi-lo).toNat:Nat):Int)-((0:Nat):Int)=Builtin.Range.rangeSize lo hi 1:=by rw[rangeSize_one];split<;>omega
  show IsRangeIter _ _ (lo+((0:Nat):Int)*1) ((((hi-lo).toNat:Nat):Int)-((0:Nat):Int)) 1;rw[e1,e2];exact Xu _ rfl
 ·have e:b=(s.heap.push { cls:=.type "range",data:=.fields #[.int lo t,.int hi u,.int 1 v] }).objs.size:=by simpa using hb
  subst e;exact I1.fpOk (Xq _) (I1.hok.fresh (Xq _))
def UV (ta:TA):TI:=fun σ H R=>ta σ H fun vs H1=>∃j:Int,vs=[.int j] /\ -(2^62)<=j/\j<2^62/\R (Itr 0 j.toNat) H1
def Kp (ta:TA):TI:=fun σ H R=>ta σ H fun vs H1=>∃i j:Int,vs=[.int i,.int j]/\(-(2^62)<=i/\i<2^62 /\ -(2^62)<=j/\j<2^62)/\R (Itr i (j-i).toNat) H1
def Yl {a:Expr} {ta:TA} {p pos:Pos} (hg:Gl X "range") (hm:X.mg "range"=none) (ha:PA X [a] ta) (hs:starEach [a] X.env=[(false,eval a X.env)]:=by rfl):PI X tg (.Call (.Name "range" p) [a] [] pos) (UV ta):=by
 intro XaR s σ H R I h;refine Call_ (WH I hg hm boot_range (PyProof.Rows.callWith_type1 (Q6 (ha pos XaR s σ H _ I h) fun us s1 ⟨vs,H1,I1,r1,q1⟩=>?_) hs rfl));obtain⟨j,e,q1,q2,q⟩:=q1;subst e;cases r1 with
 |cons r rr =>
   cases rr
   obtain⟨t,rfl⟩:=r;exact call_range_1 (Rl I1 (by omega) (by omega) q1 q2 (by simpa using q))
def RO {a b:Expr} {ta:TA} {p pos:Pos} (hg:Gl X "range") (hm:X.mg "range"=none) (ha:PA X [a,b] ta) (hs:starEach [a,b] X.env=[(false,eval a X.env),(false,eval b X.env)]:=by rfl) (hs2:starEach [b] X.env=[(false,eval b X.env)]:=by rfl) :
 PI X tg (.Call (.Name "range" p) [a,b] [] pos) (Kp ta):=by
 intro XaR s σ H R I h;refine Call_ (WH I hg hm boot_range (PyProof.Rows.callWith_type1 (Q6 (ha pos XaR s σ H _ I h) fun us s1 ⟨vs,H1,I1,r1,q1⟩=>?_) (by rw[hs,hs2]) (by rw[hs2];rfl)));obtain⟨i,j,e,⟨q1,q2,q3,q4⟩,q⟩:=q1;subst e;cases r1 with
 |cons r rr =>
   cases rr with
   |cons r' rr =>
     cases rr
     obtain⟨t,rfl⟩:=r;obtain⟨t',rfl⟩:=r';exact call_range_2 (Rl I1 q1 q2 q3 q4 q)
def Uc (wi:TI)(g:TG)(tb:TS):TS:=fun D σ H=>wi σ H fun J H1=>∃W:Nat->Nat->St->Hp->Prop,(∃m,W 0 m σ H1)/\∀i m σ H,W i m σ H ->
 (J.stop i H/\D.nx σ H)\/(J.go i H/\∃N:St->Hp->Prop,(∀σ' H',N σ' H'->∃m',m'<m/\W (i+1) m' σ' H')/\∀x H',J.yld i H x H'->g x σ H' fun σ2 H2=>tb { D with nx:=N,ct:=N,bk:=D.nx } σ2 H2)
def Uy (fp:Qg)(h:Heap):Qc:=fp.filterMap fun b=>(h.get? b).map fun o=>(b,o)
def U7 {fp:Qg}{h:Heap}{b:Addr}{o:Obj}(hb:b∈fp)(e:h.get? b=some o):(b,o)∈Uy fp h:=List.mem_filterMap.mpr ⟨b,hb,by rw[e];rfl⟩
def Cs {fp:Qg}{h:Heap}{p:Addr×Obj}(hp:p∈Uy fp h):p.1∈fp/\h.get? p.1=some p.2:=by
 obtain⟨b,hb,e⟩:=List.mem_filterMap.mp hp
 cases q:h.get? b with
 |none=>rw[q]at e;cases e
 |some o =>
   rw[q]at e;have e':(b,o)=p:=Option.some.inj e;subst e';exact⟨hb,q⟩
def Qq.pinned {XaR:Qc}{σ:St}{H:Hp}{s:Shared}{fp:Qg}(I:Qq X XaR σ H s)(hf:∀b∈fp,VO X XaR H b)(ho:∀b∈fp,∃o,s.heap.get? b=some o/\∀v,o.data≠.cell v):Qq X (XaR++Uy fp s.heap) σ H s :=
 I.pins_of fun p hp=>(XH.mp hp).elim (fun z=>I.pin p (XB _ z)) fun z=>by
  obtain⟨hb,e⟩:=Cs z;obtain⟨f0,f1,f2,_⟩:=hf p.1 hb;obtain⟨o,e',d⟩:=ho p.1 hb;rw[e]at e';cases e';exact⟨e,f0,f1,f2,d⟩
def Qq.unpinned {XaR pl:Qc}{σ:St}{H:Hp}{s:Shared}(I:Qq X (XaR++pl) σ H s):Qq X XaR σ H s:=I.pins_of fun p hp=>I.pin p (XB _ (JV _ hp))
def Vn {iter:Expr}{body:List Stmt}{wi:TI}{g:TG}{tb:TS}{pos:Pos}(hp:PassesOwn (model X.prog X.w) X.A X.env X.xe)(hc:X.calm=true)(hi:PI X tg iter wi)(hg:PG X tg g)(hb:PSs X body tb)
 (hs:∀x,foldedSetIterable iter X.env x=pure x:=by intro _;rfl):PS X (.For tg iter body [] pos) (Uc wi g tb):=by
 intro XaR s σ H D I h;refine wpAny_For (Q6 (hi XaR s σ H _ I h) fun v s1 h1=>Q6 h1 fun itv s2 h2=>?_) hs;obtain⟨it,fp,tn,J,H2,e,I2,T,st2,f2,W,⟨m0,w0⟩,turn⟩:=h2;subst e;have stat:∀{H':Hp},(∀b∈fp,H' b=none)->∀b∈fp,VO X XaR H' b:=fun hn b hb=>⟨hn b hb,(f2 b hb).2⟩;refine codeAny_forLoop_any (fun n s'=>∃i σ' H',Qq X XaR σ' H' s'/\tn i s'.heap/\(∀b∈fp,H' b=none)/\W i n σ' H') ?_ m0 ⟨0,σ,H2,I2,st2,fun b hb=>(f2 b hb).1,w0⟩
 rintro n s3 ⟨i,σ3,H3,I3,st3,fr3,w3⟩
 rcases turn i n σ3 H3 w3 with ⟨stop,qn⟩|⟨go,N,hN,step⟩
 ·refine wpAny_passesOwn hp (Q6 (T.done X rfl rfl rfl hc i XaR s3 σ3 H3 X.xe I3 (stat fr3) st3 stop) fun r s4 ⟨hr,I4⟩=>?_)
  subst hr;exact wpAny_execs_nil ⟨σ3,H3,I4,qn⟩
 ·refine wpAny_passesOwn hp (Q6 (T.item X rfl rfl rfl hc i XaR s3 σ3 H3 X.xe I3 (stat fr3) st3 go) fun r s4 ⟨u,hr,h4⟩=>?_)
  subst hr;refine wpAny_passesOwn hp (Q6 h4 fun _ s5 ⟨x,H5,I5,r5,y5,st5,fr5⟩=>?_);have I5':=I5.pinned (stat fr5) (T.obj _ _ st5);refine wpAny_passesOwn hp (Q6 (hg _ s5 σ3 H5 x u _ I5' r5 (step x H5 y5)) fun _ s6 ⟨σ6,H6,I6,q6⟩=>?_);refine wpAny_passesOwn hp (Q6 (hb _ s6 σ6 H6 _ I6 q6) fun f s7 q7=>?_)
  have again:∀{σ7:St} {H7:Hp},Qq X (XaR++Uy fp s5.heap) σ7 H7 s7->N σ7 H7->∃m,m<n/\∃i σ' H',Qq X XaR σ' H' s7/\tn i s7.heap/\(∀b∈fp,H' b=none)/\W i m σ' H':=fun{σ7 H7} I7 n7=>by
   obtain⟨m',hm,w7⟩:=hN σ7 H7 n7;refine⟨m',hm,i+1,σ7,H7,I7.unpinned,T.keep _ _ _ st5 fun b hb o e=>(I7.pin (b,o) (XB _ (XB _ (U7 hb e)))).1,fun b hb=>?_,w7⟩;obtain⟨o,e,d⟩:=T.obj _ _ st5 b hb
   exact(I7.pin (b,o) (XB _ (XB _ (U7 hb e)))).2.1
  cases f with
  |next=>obtain⟨σ7,H7,I7,n7⟩:=q7;exact again I7 n7
  |cont=>obtain⟨σ7,H7,I7,n7⟩:=q7;exact again I7 n7
  |brk=>obtain⟨σ7,H7,I7,q7⟩:=q7;exact⟨σ7,H7,I7.unpinned,q7⟩
  |ret v=>obtain⟨x7,σ7,H7,I7,r7,q7⟩:=q7;exact⟨x7,σ7,H7,I7.unpinned,r7,q7⟩
end
abbrev R2:=V->V->Hp->VK->Prop
def OpR (X:Cx)(f:Value->Value->Sem Value)(r:R2):Prop :=
 ∀(XaR:Qc) (s:Shared) (σ:St) (H:Hp) (x y:V) (v u:Value) (Q:VK),Qq X XaR σ H s->QJ x v->QJ y u->r x y H Q ->
  wpAny (model X.prog X.w) X.A (f v u) (EP X XaR σ Q) X.xe s
def UnR (X:Cx)(f:Value->Sem Value)(r:V->Hp->VK->Prop):Prop :=
 ∀(XaR:Qc) (s:Shared) (σ:St) (H:Hp) (x:V) (v:Value) (Q:VK),Qq X XaR σ H s->QJ x v->r x H Q ->
  wpAny (model X.prog X.w) X.A (f v) (EP X XaR σ Q) X.xe s
def Zr (X:Cx)(f:Value)(r:List V->Hp->VK->Prop):Prop :=
 ∀(XaR:Qc) (s:Shared) (σ:St) (H:Hp) (xs:List V) (us:Qe) (Q:VK),Qq X XaR σ H s->QN xs us->r xs H Q ->
  wpAny (model X.prog X.w) X.A (call f us) (EP X XaR σ Q) X.xe s
def SY (X:Cx)(r:V->Hp->(Bool->Hp->Prop)->Prop):Prop :=
 ∀(XaR:Qc) (s:Shared) (σ:St) (H:Hp) (x:V) (v:Value) (Q:Bool->Hp->Prop),Qq X XaR σ H s->QJ x v->r x H Q ->
  wpAny (model X.prog X.w) X.A (truthy v) (TP X XaR σ Q) X.xe s
def tOp (r:R2)(ta tb:TE):TE:=fun σ H Q=>ta σ H fun x H1=>tb σ H1 fun y H2=>r x y H2 Q
def tUn (r:V->Hp->VK->Prop)(ta:TE):TE:=fun σ H Q=>ta σ H fun x H1=>r x H1 Q
def rI (C:Int->Int->Prop)(g:Int->Int->V):R2:=fun x y H Q=>∃i j,x=.int i/\y=.int j/\C i j/\Q (g i j) H
def rI0 (g:Int->Int->V):R2:=fun x y H Q=>∃i j,x=.int i/\y=.int j/\Q (g i j) H
def rU (g:Int->V):V->Hp->VK->Prop:=fun x H Q=>∃i,x=.int i/\Q (g i) H
section
variable {X:Cx}{a b c:Expr}{ta tb tc:TE}{pos:Pos}
def Mh (ha:PE X a ta)(hb:PE X b tb){XaR:Qc}{s:Shared}{σ:St}{H:Hp}{R:V->V->Hp->Prop}(I:Qq X XaR σ H s)
 (h:ta σ H fun x H1=>tb σ H1 fun y H2=>R x y H2) {Q:Qb} {f:Value->Value->Sem Value}
 (hf:∀v u s2 x y H2,Qq X XaR σ H2 s2->QJ x v->QJ y u->R x y H2->wpAny (model X.prog X.w) X.A (f v u) Q X.xe s2) :
 wpAny (model X.prog X.w) X.A (eval a X.env) (fun v b9=>wpAny (model X.prog X.w) X.A (eval b X.env) (fun u b8=>wpAny (model X.prog X.w) X.A (f v u) Q X.xe b8) X.xe b9) X.xe s:=by
 refine Q6 (ha XaR s σ H _ I h) fun v s1 ⟨x,H1,I1,r1,q1⟩=>?_;refine Q6 (hb XaR s1 σ H1 _ I1 q1) fun u s2 ⟨y,H2,I2,r2,q2⟩=>?_;exact hf v u s2 x y H2 I2 r1 r2 q2
def QU {op:Operator}{r:R2}(ho:OpR X (binaryOp op) r)(ha:PE X a ta)(hb:PE X b tb):PE X (.BinOp a op b pos) (tOp r ta tb):=by
 intro XaR s σ H Q I h;exact wpAny_BinOp (Mh ha hb I h fun v u s2 x y H2 I2 rx ry q=>ho XaR s2 σ H2 x y v u Q I2 rx ry q)
def Mu {op:UnaryOp}{r:V->Hp->VK->Prop}(ho:UnR X (unaryOp op) r)(ha:PE X a ta):PE X (.UnaryOp op a pos) (tUn r ta):=by
 intro XaR s σ H Q I h;exact UnaryOp_ (Q6 (ha XaR s σ H _ I h) fun v s1 ⟨x,H1,I1,r1,q1⟩=>ho XaR s1 σ H1 x v Q I1 r1 q1)
def opI {f:Value->Value->Sem Value}{C:Int->Int->Prop}{g:Int->Int->Int}
 (rule:∀(i j:Int) (t u:Tok) (s:Shared) (Q:Qb) (E:Qb),C i j->Q (.int (g i j) s.toks) { s with toks:=s.toks+1 }->wpAny (model X.prog X.w) X.A (f (.int i t) (.int j u)) Q E s) :
 OpR X f (rI C fun i j=>.int (g i j)):=by
 intro XaR s σ H x y v u Q I rx ry h;obtain⟨i,j,rfl,rfl,hc,q⟩:=h;obtain⟨t,rfl⟩:=rx;obtain⟨t',rfl⟩:=ry;exact rule i j t t' s _ _ hc ⟨.int (g i j),H,I.tok _,⟨_,rfl⟩,q⟩
def Mc {f:Value->Value->Sem Value}{g:Int->Int->Int}
 (rule:∀(i j:Int) (t u:Tok) (s:Shared) (Q:Qb) (E:Qb),Q (.int (g i j) s.toks) { s with toks:=s.toks+1 }->wpAny (model X.prog X.w) X.A (f (.int i t) (.int j u)) Q E s) :
 OpR X f (rI0 fun i j=>.int (g i j)):=by
 intro XaR s σ H x y v u Q I rx ry h;obtain⟨i,j,rfl,rfl,q⟩:=h;obtain⟨t,rfl⟩:=rx;obtain⟨t',rfl⟩:=ry;exact rule i j t t' s _ _ ⟨.int (g i j),H,I.tok _,⟨_,rfl⟩,q⟩
def Ma {f:Value->Value->Sem Value}{g:Int->Int->Bool}
 (rule:∀(i j:Int) (t u:Tok) (s:Shared) (Q:Qb) (E:Qb),Q (.bool (g i j)) s->wpAny (model X.prog X.w) X.A (f (.int i t) (.int j u)) Q E s) :
 OpR X f (rI0 fun i j=>.bl (g i j)):=by
 intro XaR s σ H x y v u Q I rx ry h;obtain⟨i,j,rfl,rfl,q⟩:=h;obtain⟨t,rfl⟩:=rx;obtain⟨t',rfl⟩:=ry;exact rule i j t t' s _ _ ⟨.bl (g i j),H,I,rfl,q⟩
def Km (i j:Int):Prop:=0<=j/\j<=1000000/\i.natAbs<2^64
def W6 (i j:Int):Prop:=(-(2^64)<i/\i<2^64)\/(-(2^64)<j/\j<2^64)
def W6.ok {i j:Int}(h:W6 i j):IntMulOk i j:=by
 rcases h with ⟨h1,h2⟩|⟨h1,h2⟩
 ·exact .of_left (intBits_le_64 h1 h2)
 ·exact .of_right (intBits_le_64 h1 h2)
def A8 (k:Nat):(0:Int)<=2^k:=by
 rw[two_pow_cast];exact Int.natCast_nonneg _
def VA:OpR X (binaryOp .Add) (rI0 fun i j=>.int (i+j)):=Mc fun _ _ _ _ _ _ _ q=>add_int q
def Y9:OpR X (binaryOp .Sub) (rI0 fun i j=>.int (i-j)):=Mc fun _ _ _ _ _ _ _ q=>sub_int q
def Uw:OpR X (binaryOp .Mult) (rI W6 fun i j=>.int (i*j)):=opI fun _ _ _ _ _ _ _ hc q=>mul_int q hc.ok
def WF:OpR X (binaryOp .Mod) (rI (fun _ j=>0<j) fun i j=>.int (i%j)):=opI fun i j _ _ _ _ _ hc q=>by
 have h1:(0:Int)<j:=hc;exact mod_int' (by omega) (by rw[Int.fmod_eq_emod_of_nonneg i (by omega)];exact q)
def MC:OpR X (binaryOp .Pow) (rI Km fun i j=>.int (i^j.toNat)):=opI fun _ _ _ _ _ _ _ hc q=>pow_int_small hc.1 hc.2.1 hc.2.2 q
def TH:OpR X (binaryOp .RShift) (rI (fun _ j=>0<=j) fun i j=>.int (i/2^j.toNat)):=opI fun i j _ _ _ _ _ hc q =>
 rshift_int hc (by rw[Int.fdiv_eq_ediv_of_nonneg i (A8 _)];exact q)
def KS:OpR X (binaryOp .BitXor) (rI0 fun i j=>.int (Builtin.bitXor i j)):=Mc fun _ _ _ _ _ _ _ q=>xor_int q
def unI {f:Value->Sem Value}{g:Int->Int}
 (rule:∀(i:Int) (t:Tok) (s:Shared) (Q:Qb) (E:Qb),Q (.int (g i) s.toks) { s with toks:=s.toks+1 }->wpAny (model X.prog X.w) X.A (f (.int i t)) Q E s) :
 UnR X f (rU fun i=>.int (g i)):=by
 intro XaR s σ H x v Q I rx h;obtain⟨i,rfl,q⟩:=h;obtain⟨t,rfl⟩:=rx;exact rule i t s _ _ ⟨.int (g i),H,I.tok _,⟨_,rfl⟩,q⟩
def MN:UnR X (unaryOp .USub) (rU fun i=>.int (-i)):=unI fun _ _ _ _ _ q=>neg_int q
end
def Kj:V->V->Bool
 |.non,.non=>true|.non,.int _=>true|.int _,.non=>true|.non,.bl _=>true|.bl _,.non=>true|.non,.str _=>true|.str _,.non=>true
 |.int _,.int _=>true|.bl _,.bl _=>true|.str _,.str _=>true|.byt _,.byt _=>true
 |.int _,.str _=>true|.str _,.int _=>true|.bl _,.str _=>true|.str _,.bl _=>true
 |_,_=>false
def rEq:R2:=fun x y H Q=>Kj x y=true/\Q (.bl (decide (x=y))) H
def rNe:R2:=fun x y H Q=>Kj x y=true/\Q (.bl (!decide (x=y))) H
def Nx {i j:Int}:decide (V.int i=V.int j)=(i==j):=by
 rw[Bool.eq_iff_iff];simp
def KL {i j:Bool}:decide (V.bl i=V.bl j)=(i==j):=by
 rw[Bool.eq_iff_iff];simp
def Nr {i j:Str}:decide (V.str i=V.str j)=(i==j):=by
 rw[Bool.eq_iff_iff];simp
def NG {i j:Array UInt8}:decide (V.byt i=V.byt j)=(i.toList==j.toList):=by
 rw[Bool.eq_iff_iff];cases i
 cases j
 simp
section
variable {X:Cx}{a b c:Expr}{ta tb tc:TE}{pos:Pos}
def Z9 {XaR:Qc}{σ:St}{H:Hp}{s:Shared}{Q:VK}{k k':Bool}(I:Qq X XaR σ H s)(q:Q (.bl k) H)(e:k=k'):EP X XaR σ Q (.bool k') s:=by
 subst e;exact⟨.bl k,H,I,rfl,q⟩
def GQ:OpR X (compareOp .Eq) rEq:=by
 intro XaR s σ H x y v u Q I rx ry h;obtain⟨hs,q⟩:=h
 cases x with
 |non =>
   cases rx
   cases y with
   |non=>cases ry;exact PySem.EqNone.eq_none_none (Z9 I q (by simp))
   |bl j=>cases ry;exact PySem.EqNone.eq_none_bool (Z9 I q (by simp))
   |int j=>obtain⟨t',rfl⟩:=ry;exact PySem.EqNone.eq_none_int (Z9 I q (by simp))
   |str j=>obtain⟨t',rfl⟩:=ry;exact PySem.EqNone.eq_none_str (Z9 I q (by simp))
   |_=>exact Xl (show false=true from hs) Xs
 |bl i =>
   cases rx
   cases y with
   |non=>cases ry;exact PySem.EqNone.eq_bool_none (Z9 I q (by simp))
   |bl j=>cases ry;exact eq_bool (Z9 I q KL)
   |str j=>obtain⟨t',rfl⟩:=ry;exact PySem.EqMixed.eq_bool_str (Z9 I q (by simp))
   |_=>exact Xl (show false=true from hs) Xs
 |int i =>
   obtain⟨t,rfl⟩:=rx
   cases y with
   |non=>cases ry;exact PySem.EqNone.eq_int_none (Z9 I q (by simp))
   |int j=>obtain⟨t',rfl⟩:=ry;exact eq_int (Z9 I q Nx)
   |str j=>obtain⟨t',rfl⟩:=ry;exact PySem.EqMixed.eq_int_str (Z9 I q (by simp))
   |_=>exact Xl (show false=true from hs) Xs
 |str i =>
   obtain⟨t,rfl⟩:=rx
   cases y with
   |non=>cases ry;exact PySem.EqNone.eq_str_none (Z9 I q (by simp))
   |bl j=>cases ry;exact PySem.EqMixed.eq_str_bool (Z9 I q (by simp))
   |int j=>obtain⟨t',rfl⟩:=ry;exact PySem.EqMixed.eq_str_int (Z9 I q (by simp))
   |str j=>obtain⟨t',rfl⟩:=ry;exact eq_str (Z9 I q Nr)
   |_=>exact Xl (show false=true from hs) Xs
 |byt i =>
   obtain⟨t,rfl⟩:=rx
   cases y with
   |byt j=>obtain⟨t',rfl⟩:=ry;exact W.eq_bytes (Z9 I q NG)
   |_=>exact Xl (show false=true from hs) Xs
 |_=>cases y<;>exact Xl (show false=true from hs) Xs
def GT:OpR X (compareOp .NotEq) rNe:=by
 intro XaR s σ H x y v u Q I rx ry h;obtain⟨hs,q⟩:=h
 cases x with
 |non =>
   cases rx
   cases y with
   |non=>cases ry;exact PySem.EqNone.ne_none_none (Z9 I q (by simp))
   |bl j=>cases ry;exact PySem.EqNone.ne_none_bool (Z9 I q (by simp))
   |int j=>obtain⟨t',rfl⟩:=ry;exact PySem.EqNone.ne_none_int (Z9 I q (by simp))
   |str j=>obtain⟨t',rfl⟩:=ry;exact PySem.EqNone.ne_none_str (Z9 I q (by simp))
   |_=>exact Xl (show false=true from hs) Xs
 |bl i =>
   cases rx
   cases y with
   |non=>cases ry;exact PySem.EqNone.ne_bool_none (Z9 I q (by simp))
   |bl j=>cases ry;exact ne_bool (Z9 I q (XW not KL))
   |str j=>obtain⟨t',rfl⟩:=ry;exact PySem.EqMixed.ne_bool_str (Z9 I q (by simp))
   |_=>exact Xl (show false=true from hs) Xs
 |int i =>
   obtain⟨t,rfl⟩:=rx
   cases y with
   |non=>cases ry;exact PySem.EqNone.ne_int_none (Z9 I q (by simp))
   |int j=>obtain⟨t',rfl⟩:=ry;exact ne_int (Z9 I q (XW not Nx))
   |str j=>obtain⟨t',rfl⟩:=ry;exact PySem.EqMixed.ne_int_str (Z9 I q (by simp))
   |_=>exact Xl (show false=true from hs) Xs
 |str i =>
   obtain⟨t,rfl⟩:=rx
   cases y with
   |non=>cases ry;exact PySem.EqNone.ne_str_none (Z9 I q (by simp))
   |bl j=>cases ry;exact PySem.EqMixed.ne_str_bool (Z9 I q (by simp))
   |int j=>obtain⟨t',rfl⟩:=ry;exact PySem.EqMixed.ne_str_int (Z9 I q (by simp))
   |str j=>obtain⟨t',rfl⟩:=ry;exact ne_str (Z9 I q (XW not Nr))
   |_=>exact Xl (show false=true from hs) Xs
 |byt i =>
   obtain⟨t,rfl⟩:=rx
   cases y with
   |byt j=>obtain⟨t',rfl⟩:=ry;exact W.ne_bytes (Z9 I q (XW not NG))
   |_=>exact Xl (show false=true from hs) Xs
 |_=>cases y<;>exact Xl (show false=true from hs) Xs
def WB:OpR X (compareOp .Lt) (rI0 fun i j=>.bl (decide (i<j))):=Ma fun _ _ _ _ _ _ _ q=>lt_int q
def Ug:OpR X (compareOp .LtE) (rI0 fun i j=>.bl (decide (i<=j))):=Ma fun _ _ _ _ _ _ _ q=>le_int q
def YU:OpR X (compareOp .Gt) (rI0 fun i j=>.bl (decide (j<i))):=Ma fun _ _ _ _ _ _ _ q=>gt_int q
def ZA (b:Expr){op:CmpOp}(h:op≠.In:=by decide)(h2:op≠.NotIn:=by decide):behindInMarks op b=false:=by
 have e1:(op==CmpOp.In)=false:=by cases op<;>first|rfl|exact Xl rfl h
 have e2:(op==CmpOp.NotIn)=false:=by cases op<;>first|rfl|exact Xl rfl h2
 cases b<;>simp[behindInMarks,e1,e2]
def Db {op:CmpOp}{r:R2}(ho:OpR X (compareOp op) r)(ha:PE X a ta)(hb:PE X b tb)(hm:behindInMarks op b=false):PE X (.Compare a [op] [b] pos) (tOp r ta tb):=by
 intro XaR s σ H Q I h;exact wpAny_Compare1 (Mh ha hb I h fun v u s2 x y H2 I2 rx ry q=>ho XaR s2 σ H2 x y v u Q I2 rx ry q) hm
def Mt (t:TE):TT:=fun σ H Q=>t σ H fun x H'=>∃k,x=.bl k/\Q k H'
def ZF {op:CmpOp}{r:R2}(ho:OpR X (compareOp op) r)(ha:PE X a ta)(hb:PE X b tb)(hm:behindInMarks op b=false):PT X (.Compare a [op] [b] pos) (Mt (tOp r ta tb)):=by
 intro XaR s σ H Q I h;refine wpAny_isTrue_Compare1 (Q6 (ha XaR s σ H _ I h) fun v s1 ⟨x,H1,I1,r1,q1⟩=>Q6 (hb XaR s1 σ H1 _ I1 q1) fun u s2 ⟨y,H2,I2,r2,q2⟩ =>
  Q6 (ho XaR s2 σ H2 x y v u _ I2 r1 r2 q2) fun c s3 ⟨z,H3,I3,r3,k,e,q3⟩=>?_) hm
 subst e;cases r3;exact wpAny_truthy_bool ⟨H3,I3,q3⟩
def MT (r r':R2)(ta tb tc:TE):TE:=fun σ H Q=>ta σ H fun x H1=>tb σ H1 fun y H2=>r x y H2 fun z H3=>∃k,z=.bl k /\
 (if k=true then tc σ H3 fun w' H4=>r' y w' H4 Q else Q (.bl false) H3)
def Ra {op op':CmpOp}{r r':R2}(ho:OpR X (compareOp op) r)(ho':OpR X (compareOp op') r')(ha:PE X a ta)(hb:PE X b tb)(hc:PE X c tc)
 (hm:lastMarks [op,op'] [b,c]=false:=by with_unfolding_all rfl):PE X (.Compare a [op,op'] [b,c] pos) (MT r r' ta tb tc):=by
 intro XaR s σ H Q I h;refine Compare_chain (Q6 (ha XaR s σ H _ I h) fun v s1 ⟨x,H1,I1,r1,q1⟩=>chain_link (Q6 (hb XaR s1 σ H1 _ I1 q1) fun u s2 ⟨y,H2,I2,r2,q2⟩ =>
  Q6 (ho XaR s2 σ H2 x y v u _ I2 r1 r2 q2) fun d s3 ⟨z,H3,I3,r3,k,e,q3⟩=>?_)) hm
 subst e;cases r3;refine wpAny_truthy_bool ?_
 cases k with
 |false=>exact ite_ff ⟨.bl false,H3,I3,rfl,q3⟩
 |true=>exact ite_tt (chain_last (Q6 (hc XaR s3 σ H3 _ I3 q3) fun w' s4 ⟨z',H4,I4,r4,q4⟩=>ho' XaR s4 σ H4 y z' u w' Q I4 r2 r4 q4))
def D8 {op op':CmpOp}{r r':R2}(ho:OpR X (compareOp op) r)(ho':OpR X (compareOp op') r')(ha:PE X a ta)(hb:PE X b tb)(hc:PE X c tc)
 (hm:lastMarks [op,op'] [b,c]=false:=by with_unfolding_all rfl):PT X (.Compare a [op,op'] [b,c] pos) (Mt (MT r r' ta tb tc)):=by
 intro XaR s σ H Q I h;refine isTrue_chain (Q6 (ha XaR s σ H _ I h) fun v s1 ⟨x,H1,I1,r1,q1⟩=>test_link (Q6 (hb XaR s1 σ H1 _ I1 q1) fun u s2 ⟨y,H2,I2,r2,q2⟩ =>
  Q6 (ho XaR s2 σ H2 x y v u _ I2 r1 r2 q2) fun d s3 ⟨z,H3,I3,r3,k,e,q3⟩=>?_)) hm
 subst e;cases r3;refine wpAny_truthy_bool ?_
 cases k with
 |false =>
   obtain⟨k',e',q'⟩:=q3
   cases e'
   exact ite_ff ⟨H3,I3,q'⟩
 |true =>
   refine ite_tt (test_last (Q6 (hc XaR s3 σ H3 _ I3 q3) fun w' s4 ⟨z',H4,I4,r4,q4⟩=>Q6 (ho' XaR s4 σ H4 y z' u w' _ I4 r2 r4 q4) fun d' s5 ⟨z2,H5,I5,r5,k2,e2,q5⟩=>?_));subst e2;cases r5;exact wpAny_truthy_bool ⟨H5,I5,q5⟩
def Ml (K:W.Frag)(x:V)(H:Hp)(k:Bool):Prop :=
 match x with
 |.non=>k=false
 |.bl b=>k=b
 |.int i=>k=(i != 0)
 |.str y=>y.length<=sizeLine/\k=((y.length:Int) != 0)
 |.byt y=>y.size<=sizeLine/\k=((y.size:Int) != 0)
 |.ref p=>(∃xs,SqL K H p xs/\k = !xs.isEmpty)\/(∃xs,SqT K H p xs/\k = !xs.isEmpty)\/∃kvs,H p=some (.dK kvs)/\k = !kvs.isEmpty
 |_=>False
def AC {κ:Type}{kvs:List (κ×V)}{vs:List (κ×Value)}(r:KV kvs vs):(!vs.isEmpty) = !kvs.isEmpty:=by
 cases r<;>rfl
def Sv {xs:List V}{its:Qe}(r:QN xs its):(!its.toArray.isEmpty) = !xs.isEmpty:=by
 cases r<;>simp
def Jq:(sizeLine:Nat)<2^63:=by rw[sizeLine_eq];decide
def PL:SY X (fun x H Q=>∃k,Ml X.K x H k/\Q k H):=by
 intro XaR s σ H x v Q I rx h;obtain⟨k,e,q⟩:=h;have hl:=Jq;have hs:sizeLine=16777216:=sizeLine_eq
 cases x with
 |non =>
   cases rx
   have e':k=false:=e;subst e';exact truthy_none ⟨H,I,q⟩
 |bl b =>
   cases rx
   have e':k=b:=e;subst e';exact wpAny_truthy_bool ⟨H,I,q⟩
 |int i =>
   obtain⟨t,rfl⟩:=rx;have e':k=(i != 0):=e;subst e';exact PySem.P.truthy_int ⟨H,I,q⟩
 |str y =>
   obtain⟨t,rfl⟩:=rx;obtain⟨hy,e'⟩:y.length<=sizeLine/\k=((y.length:Int) != 0):=e;subst e';exact PySem.P.truthy_str (by omega) ⟨H,I.tok _,q⟩
 |byt y =>
   obtain⟨t,rfl⟩:=rx;obtain⟨hy,e'⟩:y.size<=sizeLine/\k=((y.size:Int) != 0):=e;subst e';exact W.truthy_bytes (by omega) ⟨H,I.tok _,q⟩
 |ref p =>
   cases rx
   have e':(∃xs,SqL X.K H p xs/\k = !xs.isEmpty)\/(∃xs,SqT X.K H p xs/\k = !xs.isEmpty)\/∃kvs,H p=some (.dK kvs)/\k = !kvs.isEmpty:=e
   rcases e' with ⟨xs,hx,e'⟩|⟨xs,hx,e'⟩|⟨kvs,hx,e'⟩
   ·subst e'
    obtain⟨its,r,pl,hz⟩:=I.list hx;have hlen:=r.length;exact wpAny_truthy_list pl.isList (by simp only[Xv];omega) ⟨H,I.tok _,by rw[Sv r];exact q⟩
   ·subst e'
    obtain⟨its,r,pl,hz⟩:=I.tuple hx;have hlen:=r.length;exact truthy_tuple pl (by simp only[Xv];omega) ⟨H,I.tok _,by rw[Sv r];exact q⟩
   ·subst e'
    obtain⟨hz,hS,vs,r,m⟩:kvs.length<=sizeLine/\(p==sysModules)=false/\∃vs,KV kvs vs/\s.heap.DictOf (Vc X.prog X.w) p vs:=I.hok p _ hx;have hlen:kvs.length=vs.length:=Paired.length r;exact wpAny_truthy_dict hS m (by omega) ⟨H,I.tok _,by rw[AC r];exact q⟩
 |_=>exact(show False from e).elim
def Cc (ha:PE X a ta)(he:∀whole,isTrue a X.env whole=(do let v <- whole;standAt a.pos;holding [v] (truthy v))) :
 PT X a (fun σ H Q=>ta σ H fun x H'=>∃k,Ml X.K x H' k/\Q k H'):=by
 intro XaR s σ H Q I h;exact isTrue_plain (Q6 (ha XaR s σ H _ I h) fun v s1 ⟨x,H1,I1,r1,q1⟩=>PL XaR s1 σ H1 x v Q I1 r1 q1) (he _)
def VP {x:V}{us:Qe}(r:QN [x] us):∃u,us=[u]/\QJ x u:=by
 cases r with
 |cons r1 r2=>cases r2;exact⟨_,rfl,r1⟩
def GP {x y:V}{us:Qe}(r:QN [x,y] us):∃u w',us=[u,w']/\QJ x u/\QJ y w':=by
 cases r with
 |cons r1 r2 =>
   cases r2 with
   |cons r3 r4=>cases r4;exact⟨_,_,rfl,r1,r3⟩
def CY (hc:X.calm=true):Zr X (.builtin "max") (fun xs H Q=>∃i j,xs=[.int i,.int j]/\Q (.int (if j > i then j else i)) H):=by
 intro XaR s σ H xs us Q I r h;obtain⟨i,j,rfl,q⟩:=h;obtain⟨u,w',rfl,⟨t,rfl⟩,⟨t',rfl⟩⟩:=GP r;refine max_two_ints (I.ok.hd hc) fun h' tk k=>⟨_,H,I.kept k,?_,q⟩
 by_cases hj:j > i
 ·rw[Xd hj,Xd hj];exact⟨_,rfl⟩
 ·rw[Xb hj,Xb hj];exact⟨_,rfl⟩
def CO (hc:X.calm=true):Zr X (.builtin "min") (fun xs H Q=>∃i j,xs=[.int i,.int j]/\Q (.int (if j<i then j else i)) H):=by
 intro XaR s σ H xs us Q I r h;obtain⟨i,j,rfl,q⟩:=h;obtain⟨u,w',rfl,⟨t,rfl⟩,⟨t',rfl⟩⟩:=GP r;refine min_two_ints (I.ok.hd hc) fun h' tk k=>⟨_,H,I.kept k,?_,q⟩
 by_cases hj:j<i
 ·rw[Xd hj,Xd hj];exact⟨_,rfl⟩
 ·rw[Xb hj,Xb hj];exact⟨_,rfl⟩
def Cp:Zr X (.type "int") (fun xs H Q=>(∃i,xs=[.int i]/\Q (.int i) H)\/∃k,xs=[.bl k]/\Q (.int (if k then 1 else 0)) H):=by
 intro XaR s σ H xs us Q I r h;rcases h with ⟨i,rfl,q⟩|⟨k,rfl,q⟩
 ·obtain⟨u,rfl,t,rfl⟩:=VP r
  exact call_int_int ⟨.int i,H,I,⟨_,rfl⟩,q⟩
 ·obtain⟨u,rfl,r1⟩:=VP r
  cases r1
  exact call_int_bool ⟨.int (if k then 1 else 0),H,I.tok _,⟨_,rfl⟩,q⟩
end
structure ObjM (h:Heap)(x dx C:Addr)(mA:Str->Qf):Prop where
 obj:h.get? x=some (W.instObj C dx)
 ns:h.Ns1 dx mA
 ne:dx≠x
def RF {h:Heap}{dx:Addr}{mA:Str->Qf}(n:h.Ns1 dx mA):∃od,h.get? dx=some od/\∀name,W.lookIn name od=some (mA name):=by
 obtain⟨o,es,ep,ho,hd,hk,_,hm⟩:=n;refine⟨o,ho,fun name=>?_⟩;have e:=hm name;unfold nsFind findBy at e;rw[<- Array.find?_toList]at e;unfold W.lookIn;rw[hd];dsimp only;split
 ·rename_i y q
  rw[q]at e;exact XW some e
 ·rename_i q
  rw[q]at e;have a:es.toList.any (·.refKey)=false:=by
   rw[List.any_eq_false];intro y hy;obtain⟨z,t,hkey⟩:=hk y (Array.mem_toList_iff.mp hy)
   simp[DictEntry.refKey,hkey]
  have a':¬es.toList.any (·.refKey)=true:=by rw[a];exact Xs
  rw[Xb a'];exact XW some e
def ObjM.look {h:Heap}{x dx C:Addr}{mA:Str->Qf}(I:ObjM h x dx C mA):∃od,W.InstAt h x (W.instObj C dx) C (some od)/\∀name,W.lookIn name od=some (mA name) :=
 let ⟨od,ho,hl⟩:=RF I.ns
 ⟨od,⟨I.obj,rfl,rfl,ho⟩,hl⟩
section
variable {prog:Program}{w:World}{A:Around}{E:Qb}{s:Shared}{K:W.Frag}{x dx C f:Addr}{mA:Str->Qf}{name:Str}{v:Value}
def Ll {expr:Bool}{Q:Qb}(X:K.In s.heap)(I:ObjM s.heap x dx C mA)(hg:W.plainGet K C name=true)(hh:W.hasDictIn K C=true)
 (ha:W.findIn K (.ref C) name=some none) (hv:mA name=some v) (hv':W.handedIn v=true) (h:Q v { s with toks:=s.toks+1 }) :
 wpAny (model prog w) A (getAttr (.ref x) name expr) Q E s:=by
 obtain⟨od,J,hl⟩:=I.look;exact W.get_value X J (W.plainGet_of hg).1 (W.findObj_own hh ha rfl (by rw[hl,hv])) hv' h
def Fv {pl:Sem Bool}{Q:Value×Qe->Shared->Prop}(X:K.In s.heap)(I:ObjM s.heap x dx C mA)(hg:W.plainGet K C name=true)
 (hf:W.findIn K (.ref C) name=some (some (.ref f))) (ht:W.isFn K (.ref f)=true) (hv:mA name=none) (h:Q (.ref f,[.ref x]) s) :
 wpAny (model prog w) A (getMethod (.ref x) name pl) Q E s:=by
 obtain⟨od,J,hl⟩:=I.look;exact W.method_fn X J (W.plainGet_of hg).1 (W.plainGet_of hg).2 hf (beq_iff_eq.mp ht) (by show(W.lookIn name od).map (·.isSome)=some false;rw[hl,hv];rfl) h
def Ts {ns:Qh}{Q:Unit->Shared->Prop}(X:K.In s.heap)(I:ObjM s.heap x dx C mA)
 (hs:W.findIn K (.ref C) "__setattr__"=some (some (.builtin "object.__setattr__"))) (hp:W.plainOver K C=true) (ht:W.takerIn K C name=some none) (hh:W.hasDictIn K C=true)
 (hw:PySem.Within mA ns) (hsz:ns.length<=sizeLine)
 (h:∀h',ObjM h' x dx C (fun y=>if y=name then some v else mA y)->Heap.SameBut dx s.heap h'->Q () { s with heap:=h',toks:=s.toks+2 }) :
 wpAny (model prog w) A (setAttr (.ref x) name v) Q E s:=by
 obtain⟨od,J,hl⟩:=I.look;refine W.set_plain X J hs (W.osa_open (s:={ s with toks:=s.toks+1 }) (r:=none) X J hp ht fun b=>?_);obtain⟨cd,hc,hd'⟩:=W.any_some hh;have hx:s.heap.get? x=some ⟨.ref C,some dx,.plain,#[]⟩:=I.obj;refine Xa (Xk (Xa (Xa (wpAny_loadPart hx (Xa (W.Looks.here (s:={ s with toks:=s.toks+1 }) (W.looks_clsIn X hc) ?_))))));rw[hd'];refine Xk (a:=some dx) (Xa (Xk (Xa ?_)));refine wpAny_nsSet1 (s:={ s with toks:=s.toks+1 }) I.ns fun h' hn2 hs2=>?_;obtain⟨oD,esD,epD,hoD,hdD,hcD⟩:=hn2.count (PySem.Within.cons name v hw);refine Xa (wpAny_lookBehind hoD (by rw[hdD];exact pastItsLine_dict (X7 hcD (by rw[XI];omega))) ?_);exact Xk (h _ ⟨(hs2.2 _ (Ne.symm I.ne)).trans I.obj,hn2,I.ne⟩ hs2)
def LX {R:Result->Shared->Prop}{vs:Qe}{kw:List (Str×Value)}(X:K.In s.heap)(hm:W.makesIn K C=true)
 (hi:W.findIn K (.ref C) "__init__"=some (some (.ref f))) (hf:W.typeIn K (.ref f)=some (.type "function"))
 (h:codeAny (model prog w) (A.under (.builtin "type.__call__" ⟨.ref C::vs,kw⟩)) (.call (.ref f) ⟨.ref (s.heap.objs.size+1)::vs,kw⟩) (W.InitBack (s.heap.objs.size+1) R)
  { s with heap:=(s.heap.push W.emptyDict).push (W.instObj C s.heap.objs.size) }) :
 codeAny (model prog w) A (.call (.ref C) ⟨vs,kw⟩) R s:=by
 obtain⟨hh,g,d,t,os⟩:=s;exact W.make_core (W.makes_of X hm) (W.looks_findIn X hi) (fun self=>W.bind_fn X self hf) (.inl rfl) h
end
def VD (f:Str)(v:V):List (Str×V)->List (Str×V)
 |[]=>[(f,v)]
 |(g,x)::r=>if g=f then (g,v)::r else (g,x)::VD f v r
theorem Sg (f g:Str)(v:V):∀fs:List (Str×V),(VD f v fs).lookup g=if g=f then some v else fs.lookup g
 |[]=>by
   show List.lookup g [(f,v)]=_
   by_cases h:g=f
   ·have hb:(g==f)=true:=beq_iff_eq.mpr h
    simp only[List.lookup,hb,Xd h]
   ·have hb:(g==f)=false:=beq_eq_false_iff_ne.mpr h
    simp only[List.lookup,hb,Xb h]
 |(k,x)::r=>by
   have ih:=Sg f g v r;rw[show VD f v ((k,x)::r)=(if k=f then (k,v)::r else (k,x)::VD f v r) from rfl];by_cases hk:k=f
   ·rw[Xd hk]
    by_cases h:g=k
    ·have hb:(g==k)=true:=beq_iff_eq.mpr h
     simp only[List.lookup,hb,Xd (h.trans hk)]
    ·have hb:(g==k)=false:=beq_eq_false_iff_ne.mpr h
     simp only[List.lookup,hb,Xb (fun e:g=f=>h (e.trans hk.symm))]
   ·rw[Xb hk]
    by_cases h:g=k
    ·have hb:(g==k)=true:=beq_iff_eq.mpr h
     simp only[List.lookup,hb,Xb (fun e:g=f=>hk (h.symm.trans e))]
    ·have hb:(g==k)=false:=beq_eq_false_iff_ne.mpr h
     simp only[List.lookup,hb];exact ih
theorem DS (f:Str)(v:V):∀fs:List (Str×V),f∈(VD f v fs).map (·.1)/\∀g,g∈fs.map (·.1)->g∈(VD f v fs).map (·.1)
 |[]=>⟨by simp[VD],fun g h=>by simp at h⟩
 |(k,x)::r=>by
   obtain⟨i1,i2⟩:=DS f v r;rw[show VD f v ((k,x)::r)=(if k=f then (k,v)::r else (k,x)::VD f v r) from rfl];by_cases hk:k=f
   ·rw[Xd hk]
    subst hk;exact⟨by simp,fun g h=>by simpa using h⟩
   ·rw[Xb hk]
    refine⟨?_,fun g h=>?_⟩
    ·rw[Xy]
     exact Xe _ i1
    ·rw[Xy]at h ⊢
     rcases Xg.mp h with e|e
     ·exact Xg.mpr (.inl e)
     ·exact Xe _ (i2 g e)
theorem S9 (f:Str)(v:V):∀fs:List (Str×V),(VD f v fs).length<=fs.length+1
 |[]=>by simp[VD]
 |(k,x)::r=>by
   have ih:=S9 f v r;rw[show VD f v ((k,x)::r)=(if k=f then (k,v)::r else (k,x)::VD f v r) from rfl];by_cases hk:k=f
   ·rw[Xd hk,XI,XI];omega
   ·rw[Xb hk,XI,XI];omega
def ZI.some_of {v:V}{o:Qf}(r:ZI (some v) o):∃u,o=some u/\QJ v u:=by
 cases o with
 |none=>exact(show False from r).elim
 |some u=>exact⟨u,rfl,r⟩
def ZI.none_of {o:Qf}(r:ZI none o):o=none:=by
 cases o with
 |none=>rfl
 |some u=>exact(show False from r).elim
def R4 {v:V}{u:Value}(r:QJ v u):W.handedIn u=true:=by
 cases v with
 |non=>cases (show u=Value.none from r);rfl
 |bl b=>cases (show u=Value.bool b from r);rfl
 |int i=>obtain⟨t,e⟩:=(show ∃t,u=Value.int i t from r);cases e;rfl
 |str x=>obtain⟨t,e⟩:=(show ∃t,u=Value.str x t from r);cases e;rfl
 |byt b=>obtain⟨t,e⟩:=(show ∃t,u=Value.bytes b t from r);cases e;rfl
 |flt b=>obtain⟨t,e⟩:=(show ∃t,u=Value.float b t from r);cases e;rfl
 |ref a=>cases (show u=Value.ref a from r);rfl
 |ty n=>cases (show u=Value.type n from r);rfl
section
variable {P:Program}{w:World}{H H':Hp}{h h':Heap}{a C dx:Addr}{fs fs':List (Str×V)}
def Dj (hok:HOk P w H h)(e:H a=some (.ins C dx fs)):∃mA,ObjM h a dx C mA/\(∀f,ZI (fs.lookup f) (mA f))/\PySem.Within mA (fs.map (·.1))/\fs.length<=1000/\H dx=some (.own a):=by
 obtain⟨d,z,ne,ob,mA,n,r,q⟩:=(show Z6 P w H h a (.ins C dx fs) from hok a _ e)
 exact⟨mA,⟨ob,n,ne⟩,r,q,z,d⟩
end
structure Cls (K:W.Frag)(C:Addr):Prop where
 pg:W.plainGet K C Str.empty=true
 hd:W.hasDictIn K C=true
 po:W.plainOver K C=true
 sa:W.findIn K (.ref C) "__setattr__"=some (some (.builtin "object.__setattr__"))
def Cls.get {K:W.Frag}{C:Addr}(c:Cls K C)(f:Str):W.plainGet K C f=true:=c.pg
def V3 (K:W.Frag)(C:Addr)(f:Str):Prop:=W.findIn K (.ref C) f=some none
def V3.taker {K:W.Frag}{C:Addr}{f:Str}(n:V3 K C f):W.takerIn K C f=some none:=by
 unfold W.takerIn;rw[show W.findIn K (.ref C) f=some none from n];rfl
structure Meth (K:W.Frag)(C:Addr)(m:Str)(f:Addr):Prop where
 at_:W.findIn K (.ref C) m=some (some (.ref f))
 fn:W.isFn K (.ref f)=true
 kp:W.keepIn K (.ref f)=true
section
variable {X:Cx}{XaR:Qc}{σ:St}{H:Hp}{s:Shared}{a C dx:Addr}{fs:List (Str×V)}{f:Str}{v:V}{A:Around}{E:Qb}
def A6 {b:Bool}{Q:Qb}(I:Qq X XaR σ H s)(e:H a=some (.ins C dx fs))(c:Cls X.K C)(n:V3 X.K C f)(l:fs.lookup f=some v)
 (h:∀u s',Qq X XaR σ H s'->QJ v u->Q u s'):wpAny (model X.prog X.w) A (getAttr (.ref a) f b) Q E s:=by
 obtain⟨mA,O,r,_,_,_⟩:=Dj I.hok e;obtain⟨u,hu,ru⟩:=ZI.some_of (v:=v) (o:=mA f) (by rw[<- l];exact r f);exact Ll I.kIn O (c.get f) c.hd n hu (R4 ru) (h u _ (I.tok _) ru)
def Sm {m:Str}{g:Addr}{pl:Sem Bool}{Q:Value×Qe->Shared->Prop}(I:Qq X XaR σ H s)(e:H a=some (.ins C dx fs))(c:Cls X.K C)(k:Meth X.K C m g)(l:fs.lookup m=none)
 (h:Q (.ref g,[.ref a]) s):wpAny (model X.prog X.w) A (getMethod (.ref a) m pl) Q E s:=by
 obtain⟨mA,O,r,_,_,_⟩:=Dj I.hok e;have hn:mA m=none:=ZI.none_of (by rw[<- l];exact r m);exact Fv I.kIn O (c.get m) k.at_ k.fn hn h
def AA {y:V}{u:Value}{Q:Unit->Shared->Prop}(I:Qq X XaR σ H s)(e:H a=some (.ins C dx fs))(c:Cls X.K C)(n:V3 X.K C f)(hl:fs.length<1000)(ry:QJ y u)
 (h:∀s',Qq X XaR σ (upd H a (.ins C dx (VD f y fs))) s'->Q () s'):wpAny (model X.prog X.w) A (setAttr (.ref a) f u) Q E s:=by
 obtain⟨mA,O,r,wi,_,ho⟩:=Dj I.hok e;have hz:(fs.map (·.1)).length<=sizeLine:=by rw[Xn,sizeLine_eq];omega
 refine Ts I.kIn O c.sa c.po n.taker c.hd wi hz fun h' O' sb=>h _ ?_;have hd:∃o,h'.get? dx=some o:=let ⟨o,_,_,e',_⟩:=O'.ns;⟨o,e'⟩;refine I.write (x:=a) (e:=dx) (by rw[e];exact True.intro) (.inr ho) (fun b q hb z=>(sb.2 b hb).trans z) hd ?_;refine⟨by rw[Qt O.ne];exact ho,?_,O.ne,O'.obj,_,O'.ns,fun g=>?_,fun g hg=>?_⟩
 ·have:=S9 f y fs;omega
 ·show ZI ((VD f y fs).lookup g) (if g=f then some u else mA g)
  rw[Sg];by_cases q:g=f
  ·rw[Xd q,Xd q];exact ry
  ·rw[Xb q,Xb q];exact r g
 ·by_cases q:g=f
  ·rw[q];exact(DS f y fs).1
  ·refine(DS f y fs).2 g (wi g fun z=>hg ?_)
   show(if g=f then some u else mA g)=none
   rw[Xb q];exact z
def Qq.made (I:Qq X XaR σ H s):Qq X XaR σ (upd (upd H s.heap.objs.size (.own (s.heap.objs.size+1))) (s.heap.objs.size+1) (.ins C s.heap.objs.size []))
 { s with heap:=(s.heap.push W.emptyDict).push (W.instObj C s.heap.objs.size) }:=by
 have e1:(s.heap.push W.emptyDict).get? s.heap.objs.size=some W.emptyDict:=Xu s.heap rfl
 have e2:((s.heap.push W.emptyDict).push (W.instObj C s.heap.objs.size)).get? (s.heap.objs.size+1)=some (W.instObj C s.heap.objs.size):=by
  have:=Xu (s.heap.push W.emptyDict) (o:=W.instObj C s.heap.objs.size) rfl
  rwa [YG]at this
 have e3:(s.heap.push W.emptyDict).Ns s.heap.objs.size (fun _=>none):=⟨W.emptyDict,#[],_,e1,rfl,(fun e he=>Xl he (by simp)),fun _=>rfl⟩;have I1:=I.laid (a:=s.heap.objs.size) (o:=.own (s.heap.objs.size+1)) (h':=s.heap.push W.emptyDict) (t':=s.toks) (fun b u q=>Xf _ q) (Xq _) ⟨_,e1⟩;refine I1.laid (a:=s.heap.objs.size+1) (o:=.ins C s.heap.objs.size []) (t':=s.toks) (fun b u q=>Xf _ q) (Nat.le_of_eq (YG _ _)) ?_;have ne:s.heap.objs.size≠s.heap.objs.size+1:=Xm (X9 _);refine⟨by rw[Qt ne,QA],XQ _,ne,e2,fun _=>none,(Heap.Ns1.of_empty e3).at fun o q=>Xf _ q,fun _=>True.intro,fun y hy=>Xl rfl hy⟩
def NB {prog:Program}{w:World}{env:Env}{e:Expr}{f:Str}{pos:Pos}{s:Shared}{Q:Qb}(hb:attributeBase e f env (eval e env)=eval e env)
 (h:wpAny (model prog w) A (eval e env) (fun o b9=>wpAny (model prog w) A (getAttr o f true) Q E b9) E s):wpAny (model prog w) A (eval (.Attribute e f pos) env) Q E s :=
 Attribute_any_ h (by rw[arm_eval_Attribute,hb])
end
def Vs (K:W.Frag)(ta:TE)(f:Str):TE:=fun σ H Q=>ta σ H fun x H1=>∃a C dx fs v,x=.ref a/\H1 a=some (.ins C dx fs)/\Cls K C/\V3 K C f/\fs.lookup f=some v/\Q v H1
def Pb (K:W.Frag)(ta tv:TE)(f:Str):TS:=fun D σ H=>tv σ H fun y H1=>ta σ H1 fun x H2=>∃a C dx fs,x=.ref a/\H2 a=some (.ins C dx fs)/\Cls K C/\V3 K C f/\fs.length<1000 /\
 D.nx σ (upd H2 a (.ins C dx (VD f y fs)))
section
variable {X:Cx}{o e value:Expr}{f:Str}{pos pos' tpos:Pos}{ta tv:TE}
def Zs (he:PE X e ta)(hb:attributeBase e f X.env (eval e X.env)=eval e X.env):PE X (.Attribute e f pos) (Vs X.K ta f):=by
 intro XaR s σ H Q I h;refine NB hb (Q6 (he XaR s σ H _ I h) fun u s1 ⟨x,H1,I1,rx,a,C,dx,fs,v,ex,ea,c,n,l,q⟩=>?_);subst ex;obtain rfl:u=Value.ref a:=rx;exact A6 I1 ea c n l fun u' s2 I2 ru=>⟨v,H1,I2,ru,q⟩
def Wb (ha:PE X o ta)(hv:PE X value tv)(hs:swapsWith value (some (.Attribute o f pos')) pos.line X.env=pure false):PS X (.Assign [.Attribute o f pos'] value pos) (Pb X.K ta tv f):=by
 intro XaR s σ H D I h;refine plainObj_wpAny_Assign_Attribute (Q6 (hv XaR s σ H _ I h) fun u s1 ⟨y,H1,I1,ry,q⟩=>Q6 (ha XaR s1 σ H1 _ I1 q) fun ov s2 ⟨x,H2,I2,rx,a,C,dx,fs,ex,ea,c,n,l,q2⟩=>?_) hs;subst ex;obtain rfl:ov=Value.ref a:=rx;exact AA I2 ea c n l ry fun s3 I3=>⟨σ,_,I3,q2⟩
end
section
variable {X:Cx}{XaR:Qc}{σ:St}{H:Hp}{s:Shared}{A:Around}{E:Qb}{Q:Qb}{c:Value}{b:Bool}
end
structure Room (k:Nat)(A:Around):Prop where
 hd:A.handled=none
 dp:A.depth+3*k+5<recursionLimit
 un:A.units+16*k+200<cLine
def Room.mono {j k:Nat}{A:Around}(r:Room k A)(h:j<=k):Room j A:=⟨r.hd,by have:=r.dp;omega,by have:=r.un;omega⟩
def Room.deeper {k:Nat}{A:Around}(r:Room (k+1) A)(env:Env):Room k (A.deeper env) :=
 ⟨r.hd,by have:=r.dp;show A.depth+1+3*k+5<_;omega,by have:=r.un;show A.units+3+16*k+200<_;omega⟩
def A1 {A:Around} {C:Addr} {us:Qe} {kw:List (Str×Value)}:(A.under (.builtin "type.__call__" ⟨.ref C::us,kw⟩)).depth=A.depth+1:=by
 first|rfl|simp[Around.under,Code.weight,Code.isCreation,Code.isGuard,Code.isCaller,Code.frames,Code.isFrame,guardIds]
def AE {A:Around} {C:Addr} {us:Qe} {kw:List (Str×Value)}:(A.under (.builtin "type.__call__" ⟨.ref C::us,kw⟩)).units=A.units+1:=by
 first|rfl|simp[Around.under,Code.cUnits,Code.frames,Code.isFrame]
def Room.make {k:Nat} {A:Around} (r:Room (k+1) A) (C:Addr) (us:Qe) (kw:List (Str×Value)):Room k (A.under (.builtin "type.__call__" ⟨.ref C::us,kw⟩)) :=
 ⟨r.hd,by have:=r.dp;rw[A1];omega,by have:=r.un;rw[AE];omega⟩
def Room.depth {k:Nat}{A:Around}(r:Room k A):A.depth<recursionLimit:=by have:=r.dp;omega
def Room.units {k:Nat}{A:Around}(r:Room k A):A.units+64<cLine:=by have:=r.un;omega
def QO:TA:=fun _ H Q=>Q [] H
def QE (ta:TE)(tr:TA):TA:=fun σ H Q=>ta σ H fun x H1=>tr σ H1 fun xs H2=>Q (x::xs) H2
section
variable {X:Cx}{e:Expr}{es:Qi}{te:TE}{t:TA}{pos:Pos}
def Qs:PA X [] QO:=fun _ _ _ _ H Q I h=>Calls.spliced_nil ⟨[],H,I,.nil,h⟩
def Qo (ha:PE X e te)(hr:PA X es t)(hs:starEach (e::es) X.env=(false,eval e X.env)::starEach es X.env:=by rfl):PA X (e::es) (QE te t):=by
 intro pos XaR s σ H Q I h;rw[hs];show wpAny _ _ (spliced ((false,eval e X.env)::backTo pos (starEach es X.env))) _ _ s;refine Calls.spliced_cons (Q6 (ha XaR s σ H _ I h) fun u s1 ⟨x,H1,I1,r1,q1⟩=>?_);exact Q6 (hr pos XaR s1 σ H1 _ I1 q1) fun us s2 ⟨xs,H2,I2,r2,q2⟩=>⟨x::xs,H2,I2,.cons r1 r2,q2⟩
def UQ (t:TA):TE:=fun σ H Q=>t σ H fun xs H1=>xs.length<=sizeLine/\∀p,H1 p=none->Q (.ref p) (upd H1 p (.tup xs))
def W5 (t:TA):TE:=fun σ H Q=>t σ H fun xs H1=>xs.length<=sizeLine/\∀p,H1 p=none->Q (.ref p) (upd H1 p (.lst xs))
def WG {x1}(h:PA X es t):PE X (.Tuple es x1 pos) (UQ t):=by
 intro XaR s σ H Q I hq;refine wpAny_Tuple_spliced (Q6 (h pos XaR s σ H _ I hq) fun us s1 ⟨xs,H1,I1,r,z,q⟩=>⟨by rw[<- r.length];exact z,?_⟩);have hf:H1 s1.heap.objs.size=none:=I1.hok.fresh (Xq _);refine⟨.ref s1.heap.objs.size,upd H1 s1.heap.objs.size (.tup xs),I1.laid (t':=s1.toks) (fun b u e=>Xf _ e) (Xq _) ?_,rfl,q _ hf⟩
 exact⟨z,us,r,⟨_,Xu _ rfl,rfl,_,rfl⟩⟩
def Z5 (h:PA X es t):PE X (.List es pos) (W5 t):=by
 intro XaR s σ H Q I hq;refine wpAny_List_spliced (Q6 (h pos XaR s σ H _ I hq) fun us s1 ⟨xs,H1,I1,r,z,q⟩=>⟨by rw[<- r.length];exact z,?_⟩);have hf:H1 s1.heap.objs.size=none:=I1.hok.fresh (Xq _);refine⟨.ref s1.heap.objs.size,upd H1 s1.heap.objs.size (.lst xs),I1.laid (t':=s1.toks) (fun b u e=>Xf _ e) (Xq _) ?_,rfl,q _ hf⟩
 exact⟨z,us,0,r,Xu _ rfl⟩
end
abbrev Sp:=List V->Hp->VK->XK->Prop
abbrev CXT:=List Env->Hp->Shared->XK->Qb
structure Env0 (P:Program)(w:World)(K:W.Frag)(mg:Str->Qf)(base:Heap)(A:Around)(outer:List Env)(s:Shared)(H:Hp):Prop where
 frames:A.frames=some outer
 mod:Mod K mg base
 bs:∀b o,base.get? b=some o->s.heap.get? b=some o/\(H b=none\/∃xs,H b=some (.tup xs))
 bsz:base.objs.size<=s.heap.objs.size
 funs:s.heap.FunFrames base outer
 frf:∀b∈frs outer,H b=none
 hok:HOk P w H s.heap
 bare:AllBare s.gens
def CE (outer:List Env)(P:Program)(w:World)(H:Hp)(s:Shared)(Q:VK)(u:Value)(s':Shared):Prop :=
 ∃v H',s'.os=s.os/\AllBare s'.gens/\Un (frs outer) [] H H' s.heap s'.heap/\HOk P w H' s'.heap/\QJ v u/\Q v H'
def CR (CX:CXT)(outer:List Env)(P:Program)(w:World)(H:Hp)(s:Shared)(Q:VK)(E:XK)(r:Result)(s':Shared):Prop :=
 match r with
 |.ok (.ret u)=>CE outer P w H s Q u s'
 |.ok _=>False
 |.error e=>CX outer H s E e s'
structure FnOk (P:Program)(w:World)(K:W.Frag)(mg:Str->Qf)(base:Heap)(CX:CXT)(k:Nat)(f:Addr)(fd:FuncData)(ps:Qh)(sp:Sp):Prop where
 len:∀vs H Q E,sp vs H Q E->vs.length=ps.length
 run:∀(A:Around) (outer:List Env) (s:Shared) (H:Hp) (args:Args) (us:Qe) (vs:List V) (Q:VK) (E:XK),Room k A->Env0 P w K mg base A outer s H->BindsTo s fd args (ps.zip us)->QN vs us->sp vs H Q E ->
  codeAny (model P w) A (.call (.ref f) args) (CR CX outer P w H s Q E) s
def Env0.make {P:Program}{w:World}{K:W.Frag}{mg:Str->Qf}{base:Heap}{A:Around}{outer:List Env}{s:Shared}{H:Hp}(e:Env0 P w K mg base A outer s H)(C:Addr)(us:Qe)(kw:List (Str×Value)) :
 Env0 P w K mg base (A.under (.builtin "type.__call__" ⟨.ref C::us,kw⟩)) outer s H:=⟨by first|exact e.frames|(simpa [Around.under,Code.envs,Code.isFrame,pushEnvs] using e.frames),e.mod,e.bs,e.bsz,e.funs,e.frf,e.hok,e.bare⟩
section
variable {X:Cx}{XaR:Qc}{σ:St}{H:Hp}{s s':Shared}
def Qq.env0 (I:Qq X XaR σ H s):Env0 X.prog X.w X.K X.mg X.base X.A X.stack s H :=
 ⟨I.ok.frames,I.ok.mod,I.bs,X7 I.ok.bsz I.sz,I.stack,I.stkFree,I.hok,I.bare⟩
def Qq.after {Q:VK}{u:Value}(I:Qq X XaR σ H s)(h:CE X.stack X.prog X.w H s Q u s'):EP X XaR σ Q u s':=by
 obtain⟨v,H',os,bare,un,hok,r,q⟩:=h;obtain⟨hh,g,d,t,os'⟩:=s';obtain rfl:os'=s.os:=os
 exact⟨v,H',I.call (h':=hh) (g':=g) (d':=d) (t':=t) (ch:=[]) un hok bare (fun b z=>Xl z (by simp)),r,q⟩
end
def VI (sp:Sp)(dvs:List V)(E:XK)(t:TA):TE:=fun σ H Q=>t σ H fun vs H1=>sp (vs++dvs) H1 Q E
def VH (C:Addr)(m:Str)(sp:Sp)(dvs:List V)(E:XK)(ta:TE)(t:TA):TE:=fun σ H Q=>ta σ H fun x H1=>∃a dx fs,x=.ref a/\H1 a=some (.ins C dx fs)/\fs.lookup m=none /\
 t σ H1 fun vs H2=>sp (x::(vs++dvs)) H2 Q E
def Um (C:Addr)(sp:Sp)(dvs:List V)(E:XK)(t:TA):TE:=fun σ H Q=>t σ H fun vs H1=>∀x dx,H1 x=none->H1 dx=none->dx≠x ->
 sp (.ref x::(vs++dvs)) (upd (upd H1 dx (.own x)) x (.ins C dx [])) (fun v H2=>v=.non/\Q (.ref x) H2) E
def Vb (K:W.Frag)(fd:FuncData)(ps:Qh)(ds:Qe):Prop :=
 ∀(s:Shared) (us:Qe),K.In s.heap->(us++ds).length=ps.length->BindsTo s fd ⟨us,[]⟩ (ps.zip (us++ds))
def Vb.all {K:W.Frag}{fd:FuncData}{ps:Qh}(h:∀us:Qe,us.length=ps.length->bindArgs fd ⟨us,[]⟩=pure (ps.zip us)):Vb K fd ps []:=fun s us _ hl=>by
 rw[XG]at hl ⊢;exact .of_eq (h us hl)
def Ye (CX:CXT)(X:Cx)(E:XK):Prop := ∀(XaR:Qc) (σ:St) (H:Hp) (s:Shared) (e:Value) (s':Shared),Qq X XaR σ H s->CX X.stack H s E e s'->X.xe e s'
section
variable {X:Cx}{CX:CXT}{k:Nat}{f C:Addr}{fd:FuncData}{ps:Qh}{sp:Sp}{dvs:List V}{ds:Qe}{E:XK}{x m:Str}{p pos apos:Pos}{e o:Expr}{es:Qi}{ta:TE}{t:TA}
def MM {XaR:Qc}{σ:St}{H:Hp}{s:Shared}{Q:VK}{us:Qe}{vs:List V}(F:FnOk X.prog X.w X.K X.mg X.base CX k f fd ps sp)(hr:Room k X.A)(hb:Vb X.K fd ps ds)(hd:QN dvs ds)(hx:Ye CX X E)
 (I:Qq X XaR σ H s) (r:QN vs us) (h:sp (vs++dvs) H Q E):wpAny (model X.prog X.w) X.A (call (.ref f) us) (EP X XaR σ Q) X.xe s:=by
 have r2:QN (vs++dvs) (us++ds):=r.append hd;have hl:(us++ds).length=ps.length:=by rw[<- r2.length];exact F.len _ _ _ _ h
 refine wpAny_call (codeAny_mono (F.run X.A X.stack s H ⟨us,[]⟩ (us++ds) (vs++dvs) Q E hr I.env0 (hb s us I.kIn hl) r2 h) fun r s' hq=>?_)
 cases r with
 |error e=>exact hx XaR σ H s e s' I hq
 |ok fl =>
   cases fl with
   |ret u=>exact I.after hq
   |next=>exact False.elim hq
   |brk=>exact False.elim hq
   |cont=>exact False.elim hq
def NA (F:FnOk X.prog X.w X.K X.mg X.base CX k f fd ps sp)(hr:Room k X.A)(hg:Gl X x)(hm:X.mg x=some (.ref f))(hk:W.keepIn X.K (.ref f)=true)(hb:Vb X.K fd ps ds)(hd:QN dvs ds)(hx:Ye CX X E)
 (ha:PA X (e::es) t) (hdb:(x==("__debug__" : Str))=false:=by decide) (he:starEach (e::es) X.env=(false,eval e X.env)::starEach es X.env:=by rfl) (hpl:(backTo pos (starEach es X.env)).any (·.1)=false:=by rfl) :
 PE X (.Call (.Name x p) (e::es) [] pos) (VI sp dvs E t):=by
 intro XaR s σ H Q I h;refine wpAny_Call_Name_kw (Jw I hg hm ?_ hdb);refine W.callWith_K (h₀:=X.base) I.ok.mod.kin hk (Q6 (ha pos XaR s σ H _ I h) fun us s1 ⟨vs,H1,I1,r,q⟩=>⟨I1.kIn,?_⟩) he hpl;exact MM F hr hb hd hx I1 r q
def MX {pl:Sem Bool}(he:PE X o ta)(c:Cls X.K C)(hm:Meth X.K C m f)(F:FnOk X.prog X.w X.K X.mg X.base CX k f fd ps sp)(hr:Room k X.A)(hb:Vb X.K fd ps ds)(hd:QN dvs ds)(hx:Ye CX X E)(ha:PA X (e::es) t)
 (hst:starEach (e::es) X.env=(false,eval e X.env)::starEach es X.env:=by rfl) (hpl:(backTo pos (starEach es X.env)).any (·.1)=false:=by rfl)
 (ht:eval (.Call (.Attribute o m apos) (e::es) [] pos) X.env=(do
  let ov <- eval o X.env
  standAt apos.atName
  let (f,first) <- holding [ov] (getMethod ov m pl)
  callWith pos f first (backTo pos (starEach (e::es) X.env)) (backToKw pos (keywordEach [] X.env))):=by rfl) :
 PE X (.Call (.Attribute o m apos) (e::es) [] pos) (VH C m sp dvs E ta t):=by
 intro XaR s σ H Q I h;refine W.methodCall_KW (pl:=pl) (Q6 (he XaR s σ H _ I h) fun u s1 ⟨x,H1,I1,rx,a,dx,fs,ex,ea,l,q⟩=>?_) ht;subst ex;obtain rfl:u=Value.ref a:=rx;refine Sm I1 ea c hm l ?_;refine W.callWith_K (first:=[.ref a]) (h₀:=X.base) I.ok.mod.kin hm.kp (Q6 (ha pos XaR s1 σ H1 _ I1 q) fun us s2 ⟨vs,H2,I2,r,q2⟩=>⟨I2.kIn,?_⟩) hst hpl;exact MM (us:=.ref a::us) (vs:=.ref a::vs) F hr hb hd hx I2 (.cons rfl r) q2
def FW {pl:Sem Bool}(he:PE X o ta)(c:Cls X.K C)(hm:Meth X.K C m f)(F:FnOk X.prog X.w X.K X.mg X.base CX k f fd ps sp)(hr:Room k X.A)(hb:Vb X.K fd ps ds)(hd:QN dvs ds)(hx:Ye CX X E)
 (ht:eval (.Call (.Attribute o m apos) [] [] pos) X.env=(do
  let ov <- eval o X.env
  standAt apos.atName
  let (f,first) <- holding [ov] (getMethod ov m pl)
  callWith pos f first (backTo pos (starEach [] X.env)) (backToKw pos (keywordEach [] X.env))):=by rfl) :
 PE X (.Call (.Attribute o m apos) [] [] pos) (VH C m sp dvs E ta QO):=by
 intro XaR s σ H Q I h;refine W.methodCall_KW (pl:=pl) (Q6 (he XaR s σ H _ I h) fun u s1 ⟨x,H1,I1,rx,a,dx,fs,ex,ea,l,q⟩=>?_) ht;subst ex;obtain rfl:u=Value.ref a:=rx;refine Sm I1 ea c hm l ?_;exact W.callWith_K0 (first:=[.ref a]) I1.kIn hm.kp (MM (us:=[.ref a]) (vs:=[.ref a]) F hr hb hd hx I1 (.cons rfl .nil) q)
structure Mk (K:W.Frag)(C f:Addr):Prop where
 makes:W.makesIn K C=true
 init:W.findIn K (.ref C) "__init__"=some (some (.ref f))
 fn:W.isFn K (.ref f)=true
 kp:W.keepIn K (.ref C)=true
def Rq {XaR:Qc}{σ:St}{H:Hp}{s:Shared}{Q:VK}{us:Qe}{vs:List V}(M:Mk X.K C f)(F:FnOk X.prog X.w X.K X.mg X.base CX k f fd ps sp)(hr:Room (k+1) X.A)(hb:Vb X.K fd ps ds)(hd:QN dvs ds)
 (hx:Ye CX X E) (I:Qq X XaR σ H s) (r:QN vs us)
 (h:∀x dx,H x=none->H dx=none->dx≠x->sp (.ref x::(vs++dvs)) (upd (upd H dx (.own x)) x (.ins C dx [])) (fun v H2=>v=.non/\Q (.ref x) H2) E) :
 wpAny (model X.prog X.w) X.A (call (.ref C) us) (EP X XaR σ Q) X.xe s:=by
 have hq:=h (s.heap.objs.size+1) s.heap.objs.size (I.hok.fresh (Jd _)) (I.hok.fresh (Xq _)) (Xm (X9 _));have I2:=Qq.made (C:=C) I;have r2:QN (V.ref (s.heap.objs.size+1)::(vs++dvs)) (Value.ref (s.heap.objs.size+1)::(us++ds)):=.cons rfl (r.append hd)
 have hl:(Value.ref (s.heap.objs.size+1)::us++ds).length=ps.length:=by
  have e:=r2.length;rw[F.len _ _ _ _ hq]at e;exact e.symm
 refine wpAny_call (LX (f:=f) I.kIn M.makes M.init (beq_iff_eq.mp M.fn) (codeAny_mono (F.run _ X.stack _ _ ⟨Value.ref (s.heap.objs.size+1)::us,[]⟩ (Value.ref (s.heap.objs.size+1)::(us++ds)) _ _ E (hr.make C us [])
  (I2.env0.make C us []) (hb _ (Value.ref (s.heap.objs.size+1)::us) I2.kIn hl) r2 hq) fun r s' hq'=>?_))
 cases r with
 |error e=>exact hx XaR σ _ _ e s' I2 hq'
 |ok fl =>
   cases fl with
   |ret u =>
     obtain⟨v,H',I3,rv,ev,q3⟩:=I2.after hq';subst ev;exact⟨rv,⟨V.ref (s.heap.objs.size+1),H',I3,rfl,q3⟩⟩
   |next=>exact False.elim hq'
   |brk=>exact False.elim hq'
   |cont=>exact False.elim hq'
def Tw (M:Mk X.K C f)(F:FnOk X.prog X.w X.K X.mg X.base CX k f fd ps sp)(hr:Room (k+1) X.A)(hg:Gl X x)(hm:X.mg x=some (.ref C))(hb:Vb X.K fd ps ds)(hd:QN dvs ds)(hx:Ye CX X E)
 (ha:PA X (e::es) t) (hdb:(x==("__debug__" : Str))=false:=by decide) (he:starEach (e::es) X.env=(false,eval e X.env)::starEach es X.env:=by rfl) (hpl:(backTo pos (starEach es X.env)).any (·.1)=false:=by rfl) :
 PE X (.Call (.Name x p) (e::es) [] pos) (Um C sp dvs E t):=by
 intro XaR s σ H Q I h;refine wpAny_Call_Name_kw (Jw I hg hm ?_ hdb);refine W.callWith_K (h₀:=X.base) I.ok.mod.kin M.kp (Q6 (ha pos XaR s σ H _ I h) fun us s1 ⟨vs,H1,I1,r,q⟩=>⟨I1.kIn,?_⟩) he hpl;exact Rq M F hr hb hd hx I1 r q
def FD (M:Mk X.K C f)(F:FnOk X.prog X.w X.K X.mg X.base CX k f fd ps sp)(hr:Room (k+1) X.A)(hg:Gl X x)(hm:X.mg x=some (.ref C))(hb:Vb X.K fd ps ds)(hd:QN dvs ds)(hx:Ye CX X E)
 (hdb:(x==("__debug__" : Str))=false:=by decide):PE X (.Call (.Name x p) [] [] pos) (Um C sp dvs E QO):=by
 intro XaR s σ H Q I h;refine wpAny_Call_Name_kw (Jw I hg hm ?_ hdb);exact W.callWith_K0 I.kIn M.kp (Rq (us:=[]) M F hr hb hd hx I .nil h)
end
section
variable {X:Cx}{CX:CXT}{k:Nat}{f C:Addr}{fd:FuncData}{ps ks:Qh}{sp:Sp}{E:XK}{x m:Str}{p pos apos kpos:Pos}{e o:Expr}{es:Qi}{kws:List Keyword}{te ta:TE}{t tk:TA}{nm:Option Str}
variable {g:Qe->Qe->Qe}{gV:List V->List V->List V}
end
structure Qp (N P:Qh)(sc:Scope):Prop where
 kind:sc.kind=.function
 co:sc.isCoroutine=false
 gen:sc.isGenerator=false
 nd:N.Nodup
 pre:N.take P.length=P
 par:∀x∈P,sc.names.lookup x=some .local\/sc.names.lookup x=some .cell
 nofree:∀y∈sc.names,y.2≠.free
theorem R5 {kindOf:Str->Option NameKind}{x:Str}:∀{binds:List (Str×Value)} {m:Str->Qf},(∀v,(x,v)∉binds)->bindL kindOf binds m x=m x
 |[],_,_=>rfl
 |(n,v)::r,m,h=>by
   unfold bindL;rw[R5 fun w hw=>h w (Xe _ hw)]
   split
   ·have:x≠n:=by rintro rfl;exact h v Xc
    simp[this]
   ·rfl
theorem R0 {kindOf:Str->Option NameKind}{x:Str}:∀{binds:List (Str×Value)} {m:Str->Qf},(∀v,(x,v)∉binds)->bindC kindOf binds m x=m x
 |[],_,_=>rfl
 |(n,v)::r,m,h=>by
   unfold bindC;rw[R0 fun w hw=>h w (Xe _ hw)]
   split
   ·rfl
   ·have:x≠n:=by rintro rfl;exact h v Xc
    simp[this]
theorem Sb {kindOf:Str->Option NameKind}{x:Str}{v:Value}:∀{P:Qh} {vs:Qe} {i:Nat} {m:Str->Qf},P.Nodup->P[i]?=some x->vs[i]?=some v->kindOf x=some .local ->
 bindL kindOf (P.zip vs) m x=some v
 |[],_,_,_,_,h,_,_=>by simp at h
 |_::_,[],_,_,_,_,h,_=>by simp at h
 |p::P,w::vs,0,m,nd,h1,h2,hk=>by
   simp at h1 h2;subst h1;subst h2
   show bindL kindOf ((p,w)::P.zip vs) m p=_;unfold bindL;rw[R5 fun v hv=>(XO.mp nd).1 (List.of_mem_zip hv).1,Xd hk]
   simp
 |p::P,w::vs,i+1,m,nd,h1,h2,hk=>by
   show bindL kindOf ((p,w)::P.zip vs) m x=_;unfold bindL;exact Sb (i:=i) (XO.mp nd).2 (by simpa using h1) (by simpa using h2) hk
theorem RK {kindOf:Str->Option NameKind}{x:Str}{v:Value}:∀{P:Qh} {vs:Qe} {i:Nat} {m:Str->Qf},P.Nodup->P[i]?=some x->vs[i]?=some v->kindOf x≠some .local ->
 bindC kindOf (P.zip vs) m x=some v
 |[],_,_,_,_,h,_,_=>by simp at h
 |_::_,[],_,_,_,_,h,_=>by simp at h
 |p::P,w::vs,0,m,nd,h1,h2,hk=>by
   simp at h1 h2;subst h1;subst h2
   show bindC kindOf ((p,w)::P.zip vs) m p=_;unfold bindC;rw[R0 fun v hv=>(XO.mp nd).1 (List.of_mem_zip hv).1,Xb hk]
   simp
 |p::P,w::vs,i+1,m,nd,h1,h2,hk=>by
   show bindC kindOf ((p,w)::P.zip vs) m x=_;unfold bindC;exact RK (i:=i) (XO.mp nd).2 (by simpa using h1) (by simpa using h2) hk
def start (N:Qh)(vs:List V):St:=vs.map some++List.replicate (N.length-vs.length) none
def Vi (CX:CXT)(P:Program)(w:World)(K:W.Frag)(mg:Str->Qf)(base:Heap)(N:Qh)(qual:Str)(scope:Scope)(f:Addr)(cd:Value)(A:Around)(outer:List Env)(s:Shared)(H:Hp)(E:XK):Cx where
 prog:=P
 w:=w
 K:=K
 mg:=mg
 base:=base
 A:=A.deeper (envOfC qual scope s.heap.objs.size f cd)
 N:=N
 s₀:=s
 H₀:=H
 env:=envOfC qual scope s.heap.objs.size f cd
 outer:=outer
 stack:=envOfC qual scope s.heap.objs.size f cd::outer
 ex:=[]
 calm:=true
 fn:=fun _=>true
 pn:=[]
 xe:=fun e s'=>wpAny (model P w) (A.deeper (envOfC qual scope s.heap.objs.size f cd)) (leaving (envOfC qual scope s.heap.objs.size f cd) e) (fun _ s''=>CX outer H s E e s'') (fun e' s''=>CX outer H s E e' s'') s'
def Rc {sc:Scope}{n:Nat}{x:Str}(h:sc.names.lookup x=some .cell):∃c,(cellsFrom n sc.names []).lookup x=some c:=by
 have q:=W.cellsFrom_some sc.names n [] (.inl h);exact Option.isSome_iff_exists.mp q
def AN {CX:CXT}{P:Program}{w:World}{K:W.Frag}{mg:Str->Qf}{base:Heap}{N ps:Qh}{qual:Str}{scope:Scope}{f:Addr}{cd:Value}{A:Around}{outer:List Env}{s s1:Shared}{H:Hp}{E:XK}{us:Qe}{vs:List V}
 (S:Qp N ps scope) (hd:A.handled=none) (e0:Env0 P w K mg base A outer s H) (hl:vs.length=ps.length) (r:QN vs us)
 (x:InCallC s s.heap.objs.size (bindL (envOfC qual scope s.heap.objs.size f cd).kindOf (ps.zip us) fun _=>none) (cellsFrom (s.heap.objs.size+1) scope.names []) (bindC (envOfC qual scope s.heap.objs.size f cd).kindOf (ps.zip us) fun _=>none) s1) :
 Qq (Vi CX P w K mg base N qual scope f cd A outer s H E) [] (start N vs) H s1:=by
 have hpl:ps.length<=N.length:=by have:=XW List.length S.pre;rw[BO]at this;omega
 obtain⟨h1,tk,rfl,hk⟩:=x.done;have noA:∀b:Addr,b∉(Vi CX P w K mg base N qual scope f cd A outer s H E).ex:=fun b z=>Xl (show b∈([]:Qg) from z) (by simp)
 refine⟨⟨e0.mod,S.kind,rfl,rfl,Xq _,fun y z c h1 h2=>?_,fun y hy=>?_,fun y c _ h=>?_,fun _=>hd,Around.frames_deeper e0.frames,.inr ⟨rfl,rfl⟩,fun b z=>Xl z (noA b),e0.bs,e0.bsz,fun b _ _=>noA b,fun b z=>Xl z (noA b),e0.funs,e0.frf⟩,
  rfl,e0.bare,Un.kept hk,⟨_,x.toInCall.ns,fun i y v h1 h2 h3=>?_⟩,fun y c h=>⟨_,x.cell y c h⟩,e0.hok.fresh (Xq _),fun y c h=>?_,fun p hp=>Xl (show p∈([]:Qc) from hp) (by simp),e0.hok.kept hk,?_⟩
 ·exact name_of_addr x.apart (PySem.mem_of_lookup h1) (PySem.mem_of_lookup h2)
 ·have hy:scope.names.lookup y=some .cell\/scope.names.lookup y=some .free:=hy
  rcases hy with hy|hy
  ·exact Rc hy
  ·exact Xl rfl (S.nofree _ (PySem.mem_of_lookup hy))
 ·exact Yn (x.above y c (PySem.mem_of_lookup h))
 ·have hi:i<vs.length:=by
   unfold start at h2;by_cases hi:i<vs.length
   ·exact hi
   ·rw[X3 (by simpa using hi)]at h2
    rw[List.getElem?_replicate]at h2;split at h2<;>cases h2
  have ha:vs[i]?=some v:=by
   unfold start at h2;rw[XF (by simpa using hi),Xt]at h2;cases e:vs[i]? with
   |none=>rw[e]at h2;cases h2
   |some a=>rw[e]at h2;cases h2;rfl
  obtain⟨u,hu,rv⟩:=r.get ha
  have hp:ps[i]?=some y:=by
   rw[<- S.pre,List.getElem?_take_of_lt (by omega)];exact h1
  have ndP:ps.Nodup:=by rw[<- S.pre];exact S.nd.sublist (List.take_sublist _ _)
  refine⟨u,rv,?_⟩
  rcases S.par y (List.mem_of_getElem? hp) with k|k
  ·exact .inl ⟨k,Sb ndP hp hu k⟩
  ·obtain⟨c,e⟩:=Rc (n:=s.heap.objs.size+1) k
   refine .inr ⟨.inl k,c,e,?_⟩;have q:=x.cell y c e;rw[RK ndP hp hu (by show scope.names.lookup y≠_;rw[k];decide)]at q;exact q
 ·exact e0.hok.fresh (Yn (x.above y c (PySem.mem_of_lookup h)))
 ·unfold start
  show _=N.length;rw[Xo,Xn,List.length_replicate];omega
def Kd {CX:CXT}{P:Program}{w:World}{K:W.Frag}{mg:Str->Qf}{base:Heap}{k:Nat}{f:Addr}{name qual:Str}{params:Arguments}{body:List Stmt}{scope:Scope}{dV kV doc pm cdv ct oc:Value}{an od:Qj}
 {osl:Array (Qf)} {N ps:Qh} {sp:Sp} (lk:K.lookup f=some ⟨oc,od,.func (W.fnOf name qual params body scope dV kV doc pm an cdv ct),osl⟩) (hcd:W.codeIn K cdv qual=true) (S:Qp N ps scope)
 (len:∀vs H Q E,sp vs H Q E->vs.length=ps.length)
 (XaS:∀(A:Around) (outer:List Env) (s:Shared) (H:Hp) (vs:List V) (Q:VK) (E:XK),Room k (A.deeper (envOfC qual scope s.heap.objs.size f cdv))->sp vs H Q E ->
  ∃t,PSs (Vi CX P w K mg base N qual scope f cdv A outer s H E) body t/\t { nx:=fun _ H'=>Q .non H',rt:=Q } (start N vs) H) :
 FnOk P w K mg base CX (k+1) f (W.fnOf name qual params body scope dV kV doc pm an cdv ct) ps sp:=by
 refine⟨len,fun A outer s H args us vs Q E hr e0 hb r hsp=>?_⟩;have hl:=len _ _ _ _ hsp;have KX:K.In s.heap:=e0.mod.kin.keeps fun b o e=>(e0.bs b o e).1;have lim:s.heap.NoLimit:=e0.mod.nolimit.keeps fun b o e=>(e0.bs b o e).1
 have hkind:∀y∈ps.zip us,scope.names.lookup y.1=some .local\/(scope.names.lookup y.1=some .cell/\((cellsFrom (s.heap.objs.size+1) scope.names []).lookup y.1).isSome=true):=fun⟨n,v⟩ hy=>by
  rcases S.par n (List.of_mem_zip hy).1 with q|q
  ·exact .inl q
  ·exact .inr ⟨q,W.cellsFrom_some _ _ _ (.inl q)⟩
 refine codeAny_call_function hr.depth (KX _ _ lk) rfl S.co S.gen rfl (W.codeRec_of KX hcd) (hb _ _ _ _ ?_);refine wpAny_newFunctionEnv_cells S.kind hkind fun env he s1 x=>?_;subst he;refine⟨lim.keeps x.toInCall.keep,codeAny_func ?_⟩;obtain⟨t,ht,hq⟩:=XaS A outer s H vs Q E (hr.deeper _) hsp;have I:Qq (Vi CX P w K mg base N qual scope f cdv A outer s H E) [] (start N vs) H s1:=AN S hr.hd e0 hl r x;refine wpAny_mono (ht [] s1 (start N vs) H _ I hq) (fun fl s' hs=>?_) fun e s' hs=>hs
 have fin:∀{σ':St} {H':Hp} {v:V} {u:Value},Qq (Vi CX P w K mg base N qual scope f cdv A outer s H E) [] σ' H' s'->QJ v u->Q v H'->CE outer P w H s Q u s' :=
  fun{σ' H' v u} J rv q=>⟨v,H',J.os,J.bare,J.base,J.hok,rv,q⟩
 cases fl with
 |ret u =>
   obtain⟨v,σ',H',J,rv,q⟩:=hs;exact fin J rv q
 |next =>
   obtain⟨σ',H',J,q⟩:=hs;exact fin (v:=V.non) (u:=Value.none) J rfl q
 |brk =>
   obtain⟨_,_,_,q⟩:=hs;exact False.elim q
 |cont =>
   obtain⟨_,_,_,q⟩:=hs;exact False.elim q
section
variable {X:Cx}{x:Str}{p pos:Pos}{e:Expr}{es:Qi}{t:TA}{id T:String}{r:List V->Hp->VK->Prop}
def tCB (r:List V->Hp->VK->Prop)(t:TA):TE:=fun σ H Q=>t σ H fun vs H1=>r vs H1 Q
def Zg (hc:Zr X (.builtin id) r) (hg:Gl X x) (hm:X.mg x=none) (hv:bootBuiltins x=some (.builtin id)) (ha:PA X (e::es) t) (hn:x ≠ "__name__" := by decide) (hdb:(x==("__debug__" : Str))=false:=by decide)
 (he:starEach (e::es) X.env=(false,eval e X.env)::starEach es X.env:=by rfl) (hpl:(backTo pos (starEach es X.env)).any (·.1)=false:=by rfl):PE X (.Call (.Name x p) (e::es) [] pos) (tCB r t):=by
 intro XaR s σ H Q I h;refine wpAny_Call_Name_kw (WH I hg hm hv ?_ hn hdb);exact PyProof.Rows.callWith_builtin1 (Q6 (ha pos XaR s σ H _ I h) fun us s1 ⟨vs,H1,I1,r1,q1⟩=>hc XaR s1 σ H1 vs us Q I1 r1 q1) he hpl
def WO (hc:Zr X (.type T) r) (hg:Gl X x) (hm:X.mg x=none) (hv:bootBuiltins x=some (.type T)) (ha:PA X (e::es) t) (hn:x ≠ "__name__" := by decide) (hdb:(x==("__debug__" : Str))=false:=by decide)
 (he:starEach (e::es) X.env=(false,eval e X.env)::starEach es X.env:=by rfl) (hpl:(backTo pos (starEach es X.env)).any (·.1)=false:=by rfl):PE X (.Call (.Name x p) (e::es) [] pos) (tCB r t):=by
 intro XaR s σ H Q I h;refine wpAny_Call_Name_kw (WH I hg hm hv ?_ hn hdb);exact PyProof.Rows.callWith_type1 (Q6 (ha pos XaR s σ H _ I h) fun us s1 ⟨vs,H1,I1,r1,q1⟩=>hc XaR s1 σ H1 vs us Q I1 r1 q1) he hpl
end
end L2
namespace HT
open PySem PyProof.Rows
section
open PySem.SeqAt
open PySem.AutoSeq1 (wpAny_loadPart')
open PySem.MeetsSeq PySem.MeetsSeq2 PySem.MeetsSeq3
end
section
variable {prog:Program}{w:World}{A:Around}{E:Qb}{s:Shared}
def sIx (n d:Nat):Option Int->Nat
 |none=>d
 |some v=>if v<0 then (v+(n:Int)).toNat else min v.toNat n
end
end HT
namespace L2
open PySem PySem.Spec PyProof.Rows
def U8 {ns:Ql}:∀{us:Qe},QN (ns.map V.int) us->IntsAre us ns:=by
 induction ns with
 |nil=>intro us r;rw[UK]at r;cases r;exact .nil
 |cons n ns ih =>
   intro us r;rw[Xy]at r;cases r with
   |cons r1 r2 =>
     obtain⟨t,e⟩:=r1;subst e;exact .cons n t (ih r2)
section
variable {X:Cx}{e:Expr}{te:TE}{lo hi:Option Expr}{tl th:TO}{pos p2:Pos}
end
def ixN (n:Nat)(i:Int):Option Nat:=if 0<=i then (if i<n then some i.toNat else none) else if -(n:Int)<=i then some (i+n).toNat else none
def atI {α:Type}(xs:List α)(i:Int):Option α:=(ixN xs.length i).bind fun j=>xs[j]?
def N4 {n:Nat}{i:Int}{j:Nat}(h:ixN n i=some j):seqIndex? i n=some j/\j<n /\ -(n:Int)<=i/\i<n:=by
 unfold ixN at h;by_cases h0:0<=i
 ·rw[Xd h0]at h
  by_cases h1:i<n
  ·rw[Xd h1]at h
   have e:i.toNat=j:=Option.some.inj h
   exact⟨by rw[seqIndex_of h0 h1,e],by omega,by omega,h1⟩
  ·rw[Xb h1]at h;cases h
 ·rw[Xb h0]at h
  by_cases h1 : -(n:Int)<=i
  ·rw[Xd h1]at h
   have e:(i+n).toNat=j:=Option.some.inj h
   exact⟨by rw[seqIndex_neg (by omega) h1,e],by omega,h1,by omega⟩
  ·rw[Xb h1]at h;cases h
def Dl {α:Type}{xs:List α}{i:Int}{v:α}(h:atI xs i=some v):∃j,seqIndex? i xs.length=some j/\xs[j]?=some v/\j<xs.length /\ -(xs.length:Int)<=i/\i<xs.length:=by
 unfold atI at h;cases e:ixN xs.length i with
 |none=>rw[e]at h;cases h
 |some j =>
   rw[e]at h;obtain⟨h1,h2,h3,h4⟩:=N4 e
   exact⟨j,h1,h,h2,h3,h4⟩
def Ya {α:Type}{xs:List α}{j:Nat}{v:α}(h:xs[j]?=some v):atI xs (j:Int)=some v:=by
 have hj:j<xs.length:=(Xh.mp h).1
 have e:ixN xs.length (j:Int)=some j:=by
  unfold ixN;rw[Xd (by omega),Xd (by omega)];simp
 unfold atI;rw[e];exact h
def Lr (b:Expr):Prop := ∀o i,subscripted b false o i=operate [o,i] (getItem o i)
def IxR (X:Cx)(r:R2):Prop :=
 ∀(value slice:Expr) (XaR:Qc) (s:Shared) (σ:St) (H:Hp) (x y:V) (v u:Value) (Q:VK),Qq X XaR σ H s->QJ x v->QJ y u->r x y H Q ->
  subscripted slice false v u=operate [v,u] (getItem v u)->wpAny (model X.prog X.w) X.A (subscriptTail value slice v u) (EP X XaR σ Q) X.xe s
def MtR (X:Cx)(id:String)(r:V->List V->Hp->VK->Prop):Prop :=
 ∀(XaR:Qc) (s:Shared) (σ:St) (H:Hp) (x:V) (xs:List V) (v:Value) (us:Qe) (Q:VK),Qq X XaR σ H s->QJ x v->QN xs us->r x xs H Q ->
  wpAny (model X.prog X.w) X.A (call (.builtin id) (v::us)) (EP X XaR σ Q) X.xe s
section
variable {X:Cx}{a b:Expr}{ta tb:TE}{pos:Pos}
def IxR.or {r r':R2}(h:IxR X r)(h':IxR X r'):IxR X (fun x y H Q=>r x y H Q\/r' x y H Q):=by
 intro value slice XaR s σ H x y v u Q I rx ry q hs;rcases q with q|q
 ·exact h value slice XaR s σ H x y v u Q I rx ry q hs
 ·exact h' value slice XaR s σ H x y v u Q I rx ry q hs
def QH {r:R2}(hr:IxR X r)(ha:PE X a ta)(hb:PE X b tb)(hs:Lr b:=by exact fun _ _=>rfl):PE X (.Subscript a b pos) (tOp r ta tb):=by
 intro XaR s σ H Q I h;exact Subscript_ (Mh ha hb I h fun v u s2 x y H2 I2 rx ry q=>hr a b XaR s2 σ H2 x y v u Q I2 rx ry q (hs _ _))
def HR (K:W.Frag):R2:=fun x y H Q=>∃p xs i v,x=.ref p/\y=.int i/\SqL K H p xs/\atI xs i=some v/\Q v H
def HS (K:W.Frag):R2:=fun x y H Q=>∃p xs i v,x=.ref p/\y=.int i/\SqT K H p xs/\atI xs i=some v/\Q v H
def HQ:R2:=fun x y H Q=>∃z i c,x=.str z/\y=.int i/\z.length<=sizeLine/\atI z.cps.toList i=some c/\Q (.str ⟨#[c]⟩) H
def LP:IxR X (HR X.K):=by
 intro value slice XaR s σ H x y v u Q I rx ry h hs;obtain⟨p,xs,i,z,rfl,rfl,hq,he,q⟩:=h
 cases rx
 obtain⟨t,rfl⟩:=ry;obtain⟨its,r,pl,hz⟩:=I.list hq;obtain⟨j,h1,h2,h3,h4,h5⟩:=Dl he;obtain⟨w,ew,rw'⟩:=r.get h2;have hl:=r.length;have hn:=Jq;have fin:EP X XaR σ Q w s:=⟨z,H,I,rw',q⟩
 by_cases h0:0<=i
 ·have hj:i.toNat=j:=by
   rw[seqIndex_of h0 h5]at h1;exact Option.some.inj h1
  exact item_listR pl.isList h0 (by omega) (by rw[hj];simpa using ew) fin hs
 ·have hj:(i+(its.toArray.size:Int)).toNat=j:=by
   rw[seqIndex_neg (by omega) h4]at h1;rw[Xv,<- hl];exact Option.some.inj h1
  exact subscriptTail_builtinR (x:=w) pl.isList.typeIs slot_list_getitem.lookup
   (wpAny_getItem_list_neg (Q:=fun r s'=>r=w/\EP X XaR σ Q r s') pl.isList (by omega) (by rw[Xv]<;>omega) (by omega) (by rw[hj];simpa using ew) ⟨rfl,fin⟩) hs
def P4:IxR X (HS X.K):=by
 intro value slice XaR s σ H x y v u Q I rx ry h hs;obtain⟨p,xs,i,z,rfl,rfl,hq,he,q⟩:=h
 cases rx
 obtain⟨t,rfl⟩:=ry;obtain⟨its,r,pl,hz⟩:=I.tuple hq;obtain⟨j,h1,h2,h3,h4,h5⟩:=Dl he;obtain⟨w,ew,rw'⟩:=r.get h2;have hl:=r.length;have hn:=Jq;have fin:EP X XaR σ Q w s:=⟨z,H,I,rw',q⟩
 exact subscriptTail_builtinR (x:=w) pl.typeIs slot_tuple_getitem.lookup
  (getItem_tuple (j:=j) (Q:=fun r s'=>r=w/\EP X XaR σ Q r s') pl (by omega) (by omega) (by rw[Xv,<- hl];exact h1) (by simpa using ew) ⟨rfl,fin⟩) hs
def Pn:IxR X HQ:=by
 intro value slice XaR s σ H x y v u Q I rx ry h hs;obtain⟨z,i,c,rfl,rfl,hz,he,q⟩:=h;obtain⟨t,rfl⟩:=rx;obtain⟨t',rfl⟩:=ry;obtain⟨j,h1,h2,h3,h4,h5⟩:=Dl he;have hl:z.cps.toList.length=z.length:=by simp[Str.length]
 rw[hl]at h1 h4 h5;have hn:=Jq
 exact tail_any (typeIs_str s z t) slot_str_getitem.lookup (getItem_str (c:=c) (by
  have e1:decide (i < -(2^63:Int))=false:=XN (by omega);have e2:decide (i>=2^63)=false:=XN (by omega);rw[e1,e2,Bool.or_false]) (by rw[h1];simpa using h2) ⟨.str ⟨#[c]⟩,H,I.tok _,⟨_,rfl⟩,q⟩) hs
def rIx (K:W.Frag):R2:=fun x y H Q=>HR K x y H Q\/HS K x y H Q\/HQ x y H Q
def QI:IxR X (rIx X.K):=LP.or (P4.or Pn)
def AY (its:Qe) (n j:Nat) (u:Value):Obj.mapSeq (·.setIfInBounds j u) { cls:=.type "list",data:=.seq its.toArray n }={ cls:=.type "list",data:=.seq (its.set j u).toArray n }:=by
 simp[Obj.mapSeq]
def Qq.lst {XaR:Qc}{σ:St}{H:Hp}{s:Shared}{p:Addr}{xs:List V}(I:Qq X XaR σ H s)(h:H p=some (.lst xs)) :
 ∃(its:Qe) (n:Nat),QN xs its/\s.heap.get? p=some { cls:=.type "list",data:=.seq its.toArray n }/\xs.length<=sizeLine:=by
 obtain⟨z,its,n,r,e⟩:=I.hok p _ h
 exact⟨its,n,r,e,z⟩
def Qq.lstUpd {XaR:Qc}{σ:St}{H:Hp}{s:Shared}{p:Addr}{xs ys:List V}{its its':Qe}{n n':Nat}{f:Obj->Obj}(I:Qq X XaR σ H s)(h:H p=some (.lst xs))
 (ho:s.heap.get? p=some { cls:=.type "list",data:=.seq its.toArray n }) (hf:f { cls:=.type "list",data:=.seq its.toArray n }={ cls:=.type "list",data:=.seq its'.toArray n' }) (r:QN ys its') (hz:ys.length<=sizeLine) (t:Nat) :
 Qq X XaR σ (upd H p (.lst ys)) { s with heap:=s.heap.update p f,toks:=t }:=by
 have e:(s.heap.update p f).get? p=some { cls:=.type "list",data:=.seq its'.toArray n' }:=by
  rw[XX f ho (by rw[hf]<;>rfl),hf]
 refine I.write (x:=p) (e:=p) (by rw[h];trivial) (.inl rfl) (fun b u hb q=>(XM _ _ (Ne.symm hb)).trans q) ⟨_,e⟩ ?_
 exact⟨hz,its',n',r,e⟩
def UW:V->V->V->Hp->(Hp->Prop)->Prop:=fun o i v H Q=>∃p xs k j,o=.ref p/\i=.int k/\H p=some (.lst xs)/\ixN xs.length k=some j/\Q (upd H p (.lst (xs.set j v)))
def We:Mp X UW:=by
 intro XaR s σ H o i v ov iv u Q I ro ri rv h;obtain⟨p,xs,k,j,rfl,rfl,hp,hj,q⟩:=h
 cases ro
 obtain⟨t,rfl⟩:=ri;obtain⟨its,n,r,ho,hz⟩:=I.lst hp;obtain⟨h1,h2,h3,h4⟩:=N4 hj;have hl:=r.length;have hn:=Jq
 have I':Qq X XaR σ (upd H p (.lst (xs.set j v))) { s with heap:=s.heap.update p (Obj.mapSeq (·.setIfInBounds j u)) } :=
  I.lstUpd hp ho (AY its n j u) (r.set rv j) (by rw[List.length_set];exact hz) s.toks
 by_cases h0:0<=k
 ·have hk:k.toNat=j:=by
   rw[seqIndex_of h0 h4]at h1;exact Option.some.inj h1
  exact W.ki_setAt ho h0 (by omega) (by rw[Xv,<- hl];exact h4) (by rw[hk];exact⟨_,I',q⟩)
 ·have hk:(k+(its.toArray.size:Int)).toNat=j:=by
   rw[seqIndex_neg (by omega) h3]at h1;rw[Xv,<- hl];exact Option.some.inj h1
  exact W.ki_setBack ho (by omega) (by rw[Xv,<- hl];exact h3) (by omega) (by rw[hk];exact⟨_,I',q⟩)
def EV:Zr X (.builtin "len") (fun xs H Q=>∃p ys,xs=[.ref p]/\(SqL X.K H p ys\/SqT X.K H p ys)/\Q (.int ys.length) H):=by
 intro XaR s σ H xs us Q I r h;obtain⟨p,ys,rfl,hq,q⟩:=h;obtain⟨u,rfl,rx⟩:=VP r
 cases rx
 have hn:=Jq
 rcases hq with hq|hq
 ·obtain⟨its,r',pl,hz⟩:=I.list hq
  have hlen:=r'.length;exact Calls.call_len_list pl.isList (by simp only[Xv]<;>omega) ⟨.int ys.length,H,I.tok _,⟨s.toks+1,by rw[Xv,hlen]⟩,q⟩
 ·obtain⟨its,r',pl,hz⟩:=I.tuple hq
  have hlen:=r'.length;exact len_tuple pl (by simp only[Xv]<;>omega) ⟨.int ys.length,H,I.tok _,⟨s.toks+1,by rw[Xv,hlen]⟩,q⟩
def ER:Zr X (.type "list") (fun xs H Q=>∃p ys,xs=[.ref p]/\(SqL X.K H p ys\/SqT X.K H p ys)/\∀l,H l=none->Q (.ref l) (upd H l (.lst ys))):=by
 intro XaR s σ H xs us Q I r h;obtain⟨p,ys,rfl,hq,q⟩:=h;obtain⟨u,rfl,rx⟩:=VP r
 cases rx
 have fin:∀(its:Qe),QN ys its->ys.length<=sizeLine->∀(h':Heap) (c':Nat),(∀b o',s.heap.get? b=some o'->h'.get? b=some o') ->
  h'.get? s.heap.objs.size=some { cls:=.type "list",dict:=none,data:=.seq its.toArray c',slots := #[] }->EP X XaR σ Q (.ref s.heap.objs.size) { s with heap:=h' }:=fun its r' hz h' c' kp e =>
  ⟨.ref s.heap.objs.size,_,I.laid (t':=s.toks) kp (Xq _) (show Z6 X.prog X.w _ h' _ (.lst ys) from⟨hz,its,c',r',e⟩),rfl,q _ (I.hok.fresh (Xq _))⟩
 rcases hq with hq|hq
 ·obtain⟨its,r',pl,hz⟩:=I.list hq
  have hlen:=r'.length;obtain⟨o,ho,hc,n,hd⟩:=pl.isList;exact call_list_seq p (.inl rfl) ho hc hd (fun h' c' kp e=>fin its r' hz h' c' kp e) (by simp only[Xv]<;>omega)
 ·obtain⟨its,r',pl,hz⟩:=I.tuple hq
  have hlen:=r'.length;obtain⟨o,ho,hc,n,hd⟩:=pl;exact call_list_seq p (.inr rfl) ho hc hd (fun h' c' kp e=>fin its r' hz h' c' kp e) (by simp only[Xv]<;>omega)
def EZ:Zr X (.type "tuple") (fun xs H Q=>∃p ys,xs=[.ref p]/\((SqL X.K H p ys/\∀l,H l=none->Q (.ref l) (upd H l (.tup ys)))\/(SqT X.K H p ys/\Q (.ref p) H))):=by
 intro XaR s σ H xs us Q I r h;obtain⟨p,ys,rfl,h⟩:=h;obtain⟨u,rfl,rx⟩:=VP r
 cases rx
 rcases h with ⟨hq,q⟩|⟨hq,q⟩
 ·obtain⟨its,r',pl,hz⟩:=I.list hq
  have hlen:=r'.length;refine call_tuple_list pl.isList (fun h' kp=>?_) (by simp only[Xv]<;>omega);have I1:Qq X XaR σ H { s with heap:=h' }:=I.kept (t':=s.toks) kp
  have I2:Qq X XaR σ (upd H h'.objs.size (.tup ys)) { s with heap:=h'.push { cls:=.type "tuple",data:=.seq its.toArray } } :=
   I1.laid (t':=s.toks) (fun b o e=>Xf _ e) (Xq _) (show Z6 X.prog X.w _ _ _ (.tup ys) from⟨hz,its,r',IsTup.new _ _⟩)
  exact⟨.ref h'.objs.size,_,I2,rfl,q _ (I1.hok.fresh (Xq _))⟩
 ·obtain⟨its,r',pl,hz⟩:=I.tuple hq
  exact call_tuple_same pl ⟨.ref p,H,I,rfl,q⟩
def tyV (K:W.Frag)(T:String)(x:V)(H:Hp):Prop:=match x with
 |.str _=>T = "str"
 |.int _=>T = "int"
 | .ref p=>(T = "list" /\ ∃xs,SqL K H p xs)\/(T = "tuple" /\ ∃o,K.lookup p=some o/\o.cls=.type "tuple" /\ o.dict=none) \/
  (T = "dict" /\ ((∃kvs,H p=some (.dK kvs))\/∃kvs,H p=some (.dT kvs)))\/(T = "set" /\ ∃S n,H p=some (.set S n))
 |_=>False
def PN {XaR:Qc}{σ:St}{H:Hp}{s:Shared}{T:String}{x:V}{v:Value}(I:Qq X XaR σ H s)(r:QJ x v)(ty:tyV X.K T x H) :
 s.TypeIs v T/\∀a,v=.ref a->∃ob,s.heap.get? a=some ob/\ob.dict=none:=by
 cases x with
 |str z =>
   obtain⟨t,rfl⟩:=r
   cases (show T = "str" from ty)
   exact⟨typeIs_str s z t,fun _ e=>nomatch e⟩
 |int i =>
   obtain⟨t,rfl⟩:=r
   cases (show T = "int" from ty)
   exact⟨typeIs_int s i t,fun _ e=>nomatch e⟩
 |ref p =>
   cases r
   rcases ty with ⟨rfl,xs,hq⟩|⟨rfl,o,hk,hc,hd⟩|⟨rfl,hk⟩|⟨rfl,S,n,hk⟩
   ·obtain⟨its,_,pl,_⟩:=I.list hq
    refine⟨pl.isList.typeIs,fun a e=>?_⟩
    cases e
    obtain⟨o,n,e,c,hd,_⟩:=pl
    exact⟨o,e,hd⟩
   ·refine⟨⟨o,I.kIn p o hk,hc⟩,fun a e=>?_⟩
    cases e
    exact⟨o,I.kIn _ o hk,hd⟩
   ·have z:∃o,s.heap.get? p=some o/\o.ExactDict:=by
     rcases hk with ⟨kvs,hk⟩|⟨kvs,hk⟩
     ·obtain⟨_,_,_,_,o,_,_,e,ex,_⟩:=I.hok p _ hk
      exact⟨o,e,ex⟩
     ·obtain⟨_,_,_,_,o,_,_,e,ex,_⟩:=I.hok p _ hk
      exact⟨o,e,ex⟩
    obtain⟨o,e,ex⟩:=z;refine⟨⟨o,e,ex.1⟩,fun a e2=>?_⟩
    cases e2
    exact⟨o,e,ex.2.1⟩
   ·obtain⟨o,_,_,_,e,ex,_⟩:=I.hok p _ hk
    refine⟨⟨o,e,ex.1⟩,fun a e2=>?_⟩
    cases e2
    exact⟨o,e,ex.2.1⟩
 |_=>exact False.elim ty
def tBM (K:W.Frag)(T:String)(r:V->List V->Hp->VK->Prop)(to:TE)(t:TA):TE:=fun σ H Q=>to σ H fun x H1=>tyV K T x H1/\t σ H1 fun xs H2=>r x xs H2 Q
variable {o e:Expr}{es:Qi}{to:TE}{t:TA}{name:Str}{apos cpos:Pos}{T id:String}{r:V->List V->Hp->VK->Prop}
def VX (pa:PlainAttrs T) (slot:Slot T name id) (hty:typeOf (.builtin id)=pure (.type "method_descriptor")) (hm:MtR X id r) (ho:PE X o to) (ha:PA X (e::es) t)
 (hbase:attributeBase o name X.env (eval o X.env)=eval o X.env:=by rfl)
 (hfew:((backTo cpos (starEach (e::es) X.env)).all (fun x => !x.1)&&(backToKw cpos (keywordEach [] X.env)).all (fun x=>x.1.isSome)
  && decide ((e::es).length+([]:List Keyword).length+(if ([]:List Keyword).isEmpty then 0 else 1)<30))=true:=by rfl)
 (hline:(apos.endLine==cpos.line)=true:=by rfl) (hs:starEach (e::es) X.env=(false,eval e X.env)::starEach es X.env:=by rfl) (hplain:(backTo cpos (starEach es X.env)).any (·.1)=false:=by rfl) :
 PE X (.Call (.Attribute o name apos) (e::es) [] cpos) (tBM X.K T r to t):=by
 intro XaR s σ H Q I h;refine wpAny_Call_method_late hbase hfew hline rfl (Q6 (ho XaR s σ H _ I h) fun v s1 ⟨x,H1,I1,r1,ty,q1⟩=>?_);obtain⟨h1,h2⟩:=PN I1 r1 ty;refine⟨T,id,pa,slot,hty,h1,h2,?_⟩;have hA:=ha cpos XaR s1 σ H1 _ I1 q1;rw[hs]at hA ⊢;refine Calls.callWith_builtin (by show(false||(backTo cpos (starEach es X.env)).any (·.1))=false;rw[hplain]<;>rfl) (Calls.evalArgs_plain ?_);exact Q6 hA fun us s2 ⟨vs,H2,I2,r2,q2⟩=>hm XaR s2 σ H2 x vs v us Q I2 r1 r2 q2
end
def MtM (X:Cx)(id:String)(r:V->List V->Hp->VK->Prop):Prop :=
 ∀(XaR:Qc) (s:Shared) (σ:St) (H:Hp) (x:V) (xs:List V) (v:Value) (us:Qe) (Q:VK),Qq X XaR σ H s->QJ x v->QN xs us->r x xs H Q ->
  wpAny (model X.prog X.w) X.A (call (.builtin id) (v::us)) (EP X XaR σ Q) X.xe s
theorem QN.one:∀{x:V} {us:Qe},QN [x] us->∃u,us=[u]/\QJ x u
 |_,_,.cons r .nil=>⟨_,rfl,r⟩
theorem QN.rep {xs:List V}{us:Qe}(h:QN xs us):∀k:Nat,QN (List.replicate k xs).flatten (List.replicate k us).flatten
 |0=>.nil
 |k+1=>by
   rw[Jb,Jb,JS,JS];exact QN.append h (QN.rep h k)
theorem RN (its:Qe):∀(k:Nat) (acc:Qe),
 List.foldl (fun x1 x2=>x1++x2) acc.toArray (List.replicate k its.toArray)=(acc++(List.replicate k its).flatten).toArray
 |0,acc=>by simp
 |k+1,acc=>by
   have e:acc.toArray++its.toArray=(acc++its).toArray:=by simp
   have e2:(acc++its)++(List.replicate k its).flatten=acc++(List.replicate (k+1) its).flatten:=by
    rw[Jb,JS,UE]
   rw[<- e2,<- RN its k (acc++its),<- e,Jb,List.foldl_cons]
section
variable {X:Cx}{XaR:Qc}{σ:St}{H:Hp}{s:Shared}{l b:Addr}{xs ys zs:List V}
def Qq.lset {its its':Qe}{n:Nat}{f:Array Value->Array Value}{t':Nat}(I:Qq X XaR σ H s)(hH:H l=some (.lst xs))
 (e:s.heap.get? l=some { cls:=.type "list",data:=.seq its.toArray n }) (hf:f its.toArray=its'.toArray) (hv:QN ys its') (hz:ys.length<=sizeLine) :
 Qq X XaR σ (upd H l (.lst ys)) { s with heap:=s.heap.update l (Obj.mapSeq f),toks:=t' }:=by
 have q:=PySem.IsL.update e f;rw[hf]at q;refine I.write (x:=l) (e:=l) (by rw[hH];exact trivial) (.inl rfl) (fun b' u hb hu=>(XM s.heap (Obj.mapSeq f) (Ne.symm hb)).trans hu) ⟨_,q⟩ ?_
 exact⟨hz,its',_,hv,q⟩
def Qq.lnew {its:Qe}{t':Nat}(I:Qq X XaR σ H s)(hv:QN ys its)(hz:ys.length<=sizeLine) :
 Qq X XaR σ (upd H s.heap.objs.size (.lst ys)) { s with heap:=s.heap.push { cls:=.type "list",data:=.seq its.toArray },toks:=t' } :=
 I.laid (fun _ _ q=>Xf _ q) (Xq _) ⟨hz,its,0,hv,Xu _ rfl⟩
def Qq.fresh (I:Qq X XaR σ H s):H s.heap.objs.size=none:=I.hok.fresh (Xq _)
def Qq.lstM (I:Qq X XaR σ H s) (hH:H l=some (.lst xs)):xs.length<=sizeLine/\∃(its:Qe) (n:Nat),QN xs its/\xs.length=its.length/\s.heap.get? l=some { cls:=.type "list",data:=.seq its.toArray n }:=by
 obtain⟨z,its,n,r,e⟩:=I.hok l _ hH
 exact⟨z,its,n,r,r.length,e⟩
def CG {n:Nat}(h:n<=sizeLine):Builtin.List.listTooLong n=false:=by
 unfold Builtin.List.listTooLong;exact XN (by omega)
end
section
variable {X:Cx}
def Yb:V->List V->Hp->VK->Prop:=fun x vs H Q=>∃l xs y,x=.ref l/\vs=[y]/\H l=some (.lst xs)/\xs.length<sizeLine/\Q .non (upd H l (.lst (xs++[y])))
def Yf:MtM X "list.append" Yb:=by
 intro XaR s σ H x vs v us Q I rx rv h;obtain⟨l,xs,y,rfl,rfl,hH,hz,q⟩:=h
 cases rx
 obtain⟨u,rfl,ru⟩:=rv.one;obtain⟨z,its,n,r,hl,e⟩:=I.lstM hH;refine call_meets F.slot_list_append ⟨_,e,rfl⟩ F.entry_list_append (F.args_list_append_2 _ _) (PySem.list_append l its.toArray n u (by rw[Xv];omega)) ⟨e,?_⟩;refine⟨.non,_,I.lset (its':=its++[u]) hH e (by simp) (r.append (.cons ru .nil)) ?_,rfl,q⟩;rw[Xo,BV];omega
def GI:R2:=fun x y H Q=>∃l b xs zs,x=.ref l/\y=.ref b/\H l=some (.lst xs)/\H b=some (.lst zs)/\xs.length+zs.length<=sizeLine/\∀p,H p=none->Q (.ref p) (upd H p (.lst (xs++zs)))
def Ba:OpR X (binaryOp .Add) GI:=by
 intro XaR s σ H x y v u Q I rx ry h;obtain⟨l,b,xs,zs,rfl,rfl,hH,hB,hz,q⟩:=h
 cases rx
 cases ry
 obtain⟨z,its,n,r,hl,e⟩:=I.lstM hH;obtain⟨z2,its2,n2,r2,hl2,e2⟩:=I.lstM hB;refine PySem.P.add_list e e2 ?_ (by rw[Xv,Xv];omega);have ea:its.toArray++its2.toArray=(its++its2).toArray:=by simp
 rw[ea];exact⟨.ref _,_,I.lnew (t':=s.toks) (r.append r2) (by rw[Xo];omega),rfl,q _ I.fresh⟩
def Ko:R2:=fun x y H Q=>∃l k xs,x=.ref l/\y=.int k/\H l=some (.lst xs) /\ -(2^63)<=k/\k<2^63/\xs.length*k.toNat<=sizeLine /\
 ∀p,H p=none->Q (.ref p) (upd H p (.lst (List.replicate k.toNat xs).flatten))
def T8 {α:Type}(xs:List α)(k:Nat):(List.replicate k xs).flatten.length=k*xs.length:=by
 induction k with
 |zero=>simp
 |succ k ih=>rw[Jb,JS,Xo,ih,Nat.succ_mul,Nat.add_comm]
def PB:OpR X (binaryOp .Mult) Ko:=by
 intro XaR s σ H x y v u Q I rx ry h;obtain⟨l,k,xs,rfl,rfl,hH,h1,h2,hz,q⟩:=h
 cases rx
 obtain⟨t,rfl⟩:=ry;obtain⟨z,its,n,r,hl,e⟩:=I.lstM hH;have hlen:its.toArray.size*k.toNat<=sizeLine:=by rw[Xv,<- hl];exact hz
 have hcap:¬its.toArray.size*k.toNat > (2^63-1)/8:=by
  have:(sizeLine:Nat)<=(2^63-1)/8:=by decide
  omega
 have hfit:¬(!Builtin.List.listFitsIndex k)=true:=by
  rw[fitsIndex_both h1 h2];exact Xs
 have hlong:¬Builtin.List.listTooLong (its.toArray.size*k.toNat)=true:=by
  rw[CG hlen];exact Xs
 have hnew:List.foldl (fun x1 x2=>x1++x2) #[] (List.replicate (if its.toArray.isEmpty=true then 0 else k.toNat) its.toArray)=(List.replicate k.toNat its).flatten.toArray:=by
  have f0:∀m:Nat,List.foldl (fun x1 x2=>x1++x2) #[] (List.replicate m its.toArray)=(List.replicate m its).flatten.toArray:=fun m=>by
   have:=RN its m []
   rw[List.nil_append]at this;exact this
  rw[f0];cases its with
  |nil=>simp
  |cons a r'=>rw[Xb (by simp)]
 refine wpAny_binaryOp_repeat_ref (T := "list") (U := "int") (by decide) ⟨_,e,rfl⟩ (fun s'=>typeIs_int s' k t) noFill_list_mul F.fills_int_mul F.slot_int_rmul repeat_list F.slot_int_index.lookup
  (call_meets F.slot_int_rmul (typeIs_int s k t) F.entry_int_rmul (F.args_int_rmul_2 _ _) (int___rmul___int_list k t l its.toArray n)
   ⟨e,rfl,⟨_,e,rfl⟩,call_meets F.slot_list_mul ⟨_,e,rfl⟩ F.entry_list_mul (F.args_list_mul_2 _ _) (AutoListH.list___mul___list_int_3 l its.toArray n k t hfit hcap hlong) ⟨e,?_⟩⟩)
 rw[hnew];exact⟨.ref _,_,I.lnew (t':=s.toks) (r.rep k.toNat) (by rw[T8,Nat.mul_comm];exact hz),rfl,q _ I.fresh⟩
end
section
variable {prog:Program}{w:World}{A:Around}{E:Qb}{s:Shared}
end
section
variable {X:Cx}
end
end L2
namespace Att
open PySem PySem.W PySem.Calls PyProof.Rows
def Ik {P:Params}{h:Heap}:∀(ns:Ql) (vs:Qe),WellAll P h vs (ns.map WData.int)->IntsAre vs ns:=by
 intro ns;induction ns with
 |nil =>
   intro vs w;rw[UK]at w;cases w;exact .nil
 |cons n ns ih =>
   intro vs w;rw[Xy]at w;cases w with
   |cons a b =>
     cases a
     exact .cons _ _ (ih _ b)
def Af {l:OpenLaw}{n:Nat}(hn:l.most=some n){P:Params}{h:Heap}{args:List WData}{vals:Qe}
 (hpre:l.row.toRowW.claim.pre args=true) (hwl:WellAll P h vals args) :
 ∃a vs ns,vals=[Value.ref a]/\args=[WData.list (ns.map WData.int)]/\h.get? a=some { cls:=.type "list",data:=.seq vs.toArray }/\IntsAre vs ns/\ns.length<=n:=by
 have hsh:WShape.hasAll [] args [.list .int]=true:=(pre_splitW hpre).1;have hc:l.pre.holds [] { args:=args }=true:=(pre_splitW hpre).2;obtain⟨d,r,rfl,h1,h2⟩:=hasAllW_cons hsh;obtain rfl:=hasAllW_nil h2;obtain⟨xs,rfl,h3⟩:=hasW_list h1;obtain⟨ns,rfl⟩:=items_int h3
 have hlen:ns.length<=n:=by
  unfold OpenLaw.pre at hc;have h4:(WTm.not (.lt (.lit (.int (n:Int))) (.len (.arg 0)))).holds [] { args:=[.list (ns.map .int)] }=true:=by
   have h4:=(holds_andW hc).1;rw[hn]at h4;exact h4
  have h5:=condW_of h4 (w_not (w_lt w_lit (w_len_list (w_arg rfl))));rw[Xn]at h5;refine Nat.le_of_not_lt fun q=>?_;have q':(n:Int)<((ns.length:Nat):Int):=by omega
  first
   |(rw[XS q']at h5;exact Xl h5 (by decide))
   |(simp at h5;omega)
 cases hwl with
 |cons w1 w2 =>
   cases w2
   cases w1 with
   |list ho hall=>exact⟨_,_,ns,rfl,rfl,ho,Ik ns _ hall,hlen⟩
def Ah (l:OpenLaw)(args:List WData):l.row.toRowW.claim.post args (.bool true) args=true :=
 postW_of (r:=l.row.toRowW) (X:=(true==true))
  (show WShape.has [] (.bool true) .bool=true by first|rfl|decide|simp[WShape.has,WShape.arms,WShape.armsAll])
  (show(WTm.eq .res (.lit (.bool true))).value [] { args:=args,res:=some (.bool true),after:=args }=some (.bool (true==true)) from w_eq_bool (w_res rfl) w_lit) rfl
section
variable {prog:Program}{w:World}{A:Around}{E:Qb}{s:Shared}{K:Frag}
end
end Att
namespace L2
open PySem PySem.Spec PyProof.Rows
theorem RI:∀{vs:Qe} {ns:Ql},IntsAre vs ns->QN (ns.map V.int) vs
 |_,_,.nil=>.nil
 |_,_,.cons n t h=>.cons ⟨t,rfl⟩ (RI h)
def SV (H:Hp):Prop := ∀b,H b=none\/∃o xs,H b=some (.frz o (.lst xs))
abbrev KOf {K:W.Frag}{h:Heap}(_:K.In h):W.Frag:=K
def Vw (s:Stmt)(j:Nat):Stmt:=match s with
 |.ClassDef _ _ _ body _ _ _ _ _ _ _=>body.getD j (.Pass ⟨0,0,0,0⟩)
 |_=>.Pass ⟨0,0,0,0⟩
def ZE (s:Stmt):Arguments:=match s with
 |.FunctionDef _ a _ _ _ _ _ _ _ _=>a
 |_=>{ posonlyargs:=[],args:=[],vararg:=none,kwonlyargs:=[],kw_defaults:=[],kwarg:=none,defaults:=[] }
def Zh (s:Stmt):List Stmt:=match s with
 |.FunctionDef _ _ b _ _ _ _ _ _ _=>b
 |_=>[]
def Qy (s:Stmt):Scope:=match s with
 |.FunctionDef _ _ _ _ _ _ sc _ _ _=>sc
 |_=>{ kind:=.function,names:=[],isGenerator:=false,isCoroutine:=false }
abbrev CX0:CXT:=fun _ _ _ _ _ _=>False
abbrev E0:XK:=fun _ _ _=>False
def Jn {X:Cx}:Ye CX0 X E0:=fun _ _ _ _ _ _ _ h=>h.elim
structure Fun (K:W.Frag)(x qual:Str)(st:Stmt)(f:Addr)(fd:FuncData):Prop where
 ex:∃(oc:Value) (od:Qj) (kV doc pm:Value) (an:Qj) (cdv ct:Value) (osl:Array (Qf)),
  fd=W.fnOf x qual (ZE st) (Zh st) (Qy st) .none kV doc pm an cdv ct/\K.lookup f=some ⟨oc,od,.func fd,osl⟩/\W.codeIn K cdv qual=true
 kp:W.keepIn K (.ref f)=true
section
variable {P:Program}{w:World}{K:W.Frag}{mg:Str->Qf}{base:Heap}
def Fun.ok {x qual:Str}{st:Stmt}{f:Addr}{fd:FuncData}{N ps:Qh}{k:Nat}{sp:Sp}(F:Fun K x qual st f fd)(S:Qp N ps (Qy st))(len:∀vs H Q E,sp vs H Q E->vs.length=ps.length)
 (XaS:∀(cdv:Value) (A:Around) (outer:List Env) (s:Shared) (H:Hp) (vs:List V) (Q:VK) (E:XK),Room k (A.deeper (envOfC qual (Qy st) s.heap.objs.size f cdv))->sp vs H Q E ->
  ∃t,PSs (Vi CX0 P w K mg base N qual (Qy st) f cdv A outer s H E).nox (Zh st) t/\t { nx:=fun _ H'=>Q .non H',rt:=Q } (start N vs) H):FnOk P w K mg base CX0 (k+1) f fd ps sp:=by
 obtain⟨oc,od,kV,doc,pm,an,cdv,ct,osl,rfl,lk,hcd⟩:=F.ex;refine Kd lk hcd S len fun A outer s H vs Q E hr hsp=>?_;obtain⟨t,h,q⟩:=XaS cdv A outer s H vs Q E hr hsp
 exact⟨t,h.nox,q⟩
def Fun.binds {x qual:Str}{st:Stmt}{f:Addr}{fd:FuncData}{ps:Qh}(F:Fun K x qual st f fd)
 (h:∀(kV doc pm:Value) (an:Qj) (cdv ct:Value) (us:Qe),us.length=ps.length->bindArgs (W.fnOf x qual (ZE st) (Zh st) (Qy st) .none kV doc pm an cdv ct) ⟨us,[]⟩=pure (ps.zip us)):Vb K fd ps []:=by
 obtain⟨oc,od,kV,doc,pm,an,cdv,ct,osl,rfl,lk,hcd⟩:=F.ex;exact .all (h kV doc pm an cdv ct)
def ZX {x qual:Str}{st:Stmt}{f:Addr}{oc:Value}{od an:Qj}{osl:Array (Qf)}{kV doc pm cdv ct:Value}(l:K.lookup f=some ⟨oc,od,.func (W.fnOf x qual (ZE st) (Zh st) (Qy st) .none kV doc pm an cdv ct),osl⟩)
 (c:W.codeIn K cdv qual=true) (k:W.keepIn K (.ref f)=true):Fun K x qual st f (W.fnOf x qual (ZE st) (Zh st) (Qy st) .none kV doc pm an cdv ct):=⟨⟨oc,od,kV,doc,pm,an,cdv,ct,osl,rfl,l,c⟩,k⟩
end
def YQ {A:Around}{k:Nat}(hr:Room k A):A.units+1<cLine:=BQ (Nat.add_le_add_left (by decide:1<=64) _) hr.units
def Vy {n:Nat}(h:n<=1000):n<sizeLine:=BQ h (by decide)
section
variable {X:Cx}
def pv (i:Nat) {x:Str} {pos:Pos} (hN:X.N[i]?=some x:=by rfl) (hv:Vis X.env.scope x:=by first|exact Or.inl rfl|exact Or.inr Qa|exact Or.inr (Or.inr rfl)) (hd:(x==("__debug__" : Str))=false:=by decide)
 (hcd:(x==("__classdict__" : Str))=false:=by decide):PE X (.Name x pos) (QD i):=KO hN hv hd hcd
end
def Q4 (H H':Hp):Prop := ∀b o,H b=some o->H' b=some o
def Q4.refl (H:Hp):Q4 H H:=fun _ _ h=>h
def Q4.trans {H H1 H2:Hp}(a:Q4 H H1)(b:Q4 H1 H2):Q4 H H2:=fun c o h=>b c o (a c o h)
def Q4.free {H H':Hp}(e:Q4 H H'){l:Addr}(h:H' l=Option.none):H l=Option.none:=by
 cases q:H l with
 |none=>rfl
 |some o =>
   rw[e l o q]at h;cases h
def Q4.seq {K:W.Frag}{H H':Hp}{a:Addr}{xs:List V}(e:Q4 H H')(h:SqL K H a xs):SqL K H' a xs:=by
 rcases h with (h|⟨o,h⟩)|h
 ·exact .inl (.inl (e _ _ h))
 ·exact .inl (.inr ⟨o,e _ _ h⟩)
 ·exact .inr h
end L2
section
namespace L2
open PySem PySem.Spec PyProof.Rows
theorem Ht {env:Env}{F:Str×NameKind->List (Str×Addr)->Sem (ForInStep (List (Str×Addr)))}
 (h1:∀n c cs,env.cells.lookup n=some c->F (n,NameKind.free) cs=pure (.yield ((n,c)::cs)))
 (h2:∀n k cs,k≠NameKind.free->F (n,k) cs=pure (.yield cs)) :
 ∀(l:List (Str×NameKind)) (cs:List (Str×Addr)),(∀p∈l,p.2=NameKind.free->∃c,env.cells.lookup p.1=some c)->(∀x c,cs.lookup x=some c->env.cells.lookup x=some c) ->
  ∃cl,forIn l cs F=pure cl/\(∀x c,cl.lookup x=some c->env.cells.lookup x=some c)/\(∀x c,cs.lookup x=some c->∃c',cl.lookup x=some c')/\∀p∈l,p.2=NameKind.free->∃c,cl.lookup p.1=some c
 |[],cs,_,hc=>⟨cs,by rw[List.forIn_nil],hc,fun x c h=>⟨c,h⟩,fun p hp=>Xl hp (by simp)⟩
 |(n,k)::l,cs,hl,hc=>by
   have hl':∀p∈l,p.2=NameKind.free->∃c,env.cells.lookup p.1=some c:=fun p hp=>hl p (Xe _ hp)
   by_cases hk:k=NameKind.free
   ·subst hk
    obtain⟨c,e⟩:=hl (n,NameKind.free) Xc rfl
    have hc':∀x d,((n,c)::cs).lookup x=some d->env.cells.lookup x=some d:=fun x d q=>by
     cases hx:x==n with
     |true =>
       simp only[XJ,hx]at q;cases q;rw[eq_of_beq hx];exact e
     |false =>
       simp only[XJ,hx]at q;exact hc x d q
    obtain⟨cl,a1,a2,a3,a4⟩:=Ht h1 h2 l ((n,c)::cs) hl' hc'
    have up:∀x d,cs.lookup x=some d->∃d',((n,c)::cs).lookup x=some d':=fun x d q=>by
     cases hx:x==n with
     |true=>exact⟨c,by simp only[XJ,hx]⟩
     |false=>exact⟨d,by simp only[XJ,hx];exact q⟩
    refine⟨cl,by rw[List.forIn_cons,h1 n c cs e,pure_bind];exact a1,a2,fun x d q=>?_,fun p hp hf=>?_⟩
    ·obtain⟨d',q'⟩:=up x d q
     exact a3 x d' q'
    ·rcases Xg.mp hp with rfl|hp
     ·exact a3 n c (by simp only[XJ,beq_self_eq_true])
     ·exact a4 p hp hf
   ·obtain⟨cl,a1,a2,a3,a4⟩:=Ht h1 h2 l cs hl' hc
    refine⟨cl,by rw[List.forIn_cons,h2 n k cs hk,pure_bind];exact a1,a2,a3,fun p hp hf=>?_⟩
    rcases Xg.mp hp with rfl|hp
    ·exact Xl hf hk
    ·exact a4 p hp hf
def Hu {scope:Scope}{env:Env}(h:∀p∈scope.names,p.2=NameKind.free->∃c,env.cells.lookup p.1=some c) :
 ∃cl,closureFor scope env=pure cl/\(∀x c,cl.lookup x=some c->env.cells.lookup x=some c)/\∀p∈scope.names,p.2=NameKind.free->∃c,cl.lookup p.1=some c:=by
 simp only[closureFor];obtain⟨cl,a1,a2,_,a4⟩:=Ht (env:=env) (F:=fun x r=>match x with|(name,kind)=>if (kind==NameKind.free)=true then do let a <- cellOf env name;pure (ForInStep.yield ((name,a)::r)) else pure (ForInStep.yield r))
  (fun n c cs e=>by
   show(if (NameKind.free==NameKind.free)=true then _ else _)=_
   rw[Xd (show(NameKind.free==NameKind.free)=true from rfl)];unfold cellOf;rw[e];rfl)
  (fun n k cs hk=>by
   have:(k==NameKind.free)=false:=by simpa using hk
   show(if (k==NameKind.free)=true then _ else _)=_
   rw[this,Xb Xs]) scope.names [] h (fun x c q=>by simp at q)
 refine⟨cl,?_,a2,a4⟩
 first
  |exact a1
  |(rw[bind_pure];exact a1)
  |(simp only[bind_pure]at *;exact a1)
  |(rw[show(forIn scope.names ([]:List (Str×Addr)) _ >>= fun r=>pure r)=_ from bind_pure _];exact a1)
theorem HN {env:Env}:∀{names:List (Str×NameKind)} {x:Str},names.lookup x=some .free ->
 (names.map fun(n,k)=>if (k==NameKind.free&&env.scope.kind==.function&&env.kindOf n==some .cell) then (n,NameKind.cell) else (n,k)).lookup x=some .cell \/
 (names.map fun(n,k)=>if (k==NameKind.free&&env.scope.kind==.function&&env.kindOf n==some .cell) then (n,NameKind.cell) else (n,k)).lookup x=some .free
 |[],_,h=>by simp at h
 |(n,k)::r,x,h=>by
   have ih:=@HN env r x;show List.lookup x ((if (k==NameKind.free&&env.scope.kind==.function&&env.kindOf n==some .cell)=true then (n,NameKind.cell) else (n,k))::_)=_\/List.lookup x ((if (k==NameKind.free&&env.scope.kind==.function&&env.kindOf n==some .cell)=true then (n,NameKind.cell) else (n,k))::_)=_
   cases hx:x==n with
   |true =>
     simp only[XJ,hx]at h;cases h
     by_cases hc:(NameKind.free==NameKind.free&&env.scope.kind==.function&&env.kindOf n==some .cell)=true
     ·rw[Xd hc];left;simp only[XJ,hx]
     ·rw[Xb hc];right;simp only[XJ,hx]
   |false =>
     simp only[XJ,hx]at h;by_cases hc:(k==NameKind.free&&env.scope.kind==.function&&env.kindOf n==some .cell)=true
     ·rw[Xd hc];simp only[XJ,hx];exact ih h
     ·rw[Xb hc];simp only[XJ,hx];exact ih h
theorem HM {env:Env}:∀{names:List (Str×NameKind)} {x:Str},((names.map fun(n,k)=>if (k==NameKind.free&&env.scope.kind==.function&&env.kindOf n==some .cell) then (n,NameKind.cell) else (n,k)).lookup x=some .cell \/
 (names.map fun(n,k)=>if (k==NameKind.free&&env.scope.kind==.function&&env.kindOf n==some .cell) then (n,NameKind.cell) else (n,k)).lookup x=some .free)->names.lookup x=some .free\/names.lookup x=some .cell
 |[],_,h=>by simp at h
 |(n,k)::r,x,h=>by
   have ih:=@HM env r x;have h:List.lookup x ((if (k==NameKind.free&&env.scope.kind==.function&&env.kindOf n==some .cell)=true then (n,NameKind.cell) else (n,k))::_)=_\/List.lookup x ((if (k==NameKind.free&&env.scope.kind==.function&&env.kindOf n==some .cell)=true then (n,NameKind.cell) else (n,k))::_)=_:=h
   cases hx:x==n with
   |true =>
     simp only[XJ,hx];by_cases hc:(k==NameKind.free&&env.scope.kind==.function&&env.kindOf n==some .cell)=true
     ·have:k=NameKind.free:=by
       rw[WZ,WZ]at hc;exact eq_of_beq hc.1.1
      left;rw[this]
     ·rw[Xb hc]at h
      simp only[XJ,hx]at h;exact h.symm
   |false =>
     simp only[XJ,hx];by_cases hc:(k==NameKind.free&&env.scope.kind==.function&&env.kindOf n==some .cell)=true
     ·rw[Xd hc]at h;simp only[XJ,hx]at h;exact ih h
     ·rw[Xb hc]at h;simp only[XJ,hx]at h;exact ih h
structure CIn where
 cl:List (Str×Addr)
 C:Addr
 s₀:Shared
 H₀:Hp
 ex:Qg
 pn:Qc
def Zx (X:Cx)(N:Qh)(scope:Scope)(c:CIn):Cx where
 prog:=X.prog
 w:=X.w
 K:=X.K
 mg:=X.mg
 base:=X.base
 A:=X.A
 N:=N
 s₀:=c.s₀
 H₀:=c.H₀
 env:=compEnvC scope c.cl c.C X.env
 outer:=X.stack
 stack:=X.stack
 ex:=c.ex
 fn:=fun _=>false
 calm:=X.calm
 pn:=c.pn
 xe:=fun _ _=>False
def ZM (f:List (Option Nat))(σ:St):St:=f.map fun o=>match o with|some i=>(σ[i]?).join|none=>none
structure CompOk (NX:Qh)(sc:Scope)(N:Qh)(f:List (Option Nat))(scope:Scope):Prop where
 kind:scope.kind=.function
 nocell:∀y∈scope.names,y.2≠NameKind.cell
 names:∀y∈scope.names,y.2=NameKind.local->scope.names.lookup y.1=some .local
 free:∀y∈scope.names,y.2=NameKind.free->sc.names.lookup y.1=some .cell\/sc.names.lookup y.1=some .free
 len:f.length=N.length
 ix:∀(j i:Nat),f[j]?=some (some i)->∃x,N[j]?=some x/\NX[i]?=some x/\scope.names.lookup x=some .free
def Gr (NX:Qh)(sc:Scope)(N:Qh)(f:List (Option Nat))(scope:Scope):Bool :=
 decide (scope.kind=.function)&&(scope.names.all fun y=>decide (y.2≠NameKind.cell)&&(decide (y.2≠NameKind.local)||decide (scope.names.lookup y.1=some .local)) &&
  (decide (y.2≠NameKind.free)||decide (sc.names.lookup y.1=some .cell)||decide (sc.names.lookup y.1=some .free)))&&decide (f.length=N.length) &&
 (List.range f.length).all fun j=>match f[j]? with
  | some (some i)=>(match N[j]? with
    |some x=>decide (NX[i]?=some x)&&decide (scope.names.lookup x=some .free)
    |none=>false)
  |_=>true
def DX {NX:Qh}{sc:Scope}{N:Qh}{f:List (Option Nat)}{scope:Scope}(h:Gr NX sc N f scope=true):CompOk NX sc N f scope:=by
 unfold Gr at h;simp only[WZ,List.all_eq_true,decide_eq_true_eq,Bool.or_eq_true]at h;obtain⟨⟨⟨h1,h2⟩,h3⟩,h4⟩:=h;refine⟨h1,fun y hy=>(h2 y hy).1.1,fun y hy e=>?_,fun y hy e=>?_,h3,fun j i e=>?_⟩
 ·rcases(h2 y hy).1.2 with z|z
  ·exact Xl e z
  ·exact z
 ·rcases(h2 y hy).2 with (z|z)|z
  ·exact Xl e z
  ·exact .inl z
  ·exact .inr z
 ·have hj:j<f.length:=(Xh.mp e).1
  have q:=h4 j (XT.mpr hj);rw[e]at q;cases hN:N[j]? with
  |none=>rw[hN]at q;simp at q
  |some x =>
    rw[hN]at q;simp only[WZ,decide_eq_true_eq]at q;exact⟨x,rfl,q.1,q.2⟩
def HU (f:List (Option Nat))(σ σ':St):Prop:=σ'.length=σ.length/\∀(i j:Nat),f[i]?=some (some j)->σ'[i]?=σ[i]?
structure TgOk (f:List (Option Nat))(g:TG):Prop where
 keep:∀x σ H Q,g x σ H Q->g x σ H fun σ2 H2=>HU f σ σ2/\Q σ2 H2
 mono:∀x σ H Q Q',(∀σ H,Q σ H->Q' σ H)->g x σ H Q->g x σ H Q'
structure TgsOk (f:List (Option Nat))(g:TGs):Prop where
 keep:∀xs σ H Q,g xs σ H Q->g xs σ H fun σ2 H2=>HU f σ σ2/\Q σ2 H2
 mono:∀xs σ H Q Q',(∀σ H,Q σ H->Q' σ H)->g xs σ H Q->g xs σ H Q'
theorem Yk {f:List (Option Nat)}{j:Nat}(h:f[j]?=some none:=by rfl):TgOk f (ZW j) where
 keep:=fun x σ H Q q=>⟨⟨List.length_set ..,fun i k e=>Xw (by rintro rfl;rw[h]at e;cases e)⟩,q⟩
 mono:=fun x σ H Q Q' m q=>m _ _ q
theorem LM {f:List (Option Nat)}:TgsOk f Mg where
 keep:=fun xs σ H Q ⟨e,q⟩=>⟨e,⟨rfl,fun _ _ _=>rfl⟩,q⟩
 mono:=fun xs σ H Q Q' m ⟨e,q⟩=>⟨e,m _ _ q⟩
theorem NW {f:List (Option Nat)}{t:TG}{u:TGs}(h1:TgOk f t)(h2:TgsOk f u):TgsOk f (Mr t u) where
 keep:=fun xs σ H Q ⟨v,r,e,q⟩=>⟨v,r,e,h1.mono _ _ _ _ _ (fun σ1 H1 z=>h2.mono _ _ _ _ _ (fun σ2 H2 y=>⟨⟨y.1.1.trans z.1.1,fun i j ef=>(y.1.2 i j ef).trans (z.1.2 i j ef)⟩,y.2⟩) (h2.keep _ _ _ _ z.2)) (h1.keep _ _ _ _ q)⟩
 mono:=fun xs σ H Q Q' m ⟨v,r,e,q⟩=>⟨v,r,e,h1.mono _ _ _ _ _ (fun σ1 H1 z=>h2.mono _ _ _ _ _ m z) q⟩
theorem PR {f:List (Option Nat)}{K:W.Frag}{n:Nat}{t:TGs}(h:TgsOk f t):TgOk f (Md K n t) where
 keep:=fun x σ H Q ⟨a,xs,e,q,l,z⟩=>⟨a,xs,e,q,l,h.keep _ _ _ _ z⟩
 mono:=fun x σ H Q Q' m ⟨a,xs,e,q,l,z⟩=>⟨a,xs,e,q,l,h.mono _ _ _ _ _ m z⟩
def PCs (X:Cx)(ifs:Qi)(tc:TT):Prop :=
 ∀(XaR:Qc) (s:Shared) (σ:St) (H:Hp) (Q:Bool->Hp->Prop),Qq X XaR σ H s->tc σ H Q ->
  wpAny (model X.prog X.w) X.A (forIn ifs true fun c r=>if r=true then do let ok <- isTrue c X.env (eval c X.env);pure (ForInStep.yield ok) else pure (ForInStep.yield r)) (TP X XaR σ Q) X.xe s
def UT:TT:=fun _ H Q=>Q true H
def Jv {X:Cx}:PCs X [] UT:=fun _ _ _ H _ I h=>wpAny_tests_nil ⟨H,I,h⟩
def Gn {X:Cx}{c:Expr}{tc:TT}(h:PT X c tc):PCs X [c] tc:=fun XaR s σ H Q I q=>wpAny_tests_one (h XaR s σ H Q I q)
def S8 {prog:Program}{w:World}{A:Around}{R:Result->Shared->Prop}{s:Shared}{elt target iter:Expr}{ifs:Qi}{scope:Scope}{pos:Pos}{it acc:Value}{env:Env}(I:Nat->Shared->Prop)
 (turn:∀n s,I n s->wpAny (model prog w) A (pyNext it) (fun r b9=>match r with
  |none=>R (.ok .next) b9
  | some v=>wpAny (model prog w) A (letOwnedTupleGo target it v) (fun _ s₁'=>wpAny (model prog w) A (assign target env v) (fun _ b8 =>
   wpAny (model prog w) A (forIn ifs true fun c r=>if r=true then do let ok <- isTrue c env (eval c env);pure (ForInStep.yield ok) else pure (ForInStep.yield r)) (fun ok bq =>
    if ok=true then wpAny (model prog w) A (eval elt env) (fun x c6 =>
     wpAny (model prog w) A (call (.builtin "list.append") [acc,x]) (fun _ cw => ∃m,m<n/\I m cw) (fun _ _=>False) c6) (fun _ _=>False) bq
    else ∃m,m<n/\I m bq) (fun _ _=>False) b8) (fun _ _=>False) s₁') (fun _ _=>False) b9) (fun _ _=>False) s)
 (n:Nat) (h:I n s) :
 codeAny (model prog w) A (.compLoop (.ListComp elt [⟨target,iter,ifs,0⟩] scope pos) 0 it acc env) R s:=by
 refine codeAny_loop rfl I (fun n s hI=>?_) n h;show wpAny _ A ((compTurn (.ListComp elt [⟨target,iter,ifs,0⟩] scope pos) 0 it acc env).onRaise (fun x=>do noteFrame x env;theTreesLotGoes x)) _ _ s;refine wpAny_noted ?_;rw[compTurn_list];refine Xa (wpAny_standAt (Xa (wpAny_mono (turn n s hI) (fun r b9 bj=>?_) fun _ _ h'=>h'.elim)))
 cases r with
 |none=>exact Xk bj
 |some v =>
   refine Xa (wpAny_mono bj (fun _ s₁' h₁'=>?_) fun _ _ h'=>h'.elim);refine Xa (wpAny_mono h₁' (fun _ b8 bv=>Xa (wpAny_mono bv (fun ok bq c7=>?_) fun _ _ h'=>h'.elim)) fun _ _ h'=>h'.elim)
   cases ok with
   |false=>exact Xk ⟨rfl,c7⟩
   |true =>
     exact Xa (Xa (wpAny_mono c7 (fun x c6 d8=>Xa (wpAny_mono d8 (fun _ cw d9=>Xk (Xk ⟨rfl,d9⟩)) fun _ _ h'=>h'.elim)) fun _ _ h'=>h'.elim))
theorem Qq.track {X:Cx}{XaR:Qc}{σ:St}{H:Hp}{s:Shared}{a:Addr}{o:HO}(I:Qq X XaR σ H s)(hn:H a=none)(h0:X.s₀.heap.objs.size<=a)(hL:a≠X.env.locals)(hC:∀x c,X.env.cells.lookup x=some c->c≠a)
 (hp:∀p∈X.pn++XaR,p.1≠a) (new:Z6 X.prog X.w (upd H a o) s.heap a o):Qq X XaR σ (upd H a o) s where
 ok:=I.ok
 os:=I.os
 bare:=I.bare
 base :=
  { keep:=I.base.keep
    slot:=I.base.slot
    free:=fun b ob q n hx=>by rw[Qt (Xm (Xp (Xj q) h0))];exact I.base.free b ob q n hx
    there:=I.base.there
    tups:=fun b xs q=>by have z:=I.base.tups b xs q;rw[Qt (Zo z hn)];exact z
    tupo:=I.base.tupo
    frzs:=fun b u xs q=>by have z:=I.base.frzs b u xs q;rw[Qt (Zo z hn)];exact z
    tbls:=fun b ps q=>by obtain⟨more,z⟩:=I.base.tbls b ps q;exact⟨more,by rw[Qt (Zo z hn)];exact z⟩ }
 loc:=I.loc
 cell:=I.cell
 free:=by rw[Qt hL.symm];exact I.free
 freeC:=fun x c e=>by rw[Qt (hC x c e)];exact I.freeC x c e
 pin:=fun p hp'=>by obtain⟨e,n,r⟩:=I.pin p hp';exact⟨e,by rw[Qt (hp p hp')];exact n,r⟩
 hok:=fun b u e=>by
  by_cases hb:b=a
  ·subst hb;rw[QA]at e;cases e;exact new
  ·rw[Qt hb]at e
   exact(I.hok b u e).stay (fun _ _ _ q=>q) (fun c q=>by rw[Qt (Zo q hn)];exact q) fun c xs q=>by rw[Qt (Zo q hn)];exact q
 len:=I.len
def LCw (f:List (Option Nat))(g:TG)(tc:TT)(te:TE)(σ:St)(J:It)(Q:VK)(H1:Hp):Prop :=
 ∃W:Nat->Nat->List V->Hp->Prop,(∃m,W 0 m [] H1)/\∀i m ys H,W i m ys H ->
  (J.stop i H/\∀p,H p=none->Q (.ref p) (upd H p (.lst ys))) \/
  (J.go i H/\∀x H',J.yld i H x H'->g x (ZM f σ) H' fun σ2 H2=>tc σ2 H2 fun b H3 =>
   if b=true then te σ2 H3 fun y H4=>ys.length<sizeLine/\∃m',m'<m/\W (i+1) m' (ys++[y]) H4
   else ∃m',m'<m/\W (i+1) m' ys H3)
def tLC (f:List (Option Nat))(wi:TI)(g:CIn->TG)(tc:CIn->TT)(te:CIn->TE):TE:=fun σ H Q=>wi σ H fun J H1=>∀c:CIn,LCw f (g c) (tc c) (te c) σ J Q H1
abbrev ZK (its:Qe) (k:Nat):Obj:={ cls:=.type "list",data:=.seq its.toArray k }
section
variable {X:Cx}{XaR:Qc}{σ:St}{H2:Hp}{b8:Shared}
def Nm {tg iter elt:Expr}{ifs:Qi}{scope:Scope}{pos:Pos}{N:Qh}{f:List (Option Nat)}{g:CIn->TG}{tc:CIn->TT}{te:CIn->TE}{cl:List (Str×Addr)}
 (hc:X.calm=true) (ck:CompOk X.N X.env.scope N f scope)
 (hg:∀c,PG (Zx X N scope c) tg (g c)) (ht:∀c,TgOk f (g c)) (hcs:∀c,PCs (Zx X N scope c) ifs (tc c)) (he:∀c,PE (Zx X N scope c) elt (te c))
 (I2:Qq X XaR σ H2 b8) {it:Addr} {fp:Qg} {tn:Nat->Heap->Prop} {J:It} (T:Turn X.prog X.w X.K tg J fp it tn) (st:tn 0 b8.heap) (f2:∀b∈fp,VO X XaR H2 b)
 {Q:VK} (hq:∀c:CIn,LCw f (g c) (tc c) (te c) σ J Q H2)
 (hcl1:∀x c,cl.lookup x=some c->X.env.cells.lookup x=some c) (hcl2:∀p∈scope.names,p.2=NameKind.free->∃c,cl.lookup p.1=some c)
 {RR:Value->Addr->Result->Shared->Prop} {E:Qb}
 (hRR:∀(acc C:Addr) (H':Hp) (s':Shared) (m':Str->Qf),s'.heap.Ns C m'->Qq X XaR σ H' s'->H' C=none->C≠X.env.locals->X.s₀.heap.objs.size<=C->(∀x c,X.env.cells.lookup x=some c->c≠C) ->
  (∀p∈X.pn++XaR,p.1≠C)->Q (.ref acc) H'->RR (.ref acc) C (.ok .next) s') :
 wpAny (model X.prog X.w) X.A (newList []) (fun acc bq=>wpAny (model X.prog X.w) X.A (newFunctionEnv scope X.env.globals cl [] X.env.qual none .none (some X.env)) (fun cenv c6 =>
  codeAny (model X.prog X.w) X.A (.compStart (.ListComp elt [⟨tg,iter,ifs,0⟩] scope pos) 0 (.ref it) acc { cenv with scope:=relabel scope X.env }) (RR acc cenv.locals) c6) E bq) E b8:=by
 refine wpAny_newObj_type (wpAny_newFunctionEnv ck.nocell (by intro y hy;simp at hy) (fun bj bz c5=>?_) ck.kind);dsimp only at bz c5 ⊢;have I3:Qq X XaR σ H2 { b8 with heap:=b8.heap.push (ZK [] 0) }:=I2.kept (t':=b8.toks) fun b u e=>Xf _ e;have hD:(b8.heap.push (ZK [] 0)).get? b8.heap.objs.size=some (ZK [] 0):=Xu _ rfl;generalize hs3:({ b8 with heap:=b8.heap.push (ZK [] 0) }:Shared)=bq at I3 bz c5 ⊢;have hp3:b8.heap.push (ZK [] 0)=bq.heap:=by rw[<- hs3]
 have hp3':b8.heap.push { cls:=.type "list",dict:=none,data:=.seq ([]:Qe).toArray }=bq.heap:=hp3;rw[hp3]at hD;simp only[hp3']at bz c5 ⊢;have sz3:b8.heap.objs.size<bq.heap.objs.size:=by rw[<- hp3,YG];exact X9 _
 have k3:∀b u,b8.heap.get? b=some u->bq.heap.get? b=some u:=fun b u e=>by rw[<- hp3];exact Xf _ e
 have k1:∀b u,bq.heap.get? b=some u->bj.get? b=some u:=fun b u e =>
  c5.extBut b u (Xm (Xj e)) (Xf _ e)
 have fpo:∀b∈fp,b<b8.heap.objs.size:=fun b hb=>by
  obtain⟨o,e,_⟩:=T.obj 0 _ st b hb;exact Xj e
 have st1:tn 0 bj:=T.keep _ _ _ st fun b hb o e=>k1 b o (k3 b o e);have fneC:∀b∈fp,b≠bq.heap.objs.size:=fun b hb=>Xm (Nat.lt_trans (fpo b hb) sz3);have fneD:∀b∈fp,b≠b8.heap.objs.size:=fun b hb=>Xm (fpo b hb)
 have cneD:∀x d,X.env.cells.lookup x=some d->d≠b8.heap.objs.size:=fun x d e=>by
  obtain⟨v,z⟩:=I2.cell x d e;exact Xm z.lt
 have pneD:∀p∈X.pn++XaR,p.1≠b8.heap.objs.size:=fun p hp=>Xm (Xj (I2.pin p hp).1);have freeD:H2 b8.heap.objs.size=none:=I2.fresh
 have stk:∀b,b≠X.env.locals->b∉X.fs->b∉frs X.stack:=fun b h1 h2 hb=>by
  rcases Xg.mp (I3.stkSub b hb) with z|z
  ·exact h1 z
  ·exact h2 z
 have exD:∀b,b∈b8.heap.objs.size::fp->b=b8.heap.objs.size\/b∈fp:=fun b hb=>Xg.mp hb
 let c:CIn:=⟨cl,bq.heap.objs.size,bq,H2,b8.heap.objs.size::fp,X.pn++XaR⟩
 have okX:(Zx X N scope c).Ok :=
  { mod:=I3.ok.mod
    kind:=ck.kind
    glob:=I3.ok.glob
    blt:=I3.ok.blt
    above:=Xq _
    inj:=fun x y d h1 h2=>I3.ok.inj x y d (hcl1 x d h1) (hcl1 y d h2)
    has:=fun x hx=>by
     rcases HM hx with z|z
     ·exact hcl2 (x,.free) (PySem.mem_of_lookup z) rfl
     ·exact Xl rfl (ck.nocell (x,.cell) (PySem.mem_of_lookup z))
    cab:=fun x d h=>Xl (show false=true from h) Xs
    hd:=I3.ok.hd
    frames:=I3.ok.frames
    stk:=.inl rfl
    exf:=fun b hb=>by
     rcases exD b hb with rfl|hb
     ·exact⟨Xm sz3,fun x d e=>cneD x d (hcl1 x d e)⟩
     ·exact⟨fneC b hb,fun x d e=>(f2 b hb).2.2.2.2.1 x d (hcl1 x d e)⟩
    bs:=fun b o e=>I3.bs b o e
    bsz:=X7 I3.ok.bsz I3.sz
    noex:=fun b o e hb=>by
     rcases exD b hb with rfl|hb
     ·exact Xl (Xj (I2.bk _ _ e)) (X5 _)
     ·rcases(f2 b hb).2.2.2.1 with z|z
      ·exact I3.ok.noex b o e z
      ·exact Xl (Xp (Xj (I3.ok.bs b o e).1) z) (X5 _)
    exfs:=fun b hb=>by
     rcases exD b hb with rfl|hb
     ·exact stk _ (XU I2.lt) (I2.nofs (Xq _))
     ·exact stk b (f2 b hb).2.1 (f2 b hb).2.2.1
    funs:=I3.stack
    frf:=I3.stkFree }
 have I4:Qq (Zx X N scope c) [(b8.heap.objs.size,ZK [] 0)] (ZM f σ) H2 { bq with heap:=bj,toks:=bq.toks+([]:List (Str×Value)).length } :=
  { ok:=okX
    os:=rfl
    bare:=I3.bare
    base:=Un.kept k1
    loc:=⟨_,bz,fun i x v e1 e2 e3=>by
     have hfi:∃j,f[i]?=some (some j)/\σ[j]?=some (some v):=by
      unfold ZM at e2;rw[Xt]at e2;cases ef:f[i]? with
      |none=>rw[ef]at e2;cases e2
      |some o =>
        rw[ef]at e2;cases o with
        |none=>cases e2
        |some j =>
          refine⟨j,rfl,?_⟩;have e2':(σ[j]?).join=some v:=Option.some.inj e2
          cases es:σ[j]? with
          |none=>rw[es]at e2';cases e2'
          |some o2 =>
            rw[es]at e2';have:o2=some v:=e2';rw[this]
     obtain⟨j,ef,es⟩:=hfi;obtain⟨x',n1,n2,n3⟩:=ck.ix i j ef
     have:x'=x:=Option.some.inj (n1.symm.trans e1)
     subst this;have hfr:=ck.free (x',.free) (PySem.mem_of_lookup n3) rfl;obtain⟨m0,hm0,hl0⟩:=I3.loc;obtain⟨u,ru,lk⟩:=hl0 j x' v n2 es (hfr.elim (fun z=>.inr (.inl z)) fun z=>.inr (.inr z));refine⟨u,ru,.inr ⟨HN n3,?_⟩⟩
     rcases lk with ⟨kl,_⟩|⟨_,d,ed,hd⟩
     ·have kl':X.env.scope.names.lookup x'=some .local:=kl
      rcases hfr with z|z
      ·rw[kl']at z;cases z
      ·rw[kl']at z;cases z
     ·obtain⟨d',ed'⟩:=hcl2 (x',.free) (PySem.mem_of_lookup n3) rfl
      have:d'=d:=Option.some.inj ((hcl1 x' d' ed').symm.trans ed)
      subst this;exact⟨d',ed',hd.keeps k1⟩⟩
    cell:=fun x d e=>by
     obtain⟨v,z⟩:=I3.cell x d (hcl1 x d e)
     exact⟨v,z.keeps k1⟩
    free:=I3.fresh
    freeC:=fun x d e=>I3.freeC x d (hcl1 x d e)
    pin:=fun p hp=>by
     rcases XH.mp (show p∈(X.pn++XaR)++[(b8.heap.objs.size,ZK [] 0)] from hp) with hp'|hp'
     ·obtain⟨e,n,ne,nf,d⟩:=I3.pin p hp'
      exact⟨k1 _ _ e,n,Xm (Xj e),stk p.1 ne nf,d⟩
     ·have z:p=(b8.heap.objs.size,ZK [] 0):=Xi.mp hp'
      subst z;exact⟨k1 _ _ hD,freeD,Xm sz3,stk _ (XU I2.lt) (I2.nofs (Xq _)),fun v z=>nomatch (show Data.seq _ _=Data.cell v from z)⟩
    hok:=I3.hok.kept k1
    len:=by
     show(ZM f σ).length=N.length
     unfold ZM;rw[Xn];exact ck.len }
 have back:∀{σ':St} {H':Hp} {s':Shared} {ps:Qc},Qq (Zx X N scope c) ps σ' H' s'->Qq X XaR σ H' s':=fun{σ' H' s' ps} J' =>
  I3.call' (ch:=b8.heap.objs.size::fp) J'.os J'.base J'.hok J'.bare fun b hb=>by
   rcases exD b hb with rfl|hb
   ·exact⟨.inr I2.sz,XU I2.lt,cneD,pneD⟩
   ·exact⟨(f2 b hb).2.2.2.1,(f2 b hb).2.1,(f2 b hb).2.2.2.2.1,(f2 b hb).2.2.2.2.2⟩
 have fpX:∀{H':Hp} {ob:Obj},(∀b∈fp,H' b=none)->∀b∈fp,VO (Zx X N scope c) [(b8.heap.objs.size,ob)] H' b:=fun{H' ob} hn b hb =>
  ⟨hn b hb,(okX.exf b (Xe _ hb)).1,okX.exfs b (Xe _ hb),.inl (Xe _ hb),(okX.exf b (Xe _ hb)).2,fun p hp=>by
   rcases XH.mp (show p∈(X.pn++XaR)++[(b8.heap.objs.size,ob)] from hp) with z|z
   ·exact(f2 b hb).2.2.2.2.2 p z
   ·have z:p=(b8.heap.objs.size,ob):=Xi.mp z
    subst z;exact(fneD b hb).symm⟩
 obtain⟨W,⟨m0,w0⟩,turn⟩:=hq c
 have loop:∀s,s=({ bq with heap:=bj,toks:=bq.toks+([]:List (Str×Value)).length }:Shared) ->
  codeAny (model X.prog X.w) X.A (.compLoop (.ListComp elt [⟨tg,iter,ifs,0⟩] scope pos) 0 (.ref it) (.ref b8.heap.objs.size) (compEnvC scope cl bq.heap.objs.size X.env)) (RR (.ref b8.heap.objs.size) bq.heap.objs.size) s:=by
  rintro s rfl
  refine S8 (fun n s'=>∃i H' ys its k,Qq (Zx X N scope c) [(b8.heap.objs.size,ZK its k)] (ZM f σ) H' s'/\QN ys its/\ys.length<=sizeLine/\tn i s'.heap/\(∀b∈fp,H' b=none)/\W i n ys H') ?_ m0 ⟨0,_,[],[],0,I4,.nil,XQ _,st1,fun b hb=>(f2 b hb).1,w0⟩
  rintro n s5 ⟨i,H5,ys,its,k,I5,rv5,hz5,st5,fr5,w5⟩
  rcases turn i n ys H5 w5 with ⟨stop,qn⟩|⟨go,step⟩
  ·refine Q6 (T.done (Zx X N scope c) rfl rfl rfl hc i _ s5 (ZM f σ) H5 _ I5 (fpX fr5) st5 stop) fun r s6 ⟨hr,I6⟩=>?_
   subst hr;obtain⟨m6,hn6,_⟩:=id I6.loc;obtain⟨eD,nD,_⟩:=I6.pin (b8.heap.objs.size,ZK its k) (XB _ (Xi.mpr rfl));have I7:Qq X XaR σ (upd H5 b8.heap.objs.size (.lst ys)) s6:=(back I6).track nD I2.sz (XU I2.lt) cneD pneD ⟨hz5,its,k,rv5,eD⟩;refine hRR _ _ _ s6 m6 hn6 I7 (by rw[Qt (XU sz3)];exact I6.free) (XU I3.lt) I3.sz (fun x d e=>?_) (fun p hp=>?_) (qn _ nD)
   ·obtain⟨v,z⟩:=I3.cell x d e
    exact Xm z.lt
   ·exact Xm (Xj (I3.pin p hp).1)
  ·refine Q6 (T.item (Zx X N scope c) rfl rfl rfl hc i _ s5 (ZM f σ) H5 _ I5 (fpX fr5) st5 go) fun r s6 ⟨u,hr,h6⟩=>?_
   subst hr;refine Q6 h6 fun _ s7 ⟨x,H7,I7,r7,y7,st7,fr7⟩=>?_;have I7':=I7.pinned (fpX fr7) (T.obj _ _ st7);refine Q6 (hg c _ s7 (ZM f σ) H7 x u _ I7' r7 ((ht c).keep _ _ _ _ (step x H7 y7))) fun _ s8 ⟨σ8,H8,I8,kp8,q8⟩=>?_
   have wk:∀(j:Nat) v,(ZM f σ)[j]?=some (some v)->σ8[j]?=some (some v):=fun j v e=>by
    have ef:∃k,f[j]?=some (some k):=by
     have e':=e;unfold ZM at e';rw[Xt]at e';cases q:f[j]? with
     |none=>rw[q]at e';cases e'
     |some o =>
       cases o with
       |none=>rw[q]at e';cases e'
       |some k=>exact⟨k,rfl⟩
    obtain⟨k,ef⟩:=ef;rw[kp8.2 j k ef];exact e
   have recs:∀{H9:Hp} {s9:Shared} {ob:Obj},Qq (Zx X N scope c) ([(b8.heap.objs.size,ob)]++Uy fp s7.heap) σ8 H9 s9->tn (i+1) s9.heap/\∀b∈fp,H9 b=none:=fun{H9 s9 ob} I9 =>
    ⟨T.keep _ _ _ st7 fun b hb o e=>(I9.pin (b,o) (XB _ (XB _ (U7 hb e)))).1,fun b hb=>by
     obtain⟨o,e,d⟩:=T.obj _ _ st7 b hb
     exact(I9.pin (b,o) (XB _ (XB _ (U7 hb e)))).2.1⟩
   refine Q6 (hcs c _ s8 σ8 H8 _ I8 q8) fun ok s9 ⟨H9,I9,q9⟩=>?_
   cases ok with
   |false =>
     obtain⟨m',hm,w9⟩:=(show ∃m',m'<n/\W (i+1) m' ys H9 from q9);obtain⟨z1,z2⟩:=recs I9
     exact⟨m',hm,i+1,H9,ys,its,k,(I9.unpinned).weak kp8.1.symm wk,rv5,hz5,z1,z2,w9⟩
   |true =>
     refine Q6 (he c _ s9 σ8 H9 _ I9 (show te c σ8 H9 _ from q9)) fun v s10 ⟨y,H10,I10,r10,hlen,m',hm,w10⟩=>?_;obtain⟨eD,nD,neD,nfD,dD⟩:=I10.pin (b8.heap.objs.size,ZK its k) (XB _ (JV _ (Xi.mpr rfl)));obtain⟨z1,z2⟩:=recs I10;have lv:=rv5.length;refine call_meets F.slot_list_append ⟨_,eD,rfl⟩ F.entry_list_append (F.args_list_append_2 _ _) (PySem.list_append b8.heap.objs.size its.toArray k v (by rw[Xv];omega)) ⟨eD,?_⟩;have q:=PySem.IsL.update eD (·.push v);have hf:its.toArray.push v=(its++[v]).toArray:=by simp
     rw[hf]at q;have I11:Qq (Zx X N scope c) [] σ8 H10 { s10 with heap:=s10.heap.update b8.heap.objs.size (Obj.mapSeq (·.push v)) } :=
      (I10.pins_of (pins':=[]) fun p hp=>Xl hp (by simp)).turned (t':=s10.toks) (it:=b8.heap.objs.size) (fun b o hb e=>(XM s10.heap (Obj.mapSeq (·.push v)) (Ne.symm hb)).trans e) nD neD (.inl Xc) (okX.exf _ Xc).2 fun p hp=>by
       have z:p∈(X.pn++XaR)++[]:=hp;rw[XG]at z;exact pneD p z
     have I12:Qq (Zx X N scope c) [(b8.heap.objs.size,ZK (its++[v]) _)] σ8 H10 { s10 with heap:=s10.heap.update b8.heap.objs.size (Obj.mapSeq (·.push v)) } :=
      I11.pins_of fun p hp=>by
       have z:p=(b8.heap.objs.size,_):=Xi.mp hp;subst z;exact⟨q,nD,neD,nfD,fun v z=>nomatch (show Data.seq _ _=Data.cell v from z)⟩
     refine⟨m',hm,i+1,H10,ys++[y],its++[v],_,I12.weak kp8.1.symm wk,rv5.append (.cons r10 .nil),by rw[Xo,BV];omega,?_,z2,w10⟩;exact T.keep _ _ _ z1 fun b hb o e=>(XM s10.heap (Obj.mapSeq (·.push v)) (fneD b hb).symm).trans e
 exact codeAny_compStart_list (loop _ (by rw[<- hs3])) (T.self _ 0 _ _ _ st1 (loop _ (by rw[<- hs3])))
def Wr {tg iter elt:Expr}{ifs:Qi}{scope:Scope}{pos:Pos}{NX:Qh}{sc:Scope}{N:Qh}{f:List (Option Nat)}{wi:TI}{g:CIn->TG}{tc:CIn->TT}{te:CIn->TE}
 (hc:X.calm=true) (ck:Gr NX sc N f scope=true) (hNX:X.N=NX) (hsc:X.env.scope=sc) (hi:PI X tg iter wi)
 (hg:∀c,PG (Zx X N scope c) tg (g c)) (ht:∀c,TgOk f (g c)) (hcs:∀c,PCs (Zx X N scope c) ifs (tc c)) (he:∀c,PE (Zx X N scope c) elt (te c))
 (hs:∀x,foldedSetIterable iter X.env x=pure x:=by intro _;rfl):PE X (.ListComp elt [⟨tg,iter,ifs,0⟩] scope pos) (tLC f wi g tc te):=by
 subst hNX hsc;intro XaR s σ H Q I h;have ck':=DX ck;obtain⟨cl,hclos,hcl1,hcl2⟩:=Hu (scope:=scope) (env:=X.env) fun p hp hf=>I.ok.has p.1 (ck'.free p hp hf);rw[eval_ListComp];refine wpAny_comprehension_free (use:=none) rfl hs hclos ck'.kind ck'.names (Q6 (hi XaR s σ H _ I h) fun xv b9 bj=>Q6 bj fun itv b8 bv=>?_);obtain⟨it,fp,tn,J,H2,e,I2,T,st,f2,hq⟩:=bv;subst e;refine Nm (RR:=fun acc C=>compPost (model X.prog X.w) X.A X.xe none (EP X XaR σ Q) acc C) hc ck' hg ht hcs he I2 T st f2 hq hcl1 hcl2 ?_;intro acc C H' s' m' hn I' hC hL h0 h1 h2 q;exact⟨m',hn,fun h'' hs''=>⟨.ref acc,H',I'.turned (t':=s'.toks) (fun b o hb e=>(hs''.2 b hb).trans e) hC hL (.inr h0) h1 h2,rfl,q⟩⟩
def C8 {i:Nat}{x:Str}{px spos:Pos}{tg iter elt:Expr}{ifs:Qi}{scope:Scope}{pos:Pos}{NX:Qh}{sc:Scope}{N:Qh}{f:List (Option Nat)}{wi:TI}{g:CIn->TG}{tc:CIn->TT}{te:CIn->TE}
 (hN:X.N.Nodup) (hix:X.N[i]?=some x) (hx:X.env.scope.names.lookup x=some .local)
 (hc:X.calm=true) (ck:Gr NX sc N f scope=true) (hNX:X.N=NX) (hsc:X.env.scope=sc) (hi:PI X tg iter wi)
 (hg:∀c,PG (Zx X N scope c) tg (g c)) (ht:∀c,TgOk f (g c)) (hcs:∀c,PCs (Zx X N scope c) ifs (tc c)) (he:∀c,PE (Zx X N scope c) elt (te c))
 (hsw:swapsWith (.ListComp elt [⟨tg,iter,ifs,0⟩] scope pos) (some (.Name x px)) spos.line X.env=pure true)
 (hs:∀x,foldedSetIterable iter X.env x=pure x:=by intro _;rfl):PS X (.Assign [.Name x px] (.ListComp elt [⟨tg,iter,ifs,0⟩] scope pos) spos) (ZS (tLC f wi g tc te) (ZW i)):=by
 subst hNX hsc;intro XaR s σ H D I h;have ck':=DX ck;obtain⟨cl,hclos,hcl1,hcl2⟩:=Hu (scope:=scope) (env:=X.env) fun p hp hf=>I.ok.has p.1 (ck'.free p hp hf);rw[exec_Assign_Name_used _ _ _ _ hsw];refine Xa (wpAny_standAt (Xa ?_));show wpAny _ X.A (do let _ <- comprehension (.ListComp elt [⟨tg,iter,ifs,0⟩] scope pos) scope X.env _ (newList []) false (eval iter X.env) (some (assign (.Name x px) X.env))) _ _ s
 refine Xa (wpAny_mono (wpAny_comprehension_free (use:=some (assign (.Name x px) X.env)) (Q:=fun _ s'=>SP X XaR D .next s') rfl hs hclos ck'.kind ck'.names
  (Q6 (hi XaR s σ H _ I h) fun xv b9 bj=>Q6 bj fun itv b8 bv=>?_)) (fun _ s' hq=>Xk (Xk hq)) fun _ _ e=>e)
 obtain⟨it,fp,tn,J,H2,e,I2,T,st,f2,hq⟩:=bv;subst e;refine Nm (RR:=fun acc C=>compPost (model X.prog X.w) X.A X.xe (some (assign (.Name x px) X.env)) (fun _ s'=>SP X XaR D .next s') acc C) hc ck' hg ht hcs he I2 T st f2 hq hcl1 hcl2 ?_;intro acc C H' s' m' hn I' hC hL h0 h1 h2 q;show wpAny _ X.A (assign (.Name x px) X.env (.ref acc)) _ _ _;refine wpAny_assign_Name (DO I' hN hix (.inl hx) (v:=.ref acc) rfl (fun s'' I'' ⟨a,sb,ha⟩=>?_) (.inr hx))
 have nC:C≠a:=by
  rcases ha with z|z
  ·rw[z];exact hL
  ·exact(h1 _ _ z).symm
 refine⟨m',hn.sameBut sb nC,fun h'' hs''=>?_⟩
 exact⟨_,H',I''.turned (t':=s''.toks) (fun b o hb e=>(hs''.2 b hb).trans e) hC hL (.inr h0) h1 h2,q⟩
end
section
variable {f:List (Option Nat)}{g:TG}{tc:TT}{te:TE}{σ:St}{Q:VK}{H1:Hp}{K:W.Frag}{a:Addr}{xs:List V}
end
mutual
inductive Rep (H:Hp):V->PyData->Prop
 |non:Rep H .non .none
 |bl (b:Bool):Rep H (.bl b) (.bool b)
 |int (i:Int):Rep H (.int i) (.int i)
 |str (x:Str):Rep H (.str x) (.str x)
 |lst {a:Addr} {xs:List V} {ds:Qd}:H a=some (.lst xs)->Qw H xs ds->Rep H (.ref a) (.list ds)
 |tup {a:Addr} {xs:List V} {ds:Qd}:H a=some (.tup xs)->Qw H xs ds->Rep H (.ref a) (.tuple ds)
 |dct {a:Addr}:H a=some (.dK [])->Rep H (.ref a) (.dict [])
inductive Qw (H:Hp):List V->Qd->Prop
 |nil:Qw H [] []
 |cons {x:V} {xs:List V} {d:PyData} {ds:Qd}:Rep H x d->Qw H xs ds->Qw H (x::xs) (d::ds)
end
mutual
theorem Rep.mono {H H':Hp}(s:Q4 H H'):∀{v:V} {d:PyData},Rep H v d->Rep H' v d
 |_,_,.non=>.non
 |_,_,.bl b=>.bl b
 |_,_,.int i=>.int i
 |_,_,.str x=>.str x
 |_,_,.lst h r=>.lst (s _ _ h) (Qw.mono s r)
 |_,_,.tup h r=>.tup (s _ _ h) (Qw.mono s r)
 |_,_,.dct h=>.dct (s _ _ h)
theorem Qw.mono {H H':Hp}(s:Q4 H H'):∀{vs:List V} {ds:Qd},Qw H vs ds->Qw H' vs ds
 |_,_,.nil=>.nil
 |_,_,.cons r t=>.cons (Rep.mono s r) (Qw.mono s t)
end
theorem Qw.length {H:Hp}:∀{vs:List V} {ds:Qd},Qw H vs ds->vs.length=ds.length
 |_,_,.nil=>rfl
 |_,_,.cons _ t=>by simp[Qw.length t]
theorem Qw.get {H:Hp}:∀{vs:List V} {ds:Qd} {i:Nat} {d:PyData},Qw H vs ds->ds[i]?=some d->∃v,vs[i]?=some v/\Rep H v d
 |_,_,_,_,.nil,e=>by simp at e
 |_,_,0,_,.cons r _,e=>by simp at e;subst e;exact⟨_,rfl,r⟩
 |_,_,i+1,d,.cons _ t,e=>by
   obtain⟨u,h1,h2⟩:=Qw.get (i:=i) (d:=d) t (by simpa using e)
   exact⟨u,by simpa using h1,h2⟩
theorem Qw.snoc {H:Hp}{v:V}{d:PyData}:∀{vs:List V} {ds:Qd},Qw H vs ds->Rep H v d->Qw H (vs++[v]) (ds++[d])
 |_,_,.nil,h=>.cons h .nil
 |_,_,.cons r t,h=>.cons r (Qw.snoc t h)
theorem Qw.append {H:Hp}:∀{vs ws:List V} {ds es:Qd},Qw H vs ds->Qw H ws es->Qw H (vs++ws) (ds++es)
 |_,_,_,_,.nil,s=>s
 |_,_,_,_,.cons r t,s=>.cons r (Qw.append t s)
theorem Qw.set {H:Hp}{v:V}{d:PyData}(r:Rep H v d):∀{vs:List V} {ds:Qd} (i:Nat),Qw H vs ds->Qw H (vs.set i v) (ds.set i d)
 |_,_,_,.nil=>.nil
 |_,_,0,.cons _ t=>.cons r t
 |_,_,i+1,.cons q t=>.cons q (Qw.set r i t)
theorem J9 {H:Hp}:∀{vs:List V} {l:Ql},Qw H vs (l.map PyData.int)->vs=l.map V.int
 |_,[],.nil=>rfl
 |_,i::l,.cons (.int _) t=>by rw[Xy,J9 t]
theorem R7 {H:Hp}:∀(l:Ql),Qw H (l.map V.int) (l.map PyData.int)
 |[]=>.nil
 |i::l=>.cons (.int i) (R7 l)
section
variable {X:Cx}{XaR:Qc}{σ:St}{H:Hp}{s:Shared}
mutual
theorem Rep.reads (I:Qq X XaR σ H s):∀{v:V} {d:PyData} {u:Value},Rep H v d->QJ v u->∃as,Reads s.heap u d as
 |_,_,_,.non,r=>by cases r;exact⟨_,.none⟩
 |_,_,_,.bl b,r=>by cases r;exact⟨_,.bool b⟩
 |_,_,_,.int i,r=>by obtain⟨t,rfl⟩:=r;exact⟨_,.int i t⟩
 |_,_,_,.str x,r=>by obtain⟨t,rfl⟩:=r;exact⟨_,.str x t⟩
 |_,_,_,.lst h q,r=>by
   cases r
   obtain⟨z,its,n,rv,e⟩:=I.hok _ _ h;obtain⟨as,ra⟩:=Qw.reads I q rv
   exact⟨_,.list e rfl rfl (by simpa using ra)⟩
 |_,_,_,.tup h q,r=>by
   cases r
   obtain⟨z,its,rv,o,e,c,n,dd⟩:=I.hok _ _ h;obtain⟨as,ra⟩:=Qw.reads I q rv
   exact⟨_,.tuple e c dd (by simpa using ra)⟩
 |_,_,_,.dct h,r=>by
   cases r
   obtain⟨z,y,vs,kv,ob,es,ep,e,c,dd,_,pr,_⟩:=I.hok _ _ h
   cases kv
   have ee:es.toList=[]:=List.eq_nil_of_length_eq_zero pr.length
   exact⟨_,.dict (kvs:=[]) e c.1 dd (by rw[ee];exact .nil) (by rw[ee];exact .nil)⟩
theorem Qw.reads (I:Qq X XaR σ H s):∀{vs:List V} {ds:Qd} {us:Qe},Qw H vs ds->QN vs us->∃as,ReadsAll s.heap us ds as
 |_,_,_,.nil,r=>by cases r;exact⟨_,.nil⟩
 |_,_,_,.cons q t,r=>by
   cases r with
   |cons r1 r2 =>
     obtain⟨as,ra⟩:=Rep.reads I q r1;obtain⟨bs,rb⟩:=Qw.reads I t r2
     exact⟨_,.cons ra rb⟩
end
def V1 (d:PyData):Prop:=d.canLay0=true/\d.depth<=60
def HZ:R2:=fun x y H Q=>∃d e,Rep H x d/\Rep H y e/\V1 d/\V1 e/\Q (.bl (PyData.eqv d e)) H
def Kf:R2:=fun x y H Q=>∃d e,Rep H x d/\Rep H y e/\V1 d/\V1 e/\Q (.bl (!PyData.eqv d e)) H
def Nq (hu:X.A.units+64<cLine):OpR X (compareOp .Eq) HZ:=by
 intro XaR s σ H x y v u Q I rx ry h;obtain⟨d,e,hd,he,fd,fe,q⟩:=h;obtain⟨as,ra⟩:=hd.reads I rx;obtain⟨bs,rb⟩:=he.reads I ry;refine SeqAt.compareEq_reads ra rb fd.1 fe.1 ?_ ⟨.bl (PyData.eqv d e),H,I,rfl,q⟩;have h1:=fd.2;have h2:min d.depth e.depth<=d.depth:=Nat.min_le_left _ _;omega
def Ux (hu:X.A.units+64<cLine):OpR X (compareOp .NotEq) Kf:=by
 intro XaR s σ H x y v u Q I rx ry h;obtain⟨d,e,hd,he,fd,fe,q⟩:=h;obtain⟨as,ra⟩:=hd.reads I rx;obtain⟨bs,rb⟩:=he.reads I ry;refine SeqAt.compareNe_reads ra rb fd.1 fe.1 ?_ ⟨.bl (!PyData.eqv d e),H,I,rfl,q⟩;have h1:=fd.2;have h2:min d.depth e.depth<=d.depth:=Nat.min_le_left _ _;omega
end
def J0 {d:PyData}(f:V1 d):PyData.eqv d d=true:=SeqAt.eqv_refl d f.1
def KP {α:Type}{xs:List α}{i:Int}{v:α}(h:atI xs i=some v):∃j:Nat,xs[j]?=some v/\ixN xs.length i=some j:=by
 unfold atI at h;cases e:ixN xs.length i with
 |none=>rw[e]at h;cases h
 |some j=>rw[e]at h;exact⟨j,h,rfl⟩
section
variable {X:Cx}
end
inductive TyN (H:Hp):V->String->Prop
 |non:TyN H .non "NoneType"
 |bl (b:Bool):TyN H (.bl b) "bool"
 |int (i:Int):TyN H (.int i) "int"
 |str (x:Str):TyN H (.str x) "str"
 |lst {a:Addr} {xs:List V}:H a=some (.lst xs)->TyN H (.ref a) "list"
 |tup {a:Addr} {xs:List V}:H a=some (.tup xs)->TyN H (.ref a) "tuple"
 |dct {a:Addr}:H a=some (.dK [])->TyN H (.ref a) "dict"
def tyD:PyData->String
 |.none => "NoneType"
 |.bool _ => "bool"
 |.int _ => "int"
 |.str _ => "str"
 |.list _ => "list"
 |.tuple _ => "tuple"
 |.dict _ => "dict"
def Rep.ty {H:Hp}{v:V}{d:PyData}(r:Rep H v d):TyN H v (tyD d):=by
 cases r with
 |non=>exact .non
 |bl b=>exact .bl b
 |int i=>exact .int i
 |str x=>exact .str x
 |lst h _=>exact .lst h
 |tup h _=>exact .tup h
 |dct h=>exact .dct h
def Yz (T c:String):Option Bool :=
 if c = "int" then some (T == "int" || T == "bool") else if c = "bool" then some (T == "bool") else if c = "list" then some (T == "list") else if c = "tuple" then some (T == "tuple") else if c = "str" then some (T == "str") else if c = "dict" then some (T == "dict") else none
def Ld {prog:Program} {w:World} {A:Around} {E:Qb} {s:Shared} {Q:Qb} {a:Addr} {o:Obj} {c:String} {b:Bool} (hx:s.heap.get? a=some o) (hc:o.cls=.type "list") (e:Yz "list" c=some b) (h:∀t,Q (.bool b) { s with toks:=t }) :
 wpAny (model prog w) A (call (.builtin "isinstance") [.ref a,.type c]) Q E s:=by
 unfold Yz at e;split at e
 ·rename_i z;subst z;cases e;exact IsiPair.list_int hx hc (h _)
 ·split at e
  ·rename_i z;subst z;cases e;exact IsiPair.list_bool hx hc (h _)
  ·split at e
   ·rename_i z;subst z;cases e;exact IsiPair.list_list hx hc (h _)
   ·split at e
    ·rename_i z;subst z;cases e;exact IsiPair.list_tuple hx hc (h _)
    ·split at e
     ·rename_i z;subst z;cases e;exact IsiPair.list_str hx hc (h _)
     ·split at e
      ·rename_i z;subst z;cases e;exact IsiPair.list_dict hx hc (h _)
      ·cases e
def Lz {prog:Program} {w:World} {A:Around} {E:Qb} {s:Shared} {Q:Qb} {a:Addr} {o:Obj} {c:String} {b:Bool} (hx:s.heap.get? a=some o) (hc:o.cls=.type "tuple") (e:Yz "tuple" c=some b) (h:∀t,Q (.bool b) { s with toks:=t }) :
 wpAny (model prog w) A (call (.builtin "isinstance") [.ref a,.type c]) Q E s:=by
 unfold Yz at e;split at e
 ·rename_i z;subst z;cases e;exact IsiPair.tuple_int hx hc (h _)
 ·split at e
  ·rename_i z;subst z;cases e;exact IsiPair.tuple_bool hx hc (h _)
  ·split at e
   ·rename_i z;subst z;cases e;exact IsiPair.tuple_list hx hc (h _)
   ·split at e
    ·rename_i z;subst z;cases e;exact IsiPair.tuple_tuple hx hc (h _)
    ·split at e
     ·rename_i z;subst z;cases e;exact IsiPair.tuple_str hx hc (h _)
     ·split at e
      ·rename_i z;subst z;cases e;exact IsiPair.tuple_dict hx hc (h _)
      ·cases e
def Lg {prog:Program} {w:World} {A:Around} {E:Qb} {s:Shared} {Q:Qb} {a:Addr} {o:Obj} {c:String} {b:Bool} (hx:s.heap.get? a=some o) (hc:o.cls=.type "dict") (e:Yz "dict" c=some b) (h:∀t,Q (.bool b) { s with toks:=t }) :
 wpAny (model prog w) A (call (.builtin "isinstance") [.ref a,.type c]) Q E s:=by
 unfold Yz at e;split at e
 ·rename_i z;subst z;cases e;exact IsiPair.dict_int hx hc (h _)
 ·split at e
  ·rename_i z;subst z;cases e;exact IsiPair.dict_bool hx hc (h _)
  ·split at e
   ·rename_i z;subst z;cases e;exact IsiPair.dict_list hx hc (h _)
   ·split at e
    ·rename_i z;subst z;cases e;exact IsiPair.dict_tuple hx hc (h _)
    ·split at e
     ·rename_i z;subst z;cases e;exact IsiPair.dict_str hx hc (h _)
     ·split at e
      ·rename_i z;subst z;cases e;exact IsiPair.dict_dict hx hc (h _)
      ·cases e
def Fs {prog:Program}{w:World}{A:Around}{E:Qb}{s:Shared}{Q:Qb}{H:Hp}{x:V}{u:Value}{T c:String}{b:Bool}(ty:TyN H x T)(rx:QJ x u)(hf:∀a,x≠.ref a)(e:Yz T c=some b)(h:∀t,Q (.bool b) { s with toks:=t }) :
 wpAny (model prog w) A (call (.builtin "isinstance") [u,.type c]) Q E s:=by
 unfold Yz at e;split at e
 ·rename_i z;subst z;cases e
  cases ty with
  |non=>cases rx;exact IsiPair.NoneType_int (h _)
  |bl b=>cases rx;exact IsiPair.bool_int (h _)
  |int i=>obtain⟨t,rfl⟩:=rx;exact IsiPair.int_int (h _)
  |str i=>obtain⟨t,rfl⟩:=rx;exact IsiPair.str_int (h _)
  |lst _=>exact Xl rfl (hf _)
  |tup _=>exact Xl rfl (hf _)
  |dct _=>exact Xl rfl (hf _)
 ·split at e
  ·rename_i z;subst z;cases e
   cases ty with
   |non=>cases rx;exact IsiPair.NoneType_bool (h _)
   |bl b=>cases rx;exact IsiPair.bool_bool (h _)
   |int i=>obtain⟨t,rfl⟩:=rx;exact IsiPair.int_bool (h _)
   |str i=>obtain⟨t,rfl⟩:=rx;exact IsiPair.str_bool (h _)
   |lst _=>exact Xl rfl (hf _)
   |tup _=>exact Xl rfl (hf _)
   |dct _=>exact Xl rfl (hf _)
  ·split at e
   ·rename_i z;subst z;cases e
    cases ty with
    |non=>cases rx;exact IsiPair.NoneType_list (h _)
    |bl b=>cases rx;exact IsiPair.bool_list (h _)
    |int i=>obtain⟨t,rfl⟩:=rx;exact IsiPair.int_list (h _)
    |str i=>obtain⟨t,rfl⟩:=rx;exact IsiPair.str_list (h _)
    |lst _=>exact Xl rfl (hf _)
    |tup _=>exact Xl rfl (hf _)
    |dct _=>exact Xl rfl (hf _)
   ·split at e
    ·rename_i z;subst z;cases e
     cases ty with
     |non=>cases rx;exact IsiPair.NoneType_tuple (h _)
     |bl b=>cases rx;exact IsiPair.bool_tuple (h _)
     |int i=>obtain⟨t,rfl⟩:=rx;exact IsiPair.int_tuple (h _)
     |str i=>obtain⟨t,rfl⟩:=rx;exact IsiPair.str_tuple (h _)
     |lst _=>exact Xl rfl (hf _)
     |tup _=>exact Xl rfl (hf _)
     |dct _=>exact Xl rfl (hf _)
    ·split at e
     ·rename_i z;subst z;cases e
      cases ty with
      |non=>cases rx;exact IsiPair.NoneType_str (h _)
      |bl b=>cases rx;exact IsiPair.bool_str (h _)
      |int i=>obtain⟨t,rfl⟩:=rx;exact IsiPair.int_str (h _)
      |str i=>obtain⟨t,rfl⟩:=rx;exact IsiPair.str_str (h _)
      |lst _=>exact Xl rfl (hf _)
      |tup _=>exact Xl rfl (hf _)
      |dct _=>exact Xl rfl (hf _)
     ·split at e
      ·rename_i z;subst z;cases e
       cases ty with
       |non=>cases rx;exact IsiPair.NoneType_dict (h _)
       |bl b=>cases rx;exact IsiPair.bool_dict (h _)
       |int i=>obtain⟨t,rfl⟩:=rx;exact IsiPair.int_dict (h _)
       |str i=>obtain⟨t,rfl⟩:=rx;exact IsiPair.str_dict (h _)
       |lst _=>exact Xl rfl (hf _)
       |tup _=>exact Xl rfl (hf _)
       |dct _=>exact Xl rfl (hf _)
      ·cases e
section
variable {X:Cx}
def LZ:Zr X (.builtin "isinstance") (fun xs H Q=>∃x T c b,xs=[x,.ty c]/\TyN H x T/\Yz T c=some b/\Q (.bl b) H):=by
 intro XaR s σ H xs us Q I r h;obtain⟨x,T,c,b,rfl,ty,e,q⟩:=h;obtain⟨u,w',rfl,rx,rc⟩:=GP r
 cases (show w'=Value.type c from rc)
 have fin:∀t,EP X XaR σ Q (.bool b) { s with toks:=t }:=fun t=>⟨.bl b,H,I.tok t,rfl,q⟩
 by_cases hf:∀a,x≠.ref a
 ·exact Fs ty rx hf e fin
 ·cases ty with
  |lst ha =>
    cases rx
    obtain⟨z,its,n,rv,e1⟩:=I.hok _ _ ha;exact Ld e1 rfl e fin
  |tup ha =>
    cases rx
    obtain⟨z,its,rv,o,e1,c1,n,dd⟩:=I.hok _ _ ha;exact Lz e1 c1 e fin
  |dct ha =>
    cases rx
    obtain⟨z,y,vs,kv,ob,es,ep,e1,c1,_⟩:=I.hok _ _ ha;exact Lg e1 c1.1 e fin
  |_=>exact Xl (fun a z=>nomatch z) hf
def Ui (_ j:Int):Prop:=0<j/\j<2^8000
def T6 {j:Int}(h:Ui 0 j):j.natAbs.log2<9000:=by
 have h0:j.natAbs≠0:=by have:=h.1;omega
 have h1:j.natAbs<2^8000:=by have:=h.2;have:=h.1;omega
 have:=(Nat.log2_lt h0).mpr h1
 omega
def Bz:OpR X (binaryOp .FloorDiv) (rI Ui fun i j=>.int (i/j)):=opI fun i j _ _ _ _ _ hc q=>by
 have e:i.fdiv j=i/j:=Int.fdiv_eq_ediv_of_nonneg _ (Int.le_of_lt hc.1);refine floordiv_int (Int.ne_of_gt hc.1) ?_ (.inl (PyProof.noPylong_of_log2 (T6 hc)));rw[e];exact q
def Ki (i j:Int):Prop:=0<=j/\(Builtin.Int.intBits i:Int)+j<=2^27
def Tu:OpR X (binaryOp .LShift) (rI Ki fun i j=>.int (i*2^j.toNat)):=opI fun _ _ _ _ _ _ _ hc q=>lshift_int hc.1 hc.2 q
end
def Q4.upd {H H':Hp}{a:Addr}{o:HO}(s:Q4 H H')(h:H a=none):Q4 H (L2.upd H' a o):=fun b u e=>by
 rw[Qt (Zo e h)];exact s b u e
def Q4.new {H:Hp}{a:Addr}{o:HO}(h:H a=none):Q4 H (L2.upd H a o):=(Q4.refl H).upd h
end L2
end
section
namespace Att
open PySem PySem.W PySem.Calls PyProof.Rows
theorem Sq:∀(ns:Ql) (i:Int),i∈ns->Builtin.Int.intBits i<=WData.weightAll (ns.map WData.int)
 |[],i,h=>by simp at h
 |n::ns,i,h=>by
   rw[Xy,WData.weightAll];rcases Xg.mp h with rfl|h
   ·have:WData.weight (.int i)=Builtin.Int.intBits i:=by rw[WData.weight];rfl
    omega
   ·have:=Sq ns i h
    omega
def Lb {ns:Ql}(h:WData.layableAll [WData.list (ns.map WData.int)]=true):∀i∈ns,Builtin.Int.intBits i<=2^20:=fun i hi=>by
 have h1:=layableW_arg h (WData.list (ns.map WData.int)) (Xi.mpr rfl);obtain⟨_,_,h2⟩:=layableW_iff.mp h1;rw[WData.weight]at h2;exact X7 (Sq ns i hi) h2
def attach_callW {l:OpenLaw}{n:Nat}{q:Program}{loose:Qh}{XP:(Str->Qf)->Heap->Prop}{YP:World->Heap->Prop}{d:DefRec}
 (hn:l.most=some n) (hdf:d.params.defaults=[])
 (call:∀(w:World) (s₀ b9:Shared) (mg mb:Str->Qf) (fa:Addr) (o:Obj) (pm cd doc:Value) (a:Addr) (vs:Qe) (ns:Ql),
  Ground q loose [] XP w s₀ mg mb b9.heap->YP w b9.heap ->
  b9.heap.get? fa=some o->o.data=.func (docDef d.name d.params d.body d.scope pm cd doc)->b9.heap.CodeRec cd d.name->mg d.name=some (.ref fa) ->
  b9.heap.get? a=some { cls:=.type "list",data:=.seq vs.toArray }->IntsAre vs ns->ns.length<=n->(∀i∈ns,Builtin.Int.intBits i<=2^20)->b9.gens=#[] ->
  codeAny (model l.prog w) callerA (.call (.ref fa) ⟨[.ref a],[]⟩) (fun r s'=>r=.ok (.ret (.bool true))/\OldK b9.heap s'.heap/\s'.os=b9.os/\AllBare s'.gens) b9) :
 WalkO q loose XP YP l.row.toRowW d [] (fun f vs=>PySem.call f vs):=by
 intro w s₀ b9 mg mb G Y fa o pm cd doc dV kV ho hd hcd hD hmg hg args vals as hpre hlay hrd hwl hlo;obtain rfl:dV=.none:=Dflts.none hD hdf
 obtain rfl:kV=.none:=Dflts.noKw hD;obtain⟨a,vs,ns,rfl,rfl,hobj,hints,hlen⟩:=Af hn hpre hwl;refine enter_call (codeAny_mono (call w s₀ b9 mg mb fa o pm cd doc a vs ns G Y ho (fd_plain hd) hcd hmg hobj hints hlen (Lb hlay) hg) fun r s' hq=>?_)
 obtain⟨rfl,h2,h3,h4⟩:=hq
 exact⟨.inl ⟨.bool true,.bool true,[],rfl,fun _=>rfl,.bool true,Ah l _,fun _=>⟨List.Pairwise.nil,fun _ hm=>(nomatch hm)⟩⟩,h2,h3,h4⟩
end Att
namespace L2
open PySem PySem.Spec PyProof.Rows
structure Scr (K:W.Frag)(H:Hp)(a:Addr)(ns:Ql):Prop where
 sq:SqL K H a (ns.map V.int)
 len:ns.length<=63
 bits:∀i∈ns,Builtin.Int.intBits i<=2^20
def Scr.mono {K:W.Frag}{H H':Hp}{a:Addr}{ns:Ql}(h:Scr K H a ns)(s:Q4 H H'):Scr K H' a ns:=⟨s.seq h.sq,h.len,h.bits⟩
structure Df (K:W.Frag)(mg:Str->Qf)(x:Str)(st:Stmt)(ps:Qh):Prop where
 ex:∃f fd,Fun K x x st f fd/\mg x=some (.ref f)/\Vb K fd ps []
def QB (P:Program)(w:World)(K:W.Frag)(mg:Str->Qf)(base:Heap)(x:Str)(ps:Qh)(k:Nat)(sp:Sp):Prop :=
 ∃f fd,mg x=some (.ref f)/\W.keepIn K (.ref f)=true/\Vb K fd ps []/\FnOk P w K mg base CX0 k f fd ps sp
def Df.cal {P:Program}{w:World}{K:W.Frag}{mg:Str->Qf}{base:Heap}{x:Str}{st:Stmt}{N ps:Qh}{k:Nat}{sp:Sp}(D:Df K mg x st ps)(S:Qp N ps (Qy st))(len:∀vs H Q E,sp vs H Q E->vs.length=ps.length)
 (XaS:∀(f:Addr) (cdv:Value) (A:Around) (outer:List Env) (s:Shared) (H:Hp) (vs:List V) (Q:VK) (E:XK),Room k (A.deeper (envOfC x (Qy st) s.heap.objs.size f cdv))->sp vs H Q E ->
  ∃t,PSs (Vi CX0 P w K mg base N x (Qy st) f cdv A outer s H E).nox (Zh st) t/\t { nx:=fun _ H'=>Q .non H',rt:=Q } (start N vs) H):QB P w K mg base x ps (k+1) sp:=by
 obtain⟨f,fd,F,hm,hb⟩:=D.ex
 exact⟨f,fd,hm,F.kp,hb,F.ok S len fun cdv A outer s H vs Q E hr h=>XaS f cdv A outer s H vs Q E hr h⟩
section
variable {X:Cx}
def QG {x:Str}{p pos:Pos}{e:Expr}{es:Qi}{t:TA}{ps:Qh}{j k:Nat}{sp:Sp}(C:QB X.prog X.w X.K X.mg X.base x ps j sp)(hr:Room k X.A)(ha:PA X (e::es) t)(hj:j<=k:=by walk_at"j")(hg:Gl X x:=by rfl)
 (hdb:(x==("__debug__" : Str))=false:=by decide +kernel)
 (he:starEach (e::es) X.env=(false,eval e X.env)::starEach es X.env:=by rfl) (hpl:(backTo pos (starEach es X.env)).any (·.1)=false:=by rfl):PE X (.Call (.Name x p) (e::es) [] pos) (VI sp [] E0 t):=by
 obtain⟨f,fd,hm,hk,hb,F⟩:=C;exact NA F (hr.mono hj) hg hm hk hb .nil Jn ha hdb he hpl
end
def Vm:bootBuiltins "len"=some (.builtin "len"):=by decide +kernel
def M8:bootBuiltins "max"=some (.builtin "max"):=by decide +kernel
def Gj:bootBuiltins "min"=some (.builtin "min"):=by decide +kernel
def MS:bootBuiltins "sum"=some (.builtin "sum"):=by decide +kernel
def VJ:bootBuiltins "isinstance"=some (.builtin "isinstance"):=by decide +kernel
def MB:bootBuiltins "int"=some (.type "int"):=by decide +kernel
def Bn:bootBuiltins "bool"=some (.type "bool"):=by decide +kernel
def Br:bootBuiltins "list"=some (.type "list"):=by decide +kernel
def DB:bootBuiltins "tuple"=some (.type "tuple"):=by decide +kernel
mutual
theorem Rep.uniq {H:Hp}:∀{v:V} {d e:PyData},Rep H v d->Rep H v e->d=e
 |_,_,_,.non,.non=>rfl
 |_,_,_,.bl b,.bl _=>rfl
 |_,_,_,.int b,.int _=>rfl
 |_,_,_,.str b,.str _=>rfl
 |_,_,_,.lst h r,.lst h' r'=>by
   rw[h]at h';cases h';rw[Qw.uniq r r']
 |_,_,_,.tup h r,.tup h' r'=>by
   rw[h]at h';cases h';rw[Qw.uniq r r']
 |_,_,_,.lst h r,.tup h' r'=>by rw[h]at h';cases h'
 |_,_,_,.tup h r,.lst h' r'=>by rw[h]at h';cases h'
 |_,_,_,.dct h,.dct h'=>rfl
 |_,_,_,.lst h r,.dct h'=>by rw[h]at h';cases h'
 |_,_,_,.tup h r,.dct h'=>by rw[h]at h';cases h'
 |_,_,_,.dct h,.lst h' r'=>by rw[h]at h';cases h'
 |_,_,_,.dct h,.tup h' r'=>by rw[h]at h';cases h'
theorem Qw.uniq {H:Hp}:∀{vs:List V} {ds es:Qd},Qw H vs ds->Qw H vs es->ds=es
 |_,_,_,.nil,.nil=>rfl
 |_,_,_,.cons r t,.cons r' t'=>by rw[Rep.uniq r r',Qw.uniq t t']
end
section
variable {X:Cx}{tg:Expr}
end
section
variable {v:V}{ds:Qd}{g:TG}{tb:TS}{D:Ends}{σ:St}{H:Hp}
end
section
variable {f:List (Option Nat)}{g:TG}{tc:TT}{te:TE}{σ:St}{Q:VK}{H1:Hp}{v:V}{ds:Qd}
end
mutual
def noL:PyData->Bool
 |.none=>true
 |.bool _=>true
 |.int _=>true
 |.str _=>true
 |.list _=>false
 |.dict _=>false
 |.tuple ds=>noLs ds
def noLs:Qd->Bool
 |[]=>true
 |d::ds=>noL d&&noLs ds
end
mutual
theorem Rep.updL {H:Hp}{l:Addr}{us zs:List V}(hl:H l=some (.lst us)):∀{v:V} {d:PyData},noL d=true->Rep H v d->Rep (L2.upd H l (.lst zs)) v d
 |_,_,_,.non=>.non
 |_,_,_,.bl b=>.bl b
 |_,_,_,.int i=>.int i
 |_,_,_,.str x=>.str x
 |_,_,h,.lst _ _=>by simp[noL]at h
 |_,_,h,.tup ha r=>.tup (by rw[Qt (Kr ha hl (by intro z;cases z))];exact ha) (Qw.updL hl (by simpa [noL] using h) r)
theorem Qw.updL {H:Hp}{l:Addr}{us zs:List V}(hl:H l=some (.lst us)):∀{vs:List V} {ds:Qd},noLs ds=true->Qw H vs ds->Qw (L2.upd H l (.lst zs)) vs ds
 |_,_,_,.nil=>.nil
 |_,_,h,.cons r t=>.cons (Rep.updL hl (by simp[noLs]at h;exact h.1) r) (Qw.updL hl (by simp[noLs]at h;exact h.2) t)
end
def Si (a b:Int):Builtin.Range.rangeSize a b (-1)=((a-b).toNat:Int):=by
 unfold Builtin.Range.rangeSize;simp only[show ¬((-1:Int) > 0) by decide,if_false,show(-(-1):Int)=1 from rfl,Int.ediv_one]
 split<;>omega
def E9 {a b:Int}(ha : -(2^62)<=a)(ha':a<2^62)(hb : -(2^62)<=b)(hb':b<2^62):Builtin.Range.small a b (-1)=true:=by
 unfold Builtin.Range.small;rw[Si];simp only[Builtin.Range.rangeFitsLong,WZ,Bool.or_eq_true,decide_eq_true_eq,beq_iff_eq,show ¬((-1:Int) > 0) by decide,if_false];omega
def Me (hi:Int)(n:Nat):It:=⟨fun i _=>i<n,fun i H x H'=>H'=H/\x=.int (hi-i),fun i _=>n<=i⟩
theorem E1 {P:Program}{w:World}{K:W.Frag}{tg:Expr}(it:Addr)(hi:Int)(n:Nat):Turn P w K tg (Me hi n) [it] it (fun i h=>IsRangeIter h it (hi+(i:Nat)*(-1)) ((n:Int)-(i:Nat)) (-1)) where
 mem:=by simp
 obj:=fun i h st b hb=>by
  have e:b=it:=by simpa using hb
  subst e;exact⟨_,st,fun v z=>by
   have z':Data.fields _=Data.cell v:=z
   cases z'⟩
 keep:=fun i h h' st k=>k it (by simp) _ st
 item:=by
  intro X hP hw hK hc i XaR s σ H E I hf st hg;subst hP hw hK;obtain⟨f0,f1,f2,f3,f4,f5⟩:=hf it (by simp);have W:=Walks.range (prog:=X.prog) (w:=X.w) (I.ok.hd hc) it hi (-1) n;refine W.item i s _ _ hg st fun v h' tk hv st' kk=>?_;obtain⟨t,rfl⟩:=hv;have I1:Qq X XaR σ H { s with heap:=h',toks:=tk }:=I.turned (fun b o hb e=>kk b o (by simpa using hb) e) f0 f1 f3 f4 f5;refine⟨_,rfl,UX (s:={ s with heap:=h',toks:=tk }) (n := "range_iterator") st' rfl rfl (by decide) ⟨.int (hi-i),H,I1,⟨t,?_⟩,⟨rfl,rfl⟩,st',fun b hb=>(hf b hb).1⟩⟩;rw[show hi+(i:Int)*(-1)=hi-i by omega]
 done:=by
  intro X hP hw hK hc i XaR s σ H E I hf st hg;subst hP hw hK;obtain⟨f0,f1,f2,f3,f4,f5⟩:=hf it (by simp);exact wpAny_pyNext_range_end (I.ok.hd hc) st (by have:n<=i:=hg;omega) fun h' eb=>⟨rfl,I.turned (t':=s.toks) (fun b o hb e=>eb b o hb e) f0 f1 f3 f4 f5⟩
 self:=fun _ _ _ _ _ st h=>wpAny_pyIter_rangeiter st h
section
variable {X:Cx}{tg:Expr}
def Aw {XaR:Qc}{σ:St}{H:Hp}{s:Shared}{R:It->Hp->Prop}{E:Qb}{lo hi:Int}{t u v:Tok}{tk:Nat}(I:Qq X XaR σ H s)(h1 : -(2^62)<=hi)(h2:hi<2^62)(h3 : -(2^62)<=lo)(h4:lo<2^62)
 (q:R (Me hi (hi-lo).toNat) H):wpAny (model X.prog X.w) X.A (pyIter (.ref s.heap.objs.size)) (PIE X XaR σ tg R) E { s with heap:=s.heap.push { cls:=.type "range",data:=.fields #[.int hi t,.int lo u,.int (-1) v] },toks:=tk }:=by
 refine wpAny_pyIter_range (IsRange.new ..) (E9 h1 h2 h3 h4) ?_;have I1:Qq X XaR σ H { s with heap:=s.heap.push { cls:=.type "range",data:=.fields #[.int hi t,.int lo u,.int (-1) v] },toks:=tk }:=I.kept fun b o e=>Xf _ e
 refine⟨(s.heap.push { cls:=.type "range",data:=.fields #[.int hi t,.int lo u,.int (-1) v] }).objs.size,[(s.heap.push { cls:=.type "range",data:=.fields #[.int hi t,.int lo u,.int (-1) v] }).objs.size],_,_,H,rfl,
  I1.kept (t':=tk) fun b o e=>Xf _ e,E1 _ hi (hi-lo).toNat,?_,fun b hb=>?_,q⟩
 ·have e1:hi+((0:Nat):Int)*(-1)=hi:=by simp
  have e2:(((hi-lo).toNat:Nat):Int)-((0:Nat):Int)=Builtin.Range.rangeSize hi lo (-1):=by rw[Si];omega
  show IsRangeIter _ _ (hi+((0:Nat):Int)*(-1)) ((((hi-lo).toNat:Nat):Int)-((0:Nat):Int)) (-1);rw[e1,e2];exact Xu _ rfl
 ·have e:b=(s.heap.push { cls:=.type "range",data:=.fields #[.int hi t,.int lo u,.int (-1) v] }).objs.size:=by simpa using hb
  subst e;exact I1.fpOk (Xq _) (I1.hok.fresh (Xq _))
def K4 (ta:TA):TI:=fun σ H R=>ta σ H fun vs H1=>∃i j:Int,vs=[.int i,.int j,.int (-1)]/\(-(2^62)<=i/\i<2^62 /\ -(2^62)<=j/\j<2^62)/\R (Me i (i-j).toNat) H1
def RE {a b c:Expr} {ta:TA} {p pos:Pos} (hg:Gl X "range") (hm:X.mg "range"=none) (ha:PA X [a,b,c] ta) (hs:starEach [a,b,c] X.env=[(false,eval a X.env),(false,eval b X.env),(false,eval c X.env)]:=by rfl)
 (hs2:starEach [b,c] X.env=[(false,eval b X.env),(false,eval c X.env)]:=by rfl):PI X tg (.Call (.Name "range" p) [a,b,c] [] pos) (K4 ta):=by
 intro XaR s σ H R I h;refine Call_ (WH I hg hm boot_range (PyProof.Rows.callWith_type1 (Q6 (ha pos XaR s σ H _ I h) fun us s1 ⟨vs,H1,I1,r1,q1⟩=>?_) (by rw[hs,hs2]) (by rw[hs2];rfl)));obtain⟨i,j,e,⟨q1,q2,q3,q4⟩,q⟩:=q1;subst e;cases r1 with
 |cons r rr =>
   cases rr with
   |cons r' rr =>
     cases rr with
     |cons r2 rr =>
       cases rr
       obtain⟨t,rfl⟩:=r;obtain⟨t',rfl⟩:=r';obtain⟨t2,rfl⟩:=r2;exact call_range_3 (by decide) (Aw I1 q1 q2 q3 q4 q) (.inl (PyProof.noPylong_small (by decide)))
end
def M1 (K:W.Frag):V->V->Hp->VK->Prop:=fun o i H Q=>∃p xs k v,o=.ref p/\i=.int k/\SqL K H p xs/\0<=k/\xs[k.toNat]?=some v/\Q v H
def Ew (ns:Ql):preSum (fun i=>ns.getD i 0) ns.length=ns.sum:=by
 have key:∀k,k<=ns.length->preSum (fun i=>ns.getD i 0) k=(ns.take k).sum:=by
  intro k;induction k with
  |zero=>intro _;simp[preSum]
  |succ k ih =>
    intro hk;have h1:k<ns.length:=by omega
    rw[JO,GG,<- ih (by omega)];simp[preSum,h1]
 rw[key ns.length (Xq _),JQ]
theorem WM:∀{vs:Qe} {ns:Ql} {i:Nat} {v:Value},IntsAre vs ns->vs[i]?=some v->∃t,v=.int (ns.getD i 0) t
 |_,_,_,_,.nil,e=>by simp at e
 |_,_,0,_,.cons n t h,e=>by simp at e;exact⟨t,by simp[<- e]⟩
 |_,_,i+1,v,.cons n t h,e=>by
   obtain⟨t',z⟩:=WM (i:=i) (v:=v) h (by simpa using e)
   exact⟨t',by simpa using z⟩
def EL {prog:Program}{w:World}{A:Around}{E:Qb}{s:Shared}{l:Addr}{vs:Qe}{ns:Ql}{Q:Qb}(hh:A.handled=none)(hl:s.heap.IsList l vs.toArray)(hi:IntsAre vs ns)
 (h:∀h' tk t',(∀b o,s.heap.get? b=some o->h'.get? b=some o)->Q (.int ns.sum t') { s with heap:=h',toks:=tk }):wpAny (model prog w) A (call (.builtin "sum") [.ref l]) Q E s:=by
 obtain⟨o,ho,hc,n,hd⟩:=id hl;have hne:l≠s.heap.objs.size:=Xm (Xj ho);have W:=(Walks.list (prog:=prog) (w:=w) (A:=A.in1) hh s.heap.objs.size l hne vs.toArray).toS;refine call_sum_walkAnyS (wpAny_pyIter_list hl ?_);refine⟨s.heap.objs.size,_,_,_,_,_,_,fun i=>ns.getD i 0,rfl,W,⟨⟨_,Xu _ rfl,rfl,rfl⟩,hl.at fun o e=>Xf _ e⟩,fun b hb=>?_,fun i v hP=>WM hi (by simpa using hP),fun s' t' hm=>?_⟩
 ·rcases Xg.mp hb with rfl|hb
  ·exact Xj (Xu _ rfl)
  ·obtain rfl:=Xi.mp hb
   exact Xj (Xf _ ho)
 ·obtain⟨h',g',d',tk',os'⟩:=s'
  have e1:g'=s.gens:=hm.gens;have e2:d'=s.drawn:=hm.drawn;have e3:os'=s.os:=hm.os;subst e1 e2 e3;have es:vs.toArray.size=ns.length:=by rw[Xv,hi.length]
  rw[es,Ew];exact h h' tk' t' fun b o e=>hm.heap b o (fun hb=>Xl (Xj e) ((Xi.mp hb)▸X5 _)) (Xf _ e)
section
variable {X:Cx}
def Bv:Kn X (M1 X.K):=by
 intro XaR s σ H o i ov iv Q I ro ri h;obtain⟨p,xs,k,v,rfl,rfl,hq,h0,hv,q⟩:=h
 cases ro
 obtain⟨t,rfl⟩:=ri;obtain⟨its,r,pl,hz⟩:=I.list hq;obtain⟨w,ew,rw'⟩:=r.get hv;have hl:=r.length;have hn:=Jq;have hlt:k.toNat<xs.length:=(Xh.mp hv).1;exact wpAny_getItem_list pl.isList h0 (by omega) (by simpa using ew) ⟨v,H,I,rw',q⟩
def CM:Zr X (.builtin "sum") (fun xs H Q=>X.calm=true/\∃(x:V) (ns:Ql),xs=[x]/\Rep H x (.list (ns.map PyData.int))/\Q (.int ns.sum) H):=by
 intro XaR s σ H xs us Q I r h;obtain⟨hc,x,ns,rfl,hx,q⟩:=h;obtain⟨u,rfl,rx⟩:=VP r
 cases hx with
 |lst ha rr =>
   cases rx
   have er:=J9 rr;subst er;obtain⟨its,rv,p,hz⟩:=I.list (SqL.of (K:=X.K) ha);exact EL (I.ok.hd hc) p.isList (U8 rv) fun h' tk t' k=>⟨.int ns.sum,H,I.kept k,⟨_,rfl⟩,q⟩
end
section
variable {X:Cx}
def EA:Zr X (.type "range") (fun xs H Q=>∃j,xs=[.int j]/\∀p,H p=none->Q (.ref p) (upd H p (.rng 0 j))):=by
 intro XaR s σ H xs us Q I r h;obtain⟨j,rfl,q⟩:=h;obtain⟨u,rfl,t,rfl⟩:=VP r;refine call_range_1 ?_;refine⟨.ref s.heap.objs.size,_,I.laid (fun b o e=>Xf _ e) (Xq _) (o:=.rng 0 j) ?_,rfl,q _ I.fresh⟩
 exact⟨_,_,_,Xu _ rfl⟩
def WA (n:Nat):List V:=(List.range n).map fun(j:Nat)=>V.int (j:Int)
def Ct {vs:Qe}{n:Nat}(h1:vs.length=n)(h2:∀(j:Nat) (v:Value),vs[j]?=some v->∃t,v=Value.int (j:Int) t):QN (WA n) vs:=by
 have key:∀(k:Nat) (ws:Qe),(∀(j:Nat) (v:Value),ws[j]?=some v->∃t,v=Value.int ((k+j:Nat):Int) t)->QN ((List.range ws.length).map fun(j:Nat)=>V.int ((k+j:Nat):Int)) ws:=by
  intro k ws;induction ws generalizing k with
  |nil=>intro _;exact .nil
  |cons w ws ih =>
    intro hw;rw[XI,List.range_succ_eq_map,Xy,Wl];refine .cons ?_ ?_
    ·obtain⟨t,e⟩:=hw 0 w rfl
     exact⟨t,e⟩
    ·have:=ih (k+1) fun j v e=>by
      obtain⟨t,e'⟩:=hw (j+1) v (by simpa using e)
      exact⟨t,by rw[e'];congr 1;omega⟩
     have e2:((fun(j:Nat)=>V.int ((k+j:Nat):Int)) ∘ Nat.succ)=fun(j:Nat)=>V.int ((k+1+j:Nat):Int):=by
      funext j
      show V.int ((k+(j+1):Nat):Int)=_
      congr 1
      omega
     rw[e2];exact this
 have:=key 0 vs fun j v e=>by
  obtain⟨t,e'⟩:=h2 j v e
  exact⟨t,by rw[e'];congr 1;omega⟩
 rw[h1]at this;unfold WA;have e3:(fun(j:Nat)=>V.int ((0+j:Nat):Int))=fun(j:Nat)=>V.int (j:Int):=by
  funext j
  rw[Nat.zero_add]
 rw[e3]at this;exact this
def EX:Zr X (.type "list") (fun xs H Q=>X.calm=true/\∃(p:Addr) (n:Nat),xs=[.ref p]/\H p=some (.rng 0 (n:Int))/\n<=1000/\∀l,H l=none->Q (.ref l) (upd H l (.lst (WA n)))):=by
 intro XaR s σ H xs us Q I r h;obtain⟨hc,p,n,rfl,hp,hn,q⟩:=h;obtain⟨u,rfl,rx⟩:=VP r
 cases rx
 obtain⟨t,u,v,e⟩:=I.hok p _ hp;have hs:Builtin.Range.rangeSize 0 (n:Int) 1=(n:Int):=by rw[rangeSize_one];split<;>omega
 refine call_list_range (n:=n) (I.ok.hd hc) (a:=0) (b:=n) (c:=1) (t:=t) (u:=u) (v:=v) e (small_one (by decide) (by decide) (by omega) (by omega)) hs (by omega) fun h' tk acc' c' hk hS hacc=>?_;refine⟨.ref s.heap.objs.size,_,I.laid (o:=.lst (WA n)) hk (Xq _) ?_,rfl,q _ I.fresh⟩;refine⟨?_,acc'.toList,c',Ct ?_ ?_,by simpa using hS⟩
 ·unfold WA
  rw[Xn,UD];exact Yn (Vy hn)
 ·simpa using hacc.1
 ·intro j v hv
  obtain⟨t,e'⟩:=hacc.2 j v (by simpa using hv)
  exact⟨t,by rw[e'];congr 1;omega⟩
end
def Cd:bootBuiltins "range"=some (.type "range"):=by decide +kernel
def Qq.turnedL {X:Cx}{XaR:Qc}{σ:St}{H:Hp}{s:Shared}{h':Heap}{t':Nat}{ch:Qg}(I:Qq X XaR σ H s)(k:∀b o,b∉ch->s.heap.get? b=some o->h'.get? b=some o)(hch:∀b∈ch,VO X XaR H b):Qq X XaR σ H { s with heap:=h',toks:=t' }:=by
 refine I.step (g':=s.gens) (d':=s.drawn) (ch:=ch) (fun b hb=>?_) (fun b o _ _ hc e _=>k b o hc e) (fun b o _ _ hc e _=>⟨o.slots,k b o hc e⟩) (fun _ _ _ _ n=>n)
  (fun b o hc e=>⟨o,k b o hc e⟩) (fun _ _ e=>e) (fun _ _ _ e=>e) (fun b ps e=>⟨#[],by rw[e];simp⟩) (fun m hm=>?_) (fun b u e=>?_) I.bare (fun b _ o hc _ e=>k b o hc e)
 ·obtain⟨f0,f1,f2,f3,f4,f5⟩:=hch b hb
  exact⟨f3,f1,f4,f5⟩
 ·obtain⟨o,es,ep,ho,r⟩:=hm
  exact⟨o,es,ep,k _ o (fun z=>(hch _ z).2.1 rfl) ho,r⟩
 ·refine(I.hok b u e).stay (fun c v hc q=>k c v (fun z=>?_) q) (fun _ q=>q) fun _ _ q=>q
  have hn:=(hch c z).1
  rcases hc with rfl|hc
  ·rw[hn]at e;cases e
  ·rw[hn]at hc;cases hc
def Qq.trackTup {X:Cx}{XaR:Qc}{σ:St}{H:Hp}{s0 s:Shared}{T:Addr}{x y:V}{u v:Value}(I0:Qq X XaR σ H s0)(I:Qq X XaR σ H s)(hT:s0.heap.objs.size<=T)(rx:QJ x u)(ry:QJ y v)(tup:s.heap.IsTuple T #[u,v]):Qq X XaR σ (upd H T (.tup [x,y])) s:=by
 refine I.track (I0.hok.fresh hT) (X7 I0.sz hT) (XU (Xp I0.lt hT)) (fun z c e q=>?_) (fun p hp q=>?_) ⟨by show 2<=sizeLine;decide,[u,v],.cons rx (.cons ry .nil),tup⟩
 ·obtain⟨w,hw⟩:=I0.cell z c e
  exact Xl (Xp hw.lt (by rw[q];exact hT)) (X5 _)
 ·exact Xl (Xp (Xj (I0.pin p hp).1) (by rw[q];exact hT)) (X5 _)
def Ite (K:W.Frag)(a:Addr):It :=
 ⟨fun i H=>∃xs x,SqL K H a xs/\xs[i]?=some x,
  fun i H v H'=>∃p x,H p=none/\v=.ref p/\H'=upd H p (.tup [.int (i:Int),x])/\∀xs,SqL K H a xs->xs[i]?=some x,
  fun i H=>∃xs,SqL K H a xs/\i=xs.length⟩
theorem CP {P:Program}{w:World}{K:W.Frag}{elts:Qi}{k:Nat}{pos:Pos}{e it a:Addr}(hei:e≠it)(hle:a≠e)(hli:a≠it) :
 Turn P w K (.Tuple elts k pos) (Ite K a) [e,it] e (fun i h=>(∃old,IsEnum h e it i old)/\h.IsListIter it a i) where
 mem:=by simp
 obj:=fun i h st c hc=>by
  obtain⟨⟨old,he⟩,o1,e1,c1,d1⟩:=st;simp only[Xg,XL,or_false]at hc;rcases hc with rfl|rfl
  ·exact⟨_,he,fun v z=>nomatch z⟩
  ·exact⟨_,e1,fun v z=>by rw[d1]at z;cases z⟩
 keep:=fun i h h' st kk=>by
  obtain⟨⟨old,he⟩,h1⟩:=st
  exact⟨⟨old,kk e (by simp) _ he⟩,h1.at fun o x=>kk it (by simp) o x⟩
 item:=by
  intro X hP hw hK hc i XaR s σ H E I hf st hg;subst hP hw hK;obtain⟨xs,x,hq1,hx⟩:=hg;obtain⟨its1,rv1,p1,hz1⟩:=I.list hq1;obtain⟨u1,hu1,ru1⟩:=rv1.get hx;obtain⟨he,h1⟩:=st;have W:=WalksT.enumerate (prog:=X.prog) (w:=X.w) (A:=X.A) (I.ok.hd hc) e it a hei hle hli its1.toArray;have l1:i<its1.length:=(Xh.mp hu1).1;have wr:∀c∈[e,it],VO X XaR H c:=hf;refine W.item i s _ _ (by simp only[Xv];omega) ⟨he,h1,p1.isList⟩ fun T vals h' tk pt hT tup mid kp=>?_;obtain⟨t,v1,e1,rfl⟩:=pt
  have ev1:v1=u1:=by
   have:its1[i]?=some v1:=by simpa using e1
   rw[hu1]at this;exact(Option.some.inj this).symm
  subst ev1;have I1:Qq X XaR σ H { s with heap:=h',toks:=tk }:=I.turnedL kp wr;refine⟨.ref T,rfl,W.go elts k pos i T { s with heap:=h',toks:=tk } _ _ mid fun h'' st' kp2=>?_⟩;have I2:Qq X XaR σ H { s with heap:=h'',toks:=tk }:=I1.turnedL (t':=tk) kp2 wr
  have tup2:h''.IsTuple T #[.int (i:Int) t,v1]:=by
   obtain⟨o,ho,hcl,n,hd⟩:=tup
   exact⟨o,kp2 T o (W.apart i T h' mid) ho,hcl,n,hd⟩
  have I3:=I.trackTup I2 hT (x:=.int (i:Int)) ⟨t,rfl⟩ ru1 tup2;obtain⟨s1,s2,_⟩:=st';refine⟨.ref T,_,I3,rfl,⟨T,x,I.hok.fresh hT,rfl,rfl,fun xs' h=>by rw[I.list_inj h hq1];exact hx⟩,⟨s1,s2⟩,fun c hc'=>?_⟩
  have hlt:c<s.heap.objs.size:=by
   simp only[Xg,XL,or_false]at hc';obtain⟨old,he⟩:=he
   rcases hc' with rfl|rfl
   ·exact Xj he
   ·obtain⟨_,z,_⟩:=h1;exact Xj z
  rw[Qt (Xm (Xp hlt hT))];exact(hf c hc').1
 done:=by
  intro X hP hw hK hc i XaR s σ H E I hf st hg;subst hP hw hK;obtain⟨xs,hq1,rfl⟩:=hg;obtain⟨its1,rv1,p1,hz1⟩:=I.list hq1;obtain⟨he,h1⟩:=st;have W:=WalksT.enumerate (prog:=X.prog) (w:=X.w) (A:=X.A) (I.ok.hd hc) e it a hei hle hli its1.toArray;have en:xs.length=its1.toArray.size:=by simp[rv1.length]
  refine W.done s _ _ (by rw[<- en];exact⟨he,h1,p1.isList⟩) fun h' tk kp=>⟨rfl,I.turnedL kp hf⟩
 self:=fun _ _ _ _ _ st h=>by
  obtain⟨⟨old,he⟩,_⟩:=st;exact wpAny_pyIter_enum he h
section
variable {X:Cx}
def K6 (K:W.Frag)(ta:TA):TI:=fun σ H R=>ta σ H fun vs H1=>∃a,vs=[.ref a]/\(∃xs,SqL K H1 a xs)/\R (Ite K a) H1
def Ap:bootBuiltins "enumerate"=some (.type "enumerate"):=by decide +kernel
def S7 {a:Expr} {ta:TA} {p pos:Pos} {elts:Qi} {k:Nat} {tpos:Pos} (hg:Gl X "enumerate") (hm:X.mg "enumerate"=none) (ha:PA X [a] ta) (hs:starEach [a] X.env=[(false,eval a X.env)]:=by rfl) :
 PI X (.Tuple elts k tpos) (.Call (.Name "enumerate" p) [a] [] pos) (K6 X.K ta):=by
 intro XaR s σ H R I h;refine Call_ (WH I hg hm Ap (PyProof.Rows.callWith_type1 (Q6 (ha pos XaR s σ H _ I h) fun us s1 ⟨vs,H1,I1,r1,q1⟩=>?_) hs rfl));obtain⟨x,e,⟨xs,hx⟩,q⟩:=q1;subst e;obtain⟨u,rfl,rx⟩:=VP r1
 cases rx
 obtain⟨its1,rv1,p1,hz1⟩:=I1.list hx;refine call_enumerate_list p1.isList fun h' he h1 hsz kp=>wpAny_pyIter_enum he ?_;have lx:x<s1.heap.objs.size:=by obtain⟨o,ho,_⟩:=p1.isList;exact Xj ho
 have I2:Qq X XaR σ H1 { s1 with heap:=h' }:=I1.kept (t':=s1.toks) kp;refine⟨_,[s1.heap.objs.size+1,s1.heap.objs.size],_,_,H1,rfl,I2,CP (e:=s1.heap.objs.size+1) (it:=s1.heap.objs.size) (a:=x) (Nat.succ_ne_self _) (Xm (JR lx)) (Xm lx),⟨⟨_,he⟩,h1⟩,fun c hc=>?_,q⟩
 have hle:s1.heap.objs.size<=c:=by
  simp only[Xg,XL,or_false]at hc;rcases hc with rfl|rfl
  ·exact Nat.le_add_right _ _
  ·exact Xq _
 exact I1.fpOk hle (I1.hok.fresh hle)
end
def Dn {s:Shared}{h':Heap}{o:Obj}(hk:∀b x,b∉[s.heap.objs.size]->(s.heap.push o).get? b=some x->h'.get? b=some x):∀b x,s.heap.get? b=some x->h'.get? b=some x :=
 fun b x e=>hk b x (fun hm=>by rw[Xi.mp hm]at e;exact X5 _ (Xj e)) (Xf _ e)
def Yh:Ql->Int
 |[]=>0
 |[a]=>a
 |a::b::r=>min a (Yh (b::r))
theorem DG:∀{ns:Ql},ns≠[]->Yh ns∈ns/\∀a∈ns,Yh ns<=a
 |[],h=>Xl rfl h
 |[a],_=>by simp[Yh]
 |a::b::r,_=>by
   obtain⟨h1,h2⟩:=DG (ns:=b::r) (by simp);simp only[Yh];refine⟨?_,fun c hc=>?_⟩
   ·by_cases h:a<=Yh (b::r)
    ·rw[Int.min_eq_left h];exact Xc
    ·rw[Int.min_eq_right (by omega)];exact Xe _ h1
   ·rcases Xg.mp hc with rfl|hc
    ·omega
    ·have:=h2 c hc
     omega
def LD {ns:Ql}{M:Int}(h1:M∈ns)(h2:∀a∈ns,M<=a):M=Yh ns:=by
 obtain⟨g1,g2⟩:=DG (ns:=ns) (fun z=>by rw[z]at h1;cases h1)
 have:=h2 _ g1
 have:=g2 _ h1
 omega
section
variable {X:Cx}
def Ks (X:Cx):List V->Hp->VK->Prop:=fun xs H Q=>X.calm=true/\∃(x:V) (ns:Ql),xs=[x]/\Rep H x (.list (ns.map PyData.int))/\ns≠[]/\Q (.int (Yh ns)) H
def LE:Zr X (.builtin "min") (Ks X):=by
 intro XaR s σ H xs us Q I r h;obtain⟨hc,x,ns,rfl,hx,hne,q⟩:=h;obtain⟨u,rfl,rx⟩:=VP r
 cases hx with
 |@lst l ys _ ha rr =>
   cases rx
   have er:=J9 rr;subst er;obtain⟨its,rv,p,hz⟩:=I.list (SqL.of (K:=X.K) ha);have hl:=p.isList;have hi:=U8 rv;have hlen:its.length=ns.length:=hi.length;have hpos:0<ns.length:=BR.mpr hne;have hlt:l<s.heap.objs.size:=by obtain⟨_,e,_⟩:=hl;exact Xj e
   refine call_min_walk (wpAny_pyIter_list hl ?_)
   refine⟨s.heap.objs.size,[s.heap.objs.size,l],[s.heap.objs.size],its.toArray.size,_,_,_,rfl,Walks.list (A:=X.A.in1) (I.ok.hd hc) _ l (Xm hlt) its.toArray,
    ⟨⟨_,Xu _ rfl,rfl,rfl⟩,hl.push _⟩,fun b hb=>?_,by simp only[Xv];omega,CmpOf.ints_lt (fun i=>ns.getD i 0) (fun i v hP=>WM hi (by simpa using hP)),fun v h' tk hP hk=>?_⟩
   ·show b<(s.heap.push _).objs.size
    rw[YG];rcases Xg.mp hb with rfl|hb
    ·exact X9 _
    ·rcases Xg.mp hb with rfl|hb
     ·exact JR hlt
     ·cases hb
   ·rw[List.getElem?_toArray]at hP
    obtain⟨t,rfl⟩:=WM hi hP;obtain⟨g1,g2⟩:=argBest_lt (fun i=>ns.getD i 0) (its.toArray.size-1);have hsz:its.toArray.size=its.length:=by simp
    generalize argBest (fun i j=>decide (ns.getD i 0<ns.getD j 0)) (its.toArray.size-1)=k at g1 g2 ⊢;rw[hsz]at g1 g2;have hk2:k<ns.length:=by omega
    have em:ns.getD k 0=Yh ns:=by
     refine LD (by simp[hk2]) fun a ha'=>?_;obtain⟨j,hj,rfl⟩:=JU.mp ha'
     have:=g2 j (by omega)
     simpa [hj,hk2] using this
    exact⟨.int (Yh ns),H,I.kept (Dn hk),⟨t,by rw[em]⟩,q⟩
end
end L2
end
namespace Mir
def Yp (ns:Ql)(k:Int):Int:=ns.getD k.toNat 0
def Pj (x:Int):Nat:=if x==0 then 0 else x.natAbs.log2+1
def HV (i:Int):Int:=if i<0 then -i else i
def mix (head k:Int):Nat->Int×Int×Int
 |0=>(head%2147483629+7919*k,69621*k+5,0)
 |i+1 =>
   ((((mix head k i).1*48271+11+(i:Int)*k)%2147483647),
    (((mix head k i).2.1*16807+((mix head k i).1*48271+11+(i:Int)*k)%2147483647)%2147483629),
    (mix head k i).2.2*2147483629+(((mix head k i).2.1*16807+((mix head k i).1*48271+11+(i:Int)*k)%2147483647)%2147483629*(((mix head k i).2.1*16807+((mix head k i).1*48271+11+(i:Int)*k)%2147483647)%2147483629)+((mix head k i).1*48271+11+(i:Int)*k)%2147483647)%2147483587)
def PP (ns:Ql)(k:Int):Int :=
 if Yp ns 0/720%2=1 then (mix (Yp ns 0) k 30).2.2 else HV (Yp ns k)+(mix (Yp ns 0) k 30).2.2*2^Pj (HV (Yp ns k))
structure Ln where
 up:Option Nat
 bs:Ql
structure Yd where
 T:Nat
 ls:List Ln
def Zf (y:Yd)(k:Nat):Option Nat:=(y.ls[k]?).bind (·.up)
structure Yd.Ok (y:Yd):Prop where
 t1:1<=y.T
 t8:y.T<=8
 l1:1<=y.ls.length
 l5:y.ls.length<=5
 up0:Zf y 0=none
 ups:∀k,0<k->k<y.ls.length->∃a,Zf y k=some a/\a<k
 bl:∀l∈y.ls,l.bs.length=y.T
 bb:∀l∈y.ls,∀b∈l.bs,0<=b/\b<10^300
def MW {b:Int}(h:b<10^30):b<10^300:=Int.lt_trans h (by decide +kernel)
def upF9(y:Yd):Nat->Nat->Qk
 |0,k=>[k]
 |n+1,k=>k::match Zf y k with
  |none=>[]
  |some a=>if a<k then upF9 y n a else []
theorem upE9(y:Yd):∀n k m,k<=n->k<=m->upF9 y n k=upF9 y m k
 |0,k,0,_,_=>rfl
 |0,k,m+1,h,_=>by
  cases Nat.le_zero.mp h;unfold upF9;cases Zf y 0<;>simp
 |n+1,k,0,_,h=>by
  cases Nat.le_zero.mp h;unfold upF9;cases Zf y 0<;>simp
 |n+1,k,m+1,h,g=>by
  unfold upF9;cases Zf y k with
  |none=>rfl
  |some a=>
   by_cases l:a<k
   ·simp only[l,if_true,upE9 y n a m (by omega) (by omega)]
   ·simp only[l,if_false]
def upL(y:Yd)(k:Nat):Qk:=upF9 y k k
theorem upD9(y:Yd)(k:Nat):upL y k=k::match Zf y k with|none=>[]|some a=>if a<k then upL y a else []:=by
 unfold upL;rw[upE9 y k k (k+1) (Nat.le_refl _) (by omega)]
 show k::_=_
 cases Zf y k with
 |none=>rfl
 |some a=>
  by_cases l:a<k
  ·simp only[l,if_true,upE9 y k a a (by omega) (Nat.le_refl _)]
  ·simp only[l,if_false]
def KM {y:Yd}(ok:y.Ok){k:Nat}(hk:k<y.ls.length):upL y k=if k=0 then [0] else k::upL y ((Zf y k).getD 0):=by
 rw[upD9];by_cases h0:k=0
 ·subst h0;simp[ok.up0]
 ·obtain⟨a,e,l⟩:=ok.ups k (by omega) hk
  simp[e,l,h0]
def Np (y:Yd):∀k,∀j∈upL y k,j<=k:=by
 intro k;induction k using Nat.strongRecOn with
 |ind k ih =>
   intro j hj;rw[upD9]at hj;rcases Xg.mp hj with rfl|hj
   ·exact Xq _
   ·cases e:Zf y k with
    |none=>rw[e]at hj;simp at hj
    |some a =>
      rw[e]at hj;by_cases hl:a<k
      ·simp only[hl,if_true]at hj
       have:=ih a hl j hj
       omega
      ·simp only[hl,if_false]at hj;simp at hj
def DA (y:Yd)(k:Nat):k∈upL y k:=by rw[upD9];exact Xc
def MQ {y:Yd}(ok:y.Ok){k:Nat}(h0:0<k)(hk:k<y.ls.length){a:Nat}(e:Zf y k=some a)(l:Nat)(hl:l≠k):l∈upL y k↔l∈upL y a:=by
 rw[KM ok hk,Xb (by omega),e];simp only[GH,Xg];constructor
 ·rintro(h|h)
  ·exact Xl h hl
  ·exact h
 ·exact .inr
end Mir
namespace Mir
structure Gs where
 line:Nat
 first:Nat
 last:Nat
 want:Int
 most:Int
structure Gs.Ok (y:Yd)(g:Gs):Prop where
 ln:g.line<y.ls.length
 fl:g.first<=g.last
 lt:g.last<y.T
 w1:1<=g.want
 w2:g.want<10^300
 m1:1<=g.most
 m2:g.most<10^300
def gn0 (ns:Ql)(k:Nat):Int:=PP ns (6+(k:Int))
def gn1 (ns:Ql)(y:Yd)(k:Nat):Int:=gn0 ns k/(y.ls.length:Int)
def gn2 (ns:Ql)(y:Yd)(k:Nat):Int:=gn1 ns y k/(y.T:Int)
def gf (ns:Ql)(y:Yd)(k:Nat):Int:=gn1 ns y k%(y.T:Int)
def gl (ns:Ql)(y:Yd)(k:Nat):Int:=gf ns y k+gn2 ns y k%((y.T:Int)-gf ns y k)
def Wg (g:Gs)(t:Int):Bool:=decide ((g.first:Int)<=t)&&decide (t<=(g.last:Int))
def Zy (y:Yd)(l:Nat)(t:Nat):Int:=(((y.ls[l]?).map (·.bs)).getD []).getD t 0
def Z3 (gs:List Gs)(t:Int)(l:Nat):Qk->Int
 |[]=>0
 |k::r=>(match gs[k]? with|some g=>if g.line=l/\Wg g t=true then g.most else 0|none=>0)+Z3 gs t l r
def JF (gs:List Gs)(t:Int)(l:Nat)(a b:Qk):Z3 gs t l (a++b)=Z3 gs t l a+Z3 gs t l b:=by
 induction a with
 |nil=>simp[Z3]
 |cons k r ih=>simp only[WY,Z3,ih];omega
def YS (y:Yd)(b:Qn)(st:Qn)(j:Nat):Qn:=fun l=>st l+(if Zf y j=some l then min (st j) (b j) else 0)
def Vh (y:Yd)(b own:Qn):Nat->Qn
 |0=>own
 |i+1=>YS y b (Vh y b own i) (y.ls.length-1-i)
def V2 (y:Yd)(b own:Qn)(l:Nat):Int:=Vh y b own (y.ls.length-1) l
def passes (y:Yd)(b own:Qn)(l:Nat):Int:=min (V2 y b own l) (b l)
def W3 (y:Yd)(b own:Qn)(l:Nat):Qn
 |0=>0
 |n+1=>W3 y b own l n+(if Zf y (l+1+n)=some l then passes y b own (l+1+n) else 0)
theorem Sr (y:Yd)(ok:y.Ok)(b own:Qn)(l:Nat):∀i,i<=y.ls.length-1->y.ls.length-1-i<=l->∀d,i+d<=y.ls.length-1->Vh y b own (i+d) l=Vh y b own i l
 |i,hi,hl,0,_=>rfl
 |i,hi,hl,d+1,hd=>by
   have ih:=Sr y ok b own l i hi hl d (by omega);show YS y b (Vh y b own (i+d)) (y.ls.length-1-(i+d)) l=_;unfold YS;rw[ih];by_cases h0:0<y.ls.length-1-(i+d)
   ·obtain⟨a,ea,la⟩:=ok.ups (y.ls.length-1-(i+d)) h0 (by omega)
    rw[ea];have:¬some a=some l:=by
     intro z;injection z with z;omega
    rw[Xb this];omega
   ·have:y.ls.length-1-(i+d)=0:=by omega
    omega
def Sn {y:Yd}(ok:y.Ok)(b own:Qn){j:Nat}(hj:j<y.ls.length):Vh y b own (y.ls.length-1-j) j=V2 y b own j:=by
 unfold V2;have:=Sr y ok b own j (y.ls.length-1-j) (by omega) (by omega) j (by omega);rw[show y.ls.length-1-j+j=y.ls.length-1 by omega]at this;exact this.symm
theorem RX {y:Yd}(ok:y.Ok)(b own:Qn)(l:Nat):∀i,i<=y.ls.length-1->Vh y b own i l+W3 y b own l (y.ls.length-1-i-l)=own l+W3 y b own l (y.ls.length-1-l)
 |0,_=>by simp[Vh]
 |i+1,hi=>by
   have ih:=RX ok b own l i (by omega)
   have e:Vh y b own (i+1) l=Vh y b own i l+(if Zf y (y.ls.length-1-i)=some l then passes y b own (y.ls.length-1-i) else 0):=by
    show YS y b (Vh y b own i) (y.ls.length-1-i) l=_;unfold YS passes;have hj:y.ls.length-1-i<y.ls.length:=by have:=ok.l1;omega
    have rf:=Sn ok b own hj;rw[show y.ls.length-1-(y.ls.length-1-i)=i by omega]at rf;rw[rf]
   rw[e];by_cases hl:l<y.ls.length-1-i
   ·obtain⟨d,ed⟩:∃d,y.ls.length-1-i-l=d+1:=⟨y.ls.length-1-i-l-1,by omega⟩
    rw[ed]at ih;have e2:y.ls.length-1-(i+1)-l=d:=by omega
    rw[e2];have e3:l+1+d=y.ls.length-1-i:=by omega
    simp only[W3,e3]at ih;omega
   ·have e1:y.ls.length-1-i-l=0:=by omega
    have e2:y.ls.length-1-(i+1)-l=0:=by omega
    rw[e1]at ih;rw[e2];have:¬Zf y (y.ls.length-1-i)=some l:=by
     intro z;have h0:0<y.ls.length-1-i:=by omega
     obtain⟨a,ea,la⟩:=ok.ups (y.ls.length-1-i) h0 (by omega);rw[ea]at z;injection z with z;omega
    rw[Xb this];simp only[W3]at ih ⊢;omega
def Fj {y:Yd}(ok:y.Ok)(b own:Qn)(l:Nat):V2 y b own l=own l+W3 y b own l (y.ls.length-1-l):=by
 have h:=RX ok b own l (y.ls.length-1) (Xq _);rw[show y.ls.length-1-(y.ls.length-1)-l=0 by omega]at h;simp only[W3]at h;unfold V2;omega
end Mir
namespace Mir
def Q2 (f:Qn):Qn
 |0=>0
 |n+1=>Q2 f n+f n
theorem Zm {f g:Qn}:∀{n:Nat},(∀k,k<n->f k=g k)->Q2 f n=Q2 g n
 |0,_=>rfl
 |n+1,h=>by
   simp only[Q2];rw[Zm (n:=n) fun k hk=>h k (by omega),h n (by omega)]
theorem Wh {f g:Qn}:∀{n:Nat},(∀k,k<n->f k<=g k)->Q2 f n<=Q2 g n
 |0,_=>JW _
 |n+1,h=>by
   simp only[Q2];have:=Wh (n:=n) fun k hk=>h k (by omega)
   have:=h n (by omega)
   omega
theorem G1 (f g:Qn):∀n,Q2 (fun k=>f k+g k) n=Q2 f n+Q2 g n
 |0=>rfl
 |n+1=>by simp only[Q2];rw[G1 f g n];omega
theorem B6 (c:Int)(f:Qn):∀n,Q2 (fun k=>c*f k) n=c*Q2 f n
 |0=>by simp[Q2]
 |n+1=>by simp only[Q2];rw[B6 c f n,Int.mul_add]
theorem VB:∀n,Q2 (fun _=>0) n=0
 |0=>rfl
 |n+1=>by simp only[Q2];rw[VB n];rfl
theorem Uz {a:Nat}{v:Int}:∀{n:Nat},Q2 (fun l=>if l=a then v else 0) n=if a<n then v else 0
 |0=>by simp[Q2]
 |n+1=>by
   simp only[Q2];rw[Uz (n:=n)]
   by_cases h:n=a
   ·subst h;simp
   ·by_cases h2:a<n
    ·simp[h,h2];omega
    ·have:¬a<n+1:=by omega
     simp[h,h2,this]
def Fn {f:Qn}{n:Nat}(h:∀k,k<n->0<=f k):0<=Q2 f n:=by
 have:=Wh (f:=fun _=>0) (g:=f) (n:=n) h
 rw[VB]at this;exact this
def BB (f:Qn)(n:Nat):((List.range n).map f).sum=Q2 f n:=by
 induction n with
 |zero=>rfl
 |succ n ih=>rw[X6,XD,GG,ih];simp[Q2]
def wgt (gs:List Gs)(t:Int)(l k:Nat):Int:=match gs[k]? with|some g=>if g.line=l/\Wg g t=true then g.most else 0|none=>0
def L6 (gs:List Gs)(t:Int)(l k:Nat):Z3 gs t l [k]=wgt gs t l k:=by
 simp only[Z3,wgt];cases gs[k]? with
 |none=>rfl
 |some g=>simp
def A7 (gs:List Gs)(t:Int)(l:Nat)(p:Qm)(m:Nat):Z3 gs t l ((List.range m).filter p)=Q2 (fun k=>if p k=true then wgt gs t l k else 0) m:=by
 induction m with
 |zero=>rfl
 |succ m ih =>
   rw[X6,UG,JF,ih];simp only[Q2];cases e:p m with
   |true=>simp only[JP,e,if_true,List.filter_nil,L6]
   |false=>simp only[JP,e,List.filter_nil,Z3,XZ,if_false]
theorem BA (f:Nat->Qn)(n:Nat):∀m,Q2 (fun l=>Q2 (fun k=>f l k) m) n=Q2 (fun k=>Q2 (fun l=>f l k) n) m
 |0=>by simp only[Q2];exact VB n
 |m+1=>by
   simp only[Q2];rw[G1,BA f n m]
end Mir
namespace Mir
section
variable {y:Yd}{b b' own:Qn}{l0:Nat}
end
end Mir
section
namespace L2
open PySem PySem.Spec PyProof.Rows
structure Q1 (F H F' H':Hp):Prop where
 hh:Q4 H H'
 ff:Q4 F F'
 fh:Q4 F' H'
 fr:∀a,F' a≠none->F a≠none\/H a=none
def Q1.refl {F H:Hp}(s:Q4 F H):Q1 F H F H:=⟨Q4.refl _,Q4.refl _,s,fun _ h=>.inl h⟩
def Q1.trans {F H F1 H1 F2 H2:Hp}(a:Q1 F H F1 H1)(b:Q1 F1 H1 F2 H2):Q1 F H F2 H2 :=
 ⟨a.hh.trans b.hh,a.ff.trans b.ff,b.fh,fun p h=>by
  rcases b.fr p h with z|z
  ·exact a.fr p z
  ·exact .inr (a.hh.free z)⟩
def Z1 {H:Hp}{a:Addr}{o:HO}(h:H a=some o):H a≠none:=by rw[h];exact fun z=>nomatch z
def MZ {H:Hp}{a:Addr}(h:H a≠none):∃o,H a=some o:=by
 cases e:H a with
 |none=>exact Xl e h
 |some o=>exact⟨o,rfl⟩
def FP {F H:Hp}{p:Addr}{o:HO}(s:Q4 F H):Q4 (upd F p o) (upd H p o):=fun b u e=>by
 by_cases h:b=p
 ·subst h;rw[QA]at e ⊢;exact e
 ·rw[Qt h]at e ⊢;exact s b u e
def Q1.new {F H:Hp}{p:Addr}{o:HO}(s:Q4 F H)(hp:H p=none):Q1 F H (upd F p o) (upd H p o) :=
 ⟨Q4.new hp,Q4.new (s.free hp),FP s,fun a h=>by
  by_cases e:a=p
  ·subst e;exact .inr hp
  ·rw[Qt e]at h;exact .inl h⟩
def Q1.own {F H:Hp}{p:Addr}{o:HO}(s:Q4 F H)(hp:H p=none):Q1 F H F (upd H p o) :=
 ⟨Q4.new hp,Q4.refl _,s.upd (s.free hp),fun _ h=>.inl h⟩
def Q1.freeze {F0 H0 F H:Hp}{a:Addr}{o:HO}(x:Q1 F0 H0 F H)(hf:F a=none)(ho:H a=some o)(h0:H0 a=none):Q1 F0 H0 (upd F a o) H :=
 ⟨x.hh,x.ff.trans (Q4.new hf),fun b u e=>by
  by_cases h:b=a
  ·subst h;rw[QA]at e;rw[ho];exact e
  ·rw[Qt h]at e;exact x.fh b u e,fun b h=>by
  by_cases e:b=a
  ·subst e;exact .inr h0
  ·rw[Qt e]at h;exact x.fr b h⟩
def Q1.free {F H F' H':Hp}{a:Addr}(x:Q1 F H F' H')(hf:F a=none)(hh:H a≠none):F' a=none:=by
 cases e:F' a with
 |none=>rfl
 |some o =>
   rcases x.fr a (Z1 e) with z|z
   ·exact Xl hf z
   ·exact Xl z hh
structure OwnP where
 ok:W.Frag->Hp->Hp->V->Qg->Prop
 there:∀{K:W.Frag} {F H:Hp} {v:V} {p:Qg},ok K F H v p->∀a∈p,F a=none/\H a≠none
 mono:∀{K:W.Frag} {F F' H H':Hp} {v:V} {p:Qg},Q4 F F'->(∀a∈p,F' a=none)->(∀a∈p,H' a=H a)->ok K F H v p->ok K F' H' v p
 uniq:∀{K:W.Frag} {F H:Hp} {v:V} {p q:Qg},ok K F H v p->ok K F H v q->∀a∈q,a∈p
structure ZP where
 ok:W.Frag->Hp->V->Prop
 mono:∀{K:W.Frag} {F F':Hp} {v:V},Q4 F F'->ok K F v->ok K F' v
inductive OT where
 |zow (Ψ:ZP)
 |fz (d:PyData)
 |ol (ds:Qd)
 |oll (dss:List (Qd))
 |scr (ns:Ql)
 |own (v:V) (Φ:OwnP)
abbrev Q5:=List (Option OT)
def Vj (F H:Hp)(a:Addr)(ds:Qd):Prop:=F a=none/\∃xs,H a=some (.lst xs)/\Qw F xs ds
def ZD (F H:Hp):Qg->List (Qd)->Prop
 |[],[]=>True
 |a::as,ds::dss=>Vj F H a ds/\ZD F H as dss
 |_,_=>False
def Zk (K:W.Frag)(F H:Hp)(v:V):OT->Qg->Prop
 |.fz d,p=>p=[]/\Rep F v d
 |.ol ds,p=>∃a,v=.ref a/\p=[a]/\Vj F H a ds
 |.oll dss,p=>∃a as,v=.ref a/\p=a::as/\(a::as).Nodup/\F a=none/\H a=some (.lst (as.map V.ref))/\ZD F H as dss
 |.scr ns,p=>p=[]/\∃a,v=.ref a/\Scr K F a ns
 |.own v0 Φ,p=>v=v0/\Φ.ok K F H v p
 |.zow Ψ,p=>p=[]/\Ψ.ok K F v
def Q4.at_eq {H H':Hp}(s:Q4 H H'){a:Addr}(h:H a≠none):H' a=H a:=by
 cases e:H a with
 |none=>exact Xl e h
 |some o=>exact s _ _ e
def Vj.ext {F H F' H':Hp}{a:Addr}{ds:Qd}(h:Vj F H a ds)(x:Q1 F H F' H'):Vj F' H' a ds:=by
 obtain⟨h1,xs,h2,h3⟩:=h
 exact⟨x.free h1 (Z1 h2),xs,x.hh _ _ h2,h3.mono x.ff⟩
theorem ZD.ext {F H F' H':Hp}(x:Q1 F H F' H'):∀{as:Qg} {dss:List (Qd)},ZD F H as dss->ZD F' H' as dss
 |[],[],_=>trivial
 |_::_,_::_,h=>⟨h.1.ext x,ZD.ext x h.2⟩
 |[],_::_,h=>False.elim h
 |_::_,[],h=>False.elim h
theorem ZD.mem {F H:Hp}:∀{as:Qg} {dss:List (Qd)},ZD F H as dss->∀a∈as,F a=none/\H a≠none
 |[],[],_,a,ha=>by cases ha
 |b::as,_::_,h,a,ha=>by
   rcases Xg.mp ha with rfl|ha
   ·obtain⟨h1,xs,h2,_⟩:=h.1
    exact⟨h1,Z1 h2⟩
   ·exact ZD.mem h.2 a ha
 |[],_::_,h,_,_=>False.elim h
 |_::_,[],h,_,_=>False.elim h
def Zk.ext {K:W.Frag}{F H F' H':Hp}{v:V}{t:OT}{p:Qg}(h:Zk K F H v t p)(x:Q1 F H F' H'):Zk K F' H' v t p:=by
 cases t with
 |fz d=>exact⟨h.1,h.2.mono x.ff⟩
 |zow Ψ=>exact⟨h.1,Ψ.mono x.ff h.2⟩
 |ol ds=>obtain⟨a,h1,h2,h3⟩:=h;exact⟨a,h1,h2,h3.ext x⟩
 |oll dss=>obtain⟨a,as,h1,h2,h3,h4,h5,h6⟩:=h;exact⟨a,as,h1,h2,h3,x.free h4 (Z1 h5),x.hh _ _ h5,h6.ext x⟩
 |scr ns=>obtain⟨h1,a,h2,h3⟩:=h;exact⟨h1,a,h2,h3.mono x.ff⟩
 |own v0 Φ=>exact⟨h.1,Φ.mono x.ff (fun a ha=>x.free (Φ.there h.2 a ha).1 (Φ.there h.2 a ha).2) (fun a ha=>x.hh.at_eq (Φ.there h.2 a ha).2) h.2⟩
def Zk.there {K:W.Frag}{F H:Hp}{v:V}{t:OT}{p:Qg}(h:Zk K F H v t p):∀a∈p,F a=none/\H a≠none:=by
 cases t with
 |fz d=>obtain⟨rfl,_⟩:=h;intro a ha;cases ha
 |zow Ψ=>obtain⟨rfl,_⟩:=h;intro a ha;cases ha
 |ol ds =>
   obtain⟨a,h1,rfl,h3,xs,h4,_⟩:=h;intro b hb;have e:b=a:=by simpa using hb
   subst e;exact⟨h3,Z1 h4⟩
 |oll dss =>
   obtain⟨a,as,h1,rfl,h3,h4,h5,h6⟩:=h;intro b hb;rcases Xg.mp hb with rfl|hb
   ·exact⟨h4,Z1 h5⟩
   ·exact h6.mem b hb
 |scr ns=>obtain⟨rfl,_⟩:=h;intro a ha;cases ha
 |own v0 Φ=>exact Φ.there h.2
def Vj.other {F H:Hp}{a b:Addr}{o:HO}{ds:Qd}(h:Vj F H a ds)(n:a≠b):Vj F (upd H b o) a ds:=by
 obtain⟨h1,xs,h2,h3⟩:=h
 exact⟨h1,xs,by rw[Qt n];exact h2,h3⟩
theorem ZD.other {F H:Hp}{b:Addr}{o:HO}:∀{as:Qg} {dss:List (Qd)},ZD F H as dss->b∉as->ZD F (upd H b o) as dss
 |[],[],_,_=>trivial
 |a::as,_::_,h,n=>⟨h.1.other (fun z=>n (by rw[z];exact Xc)),ZD.other h.2 fun z=>n (Xe _ z)⟩
 |[],_::_,h,_=>False.elim h
 |_::_,[],h,_=>False.elim h
def Zk.other {K:W.Frag}{F H:Hp}{v:V}{t:OT}{p:Qg}{b:Addr}{o:HO}(h:Zk K F H v t p)(n:b∉p):Zk K F (upd H b o) v t p:=by
 cases t with
 |fz d=>exact h
 |zow Ψ=>exact h
 |ol ds=>obtain⟨a,h1,rfl,h3⟩:=h;exact⟨a,h1,rfl,h3.other (fun z=>n (by simp[z]))⟩
 |oll dss =>
   obtain⟨a,as,h1,rfl,h3,h4,h5,h6⟩:=h
   exact⟨a,as,h1,rfl,h3,h4,by rw[Qt (fun z=>n (by simp[z]))];exact h5,h6.other fun z=>n (Xe _ z)⟩
 |scr ns=>exact h
 |own v0 Φ=>exact⟨h.1,Φ.mono (Q4.refl _) (fun a ha=>(Φ.there h.2 a ha).1) (fun a ha=>Qt fun z=>n (by rw[<- z];exact ha)) h.2⟩
def KTs (K:W.Frag) (F:Hp):Prop := ∃gS gE,W.nsIn K mainGlobals "START"=some (some (.ref gS))/\W.nsIn K mainGlobals "END"=some (some (.ref gE))/\F gS=some (.tup [.str "start"])/\F gE=some (.tup [.str "end"])
def KTs.mono {K:W.Frag}{F F':Hp}(h:KTs K F)(s:Q4 F F'):KTs K F':=by
 obtain⟨gS,gE,h1,h2,h3,h4⟩:=h
 exact⟨gS,gE,h1,h2,s _ _ h3,s _ _ h4⟩
structure QC (K:W.Frag)(H0 F:Hp)(ρ:Q5)(σ:St)(H:Hp):Prop where
 kt:KTs K F
 sub:Q4 F H
 len:σ.length=ρ.length
 fp:∃fp:Nat->Qg,(∀(i:Nat) (t:OT),ρ[i]?=some (some t)->∃v,σ[i]?=some (some v)/\Zk K F H v t (fp i)) /\
  (∀(i j:Nat) (a:Addr),a∈fp i->a∈fp j->i=j)/\∀(i:Nat) (a:Addr),a∈fp i->H0 a=none/\H a≠none
def QC.ext {K:W.Frag}{H0 F F' H H':Hp}{ρ:Q5}{σ:St}(s:QC K H0 F ρ σ H)(x:Q1 F H F' H'):QC K H0 F' ρ σ H':=by
 obtain⟨kt,h1,h2,fp,h3,h4,h5⟩:=s;refine⟨kt.mono x.ff,x.fh,h2,fp,fun i t e=>?_,h4,fun i a ha=>?_⟩
 ·obtain⟨v,e1,e2⟩:=h3 i t e
  exact⟨v,e1,e2.ext x⟩
 ·obtain⟨e1,e2⟩:=h5 i a ha
  obtain⟨o,e3⟩:=MZ e2
  exact⟨e1,Z1 (x.hh _ _ e3)⟩
def Fgt:Q5->Q5->Prop
 |[],[]=>True
 |_::r,none::r'=>Fgt r r'
 |s::r,some x::r'=>s=some x/\Fgt r r'
 |_,_=>False
theorem Fgt.len:∀{ρ ρ':Q5},Fgt ρ ρ'->ρ.length=ρ'.length
 |[],[],_=>rfl
 |_::r,none::r',h=>by
   have h':Fgt r r':=h
   simp[Fgt.len h']
 |s::r,some x::r',h=>by
   have h':s=some x/\Fgt r r':=h
   simp[Fgt.len h'.2]
 |[],none::_,h=>False.elim h
 |[],some _::_,h=>False.elim h
 |_::_,[],h=>False.elim h
theorem Fgt.get:∀{ρ ρ':Q5},Fgt ρ ρ'->∀(i:Nat) (t:OT),ρ'[i]?=some (some t)->ρ[i]?=some (some t)
 |[],[],_,i,t,e=>by simp at e
 |_::r,none::r',h,0,t,e=>by simp at e
 |_::r,none::r',h,i+1,t,e=>by
   have h':Fgt r r':=h
   have:=Fgt.get h' i t (by simpa using e)
   simpa using this
 |s::r,some x::r',h,0,t,e=>by
   have h':s=some x/\Fgt r r':=h
   simp at e;subst e;simp[h'.1]
 |s::r,some x::r',h,i+1,t,e=>by
   have h':s=some x/\Fgt r r':=h
   have:=Fgt.get h'.2 i t (by simpa using e)
   simpa using this
 |[],none::_,h,_,_,_=>False.elim h
 |[],some _::_,h,_,_,_=>False.elim h
 |_::_,[],h,_,_,_=>False.elim h
def QC.fgt {K:W.Frag}{H0 F H:Hp}{ρ ρ':Q5}{σ:St}(s:QC K H0 F ρ σ H)(f:Fgt ρ ρ'):QC K H0 F ρ' σ H:=by
 obtain⟨kt,h1,h2,fp,h3,h4,h5⟩:=s
 exact⟨kt,h1,h2.trans f.len,fp,fun i t e=>h3 i t (f.get i t e),h4,h5⟩
def QC.set {K:W.Frag}{H0 F H:Hp}{ρ:Q5}{σ:St}{i:Nat}{v:V}{t:OT}{p:Qg}(s:QC K H0 F ρ σ H)(ok:Zk K F H v t p)
 (hp:∀(a:Addr),a∈p->H0 a=none)
 (hn:∀(a:Addr),a∈p->∀(j:Nat) (u:V) (t':OT) (q:Qg),ρ[j]?=some (some t')->σ[j]?=some (some u)->Zk K F H u t' q->a∉q) :
 QC K H0 F (ρ.set i (some t)) (σ.set i (some v)) H:=by
 obtain⟨kt,h1,h2,fp,h3,h4,h5⟩:=s;refine⟨kt,h1,by simp[h2],fun j=>if j=i then p else if (ρ[j]?).join.isSome then fp j else [],fun j t' e=>?_,fun j k a ha hb=>?_,fun j a ha=>?_⟩
 ·by_cases hj:j=i
  ·subst hj
   have hlt:j<ρ.length:=by
    have:=(Xh.mp e).1
    simpa using this
   rw[Xr hlt]at e;cases e;refine⟨v,Xr (by omega),?_⟩;dsimp only;rw[Xd rfl];exact ok
  ·rw[Xw (Ne.symm hj)]at e
   obtain⟨u,e1,e2⟩:=h3 j t' e;refine⟨u,by rw[Xw (Ne.symm hj)];exact e1,?_⟩;dsimp only;rw[Xb hj,e,Xd (by rfl)];exact e2
 ·have key:∀(j:Nat),j≠i->a∈(if j=i then p else if (ρ[j]?).join.isSome then fp j else [])->∃t' u,ρ[j]?=some (some t')/\σ[j]?=some (some u)/\Zk K F H u t' (fp j)/\a∈fp j:=fun j hj hm=>by
   rw[Xb hj]at hm;cases e:(ρ[j]?).join with
   |none=>rw[e]at hm;simp at hm
   |some t' =>
     rw[e]at hm;have e':ρ[j]?=some (some t'):=by
      cases z:ρ[j]? with
      |none=>rw[z]at e;simp at e
      |some w=>rw[z]at e;simp at e;rw[e]
     obtain⟨u,e1,e2⟩:=h3 j t' e'
     exact⟨t',u,e',e1,e2,by simpa using hm⟩
  by_cases hj:j=i
  ·by_cases hk:k=i
   ·omega
   ·obtain⟨t',u,e1,e2,e3,e4⟩:=key k hk hb
    have ha':a∈p:=by simpa [hj] using ha
    exact Xl e4 (hn a ha' k u t' _ e1 e2 e3)
  ·obtain⟨t',u,e1,e2,e3,e4⟩:=key j hj ha
   by_cases hk:k=i
   ·have hb':a∈p:=by simpa [hk] using hb
    exact Xl e4 (hn a hb' j u t' _ e1 e2 e3)
   ·obtain⟨t2,u2,f1,f2,f3,f4⟩:=key k hk hb
    exact h4 j k a e4 f4
 ·by_cases hj:j=i
  ·have ha':a∈p:=by simpa [hj] using ha
   exact⟨hp a ha',(ok.there a ha').2⟩
  ·simp only[Xb hj]at ha
   split at ha
   ·exact h5 j a ha
   ·cases ha
def QC.setF {K:W.Frag}{H0 F H:Hp}{ρ:Q5}{σ:St}{i:Nat}{v:V}{d:PyData}(s:QC K H0 F ρ σ H)(r:Rep F v d):QC K H0 F (ρ.set i (some (.fz d))) (σ.set i (some v)) H :=
 s.set (p:=[]) ⟨rfl,r⟩ (fun a ha=>nomatch ha) (hn:=fun a ha=>nomatch ha)
def QC.write {K:W.Frag}{H0 F H:Hp}{ρ:Q5}{σ:St}{i:Nat}{ds:Qd}(s:QC K H0 F ρ σ H)(e:ρ[i]?=some (some (.ol ds))) :
 ∃a xs,σ[i]?=some (some (.ref a))/\H a=some (.lst xs)/\Qw F xs ds/\H0 a=none/\F a=none/\∀xs' ds',Qw F xs' ds'->QC K H0 F (ρ.set i (some (.ol ds'))) σ (upd H a (.lst xs')):=by
 obtain⟨kt,h1,h2,fp,h3,h4,h5⟩:=s;obtain⟨v,e1,a,rfl,e2,e3,xs,e4,e5⟩:=h3 i _ e;have ha:a∈fp i:=by rw[e2];exact Xc
 refine⟨a,xs,e1,e4,e5,(h5 i a ha).1,e3,fun xs' ds' r=>?_⟩;have hlt:=(Xh.mp e).1;refine⟨kt,h1.upd e3,by simp[h2],fp,fun j t' e'=>?_,h4,fun j b hb=>?_⟩
 ·by_cases hj:j=i
  ·subst hj
   rw[Xr hlt]at e';cases e'
   exact⟨_,e1,a,rfl,e2,e3,xs',QA,r⟩
  ·rw[Xw (Ne.symm hj)]at e'
   obtain⟨u,f1,f2⟩:=h3 j t' e'
   exact⟨u,f1,f2.other fun z=>hj (h4 j i a z ha)⟩
 ·obtain⟨f1,f2⟩:=h5 j b hb
  refine⟨f1,?_⟩
  by_cases z:b=a
  ·subst z;rw[QA];exact fun q=>nomatch q
  ·rw[Qt z];exact f2
def QC.freeze {K:W.Frag}{H0 F H:Hp}{ρ:Q5}{σ:St}{i:Nat}{ds:Qd}(s:QC K H0 F ρ σ H)(e:ρ[i]?=some (some (.ol ds))) :
 ∃a xs,F a=none/\H a=some (.lst xs)/\H0 a=none/\σ[i]?=some (some (.ref a))/\Qw F xs ds/\QC K H0 (upd F a (.lst xs)) (ρ.set i (some (.fz (.list ds)))) σ H:=by
 obtain⟨kt,h1,h2,fp,h3,h4,h5⟩:=s;obtain⟨v,e1,a,rfl,e2,e3,xs,e4,e5⟩:=h3 i _ e;have ha:a∈fp i:=by rw[e2];exact Xc
 have hlt:=(Xh.mp e).1;have sm:Q4 F (upd F a (.lst xs)):=Q4.new e3;refine⟨a,xs,e3,e4,(h5 i a ha).1,e1,e5,kt.mono sm,?_,by simp[h2],fun j=>if j=i then [] else fp j,fun j t' e'=>?_,fun j k b hb hc=>?_,fun j b hb=>?_⟩
 ·intro b u hb
  by_cases z:b=a
  ·subst z;rw[QA]at hb;rw[e4];exact hb
  ·rw[Qt z]at hb;exact h1 b u hb
 ·by_cases hj:j=i
  ·subst hj
   rw[Xr hlt]at e';cases e';refine⟨_,e1,?_,.lst QA (e5.mono sm)⟩;dsimp only;rw[Xd rfl]
  ·rw[Xw (Ne.symm hj)]at e'
   obtain⟨u,f1,f2⟩:=h3 j t' e';refine⟨u,f1,?_⟩;dsimp only;rw[Xb hj];have na:a∉fp j:=fun z=>hj (h4 j i a z ha);have nb:∀b,F b=none->b≠a->upd F a (.lst xs) b=none:=fun b hb hn=>by rw[Qt hn];exact hb
   have go:∀{b:Addr} {es:Qd},b≠a->Vj F H b es->Vj (upd F a (.lst xs)) H b es:=fun{b es} hn ⟨z1,zs,z2,z3⟩=>⟨nb _ z1 hn,zs,z2,z3.mono sm⟩
   cases t' with
   |fz d=>exact⟨f2.1,f2.2.mono sm⟩
   |zow Ψ=>exact⟨f2.1,Ψ.mono sm f2.2⟩
   |ol es =>
     obtain⟨b,g1,g2,g3⟩:=f2
     exact⟨b,g1,g2,go (fun z=>na (by rw[g2,z];exact Xc)) g3⟩
   |oll dss =>
     obtain⟨b,bs,g1,g2,g3,g4,g5,g6⟩:=f2;refine⟨b,bs,g1,g2,g3,nb _ g4 (fun z=>na (by rw[g2,z];exact Xc)),g5,?_⟩;have nbs:a∉bs:=fun z=>na (by rw[g2];exact Xe _ z)
     clear g1 g2 g3 g5;have all:∀(bs:Qg) (dss:List (Qd)),a∉bs->ZD F H bs dss->ZD (upd F a (.lst xs)) H bs dss:=by
      intro bs;induction bs with
      |nil =>
        intro dss _ h;cases dss with
        |nil=>exact trivial
        |cons _ _=>exact False.elim h
      |cons c cs ih =>
        intro dss hn h;cases dss with
        |nil=>exact False.elim h
        |cons es ess=>exact⟨go (fun z=>hn (by rw[z];exact Xc)) h.1,ih ess (fun z=>hn (Xe _ z)) h.2⟩
     exact all bs dss nbs g6
   |scr ns =>
     obtain⟨g1,b,g2,g3⟩:=f2
     exact⟨g1,b,g2,g3.mono sm⟩
   |own v0 Φ=>exact⟨f2.1,Φ.mono sm (fun b hb=>nb b (Φ.there f2.2 b hb).1 fun z=>na (by rw[<- z];exact hb)) (fun _ _=>rfl) f2.2⟩
 ·by_cases hj:j=i
  ·simp[hj]at hb
  ·by_cases hk:k=i
   ·simp[hk]at hc
   ·simp only[Xb hj]at hb
    simp only[Xb hk]at hc;exact h4 j k b hb hc
 ·by_cases hj:j=i
  ·simp[hj]at hb
  ·simp only[Xb hj]at hb
   exact h5 j b hb
inductive Args (K:W.Frag)(F:Hp):List V->List OT->Prop
 |nil:Args K F [] []
 |fz {v:V} {d:PyData} {vs:List V} {ts:List OT}:Rep F v d->Args K F vs ts->Args K F (v::vs) (.fz d::ts)
 |zow {v:V} {Ψ:ZP} {vs:List V} {ts:List OT}:Ψ.ok K F v->Args K F vs ts->Args K F (v::vs) (.zow Ψ::ts)
 |scr {a:Addr} {ns:Ql} {vs:List V} {ts:List OT}:Scr K F a ns->Args K F vs ts->Args K F (.ref a::vs) (.scr ns::ts)
theorem Args.length {K:W.Frag}{F:Hp}:∀{vs:List V} {ts:List OT},Args K F vs ts->vs.length=ts.length
 |_,_,.nil=>rfl
 |_,_,.fz _ t=>by simp[Args.length t]
 |_,_,.scr _ t=>by simp[Args.length t]
 |_,_,.zow _ t=>by simp[Args.length t]
theorem Args.get {K:W.Frag}{F H:Hp}:∀{vs:List V} {ts:List OT},Args K F vs ts->∀(i:Nat) (t:OT),ts[i]?=some t->∃v,vs[i]?=some v/\Zk K F H v t []
 |_,_,.nil,i,t,e=>by simp at e
 |_,_,.fz r _,0,t,e=>by simp at e;subst e;exact⟨_,rfl,rfl,r⟩
 |_,_,.scr r _,0,t,e=>by simp at e;subst e;exact⟨_,rfl,rfl,_,rfl,r⟩
 |_,_,.zow r _,0,t,e=>by simp at e;subst e;exact⟨_,rfl,rfl,r⟩
 |_,_,.zow _ q,i+1,t,e=>by
   obtain⟨v,h1,h2⟩:=Args.get (H:=H) q i t (by simpa using e)
   exact⟨v,by simpa using h1,h2⟩
 |_,_,.fz _ q,i+1,t,e=>by
   obtain⟨v,h1,h2⟩:=Args.get (H:=H) q i t (by simpa using e)
   exact⟨v,by simpa using h1,h2⟩
 |_,_,.scr _ q,i+1,t,e=>by
   obtain⟨v,h1,h2⟩:=Args.get (H:=H) q i t (by simpa using e)
   exact⟨v,by simpa using h1,h2⟩
section
variable (K:W.Frag)
def Qu (t:TE)(ρ:Q5)(d:PyData):Prop := ∀(H0 F:Hp) (σ:St) (H:Hp) (Q:VK),QC K H0 F ρ σ H->(∀F' H' v,Q1 F H F' H'->Rep F' v d->Q v H')->t σ H Q
def EvO (t:TE)(ρ:Q5)(r:OT):Prop := ∀(H0 F:Hp) (σ:St) (H:Hp) (Q:VK),QC K H0 F ρ σ H->(∀F' H' v p,Q1 F H F' H'->(∀a∈p,H a=none)->Zk K F' H' v r p->Q v H')->t σ H Q
def Zb (t:TT)(ρ:Q5)(b:Bool):Prop := ∀(H0 F:Hp) (σ:St) (H:Hp) (Q:Bool->Hp->Prop),QC K H0 F ρ σ H->(∀F' H',Q1 F H F' H'->Q b H')->t σ H Q
def Z2 (t:TA)(ρ:Q5)(ts:List OT):Prop := ∀(H0 F:Hp) (σ:St) (H:Hp) (Q:List V->Hp->Prop),QC K H0 F ρ σ H->(∀F' H' vs,Q1 F H F' H'->Args K F' vs ts->Q vs H')->t σ H Q
def Ng (F':Hp)(J:It)(ds:Qd):Prop := ∀(F'' H'':Hp),Q4 F' F''->Q4 F'' H''->J.stop ds.length H'' /\
 ∀(i:Nat) (d:PyData),ds[i]?=some d->J.go i H''/\∀x H3,J.yld i H'' x H3->∃F3,Q1 F'' H'' F3 H3/\Rep F3 x d
def EvI (wi:TI)(ρ:Q5)(ds:Qd):Prop := ∀(H0 F:Hp) (σ:St) (H:Hp) (R:It->Hp->Prop),QC K H0 F ρ σ H->(∀F' H' J,Q1 F H F' H'->Ng F' J ds->R J H')->wi σ H R
def GTo (g:TG)(d:PyData)(ρ ρ':Q5):Prop := ∀(H0 F:Hp) (σ:St) (H:Hp) (x:V) (Q:St->Hp->Prop),QC K H0 F ρ σ H->Rep F x d->(∀σ',QC K H0 F ρ' σ' H->Q σ' H)->g x σ H Q
def US (g:TGs)(ds:Qd)(ρ ρ':Q5):Prop := ∀(H0 F:Hp) (σ:St) (H:Hp) (xs:List V) (Q:St->Hp->Prop),QC K H0 F ρ σ H->Qw F xs ds->(∀σ',QC K H0 F ρ' σ' H->Q σ' H)->g xs σ H Q
structure PEnds where
 nx:Q5->Prop
 rt:OT->Prop
 bk:Q5->Prop:=fun _=>False
 ct:Q5->Prop:=fun _=>False
structure Cnv (F0 H0:Hp)(D:PEnds)(E:Ends):Prop where
 nx:∀F σ H ρ,Q1 F0 H0 F H->QC K H0 F ρ σ H->D.nx ρ->E.nx σ H
 rt:∀F H v r p,Q1 F0 H0 F H->(∀a∈p,H0 a=none)->Zk K F H v r p->D.rt r->E.rt v H
 bk:∀F σ H ρ,Q1 F0 H0 F H->QC K H0 F ρ σ H->D.bk ρ->E.bk σ H
 ct:∀F σ H ρ,Q1 F0 H0 F H->QC K H0 F ρ σ H->D.ct ρ->E.ct σ H
def Q0 (t:TS)(ρ:Q5)(D:PEnds):Prop := ∀(F0 H0 F:Hp) (σ:St) (H:Hp) (E:Ends),Q1 F0 H0 F H->QC K H0 F ρ σ H->Cnv K F0 H0 D E->t E σ H
end
section
variable {K:W.Frag}{ρ:Q5}{ta tb tc:TE}{tA tB':TT}
def Qu.o {t:TE}{d:PyData}(h:Qu K t ρ d):EvO K t ρ (.fz d):=fun H0 F σ H Q S q=>h H0 F σ H Q S fun F' H' v x r=>q F' H' v [] x (fun _ z=>nomatch z) ⟨rfl,r⟩
def EvO.e {t:TE}{d:PyData}(h:EvO K t ρ (.fz d)):Qu K t ρ d:=fun H0 F σ H Q S q=>h H0 F σ H Q S fun F' H' v p x _ r=>q F' H' v x r.2
def EvO.fz {t:TE}{ds:Qd}(h:EvO K t ρ (.ol ds)):Qu K t ρ (.list ds):=fun H0 F σ H Q S q=>h H0 F σ H Q S fun F' H' v p x hp r=>by
 obtain⟨a,rfl,rfl,r1,xs,r2,r3⟩:=r;refine q (upd F' a (.lst xs)) H' _ (x.freeze r1 r2 (hp a Xc)) (.lst QA (r3.mono (Q4.new r1)))
def Qr {i:Nat}{d:PyData}(e:ρ[i]?=some (some (.fz d))):Qu K (QD i) ρ d:=fun H0 F σ H Q S q=>by
 obtain⟨fp,h,_⟩:=S.fp;obtain⟨v,e1,e2⟩:=h i _ e
 exact⟨v,e1,q F H v (Q1.refl S.sub) e2.2⟩
def Q8 {i:Int}:Qu K (tC (.int i)) ρ (.int i):=fun H0 F σ H Q S q=>q F H _ (Q1.refl S.sub) (.int i)
def UU {b:Bool}:Qu K (tC (.bl b)) ρ (.bool b):=fun H0 F σ H Q S q=>q F H _ (Q1.refl S.sub) (.bl b)
def Gd:Qu K (tC .non) ρ .none:=fun H0 F σ H Q S q=>q F H _ (Q1.refl S.sub) .non
def Y7 {x:Str}:Qu K (tC (.str x)) ρ (.str x):=fun H0 F σ H Q S q=>q F H _ (Q1.refl S.sub) (.str x)
def Y8 {a b:PyData}{Q:VK}{r:R2}{H0 F H:Hp}{σ:St}(ha:Qu K ta ρ a)(hb:Qu K tb ρ b)(S:QC K H0 F ρ σ H)
 (h:∀F' H' x y,Q1 F H F' H'->Rep F' x a->Rep F' y b->r x y H' Q):tOp r ta tb σ H Q :=
 ha H0 F σ H _ S fun F1 H1 x x1 r1=>hb H0 F1 σ H1 _ (S.ext x1) fun F2 H2 y x2 r2=>h F2 H2 x y (x1.trans x2) (r1.mono x2.ff) r2
def ZG {g:Int->Int->Int}{x y:Int}(ha:Qu K ta ρ (.int x))(hb:Qu K tb ρ (.int y)):Qu K (tOp (rI0 fun i j=>.int (g i j)) ta tb) ρ (.int (g x y)):=fun H0 F σ H Q S q =>
 Y8 ha hb S fun F' H' u v e r1 r2=>by cases r1;cases r2;exact⟨x,y,rfl,rfl,q F' H' _ e (.int _)⟩
def Yj {g:Int->Int->Bool}{x y:Int}(ha:Qu K ta ρ (.int x))(hb:Qu K tb ρ (.int y)):Qu K (tOp (rI0 fun i j=>.bl (g i j)) ta tb) ρ (.bool (g x y)):=fun H0 F σ H Q S q =>
 Y8 ha hb S fun F' H' u v e r1 r2=>by cases r1;cases r2;exact⟨x,y,rfl,rfl,q F' H' _ e (.bl _)⟩
def ZO {C:Int->Int->Prop}{g:Int->Int->Int}{x y:Int}(ha:Qu K ta ρ (.int x))(hb:Qu K tb ρ (.int y))(hc:C x y):Qu K (tOp (rI C fun i j=>.int (g i j)) ta tb) ρ (.int (g x y)):=fun H0 F σ H Q S q =>
 Y8 ha hb S fun F' H' u v e r1 r2=>by cases r1;cases r2;exact⟨x,y,rfl,rfl,hc,q F' H' _ e (.int _)⟩
def SU {g:Int->Int}{x:Int}(ha:Qu K ta ρ (.int x)):Qu K (tUn (rU fun i=>.int (g i)) ta) ρ (.int (g x)):=fun H0 F σ H Q S q =>
 ha H0 F σ H _ S fun F1 H1 v x1 r1=>by cases r1;exact⟨x,rfl,q F1 H1 _ x1 (.int _)⟩
def Vl:PyData->Option V
 |.none=>some .non
 |.bool b=>some (.bl b)
 |.int i=>some (.int i)
 |.str x=>some (.str x)
 |_=>Option.none
def Rep.flat {H:Hp}{x v:V}{d:PyData}(r:Rep H x d)(e:Vl d=some v):x=v:=by
 cases r<;>simp[Vl]at e<;>exact e
def TU {a b:PyData}{v w:V}(ha:Qu K ta ρ a)(hb:Qu K tb ρ b)(e1:Vl a=some v)(e2:Vl b=some w)(hs:∀(H:Hp) (Q:VK),Q (.bl (decide (v=w))) H->rEq v w H Q) :
 Qu K (tOp rEq ta tb) ρ (.bool (decide (v=w))):=fun H0 F σ H Q S q =>
 Y8 ha hb S fun F' H' x y e r1 r2=>by rw[r1.flat e1,r2.flat e2];exact hs _ _ (q F' H' _ e (.bl _))
def P3 {a b:PyData}{v w:V}(ha:Qu K ta ρ a)(hb:Qu K tb ρ b)(e1:Vl a=some v)(e2:Vl b=some w)(hs:∀(H:Hp) (Q:VK),Q (.bl (!decide (v=w))) H->rNe v w H Q) :
 Qu K (tOp rNe ta tb) ρ (.bool (!decide (v=w))):=fun H0 F σ H Q S q =>
 Y8 ha hb S fun F' H' x y e r1 r2=>by rw[r1.flat e1,r2.flat e2];exact hs _ _ (q F' H' _ e (.bl _))
def Rm {x y:Int}:decide (V.int x=V.int y)=decide (x=y):=by
 by_cases h:x=y
 ·subst h;simp
 ·rw[XN h,XN (fun z=>h (by injection z))]
def Ga {x y:Int}(ha:Qu K ta ρ (.int x))(hb:Qu K tb ρ (.int y)):Qu K (tOp rEq ta tb) ρ (.bool (decide (x=y))):=by
 rw[<- Rm];exact TU ha hb rfl rfl fun H Q q=>⟨rfl,q⟩
def Gc {x y:Int}(ha:Qu K ta ρ (.int x))(hb:Qu K tb ρ (.int y)):Qu K (tOp rNe ta tb) ρ (.bool (!decide (x=y))):=by
 rw[<- Rm];exact P3 ha hb rfl rfl fun H Q q=>⟨rfl,q⟩
def K1 {a b:PyData}(ha:Qu K ta ρ a)(hb:Qu K tb ρ b)(fa:V1 a)(fb:V1 b):Qu K (tOp HZ ta tb) ρ (.bool (PyData.eqv a b)):=fun H0 F σ H Q S q =>
 Y8 ha hb S fun F' H' x y e r1 r2=>⟨a,b,r1.mono e.fh,r2.mono e.fh,fa,fb,q F' H' _ e (.bl _)⟩
def Jr {a b:PyData}(ha:Qu K ta ρ a)(hb:Qu K tb ρ b)(fa:V1 a)(fb:V1 b):Qu K (tOp Kf ta tb) ρ (.bool (!PyData.eqv a b)):=fun H0 F σ H Q S q =>
 Y8 ha hb S fun F' H' x y e r1 r2=>⟨a,b,r1.mono e.fh,r2.mono e.fh,fa,fb,q F' H' _ e (.bl _)⟩
def Kt:PyData->Bool
 |.none=>true
 |_=>false
def Rep.isNon {H:Hp}{x:V}{d:PyData}(r:Rep H x d):decide (x=.non)=Kt d:=by cases r<;>rfl
def KI {a:PyData}(ha:Qu K ta ρ a):Qu K (Kq ta) ρ (.bool (!Kt a)):=fun H0 F σ H Q S q =>
 ha H0 F σ H _ S fun F1 H1 v x1 r1=>by rw[r1.isNon];exact q F1 H1 _ x1 (.bl _)
def ZB {b:Bool}(h:Qu K ta ρ (.bool b)):Zb K (Mt ta) ρ b:=fun H0 F σ H Q S q=>h H0 F σ H _ S fun F1 H1 v x1 r1=>by cases r1;exact⟨b,rfl,q F1 H1 x1⟩
def ZH {b:Bool}(h:Qu K ta ρ (.bool b)):Zb K (tB ta) ρ b:=fun H0 F σ H Q S q=>h H0 F σ H _ S fun F1 H1 v x1 r1=>by cases r1;exact⟨b,rfl,q F1 H1 x1⟩
def Ke:Zb K UT ρ true:=fun H0 F σ H Q S q=>q F H (Q1.refl S.sub)
def UZ {b c:Bool}(h1:Zb K tA ρ b)(h2:b=true->Zb K tB' ρ c):Zb K (Ka tA tB') ρ (b&&c):=fun H0 F σ H Q S q=>h1 H0 F σ H _ S fun F1 H1 x1=>by
 cases b with
 |true=>rw[Xd rfl];exact h2 rfl H0 F1 σ H1 Q (S.ext x1) fun F2 H2 x2=>by simpa using q F2 H2 (x1.trans x2)
 |false=>rw[Xb Xs];simpa using q F1 H1 x1
def YN {b c:Bool}(h1:Zb K tA ρ b)(h2:b=false->Zb K tB' ρ c):Zb K (tOr tA tB') ρ (b||c):=fun H0 F σ H Q S q=>h1 H0 F σ H _ S fun F1 H1 x1=>by
 cases b with
 |false=>rw[Xb Xs];exact h2 rfl H0 F1 σ H1 Q (S.ext x1) fun F2 H2 x2=>by simpa using q F2 H2 (x1.trans x2)
 |true=>rw[Xd rfl];simpa using q F1 H1 x1
def VY {b:Bool}(h1:Zb K tA ρ b):Zb K (Kb tA) ρ (!b):=fun H0 F σ H Q S q=>h1 H0 F σ H _ S fun F1 H1 x1=>q F1 H1 x1
def Gb {b c:Bool}(h1:Qu K ta ρ (.bool b))(h2:b=true->Qu K tb ρ (.bool c)):Qu K (KB ta tb) ρ (.bool (b&&c)):=fun H0 F σ H Q S q=>h1 H0 F σ H _ S fun F1 H1 v x1 r1=>by
 cases r1
 refine⟨b,rfl,?_⟩
 cases b with
 |true=>rw[Xd rfl];exact h2 rfl H0 F1 σ H1 Q (S.ext x1) fun F2 H2 v x2 r2=>by simpa using q F2 H2 v (x1.trans x2) (by simpa using r2)
 |false=>rw[Xb Xs];exact q F1 H1 _ x1 (.bl _)
def Kz {b:Bool}(h1:Qu K ta ρ (.bool b)):Qu K (Ku ta) ρ (.bool (!b)):=fun H0 F σ H Q S q=>h1 H0 F σ H _ S fun F1 H1 v x1 r1=>by cases r1;exact⟨b,rfl,q F1 H1 _ x1 (.bl _)⟩
def Gq {g g':Int->Int->Bool}{x y z:Int}(ha:Qu K ta ρ (.int x))(hb:Qu K tb ρ (.int y))(hc:Qu K tc ρ (.int z)) :
 Qu K (MT (rI0 fun i j=>.bl (g i j)) (rI0 fun i j=>.bl (g' i j)) ta tb tc) ρ (.bool (g x y&&g' y z)):=fun H0 F σ H Q S q =>
 ha H0 F σ H _ S fun F1 H1 v x1 r1=>hb H0 F1 σ H1 _ (S.ext x1) fun F2 H2 w x2 r2=>by
  cases r1;cases r2
  refine⟨x,y,rfl,rfl,g x y,rfl,?_⟩
  cases e:g x y with
  |true=>rw[Xd rfl];exact hc H0 F2 σ H2 _ (S.ext (x1.trans x2)) fun F3 H3 u x3 r3=>by cases r3;exact⟨y,z,rfl,rfl,by simpa [e] using q F3 H3 _ ((x1.trans x2).trans x3) (by rw[e];exact .bl _)⟩
  |false=>rw[Xb Xs];simpa [e] using q F2 H2 _ (x1.trans x2) (by rw[e];exact .bl _)
def Q9:Z2 K QO ρ []:=fun H0 F σ H Q S q=>q F H [] (Q1.refl S.sub) .nil
def Qv {t:TA}{d:PyData}{ts:List OT}(h1:Qu K ta ρ d)(h2:Z2 K t ρ ts):Z2 K (QE ta t) ρ (.fz d::ts):=fun H0 F σ H Q S q =>
 h1 H0 F σ H _ S fun F1 H1 v x1 r1=>h2 H0 F1 σ H1 _ (S.ext x1) fun F2 H2 vs x2 r2=>q F2 H2 _ (x1.trans x2) (.fz (r1.mono x2.ff) r2)
def GU {t:TA}{i:Nat}{ns:Ql}{ts:List OT}(e:ρ[i]?=some (some (.scr ns)))(h2:Z2 K t ρ ts):Z2 K (QE (QD i) t) ρ (.scr ns::ts):=fun H0 F σ H Q S q=>by
 obtain⟨fp,h,_⟩:=S.fp;obtain⟨v,e1,_,a,rfl,e3⟩:=h i _ e
 exact⟨_,e1,h2 H0 F σ H _ S fun F2 H2 vs x2 r2=>q F2 H2 _ x2 (.scr (e3.mono x2.ff) r2)⟩
def Be {t:TA}{i:Nat}{Ψ:ZP}{ts:List OT}(e:ρ[i]?=some (some (.zow Ψ)))(h2:Z2 K t ρ ts):Z2 K (QE (QD i) t) ρ (.zow Ψ::ts):=fun H0 F σ H Q S q=>by
 obtain⟨fp,h,_⟩:=S.fp;obtain⟨v,e1,_,e3⟩:=h i _ e
 exact⟨_,e1,h2 H0 F σ H _ S fun F2 H2 vs x2 r2=>q F2 H2 _ x2 (.zow (Ψ.mono x2.ff e3) r2)⟩
def fzs (ds:Qd):List OT:=ds.map OT.fz
theorem Args.reps {F:Hp}:∀{vs:List V} {ds:Qd},Args K F vs (fzs ds)->Qw F vs ds
 |_,[],.nil=>.nil
 |_,_::_,.fz r t=>.cons r (Args.reps t)
def Wt {t:TA}{ds:Qd}(h:Z2 K t ρ (fzs ds))(hl:ds.length<=1000):Qu K (UQ t) ρ (.tuple ds):=fun H0 F σ H Q S q =>
 h H0 F σ H _ S fun F1 H1 vs x1 r1=>⟨by rw[r1.reps.length];exact Yn (Vy hl),fun p hp=>by
  have s1:=x1.fh;exact q _ _ _ (x1.trans (Q1.new s1 hp)) (.tup QA (r1.reps.mono (Q4.new (s1.free hp))))⟩
def Jy {F0 H0 F H:Hp}{p:Addr}{xs:List V}{ds:Qd}(x:Q1 F0 H0 F H)(hp:H p=none)(r:Qw F xs ds):Q1 F0 H0 F (upd H p (.lst xs))/\(∀a∈[p],H0 a=none)/\Zk K F (upd H p (.lst xs)) (.ref p) (.ol ds) [p] :=
 ⟨x.trans (Q1.own x.fh hp),fun a ha=>by
  have e:a=p:=by simpa using ha
  subst e;exact x.hh.free hp,p,rfl,rfl,x.fh.free hp,xs,QA,r⟩
def Vd {t:TA}{ds:Qd}(h:Z2 K t ρ (fzs ds))(hl:ds.length<=1000):EvO K (W5 t) ρ (.ol ds):=fun H0 F σ H Q S q =>
 h H0 F σ H _ S fun F1 H1 vs x1 r1=>⟨by rw[r1.reps.length];exact Yn (Vy hl),fun p hp=>by
  obtain⟨a,b,c⟩:=Jy (K:=K) x1 hp r1.reps;exact q _ _ _ _ a b c⟩
def J8 {F H:Hp}{x:V}{ds:Qd}(r:Rep F x (.list ds))(s:Q4 F H):∃a xs,x=.ref a/\SqL K H a xs/\Qw F xs ds/\H a=some (.lst xs):=by
 cases r with
 |lst ha rr=>exact⟨_,_,rfl,SqL.of (s _ _ ha),rr,s _ _ ha⟩
def G5 {F H:Hp}{x:V}{ds:Qd}(r:Rep F x (.tuple ds))(s:Q4 F H):∃a xs,x=.ref a/\SqT K H a xs/\Qw F xs ds/\H a=some (.tup xs):=by
 cases r with
 |tup ha rr=>exact⟨_,_,rfl,SqT.of (s _ _ ha),rr,s _ _ ha⟩
def U5 {F:Hp}{xs:List V}{ds:Qd}{i:Int}{d:PyData}(r:Qw F xs ds)(e:atI ds i=some d):∃z,atI xs i=some z/\Rep F z d:=by
 obtain⟨j,e1,e2⟩:=KP e;obtain⟨z,z1,z2⟩:=r.get e1;refine⟨z,?_,z2⟩;unfold atI;rw[r.length,e2];exact z1
def VL {ds:Qd}{i:Int}{d:PyData}(ha:Qu K ta ρ (.list ds))(hb:Qu K tb ρ (.int i))(e:atI ds i=some d):Qu K (tOp (rIx K) ta tb) ρ d:=fun H0 F σ H Q S q =>
 Y8 ha hb S fun F' H' x y x1 r1 r2=>by
  obtain⟨a,xs,rfl,h1,h2,_⟩:=J8 (K:=K) r1 x1.fh;obtain⟨z,z1,z2⟩:=U5 h2 e
  cases r2
  exact .inl ⟨a,xs,i,z,rfl,rfl,h1,z1,q F' H' z x1 z2⟩
def Y5 {ds:Qd}{i:Int}{d:PyData}(ha:Qu K ta ρ (.tuple ds))(hb:Qu K tb ρ (.int i))(e:atI ds i=some d):Qu K (tOp (rIx K) ta tb) ρ d:=fun H0 F σ H Q S q =>
 Y8 ha hb S fun F' H' x y x1 r1 r2=>by
  obtain⟨a,xs,rfl,h1,h2,_⟩:=G5 (K:=K) r1 x1.fh;obtain⟨z,z1,z2⟩:=U5 h2 e
  cases r2
  exact .inr (.inl ⟨a,xs,i,z,rfl,rfl,h1,z1,q F' H' z x1 z2⟩)
def Uo {i:Nat}{ds:Qd}{k:Int}{d:PyData}(e0:ρ[i]?=some (some (.ol ds)))(hb:Qu K tb ρ (.int k))(e:atI ds k=some d):Qu K (tOp (rIx K) (QD i) tb) ρ d:=fun H0 F σ H Q S q=>by
 obtain⟨fp,h,_⟩:=S.fp;obtain⟨v,e1,a,rfl,_,o1⟩:=h i _ e0;refine⟨_,e1,hb H0 F σ H _ S fun F1 H1 y x1 r1=>?_⟩;obtain⟨f1,xs,f2,f3⟩:=o1.ext x1;obtain⟨z,z1,z2⟩:=U5 f3 e
 cases r1
 exact .inl ⟨a,xs,k,z,rfl,rfl,SqL.of f2,z1,q F1 H1 z x1 z2⟩
def Pd {i:Nat}{ns:Ql}{k n:Int}(e0:ρ[i]?=some (some (.scr ns)))(hb:Qu K tb ρ (.int k))(e:atI ns k=some n):Qu K (tOp (rIx K) (QD i) tb) ρ (.int n):=fun H0 F σ H Q S q=>by
 obtain⟨fp,h,_⟩:=S.fp;obtain⟨v,e1,_,a,rfl,sc⟩:=h i _ e0;refine⟨_,e1,hb H0 F σ H _ S fun F1 H1 y x1 r1=>?_⟩
 cases r1
 obtain⟨j,j1,j2⟩:=KP e
 have z1:atI (ns.map V.int) k=some (.int n):=by
  unfold atI;rw[Xn,j2];show(ns.map V.int)[j]?=_;rw[Xt,j1];rfl
 exact .inl ⟨a,_,k,_,rfl,rfl,(x1.ff.trans x1.fh).seq sc.sq,z1,q F1 H1 _ x1 (.int n)⟩
def QL (R:List OT->OT->Prop):Sp:=fun vs H Q _=>∃F ts r,KTs K F/\Q4 F H/\Args K F vs ts/\R ts r/\∀F' H' v p,Q1 F H F' H'->(∀a∈p,H a=none)->Zk K F' H' v r p->Q v H'
def ML {R:List OT->OT->Prop}{t:TA}{E:XK}{ts:List OT}{r:OT}(h:Z2 K t ρ ts)(hR:R ts r):EvO K (VI (QL (K:=K) R) [] E t) ρ r:=fun H0 F σ H Q S q =>
 h H0 F σ H _ S fun F1 H1 vs x1 r1=>by
  refine⟨F1,ts,r,(S.ext x1).kt,x1.fh,by rw[XG];exact r1,hR,fun F2 H2 v p x2 hp ok=>q F2 H2 v p (x1.trans x2) (fun a ha=>x1.hh.free (hp a ha)) ok⟩
def Zd {R:List OT->OT->Prop}{t:TA}{E:XK}{ts:List OT}{d:PyData}(h:Z2 K t ρ ts)(hR:R ts (.fz d)):Qu K (VI (QL (K:=K) R) [] E t) ρ d:=(ML h hR).e
def Pm {R:List OT->OT->Prop}{t:TA}{E:XK}{ts:List OT}{ds:Qd}(h:Z2 K t ρ ts)(hR:R ts (.ol ds)):Qu K (VI (QL (K:=K) R) [] E t) ρ (.list ds):=(ML h hR).fz
end
def Df.ev {P:Program}{w:World}{K:W.Frag}{mg:Str->Qf}{base:Heap}{x:Str}{st:Stmt}{N ps:Qh}{k:Nat}{R:List OT->OT->Prop}(D:Df K mg x st ps)(S:Qp N ps (Qy st))(len:∀ts r,R ts r->ts.length=ps.length)
 (XaS:∀(f:Addr) (cdv:Value) (A:Around) (outer:List Env) (s:Shared) (H:Hp) (E:XK) (ts:List OT) (r:OT),Room k (A.deeper (envOfC x (Qy st) s.heap.objs.size f cdv))->R ts r ->
  ∃t,PSs (Vi CX0 P w K mg base N x (Qy st) f cdv A outer s H E).nox (Zh st) t/\Q0 K t (ts.map some++List.replicate (N.length-ts.length) none) { nx:=fun _=>r=.fz .none,rt:=fun r'=>r'=r }):QB P w K mg base x ps (k+1) (QL (K:=K) R):=by
 refine D.cal S (fun vs H Q E ⟨F,ts,r,_,_,ha,hR,_⟩=>ha.length.trans (len ts r hR)) fun f cdv A outer s H vs Q E hr ⟨F,ts,r,kt,sm,ha,hR,q⟩=>?_;obtain⟨t,h1,h2⟩:=XaS f cdv A outer s H E ts r hr hR;refine⟨t,h1,h2 F H F (start N vs) H _ (Q1.refl sm) ⟨kt,sm,?_,fun _=>[],fun i t' e=>?_,fun i j a h=>(nomatch h),fun i a h=>(nomatch h)⟩ ⟨fun F' σ' H' ρ' x' _ e=>?_,fun F' H' v r' p x' hp ok e=>?_,fun _ _ _ _ _ _ z=>False.elim z,fun _ _ _ _ _ _ z=>False.elim z⟩⟩
 ·unfold start
  simp[ha.length]
 ·have hlt:i<ts.length:=by
   by_cases z:i<ts.length
   ·exact z
   ·rw[X3 (by simpa using z)]at e
    have:=List.mem_of_getElem? e
    simp at this
  rw[XF (by simpa using hlt),Xt]at e;have e':ts[i]?=some t':=by
   cases z:ts[i]? with
   |none=>rw[z]at e;simp at e
   |some w=>rw[z]at e;simp at e;rw[e]
  obtain⟨v,e1,e2⟩:=ha.get (H:=H) i t' e';refine⟨v,?_,e2⟩;unfold start;have hl2:i<vs.length:=by rw[ha.length];exact hlt
  rw[XF (by simpa using hl2),Xt,e1];rfl
 ·subst e
  exact q F' H' _ [] x' (fun _ z=>nomatch z) ⟨rfl,.non⟩
 ·subst e
  exact q F' H' v p x' hp ok
theorem Sh:∀{as bs:Qg},as.map V.ref=bs.map V.ref->as=bs
 |[],[],_=>rfl
 |[],_::_,h=>by simp at h
 |_::_,[],h=>by simp at h
 |a::as,b::bs,h=>by
   simp only[Xy,List.cons.injEq]at h;obtain⟨h1,h2⟩:=h;injection h1 with h1;rw[h1,Sh h2]
section
variable {K:W.Frag}{ρ:Q5}{ta tb tc te:TE}{tA:TT}{t u:TS}{D:PEnds}
def Z7 (h:D.nx ρ):Q0 K K0 ρ D:=fun F0 H0 F σ H E x S C=>C.nx F σ H ρ x S h
def QF (h:Q0 K t ρ { D with nx:=fun ρ'=>Q0 K u ρ' D }):Q0 K (Jf t u) ρ D:=fun F0 H0 F σ H E x S C =>
 h F0 H0 F σ H { E with nx:=u E } x S ⟨fun F' σ' H' ρ' x' S' q=>q F0 H0 F' σ' H' E x' S' C,C.rt,C.bk,C.ct⟩
def Us {ρ':Q5}(f:Fgt ρ ρ')(h:Q0 K t ρ' D):Q0 K t ρ D:=fun F0 H0 F σ H E x S C=>h F0 H0 F σ H E x (S.fgt f) C
def Ws (i:Nat){ds:Qd}(e:ρ[i]?=some (some (.ol ds)))(h:Q0 K t (ρ.set i (some (.fz (.list ds)))) D):Q0 K t ρ D:=fun F0 H0 F σ H E x S C=>by
 obtain⟨a,xs,e1,e2,e3,_,_,S'⟩:=S.freeze e;exact h F0 H0 _ σ H E (x.freeze e1 e2 e3) S' C
def Js {r:OT}(h:EvO K te ρ r)(hr:D.rt r):Q0 K (Y2 te) ρ D:=fun F0 H0 F σ H E x S C =>
 h H0 F σ H _ S fun F' H' v p x' hp ok=>C.rt F' H' v r p (x.trans x') (fun a ha=>x.hh.free (hp a ha)) ok hr
def ZQ {d:PyData}(h:Qu K te ρ d)(hr:D.rt (.fz d)):Q0 K (Y2 te) ρ D:=Js h.o hr
def MV {i:Nat}{ds:Qd}(e:ρ[i]?=some (some (.ol ds)))(hr:D.rt (.ol ds)):Q0 K (Y2 (QD i)) ρ D:=fun F0 H0 F σ H E x S C=>by
 obtain⟨fp,h,_,h5⟩:=S.fp;obtain⟨v,e1,ok⟩:=h i _ e
 exact⟨v,e1,C.rt F H v _ _ x (fun a ha=>(h5 i a ha).1) ok hr⟩
def Zz {b:Bool}(h:Zb K tA ρ b)(h1:b=true->Q0 K t ρ D)(h2:b=false->Q0 K u ρ D):Q0 K (BY tA t u) ρ D:=fun F0 H0 F σ H E x S C =>
 h H0 F σ H _ S fun F' H' x'=>by
  cases b with
  |true=>rw[Xd rfl];exact h1 rfl F0 H0 F' σ H' E (x.trans x') (S.ext x') C
  |false=>rw[Xb Xs];exact h2 rfl F0 H0 F' σ H' E (x.trans x') (S.ext x') C
def VM {i:Nat}{r:OT}(h:EvO K te ρ r)(hn:D.nx (ρ.set i (some r))):Q0 K (ZS te (ZW i)) ρ D:=fun F0 H0 F σ H E x S C =>
 h H0 F σ H _ S fun F' H' v p x' hp ok=>by
  refine C.nx F' _ H' _ (x.trans x') ((S.ext x').set ok (fun a ha=>x.hh.free (hp a ha)) (hn:=fun a ha j w t' q e1 e2 ok'=>?_)) hn;obtain⟨fp,g1,g2,g3⟩:=S.fp;obtain⟨w',f1,f2⟩:=g1 j t' e1;intro hq;have f3:=f2.ext x';rw[e2]at f1;cases f1
  have same:∀b∈q,b∈fp j:=by
   cases t' with
   |fz d=>rw[ok'.1];intro b hb;cases hb
   |zow Ψ=>rw[ok'.1];intro b hb;cases hb
   |ol ds =>
     obtain⟨b1,z1,z2,z3⟩:=ok';obtain⟨b2,y1,y2,y3⟩:=f3;rw[z1]at y1;cases y1;rw[z2,y2];exact fun _ z=>z
   |oll dss =>
     obtain⟨b1,bs1,z1,z2,z3,z4,z5,z6⟩:=ok';obtain⟨b2,bs2,y1,y2,y3,y4,y5,y6⟩:=f3;rw[z1]at y1;cases y1;rw[z5]at y5;have e5:bs1.map V.ref=bs2.map V.ref:=by injection y5 with z;injection z
     have e6:bs1=bs2:=Sh e5;rw[z2,y2,e6];exact fun _ z=>z
   |scr ns=>rw[ok'.1];intro b hb;cases hb
   |own v0 Φ=>exact fun b hb=>Φ.uniq f3.2 ok'.2 b hb
  exact(g3 j a (same a hq)).2 (hp a ha)
def ZR {i:Nat}{d:PyData}(h:Qu K te ρ d)(hn:D.nx (ρ.set i (some (.fz d)))):Q0 K (ZS te (ZW i)) ρ D:=VM h.o hn
def Zw {i:Nat}{d:PyData}:GTo K (ZW i) d ρ (ρ.set i (some (.fz d))):=fun H0 F σ H x Q S r q=>q _ (S.setF r)
def Up:US K Mg [] ρ ρ:=fun H0 F σ H xs Q S r q=>by cases r;exact⟨rfl,q _ S⟩
def VZ {g:TG}{gs:TGs}{d:PyData}{ds:Qd}{ρ1 ρ2:Q5}(h1:GTo K g d ρ ρ1)(h2:US K gs ds ρ1 ρ2):US K (Mr g gs) (d::ds) ρ ρ2:=fun H0 F σ H xs Q S r q=>by
 cases r with
 |cons r1 r2=>exact⟨_,_,rfl,h1 H0 F σ H _ _ S r1 fun σ1 S1=>h2 H0 F σ1 H _ _ S1 r2 q⟩
def Ue {n:Nat}{gs:TGs}{ds:Qd}{ρ1:Q5}(h:US K gs ds ρ ρ1)(hn:ds.length=n):GTo K (Md K n gs) (.tuple ds) ρ ρ1:=fun H0 F σ H x Q S r q=>by
 obtain⟨a,xs,rfl,h1,h2,_⟩:=G5 (K:=K) r S.sub
 exact⟨a,xs,rfl,h1,by rw[h2.length,hn],h H0 F σ H xs Q S h2 q⟩
def M5 {g:TG}{d:PyData}{ρ':Q5}(h:Qu K te ρ d)(hg:GTo K g d ρ ρ')(hn:D.nx ρ'):Q0 K (ZS te g) ρ D:=fun F0 H0 F σ H E x S C =>
 h H0 F σ H _ S fun F' H' v x' r=>hg H0 F' σ H' v _ (S.ext x') r fun σ' S'=>C.nx F' σ' H' ρ' (x.trans x') S' hn
def Q1.wr {F0 H0 F H:Hp}{a:Addr}{o:HO}(x:Q1 F0 H0 F H)(h0:H0 a=none)(hf:F a=none):Q1 F0 H0 F (upd H a o) :=
 ⟨x.hh.upd h0,x.ff,x.fh.upd hf,x.fr⟩
def U6 {i:Nat}{ds:Qd}{d:PyData}(e:ρ[i]?=some (some (.ol ds)))(h:Qu K te ρ d)(hl:ds.length<1000)(hn:D.nx (ρ.set i (some (.ol (ds++[d]))))) :
 Q0 K (VF (tBM K "list" Yb (QD i) (QE te QO))) ρ D:=fun F0 H0 F σ H E x S C=>by
 obtain⟨a,xs,e1,e2,e3,_⟩:=S.write e;refine⟨_,e1,.inl ⟨rfl,_,SqL.of e2⟩,h H0 F σ H _ S fun F1 H1 v x1 r1=>?_⟩;obtain⟨a',xs',f1,f2,f3,f4,f5,f6⟩:=(S.ext x1).write e;rw[e1]at f1;cases f1;refine⟨a,xs',v,rfl,rfl,f2,by rw[f3.length];exact Vy (by omega),?_⟩;exact C.nx F1 σ _ _ ((x.trans x1).wr f4 f5) (f6 _ _ (f3.snoc r1)) hn
def Bm {i:Nat}{ds:Qd}{d:PyData}{k:Int}{j:Nat}(e:ρ[i]?=some (some (.ol ds)))(h:Qu K te ρ d)(hi:Qu K tb ρ (.int k))(hj:ixN ds.length k=some j)(hn:D.nx (ρ.set i (some (.ol (ds.set j d))))) :
 Q0 K (ZS te (BZ (QD i) tb UW)) ρ D:=fun F0 H0 F σ H E x S C =>
 h H0 F σ H _ S fun F1 H1 v x1 r1=>by
  obtain⟨a,xs,e1,e2,e3,_⟩:=(S.ext x1).write e;refine⟨_,e1,hi H0 F1 σ H1 _ (S.ext x1) fun F2 H2 y x2 r2=>?_⟩;obtain⟨a',xs',f1,f2,f3,f4,f5,f6⟩:=(S.ext (x1.trans x2)).write e;rw[e1]at f1;cases f1
  cases r2
  refine⟨a,xs',k,j,rfl,rfl,f2,by rw[f3.length];exact hj,?_⟩;exact C.nx F2 σ _ _ ((x.trans (x1.trans x2)).wr f4 f5) (f6 _ _ (f3.set (r1.mono x2.ff) j)) hn
def NF {f:Int->Int->Int}{i:Nat}{ds:Qd}{k m n:Int}(e:ρ[i]?=some (some (.ol ds)))(hi:Qu K tb ρ (.int k))(h0:0<=k)(hm:ds[k.toNat]?=some (.int m))(h:Qu K te ρ (.int n))
 (hn:D.nx (ρ.set i (some (.ol (ds.set k.toNat (.int (f m n))))))):Q0 K (M4 (QD i) tb te (M1 K) (ipI f) UW) ρ D:=fun F0 H0 F σ H E x S C=>by
 obtain⟨a,xs,e1,e2,e3,_⟩:=S.write e;refine⟨_,e1,hi H0 F σ H _ S fun F1 H1 y x1 r1=>?_⟩
 cases r1
 obtain⟨a1,xs1,f1,f2,f3,_⟩:=(S.ext x1).write e;rw[e1]at f1;cases f1;obtain⟨z,z1,z2⟩:=f3.get hm;refine⟨a,xs1,k,z,rfl,rfl,SqL.of f2,h0,z1,h H0 F1 σ H1 _ (S.ext x1) fun F2 H2 w x2 r2=>?_⟩
 cases r2
 cases z2
 refine⟨m,n,rfl,rfl,?_⟩;obtain⟨a2,xs2,g1,g2,g3,g4,g5,g6⟩:=(S.ext (x1.trans x2)).write e;rw[e1]at g1;cases g1;have hlt:k.toNat<ds.length:=(Xh.mp hm).1;refine⟨a,xs2,k,k.toNat,rfl,rfl,g2,?_,?_⟩
 ·rw[g3.length]
  unfold ixN;rw[Xd h0,Xd (by omega)]
 ·exact C.nx F2 σ _ _ ((x.trans (x1.trans x2)).wr g4 g5) (g6 _ _ (g3.set (.int _) _)) hn
def Q1.base {F0 H0 F H:Hp}(x:Q1 F0 H0 F H):Q1 F H0 F H:=⟨x.hh,Q4.refl _,x.fh,fun _ h=>.inl h⟩
def Q1.rebase {F0 H0 F H F' H':Hp}(x:Q1 F0 H0 F H)(y:Q1 F H0 F' H'):Q1 F0 H0 F' H' :=
 ⟨y.hh,x.ff.trans y.ff,y.fh,fun a h=>(y.fr a h).elim (fun z=>x.fr a z) .inr⟩
def VR {wi:TI}{g:TG}{tbd:TS}{ds:Qd}(P:Nat->Q5->Prop)(hi:EvI K wi ρ ds)(h0:P 0 ρ)
 (hs:∀(i:Nat) (d:PyData) (ρ':Q5),ds[i]?=some d->P i ρ'->∃ρ2,GTo K g d ρ' ρ2/\Q0 K tbd ρ2 { nx:=P (i+1),ct:=P (i+1),bk:=D.nx,rt:=D.rt }) (hd:∀ρ',P ds.length ρ'->D.nx ρ'):Q0 K (Uc wi g tbd) ρ D:=fun F0 H0 F σ H E x S C =>
 hi H0 F σ H _ S fun F1 H1 J x1 W=>by
  refine⟨fun i m σ H=>m=ds.length-i/\i<=ds.length/\∃F ρ',Q1 F0 H0 F H/\Q4 F1 F/\QC K H0 F ρ' σ H/\P i ρ',⟨ds.length,by simp,XQ _,F1,ρ,x.trans x1,Q4.refl _,S.ext x1,h0⟩,?_⟩
  rintro i m σ' H' ⟨rfl,hle,F',ρ',x',s',S',p⟩
  obtain⟨w1,w2⟩:=W F' H' s' S'.sub
  by_cases hlt:i<ds.length
  ·have e:ds[i]?=some ds[i]:=by simp[hlt]
   obtain⟨go,yl⟩:=w2 i _ e;refine .inr ⟨go,fun σ2 H2=>∃F2 ρ2,Q1 F0 H0 F2 H2/\Q4 F1 F2/\QC K H0 F2 ρ2 σ2 H2/\P (i+1) ρ2,fun σ2 H2 q=>⟨ds.length-(i+1),by omega,rfl,hlt,q⟩,fun v H3 y=>?_⟩;obtain⟨F3,x3,r3⟩:=yl v H3 y;obtain⟨ρ2,hg,hb⟩:=hs i _ ρ' e p;refine hg H0 F3 σ' H3 v _ (S'.ext x3) r3 fun σ2 S2=>?_;have big:Q1 F0 H0 F3 H3:=x'.trans x3;have s13:=s'.trans x3.ff
   exact hb F3 H0 F3 σ2 H3 _ big.base S2 ⟨fun F4 σ4 H4 ρ4 x4 S4 q4=>⟨F4,ρ4,big.rebase x4,s13.trans x4.ff,S4,q4⟩,fun F4 H4 v4 r4 p4 x4=>C.rt F4 H4 v4 r4 p4 (big.rebase x4),
    fun F4 σ4 H4 ρ4 x4=>C.nx F4 σ4 H4 ρ4 (big.rebase x4),fun F4 σ4 H4 ρ4 x4 S4 q4=>⟨F4,ρ4,big.rebase x4,s13.trans x4.ff,S4,q4⟩⟩
  ·have e:i=ds.length:=by omega
   subst e;exact .inl ⟨w1,C.nx F' σ' H' ρ' x' S' (hd ρ' p)⟩
def U0 {wi:TI}{g:TG}{tbd:TS}{ds:Qd}(R:Nat->Q5)(hi:EvI K wi ρ ds)(h0:Fgt ρ (R 0))
 (hs:∀(i:Nat) (d:PyData),ds[i]?=some d->∃ρ2,GTo K g d (R i) ρ2/\Q0 K tbd ρ2 { nx:=fun ρ'=>Fgt ρ' (R (i+1)),ct:=fun ρ'=>Fgt ρ' (R (i+1)),bk:=D.nx,rt:=D.rt }) (hd:∀ρ',Fgt ρ' (R ds.length)->D.nx ρ'):Q0 K (Uc wi g tbd) ρ D:=by
 refine VR (fun i ρ'=>Fgt ρ' (R i)) hi h0 (fun i d ρ' e f=>?_) hd;obtain⟨ρ2,h1,h2⟩:=hs i d e
 exact⟨ρ2,fun H0 F σ H x Q S r q=>h1 H0 F σ H x Q (S.fgt f) r q,h2⟩
def DD {c:TT}{tbd:TS}(P:Nat->Q5->Prop)(m0:Nat)(h0:P m0 ρ)
 (hs:∀(m:Nat) (ρ':Q5),P m ρ'->∃b,Zb K c ρ' b/\(b=true->Q0 K tbd ρ' { nx:=fun ρ2=>∃m',m'<m/\P m' ρ2,ct:=fun ρ2=>∃m',m'<m/\P m' ρ2,bk:=D.nx,rt:=D.rt })/\(b=false->D.nx ρ')):Q0 K (Nn c tbd) ρ D:=fun F0 H0 F σ H E x S C=>by
 refine⟨fun m σ H=>∃F ρ',Q1 F0 H0 F H/\QC K H0 F ρ' σ H/\P m ρ',⟨m0,F,ρ,x,S,h0⟩,?_⟩
 rintro m σ' H' ⟨F',ρ',x',S',p⟩
 obtain⟨b,h1,h2,h3⟩:=hs m ρ' p;refine h1 H0 F' σ' H' _ S' fun F1 H1 x1=>?_;have X1:=x'.trans x1;have S1:=S'.ext x1
 cases b with
 |false=>rw[Xb Xs];exact C.nx F1 σ' H1 ρ' X1 S1 (h3 rfl)
 |true =>
   rw[Xd rfl];refine⟨fun σ2 H2=>∃m',m'<m/\∃F2 ρ2,Q1 F0 H0 F2 H2/\QC K H0 F2 ρ2 σ2 H2/\P m' ρ2,fun σ2 H2 h=>h,?_⟩;have go:∀F4 σ4 H4 ρ4,Q1 F0 H0 F4 H4->QC K H0 F4 ρ4 σ4 H4->(∃m',m'<m/\P m' ρ4)->∃m',m'<m/\∃F2 ρ2,Q1 F0 H0 F2 H4/\QC K H0 F2 ρ2 σ4 H4/\P m' ρ2:=fun F4 σ4 H4 ρ4 x4 S4 ⟨m',q1,q2⟩=>⟨m',q1,F4,ρ4,x4,S4,q2⟩;exact h2 rfl F0 H0 F1 σ' H1 _ X1 S1 ⟨go,C.rt,C.nx,go⟩
def Wy {ds:Qd}(h:Qu K ta ρ (.list ds)):EvI K (Kc K ta) ρ ds:=fun H0 F σ H R S q =>
 h H0 F σ H _ S fun F1 H1 v x1 r1=>by
  obtain⟨a,xs,rfl,h1,h2,h3⟩:=J8 (K:=K) r1 x1.fh
  have hF:F1 a=some (.lst xs):=by
   cases r1 with
   |lst ha rr =>
     have:=x1.fh _ _ ha
     rw[h3]at this;cases this;exact ha
  refine⟨a,rfl,⟨xs,h1⟩,q F1 H1 _ x1 fun F2 H2 s2 s3=>?_⟩;have hq:SqL K H2 a xs:=SqL.of (s3 _ _ (s2 _ _ hF));refine⟨⟨xs,hq,by rw[h2.length];exact Xq _⟩,fun i d e=>?_⟩;obtain⟨z,z1,z2⟩:=h2.get e;refine⟨⟨xs,z,hq,z1⟩,fun y H3 hy=>?_⟩;obtain⟨rfl,hy⟩:=hy;have e2:=hy xs hq;rw[z1]at e2;cases e2
  exact⟨F2,Q1.refl s3,z2.mono s2⟩
def KG {ds:Qd}(h:Qu K ta ρ (.tuple ds)):EvI K (Kg K ta) ρ ds:=fun H0 F σ H R S q =>
 h H0 F σ H _ S fun F1 H1 v x1 r1=>by
  obtain⟨a,xs,rfl,h1,h2,h3⟩:=G5 (K:=K) r1 x1.fh
  have hF:F1 a=some (.tup xs):=by
   cases r1 with
   |tup ha rr =>
     have:=x1.fh _ _ ha
     rw[h3]at this;cases this;exact ha
  refine⟨a,rfl,⟨xs,h1⟩,q F1 H1 _ x1 fun F2 H2 s2 s3=>?_⟩;have hq:SqT K H2 a xs:=SqT.of (s3 _ _ (s2 _ _ hF));refine⟨⟨xs,hq,by rw[h2.length];exact Xq _⟩,fun i d e=>?_⟩;obtain⟨z,z1,z2⟩:=h2.get e;refine⟨⟨xs,z,hq,z1⟩,fun y H3 hy=>?_⟩;obtain⟨rfl,hy⟩:=hy;have e2:=hy xs hq;rw[z1]at e2;cases e2
  exact⟨F2,Q1.refl s3,z2.mono s2⟩
def ZN (lo:Int)(n:Nat):Qd:=(List.range n).map fun(i:Nat)=>PyData.int (lo+(i:Int))
def Yw {lo:Int}{n i:Nat}{d:PyData}(e:(ZN lo n)[i]?=some d):i<n/\d=.int (lo+(i:Int)):=by
 unfold ZN at e;rw[Xt]at e;by_cases h:i<n
 ·simp[h]at e;exact⟨h,e.symm⟩
 ·simp[h]at e
def W1 {lo:Int}{n:Nat}:(ZN lo n).length=n:=by simp[ZN]
def RQ {F:Hp}{lo:Int}{n:Nat}:Ng F (Itr lo n) (ZN lo n):=fun F2 H2 s2 s3=>by
 refine⟨by show n<=_;rw[W1];exact Xq _,fun i d e=>?_⟩;obtain⟨h1,rfl⟩:=Yw e;refine⟨h1,fun x H3 hy=>?_⟩;obtain⟨rfl,rfl⟩:=hy
 exact⟨F2,Q1.refl s3,.int _⟩
def Yy {t:TA}{n:Int}(h:Z2 K t ρ [.fz (.int n)])(h1 : -(2^62)<=n)(h2:n<2^62):EvI K (UV t) ρ (ZN 0 n.toNat):=fun H0 F σ H R S q =>
 h H0 F σ H _ S fun F1 H1 vs x1 r1=>by
  cases r1 with
  |fz r r1=>cases r1;cases r;exact⟨n,rfl,h1,h2,q F1 H1 _ x1 RQ⟩
def Dr {t:TA}{m n:Int}(h:Z2 K t ρ [.fz (.int m),.fz (.int n)])(h1 : -(2^62)<=m/\m<2^62 /\ -(2^62)<=n/\n<2^62):EvI K (Kp t) ρ (ZN m (n-m).toNat):=fun H0 F σ H R S q =>
 h H0 F σ H _ S fun F1 H1 vs x1 r1=>by
  cases r1 with
  |fz r r1 =>
    cases r1 with
    |fz r' r1=>cases r1;cases r;cases r';exact⟨m,n,rfl,h1,q F1 H1 _ x1 RQ⟩
def Wm (hi:Int)(n:Nat):Qd:=(List.range n).map fun(i:Nat)=>PyData.int (hi-(i:Int))
def D5 {hi:Int}{n i:Nat}{d:PyData}(e:(Wm hi n)[i]?=some d):i<n/\d=.int (hi-(i:Int)):=by
 unfold Wm at e;rw[Xt]at e;by_cases h:i<n
 ·simp[h]at e;exact⟨h,e.symm⟩
 ·simp[h]at e
def D4 {hi:Int}{n:Nat}:(Wm hi n).length=n:=by simp[Wm]
def PY {t:TA}{m n:Int}(h:Z2 K t ρ [.fz (.int m),.fz (.int n),.fz (.int (-1))])(h1 : -(2^62)<=m/\m<2^62 /\ -(2^62)<=n/\n<2^62):EvI K (K4 t) ρ (Wm m (m-n).toNat):=fun H0 F σ H R S q =>
 h H0 F σ H _ S fun F1 H1 vs x1 r1=>by
  cases r1 with
  |fz r r1 =>
    cases r1 with
    |fz r' r1 =>
      cases r1 with
      |fz r2 r1 =>
        cases r1;cases r;cases r';cases r2
        refine⟨m,n,rfl,h1,q F1 H1 _ x1 fun F2 H2 s2 s3=>⟨by show _<=_;rw[D4];exact Xq _,fun i d e=>?_⟩⟩;obtain⟨h1,rfl⟩:=D5 e;refine⟨h1,fun x H3 hy=>?_⟩;obtain⟨rfl,rfl⟩:=hy
        exact⟨F2,Q1.refl s3,.int _⟩
def YW:Option OT->Option OT
 |some (.fz d)=>some (.fz d)
 |some (.scr ns)=>some (.scr ns)
 |some (.zow Ψ)=>some (.zow Ψ)
 |_=>none
def Jm (f:List (Option Nat))(ρ:Q5):Q5:=f.map fun o=>match o with|some i=>YW (ρ[i]?).join|none=>none
def QC.inner {H0 F H:Hp}{σ:St}(f:List (Option Nat))(S:QC K H0 F ρ σ H):QC K H0 F (Jm f ρ) (ZM f σ) H:=by
 obtain⟨kt,h1,h2,fp,h3,h4,h5⟩:=S;refine⟨kt,h1,by simp[Jm,ZM],fun _=>[],fun i t e=>?_,fun i j a h=>(nomatch h),fun i a h=>(nomatch h)⟩;unfold Jm at e;rw[Xt]at e;cases z:f[i]? with
 |none=>rw[z]at e;simp at e
 |some o =>
   rw[z]at e;simp only[YH,Option.some.injEq]at e;cases o with
   |none=>cases e
   |some k =>
     simp only at e
     have e':ρ[k]?=some (some t)/\((∃d,t=.fz d)\/(∃ns,t=.scr ns)\/∃Ψ,t=.zow Ψ):=by
      cases y:ρ[k]? with
      |none=>rw[y]at e;simp[YW]at e
      |some w =>
        rw[y]at e;simp only[Option.join_some]at e;cases w with
        |none=>simp[YW]at e
        |some w =>
          cases w with
          |fz d=>simp[YW]at e;subst e;exact⟨rfl,.inl ⟨_,rfl⟩⟩
          |scr ns=>simp[YW]at e;subst e;exact⟨rfl,.inr (.inl ⟨_,rfl⟩)⟩
          |zow Ψ=>simp[YW]at e;subst e;exact⟨rfl,.inr (.inr ⟨_,rfl⟩)⟩
          |ol ds=>simp[YW]at e
          |oll ds=>simp[YW]at e
          |own v0 Φ=>simp[YW]at e
     obtain⟨v,e1,e2⟩:=h3 k t e'.1;refine⟨v,?_,?_⟩
     ·unfold ZM
      rw[Xt,z];simp[e1]
     ·rcases e'.2 with ⟨d,rfl⟩|⟨ns,rfl⟩|⟨Ψ,rfl⟩
      ·exact⟨rfl,e2.2⟩
      ·exact⟨rfl,e2.2⟩
      ·exact⟨rfl,e2.2⟩
def Ge {α:Type}{f:List (Option Nat)}{wi:TI}{g:CIn->TG}{tcc:CIn->TT}{tee:CIn->TE}{xs:List α}{enc h:α->PyData}{p:α->Bool}(hi:EvI K wi ρ (xs.map enc))(hl:xs.length<=1000)
 (hs:∀x∈xs,∀c,∃ρ2,GTo K (g c) (enc x) (Jm f ρ) ρ2/\Zb K (tcc c) ρ2 (p x)/\(p x=true->Qu K (tee c) ρ2 (h x))):EvO K (tLC f wi g tcc tee) ρ (.ol ((xs.filter p).map h)):=fun H0 F σ H Q S q =>
 hi H0 F σ H _ S fun F1 H1 J x1 W c=>by
  have hn:xs.length<=sizeLine:=Yn (Vy hl);refine⟨fun i m ys H=>m=xs.length-i/\i<=xs.length/\∃F',Q1 F1 H1 F' H/\Qw F' ys (((xs.take i).filter p).map h),⟨xs.length,by simp,XQ _,F1,Q1.refl x1.fh,.nil⟩,?_⟩
  rintro i m ys H' ⟨rfl,hle,F',x',r'⟩
  obtain⟨w1,w2⟩:=W F' H' x'.ff x'.fh
  by_cases hlt:i<xs.length
  ·have e:(xs.map enc)[i]?=some (enc xs[i]):=by simp[hlt]
   obtain⟨go,yl⟩:=w2 i _ e;refine .inr ⟨go,fun v H3 y=>?_⟩;obtain⟨F3,x3,r3⟩:=yl v H3 y;obtain⟨ρ2,k1,k2,k3⟩:=hs xs[i] (XY hlt) c;have S3:=(S.ext (x1.trans (x'.trans x3))).inner f;have tk:xs.take (i+1)=xs.take i++[xs[i]]:=by rw[JO];simp[hlt]
   have ly:=r'.length
   have ly2:ys.length<=i:=by
    rw[ly,Xn];refine X7 (BU _ _) ?_;rw[BO];omega
   refine k1 H0 F3 _ H3 v _ S3 r3 fun σ2 S4=>k2 H0 F3 σ2 H3 _ S4 fun F4 H4 x4=>?_
   cases ep:p xs[i] with
   |true =>
     rw[Xd rfl];refine k3 ep H0 F4 σ2 H4 _ (S4.ext x4) fun F5 H5 z x5 r5=>⟨by omega,xs.length-(i+1),by omega,rfl,hlt,F5,x'.trans (x3.trans (x4.trans x5)),?_⟩;rw[tk,UG,XD];simp only[JP,ep,if_true,List.filter_nil,Xy,UK];exact(r'.mono (x3.trans (x4.trans x5)).ff).snoc r5
   |false =>
     rw[Xb Xs];refine⟨xs.length-(i+1),by omega,rfl,hlt,F4,x'.trans (x3.trans x4),?_⟩;rw[tk,UG,XD];simp only[JP,ep,List.filter_nil,UK,XG,XZ,if_false];exact r'.mono (x3.trans x4).ff
  ·have e:i=xs.length:=by omega
   subst e;refine .inl ⟨by simpa using w1,fun a ha=>?_⟩;rw[JQ]at r';obtain⟨z1,z2,z3⟩:=Jy (K:=K) (x1.trans x') ha r';exact q _ _ _ _ z1 z2 z3
def Uk {α:Type}{f:List (Option Nat)}{wi:TI}{g:CIn->TG}{tee:CIn->TE}{xs:List α}{enc h:α->PyData}(hi:EvI K wi ρ (xs.map enc))(hl:xs.length<=1000)
 (hs:∀x∈xs,∀c,∃ρ2,GTo K (g c) (enc x) (Jm f ρ) ρ2/\Qu K (tee c) ρ2 (h x)):EvO K (tLC f wi g (fun _=>UT) tee) ρ (.ol (xs.map h)):=by
 have:=Ge (K:=K) (ρ:=ρ) (f:=f) (wi:=wi) (g:=g) (tcc:=fun _=>UT) (tee:=tee) (xs:=xs) (enc:=enc) (h:=h) (p:=fun _=>true) hi hl fun x hx c=>by
  obtain⟨ρ2,h1,h2⟩:=hs x hx c
  exact⟨ρ2,h1,Ke,fun _=>h2⟩
 have e:xs.filter (fun _=>true)=xs:=List.filter_eq_self.mpr fun _ _=>rfl;rw[e]at this;exact this
def Mw:List V->Hp->VK->Prop:=fun xs H Q=>∃i j,xs=[.int i,.int j]/\Q (.int (if j > i then j else i)) H
def M0:List V->Hp->VK->Prop:=fun xs H Q=>∃i j,xs=[.int i,.int j]/\Q (.int (if j<i then j else i)) H
def KA:List V->Hp->VK->Prop:=fun xs H Q=>(∃i,xs=[.int i]/\Q (.int i) H)\/∃k,xs=[.bl k]/\Q (.int (if k then 1 else 0)) H
def HX:List V->Hp->VK->Prop:=fun xs H Q=>∃x T c b,xs=[x,.ty c]/\TyN H x T/\Yz T c=some b/\Q (.bl b) H
def Jg (K:W.Frag):List V->Hp->VK->Prop:=fun xs H Q=>∃p ys,xs=[.ref p]/\(SqL K H p ys\/SqT K H p ys)/\Q (.int ys.length) H
def Bs (K:W.Frag):List V->Hp->VK->Prop:=fun xs H Q=>∃p ys,xs=[.ref p]/\(SqL K H p ys\/SqT K H p ys)/\∀l,H l=none->Q (.ref l) (upd H l (.lst ys))
def Nj (K:W.Frag):List V->Hp->VK->Prop:=fun xs H Q=>∃p ys,xs=[.ref p]/\((SqL K H p ys/\∀l,H l=none->Q (.ref l) (upd H l (.tup ys)))\/(SqT K H p ys/\Q (.ref p) H))
def Kh (X:Cx):List V->Hp->VK->Prop:=fun xs H Q=>X.calm=true/\∃(x:V) (ns:Ql),xs=[x]/\Rep H x (.list (ns.map PyData.int))/\Q (.int ns.sum) H
def PX {X:Cx} (h:X.calm=true):Zr X (.builtin "max") Mw:=CY h
def Bb {X:Cx} (h:X.calm=true):Zr X (.builtin "min") M0:=CO h
def TW {X:Cx}:Zr X (.type "int") KA:=Cp
def WD {X:Cx}:Zr X (.builtin "isinstance") HX:=LZ
def Vx {X:Cx}:Zr X (.builtin "len") (Jg X.K):=EV
def Ny {X:Cx}:Zr X (.type "list") (Bs X.K):=ER
def Re {X:Cx}:Zr X (.type "tuple") (Nj X.K):=EZ
def MK {X:Cx}:Zr X (.builtin "sum") (Kh X):=CM
def KQ {x y:Int}{r:List V->Hp->VK->Prop}{H0 F H:Hp}{σ:St}{Q:VK}(ha:Qu K ta ρ (.int x))(hb:Qu K tb ρ (.int y))(S:QC K H0 F ρ σ H)(h:∀F' H',Q1 F H F' H'->r [.int x,.int y] H' Q):tCB r (QE ta (QE tb QO)) σ H Q :=
 ha H0 F σ H _ S fun F1 H1 v x1 r1=>hb H0 F1 σ H1 _ (S.ext x1) fun F2 H2 w x2 r2=>by cases r1;cases r2;exact h F2 H2 (x1.trans x2)
def PK {x y:Int}(ha:Qu K ta ρ (.int x))(hb:Qu K tb ρ (.int y)):Qu K (tCB Mw (QE ta (QE tb QO))) ρ (.int (if y > x then y else x)):=fun H0 F σ H Q S q =>
 KQ ha hb S fun F' H' e=>⟨x,y,rfl,q F' H' _ e (.int _)⟩
def TC {x y:Int}(ha:Qu K ta ρ (.int x))(hb:Qu K tb ρ (.int y)):Qu K (tCB M0 (QE ta (QE tb QO))) ρ (.int (if y<x then y else x)):=fun H0 F σ H Q S q =>
 KQ ha hb S fun F' H' e=>⟨x,y,rfl,q F' H' _ e (.int _)⟩
def KH {b:Bool}(h:Qu K ta ρ (.bool b)):Qu K (tCB KA (QE ta QO)) ρ (.int (if b then 1 else 0)):=fun H0 F σ H Q S q =>
 h H0 F σ H _ S fun F1 H1 v x1 r1=>by cases r1;exact .inr ⟨b,rfl,q F1 H1 _ x1 (.int _)⟩
def Wu {a:PyData}{c:String}{b:Bool}(h:Qu K ta ρ a)(hb:Yz (tyD a) c=some b):Qu K (tCB HX (QE ta (QE (tC (.ty c)) QO))) ρ (.bool b):=fun H0 F σ H Q S q =>
 h H0 F σ H _ S fun F1 H1 v x1 r1=>⟨v,_,c,b,rfl,(r1.mono x1.fh).ty,hb,q F1 H1 _ x1 (.bl _)⟩
def Y6 {ds:Qd}(h:Qu K ta ρ (.list ds)):Qu K (tCB (Jg K) (QE ta QO)) ρ (.int (ds.length:Int)):=fun H0 F σ H Q S q =>
 h H0 F σ H _ S fun F1 H1 v x1 r1=>by
  obtain⟨a,xs,rfl,h1,h2,_⟩:=J8 (K:=K) r1 x1.fh
  exact⟨a,xs,rfl,.inl h1,by rw[h2.length];exact q F1 H1 _ x1 (.int _)⟩
def Bh {ds:Qd}(h:Qu K ta ρ (.tuple ds)):Qu K (tCB (Jg K) (QE ta QO)) ρ (.int (ds.length:Int)):=fun H0 F σ H Q S q =>
 h H0 F σ H _ S fun F1 H1 v x1 r1=>by
  obtain⟨a,xs,rfl,h1,h2,_⟩:=G5 (K:=K) r1 x1.fh
  exact⟨a,xs,rfl,.inr h1,by rw[h2.length];exact q F1 H1 _ x1 (.int _)⟩
def P1 {i:Nat}{ns:Ql}(e0:ρ[i]?=some (some (.scr ns))):Qu K (tCB (Jg K) (QE (QD i) QO)) ρ (.int (ns.length:Int)):=fun H0 F σ H Q S q=>by
 obtain⟨fp,h,_⟩:=S.fp;obtain⟨v,e1,_,a,rfl,sc⟩:=h i _ e0
 exact⟨_,e1,a,ns.map V.int,rfl,.inl (S.sub.seq sc.sq),by rw[Xn];exact q F H _ (Q1.refl S.sub) (.int _)⟩
def Pk {i:Nat}{ds:Qd}(e0:ρ[i]?=some (some (.ol ds))):Qu K (tCB (Jg K) (QE (QD i) QO)) ρ (.int (ds.length:Int)):=fun H0 F σ H Q S q=>by
 obtain⟨fp,h,_⟩:=S.fp;obtain⟨v,e1,a,rfl,_,_,xs,o2,o3⟩:=h i _ e0
 exact⟨_,e1,a,xs,rfl,.inl (SqL.of o2),by rw[o3.length];exact q F H _ (Q1.refl S.sub) (.int _)⟩
def Nv {ds:Qd}(h:Qu K ta ρ (.tuple ds)):EvO K (tCB (Bs K) (QE ta QO)) ρ (.ol ds):=fun H0 F σ H Q S q =>
 h H0 F σ H _ S fun F1 H1 v x1 r1=>by
  obtain⟨a,xs,rfl,h1,h2,_⟩:=G5 (K:=K) r1 x1.fh;refine⟨a,xs,rfl,.inr h1,fun p hp=>?_⟩;obtain⟨z1,z2,z3⟩:=Jy (K:=K) x1 hp h2;exact q _ _ _ _ z1 z2 z3
def MH {i:Nat}{ds:Qd}(e0:ρ[i]?=some (some (.ol ds))):Qu K (tCB (Nj K) (QE (QD i) QO)) ρ (.tuple ds):=fun H0 F σ H Q S q=>by
 obtain⟨fp,h,_⟩:=S.fp;obtain⟨v,e1,a,rfl,_,_,xs,o2,o3⟩:=h i _ e0;refine⟨_,e1,a,xs,rfl,.inl ⟨SqL.of o2,fun p hp=>?_⟩⟩;exact q _ _ _ (Q1.new S.sub hp) (.tup QA (o3.mono (Q4.new (S.sub.free hp))))
def GV {X:Cx}{ns:Ql}(h:Qu K ta ρ (.list (ns.map PyData.int)))(hc:X.calm=true):Qu K (tCB (Kh X) (QE ta QO)) ρ (.int ns.sum):=fun H0 F σ H Q S q =>
 h H0 F σ H _ S fun F1 H1 v x1 r1=>⟨hc,v,ns,rfl,r1.mono x1.fh,q F1 H1 _ x1 (.int _)⟩
def K3:List V->Hp->VK->Prop:=fun xs H Q=>∃j,xs=[.int j]/\∀p,H p=none->Q (.ref p) (upd H p (.rng 0 j))
def Rh (X:Cx):List V->Hp->VK->Prop:=fun xs H Q=>X.calm=true/\∃(p:Addr) (n:Nat),xs=[.ref p]/\H p=some (.rng 0 (n:Int))/\n<=1000/\∀l,H l=none->Q (.ref l) (upd H l (.lst (WA n)))
def An {X:Cx}:Zr X (.type "range") K3:=EA
def Ed {X:Cx}:Zr X (.type "list") (Rh X):=EX
def Ax {F:Hp}(n:Nat):Qw F (WA n) ((List.range n).map fun(j:Nat)=>PyData.int (j:Int)):=by
 unfold WA;generalize List.range n=l;induction l with
 |nil=>exact .nil
 |cons a l ih=>exact .cons (.int _) ih
def NJ {X:Cx}{n:Nat}(h:Qu K ta ρ (.int (n:Int)))(hc:X.calm=true)(hn:n<=1000):EvO K (tCB (Rh X) (QE (tCB K3 (QE ta QO)) QO)) ρ (.ol ((List.range n).map fun(j:Nat)=>PyData.int (j:Int))):=fun H0 F σ H Q S q =>
 h H0 F σ H _ S fun F1 H1 v x1 r1=>by
  cases r1
  refine⟨_,rfl,fun p hp=>⟨hc,p,n,rfl,QA,hn,fun l hl=>?_⟩⟩;obtain⟨z1,z2,z3⟩:=Jy (K:=K) (x1.trans (Q1.own (o:=.rng 0 (n:Int)) x1.fh hp)) hl (Ax n);exact q _ _ _ _ z1 z2 z3
def GW {as bs:Qd}(ha:Qu K ta ρ (.list as))(hb:Qu K tb ρ (.list bs))(hl:as.length+bs.length<=1000):EvO K (tOp GI ta tb) ρ (.ol (as++bs)):=fun H0 F σ H Q S q =>
 Y8 ha hb S fun F' H' x y e r1 r2=>by
  obtain⟨a,xs,rfl,h1,h2,h3⟩:=J8 (K:=K) r1 e.fh;obtain⟨b,ys,rfl,g1,g2,g3⟩:=J8 (K:=K) r2 e.fh;refine⟨a,b,xs,ys,rfl,rfl,h3,g3,by rw[h2.length,g2.length];exact Yn (Vy hl),fun p hp=>?_⟩;obtain⟨z1,z2,z3⟩:=Jy (K:=K) e hp (h2.append g2);exact q _ _ _ _ z1 z2 z3
end
def QZ {K:W.Frag}{ρ:Q5}{ta:TE}{t:TA}{d:PyData}{ds:Qd}(h1:Qu K ta ρ d)(h2:Z2 K t ρ (fzs ds)):Z2 K (QE ta t) ρ (fzs (d::ds)):=Qv h1 h2
def EvI.cast {K:W.Frag}{wi:TI}{ρ:Q5}{ds ds':Qd}(h:EvI K wi ρ ds)(e:ds=ds'):EvI K wi ρ ds':=e▸h
def W0 {a b:Int}{m n:Nat}(h:a=b)(h2:m=n):ZN a m=ZN b n:=by rw[h,h2]
def R8 {a b:Int}{m n:Nat}(h:a=b)(h2:m=n):Wm a m=Wm b n:=by rw[h,h2]
def KN {K:W.Frag}{ρ:Q5}{ta tb:TE}{x y:Int}(ha:Qu K ta ρ (.int x))(hb:Qu K tb ρ (.int y)):Qu K (tCB Mw (QE ta (QE tb QO))) ρ (.int (max x y)):=by
 have e:max x y=if y > x then y else x:=by split<;>omega
 rw[e];exact PK ha hb
def ME {K:W.Frag}{ρ:Q5}{ta tb:TE}{x y:Int}(ha:Qu K ta ρ (.int x))(hb:Qu K tb ρ (.int y)):Qu K (tCB M0 (QE ta (QE tb QO))) ρ (.int (min x y)):=by
 have e:min x y=if y<x then y else x:=by split<;>omega
 rw[e];exact TC ha hb
def KW {K:W.Frag}{ρ:Q5}{f:List (Option Nat)}{wi:TI}{g:CIn->TG}{tee:CIn->TE}{lo:Int}{n:Nat}{h:Nat->PyData}(hi:EvI K wi ρ (ZN lo n))(hl:n<=1000)
 (hs:∀(x:Nat),x<n->∀c,∃ρ2,GTo K (g c) (.int (lo+(x:Int))) (Jm f ρ) ρ2/\Qu K (tee c) ρ2 (h x)):EvO K (tLC f wi g (fun _=>UT) tee) ρ (.ol ((List.range n).map h)) :=
 Uk (xs:=List.range n) (enc:=fun(i:Nat)=>PyData.int (lo+(i:Int))) hi (by simpa using hl) fun x hx c=>hs x (XT.mp hx) c
def Qu.cast {K:W.Frag}{t:TE}{ρ:Q5}{d d':PyData}(h:Qu K t ρ d)(e:d=d'):Qu K t ρ d':=e▸h
def EvO.cast {K:W.Frag}{t:TE}{ρ:Q5}{d d':OT}(h:EvO K t ρ d)(e:d=d'):EvO K t ρ d':=e▸h
def Zb.cast {K:W.Frag}{t:TT}{ρ:Q5}{d d':Bool}(h:Zb K t ρ d)(e:d=d'):Zb K t ρ d':=e▸h
def Bi (K:W.Frag):Sp:=fun vs H Q _=>∃(a:Addr) (ns:Ql),vs=[.ref a]/\KTs K H/\Scr K H a ns/\∀H',Q (.bl true) H'
def Fun.evLaw {P:Program}{w:World}{K:W.Frag}{mg:Str->Qf}{base:Heap}{x qual p:Str}{st:Stmt}{f:Addr}{fd:FuncData}{N:Qh}{k:Nat}(F:Fun K x qual st f fd)(S:Qp N [p] (Qy st))
 (XaS:∀(cdv:Value) (A:Around) (outer:List Env) (s:Shared) (H:Hp) (E:XK) (ns:Ql),Room k (A.deeper (envOfC qual (Qy st) s.heap.objs.size f cdv))->ns.length<=63->(∀i∈ns,Builtin.Int.intBits i<=2^20) ->
  ∃t,PSs (Vi CX0 P w K mg base N qual (Qy st) f cdv A outer s H E).nox (Zh st) t/\Q0 K t (some (.scr ns)::List.replicate (N.length-1) none) { nx:=fun _=>False,rt:=fun r=>r=.fz (.bool true) }):FnOk P w K mg base CX0 (k+1) f fd [p] (Bi K):=by
 refine F.ok S (fun vs H Q E ⟨a,ns,e,_⟩=>by rw[e];rfl) fun cdv A outer s H vs Q E hr ⟨a,ns,e,kt,sc,q⟩=>?_;subst e;obtain⟨t,h1,h2⟩:=XaS cdv A outer s H E ns hr sc.len sc.bits;refine⟨t,h1,h2 H H H (start N [.ref a]) H _ (Q1.refl (Q4.refl _)) ⟨kt,Q4.refl _,?_,fun _=>[],fun i t' e=>?_,fun i j a h=>(nomatch h),fun i a h=>(nomatch h)⟩ ⟨fun F' σ' H' ρ' x' _ e=>False.elim e,fun F' H' v r' p x' hp ok e=>?_,fun _ _ _ _ _ _ z=>False.elim z,fun _ _ _ _ _ _ z=>False.elim z⟩⟩
 ·unfold start
  simp
 ·cases i with
  |zero =>
    simp at e
    subst e;exact⟨_,rfl,rfl,a,rfl,sc⟩
  |succ i =>
    rw[UI]at e;have:=List.mem_of_getElem? e
    simp at this
 ·subst e
  obtain⟨_,r⟩:=ok
  cases r
  exact q H'
def ZC {K:W.Frag}{ρ:Q5}:Z2 K QO ρ (fzs []):=Q9
def z62:(2:Int)^62=4611686018427387904:=by decide
def Te {CX:CXT}{P:Program}{w:World}{K:W.Frag}{mg:Str->Qf}{base:Heap}{N:Qh}{q:Str}{sc:Scope}{f:Addr}{cd:Value}{A:Around}{o:List Env}{s:Shared}{H:Hp}{E:XK}:(Vi CX P w K mg base N q sc f cd A o s H E).nox.K=K:=rfl
def FZ {X:Cx}{N:Qh}{sc:Scope}{c:CIn}:(Zx X N sc c).K=X.K:=rfl
section
variable {K:W.Frag}{ρ:Q5}{ta tb te:TE}
def cut {α:Type}(xs:List α)(lo hi:Option Int):List α:=(xs.drop (HT.sIx xs.length 0 lo)).take (HT.sIx xs.length xs.length hi-HT.sIx xs.length 0 lo)
end
section
variable {K:W.Frag}{ρ:Q5}{ta tb te:TE}
def Uh (as:Qd):Qd:=as.zipIdx.map fun p=>PyData.tuple [.int (p.2:Int),p.1]
def DW (as:Qd):(Uh as).length=as.length:=by simp[Uh]
def DI {as:Qd}{i:Nat}{d:PyData}(e:(Uh as)[i]?=some d):∃a,as[i]?=some a/\d=.tuple [.int (i:Int),a]:=by
 unfold Uh at e;rw[Xt,List.getElem?_zipIdx]at e;cases z:as[i]? with
 |none=>rw[z]at e;cases e
 |some a=>rw[z]at e;simp at e;exact⟨a,rfl,e.symm⟩
def Cv {F H:Hp}{x:V}{ds:Qd}(r:Rep F x (.list ds)):∃a xs,x=.ref a/\F a=some (.lst xs)/\Qw F xs ds:=by
 cases r with
 |lst ha rr=>exact⟨_,_,rfl,ha,rr⟩
def MI {t:TA}{as:Qd}(h:Z2 K t ρ [.fz (.list as)]):EvI K (K6 K t) ρ (Uh as):=fun H0 F σ H R S q =>
 h H0 F σ H _ S fun F1 H1 vs x1 r1=>by
  cases r1 with
  |fz r r1 =>
    cases r1
    obtain⟨a,xs,rfl,ha,ra⟩:=Cv (H:=H1) r;refine⟨a,rfl,⟨xs,SqL.of (x1.fh _ _ ha)⟩,q F1 H1 _ x1 fun F2 H2 s2 s3=>?_⟩;have qa:SqL K H2 a xs:=SqL.of (s3 _ _ (s2 _ _ ha));refine⟨⟨xs,qa,by rw[DW,ra.length]⟩,fun i d e=>?_⟩;obtain⟨d1,e1,rfl⟩:=DI e;obtain⟨z1,f1,g1⟩:=ra.get e1;refine⟨⟨xs,z1,qa,f1⟩,fun v H3 hy=>?_⟩;obtain⟨p,x,hp,rfl,rfl,k1⟩:=hy;have ex:=k1 xs qa;rw[f1]at ex;cases ex;have sn:Q4 F2 (upd F2 p (.tup [.int (i:Int),z1])):=Q4.new (s3.free hp)
    exact⟨_,Q1.new s3 hp,.tup QA (.cons (.int _) (.cons ((g1.mono s2).mono sn) .nil))⟩
def LA {X:Cx}{ns:Ql}(h:Qu K ta ρ (.list (ns.map PyData.int)))(hc:X.calm=true)(hn:ns≠[]):Qu K (tCB (Ks X) (QE ta QO)) ρ (.int (Yh ns)):=fun H0 F σ H Q S q =>
 h H0 F σ H _ S fun F1 H1 v x1 r1=>⟨hc,v,ns,rfl,r1.mono x1.fh,hn,q F1 H1 _ x1 (.int _)⟩
def Mo:OT->Option PyData
 |.fz d=>some d
 |.ol ds=>some (.list ds)
 |.oll dss=>some (.list (dss.map PyData.list))
 |.scr _=>none
 |.own _ _=>none
 |.zow _=>none
def frF (F H:Hp)(p:Qg):Hp:=fun b=>if b∈p then H b else F b
def YV {F H:Hp}{p:Qg}{b:Addr}(h:b∈p):frF F H p b=H b:=by unfold frF;rw[Xd h]
def YA {F H:Hp}{p:Qg}{b:Addr}(h:b∉p):frF F H p b=F b:=by unfold frF;rw[Xb h]
def Wd {F H:Hp}{p:Qg}(h:∀a∈p,F a=none):Q4 F (frF F H p):=fun b u e=>by
 rw[YA fun z=>by rw[h b z]at e;cases e];exact e
def Gx {F H:Hp}{p:Qg}(s:Q4 F H):Q4 (frF F H p) H:=fun b u e=>by
 by_cases z:b∈p
 ·rw[YV z]at e;exact e
 ·rw[YA z]at e;exact s b u e
theorem Ri {F F' H:Hp}(sm:Q4 F F'):∀{as:Qg} {dss:List (Qd)},ZD F H as dss->(∀a∈as,F' a=H a)->Qw F' (as.map V.ref) (dss.map PyData.list)
 |[],[],_,_=>.nil
 |a::as,ds::dss,h,he=>by
   obtain⟨⟨h1,xs,h2,h3⟩,h4⟩:=h;exact .cons (.lst (by rw[he a Xc];exact h2) (h3.mono sm)) (Ri sm h4 fun b hb=>he b (Xe _ hb))
 |[],_::_,h,_=>False.elim h
 |_::_,[],h,_=>False.elim h
def Zk.frz {F H:Hp}{v:V}{t:OT}{p:Qg}{d:PyData}(ok:Zk K F H v t p)(e:Mo t=some d):Rep (frF F H p) v d:=by
 have sm:Q4 F (frF F H p):=Wd fun a ha=>(ok.there a ha).1
 cases t with
 |fz d'=>cases e;exact ok.2.mono sm
 |ol ds =>
   cases e
   obtain⟨a,rfl,rfl,h1,xs,h2,h3⟩:=ok;exact .lst (by rw[YV Xc];exact h2) (h3.mono sm)
 |oll dss =>
   cases e
   obtain⟨a,as,rfl,rfl,hn,h1,h2,h3⟩:=ok;exact .lst (by rw[YV Xc];exact h2) (Ri sm h3 fun b hb=>YV (Xe _ hb))
 |scr ns=>cases e
 |own v0 Φ=>cases e
 |zow Ψ=>cases e
theorem ZD.frOther {F H:Hp}{p:Qg}(sm:Q4 F (frF F H p)):∀{as:Qg} {dss:List (Qd)},(∀a∈as,a∉p)->ZD F H as dss->ZD (frF F H p) H as dss
 |[],[],_,_=>trivial
 |a::as,ds::dss,hn,h=>by
   obtain⟨⟨h1,xs,h2,h3⟩,h4⟩:=h
   exact⟨⟨by rw[YA (hn a Xc)];exact h1,xs,h2,h3.mono sm⟩,ZD.frOther sm (fun b hb=>hn b (Xe _ hb)) h4⟩
 |[],_::_,_,h=>False.elim h
 |_::_,[],_,h=>False.elim h
def Zk.frOther {F H:Hp}{v:V}{t:OT}{p q:Qg}(sm:Q4 F (frF F H p))(ok:Zk K F H v t q)(hn:∀a∈q,a∉p):Zk K (frF F H p) H v t q:=by
 cases t with
 |fz d=>exact⟨ok.1,ok.2.mono sm⟩
 |zow Ψ=>exact⟨ok.1,Ψ.mono sm ok.2⟩
 |ol ds =>
   obtain⟨a,rfl,rfl,h1,xs,h2,h3⟩:=ok
   exact⟨a,rfl,rfl,by rw[YA (hn a Xc)];exact h1,xs,h2,h3.mono sm⟩
 |oll dss =>
   obtain⟨a,as,rfl,rfl,hd,h1,h2,h3⟩:=ok
   exact⟨a,as,rfl,rfl,hd,by rw[YA (hn a Xc)];exact h1,h2,h3.frOther sm fun b hb=>hn b (Xe _ hb)⟩
 |scr ns=>obtain⟨h1,a,h2,h3⟩:=ok;exact⟨h1,a,h2,h3.mono sm⟩
 |own v0 Φ=>exact⟨ok.1,Φ.mono sm (fun a ha=>by rw[YA (hn a ha)];exact(Φ.there ok.2 a ha).1) (fun _ _=>rfl) ok.2⟩
def QC.freezeG {H0 F H:Hp}{σ:St}{i:Nat}{t:OT}{d:PyData}(s:QC K H0 F ρ σ H)(e:ρ[i]?=some (some t))(ed:Mo t=some d) :
 ∃p,(∀a∈p,F a=none/\H a≠none/\H0 a=none)/\QC K H0 (frF F H p) (ρ.set i (some (.fz d))) σ H:=by
 obtain⟨kt,h1,h2,fp,h3,h4,h5⟩:=s;obtain⟨v,e1,ok⟩:=h3 i _ e;have hlt:=(Xh.mp e).1;have sm:Q4 F (frF F H (fp i)):=Wd fun a ha=>(ok.there a ha).1;refine⟨fp i,fun a ha=>⟨(ok.there a ha).1,(ok.there a ha).2,(h5 i a ha).1⟩,kt.mono sm,Gx h1,by simp[h2],fun j=>if j=i then [] else fp j,fun j t' e'=>?_,fun j k b hb hc=>?_,fun j b hb=>?_⟩
 ·by_cases hj:j=i
  ·subst hj
   rw[Xr hlt]at e';cases e';refine⟨_,e1,?_,ok.frz ed⟩;dsimp only;rw[Xd rfl]
  ·rw[Xw (Ne.symm hj)]at e'
   obtain⟨u,f1,f2⟩:=h3 j t' e';refine⟨u,f1,?_⟩;dsimp only;rw[Xb hj];exact f2.frOther sm fun a ha z=>hj (h4 j i a ha z)
 ·by_cases hj:j=i
  ·simp[hj]at hb
  ·by_cases hk:k=i
   ·simp[hk]at hc
   ·simp only[Xb hj]at hb
    simp only[Xb hk]at hc;exact h4 j k b hb hc
 ·by_cases hj:j=i
  ·simp[hj]at hb
  ·simp only[Xb hj]at hb
   exact h5 j b hb
def G2 {F H F' H':Hp}{p:Qg}(hp:∀a∈p,F a=none/\H a≠none)(x:Q1 (frF F H p) H F' H'):Q1 F H (fun b=>if b∈p then none else F' b) H' :=
 ⟨x.hh,fun b u hb=>by
  have nb:b∉p:=fun z=>by rw[(hp b z).1]at hb;cases hb
  simp only[Xb nb];exact x.ff b u (by rw[YA nb];exact hb),fun b u hb=>by
  by_cases z:b∈p
  ·simp[z]at hb
  ·simp only[Xb z]at hb;exact x.fh b u hb,fun b hb=>by
  by_cases z:b∈p
  ·simp[z]at hb
  ·simp only[Xb z]at hb
   rcases x.fr b hb with y|y
   ·rw[YA z]at y;exact .inl y
   ·exact .inr y⟩
def Fp {t:TT}(i:Nat){r:OT}{d0:PyData}{b:Bool}(e:ρ[i]?=some (some r))(ed:Mo r=some d0)(h:Zb K t (ρ.set i (some (.fz d0))) b):Zb K t ρ b:=fun H0 F σ H Q S q=>by
 obtain⟨p,hp,S'⟩:=S.freezeG e ed;exact h H0 _ σ H Q S' fun F' H' x=>q _ H' (G2 (fun a ha=>⟨(hp a ha).1,(hp a ha).2.1⟩) x)
def Uv (ds:Qd):Prop := ∀d∈ds,∃w,Vl d=some w
theorem Qw.flats {F F':Hp}:∀{xs:List V} {ds:Qd},Uv ds->Qw F xs ds->Qw F' xs ds
 |_,_,_,.nil=>.nil
 |_::_,d::_,h,.cons r t=>by
   obtain⟨w,e⟩:=h d Xc;refine .cons ?_ (Qw.flats (fun c hc=>h c (Xe _ hc)) t)
   cases r<;>simp[Vl]at e
   ·exact .non
   ·exact .bl _
   ·exact .int _
   ·exact .str _
end
section
variable {K:W.Frag}{ρ:Q5}{ta tb tc te ti tj:TE}{D:PEnds}
def PQ {ds:Qd}{k:Int}(ha:Qu K ta ρ (.list ds))(hb:Qu K tb ρ (.int k))(h0:0<=k)(hl:ds.length*k.toNat<=1000)(hk:k<=1000000):EvO K (tOp Ko ta tb) ρ (.ol (List.replicate k.toNat ds).flatten):=fun H0 F σ H Q S q =>
 Y8 ha hb S fun F' H' x y e r1 r2=>by
  obtain⟨a,xs,rfl,h1,h2,h3⟩:=J8 (K:=K) r1 e.fh
  cases r2
  have h63:(2:Int)^63=9223372036854775808:=by decide
  refine⟨a,k,xs,rfl,rfl,h3,by rw[h63];omega,by rw[h63];omega,by rw[h2.length];exact Yn (Vy hl),fun p hp=>?_⟩
  have rr:∀n:Nat,Qw F' (List.replicate n xs).flatten (List.replicate n ds).flatten:=fun n=>by
   induction n with
   |zero=>exact .nil
   |succ n ih=>rw[Jb,Jb,JS,JS];exact h2.append ih
  obtain⟨z1,z2,z3⟩:=Jy (K:=K) e hp (rr k.toNat);exact q _ _ _ _ z1 z2 z3
theorem NK {α:Type}(d:α):∀n:Nat,(List.replicate n [d]).flatten=List.replicate n d
 |0=>rfl
 |n+1=>by rw[Jb,JS,NK d n];rfl
end
section
variable {es:Qi}{env:Env}
end
section
variable {X:Cx}{e:Expr}{es:Qi}{te:TE}{t:TA}{pos:Pos}
end
section
variable {X:Cx}{a:Expr}{ta:TE}
end
section
variable {K:W.Frag}{ρ:Q5}{ta tb tc td:TE}
end
section
variable {X:Cx}{a b c d:Expr}{ta tb tc td:TE}{pos:Pos}
end
section
variable {K:W.Frag}{ρ:Q5}{ta tb tc td:TE}
end
end L2
end
namespace PySem
section
variable {prog:Program}{w:World}{K:Type} [DecidableEq K] (knd:KeyKind prog w K)
def VS (h:Heap) (xy:List K×List K) (a:Addr):Prop := ∃o n p q,h.get? a=some o/\o.cls=.type "tuple" /\ o.data=.seq #[.ref p,.ref q] n/\IsTupleKey knd h xy.1 p/\IsTupleKey knd h xy.2 q
variable {knd}
def VS.typeIs {s:Shared} {ks:List K×List K} {a:Addr} (x:VS knd s.heap ks a):s.TypeIs (.ref a) "tuple" := let ⟨o,_,_,_,ho,hc,_⟩:=x;⟨o,ho,hc⟩
def VS.inj {h:Heap}{a:Addr}{x y:List K×List K}(hx:VS knd h x a)(hy:VS knd h y a):x=y:=by
 obtain⟨o,n,p,q,ho,_,hd,h1,h2⟩:=hx;obtain⟨o',n',p',q',ho',_,hd',h1',h2'⟩:=hy
 cases Option.some.inj (ho.symm.trans ho')
 rw[hd]at hd';injection hd' with z _;have z1:=XW Array.toList z
 simp at z1
 obtain⟨rfl,rfl⟩:=z1;exact Prod.ext (h1.inj h1') (h2.inj h2')
def VS.keeps {h h':Heap}{ks:List K×List K}{a d:Addr}{o:Obj}{es ep}(x:VS knd h ks a)(ho:h.get? d=some o)(hd:o.data=.dict es ep)(hs:Heap.SameBut d h h'):VS knd h' ks a:=by
 obtain⟨o',n,p,q,ho',hc,hd',h1,h2⟩:=x
 have hne:a≠d:=fun z=>by
  subst z;cases Option.some.inj (ho'.symm.trans ho);rw[hd]at hd';exact nomatch hd'
 exact⟨o',n,p,q,(hs.2 a hne).trans ho',hc,hd',h1.keeps ho hd hs,h2.keeps ho hd hs⟩
def Dw (knd:KeyKind prog w K)(ks:List K×List K):Int:=reduceHash (Builtin.Tuple.tupleHashOf [tupleKeyHash knd ks.1,tupleKeyHash knd ks.2])
variable {A:Around}{E:Qb}{s:Shared}
def Iw {ks:List K×List K}{a:Addr}{Q:Int->Shared->Prop}(hu:A.units+5<cLine)(hk:VS knd s.heap ks a)(h:Q (Dw knd ks) { s with toks:=s.toks+(ks.1.length+ks.2.length+3) }) :
 wpAny (model prog w) A (pyHash (.ref a)) Q E s:=by
 have hT:=hk.typeIs;obtain⟨o,n,p,q,ho,_,hd,h1,h2⟩:=hk;unfold pyHash pyHashByItsType;refine Xa (wpAny_cRoomFor_or (.inr (by omega)) ?_);refine Xa (wpAny_specialOf hT F.slot_tuple_hash.lookup ?_);show wpAny _ _ (if (some (Value.builtin "tuple.__hash__")==some Value.none)=true then _ else _) Q E s;rw[Xb (by rw[beq_builtin_none];exact Xs)];refine Xa (wpAny_specialOf hT F.slot_tuple_hash.lookup ?_);show wpAny _ _ (callSpecialIfBoundUnlessNone? (.ref a) "__hash__" _ >>= _) Q E s;refine Xa (wpAny_callSpecialIfBoundUnlessNone?_slot hT F.slot_tuple_hash (wpAny_call_entry F.slot_tuple_hash hT F.entry_tuple_hash ?_ (F.args_tuple_hash_1 _)));show wpAny _ _ (Builtin.Tuple.tupleItemsOf (.ref a) >>= _) _ _ s;refine Xa (wpAny_tupleItemsOf ho hd ?_);refine Xa ?_
 rw[<- Array.forIn_toList];refine wpAny_forIn_list _
  (fun rest (b:Array Int) s'=>(rest=[.ref p,.ref q]/\b.toList=[]/\s'=s)\/(rest=[.ref q]/\b.toList=[tupleKeyHash knd ks.1]/\s'={ s with toks:=s.toks+(ks.1.length+1) }) \/
   (rest=[]/\b.toList=[tupleKeyHash knd ks.1,tupleKeyHash knd ks.2]/\s'={ s with toks:=s.toks+(ks.1.length+1)+(ks.2.length+1) }))
  _ ?_ ?_ _ _ (.inl ⟨rfl,rfl,rfl⟩)
 ·rintro x rest b s' (⟨hr,hb,rfl⟩|⟨hr,hb,rfl⟩|⟨hr,_⟩)
  ·injection hr with e1 e2
   subst e1 e2;refine Xa (wpAny_pyHash_tuple ?hu1 h1 ?_)
   case hu1=>show A.units+1<cLine;omega
   exact Xk (.inr (.inl ⟨rfl,by simp[hb],rfl⟩))
  ·injection hr with e1 e2
   subst e1 e2;refine Xa (wpAny_pyHash_tuple ?hu2 h2 ?_)
   case hu2=>show A.units+1<cLine;omega
   exact Xk (.inr (.inr ⟨rfl,by simp[hb],rfl⟩))
  ·cases hr
 ·rintro b s' (⟨hr,_⟩|⟨hr,_⟩|⟨_,hb,rfl⟩)
  ·cases hr
  ·cases hr
  show wpAny _ _ (retInt (Builtin.Tuple.tupleHashOf b.toList)) _ _ _;rw[hb];refine wpAny_ret_mkInt ?_;show wpAny _ _ (if (decide (-(2:Int)^63<=Builtin.Tuple.tupleHashOf [tupleKeyHash knd ks.1,tupleKeyHash knd ks.2])&&decide (Builtin.Tuple.tupleHashOf [tupleKeyHash knd ks.1,tupleKeyHash knd ks.2]<2^63))=true then _ else _) Q E _;unfold Dw reduceHash at h;have et:s.toks+(ks.1.length+ks.2.length+3)=s.toks+(ks.1.length+1)+(ks.2.length+1)+1:=by omega
  rw[et]at h;split
  ·rename_i hr
   rw[Xd hr]at h;exact Xk h
  ·rename_i hr
   rw[Xb hr]at h;exact Xa (wpAny_rule (Xk h))
def EU {x y:List K×List K}{a b:Addr}{P:Fin->Shared->Prop}(hu:A.units+1<cLine)(hx:VS knd s.heap x a)(hy:VS knd s.heap y b)(h:P (.done (.ret (.bool (decide (x=y))))) s) :
 wpAny (model prog w) A (Builtin.«tuple.__eq__» ⟨[.ref a,.ref b],[]⟩) P E s:=by
 have hTb:=hy.typeIs;obtain⟨oa,na,p,q,hoa,_,hda,ha1,ha2⟩:=hx;obtain⟨ob,nb,p',q',hob,_,hdb,hb1,hb2⟩:=hy;show wpAny _ _ (isInstance (.ref b) (.type "tuple") >>= _) _ _ s;refine Xa (wpAny_isInstance hTb isSubtype_tuple_tuple ?_);simp only[JM,XZ,if_false];refine Xa (wpAny_tupleItemsOf hoa hda ?_);refine Xa (wpAny_tupleItemsOf hob hdb ?_);refine Xa ?_
 have e2:decide (x=y)=(decide (x.1=y.1)&&decide (x.2=y.2)):=by
  obtain⟨x1,x2⟩:=x;obtain⟨y1,y2⟩:=y
  simp
 refine wpAny_forIn_list _
  (fun rest r s'=>r.1=none/\s'=s/\((rest=[(.ref p,.ref p'),(.ref q,.ref q')])\/(rest=[(.ref q,.ref q')]/\x.1=y.1)\/(rest=[]/\x=y)))
  _ ?_ ?_ _ _ ⟨rfl,rfl,.inl rfl⟩
 ·rintro⟨u,v⟩ rest r s' ⟨hr,rfl,(hz|⟨hz,e1⟩|⟨hz,_⟩)⟩
  ·injection hz with z1 z2
   injection z1 with z3 z4;subst z2 z3 z4;refine Xa (wpAny_eqBool_tuple (by omega) ha1 hb1 ?_)
   by_cases hk:x.1=y.1
   ·rw[XS hk]
    simp only[JM,XZ,if_false];exact Xk ⟨rfl,rfl,.inr (.inl ⟨trivial,hk⟩)⟩
   ·rw[XN hk]
    simp only[Bool.not_false,if_true];rw[e2,XN hk,Bool.false_and]at h;exact Xa (Xk (Xk (Xk h)))
  ·injection hz with z1 z2
   injection z1 with z3 z4;subst z2 z3 z4;refine Xa (wpAny_eqBool_tuple (by omega) ha2 hb2 ?_)
   by_cases hk:x.2=y.2
   ·rw[XS hk]
    simp only[JM,XZ,if_false];exact Xk ⟨rfl,rfl,.inr (.inr ⟨trivial,Prod.ext e1 hk⟩)⟩
   ·rw[XN hk]
    simp only[Bool.not_false,if_true];rw[e2,XN hk,Bool.and_false]at h;exact Xa (Xk (Xk (Xk h)))
  ·cases hz
 ·rintro⟨r1,r2⟩ s' ⟨hr,rfl,(hz|⟨hz,_⟩|⟨_,e⟩)⟩
  ·cases hz
  ·cases hz
  simp only at hr
  subst hr;refine Xk ?_;rw[XS e]at h;exact h
def Iv {x y:List K×List K}{a b:Addr}{Q:Bool->Shared->Prop}(hu:A.units+5<cLine)(hx:VS knd s.heap x a)(hy:VS knd s.heap y b)(h:Q (decide (x=y)) s) :
 wpAny (model prog w) A (eqBool (.ref a) (.ref b)) Q E s:=by
 unfold eqBool;try with_reducible refine wpAny_holding ?_;show wpAny _ _ (if (Value.ref a==Value.ref b)=true then _ else _) Q E s
 by_cases hab:(Value.ref a==Value.ref b)=true
 ·rw[Xd hab]
  have e:a=b:=by have:=eq_of_beq hab;injection this
  subst e;cases hx.inj hy;exact Xa (wpAny_rule (Xk (by simpa using h)))
 ·rw[Xb hab]
  exact Xa (wpAny_richCompare_same_room (op:=.Eq) hx.typeIs hy.typeIs F.slot_tuple_eq
   (wpAny_call_entry F.slot_tuple_eq hx.typeIs F.entry_tuple_eq (EU (by show _+1<cLine;simp;omega) hx hy ⟨_,rfl,(fun e=>nomatch e),wpAny_truthy_bool h⟩) (F.args_tuple_eq_2 _ _)) (by omega))
def EF (n:Nat){ks:List K}{a:Addr}{Q:Bool->Shared->Prop}(hk:IsTupleKey knd s.heap ks a)(h:Q true s):wpAny (model prog w) A (eqIsQuiet (n+1) (.ref a)) Q E s:=by
 have hT:=hk.typeIs;obtain⟨o,items,m,ho,_,hd,hi⟩:=hk;unfold eqIsQuiet;refine Xa (wpAny_specialOf hT F.slot_tuple_eq.lookup ?_);show wpAny _ _ (isInstance (.ref a) (.type "tuple") >>= _) _ _ s;refine Xa (wpAny_isInstance hT isSubtype_tuple_tuple ?_);simp only[JM,XZ,if_false];refine Xa (wpAny_seqItems ho hd ?_);refine Xa ?_;show wpAny _ _ (forIn items _ _) _ _ s;rw[<- Array.forIn_toList];refine wpAny_forIn_list _ (fun rest r s'=>r.1=none/\s'=s/\∀v∈rest,carriedByValue v=true) _ ?_ ?_ _ _ ⟨rfl,rfl,hi.byValue⟩
 ·rintro v rest r s' ⟨hr,rfl,hall⟩
  rw[eqIsQuiet_byValue _ (hall v Xc)];refine Xa (Xk ?_);simp only[JM,XZ,if_false];exact Xk ⟨rfl,rfl,fun u hu'=>hall u (Xe _ hu')⟩
 ·rintro⟨r1,r2⟩ s' ⟨hr,rfl,_⟩
  simp only at hr
  subst hr;exact Xk h
def IA {ks:List K×List K}{a:Addr}{Q:Bool->Shared->Prop}(hk:VS knd s.heap ks a)(h:Q true s):wpAny (model prog w) A (eqIsQuiet 8 (.ref a)) Q E s:=by
 have hT:=hk.typeIs;obtain⟨o,n,p,q,ho,_,hd,h1,h2⟩:=hk;unfold eqIsQuiet;refine Xa (wpAny_specialOf hT F.slot_tuple_eq.lookup ?_);show wpAny _ _ (isInstance (.ref a) (.type "tuple") >>= _) _ _ s;refine Xa (wpAny_isInstance hT isSubtype_tuple_tuple ?_);simp only[JM,XZ,if_false];refine Xa (wpAny_seqItems ho hd ?_);refine Xa ?_;show wpAny _ _ (forIn #[Value.ref p,Value.ref q] _ _) _ _ s;rw[<- Array.forIn_toList];refine wpAny_forIn_list _ (fun rest r s'=>r.1=none/\s'=s/\∀v∈rest,∃z zs,v=.ref z/\IsTupleKey knd s.heap zs z) _ ?_ ?_ _ _ ⟨rfl,rfl,fun v hv=>?_⟩
 ·rintro v rest r s' ⟨hr,rfl,hall⟩
  obtain⟨z,zs,rfl,hz⟩:=hall v Xc;refine Xa (EF 6 hz ?_);simp only[JM,XZ,if_false];exact Xk ⟨rfl,rfl,fun u hu'=>hall u (Xe _ hu')⟩
 ·rintro⟨r1,r2⟩ s' ⟨hr,rfl,_⟩
  simp only at hr
  subst hr;exact Xk h
 ·rcases Xg.mp hv with rfl|hv
  ·exact⟨p,_,rfl,h1⟩
  ·rcases Xg.mp hv with rfl|hv
   ·exact⟨q,_,rfl,h2⟩
   ·cases hv
end
def D3 {prog:Program}{w:World}{K:Type} [DecidableEq K] (knd:KeyKind prog w K):HeapKind prog w (List K×List K) where
 is:=VS knd
 hash:=Dw knd
 draws:=fun ks=>ks.1.length+ks.2.length+3
 room:=fun A=>A.units+5<cLine
 inj:=fun hx hy=>hx.inj hy
 keeps:=fun x ho hd hs=>x.keeps ho hd hs
 pyHash:=fun hu hk h=>Iw hu hk h
 eqBool:=fun hu hx hy h=>Iv hu hx hy h
 quiet:=fun hk h=>IA hk h
section
variable {prog:Program}{w:World}{K:Type} [DecidableEq K] {knd:HeapKind prog w K}{A:Around}{E:Qb}{s:Shared}
def IC {d a:Addr}{xs:List (K×Addr×Value)}{k:K}{dflt:Value}{Q:Qb}(hu:knd.room A)(hkey:knd.is s.heap k a)(hm:s.heap.DictOfH knd d xs)
 (hthere:∀p,atKey xs k=some p->Q p.2 { s with toks:=s.toks+knd.draws k })
 (hnew:atKey xs k=none->∀h',h'.DictOfH knd d (xs++[(k,a,dflt)])->Heap.SameBut d s.heap h'->Q dflt { s with heap:=h',toks:=s.toks+knd.draws k })
 (hsz:xs.length<=sizeLine) :
 wpAny (model prog w) A (dictSetDefault d (.ref a) dflt) Q E s:=by
 obtain⟨o,es,ep,ho,hc,hd,he,his,hn⟩:=hm;unfold dictSetDefault;try with_reducible refine wpAny_holding ?_;refine Xa (knd.pyHash hu hkey ?_);refine Xa (wpAny_dictFind_heap (s:={ s with toks:=s.toks+knd.draws k }) hu hkey ho hd he his hn ?_ ?_)
 ·intro hno
  have hnot:k∉xs.map (·.1):=not_mem_keys_of_get hno
  refine Xa (wpAny_rule (Xa (wpAny_updateDictKeys (hz:=by have e:=size_of_entries he;omega) (s:={ s with toks:=s.toks+knd.draws k }) ho hd (Xk (hnew (atKey_none_of_get hno) _ ⟨_,_,ep+1,XX _ ho (Obj.isFreed_of_dict (Obj.data_mapDictKeys hd _)),
   hc.mapDictKeys _,Obj.data_mapDictKeys hd _,?_,?_,?_⟩ (Heap.SameBut.update ..))))))
  ·simp[he,entryOfKey]
  ·intro x hx
   rcases XH.mp hx with hx|hx
   ·exact knd.keeps (his x hx) ho hd (Heap.SameBut.update ..)
   ·simp only[Xi]at hx
    subst hx;exact knd.keeps hkey ho hd (Heap.SameBut.update ..)
  ·rw[XD,List.nodup_append]
   refine⟨hn,by simp,?_⟩;intro x hx y hy;simp only[Xy,UK,Xi]at hy;subst hy;exact fun e=>hnot (e▸hx)
 ·intro j p hj
  refine Xa (wpAny_dictEntries (s:={ s with toks:=s.toks+knd.draws k }) ho hd ?_);rw[entry_at he j,hj];exact Xa (wpAny_rule (Xk (hthere _ (atKey_of_get hn hj))))
def Iz (knd:HeapKind prog w K)(d a:Addr)(hd:(d==sysModules)=false)(dflt:Value) :
 MeetsIn prog w (Builtin.«dict.setdefault» ⟨[.ref d,.ref a,dflt],[]⟩) (fun A R s=>knd.room A.in1/\∃k xs,knd.is s.heap k a/\s.heap.DictOfH knd d xs/\xs.length<=sizeLine /\
  (∀p,atKey xs k=some p->R (.ok (.ret p.2)) { s with toks:=s.toks+knd.draws k }) /\
  (atKey xs k=none->∀h',h'.DictOfH knd d (xs++[(k,a,dflt)])->Heap.SameBut d s.heap h'->R (.ok (.ret dflt)) { s with heap:=h',toks:=s.toks+knd.draws k })) :=
 .of_wp fun A R s ⟨hu,k,xs,hkey,hm,hz,h1,h2⟩=>by
  unfold Builtin.«dict.setdefault»;refine Xa ?_;unfold Builtin.Dict.keyAndDefault;refine Xa (wpAny_notOrdered_dict hm.typeIs ?_);show wpAny _ _ (pure (d,Value.ref a,some dflt)) _ _ s;refine Xk ?_;show wpAny _ _ (if (d==sysModules)=true then _ else (dictSetDefault d (.ref a) dflt >>= _)) _ _ s;rw[Xb (by rw[hd];exact Xs)];exact Xa (IC hu hkey hm (fun p hp=>Xk ⟨p.2,rfl,h1 p hp⟩) (fun hn h' hm' hs'=>Xk ⟨dflt,rfl,h2 hn h' hm' hs'⟩) hz)
end
end PySem
namespace L2
open PySem PySem.Spec PyProof.Rows
section
variable {κ:Type} [DecidableEq κ]
def Zq (kvs:List (κ×V))(k:κ):Option V:=(kvs.find? fun kv=>decide (kv.1=k)).map (·.2)
def VV (kvs:List (κ×V))(k:κ)(v:V):List (κ×V) :=
 if (kvs.any fun kv=>decide (kv.1=k))=true then kvs.map (fun kv=>if kv.1=k then (kv.1,v) else kv) else kvs++[(k,v)]
def Yx {p:κ×V}{r:List (κ×V)}{k:κ}(e:p.1=k):Zq (p::r) k=some p.2:=by simp[Zq,Xx,e]
def Yv {p:κ×V}{r:List (κ×V)}{k:κ}(e:¬p.1=k):Zq (p::r) k=Zq r k:=by simp[Zq,Xx,e]
theorem Rw (k:κ):∀kvs:List (κ×V),(kvs.any fun kv=>decide (kv.1=k))=(Zq kvs k).isSome
 |[]=>rfl
 |p::r=>by
   rw[List.any_cons];by_cases e:p.1=k
   ·simp only[Yx e,XS e,Bool.true_or,Option.isSome_some]
   ·rw[Yv e,XN e,Bool.false_or];exact Rw k r
theorem RL (k j:κ)(y:V):∀kvs:List (κ×V),Zq kvs k=none->Zq (kvs++[(k,y)]) j=if j=k then some y else Zq kvs j
 |[],_=>by
   by_cases e:k=j
   ·rw[Xd e.symm];exact Yx (p:=(k,y)) e
   ·rw[Xb (fun z=>e z.symm)];exact Yv (p:=(k,y)) e
 |p::r,hn=>by
   rw[WY];have hk:¬p.1=k:=fun z=>by rw[Yx z]at hn;cases hn
   rw[Yv hk]at hn;have ih:=RL k j y r hn
   by_cases e:p.1=j
   ·rw[Yx e,Yx e,Xb (fun z=>hk (e.trans z))]
   ·rw[Yv e,Yv e,ih]
def SA (kvs:List (κ×V))(k:κ)(v:V):(VV kvs k v).length<=kvs.length+1:=by
 unfold VV;split
 ·rw[Xn];omega
 ·rw[Xo,XI,List.length_nil];omega
def ZI.isSome_eq {o:Option V}{u:Qf}(r:ZI o u):o.isSome=u.isSome:=by
 cases o with
 |none=>cases u with
   |none=>rfl
   |some _=>exact(show False from r).elim
 |some _=>cases u with
   |none=>exact(show False from r).elim
   |some _=>rfl
def ZI.getD {o:Option V}{u:Qf}{d:V}{d':Value}(r:ZI o u)(rd:QJ d d'):QJ (o.getD d) (u.getD d'):=by
 cases o with
 |none=>cases u with
   |none=>exact rd
   |some _=>exact(show False from r).elim
 |some _=>cases u with
   |none=>exact(show False from r).elim
   |some _=>exact r
def KV.val {kvs:List (κ×V)}{vs:List (κ×Value)}(r:KV kvs vs)(k:κ):ZI (Zq kvs k) (valueAt vs k):=by
 unfold KV at r;induction r with
 |nil=>exact True.intro
 |@cons p q ps qs h t ih =>
   obtain⟨h1,h2⟩:=h
   by_cases e:p.1=k
   ·have e':q.1=k:=h1.symm.trans e
    have b:valueAt (q::qs) k=some q.2:=by simp[valueAt,Xx,e']
    rw[Yx e,b];exact h2
   ·have e':¬q.1=k:=fun z=>e (h1.trans z)
    have b:valueAt (q::qs) k=valueAt qs k:=by simp[valueAt,Xx,e']
    rw[Yv e,b];exact ih
def KV.any {kvs:List (κ×V)}{vs:List (κ×Value)}(r:KV kvs vs)(k:κ):(kvs.any fun kv=>decide (kv.1=k))=vs.any fun kv=>decide (kv.1=k):=by
 unfold KV at r;induction r with
 |nil=>rfl
 |cons h t ih=>rw[List.any_cons,List.any_cons,ih,h.1]
def KV.repl {kvs:List (κ×V)}{vs:List (κ×Value)}(r:KV kvs vs)(k:κ){y:V}{u:Value}(ry:QJ y u) :
 KV (kvs.map fun kv=>if kv.1=k then (kv.1,y) else kv) (vs.map fun kv=>if kv.1=k then (kv.1,u) else kv):=by
 unfold KV at r ⊢;induction r with
 |nil=>exact .nil
 |@cons p q ps qs h t ih =>
   rw[Xy,Xy];refine .cons ?_ ih;obtain⟨h1,h2⟩:=h
   by_cases e:p.1=k
   ·rw[Xd e,Xd (h1.symm.trans e)];exact⟨h1,ry⟩
   ·rw[Xb e,Xb (fun z=>e (h1.trans z))];exact⟨h1,h2⟩
def KV.put {kvs:List (κ×V)}{vs:List (κ×Value)}(r:KV kvs vs)(k:κ){y:V}{u:Value}(ry:QJ y u):KV (VV kvs k y) (stored vs k u):=by
 unfold VV stored;rw[r.any k];by_cases e:(vs.any fun kv=>decide (kv.1=k))=true
 ·rw[Xd e,Xd e];exact r.repl k ry
 ·rw[Xb e,Xb e];exact Paired.snoc r ⟨rfl,ry⟩
def KV.length {kvs:List (κ×V)}{vs:List (κ×Value)}(r:KV kvs vs):kvs.length=vs.length:=Paired.length r
end
def Ul {P:Program}{w:World}{k:Key}{u:Value}(r:QJ (kV k) u):(Vc P w).is k u=true:=by
 cases k with
 |inl i=>obtain⟨t,e⟩:=(show ∃t,u=Value.int i t from r);subst e;exact Ex P w i t
 |inr x=>obtain⟨t,e⟩:=(show ∃t,u=Value.str x t from r);subst e;exact EB P w x t
theorem RG {P:Program}{w:World}:∀{ks:List Key} {us:Qe},QN (ks.map kV) us->ItemsAre (Vc P w) ks us
 |[],_,r=>by rw[UK]at r;cases r;exact .nil
 |k::ks,_,r=>by
   rw[Xy]at r;cases r with
   |cons h t=>exact .cons (Ul h) (RG t)
abbrev KT (H:Hp):List (List Key×V)->List (List Key×Addr×Value)->Prop:=Paired fun p q=>p.1=q.1/\H q.2.1=some (.tup (p.1.map kV))/\QJ p.2 q.2.2
def KT.val {H:Hp}{kvs:List (List Key×V)}{xs:List (List Key×Addr×Value)}(r:KT H kvs xs)(k:List Key):ZI (Zq kvs k) ((atKey xs k).map (·.2)):=by
 induction r with
 |nil=>exact True.intro
 |@cons p q ps qs h t ih =>
   obtain⟨h1,_,h2⟩:=h
   by_cases e:p.1=k
   ·have e':q.1=k:=h1.symm.trans e
    have b:atKey (q::qs) k=some q.2:=by simp[atKey,Xx,e']
    rw[Yx e,b];exact h2
   ·have e':¬q.1=k:=fun z=>e (h1.trans z)
    have b:atKey (q::qs) k=atKey qs k:=by simp[atKey,Xx,e']
    rw[Yv e,b];exact ih
def KT.repl {H:Hp}{kvs:List (List Key×V)}{xs:List (List Key×Addr×Value)}(r:KT H kvs xs)(k:List Key){y:V}{u:Value}(ry:QJ y u) :
 KT H (kvs.map fun kv=>if kv.1=k then (kv.1,y) else kv) (xs.map (putAt k u)):=by
 induction r with
 |nil=>exact .nil
 |@cons p q ps qs h t ih =>
   rw[Xy,Xy];refine .cons ?_ ih;obtain⟨h1,h2,h3⟩:=h;unfold putAt;by_cases e:p.1=k
   ·rw[Xd e,Xd (h1.symm.trans e)];exact⟨h1,h2,ry⟩
   ·rw[Xb e,Xb (fun z=>e (h1.trans z))];exact⟨h1,h2,h3⟩
def KT.put {H:Hp}{kvs:List (List Key×V)}{xs:List (List Key×Addr×Value)}(r:KT H kvs xs)(k:List Key){b:Addr}{y:V}{u:Value}(hb:H b=some (.tup (k.map kV)))(ry:QJ y u) :
 KT H (VV kvs k y) (storedH xs k b u):=by
 have e:(kvs.any fun kv=>decide (kv.1=k))=(atKey xs k).isSome:=by
  rw[Rw,(r.val k).isSome_eq,UC]
 unfold VV storedH;rw[e];by_cases q:(atKey xs k).isSome=true
 ·rw[Xd q,Xd q];exact r.repl k ry
 ·rw[Xb q,Xb q];exact Paired.snoc r ⟨rfl,hb,ry⟩
def KT.keeps {H H':Hp}{kvs:List (List Key×V)}{xs:List (List Key×Addr×Value)}(r:KT H kvs xs)(ht:∀b ys,H b=some (.tup ys)->H' b=some (.tup ys)):KT H' kvs xs :=
 Paired.mapP r fun _ _ z=>⟨z.1,ht _ _ z.2.1,z.2.2⟩
section
variable {P:Program}{w:World}{H:Hp}{h:Heap}{a:Addr}
def K5 {u:HO}(ok:HOk P w H h)(e:Rd H a u):Z6 P w H h a u:=e.ok ok
def Jp {kvs:List (Key×V)}(ok:HOk P w H h)(e:Rd H a (.dK kvs)):kvs.length<=sizeLine/\(a==sysModules)=false/\∃vs,KV kvs vs/\h.DictOf (Vc P w) a vs :=
 show Z6 P w H h a (.dK kvs) from K5 ok e
def Pt {kvs:List (Key×V)}(ok:HOk P w H h)(e:H a=some (.dK kvs)):kvs.length<=sizeLine/\(a==sysModules)=false/\∃vs,KV kvs vs/\h.DictOf (Vc P w) a vs:=Jp ok (.inl e)
def YX {ks:List Key}(ok:HOk P w H h)(e:H a=some (.tup (ks.map kV))):(tupleKind (Vc P w)).is h ks a:=by
 obtain⟨_,its,r,o,h1,h2,n,h3⟩:=(show Z6 P w H h a (.tup (ks.map kV)) from ok a _ e)
 exact⟨o,its.toArray,n,h1,h2,h3,by simpa using RG r⟩
def Jl {kvs:List (List Key×V)}(ok:HOk P w H h)(e:Rd H a (.dT kvs)):kvs.length<=sizeLine/\(a==sysModules)=false /\
 ∃xs,KT H kvs xs/\h.DictOfH (tupleKind (Vc P w)) a xs:=by
 obtain⟨z,y,xs,r,o,es,ep,h1,h2,h3,h4,h5⟩:=(show Z6 P w H h a (.dT kvs) from K5 ok e);refine⟨z,y,xs,r,o,es,ep,h1,h2,h3,h4,fun x hx=>?_,h5⟩
 have all:∀{l:List (List Key×V)} {m:List (List Key×Addr×Value)},KT H l m->∀x∈m,(tupleKind (Vc P w)).is h x.1 x.2.1:=by
  intro l m q;induction q with
  |nil=>intro x hx;exact nomatch hx
  |@cons p q ps qs hq t ih =>
    intro x hx;rcases Xg.mp hx with e|hx
    ·subst e
     exact YX ok (by rw[<- hq.1];exact hq.2.1)
    ·exact ih x hx
 exact all r x hx
def Mv {kvs:List (List Key×V)}(ok:HOk P w H h)(e:H a=some (.dT kvs)):kvs.length<=sizeLine/\(a==sysModules)=false /\
 ∃xs,KT H kvs xs/\h.DictOfH (tupleKind (Vc P w)) a xs:=Jl ok (.inl e)
end
def Vr (H:Hp)(a:Addr)(y:V)(r:Option V):Prop :=
 (∃kvs k,Rd H a (.dK kvs)/\y=kV k/\r=Zq kvs k)\/∃kvs k b,Rd H a (.dT kvs)/\y=.ref b/\H b=some (.tup (k.map kV))/\r=Zq kvs k
def Je (H:Hp)(a:Addr)(y v:V)(H':Hp):Prop :=
 (∃kvs k,H a=some (.dK kvs)/\y=kV k/\kvs.length<sizeLine/\H'=upd H a (.dK (VV kvs k v))) \/
 ∃kvs k b,H a=some (.dT kvs)/\y=.ref b/\H b=some (.tup (k.map kV))/\kvs.length<sizeLine/\H'=upd H a (.dT (VV kvs k v))
def Vr.k {H:Hp}{a:Addr}{kvs:List (Key×V)}{k:Key}(e:H a=some (.dK kvs)):Vr H a (kV k) (Zq kvs k):=.inl ⟨kvs,k,.inl e,rfl,rfl⟩
def Vr.t {H:Hp}{a b:Addr}{kvs:List (List Key×V)}{k:List Key}(e:H a=some (.dT kvs))(eb:H b=some (.tup (k.map kV))):Vr H a (.ref b) (Zq kvs k):=.inr ⟨kvs,k,b,.inl e,rfl,eb,rfl⟩
def Je.k {H:Hp}{a:Addr}{kvs:List (Key×V)}{k:Key}{v:V}(e:H a=some (.dK kvs))(hl:kvs.length<sizeLine):Je H a (kV k) v (upd H a (.dK (VV kvs k v))):=.inl ⟨kvs,k,e,rfl,hl,rfl⟩
def Je.t {H:Hp}{a b:Addr}{kvs:List (List Key×V)}{k:List Key}{v:V}(e:H a=some (.dT kvs))(eb:H b=some (.tup (k.map kV)))(hl:kvs.length<sizeLine) :
 Je H a (.ref b) v (upd H a (.dT (VV kvs k v))):=.inr ⟨kvs,k,b,e,rfl,eb,hl,rfl⟩
section
variable {X:Cx}{XaR:Qc}{σ:St}{H:Hp}{s:Shared}{a:Addr}{y v:V}{u r:Value}{o:Option V}{A:Around}{E:Qb}
def Qq.big (I:Qq X XaR σ H s):sysModules<s.heap.objs.size:=by
 have h:mainGlobals<s.heap.objs.size:=(I.mod.glob.keeps I.bk).lt;exact Nat.lt_trans (by decide) h
def C2 {Q:Qb}(hu:A.units+1<cLine)(I:Qq X XaR σ H s)(g:Vr H a y (some v))(ry:QJ y u)(h:∀w' s',Qq X XaR σ H s'->QJ v w'->Q w' s') :
 wpAny (model X.prog X.w) A (getItem (.ref a) u) Q E s:=by
 rcases g with ⟨kvs,k,e,ey,l⟩|⟨kvs,k,b,e,ey,eb,l⟩
 ·subst ey
  obtain⟨z,hd,vs,rel,dd⟩:=Jp I.hok e;obtain⟨w',hw,rw'⟩:=ZI.some_of (v:=v) (o:=valueAt vs k) (by rw[l];exact rel.val k);exact wpAny_getItem_of (Ul ry) dd.mapOf hw (h w' _ (I.tok _) rw')
 ·subst ey
  cases (show u=Value.ref b from ry)
  obtain⟨z,hd,xs,rel,dd⟩:=Jl I.hok e;obtain⟨w',hw,rw'⟩:=ZI.some_of (v:=v) (o:=(atKey xs k).map (·.2)) (by rw[l];exact rel.val k);obtain⟨p,hp,hp2⟩:=Option.map_eq_some_iff.mp hw;refine wpAny_getItem_heap (tupleKind_room_in1 hu) (YX I.hok eb) dd hp ?_;rw[hp2];exact h w' _ (I.tok _) rw'
def SX {Q:Qb}(hu:A.units+1<cLine)(I:Qq X XaR σ H s)(g:Vr H a y o)(ry:QJ y u)(h:∀s',Qq X XaR σ H s'->Q (.bool o.isSome) s') :
 wpAny (model X.prog X.w) A (compareOp .In u (.ref a)) Q E s:=by
 rcases g with ⟨kvs,k,e,ey,l⟩|⟨kvs,k,b,e,ey,eb,l⟩
 ·subst ey
  obtain⟨z,hd,vs,rel,dd⟩:=Jp I.hok e;refine wpAny_in_of (Ul ry) hd dd.mapOf ?_;rw[<- (rel.val k).isSome_eq,<- l];exact h _ (I.tok _)
 ·subst ey
  cases (show u=Value.ref b from ry)
  obtain⟨z,hd,xs,rel,dd⟩:=Jl I.hok e;refine wpAny_in_heap (tupleKind_room_in1 hu) (YX I.hok eb) hd dd ?_;have q:=(rel.val k).isSome_eq;rw[UC]at q;rw[<- q,<- l];exact h _ (I.tok _)
def Lu {Q:Qb}(hu:A.units+1<cLine)(I:Qq X XaR σ H s)(g:Vr H a y o)(ry:QJ y u)(h:∀s',Qq X XaR σ H s'->Q (.bool (!o.isSome)) s') :
 wpAny (model X.prog X.w) A (compareOp .NotIn u (.ref a)) Q E s:=by
 rcases g with ⟨kvs,k,e,ey,l⟩|⟨kvs,k,b,e,ey,eb,l⟩
 ·subst ey
  obtain⟨z,hd,vs,rel,dd⟩:=Jp I.hok e;refine wpAny_notIn_of (Ul ry) hd dd.mapOf ?_;rw[<- (rel.val k).isSome_eq,<- l];exact h _ (I.tok _)
 ·subst ey
  cases (show u=Value.ref b from ry)
  obtain⟨z,hd,xs,rel,dd⟩:=Jl I.hok e;refine wpAny_notIn_heap (tupleKind_room_in1 hu) (YX I.hok eb) hd dd ?_;have q:=(rel.val k).isSome_eq;rw[UC]at q;rw[<- q,<- l];exact h _ (I.tok _)
def Go {h':Heap}{t':Nat}{ob:HO}(I:Qq X XaR σ H s)(mu:Mut (H a))(hs:Heap.SameBut a s.heap h')(he:∃q,h'.get? a=some q)(new:Z6 X.prog X.w (upd H a ob) h' a ob) :
 Qq X XaR σ (upd H a ob) { s with heap:=h',toks:=t' } :=
 I.write (x:=a) (e:=a) mu (.inl rfl) (fun b q hb z=>(hs.2 b hb).trans z) he new
def TD {P:Program}{w:World}{H':Hp}{h':Heap}{kvs:List (Key×V)}{vs:List (Key×Value)}(z:kvs.length<=sizeLine)(hd:(a==sysModules)=false)(rel:KV kvs vs)(dd:h'.DictOf (Vc P w) a vs) :
 Z6 P w H' h' a (.dK kvs):=⟨z,hd,vs,rel,dd⟩
def AO {H':Hp}{Q:Unit->Shared->Prop}(hu:A.units+1<cLine)(I:Qq X XaR σ H s)(g:Je H a y v H')(ry:QJ y u)(rv:QJ v r)(h:∀s',Qq X XaR σ H' s'->Q () s') :
 wpAny (model X.prog X.w) A (setItem (.ref a) u r) Q E s:=by
 rcases g with ⟨kvs,k,e,ey,l,eH⟩|⟨kvs,k,b,e,ey,eb,l,eH⟩
 ·subst ey eH
  obtain⟨z,hd,vs,rel,dd⟩:=Pt I.hok e;have hz:vs.length<=sizeLine:=by rw[<- rel.length];exact z
  have hl:(VV kvs k v).length<=sizeLine:=by have:=SA kvs k v;omega
  refine wpAny_setItem_pairs (hsz:=hz) (Ul ry) dd fun h' dd' hs=>h _ ?_;have he:∃q,h'.get? a=some q:=let ⟨q,_,_,hq,_⟩:=dd';⟨q,hq⟩;exact Go I (by rw[e];exact True.intro) hs he (TD hl hd (rel.put k rv) dd')
 ·subst ey eH
  cases (show u=Value.ref b from ry)
  obtain⟨z,hd,xs,rel,dd⟩:=Mv I.hok e;have hz:xs.length<=sizeLine:=by rw[<- Paired.length rel];exact z
  have hl:(VV kvs k v).length<=sizeLine:=by have:=SA kvs k v;omega
  refine wpAny_setItem_heap (hsz:=hz) (tupleKind_room_in1 hu) (YX I.hok eb) dd fun h' dd' hs=>h _ ?_;obtain⟨q,es,ep,hq,h2,h3,h4,_,h5⟩:=dd';refine Go I (by rw[e];exact True.intro) hs ⟨q,hq⟩ ⟨hl,hd,_,(rel.put k eb rv).keeps fun c ys ec=>?_,q,es,ep,hq,h2,h3,h4,h5⟩;rw[Qt (Kr ec e (fun z=>nomatch z))];exact ec
end
section
variable {X:Cx}{XaR:Qc}{σ:St}{H:Hp}{s:Shared}{a:Addr}{kvs:List (Key×V)}{k:Key}{u:Value}{A:Around}{E:Qb}
end
def Kk (i:Expr):Prop := ∀ov iv,subscripted i false ov iv=operate [ov,iv] (getItem ov iv)
def LG {prog:Program}{w:World}{A:Around}{E:Qb}{s:Shared}{env:Env}{value slice:Expr}{pos:Pos}{T id:String}{Q:Qb}
 (hl:typeLookup (.type T) "__getitem__"=pure (some (.builtin id))) (hs:Kk slice)
 (h:wpAny (model prog w) A (eval value env) (fun o b9=>wpAny (model prog w) A (eval slice env) (fun i b8=>b8.TypeIs o T/\wpAny (model prog w) A (getItem o i) Q E b8) E b9) E s) :
 wpAny (model prog w) A (eval (.Subscript value slice pos) env) Q E s:=by
 refine Subscript_ (wpAny_mono h (fun o b9 bj=>wpAny_mono bj (fun i b8 bv=>?_) fun _ _ x=>x) fun _ _ x=>x);obtain⟨hT,bv⟩:=bv;unfold subscriptTail;refine Xa ?_;rw[getitemInPython_of_ne hT.not_modules];refine Xa (wpAny_specialOf hT hl ?_)
 have fin:wpAny (model prog w) A (subscripted slice false o i) (fun r bq=>wpAny (model prog w) A (letTemporaryGo value o r >>= fun _=>pure r) Q E bq) E b8:=by
  rw[hs o i];exact wpAny_operating (wpAny_mono bv (fun r bq c7=>Xa (wpAny_letTemporaryGo (Xk c7))) fun _ _ x=>x)
 first
  |exact Xk (Xa fin)
  |exact Xa (Xk (Xa fin))
  |exact Xa fin
def EC {X:Cx} {XaR:Qc} {σ:St} {H:Hp} {s:Shared} {a:Addr} {y:V} {o:Option V} (I:Qq X XaR σ H s) (g:Vr H a y o):s.TypeIs (.ref a) "dict" := by
 rcases g with ⟨kvs,k,e,_,_⟩|⟨kvs,k,b,e,_,_,_⟩
 ·obtain⟨_,_,vs,_,dd⟩:=Jp I.hok e
  exact dd.typeIs
 ·obtain⟨_,_,xs,_,dd⟩:=Jl I.hok e
  exact dd.typeIs
def K2 (td ty:TE):TE:=fun σ H Q=>td σ H fun x H1=>ty σ H1 fun y H2=>∃a v,x=.ref a/\Vr H2 a y (some v)/\Q v H2
def GK (ty td:TE):TE:=fun σ H Q=>ty σ H fun y H1=>td σ H1 fun x H2=>∃a o,x=.ref a/\Vr H2 a y o/\Q (.bl o.isSome) H2
def N7 (ty td:TE):TE:=fun σ H Q=>ty σ H fun y H1=>td σ H1 fun x H2=>∃a o,x=.ref a/\Vr H2 a y o/\Q (.bl (!o.isSome)) H2
def K7 (td ty tv:TE):TS:=fun D σ H=>tv σ H fun v H1=>td σ H1 fun x H2=>ty σ H2 fun y H3=>∃a H4,x=.ref a/\Je H3 a y v H4/\D.nx σ H4
section
variable {X:Cx}{o i e value:Expr}{pos pos' tpos:Pos}{td ty tv:TE}
def NL (hu:X.A.units+1<cLine)(ho:PE X o td)(hi:PE X i ty)(hs:Kk i):PE X (.Subscript o i pos) (K2 td ty):=by
 intro XaR s σ H Q I h;refine LG PySem.F.slot_dict_getitem.lookup hs (Q6 (ho XaR s σ H _ I h) fun u s1 ⟨x,H1,I1,rx,q1⟩=>Q6 (hi XaR s1 σ H1 _ I1 q1) fun iv s2 ⟨y,H2,I2,ry,a,v,ex,g,q2⟩=>?_);subst ex;obtain rfl:u=Value.ref a:=rx
 exact⟨EC I2 g,C2 hu I2 g ry fun w' s3 I3 rw'=>⟨v,H2,I3,rw',q2⟩⟩
def M9 (hu:X.A.units+1<cLine)(hi:PE X i ty)(ho:PE X o td):PC X .In i o (GK ty td):=by
 intro XaR s σ H Q I h;refine Q6 (hi XaR s σ H _ I h) fun iv s1 ⟨y,H1,I1,ry,q1⟩=>Q6 (ho XaR s1 σ H1 _ I1 q1) fun u s2 ⟨x,H2,I2,rx,a,ov,ex,g,q2⟩=>?_;subst ex;obtain rfl:u=Value.ref a:=rx;exact SX hu I2 g ry fun s3 I3=>⟨.bl ov.isSome,H2,I3,rfl,q2⟩
def Al (hu:X.A.units+1<cLine)(hi:PE X i ty)(ho:PE X o td):PC X .NotIn i o (N7 ty td):=by
 intro XaR s σ H Q I h;refine Q6 (hi XaR s σ H _ I h) fun iv s1 ⟨y,H1,I1,ry,q1⟩=>Q6 (ho XaR s1 σ H1 _ I1 q1) fun u s2 ⟨x,H2,I2,rx,a,ov,ex,g,q2⟩=>?_;subst ex;obtain rfl:u=Value.ref a:=rx;exact Lu hu I2 g ry fun s3 I3=>⟨.bl (!ov.isSome),H2,I3,rfl,q2⟩
def LH (hu:X.A.units+1<cLine)(ho:PE X o td)(hi:PE X i ty)(hv:PE X value tv)(hs:swapsWith value (some (.Subscript o i pos')) pos.line X.env=pure false) :
 PS X (.Assign [.Subscript o i pos'] value pos) (K7 td ty tv):=by
 intro XaR s σ H D I h;refine wpAny_Assign_Subscript (Q6 (hv XaR s σ H _ I h) fun r s1 ⟨v,H1,I1,rv,q1⟩=>Q6 (ho XaR s1 σ H1 _ I1 q1) fun u s2 ⟨x,H2,I2,rx,q2⟩=>Q6 (hi XaR s2 σ H2 _ I2 q2) fun iv s3 ⟨y,H3,I3,ry,a,H4,ex,g,q3⟩=>?_) hs;subst ex;obtain rfl:u=Value.ref a:=rx;exact AO hu I3 g ry rv fun s4 I4=>⟨σ,H4,I4,q3⟩
end
def CF {P:Program} {w:World} {H:Hp} (h:Heap) (hb:sysModules<h.objs.size):Z6 P w H (h.push { cls:=.type "dict",data:=.dict #[] }) h.objs.size (.dK []) :=
 ⟨XQ _,beq_eq_false_iff_ne.mpr (Ne.symm (Xm hb)),[],.nil,Heap.DictOf.new h⟩
def Rk {P:Program} {w:World} {H:Hp} (h:Heap) (hb:sysModules<h.objs.size):Z6 P w H (h.push { cls:=.type "dict",data:=.dict #[] }) h.objs.size (.dT []) :=
 ⟨XQ _,beq_eq_false_iff_ne.mpr (Ne.symm (Xm hb)),[],.nil,_,#[],0,Xu _ rfl,⟨rfl,rfl,rfl⟩,rfl,rfl,JN⟩
def PO:TE:=fun _ H Q=>∀p,H p=none->Q (.ref p) (upd H p (.dK []))
def Tl:TE:=fun _ H Q=>∀p,H p=none->Q (.ref p) (upd H p (.dT []))
section
variable {X:Cx}{pos:Pos}
def Fd:PE X (.Dict [] [] pos) PO:=fun XaR s σ H Q I h =>
 wpAny_Dict_empty ⟨.ref s.heap.objs.size,_,I.laid (a:=s.heap.objs.size) (o:=.dK []) (t':=s.toks) (fun _ _ q=>Xf _ q) (Xq _) (CF s.heap I.big),rfl,h _ (I.hok.fresh (Xq _))⟩
def Fy:PE X (.Dict [] [] pos) Tl:=fun XaR s σ H Q I h =>
 wpAny_Dict_empty ⟨.ref s.heap.objs.size,_,I.laid (a:=s.heap.objs.size) (o:=.dT []) (t':=s.toks) (fun _ _ q=>Xf _ q) (Xq _) (Rk s.heap I.big),rfl,h _ (I.hok.fresh (Xq _))⟩
end
structure M2 (X:Cx)(o:Expr)(m:Str)(apos:Pos)(e f:Expr)(cpos:Pos):Prop where
 base:attributeBase o m X.env (eval o X.env)=eval o X.env
 few:((backTo cpos (starEach [e,f] X.env)).all (fun x => !x.1)&&(backToKw cpos (keywordEach [] X.env)).all (fun x=>x.1.isSome)
  && decide (([e,f]:Qi).length+([]:List Keyword).length+(if ([]:List Keyword).isEmpty then 0 else 1)<30))=true
 line:(apos.endLine==cpos.line)=true
 trees:backTo cpos (starEach [e,f] X.env)=[(false,eval e X.env),(false,eval f X.env)]
def IsD (H:Hp)(a:Addr):Prop:=(∃kvs,Rd H a (.dK kvs))\/∃kvs,Rd H a (.dT kvs)
def KU {X:Cx}{XaR:Qc}{σ:St}{H:Hp}{s:Shared}{a:Addr}(I:Qq X XaR σ H s)(d:IsD H a) :
 s.TypeIs (.ref a) "dict" /\ (∀b,Value.ref a=.ref b->∃ob,s.heap.get? b=some ob/\ob.dict=none)/\(a==sysModules)=false:=by
 rcases d with ⟨kvs,e⟩|⟨kvs,e⟩
 ·obtain⟨_,hd,vs,_,dd⟩:=Jp I.hok e
  refine⟨dd.typeIs,fun b q=>?_,hd⟩
  cases q
  obtain⟨ob,_,_,h1,h2,_⟩:=dd
  exact⟨ob,h1,h2.2.1⟩
 ·obtain⟨_,hd,xs,_,dd⟩:=Jl I.hok e
  refine⟨dd.typeIs,fun b q=>?_,hd⟩
  cases q
  obtain⟨ob,_,_,h1,h2,_⟩:=dd
  exact⟨ob,h1,h2.2.1⟩
section
variable {X:Cx}{XaR:Qc}{σ:St}{H:Hp}{s:Shared}{a:Addr}{y d:V}{u r:Value}{o:Option V}{A:Around}{E:Qb}
def P6 {Q:Qb}(hu:A.units+1<cLine)(I:Qq X XaR σ H s)(g:Vr H a y o)(ry:QJ y u)(rd:QJ d r)(h:∀w' s',Qq X XaR σ H s'->QJ (o.getD d) w'->Q w' s') :
 wpAny (model X.prog X.w) A (call (.builtin "dict.get") [.ref a,u,r]) Q E s:=by
 rcases g with ⟨kvs,k,e,ey,l⟩|⟨kvs,k,b,e,ey,eb,l⟩
 ·subst ey
  obtain⟨z,hd,vs,rel,dd⟩:=Jp I.hok e;refine call_meetsIn PySem.F.slot_dict_get dd.typeIs PySem.F.entry_dict_get (PySem.F.args_dict_get_3 _ _ _) (meets_dict_get_default (Vc X.prog X.w) a (Ul ry) hd r) ⟨_,dd.mapOf,h _ _ (I.tok _) ?_⟩;rw[l];exact(rel.val k).getD rd
 ·subst ey
  cases (show u=Value.ref b from ry)
  obtain⟨z,hd,xs,rel,dd⟩:=Jl I.hok e;refine call_meetsIn PySem.F.slot_dict_get dd.typeIs PySem.F.entry_dict_get (PySem.F.args_dict_get_3 _ _ _) (meetsH_dict_get_default (tupleKind (Vc X.prog X.w)) a b hd r) ⟨tupleKind_room_in1 hu,k,xs,YX I.hok eb,dd,h _ _ (I.tok _) ?_⟩;rw[l];exact(rel.val k).getD rd
end
def Nb (td ty tx:TE):TE:=fun σ H Q=>td σ H fun x H1=>∃a,x=.ref a/\IsD H1 a/\ty σ H1 fun y H2=>tx σ H2 fun z H3=>∃o,Vr H3 a y o/\Q (o.getD z) H3
section
variable {X:Cx}{o e f:Expr}{apos cpos:Pos}{td ty tx:TE}
def C9 (hu:X.A.units+1<cLine) (ho:PE X o td) (he:PE X e ty) (hf:PE X f tx) (m:M2 X o "get" apos e f cpos):PE X (.Call (.Attribute o "get" apos) [e,f] [] cpos) (Nb td ty tx):=by
 intro XaR s σ H Q I h;refine wpAny_Call_method m.base m.few m.line PySem.F.plainAttrs_dict PySem.F.slot_dict_get PySem.F.type_dict_get (Q6 (ho XaR s σ H _ I h) fun u s1 ⟨x,H1,I1,rx,a,ex,d,q1⟩=>?_);subst ex;obtain rfl:u=Value.ref a:=rx;obtain⟨t1,t2,_⟩:=KU I1 d;refine⟨t1,t2,?_⟩
 rw[m.trees];refine Calls.callWith_builtin rfl (Calls.evalArgs_plain (Calls.spliced_cons (Q6 (he XaR s1 σ H1 _ I1 q1) fun iv s2 ⟨y,H2,I2,ry,q2⟩ =>
  Calls.spliced_cons (Q6 (hf XaR s2 σ H2 _ I2 q2) fun fv s3 ⟨z,H3,I3,rz,ov,g,q3⟩=>Calls.spliced_nil ?_))))
 exact P6 hu I3 g ry rz fun w' s4 I4 rw'=>⟨_,H3,I4,rw',q3⟩
end
section
variable {X:Cx}{XaR:Qc}{σ:St}{H:Hp}{s:Shared}{a:Addr}{kvs:List (Key×V)}{A:Around}{E:Qb}
end
section
variable {X:Cx}{XaR:Qc}{σ:St}{H:Hp}{s:Shared}{a:Addr}{y:V}{u:Value}{A:Around}{E:Qb}
end
end L2
def Wo:1<=1000:=by decide
def W8:2<=1000:=by decide
namespace My
end My
namespace L2
open PySem
theorem ZD.keep {F H H':Hp}:∀{as:Qg} {dss:List (Qd)},(∀b∈as,H' b=H b)->ZD F H as dss->ZD F H' as dss
 |[],[],_,_=>trivial
 |a::as,_::_,h,o=>by
   obtain⟨⟨h1,xs,h2,h3⟩,o2⟩:=o
   exact⟨⟨h1,xs,by rw[h a Xc];exact h2,h3⟩,ZD.keep (fun b hb=>h b (Xe _ hb)) o2⟩
 |[],_::_,_,h=>False.elim h
 |_::_,[],_,h=>False.elim h
def Zk.keep {K:W.Frag}{F H H':Hp}{v:V}{t:OT}{p:Qg}(k:∀b∈p,H' b=H b)(h:Zk K F H v t p):Zk K F H' v t p:=by
 cases t with
 |fz d=>exact h
 |zow Ψ=>exact h
 |ol ds =>
   obtain⟨a,rfl,rfl,h1,xs,h2,h3⟩:=h
   exact⟨a,rfl,rfl,h1,xs,by rw[k a Xc];exact h2,h3⟩
 |oll dss =>
   obtain⟨a,as,rfl,rfl,h1,h2,h3,h4⟩:=h
   exact⟨a,as,rfl,rfl,h1,h2,by rw[k a Xc];exact h3,h4.keep fun b hb=>k b (Xe _ hb)⟩
 |scr ns=>exact h
 |own v0 Φ =>
   obtain⟨h1,h2⟩:=h
   exact⟨h1,Φ.mono (Q4.refl _) (fun a ha=>(Φ.there h2 a ha).1) k h2⟩
def QC.writeOwn {K:W.Frag}{H0 F H:Hp}{ρ:Q5}{σ:St}{i:Nat}{v:V}{Φ:OwnP}(s:QC K H0 F ρ σ H)(e:ρ[i]?=some (some (.own v Φ))) :
 σ[i]?=some (some v)/\∃p,Φ.ok K F H v p/\(∀a∈p,H0 a=none/\F a=none/\H a≠none) /\
  ∀(H':Hp) (Φ':OwnP) (p':Qg),Q4 F H'->(∀b,b∉p->H b≠none->H' b=H b)->(∀b,H b≠none->H' b≠none)->Φ'.ok K F H' v p'->(∀a∈p',a∈p\/(H a=none/\H0 a=none)) ->
   QC K H0 F (ρ.set i (some (.own v Φ'))) σ H':=by
 obtain⟨kt,h1,h2,fp,h3,h4,h5⟩:=s;obtain⟨u,e1,rfl,e2⟩:=h3 i _ e;refine⟨e1,fp i,e2,fun a ha=>⟨(h5 i a ha).1,(Φ.there e2 a ha).1,(h5 i a ha).2⟩,fun H' Φ' p' sm kp st ok sub=>?_⟩;have hlt:=(Xh.mp e).1;refine⟨kt,sm,by simp[h2],fun j=>if j=i then p' else fp j,fun j t' e'=>?_,fun j k a ha hb=>?_,fun j a ha=>?_⟩
 ·by_cases hj:j=i
  ·subst hj
   rw[Xr hlt]at e';cases e';refine⟨_,e1,rfl,?_⟩;simp only[if_true];exact ok
  ·rw[Xw (Ne.symm hj)]at e'
   obtain⟨u',f1,f2⟩:=h3 j t' e';refine⟨u',f1,?_⟩;simp only[Xb hj];exact f2.keep fun b hb=>kp b (fun z=>hj (h4 j i b hb z)) (h5 j b hb).2
 ·by_cases hj:j=i
  ·by_cases hk:k=i
   ·omega
   ·simp only[Xd hj]at ha
    simp only[Xb hk]at hb;rcases sub a ha with z|z
    ·exact Xl (h4 k i a hb z) hk
    ·exact Xl z.1 (h5 k a hb).2
  ·simp only[Xb hj]at ha
   by_cases hk:k=i
   ·simp only[Xd hk]at hb
    rcases sub a hb with z|z
    ·exact Xl (h4 j i a ha z) hj
    ·exact Xl z.1 (h5 j a ha).2
   ·simp only[Xb hk]at hb
    exact h4 j k a ha hb
 ·by_cases hj:j=i
  ·simp only[Xd hj]at ha
   rcases sub a ha with z|z
   ·exact⟨(h5 i a z).1,st a (h5 i a z).2⟩
   ·exact⟨z.2,(Φ'.there ok a ha).2⟩
  ·simp only[Xb hj]at ha
   exact⟨(h5 j a ha).1,st a (h5 j a ha).2⟩
def GL:Key->PyData
 |.inl i=>.int i
 |.inr x=>.str x
def QT (k:List Key):PyData:=.tuple (k.map GL)
def NS {F:Hp}{y:V}{k:Key}(r:Rep F y (GL k)):y=kV k:=by
 cases k with
 |inl i=>cases r;rfl
 |inr x=>cases r;rfl
theorem RC {F:Hp}:∀{ys:List V} {k:List Key},Qw F ys (k.map GL)->ys=k.map kV
 |_,[],.nil=>rfl
 |_,k::ks,.cons r rs=>by rw[NS r,RC rs];rfl
def Wf {F:Hp}{y:V}{k:List Key}(r:Rep F y (QT k)):∃b,y=.ref b/\F b=some (.tup (k.map kV)):=by
 unfold QT at r;cases r with
 |tup h rs=>exact⟨_,rfl,by rw[h,RC rs]⟩
abbrev ZL:=List (List Key×PyData)
def VC (kvs:ZL)(k:List Key):Option PyData:=(kvs.find? fun kv=>decide (kv.1=k)).map (·.2)
def Ub (kvs:ZL)(k:List Key)(d:PyData):ZL:=if (kvs.any fun kv=>decide (kv.1=k))=true then kvs.map (fun kv=>if kv.1=k then (kv.1,d) else kv) else kvs++[(k,d)]
inductive PairD (F:Hp):List (List Key×V)->ZL->Prop
 |nil:PairD F [] []
 |cons {k:List Key} {x:V} {d:PyData} {xs:List (List Key×V)} {kvs:ZL}:Rep F x d->PairD F xs kvs->PairD F ((k,x)::xs) ((k,d)::kvs)
theorem PairD.mono {F F':Hp}(s:Q4 F F'):∀{xs:List (List Key×V)} {kvs:ZL},PairD F xs kvs->PairD F' xs kvs
 |_,_,.nil=>.nil
 |_,_,.cons r t=>.cons (r.mono s) (t.mono s)
theorem PairD.length {F:Hp}:∀{xs:List (List Key×V)} {kvs:ZL},PairD F xs kvs->xs.length=kvs.length
 |_,_,.nil=>rfl
 |_,_,.cons _ t=>by simp[t.length]
theorem PairD.val {F:Hp}(k:List Key):∀{xs:List (List Key×V)} {kvs:ZL},PairD F xs kvs->(Zq xs k=none/\VC kvs k=none)\/∃x d,Zq xs k=some x/\VC kvs k=some d/\Rep F x d
 |_,_,.nil=>.inl ⟨rfl,rfl⟩
 |_,_,.cons (k:=k') (x:=x) (d:=d) (xs:=xs) (kvs:=kvs) r t=>by
   by_cases e:k'=k
   ·exact .inr ⟨x,d,Yx e,by simp[VC,Xx,e],r⟩
   ·have q:VC ((k',d)::kvs) k=VC kvs k:=by simp[VC,Xx,e]
    rw[Yv (p:=(k',x)) e,q];exact t.val k
theorem PairD.any {F:Hp}(k:List Key):∀{xs:List (List Key×V)} {kvs:ZL},PairD F xs kvs->(xs.any fun kv=>decide (kv.1=k))=(kvs.any fun kv=>decide (kv.1=k))
 |_,_,.nil=>rfl
 |_,_,.cons _ t=>by simp[t.any k]
theorem PairD.mapP {F:Hp}(k:List Key){y:V}{d:PyData}(r:Rep F y d):∀{xs:List (List Key×V)} {kvs:ZL},PairD F xs kvs->PairD F (xs.map fun kv=>if kv.1=k then (kv.1,y) else kv) (kvs.map fun kv=>if kv.1=k then (kv.1,d) else kv)
 |_,_,.nil=>.nil
 |_,_,.cons (k:=k') r' t=>by
   rw[Xy,Xy];by_cases e:k'=k
   ·simp only[e,if_true]
    exact .cons r (t.mapP k r)
   ·simp only[e,if_false]
    exact .cons r' (t.mapP k r)
theorem PairD.snoc {F:Hp}(k:List Key){y:V}{d:PyData}(r:Rep F y d):∀{xs:List (List Key×V)} {kvs:ZL},PairD F xs kvs->PairD F (xs++[(k,y)]) (kvs++[(k,d)])
 |_,_,.nil=>.cons r .nil
 |_,_,.cons r' t=>.cons r' (t.snoc k r)
def PairD.put {F:Hp}(k:List Key){y:V}{d:PyData}(r:Rep F y d){xs:List (List Key×V)}{kvs:ZL}(t:PairD F xs kvs):PairD F (VV xs k y) (Ub kvs k d):=by
 unfold VV Ub;rw[t.any k];split
 ·exact t.mapP k r
 ·exact t.snoc k r
def Vq (kvs:ZL):OwnP where
 ok K F H v p := ∃a xs,v=.ref a/\p=[a]/\F a=none/\H a=some (.dT xs)/\PairD F xs kvs
 there:=by
  rintro K F H v p ⟨a,xs,rfl,rfl,h1,h2,h3⟩ b hb
  cases Xi.mp hb
  exact⟨h1,Z1 h2⟩
 mono:=by
  rintro K F F' H H' v p s hF hH ⟨a,xs,rfl,rfl,h1,h2,h3⟩
  exact⟨a,xs,rfl,rfl,hF a Xc,by rw[hH a Xc];exact h2,h3.mono s⟩
 uniq:=by
  rintro K F H v p q ⟨a,xs,rfl,rfl,_⟩ ⟨b,ys,e,rfl,_⟩ c hc
  cases e
  exact hc
section
variable {K:W.Frag}{ρ:Q5}{te ty tv:TE}{D:PEnds}{i:Nat}{v:V}{kvs:ZL}{k:List Key}{d:PyData}
def QC.dct {H0 F H:Hp}{σ:St}(S:QC K H0 F ρ σ H)(e:ρ[i]?=some (some (.own v (Vq kvs)))) :
 ∃a xs,v=.ref a/\σ[i]?=some (some (.ref a))/\F a=none/\H0 a=none/\H a=some (.dT xs)/\PairD F xs kvs:=by
 obtain⟨e1,p,⟨a,xs,rfl,rfl,h1,h2,h3⟩,hp,_⟩:=S.writeOwn e
 exact⟨a,xs,rfl,e1,h1,(hp a Xc).1,h2,h3⟩
def Hr {F:Hp}{xs:List (List Key×V)}(t:PairD F xs kvs):(Zq xs k).isSome=(VC kvs k).isSome:=by
 rcases t.val k with ⟨z1,z2⟩|⟨x,d',z1,z2,_⟩<;>rw[z1,z2]<;>rfl
def LI (hy:Qu K ty ρ (QT k))(e:ρ[i]?=some (some (.own v (Vq kvs)))):Qu K (GK ty (QD i)) ρ (.bool (VC kvs k).isSome):=fun H0 F σ H Q S q =>
 hy H0 F σ H _ S fun F1 H1 y x1 r1=>by
  obtain⟨a,xs,rfl,e1,_,_,f2,f3⟩:=(S.ext x1).dct e;obtain⟨b,rfl,hb⟩:=Wf r1
  exact⟨_,e1,a,_,rfl,Vr.t f2 (x1.fh _ _ hb),q F1 H1 _ x1 (by rw[Hr f3];exact .bl _)⟩
def Ay (hy:Qu K ty ρ (QT k))(e:ρ[i]?=some (some (.own v (Vq kvs)))):Qu K (N7 ty (QD i)) ρ (.bool (!(VC kvs k).isSome)):=fun H0 F σ H Q S q =>
 hy H0 F σ H _ S fun F1 H1 y x1 r1=>by
  obtain⟨a,xs,rfl,e1,_,_,f2,f3⟩:=(S.ext x1).dct e;obtain⟨b,rfl,hb⟩:=Wf r1
  exact⟨_,e1,a,_,rfl,Vr.t f2 (x1.fh _ _ hb),q F1 H1 _ x1 (by rw[Hr f3];exact .bl _)⟩
def FX (e:ρ[i]?=some (some (.own v (Vq kvs))))(hv:Qu K tv ρ d)(hy:Qu K ty ρ (QT k))(hz:kvs.length<sizeLine)(hn:D.nx (ρ.set i (some (.own v (Vq (Ub kvs k d)))))):Q0 K (K7 (QD i) ty tv) ρ D:=fun F0 H0 F σ H E x S C =>
 hv H0 F σ H _ S fun F1 H1 u x1 r1=>by
  obtain⟨a,xs,rfl,e1,_⟩:=(S.ext x1).dct e;refine⟨_,e1,hy H0 F1 σ H1 _ (S.ext x1) fun F2 H2 y x2 r2=>?_⟩;have S2:=S.ext (x1.trans x2);obtain⟨a',xs',ea,_,g1,g0,g2,g3⟩:=S2.dct e
  cases ea
  obtain⟨b,rfl,hb⟩:=Wf r2;refine⟨a,_,rfl,Je.t g2 (x2.fh _ _ hb) (by rw[g3.length];exact hz),?_⟩;obtain⟨_,p,ok,hp,w⟩:=S2.writeOwn e;obtain⟨a'',xs'',ea,rfl,_,g4,_⟩:=ok
  cases ea
  refine C.nx F2 σ _ _ ((x.trans (x1.trans x2)).wr g0 g1) (w _ (Vq (Ub kvs k d)) [a] (S2.sub.upd g1) (fun c hc _=>Qt fun z=>hc (by rw[z];exact Xc)) (fun c hc=>?_) ⟨a,_,rfl,rfl,g1,QA,g3.put k (r1.mono x2.ff)⟩ (fun c hc=>.inl hc)) hn
  by_cases z:c=a
  ·subst z;rw[QA];exact fun q=>nomatch q
  ·rw[Qt z];exact hc
def EvX (K:W.Frag)(t:TE)(ρ:Q5)(Φ:OwnP):Prop := ∀(H0 F:Hp) (σ:St) (H:Hp) (Q:VK),QC K H0 F ρ σ H->(∀F' H' v p,Q1 F H F' H'->(∀a∈p,H a=none)->Φ.ok K F' H' v p->Q v H')->t σ H Q
theorem DN:∀{as bs:Qg},as.map V.ref=bs.map V.ref->as=bs
 |[],[],_=>rfl
 |a::as,b::bs,h=>by
   rw[Xy,Xy]at h;injection h with h1 h2
   cases h1
   rw[DN h2]
 |[],_::_,h=>by cases h
 |_::_,[],h=>by cases h
def GA {F H:Hp}{w:V}{t:OT}{p q:Qg}(h:Zk K F H w t p)(h':Zk K F H w t q):∀b∈q,b∈p:=by
 cases t with
 |fz d=>rw[h'.1];intro b hb;cases hb
 |zow Ψ=>rw[h'.1];intro b hb;cases hb
 |ol ds =>
   obtain⟨b1,z1,z2,z3⟩:=h';obtain⟨b2,y1,y2,y3⟩:=h;rw[z1]at y1;cases y1;rw[z2,y2];exact fun _ z=>z
 |oll dss =>
   obtain⟨a,as,z1,z2,_,_,z3,_⟩:=h';obtain⟨b,bs,y1,y2,_,_,y3,_⟩:=h;rw[z1]at y1;cases y1;rw[z3]at y3;injection y3 with y4;injection y4 with y5;rw[z2,y2,DN y5];exact fun _ z=>z
 |scr ns=>rw[h'.1];intro b hb;cases hb
 |own v0 Φ=>exact Φ.uniq h.2 h'.2
def Di {Φ:OwnP}(h:EvX K te ρ Φ)(hn:∀v,D.nx (ρ.set i (some (.own v Φ)))):Q0 K (ZS te (ZW i)) ρ D:=fun F0 H0 F σ H E x S C =>
 h H0 F σ H _ S fun F' H' v p x' hp ok=>by
  refine C.nx F' _ H' _ (x.trans x') ((S.ext x').set (t:=.own v Φ) ⟨rfl,ok⟩ (fun a ha=>x.hh.free (hp a ha)) (hn:=fun a ha j w t' q e1 e2 ok'=>?_)) (hn v);obtain⟨fp,g1,g2,g3⟩:=S.fp;obtain⟨w',f1,f2⟩:=g1 j t' e1;intro hq;have f3:=f2.ext x';rw[e2]at f1;cases f1
  exact(g3 j a (GA (K:=K) f3 ok' a hq)).2 (hp a ha)
end
end L2
namespace Mir
theorem Sa {g:Qn}{l:Nat}(h:∀c,c<=l->g c=0):∀m,Q2 g (l+1+m)=Q2 (fun j=>g (l+1+j)) m
 |0=>by
   show Q2 g (l+1)=0;rw[Zm (g:=fun _=>0) fun k hk=>h k (by omega),VB]
 |m+1=>by
   show Q2 g (l+1+m)+g (l+1+m)=_;rw[Sa h m];rfl
theorem S5 (y:Yd)(b own:Qn)(l:Nat):∀m,W3 y b own l m=Q2 (fun j=>if Zf y (l+1+j)=some l then passes y b own (l+1+j) else 0) m
 |0=>rfl
 |m+1=>by simp only[W3,Q2];rw[S5 y b own l m]
def Uf {y:Yd}(ok:y.Ok){c l:Nat}(hc:c<y.ls.length)(e:Zf y c=some l):l<c:=by
 by_cases h0:c=0
 ·subst h0;rw[ok.up0]at e;cases e
 ·obtain⟨a,ea,la⟩:=ok.ups c (by omega) hc
  rw[ea]at e;cases e;exact la
def Sc {y:Yd}(ok:y.Ok)(b own:Qn){l:Nat}(hl:l<y.ls.length):V2 y b own l=own l+Q2 (fun c=>if Zf y c=some l then passes y b own c else 0) y.ls.length:=by
 rw[Fj ok,S5];have e:y.ls.length=l+1+(y.ls.length-1-l):=by omega
 have h:=Sa (g:=fun c=>if Zf y c=some l then passes y b own c else 0) (l:=l) (fun c hc=>Xb fun z=>by
  have:=Uf ok (by omega) z
  omega) (y.ls.length-1-l)
 rw[<- e]at h;rw[h]
section
variable (y:Yd)(b own:Qn)
end
section
variable {y:Yd}{b own:Qn}
def Rn (ok:y.Ok):upL y 0=[0]:=by
 have:=ok.l1
 rw[KM ok (by omega),Xd rfl]
end
end Mir
namespace Mir
def ind (p:Prop) [Decidable p]:Int:=if p then 1 else 0
theorem NN {y:Yd}(ok:y.Ok)(l:Nat)(hl:l<y.ls.length):∀n j,j<n->j<y.ls.length ->
 ind (l∈upL y j)=ind (j=l)+Q2 (fun c=>if Zf y c=some l then ind (c∈upL y j) else 0) y.ls.length
 |0,j,h,_=>by omega
 |n+1,j,h,hj=>by
   by_cases e:j=l
   ·subst e
    have z:Q2 (fun c=>if Zf y c=some j then ind (c∈upL y j) else 0) y.ls.length=0:=by
     rw[Zm (g:=fun _=>0) fun c hc=>?_,VB]
     by_cases u:Zf y c=some j
     ·have:=Uf ok hc u
      have w:¬c∈upL y j:=fun z=>by have:=Np y j c z;omega
      simp[u,ind,w]
     ·simp[u]
    rw[z];simp[ind,DA]
   ·by_cases j0:j=0
    ·subst j0
     have w:¬l∈upL y 0:=fun z=>by rw[Rn ok]at z;simp at z;exact e z.symm
     have z:Q2 (fun c=>if Zf y c=some l then ind (c∈upL y 0) else 0) y.ls.length=0:=by
      rw[Zm (g:=fun _=>0) fun c hc=>?_,VB]
      by_cases u:Zf y c=some l
      ·have c0:¬c∈upL y 0:=fun z=>by
        rw[Rn ok]at z;simp at z;subst z;rw[ok.up0]at u;cases u
       simp[u,ind,c0]
      ·simp[u]
     rw[z];simp[ind,w,e]
    ·obtain⟨a,ea,la⟩:=ok.ups j (by omega) hj
     have ih:=NN ok l hl n a (by omega) (by omega);have m1:(l∈upL y j)↔(l∈upL y a):=MQ ok (by omega) hj ea l (fun z=>e z.symm);have e1:ind (l∈upL y j)=ind (l∈upL y a):=by unfold ind;simp only[m1]
     have e2:∀c,c<y.ls.length->(if Zf y c=some l then ind (c∈upL y j) else 0)=(if Zf y c=some l then ind (c∈upL y a) else 0)+(if c=j then ind (a=l) else 0):=by
      intro c hc;by_cases z:c=j
      ·subst z
       have w:¬c∈upL y a:=fun q=>by have:=Np y a c q;omega
       rw[ea];by_cases q:a=l
       ·subst q;simp[ind,DA,w]
       ·have:¬some a=some l:=fun z=>q (by injection z)
        simp[ind,q]
      ·have m2:(c∈upL y j)↔(c∈upL y a):=MQ ok (by omega) hj ea c z
       have:ind (c∈upL y j)=ind (c∈upL y a):=by unfold ind;simp only[m2]
       rw[this,Xb z,Int.add_zero]
     rw[e1,ih,Zm e2,G1,Uz,Xd hj];have:ind (j=l)=0:=by unfold ind;rw[Xb e]
     omega
def ZZ (y:Yd)(m:Nat)(ln:Nat->Nat)(f:Qn)(l:Nat):Int:=Q2 (fun k=>f k*ind (l∈upL y (ln k))) m
def G8 {y:Yd}(ok:y.Ok){m:Nat}{ln:Nat->Nat}(hln:∀k,k<m->ln k<y.ls.length)(f:Qn){l:Nat}(hl:l<y.ls.length) :
 ZZ y m ln f l=Q2 (fun k=>f k*ind (ln k=l)) m+Q2 (fun c=>if Zf y c=some l then ZZ y m ln f c else 0) y.ls.length:=by
 unfold ZZ;have h1:∀k,k<m->f k*ind (l∈upL y (ln k))=f k*ind (ln k=l)+Q2 (fun c=>if Zf y c=some l then f k*ind (c∈upL y (ln k)) else 0) y.ls.length:=by
  intro k hk;rw[NN ok l hl _ (ln k) (X9 _) (hln k hk),Int.mul_add,<- B6];congr 1;refine Zm fun c _=>?_
  by_cases u:Zf y c=some l
  ·rw[Xd u,Xd u]
  ·rw[Xb u,Xb u,Int.mul_zero]
 rw[Zm h1,G1,BA];congr 1;refine Zm fun c _=>?_
 by_cases u:Zf y c=some l
 ·simp only[Xd u]
 ·simp only[Xb u]
  rw[VB]
theorem no_more {y:Yd}(ok:y.Ok){m:Nat}{ln:Nat->Nat}(hln:∀k,k<m->ln k<y.ls.length){f:Qn}{b own:Qn}(ho:∀l,l<y.ls.length->Q2 (fun k=>f k*ind (ln k=l)) m<=own l)(hb:∀l,l<y.ls.length->ZZ y m ln f l<=b l) :
 ∀n l,y.ls.length<=l+n->l<y.ls.length->ZZ y m ln f l<=passes y b own l
 |0,l,h,hl=>by omega
 |n+1,l,h,hl=>by
   have h1:ZZ y m ln f l<=V2 y b own l:=by
    rw[G8 ok hln f hl,Sc ok b own hl];refine Int.add_le_add (ho l hl) (Wh fun c hc=>?_)
    by_cases u:Zf y c=some l
    ·rw[Xd u,Xd u]
     have:=Uf ok hc u
     exact no_more ok hln ho hb n c (by omega) hc
    ·rw[Xb u,Xb u]
     exact JW _
   have h2:=hb l hl;unfold passes;omega
end Mir
namespace Mir
def ND {y:Yd}{m:Nat}{ln:Nat->Nat}{f g:Qn}(h:∀k,k<m->f k<=g k)(l:Nat):ZZ y m ln f l<=ZZ y m ln g l :=
 Wh fun k hk=>by
  unfold ind;split
  ·have:=h k hk;omega
  ·omega
def Lq {y:Yd}{m:Nat}{ln:Nat->Nat}{f:Qn}(h:∀k,k<m->0<=f k)(l:Nat):0<=ZZ y m ln f l :=
 Fn fun k hk=>by
  unfold ind;split
  ·have:=h k hk;omega
  ·omega
structure Shut (y:Yd)(m:Nat)(ln:Nat->Nat)(f mo:Qn)(b:Qn)(S R:Qm):Prop where
 nn:∀k,k<m->0<=f k
 full:∀k,k<m->S k=true->R (ln k)=false->f k=mo k
 none:∀k,k<m->S k=false->R (ln k)=true->f k=0
 top:R 0=true->ZZ y m ln f 0=b 0
 out:∀c a,c<y.ls.length->Zf y c=some a->R c=true->R a=false->ZZ y m ln f c=b c
 inn:∀c a,c<y.ls.length->Zf y c=some a->R c=false->R a=true->ZZ y m ln f c=0
def Zi (S:Qm)(f:Qn):Qn:=fun k=>if S k=true then f k else 0
def D0 {S:Qm}{f:Qn}{k:Nat}(h:0<=f k):Zi S f k<=f k:=by
 unfold Zi;split<;>omega
def FY {S:Qm}{f:Qn}{k:Nat}(h:0<=f k):0<=Zi S f k:=by
 unfold Zi;split<;>omega
theorem Shut.alike {y:Yd}(ok:y.Ok){m:Nat}{ln:Nat->Nat}(hln:∀k,k<m->ln k<y.ls.length){f mo b:Qn}{S R:Qm}(h:Shut y m ln f mo b S R) :
 ∀n l,y.ls.length<=l+n->l<y.ls.length->R l=true->ZZ y m ln f l=ZZ y m ln (Zi S f) l
 |0,l,h0,hl,_=>by omega
 |n+1,l,h0,hl,hR=>by
   rw[G8 ok hln f hl,G8 ok hln (Zi S f) hl];congr 1
   ·refine Zm fun k hk=>?_
    by_cases e:ln k=l
    ·have:f k=Zi S f k:=by
      unfold Zi;cases s:S k with
      |true=>simp
      |false=>simp;exact h.none k hk s (by rw[e];exact hR)
     rw[this]
    ·simp[ind,e]
   ·refine Zm fun c hc=>?_
    by_cases u:Zf y c=some l
    ·rw[Xd u,Xd u]
     have:=Uf ok hc u
     cases r:R c with
     |true=>exact Shut.alike ok hln h n c (by omega) hc r
     |false =>
       have e:=h.inn c l hc u r hR;have q1:=ND (y:=y) (ln:=ln) (f:=Zi S f) (g:=f) (fun k hk=>D0 (S:=S) (h.nn k hk)) c;have q2:=Lq (y:=y) (ln:=ln) (f:=Zi S f) (fun k hk=>FY (S:=S) (h.nn k hk)) c;omega
    ·rw[Xb u,Xb u]
theorem Shut.all {y:Yd}(ok:y.Ok){m:Nat}{ln:Nat->Nat}(hln:∀k,k<m->ln k<y.ls.length){f mo b own:Qn}{S R:Qm}(h:Shut y m ln f mo b S R)
 (ho:∀l,l<y.ls.length->own l=Q2 (fun k=>Zi S mo k*ind (ln k=l)) m) :
 ∀n l,y.ls.length<=l+n->l<y.ls.length->(R l=true->l=0\/∃a,Zf y l=some a/\R a=false)->passes y b own l<=ZZ y m ln (Zi S f) l
 |0,l,h0,hl,_=>by omega
 |n+1,l,h0,hl,hU=>by
   cases r:R l with
   |true =>
     have e:ZZ y m ln f l=b l:=by
      rcases hU r with z|⟨a,u,ra⟩
      ·subst z;exact h.top r
      ·exact h.out l a hl u r ra
     rw[<- h.alike ok hln (n+1) l h0 hl r,e];unfold passes;omega
   |false =>
     have h1:V2 y b own l<=ZZ y m ln (Zi S f) l:=by
      rw[G8 ok hln _ hl,Sc ok b own hl];refine Int.add_le_add ?_ (Wh fun c hc=>?_)
      ·rw[ho l hl]
       refine Wh fun k hk=>?_
       by_cases e:ln k=l
       ·have:Zi S mo k=Zi S f k:=by
         unfold Zi;cases s:S k with
         |true=>simp;exact(h.full k hk s (by rw[e];exact r)).symm
         |false=>simp
        rw[this];exact JW _
       ·simp[ind,e]
      ·by_cases u:Zf y c=some l
       ·rw[Xd u,Xd u]
        have:=Uf ok hc u
        exact Shut.all ok hln h ho n c (by omega) hc (fun _=>.inr ⟨l,u,r⟩)
       ·rw[Xb u,Xb u]
        exact JW _
     unfold passes;omega
end Mir
namespace Mir
section
variable {ν:Type} [DecidableEq ν]
abbrev Lay (ν:Type):=List (ν×ν×Int)
abbrev QS (ν:Type):=ν->ν->Int
def YO (L:Lay ν):List ν:=L.flatMap fun x=>[x.2.1,x.1]
def Vv (L:Lay ν)(φ:QS ν):Ql:=L.flatMap fun x=>[x.2.2-φ x.1 x.2.1,φ x.1 x.2.1]
def Dis (L:Lay ν):Prop:=(L.map fun x=>(x.1,x.2.1)).Nodup
def V6 (φ:QS ν)(s e:ν)(a:Int):QS ν:=fun p q=>if p=s/\q=e then φ p q+a else φ p q
theorem MP {α β:Type}(f g:α->β):∀(L:List α) (e:Nat),(L.flatMap fun x=>[f x,g x])[e]?=L[e/2]?.map (if e%2=0 then f else g)
 |[],e=>by simp
 |x::L,0=>by simp
 |x::L,1=>by simp
 |x::L,e+2=>by
   have h:=MP f g L e;have e1:(e+2)/2=e/2+1:=by omega
   have e2:(e+2)%2=e%2:=by omega
   rw[e1,e2,BP,UI];simpa using h
def hdE (L:Lay ν)(e:Nat):Option ν:=L[e/2]?.map fun x=>if e%2=0 then x.2.1 else x.1
def tlE (L:Lay ν)(e:Nat):Option ν:=L[e/2]?.map fun x=>if e%2=0 then x.1 else x.2.1
def rmE (L:Lay ν)(φ:QS ν)(e:Nat):Option Int:=L[e/2]?.map fun x=>if e%2=0 then x.2.2-φ x.1 x.2.1 else φ x.1 x.2.1
def De (L:Lay ν)(e:Nat):(YO L)[e]?=hdE L e:=by
 unfold YO hdE;rw[MP];congr 1
 split<;>rfl
def Gz (L:Lay ν)(φ:QS ν)(e:Nat):(Vv L φ)[e]?=rmE L φ e:=by
 unfold Vv rmE;rw[MP];congr 1
 split<;>rfl
def ZeF (e:Nat):Nat:=if e%2=0 then e+1 else e-1
def AL (L:Lay ν)(e:Nat):(YO L)[ZeF e]?=tlE L e:=by
 rw[De];unfold hdE tlE ZeF;by_cases h:e%2=0
 ·have h1:(e+1)/2=e/2:=by omega
  have h2:¬(e+1)%2=0:=by omega
  simp only[h,if_true,h1,h2,if_false]
 ·have h1:(e-1)/2=e/2:=by omega
  have h2:(e-1)%2=0:=by omega
  simp only[h,if_false,h1,h2,if_true]
def ZU (L:Lay ν)(F:ν->ν->Int):Int:=(L.map fun x=>F x.1 x.2.1).sum
def Vo (L:Lay ν)(φ:QS ν)(n:ν):Int:=ZU L fun s e=>φ s e*(ind (s=n)-ind (e=n))
def Er {φ:QS ν}{s e:ν}{a:Int}{L:Lay ν}(h:(s,e)∉L.map fun x=>(x.1,x.2.1))(G:Int->ν->ν->Int) :
 ZU L (fun p q=>G (V6 φ s e a p q) p q)=ZU L fun p q=>G (φ p q) p q:=by
 unfold ZU;congr 1;refine Ja fun x hx=>?_
 have:¬(x.1=s/\x.2.1=e):=fun⟨z1,z2⟩=>h (X4.mpr ⟨x,hx,by rw[z1,z2]⟩)
 unfold V6;dsimp only;rw[Xb this]
theorem Sd {φ:QS ν}{a:Int}(G:Int->ν->ν->Int):∀{L:Lay ν},Dis L->∀{x:ν×ν×Int},x∈L ->
 ZU L (fun p q=>G (V6 φ x.1 x.2.1 a p q) p q)=ZU L (fun p q=>G (φ p q) p q)-G (φ x.1 x.2.1) x.1 x.2.1+G (φ x.1 x.2.1+a) x.1 x.2.1
 |[],_,_,h=>by cases h
 |y::L,hd,x,h=>by
   unfold Dis at hd;rw[Xy,XO]at hd;rcases Xg.mp h with rfl|h
   ·have:=Er (φ:=φ) (a:=a) hd.1 G
    have e:V6 φ x.1 x.2.1 a x.1 x.2.1=φ x.1 x.2.1+a:=by unfold V6;rw[Xd ⟨rfl,rfl⟩]
    unfold ZU at this ⊢;rw[Xy,GF,Xy,GF,this];dsimp only;rw[e];omega
   ·have ih:=Sd (φ:=φ) (a:=a) G (L:=L) hd.2 h
    have ne:¬(y.1=x.1/\y.2.1=x.2.1):=fun⟨z1,z2⟩=>hd.1 (X4.mpr ⟨x,h,by rw[z1,z2]⟩);have e:V6 φ x.1 x.2.1 a y.1 y.2.1=φ y.1 y.2.1:=by unfold V6;rw[Xb ne]
    unfold ZU at ih ⊢;rw[Xy,GF,Xy,GF,ih];dsimp only;rw[e];omega
def VG (L:Lay ν)(a:Int)(φ:QS ν)(e:Nat):QS ν :=
 match L[e/2]? with
 |some x=>V6 φ x.1 x.2.1 (if e%2=0 then a else -a)
 |none=>φ
def Cw {L:Lay ν}(hd:Dis L){φ:QS ν}{a:Int}{e:Nat}{s t:ν}(ht:hdE L e=some t)(hs:tlE L e=some s)(n:ν) :
 Vo L (VG L a φ e) n=Vo L φ n+a*(ind (s=n)-ind (t=n)):=by
 unfold hdE at ht;unfold tlE at hs;cases ex:L[e/2]? with
 |none=>rw[ex]at ht;cases ht
 |some x =>
   rw[ex]at ht hs;have hx:x∈L:=List.mem_of_getElem? ex;have hp:VG L a φ e=V6 φ x.1 x.2.1 (if e%2=0 then a else -a):=by unfold VG;rw[ex]
   rw[hp];unfold Vo;rw[Sd (fun v p q=>v*(ind (p=n)-ind (q=n))) hd hx];simp only[YH,Option.some.injEq]at ht hs;by_cases z:e%2=0
   ·rw[Xd z]at ht hs ⊢
    subst ht hs;rw[Int.add_mul];omega
   ·rw[Xb z]at ht hs ⊢
    subst ht hs;rw[Int.add_mul,Int.neg_mul,UJ a,UJ a];omega
inductive Chain (L:Lay ν)(s:ν):ν->Qk->Prop
 |nil:Chain L s s []
 |cons {n m:ν} {e:Nat} {w:Qk} (h:hdE L e=some n) (t:tlE L e=some m) (c:Chain L s m w):Chain L s n (e::w)
def Y3 (L:Lay ν)(a:Int)(φ:QS ν)(w:Qk):QS ν:=w.foldl (VG L a) φ
theorem Dz {L:Lay ν}(hd:Dis L){s:ν}{a:Int}(p:ν):∀{w:Qk} {n:ν} {φ:QS ν},Chain L s n w->Vo L (Y3 L a φ w) p=Vo L φ p+a*(ind (s=p)-ind (n=p))
 |_,_,φ,.nil=>by
   show Vo L φ p=_;rw[Int.sub_self,Int.mul_zero,Int.add_zero]
 |e::w,n,φ,.cons (m:=m) h t c=>by
   show Vo L (Y3 L a (VG L a φ e) w) p=_;rw[Dz hd p c,Cw hd h t,UJ,UJ,UJ];omega
def Within (L:Lay ν)(φ:QS ν):Prop := ∀x∈L,0<=φ x.1 x.2.1/\φ x.1 x.2.1<=x.2.2
def Dm:∀{L:Lay ν},Dis L->∀{i j:Nat} {x y:ν×ν×Int},L[i]?=some x->L[j]?=some y->x.1=y.1->x.2.1=y.2.1->i=j:=fun{L} hd {i j x y} hi hj e1 e2=>by
 have a:(L.map fun x=>(x.1,x.2.1))[i]?=some (x.1,x.2.1):=by rw[Xt,hi];rfl
 have b:(L.map fun x=>(x.1,x.2.1))[j]?=some (x.1,x.2.1):=by rw[Xt,hj,e1,e2];rfl
 have li:i<(L.map fun x=>(x.1,x.2.1)).length:=(Xh.mp a).1
 exact(List.getElem?_inj li hd).mp (a.trans b.symm)
def Es {L:Lay ν}(hd:Dis L){φ:QS ν}(h:Within L φ){a:Int}(ha:0<=a){e:Nat}{r:Int}(he:rmE L φ e=some r)(hr:a<=r):Within L (VG L a φ e):=by
 unfold rmE at he;cases ex:L[e/2]? with
 |none=>rw[ex]at he;cases he
 |some x =>
   rw[ex]at he;simp only[YH,Option.some.injEq]at he;have hx:=h x (List.mem_of_getElem? ex);intro y hy;have hyv:=h y hy;have hp:VG L a φ e=V6 φ x.1 x.2.1 (if e%2=0 then a else -a):=by unfold VG;rw[ex]
   rw[hp];unfold V6;by_cases z:y.1=x.1/\y.2.1=x.2.1
   ·rw[Xd z]
    obtain⟨j,hj⟩:=List.mem_iff_getElem?.mp hy;have ij:=Dm hd hj ex z.1 z.2;subst ij;rw[ex]at hj;cases hj
    by_cases q:e%2=0
    ·rw[Xd q]at he ⊢;omega
    ·rw[Xb q]at he ⊢;omega
   ·rw[Xb z];exact hyv
def Cz {L:Lay ν}(hd:Dis L){φ:QS ν}{a:Int}(ha:0<=a){e e':Nat}(ne:e'≠e){r:Int}(he:rmE L φ e'=some r):∃r',rmE L (VG L a φ e) e'=some r'/\r<=r':=by
 unfold rmE at he ⊢;cases ey:L[e'/2]? with
 |none=>rw[ey]at he;cases he
 |some y =>
   rw[ey]at he;simp only[YH,Option.some.injEq]at he ⊢;refine⟨_,rfl,?_⟩;unfold VG;cases ex:L[e/2]? with
   |none=>simp only[];omega
   |some x =>
     simp only[];unfold V6;by_cases z:y.1=x.1/\y.2.1=x.2.1
     ·rw[Xd z]
      have ij:=Dm hd ey ex z.1 z.2
      by_cases q:e%2=0
      ·have q':¬e'%2=0:=by omega
       rw[Xb q']at he ⊢;rw[Xd q];omega
      ·have q':e'%2=0:=by omega
       rw[Xd q']at he ⊢;rw[Xb q];omega
     ·rw[Xb z];omega
theorem Sl {L:Lay ν}(hd:Dis L){a:Int}(ha:0<=a):∀{w:Qk} {φ:QS ν},Within L φ->w.Nodup->(∀e∈w,∃r,rmE L φ e=some r/\a<=r)->Within L (Y3 L a φ w)
 |[],_,h,_,_=>h
 |e::w,φ,h,hn,hw=>by
   obtain⟨h1,h2⟩:=XO.mp hn;obtain⟨r,er,lr⟩:=hw e Xc;show Within L (Y3 L a (VG L a φ e) w);refine Sl hd ha (Es hd h ha er lr) h2 fun e' he'=>?_;obtain⟨r',er',lr'⟩:=hw e' (Xe _ he');obtain⟨q,eq,lq⟩:=Cz hd ha (e:=e) (fun z=>h1 (z▸he')) er'
   exact⟨q,eq,by omega⟩
abbrev Got (ν:Type):=List (ν×Option Nat)
def QP (es:Got ν):List ν:=es.map (·.1)
inductive Tree (L:Lay ν)(φ:QS ν)(s:ν):Got ν->Prop
 |root:Tree L φ s [(s,none)]
 |add {es:Got ν} {e:Nat} {n m:ν} {r:Int} (t:Tree L φ s es) (hn:n∉QP es) (hh:hdE L e=some n) (ht:tlE L e=some m) (hm:m∈QP es) (hr:rmE L φ e=some r) (h0:0<r):Tree L φ s (es++[(n,some e)])
def WC (es:Got ν)(n:ν):Option (Option Nat):=es.lookup n
def EH {es:Got ν}{n:ν}:n∉QP es->es.lookup n=none:=by
 induction es with
 |nil=>intro _;rfl
 |cons p es ih =>
   intro h;have h1:n≠p.1:=fun z=>h (by rw[z];exact Xc);have h2:n∉QP es:=fun z=>h (Xe _ z);obtain⟨k,v⟩:=p;rw[XJ];have:(n==k)=false:=by rw[beq_eq_false_iff_ne];exact h1
   rw[this];exact ih h2
def Hq {es fs:Got ν}{n:ν}:(es++fs).lookup n=(es.lookup n).or (fs.lookup n):=by
 induction es with
 |nil=>rfl
 |cons p es ih =>
   obtain⟨k,v⟩:=p;rw[WY,XJ,XJ];cases (n==k)
   ·exact ih
   ·rfl
inductive Back (L:Lay ν)(es:Got ν):ν->Qk->Prop
 |nil {n:ν} (h:WC es n=some none):Back L es n []
 |cons {n m:ν} {e:Nat} {w:Qk} (h:WC es n=some (some e)) (t:tlE L e=some m) (b:Back L es m w):Back L es n (e::w)
theorem Back.app {L:Lay ν}{es fs:Got ν}:∀{w:Qk} {n:ν},Back L es n w->Back L (es++fs) n w
 |_,_,.nil h=>.nil (by unfold WC at h ⊢;rw[Hq,h];rfl)
 |_,_,.cons h t b=>.cons (by unfold WC at h ⊢;rw[Hq,h];rfl) t b.app
structure WayOk (L:Lay ν)(φ:QS ν)(s:ν)(es:Got ν)(n:ν)(w:Qk):Prop where
 back:Back L es n w
 chain:Chain L s n w
 nodup:w.Nodup
 room:∀e∈w,∃r,rmE L φ e=some r/\0<r
 heads:∀e∈w,∃m,hdE L e=some m/\m∈QP es
theorem Tree.way {L:Lay ν}{φ:QS ν}{s:ν}:∀{es:Got ν},Tree L φ s es->∀n∈QP es,∃w,WayOk L φ s es n w
 |_,.root,n,hn=>by
   have e:n=s:=by simpa [QP] using hn
   subst e;exact⟨[],.nil (by simp[WC]),.nil,JN,(fun e h=>nomatch h),(fun e h=>nomatch h)⟩
 |_,.add (es:=es) (e:=e) (n:=k) (m:=m) t hk hh ht hm hr h0,n,hn=>by
   have hn':n∈QP es\/n=k:=by simpa [QP] using hn
   have sub:∀p,p∈QP es->p∈QP (es++[(k,some e)]):=fun p hp=>by
    unfold QP at hp ⊢;rw[XD];exact JV _ hp
   rcases hn' with hn'|rfl
   ·obtain⟨w,q⟩:=t.way n hn'
    exact⟨w,q.back.app,q.chain,q.nodup,q.room,fun e' he'=>let ⟨m',a,b⟩:=q.heads e' he';⟨m',a,sub _ b⟩⟩
   ·obtain⟨w,q⟩:=t.way m hm
    refine⟨e::w,.cons ?_ ht q.back.app,.cons hh ht q.chain,XO.mpr ⟨fun z=>?_,q.nodup⟩,fun e' he'=>?_,fun e' he'=>?_⟩
    ·unfold WC
     rw[Hq,EH hk];simp
    ·obtain⟨m',a,b⟩:=q.heads e z
     rw[hh]at a;cases a;exact hk b
    ·rcases Xg.mp he' with rfl|he'
     ·exact⟨_,hr,h0⟩
     ·exact q.room e' he'
    ·rcases Xg.mp he' with rfl|he'
     ·exact⟨n,hh,by simp[QP]⟩
     ·obtain⟨m',a,b⟩:=q.heads e' he'
      exact⟨m',a,sub _ b⟩
theorem Tree.nodup {L:Lay ν}{φ:QS ν}{s:ν}:∀{es:Got ν},Tree L φ s es->(QP es).Nodup
 |_,.root=>by simp[QP]
 |_,.add (n:=k) t hk _ _ _ _ _=>by
   have:=t.nodup
   unfold QP at this hk ⊢;rw[XD,List.nodup_append];refine⟨this,by simp,fun a ha b hb=>?_⟩;have e:b=k:=by simpa using hb
   exact fun z=>hk (e▸z▸ha)
theorem Tree.start {L:Lay ν}{φ:QS ν}{s:ν}:∀{es:Got ν},Tree L φ s es->s∈QP es
 |_,.root=>by simp[QP]
 |_,.add t _ _ _ _ _ _=>by
   have:=t.start
   unfold QP at this ⊢;rw[XD];exact JV _ this
theorem Tree.sub {L:Lay ν}{φ:QS ν}{s:ν}:∀{es:Got ν},Tree L φ s es->∀n∈QP es,n∈s::YO L
 |_,.root,n,hn=>by
   have e:n=s:=by simpa [QP] using hn
   rw[e];exact Xc
 |_,.add (es:=es) (n:=k) t hk hh _ _ _ _,n,hn=>by
   have hn':n∈QP es\/n=k:=by simpa [QP] using hn
   rcases hn' with hn'|rfl
   ·exact t.sub n hn'
   ·exact Xe _ (List.mem_of_getElem? ((De L _).trans hh))
theorem DP {α:Type} [DecidableEq α]:∀{xs ys:List α},xs.Nodup->(∀x∈xs,x∈ys)->xs.length<=ys.length
 |[],_,_,_=>XQ _
 |x::xs,ys,hd,h=>by
   obtain⟨h1,h2⟩:=XO.mp hd;have hx:=h x Xc
   have:=DP (xs:=xs) (ys:=ys.erase x) h2 fun z hz=>by
    have ne:z≠x:=fun q=>h1 (q▸hz)
    exact(List.mem_erase_of_ne ne).mpr (h z (Xe _ hz))
   rw[List.length_erase_of_mem hx]at this;have:0<ys.length:=List.length_pos_of_mem hx;rw[XI];omega
def Tree.len {L:Lay ν}{φ:QS ν}{s:ν}{es:Got ν}(t:Tree L φ s es):es.length<=(YO L).length+1:=by
 have:=DP t.nodup t.sub
 simpa [QP] using this
def VN (L:Lay ν)(φ:QS ν)(es:Got ν):Prop := ∀e m n r,tlE L e=some m->hdE L e=some n->rmE L φ e=some r->0<r->m∈QP es->n∈QP es
end
end Mir
namespace Mir
inductive Nd where
 |start|fin
 |guest (k:Nat)
 |line (l t:Nat)
deriving DecidableEq
structure Gv where
 m:Nat
 ln:Nat->Nat
 wa:Qn
 mo:Qn
 th:Nat->Qm
def upN (y:Yd)(l:Nat):Nat:=(Zf y l).getD 0
def ZT (y:Yd)(G:Gv)(k:Nat):Lay Nd:=(.start,.guest k,G.wa k)::(List.range y.T).flatMap fun t=>if G.th k t=true then [(.guest k,.line (G.ln k) t,G.mo k)] else []
def Vz (y:Yd)(t:Nat):Lay Nd:=(.line 0 t,.fin,Zy y 0 t)::(List.range (y.ls.length-1)).flatMap fun i=>[(.line (i+1) t,.line (upN y (i+1)) t,Zy y (i+1) t)]
def Zc (y:Yd)(G:Gv):Lay Nd:=(List.range G.m).flatMap (ZT y G)++(List.range y.T).flatMap (Vz y)
def Rg (A B:Lay Nd)(F:Nd->Nd->Int):ZU (A++B) F=ZU A F+ZU B F:=by
 unfold ZU;rw[XD,GG]
theorem G7 (f:Nat->Lay Nd)(F:Nd->Nd->Int):∀n,ZU ((List.range n).flatMap f) F=Q2 (fun k=>ZU (f k) F) n
 |0=>rfl
 |n+1=>by
   rw[X6,JT,Rg,G7 f F n];simp[Q2]
def Rv (x:Nd×Nd×Int)(F:Nd->Nd->Int):ZU [x] F=F x.1 x.2.1:=by simp[ZU]
def RT (x:Nd×Nd×Int)(L:Lay Nd)(F:Nd->Nd->Int):ZU (x::L) F=F x.1 x.2.1+ZU L F:=by simp[ZU]
def CT (y:Yd)(G:Gv)(F:Nd->Nd->Int)(k:Nat):ZU (ZT y G k) F=F .start (.guest k)+Q2 (fun t=>if G.th k t=true then F (.guest k) (.line (G.ln k) t) else 0) y.T:=by
 unfold ZT;rw[RT,G7];congr 1;refine Zm fun t _=>?_
 split
 ·rw[Rv]
 ·rfl
def C0 (y:Yd)(F:Nd->Nd->Int)(t:Nat):ZU (Vz y t) F=F (.line 0 t) .fin+Q2 (fun i=>F (.line (i+1) t) (.line (upN y (i+1)) t)) (y.ls.length-1):=by
 unfold Vz;rw[RT,G7];congr 1;refine Zm fun t _=>?_;rw[Rv]
def DJ (y:Yd)(G:Gv)(F:Nd->Nd->Int):ZU (Zc y G) F =
 Q2 (fun k=>F .start (.guest k)+Q2 (fun t=>if G.th k t=true then F (.guest k) (.line (G.ln k) t) else 0) y.T) G.m +
 Q2 (fun t=>F (.line 0 t) .fin+Q2 (fun i=>F (.line (i+1) t) (.line (upN y (i+1)) t)) (y.ls.length-1)) y.T:=by
 unfold Zc;rw[Rg,G7,G7];congr 1
 ·exact Zm fun k _=>CT y G F k
 ·exact Zm fun t _=>C0 y F t
def Wc {y:Yd}{G:Gv}{x:Nd×Nd×Int}{k:Nat}:x∈ZT y G k↔x=(.start,.guest k,G.wa k)\/∃t,t<y.T/\G.th k t=true/\x=(.guest k,.line (G.ln k) t,G.mo k):=by
 unfold ZT;rw[Xg,YI];refine or_congr Iff.rfl ⟨fun⟨t,ht,hx⟩=>?_,fun⟨t,ht,hc,hx⟩=>⟨t,XT.mpr ht,by rw[Xd hc];exact Xi.mpr hx⟩⟩
 by_cases c:G.th k t=true
 ·rw[Xd c]at hx
  exact⟨t,XT.mp ht,c,Xi.mp hx⟩
 ·rw[Xb c]at hx;cases hx
def WR {y:Yd}{x:Nd×Nd×Int}{t:Nat}:x∈Vz y t↔x=(.line 0 t,.fin,Zy y 0 t)\/∃i,i<y.ls.length-1/\x=(.line (i+1) t,.line (upN y (i+1)) t,Zy y (i+1) t):=by
 unfold Vz;rw[Xg,YI];exact or_congr Iff.rfl ⟨fun⟨i,hi,hx⟩=>⟨i,XT.mp hi,Xi.mp hx⟩,fun⟨i,hi,hx⟩=>⟨i,XT.mpr hi,Xi.mpr hx⟩⟩
def G0 {y:Yd}{G:Gv}{x:Nd×Nd×Int}:x∈Zc y G↔(∃k,k<G.m/\x∈ZT y G k)\/∃t,t<y.T/\x∈Vz y t:=by
 unfold Zc;rw[XH,YI,YI];simp only[XT]
def Bw (n:Nat):(List.range n).Pairwise (· ≠ ·):=List.nodup_range
def B3 (y:Yd)(G:Gv):Dis (Zc y G):=by
 unfold Dis List.Nodup;rw[List.pairwise_map];unfold Zc;rw[List.pairwise_append];refine⟨?_,?_,?_⟩
 ·rw[BT]
  refine⟨fun k _=>?_,(Bw _).imp fun{k j} hkj x hx z hz=>?_⟩
  ·unfold ZT
   rw[List.pairwise_cons];refine⟨fun x hx=>?_,?_⟩
   ·obtain⟨t,_,hx⟩:=YI.mp hx
    split at hx
    ·rw[Xi.mp hx];intro q;cases q
    ·cases hx
   ·rw[BT]
    refine⟨fun t _=>?_,(Bw _).imp fun{t u} htu x hx z hz=>?_⟩
    ·split
     ·exact List.pairwise_singleton _ _
     ·exact List.Pairwise.nil
    ·split at hx
     ·split at hz
      ·rw[Xi.mp hx,Xi.mp hz]
       intro q;simp at q;exact htu q
      ·cases hz
     ·cases hx
  ·rcases Wc.mp hx with rfl|⟨t,_,_,rfl⟩<;>rcases Wc.mp hz with rfl|⟨u,_,_,rfl⟩<;>intro q<;>simp at q
   ·exact hkj q
   ·exact hkj q.1
 ·rw[BT]
  refine⟨fun t _=>?_,(Bw _).imp fun{t u} htu x hx z hz=>?_⟩
  ·unfold Vz
   rw[List.pairwise_cons];refine⟨fun x hx=>?_,?_⟩
   ·obtain⟨i,_,hx⟩:=YI.mp hx
    rw[Xi.mp hx];intro q;cases q
   ·rw[BT]
    refine⟨fun t _=>List.pairwise_singleton _ _,(Bw _).imp fun{i j} hij x hx z hz=>?_⟩;rw[Xi.mp hx,Xi.mp hz];intro q;simp at q;exact hij q.1
  ·rcases WR.mp hx with rfl|⟨i,_,rfl⟩<;>rcases WR.mp hz with rfl|⟨j,_,rfl⟩<;>intro q<;>simp at q
   ·exact htu q
   ·exact htu q.1.2
 ·intro x hx z hz
  obtain⟨k,_,hx⟩:=YI.mp hx;obtain⟨t,_,hz⟩:=YI.mp hz
  rcases Wc.mp hx with rfl|⟨t',_,_,rfl⟩<;>rcases WR.mp hz with rfl|⟨j,_,rfl⟩<;>intro q<;>simp at q
end Mir
namespace Mir
def Zp (G:Gv)(φ:QS Nd)(t k:Nat):Int:=if G.th k t=true then φ (.guest k) (.line (G.ln k) t) else 0
def upF (y:Yd)(φ:QS Nd)(t l:Nat):Int:=if l=0 then φ (.line 0 t) .fin else φ (.line l t) (.line (upN y l) t)
theorem DV (f:Qn):∀n,Q2 f (n+1)=f 0+Q2 (fun i=>f (i+1)) n
 |0=>by simp[Q2]
 |n+1=>by
   show Q2 f (n+1)+f (n+1)=_;rw[DV f n];simp[Q2];omega
def ZJ {p:Prop} [Decidable p] (h:¬p):ind p=0:=Xb h
def Bt {p q:Prop} [Decidable p] [Decidable q] (h:p↔q):ind p=ind q:=by unfold ind;simp only[h]
def Ee (y:Yd)(G:Gv)(φ:QS Nd){k0:Nat}(hk:k0<G.m):Vo (Zc y G) φ (.guest k0)=Q2 (fun t=>Zp G φ t k0) y.T-φ .start (.guest k0):=by
 unfold Vo;rw[DJ];have h2:Q2 (fun t=>φ (.line 0 t) .fin*(ind (Nd.line 0 t=.guest k0)-ind (Nd.fin=.guest k0))+Q2 (fun i=>φ (.line (i+1) t) (.line (upN y (i+1)) t)*(ind (Nd.line (i+1) t=.guest k0)-ind (Nd.line (upN y (i+1)) t=.guest k0))) (y.ls.length-1)) y.T=0:=by
  rw[Zm (g:=fun _=>0) fun t _=>?_,VB];rw[ZJ (fun z=>nomatch z),ZJ (fun z=>nomatch z),Zm (g:=fun _=>0) fun i _=>?_,VB]
  ·simp
  ·rw[ZJ (fun z=>nomatch z),ZJ (fun z=>nomatch z)];simp
 rw[h2,Int.add_zero];rw[Zm (g:=fun k=>if k=k0 then Q2 (fun t=>Zp G φ t k0) y.T-φ .start (.guest k0) else 0) fun k _=>?_,Uz,Xd hk];rw[ZJ (p:=Nd.start=.guest k0) (fun z=>nomatch z)]
 by_cases e:k=k0
 ·subst e
  rw[Xd rfl];have:Q2 (fun t=>if G.th k t=true then φ (.guest k) (.line (G.ln k) t)*(ind (Nd.guest k=.guest k)-ind (Nd.line (G.ln k) t=.guest k)) else 0) y.T=Q2 (fun t=>Zp G φ t k) y.T:=by
   refine Zm fun t _=>?_;unfold Zp;split
   ·rw[ZJ (p:=Nd.line (G.ln k) t=.guest k) (fun z=>nomatch z)]
    simp[ind]
   ·rfl
  rw[this];simp[ind];omega
 ·have ne:¬Nd.guest k=.guest k0:=fun z=>e (by injection z)
  rw[Xb e,ZJ ne,Zm (g:=fun _=>0) fun t _=>?_,VB]
  ·simp
  ·rw[ZJ (p:=Nd.line (G.ln k) t=.guest k0) (fun z=>nomatch z)]
   simp
def DE {y:Yd}(ok:y.Ok){c l:Nat}(h0:0<c)(hc:c<y.ls.length):upN y c=l↔Zf y c=some l:=by
 obtain⟨a,ea,_⟩:=ok.ups c h0 hc;unfold upN;rw[ea];simp
def Ad {y:Yd}(ok:y.Ok)(G:Gv)(φ:QS Nd){l t0:Nat}(hl:l<y.ls.length)(ht:t0<y.T):Vo (Zc y G) φ (.line l t0) =
 upF y φ t0 l-Q2 (fun k=>Zp G φ t0 k*ind (G.ln k=l)) G.m-Q2 (fun c=>if Zf y c=some l then upF y φ t0 c else 0) y.ls.length:=by
 unfold Vo;rw[DJ];have h1:Q2 (fun k=>φ .start (.guest k)*(ind (Nd.start=.line l t0)-ind (Nd.guest k=.line l t0))+Q2 (fun t=>if G.th k t=true then φ (.guest k) (.line (G.ln k) t)*(ind (Nd.guest k=.line l t0)-ind (Nd.line (G.ln k) t=.line l t0)) else 0) y.T) G.m = - Q2 (fun k=>Zp G φ t0 k*ind (G.ln k=l)) G.m:=by
  rw[show-Q2 (fun k=>Zp G φ t0 k*ind (G.ln k=l)) G.m=(-1)*Q2 (fun k=>Zp G φ t0 k*ind (G.ln k=l)) G.m by omega,<- B6];refine Zm fun k _=>?_;rw[ZJ (p:=Nd.start=.line l t0) (fun z=>nomatch z),ZJ (p:=Nd.guest k=.line l t0) (fun z=>nomatch z)];rw[Zm (g:=fun t=>if t=t0 then-(Zp G φ t0 k*ind (G.ln k=l)) else 0) fun t _=>?_,Uz,Xd ht]
  ·simp
  ·by_cases e:t=t0
   ·subst e
    rw[Xd rfl,Bt (p:=Nd.line (G.ln k) t=.line l t) (q:=G.ln k=l) (by simp)];unfold Zp;split
    ·rw[Int.zero_sub,Int.mul_neg]
    ·simp
   ·rw[Xb e,ZJ (p:=Nd.line (G.ln k) t=.line l t0) (fun z=>e (by injection z))]
    simp
 rw[h1];have h2:Q2 (fun t=>φ (.line 0 t) .fin*(ind (Nd.line 0 t=.line l t0)-ind (Nd.fin=.line l t0))+Q2 (fun i=>φ (.line (i+1) t) (.line (upN y (i+1)) t)*(ind (Nd.line (i+1) t=.line l t0)-ind (Nd.line (upN y (i+1)) t=.line l t0))) (y.ls.length-1)) y.T
  = upF y φ t0 l-Q2 (fun c=>if Zf y c=some l then upF y φ t0 c else 0) y.ls.length:=by
  rw[Zm (g:=fun t=>if t=t0 then upF y φ t0 l-Q2 (fun c=>if Zf y c=some l then upF y φ t0 c else 0) y.ls.length else 0) fun t _=>?_,Uz,Xd ht];rw[ZJ (p:=Nd.fin=.line l t0) (fun z=>nomatch z)]
  by_cases e:t=t0
  ·subst e
   rw[Xd rfl,Bt (p:=Nd.line 0 t=.line l t) (q:=0=l) (by simp)];have hn:y.ls.length=(y.ls.length-1)+1:=by omega
   have e1:upF y φ t l=Q2 (fun c=>if c=l then upF y φ t l else 0) y.ls.length:=by rw[Uz,Xd hl]
   have e2:∀c,c<y.ls.length->(if c=l then upF y φ t l else 0)=upF y φ t c*ind (c=l):=fun c _=>by
    by_cases q:c=l
    ·subst q;simp[ind]
    ·simp[ind,q]
   rw[e1,Zm e2,hn,DV,DV];have u0:¬Zf y 0=some l:=fun z=>by rw[ok.up0]at z;cases z
   have f0:upF y φ t 0=φ (.line 0 t) .fin:=by unfold upF;rw[Xd rfl]
   rw[Xb u0,f0,<- hn];have e3:Q2 (fun i=>φ (.line (i+1) t) (.line (upN y (i+1)) t)*(ind (Nd.line (i+1) t=.line l t)-ind (Nd.line (upN y (i+1)) t=.line l t))) (y.ls.length-1)
    = Q2 (fun i=>upF y φ t (i+1)*ind (i+1=l)) (y.ls.length-1)+Q2 (fun i => -1*(if Zf y (i+1)=some l then upF y φ t (i+1) else 0)) (y.ls.length-1):=by
    rw[<- G1];refine Zm fun i hi=>?_;rw[Bt (p:=Nd.line (i+1) t=.line l t) (q:=i+1=l) (by simp),Bt (p:=Nd.line (upN y (i+1)) t=.line l t) (q:=Zf y (i+1)=some l) (by rw[<- DE ok (by omega) (by omega)];simp)]
    have:upF y φ t (i+1)=φ (.line (i+1) t) (.line (upN y (i+1)) t):=by unfold upF;rw[Xb (by omega)]
    rw[this,UJ];by_cases q:Zf y (i+1)=some l
    ·rw[Xd q];simp[ind,q];omega
    ·rw[Xb q];simp[ind,q]
   rw[e3,B6];simp only[Int.sub_zero];omega
  ·rw[Xb e,ZJ (p:=Nd.line 0 t=.line l t0) (fun z=>e (by injection z)),Zm (g:=fun _=>0) fun i _=>?_,VB]
   ·simp
   ·rw[ZJ (p:=Nd.line (i+1) t=.line l t0) (fun z=>e (by injection z)),ZJ (p:=Nd.line (upN y (i+1)) t=.line l t0) (fun z=>e (by injection z))]
    simp
 rw[h2];omega
end Mir
namespace Mir
section
variable {ν:Type} [DecidableEq ν]
def VN.fwd {L:Lay ν}{φ:QS ν}(hw:Within L φ){es:Got ν}(hc:VN L φ es){x:ν×ν×Int}(hx:x∈L)(h1:x.1∈QP es)(h2:x.2.1∉QP es):φ x.1 x.2.1=x.2.2:=by
 obtain⟨i,hi⟩:=List.mem_iff_getElem?.mp hx;have e:(2*i)/2=i:=by omega
 have e2:(2*i)%2=0:=by omega
 by_cases z:φ x.1 x.2.1=x.2.2
 ·exact z
 ·have:=hw x hx
  exact Xl (hc (2*i) x.1 x.2.1 (x.2.2-φ x.1 x.2.1) (by unfold tlE;rw[e,hi,e2];rfl) (by unfold hdE;rw[e,hi,e2];rfl) (by unfold rmE;rw[e,hi,e2];rfl) (by omega) h1) h2
def VN.bwd {L:Lay ν}{φ:QS ν}(hw:Within L φ){es:Got ν}(hc:VN L φ es){x:ν×ν×Int}(hx:x∈L)(h1:x.1∉QP es)(h2:x.2.1∈QP es):φ x.1 x.2.1=0:=by
 obtain⟨i,hi⟩:=List.mem_iff_getElem?.mp hx;have e:(2*i+1)/2=i:=by omega
 have e2:¬(2*i+1)%2=0:=by omega
 by_cases z:φ x.1 x.2.1=0
 ·exact z
 ·have:=hw x hx
  exact Xl (hc (2*i+1) x.2.1 x.1 (φ x.1 x.2.1) (by unfold tlE;rw[e,hi];simp[e2]) (by unfold hdE;rw[e,hi];simp[e2]) (by unfold rmE;rw[e,hi];simp[e2]) (by omega) h2) h1
end
structure Flow (y:Yd)(G:Gv)(φ:QS Nd):Prop where
 wi:Within (Zc y G) φ
 kp:∀n,n≠.start->n≠.fin->Vo (Zc y G) φ n=0
def N0 {y:Yd}{G:Gv}{k:Nat}(hk:k<G.m):((.start,.guest k,G.wa k):Nd×Nd×Int)∈Zc y G:=G0.mpr (.inl ⟨k,hk,Wc.mpr (.inl rfl)⟩)
def Dd {y:Yd}{G:Gv}{k t:Nat}(hk:k<G.m)(ht:t<y.T)(h:G.th k t=true):((.guest k,.line (G.ln k) t,G.mo k):Nd×Nd×Int)∈Zc y G:=G0.mpr (.inl ⟨k,hk,Wc.mpr (.inr ⟨t,ht,h,rfl⟩)⟩)
def KZ {y:Yd}{G:Gv}{t:Nat}(ht:t<y.T):((.line 0 t,.fin,Zy y 0 t):Nd×Nd×Int)∈Zc y G:=G0.mpr (.inr ⟨t,ht,WR.mpr (.inl rfl)⟩)
def Mz {y:Yd}{G:Gv}{t l:Nat}(ht:t<y.T)(h0:0<l)(hl:l<y.ls.length):((.line l t,.line (upN y l) t,Zy y l t):Nd×Nd×Int)∈Zc y G :=
 G0.mpr (.inr ⟨t,ht,WR.mpr (.inr ⟨l-1,by omega,by rw[show l-1+1=l by omega]⟩)⟩)
def moT (G:Gv)(t k:Nat):Int:=if G.th k t=true then G.mo k else 0
section
variable {y:Yd}{G:Gv}{φ:QS Nd}(F:Flow y G φ)
include F
theorem Flow.tak {k t:Nat}(hk:k<G.m)(ht:t<y.T):0<=Zp G φ t k/\Zp G φ t k<=moT G t k:=by
 unfold Zp moT;by_cases c:G.th k t=true
 ·rw[Xd c,Xd c]
  exact F.wi _ (Dd hk ht c)
 ·rw[Xb c,Xb c]
  omega
theorem Flow.total {k:Nat}(hk:k<G.m):Q2 (fun t=>Zp G φ t k) y.T=φ .start (.guest k):=by
 have:=F.kp (.guest k) (fun z=>nomatch z) (fun z=>nomatch z)
 rw[Ee y G φ hk]at this;omega
theorem Flow.want {k:Nat}(hk:k<G.m):0<=φ .start (.guest k)/\φ .start (.guest k)<=G.wa k:=F.wi _ (N0 hk)
theorem Flow.up (ok:y.Ok)(hln:∀k,k<G.m->G.ln k<y.ls.length){t:Nat}(ht:t<y.T):∀n l,y.ls.length<=l+n->l<y.ls.length->upF y φ t l=ZZ y G.m G.ln (Zp G φ t) l
 |0,l,h,hl=>by omega
 |n+1,l,h,hl=>by
   have z:=F.kp (.line l t) (fun z=>nomatch z) (fun z=>nomatch z)
   rw[Ad ok G φ hl ht]at z;have e:Q2 (fun c=>if Zf y c=some l then upF y φ t c else 0) y.ls.length=Q2 (fun c=>if Zf y c=some l then ZZ y G.m G.ln (Zp G φ t) c else 0) y.ls.length:=by
    refine Zm fun c hc=>?_
    by_cases u:Zf y c=some l
    ·rw[Xd u,Xd u]
     have:=Uf ok hc u
     exact Flow.up ok hln ht n c (by omega) hc
    ·rw[Xb u,Xb u]
   rw[G8 ok hln _ hl,<- e];omega
theorem Flow.up_ok (ok:y.Ok){t l:Nat}(ht:t<y.T)(hl:l<y.ls.length):0<=upF y φ t l/\upF y φ t l<=Zy y l t:=by
 unfold upF;by_cases z:l=0
 ·subst z
  rw[Xd rfl];exact F.wi _ (KZ ht)
 ·rw[Xb z]
  exact F.wi _ (Mz ht (by omega) hl)
theorem Flow.load (ok:y.Ok)(hln:∀k,k<G.m->G.ln k<y.ls.length){t l:Nat}(ht:t<y.T)(hl:l<y.ls.length):ZZ y G.m G.ln (Zp G φ t) l<=Zy y l t:=by
 rw[<- F.up ok hln ht y.ls.length l (by omega) hl];exact(F.up_ok ok ht hl).2
def Vu (es:Got Nd)(k:Nat):Bool:=decide (Nd.guest k∈QP es)
def SQ (es:Got Nd)(t l:Nat):Bool:=decide (Nd.line l t∈QP es)
omit F in
theorem not_of {p:Prop} [Decidable p] (h:decide p=false):¬p:=UF h
theorem Flow.shut (ok:y.Ok)(hln:∀k,k<G.m->G.ln k<y.ls.length){es:Got Nd}(hc:VN (Zc y G) φ es)(hf:Nd.fin∉QP es){t:Nat}(ht:t<y.T) :
 Shut y G.m G.ln (Zp G φ t) (moT G t) (fun l=>Zy y l t) (Vu es) (SQ es t) where
 nn k hk:=(F.tak hk ht).1
 full k hk hS hR:=by
  unfold Zp moT;by_cases c:G.th k t=true
  ·rw[Xd c,Xd c]
   exact hc.fwd F.wi (Dd hk ht c) (XV hS) (not_of hR)
  ·rw[Xb c,Xb c]
 none k hk hS hR:=by
  unfold Zp;by_cases c:G.th k t=true
  ·rw[Xd c]
   exact hc.bwd F.wi (Dd hk ht c) (not_of hS) (XV hR)
  ·rw[Xb c]
 top hR:=by
  have h0:=ok.l1;rw[<- F.up ok hln ht y.ls.length 0 (by omega) (by omega)];unfold upF;rw[Xd rfl];exact hc.fwd F.wi (KZ ht) (XV hR) hf
 out c a hcl u h1 h2:=by
  have c0:c≠0:=fun z=>by subst z;rw[ok.up0]at u;cases u
  have ea:upN y c=a:=(DE ok (by omega) hcl).mpr u;rw[<- F.up ok hln ht y.ls.length c (by omega) hcl];unfold upF;rw[Xb c0];exact hc.fwd F.wi (Mz ht (by omega) hcl) (XV h1) (by rw[ea];exact not_of h2)
 inn c a hcl u h1 h2:=by
  have c0:c≠0:=fun z=>by subst z;rw[ok.up0]at u;cases u
  have ea:upN y c=a:=(DE ok (by omega) hcl).mpr u;rw[<- F.up ok hln ht y.ls.length c (by omega) hcl];unfold upF;rw[Xb c0];exact hc.bwd F.wi (Mz ht (by omega) hcl) (not_of h1) (by rw[ea];exact XV h2)
theorem Flow.filled {es:Got Nd}(hc:VN (Zc y G) φ es)(hs:Nd.start∈QP es){k:Nat}(hk:k<G.m)(hS:Vu es k=false):Q2 (fun t=>Zp G φ t k) y.T=G.wa k:=by
 rw[F.total hk];exact hc.fwd F.wi (N0 hk) hs (not_of hS)
def Wn (G:Gv)(S:Qm)(t l:Nat):Int:=Q2 (fun k=>Zi S (moT G t) k*ind (G.ln k=l)) G.m
omit F in
theorem Nu {y:Yd}(ok:y.Ok):∀n j,j<n->j<y.ls.length->0∈upL y j
 |0,j,h,_=>by omega
 |n+1,j,h,hj=>by
   by_cases z:j=0
   ·subst z;exact DA y 0
   ·obtain⟨a,ea,la⟩:=ok.ups j (by omega) hj
    exact(MQ ok (by omega) hj ea 0 (fun q=>z q.symm)).mpr (Nu ok n a (by omega) (by omega))
omit F in
theorem Ru {y:Yd}(ok:y.Ok){m:Nat}{ln:Nat->Nat}(hln:∀k,k<m->ln k<y.ls.length)(f:Qn):ZZ y m ln f 0=Q2 f m :=
 Zm fun k hk=>by
  unfold ind;rw[Xd (Nu ok _ _ (X9 _) (hln k hk)),Int.mul_one]
theorem Flow.no_more (ok:y.Ok)(hln:∀k,k<G.m->G.ln k<y.ls.length)(S:Qm){t:Nat}(ht:t<y.T):Q2 (Zi S (Zp G φ t)) G.m<=passes y (fun l=>Zy y l t) (Wn G S t) 0:=by
 have l1:=ok.l1;rw[<- Ru ok hln];refine Mir.no_more ok hln (fun l hl=>?_) (fun l hl=>?_) y.ls.length 0 (by omega) (by omega)
 ·refine Wh fun k hk=>?_
  have q:=F.tak hk ht
  by_cases e:G.ln k=l
  ·unfold Zi ind
   rw[Xd e];split<;>omega
  ·rw[ZJ e];omega
 ·have q:=F.load ok hln ht hl
  have q2:=ND (y:=y) (ln:=G.ln) (f:=Zi S (Zp G φ t)) (g:=Zp G φ t) (fun k hk=>D0 (F.tak hk ht).1) l;omega
theorem Flow.meet (ok:y.Ok)(hln:∀k,k<G.m->G.ln k<y.ls.length){es:Got Nd}(hc:VN (Zc y G) φ es)(hf:Nd.fin∉QP es){t:Nat}(ht:t<y.T) :
 passes y (fun l=>Zy y l t) (Wn G (Vu es) t) 0=Q2 (Zi (Vu es) (Zp G φ t)) G.m:=by
 have l1:=ok.l1;have a:=F.no_more ok hln (Vu es) ht;have b:=(F.shut ok hln hc hf ht).all ok hln (own:=Wn G (Vu es) t) (fun l hl=>rfl) y.ls.length 0 (by omega) (by omega) (fun _=>.inl rfl);rw[Ru ok hln]at b;omega
omit F in
theorem D6 (f g:Qn):∀n,Q2 (fun k=>f k-g k) n=Q2 f n-Q2 g n
 |0=>rfl
 |n+1=>by
   simp only[Q2];rw[D6 f g n];omega
theorem Flow.lack (ok:y.Ok)(hln:∀k,k<G.m->G.ln k<y.ls.length){es:Got Nd}(hc:VN (Zc y G) φ es)(hs:Nd.start∈QP es)(hf:Nd.fin∉QP es) :
 Q2 (fun k=>G.wa k-Q2 (fun t=>Zp G φ t k) y.T) G.m=Q2 (Zi (Vu es) G.wa) G.m-Q2 (fun t=>passes y (fun l=>Zy y l t) (Wn G (Vu es) t) 0) y.T:=by
 rw[Zm (n:=y.T) fun t ht=>F.meet ok hln hc hf ht,BA,<- D6];refine Zm fun k hk=>?_
 cases s:Vu es k with
 |true =>
   have:Q2 (fun t=>Zi (Vu es) (Zp G φ t) k) y.T=Q2 (fun t=>Zp G φ t k) y.T:=Zm fun t _=>by unfold Zi;rw[Xd s]
   rw[this];unfold Zi;rw[Xd s]
 |false =>
   have:Q2 (fun t=>Zi (Vu es) (Zp G φ t) k) y.T=0:=by
    rw[Zm (g:=fun _=>0) fun t _=>?_,VB];unfold Zi;rw[Xb (by rw[s];decide)]
   rw[this,F.filled hc hs hk s];unfold Zi;rw[Xb (by rw[s];decide)];omega
omit F in
theorem A2 (y:Yd)(G:Gv)(φ:QS Nd):Vo (Zc y G) φ .start=Q2 (fun k=>φ .start (.guest k)) G.m:=by
 unfold Vo;rw[DJ];have h2:Q2 (fun t=>φ (.line 0 t) .fin*(ind (Nd.line 0 t=.start)-ind (Nd.fin=.start))+Q2 (fun i=>φ (.line (i+1) t) (.line (upN y (i+1)) t)*(ind (Nd.line (i+1) t=.start)-ind (Nd.line (upN y (i+1)) t=.start))) (y.ls.length-1)) y.T=0:=by
  rw[Zm (g:=fun _=>0) fun t _=>?_,VB];rw[ZJ (fun z=>nomatch z),ZJ (fun z=>nomatch z),Zm (g:=fun _=>0) fun i _=>?_,VB]
  ·simp
  ·rw[ZJ (fun z=>nomatch z),ZJ (fun z=>nomatch z)];simp
 rw[h2,Int.add_zero];refine Zm fun k _=>?_;rw[ZJ (p:=Nd.guest k=.start) (fun z=>nomatch z),Zm (g:=fun _=>0) fun t _=>?_,VB]
 ·simp[ind]
 ·rw[ZJ (p:=Nd.line (G.ln k) t=.start) (fun z=>nomatch z)];simp
theorem Flow.push {a:Int}(ha:0<=a){w:Qk}(hw:Chain (Zc y G) .start .fin w)(hn:w.Nodup)(hr:∀e∈w,∃r,rmE (Zc y G) φ e=some r/\a<=r) :
 Flow y G (Y3 (Zc y G) a φ w)/\Vo (Zc y G) (Y3 (Zc y G) a φ w) .start=Vo (Zc y G) φ .start+a:=by
 refine⟨⟨Sl (B3 y G) ha F.wi hn hr,fun n h1 h2=>?_⟩,?_⟩
 ·rw[Dz (B3 y G) n hw,F.kp n h1 h2,ZJ (fun z=>h1 z.symm),ZJ (fun z=>h2 z.symm)]
  simp
 ·rw[Dz (B3 y G) .start hw,ZJ (p:=Nd.fin=.start) (fun z=>nomatch z)]
  simp[ind]
theorem Flow.most:Vo (Zc y G) φ .start<=Q2 G.wa G.m:=by
 rw[A2];exact Wh fun k hk=>(F.want hk).2
end
def Pw {y:Yd}{G:Gv}(h:∀x∈Zc y G,0<=x.2.2):Flow y G (fun _ _=>0):=by
 refine⟨fun x hx=>⟨JW _,h x hx⟩,fun n _ _=>?_⟩
 unfold Vo ZU;have:∀L:Lay Nd,(L.map fun x=>(0:Int)*(ind (x.1=n)-ind (x.2.1=n))).sum=0:=fun L=>by
  induction L with
  |nil=>rfl
  |cons x L ih=>rw[Xy,GF,ih];simp
 exact this _
end Mir
namespace Mir
open PySem
def AF (e:Nat):Builtin.bitAnd (e:Int) 1=((e%2:Nat):Int):=by
 unfold Builtin.bitAnd;have h1:decide ((0:Int)<=(e:Int))=true:=XS (by omega);have h2:decide ((0:Int)<=1)=true:=rfl;rw[h1,h2];show((((e:Int).toNat &&& (1:Int).toNat:Nat)):Int)=_;rw[Xz,show(1:Int).toNat=1 from rfl,Nat.and_one_is_mod]
def P9 (e:Nat):e ||| 1=e+1-e%2:=by
 apply Nat.eq_of_testBit_eq
 intro i;rw[Nat.testBit_or];have h2:e%2=0\/e%2=1:=by omega
 cases i with
 |zero =>
   rw[Nat.testBit_zero,Nat.testBit_zero,Nat.testBit_zero];have:(e+1-e%2)%2=1:=by omega
   rw[this];rcases h2 with h|h<;>rw[h]<;>rfl
 |succ i =>
   rw[Nat.testBit_succ,Nat.testBit_succ,Nat.testBit_succ];have:(e+1-e%2)/2=e/2:=by omega
   rw[this];simp
def CW (e:Nat):Builtin.bitOr (e:Int) 1=((e+1-e%2:Nat):Int):=by
 unfold Builtin.bitOr;have a:Builtin.bitNot (e:Int) = -(e:Int)-1:=rfl;have b:Builtin.bitNot 1 = -2:=rfl
 have c:Builtin.bitAnd (Builtin.bitNot (e:Int)) (Builtin.bitNot 1)=Builtin.bitNot (((e ||| 1:Nat)):Int):=by
  rw[a,b];unfold Builtin.bitAnd;have h1:decide ((0:Int) <= -(e:Int)-1)=false:=XN (by omega);have h2:decide ((0:Int) <= -2)=false:=rfl;rw[h1,h2];show Builtin.bitNot ((((Builtin.bitNot (-(e:Int)-1)).toNat ||| (Builtin.bitNot (-2)).toNat:Nat)):Int)=_;have e1:(Builtin.bitNot (-(e:Int)-1)).toNat=e:=by show(-(-(e:Int)-1)-1).toNat=e;omega
  have e2:(Builtin.bitNot (-2)).toNat=1:=rfl;rw[e1,e2]
 rw[c,P9];show -(-(((e+1-e%2:Nat)):Int)-1)-1=_;omega
def Sf (e:Nat):Builtin.bitXor (e:Int) 1=(ZeF e:Int):=by
 unfold Builtin.bitXor;rw[AF,CW];unfold ZeF;split<;>omega
end Mir
namespace L2
open PySem PySem.Spec PyProof.Rows
abbrev KK:=List Key×List Key
def W7 (P:Program)(w:World)(a:Addr)(xs:List (KK×Addr×V))(h:Heap):Prop:=xs.length<=sizeLine/\(a==sysModules)=false/\∃vs:List (KK×Addr×Value),
 Paired (fun(x:KK×Addr×V) (y:KK×Addr×Value)=>x.1=y.1/\x.2.1=y.2.1/\QJ x.2.2 y.2.2) xs vs /\
 ∃o es ep,h.get? a=some o/\o.ExactDict/\o.data=.dict es ep/\es.toList=vs.map (entryOfKey (D3 (Vc P w)))/\(vs.map (·.1)).Nodup
def pdO (P:Program)(w:World)(a:Addr)(xs:List (KK×Addr×V)):HO:=.ext (W7 P w a xs)
def W7.move {P:Program}{w:World}{a:Addr}{xs:List (KK×Addr×V)}{h1 h2:Heap}(x:W7 P w a xs h1)(k:∀o,h1.get? a=some o->h2.get? a=some o):W7 P w a xs h2:=by
 obtain⟨z,y,vs,r,o,es,ep,e1,e2,e3,e4,e5⟩:=x
 exact⟨z,y,vs,r,o,es,ep,k _ e1,e2,e3,e4,e5⟩
def W7.ok {P:Program}{w:World}{a:Addr}{xs:List (KK×Addr×V)}{H:Hp}{h:Heap}(x:W7 P w a xs h):Z6 P w H h a (pdO P w a xs):=by
 refine⟨x,?_,fun h1 h2 y k=>y.move k⟩;obtain⟨z,y,vs,r,o,es,ep,e1,_⟩:=x
 exact⟨o,e1⟩
def Yc (H:Hp)(k:KK)(b:Addr):Prop := ∃p q,H b=some (.tup [.ref p,.ref q])/\H p=some (.tup (k.1.map kV))/\H q=some (.tup (k.2.map kV))
def Yc.mono {H H':Hp}(s:∀b ys,H b=some (.tup ys)->H' b=some (.tup ys)){k:KK}{b:Addr}(x:Yc H k b):Yc H' k b:=by
 obtain⟨p,q,h1,h2,h3⟩:=x
 exact⟨p,q,s _ _ h1,s _ _ h2,s _ _ h3⟩
section
variable {P:Program}{w:World}{H:Hp}{h:Heap}{a b:Addr}
def Rb {k:KK}(ok:HOk P w H h)(x:Yc H k b):(D3 (Vc P w)).is h k b:=by
 obtain⟨p,q,h1,h2,h3⟩:=x;obtain⟨_,its,r,o,e1,e2,n,e3⟩:=(show Z6 P w H h b (.tup [.ref p,.ref q]) from ok b _ h1)
 cases r with
 |cons r1 r =>
   cases r with
   |cons r2 r =>
     cases r
     cases (show _=Value.ref p from r1)
     cases (show _=Value.ref q from r2)
     exact⟨o,n,p,q,e1,e2,e3,YX ok h2,YX ok h3⟩
def Ph {xs:List (KK×Addr×V)}(ok:HOk P w H h)(e:H a=some (pdO P w a xs))(hk:∀x∈xs,Yc H x.1 x.2.1):xs.length<=sizeLine/\(a==sysModules)=false/\∃vs,
 Paired (fun(x:KK×Addr×V) (y:KK×Addr×Value)=>x.1=y.1/\x.2.1=y.2.1/\QJ x.2.2 y.2.2) xs vs/\h.DictOfH (D3 (Vc P w)) a vs:=by
 obtain⟨⟨z,y,vs,r,o,es,ep,e1,e2,e3,e4,e5⟩,hst⟩:=(show Z6 P w H h a (pdO P w a xs) from ok a _ e);refine⟨z,y,vs,r,o,es,ep,e1,e2,e3,e4,?_,e5⟩;clear e5 e4 z e hst;induction r with
 |nil=>intro x hx;exact nomatch hx
 |@cons p q ps qs hq t ih =>
   intro x hx;rcases Xg.mp hx with rfl|hx
   ·have:=Rb ok (hk p Xc)
    rw[hq.1,hq.2.1]at this;exact this
   ·exact ih (fun z hz=>hk z (Xe _ hz)) x hx
end
def YJ (xs:List (KK×Addr×V))(k:KK):Option V:=(xs.find? fun x=>decide (x.1=k)).map (·.2.2)
abbrev RPD:=Paired (fun(x:KK×Addr×V) (y:KK×Addr×Value)=>x.1=y.1/\x.2.1=y.2.1/\QJ x.2.2 y.2.2)
def RPD.val (k:KK){xs:List (KK×Addr×V)}{vs:List (KK×Addr×Value)}(r:RPD xs vs):ZI (YJ xs k) ((atKey vs k).map (·.2)):=by
 induction r with
 |nil=>exact True.intro
 |@cons p q ps qs hq t ih =>
   by_cases e:p.1=k
   ·have e1:YJ (p::ps) k=some p.2.2:=by simp[YJ,Xx,e]
    have e2:(atKey (q::qs) k).map (·.2)=some q.2.2:=by simp[atKey,Xx,<- hq.1,e]
    rw[e1,e2];exact hq.2.2
   ·have e1:YJ (p::ps) k=YJ ps k:=by simp[YJ,Xx,e]
    have e2:(atKey (q::qs) k).map (·.2)=(atKey qs k).map (·.2):=by simp[atKey,Xx,<- hq.1,e]
    rw[e1,e2];exact ih
def W4 (xs:List (KK×Addr×V))(k:KK)(b:Addr)(v:V):List (KK×Addr×V):=if (YJ xs k).isSome=true then xs.map (fun x=>if x.1=k then (x.1,x.2.1,v) else x) else xs++[(k,b,v)]
def RPD.repl (k:KK){v:V}{u:Value}(rv:QJ v u){xs:List (KK×Addr×V)}{vs:List (KK×Addr×Value)}(r:RPD xs vs):RPD (xs.map fun x=>if x.1=k then (x.1,x.2.1,v) else x) (vs.map (putAt k u)):=by
 induction r with
 |nil=>exact .nil
 |@cons p q ps qs hq t ih =>
   rw[Xy,Xy];refine .cons ?_ ih;unfold putAt;by_cases e:p.1=k
   ·rw[Xd e,Xd (hq.1▸e)]
    exact⟨hq.1,hq.2.1,rv⟩
   ·rw[Xb e,Xb (hq.1▸e)]
    exact hq
theorem ZI.some_eq:∀{x:Option V} {y:Qf},ZI x y->x.isSome=y.isSome
 |none,none,_=>rfl
 |some _,some _,_=>rfl
 |none,some _,h=>by cases h
 |some _,none,h=>by cases h
def RPD.put (k:KK)(b:Addr){v:V}{u:Value}(rv:QJ v u){xs:List (KK×Addr×V)}{vs:List (KK×Addr×Value)}(r:RPD xs vs):RPD (W4 xs k b v) (storedH vs k b u):=by
 have e:=ZI.some_eq (r.val k);rw[UC]at e;unfold W4 storedH;rw[e];split
 ·exact r.repl k rv
 ·exact Paired.snoc r ⟨rfl,rfl,rv⟩
def ED (xs:List (KK×Addr×V))(k:KK)(b:Addr)(v:V):(W4 xs k b v).length<=xs.length+1:=by
 unfold W4;split<;>simp
section
variable {X:Cx}{XaR:Qc}{σ:St}{H:Hp}{s:Shared}{a b:Addr}{v:V}{r:Value}{A:Around}{E:Qb}{xs:List (KK×Addr×V)}{k:KK}
def Cy {Q:Unit->Shared->Prop}(hu:A.units+6<cLine)(I:Qq X XaR σ H s)(e:H a=some (pdO X.prog X.w a xs))(hk:∀x∈xs,Yc H x.1 x.2.1)(hb:Yc H k b)(l:xs.length<sizeLine)(rv:QJ v r)
 (h:∀s',Qq X XaR σ (upd H a (pdO X.prog X.w a (W4 xs k b v))) s'->Q () s'):wpAny (model X.prog X.w) A (setItem (.ref a) (.ref b) r) Q E s:=by
 obtain⟨z,hd,vs,rel,dd⟩:=Ph I.hok e hk;have hz:vs.length<=sizeLine:=by rw[<- Paired.length rel];exact z
 refine wpAny_setItem_heap (hsz:=hz) (show A.units+1+5<cLine by omega) (Rb I.hok hb) dd fun h' dd' hs=>h _ ?_;obtain⟨q,es,ep,hq,h2,h3,h4,_,h5⟩:=dd';exact Go I (by rw[e];exact True.intro) hs ⟨q,hq⟩ (W7.ok ⟨by have:=ED xs k b v;omega,hd,_,RPD.put k b rv rel,q,es,ep,hq,h2,h3,h4,h5⟩)
end
section
variable {X:Cx}{XaR:Qc}{σ:St}{H:Hp}{s:Shared}{a b:Addr}{d:V}{r:Value}{A:Around}{E:Qb}{kvs:List (List Key×V)}{k:List Key}
def F9 {Q:Qb}(hu:A.units+1<cLine)(I:Qq X XaR σ H s)(e:H a=some (.dT kvs))(eb:H b=some (.tup (k.map kV)))(l:kvs.length<sizeLine)(rd:QJ d r)
 (h1:∀v u s',Zq kvs k=some v->Qq X XaR σ H s'->QJ v u->Q u s') (h2:Zq kvs k=none->∀s',Qq X XaR σ (upd H a (.dT (kvs++[(k,d)]))) s'->Q r s') :
 wpAny (model X.prog X.w) A (call (.builtin "dict.setdefault") [.ref a,.ref b,r]) Q E s:=by
 obtain⟨z,hd,xs,rel,dd⟩:=Mv I.hok e;have hz:xs.length<=sizeLine:=by rw[<- Paired.length rel];exact z
 have rr:=rel.val k
 refine call_meetsIn PySem.F.slot_dict_setdefault dd.typeIs PySem.F.entry_dict_setdefault (PySem.F.args_dict_setdefault_3 _ _ _) (Iz (tupleKind (Vc X.prog X.w)) a b hd r)
  ⟨tupleKind_room_in1 hu,k,xs,YX I.hok eb,dd,hz,fun p hp=>?_,fun hn h' dd' hs=>?_⟩
 ·rw[hp]at rr
  cases ev:Zq kvs k with
  |none=>rw[ev]at rr;cases rr
  |some v=>rw[ev]at rr;exact h1 v _ _ ev (I.tok _) rr
 ·have ev:Zq kvs k=none:=by
   rw[hn]at rr;cases ev:Zq kvs k with
   |none=>rfl
   |some v=>rw[ev]at rr;cases rr
  refine h2 ev _ ?_;obtain⟨q,es,ep,hq,g2,g3,g4,_,g5⟩:=dd';refine Go I (by rw[e];exact True.intro) hs ⟨q,hq⟩ ⟨by simp;omega,hd,_,(show KT H (kvs++[(k,d)]) (xs++[(k,b,r)]) from Paired.snoc rel ⟨rfl,eb,rd⟩).keeps fun c ys ec=>?_,q,es,ep,hq,g2,g3,g4,g5⟩;rw[Qt (fun z=>by subst z;rw[e]at ec;cases ec)];exact ec
end
def Nl (td ty tx:TE):TE:=fun σ H Q=>td σ H fun x H1=>∃a,x=.ref a/\IsD H1 a/\ty σ H1 fun y H2=>tx σ H2 fun z H3=>∃kvs k b,y=.ref b/\H3 a=some (.dT kvs)/\H3 b=some (.tup (k.map kV))/\kvs.length<sizeLine /\
 (∀v,Zq kvs k=some v->Q v H3)/\(Zq kvs k=none->Q z (upd H3 a (.dT (kvs++[(k,z)]))))
section
variable {X:Cx}{o e f value:Expr}{apos cpos pos pos':Pos}{td ty tx tv:TE}
def Fg (hu:X.A.units+1<cLine) (ho:PE X o td) (he:PE X e ty) (hf:PE X f tx) (m:M2 X o "setdefault" apos e f cpos):PE X (.Call (.Attribute o "setdefault" apos) [e,f] [] cpos) (Nl td ty tx):=by
 intro XaR s σ H Q I h;refine wpAny_Call_method m.base m.few m.line PySem.F.plainAttrs_dict PySem.F.slot_dict_setdefault PySem.F.type_dict_setdefault (Q6 (ho XaR s σ H _ I h) fun u s1 ⟨x,H1,I1,rx,a,ex,d,q1⟩=>?_);subst ex;obtain rfl:u=Value.ref a:=rx;obtain⟨t1,t2,_⟩:=KU I1 d;refine⟨t1,t2,?_⟩
 rw[m.trees];refine Calls.callWith_builtin rfl (Calls.evalArgs_plain (Calls.spliced_cons (Q6 (he XaR s1 σ H1 _ I1 q1) fun iv s2 ⟨y,H2,I2,ry,q2⟩ =>
  Calls.spliced_cons (Q6 (hf XaR s2 σ H2 _ I2 q2) fun fv s3 ⟨z,H3,I3,rz,kvs,k,b,ey,e1,e2,l,q3,q4⟩=>Calls.spliced_nil ?_))))
 subst ey;cases (show iv=Value.ref b from ry);exact F9 hu I3 e1 e2 l rz (fun v u s' ev I4 rv=>⟨v,H3,I4,rv,q3 v ev⟩) (fun ev s' I4=>⟨z,_,I4,rz,q4 ev⟩)
def K9 (P:Program)(w:World)(td ty tv:TE):TS:=fun D σ H=>tv σ H fun v H1=>td σ H1 fun x H2=>ty σ H2 fun y H3=>∃a b xs k,x=.ref a/\y=.ref b/\H3 a=some (pdO P w a xs)/\(∀x∈xs,Yc H3 x.1 x.2.1)/\Yc H3 k b/\xs.length<sizeLine /\
 D.nx σ (upd H3 a (pdO P w a (W4 xs k b v)))
def LK (hu:X.A.units+6<cLine)(ho:PE X o td)(hi:PE X e ty)(hv:PE X value tv)(hs:swapsWith value (some (.Subscript o e pos')) pos.line X.env=pure false) :
 PS X (.Assign [.Subscript o e pos'] value pos) (K9 X.prog X.w td ty tv):=by
 intro XaR s σ H D I h;refine wpAny_Assign_Subscript (Q6 (hv XaR s σ H _ I h) fun r s1 ⟨v,H1,I1,rv,q1⟩=>Q6 (ho XaR s1 σ H1 _ I1 q1) fun u s2 ⟨x,H2,I2,rx,q2⟩=>Q6 (hi XaR s2 σ H2 _ I2 q2) fun iv s3 ⟨y,H3,I3,ry,a,b,xs,k,ex,ey,e1,e2,e3,l,q3⟩=>?_) hs;subst ex ey;obtain rfl:u=Value.ref a:=rx;obtain rfl:iv=Value.ref b:=ry;exact Cy hu I3 e1 e2 e3 l rv fun s4 I4=>⟨σ,_,I4,q3⟩
end
def Tm (P:Program)(w:World):TE:=fun _ H Q=>∀p,H p=none->Q (.ref p) (upd H p (pdO P w p []))
def FR {X:Cx}{pos:Pos}:PE X (.Dict [] [] pos) (Tm X.prog X.w):=fun XaR s σ H Q I h =>
 wpAny_Dict_empty ⟨.ref s.heap.objs.size,_,I.laid (a:=s.heap.objs.size) (o:=pdO X.prog X.w s.heap.objs.size []) (t':=s.toks) (fun _ _ q=>Xf _ q) (Xq _)
  (W7.ok ⟨XQ _,beq_eq_false_iff_ne.mpr (Ne.symm (Xm I.big)),[],.nil,_,#[],0,Xu _ rfl,⟨rfl,rfl,rfl⟩,rfl,rfl,JN⟩),rfl,h _ (I.hok.fresh (Xq _))⟩
structure Qz where
 ends:List (List Key)
 rooms:Ql
 leav:List (List Key×Ql)
 laid:List (KK×Int)
inductive LaidD (F:Hp):List (KK×Addr×V)->List (KK×Int)->Prop
 |nil:LaidD F [] []
 |cons {k:KK} {b:Addr} {n:Int} {xs:List (KK×Addr×V)} {ls:List (KK×Int)}:Yc F k b->LaidD F xs ls->LaidD F ((k,b,.int n)::xs) ((k,n)::ls)
theorem LaidD.mono {F F':Hp}(s:Q4 F F'):∀{xs:List (KK×Addr×V)} {ls:List (KK×Int)},LaidD F xs ls->LaidD F' xs ls
 |_,_,.nil=>.nil
 |_,_,.cons h t=>.cons (h.mono fun b ys e=>s _ _ e) (t.mono s)
theorem LaidD.at {F H:Hp}(s:Q4 F H):∀{xs:List (KK×Addr×V)} {ls:List (KK×Int)},LaidD F xs ls->∀x∈xs,Yc H x.1 x.2.1
 |_,_,.nil,x,hx=>nomatch hx
 |_,_,.cons h t,x,hx=>by
   rcases Xg.mp hx with rfl|hx
   ·exact h.mono fun b ys e=>s _ _ e
   ·exact t.at s x hx
inductive LeavD (F H:Hp):List (List Key×V)->List (List Key×Ql)->Qg->Prop
 |nil:LeavD F H [] [] []
 |cons {k:List Key} {a:Addr} {ns:Ql} {xs:List (List Key×V)} {ls:List (List Key×Ql)} {as:Qg}:Vj F H a (ns.map PyData.int)->LeavD F H xs ls as->LeavD F H ((k,.ref a)::xs) ((k,ns)::ls) (a::as)
theorem LeavD.mem {F H:Hp}:∀{xs:List (List Key×V)} {ls:List (List Key×Ql)} {as:Qg},LeavD F H xs ls as->∀a∈as,F a=none/\H a≠none
 |_,_,_,.nil,a,ha=>nomatch ha
 |_,_,_,.cons h t,a,ha=>by
   rcases Xg.mp ha with rfl|ha
   ·obtain⟨h1,xs,h2,_⟩:=h
    exact⟨h1,Z1 h2⟩
   ·exact t.mem a ha
theorem LeavD.mono {F F' H H':Hp}(s:Q4 F F'):∀{xs:List (List Key×V)} {ls:List (List Key×Ql)} {as:Qg},(∀a∈as,F' a=none)->(∀a∈as,H' a=H a)->LeavD F H xs ls as->LeavD F' H' xs ls as
 |_,_,_,_,_,.nil=>.nil
 |_,_,_,hF,hH,.cons h t=>by
   obtain⟨h1,xs,h2,h3⟩:=h;exact .cons ⟨hF _ Xc,xs,by rw[hH _ Xc];exact h2,h3.mono s⟩ (t.mono s (fun a ha=>hF a (Xe _ ha)) (fun a ha=>hH a (Xe _ ha)))
theorem LeavD.addrs {F F' H H':Hp}:∀{xs:List (List Key×V)} {ls ls':List (List Key×Ql)} {as bs:Qg},LeavD F H xs ls as->LeavD F' H' xs ls' bs->as=bs
 |_,_,_,_,_,.nil,.nil=>rfl
 |_,_,_,_,_,.cons _ t,.cons _ t'=>by rw[t.addrs t']
structure NetOk (P:Program)(w:World)(C:Addr)(N:Qz)(F H:Hp)(a dx e r l d:Addr)(xs:List (List Key×V))(ys:List (KK×Addr×V))(as:Qg):Prop where
 nd:(a::dx::e::r::l::d::as).Nodup
 ins:F a=none/\H a=some (.ins C dx [("ends",.ref e),("rooms",.ref r),("leaving",.ref l),("laid",.ref d)])
 own:F dx=none/\H dx=some (.own a)
 ends:Vj F H e (N.ends.map QT)
 rooms:Vj F H r (N.rooms.map PyData.int)
 leav:F l=none/\H l=some (.dT xs)/\LeavD F H xs N.leav as
 laid:F d=none/\H d=some (pdO P w d ys)/\LaidD F ys N.laid
def Za (P:Program)(w:World)(C:Addr)(N:Qz):OwnP where
 ok K F H v p := ∃a dx e r l d xs ys as,v=.ref a/\p=a::dx::e::r::l::d::as/\NetOk P w C N F H a dx e r l d xs ys as
 there:=by
  rintro K F H v p ⟨a,dx,e,r,l,d,xs,ys,as,rfl,rfl,o⟩ b hb
  obtain⟨_,⟨i1,i2⟩,⟨o1,o2⟩,⟨e1,ex,e2,_⟩,⟨r1,rx,r2,_⟩,⟨l1,l2,l3⟩,⟨d1,d2,_⟩⟩:=o;simp only[Xg]at hb;rcases hb with rfl|rfl|rfl|rfl|rfl|rfl|hb
  ·exact⟨i1,Z1 i2⟩
  ·exact⟨o1,Z1 o2⟩
  ·exact⟨e1,Z1 e2⟩
  ·exact⟨r1,Z1 r2⟩
  ·exact⟨l1,Z1 l2⟩
  ·exact⟨d1,Z1 d2⟩
  ·exact l3.mem b hb
 mono:=by
  rintro K F F' H H' v p s hF hH ⟨a,dx,e,r,l,d,xs,ys,as,rfl,rfl,o⟩
  obtain⟨nd,⟨i1,i2⟩,⟨o1,o2⟩,⟨e1,ex,e2,e3⟩,⟨r1,rx,r2,r3⟩,⟨l1,l2,l3⟩,⟨d1,d2,d3⟩⟩:=o
  refine⟨a,dx,e,r,l,d,xs,ys,as,rfl,rfl,nd,⟨hF _ (by simp),by rw[hH _ (by simp)];exact i2⟩,⟨hF _ (by simp),by rw[hH _ (by simp)];exact o2⟩,⟨hF _ (by simp),ex,by rw[hH _ (by simp)];exact e2,e3.mono s⟩,
   ⟨hF _ (by simp),rx,by rw[hH _ (by simp)];exact r2,r3.mono s⟩,⟨hF _ (by simp),by rw[hH _ (by simp)];exact l2,l3.mono s (fun b hb=>hF b (by simp[hb])) (fun b hb=>hH b (by simp[hb]))⟩,⟨hF _ (by simp),by rw[hH _ (by simp)];exact d2,d3.mono s⟩⟩
 uniq:=by
  rintro K F H v p q ⟨a,dx,e,r,l,d,xs,ys,as,rfl,rfl,o⟩ ⟨a',dx',e',r',l',d',xs',ys',as',ev,rfl,o'⟩ c hc
  cases ev
  have i:=o.ins.2.symm.trans o'.ins.2;injection i with i;injection i with _ i1 i2;subst i1;simp only[List.cons.injEq,Prod.mk.injEq,true_and,and_true,V.ref.injEq]at i2;obtain⟨rfl,rfl,rfl,rfl⟩:=i2;have j:=o.leav.2.1.symm.trans o'.leav.2.1;injection j with j;injection j with j;subst j;rw[o.leav.2.2.addrs o'.leav.2.2];exact hc
structure NetC (K:W.Frag)(C:Addr):Prop where
 cl:Cls K C
 ends:V3 K C "ends"
 rooms:V3 K C "rooms"
 leav:V3 K C "leaving"
 laid:V3 K C "laid"
section
variable {K:W.Frag}{ρ:Q5}{tb te ty tx:TE}{D:PEnds}{i:Nat}{v:V}{P:Program}{w:World}{C:Addr}{N:Qz}
def QC.net {H0 F H:Hp}{σ:St}(S:QC K H0 F ρ σ H)(e:ρ[i]?=some (some (.own v (Za P w C N)))) :
 ∃a dx el r l d xs ys as,v=.ref a/\σ[i]?=some (some (.ref a))/\NetOk P w C N F H a dx el r l d xs ys as/\(∀b∈a::dx::el::r::l::d::as,H0 b=none/\F b=none/\H b≠none) /\
  ∀(H':Hp) (N':Qz) (xs':List (List Key×V)) (ys':List (KK×Addr×V)) (as':Qg),Q4 F H'->(∀b,b∉a::dx::el::r::l::d::as->H b≠none->H' b=H b)->(∀b,H b≠none->H' b≠none) ->
   NetOk P w C N' F H' a dx el r l d xs' ys' as'->(∀b∈as',b∈as\/(H b=none/\H0 b=none))->QC K H0 F (ρ.set i (some (.own v (Za P w C N')))) σ H':=by
 obtain⟨e1,p,⟨a,dx,el,r,l,d,xs,ys,as,rfl,rfl,ok⟩,hp,w'⟩:=S.writeOwn e;refine⟨a,dx,el,r,l,d,xs,ys,as,rfl,e1,ok,hp,fun H' N' xs' ys' as' h1 h2 h3 h4 h5=>w' H' _ _ h1 h2 h3 ⟨a,dx,el,r,l,d,xs',ys',as',rfl,rfl,h4⟩ fun b hb=>?_⟩;simp only[Xg]at hb ⊢;rcases hb with h|h|h|h|h|h|hb
 ·exact .inl (.inl h)
 ·exact .inl (.inr (.inl h))
 ·exact .inl (.inr (.inr (.inl h)))
 ·exact .inl (.inr (.inr (.inr (.inl h))))
 ·exact .inl (.inr (.inr (.inr (.inr (.inl h)))))
 ·exact .inl (.inr (.inr (.inr (.inr (.inr (.inl h))))))
 ·rcases h5 b hb with z|z
  ·exact .inl (.inr (.inr (.inr (.inr (.inr (.inr z))))))
  ·exact .inr z
def LeavD.other {F H:Hp}{b:Addr}{o:HO}{xs:List (List Key×V)}{ls:List (List Key×Ql)}{as:Qg}(h:LeavD F H xs ls as)(n:b∉as):LeavD F (upd H b o) xs ls as :=
 h.mono (Q4.refl _) (fun a ha=>(h.mem a ha).1) (fun a ha=>Qt fun z=>n (z▸ha))
def NetOk.setRooms {F H:Hp}{a dx el r l d:Addr}{xs:List (List Key×V)}{ys:List (KK×Addr×V)}{as:Qg}(ok:NetOk P w C N F H a dx el r l d xs ys as){ns:Ql}{zs:List V}(hr:Qw F zs (ns.map PyData.int)) :
 NetOk P w C { N with rooms:=ns } F (upd H r (.lst zs)) a dx el r l d xs ys as:=by
 obtain⟨nd,⟨i1,i2⟩,⟨o1,o2⟩,⟨e1,ex,e2,e3⟩,⟨r1,rx,r2,r3⟩,⟨l1,l2,l3⟩,⟨d1,d2,d3⟩⟩:=ok;have nd':=nd;simp only[XO,Xg,not_or]at nd';obtain⟨⟨a1,a2,a3,_⟩,⟨b1,b2,_⟩,⟨c1,_⟩,⟨g1,g2,g3⟩,_⟩:=nd'
 exact⟨nd,⟨i1,by rw[Qt a3];exact i2⟩,⟨o1,by rw[Qt b2];exact o2⟩,⟨e1,ex,by rw[Qt c1];exact e2,e3⟩,⟨r1,zs,QA,hr⟩,⟨l1,by rw[Qt (Ne.symm g1)];exact l2,l3.other g3⟩,⟨d1,by rw[Qt (Ne.symm g2)];exact d2,d3⟩⟩
def Yu {H:Hp}{a:Addr}{o:HO}:∀b,H b≠none->upd H a o b≠none:=fun b hb=>by
 by_cases z:b=a
 ·subst z;rw[QA];exact fun q=>nomatch q
 ·rw[Qt z];exact hb
def Rz {f:Int->Int->Int}(c:NetC K C)(e:ρ[i]?=some (some (.own v (Za P w C N)))){k m n:Int}(hi:Qu K tb ρ (.int k))(h0:0<=k)(hm:N.rooms[k.toNat]?=some m)(h:Qu K te ρ (.int n))
 (hn:D.nx (ρ.set i (some (.own v (Za P w C { N with rooms:=N.rooms.set k.toNat (f m n) }))))):Q0 K (M4 (Vs K (QD i) "rooms") tb te (M1 K) (ipI f) UW) ρ D:=fun F0 H0 F σ H E x S C'=>by
 obtain⟨a,dx,el,r,l,d,xs,ys,as,rfl,e1,ok,_⟩:=S.net e;refine⟨_,e1,a,C,dx,_,.ref r,rfl,ok.ins.2,c.cl,c.rooms,rfl,hi H0 F σ H _ S fun F1 H1 y x1 r1=>?_⟩
 cases r1
 obtain⟨_,rx,r2,r3⟩:=ok.rooms;have hm':(N.rooms.map PyData.int)[k.toNat]?=some (.int m):=by rw[Xt,hm];rfl
 obtain⟨z,z1,z2⟩:=(r3.mono x1.ff).get hm';refine⟨r,rx,k,z,rfl,rfl,SqL.of (x1.hh _ _ r2),h0,z1,h H0 F1 σ H1 _ (S.ext x1) fun F2 H2 u x2 r2'=>?_⟩
 cases r2'
 cases z2
 refine⟨m,n,rfl,rfl,?_⟩;obtain⟨a',dx',el',r',l',d',xs',ys',as',ea,g1,ok',hp,wr⟩:=(S.ext (x1.trans x2)).net e
 cases ea
 have hi2:=ok'.ins.2.symm.trans ((x1.trans x2).hh _ _ ok.ins.2);injection hi2 with hi2;injection hi2 with _ _ hi3;simp only[List.cons.injEq,Prod.mk.injEq,true_and,and_true,V.ref.injEq]at hi3;obtain⟨rfl,rfl,rfl,rfl⟩:=hi3;obtain⟨q1,qx,q2,q3⟩:=ok'.rooms;have hlt:k.toNat<N.rooms.length:=(Xh.mp hm).1
 have hr:Qw F2 (qx.set k.toNat (.int (f m n))) ((N.rooms.set k.toNat (f m n)).map PyData.int):=by
  rw[List.map_set];exact q3.set (.int _) _
 refine⟨r',qx,k,k.toNat,rfl,rfl,q2,?_,?_⟩
 ·rw[q3.length,Xn]
  unfold ixN;rw[Xd h0,Xd (by omega)]
 ·have hr0:=hp r' (by simp)
  exact C'.nx F2 σ _ _ ((x.trans (x1.trans x2)).wr hr0.1 hr0.2.1) (wr _ { N with rooms:=N.rooms.set k.toNat (f m n) } xs' ys' as' ((S.ext (x1.trans x2)).sub.upd hr0.2.1) (fun b hb _=>Qt fun z=>hb (by rw[z];simp)) Yu (ok'.setRooms hr) (fun b hb=>.inl hb)) hn
end
section
variable {K:W.Frag}{ρ:Q5}{tb te ty tx:TE}{D:PEnds}{i:Nat}{v:V}{P:Program}{w:World}{C:Addr}{N:Qz}
def NetOk.same {N':Qz}{F H F' H':Hp}{a dx el r l d dx' el' r' l' d':Addr}{xs xs':List (List Key×V)}{ys ys':List (KK×Addr×V)}{as as':Qg}
 (ok:NetOk P w C N F H a dx el r l d xs ys as) (ok':NetOk P w C N' F' H' a dx' el' r' l' d' xs' ys' as') (s:H' a=H a):dx'=dx/\el'=el/\r'=r/\l'=l/\d'=d:=by
 have h:=ok'.ins.2;rw[s,ok.ins.2]at h;injection h with h;injection h with _ h1 h2;simp only[List.cons.injEq,Prod.mk.injEq,true_and,and_true,V.ref.injEq]at h2;obtain⟨z1,z2,z3,z4⟩:=h2
 exact⟨h1.symm,z1.symm,z2.symm,z3.symm,z4.symm⟩
def NetOk.setEnds {F H:Hp}{a dx el r l d:Addr}{xs:List (List Key×V)}{ys:List (KK×Addr×V)}{as:Qg}(ok:NetOk P w C N F H a dx el r l d xs ys as){ns:List (List Key)}{zs:List V}(hr:Qw F zs (ns.map QT)) :
 NetOk P w C { N with ends:=ns } F (upd H el (.lst zs)) a dx el r l d xs ys as:=by
 obtain⟨nd,⟨i1,i2⟩,⟨o1,o2⟩,⟨e1,ex,e2,e3⟩,⟨r1,rx,r2,r3⟩,⟨l1,l2,l3⟩,⟨d1,d2,d3⟩⟩:=ok;have nd':=nd;simp only[XO,Xg,not_or]at nd';obtain⟨⟨a1,a2,a3,_⟩,⟨b1,b2,_⟩,⟨c1,c2,c3,c4⟩,_⟩:=nd'
 exact⟨nd,⟨i1,by rw[Qt a2];exact i2⟩,⟨o1,by rw[Qt b1];exact o2⟩,⟨e1,zs,QA,hr⟩,⟨r1,rx,by rw[Qt (Ne.symm c1)];exact r2,r3⟩,⟨l1,by rw[Qt (Ne.symm c2)];exact l2,l3.other c4⟩,⟨d1,by rw[Qt (Ne.symm c3)];exact d2,d3⟩⟩
def A9 (c:NetC K C)(e:ρ[i]?=some (some (.own v (Za P w C N)))){n:Int}(h:Qu K te ρ (.int n))(hl:N.rooms.length<1000)
 (hn:D.nx (ρ.set i (some (.own v (Za P w C { N with rooms:=N.rooms++[n] }))))):Q0 K (VF (tBM K "list" Yb (Vs K (QD i) "rooms") (QE te QO))) ρ D:=fun F0 H0 F σ H E x S C'=>by
 obtain⟨a,dx,el,r,l,d,xs,ys,as,rfl,e1,ok,_⟩:=S.net e;refine⟨_,e1,a,C,dx,_,.ref r,rfl,ok.ins.2,c.cl,c.rooms,rfl,.inl ⟨rfl,_,SqL.of ok.rooms.2.choose_spec.1⟩,h H0 F σ H _ S fun F1 H1 u x1 r1=>?_⟩
 cases r1
 obtain⟨a',dx',el',r',l',d',xs',ys',as',ea,g1,ok',hp,wr⟩:=(S.ext x1).net e
 cases ea
 obtain⟨rfl,rfl,rfl,rfl,rfl⟩:=ok.same ok' ((x1.hh _ _ ok.ins.2).trans ok.ins.2.symm);obtain⟨q1,qx,q2,q3⟩:=ok'.rooms;have hr0:=hp r' (by simp);refine⟨r',qx,.int n,rfl,rfl,q2,by rw[q3.length,Xn];exact Vy (by omega),?_⟩;exact C'.nx F1 σ _ _ ((x.trans x1).wr hr0.1 hr0.2.1) (wr _ { N with rooms:=N.rooms++[n] } xs' ys' as' ((S.ext x1).sub.upd hr0.2.1) (fun b hb _=>Qt fun z=>hb (by rw[z];simp)) Yu (ok'.setRooms (by rw[XD];exact q3.snoc (.int n))) (fun b hb=>.inl hb)) hn
def AW (c:NetC K C)(e:ρ[i]?=some (some (.own v (Za P w C N)))){n:List Key}(h:Qu K te ρ (QT n))(hl:N.ends.length<1000)
 (hn:D.nx (ρ.set i (some (.own v (Za P w C { N with ends:=N.ends++[n] }))))):Q0 K (VF (tBM K "list" Yb (Vs K (QD i) "ends") (QE te QO))) ρ D:=fun F0 H0 F σ H E x S C'=>by
 obtain⟨a,dx,el,r,l,d,xs,ys,as,rfl,e1,ok,_⟩:=S.net e;refine⟨_,e1,a,C,dx,_,.ref el,rfl,ok.ins.2,c.cl,c.ends,rfl,.inl ⟨rfl,_,SqL.of ok.ends.2.choose_spec.1⟩,h H0 F σ H _ S fun F1 H1 u x1 r1=>?_⟩;obtain⟨a',dx',el',r',l',d',xs',ys',as',ea,g1,ok',hp,wr⟩:=(S.ext x1).net e
 cases ea
 obtain⟨rfl,rfl,rfl,rfl,rfl⟩:=ok.same ok' ((x1.hh _ _ ok.ins.2).trans ok.ins.2.symm);obtain⟨q1,qx,q2,q3⟩:=ok'.ends;have hr0:=hp el' (by simp);refine⟨el',qx,u,rfl,rfl,q2,by rw[q3.length,Xn];exact Vy (by omega),?_⟩;exact C'.nx F1 σ _ _ ((x.trans x1).wr hr0.1 hr0.2.1) (wr _ { N with ends:=N.ends++[n] } xs' ys' as' ((S.ext x1).sub.upd hr0.2.1) (fun b hb _=>Qt fun z=>hb (by rw[z];simp)) Yu (ok'.setEnds (by rw[XD];exact q3.snoc r1)) (fun b hb=>.inl hb)) hn
def R9 (c:NetC K C) (e:ρ[i]?=some (some (.own v (Za P w C N)))):Qu K (tCB (Jg K) (QE (Vs K (QD i) "ends") QO)) ρ (.int (N.ends.length:Int)):=fun H0 F σ H Q S q=>by
 obtain⟨a,dx,el,r,l,d,xs,ys,as,rfl,e1,ok,_⟩:=S.net e;obtain⟨_,ex,e2,e3⟩:=ok.ends;refine⟨_,e1,a,C,dx,_,.ref el,rfl,ok.ins.2,c.cl,c.ends,rfl,el,ex,rfl,.inl (SqL.of e2),?_⟩
 have:ex.length=N.ends.length:=by rw[e3.length,Xn]
 rw[this];exact q F H _ (Q1.refl S.sub) (.int _)
end
def Va (ls:List (KK×Int))(k:KK):Option Int:=(ls.find? fun x=>decide (x.1=k)).map (·.2)
def Yi (ls:List (KK×Int))(k:KK)(n:Int):List (KK×Int):=if (Va ls k).isSome=true then ls.map (fun x=>if x.1=k then (x.1,n) else x) else ls++[(k,n)]
theorem LaidD.val {F:Hp}(k:KK):∀{xs:List (KK×Addr×V)} {ls:List (KK×Int)},LaidD F xs ls->YJ xs k=(Va ls k).map V.int
 |_,_,.nil=>rfl
 |_,_,.cons (k:=k') h t=>by
   by_cases e:k'=k
   ·simp[YJ,Va,Xx,e]
   ·have:=t.val k
    simpa [YJ,Va,Xx,e] using this
theorem LaidD.length {F:Hp}:∀{xs:List (KK×Addr×V)} {ls:List (KK×Int)},LaidD F xs ls->xs.length=ls.length
 |_,_,.nil=>rfl
 |_,_,.cons h t=>by simp[t.length]
theorem LaidD.repl {F:Hp}(k:KK)(n:Int):∀{xs:List (KK×Addr×V)} {ls:List (KK×Int)},LaidD F xs ls->LaidD F (xs.map fun x=>if x.1=k then (x.1,x.2.1,.int n) else x) (ls.map fun x=>if x.1=k then (x.1,n) else x)
 |_,_,.nil=>.nil
 |_,_,.cons (k:=k') h t=>by
   rw[Xy,Xy];by_cases e:k'=k
   ·simp only[e,if_true]
    exact .cons (e▸h) (t.repl k n)
   ·simp only[e,if_false]
    exact .cons h (t.repl k n)
theorem LaidD.snoc {F:Hp}{k:KK}{b:Addr}(n:Int)(hb:Yc F k b):∀{xs:List (KK×Addr×V)} {ls:List (KK×Int)},LaidD F xs ls->LaidD F (xs++[(k,b,.int n)]) (ls++[(k,n)])
 |_,_,.nil=>.cons hb .nil
 |_,_,.cons h t=>.cons h (t.snoc n hb)
def LaidD.put {F:Hp}{k:KK}{b:Addr}(n:Int)(hb:Yc F k b){xs:List (KK×Addr×V)}{ls:List (KK×Int)}(t:LaidD F xs ls):LaidD F (W4 xs k b (.int n)) (Yi ls k n):=by
 unfold W4 Yi;rw[t.val k,UC];split
 ·exact t.repl k n
 ·exact t.snoc n hb
def Ch {F:Hp}{y:V}{k1 k2:List Key}(r:Rep F y (.tuple [QT k1,QT k2])):∃b,y=.ref b/\Yc F (k1,k2) b:=by
 cases r with
 |tup h rs =>
   cases rs with
   |cons r1 rs =>
     cases rs with
     |cons r2 rs =>
       cases rs
       obtain⟨p,rfl,hp⟩:=Wf r1;obtain⟨q,rfl,hq⟩:=Wf r2
       exact⟨_,rfl,p,q,h,hp,hq⟩
section
variable {K:W.Frag}{ρ:Q5}{tb te ty tx tv:TE}{D:PEnds}{i:Nat}{v:V}{P:Program}{w:World}{C:Addr}{N:Qz}{k1 k2:List Key}
def NetOk.setLaid {F H:Hp}{a dx el r l d:Addr}{xs:List (List Key×V)}{ys ys':List (KK×Addr×V)}{as:Qg}(ok:NetOk P w C N F H a dx el r l d xs ys as){ls:List (KK×Int)}(hr:LaidD F ys' ls) :
 NetOk P w C { N with laid:=ls } F (upd H d (pdO P w d ys')) a dx el r l d xs ys' as:=by
 obtain⟨nd,⟨i1,i2⟩,⟨o1,o2⟩,⟨e1,ex,e2,e3⟩,⟨r1,rx,r2,r3⟩,⟨l1,l2,l3⟩,⟨d1,d2,d3⟩⟩:=ok;have nd':=nd;simp only[XO,Xg,not_or]at nd';obtain⟨⟨a1,a2,a3,a4,a5,_⟩,⟨b1,b2,b3,b4,_⟩,⟨c1,c2,c3,c4⟩,⟨g1,g2,g3⟩,⟨h1,h2⟩,f1,_⟩:=nd'
 exact⟨nd,⟨i1,by rw[Qt a5];exact i2⟩,⟨o1,by rw[Qt b4];exact o2⟩,⟨e1,ex,by rw[Qt c3];exact e2,e3⟩,⟨r1,rx,by rw[Qt g2];exact r2,r3⟩,⟨l1,by rw[Qt h1];exact l2,l3.other f1⟩,⟨d1,QA,hr⟩⟩
def Au (c:NetC K C)(e:ρ[i]?=some (some (.own v (Za P w C N)))){n:Int}(hv:Qu K tv ρ (.int n))(hy:Qu K ty ρ (.tuple [QT k1,QT k2]))(hl:N.laid.length<1000)
 (hn:D.nx (ρ.set i (some (.own v (Za P w C { N with laid:=Yi N.laid (k1,k2) n }))))):Q0 K (K9 P w (Vs K (QD i) "laid") ty tv) ρ D:=fun F0 H0 F σ H E x S C' =>
 hv H0 F σ H _ S fun F1 H1 u x1 r1=>by
  cases r1
  obtain⟨a,dx,el,r,l,d,xs,ys,as,rfl,e1,ok,_⟩:=(S.ext x1).net e;refine⟨_,e1,a,C,dx,_,.ref d,rfl,ok.ins.2,c.cl,c.laid,rfl,hy H0 F1 σ H1 _ (S.ext x1) fun F2 H2 y x2 r2=>?_⟩;have S2:=S.ext (x1.trans x2);obtain⟨a',dx',el',r',l',d',xs',ys',as',ea,g1,ok',hp,wr⟩:=S2.net e
  cases ea
  obtain⟨rfl,rfl,rfl,rfl,rfl⟩:=ok.same ok' ((x2.hh _ _ ok.ins.2).trans ok.ins.2.symm);obtain⟨b,rfl,hb⟩:=Ch r2;obtain⟨d1,d2,d3⟩:=ok'.laid;refine⟨d',b,ys',(k1,k2),rfl,rfl,d2,d3.at S2.sub,hb.mono fun c' z ez=>S2.sub _ _ ez,by rw[d3.length];exact Vy (by omega),?_⟩;have hr0:=hp d' (by simp);exact C'.nx F2 σ _ _ ((x.trans (x1.trans x2)).wr hr0.1 hr0.2.1) (wr _ { N with laid:=Yi N.laid (k1,k2) n } xs' _ as' (S2.sub.upd hr0.2.1) (fun b' hb' _=>Qt fun z=>hb' (by rw[z];simp)) Yu (ok'.setLaid (d3.put n hb)) (fun b' hb'=>.inl hb')) hn
end
def QK (ls:List (List Key×Ql))(k:List Key):Option (Ql):=(ls.find? fun x=>decide (x.1=k)).map (·.2)
def V7:List (List Key×Ql)->List Key->Int->List (List Key×Ql)
 |[],_,_=>[]
 |(k',ns)::r,k,n=>if k'=k then (k',ns++[n])::r else (k',ns)::V7 r k n
theorem LeavD.val {F H:Hp}(k:List Key):∀{xs:List (List Key×V)} {ls:List (List Key×Ql)} {as:Qg},LeavD F H xs ls as->(Zq xs k=none/\QK ls k=none) \/
 ∃a ns,Zq xs k=some (.ref a)/\QK ls k=some ns/\a∈as/\Vj F H a (ns.map PyData.int)
 |_,_,_,.nil=>.inl ⟨rfl,rfl⟩
 |_,_,_,.cons (k:=k') (a:=a) (ns:=ns) (xs:=xs) (ls:=ls) h t=>by
   by_cases e:k'=k
   ·exact .inr ⟨a,ns,Yx e,by simp[QK,Xx,e],Xc,h⟩
   ·have q:QK ((k',ns)::ls) k=QK ls k:=by simp[QK,Xx,e]
    rw[Yv (p:=(k',V.ref a)) e,q]
    rcases t.val k with z|⟨a',ns',z1,z2,z3,z4⟩
    ·exact .inl z
    ·exact .inr ⟨a',ns',z1,z2,Xe _ z3,z4⟩
theorem LeavD.app {F H:Hp}(k:List Key){a:Addr}{n:Int}{zs:List V}:∀{xs:List (List Key×V)} {ls:List (List Key×Ql)} {as:Qg} {ns:Ql},LeavD F H xs ls as->as.Nodup->Zq xs k=some (.ref a)->QK ls k=some ns ->
 Qw F zs ((ns++[n]).map PyData.int)->LeavD F (upd H a (.lst zs)) xs (V7 ls k n) as
 |_,_,_,_,.nil,_,h,_,_=>by cases h
 |_,_,_,ns,.cons (k:=k') (a:=a') (ns:=ns') (xs:=xs) (ls:=ls) (as:=as) h t,nd,hv,he,hr=>by
   obtain⟨n1,n2⟩:=XO.mp nd;unfold V7;by_cases e:k'=k
   ·rw[Yx (p:=(k',V.ref a')) e]at hv
    have q:QK ((k',ns')::ls) k=some ns':=by simp[QK,Xx,e]
    rw[q]at he;cases hv
    cases he
    rw[Xd e];exact .cons ⟨h.1,zs,QA,hr⟩ (t.other n1)
   ·rw[Yv (p:=(k',V.ref a')) e]at hv
    have q:QK ((k',ns')::ls) k=QK ls k:=by simp[QK,Xx,e]
    rw[q]at he;rw[Xb e];have ha:a∈as:=by
     rcases t.val k with z|⟨a2,ns2,z1,z2,z3,z4⟩
     ·rw[hv]at z;cases z.1
     ·rw[hv]at z1;cases z1;exact z3
    refine .cons ?_ (t.app k n2 hv he hr);obtain⟨h1,xs',h2,h3⟩:=h;have ne:a'≠a:=fun z=>n1 (by rw[z];exact ha)
    exact⟨h1,xs',by rw[Qt ne];exact h2,h3⟩
theorem LeavD.snoc {F H:Hp}(k:List Key){a:Addr}(o:Vj F H a []):∀{xs:List (List Key×V)} {ls:List (List Key×Ql)} {as:Qg},LeavD F H xs ls as->LeavD F H (xs++[(k,.ref a)]) (ls++[(k,[])]) (as++[a])
 |_,_,_,.nil=>.cons o .nil
 |_,_,_,.cons h t=>.cons h (t.snoc k o)
theorem LeavD.length {F H:Hp}:∀{xs:List (List Key×V)} {ls:List (List Key×Ql)} {as:Qg},LeavD F H xs ls as->xs.length=ls.length
 |_,_,_,.nil=>rfl
 |_,_,_,.cons h t=>by simp[t.length]
def V5 (ls:List (List Key×Ql))(k:List Key):List (List Key×Ql):=if (QK ls k).isSome=true then ls else ls++[(k,[])]
section
variable {K:W.Frag}{ρ:Q5}{tb te ty tx tv:TE}{D:PEnds}{i:Nat}{v:V}{P:Program}{w:World}{C:Addr}{N:Qz}{k:List Key}
def NetOk.appLeav {F H:Hp}{a dx el r l d:Addr}{xs:List (List Key×V)}{ys:List (KK×Addr×V)}{as:Qg}(ok:NetOk P w C N F H a dx el r l d xs ys as){b:Addr}{ns:Ql}{n:Int}{zs:List V}
 (hv:Zq xs k=some (.ref b)) (he:QK N.leav k=some ns) (hb:b∈as) (hr:Qw F zs ((ns++[n]).map PyData.int)):NetOk P w C { N with leav:=V7 N.leav k n } F (upd H b (.lst zs)) a dx el r l d xs ys as:=by
 obtain⟨nd,⟨i1,i2⟩,⟨o1,o2⟩,⟨e1,ex,e2,e3⟩,⟨r1,rx,r2,r3⟩,⟨l1,l2,l3⟩,⟨d1,d2,d3⟩⟩:=ok;have nd':=nd;simp only[XO,Xg,not_or]at nd';obtain⟨⟨a1,a2,a3,a4,a5,a6⟩,⟨b1,b2,b3,b4,b5⟩,⟨c1,c2,c3,c4⟩,⟨g1,g2,g3⟩,⟨h1,h2⟩,f1,f2⟩:=nd';have ne:∀{x:Addr},x∉as->x≠b:=fun h z=>h (by rw[z];exact hb)
 exact⟨nd,⟨i1,by rw[Qt (ne a6)];exact i2⟩,⟨o1,by rw[Qt (ne b5)];exact o2⟩,⟨e1,ex,by rw[Qt (ne c4)];exact e2,e3⟩,⟨r1,rx,by rw[Qt (ne g3)];exact r2,r3⟩,⟨l1,by rw[Qt (ne h2)];exact l2,l3.app k f2 hv he hr⟩,⟨d1,by rw[Qt (ne f1)];exact d2,d3⟩⟩
end
section
variable {K:W.Frag}{ρ:Q5}{tb te ty tx tv:TE}{D:PEnds}{i:Nat}{v:V}{P:Program}{w:World}{C:Addr}{N:Qz}{k:List Key}
def N8 (c:NetC K C)(e:ρ[i]?=some (some (.own v (Za P w C N)))){n:Int}(h:Qu K te ρ (.int n)){ns:Ql}(he:QK N.leav k=some ns)(hz:ns.length<1000)
 (hn:D.nx (ρ.set i (some (.own v (Za P w C { N with leav:=V7 N.leav k n }))))) {F0 H0 F H:Hp} {σ:St} {E:Ends} (x:Q1 F0 H0 F H) (S:QC K H0 F ρ σ H) (C':Cnv K F0 H0 D E)
 {a dx el r l d:Addr} {xs:List (List Key×V)} {ys:List (KK×Addr×V)} {as:Qg} {al:Addr} (ok:NetOk P w C N F H a dx el r l d xs ys as) (ev:v=.ref a) (hv:Zq xs k=some (.ref al)) :
 tyV K "list" (.ref al) H/\QE te QO σ H fun vs H2=>Yb (.ref al) vs H2 fun _ H3=>E.nx σ H3:=by
 have find:∀{F H:Hp} {a dx el r l d:Addr} {xs:List (List Key×V)} {ys:List (KK×Addr×V)} {as:Qg},NetOk P w C N F H a dx el r l d xs ys as->Zq xs k=some (.ref al)->al∈as/\Vj F H al (ns.map PyData.int):=fun ok hv=>by
  rcases ok.leav.2.2.val k with z|⟨a2,ns2,z1,z2,z3,z4⟩
  ·rw[hv]at z;cases z.1
  ·rw[hv]at z1
   rw[he]at z2;cases z1
   cases z2
   exact⟨z3,z4⟩
 obtain⟨_,_,zs,hz1,_⟩:=find ok hv;refine⟨.inl ⟨rfl,_,SqL.of hz1⟩,h H0 F σ H _ S fun F1 H1 u x1 r1=>?_⟩
 cases r1
 obtain⟨a',dx',el',r',l',d',xs',ys',as',ea,g1,ok',hp,wr⟩:=(S.ext x1).net e;rw[ev]at ea;cases ea;obtain⟨rfl,rfl,rfl,rfl,rfl⟩:=ok.same ok' ((x1.hh _ _ ok.ins.2).trans ok.ins.2.symm);have el2:=ok'.leav.2.1.symm.trans (x1.hh _ _ ok.leav.2.1);injection el2 with el2;injection el2 with el2;subst el2;obtain⟨m1,m2,zs2,m3,m4⟩:=find ok' hv;have hr0:=hp al (by simp[m1]);refine⟨al,zs2,.int n,rfl,rfl,m3,by rw[m4.length,Xn];exact Vy (by omega),?_⟩
 exact C'.nx F1 σ _ _ ((x.trans x1).wr hr0.1 hr0.2.1) (wr _ { N with leav:=V7 N.leav k n } _ ys' as' ((S.ext x1).sub.upd hr0.2.1) (fun b hb _=>Qt fun z=>hb (by rw[z];simp[m1])) Yu
  (ok'.appLeav hv he m1 (by rw[XD];exact m4.snoc (.int n))) (fun b hb=>.inl hb)) hn
def RZ (ls:List (List Key×Ql))(h:QK ls k=none):QK (ls++[(k,[])]) k=some []:=by
 induction ls with
 |nil=>simp[QK]
 |cons x ls ih =>
   obtain⟨k',ns⟩:=x
   by_cases e:k'=k
   ·simp[QK,Xx,e]at h
   ·have q:QK ((k',ns)::ls) k=QK ls k:=by simp[QK,Xx,e]
    rw[q]at h;have q2:QK ((k',ns)::ls++[(k,[])]) k=QK (ls++[(k,[])]) k:=by simp[QK,Xx,e]
    rw[q2];exact ih h
def Ea (c:NetC K C)(e:ρ[i]?=some (some (.own v (Za P w C N)))){n:Int}(hy:Qu K ty ρ (QT k))(hl:N.leav.length<1000)(hz:∀ns,QK (V5 N.leav k) k=some ns->ns.length<1000)
 (h:Qu K te (ρ.set i (some (.own v (Za P w C { N with leav:=V5 N.leav k })))) (.int n)) (hn:D.nx (ρ.set i (some (.own v (Za P w C { N with leav:=V7 (V5 N.leav k) k n }))))) :
 Q0 K (VF (tBM K "list" Yb (Nl (Vs K (QD i) "leaving") ty (W5 QO)) (QE te QO))) ρ D:=fun F0 H0 F σ H E x S C'=>by
 obtain⟨a,dx,el,r,l,d,xs,ys,as,rfl,e1,ok,hp0,_⟩:=S.net e;refine⟨_,e1,a,C,dx,_,.ref l,rfl,ok.ins.2,c.cl,c.leav,rfl,l,rfl,.inr ⟨xs,Rd.of ok.leav.2.1⟩,hy H0 F σ H _ S fun F1 H1 y x1 r1=>⟨XQ _,fun p hp=>?_⟩⟩;have S1:=S.ext x1;have x2:Q1 F1 H1 F1 (upd H1 p (.lst [])):=Q1.own S1.sub hp;obtain⟨a',dx',el',r',l',d',xs',ys',as',ea,g1,ok',hp',wr⟩:=S1.net e
 cases ea
 obtain⟨rfl,rfl,rfl,rfl,rfl⟩:=ok.same ok' ((x1.hh _ _ ok.ins.2).trans ok.ins.2.symm);have hlt:i<ρ.length:=(Xh.mp e).1;obtain⟨b,rfl,hb⟩:=Wf r1;obtain⟨l1,l2,l3⟩:=ok'.leav;have np:∀q∈a::dx'::el'::r'::l'::d'::as',q≠p:=fun q hq z=>by rw[z]at hq;exact(hp' p hq).2.2 hp
 have lp:l'≠p:=np l' (by simp);have bp:b≠p:=fun z=>by rw[z]at hb;rw[S1.sub _ _ hb]at hp;cases hp
 have h0p:H0 p=none:=(x.trans x1).hh.free hp;refine⟨xs',k,b,rfl,by rw[Qt lp];exact l2,by rw[Qt bp];exact S1.sub _ _ hb,by rw[l3.length];exact Vy (by omega),fun v0 hv0=>?_,fun hv0=>?_⟩
 ·rcases l3.val k with z|⟨al,ns,z1,z2,z3,z4⟩
  ·rw[hv0]at z;cases z.1
  ·rw[hv0]at z1
   cases z1
   have ens:V5 N.leav k=N.leav:=by unfold V5;rw[z2];rfl
   rw[ens]at h hn hz;have S3:=S1.ext x2
   have ok3:NetOk P w C N F1 (upd H1 p (.lst [])) a dx' el' r' l' d' xs' ys' as':=by
    obtain⟨q0,q1,q2,q3,q4,q5,q6⟩:=ok';obtain⟨e1',ex,e2,e3⟩:=q3;obtain⟨r1',rx,r2,r3⟩:=q4
    exact⟨q0,⟨q1.1,by rw[Qt (np a (by simp))];exact q1.2⟩,⟨q2.1,by rw[Qt (np dx' (by simp))];exact q2.2⟩,⟨e1',ex,by rw[Qt (np el' (by simp))];exact e2,e3⟩,⟨r1',rx,by rw[Qt (np r' (by simp))];exact r2,r3⟩,
     ⟨q5.1,by rw[Qt lp];exact q5.2.1,q5.2.2.other fun z=>np p (by simp[z]) rfl⟩,⟨q6.1,by rw[Qt (np d' (by simp))];exact q6.2.1,q6.2.2⟩⟩
   have S4:QC K H0 F1 (ρ.set i (some (.own (.ref a) (Za P w C N)))) σ (upd H1 p (.lst [])):=wr _ N xs' ys' as' S3.sub (fun b' _ hb'=>Qt fun z=>hb' (by rw[z];exact hp)) Yu ok3 (fun b' hb'=>.inl hb');exact N8 (N:=N) c (Xr hlt) h z2 (hz ns z2) (by rw[List.set_set];exact hn) (x.trans (x1.trans x2)) S4 C' ok3 rfl hv0
 ·have z2:QK N.leav k=none:=by
   rcases l3.val k with z|⟨al,ns,z1,z2,z3,z4⟩
   ·exact z.2
   ·rw[hv0]at z1;cases z1
  have ens:V5 N.leav k=N.leav++[(k,[])]:=by unfold V5;rw[z2];rfl
  rw[ens]at h hn hz;have fp:F1 p=none:=S1.sub.free hp
  have ok3:NetOk P w C { N with leav:=N.leav++[(k,[])] } F1 (upd (upd H1 p (.lst [])) l' (.dT (xs'++[(k,.ref p)]))) a dx' el' r' l' d' (xs'++[(k,.ref p)]) ys' (as'++[p]):=by
   have ok2:=ok';obtain⟨q0,q1,q2,q3,q4,q5,q6⟩:=ok';obtain⟨e1',ex,e2,e3⟩:=q3;obtain⟨r1',rx,r2,r3⟩:=q4;have nd':=q0;simp only[XO,Xg,not_or]at nd';obtain⟨⟨a1,a2,a3,a4,a5,a6⟩,⟨b1,b2,b3,b4,b5⟩,⟨c1,c2,c3,c4⟩,⟨g1',g2,g3⟩,⟨h1,h2⟩,f1,f2⟩:=nd';have up:∀{q:Addr},q∈a::dx'::el'::r'::l'::d'::as'->q≠l'->upd (upd H1 p (.lst [])) l' (.dT (xs'++[(k,.ref p)])) q=H1 q:=fun hq ne=>by rw[Qt ne,Qt (np _ hq)]
   refine⟨?_,⟨q1.1,by rw[up (by simp) a4];exact q1.2⟩,⟨q2.1,by rw[up (by simp) b3];exact q2.2⟩,⟨e1',ex,by rw[up (by simp) c2];exact e2,e3⟩,⟨r1',rx,by rw[up (by simp) g1'];exact r2,r3⟩,⟨l1,QA,?_⟩,⟨q6.1,by rw[up (by simp) (Ne.symm h1)];exact q6.2.1,q6.2.2⟩⟩
   ·have:(a::dx'::el'::r'::l'::d'::(as'++[p]))=(a::dx'::el'::r'::l'::d'::as')++[p]:=by simp
    rw[this,List.nodup_append];refine⟨q0,by simp,fun u hu t ht=>?_⟩
    cases Xi.mp ht
    exact np u hu
   ·refine LeavD.snoc k ⟨fp,[],by rw[Qt (Ne.symm lp),QA],.nil⟩ ?_
    exact(l3.other fun z=>np p (by simp[z]) rfl).other h2
  have S4:QC K H0 F1 (ρ.set i (some (.own (.ref a) (Za P w C { N with leav:=N.leav++[(k,[])] })))) σ (upd (upd H1 p (.lst [])) l' (.dT (xs'++[(k,.ref p)]))) :=
   wr _ _ _ ys' (as'++[p]) ((S1.sub.upd fp).upd l1) (fun b' hb1 hb2=>by rw[Qt (fun z=>hb1 (by rw[z];simp)),Qt (fun z=>hb2 (by rw[z];exact hp))]) (fun b' hb'=>Yu b' (Yu b' hb')) ok3 (fun b' hb'=>by
    rcases XH.mp hb' with z|z
    ·exact .inl z
    ·cases Xi.mp z;exact .inr ⟨hp,h0p⟩)
  have hl0:=hp' l' (by simp)
  exact N8 (N:={ N with leav:=N.leav++[(k,[])] }) c (Xr hlt) h (RZ _ z2) (hz [] (RZ _ z2)) (by rw[List.set_set];exact hn) ((x.trans (x1.trans x2)).wr hl0.1 hl0.2.1) S4 C' ok3 rfl (by
   rw[RL k k (.ref p) xs' hv0,Xd rfl])
end
end L2
section
namespace L2
open PySem PySem.Spec PyProof.Rows
structure KTup (K:W.Frag)(g:Addr)(x:Str):Prop where
 ex:∃(d:Qj) (t:Nat) (n:Nat) (sl:Array (Qf)),K.lookup g=some ⟨.type "tuple",d,.seq #[.str x t] n,sl⟩
def AS {P:Program}{w:World}{K:W.Frag}{mg mb:Str->Qf}{k:Nat}{fa a gS gE:Addr}{fd:FuncData}{x:Str}{sp:Sp}{b9:Shared}{vs:Qe}{ns:Ql}
 (KX:K.In b9.heap) (hns:b9.heap.Ns mainGlobals mg) (hb:b9.heap.Ns builtinsNs mb) (hbb:∀x:Str,x ≠ "__name__" -> mb x=bootBuiltins x) (hlim:b9.heap.NoLimit) (hg:b9.gens=#[])
 (ha:b9.heap.get? a=some { cls:=.type "list",data:=.seq vs.toArray }) (hi:IntsAre vs ns) (hl:ns.length<=sizeLine) (hr:Room k callerA) (tS:KTup K gS "start") (tE:KTup K gE "end")
 (F:∀base:Heap,K.In base->base.Ns mainGlobals mg->FnOk P w K mg base CX0 k fa fd [x] sp) (hbind:∀(s:Shared) (u:Value),BindsTo s fd ⟨[u],[]⟩ [(x,u)])
 (hsp:∀H:Hp,SqL K H a (ns.map V.int)->H gS=some (.tup [.str "start"])->H gE=some (.tup [.str "end"])->sp [.ref a] H (fun v _=>v=.bl true) fun _ _ _=>False) :
 codeAny (model P w) callerA (.call (.ref fa) ⟨[.ref a],[]⟩) (fun r s'=>r=.ok (.ret (.bool true))/\OldK b9.heap s'.heap/\s'.os=b9.os/\AllBare s'.gens) b9:=by
 have rv:=RI hi;have lenV:=hi.length;obtain⟨dS,kS,cS,slS,lS⟩:=tS.ex;obtain⟨dE,kE,cE,slE,lE⟩:=tE.ex;have hS0:=KX gS _ lS;have hE0:=KX gE _ lE
 have naS:gS≠a:=fun z=>by
  rw[z,ha]at hS0;injection hS0 with z1;injection z1 with z2;injection z2 with z3;exact Xl z3 (by decide)
 have naE:gE≠a:=fun z=>by
  rw[z,ha]at hE0;injection hE0 with z1;injection z1 with z2;injection z2 with z3;exact Xl z3 (by decide)
 have nSE:gE≠gS:=fun z=>by
  rw[z,lS]at lE;injection lE with z1;injection z1 with _ _ z2 _;injection z2 with z3 _;have z4:=XW Array.toList z3;simp only[List.cons.injEq,Value.str.injEq,and_true]at z4;exact Xl z4.1 (by decide)
 have core:∀Hs:Hp,SV Hs->SqL K Hs a (ns.map V.int)->HOk P w Hs b9.heap->(∀b,Hs b≠none->b=a)->(Hs a≠none->K.lookup a=none) ->
  codeAny (model P w) callerA (.call (.ref fa) ⟨[.ref a],[]⟩) (fun r s'=>r=.ok (.ret (.bool true))/\OldK b9.heap s'.heap/\s'.os=b9.os/\AllBare s'.gens) b9:=by
  intro Hs hO hSq hok hA hK;have fS:Hs gS=none:=by
   cases q:Hs gS with
   |none=>rfl
   |some u=>exact Xl (hA gS (by rw[q];simp)) naS
  have fE:Hs gE=none:=by
   cases q:Hs gE with
   |none=>rfl
   |some u=>exact Xl (hA gE (by rw[q];simp)) naE
  have base_of:∀{b:Addr} {o:Obj},b9.heap.get? b=some o->Hs b=none->(Wp b9.heap Hs).get? b=some o:=fun e n=>FK e n
  have noA:∀{b:Addr} {o:Obj} {es:Array DictEntry} {ep:Nat},b9.heap.get? b=some o->o.data=.dict es ep->Hs b=none:=fun{b o es ep} e d=>by
   cases q:Hs b with
   |none=>rfl
   |some u =>
     have e':b=a:=hA b (by rw[q];simp);subst e';rw[ha]at e;cases e;have d':Data.seq vs.toArray _=Data.dict es ep:=d
     cases d'
  have nsK:∀{b:Addr} {m:Str->Qf},b9.heap.Ns b m->(Wp b9.heap Hs).Ns b m:=fun{b m} ⟨o,es,ep,e,d,r⟩=>⟨o,es,ep,base_of e (noA e d),d,r⟩
  have hKb:K.In (Wp b9.heap Hs):=fun b o e=>base_of (KX b o e) (by
   cases q:Hs b with
   |none=>rfl
   |some u =>
     have e':b=a:=hA b (by rw[q];simp);subst e';rw[hK (by rw[q];simp)]at e;cases e)
  have hM:Mod K mg (Wp b9.heap Hs):=⟨hKb,nsK hns,⟨mb,nsK hb,hbb⟩,let ⟨mc,h1,h2⟩:=hlim;⟨mc,nsK h1,h2⟩⟩
  let H:Hp:=upd (upd Hs gS (.tup [.str "start"])) gE (.tup [.str "end"])
  have hHS:H gS=some (.tup [.str "start"]):=by show upd _ _ _ gS=_;rw[Qt (Ne.symm nSE),QA]
  have hHE:H gE=some (.tup [.str "end"]):=QA;have hHo:∀b,b≠gS->b≠gE->H b=Hs b:=fun b h1 h2=>by show upd _ _ _ b=_;rw[Qt h2,Qt h1]
  have sm:Q4 Hs H:=fun b u e=>by
   rw[hHo b (fun z=>by rw[z,fS]at e;cases e) (fun z=>by rw[z,fE]at e;cases e)];exact e
  have l1:∀x:Str,[V.str x].length<=sizeLine:=fun _=>Yn (Vy Wo)
  have hokH:HOk P w H b9.heap:=fun b u e=>by
   by_cases h1:b=gS
   ·subst h1
    rw[hHS]at e;cases e
    exact⟨l1 _,[.str "start" kS],.cons ⟨kS,rfl⟩ .nil,⟨_,hS0,rfl,_,rfl⟩⟩
   ·by_cases h2:b=gE
    ·subst h2
     rw[hHE]at e;cases e
     exact⟨l1 _,[.str "end" kE],.cons ⟨kE,rfl⟩ .nil,⟨_,hE0,rfl,_,rfl⟩⟩
    ·rw[hHo b h1 h2]at e
     rcases hO b with z|⟨o,xs,z⟩
     ·rw[z]at e;cases e
     ·rw[z]at e
      cases e
      obtain⟨q1,q2⟩:=hok b _ z
      exact⟨q1,q2⟩
  have e0:Env0 P w K mg (Wp b9.heap Hs) callerA [] b9 H:=⟨rfl,hM,fun b o e=>by
   obtain⟨e1,e2⟩:=Lh e;refine⟨e1,?_⟩
   by_cases h1:b=gS
   ·exact .inr ⟨_,by rw[h1];exact hHS⟩
   ·by_cases h2:b=gE
    ·exact .inr ⟨_,by rw[h2];exact hHE⟩
    ·exact .inl (by rw[hHo b h1 h2];exact e2),Nat.le_of_eq (Cq _ _),trivial,fun b hb=>Xl (show b∈([]:Qg) from hb) (by simp),hokH,.of_eq hg⟩
  refine codeAny_mono ((F _ hKb (nsK hns)).run callerA [] b9 H ⟨[.ref a],[]⟩ [.ref a] [.ref a] _ _ hr e0 (hbind b9 (.ref a)) (.cons rfl .nil) (hsp H (sm.seq hSq) hHS hHE)) fun r s' h=>?_
  cases r with
  |error e=>exact False.elim h
  |ok fl =>
    cases fl with
    |next=>exact False.elim h
    |brk=>exact False.elim h
    |cont=>exact False.elim h
    |ret u =>
      obtain⟨v,H',os,bare,un,hok',r',q⟩:=h;have q':v=.bl true:=q;subst q';obtain rfl:u=Value.bool true:=r';refine⟨rfl,OldK.of_keep fun b o e=>?_,os,bare⟩
      by_cases h1:b=gS
      ·subst h1
       exact un.tupo b _ o hHS e (by simp)
      ·by_cases h2:b=gE
       ·subst h2
        exact un.tupo b _ o hHE e (by simp)
       ·rcases hO b with z|⟨ob,xs,z⟩
        ·exact un.keep b o e (by rw[hHo b h1 h2];exact z) (by intro z;exact Xl (show b∈([]:Qg) from z) (by simp)) (by simp)
        ·have z2:=un.frzs b ob _ (by rw[hHo b h1 h2];exact z)
         obtain⟨e1,_⟩:=hok b _ z;obtain⟨e2,_⟩:=hok' b _ z2;rw[e]at e1;cases e1;exact e2
 cases hk:K.lookup a with
 |some o =>
   have e:=KX a o hk;rw[ha]at e;cases e;refine core (fun _=>none) (fun _=>.inl rfl) (.inr ⟨_,vs.toArray,_,hk,rfl,rfl,rfl,by rw[Xv,lenV];exact hl,by simpa using rv⟩) (fun b u z=>by have z':(none:Option HO)=some u:=z;cases z') (fun b z=>Xl rfl z) fun z=>Xl rfl z
 |none =>
   refine core (fun b=>if b=a then some (.frz { cls:=.type "list",data:=.seq vs.toArray } (.lst (ns.map V.int))) else none) (fun b=>?_) (.inl (.inr ⟨{ cls:=.type "list",data:=.seq vs.toArray },Xd rfl⟩)) (fun b u z=>?_) (fun b z=>?_) fun _=>hk
   ·by_cases hb:b=a
    ·exact .inr ⟨_,_,Xd hb⟩
    ·exact .inl (Xb hb)
   ·by_cases hb:b=a
    ·have z':=(Xd hb).symm.trans z
     cases z'
     subst hb;exact⟨ha,by rw[Xn];exact hl,vs,_,rv,ha⟩
    ·have z':=(Xb hb).symm.trans z
     cases z'
   ·by_cases hb:b=a
    ·exact hb
    ·exact Xl (Xb hb) z
def Zmw {l:W.OpenLaw}{k:Nat}{q:Program}{loose:Qh}{XP:(Str->Qf)->Heap->Prop}{YP:World->Heap->Prop}{d:DefRec}{K:Params->W.Frag}{x:Str}
 (hn:l.most=some 63) (hdf:d.params.defaults=[]) (hr:Room k callerA)
 (hY:∀(w:World) (h:Heap),YP w h->(K w.params).In h)
 (F:∀(w:World) (mg:Str->Qf) (fa:Addr) (h:Heap),(K w.params).In h->h.Ns mainGlobals mg->mg d.name=some (.ref fa) ->
  (∃gS gE,W.nsIn (K w.params) mainGlobals "START"=some (some (.ref gS))/\W.nsIn (K w.params) mainGlobals "END"=some (some (.ref gE))/\KTup (K w.params) gS "start" /\ KTup (K w.params) gE "end") /\
  ∃fd:FuncData,(∀(s:Shared) (u:Value),BindsTo s fd ⟨[u],[]⟩ [(x,u)]) /\
   ∀base:Heap,(K w.params).In base->base.Ns mainGlobals mg->FnOk l.prog w (K w.params) mg base CX0 k fa fd [x] (Bi (K w.params))) :
 W.WalkO q loose XP YP l.row.toRowW d [] (fun f vs=>PySem.call f vs):=by
 refine Att.attach_callW hn hdf fun w s₀ b9 mg mb fa o pm cd doc a vs ns G Y ho hd hcd hmg hobj hints hlen hbits hg=>?_
 have KX:=hY w _ Y;obtain⟨⟨gS,gE,n1,n2,t1,t2⟩,fd,hb,hF⟩:=F w mg fa _ KX G.T.g hmg;exact AS KX G.T.g G.T.b G.T.builtins G.T.nolimit hg hobj hints (X7 hlen (by decide)) hr t1 t2 hF hb (fun H hS h1 h2=>⟨a,ns,rfl,⟨gS,gE,n1,n2,h1,h2⟩,⟨hS,hlen,hbits⟩,fun _=>rfl⟩)
def D9 {K:W.Frag} {ρ:Q5} {g:Addr} (a:W.nsIn K mainGlobals "START"=some (some (.ref g))):Qu K (tC (.ref g)) ρ (QT [.inr "start"]):=fun H0 F σ H Q S q=>by
 obtain⟨gS,gE,h1,h2,h3,h4⟩:=S.kt;rw[h1]at a;cases a;exact q F H _ (Q1.refl S.sub) (.tup h3 (.cons (.str _) .nil))
def Nh {K:W.Frag} {ρ:Q5} {g:Addr} (a:W.nsIn K mainGlobals "END"=some (some (.ref g))):Qu K (tC (.ref g)) ρ (QT [.inr "end"]):=fun H0 F σ H Q S q=>by
 obtain⟨gS,gE,h1,h2,h3,h4⟩:=S.kt;rw[h2]at a;cases a;exact q F H _ (Q1.refl S.sub) (.tup h4 (.cons (.str _) .nil))
def TR {A:Around}{k:Nat}(hr:Room k A):A.units+6<cLine:=BQ (Nat.add_le_add_left (by decide:6<=64) _) hr.units
def No (tk tv:TE):TE:=fun σ H Q=>∀p,H p=none->tk σ (upd H p (.dT [])) fun x H1=>tv σ H1 fun y H2=>∃k b,x=.ref b/\H2 p=some (.dT [])/\H2 b=some (.tup (k.map kV))/\Q (.ref p) (upd H2 p (.dT [(k,y)]))
def Fq {X:Cx}{pos:Pos}{ke ve:Expr}{tk tv:TE}(hu:X.A.units+1<cLine)(hk:PE X ke tk)(hv:PE X ve tv):PE X (.Dict [some ke] [ve] pos) (No tk tv):=by
 intro XaR s σ H Q I q;have hn:=I.hok.fresh (Xq s.heap.objs.size);have I1:=I.laid (a:=s.heap.objs.size) (o:=.dT []) (h':=s.heap.push { cls:=.type "dict",data:=.dict #[] }) (t':=s.toks) (fun _ _ q=>Xf _ q) (Xq _) (Rk s.heap I.big);refine wpAny_Dict_any rfl rfl (by simp) (by show(1:Nat)<=15;decide) (pairTrees_cons_walk (Q6 (hk XaR _ σ _ _ I1 (q _ hn)) fun kv s1 ⟨x,H1,I2,rx,q1⟩=>Q6 (hv XaR s1 σ H1 _ I2 q1) fun vv s2 ⟨y,H2,I3,ry,k,b,ex,e,eb,q2⟩=>pairTrees_nil_walk ?_));subst ex;obtain rfl:kv=Value.ref b:=rx;obtain⟨z,hd,xs,rel,dd⟩:=Mv I3.hok e;have hx:xs=[]:=by cases rel;rfl
 subst hx;unfold storeAll;rw[List.forIn_cons];refine Xa (Xa (wpAny_dictSet_heap (hsz:=XQ _) (knd:=tupleKind (Vc X.prog X.w)) (show X.A.units<cLine by omega) (YX I3.hok eb) dd fun h' dd' hs=>Xk ?_));obtain⟨q',es,ep,hq,g2,g3,g4,_,g5⟩:=dd';show wpAny _ _ (forIn [] PUnit.unit _) _ _ _;rw[List.forIn_nil];refine Xk ⟨.ref s.heap.objs.size,upd H2 s.heap.objs.size (.dT [(k,y)]),Go (ob:=.dT [(k,y)]) I3 (by rw[e];exact True.intro) hs ⟨q',hq⟩ ⟨Yn (Vy Wo),hd,_,(show KT H2 [(k,y)] [(k,b,vv)] from .cons ⟨rfl,eb,ry⟩ .nil).keeps fun c ys ec=>?_,q',es,ep,hq,g2,g3,g4,g5⟩,rfl,q2⟩;rw[Qt (fun z=>by subst z;rw[e]at ec;cases ec)];exact ec
def Fx {K:W.Frag}{ρ:Q5}{tk tv:TE}{k:List Key}{d:PyData}(hk:Qu K tk ρ (QT k))(hv:Qu K tv ρ d):EvX K (No tk tv) ρ (Vq [(k,d)]):=fun H0 F σ H Q S q=>fun p hp=>by
 have x0:Q1 F H F (upd H p (.dT [])):=Q1.own S.sub hp;have f0:F p=none:=S.sub.free hp;refine hk H0 F σ _ _ (S.ext x0) fun F1 H1 x x1 r1=>hv H0 F1 σ H1 _ (S.ext (x0.trans x1)) fun F2 H2 y x2 r2=>?_;obtain⟨b,rfl,hb⟩:=Wf r1;have X:=x1.trans x2;have hp2:H2 p=some (.dT []):=X.hh _ _ QA;have fp2:F2 p=none:=X.free f0 (by rw[QA];exact fun z=>nomatch z);have X':=x0.trans X;refine⟨k,b,rfl,hp2,X.fh _ _ (x2.ff _ _ hb),q F2 _ (.ref p) [p] (X'.wr hp fp2) (fun a ha=>by cases Xi.mp ha;exact hp) ⟨p,_,rfl,rfl,fp2,QA,.cons r2 .nil⟩⟩
inductive LeavZ (F:Hp):List (List Key×V)->List (List Key×Ql)->Prop
 |nil:LeavZ F [] []
 |cons {k:List Key} {a:Addr} {ns:Ql} {zs:List V} {xs:List (List Key×V)} {ls:List (List Key×Ql)}:F a=some (.lst zs)->Qw F zs (ns.map PyData.int)->LeavZ F xs ls->LeavZ F ((k,.ref a)::xs) ((k,ns)::ls)
theorem LeavZ.mono {F F':Hp}(s:Q4 F F'):∀{xs:List (List Key×V)} {ls:List (List Key×Ql)},LeavZ F xs ls->LeavZ F' xs ls
 |_,_,.nil=>.nil
 |_,_,.cons h r t=>.cons (s _ _ h) (r.mono s) (t.mono s)
theorem LeavZ.val {F:Hp}(k:List Key):∀{xs:List (List Key×V)} {ls:List (List Key×Ql)},LeavZ F xs ls->(Zq xs k=none/\QK ls k=none)\/∃a ns zs,Zq xs k=some (.ref a)/\QK ls k=some ns/\F a=some (.lst zs)/\Qw F zs (ns.map PyData.int)
 |_,_,.nil=>.inl ⟨rfl,rfl⟩
 |_,_,.cons (k:=k') (a:=a) (ns:=ns) (zs:=zs) (xs:=xs) (ls:=ls) h r t=>by
   by_cases e:k'=k
   ·exact .inr ⟨a,ns,zs,Yx e,by simp[QK,Xx,e],h,r⟩
   ·have q:QK ((k',ns)::ls) k=QK ls k:=by simp[QK,Xx,e]
    rw[Yv (p:=(k',V.ref a)) e,q];exact t.val k
theorem LeavD.fz {F F' H:Hp}(s:Q4 F F'):∀{xs:List (List Key×V)} {ls:List (List Key×Ql)} {as:Qg},LeavD F H xs ls as->(∀b∈as,F' b=H b)->LeavZ F' xs ls
 |_,_,_,.nil,_=>.nil
 |_,_,_,.cons h t,he=>by
   obtain⟨h1,xs,h2,h3⟩:=h;exact .cons (by rw[he _ Xc];exact h2) (h3.mono s) (t.fz s fun b hb=>he b (Xe _ hb))
structure NetFz (P:Program)(w:World)(C:Addr)(N:Qz)(F:Hp)(a dx e r l d:Addr)(xs:List (List Key×V))(ys:List (KK×Addr×V)):Prop where
 ins:F a=some (.ins C dx [("ends",.ref e),("rooms",.ref r),("leaving",.ref l),("laid",.ref d)])
 ends:∃ex,F e=some (.lst ex)/\Qw F ex (N.ends.map QT)
 rooms:∃rx,F r=some (.lst rx)/\Qw F rx (N.rooms.map PyData.int)
 leav:F l=some (.dT xs)/\LeavZ F xs N.leav
 laid:F d=some (pdO P w d ys)/\LaidD F ys N.laid
def NetFz.mono {P:Program}{w:World}{C:Addr}{N:Qz}{F F':Hp}{a dx e r l d:Addr}{xs:List (List Key×V)}{ys:List (KK×Addr×V)}(s:Q4 F F')(h:NetFz P w C N F a dx e r l d xs ys):NetFz P w C N F' a dx e r l d xs ys:=by
 obtain⟨h1,⟨ex,h2,h3⟩,⟨rx,h4,h5⟩,⟨h6,h7⟩,⟨h8,h9⟩⟩:=h
 exact⟨s _ _ h1,⟨ex,s _ _ h2,h3.mono s⟩,⟨rx,s _ _ h4,h5.mono s⟩,⟨s _ _ h6,h7.mono s⟩,⟨s _ _ h8,h9.mono s⟩⟩
def Vt (P:Program)(w:World)(C:Addr)(N:Qz):ZP where
 ok K F v := ∃a dx e r l d xs ys,v=.ref a/\NetFz P w C N F a dx e r l d xs ys
 mono:=by
  rintro K F F' v s ⟨a,dx,e,r,l,d,xs,ys,rfl,h⟩
  exact⟨a,dx,e,r,l,d,xs,ys,rfl,h.mono s⟩
def NetOk.fz {P:Program}{w:World}{C:Addr}{N:Qz}{F F' H:Hp}{a dx el r l d:Addr}{xs:List (List Key×V)}{ys:List (KK×Addr×V)}{as:Qg}(ok:NetOk P w C N F H a dx el r l d xs ys as)(s:Q4 F F')(he:∀b∈a::dx::el::r::l::d::as,F' b=H b) :
 NetFz P w C N F' a dx el r l d xs ys:=by
 obtain⟨nd,⟨i1,i2⟩,⟨o1,o2⟩,⟨e1,ex,e2,e3⟩,⟨r1,rx,r2,r3⟩,⟨l1,l2,l3⟩,⟨d1,d2,d3⟩⟩:=ok
 exact⟨by rw[he _ (by simp)];exact i2,⟨ex,by rw[he _ (by simp)];exact e2,e3.mono s⟩,⟨rx,by rw[he _ (by simp)];exact r2,r3.mono s⟩,⟨by rw[he _ (by simp)];exact l2,l3.fz s fun b hb=>he b (by simp[hb])⟩,⟨by rw[he _ (by simp)];exact d2,d3.mono s⟩⟩
def Za.fz {P:Program}{w:World}{C:Addr}{N:Qz}{K:W.Frag}{F F' H:Hp}{v:V}{p:Qg}(h:(Za P w C N).ok K F H v p)(s:Q4 F F')(he:∀b∈p,F' b=H b):(Vt P w C N).ok K F' v:=by
 obtain⟨a,dx,e,r,l,d,xs,ys,as,rfl,rfl,o⟩:=h
 exact⟨a,dx,e,r,l,d,xs,ys,rfl,o.fz s he⟩
def Jh (kvs:ZL):ZP where
 ok K F v := ∃a xs,v=.ref a/\F a=some (.dT xs)/\PairD F xs kvs
 mono:=by
  rintro K F F' v s ⟨a,xs,rfl,h1,h2⟩
  exact⟨a,xs,rfl,s _ _ h1,h2.mono s⟩
def Vq.fz {kvs:ZL}{K:W.Frag}{F F' H:Hp}{v:V}{p:Qg}(h:(Vq kvs).ok K F H v p)(s:Q4 F F')(he:∀b∈p,F' b=H b):(Jh kvs).ok K F' v:=by
 obtain⟨a,xs,rfl,rfl,h1,h2,h3⟩:=h
 exact⟨a,xs,rfl,by rw[he a Xc];exact h2,h3.mono s⟩
section
variable {K:W.Frag}{ρ:Q5}{D:PEnds}
def QC.freezeZ {H0 F H:Hp}{σ:St}{i:Nat}{v:V}{Φ:OwnP}{Ψ:ZP}(s:QC K H0 F ρ σ H)(e:ρ[i]?=some (some (.own v Φ)))
 (hz:∀{F F' H:Hp} {u:V} {p:Qg},Φ.ok K F H u p->Q4 F F'->(∀b∈p,F' b=H b)->Ψ.ok K F' u) :
 ∃p,(∀a∈p,F a=none/\H a≠none/\H0 a=none)/\QC K H0 (frF F H p) (ρ.set i (some (.zow Ψ))) σ H:=by
 obtain⟨kt,h1,h2,fp,h3,h4,h5⟩:=s;obtain⟨u,e1,rfl,ok⟩:=h3 i _ e;have hlt:=(Xh.mp e).1;have th:=fun a ha=>Φ.there ok a ha;have sm:Q4 F (frF F H (fp i)):=Wd fun a ha=>(th a ha).1;refine⟨fp i,fun a ha=>⟨(th a ha).1,(th a ha).2,(h5 i a ha).1⟩,kt.mono sm,Gx h1,by simp[h2],fun j=>if j=i then [] else fp j,fun j t' e'=>?_,fun j k b hb hc=>?_,fun j b hb=>?_⟩
 ·by_cases hj:j=i
  ·subst hj
   rw[Xr hlt]at e';cases e';refine⟨_,e1,?_,hz ok sm fun b hb=>YV hb⟩;dsimp only;rw[Xd rfl]
  ·rw[Xw (Ne.symm hj)]at e'
   obtain⟨u',f1,f2⟩:=h3 j t' e';refine⟨u',f1,?_⟩;dsimp only;rw[Xb hj];exact f2.frOther sm fun a ha z=>hj (h4 j i a ha z)
 ·by_cases hj:j=i
  ·simp[hj]at hb
  ·by_cases hk:k=i
   ·simp[hk]at hc
   ·simp only[Xb hj]at hb
    simp only[Xb hk]at hc;exact h4 j k b hb hc
 ·by_cases hj:j=i
  ·simp[hj]at hb
  ·simp only[Xb hj]at hb
   exact h5 j b hb
def TJ {t:TS}(i:Nat){v:V}{Φ:OwnP}{Ψ:ZP}(e:ρ[i]?=some (some (.own v Φ)))(hz:∀{F F' H:Hp} {u:V} {p:Qg},Φ.ok K F H u p->Q4 F F'->(∀b∈p,F' b=H b)->Ψ.ok K F' u)
 (h:Q0 K t (ρ.set i (some (.zow Ψ))) D):Q0 K t ρ D:=fun F0 H0 F σ H E x S C=>by
 obtain⟨p,hp,S'⟩:=S.freezeZ e hz;refine h F0 H0 _ σ H E ⟨x.hh,x.ff.trans (Wd fun a ha=>(hp a ha).1),S'.sub,fun a ha=>?_⟩ S' C
 by_cases z:a∈p
 ·exact .inr (hp a z).2.2
 ·rw[YA z]at ha;exact x.fr a ha
def Rt {t:TS}{kvs:ZL}{v:V}(i:Nat)(e:ρ[i]?=some (some (.own v (Vq kvs))))(h:Q0 K t (ρ.set i (some (.zow (Jh kvs)))) D):Q0 K t ρ D:=TJ i e (fun a b c=>Vq.fz a b c) h
def Zt (K:W.Frag)(t:TE)(ρ:Q5)(Φ:OT->Prop):Prop := ∀(H0 F:Hp) (σ:St) (H:Hp) (Q:VK),QC K H0 F ρ σ H->(∀F' H' v p r,Φ r->Q1 F H F' H'->(∀a∈p,H a=none)->Zk K F' H' v r p->Q v H')->t σ H Q
def EvO.d {t:TE}{r:OT}{Φ:OT->Prop}(h:EvO K t ρ r)(hr:Φ r):Zt K t ρ Φ:=fun H0 F σ H Q S q=>h H0 F σ H Q S fun F' H' v p x hp ok=>q F' H' v p r hr x hp ok
def Zt.imp {t:TE}{Φ Φ':OT->Prop}(h:Zt K t ρ Φ)(hi:∀r,Φ r->Φ' r):Zt K t ρ Φ':=fun H0 F σ H Q S q=>h H0 F σ H Q S fun F' H' v p r hr=>q F' H' v p r (hi r hr)
def Zt.o {t:TE}{r:OT}(h:Zt K t ρ (fun r'=>r'=r)):EvO K t ρ r:=fun H0 F σ H Q S q=>h H0 F σ H Q S fun F' H' v p r' e x hp ok=>by subst e;exact q F' H' v p x hp ok
def EvX.d {t:TE}{Φ0:OwnP}{Φ:OT->Prop}(h:EvX K t ρ Φ0)(hr:∀v,Φ (.own v Φ0)):Zt K t ρ Φ:=fun H0 F σ H Q S q=>h H0 F σ H Q S fun F' H' v p x hp ok=>q F' H' v p (.own v Φ0) (hr v) x hp ⟨rfl,ok⟩
def WJ {te:TE}{i:Nat}{Φ:OT->Prop}(h:Zt K te ρ Φ)(hn:∀r,Φ r->D.nx (ρ.set i (some r))):Q0 K (ZS te (ZW i)) ρ D:=fun F0 H0 F σ H E x S C =>
 h H0 F σ H _ S fun F' H' v p r hr x' hp ok=>by
  refine C.nx F' _ H' _ (x.trans x') ((S.ext x').set ok (fun a ha=>x.hh.free (hp a ha)) (hn:=fun a ha j w t' q e1 e2 ok'=>?_)) (hn r hr);obtain⟨fp,g1,g2,g3⟩:=S.fp;obtain⟨w',f1,f2⟩:=g1 j t' e1;intro hq;have f3:=f2.ext x';rw[e2]at f1;cases f1
  exact(g3 j a (GA (K:=K) f3 ok' a hq)).2 (hp a ha)
def TB {te:TE}{Φ:OT->Prop}(h:Zt K te ρ Φ)(hr:∀r,Φ r->D.rt r):Q0 K (Y2 te) ρ D:=fun F0 H0 F σ H E x S C =>
 h H0 F σ H _ S fun F' H' v p r e x' hp ok=>C.rt F' H' v r p (x.trans x') (fun a ha=>x.hh.free (hp a ha)) ok (hr r e)
def Da {i:Nat}{v:V}{Φ:OwnP}(e:ρ[i]?=some (some (.own v Φ)))(hr:D.rt (.own v Φ)):Q0 K (Y2 (QD i)) ρ D:=fun F0 H0 F σ H E x S C=>by
 obtain⟨fp,h,_,h5⟩:=S.fp;obtain⟨u,e1,e2⟩:=h i _ e
 exact⟨_,e1,C.rt F H u (.own v Φ) (fp i) x (fun a ha=>(h5 i a ha).1) e2 hr⟩
def Jj (r:OT):Prop := ∀(K:W.Frag) (F F' H:Hp) (v:V) (p:Qg),(∀a∈p,F' a=none)->Zk K F H v r p->Zk K F' H v r p
def Rep.thin {F F':Hp}{v w:V}{d:PyData}(r:Rep F v d)(h:Vl d=some w):Rep F' v d:=by
 cases r<;>simp[Vl]at h
 ·exact .non
 ·exact .bl _
 ·exact .int _
 ·exact .str _
def B8 {d:PyData}{w:V}(h:Vl d=some w):Jj (.fz d):=fun K F F' H v p _ ok=>⟨ok.1,ok.2.thin h⟩
def NC {ds:Qd}(h:Uv ds):Jj (.ol ds):=fun K F F' H v p hp ok=>by
 obtain⟨a,rfl,rfl,h1,xs,h2,h3⟩:=ok
 exact⟨a,rfl,rfl,hp a Xc,xs,h2,h3.flats h⟩
def MR (kvs:ZL):Prop := ∀x∈kvs,∃w,Vl x.2=some w
theorem PairD.flats {F F':Hp}:∀{xs:List (List Key×V)} {kvs:ZL},MR kvs->PairD F xs kvs->PairD F' xs kvs
 |_,_,_,.nil=>.nil
 |_,_,h,.cons r t=>by
   obtain⟨w,e⟩:=h _ Xc;exact .cons (r.thin e) (t.flats fun x hx=>h x (Xe _ hx))
def C7 {kvs:ZL}{v:V}(h:MR kvs):Jj (.own v (Vq kvs)):=fun K F F' H u p hp ok=>by
 obtain⟨e,a,xs,rfl,rfl,h1,h2,h3⟩:=ok
 exact⟨e,a,xs,rfl,rfl,hp a Xc,h2,h3.flats h⟩
def Ro {t:TE}{v:V}{Φ0:OwnP}{Ψ:ZP}{Φ:OT->Prop}(i:Nat)(e:ρ[i]?=some (some (.own v Φ0)))(hz:∀{F F' H:Hp} {u:V} {p:Qg},Φ0.ok K F H u p->Q4 F F'->(∀b∈p,F' b=H b)->Ψ.ok K F' u)
 (hf:∀r,Φ r->Jj r) (h:Zt K t (ρ.set i (some (.zow Ψ))) Φ):Zt K t ρ Φ:=fun H0 F σ H Q S q=>by
 obtain⟨p,hp,S'⟩:=S.freezeZ e hz;refine h H0 _ σ H Q S' fun F' H' u pp r hr x hpp ok=>?_;refine q _ H' u pp r hr (G2 (fun a ha=>⟨(hp a ha).1,(hp a ha).2.1⟩) x) hpp (hf r hr K F' _ H' u pp (fun a ha=>?_) ok)
 by_cases z:a∈p
 ·show(if a∈p then none else F' a)=none
  rw[Xd z]
 ·show(if a∈p then none else F' a)=none
  rw[Xb z];exact(ok.there a ha).1
def Hm {t:TE}{P:Program}{w:World}{C:Addr}{N:Qz}{v:V}{Φ:OT->Prop}(i:Nat)(e:ρ[i]?=some (some (.own v (Za P w C N))))(hf:∀r,Φ r->Jj r)(h:Zt K t (ρ.set i (some (.zow (Vt P w C N)))) Φ):Zt K t ρ Φ :=
 Ro i e (fun a b c=>Za.fz a b c) hf h
def Eh {t:TE}{P:Program}{w:World}{C:Addr}{N:Qz}{v:V}{d:PyData}{u:V}(i:Nat)(e:ρ[i]?=some (some (.own v (Za P w C N))))(hf:Vl d=some u)(h:Qu K t (ρ.set i (some (.zow (Vt P w C N)))) d):Qu K t ρ d :=
 EvO.e (Zt.o (Hm (Φ:=fun r=>r=.fz d) i e (fun r hr=>by subst hr;exact B8 hf) (h.o.d rfl)))
section
variable {tb te ty tx:TE}{i:Nat}{P:Program}{w:World}{C:Addr}{N:Qz}{k:List Key}
def QC.netz {H0 F H:Hp}{σ:St}(S:QC K H0 F ρ σ H)(e:ρ[i]?=some (some (.zow (Vt P w C N)))):∃a dx el r l d xs ys,σ[i]?=some (some (.ref a))/\NetFz P w C N F a dx el r l d xs ys:=by
 obtain⟨fp,h,_⟩:=S.fp;obtain⟨v,e1,_,a,dx,el,r,l,d,xs,ys,rfl,h1⟩:=h i _ e
 exact⟨a,dx,el,r,l,d,xs,ys,e1,h1⟩
def Ry (c:NetC K C) (e:ρ[i]?=some (some (.zow (Vt P w C N)))) {k m:Int} (hb:Qu K tb ρ (.int k)) (hm:atI (N.rooms.map PyData.int) k=some (.int m)):Qu K (tOp (rIx K) (Vs K (QD i) "rooms") tb) ρ (.int m):=fun H0 F σ H Q S q=>by
 obtain⟨a,dx,el,r,l,d,xs,ys,e1,ok⟩:=S.netz e;refine⟨_,e1,a,C,dx,_,.ref r,rfl,S.sub _ _ ok.ins,c.cl,c.rooms,rfl,hb H0 F σ H _ S fun F1 H1 y x1 r1=>?_⟩
 cases r1
 obtain⟨rx,r2,r3⟩:=ok.rooms;obtain⟨z,z1,z2⟩:=U5 (r3.mono x1.ff) hm;exact .inl ⟨r,rx,k,z,rfl,rfl,SqL.of (x1.fh _ _ (x1.ff _ _ r2)),z1,q F1 H1 z x1 z2⟩
def NI (c:NetC K C) (e:ρ[i]?=some (some (.zow (Vt P w C N)))) {k:Int} {n:PyData} (hb:Qu K tb ρ (.int k)) (hm:atI (N.ends.map QT) k=some n):Qu K (tOp (rIx K) (Vs K (QD i) "ends") tb) ρ n:=fun H0 F σ H Q S q=>by
 obtain⟨a,dx,el,r,l,d,xs,ys,e1,ok⟩:=S.netz e;refine⟨_,e1,a,C,dx,_,.ref el,rfl,S.sub _ _ ok.ins,c.cl,c.ends,rfl,hb H0 F σ H _ S fun F1 H1 y x1 r1=>?_⟩
 cases r1
 obtain⟨rx,r2,r3⟩:=ok.ends;obtain⟨z,z1,z2⟩:=U5 (r3.mono x1.ff) hm;exact .inl ⟨el,rx,k,z,rfl,rfl,SqL.of (x1.fh _ _ (x1.ff _ _ r2)),z1,q F1 H1 z x1 z2⟩
def LR (c:NetC K C) (e:ρ[i]?=some (some (.zow (Vt P w C N)))) (hy:Qu K ty ρ (QT k)):Qu K (Nb (Vs K (QD i) "leaving") ty (W5 QO)) ρ (.list (((QK N.leav k).getD []).map PyData.int)):=fun H0 F σ H Q S q=>by
 obtain⟨a,dx,el,r,l,d,xs,ys,e1,ok⟩:=S.netz e;refine⟨_,e1,a,C,dx,_,.ref l,rfl,S.sub _ _ ok.ins,c.cl,c.leav,rfl,l,rfl,.inr ⟨xs,Rd.of (S.sub _ _ ok.leav.1)⟩,hy H0 F σ H _ S fun F1 H1 y x1 r1=>⟨XQ _,fun p hp=>?_⟩⟩;obtain⟨b,rfl,hb⟩:=Wf r1;have S1:=S.ext x1;have x2:Q1 F1 H1 (upd F1 p (.lst [])) (upd H1 p (.lst [])):=Q1.new S1.sub hp;have xx:=x1.trans x2;have lH:upd H1 p (.lst []) l=some (.dT xs):=xx.fh _ _ (xx.ff _ _ ok.leav.1);have bH:upd H1 p (.lst []) b=some (.tup (k.map kV)):=x2.fh _ _ (x2.ff _ _ hb);refine⟨Zq xs k,Vr.t lH bH,?_⟩
 rcases ok.leav.2.val k with ⟨z1,z2⟩|⟨c1,ns,zs,z1,z2,z3,z4⟩
 ·rw[z1]
  exact q _ _ _ xx (by rw[z2];exact .lst QA .nil)
 ·rw[z1]
  exact q _ _ _ xx (by rw[z2];exact .lst (xx.ff _ _ z3) (z4.mono xx.ff))
def QC.dctz {H0 F H:Hp}{σ:St}{kvs:ZL}(S:QC K H0 F ρ σ H)(e:ρ[i]?=some (some (.zow (Jh kvs)))):∃a xs,σ[i]?=some (some (.ref a))/\F a=some (.dT xs)/\PairD F xs kvs:=by
 obtain⟨fp,h,_⟩:=S.fp;obtain⟨v,e1,_,a,xs,rfl,h1,h2⟩:=h i _ e
 exact⟨a,xs,e1,h1,h2⟩
def NH {kvs:ZL}{d:PyData}(e:ρ[i]?=some (some (.zow (Jh kvs))))(hy:Qu K ty ρ (QT k))(hd:VC kvs k=some d):Qu K (K2 (QD i) ty) ρ d:=fun H0 F σ H Q S q=>by
 obtain⟨a,xs,e1,_⟩:=S.dctz e;refine⟨_,e1,hy H0 F σ H _ S fun F1 H1 y x1 r1=>?_⟩;obtain⟨a',xs',e1',f2,f3⟩:=(S.ext x1).dctz e;rw[e1]at e1';cases e1';obtain⟨b,rfl,hb⟩:=Wf r1
 rcases f3.val k with ⟨_,z⟩|⟨x,d',z1,z2,z3⟩
 ·rw[hd]at z;cases z
 ·rw[hd]at z2
  cases z2
  exact⟨a,x,rfl,z1▸Vr.t (x1.fh _ _ f2) (x1.fh _ _ hb),q F1 H1 x x1 z3⟩
def Po {kvs:ZL}(hy:Qu K ty ρ (QT k))(e:ρ[i]?=some (some (.zow (Jh kvs)))):Qu K (GK ty (QD i)) ρ (.bool (VC kvs k).isSome):=fun H0 F σ H Q S q =>
 hy H0 F σ H _ S fun F1 H1 y x1 r1=>by
  obtain⟨a,xs,e1,f2,f3⟩:=(S.ext x1).dctz e;obtain⟨b,rfl,hb⟩:=Wf r1
  exact⟨_,e1,a,_,rfl,Vr.t (x1.fh _ _ f2) (x1.fh _ _ hb),q F1 H1 _ x1 (by rw[Hr f3];exact .bl _)⟩
end
end
def Ze (K:W.Frag)(R:List OT->(OT->Prop)->Prop):Sp:=fun vs H Q _=>∃F ts Φ,KTs K F/\Q4 F H/\Args K F vs ts/\R ts Φ/\∀F' H' v p r,Φ r->Q1 F H F' H'->(∀a∈p,H a=none)->Zk K F' H' v r p->Q v H'
def GJ (K:W.Frag)(t:TA)(ρ:Q5)(Φ:List OT->Prop):Prop := ∀(H0 F:Hp) (σ:St) (H:Hp) (Q:List V->Hp->Prop),QC K H0 F ρ σ H->(∀F' H' vs ts,Φ ts->Q1 F H F' H'->Args K F' vs ts->Q vs H')->t σ H Q
section
variable {K:W.Frag}{ρ:Q5}{D:PEnds}
def WK {R:List OT->(OT->Prop)->Prop}{t:TA}{E:XK}{ts:List OT}{Φ:OT->Prop}(h:Z2 K t ρ ts)(hR:R ts Φ):Zt K (VI (Ze K R) [] E t) ρ Φ:=fun H0 F σ H Q S q =>
 h H0 F σ H _ S fun F1 H1 vs x1 r1=>⟨F1,ts,Φ,(S.ext x1).kt,x1.fh,by rw[XG];exact r1,hR,fun F2 H2 v p r hr x2 hp ok=>q F2 H2 v p r hr (x1.trans x2) (fun a ha=>x1.hh.free (hp a ha)) ok⟩
def Ww {t:TA}{ts:List OT}{Φ:List OT->Prop}(h:Z2 K t ρ ts)(hp:Φ ts):GJ K t ρ Φ:=fun H0 F σ H Q S q=>h H0 F σ H Q S fun F' H' vs x r=>q F' H' vs ts hp x r
def P7 {ta:TE}{Φ:OT->Prop}{Φ':List OT->Prop}(h:Zt K ta ρ Φ)(hi:∀r,Φ r->∃ds,r=.ol ds/\Φ' [.fz (.list ds)]):GJ K (QE ta QO) ρ Φ':=fun H0 F σ H Q S q =>
 h H0 F σ H _ S fun F1 H1 v p r hr x hp ok=>by
  obtain⟨ds,rfl,hp'⟩:=hi r hr;obtain⟨a,rfl,rfl,r1,xs,r2,r3⟩:=ok;exact q (upd F1 a (.lst xs)) H1 [.ref a] _ hp' (x.freeze r1 r2 (hp a Xc)) (.fz (.lst QA (r3.mono (Q4.new r1))) .nil)
section
variable {P:Program}{w:World}{C:Addr}{N:Qz}{i:Nat}{m:Str}
def NoF (m:Str):Prop := ∀e r l d:Addr,([("ends",V.ref e),("rooms",V.ref r),("leaving",V.ref l),("laid",V.ref d)]:List (Str×V)).lookup m=none
def NU {R:List OT->(OT->Prop)->Prop}{t:TA}{E:XK}{ts:List OT}{Φ:OT->Prop}(hm:NoF m)(e:ρ[i]?=some (some (.zow (Vt P w C N))))(h:Z2 K t ρ ts)(hR:R (.zow (Vt P w C N)::ts) Φ) :
 Zt K (VH C m (Ze K R) [] E (QD i) t) ρ Φ:=fun H0 F σ H Q S q=>by
 obtain⟨a,dx,el,r,l,d,xs,ys,e1,ok⟩:=S.netz e;refine⟨_,e1,a,dx,_,rfl,S.sub _ _ ok.ins,hm _ _ _ _,h H0 F σ H _ S fun F1 H1 vs x1 r1=>?_⟩;refine⟨F1,_,Φ,(S.ext x1).kt,x1.fh,.zow (Ψ:=Vt P w C N) ⟨a,dx,el,r,l,d,xs,ys,rfl,ok.mono x1.ff⟩ (by rw[XG];exact r1),hR,fun F2 H2 v p r' hr x2 hp ok'=>q F2 H2 v p r' hr (x1.trans x2) (fun b hb=>x1.hh.free (hp b hb)) ok'⟩
def Fe {R:List OT->(OT->Prop)->Prop}{ta:TE}{t:TA}{E:XK}{ts:List OT}{Φ1 Φ:OT->Prop}(hm:NoF m)(h1:Zt K ta ρ Φ1)(hz:∀r,Φ1 r->∃v N,r=.own v (Za P w C N)/\∃Φ2,R (.zow (Vt P w C N)::ts) Φ2/\∀r,Φ2 r->Φ r)
 (h:Z2 K t ρ ts):Zt K (VH C m (Ze K R) [] E ta t) ρ Φ:=fun H0 F σ H Q S q =>
 h1 H0 F σ H _ S fun F1 H1 v p r hr x1 hp ok=>by
  obtain⟨v0,N,rfl,Φ2,hR,hi⟩:=hz r hr;obtain⟨rfl,ok⟩:=ok;have th:=fun a ha=>(Za P w C N).there ok a ha;have sm:Q4 F1 (frF F1 H1 p):=Wd fun a ha=>(th a ha).1
  have x1':Q1 F H (frF F1 H1 p) H1:=⟨x1.hh,x1.ff.trans sm,Gx x1.fh,fun a ha=>by
   by_cases z:a∈p
   ·exact .inr (hp a z)
   ·rw[YA z]at ha;exact x1.fr a ha⟩
  obtain⟨a,dx,el,r,l,d,xs,ys,as,rfl,rfl,o⟩:=ok;refine⟨a,dx,_,rfl,o.ins.2,hm _ _ _ _,h H0 _ σ H1 _ (S.ext x1') fun F2 H2 vs x2 r2=>?_⟩;have z:=o.fz sm (fun b hb=>YV hb)
  exact⟨F2,_,Φ2,(S.ext (x1'.trans x2)).kt,x2.fh,.zow (Ψ:=Vt P w C N) ⟨a,dx,el,r,l,d,xs,ys,rfl,z.mono x2.ff⟩ (by rw[XG];exact r2),hR,fun F3 H3 v p' r' hr' x3 hp' ok'=>q F3 H3 v p' r' (hi r' hr') ((x1'.trans x2).trans x3) (fun b hb=>(x1'.trans x2).hh.free (hp' b hb)) ok'⟩
structure ExtN (p:Qg)(F H F' H':Hp):Prop where
 hh:∀b o,b∉p->H b=some o->H' b=some o
 ff:Q4 F F'
 fh:Q4 F' H'
 fr:∀b,F' b≠none->F b≠none\/H b=none\/b∈p
def spN (K:W.Frag)(P:Program)(w:World)(C:Addr)(R:Qz->List OT->(Qz->Prop)->Prop):Sp:=fun vs H Q _=>∃F a vs' p ts N Ψ,vs=.ref a::vs'/\KTs K F/\Q4 F H/\Args K F vs' ts/\(Za P w C N).ok K F H (.ref a) p/\R N ts Ψ /\
 ∀F' H' p' N',Ψ N'->ExtN p F H F' H'->(Za P w C N').ok K F' H' (.ref a) p'->(∀b∈p',b∈p\/H b=none)->Q .non H'
theorem ZD.move {F F' H H':Hp}(s:Q4 F F'):∀{as:Qg} {dss:List (Qd)},(∀a∈as,F' a=none)->(∀a∈as,H' a=H a)->ZD F H as dss->ZD F' H' as dss
 |[],[],_,_,_=>trivial
 |a::as,_::_,hF,hH,o=>by
   obtain⟨⟨h1,xs,h2,h3⟩,o2⟩:=o
   exact⟨⟨hF a Xc,xs,by rw[hH a Xc];exact h2,h3.mono s⟩,ZD.move s (fun b hb=>hF b (Xe _ hb)) (fun b hb=>hH b (Xe _ hb)) o2⟩
 |[],_::_,_,_,h=>False.elim h
 |_::_,[],_,_,h=>False.elim h
def Zk.move {F F' H H':Hp}{v:V}{t:OT}{p:Qg}(s:Q4 F F')(hF:∀a∈p,F' a=none)(hH:∀a∈p,H' a=H a)(h:Zk K F H v t p):Zk K F' H' v t p:=by
 cases t with
 |fz d=>exact⟨h.1,h.2.mono s⟩
 |zow Ψ=>exact⟨h.1,Ψ.mono s h.2⟩
 |ol ds =>
   obtain⟨a,rfl,rfl,h1,xs,h2,h3⟩:=h
   exact⟨a,rfl,rfl,hF a Xc,xs,by rw[hH a Xc];exact h2,h3.mono s⟩
 |oll dss =>
   obtain⟨a,as,rfl,rfl,h1,h2,h3,h4⟩:=h
   exact⟨a,as,rfl,rfl,h1,hF a Xc,by rw[hH a Xc];exact h3,h4.move s (fun b hb=>hF b (Xe _ hb)) fun b hb=>hH b (Xe _ hb)⟩
 |scr ns=>obtain⟨h1,a,h2,h3⟩:=h;exact⟨h1,a,h2,h3.mono s⟩
 |own v0 Φ=>exact⟨h.1,Φ.mono s hF hH h.2⟩
def NY {F0 H0 F H:Hp}{σ:St}{E:Ends}{v:V}{Ψ:Qz->Prop}(S:QC K H0 F ρ σ H)(x:Q1 F0 H0 F H)(e:ρ[i]?=some (some (.own v (Za P w C N))))(hn:∀N',Ψ N'->D.nx (ρ.set i (some (.own v (Za P w C N')))))(C':Cnv K F0 H0 D E) :
 ∃a p,v=.ref a/\(Za P w C N).ok K F H (.ref a) p/\∀F' H' p' N',Ψ N'->ExtN p F H F' H'->(Za P w C N').ok K F' H' (.ref a) p'->(∀b∈p',b∈p\/H b=none)->E.nx σ H':=by
 obtain⟨kt,h1,h2,fp,h3,h4,h5⟩:=S;obtain⟨u,e1,rfl,ok⟩:=h3 i _ e;obtain⟨a,_,_,_,_,_,_,_,_,rfl,_⟩:=id ok;have hlt:=(Xh.mp e).1;refine⟨a,fp i,rfl,ok,fun F' H' p' N' hN xn ok' sub=>?_⟩;have out:∀j,j≠i->∀b∈fp j,b∉fp i:=fun j hj b hb z=>hj (h4 j i b hb z)
 have hH:∀j,j≠i->∀b∈fp j,H' b=H b:=fun j hj b hb=>by
  obtain⟨o,ho⟩:=MZ (h5 j b hb).2;rw[xn.hh b o (out j hj b hb) ho,ho]
 refine C'.nx F' σ H' _ ⟨fun b o hb=>xn.hh b o (fun z=>by rw[(h5 i b z).1]at hb;cases hb) (x.hh b o hb),x.ff.trans xn.ff,xn.fh,fun b hb=>?_⟩ ⟨kt.mono xn.ff,xn.fh,by simp[h2],fun j=>if j=i then p' else fp j,fun j t' e'=>?_,fun j k b hb hc=>?_,fun j b hb=>?_⟩ (hn N' hN)
 ·rcases xn.fr b hb with z|z|z
  ·exact x.fr b z
  ·exact .inr (x.hh.free z)
  ·exact .inr (h5 i b z).1
 ·by_cases hj:j=i
  ·subst hj
   rw[Xr hlt]at e';cases e';refine⟨_,e1,rfl,?_⟩;simp only[if_true];exact ok'
  ·rw[Xw (Ne.symm hj)]at e'
   obtain⟨u',f1,f2⟩:=h3 j t' e';refine⟨u',f1,?_⟩;simp only[Xb hj];refine f2.move xn.ff (fun b hb=>?_) (hH j hj)
   cases z:F' b with
   |none=>rfl
   |some o =>
     rcases xn.fr b (Z1 z) with y|y|y
     ·exact Xl (f2.there b hb).1 y
     ·exact Xl y (h5 j b hb).2
     ·exact Xl y (out j hj b hb)
 ·by_cases hj:j=i
  ·by_cases hk:k=i
   ·omega
   ·simp only[Xd hj]at hb
    simp only[Xb hk]at hc;rcases sub b hb with z|z
    ·exact Xl (h4 k i b hc z) hk
    ·exact Xl z (h5 k b hc).2
  ·simp only[Xb hj]at hb
   by_cases hk:k=i
   ·simp only[Xd hk]at hc
    rcases sub b hc with z|z
    ·exact Xl (h4 j i b hb z) hj
    ·exact Xl z (h5 j b hb).2
   ·simp only[Xb hk]at hc
    exact h4 j k b hb hc
 ·by_cases hj:j=i
  ·simp only[Xd hj]at hb
   refine⟨?_,((Za P w C N').there ok' b hb).2⟩
   rcases sub b hb with z|z
   ·exact(h5 i b z).1
   ·exact x.hh.free z
  ·simp only[Xb hj]at hb
   exact⟨(h5 j b hb).1,by rw[hH j hj b hb];exact(h5 j b hb).2⟩
def WQ {R:Qz->List OT->(Qz->Prop)->Prop}{t:TA}{E':XK}{v:V}{ΦA:List OT->Prop}(hm:NoF m)(e:ρ[i]?=some (some (.own v (Za P w C N))))(hA:GJ K t ρ ΦA)
 (hR:∀ts,ΦA ts->∃Ψ,R N ts Ψ/\∀N',Ψ N'->D.nx (ρ.set i (some (.own v (Za P w C N'))))):Q0 K (VF (VH C m (spN K P w C R) [] E' (QD i) t)) ρ D:=fun F0 H0 F σ H E x S C'=>by
 obtain⟨a,dx,el,r,l,d,xs,ys,as,rfl,e1,ok,_⟩:=S.net e;refine⟨_,e1,a,dx,_,rfl,ok.ins.2,hm _ _ _ _,hA H0 F σ H _ S fun F1 H1 vs ts ht x1 r1=>?_⟩;obtain⟨Ψ,hR',hn⟩:=hR ts ht;obtain⟨a',p,ea,okp,fin⟩:=NY (S.ext x1) (x.trans x1) e hn C'
 cases ea
 exact⟨F1,a,vs++[],p,ts,N,Ψ,rfl,(S.ext x1).kt,x1.fh,by rw[XG];exact r1,okp,hR',fin⟩
def Rs {R:Qz->List OT->(Qz->Prop)->Prop}{t:TA}{E':XK}{v:V}{ΦA:List OT->Prop}(e:ρ[i]?=some (some (.own v (Za P w C N))))(hA:GJ K t ρ ΦA)
 (hR:∀ts,ΦA ts->∃Ψ,R N ts Ψ/\∀N',Ψ N'->D.nx (ρ.set i (some (.own v (Za P w C N'))))):Q0 K (VF (VI (spN K P w C R) [] E' (QE (QD i) t))) ρ D:=fun F0 H0 F σ H E x S C'=>by
 obtain⟨a,dx,el,r,l,d,xs,ys,as,rfl,e1,ok,_⟩:=S.net e;refine⟨_,e1,hA H0 F σ H _ S fun F1 H1 vs ts ht x1 r1=>?_⟩;obtain⟨Ψ,hR',hn⟩:=hR ts ht;obtain⟨a',p,ea,okp,fin⟩:=NY (S.ext x1) (x.trans x1) e hn C'
 cases ea
 exact⟨F1,a,vs++[],p,ts,N,Ψ,rfl,(S.ext x1).kt,x1.fh,by rw[XG];exact r1,okp,hR',fin⟩
def spI (P:Program)(w:World)(C:Addr):Sp:=fun vs H Q _=>∃x dx,vs=[.ref x]/\H x=some (.ins C dx [])/\∀e r l d H',H e=none->H r=none->H l=none->H d=none->[x,e,r,l,d].Nodup ->
 H' x=some (.ins C dx [("ends",.ref e),("rooms",.ref r),("leaving",.ref l),("laid",.ref d)])->H' e=some (.lst [])->H' r=some (.lst [])->H' l=some (.dT [])->H' d=some (pdO P w d [])->(∀b,b∉[x,e,r,l,d]->H' b=H b)->Q .non H'
def Lx {E:XK}:EvX K (Um C (spI P w C) [] E QO) ρ (Za P w C ⟨[],[],[],[]⟩):=fun H0 F σ H Q S q=>fun x dx hx hdx ne=>by
 refine⟨x,dx,rfl,QA,fun e r l d H' he hr hl hd nd h1 h2 h3 h4 h5 ho=>⟨rfl,?_⟩⟩
 have un:∀{b:Addr},upd (upd H dx (.own x)) x (.ins C dx []) b=none->H b=none/\b≠x/\b≠dx:=fun{b} hb=>by
  have n1:b≠x:=fun z=>by rw[z,QA]at hb;cases hb
  rw[Qt n1]at hb;have n2:b≠dx:=fun z=>by rw[z,QA]at hb;cases hb
  rw[Qt n2]at hb;exact⟨hb,n1,n2⟩
 obtain⟨e1,e2,e3⟩:=un he;obtain⟨r1,r2,r3⟩:=un hr;obtain⟨l1,l2,l3⟩:=un hl;obtain⟨d1,d2,d3⟩:=un hd
 have hdx':H' dx=some (.own x):=by
  rw[ho dx (by simp only[Xg,XL,or_false,not_or];exact⟨ne,Ne.symm e3,Ne.symm r3,Ne.symm l3,Ne.symm d3⟩),Qt ne,QA]
 have kp:∀b o,H b=some o->H' b=some o:=fun b o hb=>by
  have nb:∀{c:Addr},H c=none->b≠c:=fun hc z=>by rw[z,hc]at hb;cases hb
  rw[ho b (by simp only[Xg,XL,or_false,not_or];exact⟨nb hx,nb e1,nb r1,nb l1,nb d1⟩),Qt (nb hx),Qt (nb hdx)];exact hb
 have fr:∀{b:Addr},H b=none->F b=none:=fun hb=>S.sub.free hb;refine q F H' (.ref x) [x,dx,e,r,l,d] ⟨kp,Q4.refl _,fun b o hb=>kp b o (S.sub b o hb),fun _ h=>.inl h⟩ (fun b hb=>?_) ⟨x,dx,e,r,l,d,[],[],[],rfl,rfl,?_,⟨fr hx,h1⟩,⟨fr hdx,hdx'⟩,⟨fr e1,[],h2,.nil⟩,⟨fr r1,[],h3,.nil⟩,⟨fr l1,h4,.nil⟩,⟨fr d1,h5,.nil⟩⟩
 ·simp only[Xg,XL,or_false]at hb
  rcases hb with rfl|rfl|rfl|rfl|rfl|rfl
  ·exact hx
  ·exact hdx
  ·exact e1
  ·exact r1
  ·exact l1
  ·exact d1
 ·simp only[XO,Xg,XL,or_false,not_or,not_false_eq_true,JN,and_true]at nd ⊢
  obtain⟨⟨a1,a2,a3,a4⟩,b1,c1,f1⟩:=nd
  exact⟨⟨Ne.symm ne,a1,a2,a3,a4⟩,⟨Ne.symm e3,Ne.symm r3,Ne.symm l3,Ne.symm d3⟩,b1,c1,f1⟩
end
end
section
variable {P:Program}{w:World}{K:W.Frag}{mg:Str->Qf}{base:Heap}
def Fun.evD {x qual:Str}{st:Stmt}{f:Addr}{fd:FuncData}{N ps:Qh}{k:Nat}{R:List OT->(OT->Prop)->Prop}(F:Fun K x qual st f fd)(S:Qp N ps (Qy st))(len:∀ts Φ,R ts Φ->ts.length=ps.length)
 (XaS:∀(cdv:Value) (A:Around) (outer:List Env) (s:Shared) (H:Hp) (E:XK) (ts:List OT) (Φ:OT->Prop),Room k (A.deeper (envOfC qual (Qy st) s.heap.objs.size f cdv))->R ts Φ ->
  ∃t,PSs (Vi CX0 P w K mg base N qual (Qy st) f cdv A outer s H E).nox (Zh st) t/\Q0 K t (ts.map some++List.replicate (N.length-ts.length) none) { nx:=fun _=>Φ (.fz .none),rt:=Φ }):FnOk P w K mg base CX0 (k+1) f fd ps (Ze K R):=by
 refine F.ok S (fun vs H Q E ⟨F,ts,Φ,_,_,ha,hR,_⟩=>ha.length.trans (len ts Φ hR)) fun cdv A outer s H vs Q E hr ⟨F,ts,Φ,kt,sm,ha,hR,q⟩=>?_;obtain⟨t,h1,h2⟩:=XaS cdv A outer s H E ts Φ hr hR;refine⟨t,h1,h2 F H F (start N vs) H _ (Q1.refl sm) ⟨kt,sm,?_,fun _=>[],fun i t' e=>?_,fun i j a h=>(nomatch h),fun i a h=>(nomatch h)⟩ ⟨fun F' σ' H' ρ' x' _ e=>?_,fun F' H' v r' p x' hp ok e=>q F' H' v p r' e x' hp ok,fun _ _ _ _ _ _ z=>False.elim z,fun _ _ _ _ _ _ z=>False.elim z⟩⟩
 ·unfold start
  simp[ha.length]
 ·have hlt:i<ts.length:=by
   by_cases z:i<ts.length
   ·exact z
   ·rw[X3 (by simpa using z)]at e
    have:=List.mem_of_getElem? e
    simp at this
  rw[XF (by simpa using hlt),Xt]at e;have e':ts[i]?=some t':=by
   cases z:ts[i]? with
   |none=>rw[z]at e;simp at e
   |some w=>rw[z]at e;simp at e;rw[e]
  obtain⟨v,e1,e2⟩:=ha.get (H:=H) i t' e';refine⟨v,?_,e2⟩;unfold start;have hl2:i<vs.length:=by rw[ha.length];exact hlt
  rw[XF (by simpa using hl2),Xt,e1];rfl
 ·exact q F' H' _ [] _ e x' (fun _ z=>nomatch z) ⟨rfl,.non⟩
def Fun.evN {C:Addr}{x qual:Str}{st:Stmt}{f:Addr}{fd:FuncData}{N ps:Qh}{k:Nat}{R:Qz->List OT->(Qz->Prop)->Prop}(F:Fun K x qual st f fd)(S:Qp N ps (Qy st))(len:∀M ts Ψ,R M ts Ψ->ts.length+1=ps.length)
 (XaS:∀(cdv:Value) (A:Around) (outer:List Env) (s:Shared) (H:Hp) (E:XK) (v:V) (M:Qz) (ts:List OT) (Ψ:Qz->Prop),Room k (A.deeper (envOfC qual (Qy st) s.heap.objs.size f cdv))->R M ts Ψ ->
  ∃t,PSs (Vi CX0 P w K mg base N qual (Qy st) f cdv A outer s H E).nox (Zh st) t/\Q0 K t (some (.own v (Za P w C M))::(ts.map some++List.replicate (N.length-(ts.length+1)) none)) { nx:=fun ρ'=>∃M',Ψ M'/\ρ'[0]?=some (some (.own v (Za P w C M'))),rt:=fun _=>False }) :
 FnOk P w K mg base CX0 (k+1) f fd ps (spN K P w C R):=by
 refine F.ok S (fun vs H Q E ⟨F,a,vs',p,ts,M,Ψ,e,_,_,ha,_,hR,_⟩=>by rw[e,XI,ha.length];exact len _ _ _ hR) fun cdv A outer s H vs Q E hr ⟨F,a,vs',p,ts,M,Ψ,e,kt,sm,ha,ok,hR,q⟩=>?_;subst e;obtain⟨t,h1,h2⟩:=XaS cdv A outer s H E (.ref a) M ts Ψ hr hR
 have h0:∀b,(fun b=>if b∈p then none else H b:Hp) b=none->b∈p\/H b=none:=fun b hb=>by
  by_cases z:b∈p
  ·exact .inl z
  ·simp only[Xb z]at hb;exact .inr hb
 have th:=fun b hb=>(Za P w C M).there ok b hb
 refine⟨t,h1,h2 F (fun b=>if b∈p then none else H b) F (start N (.ref a::vs')) H _ ⟨fun b o hb=>?_,Q4.refl _,sm,fun _ h=>.inl h⟩ ⟨kt,sm,?_,fun j=>if j=0 then p else [],fun j t' e=>?_,fun j k' b hb hc=>?_,fun j b hb=>?_⟩
  ⟨fun F' σ' H' ρ' x' S' ⟨M',hM,e0⟩=>?_,fun F' H' v r' p x' hp ok e=>False.elim e,fun _ _ _ _ _ _ z=>False.elim z,fun _ _ _ _ _ _ z=>False.elim z⟩⟩
 ·by_cases z:b∈p
  ·simp[z]at hb
  ·simp only[Xb z]at hb;exact hb
 ·unfold start
  simp[ha.length]
 ·cases j with
  |zero =>
    simp at e
    subst e;refine⟨.ref a,?_,rfl,?_⟩
    ·unfold start
     simp
    ·simp only[if_true]
     exact ok
  |succ i =>
    rw[UI]at e;have hlt:i<ts.length:=by
     by_cases z:i<ts.length
     ·exact z
     ·rw[X3 (by simpa using z)]at e
      have:=List.mem_of_getElem? e
      simp at this
    rw[XF (by simpa using hlt),Xt]at e;have e':ts[i]?=some t':=by
     cases z:ts[i]? with
     |none=>rw[z]at e;simp at e
     |some w=>rw[z]at e;simp at e;rw[e]
    obtain⟨v,e1,e2⟩:=ha.get (H:=H) i t' e';refine⟨v,?_,?_⟩
    ·unfold start
     have hl2:i<vs'.length:=by rw[ha.length];exact hlt
     rw[Xy,WY,UI,XF (by simpa using hl2),Xt,e1];rfl
    ·simp only[Nat.add_one_ne_zero,if_false]
     exact e2
 ·by_cases hj:j=0
  ·by_cases hk:k'=0
   ·rw[hj,hk]
   ·simp[hk]at hc
  ·simp[hj]at hb
 ·by_cases hj:j=0
  ·simp only[Xd hj]at hb
   exact⟨by simp[hb],(th b hb).2⟩
  ·simp[hj]at hb
 ·obtain⟨fp,g1,g2,g3⟩:=S'.fp
  obtain⟨u,u1,rfl,ok'⟩:=g1 0 _ e0;refine q F' H' (fp 0) M' hM ⟨fun b o nb hb=>x'.hh b o (by simp only[Xb nb];exact hb),x'.ff,x'.fh,fun b hb=>?_⟩ ok' (fun b hb=>h0 b (g3 0 b hb).1)
  rcases x'.fr b hb with z|z
  ·exact .inl z
  ·exact .inr ((h0 b z).symm)
structure Mf (K:W.Frag)(C:Addr)(m qual:Str)(st:Stmt)(ps:Qh):Prop where
 ex:∃f fd,Fun K m qual st f fd/\Meth K C m f/\Vb K fd ps []
def Zl (P:Program)(w:World)(K:W.Frag)(mg:Str->Qf)(base:Heap)(C:Addr)(m:Str)(ps:Qh)(k:Nat)(sp:Sp):Prop :=
 ∃f fd,Meth K C m f/\Vb K fd ps []/\FnOk P w K mg base CX0 k f fd ps sp
def Mf.evD {C:Addr}{m qual:Str}{st:Stmt}{N ps:Qh}{k:Nat}{R:List OT->(OT->Prop)->Prop}(D:Mf K C m qual st ps)(S:Qp N ps (Qy st))(len:∀ts Φ,R ts Φ->ts.length=ps.length)
 (XaS:∀(f:Addr) (cdv:Value) (A:Around) (outer:List Env) (s:Shared) (H:Hp) (E:XK) (ts:List OT) (Φ:OT->Prop),Room k (A.deeper (envOfC qual (Qy st) s.heap.objs.size f cdv))->R ts Φ ->
  ∃t,PSs (Vi CX0 P w K mg base N qual (Qy st) f cdv A outer s H E).nox (Zh st) t/\Q0 K t (ts.map some++List.replicate (N.length-ts.length) none) { nx:=fun _=>Φ (.fz .none),rt:=Φ }):Zl P w K mg base C m ps (k+1) (Ze K R):=by
 obtain⟨f,fd,F,hm,hb⟩:=D.ex
 exact⟨f,fd,hm,hb,F.evD S len fun cdv A outer s H E ts Φ=>XaS f cdv A outer s H E ts Φ⟩
def Mf.evN {C:Addr}{m qual:Str}{st:Stmt}{N ps:Qh}{k:Nat}{R:Qz->List OT->(Qz->Prop)->Prop}(D:Mf K C m qual st ps)(S:Qp N ps (Qy st))(len:∀M ts Ψ,R M ts Ψ->ts.length+1=ps.length)
 (XaS:∀(f:Addr) (cdv:Value) (A:Around) (outer:List Env) (s:Shared) (H:Hp) (E:XK) (v:V) (M:Qz) (ts:List OT) (Ψ:Qz->Prop),Room k (A.deeper (envOfC qual (Qy st) s.heap.objs.size f cdv))->R M ts Ψ ->
  ∃t,PSs (Vi CX0 P w K mg base N qual (Qy st) f cdv A outer s H E).nox (Zh st) t/\Q0 K t (some (.own v (Za P w C M))::(ts.map some++List.replicate (N.length-(ts.length+1)) none)) { nx:=fun ρ'=>∃M',Ψ M'/\ρ'[0]?=some (some (.own v (Za P w C M'))),rt:=fun _=>False }) :
 Zl P w K mg base C m ps (k+1) (spN K P w C R):=by
 obtain⟨f,fd,F,hm,hb⟩:=D.ex
 exact⟨f,fd,hm,hb,F.evN S len fun cdv A outer s H E v M ts Ψ=>XaS f cdv A outer s H E v M ts Ψ⟩
def Df.evD {x:Str}{st:Stmt}{N ps:Qh}{k:Nat}{R:List OT->(OT->Prop)->Prop}(D:Df K mg x st ps)(S:Qp N ps (Qy st))(len:∀ts Φ,R ts Φ->ts.length=ps.length)
 (XaS:∀(f:Addr) (cdv:Value) (A:Around) (outer:List Env) (s:Shared) (H:Hp) (E:XK) (ts:List OT) (Φ:OT->Prop),Room k (A.deeper (envOfC x (Qy st) s.heap.objs.size f cdv))->R ts Φ ->
  ∃t,PSs (Vi CX0 P w K mg base N x (Qy st) f cdv A outer s H E).nox (Zh st) t/\Q0 K t (ts.map some++List.replicate (N.length-ts.length) none) { nx:=fun _=>Φ (.fz .none),rt:=Φ }):QB P w K mg base x ps (k+1) (Ze K R):=by
 obtain⟨f,fd,F,hm,hb⟩:=D.ex
 exact⟨f,fd,hm,F.kp,hb,F.evD S len fun cdv A outer s H E ts Φ=>XaS f cdv A outer s H E ts Φ⟩
def Df.evN {C:Addr}{x:Str}{st:Stmt}{N ps:Qh}{k:Nat}{R:Qz->List OT->(Qz->Prop)->Prop}(D:Df K mg x st ps)(S:Qp N ps (Qy st))(len:∀M ts Ψ,R M ts Ψ->ts.length+1=ps.length)
 (XaS:∀(f:Addr) (cdv:Value) (A:Around) (outer:List Env) (s:Shared) (H:Hp) (E:XK) (v:V) (M:Qz) (ts:List OT) (Ψ:Qz->Prop),Room k (A.deeper (envOfC x (Qy st) s.heap.objs.size f cdv))->R M ts Ψ ->
  ∃t,PSs (Vi CX0 P w K mg base N x (Qy st) f cdv A outer s H E).nox (Zh st) t/\Q0 K t (some (.own v (Za P w C M))::(ts.map some++List.replicate (N.length-(ts.length+1)) none)) { nx:=fun ρ'=>∃M',Ψ M'/\ρ'[0]?=some (some (.own v (Za P w C M'))),rt:=fun _=>False }) :
 QB P w K mg base x ps (k+1) (spN K P w C R):=by
 obtain⟨f,fd,F,hm,hb⟩:=D.ex
 exact⟨f,fd,hm,F.kp,hb,F.evN S len fun cdv A outer s H E v M ts Ψ=>XaS f cdv A outer s H E v M ts Ψ⟩
def Mi (P:Program)(w:World)(K:W.Frag)(mg:Str->Qf)(base:Heap)(x:Str)(C:Addr)(k:Nat):Prop :=
 ∃f fd,Mk K C f/\mg x=some (.ref C)/\Vb K fd Zaj []/\FnOk P w K mg base CX0 k f fd Zaj (spI P w C)
end
section
variable {X:Cx}
def Yt {C:Addr}{m:Str}{pos apos:Pos}{o e:Expr}{es:Qi}{ta:TE}{t:TA}{ps:Qh}{j k:Nat}{sp:Sp}{pl:Sem Bool}(M:Zl X.prog X.w X.K X.mg X.base C m ps j sp)(c:NetC X.K C)(hr:Room k X.A)(he:PE X o ta)(ha:PA X (e::es) t)(hj:j<=k:=by walk_at"j")
 (hst:starEach (e::es) X.env=(false,eval e X.env)::starEach es X.env:=by rfl) (hpl:(backTo pos (starEach es X.env)).any (·.1)=false:=by rfl)
 (ht:eval (.Call (.Attribute o m apos) (e::es) [] pos) X.env=(do
  let ov <- eval o X.env
  standAt apos.atName
  let (f,first) <- holding [ov] (getMethod ov m pl)
  callWith pos f first (backTo pos (starEach (e::es) X.env)) (backToKw pos (keywordEach [] X.env))):=by rfl) :
 PE X (.Call (.Attribute o m apos) (e::es) [] pos) (VH C m sp [] E0 ta t):=by
 obtain⟨f,fd,hm,hb,F⟩:=M;exact MX (pl:=pl) he c.cl hm F (hr.mono hj) hb .nil Jn ha hst hpl ht
def L5 {C:Addr} {x:Str} {p pos:Pos} {j k:Nat} (M:Mi X.prog X.w X.K X.mg X.base x C j) (hr:Room k X.A) (hj:j+1<=k:=by walk_at"j") (hg:Gl X x:=by rfl) (hdb:(x==("__debug__" : Str))=false:=by decide +kernel) :
 PE X (.Call (.Name x p) [] [] pos) (Um C (spI X.prog X.w C) [] E0 QO):=by
 obtain⟨f,fd,M,hm,hb,F⟩:=M;exact FD M F (hr.mono hj) hg hm hb .nil Jn hdb
end
end L2
end
section
namespace Mir
open PySem L2
def nk:Nd->List Key
 |.start=>[.inr "start"]
 |.fin=>[.inr "end"]
 |.guest k=>[.inr "guest",.inl (k:Int)]
 |.line l t=>[.inr "line",.inl (l:Int),.inl (t:Int)]
theorem Jt:∀{a b:Nd},nk a=nk b->a=b
 |.start,.start,_=>rfl
 |.fin,.fin,_=>rfl
 |.start,.fin,h=>Xl h (by decide)
 |.fin,.start,h=>Xl h (by decide)
 |.guest a,.guest b,h=>by
   injection h with _ h;injection h with h _;injection h with h
   have:a=b:=by omega
   rw[this]
 |.line a b,.line c d,h=>by
   injection h with _ h;injection h with h1 h;injection h with h2 _;injection h1 with h1;injection h2 with h2;have e1:a=c:=by omega
   have e2:b=d:=by omega
   rw[e1,e2]
 |.start,.guest _,h=>by have q:=XW List.length h;simp[nk]at q
 |.start,.line _ _,h=>by have q:=XW List.length h;simp[nk]at q
 |.fin,.guest _,h=>by have q:=XW List.length h;simp[nk]at q
 |.fin,.line _ _,h=>by have q:=XW List.length h;simp[nk]at q
 |.guest _,.start,h=>by have q:=XW List.length h;simp[nk]at q
 |.guest _,.fin,h=>by have q:=XW List.length h;simp[nk]at q
 |.guest _,.line _ _,h=>by have q:=XW List.length h;simp[nk]at q
 |.line _ _,.start,h=>by have q:=XW List.length h;simp[nk]at q
 |.line _ _,.fin,h=>by have q:=XW List.length h;simp[nk]at q
 |.line _ _,.guest _,h=>by have q:=XW List.length h;simp[nk]at q
def TM {a b:Nd}:nk a=nk b↔a=b:=⟨Jt,fun h=>by rw[h]⟩
def Ud:Option Nat->PyData
 |none=>.none
 |some e=>.int (e:Int)
def kvG (es:Got Nd):ZL:=es.map fun x=>(nk x.1,Ud x.2)
theorem Du (n:Nd):∀es:Got Nd,VC (kvG es) (nk n)=(WC es n).map Ud
 |[]=>rfl
 |(k,v)::es=>by
   have ih:=Du n es;unfold WC at ih ⊢;rw[XJ];unfold kvG VC at ih ⊢;rw[Xy,Xx];by_cases e:k=n
   ·subst e
    simp
   ·have e1:¬nk k=nk n:=fun z=>e (Jt z)
    have e2:(n==k)=false:=by rw[beq_eq_false_iff_ne];exact fun z=>e z.symm
    rw[e2];simp only[e1,decide_false];exact ih
def Et {es:Got Nd}{n:Nd}:(es.lookup n).isSome=decide (n∈QP es):=by
 induction es with
 |nil=>rfl
 |cons p es ih =>
   obtain⟨k,v⟩:=p;rw[XJ];by_cases e:n=k
   ·subst e
    simp[QP]
   ·have e2:(n==k)=false:=by rw[beq_eq_false_iff_ne];exact e
    rw[e2];have:decide (n∈QP ((k,v)::es))=decide (n∈QP es):=by
     apply decide_eq_decide.mpr
     unfold QP;rw[Xy,Xg];exact⟨fun z=>z.resolve_left e,.inr⟩
    rw[this];exact ih
def Gk (n:Nd)(es:Got Nd):(VC (kvG es) (nk n)).isSome=decide (n∈QP es):=by
 rw[Du,UC];exact Et
def FQ (es:Got Nd):MR (kvG es):=fun x hx=>by
 obtain⟨y,_,rfl⟩:=X4.mp hx
 cases h:y.2 with
 |none=>exact⟨.non,by simp[h,Ud,Vl]⟩
 |some e=>exact⟨.int (e:Int),by simp[h,Ud,Vl]⟩
def Ce {es:Got Nd}{n:Nd}{e:Nat}(h:n∉QP es):Ub (kvG es) (nk n) (.int (e:Int))=kvG (es++[(n,some e)]):=by
 unfold Ub;have:¬((kvG es).any fun kv=>decide (kv.1=nk n))=true:=fun z=>by
  obtain⟨x,hx,hz⟩:=List.any_eq_true.mp z;obtain⟨y,hy,rfl⟩:=X4.mp hx;have q:y.1=n:=Jt (XV hz);exact h (by rw[<- q];exact X4.mpr ⟨y,hy,rfl⟩)
 rw[Xb this];unfold kvG;rw[XD];rfl
structure NetR (N:Qz)(L:Lay Nd)(φ:QS Nd):Prop where
 ends:N.ends=(YO L).map nk
 rooms:N.rooms=Vv L φ
 leav:∀(n:Nd) (e:Int),e∈(QK N.leav (nk n)).getD [] ↔ ∃j:Nat,e=(j:Int)/\tlE L j=some n
 laid:∀(i:Nat) (x:Nd×Nd×Int),L[i]?=some x->Va N.laid (nk x.1,nk x.2.1)=some ((2*i:Nat):Int)
 laid0:∀p q:Nd,(p,q)∉L.map (fun x=>(x.1,x.2.1))->Va N.laid (nk p,nk q)=none
 l1:N.leav.length<=2*L.length
 l2:N.laid.length<=L.length
 l3:∀k ns,QK N.leav k=some ns->ns.length<=2*L.length
theorem Pl (φ:QS Nd):NetR ⟨[],[],[],[]⟩ [] φ where
 ends:=rfl
 rooms:=rfl
 leav n e:=by
  constructor
  ·intro h;simp[QK]at h
  ·rintro⟨j,_,h⟩;simp[tlE]at h
 laid i x h:=by simp at h
 laid0 p q _:=rfl
 l1:=XQ _
 l2:=XQ _
 l3 k ns h:=by simp[QK]at h
def Wi {k k':List Key}{ns:Ql}{ls:List (List Key×Ql)}:QK ((k',ns)::ls) k=if k'=k then some ns else QK ls k:=by
 by_cases e:k'=k
 ·simp[QK,Xx,e]
 ·simp[QK,Xx,e]
theorem Rr (k k':List Key)(x:Int):∀ls:List (List Key×Ql),QK (V7 ls k x) k'=if k'=k then (QK ls k).map (· ++ [x]) else QK ls k'
 |[]=>by
   unfold V7;by_cases e:k'=k
   ·rw[Xd e];simp[QK]
   ·rw[Xb e]
 |(j,ns)::ls=>by
   unfold V7;have ih:=Rr k k' x ls
   by_cases e:j=k
   ·rw[Xd e,Wi,Wi,Wi,Xd e]
    by_cases e2:k'=k
    ·rw[Xd e2,Xd (e.trans e2.symm)];rfl
    ·rw[Xb e2,Xb (fun z=>e2 (z.symm.trans e)),Xb (fun z=>e2 (z.symm.trans e))]
   ·rw[Xb e,Wi,Wi,Wi,Xb e,ih]
    by_cases e2:k'=k
    ·rw[Xd e2,Xb (fun z=>e (z.trans e2)),Xd e2]
    ·rw[Xb e2,Xb e2]
theorem Bx (k:List Key)(x:Int):∀ls:List (List Key×Ql),(V7 ls k x).length=ls.length
 |[]=>rfl
 |(j,ns)::ls=>by
   unfold V7;split
   ·simp
   ·simp[Bx k x ls]
theorem Su (k k':List Key):∀ls:List (List Key×Ql),QK ls k=none->QK (ls++[(k,[])]) k'=if k'=k then some [] else QK ls k'
 |[],_=>by
   rw[List.nil_append,Wi];by_cases e:k'=k
   ·rw[Xd e,Xd e.symm]
   ·rw[Xb e,Xb (fun z=>e z.symm)]
 |(j,ns)::ls,h=>by
   rw[Wi]at h;by_cases e:j=k
   ·rw[Xd e]at h;cases h
   ·rw[Xb e]at h
    rw[WY,Wi,Wi,Su k k' ls h];by_cases e2:k'=k
    ·rw[Xd e2,Xb (fun z=>e (z.trans e2)),Xd e2]
    ·rw[Xb e2,Xb e2]
def Dy (ls:List (List Key×Ql))(k k':List Key):QK (V5 ls k) k'=if k'=k then some ((QK ls k).getD []) else QK ls k':=by
 unfold V5;cases h:QK ls k with
 |some ns =>
   rw[Xd (by rfl)];by_cases e:k'=k
   ·rw[Xd e,e,h];rfl
   ·rw[Xb e]
 |none =>
   rw[Xb (by simp),Su k k' ls h];rfl
def Dp (ls:List (List Key×Ql))(k:List Key):(V5 ls k).length<=ls.length+1:=by
 unfold V5;split
 ·omega
 ·simp
def Ua (N:Qz)(s e:List Key)(r:Int):Qz:={ N with ends:=N.ends++[e],rooms:=N.rooms++[r],leav:=V7 (V5 N.leav s) s (N.ends.length:Int) }
def Ji (N:Qz)(s e:List Key)(r:Int):Qz:=Ua (Ua { N with laid:=Yi N.laid (s,e) (N.ends.length:Int) } s e r) e s 0
def U2 (N:Qz)(s e:List Key)(r:Int)(k:List Key):QK (Ua N s e r).leav k=if k=s then some ((QK N.leav s).getD []++[(N.ends.length:Int)]) else QK N.leav k:=by
 show QK (V7 (V5 N.leav s) s _) k=_;rw[Rr,Dy,Xd rfl,Dy];by_cases e:k=s
 ·rw[Xd e,Xd e];rfl
 ·rw[Xb e,Xb e,Xb e]
def Wj {k k':KK}{n:Int}{ls:List (KK×Int)}:Va ((k',n)::ls) k=if k'=k then some n else Va ls k:=by
 by_cases e:k'=k
 ·simp[Va,Xx,e]
 ·simp[Va,Xx,e]
theorem Rf (k k':KK)(n:Int):∀ls:List (KK×Int),Va (ls.map fun x=>if x.1=k then (x.1,n) else x) k'=if k'=k then (Va ls k).map fun _=>n else Va ls k'
 |[]=>by
   by_cases e:k'=k
   ·rw[Xd e];rfl
   ·rw[Xb e];rfl
 |(j,m)::ls=>by
   rw[Xy];have ih:=Rf k k' n ls
   by_cases e:j=k
   ·simp only[e,if_true]
    rw[Wj,Wj,Wj,ih];by_cases e2:k'=k
    ·simp[e2]
    ·have:¬k=k':=fun z=>e2 z.symm
     simp[e2,this]
   ·simp only[e,if_false]
    rw[Wj,Wj,Wj,ih];by_cases e2:k'=k
    ·simp[e2,e]
    ·simp[e2]
theorem RW (k k':KK)(n:Int):∀ls:List (KK×Int),Va ls k=none->Va (ls++[(k,n)]) k'=if k'=k then some n else Va ls k'
 |[],_=>by
   rw[List.nil_append,Wj];by_cases e:k'=k
   ·rw[Xd e,Xd e.symm]
   ·rw[Xb e,Xb (fun z=>e z.symm)]
 |(j,m)::ls,h=>by
   rw[Wj]at h;by_cases e:j=k
   ·rw[Xd e]at h;cases h
   ·rw[Xb e]at h
    rw[WY,Wj,Wj,RW k k' n ls h];by_cases e2:k'=k
    ·rw[Xd e2,Xb (fun z=>e (z.trans e2)),Xd e2]
    ·rw[Xb e2,Xb e2]
def NR (ls:List (KK×Int))(k k':KK)(n:Int):Va (Yi ls k n) k'=if k'=k then some n else Va ls k':=by
 unfold Yi;cases h:Va ls k with
 |some m=>rw[Xd (by rfl),Rf,h];rfl
 |none=>rw[Xb (by simp),RW k k' n ls h]
def FJ (ls:List (KK×Int))(k:KK)(n:Int):(Yi ls k n).length<=ls.length+1:=by
 unfold Yi;split
 ·simp
 ·simp
def Se {ν:Type} [DecidableEq ν] (L:Lay ν):(YO L).length=2*L.length:=by
 unfold YO;induction L with
 |nil=>rfl
 |cons x L ih=>rw[BP,Xo,ih,XI];simp;omega
def NetR.elen {N:Qz}{L:Lay Nd}{φ:QS Nd}(h:NetR N L φ):N.ends.length=2*L.length:=by rw[h.ends,Xn,Se]
def Hk {ν:Type} [DecidableEq ν] (L:Lay ν)(φ:QS ν):(Vv L φ).length=2*L.length:=by
 unfold Vv;induction L with
 |nil=>rfl
 |cons x L ih=>rw[BP,Xo,ih,XI];simp;omega
def B0 {L:Lay Nd}{x:Nd×Nd×Int}{j:Nat}{n:Nd}:tlE (L++[x]) j=some n↔tlE L j=some n\/(j=2*L.length/\n=x.1)\/(j=2*L.length+1/\n=x.2.1):=by
 unfold tlE;by_cases h:j/2<L.length
 ·rw[XF h]
  constructor
  ·exact .inl
  ·rintro(z|⟨z,_⟩|⟨z,_⟩)
   ·exact z
   ·omega
   ·omega
 ·rw[X3 (by omega),HP.mpr (show L.length<=j/2 by omega)]
  by_cases h2:j/2=L.length
  ·rw[h2,Nat.sub_self]
   simp only[List.getElem?_cons_zero,YH,Option.map_none,Option.some.injEq];by_cases p:j%2=0
   ·rw[Xd p]
    constructor
    ·intro z;exact .inr (.inl ⟨by omega,z.symm⟩)
    ·rintro(z|⟨_,z⟩|⟨z,_⟩)
     ·cases z
     ·exact z.symm
     ·omega
   ·rw[Xb p]
    constructor
    ·intro z;exact .inr (.inr ⟨by omega,z.symm⟩)
    ·rintro(z|⟨z,_⟩|⟨_,z⟩)
     ·cases z
     ·omega
     ·exact z.symm
  ·have:([x]:Lay Nd)[j/2-L.length]?=none:=HP.mpr (by simp;omega)
   rw[this];constructor
   ·intro z;cases z
   ·rintro(z|⟨z,_⟩|⟨z,_⟩)
    ·cases z
    ·omega
    ·omega
theorem Ci {N:Qz}{L:Lay Nd}{φ:QS Nd}(h:NetR N L φ){s e:Nd}{r:Int}(h0:φ s e=0)(new:(s,e)∉L.map (fun x=>(x.1,x.2.1))):NetR (Ji N (nk s) (nk e) r) (L++[(s,e,r)]) φ where
 ends:=by
  show(N.ends++[nk e])++[nk s]=_
  unfold YO;rw[JT,XD,h.ends];simp[YO]
 rooms:=by
  show(N.rooms++[r])++[0]=_
  unfold Vv;rw[JT,h.rooms];simp[Vv,h0]
 leav n e':=by
  have le:=h.elen
  have l1:(Ua { N with laid:=Yi N.laid (nk s,nk e) (N.ends.length:Int) } (nk s) (nk e) r).ends.length=2*L.length+1:=by
   show(N.ends++[nk e]).length=_
   rw[Xo,le];rfl
  have q:(QK (Ji N (nk s) (nk e) r).leav (nk n)).getD []=((QK N.leav (nk n)).getD []++(if n=s then [((2*L.length:Nat):Int)] else []))++(if n=e then [((2*L.length+1:Nat):Int)] else []):=by
   unfold Ji;rw[U2,l1,U2,U2];show Option.getD (if nk n=nk e then some ((if nk e=nk s then some ((QK N.leav (nk s)).getD []++[(N.ends.length:Int)]) else QK N.leav (nk e)).getD []++[((2*L.length+1:Nat):Int)]) else if nk n=nk s then some ((QK N.leav (nk s)).getD []++[(N.ends.length:Int)]) else QK N.leav (nk n)) []=_;rw[le];simp only[TM];by_cases e1:n=e
   ·subst e1
    by_cases e2:n=s
    ·subst e2;simp
    ·simp[e2]
   ·by_cases e2:n=s
    ·subst e2;simp[e1]
    ·simp[e1,e2]
  rw[q,XH,XH,h.leav n e'];constructor
  ·rintro((⟨j,rfl,hj⟩|z)|z)
   ·exact⟨j,rfl,B0.mpr (.inl hj)⟩
   ·by_cases e2:n=s
    ·rw[Xd e2]at z
     exact⟨2*L.length,Xi.mp z,B0.mpr (.inr (.inl ⟨rfl,e2⟩))⟩
    ·rw[Xb e2]at z;cases z
   ·by_cases e2:n=e
    ·rw[Xd e2]at z
     exact⟨2*L.length+1,Xi.mp z,B0.mpr (.inr (.inr ⟨rfl,e2⟩))⟩
    ·rw[Xb e2]at z;cases z
  ·rintro⟨j,rfl,hj⟩
   rcases B0.mp hj with z|⟨rfl,z⟩|⟨rfl,z⟩
   ·exact .inl (.inl ⟨j,rfl,z⟩)
   ·exact .inl (.inr (by rw[Xd z];exact Xi.mpr rfl))
   ·exact .inr (by rw[Xd z];exact Xi.mpr rfl)
 laid i x hx:=by
  show Va (Yi N.laid (nk s,nk e) (N.ends.length:Int)) (nk x.1,nk x.2.1)=_;rw[NR,h.elen];by_cases hi:i<L.length
  ·rw[XF hi]at hx
   have ne:¬(nk x.1,nk x.2.1)=(nk s,nk e):=fun z=>new (by
    injection z with z1 z2;exact X4.mpr ⟨x,List.mem_of_getElem? hx,by rw[Jt z1,Jt z2]⟩)
   rw[Xb ne];exact h.laid i x hx
  ·rw[X3 (by omega)]at hx
   have hi2:i=L.length:=by
    have:=(Xh.mp hx).1
    simp at this
    omega
   subst hi2;rw[Nat.sub_self]at hx;cases hx;rw[Xd rfl]
 laid0 p q hn:=by
  show Va (Yi N.laid (nk s,nk e) (N.ends.length:Int)) (nk p,nk q)=_;rw[XD,XH,not_or]at hn;rw[NR,Xb (fun z=>?_)]
  ·exact h.laid0 p q hn.1
  ·injection z with z1 z2
   exact hn.2 (by rw[Jt z1,Jt z2];simp)
 l1:=by
  have a:=h.l1
  have b:(Ji N (nk s) (nk e) r).leav.length<=N.leav.length+2:=by
   unfold Ji;show(V7 (V5 (V7 (V5 N.leav (nk s)) (nk s) _) (nk e)) (nk e) _).length<=_;rw[Bx];refine X7 (Dp _ _) ?_;rw[Bx];have:=Dp N.leav (nk s);omega
  rw[Xo];simp;omega
 l2:=by
  have a:=h.l2;have b:(Ji N (nk s) (nk e) r).laid.length<=N.laid.length+1:=FJ _ _ _;rw[Xo];simp;omega
 l3 k ns hk:=by
  have g:∀k',((QK N.leav k').getD []).length<=2*L.length:=fun k'=>by
   cases z:QK N.leav k' with
   |none=>exact XQ _
   |some m=>exact h.l3 k' m z
  have g1:∀k',((QK (Ua { N with laid:=Yi N.laid (nk s,nk e) (N.ends.length:Int) } (nk s) (nk e) r).leav k').getD []).length<=2*L.length+1:=fun k'=>by
   rw[U2];by_cases z:k'=nk s
   ·rw[Xd z]
    have:=g (nk s)
    simpa using this
   ·rw[Xb z]
    have:=g k'
    show((QK N.leav k').getD []).length<=_
    omega
  unfold Ji at hk;rw[U2]at hk;rw[Xo];by_cases z:k=nk e
  ·rw[Xd z]at hk
   cases hk
   have:=g1 (nk e)
   simp at this ⊢
   omega
  ·rw[Xb z]at hk
   have:=g1 k
   rw[hk]at this;simp at this ⊢;omega
def Ef {L:Lay Nd}(hd:Dis L){φ:QS Nd}{a r r':Int}{e:Nat}(h1:(Vv L φ)[e]?=some r)(h2:(Vv L φ)[ZeF e]?=some r'):Vv L (VG L a φ e)=((Vv L φ).set e (r-a)).set (ZeF e) (r'+a):=by
 have me:ZeF e≠e:=by unfold ZeF;split<;>omega
 have mh:ZeF e/2=e/2:=by unfold ZeF;split<;>omega
 rw[Gz]at h1 h2;have h1':=h1;unfold rmE at h1 h2;rw[mh]at h2;cases ex:L[e/2]? with
 |none=>rw[ex]at h1;cases h1
 |some x =>
   rw[ex]at h1 h2;simp only[YH,Option.some.injEq]at h1 h2;have hp:VG L a φ e=V6 φ x.1 x.2.1 (if e%2=0 then a else -a):=by unfold VG;rw[ex]
   have bx:V6 φ x.1 x.2.1 (if e%2=0 then a else -a) x.1 x.2.1=φ x.1 x.2.1+(if e%2=0 then a else -a):=by unfold V6;rw[Xd ⟨rfl,rfl⟩]
   have le:e/2<L.length:=(Xh.mp ex).1;have lr:=Hk L φ;have le2:e<(Vv L φ).length:=by omega
   have lm:ZeF e<(Vv L φ).length:=by omega
   refine List.ext_getElem? fun i=>?_;rw[Gz,List.getElem?_set,List.getElem?_set,Gz,hp];by_cases im:ZeF e=i
   ·subst im
    rw[Xd rfl,Xd (show ZeF e<((Vv L φ).set e (r-a)).length by simpa using lm)]
    unfold rmE;rw[mh,ex];simp only[YH,Option.some.injEq];rw[bx];have pm:(ZeF e%2=0)=¬(e%2=0):=by
     apply propext
     unfold ZeF;split<;>omega
    by_cases p:e%2=0
    ·have p2:¬ZeF e%2=0:=by rw[pm];exact fun z=>z p
     rw[Xb p2]at h2 ⊢;rw[Xd p];omega
    ·have p2:ZeF e%2=0:=by rw[pm];exact p
     rw[Xd p2]at h2 ⊢;rw[Xb p];omega
   ·rw[Xb im]
    by_cases ie:e=i
    ·subst ie
     rw[Xd rfl,Xd le2];unfold rmE;rw[ex];simp only[YH,Option.some.injEq];rw[bx];by_cases p:e%2=0
     ·rw[Xd p]at h1 ⊢
      rw[Xd p];omega
     ·rw[Xb p]at h1 ⊢
      rw[Xb p];omega
    ·rw[Xb ie]
     unfold rmE;cases ey:L[i/2]? with
     |none=>rfl
     |some y =>
       have ne:¬(y.1=x.1/\y.2.1=x.2.1):=fun⟨z1,z2⟩=>by
        have q:=Dm hd ey ex z1 z2;unfold ZeF at im;split at im<;>omega
       have by':V6 φ x.1 x.2.1 (if e%2=0 then a else -a) y.1 y.2.1=φ y.1 y.2.1:=by unfold V6;rw[Xb ne]
       simp only[YH,by']
def Jk (L:Lay Nd)(φ:QS Nd)(es:Got Nd)(U:List Nd):Prop := ∀e m n r,tlE L e=some m->hdE L e=some n->rmE L φ e=some r->0<r->m∈QP es->m∉U->n∈QP es
def Jk.closed {L:Lay Nd}{φ:QS Nd}{es:Got Nd}(h:Jk L φ es []):VN L φ es:=fun e m n r h1 h2 h3 h4 h5=>h e m n r h1 h2 h3 h4 h5 (fun z=>nomatch z)
def WW {es:Got Nd}{x:Nd×Option Nat}{n:Nd}:n∈QP (es++[x])↔n∈QP es\/n=x.1:=by
 unfold QP;rw[XD,XH];simp
def Jk.add {L:Lay Nd}{φ:QS Nd}{es:Got Nd}{U V:List Nd}(h:Jk L φ es (U++V))(n:Nd)(o:Option Nat):Jk L φ (es++[(n,o)]) (U++(V++[n])):=fun e m k r h1 h2 h3 h4 h5 h6=>by
 rw[<- UE,XH,not_or]at h6;have ne:m≠n:=fun z=>h6.2 (by simp[z])
 rcases WW.mp h5 with z|z
 ·exact WW.mpr (.inl (h e m k r h1 h2 h3 h4 z h6.1))
 ·exact Xl z ne
theorem Tree.inClosed {L:Lay Nd}{φ:QS Nd}{s:Nd}{fs:Got Nd}(hc:VN L φ fs)(hs:s∈QP fs):∀{es:Got Nd},Tree L φ s es->∀n∈QP es,n∈QP fs
 |_,.root,n,hn=>by
   have e:n=s:=by simpa [QP] using hn
   rw[e];exact hs
 |_,.add t hn hh ht hm hr h0,n,hx=>by
   rcases WW.mp hx with z|z
   ·exact t.inClosed hc hs n z
   ·rw[z]
    exact hc _ _ _ _ ht hh hr h0 (t.inClosed hc hs _ hm)
end Mir
end
section
namespace L2
open PySem PySem.Spec PyProof.Rows
section
variable {K:W.Frag}{ρ:Q5}{ta tb tc te:TE}{D:PEnds}
end
end L2
end
namespace L2
open PySem
section
variable {prog:Program}{w:World}{A:Around}{E:Qb}{h:Heap}{g:Array GenState}{d:Drawn}{t:Nat}{os:OsState}
variable {nm q:Str}{C N:Addr}{bs bm bmB:Qe}{hdct:Bool}{sn:Qh}{sub:Qe}{ab:Bool}{col:Option Bool}{dd:Qj}{k0 k1 k2 k3 k5:Qf}{B newId initId:String}
abbrev M7 (C a:Addr):Obj:={ cls:=.ref C,data:=.fields #[.ref a,.none,.none,.none,.bool false,.none] }
abbrev TK (vs:Qe):Obj:={ cls:=.type "tuple",data:=.seq vs.toArray }
def Yo (h:Heap)(C:Addr)(vs:Qe):Heap:=(h.push (TK vs)).push (M7 C h.objs.size)
def T2 (F:ExcBaseFacts B newId initId bmB)(T:OwnTail h bmB bm){mN:Str->Qf}{rest:Qe}{f:Addr}{fo:Obj}{Q:Fin->Shared->Prop}
 (hC:h.get? C=some (excClassObj nm q C N bs bm hdct sn sub ab col dd k0 k1 k2 k3 k5 newId)) (hn:h.Ns N mN)
 (hi:mN "__init__"=some (.ref f)) (hf:h.get? f=some fo) (hc:fo.cls=.type "function") (hrest:rest.length<=sizeLine)
 (hq:wpAny (model prog w) A (call (.ref f) (.ref (h.objs.size+1)::rest)) (fun r s'=>r=.none/\Q (.done (.ret (.ref (h.objs.size+1)))) s') E ⟨Yo h C rest,g,d,t,os⟩) :
 wpAny (model prog w) A (Builtin.«type.__call__» ⟨.ref C::rest,[]⟩) Q E ⟨h,g,d,t,os⟩:=by
 have kp:∀b o,h.get? b=some o->(Yo h C rest).get? b=some o:=fun b o e=>Xf _ (Xf _ e)
 repeat (first
  |with_reducible refine wpAny_loadPart_at hC ?_
  |with_reducible refine wpAny_madeBy_exc hC ?_
  |wp_step)
 refine codeAny_call_builtin_code (Code.quiet_builtin _ F.quiet)
  (wpAny_check_new_subT F T hC ?_)
 refine codeAny_exc_new_subT F T hC ?_ hrest;show wpAny _ _ _ _ _ ⟨Yo h C rest,g,d,t,os⟩
 have me:(Yo h C rest).get? (h.objs.size+1)=some (M7 C h.objs.size):=by
  unfold Yo;exact Heap.get?_push_at (by rw[YG]) rfl
 have hC1:=kp _ _ hC;have hn1:(Yo h C rest).Ns N mN:=hn.keeps kp;have T1:=T.keeps kp;have own:(Value.ref C::bm).contains (.ref C)=true:=by simp
 unfold isInstance;repeat (first
  |with_reducible refine wpAny_loadPart_at me ?_
  |(with_reducible refine wpAny_isSubtype_exc hC1 ?_;rw[own])
  |wp_step)
 show wpAny _ _ (typeLookup (.ref C) _) _ _ _;refine wpAny_typeLookup_tail hC1 hn1 T1 F.mroIs F.init.lookup ?_;rw[hi];refine wpAny_holding (Xa (wpAny_bindSpecial_def (s:=⟨Yo h C rest,g,d,t,os⟩) (kp _ _ hf) hc ?_));refine Xa (wpAny_mono hq (fun r s' hr=>?_) fun _ _ z=>z);obtain⟨rfl,hr⟩:=hr
 wp_walk
 exact hr
def P5 (F:ExcBaseFacts B newId initId bmB)(T:OwnTail h bmB bm){mN:Str->Qf}{rest:Qe}{f:Addr}{fo:Obj}{Q:Qb}
 (hC:h.get? C=some (excClassObj nm q C N bs bm hdct sn sub ab col dd k0 k1 k2 k3 k5 newId)) (hn:h.Ns N mN)
 (hi:mN "__init__"=some (.ref f)) (hf:h.get? f=some fo) (hc:fo.cls=.type "function") (hrest:rest.length<=sizeLine)
 (hq:wpAny (model prog w) (A.under (.builtin "type.__call__" ⟨.ref C::rest,[]⟩)) (call (.ref f) (.ref (h.objs.size+1)::rest)) (fun r s'=>r=.none/\Q (.ref (h.objs.size+1)) s') E ⟨Yo h C rest,g,d,t,os⟩) :
 wpAny (model prog w) A (call (.ref C) rest) Q E ⟨h,g,d,t,os⟩:=by
 have l1:=tc_lookup;have l2:=tc_bind (.ref C);have ty:(⟨h,g,d,t,os⟩:Shared).TypeIs (.ref C) "type" := ⟨_,hC,rfl⟩;refine wpAny_call (codeAny_of_tree ?_);show wpAny _ _ (callAny (.ref C) _) _ _ _
 repeat (any_goals (first
  |assumption
  |with_reducible refine wpAny_loadPart_at hC ?_
  |wp_step))
 refine⟨rfl,?_⟩;refine codeAny_call_builtin_at (Code.quiet_builtin _ (by decide +kernel)) entry_typeCall (wpAny_check_type_call_sub hC ?_);refine T2 F T hC hn hi hf hc hrest ?_;exact wpAny_mono hq (fun r s' z=>z) fun _ _ z=>z
end
end L2
namespace L2
open PySem PySem.Spec PyProof.Rows
def phX (C e:Addr)(dct:Qj):Heap->Prop:=fun h=>∃(t:Addr) (sl:Array (Qf)),h.get? e=some { cls:=.ref C,dict:=dct,data:=.fields #[.ref t,.none,.none,.none,.bool false,.none],slots:=sl }
def MO {P:Program}{w:World}{H:Hp}{h:Heap}{C e:Addr}{dct:Qj}(p:phX C e dct h):Z6 P w H h e (.ext (phX C e dct)):=⟨p,by obtain⟨t,sl,q⟩:=p;exact⟨_,q⟩,fun h1 h2 p1 k=>by obtain⟨t,sl,q⟩:=p1;exact⟨t,sl,k _ q⟩⟩
section
variable {prog:Program}{w:World}{A:Around}{E:Qb}{h:Heap}{g:Array GenState}{d:Drawn}{t:Nat}{os:OsState}
variable {nm q:Str}{C N:Addr}{bs bm bmB:Qe}{hdct:Bool}{sn:Qh}{sub:Qe}{ab:Bool}{col:Option Bool}{dd:Qj}{k0 k1 k2 k3 k5:Qf}{B newId initId:String}
def Tk (F:ExcBaseFacts B newId initId bmB)(T:OwnTail h bmB bm){e a:Addr}{dct:Qj}{sl:Array (Qf)}{v:Value}{Q:Qb}
 (hC:h.get? C=some (excClassObj nm q C N bs bm hdct sn sub ab col dd k0 k1 k2 k3 k5 newId))
 (he:h.get? e=some { cls:=.ref C,dict:=dct,data:=.fields #[.ref a,.none,.none,.none,.bool false,.none],slots:=sl })
 (hq:∀h',(∀b o,b≠e->h.get? b=some o->h'.get? b=some o)->phX C e dct h'->Q .none ⟨h',g,d,t,os⟩) :
 wpAny (model prog w) A (call (.builtin initId) [.ref e,v]) Q E ⟨h,g,d,t,os⟩:=by
 refine wpAny_call (codeAny_call_builtin F.init.plain F.initEntry (wpAny_check_init_subT F T hC he rfl ?_))
 wp_walk using AutoSeq1.wpAny_loadPart' he
 refine hq _ (fun b o hb z=>?_) ⟨h.objs.size,sl,?_⟩
 ·rw[XM _ _ (Ne.symm hb)]
  exact Xf _ z
 ·rw[XX _ (Xf _ he) rfl]
  rfl
end
structure JY (K:W.Frag)(Y C f:Addr):Prop where
 ga:W.specialIn K (.ref Y) "__getattribute__"=some (some (.builtin "type.__getattribute__"))
 rd:W.readsIn K Y (.type "type")=true
 ini:W.findCls K (.ref Y) (.type "type") "__init__"=some (.val (.builtin "ValueError.__init__"))
 cls:∀h:Heap,K.In h->∃(bmB bm:Qe) (nm q:Str) (N:Addr) (bs:Qe) (hdct:Bool) (sn:Qh) (sub:Qe) (ab:Bool) (col:Option Bool) (dd:Qj) (k0 k1 k2 k3 k5:Qf),
  ExcBaseFacts "ValueError" "ValueError.__new__" "ValueError.__init__" bmB/\OwnTail h bmB bm/\h.get? C=some (excClassObj nm q C N bs bm hdct sn sub ab col dd k0 k1 k2 k3 k5 "ValueError.__new__") /\
  ∃(mN:Str->Qf) (fo:Obj),h.Ns N mN/\mN "__init__"=some (.ref f)/\h.get? f=some fo/\fo.cls=.type "function"
def tXI (C:Addr)(i:Nat):TE:=fun σ H Q=>∃e dct,σ[i]?=some (some (.ref e))/\H e=some (.ext (phX C e dct))/\Q .non H
def FC {X:Cx}{Y C f:Addr}(c:JY X.K Y C f){x y:Str}{i:Nat}{p0 p1 p2 p3 p4:Pos}{txt:Str}{kd:Nat}(hg:Gl X x)(hm:X.mg x=some (.ref Y))(hN:X.N[i]?=some y)(hv:Vis X.env.scope y)
 (hdb:(x==("__debug__" : Str))=false:=by decide) (hd:(y==("__debug__" : Str))=false:=by decide) (hcd:(y==("__classdict__" : Str))=false:=by decide) {pl:Sem Bool}
 (ht:eval (.Call (.Attribute (.Name x p0) "__init__" p1) [.Name y p2,.Constant (.str txt) kd p3] [] p4) X.env=(do
  let ov <- eval (.Name x p0) X.env
  standAt p1.atName
  let (f,first) <- holding [ov] (getMethod ov "__init__" pl)
  callWith p4 f first (backTo p4 (starEach [.Name y p2,.Constant (.str txt) kd p3] X.env)) (backToKw p4 (keywordEach [] X.env))):=by rfl) :
 PE X (.Call (.Attribute (.Name x p0) "__init__" p1) [.Name y p2,.Constant (.str txt) kd p3] [] p4) (tXI C i):=by
 intro XaR s σ H Q I h;obtain⟨e,dct,e1,e2,q⟩:=h;refine W.methodCall_KW (pl:=pl) (Jw I hg hm ?_ hdb) ht;refine W.method_cls I.kIn c.ga (W.cls_value I.kIn c.rd c.ini (by decide +kernel) ?_);have I1:=I.tok (s.toks+1);have args:PA X [.Name y p2,.Constant (.str txt) kd p3] (QE (QD i) (QE (tC (.str txt)) QO)):=Qo (KO hN hv hd hcd) (Qo VQ Qs);refine PyProof.Rows.callWith_builtin1 (Q6 (args p4 XaR _ σ H (fun vs H1=>vs=[.ref e,.str txt]/\H1=H) I1 ⟨_,e1,rfl,rfl⟩) fun us s1 ⟨vs,H1,I2,r,ev,eH⟩=>?_) rfl rfl;subst ev eH;cases r with
 |cons r1 r =>
 cases r with
 |cons r2 r =>
 cases r
 cases r1
 obtain⟨tk,rfl⟩:=r2;have hx:=I2.hok e _ e2;obtain⟨⟨ta,sl,he⟩,_,_⟩:=hx;obtain⟨bmB,bm,nm,qn,N,bs,hdct,sn,sub,ab,col,dd,k0,k1,k2,k3,k5,F,T,hC,_⟩:=c.cls _ I2.kIn;refine Tk F T hC he fun h' kp px=>?_;have mu:Mut (H1 e):=by rw[e2];trivial
 have W:=I2.write (h':=h') (t':=s1.toks) (o:=.ext (phX C e dct)) mu Qa kp (by obtain⟨_,_,z⟩:=px;exact⟨_,z⟩) (MO px)
 have eu:upd H1 e (.ext (phX C e dct))=H1:=by
  funext b
  by_cases hb:b=e
  ·subst hb;simp[upd,e2]
  ·simp[upd,hb]
 rw[eu]at W;exact⟨.non,H1,W,rfl,q⟩
def Wx:Qe->Bool
 |.ref _::r=>Wx r
 |l=>l==[.type "ValueError",.type "Exception",.type "BaseException",.type "object"]
theorem RP (self:Value):∀{l:Qe},Wx l=true->refuseLoop self "__setattr__" l=pure ()
 |.ref c::r,e=>by rw[refuseLoop_ref];exact RP self (by simpa [Wx] using e)
 |[],e=>by cases e
 |.type n::r,e=>by rw[show(Value.type n::r)=_ from beq_iff_eq.mp e];exact PySem.F.store_ValueError.passes self
theorem KY:∀{l:Qe},Wx l=true->l.contains (.type "object")=true
 |.ref c::r,e=>by rw[List.contains_cons,KY (l:=r) (by simpa [Wx] using e),Bool.or_true]
 |[],e=>by cases e
 |.type n::r,e=>by rw[show(Value.type n::r)=_ from beq_iff_eq.mp e];decide
section
open PySem.W
variable {prog:Program}{w:World}{A:Around}{R:Result->Shared->Prop}{K:Frag}{s:Shared}{x C:Addr}
def Pr {ox:Obj}{od:Option Obj}{name:Str}{tk:Tok}{v:Value}{r:Qf}(X:K.In s.heap)(I:W.InstAt s.heap x ox C od)(hp:((clsIn K C).any fun cd=>Wx cd.mro)=true)(ht:takerIn K C name=some r)
 (h:∀b,wpAny (model prog w) A.in1 (match r with|some a=>Builtin.ObjectAttr.setByDescriptor a (.ref x) v|none=>Builtin.ObjectAttr.storeInOwnDict (.ref x) (.ref C) (.str name tk) name v b)
  (fun fin s'=>match fin with|.done f=>R (.ok f) s'|.again c'=>c'.quiet=true/\codeAny (model prog w) A c' R s') (fun e s'=>R (.error e) s') s) :
 codeAny (model prog w) A (.call (.builtin "object.__setattr__") ⟨[.ref x,.str name tk,v],[]⟩) R s:=by
 have SF:=PySem.F.store_object;obtain⟨cd,hc,ho⟩:=any_some hp;have ne:cd.mro.isEmpty=false:=by cases q:cd.mro with|nil=>rw[q]at ho;cases ho|cons _ _=>rfl
 have sub:Looks (model prog w) s.heap (isInstance (.ref x) (.type "object")) true:=I.type.andThen (looks_mroIn X (by unfold mroIn;rw[hc,Option.bind_some,Xb (by rw[ne];decide),KY ho]));refine codeAny_call_builtin SF.slot.plain SF.entry (@check_slot (model prog w) _ _ s "object.__setattr__" "object" "__setattr__" (.ref x) [.str name tk,v] [] _ SF.kind SF.split sub (SF.args (.ref x) (.str name tk) v) ?_);obtain⟨attr,ha,hr⟩:=Option.bind_eq_some_iff.mp ht;have hm:Looks (model prog w) s.heap (mroOf (.ref C)) cd.mro:=(looks_clsIn X hc).andThen .now
 have L3:Looks (model prog w) s.heap (Builtin.ObjectAttr.storeTaker? attr) r:=by
  cases attr with
  |none=>cases hr;exact .now
  |some a =>
    obtain⟨b,hb,rfl⟩:=Option.map_eq_some_iff.mp hr;refine(looks_takesIn X hb).andThen ?_
    cases b<;>exact .now
 rw[osa_eq,refuse_eq];refine Xa (Xa (I.type.here (Xa (hm.here ?_))));rw[RP _ ho];refine Xk (Xa (I.type.here (Xa ((looks_findIn X ha).here (Xa (L3.here ?_))))));exact h _
def Py {E:Qb}{Q:Unit->Shared->Prop}{name:Str}{v:Value}{fs:Array Value}{sl:Array (Qf)}(X:K.In s.heap)
 (hs:findIn K (.ref C) "__setattr__"=some (some (.builtin "object.__setattr__"))) (hp:((clsIn K C).any fun cd=>Wx cd.mro)=true) (ht:takerIn K C name=some none) (hh:hasDictIn K C=true)
 (hx:s.heap.get? x=some { cls:=.ref C,dict:=none,data:=.fields fs,slots:=sl })
 (h:∀h' t',(∀b o,b≠x->s.heap.get? b=some o->h'.get? b=some o)->h'.get? x=some { cls:=.ref C,dict:=some s.heap.objs.size,data:=.fields fs,slots:=sl } ->
  h'.Ns1 s.heap.objs.size (fun y=>if y=name then some v else none)->Q () { s with heap:=h',toks:=t' }) :
 wpAny (model prog w) A (setAttr (.ref x) name v) Q E s:=by
 have J:W.InstAt s.heap x _ C none:=⟨hx,rfl,rfl,trivial⟩;refine W.set_plain X J hs (Pr (s:={ s with toks:=s.toks+1 }) (r:=none) X J hp ht fun b=>?_);obtain⟨cd,hc,hd'⟩:=W.any_some hh;refine Xa (Xk (Xa (Xa (wpAny_loadPart hx (Xa (W.Looks.here (s:={ s with toks:=s.toks+1 }) (W.looks_clsIn X hc) ?_))))));rw[hd'];have cx:(s.heap.push { cls:=.type "dict",data:=.dict #[] }).get? x=_:=Xf _ hx;have hxs:x≠s.heap.objs.size:=Xm (Xj hx);rw[Xb (by decide)];dsimp only;rw[Xb (by simp[typeHasDict])];refine Xa (wpAny_alloc' ?_);refine Xa (wpAny_update' cx ?_);refine Xk ?_
 have hgd:((s.heap.push { cls:=.type "dict",data:=.dict #[] }).update x fun o=>{ cls:=o.cls,dict:=some s.heap.objs.size,data:=o.data,slots:=o.slots }).get? s.heap.objs.size
  = some { cls:=.type "dict",data:=.dict #[] } :=
  (Heap.get?_update_ne _ _ _ _ hxs.symm).trans (Heap.get?_push_at rfl rfl)
 have hnd:((s.heap.push { cls:=.type "dict",data:=.dict #[] }).update x fun o=>{ cls:=o.cls,dict:=some s.heap.objs.size,data:=o.data,slots:=o.slots }).Ns s.heap.objs.size (fun _=>none) :=
  ⟨_,#[],_,hgd,rfl,fun e he=>Xl he (by simp),fun _=>rfl⟩
 show wpAny _ _ (Builtin.ObjectAttr.storeInDict s.heap.objs.size (.str name s.toks) name v) _ _ _;unfold Builtin.ObjectAttr.storeInDict Builtin.ObjectAttr.newKeyGuard;refine Xa (Xk (Xa (wpAny_nsSet1 (Heap.Ns1.of_empty hnd) fun h' hn' hs=>?_)));obtain⟨oD,esD,epD,hoD,hdD,hcD⟩:=hn'.count (Within.cons name v Within.nil);refine Xa (wpAny_lookBehind hoD (by rw[hdD];exact pastItsLine_dict (X7 hcD (by rw[XI,List.length_nil,sizeLine_eq];omega))) ?_);refine Xk (h _ _ (fun b ob hbx hb=>?_) ?_ hn')
 ·exact(hs.2 b (Xm (Xj hb))).trans ((Heap.get?_update_ne _ _ _ _ hbx).trans (Xf _ hb))
 ·exact(hs.2 x hxs).trans (XX _ cx rfl)
end
structure SL (K:W.Frag)(C:Addr):Prop where
 sa:W.findIn K (.ref C) "__setattr__"=some (some (.builtin "object.__setattr__"))
 ov:((W.clsIn K C).any fun cd=>Wx cd.mro)=true
 hd:W.hasDictIn K C=true
def sXF (C:Addr)(ta tv:TE)(f:Str):TS:=fun D σ H=>tv σ H fun y H1=>ta σ H1 fun x H2=>∃e,x=.ref e/\H2 e=some (.ext (phX C e none)) /\
 ∀dx,H2 dx=none->dx≠e->D.nx σ (upd (upd H2 e (.ext (phX C e (some dx)))) dx (.xd [(f,y)]))
section
variable {X:Cx}{o value:Expr}{f:Str}{pos pos':Pos}{ta tv:TE}{C:Addr}
def Li (c:SL X.K C)(ht:W.takerIn X.K C f=some none)(ha:PE X o ta)(hv:PE X value tv)(hs:swapsWith value (some (.Attribute o f pos')) pos.line X.env=pure false):PS X (.Assign [.Attribute o f pos'] value pos) (sXF C ta tv f):=by
 intro XaR s σ H D I h;refine plainObj_wpAny_Assign_Attribute (Q6 (hv XaR s σ H _ I h) fun u s1 ⟨y,H1,I1,ry,q⟩=>Q6 (ha XaR s1 σ H1 _ I1 q) fun ov s2 ⟨x,H2,I2,rx,e,ex,ea,q2⟩=>?_) hs;subst ex;obtain rfl:ov=Value.ref e:=rx;obtain⟨⟨ta,sl,he⟩,_,_⟩:=I2.hok e _ ea;refine Py I2.kIn c.sa c.ov ht c.hd he fun h' t' kp hx hn=>?_;have mu:Mut (H2 e):=by rw[ea];trivial
 have W:=I2.write (h':=h') (t':=t') (o:=.ext (phX C e (some s2.heap.objs.size))) mu Qa kp ⟨_,hx⟩ (MO ⟨ta,sl,hx⟩);have hne:s2.heap.objs.size≠e:=(Xm (Xj he)).symm;have hfr:H2 s2.heap.objs.size=none:=I2.fresh;refine⟨σ,_,W.track (a:=s2.heap.objs.size) (o:=.xd [(f,y)]) (by rw[Qt hne];exact hfr) I2.sz (XU I2.lt) (fun z c hc hz=>?_) (fun p hp hz=>?_) ⟨_,hn,fun g=>?_⟩,q2 _ hfr hne⟩
 ·obtain⟨v,hv⟩:=I2.cell z c hc
  subst hz;obtain⟨oc,hc2,_⟩:=hv;exact Xl (Xj hc2) (X5 _)
 ·have:=(I2.pin p hp).1
  rw[hz]at this;exact Xl (Xj this) (X5 _)
 ·show ZI (List.lookup g [(f,y)]) (if g=f then some u else none)
  by_cases hg:g=f
  ·subst hg;simp[List.lookup];exact ry
  ·rw[Xb hg]
   have:(g==f)=false:=by simpa using hg
   simp[List.lookup,this]
   trivial
end
def Mm (C:Addr)(sp:Sp)(E:XK)(t:TA):TE:=fun σ H Q=>t σ H fun vs H1=>vs.length<=1000/\∀x,H1 x=none ->
 sp (.ref x::vs) (upd H1 x (.ext (phX C x none))) (fun v H2=>v=.non/\Q (.ref x) H2) E
section
variable {X:Cx}{CX:CXT}{k:Nat}{f C Y:Addr}{fd:FuncData}{ps:Qh}{sp:Sp}{E:XK}{x:Str}{p pos:Pos}{e:Expr}{es:Qi}{t:TA}
def AM {XaR:Qc}{σ:St}{H:Hp}{s:Shared}{Q:VK}{us:Qe}{vs:List V}(c:JY X.K Y C f)(F:FnOk X.prog X.w X.K X.mg X.base CX k f fd ps sp)(hr:Room (k+1) X.A)(hb:Vb X.K fd ps [])
 (hx:Ye CX X E) (I:Qq X XaR σ H s) (r:QN vs us) (hl:vs.length<=1000)
 (h:∀x,H x=none->sp (.ref x::vs) (upd H x (.ext (phX C x none))) (fun v H2=>v=.non/\Q (.ref x) H2) E) :
 wpAny (model X.prog X.w) X.A (call (.ref C) us) (EP X XaR σ Q) X.xe s:=by
 obtain⟨bmB,bm,nm,qn,N,bs,hdct,sn,sub,ab,col,dd,k0,k1,k2,k3,k5,FB,T,hC,mN,fo,hN,hi,hf,hfc⟩:=c.cls _ I.kIn;have hq:=h (s.heap.objs.size+1) (I.hok.fresh (Jd _));obtain⟨hp,g,d,tk,os⟩:=s;have kp:∀b o,hp.get? b=some o->(Yo hp C us).get? b=some o:=fun b o e=>Xf _ (Xf _ e)
 have me:(Yo hp C us).get? (hp.objs.size+1)=some (M7 C hp.objs.size):=by
  unfold Yo;exact Heap.get?_push_at (by rw[YG]) rfl
 have I2:Qq X XaR σ (upd H (hp.objs.size+1) (.ext (phX C (hp.objs.size+1) none))) ⟨Yo hp C us,g,d,tk,os⟩:=I.laid (t':=tk) kp (Jd _) (MO ⟨_,_,me⟩);have r2:QN (V.ref (hp.objs.size+1)::vs) (Value.ref (hp.objs.size+1)::us):=.cons rfl r
 have hl2:(Value.ref (hp.objs.size+1)::us++[]).length=ps.length:=by
  have e:=r2.length;rw[F.len _ _ _ _ hq]at e;simpa using e.symm
 refine P5 FB T hC hN hi hf hfc (by rw[<- r.length,sizeLine_eq];omega) ?_;have run:=F.run _ X.stack _ _ ⟨Value.ref (hp.objs.size+1)::us,[]⟩ (Value.ref (hp.objs.size+1)::us) _ _ E (hr.make C us []) (I2.env0.make C us []) (by simpa using hb _ (Value.ref (hp.objs.size+1)::us) I2.kIn hl2) r2 hq;refine wpAny_call (codeAny_mono run fun r s' hq'=>?_)
 cases r with
 |error e=>exact hx XaR σ _ _ e s' I2 hq'
 |ok fl =>
   cases fl with
   |ret u =>
     obtain⟨v,H',I3,rv,ev,q3⟩:=I2.after hq';subst ev;exact⟨rv,⟨V.ref (hp.objs.size+1),H',I3,rfl,q3⟩⟩
   |next=>exact False.elim hq'
   |brk=>exact False.elim hq'
   |cont=>exact False.elim hq'
def F7 (c:JY X.K Y C f)(kp:W.keepIn X.K (.ref C)=true)(F:FnOk X.prog X.w X.K X.mg X.base CX k f fd ps sp)(hr:Room (k+1) X.A)(hg:Gl X x)(hm:X.mg x=some (.ref C))(hb:Vb X.K fd ps [])(hx:Ye CX X E)
 (ha:PA X (e::es) t) (hdb:(x==("__debug__" : Str))=false:=by decide) (he:starEach (e::es) X.env=(false,eval e X.env)::starEach es X.env:=by rfl) (hpl:(backTo pos (starEach es X.env)).any (·.1)=false:=by rfl) :
 PE X (.Call (.Name x p) (e::es) [] pos) (Mm C sp E t):=by
 intro XaR s σ H Q I h;refine wpAny_Call_Name_kw (Jw I hg hm ?_ hdb);refine W.callWith_K (h₀:=X.base) I.ok.mod.kin kp (Q6 (ha pos XaR s σ H _ I h) fun us s1 ⟨vs,H1,I1,r,q⟩=>⟨I1.kIn,?_⟩) he hpl;exact AM c F hr hb hx I1 r q.1 q.2
end
def sXR (C:Addr)(te:TE)(R:Addr->Qj->Hp->Prop):TS:=fun D σ H=>te σ H fun v H1=>∃e dct,v=.ref e/\H1 e=some (.ext (phX C e dct))/\R e dct H1
section
variable {M:Model}{A:Around}{E:Qb}{env:Env}
variable {nm q:Str}{C N:Addr}{bs bm:Qe}{hdct:Bool}{sn:Qh}{sub:Qe}{ab:Bool}{col:Option Bool}{dd:Qj}{k0 k1 k2 k3 k5:Qf}{newId:String}
def Lk {s:Shared}{x:Sem Value}{Q:Flow->Shared->Prop}(hh:A.handled=none)
 (h:wpAny M A x (fun v b9=>∃e t dct sl bm nm q N bs hdct sn sub ab col dd k0 k1 k2 k3 k5 newId,v=.ref e/\bm.contains (Value.type "BaseException")=true/\b9.heap.get? C=some (excClassObj nm q C N bs bm hdct sn sub ab col dd k0 k1 k2 k3 k5 newId) /\
  b9.heap.get? e=some { cls:=.ref C,dict:=dct,data:=.fields #[.ref t,.none,.none,.none,.bool false,.none],slots:=sl }/\E (.ref e) b9) E s) :
 wpAny M A (raiseStmt env (some x) none) Q E s:=by
 unfold raiseStmt;refine Xa (wpAny_mono h (fun v b9 bj=>?_) fun _ _ x=>x);obtain⟨e,t,dct,sl,bm,nm,q,N,bs,hdct,sn,sub,ab,col,dd,k0,k1,k2,k3,k5,newId,rfl,hbase,hC,he,hE⟩:=bj;have hcB:(Value.ref C::bm).contains (.type "BaseException")=true:=by rw[List.contains_cons,hbase,Bool.or_true]
 obtain⟨hp,g,d,tk,os⟩:=b9
 repeat (first|with_reducible refine wpAny_loadPart_at he ?_|with_reducible refine wpAny_loadPart_at hC ?_|(with_reducible refine wpAny_isSubtype_exc hC ?_;rw[hcB])|wp_step)
 exact wpAny_raiseNew_none hh hE
end
end L2
namespace L2
open PySem
section
variable {M:Model}{A:Around}{E:Qb}{s:Shared}
structure Leaves (l:List Env)(e:Addr)(oe:Obj)(h h':Heap)(T:Addr):Prop where
 keep:∀b o,b∉l.filterMap (·.frame)->b≠e->h.get? b=some o->h'.get? b=some o
 slot:∀b o,b∈l.filterMap (·.frame)->h.get? b=some o->∃sl,h'.get? b=some { o with slots:=sl }
 new:h.objs.size<=T
 exc:h'.get? e=some (Obj.mapFields (·.setIfInBounds 1 (Value.ref T)) oe)
 tb:∃oT ts,h'.get? T=some oT/\oT.data=.fields ts/\ts[3]?=some .none
def RB {base:Heap}{env:Env}{outer:List Env}{L e:Addr}{oe:Obj}{vs:Array Value}{head:Value}{hadNext:Bool}{Q:Unit->Shared->Prop}
 (hfr:A.frames=some (env::outer)) (hl:s.heap.FunFrames base (env::outer)) (hf:env.frame=some L)
 (he:s.heap.get? e=some oe) (hd:oe.data=.fields vs) (hsz:1<vs.size)
 (h:∀h' T,Leaves (env::outer) e oe s.heap h' T->Q () { s with heap:=h' }) :
 wpAny M A (do let a <- frameOf env;let pl <- entryPlaceOf L hadNext;let b <- EntryCells.newEntry head a .none (rawInt L) .none pl;setField (.ref e) 1 b) (fun _ s'=>wpAny M A (setFlight (.ref e) none) Q E s') E s:=by
 have hene:e∉(env::outer).filterMap (·.frame):=fun hm=>by
  obtain⟨_,o,ho,hnf⟩:=hl.mem hm;rw[he]at ho;injection ho with ho;subst ho;exact hnf vs hd
 refine Xa (wpAny_frameOf_fun hfr hl hf fun bj bw=>?_);refine Xa (wpAny_entryPlaceOf fun pl hpl=>?_);unfold EntryCells.newEntry newFields;refine Xa (wpAny_newObj_type ?_ (hpl.sizeOk5 _ _ _ _ _));have cz:bj.get? e=some oe:=(bw.2.1 e hene).trans he;have c8:=Xf (h:=bj) { cls:=.type "traceback",dict:=none,data:=.fields ([head,.ref L,.none,rawInt L,.none]++(if pl.isEmpty then List.replicate 6 Value.none else pl)).toArray } cz;refine wpAny_setField c8 hd hsz ?_;have hTe:bj.objs.size≠e:=XU (Xj cz);have d5:=Obj.data_mapFields hd (·.setIfInBounds 1 (Value.ref bj.objs.size));have d6:=XX (Obj.mapFields (·.setIfInBounds 1 (Value.ref bj.objs.size))) c8 (Obj.isFreed_of_fields d5)
 have d7:=(XM (bj.push { cls:=.type "traceback",dict:=none,data:=.fields ([head,.ref L,.none,rawInt L,.none]++(if pl.isEmpty then List.replicate 6 Value.none else pl)).toArray })
  (Obj.mapFields (·.setIfInBounds 1 (Value.ref bj.objs.size))) (Ne.symm hTe)).trans (Xu bj rfl)
 unfold setFlight;refine Xa (Jc d6 d5 (x:=.ref bj.objs.size) (by simp[hsz]) ?_);rw[Xd (show(Value.ref bj.objs.size != Value.none)=true from by simp)];refine wpAny_setField d7 rfl (by simp only[Xv,Xo,XI,List.length_nil]<;>omega) (h _ bj.objs.size ?_)
 have keep:∀b o,b≠e->bj.get? b=some o ->
  (((bj.push { cls:=.type "traceback",dict:=none,data:=.fields ([head,.ref L,.none,rawInt L,.none]++(if pl.isEmpty then List.replicate 6 Value.none else pl)).toArray }).update e (Obj.mapFields (·.setIfInBounds 1 (Value.ref bj.objs.size)))).update bj.objs.size
    (Obj.mapFields (·.setIfInBounds 3 ((none:Qj).elim Value.none fun f=>rawInt f)))).get? b=some o:=fun b o hbe hb=>by
  have hbT:bj.objs.size≠b:=XU (Xj hb);rw[XM _ _ hbT,XM _ _ (Ne.symm hbe)];exact Xf _ hb
 refine⟨fun b o hb hbe ho=>keep b o hbe ((bw.2.1 b hb).trans ho),fun b o hb ho=>?_,?_,?_,?_⟩
 ·obtain⟨sl,hs⟩:=bw.2.2 b o ho
  exact⟨sl,keep b _ (fun q=>hene (q▸hb)) hs⟩
 ·exact Nat.le_of_eq bw.1.symm
 ·rw[XM _ _ hTe];exact d6
 ·exact⟨_,_,XX _ d7 (Obj.isFreed_of_fields (Obj.data_mapFields rfl _)),Obj.data_mapFields rfl _,by first|(simp;done)|(rcases hpl with rfl|⟨_,_,_,_,_,_,_,rfl⟩<;>simp)⟩
def E5 {base:Heap}{env:Env}{outer:List Env}{L e:Addr}{oe:Obj}{vs:Array Value}{Q:Unit->Shared->Prop}
 (hfr:A.frames=some (env::outer)) (hl:s.heap.FunFrames base (env::outer)) (hf:env.frame=some L)
 (he:s.heap.get? e=some oe) (hd:oe.data=.fields vs) (h1:vs[1]?=some .none)
 (h:∀h' T,Leaves (env::outer) e oe s.heap h' T->Q () { s with heap:=h' }):wpAny M A (leaving env (.ref e)) Q E s:=by
 unfold leaving noteFrame;simp only[hf];refine Xa (Xa (Jc he hd h1 ?_));rw[Xb (by decide)];exact RB hfr hl hf he hd (Array.getElem?_eq_some_iff.mp h1).1 h
def SE {base:Heap}{env:Env}{outer:List Env}{L e T0:Addr}{oe oT:Obj}{vs ts:Array Value}{Q:Unit->Shared->Prop}
 (hfr:A.frames=some (env::outer)) (hl:s.heap.FunFrames base (env::outer)) (hf:env.frame=some L)
 (he:s.heap.get? e=some oe) (hd:oe.data=.fields vs) (h1:vs[1]?=some (.ref T0)) (hTe:T0≠e) (hT:s.heap.get? T0=some oT) (hdT:oT.data=.fields ts) (h3:ts[3]?=some .none)
 (h:∀h' T,Leaves (env::outer) e oe s.heap h' T->Q () { s with heap:=h' }):wpAny M A (noteFrame (.ref e) env) (fun _ s'=>wpAny M A (setFlight (.ref e) none) Q E s') E s:=by
 unfold noteFrame;simp only[hf];refine Xa (Jc he hd h1 ?_);rw[Xd (show(Value.ref T0 != Value.none)=true from by simp)];refine Xa (Jc hT hdT h3 ?_);rw[Xb (show ¬((Value.none==rawInt L)=true) from by simp[rawInt])];refine Xa (wpAny_setField hT hdT (Array.getElem?_eq_some_iff.mp h3).1 ?_);have hsz3:3<ts.size:=(Array.getElem?_eq_some_iff.mp h3).1
 have same:Obj.mapFields (·.setIfInBounds 3 Value.none) oT=oT:=by
  obtain⟨c,d,dt,sl⟩:=oT
  subst hdT;have:ts.setIfInBounds 3 Value.none=ts:=by
   apply Array.ext_getElem?
   intro i;rw[Array.getElem?_setIfInBounds];by_cases hi:3=i
   ·subst hi;rw[Xd rfl,Xd hsz3,h3]
   ·rw[Xb hi]
  unfold Obj.mapFields;simp[this]
 have all:∀b o,s.heap.get? b=some o->(s.heap.update T0 (Obj.mapFields (·.setIfInBounds 3 Value.none))).get? b=some o:=fun b o hb=>by
  by_cases q:b=T0
  ·subst q
   rw[hT]at hb;cases hb;rw[XX _ hT (Obj.isFreed_of_fields (Obj.data_mapFields hdT _)),same]
  ·rw[XM _ _ (Ne.symm q)];exact hb
 refine RB (s:={ s with heap:=_ }) hfr (hl.of_keeps fun b o hb hnf=>⟨o,all b o hb,rfl⟩) hf (all e _ he) hd (Array.getElem?_eq_some_iff.mp h1).1 fun h' T Z=>h h' T ?_
 exact⟨fun b o x1 x2 x3=>Z.keep b o x1 x2 (all b o x3),fun b o x1 x2=>Z.slot b o x1 (all b o x2),by have:=Z.new;simpa only [Heap.size_update] using this,Z.exc,Z.tb⟩
def Eb {base:Heap}{env:Env}{outer:List Env}{L e T0:Addr}{oe oT:Obj}{vs ts:Array Value}{Q:Unit->Shared->Prop}
 (hfr:A.frames=some (env::outer)) (hl:s.heap.FunFrames base (env::outer)) (hf:env.frame=some L)
 (he:s.heap.get? e=some oe) (hd:oe.data=.fields vs) (h1:vs[1]?=some (.ref T0)) (hTe:T0≠e) (hT:s.heap.get? T0=some oT) (hdT:oT.data=.fields ts) (h3:ts[3]?=some .none)
 (h:∀h' T,Leaves (env::outer) e oe s.heap h' T->Q () { s with heap:=h' }):wpAny M A (leaving env (.ref e)) Q E s:=Xa (SE hfr hl hf he hd h1 hTe hT hdT h3 h)
end
end L2
namespace L2
open PySem PySem.Spec PyProof.Rows
def phT (T:Addr):Heap->Prop:=fun h=>∃oT ts,h.get? T=some oT/\oT.data=.fields ts/\ts[3]?=some .none
def phF (C e:Addr)(dct:Qj)(T:Addr):Heap->Prop:=fun h=>∃(vs:Array Value) (sl:Array (Qf)),h.get? e=some { cls:=.ref C,dict:=dct,data:=.fields vs,slots:=sl }/\vs[1]?=some (.ref T)/\vs[2]?=some .none
def P8 {P:Program}{w:World}{H:Hp}{h:Heap}{T:Addr}(p:phT T h):Z6 P w H h T (.ext (phT T)):=⟨p,by obtain⟨o,_,q,_⟩:=p;exact⟨_,q⟩,fun h1 h2 p1 k=>by obtain⟨o,ts,q,r⟩:=p1;exact⟨o,ts,k _ q,r⟩⟩
def PJ {P:Program}{w:World}{H:Hp}{h:Heap}{C e T:Addr}{dct:Qj}(p:phF C e dct T h):Z6 P w H h e (.ext (phF C e dct T)):=⟨p,by obtain⟨o,_,q,_⟩:=p;exact⟨_,q⟩,fun h1 h2 p1 k=>by obtain⟨o,ts,q,r⟩:=p1;exact⟨o,ts,k _ q,r⟩⟩
abbrev left (C e:Addr)(dct:Qj)(T:Addr)(H:Hp):Hp:=upd (upd H e (.ext (phF C e dct T))) T (.ext (phT T))
section
variable {X:Cx}{XaR:Qc}{σ:St}{H:Hp}{s:Shared}
def DL {C e T:Addr}{dct:Qj}{vs:Array Value}{sl:Array (Qf)}{h':Heap}(I:Qq X XaR σ H s)(mu:Mut (H e))
 (he:s.heap.get? e=some { cls:=.ref C,dict:=dct,data:=.fields vs,slots:=sl }) (hsz:1<vs.size) (hc2:vs[2]?=some .none)
 (Z:Leaves X.stack e { cls:=.ref C,dict:=dct,data:=.fields vs,slots:=sl } s.heap h' T):Qq X XaR σ (left C e dct T H) { s with heap:=h' }:=by
 have hTe:T≠e:=XU (Xp (Xj he) Z.new);have hnone:∀b,H b=none->b≠e:=fun b hb q=>by subst q;rw[hb]at mu;exact mu
 have hlt:∀b o,H b=some o->b≠T:=fun b o hb=>Xm (Xp (I.hok.lt hb) Z.new)
 have hne:∀b o,H b=some o->b≠e->left C e dct T H b=some o:=fun b o hb q=>by
  unfold left;rw[Qt (hlt b o hb),Qt q];exact hb
 have nfr:∀b o,H b=some o->b∉frs X.stack:=fun b o hb q=>by rw[I.stkFree b q]at hb;cases hb
 have nmu:∀b o,H b=some o->¬Mut (some o)->b≠e:=fun b o hb n q=>by subst q;rw[hb]at mu;exact n mu
 have U:Un (frs X.stack) [] H (left C e dct T H) s.heap h' :=
  { keep:=fun b o ho hb hf _=>Z.keep b o hf (hnone b hb) ho
    slot:=fun b o ho hb hf _=>Z.slot b o hf ho
    free:=fun b o ho hb _=>by
     unfold left;rw[Qt (Xm (Xp (Xj ho) Z.new)),Qt (hnone b hb)];exact hb
    there:=fun b o ho _=>by
     by_cases hf:b∈frs X.stack
     ·obtain⟨sl,z⟩:=Z.slot b o hf ho;exact⟨_,z⟩
     ·by_cases q:b=e
      ·subst q;exact⟨_,Z.exc⟩
      ·exact⟨_,Z.keep b o hf q ho⟩
    tups:=fun b xs hb=>hne b _ hb (nmu b _ hb (fun z=>z))
    frzs:=fun b o u hb=>hne b _ hb (nmu b _ hb (fun z=>z))
    tupo:=fun b xs o hb ho _=>Z.keep b o (nfr b _ hb) (nmu b _ hb (fun z=>z)) ho
    tbls:=fun b ps hb=>⟨#[],by rw[hne b _ hb (nmu b _ hb (fun z=>z))];simp⟩ }
 have hok:HOk X.prog X.w (left C e dct T H) h':=fun b u hb=>by
  by_cases q:b=T
  ·subst q
   unfold left at hb;rw[QA]at hb;cases hb;exact P8 Z.tb
  ·by_cases q2:b=e
   ·subst q2
    unfold left at hb;rw[Qt q,QA]at hb;cases hb;exact PJ ⟨_,_,Z.exc,by simp[hsz],by rw[Array.getElem?_setIfInBounds_ne (by decide)];exact hc2⟩
   ·have hb':H b=some u:=by unfold left at hb;rw[Qt q,Qt q2]at hb;exact hb
    refine(I.hok b u hb').stay (fun c v hc hv=>?_) (fun c hc=>?_) fun c xs hc=>?_
    ·rcases hc with z|z
     ·subst z;exact Z.keep c v (nfr c _ hb') q2 hv
     ·exact Z.keep c v (nfr c _ z) (nmu c _ z (fun z=>z)) hv
    ·exact hne c _ hc (nmu c _ hc (fun z=>z))
    ·exact hne c _ hc (nmu c _ hc (fun z=>z))
 obtain⟨hh,g,d,t,os⟩:=s;exact I.call (h':=h') (g':=g) (d':=d) (t':=t) (ch:=[]) U hok I.bare fun b z=>nomatch z
end
def Fly (C e:Addr)(dct:Qj)(H:Hp):Prop := ∃T,T≠e/\H e=some (.ext (phF C e dct T))/\H T=some (.ext (phT T))
def XE (C:Addr)(R:Addr->Qj->Hp->Prop):XK:=fun v dct H=>∃e,v=.ref e/\Fly C e dct H/\R e dct H
def CX1 (P:Program)(w:World):CXT:=fun outer H s E v s'=>∃dct H',s'.os=s.os/\AllBare s'.gens/\Un (frs outer) [] H H' s.heap s'.heap/\HOk P w H' s'.heap/\E v dct H'
def VE (C:Addr)(R:Addr->Qj->Hp->Prop):Prop := ∀e dct H T,R e dct H->H T=none->T≠e->R e dct (left C e dct T H)
section
variable {P:Program}{w:World}{K:W.Frag}{mg:Str->Qf}{base:Heap}{N:Qh}{qual:Str}{scope:Scope}{f:Addr}{cd:Value}{A:Around}{outer:List Env}{s0:Shared}{H0:Hp}{C:Addr}{R:Addr->Qj->Hp->Prop}
abbrev cx1 (P:Program)(w:World)(K:W.Frag)(mg:Str->Qf)(base:Heap)(N:Qh)(qual:Str)(scope:Scope)(f:Addr)(cd:Value)(A:Around)(outer:List Env)(s0:Shared)(H0:Hp)(E:XK):Cx:=Vi (CX1 P w) P w K mg base N qual scope f cd A outer s0 H0 E
variable {XaR:Qc}{σ:St}{H:Hp}{s:Shared}
def F8 {e T:Addr}{dct:Qj}(h:T≠e):Fly C e dct (left C e dct T H):=⟨T,h,by unfold left;rw[Qt (Ne.symm h),QA],by unfold left;rw[QA]⟩
def KJ {e:Addr}{dct:Qj}{h':Heap}{T:Addr}(hR:VE C R)(I:Qq (cx1 P w K mg base N qual scope f cd A outer s0 H0 (XE C R)) XaR σ (left C e dct T H) { s with heap:=h' })(hT:H T=none)(hTe:T≠e)(r:R e dct H) :
 CX1 P w outer H0 s0 (XE C R) (.ref e) { s with heap:=h' }:=⟨dct,_,I.os,I.bare,I.base,I.hok,e,rfl,F8 hTe,hR e dct H T r hT hTe⟩
def CA {e:Addr}{dct:Qj}(hR:VE C R)(I:Qq (cx1 P w K mg base N qual scope f cd A outer s0 H0 (XE C R)) XaR σ H s)(he:H e=some (.ext (phX C e dct)))(r:R e dct H) :
 (cx1 P w K mg base N qual scope f cd A outer s0 H0 (XE C R)).xe (.ref e) s:=by
 obtain⟨⟨t,sl,hx⟩,_,_⟩:=I.hok e _ he;refine E5 I.ok.frames I.stack rfl hx rfl rfl fun h' T Z=>?_;exact KJ hR (DL I (by rw[he];trivial) hx (by simp) rfl Z) (I.hok.fresh Z.new) (XU (Xp (Xj hx) Z.new)) r
def Kx (hR:VE C R):Ye (CX1 P w) (cx1 P w K mg base N qual scope f cd A outer s0 H0 (XE C R)) (XE C R):=by
 intro XaR σ H s v s' I h;obtain⟨dct,H',os,bare,un,hok,e,rfl,⟨T0,hT0,he,hT⟩,r⟩:=h;obtain⟨hh,g,d,t,os'⟩:=s';obtain rfl:os'=s.os:=os;have I2:=I.call (h':=hh) (g':=g) (d':=d) (t':=t) (ch:=[]) un hok bare (fun b z=>nomatch z);obtain⟨⟨vs,sl,hx,h1,h2c⟩,_,_⟩:=I2.hok e _ he;obtain⟨⟨oT,ts,hx2,h2,h3⟩,_,_⟩:=I2.hok T0 _ hT;refine Eb I2.ok.frames I2.stack rfl hx rfl h1 hT0 hx2 h2 h3 fun h' T Z=>?_;exact KJ hR (DL I2 (by rw[he];trivial) hx (Array.getElem?_eq_some_iff.mp h1).1 h2c Z) (I2.hok.fresh Z.new) (XU (Xp (Xj hx) Z.new)) r
end
section
variable {X:Cx}{C Y f:Addr}{e:Expr}{te:TE}{pos:Pos}{R:Addr->Qj->Hp->Prop}
def FN (c:JY X.K Y C f)(calm:X.calm=true)(hv:PE X e te)(hx:∀XaR σ H s a dct,Qq X XaR σ H s->H a=some (.ext (phX C a dct))->R a dct H->X.xe (.ref a) s):PS X (.Raise (some e) none pos) (sXR C te R):=by
 intro XaR s σ H D I h;rw[arm_exec_Raise];simp only[evalOpt,Option.map];refine Xa (wpAny_standAt (Lk (C:=C) (I.ok.hd calm) (Xa (Q6 (hv XaR s σ H _ I h) fun u s1 ⟨v,H1,I1,r,a,dct,ev,ea,q⟩=>Xa (wpAny_standAt (Xk ?_))))));subst ev;obtain rfl:u=Value.ref a:=r;obtain⟨⟨t,sl,hx1⟩,_,_⟩:=I1.hok a _ ea;obtain⟨bmB,bm,nm,qn,N,bs,hdct,sn,sub,ab,col,dd,k0,k1,k2,k3,k5,FB,T,hC,_⟩:=c.cls _ I1.kIn
 exact⟨a,t,dct,sl,bm,nm,qn,N,bs,hdct,sn,sub,ab,col,dd,k0,k1,k2,k3,k5,_,rfl,T.hasType FB.hasBase,hC,hx1,hx _ _ _ _ _ _ I1 ea q⟩
end
inductive Lefts (C e:Addr)(dct:Qj):Hp->Hp->Prop
 |nil {H}:Lefts C e dct H H
 |step {H H' T}:Lefts C e dct H H'->H' T=none->T≠e->Lefts C e dct H (left C e dct T H')
def Lefts.head {C e:Addr}{dct:Qj}{H H':Hp}{T:Addr}(hT:H T=none)(he:T≠e)(h:Lefts C e dct (left C e dct T H) H'):Lefts C e dct H H':=by
 induction h with
 |nil=>exact .step .nil hT he
 |step _ a b ih=>exact .step ih a b
abbrev WN (X:Cx)(e:Addr)(pn:Qc):Cx:={ X with pn:=pn,A:=X.A.mark (some (.ref e)),calm:=false,xe:=fun _ _=>False }
section
variable {X:Cx}{XaR:Qc}{σ:St}{H:Hp}{s:Shared}{C:Addr}{th:TS}{D:Ends}
def Qq.toPn (I:Qq X XaR σ H s):Qq { X with pn:=X.pn++XaR } [] σ H s :=
 ⟨⟨I.ok.mod,I.ok.kind,I.ok.glob,I.ok.blt,I.ok.above,I.ok.inj,I.ok.has,I.ok.cab,I.ok.hd,I.ok.frames,I.ok.stk,I.ok.exf,I.ok.bs,I.ok.bsz,I.ok.noex,I.ok.exfs,I.ok.funs,I.ok.frf⟩,I.os,I.bare,I.base,I.loc,I.cell,I.free,I.freeC,fun p hp=>I.pin p (by simpa using hp),I.hok,I.len⟩
def Qq.ofPn {pins':Qc}(I:Qq { X with pn:=X.pn++XaR } pins' σ H s):Qq X XaR σ H s :=
 ⟨⟨I.ok.mod,I.ok.kind,I.ok.glob,I.ok.blt,I.ok.above,I.ok.inj,I.ok.has,I.ok.cab,I.ok.hd,I.ok.frames,I.ok.stk,I.ok.exf,I.ok.bs,I.ok.bsz,I.ok.noex,I.ok.exfs,I.ok.funs,I.ok.frf⟩,I.os,I.bare,I.base,I.loc,I.cell,I.free,I.freeC,fun p hp=>I.pin p (JV _ hp),I.hok,I.len⟩
def Qq.toHandler {pn:Qc}{e:Addr}(I:Qq { X with pn:=pn } XaR σ H s):Qq (WN X e pn) XaR σ H s :=
 ⟨⟨I.ok.mod,I.ok.kind,I.ok.glob,I.ok.blt,I.ok.above,I.ok.inj,I.ok.has,I.ok.cab,(fun z=>by cases z),I.ok.frames,I.ok.stk,I.ok.exf,I.ok.bs,I.ok.bsz,I.ok.noex,I.ok.exfs,I.ok.funs,I.ok.frf⟩,I.os,I.bare,I.base,I.loc,I.cell,I.free,I.freeC,I.pin,I.hok,I.len⟩
def Qq.ofHandler {pn:Qc}{e:Addr}(hc:X.Ok)(I:Qq (WN X e pn) XaR σ H s):Qq { X with pn:=pn } XaR σ H s :=
 ⟨⟨I.ok.mod,I.ok.kind,I.ok.glob,I.ok.blt,I.ok.above,I.ok.inj,I.ok.has,I.ok.cab,hc.hd,hc.frames,I.ok.stk,I.ok.exf,I.ok.bs,I.ok.bsz,I.ok.noex,I.ok.exfs,I.ok.funs,I.ok.frf⟩,I.os,I.bare,I.base,I.loc,I.cell,I.free,I.freeC,I.pin,I.hok,I.len⟩
def SP.ofPn {f:Flow}{s':Shared}{pins':Qc}{E:Qb}(h:SP { X with pn:=X.pn++XaR,xe:=E } pins' D f s'):SP X XaR D f s':=by
 have o:∀{σ' H'},Qq { X with pn:=X.pn++XaR,xe:=E } pins' σ' H' s'->Qq X XaR σ' H' s':=fun I=>Qq.ofPn (I.unwish (X:={ X with pn:=X.pn++XaR }))
 cases f with
 |next=>obtain⟨σ',H',I,q⟩:=h;exact⟨σ',H',o I,q⟩
 |brk=>obtain⟨σ',H',I,q⟩:=h;exact⟨σ',H',o I,q⟩
 |cont=>obtain⟨σ',H',I,q⟩:=h;exact⟨σ',H',o I,q⟩
 |ret u=>obtain⟨v,σ',H',I,r,q⟩:=h;exact⟨v,σ',H',o I,r,q⟩
end
def Ev {M:Model}{A:Around}{E:Qb}{s:Shared}{C e T:Addr}{dct:Qj}{Q:Unit->Shared->Prop}(he:phF C e dct T s.heap)(hT:phT T s.heap)
 (h:∀h',(∀b o,s.heap.get? b=some o->h'.get? b=some o)->Q () { s with heap:=h' }):wpAny M A (setFlight (.ref e) none) Q E s:=by
 obtain⟨vs,sl,hx,h1,_⟩:=he;obtain⟨oT,ts,hx2,hdT,h3⟩:=hT;have hsz3:3<ts.size:=(Array.getElem?_eq_some_iff.mp h3).1
 have same:Obj.mapFields (·.setIfInBounds 3 Value.none) oT=oT:=by
  obtain⟨c,d,dt,sl⟩:=oT
  subst hdT;have:ts.setIfInBounds 3 Value.none=ts:=by
   apply Array.ext_getElem?
   intro i;rw[Array.getElem?_setIfInBounds];by_cases hi:3=i
   ·subst hi;rw[Xd rfl,Xd hsz3,h3]
   ·rw[Xb hi]
  unfold Obj.mapFields;simp[this]
 refine wpAny_setFlight_none hx rfl h1 hx2 hdT hsz3 (h _ fun b o hb=>?_)
 by_cases q:b=T
 ·subst q
  rw[hx2]at hb;cases hb;rw[XX _ hx2 (Obj.isFreed_of_fields (Obj.data_mapFields hdT _)),same]
 ·rw[XM _ _ (Ne.symm q)];exact hb
def BX (tb:Ends->TS):TS:=fun D σ H=>tb D D σ H
section
variable {X:Cx}{C Y f:Addr}{th:TS}{tb:Ends->TS}{body suite:List Stmt}{b0:Stmt}{x:Str}{np hpos pos:Pos}{rest:List ExceptHandler}
end
end L2
namespace L2
open PySem PySem.Spec PyProof.Rows PySem.W
abbrev Kl:Qe:=[.type "ValueError",.type "Exception",.type "BaseException",.type "object"]
def Ep {K:Frag}{h:Heap}{N:Addr}{mg:Str->Qf}{n:Str}{v:Value}(X:K.In h)(G:h.Ns N mg)(e:nsIn K N n=some (some v)):mg n=some v:=by
 obtain⟨o,es,ep,ho,hd,_,hf⟩:=G;unfold nsIn at e;split at e
 ·rename_i c d es' n' sl q
  have:=X _ _ q
  rw[ho]at this;cases this
  cases hd
  split at e
  ·rename_i he
   cases e
   rw[<- hf];unfold nsFind findBy;rw[<- Array.find?_toList,he];rfl
  ·split at e<;>cases e
 ·cases e
def MA (K:Frag)(C f:Addr):Bool:=match K.lookup C with
 |some ⟨.type "type",_,.cls cd,sl⟩=>(match cd.mro,sl.toList with
   |.ref C'::bm,[_,_,_,_,some (.builtin n),_]=>C'==C&&n == "ValueError.__new__" && !cd.hasDel&&tailIn K Kl bm&&nsOkIn K cd.ns&&nsIn K cd.ns "__init__" == some (some (.ref f))
   |_,_=>false)
 |_=>false
theorem TY {K:Frag} {Y C f:Addr} {fo:Obj} (q:MA K C f=true) (lf:K.lookup f=some fo) (hf:fo.cls=.type "function")
 (ga:specialIn K (.ref Y) "__getattribute__"=some (some (.builtin "type.__getattribute__"))) (rd:readsIn K Y (.type "type")=true) (ini:findCls K (.ref Y) (.type "type") "__init__"=some (.val (.builtin "ValueError.__init__"))):JY K Y C f where
 ga:=ga
 rd:=rd
 ini:=ini
 cls:=fun h X=>by
  unfold MA at q;split at q
  ·rename_i dd cd sl ho
   split at q
   ·rename_i C' bm k0 k1 k2 k3 n k5 hm hs
    simp only[WZ,beq_iff_eq,Bool.not_eq_true']at q;obtain⟨⟨⟨⟨⟨rfl,rfl⟩,hdel⟩,ht⟩,hok⟩,hni⟩:=q;obtain⟨nm,bs,mro,ns,qn,hd,sn,sub,ab,col,del⟩:=cd
    dsimp only at hm hdel hok hni;subst hm hdel;have hsl:sl=#[k0,k1,k2,k3,some (.builtin "ValueError.__new__"),k5]:=by
     obtain⟨l⟩:=sl
     simp only at hs
     rw[hs]
    subst hsl;have G:h.Ns ns _:=.of_isNs (isNs_of_in X hok)
    exact⟨Kl,bm,nm,qn,ns,bs,hd,sn,sub,ab,col,dd,k0,k1,k2,k3,k5,PySem.F.excBase_ValueError,tail_of_in X ht,X _ _ ho,_,fo,G,Ep X G hni,X _ _ lf,hf⟩
   ·cases q
  ·cases q
end L2
namespace L2
open PySem PySem.Spec PyProof.Rows
def UP (P:Program)(w:World)(K:W.Frag)(mg:Str->Qf)(base:Heap)(x:Str)(ps:Qh)(k:Nat)(sp:Sp):Prop :=
 ∃f fd,mg x=some (.ref f)/\W.keepIn K (.ref f)=true/\Vb K fd ps []/\FnOk P w K mg base (CX1 P w) k f fd ps sp
section
variable {P:Program}{w:World}{K:W.Frag}{mg:Str->Qf}{base:Heap}
def Fun.okX {x qual:Str}{st:Stmt}{f:Addr}{fd:FuncData}{N ps:Qh}{k:Nat}{sp:Sp}(F:Fun K x qual st f fd)(S:Qp N ps (Qy st))(len:∀vs H Q E,sp vs H Q E->vs.length=ps.length)
 (XaS:∀(cdv:Value) (A:Around) (outer:List Env) (s:Shared) (H:Hp) (vs:List V) (Q:VK) (E:XK),Room k (A.deeper (envOfC qual (Qy st) s.heap.objs.size f cdv))->sp vs H Q E ->
  ∃t,PSs (cx1 P w K mg base N qual (Qy st) f cdv A outer s H E) (Zh st) t/\t { nx:=fun _ H'=>Q .non H',rt:=Q } (start N vs) H):FnOk P w K mg base (CX1 P w) (k+1) f fd ps sp:=by
 obtain⟨oc,od,kV,doc,pm,an,cdv,ct,osl,rfl,lk,hcd⟩:=F.ex;exact Kd lk hcd S len fun A outer s H vs Q E hr hsp=>XaS cdv A outer s H vs Q E hr hsp
def Df.calX {x:Str}{st:Stmt}{N ps:Qh}{k:Nat}{sp:Sp}(D:Df K mg x st ps)(S:Qp N ps (Qy st))(len:∀vs H Q E,sp vs H Q E->vs.length=ps.length)
 (XaS:∀(f:Addr) (cdv:Value) (A:Around) (outer:List Env) (s:Shared) (H:Hp) (vs:List V) (Q:VK) (E:XK),Room k (A.deeper (envOfC x (Qy st) s.heap.objs.size f cdv))->sp vs H Q E ->
  ∃t,PSs (cx1 P w K mg base N x (Qy st) f cdv A outer s H E) (Zh st) t/\t { nx:=fun _ H'=>Q .non H',rt:=Q } (start N vs) H):UP P w K mg base x ps (k+1) sp:=by
 obtain⟨f,fd,F,hm,hb⟩:=D.ex
 exact⟨f,fd,hm,F.kp,hb,F.okX S len fun cdv A outer s H vs Q E hr h=>XaS f cdv A outer s H vs Q E hr h⟩
end
section
variable {X:Cx}
def N3 {x:Str}{p pos:Pos}{e:Expr}{es:Qi}{t:TA}{ps:Qh}{j k:Nat}{sp:Sp}{E:XK}(C:UP X.prog X.w X.K X.mg X.base x ps j sp)(hr:Room k X.A)(hx:Ye (CX1 X.prog X.w) X E)(ha:PA X (e::es) t)(hj:j<=k:=by walk_at"j")(hg:Gl X x:=by rfl)
 (hdb:(x==("__debug__" : Str))=false:=by decide +kernel)
 (he:starEach (e::es) X.env=(false,eval e X.env)::starEach es X.env:=by rfl) (hpl:(backTo pos (starEach es X.env)).any (·.1)=false:=by rfl):PE X (.Call (.Name x p) (e::es) [] pos) (VI sp [] E t):=by
 obtain⟨f,fd,hm,hk,hb,F⟩:=C;exact NA F (hr.mono hj) hg hm hk hb .nil hx ha hdb he hpl
end
def Gm (K:W.Frag)(C:Addr)(f:Str):Sp:=fun vs H Q _=>∃(e p:Addr) (xs:List V),vs=[.ref e,.ref p]/\H e=some (.ext (phX C e none))/\SqL K H p xs /\
 ∀q dx,H q=none->H dx=none->dx≠q->dx≠e->q≠e->Q .non (upd (upd (upd H q (.lst xs)) e (.ext (phX C e (some dx)))) dx (.xd [(f,.ref q)]))
def Cb {K:W.Frag}{C:Addr}{f:Str}{n:Nat}{vs:List V}{H:Hp}{Q:VK}{E:XK}(h:Gm K C f vs H Q E) :
 Jf (VF (tXI C 0)) (sXF C (QD 0) (tCB (Bs K) (QE (QD 1) QO)) f) { nx:=fun _ H'=>Q .non H',rt:=Q } (vs.map some++List.replicate n none) H:=by
 obtain⟨e,p,xs,rfl,he,hp,hq⟩:=h;refine⟨e,none,rfl,he,?_⟩;refine⟨.ref p,rfl,?_⟩;refine⟨p,xs,rfl,.inl hp,fun q hqn=>?_⟩;have hqe:q≠e:=fun z=>by subst z;rw[he]at hqn;cases hqn
 refine⟨.ref e,rfl,e,rfl,by rw[Qt (Ne.symm hqe)];exact he,fun dx hdx hde=>?_⟩;have hdq:dx≠q:=fun z=>by subst z;rw[QA]at hdx;cases hdx
 exact hq q dx hqn (by rw[Qt hdq]at hdx;exact hdx) hdq hde hqe
structure FldL (f:Str)(e:Addr)(F H H0:Hp)(ds:Qd)(dx q:Addr)(xs:List V):Prop where
 hd:H dx=some (.xd [(f,.ref q)])
 hq:H q=some (.lst xs)
 fq:F q=none
 rp:Qw F xs ds
 nd:dx≠e
 nq:q≠e
 dq:dx≠q
 fe:F e=none
 fd:F dx=none
 q0:H0 q=none
 d0:H0 dx=none
def Fld (f:Str)(e:Addr)(F H H0:Hp)(dct:Qj)(ds:Qd):Prop := ∃dx q xs,dct=some dx/\FldL f e F H H0 ds dx q xs
def Fld.back {f:Str}{e:Addr}{F H H0 H1:Hp}{dct:Qj}{ds:Qd}(h:Fld f e F H H1 dct ds)(s:Q4 H0 H1):Fld f e F H H0 dct ds:=by
 obtain⟨dx,q,xs,a,b⟩:=h
 exact⟨dx,q,xs,a,b.hd,b.hq,b.fq,b.rp,b.nd,b.nq,b.dq,b.fe,b.fd,s.free b.q0,s.free b.d0⟩
def spX (K:W.Frag)(C:Addr)(f:Str)(R:List OT->(OT->Prop)->Prop)(Rx:List OT->(Qd->Prop)->Prop):Sp:=fun vs H Q E=>∃F ts,KTs K F/\Q4 F H/\Args K F vs ts/\∃RR,E=XE C RR/\VE C RR /\
 ((∃Φ,R ts Φ/\∀F' H' v p r,Φ r->Q1 F H F' H'->(∀a∈p,H a=none)->Zk K F' H' v r p->Q v H')\/(∃Φx,Rx ts Φx/\∀F' H' e dct d,Φx d->Q1 F H F' H'->H e=none->Fld f e F' H' H dct d->RR e dct H'))
def EvZ (K:W.Frag)(F0 H0:Hp)(t:TS)(ρ:Q5):Prop := ∀(F:Hp) (σ:St) (H:Hp) (E:Ends),Q1 F0 H0 F H->QC K H0 F ρ σ H->t E σ H
section
variable {P:Program}{w:World}{K:W.Frag}{mg:Str->Qf}{base:Heap}
def B9 {N ps:Qh}{vs:List V}{ts:List OT}{F H:Hp}(kt:KTs K F)(sm:Q4 F H)(ha:Args K F vs ts)(hl:ts.length<=N.length):QC K H F (ts.map some++List.replicate (N.length-ts.length) none) (start N vs) H:=by
 refine⟨kt,sm,?_,fun _=>[],fun i t' e=>?_,fun i j a h=>(nomatch h),fun i a h=>(nomatch h)⟩
 ·unfold start
  simp[ha.length]
 ·have hlt:i<ts.length:=by
   by_cases z:i<ts.length
   ·exact z
   ·rw[X3 (by simpa using z)]at e
    have:=List.mem_of_getElem? e
    simp at this
  rw[XF (by simpa using hlt),Xt]at e;have e':ts[i]?=some t':=by
   cases z:ts[i]? with
   |none=>rw[z]at e;simp at e
   |some w=>rw[z]at e;simp at e;rw[e]
  obtain⟨v,e1,e2⟩:=ha.get (H:=H) i t' e';refine⟨v,?_,e2⟩;unfold start;have hl2:i<vs.length:=by rw[ha.length];exact hlt
  rw[XF (by simpa using hl2),Xt,e1];rfl
def Df.evZ {x:Str}{st:Stmt}{N ps:Qh}{k:Nat}{C:Addr}{fl:Str}{R:List OT->(OT->Prop)->Prop}{Rx:List OT->(Qd->Prop)->Prop}(D:Df K mg x st ps)(S:Qp N ps (Qy st))(len:∀ts Φ,R ts Φ->ts.length=ps.length)(lenx:∀ts Φ,Rx ts Φ->ts.length=ps.length)
 (hpn:ps.length<=N.length)
 (hret:∀(f:Addr) (cdv:Value) (A:Around) (outer:List Env) (s:Shared) (H:Hp) RR (ts:List OT) (Φ:OT->Prop),Room k (A.deeper (envOfC x (Qy st) s.heap.objs.size f cdv))->VE C RR->R ts Φ ->
  ∃t,PSs (cx1 P w K mg base N x (Qy st) f cdv A outer s H (XE C RR)) (Zh st) t/\Q0 K t (ts.map some++List.replicate (N.length-ts.length) none) { nx:=fun _=>Φ (.fz .none),rt:=Φ })
 (hexc:∀(f:Addr) (cdv:Value) (A:Around) (outer:List Env) (s:Shared) (F H:Hp) RR (ts:List OT) (Φx:Qd->Prop),Room k (A.deeper (envOfC x (Qy st) s.heap.objs.size f cdv))->VE C RR->(∀F' H' e dct d,Φx d->Q1 F H F' H'->H e=none->Fld fl e F' H' H dct d->RR e dct H')->Rx ts Φx ->
  ∃t,PSs (cx1 P w K mg base N x (Qy st) f cdv A outer s H (XE C RR)) (Zh st) t/\EvZ K F H t (ts.map some++List.replicate (N.length-ts.length) none)) :
 UP P w K mg base x ps (k+1) (spX K C fl R Rx):=by
 refine D.calX S (fun vs H Q E ⟨F,ts,_,_,ha,RR,_,_,q⟩=>?_) fun f cdv A outer s H vs Q E hr ⟨F,ts,kt,sm,ha,RR,eE,st,q⟩=>?_
 ·rcases q with ⟨r,hR,_⟩|⟨r,hR,_⟩
  ·exact ha.length.trans (len ts r hR)
  ·exact ha.length.trans (lenx ts r hR)
 ·subst eE
  rcases q with ⟨Φ,hR,q⟩|⟨Φx,hR,q⟩
  ·obtain⟨t,h1,h2⟩:=hret f cdv A outer s H RR ts Φ hr st hR
   refine⟨t,h1,h2 F H F (start N vs) H _ (Q1.refl sm) (B9 (ps:=ps) kt sm ha (by rw[len ts Φ hR];exact hpn)) ⟨fun F' σ' H' ρ' x' _ e=>?_,fun F' H' v r' p x' hp ok e=>?_,fun _ _ _ _ _ _ z=>False.elim z,fun _ _ _ _ _ _ z=>False.elim z⟩⟩
   ·exact q F' H' _ [] _ e x' (fun _ z=>nomatch z) ⟨rfl,.non⟩
   ·exact q F' H' v p r' e x' hp ok
  ·obtain⟨t,h1,h2⟩:=hexc f cdv A outer s F H RR ts Φx hr st q hR
   exact⟨t,h1,h2 F (start N vs) H _ (Q1.refl sm) (B9 (ps:=ps) kt sm ha (by rw[lenx ts Φx hR];exact hpn))⟩
end
section
variable {K:W.Frag}{ρ:Q5}{ta:TE}{C:Addr}{f:Str}{F0 H0:Hp}{RR:Addr->Qj->Hp->Prop}{ds:Qd}{E:XK}
def Fh {Φx:Qd->Prop}(h:Qu K ta ρ (.list ds))(hd:Φx ds)(hq:∀F' H' e dct d,Φx d->Q1 F0 H0 F' H'->H0 e=none->Fld f e F' H' H0 dct d->RR e dct H'):EvZ K F0 H0 (sXR C (Mm C (Gm K C f) E (QE ta QO)) RR) ρ:=by
 intro F σ H D x S;refine h H0 F σ H _ S fun F1 H1 v x1 rp=>⟨by simp,fun e he=>?_⟩
 cases rp with
 |@lst a xs _ r1 r2 =>
 have ha:H1 a=some (.lst xs):=x1.fh a _ r1;have hae:a≠e:=fun z=>by subst z;rw[he]at ha;cases ha
 refine⟨e,a,xs,rfl,QA,SqL.of (by rw[Qt hae];exact ha),fun q dx hqn hdn hdq hde hqe=>⟨rfl,e,some dx,rfl,?_,?_⟩⟩
 ·rw[Qt (Ne.symm hde),QA]
 ·have hq1:H1 q=none:=by rw[Qt hqe]at hqn;exact hqn
  have hd1:H1 dx=none:=by rw[Qt hde]at hdn;exact hdn
  have hf1:F1 q=none:=x1.fh.free hq1
  have sm:Q4 H1 (upd (upd (upd (upd H1 e (.ext (phX C e none))) q (.lst xs)) e (.ext (phX C e (some dx)))) dx (.xd [(f,.ref q)])):=fun b o hb=>by
   have n1:b≠e:=fun z=>by subst z;rw[he]at hb;cases hb
   have n2:b≠q:=fun z=>by subst z;rw[hq1]at hb;cases hb
   have n3:b≠dx:=fun z=>by subst z;rw[hd1]at hb;cases hb
   rw[Qt n3,Qt n1,Qt n2,Qt n1];exact hb
  have X1:=x.trans x1
  have hqh:upd (upd (upd (upd H1 e (.ext (phX C e none))) q (.lst xs)) e (.ext (phX C e (some dx)))) dx (.xd [(f,.ref q)]) q=some (.lst xs):=by
   rw[Qt (Ne.symm hdq),Qt hqe,QA]
  have X2:Q1 F0 H0 F1 (upd (upd (upd (upd H1 e (.ext (phX C e none))) q (.lst xs)) e (.ext (phX C e (some dx)))) dx (.xd [(f,.ref q)])):=X1.trans ⟨sm,Q4.refl _,X1.fh.trans sm,fun b hb=>.inl hb⟩;exact hq F1 _ e (some dx) ds hd X2 (X1.hh.free he) ⟨dx,q,xs,rfl,QA,hqh,hf1,r2,hde,hqe,hdq,X1.fh.free he,X1.fh.free hd1,X1.hh.free hq1,X1.hh.free hd1⟩
def Tj {t u:TS}(M:Q5->Prop)(h1:Q0 K t ρ { nx:=M,rt:=fun _=>False })(h2:∀ρ',M ρ'->EvZ K F0 H0 u ρ'):EvZ K F0 H0 (Jf t u) ρ:=fun F σ H E x S =>
 h1 F0 H0 F σ H _ x S ⟨fun F' σ' H' ρ' x' S' e=>h2 ρ' e F' σ' H' E x' S',fun _ _ _ _ _ _ _ _ z=>z.elim,fun _ _ _ _ _ _ z=>False.elim z,fun _ _ _ _ _ _ z=>False.elim z⟩
def Pu {t:TS}(i:Nat){ds:Qd}(e:ρ[i]?=some (some (.ol ds)))(h:EvZ K F0 H0 t (ρ.set i (some (.fz (.list ds))))):EvZ K F0 H0 t ρ:=fun F σ H E x S=>by
 obtain⟨a,xs,e1,e2,e3,_,_,S'⟩:=S.freeze e;exact h _ σ H E (x.freeze e1 e2 e3) S'
def Na {t u:TS}{ρ1:Q5}(h1:Q0 K t ρ { nx:=fun ρ'=>ρ'=ρ1,rt:=fun _=>False })(h2:EvZ K F0 H0 u ρ1):EvZ K F0 H0 (Jf t u) ρ:=fun F σ H E x S =>
 h1 F0 H0 F σ H _ x S ⟨fun F' σ' H' ρ' x' S' e=>by subst e;exact h2 F' σ' H' E x' S',fun _ _ _ _ _ _ _ _ z=>z.elim,fun _ _ _ _ _ _ z=>False.elim z,fun _ _ _ _ _ _ z=>False.elim z⟩
def TN {t u:TS}(h:EvZ K F0 H0 t ρ):EvZ K F0 H0 (Jf t u) ρ:=fun F σ H E x S=>h F σ H _ x S
def Pz {tA:TT}{t u:TS}{b:Bool}(h:Zb K tA ρ b)(h1:b=true->EvZ K F0 H0 t ρ)(h2:b=false->EvZ K F0 H0 u ρ):EvZ K F0 H0 (BY tA t u) ρ:=fun F σ H E x S =>
 h H0 F σ H _ S fun F' H' x'=>by
  cases b with
  |true=>rw[Xd rfl];exact h1 rfl F' σ H' E (x.trans x') (S.ext x')
  |false=>rw[Xb (by decide)];exact h2 rfl F' σ H' E (x.trans x') (S.ext x')
def Fr {R:List OT->(OT->Prop)->Prop}{Rx:List OT->(Qd->Prop)->Prop}{Φx:Qd->Prop}{t:TA}{ts:List OT}{Q:VK}(hA:Z2 K t ρ ts)(hR:Rx ts Φx)(st:VE C RR)(hq:∀F' H' e dct d,Φx d->Q1 F0 H0 F' H'->H0 e=none->Fld f e F' H' H0 dct d->RR e dct H'){F H9:Hp}{σ:St}{H:Hp}(x:Q1 F0 H0 F H)(S:QC K H9 F ρ σ H) :
 VI (spX K C f R Rx) [] (XE C RR) t σ H Q:=hA H9 F σ H _ S fun F1 H1 vs x1 r1 =>
 ⟨F1,ts,(S.ext x1).kt,x1.fh,by rw[XG];exact r1,RR,rfl,st,.inr ⟨Φx,hR,fun F' H' e dct d hd x2 he hf=>hq F' H' e dct d hd ((x.trans x1).trans x2) ((x.trans x1).hh.free he) (hf.back (x.trans x1).hh)⟩⟩
def LJ {R:List OT->(OT->Prop)->Prop}{Rx:List OT->(Qd->Prop)->Prop}{Φx:Qd->Prop}{t:TA}{ts:List OT}(hA:Z2 K t ρ ts)(hR:Rx ts Φx)(st:VE C RR)(hq:∀F' H' e dct d,Φx d->Q1 F0 H0 F' H'->H0 e=none->Fld f e F' H' H0 dct d->RR e dct H') :
 EvZ K F0 H0 (VF (VI (spX K C f R Rx) [] (XE C RR) t)) ρ:=fun F σ H E x S=>Fr hA hR st hq x S
def Ff {R:List OT->(OT->Prop)->Prop}{Rx:List OT->(Qd->Prop)->Prop}{Φ:OT->Prop}{t:TA}{ts:List OT}(hA:Z2 K t ρ ts)(hR:R ts Φ)(st:VE C RR):Zt K (VI (spX K C f R Rx) [] (XE C RR) t) ρ Φ:=fun H0 F σ H Q S q =>
 hA H0 F σ H _ S fun F1 H1 vs x1 r1 =>
  ⟨F1,ts,(S.ext x1).kt,x1.fh,by rw[XG];exact r1,RR,rfl,st,.inl ⟨Φ,hR,fun F2 H2 v p r hr x2 hp ok=>q F2 H2 v p r hr (x1.trans x2) (fun a ha=>x1.hh.free (hp a ha)) ok⟩⟩
def G3 {t:TE}{D:PEnds}{Φ:OT->Prop}(h:Zt K t ρ Φ)(hn:D.nx ρ):Q0 K (VF t) ρ D:=fun F0 H0 F σ H E x S c =>
 h H0 F σ H _ S fun F' H' v p r _ x' _ _=>c.nx F' σ H' ρ (x.trans x') (S.ext x') hn
end
section
variable {K:W.Frag}{ρ:Q5}{C:Addr}{th:TS}{tb:Ends->TS}{D:PEnds}{n:Nat}
def Ss {e:Addr}{dct:Qj}{G H H':Hp}(h:Lefts C e dct H H')(s:Q4 G H)(he:G e=none):Q4 G H':=by
 induction h with
 |nil=>exact s
 |@step H1 T h1 hT hTe ih =>
   intro b o hb;have n1:b≠e:=fun z=>by subst z;rw[he]at hb;cases hb
   have hb1:=ih b o hb;have n2:b≠T:=fun z=>by subst z;rw[hT]at hb1;cases hb1
   unfold left;rw[Qt n2,Qt n1];exact hb1
def Tq (h:∀E,Q0 K (tb E) ρ D):Q0 K (BX tb) ρ D:=fun F0 H0 F σ H E x S c=>h E F0 H0 F σ H E x S c
end
structure XC (K:W.Frag)(mg:Str->Qf)(x:Str)(Y C f:Addr):Prop where
 cl:JY K Y C f
 kp:W.keepIn K (.ref C)=true
 m:mg x=some (.ref C)
def Ms (P:Program)(w:World)(K:W.Frag)(mg:Str->Qf)(base:Heap)(f:Addr)(ps:Qh)(k:Nat)(sp:Sp):Prop := ∃fd,Vb K fd ps []/\FnOk P w K mg base CX0 k f fd ps sp
section
variable {P:Program}{w:World}{K:W.Frag}{mg:Str->Qf}{base:Heap}{N:Qh}{qual:Str}{scope:Scope}{f f0:Addr}{cd:Value}{A:Around}{outer:List Env}{s0:Shared}{H0:Hp}{Y C:Addr}{RR:Addr->Qj->Hp->Prop}
def R1 {x:Str}{p pos pos':Pos}{e:Expr}{es:Qi}{t:TA}{ps:Qh}{j k:Nat}{sp:Sp}(c:XC K mg x Y C f)(ci:Ms P w K mg base f ps j sp)(hst:VE C RR)(hr:Room k (cx1 P w K mg base N qual scope f0 cd A outer s0 H0 (XE C RR)).A)
 (ha:PA (cx1 P w K mg base N qual scope f0 cd A outer s0 H0 (XE C RR)) (e::es) t) (hj:j+1<=k:=by walk_at"j") (hg:Gl (cx1 P w K mg base N qual scope f0 cd A outer s0 H0 (XE C RR)) x:=by rfl)
 (hdb:(x==("__debug__" : Str))=false:=by decide) (he:starEach (e::es) (cx1 P w K mg base N qual scope f0 cd A outer s0 H0 (XE C RR)).env=(false,eval e (cx1 P w K mg base N qual scope f0 cd A outer s0 H0 (XE C RR)).env)::starEach es (cx1 P w K mg base N qual scope f0 cd A outer s0 H0 (XE C RR)).env:=by rfl)
 (hpl:(backTo pos (starEach es (cx1 P w K mg base N qual scope f0 cd A outer s0 H0 (XE C RR)).env)).any (·.1)=false:=by rfl) :
 PS (cx1 P w K mg base N qual scope f0 cd A outer s0 H0 (XE C RR)) (.Raise (some (.Call (.Name x p) (e::es) [] pos)) none pos') (sXR C (Mm C sp E0 t) RR):=by
 obtain⟨fd,hb,F⟩:=ci;exact FN c.cl rfl (F7 c.cl c.kp F (hr.mono hj) hg c.m hb Jn ha hdb he hpl) (fun XaR σ H s a dct I he r=>CA hst I he r)
end
section
variable {K:W.Frag}{ρ:Q5}{ta tb:TE}{t:TA}
end
def Dh (D:Ends)(j:Nat):Ends:={ nx:=fun σ H=>D.nx (σ.set j none) H,rt:=fun _ _=>False }
def ID (X:Cx)(E:XK)(pn:Qc)(v:Value)(s:Shared):Prop := ∃(σ:St) (H:Hp) (dct:Qj),Qq { X with pn:=pn } [] σ H s/\E v dct H
abbrev MF (X:Cx)(E:XK)(pn:Qc):Cx:={ X with pn:=pn,xe:=ID X E pn }
section
variable {X:Cx}{XaR:Qc}{σ:St}{H:Hp}{s:Shared}{C:Addr}{th:TS}{D:Ends}
def RA {E:XK}{pn:Qc}:Ye (CX1 X.prog X.w) (MF X E pn) E:=by
 intro XaR σ H s v s' I h;obtain⟨dct,H',os,bare,un,hok,hE⟩:=h;obtain⟨hh,g,d,t,os'⟩:=s';obtain rfl:os'=s.os:=os;have I2:=I.call (h':=hh) (g':=g) (d':=d) (t':=t) (ch:=[]) un hok bare (fun b z=>nomatch z)
 exact⟨σ,H',dct,(I2.unwish (X:={ X with pn:=pn })).pins_of (fun p hp=>by cases hp),hE⟩
end
section
variable {X:Cx}{C B:Addr}{th:TS}{tb:Ends->TS}{body suite:List Stmt}{b0:Stmt}{x n:Str}{j:Nat}{np hpos pos:Pos}{rest:List ExceptHandler}
end
end L2
section
namespace L2
open PySem PySem.Spec PyProof.Rows
section
variable {K:W.Frag}{ρ:Q5}{D:PEnds}
def QC.setN {H0 F H:Hp}{σ:St}{r:Nat}(u:Option V)(s:QC K H0 F ρ σ H):QC K H0 F (ρ.set r none) (σ.set r u) H:=by
 obtain⟨kt,h1,h2,fp,h3,h4,h5⟩:=s;refine⟨kt,h1,by simp[h2],fp,fun j t e=>?_,h4,h5⟩
 by_cases z:r=j
 ·subst z
  by_cases l:r<ρ.length
  ·rw[Xr l]at e;cases e
  ·rw[HP.mpr (by simp;omega)]at e;cases e
 ·rw[Xw z]at e ⊢
  exact h3 j t e
end
end L2
end
namespace L2
open PySem PySem.Spec PyProof.Rows
section
open PySem.W
variable {prog:Program}{w:World}{A:Around}{E:Qb}{s:Shared}{K:Frag}{x C:Addr}{ox:Obj}{od:Option Obj}{name:Str}{tk:Tok}{fill expr:Bool}
structure JX (K:Frag)(C:Addr):Prop where
 ga:findIn K (.ref C) "__getattribute__"=some (some (.builtin "BaseException.__getattribute__"))
 gt:findIn K (.ref C) "__getattr__"=some none
 mb:mroIn K C (.type "BaseException")=some true
def RU {Q:Unit->Shared->Prop} {M:Model} {nameV:Value} (c:JX K C) (X:K.In s.heap) (I:InstAt s.heap x ox C od) (hq:Q () s):wpAny M A (checkBuiltinCall "BaseException.__getattribute__" ⟨[.ref x,nameV],[]⟩) Q E s:=by
 have hk:builtinKind "BaseException.__getattribute__"=some .slot:=by decide +kernel
 have hsplit:splitId "BaseException.__getattribute__"=some ("BaseException","__getattribute__"):=by decide +kernel
 have ha:=F.args_bexc_ga (.ref x) nameV;have L0:=I.type (M:=M);have L1:=looks_mroIn (M:=M) X c.mb;simp only[checkBuiltinCall,hk,hsplit];obtain⟨hh,g,d,t,os⟩:=s;refine Xa ((L0.andThen L1).at ?_)
 repeat (any_goals (first|assumption|wp_step))
def NV {Q:Qb}(c:JX K C)(X:K.In s.heap)(I:InstAt s.heap x ox C od)
 (h:codeAny (model prog w) A (.call (.builtin "BaseException.__getattribute__") ⟨[.ref x,.str name tk],[]⟩) (fun r s'=>∃v,r=.ok (.ret v)/\wpAny (model prog w) A (handedOut v) Q E s') s) :
 wpAny (model prog w) A (getAttrBy (.ref x) (.str name tk) fill expr) Q E s:=by
 have f3:=F.excAttr_ValueError.ga.bind (.ref x);have hx0:(expr&&onTheHeap (Value.builtin "BaseException.__getattribute__"))=false:=by cases expr<;>rfl
 have hx2:(Value.builtin "BaseException.__getattribute__" == Value.builtin "object.__getattribute__")=false:=by decide +kernel
 have hx1:(onTheHeap (Value.ref C)&&Value.builtin "BaseException.__getattribute__" == Value.builtin "object.__getattribute__")=false:=by rw[hx2];rfl
 obtain⟨hh,g,d,t,os⟩:=s;have L0:=I.type (M:=model prog w);have L1:=looks_findIn (M:=model prog w) X c.ga;have L2:=looks_findIn (M:=model prog w) X c.gt;unfold getAttrBy;refine wpAny_holding (Xa (L0.at (Xa (L1.at ?_))));dsimp only;rw[hx1,Xb Xs];unfold getAttrByItsOwn;refine Xa (L2.at ?_);refine Xa (wpAny_attempt (wpAny_holding ?_));unfold callGetattribute;rw[hx0,Xb Xs];unfold boundAndCalled;rw[f3];refine Xa (Xk ?_);refine wpAny_call (codeAny_mono h fun r s' hq=>?_);obtain⟨v,rfl,hq⟩:=hq;exact hq
def AT {Q:Qb}{v:Value}(c:JX K C)(X:K.In s.heap)(I:InstAt s.heap x ox C od)(hf:findObj K C od name=some (.value v))(hh:handedIn v=true)(h:Q v { s with toks:=s.toks+1 }):wpAny (model prog w) A (getAttr (.ref x) name expr) Q E s:=by
 unfold getAttr;refine Xa (wpAny_mkText (NV (s:={ s with toks:=s.toks+1 }) c X I (codeAny_call_builtin F.excAttr_ValueError.ga.plain F.entry_bexc_ga (RU c X I ?_))));obtain⟨hh',g,d,t,os⟩:=s;have L0:=I.type (M:=model prog w);have L1:=looks_find (M:=model prog w) X I hf;refine Xa (Xk (Xa (Xk (Xa (L0.at (Xa (L1.at ?_)))))));refine Xk ⟨v,rfl,?_⟩;rw[handedOut_of hh];exact Xk h
def Cr {Q:Qf->Shared->Prop} {od:Obj} (c:JX K C) (hdct:hasDictIn K C=true) (ha:findIn K (.ref C) "__class__"=some (some (.builtin "object.__class__")))
 (hn:specialIn K (.builtin "object.__class__") "__get__"=some (some (.builtin "getset_descriptor.__get__"))) (htk:takesIn K (.builtin "object.__class__")=some true) (hm:mroIn K C (.type "object")=some true)
 (X:K.In s.heap) (I:InstAt s.heap x ox C (some od)) (h:Q (some (.ref C)) { s with toks:=s.toks+1 }):wpAny (model prog w) A (getAttr? (.ref x) "__class__") Q E s:=by
 have hf:findObj K C (some od) "__class__"=some (.bind (.builtin "getset_descriptor.__get__") (.builtin "object.__class__")):=findObj_data (by obtain⟨cd,hc,_⟩:=any_some hdct;rw[hc];rfl) ha hn htk;unfold getAttr? getAttrBy?;refine Xa (wpAny_mkText (Xa (wpAny_attempt (NV (s:={ s with toks:=s.toks+1 }) c X I (codeAny_call_builtin F.excAttr_ValueError.ga.plain F.entry_bexc_ga (RU c X I ?_))))));obtain⟨hh',g,d,t,os⟩:=s;have L0:=I.type (M:=model prog w);have L1:=looks_find (M:=model prog w) X I hf;refine Xa (Xk (Xa (Xk (Xa (L0.at (Xa (L1.at ?_)))))));show wpAny _ _ (holding [_] (call _ [_,_,_]) >>= ret) _ _ _;refine Xa (wpAny_holding (wpAny_call (class_get (s:=⟨hh',g,d,t+1,os⟩) (ox:=ox) (od:=some od) X I hm ?_)));exact Xk ⟨_,rfl,Xk (Xk h)⟩
theorem CB {od:Obj} (c:JX K C) (hdct:hasDictIn K C=true) (ha:findIn K (.ref C) "__class__"=some (some (.builtin "object.__class__")))
 (hn:specialIn K (.builtin "object.__class__") "__get__"=some (some (.builtin "getset_descriptor.__get__"))) (htk:takesIn K (.builtin "object.__class__")=some true) (hm:mroIn K C (.type "object")=some true) :
 KitX K (.ref x) (.ref C) (fun h=>InstAt h x ox C (some od)) where
 ty:=fun _ _ _ I=>I.type
 it:=fun _ _ X _=>by
  obtain⟨cdD,hcD,_⟩:=any_some hdct;unfold clsIn at hcD;split at hcD
  ·rename_i c' d' cd' sl' ho
   intro A' Q' E' s' k q;unfold isType loadHead;exact Xa (wpAny_loadPart (k _ _ (X _ _ ho)) (Xk q))
  ·cases hcD
 ne:=fun h tp dd its n sl X htp=>by
  obtain⟨cdD,hcD,_⟩:=any_some hdct;refine Bool.eq_false_iff.mpr fun q=>?_;have e:C=tp:=Value.ref.inj (beq_iff_eq.mp q);subst e;unfold clsIn at hcD;split at hcD
  ·rename_i c' d' cd' sl' ho
   have z:=(X _ _ ho).symm.trans htp
   cases z
  ·cases hcD
 ca:=fun X I k=>Cr c hdct ha hn htk hm X I k
end
def tXG (C:Addr)(ta:TE)(f:Str):TE:=fun σ H Q=>ta σ H fun x H1=>∃e dx T v,x=.ref e/\H1 e=some (.ext (phF C e (some dx) T))/\H1 dx=some (.xd [(f,v)])/\Q v H1
structure SN (K:W.Frag)(C:Addr):Prop where
 ga:JX K C
 hd:W.hasDictIn K C=true
section
variable {X:Cx}{e:Expr}{ta:TE}{f:Str}{C:Addr}{pos:Pos}
def KR {H:Hp}{XaR:Qc}{σ:St}{s:Shared}(I:Qq X XaR σ H s){a dx T:Addr}{fs:List (Str×V)}(h1:H a=some (.ext (phF C a (some dx) T)))(h2:H dx=some (.xd fs)) :
 ∃(mA:Str->Qf) (ox od:Obj),W.InstAt s.heap a ox C (some od)/\(∀name,W.lookIn name od=some (mA name))/\∀f,ZI (fs.lookup f) (mA f):=by
 obtain⟨⟨vs,sl,hx,_⟩,_,_⟩:=I.hok a _ h1;obtain⟨mA,n,r⟩:=(show Z6 X.prog X.w H s.heap dx (.xd fs) from I.hok dx _ h2);obtain⟨od,ho,hl⟩:=RF n
 exact⟨mA,_,od,⟨hx,rfl,rfl,ho⟩,hl,r⟩
def N9 (c:SN X.K C)(n:V3 X.K C f)(he:PE X e ta)(hb:attributeBase e f X.env (eval e X.env)=eval e X.env:=by rfl):PE X (.Attribute e f pos) (tXG C ta f):=by
 intro XaR s σ H Q I h;refine NB hb (Q6 (he XaR s σ H _ I h) fun u s1 ⟨x,H1,I1,rx,a,dx,T,v,ex,ea,ed,q⟩=>?_);subst ex;obtain rfl:u=Value.ref a:=rx;obtain⟨mA,ox,od,J,hl,r⟩:=KR I1 ea ed;obtain⟨u,hu,ru⟩:=ZI.some_of (v:=v) (o:=mA f) (by have:=r f;simpa [List.lookup] using this);exact AT c.ga I1.kIn J (W.findObj_own c.hd n rfl (by rw[hl,hu])) (R4 ru) ⟨v,H1,I1.tok _,ru,q⟩
def GM:V->Qf
 |.ref a=>some (.ref a)
 |.ty t=>some (.type t)
 |_=>none
structure SM (K:W.Frag)(C:Addr):Prop where
 ga:JX K C
 hd:W.hasDictIn K C=true
 fc:W.findIn K (.ref C) "__class__"=some (some (.builtin "object.__class__"))
 sp:W.specialIn K (.builtin "object.__class__") "__get__"=some (some (.builtin "getset_descriptor.__get__"))
 tk:W.takesIn K (.builtin "object.__class__")=some true
 mo:W.mroIn K C (.type "object")=some true
def Y0 (K:W.Frag)(C:Addr):List V->Hp->VK->Prop:=fun xs H Q=>∃x c cv b,xs=[x,c]/\GM c=some cv /\
 ((∃e dx T fs,x=.ref e/\H e=some (.ext (phF C e (some dx) T))/\H dx=some (.xd fs)/\W.kitOne K (.ref C) cv=some b)\/(x=.non/\W.kitOne K (.type "NoneType") cv=some b))/\Q (.bl b) H
def WE (c:SM X.K C):Zr X (.builtin "isinstance") (Y0 X.K C):=by
 intro XaR s σ H xs us Q I r h;obtain⟨x,cc,cv,b,rfl,hcv,hx,q⟩:=h;obtain⟨u,w,rfl,ru,rw'⟩:=GP r
 have ew:w=cv:=by
  cases cc<;>simp[GM]at hcv
  ·subst hcv;exact rw'
  ·subst hcv;exact rw'
 subst ew;rcases hx with ⟨e,dx,T,fs,rfl,h1,h2,hk⟩|⟨rfl,hk⟩
 ·obtain rfl:u=Value.ref e:=ru
  obtain⟨mA,ox,od,J,_⟩:=KR I h1 h2;exact W.kia_one (CB c.ga c.hd c.fc c.sp c.tk c.mo) I.kIn J hk (by intro z;cases z) fun tk=>⟨.bl b,H,I.tok tk,rfl,q⟩
 ·obtain rfl:u=Value.none:=ru
  exact W.kia_one W.kitx_none I.kIn trivial hk (by intro z;cases z) fun tk=>⟨.bl b,H,I.tok tk,rfl,q⟩
end
def W9 (C:Addr)(f:Str)(ds:Qd)(e dx q:Addr):OwnP where
 ok:=fun K F H v p=>p=[e,dx,q]/\(F e=none/\F dx=none/\F q=none)/\(∃T,H e=some (.ext (phF C e (some dx) T)))/\H dx=some (.xd [(f,.ref q)])/\∃xs,H q=some (.lst xs)/\Qw F xs ds
 there:=fun{K F H v p} h a ha=>by
  obtain⟨rfl,⟨f1,f2,f3⟩,⟨T,h1⟩,h2,xs,h3,_⟩:=h
  rcases Xg.mp ha with rfl|ha
  ·exact⟨f1,Z1 h1⟩
  ·rcases Xg.mp ha with rfl|ha
   ·exact⟨f2,Z1 h2⟩
   ·rcases Xg.mp ha with rfl|ha
    ·exact⟨f3,Z1 h3⟩
    ·cases ha
 mono:=fun{K F F' H H' v p} s hF hH h=>by
  obtain⟨rfl,⟨f1,f2,f3⟩,⟨T,h1⟩,h2,xs,h3,r⟩:=h;have m1:e∈[e,dx,q]:=Xc;have m2:dx∈[e,dx,q]:=Xe _ Xc;have m3:q∈[e,dx,q]:=Xe _ (Xe _ Xc)
  exact⟨rfl,⟨hF _ m1,hF _ m2,hF _ m3⟩,⟨T,(hH _ m1).trans h1⟩,(hH _ m2).trans h2,xs,(hH _ m3).trans h3,r.mono s⟩
 uniq:=fun{K F H v p p'} h h' a ha=>by
  obtain⟨rfl,_⟩:=h;obtain⟨rfl,_⟩:=h';exact ha
def NZ {C e:Addr}{dct:Qj}{H H':Hp}(h:Lefts C e dct H H'){b:Addr}{o:HO}(hb:b≠e)(ho:H b=some o):H' b=some o:=by
 induction h with
 |nil=>exact ho
 |@step H1 T h1 hT hTe ih =>
   have n2:b≠T:=fun z=>by subst z;rw[hT]at ih;cases ih
   unfold left;rw[Qt n2,Qt hb];exact ih
section
variable {K:W.Frag}{ρ:Q5}{C:Addr}{f:Str}{th:TS}{tb:Ends->TS}{D:PEnds}{n i j:Nat}{ta tb':TE}
variable {ds:Qd}{e dx q:Addr}
def QC.exc {H0 F H:Hp}{σ:St}{v:V}(S:QC K H0 F ρ σ H)(h:ρ[i]?=some (some (.own v (W9 C f ds e dx q)))):σ[i]?=some (some v)/\(∃T,H e=some (.ext (phF C e (some dx) T)))/\H dx=some (.xd [(f,.ref q)])/\(∃xs,H q=some (.lst xs)/\Qw F xs ds)/\F q=none/\H0 q=none:=by
 obtain⟨kt,h1,h2,fp,h3,h4,h5⟩:=S;obtain⟨u,e1,hu,hp,⟨f1,f2,f3⟩,hT,hd,hq⟩:=h3 i _ h;subst hu;exact⟨e1,hT,hd,hq,f3,(h5 i q (by rw[hp];exact Xe _ (Xe _ Xc))).1⟩
def M6 {c:V}{cv:Value}{b:Bool}(h:ρ[i]?=some (some (.own (.ref e) (W9 C f ds e dx q))))(hc:GM c=some cv)(hk:W.kitOne K (.ref C) cv=some b):Qu K (tCB (Y0 K C) (QE (QD i) (QE (tC c) QO))) ρ (.bool b):=fun H0 F σ H Q S k=>by
 obtain⟨e1,⟨T,h1⟩,h2,_⟩:=S.exc h
 exact⟨.ref e,e1,.ref e,c,cv,b,rfl,hc,.inl ⟨e,dx,T,_,rfl,h1,h2,hk⟩,k F H _ (Q1.refl S.sub) (.bl b)⟩
end
end L2
section
namespace L2
open PySem PySem.Spec PyProof.Rows
def QN.at {xs:List V}{us:Qe}(r:QN xs us):∀i:Nat,(xs[i]?=none/\us[i]?=none)\/∃x u,xs[i]?=some x/\us[i]?=some u/\QJ x u:=by
 induction r with
 |nil=>intro i;exact .inl ⟨rfl,rfl⟩
 |cons a b ih =>
   intro i;cases i with
   |zero=>exact .inr ⟨_,_,rfl,rfl,a⟩
   |succ i=>exact ih i
section
variable {X:Cx}{e:Expr}{te:TE}{lo hi:Option Expr}{se:Expr}{tl th ts:TO}{pos p2:Pos}
end
section
variable {K:W.Frag}{ρ:Q5}{te:TE}
end
theorem S6:∀{us:Qe} {ns:Ql},IntsAre us ns->QN (ns.map V.int) us
 |_,_,.nil=>.nil
 |_,_,.cons n t h=>.cons ⟨t,rfl⟩ (S6 h)
section
variable {X:Cx}
def NE:List V->Hp->VK->Prop:=fun xs H Q=>∃(x:V) (ns:Ql),xs=[x]/\Rep H x (.list (ns.map PyData.int))/\ns.length<64/\∀(p:Addr) (ms:Ql),H p=none->ms.Perm ns->ms.Pairwise (· <= ·)->Q (.ref p) (upd H p (.lst (ms.map V.int)))
def Ae:Zr X (.builtin "sorted") NE:=by
 intro XaR s σ H xs us Q I r h;obtain⟨x,ns,rfl,rx,h64,q⟩:=h;obtain⟨u,rfl,ru⟩:=VP r
 cases rx with
 |@lst a ys _ ha ra =>
   cases ru
   obtain⟨z,its,n,rv,e⟩:=I.hok _ _ ha;have ey:ys=ns.map V.int:=J9 ra;have hI:IntsAre its ns:=U8 (by rw[<- ey];exact rv);have hl:its.length=ns.length:=by rw[<- rv.length,ey];simp
   refine sorted_ints ⟨_,e,rfl,n,rfl⟩ hI (by omega) fun out ms a1 a2 a3=>?_;obtain⟨k,hk⟩:=sortedAll_at s.heap its out;have ln:ms.length=ns.length:=a2.length_eq;refine⟨.ref (s.heap.objs.size+1),_,I.laid (t':=s.toks) (a:=s.heap.objs.size+1) (o:=.lst (ms.map V.int)) (fun b ob q=>sortedAll_old q) (Jd _) ?_,rfl,q _ ms (I.hok.fresh (Jd _)) a2 a3⟩;refine⟨by rw[Xn,ln];exact Yn (Xp h64 (by decide)),out.toList,k,S6 a1,?_⟩;rw[hk]
end
section
variable {X:Cx}
end
section
variable {K:W.Frag}{ρ:Q5}{ta tb:TE}{D:PEnds}
def FT:∀{l m:Ql},l.Perm m->l.Pairwise (· <= ·)->m.Pairwise (· <= ·)->l=m:=fun p h1 h2=>by
 exact p.eq_of_pairwise (le:=(· <= ·)) (fun a b _ _ h h'=>Int.le_antisymm h h') h1 h2
def AR {ns ms:Ql}(h:Qu K ta ρ (.list (ns.map PyData.int)))(hp:ms.Perm ns)(hs:ms.Pairwise (· <= ·))(hn:ns.length<64):EvO K (tCB NE (QE ta QO)) ρ (.ol (ms.map PyData.int)):=fun H0 F σ H Q S q =>
 h H0 F σ H _ S fun F1 H1 v x1 r1=>⟨v,ns,rfl,r1.mono x1.fh,hn,fun p ks hp' k1 k2=>by
  have e:ks=ms:=FT (k1.trans hp.symm) k2 hs;subst e;obtain⟨a,b,c⟩:=Jy (K:=K) x1 hp' (R7 (H:=F1) ks);exact q _ _ _ _ a b c⟩
end
end L2
end
namespace L2
open PySem PySem.Spec PyProof.Rows
def VT (b:Bool)(xs:Qk):SetTable:={ mask:=if xs.length<5 then 7 else 31,place:=xs.toArray,dummies := #[],finger:=0,led:=b,moves:=if xs.length<5 then 0 else 1,plain:=true }
def VW (b:Bool)(xs:Qk)(v:Nat):SetTable:={ VT b xs with place:=(xs++[v]).toArray }
def Vk (xs:Qk):Ql:=xs.map fun(n:Nat)=>(n:Int)
def Bf (b:Bool)(xs:Qk)(v:Nat):Bool :=
 decide ((VT b xs).freeSlot (v:Int)=some (v,false))&&decide ((VT b xs).put v=(VW b xs v,xs.length))&&(VW b xs v).fits (xs.length+1)&&(VT b xs).fits xs.length &&
 (if (VW b xs v).tooFull=true then decide ((VW b xs v).relaid (Vk (xs++[v])).toArray (SetTable.grown (xs.length+1))=some (VT b (xs++[v]),(List.range (xs.length+1)).toArray))&&coversAll (List.range (xs.length+1)).toArray (xs.length+1)&&(VT b (xs++[v])).fits (xs.length+1)
  else decide (VW b xs v=VT b (xs++[v])))
def QV (p:Qm):Qk:=[0,1,2,3,4,5,6,7].filter p
def Jo (b0 b1 b2 b3 b4 b5 b6 b7:Bool):Qm:=fun i=>([b0,b1,b2,b3,b4,b5,b6,b7]:List Bool).getD i false
set_option maxHeartbeats 0 in
def A5:∀b b0 b1 b2 b3 b4 b5 b6 b7:Bool,((List.range (QV (Jo b0 b1 b2 b3 b4 b5 b6 b7)).length).all fun i=>Bf b ((QV (Jo b0 b1 b2 b3 b4 b5 b6 b7)).take i) ((QV (Jo b0 b1 b2 b3 b4 b5 b6 b7)).getD i 0))=true:=by decide +kernel
def Rp (p:Qm):QV p=QV (Jo (p 0) (p 1) (p 2) (p 3) (p 4) (p 5) (p 6) (p 7)):=by
 unfold QV Jo;simp[JP]
def C4 (b:Bool)(p:Qm)(i:Nat)(hi:i<(QV p).length):Bf b ((QV p).take i) ((QV p).getD i 0)=true:=by
 have h:=A5 b (p 0) (p 1) (p 2) (p 3) (p 4) (p 5) (p 6) (p 7);rw[<- Rp p]at h;exact List.all_eq_true.mp h i (XT.mpr hi)
structure SetX (h:Heap)(a:Addr)(b:Bool)(xs:Qk)(es:Array (Int×Value))(ep:Nat):Prop where
 at_:h.get? a=some { cls:=.type "set",dict:=none,data:=.set es ep (VT b xs) }
 hs:es.toList.map (·.1)=Vk xs
 vs:∀e∈es.toList,∃t,e.2=.int e.1 t
def Eo {α:Type}(es:Array α)(x:α):SetTable.insertAt es es.size x=es.push x:=by
 unfold SetTable.insertAt;simp
def SR {α:Type}(es:Array α):(List.range es.size).toArray.filterMap (fun i=>es[i]?)=es:=by
 have go:∀xs:List α,((List.range xs.length).filterMap fun i=>xs[i]?)=xs:=fun xs=>by
  induction xs with
  |nil=>rfl
  |cons x xs ih =>
    rw[XI,List.range_succ_eq_map,BS];simp only[List.getElem?_cons_zero,List.filterMap_map];simpa [Function.comp_def] using ih
 apply Array.toList_inj.mp
 have:=go es.toList
 rw[Array.toList_filterMap];simpa using this
def Sj {v:Nat}(h:v<8):hashInt (v:Int)=(v:Int):=by
 match v,h with
 |0,_=>rfl
 |1,_=>rfl
 |2,_=>rfl
 |3,_=>rfl
 |4,_=>rfl
 |5,_=>rfl
 |6,_=>rfl
 |7,_=>rfl
section
variable {prog:Program}{w:World}{A:Around}{E:Qb}{s:Shared}
def SetX.elems {h:Heap}{a:Addr}{b:Bool}{xs:Qk}{es:Array (Int×Value)}{ep:Nat}(hS:SetX h a b xs es ep)(h8:∀x∈xs,x<8):ElemsOf (intKind prog w) es.toList:=fun e he=>by
 obtain⟨t,et⟩:=hS.vs e he;have hm:e.1∈Vk xs:=hS.hs▸List.mem_map_of_mem he;obtain⟨x,hx,ex⟩:=X4.mp hm;refine⟨⟨e.1,by rw[et];exact intKind_is _ _ _ _,?_⟩,by rw[et];rfl⟩;show e.1=hashInt e.1;rw[<- ex];exact(Sj (h8 x hx)).symm
def SetX.size {h:Heap}{a:Addr}{b:Bool}{xs:Qk}{es:Array (Int×Value)}{ep:Nat}(hS:SetX h a b xs es ep):es.size=xs.length:=by
 have:=XW List.length hS.hs
 simpa [Vk] using this
def Ia {a:Addr}{b:Bool}{xs:Qk}{es:Array (Int×Value)}{ep v:Nat}{t:Tok}{Q:Bool->Shared->Prop}(hS:SetX s.heap a b xs es ep)(h8:∀x∈xs,x<8)(v8:v<8)(hn:v∉xs)(hl:xs.length<8)(ok:Bf b xs v=true)
 (h:∀h' ep',Heap.SameBut a s.heap h'->SetX h' a b (xs++[v]) (es.push ((v:Int),.int (v:Int) t)) ep'->Q true { s with heap:=h' }) :
 wpAny (model prog w) A (setAddHashed a (.int (v:Int) t) (hashInt (v:Int))) Q E s:=by
 have hel:=hS.elems (prog:=prog) (w:=w) h8;have sz:=hS.size;unfold Bf at ok;simp only[WZ,decide_eq_true_eq]at ok;obtain⟨⟨⟨⟨o1,o2⟩,o3⟩,o4⟩,o5⟩:=ok;have hf:(VT b xs).fits es.size=true:=by rw[sz];exact o4
 have hb:es.size<scanBound:=by rw[sz];exact Nat.lt_trans hl (by decide)
 have hkey:(intKind prog w).is (v:Int) (.int (v:Int) t)=true:=intKind_is _ _ _ _;unfold setAddHashed setAddHashedIn;refine wpAny_holding (Xa (wpAny_setState_of hS.at_ rfl hf ?_));dsimp only;rw[byScan_of (knd:=intKind prog w) rfl hb hel];simp only[↓reduceIte];unfold setAddByScan;refine Xa ?_;refine Xa (wpAny_rule ?_);refine Xa (wpAny_setScan_of (knd:=intKind prog w) (k:=(v:Int)) hkey hS.at_ rfl hf hel ?_)
 have hr:List.findIdx? (fun e=>(intKind prog w).is (v:Int) e.2) es.toList=none:=List.findIdx?_eq_none_iff.mpr fun e he=>by
  obtain⟨t',et⟩:=hS.vs e he;have hm:e.1∈Vk xs:=hS.hs▸List.mem_map_of_mem he;obtain⟨x,hx,ex⟩:=X4.mp hm
  cases z:(intKind prog w).is (v:Int) e.2 with
  |false=>rfl
  |true =>
    exfalso
    rw[et]at z;have:(v:Int)=e.1:=(intKind prog w).inj _ _ _ z (intKind_is _ _ _ _)
    exact hn (by have:v=x:=by omega
                 rw[this];exact hx)
 rw[hr];dsimp only;have hh:=Sj v8
 have lay:layNew (VT b xs) es (hashInt (v:Int)) (.int (v:Int) t)=(es.push ((v:Int),.int (v:Int) t),VW b xs v,false,false):=by
  unfold layNew;rw[hh,o1];dsimp only;rw[o2];dsimp only;rw[<- sz,Eo];unfold SetTable.orStandIn;have:(VW b xs v).fits (es.push ((v:Int),Value.int (v:Int) t)).size=true:=by rw[Array.size_push,sz];exact o3
  rw[Xd this,this];rfl
 rw[lay];dsimp only;have gw:∀{z:Shared} {Q':Unit->Shared->Prop},Q' () z->wpAny (model prog w) A (match false with|true=>rule "set.scan.the-table-gave-way" |false=>pure ()) Q' E z:=fun h0=>Xk h0;refine Xa (gw ?_);have pl:(VW b xs v).plain=true:=rfl;rw[pl];simp only[↓reduceIte];refine Xa ?_;rw[hashByValue_scannable 8 (x:=.int (v:Int) t) rfl];refine Xk ?_;have pk:plainKind (.int (v:Int) t)=true:=rfl;simp only[pk,if_true];have s1:(es.push ((v:Int),Value.int (v:Int) t)).size=xs.length+1:=by rw[Array.size_push,sz]
 have zl:(es.push ((v:Int),Value.int (v:Int) t)).size<=sizeLine:=by rw[s1];exact fits_of_scanBound (BQ (show xs.length+1<=8 by omega) (by decide))
 have hs':(es.push ((v:Int),Value.int (v:Int) t)).toList.map (·.1)=Vk (xs++[v]):=by
  rw[Array.toList_push,XD,hS.hs];unfold Vk;rw[XD];rfl
 have vs':∀e∈(es.push ((v:Int),Value.int (v:Int) t)).toList,∃t,e.2=.int e.1 t:=fun e he=>by
  rw[Array.toList_push]at he;rcases XH.mp he with he|he
  ·exact hS.vs e he
  ·cases Xi.mp he
   exact⟨t,rfl⟩
 refine Xa (wpAny_storeSet_of hS.at_ rfl ?_ zl)
 have g1:(s.heap.update a (Obj.putSet (es.push ((v:Int),Value.int (v:Int) t)) (VW b xs v))).get? a=some { cls:=.type "set",dict:=none,data:=.set (es.push ((v:Int),Value.int (v:Int) t)) (ep+1) (VW b xs v) }:=by
  have:=XX (Obj.putSet (es.push ((v:Int),Value.int (v:Int) t)) (VW b xs v)) hS.at_ (by rw[putSet_of _ _ rfl];rfl)
  rw[putSet_of _ _ rfl]at this;exact this
 have sb1:=Heap.SameBut.update s.heap a (Obj.putSet (es.push ((v:Int),Value.int (v:Int) t)) (VW b xs v))
 by_cases tf:(VW b xs v).tooFull=true
 ·rw[Xd tf]at o5
  simp only[WZ,decide_eq_true_eq]at o5;obtain⟨⟨r1,r2⟩,r3⟩:=o5
  have rl:relayAll (VW b xs v) (es.push ((v:Int),Value.int (v:Int) t)) (SetTable.grown (es.push ((v:Int),Value.int (v:Int) t)).size)=(es.push ((v:Int),Value.int (v:Int) t),VT b (xs++[v]),false):=by
   unfold relayAll;have em:(es.push ((v:Int),Value.int (v:Int) t)).map (·.1)=(Vk (xs++[v])).toArray:=by
    apply Array.toList_inj.mp
    rw[Array.toList_map,hs']
   rw[em,s1,r1];dsimp only;rw[<- s1,SR,s1,r2,r3];rfl
  simp only[tf,Bool.not_false,Bool.true_and,if_true,rl];refine Xa (gw ?_);refine Xa (wpAny_storeSet_of g1 rfl ?_ zl);refine Xk (Xk (h _ (ep+1+1) (sb1.trans (Heap.SameBut.update _ a _)) ⟨?_,hs',vs'⟩))
  have:=XX (Obj.putSet (es.push ((v:Int),Value.int (v:Int) t)) (VT b (xs++[v]))) g1 (by rw[putSet_of _ _ rfl];rfl)
  rw[putSet_of _ _ rfl]at this;exact this
 ·rw[Xb tf]at o5
  have o5:=XV o5;simp only[tf,Bool.not_false,Bool.true_and,if_false];refine Xk (Xk (h _ (ep+1) sb1 ⟨?_,hs',vs'⟩));rw[<- o5];exact g1
end
def NM {p:Qm}{x:Nat}(h:x∈QV p):x<8:=by
 have:=(List.mem_filter.mp h).1
 simp at this
 omega
def PF (p:Qm):(QV p).Nodup:=List.Pairwise.filter _ (show([0,1,2,3,4,5,6,7]:Qk).Nodup by decide)
def Ds (p:Qm):(QV p).length<=8:=BU _ _
def Ly {p:Qm}{i:Nat}(h:i<(QV p).length):(QV p).getD i 0∉(QV p).take i/\(QV p).getD i 0<8/\(QV p).take (i+1)=(QV p).take i++[(QV p).getD i 0]:=by
 have e:(QV p).getD i 0=(QV p)[i]:=by simp[List.getD,h]
 rw[e];refine⟨fun hm=>?_,NM (XY h),by rw[JO,X0 h];rfl⟩;obtain⟨j,hj,ej⟩:=JU.mp hm;rw[BO]at hj;rw[List.getElem_take]at ej;have:=(List.getElem_inj (PF p)).mp ej;omega
def SetX.keep {h h':Heap}{a:Addr}{b:Bool}{xs:Qk}{es:Array (Int×Value)}{ep:Nat}(hS:SetX h a b xs es ep)(e:∀o,h.get? a=some o->h'.get? a=some o):SetX h' a b xs es ep:=⟨e _ hS.at_,hS.hs,hS.vs⟩
def UL (h:Heap)(a:Addr)(b:Bool)(xs:Qk):Prop := ∃es ep,SetX h a b xs es ep
section
variable {prog:Program}{w:World}{A:Around}{R:Result->Shared->Prop}{E:Qb}{s:Shared}
theorem RD {I S:Addr}{fp wr:Qg}{G:Array GenState->Array GenState->Prop}{V:Nat->Value->Prop}{St:Nat->Shared->Prop}(p:Qm)(b:Bool)(W:WalksS prog w A.in1 I fp wr G (QV p).length V St)(nS:S∉fp)
 (hv:∀i v,V i v->∃t,v=.int (((QV p).getD i 0:Nat):Int) t):∀(k i:Nat) (s:Shared),(QV p).length=i+k->St i s->UL s.heap S b ((QV p).take i) ->
  (∀s',Moved (S::wr) G s s'->UL s'.heap S b (QV p)->R (.ok (.ret .none)) s')->codeAny (model prog w) A (.builtin "set.update.loop" ⟨[.ref S,.ref I],[]⟩) R s
 |0,i,s,hk,st,hS,q=>by
   refine codeAny_builtin F.entry_set_update_loop ?_;rw[Around.under_plainId F.plain_set_update_loop _];show wpAny _ A.in1 (pyNext (.ref I) >>= _) _ _ s;have st':St (QV p).length s:=by rw[hk];exact st
   have nw:S∉wr:=fun z=>nS (W.sub _ z);refine Xa (W.done s _ _ st' fun s2 m=>?_);show wpAny _ A.in1 (ret Value.none) _ _ s2;obtain⟨es,ep,x⟩:=hS;rw[show i=(QV p).length by omega,JQ]at x;exact Xk (q s2 (m.mono fun c hc=>Xe _ hc) ⟨es,ep,x.keep fun o e=>m.heap S o nw e⟩)
 |k+1,i,s,hk,st,hS,q=>by
   refine codeAny_builtin F.entry_set_update_loop ?_;rw[Around.under_plainId F.plain_set_update_loop _];show wpAny _ A.in1 (pyNext (.ref I) >>= _) _ _ s;have lt:i<(QV p).length:=by omega
   have nw:S∉wr:=fun z=>nS (W.sub _ z);refine Xa (W.item i s _ _ lt st fun v s2 hP st2 m=>?_);obtain⟨t,rfl⟩:=hv i v hP;obtain⟨es,ep,x⟩:=hS;have x2:SetX s2.heap S b ((QV p).take i) es ep:=x.keep fun o e=>m.heap S o nw e;obtain⟨n1,n2,n3⟩:=Ly lt;have l8:=Ds p;show wpAny _ A.in1 (holding [Value.int (((QV p).getD i 0:Nat):Int) t] (setAdd S (.int (((QV p).getD i 0:Nat):Int) t)) >>= _) _ _ s2;refine Xa (wpAny_holding ?_);unfold setAdd;refine wpAny_holding (Xa ((intKind prog w).pyHash (k:=(((QV p).getD i 0:Nat):Int)) (intKind_is _ _ _ _) ?_));refine Ia (s:={ s2 with toks:=s2.toks+1 }) x2 (fun z hz=>NM (List.mem_of_mem_take hz)) n2 n1 (by rw[BO];omega) (C4 b p i lt) fun h' ep' sb x3=>?_;rw[<- n3]at x3;have st3:St (i+1) { s2 with heap:=h',toks:=s2.toks+1 }:=W.frame _ s2 _ _ st2 (Jd _) fun c hc o e=>by rw[sb.2 c (fun z=>nS (z▸hc))];exact e
   refine Xk ⟨plainId_quiet F.plain_set_update_loop _,RD p b W nS hv k (i+1) _ (by omega) st3 ⟨_,_,x3⟩ fun s4 m4 y=>?_⟩;refine q s4 (Moved.trans W.gtrans ((m.mono fun c hc=>Xe _ hc).then_heap (Jd _) fun c o hc e=>?_) m4) y;rw[sb.2 c (fun z=>hc (by rw[z];exact Xc))];exact e
end
def YK (b:Bool):Obj:={ cls:=.type "set",dict:=none,data:=.set #[] 0 (.fresh 0 0 b) }
def VU (w:World):Bool := !(w.params.followText "set-order")
section
variable {prog:Program}{w:World}{A:Around}{E:Qb}{s:Shared}
def FU (a:Value){Q:Qb}(q:Q (.ref s.heap.objs.size) { s with heap:=s.heap.push (YK (VU w)) }) :
 codeAny (model prog w) A (.call (.builtin "set.__new__") ⟨[.type "set",a],[]⟩) (wants Q E) s:=by
 apply codeAny_of_tree
 show wpAny _ A.in1 (checkBuiltinCall "set.__new__" ⟨[.type "set",a],[]⟩ >>= fun _=>again (.builtin "set.__new__" ⟨[.type "set",a],[]⟩)) _ _ s
 apply Xa
 apply wpAny_of_eq (PySem.F.newCall_set_1 a)
 refine Xk ⟨plainId_quiet PySem.F.plain_set_new _,codeAny_builtin PySem.F.entry_set_new ?_⟩;rw[Around.under_plainId PySem.F.plain_set_new _];unfold Builtin.«set.__new__» Builtin.Frozenset.newClass;have sub:=sub_set_self;obtain⟨hp,g,d,tk,os⟩:=s;dsimp only;wp_walk
 apply wpAny_askSetting
 apply Xk
 dsimp only;simp only[newObj];exact Xa (wpAny_alloc (Xk (Xk q)))
end
end L2
set_option maxHeartbeats 8000000
namespace L2
open PySem PySem.Spec PyProof.Rows
section
variable {prog:Program}{w:World}{A:Around}{E:Qb}{s:Shared}
def CK {l:Addr}{items:Array Value}{p:Qm}{Q:Qb}(hh:A.handled=none)(hl:s.heap.IsList l items)(hi:IntsAre items.toList (Vk (QV p)))
 (q:∀(h':Heap) (tk:Nat),UL h' s.heap.objs.size (VU w) (QV p)->(∀c o,c<s.heap.objs.size->s.heap.get? c=some o->h'.get? c=some o)->Q (.ref s.heap.objs.size) { s with heap:=h',toks:=tk }) :
 wpAny (model prog w) A (call (.type "set") [.ref l]) Q E s:=by
 have isz:items.size=(QV p).length:=by
  have:=IntsAre.length hi
  simpa [Vk] using this
 obtain⟨c0,tl,hmro⟩:=PySem.F.called_set.mro;have made:=PySem.F.called_set.made;have sub:=PySem.F.called_set.sub
 apply wpAny_call
 apply codeAny_of_tree
 show wpAny _ _ (callAny (.type "set") _) _ _ _;refine Xk ⟨Code.quiet_builtin _ (by decide +kernel),?_⟩
 apply codeAny_builtin PySem.F.entry_type_call
 rw[Around.under_plain (weight_type_call_type "set" [.ref l] []) rfl];have nt:=PySem.F.called_set.notType;have cc:=PySem.F.called_set.canCreate;have ct:=PySem.F.typeCall_set_1 (.ref l)
 repeat (any_goals (first|assumption|wp_step))
 refine codeAny_mono (FU (.ref l) (E:=E) (Q:=fun o s1=>o=.ref s.heap.objs.size/\s1={ s with heap:=s.heap.push (YK (VU w)) }) ⟨rfl,rfl⟩) fun r s1 hr=>?_
 cases r with
 |error e=>exact hr
 |ok fl =>
   cases fl with
   |ret o =>
     obtain⟨rfl,rfl⟩:=hr;have gS:(s.heap.push (YK (VU w))).get? s.heap.objs.size=some (YK (VU w)):=Xu _ rfl;have tS:Shared.TypeIs { s with heap:=s.heap.push (YK (VU w)) } (.ref s.heap.objs.size) "set" := ⟨_,gS,rfl⟩;have li:=PySem.F.called_set.init.lookup;have bi:=PySem.F.called_set.init.bind (.ref s.heap.objs.size)
     repeat (any_goals (first|assumption|wp_step))
     refine codeAny_mono (codeAny_call_builtin (R:=wants (fun r s2=>r=.none/\∃h' tk,s2={ s with heap:=h',toks:=tk }/\UL h' s.heap.objs.size (VU w) (QV p)/\∀c o,c<s.heap.objs.size->s.heap.get? c=some o->h'.get? c=some o) E) PySem.F.called_set.init.plain PySem.F.entry_set_init (check_set_init_1 tS ?_)) fun r2 s2 hr2=>?_
     ·obtain⟨ol,hol,hcl,nl,hdl⟩:=hl
      have ol':(s.heap.push (YK (VU w))).get? l=some ol:=Xf _ hol;have il:(s.heap.push (YK (VU w))).IsList l items:=⟨ol,ol',hcl,nl,hdl⟩;have lS:l<s.heap.objs.size:=Xj hol;obtain⟨ocls,odict,odata,oslots⟩:=ol
      simp only at hcl hdl
      subst hcl;subst hdl;have n1:=PySem.F.sub_list_set;have n2:=PySem.F.sub_list_frozenset;have n3:(Value.type "list" == Value.type "dict")=false:=by decide
      unfold Builtin.«set.__init__» noKeywords Builtin.Frozenset.updateFrom;generalize hPI:pyIter=PI;wp_walk;subst hPI;apply wpAny_pyIter_list il
      apply Xa
      apply wpAny_runValue
      have h3:A.in1.in1.in1.handled=none:=by simp[hh]
      have sz1:(s.heap.push (YK (VU w))).objs.size=s.heap.objs.size+1:=YG ..;have neI:l≠(s.heap.push (YK (VU w))).objs.size:=by rw[sz1];exact Xm (JR lS)
      have nS:s.heap.objs.size∉[(s.heap.push (YK (VU w))).objs.size,l]:=fun z=>by
       simp only[Xg,XL,or_false]at z;rcases z with z|z
       ·rw[sz1]at z;exact Xl z (Xm (X9 _))
       ·exact Xl z (XU lS)
      have W:=(Walks.list (prog:=prog) (w:=w) h3 _ l neI items).toS;rw[isz]at W;refine RD p (VU w) W nS (fun i v hv=>?_) (QV p).length 0 _ (by omega) ⟨⟨_,Xu _ rfl,rfl,rfl⟩,il.push _⟩ ⟨#[],0,?_,rfl,fun e he=>by simp at he⟩ fun s3 m y=>?_
      ·obtain⟨t,e⟩:=IntsAre.int_at hi i v (by rw[Array.getElem?_toList];exact hv)
       refine⟨t,e.trans ?_⟩
       have:(Vk (QV p)).getD i 0=(((QV p).getD i 0:Nat):Int):=by
        unfold Vk;simp only[List.getD,Xt];cases (QV p)[i]?<;>rfl
       rw[this]
      ·exact Xf _ gS
      ·obtain⟨h',g',d',tk',os'⟩:=s3
       have e1:g'=s.gens:=m.gens;have e2:d'=s.drawn:=m.drawn;have e3:os'=s.os:=m.os;subst e1 e2 e3;show wpAny _ _ _ _ _ _
       apply Xk
       show wpAny _ _ (ret Value.none) _ _ _;refine Xk ⟨rfl,h',tk',rfl,y,fun c o hc e=>?_⟩;refine m.heap c o (fun z=>?_) (Xf _ (Xf _ e));simp only[Xg,XL,or_false]at z;rcases z with z|z
       ·exact Xl z (Xm hc)
       ·rw[sz1]at z;exact Xl z (Xm (JR hc))
     ·cases r2 with
      |error e=>exact hr2
      |ok fl2 =>
        cases fl2 with
        |ret r =>
          obtain⟨rfl,h',tk,rfl,y,k⟩:=hr2
          repeat (any_goals (first|assumption|wp_step))
          exact q _ _ y k
        |_=>exact hr2.elim
   |_=>exact hr.elim
end
end L2
set_option maxHeartbeats 8000000
namespace L2
open PySem PySem.Spec PyProof.Rows
def AQ:∀b b0 b1 b2 b3 b4 b5 b6 b7:Bool,(VT b (QV (Jo b0 b1 b2 b3 b4 b5 b6 b7))).fits (QV (Jo b0 b1 b2 b3 b4 b5 b6 b7)).length=true:=by decide +kernel
def LO (b:Bool)(p:Qm):(VT b (QV p)).fits (QV p).length=true:=by
 rw[Rp p];exact AQ b _ _ _ _ _ _ _ _
end L2
set_option maxHeartbeats 8000000
namespace L2
open PySem PySem.Spec PyProof.Rows
section
variable {prog:Program}{w:World}{A:Around}{E:Qb}{s:Shared}
end
end L2
set_option maxHeartbeats 8000000
namespace L2
open PySem PySem.Spec PyProof.Rows
section
variable {prog:Program}{w:World}{A:Around}{E:Qb}{s:Shared}
end
end L2
set_option maxHeartbeats 8000000
namespace L2
open PySem PySem.Spec PyProof.Rows
def P2 (p:Qm):(Vk (QV p)).Pairwise (· <= ·):=by
 unfold Vk;rw[List.pairwise_map];exact List.Pairwise.filter _ (show([0,1,2,3,4,5,6,7]:Qk).Pairwise (fun(a b:Nat)=>(a:Int)<=(b:Int)) by decide)
section
variable {prog:Program}{w:World}{A:Around}{E:Qb}{s:Shared}
end
def phS (w:World)(a:Addr)(p:Qm):Heap->Prop:=fun h=>UL h a (VU w) (QV p)
def TQ {P:Program}{w w':World}{H:Hp}{h:Heap}{a:Addr}{p:Qm}(x:phS w a p h):Z6 P w' H h a (.ext (phS w a p)):=by
 refine⟨x,?_,fun h1 h2 ⟨es,ep,y⟩ k=>⟨es,ep,y.keep k⟩⟩;obtain⟨es,ep,y⟩:=x
 exact⟨_,y.at_⟩
def JZ (p:Qm):Qd:=(Vk (QV p)).map PyData.int
section
variable {X:Cx}
def Kv (X:Cx):List V->Hp->VK->Prop:=fun xs H Q=>X.calm=true/\∃(x:V) (p:Qm),xs=[x]/\Rep H x (.list (JZ p))/\∀a,H a=none->Q (.ref a) (upd H a (.ext (phS X.w a p)))
def Lp:Zr X (.type "set") (Kv X):=by
 intro XaR s σ H xs us Q I r h;obtain⟨hc,x,p,rfl,rx,q⟩:=h;obtain⟨u,rfl,ru⟩:=VP r;unfold JZ at rx;cases rx with
 |@lst a ys _ ha ra =>
   cases ru
   obtain⟨z,its,n,rv,e⟩:=I.hok _ _ ha;have ey:ys=(Vk (QV p)).map V.int:=J9 ra;have hI:IntsAre its (Vk (QV p)):=U8 (by rw[<- ey];exact rv);refine CK (p:=p) (items:=its.toArray) (I.ok.hd hc) ⟨_,e,rfl,n,rfl⟩ (by simpa using hI) fun h' tk y old=>?_;refine⟨.ref s.heap.objs.size,_,I.laid (t':=tk) (a:=s.heap.objs.size) (o:=.ext (phS X.w s.heap.objs.size p)) (fun b u hu=>old b u (Xj hu) hu) (Xq _) (TQ y),rfl,q _ (I.hok.fresh (Xq _))⟩
end
section
variable {K:W.Frag}{ρ:Q5}{ta:TE}{X X':Cx}{p:Qm}
end
end L2
section
namespace L2
open PySem PySem.Spec PyProof.Rows
def AH:bootBuiltins "sorted"=some (.builtin "sorted"):=by decide +kernel
section
variable {X:Cx}
end
section
variable {K:W.Frag}{ρ:Q5}{te ti:TE}{D:PEnds}
end
end L2
end
namespace L2
open PySem PySem.Spec PyProof.Rows
def Pp:bootBuiltins "set"=some (.type "set"):=by decide +kernel
def SH:bootBuiltins "ValueError"=some (.type "ValueError"):=by decide +kernel
end L2
section
namespace L2
open PySem PySem.Spec PyProof.Rows
abbrev Vp:=List (Key×PyData)
def Y1 (kvs:Vp)(k:Key):Option PyData:=(kvs.find? fun kv=>decide (kv.1=k)).map (·.2)
inductive PairK (F:Hp):List (Key×V)->Vp->Prop
 |nil:PairK F [] []
 |cons {k:Key} {x:V} {d:PyData} {xs:List (Key×V)} {kvs:Vp}:Rep F x d->PairK F xs kvs->PairK F ((k,x)::xs) ((k,d)::kvs)
theorem PairK.mono {F F':Hp}(s:Q4 F F'):∀{xs:List (Key×V)} {kvs:Vp},PairK F xs kvs->PairK F' xs kvs
 |_,_,.nil=>.nil
 |_,_,.cons r t=>.cons (r.mono s) (t.mono s)
theorem PairK.val {F:Hp}(k:Key):∀{xs:List (Key×V)} {kvs:Vp},PairK F xs kvs->(Zq xs k=none/\Y1 kvs k=none)\/∃x d,Zq xs k=some x/\Y1 kvs k=some d/\Rep F x d
 |_,_,.nil=>.inl ⟨rfl,rfl⟩
 |_,_,.cons (k:=k') (x:=x) (d:=d) (xs:=xs) (kvs:=kvs) r t=>by
   by_cases e:k'=k
   ·exact .inr ⟨x,d,Yx e,by simp[Y1,Xx,e],r⟩
   ·have q:Y1 ((k',d)::kvs) k=Y1 kvs k:=by simp[Y1,Xx,e]
    rw[Yv (p:=(k',x)) e,q];exact t.val k
section
variable {K:W.Frag}{ρ:Q5}{te ty tv:TE}{D:PEnds}{i:Nat}{v:V}{kvs:Vp}{k:Key}{d:PyData}
end
section
variable {K:W.Frag}{ρ:Q5}{ty:TE}{D:PEnds}{i:Nat}{k:Key}
end
structure HandS where
 yard:PyData
 now:Int
 known:Qd
 given:Ql
 gone:Vp
 made:List Vp
inductive MadeD (F H:Hp):Qg->List Vp->Prop
 |nil:MadeD F H [] []
 |cons {a:Addr} {xs:List (Key×V)} {kvs:Vp} {as:Qg} {ms:List Vp}:F a=none->H a=some (.dK xs)->PairK F xs kvs->MadeD F H as ms->MadeD F H (a::as) (kvs::ms)
theorem MadeD.mem {F H:Hp}:∀{as:Qg} {ms:List Vp},MadeD F H as ms->∀a∈as,F a=none/\H a≠none
 |_,_,.nil,a,ha=>nomatch ha
 |_,_,.cons h1 h2 _ t,a,ha=>by
   rcases Xg.mp ha with rfl|ha
   ·exact⟨h1,Z1 h2⟩
   ·exact t.mem a ha
theorem MadeD.mono {F F' H H':Hp}(s:Q4 F F'):∀{as:Qg} {ms:List Vp},(∀a∈as,F' a=none)->(∀a∈as,H' a=H a)->MadeD F H as ms->MadeD F' H' as ms
 |_,_,_,_,.nil=>.nil
 |_,_,hF,hH,.cons h1 h2 h3 t=>.cons (hF _ Xc) (by rw[hH _ Xc];exact h2) (h3.mono s) (t.mono s (fun a ha=>hF a (Xe _ ha)) (fun a ha=>hH a (Xe _ ha)))
def MadeD.other {F H:Hp}{b:Addr}{o:HO}{as:Qg}{ms:List Vp}(h:MadeD F H as ms)(n:b∉as):MadeD F (upd H b o) as ms :=
 h.mono (Q4.refl _) (fun a ha=>(h.mem a ha).1) (fun a ha=>Qt fun z=>n (z▸ha))
inductive MadeZ (F:Hp):Qg->List Vp->Prop
 |nil:MadeZ F [] []
 |cons {a:Addr} {xs:List (Key×V)} {kvs:Vp} {as:Qg} {ms:List Vp}:F a=some (.dK xs)->PairK F xs kvs->MadeZ F as ms->MadeZ F (a::as) (kvs::ms)
theorem MadeZ.mono {F F':Hp}(s:Q4 F F'):∀{as:Qg} {ms:List Vp},MadeZ F as ms->MadeZ F' as ms
 |_,_,.nil=>.nil
 |_,_,.cons h1 h2 t=>.cons (s _ _ h1) (h2.mono s) (t.mono s)
theorem MadeD.fz {F F' H:Hp}(s:Q4 F F'):∀{as:Qg} {ms:List Vp},(∀a∈as,F' a=H a)->MadeD F H as ms->MadeZ F' as ms
 |_,_,_,.nil=>.nil
 |_,_,he,.cons _ h2 h3 t=>.cons (by rw[he _ Xc];exact h2) (h3.mono s) (t.fz s fun a ha=>he a (Xe _ ha))
abbrev hfs (y:V) (n:Int) (k g d m:Addr):List (Str×V):=[("yard",y),("present",.int n),("known",.ref k),("given",.ref g),("gone",.ref d),("made",.ref m)]
structure HandOk (C:Addr)(N:HandS)(F H:Hp)(a dx k g d m:Addr)(y:V)(xs:List (Key×V))(as:Qg):Prop where
 nd:(a::dx::k::g::d::m::as).Nodup
 ins:F a=none/\H a=some (.ins C dx (hfs y N.now k g d m))
 own:F dx=none/\H dx=some (.own a)
 yd:Rep F y N.yard
 known:Vj F H k N.known
 given:Vj F H g (N.given.map PyData.int)
 gone:F d=none/\H d=some (.dK xs)/\PairK F xs N.gone
 made:F m=none/\H m=some (.lst (as.map V.ref))/\MadeD F H as N.made
def HandOk.mono {C:Addr}{N:HandS}{F F' H H':Hp}{a dx k g d m:Addr}{y:V}{xs:List (Key×V)}{as:Qg}(o:HandOk C N F H a dx k g d m y xs as)(s:Q4 F F')(hF:∀b∈a::dx::k::g::d::m::as,F' b=none)(hH:∀b∈a::dx::k::g::d::m::as,H' b=H b):HandOk C N F' H' a dx k g d m y xs as:=by
 obtain⟨nd,⟨i1,i2⟩,⟨o1,o2⟩,yd,⟨k1,kx,k2,k3⟩,⟨g1,gx,g2,g3⟩,⟨d1,d2,d3⟩,⟨m1,m2,m3⟩⟩:=o
 exact⟨nd,⟨hF _ (by simp),by rw[hH _ (by simp)];exact i2⟩,⟨hF _ (by simp),by rw[hH _ (by simp)];exact o2⟩,yd.mono s,⟨hF _ (by simp),kx,by rw[hH _ (by simp)];exact k2,k3.mono s⟩,⟨hF _ (by simp),gx,by rw[hH _ (by simp)];exact g2,g3.mono s⟩,
  ⟨hF _ (by simp),by rw[hH _ (by simp)];exact d2,d3.mono s⟩,⟨hF _ (by simp),by rw[hH _ (by simp)];exact m2,m3.mono s (fun b hb=>hF b (by simp[hb])) (fun b hb=>hH b (by simp[hb]))⟩⟩
def Zv (C:Addr)(N:HandS):OwnP where
 ok K F H v p := ∃a dx k g d m y xs as,v=.ref a/\p=a::dx::k::g::d::m::as/\HandOk C N F H a dx k g d m y xs as
 there:=by
  rintro K F H v p ⟨a,dx,k,g,d,m,y,xs,as,rfl,rfl,o⟩ b hb
  obtain⟨_,⟨i1,i2⟩,⟨o1,o2⟩,_,⟨k1,kx,k2,_⟩,⟨g1,gx,g2,_⟩,⟨d1,d2,_⟩,⟨m1,m2,m3⟩⟩:=o;simp only[Xg]at hb;rcases hb with rfl|rfl|rfl|rfl|rfl|rfl|hb
  ·exact⟨i1,Z1 i2⟩
  ·exact⟨o1,Z1 o2⟩
  ·exact⟨k1,Z1 k2⟩
  ·exact⟨g1,Z1 g2⟩
  ·exact⟨d1,Z1 d2⟩
  ·exact⟨m1,Z1 m2⟩
  ·exact m3.mem b hb
 mono:=by
  rintro K F F' H H' v p s hF hH ⟨a,dx,k,g,d,m,y,xs,as,rfl,rfl,o⟩
  exact⟨a,dx,k,g,d,m,y,xs,as,rfl,rfl,o.mono s hF hH⟩
 uniq:=by
  rintro K F H v p q ⟨a,dx,k,g,d,m,y,xs,as,rfl,rfl,o⟩ ⟨a',dx',k',g',d',m',y',xs',as',ev,rfl,o'⟩ c hc
  cases ev
  have i:=o.ins.2.symm.trans o'.ins.2;injection i with i;injection i with _ i1 i2;subst i1;simp only[hfs,List.cons.injEq,Prod.mk.injEq,true_and,and_true,V.ref.injEq]at i2;obtain⟨rfl,rfl,rfl,rfl,rfl⟩:=i2;have j:=o.made.2.1.symm.trans o'.made.2.1;injection j with j;injection j with j;rw[DN j];exact hc
structure HandFz (C:Addr)(N:HandS)(F:Hp)(a dx k g d m:Addr)(y:V)(ks gs:List V)(xs:List (Key×V))(as:Qg):Prop where
 ins:F a=some (.ins C dx (hfs y N.now k g d m))
 yd:Rep F y N.yard
 known:F k=some (.lst ks)/\Qw F ks N.known
 given:F g=some (.lst gs)/\Qw F gs (N.given.map PyData.int)
 gone:F d=some (.dK xs)/\PairK F xs N.gone
 made:F m=some (.lst (as.map V.ref))/\MadeZ F as N.made
def Zn (C:Addr)(N:HandS):ZP where
 ok K F v := ∃a dx k g d m y ks gs xs as,v=.ref a/\HandFz C N F a dx k g d m y ks gs xs as
 mono:=by
  rintro K F F' v s ⟨a,dx,k,g,d,m,y,ks,gs,xs,as,rfl,⟨h1,h2,⟨h3,h4⟩,⟨h5,h6⟩,⟨h7,h8⟩,⟨h9,h10⟩⟩⟩
  exact⟨a,dx,k,g,d,m,y,ks,gs,xs,as,rfl,s _ _ h1,h2.mono s,⟨s _ _ h3,h4.mono s⟩,⟨s _ _ h5,h6.mono s⟩,⟨s _ _ h7,h8.mono s⟩,⟨s _ _ h9,h10.mono s⟩⟩
def Zv.fz {C:Addr}{N:HandS}{K:W.Frag}{F F' H:Hp}{v:V}{p:Qg}(h:(Zv C N).ok K F H v p)(s:Q4 F F')(he:∀b∈p,F' b=H b):(Zn C N).ok K F' v:=by
 obtain⟨a,dx,k,g,d,m,y,xs,as,rfl,rfl,o⟩:=h;obtain⟨nd,⟨i1,i2⟩,⟨o1,o2⟩,yd,⟨k1,kx,k2,k3⟩,⟨g1,gx,g2,g3⟩,⟨d1,d2,d3⟩,⟨m1,m2,m3⟩⟩:=o
 exact⟨a,dx,k,g,d,m,y,kx,gx,xs,as,rfl,by rw[he _ (by simp)];exact i2,yd.mono s,⟨by rw[he _ (by simp)];exact k2,k3.mono s⟩,⟨by rw[he _ (by simp)];exact g2,g3.mono s⟩,⟨by rw[he _ (by simp)];exact d2,d3.mono s⟩,⟨by rw[he _ (by simp)];exact m2,m3.fz s fun b hb=>he b (by simp[hb])⟩⟩
structure HandC (K:W.Frag)(C:Addr):Prop where
 cl:Cls K C
 yd:V3 K C "yard"
 pr:V3 K C "present"
 kn:V3 K C "known"
 gv:V3 K C "given"
 go:V3 K C "gone"
 md:V3 K C "made"
def NoH (m:Str):Prop := ∀(y:V) (n:Int) (k g d e:Addr),(hfs y n k g d e).lookup m=none
section
variable {K:W.Frag}{ρ:Q5}{ty:TE}{D:PEnds}{i:Nat}{C:Addr}{N:HandS}{m:Str}
def QC.hz {H0 F H:Hp}{σ:St}(S:QC K H0 F ρ σ H)(e:ρ[i]?=some (some (.zow (Zn C N)))):∃a dx k g d m y ks gs xs as,σ[i]?=some (some (.ref a))/\HandFz C N F a dx k g d m y ks gs xs as:=by
 obtain⟨fp,h,_⟩:=S.fp;obtain⟨v,e1,_,a,dx,k,g,d,m,y,ks,gs,xs,as,rfl,h1⟩:=h i _ e
 exact⟨a,dx,k,g,d,m,y,ks,gs,xs,as,e1,h1⟩
def GB (c:HandC K C) (e:ρ[i]?=some (some (.zow (Zn C N)))):Qu K (Vs K (QD i) "yard") ρ N.yard:=fun H0 F σ H Q S q=>by
 obtain⟨a,dx,k,g,d,m,y,ks,gs,xs,as,e1,o⟩:=S.hz e
 exact⟨_,e1,a,C,dx,_,y,rfl,S.sub _ _ o.ins,c.cl,c.yd,rfl,q F H y (Q1.refl S.sub) o.yd⟩
def DF (c:HandC K C) (e:ρ[i]?=some (some (.zow (Zn C N)))):Qu K (Vs K (QD i) "present") ρ (.int N.now):=fun H0 F σ H Q S q=>by
 obtain⟨a,dx,k,g,d,m,y,ks,gs,xs,as,e1,o⟩:=S.hz e
 exact⟨_,e1,a,C,dx,_,.int N.now,rfl,S.sub _ _ o.ins,c.cl,c.pr,rfl,q F H _ (Q1.refl S.sub) (.int _)⟩
def G6 (c:HandC K C) (e:ρ[i]?=some (some (.zow (Zn C N)))):Qu K (Vs K (QD i) "known") ρ (.list N.known):=fun H0 F σ H Q S q=>by
 obtain⟨a,dx,k,g,d,m,y,ks,gs,xs,as,e1,o⟩:=S.hz e
 exact⟨_,e1,a,C,dx,_,.ref k,rfl,S.sub _ _ o.ins,c.cl,c.kn,rfl,q F H _ (Q1.refl S.sub) (.lst o.known.1 o.known.2)⟩
def Sk (c:HandC K C) (e:ρ[i]?=some (some (.zow (Zn C N)))):Qu K (Vs K (QD i) "given") ρ (.list (N.given.map PyData.int)):=fun H0 F σ H Q S q=>by
 obtain⟨a,dx,k,g,d,m,y,ks,gs,xs,as,e1,o⟩:=S.hz e
 exact⟨_,e1,a,C,dx,_,.ref g,rfl,S.sub _ _ o.ins,c.cl,c.gv,rfl,q F H _ (Q1.refl S.sub) (.lst o.given.1 o.given.2)⟩
def A4 (c:HandC K C) (e:ρ[i]?=some (some (.zow (Zn C N)))) (h0:N.made=[]):Qu K (Vs K (QD i) "made") ρ (.list []):=fun H0 F σ H Q S q=>by
 obtain⟨a,dx,k,g,d,m,y,ks,gs,xs,as,e1,o⟩:=S.hz e;obtain⟨m1,m2⟩:=o.made;rw[h0]at m2;cases m2
 exact⟨_,e1,a,C,dx,_,.ref m,rfl,S.sub _ _ o.ins,c.cl,c.md,rfl,q F H _ (Q1.refl S.sub) (.lst m1 .nil)⟩
def Ao {k:Key} (c:HandC K C) (hy:Qu K ty ρ (GL k)) (e:ρ[i]?=some (some (.zow (Zn C N)))):Qu K (GK ty (Vs K (QD i) "gone")) ρ (.bool (Y1 N.gone k).isSome):=fun H0 F σ H Q S q =>
 hy H0 F σ H _ S fun F1 H1 y x1 r1=>by
  obtain⟨a,dx,kk,g,d,m,y',ks,gs,xs,as,e1,o⟩:=(S.ext x1).hz e;refine⟨_,e1,a,C,dx,_,.ref d,rfl,x1.fh _ _ o.ins,c.cl,c.go,rfl,?_⟩;rw[NS r1];refine⟨d,_,rfl,Vr.k (x1.fh _ _ o.gone.1),?_⟩
  have hv:(Zq xs k).isSome=(Y1 N.gone k).isSome:=by
   rcases o.gone.2.val k with ⟨z1,z2⟩|⟨x,d',z1,z2,_⟩
   ·rw[z1,z2];rfl
   ·rw[z1,z2];rfl
  rw[hv];exact q F1 H1 _ x1 (.bl _)
def WP {R:List OT->(OT->Prop)->Prop}{t:TA}{E:XK}{ts:List OT}{Φ:OT->Prop}(hm:NoH m)(e:ρ[i]?=some (some (.zow (Zn C N))))(h:Z2 K t ρ ts)(hR:R (.zow (Zn C N)::ts) Φ) :
 Zt K (VH C m (Ze K R) [] E (QD i) t) ρ Φ:=fun H0 F σ H Q S q=>by
 obtain⟨a,dx,k,g,d,m',y,ks,gs,xs,as,e1,ok⟩:=S.hz e;refine⟨_,e1,a,dx,_,rfl,S.sub _ _ ok.ins,hm _ _ _ _ _ _,h H0 F σ H _ S fun F1 H1 vs x1 r1=>?_⟩
 exact⟨F1,_,Φ,(S.ext x1).kt,x1.fh,.zow (Ψ:=Zn C N) ((Zn C N).mono (K:=K) x1.ff ⟨a,dx,k,g,d,m',y,ks,gs,xs,as,rfl,ok⟩) (by rw[XG];exact r1),hR,fun F2 H2 v p r' hr x2 hp ok'=>q F2 H2 v p r' hr (x1.trans x2) (fun b hb=>x1.hh.free (hp b hb)) ok'⟩
def U4 {R:List OT->(OT->Prop)->Prop}{t:TA}{E:XK}{ts:List OT}{d:PyData}(hm:NoH m)(e:ρ[i]?=some (some (.zow (Zn C N))))(h:Z2 K t ρ ts)(hR:R (.zow (Zn C N)::ts) (fun r=>r=.fz d)):Qu K (VH C m (Ze K R) [] E (QD i) t) ρ d:=EvO.e (Zt.o (WP hm e h hR))
def B5 {t:TE}{v:V}{Φ:OT->Prop}(i:Nat)(e:ρ[i]?=some (some (.own v (Zv C N))))(hf:∀r,Φ r->Jj r)(h:Zt K t (ρ.set i (some (.zow (Zn C N)))) Φ):Zt K t ρ Φ :=
 Ro i e (fun a b c=>Zv.fz a b c) hf h
def CC {t:TE}{v:V}{d:PyData}{u:V}(i:Nat)(e:ρ[i]?=some (some (.own v (Zv C N))))(hf:Vl d=some u)(h:Qu K t (ρ.set i (some (.zow (Zn C N)))) d):Qu K t ρ d :=
 EvO.e (Zt.o (B5 (Φ:=fun r=>r=.fz d) i e (fun r hr=>by subst hr;exact B8 hf) (h.o.d rfl)))
def D1 {t:TT}{v:V}{b:Bool}(i:Nat)(e:ρ[i]?=some (some (.own v (Zv C N))))(h:Zb K t (ρ.set i (some (.zow (Zn C N)))) b):Zb K t ρ b:=fun H0 F σ H Q S q=>by
 obtain⟨p,hp,S'⟩:=S.freezeZ e (fun a b c=>Zv.fz a b c);exact h H0 _ σ H Q S' fun F' H' x=>q _ H' (G2 (fun a ha=>⟨(hp a ha).1,(hp a ha).2.1⟩) x)
def QC.hand {v:V}{H0 F H:Hp}{σ:St}(S:QC K H0 F ρ σ H)(e:ρ[i]?=some (some (.own v (Zv C N)))) :
 ∃a dx k g d m y xs as,v=.ref a/\σ[i]?=some (some (.ref a))/\HandOk C N F H a dx k g d m y xs as/\(∀b∈a::dx::k::g::d::m::as,H0 b=none/\F b=none/\H b≠none) /\
  ∀(H':Hp) (N':HandS) (y':V) (xs':List (Key×V)) (as':Qg),Q4 F H'->(∀b,b∉a::dx::k::g::d::m::as->H b≠none->H' b=H b)->(∀b,H b≠none->H' b≠none) ->
   HandOk C N' F H' a dx k g d m y' xs' as'->(∀b∈as',b∈as\/(H b=none/\H0 b=none))->QC K H0 F (ρ.set i (some (.own v (Zv C N')))) σ H':=by
 obtain⟨e1,p,⟨a,dx,k,g,d,m,y,xs,as,rfl,rfl,ok⟩,hp,w'⟩:=S.writeOwn e;refine⟨a,dx,k,g,d,m,y,xs,as,rfl,e1,ok,hp,fun H' N' y' xs' as' h1 h2 h3 h4 h5=>w' H' _ _ h1 h2 h3 ⟨a,dx,k,g,d,m,y',xs',as',rfl,rfl,h4⟩ fun b hb=>?_⟩;simp only[Xg]at hb ⊢;rcases hb with h|h|h|h|h|h|hb
 ·exact .inl (.inl h)
 ·exact .inl (.inr (.inl h))
 ·exact .inl (.inr (.inr (.inl h)))
 ·exact .inl (.inr (.inr (.inr (.inl h))))
 ·exact .inl (.inr (.inr (.inr (.inr (.inl h)))))
 ·exact .inl (.inr (.inr (.inr (.inr (.inr (.inl h))))))
 ·rcases h5 b hb with z|z
  ·exact .inl (.inr (.inr (.inr (.inr (.inr (.inr z))))))
  ·exact .inr z
def HandOk.same {N':HandS}{F H F' H':Hp}{a dx k g d m dx' k' g' d' m':Addr}{y y':V}{xs xs':List (Key×V)}{as as':Qg}
 (ok:HandOk C N F H a dx k g d m y xs as) (ok':HandOk C N' F' H' a dx' k' g' d' m' y' xs' as') (s:H' a=H a):dx'=dx/\k'=k/\g'=g/\d'=d/\m'=m/\y'=y:=by
 have h:=ok'.ins.2;rw[s,ok.ins.2]at h;injection h with h;injection h with _ h1 h2;simp only[hfs,List.cons.injEq,Prod.mk.injEq,true_and,and_true,V.ref.injEq]at h2;obtain⟨z0,_,z1,z2,z3,z4⟩:=h2
 exact⟨h1.symm,z1.symm,z2.symm,z3.symm,z4.symm,z0.symm⟩
def HandOk.setKnown {F H:Hp}{a dx k g d m:Addr}{y:V}{xs:List (Key×V)}{as:Qg}(ok:HandOk C N F H a dx k g d m y xs as){ns:Qd}{zs:List V}(hr:Qw F zs ns) :
 HandOk C { N with known:=ns } F (upd H k (.lst zs)) a dx k g d m y xs as:=by
 obtain⟨nd,⟨i1,i2⟩,⟨o1,o2⟩,yd,⟨k1,kx,k2,k3⟩,⟨g1,gx,g2,g3⟩,⟨d1,d2,d3⟩,⟨m1,m2,m3⟩⟩:=ok;have nd':=nd;simp only[XO,Xg,not_or]at nd';obtain⟨⟨a1,a2,_⟩,⟨b1,_⟩,⟨c1,c2,c3,c4⟩,_⟩:=nd'
 exact⟨nd,⟨i1,by rw[Qt a2];exact i2⟩,⟨o1,by rw[Qt b1];exact o2⟩,yd,⟨k1,zs,QA,hr⟩,⟨g1,gx,by rw[Qt (Ne.symm c1)];exact g2,g3⟩,⟨d1,by rw[Qt (Ne.symm c2)];exact d2,d3⟩,⟨m1,by rw[Qt (Ne.symm c3)];exact m2,m3.other c4⟩⟩
def HandOk.setGiven {F H:Hp}{a dx k g d m:Addr}{y:V}{xs:List (Key×V)}{as:Qg}(ok:HandOk C N F H a dx k g d m y xs as){ns:Ql}{zs:List V}(hr:Qw F zs (ns.map PyData.int)) :
 HandOk C { N with given:=ns } F (upd H g (.lst zs)) a dx k g d m y xs as:=by
 obtain⟨nd,⟨i1,i2⟩,⟨o1,o2⟩,yd,⟨k1,kx,k2,k3⟩,⟨g1,gx,g2,g3⟩,⟨d1,d2,d3⟩,⟨m1,m2,m3⟩⟩:=ok;have nd':=nd;simp only[XO,Xg,not_or]at nd';obtain⟨⟨a1,a2,a3,_⟩,⟨b1,b2,_⟩,⟨c1,_⟩,⟨f1,f2,f3⟩,_⟩:=nd'
 exact⟨nd,⟨i1,by rw[Qt a3];exact i2⟩,⟨o1,by rw[Qt b2];exact o2⟩,yd,⟨k1,kx,by rw[Qt c1];exact k2,k3⟩,⟨g1,zs,QA,hr⟩,⟨d1,by rw[Qt (Ne.symm f1)];exact d2,d3⟩,⟨m1,by rw[Qt (Ne.symm f2)];exact m2,m3.other f3⟩⟩
variable {te:TE}{v:V}
def CL (c:HandC K C)(e:ρ[i]?=some (some (.own v (Zv C N)))){n:PyData}(h:Qu K te ρ n)(hl:N.known.length<1000)
 (hn:D.nx (ρ.set i (some (.own v (Zv C { N with known:=N.known++[n] }))))):Q0 K (VF (tBM K "list" Yb (Vs K (QD i) "known") (QE te QO))) ρ D:=fun F0 H0 F σ H E x S C'=>by
 obtain⟨a,dx,k,g,d,m,y,xs,as,rfl,e1,ok,_⟩:=S.hand e;refine⟨_,e1,a,C,dx,_,.ref k,rfl,ok.ins.2,c.cl,c.kn,rfl,.inl ⟨rfl,_,SqL.of ok.known.2.choose_spec.1⟩,h H0 F σ H _ S fun F1 H1 u x1 r1=>?_⟩;obtain⟨a',dx',k',g',d',m',y',xs',as',ea,g1,ok',hp,wr⟩:=(S.ext x1).hand e
 cases ea
 obtain⟨rfl,rfl,rfl,rfl,rfl,rfl⟩:=ok.same ok' ((x1.hh _ _ ok.ins.2).trans ok.ins.2.symm);obtain⟨q1,qx,q2,q3⟩:=ok'.known;have hr0:=hp k' (by simp);refine⟨k',qx,u,rfl,rfl,q2,by rw[q3.length];exact Vy (by omega),?_⟩;exact C'.nx F1 σ _ _ ((x.trans x1).wr hr0.1 hr0.2.1) (wr _ { N with known:=N.known++[n] } y' xs' as' ((S.ext x1).sub.upd hr0.2.1) (fun b hb _=>Qt fun z=>hb (by rw[z];simp)) Yu (ok'.setKnown (q3.snoc r1)) (fun b hb=>.inl hb)) hn
def AI (c:HandC K C)(e:ρ[i]?=some (some (.own v (Zv C N)))){n:Int}(h:Qu K te ρ (.int n))(hl:N.given.length<1000)
 (hn:D.nx (ρ.set i (some (.own v (Zv C { N with given:=N.given++[n] }))))):Q0 K (VF (tBM K "list" Yb (Vs K (QD i) "given") (QE te QO))) ρ D:=fun F0 H0 F σ H E x S C'=>by
 obtain⟨a,dx,k,g,d,m,y,xs,as,rfl,e1,ok,_⟩:=S.hand e;refine⟨_,e1,a,C,dx,_,.ref g,rfl,ok.ins.2,c.cl,c.gv,rfl,.inl ⟨rfl,_,SqL.of ok.given.2.choose_spec.1⟩,h H0 F σ H _ S fun F1 H1 u x1 r1=>?_⟩;obtain⟨a',dx',k',g',d',m',y',xs',as',ea,g1,ok',hp,wr⟩:=(S.ext x1).hand e
 cases ea
 obtain⟨rfl,rfl,rfl,rfl,rfl,rfl⟩:=ok.same ok' ((x1.hh _ _ ok.ins.2).trans ok.ins.2.symm);obtain⟨q1,qx,q2,q3⟩:=ok'.given;have hr0:=hp g' (by simp);refine⟨g',qx,u,rfl,rfl,q2,by rw[q3.length,Xn];exact Vy (by omega),?_⟩;exact C'.nx F1 σ _ _ ((x.trans x1).wr hr0.1 hr0.2.1) (wr _ { N with given:=N.given++[n] } y' xs' as' ((S.ext x1).sub.upd hr0.2.1) (fun b hb _=>Qt fun z=>hb (by rw[z];simp)) Yu (ok'.setGiven (by rw[XD];exact q3.snoc r1)) (fun b hb=>.inl hb)) hn
end
def spP (K:W.Frag){α:Type}(Φ:α->OwnP)(R:α->List OT->(OT->α->Prop)->Prop):Sp:=fun vs H Q _=>∃F v0 vs' p ts N Ψ,vs=v0::vs'/\KTs K F/\Q4 F H/\Args K F vs' ts/\(Φ N).ok K F H v0 p/\R N ts Ψ /\
 ∀F' H' p' N' v r q,Ψ r N'->ExtN p F H F' H'->(Φ N').ok K F' H' v0 p'->(∀b∈p',b∈p\/H b=none)->Zk K F' H' v r q->(∀b∈q,(b∈p\/H b=none)/\b∉p')->Q v H'
abbrev spH (K:W.Frag)(C:Addr)(R:HandS->List OT->(OT->HandS->Prop)->Prop):Sp:=spP K (Zv C) R
def UR (K:W.Frag)(C CR:Addr)(f:Str)(R:HandS->List OT->(OT->HandS->Prop)->Prop)(Rx:List OT->(Qd->Prop)->Prop):Sp:=fun vs H Q E=>(∃RR,E=XE CR RR/\VE CR RR/\spH K C R vs H Q E)\/spX K CR f (fun _ _=>False) Rx vs H Q E
def UO (K:W.Frag)(C:Addr)(R:HandS->List OT->(OT->HandS->Prop)->Prop)(R2:List OT->(OT->Prop)->Prop):Sp:=fun vs H Q E=>spH K C R vs H Q E\/Ze K R2 vs H Q E
def EvR (K:W.Frag)(t:TS)(ρ:Q5)(Ψ:OT->Q5->Prop):Prop := ∀(F0 H0 F:Hp) (σ:St) (H:Hp) (E:Ends),Q1 F0 H0 F H->QC K H0 F ρ σ H ->
 (∀F' σ' H' ρ' v r q,Q1 F0 H0 F' H'->QC K H0 F' ρ' σ' H'->Zk K F' H' v r q->(∀a∈q,H0 a=none)->(∀a∈q,∀u t' q',ρ'[0]?=some (some t')->σ'[0]?=some (some u)->Zk K F' H' u t' q'->a∉q')->Ψ r ρ'->E.rt v H')->t E σ H
section
variable {K:W.Frag}{ρ:Q5}{te:TE}{t u:TS}{Ψ:OT->Q5->Prop}
def Vf (M:Q5->Prop)(h1:Q0 K t ρ { nx:=M,rt:=fun _=>False })(h2:∀ρ',M ρ'->EvR K u ρ' Ψ):EvR K (Jf t u) ρ Ψ:=fun F0 H0 F σ H E x S k =>
 h1 F0 H0 F σ H _ x S ⟨fun F' σ' H' ρ' x' S' e=>h2 ρ' e F0 H0 F' σ' H' E x' S' k,fun _ _ _ _ _ _ _ _ z=>z.elim,fun _ _ _ _ _ _ z=>False.elim z,fun _ _ _ _ _ _ z=>False.elim z⟩
def Bc {d:PyData}(h:Qu K te ρ d)(hr:Ψ (.fz d) ρ):EvR K (Y2 te) ρ Ψ:=fun F0 H0 F σ H E x S k =>
 h H0 F σ H _ S fun F' H' v x' r=>k F' σ H' ρ v (.fz d) [] (x.trans x') (S.ext x') ⟨rfl,r⟩ (fun _ z=>nomatch z) (fun _ z=>nomatch z) hr
def L4 {j:Nat}{r:OT}(hj:j≠0)(e:ρ[j]?=some (some r))(hr:Ψ r ρ):EvR K (Y2 (QD j)) ρ Ψ:=fun F0 H0 F σ H E x S k=>by
 obtain⟨fp,h,h4,h5⟩:=S.fp;obtain⟨v,e1,ok⟩:=h j _ e;refine⟨v,e1,k F σ H ρ v r (fp j) x S ok (fun a ha=>(h5 j a ha).1) (fun a ha u t' q' e2 e3 ok' hq=>?_) hr⟩;obtain⟨v2,f1,f2⟩:=h 0 _ e2;rw[e3]at f1;cases f1;exact hj (h4 j 0 a ha (GA (K:=K) f2 ok' a hq))
variable {α:Type}{Φ:α->OwnP}{N:α}
def AB {L:Qh}{vs:List V}{ts:List OT}{F H:Hp}{v0:V}{p:Qg}(kt:KTs K F)(sm:Q4 F H)(ha:Args K F vs ts)(ok:(Φ N).ok K F H v0 p) :
 QC K (fun b=>if b∈p then none else H b) F (some (.own v0 (Φ N))::(ts.map some++List.replicate (L.length-(ts.length+1)) none)) (start L (v0::vs)) H:=by
 have th:=fun b hb=>(Φ N).there ok b hb;refine⟨kt,sm,?_,fun j=>if j=0 then p else [],fun j t' e=>?_,fun j k' b hb hc=>?_,fun j b hb=>?_⟩
 ·unfold start
  simp[ha.length]
 ·cases j with
  |zero =>
    simp at e
    subst e;refine⟨v0,?_,rfl,?_⟩
    ·unfold start
     simp
    ·simp only[if_true]
     exact ok
  |succ i =>
    rw[UI]at e;have hlt:i<ts.length:=by
     by_cases z:i<ts.length
     ·exact z
     ·rw[X3 (by simpa using z)]at e
      have:=List.mem_of_getElem? e
      simp at this
    rw[XF (by simpa using hlt),Xt]at e;have e':ts[i]?=some t':=by
     cases z:ts[i]? with
     |none=>rw[z]at e;simp at e
     |some w=>rw[z]at e;simp at e;rw[e]
    obtain⟨v,e1,e2⟩:=ha.get (H:=H) i t' e';refine⟨v,?_,?_⟩
    ·unfold start
     have hl2:i<vs.length:=by rw[ha.length];exact hlt
     rw[Xy,WY,UI,XF (by simpa using hl2),Xt,e1];rfl
    ·simp only[Nat.add_one_ne_zero,if_false]
     exact e2
 ·by_cases hj:j=0
  ·by_cases hk:k'=0
   ·rw[hj,hk]
   ·simp[hk]at hc
  ·simp[hj]at hb
 ·by_cases hj:j=0
  ·simp only[Xd hj]at hb
   exact⟨by simp[hb],(th b hb).2⟩
  ·simp[hj]at hb
def Dt {L:Qh}{R:α->List OT->(OT->α->Prop)->Prop}{vs:List V}{ts:List OT}{F H:Hp}{v0:V}{p:Qg}{Ψ:OT->α->Prop}{Q:VK}{t:TS}{q0:St->Hp->Prop}
 (h:EvR K t (some (.own v0 (Φ N))::(ts.map some++List.replicate (L.length-(ts.length+1)) none)) (fun r ρ'=>∃M',Ψ r M'/\ρ'[0]?=some (some (.own v0 (Φ M')))))
 (kt:KTs K F) (sm:Q4 F H) (ha:Args K F vs ts) (ok:(Φ N).ok K F H v0 p)
 (q:∀F' H' p' N' v r q,Ψ r N'->ExtN p F H F' H'->(Φ N').ok K F' H' v0 p'->(∀b∈p',b∈p\/H b=none)->Zk K F' H' v r q->(∀b∈q,(b∈p\/H b=none)/\b∉p')->Q v H') :
 t { nx:=q0,rt:=Q } (start L (v0::vs)) H:=by
 have h0:∀b,(fun b=>if b∈p then none else H b:Hp) b=none->b∈p\/H b=none:=fun b hb=>by
  by_cases z:b∈p
  ·exact .inl z
  ·simp only[Xb z]at hb;exact .inr hb
 refine h F (fun b=>if b∈p then none else H b) F _ H _ ⟨fun b o hb=>?_,Q4.refl _,sm,fun _ h=>.inl h⟩ (AB kt sm ha ok) fun F' σ' H' ρ' v r qq x' S' sok hq hd ⟨M',hM,e0⟩=>?_
 ·by_cases z:b∈p
  ·simp[z]at hb
  ·simp only[Xb z]at hb;exact hb
 ·obtain⟨fp,g1,g2,g3⟩:=S'.fp
  obtain⟨u,u1,rfl,ok'⟩:=g1 0 _ e0;refine q F' H' (fp 0) M' v r qq hM ⟨fun b o nb hb=>x'.hh b o (by simp only[Xb nb];exact hb),x'.ff,x'.fh,fun b hb=>?_⟩ ok' (fun b hb=>h0 b (g3 0 b hb).1) sok (fun b hb=>⟨h0 b (hq b hb),hd b hb _ _ _ e0 u1 ⟨rfl,ok'⟩⟩)
  rcases x'.fr b hb with z|z
  ·exact .inl z
  ·exact .inr ((h0 b z).symm)
end
def GS (P:Program)(w:World)(K:W.Frag)(mg:Str->Qf)(base:Heap)(C:Addr)(m:Str)(ps:Qh)(k:Nat)(sp:Sp):Prop :=
 ∃f fd,Meth K C m f/\Vb K fd ps []/\FnOk P w K mg base (CX1 P w) k f fd ps sp
section
variable {P:Program}{w:World}{K:W.Frag}{mg:Str->Qf}{base:Heap}{C CR:Addr}
def Mf.evHX {m qual fl:Str}{st:Stmt}{L ps:Qh}{k:Nat}{R:HandS->List OT->(OT->HandS->Prop)->Prop}{Rx:List OT->(Qd->Prop)->Prop}(D:Mf K C m qual st ps)(S:Qp L ps (Qy st))(len:∀M ts Ψ,R M ts Ψ->ts.length+1=ps.length)(lenx:∀ts Φ,Rx ts Φ->ts.length=ps.length)(hpn:ps.length<=L.length)
 (hret:∀(f:Addr) (cdv:Value) (A:Around) (outer:List Env) (s:Shared) (H:Hp) RR (v:V) (M:HandS) (ts:List OT) (Ψ:OT->HandS->Prop),Room k (A.deeper (envOfC qual (Qy st) s.heap.objs.size f cdv))->VE CR RR->R M ts Ψ ->
  ∃t,PSs (cx1 P w K mg base L qual (Qy st) f cdv A outer s H (XE CR RR)) (Zh st) t/\EvR K t (some (.own v (Zv C M))::(ts.map some++List.replicate (L.length-(ts.length+1)) none)) (fun r ρ'=>∃M',Ψ r M'/\ρ'[0]?=some (some (.own v (Zv C M')))))
 (hexc:∀(f:Addr) (cdv:Value) (A:Around) (outer:List Env) (s:Shared) (F H:Hp) RR (ts:List OT) (Φx:Qd->Prop),Room k (A.deeper (envOfC qual (Qy st) s.heap.objs.size f cdv))->VE CR RR->(∀F' H' e dct d,Φx d->Q1 F H F' H'->H e=none->Fld fl e F' H' H dct d->RR e dct H')->Rx ts Φx ->
  ∃t,PSs (cx1 P w K mg base L qual (Qy st) f cdv A outer s H (XE CR RR)) (Zh st) t/\EvZ K F H t (ts.map some++List.replicate (L.length-ts.length) none)) :
 GS P w K mg base C m ps (k+1) (UR K C CR fl R Rx):=by
 obtain⟨f,fd,F,hm,hb⟩:=D.ex;refine⟨f,fd,hm,hb,F.okX S (fun vs H Q E h=>?_) fun cdv A outer s H vs Q E hr h=>?_⟩
 ·rcases h with ⟨RR,_,_,F,v0,vs',p,ts,M,Ψ,e,_,_,ha,_,hR,_⟩|⟨F,ts,_,_,ha,RR,_,_,q⟩
  ·rw[e,XI,ha.length];exact len _ _ _ hR
  ·rcases q with ⟨_,z,_⟩|⟨r,hR,_⟩
   ·exact z.elim
   ·exact ha.length.trans (lenx ts r hR)
 ·rcases h with ⟨RR,eE,sts,F,v0,vs',p,ts,M,Ψ,e,kt,sm,ha,ok,hR,q⟩|⟨F,ts,kt,sm,ha,RR,eE,sts,q⟩
  ·subst e eE
   obtain⟨t,h1,h2⟩:=hret f cdv A outer s H RR v0 M ts Ψ hr sts hR
   exact⟨t,h1,Dt (R:=R) h2 kt sm ha ok q⟩
  ·subst eE
   rcases q with ⟨_,z,_⟩|⟨Φx,hR,q⟩
   ·exact z.elim
   ·obtain⟨t,h1,h2⟩:=hexc f cdv A outer s F H RR ts Φx hr sts q hR
    exact⟨t,h1,h2 F (start L vs) H _ (Q1.refl sm) (B9 (ps:=ps) kt sm ha (by rw[lenx ts Φx hR];exact hpn))⟩
def Df.evH2 {x:Str}{st:Stmt}{L ps:Qh}{k:Nat}{R:HandS->List OT->(OT->HandS->Prop)->Prop}{R2:List OT->(OT->Prop)->Prop}(D:Df K mg x st ps)(S:Qp L ps (Qy st))(len:∀M ts Ψ,R M ts Ψ->ts.length+1=ps.length)(len2:∀ts Φ,R2 ts Φ->ts.length=ps.length)(hpn:ps.length<=L.length)
 (hret:∀(f:Addr) (cdv:Value) (A:Around) (outer:List Env) (s:Shared) (H:Hp) (E:XK) (v:V) (M:HandS) (ts:List OT) (Ψ:OT->HandS->Prop),Room k (A.deeper (envOfC x (Qy st) s.heap.objs.size f cdv))->R M ts Ψ ->
  ∃t,PSs (Vi CX0 P w K mg base L x (Qy st) f cdv A outer s H E).nox (Zh st) t/\EvR K t (some (.own v (Zv C M))::(ts.map some++List.replicate (L.length-(ts.length+1)) none)) (fun r ρ'=>∃M',Ψ r M'/\ρ'[0]?=some (some (.own v (Zv C M')))))
 (XaS:∀(f:Addr) (cdv:Value) (A:Around) (outer:List Env) (s:Shared) (H:Hp) (E:XK) (ts:List OT) (Φ:OT->Prop),Room k (A.deeper (envOfC x (Qy st) s.heap.objs.size f cdv))->R2 ts Φ ->
  ∃t,PSs (Vi CX0 P w K mg base L x (Qy st) f cdv A outer s H E).nox (Zh st) t/\Q0 K t (ts.map some++List.replicate (L.length-ts.length) none) { nx:=fun _=>Φ (.fz .none),rt:=Φ }):QB P w K mg base x ps (k+1) (UO K C R R2):=by
 obtain⟨f,fd,F,hm,hb⟩:=D.ex;refine⟨f,fd,hm,F.kp,hb,F.ok S (fun vs H Q E h=>?_) fun cdv A outer s H vs Q E hr h=>?_⟩
 ·rcases h with ⟨F,v0,vs',p,ts,M,Ψ,e,_,_,ha,_,hR,_⟩|⟨F,ts,Φ,_,_,ha,hR,_⟩
  ·rw[e,XI,ha.length];exact len _ _ _ hR
  ·exact ha.length.trans (len2 ts Φ hR)
 ·rcases h with ⟨F,v0,vs',p,ts,M,Ψ,e,kt,sm,ha,ok,hR,q⟩|⟨F,ts,Φ,kt,sm,ha,hR,q⟩
  ·subst e
   obtain⟨t,h1,h2⟩:=hret f cdv A outer s H E v0 M ts Ψ hr hR
   exact⟨t,h1,Dt (R:=R) h2 kt sm ha ok q⟩
  ·obtain⟨t,h1,h2⟩:=XaS f cdv A outer s H E ts Φ hr hR
   refine⟨t,h1,h2 F H F (start L vs) H _ (Q1.refl sm) (B9 (ps:=ps) kt sm ha (by rw[len2 ts Φ hR];exact hpn)) ⟨fun F' σ' H' ρ' x' _ e=>?_,fun F' H' v r' p x' hp ok e=>q F' H' v p r' e x' hp ok,fun _ _ _ _ _ _ z=>False.elim z,fun _ _ _ _ _ _ z=>False.elim z⟩⟩;exact q F' H' _ [] _ e x' (fun _ z=>nomatch z) ⟨rfl,.non⟩
end
section
variable {X:Cx}
def WL {C:Addr}{m:Str}{pos apos:Pos}{o e:Expr}{es:Qi}{ta:TE}{t:TA}{ps:Qh}{j k:Nat}{sp:Sp}{pl:Sem Bool}(M:Zl X.prog X.w X.K X.mg X.base C m ps j sp)(c:HandC X.K C)(hr:Room k X.A)(he:PE X o ta)(ha:PA X (e::es) t)(hj:j<=k:=by walk_at"j")
 (hst:starEach (e::es) X.env=(false,eval e X.env)::starEach es X.env:=by rfl) (hpl:(backTo pos (starEach es X.env)).any (·.1)=false:=by rfl)
 (ht:eval (.Call (.Attribute o m apos) (e::es) [] pos) X.env=(do
  let ov <- eval o X.env
  standAt apos.atName
  let (f,first) <- holding [ov] (getMethod ov m pl)
  callWith pos f first (backTo pos (starEach (e::es) X.env)) (backToKw pos (keywordEach [] X.env))):=by rfl) :
 PE X (.Call (.Attribute o m apos) (e::es) [] pos) (VH C m sp [] E0 ta t):=by
 obtain⟨f,fd,hm,hb,F⟩:=M;exact MX (pl:=pl) he c.cl hm F (hr.mono hj) hb .nil Jn ha hst hpl ht
def Jz {C:Addr}{m:Str}{pos apos:Pos}{o:Expr}{ta:TE}{ps:Qh}{j k:Nat}{sp:Sp}{pl:Sem Bool}(M:Zl X.prog X.w X.K X.mg X.base C m ps j sp)(c:HandC X.K C)(hr:Room k X.A)(he:PE X o ta)(hj:j<=k:=by walk_at"j")
 (ht:eval (.Call (.Attribute o m apos) [] [] pos) X.env=(do
  let ov <- eval o X.env
  standAt apos.atName
  let (f,first) <- holding [ov] (getMethod ov m pl)
  callWith pos f first (backTo pos (starEach [] X.env)) (backToKw pos (keywordEach [] X.env))):=by rfl) :
 PE X (.Call (.Attribute o m apos) [] [] pos) (VH C m sp [] E0 ta QO):=by
 obtain⟨f,fd,hm,hb,F⟩:=M;exact FW (pl:=pl) he c.cl hm F (hr.mono hj) hb .nil Jn ht
def Rj {C:Addr}{m:Str}{pos apos:Pos}{o e:Expr}{es:Qi}{ta:TE}{t:TA}{ps:Qh}{j k:Nat}{sp:Sp}{E:XK}{pl:Sem Bool}(M:GS X.prog X.w X.K X.mg X.base C m ps j sp)(c:HandC X.K C)(hr:Room k X.A)(hx:Ye (CX1 X.prog X.w) X E)(he:PE X o ta)(ha:PA X (e::es) t)(hj:j<=k:=by walk_at"j")
 (hst:starEach (e::es) X.env=(false,eval e X.env)::starEach es X.env:=by rfl) (hpl:(backTo pos (starEach es X.env)).any (·.1)=false:=by rfl)
 (ht:eval (.Call (.Attribute o m apos) (e::es) [] pos) X.env=(do
  let ov <- eval o X.env
  standAt apos.atName
  let (f,first) <- holding [ov] (getMethod ov m pl)
  callWith pos f first (backTo pos (starEach (e::es) X.env)) (backToKw pos (keywordEach [] X.env))):=by rfl) :
 PE X (.Call (.Attribute o m apos) (e::es) [] pos) (VH C m sp [] E ta t):=by
 obtain⟨f,fd,hm,hb,F⟩:=M;exact MX (pl:=pl) he c.cl hm F (hr.mono hj) hb .nil hx ha hst hpl ht
end
section
variable {K:W.Frag}{ρ:Q5}{tx:TE}{t:TA}{D:PEnds}{i j:Nat}{v:V}{C CR:Addr}{N:HandS}{m f:Str}{RR:Addr->Qj->Hp->Prop}{ts:List OT}
def U3 {α:Type}{Φ:α->OwnP}{N:α}{F0 H0 F H:Hp}{σ:St}(S:QC K H0 F ρ σ H)(x:Q1 F0 H0 F H)(e:ρ[i]?=some (some (.own v (Φ N)))) :
 ∃p,σ[i]?=some (some v)/\(Φ N).ok K F H v p/\∀F' H' p' N',ExtN p F H F' H'->(Φ N').ok K F' H' v p'->(∀b∈p',b∈p\/H b=none) ->
  Q1 F0 H0 F' H'/\QC K H0 F' (ρ.set i (some (.own v (Φ N')))) σ H'/\∀(q:Qg),(∀b∈q,(b∈p\/H b=none)/\b∉p')->(∀b∈q,H0 b=none)/\∀b∈q,∀(j:Nat) (u:V) (t':OT) (q':Qg),(ρ.set i (some (.own v (Φ N'))))[j]?=some (some t')->σ[j]?=some (some u)->Zk K F' H' u t' q'->b∉q':=by
 obtain⟨kt,h1,h2,fp,h3,h4,h5⟩:=S;obtain⟨u,e1,rfl,ok⟩:=h3 i _ e;have hlt:=(Xh.mp e).1;refine⟨fp i,e1,ok,fun F' H' p' N' xn ok' sub=>?_⟩;have out:∀j,j≠i->∀b∈fp j,b∉fp i:=fun j hj b hb z=>hj (h4 j i b hb z)
 have hH:∀j,j≠i->∀b∈fp j,H' b=H b:=fun j hj b hb=>by
  obtain⟨o,ho⟩:=MZ (h5 j b hb).2;rw[xn.hh b o (out j hj b hb) ho,ho]
 have mv:∀j t' u',j≠i->Zk K F H u' t' (fp j)->Zk K F' H' u' t' (fp j):=fun j t' u' hj f2=>by
  refine f2.move xn.ff (fun b hb=>?_) (hH j hj)
  cases z:F' b with
  |none=>rfl
  |some o =>
    rcases xn.fr b (Z1 z) with y|y|y
    ·exact Xl (f2.there b hb).1 y
    ·exact Xl y (h5 j b hb).2
    ·exact Xl y (out j hj b hb)
 refine⟨⟨fun b o hb=>xn.hh b o (fun z=>by rw[(h5 i b z).1]at hb;cases hb) (x.hh b o hb),x.ff.trans xn.ff,xn.fh,fun b hb=>?_⟩,⟨kt.mono xn.ff,xn.fh,by simp[h2],fun j=>if j=i then p' else fp j,fun j t' e'=>?_,fun j k b hb hc=>?_,fun j b hb=>?_⟩,fun q hq=>⟨fun b hb=>?_,fun b hb j u t' q' m1 m2 ok2 hb'=>?_⟩⟩
 ·rcases xn.fr b hb with z|z|z
  ·exact x.fr b z
  ·exact .inr (x.hh.free z)
  ·exact .inr (h5 i b z).1
 ·by_cases hj:j=i
  ·subst hj
   rw[Xr hlt]at e';cases e';refine⟨_,e1,rfl,?_⟩;simp only[if_true];exact ok'
  ·rw[Xw (Ne.symm hj)]at e'
   obtain⟨u',f1,f2⟩:=h3 j t' e';refine⟨u',f1,?_⟩;simp only[Xb hj];exact mv j t' u' hj f2
 ·by_cases hj:j=i
  ·by_cases hk:k=i
   ·omega
   ·simp only[Xd hj]at hb
    simp only[Xb hk]at hc;rcases sub b hb with z|z
    ·exact Xl (h4 k i b hc z) hk
    ·exact Xl z (h5 k b hc).2
  ·simp only[Xb hj]at hb
   by_cases hk:k=i
   ·simp only[Xd hk]at hc
    rcases sub b hc with z|z
    ·exact Xl (h4 j i b hb z) hj
    ·exact Xl z (h5 j b hb).2
   ·simp only[Xb hk]at hc
    exact h4 j k b hb hc
 ·by_cases hj:j=i
  ·simp only[Xd hj]at hb
   refine⟨?_,((Φ N').there ok' b hb).2⟩
   rcases sub b hb with z|z
   ·exact(h5 i b z).1
   ·exact x.hh.free z
  ·simp only[Xb hj]at hb
   exact⟨(h5 j b hb).1,by rw[hH j hj b hb];exact(h5 j b hb).2⟩
 ·rcases(hq b hb).1 with z|z
  ·exact(h5 i b z).1
  ·exact x.hh.free z
 ·by_cases hj:j=i
  ·subst hj
   rw[Xr hlt]at m1;cases m1;rw[e1]at m2;cases m2
   exact(hq b hb).2 ((Φ N').uniq ok' ok2.2 b hb')
  ·rw[Xw (Ne.symm hj)]at m1
   obtain⟨u',f1,f2⟩:=h3 j t' m1;rw[f1]at m2;cases m2;have hb2:=GA (K:=K) (mv j t' u hj f2) ok2 b hb'
   rcases(hq b hb).1 with z|z
   ·exact out j hj b hb2 z
   ·exact(h5 j b hb2).2 z
def Zv.at {F H:Hp}{p:Qg}(h:(Zv C N).ok K F H v p):∃a dx y n k g d e,v=.ref a/\H a=some (.ins C dx (hfs y n k g d e)):=by
 obtain⟨a,dx,k,g,d,m,y,xs,as,rfl,_,o⟩:=h
 exact⟨a,dx,y,_,k,g,d,m,rfl,o.ins.2⟩
def FS {R:HandS->List OT->(OT->HandS->Prop)->Prop}{Rx:List OT->(Qd->Prop)->Prop}{Ψ:OT->HandS->Prop}{d0:PyData}{w0:V}(hm:NoH m)(e:ρ[i]?=some (some (.own v (Zv C N))))(hx:Qu K tx ρ d0)(hf:Vl d0=some w0)(hA:Z2 K t ρ ts)(hR:R N ts Ψ)(st:VE CR RR)
 (hn:∀r N',Ψ r N'->∃d w,r=.fz d/\Vl d=some w/\D.nx ((ρ.set i (some (.own v (Zv C N')))).set j (some (.ol [d0,d])))) :
 Q0 K (ZS (W5 (QE tx (QE (VH C m (UR K C CR f R Rx) [] (XE CR RR) (QD i) t) QO))) (ZW j)) ρ D:=fun F0 H0 F σ H E x S C' =>
 hx H0 F σ H _ S fun F1 H1 u x1 r1=>by
  obtain⟨p0,s0,ok0,_⟩:=U3 (S.ext x1) (x.trans x1) e;obtain⟨a0,dx,y,n,k,g,d,e',rfl,h1⟩:=Zv.at ok0;refine⟨.ref a0,s0,a0,dx,_,rfl,h1,hm _ _ _ _ _ _,hA H0 F1 σ H1 _ (S.ext x1) fun F2 H2 vs x2 r2=>.inl ⟨RR,rfl,st,?_⟩⟩;obtain⟨p,s1,okp,fin⟩:=U3 (S.ext (x1.trans x2)) (x.trans (x1.trans x2)) e;refine⟨F2,_,vs++[],p,ts,N,Ψ,rfl,(S.ext (x1.trans x2)).kt,x2.fh,by rw[XG];exact r2,okp,hR,fun F' H' p' N' v' r q hr xn ok' sub sok hq=>?_⟩;obtain⟨d,w,rfl,hfd,hnx⟩:=hn r N' hr;obtain⟨X',S',_⟩:=fin F' H' p' N' xn ok' sub;refine⟨Yn (Vy W8),fun z hz=>?_⟩;have hp:H' z=none:=hz;have X2:Q1 F' H' F' (upd H' z (.lst [u,v'])):=Q1.own S'.sub hp;have S2:=S'.ext X2;refine C'.nx F' _ _ _ (X'.trans X2) (S2.set (t:=.ol [d0,d]) (p:=[z]) ⟨z,rfl,rfl,S'.sub.free hp,_,QA,.cons (r1.thin hf) (.cons sok.2 .nil)⟩ (fun b hb=>?_) (hn:=fun b hb k u' t' q' m1 m2 ok2 hb'=>?_)) hnx
  ·cases Xi.mp hb
   exact X'.hh.free hp
  ·cases Xi.mp hb
   obtain⟨fp,g1,g2,g3⟩:=S'.fp;obtain⟨u2,f1,f2⟩:=g1 k t' m1;rw[f1]at m2;cases m2
   exact(g3 k z (GA (K:=K) (f2.ext X2) ok2 z hb')).2 hp
def Ca {R:HandS->List OT->(OT->HandS->Prop)->Prop}{Rx:List OT->(Qd->Prop)->Prop}{Φx:Qd->Prop}{d0:PyData}{F0 H0 H9:Hp}{E:Ends}(hm:NoH m)(e:ρ[i]?=some (some (.zow (Zn C N))))(hx:Qu K tx ρ d0)(hA:Z2 K t ρ ts)(hR:Rx (.zow (Zn C N)::ts) Φx)(st:VE CR RR)
 (hq:∀F' H' e dct d,Φx d->Q1 F0 H0 F' H'->H0 e=none->Fld f e F' H' H0 dct d->RR e dct H') {F:Hp} {σ:St} {H:Hp} (x:Q1 F0 H0 F H) (S:QC K H9 F ρ σ H) :
 ZS (W5 (QE tx (QE (VH C m (UR K C CR f R Rx) [] (XE CR RR) (QD i) t) QO))) (ZW j) E σ H :=
 hx H9 F σ H _ S fun F1 H1 u x1 r1=>by
  obtain⟨a,dx,k,g,d,m',y,ks,gs,xs,as,e1,ok⟩:=(S.ext x1).hz e;refine⟨_,e1,a,dx,_,rfl,x1.fh _ _ ok.ins,hm _ _ _ _ _ _,hA H9 F1 σ H1 _ (S.ext x1) fun F2 H2 vs x2 r2=>.inr ?_⟩;have X2:=x.trans (x1.trans x2)
  exact⟨F2,_,(S.ext (x1.trans x2)).kt,x2.fh,.zow (Ψ:=Zn C N) ((Zn C N).mono (K:=K) x2.ff ⟨a,dx,k,g,d,m',y,ks,gs,xs,as,rfl,ok⟩) (by rw[XG];exact r2),RR,rfl,st,.inr ⟨Φx,hR,fun F' H' e dct d hd x3 he hf=>hq F' H' e dct d hd (X2.trans x3) (X2.hh.free he) (hf.back X2.hh)⟩⟩
def C3 {R:HandS->List OT->(OT->HandS->Prop)->Prop}{R2:List OT->(OT->Prop)->Prop}{Ψ:OT->HandS->Prop}{E':XK}(hij:i≠j)(e:ρ[i]?=some (some (.own v (Zv C N))))(hA:Z2 K t ρ ts)(hR:R N ts Ψ)
 (hn:∀r N',Ψ r N'->D.nx ((ρ.set i (some (.own v (Zv C N')))).set j (some r))) :
 Q0 K (ZS (VI (UO K C R R2) [] E' (QE (QD i) t)) (ZW j)) ρ D:=fun F0 H0 F σ H E x S C'=>by
 obtain⟨p0,s0,_⟩:=U3 S x e;refine⟨_,s0,hA H0 F σ H _ S fun F1 H1 vs x1 r1=>.inl ?_⟩;obtain⟨p,s1,okp,fin⟩:=U3 (S.ext x1) (x.trans x1) e;refine⟨F1,_,vs++[],p,ts,N,Ψ,rfl,(S.ext x1).kt,x1.fh,by rw[XG];exact r1,okp,hR,fun F' H' p' N' v' r q hr xn ok' sub sok hq=>?_⟩;obtain⟨X',S',dj⟩:=fin F' H' p' N' xn ok' sub;obtain⟨d1,d2⟩:=dj q hq;exact C'.nx F' _ H' _ X' (S'.set sok d1 (hn:=d2)) (hn r N' hr)
def CV {R:HandS->List OT->(OT->HandS->Prop)->Prop}{R2:List OT->(OT->Prop)->Prop}{E':XK}{Φ:OT->Prop}(h:Z2 K t ρ ts)(hR:R2 ts Φ):Zt K (VI (UO K C R R2) [] E' t) ρ Φ:=fun H0 F σ H Q S q =>
 h H0 F σ H _ S fun F1 H1 vs x1 r1=>.inr ⟨F1,ts,Φ,(S.ext x1).kt,x1.fh,by rw[XG];exact r1,hR,fun F2 H2 v p r hr x2 hp ok=>q F2 H2 v p r hr (x1.trans x2) (fun a ha=>x1.hh.free (hp a ha)) ok⟩
end
def GN (C:Addr):Sp:=fun vs H Q _=>∃x dx y,vs=[.ref x,y]/\H x=some (.ins C dx [])/\∀k g d m H',H k=none->H g=none->H d=none->H m=none->[x,k,g,d,m].Nodup ->
 H' x=some (.ins C dx (hfs y 0 k g d m))->H' k=some (.lst [])->H' g=some (.lst [])->H' d=some (.dK [])->H' m=some (.lst [])->(∀b,b∉[x,k,g,d,m]->H' b=H b)->Q .non H'
def Mx (P:Program)(w:World)(K:W.Frag)(mg:Str->Qf)(base:Heap)(x:Str)(C:Addr)(ps:Qh)(k:Nat):Prop :=
 ∃f fd,Mk K C f/\mg x=some (.ref C)/\Vb K fd ps []/\FnOk P w K mg base CX0 k f fd ps (GN C)
def LW {X:Cx} {C:Addr} {x:Str} {p pos:Pos} {e:Expr} {es:Qi} {t:TA} {ps:Qh} {j k:Nat} (M:Mx X.prog X.w X.K X.mg X.base x C ps j) (hr:Room k X.A) (ha:PA X (e::es) t) (hj:j+1<=k:=by walk_at"j") (hg:Gl X x:=by rfl) (hdb:(x==("__debug__" : Str))=false:=by decide +kernel)
 (he:starEach (e::es) X.env=(false,eval e X.env)::starEach es X.env:=by rfl) (hpl:(backTo pos (starEach es X.env)).any (·.1)=false:=by rfl) :
 PE X (.Call (.Name x p) (e::es) [] pos) (Um C (GN C) [] E0 t):=by
 obtain⟨f,fd,M,hm,hb,F⟩:=M;exact Tw M F (hr.mono hj) hg hm hb .nil Jn ha hdb he hpl
def LY {K:W.Frag}{ρ:Q5}{ta:TE}{C:Addr}{E:XK}{yd:PyData}(h:Qu K ta ρ yd):EvX K (Um C (GN C) [] E (QE ta QO)) ρ (Zv C ⟨yd,0,[],[],[],[]⟩):=fun H0 F σ H Q S0 q=>h H0 F σ H _ S0 fun F1 H1 yv x1 r1=>fun x dx hx hdx ne=>by
 have S:=S0.ext x1;refine⟨x,dx,yv,rfl,QA,fun e r l d H' he hr hl hd nd h1 h2 h3 h4 h5 ho=>⟨rfl,?_⟩⟩
 have un:∀{b:Addr},upd (upd H1 dx (.own x)) x (.ins C dx []) b=none->H1 b=none/\b≠x/\b≠dx:=fun{b} hb=>by
  have n1:b≠x:=fun z=>by rw[z,QA]at hb;cases hb
  rw[Qt n1]at hb;have n2:b≠dx:=fun z=>by rw[z,QA]at hb;cases hb
  rw[Qt n2]at hb;exact⟨hb,n1,n2⟩
 obtain⟨e1,e2,e3⟩:=un he;obtain⟨r1',r2,r3⟩:=un hr;obtain⟨l1,l2,l3⟩:=un hl;obtain⟨d1,d2,d3⟩:=un hd
 have hdx':H' dx=some (.own x):=by
  rw[ho dx (by simp only[Xg,XL,or_false,not_or];exact⟨ne,Ne.symm e3,Ne.symm r3,Ne.symm l3,Ne.symm d3⟩),Qt ne,QA]
 have kp:∀b o,H1 b=some o->H' b=some o:=fun b o hb=>by
  have nb:∀{c:Addr},H1 c=none->b≠c:=fun hc z=>by rw[z,hc]at hb;cases hb
  rw[ho b (by simp only[Xg,XL,or_false,not_or];exact⟨nb hx,nb e1,nb r1',nb l1,nb d1⟩),Qt (nb hx),Qt (nb hdx)];exact hb
 have fr:∀{b:Addr},H1 b=none->F1 b=none:=fun hb=>S.sub.free hb;refine q F1 H' (.ref x) [x,dx,e,r,l,d] (x1.trans ⟨kp,Q4.refl _,fun b o hb=>kp b o (S.sub b o hb),fun _ h=>.inl h⟩) (fun b hb=>?_) ⟨x,dx,e,r,l,d,yv,[],[],rfl,rfl,?_,⟨fr hx,h1⟩,⟨fr hdx,hdx'⟩,r1,⟨fr e1,[],h2,.nil⟩,⟨fr r1',[],h3,.nil⟩,⟨fr l1,h4,.nil⟩,⟨fr d1,h5,.nil⟩⟩
 ·refine x1.hh.free ?_
  simp only[Xg,XL,or_false]at hb;rcases hb with rfl|rfl|rfl|rfl|rfl|rfl
  ·exact hx
  ·exact hdx
  ·exact e1
  ·exact r1'
  ·exact l1
  ·exact d1
 ·simp only[XO,Xg,XL,or_false,not_or,not_false_eq_true,JN,and_true]at nd ⊢
  obtain⟨⟨a1,a2,a3,a4⟩,b1,c1,f1⟩:=nd
  exact⟨⟨Ne.symm ne,a1,a2,a3,a4⟩,⟨Ne.symm e3,Ne.symm r3,Ne.symm l3,Ne.symm d3⟩,b1,c1,f1⟩
section
variable {X:Cx}{XaR:Qc}{σ:St}{H:Hp}{s:Shared}
def A3 {M:Model}{A:Around}{E:Qb}{i:Nat}{x:Str}{pos:Pos}{Q:Unit->Shared->Prop}(I0:Qq X XaR σ H s)(hN:X.N.Nodup)(hi:X.N[i]?=some x)(hk:X.env.scope.names.lookup x=some .cell)(hfn:X.fn x=true)
 (h:∀s',Qq X XaR (σ.set i none) H s'->Q () s'):wpAny M A (do bindName X.env x .none;unbindBehindTheSuite X.env x pos) Q E s:=by
 have hi0:i<σ.length:=by rw[I0.len];exact(Xh.mp hi).1
 refine Xa (wpAny_bindName (B7 (v:=.non) I0 hN hi (.inr hk) rfl (fun s I=>?_) (.inl hfn)));obtain⟨m,hn,hl⟩:=id I.loc;have hiσ:i<(σ.set i (some V.non)).length:=by simpa using hi0
 have cne:=I.cne;obtain⟨c,hc⟩:=I.ok.has x (.inl hk)
 have hv:s.heap.IsCell c (some .none):=by
  obtain⟨u,ru,q⟩:=hl i x .non hi (by rw[Xr hi0]) (.inr (.inl hk))
  cases ru
  rcases q with ⟨k,_⟩|⟨k,c',e,z⟩
  ·have z:=hk.symm.trans k;cases z
  ·rw[hc]at e;cases e;exact z
 have tracked:∀{a:Addr} {h':Heap},(∃o,s.heap.get? a=some o/\H a=none)->Heap.SameBut a s.heap h'->HOk X.prog X.w H h':=fun{a h'} ha hs b ob e=>by
  obtain⟨_,_,hfree⟩:=ha;refine(I.hok b ob e).stay (fun c w' hc q=>(hs.2 c ?_).trans q) (fun _ q=>q) fun _ _ q=>q
  rintro rfl
  rcases hc with rfl|hc
  ·rw[hfree]at e;cases e
  ·rw[hfree]at hc;cases hc
 unfold unbindBehindTheSuite;refine wpAny_onRaise ?_;unfold unbindName;refine Xa (wpAny_point (Xa ?_));unfold deleteName;have hk':X.env.kindOf x=some .cell:=hk;simp only[hk'];refine Xa (wpAny_cellOf hc (Xa (wpAny_cellGet hv ?_)));simp only[Option.isSome_some,if_true];refine wpAny_cellSet hv fun h' hc' hs=>?_;obtain⟨oc,hoc,hocd⟩:=id hv;refine wpAny_point (h _ ⟨I.ok,I.os,I.bare,⟨fun b o e n hb hx=>?_,fun b o e n hb hx=>?_,I.base.free,fun b o e hx=>?_,I.base.tups,I.base.frzs,fun b xs o q e hx=>(hs.2 b (Xm (Xp (Xj e) (I.ok.cab x c hfn hc)))).trans (I.base.tupo b xs o q e hx),I.base.tbls⟩,⟨m,hn.sameBut hs (Ne.symm (cne x c hc)),fun j y v' e1 e2 e3=>?_⟩,fun y c' e=>?_,I.free,I.freeC,fun p hp=>?_,tracked ⟨oc,hoc,I.freeC x c hc⟩ hs,by simpa using I0.len⟩)
 ·exact(hs.2 b (Xm (Xp (Xj e) (I.ok.cab x c hfn hc)))).trans (I.base.keep b o e n hb hx)
 ·obtain⟨sl,e1⟩:=I.base.slot b o e n hb hx
  exact⟨sl,(hs.2 b (Xm (Xp (Xj e) (I.ok.cab x c hfn hc)))).trans e1⟩
 ·obtain⟨o',e1⟩:=I.base.there b o e hx
  exact⟨o',(hs.2 b (Xm (Xp (Xj e) (I.ok.cab x c hfn hc)))).trans e1⟩
 ·by_cases hj:j=i
  ·subst hj
   rw[Xr hi0]at e2;cases e2
  ·rw[Xw (Ne.symm hj)]at e2
   obtain⟨u',r',q⟩:=hl j y v' e1 (by rw[Xw (Ne.symm hj)];exact e2) e3;refine⟨u',r',?_⟩
   rcases q with q|⟨k,c',e,z'⟩
   ·exact .inl q
   ·refine .inr ⟨k,c',e,z'.sameBut hs ?_⟩
    rintro rfl
    exact hj (Dx hN e1 (I.ok.inj _ _ _ e hc▸hi))
 ·by_cases hcc:c'=c
  ·subst hcc;exact⟨_,hc'⟩
  ·obtain⟨w2,z2⟩:=I.cell y c' e
   exact⟨w2,z2.sameBut hs hcc⟩
 ·obtain⟨e,n,ne,nf,d⟩:=I.pin p hp
  refine⟨(hs.2 p.1 ?_).trans e,n,ne,nf,d⟩;intro q;rw[q,hoc]at e;have q':oc=p.2:=Option.some.inj e;exact d _ (by rw[<- q'];exact hocd)
end
def EHc (C:Addr)(th:Addr->TS)(D:Ends)(n j:Nat):XK:=XE C fun e dct H=>∀(σ:St) H' T,σ.length=n->Lefts C e dct H H'->H' T=none->T≠e->th e (Dh D j) (σ.set j (some (.ref e))) (left C e dct T H')
def RM {C:Addr}{th:Addr->TS}{D:Ends}{n j:Nat}:VE C fun e dct H=>∀(σ:St) H' T,σ.length=n->Lefts C e dct H H'->H' T=none->T≠e->th e (Dh D j) (σ.set j (some (.ref e))) (left C e dct T H'):=fun _ _ _ _ r hT hTe σ H' T' hl hL=>r σ H' T' hl (.head hT hTe hL)
section
variable {X:Cx}{C B:Addr}{th:Addr->TS}{tb:Ends->TS}{body suite:List Stmt}{b0:Stmt}{x n:Str}{j:Nat}{np hpos pos:Pos}{rest:List ExceptHandler}
def AJ {XaR:Qc}{Q:Flow->Shared->Prop}{E:Qb}{e T0:Addr}{dct:Qj}{σ:St}{H:Hp}{s:Shared}{D:Ends}(cm:W.exmOne X.K (.ref C) (.ref B)=some true)(hok:X.Ok)(hst:X.stack=X.env::X.outer)(hfr:X.env.frame=some X.env.locals)(hg:Gl X x)(hm:X.mg x=some (.ref B))
 (hN:X.N.Nodup) (hj:X.N[j]?=some n) (hl:X.env.scope.names.lookup n=some .cell) (hfn:X.fn n=true)
 (hh:∀e pn,PSs (WN X e pn) (b0::suite) (th e)) (I:Qq { X with pn:=X.pn++XaR } [] σ H s) (hT0:T0≠e) (he:H e=some (.ext (phF C e dct T0))) (hT:H T0=some (.ext (phT T0)))
 (hd:(x==("__debug__" : Str))=false)
 (hq:∀T,H T=none->T≠e->th e (Dh D j) (σ.set j (some (.ref e))) (left C e dct T H)) (hQ:∀f s',SP X XaR D f s'->Q f s') :
 wpAny (model X.prog X.w) X.A (noteFrame (.ref e) X.env) (fun _ s2=>wpAny (model X.prog X.w) X.A (setFlight (.ref e) none) (fun _ s3=>wpAny (model X.prog X.w) X.A (handleBy (.ref e) X.env (.ExceptHandler (some (.Name x np)) (some n) (b0::suite) hpos::rest)) Q E s3) E s2) E s:=by
 obtain⟨⟨vs,sl,hx,h1,h2c⟩,_,_⟩:=I.hok e _ he;obtain⟨⟨oT,ts,hx2,h2,h3⟩,_,_⟩:=I.hok T0 _ hT;have fr:X.A.frames=some (X.env::X.outer):=by rw[hok.frames,hst]
 have ff:=I.stack;have ff:s.heap.FunFrames X.base (X.env::X.outer):=by rw[<- hst];exact ff
 refine SE fr ff hfr hx rfl h1 hT0 hx2 h2 h3 fun h' T Z=>?_;have J:=DL I (by rw[he];trivial) hx (Array.getElem?_eq_some_iff.mp h1).1 h2c (by show Leaves X.stack _ _ _ _ _;rw[hst];exact Z);have hTn:H T=none:=I.hok.fresh Z.new;have hTe:T≠e:=XU (Xp (Xj hx) Z.new);have JH:Qq (WN X e (X.pn++XaR)) [] σ (left C e dct T H) { s with heap:=h' }:=J.toHandler;refine wpAny_handleBy_cons (codeAny_handlers_test (Jw JH hg hm ?_ hd)) (by intro q;cases q);have LT:W.Looks (model X.prog X.w) h' (typeOf (.ref e)) (.ref C):=(W.Looks.ld Z.exc).andThen .now;refine(W.exm_one J.kIn LT cm).here (codeAny_handlers_suite_as ?_);have o1:left C e dct T H e=some (.ext (phF C e dct T)):=by unfold left;rw[Qt (Ne.symm hTe),QA]
 have o2:left C e dct T H T=some (.ext (phT T)):=by unfold left;rw[QA]
 obtain⟨p1,_,_⟩:=JH.hok e _ o1;obtain⟨p2,_,_⟩:=JH.hok T _ o2;refine Ev p1 p2 fun h2 k2=>?_;have J2:Qq (WN X e (X.pn++XaR)) [] σ (left C e dct T H) { s with heap:=h2 }:=JH.kept (t':=s.toks) k2;refine B7 (X:=WN X e (X.pn++XaR)) J2 hN hj (.inr hl) (v:=.ref e) rfl (fun s3 J3=>?_) (.inl hfn);refine wpAny_mono (hh e _ [] s3 _ _ (Dh D j) J3 (hq T hTn hTe)) (fun fl s4 z=>?_) fun _ _ z=>False.elim z
 cases fl with
 |next =>
   obtain⟨σ',H',I4,q⟩:=z;refine A3 (X:=WN X e (X.pn++XaR)) I4 hN hj hl hfn fun s5 I5=>hQ _ _ ?_
   exact⟨_,H',(I5.ofHandler hok).ofPn,q⟩
 |ret u=>obtain⟨_,_,_,_,_,z⟩:=z;exact False.elim z
 |brk=>obtain⟨_,_,_,z⟩:=z;exact False.elim z
 |cont=>obtain⟨_,_,_,z⟩:=z;exact False.elim z
def RV (cm:W.exmOne X.K (.ref C) (.ref B)=some true)(hst:X.stack=X.env::X.outer)(hfr:X.env.frame=some X.env.locals)(hg:Gl X x)(hm:X.mg x=some (.ref B))
 (hN:X.N.Nodup) (hj:X.N[j]?=some n) (hl:X.env.scope.names.lookup n=some .cell) (hfn:X.fn n=true)
 (hb:∀D pn,PSs (MF X (EHc C th D X.N.length j) pn) body (tb D)) (hh:∀e pn,PSs (WN X e pn) (b0::suite) (th e)) (hd:(x==("__debug__" : Str))=false:=by decide) :
 PS X (.Try body (.ExceptHandler (some (.Name x np)) (some n) (b0::suite) hpos::rest) [] [] pos) (BX tb):=by
 intro XaR s σ H D I h;have I1:Qq (MF X (EHc C th D X.N.length j) (X.pn++XaR)) [] σ H s:=I.toPn.wish _;refine wpAny_Try_except (wpAny_mono (hb D (X.pn++XaR) [] s σ H D I1 h) (fun fl s1 q=>?_) fun v s1 q=>?_)
 ·have q':=SP.ofPn q
  cases fl with
  |next=>exact wpAny_execs_nil q'
  |ret u=>exact q'
  |brk=>exact q'
  |cont=>exact q'
 ·obtain⟨σ1,H1,dct,J,e,rfl,⟨T0,hT0,he,hT⟩,hq⟩:=q
  exact AJ cm I.ok hst hfr hg hm hN hj hl hfn hh J hT0 he hT hd (fun T a b=>hq σ1 _ T J.len .nil a b) fun fl s' z=>z
end
end L2
end
namespace L2
open PySem PySem.Spec PyProof.Rows
section
variable {K:W.Frag}{ρ:Q5}{ta tb tc te:TE}{D:PEnds}{d:PyData}{dss:List (Qd)}
end
section
variable {K:W.Frag}{ρ:Q5}{ta:TE}{D:PEnds}
end
section
variable {X:Cx}
variable {C B:Addr}{th:TS}{tb:Ends->TS}{body suite:List Stmt}{b0:Stmt}{x n:Str}{j:Nat}{np hpos pos:Pos}{rest:List ExceptHandler}
end
section
variable {K:W.Frag}{ρ:Q5}{C:Addr}{f:Str}{th:TS}{tb:Ends->TS}{D:PEnds}{i j:Nat}{ta:TE}
end
section
variable {K:W.Frag}{ρ:Q5}{ta tb te:TE}{D:PEnds}{d:PyData}{dss:List (Qd)}{ds:Qd}
def QC.freezeO {Φ:OwnP}{H0 F H:Hp}{σ:St}{i:Nat}{v:V}(hz:∀{p:Qg},Φ.ok K F H v p->Rep (frF F H p) v d)(s:QC K H0 F ρ σ H)(e:ρ[i]?=some (some (.own v Φ))) :
 ∃p,(∀a∈p,F a=none/\H a≠none/\H0 a=none)/\QC K H0 (frF F H p) (ρ.set i (some (.fz d))) σ H:=by
 obtain⟨kt,h1,h2,fp,h3,h4,h5⟩:=s;obtain⟨u,e1,rfl,ok⟩:=h3 i _ e;have hlt:=(Xh.mp e).1;have th:=fun a ha=>Φ.there ok a ha;have sm:Q4 F (frF F H (fp i)):=Wd fun a ha=>(th a ha).1;refine⟨fp i,fun a ha=>⟨(th a ha).1,(th a ha).2,(h5 i a ha).1⟩,kt.mono sm,Gx h1,by simp[h2],fun j=>if j=i then [] else fp j,fun j t' e'=>?_,fun j k b hb hc=>?_,fun j b hb=>?_⟩
 ·by_cases hj:j=i
  ·subst hj
   rw[Xr hlt]at e';cases e';refine⟨_,e1,?_,hz ok⟩;dsimp only;rw[Xd rfl]
  ·rw[Xw (Ne.symm hj)]at e'
   obtain⟨u',f1,f2⟩:=h3 j t' e';refine⟨u',f1,?_⟩;dsimp only;rw[Xb hj];exact f2.frOther sm fun a ha z=>hj (h4 j i a ha z)
 ·by_cases hj:j=i
  ·simp[hj]at hb
  ·by_cases hk:k=i
   ·simp[hk]at hc
   ·simp only[Xb hj]at hb
    simp only[Xb hk]at hc;exact h4 j k b hb hc
 ·by_cases hj:j=i
  ·simp[hj]at hb
  ·simp only[Xb hj]at hb
   exact h5 j b hb
end
end L2
section
namespace L2
open PySem PySem.Spec PyProof.Rows
def lsO (d0:PyData)(ds:Qd):OwnP where
 ok K F H v p := ∃a b x,v=.ref a/\p=[a,b]/\a≠b/\F a=none/\H a=some (.lst [x,.ref b])/\Rep F x d0/\Vj F H b ds
 there:=by
  rintro K F H v p ⟨a,b,x,rfl,rfl,_,h1,h2,_,h3,xs,h4,_⟩ c hc
  simp only[Xg,XL,or_false]at hc;rcases hc with rfl|rfl
  ·exact⟨h1,Z1 h2⟩
  ·exact⟨h3,Z1 h4⟩
 mono:=by
  rintro K F F' H H' v p s hF hH ⟨a,b,x,rfl,rfl,n,h1,h2,r,h3,xs,h4,h5⟩
  exact⟨a,b,x,rfl,rfl,n,hF _ (by simp),by rw[hH _ (by simp)];exact h2,r.mono s,hF _ (by simp),xs,by rw[hH _ (by simp)];exact h4,h5.mono s⟩
 uniq:=by
  rintro K F H v p q ⟨a,b,x,rfl,rfl,_,_,h2,_⟩ ⟨a',b',x',e,rfl,_,_,h2',_⟩ c hc
  cases e
  have z:=h2.symm.trans h2';simp only[Option.some.injEq,HO.lst.injEq,List.cons.injEq,V.ref.injEq,and_true]at z;rw[z.2];exact hc
section
variable {K:W.Frag}{ρ:Q5}{D:PEnds}{i j:Nat}{d0:PyData}{ds:Qd}{C:Addr}{f:Str}
def Fl {v w:V}(h0:Vl d0=some w)(h:Uv ds):Jj (.own v (lsO d0 ds)):=fun K F F' H u p hp ok=>by
 obtain⟨e,a,b,x,rfl,rfl,n,h1,h2,r,h3,xs,h4,h5⟩:=ok
 exact⟨e,a,b,x,rfl,rfl,n,hp _ (by simp),h2,r.thin h0,hp _ (by simp),xs,h4,h5.flats h⟩
def lsO.frz {F H:Hp}{v:V}{p:Qg}(ok:(lsO d0 ds).ok K F H v p):Rep (frF F H p) v (.list [d0,.list ds]):=by
 have sm:Q4 F (frF F H p):=Wd fun a ha=>((lsO d0 ds).there ok a ha).1;obtain⟨a,b,x,rfl,rfl,n,h1,h2,r,h3,xs,h4,h5⟩:=ok;exact .lst (xs:=[x,.ref b]) (by rw[YV (by simp)];exact h2) (.cons (r.mono sm) (.cons (.lst (by rw[YV (by simp)];exact h4) (h5.mono sm)) .nil))
def Tp {t:TS}(i:Nat){v:V}(e:ρ[i]?=some (some (.own v (lsO d0 ds))))(h:Q0 K t (ρ.set i (some (.fz (.list [d0,.list ds])))) D):Q0 K t ρ D:=fun F0 H0 F σ H E x S C=>by
 obtain⟨p,hp,S'⟩:=S.freezeO lsO.frz e;refine h F0 H0 _ σ H E ⟨x.hh,x.ff.trans (Wd fun a ha=>(hp a ha).1),S'.sub,fun a ha=>?_⟩ S' C
 by_cases z:a∈p
 ·exact .inr (hp a z).2.2
 ·rw[YA z]at ha;exact x.fr a ha
def FA {e dx q:Addr}(hij:i≠j)(hi:ρ[i]?=some (some (.ol [d0])))(h:ρ[j]?=some (some (.own (.ref e) (W9 C f ds e dx q))))(hn:∀v,D.nx ((ρ.set j none).set i (some (.own v (lsO d0 ds))))) :
 Q0 K (VF (tBM K "list" Yb (QD i) (QE (tXG C (QD j) f) QO))) ρ D:=fun F0 H0 F σ H E x S c=>by
 obtain⟨kt,s1,s2,fp,h3,h4,h5⟩:=id S;obtain⟨u,u1,a,rfl,ui,fa,xs,ha,ra⟩:=h3 i _ hi;obtain⟨w,w1,rfl,wp,⟨f1,f2,f3⟩,⟨T,hT⟩,hd,ys,hq,rq⟩:=h3 j _ h;have hil:=(Xh.mp hi).1;have hjl:=(Xh.mp h).1;have ai:a∈fp i:=by rw[ui];exact Xc
 have qj:q∈fp j:=by rw[wp];simp
 have naq:a≠q:=fun z=>hij (h4 i j a ai (z▸qj));have a0:=(h5 i a ai).1;have q0:=(h5 j q qj).1
 obtain⟨x0,rfl,r0⟩:∃x0,xs=[x0]/\Rep F x0 d0:=by
  cases ra with
  |cons r1 r2=>cases r2;exact⟨_,rfl,r1⟩
 refine⟨.ref a,u1,.inl ⟨rfl,_,SqL.of ha⟩,.ref e,w1,e,dx,T,.ref q,rfl,hT,hd,a,[x0],.ref q,rfl,rfl,ha,Vy Wo,?_⟩;refine c.nx F σ _ _ (x.wr a0 fa) ⟨kt,s1.upd fa,by simp[s2],fun k=>if k=i then [a,q] else if k=j then [] else fp k,fun k t ek=>?_,fun k l b hb hc=>?_,fun k b hb=>?_⟩ (hn (.ref a))
 ·by_cases hk:k=i
  ·subst hk
   rw[Xr (by simpa using hil)]at ek;cases ek;refine⟨.ref a,u1,rfl,a,q,x0,rfl,?_,naq,fa,QA,r0,f3,ys,by rw[Qt (Ne.symm naq)];exact hq,rq⟩
   simp
  ·rw[Xw (Ne.symm hk)]at ek
   by_cases hkj:k=j
   ·subst hkj
    rw[Xr hjl]at ek;cases ek
   ·rw[Xw (Ne.symm hkj)]at ek
    obtain⟨v',g1,g2⟩:=h3 k t ek;refine⟨v',g1,?_⟩;simp only[Xb hk,Xb hkj];exact g2.other fun z=>hk (h4 k i a z ai)
 ·have key:∀k b,b∈(if k=i then [a,q] else if k=j then [] else fp k)->(k=i/\(b=a\/b=q))\/(k≠i/\k≠j/\b∈fp k):=fun k b hk=>by
   by_cases z:k=i
   ·rw[Xd z]at hk;exact .inl ⟨z,by simpa using hk⟩
   ·rw[Xb z]at hk
    by_cases z':k=j
    ·rw[Xd z']at hk;cases hk
    ·rw[Xb z']at hk;exact .inr ⟨z,z',hk⟩
  rcases key k b hb with ⟨z1,m1⟩|⟨z1,z2,m1⟩
  ·rcases key l b hc with ⟨y1,_⟩|⟨y1,y2,n1⟩
   ·rw[z1,y1]
   ·rcases m1 with rfl|rfl
    ·exact Xl (h4 l i _ n1 ai) y1
    ·exact Xl (h4 l j _ n1 qj) y2
  ·rcases key l b hc with ⟨y1,n1⟩|⟨y1,y2,n1⟩
   ·rcases n1 with rfl|rfl
    ·exact Xl (h4 k i _ m1 ai) z1
    ·exact Xl (h4 k j _ m1 qj) z2
   ·exact h4 k l b m1 n1
 ·refine⟨?_,Yu b ?_⟩
  ·by_cases z:k=i
   ·simp only[Xd z,Xg,XL,or_false]at hb
    rcases hb with rfl|rfl
    ·exact a0
    ·exact q0
   ·simp only[Xb z]at hb
    by_cases z':k=j
    ·simp[z']at hb
    ·simp only[Xb z']at hb
     exact(h5 k b hb).1
  ·by_cases z:k=i
   ·simp only[Xd z,Xg,XL,or_false]at hb
    rcases hb with rfl|rfl
    ·exact Z1 ha
    ·exact Z1 hq
   ·simp only[Xb z]at hb
    by_cases z':k=j
    ·simp[z']at hb
    ·simp only[Xb z']at hb
     exact(h5 k b hb).2
structure SO (K:W.Frag)(mg:Str->Qf)(Y C cg ct:Addr):Prop where
 em:W.exmOne K (.ref C) (.ref Y)=some true
 my:mg "YardError"=some (.ref Y)
 gt:SN K C
 na:V3 K C "some"
 is:SM K C
 k1:W.kitOne K (.ref C) (.ref C)=some true
 k2:W.kitOne K (.ref C) (.type "ValueError")=some true
 kg:W.kitOne K (.ref C) (.ref cg)=some false
 kt:W.kitOne K (.ref C) (.ref ct)=some false
 m1:mg "NoGuest"=some (.ref cg)
 m2:mg "NoTime"=some (.ref ct)
end
end L2
end
section
set_option maxHeartbeats 400000
namespace L2
open PySem PySem.Spec PyProof.Rows
section
variable {X:Cx}
end
section
variable {X:Cx}
def K8 (X:Cx):List V->Hp->VK->Prop:=fun xs H Q=>X.calm=true/\∃(x:V) (ns:Ql) (M:Int),xs=[x]/\Rep H x (.list (ns.map PyData.int))/\M∈ns/\(∀a∈ns,a<=M)/\Q (.int M) H
def LB:Zr X (.builtin "max") (K8 X):=by
 intro XaR s σ H xs us Q I r h;obtain⟨hc,x,ns,M,rfl,hx,hM,hmax,q⟩:=h;obtain⟨u,rfl,rx⟩:=VP r
 cases hx with
 |@lst l ys _ ha rr =>
   cases rx
   have er:=J9 rr;subst er;obtain⟨its,rv,p,hz⟩:=I.list (SqL.of (K:=X.K) ha);have hl:=p.isList;have hi:=U8 rv;have hlen:its.length=ns.length:=hi.length;have hpos:0<ns.length:=BR.mpr fun z=>by rw[z]at hM;cases hM
   have hlt:l<s.heap.objs.size:=by obtain⟨_,e,_⟩:=hl;exact Xj e
   refine call_max_walk (wpAny_pyIter_list hl ?_)
   refine⟨s.heap.objs.size,[s.heap.objs.size,l],[s.heap.objs.size],its.toArray.size,_,_,_,rfl,Walks.list (A:=X.A.in1) (I.ok.hd hc) _ l (Xm hlt) its.toArray,
    ⟨⟨_,Xu _ rfl,rfl,rfl⟩,hl.push _⟩,fun b hb=>?_,by simp only[Xv];omega,CmpOf.ints_gt (fun i=>ns.getD i 0) (fun i v hP=>WM hi (by simpa using hP)),fun v h' tk hP hk=>?_⟩
   ·show b<(s.heap.push _).objs.size
    rw[YG];rcases Xg.mp hb with rfl|hb
    ·exact X9 _
    ·rcases Xg.mp hb with rfl|hb
     ·exact JR hlt
     ·cases hb
   ·rw[List.getElem?_toArray]at hP
    obtain⟨t,rfl⟩:=WM hi hP;obtain⟨g1,g2⟩:=argBest_gt (fun i=>ns.getD i 0) (its.toArray.size-1);have hsz:its.toArray.size=its.length:=by simp
    generalize argBest (fun i j=>decide (ns.getD i 0 > ns.getD j 0)) (its.toArray.size-1)=k at g1 g2 ⊢;rw[hsz]at g1 g2;have hk2:k<ns.length:=by omega
    have em:ns.getD k 0=M:=by
     have h1:ns.getD k 0∈ns:=by simp[hk2]
     have h2:=hmax _ h1;obtain⟨j,hj,e⟩:=JU.mp hM;have h3:=g2 j (by omega);have h4:ns.getD j 0=M:=by simp[hj,e]
     omega
    exact⟨.int M,H,I.kept (Dn hk),⟨t,by rw[em]⟩,q⟩
end
section
variable {K:W.Frag}{ρ:Q5}{ta tb tc te:TE}{D:PEnds}
def L9 {X:Cx}{ns:Ql}{M:Int}(h:Qu K ta ρ (.list (ns.map PyData.int)))(hc:X.calm=true)(hM:M∈ns)(hm:∀a∈ns,a<=M):Qu K (tCB (K8 X) (QE ta QO)) ρ (.int M):=fun H0 F σ H Q S q =>
 h H0 F σ H _ S fun F1 H1 v x1 r1=>⟨hc,v,ns,M,rfl,r1.mono x1.fh,hM,hm,q F1 H1 _ x1 (.int _)⟩
def Px {t:TS}(J:Q5->Prop)(h:Q0 K t ρ { nx:=J,ct:=D.ct,bk:=D.bk,rt:=D.rt })(k:∀ρ',J ρ'->D.nx ρ'):Q0 K t ρ D:=fun F0 H0 F σ H E x S C =>
 h F0 H0 F σ H E x S ⟨fun F' σ' H' ρ' x' S' hj=>C.nx F' σ' H' ρ' x' S' (k ρ' hj),C.rt,C.bk,C.ct⟩
end
def olP (ds:Qd):OwnP where
 ok K F H v p := ∃a,v=.ref a/\p=[a]/\Vj F H a ds
 there:=by
  rintro K F H v p ⟨a,rfl,rfl,h1,xs,h2,_⟩ c hc
  cases Xi.mp hc
  exact⟨h1,Z1 h2⟩
 mono:=by
  rintro K F F' H H' v p s hF hH ⟨a,rfl,rfl,h1,xs,h2,h3⟩
  exact⟨a,rfl,rfl,hF _ (by simp),xs,by rw[hH _ (by simp)];exact h2,h3.mono s⟩
 uniq:=by
  rintro K F H v p q ⟨a,rfl,rfl,_⟩ ⟨a',e,rfl,_⟩ c hc
  cases e
  exact hc
def EvW (K:W.Frag)(t:TE)(ρ:Q5)(i:Nat)(Θ:Int->OT->Prop):Prop := ∀(F0 H0 F:Hp) (σ:St) (H:Hp) (Q:VK),Q1 F0 H0 F H->QC K H0 F ρ σ H ->
 (∀F' H' n o,Θ n o->Q1 F0 H0 F' H'->Q4 F F'->QC K H0 F' (ρ.set i (some o)) σ H'->Q (.int n) H')->t σ H Q
section
variable {K:W.Frag}{ρ:Q5}{ta te tb:TE}{t:TA}{D:PEnds}{i j:Nat}{v:V}{ds:Qd}{ts:List OT}{Θ:Int->OT->Prop}
def olP.frz {F H:Hp}{p:Qg}(ok:(olP ds).ok K F H v p):Rep (frF F H p) v (.list ds):=by
 have sm:Q4 F (frF F H p):=Wd fun a ha=>((olP ds).there ok a ha).1;obtain⟨a,rfl,rfl,h1,xs,h2,h3⟩:=ok;exact .lst (by rw[YV (by simp)];exact h2) (h3.mono sm)
def NQ {d:PyData}{u:V}(i:Nat)(e:ρ[i]?=some (some (.own v (olP ds))))(hf:Vl d=some u)(h:Qu K te (ρ.set i (some (.fz (.list ds)))) d):Qu K te ρ d:=fun H0 F σ H Q S q=>by
 obtain⟨p,hp,S'⟩:=S.freezeO olP.frz e;exact h H0 _ σ H Q S' fun F' H' v x r=>q _ H' v (G2 (fun a ha=>⟨(hp a ha).1,(hp a ha).2.1⟩) x) (r.thin hf)
def DR {d:PyData}{k:Int}{j:Nat}(e:ρ[i]?=some (some (.own v (olP ds))))(h:Qu K te ρ d)(hi:Qu K tb ρ (.int k))(hj:ixN ds.length k=some j)(hn:D.nx (ρ.set i (some (.own v (olP (ds.set j d)))))) :
 Q0 K (ZS te (BZ (QD i) tb UW)) ρ D:=fun F0 H0 F σ H E x S C =>
 h H0 F σ H _ S fun F1 H1 u x1 r1=>by
  obtain⟨e1,p,⟨a,rfl,rfl,o1,xs,o2,o3⟩,hp,_⟩:=(S.ext x1).writeOwn e;refine⟨_,e1,hi H0 F1 σ H1 _ (S.ext x1) fun F2 H2 y x2 r2=>?_⟩
  cases r2
  obtain⟨_,p',⟨a',ea,rfl,q1,ys,q2,q3⟩,hp',w⟩:=(S.ext (x1.trans x2)).writeOwn e
  cases ea
  obtain⟨z0,zf,_⟩:=hp' a Xc;refine⟨a,ys,k,j,rfl,rfl,q2,by rw[q3.length];exact hj,?_⟩;exact C.nx F2 σ _ _ ((x.trans (x1.trans x2)).wr z0 zf) (w _ (olP (ds.set j d)) [a] ((S.ext (x1.trans x2)).sub.upd zf) (fun c hc _=>Qt fun z=>hc (by rw[z];exact Xc)) Yu ⟨a,rfl,rfl,zf,_,QA,q3.set (r1.mono x2.ff) j⟩ (fun c hc=>.inl hc)) hn
def Ls {α:Type}{Φ:α->OwnP}{N:α}{R:α->List OT->(OT->α->Prop)->Prop}{Ψ:OT->α->Prop}{E':XK}(e:ρ[i]?=some (some (.own v (Φ N))))(hA:Z2 K t ρ ts)(hR:R N ts Ψ)(hn:∀r N',Ψ r N'->∃n,r=.fz (.int n)/\Θ n (.own v (Φ N'))) :
 EvW K (VI (spP K Φ R) [] E' (QE (QD i) t)) ρ i Θ:=fun F0 H0 F σ H Q x S q=>by
 obtain⟨p0,s0,_⟩:=U3 S x e;refine⟨_,s0,hA H0 F σ H _ S fun F1 H1 vs x1 r1=>?_⟩;obtain⟨p,s1,okp,fin⟩:=U3 (S.ext x1) (x.trans x1) e;refine⟨F1,v,vs++[],p,ts,N,Ψ,rfl,(S.ext x1).kt,x1.fh,by rw[XG];exact r1,okp,hR,fun F' H' p' N' v' r qq hr xn ok' sub sok hq=>?_⟩;obtain⟨n,rfl,hΘ⟩:=hn r N' hr;obtain⟨X',S',_⟩:=fin F' H' p' N' xn ok' sub;obtain⟨_,rp⟩:=sok
 cases rp
 exact q F' H' n _ hΘ X' (x1.ff.trans xn.ff) S'
def Gf {s:TE->TS}(hw:EvW K te ρ i Θ)(hs:∀(H0 F:Hp) (σ:St) (H:Hp) (E:Ends),QC K H0 F ρ σ H->(∀Q:VK,(∀n H1,s (tC (.int n)) E σ H1->Q (.int n) H1)->te σ H Q)->s te E σ H)
 (hn:∀n o,Θ n o->Q0 K (s (tC (.int n))) (ρ.set i (some o)) D):Q0 K (s te) ρ D:=fun F0 H0 F σ H E x S c =>
 hs H0 F σ H E S fun Q hQ=>hw F0 H0 F σ H Q x S fun F' H' n o hΘ x' _ S'=>hQ n H' (hn n o hΘ F0 H0 F' σ H' E x' S' c)
def R3 (ha:Qu K ta ρ (.list ds))(hw:EvW K te ρ i Θ)(hn:∀n o,Θ n o->∃d,atI ds n=some d/\D.nx ((ρ.set i (some o)).set j (some (.fz d)))):Q0 K (ZS (tOp (rIx K) ta te) (ZW j)) ρ D:=fun F0 H0 F σ H E x S c =>
 ha H0 F σ H _ S fun F1 H1 u x1 r1=>hw F0 H0 F1 σ H1 _ (x.trans x1) (S.ext x1) fun F' H' n o hΘ x' sm S'=>by
  obtain⟨d,e,hnx⟩:=hn n o hΘ
  cases r1 with
  |@lst a xs _ k1 k2 =>
    obtain⟨z,z1,z2⟩:=U5 (k2.mono sm) e;exact .inl ⟨a,xs,n,z,rfl,rfl,SqL.of (S'.sub _ _ (sm _ _ k1)),z1,c.nx F' _ H' _ x' (S'.setF z2) hnx⟩
end
section
variable {P:Program}{w:World}{K:W.Frag}{mg:Str->Qf}{base:Heap}
def Df.evP {α:Type}{Φ:α->OwnP}{x:Str}{st:Stmt}{L ps:Qh}{k:Nat}{R:α->List OT->(OT->α->Prop)->Prop}(D:Df K mg x st ps)(S:Qp L ps (Qy st))(len:∀M ts Ψ,R M ts Ψ->ts.length+1=ps.length)
 (hret:∀(f:Addr) (cdv:Value) (A:Around) (outer:List Env) (s:Shared) (H:Hp) (E:XK) (v:V) (M:α) (ts:List OT) (Ψ:OT->α->Prop),Room k (A.deeper (envOfC x (Qy st) s.heap.objs.size f cdv))->R M ts Ψ ->
  ∃t,PSs (Vi CX0 P w K mg base L x (Qy st) f cdv A outer s H E).nox (Zh st) t/\EvR K t (some (.own v (Φ M))::(ts.map some++List.replicate (L.length-(ts.length+1)) none)) (fun r ρ'=>∃M',Ψ r M'/\ρ'[0]?=some (some (.own v (Φ M'))))):QB P w K mg base x ps (k+1) (spP K Φ R):=by
 obtain⟨f,fd,F,hm,hb⟩:=D.ex;refine⟨f,fd,hm,F.kp,hb,F.ok S (fun vs H Q E h=>?_) fun cdv A outer s H vs Q E hr h=>?_⟩
 ·obtain⟨F,v0,vs',p,ts,M,Ψ,e,_,_,ha,_,hR,_⟩:=h
  rw[e,XI,ha.length];exact len _ _ _ hR
 ·obtain⟨F,v0,vs',p,ts,M,Ψ,e,kt,sm,ha,ok,hR,q⟩:=h
  subst e;obtain⟨t,h1,h2⟩:=hret f cdv A outer s H E v0 M ts Ψ hr hR
  exact⟨t,h1,Dt (R:=R) h2 kt sm ha ok q⟩
end
section
variable {X:Cx}
def KC (X:Cx):List V->Hp->VK->Prop:=fun xs H Q=>X.calm=true/\∃(x:V) (ns:Ql) (M:Int),xs=[x]/\Rep H x (.tuple (ns.map PyData.int))/\M∈ns/\(∀a∈ns,a<=M)/\Q (.int M) H
def Tt:Zr X (.builtin "max") (KC X):=by
 intro XaR s σ H xs us Q I r h;obtain⟨hc,x,ns,M,rfl,hx,hM,hmax,q⟩:=h;obtain⟨u,rfl,rx⟩:=VP r
 cases hx with
 |@tup l ys _ ha rr =>
   cases rx
   have er:=J9 rr;subst er;obtain⟨its,rv,hl,hz⟩:=I.tuple (SqT.of (K:=X.K) ha);have hi:=U8 rv;have hlen:its.length=ns.length:=hi.length;have hpos:0<ns.length:=BR.mpr fun z=>by rw[z]at hM;cases hM
   have hlt:l<s.heap.objs.size:=by obtain⟨_,e,_⟩:=hl;exact Xj e
   refine call_max_walk (wpAny_pyIter_tuple hl ?_)
   refine⟨s.heap.objs.size,[s.heap.objs.size,l],[s.heap.objs.size],its.toArray.size,_,_,_,rfl,Walks.tuple (A:=X.A.in1) (I.ok.hd hc) _ l (Xm hlt) its.toArray,
    ⟨⟨_,Xu _ rfl,rfl,rfl⟩,hl.push _⟩,fun b hb=>?_,by simp only[Xv];omega,CmpOf.ints_gt (fun i=>ns.getD i 0) (fun i v hP=>WM hi (by simpa using hP)),fun v h' tk hP hk=>?_⟩
   ·show b<(s.heap.push _).objs.size
    rw[YG];rcases Xg.mp hb with rfl|hb
    ·exact X9 _
    ·rcases Xg.mp hb with rfl|hb
     ·exact JR hlt
     ·cases hb
   ·rw[List.getElem?_toArray]at hP
    obtain⟨t,rfl⟩:=WM hi hP;obtain⟨g1,g2⟩:=argBest_gt (fun i=>ns.getD i 0) (its.toArray.size-1);have hsz:its.toArray.size=its.length:=by simp
    generalize argBest (fun i j=>decide (ns.getD i 0 > ns.getD j 0)) (its.toArray.size-1)=k at g1 g2 ⊢;rw[hsz]at g1 g2;have hk2:k<ns.length:=by omega
    have em:ns.getD k 0=M:=by
     have h1:ns.getD k 0∈ns:=by simp[hk2]
     have h2:=hmax _ h1;obtain⟨j,hj,e⟩:=JU.mp hM;have h3:=g2 j (by omega);have h4:ns.getD j 0=M:=by simp[hj,e]
     omega
    exact⟨.int M,H,I.kept (Dn hk),⟨t,by rw[em]⟩,q⟩
def LC {K:W.Frag}{ρ:Q5}{ta:TE}{ns:Ql}{M:Int}(h:Qu K ta ρ (.tuple (ns.map PyData.int)))(hc:X.calm=true)(hM:M∈ns)(hm:∀a∈ns,a<=M):Qu K (tCB (KC X) (QE ta QO)) ρ (.int M):=fun H0 F σ H Q S q =>
 h H0 F σ H _ S fun F1 H1 v x1 r1=>⟨hc,v,ns,M,rfl,r1.mono x1.fh,hM,hm,q F1 H1 _ x1 (.int _)⟩
end
def Ie:entryFor table "proto.unchain"=some Builtin.«proto.unchain» := entryFor_of_tree (by kernel_rfl)
section
variable {prog:Program}{w:World}{A:Around}{E:Qb}{s:Shared}
def Ej {it e:Addr}{x left step:Int}{oe:Obj}{vs:Array Value}{Q:Qf->Shared->Prop}(hh:A.handled=some (.ref e))(hit:IsRangeIter s.heap it x left step)(hleft:left<=0)(he:s.heap.get? e=some oe)(hd:oe.data=.fields vs)(h2:vs[2]?=some .none)
 (hQ:∀h',Heap.ExtBut it s.heap h'->Q none { s with heap:=h' }):wpAny (model prog w) A (pyNext (.ref it)) Q E s:=by
 have hT:s.TypeIs (.ref it) "range_iterator" := ⟨_,hit,rfl⟩
 unfold pyNext;refine Xa (wpAny_attempt (wpAny_callSpecial?_slot (name:=Str.ofString "__next__") hT F.slot_range_iterator_next
  (wpAny_call_entry F.slot_range_iterator_next hT F.entry_range_iterator_next ?_ (F.args_range_iterator_next_1 _))))
 show wpAny _ _ (field (.ref it) 0 >>= _) _ _ s;refine Xa (Jc hit rfl (x:=rawInt x) rfl ?_);show wpAny _ _ (field (.ref it) 1 >>= _) _ _ s;refine Xa (Jc hit rfl (x:=rawInt left) rfl ?_);show wpAny _ _ (field (.ref it) 2 >>= _) _ _ s;refine Xa (Jc hit rfl (x:=rawInt step) rfl ?_);show wpAny _ _ (if left<=0 then _ else _) _ _ s;rw[Xd hleft];refine Xa (wpAny_rule ?_);refine Xa ?_;show wpAny _ _ (newExc (.type "StopIteration") [] >>= _) _ _ _;refine Xa ?_;simp only[newExc,newTuple];refine Xa (wpAny_newObj_type ?_ (by size_fits));refine Xa (m:=firstArgMember _ _) (wpAny_of_eq (a:=Value.none) (by first|rfl|(simp only[firstArgMember];rfl)) ?_);refine wpAny_newObj_type ?_ (by size_fits);simp only[raiseNew];refine Xa (wpAny_handled ?_)
 first|rw[show A.in1.handled=some (.ref e) from hh]|rw[hh]
 have hlt:e<s.heap.objs.size:=Xj he;have hsz:(s.heap.push { cls:=Value.type "tuple",data:=Data.seq #[] }).objs.size=s.heap.objs.size+1:=YG _ _
 have hne:(Value.ref e != Value.ref (s.heap.push { cls:=Value.type "tuple",data:=Data.seq #[] }).objs.size)=true:=by
  rw[hsz,bne_iff_ne];intro z;injection z with z;exact Xm (JR hlt) z
 have he':((s.heap.push { cls:=Value.type "tuple",data:=Data.seq #[] }).push { cls:=Value.type "StopIteration",data:=Data.fields (#[Value.ref s.heap.objs.size,Value.none,Value.none,Value.none,Value.bool false,Value.none]++ownMembersOf (Value.type "StopIteration") []) }).get? e=some oe:=Xf _ (Xf _ he);show wpAny _ _ (if (Value.ref e != Value.ref (s.heap.push { cls:=Value.type "tuple",data:=Data.seq #[] }).objs.size)=true then _ else _) _ _ _;rw[Xd hne];refine Xa (wpAny_holding (wpAny_runValue (codeAny_builtin Ie ?_)));show wpAny _ _ (field (.ref e) 2 >>= _) _ _ _;refine Xa (Jc he' hd h2 ?_);show wpAny _ _ (if (Value.none==Value.none)=true then _ else _) _ _ _;rw[Xd (by decide)];refine Xa (Xk ?_);refine Xk ?_;show wpAny _ _ (updateField (s.heap.push { cls:=Value.type "tuple",data:=Data.seq #[] }).objs.size 2 (.ref e) >>= _) _ _ _;refine Xa ?_;unfold updateField;refine Xa (wpAny_load (Xu _ rfl) ?_);show wpAny _ _ (if 2<(#[Value.ref s.heap.objs.size,Value.none,Value.none,Value.none,Value.bool false,Value.none]++ownMembersOf (Value.type "StopIteration") []).size then _ else _) _ _ _;rw[Xd (by rw[Array.size_append];show 2<6+_;omega)];refine wpAny_update (Xu _ rfl) (wpAny_throw ?_);refine Xa (wpAny_isInstance (T := "StopIteration") (b:=true) ⟨_,XX _ (Xu _ rfl) rfl,rfl⟩ isSubtype_stop ?_);refine Xk (hQ _ fun b o hb eb=>?_);have q:=Xf { cls:=Value.type "StopIteration",data:=Data.fields (#[Value.ref s.heap.objs.size,Value.none,Value.none,Value.none,Value.bool false,Value.none]++ownMembersOf (Value.type "StopIteration") []) } (Xf { cls:=Value.type "tuple",data:=Data.seq #[] } eb)
 rw[XM _ _ (fun z=>by
  have:=Xj eb
  have z':(s.heap.push { cls:=Value.type "tuple",data:=Data.seq #[] }).objs.size=b:=z;rw[hsz]at z';exact Xl this (by rw[<- z'];exact Nat.not_lt.mpr (Jd _)))]
 exact q
end
structure TurnX (X:Cx)(tg:Expr)(J:It)(fp:Qg)(it:Addr)(tn:Nat->Heap->Prop):Prop where
 mem:it∈fp
 obj:∀i h,tn i h->∀b∈fp,∃o,h.get? b=some o/\∀v,o.data≠.cell v
 keep:∀i h h',tn i h->(∀b∈fp,∀o,h.get? b=some o->h'.get? b=some o)->tn i h'
 item:∀(X':Cx),X'.prog=X.prog->X'.w=X.w->X'.K=X.K->X'.A=X.A->∀(i:Nat) (XaR:Qc) (s:Shared) (σ:St) (H:Hp) (E:Qb),Qq X' XaR σ H s->(∀b∈fp,VO X' XaR H b)->tn i s.heap->J.go i H ->
  wpAny (model X.prog X.w) X'.A (pyNext (.ref it)) (fun r s1=>∃u,r=some u /\
   wpAny (model X.prog X.w) X'.A (letOwnedTupleGo tg (.ref it) u) (fun _ s2=>∃x H',Qq X' XaR σ H' s2/\QJ x u/\J.yld i H x H'/\tn (i+1) s2.heap/\∀b∈fp,H' b=none) E s1) E s
 done:∀(X':Cx),X'.prog=X.prog->X'.w=X.w->X'.K=X.K->X'.A=X.A->∀(i:Nat) (XaR:Qc) (s:Shared) (σ:St) (H:Hp) (E:Qb),Qq X' XaR σ H s->(∀b∈fp,VO X' XaR H b)->tn i s.heap->J.stop i H ->
  wpAny (model X.prog X.w) X'.A (pyNext (.ref it)) (fun r s1=>r=none/\Qq X' XaR σ H s1) E s
 self:∀(A:Around) (i:Nat) (s:Shared) (Q:Qb) (E:Qb),tn i s.heap->Q (.ref it) s->wpAny (model X.prog X.w) A (pyIter (.ref it)) Q E s
def HY (X:Cx)(XaR:Qc)(σ:St)(tg:Expr)(R:It->Hp->Prop)(itv:Value)(s2:Shared):Prop :=
 ∃(it:Addr) (fp:Qg) (tn:Nat->Heap->Prop) (J:It) (H':Hp),itv=.ref it/\Qq X XaR σ H' s2/\TurnX X tg J fp it tn/\tn 0 s2.heap/\(∀b∈fp,VO X XaR H' b)/\R J H'
def PIH (X:Cx)(tg iter:Expr)(wi:TI):Prop :=
 ∀(XaR:Qc) (s:Shared) (σ:St) (H:Hp) (R:It->Hp->Prop),Qq X XaR σ H s->wi σ H R ->
  wpAny (model X.prog X.w) X.A (eval iter X.env) (fun v s1=>wpAny (model X.prog X.w) X.A (pyIter v) (HY X XaR σ tg R) X.xe s1) X.xe s
def Mb (C e:Addr)(lo:Int)(n:Nat):It where
 go:=(Itr lo n).go
 stop:=fun i H=>(Itr lo n).stop i H/\∃dct T,H e=some (.ext (phF C e dct T))
 yld:=(Itr lo n).yld
theorem E2 {X:Cx}{C e:Addr}{tg:Expr}(hh:X.A.handled=some (.ref e))(it:Addr)(lo:Int)(n:Nat):TurnX X tg (Mb C e lo n) [it] it (fun i h=>IsRangeIter h it (lo+(i:Nat)*1) ((n:Int)-(i:Nat)) 1) where
 mem:=by simp
 obj:=fun i h st b hb=>by
  have e:b=it:=by simpa using hb
  subst e;exact⟨_,st,fun v z=>by
   have z':Data.fields _=Data.cell v:=z
   cases z'⟩
 keep:=fun i h h' st k=>k it (by simp) _ st
 item:=by
  intro X' hP hw hK hA i XaR s σ H E I hf st hg;rw[<- hP,<- hw];obtain⟨f0,f1,f2,f3,f4,f5⟩:=hf it (by simp);have hg':i<n:=hg;refine wpAny_pyNext_range_item st (by omega) fun h' hit' hs'=>?_;have e1:lo+((i+1:Nat):Int)*1=lo+(i:Int)*1+1:=by push_cast;omega
  have e2:(n:Int)-((i+1:Nat):Int)=(n:Int)-(i:Int)-1:=by push_cast;omega
  have st':IsRangeIter h' it (lo+((i+1:Nat):Int)*1) ((n:Int)-((i+1:Nat):Int)) 1:=by rw[e1,e2];exact hit'
  refine⟨_,rfl,?_⟩;refine UX (n := "range_iterator") st' rfl rfl (by decide) ⟨.int (lo+i),H,I.turned (fun b o hb e=>(hs'.2 b hb).trans e) f0 f1 f3 f4 f5,?_,⟨rfl,rfl⟩,st',fun b hb=>(hf b hb).1⟩;have z:lo+(i:Int)=lo+(i:Int)*1:=by omega
  rw[z];exact⟨_,rfl⟩
 done:=by
  intro X' hP hw hK hA i XaR s σ H E I hf st hg;rw[<- hP,<- hw];obtain⟨f0,f1,f2,f3,f4,f5⟩:=hf it (by simp);obtain⟨hg,dct,T,he⟩:=hg;obtain⟨⟨vs,sl,hx,h1,h2⟩,_,_⟩:=I.hok e _ he;exact Ej (by rw[hA];exact hh) st (by have:n<=i:=hg;omega) hx rfl h2 fun h' eb=>⟨rfl,I.turned (t':=s.toks) (fun b o hb e=>eb b o hb e) f0 f1 f3 f4 f5⟩
 self:=fun _ _ _ _ _ st h=>wpAny_pyIter_rangeiter st h
section
variable {X:Cx}{tg:Expr}
def Kw (C e:Addr)(ta:TA):TI:=fun σ H R=>ta σ H fun vs H1=>∃j:Int,vs=[.int j] /\ -(2^62)<=j/\j<2^62/\R (Mb C e 0 j.toNat) H1
def Ai {C e:Addr}{XaR:Qc}{σ:St}{H:Hp}{s:Shared}{R:It->Hp->Prop}{E:Qb}{lo hi:Int}{t u v:Tok}{tk:Nat}(hh:X.A.handled=some (.ref e))(I:Qq X XaR σ H s)(h1 : -(2^62)<=lo)(h2:lo<2^62)(h3 : -(2^62)<=hi)(h4:hi<2^62)
 (q:R (Mb C e lo (hi-lo).toNat) H):wpAny (model X.prog X.w) X.A (pyIter (.ref s.heap.objs.size)) (HY X XaR σ tg R) E { s with heap:=s.heap.push { cls:=.type "range",data:=.fields #[.int lo t,.int hi u,.int 1 v] },toks:=tk }:=by
 refine wpAny_pyIter_range (IsRange.new ..) (small_one h1 h2 h3 h4) ?_;have I1:Qq X XaR σ H { s with heap:=s.heap.push { cls:=.type "range",data:=.fields #[.int lo t,.int hi u,.int 1 v] },toks:=tk }:=I.kept fun b o e=>Xf _ e
 refine⟨(s.heap.push { cls:=.type "range",data:=.fields #[.int lo t,.int hi u,.int 1 v] }).objs.size,[(s.heap.push { cls:=.type "range",data:=.fields #[.int lo t,.int hi u,.int 1 v] }).objs.size],_,_,H,rfl,
  I1.kept (t':=tk) fun b o e=>Xf _ e,E2 hh _ lo (hi-lo).toNat,?_,fun b hb=>?_,q⟩
 ·have e1:lo+((0:Nat):Int)*1=lo:=by simp
  have e2:(((hi-lo).toNat:Nat):Int)-((0:Nat):Int)=Builtin.Range.rangeSize lo hi 1:=by rw[rangeSize_one];split<;>omega
  show IsRangeIter _ _ (lo+((0:Nat):Int)*1) ((((hi-lo).toNat:Nat):Int)-((0:Nat):Int)) 1;rw[e1,e2];exact Xu _ rfl
 ·have e:b=(s.heap.push { cls:=.type "range",data:=.fields #[.int lo t,.int hi u,.int 1 v] }).objs.size:=by simpa using hb
  subst e;exact I1.fpOk (Xq _) (I1.hok.fresh (Xq _))
def RH {C e:Addr} {a:Expr} {ta:TA} {p pos:Pos} (hh:X.A.handled=some (.ref e)) (hg:Gl X "range") (hm:X.mg "range"=none) (ha:PA X [a] ta) (hs:starEach [a] X.env=[(false,eval a X.env)]:=by rfl):PIH X tg (.Call (.Name "range" p) [a] [] pos) (Kw C e ta):=by
 intro XaR s σ H R I h;refine Call_ (WH I hg hm boot_range (PyProof.Rows.callWith_type1 (Q6 (ha pos XaR s σ H _ I h) fun us s1 ⟨vs,H1,I1,r1,q1⟩=>?_) hs rfl));obtain⟨j,e,q1,q2,q⟩:=q1;subst e;cases r1 with
 |cons r rr =>
   cases rr
   obtain⟨t,rfl⟩:=r;exact call_range_1 (Ai hh I1 (by omega) (by omega) q1 q2 (by simpa using q))
end
section
variable {X:Cx}{XaR:Qc}{σ:St}{H2:Hp}{b8:Shared}
def T5 {tg iter elt:Expr}{ifs:Qi}{scope:Scope}{pos:Pos}{N:Qh}{f:List (Option Nat)}{g:CIn->TG}{tc:CIn->TT}{te:CIn->TE}{cl:List (Str×Addr)}
 (ck:CompOk X.N X.env.scope N f scope)
 (hg:∀c,PG (Zx X N scope c) tg (g c)) (ht:∀c,TgOk f (g c)) (hcs:∀c,PCs (Zx X N scope c) ifs (tc c)) (he:∀c,PE (Zx X N scope c) elt (te c))
 (I2:Qq X XaR σ H2 b8) {it:Addr} {fp:Qg} {tn:Nat->Heap->Prop} {J:It} (T:TurnX X tg J fp it tn) (st:tn 0 b8.heap) (f2:∀b∈fp,VO X XaR H2 b)
 {Q:VK} (hq:∀c:CIn,LCw f (g c) (tc c) (te c) σ J Q H2)
 (hcl1:∀x c,cl.lookup x=some c->X.env.cells.lookup x=some c) (hcl2:∀p∈scope.names,p.2=NameKind.free->∃c,cl.lookup p.1=some c)
 {RR:Value->Addr->Result->Shared->Prop} {E:Qb}
 (hRR:∀(acc C:Addr) (H':Hp) (s':Shared) (m':Str->Qf),s'.heap.Ns C m'->Qq X XaR σ H' s'->H' C=none->C≠X.env.locals->X.s₀.heap.objs.size<=C->(∀x c,X.env.cells.lookup x=some c->c≠C) ->
  (∀p∈X.pn++XaR,p.1≠C)->Q (.ref acc) H'->RR (.ref acc) C (.ok .next) s') :
 wpAny (model X.prog X.w) X.A (newList []) (fun acc bq=>wpAny (model X.prog X.w) X.A (newFunctionEnv scope X.env.globals cl [] X.env.qual none .none (some X.env)) (fun cenv c6 =>
  codeAny (model X.prog X.w) X.A (.compStart (.ListComp elt [⟨tg,iter,ifs,0⟩] scope pos) 0 (.ref it) acc { cenv with scope:=relabel scope X.env }) (RR acc cenv.locals) c6) E bq) E b8:=by
 refine wpAny_newObj_type (wpAny_newFunctionEnv ck.nocell (by intro y hy;simp at hy) (fun bj bz c5=>?_) ck.kind);dsimp only at bz c5 ⊢;have I3:Qq X XaR σ H2 { b8 with heap:=b8.heap.push (ZK [] 0) }:=I2.kept (t':=b8.toks) fun b u e=>Xf _ e;have hD:(b8.heap.push (ZK [] 0)).get? b8.heap.objs.size=some (ZK [] 0):=Xu _ rfl;generalize hs3:({ b8 with heap:=b8.heap.push (ZK [] 0) }:Shared)=bq at I3 bz c5 ⊢;have hp3:b8.heap.push (ZK [] 0)=bq.heap:=by rw[<- hs3]
 have hp3':b8.heap.push { cls:=.type "list",dict:=none,data:=.seq ([]:Qe).toArray }=bq.heap:=hp3;rw[hp3]at hD;simp only[hp3']at bz c5 ⊢;have sz3:b8.heap.objs.size<bq.heap.objs.size:=by rw[<- hp3,YG];exact X9 _
 have k3:∀b u,b8.heap.get? b=some u->bq.heap.get? b=some u:=fun b u e=>by rw[<- hp3];exact Xf _ e
 have k1:∀b u,bq.heap.get? b=some u->bj.get? b=some u:=fun b u e =>
  c5.extBut b u (Xm (Xj e)) (Xf _ e)
 have fpo:∀b∈fp,b<b8.heap.objs.size:=fun b hb=>by
  obtain⟨o,e,_⟩:=T.obj 0 _ st b hb;exact Xj e
 have st1:tn 0 bj:=T.keep _ _ _ st fun b hb o e=>k1 b o (k3 b o e);have fneC:∀b∈fp,b≠bq.heap.objs.size:=fun b hb=>Xm (Nat.lt_trans (fpo b hb) sz3);have fneD:∀b∈fp,b≠b8.heap.objs.size:=fun b hb=>Xm (fpo b hb)
 have cneD:∀x d,X.env.cells.lookup x=some d->d≠b8.heap.objs.size:=fun x d e=>by
  obtain⟨v,z⟩:=I2.cell x d e;exact Xm z.lt
 have pneD:∀p∈X.pn++XaR,p.1≠b8.heap.objs.size:=fun p hp=>Xm (Xj (I2.pin p hp).1);have freeD:H2 b8.heap.objs.size=none:=I2.fresh
 have stk:∀b,b≠X.env.locals->b∉X.fs->b∉frs X.stack:=fun b h1 h2 hb=>by
  rcases Xg.mp (I3.stkSub b hb) with z|z
  ·exact h1 z
  ·exact h2 z
 have exD:∀b,b∈b8.heap.objs.size::fp->b=b8.heap.objs.size\/b∈fp:=fun b hb=>Xg.mp hb
 let c:CIn:=⟨cl,bq.heap.objs.size,bq,H2,b8.heap.objs.size::fp,X.pn++XaR⟩
 have okX:(Zx X N scope c).Ok :=
  { mod:=I3.ok.mod
    kind:=ck.kind
    glob:=I3.ok.glob
    blt:=I3.ok.blt
    above:=Xq _
    inj:=fun x y d h1 h2=>I3.ok.inj x y d (hcl1 x d h1) (hcl1 y d h2)
    has:=fun x hx=>by
     rcases HM hx with z|z
     ·exact hcl2 (x,.free) (PySem.mem_of_lookup z) rfl
     ·exact Xl rfl (ck.nocell (x,.cell) (PySem.mem_of_lookup z))
    cab:=fun x d h=>Xl (show false=true from h) Xs
    hd:=I3.ok.hd
    frames:=I3.ok.frames
    stk:=.inl rfl
    exf:=fun b hb=>by
     rcases exD b hb with rfl|hb
     ·exact⟨Xm sz3,fun x d e=>cneD x d (hcl1 x d e)⟩
     ·exact⟨fneC b hb,fun x d e=>(f2 b hb).2.2.2.2.1 x d (hcl1 x d e)⟩
    bs:=fun b o e=>I3.bs b o e
    bsz:=X7 I3.ok.bsz I3.sz
    noex:=fun b o e hb=>by
     rcases exD b hb with rfl|hb
     ·exact Xl (Xj (I2.bk _ _ e)) (X5 _)
     ·rcases(f2 b hb).2.2.2.1 with z|z
      ·exact I3.ok.noex b o e z
      ·exact Xl (Xp (Xj (I3.ok.bs b o e).1) z) (X5 _)
    exfs:=fun b hb=>by
     rcases exD b hb with rfl|hb
     ·exact stk _ (XU I2.lt) (I2.nofs (Xq _))
     ·exact stk b (f2 b hb).2.1 (f2 b hb).2.2.1
    funs:=I3.stack
    frf:=I3.stkFree }
 have I4:Qq (Zx X N scope c) [(b8.heap.objs.size,ZK [] 0)] (ZM f σ) H2 { bq with heap:=bj,toks:=bq.toks+([]:List (Str×Value)).length } :=
  { ok:=okX
    os:=rfl
    bare:=I3.bare
    base:=Un.kept k1
    loc:=⟨_,bz,fun i x v e1 e2 e3=>by
     have hfi:∃j,f[i]?=some (some j)/\σ[j]?=some (some v):=by
      unfold ZM at e2;rw[Xt]at e2;cases ef:f[i]? with
      |none=>rw[ef]at e2;cases e2
      |some o =>
        rw[ef]at e2;cases o with
        |none=>cases e2
        |some j =>
          refine⟨j,rfl,?_⟩;have e2':(σ[j]?).join=some v:=Option.some.inj e2
          cases es:σ[j]? with
          |none=>rw[es]at e2';cases e2'
          |some o2 =>
            rw[es]at e2';have:o2=some v:=e2';rw[this]
     obtain⟨j,ef,es⟩:=hfi;obtain⟨x',n1,n2,n3⟩:=ck.ix i j ef
     have:x'=x:=Option.some.inj (n1.symm.trans e1)
     subst this;have hfr:=ck.free (x',.free) (PySem.mem_of_lookup n3) rfl;obtain⟨m0,hm0,hl0⟩:=I3.loc;obtain⟨u,ru,lk⟩:=hl0 j x' v n2 es (hfr.elim (fun z=>.inr (.inl z)) fun z=>.inr (.inr z));refine⟨u,ru,.inr ⟨HN n3,?_⟩⟩
     rcases lk with ⟨kl,_⟩|⟨_,d,ed,hd⟩
     ·have kl':X.env.scope.names.lookup x'=some .local:=kl
      rcases hfr with z|z
      ·rw[kl']at z;cases z
      ·rw[kl']at z;cases z
     ·obtain⟨d',ed'⟩:=hcl2 (x',.free) (PySem.mem_of_lookup n3) rfl
      have:d'=d:=Option.some.inj ((hcl1 x' d' ed').symm.trans ed)
      subst this;exact⟨d',ed',hd.keeps k1⟩⟩
    cell:=fun x d e=>by
     obtain⟨v,z⟩:=I3.cell x d (hcl1 x d e)
     exact⟨v,z.keeps k1⟩
    free:=I3.fresh
    freeC:=fun x d e=>I3.freeC x d (hcl1 x d e)
    pin:=fun p hp=>by
     rcases XH.mp (show p∈(X.pn++XaR)++[(b8.heap.objs.size,ZK [] 0)] from hp) with hp'|hp'
     ·obtain⟨e,n,ne,nf,d⟩:=I3.pin p hp'
      exact⟨k1 _ _ e,n,Xm (Xj e),stk p.1 ne nf,d⟩
     ·have z:p=(b8.heap.objs.size,ZK [] 0):=Xi.mp hp'
      subst z;exact⟨k1 _ _ hD,freeD,Xm sz3,stk _ (XU I2.lt) (I2.nofs (Xq _)),fun v z=>nomatch (show Data.seq _ _=Data.cell v from z)⟩
    hok:=I3.hok.kept k1
    len:=by
     show(ZM f σ).length=N.length
     unfold ZM;rw[Xn];exact ck.len }
 have back:∀{σ':St} {H':Hp} {s':Shared} {ps:Qc},Qq (Zx X N scope c) ps σ' H' s'->Qq X XaR σ H' s':=fun{σ' H' s' ps} J' =>
  I3.call' (ch:=b8.heap.objs.size::fp) J'.os J'.base J'.hok J'.bare fun b hb=>by
   rcases exD b hb with rfl|hb
   ·exact⟨.inr I2.sz,XU I2.lt,cneD,pneD⟩
   ·exact⟨(f2 b hb).2.2.2.1,(f2 b hb).2.1,(f2 b hb).2.2.2.2.1,(f2 b hb).2.2.2.2.2⟩
 have fpX:∀{H':Hp} {ob:Obj},(∀b∈fp,H' b=none)->∀b∈fp,VO (Zx X N scope c) [(b8.heap.objs.size,ob)] H' b:=fun{H' ob} hn b hb =>
  ⟨hn b hb,(okX.exf b (Xe _ hb)).1,okX.exfs b (Xe _ hb),.inl (Xe _ hb),(okX.exf b (Xe _ hb)).2,fun p hp=>by
   rcases XH.mp (show p∈(X.pn++XaR)++[(b8.heap.objs.size,ob)] from hp) with z|z
   ·exact(f2 b hb).2.2.2.2.2 p z
   ·have z:p=(b8.heap.objs.size,ob):=Xi.mp z
    subst z;exact(fneD b hb).symm⟩
 obtain⟨W,⟨m0,w0⟩,turn⟩:=hq c
 have loop:∀s,s=({ bq with heap:=bj,toks:=bq.toks+([]:List (Str×Value)).length }:Shared) ->
  codeAny (model X.prog X.w) X.A (.compLoop (.ListComp elt [⟨tg,iter,ifs,0⟩] scope pos) 0 (.ref it) (.ref b8.heap.objs.size) (compEnvC scope cl bq.heap.objs.size X.env)) (RR (.ref b8.heap.objs.size) bq.heap.objs.size) s:=by
  rintro s rfl
  refine S8 (fun n s'=>∃i H' ys its k,Qq (Zx X N scope c) [(b8.heap.objs.size,ZK its k)] (ZM f σ) H' s'/\QN ys its/\ys.length<=sizeLine/\tn i s'.heap/\(∀b∈fp,H' b=none)/\W i n ys H') ?_ m0 ⟨0,_,[],[],0,I4,.nil,XQ _,st1,fun b hb=>(f2 b hb).1,w0⟩
  rintro n s5 ⟨i,H5,ys,its,k,I5,rv5,hz5,st5,fr5,w5⟩
  rcases turn i n ys H5 w5 with ⟨stop,qn⟩|⟨go,step⟩
  ·refine Q6 (T.done (Zx X N scope c) rfl rfl rfl rfl i _ s5 (ZM f σ) H5 _ I5 (fpX fr5) st5 stop) fun r s6 ⟨hr,I6⟩=>?_
   subst hr;obtain⟨m6,hn6,_⟩:=id I6.loc;obtain⟨eD,nD,_⟩:=I6.pin (b8.heap.objs.size,ZK its k) (XB _ (Xi.mpr rfl));have I7:Qq X XaR σ (upd H5 b8.heap.objs.size (.lst ys)) s6:=(back I6).track nD I2.sz (XU I2.lt) cneD pneD ⟨hz5,its,k,rv5,eD⟩;refine hRR _ _ _ s6 m6 hn6 I7 (by rw[Qt (XU sz3)];exact I6.free) (XU I3.lt) I3.sz (fun x d e=>?_) (fun p hp=>?_) (qn _ nD)
   ·obtain⟨v,z⟩:=I3.cell x d e
    exact Xm z.lt
   ·exact Xm (Xj (I3.pin p hp).1)
  ·refine Q6 (T.item (Zx X N scope c) rfl rfl rfl rfl i _ s5 (ZM f σ) H5 _ I5 (fpX fr5) st5 go) fun r s6 ⟨u,hr,h6⟩=>?_
   subst hr;refine Q6 h6 fun _ s7 ⟨x,H7,I7,r7,y7,st7,fr7⟩=>?_;have I7':=I7.pinned (fpX fr7) (T.obj _ _ st7);refine Q6 (hg c _ s7 (ZM f σ) H7 x u _ I7' r7 ((ht c).keep _ _ _ _ (step x H7 y7))) fun _ s8 ⟨σ8,H8,I8,kp8,q8⟩=>?_
   have wk:∀(j:Nat) v,(ZM f σ)[j]?=some (some v)->σ8[j]?=some (some v):=fun j v e=>by
    have ef:∃k,f[j]?=some (some k):=by
     have e':=e;unfold ZM at e';rw[Xt]at e';cases q:f[j]? with
     |none=>rw[q]at e';cases e'
     |some o =>
       cases o with
       |none=>rw[q]at e';cases e'
       |some k=>exact⟨k,rfl⟩
    obtain⟨k,ef⟩:=ef;rw[kp8.2 j k ef];exact e
   have recs:∀{H9:Hp} {s9:Shared} {ob:Obj},Qq (Zx X N scope c) ([(b8.heap.objs.size,ob)]++Uy fp s7.heap) σ8 H9 s9->tn (i+1) s9.heap/\∀b∈fp,H9 b=none:=fun{H9 s9 ob} I9 =>
    ⟨T.keep _ _ _ st7 fun b hb o e=>(I9.pin (b,o) (XB _ (XB _ (U7 hb e)))).1,fun b hb=>by
     obtain⟨o,e,d⟩:=T.obj _ _ st7 b hb
     exact(I9.pin (b,o) (XB _ (XB _ (U7 hb e)))).2.1⟩
   refine Q6 (hcs c _ s8 σ8 H8 _ I8 q8) fun ok s9 ⟨H9,I9,q9⟩=>?_
   cases ok with
   |false =>
     obtain⟨m',hm,w9⟩:=(show ∃m',m'<n/\W (i+1) m' ys H9 from q9);obtain⟨z1,z2⟩:=recs I9
     exact⟨m',hm,i+1,H9,ys,its,k,(I9.unpinned).weak kp8.1.symm wk,rv5,hz5,z1,z2,w9⟩
   |true =>
     refine Q6 (he c _ s9 σ8 H9 _ I9 (show te c σ8 H9 _ from q9)) fun v s10 ⟨y,H10,I10,r10,hlen,m',hm,w10⟩=>?_;obtain⟨eD,nD,neD,nfD,dD⟩:=I10.pin (b8.heap.objs.size,ZK its k) (XB _ (JV _ (Xi.mpr rfl)));obtain⟨z1,z2⟩:=recs I10;have lv:=rv5.length;refine call_meets F.slot_list_append ⟨_,eD,rfl⟩ F.entry_list_append (F.args_list_append_2 _ _) (PySem.list_append b8.heap.objs.size its.toArray k v (by rw[Xv];omega)) ⟨eD,?_⟩;have q:=PySem.IsL.update eD (·.push v);have hf:its.toArray.push v=(its++[v]).toArray:=by simp
     rw[hf]at q;have I11:Qq (Zx X N scope c) [] σ8 H10 { s10 with heap:=s10.heap.update b8.heap.objs.size (Obj.mapSeq (·.push v)) } :=
      (I10.pins_of (pins':=[]) fun p hp=>Xl hp (by simp)).turned (t':=s10.toks) (it:=b8.heap.objs.size) (fun b o hb e=>(XM s10.heap (Obj.mapSeq (·.push v)) (Ne.symm hb)).trans e) nD neD (.inl Xc) (okX.exf _ Xc).2 fun p hp=>by
       have z:p∈(X.pn++XaR)++[]:=hp;rw[XG]at z;exact pneD p z
     have I12:Qq (Zx X N scope c) [(b8.heap.objs.size,ZK (its++[v]) _)] σ8 H10 { s10 with heap:=s10.heap.update b8.heap.objs.size (Obj.mapSeq (·.push v)) } :=
      I11.pins_of fun p hp=>by
       have z:p=(b8.heap.objs.size,_):=Xi.mp hp;subst z;exact⟨q,nD,neD,nfD,fun v z=>nomatch (show Data.seq _ _=Data.cell v from z)⟩
     refine⟨m',hm,i+1,H10,ys++[y],its++[v],_,I12.weak kp8.1.symm wk,rv5.append (.cons r10 .nil),by rw[Xo,BV];omega,?_,z2,w10⟩;exact T.keep _ _ _ z1 fun b hb o e=>(XM s10.heap (Obj.mapSeq (·.push v)) (fneD b hb).symm).trans e
 exact codeAny_compStart_list (loop _ (by rw[<- hs3])) (T.self _ 0 _ _ _ st1 (loop _ (by rw[<- hs3])))
def RJ {i:Nat}{x:Str}{px spos:Pos}{tg iter elt:Expr}{ifs:Qi}{scope:Scope}{pos:Pos}{NX:Qh}{sc:Scope}{N:Qh}{f:List (Option Nat)}{wi:TI}{g:CIn->TG}{tc:CIn->TT}{te:CIn->TE}
 (hN:X.N.Nodup) (hix:X.N[i]?=some x) (hx:X.env.scope.names.lookup x=some .local)
 (ck:Gr NX sc N f scope=true) (hNX:X.N=NX) (hsc:X.env.scope=sc) (hi:PIH X tg iter wi)
 (hg:∀c,PG (Zx X N scope c) tg (g c)) (ht:∀c,TgOk f (g c)) (hcs:∀c,PCs (Zx X N scope c) ifs (tc c)) (he:∀c,PE (Zx X N scope c) elt (te c))
 (hsw:swapsWith (.ListComp elt [⟨tg,iter,ifs,0⟩] scope pos) (some (.Name x px)) spos.line X.env=pure true)
 (hs:∀x,foldedSetIterable iter X.env x=pure x:=by intro _;rfl):PS X (.Assign [.Name x px] (.ListComp elt [⟨tg,iter,ifs,0⟩] scope pos) spos) (ZS (tLC f wi g tc te) (ZW i)):=by
 subst hNX hsc;intro XaR s σ H D I h;have ck':=DX ck;obtain⟨cl,hclos,hcl1,hcl2⟩:=Hu (scope:=scope) (env:=X.env) fun p hp hf=>I.ok.has p.1 (ck'.free p hp hf);rw[exec_Assign_Name_used _ _ _ _ hsw];refine Xa (wpAny_standAt (Xa ?_));show wpAny _ X.A (do let _ <- comprehension (.ListComp elt [⟨tg,iter,ifs,0⟩] scope pos) scope X.env _ (newList []) false (eval iter X.env) (some (assign (.Name x px) X.env))) _ _ s
 refine Xa (wpAny_mono (wpAny_comprehension_free (use:=some (assign (.Name x px) X.env)) (Q:=fun _ s'=>SP X XaR D .next s') rfl hs hclos ck'.kind ck'.names
  (Q6 (hi XaR s σ H _ I h) fun xv b9 bj=>Q6 bj fun itv b8 bv=>?_)) (fun _ s' hq=>Xk (Xk hq)) fun _ _ e=>e)
 obtain⟨it,fp,tn,J,H2,e,I2,T,st,f2,hq⟩:=bv;subst e;refine T5 (RR:=fun acc C=>compPost (model X.prog X.w) X.A X.xe (some (assign (.Name x px) X.env)) (fun _ s'=>SP X XaR D .next s') acc C) ck' hg ht hcs he I2 T st f2 hq hcl1 hcl2 ?_;intro acc C H' s' m' hn I' hC hL h0 h1 h2 q;show wpAny _ X.A (assign (.Name x px) X.env (.ref acc)) _ _ _;refine wpAny_assign_Name (DO I' hN hix (.inl hx) (v:=.ref acc) rfl (fun s'' I'' ⟨a,sb,ha⟩=>?_) (.inr hx))
 have nC:C≠a:=by
  rcases ha with z|z
  ·rw[z];exact hL
  ·exact(h1 _ _ z).symm
 refine⟨m',hn.sameBut sb nC,fun h'' hs''=>?_⟩
 exact⟨_,H',I''.turned (t':=s''.toks) (fun b o hb e=>(hs''.2 b hb).trans e) hC hL (.inr h0) h1 h2,q⟩
end
def UN (C:Addr)(f:Str)(ds:Qd)(e dx q:Addr):ZP where
 ok:=fun K F v=>v=.ref e/\(∃T,F e=some (.ext (phF C e (some dx) T)))/\F dx=some (.xd [(f,.ref q)])/\∃xs,F q=some (.lst xs)/\Qw F xs ds
 mono:=by
  rintro K F F' v s ⟨rfl,⟨T,h1⟩,h2,xs,h3,h4⟩
  exact⟨rfl,⟨T,s _ _ h1⟩,s _ _ h2,xs,s _ _ h3,h4.mono s⟩
section
variable {K:W.Frag}{ρ:Q5}{C:Addr}{f:Str}{th:Addr->TS}{tb:Ends->TS}{D:PEnds}{n i j:Nat}{ta:TE}{ds:Qd}{e dx q:Addr}
def W9.fz {F F' H:Hp}{p:Qg}(h:(W9 C f ds e dx q).ok K F H (.ref e) p)(s:Q4 F F')(he:∀b∈p,F' b=H b):(UN C f ds e dx q).ok K F' (.ref e):=by
 obtain⟨rfl,_,⟨T,h1⟩,h2,xs,h3,h4⟩:=h
 exact⟨rfl,⟨T,by rw[he _ (by simp)];exact h1⟩,by rw[he _ (by simp)];exact h2,xs,by rw[he _ (by simp)];exact h3,h4.mono s⟩
def QC.excz {H0 F H:Hp}{σ:St}(S:QC K H0 F ρ σ H)(h:ρ[i]?=some (some (.zow (UN C f ds e dx q)))):σ[i]?=some (some (.ref e))/\(∃T,F e=some (.ext (phF C e (some dx) T)))/\F dx=some (.xd [(f,.ref q)]):=by
 obtain⟨fp,g,_⟩:=S.fp;obtain⟨v,e1,_,rfl,h1,h2,_⟩:=g i _ h
 exact⟨e1,h1,h2⟩
def Tc {c:V}{cv:Value}{b:Bool}(h:ρ[i]?=some (some (.zow (UN C f ds e dx q))))(hc:GM c=some cv)(hk:W.kitOne K (.ref C) cv=some b):Qu K (tCB (Y0 K C) (QE (QD i) (QE (tC c) QO))) ρ (.bool b):=fun H0 F σ H Q S k=>by
 obtain⟨e1,⟨T,h1⟩,h2⟩:=S.excz h
 exact⟨.ref e,e1,.ref e,c,cv,b,rfl,hc,.inl ⟨e,dx,T,_,rfl,S.sub _ _ h1,S.sub _ _ h2,hk⟩,k F H _ (Q1.refl S.sub) (.bl b)⟩
def Ag {t:TA}{k:Int}(h:ρ[i]?=some (some (.zow (UN C f ds e dx q))))(ht:Z2 K t ρ [.fz (.int k)])(h1 : -(2^62)<=k)(h2:k<2^62):EvI K (Kw C e t) ρ (ZN 0 k.toNat):=fun H0 F σ H R S r =>
 ht H0 F σ H _ S fun F1 H1 vs x1 r1=>by
  cases r1 with
  |fz a b =>
    cases b
    cases a
    obtain⟨_,⟨T,g1⟩,_⟩:=(S.ext x1).excz h;refine⟨k,rfl,h1,h2,r F1 H1 _ x1 fun F2 H2 s1 s2=>⟨⟨?_,_,T,s2 _ _ (s1 _ _ g1)⟩,fun i d hd=>?_⟩⟩
    ·rw[W1];exact Xq _
    ·obtain⟨hi,rfl⟩:=Yw hd
     exact⟨hi,fun x H3 hy=>by
      obtain⟨rfl,rfl⟩:=hy
      exact⟨F2,Q1.refl s2,.int _⟩⟩
def QC.freezeZX {H0 F H:Hp}{σ:St}{i:Nat}{v:V}{Φ:OwnP}{Ψ:ZP}(s:QC K H0 F ρ σ H)(e:ρ[i]?=some (some (.own v Φ)))
 (hz:∀{F F' H:Hp} {p:Qg},Φ.ok K F H v p->Q4 F F'->(∀b∈p,F' b=H b)->Ψ.ok K F' v) :
 ∃p,(∀a∈p,F a=none/\H a≠none/\H0 a=none)/\QC K H0 (frF F H p) (ρ.set i (some (.zow Ψ))) σ H:=by
 obtain⟨kt,h1,h2,fp,h3,h4,h5⟩:=s;obtain⟨u,e1,rfl,ok⟩:=h3 i _ e;have hlt:=(Xh.mp e).1;have th:=fun a ha=>Φ.there ok a ha;have sm:Q4 F (frF F H (fp i)):=Wd fun a ha=>(th a ha).1;refine⟨fp i,fun a ha=>⟨(th a ha).1,(th a ha).2,(h5 i a ha).1⟩,kt.mono sm,Gx h1,by simp[h2],fun j=>if j=i then [] else fp j,fun j t' e'=>?_,fun j k b hb hc=>?_,fun j b hb=>?_⟩
 ·by_cases hj:j=i
  ·subst hj
   rw[Xr hlt]at e';cases e';refine⟨_,e1,?_,hz ok sm fun b hb=>YV hb⟩;dsimp only;rw[Xd rfl]
  ·rw[Xw (Ne.symm hj)]at e'
   obtain⟨u',f1,f2⟩:=h3 j t' e';refine⟨u',f1,?_⟩;dsimp only;rw[Xb hj];exact f2.frOther sm fun a ha z=>hj (h4 j i a ha z)
 ·by_cases hj:j=i
  ·simp[hj]at hb
  ·by_cases hk:k=i
   ·simp[hk]at hc
   ·simp only[Xb hj]at hb
    simp only[Xb hk]at hc;exact h4 j k b hb hc
 ·by_cases hj:j=i
  ·simp[hj]at hb
  ·simp only[Xb hj]at hb
   exact h5 j b hb
def FF {t:TE}{fs:Qd}(i:Nat)(h:ρ[i]?=some (some (.own (.ref e) (W9 C f ds e dx q))))(hf:Uv fs)(k:EvO K t (ρ.set i (some (.zow (UN C f ds e dx q)))) (.ol fs)):EvO K t ρ (.ol fs):=fun H0 F σ H Q S r=>by
 obtain⟨p,hp,S'⟩:=S.freezeZX h (fun a b c=>W9.fz a b c);refine k H0 _ σ H Q S' fun F' H' u pp x hpp ok=>?_;refine r _ H' u pp (G2 (fun a ha=>⟨(hp a ha).1,(hp a ha).2.1⟩) x) hpp (NC hf K F' _ H' u pp (fun a ha=>?_) ok)
 by_cases z:a∈p
 ·show(if a∈p then none else F' a)=none
  rw[Xd z]
 ·show(if a∈p then none else F' a)=none
  rw[Xb z];exact(ok.there a ha).1
def Co (Φx:Qd->Prop)(hj:j<n)(hth:∀ds e dx q,Φx ds->Q0 K (th e) ((List.replicate n none).set j (some (.own (.ref e) (W9 C f ds e dx q)))) { nx:=fun ρ'=>D.nx (ρ'.set j none),rt:=fun _=>False })
 (hz:∀(E:Ends) (F0 H0 F:Hp) (σ:St) (H:Hp),Q1 F0 H0 F H->QC K H0 F ρ σ H->(∀F' H' e dct ds,Φx ds->Q1 F H F' H'->H e=none->Fld f e F' H' H dct ds->∀(σ1:St) H'' T,σ1.length=n->Lefts C e dct H' H''->H'' T=none->T≠e->th e (Dh E j) (σ1.set j (some (.ref e))) (left C e dct T H''))->tb E E σ H):Q0 K (BX tb) ρ D:=fun F0 H0 F σ H E x S c=>by
 refine hz E F0 H0 F σ H x S fun F' H' e dct ds hds x' he fl σ1 H'' T hl hL hT hTe=>?_;obtain⟨dx,q,xs,rfl,fl⟩:=fl;have b1:H'' dx=some (.xd [(f,.ref q)]):=NZ hL fl.nd fl.hd;have b2:H'' q=some (.lst xs):=NZ hL fl.nq fl.hq;have nT1:dx≠T:=fun z=>by subst z;rw[hT]at b1;cases b1
 have nT2:q≠T:=fun z=>by subst z;rw[hT]at b2;cases b2
 have s1:Q4 H (left C e (some dx) T H''):=Ss (.step hL hT hTe) x'.hh he;have s2:Q4 F' (left C e (some dx) T H''):=Ss (.step hL hT hTe) x'.fh fl.fe;have o1:left C e (some dx) T H'' e=some (.ext (phF C e (some dx) T)):=by unfold left;rw[Qt (Ne.symm hTe),QA]
 have o2:left C e (some dx) T H'' dx=some (.xd [(f,.ref q)]):=by unfold left;rw[Qt nT1,Qt fl.nd];exact b1
 have o3:left C e (some dx) T H'' q=some (.lst xs):=by unfold left;rw[Qt nT2,Qt fl.nq];exact b2
 have X1:Q1 F0 H0 F' (left C e (some dx) T H''):=x.trans ⟨s1,x'.ff,s2,x'.fr⟩;have hj':j<σ1.length:=by omega
 refine hth ds e dx q hds F0 H0 F' (σ1.set j (some (.ref e))) _ (Dh E j) X1 ⟨S.kt.mono x'.ff,s2,by simp[hl],fun k=>if k=j then [e,dx,q] else [],fun k t ek=>?_,fun k l a ha hb=>?_,fun k a ha=>?_⟩ ⟨fun F4 σ4 H4 ρ4 x4 S4 q4=>c.nx F4 _ H4 _ x4 (S4.setN none) q4,fun _ _ _ _ _ _ _ _ z=>False.elim z,fun _ _ _ _ _ _ z=>False.elim z,fun _ _ _ _ _ _ z=>False.elim z⟩
 ·by_cases hk:k=j
  ·subst hk
   rw[Xr (by simpa using hj)]at ek;cases ek;refine⟨.ref e,Xr hj',?_⟩;dsimp only;rw[Xd rfl];exact⟨rfl,rfl,⟨fl.fe,fl.fd,fl.fq⟩,⟨T,o1⟩,o2,xs,o3,fl.rp⟩
  ·rw[Xw (Ne.symm hk),List.getElem?_replicate]at ek
   split at ek<;>cases ek
 ·by_cases hk:k=j
  ·by_cases hm:l=j
   ·omega
   ·simp[hm]at hb
  ·simp[hk]at ha
 ·dsimp only at ha
  by_cases hk:k=j
  ·rw[Xd hk]at ha
   rcases Xg.mp ha with rfl|ha
   ·exact⟨x.hh.free he,Z1 o1⟩
   ·rcases Xg.mp ha with rfl|ha
    ·exact⟨x.hh.free fl.d0,Z1 o2⟩
    ·rcases Xg.mp ha with rfl|ha
     ·exact⟨x.hh.free fl.q0,Z1 o3⟩
     ·cases ha
  ·simp[hk]at ha
end
def SW:TE:=fun _ _ _=>False
def La {X:Cx}{e:Expr}:PE X e SW:=fun _ _ _ _ _ _ h=>h.elim
section
variable {K:W.Frag}{ρ:Q5}{te:TE}{D:PEnds}{i j k:Nat}{Θ:Int->OT->Prop}{r:R2}{c:V}{Ψ:OT->Q5->Prop}
def Tg {s:TE->TS}(hw:EvW K te ρ i Θ)(hs:∀(H0 F:Hp) (σ:St) (H:Hp) (E:Ends),QC K H0 F ρ σ H->(∀Q:VK,(∀n H1,s (tC (.int n)) E σ H1->Q (.int n) H1)->te σ H Q)->s te E σ H)
 (hn:∀n o,Θ n o->EvR K (s (tC (.int n))) (ρ.set i (some o)) Ψ):EvR K (s te) ρ Ψ:=fun F0 H0 F σ H E x S c =>
 hs H0 F σ H E S fun Q hQ=>hw F0 H0 F σ H Q x S fun F' H' n o hΘ x' _ S'=>hQ n H' (hn n o hΘ F0 H0 F' σ H' E x' S' c)
def B1 (hw:EvW K te ρ i Θ)(hn:∀n o,Θ n o->D.nx ((ρ.set i (some o)).set j (some (.fz (.int n))))):Q0 K (ZS te (ZW j)) ρ D :=
 Gf (s:=fun x=>ZS x (ZW j)) hw (fun _ _ _ _ _ _ h=>h _ fun _ _ q=>q) fun n o h=>ZR Q8 (hn n o h)
def NO (hw:EvW K te ρ i Θ)(hn:∀n o,Θ n o->Q0 K (ZS (tOp r (tC c) (tC (.int n))) (ZW j)) (ρ.set i (some o)) D):Q0 K (ZS (tOp r (tC c) te) (ZW j)) ρ D :=
 Gf (s:=fun x=>ZS (tOp r (tC c) x) (ZW j)) hw (fun _ _ _ _ _ _ h=>h _ fun _ _ q=>q) hn
def FV {d:PyData}(ek:ρ[k]?=some (some (.fz d)))(hw:EvW K te ρ i Θ)(hn:∀n o,Θ n o->Q0 K (ZS (tOp r (QD k) (tC (.int n))) (ZW j)) (ρ.set i (some o)) D):Q0 K (ZS (tOp r (QD k) te) (ZW j)) ρ D :=
 Gf (s:=fun x=>ZS (tOp r (QD k) x) (ZW j)) hw (fun H0 F σ H E S h=>by
  obtain⟨fp,g,_⟩:=S.fp;obtain⟨v',e1,_⟩:=g k _ ek
  exact⟨v',e1,h _ fun n H1 ⟨v'',e2,q⟩=>by rw[e1]at e2;cases e2;exact q⟩) hn
def LL {g:TG}{b:TS}(hw:EvW K te ρ i Θ)(hn:∀n o,Θ n o->Q0 K (Uc (UV (QE (tOp r (tC c) (tC (.int n))) QO)) g b) (ρ.set i (some o)) D):Q0 K (Uc (UV (QE (tOp r (tC c) te) QO)) g b) ρ D :=
 Gf (s:=fun x=>Uc (UV (QE (tOp r (tC c) x) QO)) g b) hw (fun _ _ _ _ _ _ h=>h _ fun _ _ q=>q) hn
def Fo {b:Nat}{ds:Qd}{d:PyData}{r2:List V->Hp->VK->Prop}{r3:R2}(eb:ρ[b]?=some (some (.ol ds)))(ek:ρ[k]?=some (some (.fz d)))(hw:EvW K te ρ i Θ)
 (hn:∀n o,Θ n o->Q0 K (VF (tBM K "list" Yb (QD b) (QE (tOp r (QD k) (tCB r2 (QE (tOp r3 (tC (.int n)) (tC c)) QO))) QO))) (ρ.set i (some o)) D) :
 Q0 K (VF (tBM K "list" Yb (QD b) (QE (tOp r (QD k) (tCB r2 (QE (tOp r3 te (tC c)) QO))) QO))) ρ D :=
 Gf (s:=fun x=>VF (tBM K "list" Yb (QD b) (QE (tOp r (QD k) (tCB r2 (QE (tOp r3 x (tC c)) QO))) QO))) hw (fun H0 F σ H E S h=>by
  obtain⟨fp,g,_⟩:=S.fp;obtain⟨v',e1,_⟩:=g k _ ek;obtain⟨u,e2,a,rfl,_,_,xs,ha,_⟩:=g b _ eb;refine⟨.ref a,e2,.inl ⟨rfl,_,SqL.of ha⟩,v',e1,h _ fun n H1 ⟨u2,e3,_,v2,e4,q⟩=>?_⟩;rw[e2]at e3;cases e3;rw[e1]at e4;cases e4;exact q) hn
def Tz {a1 a2 a3 a4:Nat}{d1 d2 d3 d4:PyData}(e1:ρ[a1]?=some (some (.fz d1)))(e2:ρ[a2]?=some (some (.fz d2)))(e3:ρ[a3]?=some (some (.fz d3)))(e4:ρ[a4]?=some (some (.fz d4)))(hw:EvW K te ρ i Θ)
 (hn:∀n o,Θ n o->EvR K (Y2 (UQ (QE (QD a1) (QE (QD a2) (QE (QD a3) (QE (QD a4) (QE (tOp r (tC c) (tC (.int n))) QO))))))) (ρ.set i (some o)) Ψ) :
 EvR K (Y2 (UQ (QE (QD a1) (QE (QD a2) (QE (QD a3) (QE (QD a4) (QE (tOp r (tC c) te) QO))))))) ρ Ψ :=
 Tg (s:=fun x=>Y2 (UQ (QE (QD a1) (QE (QD a2) (QE (QD a3) (QE (QD a4) (QE (tOp r (tC c) x) QO))))))) hw (fun H0 F σ H E S h=>by
  obtain⟨fp,g,_⟩:=S.fp;obtain⟨v1,f1,_⟩:=g a1 _ e1;obtain⟨v2,f2,_⟩:=g a2 _ e2;obtain⟨v3,f3,_⟩:=g a3 _ e3;obtain⟨v4,f4,_⟩:=g a4 _ e4;refine⟨v1,f1,v2,f2,v3,f3,v4,f4,h _ fun n H1 ⟨u1,k1,u2,k2,u3,k3,u4,k4,q⟩=>?_⟩;rw[f1]at k1;cases k1;rw[f2]at k2;cases k2;rw[f3]at k3;cases k3;rw[f4]at k4;cases k4;exact q) hn
end
section
variable {prog:Program}{w:World}{A:Around}{E:Qb}{s:Shared}
theorem RY {it t:Addr}{items:Array Value}(hne:t≠it):∀(n i:Nat) (s:Shared) (Q:Qe->Shared->Prop),s.heap.IsListIter it t i->s.heap.IsList t items->i+n<=items.size ->
 (∀h',h'.IsListIter it t (i+n)->Heap.SameBut it s.heap h'->Q ((items.toList.drop i).take n) { s with heap:=h' })->wpAny (model prog w) A (draw (.ref it) n) Q E s
 |0,i,s,Q,hit,_,_,hQ=>by
   show wpAny _ _ (pure []) Q E s;exact Xk (by simpa using hQ s.heap hit (Heap.SameBut.refl ..))
 |n+1,i,s,Q,hit,ht,hle,hQ=>by
   have hlt:i<items.size:=by omega
   show wpAny _ _ (pyNext (.ref it) >>= _) Q E s;refine Xa (wpAny_pyNext_list_item hit ht (x:=items[i]) (by simp[hlt]) fun bj c9 bw=>?_);refine Xa (wpAny_holding (RY hne n (i+1) _ _ c9 (ht.extBut bw.extBut hne) (by omega) fun bv dk dv=>Xk ?_));have hd:items.toList.drop i=items[i]::items.toList.drop (i+1):=by simp[List.drop_eq_getElem_cons,hlt]
   have:=hQ bv (by rw[show i+(n+1)=i+1+n by omega];exact dk) (bw.trans dv)
   rw[hd,List.take_succ_cons]at this;exact this
def EN {t:Addr}{items:Array Value}{Q:Qe->Shared->Prop}(hh:A.handled=none)(ht:s.heap.IsList t items)
 (hQ:∀h',Heap.ExtBut s.heap.objs.size s.heap h'->Q items.toList { s with heap:=h' }):wpAny (model prog w) A (unpackItems (.ref t) items.size none) Q E s:=by
 have hlt:t≠s.heap.objs.size:=by obtain⟨o,ho,_⟩:=ht;exact Xm (Xj ho)
 unfold unpackItems;refine Xa ?_
 ·unfold notIterableAtAll
  refine Xa (wpAny_specialOf ht.typeIs F.slot_list_iter.lookup ?_);refine Xk ?_;simp only[XZ,if_false];refine Xa (wpAny_holding (wpAny_pyIter_list ht ?_));refine Xa (wpAny_holding (RY hlt items.size 0 _ _ ⟨_,Xu _ rfl,rfl,rfl⟩ (ht.push _) (by omega) fun bj c9 bw=>?_))
  have hall:List.take items.size (List.drop 0 items.toList)=items.toList:=by
   rw[List.drop_zero];exact List.take_of_length_le (by simp)
  rw[hall];rw[Xb (by simp)];have dw:bj.IsList t items:=(ht.push _).extBut bw.extBut hlt;refine Xa (wpAny_holding (wpAny_pyNext_list_end hh c9 dw (by simp) fun bv c8=>?_));simp only[Option.isSome_none,XZ,if_false];refine Xk (hQ bv fun b o hb e=>c8 b o hb (bw.extBut b o hb (Xf _ e)))
def Ez {env:Env}{elts:Qi}{x1}{pos:Pos}{t:Addr}{items:Array Value}{Q:Unit->Shared->Prop}(hh:A.handled=none)(ht:s.heap.IsList t items)
 (hn:(assignEach elts env).length=items.size) (hstar:(assignEach elts env).findIdx? (·.1)=none)
 (h:∀h',Heap.ExtBut s.heap.objs.size s.heap h'->wpAny (model prog w) A (assignInOrder ((assignEach elts env).map (·.2)) items.toList) Q E { s with heap:=h' }) :
 wpAny (model prog w) A (assign (.Tuple elts x1 pos) env (.ref t)) Q E s:=by
 rw[arm_assign_Tuple];refine Xa (wpAny_standAt ?_);unfold unpack;rw[hn,hstar];exact Xa (wpAny_holding (EN hh ht h))
end
section
variable {X:Cx}{pos:Pos}
def HW (K:W.Frag)(n:Nat)(t:TGs):TG:=fun v σ H Q=>∃a xs,v=.ref a/\SqL K H a xs/\xs.length=n/\t xs σ H Q
def Td {es:Qi}{k:Nat}{t:TGs}{n:Nat}(hc:X.calm=true)(h:PGs X es t)
 (hn:(assignEach es X.env).length=n:=by rfl) (hst:(assignEach es X.env).findIdx? (·.1)=none:=by rfl):PG X (.Tuple es k pos) (HW X.K n t):=by
 intro XaR s σ H v u Q I r hw;obtain⟨a,xs,e1,hq,hl,hw⟩:=hw;subst e1;cases r;obtain⟨its,rv,ht,hz⟩:=I.list hq;refine Ez (I.ok.hd hc) ht.isList (by simp[hn,<- hl,rv.length]) hst fun h' hx=>?_;have I1:Qq X XaR σ H { s with heap:=h' }:=I.kept (t':=s.toks) fun b o e=>hx b o (Xm (Xj e)) e;exact h XaR _ σ H xs _ Q I1 (by simpa using rv) hw
end
def Pg {K:W.Frag}{ρ:Q5}{n:Nat}{gs:TGs}{ds:Qd}{ρ1:Q5}(h:US K gs ds ρ ρ1)(hn:ds.length=n):GTo K (HW K n gs) (.list ds) ρ ρ1:=fun H0 F σ H x Q S r q=>by
 cases r with
 |@lst a xs _ h1 h2=>exact⟨a,xs,rfl,SqL.of (S.sub _ _ h1),by rw[h2.length,hn],h H0 F σ H xs Q S h2 q⟩
def Ky (X:Cx):List V->Hp->VK->Prop:=fun xs H Q=>∃(a:Addr) (p:Qm),xs=[.ref a]/\H a=some (.ext (phS X.w a p))/\Q (.int ((QV p).length:Int)) H
def Lc {X:Cx}:Zr X (.builtin "len") (Ky X):=by
 intro XaR s σ H xs us Q I r h;obtain⟨a,p,rfl,ha,q⟩:=h;obtain⟨u,rfl,ru⟩:=VP r
 cases ru
 obtain⟨⟨es,ep,y⟩,_,_⟩:=I.hok _ _ ha;have l8:=Ds p;have sz:=y.size;refine call_len_set y.at_ ⟨rfl,rfl,rfl⟩ rfl (by rw[sz];exact LO _ p) (by rw[sz];omega) ⟨.int ((QV p).length:Int),H,I.tok _,⟨_,by rw[sz]⟩,q⟩
def Av {K:W.Frag}{ρ:Q5}{ta:TE}{X X':Cx}{p:Qm}(h:Qu K ta ρ (.list (JZ p)))(hw:X'.w=X.w)(hc':X'.calm=true):Qu K (tCB (Ky X) (QE (tCB (Kv X') (QE ta QO)) QO)) ρ (.int ((QV p).length:Int)):=fun H0 F σ H Q S q =>
 h H0 F σ H _ S fun F1 H1 v x1 r1=>⟨hc',v,p,rfl,r1.mono x1.fh,fun a ha=>⟨a,p,rfl,by rw[hw];exact QA,q F1 _ _ (x1.trans (Q1.own x1.fh ha)) (.int _)⟩⟩
def SB {K:W.Frag}{ρ:Q5}{ta:TE}{t:TA}{ts:List OT}{R:Qd->List OT->(OT->Qd->Prop)->Prop}{Φ1 Φ:OT->Prop}{E':XK}(h:Zt K ta ρ Φ1)(hA:Z2 K t ρ ts)(hR:∀r,Φ1 r->∃ds Ψ,r=.ol ds/\R ds ts Ψ/\∀r ds',Ψ r ds'->Φ r) :
 Zt K (VI (spP K olP R) [] E' (QE ta t)) ρ Φ:=fun H0 F σ H Q S q =>
 h H0 F σ H _ S fun F1 H1 u p r0 hr0 x1 hp ok=>by
  obtain⟨ds,Ψ,rfl,hR,hn⟩:=hR r0 hr0;refine hA H0 F1 σ H1 _ (S.ext x1) fun F2 H2 vs x2 r2=>?_;have ok2:=ok.ext x2;obtain⟨a,rfl,rfl,ol⟩:=ok2;have x12:=x1.trans x2;have ha:H a=none:=hp a Xc;refine⟨F2,.ref a,vs++[],[a],ts,ds,Ψ,rfl,(S.ext x12).kt,x2.fh,by rw[XG];exact r2,⟨a,rfl,rfl,ol⟩,hR,fun F' H' p' N' v' r qq hr xn ok' sub sok hq=>?_⟩;refine q F' H' v' qq r (hn r N' hr) ⟨fun b o hb=>?_,x12.ff.trans xn.ff,xn.fh,fun b hb=>?_⟩ (fun b hb=>?_) sok
  ·refine xn.hh b o (fun z=>?_) (x12.hh b o hb)
   cases Xi.mp z
   rw[ha]at hb;cases hb
  ·rcases xn.fr b hb with z|z|z
   ·exact x12.fr b z
   ·exact .inr (x12.hh.free z)
   ·cases Xi.mp z;exact .inr ha
  ·rcases(hq b hb).1 with z|z
   ·cases Xi.mp z;exact ha
   ·exact x12.hh.free z
end L2
end
namespace L2
open PySem PySem.Spec PyProof.Rows
section
variable {prog:Program}{w:World}{A:Around}{E:Qb}{s:Shared}
end
section
variable {X:Cx}{e:Expr}{te:TE}{lo hi:Option Expr}{se:Expr}{tl th ts:TO}{pos p2:Pos}
end
section
variable {K:W.Frag}{ρ:Q5}{te:TE}
end
end L2
namespace Mir
section
variable {m:Nat}{w:Qn}{g:(Qm)->Int}
end
end Mir
namespace Mir
end Mir
section
namespace My
open PySem L2 Mir
local macro_rules | `(tactic| walk_at "d") => `(tactic| dsimp only [List.set])
local macro_rules | `(tactic| walk_at "e") => `(tactic| dsimp only [List.set,Jm,List.map,YW])
local macro_rules | `(tactic| walk_at "x") => `(tactic| try dsimp only [Te,FZ])
local macro_rules | `(tactic| walk_at "p") => `(tactic| exact ⟨rfl,rfl,rfl,by decide +kernel,rfl,by decide +kernel,by decide +kernel⟩)
local macro_rules | `(tactic| walk_at "j") => `(tactic| first | decide | omega)
def top (i:Nat):Stmt:=PySem.Challenge.pw_chargeyard_k60_let_in_or_refused.main.body.getD i (.Pass ⟨0,0,0,0⟩)
abbrev Ho:Stmt:=top 8
abbrev HJ:Stmt:=top 9
abbrev Hf:Stmt:=top 10
abbrev Hz:Stmt:=top 11
abbrev Hx:Stmt:=top 12
abbrev Hl:Stmt:=top 13
abbrev HF:Stmt:=top 14
abbrev Hj:Stmt:=top 15
abbrev Hv:Stmt:=top 16
abbrev DQ:Stmt:=top 17
abbrev Hi:Stmt:=top 18
abbrev DK:Stmt:=top 19
abbrev DY:Stmt:=top 20
abbrev Hd:Stmt:=top 21
abbrev HK:Stmt:=top 22
abbrev HI:Stmt:=top 27
abbrev Hg:Stmt:=top 28
abbrev He:Stmt:=top 29
abbrev Hw:Stmt:=top 30
abbrev HH:Stmt:=top 31
abbrev BN:Stmt:=top 34
abbrev BL:Stmt:=top 36
abbrev Hh:Stmt:=top 37
abbrev BH:Stmt:=top 38
abbrev BE:Stmt:=top 39
abbrev HB:Stmt:=top 42
abbrev HC:Stmt:=top 43
abbrev HD:Stmt:=top 47
abbrev Hb:Stmt:=top 48
abbrev HG:Stmt:=top 49
abbrev DZ:Stmt:=top 50
abbrev BF:Stmt:=top 51
abbrev Hy:Stmt:=top 52
abbrev BG:Stmt:=top 53
abbrev HE:Stmt:=top 54
abbrev BC:Stmt:=top 55
abbrev GD:Stmt:=top 56
abbrev HA:Stmt:=top 57
abbrev YT:Stmt:=top 58
abbrev UB:Stmt:=Vw (top 4) 0
abbrev U9:Stmt:=Vw (top 26) 0
abbrev J6:Stmt:=Vw (top 26) 1
abbrev JB:Stmt:=Vw (top 26) 2
abbrev JA:Stmt:=Vw (top 26) 4
abbrev WV:Stmt:=Vw (top 26) 5
abbrev J4:Stmt:=Vw (top 26) 6
abbrev JG:Stmt:=Vw (top 26) 7
abbrev UA:Stmt:=Vw (top 45) 0
abbrev J1:Stmt:=Vw (top 45) 1
abbrev JE:Stmt:=Vw (top 45) 2
abbrev J5:Stmt:=Vw (top 45) 5
abbrev JD:Stmt:=Vw (top 45) 6
abbrev WX:Stmt:=Vw (top 45) 8
abbrev WS:Stmt:=Vw (top 45) 9
abbrev JI:Stmt:=Vw (top 45) 10
abbrev JK:Stmt:=Vw (top 45) 11
abbrev JJ:Stmt:=Vw (top 45) 12
abbrev JL:Stmt:=Vw (top 45) 13
structure Bl (mg:Str->Qf):Prop where
 abs:mg "abs"=none
 len:mg "len"=none
 max:mg "max"=none
 min:mg "min"=none
 sum:mg "sum"=none
 any:mg "any"=none
 all:mg "all"=none
 isi:mg "isinstance"=none
 int:mg "int"=none
 bool:mg "bool"=none
 list:mg "list"=none
 tuple:mg "tuple"=none
 range:mg "range"=none
 zip:mg "zip"=none
 enumerate:mg "enumerate"=none
 sorted:mg "sorted"=none
 set:mg "set"=none
 ValueError:mg "ValueError"=none
structure Tx (K:W.Frag)(mg:Str->Qf)(C gS gE:Addr):Prop where
 net:NetC K C
 mSTART:mg "START"=some (.ref gS)
 mEND:mg "END"=some (.ref gE)
 aS:W.nsIn K mainGlobals "START"=some (some (.ref gS))
 aE:W.nsIn K mainGlobals "END"=some (some (.ref gE))
def upD:Option Nat->PyData
 |none=>.none
 |some a=>.int (a:Int)
def V4 (l:Ln):PyData:=.tuple [upD l.up,.tuple (l.bs.map PyData.int)]
def QW (y:Yd):PyData:=.tuple [.int (y.T:Int),.tuple (y.ls.map V4)]
def QX (l:Qk):Qd:=l.map fun(j:Nat)=>PyData.int (j:Int)
def cdl {i j:Int}(h1:0<j)(h2:j<=10^60):Ui i j:=⟨h1,Int.lt_of_le_of_lt h2 (by decide +kernel)⟩
def GO {j:Int}(h0:0<=j)(h1:j<=1000000):Km 10 j:=⟨h0,h1,by decide⟩
def z60:(10:Int)^60=1000000000000000000000000000000000000000000000000000000000000:=by decide +kernel
def BW {i j:Int}(h1:0<j)(h2:j<=1000000000000000000000000000000000000000000000000000000000000):Ui i j:=cdl h1 (by rw[z60];exact h2)
def Pe {α:Type} [Inhabited α] {f:α->PyData}{xs:List α}{k:Int}(h0:0<=k)(h1:k<(xs.length:Int)):atI (xs.map f) k=some (f (xs.getD k.toNat default)):=by
 have h:k.toNat<xs.length:=by omega
 have e:(xs.map f)[k.toNat]?=some (f (xs.getD k.toNat default)):=by simp[h]
 have e2:=Ya e
 rwa [X8 h0]at e2
def Nw {xs:Ql}{k:Int}(h0:0<=k)(h1:k<(xs.length:Int)):atI (xs.map PyData.int) k=some (.int (xs.getD k.toNat 0)):=by
 have h:k.toNat<xs.length:=by omega
 have e:(xs.map PyData.int)[k.toNat]?=some (.int (xs.getD k.toNat 0)):=by simp[h]
 have e2:=Ya e
 rwa [X8 h0]at e2
def Ps {xs:Ql}{k:Int}(h0:0<=k)(h1:k<(xs.length:Int)):atI xs k=some (xs.getD k.toNat 0):=by
 have h:k.toNat<xs.length:=by omega
 have e:xs[k.toNat]?=some (xs.getD k.toNat 0):=by simp[h]
 have e2:=Ya e
 rwa [X8 h0]at e2
def Uq {f:Nat->PyData}{n:Nat}{k:Int}(h0:0<=k)(h1:k<(n:Int)):atI ((List.range n).map f) k=some (f k.toNat):=by
 have h:k.toNat<n:=by omega
 have e:((List.range n).map f)[k.toNat]?=some (f k.toNat):=by simp[h]
 have e2:=Ya e
 rwa [X8 h0]at e2
def GX {n:Nat}{k:Int}(h0:0<=k)(h1:k<(n:Int)):ixN n k=some k.toNat:=by
 unfold ixN;rw[Xd h0,Xd h1]
instance:Inhabited Ln:=⟨⟨none,[]⟩⟩
def QM (g:Gs):PyData:=.tuple [.int (g.line:Int),.int (g.first:Int),.int (g.last:Int),.int g.want,.int g.most]
instance:Inhabited Gs:=⟨⟨0,0,0,1,1⟩⟩
def Sz {ds:Qd}{m:Nat}(h:∀d∈ds,d.canLay0=true/\d.depth<=m):PyData.canLayAll0 ds=true/\PyData.depthAll ds<=m:=by
 induction ds with
 |nil=>exact⟨rfl,XQ _⟩
 |cons d ds ih =>
   obtain⟨a,b⟩:=h d Xc;obtain⟨c,e⟩:=ih fun x hx=>h x (Xe _ hx);refine⟨by rw[PyData.canLayAll0,a,c];rfl,?_⟩;rw[PyData.depthAll];omega
def V8 (m:Nat)(d:PyData):Prop:=d.canLay0=true/\d.depth<=m
def V8.fine {m:Nat}{d:PyData}(h:V8 m d)(hm:m<=60):V1 d:=⟨h.1,X7 h.2 hm⟩
def B4 {ds:Qd}{m:Nat}(h:∀d∈ds,V8 m d):V8 (m+1) (.tuple ds):=by
 obtain⟨a,b⟩:=Sz h;refine⟨by rw[PyData.canLay0];exact a,?_⟩;rw[PyData.depth];omega
def Bq {ds:Qd}{m:Nat}(h:∀d∈ds,V8 m d):V8 (m+1) (.list ds):=by
 obtain⟨a,b⟩:=Sz h;refine⟨by rw[PyData.canLay0];exact a,?_⟩;rw[PyData.depth];omega
def Bj (i:Int)(m:Nat):V8 m (.int i):=⟨rfl,XQ _⟩
def MU {α:Type}{f:α->PyData}{xs:List α}{m:Nat}(h:∀x,V8 m (f x)):∀d∈xs.map f,V8 m d:=fun d hd=>by
 obtain⟨x,_,rfl⟩:=X4.mp hd;exact h x
def Gh {m:Nat}:∀d∈([]:Qd),V8 m d:=fun d hd=>(nomatch hd)
def Ju {m:Nat}{d:PyData}{ds:Qd}(h:V8 m d)(h2:∀d∈ds,V8 m d):∀x∈d::ds,V8 m x:=fun x hx=>by
 rcases Xg.mp hx with rfl|hx
 ·exact h
 ·exact h2 x hx
def Pv (o:Option Nat)(m:Nat):V8 m (upD o):=by cases o<;>exact⟨rfl,XQ _⟩
def Pq (l:Ln):V8 2 (V4 l):=B4 (Ju (Pv _ _) (Ju (B4 (m:=0) (MU fun i=>Bj i 0)) Gh))
def Pi (y:Yd):V8 4 (QW y):=B4 (Ju (Bj _ _) (Ju (B4 (MU Pq)) Gh))
def LN (l:Qk):V8 1 (.list (QX l)):=Bq (MU fun j=>Bj _ 0)
def Bg (y:Yd):V1 (QW y):=(Pi y).fine (by decide)
def D2 (l:Qk):V1 (.list (QX l)):=(LN l).fine (by decide)
def Bp:V1 (.list []):=(Bq (m:=0) Gh).fine (by decide)
def Mq (w:String):Lean.MacroM (Lean.TSyntax `tactic):=do
 let n:=Lean.mkIdent (w.drop 1).toString.toName
 match w.front with
 |'@' => `(tactic| with_reducible apply $n)
 |'!' => `(tactic| with_reducible exact $n)
 |'~' => `(tactic| apply $n)
 |_ => `(tactic| walk_at $(Lean.Syntax.mkStrLit w))
def V0 (s:String):Lean.MacroM (Lean.TSyntax `tactic):=do
 let l ← (s.splitOn "|").mapM fun a=>do
  match a.splitOn "<" with
  |[x,z] => `(tactic| ($(← Mq x):tactic <;> $(← Mq z):tactic))
  |_ =>
    let ts ← (a.splitOn " ").mapM Mq
    `(tactic| ($[$ts.toArray:tactic];*))
 `(tactic| first $[| $l.toArray:tactic]*)
local macro_rules | `(tactic| walk_at "rfl") => `(tactic| rfl)
local macro_rules | `(tactic| walk_at "hc") => `(tactic| intro hc)
local macro_rules | `(tactic| walk_at "ls") => `(tactic| dsimp only [List.set])
local macro_rules | `(tactic| walk_at "om") => `(tactic| first | lia | omega)
local macro_rules | `(tactic| walk_at "asm") => `(tactic| with_reducible assumption)
local macro_rules | `(tactic| walk_at "ble") => `(tactic| first | with_reducible rfl | decide | exact Nat.le_of_ble_eq_true rfl)
local macro_rules | `(tactic| walk_at "smo") => `(tactic| (focus (simp; (first | done | walk_at "om"))))
local macro_rules | `(tactic| walk_at "dso") => `(tactic| (focus (dsimp only; walk_at "om")))
local macro_rules | `(tactic| walk_at "r4") => `(tactic| (refine ⟨?_,?_,?_,?_⟩ <;> walk_at "r62"))
local macro_rules | `(tactic| walk_at "r62") => `(tactic| (rw [z62]; walk_at "side"))
local macro_rules | `(tactic| walk_at "ss") => `(tactic| repeat walk_at "s1")
local macro_rules | `(tactic| walk_at "call") => `(tactic| (constructor <;> walk_at "side"))
local macro_rules | `(tactic| walk_at "rg") => `(tactic| first | with_reducible rfl | (apply W0 <;> walk_at "rs") | (apply R8 <;> walk_at "rs"))
local macro_rules | `(tactic| walk_at "rs")=>V0 "om|smo"
local macro_rules | `(tactic| walk_at "side")=>V0 "om|asm|ble|smo"
local macro_rules | `(tactic| walk_at "arith")=>V0 "om|asm|ble|smo"
local macro_rules | `(tactic| walk_at "ev")=>V0 "@Qr rfl|!Q8|!UU|!Gd|!Y7|@ZG ev ev|@Yj ev ev|@ZO ev ev cond|@SU ev|@Ga ev ev|@Gc ev ev|@KI ev|@Gq ev ev ev|@Gb ev hc ev|@Kz ev|@Uo rfl ev item|@Pd rfl ev item|@Y5 evd ev item|@VL evd ev item|@Wt eas side|@Zd ea call|@Pm ea call|@KN ev ev|@ME ev ev|@KH ev|@Wu ev rfl|@P1 rfl|@Pk rfl|@Bh evd|@Y6 evd|@MH rfl|@K1 ev ev fine fine|@Jr ev ev fine fine|@GV ev rfl|@EvO.fz eo"
local macro_rules | `(tactic| walk_at "evd")=>V0 "~Qr rfl|ev|@EvO.fz eo"
local macro_rules | `(tactic| walk_at "ea")=>V0 "!Q9|@GU rfl ea|@Qv ev ea"
local macro_rules | `(tactic| walk_at "eas")=>V0 "~ZC|~QZ ev eas"
local macro_rules | `(tactic| walk_at "eo")=>V0 "@Vd eas side|@ML ea call|@NJ ev rfl side|@Nv evd|@GW evd evd side"
local macro_rules | `(tactic| walk_at "et")=>V0 "!Ke|@ZB ev|@ZH ev|@UZ et hc et|@YN et hc et|@VY et"
local macro_rules | `(tactic| walk_at "g")=>V0 "!Zw|!Up|@VZ g g|@Ue g rfl|~Ue g rfl"
local macro_rules | `(tactic| walk_at "ei")=>V0 "@Yy ea r62 r62|@Dr ea r4|@PY ea r4|@MI ea|@Wy evd|@KG evd"
local macro_rules | `(tactic| walk_at "s1")=>V0 "@QF s1|@VM eo ls|@ZR ev ls|@M5 ev g ls|@U6 rfl ev side ls|@Bm rfl ev ev item ls"
local macro_rules | `(tactic| walk_at "ret")=>V0 "@MV rfl|@ZQ evd|@Js eo"
local macro_rules | `(tactic| walk_at "if")=>V0 "@QF if|@Zz et"
local macro_rules | `(tactic| walk_at "eir")=>V0 "~EvI.cast ei rg"
local macro_rules | `(tactic| walk_at "item")=>V0 "rfl|asm|@Nw<arith|@Ps<arith|@Uq<arith|@GX<arith|~Pe<arith"
local macro_rules | `(tactic| walk_at "cond")=>V0 "asm|@BW<om|@GO<om|om|dso"
local macro_rules | `(tactic| walk_at "fine")=>V0 "~Bg|~D2|~Bp"
section
variable {P:Program}{w:World}{K:W.Frag}{mg:Str->Qf}{base:Heap}{C gS gE YR CR fR CH cg ct:Addr}
inductive R_cell:List OT->OT->Prop
 |mk {ns:Ql} {k:Int} (h:0<=k):R_cell [.scr ns,.fz (.int k)] (.fz (.int (Yp ns k)))
def Ii:Qp Zax Zax (Qy HD):=by walk_at"p"
def Lo (T:Bl mg) (D:Df K mg "_law_cell_at" HD Zax):QB P w K mg base "_law_cell_at" Zax 1 (QL (K:=K) R_cell):=by
 refine D.ev Ii (fun ts r h=>by cases h;rfl) (fun _ _ _ _ s H E ts r hr h=>?_)
 cases h with
 |@mk ns k h0 =>
   refine⟨_,(Q7 (Z0 (ZF WB (pv 1) (Zg Vx (by rfl) T.len Vm (Qo (pv 0) Qs)) (ZA _)) (Q3 (QQ (QH QI (pv 0) (pv 1)))) Z4)
 (Q3 (QQ Qx))),?_⟩
   show Q0 K _ [some _,some _] _
   walk_at"x"
   walk_at"if"
   ·
    intro c;have c:=XV c
    walk_at"ret"
    rfl
   ·
    intro c;have c:=UF c;refine Z7 ?_
    walk_at"ret"
    have e:Yp ns k=0:=by
     have:ns.length<=k.toNat:=by omega
     simp[Yp,List.getD,this]
    rw[e]
def ZV (y:Yd)(k:Nat):Ln:=y.ls.getD k default
def upN (y:Yd)(k:Nat):Nat:=(Zf y k).getD 0
def DU {y:Yd}{k:Nat}(h:k<y.ls.length):Zf y k=(ZV y k).up:=by simp[Zf,ZV,h]
def Hn {y:Yd}{k t:Nat}(h:k<y.ls.length):Zy y k t=(ZV y k).bs.getD t 0:=by simp[Zy,ZV,h]
def DC {y:Yd}(ok:y.Ok){k:Nat}(h:k<y.ls.length):(ZV y k).bs.length=y.T:=ok.bl _ (by simp[ZV,h])
inductive R_turns:List OT->OT->Prop
 |mk {y:Yd}:R_turns [.fz (QW y)] (.fz (.int (y.T:Int)))
def EO:Qp ZaG ZaG (Qy Hl):=by walk_at"p"
def Fu (T:Bl mg) (D:Df K mg "turns_of" Hl ZaG):QB P w K mg base "turns_of" ZaG 1 (QL (K:=K) R_turns):=by
 refine D.ev EO (fun ts r h=>by cases h;rfl) (fun _ _ _ _ s H E ts r hr h=>?_)
 cases h with
 |@mk y =>
   refine⟨_,(Q3 (QQ (QH QI (pv 0) Qx))),?_⟩;show Q0 K _ [some _] _
   walk_at"x"
   walk_at"ret"
   rfl
inductive R_count:List OT->OT->Prop
 |mk {y:Yd}:R_count [.fz (QW y)] (.fz (.int (y.ls.length:Int)))
def Il:Qp ZaG ZaG (Qy HF):=by walk_at"p"
def Cn (T:Bl mg) (D:Df K mg "line_count" HF ZaG):QB P w K mg base "line_count" ZaG 1 (QL (K:=K) R_count):=by
 refine D.ev Il (fun ts r h=>by cases h;rfl) (fun _ _ _ _ s H E ts r hr h=>?_)
 cases h with
 |@mk y =>
   refine⟨_,(Q3 (QQ (Zg Vx (by rfl) T.len Vm (Qo (QH QI (pv 0) Qx) Qs)))),?_⟩;show Q0 K _ [some _] _
   walk_at"x"
   walk_at"ret"
   show _=_;rw[Xn]
inductive R_above:List OT->OT->Prop
 |mk {y:Yd} {k:Int} (ok:y.Ok) (h0:0<k) (h1:k<(y.ls.length:Int)):R_above [.fz (QW y),.fz (.int k)] (.fz (.int (upN y k.toNat:Int)))
 |zero {y:Yd} (ok:y.Ok):R_above [.fz (QW y),.fz (.int 0)] (.fz .none)
def EM:Qp ZaH ZaH (Qy Hj):=by walk_at"p"
def Fz (T:Bl mg) (D:Df K mg "above_of" Hj ZaH):QB P w K mg base "above_of" ZaH 1 (QL (K:=K) R_above):=by
 refine D.ev EM (fun ts r h=>by cases h<;>rfl) (fun _ _ _ _ s H E ts r hr h=>?_)
 cases h with
 |@mk y k ok h0 h1 =>
   refine⟨_,(Q3 (QQ (QH QI (QH QI (QH QI (pv 0) Qx) (pv 1)) Qx))),?_⟩;show Q0 K _ [some _,some _] _
   walk_at"x"
   walk_at"ret"
   obtain⟨a,e,l⟩:=ok.ups k.toNat (by omega) (by omega);have e2:(ZV y k.toNat).up=some a:=by rw[<- DU (by omega)];exact e
   show OT.fz (upD (ZV y k.toNat).up)=_;rw[e2];simp[upN,e,upD]
 |@zero y ok =>
   refine⟨_,(Q3 (QQ (QH QI (QH QI (QH QI (pv 0) Qx) (pv 1)) Qx))),?_⟩;show Q0 K _ [some _,some _] _
   walk_at"x"
   have l1:=ok.l1
   walk_at"ret"
   have e2:(ZV y 0).up=none:=by rw[<- DU (by omega)];exact ok.up0
   show OT.fz (upD (ZV y 0).up)=_;rw[e2];rfl
inductive R_bound:List OT->OT->Prop
 |mk {y:Yd} {k t:Int} (ok:y.Ok) (h0:0<=k) (h1:k<(y.ls.length:Int)) (h2:0<=t) (h3:t<(y.T:Int)):R_bound [.fz (QW y),.fz (.int k),.fz (.int t)] (.fz (.int (Zy y k.toNat t.toNat)))
def EI:Qp Zar Zar (Qy Hv):=by walk_at"p"
def Fb (T:Bl mg) (D:Df K mg "bound_at" Hv Zar):QB P w K mg base "bound_at" Zar 1 (QL (K:=K) R_bound):=by
 refine D.ev EI (fun ts r h=>by cases h;rfl) (fun _ _ _ _ s H E ts r hr h=>?_)
 cases h with
 |@mk y k t ok h0 h1 h2 h3 =>
   refine⟨_,(Q3 (QQ (QH QI (QH QI (QH QI (QH QI (pv 0) Qx) (pv 1)) Qx) (pv 2)))),?_⟩;show Q0 K _ [some _,some _,some _] _
   walk_at"x"
   have hl:(y.ls.getD k.toNat default).bs.length=y.T:=DC ok (by omega)
   walk_at"ret"
   show _=_;rw[Hn (by omega)];rfl
inductive R_lineof:List OT->OT->Prop
 |mk {g:Gs}:R_lineof [.fz (QM g)] (.fz (.int (g.line:Int)))
def Ec:Qp Zav Zav (Qy DQ):=by walk_at"p"
def Cu (T:Bl mg) (D:Df K mg "line_of" DQ Zav):QB P w K mg base "line_of" Zav 1 (QL (K:=K) R_lineof):=by
 refine D.ev Ec (fun ts r h=>by cases h;rfl) (fun _ _ _ _ s H E ts r hr h=>?_)
 cases h with
 |@mk g =>
   refine⟨_,(Q3 (QQ (QH QI (pv 0) Qx))),?_⟩;show Q0 K _ [some _] _
   walk_at"x"
   walk_at"ret"
   rfl
inductive R_there:List OT->OT->Prop
 |mk {g:Gs} {t:Int}:R_there [.fz (QM g),.fz (.int t)] (.fz (.bool (Wg g t)))
def EG:Qp Zan Zan (Qy Hi):=by walk_at"p"
def F6 (T:Bl mg) (D:Df K mg "is_there" Hi Zan):QB P w K mg base "is_there" Zan 1 (QL (K:=K) R_there):=by
 refine D.ev EG (fun ts r h=>by cases h;rfl) (fun _ _ _ _ s H E ts r hr h=>?_)
 cases h with
 |@mk g t =>
   refine⟨_,(Q3 (QQ (Ra Ug Ug (QH QI (pv 0) Qx) (pv 1) (QH QI (pv 0) Qx)))),?_⟩;show Q0 K _ [some _,some _] _
   walk_at"x"
   walk_at"ret"
   rfl
inductive R_most:List OT->OT->Prop
 |mk {g:Gs}:R_most [.fz (QM g)] (.fz (.int g.most))
def AZ:Qp Zav Zav (Qy DY):=by walk_at"p"
def Ty (T:Bl mg) (D:Df K mg "most_of" DY Zav):QB P w K mg base "most_of" Zav 1 (QL (K:=K) R_most):=by
 refine D.ev AZ (fun ts r h=>by cases h;rfl) (fun _ _ _ _ s H E ts r hr h=>?_)
 cases h with
 |@mk g =>
   refine⟨_,(Q3 (QQ (QH QI (pv 0) Qx))),?_⟩;show Q0 K _ [some _] _
   walk_at"x"
   walk_at"ret"
   rfl
inductive R_want:List OT->OT->Prop
 |mk {g:Gs}:R_want [.fz (QM g)] (.fz (.int g.want))
def En:Qp Zav Zav (Qy DK):=by walk_at"p"
def Lv (T:Bl mg) (D:Df K mg "want_of" DK Zav):QB P w K mg base "want_of" Zav 1 (QL (K:=K) R_want):=by
 refine D.ev En (fun ts r h=>by cases h;rfl) (fun _ _ _ _ s H E ts r hr h=>?_)
 cases h with
 |@mk g =>
   refine⟨_,(Q3 (QQ (QH QI (pv 0) Qx))),?_⟩;show Q0 K _ [some _] _
   walk_at"x"
   walk_at"ret"
   rfl
structure SetOk (gs:List Gs)(some:Qk):Prop where
 mem:∀k∈some,k<gs.length
 len:some.length<=8
def Wa (gs:List Gs)(t:Nat)(sm:Qk):Qn:=fun l=>Z3 gs (t:Int) l sm
def Ur (y:Yd)(gs:List Gs)(sm:Qk)(t:Nat):Ql:=(List.range y.ls.length).map fun l=>V2 y (fun k=>Zy y k t) (Wa gs t sm) l
inductive R_reaching:List OT->OT->Prop
 |mk {y:Yd} {gs:List Gs} {sm:Qk} {t:Int} (ok:y.Ok) (hg:∀g∈gs,g.Ok y) (hs:SetOk gs sm) (h0:0<=t) (h1:t<(y.T:Int)) :
  R_reaching [.fz (QW y),.fz (.list (gs.map QM)),.fz (.list (QX sm)),.fz (.int t)] (.ol ((Ur y gs sm t.toNat).map PyData.int))
def Gp {n j:Nat}{f g:Qn}(hj:j<n)(e1:∀l,l<n->l≠j->g l=f l){v:Int}(e2:g j=v) :
 (((List.range n).map fun l=>PyData.int (f l)).set j (.int v))=(List.range n).map fun l=>PyData.int (g l):=by
 apply List.ext_getElem?
 intro i;by_cases hi:i=j
 ·subst hi
  rw[Xr (by simpa using hj)];simp[hj,e2]
 ·rw[Xw (Ne.symm hi)]
  by_cases h:i<n
  ·simp[h,e1 i h hi]
  ·simp[h]
def GE:Qp Zay Zae (Qy BL):=by walk_at"p"
def EE (T:Bl mg) (D:Df K mg "reaching_at" BL Zae) (XaW:QB P w K mg base "line_count" ZaG 1 (QL (K:=K) R_count)) (Xa4:QB P w K mg base "is_there" Zan 1 (QL (K:=K) R_there))
 (Xa5:QB P w K mg base "line_of" Zav 1 (QL (K:=K) R_lineof)) (Xa6:QB P w K mg base "most_of" Zav 1 (QL (K:=K) R_most)) (Xa7:QB P w K mg base "above_of" ZaH 1 (QL (K:=K) R_above))
 (XaX:QB P w K mg base "bound_at" Zar 1 (QL (K:=K) R_bound)):QB P w K mg base "reaching_at" Zae 2 (QL (K:=K) R_reaching):=by
 refine D.ev GE (fun ts r h=>by cases h;rfl) (fun _ _ _ _ s H E ts r hr h=>?_)
 cases h with
 |@mk y gs sm t ok hg hs h0 h1 =>
   refine⟨_,(Q7 (C8 (i:=4) GE.nd rfl rfl (NX:=Zay) (sc:=Qy BL) (N:=["line"]) (f:=[none]) rfl (by decide +kernel) rfl rfl (Yl rfl T.range (Qo (QG XaW hr (Qo (pv 0) Qs)) Qs)) (fun _=>(Zj (i:=0) (show(["line"]:Qh).Nodup by decide +kernel) rfl Qa)) (fun _=>Yk) (fun _=>Jv) (fun _=>Qx) rfl)
 (Q7 (Vn PassesOwn.never rfl (YY (pv 2)) (Zj (i:=5) GE.nd rfl Qa) (Q7 (QY (i:=6) GE.nd rfl Qa (QH QI (pv 1) (pv 5)))
 (Q3 (Z0 (Vg (QG Xa4 hr (Qo (pv 6) (Qo (pv 3) Qs)))) (Q3 (Bo (pv 4) (QG Xa5 hr (Qo (pv 6) Qs)) Bv (QG Xa6 hr (Qo (pv 6) Qs)) MD We)) Z4))))
 (Q7 (Vn PassesOwn.never rfl (RE rfl T.range (Qo (QU Y9 (QG XaW hr (Qo (pv 0) Qs)) Qx) (Qo Qx (Qo (Mu MN Qx) Qs)))) (Zj (i:=7) GE.nd rfl Qa) (Q3 (Bo (pv 4) (QG Xa7 hr (Qo (pv 0) (Qo (pv 7) Qs))) Bv (Zg (Bb rfl) (by rfl) T.min Gj (Qo (QH QI (pv 4) (pv 7)) (Qo (QG XaX hr (Qo (pv 0) (Qo (pv 7) (Qo (pv 3) Qs)))) Qs))) MD We)))
 (Q3 (QQ (pv 4)))))),?_⟩
   show Q0 K _ [some _,some _,some _,some _,none,none,none,none] _
   walk_at"x"
   have l1:=ok.l1;have l5:=ok.l5;have n8:=hs.len;refine QF (VM (KW (lo:=0) (n:=y.ls.length) (h:=fun _=>.int 0) ?ei (by omega) ?el) ?_)
   case ei=>walk_at"eir"
   case el =>
    intro x hx c;exact⟨_,by walk_at"g",by walk_at"ev"⟩
   walk_at"d"
   refine QF (U0 (fun i=>[some (.fz (QW y)),some (.fz (.list (gs.map QM))),some (.fz (.list (QX sm))),some (.fz (.int t)),some (.ol ((List.range y.ls.length).map fun l=>PyData.int (Z3 gs t l (sm.take i)))),none,none,none]) (by walk_at"ei") ⟨rfl,rfl,rfl,rfl,rfl,trivial⟩ ?st ?fin)
   case st =>
    intro i d hd;have hi:i<sm.length:=by
     have:=(Xh.mp hd).1
     simpa [QX] using this
    obtain rfl:d=.int ((sm[i]:Nat):Int):=by simpa [QX,hi] using hd.symm
    have hk:sm[i]<gs.length:=hs.mem _ (XY hi);refine⟨_,by walk_at"g",?_⟩
    walk_at"d"
    walk_at"s1";have eg:gs.getD ((sm[i]:Nat):Int).toNat default=gs[sm[i]]:=by simp[hk]
    rw[eg];have gok:=hg gs[sm[i]] (XY hk);have gl:=gok.ln;have tk:sm.take (i+1)=sm.take i++[sm[i]]:=by rw[JO];simp[hi]
    refine Zz (by walk_at"et") (fun c=>?_) (fun c=>?_)
    ·refine NF (m:=Z3 gs t gs[sm[i]].line (sm.take i)) rfl (by walk_at"ev") (by omega) ?_ (by walk_at"ev") ?_
     ·simp[gl]
     ·walk_at"d"
      refine⟨rfl,rfl,rfl,rfl,?_,trivial⟩;rw[Xz];congr 2;refine Gp gl (fun l hl hn=>?_) ?_
      ·rw[tk,JF]
       simp[Z3,hk,Ne.symm hn]
      ·rw[tk,JF]
       simp[Z3,hk,c]
    ·refine Z7 ⟨rfl,rfl,rfl,rfl,?_,trivial⟩
     refine XW (fun z=>some (OT.ol z)) (Ja fun l _=>?_);rw[tk,JF];simp[Z3,hk,c]
   case fin =>
    intro ρ' hf;refine Us hf ?_;have el:(QX sm).length=sm.length:=by simp[QX]
    rw[el,JQ];refine QF (U0 (fun i=>[some (.fz (QW y)),some (.fz (.list (gs.map QM))),some (.fz (.list (QX sm))),some (.fz (.int t)),some (.ol ((List.range y.ls.length).map fun l=>PyData.int (Vh y (fun k=>Zy y k t.toNat) (fun l=>Z3 gs t l sm) i l))),none,none,none]) (by walk_at"ei") ⟨rfl,rfl,rfl,rfl,rfl,trivial⟩ ?st2 ?fin2)
    case st2 =>
     intro i d hd;obtain⟨hi,rfl⟩:=D5 hd;have hi2:i<y.ls.length-1:=by omega
     refine⟨_,by walk_at"g",?_⟩
     walk_at"d"
     have ej:((y.ls.length:Int)-1-(i:Int)).toNat=y.ls.length-1-i:=by omega
     obtain⟨a,ea,la⟩:=ok.ups (y.ls.length-1-i) (by omega) (by omega);have un:upN y ((y.ls.length:Int)-1-(i:Int)).toNat=a:=by rw[ej];simp[upN,ea]
     refine NF (m:=Vh y (fun k=>Zy y k t.toNat) (fun l=>Z3 gs t l sm) i a) rfl (by walk_at"ev") (by omega) ?_ (by walk_at"ev") ?_
     ·rw[un,Xz]
      have:a<y.ls.length:=by omega
      simp[this]
     ·walk_at"d"
      refine⟨rfl,rfl,rfl,rfl,?_,trivial⟩;rw[un,Xz];refine XW (fun z=>some (OT.ol z)) (Gp (by omega) (fun l hl hn=>?_) ?_)
      ·simp only[Vh,YS]
       rw[ea,Xb (by simpa using fun z=>hn z.symm)];omega
      ·simp only[Vh,YS]
       rw[ea,Xd rfl,ej]
    case fin2 =>
     intro ρ' hf;refine Us hf ?_
     walk_at"ret"
     show _=_;have e2:(Wm ((y.ls.length:Int)-1) ((y.ls.length:Int)-1-0).toNat).length=y.ls.length-1:=by rw[D4];omega
     rw[e2];unfold Ur V2 Wa;rw[X8 h0,Wl];rfl
def AG (y:Yd)(gs:List Gs)(sm:Qk)(t:Nat):(Ur y gs sm t).length=y.ls.length:=by simp[Ur]
def Aq {y:Yd}{gs:List Gs}{sm:Qk}{t l:Nat}(h:l<y.ls.length):(Ur y gs sm t).getD l 0=V2 y (fun k=>Zy y k t) (Wa gs t sm) l:=by simp[Ur,List.getD,h]
def YC (y:Yd)(gs:List Gs)(sm:Qk)(t:Nat):Int:=passes y (fun k=>Zy y k t) (Wa gs t sm) 0
def Wz (y:Yd)(gs:List Gs)(sm:Qk):Int:=((List.range y.T).map fun t=>YC y gs sm t).sum
def UY (f:Qn)(i:Nat):Int:=((List.range i).map f).sum
def Ek (f:Qn)(i:Nat):UY f (i+1)=UY f i+f i:=by simp[UY,X6]
def To (y:Yd)(gs:List Gs)(t:Nat):Wa gs t []=fun _=>0:=rfl
theorem Sx {y:Yd}(ok:y.Ok)(t:Nat):∀i l,Vh y (fun k=>Zy y k t) (fun _=>0) i l=0
 |0,l=>rfl
 |i+1,l=>by
   have b0:∀k,0<=Zy y k t:=fun k=>by
    unfold Zy;cases e:y.ls[k]? with
    |none=>simp
    |some ln =>
      have:=ok.bb ln (List.mem_of_getElem? e)
      simp only[YH,GH];by_cases h:t<ln.bs.length
      ·have h2:=this (ln.bs[t]) (XY h)
       simp only[List.getD,X0 h,GH];exact h2.1
      ·simp[List.getD,h]
   simp only[Vh,YS,Sx ok t i];have:=b0 (y.ls.length-1-i)
   split<;>omega
def PM {y:Yd}(ok:y.Ok)(k t:Nat):0<=Zy y k t:=by
 unfold Zy;cases e:y.ls[k]? with
 |none=>simp
 |some ln =>
   have:=ok.bb ln (List.mem_of_getElem? e)
   simp only[YH,GH];by_cases h:t<ln.bs.length
   ·have h2:=this (ln.bs[t]) (XY h)
    simp only[List.getD,X0 h,GH];exact h2.1
   ·simp[List.getD,h]
def Ig {y:Yd}(ok:y.Ok)(gs:List Gs):Wz y gs []=0:=by
 have g0:∀t,YC y gs [] t=0:=fun t=>by
  unfold YC passes V2;rw[To y,Sx ok];have:=PM ok 0 t;dsimp only;omega
 unfold Wz;rw[BB,Zm (g:=fun _=>0) fun t _=>g0 t,VB]
inductive R_given:List OT->OT->Prop
 |mk {y:Yd} {gs:List Gs} {sm:Qk} {t:Int} (ok:y.Ok) (hg:∀g∈gs,g.Ok y) (hs:SetOk gs sm) (h0:0<=t) (h1:t<(y.T:Int)) :
  R_given [.fz (QW y),.fz (.list (gs.map QM)),.fz (.list (QX sm)),.fz (.int t)] (.fz (.int (YC y gs sm t.toNat)))
def E7:Qp Zae Zae (Qy Hh):=by walk_at"p"
def Cf (T:Bl mg) (D:Df K mg "given_at" Hh Zae) (Xbn:QB P w K mg base "reaching_at" Zae 2 (QL (K:=K) R_reaching)) (XaX:QB P w K mg base "bound_at" Zar 1 (QL (K:=K) R_bound)) :
 QB P w K mg base "given_at" Zae 3 (QL (K:=K) R_given):=by
 refine D.ev E7 (fun ts r h=>by cases h;rfl) (fun _ _ _ _ s H E ts r hr h=>?_)
 cases h with
 |@mk y gs sm t ok hg hs h0 h1 =>
   refine⟨_,(Q3 (QQ (Zg (Bb rfl) (by rfl) T.min Gj (Qo (QH QI (QG Xbn hr (Qo (pv 0) (Qo (pv 1) (Qo (pv 2) (Qo (pv 3) Qs))))) Qx) (Qo (QG XaX hr (Qo (pv 0) (Qo Qx (Qo (pv 3) Qs)))) Qs))))),?_⟩;show Q0 K _ [some _,some _,some _,some _] _
   walk_at"x"
   have l1:=ok.l1;have rl:=AG y gs sm t.toNat
   walk_at"ret"
   show _=_;rw[show(0:Int).toNat=0 from rfl,Aq (by omega)];rfl
inductive R_givenm:List OT->OT->Prop
 |mk {y:Yd} {gs:List Gs} {sm:Qk} (ok:y.Ok) (hg:∀g∈gs,g.Ok y) (hs:SetOk gs sm) :
  R_givenm [.fz (QW y),.fz (.list (gs.map QM)),.fz (.list (QX sm))] (.fz (.int (Wz y gs sm)))
def EY:Qp Zac Zac (Qy BH):=by walk_at"p"
def C1 (T:Bl mg) (D:Df K mg "given_most" BH Zac) (XaU:QB P w K mg base "turns_of" ZaG 1 (QL (K:=K) R_turns)) (Xbo:QB P w K mg base "given_at" Zae 3 (QL (K:=K) R_given)) :
 QB P w K mg base "given_most" Zac 4 (QL (K:=K) R_givenm):=by
 refine D.ev EY (fun ts r h=>by cases h;rfl) (fun _ _ _ _ s H E ts r hr h=>?_)
 cases h with
 |@mk y gs sm ok hg hs =>
   refine⟨_,(Q3 (QQ (Zg MK (by rfl) T.sum MS (Qo (Wr (NX:=Zac) (sc:=Qy BH) (N:=["turn","yard","guests","some"]) (f:=[none,some 0,some 1,some 2]) rfl (by decide +kernel) rfl rfl (Yl rfl T.range (Qo (QG XaU hr (Qo (pv 0) Qs)) Qs)) (fun _=>(Zj (i:=0) (show(["turn","yard","guests","some"]:Qh).Nodup by decide +kernel) rfl Qa)) (fun _=>Yk) (fun _=>Jv) (fun _=>(QG Xbo hr (Qo (pv 1) (Qo (pv 2) (Qo (pv 3) (Qo (pv 0) Qs))))))) Qs)))),?_⟩;show Q0 K _ [some _,some _,some _] _
   walk_at"x"
   have t8:=ok.t8;refine ZQ (GV (ns:=(List.range y.T).map fun t=>YC y gs sm t) ?_ rfl) rfl;refine EvO.fz ?_;rw[Wl];refine KW (lo:=0) (n:=y.T) ?_ (by omega) ?_
   ·walk_at"eir"
   ·intro x hx c
    refine⟨_,by walk_at"g",?_⟩
    walk_at"e"
    rw[YF];have h:R_given [.fz (QW y),.fz (.list (gs.map QM)),.fz (.list (QX sm)),.fz (.int (x:Int))] (.fz (.int (YC y gs sm x))):=R_given.mk (t:=(x:Int)) ok hg hs (by omega) (by omega);exact Zd (by walk_at"ea") h
def Bu:NoF "lay" := fun _ _ _ _=>rfl
def NT:NoF "lay_one" := fun _ _ _ _=>rfl
def SD:NoF "reached" := fun _ _ _ _=>rfl
def Fk:NoF "push" := fun _ _ _ _=>rfl
def Cm:NoF "fill" := fun _ _ _ _=>rfl
def Tr:NoF "way_to" := fun _ _ _ _=>rfl
def Ij:Qp Zaj Zaj (Qy U9):=by walk_at"p"
def PH {f:Addr} {fd:FuncData} (T:Bl mg) (U:Tx K mg C gS gE) (F:Fun K "__init__" "Net.__init__" U9 f fd):FnOk P w K mg base CX0 1 f fd Zaj (spI P w C):=by
 refine F.ok Ij (fun vs H Q E ⟨x,dx,e,_⟩=>by rw[e];rfl) fun cdv A outer s H vs Q E hr ⟨x,dx,e,hx,q⟩=>?_;subst e;refine⟨_,(Q7 (Wb (pv 0) (Z5 Qs) rfl)
 (Q7 (Wb (pv 0) (Z5 Qs) rfl)
 (Q7 (Wb (pv 0) Fy rfl)
 (Q3 (Wb (pv 0) FR rfl))))),?_⟩
 refine⟨XQ _,fun e he=>⟨_,rfl,x,C,dx,[],rfl,?_,U.net.cl,U.net.ends,by decide,?_⟩⟩
 ·rw[Qt (Zo hx he)];exact hx
 have xe:x≠e:=Zo hx he;refine⟨XQ _,fun r hr'=>⟨_,rfl,x,C,dx,[("ends",.ref e)],rfl,?_,U.net.cl,U.net.rooms,(by show(1:Nat)<1000;decide),?_⟩⟩
 ·have xr:x≠r:=Zo QA hr'
  rw[Qt xr,QA];rfl
 have xr:x≠r:=Zo QA hr';have rr:upd H e (.lst []) r=none:=by rw[Qt (Ne.symm xr)]at hr';exact hr'
 have er:e≠r:=Zo QA rr;have r0:H r=none:=by rw[Qt (Ne.symm er)]at rr;exact rr
 refine fun l hl=>⟨_,rfl,x,C,dx,[("ends",.ref e),("rooms",.ref r)],rfl,?_,U.net.cl,U.net.leav,(by show(2:Nat)<1000;decide),?_⟩
 ·have xl:x≠l:=Zo QA hl
  rw[Qt xl,QA];rfl
 have xl:x≠l:=Zo QA hl;rw[Qt (Ne.symm xl)]at hl;have rl:r≠l:=Zo QA hl;rw[Qt (Ne.symm rl),Qt (Ne.symm xl)]at hl;have el:e≠l:=Zo QA hl;rw[Qt (Ne.symm el)]at hl;refine fun d hd=>⟨_,rfl,x,C,dx,[("ends",.ref e),("rooms",.ref r),("leaving",.ref l)],rfl,?_,U.net.cl,U.net.laid,(by show(3:Nat)<1000;decide),?_⟩
 ·have xd:x≠d:=Zo QA hd
  rw[Qt xd,QA];rfl
 have xd:x≠d:=Zo QA hd;rw[Qt (Ne.symm xd)]at hd;have ld:l≠d:=Zo QA hd;rw[Qt (Ne.symm ld),Qt (Ne.symm xd)]at hd;have rd:r≠d:=Zo QA hd;rw[Qt (Ne.symm rd),Qt (Ne.symm xd)]at hd;have ed:e≠d:=Zo QA hd;rw[Qt (Ne.symm ed)]at hd;refine q e r l d _ he r0 hl hd ?_ ?_ ?_ ?_ ?_ ?_ (fun b hb=>?_)
 ·simp only[XO,Xg,XL,or_false,not_or,not_false_eq_true,JN,and_true]
  exact⟨⟨xe,xr,xl,xd⟩,⟨er,el,ed⟩,⟨rl,rd⟩,ld⟩
 ·rw[QA];rfl
 ·rw[Qt (Ne.symm xe),Qt ed,Qt (Ne.symm xe),Qt el,Qt (Ne.symm xe),Qt er,Qt (Ne.symm xe),QA]
 ·rw[Qt (Ne.symm xr),Qt rd,Qt (Ne.symm xr),Qt rl,Qt (Ne.symm xr),QA]
 ·rw[Qt (Ne.symm xl),Qt ld,Qt (Ne.symm xl),QA]
 ·rw[Qt (Ne.symm xd),QA];rfl
 ·simp only[Xg,XL,or_false,not_or]at hb
  obtain⟨b1,b2,b3,b4,b5⟩:=hb;rw[Qt b1,Qt b5,Qt b1,Qt b4,Qt b1,Qt b3,Qt b1,Qt b2]
inductive R_lay1:Qz->List OT->(Qz->Prop)->Prop
 |mk {N:Qz} {s e:List Key} {r:Int} (h1:N.ends.length<900) (h2:N.rooms.length<900) (h3:N.leav.length<900) (h4:∀k ns,QK N.leav k=some ns->ns.length<900):R_lay1 N [.fz (QT s),.fz (QT e),.fz (.int r)] (fun N'=>N'=Ua N s e r)
def Ih:Qp Zaa Zaa (Qy JB):=by walk_at"p"
def L7 (T:Bl mg) (U:Tx K mg C gS gE) (D:Mf K C "lay_one" "Net.lay_one" JB Zaa):Zl P w K mg base C "lay_one" Zaa 1 (spN K P w C R_lay1):=by
 refine D.evN Ih (fun M ts Ψ h=>by cases h;rfl) (fun f cdv A outer s H E v M ts Ψ hr h=>?_)
 cases h with
 |@mk s' e r h1 h2 h3 h4 =>
   refine⟨_,(Q7 (Z8 (VX PySem.F.plainAttrs_list PySem.F.slot_list_append PySem.F.type_list_append Yf (Fg (YQ hr) (Zs (pv 0) rfl) (pv 1) (Z5 Qs) ⟨rfl,rfl,rfl,rfl⟩) (Qo (Zg Vx (by rfl) T.len Vm (Qo (Zs (pv 0) rfl) Qs)) Qs)))
 (Q7 (Z8 (VX PySem.F.plainAttrs_list PySem.F.slot_list_append PySem.F.type_list_append Yf (Zs (pv 0) rfl) (Qo (pv 2) Qs)))
 (Q3 (Z8 (VX PySem.F.plainAttrs_list PySem.F.slot_list_append PySem.F.type_list_append Yf (Zs (pv 0) rfl) (Qo (pv 3) Qs)))))),?_⟩
   show Q0 K _ [some _,some _,some _,some _] _
   walk_at"x"
   refine QF (Ea (N:=M) (n:=(M.ends.length:Int)) U.net rfl (Qr rfl) (by omega) (fun ns hns=>?_) (R9 (N:={ M with leav:=V5 M.leav s' }) U.net rfl) ?_)
   ·rw[Dy,Xd rfl]at hns
    cases hns
    cases z:QK M.leav s' with
    |none=>decide
    |some ms=>have:=h4 s' ms z;show ms.length<1000;omega
   walk_at"d"
   refine QF (AW U.net rfl (Qr rfl) (show M.ends.length<1000 by omega) ?_)
   walk_at"d"
   refine A9 U.net rfl (Qr rfl) (show M.rooms.length<1000 by omega) ?_
   walk_at"d"
   exact⟨_,rfl,rfl⟩
abbrev Y4:QS Nd:=fun _ _=>0
inductive R_lay:Qz->List OT->(Qz->Prop)->Prop
 |mk {N:Qz} {L:Lay Nd} {s e:Nd} {r:Int} (h:NetR N L Y4) (new:(s,e)∉L.map (fun x=>(x.1,x.2.1))) (l:L.length<400):R_lay N [.fz (QT (nk s)),.fz (QT (nk e)),.fz (.int r)] (fun N'=>NetR N' (L++[(s,e,r)]) Y4)
def Em:Qp Zaa Zaa (Qy J6):=by walk_at"p"
def PZ (T:Bl mg) (U:Tx K mg C gS gE) (D:Mf K C "lay" "Net.lay" J6 Zaa) (Xbb:Zl P w K mg base C "lay_one" Zaa 1 (spN K P w C R_lay1)):Zl P w K mg base C "lay" Zaa 2 (spN K P w C R_lay):=by
 refine D.evN Em (fun M ts Ψ h=>by cases h;rfl) (fun f cdv A outer s H E v M ts Ψ hr h=>?_)
 cases h with
 |@mk L s' e r h new l =>
   refine⟨_,(Q7 (LK (TR hr) (Zs (pv 0) rfl) (WG (Qo (pv 1) (Qo (pv 2) Qs))) (Zg Vx (by rfl) T.len Vm (Qo (Zs (pv 0) rfl) Qs)) rfl)
 (Q7 (Z8 (Yt Xbb U.net hr (pv 0) (Qo (pv 1) (Qo (pv 2) (Qo (pv 3) Qs)))))
 (Q3 (Z8 (Yt Xbb U.net hr (pv 0) (Qo (pv 2) (Qo (pv 1) (Qo Qx Qs)))))))),?_⟩
   show Q0 K _ [some _,some _,some _,some _] _
   walk_at"x"
   have le:=h.elen;have lr:M.rooms.length=2*L.length:=by rw[h.rooms,Hk]
   have l1:=h.l1;have l2:=h.l2;have l3:=h.l3;refine QF (Au (N:=M) (n:=(M.ends.length:Int)) (k1:=nk s') (k2:=nk e) U.net rfl (R9 U.net rfl) (Wt (QZ (Qr rfl) (QZ (Qr rfl) ZC)) W8) (by omega) ?_)
   walk_at"d"
   refine QF (WQ (ΦA:=fun ts=>ts=[.fz (QT (nk s')),.fz (QT (nk e)),.fz (.int r)]) NT rfl (Ww (Qv (Qr rfl) (Qv (Qr rfl) (Qv (Qr rfl) Q9))) rfl) (fun ts hts=>?_));subst hts;refine⟨_,R_lay1.mk (show M.ends.length<900 by omega) (show M.rooms.length<900 by omega) (show M.leav.length<900 by omega) (fun k ns hk=>by have:=l3 k ns hk;omega),fun N' hN=>?_⟩;subst hN;walk_at"d"
   refine WQ (ΦA:=fun ts=>ts=[.fz (QT (nk e)),.fz (QT (nk s')),.fz (.int 0)]) NT rfl (Ww (Qv (Qr rfl) (Qv (Qr rfl) (Qv Q8 Q9))) rfl) (fun ts hts=>?_);subst hts;refine⟨_,R_lay1.mk ?a1 ?a2 ?a3 ?a4,fun N' hN=>?_⟩
   case a1=>show(M.ends++[nk e]).length<900;rw[Xo,le];show 2*L.length+1<900;omega
   case a2=>show(M.rooms++[r]).length<900;rw[Xo,lr];show 2*L.length+1<900;omega
   case a3 =>
    show(V7 (V5 M.leav (nk s')) (nk s') _).length<900
    rw[Bx];have:=Dp M.leav (nk s');omega
   case a4 =>
    intro k ns hk;rw[U2]at hk;by_cases z:k=nk s'
    ·rw[Xd z]at hk
     cases hk
     have:((QK M.leav (nk s')).getD []).length<=2*L.length:=by
      cases q:QK M.leav (nk s') with
      |none=>exact XQ _
      |some ms=>exact l3 _ ms q
     show((QK M.leav (nk s')).getD []++[_]).length<900
     rw[Xo];show _+1<900;omega
    ·rw[Xb z]at hk
     have:=l3 k ns hk
     omega
   subst hN;walk_at"d"
   exact⟨_,Ci (r:=r) h rfl new,rfl⟩
def Le {K:W.Frag}{ρ:Q5}{ta:TE}{ds:Qd}(h:Qu K ta ρ (.list ds)):Zb K (fun σ H Q=>ta σ H fun x H'=>∃k,Ml K x H' k/\Q k H') ρ (!ds.isEmpty):=fun H0 F σ H Q S q=>h H0 F σ H _ S fun F1 H1 v x1 r1=>by
 obtain⟨a,xs,rfl,h1,h2,_⟩:=J8 (K:=K) r1 x1.fh;refine⟨_,.inl ⟨xs,h1,rfl⟩,?_⟩
 have e:xs.isEmpty=ds.isEmpty:=by
  have:=h2.length
  cases xs<;>cases ds<;>simp at this ⊢
 rw[e];exact q F1 H1 x1
def YL (n:Nd):PyData:=QT (nk n)
inductive R_reached (P:Program)(w:World)(C:Addr):List OT->(OT->Prop)->Prop
 |mk {N:Qz} {L:Lay Nd} {φ:QS Nd} {s:Nd} (h:NetR N L φ) (l:L.length<400):R_reached P w C [.zow (Vt P w C N),.fz (QT (nk s))] (fun r=>∃v es,r=.own v (Vq (kvG es))/\Tree L φ s es/\VN L φ es)
structure ReachI (L:Lay Nd)(φ:QS Nd)(s:Nd)(es0 es:Got Nd)(U fu:List Nd):Prop where
 tree:Tree L φ s es
 fin:∀n∈fu,n∈QP es
 sub:∀n∈QP es0,n∈QP es
 done:Jk L φ es (U++fu)
 len:es.length=es0.length+fu.length
def JC:Qp ["self","start","edges","latest","further","node","edge"] ZaC (Qy JA):=by walk_at"p"
def AD (T:Bl mg) (U:Tx K mg C gS gE) (D:Mf K C "reached" "Net.reached" JA ZaC):Zl P w K mg base C "reached" ZaC 1 (Ze K (R_reached P w C)):=by
 refine D.evD JC (fun ts Φ h=>by cases h;rfl) (fun _ _ _ _ s H E ts Φ hr h=>?_)
 cases h with
 |@mk N L φ s' h l =>
   refine⟨_,(Q7 (QY (i:=2) JC.nd rfl Qa (Fq (YQ hr) (pv 1) Bk))
 (Q7 (QY (i:=3) JC.nd rfl Qa (Z5 (Qo (pv 1) Qs)))
 (Q7 (D7 PassesOwn.never (Cc (pv 3) (fun _=>rfl)) (Q7 (QY (i:=4) JC.nd rfl Qa (Z5 Qs))
 (Q7 (Vn PassesOwn.never rfl (YY (pv 3)) (Zj (i:=5) JC.nd rfl Qa) (Q3 (Vn PassesOwn.never rfl (YY (C9 (YQ hr) (Zs (pv 0) rfl) (pv 5) (Z5 Qs) ⟨rfl,rfl,rfl,rfl⟩)) (Zj (i:=6) JC.nd rfl Qa) (Q3 (Z0 (PW.pt (Gg (ZF YU (QH QI (Zs (pv 0) rfl) (pv 6)) Qx (ZA _)) (Gw (Gi (Al (YQ hr) (QH QI (Zs (pv 0) rfl) (pv 6)) (pv 2)))))) (Q7 (LH (YQ hr) (pv 2) (QH QI (Zs (pv 0) rfl) (pv 6)) (pv 6) rfl)
 (Q3 (Z8 (VX PySem.F.plainAttrs_list PySem.F.slot_list_append PySem.F.type_list_append Yf (pv 4) (Qo (QH QI (Zs (pv 0) rfl) (pv 6)) Qs))))) Z4)))))
 (Q3 (QY (i:=3) JC.nd rfl Qa (pv 4))))))
 (Q3 (QQ (pv 2)))))),?_⟩
   show Q0 K _ [some _,some _,none,none,none,none,none] _
   walk_at"x"
   refine QF (Di (Fx (k:=nk s') (d:=.none) (Qr rfl) Gd) (fun v=>?_))
   walk_at"d"
   refine QF (VM (Vd (ds:=[QT (nk s')]) (QZ (Qr rfl) ZC) Wo) ?_)
   walk_at"d"
   refine Ws 3 rfl ?_
   walk_at"d"
   have bnd:∀es,Tree L φ s' es->es.length<=2*L.length+1:=fun es t=>by have:=t.len;rw[Se]at this;exact this
   refine QF (DD (fun m ρ'=>∃(es:Got Nd) (lt:List Nd) (u4 u5 u6:Option OT),Tree L φ s' es/\(∀n∈lt,n∈QP es)/\Jk L φ es lt/\m=2*(2*L.length+2-es.length)+(if lt=[] then 0 else 1) /\
    ρ'=[some (.zow (Vt P w C N)),some (.fz (QT (nk s'))),some (.own v (Vq (kvG es))),some (.fz (.list (lt.map YL))),u4,u5,u6]) _ ⟨[(s',none)],[s'],none,none,none,.root,(fun n hn=>by simpa [QP] using hn),?d0,rfl,rfl⟩ ?ws)
   case d0 =>
    intro e m n r h1 h2 h3 h4 h5 h6;have:m=s':=by simpa [QP] using h5
    exact Xl (by rw[this];exact Xc) h6
   case ws =>
    rintro m _ ⟨es,lt,u4,u5,u6,tr,sb,dn,rfl,rfl⟩
    refine⟨_,Le (ds:=lt.map YL) (Qr rfl),fun c=>?_,fun c=>?_⟩
    ·have hlt:lt≠[]:=fun z=>by rw[z]at c;cases c
     rw[Xb hlt];refine QF (VM (Vd (ds:=[]) ZC (by decide)) ?_)
     walk_at"d"
     refine QF (VR (ds:=lt.map YL) (fun i ρ'=>∃(es':Got Nd) (fu:List Nd) (u5 u6:Option OT),ReachI L φ s' es es' (lt.drop i) fu /\
      ρ'=[some (.zow (Vt P w C N)),some (.fz (QT (nk s'))),some (.own v (Vq (kvG es'))),some (.fz (.list (lt.map YL))),some (.ol (fu.map YL)),u5,u6]) (Wy (Qr rfl)) ⟨es,[],_,_,⟨tr,(fun n hn=>nomatch hn),fun n hn=>hn,by rw[List.drop_zero,XG];exact dn,by simp⟩,rfl⟩ ?st ?fin)
     case fin =>
      rintro _ ⟨es',fu,w5,w6,I,rfl⟩
      rw[Xn]at I;have dn':=I.done;rw[List.drop_length,List.nil_append]at dn';refine Ws 4 rfl ?_
      walk_at"d"
      refine ZR (Qr rfl) ?_
      walk_at"d"
      refine⟨2*(2*L.length+2-es'.length)+(if fu=[] then 0 else 1),?_,es',fu,_,_,_,I.tree,I.fin,dn',rfl,rfl⟩;have b1:=bnd es' I.tree;have b2:=I.len
      by_cases z:fu=[]
      ·rw[Xd z]
       rw[z]at b2;simp at b2;omega
      ·rw[Xb z]
       have:0<fu.length:=BR.mpr z
       omega
     case st =>
      rintro i d _ hd ⟨es1,fu1,w5,w6,I1,rfl⟩
      have hi:i<lt.length:=by
       have:=(Xh.mp hd).1
       simpa using this
      obtain rfl:d=YL lt[i]:=by simpa [hi] using hd.symm
      have hdr:lt.drop i=lt[i]::lt.drop (i+1):=List.drop_eq_getElem_cons hi;generalize lt[i]=x at hdr;refine⟨_,Zw,?_⟩
      walk_at"d"
      refine VR (ds:=((QK N.leav (nk x)).getD []).map PyData.int) (fun j ρ'=>∃(es2:Got Nd) (fu2:List Nd) (u6:Option OT),ReachI L φ s' es es2 (lt.drop i) fu2 /\
       (∀(k:Nat) (n:Nd) (r:Int),(k:Int)∈((QK N.leav (nk x)).getD []).take j->hdE L k=some n->rmE L φ k=some r->0<r->n∈QP es2) /\
       ρ'=[some (.zow (Vt P w C N)),some (.fz (QT (nk s'))),some (.own v (Vq (kvG es2))),some (.fz (.list (lt.map YL))),some (.ol (fu2.map YL)),some (.fz (YL x)),u6]) (Wy (LR (k:=nk x) U.net rfl (Qr rfl))) ⟨es1,fu1,_,I1,(fun k n r hk=>by simp at hk),rfl⟩ ?st2 ?fin2
      case fin2 =>
       rintro _ ⟨es2,fu2,w6,I2,dn2,rfl⟩
       refine⟨es2,fu2,_,_,⟨I2.tree,I2.fin,I2.sub,?_,I2.len⟩,rfl⟩;rw[Xn,JQ]at dn2;intro e m n r h1 h2 h3 h4 h5 h6;by_cases z:m=x
       ·subst z
        exact dn2 e n r ((h.leav m (e:Int)).mpr ⟨e,rfl,h1⟩) h2 h3 h4
       ·refine I2.done e m n r h1 h2 h3 h4 h5 ?_
        rw[hdr,WY,Xg,not_or];exact⟨z,h6⟩
      case st2 =>
       rintro j d2 _ hd2 ⟨es2,fu2,w6,I2,dn2,rfl⟩
       have hj:j<((QK N.leav (nk x)).getD []).length:=by
        have:=(Xh.mp hd2).1
        simpa using this
       obtain⟨k,ek,tk⟩:=(h.leav x _).mp (XY hj)
       obtain rfl:d2=.int (k:Int):=by
        rw[Xt,X0 hj]at hd2;rw[ek]at hd2;simpa using hd2.symm
       obtain⟨y,hy⟩:∃y,L[k/2]?=some y:=by
        unfold tlE at tk;cases z:L[k/2]? with
        |none=>rw[z]at tk;cases tk
        |some y=>exact⟨y,rfl⟩
       obtain⟨n,hn⟩:∃n,hdE L k=some n:=⟨_,by unfold hdE;rw[hy];rfl⟩;obtain⟨r,hr'⟩:∃r,rmE L φ k=some r:=⟨_,by unfold rmE;rw[hy];rfl⟩;have ra:atI (N.rooms.map PyData.int) (k:Int)=some (.int r):=Ya (by rw[Xt,h.rooms,Gz,hr'];rfl);have ea:atI (N.ends.map QT) (k:Int)=some (QT (nk n)):=Ya (by rw[h.ends,Wl,Xt,De,hn];rfl);have tks:((QK N.leav (nk x)).getD []).take (j+1)=((QK N.leav (nk x)).getD []).take j++[(k:Int)]:=by rw[JO,X0 hj,ek];rfl
       have bes:=bnd es2 I2.tree;have ben:=I2.len;refine⟨_,Zw,?_⟩
       walk_at"d"
       have eend:∀{ρ:Q5},ρ[0]?=some (some (.zow (Vt P w C N)))->ρ[6]?=some (some (.fz (.int (k:Int))))->Qu K (tOp (rIx K) (Vs K (QD 0) "ends") (QD 6)) ρ (QT (nk n)):=fun e0 e6=>NI U.net e0 (Qr e6) ea;refine Zz (b:=decide (r > 0) && !(VC (kvG es2) (nk n)).isSome) (UZ (ZB (Yj (Ry U.net rfl (Qr rfl) ra) Q8)) (fun _=>ZH (Ay (eend rfl rfl) rfl))) (fun c=>?_) (fun c=>Z7 ?_)
       ·rw[Gk]at c
        have c1:r > 0:=XV (Bool.and_eq_true_iff.mp c).1;have c2:n∉QP es2:=by simpa using (Bool.and_eq_true_iff.mp c).2
        refine QF (FX rfl (Qr rfl) (eend rfl rfl) (by rw[show(kvG es2).length=es2.length from Xn _];exact Vy (by omega)) ?_)
        walk_at"d"
        rw[Ce c2];refine U6 (ds:=fu2.map YL) rfl (eend rfl rfl) (by rw[Xn];omega) ?_
        walk_at"d"
        have km:x∈QP es2:=I2.sub x (sb x (List.mem_of_mem_drop (by rw[hdr];exact Xc)));refine⟨es2++[(n,some k)],fu2++[n],_,⟨I2.tree.add c2 hn tk km hr' c1,fun z hz=>?_,fun z hz=>WW.mpr (.inl (I2.sub z hz)),?_,by simp;omega⟩,fun k' n' r' hk' q1 q2 q3=>?_,by rw[XD];rfl⟩
        ·rcases XH.mp hz with hz|hz
         ·exact WW.mpr (.inl (I2.fin z hz))
         ·exact WW.mpr (.inr (by simpa using hz))
        ·exact I2.done.add n (some k)
        ·rw[tks]at hk'
         rcases XH.mp hk' with z|z
         ·exact WW.mpr (.inl (dn2 k' n' r' z q1 q2 q3))
         ·have:k'=k:=by have:=Xi.mp z;omega
          subst this;rw[hn]at q1;cases q1;exact WW.mpr (.inr rfl)
       ·rw[Gk]at c
        refine⟨es2,fu2,_,I2,fun k' n' r' hk' q1 q2 q3=>?_,rfl⟩;rw[tks]at hk';rcases XH.mp hk' with z|z
        ·exact dn2 k' n' r' z q1 q2 q3
        ·have:k'=k:=by have:=Xi.mp z;omega
         subst this;rw[hn]at q1;rw[hr']at q2;cases q1
         cases q2
         apply Classical.byContradiction
         intro hq;have q3':r > 0:=q3
         simp[q3',hq]at c
    ·have hlt:lt=[]:=by
      cases lt with
      |nil=>rfl
      |cons a b=>cases c
     subst hlt;exact Da rfl ⟨v,es,rfl,tr,dn.closed⟩
def Yg (w:Qk):Qd:=w.map fun(e:Nat)=>PyData.int (e:Int)
def RS {L:Lay Nd}{es:Got Nd}{n:Nd}{w:Qk}(b:Back L es n w):VC (kvG es) (nk n)=some (Ud w.head?):=by
 rw[Du];cases b with
 |nil h=>rw[h];rfl
 |cons h t b=>rw[h];rfl
def KD {L:Lay Nd}{φ:QS Nd}{e:Nat}{r:Int}(h:rmE L φ e=some r):e<2*L.length:=by
 unfold rmE at h;cases z:L[e/2]? with
 |none=>rw[z]at h;cases h
 |some x=>have:=(Xh.mp z).1;omega
def Nz {L:Lay Nd}{φ:QS Nd}{s n:Nd}{es:Got Nd}{w:Qk}(q:WayOk L φ s es n w):w.length<=2*L.length:=by
 have:=DP (ys:=List.range (2*L.length)) q.nodup fun e he=>by
  obtain⟨r,hr,_⟩:=q.room e he;exact XT.mpr (KD hr)
 simpa using this
inductive R_way (P:Program)(w:World)(C:Addr):List OT->(OT->Prop)->Prop
 |mk {N:Qz} {L:Lay Nd} {φ:QS Nd} {s n:Nd} {es:Got Nd} {wy:Qk} (h:NetR N L φ) (l:L.length<400) (q:WayOk L φ s es n wy):R_way P w C [.zow (Vt P w C N),.zow (Jh (kvG es)),.fz (QT (nk n))] (fun r=>r=.ol (Yg wy))
def BK:Qp ["self","edges","end","way","edge"] Zaz (Qy JG):=by walk_at"p"
def PD (T:Bl mg) (U:Tx K mg C gS gE) (D:Mf K C "way_to" "Net.way_to" JG Zaz):Zl P w K mg base C "way_to" Zaz 1 (Ze K (R_way P w C)):=by
 refine D.evD BK (fun ts Φ h=>by cases h;rfl) (fun _ _ _ _ s H E ts Φ hr h=>?_)
 cases h with
 |@mk N L φ s' n es wy h l q =>
   refine⟨_,(Q7 (QY (i:=3) BK.nd rfl Qa (Z5 Qs))
 (Q7 (QY (i:=4) BK.nd rfl Qa (NL (YQ hr) (pv 1) (pv 2) (fun _ _=>rfl)))
 (Q7 (D7 PassesOwn.never (Gi (LF (pv 4))) (Q7 (Z8 (VX PySem.F.plainAttrs_list PySem.F.slot_list_append PySem.F.type_list_append Yf (pv 3) (Qo (pv 4) Qs)))
 (Q3 (QY (i:=4) BK.nd rfl Qa (NL (YQ hr) (pv 1) (QH QI (Zs (pv 0) rfl) (QU KS (pv 4) Qx)) (fun _ _=>rfl))))))
 (Q3 (QQ (pv 3)))))),?_⟩
   show Q0 K _ [some _,some _,some _,none,none] _
   walk_at"x"
   have wl:=Nz q;refine QF (VM (Vd (ds:=[]) ZC (by decide)) ?_)
   walk_at"d"
   refine QF (ZR (NH rfl (Qr rfl) (RS q.back)) ?_)
   walk_at"d"
   refine QF (DD (fun m ρ'=>∃(dn rs:Qk) (n':Nd),m=rs.length/\dn++rs=wy/\Back L es n' rs/\ρ'=[some (.zow (Vt P w C N)),some (.zow (Jh (kvG es))),some (.fz (QT (nk n))),some (.ol (Yg dn)),some (.fz (Ud rs.head?))]) wy.length ⟨[],wy,n,rfl,rfl,q.back,rfl⟩ ?ws)
   case ws =>
    rintro m _ ⟨dn,rs,n',rfl,hw,b,rfl⟩
    refine⟨_,ZH (KI (Qr rfl)),fun c=>?_,fun c=>?_⟩
    ·cases b with
     |nil h0=>cases c
     |@cons _ m' e rs' h0 t0 b0 =>
       have dl:dn.length<1000:=by
        have:=XW List.length hw
        rw[Xo]at this;omega
       refine QF (U6 (ds:=Yg dn) (d:=.int (e:Int)) rfl (Qr rfl) (by unfold Yg;rw[Xn];exact dl) ?_)
       walk_at"d"
       have ea:atI (N.ends.map QT) (Builtin.bitXor (e:Int) 1)=some (QT (nk m')):=by
        rw[Sf];exact Ya (by rw[h.ends,Wl,Xt,AL,t0];rfl)
       refine ZR (NH rfl (NI U.net rfl (ZG (g:=Builtin.bitXor) (Qr rfl) Q8) ea) (RS b0)) ?_
       walk_at"d"
       refine⟨rs'.length,X9 _,dn++[e],rs',m',rfl,by rw[<- hw,UE];rfl,b0,?_⟩;unfold Yg;rw[XD];rfl
    ·have:rs=[]:=by
      cases rs with
      |nil=>rfl
      |cons a b=>cases c
     subst this;rw[XG]at hw;subst hw;exact MV rfl rfl
def amt (L:Lay Nd)(φ:QS Nd)(w:Qk):Int:=Yh (w.map fun e=>(rmE L φ e).getD 0)
inductive R_push:Qz->List OT->(Qz->Prop)->Prop
 |mk {N:Qz} {L:Lay Nd} {φ:QS Nd} {wy:Qk} (h:NetR N L φ) (hd:Dis L) (ne:wy≠[]) (hin:∀e∈wy,∃r,rmE L φ e=some r) (hl:wy.length<900):R_push N [.fz (.list (Yg wy))] (fun N'=>NetR N' L (Y3 L (amt L φ wy) φ wy))
def NetR.rm {N:Qz}{L:Lay Nd}{φ:QS Nd}(h:NetR N L φ){e:Nat}(he:e<2*L.length):∃r,N.rooms[e]?=some r/\(Vv L φ)[e]?=some r:=by
 have:e<(Vv L φ).length:=by rw[Hk];exact he
 exact⟨(Vv L φ)[e],by rw[h.rooms,X0 this],X0 this⟩
def NetR.push {N:Qz}{L:Lay Nd}{φ:QS Nd}(h:NetR N L φ)(hd:Dis L){a r r':Int}{e:Nat}(h1:(Vv L φ)[e]?=some r)(h2:(Vv L φ)[ZeF e]?=some r'):NetR { N with rooms:=(N.rooms.set e (r-a)).set (ZeF e) (r'+a) } L (VG L a φ e) :=
 ⟨h.ends,by show(N.rooms.set e (r-a)).set (ZeF e) (r'+a)=_;rw[h.rooms,Ef hd h1 h2],h.leav,h.laid,h.laid0,h.l1,h.l2,h.l3⟩
def AX {L:Lay Nd}{a:Int}{φ:QS Nd}{wy:Qk}{i e:Nat}(h:wy[i]?=some e):Y3 L a φ (wy.take (i+1))=VG L a (Y3 L a φ (wy.take i)) e:=by
 have t:wy.take (i+1)=wy.take i++[e]:=by rw[JO,h];rfl
 rw[t];unfold Y3;rw[List.foldl_append];rfl
def Hc:Qp ["self","way","amount","edge"] ZaR (Qy WV):=by walk_at"p"
def Lw (T:Bl mg) (U:Tx K mg C gS gE) (D:Mf K C "push" "Net.push" WV ZaR):Zl P w K mg base C "push" ZaR 1 (spN K P w C R_push):=by
 refine D.evN Hc (fun M ts Ψ h=>by cases h;rfl) (fun f cdv A outer s H E v M ts Ψ hr h=>?_)
 cases h with
 |@mk L φ wy h hd ne hin hl =>
   refine⟨_,(Q7 (QY (i:=2) Hc.nd rfl Qa (Zg LE (by rfl) T.min Gj (Qo (Wr (NX:=["self","way","amount","edge"]) (sc:=Qy WV) (N:=["edge","self"]) (f:=[none,some 0]) rfl (by decide +kernel) rfl rfl (YY (pv 1)) (fun _=>(Zj (i:=0) (show(["edge","self"]:Qh).Nodup by decide +kernel) rfl Qa)) (fun _=>Yk) (fun _=>Jv) (fun _=>(QH QI (Zs (pv 1) rfl) (pv 0)))) Qs)))
 (Q3 (Vn PassesOwn.never rfl (YY (pv 1)) (Zj (i:=3) Hc.nd rfl Qa) (Q7 (Bo (Zs (pv 0) rfl) (pv 3) Bv (pv 2) TX We)
 (Q3 (Bo (Zs (pv 0) rfl) (QU KS (pv 3) Qx) Bv (pv 2) MD We)))))),?_⟩
   show Q0 K _ [some _,some _,none,none] _
   walk_at"x"
   refine QF (ZR (d:=.int (amt L φ wy)) (Eh 0 rfl rfl (LA (ns:=wy.map fun e=>(rmE L φ e).getD 0) (Qu.cast (EvO.fz (Uk (xs:=wy) (enc:=fun(e:Nat)=>PyData.int (e:Int)) (h:=fun e=>.int ((rmE L φ e).getD 0)) ?ei (by omega) ?el)) (by rw[Wl];rfl)) rfl (fun z=>ne (List.map_eq_nil_iff.mp z)))) ?_)
   case ei=>exact Wy (Qr rfl)
   case el =>
    intro e he c;refine⟨_,Zw,?_⟩
    walk_at"e"
    obtain⟨r,hr'⟩:=hin e he;refine Qu.cast (Ry (N:=M) (m:=r) U.net rfl (Qr rfl) ?_) (by rw[hr'];rfl);exact Ya (by rw[Xt,h.rooms,Gz,hr'];rfl)
   walk_at"d"
   generalize amt L φ wy=a;refine VR (ds:=Yg wy) (fun i ρ'=>∃(N':Qz) (u3:Option OT),NetR N' L (Y3 L a φ (wy.take i))/\ρ'=[some (.own v (Za P w C N')),some (.fz (.list (Yg wy))),some (.fz (.int a)),u3]) (Wy (Qr rfl)) ⟨M,_,h,rfl⟩ ?st ?fin
   case fin =>
    rintro _ ⟨N',u3,hN,rfl⟩
    unfold Yg at hN;rw[Xn,JQ]at hN;exact⟨N',hN,rfl⟩
   case st =>
    rintro i d _ hd' ⟨N',u3,hN,rfl⟩
    have hi:i<wy.length:=by
     have:=(Xh.mp hd').1
     unfold Yg at this;simpa using this
    obtain rfl:d=.int (wy[i]:Int):=by
     unfold Yg at hd';simpa [hi] using hd'.symm
    obtain⟨r0,hr0⟩:=hin wy[i] (XY hi);have el:=KD hr0;rw[AX (X0 hi)];generalize wy[i]=e at el;have em:ZeF e<2*L.length:=by unfold ZeF;split<;>omega
    have me:ZeF e≠e:=by unfold ZeF;split<;>omega
    obtain⟨r,h1,h2⟩:=My.NetR.rm hN el;obtain⟨r',h3,h4⟩:=My.NetR.rm hN em;refine⟨_,Zw,?_⟩
    walk_at"d"
    refine QF (Rz (N:=N') (f:=fun i j=>i-j) (k:=(e:Int)) (m:=r) (n:=a) U.net rfl (Qr rfl) (by omega) (by rw[Xz];exact h1) (Qr rfl) ?_)
    walk_at"d"
    rw[Xz];refine Rz (f:=fun i j=>i+j) (k:=(ZeF e:Int)) (m:=r') (n:=a) U.net rfl (Qu.cast (ZG (g:=Builtin.bitXor) (Qr rfl) Q8) (by rw[Sf])) (by omega) (by rw[Xz];show(N'.rooms.set e (r-a))[ZeF e]?=_;rw[Xw (Ne.symm me)];exact h3) (Qr rfl) ?_
    walk_at"d"
    rw[Xz];exact⟨_,_,My.NetR.push hN hd h2 h4,rfl⟩
inductive R_fill:Qz->List OT->(Qz->Prop)->Prop
 |mk {N:Qz} {y:Yd} {G:Gv} {φ:QS Nd} (h:NetR N (Zc y G) φ) (F:Flow y G φ) (l:(Zc y G).length<400):R_fill N [.fz (QT (nk .start)),.fz (QT (nk .fin))] (fun N'=>∃φ' es,NetR N' (Zc y G) φ'/\Flow y G φ'/\Nd.start∈QP es/\VN (Zc y G) φ' es/\Nd.fin∉QP es)
def Ha:Qp ["self","start","end","edges"] ZaA (Qy J4):=by walk_at"p"
def T7 (T:Bl mg) (U:Tx K mg C gS gE) (D:Mf K C "fill" "Net.fill" J4 ZaA) (Xa2:Zl P w K mg base C "reached" ZaC 1 (Ze K (R_reached P w C))) (Xbp:Zl P w K mg base C "push" ZaR 1 (spN K P w C R_push)) (Xbq:Zl P w K mg base C "way_to" Zaz 1 (Ze K (R_way P w C))) :
 Zl P w K mg base C "fill" ZaA 2 (spN K P w C R_fill):=by
 refine D.evN Ha (fun M ts Ψ h=>by cases h;rfl) (fun f cdv A outer s H E v M ts Ψ hr h=>?_)
 cases h with
 |@mk y G φ h F l =>
   refine⟨_,(Q7 (QY (i:=3) Ha.nd rfl Qa (Yt Xa2 U.net hr (pv 0) (Qo (pv 1) Qs)))
 (Q3 (D7 PassesOwn.never (Gi (M9 (YQ hr) (pv 2) (pv 3))) (Q7 (Z8 (Yt Xbp U.net hr (pv 0) (Qo (Yt Xbq U.net hr (pv 0) (Qo (pv 3) (Qo (pv 2) Qs))) Qs)))
 (Q3 (QY (i:=3) Ha.nd rfl Qa (Yt Xa2 U.net hr (pv 0) (Qo (pv 1) Qs)))))))),?_⟩
   show Q0 K _ [some _,some _,some _,none] _
   walk_at"x"
   have V2:∀{M:Qz} {φ:QS Nd} {u:Option OT} {E':XK},NetR M (Zc y G) φ->Zt K (VH C "reached" (Ze K (R_reached P w C)) [] E' (QD 0) (QE (QD 1) QO)) [some (.own v (Za P w C M)),some (.fz (QT (nk .start))),some (.fz (QT (nk .fin))),u] (fun r=>∃v' es,r=.own v' (Vq (kvG es))/\Tree (Zc y G) φ .start es/\VN (Zc y G) φ es):=fun h' =>
    Hm 0 rfl (fun r ⟨v',es,e,_⟩=>by subst e;exact C7 (FQ es)) (NU SD rfl (Qv (Qr rfl) Q9) (R_reached.mk h' l))
   refine QF (WJ (V2 h) (fun r hr'=>?_));obtain⟨v3,es,rfl,tr,cl⟩:=hr'
   walk_at"d"
   refine DD (fun m ρ'=>∃(M:Qz) (φ:QS Nd) (es:Got Nd) (v3:V),NetR M (Zc y G) φ/\Flow y G φ/\Tree (Zc y G) φ .start es/\VN (Zc y G) φ es/\m=(Q2 G.wa G.m-Vo (Zc y G) φ .start).toNat /\
    ρ'=[some (.own v (Za P w C M)),some (.fz (QT (nk .start))),some (.fz (QT (nk .fin))),some (.own v3 (Vq (kvG es)))]) _ ⟨M,φ,es,v3,h,F,tr,cl,rfl,rfl⟩ ?ws
   clear tr cl es v3 h F;rintro m _ ⟨M,φ,es,v3,h,F,tr,cl,rfl,rfl⟩;refine⟨_,ZH (LI (k:=nk .fin) (Qr rfl) rfl),fun c=>?_,fun c=>?_⟩
   ·rw[Gk]at c
    obtain⟨wy,q⟩:=tr.way .fin (XV c);have wl:=Nz q
    have wne:wy≠[]:=fun z=>by
     have:=q.chain
     rw[z]at this;cases this
    refine Rt 3 rfl ?_
    walk_at"d"
    refine QF (WQ (ΦA:=fun ts=>ts=[.fz (.list (Yg wy))]) Fk rfl (P7 (Φ:=fun r=>r=.ol (Yg wy)) (Hm 0 rfl (fun r e=>by subst e;exact NC (fun d hd=>by
     obtain⟨e,_,rfl⟩:=X4.mp hd
     exact⟨_,rfl⟩)) (NU Tr rfl (Be rfl (Qv (Qr rfl) Q9)) (R_way.mk h l q))) (fun r e=>⟨_,e,rfl⟩)) (fun ts hts=>?_))
    subst hts;refine⟨_,R_push.mk h (B3 y G) wne (fun e he=>let ⟨r,a,_⟩:=q.room e he;⟨r,a⟩) (by omega),fun N' hN=>?_⟩
    walk_at"d"
    obtain⟨m1,m2⟩:=DG (ns:=wy.map fun e=>(rmE (Zc y G) φ e).getD 0) (fun z=>wne (List.map_eq_nil_iff.mp z))
    have a0:0<amt (Zc y G) φ wy:=by
     obtain⟨e,he,ee⟩:=X4.mp m1;obtain⟨r,hr1,hr2⟩:=q.room e he;rw[hr1]at ee;show 0<Yh _;rw[<- ee];exact hr2
    obtain⟨F',nd⟩:=F.push (a:=amt (Zc y G) φ wy) (by omega) q.chain q.nodup (fun e he=>by
     obtain⟨r,hr1,_⟩:=q.room e he;refine⟨r,hr1,?_⟩
     have:=m2 _ (X4.mpr ⟨e,he,rfl⟩)
     rw[hr1]at this;exact this)
    refine WJ (V2 hN) (fun r hr'=>?_);obtain⟨v4,es',rfl,tr',cl'⟩:=hr'
    walk_at"d"
    refine⟨_,?_,N',_,es',v4,hN,F',tr',cl',rfl,rfl⟩
    have:=F'.most
    rw[nd]at this ⊢;omega
   ·rw[Gk]at c
    exact⟨M,⟨φ,es,h,F,tr.start,cl,UF c⟩,rfl⟩
structure GOk (y:Yd)(g:Gs):Prop where
 ln:g.line<y.ls.length
 w0:0<=g.want
 m0:0<=g.most
def Nc {y:Yd}{g:Gs}(h:g.Ok y):GOk y g:=⟨h.ln,by have:=h.w1;omega,by have:=h.m1;omega⟩
def QR (gs:List Gs):Gv:={ m:=gs.length,ln:=fun k=>(gs.getD k default).line,wa:=fun k=>(gs.getD k default).want,mo:=fun k=>(gs.getD k default).most,th:=fun k t=>Wg (gs.getD k default) (t:Int) }
def U1 {gs:List Gs}{k:Nat}(h:k<gs.length):gs.getD k default=gs[k]:=by simp[List.getD,h]
def FH (y:Yd)(G:Gv)(k:Nat):(ZT y G k).length<=1+y.T:=by
 unfold ZT;rw[XI];have:∀n,((List.range n).flatMap fun t=>if G.th k t=true then [((.guest k,.line (G.ln k) t,G.mo k):Nd×Nd×Int)] else []).length<=n:=by
  intro n;induction n with
  |zero=>simp
  |succ n ih =>
    rw[X6,JT,Xo];have:([n].flatMap fun t=>if G.th k t=true then [((.guest k,.line (G.ln k) t,G.mo k):Nd×Nd×Int)] else []).length<=1:=by
     simp only[BP,List.flatMap_nil,XG];split<;>simp
    omega
 have:=this y.T
 omega
def Cj {y:Yd}(h:1<=y.ls.length)(t:Nat):(Vz y t).length=y.ls.length:=by
 unfold Vz;rw[XI];have:∀n,((List.range n).flatMap fun i=>[((.line (i+1) t,.line (Mir.upN y (i+1)) t,Zy y (i+1) t):Nd×Nd×Int)]).length=n:=by
  intro n;induction n with
  |zero=>simp
  |succ n ih=>rw[X6,JT,Xo,ih];simp
 rw[this];omega
theorem Gy {f:Nat->Lay Nd}{c:Nat}(h:∀k,(f k).length<=c):∀n,((List.range n).flatMap f).length<=n*c
 |0=>by simp
 |n+1=>by
   rw[X6,JT,Xo];have a:=Gy h n;have b:([n].flatMap f).length<=c:=by simpa using h n
   rw[Nat.add_mul];omega
def G9 (f:Nat->Lay Nd)(n:Nat):(List.range (n+1)).flatMap f=(List.range n).flatMap f++f n:=by rw[X6,JT];simp
def Dv {f:Nat->Lay Nd}{n:Nat}{x:Nd×Nd×Int}:x∈(List.range n).flatMap f ↔ ∃k,k<n/\x∈f k:=by
 rw[YI];simp only[XT]
def BD {y:Yd}(ok:y.Ok)(G:Gv){n:Nat}(h:n<=8):((List.range n).flatMap (ZT y G)).length<=72:=by
 have a:=Gy (f:=ZT y G) (c:=9) (fun k=>by have:=FH y G k;have:=ok.t8;omega) n;omega
def DT {y:Yd}(ok:y.Ok){n:Nat}(h:n<=8):((List.range n).flatMap (Vz y)).length<=40:=by
 have a:=Gy (f:=Vz y) (c:=5) (fun k=>by rw[Cj ok.l1 k];exact ok.l5) n;omega
inductive R_gnode:List OT->OT->Prop
 |mk {k:Nat}:R_gnode [.fz (.int (k:Int))] (.fz (QT (nk (.guest k))))
def Ib:Qp ZaU ZaU (Qy HI):=by walk_at"p"
def LU (T:Bl mg) (D:Df K mg "guest_node" HI ZaU):QB P w K mg base "guest_node" ZaU 1 (QL (K:=K) R_gnode):=by
 refine D.ev Ib (fun ts r h=>by cases h;rfl) (fun _ _ _ _ s H E ts r hr h=>?_)
 cases h with
 |@mk k =>
   refine⟨_,(Q3 (QQ (WG (Qo VQ (Qo (pv 0) Qs))))),?_⟩;show Q0 K _ [some _] _
   walk_at"x"
   exact ZQ (Wt (ds:=[.str "guest",.int (k:Int)]) (QZ Y7 (QZ (Qr rfl) ZC)) W8) rfl
inductive R_lnode:List OT->OT->Prop
 |mk {l t:Nat}:R_lnode [.fz (.int (l:Int)),.fz (.int (t:Int))] (.fz (QT (nk (.line l t))))
def EJ:Qp ZaI ZaI (Qy Hg):=by walk_at"p"
def Fa (T:Bl mg) (D:Df K mg "line_node" Hg ZaI):QB P w K mg base "line_node" ZaI 1 (QL (K:=K) R_lnode):=by
 refine D.ev EJ (fun ts r h=>by cases h;rfl) (fun _ _ _ _ s H E ts r hr h=>?_)
 cases h with
 |@mk l t =>
   refine⟨_,(Q3 (QQ (WG (Qo VQ (Qo (pv 0) (Qo (pv 1) Qs)))))),?_⟩;show Q0 K _ [some _,some _] _
   walk_at"x"
   exact ZQ (Wt (ds:=[.str "line",.int (l:Int),.int (t:Int)]) (QZ Y7 (QZ (Qr rfl) (QZ (Qr rfl) ZC))) (by show(3:Nat)<=1000;decide)) rfl
inductive R_lguest:Qz->List OT->(Qz->Prop)->Prop
 |mk {N:Qz} {y:Yd} {gs:List Gs} {k:Nat} (ok:y.Ok) (g8:gs.length<=8) (hk:k<gs.length) (h:NetR N ((List.range k).flatMap (ZT y (QR gs))) Y4) :
  R_lguest N [.fz (QW y),.fz (.int (k:Int)),.fz (QM gs[k])] (fun N'=>NetR N' ((List.range (k+1)).flatMap (ZT y (QR gs))) Y4)
def Sy:Qp ["net","yard","number","guest","turn"] Zas (Qy He):=by walk_at"p"
def CS (T:Bl mg) (U:Tx K mg C gS gE) (D:Df K mg "lay_guest" He Zas) (Xa0:Zl P w K mg base C "lay" Zaa 2 (spN K P w C R_lay)) (XaY:QB P w K mg base "want_of" Zav 1 (QL (K:=K) R_want)) (Xa3:QB P w K mg base "guest_node" ZaU 1 (QL (K:=K) R_gnode))
 (XaU:QB P w K mg base "turns_of" ZaG 1 (QL (K:=K) R_turns)) (Xa4:QB P w K mg base "is_there" Zan 1 (QL (K:=K) R_there)) (Xa6:QB P w K mg base "most_of" Zav 1 (QL (K:=K) R_most)) (Xa1:QB P w K mg base "line_node" ZaI 1 (QL (K:=K) R_lnode)) (Xa5:QB P w K mg base "line_of" Zav 1 (QL (K:=K) R_lineof)) :
 QB P w K mg base "lay_guest" Zas 3 (spN K P w C R_lguest):=by
 refine D.evN Sy (fun M ts Ψ h=>by cases h;rfl) (fun f cdv A outer s H E v M ts Ψ hr h=>?_)
 cases h with
 |@mk y gs k ok g8 hk h =>
   refine⟨_,(Q7 (Z8 (Yt Xa0 U.net hr (pv 0) (Qo (YB (v:=.ref _) rfl U.mSTART rfl) (Qo (QG Xa3 hr (Qo (pv 2) Qs)) (Qo (QG XaY hr (Qo (pv 3) Qs)) Qs)))))
 (Q3 (Vn PassesOwn.never rfl (Yl rfl T.range (Qo (QG XaU hr (Qo (pv 1) Qs)) Qs)) (Zj (i:=4) Sy.nd rfl Qa) (Q3 (Z0 (Vg (QG Xa4 hr (Qo (pv 3) (Qo (pv 4) Qs)))) (Q3 (Z8 (Yt Xa0 U.net hr (pv 0) (Qo (QG Xa3 hr (Qo (pv 2) Qs)) (Qo (QG Xa1 hr (Qo (QG Xa5 hr (Qo (pv 3) Qs)) (Qo (pv 4) Qs))) (Qo (QG Xa6 hr (Qo (pv 3) Qs)) Qs)))))) Z4))))),?_⟩
   show Q0 K _ [some _,some _,some _,some _,none] _
   walk_at"x"
   have t8:=ok.t8;have gl:=BD ok (QR gs) (n:=k) (by omega);have gk:=U1 hk;have ew:(QR gs).wa k=gs[k].want:=by show(gs.getD k default).want=_;rw[gk]
   have glb:∀x∈(List.range k).flatMap (ZT y (QR gs)),∃j,j<k/\x∈ZT y (QR gs) j:=fun x hx=>Dv.mp hx;refine QF (WQ (ΦA:=fun ts=>ts=[.fz (QT (nk .start)),.fz (QT (nk (.guest k))),.fz (.int gs[k].want)]) Bu rfl (Ww (Qv (D9 U.aS) (Qv (Zd (Qv (Qr rfl) Q9) R_gnode.mk) (Qv (Zd (Qv (Qr rfl) Q9) R_want.mk) Q9))) rfl) (fun ts hts=>?_));subst hts;refine⟨_,R_lay.mk h ?n0 (by omega),fun N1 hN1=>?_⟩
   case n0 =>
    intro hm;obtain⟨x,hx,ex⟩:=X4.mp hm;obtain⟨j,hj,hx⟩:=glb x hx;injection ex with e1 e2
    rcases Wc.mp hx with rfl|⟨t,_,_,rfl⟩
    ·injection e2 with e2
     omega
    ·cases e1
   walk_at"d"
   refine VR (ds:=ZN 0 y.T) (fun i ρ'=>∃(N':Qz) (u4:Option OT),NetR N' ((List.range k).flatMap (ZT y (QR gs))++((.start,.guest k,(QR gs).wa k)::(List.range i).flatMap fun t=>if (QR gs).th k t=true then [(.guest k,.line ((QR gs).ln k) t,(QR gs).mo k)] else [])) Y4 /\
    ρ'=[some (.own v (Za P w C N')),some (.fz (QW y)),some (.fz (.int (k:Int))),some (.fz (QM gs[k])),u4]) ?ei ⟨N1,none,by rw[ew];exact hN1,rfl⟩ ?st ?fin
   case ei=>exact EvI.cast (Yy (Qv (Zd (Qv (Qr rfl) Q9) R_turns.mk) Q9) (by rw[z62];omega) (by rw[z62];omega)) (W0 rfl (by omega))
   case fin =>
    rintro _ ⟨N',u4,hN,rfl⟩
    rw[W1]at hN;refine⟨N',?_,rfl⟩;rw[G9];exact hN
   case st =>
    rintro t d _ hd ⟨N',u4,hN,rfl⟩
    obtain⟨ht,rfl⟩:=Yw hd;rw[YF];refine⟨_,Zw,?_⟩
    walk_at"d"
    have et:Wg gs[k] (t:Int)=(QR gs).th k t:=by show _=Wg (gs.getD k default) (t:Int);rw[gk]
    refine Zz (b:=(QR gs).th k t) (Zb.cast (ZH (Zd (Qv (Qr rfl) (Qv (Qr rfl) Q9)) R_there.mk)) et) (fun c=>?_) (fun c=>Z7 ?_)
    ·refine WQ (ΦA:=fun ts=>ts=[.fz (QT (nk (.guest k))),.fz (QT (nk (.line gs[k].line t))),.fz (.int gs[k].most)]) Bu rfl (Ww (Qv (Zd (Qv (Qr rfl) Q9) R_gnode.mk) (Qv (Zd (Qv (Zd (Qv (Qr rfl) Q9) R_lineof.mk) (Qv (Qr rfl) Q9)) R_lnode.mk) (Qv (Zd (Qv (Qr rfl) Q9) R_most.mk) Q9))) rfl) (fun ts hts=>?_)
     subst hts;refine⟨_,R_lay.mk hN ?n1 ?l1,fun N2 hN2=>?_⟩
     case n1 =>
      intro hm;obtain⟨x,hx,ex⟩:=X4.mp hm;injection ex with e1 e2
      rcases XH.mp hx with hx|hx
      ·obtain⟨j,hj,hx⟩:=glb x hx
       rcases Wc.mp hx with rfl|⟨t',_,_,rfl⟩
       ·cases e1
       ·injection e1 with e1
        omega
      ·rcases Xg.mp hx with rfl|hx
       ·cases e1
       ·obtain⟨t',ht',hx⟩:=YI.mp hx
        split at hx
        ·rw[Xi.mp hx]at e2
         injection e2 with _ e2
         have:=XT.mp ht'
         omega
        ·cases hx
     case l1 =>
      rw[Xo];have:(((.start,.guest k,(QR gs).wa k):Nd×Nd×Int)::(List.range t).flatMap fun t=>if (QR gs).th k t=true then [((.guest k,.line ((QR gs).ln k) t,(QR gs).mo k):Nd×Nd×Int)] else []).length<=1+t*1:=by
       rw[XI];have:=Gy (f:=fun t=>if (QR gs).th k t=true then [((.guest k,.line ((QR gs).ln k) t,(QR gs).mo k):Nd×Nd×Int)] else []) (c:=1) (fun t=>by split<;>simp) t;omega
      omega
     walk_at"d"
     refine⟨N2,_,?_,rfl⟩;rw[G9,Xd c];have e1:(QR gs).ln k=gs[k].line:=by show(gs.getD k default).line=_;rw[gk]
     have e2:(QR gs).mo k=gs[k].most:=by show(gs.getD k default).most=_;rw[gk]
     rw[<- e1,<- e2,UE]at hN2;exact hN2
    ·refine⟨N',_,?_,rfl⟩
     rw[G9,Xb (by rw[c];decide),XG];exact hN
inductive R_lturn:Qz->List OT->(Qz->Prop)->Prop
 |mk {N:Qz} {y:Yd} {G:Gv} {t:Nat} (ok:y.Ok) (g8:G.m<=8) (ht:t<y.T) (h:NetR N ((List.range G.m).flatMap (ZT y G)++(List.range t).flatMap (Vz y)) Y4) :
  R_lturn N [.fz (QW y),.fz (.int (t:Int))] (fun N'=>NetR N' ((List.range G.m).flatMap (ZT y G)++(List.range (t+1)).flatMap (Vz y)) Y4)
def SC:Qp ["net","yard","turn","line"] ZaE (Qy Hw):=by walk_at"p"
def Ft (T:Bl mg) (U:Tx K mg C gS gE) (D:Df K mg "lay_turn" Hw ZaE) (Xa0:Zl P w K mg base C "lay" Zaa 2 (spN K P w C R_lay)) (XaX:QB P w K mg base "bound_at" Zar 1 (QL (K:=K) R_bound)) (Xa1:QB P w K mg base "line_node" ZaI 1 (QL (K:=K) R_lnode))
 (XaW:QB P w K mg base "line_count" ZaG 1 (QL (K:=K) R_count)) (Xa7:QB P w K mg base "above_of" ZaH 1 (QL (K:=K) R_above)):QB P w K mg base "lay_turn" ZaE 3 (spN K P w C R_lturn):=by
 refine D.evN SC (fun M ts Ψ h=>by cases h;rfl) (fun f cdv A outer s H E v M ts Ψ hr h=>?_)
 cases h with
 |@mk y G t ok g8 ht h =>
   refine⟨_,(Q7 (Z8 (Yt Xa0 U.net hr (pv 0) (Qo (QG Xa1 hr (Qo Qx (Qo (pv 2) Qs))) (Qo (YB (v:=.ref _) rfl U.mEND rfl) (Qo (QG XaX hr (Qo (pv 1) (Qo Qx (Qo (pv 2) Qs)))) Qs)))))
 (Q3 (Vn PassesOwn.never rfl (RO rfl T.range (Qo Qx (Qo (QG XaW hr (Qo (pv 1) Qs)) Qs))) (Zj (i:=3) SC.nd rfl Qa) (Q3 (Z8 (Yt Xa0 U.net hr (pv 0) (Qo (QG Xa1 hr (Qo (pv 3) (Qo (pv 2) Qs))) (Qo (QG Xa1 hr (Qo (QG Xa7 hr (Qo (pv 1) (Qo (pv 3) Qs))) (Qo (pv 2) Qs))) (Qo (QG XaX hr (Qo (pv 1) (Qo (pv 3) (Qo (pv 2) Qs)))) Qs))))))))),?_⟩
   show Q0 K _ [some _,some _,some _,none] _
   walk_at"x"
   have t8:=ok.t8;have l1:=ok.l1;have l5:=ok.l5;have gl:=BD ok G g8;have tl:=DT ok (n:=t) (by omega)
   have glb:∀x∈(List.range G.m).flatMap (ZT y G)++(List.range t).flatMap (Vz y),(∃j,x∈ZT y G j)\/∃t',t'<t/\x∈Vz y t':=fun x hx=>by
    rcases XH.mp hx with hx|hx
    ·obtain⟨j,_,hx⟩:=Dv.mp hx
     exact .inl ⟨j,hx⟩
    ·obtain⟨j,hj,hx⟩:=Dv.mp hx
     exact .inr ⟨j,hj,hx⟩
   refine QF (WQ (ΦA:=fun ts=>ts=[.fz (QT (nk (.line 0 t))),.fz (QT (nk .fin)),.fz (.int (Zy y 0 t))]) Bu rfl (Ww (Qv (Zd (Qv Q8 (Qv (Qr rfl) Q9)) (R_lnode.mk (l:=0))) (Qv (Nh U.aE) (Qv (Zd (Qv (Qr rfl) (Qv Q8 (Qv (Qr rfl) Q9))) (R_bound.mk (k:=0) (t:=(t:Int)) ok (by decide) (by omega) (by omega) (by omega))) Q9))) ?e0) (fun ts hts=>?_))
   case e0=>rw[Xz];rfl
   subst hts;refine⟨_,R_lay.mk h ?n0 (by rw[Xo];omega),fun N1 hN1=>?_⟩
   case n0 =>
    intro hm;obtain⟨x,hx,ex⟩:=X4.mp hm;injection ex with e1 e2
    rcases glb x hx with ⟨j,hx⟩|⟨t',ht',hx⟩
    ·rcases Wc.mp hx with rfl|⟨u,_,_,rfl⟩<;>cases e1
    ·rcases WR.mp hx with rfl|⟨i,_,rfl⟩
     ·injection e1 with _ e1
      omega
     ·cases e2
   walk_at"d"
   refine VR (ds:=ZN 1 (y.ls.length-1)) (fun i ρ'=>∃(N':Qz) (u3:Option OT),NetR N' (((List.range G.m).flatMap (ZT y G)++(List.range t).flatMap (Vz y))++((.line 0 t,.fin,Zy y 0 t)::(List.range i).flatMap fun i=>[(.line (i+1) t,.line (Mir.upN y (i+1)) t,Zy y (i+1) t)])) Y4 /\
    ρ'=[some (.own v (Za P w C N')),some (.fz (QW y)),some (.fz (.int (t:Int))),u3]) ?ei ⟨N1,none,by simpa using hN1,rfl⟩ ?st ?fin
   case ei=>exact EvI.cast (Dr (Qv Q8 (Qv (Zd (Qv (Qr rfl) Q9) R_count.mk) Q9)) (by rw[z62];omega)) (W0 rfl (by omega))
   case fin =>
    rintro _ ⟨N',u3,hN,rfl⟩
    rw[W1]at hN;refine⟨N',?_,rfl⟩;rw[G9,<- UE];exact hN
   case st =>
    rintro i d _ hd ⟨N',u3,hN,rfl⟩
    obtain⟨hi,rfl⟩:=Yw hd;have ei:(1:Int)+(i:Int)=((i+1:Nat):Int):=by omega
    rw[ei];refine⟨_,Zw,?_⟩
    walk_at"d"
    refine WQ (ΦA:=fun ts=>ts=[.fz (QT (nk (.line (i+1) t))),.fz (QT (nk (.line (Mir.upN y (i+1)) t))),.fz (.int (Zy y (i+1) t))]) Bu rfl (Ww (Qv (Zd (Qv (Qr rfl) (Qv (Qr rfl) Q9)) (R_lnode.mk (l:=i+1))) (Qv (Zd (Qv (Zd (Qv (Qr rfl) (Qv (Qr rfl) Q9)) (R_above.mk (k:=((i+1:Nat):Int)) ok (by omega) (by omega))) (Qv (Qr rfl) Q9)) (R_lnode.mk (l:=upN y (((i+1:Nat):Int)).toNat))) (Qv (Zd (Qv (Qr rfl) (Qv (Qr rfl) (Qv (Qr rfl) Q9))) (R_bound.mk (k:=((i+1:Nat):Int)) (t:=(t:Int)) ok (by omega) (by omega) (by omega) (by omega))) Q9))) ?e1) (fun ts hts=>?_)
    case e1=>rw[Xz,Xz];rfl
    subst hts;refine⟨_,R_lay.mk hN ?n1 ?l1,fun N2 hN2=>?_⟩
    case n1 =>
     intro hm;obtain⟨x,hx,ex⟩:=X4.mp hm;injection ex with e1 e2
     rcases XH.mp hx with hx|hx
     ·rcases glb x hx with ⟨j,hx⟩|⟨t',ht',hx⟩
      ·rcases Wc.mp hx with rfl|⟨u,_,_,rfl⟩<;>cases e1
      ·rcases WR.mp hx with rfl|⟨i',_,rfl⟩
       ·cases e2
       ·injection e1 with _ e1
        omega
     ·rcases Xg.mp hx with rfl|hx
      ·cases e2
      ·obtain⟨i',hi',hx⟩:=YI.mp hx
       rw[Xi.mp hx]at e1;injection e1 with e1 _
       have:=XT.mp hi'
       omega
    case l1 =>
     rw[Xo,Xo,XI];have:=Gy (f:=fun i=>[((.line (i+1) t,.line (Mir.upN y (i+1)) t,Zy y (i+1) t):Nd×Nd×Int)]) (c:=1) (fun i=>by simp) i;omega
    walk_at"d"
    refine⟨N2,_,?_,rfl⟩;rw[G9];rw[UE]at hN2;exact hN2
def ST (y:Yd)(G:Gv)(φ:QS Nd):Prop:=Flow y G φ/\∃es:Got Nd,Nd.start∈QP es/\VN (Zc y G) φ es/\Nd.fin∉QP es
inductive R_filled (P:Program)(w:World)(C:Addr):List OT->(OT->Prop)->Prop
 |mk {y:Yd} {gs:List Gs} (ok:y.Ok) (hg:∀g∈gs,GOk y g) (g8:gs.length<=8):R_filled P w C [.fz (QW y),.fz (.list (gs.map QM))] (fun r=>∃v N φ,r=.own v (Za P w C N)/\NetR N (Zc y (QR gs)) φ/\ST y (QR gs) φ)
def KF {y:Yd}(ok:y.Ok){l t:Nat}(hl:l<y.ls.length)(ht:t<y.T):0<=Zy y l t:=by
 rw[Hn hl];have h1:=DC ok hl;have hm:ZV y l∈y.ls:=by simp[ZV,hl]
 have:(ZV y l).bs.getD t 0=(ZV y l).bs[t]'(by omega):=by simp[List.getD,show t<(ZV y l).bs.length by omega]
 rw[this];exact(ok.bb _ hm _ (XY _)).1
def Tn {y:Yd}(ok:y.Ok){gs:List Gs}(hg:∀g∈gs,GOk y g):∀x∈Zc y (QR gs),0<=x.2.2:=fun x hx=>by
 have l1:=ok.l1
 rcases G0.mp hx with ⟨k,hk,hx⟩|⟨t,ht,hx⟩
 ·have gk:GOk y (gs.getD k default):=by rw[U1 hk];exact hg _ (XY _)
  rcases Wc.mp hx with rfl|⟨t,_,_,rfl⟩
  ·exact gk.w0
  ·exact gk.m0
 ·rcases WR.mp hx with rfl|⟨i,hi,rfl⟩
  ·exact KF ok (by omega) ht
  ·exact KF ok (by omega) ht
def GC:Qp ["yard","guests","net","number","guest","turn"] Zaf (Qy HH):=by walk_at"p"
def Aa (T:Bl mg) (U:Tx K mg C gS gE) (D:Df K mg "filled_net" HH Zaf) (Xbr:Mi P w K mg base "Net" C 1) (Xbs:QB P w K mg base "lay_guest" Zas 3 (spN K P w C R_lguest)) (XaU:QB P w K mg base "turns_of" ZaG 1 (QL (K:=K) R_turns))
 (Xbt:QB P w K mg base "lay_turn" ZaE 3 (spN K P w C R_lturn)) (Xbu:Zl P w K mg base C "fill" ZaA 2 (spN K P w C R_fill)):QB P w K mg base "filled_net" Zaf 4 (Ze K (R_filled P w C)):=by
 refine D.evD GC (fun ts Φ h=>by cases h;rfl) (fun _ _ _ _ s H E ts Φ hr h=>?_)
 cases h with
 |@mk y gs ok hg g8 =>
   refine⟨_,(Q7 (QY (i:=2) GC.nd rfl Qa (L5 Xbr hr))
 (Q7 (Vn PassesOwn.never rfl (S7 rfl T.enumerate (Qo (pv 1) Qs)) (Bd (n:=2) rfl (Ym (Zj (i:=3) GC.nd rfl Qa) (Ym (Zj (i:=4) GC.nd rfl Qa) Gu))) (Q3 (Z8 (QG Xbs hr (Qo (pv 2) (Qo (pv 0) (Qo (pv 3) (Qo (pv 4) Qs))))))))
 (Q7 (Vn PassesOwn.never rfl (Yl rfl T.range (Qo (QG XaU hr (Qo (pv 0) Qs)) Qs)) (Zj (i:=5) GC.nd rfl Qa) (Q3 (Z8 (QG Xbt hr (Qo (pv 2) (Qo (pv 0) (Qo (pv 5) Qs)))))))
 (Q7 (Z8 (Yt Xbu U.net hr (pv 2) (Qo (YB (v:=.ref _) rfl U.mSTART rfl) (Qo (YB (v:=.ref _) rfl U.mEND rfl) Qs))))
 (Q3 (QQ (pv 2))))))),?_⟩
   show Q0 K _ [some _,some _,none,none,none,none] _
   walk_at"x"
   have t8:=ok.t8;refine QF (Di Lx (fun v=>?_))
   walk_at"d"
   refine QF (VR (ds:=Uh (gs.map QM)) (fun i ρ'=>∃(N':Qz) (u3 u4:Option OT),NetR N' ((List.range i).flatMap (ZT y (QR gs))) Y4/\ρ'=[some (.fz (QW y)),some (.fz (.list (gs.map QM))),some (.own v (Za P w C N')),u3,u4,none]) (MI (Qv (Qr rfl) Q9)) ⟨_,none,none,Pl _,rfl⟩ ?st ?fin)
   case st =>
    rintro i d _ hd ⟨N',u3,u4,hN,rfl⟩
    obtain⟨a,ha,rfl⟩:=DI hd
    have hi:i<gs.length:=by
     have:=(Xh.mp ha).1
     simpa using this
    obtain rfl:a=QM gs[i]:=by simpa [hi] using ha.symm
    refine⟨_,Ue (ds:=[.int (i:Int),QM gs[i]]) (VZ Zw (VZ Zw Up)) rfl,?_⟩
    walk_at"d"
    refine Rs (ΦA:=fun ts=>ts=[.fz (QW y),.fz (.int (i:Int)),.fz (QM gs[i])]) rfl (Ww (Qv (Qr rfl) (Qv (Qr rfl) (Qv (Qr rfl) Q9))) rfl) (fun ts hts=>?_);subst hts;refine⟨_,R_lguest.mk ok g8 hi hN,fun N2 hN2=>?_⟩
    walk_at"d"
    exact⟨N2,_,_,hN2,rfl⟩
   case fin =>
    rintro _ ⟨N1,u3,u4,hN1,rfl⟩
    rw[DW,Xn]at hN1;refine QF (VR (ds:=ZN 0 y.T) (fun i ρ'=>∃(N':Qz) (u5:Option OT),NetR N' ((List.range (QR gs).m).flatMap (ZT y (QR gs))++(List.range i).flatMap (Vz y)) Y4/\ρ'=[some (.fz (QW y)),some (.fz (.list (gs.map QM))),some (.own v (Za P w C N')),u3,u4,u5]) ?ei2 ⟨N1,none,by rw[show(List.range 0).flatMap (Vz y)=[] from rfl,XG];exact hN1,rfl⟩ ?st2 ?fin2)
    case ei2=>exact EvI.cast (Yy (Qv (Zd (Qv (Qr rfl) Q9) R_turns.mk) Q9) (by rw[z62];omega) (by rw[z62];omega)) (W0 rfl (by omega))
    case st2 =>
     rintro t d _ hd ⟨N',u5,hN,rfl⟩
     obtain⟨ht,rfl⟩:=Yw hd;rw[YF];refine⟨_,Zw,?_⟩
     walk_at"d"
     refine Rs (ΦA:=fun ts=>ts=[.fz (QW y),.fz (.int (t:Int))]) rfl (Ww (Qv (Qr rfl) (Qv (Qr rfl) Q9)) rfl) (fun ts hts=>?_);subst hts;refine⟨_,R_lturn.mk ok g8 ht hN,fun N2 hN2=>?_⟩
     walk_at"d"
     exact⟨N2,_,hN2,rfl⟩
    case fin2 =>
     rintro _ ⟨N',u5,hN,rfl⟩
     rw[W1]at hN;have hN:NetR N' (Zc y (QR gs)) Y4:=hN
     have ll:(Zc y (QR gs)).length<400:=by
      unfold Zc;rw[Xo];have a:=BD ok (QR gs) (n:=(QR gs).m) g8;have b:=DT ok t8;omega
     refine QF (WQ (ΦA:=fun ts=>ts=[.fz (QT (nk .start)),.fz (QT (nk .fin))]) Cm rfl (Ww (Qv (D9 U.aS) (Qv (Nh U.aE) Q9)) rfl) (fun ts hts=>?_));subst hts;refine⟨_,R_fill.mk hN (Pw (Tn ok hg)) ll,fun N2 hN2=>?_⟩;obtain⟨φ',es,h1,h2,h3,h4,h5⟩:=hN2
     walk_at"d"
     exact Da rfl ⟨v,N2,φ',rfl,h1,h2,es,h3,h4,h5⟩
def Ve (y:Yd)(G:Gv)(S:Qm):Int:=Q2 (Zi S G.wa) G.m-Q2 (fun t=>passes y (fun l=>Zy y l t) (Wn G S t) 0) y.T
def M3 (y:Yd)(G:Gv)(φ:QS Nd):Int:=Q2 (fun k=>G.wa k-Q2 (fun t=>Zp G φ t k) y.T) G.m
def CN {y:Yd}{G:Gv}{φ:QS Nd}(F:Flow y G φ)(ok:y.Ok)(hln:∀k,k<G.m->G.ln k<y.ls.length)(S:Qm):Ve y G S<=M3 y G φ:=by
 have nn:∀k,k<G.m->0<=G.wa k-Q2 (fun t=>Zp G φ t k) y.T:=fun k hk=>by
  rw[F.total hk];have:=F.want hk;omega
 have h1:Q2 (Zi S fun k=>G.wa k-Q2 (fun t=>Zp G φ t k) y.T) G.m<=M3 y G φ:=Wh fun k hk=>D0 (nn k hk)
 have h2:Q2 (Zi S fun k=>G.wa k-Q2 (fun t=>Zp G φ t k) y.T) G.m=Q2 (Zi S G.wa) G.m-Q2 (Zi S fun k=>Q2 (fun t=>Zp G φ t k) y.T) G.m:=by
  rw[<- D6];refine Zm fun k _=>?_;unfold Zi;dsimp only;split<;>omega
 have h3:Q2 (fun t=>Q2 (Zi S (Zp G φ t)) G.m) y.T=Q2 (Zi S fun k=>Q2 (fun t=>Zp G φ t k) y.T) G.m:=by
  rw[BA (fun t k=>Zi S (Zp G φ t) k) y.T G.m];refine Zm fun k _=>?_;unfold Zi;cases S k with
  |true=>rfl
  |false=>simp only[XZ,if_false];exact VB _
 have h4:Q2 (fun t=>Q2 (Zi S (Zp G φ t)) G.m) y.T<=Q2 (fun t=>passes y (fun l=>Zy y l t) (Wn G S t) 0) y.T:=Wh fun t ht=>F.no_more ok hln S ht;unfold Ve;omega
def Nk {y:Yd}{gs:List Gs}(hg:∀g∈gs,GOk y g):∀k,k<(QR gs).m->(QR gs).ln k<y.ls.length:=fun k hk=>by
 show(gs.getD k default).line<_
 rw[U1 hk];exact(hg _ (XY _)).ln
def Zu (gs:List Gs)(S:Qm):Qk:=(List.range gs.length).filter S
def G4 {gs:List Gs}(g8:gs.length<=8)(S:Qm):SetOk gs (Zu gs S) :=
 ⟨fun k hk=>XT.mp (List.mem_filter.mp hk).1,X7 (BU _ _) (by simpa using g8)⟩
theorem BB (f:Qn):∀n,((List.range n).map f).sum=Q2 f n
 |0=>rfl
 |n+1=>by rw[X6,XD,GG,BB f n];simp[Q2]
theorem So (f:Qn)(p:Qm):∀n,(((List.range n).filter p).map f).sum=Q2 (Zi p f) n
 |0=>rfl
 |n+1=>by
   rw[X6,UG,XD,GG,So f p n];show _=Q2 (Zi p f) n+Zi p f n;unfold Zi;cases e:p n with
   |true=>simp[JP,e]
   |false=>simp[JP,e]
def T3 (gs:List Gs)(S:Qm)(t l:Nat):Wn (QR gs) S t l=Wa gs t (Zu gs S) l:=by
 show _=Z3 gs (t:Int) l ((List.range gs.length).filter S);rw[A7];unfold Wn;refine Zm fun k hk=>?_;have hk:k<gs.length:=hk;unfold Zi moT wgt ind;rw[X0 hk];have e1:(QR gs).th k t=Wg gs[k] (t:Int):=by show Wg (gs.getD k default) _=_;rw[U1 hk]
 have e2:(QR gs).mo k=gs[k].most:=by show(gs.getD k default).most=_;rw[U1 hk]
 have e3:(QR gs).ln k=gs[k].line:=by show(gs.getD k default).line=_;rw[U1 hk]
 rw[e1,e2,e3];cases S k with
 |false=>simp
 |true =>
   simp only[if_true];by_cases c:gs[k].line=l
   ·by_cases d:Wg gs[k] (t:Int)=true
    ·simp[c,d]
    ·simp[c,d]
   ·simp[c]
def Jx (gs:List Gs)(sm:Qk):Int:=(sm.map fun k=>(gs.getD k default).want).sum
def J7 (y:Yd)(gs:List Gs)(S:Qm):Ve y (QR gs) S=Jx gs (Zu gs S)-Wz y gs (Zu gs S):=by
 unfold Ve;congr 1
 ·exact(So _ S gs.length).symm
 ·unfold Wz
  rw[BB];refine Zm fun t _=>?_;unfold YC;rw[show Wn (QR gs) S t=Wa gs t (Zu gs S) from funext fun l=>T3 gs S t l]
def MG (y:Yd)(G:Gv)(φ:QS Nd)(es:Got Nd):Prop:=Flow y G φ/\Nd.start∈QP es/\VN (Zc y G) φ es/\Nd.fin∉QP es
inductive R_lset:List OT->(OT->Prop)->Prop
 |mk {y:Yd} {gs:List Gs} (ok:y.Ok) (hg:∀g∈gs,GOk y g) (g8:gs.length<=8):R_lset [.fz (QW y),.fz (.list (gs.map QM))] (fun r=>∃φ es,MG y (QR gs) φ es/\r=.ol (QX (Zu gs (Vu es))))
def SJ:Qp ["yard","guests","edges"] Zaf (Qy BN):=by walk_at"p"
def Ey (T:Bl mg) (U:Tx K mg C gS gE) (D:Df K mg "guests_reached" BN Zaf) (Xbv:QB P w K mg base "filled_net" Zaf 4 (Ze K (R_filled P w C))) (Xa2:Zl P w K mg base C "reached" ZaC 1 (Ze K (R_reached P w C))) (Xa3:QB P w K mg base "guest_node" ZaU 1 (QL (K:=K) R_gnode)) :
 QB P w K mg base "guests_reached" Zaf 5 (Ze K R_lset):=by
 refine D.evD SJ (fun ts Φ h=>by cases h;rfl) (fun _ _ _ _ s H E ts Φ hr h=>?_)
 cases h with
 |@mk y gs ok hg g8 =>
   refine⟨_,(Q7 (QY (i:=2) SJ.nd rfl (Or.inr rfl) (Yt Xa2 U.net hr (QG Xbv hr (Qo (pv 0) (Qo (pv 1) Qs))) (Qo (YB (v:=.ref _) rfl U.mSTART rfl) Qs)))
 (Q3 (QQ (Wr (NX:=["yard","guests","edges"]) (sc:=Qy BN) (N:=["number","edges"]) (f:=[none,some 2]) rfl (by decide +kernel) rfl rfl (Yl rfl T.range (Qo (Zg Vx (by rfl) T.len Vm (Qo (pv 1) Qs)) Qs)) (fun _=>(Zj (i:=0) (show(["number","edges"]:Qh).Nodup by decide +kernel) rfl Qa)) (fun _=>Yk) (fun _=>(Gn (Gi (M9 (YQ hr) (QG Xa3 hr (Qo (pv 0) Qs)) (pv 1))))) (fun _=>(pv 0)))))),?_⟩
   show Q0 K _ [some _,some _,none] _
   walk_at"x"
   have ll:(Zc y (QR gs)).length<400:=by
    unfold Zc;rw[Xo];have a:=BD ok (QR gs) (n:=(QR gs).m) g8;have b:=DT ok ok.t8;omega
   refine QF (WJ (Φ:=fun r=>∃v φ es,r=.own v (Vq (kvG es))/\MG y (QR gs) φ es) (Fe (P:=P) (w:=w) SD (WK (Qv (Qr rfl) (Qv (Qr rfl) Q9)) (R_filled.mk ok hg g8)) (fun r hr'=>?_) (Qv (D9 U.aS) Q9)) (fun r hr'=>?_))
   ·obtain⟨v,N,φ,rfl,hN,F,es0,h1,h2,h3⟩:=hr'
    refine⟨v,N,rfl,_,R_reached.mk (s:=.start) hN ll,fun r ⟨v',es,e,tr,cl⟩=>⟨v',φ,es,e,F,tr.start,cl,fun z=>h3 (tr.inClosed h2 h1 _ z)⟩⟩
   ·obtain⟨v,φ,es,rfl,fb⟩:=hr'
    walk_at"d"
    refine Rt 2 rfl ?_
    walk_at"d"
    refine Js (r:=.ol (QX (Zu gs (Vu es)))) (Ge (xs:=List.range gs.length) (enc:=fun(j:Nat)=>PyData.int (j:Int)) (h:=fun(j:Nat)=>PyData.int (j:Int)) (p:=Vu es) ?ei (by simp;omega) ?el) ⟨φ,es,fb,rfl⟩
    case ei =>
     have e:(gs.map QM).length=gs.length:=by simp
     refine EvI.cast (Yy (Qv (Y6 (Qr rfl)) Q9) (by rw[z62,e];omega) (by rw[z62,e];omega)) ?_;rw[e,Xz];unfold ZN;refine Ja fun i _=>?_;rw[YF]
    case el =>
     intro k hk c;refine⟨_,Zw,?_,fun _=>?_⟩
     ·walk_at"e"
      exact Zb.cast (ZH (Po (k:=nk (.guest k)) (Zd (Qv (Qr rfl) Q9) R_gnode.mk) rfl)) (Gk _ _)
     ·walk_at"e"
      exact Qr rfl
def Im:Qp Zaf Zaf (Qy HB):=by walk_at"p"
def Tv (T:Bl mg) (D:Df K mg "lacking_set" HB Zaf) (Xbw:QB P w K mg base "guests_reached" Zaf 5 (Ze K R_lset)):QB P w K mg base "lacking_set" Zaf 6 (Ze K R_lset):=by
 refine D.evD Im (fun ts Φ h=>by cases h;rfl) (fun _ _ _ _ s H E ts Φ hr h=>?_);have h0:=h
 cases h with
 |@mk y gs ok hg g8 =>
   refine⟨_,(Q3 (QQ (QG Xbw hr (Qo (pv 0) (Qo (pv 1) Qs))))),?_⟩;show Q0 K _ [some _,some _] _
   walk_at"x"
   exact TB (WK (Qv (Qr rfl) (Qv (Qr rfl) Q9)) h0) (fun r hr'=>hr')
def Ys (y:Yd)(gs:List Gs)(sm:Qk):Int:=Jx gs sm-Wz y gs sm
inductive R_short:List OT->OT->Prop
 |mk {y:Yd} {gs:List Gs} {sm:Qk} (ok:y.Ok) (hg:∀g∈gs,g.Ok y) (hs:SetOk gs sm) :
  R_short [.fz (QW y),.fz (.list (gs.map QM)),.fz (.list (QX sm))] (.fz (.int (Ys y gs sm)))
def E3:Qp Zac Zac (Qy BE):=by walk_at"p"
def FG (T:Bl mg) (D:Df K mg "short_of" BE Zac) (XaY:QB P w K mg base "want_of" Zav 1 (QL (K:=K) R_want)) (Xbx:QB P w K mg base "given_most" Zac 4 (QL (K:=K) R_givenm)) :
 QB P w K mg base "short_of" Zac 5 (QL (K:=K) R_short):=by
 refine D.ev E3 (fun ts r h=>by cases h;rfl) (fun _ _ _ _ s H E ts r hr h=>?_)
 cases h with
 |@mk y gs sm ok hg hs =>
   refine⟨_,(Q3 (QQ (QU Y9 (Zg MK (by rfl) T.sum MS (Qo (Wr (NX:=Zac) (sc:=Qy BE) (N:=["number","guests"]) (f:=[none,some 1]) rfl (by decide +kernel) rfl rfl (YY (pv 2)) (fun _=>(Zj (i:=0) (show(["number","guests"]:Qh).Nodup by decide +kernel) rfl Qa)) (fun _=>Yk) (fun _=>Jv) (fun _=>(QG XaY hr (Qo (QH QI (pv 1) (pv 0)) Qs)))) Qs)) (QG Xbx hr (Qo (pv 0) (Qo (pv 1) (Qo (pv 2) Qs))))))),?_⟩;show Q0 K _ [some _,some _,some _] _
   walk_at"x"
   have n8:=hs.len;refine ZQ (ZG (GV (ns:=sm.map fun k=>(gs.getD k default).want) ?_ rfl) (Zd (by walk_at"ea") (R_givenm.mk ok hg hs))) rfl
   refine EvO.fz ?_;rw[Wl];refine Uk (xs:=sm) (enc:=fun(j:Nat)=>PyData.int (j:Int)) ?_ (by omega) ?_
   ·walk_at"ei"
   ·intro x hx c
    have hk:=hs.mem x hx;refine⟨_,by walk_at"g",?_⟩
    walk_at"e"
    refine Zd (ts:=[.fz (QM (gs.getD x default))]) (Qv (Qu.cast (by walk_at"ev") (by rw[Xz])) Q9) R_want.mk
def Ix:Qp ZaP ZaP (Qy UB):=by walk_at"p"
def Am {f:Addr} {fd:FuncData} (T:Bl mg) (F:Fun K "__init__" "NoRoom.__init__" UB f fd) (cl:JY K YR CR f) (xs:SL K CR) (tk:W.takerIn K CR "some"=some none) (my:mg "YardError"=some (.ref YR)):FnOk P w K mg base CX0 1 f fd ZaP (Gm K CR "some"):=by
 refine F.ok Ix (fun vs H Q E ⟨e,p,xs,h,_⟩=>by rw[h];rfl) (fun cdv A outer s H vs Q E hr h=>⟨_,Q7 (Z8 (FC (i:=0) cl rfl my rfl Qa)) (Q3 (Li xs tk (pv 0) (WO Ny (by rfl) T.list Br (Qo (pv 1) Qs)) rfl)),Cb h⟩)
inductive R_refuse:List OT->(OT->Prop)->Prop
 |mk {y:Yd} {gs:List Gs} (ok:y.Ok) (hg:∀g∈gs,g.Ok y) (g8:gs.length<=8) (h:∀S,Ve y (QR gs) S<=0):R_refuse [.fz (QW y),.fz (.list (gs.map QM))] (fun r=>r=.fz .none)
inductive X_refuse:List OT->(Qd->Prop)->Prop
 |mk {y:Yd} {gs:List Gs} (ok:y.Ok) (hg:∀g∈gs,g.Ok y) (g8:gs.length<=8) {S:Qm} (h:0<Ve y (QR gs) S):X_refuse [.fz (QW y),.fz (.list (gs.map QM))] (fun d=>∃S,0<Ve y (QR gs) S/\d=QX (Zu gs S))
def HL:Qp Zac Zaf (Qy HC):=by walk_at"p"
def Ac (T:Bl mg) (XR:XC K mg "NoRoom" YR CR fR) (D:Df K mg "refuse_lack" HC Zaf) (Xbc:QB P w K mg base "lacking_set" Zaf 6 (Ze K R_lset)) (Xbd:QB P w K mg base "short_of" Zac 5 (QL (K:=K) R_short)) (Xbe:Ms P w K mg base fR ZaP 1 (Gm K CR "some")) :
 UP P w K mg base "refuse_lack" Zaf 7 (spX K CR "some" R_refuse X_refuse):=by
 refine D.evZ HL (fun ts Φ h=>by cases h;rfl) (fun ts Φ h=>by cases h;rfl) (by decide) (fun f cdv A outer s H RR ts Φ hr hst h=>?_) (fun f cdv A outer s F H RR ts Φ hr hst hq h=>?_)
 ·cases h with
  |@mk y gs ok hg g8 h =>
    refine⟨_,(Q7 (QY (i:=2) HL.nd rfl Qa (QG Xbc hr (Qo (pv 0) (Qo (pv 1) Qs))))
 (Q3 (Z0 (ZF YU (QG Xbd hr (Qo (pv 0) (Qo (pv 1) (Qo (pv 2) Qs)))) Qx (ZA _)) (Q3 (R1 XR Xbe hst hr (Qo (pv 2) Qs))) Z4))),?_⟩
    show Q0 K _ [some _,some _,none] _
    walk_at"x"
    have hk:∀g∈gs,GOk y g:=fun g h=>Nc (hg g h);refine QF (WJ (WK (Qv (Qr rfl) (Qv (Qr rfl) Q9)) (R_lset.mk ok hk g8)) (fun r hr'=>?_));obtain⟨φ,es,fb,rfl⟩:=hr'
    walk_at"d"
    refine Ws 2 rfl ?_
    walk_at"d"
    have h1:=h (Vu es);rw[J7]at h1;exact Zz (b:=false) (Zb.cast (ZB (Yj (Zd (Qv (Qr rfl) (Qv (Qr rfl) (Qv (Qr rfl) Q9))) (R_short.mk ok hg (G4 g8 _))) Q8)) (XN (by unfold Ys;omega))) (fun c=>nomatch c) (fun _=>Z7 rfl)
 ·cases h with
  |@mk y gs ok hg g8 S h =>
    refine⟨_,(Q7 (QY (i:=2) HL.nd rfl Qa (QG Xbc hr (Qo (pv 0) (Qo (pv 1) Qs))))
 (Q3 (Z0 (ZF YU (QG Xbd hr (Qo (pv 0) (Qo (pv 1) (Qo (pv 2) Qs)))) Qx (ZA _)) (Q3 (R1 XR Xbe hst hr (Qo (pv 2) Qs))) Z4))),?_⟩
    show EvZ K F H _ [some _,some _,none]
    walk_at"x"
    have hk:∀g∈gs,GOk y g:=fun g h=>Nc (hg g h);refine Tj (fun ρ'=>∃φ es,MG y (QR gs) φ es/\ρ'=[some (.fz (QW y)),some (.fz (.list (gs.map QM))),some (.ol (QX (Zu gs (Vu es))))]) (WJ (WK (Qv (Qr rfl) (Qv (Qr rfl) Q9)) (R_lset.mk ok hk g8)) (fun r hr'=>?_)) ?_
    ·obtain⟨φ,es,fb,rfl⟩:=hr'
     exact⟨φ,es,fb,rfl⟩
    ·rintro _ ⟨φ,es,fb,rfl⟩
     refine Pu 2 rfl ?_
     walk_at"d"
     have h1:0<Ve y (QR gs) (Vu es):=by
      have a:=CN fb.1 ok (Nk hk) S;have e:=fb.1.lack ok (Nk hk) fb.2.2.1 fb.2.1 fb.2.2.2;have e:M3 y (QR gs) φ=Ve y (QR gs) (Vu es):=e;omega
     have h2:=h1;rw[J7]at h2;exact Pz (b:=true) (Zb.cast (ZB (Yj (Zd (Qv (Qr rfl) (Qv (Qr rfl) (Qv (Qr rfl) Q9))) (R_short.mk ok hg (G4 g8 _))) Q8)) (XS (by unfold Ys;omega))) (fun _=>Fh (Qr rfl) ⟨Vu es,h1,rfl⟩ hq) (fun c=>nomatch c)
inductive R_feed:List OT->(OT->Prop)->Prop
 |mk {n:Int}:R_feed [.fz (.int n)] (fun r=>∃a b:Int,r=.ol [.int a,.int b])
def WT:Qp ["_law_cell","_law_big","_law_one","_law_other","_law_k"] ZaT (Qy Hb):=by walk_at"p"
def L8 (T:Bl mg) (D:Df K mg "_law_feed" Hb ZaT):QB P w K mg base "_law_feed" ZaT 1 (Ze K R_feed):=by
 refine D.evD WT (fun ts r h=>by cases h;rfl) (fun _ _ _ _ s H E ts r hr h=>?_)
 cases h with
 |@mk n =>
   refine⟨_,(Q7 (QY (i:=1) WT.nd rfl Qa Qx)
 (Q7 (QY (i:=2) WT.nd rfl Qa (QU VA (QU WF (QU Bz (pv 0) Qx) Qx) Qx))
 (Q7 (QY (i:=3) WT.nd rfl Qa (QU VA (QU WF (QU Bz (pv 0) Qx) Qx) Qx))
 (Q7 (Vn PassesOwn.never rfl (Yl rfl T.range (Qo Qx Qs)) (Zj (i:=4) WT.nd rfl Qa) (Q7 (QY (i:=2) WT.nd rfl Qa (QU WF (QU VA (QU VA (QU Uw (pv 2) (pv 2)) (QU Uw Qx (pv 3))) (pv 4)) Qx))
 (Q7 (QY (i:=3) WT.nd rfl Qa (QU WF (QU VA (QU VA (QU Uw (pv 3) (pv 3)) (QU Uw Qx (pv 2))) Qx) Qx))
 (Q3 (QY (i:=1) WT.nd rfl Qa (QU VA (QU Uw (pv 1) Qx) (pv 3)))))))
 (Q7 (Z0 (ZF GQ (QU WF (pv 0) Qx) Qx (ZA _)) (Q3 (QQ (Z5 (Qo (QU Bz (pv 0) Qx) (Qo (pv 1) Qs))))) Z4)
 (Q3 (QQ (Z5 (Qo (pv 1) (Qo Qx Qs)))))))))),?_⟩
   show Q0 K _ [some _,none,none,none,none] _
   walk_at"x"
   refine QF (ZR Q8 ?_)
   walk_at"d"
   have d2:∀{i:Int},Ui i 2:=BW (by decide) (by decide);have d3:∀{i:Int},Ui i 3:=BW (by decide) (by decide);refine QF (ZR (ZG (ZO (ZO (Qr rfl) Q8 d2) Q8 (by decide)) Q8) ?_)
   walk_at"d"
   refine QF (ZR (ZG (ZO (ZO (Qr rfl) Q8 d3) Q8 (by decide)) Q8) ?_)
   walk_at"d"
   have b1:0<=n/2%2147483647+11/\n/2%2147483647+11<4294967296:=by omega
   have b2:0<=n/3%2147483629+7/\n/3%2147483629+7<4294967296:=by omega
   generalize n/2%2147483647+11=x at b1;generalize n/3%2147483629+7=y at b2;refine QF (VR (ds:=ZN 0 40) (fun _ ρ'=>∃(a b c:Int) (u:Option OT),(0<=a/\a<4294967296)/\(0<=b/\b<4294967296)/\ρ'=[some (.fz (.int n)),some (.fz (.int c)),some (.fz (.int a)),some (.fz (.int b)),u]) ?ei ⟨x,y,0,none,b1,b2,rfl⟩ ?st ?fin)
   case ei=>exact EvI.cast (Yy (Qv Q8 Q9) (by rw[z62];decide) (by rw[z62];decide)) (W0 rfl (by decide))
   case st =>
    rintro i d _ hd ⟨a,b,c,u,ha,hb,rfl⟩
    obtain⟨hi,rfl⟩:=Yw hd;refine⟨_,Zw,?_⟩
    walk_at"d"
    have p64:(2:Int)^64=18446744073709551616:=by decide
    have m1:W6 a a:=.inl ⟨by omega,by omega⟩;have m2:∀{z:Int},W6 48271 z:=.inl ⟨by decide,by decide⟩;have m3:∀{z:Int},W6 69621 z:=.inl ⟨by decide,by decide⟩;have m4:∀{z:Int},W6 z 2147483629:=.inr ⟨by decide,by decide⟩;have m5:W6 b b:=.inl ⟨by omega,by omega⟩;refine QF (ZR (ZO (ZG (ZG (ZO (Qr rfl) (Qr rfl) m1) (ZO Q8 (Qr rfl) m2)) (Qr rfl)) Q8 (by decide)) ?_)
    walk_at"d"
    have e1:0<=(a*a+48271*b+(0+(i:Int)))%2147483647/\(a*a+48271*b+(0+(i:Int)))%2147483647<4294967296:=⟨Int.emod_nonneg _ (by decide),Int.lt_trans (Int.emod_lt_of_pos _ (by decide)) (by decide)⟩;generalize (a*a+48271*b+(0+(i:Int)))%2147483647=a' at e1;refine QF (ZR (ZO (ZG (ZG (ZO (Qr rfl) (Qr rfl) m5) (ZO Q8 (Qr rfl) m3)) Q8) Q8 (by decide)) ?_)
    walk_at"d"
    have e2:0<=(b*b+69621*a'+1)%2147483629/\(b*b+69621*a'+1)%2147483629<4294967296:=⟨Int.emod_nonneg _ (by decide),Int.lt_trans (Int.emod_lt_of_pos _ (by decide)) (by decide)⟩;generalize (b*b+69621*a'+1)%2147483629=b' at e2;refine ZR (ZG (ZO (Qr rfl) Q8 m4) (Qr rfl)) ?_
    exact⟨a',b',_,_,e1,e2,rfl⟩
   case fin =>
    rintro _ ⟨a,b,c,u,ha,hb,rfl⟩
    refine QF (Zz (b:=decide (n%2=0)) (Zb.cast (ZB (Ga (ZO (Qr rfl) Q8 (by decide)) Q8)) rfl) (fun _=>?_) (fun _=>Z7 ?_))
    ·exact Js (Vd (ds:=[.int (n/2),.int c]) (QZ (ZO (Qr rfl) Q8 d2) (QZ (Qr rfl) ZC)) W8) ⟨_,_,rfl⟩
    ·exact Js (Vd (ds:=[.int c,.int 0]) (QZ (Qr rfl) (QZ Q8 ZC)) W8) ⟨_,_,rfl⟩
inductive R_digit:Qd->List OT->(OT->Qd->Prop)->Prop
 |mk {a b m:Int} (h0:0<m) (h1:m<=10^60):R_digit [.int a,.int b] [.fz (.int m)] (fun r ds'=>∃n a' b':Int,0<=n/\n<m/\r=.fz (.int n)/\ds'=[.int a',.int b'])
def SI:Qp ["_law_feed_here","_law_many","_law_digit_here"] Zao (Qy HG):=by walk_at"p"
def Fw (T:Bl mg) (D:Df K mg "_law_digit" HG Zao):QB P w K mg base "_law_digit" Zao 1 (spP K olP R_digit):=by
 refine D.evP SI (fun M ts Ψ h=>by cases h;rfl) (fun f cdv A outer s H E v M ts Ψ hr h=>?_)
 cases h with
 |@mk a b m h0 h1 =>
   refine⟨_,(Q7 (Z0 (ZF GQ (QH QI (pv 0) Qx) Qx (ZA _)) (Q7 (WI (QH QI (pv 0) Qx) (Ut (pv 0) Qx We))
 (Q3 (WI Qx (Ut (pv 0) Qx We)))) Z4)
 (Q7 (QY (i:=2) SI.nd rfl Qa (QU WF (QH QI (pv 0) Qx) (pv 1)))
 (Q7 (WI (QU Bz (QH QI (pv 0) Qx) (pv 1)) (Ut (pv 0) Qx We))
 (Q3 (QQ (pv 2)))))),?_⟩
   show EvR K _ [some (.own v (olP [.int a,.int b])),some (.fz (.int m)),none] _
   walk_at"x"
   have rd:∀{ρ:Q5} {x y:Int},ρ[0]?=some (some (.own v (olP [.int x,.int y])))->Qu K (tOp (rIx K) (QD 0) (tC (.int 0))) ρ (.int x)/\Qu K (tOp (rIx K) (QD 0) (tC (.int 1))) ρ (.int y):=fun{ρ x y} e=>by
    have hl:=(Xh.mp e).1
    exact⟨NQ 0 e rfl (VL (ds:=[.int x,.int y]) (Qr (Xr hl)) Q8 rfl),NQ 0 e rfl (VL (ds:=[.int x,.int y]) (Qr (Xr hl)) Q8 rfl)⟩
   refine Vf (fun ρ'=>∃x y:Int,ρ'=[some (.own v (olP [.int x,.int y])),some (.fz (.int m)),none]) (Zz (b:=decide (a=0)) (Zb.cast (ZB (Ga (rd rfl).1 Q8)) rfl) (fun _=>?_) (fun _=>Z7 ⟨a,b,rfl⟩)) ?_
   ·refine QF (DR (j:=0) rfl (rd rfl).2 Q8 rfl ?_)
    walk_at"d"
    refine DR (j:=1) rfl Q8 Q8 rfl ?_
    exact⟨b,0,rfl⟩
   ·rintro _ ⟨x,y,rfl⟩
    refine Vf (fun ρ'=>ρ'=[some (.own v (olP [.int x,.int y])),some (.fz (.int m)),some (.fz (.int (x%m)))]) (ZR (ZO (rd rfl).1 (Qr rfl) h0) rfl) ?_
    rintro _ rfl
    refine Vf (fun ρ'=>ρ'=[some (.own v (olP [.int (x/m),.int y])),some (.fz (.int m)),some (.fz (.int (x%m)))]) (DR (j:=0) rfl (ZO (rd rfl).1 (Qr rfl) (cdl h0 h1)) Q8 rfl rfl) ?_
    rintro _ rfl
    exact Bc (Qr rfl) ⟨_,⟨x%m,x/m,y,Int.emod_nonneg _ (Int.ne_of_gt h0),Int.emod_lt_of_pos _ h0,rfl,rfl⟩,rfl⟩
def Dg (K:W.Frag)(t:TE)(ρ:Q5)(v:V)(m:Int):Prop:=EvW K t ρ 0 fun n o=>0<=n/\n<m/\∃a b:Int,o=.own v (olP [.int a,.int b])
def Yr {ρ:Q5}{t:TE}{v:V}{a b m:Int}{E:XK}(e:ρ[0]?=some (some (.own v (olP [.int a,.int b]))))(h:Qu K t ρ (.int m))(h0:0<m)(h1:m<=10^60):Dg K (VI (spP K olP R_digit) [] E (QE (QD 0) (QE t QO))) ρ v m :=
 Ls (Φ:=olP) e (Qv h Q9) (R_digit.mk h0 h1) (by
  rintro r N' ⟨n,a',b',n0,n1,rfl,rfl⟩
  exact⟨n,rfl,n0,n1,a',b',rfl⟩)
def Mn (k T:Nat)(l:Ln):Prop:=(l.up=none↔k=0)/\(∀a,l.up=some a->a<k)/\l.bs.length=T/\∀b∈l.bs,0<=b/\b<10^30
theorem Pf {T:Nat}{ls:List Ln}(t1:1<=T)(t8:T<=8)(l1:1<=ls.length)(l5:ls.length<=5)(h:∀k (hk:k<ls.length),Mn k T ls[k]):(⟨T,ls⟩:Yd).Ok where
 t1:=t1
 t8:=t8
 l1:=l1
 l5:=l5
 up0:=by
  have h0:=(h 0 (by omega)).1.mpr rfl
  simp[Zf,show 0<ls.length by omega,h0]
 ups:=fun k k0 hk=>by
  have hk:k<ls.length:=hk;obtain⟨a1,a2,_⟩:=h k hk
  cases e:ls[k].up with
  |none=>have:=a1.mp e;omega
  |some a=>exact⟨a,by simp[Zf,hk,e],a2 a e⟩
 bl:=fun l hl=>by
  obtain⟨k,hk,rfl⟩:=JU.mp hl
  exact(h k hk).2.2.1
 bb:=fun l hl b hb=>by
  obtain⟨k,hk,rfl⟩:=JU.mp hl
  have:=(h k hk).2.2.2 b hb
  exact⟨this.1,MW this.2⟩
def Pc (y:Yd):Prop := ∀l∈y.ls,∀b∈l.bs,0<=b/\b<10^30
inductive R_dyard:Qd->List OT->(OT->Qd->Prop)->Prop
 |mk {a b:Int}:R_dyard [.int a,.int b] [] (fun r ds'=>∃y:Yd,y.Ok/\Pc y/\r=.fz (QW y))
def P0 {b:Int}{c:Bool}(h0:0<=b)(h1:b<10^30):0<=b*(if c then 1 else 0)/\b*(if c then 1 else 0)<10^30:=by
 have e:(0:Int)<10^30:=by decide +kernel
 cases c
 ·simp
 ·simpa using ⟨h0,h1⟩
def p60 {m:Int}(h:m<=10^30):m<=10^60:=Int.le_trans h (by decide +kernel)
def Wk:Qp ["_law_feed_here","_law_turns","_law_scale","_law_lines","_law_k","_law_above","_law_bounds","_law_turn","_law_bound"] ZaN (Qy DZ):=by walk_at"p"
def FO (T:Bl mg) (D:Df K mg "_law_yard" DZ ZaN) (XaT:QB P w K mg base "_law_digit" Zao 1 (spP K olP R_digit)):QB P w K mg base "_law_yard" ZaN 2 (spP K olP R_dyard):=by
 refine D.evP Wk (fun M ts Ψ h=>by cases h;rfl) (fun f cdv A outer s H E v M ts Ψ hr h=>?_)
 cases h with
 |@mk a b =>
   refine⟨_,(Q7 (QY (i:=1) Wk.nd rfl Qa (QU VA Qx (QG XaT hr (Qo (pv 0) (Qo Qx Qs)))))
 (Q7 (QY (i:=2) Wk.nd rfl Qa (QH QI (Z5 (Qo Qx (Qo Qx (Qo Qx (Qo (QU MC Qx Qx) Qs))))) (QG XaT hr (Qo (pv 0) (Qo Qx Qs)))))
 (Q7 (QY (i:=3) Wk.nd rfl Qa (Z5 Qs))
 (Q7 (Vn PassesOwn.never rfl (Yl rfl T.range (Qo (QU VA Qx (QG XaT hr (Qo (pv 0) (Qo Qx Qs)))) Qs)) (Zj (i:=4) Wk.nd rfl Qa) (Q7 (QY (i:=5) Wk.nd rfl Qa Bk)
 (Q7 (Z0 (ZF YU (pv 4) Qx (ZA _)) (Q3 (QY (i:=5) Wk.nd rfl Qa (QG XaT hr (Qo (pv 0) (Qo (pv 4) Qs))))) Z4)
 (Q7 (QY (i:=6) Wk.nd rfl Qa (Z5 Qs))
 (Q7 (Vn PassesOwn.never rfl (Yl rfl T.range (Qo (pv 1) Qs)) (Zj (i:=7) Wk.nd rfl Qa) (Q7 (QY (i:=8) Wk.nd rfl Qa (QG XaT hr (Qo (pv 0) (Qo (pv 2) Qs))))
 (Q3 (Z8 (VX PySem.F.plainAttrs_list PySem.F.slot_list_append PySem.F.type_list_append Yf (pv 6) (Qo (QU Uw (pv 8) (WO TW (by rfl) T.int MB (Qo (Db YU (QG XaT hr (Qo (pv 0) (Qo Qx Qs))) Qx (ZA _)) Qs))) Qs))))))
 (Q3 (Z8 (VX PySem.F.plainAttrs_list PySem.F.slot_list_append PySem.F.type_list_append Yf (pv 3) (Qo (WG (Qo (pv 5) (Qo (WO Re (by rfl) T.tuple DB (Qo (pv 6) Qs)) Qs))) Qs)))))))))
 (Q3 (QQ (WG (Qo (pv 1) (Qo (WO Re (by rfl) T.tuple DB (Qo (pv 3) Qs)) Qs))))))))),?_⟩
   show EvR K _ [some (.own v (olP [.int a,.int b])),none,none,none,none,none,none,none,none] _
   walk_at"x"
   have q30:(0:Int)<10^(30:Int).toNat/\(10:Int)^(30:Int).toNat<=10^30:=by decide +kernel
   have q31:(16:Int)<=10^30:=by decide +kernel
   refine Vf (fun ρ'=>∃(T:Nat) (a b:Int),1<=T/\T<=8/\ρ'=[some (.own v (olP [.int a,.int b])),some (.fz (.int (T:Int))),none,none,none,none,none,none,none]) (NO (Yr rfl Q8 (by decide) (by decide +kernel)) ?_) ?_
   ·rintro n _ ⟨n0,n1,a,b,rfl⟩
    refine ZR (ZG Q8 Q8) ⟨(1+n).toNat,a,b,by omega,by omega,?_⟩;rw[X8 (by omega)];rfl
   rintro _ ⟨T,a,b,t1,t8,rfl⟩
   refine Vf (fun ρ'=>∃sc a b:Int,0<sc/\sc<=10^30/\ρ'=[some (.own v (olP [.int a,.int b])),some (.fz (.int (T:Int))),some (.fz (.int sc)),none,none,none,none,none,none]) (R3 (ds:=[.int 5,.int 9,.int 16,.int (10^(30:Int).toNat)]) (EvO.fz (Vd (QZ Q8 (QZ Q8 (QZ Q8 (QZ (ZO Q8 Q8 (GO (by decide) (by decide))) ZC)))) (by show(4:Nat)<=1000;decide))) (Yr rfl Q8 (by decide) (by decide +kernel)) ?_) ?_
   ·rintro n _ ⟨n0,n1,a,b,rfl⟩
    obtain rfl|rfl|rfl|rfl:n=0\/n=1\/n=2\/n=3:=by omega
    ·exact⟨_,rfl,5,a,b,by decide,by omega,rfl⟩
    ·exact⟨_,rfl,9,a,b,by decide,by omega,rfl⟩
    ·exact⟨_,rfl,16,a,b,by decide,by omega,rfl⟩
    ·exact⟨_,rfl,_,a,b,q30.1,q30.2,rfl⟩
   rintro _ ⟨sc,a,b,s0,s1,rfl⟩
   refine Vf (fun ρ'=>ρ'=[some (.own v (olP [.int a,.int b])),some (.fz (.int (T:Int))),some (.fz (.int sc)),some (.ol []),none,none,none,none,none]) (VM (Vd (ds:=[]) ZC (by decide)) rfl) ?_
   rintro _ rfl
   refine Vf (fun ρ'=>∃(ls:List Ln) (a b:Int) (u4 u5 u6 u7 u8:Option OT),(1<=ls.length/\ls.length<=5)/\(∀k (hk:k<ls.length),Mn k T ls[k])/\ρ'=[some (.own v (olP [.int a,.int b])),some (.fz (.int (T:Int))),some (.fz (.int sc)),some (.ol (ls.map V4)),u4,u5,u6,u7,u8]) (LL (Yr rfl Q8 (by decide) (by decide +kernel)) ?_) ?_
   ·rintro n _ ⟨n0,n1,a,b,rfl⟩
    walk_at"d"
    refine VR (ds:=ZN 0 (1+n).toNat) (fun i ρ'=>∃(ls:List Ln) (a b:Int) (u4 u5 u6 u7 u8:Option OT),ls.length=i/\(∀k (hk:k<ls.length),Mn k T ls[k])/\ρ'=[some (.own v (olP [.int a,.int b])),some (.fz (.int (T:Int))),some (.fz (.int sc)),some (.ol (ls.map V4)),u4,u5,u6,u7,u8]) ?ei ⟨[],a,b,_,_,_,_,_,rfl,(fun k hk=>Xl hk (Nat.not_lt_zero k)),rfl⟩ ?st ?fin
    case ei=>exact Yy (Qv (ZG Q8 Q8) Q9) (by rw[z62];omega) (by rw[z62];omega)
    case fin =>
     rintro _ ⟨ls,a,b,u4,u5,u6,u7,u8,e,h,rfl⟩
     rw[W1]at e;exact⟨ls,a,b,u4,u5,u6,u7,u8,by omega,h,rfl⟩
    case st =>
     rintro i d _ hd ⟨ls,a,b,u4,u5,u6,u7,u8,e,h,rfl⟩
     obtain⟨hi,rfl⟩:=Yw hd;have hi:i<(1+n).toNat:=hi;refine⟨_,Zw,?_⟩
     walk_at"d"
     rw[YF];refine QF (ZR Gd ?_)
     walk_at"d"
     refine QF (Px (fun ρ'=>∃(ab:Option Nat) (a b:Int),(ab=none↔i=0)/\(∀x,ab=some x->x<i)/\ρ'=[some (.own v (olP [.int a,.int b])),some (.fz (.int (T:Int))),some (.fz (.int sc)),some (.ol (ls.map V4)),some (.fz (.int (i:Int))),some (.fz (upD ab)),u6,u7,u8]) (Zz (b:=decide ((i:Int) > 0)) (Zb.cast (ZB (Yj (Qr rfl) Q8)) rfl) (fun c=>?_) (fun c=>Z7 ⟨none,a,b,⟨fun _=>by have:=UF c;omega,fun _=>rfl⟩,(fun x z=>nomatch z),rfl⟩)) ?_)
     ·have c:=XV c
      refine B1 (Yr rfl (Qr rfl) (by omega) (Int.le_trans (show(i:Int)<=5 by omega) (by decide +kernel))) ?_
      rintro m _ ⟨m0,m1,a,b,rfl⟩
      refine⟨some m.toNat,a,b,⟨fun z=>(nomatch z),fun z=>Xl z (by omega)⟩,(fun x z=>by injection z with z;omega),?_⟩;show _=([_,_,_,_,_,some (OT.fz (.int ((m.toNat:Nat):Int))),_,_,_]:Q5);rw[X8 m0];rfl
     rintro _ ⟨ab,a,b,ab1,ab2,rfl⟩
     refine QF (VM (Vd (ds:=[]) ZC (by decide)) ?_)
     walk_at"d"
     refine QF (VR (ds:=ZN 0 T) (fun j ρ'=>∃(bs:Ql) (a b:Int) (u7 u8:Option OT),bs.length=j/\(∀x∈bs,0<=x/\x<10^30)/\ρ'=[some (.own v (olP [.int a,.int b])),some (.fz (.int (T:Int))),some (.fz (.int sc)),some (.ol (ls.map V4)),some (.fz (.int (i:Int))),some (.fz (upD ab)),some (.ol (bs.map PyData.int)),u7,u8]) ?ei2 ⟨[],a,b,_,_,rfl,(fun x z=>nomatch z),rfl⟩ ?st2 ?fin2)
     case ei2=>exact EvI.cast (Yy (Qv (Qr rfl) Q9) (by rw[z62];omega) (by rw[z62];omega)) (W0 rfl (by omega))
     case st2 =>
      rintro j d _ hd ⟨bs,a,b,u7,u8,e2,h2,rfl⟩
      obtain⟨hj,rfl⟩:=Yw hd;refine⟨_,Zw,?_⟩
      walk_at"d"
      refine QF (B1 (Yr rfl (Qr rfl) s0 (p60 s1)) ?_)
      rintro m _ ⟨m0,m1,a,b,rfl⟩
      walk_at"d"
      refine Fo rfl rfl (Yr rfl Q8 (by decide) (by decide +kernel)) ?_
      rintro z _ ⟨z0,z1,a,b,rfl⟩
      walk_at"d"
      have mm:=P0 (c:=decide (z > 0)) m0 (Int.lt_of_lt_of_le m1 s1);refine U6 rfl (ZO (Qr rfl) (KH (Yj Q8 Q8)) (.inr ⟨by split<;>decide,by split<;>decide⟩)) (by rw[Xn];omega) ⟨bs++[m*(if decide (z > 0) then 1 else 0)],a,b,some (.fz (.int (0+(j:Int)))),some (.fz (.int m)),by rw[Xo,e2];rfl,fun x hx=>?_,?_⟩
      ·rcases XH.mp hx with hx|hx
       ·exact h2 x hx
       ·rw[Xi.mp hx];exact mm
      ·rw[XD]
       rfl
     case fin2 =>
      rintro _ ⟨bs,a,b,u7,u8,e2,h2,rfl⟩
      rw[W1]at e2;refine U6 rfl (Wt (ds:=[upD ab,.tuple (bs.map PyData.int)]) (QZ (Qr rfl) (QZ (MH rfl) ZC)) W8) (by rw[Xn];omega) ⟨ls++[⟨ab,bs⟩],a,b,some (.fz (.int (i:Int))),some (.fz (upD ab)),some (.ol (bs.map PyData.int)),u7,u8,by rw[Xo,e];rfl,fun k hk=>?_,?_⟩
      ·by_cases z:k<ls.length
       ·rw[List.getElem_append_left z];exact h k z
       ·have:k=ls.length:=by rw[Xo]at hk;have:[(⟨ab,bs⟩:Ln)].length=1:=rfl;omega
        subst this;rw[List.getElem_append_right (Xq _)];simp only[Nat.sub_self,List.getElem_cons_zero];rw[e];exact⟨ab1,ab2,e2,h2⟩
      ·rw[XD]
       rfl
   rintro _ ⟨ls,a,b,u4,u5,u6,u7,u8,⟨l1,l5⟩,h,rfl⟩
   refine Bc (Wt (ds:=[.int (T:Int),.tuple (ls.map V4)]) (QZ (Qr rfl) (QZ (MH rfl) ZC)) W8) ⟨_,⟨⟨T,ls⟩,Pf t1 t8 l1 l5 h,fun l hl=>?_,rfl⟩,rfl⟩;obtain⟨k,hk,rfl⟩:=JU.mp hl
   exact(h k hk).2.2.2
theorem MJ:∀{bs:Ql},bs≠[]->∃M∈bs,∀a∈bs,a<=M
 |[],h=>Xl rfl h
 |[x],_=>⟨x,Xc,fun a ha=>by rw[Xi.mp ha];exact JW _⟩
 |x::y::bs,_=>by
   obtain⟨M,m1,m2⟩:=MJ (bs:=y::bs) (List.cons_ne_nil _ _)
   by_cases h:x<=M
   ·refine⟨M,Xe _ m1,fun a ha=>?_⟩
    rcases Xg.mp ha with rfl|ha
    ·exact h
    ·exact m2 a ha
   ·refine⟨x,Xc,fun a ha=>?_⟩
    rcases Xg.mp ha with rfl|ha
    ·exact JW _
    ·have:=m2 a ha
     omega
noncomputable def mxB (bs:Ql):Int:=open Classical in if h:bs≠[] then Classical.choose (MJ h) else 0
def Nf {bs:Ql}(h:bs≠[]):mxB bs∈bs/\∀a∈bs,a<=mxB bs:=by
 unfold mxB;rw[dif_pos h];exact Classical.choose_spec (MJ h)
structure G30 (y:Yd)(g:Gs):Prop where
 ok:g.Ok y
 w:g.want<10^30
 m:g.most<10^30
inductive R_dguest:Qd->List OT->(OT->Qd->Prop)->Prop
 |mk {a b:Int} {y:Yd} (ok:y.Ok):R_dguest [.int a,.int b] [.fz (QW y),.fz (.int 0)] (fun r ds'=>∃g:Gs,G30 y g/\r=.fz (QM g))
def Mj {n:Nat}(h:n<=8):(n:Int)<=10^60:=Int.le_trans (show(n:Int)<=8 by omega) (by decide +kernel)
def WU:Qp Zak Zai (Qy BF):=by walk_at"p"
def AU (T:Bl mg) (D:Df K mg "_law_guest" BF Zai) (XaT:QB P w K mg base "_law_digit" Zao 1 (spP K olP R_digit)):QB P w K mg base "_law_guest" Zai 2 (spP K olP R_dguest):=by
 refine D.evP WU (fun M ts Ψ h=>by cases h;rfl) (fun f cdv A outer s H E v M ts Ψ hr h=>?_)
 cases h with
 |@mk a b y ok =>
   refine⟨_,(Q7 (QY (i:=3) WU.nd rfl Qa (QG XaT hr (Qo (pv 0) (Qo (QH QI (pv 1) Qx) Qs))))
 (Q7 (Z0 (PW.pt (Gg (D8 WB WB (pv 3) (pv 2) (QH QI (pv 1) Qx)) (Gw (ZF YU (QG XaT hr (Qo (pv 0) (Qo Qx Qs))) Qx (ZA _))))) (Q3 (QY (i:=3) WU.nd rfl Qa (QU VA (pv 2) (QG XaT hr (Qo (pv 0) (Qo (QU Y9 (QH QI (pv 1) Qx) (pv 2)) Qs)))))) Z4)
 (Q7 (QY (i:=4) WU.nd rfl Qa (QU VA (pv 3) (QG XaT hr (Qo (pv 0) (Qo (QU Y9 (QH QI (pv 1) Qx) (pv 3)) Qs)))))
 (Q7 (QY (i:=5) WU.nd rfl Qa (QG XaT hr (Qo (pv 0) (Qo (Zg Vx (by rfl) T.len Vm (Qo (QH QI (pv 1) Qx) Qs)) Qs))))
 (Q7 (QY (i:=6) WU.nd rfl Qa (QH QI (Z5 (Qo Qx (Qo Qx (Qo Qx (Qo (QU Y9 (QU MC Qx Qx) Qx) Qs))))) (QG XaT hr (Qo (pv 0) (Qo Qx Qs)))))
 (Q7 (Z0 (ZF WB (Zg LB (by rfl) T.max M8 (Qo (Wr (NX:=Zak) (sc:=Qy BF) (N:=ZaO) (f:=[none,none]) rfl (by decide +kernel) rfl rfl (PV (QH QI (pv 1) Qx)) (fun _=>(Bd (n:=2) rfl (Ym (Zj (i:=0) (show(ZaO:Qh).Nodup by decide +kernel) rfl Qa) (Ym (Zj (i:=1) (show(ZaO:Qh).Nodup by decide +kernel) rfl Qa) Gu)))) (fun _=>(PR (n:=2) (NW Yk (NW Yk LM)))) (fun _=>Jv) (fun _=>(Zg Tt (by rfl) T.max M8 (Qo (pv 1) Qs)))) Qs)) Qx (ZA _)) (Q3 (QY (i:=6) WU.nd rfl Qa (Zg (Bb rfl) (by rfl) T.min Gj (Qo (pv 6) (Qo Qx Qs))))) Z4)
 (Q7 (QY (i:=7) WU.nd rfl Qa (QU VA Qx (QG XaT hr (Qo (pv 0) (Qo (pv 6) Qs)))))
 (Q3 (QQ (WG (Qo (pv 5) (Qo (pv 3) (Qo (pv 4) (Qo (pv 7) (Qo (QU VA Qx (QG XaT hr (Qo (pv 0) (Qo (pv 6) Qs)))) Qs))))))))))))))),?_⟩
   show EvR K _ [some (.own v (olP [.int a,.int b])),some (.fz (QW y)),some (.fz (.int 0)),none,none,none,none,none] _
   walk_at"x"
   have t1:=ok.t1;have t8:=ok.t8;have l1:=ok.l1;have l5:=ok.l5;have q30:(0:Int)<10^(30:Int).toNat-1/\(10:Int)^(30:Int).toNat-1<10^30:=by decide +kernel
   have q31:(20:Int)<10^30:=by decide +kernel
   have eT:∀{ρ:Q5},ρ[1]?=some (some (.fz (QW y)))->Qu K (tOp (rIx K) (QD 1) (tC (.int 0))) ρ (.int (y.T:Int)):=fun e=>Y5 (ds:=[PyData.int (y.T:Int),.tuple (y.ls.map V4)]) (Qr e) Q8 rfl;have eL:∀{ρ:Q5},ρ[1]?=some (some (.fz (QW y)))->Qu K (tOp (rIx K) (QD 1) (tC (.int 1))) ρ (.tuple (y.ls.map V4)):=fun e=>Y5 (ds:=[PyData.int (y.T:Int),.tuple (y.ls.map V4)]) (Qr e) Q8 rfl;refine Vf (fun ρ'=>∃(fs:Nat) (a b:Int),fs<y.T/\ρ'=[some (.own v (olP [.int a,.int b])),some (.fz (QW y)),some (.fz (.int 0)),some (.fz (.int (fs:Int))),none,none,none,none]) (B1 (Yr rfl (eT rfl) (by omega) (Mj t8)) ?_) ?_
   ·rintro n _ ⟨n0,n1,a,b,rfl⟩
    refine⟨n.toNat,a,b,by omega,?_⟩;rw[X8 n0];rfl
   rintro _ ⟨fs,a,b,hfs,rfl⟩
   refine Vf (fun ρ'=>ρ'=[some (.own v (olP [.int a,.int b])),some (.fz (QW y)),some (.fz (.int 0)),some (.fz (.int (fs:Int))),none,none,none,none]) (Zz (b:=false) (UZ (b:=false) (c:=false) (Zb.cast (ZB (Gq (Qr rfl) (Qr rfl) (eT rfl))) ?_) (fun c=>nomatch c)) (fun c=>nomatch c) (fun _=>Z7 rfl)) ?_
   ·rw[XN (show ¬(fs:Int)<0 by omega)]
    rfl
   rintro _ rfl
   refine Vf (fun ρ'=>∃(la:Nat) (a b:Int),fs<=la/\la<y.T/\ρ'=[some (.own v (olP [.int a,.int b])),some (.fz (QW y)),some (.fz (.int 0)),some (.fz (.int (fs:Int))),some (.fz (.int (la:Int))),none,none,none]) (FV rfl (Yr rfl (ZG (eT rfl) (Qr rfl)) (by omega) (Int.le_trans (show(y.T:Int)-(fs:Int)<=(y.T:Int) by omega) (Mj t8))) ?_) ?_
   ·rintro n _ ⟨n0,n1,a,b,rfl⟩
    refine ZR (ZG (Qr rfl) Q8) ⟨((fs:Int)+n).toNat,a,b,by omega,by omega,?_⟩;rw[X8 (by omega)];rfl
   rintro _ ⟨la,a,b,hla1,hla2,rfl⟩
   refine Vf (fun ρ'=>∃(li:Nat) (a b:Int),li<y.ls.length/\ρ'=[some (.own v (olP [.int a,.int b])),some (.fz (QW y)),some (.fz (.int 0)),some (.fz (.int (fs:Int))),some (.fz (.int (la:Int))),some (.fz (.int (li:Int))),none,none]) (B1 (Yr rfl (Qu.cast (Bh (eL rfl)) (show _=PyData.int (y.ls.length:Int) by rw[Xn])) (by omega) (Mj (by omega))) ?_) ?_
   ·rintro n _ ⟨n0,n1,a,b,rfl⟩
    refine⟨n.toNat,a,b,by omega,?_⟩;rw[X8 n0];rfl
   rintro _ ⟨li,a,b,hli,rfl⟩
   refine Vf (fun ρ'=>∃sc a b:Int,0<sc/\sc<10^30/\ρ'=[some (.own v (olP [.int a,.int b])),some (.fz (QW y)),some (.fz (.int 0)),some (.fz (.int (fs:Int))),some (.fz (.int (la:Int))),some (.fz (.int (li:Int))),some (.fz (.int sc)),none]) (R3 (ds:=[.int 4,.int 9,.int 20,.int (10^(30:Int).toNat-1)]) (EvO.fz (Vd (QZ Q8 (QZ Q8 (QZ Q8 (QZ (ZG (ZO Q8 Q8 (GO (by decide) (by decide))) Q8) ZC)))) (by show(4:Nat)<=1000;decide))) (Yr rfl Q8 (by decide) (by decide +kernel)) ?_) ?_
   ·rintro n _ ⟨n0,n1,a,b,rfl⟩
    obtain rfl|rfl|rfl|rfl:n=0\/n=1\/n=2\/n=3:=by omega
    ·exact⟨_,rfl,4,a,b,by decide,by omega,rfl⟩
    ·exact⟨_,rfl,9,a,b,by decide,by omega,rfl⟩
    ·exact⟨_,rfl,20,a,b,by decide,by omega,rfl⟩
    ·exact⟨_,rfl,_,a,b,q30.1,q30.2,rfl⟩
   rintro _ ⟨sc,a,b,s0,s1,rfl⟩
   have ne:∀l∈y.ls,l.bs≠[]:=fun l hl z=>by
    have:=ok.bl l hl
    rw[z]at this;have:(0:Nat)=y.T:=this;omega
   have nel:(y.ls.map fun l=>mxB l.bs)≠[]:=fun z=>by
    have:=XW List.length z
    rw[Xn]at this;have:y.ls.length=0:=this;omega
   obtain⟨mx1,mx2⟩:=Nf nel;refine Vf (fun ρ'=>∃sc:Int,0<sc/\sc<10^30/\ρ'=[some (.own v (olP [.int a,.int b])),some (.fz (QW y)),some (.fz (.int 0)),some (.fz (.int (fs:Int))),some (.fz (.int (la:Int))),some (.fz (.int (li:Int))),some (.fz (.int sc)),none]) (Zz (b:=decide (mxB (y.ls.map fun l=>mxB l.bs)<20)) (Zb.cast (ZB (Yj (L9 (ns:=y.ls.map fun l=>mxB l.bs) (Qu.cast (EvO.fz (Uk (xs:=y.ls) (enc:=V4) (h:=fun l=>.int (mxB l.bs)) ?ei (by omega) ?el)) (by rw[Wl];rfl)) rfl mx1 mx2) Q8)) rfl) (fun _=>?_) (fun _=>Z7 ⟨sc,s0,s1,rfl⟩)) ?_
   case ei=>exact KG (eL rfl)
   case el =>
    intro l hl c;obtain⟨k1,k2⟩:=Nf (ne l hl);refine⟨_,Ue (ds:=[upD l.up,.tuple (l.bs.map PyData.int)]) (VZ Zw (VZ Zw Up)) rfl,?_⟩
    walk_at"e"
    exact LC (ns:=l.bs) (Qr rfl) rfl k1 k2
   ·refine ZR (ME (Qr rfl) Q8) ⟨min sc 20,by omega,by omega,rfl⟩
   rintro _ ⟨sc,s0,s1,rfl⟩
   refine Vf (fun ρ'=>∃wa a b:Int,1<=wa/\wa<10^30/\ρ'=[some (.own v (olP [.int a,.int b])),some (.fz (QW y)),some (.fz (.int 0)),some (.fz (.int (fs:Int))),some (.fz (.int (la:Int))),some (.fz (.int (li:Int))),some (.fz (.int sc)),some (.fz (.int wa))]) (NO (Yr rfl (Qr rfl) s0 (p60 (Int.le_of_lt s1))) ?_) ?_
   ·rintro n _ ⟨n0,n1,a,b,rfl⟩
    refine ZR (ZG Q8 Q8) ⟨1+n,a,b,by omega,by omega,rfl⟩
   rintro _ ⟨wa,a,b,w1,w2,rfl⟩
   refine Tz rfl rfl rfl rfl (Yr rfl (Qr rfl) s0 (p60 (Int.le_of_lt s1))) ?_
   rintro n _ ⟨n0,n1,a,b,rfl⟩
   refine Bc (Wt (ds:=[.int (li:Int),.int (fs:Int),.int (la:Int),.int wa,.int (1+n)]) (QZ (Qr rfl) (QZ (Qr rfl) (QZ (Qr rfl) (QZ (Qr rfl) (QZ (ZG Q8 Q8) ZC))))) (by show(5:Nat)<=1000;decide)) ⟨_,⟨⟨li,fs,la,wa,1+n⟩,⟨⟨hli,hla1,hla2,w1,MW w2,by show 1<=1+n;omega,MW (by show 1+n<_;omega)⟩,w2,by show 1+n<_;omega⟩,rfl⟩,rfl⟩
def Ta:NoH "now" := fun _ _ _ _ _ _=>rfl
def Nt:NoH "come" := fun _ _ _ _ _ _=>rfl
def Th:NoH "got" := fun _ _ _ _ _ _=>rfl
def Dc:NoH "rest" := fun _ _ _ _ _ _=>rfl
def T9:NoH "open_ones" := fun _ _ _ _ _ _=>rfl
def LV:NoH "gifts" := fun _ _ _ _ _ _=>rfl
def Fm:NoH "yard_now" := fun _ _ _ _ _ _=>rfl
def FI:NoH "still_there" := fun _ _ _ _ _ _=>rfl
def N5:NoH "refuse_past" := fun _ _ _ _ _ _=>rfl
def Ni:NoH "refuse_number" := fun _ _ _ _ _ _=>rfl
def Ip:Qp ZaQ ZaQ (Qy UA):=by walk_at"p"
def LQ {f:Addr} {fd:FuncData} (T:Bl mg) (UH:HandC K CH) (F:Fun K "__init__" "Hand.__init__" UA f fd):FnOk P w K mg base CX0 1 f fd ZaQ (GN CH):=by
 refine F.ok Ip (fun vs H Q E ⟨x,dx,y,e,_⟩=>by rw[e];rfl) fun cdv A outer s H vs Q E hr ⟨x,dx,y,e,hx,q⟩=>?_;subst e;refine⟨_,(Q7 (Wb (pv 0) (pv 1) rfl)
 (Q7 (Wb (pv 0) Qx rfl)
 (Q7 (Wb (pv 0) (Z5 Qs) rfl)
 (Q7 (Wb (pv 0) (Z5 Qs) rfl)
 (Q7 (Wb (pv 0) Fd rfl)
 (Q3 (Wb (pv 0) (Z5 Qs) rfl))))))),?_⟩
 refine⟨y,rfl,_,rfl,x,CH,dx,[],rfl,hx,UH.cl,UH.yd,by decide,?_⟩;refine⟨_,rfl,x,CH,dx,[("yard",y)],rfl,by rw[QA];rfl,UH.cl,UH.pr,(by show(1:Nat)<1000;decide),?_⟩;refine⟨XQ _,fun k hk=>⟨_,rfl,x,CH,dx,[("yard",y),("present",.int 0)],rfl,?_,UH.cl,UH.kn,(by show(2:Nat)<1000;decide),?_⟩⟩
 ·have xk:x≠k:=Zo QA hk
  rw[Qt xk,QA];rfl
 have xk:x≠k:=Zo QA hk;rw[Qt (Ne.symm xk),Qt (Ne.symm xk)]at hk;refine⟨XQ _,fun g hg=>⟨_,rfl,x,CH,dx,[("yard",y),("present",.int 0),("known",.ref k)],rfl,?_,UH.cl,UH.gv,(by show(3:Nat)<1000;decide),?_⟩⟩
 ·have xg:x≠g:=Zo QA hg
  rw[Qt xg,QA];rfl
 have xg:x≠g:=Zo QA hg;rw[Qt (Ne.symm xg)]at hg;have kg:k≠g:=Zo QA hg;rw[Qt (Ne.symm kg),Qt (Ne.symm xg),Qt (Ne.symm xg)]at hg;refine fun d hd=>⟨_,rfl,x,CH,dx,[("yard",y),("present",.int 0),("known",.ref k),("given",.ref g)],rfl,?_,UH.cl,UH.go,(by show(4:Nat)<1000;decide),?_⟩
 ·have xd:x≠d:=Zo QA hd
  rw[Qt xd,QA];rfl
 have xd:x≠d:=Zo QA hd;rw[Qt (Ne.symm xd)]at hd;have gd:g≠d:=Zo QA hd;rw[Qt (Ne.symm gd),Qt (Ne.symm xd)]at hd;have kd:k≠d:=Zo QA hd;rw[Qt (Ne.symm kd),Qt (Ne.symm xd),Qt (Ne.symm xd)]at hd;refine⟨XQ _,fun m hm=>⟨_,rfl,x,CH,dx,[("yard",y),("present",.int 0),("known",.ref k),("given",.ref g),("gone",.ref d)],rfl,?_,UH.cl,UH.md,(by show(5:Nat)<1000;decide),?_⟩⟩
 ·have xm:x≠m:=Zo QA hm
  rw[Qt xm,QA];rfl
 have xm:x≠m:=Zo QA hm;rw[Qt (Ne.symm xm)]at hm;have dm:d≠m:=Zo QA hm;rw[Qt (Ne.symm dm),Qt (Ne.symm xm)]at hm;have gm:g≠m:=Zo QA hm;rw[Qt (Ne.symm gm),Qt (Ne.symm xm)]at hm;have km:k≠m:=Zo QA hm;rw[Qt (Ne.symm km),Qt (Ne.symm xm),Qt (Ne.symm xm)]at hm;refine q k g d m _ hk hg hd hm ?_ ?_ ?_ ?_ ?_ ?_ (fun b hb=>?_)
 ·simp only[XO,Xg,XL,or_false,not_or,not_false_eq_true,JN,and_true]
  exact⟨⟨xk,xg,xd,xm⟩,⟨kg,kd,km⟩,⟨gd,gm⟩,dm⟩
 ·rw[QA];rfl
 ·rw[Qt (Ne.symm xk),Qt km,Qt (Ne.symm xk),Qt kd,Qt (Ne.symm xk),Qt kg,Qt (Ne.symm xk),QA]
 ·rw[Qt (Ne.symm xg),Qt gm,Qt (Ne.symm xg),Qt gd,Qt (Ne.symm xg),QA]
 ·rw[Qt (Ne.symm xd),Qt dm,Qt (Ne.symm xd),QA]
 ·rw[Qt (Ne.symm xm),QA]
 ·simp only[Xg,XL,or_false,not_or]at hb
  obtain⟨b1,b2,b3,b4,b5⟩:=hb;rw[Qt b1,Qt b5,Qt b1,Qt b4,Qt b1,Qt b3,Qt b1,Qt b2,Qt b1,Qt b1]
inductive R_hpast (CH:Addr):List OT->(OT->Prop)->Prop
 |mk {N:HandS} {t:Int} (h:N.now<=t):R_hpast CH [.zow (Zn CH N),.fz (.int t)] (fun r=>r=.fz .none)
def Is:Qp ZaJ ZaJ (Qy JJ):=by walk_at"p"
def CD (T:Bl mg) (UH:HandC K CH) (D:Mf K CH "refuse_past" "Hand.refuse_past" JJ ZaJ):Zl P w K mg base CH "refuse_past" ZaJ 1 (Ze K (R_hpast CH)):=by
 refine D.evD Is (fun ts Φ h=>by cases h;rfl) (fun _ _ _ _ s H E ts Φ hr h=>?_)
 cases h with
 |@mk N t h =>
   refine⟨_,(Q3 (Z0 (ZF WB (pv 1) (Zs (pv 0) rfl) (ZA _)) (Q3 B2) Z4)),?_⟩;show Q0 K _ [some _,some _] _
   walk_at"x"
   exact Zz (b:=false) (Zb.cast (ZB (Yj (Qr rfl) (DF UH rfl))) (XN (by omega))) (fun c=>nomatch c) (fun _=>Z7 rfl)
inductive R_hnow (CH:Addr):List OT->(OT->Prop)->Prop
 |mk {N:HandS}:R_hnow CH [.zow (Zn CH N)] (fun r=>r=.fz (.int N.now))
def E6:Qp Zaj Zaj (Qy J1):=by walk_at"p"
def Lf (T:Bl mg) (UH:HandC K CH) (D:Mf K CH "now" "Hand.now" J1 Zaj):Zl P w K mg base CH "now" Zaj 1 (Ze K (R_hnow CH)):=by
 refine D.evD E6 (fun ts Φ h=>by cases h;rfl) (fun _ _ _ _ s H E ts Φ hr h=>?_)
 cases h with
 |@mk N =>
   refine⟨_,(Q3 (QQ (Zs (pv 0) rfl))),?_⟩;show Q0 K _ [some _] _
   walk_at"x"
   exact ZQ (DF UH rfl) rfl
inductive R_hyard (CH:Addr):List OT->(OT->Prop)->Prop
 |mk {N:HandS}:R_hyard CH [.zow (Zn CH N)] (fun r=>r=.fz N.yard)
def Iq:Qp Zaj Zaj (Qy JI):=by walk_at"p"
def C5 (T:Bl mg) (UH:HandC K CH) (D:Mf K CH "yard_now" "Hand.yard_now" JI Zaj):Zl P w K mg base CH "yard_now" Zaj 1 (Ze K (R_hyard CH)):=by
 refine D.evD Iq (fun ts Φ h=>by cases h;rfl) (fun _ _ _ _ s H E ts Φ hr h=>?_)
 cases h with
 |@mk N =>
   refine⟨_,(Q3 (QQ (Zs (pv 0) rfl))),?_⟩;show Q0 K _ [some _] _
   walk_at"x"
   exact ZQ (GB UH rfl) rfl
inductive R_iswhole:List OT->OT->Prop
 |mk {i:Int}:R_iswhole [.fz (.int i)] (.fz (.bool true))
def EQ:Qp ["thing"] ["thing"] (Qy Ho):=by walk_at"p"
def Eg (T:Bl mg) (D:Df K mg "is_whole" Ho ["thing"]):QB P w K mg base "is_whole" ["thing"] 1 (QL (K:=K) R_iswhole):=by
 refine D.ev EQ (fun ts r h=>by cases h;rfl) (fun _ _ _ _ s H E ts r hr h=>?_)
 cases h with
 |@mk i =>
   refine⟨_,(Q3 (QQ (GZ (Zg WD (by rfl) T.isi VJ (Qo (pv 0) (Qo (YZ (v:=.ty "int") rfl T.int MB rfl) Qs))) (GY (TF (Zg WD (by rfl) T.isi VJ (Qo (pv 0) (Qo (YZ (v:=.ty "bool") rfl T.bool Bn rfl) Qs)))))))),?_⟩;show Q0 K _ [some _] _
   walk_at"x"
   exact ZQ (Gb (b:=true) (Wu (Qr rfl) rfl) (fun _=>Kz (b:=false) (Wu (Qr rfl) rfl))) rfl
inductive R_within:List OT->OT->Prop
 |mk {i lo hi:Int}:R_within [.fz (.int i),.fz (.int lo),.fz (.int hi)] (.fz (.bool (decide (lo<=i)&&decide (i<hi))))
def Iy:Qp Zap Zap (Qy HJ):=by walk_at"p"
def CU (T:Bl mg) (D:Df K mg "is_whole_within" HJ Zap) (Xby:QB P w K mg base "is_whole" ["thing"] 1 (QL (K:=K) R_iswhole)):QB P w K mg base "is_whole_within" Zap 2 (QL (K:=K) R_within):=by
 refine D.ev Iy (fun ts r h=>by cases h;rfl) (fun _ _ _ _ s H E ts r hr h=>?_)
 cases h with
 |@mk i lo hi =>
   refine⟨_,(Q3 (QQ (GZ (QG Xby hr (Qo (pv 0) Qs)) (GY (Ra Ug WB (pv 1) (pv 0) (pv 2)))))),?_⟩;show Q0 K _ [some _,some _,some _] _
   walk_at"x"
   exact ZQ (Gb (b:=true) (Zd (Qv (Qr rfl) Q9) R_iswhole.mk) (fun _=>Gq (Qr rfl) (Qr rfl) (Qr rfl))) rfl
inductive R_isamount:List OT->OT->Prop
 |mk {i:Int} (h0:1<=i) (h1:i<10^30):R_isamount [.fz (.int i),.fz (.int 1)] (.fz (.bool true))
def EK:Qp ZaK ZaK (Qy Hf):=by walk_at"p"
def E4 (T:Bl mg) (D:Df K mg "is_amount" Hf ZaK) (XaV:QB P w K mg base "is_whole_within" Zap 2 (QL (K:=K) R_within)):QB P w K mg base "is_amount" ZaK 3 (QL (K:=K) R_isamount):=by
 refine D.ev EK (fun ts r h=>by cases h;rfl) (fun _ _ _ _ s H E ts r hr h=>?_)
 cases h with
 |@mk i h0 h1 =>
   refine⟨_,(Q3 (QQ (QG XaV hr (Qo (pv 0) (Qo (pv 1) (Qo (QU MC Qx Qx) Qs)))))),?_⟩;show Q0 K _ [some _,some _] _
   walk_at"x"
   have e:(10:Int)^30=10^(30:Int).toNat:=by decide +kernel
   rw[e]at h1;refine ZQ (Qu.cast (Zd (Qv (Qr rfl) (Qv (Qr rfl) (Qv (ZO Q8 Q8 (GO (by decide) (by decide))) Q9))) R_within.mk) ?_) rfl;rw[XS h0,XS h1];rfl
inductive R_tupof:List OT->OT->Prop
 |mk {g:Gs}:R_tupof [.fz (QM g),.fz (.int 5)] (.fz (.bool true))
def Io:Qp ZaF ZaF (Qy Hz):=by walk_at"p"
def Cl (T:Bl mg) (D:Df K mg "is_tuple_of" Hz ZaF):QB P w K mg base "is_tuple_of" ZaF 1 (QL (K:=K) R_tupof):=by
 refine D.ev Io (fun ts r h=>by cases h;rfl) (fun _ _ _ _ s H E ts r hr h=>?_)
 cases h with
 |@mk g =>
   refine⟨_,(Q3 (QQ (GZ (Zg WD (by rfl) T.isi VJ (Qo (pv 0) (Qo (YZ (v:=.ty "tuple") rfl T.tuple DB rfl) Qs))) (GY (Db GQ (Zg Vx (by rfl) T.len Vm (Qo (pv 0) Qs)) (pv 1) (ZA _)))))),?_⟩;show Q0 K _ [some _,some _] _
   walk_at"x"
   exact ZQ (Gb (b:=true) (Wu (Qr rfl) rfl) (fun _=>Ga (Bh (ds:=[.int (g.line:Int),.int (g.first:Int),.int (g.last:Int),.int g.want,.int g.most]) (Qr rfl)) (Qr rfl))) rfl
inductive R_isguest:List OT->OT->Prop
 |mk {y:Yd} {g:Gs} (h:G30 y g):R_isguest [.fz (QW y),.fz (QM g)] (.fz (.bool true))
def Eu:Qp ZaL ZaL (Qy Hx):=by walk_at"p"
def Ei (T:Bl mg) (D:Df K mg "is_guest" Hx ZaL) (Xbz:QB P w K mg base "is_tuple_of" ZaF 1 (QL (K:=K) R_tupof)) (XaV:QB P w K mg base "is_whole_within" Zap 2 (QL (K:=K) R_within)) (XaW:QB P w K mg base "line_count" ZaG 1 (QL (K:=K) R_count)) (XaU:QB P w K mg base "turns_of" ZaG 1 (QL (K:=K) R_turns)) (Xbf:QB P w K mg base "is_amount" ZaK 3 (QL (K:=K) R_isamount)):QB P w K mg base "is_guest" ZaL 4 (QL (K:=K) R_isguest):=by
 refine D.ev Eu (fun ts r h=>by cases h;rfl) (fun _ _ _ _ s H E ts r hr h=>?_)
 cases h with
 |@mk y g h =>
   refine⟨_,(Q7 (Z0 (Yq (Vg (QG Xbz hr (Qo (pv 1) (Qo Qx Qs))))) (Q3 (QQ V9)) Z4)
 (Q7 (Z0 (Yq (Vg (QG XaV hr (Qo (QH QI (pv 1) Qx) (Qo Qx (Qo (QG XaW hr (Qo (pv 0) Qs)) Qs)))))) (Q3 (QQ V9)) Z4)
 (Q7 (Z0 (Yq (Vg (QG XaV hr (Qo (QH QI (pv 1) Qx) (Qo Qx (Qo (QG XaU hr (Qo (pv 0) Qs)) Qs)))))) (Q3 (QQ V9)) Z4)
 (Q7 (Z0 (Yq (Vg (QG XaV hr (Qo (QH QI (pv 1) Qx) (Qo (QH QI (pv 1) Qx) (Qo (QG XaU hr (Qo (pv 0) Qs)) Qs)))))) (Q3 (QQ V9)) Z4)
 (Q3 (QQ (GZ (QG Xbf hr (Qo (QH QI (pv 1) Qx) (Qo Qx Qs))) (GY (QG Xbf hr (Qo (QH QI (pv 1) Qx) (Qo Qx Qs))))))))))),?_⟩
   show Q0 K _ [some _,some _] _
   walk_at"x"
   obtain⟨⟨k1,k2,k3,k4,_,k6,_⟩,k5,k7⟩:=h;have it:∀{ρ:Q5} {n:Int} {d:PyData},ρ[1]?=some (some (.fz (QM g)))->atI [.int (g.line:Int),.int (g.first:Int),.int (g.last:Int),.int g.want,.int g.most] n=some d->Qu K (tOp (rIx K) (QD 1) (tC (.int n))) ρ d:=fun e h=>Y5 (Qr e) Q8 h;refine QF (Zz (b:=false) (VY (b:=true) (ZH (Zd (Qv (Qr rfl) (Qv Q8 Q9)) R_tupof.mk))) (fun c=>nomatch c) (fun _=>Z7 ?_));refine QF (Zz (b:=false) (VY (b:=true) (ZH (Qu.cast (Zd (Qv (it rfl rfl) (Qv Q8 (Qv (Zd (Qv (Qr rfl) Q9) R_count.mk) Q9))) R_within.mk) ?_))) (fun c=>nomatch c) (fun _=>Z7 ?_))
   ·rw[XS (show(0:Int)<=(g.line:Int) by omega),XS (show(g.line:Int)<(y.ls.length:Int) by omega)]
    rfl
   refine QF (Zz (b:=false) (VY (b:=true) (ZH (Qu.cast (Zd (Qv (it rfl rfl) (Qv Q8 (Qv (Zd (Qv (Qr rfl) Q9) R_turns.mk) Q9))) R_within.mk) ?_))) (fun c=>nomatch c) (fun _=>Z7 ?_))
   ·rw[XS (show(0:Int)<=(g.first:Int) by omega),XS (show(g.first:Int)<(y.T:Int) by omega)]
    rfl
   refine QF (Zz (b:=false) (VY (b:=true) (ZH (Qu.cast (Zd (Qv (it rfl rfl) (Qv (it rfl rfl) (Qv (Zd (Qv (Qr rfl) Q9) R_turns.mk) Q9))) R_within.mk) ?_))) (fun c=>nomatch c) (fun _=>Z7 ?_))
   ·rw[XS (show(g.first:Int)<=(g.last:Int) by omega),XS (show(g.last:Int)<(y.T:Int) by omega)]
    rfl
   exact ZQ (Gb (b:=true) (Zd (Qv (it rfl rfl) (Qv Q8 Q9)) (R_isamount.mk k4 k5)) (fun _=>Zd (Qv (it rfl rfl) (Qv Q8 Q9)) (R_isamount.mk k6 k7))) rfl
inductive R_withw:List OT->OT->Prop
 |mk {g:Gs} {z:Int}:R_withw [.fz (QM g),.fz (.int z)] (.fz (QM { g with want:=z }))
def ET:Qp ZaM ZaM (Qy Hd):=by walk_at"p"
def Fi (T:Bl mg) (D:Df K mg "with_want" Hd ZaM):QB P w K mg base "with_want" ZaM 1 (QL (K:=K) R_withw):=by
 refine D.ev ET (fun ts r h=>by cases h;rfl) (fun _ _ _ _ s H E ts r hr h=>?_)
 cases h with
 |@mk g z =>
   refine⟨_,(Q3 (QQ (WG (Qo (QH QI (pv 0) Qx) (Qo (QH QI (pv 0) Qx) (Qo (QH QI (pv 0) Qx) (Qo (pv 1) (Qo (QH QI (pv 0) Qx) Qs)))))))),?_⟩;show Q0 K _ [some _,some _] _
   walk_at"x"
   have it:∀{ρ:Q5} {n:Int} {d:PyData},ρ[0]?=some (some (.fz (QM g)))->atI [.int (g.line:Int),.int (g.first:Int),.int (g.last:Int),.int g.want,.int g.most] n=some d->Qu K (tOp (rIx K) (QD 0) (tC (.int n))) ρ d:=fun e h=>Y5 (Qr e) Q8 h;exact ZQ (Wt (ds:=[.int (g.line:Int),.int (g.first:Int),.int (g.last:Int),.int z,.int g.most]) (QZ (it rfl rfl) (QZ (it rfl rfl) (QZ (it rfl rfl) (QZ (Qr rfl) (QZ (it rfl rfl) ZC))))) (by show(5:Nat)<=1000;decide)) rfl
inductive R_stay:List OT->OT->Prop
 |mk {g:Gs} {n:Nat}:R_stay [.fz (QM g),.fz (.int (n:Int))] (.fz (QM { g with first:=max g.first n }))
def Ir:Qp Zan Zan (Qy HK):=by walk_at"p"
def Lm (T:Bl mg) (D:Df K mg "staying_from" HK Zan):QB P w K mg base "staying_from" Zan 1 (QL (K:=K) R_stay):=by
 refine D.ev Ir (fun ts r h=>by cases h;rfl) (fun _ _ _ _ s H E ts r hr h=>?_)
 cases h with
 |@mk g n =>
   refine⟨_,(Q3 (QQ (WG (Qo (QH QI (pv 0) Qx) (Qo (Zg (PX rfl) (by rfl) T.max M8 (Qo (QH QI (pv 0) Qx) (Qo (pv 1) Qs))) (Qo (QH QI (pv 0) Qx) (Qo (QH QI (pv 0) Qx) (Qo (QH QI (pv 0) Qx) Qs)))))))),?_⟩;show Q0 K _ [some _,some _] _
   walk_at"x"
   have it:∀{ρ:Q5} {n:Int} {d:PyData},ρ[0]?=some (some (.fz (QM g)))->atI [.int (g.line:Int),.int (g.first:Int),.int (g.last:Int),.int g.want,.int g.most] n=some d->Qu K (tOp (rIx K) (QD 0) (tC (.int n))) ρ d:=fun e h=>Y5 (Qr e) Q8 h;refine ZQ (Qu.cast (Wt (ds:=[.int (g.line:Int),.int (max (g.first:Int) (n:Int)),.int (g.last:Int),.int g.want,.int g.most]) (QZ (it rfl rfl) (QZ (KN (it rfl rfl) (Qr rfl)) (QZ (it rfl rfl) (QZ (it rfl rfl) (QZ (it rfl rfl) ZC))))) (by show(5:Nat)<=1000;decide)) ?_) rfl;have e:max (g.first:Int) (n:Int)=((max g.first n:Nat):Int):=by omega
   rw[e];rfl
def GR (N:HandS)(k:Nat)(z:Int):Prop := ∃(g:Gs) (x:Int),N.known[k]?=some (QM g)/\N.given[k]?=some x/\z=if (Y1 N.gone (.inl (k:Int))).isSome then 0 else g.want-x
inductive R_hnum (CH:Addr):List OT->(OT->Prop)->Prop
 |mk {N:HandS} {k:Nat} (h:k<N.known.length):R_hnum CH [.zow (Zn CH N),.fz (.int (k:Int))] (fun r=>r=.fz .none)
def IB:Qp Zab Zab (Qy JL):=by walk_at"p"
def Lj (T:Bl mg) (UH:HandC K CH) (D:Mf K CH "refuse_number" "Hand.refuse_number" JL Zab) (XaV:QB P w K mg base "is_whole_within" Zap 2 (QL (K:=K) R_within)):Zl P w K mg base CH "refuse_number" Zab 3 (Ze K (R_hnum CH)):=by
 refine D.evD IB (fun ts Φ h=>by cases h;rfl) (fun _ _ _ _ s H E ts Φ hr h=>?_)
 cases h with
 |@mk N k h =>
   refine⟨_,(Q3 (Z0 (Yq (Vg (QG XaV hr (Qo (pv 1) (Qo Qx (Qo (Zg Vx (by rfl) T.len Vm (Qo (Zs (pv 0) rfl) Qs)) Qs)))))) (Q3 B2) Z4)),?_⟩;show Q0 K _ [some _,some _] _
   walk_at"x"
   refine Zz (b:=false) (VY (b:=true) (ZH (Qu.cast (Zd (Qv (Qr rfl) (Qv Q8 (Qv (Y6 (G6 UH rfl)) Q9))) R_within.mk) ?_))) (fun c=>nomatch c) (fun _=>Z7 rfl);rw[XS (show(0:Int)<=(k:Int) by omega),XS (show(k:Int)<(N.known.length:Int) by omega)]
   rfl
inductive R_hgot (CH:Addr):List OT->(OT->Prop)->Prop
 |mk {N:HandS} {k:Nat} {x:Int} (h:k<N.known.length) (hx:N.given[k]?=some x):R_hgot CH [.zow (Zn CH N),.fz (.int (k:Int))] (fun r=>r=.fz (.int x))
def NP {N:HandS}{k:Nat}{x:Int}(hx:N.given[k]?=some x):atI (N.given.map PyData.int) (k:Int)=some (.int x):=Ya (by rw[Xt,hx];rfl)
def E8:Qp Zab Zab (Qy J5):=by walk_at"p"
def T4 (T:Bl mg) (UH:HandC K CH) (D:Mf K CH "got" "Hand.got" J5 Zab) (Xa8:Zl P w K mg base CH "refuse_number" Zab 3 (Ze K (R_hnum CH))):Zl P w K mg base CH "got" Zab 4 (Ze K (R_hgot CH)):=by
 refine D.evD E8 (fun ts Φ h=>by cases h;rfl) (fun _ _ _ _ s H E ts Φ hr h=>?_)
 cases h with
 |@mk N k x h hx =>
   refine⟨_,(Q7 (Z8 (WL Xa8 UH hr (pv 0) (Qo (pv 1) Qs)))
 (Q3 (QQ (QH QI (Zs (pv 0) rfl) (pv 1))))),?_⟩
   show Q0 K _ [some _,some _] _
   walk_at"x"
   refine QF (G3 (WP Ni rfl (Qv (Qr rfl) Q9) (R_hnum.mk h)) ?_);exact ZQ (VL (Sk UH rfl) (Qr rfl) (NP hx)) rfl
inductive R_hrest (CH:Addr):List OT->(OT->Prop)->Prop
 |mk {N:HandS} {k:Nat} {z:Int} (h:GR N k z):R_hrest CH [.zow (Zn CH N),.fz (.int (k:Int))] (fun r=>r=.fz (.int z))
def ES:Qp Zab Zab (Qy JD):=by walk_at"p"
def LS (T:Bl mg) (UH:HandC K CH) (D:Mf K CH "rest" "Hand.rest" JD Zab) (Xa8:Zl P w K mg base CH "refuse_number" Zab 3 (Ze K (R_hnum CH))) (XaY:QB P w K mg base "want_of" Zav 1 (QL (K:=K) R_want)):Zl P w K mg base CH "rest" Zab 4 (Ze K (R_hrest CH)):=by
 refine D.evD ES (fun ts Φ h=>by cases h;rfl) (fun _ _ _ _ s H E ts Φ hr h=>?_)
 cases h with
 |@mk N k z h =>
   refine⟨_,(Q7 (Z8 (WL Xa8 UH hr (pv 0) (Qo (pv 1) Qs)))
 (Q7 (Z0 (Gi (M9 (YQ hr) (pv 1) (Zs (pv 0) rfl))) (Q3 (QQ Qx)) Z4)
 (Q3 (QQ (QU Y9 (QG XaY hr (Qo (QH QI (Zs (pv 0) rfl) (pv 1)) Qs)) (QH QI (Zs (pv 0) rfl) (pv 1))))))),?_⟩
   show Q0 K _ [some _,some _] _
   walk_at"x"
   obtain⟨g,x,hg,hx,rfl⟩:=h;have hl:=(Xh.mp hg).1;refine QF (G3 (WP Ni rfl (Qv (Qr rfl) Q9) (R_hnum.mk hl)) ?_);refine QF (Zz (b:=(Y1 N.gone (.inl (k:Int))).isSome) (ZB (Ao (k:=.inl (k:Int)) UH (Qr rfl) rfl)) (fun c=>?_) (fun c=>Z7 ?_))
   ·rw[c]
    exact ZQ Q8 rfl
   ·rw[c]
    exact ZQ (ZG (Zd (Qv (VL (G6 UH rfl) (Qr rfl) (Ya hg)) Q9) R_want.mk) (VL (Sk UH rfl) (Qr rfl) (NP hx))) rfl
inductive R_hopen (CH:Addr):List OT->(OT->Prop)->Prop
 |mk {N:HandS} (rs:Qn) (h:∀k,k<N.known.length->GR N k (rs k)) (l:N.known.length<=1000):R_hopen CH [.zow (Zn CH N)] (fun r=>r=.ol (QX ((List.range N.known.length).filter fun k => !decide (rs k=0))))
def Iu:Qp Zaj Zaj (Qy WX):=by walk_at"p"
def FL (T:Bl mg) (UH:HandC K CH) (D:Mf K CH "open_ones" "Hand.open_ones" WX Zaj) (XaZ:Zl P w K mg base CH "rest" Zab 4 (Ze K (R_hrest CH))):Zl P w K mg base CH "open_ones" Zaj 5 (Ze K (R_hopen CH)):=by
 refine D.evD Iu (fun ts Φ h=>by cases h;rfl) (fun _ _ _ _ s H E ts Φ hr h=>?_)
 cases h with
 |@mk N rs h l =>
   refine⟨_,(Q3 (QQ (Wr (NX:=Zaj) (sc:=Qy WX) (N:=["number","self"]) (f:=[none,some 0]) rfl (by decide +kernel) rfl rfl (Yl rfl T.range (Qo (Zg Vx (by rfl) T.len Vm (Qo (Zs (pv 0) rfl) Qs)) Qs)) (fun _=>(Zj (i:=0) (show(["number","self"]:Qh).Nodup by decide +kernel) rfl Qa)) (fun _=>Yk) (fun _=>(Gn (ZF GT (WL XaZ UH hr (pv 1) (Qo (pv 0) Qs)) Qx (ZA _)))) (fun _=>(pv 0))))),?_⟩;show Q0 K _ [some _] _
   walk_at"x"
   refine Js (Ge (xs:=List.range N.known.length) (enc:=fun(k:Nat)=>PyData.int (k:Int)) (h:=fun(k:Nat)=>PyData.int (k:Int)) (p:=fun k => !decide (rs k=0)) ?ei (by rw[UD];exact l) ?el) rfl
   case ei =>
    refine EvI.cast (Yy (Qv (Y6 (G6 UH rfl)) Q9) (by rw[z62];omega) (by rw[z62];omega)) ?_;rw[Xz];unfold ZN;exact Ja fun i _=>by rw[YF]
   case el =>
    intro k hk c;have hk:=XT.mp hk;refine⟨_,Zw,?_⟩
    walk_at"e"
    exact⟨ZB (Gc (U4 Dc rfl (Qv (Qr rfl) Q9) (R_hrest.mk (h k hk))) Q8),fun _=>Qr rfl⟩
inductive R_hgifts0 (CH:Addr):List OT->(OT->Prop)->Prop
 |mk {N:HandS} (h:N.made=[]):R_hgifts0 CH [.zow (Zn CH N)] (fun r=>r=.ol [])
def Ic:Qp Zaj Zaj (Qy WS):=by walk_at"p"
def A0 (T:Bl mg) (UH:HandC K CH) (D:Mf K CH "gifts" "Hand.gifts" WS Zaj):Zl P w K mg base CH "gifts" Zaj 1 (Ze K (R_hgifts0 CH)):=by
 refine D.evD Ic (fun ts Φ h=>by cases h;rfl) (fun _ _ _ _ s H E ts Φ hr h=>?_)
 cases h with
 |@mk N h =>
   refine⟨_,(Q3 (QQ (Wr (NX:=Zaj) (sc:=Qy WS) (N:=["gifts"]) (f:=[none]) rfl (by decide +kernel) rfl rfl (YY (Zs (pv 0) rfl)) (fun _=>(Zj (i:=0) (show(["gifts"]:Qh).Nodup by decide +kernel) rfl Qa)) (fun _=>Yk) (fun _=>Jv) (fun _=>La)))),?_⟩;show Q0 K _ [some _] _
   walk_at"x"
   exact Js (Uk (xs:=([]:Qk)) (enc:=fun _=>.none) (h:=fun _=>.none) (Wy (A4 UH rfl h)) (by decide) (fun x hx=>nomatch hx)) rfl
def stl (gs:List Gs)(n:Nat)(rs:Qn)(k:Nat):Gs:={ gs.getD k default with first:=max (gs.getD k default).first n,want:=rs k }
inductive R_hstill (CH:Addr):List OT->(OT->Prop)->Prop
 |mk {N:HandS} {gs:List Gs} {n:Nat} (rs:Qn) (hk:N.known=gs.map QM) (hn:N.now=(n:Int)) (h:∀k,k<gs.length->GR N k (rs k)) (l:gs.length<=900):R_hstill CH [.zow (Zn CH N)] (fun r=>r=.ol ((List.range gs.length).map fun k=>QM (stl gs n rs k)))
def BM:Qp ["self","guests","number","guest"] Zaj (Qy JK):=by walk_at"p"
def Ak (T:Bl mg) (UH:HandC K CH) (D:Mf K CH "still_there" "Hand.still_there" JK Zaj) (XbA:QB P w K mg base "with_want" ZaM 1 (QL (K:=K) R_withw)) (XbB:QB P w K mg base "staying_from" Zan 1 (QL (K:=K) R_stay)) (XaZ:Zl P w K mg base CH "rest" Zab 4 (Ze K (R_hrest CH))):Zl P w K mg base CH "still_there" Zaj 5 (Ze K (R_hstill CH)):=by
 refine D.evD BM (fun ts Φ h=>by cases h;rfl) (fun _ _ _ _ s H E ts Φ hr h=>?_)
 cases h with
 |@mk N gs n rs hk hn h l =>
   refine⟨_,(Q7 (QY (i:=1) BM.nd rfl Qa (Z5 Qs))
 (Q7 (Vn PassesOwn.never rfl (S7 rfl T.enumerate (Qo (Zs (pv 0) rfl) Qs)) (Bd (n:=2) rfl (Ym (Zj (i:=2) BM.nd rfl Qa) (Ym (Zj (i:=3) BM.nd rfl Qa) Gu))) (Q3 (Z8 (VX PySem.F.plainAttrs_list PySem.F.slot_list_append PySem.F.type_list_append Yf (pv 1) (Qo (QG XbA hr (Qo (QG XbB hr (Qo (pv 3) (Qo (Zs (pv 0) rfl) Qs))) (Qo (WL XaZ UH hr (pv 0) (Qo (pv 2) Qs)) Qs))) Qs)))))
 (Q3 (QQ (pv 1))))),?_⟩
   show Q0 K _ [some _,none,none,none] _
   walk_at"x"
   refine QF (VM (Vd (ds:=[]) ZC (by decide)) ?_)
   walk_at"d"
   refine QF (U0 (fun i=>[some (.zow (Zn CH N)),some (.ol ((List.range i).map fun k=>QM (stl gs n rs k))),none,none]) (MI (Qv (Qu.cast (G6 UH rfl) (show _=PyData.list (gs.map QM) by rw[hk])) Q9)) ⟨rfl,rfl,trivial⟩ ?st ?fin)
   case st =>
    intro i d hd;obtain⟨d1,e1,rfl⟩:=DI hd
    have hi:i<gs.length:=by
     have:=(Xh.mp e1).1
     simpa using this
    obtain rfl:d1=QM (gs.getD i default):=by simpa [hi] using e1.symm
    refine⟨_,Ue (ds:=[.int (i:Int),QM (gs.getD i default)]) (VZ Zw (VZ Zw Up)) rfl,?_⟩
    walk_at"d"
    refine U6 rfl (Zd (Qv (Zd (Qv (Qr rfl) (Qv (Qu.cast (DF UH rfl) (by rw[hn])) Q9)) R_stay.mk) (Qv (U4 Dc rfl (Qv (Qr rfl) Q9) (R_hrest.mk (h i hi))) Q9)) R_withw.mk) (by rw[Xn,UD];omega) ⟨rfl,?_,trivial⟩;rw[X6,XD];rfl
   case fin =>
    intro ρ' hf;refine Us hf ?_;rw[DW,Xn];exact MV rfl rfl
def hS (y:Yd)(gs:List Gs):HandS:=⟨QW y,0,gs.map QM,gs.map fun _=>0,[],[]⟩
def Dk {y:Yd}{gs:List Gs}{k:Nat}(h:k<gs.length):GR (hS y gs) k (gs.getD k default).want :=
 ⟨gs.getD k default,0,by simp[hS,h],by simp[hS,h],by simp[hS,Y1]⟩
def Ck (gs:List Gs):((List.range gs.length).map fun k=>QM (stl gs 0 (fun k=>(gs.getD k default).want) k))=gs.map QM:=by
 apply List.ext_getElem?
 intro i;by_cases h:i<gs.length
 ·simp[h,stl]
 ·simp[h]
inductive R_hcome:HandS->List OT->(OT->HandS->Prop)->Prop
 |mk {y:Yd} {gs:List Gs} {g:Gs} (ok:y.Ok) (hg:∀x∈gs++[g],G30 y x) (l:gs.length<=7) (h:∀S,Ve y (QR (gs++[g])) S<=0):R_hcome (hS y gs) [.fz (QM g)] (fun r N'=>r=.fz (.int (gs.length:Int))/\N'=hS y (gs++[g]))
inductive X_hcome (CH:Addr):List OT->(Qd->Prop)->Prop
 |mk {y:Yd} {gs:List Gs} {g:Gs} (ok:y.Ok) (hg:∀x∈gs++[g],G30 y x) (l:gs.length<=7) {S:Qm} (h:0<Ve y (QR (gs++[g])) S):X_hcome CH [.zow (Zn CH (hS y gs)),.fz (QM g)] (fun d=>∃S,0<Ve y (QR (gs++[g])) S/\d=QX (Zu (gs++[g]) S))
def EW:Qp ZaD ZaD (Qy JE):=by walk_at"p"
def FE (T:Bl mg) (UH:HandC K CH) (XR:XC K mg "NoRoom" YR CR fR) (D:Mf K CH "come" "Hand.come" JE ZaD) (Xbg:QB P w K mg base "is_guest" ZaL 4 (QL (K:=K) R_isguest)) (Xbh:Zl P w K mg base CH "refuse_past" ZaJ 1 (Ze K (R_hpast CH))) (Xbi:UP P w K mg base "refuse_lack" Zaf 7 (spX K CR "some" R_refuse X_refuse)) (Xbj:Zl P w K mg base CH "still_there" Zaj 5 (Ze K (R_hstill CH))) :
 GS P w K mg base CH "come" ZaD 8 (UR K CH CR "some" R_hcome (X_hcome CH)):=by
 have gus:∀{ρ:Q5} {y:Yd} {gs:List Gs} {g:Gs} {E:XK},ρ[0]?=some (some (.zow (Zn CH (hS y gs))))->ρ[1]?=some (some (.fz (QM g)))->gs.length<=7->Qu K (tOp GI (VH CH "still_there" (Ze K (R_hstill CH)) [] E (QD 0) QO) (W5 (QE (QD 1) QO))) ρ (.list ((gs++[g]).map QM)):=fun{ρ y gs g E} e0 e1 l =>
  Qu.cast (EvO.fz (GW (as:=gs.map QM) (bs:=[QM g]) (Qu.cast (EvO.fz (Zt.o (WP FI e0 Q9 (R_hstill.mk (n:=0) (fun k=>(gs.getD k default).want) rfl rfl (fun k hk=>Dk hk) (by omega))))) (by rw[Ck])) (EvO.fz (Vd (QZ (Qr e1) ZC) Wo)) (by rw[Xn];show gs.length+1<=1000;omega))) (by rw[XD];rfl)
 have it1:∀{ρ:Q5} {g:Gs},ρ[1]?=some (some (.fz (QM g)))->Qu K (tOp (rIx K) (QD 1) (tC (.int 1))) ρ (.int (g.first:Int)):=fun{ρ g} e=>Y5 (ds:=[.int (g.line:Int),.int (g.first:Int),.int (g.last:Int),.int g.want,.int g.most]) (Qr e) Q8 rfl;refine D.evHX EW (fun M ts Ψ h=>by cases h;rfl) (fun ts Φ h=>by cases h;rfl) (by decide) (fun f cdv A outer s H RR v M ts Ψ hr hst h=>?_) (fun f cdv A outer s F H RR ts Φ hr hst hq h=>?_)
 ·cases h with
  |@mk y gs g ok hg l h =>
    refine⟨_,(Q7 (Z0 (Yq (Vg (QG Xbg hr (Qo (Zs (pv 0) rfl) (Qo (pv 1) Qs))))) (PSs.nox (Q3 B2)) Z4)
 (Q7 (Z8 (WL Xbh UH hr (pv 0) (Qo (QH QI (pv 1) Qx) Qs)))
 (Q7 (Z8 (N3 Xbi hr (Kx hst) (Qo (Zs (pv 0) rfl) (Qo (QU Ba (Jz Xbj UH hr (pv 0)) (Z5 (Qo (pv 1) Qs))) Qs))))
 (PSs.nox (Q7 (Z8 (VX PySem.F.plainAttrs_list PySem.F.slot_list_append PySem.F.type_list_append Yf (Zs (pv 0) rfl) (Qo (pv 1) Qs)))
 (Q7 (Z8 (VX PySem.F.plainAttrs_list PySem.F.slot_list_append PySem.F.type_list_append Yf (Zs (pv 0) rfl) (Qo Qx Qs)))
 (Q3 (QQ (QU Y9 (Zg Vx (by rfl) T.len Vm (Qo (Zs (pv 0) rfl) Qs)) Qx))))))))),?_⟩
    show EvR K _ [some (.own v (Zv CH (hS y gs))),some (.fz (QM g))] _
    walk_at"x"
    have gk:=hg g (XB _ (Xi.mpr rfl));refine Vf (fun ρ'=>ρ'=[some (.own v (Zv CH (hS y gs))),some (.fz (QM g))]) (Zz (b:=false) (D1 0 rfl (VY (b:=true) (ZH (Zd (Qv (Qu.cast (GB (N:=hS y gs) UH rfl) rfl) (Qv (Qr rfl) Q9)) (R_isguest.mk gk))))) (fun c=>nomatch c) (fun _=>Z7 rfl)) ?_
    rintro _ rfl
    refine Vf (fun ρ'=>ρ'=[some (.own v (Zv CH (hS y gs))),some (.fz (QM g))]) (G3 (B5 0 rfl (fun r hr=>by rw[hr];exact B8 rfl) (WP N5 rfl (Qv (it1 rfl) Q9) (R_hpast.mk (by show(0:Int)<=(g.first:Int);omega)))) rfl) ?_
    rintro _ rfl
    refine Vf (fun ρ'=>ρ'=[some (.own v (Zv CH (hS y gs))),some (.fz (QM g))]) (G3 (B5 0 rfl (fun r hr=>by rw[hr];exact B8 rfl) (Ff (Qv (Qu.cast (GB (N:=hS y gs) UH rfl) rfl) (Qv (gus rfl rfl l) Q9)) (R_refuse.mk ok (fun x hx=>(hg x hx).ok) (by rw[Xo];show gs.length+1<=8;omega) h) hst)) rfl) ?_
    rintro _ rfl
    refine Vf (fun ρ'=>ρ'=[some (.own v (Zv CH { hS y gs with known:=gs.map QM++[QM g] })),some (.fz (QM g))]) (CL UH rfl (Qr rfl) (by show(gs.map QM).length<1000;rw[Xn];omega) rfl) ?_
    rintro _ rfl
    refine Vf (fun ρ'=>ρ'=[some (.own v (Zv CH (hS y (gs++[g])))),some (.fz (QM g))]) (AI (n:=0) UH rfl Q8 (by show(gs.map fun _=>(0:Int)).length<1000;rw[Xn];omega) ?_) ?_
    ·simp[hS]
    rintro _ rfl
    refine Bc (Qu.cast (CC (d:=.int ((gs.length:Int)+1-1)) 0 rfl rfl (ZG (Qu.cast (Y6 (G6 (N:=hS y (gs++[g])) UH rfl)) ?_) Q8)) ?_) ⟨_,⟨rfl,rfl⟩,rfl⟩
    ·show PyData.int (((gs++[g]).map QM).length:Int)=_
     rw[Xn,Xo];rfl
    ·rw[Int.add_sub_cancel]
 ·cases h with
  |@mk y gs g ok hg l S h =>
    refine⟨_,(Q7 (Z0 (Yq (Vg (QG Xbg hr (Qo (Zs (pv 0) rfl) (Qo (pv 1) Qs))))) (PSs.nox (Q3 B2)) Z4)
 (Q7 (Z8 (WL Xbh UH hr (pv 0) (Qo (QH QI (pv 1) Qx) Qs)))
 (Q7 (Z8 (N3 Xbi hr (Kx hst) (Qo (Zs (pv 0) rfl) (Qo (QU Ba (Jz Xbj UH hr (pv 0)) (Z5 (Qo (pv 1) Qs))) Qs))))
 (PSs.nox (Q7 (Z8 (VX PySem.F.plainAttrs_list PySem.F.slot_list_append PySem.F.type_list_append Yf (Zs (pv 0) rfl) (Qo (pv 1) Qs)))
 (Q7 (Z8 (VX PySem.F.plainAttrs_list PySem.F.slot_list_append PySem.F.type_list_append Yf (Zs (pv 0) rfl) (Qo Qx Qs)))
 (Q3 (QQ (QU Y9 (Zg Vx (by rfl) T.len Vm (Qo (Zs (pv 0) rfl) Qs)) Qx))))))))),?_⟩
    show EvZ K F H _ [some (.zow (Zn CH (hS y gs))),some (.fz (QM g))]
    walk_at"x"
    have gk:=hg g (XB _ (Xi.mpr rfl));refine Na (Zz (b:=false) (VY (b:=true) (ZH (Zd (Qv (Qu.cast (GB (N:=hS y gs) UH rfl) rfl) (Qv (Qr rfl) Q9)) (R_isguest.mk gk)))) (fun c=>nomatch c) (fun _=>Z7 rfl)) ?_;refine Na (G3 (WP N5 rfl (Qv (it1 rfl) Q9) (R_hpast.mk (by show(0:Int)<=(g.first:Int);omega))) rfl) ?_;exact TN (LJ (Qv (Qu.cast (GB (N:=hS y gs) UH rfl) rfl) (Qv (gus rfl rfl l) Q9)) (X_refuse.mk ok (fun x hx=>(hg x hx).ok) (by rw[Xo];show gs.length+1<=8;omega) h) hst hq)
inductive R_lcome:HandS->List OT->(OT->HandS->Prop)->Prop
 | mk {y:Yd} {gs:List Gs} {g:Gs} (ok:y.Ok) (hg:∀x∈gs++[g],G30 y x) (l:gs.length<=7) (h:∀S,Ve y (QR (gs++[g])) S<=0):R_lcome (hS y gs) [.fz (QM g)] (fun r N'=>r=.ol [.str "in",.int (gs.length:Int)]/\N'=hS y (gs++[g]))
inductive X_lcome (CH:Addr):List OT->(OT->Prop)->Prop
 | mk {y:Yd} {gs:List Gs} {g:Gs} (ok:y.Ok) (hg:∀x∈gs++[g],G30 y x) (l:gs.length<=7) {S:Qm} (h:0<Ve y (QR (gs++[g])) S):X_lcome CH [.zow (Zn CH (hS y gs)),.fz (QM g)] (fun r=>∃v S,0<Ve y (QR (gs++[g])) S/\r=.own v (lsO (.str "room") (QX (Zu (gs++[g]) S))))
def YD:Qp Zam Zat (Qy GD):=by walk_at"p"
def Fc (T:Bl mg) (UH:HandC K CH) (XR:XC K mg "NoRoom" YR CR fR) (XA:SO K mg YR CR cg ct) (D:Df K mg "_law_come" GD Zat) (Xbk:GS P w K mg base CH "come" ZaD 8 (UR K CH CR "some" R_hcome (X_hcome CH))) :
 QB P w K mg base "_law_come" Zat 9 (UO K CH R_lcome (X_lcome CH)):=by
 refine D.evH2 YD (fun M ts Ψ h=>by cases h;rfl) (fun ts Φ h=>by cases h;rfl) (by decide) (fun f cdv A outer s H E v M ts Ψ hr h=>?_) (fun _ _ _ _ s H E ts Φ hr h=>?_)
 ·have hu:=hr.units
  cases h with
  |@mk y gs g ok hg l h =>
    refine⟨_,(Q7 (QY (i:=2) YD.nd rfl Qa Bk)
 (Q7 (RV (j:=3) XA.em rfl rfl rfl XA.my YD.nd rfl rfl rfl (fun D pn=>(Q3 (QY (i:=2) YD.nd rfl Qa (Z5 (Qo VQ (Qo (Rj Xbk UH hr RA (pv 0) (Qo (pv 1) Qs)) Qs)))))) (fun e pn=>(Q7 (QY (i:=4) YD.nd rfl (Or.inr rfl) (Z5 (Qo (Zg (show Zr _ (.builtin "isinstance") (Y0 K CR) from WE XA.is) (by rfl) T.isi VJ (Qo (pv 3) (Qo (YB (v:=.ref _) rfl XA.m1 rfl) Qs))) (Qo (Zg (show Zr _ (.builtin "isinstance") (Y0 K CR) from WE XA.is) (by rfl) T.isi VJ (Qo (pv 3) (Qo (YB (v:=.ref _) rfl XA.m2 rfl) Qs))) (Qo (Zg (show Zr _ (.builtin "isinstance") (Y0 K CR) from WE XA.is) (by rfl) T.isi VJ (Qo (pv 3) (Qo (YB (v:=.ref _) rfl XR.m rfl) Qs))) Qs)))))
 (Q7 (RJ (i:=2) YD.nd rfl rfl (NX:=Zam) (sc:=Qy GD) (N:=ZaB) (f:=[none,some 4,some 3]) (by decide +kernel) rfl rfl (RH (C:=CR) (e:=e) rfl rfl T.range (Qo Qx Qs)) (fun _=>(Zj (i:=0) (show(ZaB:Qh).Nodup by decide +kernel) rfl Qa)) (fun _=>Yk) (fun _=>(Gn (PW.pt (Gg (Vg (QH (show IxR _ (rIx K) from QI) (pv 1) (pv 0))) (Gw (Vg (Zg (show Zr _ (.builtin "isinstance") (Y0 K CR) from WE XA.is) (by rfl) T.isi VJ (Qo (pv 2) (Qo (YZ (v:=.ty "ValueError") rfl T.ValueError SH rfl) Qs))))))))) (fun _=>(QH (show IxR _ (rIx K) from QI) (Z5 (Qo VQ (Qo VQ (Qo VQ Qs)))) (pv 0))) rfl)
 (Q3 (Z0 (ZF (Nq hu) (pv 2) (Z5 (Qo VQ Qs)) (ZA _)) (Q3 (Z8 (show PE _ _ (tBM K "list" Yb _ _) from VX PySem.F.plainAttrs_list PySem.F.slot_list_append PySem.F.type_list_append Yf (pv 2) (Qo (N9 XA.gt XA.na (pv 3)) Qs)))) Z4))))))
 (Q3 (QQ (pv 2))))),?_⟩
    show EvR K _ [some (.own v (Zv CH (hS y gs))),some (.fz (QM g)),none,none,none] _
    walk_at"x"
    refine Vf (fun ρ'=>ρ'=[some (.own v (Zv CH (hS y gs))),some (.fz (QM g)),some (.fz .none),none,none]) (ZR Gd rfl) ?_
    rintro _ rfl
    refine Vf (fun ρ'=>ρ'=[some (.own v (Zv CH (hS y (gs++[g])))),some (.fz (QM g)),some (.ol [.str "in",.int (gs.length:Int)]),none,none]) (Tq fun E'=>FS Nt rfl Y7 rfl (Qv (Qr rfl) Q9) (R_hcome.mk ok hg l h) RM ?_) ?_
    ·rintro r N' ⟨rfl,rfl⟩
     exact⟨_,_,rfl,rfl,rfl⟩
    rintro _ rfl
    exact L4 (j:=2) (by decide) rfl ⟨_,⟨rfl,rfl⟩,rfl⟩
 ·have hu:=hr.units
  cases h with
  |@mk y gs g ok hg l S h =>
    refine⟨_,(Q7 (QY (i:=2) YD.nd rfl Qa Bk)
 (Q7 (RV (j:=3) XA.em rfl rfl rfl XA.my YD.nd rfl rfl rfl (fun D pn=>(Q3 (QY (i:=2) YD.nd rfl Qa (Z5 (Qo VQ (Qo (Rj Xbk UH hr RA (pv 0) (Qo (pv 1) Qs)) Qs)))))) (fun e pn=>(Q7 (QY (i:=4) YD.nd rfl (Or.inr rfl) (Z5 (Qo (Zg (show Zr _ (.builtin "isinstance") (Y0 K CR) from WE XA.is) (by rfl) T.isi VJ (Qo (pv 3) (Qo (YB (v:=.ref _) rfl XA.m1 rfl) Qs))) (Qo (Zg (show Zr _ (.builtin "isinstance") (Y0 K CR) from WE XA.is) (by rfl) T.isi VJ (Qo (pv 3) (Qo (YB (v:=.ref _) rfl XA.m2 rfl) Qs))) (Qo (Zg (show Zr _ (.builtin "isinstance") (Y0 K CR) from WE XA.is) (by rfl) T.isi VJ (Qo (pv 3) (Qo (YB (v:=.ref _) rfl XR.m rfl) Qs))) Qs)))))
 (Q7 (RJ (i:=2) YD.nd rfl rfl (NX:=Zam) (sc:=Qy GD) (N:=ZaB) (f:=[none,some 4,some 3]) (by decide +kernel) rfl rfl (RH (C:=CR) (e:=e) rfl rfl T.range (Qo Qx Qs)) (fun _=>(Zj (i:=0) (show(ZaB:Qh).Nodup by decide +kernel) rfl Qa)) (fun _=>Yk) (fun _=>(Gn (PW.pt (Gg (Vg (QH (show IxR _ (rIx K) from QI) (pv 1) (pv 0))) (Gw (Vg (Zg (show Zr _ (.builtin "isinstance") (Y0 K CR) from WE XA.is) (by rfl) T.isi VJ (Qo (pv 2) (Qo (YZ (v:=.ty "ValueError") rfl T.ValueError SH rfl) Qs))))))))) (fun _=>(QH (show IxR _ (rIx K) from QI) (Z5 (Qo VQ (Qo VQ (Qo VQ Qs)))) (pv 0))) rfl)
 (Q3 (Z0 (ZF (Nq hu) (pv 2) (Z5 (Qo VQ Qs)) (ZA _)) (Q3 (Z8 (show PE _ _ (tBM K "list" Yb _ _) from VX PySem.F.plainAttrs_list PySem.F.slot_list_append PySem.F.type_list_append Yf (pv 2) (Qo (N9 XA.gt XA.na (pv 3)) Qs)))) Z4))))))
 (Q3 (QQ (pv 2))))),?_⟩
    show Q0 K _ [some (.zow (Zn CH (hS y gs))),some (.fz (QM g)),none,none,none] _
    walk_at"x"
    refine QF (ZR (d:=.none) Gd ?_)
    walk_at"d"
    apply QF
    apply Co (C:=CR) (f := "some") (n:=5) (j:=3) (fun d=>∃S,0<Ve y (QR (gs++[g])) S/\d=QX (Zu (gs++[g]) S)) (by decide)
    case hz =>
     intro E' F0 H0 F σ H' x St k;exact Ca (F0:=F) (H0:=H') Nt rfl Y7 (Qv (Qr rfl) Q9) (X_hcome.mk ok hg l h) RM (fun F' H'' e dct d hd x' he fl=>k F' H'' e dct d hd x' he fl) (Q1.refl St.sub) St
    case hth =>
     rintro _ e dx q ⟨S',hS',rfl⟩
     dsimp only[List.set,List.replicate];refine QF (VM (Vd (ds:=[.bool false,.bool false,.bool true]) (QZ (M6 rfl rfl XA.kg) (QZ (M6 rfl rfl XA.kt) (QZ (M6 rfl rfl XA.k1) ZC))) (by show(3:Nat)<=1000;decide)) ?_)
     walk_at"d"
     refine Ws 4 rfl ?_
     walk_at"d"
     have fl:Uv [PyData.str "room"]:=fun d hd=>by rw[Xi.mp hd];exact⟨_,rfl⟩
     refine QF (VM (r:=.ol [.str "room"]) (FF 3 rfl fl (EvO.cast (Ge (xs:=List.range 3) (enc:=fun(k:Nat)=>PyData.int (k:Int)) (h:=fun(k:Nat)=>([.str "guest",.str "time",.str "room"]:Qd).getD k .none) (p:=fun k=>decide (k=2)) ?ei (by decide) ?el) rfl)) ?_)
     case ei=>exact EvI.cast (Ag (i:=3) rfl (Qv Q8 Q9) (by rw[z62];decide) (by rw[z62];decide)) rfl
     case el =>
      intro k hk c;have hk:=XT.mp hk;refine⟨_,Zw,?_⟩
      walk_at"e"
      have im:atI [PyData.bool false,.bool false,.bool true] (k:Int)=some (PyData.bool (decide (k=2))):=by
       obtain rfl|rfl|rfl:k=0\/k=1\/k=2:=by omega
       all_goals rfl
      refine⟨Zb.cast (UZ (b:=decide (k=2)) (c:=true) (ZH (VL (Qr rfl) (Qr rfl) im)) (fun _=>ZH (Tc rfl rfl XA.k2))) (by rw[Bool.and_true]),fun hc=>?_⟩;have hc:=XV hc;subst hc;exact VL (EvO.fz (Vd (ds:=[.str "guest",.str "time",.str "room"]) (QZ Y7 (QZ Y7 (QZ Y7 ZC))) (by show(3:Nat)<=1000;decide))) (Qr rfl) rfl
     walk_at"d"
     have fr:V1 (.list [.str "room"]):=(Bq (m:=0) (Ju ⟨by decide +kernel,XQ _⟩ Gh)).fine (by decide);refine Zz (b:=true) (Fp 2 rfl rfl (Zb.cast (ZB (K1 (a:=.list [.str "room"]) (b:=.list [.str "room"]) (Qr rfl) (EvO.fz (Vd (QZ Y7 ZC) Wo)) fr fr)) (by rw[J0 fr]))) (fun _=>?_) (fun c=>nomatch c);refine FA (by decide) rfl rfl fun v=>?_
     walk_at"d"
     exact Da rfl ⟨v,S',hS',rfl⟩
def eRw (g:Gs):PyData:=.list [.int (g.line:Int),.int (g.first:Int),.int (g.last:Int),.int g.want,.int g.most]
def CQ {α:Type}(a:α)(n:Nat):List.replicate n a=(List.range n).map fun _=>a:=by
 apply List.ext_getElem?
 intro i;by_cases h:i<n
 ·simp[h]
 ·simp[h]
def ZY (y:Yd)(b own:Qn)(i l:Nat):Int:=if y.ls.length<=l+i then passes y b own l else Vh y b own i l
inductive R_lpass:List OT->OT->Prop
 |mk {y:Yd} {gs:List Gs} {sm:Qk} {t:Nat} (ok:y.Ok) (hg:∀g∈gs,g.Ok y) (hs:SetOk gs sm) (ht:t<y.T) :
  R_lpass [.fz (QW y),.fz (.list (gs.map eRw)),.fz (.list (QX sm)),.fz (.int (t:Int))] (.fz (.int (YC y gs sm t)))
def YE:Qp ["_law_yard_here","_law_rows","_law_picked","_law_turn","_law_reach","_law_number","_law_line","_law_first","_law_last","_law_lack","_law_most","_law_k","_law_above","_law_bounds"] Zag (Qy Hy):=by walk_at"p"
def CI (T:Bl mg) (D:Df K mg "_law_passes" Hy Zag):QB P w K mg base "_law_passes" Zag 1 (QL (K:=K) R_lpass):=by
 refine D.ev YE (fun ts r h=>by cases h;rfl) (fun _ _ _ _ s H E ts r hr h=>?_)
 cases h with
 |@mk y gs sm t ok hg hs htT =>
   refine⟨_,(Q7 (QY (i:=4) YE.nd rfl Qa (QU PB (Z5 (Qo Qx Qs)) (Zg Vx (by rfl) T.len Vm (Qo (QH QI (pv 0) Qx) Qs))))
 (Q7 (Vn PassesOwn.never rfl (YY (pv 2)) (Zj (i:=5) YE.nd rfl Qa) (Q7 (WI (QH QI (pv 1) (pv 5)) (Td (n:=5) rfl (Ym (Zj (i:=6) YE.nd rfl Qa) (Ym (Zj (i:=7) YE.nd rfl Qa) (Ym (Zj (i:=8) YE.nd rfl Qa) (Ym (Zj (i:=9) YE.nd rfl Qa) (Ym (Zj (i:=10) YE.nd rfl Qa) Gu)))))))
 (Q3 (Z0 (PW.pt (Gg (D8 Ug Ug (pv 7) (pv 3) (pv 8)) (Gw (ZF YU (pv 9) Qx (ZA _))))) (Q3 (WI (QU VA (QH QI (pv 4) (pv 6)) (pv 10)) (Ut (pv 4) (pv 6) We))) Z4))))
 (Q7 (Vn PassesOwn.never rfl (RE rfl T.range (Qo (QU Y9 (Zg Vx (by rfl) T.len Vm (Qo (pv 4) Qs)) Qx) (Qo (Mu MN Qx) (Qo (Mu MN Qx) Qs)))) (Zj (i:=11) YE.nd rfl Qa) (Q7 (WI (QH QI (QH QI (pv 0) Qx) (pv 11)) (Bd (n:=2) rfl (Ym (Zj (i:=12) YE.nd rfl Qa) (Ym (Zj (i:=13) YE.nd rfl Qa) Gu))))
 (Q7 (WI (Zg (Bb rfl) (by rfl) T.min Gj (Qo (QH QI (pv 4) (pv 11)) (Qo (QH QI (pv 13) (pv 3)) Qs))) (Ut (pv 4) (pv 11) We))
 (Q3 (Z0 (ZF YU (pv 11) Qx (ZA _)) (Q3 (WI (QU VA (QH QI (pv 4) (pv 12)) (QH QI (pv 4) (pv 11))) (Ut (pv 4) (pv 12) We))) Z4)))))
 (Q3 (QQ (QH QI (pv 4) Qx)))))),?_⟩
   show Q0 K _ [some _,some _,some _,some _,none,none,none,none,none,none,none,none,none,none] _
   walk_at"x"
   have l1:=ok.l1;have l5:=ok.l5;have t8:=ok.t8;have n8:=hs.len;have eL:∀{ρ:Q5},ρ[0]?=some (some (.fz (QW y)))->Qu K (tOp (rIx K) (QD 0) (tC (.int 1))) ρ (.tuple (y.ls.map V4)):=fun e=>Y5 (ds:=[PyData.int (y.T:Int),.tuple (y.ls.map V4)]) (Qr e) Q8 rfl;have len:(y.ls.map V4).length=y.ls.length:=by simp
   refine QF (VM (EvO.cast (PQ (ds:=[.int 0]) (k:=(y.ls.length:Int)) (EvO.fz (Vd (ds:=[.int 0]) (QZ Q8 ZC) Wo)) (Qu.cast (Bh (eL rfl)) (by rw[len])) (by omega) (by show 1*_<=1000;omega) (by omega)) (d':=.ol ((List.range y.ls.length).map fun l=>PyData.int (Z3 gs (t:Int) l []))) ?e0) ?_)
   case e0 =>
    rw[NK,Xz,CQ];rfl
   walk_at"d"
   refine QF (VR (ds:=QX sm) (fun i ρ'=>∃u5 u6 u7 u8 u9 u10:Option OT,ρ'=[some (.fz (QW y)),some (.fz (.list (gs.map eRw))),some (.fz (.list (QX sm))),some (.fz (.int (t:Int))),some (.ol ((List.range y.ls.length).map fun l=>PyData.int (Z3 gs (t:Int) l (sm.take i)))),u5,u6,u7,u8,u9,u10,none,none,none]) (Wy (Qr rfl)) ⟨_,_,_,_,_,_,rfl⟩ ?st3 ?fin3)
   case st3 =>
    rintro i d _ hd ⟨u5,u6,u7,u8,u9,u10,rfl⟩
    have hi:i<sm.length:=by
     have:=(Xh.mp hd).1
     simpa [QX] using this
    obtain rfl:d=.int ((sm[i]:Nat):Int):=by simpa [QX,hi] using hd.symm
    have hk:sm[i]<gs.length:=hs.mem _ (XY hi);refine⟨_,Zw,?_⟩
    walk_at"d"
    have tk:sm.take (i+1)=sm.take i++[sm[i]]:=by rw[JO];simp[hi]
    have eg:atI (gs.map eRw) ((sm[i]:Nat):Int)=some (eRw gs[sm[i]]):=Ya (by simp[hk]);have gok:=hg gs[sm[i]] (XY hk);have gl:=gok.ln;have gw:=gok.w1;refine QF (M5 (VL (Qr rfl) (Qr rfl) eg) (Pg (VZ Zw (VZ Zw (VZ Zw (VZ Zw (VZ Zw Up))))) rfl) ?_)
    walk_at"d"
    refine Zz (b:=Wg gs[sm[i]] (t:Int)) (Zb.cast (UZ (c:=true) (ZB (Gq (Qr rfl) (Qr rfl) (Qr rfl))) (fun _=>Zb.cast (ZB (Yj (Qr rfl) Q8)) (XS (by omega)))) (by rw[Bool.and_true];rfl)) (fun c=>?_) (fun c=>Z7 ?_)
    ·have it:∀{ρ:Q5},ρ[4]?=some (some (.ol ((List.range y.ls.length).map fun l=>PyData.int (Z3 gs (t:Int) l (sm.take i)))))->ρ[6]?=some (some (.fz (.int (gs[sm[i]].line:Int))))->Qu K (tOp (rIx K) (QD 4) (QD 6)) ρ (.int (Z3 gs (t:Int) gs[sm[i]].line (sm.take i))):=fun e1 e2=>Uo e1 (Qr e2) (by rw[Uq (by omega) (by omega),Xz])
     refine Bm (j:=gs[sm[i]].line) rfl (ZG (it rfl rfl) (Qr rfl)) (Qr rfl) (by rw[GX (by omega) (by simp;omega),Xz]) ?_
     walk_at"d"
     rw[Gp (f:=fun l=>Z3 gs (t:Int) l (sm.take i)) (g:=fun l=>Z3 gs (t:Int) l (sm.take (i+1))) gl (fun l hl hn=>by rw[tk,JF];simp[Z3,hk,Ne.symm hn]) (by rw[tk,JF];simp[Z3,hk,c])]
     exact⟨_,_,_,_,_,_,rfl⟩
    ·have e:(fun l=>PyData.int (Z3 gs (t:Int) l (sm.take (i+1))))=fun l=>PyData.int (Z3 gs (t:Int) l (sm.take i)):=by
      funext l
      rw[tk,JF];simp[Z3,hk,c]
     dsimp only;rw[e];exact⟨_,_,_,_,_,_,rfl⟩
   case fin3 =>
    rintro _ ⟨u5,u6,u7,u8,u9,u10,rfl⟩
    have el:(QX sm).length=sm.length:=by simp[QX]
    rw[el,JQ];generalize hb:(fun k=>Zy y k t)=b
    generalize ho:Wa gs t sm=own;have e0:((List.range y.ls.length).map fun l=>PyData.int (Z3 gs (t:Int) l sm))=(List.range y.ls.length).map fun l=>PyData.int (ZY y b own 0 l):=Ja fun l hl=>by
     have:=XT.mp hl
     unfold ZY;rw[Xb (by omega),<- ho];rfl
    rw[e0];refine QF (VR (ds:=Wm ((y.ls.length:Int)-1) y.ls.length) (fun i ρ'=>∃u11 u12 u13:Option OT,ρ'=[some (.fz (QW y)),some (.fz (.list (gs.map eRw))),some (.fz (.list (QX sm))),some (.fz (.int (t:Int))),some (.ol ((List.range y.ls.length).map fun l=>PyData.int (ZY y b own i l))),u5,u6,u7,u8,u9,u10,u11,u12,u13]) ?ei4 ⟨_,_,_,rfl⟩ ?st4 ?fin4)
    case ei4 =>
     apply EvI.cast
     ·walk_at"ei"
     ·rw[Xn,UD]
      exact R8 rfl (by omega)
    case st4 =>
     rintro i d _ hd ⟨u11,u12,u13,rfl⟩
     obtain⟨hi,rfl⟩:=D5 hd;refine⟨_,Zw,?_⟩
     walk_at"d"
     have ej:(y.ls.length:Int)-1-(i:Int)=((y.ls.length-1-i:Nat):Int):=by omega
     rw[ej];generalize hj:y.ls.length-1-i=j;have hjl:j<y.ls.length:=by omega
     have hbl:=DC ok hjl;have hbb:(ZV y j).bs.getD t 0=b j:=by rw[<- Hn hjl,<- hb]
     have ln:atI (y.ls.map V4) (j:Int)=some (V4 (ZV y j)):=Ya (by simp[hjl,ZV])
     have ar:ZY y b own i j=V2 y b own j:=by
      unfold ZY;rw[Xb (by omega)];have:i=y.ls.length-1-j:=by omega
      rw[this];exact Sn ok b own hjl
     refine QF (M5 (Y5 (eL rfl) (Qr rfl) ln) (Ue (ds:=[upD (ZV y j).up,.tuple ((ZV y j).bs.map PyData.int)]) (VZ Zw (VZ Zw Up)) rfl) ?_)
     walk_at"d"
     refine QF (Bm (j:=j) rfl (ME (Uo rfl (Qr rfl) (Uq (by omega) (by omega))) (Y5 (Qr rfl) (Qr rfl) (Nw (by omega) (by omega)))) (Qr rfl) (by rw[GX (by omega) (by simp;omega),Xz]) ?_)
     walk_at"d"
     rw[Xz,Xz,hbb,ar];have ed:((List.range y.ls.length).map fun l=>PyData.int (ZY y b own i l)).set j (.int (min (V2 y b own j) (b j)))=(List.range y.ls.length).map fun l=>PyData.int (if l=j then passes y b own j else ZY y b own i l):=Gp hjl (fun l _ hn=>Xb hn) (Xd rfl);rw[ed];refine Zz (b:=decide ((j:Int) > 0)) (Zb.cast (ZB (Yj (Qr rfl) Q8)) rfl) (fun c=>?_) (fun c=>Z7 ?_)
     ·have c:=XV c
      obtain⟨a,ea,la⟩:=ok.ups j (by omega) hjl
      have eu:upD (ZV y j).up=.int (a:Int):=by
       have:(ZV y j).up=some a:=by rw[<- DU hjl];exact ea
       rw[this];rfl
      rw[eu];refine Bm (j:=a) rfl (ZG (Uo rfl (Qr rfl) (Uq (by omega) (by omega))) (Uo rfl (Qr rfl) (Uq (by omega) (by omega)))) (Qr rfl) (by rw[GX (by omega) (by simp;omega),Xz]) ?_
      walk_at"d"
      rw[Xz,Xz,Xd rfl,Xb (show ¬a=j by omega)]
      have e1:∀l,l<y.ls.length->l≠a->ZY y b own (i+1) l=if l=j then passes y b own j else ZY y b own i l:=fun l hl hn=>by
       unfold ZY;by_cases z:l=j
       ·subst z
        rw[Xd rfl,Xd (by omega)]
       ·rw[Xb z]
        by_cases z2:y.ls.length<=l+i
        ·rw[Xd z2,Xd (by omega)]
        ·rw[Xb z2,Xb (by omega)]
         simp only[Vh,YS,hj];rw[ea,Xb (by simpa using fun z=>hn z.symm)];omega
      have e2:ZY y b own (i+1) a=ZY y b own i a+passes y b own j:=by
       have r:Vh y b own i j=V2 y b own j:=by
        rw[<- ar];unfold ZY;rw[Xb (by omega)]
       unfold ZY;rw[Xb (by omega),Xb (by omega)];simp only[Vh,YS,hj];rw[ea,Xd rfl,r];rfl
      rw[Gp (f:=fun l=>if l=j then passes y b own j else ZY y b own i l) (g:=fun l=>ZY y b own (i+1) l) (by omega) e1 e2]
      exact⟨_,_,_,rfl⟩
     ·have c:=UF c
      have e:(fun l=>PyData.int (if l=j then passes y b own j else ZY y b own i l))=fun l=>PyData.int (ZY y b own (i+1) l):=by
       funext l
       have:j=0:=by omega
       subst this;by_cases z:l=0
       ·subst z
        rw[Xd rfl];unfold ZY;rw[Xd (by omega)]
       ·rw[Xb z]
        unfold ZY;rw[Xd (by omega),Xd (by omega)]
      dsimp only;rw[e];exact⟨_,_,_,rfl⟩
    case fin4 =>
     rintro _ ⟨u11,u12,u13,rfl⟩
     rw[D4];refine ZQ (Qu.cast (Uo rfl Q8 (Uq (by decide) (by omega))) ?_) rfl;unfold ZY YC;rw[Xd (by omega),hb,ho];rfl
inductive R_lsh:List OT->OT->Prop
 |mk {y:Yd} {gs:List Gs} {sm:Qk} (ok:y.Ok) (hg:∀g∈gs,g.Ok y) (hs:SetOk gs sm):R_lsh [.fz (QW y),.fz (.list (gs.map eRw)),.fz (.list (QX sm)),.fz (.int 0)] (.fz (.int (Ys y gs sm)))
def BJ:Qp Zaq Zad (Qy BG):=by walk_at"p"
def Ti (T:Bl mg) (D:Df K mg "_law_short" BG Zad) (XbC:QB P w K mg base "_law_passes" Zag 1 (QL (K:=K) R_lpass)):QB P w K mg base "_law_short" Zad 2 (QL (K:=K) R_lsh):=by
 refine D.ev BJ (fun ts r h=>by cases h;rfl) (fun _ _ _ _ s H E ts r hr h=>?_)
 cases h with
 |@mk y gs sm ok hg hs =>
   refine⟨_,(Q7 (QY (i:=4) BJ.nd rfl Qa (Zg MK (by rfl) T.sum MS (Qo (Wr (NX:=Zaq) (sc:=Qy BG) (N:=["_law_number","_law_rows"]) (f:=[none,some 1]) rfl (by decide +kernel) rfl rfl (YY (pv 2)) (fun _=>(Zj (i:=0) (show(["_law_number","_law_rows"]:Qh).Nodup by decide +kernel) rfl Qa)) (fun _=>Yk) (fun _=>Jv) (fun _=>(QH QI (QH QI (pv 1) (pv 0)) Qx))) Qs)))
 (Q7 (Vn PassesOwn.never rfl (RO rfl T.range (Qo (pv 3) (Qo (QH QI (pv 0) Qx) Qs))) (Zj (i:=5) BJ.nd rfl Qa) (Q3 (QY (i:=4) BJ.nd rfl Qa (QU Y9 (pv 4) (QG XbC hr (Qo (pv 0) (Qo (pv 1) (Qo (pv 2) (Qo (pv 5) Qs)))))))))
 (Q3 (QQ (pv 4))))),?_⟩
   show Q0 K _ [some _,some _,some _,some _,none,none] _
   walk_at"x"
   have sl:=hs.len;have t8:=ok.t8;refine QF (ZR (d:=.int (Jx gs sm)) (GV (ns:=sm.map fun k=>(gs.getD k default).want) (Qu.cast (EvO.fz (Uk (xs:=sm) (enc:=fun(k:Nat)=>PyData.int (k:Int)) (h:=fun k=>.int (gs.getD k default).want) ?ei (by omega) ?el)) (by rw[Wl];rfl)) rfl) ?_)
   case ei=>exact Wy (Qr rfl)
   case el =>
    intro k hk c;have hk':=hs.mem k hk;refine⟨_,Zw,?_⟩
    walk_at"e"
    have it:atI (gs.map eRw) (k:Int)=some (eRw (gs.getD k default)):=Ya (by simp[hk']);exact VL (ds:=[.int ((gs.getD k default).line:Int),.int ((gs.getD k default).first:Int),.int ((gs.getD k default).last:Int),.int (gs.getD k default).want,.int (gs.getD k default).most]) (VL (Qr rfl) (Qr rfl) it) Q8 rfl
   walk_at"d"
   refine QF (U0 (ds:=ZN 0 y.T) (fun i=>[some (.fz (QW y)),some (.fz (.list (gs.map eRw))),some (.fz (.list (QX sm))),some (.fz (.int 0)),some (.fz (.int (Jx gs sm-UY (fun t=>YC y gs sm t) i))),none]) ?ei2 ⟨rfl,rfl,rfl,rfl,?e0,trivial⟩ ?st2 ?fin2)
   case ei2=>exact EvI.cast (Dr (Qv (Qr rfl) (Qv (Y5 (ds:=[PyData.int (y.T:Int),.tuple (y.ls.map V4)]) (Qr rfl) Q8 rfl) Q9)) (by rw[z62];omega)) (W0 rfl (by omega))
   case e0=>simp[UY]
   case st2 =>
    intro i d hd;obtain⟨hi,rfl⟩:=Yw hd;refine⟨_,Zw,?_⟩
    walk_at"d"
    rw[YF];refine ZR (ZG (Qr rfl) (Zd (Qv (Qr rfl) (Qv (Qr rfl) (Qv (Qr rfl) (Qv (Qr rfl) Q9)))) (R_lpass.mk ok hg hs hi))) ⟨rfl,rfl,rfl,rfl,?_,trivial⟩;rw[Ek];exact XW (fun z=>some (OT.fz (.int z))) (by omega)
   case fin2 =>
    intro ρ' hf;refine Us hf ?_;rw[W1];exact ZQ (Qr rfl) rfl
inductive R_lshows:List OT->OT->Prop
 |mk {y:Yd} {gs:List Gs} {S:Qm} (ok:y.Ok) (hg:∀g∈gs,g.Ok y) (g8:gs.length<=8) (h:0<Ve y (QR gs) S):R_lshows [.fz (.list (QX (Zu gs S))),.fz (QW y),.fz (.list (gs.map eRw)),.fz (.int 0)] (.fz (.bool true))
def Sw {gs:List Gs}(g8:gs.length<=8)(S:Qm):Zu gs S=QV fun i=>decide (i<gs.length)&&S i:=by
 have e:∀n,n<=8->([0,1,2,3,4,5,6,7]:Qk).filter (fun i=>decide (i<n))=List.range n:=by decide
 unfold Zu QV;rw[<- e _ g8,List.filter_filter];refine List.filter_congr fun i _=>?_
 cases S i<;>simp
def FM (p:Qm):JZ p=QX (QV p):=by
 unfold JZ Vk QX;rw[Wl];rfl
def SG:Qp ["_law_some","_law_yard_here","_law_rows","_law_now","_law_number"] Zah (Qy HE):=by walk_at"p"
def Ar (T:Bl mg) (D:Df K mg "_law_shows" HE Zah) (Xa9:QB P w K mg base "_law_short" Zad 2 (QL (K:=K) R_lsh)):QB P w K mg base "_law_shows" Zah 3 (QL (K:=K) R_lshows):=by
 refine D.ev SG (fun ts r h=>by cases h;rfl) (fun _ _ _ _ s H E ts r hr h=>?_);have hu:=hr.units
 cases h with
 |@mk y gs S ok hg g8 h =>
   refine⟨_,(Q7 (Z0 (PW.pt (Wq (Yq (Vg (Zg WD (by rfl) T.isi VJ (Qo (pv 0) (Qo (YZ (v:=.ty "list") rfl T.list Br rfl) Qs))))) (Uu (ZF (Ux hu) (pv 0) (Zg Ae (by rfl) T.sorted AH (Qo (pv 0) Qs)) (ZA _))))) (Q3 (QQ V9)) Z4)
 (Q7 (Vn PassesOwn.never rfl (YY (pv 0)) (Zj (i:=4) SG.nd rfl Qa) (Q3 (Z0 (PW.pt (Wq (Yq (Vg (Zg WD (by rfl) T.isi VJ (Qo (pv 4) (Qo (YZ (v:=.ty "int") rfl T.int MB rfl) Qs))))) (Wq (Vg (Zg WD (by rfl) T.isi VJ (Qo (pv 4) (Qo (YZ (v:=.ty "bool") rfl T.bool Bn rfl) Qs)))) (Uu (Yq (D8 Ug WB Qx (pv 4) (Zg Vx (by rfl) T.len Vm (Qo (pv 2) Qs)))))))) (Q3 (QQ V9)) Z4)))
 (Q7 (Z0 (ZF WB (Zg Lc (by rfl) T.len Vm (Qo (WO Lp (by rfl) T.set Pp (Qo (pv 0) Qs)) Qs)) (Zg Vx (by rfl) T.len Vm (Qo (pv 0) Qs)) (ZA _)) (Q3 (QQ V9)) Z4)
 (Q3 (QQ (Db YU (QG Xa9 hr (Qo (pv 1) (Qo (pv 2) (Qo (pv 0) (Qo (pv 3) Qs))))) Qx (ZA _))))))),?_⟩
   show Q0 K _ [some _,some _,some _,some _,none] _
   walk_at"x"
   have so:=G4 g8 S;have sl:=so.len;have fn:V1 (.list (QX (Zu gs S))):=D2 _;have e1:QX (Zu gs S)=JZ fun i=>decide (i<gs.length)&&S i:=by rw[FM,Sw g8]
   have up:=P2 fun i=>decide (i<gs.length)&&S i;have e2:QX (Zu gs S)=(Vk (QV fun i=>decide (i<gs.length)&&S i)).map PyData.int:=e1;refine QF (Zz (b:=false) (YN (b:=false) (c:=false) (VY (b:=true) (ZH (Wu (Qr rfl) rfl))) (fun _=>Zb.cast (ZB (Jr (a:=.list (QX (Zu gs S))) (b:=.list (QX (Zu gs S))) (Qr rfl) (Qu.cast (EvO.fz (AR (Qu.cast (Qr rfl) (by rw[e2])) (List.Perm.refl _) up ?hn)) (by rw[e2])) fn fn)) (by rw[J0 fn];rfl))) (fun c=>nomatch c) (fun _=>Z7 ?_))
   case hn=>unfold Vk;rw[Xn];have:=Ds fun i=>decide (i<gs.length)&&S i;omega
   refine QF (U0 (ds:=QX (Zu gs S)) (fun i=>[some (.fz (.list (QX (Zu gs S)))),some (.fz (QW y)),some (.fz (.list (gs.map eRw))),some (.fz (.int 0)),none]) (Wy (Qr rfl)) ⟨rfl,rfl,rfl,rfl,trivial⟩ ?st ?fin)
   case st =>
    intro i d hd;have hi:i<(Zu gs S).length:=by
     have:=(Xh.mp hd).1
     simpa [QX] using this
    obtain rfl:d=.int (((Zu gs S)[i]:Nat):Int):=by simpa [QX,hi] using hd.symm
    have hk:=so.mem _ (XY hi);refine⟨_,Zw,?_⟩
    walk_at"d"
    refine Zz (b:=false) (YN (b:=false) (c:=false) (VY (b:=true) (ZH (Wu (Qr rfl) rfl))) (fun _=>YN (b:=false) (c:=false) (ZH (Wu (Qr rfl) rfl)) (fun _=>Zb.cast (VY (ZB (Gq Q8 (Qr rfl) (Qu.cast (Y6 (Qr rfl)) (show _=PyData.int (gs.length:Int) by rw[Xn]))))) ?_))) (fun c=>nomatch c) (fun _=>Z7 ⟨rfl,rfl,rfl,rfl,trivial⟩);rw[XS (show(0:Int)<=(((Zu gs S)[i]:Nat):Int) by omega),XS (show(((Zu gs S)[i]:Nat):Int)<(gs.length:Int) by omega)]
    rfl
   case fin =>
    intro ρ' hf;refine Us hf ?_;refine QF (Zz (b:=false) (Zb.cast (ZB (Yj (Av (p:=fun i=>decide (i<gs.length)&&S i) (Qu.cast (Qr rfl) (by rw[e1])) rfl rfl) (Qu.cast (Y6 (Qr rfl)) (show _=PyData.int ((QV fun i=>decide (i<gs.length)&&S i).length:Int) by rw[<- Sw g8];simp[QX])))) (XN (by omega))) (fun c=>nomatch c) (fun _=>Z7 ?_));rw[J7]at h;exact ZQ (Qu.cast (Yj (Zd (Qv (Qr rfl) (Qv (Qr rfl) (Qv (Qr rfl) (Qv (Qr rfl) Q9)))) (R_lsh.mk ok hg so)) Q8) (by rw[XS (show Ys y gs (Zu gs S) > 0 from h)])) rfl
theorem N6 (S:Qm):∀n,∃i,i<2^n/\∀k,k<n->decide (i/2^k%2=1)=S k
 |0=>⟨0,by simp,fun k h=>Xl h (by omega)⟩
 |n+1=>by
   obtain⟨i,hi,h⟩:=N6 S n;have p2:2^(n+1)=2^n*2:=Nat.pow_succ 2 n;have pp:0<2^n:=Nat.two_pow_pos n
   cases s:S n with
   |false =>
     refine⟨i,by omega,fun k hk=>?_⟩
     by_cases z:k<n
     ·exact h k z
     ·have:k=n:=by omega
      subst this;rw[Nat.div_eq_of_lt hi,s];rfl
   |true =>
     refine⟨i+2^n,by omega,fun k hk=>?_⟩
     by_cases z:k<n
     ·rw[<- h k z]
      have e:2^n=2^k*(2*2^(n-k-1)):=by
       rw[<- Nat.mul_assoc,<- Nat.pow_succ,<- Nat.pow_add];congr 1;omega
      rw[e,Nat.add_mul_div_left _ _ (Nat.two_pow_pos k),Nat.add_mul_mod_self_left]
     ·have:k=n:=by omega
      subst this;rw[Nat.add_div_right _ pp,Nat.div_eq_of_lt hi,s];rfl
def YM (i k:Nat):Bool:=decide (i/2^k%2=1)
def pkI (m i:Nat):Qk:=(List.range m).filter (YM i)++[m]
def Dq {ms:List Gs}{m i:Nat}(hm:ms.length=m+1){S:Qm}(hS:S m=true)(h:∀k,k<m->YM i k=S k):pkI m i=Zu ms S:=by
 unfold pkI Zu;rw[hm,X6,UG];have e:(List.range m).filter (YM i)=(List.range m).filter S:=List.filter_congr fun k hk=>h k (XT.mp hk);rw[e];simp[hS]
inductive R_lfits:List OT->(OT->Prop)->Prop
 |mk {y:Yd} {ms:List Gs} {m:Nat} (ok:y.Ok) (hg:∀g∈ms,g.Ok y) (hm:ms.length=m+1) (m8:m<=7):R_lfits [.fz (QW y),.fz (.list (ms.map eRw))] (fun r=>∃b:Bool,r=.fz (.bool b)/\(b=true ↔ ∀S,S m=true->Ve y (QR ms) S<=0))
def BI:Qp Zaw Zau (Qy BC):=by walk_at"p"
def Cg (T:Bl mg) (D:Df K mg "_law_fits" BC Zau) (Xa9:QB P w K mg base "_law_short" Zad 2 (QL (K:=K) R_lsh)):QB P w K mg base "_law_fits" Zau 3 (Ze K R_lfits):=by
 refine D.evD BI (fun ts r h=>by cases h;rfl) (fun _ _ _ _ s H E ts r hr h=>?_)
 cases h with
 |@mk y ms m ok hg hm m8 =>
   refine⟨_,(Q7 (QY (i:=2) BI.nd rfl Qa (QU Y9 (Zg Vx (by rfl) T.len Vm (Qo (pv 1) Qs)) Qx))
 (Q7 (Vn PassesOwn.never rfl (Yl rfl T.range (Qo (QU Tu Qx (pv 2)) Qs)) (Zj (i:=3) BI.nd rfl (Or.inr rfl)) (Q7 (QY (i:=4) BI.nd rfl Qa (QU Ba (Wr (NX:=Zaw) (sc:=Qy BC) (N:=["_law_k","_law_bits"]) (f:=[none,some 3]) rfl (by decide +kernel) rfl rfl (Yl rfl T.range (Qo (pv 2) Qs)) (fun _=>(Zj (i:=0) (show(["_law_k","_law_bits"]:Qh).Nodup by decide +kernel) rfl Qa)) (fun _=>Yk) (fun _=>(Gn (ZF GQ (QU WF (QU TH (pv 1) (pv 0)) Qx) Qx (ZA _)))) (fun _=>(pv 0))) (Z5 (Qo (pv 2) Qs))))
 (Q3 (Z0 (ZF YU (QG Xa9 hr (Qo (pv 0) (Qo (pv 1) (Qo (pv 4) (Qo Qx Qs))))) Qx (ZA _)) (Q3 (QQ V9)) Z4))))
 (Q3 (QQ V9)))),?_⟩
   show Q0 K _ [some _,some _,none,none,none] _
   walk_at"x"
   have so:∀i,SetOk ms (pkI m i):=fun i=>by
    have e:=Dq (ms:=ms) (i:=i) hm (S:=fun k=>decide (k=m)||YM i k) (by simp) (fun k hk=>by simp[show k≠m by omega]);rw[e];exact G4 (by omega) _
   refine QF (ZR (d:=.int (m:Int)) (Qu.cast (ZG (Qu.cast (Y6 (Qr rfl)) (show _=PyData.int ((m:Int)+1) by rw[Xn,hm];rfl)) Q8) (by rw[Int.add_sub_cancel])) ?_)
   walk_at"d"
   have cs:Ki 1 (m:Int):=⟨by omega,by
    have:(Builtin.Int.intBits 1:Int)=1:=by decide
    rw[this];have:(2:Int)^27=134217728:=by decide
    omega⟩
   have p7:2^m<=2^7:=Nat.pow_le_pow_right (by decide) m8
   have e2:(1:Int)*2^(m:Int).toNat=((2^m:Nat):Int):=by
    rw[Int.one_mul,Xz,Int.natCast_pow];rfl
   have p8:2^m<=128:=p7;clear p7;generalize hq:2^m=q at p8 e2;refine QF (VR (ds:=ZN 0 q) (fun i ρ'=>(∀j,j<i->Ys y ms (pkI m j)<=0)/\∃u3 u4:Option OT,ρ'=[some (.fz (QW y)),some (.fz (.list (ms.map eRw))),some (.fz (.int (m:Int))),u3,u4]) ?ei ⟨fun j hj=>Xl hj (by omega),_,_,rfl⟩ ?st ?fin)
   case ei =>
    refine EvI.cast (Yy (Qv (Qu.cast (ZO Q8 (Qr rfl) cs) (show _=PyData.int (q:Int) by rw[e2])) Q9) (by rw[z62];omega) (by rw[z62];omega)) (W0 rfl (by omega))
   case st =>
    rintro i d _ hd ⟨hj,u3,u4,rfl⟩
    obtain⟨hi,rfl⟩:=Yw hd;refine⟨_,Zw,?_⟩
    walk_at"d"
    rw[YF];refine QF (VM (r:=.ol (QX (pkI m i))) (EvO.cast (GW (as:=QX ((List.range m).filter (YM i))) (bs:=[.int (m:Int)]) (EvO.fz (Ge (xs:=List.range m) (enc:=fun(k:Nat)=>PyData.int (k:Int)) (h:=fun(k:Nat)=>PyData.int (k:Int)) (p:=YM i) ?ei2 (by rw[UD];omega) ?el2)) (EvO.fz (Vd (QZ (Qr rfl) ZC) Wo)) ?hl) (by unfold QX pkI;rw[XD];rfl)) ?_)
    case ei2 =>
     refine EvI.cast (Yy (Qv (Qr rfl) Q9) (by rw[z62];omega) (by rw[z62];omega)) ?_;rw[Xz];unfold ZN;exact Ja fun i _=>by rw[YF]
    case el2 =>
     intro k hk c;refine⟨_,Zw,?_⟩
     walk_at"e"
     refine⟨Zb.cast (ZB (Ga (ZO (ZO (Qr rfl) (Qr rfl) (by omega)) Q8 (by decide)) Q8)) ?_,fun _=>Qr rfl⟩
     rw[Xz];unfold YM;have e3:((i:Int)/2^k%2)=((i/2^k%2:Nat):Int):=by
      rw[Int.natCast_emod,Int.natCast_ediv,Int.natCast_pow];rfl
     rw[e3];exact decide_eq_decide.mpr ⟨fun z=>by omega,fun z=>by omega⟩
    case hl =>
     have:((List.range m).filter (YM i)).length<=(List.range m).length:=BU _ _
     rw[UD]at this;show(QX _).length+1<=1000;unfold QX;rw[Xn];omega
    walk_at"d"
    refine Ws 4 rfl ?_
    walk_at"d"
    refine Zz (b:=decide (Ys y ms (pkI m i) > 0)) (Zb.cast (ZB (Yj (Zd (Qv (Qr rfl) (Qv (Qr rfl) (Qv (Qr rfl) (Qv Q8 Q9)))) (R_lsh.mk ok hg (so i))) Q8)) rfl) (fun c=>?_) (fun c=>Z7 ⟨fun j h=>?_,_,_,rfl⟩)
    ·have c:=XV c
     refine ZQ UU ⟨false,rfl,fun z=>(nomatch z),fun z=>?_⟩;have e:=Dq (ms:=ms) (i:=i) hm (S:=fun k=>decide (k=m)||YM i k) (by simp) (fun k hk=>by simp[show k≠m by omega]);have h1:=z (fun k=>decide (k=m)||YM i k) (by simp);rw[J7,<- e]at h1;unfold Ys at c;omega
    ·have c:=UF c
     by_cases z:j<i
     ·exact hj j z
     ·have:j=i:=by omega
      subst this;omega
   case fin =>
    rintro _ ⟨hj,u3,u4,rfl⟩
    rw[W1]at hj;refine ZQ UU ⟨true,rfl,fun _ S hS=>?_,fun _=>rfl⟩;obtain⟨i,hi,hb⟩:=N6 S m;have e:=Dq (ms:=ms) (i:=i) hm hS hb;have h1:=hj i (by rw[<- hq];exact hi);rw[e]at h1;rw[J7];exact h1
inductive R_lstands (CH:Addr):List OT->OT->Prop
 |mk {y:Yd} {gs:List Gs} (hg:∀g∈gs,g.Ok y) (l:gs.length<=8):R_lstands CH [.zow (Zn CH (hS y gs)),.fz (QW y),.fz (.list (gs.map eRw))] (.fz (.bool true))
def SK:Qp ["_law_hand","_law_yard_here","_law_rows","_law_number"] Zal (Qy HA):=by walk_at"p"
def AV (T:Bl mg) (UH:HandC K CH) (D:Df K mg "_law_stands" HA Zal) (Xbl:Zl P w K mg base CH "now" Zaj 1 (Ze K (R_hnow CH))) (XbD:Zl P w K mg base CH "gifts" Zaj 1 (Ze K (R_hgifts0 CH))) (XbE:Zl P w K mg base CH "yard_now" Zaj 1 (Ze K (R_hyard CH))) (XbF:Zl P w K mg base CH "open_ones" Zaj 5 (Ze K (R_hopen CH))) (XbG:Zl P w K mg base CH "got" Zab 4 (Ze K (R_hgot CH))) (XaZ:Zl P w K mg base CH "rest" Zab 4 (Ze K (R_hrest CH))):QB P w K mg base "_law_stands" Zal 6 (QL (K:=K) (R_lstands CH)):=by
 refine D.ev SK (fun ts r h=>by cases h;rfl) (fun _ _ _ _ s H E ts r hr h=>?_);have hu:=hr.units
 cases h with
 |@mk y gs hg l =>
   refine⟨_,(Q7 (Z0 (PW.pt (Wq (ZF GT (Jz Xbl UH hr (pv 0)) Qx (ZA _)) (Wq (Vg (Zg WD (by rfl) T.isi VJ (Qo (Jz Xbl UH hr (pv 0)) (Qo (YZ (v:=.ty "bool") rfl T.bool Bn rfl) Qs)))) (Wq (ZF (Ux hu) (Jz XbD UH hr (pv 0)) (Z5 Qs) (ZA _)) (Uu (ZF (Ux hu) (Jz XbE UH hr (pv 0)) (pv 1) (ZA _))))))) (Q3 (QQ V9)) Z4)
 (Q7 (Z0 (ZF (Ux hu) (Jz XbF UH hr (pv 0)) (WO Ed (by rfl) T.list Br (Qo (WO An (by rfl) T.range Cd (Qo (Zg Vx (by rfl) T.len Vm (Qo (pv 2) Qs)) Qs)) Qs)) (ZA _)) (Q3 (QQ V9)) Z4)
 (Q7 (Vn PassesOwn.never rfl (Yl rfl T.range (Qo (Zg Vx (by rfl) T.len Vm (Qo (pv 2) Qs)) Qs)) (Zj (i:=3) SK.nd rfl Qa) (Q3 (Z0 (PW.pt (Wq (ZF GT (WL XbG UH hr (pv 0) (Qo (pv 3) Qs)) Qx (ZA _)) (Uu (ZF GT (WL XaZ UH hr (pv 0) (Qo (pv 3) Qs)) (QH QI (QH QI (pv 2) (pv 3)) Qx) (ZA _))))) (Q3 (QQ V9)) Z4)))
 (Q3 (QQ V9))))),?_⟩
   show Q0 K _ [some _,some _,some _,none] _
   walk_at"x"
   have nw:∀{ρ:Q5} {E':XK},ρ[0]?=some (some (.zow (Zn CH (hS y gs))))->Qu K (VH CH "now" (Ze K (R_hnow CH)) [] E' (QD 0) QO) ρ (.int 0):=fun e=>U4 Ta e Q9 R_hnow.mk;have ln:(hS y gs).known.length=gs.length:=by simp[hS]
   refine QF (Zz (b:=false) (YN (b:=false) (c:=false) (Zb.cast (ZB (Gc (nw rfl) Q8)) rfl) (fun _=>YN (b:=false) (c:=false) (ZH (Wu (nw rfl) rfl)) (fun _=>YN (b:=false) (c:=false) (Zb.cast (ZB (Jr (a:=.list []) (b:=.list []) (EvO.fz (Zt.o (WP LV rfl Q9 (R_hgifts0.mk rfl)))) (EvO.fz (Vd (ds:=[]) ZC (by simp))) Bp Bp)) (by rw[J0 Bp];rfl)) (fun _=>Zb.cast (ZB (Jr (a:=QW y) (b:=QW y) (U4 Fm rfl Q9 R_hyard.mk) (Qr rfl) (Bg y) (Bg y))) (by rw[J0 (Bg y)];rfl))))) (fun c=>nomatch c) (fun _=>Z7 ?_));have fn:V1 (.list (QX (List.range gs.length))):=D2 _
   have op:((List.range (hS y gs).known.length).filter fun k => !decide ((gs.getD k default).want=0))=List.range gs.length:=by
    rw[ln];refine List.filter_eq_self.mpr fun k hk=>?_;have hk:=XT.mp hk
    have:=(hg (gs.getD k default) (by simp[hk])).w1
    simp only[Bool.not_eq_true',decide_eq_false_iff_not];omega
   refine QF (Zz (b:=false) (Zb.cast (ZB (Jr (a:=.list (QX (List.range gs.length))) (b:=.list (QX (List.range gs.length))) (Qu.cast (EvO.fz (Zt.o (WP T9 rfl Q9 (R_hopen.mk (N:=hS y gs) (fun k=>(gs.getD k default).want) (fun k hk=>Dk (by rw[ln]at hk;exact hk)) (by rw[ln];omega))))) (by rw[op])) (Qu.cast (EvO.fz (NJ (n:=gs.length) (Qu.cast (Y6 (Qr rfl)) (show _=PyData.int (gs.length:Int) by rw[Xn])) rfl (by omega))) rfl) fn fn)) (by rw[J0 fn];rfl)) (fun c=>nomatch c) (fun _=>Z7 ?_));refine QF (U0 (ds:=ZN 0 gs.length) (fun i=>[some (.zow (Zn CH (hS y gs))),some (.fz (QW y)),some (.fz (.list (gs.map eRw))),none]) ?ei ⟨rfl,rfl,rfl,trivial⟩ ?st ?fin)
   case ei=>exact EvI.cast (Yy (Qv (Qu.cast (Y6 (Qr rfl)) (show _=PyData.int (gs.length:Int) by rw[Xn])) Q9) (by rw[z62];omega) (by rw[z62];omega)) (W0 rfl (by omega))
   case st =>
    intro i d hd;obtain⟨hi,rfl⟩:=Yw hd;refine⟨_,Zw,?_⟩
    walk_at"d"
    rw[YF];have it:atI (gs.map eRw) (i:Int)=some (eRw (gs.getD i default)):=Ya (by simp[hi]);refine Zz (b:=false) (YN (b:=false) (c:=false) (Zb.cast (ZB (Gc (U4 Th rfl (Qv (Qr rfl) Q9) (R_hgot.mk (x:=0) (by rw[ln];exact hi) (by simp[hS,hi]))) Q8)) rfl) (fun _=>Zb.cast (ZB (Gc (U4 Dc rfl (Qv (Qr rfl) Q9) (R_hrest.mk (Dk hi))) (VL (ds:=[.int ((gs.getD i default).line:Int),.int ((gs.getD i default).first:Int),.int ((gs.getD i default).last:Int),.int (gs.getD i default).want,.int (gs.getD i default).most]) (VL (Qr rfl) (Qr rfl) it) Q8 rfl))) (by simp))) (fun c=>nomatch c) (fun _=>Z7 ⟨rfl,rfl,rfl,trivial⟩)
   case fin =>
    intro ρ' hf;refine Us hf ?_;exact ZQ UU rfl
theorem R6 {gs:List Gs}{g:Gs}{t:Int}{l:Nat}:∀{sm:Qk},(∀k∈sm,k<gs.length)->Z3 (gs++[g]) t l sm=Z3 gs t l sm
 |[],_=>rfl
 |k::r,h=>by
   unfold Z3;rw[XF (h k Xc),R6 fun x hx=>h x (Xe _ hx)]
def As {y:Yd}{gs:List Gs}{g:Gs}{sm:Qk}(h:∀k∈sm,k<gs.length):Ys y (gs++[g]) sm=Ys y gs sm:=by
 have e1:Jx (gs++[g]) sm=Jx gs sm:=by
  unfold Jx;exact XW List.sum (Ja fun k hk=>by simp only[List.getD,XF (h k hk)])
 have e2:Wz y (gs++[g]) sm=Wz y gs sm:=by
  unfold Wz;refine XW List.sum (Ja fun t _=>?_);unfold YC;rw[show Wa (gs++[g]) t sm=Wa gs t sm from funext fun l=>R6 h]
 unfold Ys;rw[e1,e2]
def CJ {gs:List Gs}{g:Gs}{S:Qm}(h:S gs.length=false):Zu (gs++[g]) S=Zu gs S:=by
 unfold Zu;rw[Xo,BV,X6,UG];simp[h]
def MY (n:Int):V1 (.list [.str "in",.int n]):=(Bq (m:=0) (Ju ⟨by decide +kernel,XQ _⟩ (Ju (Bj _ _) Gh))).fine (by decide)
def DM:V1 (.str "room"):=⟨by decide +kernel,XQ _⟩
def Ab (l:Qk):Uv (QX l):=fun d hd=>by
 obtain⟨j,_,rfl⟩:=X4.mp hd
 exact⟨_,rfl⟩
def Wv:Qp ["_law_script","_law_yard_here","_law_hand","_law_rows","_law_k","_law_guest_here","_law_told","_law_more"] ZaS (Qy YT):=by walk_at"p"
def TV {f:Addr} {fd:FuncData} (T:Bl mg) (UH:HandC K CH) (F:Fun K "law" "law" YT f fd) (Xba:QB P w K mg base "_law_cell_at" Zax 1 (QL (K:=K) R_cell)) (Xbm:QB P w K mg base "_law_feed" ZaT 1 (Ze K R_feed)) (XbH:QB P w K mg base "_law_yard" ZaN 2 (spP K olP R_dyard)) (XbI:QB P w K mg base "_law_guest" Zai 2 (spP K olP R_dguest)) (XbJ:Mx P w K mg base "Hand" CH ZaQ 1)
 (XbK:QB P w K mg base "_law_come" Zat 9 (UO K CH R_lcome (X_lcome CH))) (XbL:QB P w K mg base "_law_fits" Zau 3 (Ze K R_lfits)) (XbM:QB P w K mg base "_law_shows" Zah 3 (QL (K:=K) R_lshows)) (XbN:QB P w K mg base "_law_stands" Zal 6 (QL (K:=K) (R_lstands CH))) :
 FnOk P w K mg base CX0 10 f fd ZaS (Bi K):=by
 refine F.evLaw Wv (fun cdv A outer s H E ns hr hl hb=>?_);have hu:=hr.units;refine⟨_,(Q7 (QY (i:=1) Wv.nd rfl Qa (QG XbH hr (Qo (QG Xbm hr (Qo (QG Xba hr (Qo (pv 0) (Qo Qx Qs))) Qs)) Qs)))
 (Q7 (QY (i:=2) Wv.nd rfl Qa (LW XbJ hr (Qo (pv 1) Qs)))
 (Q7 (QY (i:=3) Wv.nd rfl Qa (Z5 Qs))
 (Q7 (Vn PassesOwn.never rfl (Yl rfl T.range (Qo (QU VA Qx (QU WF (QG Xba hr (Qo (pv 0) (Qo Qx Qs))) Qx)) Qs)) (Zj (i:=4) Wv.nd rfl Qa) (Q7 (QY (i:=5) Wv.nd rfl Qa (QG XbI hr (Qo (QG Xbm hr (Qo (QG Xba hr (Qo (pv 0) (Qo (QU VA Qx (pv 4)) Qs))) Qs)) (Qo (pv 1) (Qo Qx Qs)))))
 (Q7 (QY (i:=6) Wv.nd rfl Qa (QG XbK hr (Qo (pv 2) (Qo (pv 5) Qs))))
 (Q7 (QY (i:=7) Wv.nd rfl Qa (QU Ba (pv 3) (Z5 (Qo (WO Ny (by rfl) T.list Br (Qo (pv 5) Qs)) Qs))))
 (Q7 (Z0 (Vg (QG XbL hr (Qo (pv 1) (Qo (pv 7) Qs)))) (Q7 (Z0 (PW.pt (Wq (ZF (Ux hu) (pv 6) (Z5 (Qo VQ (Qo (Zg Vx (by rfl) T.len Vm (Qo (pv 3) Qs)) Qs))) (ZA _)) (Uu (Vg (Zg WD (by rfl) T.isi VJ (Qo (QH QI (pv 6) Qx) (Qo (YZ (v:=.ty "bool") rfl T.bool Bn rfl) Qs))))))) (Q3 (QQ V9)) Z4)
 (Q3 (QY (i:=3) Wv.nd rfl Qa (pv 7)))) (Q3 (Z0 (PW.pt (Wq (ZF (Ux hu) (QH QI (pv 6) Qx) VQ (ZA _)) (Uu (Yq (Vg (QG XbM hr (Qo (QH QI (pv 6) Qx) (Qo (pv 1) (Qo (pv 7) (Qo Qx Qs)))))))))) (Q3 (QQ V9)) Z4)))
 (Q3 (Z0 (Yq (Vg (QG XbN hr (Qo (pv 2) (Qo (pv 1) (Qo (pv 3) Qs)))))) (Q3 (QQ V9)) Z4)))))))
 (Q3 (QQ V9)))))),?_⟩
 show Q0 K _ [some _,none,none,none,none,none,none,none] _
 walk_at"x"
 refine QF (WJ (SB (Φ:=fun r=>∃y:Yd,y.Ok/\r=.fz (QW y)) (WK (Qv (Zd (GU rfl (Qv Q8 Q9)) (R_cell.mk (by decide))) Q9) R_feed.mk) Q9 (fun r hr'=>?_)) (fun r hr'=>?_))
 ·obtain⟨a,b,rfl⟩:=hr'
  exact⟨_,_,rfl,R_dyard.mk,fun r ds' ⟨y,ok,_,e⟩=>⟨y,ok,e⟩⟩
 obtain⟨y,ok,rfl⟩:=hr'
 walk_at"d"
 refine QF (Di (LY (Qr rfl)) (fun v=>?_))
 walk_at"d"
 refine QF (VM (Vd (ds:=[]) ZC (by decide)) ?_)
 walk_at"d"
 refine Ws 3 rfl ?_
 walk_at"d"
 have n0:0<=Yp ns 1%8/\Yp ns 1%8<8:=by omega
 refine QF (VR (ds:=ZN 0 (1+Yp ns 1%8).toNat) (fun i ρ'=>∃(gs:List Gs) (u4 u5 u6 u7:Option OT),gs.length<=i/\(∀g∈gs,G30 y g)/\(∀S,Ve y (QR gs) S<=0)/\ρ'=[some (.scr ns),some (.fz (QW y)),some (.own v (Zv CH (hS y gs))),some (.fz (.list (gs.map eRw))),u4,u5,u6,u7]) ?ei ⟨[],_,_,_,_,Xq _,(fun g hg=>nomatch hg),?n0,rfl⟩ ?st ?fin)
 case ei=>exact Yy (Qv (ZG Q8 (ZO (Zd (GU rfl (Qv Q8 Q9)) (R_cell.mk (by decide))) Q8 (by decide))) Q9) (by rw[z62];omega) (by rw[z62];omega)
 case n0 =>
  intro S;rw[J7];have:Zu ([]:List Gs) S=[]:=rfl;rw[this,Ig ok];decide
 case fin =>
  rintro _ ⟨gs,u4,u5,u6,u7,_,_,_,rfl⟩
  exact ZQ UU rfl
 case st =>
  rintro i d _ hd ⟨gs,u4,u5,u6,u7,gl,hg,hn,rfl⟩
  obtain⟨hi,rfl⟩:=Yw hd;have hi:i<(1+Yp ns 1%8).toNat:=hi;have l7:gs.length<=7:=by omega
  refine⟨_,Zw,?_⟩
  walk_at"d"
  rw[YF];refine QF (WJ (SB (Φ:=fun r=>∃g:Gs,G30 y g/\r=.fz (QM g)) (WK (Qv (Zd (GU rfl (Qv (ZG Q8 (Qr rfl)) Q9)) (R_cell.mk (by omega))) Q9) R_feed.mk) (Qv (Qr rfl) (Qv Q8 Q9)) (fun r hr'=>?_)) (fun r hr'=>?_))
  ·obtain⟨a,b,rfl⟩:=hr'
   exact⟨_,_,rfl,R_dguest.mk ok,fun r ds' z=>z⟩
  obtain⟨g,gk,rfl⟩:=hr'
  walk_at"d"
  have hg2:∀x∈gs++[g],G30 y x:=fun x hx=>by
   rcases XH.mp hx with hx|hx
   ·exact hg x hx
   ·rw[Xi.mp hx];exact gk
  have hg3:∀x∈gs++[g],x.Ok y:=fun x hx=>(hg2 x hx).ok;have lm:(gs++[g]).length=gs.length+1:=by rw[Xo];rfl
  have mo:∀{ρ:Q5},ρ[3]?=some (some (.fz (.list (gs.map eRw))))->ρ[5]?=some (some (.fz (QM g)))->EvO K (tOp GI (QD 3) (W5 (QE (tCB (Bs K) (QE (QD 5) QO)) QO))) ρ (.ol ((gs++[g]).map eRw)):=fun{ρ} e3 e5=>EvO.cast (GW (as:=gs.map eRw) (bs:=[eRw g]) (Qr e3) (EvO.fz (Vd (QZ (EvO.fz (Nv (ds:=[.int (g.line:Int),.int (g.first:Int),.int (g.last:Int),.int g.want,.int g.most]) (Qr e5))) ZC) Wo)) (by rw[Xn];show gs.length+1<=1000;omega)) (by rw[XD];rfl);have le:∀{ρ:Q5},ρ[3]?=some (some (.fz (.list (gs.map eRw))))->Qu K (tCB (Jg K) (QE (QD 3) QO)) ρ (.int (gs.length:Int)):=fun e=>Qu.cast (Y6 (Qr e)) (by rw[Xn])
  by_cases hS:∀S,Ve y (QR (gs++[g])) S<=0
  ·refine QF (C3 (i:=2) (j:=6) (by decide) rfl (Qv (Qr rfl) Q9) (R_lcome.mk ok hg2 l7 hS) ?_)
   rintro r N' ⟨rfl,rfl⟩
   walk_at"d"
   refine Ws 6 rfl ?_
   walk_at"d"
   refine QF (VM (mo rfl rfl) ?_)
   walk_at"d"
   refine Ws 7 rfl ?_
   walk_at"d"
   refine QF (Zz (b:=true) (ZH (EvO.e (Zt.o (Zt.imp (WK (Qv (Qr rfl) (Qv (Qr rfl) Q9)) (R_lfits.mk ok hg3 lm l7)) ?hb)))) (fun _=>?_) (fun c=>nomatch c))
   case hb =>
    rintro r ⟨b,rfl,hb⟩
    rw[hb.mpr fun S _=>hS S]
   refine QF (Zz (b:=false) (YN (b:=false) (c:=false) (Zb.cast (ZB (Jr (a:=.list [.str "in",.int (gs.length:Int)]) (b:=.list [.str "in",.int (gs.length:Int)]) (Qr rfl) (EvO.fz (Vd (QZ Y7 (QZ (le rfl) ZC)) W8)) (MY _) (MY _))) (by rw[J0 (MY _)];rfl)) (fun _=>ZH (Wu (VL (ds:=[.str "in",.int (gs.length:Int)]) (Qr rfl) Q8 rfl) rfl))) (fun c=>nomatch c) (fun _=>Z7 ?_));refine ZR (Qr rfl) ?_
   walk_at"d"
   refine Zz (b:=false) (D1 2 rfl (VY (b:=true) (ZH (Zd (Be rfl (Qv (Qr rfl) (Qv (Qr rfl) Q9))) (R_lstands.mk hg3 (by omega)))))) (fun c=>nomatch c) (fun _=>Z7 ⟨gs++[g],_,_,_,_,by omega,hg2,hS,rfl⟩)
  ·obtain⟨S0,hS0⟩:∃S,0<Ve y (QR (gs++[g])) S:=Classical.byContradiction fun c=>hS fun S=>Int.not_lt.mp fun z=>c ⟨S,z⟩
   refine QF (WJ (B5 2 rfl ?ht (CV (Be rfl (Qv (Qr rfl) Q9)) (X_lcome.mk ok hg2 l7 hS0))) ?_)
   case ht =>
    rintro r ⟨v',S,_,rfl⟩
    exact Fl rfl (Ab _)
   rintro r ⟨v',S,hSS,rfl⟩
   walk_at"d"
   refine Tp 6 rfl ?_
   walk_at"d"
   refine QF (VM (mo rfl rfl) ?_)
   walk_at"d"
   refine Ws 7 rfl ?_
   walk_at"d"
   have S0m:S0 gs.length=true:=by
    cases z:S0 gs.length with
    |true=>rfl
    |false =>
      have h1:=hn S0;rw[J7]at h1 hS0;rw[CJ z]at hS0;have h2:=As (y:=y) (gs:=gs) (g:=g) (sm:=Zu gs S0) (fun k hk=>(G4 (by omega) S0).mem k hk);unfold Ys at h2;omega
   refine QF (Zz (b:=false) (ZH (EvO.e (Zt.o (Zt.imp (WK (Qv (Qr rfl) (Qv (Qr rfl) Q9)) (R_lfits.mk ok hg3 lm l7)) ?hb2)))) (fun c=>nomatch c) (fun _=>?_))
   case hb2 =>
    rintro r ⟨b,rfl,hb⟩
    cases b with
    |false=>rfl
    |true=>exact Xl (hb.mp rfl S0 S0m) (by omega)
   refine Zz (b:=false) (YN (b:=false) (c:=false) (Zb.cast (ZB (Jr (a:=.str "room") (b:=.str "room") (VL (ds:=[.str "room",.list (QX (Zu (gs++[g]) S))]) (Qr rfl) Q8 rfl) Y7 DM DM)) (by rw[J0 DM];rfl)) (fun _=>VY (b:=true) (ZH (Zd (Qv (VL (ds:=[.str "room",.list (QX (Zu (gs++[g]) S))]) (Qr rfl) Q8 rfl) (Qv (Qr rfl) (Qv (Qr rfl) (Qv Q8 Q9)))) (R_lshows.mk ok hg3 (by omega) hSS))))) (fun c=>nomatch c) (fun _=>Z7 ?_);refine Zz (b:=false) (D1 2 rfl (VY (b:=true) (ZH (Zd (Be rfl (Qv (Qr rfl) (Qv (Qr rfl) Q9))) (R_lstands.mk (fun x hx=>(hg x hx).ok) (by omega)))))) (fun c=>nomatch c) (fun _=>Z7 ⟨gs,_,_,_,_,by omega,hg,hn,rfl⟩)
end
inductive DH (K:W.Frag)(x:Str)(st:Stmt):Prop
 |mk {f:Addr} {oc kV dc pm cd ct:Value} {od an:Qj} {sl:Array (Qf)} (a:W.nsIn K mainGlobals x=some (some (.ref f))) (l:K.lookup f=some ⟨oc,od,.func (W.fnOf x x (ZE st) (Zh st) (Qy st) .none kV dc pm an cd ct),sl⟩) (c:W.codeIn K cd x=true) (k:W.keepIn K (.ref f)=true):DH K x st
def DH.df {K:W.Frag}{h:Heap}{mg:Str->Qf}{x:Str}{st:Stmt}{ps:Qh}(X:K.In h)(G:h.Ns mainGlobals mg)(H:DH K x st)(hb:∀(z:Value×Value×Value×Qj×Value×Value) (us:Qe),us.length=ps.length->bindArgs (W.fnOf x x (ZE st) (Zh st) (Qy st) .none z.1 z.2.1 z.2.2.1 z.2.2.2.1 z.2.2.2.2.1 z.2.2.2.2.2) ⟨us,[]⟩=pure (ps.zip us)):Df K mg x st ps:=by
 cases H with
 |mk a l c k=>exact⟨_,_,ZX l c k,W.mg_of X G a,(ZX l c k).binds fun kV dc pm an cd ct us hl=>hb (kV,dc,pm,an,cd,ct) us hl⟩
@[elab_as_elim] theorem ln1 {α:Type}{p:List α->Prop}{us:List α}(h:us.length=1)(k:∀a0,p [a0]):p us:=by
 match us,h with
 |[a0],_=>exact k a0
@[elab_as_elim] theorem ln2 {α:Type}{p:List α->Prop}{us:List α}(h:us.length=2)(k:∀a0 a1,p [a0,a1]):p us:=by
 match us,h with
 |[a0,a1],_=>exact k a0 a1
@[elab_as_elim] theorem ln3 {α:Type}{p:List α->Prop}{us:List α}(h:us.length=3)(k:∀a0 a1 a2,p [a0,a1,a2]):p us:=by
 match us,h with
 |[a0,a1,a2],_=>exact k a0 a1 a2
@[elab_as_elim] theorem ln4 {α:Type}{p:List α->Prop}{us:List α}(h:us.length=4)(k:∀a0 a1 a2 a3,p [a0,a1,a2,a3]):p us:=by
 match us,h with
 |[a0,a1,a2,a3],_=>exact k a0 a1 a2 a3
def Zs3 {P:Program} {w:World} {K:W.Frag} {h:Heap} {mg:Str->Qf} {fa C gS gE:Addr} (X:K.In h) (G:h.Ns mainGlobals mg) (hfa:mg "law"=some (.ref fa))
 {cg ct:Addr}
 {CH:Addr}
 {YR CR fR:Addr} {odR anR:Qj} {slR:Array (Qf)} {kVR dcR pmR cdR ctR:Value}
 {f38 f39 f40 f41 f42 f43 f44 f45 f46 f47 f48 f49 f50 f51 f52 f53 f54 f55 f56:Addr} {od38 an38 od39 an39 od40 an40 od41 an41 od42 an42 od43 an43 od44 an44 od45 an45 od46 an46 od47 an47 od48 an48 od49 an49 od50 an50 od51 an51 od52 an52 od53 an53 od54 an54 od55 an55 od56 an56 dS dE:Qj} {sl38 sl39 sl40 sl41 sl42 sl43 sl44 sl45 sl46 sl47 sl48 sl49 sl50 sl51 sl52 sl53 sl54 sl55 sl56 slS slE:Array (Qf)} {oc38 kV38 dc38 pm38 cd38 ct38 oc39 kV39 dc39 pm39 cd39 ct39 oc40 kV40 dc40 pm40 cd40 ct40 oc41 kV41 dc41 pm41 cd41 ct41 oc42 kV42 dc42 pm42 cd42 ct42 oc43 kV43 dc43 pm43 cd43 ct43 oc44 kV44 dc44 pm44 cd44 ct44 oc45 kV45 dc45 pm45 cd45 ct45 oc46 kV46 dc46 pm46 cd46 ct46 oc47 kV47 dc47 pm47 cd47 ct47 oc48 kV48 dc48 pm48 cd48 ct48 oc49 kV49 dc49 pm49 cd49 ct49 oc50 kV50 dc50 pm50 cd50 ct50 oc51 kV51 dc51 pm51 cd51 ct51 oc52 kV52 dc52 pm52 cd52 ct52 oc53 kV53 dc53 pm53 cd53 ct53 oc54 kV54 dc54 pm54 cd54 ct54 oc55 kV55 dc55 pm55 cd55 ct55 oc56 kV56 dc56 pm56 cd56 ct56:Value} {tS tE nS nE:Nat}
 (aC:W.nsIn K mainGlobals "Net"=some (some (.ref C)))
 (aH:W.nsIn K mainGlobals "Hand"=some (some (.ref CH)))
 (h0:DH K "is_whole" Ho)
 (h1:DH K "is_whole_within" HJ)
 (h2:DH K "is_amount" Hf)
 (h3:DH K "is_tuple_of" Hz)
 (h4:DH K "is_guest" Hx)
 (h5:DH K "turns_of" Hl)
 (h6:DH K "line_count" HF)
 (h7:DH K "above_of" Hj)
 (h8:DH K "bound_at" Hv)
 (h9:DH K "line_of" DQ)
 (h10:DH K "is_there" Hi)
 (h11:DH K "want_of" DK)
 (h12:DH K "most_of" DY)
 (h13:DH K "with_want" Hd)
 (h14:DH K "staying_from" HK)
 (h15:DH K "guest_node" HI)
 (h16:DH K "line_node" Hg)
 (h17:DH K "lay_guest" He)
 (h18:DH K "lay_turn" Hw)
 (h19:DH K "filled_net" HH)
 (h20:DH K "guests_reached" BN)
 (h21:DH K "reaching_at" BL)
 (h22:DH K "given_at" Hh)
 (h23:DH K "given_most" BH)
 (h24:DH K "short_of" BE)
 (h25:DH K "lacking_set" HB)
 (h26:DH K "refuse_lack" HC)
 (h27:DH K "_law_cell_at" HD)
 (h28:DH K "_law_feed" Hb)
 (h29:DH K "_law_digit" HG)
 (h30:DH K "_law_yard" DZ)
 (h31:DH K "_law_guest" BF)
 (h32:DH K "_law_passes" Hy)
 (h33:DH K "_law_short" BG)
 (h34:DH K "_law_shows" HE)
 (h35:DH K "_law_fits" BC)
 (h36:DH K "_law_come" GD)
 (h37:DH K "_law_stands" HA)
 (a38:W.nsIn K mainGlobals "law"=some (some (.ref f38)))
 (l38:K.lookup f38=some ⟨oc38,od38,.func (W.fnOf "law" "law" (ZE YT) (Zh YT) (Qy YT) .none kV38 dc38 pm38 an38 cd38 ct38),sl38⟩)
 (c38:W.codeIn K cd38 "law"=true)
 (k38:W.keepIn K (.ref f38)=true)
 (a39:W.findIn K (.ref C) "lay"=some (some (.ref f39)))
 (i39:W.isFn K (.ref f39)=true)
 (l39:K.lookup f39=some ⟨oc39,od39,.func (W.fnOf "lay" "Net.lay" (ZE J6) (Zh J6) (Qy J6) .none kV39 dc39 pm39 an39 cd39 ct39),sl39⟩)
 (c39:W.codeIn K cd39 "Net.lay"=true)
 (k39:W.keepIn K (.ref f39)=true)
 (a40:W.findIn K (.ref C) "lay_one"=some (some (.ref f40)))
 (i40:W.isFn K (.ref f40)=true)
 (l40:K.lookup f40=some ⟨oc40,od40,.func (W.fnOf "lay_one" "Net.lay_one" (ZE JB) (Zh JB) (Qy JB) .none kV40 dc40 pm40 an40 cd40 ct40),sl40⟩)
 (c40:W.codeIn K cd40 "Net.lay_one"=true)
 (k40:W.keepIn K (.ref f40)=true)
 (a41:W.findIn K (.ref C) "reached"=some (some (.ref f41)))
 (i41:W.isFn K (.ref f41)=true)
 (l41:K.lookup f41=some ⟨oc41,od41,.func (W.fnOf "reached" "Net.reached" (ZE JA) (Zh JA) (Qy JA) .none kV41 dc41 pm41 an41 cd41 ct41),sl41⟩)
 (c41:W.codeIn K cd41 "Net.reached"=true)
 (k41:W.keepIn K (.ref f41)=true)
 (a42:W.findIn K (.ref C) "push"=some (some (.ref f42)))
 (i42:W.isFn K (.ref f42)=true)
 (l42:K.lookup f42=some ⟨oc42,od42,.func (W.fnOf "push" "Net.push" (ZE WV) (Zh WV) (Qy WV) .none kV42 dc42 pm42 an42 cd42 ct42),sl42⟩)
 (c42:W.codeIn K cd42 "Net.push"=true)
 (k42:W.keepIn K (.ref f42)=true)
 (a43:W.findIn K (.ref C) "fill"=some (some (.ref f43)))
 (i43:W.isFn K (.ref f43)=true)
 (l43:K.lookup f43=some ⟨oc43,od43,.func (W.fnOf "fill" "Net.fill" (ZE J4) (Zh J4) (Qy J4) .none kV43 dc43 pm43 an43 cd43 ct43),sl43⟩)
 (c43:W.codeIn K cd43 "Net.fill"=true)
 (k43:W.keepIn K (.ref f43)=true)
 (a44:W.findIn K (.ref C) "way_to"=some (some (.ref f44)))
 (i44:W.isFn K (.ref f44)=true)
 (l44:K.lookup f44=some ⟨oc44,od44,.func (W.fnOf "way_to" "Net.way_to" (ZE JG) (Zh JG) (Qy JG) .none kV44 dc44 pm44 an44 cd44 ct44),sl44⟩)
 (c44:W.codeIn K cd44 "Net.way_to"=true)
 (k44:W.keepIn K (.ref f44)=true)
 (a45:W.findIn K (.ref CH) "now"=some (some (.ref f45)))
 (i45:W.isFn K (.ref f45)=true)
 (l45:K.lookup f45=some ⟨oc45,od45,.func (W.fnOf "now" "Hand.now" (ZE J1) (Zh J1) (Qy J1) .none kV45 dc45 pm45 an45 cd45 ct45),sl45⟩)
 (c45:W.codeIn K cd45 "Hand.now"=true)
 (k45:W.keepIn K (.ref f45)=true)
 (a46:W.findIn K (.ref CH) "come"=some (some (.ref f46)))
 (i46:W.isFn K (.ref f46)=true)
 (l46:K.lookup f46=some ⟨oc46,od46,.func (W.fnOf "come" "Hand.come" (ZE JE) (Zh JE) (Qy JE) .none kV46 dc46 pm46 an46 cd46 ct46),sl46⟩)
 (c46:W.codeIn K cd46 "Hand.come"=true)
 (k46:W.keepIn K (.ref f46)=true)
 (a47:W.findIn K (.ref CH) "got"=some (some (.ref f47)))
 (i47:W.isFn K (.ref f47)=true)
 (l47:K.lookup f47=some ⟨oc47,od47,.func (W.fnOf "got" "Hand.got" (ZE J5) (Zh J5) (Qy J5) .none kV47 dc47 pm47 an47 cd47 ct47),sl47⟩)
 (c47:W.codeIn K cd47 "Hand.got"=true)
 (k47:W.keepIn K (.ref f47)=true)
 (a48:W.findIn K (.ref CH) "rest"=some (some (.ref f48)))
 (i48:W.isFn K (.ref f48)=true)
 (l48:K.lookup f48=some ⟨oc48,od48,.func (W.fnOf "rest" "Hand.rest" (ZE JD) (Zh JD) (Qy JD) .none kV48 dc48 pm48 an48 cd48 ct48),sl48⟩)
 (c48:W.codeIn K cd48 "Hand.rest"=true)
 (k48:W.keepIn K (.ref f48)=true)
 (a49:W.findIn K (.ref CH) "open_ones"=some (some (.ref f49)))
 (i49:W.isFn K (.ref f49)=true)
 (l49:K.lookup f49=some ⟨oc49,od49,.func (W.fnOf "open_ones" "Hand.open_ones" (ZE WX) (Zh WX) (Qy WX) .none kV49 dc49 pm49 an49 cd49 ct49),sl49⟩)
 (c49:W.codeIn K cd49 "Hand.open_ones"=true)
 (k49:W.keepIn K (.ref f49)=true)
 (a50:W.findIn K (.ref CH) "gifts"=some (some (.ref f50)))
 (i50:W.isFn K (.ref f50)=true)
 (l50:K.lookup f50=some ⟨oc50,od50,.func (W.fnOf "gifts" "Hand.gifts" (ZE WS) (Zh WS) (Qy WS) .none kV50 dc50 pm50 an50 cd50 ct50),sl50⟩)
 (c50:W.codeIn K cd50 "Hand.gifts"=true)
 (k50:W.keepIn K (.ref f50)=true)
 (a51:W.findIn K (.ref CH) "yard_now"=some (some (.ref f51)))
 (i51:W.isFn K (.ref f51)=true)
 (l51:K.lookup f51=some ⟨oc51,od51,.func (W.fnOf "yard_now" "Hand.yard_now" (ZE JI) (Zh JI) (Qy JI) .none kV51 dc51 pm51 an51 cd51 ct51),sl51⟩)
 (c51:W.codeIn K cd51 "Hand.yard_now"=true)
 (k51:W.keepIn K (.ref f51)=true)
 (a52:W.findIn K (.ref CH) "still_there"=some (some (.ref f52)))
 (i52:W.isFn K (.ref f52)=true)
 (l52:K.lookup f52=some ⟨oc52,od52,.func (W.fnOf "still_there" "Hand.still_there" (ZE JK) (Zh JK) (Qy JK) .none kV52 dc52 pm52 an52 cd52 ct52),sl52⟩)
 (c52:W.codeIn K cd52 "Hand.still_there"=true)
 (k52:W.keepIn K (.ref f52)=true)
 (a53:W.findIn K (.ref CH) "refuse_past"=some (some (.ref f53)))
 (i53:W.isFn K (.ref f53)=true)
 (l53:K.lookup f53=some ⟨oc53,od53,.func (W.fnOf "refuse_past" "Hand.refuse_past" (ZE JJ) (Zh JJ) (Qy JJ) .none kV53 dc53 pm53 an53 cd53 ct53),sl53⟩)
 (c53:W.codeIn K cd53 "Hand.refuse_past"=true)
 (k53:W.keepIn K (.ref f53)=true)
 (a54:W.findIn K (.ref CH) "refuse_number"=some (some (.ref f54)))
 (i54:W.isFn K (.ref f54)=true)
 (l54:K.lookup f54=some ⟨oc54,od54,.func (W.fnOf "refuse_number" "Hand.refuse_number" (ZE JL) (Zh JL) (Qy JL) .none kV54 dc54 pm54 an54 cd54 ct54),sl54⟩)
 (c54:W.codeIn K cd54 "Hand.refuse_number"=true)
 (k54:W.keepIn K (.ref f54)=true)
 (a55:W.findIn K (.ref C) "__init__"=some (some (.ref f55)))
 (i55:W.isFn K (.ref f55)=true)
 (l55:K.lookup f55=some ⟨oc55,od55,.func (W.fnOf "__init__" "Net.__init__" (ZE U9) (Zh U9) (Qy U9) .none kV55 dc55 pm55 an55 cd55 ct55),sl55⟩)
 (c55:W.codeIn K cd55 "Net.__init__"=true)
 (k55:W.keepIn K (.ref f55)=true)
 (a56:W.findIn K (.ref CH) "__init__"=some (some (.ref f56)))
 (i56:W.isFn K (.ref f56)=true)
 (l56:K.lookup f56=some ⟨oc56,od56,.func (W.fnOf "__init__" "Hand.__init__" (ZE UA) (Zh UA) (Qy UA) .none kV56 dc56 pm56 an56 cd56 ct56),sl56⟩)
 (c56:W.codeIn K cd56 "Hand.__init__"=true)
 (k56:W.keepIn K (.ref f56)=true)
 (pg:W.plainGet K C Str.empty=true)
 (hd:W.hasDictIn K C=true)
 (po:W.plainOver K C=true)
 (sa:W.findIn K (.ref C) "__setattr__"=some (some (.builtin "object.__setattr__")))
 (mk:W.makesIn K C=true)
 (kc:W.keepIn K (.ref C)=true)
 (Hpg:W.plainGet K CH Str.empty=true)
 (Hhd:W.hasDictIn K CH=true)
 (Hpo:W.plainOver K CH=true)
 (Hsa:W.findIn K (.ref CH) "__setattr__"=some (some (.builtin "object.__setattr__")))
 (Hmk:W.makesIn K CH=true)
 (Hkc:W.keepIn K (.ref CH)=true)
 (Hn0:W.findIn K (.ref CH) "yard"=some none)
 (Hn1:W.findIn K (.ref CH) "present"=some none)
 (Hn2:W.findIn K (.ref CH) "known"=some none)
 (Hn3:W.findIn K (.ref CH) "given"=some none)
 (Hn4:W.findIn K (.ref CH) "gone"=some none)
 (Hn5:W.findIn K (.ref CH) "made"=some none)
 (n0:W.findIn K (.ref C) "ends"=some none)
 (n1:W.findIn K (.ref C) "rooms"=some none)
 (n2:W.findIn K (.ref C) "leaving"=some none)
 (n3:W.findIn K (.ref C) "laid"=some none)
 (aS:W.nsIn K mainGlobals "START"=some (some (.ref gS)))
 (lS:K.lookup gS=some ⟨.type "tuple",dS,.seq #[.str "start" tS] nS,slS⟩)
 (aE:W.nsIn K mainGlobals "END"=some (some (.ref gE)))
 (lE:K.lookup gE=some ⟨.type "tuple",dE,.seq #[.str "end" tE] nE,slE⟩)
 (rC:W.nsIn K mainGlobals "NoRoom"=some (some (.ref CR)))
 (rY:W.nsIn K mainGlobals "YardError"=some (some (.ref YR)))
 (rf:W.findIn K (.ref CR) "__init__"=some (some (.ref fR)))
 (rl:K.lookup fR=some ⟨.type "function",odR,.func (W.fnOf "__init__" "NoRoom.__init__" (ZE UB) (Zh UB) (Qy UB) .none kVR dcR pmR anR cdR ctR),slR⟩)
 (rc:W.codeIn K cdR "NoRoom.__init__"=true)
 (rk:W.keepIn K (.ref fR)=true)
 (rx:MA K CR fR=true)
 (rg:W.specialIn K (.ref YR) "__getattribute__"=some (some (.builtin "type.__getattribute__")))
 (rr:W.readsIn K YR (.type "type")=true)
 (ri:W.findCls K (.ref YR) (.type "type") "__init__"=some (.val (.builtin "ValueError.__init__")))
 (rs:W.findIn K (.ref CR) "__setattr__"=some (some (.builtin "object.__setattr__")))
 (ro:((W.clsIn K CR).any fun cd=>Wx cd.mro)=true)
 (xa0:W.nsIn K mainGlobals "NoGuest"=some (some (.ref cg)))
 (xa1:W.nsIn K mainGlobals "NoTime"=some (some (.ref ct)))
 (xe:W.exmOne K (.ref CR) (.ref YR)=some true)
 (xp:W.findIn K (.ref CR) "__getattribute__"=some (some (.builtin "BaseException.__getattribute__")))
 (xn:W.findIn K (.ref CR) "some"=some none)
 (xq:W.findIn K (.ref CR) "__getattr__"=some none)
 (xb:W.mroIn K CR (.type "BaseException")=some true)
 (xc:W.findIn K (.ref CR) "__class__"=some (some (.builtin "object.__class__")))
 (xs:W.specialIn K (.builtin "object.__class__") "__get__"=some (some (.builtin "getset_descriptor.__get__")))
 (xt:W.takesIn K (.builtin "object.__class__")=some true)
 (xm:W.mroIn K CR (.type "object")=some true)
 (xk1:W.kitOne K (.ref CR) (.ref CR)=some true)
 (xk2:W.kitOne K (.ref CR) (.type "ValueError")=some true)
 (xk3:W.kitOne K (.ref CR) (.ref cg)=some false)
 (xk4:W.kitOne K (.ref CR) (.ref ct)=some false)
 (rd:W.hasDictIn K CR=true)
 (rt:W.takerIn K CR "some"=some none)
 (rK:W.keepIn K (.ref CR)=true)
 (z0:W.nsIn K mainGlobals "abs"=some none)
 (z1:W.nsIn K mainGlobals "len"=some none)
 (z2:W.nsIn K mainGlobals "max"=some none)
 (z3:W.nsIn K mainGlobals "min"=some none)
 (z4:W.nsIn K mainGlobals "sum"=some none)
 (z5:W.nsIn K mainGlobals "any"=some none)
 (z6:W.nsIn K mainGlobals "all"=some none)
 (z7:W.nsIn K mainGlobals "isinstance"=some none)
 (z8:W.nsIn K mainGlobals "int"=some none)
 (z9:W.nsIn K mainGlobals "bool"=some none)
 (z10:W.nsIn K mainGlobals "list"=some none)
 (z11:W.nsIn K mainGlobals "tuple"=some none)
 (z12:W.nsIn K mainGlobals "range"=some none)
 (z13:W.nsIn K mainGlobals "zip"=some none)
 (z14:W.nsIn K mainGlobals "enumerate"=some none)
 (z15:W.nsIn K mainGlobals "sorted"=some none)
 (z16:W.nsIn K mainGlobals "set"=some none)
 (z17:W.nsIn K mainGlobals "ValueError"=some none)
 : (∃gS gE,W.nsIn K mainGlobals "START"=some (some (.ref gS))/\W.nsIn K mainGlobals "END"=some (some (.ref gE))/\KTup K gS "start" /\ KTup K gE "end")/\∃fd:FuncData,(∀(s:Shared) (v:Value),BindsTo s fd ⟨[v],[]⟩ [("_law_script",v)])/\∀base:Heap,K.In base->base.Ns mainGlobals mg->FnOk P w K mg base CX0 10 fa fd ZaS (Bi K):=by
 have e:=hfa.symm.trans (W.mg_of X G a38)
 cases e
 have T:Bl mg:=⟨W.mg_none_of X G z0,W.mg_none_of X G z1,W.mg_none_of X G z2,W.mg_none_of X G z3,W.mg_none_of X G z4,W.mg_none_of X G z5,W.mg_none_of X G z6,W.mg_none_of X G z7,W.mg_none_of X G z8,W.mg_none_of X G z9,W.mg_none_of X G z10,W.mg_none_of X G z11,W.mg_none_of X G z12,W.mg_none_of X G z13,W.mg_none_of X G z14,W.mg_none_of X G z15,W.mg_none_of X G z16,W.mg_none_of X G z17⟩;have U:Tx K mg C gS gE:=⟨⟨⟨pg,hd,po,sa⟩,n0,n1,n2,n3⟩,W.mg_of X G aS,W.mg_of X G aE,aS,aE⟩;have UH:HandC K CH:=⟨⟨Hpg,Hhd,Hpo,Hsa⟩,Hn0,Hn1,Hn2,Hn3,Hn4,Hn5⟩;have XR:XC K mg "NoRoom" YR CR fR:=⟨TY rx rl rfl rg rr ri,rK,W.mg_of X G rC⟩;have XA:SO K mg YR CR cg ct:=⟨xe,W.mg_of X G rY,⟨⟨xp,xq,xb⟩,rd⟩,xn,⟨⟨xp,xq,xb⟩,rd,xc,xs,xt,xm⟩,xk1,xk2,xk3,xk4,W.mg_of X G xa0,W.mg_of X G xa1⟩;have XbP:=ZX (st:=UB) rl rc rk;have B_NoRoom:=XbP.binds (ps:=ZaP) fun _ _ _ _ _ _ us hl=>ln2 hl fun _ _=>rfl;have Xb8:=h0.df (ps:=["thing"]) X G fun _ us hl=>ln1 hl fun _=>rfl;have Xb9:=h1.df (ps:=Zap) X G fun _ us hl=>ln3 hl fun _ _ _=>rfl;have Xca:=h2.df (ps:=ZaK) X G fun _ us hl=>ln2 hl fun _ _=>rfl;have Xcb:=h3.df (ps:=ZaF) X G fun _ us hl=>ln2 hl fun _ _=>rfl;have Xcc:=h4.df (ps:=ZaL) X G fun _ us hl=>ln2 hl fun _ _=>rfl;have Xcd:=h5.df (ps:=ZaG) X G fun _ us hl=>ln1 hl fun _=>rfl;have Xce:=h6.df (ps:=ZaG) X G fun _ us hl=>ln1 hl fun _=>rfl;have Xcf:=h7.df (ps:=ZaH) X G fun _ us hl=>ln2 hl fun _ _=>rfl;have Xcg:=h8.df (ps:=Zar) X G fun _ us hl=>ln3 hl fun _ _ _=>rfl;have Xch:=h9.df (ps:=Zav) X G fun _ us hl=>ln1 hl fun _=>rfl;have Xci:=h10.df (ps:=Zan) X G fun _ us hl=>ln2 hl fun _ _=>rfl;have Xcj:=h11.df (ps:=Zav) X G fun _ us hl=>ln1 hl fun _=>rfl;have Xck:=h12.df (ps:=Zav) X G fun _ us hl=>ln1 hl fun _=>rfl;have Xcl:=h13.df (ps:=ZaM) X G fun _ us hl=>ln2 hl fun _ _=>rfl;have Xcm:=h14.df (ps:=Zan) X G fun _ us hl=>ln2 hl fun _ _=>rfl;have Xcn:=h15.df (ps:=ZaU) X G fun _ us hl=>ln1 hl fun _=>rfl;have Xco:=h16.df (ps:=ZaI) X G fun _ us hl=>ln2 hl fun _ _=>rfl;have Xcp:=h17.df (ps:=Zas) X G fun _ us hl=>ln4 hl fun _ _ _ _=>rfl;have Xcq:=h18.df (ps:=ZaE) X G fun _ us hl=>ln3 hl fun _ _ _=>rfl;have Xcr:=h19.df (ps:=Zaf) X G fun _ us hl=>ln2 hl fun _ _=>rfl;have Xcs:=h20.df (ps:=Zaf) X G fun _ us hl=>ln2 hl fun _ _=>rfl;have Xct:=h21.df (ps:=Zae) X G fun _ us hl=>ln4 hl fun _ _ _ _=>rfl;have Xcu:=h22.df (ps:=Zae) X G fun _ us hl=>ln4 hl fun _ _ _ _=>rfl;have Xcv:=h23.df (ps:=Zac) X G fun _ us hl=>ln3 hl fun _ _ _=>rfl;have Xcw:=h24.df (ps:=Zac) X G fun _ us hl=>ln3 hl fun _ _ _=>rfl;have Xcx:=h25.df (ps:=Zaf) X G fun _ us hl=>ln2 hl fun _ _=>rfl;have Xcy:=h26.df (ps:=Zaf) X G fun _ us hl=>ln2 hl fun _ _=>rfl;have Xcz:=h27.df (ps:=Zax) X G fun _ us hl=>ln2 hl fun _ _=>rfl;have XcA:=h28.df (ps:=ZaT) X G fun _ us hl=>ln1 hl fun _=>rfl;have XcB:=h29.df (ps:=Zao) X G fun _ us hl=>ln2 hl fun _ _=>rfl;have XcC:=h30.df (ps:=ZaN) X G fun _ us hl=>ln1 hl fun _=>rfl;have XcD:=h31.df (ps:=Zai) X G fun _ us hl=>ln3 hl fun _ _ _=>rfl;have XcE:=h32.df (ps:=Zag) X G fun _ us hl=>ln4 hl fun _ _ _ _=>rfl;have XcF:=h33.df (ps:=Zad) X G fun _ us hl=>ln4 hl fun _ _ _ _=>rfl;have XcG:=h34.df (ps:=Zah) X G fun _ us hl=>ln4 hl fun _ _ _ _=>rfl;have XcH:=h35.df (ps:=Zau) X G fun _ us hl=>ln2 hl fun _ _=>rfl;have XcI:=h36.df (ps:=Zat) X G fun _ us hl=>ln2 hl fun _ _=>rfl;have XcJ:=h37.df (ps:=Zal) X G fun _ us hl=>ln3 hl fun _ _ _=>rfl;have XbO:=ZX (st:=YT) l38 c38 k38;have D_law:Df K mg "law" YT ZaS:=⟨_,_,XbO,W.mg_of X G a38,XbO.binds (ps:=ZaS) fun _ _ _ _ _ _ us hl=>ln1 hl fun _=>rfl⟩;have XbQ:=ZX (st:=J6) l39 c39 k39;have XcK:Mf K C "lay" "Net.lay" J6 Zaa:=⟨_,_,XbQ,⟨a39,i39,k39⟩,XbQ.binds (ps:=Zaa) fun _ _ _ _ _ _ us hl=>ln4 hl fun _ _ _ _=>rfl⟩;have XbR:=ZX (st:=JB) l40 c40 k40;have XcL:Mf K C "lay_one" "Net.lay_one" JB Zaa:=⟨_,_,XbR,⟨a40,i40,k40⟩,XbR.binds (ps:=Zaa) fun _ _ _ _ _ _ us hl=>ln4 hl fun _ _ _ _=>rfl⟩;have XbS:=ZX (st:=JA) l41 c41 k41;have XcM:Mf K C "reached" "Net.reached" JA ZaC:=⟨_,_,XbS,⟨a41,i41,k41⟩,XbS.binds (ps:=ZaC) fun _ _ _ _ _ _ us hl=>ln2 hl fun _ _=>rfl⟩;have XbT:=ZX (st:=WV) l42 c42 k42;have XcN:Mf K C "push" "Net.push" WV ZaR:=⟨_,_,XbT,⟨a42,i42,k42⟩,XbT.binds (ps:=ZaR) fun _ _ _ _ _ _ us hl=>ln2 hl fun _ _=>rfl⟩;have XbU:=ZX (st:=J4) l43 c43 k43;have XcO:Mf K C "fill" "Net.fill" J4 ZaA:=⟨_,_,XbU,⟨a43,i43,k43⟩,XbU.binds (ps:=ZaA) fun _ _ _ _ _ _ us hl=>ln3 hl fun _ _ _=>rfl⟩;have XbV:=ZX (st:=JG) l44 c44 k44;have XcP:Mf K C "way_to" "Net.way_to" JG Zaz:=⟨_,_,XbV,⟨a44,i44,k44⟩,XbV.binds (ps:=Zaz) fun _ _ _ _ _ _ us hl=>ln3 hl fun _ _ _=>rfl⟩;have XbW:=ZX (st:=J1) l45 c45 k45;have XcQ:Mf K CH "now" "Hand.now" J1 Zaj:=⟨_,_,XbW,⟨a45,i45,k45⟩,XbW.binds (ps:=Zaj) fun _ _ _ _ _ _ us hl=>ln1 hl fun _=>rfl⟩;have XbX:=ZX (st:=JE) l46 c46 k46;have XcR:Mf K CH "come" "Hand.come" JE ZaD:=⟨_,_,XbX,⟨a46,i46,k46⟩,XbX.binds (ps:=ZaD) fun _ _ _ _ _ _ us hl=>ln2 hl fun _ _=>rfl⟩;have XbY:=ZX (st:=J5) l47 c47 k47;have XcS:Mf K CH "got" "Hand.got" J5 Zab:=⟨_,_,XbY,⟨a47,i47,k47⟩,XbY.binds (ps:=Zab) fun _ _ _ _ _ _ us hl=>ln2 hl fun _ _=>rfl⟩;have XbZ:=ZX (st:=JD) l48 c48 k48;have XcT:Mf K CH "rest" "Hand.rest" JD Zab:=⟨_,_,XbZ,⟨a48,i48,k48⟩,XbZ.binds (ps:=Zab) fun _ _ _ _ _ _ us hl=>ln2 hl fun _ _=>rfl⟩;have Xb0:=ZX (st:=WX) l49 c49 k49;have XcU:Mf K CH "open_ones" "Hand.open_ones" WX Zaj:=⟨_,_,Xb0,⟨a49,i49,k49⟩,Xb0.binds (ps:=Zaj) fun _ _ _ _ _ _ us hl=>ln1 hl fun _=>rfl⟩;have Xb1:=ZX (st:=WS) l50 c50 k50;have XcV:Mf K CH "gifts" "Hand.gifts" WS Zaj:=⟨_,_,Xb1,⟨a50,i50,k50⟩,Xb1.binds (ps:=Zaj) fun _ _ _ _ _ _ us hl=>ln1 hl fun _=>rfl⟩;have Xb2:=ZX (st:=JI) l51 c51 k51;have XcW:Mf K CH "yard_now" "Hand.yard_now" JI Zaj:=⟨_,_,Xb2,⟨a51,i51,k51⟩,Xb2.binds (ps:=Zaj) fun _ _ _ _ _ _ us hl=>ln1 hl fun _=>rfl⟩;have Xb3:=ZX (st:=JK) l52 c52 k52;have XcX:Mf K CH "still_there" "Hand.still_there" JK Zaj:=⟨_,_,Xb3,⟨a52,i52,k52⟩,Xb3.binds (ps:=Zaj) fun _ _ _ _ _ _ us hl=>ln1 hl fun _=>rfl⟩;have Xb4:=ZX (st:=JJ) l53 c53 k53;have XcY:Mf K CH "refuse_past" "Hand.refuse_past" JJ ZaJ:=⟨_,_,Xb4,⟨a53,i53,k53⟩,Xb4.binds (ps:=ZaJ) fun _ _ _ _ _ _ us hl=>ln2 hl fun _ _=>rfl⟩;have Xb5:=ZX (st:=JL) l54 c54 k54;have XcZ:Mf K CH "refuse_number" "Hand.refuse_number" JL Zab:=⟨_,_,Xb5,⟨a54,i54,k54⟩,Xb5.binds (ps:=Zab) fun _ _ _ _ _ _ us hl=>ln2 hl fun _ _=>rfl⟩;have Xb6:=ZX (st:=U9) l55 c55 k55;have B_Net:=Xb6.binds (ps:=Zaj) fun _ _ _ _ _ _ us hl=>ln1 hl fun _=>rfl;have Xb7:=ZX (st:=UA) l56 c56 k56;have B_Hand:=Xb7.binds (ps:=ZaQ) fun _ _ _ _ _ _ us hl=>ln2 hl fun _ _=>rfl;refine⟨⟨gS,gE,aS,aE,⟨_,_,_,_,lS⟩,⟨_,_,_,_,lE⟩⟩,W.fnOf "law" "law" (ZE YT) (Zh YT) (Qy YT) .none kV38 dc38 pm38 an38 cd38 ct38,fun s v=>.of_eq rfl,fun base _ _=>?_⟩;have Xba:=Lo (P:=P) (w:=w) (base:=base) T Xcz;have Xbm:=L8 (P:=P) (w:=w) (base:=base) T XcA;have XaT:=Fw (P:=P) (w:=w) (base:=base) T XcB;have XbH:=FO T XcC XaT;have XbI:=AU T XcD XaT;have XbJ:Mx P w K mg base "Hand" CH ZaQ 1:=⟨_,_,⟨Hmk,a56,i56,Hkc⟩,W.mg_of X G aH,B_Hand,LQ (P:=P) (w:=w) (base:=base) T UH Xb7⟩;have Xbz:=Cl (P:=P) (w:=w) (base:=base) T Xcb;have Xby:=Eg (P:=P) (w:=w) (base:=base) T Xb8;have XaV:=CU T Xb9 Xby;have XaW:=Cn (P:=P) (w:=w) (base:=base) T Xce;have XaU:=Fu (P:=P) (w:=w) (base:=base) T Xcd;have Xbf:=E4 T Xca XaV;have Xbg:=Ei T Xcc Xbz XaV XaW XaU Xbf;have Xbh:=CD (P:=P) (w:=w) (base:=base) T UH XcY;have Xbr:Mi P w K mg base "Net" C 1:=⟨_,_,⟨mk,a55,i55,kc⟩,W.mg_of X G aC,B_Net,PH (P:=P) (w:=w) (base:=base) T U Xb6⟩;have Xbb:=L7 (P:=P) (w:=w) (base:=base) T U XcL;have Xa0:=PZ T U XcK Xbb;have XaY:=Lv (P:=P) (w:=w) (base:=base) T Xcj;have Xa3:=LU (P:=P) (w:=w) (base:=base) T Xcn;have Xa4:=F6 (P:=P) (w:=w) (base:=base) T Xci;have Xa6:=Ty (P:=P) (w:=w) (base:=base) T Xck;have Xa1:=Fa (P:=P) (w:=w) (base:=base) T Xco;have Xa5:=Cu (P:=P) (w:=w) (base:=base) T Xch;have Xbs:=CS T U Xcp Xa0 XaY Xa3 XaU Xa4 Xa6 Xa1 Xa5;have XaX:=Fb (P:=P) (w:=w) (base:=base) T Xcg;have Xa7:=Fz (P:=P) (w:=w) (base:=base) T Xcf;have Xbt:=Ft T U Xcq Xa0 XaX Xa1 XaW Xa7;have Xa2:=AD (P:=P) (w:=w) (base:=base) T U XcM;have Xbp:=Lw (P:=P) (w:=w) (base:=base) T U XcN;have Xbq:=PD (P:=P) (w:=w) (base:=base) T U XcP;have Xbu:=T7 T U XcO Xa2 Xbp Xbq;have Xbv:=Aa T U Xcr Xbr Xbs XaU Xbt Xbu;have Xbw:=Ey T U Xcs Xbv Xa2 Xa3;have Xbc:=Tv T Xcx Xbw;have Xbn:=EE T Xct XaW Xa4 Xa5 Xa6 Xa7 XaX;have Xbo:=Cf T Xcu Xbn XaX;have Xbx:=C1 T Xcv XaU Xbo;have Xbd:=FG T Xcw XaY Xbx;have Xbe:Ms P w K mg base fR ZaP 1 (Gm K CR "some"):=⟨_,B_NoRoom,Am (P:=P) (w:=w) (base:=base) T XbP XR.cl ⟨rs,ro,rd⟩ rt (W.mg_of X G rY)⟩;have Xbi:=Ac T XR Xcy Xbc Xbd Xbe;have XbA:=Fi (P:=P) (w:=w) (base:=base) T Xcl;have XbB:=Lm (P:=P) (w:=w) (base:=base) T Xcm;have Xa8:=Lj T UH XcZ XaV;have XaZ:=LS T UH XcT Xa8 XaY;have Xbj:=Ak T UH XcX XbA XbB XaZ;have Xbk:=FE T UH XR XcR Xbg Xbh Xbi Xbj;have XbK:=Fc T UH XR XA XcI Xbk;have XbC:=CI (P:=P) (w:=w) (base:=base) T XcE;have Xa9:=Ti T XcF XbC;have XbL:=Cg T XcH Xa9;have XbM:=Ar T XcG Xa9;have Xbl:=Lf (P:=P) (w:=w) (base:=base) T UH XcQ;have XbD:=A0 (P:=P) (w:=w) (base:=base) T UH XcV;have XbE:=C5 (P:=P) (w:=w) (base:=base) T UH XcW;have XbF:=FL T UH XcU XaZ;have XbG:=T4 T UH XcS Xa8;have XbN:=AV T UH XcJ Xbl XbD XbE XbF XbG XaZ;exact TV T UH XbO Xba Xbm XbH XbI XbJ XbK XbL XbM XbN
end My
namespace PySem.W.Fast
def tw8173982171939798141:=0
def tw12398697308103825946:=0
def tw658525493193493551:=0
def tw5396739954251283296:=0
def tw16321145981163211288:=0
def tw5721540135275953580:=0
def tw11949717387155271054:=0
def tw15254875256847202218:=0
def tw15580547752593609965:=0
def tw7438461244933447303:=0
def tw10899440762613669853:=0
def tw14239639971493439415:=0
def tw1029522278472953872:=0
def tw15840090921935312502:=0
def tw10149456709998957264:=0
def tw9346477534799405726:=0
def tw1632397451844852250:=0
def tw569613251723591681:=0
def tw6345407870942079492:=0
def tw13652073198803620962:=0
def tw10622233313151245300:=0
def tw9918357294427889762:=0
def tw10586417360566997342:=0
def tw13508467729255378600:=0
def tw11764903863352066429:=0
def tw8950850551703730279:=0
def tw4752227608448835639:=0
def tw1731797742421949724:=0
def tw6118909424553624923:=0
def tw14889195043639388710:=0
def tw13305010298283710749:=0
def tw3067973571963964977:=0
def tw10145578030805218751:=0
def tw7963024333299728358:=0
def tw417531966702334869:=0
def tw10813500517269590074:=0
def tw6504168438461893171:=0
def tw17992222091213336436:=0
def tw17436402384376174944:=0
def tw17574017657936463662:=0
def tw5292223034409858309:=0
def tw7893947318292200141:=0
def tw15371817714572689864:=0
def tw721022906139276046:=0
def tw17803874052871335485:=0
def tw14968117881555022451:=0
def tw9450402605642255487:=0
def tw9432294602052242825:=0
def tw8540230861310909842:=0
def tw14812963561625273981:=0
def tw12901854127670655651:=0
def tw18438502490993551344:=0
def tw8916940518834468850:=0
def tw5360606469573022586:=0
def tw15012615114283718922:=0
def tw17249747067786625380:=0
def tw11505782820045781969:=0
def tw8598349825515553024:=0
def tw3087656829463679987:=0
def tw14965421848431746049:=0
def tw14182317742938834339:=0
def tw8938869055322582324:=0
def tw15870304445919860246:=0
def tw8885997613420995073:=0
def tw9649551581202758265:=0
def tw11591631732415226805:=0
def tw14069209142454658445:=0
def tw3767584663789216255:=0
def tw4979010023001906034:=0
def tw11580596296103600354:=0
def tw15287733787086078324:=0
def tw10596503366211304308:=0
def tw12070665264563072739:=0
def tw17200991810006480502:=0
def tw17942533806929156092:=0
def tw15471608393583146079:=0
def tw6401151316577338164:=0
def tw4406868564109169729:=0
def tw4769399906835656570:=0
def tw18135392739548062890:=0
def tw11786565507670992312:=0
def tw14109556988097027797:=0
def tw12560402554283182915:=0
def tw5180176568938273767:=0
def tw11561266665596123310:=0
def tw15955160715747376535:=0
def tw14173732029543290523:=0
def tw2427660312507015100:=0
def tw15972923588249772954:=0
def tw14704206127704483150:=0
def tw18258454323805410952:=0
def tw12479385635482728602:=0
def tw1593570008850043916:=0
def tw3077086513535799737:=0
def tw12217916543583140250:=0
def tw18327502041414304267:=0
def tw15541679267666404390:=0
def tw16487601461329513147:=0
def tw16501657609135346466:=0
def tw5880557232395965479:=0
def tw16104482466386831162:=0
def tw18061078491768326470:=0
def tw18402738678670267827:=0
def tw7433790752086783130:=0
def tw3324580957401478663:=0
def tw3785366495965597296:=0
def tw7308167451828393853:=0
def tw13784979446364114563:=0
def tw5414760243042817098:=0
def tw6023366850811515369:=0
def tw6846252688462014190:=0
def tw7187586133162399817:=0
def tw17805176432501761743:=0
end PySem.W.Fast
open PySem PySem.W PyProof.Rows
set_option maxRecDepth 100000 in
set_option maxHeartbeats 0 in
theorem PySem.Challenge.cw_chargeyard_k60_let_in_or_refused_holds : PySem.Challenge.rw_chargeyard_k60_let_in_or_refused.Holds := by
 w_on; o_law; k_head; (case hw=>w_witness2)
 k_fill
 refine L2.Zmw (l:=PySem.Challenge.rw_chargeyard_k60_let_in_or_refused) (k:=10) (x := "_law_script") rfl rfl ⟨rfl,by decide,by decide⟩ (fun w h Y=>W.kIn_of Y) ?F
 case F =>
  intro w mg fa h KX G hmg
  refine' My.Zs3 KX G hmg ?aC ?aH ?h0 ?h1 ?h2 ?h3 ?h4 ?h5 ?h6 ?h7 ?h8 ?h9 ?h10 ?h11 ?h12 ?h13 ?h14 ?h15 ?h16 ?h17 ?h18 ?h19 ?h20 ?h21 ?h22 ?h23 ?h24 ?h25 ?h26 ?h27 ?h28 ?h29 ?h30 ?h31 ?h32 ?h33 ?h34 ?h35 ?h36 ?h37 ?a38 ?l38 ?c38 ?k38 ?a39 ?i39 ?l39 ?c39 ?k39 ?a40 ?i40 ?l40 ?c40 ?k40 ?a41 ?i41 ?l41 ?c41 ?k41 ?a42 ?i42 ?l42 ?c42 ?k42 ?a43 ?i43 ?l43 ?c43 ?k43 ?a44 ?i44 ?l44 ?c44 ?k44 ?a45 ?i45 ?l45 ?c45 ?k45 ?a46 ?i46 ?l46 ?c46 ?k46 ?a47 ?i47 ?l47 ?c47 ?k47 ?a48 ?i48 ?l48 ?c48 ?k48 ?a49 ?i49 ?l49 ?c49 ?k49 ?a50 ?i50 ?l50 ?c50 ?k50 ?a51 ?i51 ?l51 ?c51 ?k51 ?a52 ?i52 ?l52 ?c52 ?k52 ?a53 ?i53 ?l53 ?c53 ?k53 ?a54 ?i54 ?l54 ?c54 ?k54 ?a55 ?i55 ?l55 ?c55 ?k55 ?a56 ?i56 ?l56 ?c56 ?k56 ?pg ?hd ?po ?sa ?mk ?kc ?Hpg ?Hhd ?Hpo ?Hsa ?Hmk ?Hkc ?Hn0 ?Hn1 ?Hn2 ?Hn3 ?Hn4 ?Hn5 ?n0 ?n1 ?n2 ?n3 ?aS ?lS ?aE ?lE ?rC ?rY ?rf ?rl ?rc ?rk ?rx ?rg ?rr ?ri ?rs ?ro ?xa0 ?xa1 ?xe ?xp ?xn ?xq ?xb ?xc ?xs ?xt ?xm ?xk1 ?xk2 ?xk3 ?xk4 ?rd ?rt ?rK ?z0 ?z1 ?z2 ?z3 ?z4 ?z5 ?z6 ?z7 ?z8 ?z9 ?z10 ?z11 ?z12 ?z13 ?z14 ?z15 ?z16 ?z17
  case aC | aH | a38 | l38 | c38 | k38 | a39 | i39 | l39 | c39 | k39 | a40 | i40 | l40 | c40 | k40 | a41 | i41 | l41 | c41 | k41 | a42 | i42 | l42 | c42 | k42 | a43 | i43 | l43 | c43 | k43 | a44 | i44 | l44 | c44 | k44 | a45 | i45 | l45 | c45 | k45 | a46 | i46 | l46 | c46 | k46 | a47 | i47 | l47 | c47 | k47 | a48 | i48 | l48 | c48 | k48 | a49 | i49 | l49 | c49 | k49 | a50 | i50 | l50 | c50 | k50 | a51 | i51 | l51 | c51 | k51 | a52 | i52 | l52 | c52 | k52 | a53 | i53 | l53 | c53 | k53 | a54 | i54 | l54 | c54 | k54 | a55 | i55 | l55 | c55 | k55 | a56 | i56 | l56 | c56 | k56 | pg | hd | po | sa | mk | kc | Hpg | Hhd | Hpo | Hsa | Hmk | Hkc | Hn0 | Hn1 | Hn2 | Hn3 | Hn4 | Hn5 | n0 | n1 | n2 | n3 | aS | lS | aE | lE | rC | rY | rf | rl | rc | rk | rg | rr | ri | rs | xa0 | xa1 | xp | xn | xq | xb | xc | xs | xt | xm | rd | rt | rK | z0 | z1 | z2 | z3 | z4 | z5 | z6 | z7 | z8 | z9 | z10 | z11 | z12 | z13 | z14 | z15 | z16 | z17=>k_is
  case xk1 | xk2 | xk3 | xk4=>kit_is
  case xe=>kts_exm
  case h0 | h1 | h2 | h3 | h4 | h5 | h6 | h7 | h8 | h9 | h10 | h11 | h12 | h13 | h14 | h15 | h16 | h17 | h18 | h19 | h20 | h21 | h22 | h23 | h24 | h25 | h26 | h27 | h28 | h29 | h30 | h31 | h32 | h33 | h34 | h35 | h36 | h37 =>
   refine' My.DH.mk ?a ?l ?c ?k
   case a | l | c | k=>k_is
  case rx | ro=>with_unfolding_all exact Eq.refl true
end
