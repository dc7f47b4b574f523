import PyProof.Rows.All
import Wide.All
import OpenK.AllK
import Wide.FinOn
import Lean
import PyProof.EqAt
import PyProof.EqKinds
import PyProof.TupleCall
import PyProof.EqLayable
import PyProof.SumAny
import PyProof.ListRange
import PyProof.WalksEnum
import PyProof.ZipIter
import PyProof.EnumMake
import PyProof.ConsumeS
import PyProof.SeqI3
import PyProof.MaxThree
import PyProof.Rows.TupAdd
import KE.KIsAll
import KE.KTryMore
import OpenK.KOwn
import PyProof.CollectWalk
import PyProof.DictRoadsH
import PyProof.DictWalks
import PyProof.ExcArgs
import PyProof.ExcBaseAll.ValueError
import PyProof.ExcClass3
import PyProof.FactsAll.dict
import PyProof.FactsAll.set
import PyProof.FactsLen
import PyProof.InstSpecial
import PyProof.MeetsDict
import PyProof.MinMaxWalk
import PyProof.NsDelKeeps
import PyProof.Rows.CatchBare
import PyProof.Rows.SetFrom
import PyProof.Rows.SortWalk
import PyProof.Rows.TupDisplay
import PyProof.RulesAs
import PyProof.SetRoads
import PyProof.StationsW
import PyProof.WalkLemmas
import PyProof.WalksMore
import PySem.Challenge.RW_chargeyard_k67_in_any_order
set_option Elab.async false
set_option linter.all false
set_option maxRecDepth 100000
set_option maxHeartbeats 4000000
set_option compiler.extract_closed false
set_option genSizeOf false
section
open PySem PySem.Spec PyProof.Rows
def Qa {α:Sort _}{a:α}{q:Prop}:a=a\/q:=Or.inl rfl
abbrev Qb:=Value->Shared->Prop
abbrev Qc:=List (Addr×Obj)
abbrev Qd:=List PyData
abbrev Qe:=List Value
abbrev Qf:=Option Value
abbrev Qg:=List Addr
abbrev Qh:=List Str
abbrev Zaa:Qh:=["_law_script","_law_yard_here","_law_guests","_law_k","_law_hand","_law_told","_law_some","_law_out","_law_at","_law_great","_law_times_here","_law_other","_law_more","_law_rows"]
abbrev Zab:Qh:=["self","start","end","room"]
abbrev Zac:Qh:=["self","number"]
abbrev Zad:Qh:=["yard","guests","some"]
abbrev Zae:Qh:=["yard","guests","some","turn"]
abbrev Zaf:Qh:=["yard","guests"]
abbrev Zag:Qh:=["_law_yard_here","_law_guests"]
abbrev Zah:Qh:=["_law_yard_here","_law_rows","_law_picked","_law_turn"]
abbrev Zai:Qh:=["_law_yard_here","_law_rows","_law_picked","_law_now"]
abbrev Zaj:Qh:=["_law_yard_here","_law_guests","_law_k","_law_lines","_law_more","_law_line","_law_first","_law_last","_law_want","_law_most"]
abbrev Zak:Qh:=["_law_yard_here","_law_rows","_law_now","_law_numbers","_law_bits","_law_picked"]
abbrev Zal:Qh:=["_law_feed_here","_law_yard_here","_law_now"]
abbrev Zam:Qh:=["_law_feed_here","_law_yard_here","_law_now","_law_first","_law_last","_law_line","_law_scale","_law_want"]
abbrev Zan:Qh:=["_law_hand","_law_guest_here"]
abbrev Zao:Qh:=["_law_yard_here","_law_guests","_law_k"]
abbrev Zap:Qh:=["_law_yard_here","_law_rows","_law_now"]
abbrev Zaq:Qh:=["_law_hand","_law_guest_here","_law_told","e","_law_marks"]
abbrev Zar:Qh:=["guest","turn"]
abbrev Zas:Qh:=["_law_feed_here","_law_many"]
abbrev Zat:Qh:=["thing","least","end"]
abbrev Zau:Qh:=["_law_yard_here","_law_rows","_law_picked","_law_now","_law_total","_law_turn"]
abbrev Zav:Qh:=["yard","line","turn"]
abbrev Zaw:Qh:=["_law_above","_law_bounds"]
abbrev Zax:Qh:=["net","yard","number","guest"]
abbrev Zay:Qh:=["_law_above","_law_bounds","_law_k"]
abbrev Zaz:Qh:=["guest"]
abbrev ZaA:Qh:=["_law_k","_law_guests","_law_told"]
abbrev ZaB:Qh:=["_law_script","_law_k"]
abbrev ZaC:Qh:=["yard","guests","some","turn","reaching","number","guest","line"]
abbrev ZaD:Qh:=["self","edges","end"]
abbrev ZaE:Qh:=["self","start","end"]
abbrev ZaF:Qh:=["_law_guest_here","_law_hand"]
abbrev ZaG:Qh:=["self"]
abbrev ZaH:Qh:=["self","yard"]
abbrev ZaI:Qh:=["_law_k","_law_marks","e"]
abbrev ZaJ:Qh:=["self","start"]
abbrev ZaK:Qh:=["self","guest"]
abbrev ZaL:Qh:=["net","yard","turn"]
abbrev ZaM:Qh:=["thing","length"]
abbrev ZaN:Qh:=["yard"]
abbrev ZaO:Qh:=["yard","line"]
abbrev ZaP:Qh:=["line","turn"]
abbrev ZaQ:Qh:=["thing","least"]
abbrev ZaR:Qh:=["self","turn"]
abbrev ZaS:Qh:=["_law_yard_here","_law_guests","_law_hand"]
abbrev ZaT:Qh:=["yard","thing"]
abbrev ZaU:Qh:=["guest","want"]
abbrev ZaV:Qh:=["_law_feed_here"]
abbrev ZaW:Qh:=["self","some"]
abbrev ZaX:Qh:=["self","way"]
abbrev ZaY:Qh:=["_law_guest_here"]
abbrev ZaZ:Qh:=["_law_script"]
abbrev Zba:Qh:=["_law_cell"]
abbrev Zbb:Qh:=["number"]
abbrev Qi:=List Expr
abbrev Qj:=Option Addr
abbrev Qk:=List Nat
abbrev Ql:=List Int
abbrev Qm:=Nat->Bool
abbrev Qn:=Nat->Int
def Xa:=@wpAny_bind
def Xb:=@if_neg
def Xc:=@List.mem_cons_self
def Xd:=@if_pos
def Xe:=@List.mem_cons_of_mem
def Xf:=@Heap.get?_push_of_some
def Xg:=@List.mem_cons
def Xh:=@List.getElem?_eq_some_iff
def Xi:=@List.mem_singleton
def Xj:=@Heap.lt_size
def Xk:=@List.length_map
def Xl:=@absurd
def Xm:=@List.length_append
def Xn:=@wpAny_pure
def Xo:=@List.getElem?_set_self
def Xp:=@Nat.ne_of_lt
def Xq:=@List.getElem?_map
def Xr:=@List.map_append
def Xs:=@List.map_cons
def Xt:=@Nat.lt_of_lt_of_le
def Xu:=@Nat.le_refl
def Xv:=@Bool.false_ne_true
def Xw:=@List.size_toArray
def Xx:=@List.getElem?_set_ne
def Xy:=@Heap.get?_push_size
def Xz:=@Int.toNat_natCast
def XB:=@List.find?_cons
def XD:=@List.append_nil
def XF:=@List.mem_range
def XG:=@List.mem_append
def XH:=@List.mem_append_right
def XI:=@List.getElem?_append_left
def XJ:=@List.length_cons
def XL:=@List.lookup_cons
def XM:=@Nat.zero_le
def XN:=@decide_eq_false
def XO:=@List.nodup_cons
def XQ:=@List.getElem?_eq_getElem
def XS:=@Heap.get?_update_other
def XT:=@List.mem_map
def XU:=@List.not_mem_nil
def XV:=@List.getElem_mem
def XW:=@decide_eq_true
def XX:=@Nat.ne_of_gt
def XY:=@List.map_map
def XZ:=@Bool.false_eq_true
def X0:=@of_decide_eq_true
def X5:=@congrArg
def X6:=@Option.map_some
def X7:=@List.map_congr_left
def X8:=@Int.toNat_of_nonneg
def X9:=@List.getElem?_append_right
def VM:=@Nat.le_trans
def Yh:=@Nat.lt_irrefl
def WJ:=@Heap.get?_update_self
def YH:=@List.range_succ
def Wc:=@List.take_length
def Wb:=@List.mem_flatMap
def Y2:=@List.sum_cons
def Jr:=@List.length_singleton
def W1:=@Nat.lt_succ_self
def Y1:=@Nat.le_of_lt
def Y0:=@Int.zero_add
def WI:=@List.length_range
def Jq:=@List.replicate_succ
def WH:=@List.cons_append
def Ui:=@List.mem_append_left
def W0:=@Heap.size_push
def US:=@List.getElem?_cons_succ
def Uh:=@List.flatMap_append
def Jp:=@List.length_take
def Jo:=@List.filter_cons
def WG:=@List.take_succ
def Ug:=@of_decide_eq_false
def UR:=@List.mem_iff_getElem
def Uf:=@List.flatten_cons
def Ue:=@Option.getD_some
def Ud:=@List.mem_filter
def UX:=@List.append_assoc
def UW:=@Option.isSome_map
def Mz:=@List.getElem?_eq_none_iff
def Ul:=@List.nodup_nil
def UV:=@Bool.and_eq_true
def Mx:=@List.filterMap_cons_none
def Mw:=@List.filterMap_cons_some
def Ju:=@Int.le_trans
def Uk:=@Bool.not_true
def Bh:=@List.filter_append
def Ky:=@Int.mul_le_mul_of_nonneg_right
def Bg:=@Int.emod_lt_of_pos
def Jt:=@Int.le_refl
def Js:=@wpAny_field
def Kx:=@Int.mul_le_mul_of_nonneg_left
def Bf:=@Nat.lt_succ_of_lt
def Mv:=@List.pairwise_flatMap
def Be:=@List.length_drop
def Uj:=@Int.mul_sub
def Mu:=@List.filterMap_cons
def Mt:=@List.length_pos_iff
def Bd:=@List.sum_append
def Bc:=@Int.emod_nonneg
def UU:=@List.map_nil
def UT:=@Int.add_zero
def Ms:=@List.flatMap_cons
def M0:=@List.append_inj'
end
namespace L2
open PySem PySem.Spec PyProof.Rows
abbrev Key:=Sum Int Str
def Uv:Key->Value->Bool
 |.inl k,v=>Value.isInt k v
 |.inr x,v=>Value.isStrOf x v
def Te (w:World):Key->Int
 |.inl k=>hashInt k
 |.inr x=>hashStr w x
theorem WE:∀{k:Key} {v:Value},Uv k v=true->(∃i t,k=Sum.inl i/\v=Value.int i t)\/(∃x t,k=Sum.inr x/\v=Value.str x t)
 |.inl i,v,h=>by
   obtain⟨t,e⟩:=Value.isInt_shape (k:=i) (v:=v) h;exact .inl ⟨i,t,rfl,e⟩
 |.inr x,v,h=>by
   obtain⟨t,e⟩:=Value.isStrOf_shape (x:=x) (v:=v) h;exact .inr ⟨x,t,rfl,e⟩
def AJ (i:Int)(t:Tok):Uv (.inl i) (.int i t)=true:=by simp[Uv,Value.isInt]
def CF (x:Str)(t:Tok):Uv (.inr x) (.str x t)=true:=by simp[Uv,Value.isStrOf]
def Lj (a b:Int):decide ((Sum.inl a:Key)=Sum.inl b)=(a==b):=by
 by_cases e:a=b
 ·subst e;simp
 ·have h:¬(Sum.inl a:Key)=Sum.inl b:=fun q=>e (Sum.inl.inj q)
  rw[XN h];exact(beq_eq_false_iff_ne.mpr e).symm
def Tq (a b:Str):decide ((Sum.inr a:Key)=Sum.inr b)=decide (a=b):=by
 by_cases e:a=b
 ·subst e;simp
 ·have h:¬(Sum.inr a:Key)=Sum.inr b:=fun q=>e (Sum.inr.inj q)
  rw[XN h,XN e]
def Lm (a:Int)(b:Str):decide ((Sum.inl a:Key)=Sum.inr b)=false:=XN (fun q=>nomatch q)
def Lw (a:Str)(b:Int):decide ((Sum.inr a:Key)=Sum.inl b)=false:=XN (fun q=>nomatch q)
def Vq (prog:Program)(w:World):PySem.KeyKind prog w Key where
 is:=Uv
 hash:=Te w
 inj:=fun v a b ha hb=>by
  rcases WE ha with ⟨i,t,rfl,rfl⟩|⟨x,t,rfl,rfl⟩
  ·rcases WE hb with ⟨j,u,rfl,e⟩|⟨y,u,rfl,e⟩
   ·injection e with e1 _;rw[e1]
   ·exact nomatch e
  ·rcases WE hb with ⟨j,u,rfl,e⟩|⟨y,u,rfl,e⟩
   ·exact nomatch e
   ·injection e with e1 _;rw[e1]
 byValue:=fun k v h=>by
  rcases WE h with ⟨i,t,rfl,rfl⟩|⟨x,t,rfl,rfl⟩<;>rfl
 pyHash:=fun hv h=>by
  rcases WE hv with ⟨i,t,rfl,rfl⟩|⟨x,t,rfl,rfl⟩
  ·exact wpAny_pyHash_int h
  ·exact wpAny_pyHash_str h
 eqBool:=fun hu hv h=>by
  rcases WE hu with ⟨i,t,rfl,rfl⟩|⟨x,t,rfl,rfl⟩
  ·rcases WE hv with ⟨j,u,rfl,rfl⟩|⟨y,u,rfl,rfl⟩
   ·rw[Lj]at h;exact wpAny_eqBool_int h
   ·rw[Lm]at h;exact SeqAt.EqAt.int_str i t y u _ _ _ _ h
  ·rcases WE hv with ⟨j,u,rfl,rfl⟩|⟨y,u,rfl,rfl⟩
   ·rw[Lw]at h;exact SeqAt.EqAt.str_int x t j u _ _ _ _ h
   ·rw[Tq]at h;exact wpAny_eqBool_str h
 «strs» := fun k x t v h=>by
  rcases WE h with ⟨i,u,rfl,e⟩|⟨y,u,rfl,e⟩
  ·exact nomatch e
  ·injection e with e1 _
   subst e1;cases v<;>rfl
def EW (prog:Program)(w:World)(i:Int)(t:Tok):(Vq prog w).is (.inl i) (.int i t)=true:=AJ i t
def Ij (prog:Program)(w:World)(x:Str)(t:Tok):(Vq prog w).is (.inr x) (.str x t)=true:=CF x t
inductive V where
 |non|bl (b:Bool)|int (i:Int)|str (x:Str)|byt (b:Array UInt8)|flt (b:UInt64)|ref (a:Addr)|ty (n:String)
 deriving DecidableEq
def QL:V->Value->Prop
 |.non,u=>u=Value.none
 |.bl b,u=>u=Value.bool b
 |.int i,u=>∃t,u=Value.int i t
 |.str x,u=>∃t,u=Value.str x t
 |.byt b,u=>∃t,u=Value.bytes b t
 |.flt b,u=>∃t,u=Value.float b t
 |.ref a,u=>u=Value.ref a
 |.ty n,u=>u=Value.type n
abbrev QK:List V->Qe->Prop:=Paired QL
def QK.length {xs:List V}{us:Qe}(r:QK xs us):xs.length=us.length:=Paired.length r
theorem QK.get:∀{xs:List V} {us:Qe} {i:Nat} {x:V},QK xs us->xs[i]?=some x->∃u,us[i]?=some u/\QL x u
 |_,_,_,_,.nil,e=>by simp at e
 |_,_,0,_,.cons r _,e=>by simp at e;subst e;exact⟨_,rfl,r⟩
 |_,_,i+1,x,.cons _ t,e=>by
   obtain⟨u,h1,h2⟩:=QK.get (i:=i) (x:=x) t (by simpa using e)
   exact⟨u,by simpa using h1,h2⟩
theorem QK.set {x:V}{u:Value}(r:QL x u):∀{xs:List V} {us:Qe} (i:Nat),QK xs us->QK (xs.set i x) (us.set i u)
 |_,_,_,.nil=>.nil
 |_,_,0,.cons _ t=>.cons r t
 |_,_,i+1,.cons q t=>.cons q (QK.set r i t)
theorem QK.append:∀{xs ys:List V} {us ws:Qe},QK xs us->QK ys ws->QK (xs++ys) (us++ws)
 |_,_,_,_,.nil,s=>s
 |_,_,_,_,.cons r t,s=>.cons r (QK.append t s)
theorem QK.take:∀{xs:List V} {us:Qe} (n:Nat),QK xs us->QK (xs.take n) (us.take n)
 |_,_,0,_=>.nil
 |_,_,_+1,.nil=>.nil
 |_,_,n+1,.cons r t=>.cons r (QK.take n t)
theorem QK.drop:∀{xs:List V} {us:Qe} (n:Nat),QK xs us->QK (xs.drop n) (us.drop n)
 |_,_,0,r=>r
 |_,_,_+1,.nil=>.nil
 |_,_,n+1,.cons _ t=>QK.drop n t
def ZM:Option V->Qf->Prop
 |some v,some u=>QL v u
 |none,none=>True
 |_,_=>False
def KV {κ:Type}:List (κ×V)->List (κ×Value)->Prop:=Paired fun(p:κ×V) (q:κ×Value)=>p.1=q.1/\QL p.2 q.2
def kV:Key->V
 |.inl i=>.int i
 |.inr x=>.str x
inductive HO where
 |lst (xs:List V)
 |tup (xs:List V)
 |dK (kvs:List (Key×V))|dT (kvs:List (List Key×V))
 |set (S:Int->Bool) (n:Nat)
 |ins (C dx:Addr) (fs:List (Str×V))
 |own (x:Addr)
 |xd (fs:List (Str×V))
 |met (f x:Addr)
 |rng (lo hi:Int)
 |frz (o:Obj) (u:HO)
 |tbl (ps:Array Value)
 |ext (φ:Heap->Prop)
abbrev Hp:=Addr->Option HO
def upd (H:Hp)(a:Addr)(o:HO):Hp:=fun b=>if b=a then some o else H b
def QD {H:Hp}{a:Addr}{o:HO}:upd H a o a=some o:=by unfold upd;rw[Xd rfl]
def Qu {H:Hp}{a b:Addr}{o:HO}(h:b≠a):upd H a o b=H b:=by unfold upd;rw[Xb h]
def KS {H:Hp}{a b:Addr}{o u:HO}(h:H a=some o)(h':H b=some u)(d:o≠u):a≠b:=by
 intro e;subst e;rw[h]at h';exact d (Option.some.inj h')
def Zo {H:Hp}{a b:Addr}{o:HO}(h:H a=some o)(h':H b=none):a≠b:=by
 intro e;subst e;rw[h]at h';cases h'
section
variable (P:Program)(w:World)
def Z7 (H:Hp)(h:Heap)(a:Addr):HO->Prop
 |.lst xs=>xs.length<=sizeLine/\∃(its:Qe) (n:Nat),QK xs its/\h.get? a=some { cls:=.type "list",data:=.seq its.toArray n }
 |.tup xs=>xs.length<=sizeLine/\∃its:Qe,QK xs its/\IsTup h a its.toArray
 |.dK kvs=>kvs.length<=sizeLine/\(a==sysModules)=false/\∃vs,KV kvs vs/\h.DictOf (Vq P w) a vs
 |.dT kvs=>kvs.length<=sizeLine/\(a==sysModules)=false/\∃xs:List (List Key×Addr×Value),
  Paired (fun(p:List Key×V) (q:List Key×Addr×Value)=>p.1=q.1/\H q.2.1=some (.tup (p.1.map kV))/\QL p.2 q.2.2) kvs xs /\
  ∃o es ep,h.get? a=some o/\o.ExactDict/\o.data=.dict es ep/\es.toList=xs.map (entryOfKey (tupleKind (Vq P w)))/\(xs.map (·.1)).Nodup
 |.set S n=>h.SetOf (intKind P w) a S n
 |.ins C dx fs=>H dx=some (.own a)/\fs.length<=1000/\dx≠a/\h.get? a=some (W.instObj C dx) /\
  ∃mA,h.Ns1 dx mA/\(∀f,ZM (fs.lookup f) (mA f))/\PySem.Within mA (fs.map (·.1))
 |.own _=>∃o,h.get? a=some o
 |.xd fs=>∃mA,h.Ns1 a mA/\∀f,ZM (fs.lookup f) (mA f)
 |.rng lo hi=>∃t u v,h.get? a=some { cls:=.type "range",data:=.fields #[.int lo t,.int hi u,.int 1 v] }
 |.frz o u=>h.get? a=some o/\Z7 H h a u
 |.tbl ps=>h.get? a=some { cls:=.none,data:=.fields ps }
 |.met f x=>h.get? a=some (W.methodObj (.ref f) (.ref x))
 |.ext φ=>φ h/\(∃o,h.get? a=some o)/\∀h1 h2:Heap,φ h1->(∀o,h1.get? a=some o->h2.get? a=some o)->φ h2
def HOk (H:Hp)(h:Heap):Prop := ∀a o,H a=some o->Z7 P w H h a o
end
section
variable {P:Program}{w:World}{H H':Hp}{h h':Heap}{a:Addr}{o:HO}
def Z7.lt (x:Z7 P w H h a o):a<h.objs.size:=by
 cases o with
 |lst xs=>obtain⟨_,_,_,_,e⟩:=x;exact Xj e
 |tup xs=>obtain⟨_,_,_,p⟩:=x;exact p.lt
 |dK kvs=>obtain⟨_,_,_,_,o,_,_,e,_⟩:=x;exact Xj e
 |dT kvs=>obtain⟨_,_,_,_,o,_,_,e,_⟩:=x;exact Xj e
 |set S n=>obtain⟨o,_,_,_,e,_⟩:=x;exact Xj e
 |ins C dx fs=>obtain⟨_,_,_,e,_⟩:=x;exact Xj e
 |own y=>obtain⟨_,e⟩:=x;exact Xj e
 |xd fs=>obtain⟨_,⟨_,_,_,e,_⟩,_⟩:=x;exact Xj e
 |rng lo hi=>obtain⟨_,_,_,e⟩:=x;exact Xj e
 |frz ob u=>obtain⟨e,_⟩:=x;exact Xj e
 |tbl ps=>exact Xj (show h.get? a=some _ from x)
 |met f y=>exact Xj (show h.get? a=some _ from x)
 |ext φ=>obtain⟨_,⟨_,e⟩,_⟩:=x;exact Xj e
theorem Paired.mapP {α β:Type}{F G:α->β->Prop}:∀{c8:List α} {c9:List β},Paired F c8 c9->(∀a b,F a b->G a b)->Paired G c8 c9
 |_,_,.nil,_=>.nil
 |_,_,.cons r t,f=>.cons (f _ _ r) (Paired.mapP t f)
def Z7.stay (x:Z7 P w H h a o)(k:∀b u,(b=a\/H b=some (.own a))->h.get? b=some u->h'.get? b=some u)
 (ho:∀b,H b=some (.own a)->H' b=some (.own a)) (ht:∀b xs,H b=some (.tup xs)->H' b=some (.tup xs)):Z7 P w H' h' a o:=by
 induction o with
 |lst xs=>obtain⟨z,its,n,r,e⟩:=x;exact⟨z,its,n,r,k _ _ (.inl rfl) e⟩
 |tup xs=>obtain⟨z,its,r,ob,e,c⟩:=x;exact⟨z,its,r,ob,k _ _ (.inl rfl) e,c⟩
 |dK kvs=>obtain⟨z,y,vs,r,ob,es,ep,e,c⟩:=x;exact⟨z,y,vs,r,ob,es,ep,k _ _ (.inl rfl) e,c⟩
 |dT kvs =>
   obtain⟨z,y,xs,r,ob,es,ep,e,c⟩:=x
   exact⟨z,y,xs,Paired.mapP r fun p q z=>⟨z.1,ht _ _ z.2.1,z.2.2⟩,ob,es,ep,k _ _ (.inl rfl) e,c⟩
 |set S n=>obtain⟨ob,es,ep,t,e,c⟩:=x;exact⟨ob,es,ep,t,k _ _ (.inl rfl) e,c⟩
 |ins C dx fs =>
   obtain⟨d,z,ne,e,mA,⟨od,es,ep,e2,c⟩,r⟩:=x
   exact⟨ho _ d,z,ne,k _ _ (.inl rfl) e,mA,⟨od,es,ep,k _ _ (.inr d) e2,c⟩,r⟩
 |own y=>obtain⟨ob,e⟩:=x;exact⟨ob,k _ _ (.inl rfl) e⟩
 |xd fs=>obtain⟨mA,⟨od,es,ep,e,c⟩,r⟩:=x;exact⟨mA,⟨od,es,ep,k _ _ (.inl rfl) e,c⟩,r⟩
 |rng lo hi=>obtain⟨t,u,v,e⟩:=x;exact⟨t,u,v,k _ _ (.inl rfl) e⟩
 |frz ob u ih=>obtain⟨e,q⟩:=x;exact⟨k _ _ (.inl rfl) e,ih q⟩
 |tbl ps =>
   have e:h.get? a=some { cls:=.none,data:=.fields ps }:=x;show h'.get? a=some { cls:=.none,data:=.fields ps };exact k a _ (.inl rfl) e
 |met f y =>
   have e:h.get? a=some (W.methodObj (.ref f) (.ref y)):=x;show h'.get? a=some (W.methodObj (.ref f) (.ref y));exact k a _ (.inl rfl) e
 |ext φ=>obtain⟨p,⟨o,e⟩,st⟩:=x;exact⟨st _ _ p fun o q=>k _ _ (.inl rfl) q,⟨o,k _ _ (.inl rfl) e⟩,st⟩
def HOk.lt (x:HOk P w H h)(e:H a=some o):a<h.objs.size:=(x a o e).lt
def HOk.fresh (x:HOk P w H h)(e:h.objs.size<=a):H a=none:=by
 cases q:H a with
 |none=>rfl
 |some u=>exact Xl (Xt (x.lt q) e) (Yh _)
def HOk.kept (x:HOk P w H h)(k:∀b u,h.get? b=some u->h'.get? b=some u):HOk P w H h':=fun a o e =>
 (x a o e).stay (fun b u _ q=>k b u q) (fun _ q=>q) fun _ _ q=>q
def HOk.laid (x:HOk P w H h)(k:∀b u,h.get? b=some u->h'.get? b=some u)(hp:h.objs.size<=a)(new:Z7 P w (upd H a o) h' a o):HOk P w (upd H a o) h':=fun b u e=>by
 have hn:=x.fresh hp
 by_cases hb:b=a
 ·subst hb;rw[QD]at e;cases e;exact new
 ·rw[Qu hb]at e
  exact(x b u e).stay (fun c v _ q=>k c v q) (fun c q=>by rw[Qu (Zo q hn)];exact q) fun c xs q=>by rw[Qu (Zo q hn)];exact q
end
def Rd (H:Hp)(a:Addr)(u:HO):Prop:=H a=some u\/∃o,H a=some (.frz o u)
def Rd.of {H:Hp}{a:Addr}{u:HO}(h:H a=some u):Rd H a u:=.inl h
def Rd.ok {P:Program}{w:World}{H:Hp}{h:Heap}{a:Addr}{u:HO}(r:Rd H a u)(x:HOk P w H h):Z7 P w H h a u:=by
 rcases r with r|⟨o,r⟩
 ·exact x a u r
 ·obtain⟨_,q⟩:=x a _ r
  exact q
def Mut:Option HO->Prop
 |some (.lst _)=>True
 |some (.dK _)=>True
 |some (.dT _)=>True
 |some (.set _ _)=>True
 |some (.ins _ _ _)=>True
 |some (.ext _)=>True
 |_=>False
section
variable {P:Program}{w:World}{H:Hp}{h h':Heap}{x e:Addr}{o':HO}
def HOk.write (ok:HOk P w H h)(mu:Mut (H x))(he:e=x\/H e=some (.own x))(k:∀b u,b≠e->h.get? b=some u->h'.get? b=some u)(heo:∃u,h'.get? e=some u)
 (new:Z7 P w (upd H x o') h' x o'):HOk P w (upd H x o') h':=fun b u q=>by
 have nown:∀c y,H c=some (.own y)->c≠x:=fun c y r z=>by subst z;rw[r]at mu;exact mu
 have ntup:∀c xs,H c=some (.tup xs)->c≠x:=fun c xs r z=>by subst z;rw[r]at mu;exact mu
 by_cases hb:b=x
 ·subst hb;rw[QD]at q;cases q;exact new
 ·rw[Qu hb]at q
  by_cases hbe:b=e
  ·have q':H b=some (.own x):=by
    rcases he with z|z
    ·exact Xl (hbe.trans z) hb
    ·rw[hbe];exact z
   rw[q]at q';cases q';obtain⟨v,hv⟩:=heo
   exact⟨v,by rw[hbe];exact hv⟩
  ·refine(ok b u q).stay (fun c v hc r=>k c v ?_ r) (fun c r=>by rw[Qu (nown c b r)];exact r) fun c xs r=>by rw[Qu (ntup c xs r)];exact r
   rcases hc with rfl|hc
   ·exact hbe
   ·rintro rfl
    rcases he with z|z
    ·exact nown c b hc z
    ·rw[hc]at z;cases z;exact hb rfl
end
structure Un (fs ex:Qg)(H H':Hp)(h h':Heap):Prop where
 keep:∀b o,h.get? b=some o->H b=none->b∉fs->b∉ex->h'.get? b=some o
 slot:∀b o,h.get? b=some o->H b=none->b∈fs->b∉ex->∃sl,h'.get? b=some { o with slots:=sl }
 free:∀b o,h.get? b=some o->H b=none->b∉ex->H' b=none
 there:∀b o,h.get? b=some o->b∉ex->∃o',h'.get? b=some o'
 tups:∀b xs,H b=some (.tup xs)->H' b=some (.tup xs)
 frzs:∀b o u,H b=some (.frz o u)->H' b=some (.frz o u)
 tupo:∀b xs o,H b=some (.tup xs)->h.get? b=some o->b∉ex->h'.get? b=some o
 tbls:∀b ps,H b=some (.tbl ps)->∃more,H' b=some (.tbl (ps++more))
section
variable {fs fs' ex ex':Qg}{H H1 H2:Hp}{h h1 h2 h':Heap}{a x e:Addr}{o:HO}
def Un.any (u:Un fs ex H H1 h h1){b:Addr}{ob:Obj}(q:h.get? b=some ob)(n:H b=none)(hx:b∉ex):∃sl,h1.get? b=some { ob with slots:=sl }:=by
 by_cases hb:b∈fs
 ·exact u.slot b ob q n hb hx
 ·exact⟨ob.slots,u.keep b ob q n hb hx⟩
def Un.kept (k:∀b u,h.get? b=some u->h'.get? b=some u):Un fs ex H H h h' :=
 ⟨fun b ob q _ _ _=>k b ob q,fun b ob q _ _ _=>⟨ob.slots,k b ob q⟩,fun _ _ _ n _=>n,fun b ob q _=>⟨ob,k b ob q⟩,fun _ _ q=>q,fun _ _ _ q=>q,fun b _ ob _ e _=>k b ob e,fun _ ps q=>⟨#[],by rw[q];simp⟩⟩
def Un.refl:Un fs ex H H h h:=Un.kept fun _ _ q=>q
theorem Un.laid (k:∀b u,h.get? b=some u->h'.get? b=some u)(hp:h.objs.size<=a)(hn:H a=none):Un fs ex H (upd H a o) h h' where
 keep:=fun b u q _ _ _=>k b u q
 slot:=fun b u q _ _ _=>⟨u.slots,k b u q⟩
 free:=fun b u q n _=>by rw[Qu (Xp (Xt (Xj q) hp))];exact n
 there:=fun b u q _=>⟨u,k b u q⟩
 tups:=fun b xs q=>by rw[Qu (Zo q hn)];exact q
 frzs:=fun b u xs q=>by rw[Qu (Zo q hn)];exact q
 tupo:=fun b _ ob _ e _=>k b ob e
 tbls:=fun b ps q=>⟨#[],by rw[Qu (Zo q hn),q];simp⟩
def Un.write (mu:Mut (H x))(he:e=x\/H e=some (.own x))(k:∀b u,b≠e->h.get? b=some u->h'.get? b=some u)(heo:∃u,h'.get? e=some u):Un fs ex H (upd H x o) h h':=by
 have hx:∀b,H b=none->b≠x:=fun b n z=>by subst z;rw[n]at mu;exact mu
 have hb:∀b,H b=none->b≠e:=fun b n z=>by
  subst z;rcases he with r|r
  ·exact hx b n r
  ·rw[n]at r;cases r
 have hm:∀b u,H b=some u->¬Mut (some u)->b≠x:=fun b u q nm z=>by subst z;rw[q]at mu;exact nm mu
 refine⟨fun b u q n _ _=>k b u (hb b n) q,fun b u q n _ _=>⟨u.slots,k b u (hb b n) q⟩,fun b u q n _=>by rw[Qu (hx b n)];exact n,fun b u q _=>?_,
  fun b xs q=>by rw[Qu (hm b _ q fun z=>z)];exact q,fun b u xs q=>by rw[Qu (hm b _ q fun z=>z)];exact q,fun b xs u q e' _=>k b u (fun z=>by
   rcases he with r|r
   ·exact hm b _ q (fun y=>y) (z.trans r)
   ·rw[<- z,q]at r;cases r) e',fun b ps q=>⟨#[],by rw[Qu (hm b _ q fun z=>z),q];simp⟩⟩
 by_cases hbe:b=e
 ·subst hbe;exact heo
 ·exact⟨u,k b u hbe q⟩
end
def trk (h:Heap)(H:Hp):Qg:=(List.range h.objs.size).filter fun a=>(H a).isSome
def W6 (h:Heap)(H:Hp):Heap:=W.hideAll h (trk h H)
def AG (h:Heap)(H:Hp):(W6 h H).objs.size=h.objs.size:=W.hideAll_size _ _
def FI {h:Heap}{H:Hp}{b:Addr}{o:Obj}(e:h.get? b=some o)(n:H b=none):(W6 h H).get? b=some o :=
 W.hideAll_get _ e fun hm=>by
  have q:(H b).isSome=true:=(Ud.mp hm).2;rw[n]at q;simp at q
def F9 {h:Heap}{H:Hp}{b:Addr}{o:Obj}(e:(W6 h H).get? b=some o):h.get? b=some o/\H b=none:=by
 have e':h.get? b=some o:=W.of_hideAll (trk h H) e;refine⟨e',?_⟩
 cases q:H b with
 |none=>rfl
 |some x =>
   have hm:b∈trk h H:=Ud.mpr ⟨XF.mpr (Xj e'),by simp[q]⟩;have z:(W6 h H).get? b=none:=W.hideAll_none (trk h H) hm;rw[z]at e;cases e
structure Mod (K:W.Frag)(mg:Str->Qf)(base:Heap):Prop where
 kin:K.In base
 glob:base.Ns mainGlobals mg
 blt:∃mb,base.Ns builtinsNs mb/\∀x:Str,x ≠ "__name__" -> mb x=bootBuiltins x
 nolimit:base.NoLimit
structure Cx where
 prog:Program
 w:World
 K:W.Frag
 mg:Str->Qf
 base:Heap
 A:Around
 N:Qh
 s₀:Shared
 H₀:Hp
 env:Env
 outer:List Env
 stack:List Env
 ex:Qg
 fn:Str->Bool
 calm:Bool
 pn:Qc
 xe:Qb
def frs (l:List Env):Qg:=l.filterMap (·.frame)
abbrev Cx.fs (X:Cx):Qg:=frs X.outer
def Vis (sc:Scope)(x:Str):Prop:=sc.names.lookup x=some .local\/sc.names.lookup x=some .cell\/sc.names.lookup x=some .free
def Loc (sc:Scope)(x:Str):Prop:=sc.names.lookup x=some .local\/sc.names.lookup x=some .cell
def PY (env:Env)(h:Heap)(m:Str->Qf)(x:Str)(u:Value):Prop :=
 (env.kindOf x=some .local/\m x=some u)\/((env.kindOf x=some .cell\/env.kindOf x=some .free)/\∃c,env.cells.lookup x=some c/\h.IsCell c (some u))
structure Cx.Ok (X:Cx):Prop where
 mod:Mod X.K X.mg X.base
 kind:X.env.scope.kind=.function
 glob:X.env.globals=mainGlobals
 blt:X.env.builtins=builtinsNs
 above:X.s₀.heap.objs.size<=X.env.locals
 inj:∀x y c,X.env.cells.lookup x=some c->X.env.cells.lookup y=some c->x=y
 has:∀x,(X.env.kindOf x=some .cell\/X.env.kindOf x=some .free)->∃c,X.env.cells.lookup x=some c
 cab:∀x c,X.fn x=true->X.env.cells.lookup x=some c->X.s₀.heap.objs.size<=c
 hd:X.calm=true->X.A.handled=none
 frames:X.A.frames=some X.stack
 stk:X.stack=X.outer\/(X.stack=X.env::X.outer/\X.env.frame=some X.env.locals)
 exf:∀b∈X.ex,b≠X.env.locals/\∀x c,X.env.cells.lookup x=some c->c≠b
 bs:∀b o,X.base.get? b=some o->X.s₀.heap.get? b=some o/\(X.H₀ b=none\/∃xs,X.H₀ b=some (.tup xs))
 bsz:X.base.objs.size<=X.s₀.heap.objs.size
 noex:∀b o,X.base.get? b=some o->b∉X.ex
 exfs:∀b∈X.ex,b∉X.fs
 funs:X.s₀.heap.FunFrames X.base X.outer
 frf:∀b∈X.fs,X.H₀ b=none
structure Qr (X:Cx)(Xa1:Qc)(σ:List (Option V))(H:Hp)(s:Shared):Prop where
 ok:X.Ok
 os:s.os=X.s₀.os
 bare:AllBare s.gens
 base:Un X.fs X.ex X.H₀ H X.s₀.heap s.heap
 loc:∃m,s.heap.Ns X.env.locals m/\∀(i:Nat) (x:Str) (v:V),X.N[i]?=some x->σ[i]?=some (some v)->Vis X.env.scope x->∃u,QL v u/\PY X.env s.heap m x u
 cell:∀x c,X.env.cells.lookup x=some c->∃v,s.heap.IsCell c v
 free:H X.env.locals=none
 freeC:∀x c,X.env.cells.lookup x=some c->H c=none
 pin:∀p∈X.pn++Xa1,s.heap.get? p.1=some p.2/\H p.1=none/\p.1≠X.env.locals/\p.1∉X.fs/\∀v,p.2.data≠.cell v
 hok:HOk X.prog X.w H s.heap
 len:σ.length=X.N.length
section
variable {X:Cx}{Xa1:Qc}{σ:List (Option V)}{H H':Hp}{s:Shared}{h':Heap}
def Cx.Ok.nofr (ok:X.Ok){b:Addr}{o:Obj}(e:X.base.get? b=some o):b∉X.fs:=fun hb=>by
 have:=(ok.funs.mem hb).1
 rw[e]at this;cases this
def Qr.bs (I:Qr X Xa1 σ H s):∀b o,X.base.get? b=some o->s.heap.get? b=some o/\(H b=none\/∃xs,H b=some (.tup xs)):=fun b o e=>by
 obtain⟨e1,e2⟩:=I.ok.bs b o e
 rcases e2 with e2|⟨xs,e2⟩
 ·exact⟨I.base.keep b o e1 e2 (I.ok.nofr e) (I.ok.noex b o e),.inl (I.base.free b o e1 e2 (I.ok.noex b o e))⟩
 ·exact⟨I.base.tupo b xs o e2 e1 (I.ok.noex b o e),.inr ⟨xs,I.base.tups b xs e2⟩⟩
def Qr.bk (I:Qr X Xa1 σ H s):∀b o,X.base.get? b=some o->s.heap.get? b=some o:=fun b o e=>(I.bs b o e).1
def Qr.mod (I:Qr X Xa1 σ H s):Mod X.K X.mg X.base:=I.ok.mod
def Qr.kIn (I:Qr X Xa1 σ H s):X.K.In s.heap:=I.ok.mod.kin.keeps I.bk
def Qr.lt (I:Qr X Xa1 σ H s):X.env.locals<s.heap.objs.size:=let ⟨_,hn,_⟩:=I.loc;hn.lt
def Qr.sz (I:Qr X Xa1 σ H s):X.s₀.heap.objs.size<=s.heap.objs.size:=VM I.ok.above (Y1 I.lt)
def Qr.nofs (I:Qr X Xa1 σ H s){a:Addr}(h:s.heap.objs.size<=a):a∉X.fs:=fun hb=>by
 obtain⟨_,o,ho,_⟩:=I.ok.funs.mem hb;exact Xl (Xt (Xj ho) (VM I.sz h)) (Yh _)
def Qr.cne (I:Qr X Xa1 σ H s):∀x c,X.env.cells.lookup x=some c->c≠X.env.locals:=fun x c e z=>by
 obtain⟨v,o,ho,hd⟩:=I.cell x c e;obtain⟨m,⟨o',es,ep,ho',hd',_⟩,_⟩:=I.loc;rw[z,ho']at ho;cases ho;rw[hd']at hd;cases hd
def Qr.funs (I:Qr X Xa1 σ H s):s.heap.FunFrames X.base X.outer:=by
 have all:∀(l:List Env),(∀b∈frs l,b∈X.fs)->X.s₀.heap.FunFrames X.base l->s.heap.FunFrames X.base l:=by
  intro l;induction l with
  |nil=>intro _ _;trivial
  |cons env r ih =>
    intro hs hl;obtain⟨hk,⟨L,o,hf,hn,ho,hd⟩,hr⟩:=hl;have hL:L∈X.fs:=hs L (by unfold frs;rw[Mu,hf];exact Xc);obtain⟨sl,e⟩:=I.base.slot L o ho (I.ok.frf L hL) hL fun z=>I.ok.exfs L z hL
    exact⟨hk,⟨L,_,hf,hn,e,hd⟩,ih (fun b hb=>hs b (by unfold frs;rw[Mu,hf];exact Xe _ hb)) hr⟩
 exact all X.outer (fun _ hb=>hb) I.ok.funs
def Qr.stack (I:Qr X Xa1 σ H s):s.heap.FunFrames X.base X.stack:=by
 rcases I.ok.stk with e|⟨e,hf⟩
 ·rw[e];exact I.funs
 ·rw[e]
  obtain⟨m,hn,_⟩:=I.loc;refine .cons (by rw[I.ok.kind];decide) hf hn ?_ I.funs;exact Heap.get?_none_of_le (VM I.ok.bsz I.ok.above)
def Qr.stkSub (I:Qr X Xa1 σ H s):∀b∈frs X.stack,b∈X.env.locals::X.fs:=fun b hb=>by
 rcases I.ok.stk with e|⟨e,hf⟩
 ·rw[e]at hb;exact Xe _ hb
 ·rw[e]at hb
  unfold frs at hb;rw[Mu,hf]at hb;exact hb
def Qr.stkFree (I:Qr X Xa1 σ H s):∀b∈frs X.stack,H b=none:=fun b hb=>by
 rcases Xg.mp (I.stkSub b hb) with e|hb
 ·rw[e];exact I.free
 ·obtain⟨_,o,ho,_⟩:=I.ok.funs.mem hb
  exact I.base.free b o ho (I.ok.frf b hb) fun z=>I.ok.exfs b z hb
def Qr.step {g':Array GenState}{t':Nat}{d':Drawn}{ch:Qg}(I:Qr X Xa1 σ H s)
 (hch:∀b∈ch,(b∈X.ex\/X.s₀.heap.objs.size<=b)/\b≠X.env.locals/\(∀x c,X.env.cells.lookup x=some c->c≠b)/\∀p∈X.pn++Xa1,p.1≠b)
 (keep:∀b o,b≠X.env.locals->b∉X.fs->b∉ch->s.heap.get? b=some o->H b=none->h'.get? b=some o)
 (slot:∀b o,b≠X.env.locals->b∈X.fs->b∉ch->s.heap.get? b=some o->H b=none->∃sl,h'.get? b=some { o with slots:=sl }) (free:∀b o,b∉ch->s.heap.get? b=some o->H b=none->H' b=none)
 (there:∀b o,b∉ch->s.heap.get? b=some o->∃o',h'.get? b=some o')
 (tups:∀b xs,H b=some (.tup xs)->H' b=some (.tup xs)) (frzs:∀b o u,H b=some (.frz o u)->H' b=some (.frz o u)) (tbls:∀b ps,H b=some (.tbl ps)->∃more,H' b=some (.tbl (ps++more)))
 (ns:∀m,s.heap.Ns X.env.locals m->h'.Ns X.env.locals m) (hok:HOk X.prog X.w H' h') (hg:AllBare g') (tupo:∀b xs o,b∉ch->H b=some (.tup xs)->s.heap.get? b=some o->h'.get? b=some o) :
 Qr X Xa1 σ H' { s with heap:=h',gens:=g',drawn:=d',toks:=t' }:=by
 have neL:∀b o,X.s₀.heap.get? b=some o->b≠X.env.locals:=fun b o e=>Xp (Xt (Xj e) I.ok.above)
 have neC:∀b o,X.s₀.heap.get? b=some o->b∉X.ex->b∉ch:=fun b o e hx hb=>by
  rcases(hch b hb).1 with z|z
  ·exact hx z
  ·exact Xl (Xt (Xj e) z) (Yh _)
 have cellK:∀x c,X.env.cells.lookup x=some c->∀v,s.heap.IsCell c v->h'.IsCell c v:=fun x c e v ⟨o,ho,hd⟩=>by
  have nch:c∉ch:=fun z=>(hch c z).2.2.1 x c e rfl
  by_cases hc:c∈X.fs
  ·obtain⟨sl,q⟩:=slot c o (I.cne x c e) hc nch ho (I.freeC x c e)
   exact⟨_,q,hd⟩
  ·exact⟨o,keep c o (I.cne x c e) hc nch ho (I.freeC x c e),hd⟩
 refine⟨I.ok,I.os,hg,⟨fun b o e n hb hx=>?_,fun b o e n hb hx=>?_,fun b o e n hx=>?_,fun b o e hx=>?_,fun b xs e=>tups b xs (I.base.tups b xs e),fun b o xs e=>frzs b o xs (I.base.frzs b o xs e),fun b xs o q e hx=>tupo b xs o (neC b o e hx) (I.base.tups b xs q) (I.base.tupo b xs o q e hx),fun b ps e=>?_⟩,?_,fun x c e=>?_,?_,fun x c e=>?_,fun p hp=>?_,hok,I.len⟩
 ·exact keep b o (neL b o e) hb (neC b o e hx) (I.base.keep b o e n hb hx) (I.base.free b o e n hx)
 ·obtain⟨sl,e1⟩:=I.base.slot b o e n hb hx
  obtain⟨sl',e2⟩:=slot b _ (neL b o e) hb (neC b o e hx) e1 (I.base.free b o e n hx)
  exact⟨sl',e2⟩
 ·obtain⟨o',e1⟩:=I.base.there b o e hx
  exact free b o' (neC b o e hx) e1 (I.base.free b o e n hx)
 ·obtain⟨o',e1⟩:=I.base.there b o e hx
  exact there b o' (neC b o e hx) e1
 ·obtain⟨m1,e1⟩:=I.base.tbls b ps e
  obtain⟨m2,e2⟩:=tbls b _ e1
  exact⟨m1++m2,by rw[e2,Array.append_assoc]⟩
 ·obtain⟨m,hn,hl⟩:=I.loc
  refine⟨m,ns m hn,fun i x v e1 e2 e3=>?_⟩;obtain⟨u,r,l⟩:=hl i x v e1 e2 e3;refine⟨u,r,?_⟩
  rcases l with l|⟨k,c,e,z⟩
  ·exact .inl l
  ·exact .inr ⟨k,c,e,cellK x c e _ z⟩
 ·obtain⟨v,z⟩:=I.cell x c e
  exact⟨v,cellK x c e v z⟩
 ·obtain⟨m,⟨o,_,_,ho,_⟩,_⟩:=I.loc
  exact free _ o (fun z=>(hch _ z).2.1 rfl) ho I.free
 ·obtain⟨v,o,ho,hd⟩:=I.cell x c e
  exact free c o (fun z=>(hch c z).2.2.1 x c e rfl) ho (I.freeC x c e)
 ·obtain⟨e,n,ne,nf,d⟩:=I.pin p hp
  have nch:p.1∉ch:=fun z=>(hch p.1 z).2.2.2 p hp rfl
  exact⟨keep p.1 p.2 ne nf nch e n,free p.1 p.2 nch e n,ne,nf,d⟩
def Qr.un {t':Nat}(I:Qr X Xa1 σ H s)(u:Un X.fs [] H H' s.heap h')(hok:HOk X.prog X.w H' h'):Qr X Xa1 σ H' { s with heap:=h',toks:=t' }:=by
 obtain⟨m,⟨o,es,ep,ho,r⟩,_⟩:=id I.loc;obtain⟨sl,hL⟩:=u.any ho I.free (by simp)
 exact I.step (g':=s.gens) (d':=s.drawn) (ch:=[]) (fun _ z=>nomatch z) (fun b o _ hb _ e n=>u.keep b o e n hb (by simp)) (fun b o _ hb _ e n=>u.slot b o e n hb (by simp)) (fun b o _ e n=>u.free b o e n (by simp)) (fun b o _ e=>u.there b o e (by simp)) u.tups u.frzs u.tbls (fun m' hm=>by
  obtain⟨o',es',ep',ho',r'⟩:=hm;rw[ho]at ho';cases ho';exact⟨_,es',ep',hL,r'⟩) hok I.bare (fun b xs o _ q e=>u.tupo b xs o q e (by simp))
def Qr.call {g':Array GenState}{t':Nat}{d':Drawn}{ch:Qg}(I:Qr X Xa1 σ H s)(u:Un (frs X.stack) ch H H' s.heap h')(hok:HOk X.prog X.w H' h')(hg:AllBare g')
 (hch:∀b∈ch,(b∈X.ex\/X.s₀.heap.objs.size<=b)/\b≠X.env.locals/\(∀x c,X.env.cells.lookup x=some c->c≠b)/\∀p∈X.pn++Xa1,p.1≠b) :
 Qr X Xa1 σ H' { s with heap:=h',gens:=g',drawn:=d',toks:=t' }:=by
 obtain⟨m,⟨o,es,ep,ho,r⟩,_⟩:=id I.loc;obtain⟨sl,hL⟩:=u.any ho I.free fun z=>(hch _ z).2.1 rfl
 exact I.step (ch:=ch) hch (fun b o hL hb hc e n=>u.keep b o e n (fun z=>(Xg.mp (I.stkSub b z)).elim hL hb) hc) (fun b o _ _ hc e n=>u.any e n hc) (fun b o hc e n=>u.free b o e n hc) (fun b o hc e=>u.there b o e hc) u.tups u.frzs u.tbls (fun m' hm=>by
  obtain⟨o',es',ep',ho',r'⟩:=hm;rw[ho]at ho';cases ho';exact⟨_,es',ep',hL,r'⟩) hok hg (fun b xs o hc q e=>u.tupo b xs o q e hc)
def Qr.turned {t':Nat}{it:Addr}(I:Qr X Xa1 σ H s)(k:∀b o,b≠it->s.heap.get? b=some o->h'.get? b=some o)(hn:H it=none)(hL:it≠X.env.locals)
 (h1:it∈X.ex\/X.s₀.heap.objs.size<=it) (h2:∀x c,X.env.cells.lookup x=some c->c≠it) (h3:∀p∈X.pn++Xa1,p.1≠it):Qr X Xa1 σ H { s with heap:=h',toks:=t' }:=by
 have nit:∀b u,H b=some u->b≠it:=fun b u e z=>by rw[z,hn]at e;cases e
 refine I.step (g':=s.gens) (d':=s.drawn) (ch:=[it]) (fun b hb=>?_) (fun b o _ _ hc e _=>k b o (fun z=>hc (by simp[z])) e) (fun b o _ _ hc e _=>⟨o.slots,k b o (fun z=>hc (by simp[z])) e⟩) (fun _ _ _ _ n=>n)
  (fun b o hc e=>⟨o,k b o (fun z=>hc (by simp[z])) e⟩) (fun _ _ e=>e) (fun _ _ _ e=>e) (fun b ps e=>⟨#[],by rw[e];simp⟩) (fun m hm=>?_) (fun b u e=>?_) I.bare (fun b _ o hc _ e=>k b o (fun z=>hc (by simp[z])) e)
 ·have e:b=it:=by simpa using hb
  subst e;exact⟨h1,hL,h2,h3⟩
 ·obtain⟨o,es,ep,ho,r⟩:=hm
  exact⟨o,es,ep,k _ o (Ne.symm hL) ho,r⟩
 ·refine(I.hok b u e).stay (fun c v hc q=>k c v ?_ q) (fun _ q=>q) fun _ _ q=>q
  rcases hc with z|z
  ·rw[z];exact nit b u e
  ·exact nit c _ z
def Qr.tok (I:Qr X Xa1 σ H s)(t:Nat):Qr X Xa1 σ H { s with toks:=t }:=I.un (h':=s.heap) (t':=t) Un.refl I.hok
def Qr.kept {t':Nat}(I:Qr X Xa1 σ H s)(k:∀b u,s.heap.get? b=some u->h'.get? b=some u):Qr X Xa1 σ H { s with heap:=h',toks:=t' }:=I.un (Un.kept k) (I.hok.kept k)
def Qr.laid {a:Addr}{o:HO}{t':Nat}(I:Qr X Xa1 σ H s)(k:∀b u,s.heap.get? b=some u->h'.get? b=some u)(hp:s.heap.objs.size<=a)(new:Z7 X.prog X.w (upd H a o) h' a o) :
 Qr X Xa1 σ (upd H a o) { s with heap:=h',toks:=t' }:=I.un (Un.laid k hp (I.hok.fresh hp)) (I.hok.laid k hp new)
def Qr.write {x e:Addr}{o:HO}{t':Nat}(I:Qr X Xa1 σ H s)(mu:Mut (H x))(he:e=x\/H e=some (.own x))(k:∀b u,b≠e->s.heap.get? b=some u->h'.get? b=some u)(heo:∃u,h'.get? e=some u)
 (new:Z7 X.prog X.w (upd H x o) h' x o):Qr X Xa1 σ (upd H x o) { s with heap:=h',toks:=t' }:=I.un (Un.write mu he k heo) (I.hok.write mu he k heo new)
def Qr.weak {σ':List (Option V)}(I:Qr X Xa1 σ H s)(hl:σ'.length=σ.length)(w:∀(i:Nat) v,σ'[i]?=some (some v)->σ[i]?=some (some v)):Qr X Xa1 σ' H s :=
 ⟨I.ok,I.os,I.bare,I.base,let ⟨m,hn,hl'⟩:=I.loc;⟨m,hn,fun i x v e1 e2 e3=>hl' i x v e1 (w i v e2) e3⟩,I.cell,I.free,I.freeC,I.pin,I.hok,hl.trans I.len⟩
def Qr.pins_of {pins':Qc}(I:Qr X Xa1 σ H s)(h:∀p∈pins',s.heap.get? p.1=some p.2/\H p.1=none/\p.1≠X.env.locals/\p.1∉X.fs/\∀v,p.2.data≠.cell v):Qr X pins' σ H s :=
 ⟨I.ok,I.os,I.bare,I.base,I.loc,I.cell,I.free,I.freeC,fun p hp=>(XG.mp hp).elim (fun z=>I.pin p (Ui _ z)) (h p),I.hok,I.len⟩
def DY {N:Qh}(hN:N.Nodup){i j:Nat}{x:Str}(a:N[i]?=some x)(b:N[j]?=some x):i=j:=by
 obtain⟨h1,e1⟩:=Xh.mp a;obtain⟨h2,e2⟩:=Xh.mp b
 exact(List.getElem_inj hN).mp (e1.trans e2.symm)
def Hv {M:Model}{A:Around}{E:Qb}{i:Nat}{x:Str}{v:V}{u:Value}{Q:Unit->Shared->Prop}(I:Qr X Xa1 σ H s)(hN:X.N.Nodup)(hi:X.N[i]?=some x)(hx:Loc X.env.scope x)(r:QL v u)
 (h:∀s',Qr X Xa1 (σ.set i (some v)) H s'->(∃a,Heap.SameBut a s.heap s'.heap/\(a=X.env.locals\/X.env.cells.lookup x=some a))->Q () s') (hf:X.fn x=true\/X.env.scope.names.lookup x=some .local:=by first|exact .inl rfl|exact .inr rfl|assumption):wpAny M A (storeName X.env x u) Q E s:=by
 obtain⟨m,hn,hl⟩:=id I.loc;have hcls:(X.env.scope.kind==.class||(X.env.scope.kind==.module&&X.env.locals != X.env.globals))=false:=by rw[I.ok.kind];rfl
 have hiσ:i<σ.length:=by rw[I.len];exact(Xh.mp hi).1
 have cne:=I.cne
 have tracked:∀{a:Addr} {h':Heap},(∃o,s.heap.get? a=some o/\H a=none)->Heap.SameBut a s.heap h'->HOk X.prog X.w H h':=fun{a h'} ha hs b ob e=>by
  obtain⟨_,_,hfree⟩:=ha;refine(I.hok b ob e).stay (fun c w' hc q=>(hs.2 c ?_).trans q) (fun _ q=>q) fun _ _ q=>q
  rintro rfl
  rcases hc with rfl|hc
  ·rw[hfree]at e;cases e
  ·rw[hfree]at hc;cases hc
 rcases hx with hk|hk
 ·refine wpAny_storeName_local hk hn (fun h' hn' hs=>?_) hcls
  obtain⟨oL,_,_,hoL,_⟩:=id hn;refine h _ ⟨I.ok,I.os,I.bare,⟨fun b o e n hb hx=>?_,fun b o e n hb hx=>?_,I.base.free,fun b o e hx=>?_,I.base.tups,I.base.frzs,fun b xs o q e hx=>(hs.2 b (Xp (Xt (Xj e) I.ok.above))).trans (I.base.tupo b xs o q e hx),I.base.tbls⟩,⟨_,hn',fun j y v' e1 e2 e3=>?_⟩,fun y c e=>?_,I.free,I.freeC,fun p hp=>?_,tracked ⟨oL,hoL,I.free⟩ hs,by simpa using I.len⟩ ⟨_,hs,.inl rfl⟩
  ·exact(hs.2 b (Xp (Xt (Xj e) I.ok.above))).trans (I.base.keep b o e n hb hx)
  ·obtain⟨sl,e1⟩:=I.base.slot b o e n hb hx
   exact⟨sl,(hs.2 b (Xp (Xt (Xj e) I.ok.above))).trans e1⟩
  ·obtain⟨o',e1⟩:=I.base.there b o e hx
   exact⟨o',(hs.2 b (Xp (Xt (Xj e) I.ok.above))).trans e1⟩
  ·by_cases hj:j=i
   ·subst hj
    rw[hi]at e1;cases e1;rw[Xo hiσ]at e2;cases e2
    exact⟨u,r,.inl ⟨hk,by simp⟩⟩
   ·rw[Xx (Ne.symm hj)]at e2
    obtain⟨u',r',q⟩:=hl j y v' e1 e2 e3;refine⟨u',r',?_⟩
    rcases q with ⟨k,e⟩|⟨k,c,e,z⟩
    ·refine .inl ⟨k,?_⟩
     have:y≠x:=fun e=>hj (DY hN e1 (e▸hi))
     simp[this,e]
    ·exact .inr ⟨k,c,e,z.sameBut hs (cne y c e)⟩
  ·obtain⟨w',z⟩:=I.cell y c e
   exact⟨w',z.sameBut hs (cne y c e)⟩
  ·obtain⟨e,n,ne,nf,d⟩:=I.pin p hp
   exact⟨(hs.2 p.1 ne).trans e,n,ne,nf,d⟩
 ·have hfn:X.fn x=true:=by
   rcases hf with z|z
   ·exact z
   ·rw[z]at hk;cases hk
  obtain⟨c,hc⟩:=I.ok.has x (.inl hk);obtain⟨w',z⟩:=I.cell x c hc;refine wpAny_storeName_cell I.ok.kind hk hc z (fun h' hc' hs=>?_);obtain⟨oc,hoc,hocd⟩:=id z;refine h { s with heap:=h' } ⟨I.ok,I.os,I.bare,⟨fun b o e n hb hx=>?_,fun b o e n hb hx=>?_,I.base.free,fun b o e hx=>?_,I.base.tups,I.base.frzs,fun b xs o q e hx=>(hs.2 b (Xp (Xt (Xj e) (I.ok.cab x c hfn hc)))).trans (I.base.tupo b xs o q e hx),I.base.tbls⟩,⟨m,hn.sameBut hs (Ne.symm (cne x c hc)),fun j y v' e1 e2 e3=>?_⟩,fun y c' e=>?_,I.free,I.freeC,fun p hp=>?_,tracked ⟨oc,hoc,I.freeC x c hc⟩ hs,by simpa using I.len⟩ ⟨c,hs,.inr hc⟩
  ·exact(hs.2 b (Xp (Xt (Xj e) (I.ok.cab x c hfn hc)))).trans (I.base.keep b o e n hb hx)
  ·obtain⟨sl,e1⟩:=I.base.slot b o e n hb hx
   exact⟨sl,(hs.2 b (Xp (Xt (Xj e) (I.ok.cab x c hfn hc)))).trans e1⟩
  ·obtain⟨o',e1⟩:=I.base.there b o e hx
   exact⟨o',(hs.2 b (Xp (Xt (Xj e) (I.ok.cab x c hfn hc)))).trans e1⟩
  ·by_cases hj:j=i
   ·subst hj
    rw[hi]at e1;cases e1;rw[Xo hiσ]at e2;cases e2
    exact⟨u,r,.inr ⟨.inl hk,c,hc,hc'⟩⟩
   ·rw[Xx (Ne.symm hj)]at e2
    obtain⟨u',r',q⟩:=hl j y v' e1 e2 e3;refine⟨u',r',?_⟩
    rcases q with q|⟨k,c',e,z'⟩
    ·exact .inl q
    ·refine .inr ⟨k,c',e,z'.sameBut hs ?_⟩
     rintro rfl
     exact hj (DY hN e1 (I.ok.inj _ _ _ e hc▸hi))
  ·by_cases hcc:c'=c
   ·subst hcc;exact⟨_,hc'⟩
   ·obtain⟨w2,z2⟩:=I.cell y c' e
    exact⟨w2,z2.sameBut hs hcc⟩
  ·obtain⟨e,n,ne,nf,d⟩:=I.pin p hp
   refine⟨(hs.2 p.1 ?_).trans e,n,ne,nf,d⟩;intro q;rw[q,hoc]at e;have q':oc=p.2:=Option.some.inj e;exact d w' (by rw[<- q'];exact hocd)
def BS {M:Model}{A:Around}{E:Qb}{i:Nat}{x:Str}{v:V}{u:Value}{Q:Unit->Shared->Prop}(I:Qr X Xa1 σ H s)(hN:X.N.Nodup)(hi:X.N[i]?=some x)(hx:Loc X.env.scope x)(r:QL v u)
 (h:∀s',Qr X Xa1 (σ.set i (some v)) H s'->Q () s') (hf:X.fn x=true\/X.env.scope.names.lookup x=some .local:=by first|exact .inl rfl|exact .inr rfl|assumption):wpAny M A (storeName X.env x u) Q E s :=
 Hv I hN hi hx r (fun s' I' _=>h s' I') hf
def Qr.call' {s':Shared}{ch:Qg}(I:Qr X Xa1 σ H s)(ho:s'.os=s.os)(u:Un (frs X.stack) ch H H' s.heap s'.heap)(hok:HOk X.prog X.w H' s'.heap)(hg:AllBare s'.gens)
 (hch:∀b∈ch,(b∈X.ex\/X.s₀.heap.objs.size<=b)/\b≠X.env.locals/\(∀x c,X.env.cells.lookup x=some c->c≠b)/\∀p∈X.pn++Xa1,p.1≠b):Qr X Xa1 σ H' s':=by
 obtain⟨h',g',d',t',o'⟩:=s';have e:o'=s.os:=ho;subst e;exact I.call (g':=g') (t':=t') (d':=d') u hok hg hch
end
abbrev XK:=Value->Qj->Hp->Prop
abbrev St:=List (Option V)
abbrev VK:=V->Hp->Prop
abbrev TE:=St->Hp->VK->Prop
abbrev TT:=St->Hp->(Bool->Hp->Prop)->Prop
abbrev TA:=St->Hp->(List V->Hp->Prop)->Prop
structure Ends where
 nx:St->Hp->Prop
 rt:VK
 bk:St->Hp->Prop:=fun _ _=>False
 ct:St->Hp->Prop:=fun _ _=>False
abbrev TS:=Ends->St->Hp->Prop
def EP (X:Cx)(Xa1:Qc)(σ:St)(Q:VK)(u:Value)(s':Shared):Prop := ∃v H',Qr X Xa1 σ H' s'/\QL v u/\Q v H'
def TP (X:Cx)(Xa1:Qc)(σ:St)(Q:Bool->Hp->Prop)(b:Bool)(s':Shared):Prop := ∃H',Qr X Xa1 σ H' s'/\Q b H'
def AP (X:Cx)(Xa1:Qc)(σ:St)(Q:List V->Hp->Prop)(us:Qe)(s':Shared):Prop := ∃vs H',Qr X Xa1 σ H' s'/\QK vs us/\Q vs H'
def SP (X:Cx)(Xa1:Qc)(D:Ends)(f:Flow)(s':Shared):Prop :=
 match f with
 |.next=>∃σ' H',Qr X Xa1 σ' H' s'/\D.nx σ' H'
 |.brk=>∃σ' H',Qr X Xa1 σ' H' s'/\D.bk σ' H'
 |.cont=>∃σ' H',Qr X Xa1 σ' H' s'/\D.ct σ' H'
 |.ret u=>∃v σ' H',Qr X Xa1 σ' H' s'/\QL v u/\D.rt v H'
def PE (X:Cx)(e:Expr)(t:TE):Prop :=
 ∀(Xa1:Qc) (s:Shared) (σ:St) (H:Hp) (Q:VK),Qr X Xa1 σ H s->t σ H Q->wpAny (model X.prog X.w) X.A (eval e X.env) (EP X Xa1 σ Q) X.xe s
def PT (X:Cx)(e:Expr)(t:TT):Prop :=
 ∀(Xa1:Qc) (s:Shared) (σ:St) (H:Hp) (Q:Bool->Hp->Prop),Qr X Xa1 σ H s->t σ H Q->wpAny (model X.prog X.w) X.A (isTrue e X.env (eval e X.env)) (TP X Xa1 σ Q) X.xe s
def PW (X:Cx)(e:Expr)(t:TT):Prop :=
 ∀(whole:Sem Value) (Xa1:Qc) (s:Shared) (σ:St) (H:Hp) (Q:Bool->Hp->Prop),Qr X Xa1 σ H s->t σ H Q->wpAny (model X.prog X.w) X.A (isTrue e X.env whole) (TP X Xa1 σ Q) X.xe s
def PW.pt {X:Cx}{e:Expr}{t:TT}(h:PW X e t):PT X e t:=h _
def PA (X:Cx)(es:Qi)(t:TA):Prop :=
 ∀(pos:Pos) (Xa1:Qc) (s:Shared) (σ:St) (H:Hp) (Q:List V->Hp->Prop),Qr X Xa1 σ H s->t σ H Q->wpAny (model X.prog X.w) X.A (spliced (backTo pos (starEach es X.env))) (AP X Xa1 σ Q) X.xe s
def PS (X:Cx)(st:Stmt)(t:TS):Prop :=
 ∀(Xa1:Qc) (s:Shared) (σ:St) (H:Hp) (D:Ends),Qr X Xa1 σ H s->t D σ H->wpAny (model X.prog X.w) X.A (exec st X.env) (SP X Xa1 D) X.xe s
def PSs (X:Cx)(st:List Stmt)(t:TS):Prop :=
 ∀(Xa1:Qc) (s:Shared) (σ:St) (H:Hp) (D:Ends),Qr X Xa1 σ H s->t D σ H->wpAny (model X.prog X.w) X.A (execs st X.env) (SP X Xa1 D) X.xe s
def Q6 {α:Type}{t:Sem α}{Q Q':α->Shared->Prop}{M:Model}{A:Around}{E:Qb}{s:Shared}(h:wpAny M A t Q E s)(hQ:∀a s,Q a s->Q' a s):wpAny M A t Q' E s:=wpAny_mono h hQ fun _ _ x=>x
section
variable {X:Cx}
def Q8 (i:Nat):TE:=fun σ H Q=>∃v,σ[i]?=some (some v)/\Q v H
def tC (v:V):TE:=fun _ H Q=>Q v H
def N4 {i:Nat} {x:Str} {pos:Pos} (hN:X.N[i]?=some x) (hv:Vis X.env.scope x) (hd:(x==("__debug__" : Str))=false:=by decide) (hcd:(x==("__classdict__" : Str))=false:=by decide):PE X (.Name x pos) (Q8 i):=by
 intro Xa1 s σ H Q I h;obtain⟨v,e,h⟩:=h;obtain⟨m,hn,hl⟩:=I.loc;obtain⟨u,r,l⟩:=hl i x v hN e hv;have fin:EP X Xa1 σ Q u s:=⟨v,H,I,r,h⟩
 rcases l with ⟨hk,hm⟩|⟨hk,c,hc,hcell⟩
 ·exact wpAny_Name (wpAny_loadName_local I.ok.kind hk hn hm fin) hd
 ·rcases hk with hk|hk
  ·exact wpAny_Name (wpAny_loadName_cell I.ok.kind hk hc hcell fin) hd
  ·exact wpAny_Name (wpAny_loadName_free I.ok.kind hk hc hcell fin hcd) hd
def Qx {i j pos}:PE X (.Constant (.int i) j pos) (tC (.int i)):=fun _ _ _ H _ I h=>wpAny_Constant_int ⟨.int i,H,I.tok _,⟨_,rfl⟩,h⟩
def Y4 {b j pos}:PE X (.Constant (.bool b) j pos) (tC (.bl b)):=fun _ _ _ H _ I h=>Constant_bool ⟨.bl b,H,I,rfl,h⟩
def B8 {j pos}:PE X (.Constant .none j pos) (tC .non):=fun _ _ _ H _ I h=>Constant_none ⟨.non,H,I,rfl,h⟩
def VI {x j pos}:PE X (.Constant (.str x) j pos) (tC (.str x)):=fun _ _ _ H _ I h=>Calls.Constant_str ⟨.str x,H,I.tok _,⟨_,rfl⟩,h⟩
def Gl (X:Cx)(x:Str):Prop:=X.env.kindOf x=some .globalImplicit
def JG {E:Qb}{Xa1:Qc}{s:Shared}{σ:St}{H:Hp}{x:Str}{u:Value}{pos:Pos}{Q:Qb}(I:Qr X Xa1 σ H s)(hg:Gl X x)(hm:X.mg x=some u)(h:Q u s)
 (hd:(x==("__debug__" : Str))=false:=by decide):wpAny (model X.prog X.w) X.A (eval (.Name x pos) X.env) Q E s :=
 Calls.Name_function_global I.ok.kind hg (Calls.loadGlobal_global (by rw[I.ok.glob];exact I.mod.glob.keeps I.bk) hm h) hd
def WV {E:Qb}{Xa1:Qc}{s:Shared}{σ:St}{H:Hp}{x:Str}{u:Value}{pos:Pos}{Q:Qb}(I:Qr X Xa1 σ H s)(hg:Gl X x)(hm:X.mg x=none)(hv:bootBuiltins x=some u)(h:Q u s)
 (hn:x ≠ "__name__" := by decide) (hd:(x==("__debug__" : Str))=false:=by decide):wpAny (model X.prog X.w) X.A (eval (.Name x pos) X.env) Q E s:=by
 obtain⟨mb,h1,h2⟩:=I.mod.blt;exact Calls.Name_function_global I.ok.kind hg (Calls.loadGlobal_builtin (by rw[I.ok.glob];exact I.mod.glob.keeps I.bk) hm (by rw[I.ok.blt];exact h1.keeps I.bk) ((h2 x hn).trans hv) h) hd
def YY {x:Str} {v:V} {u:Value} {pos:Pos} (hg:Gl X x) (hm:X.mg x=some u) (r:QL v u) (hd:(x==("__debug__" : Str))=false:=by decide):PE X (.Name x pos) (tC v) :=
 fun _ _ _ H _ I h=>JG I hg hm ⟨v,H,I,r,h⟩ hd
def G6 {x:Str} {v:V} {u:Value} {pos:Pos} (hg:Gl X x) (hm:X.mg x=none) (hv:bootBuiltins x=some u) (r:QL v u) (hn:x ≠ "__name__" := by decide) (hd:(x==("__debug__" : Str))=false:=by decide):PE X (.Name x pos) (tC v) :=
 fun _ _ _ H _ I h=>WV I hg hm hv ⟨v,H,I,r,h⟩ hn hd
variable {a b:Expr}{ta tb:TE}{pos:Pos}
def PC (X:Cx)(op:CmpOp)(a b:Expr)(t:TE):Prop :=
 ∀(Xa1:Qc) (s:Shared) (σ:St) (H:Hp) (Q:VK),Qr X Xa1 σ H s->t σ H Q ->
  wpAny (model X.prog X.w) X.A (eval a X.env) (fun v b7=>wpAny (model X.prog X.w) X.A (eval b X.env) (fun u b6=>wpAny (model X.prog X.w) X.A (compareOp op v u) (EP X Xa1 σ Q) X.xe b6) X.xe b7) X.xe s
def C3 (b:Expr){op:CmpOp}(h:op≠.In)(h2:op≠.NotIn):behindInMarks op b=false:=by
 have e1:(op==CmpOp.In)=false:=by cases op<;>first|rfl|exact Xl rfl h
 have e2:(op==CmpOp.NotIn)=false:=by cases op<;>first|rfl|exact Xl rfl h2
 cases b<;>simp[behindInMarks,e1,e2]
def KM (ta:TE):TE:=fun σ H Q=>ta σ H fun x H1=>Q (.bl (!decide (x=.non))) H1
def QL.none_iff {x:V}{v:Value}(r:QL x v):(v==Value.none)=decide (x=.non):=by
 cases x with
 |non=>cases r;rfl
 |bl _=>cases r;rfl
 |int _=>obtain⟨t,rfl⟩:=r;rfl
 |str _=>obtain⟨t,rfl⟩:=r;rfl
 |byt _=>obtain⟨t,rfl⟩:=r;rfl
 |flt _=>obtain⟨t,rfl⟩:=r;rfl
 |ref _=>cases r;rfl
 |ty _=>cases r;rfl
def LH {j pos'}(ha:PE X a ta):PC X .IsNot a (.Constant .none j pos') (KM ta):=by
 intro Xa1 s σ H Q I h;refine Q6 (ha Xa1 s σ H _ I h) fun v s1 ⟨x,H1,I1,r1,q1⟩=>?_;exact Constant_none (isnot_none_gen ⟨.bl _,H1,I1,by rw[r1.none_iff];rfl,q1⟩)
def tB (t:TE):TT:=fun σ H Q=>t σ H fun x H1=>∃c,x=.bl c/\Q c H1
def U9 {op:CmpOp}{t:TE}(h:PC X op a b t)(h1:behindInMarks op b=false:=by first|exact C3 _ (by decide) (by decide)|rfl):PT X (.Compare a [op] [b] pos) (tB t):=by
 intro Xa1 s σ H Q I hw;refine wpAny_isTrue_Compare1 (Q6 (h Xa1 s σ H _ I hw) fun v s1 h1=>Q6 h1 fun u s2 h2=>Q6 h2 fun c s3 ⟨x,H1,I1,r1,q1⟩=>?_) h1;obtain⟨d,rfl,q⟩:=q1
 cases r1
 exact wpAny_truthy_bool ⟨H1,I1,q⟩
def VX {e:Expr}{t:TE}(h:PE X e t)(he:∀whole,isTrue e X.env whole=(do let v <- whole;standAt e.pos;holding [v] (truthy v)):=by intro _;rfl):PT X e (tB t):=by
 intro Xa1 s σ H Q I hw;refine isTrue_plain (Q6 (h Xa1 s σ H _ I hw) fun v s1 ⟨x,H1,I1,r1,q1⟩=>?_) (he _);obtain⟨d,rfl,q⟩:=q1
 cases r1
 exact wpAny_truthy_bool ⟨H1,I1,q⟩
variable {tA tB':TT}{rest:Qi}
def KD (t u:TT):TT:=fun σ H Q=>t σ H fun c H1=>if c=true then u σ H1 Q else Q false H1
def tOr (t u:TT):TT:=fun σ H Q=>t σ H fun c H1=>if c=true then Q true H1 else u σ H1 Q
def K7 (t:TT):TT:=fun σ H Q=>t σ H fun c H1=>Q (!c) H1
def G8 (ha:PT X a tA):PW X (.BoolOp .And [a] pos) tA:=by
 intro wh Xa1 s σ H Q I h;refine isTrue_and (Q6 (ha Xa1 s σ H Q I h) fun c s1 e=>?_)
 cases c with
 |true=>exact isTrue_and_nil e
 |false=>exact e
def MY (ha:PT X a tA):PW X (.BoolOp .Or [a] pos) tA:=by
 intro wh Xa1 s σ H Q I h;refine isTrue_or (Q6 (ha Xa1 s σ H Q I h) fun c s1 e=>?_)
 cases c with
 |false=>exact isTrue_or_nil e
 |true=>exact e
def G0 (ha:PT X a tA)(hb:PW X (.BoolOp .And (b::rest) pos) tB'):PW X (.BoolOp .And (a::b::rest) pos) (KD tA tB'):=by
 intro wh Xa1 s σ H Q I h;refine isTrue_and (Q6 (ha Xa1 s σ H _ I h) fun c s1 ⟨H1,I1,q1⟩=>?_)
 cases c with
 |true=>exact hb wh Xa1 s1 σ H1 Q I1 q1
 |false=>exact⟨H1,I1,q1⟩
def MO (ha:PT X a tA)(hb:PW X (.BoolOp .Or (b::rest) pos) tB'):PW X (.BoolOp .Or (a::b::rest) pos) (tOr tA tB'):=by
 intro wh Xa1 s σ H Q I h;refine isTrue_or (Q6 (ha Xa1 s σ H _ I h) fun c s1 ⟨H1,I1,q1⟩=>?_)
 cases c with
 |true=>exact⟨H1,I1,q1⟩
 |false=>exact hb wh Xa1 s1 σ H1 Q I1 q1
def Wo (ha:PT X a tA):PT X (.UnaryOp .Not a pos) (K7 tA):=by
 intro Xa1 s σ H Q I h;exact isTrue_not (ha Xa1 s σ H (fun c H1=>Q (!c) H1) I h)
def Nn (ta tb:TE):TE:=fun σ H Q=>ta σ H fun x H1=>∃c,x=.bl c/\if c=true then tb σ H1 Q else Q (.bl false) H1
def Nt (ta:TE):TE:=fun σ H Q=>ta σ H fun x H1=>∃c,x=.bl c/\Q (.bl (!c)) H1
def B2 {op}{t:TE}(h:PE X a t):PE X (.BoolOp op [a] pos) t:=fun Xa1 s σ H Q I hw=>BoolOp_one (h Xa1 s σ H Q I hw)
def B1 (ha:PE X a ta)(hb:PE X (.BoolOp .And (b::rest) pos) tb):PE X (.BoolOp .And (a::b::rest) pos) (Nn ta tb):=by
 intro Xa1 s σ H Q I h;refine BoolOp_and (Q6 (ha Xa1 s σ H _ I h) fun v s1 ⟨x,H1,I1,r1,q1⟩=>?_);obtain⟨c,rfl,q1⟩:=q1
 cases r1
 refine wpAny_truthy_bool ?_
 cases c with
 |true=>exact hb Xa1 s1 σ H1 Q I1 q1
 |false=>exact⟨.bl false,H1,I1,rfl,q1⟩
def Lv (ha:PE X a ta):PE X (.UnaryOp .Not a pos) (Nt ta):=by
 intro Xa1 s σ H Q I h;refine UnaryOp_ (Q6 (ha Xa1 s σ H _ I h) fun v s1 ⟨x,H1,I1,r1,q1⟩=>?_);obtain⟨c,rfl,q1⟩:=q1
 cases r1
 exact not_of (wpAny_truthy_bool ⟨.bl (!c),H1,I1,rfl,q1⟩)
end
def SqL (K:W.Frag)(H:Hp)(a:Addr)(xs:List V):Prop :=
 Rd H a (.lst xs) \/
  ∃(o:Obj) (its:Array Value) (n:Nat),K.lookup a=some o/\o.cls=.type "list" /\ o.dict=none/\o.data=.seq its n/\its.size<=sizeLine/\QK xs its.toList
def SqT (K:W.Frag)(H:Hp)(a:Addr)(xs:List V):Prop :=
 Rd H a (.tup xs) \/
  ∃(o:Obj) (its:Array Value) (n:Nat),K.lookup a=some o/\o.cls=.type "tuple" /\ o.data=.seq its n/\its.size<=sizeLine/\QK xs its.toList
def PX:Value->Option V
 |.none=>some .non
 |.bool b=>some (.bl b)
 |.int i _=>some (.int i)
 |.str x _=>some (.str x)
 |.bytes b _=>some (.byt b)
 |.float b _=>some (.flt b)
 |.ref a=>some (.ref a)
 |.type n=>some (.ty n)
 |_=>none
def QL.abs {x:V}{u:Value}(r:QL x u):PX u=some x:=by
 cases x with
 |non=>cases r;rfl
 |bl _=>cases r;rfl
 |int _=>obtain⟨t,rfl⟩:=r;rfl
 |str _=>obtain⟨t,rfl⟩:=r;rfl
 |byt _=>obtain⟨t,rfl⟩:=r;rfl
 |flt _=>obtain⟨t,rfl⟩:=r;rfl
 |ref _=>cases r;rfl
 |ty _=>cases r;rfl
def QL.inj {x y:V}{u:Value}(r:QL x u)(q:QL y u):x=y:=Option.some.inj (r.abs.symm.trans q.abs)
theorem QK.inj:∀{xs ys:List V} {us:Qe},QK xs us->QK ys us->xs=ys
 |_,_,_,.nil,.nil=>rfl
 |_,_,_,.cons r t,.cons r' t'=>by rw[r.inj r',QK.inj t t']
section
variable {X:Cx}{Xa1:Qc}{σ:St}{H:Hp}{s:Shared}{a:Addr}{xs ys:List V}
def SqL.of {K:W.Frag}(h:H a=some (.lst xs)):SqL K H a xs:=.inl (.inl h)
def SqT.of {K:W.Frag}(h:H a=some (.tup xs)):SqT K H a xs:=.inl (.inl h)
def Qr.list (I:Qr X Xa1 σ H s)(h:SqL X.K H a xs):∃its:Qe,QK xs its/\PlainL s.heap a its.toArray/\xs.length<=sizeLine:=by
 rcases h with h|⟨o,its,n,hk,hc,hd,hs,hz,r⟩
 ·obtain⟨z,its,n,r,e⟩:=h.ok I.hok
  exact⟨its,r,⟨_,n,e,rfl,rfl,rfl⟩,z⟩
 ·refine⟨its.toList,r,⟨o,n,I.kIn a o hk,hc,hd,by simpa using hs⟩,?_⟩
  have e:=r.length;simp only[Array.length_toList]at e;omega
def Qr.tuple (I:Qr X Xa1 σ H s)(h:SqT X.K H a xs):∃its:Qe,QK xs its/\IsTup s.heap a its.toArray/\xs.length<=sizeLine:=by
 rcases h with h|⟨o,its,n,hk,hc,hs,hz,r⟩
 ·obtain⟨z,its,r,p⟩:=h.ok I.hok
  exact⟨its,r,p,z⟩
 ·refine⟨its.toList,r,⟨o,I.kIn a o hk,hc,n,by simpa using hs⟩,?_⟩
  have e:=r.length;simp only[Array.length_toList]at e;omega
def Qr.list_inj (I:Qr X Xa1 σ H s)(h:SqL X.K H a xs)(h':SqL X.K H a ys):xs=ys:=by
 obtain⟨its,r,⟨o,n,e,_,_,d⟩,_⟩:=I.list h;obtain⟨its',r',⟨o',n',e',_,_,d'⟩,_⟩:=I.list h';rw[e]at e';cases e';rw[d]at d';injection d' with d1 _
 have:its=its':=by simpa using X5 Array.toList d1
 subst this;exact r.inj r'
def Qr.tuple_inj (I:Qr X Xa1 σ H s)(h:SqT X.K H a xs)(h':SqT X.K H a ys):xs=ys:=by
 obtain⟨its,r,⟨o,e,_,n,d⟩,_⟩:=I.tuple h;obtain⟨its',r',⟨o',e',_,n',d'⟩,_⟩:=I.tuple h';rw[e]at e';cases e';rw[d]at d';injection d' with d1 _
 have:its=its':=by simpa using X5 Array.toList d1
 subst this;exact r.inj r'
end
abbrev Cx.wish (X:Cx)(E:Qb):Cx:={ X with xe:=E }
abbrev Cx.nox (X:Cx):Cx:=X.wish fun _ _=>False
def Cx.Ok.wish {X:Cx}(ok:X.Ok)(E:Qb):(X.wish E).Ok :=
 ⟨ok.mod,ok.kind,ok.glob,ok.blt,ok.above,ok.inj,ok.has,ok.cab,ok.hd,ok.frames,ok.stk,ok.exf,ok.bs,ok.bsz,ok.noex,ok.exfs,ok.funs,ok.frf⟩
def Cx.Ok.unwish {X:Cx}{E:Qb}(ok:(X.wish E).Ok):X.Ok :=
 ⟨ok.mod,ok.kind,ok.glob,ok.blt,ok.above,ok.inj,ok.has,ok.cab,ok.hd,ok.frames,ok.stk,ok.exf,ok.bs,ok.bsz,ok.noex,ok.exfs,ok.funs,ok.frf⟩
section
variable {X:Cx}{Xa1:Qc}{σ:St}{H:Hp}{s:Shared}{E:Qb}
def Qr.wish (I:Qr X Xa1 σ H s)(E:Qb):Qr (X.wish E) Xa1 σ H s:=⟨I.ok.wish E,I.os,I.bare,I.base,I.loc,I.cell,I.free,I.freeC,I.pin,I.hok,I.len⟩
def Qr.unwish (I:Qr (X.wish E) Xa1 σ H s):Qr X Xa1 σ H s:=⟨I.ok.unwish,I.os,I.bare,I.base,I.loc,I.cell,I.free,I.freeC,I.pin,I.hok,I.len⟩
def SP.unwish {D:Ends}{f:Flow}{s':Shared}(h:SP (X.wish E) Xa1 D f s'):SP X Xa1 D f s':=by
 cases f with
 |next=>obtain⟨σ',H',I,q⟩:=h;exact⟨σ',H',I.unwish,q⟩
 |brk=>obtain⟨σ',H',I,q⟩:=h;exact⟨σ',H',I.unwish,q⟩
 |cont=>obtain⟨σ',H',I,q⟩:=h;exact⟨σ',H',I.unwish,q⟩
 |ret u=>obtain⟨v,σ',H',I,r,q⟩:=h;exact⟨v,σ',H',I.unwish,r,q⟩
def PSs.nox {st:List Stmt}{t:TS}(h:PSs X.nox st t):PSs X st t:=fun Xa1 s σ H D I hw =>
 wpAny_mono (h Xa1 s σ H D (I.wish _) hw) (fun _ _ q=>q.unwish) fun _ _ z=>False.elim z
end
section
variable {X:Cx}{st:Stmt}{rest:List Stmt}{t u:TS}{e:Expr}{te:TE}{pos:Pos}
def Nl:TS:=fun D σ H=>D.nx σ H
def Jy (t u:TS):TS:=fun D σ H=>t { D with nx:=u D } σ H
def Z9:PSs X [] Nl:=fun _ _ σ H _ I h=>wpAny_execs_nil ⟨σ,H,I,h⟩
def Q5 (h1:PS X st t)(h2:PSs X rest u):PSs X (st::rest) (Jy t u):=by
 intro Xa1 s σ H D I h;refine wpAny_execs_cons (Q6 (h1 Xa1 s σ H { D with nx:=u D } I h) fun f s1 q=>?_)
 cases f with
 |next =>
   obtain⟨σ',H',I',q⟩:=q;exact h2 Xa1 s1 σ' H' D I' q
 |ret v=>exact q
 |brk=>exact q
 |cont=>exact q
def QA (h1:PS X st t):PSs X [st] t:=by
 intro Xa1 s σ H D I h;refine wpAny_execs_cons (Q6 (h1 Xa1 s σ H D I h) fun f s1 q=>?_)
 cases f with
 |next=>exact wpAny_execs_nil q
 |ret v=>exact q
 |brk=>exact q
 |cont=>exact q
def Qr.quiet {Xa1:Qc}{σ:St}{H:Hp}{s:Shared}(I:Qr X Xa1 σ H s):interactive X.env=false:=by simp[interactive,I.ok.kind]
def VC (te:TE):TS:=fun D σ H=>te σ H fun _ H1=>D.nx σ H1
def Z3 (he:PE X e te)(hs:swapsWith e none pos.line X.env=pure false:=by rfl):PS X (.Expr e pos) (VC te):=by
 intro Xa1 s σ H D I h;exact wpAny_Expr_any (Q6 (he Xa1 s σ H _ I h) fun v s1 ⟨x,H1,I1,r1,q1⟩=>⟨σ,H1,I1,q1⟩) I.quiet hs
def Yo (te:TE):TS:=fun D σ H=>te σ H D.rt
def QW (he:PE X e te):PS X (.Return (some e) pos) (Yo te):=by
 intro Xa1 s σ H D I h;exact wpAny_Return_some (Q6 (he Xa1 s σ H _ I h) fun v s1 ⟨x,H1,I1,r1,q1⟩=>⟨x,σ,H1,I1,r1,q1⟩)
def Bo (c:TT)(t u:TS):TS:=fun D σ H=>c σ H fun b H1=>if b=true then t D σ H1 else u D σ H1
def Z8 {c:Expr}{a b:List Stmt}{tc:TT}(hc:PT X c tc)(ha:PSs X a t)(hb:PSs X b u):PS X (.If c a b pos) (Bo tc t u):=by
 intro Xa1 s σ H D I h;refine wpAny_If (Q6 (hc Xa1 s σ H _ I h) fun d s1 ⟨H1,I1,q1⟩=>?_)
 cases d with
 |true=>exact ha Xa1 s1 σ H1 D I1 q1
 |false=>exact hb Xa1 s1 σ H1 D I1 q1
def TU:TS:=fun _ _ _=>False
def GM:PS X st TU:=fun _ _ _ _ _ _ h=>h.elim
end
abbrev TG:=V->St->Hp->(St->Hp->Prop)->Prop
abbrev TGs:=List V->St->Hp->(St->Hp->Prop)->Prop
def PG (X:Cx)(target:Expr)(t:TG):Prop :=
 ∀(Xa1:Qc) (s:Shared) (σ:St) (H:Hp) (v:V) (u:Value) (Q:St->Hp->Prop),Qr X Xa1 σ H s->QL v u->t v σ H Q ->
  wpAny (model X.prog X.w) X.A (assign target X.env u) (fun _ s'=>∃σ' H',Qr X Xa1 σ' H' s'/\Q σ' H') X.xe s
def PGs (X:Cx)(ts:Qi)(t:TGs):Prop :=
 ∀(Xa1:Qc) (s:Shared) (σ:St) (H:Hp) (vs:List V) (us:Qe) (Q:St->Hp->Prop),Qr X Xa1 σ H s->QK vs us->t vs σ H Q ->
  wpAny (model X.prog X.w) X.A (assignInOrder ((assignEach ts X.env).map (·.2)) us) (fun _ s'=>∃σ' H',Qr X Xa1 σ' H' s'/\Q σ' H') X.xe s
abbrev UZ:=V->V->V->Hp->(Hp->Prop)->Prop
def MA (X:Cx)(t:UZ):Prop :=
 ∀(Xa1:Qc) (s:Shared) (σ:St) (H:Hp) (o i v:V) (ov iv u:Value) (Q:Hp->Prop),Qr X Xa1 σ H s->QL o ov->QL i iv->QL v u->t o i v H Q ->
  wpAny (model X.prog X.w) X.A (setItem ov iv u) (fun _ s'=>∃H',Qr X Xa1 σ H' s'/\Q H') X.xe s
abbrev TIp:=V->V->Hp->VK->Prop
def PIp (X:Cx)(op:Operator)(t:TIp):Prop :=
 ∀(Xa1:Qc) (s:Shared) (σ:St) (H:Hp) (x y:V) (v u:Value) (Q:VK),Qr X Xa1 σ H s->QL x v->QL y u->t x y H Q ->
  wpAny (model X.prog X.w) X.A (inplaceOp op v u) (EP X Xa1 σ Q) X.xe s
section
variable {X:Cx}{pos:Pos}
def ZJ (i:Nat):TG:=fun v σ H Q=>Q (σ.set i (some v)) H
def QZ {i:Nat}{x:Str}(hN:X.N.Nodup)(hi:X.N[i]?=some x)(hx:Loc X.env.scope x)(hf:X.fn x=true\/X.env.scope.names.lookup x=some .local:=by first|exact .inl rfl|exact .inr rfl|assumption):PG X (.Name x pos) (ZJ i):=by
 intro Xa1 s σ H v u Q I r h;exact wpAny_assign_Name (BS I hN hi hx r (fun s' I'=>⟨_,H,I',h⟩) hf)
def M6:TGs:=fun vs σ H Q=>vs=[]/\Q σ H
def MU (t:TG)(u:TGs):TGs:=fun vs σ H Q=>∃v r,vs=v::r/\t v σ H fun σ' H'=>u r σ' H' Q
def WC:PGs X [] M6:=by
 intro Xa1 s σ H vs us Q I r h;obtain⟨e,h⟩:=h;subst e;cases r;exact assignInOrder_nil ⟨σ,H,I,h⟩
def Vc {e:Expr}{es:Qi}{t:TG}{u:TGs}(h1:PG X e t)(h2:PGs X es u)
 (hs:(assignEach (e::es) X.env).map (·.2)=assign e X.env::(assignEach es X.env).map (·.2):=by rfl):PGs X (e::es) (MU t u):=by
 intro Xa1 s σ H vs us Q I r h;obtain⟨v,vr,e1,h⟩:=h;subst e1;cases r with
 |cons r rr =>
   rw[hs];refine assignInOrder_cons (Q6 (h1 Xa1 s σ H _ _ _ I r h) fun _ s1 ⟨σ1,H1,I1,q1⟩=>?_);exact h2 Xa1 s1 σ1 H1 _ _ Q I1 rr q1
def MI (K:W.Frag)(n:Nat)(t:TGs):TG:=fun v σ H Q=>∃a xs,v=.ref a/\SqT K H a xs/\xs.length=n/\t xs σ H Q
def WT {es:Qi}{k:Nat}{t:TGs}{n:Nat}(hc:X.calm=true)(h:PGs X es t)
 (hn:(assignEach es X.env).length=n:=by rfl) (hst:(assignEach es X.env).findIdx? (·.1)=none:=by rfl):PG X (.Tuple es k pos) (MI X.K n t):=by
 intro Xa1 s σ H v u Q I r hw;obtain⟨a,xs,e1,hq,hl,hw⟩:=hw;subst e1;cases r;obtain⟨its,rv,ht,hz⟩:=I.tuple hq;refine assign_Tuple_tuple (I.ok.hd hc) ht (by simp[hn,<- hl,rv.length]) hst fun h' hx=>?_;have I1:Qr X Xa1 σ H { s with heap:=h' }:=I.kept (t':=s.toks) fun b o e=>hx b o (Xp (Xj e)) e;exact h Xa1 _ σ H xs _ Q I1 (by simpa using rv) hw
def M1 (to ti:TE)(t:UZ):TG:=fun v σ H Q=>to σ H fun o H1=>ti σ H1 fun i H2=>t o i v H2 fun H3=>Q σ H3
def UB {o i:Expr}{to ti:TE}{t:UZ}(ho:PE X o to)(hi:PE X i ti)(hs:MA X t)
 (ha:∀v,assign (.Subscript o i pos) X.env v=(do
  let ov <- holding [v] (eval o X.env)
  let iv <- holding [v,ov] (eval i X.env)
  standAt pos
  holding [v,ov,iv] (setItem ov iv v)
  release [v,ov,iv] []):=by intro _;rfl):PG X (.Subscript o i pos) (M1 to ti t):=by
 intro Xa1 s σ H v u Q I r h;rw[ha];refine Xa (wpAny_holding (Q6 (ho Xa1 s σ H _ I h) fun ov s1 ⟨x,H1,I1,r1,q1⟩=>?_));refine Xa (wpAny_holding (Q6 (hi Xa1 s1 σ H1 _ I1 q1) fun iv s2 ⟨y,H2,I2,r2,q2⟩=>?_));refine Xa (wpAny_standAt (Xa (wpAny_holding (Q6 (hs Xa1 s2 σ H2 x y v ov iv u _ I2 r1 r2 r q2) fun _ s3 ⟨H3,I3,q3⟩=>?_))));exact wpAny_release ⟨σ,H3,I3,q3⟩
def Ve (te:TE)(g:TG):TS:=fun D σ H=>te σ H fun x H1=>g x σ H1 D.nx
def W8 {tg e:Expr}{te:TE}{g:TG}(he:PE X e te)(hg:PG X tg g)(hs:swapsWithSole [tg] e pos.line X.env=pure false:=by rfl)(hw:swappedStores [tg] e X.env=pure none:=by rfl)
 (h1:(assignEach [tg] X.env).map (·.2)=[assign tg X.env]:=by rfl):PS X (.Assign [tg] e pos) (Ve te g):=by
 intro Xa1 s σ H D I h;refine wpAny_Assign_stores (Q6 (he Xa1 s σ H _ I h) fun v s1 ⟨x,H1,I1,r1,q1⟩=>?_) hs hw;rw[h1];exact Q6 (hg Xa1 s1 σ H1 x v _ I1 r1 q1) fun _ s2 q=>q
def QY {i:Nat}{x:Str}{e:Expr}{te:TE}{pos':Pos}(hN:X.N.Nodup)(hi:X.N[i]?=some x)(hx:Loc X.env.scope x)(he:PE X e te)(hs:swapsWith e (some (.Name x pos')) pos.line X.env=pure false:=by rfl)(hf:X.fn x=true\/X.env.scope.names.lookup x=some .local:=by first|exact .inl rfl|exact .inr rfl|assumption) :
 PS X (.Assign [.Name x pos'] e pos) (Ve te (ZJ i)):=by
 intro Xa1 s σ H D I h;refine wpAny_Assign_Name (Q6 (he Xa1 s σ H _ I h) fun v s1 ⟨y,H1,I1,r1,q1⟩=>?_) hs;exact BS I1 hN hi hx r1 (fun s2 I2=>⟨_,H1,I2,q1⟩) hf
def MQ (to ti te:TE)(tget:V->V->Hp->VK->Prop)(tip:TIp)(tset:UZ):TS:=fun D σ H=>to σ H fun o H1=>ti σ H1 fun i H2=>tget o i H2 fun x H3=>te σ H3 fun y H4=>tip x y H4 fun z H5=>tset o i z H5 fun H6=>D.nx σ H6
def KA (X:Cx)(t:V->V->Hp->VK->Prop):Prop :=
 ∀(Xa1:Qc) (s:Shared) (σ:St) (H:Hp) (o i:V) (ov iv:Value) (Q:VK),Qr X Xa1 σ H s->QL o ov->QL i iv->t o i H Q ->
  wpAny (model X.prog X.w) X.A (getItem ov iv) (EP X Xa1 σ Q) X.xe s
def BG {o i e:Expr}{to ti te:TE}{tget:V->V->Hp->VK->Prop}{tip:TIp}{tset:UZ}{op:Operator}{tpos:Pos}(ho:PE X o to)(hi:PE X i ti)(hg:KA X tget)(he:PE X e te)(hp:PIp X op tip)(hs:MA X tset)
 (ha:∀ov iv new,augStore i ov iv new=(do holding [new,ov,iv] (setItem ov iv new);release [new,ov,iv] [];pure .next):=by intros;rfl):PS X (.AugAssign (.Subscript o i tpos) op e pos) (MQ to ti te tget tip tset):=by
 intro Xa1 s σ H D I h;refine wpAny_AugAssign_SubscriptAny (Q6 (ho Xa1 s σ H _ I h) fun ov s1 ⟨x1,H1,I1,r1,q1⟩=>?_) ha;refine Q6 (hi Xa1 s1 σ H1 _ I1 q1) fun iv s2 ⟨x2,H2,I2,r2,q2⟩=>?_;refine Q6 (hg Xa1 s2 σ H2 x1 x2 ov iv _ I2 r1 r2 q2) fun old s3 ⟨x3,H3,I3,r3,q3⟩=>?_;refine Q6 (he Xa1 s3 σ H3 _ I3 q3) fun v s4 ⟨x4,H4,I4,r4,q4⟩=>?_;refine Q6 (hp Xa1 s4 σ H4 x3 x4 old v _ I4 r3 r4 q4) fun new s5 ⟨x5,H5,I5,r5,q5⟩=>?_;exact Q6 (hs Xa1 s5 σ H5 x1 x2 x5 ov iv new _ I5 r1 r2 r5 q5) fun _ s6 ⟨H6,I6,q6⟩=>⟨σ,H6,I6,q6⟩
def ipI (f:Int->Int->Int):TIp:=fun x y H Q=>∃i j,x=.int i/\y=.int j/\Q (.int (f i j)) H
def Dl:PIp X .Add (ipI fun i j=>i+j):=by
 intro Xa1 s σ H x y v u Q I r1 r2 h;obtain⟨i,j,e1,e2,q⟩:=h;subst e1;subst e2;obtain⟨t,rfl⟩:=r1;obtain⟨t',rfl⟩:=r2;exact iadd_int ⟨.int _,H,I.tok _,⟨_,rfl⟩,q⟩
def TJ:PIp X .Sub (ipI fun i j=>i-j):=by
 intro Xa1 s σ H x y v u Q I r1 r2 h;obtain⟨i,j,e1,e2,q⟩:=h;subst e1;subst e2;obtain⟨t,rfl⟩:=r1;obtain⟨t',rfl⟩:=r2;exact isub_int ⟨.int _,H,I.tok _,⟨_,rfl⟩,q⟩
end
section
variable {X:Cx}{pos:Pos}
def NF (c:TT)(tb:TS):TS:=fun D σ H=>∃W:Nat->St->Hp->Prop,(∃m,W m σ H)/\∀m σ H,W m σ H ->
 c σ H fun b H1=>if b=true then ∃N:St->Hp->Prop,(∀σ' H',N σ' H'->∃m',m'<m/\W m' σ' H')/\tb { D with nx:=N,ct:=N,bk:=D.nx } σ H1 else D.nx σ H1
def Hm {c:Expr}{body:List Stmt}{tc:TT}{tb:TS}(hp:PassesOwn (model X.prog X.w) X.A X.env X.xe)(hc:PT X c tc)(hb:PSs X body tb):PS X (.While c body [] pos) (NF tc tb):=by
 intro Xa1 s σ H D I h;obtain⟨W,⟨m0,w0⟩,turn⟩:=h;refine wpAny_While (codeAny_whileLoop (fun n s'=>∃σ' H',Qr X Xa1 σ' H' s'/\W n σ' H') ?_ m0 ⟨σ,H,I,w0⟩)
 rintro n s1 ⟨σ1,H1,I1,w1⟩
 refine wpAny_passesOwn hp (Q6 (hc Xa1 s1 σ1 H1 _ I1 (turn n σ1 H1 w1)) fun b s2 ⟨H2,I2,q2⟩=>?_)
 cases b with
 |true =>
   obtain⟨N,hN,q2⟩:=q2;rw[Xd rfl];refine wpAny_passesOwn hp (Q6 (hb Xa1 s2 σ1 H2 _ I2 q2) fun f s3 q3=>?_)
   cases f with
   |next =>
     obtain⟨σ3,H3,I3,n3⟩:=q3;obtain⟨m',hm,w3⟩:=hN σ3 H3 n3
     exact⟨m',hm,σ3,H3,I3,w3⟩
   |cont =>
     obtain⟨σ3,H3,I3,n3⟩:=q3;obtain⟨m',hm,w3⟩:=hN σ3 H3 n3
     exact⟨m',hm,σ3,H3,I3,w3⟩
   |brk=>exact q3
   |ret v=>exact q3
 |false =>
   rw[Xb Xv];exact wpAny_execs_nil ⟨σ1,H2,I2,q2⟩
end
structure It where
 go:Nat->Hp->Prop
 yld:Nat->Hp->V->Hp->Prop
 stop:Nat->Hp->Prop
def Yb (X:Cx)(Xa1:Qc)(H:Hp)(b:Addr):Prop :=
 H b=none/\b≠X.env.locals/\b∉X.fs/\(b∈X.ex\/X.s₀.heap.objs.size<=b)/\(∀x c,X.env.cells.lookup x=some c->c≠b)/\∀p∈X.pn++Xa1,p.1≠b
def Qr.fpOk {X:Cx}{Xa1:Qc}{σ:St}{H H':Hp}{s:Shared}{b:Addr}(I:Qr X Xa1 σ H s)(hb:s.heap.objs.size<=b)(hn:H' b=none):Yb X Xa1 H' b:=by
 refine⟨hn,XX (Xt I.lt hb),I.nofs hb,.inr (VM I.sz hb),fun x c e z=>?_,fun p hp z=>?_⟩
 ·obtain⟨v,q⟩:=I.cell x c e
  exact Xl (Xt q.lt (by rw[z];exact hb)) (Yh _)
 ·exact Xl (Xt (Xj (I.pin p hp).1) (by rw[z];exact hb)) (Yh _)
structure Turn (P:Program)(w:World)(K:W.Frag)(tg:Expr)(J:It)(fp:Qg)(it:Addr)(tn:Nat->Heap->Prop):Prop where
 mem:it∈fp
 obj:∀i h,tn i h->∀b∈fp,∃o,h.get? b=some o/\∀v,o.data≠.cell v
 keep:∀i h h',tn i h->(∀b∈fp,∀o,h.get? b=some o->h'.get? b=some o)->tn i h'
 item:∀(X:Cx),X.prog=P->X.w=w->X.K=K->X.calm=true->∀(i:Nat) (Xa1:Qc) (s:Shared) (σ:St) (H:Hp) (E:Qb),Qr X Xa1 σ H s->(∀b∈fp,Yb X Xa1 H b)->tn i s.heap->J.go i H ->
  wpAny (model P w) X.A (pyNext (.ref it)) (fun r s1=>∃u,r=some u /\
   wpAny (model P w) X.A (letOwnedTupleGo tg (.ref it) u) (fun _ s2=>∃x H',Qr X Xa1 σ H' s2/\QL x u/\J.yld i H x H'/\tn (i+1) s2.heap/\∀b∈fp,H' b=none) E s1) E s
 done:∀(X:Cx),X.prog=P->X.w=w->X.K=K->X.calm=true->∀(i:Nat) (Xa1:Qc) (s:Shared) (σ:St) (H:Hp) (E:Qb),Qr X Xa1 σ H s->(∀b∈fp,Yb X Xa1 H b)->tn i s.heap->J.stop i H ->
  wpAny (model P w) X.A (pyNext (.ref it)) (fun r s1=>r=none/\Qr X Xa1 σ H s1) E s
 self:∀(A:Around) (i:Nat) (s:Shared) (Q:Qb) (E:Qb),tn i s.heap->Q (.ref it) s->wpAny (model P w) A (pyIter (.ref it)) Q E s
abbrev TI:=St->Hp->(It->Hp->Prop)->Prop
def PIE (X:Cx)(Xa1:Qc)(σ:St)(tg:Expr)(R:It->Hp->Prop)(itv:Value)(s2:Shared):Prop :=
 ∃(it:Addr) (fp:Qg) (tn:Nat->Heap->Prop) (J:It) (H':Hp),itv=.ref it/\Qr X Xa1 σ H' s2/\Turn X.prog X.w X.K tg J fp it tn/\tn 0 s2.heap/\(∀b∈fp,Yb X Xa1 H' b)/\R J H'
def PI (X:Cx)(tg iter:Expr)(wi:TI):Prop :=
 ∀(Xa1:Qc) (s:Shared) (σ:St) (H:Hp) (R:It->Hp->Prop),Qr X Xa1 σ H s->wi σ H R ->
  wpAny (model X.prog X.w) X.A (eval iter X.env) (fun v s1=>wpAny (model X.prog X.w) X.A (pyIter v) (PIE X Xa1 σ tg R) X.xe s1) X.xe s
def Gu {M:Model}{A:Around}{E:Qb}{s:Shared}{tg:Expr}{it:Addr}{u:Value}{o:Obj}{n:String}{vs:Array Value}{Q:Unit->Shared->Prop}(ho:s.heap.get? it=some o)(hc:o.cls=.type n)(hd:o.data=.fields vs)
 (hn:["enumerate","zip","dict_itemiterator","dict_reverseitemiterator","odict_iterator","itertools.zip_longest","itertools.pairwise"].contains n=false) (hQ:Q () s):wpAny M A (letOwnedTupleGo tg (.ref it) u) Q E s:=by
 unfold letOwnedTupleGo;cases tg<;>first
  |exact Xn hQ
  | (cases u<;>first
   |exact Xn hQ
   | (refine Xa (wpAny_load ho ?_)
      rw[hc,hd];show wpAny M A (if (["enumerate","zip","dict_itemiterator","dict_reverseitemiterator","odict_iterator","itertools.zip_longest","itertools.pairwise"].contains n&&vs[0]?==some (rawInt _))=true then _ else _) Q E s;rw[Xb (by intro h;rw[hn,Bool.false_and]at h;cases h)];exact Xn hQ))
def Itl (K:W.Frag)(a:Addr):It :=
 ⟨fun i H=>∃xs x,SqL K H a xs/\xs[i]?=some x,fun i H x H'=>H'=H/\∀xs,SqL K H a xs->xs[i]?=some x,fun i H=>∃xs,SqL K H a xs/\xs.length<=i⟩
def Itt (K:W.Frag)(a:Addr):It :=
 ⟨fun i H=>∃xs x,SqT K H a xs/\xs[i]?=some x,fun i H x H'=>H'=H/\∀xs,SqT K H a xs->xs[i]?=some x,fun i H=>∃xs,SqT K H a xs/\xs.length<=i⟩
def Itr (lo:Int)(n:Nat):It:=⟨fun i _=>i<n,fun i H x H'=>H'=H/\x=.int (lo+i),fun i _=>n<=i⟩
theorem Az {P:Program}{w:World}{K:W.Frag}{tg:Expr}(a it:Addr):Turn P w K tg (Itl K a) [it] it (fun i h=>h.IsListIter it a i) where
 mem:=by simp
 obj:=fun i h st b hb=>by
  have e:b=it:=by simpa using hb
  subst e;obtain⟨o,e,c,d⟩:=st
  exact⟨o,e,fun v z=>by rw[d]at z;cases z⟩
 keep:=fun i h h' st k=>st.at fun o e=>k it (by simp) o e
 item:=by
  intro X hP hw hK hc i Xa1 s σ H E I hf st hg;subst hP hw hK;obtain⟨xs,x,hq,hx⟩:=hg;obtain⟨its,rv,p,hz⟩:=I.list hq;obtain⟨u,hu,ru⟩:=rv.get hx;obtain⟨f0,f1,f2,f3,f4,f5⟩:=hf it (by simp);refine wpAny_pyNext_list_item st p.isList (x:=u) (by simpa using hu) fun h' st' sb=>?_;have I1:Qr X Xa1 σ H { s with heap:=h' }:=I.turned (t':=s.toks) (fun b o hb e=>(sb.2 b hb).trans e) f0 f1 f3 f4 f5;obtain⟨o,e,c,d⟩:=id st'
  exact⟨u,rfl,Gu (s:={ s with heap:=h' }) e c d (by decide) ⟨x,H,I1,ru,⟨rfl,fun ys hy=>by rw[I.list_inj hy hq];exact hx⟩,st',fun b hb=>(hf b hb).1⟩⟩
 done:=by
  intro X hP hw hK hc i Xa1 s σ H E I hf st hg;subst hP hw hK;obtain⟨xs,hq,hx⟩:=hg;obtain⟨its,rv,p,hz⟩:=I.list hq;obtain⟨f0,f1,f2,f3,f4,f5⟩:=hf it (by simp);have hl:=rv.length;exact wpAny_pyNext_list_end (I.ok.hd hc) st p.isList (by simp;omega) fun h' eb=>⟨rfl,I.turned (t':=s.toks) (fun b o hb e=>eb b o hb e) f0 f1 f3 f4 f5⟩
 self:=fun _ _ _ _ _ st h=>wpAny_pyIter_listiter st h
theorem EK {P:Program}{w:World}{K:W.Frag}{tg:Expr}(a it:Addr):Turn P w K tg (Itt K a) [it] it (fun i h=>h.IsTupleIter it a i) where
 mem:=by simp
 obj:=fun i h st b hb=>by
  have e:b=it:=by simpa using hb
  subst e;obtain⟨o,e,c,d⟩:=st
  exact⟨o,e,fun v z=>by rw[d]at z;cases z⟩
 keep:=fun i h h' st k=>st.at fun o e=>k it (by simp) o e
 item:=by
  intro X hP hw hK hc i Xa1 s σ H E I hf st hg;subst hP hw hK;obtain⟨xs,x,hq,hx⟩:=hg;obtain⟨its,rv,p,hz⟩:=I.tuple hq;obtain⟨u,hu,ru⟩:=rv.get hx;obtain⟨f0,f1,f2,f3,f4,f5⟩:=hf it (by simp);refine wpAny_pyNext_tuple_item st (show s.heap.IsTuple a its.toArray from p) (x:=u) (by simpa using hu) fun h' st' sb=>?_;have I1:Qr X Xa1 σ H { s with heap:=h' }:=I.turned (t':=s.toks) (fun b o hb e=>(sb.2 b hb).trans e) f0 f1 f3 f4 f5;obtain⟨o,e,c,d⟩:=id st'
  exact⟨u,rfl,Gu (s:={ s with heap:=h' }) e c d (by decide) ⟨x,H,I1,ru,⟨rfl,fun ys hy=>by rw[I.tuple_inj hy hq];exact hx⟩,st',fun b hb=>(hf b hb).1⟩⟩
 done:=by
  intro X hP hw hK hc i Xa1 s σ H E I hf st hg;subst hP hw hK;obtain⟨xs,hq,hx⟩:=hg;obtain⟨its,rv,p,hz⟩:=I.tuple hq;obtain⟨f0,f1,f2,f3,f4,f5⟩:=hf it (by simp);have hl:=rv.length;exact wpAny_pyNext_tuple_end (I.ok.hd hc) st (show s.heap.IsTuple a its.toArray from p) (by simp;omega) fun h' eb=>⟨rfl,I.turned (t':=s.toks) (fun b o hb e=>eb b o hb e) f0 f1 f3 f4 f5⟩
 self:=fun _ _ _ _ _ st h=>wpAny_pyIter_tupleiter st h
theorem Eh {P:Program}{w:World}{K:W.Frag}{tg:Expr}(it:Addr)(lo:Int)(n:Nat):Turn P w K tg (Itr lo n) [it] it (fun i h=>IsRangeIter h it (lo+(i:Nat)*1) ((n:Int)-(i:Nat)) 1) where
 mem:=by simp
 obj:=fun i h st b hb=>by
  have e:b=it:=by simpa using hb
  subst e;exact⟨_,st,fun v z=>by
   have z':Data.fields _=Data.cell v:=z
   cases z'⟩
 keep:=fun i h h' st k=>k it (by simp) _ st
 item:=by
  intro X hP hw hK hc i Xa1 s σ H E I hf st hg;subst hP hw hK;obtain⟨f0,f1,f2,f3,f4,f5⟩:=hf it (by simp);have W:=Walks.range (prog:=X.prog) (w:=X.w) (I.ok.hd hc) it lo 1 n;refine W.item i s _ _ hg st fun v h' tk hv st' kk=>?_;obtain⟨t,rfl⟩:=hv;have I1:Qr X Xa1 σ H { s with heap:=h',toks:=tk }:=I.turned (fun b o hb e=>kk b o (by simpa using hb) e) f0 f1 f3 f4 f5;refine⟨_,rfl,Gu (s:={ s with heap:=h',toks:=tk }) (n := "range_iterator") st' rfl rfl (by decide) ⟨.int (lo+i),H,I1,⟨t,?_⟩,⟨rfl,rfl⟩,st',fun b hb=>(hf b hb).1⟩⟩;rw[Int.mul_one]
 done:=by
  intro X hP hw hK hc i Xa1 s σ H E I hf st hg;subst hP hw hK;obtain⟨f0,f1,f2,f3,f4,f5⟩:=hf it (by simp);exact wpAny_pyNext_range_end (I.ok.hd hc) st (by have:n<=i:=hg;omega) fun h' eb=>⟨rfl,I.turned (t':=s.toks) (fun b o hb e=>eb b o hb e) f0 f1 f3 f4 f5⟩
 self:=fun _ _ _ _ _ st h=>wpAny_pyIter_rangeiter st h
section
variable {X:Cx}{tg:Expr}
def Nr (K:W.Frag)(tl:TE):TI:=fun σ H R=>tl σ H fun x H1=>∃a,x=.ref a/\(∃xs,SqL K H1 a xs)/\R (Itl K a) H1
def KG (K:W.Frag)(tl:TE):TI:=fun σ H R=>tl σ H fun x H1=>∃a,x=.ref a/\(∃xs,SqT K H1 a xs)/\R (Itt K a) H1
def Yy {l:Expr}{tl:TE}(hl:PE X l tl):PI X tg l (Nr X.K tl):=by
 intro Xa1 s σ H R I h;refine Q6 (hl Xa1 s σ H _ I h) fun v s1 ⟨x,H1,I1,r1,q1⟩=>?_;obtain⟨a,e,⟨xs,hq⟩,q⟩:=q1;subst e;cases r1;obtain⟨its,rv,p,hz⟩:=I1.list hq;refine wpAny_pyIter_list p.isList ?_;refine⟨s1.heap.objs.size,[s1.heap.objs.size],_,_,H1,rfl,I1.kept (t':=s1.toks) fun b o e=>Xf _ e,Az a _,⟨_,Xy _ rfl,rfl,rfl⟩,fun b hb=>?_,q⟩;have e:b=s1.heap.objs.size:=by simpa using hb
 subst e;exact I1.fpOk (Xu _) (I1.hok.fresh (Xu _))
def BB {l:Expr}{tl:TE}(hl:PE X l tl):PI X tg l (KG X.K tl):=by
 intro Xa1 s σ H R I h;refine Q6 (hl Xa1 s σ H _ I h) fun v s1 ⟨x,H1,I1,r1,q1⟩=>?_;obtain⟨a,e,⟨xs,hq⟩,q⟩:=q1;subst e;cases r1;obtain⟨its,rv,p,hz⟩:=I1.tuple hq;refine wpAny_pyIter_tuple (show s1.heap.IsTuple a its.toArray from p) ?_;refine⟨s1.heap.objs.size,[s1.heap.objs.size],_,_,H1,rfl,I1.kept (t':=s1.toks) fun b o e=>Xf _ e,EK a _,⟨_,Xy _ rfl,rfl,rfl⟩,fun b hb=>?_,q⟩;have e:b=s1.heap.objs.size:=by simpa using hb
 subst e;exact I1.fpOk (Xu _) (I1.hok.fresh (Xu _))
def Sq {Xa1:Qc}{σ:St}{H:Hp}{s:Shared}{R:It->Hp->Prop}{E:Qb}{lo hi:Int}{t u v:Tok}{tk:Nat}(I:Qr X Xa1 σ H s)(h1 : -(2^62)<=lo)(h2:lo<2^62)(h3 : -(2^62)<=hi)(h4:hi<2^62)
 (q:R (Itr lo (hi-lo).toNat) H):wpAny (model X.prog X.w) X.A (pyIter (.ref s.heap.objs.size)) (PIE X Xa1 σ tg R) E { s with heap:=s.heap.push { cls:=.type "range",data:=.fields #[.int lo t,.int hi u,.int 1 v] },toks:=tk }:=by
 refine wpAny_pyIter_range (IsRange.new ..) (small_one h1 h2 h3 h4) ?_;have I1:Qr X Xa1 σ H { s with heap:=s.heap.push { cls:=.type "range",data:=.fields #[.int lo t,.int hi u,.int 1 v] },toks:=tk }:=I.kept fun b o e=>Xf _ e
 refine⟨(s.heap.push { cls:=.type "range",data:=.fields #[.int lo t,.int hi u,.int 1 v] }).objs.size,[(s.heap.push { cls:=.type "range",data:=.fields #[.int lo t,.int hi u,.int 1 v] }).objs.size],_,_,H,rfl,
  I1.kept (t':=tk) fun b o e=>Xf _ e,Eh _ lo (hi-lo).toNat,?_,fun b hb=>?_,q⟩
 ·have e1:lo+((0:Nat):Int)*1=lo:=by simp
  have e2:(((hi-lo).toNat:Nat):Int)-((0:Nat):Int)=Builtin.Range.rangeSize lo hi 1:=by rw[rangeSize_one];split<;>omega
  show IsRangeIter _ _ (lo+((0:Nat):Int)*1) ((((hi-lo).toNat:Nat):Int)-((0:Nat):Int)) 1;rw[e1,e2];exact Xy _ rfl
 ·have e:b=(s.heap.push { cls:=.type "range",data:=.fields #[.int lo t,.int hi u,.int 1 v] }).objs.size:=by simpa using hb
  subst e;exact I1.fpOk (Xu _) (I1.hok.fresh (Xu _))
def Gq (ta:TA):TI:=fun σ H R=>ta σ H fun vs H1=>∃j:Int,vs=[.int j] /\ -(2^62)<=j/\j<2^62/\R (Itr 0 j.toNat) H1
def Nh (ta:TA):TI:=fun σ H R=>ta σ H fun vs H1=>∃i j:Int,vs=[.int i,.int j]/\(-(2^62)<=i/\i<2^62 /\ -(2^62)<=j/\j<2^62)/\R (Itr i (j-i).toNat) H1
def Ya {a:Expr} {ta:TA} {p pos:Pos} (hg:Gl X "range") (hm:X.mg "range"=none) (ha:PA X [a] ta) (hs:starEach [a] X.env=[(false,eval a X.env)]:=by rfl):PI X tg (.Call (.Name "range" p) [a] [] pos) (Gq ta):=by
 intro Xa1 s σ H R I h;refine Call_ (WV I hg hm boot_range (PyProof.Rows.callWith_type1 (Q6 (ha pos Xa1 s σ H _ I h) fun us s1 ⟨vs,H1,I1,r1,q1⟩=>?_) hs rfl));obtain⟨j,e,q1,q2,q⟩:=q1;subst e;cases r1 with
 |cons r rr =>
   cases rr
   obtain⟨t,rfl⟩:=r;exact call_range_1 (Sq I1 (by omega) (by omega) q1 q2 (by simpa using q))
def SL {a b:Expr} {ta:TA} {p pos:Pos} (hg:Gl X "range") (hm:X.mg "range"=none) (ha:PA X [a,b] ta) (hs:starEach [a,b] X.env=[(false,eval a X.env),(false,eval b X.env)]:=by rfl) (hs2:starEach [b] X.env=[(false,eval b X.env)]:=by rfl) :
 PI X tg (.Call (.Name "range" p) [a,b] [] pos) (Nh ta):=by
 intro Xa1 s σ H R I h;refine Call_ (WV I hg hm boot_range (PyProof.Rows.callWith_type1 (Q6 (ha pos Xa1 s σ H _ I h) fun us s1 ⟨vs,H1,I1,r1,q1⟩=>?_) (by rw[hs,hs2]) (by rw[hs2];rfl)));obtain⟨i,j,e,⟨q1,q2,q3,q4⟩,q⟩:=q1;subst e;cases r1 with
 |cons r rr =>
   cases rr with
   |cons r' rr =>
     cases rr
     obtain⟨t,rfl⟩:=r;obtain⟨t',rfl⟩:=r';exact call_range_2 (Sq I1 q1 q2 q3 q4 q)
def Ur (wi:TI)(g:TG)(tb:TS):TS:=fun D σ H=>wi σ H fun J H1=>∃W:Nat->Nat->St->Hp->Prop,(∃m,W 0 m σ H1)/\∀i m σ H,W i m σ H ->
 (J.stop i H/\D.nx σ H)\/(J.go i H/\∃N:St->Hp->Prop,(∀σ' H',N σ' H'->∃m',m'<m/\W (i+1) m' σ' H')/\∀x H',J.yld i H x H'->g x σ H' fun σ2 H2=>tb { D with nx:=N,ct:=N,bk:=D.nx } σ2 H2)
def UA (fp:Qg)(h:Heap):Qc:=fp.filterMap fun b=>(h.get? b).map fun o=>(b,o)
def UN {fp:Qg}{h:Heap}{b:Addr}{o:Obj}(hb:b∈fp)(e:h.get? b=some o):(b,o)∈UA fp h:=List.mem_filterMap.mpr ⟨b,hb,by rw[e];rfl⟩
def Ec {fp:Qg}{h:Heap}{p:Addr×Obj}(hp:p∈UA fp h):p.1∈fp/\h.get? p.1=some p.2:=by
 obtain⟨b,hb,e⟩:=List.mem_filterMap.mp hp
 cases q:h.get? b with
 |none=>rw[q]at e;cases e
 |some o =>
   rw[q]at e;have e':(b,o)=p:=Option.some.inj e;subst e';exact⟨hb,q⟩
def Qr.pinned {Xa1:Qc}{σ:St}{H:Hp}{s:Shared}{fp:Qg}(I:Qr X Xa1 σ H s)(hf:∀b∈fp,Yb X Xa1 H b)(ho:∀b∈fp,∃o,s.heap.get? b=some o/\∀v,o.data≠.cell v):Qr X (Xa1++UA fp s.heap) σ H s :=
 I.pins_of fun p hp=>(XG.mp hp).elim (fun z=>I.pin p (XH _ z)) fun z=>by
  obtain⟨hb,e⟩:=Ec z;obtain⟨f0,f1,f2,_⟩:=hf p.1 hb;obtain⟨o,e',d⟩:=ho p.1 hb;rw[e]at e';cases e';exact⟨e,f0,f1,f2,d⟩
def Qr.unpinned {Xa1 pl:Qc}{σ:St}{H:Hp}{s:Shared}(I:Qr X (Xa1++pl) σ H s):Qr X Xa1 σ H s:=I.pins_of fun p hp=>I.pin p (XH _ (Ui _ hp))
def Vx {iter:Expr}{body:List Stmt}{wi:TI}{g:TG}{tb:TS}{pos:Pos}(hp:PassesOwn (model X.prog X.w) X.A X.env X.xe)(hc:X.calm=true)(hi:PI X tg iter wi)(hg:PG X tg g)(hb:PSs X body tb)
 (hs:∀x,foldedSetIterable iter X.env x=pure x:=by intro _;rfl):PS X (.For tg iter body [] pos) (Ur wi g tb):=by
 intro Xa1 s σ H D I h;refine wpAny_For (Q6 (hi Xa1 s σ H _ I h) fun v s1 h1=>Q6 h1 fun itv s2 h2=>?_) hs;obtain⟨it,fp,tn,J,H2,e,I2,T,st2,f2,W,⟨m0,w0⟩,turn⟩:=h2;subst e;have stat:∀{H':Hp},(∀b∈fp,H' b=none)->∀b∈fp,Yb X Xa1 H' b:=fun hn b hb=>⟨hn b hb,(f2 b hb).2⟩;refine codeAny_forLoop_any (fun n s'=>∃i σ' H',Qr X Xa1 σ' H' s'/\tn i s'.heap/\(∀b∈fp,H' b=none)/\W i n σ' H') ?_ m0 ⟨0,σ,H2,I2,st2,fun b hb=>(f2 b hb).1,w0⟩
 rintro n s3 ⟨i,σ3,H3,I3,st3,fr3,w3⟩
 rcases turn i n σ3 H3 w3 with ⟨stop,qn⟩|⟨go,N,hN,step⟩
 ·refine wpAny_passesOwn hp (Q6 (T.done X rfl rfl rfl hc i Xa1 s3 σ3 H3 X.xe I3 (stat fr3) st3 stop) fun r s4 ⟨hr,I4⟩=>?_)
  subst hr;exact wpAny_execs_nil ⟨σ3,H3,I4,qn⟩
 ·refine wpAny_passesOwn hp (Q6 (T.item X rfl rfl rfl hc i Xa1 s3 σ3 H3 X.xe I3 (stat fr3) st3 go) fun r s4 ⟨u,hr,h4⟩=>?_)
  subst hr;refine wpAny_passesOwn hp (Q6 h4 fun _ s5 ⟨x,H5,I5,r5,y5,st5,fr5⟩=>?_);have I5':=I5.pinned (stat fr5) (T.obj _ _ st5);refine wpAny_passesOwn hp (Q6 (hg _ s5 σ3 H5 x u _ I5' r5 (step x H5 y5)) fun _ s6 ⟨σ6,H6,I6,q6⟩=>?_);refine wpAny_passesOwn hp (Q6 (hb _ s6 σ6 H6 _ I6 q6) fun f s7 q7=>?_)
  have again:∀{σ7:St} {H7:Hp},Qr X (Xa1++UA fp s5.heap) σ7 H7 s7->N σ7 H7->∃m,m<n/\∃i σ' H',Qr X Xa1 σ' H' s7/\tn i s7.heap/\(∀b∈fp,H' b=none)/\W i m σ' H':=fun{σ7 H7} I7 n7=>by
   obtain⟨m',hm,w7⟩:=hN σ7 H7 n7;refine⟨m',hm,i+1,σ7,H7,I7.unpinned,T.keep _ _ _ st5 fun b hb o e=>(I7.pin (b,o) (XH _ (XH _ (UN hb e)))).1,fun b hb=>?_,w7⟩;obtain⟨o,e,d⟩:=T.obj _ _ st5 b hb
   exact(I7.pin (b,o) (XH _ (XH _ (UN hb e)))).2.1
  cases f with
  |next=>obtain⟨σ7,H7,I7,n7⟩:=q7;exact again I7 n7
  |cont=>obtain⟨σ7,H7,I7,n7⟩:=q7;exact again I7 n7
  |brk=>obtain⟨σ7,H7,I7,q7⟩:=q7;exact⟨σ7,H7,I7.unpinned,q7⟩
  |ret v=>obtain⟨x7,σ7,H7,I7,r7,q7⟩:=q7;exact⟨x7,σ7,H7,I7.unpinned,r7,q7⟩
end
abbrev R2:=V->V->Hp->VK->Prop
def OpR (X:Cx)(f:Value->Value->Sem Value)(r:R2):Prop :=
 ∀(Xa1:Qc) (s:Shared) (σ:St) (H:Hp) (x y:V) (v u:Value) (Q:VK),Qr X Xa1 σ H s->QL x v->QL y u->r x y H Q ->
  wpAny (model X.prog X.w) X.A (f v u) (EP X Xa1 σ Q) X.xe s
def UnR (X:Cx)(f:Value->Sem Value)(r:V->Hp->VK->Prop):Prop :=
 ∀(Xa1:Qc) (s:Shared) (σ:St) (H:Hp) (x:V) (v:Value) (Q:VK),Qr X Xa1 σ H s->QL x v->r x H Q ->
  wpAny (model X.prog X.w) X.A (f v) (EP X Xa1 σ Q) X.xe s
def Z0 (X:Cx)(f:Value)(r:List V->Hp->VK->Prop):Prop :=
 ∀(Xa1:Qc) (s:Shared) (σ:St) (H:Hp) (xs:List V) (us:Qe) (Q:VK),Qr X Xa1 σ H s->QK xs us->r xs H Q ->
  wpAny (model X.prog X.w) X.A (call f us) (EP X Xa1 σ Q) X.xe s
def Td (X:Cx)(r:V->Hp->(Bool->Hp->Prop)->Prop):Prop :=
 ∀(Xa1:Qc) (s:Shared) (σ:St) (H:Hp) (x:V) (v:Value) (Q:Bool->Hp->Prop),Qr X Xa1 σ H s->QL x v->r x H Q ->
  wpAny (model X.prog X.w) X.A (truthy v) (TP X Xa1 σ Q) X.xe s
def tOp (r:R2)(ta tb:TE):TE:=fun σ H Q=>ta σ H fun x H1=>tb σ H1 fun y H2=>r x y H2 Q
def tUn (r:V->Hp->VK->Prop)(ta:TE):TE:=fun σ H Q=>ta σ H fun x H1=>r x H1 Q
def rI (C:Int->Int->Prop)(g:Int->Int->V):R2:=fun x y H Q=>∃i j,x=.int i/\y=.int j/\C i j/\Q (g i j) H
def rI0 (g:Int->Int->V):R2:=fun x y H Q=>∃i j,x=.int i/\y=.int j/\Q (g i j) H
def rU (g:Int->V):V->Hp->VK->Prop:=fun x H Q=>∃i,x=.int i/\Q (g i) H
section
variable {X:Cx}{a b c:Expr}{ta tb tc:TE}{pos:Pos}
def M8 (ha:PE X a ta)(hb:PE X b tb){Xa1:Qc}{s:Shared}{σ:St}{H:Hp}{R:V->V->Hp->Prop}(I:Qr X Xa1 σ H s)
 (h:ta σ H fun x H1=>tb σ H1 fun y H2=>R x y H2) {Q:Qb} {f:Value->Value->Sem Value}
 (hf:∀v u s2 x y H2,Qr X Xa1 σ H2 s2->QL x v->QL y u->R x y H2->wpAny (model X.prog X.w) X.A (f v u) Q X.xe s2) :
 wpAny (model X.prog X.w) X.A (eval a X.env) (fun v b7=>wpAny (model X.prog X.w) X.A (eval b X.env) (fun u b6=>wpAny (model X.prog X.w) X.A (f v u) Q X.xe b6) X.xe b7) X.xe s:=by
 refine Q6 (ha Xa1 s σ H _ I h) fun v s1 ⟨x,H1,I1,r1,q1⟩=>?_;refine Q6 (hb Xa1 s1 σ H1 _ I1 q1) fun u s2 ⟨y,H2,I2,r2,q2⟩=>?_;exact hf v u s2 x y H2 I2 r1 r2 q2
def QO {op:Operator}{r:R2}(ho:OpR X (binaryOp op) r)(ha:PE X a ta)(hb:PE X b tb):PE X (.BinOp a op b pos) (tOp r ta tb):=by
 intro Xa1 s σ H Q I h;exact wpAny_BinOp (M8 ha hb I h fun v u s2 x y H2 I2 rx ry q=>ho Xa1 s2 σ H2 x y v u Q I2 rx ry q)
def Br {op:UnaryOp}{r:V->Hp->VK->Prop}(ho:UnR X (unaryOp op) r)(ha:PE X a ta):PE X (.UnaryOp op a pos) (tUn r ta):=by
 intro Xa1 s σ H Q I h;exact UnaryOp_ (Q6 (ha Xa1 s σ H _ I h) fun v s1 ⟨x,H1,I1,r1,q1⟩=>ho Xa1 s1 σ H1 x v Q I1 r1 q1)
def opI {f:Value->Value->Sem Value}{C:Int->Int->Prop}{g:Int->Int->Int}
 (rule:∀(i j:Int) (t u:Tok) (s:Shared) (Q:Qb) (E:Qb),C i j->Q (.int (g i j) s.toks) { s with toks:=s.toks+1 }->wpAny (model X.prog X.w) X.A (f (.int i t) (.int j u)) Q E s) :
 OpR X f (rI C fun i j=>.int (g i j)):=by
 intro Xa1 s σ H x y v u Q I rx ry h;obtain⟨i,j,rfl,rfl,hc,q⟩:=h;obtain⟨t,rfl⟩:=rx;obtain⟨t',rfl⟩:=ry;exact rule i j t t' s _ _ hc ⟨.int (g i j),H,I.tok _,⟨_,rfl⟩,q⟩
def MF {f:Value->Value->Sem Value}{g:Int->Int->Int}
 (rule:∀(i j:Int) (t u:Tok) (s:Shared) (Q:Qb) (E:Qb),Q (.int (g i j) s.toks) { s with toks:=s.toks+1 }->wpAny (model X.prog X.w) X.A (f (.int i t) (.int j u)) Q E s) :
 OpR X f (rI0 fun i j=>.int (g i j)):=by
 intro Xa1 s σ H x y v u Q I rx ry h;obtain⟨i,j,rfl,rfl,q⟩:=h;obtain⟨t,rfl⟩:=rx;obtain⟨t',rfl⟩:=ry;exact rule i j t t' s _ _ ⟨.int (g i j),H,I.tok _,⟨_,rfl⟩,q⟩
def M7 {f:Value->Value->Sem Value}{g:Int->Int->Bool}
 (rule:∀(i j:Int) (t u:Tok) (s:Shared) (Q:Qb) (E:Qb),Q (.bool (g i j)) s->wpAny (model X.prog X.w) X.A (f (.int i t) (.int j u)) Q E s) :
 OpR X f (rI0 fun i j=>.bl (g i j)):=by
 intro Xa1 s σ H x y v u Q I rx ry h;obtain⟨i,j,rfl,rfl,q⟩:=h;obtain⟨t,rfl⟩:=rx;obtain⟨t',rfl⟩:=ry;exact rule i j t t' s _ _ ⟨.bl (g i j),H,I,rfl,q⟩
def K9 (i j:Int):Prop:=0<=j/\j<=1000000/\i.natAbs<2^64
def WK (i j:Int):Prop:=(-(2^64)<i/\i<2^64)\/(-(2^64)<j/\j<2^64)
def WK.ok {i j:Int}(h:WK i j):IntMulOk i j:=by
 rcases h with ⟨h1,h2⟩|⟨h1,h2⟩
 ·exact .of_left (intBits_le_64 h1 h2)
 ·exact .of_right (intBits_le_64 h1 h2)
def EM (k:Nat):(0:Int)<=2^k:=by
 rw[two_pow_cast];exact Int.natCast_nonneg _
def Vh:OpR X (binaryOp .Add) (rI0 fun i j=>.int (i+j)):=MF fun _ _ _ _ _ _ _ q=>add_int q
def YS:OpR X (binaryOp .Sub) (rI0 fun i j=>.int (i-j)):=MF fun _ _ _ _ _ _ _ q=>sub_int q
def U6:OpR X (binaryOp .Mult) (rI WK fun i j=>.int (i*j)):=opI fun _ _ _ _ _ _ _ hc q=>mul_int q hc.ok
def Wm:OpR X (binaryOp .Mod) (rI (fun _ j=>0<j) fun i j=>.int (i%j)):=opI fun i j _ _ _ _ _ hc q=>by
 have h1:(0:Int)<j:=hc;exact mod_int' (by omega) (by rw[Int.fmod_eq_emod_of_nonneg i (by omega)];exact q)
def BC:OpR X (binaryOp .Pow) (rI K9 fun i j=>.int (i^j.toNat)):=opI fun _ _ _ _ _ _ _ hc q=>pow_int_small hc.1 hc.2.1 hc.2.2 q
def Tt:OpR X (binaryOp .RShift) (rI (fun _ j=>0<=j) fun i j=>.int (i/2^j.toNat)):=opI fun i j _ _ _ _ _ hc q =>
 rshift_int hc (by rw[Int.fdiv_eq_ediv_of_nonneg i (EM _)];exact q)
def ND:OpR X (binaryOp .BitXor) (rI0 fun i j=>.int (Builtin.bitXor i j)):=MF fun _ _ _ _ _ _ _ q=>xor_int q
def unI {f:Value->Sem Value}{g:Int->Int}
 (rule:∀(i:Int) (t:Tok) (s:Shared) (Q:Qb) (E:Qb),Q (.int (g i) s.toks) { s with toks:=s.toks+1 }->wpAny (model X.prog X.w) X.A (f (.int i t)) Q E s) :
 UnR X f (rU fun i=>.int (g i)):=by
 intro Xa1 s σ H x v Q I rx h;obtain⟨i,rfl,q⟩:=h;obtain⟨t,rfl⟩:=rx;exact rule i t s _ _ ⟨.int (g i),H,I.tok _,⟨_,rfl⟩,q⟩
def B9:UnR X (unaryOp .USub) (rU fun i=>.int (-i)):=unI fun _ _ _ _ _ q=>neg_int q
end
def K3:V->V->Bool
 |.non,.non=>true|.non,.int _=>true|.int _,.non=>true|.non,.bl _=>true|.bl _,.non=>true|.non,.str _=>true|.str _,.non=>true
 |.int _,.int _=>true|.bl _,.bl _=>true|.str _,.str _=>true|.byt _,.byt _=>true
 |.int _,.str _=>true|.str _,.int _=>true|.bl _,.str _=>true|.str _,.bl _=>true
 |_,_=>false
def rEq:R2:=fun x y H Q=>K3 x y=true/\Q (.bl (decide (x=y))) H
def rNe:R2:=fun x y H Q=>K3 x y=true/\Q (.bl (!decide (x=y))) H
def Rf {i j:Int}:decide (V.int i=V.int j)=(i==j):=by
 rw[Bool.eq_iff_iff];simp
def NM {i j:Bool}:decide (V.bl i=V.bl j)=(i==j):=by
 rw[Bool.eq_iff_iff];simp
def Ri {i j:Str}:decide (V.str i=V.str j)=(i==j):=by
 rw[Bool.eq_iff_iff];simp
def R6 {i j:Array UInt8}:decide (V.byt i=V.byt j)=(i.toList==j.toList):=by
 rw[Bool.eq_iff_iff];cases i
 cases j
 simp
section
variable {X:Cx}{a b c:Expr}{ta tb tc:TE}{pos:Pos}
def ZB {Xa1:Qc}{σ:St}{H:Hp}{s:Shared}{Q:VK}{k k':Bool}(I:Qr X Xa1 σ H s)(q:Q (.bl k) H)(e:k=k'):EP X Xa1 σ Q (.bool k') s:=by
 subst e;exact⟨.bl k,H,I,rfl,q⟩
def Gk:OpR X (compareOp .Eq) rEq:=by
 intro Xa1 s σ H x y v u Q I rx ry h;obtain⟨hs,q⟩:=h
 cases x with
 |non =>
   cases rx
   cases y with
   |non=>cases ry;exact PySem.EqNone.eq_none_none (ZB I q (by simp))
   |bl j=>cases ry;exact PySem.EqNone.eq_none_bool (ZB I q (by simp))
   |int j=>obtain⟨t',rfl⟩:=ry;exact PySem.EqNone.eq_none_int (ZB I q (by simp))
   |str j=>obtain⟨t',rfl⟩:=ry;exact PySem.EqNone.eq_none_str (ZB I q (by simp))
   |_=>exact Xl (show false=true from hs) Xv
 |bl i =>
   cases rx
   cases y with
   |non=>cases ry;exact PySem.EqNone.eq_bool_none (ZB I q (by simp))
   |bl j=>cases ry;exact eq_bool (ZB I q NM)
   |str j=>obtain⟨t',rfl⟩:=ry;exact PySem.EqMixed.eq_bool_str (ZB I q (by simp))
   |_=>exact Xl (show false=true from hs) Xv
 |int i =>
   obtain⟨t,rfl⟩:=rx
   cases y with
   |non=>cases ry;exact PySem.EqNone.eq_int_none (ZB I q (by simp))
   |int j=>obtain⟨t',rfl⟩:=ry;exact eq_int (ZB I q Rf)
   |str j=>obtain⟨t',rfl⟩:=ry;exact PySem.EqMixed.eq_int_str (ZB I q (by simp))
   |_=>exact Xl (show false=true from hs) Xv
 |str i =>
   obtain⟨t,rfl⟩:=rx
   cases y with
   |non=>cases ry;exact PySem.EqNone.eq_str_none (ZB I q (by simp))
   |bl j=>cases ry;exact PySem.EqMixed.eq_str_bool (ZB I q (by simp))
   |int j=>obtain⟨t',rfl⟩:=ry;exact PySem.EqMixed.eq_str_int (ZB I q (by simp))
   |str j=>obtain⟨t',rfl⟩:=ry;exact eq_str (ZB I q Ri)
   |_=>exact Xl (show false=true from hs) Xv
 |byt i =>
   obtain⟨t,rfl⟩:=rx
   cases y with
   |byt j=>obtain⟨t',rfl⟩:=ry;exact W.eq_bytes (ZB I q R6)
   |_=>exact Xl (show false=true from hs) Xv
 |_=>cases y<;>exact Xl (show false=true from hs) Xv
def T8:OpR X (compareOp .NotEq) rNe:=by
 intro Xa1 s σ H x y v u Q I rx ry h;obtain⟨hs,q⟩:=h
 cases x with
 |non =>
   cases rx
   cases y with
   |non=>cases ry;exact PySem.EqNone.ne_none_none (ZB I q (by simp))
   |bl j=>cases ry;exact PySem.EqNone.ne_none_bool (ZB I q (by simp))
   |int j=>obtain⟨t',rfl⟩:=ry;exact PySem.EqNone.ne_none_int (ZB I q (by simp))
   |str j=>obtain⟨t',rfl⟩:=ry;exact PySem.EqNone.ne_none_str (ZB I q (by simp))
   |_=>exact Xl (show false=true from hs) Xv
 |bl i =>
   cases rx
   cases y with
   |non=>cases ry;exact PySem.EqNone.ne_bool_none (ZB I q (by simp))
   |bl j=>cases ry;exact ne_bool (ZB I q (X5 not NM))
   |str j=>obtain⟨t',rfl⟩:=ry;exact PySem.EqMixed.ne_bool_str (ZB I q (by simp))
   |_=>exact Xl (show false=true from hs) Xv
 |int i =>
   obtain⟨t,rfl⟩:=rx
   cases y with
   |non=>cases ry;exact PySem.EqNone.ne_int_none (ZB I q (by simp))
   |int j=>obtain⟨t',rfl⟩:=ry;exact ne_int (ZB I q (X5 not Rf))
   |str j=>obtain⟨t',rfl⟩:=ry;exact PySem.EqMixed.ne_int_str (ZB I q (by simp))
   |_=>exact Xl (show false=true from hs) Xv
 |str i =>
   obtain⟨t,rfl⟩:=rx
   cases y with
   |non=>cases ry;exact PySem.EqNone.ne_str_none (ZB I q (by simp))
   |bl j=>cases ry;exact PySem.EqMixed.ne_str_bool (ZB I q (by simp))
   |int j=>obtain⟨t',rfl⟩:=ry;exact PySem.EqMixed.ne_str_int (ZB I q (by simp))
   |str j=>obtain⟨t',rfl⟩:=ry;exact ne_str (ZB I q (X5 not Ri))
   |_=>exact Xl (show false=true from hs) Xv
 |byt i =>
   obtain⟨t,rfl⟩:=rx
   cases y with
   |byt j=>obtain⟨t',rfl⟩:=ry;exact W.ne_bytes (ZB I q (X5 not R6))
   |_=>exact Xl (show false=true from hs) Xv
 |_=>cases y<;>exact Xl (show false=true from hs) Xv
def J1:OpR X (compareOp .Lt) (rI0 fun i j=>.bl (decide (i<j))):=M7 fun _ _ _ _ _ _ _ q=>lt_int q
def Gr:OpR X (compareOp .LtE) (rI0 fun i j=>.bl (decide (i<=j))):=M7 fun _ _ _ _ _ _ _ q=>le_int q
def Wi:OpR X (compareOp .Gt) (rI0 fun i j=>.bl (decide (j<i))):=M7 fun _ _ _ _ _ _ _ q=>gt_int q
def ZA (b:Expr){op:CmpOp}(h:op≠.In:=by decide)(h2:op≠.NotIn:=by decide):behindInMarks op b=false:=by
 have e1:(op==CmpOp.In)=false:=by cases op<;>first|rfl|exact Xl rfl h
 have e2:(op==CmpOp.NotIn)=false:=by cases op<;>first|rfl|exact Xl rfl h2
 cases b<;>simp[behindInMarks,e1,e2]
def GD {op:CmpOp}{r:R2}(ho:OpR X (compareOp op) r)(ha:PE X a ta)(hb:PE X b tb)(hm:behindInMarks op b=false):PE X (.Compare a [op] [b] pos) (tOp r ta tb):=by
 intro Xa1 s σ H Q I h;exact wpAny_Compare1 (M8 ha hb I h fun v u s2 x y H2 I2 rx ry q=>ho Xa1 s2 σ H2 x y v u Q I2 rx ry q) hm
def Gm (t:TE):TT:=fun σ H Q=>t σ H fun x H'=>∃k,x=.bl k/\Q k H'
def ZT {op:CmpOp}{r:R2}(ho:OpR X (compareOp op) r)(ha:PE X a ta)(hb:PE X b tb)(hm:behindInMarks op b=false):PT X (.Compare a [op] [b] pos) (Gm (tOp r ta tb)):=by
 intro Xa1 s σ H Q I h;refine wpAny_isTrue_Compare1 (Q6 (ha Xa1 s σ H _ I h) fun v s1 ⟨x,H1,I1,r1,q1⟩=>Q6 (hb Xa1 s1 σ H1 _ I1 q1) fun u s2 ⟨y,H2,I2,r2,q2⟩ =>
  Q6 (ho Xa1 s2 σ H2 x y v u _ I2 r1 r2 q2) fun c s3 ⟨z,H3,I3,r3,k,e,q3⟩=>?_) hm
 subst e;cases r3;exact wpAny_truthy_bool ⟨H3,I3,q3⟩
def Db (r r':R2)(ta tb tc:TE):TE:=fun σ H Q=>ta σ H fun x H1=>tb σ H1 fun y H2=>r x y H2 fun z H3=>∃k,z=.bl k /\
 (if k=true then tc σ H3 fun w' H4=>r' y w' H4 Q else Q (.bl false) H3)
def RS {op op':CmpOp}{r r':R2}(ho:OpR X (compareOp op) r)(ho':OpR X (compareOp op') r')(ha:PE X a ta)(hb:PE X b tb)(hc:PE X c tc)
 (hm:lastMarks [op,op'] [b,c]=false:=by with_unfolding_all rfl):PE X (.Compare a [op,op'] [b,c] pos) (Db r r' ta tb tc):=by
 intro Xa1 s σ H Q I h;refine Compare_chain (Q6 (ha Xa1 s σ H _ I h) fun v s1 ⟨x,H1,I1,r1,q1⟩=>chain_link (Q6 (hb Xa1 s1 σ H1 _ I1 q1) fun u s2 ⟨y,H2,I2,r2,q2⟩ =>
  Q6 (ho Xa1 s2 σ H2 x y v u _ I2 r1 r2 q2) fun d s3 ⟨z,H3,I3,r3,k,e,q3⟩=>?_)) hm
 subst e;cases r3;refine wpAny_truthy_bool ?_
 cases k with
 |false=>exact ite_ff ⟨.bl false,H3,I3,rfl,q3⟩
 |true=>exact ite_tt (chain_last (Q6 (hc Xa1 s3 σ H3 _ I3 q3) fun w' s4 ⟨z',H4,I4,r4,q4⟩=>ho' Xa1 s4 σ H4 y z' u w' Q I4 r2 r4 q4))
def RG {op op':CmpOp}{r r':R2}(ho:OpR X (compareOp op) r)(ho':OpR X (compareOp op') r')(ha:PE X a ta)(hb:PE X b tb)(hc:PE X c tc)
 (hm:lastMarks [op,op'] [b,c]=false:=by with_unfolding_all rfl):PT X (.Compare a [op,op'] [b,c] pos) (Gm (Db r r' ta tb tc)):=by
 intro Xa1 s σ H Q I h;refine isTrue_chain (Q6 (ha Xa1 s σ H _ I h) fun v s1 ⟨x,H1,I1,r1,q1⟩=>test_link (Q6 (hb Xa1 s1 σ H1 _ I1 q1) fun u s2 ⟨y,H2,I2,r2,q2⟩ =>
  Q6 (ho Xa1 s2 σ H2 x y v u _ I2 r1 r2 q2) fun d s3 ⟨z,H3,I3,r3,k,e,q3⟩=>?_)) hm
 subst e;cases r3;refine wpAny_truthy_bool ?_
 cases k with
 |false =>
   obtain⟨k',e',q'⟩:=q3
   cases e'
   exact ite_ff ⟨H3,I3,q'⟩
 |true =>
   refine ite_tt (test_last (Q6 (hc Xa1 s3 σ H3 _ I3 q3) fun w' s4 ⟨z',H4,I4,r4,q4⟩=>Q6 (ho' Xa1 s4 σ H4 y z' u w' _ I4 r2 r4 q4) fun d' s5 ⟨z2,H5,I5,r5,k2,e2,q5⟩=>?_));subst e2;cases r5;exact wpAny_truthy_bool ⟨H5,I5,q5⟩
def MD (K:W.Frag)(x:V)(H:Hp)(k:Bool):Prop :=
 match x with
 |.non=>k=false
 |.bl b=>k=b
 |.int i=>k=(i != 0)
 |.str y=>y.length<=sizeLine/\k=((y.length:Int) != 0)
 |.byt y=>y.size<=sizeLine/\k=((y.size:Int) != 0)
 |.ref p=>(∃xs,SqL K H p xs/\k = !xs.isEmpty)\/(∃xs,SqT K H p xs/\k = !xs.isEmpty)\/∃kvs,H p=some (.dK kvs)/\k = !kvs.isEmpty
 |_=>False
def E2 {κ:Type}{kvs:List (κ×V)}{vs:List (κ×Value)}(r:KV kvs vs):(!vs.isEmpty) = !kvs.isEmpty:=by
 cases r<;>rfl
def Px {xs:List V}{its:Qe}(r:QK xs its):(!its.toArray.isEmpty) = !xs.isEmpty:=by
 cases r<;>simp
def JC:(sizeLine:Nat)<2^63:=by rw[sizeLine_eq];decide
def TV:Td X (fun x H Q=>∃k,MD X.K x H k/\Q k H):=by
 intro Xa1 s σ H x v Q I rx h;obtain⟨k,e,q⟩:=h;have hl:=JC;have hs:sizeLine=16777216:=sizeLine_eq
 cases x with
 |non =>
   cases rx
   have e':k=false:=e;subst e';exact truthy_none ⟨H,I,q⟩
 |bl b =>
   cases rx
   have e':k=b:=e;subst e';exact wpAny_truthy_bool ⟨H,I,q⟩
 |int i =>
   obtain⟨t,rfl⟩:=rx;have e':k=(i != 0):=e;subst e';exact PySem.P.truthy_int ⟨H,I,q⟩
 |str y =>
   obtain⟨t,rfl⟩:=rx;obtain⟨hy,e'⟩:y.length<=sizeLine/\k=((y.length:Int) != 0):=e;subst e';exact PySem.P.truthy_str (by omega) ⟨H,I.tok _,q⟩
 |byt y =>
   obtain⟨t,rfl⟩:=rx;obtain⟨hy,e'⟩:y.size<=sizeLine/\k=((y.size:Int) != 0):=e;subst e';exact W.truthy_bytes (by omega) ⟨H,I.tok _,q⟩
 |ref p =>
   cases rx
   have e':(∃xs,SqL X.K H p xs/\k = !xs.isEmpty)\/(∃xs,SqT X.K H p xs/\k = !xs.isEmpty)\/∃kvs,H p=some (.dK kvs)/\k = !kvs.isEmpty:=e
   rcases e' with ⟨xs,hx,e'⟩|⟨xs,hx,e'⟩|⟨kvs,hx,e'⟩
   ·subst e'
    obtain⟨its,r,pl,hz⟩:=I.list hx;have hlen:=r.length;exact wpAny_truthy_list pl.isList (by simp only[Xw];omega) ⟨H,I.tok _,by rw[Px r];exact q⟩
   ·subst e'
    obtain⟨its,r,pl,hz⟩:=I.tuple hx;have hlen:=r.length;exact truthy_tuple pl (by simp only[Xw];omega) ⟨H,I.tok _,by rw[Px r];exact q⟩
   ·subst e'
    obtain⟨hz,hS,vs,r,m⟩:kvs.length<=sizeLine/\(p==sysModules)=false/\∃vs,KV kvs vs/\s.heap.DictOf (Vq X.prog X.w) p vs:=I.hok p _ hx;have hlen:kvs.length=vs.length:=Paired.length r;exact wpAny_truthy_dict hS m (by omega) ⟨H,I.tok _,by rw[E2 r];exact q⟩
 |_=>exact(show False from e).elim
def Ct (ha:PE X a ta)(he:∀whole,isTrue a X.env whole=(do let v <- whole;standAt a.pos;holding [v] (truthy v))) :
 PT X a (fun σ H Q=>ta σ H fun x H'=>∃k,MD X.K x H' k/\Q k H'):=by
 intro Xa1 s σ H Q I h;exact isTrue_plain (Q6 (ha Xa1 s σ H _ I h) fun v s1 ⟨x,H1,I1,r1,q1⟩=>TV Xa1 s1 σ H1 x v Q I1 r1 q1) (he _)
def Y7 {x:V}{us:Qe}(r:QK [x] us):∃u,us=[u]/\QL x u:=by
 cases r with
 |cons r1 r2=>cases r2;exact⟨_,rfl,r1⟩
def Bt {x y:V}{us:Qe}(r:QK [x,y] us):∃u w',us=[u,w']/\QL x u/\QL y w':=by
 cases r with
 |cons r1 r2 =>
   cases r2 with
   |cons r3 r4=>cases r4;exact⟨_,_,rfl,r1,r3⟩
def Ax (hc:X.calm=true):Z0 X (.builtin "max") (fun xs H Q=>∃i j,xs=[.int i,.int j]/\Q (.int (if j > i then j else i)) H):=by
 intro Xa1 s σ H xs us Q I r h;obtain⟨i,j,rfl,q⟩:=h;obtain⟨u,w',rfl,⟨t,rfl⟩,⟨t',rfl⟩⟩:=Bt r;refine max_two_ints (I.ok.hd hc) fun h' tk k=>⟨_,H,I.kept k,?_,q⟩
 by_cases hj:j > i
 ·rw[Xd hj,Xd hj];exact⟨_,rfl⟩
 ·rw[Xb hj,Xb hj];exact⟨_,rfl⟩
def Au (hc:X.calm=true):Z0 X (.builtin "min") (fun xs H Q=>∃i j,xs=[.int i,.int j]/\Q (.int (if j<i then j else i)) H):=by
 intro Xa1 s σ H xs us Q I r h;obtain⟨i,j,rfl,q⟩:=h;obtain⟨u,w',rfl,⟨t,rfl⟩,⟨t',rfl⟩⟩:=Bt r;refine min_two_ints (I.ok.hd hc) fun h' tk k=>⟨_,H,I.kept k,?_,q⟩
 by_cases hj:j<i
 ·rw[Xd hj,Xd hj];exact⟨_,rfl⟩
 ·rw[Xb hj,Xb hj];exact⟨_,rfl⟩
def Aw:Z0 X (.type "int") (fun xs H Q=>(∃i,xs=[.int i]/\Q (.int i) H)\/∃k,xs=[.bl k]/\Q (.int (if k then 1 else 0)) H):=by
 intro Xa1 s σ H xs us Q I r h;rcases h with ⟨i,rfl,q⟩|⟨k,rfl,q⟩
 ·obtain⟨u,rfl,t,rfl⟩:=Y7 r
  exact call_int_int ⟨.int i,H,I,⟨_,rfl⟩,q⟩
 ·obtain⟨u,rfl,r1⟩:=Y7 r
  cases r1
  exact call_int_bool ⟨.int (if k then 1 else 0),H,I.tok _,⟨_,rfl⟩,q⟩
end
structure ObjM (h:Heap)(x dx C:Addr)(mA:Str->Qf):Prop where
 obj:h.get? x=some (W.instObj C dx)
 ns:h.Ns1 dx mA
 ne:dx≠x
def Pb {h:Heap}{dx:Addr}{mA:Str->Qf}(n:h.Ns1 dx mA):∃od,h.get? dx=some od/\∀name,W.lookIn name od=some (mA name):=by
 obtain⟨o,es,ep,ho,hd,hk,_,hm⟩:=n;refine⟨o,ho,fun name=>?_⟩;have e:=hm name;unfold nsFind findBy at e;rw[<- Array.find?_toList]at e;unfold W.lookIn;rw[hd];dsimp only;split
 ·rename_i y q
  rw[q]at e;exact X5 some e
 ·rename_i q
  rw[q]at e;have a:es.toList.any (·.refKey)=false:=by
   rw[List.any_eq_false];intro y hy;obtain⟨z,t,hkey⟩:=hk y (Array.mem_toList_iff.mp hy)
   simp[DictEntry.refKey,hkey]
  have a':¬es.toList.any (·.refKey)=true:=by rw[a];exact Xv
  rw[Xb a'];exact X5 some e
def ObjM.look {h:Heap}{x dx C:Addr}{mA:Str->Qf}(I:ObjM h x dx C mA):∃od,W.InstAt h x (W.instObj C dx) C (some od)/\∀name,W.lookIn name od=some (mA name) :=
 let ⟨od,ho,hl⟩:=Pb I.ns
 ⟨od,⟨I.obj,rfl,rfl,ho⟩,hl⟩
section
variable {prog:Program}{w:World}{A:Around}{E:Qb}{s:Shared}{K:W.Frag}{x dx C f:Addr}{mA:Str->Qf}{name:Str}{v:Value}
def Fa {expr:Bool}{Q:Qb}(X:K.In s.heap)(I:ObjM s.heap x dx C mA)(hg:W.plainGet K C name=true)(hh:W.hasDictIn K C=true)
 (ha:W.findIn K (.ref C) name=some none) (hv:mA name=some v) (hv':W.handedIn v=true) (h:Q v { s with toks:=s.toks+1 }) :
 wpAny (model prog w) A (getAttr (.ref x) name expr) Q E s:=by
 obtain⟨od,J,hl⟩:=I.look;exact W.get_value X J (W.plainGet_of hg).1 (W.findObj_own hh ha rfl (by rw[hl,hv])) hv' h
def Cd {pl:Sem Bool}{Q:Value×Qe->Shared->Prop}(X:K.In s.heap)(I:ObjM s.heap x dx C mA)(hg:W.plainGet K C name=true)
 (hf:W.findIn K (.ref C) name=some (some (.ref f))) (ht:W.isFn K (.ref f)=true) (hv:mA name=none) (h:Q (.ref f,[.ref x]) s) :
 wpAny (model prog w) A (getMethod (.ref x) name pl) Q E s:=by
 obtain⟨od,J,hl⟩:=I.look;exact W.method_fn X J (W.plainGet_of hg).1 (W.plainGet_of hg).2 hf (beq_iff_eq.mp ht) (by show(W.lookIn name od).map (·.isSome)=some false;rw[hl,hv];rfl) h
def D5 {ns:Qh}{Q:Unit->Shared->Prop}(X:K.In s.heap)(I:ObjM s.heap x dx C mA)
 (hs:W.findIn K (.ref C) "__setattr__"=some (some (.builtin "object.__setattr__"))) (hp:W.plainOver K C=true) (ht:W.takerIn K C name=some none) (hh:W.hasDictIn K C=true)
 (hw:PySem.Within mA ns) (hsz:ns.length<=sizeLine)
 (h:∀h',ObjM h' x dx C (fun y=>if y=name then some v else mA y)->Heap.SameBut dx s.heap h'->Q () { s with heap:=h',toks:=s.toks+2 }) :
 wpAny (model prog w) A (setAttr (.ref x) name v) Q E s:=by
 obtain⟨od,J,hl⟩:=I.look;refine W.set_plain X J hs (W.osa_open (s:={ s with toks:=s.toks+1 }) (r:=none) X J hp ht fun b=>?_);obtain⟨cd,hc,hd'⟩:=W.any_some hh;have hx:s.heap.get? x=some ⟨.ref C,some dx,.plain,#[]⟩:=I.obj;refine Xa (Xn (Xa (Xa (wpAny_loadPart hx (Xa (W.Looks.here (s:={ s with toks:=s.toks+1 }) (W.looks_clsIn X hc) ?_))))));rw[hd'];refine Xn (a:=some dx) (Xa (Xn (Xa ?_)));refine wpAny_nsSet1 (s:={ s with toks:=s.toks+1 }) I.ns fun h' hn2 hs2=>?_;obtain⟨oD,esD,epD,hoD,hdD,hcD⟩:=hn2.count (PySem.Within.cons name v hw);refine Xa (wpAny_lookBehind hoD (by rw[hdD];exact pastItsLine_dict (VM hcD (by rw[XJ];omega))) ?_);exact Xn (h _ ⟨(hs2.2 _ (Ne.symm I.ne)).trans I.obj,hn2,I.ne⟩ hs2)
def Ao {R:Result->Shared->Prop}{vs:Qe}{kw:List (Str×Value)}(X:K.In s.heap)(hm:W.makesIn K C=true)
 (hi:W.findIn K (.ref C) "__init__"=some (some (.ref f))) (hf:W.typeIn K (.ref f)=some (.type "function"))
 (h:codeAny (model prog w) (A.under (.builtin "type.__call__" ⟨.ref C::vs,kw⟩)) (.call (.ref f) ⟨.ref (s.heap.objs.size+1)::vs,kw⟩) (W.InitBack (s.heap.objs.size+1) R)
  { s with heap:=(s.heap.push W.emptyDict).push (W.instObj C s.heap.objs.size) }) :
 codeAny (model prog w) A (.call (.ref C) ⟨vs,kw⟩) R s:=by
 obtain⟨hh,g,d,t,os⟩:=s;exact W.make_core (W.makes_of X hm) (W.looks_findIn X hi) (fun self=>W.bind_fn X self hf) (.inl rfl) h
end
def VN (f:Str)(v:V):List (Str×V)->List (Str×V)
 |[]=>[(f,v)]
 |(g,x)::r=>if g=f then (g,v)::r else (g,x)::VN f v r
theorem P6 (f g:Str)(v:V):∀fs:List (Str×V),(VN f v fs).lookup g=if g=f then some v else fs.lookup g
 |[]=>by
   show List.lookup g [(f,v)]=_
   by_cases h:g=f
   ·have hb:(g==f)=true:=beq_iff_eq.mpr h
    simp only[List.lookup,hb,Xd h]
   ·have hb:(g==f)=false:=beq_eq_false_iff_ne.mpr h
    simp only[List.lookup,hb,Xb h]
 |(k,x)::r=>by
   have ih:=P6 f g v r;rw[show VN f v ((k,x)::r)=(if k=f then (k,v)::r else (k,x)::VN f v r) from rfl];by_cases hk:k=f
   ·rw[Xd hk]
    by_cases h:g=k
    ·have hb:(g==k)=true:=beq_iff_eq.mpr h
     simp only[List.lookup,hb,Xd (h.trans hk)]
    ·have hb:(g==k)=false:=beq_eq_false_iff_ne.mpr h
     simp only[List.lookup,hb,Xb (fun e:g=f=>h (e.trans hk.symm))]
   ·rw[Xb hk]
    by_cases h:g=k
    ·have hb:(g==k)=true:=beq_iff_eq.mpr h
     simp only[List.lookup,hb,Xb (fun e:g=f=>hk (h.symm.trans e))]
    ·have hb:(g==k)=false:=beq_eq_false_iff_ne.mpr h
     simp only[List.lookup,hb];exact ih
theorem HR (f:Str)(v:V):∀fs:List (Str×V),f∈(VN f v fs).map (·.1)/\∀g,g∈fs.map (·.1)->g∈(VN f v fs).map (·.1)
 |[]=>⟨by simp[VN],fun g h=>by simp at h⟩
 |(k,x)::r=>by
   obtain⟨i1,i2⟩:=HR f v r;rw[show VN f v ((k,x)::r)=(if k=f then (k,v)::r else (k,x)::VN f v r) from rfl];by_cases hk:k=f
   ·rw[Xd hk]
    subst hk;exact⟨by simp,fun g h=>by simpa using h⟩
   ·rw[Xb hk]
    refine⟨?_,fun g h=>?_⟩
    ·rw[Xs]
     exact Xe _ i1
    ·rw[Xs]at h ⊢
     rcases Xg.mp h with e|e
     ·exact Xg.mpr (.inl e)
     ·exact Xe _ (i2 g e)
theorem Pq (f:Str)(v:V):∀fs:List (Str×V),(VN f v fs).length<=fs.length+1
 |[]=>by simp[VN]
 |(k,x)::r=>by
   have ih:=Pq f v r;rw[show VN f v ((k,x)::r)=(if k=f then (k,v)::r else (k,x)::VN f v r) from rfl];by_cases hk:k=f
   ·rw[Xd hk,XJ,XJ];omega
   ·rw[Xb hk,XJ,XJ];omega
def ZM.some_of {v:V}{o:Qf}(r:ZM (some v) o):∃u,o=some u/\QL v u:=by
 cases o with
 |none=>exact(show False from r).elim
 |some u=>exact⟨u,rfl,r⟩
def ZM.none_of {o:Qf}(r:ZM none o):o=none:=by
 cases o with
 |none=>rfl
 |some u=>exact(show False from r).elim
def Sx {v:V}{u:Value}(r:QL v u):W.handedIn u=true:=by
 cases v with
 |non=>cases (show u=Value.none from r);rfl
 |bl b=>cases (show u=Value.bool b from r);rfl
 |int i=>obtain⟨t,e⟩:=(show ∃t,u=Value.int i t from r);cases e;rfl
 |str x=>obtain⟨t,e⟩:=(show ∃t,u=Value.str x t from r);cases e;rfl
 |byt b=>obtain⟨t,e⟩:=(show ∃t,u=Value.bytes b t from r);cases e;rfl
 |flt b=>obtain⟨t,e⟩:=(show ∃t,u=Value.float b t from r);cases e;rfl
 |ref a=>cases (show u=Value.ref a from r);rfl
 |ty n=>cases (show u=Value.type n from r);rfl
section
variable {P:Program}{w:World}{H H':Hp}{h h':Heap}{a C dx:Addr}{fs fs':List (Str×V)}
def DD (hok:HOk P w H h)(e:H a=some (.ins C dx fs)):∃mA,ObjM h a dx C mA/\(∀f,ZM (fs.lookup f) (mA f))/\PySem.Within mA (fs.map (·.1))/\fs.length<=1000/\H dx=some (.own a):=by
 obtain⟨d,z,ne,ob,mA,n,r,q⟩:=(show Z7 P w H h a (.ins C dx fs) from hok a _ e)
 exact⟨mA,⟨ob,n,ne⟩,r,q,z,d⟩
end
structure Cls (K:W.Frag)(C:Addr):Prop where
 pg:W.plainGet K C Str.empty=true
 hd:W.hasDictIn K C=true
 po:W.plainOver K C=true
 sa:W.findIn K (.ref C) "__setattr__"=some (some (.builtin "object.__setattr__"))
def Cls.get {K:W.Frag}{C:Addr}(c:Cls K C)(f:Str):W.plainGet K C f=true:=c.pg
def VE (K:W.Frag)(C:Addr)(f:Str):Prop:=W.findIn K (.ref C) f=some none
def VE.taker {K:W.Frag}{C:Addr}{f:Str}(n:VE K C f):W.takerIn K C f=some none:=by
 unfold W.takerIn;rw[show W.findIn K (.ref C) f=some none from n];rfl
structure Meth (K:W.Frag)(C:Addr)(m:Str)(f:Addr):Prop where
 at_:W.findIn K (.ref C) m=some (some (.ref f))
 fn:W.isFn K (.ref f)=true
 kp:W.keepIn K (.ref f)=true
section
variable {X:Cx}{Xa1:Qc}{σ:St}{H:Hp}{s:Shared}{a C dx:Addr}{fs:List (Str×V)}{f:Str}{v:V}{A:Around}{E:Qb}
def E5 {b:Bool}{Q:Qb}(I:Qr X Xa1 σ H s)(e:H a=some (.ins C dx fs))(c:Cls X.K C)(n:VE X.K C f)(l:fs.lookup f=some v)
 (h:∀u s',Qr X Xa1 σ H s'->QL v u->Q u s'):wpAny (model X.prog X.w) A (getAttr (.ref a) f b) Q E s:=by
 obtain⟨mA,O,r,_,_,_⟩:=DD I.hok e;obtain⟨u,hu,ru⟩:=ZM.some_of (v:=v) (o:=mA f) (by rw[<- l];exact r f);exact Fa I.kIn O (c.get f) c.hd n hu (Sx ru) (h u _ (I.tok _) ru)
def Ph {m:Str}{g:Addr}{pl:Sem Bool}{Q:Value×Qe->Shared->Prop}(I:Qr X Xa1 σ H s)(e:H a=some (.ins C dx fs))(c:Cls X.K C)(k:Meth X.K C m g)(l:fs.lookup m=none)
 (h:Q (.ref g,[.ref a]) s):wpAny (model X.prog X.w) A (getMethod (.ref a) m pl) Q E s:=by
 obtain⟨mA,O,r,_,_,_⟩:=DD I.hok e;have hn:mA m=none:=ZM.none_of (by rw[<- l];exact r m);exact Cd I.kIn O (c.get m) k.at_ k.fn hn h
def E4 {y:V}{u:Value}{Q:Unit->Shared->Prop}(I:Qr X Xa1 σ H s)(e:H a=some (.ins C dx fs))(c:Cls X.K C)(n:VE X.K C f)(hl:fs.length<1000)(ry:QL y u)
 (h:∀s',Qr X Xa1 σ (upd H a (.ins C dx (VN f y fs))) s'->Q () s'):wpAny (model X.prog X.w) A (setAttr (.ref a) f u) Q E s:=by
 obtain⟨mA,O,r,wi,_,ho⟩:=DD I.hok e;have hz:(fs.map (·.1)).length<=sizeLine:=by rw[Xk,sizeLine_eq];omega
 refine D5 I.kIn O c.sa c.po n.taker c.hd wi hz fun h' O' sb=>h _ ?_;have hd:∃o,h'.get? dx=some o:=let ⟨o,_,_,e',_⟩:=O'.ns;⟨o,e'⟩;refine I.write (x:=a) (e:=dx) (by rw[e];exact True.intro) (.inr ho) (fun b q hb z=>(sb.2 b hb).trans z) hd ?_;refine⟨by rw[Qu O.ne];exact ho,?_,O.ne,O'.obj,_,O'.ns,fun g=>?_,fun g hg=>?_⟩
 ·have:=Pq f y fs;omega
 ·show ZM ((VN f y fs).lookup g) (if g=f then some u else mA g)
  rw[P6];by_cases q:g=f
  ·rw[Xd q,Xd q];exact ry
  ·rw[Xb q,Xb q];exact r g
 ·by_cases q:g=f
  ·rw[q];exact(HR f y fs).1
  ·refine(HR f y fs).2 g (wi g fun z=>hg ?_)
   show(if g=f then some u else mA g)=none
   rw[Xb q];exact z
def Qr.made (I:Qr X Xa1 σ H s):Qr X Xa1 σ (upd (upd H s.heap.objs.size (.own (s.heap.objs.size+1))) (s.heap.objs.size+1) (.ins C s.heap.objs.size []))
 { s with heap:=(s.heap.push W.emptyDict).push (W.instObj C s.heap.objs.size) }:=by
 have e1:(s.heap.push W.emptyDict).get? s.heap.objs.size=some W.emptyDict:=Xy s.heap rfl
 have e2:((s.heap.push W.emptyDict).push (W.instObj C s.heap.objs.size)).get? (s.heap.objs.size+1)=some (W.instObj C s.heap.objs.size):=by
  have:=Xy (s.heap.push W.emptyDict) (o:=W.instObj C s.heap.objs.size) rfl
  rwa [W0]at this
 have e3:(s.heap.push W.emptyDict).Ns s.heap.objs.size (fun _=>none):=⟨W.emptyDict,#[],_,e1,rfl,(fun e he=>Xl he (by simp)),fun _=>rfl⟩;have I1:=I.laid (a:=s.heap.objs.size) (o:=.own (s.heap.objs.size+1)) (h':=s.heap.push W.emptyDict) (t':=s.toks) (fun b u q=>Xf _ q) (Xu _) ⟨_,e1⟩;refine I1.laid (a:=s.heap.objs.size+1) (o:=.ins C s.heap.objs.size []) (t':=s.toks) (fun b u q=>Xf _ q) (Nat.le_of_eq (W0 _ _)) ?_;have ne:s.heap.objs.size≠s.heap.objs.size+1:=Xp (W1 _);refine⟨by rw[Qu ne,QD],XM _,ne,e2,fun _=>none,(Heap.Ns1.of_empty e3).at fun o q=>Xf _ q,fun _=>True.intro,fun y hy=>Xl rfl hy⟩
def R3 {prog:Program}{w:World}{env:Env}{e:Expr}{f:Str}{pos:Pos}{s:Shared}{Q:Qb}(hb:attributeBase e f env (eval e env)=eval e env)
 (h:wpAny (model prog w) A (eval e env) (fun o b7=>wpAny (model prog w) A (getAttr o f true) Q E b7) E s):wpAny (model prog w) A (eval (.Attribute e f pos) env) Q E s :=
 Attribute_any_ h (by rw[arm_eval_Attribute,hb])
end
def V3 (K:W.Frag)(ta:TE)(f:Str):TE:=fun σ H Q=>ta σ H fun x H1=>∃a C dx fs v,x=.ref a/\H1 a=some (.ins C dx fs)/\Cls K C/\VE K C f/\fs.lookup f=some v/\Q v H1
def Ta (K:W.Frag)(ta tv:TE)(f:Str):TS:=fun D σ H=>tv σ H fun y H1=>ta σ H1 fun x H2=>∃a C dx fs,x=.ref a/\H2 a=some (.ins C dx fs)/\Cls K C/\VE K C f/\fs.length<1000 /\
 D.nx σ (upd H2 a (.ins C dx (VN f y fs)))
section
variable {X:Cx}{o e value:Expr}{f:Str}{pos pos' tpos:Pos}{ta tv:TE}
def Zu (he:PE X e ta)(hb:attributeBase e f X.env (eval e X.env)=eval e X.env):PE X (.Attribute e f pos) (V3 X.K ta f):=by
 intro Xa1 s σ H Q I h;refine R3 hb (Q6 (he Xa1 s σ H _ I h) fun u s1 ⟨x,H1,I1,rx,a,C,dx,fs,v,ex,ea,c,n,l,q⟩=>?_);subst ex;obtain rfl:u=Value.ref a:=rx;exact E5 I1 ea c n l fun u' s2 I2 ru=>⟨v,H1,I2,ru,q⟩
def Wn (ha:PE X o ta)(hv:PE X value tv)(hs:swapsWith value (some (.Attribute o f pos')) pos.line X.env=pure false):PS X (.Assign [.Attribute o f pos'] value pos) (Ta X.K ta tv f):=by
 intro Xa1 s σ H D I h;refine plainObj_wpAny_Assign_Attribute (Q6 (hv Xa1 s σ H _ I h) fun u s1 ⟨y,H1,I1,ry,q⟩=>Q6 (ha Xa1 s1 σ H1 _ I1 q) fun ov s2 ⟨x,H2,I2,rx,a,C,dx,fs,ex,ea,c,n,l,q2⟩=>?_) hs;subst ex;obtain rfl:ov=Value.ref a:=rx;exact E4 I2 ea c n l ry fun s3 I3=>⟨σ,_,I3,q2⟩
end
section
variable {X:Cx}{Xa1:Qc}{σ:St}{H:Hp}{s:Shared}{A:Around}{E:Qb}{Q:Qb}{c:Value}{b:Bool}
end
structure Room (k:Nat)(A:Around):Prop where
 hd:A.handled=none
 dp:A.depth+3*k+5<recursionLimit
 un:A.units+16*k+200<cLine
def Room.mono {j k:Nat}{A:Around}(r:Room k A)(h:j<=k):Room j A:=⟨r.hd,by have:=r.dp;omega,by have:=r.un;omega⟩
def Room.deeper {k:Nat}{A:Around}(r:Room (k+1) A)(env:Env):Room k (A.deeper env) :=
 ⟨r.hd,by have:=r.dp;show A.depth+1+3*k+5<_;omega,by have:=r.un;show A.units+3+16*k+200<_;omega⟩
def E8 {A:Around} {C:Addr} {us:Qe} {kw:List (Str×Value)}:(A.under (.builtin "type.__call__" ⟨.ref C::us,kw⟩)).depth=A.depth+1:=by
 first|rfl|simp[Around.under,Code.weight,Code.isCreation,Code.isGuard,Code.isCaller,Code.frames,Code.isFrame,guardIds]
def Ep {A:Around} {C:Addr} {us:Qe} {kw:List (Str×Value)}:(A.under (.builtin "type.__call__" ⟨.ref C::us,kw⟩)).units=A.units+1:=by
 first|rfl|simp[Around.under,Code.cUnits,Code.frames,Code.isFrame]
def Room.make {k:Nat} {A:Around} (r:Room (k+1) A) (C:Addr) (us:Qe) (kw:List (Str×Value)):Room k (A.under (.builtin "type.__call__" ⟨.ref C::us,kw⟩)) :=
 ⟨r.hd,by have:=r.dp;rw[E8];omega,by have:=r.un;rw[Ep];omega⟩
def Room.depth {k:Nat}{A:Around}(r:Room k A):A.depth<recursionLimit:=by have:=r.dp;omega
def Room.units {k:Nat}{A:Around}(r:Room k A):A.units+64<cLine:=by have:=r.un;omega
def QN:TA:=fun _ H Q=>Q [] H
def QE (ta:TE)(tr:TA):TA:=fun σ H Q=>ta σ H fun x H1=>tr σ H1 fun xs H2=>Q (x::xs) H2
section
variable {X:Cx}{e:Expr}{es:Qi}{te:TE}{t:TA}{pos:Pos}
def Qs:PA X [] QN:=fun _ _ _ _ H Q I h=>Calls.spliced_nil ⟨[],H,I,.nil,h⟩
def Qo (ha:PE X e te)(hr:PA X es t)(hs:starEach (e::es) X.env=(false,eval e X.env)::starEach es X.env:=by rfl):PA X (e::es) (QE te t):=by
 intro pos Xa1 s σ H Q I h;rw[hs];show wpAny _ _ (spliced ((false,eval e X.env)::backTo pos (starEach es X.env))) _ _ s;refine Calls.spliced_cons (Q6 (ha Xa1 s σ H _ I h) fun u s1 ⟨x,H1,I1,r1,q1⟩=>?_);exact Q6 (hr pos Xa1 s1 σ H1 _ I1 q1) fun us s2 ⟨xs,H2,I2,r2,q2⟩=>⟨x::xs,H2,I2,.cons r1 r2,q2⟩
def Gh (t:TA):TE:=fun σ H Q=>t σ H fun xs H1=>xs.length<=sizeLine/\∀p,H1 p=none->Q (.ref p) (upd H1 p (.tup xs))
def Jw (t:TA):TE:=fun σ H Q=>t σ H fun xs H1=>xs.length<=sizeLine/\∀p,H1 p=none->Q (.ref p) (upd H1 p (.lst xs))
def Y9 {x1}(h:PA X es t):PE X (.Tuple es x1 pos) (Gh t):=by
 intro Xa1 s σ H Q I hq;refine wpAny_Tuple_spliced (Q6 (h pos Xa1 s σ H _ I hq) fun us s1 ⟨xs,H1,I1,r,z,q⟩=>⟨by rw[<- r.length];exact z,?_⟩);have hf:H1 s1.heap.objs.size=none:=I1.hok.fresh (Xu _);refine⟨.ref s1.heap.objs.size,upd H1 s1.heap.objs.size (.tup xs),I1.laid (t':=s1.toks) (fun b u e=>Xf _ e) (Xu _) ?_,rfl,q _ hf⟩
 exact⟨z,us,r,⟨_,Xy _ rfl,rfl,_,rfl⟩⟩
def Z1 (h:PA X es t):PE X (.List es pos) (Jw t):=by
 intro Xa1 s σ H Q I hq;refine wpAny_List_spliced (Q6 (h pos Xa1 s σ H _ I hq) fun us s1 ⟨xs,H1,I1,r,z,q⟩=>⟨by rw[<- r.length];exact z,?_⟩);have hf:H1 s1.heap.objs.size=none:=I1.hok.fresh (Xu _);refine⟨.ref s1.heap.objs.size,upd H1 s1.heap.objs.size (.lst xs),I1.laid (t':=s1.toks) (fun b u e=>Xf _ e) (Xu _) ?_,rfl,q _ hf⟩
 exact⟨z,us,0,r,Xy _ rfl⟩
end
abbrev Sp:=List V->Hp->VK->XK->Prop
abbrev CXT:=List Env->Hp->Shared->XK->Qb
structure Env0 (P:Program)(w:World)(K:W.Frag)(mg:Str->Qf)(base:Heap)(A:Around)(outer:List Env)(s:Shared)(H:Hp):Prop where
 frames:A.frames=some outer
 mod:Mod K mg base
 bs:∀b o,base.get? b=some o->s.heap.get? b=some o/\(H b=none\/∃xs,H b=some (.tup xs))
 bsz:base.objs.size<=s.heap.objs.size
 funs:s.heap.FunFrames base outer
 frf:∀b∈frs outer,H b=none
 hok:HOk P w H s.heap
 bare:AllBare s.gens
def CE (outer:List Env)(P:Program)(w:World)(H:Hp)(s:Shared)(Q:VK)(u:Value)(s':Shared):Prop :=
 ∃v H',s'.os=s.os/\AllBare s'.gens/\Un (frs outer) [] H H' s.heap s'.heap/\HOk P w H' s'.heap/\QL v u/\Q v H'
def CR (CX:CXT)(outer:List Env)(P:Program)(w:World)(H:Hp)(s:Shared)(Q:VK)(E:XK)(r:Result)(s':Shared):Prop :=
 match r with
 |.ok (.ret u)=>CE outer P w H s Q u s'
 |.ok _=>False
 |.error e=>CX outer H s E e s'
structure FnOk (P:Program)(w:World)(K:W.Frag)(mg:Str->Qf)(base:Heap)(CX:CXT)(k:Nat)(f:Addr)(fd:FuncData)(ps:Qh)(sp:Sp):Prop where
 len:∀vs H Q E,sp vs H Q E->vs.length=ps.length
 run:∀(A:Around) (outer:List Env) (s:Shared) (H:Hp) (args:Args) (us:Qe) (vs:List V) (Q:VK) (E:XK),Room k A->Env0 P w K mg base A outer s H->BindsTo s fd args (ps.zip us)->QK vs us->sp vs H Q E ->
  codeAny (model P w) A (.call (.ref f) args) (CR CX outer P w H s Q E) s
def Env0.make {P:Program}{w:World}{K:W.Frag}{mg:Str->Qf}{base:Heap}{A:Around}{outer:List Env}{s:Shared}{H:Hp}(e:Env0 P w K mg base A outer s H)(C:Addr)(us:Qe)(kw:List (Str×Value)) :
 Env0 P w K mg base (A.under (.builtin "type.__call__" ⟨.ref C::us,kw⟩)) outer s H:=⟨by first|exact e.frames|(simpa [Around.under,Code.envs,Code.isFrame,pushEnvs] using e.frames),e.mod,e.bs,e.bsz,e.funs,e.frf,e.hok,e.bare⟩
section
variable {X:Cx}{Xa1:Qc}{σ:St}{H:Hp}{s s':Shared}
def Qr.env0 (I:Qr X Xa1 σ H s):Env0 X.prog X.w X.K X.mg X.base X.A X.stack s H :=
 ⟨I.ok.frames,I.ok.mod,I.bs,VM I.ok.bsz I.sz,I.stack,I.stkFree,I.hok,I.bare⟩
def Qr.after {Q:VK}{u:Value}(I:Qr X Xa1 σ H s)(h:CE X.stack X.prog X.w H s Q u s'):EP X Xa1 σ Q u s':=by
 obtain⟨v,H',os,bare,un,hok,r,q⟩:=h;obtain⟨hh,g,d,t,os'⟩:=s';obtain rfl:os'=s.os:=os
 exact⟨v,H',I.call (h':=hh) (g':=g) (d':=d) (t':=t) (ch:=[]) un hok bare (fun b z=>Xl z (by simp)),r,q⟩
end
def Vv (sp:Sp)(dvs:List V)(E:XK)(t:TA):TE:=fun σ H Q=>t σ H fun vs H1=>sp (vs++dvs) H1 Q E
def VR (C:Addr)(m:Str)(sp:Sp)(dvs:List V)(E:XK)(ta:TE)(t:TA):TE:=fun σ H Q=>ta σ H fun x H1=>∃a dx fs,x=.ref a/\H1 a=some (.ins C dx fs)/\fs.lookup m=none /\
 t σ H1 fun vs H2=>sp (x::(vs++dvs)) H2 Q E
def Uy (C:Addr)(sp:Sp)(dvs:List V)(E:XK)(t:TA):TE:=fun σ H Q=>t σ H fun vs H1=>∀x dx,H1 x=none->H1 dx=none->dx≠x ->
 sp (.ref x::(vs++dvs)) (upd (upd H1 dx (.own x)) x (.ins C dx [])) (fun v H2=>v=.non/\Q (.ref x) H2) E
def Vp (K:W.Frag)(fd:FuncData)(ps:Qh)(ds:Qe):Prop :=
 ∀(s:Shared) (us:Qe),K.In s.heap->(us++ds).length=ps.length->BindsTo s fd ⟨us,[]⟩ (ps.zip (us++ds))
def Vp.all {K:W.Frag}{fd:FuncData}{ps:Qh}(h:∀us:Qe,us.length=ps.length->bindArgs fd ⟨us,[]⟩=pure (ps.zip us)):Vp K fd ps []:=fun s us _ hl=>by
 rw[XD]at hl ⊢;exact .of_eq (h us hl)
def Yl (CX:CXT)(X:Cx)(E:XK):Prop := ∀(Xa1:Qc) (σ:St) (H:Hp) (s:Shared) (e:Value) (s':Shared),Qr X Xa1 σ H s->CX X.stack H s E e s'->X.xe e s'
section
variable {X:Cx}{CX:CXT}{k:Nat}{f C:Addr}{fd:FuncData}{ps:Qh}{sp:Sp}{dvs:List V}{ds:Qe}{E:XK}{x m:Str}{p pos apos:Pos}{e o:Expr}{es:Qi}{ta:TE}{t:TA}
def Da {Xa1:Qc}{σ:St}{H:Hp}{s:Shared}{Q:VK}{us:Qe}{vs:List V}(F:FnOk X.prog X.w X.K X.mg X.base CX k f fd ps sp)(hr:Room k X.A)(hb:Vp X.K fd ps ds)(hd:QK dvs ds)(hx:Yl CX X E)
 (I:Qr X Xa1 σ H s) (r:QK vs us) (h:sp (vs++dvs) H Q E):wpAny (model X.prog X.w) X.A (call (.ref f) us) (EP X Xa1 σ Q) X.xe s:=by
 have r2:QK (vs++dvs) (us++ds):=r.append hd;have hl:(us++ds).length=ps.length:=by rw[<- r2.length];exact F.len _ _ _ _ h
 refine wpAny_call (codeAny_mono (F.run X.A X.stack s H ⟨us,[]⟩ (us++ds) (vs++dvs) Q E hr I.env0 (hb s us I.kIn hl) r2 h) fun r s' hq=>?_)
 cases r with
 |error e=>exact hx Xa1 σ H s e s' I hq
 |ok fl =>
   cases fl with
   |ret u=>exact I.after hq
   |next=>exact False.elim hq
   |brk=>exact False.elim hq
   |cont=>exact False.elim hq
def Rr (F:FnOk X.prog X.w X.K X.mg X.base CX k f fd ps sp)(hr:Room k X.A)(hg:Gl X x)(hm:X.mg x=some (.ref f))(hk:W.keepIn X.K (.ref f)=true)(hb:Vp X.K fd ps ds)(hd:QK dvs ds)(hx:Yl CX X E)
 (ha:PA X (e::es) t) (hdb:(x==("__debug__" : Str))=false:=by decide) (he:starEach (e::es) X.env=(false,eval e X.env)::starEach es X.env:=by rfl) (hpl:(backTo pos (starEach es X.env)).any (·.1)=false:=by rfl) :
 PE X (.Call (.Name x p) (e::es) [] pos) (Vv sp dvs E t):=by
 intro Xa1 s σ H Q I h;refine wpAny_Call_Name_kw (JG I hg hm ?_ hdb);refine W.callWith_K (h₀:=X.base) I.ok.mod.kin hk (Q6 (ha pos Xa1 s σ H _ I h) fun us s1 ⟨vs,H1,I1,r,q⟩=>⟨I1.kIn,?_⟩) he hpl;exact Da F hr hb hd hx I1 r q
def DF {pl:Sem Bool}(he:PE X o ta)(c:Cls X.K C)(hm:Meth X.K C m f)(F:FnOk X.prog X.w X.K X.mg X.base CX k f fd ps sp)(hr:Room k X.A)(hb:Vp X.K fd ps ds)(hd:QK dvs ds)(hx:Yl CX X E)(ha:PA X (e::es) t)
 (hst:starEach (e::es) X.env=(false,eval e X.env)::starEach es X.env:=by rfl) (hpl:(backTo pos (starEach es X.env)).any (·.1)=false:=by rfl)
 (ht:eval (.Call (.Attribute o m apos) (e::es) [] pos) X.env=(do
  let ov <- eval o X.env
  standAt apos.atName
  let (f,first) <- holding [ov] (getMethod ov m pl)
  callWith pos f first (backTo pos (starEach (e::es) X.env)) (backToKw pos (keywordEach [] X.env))):=by rfl) :
 PE X (.Call (.Attribute o m apos) (e::es) [] pos) (VR C m sp dvs E ta t):=by
 intro Xa1 s σ H Q I h;refine W.methodCall_KW (pl:=pl) (Q6 (he Xa1 s σ H _ I h) fun u s1 ⟨x,H1,I1,rx,a,dx,fs,ex,ea,l,q⟩=>?_) ht;subst ex;obtain rfl:u=Value.ref a:=rx;refine Ph I1 ea c hm l ?_;refine W.callWith_K (first:=[.ref a]) (h₀:=X.base) I.ok.mod.kin hm.kp (Q6 (ha pos Xa1 s1 σ H1 _ I1 q) fun us s2 ⟨vs,H2,I2,r,q2⟩=>⟨I2.kIn,?_⟩) hst hpl;exact Da (us:=.ref a::us) (vs:=.ref a::vs) F hr hb hd hx I2 (.cons rfl r) q2
def FV {pl:Sem Bool}(he:PE X o ta)(c:Cls X.K C)(hm:Meth X.K C m f)(F:FnOk X.prog X.w X.K X.mg X.base CX k f fd ps sp)(hr:Room k X.A)(hb:Vp X.K fd ps ds)(hd:QK dvs ds)(hx:Yl CX X E)
 (ht:eval (.Call (.Attribute o m apos) [] [] pos) X.env=(do
  let ov <- eval o X.env
  standAt apos.atName
  let (f,first) <- holding [ov] (getMethod ov m pl)
  callWith pos f first (backTo pos (starEach [] X.env)) (backToKw pos (keywordEach [] X.env))):=by rfl) :
 PE X (.Call (.Attribute o m apos) [] [] pos) (VR C m sp dvs E ta QN):=by
 intro Xa1 s σ H Q I h;refine W.methodCall_KW (pl:=pl) (Q6 (he Xa1 s σ H _ I h) fun u s1 ⟨x,H1,I1,rx,a,dx,fs,ex,ea,l,q⟩=>?_) ht;subst ex;obtain rfl:u=Value.ref a:=rx;refine Ph I1 ea c hm l ?_;exact W.callWith_K0 (first:=[.ref a]) I1.kIn hm.kp (Da (us:=[.ref a]) (vs:=[.ref a]) F hr hb hd hx I1 (.cons rfl .nil) q)
structure Mk (K:W.Frag)(C f:Addr):Prop where
 makes:W.makesIn K C=true
 init:W.findIn K (.ref C) "__init__"=some (some (.ref f))
 fn:W.isFn K (.ref f)=true
 kp:W.keepIn K (.ref C)=true
def Sk {Xa1:Qc}{σ:St}{H:Hp}{s:Shared}{Q:VK}{us:Qe}{vs:List V}(M:Mk X.K C f)(F:FnOk X.prog X.w X.K X.mg X.base CX k f fd ps sp)(hr:Room (k+1) X.A)(hb:Vp X.K fd ps ds)(hd:QK dvs ds)
 (hx:Yl CX X E) (I:Qr X Xa1 σ H s) (r:QK vs us)
 (h:∀x dx,H x=none->H dx=none->dx≠x->sp (.ref x::(vs++dvs)) (upd (upd H dx (.own x)) x (.ins C dx [])) (fun v H2=>v=.non/\Q (.ref x) H2) E) :
 wpAny (model X.prog X.w) X.A (call (.ref C) us) (EP X Xa1 σ Q) X.xe s:=by
 have hq:=h (s.heap.objs.size+1) s.heap.objs.size (I.hok.fresh (Nat.le_succ _)) (I.hok.fresh (Xu _)) (Xp (W1 _));have I2:=Qr.made (C:=C) I;have r2:QK (V.ref (s.heap.objs.size+1)::(vs++dvs)) (Value.ref (s.heap.objs.size+1)::(us++ds)):=.cons rfl (r.append hd)
 have hl:(Value.ref (s.heap.objs.size+1)::us++ds).length=ps.length:=by
  have e:=r2.length;rw[F.len _ _ _ _ hq]at e;exact e.symm
 refine wpAny_call (Ao (f:=f) I.kIn M.makes M.init (beq_iff_eq.mp M.fn) (codeAny_mono (F.run _ X.stack _ _ ⟨Value.ref (s.heap.objs.size+1)::us,[]⟩ (Value.ref (s.heap.objs.size+1)::(us++ds)) _ _ E (hr.make C us [])
  (I2.env0.make C us []) (hb _ (Value.ref (s.heap.objs.size+1)::us) I2.kIn hl) r2 hq) fun r s' hq'=>?_))
 cases r with
 |error e=>exact hx Xa1 σ _ _ e s' I2 hq'
 |ok fl =>
   cases fl with
   |ret u =>
     obtain⟨v,H',I3,rv,ev,q3⟩:=I2.after hq';subst ev;exact⟨rv,⟨V.ref (s.heap.objs.size+1),H',I3,rfl,q3⟩⟩
   |next=>exact False.elim hq'
   |brk=>exact False.elim hq'
   |cont=>exact False.elim hq'
def L8 (M:Mk X.K C f)(F:FnOk X.prog X.w X.K X.mg X.base CX k f fd ps sp)(hr:Room (k+1) X.A)(hg:Gl X x)(hm:X.mg x=some (.ref C))(hb:Vp X.K fd ps ds)(hd:QK dvs ds)(hx:Yl CX X E)
 (ha:PA X (e::es) t) (hdb:(x==("__debug__" : Str))=false:=by decide) (he:starEach (e::es) X.env=(false,eval e X.env)::starEach es X.env:=by rfl) (hpl:(backTo pos (starEach es X.env)).any (·.1)=false:=by rfl) :
 PE X (.Call (.Name x p) (e::es) [] pos) (Uy C sp dvs E t):=by
 intro Xa1 s σ H Q I h;refine wpAny_Call_Name_kw (JG I hg hm ?_ hdb);refine W.callWith_K (h₀:=X.base) I.ok.mod.kin M.kp (Q6 (ha pos Xa1 s σ H _ I h) fun us s1 ⟨vs,H1,I1,r,q⟩=>⟨I1.kIn,?_⟩) he hpl;exact Sk M F hr hb hd hx I1 r q
def C0 (M:Mk X.K C f)(F:FnOk X.prog X.w X.K X.mg X.base CX k f fd ps sp)(hr:Room (k+1) X.A)(hg:Gl X x)(hm:X.mg x=some (.ref C))(hb:Vp X.K fd ps ds)(hd:QK dvs ds)(hx:Yl CX X E)
 (hdb:(x==("__debug__" : Str))=false:=by decide):PE X (.Call (.Name x p) [] [] pos) (Uy C sp dvs E QN):=by
 intro Xa1 s σ H Q I h;refine wpAny_Call_Name_kw (JG I hg hm ?_ hdb);exact W.callWith_K0 I.kIn M.kp (Sk (us:=[]) M F hr hb hd hx I .nil h)
end
section
variable {X:Cx}{CX:CXT}{k:Nat}{f C:Addr}{fd:FuncData}{ps ks:Qh}{sp:Sp}{E:XK}{x m:Str}{p pos apos kpos:Pos}{e o:Expr}{es:Qi}{kws:List Keyword}{te ta:TE}{t tk:TA}{nm:Option Str}
variable {g:Qe->Qe->Qe}{gV:List V->List V->List V}
end
structure Qp (N P:Qh)(sc:Scope):Prop where
 kind:sc.kind=.function
 co:sc.isCoroutine=false
 gen:sc.isGenerator=false
 nd:N.Nodup
 pre:N.take P.length=P
 par:∀x∈P,sc.names.lookup x=some .local\/sc.names.lookup x=some .cell
 nofree:∀y∈sc.names,y.2≠.free
theorem Sy {kindOf:Str->Option NameKind}{x:Str}:∀{binds:List (Str×Value)} {m:Str->Qf},(∀v,(x,v)∉binds)->bindL kindOf binds m x=m x
 |[],_,_=>rfl
 |(n,v)::r,m,h=>by
   unfold bindL;rw[Sy fun w hw=>h w (Xe _ hw)]
   split
   ·have:x≠n:=by rintro rfl;exact h v Xc
    simp[this]
   ·rfl
theorem SW {kindOf:Str->Option NameKind}{x:Str}:∀{binds:List (Str×Value)} {m:Str->Qf},(∀v,(x,v)∉binds)->bindC kindOf binds m x=m x
 |[],_,_=>rfl
 |(n,v)::r,m,h=>by
   unfold bindC;rw[SW fun w hw=>h w (Xe _ hw)]
   split
   ·rfl
   ·have:x≠n:=by rintro rfl;exact h v Xc
    simp[this]
theorem SS {kindOf:Str->Option NameKind}{x:Str}{v:Value}:∀{P:Qh} {vs:Qe} {i:Nat} {m:Str->Qf},P.Nodup->P[i]?=some x->vs[i]?=some v->kindOf x=some .local ->
 bindL kindOf (P.zip vs) m x=some v
 |[],_,_,_,_,h,_,_=>by simp at h
 |_::_,[],_,_,_,_,h,_=>by simp at h
 |p::P,w::vs,0,m,nd,h1,h2,hk=>by
   simp at h1 h2;subst h1;subst h2
   show bindL kindOf ((p,w)::P.zip vs) m p=_;unfold bindL;rw[Sy fun v hv=>(XO.mp nd).1 (List.of_mem_zip hv).1,Xd hk]
   simp
 |p::P,w::vs,i+1,m,nd,h1,h2,hk=>by
   show bindL kindOf ((p,w)::P.zip vs) m x=_;unfold bindL;exact SS (i:=i) (XO.mp nd).2 (by simpa using h1) (by simpa using h2) hk
theorem SG {kindOf:Str->Option NameKind}{x:Str}{v:Value}:∀{P:Qh} {vs:Qe} {i:Nat} {m:Str->Qf},P.Nodup->P[i]?=some x->vs[i]?=some v->kindOf x≠some .local ->
 bindC kindOf (P.zip vs) m x=some v
 |[],_,_,_,_,h,_,_=>by simp at h
 |_::_,[],_,_,_,_,h,_=>by simp at h
 |p::P,w::vs,0,m,nd,h1,h2,hk=>by
   simp at h1 h2;subst h1;subst h2
   show bindC kindOf ((p,w)::P.zip vs) m p=_;unfold bindC;rw[SW fun v hv=>(XO.mp nd).1 (List.of_mem_zip hv).1,Xb hk]
   simp
 |p::P,w::vs,i+1,m,nd,h1,h2,hk=>by
   show bindC kindOf ((p,w)::P.zip vs) m x=_;unfold bindC;exact SG (i:=i) (XO.mp nd).2 (by simpa using h1) (by simpa using h2) hk
def start (N:Qh)(vs:List V):St:=vs.map some++List.replicate (N.length-vs.length) none
def Vo (CX:CXT)(P:Program)(w:World)(K:W.Frag)(mg:Str->Qf)(base:Heap)(N:Qh)(qual:Str)(scope:Scope)(f:Addr)(cd:Value)(A:Around)(outer:List Env)(s:Shared)(H:Hp)(E:XK):Cx where
 prog:=P
 w:=w
 K:=K
 mg:=mg
 base:=base
 A:=A.deeper (envOfC qual scope s.heap.objs.size f cd)
 N:=N
 s₀:=s
 H₀:=H
 env:=envOfC qual scope s.heap.objs.size f cd
 outer:=outer
 stack:=envOfC qual scope s.heap.objs.size f cd::outer
 ex:=[]
 calm:=true
 fn:=fun _=>true
 pn:=[]
 xe:=fun e s'=>wpAny (model P w) (A.deeper (envOfC qual scope s.heap.objs.size f cd)) (leaving (envOfC qual scope s.heap.objs.size f cd) e) (fun _ s''=>CX outer H s E e s'') (fun e' s''=>CX outer H s E e' s'') s'
def RE {sc:Scope}{n:Nat}{x:Str}(h:sc.names.lookup x=some .cell):∃c,(cellsFrom n sc.names []).lookup x=some c:=by
 have q:=W.cellsFrom_some sc.names n [] (.inl h);exact Option.isSome_iff_exists.mp q
def AS {CX:CXT}{P:Program}{w:World}{K:W.Frag}{mg:Str->Qf}{base:Heap}{N ps:Qh}{qual:Str}{scope:Scope}{f:Addr}{cd:Value}{A:Around}{outer:List Env}{s s1:Shared}{H:Hp}{E:XK}{us:Qe}{vs:List V}
 (S:Qp N ps scope) (hd:A.handled=none) (e0:Env0 P w K mg base A outer s H) (hl:vs.length=ps.length) (r:QK vs us)
 (x:InCallC s s.heap.objs.size (bindL (envOfC qual scope s.heap.objs.size f cd).kindOf (ps.zip us) fun _=>none) (cellsFrom (s.heap.objs.size+1) scope.names []) (bindC (envOfC qual scope s.heap.objs.size f cd).kindOf (ps.zip us) fun _=>none) s1) :
 Qr (Vo CX P w K mg base N qual scope f cd A outer s H E) [] (start N vs) H s1:=by
 have hpl:ps.length<=N.length:=by have:=X5 List.length S.pre;rw[Jp]at this;omega
 obtain⟨h1,tk,rfl,hk⟩:=x.done;have noA:∀b:Addr,b∉(Vo CX P w K mg base N qual scope f cd A outer s H E).ex:=fun b z=>Xl (show b∈([]:Qg) from z) (by simp)
 refine⟨⟨e0.mod,S.kind,rfl,rfl,Xu _,fun y z c h1 h2=>?_,fun y hy=>?_,fun y c _ h=>?_,fun _=>hd,Around.frames_deeper e0.frames,.inr ⟨rfl,rfl⟩,fun b z=>Xl z (noA b),e0.bs,e0.bsz,fun b _ _=>noA b,fun b z=>Xl z (noA b),e0.funs,e0.frf⟩,
  rfl,e0.bare,Un.kept hk,⟨_,x.toInCall.ns,fun i y v h1 h2 h3=>?_⟩,fun y c h=>⟨_,x.cell y c h⟩,e0.hok.fresh (Xu _),fun y c h=>?_,fun p hp=>Xl (show p∈([]:Qc) from hp) (by simp),e0.hok.kept hk,?_⟩
 ·exact name_of_addr x.apart (PySem.mem_of_lookup h1) (PySem.mem_of_lookup h2)
 ·have hy:scope.names.lookup y=some .cell\/scope.names.lookup y=some .free:=hy
  rcases hy with hy|hy
  ·exact RE hy
  ·exact Xl rfl (S.nofree _ (PySem.mem_of_lookup hy))
 ·exact Y1 (x.above y c (PySem.mem_of_lookup h))
 ·have hi:i<vs.length:=by
   unfold start at h2;by_cases hi:i<vs.length
   ·exact hi
   ·rw[X9 (by simpa using hi)]at h2
    rw[List.getElem?_replicate]at h2;split at h2<;>cases h2
  have ha:vs[i]?=some v:=by
   unfold start at h2;rw[XI (by simpa using hi),Xq]at h2;cases e:vs[i]? with
   |none=>rw[e]at h2;cases h2
   |some a=>rw[e]at h2;cases h2;rfl
  obtain⟨u,hu,rv⟩:=r.get ha
  have hp:ps[i]?=some y:=by
   rw[<- S.pre,List.getElem?_take_of_lt (by omega)];exact h1
  have ndP:ps.Nodup:=by rw[<- S.pre];exact S.nd.sublist (List.take_sublist _ _)
  refine⟨u,rv,?_⟩
  rcases S.par y (List.mem_of_getElem? hp) with k|k
  ·exact .inl ⟨k,SS ndP hp hu k⟩
  ·obtain⟨c,e⟩:=RE (n:=s.heap.objs.size+1) k
   refine .inr ⟨.inl k,c,e,?_⟩;have q:=x.cell y c e;rw[SG ndP hp hu (by show scope.names.lookup y≠_;rw[k];decide)]at q;exact q
 ·exact e0.hok.fresh (Y1 (x.above y c (PySem.mem_of_lookup h)))
 ·unfold start
  show _=N.length;rw[Xm,Xk,List.length_replicate];omega
def KP {CX:CXT}{P:Program}{w:World}{K:W.Frag}{mg:Str->Qf}{base:Heap}{k:Nat}{f:Addr}{name qual:Str}{params:Arguments}{body:List Stmt}{scope:Scope}{dV kV doc pm cdv ct oc:Value}{an od:Qj}
 {osl:Array (Qf)} {N ps:Qh} {sp:Sp} (lk:K.lookup f=some ⟨oc,od,.func (W.fnOf name qual params body scope dV kV doc pm an cdv ct),osl⟩) (hcd:W.codeIn K cdv qual=true) (S:Qp N ps scope)
 (len:∀vs H Q E,sp vs H Q E->vs.length=ps.length)
 (Xa2:∀(A:Around) (outer:List Env) (s:Shared) (H:Hp) (vs:List V) (Q:VK) (E:XK),Room k (A.deeper (envOfC qual scope s.heap.objs.size f cdv))->sp vs H Q E ->
  ∃t,PSs (Vo CX P w K mg base N qual scope f cdv A outer s H E) body t/\t { nx:=fun _ H'=>Q .non H',rt:=Q } (start N vs) H) :
 FnOk P w K mg base CX (k+1) f (W.fnOf name qual params body scope dV kV doc pm an cdv ct) ps sp:=by
 refine⟨len,fun A outer s H args us vs Q E hr e0 hb r hsp=>?_⟩;have hl:=len _ _ _ _ hsp;have KX:K.In s.heap:=e0.mod.kin.keeps fun b o e=>(e0.bs b o e).1;have lim:s.heap.NoLimit:=e0.mod.nolimit.keeps fun b o e=>(e0.bs b o e).1
 have hkind:∀y∈ps.zip us,scope.names.lookup y.1=some .local\/(scope.names.lookup y.1=some .cell/\((cellsFrom (s.heap.objs.size+1) scope.names []).lookup y.1).isSome=true):=fun⟨n,v⟩ hy=>by
  rcases S.par n (List.of_mem_zip hy).1 with q|q
  ·exact .inl q
  ·exact .inr ⟨q,W.cellsFrom_some _ _ _ (.inl q)⟩
 refine codeAny_call_function hr.depth (KX _ _ lk) rfl S.co S.gen rfl (W.codeRec_of KX hcd) (hb _ _ _ _ ?_);refine wpAny_newFunctionEnv_cells S.kind hkind fun env he s1 x=>?_;subst he;refine⟨lim.keeps x.toInCall.keep,codeAny_func ?_⟩;obtain⟨t,ht,hq⟩:=Xa2 A outer s H vs Q E (hr.deeper _) hsp;have I:Qr (Vo CX P w K mg base N qual scope f cdv A outer s H E) [] (start N vs) H s1:=AS S hr.hd e0 hl r x;refine wpAny_mono (ht [] s1 (start N vs) H _ I hq) (fun fl s' hs=>?_) fun e s' hs=>hs
 have fin:∀{σ':St} {H':Hp} {v:V} {u:Value},Qr (Vo CX P w K mg base N qual scope f cdv A outer s H E) [] σ' H' s'->QL v u->Q v H'->CE outer P w H s Q u s' :=
  fun{σ' H' v u} J rv q=>⟨v,H',J.os,J.bare,J.base,J.hok,rv,q⟩
 cases fl with
 |ret u =>
   obtain⟨v,σ',H',J,rv,q⟩:=hs;exact fin J rv q
 |next =>
   obtain⟨σ',H',J,q⟩:=hs;exact fin (v:=V.non) (u:=Value.none) J rfl q
 |brk =>
   obtain⟨_,_,_,q⟩:=hs;exact False.elim q
 |cont =>
   obtain⟨_,_,_,q⟩:=hs;exact False.elim q
section
variable {X:Cx}{x:Str}{p pos:Pos}{e:Expr}{es:Qi}{t:TA}{id T:String}{r:List V->Hp->VK->Prop}
def tCB (r:List V->Hp->VK->Prop)(t:TA):TE:=fun σ H Q=>t σ H fun vs H1=>r vs H1 Q
def Ze (hc:Z0 X (.builtin id) r) (hg:Gl X x) (hm:X.mg x=none) (hv:bootBuiltins x=some (.builtin id)) (ha:PA X (e::es) t) (hn:x ≠ "__name__" := by decide) (hdb:(x==("__debug__" : Str))=false:=by decide)
 (he:starEach (e::es) X.env=(false,eval e X.env)::starEach es X.env:=by rfl) (hpl:(backTo pos (starEach es X.env)).any (·.1)=false:=by rfl):PE X (.Call (.Name x p) (e::es) [] pos) (tCB r t):=by
 intro Xa1 s σ H Q I h;refine wpAny_Call_Name_kw (WV I hg hm hv ?_ hn hdb);exact PyProof.Rows.callWith_builtin1 (Q6 (ha pos Xa1 s σ H _ I h) fun us s1 ⟨vs,H1,I1,r1,q1⟩=>hc Xa1 s1 σ H1 vs us Q I1 r1 q1) he hpl
def Wy (hc:Z0 X (.type T) r) (hg:Gl X x) (hm:X.mg x=none) (hv:bootBuiltins x=some (.type T)) (ha:PA X (e::es) t) (hn:x ≠ "__name__" := by decide) (hdb:(x==("__debug__" : Str))=false:=by decide)
 (he:starEach (e::es) X.env=(false,eval e X.env)::starEach es X.env:=by rfl) (hpl:(backTo pos (starEach es X.env)).any (·.1)=false:=by rfl):PE X (.Call (.Name x p) (e::es) [] pos) (tCB r t):=by
 intro Xa1 s σ H Q I h;refine wpAny_Call_Name_kw (WV I hg hm hv ?_ hn hdb);exact PyProof.Rows.callWith_type1 (Q6 (ha pos Xa1 s σ H _ I h) fun us s1 ⟨vs,H1,I1,r1,q1⟩=>hc Xa1 s1 σ H1 vs us Q I1 r1 q1) he hpl
end
end L2
namespace HT
open PySem PyProof.Rows
section
open PySem.SeqAt
open PySem.AutoSeq1 (wpAny_loadPart')
open PySem.MeetsSeq PySem.MeetsSeq2 PySem.MeetsSeq3
end
section
variable {prog:Program}{w:World}{A:Around}{E:Qb}{s:Shared}
def sIx (n d:Nat):Option Int->Nat
 |none=>d
 |some v=>if v<0 then (v+(n:Int)).toNat else min v.toNat n
def sIx_nat (n d k:Nat):sIx n d (some (k:Int))=min k n:=by
 show(if (k:Int)<0 then ((k:Int)+(n:Int)).toNat else min (k:Int).toNat n)=min k n
 rw[Xb (by omega),Xz]
end
end HT
namespace L2
open PySem PySem.Spec PyProof.Rows
abbrev TO:=St->Hp->(Option Int->Hp->Prop)->Prop
def PO (X:Cx)(e:Option Expr)(t:TO):Prop :=
 ∀(Xa1:Qc) (s:Shared) (σ:St) (H:Hp) (Q:Option Int->Hp->Prop),Qr X Xa1 σ H s->t σ H Q ->
  wpAny (model X.prog X.w) X.A (evalPart e X.env) (fun u s'=>∃o H',Qr X Xa1 σ H' s'/\IsPart u o/\Q o H') X.xe s
def WB:TO:=fun _ H Q=>Q none H
def WP (t:TE):TO:=fun σ H Q=>t σ H fun x H1=>∃i,x=.int i/\Q (some i) H1
def BZ {ns:Ql}:∀{us:Qe},QK (ns.map V.int) us->IntsAre us ns:=by
 induction ns with
 |nil=>intro us r;rw[UU]at r;cases r;exact .nil
 |cons n ns ih =>
   intro us r;rw[Xs]at r;cases r with
   |cons r1 r2 =>
     obtain⟨t,e⟩:=r1;subst e;exact .cons n t (ih r2)
section
variable {X:Cx}{e:Expr}{te:TE}{lo hi:Option Expr}{tl th:TO}{pos p2:Pos}
def UE:PO X none WB:=by
 intro Xa1 s σ H Q I h;rw[evalPart_none];exact Xn ⟨none,H,I,.none,h⟩
def G9 (h:PE X e te):PO X (some e) (WP te):=by
 intro Xa1 s σ H Q I hw;rw[evalPart_some];refine Q6 (h Xa1 s σ H _ I hw) fun u s1 ⟨x,H1,I1,r1,q1⟩=>?_;obtain⟨i,rfl,q⟩:=q1;obtain⟨t,rfl⟩:=r1
 exact⟨some i,H1,I1,.int i t,q⟩
def SlR (X:Cx)(r:V->Option Int->Option Int->Hp->VK->Prop):Prop :=
 ∀(Xa1:Qc) (s:Shared) (σ:St) (H:Hp) (x:V) (v vl vu:Value) (lo hi:Option Int) (sl:Addr) (Q:VK),Qr X Xa1 σ H s->QL x v->s.heap.IsSliceOf sl vl vu .none->IsPart vl lo->IsPart vu hi->r x lo hi H Q ->
  ∃T id,typeLookup (.type T) "__getitem__"=pure (some (.builtin id))/\s.TypeIs v T/\wpAny (model X.prog X.w) X.A (getItem v (.ref sl)) (EP X Xa1 σ Q) X.xe s
def tSl (r:V->Option Int->Option Int->Hp->VK->Prop)(te:TE)(tl th:TO):TE:=fun σ H Q=>te σ H fun x H1=>tl σ H1 fun l H2=>th σ H2 fun u H3=>r x l u H3 Q
def BP {r:V->Option Int->Option Int->Hp->VK->Prop}(hr:SlR X r)(he:PE X e te)(hl:PO X lo tl)(hu:PO X hi th):PE X (.Subscript e (.Slice lo hi none p2) pos) (tSl r te tl th):=by
 intro Xa1 s σ H Q I h;refine Subscript_ (Q6 (he Xa1 s σ H _ I h) fun v s1 ⟨x,H1,I1,r1,q1⟩=>?_);refine wpAny_Slice (Q6 (hl Xa1 s1 σ H1 _ I1 q1) fun vl s2 ⟨l,H2,I2,pl,q2⟩=>Q6 (hu Xa1 s2 σ H2 _ I2 q2) fun vu s3 ⟨u,H3,I3,pu,q3⟩=>?_);rw[evalPart_none];refine Xn ?_;have I4:Qr X Xa1 σ H3 { s3 with heap:=s3.heap.push { cls:=.type "slice",data:=.fields #[vl,vu,.none] } }:=I3.kept (t':=s3.toks) fun b ob q=>Xf _ q;obtain⟨T,id,hT,ht,hg⟩:=hr Xa1 { s3 with heap:=s3.heap.push { cls:=.type "slice",data:=.fields #[vl,vu,.none] } } σ H3 x v vl vu l u s3.heap.objs.size Q I4 r1 (Heap.IsSliceOf.new ..) pl pu q3;show wpAny (model X.prog X.w) X.A (subscriptTail e (.Slice lo hi none p2) v (.ref s3.heap.objs.size)) (EP X Xa1 σ Q) X.xe { s3 with heap:=s3.heap.push { cls:=.type "slice",data:=.fields #[vl,vu,.none] } };exact tail_any (ops:=[.ref s3.heap.objs.size,v]) ht hT hg (by with_unfolding_all rfl)
def Us (xs:List V)(lo hi:Option Int):List V:=(xs.drop (HT.sIx xs.length 0 lo)).take (HT.sIx xs.length xs.length hi-HT.sIx xs.length 0 lo)
def Ie (xs:List V)(lo hi:Option Int):(Us xs lo hi).length<=xs.length:=by
 unfold Us;rw[Jp,Be];omega
end
def ixN (n:Nat)(i:Int):Option Nat:=if 0<=i then (if i<n then some i.toNat else none) else if -(n:Int)<=i then some (i+n).toNat else none
def atI {α:Type}(xs:List α)(i:Int):Option α:=(ixN xs.length i).bind fun j=>xs[j]?
def R9 {n:Nat}{i:Int}{j:Nat}(h:ixN n i=some j):seqIndex? i n=some j/\j<n /\ -(n:Int)<=i/\i<n:=by
 unfold ixN at h;by_cases h0:0<=i
 ·rw[Xd h0]at h
  by_cases h1:i<n
  ·rw[Xd h1]at h
   have e:i.toNat=j:=Option.some.inj h
   exact⟨by rw[seqIndex_of h0 h1,e],by omega,by omega,h1⟩
  ·rw[Xb h1]at h;cases h
 ·rw[Xb h0]at h
  by_cases h1 : -(n:Int)<=i
  ·rw[Xd h1]at h
   have e:(i+n).toNat=j:=Option.some.inj h
   exact⟨by rw[seqIndex_neg (by omega) h1,e],by omega,h1,by omega⟩
  ·rw[Xb h1]at h;cases h
def DE {α:Type}{xs:List α}{i:Int}{v:α}(h:atI xs i=some v):∃j,seqIndex? i xs.length=some j/\xs[j]?=some v/\j<xs.length /\ -(xs.length:Int)<=i/\i<xs.length:=by
 unfold atI at h;cases e:ixN xs.length i with
 |none=>rw[e]at h;cases h
 |some j =>
   rw[e]at h;obtain⟨h1,h2,h3,h4⟩:=R9 e
   exact⟨j,h1,h,h2,h3,h4⟩
def Va {α:Type}{xs:List α}{j:Nat}{v:α}(h:xs[j]?=some v):atI xs (j:Int)=some v:=by
 have hj:j<xs.length:=(Xh.mp h).1
 have e:ixN xs.length (j:Int)=some j:=by
  unfold ixN;rw[Xd (by omega),Xd (by omega)];simp
 unfold atI;rw[e];exact h
def LC (b:Expr):Prop := ∀o i,subscripted b false o i=operate [o,i] (getItem o i)
def IxR (X:Cx)(r:R2):Prop :=
 ∀(value slice:Expr) (Xa1:Qc) (s:Shared) (σ:St) (H:Hp) (x y:V) (v u:Value) (Q:VK),Qr X Xa1 σ H s->QL x v->QL y u->r x y H Q ->
  subscripted slice false v u=operate [v,u] (getItem v u)->wpAny (model X.prog X.w) X.A (subscriptTail value slice v u) (EP X Xa1 σ Q) X.xe s
def MtR (X:Cx)(id:String)(r:V->List V->Hp->VK->Prop):Prop :=
 ∀(Xa1:Qc) (s:Shared) (σ:St) (H:Hp) (x:V) (xs:List V) (v:Value) (us:Qe) (Q:VK),Qr X Xa1 σ H s->QL x v->QK xs us->r x xs H Q ->
  wpAny (model X.prog X.w) X.A (call (.builtin id) (v::us)) (EP X Xa1 σ Q) X.xe s
section
variable {X:Cx}{a b:Expr}{ta tb:TE}{pos:Pos}
def IxR.or {r r':R2}(h:IxR X r)(h':IxR X r'):IxR X (fun x y H Q=>r x y H Q\/r' x y H Q):=by
 intro value slice Xa1 s σ H x y v u Q I rx ry q hs;rcases q with q|q
 ·exact h value slice Xa1 s σ H x y v u Q I rx ry q hs
 ·exact h' value slice Xa1 s σ H x y v u Q I rx ry q hs
def QG {r:R2}(hr:IxR X r)(ha:PE X a ta)(hb:PE X b tb)(hs:LC b:=by exact fun _ _=>rfl):PE X (.Subscript a b pos) (tOp r ta tb):=by
 intro Xa1 s σ H Q I h;exact Subscript_ (M8 ha hb I h fun v u s2 x y H2 I2 rx ry q=>hr a b Xa1 s2 σ H2 x y v u Q I2 rx ry q (hs _ _))
def Kz (K:W.Frag):R2:=fun x y H Q=>∃p xs i v,x=.ref p/\y=.int i/\SqL K H p xs/\atI xs i=some v/\Q v H
def KH (K:W.Frag):R2:=fun x y H Q=>∃p xs i v,x=.ref p/\y=.int i/\SqT K H p xs/\atI xs i=some v/\Q v H
def K4:R2:=fun x y H Q=>∃z i c,x=.str z/\y=.int i/\z.length<=sizeLine/\atI z.cps.toList i=some c/\Q (.str ⟨#[c]⟩) H
def LN:IxR X (Kz X.K):=by
 intro value slice Xa1 s σ H x y v u Q I rx ry h hs;obtain⟨p,xs,i,z,rfl,rfl,hq,he,q⟩:=h
 cases rx
 obtain⟨t,rfl⟩:=ry;obtain⟨its,r,pl,hz⟩:=I.list hq;obtain⟨j,h1,h2,h3,h4,h5⟩:=DE he;obtain⟨w,ew,rw'⟩:=r.get h2;have hl:=r.length;have hn:=JC;have fin:EP X Xa1 σ Q w s:=⟨z,H,I,rw',q⟩
 by_cases h0:0<=i
 ·have hj:i.toNat=j:=by
   rw[seqIndex_of h0 h5]at h1;exact Option.some.inj h1
  exact item_listR pl.isList h0 (by omega) (by rw[hj];simpa using ew) fin hs
 ·have hj:(i+(its.toArray.size:Int)).toNat=j:=by
   rw[seqIndex_neg (by omega) h4]at h1;rw[Xw,<- hl];exact Option.some.inj h1
  exact subscriptTail_builtinR (x:=w) pl.isList.typeIs slot_list_getitem.lookup
   (wpAny_getItem_list_neg (Q:=fun r s'=>r=w/\EP X Xa1 σ Q r s') pl.isList (by omega) (by rw[Xw]<;>omega) (by omega) (by rw[hj];simpa using ew) ⟨rfl,fin⟩) hs
def Lu:IxR X (KH X.K):=by
 intro value slice Xa1 s σ H x y v u Q I rx ry h hs;obtain⟨p,xs,i,z,rfl,rfl,hq,he,q⟩:=h
 cases rx
 obtain⟨t,rfl⟩:=ry;obtain⟨its,r,pl,hz⟩:=I.tuple hq;obtain⟨j,h1,h2,h3,h4,h5⟩:=DE he;obtain⟨w,ew,rw'⟩:=r.get h2;have hl:=r.length;have hn:=JC;have fin:EP X Xa1 σ Q w s:=⟨z,H,I,rw',q⟩
 exact subscriptTail_builtinR (x:=w) pl.typeIs slot_tuple_getitem.lookup
  (getItem_tuple (j:=j) (Q:=fun r s'=>r=w/\EP X Xa1 σ Q r s') pl (by omega) (by omega) (by rw[Xw,<- hl];exact h1) (by simpa using ew) ⟨rfl,fin⟩) hs
def Lo:IxR X K4:=by
 intro value slice Xa1 s σ H x y v u Q I rx ry h hs;obtain⟨z,i,c,rfl,rfl,hz,he,q⟩:=h;obtain⟨t,rfl⟩:=rx;obtain⟨t',rfl⟩:=ry;obtain⟨j,h1,h2,h3,h4,h5⟩:=DE he;have hl:z.cps.toList.length=z.length:=by simp[Str.length]
 rw[hl]at h1 h4 h5;have hn:=JC
 exact tail_any (typeIs_str s z t) slot_str_getitem.lookup (getItem_str (c:=c) (by
  have e1:decide (i < -(2^63:Int))=false:=XN (by omega);have e2:decide (i>=2^63)=false:=XN (by omega);rw[e1,e2,Bool.or_false]) (by rw[h1];simpa using h2) ⟨.str ⟨#[c]⟩,H,I.tok _,⟨_,rfl⟩,q⟩) hs
def rIx (K:W.Frag):R2:=fun x y H Q=>Kz K x y H Q\/KH K x y H Q\/K4 x y H Q
def QH:IxR X (rIx X.K):=LN.or (Lu.or Lo)
def EN (its:Qe) (n j:Nat) (u:Value):Obj.mapSeq (·.setIfInBounds j u) { cls:=.type "list",data:=.seq its.toArray n }={ cls:=.type "list",data:=.seq (its.set j u).toArray n }:=by
 simp[Obj.mapSeq]
def Qr.lst {Xa1:Qc}{σ:St}{H:Hp}{s:Shared}{p:Addr}{xs:List V}(I:Qr X Xa1 σ H s)(h:H p=some (.lst xs)) :
 ∃(its:Qe) (n:Nat),QK xs its/\s.heap.get? p=some { cls:=.type "list",data:=.seq its.toArray n }/\xs.length<=sizeLine:=by
 obtain⟨z,its,n,r,e⟩:=I.hok p _ h
 exact⟨its,n,r,e,z⟩
def Qr.lstUpd {Xa1:Qc}{σ:St}{H:Hp}{s:Shared}{p:Addr}{xs ys:List V}{its its':Qe}{n n':Nat}{f:Obj->Obj}(I:Qr X Xa1 σ H s)(h:H p=some (.lst xs))
 (ho:s.heap.get? p=some { cls:=.type "list",data:=.seq its.toArray n }) (hf:f { cls:=.type "list",data:=.seq its.toArray n }={ cls:=.type "list",data:=.seq its'.toArray n' }) (r:QK ys its') (hz:ys.length<=sizeLine) (t:Nat) :
 Qr X Xa1 σ (upd H p (.lst ys)) { s with heap:=s.heap.update p f,toks:=t }:=by
 have e:(s.heap.update p f).get? p=some { cls:=.type "list",data:=.seq its'.toArray n' }:=by
  rw[WJ f ho (by rw[hf]<;>rfl),hf]
 refine I.write (x:=p) (e:=p) (by rw[h];trivial) (.inl rfl) (fun b u hb q=>(XS _ _ (Ne.symm hb)).trans q) ⟨_,e⟩ ?_
 exact⟨hz,its',n',r,e⟩
def Go:V->V->V->Hp->(Hp->Prop)->Prop:=fun o i v H Q=>∃p xs k j,o=.ref p/\i=.int k/\H p=some (.lst xs)/\ixN xs.length k=some j/\Q (upd H p (.lst (xs.set j v)))
def Ws:MA X Go:=by
 intro Xa1 s σ H o i v ov iv u Q I ro ri rv h;obtain⟨p,xs,k,j,rfl,rfl,hp,hj,q⟩:=h
 cases ro
 obtain⟨t,rfl⟩:=ri;obtain⟨its,n,r,ho,hz⟩:=I.lst hp;obtain⟨h1,h2,h3,h4⟩:=R9 hj;have hl:=r.length;have hn:=JC
 have I':Qr X Xa1 σ (upd H p (.lst (xs.set j v))) { s with heap:=s.heap.update p (Obj.mapSeq (·.setIfInBounds j u)) } :=
  I.lstUpd hp ho (EN its n j u) (r.set rv j) (by rw[List.length_set];exact hz) s.toks
 by_cases h0:0<=k
 ·have hk:k.toNat=j:=by
   rw[seqIndex_of h0 h4]at h1;exact Option.some.inj h1
  exact W.ki_setAt ho h0 (by omega) (by rw[Xw,<- hl];exact h4) (by rw[hk];exact⟨_,I',q⟩)
 ·have hk:(k+(its.toArray.size:Int)).toNat=j:=by
   rw[seqIndex_neg (by omega) h3]at h1;rw[Xw,<- hl];exact Option.some.inj h1
  exact W.ki_setBack ho (by omega) (by rw[Xw,<- hl];exact h3) (by omega) (by rw[hk];exact⟨_,I',q⟩)
def IF (lo hi:Option Int)(n:Nat):(sliceBounds lo hi none n).1=((HT.sIx n 0 lo:Nat):Int)/\(sliceBounds lo hi none n).2.1=((HT.sIx n n hi:Nat):Int)/\(sliceBounds lo hi none n).2.2=1:=by
 refine⟨?_,?_,rfl⟩
 ·cases lo with
  |none=>simp[sliceBounds,HT.sIx]
  |some i =>
    simp only[sliceBounds,HT.sIx,Option.getD_none,show(1:Int) > 0 by decide,if_true]
    by_cases h:i<0
    ·simp only[h,if_true]<;>omega
    ·simp only[h,if_false]<;>omega
 ·cases hi with
  |none=>simp[sliceBounds,HT.sIx]
  |some i =>
    simp only[sliceBounds,HT.sIx,Option.getD_none,show(1:Int) > 0 by decide,if_true]
    by_cases h:i<0
    ·simp only[h,if_true]<;>omega
    ·simp only[h,if_false]<;>omega
def IG (its:Qe)(lo hi:Option Int):slicePick its.toArray lo hi none=((its.drop (HT.sIx its.length 0 lo)).take (HT.sIx its.length its.length hi-HT.sIx its.length 0 lo)).toArray:=by
 obtain⟨h1,h2,h3⟩:=IF lo hi its.toArray.size;unfold slicePick;rw[h1,h2,h3];simp only[sliceRange_one,pick_run,Xw]<;>rfl
def Jz (K:W.Frag):V->Option Int->Option Int->Hp->VK->Prop:=fun x lo hi H Q=>∃a xs,x=.ref a/\SqL K H a xs/\∀p,H p=none->Q (.ref p) (upd H p (.lst (Us xs lo hi)))
def BK:SlR X (Jz X.K):=by
 intro Xa1 s σ H x v vl vu lo hi sl Q I rx hs pl pu h;obtain⟨a,xs,rfl,hx,q⟩:=h
 cases rx
 obtain⟨its,r,ht,hz⟩:=I.list hx;have hlen:=r.length;refine⟨"list",_,slot_list_getitem.lookup,ht.isList.typeIs,?_⟩;refine wpAny_getItem_list_slice ht.isList hs pl pu .none (by simp) ?_ (by rw[Xw]<;>omega);rw[IG,<- hlen];refine⟨.ref s.heap.objs.size,_,I.laid (t':=s.toks) (o:=.lst (Us xs lo hi)) (fun b ob q=>Xf _ q) (Xu _) ?_,rfl,q _ (I.hok.fresh (Xu _))⟩
 exact⟨VM (Ie xs lo hi) hz,_,0,(r.drop (HT.sIx xs.length 0 lo)).take (HT.sIx xs.length xs.length hi-HT.sIx xs.length 0 lo),Xy _ rfl⟩
def IC:Z0 X (.builtin "len") (fun xs H Q=>∃p ys,xs=[.ref p]/\(SqL X.K H p ys\/SqT X.K H p ys)/\Q (.int ys.length) H):=by
 intro Xa1 s σ H xs us Q I r h;obtain⟨p,ys,rfl,hq,q⟩:=h;obtain⟨u,rfl,rx⟩:=Y7 r
 cases rx
 have hn:=JC
 rcases hq with hq|hq
 ·obtain⟨its,r',pl,hz⟩:=I.list hq
  have hlen:=r'.length;exact Calls.call_len_list pl.isList (by simp only[Xw]<;>omega) ⟨.int ys.length,H,I.tok _,⟨s.toks+1,by rw[Xw,hlen]⟩,q⟩
 ·obtain⟨its,r',pl,hz⟩:=I.tuple hq
  have hlen:=r'.length;exact len_tuple pl (by simp only[Xw]<;>omega) ⟨.int ys.length,H,I.tok _,⟨s.toks+1,by rw[Xw,hlen]⟩,q⟩
def IL:Z0 X (.type "list") (fun xs H Q=>∃p ys,xs=[.ref p]/\(SqL X.K H p ys\/SqT X.K H p ys)/\∀l,H l=none->Q (.ref l) (upd H l (.lst ys))):=by
 intro Xa1 s σ H xs us Q I r h;obtain⟨p,ys,rfl,hq,q⟩:=h;obtain⟨u,rfl,rx⟩:=Y7 r
 cases rx
 have fin:∀(its:Qe),QK ys its->ys.length<=sizeLine->∀(h':Heap) (c':Nat),(∀b o',s.heap.get? b=some o'->h'.get? b=some o') ->
  h'.get? s.heap.objs.size=some { cls:=.type "list",dict:=none,data:=.seq its.toArray c',slots := #[] }->EP X Xa1 σ Q (.ref s.heap.objs.size) { s with heap:=h' }:=fun its r' hz h' c' kp e =>
  ⟨.ref s.heap.objs.size,_,I.laid (t':=s.toks) kp (Xu _) (show Z7 X.prog X.w _ h' _ (.lst ys) from⟨hz,its,c',r',e⟩),rfl,q _ (I.hok.fresh (Xu _))⟩
 rcases hq with hq|hq
 ·obtain⟨its,r',pl,hz⟩:=I.list hq
  have hlen:=r'.length;obtain⟨o,ho,hc,n,hd⟩:=pl.isList;exact call_list_seq p (.inl rfl) ho hc hd (fun h' c' kp e=>fin its r' hz h' c' kp e) (by simp only[Xw]<;>omega)
 ·obtain⟨its,r',pl,hz⟩:=I.tuple hq
  have hlen:=r'.length;obtain⟨o,ho,hc,n,hd⟩:=pl;exact call_list_seq p (.inr rfl) ho hc hd (fun h' c' kp e=>fin its r' hz h' c' kp e) (by simp only[Xw]<;>omega)
def IH:Z0 X (.type "tuple") (fun xs H Q=>∃p ys,xs=[.ref p]/\((SqL X.K H p ys/\∀l,H l=none->Q (.ref l) (upd H l (.tup ys)))\/(SqT X.K H p ys/\Q (.ref p) H))):=by
 intro Xa1 s σ H xs us Q I r h;obtain⟨p,ys,rfl,h⟩:=h;obtain⟨u,rfl,rx⟩:=Y7 r
 cases rx
 rcases h with ⟨hq,q⟩|⟨hq,q⟩
 ·obtain⟨its,r',pl,hz⟩:=I.list hq
  have hlen:=r'.length;refine call_tuple_list pl.isList (fun h' kp=>?_) (by simp only[Xw]<;>omega);have I1:Qr X Xa1 σ H { s with heap:=h' }:=I.kept (t':=s.toks) kp
  have I2:Qr X Xa1 σ (upd H h'.objs.size (.tup ys)) { s with heap:=h'.push { cls:=.type "tuple",data:=.seq its.toArray } } :=
   I1.laid (t':=s.toks) (fun b o e=>Xf _ e) (Xu _) (show Z7 X.prog X.w _ _ _ (.tup ys) from⟨hz,its,r',IsTup.new _ _⟩)
  exact⟨.ref h'.objs.size,_,I2,rfl,q _ (I1.hok.fresh (Xu _))⟩
 ·obtain⟨its,r',pl,hz⟩:=I.tuple hq
  exact call_tuple_same pl ⟨.ref p,H,I,rfl,q⟩
def tyV (K:W.Frag)(T:String)(x:V)(H:Hp):Prop:=match x with
 |.str _=>T = "str"
 |.int _=>T = "int"
 | .ref p=>(T = "list" /\ ∃xs,SqL K H p xs)\/(T = "tuple" /\ ∃o,K.lookup p=some o/\o.cls=.type "tuple" /\ o.dict=none) \/
  (T = "dict" /\ ((∃kvs,H p=some (.dK kvs))\/∃kvs,H p=some (.dT kvs)))\/(T = "set" /\ ∃S n,H p=some (.set S n))
 |_=>False
def Tj {Xa1:Qc}{σ:St}{H:Hp}{s:Shared}{T:String}{x:V}{v:Value}(I:Qr X Xa1 σ H s)(r:QL x v)(ty:tyV X.K T x H) :
 s.TypeIs v T/\∀a,v=.ref a->∃ob,s.heap.get? a=some ob/\ob.dict=none:=by
 cases x with
 |str z =>
   obtain⟨t,rfl⟩:=r
   cases (show T = "str" from ty)
   exact⟨typeIs_str s z t,fun _ e=>nomatch e⟩
 |int i =>
   obtain⟨t,rfl⟩:=r
   cases (show T = "int" from ty)
   exact⟨typeIs_int s i t,fun _ e=>nomatch e⟩
 |ref p =>
   cases r
   rcases ty with ⟨rfl,xs,hq⟩|⟨rfl,o,hk,hc,hd⟩|⟨rfl,hk⟩|⟨rfl,S,n,hk⟩
   ·obtain⟨its,_,pl,_⟩:=I.list hq
    refine⟨pl.isList.typeIs,fun a e=>?_⟩
    cases e
    obtain⟨o,n,e,c,hd,_⟩:=pl
    exact⟨o,e,hd⟩
   ·refine⟨⟨o,I.kIn p o hk,hc⟩,fun a e=>?_⟩
    cases e
    exact⟨o,I.kIn _ o hk,hd⟩
   ·have z:∃o,s.heap.get? p=some o/\o.ExactDict:=by
     rcases hk with ⟨kvs,hk⟩|⟨kvs,hk⟩
     ·obtain⟨_,_,_,_,o,_,_,e,ex,_⟩:=I.hok p _ hk
      exact⟨o,e,ex⟩
     ·obtain⟨_,_,_,_,o,_,_,e,ex,_⟩:=I.hok p _ hk
      exact⟨o,e,ex⟩
    obtain⟨o,e,ex⟩:=z;refine⟨⟨o,e,ex.1⟩,fun a e2=>?_⟩
    cases e2
    exact⟨o,e,ex.2.1⟩
   ·obtain⟨o,_,_,_,e,ex,_⟩:=I.hok p _ hk
    refine⟨⟨o,e,ex.1⟩,fun a e2=>?_⟩
    cases e2
    exact⟨o,e,ex.2.1⟩
 |_=>exact False.elim ty
def tBM (K:W.Frag)(T:String)(r:V->List V->Hp->VK->Prop)(to:TE)(t:TA):TE:=fun σ H Q=>to σ H fun x H1=>tyV K T x H1/\t σ H1 fun xs H2=>r x xs H2 Q
variable {o e:Expr}{es:Qi}{to:TE}{t:TA}{name:Str}{apos cpos:Pos}{T id:String}{r:V->List V->Hp->VK->Prop}
def VU (pa:PlainAttrs T) (slot:Slot T name id) (hty:typeOf (.builtin id)=pure (.type "method_descriptor")) (hm:MtR X id r) (ho:PE X o to) (ha:PA X (e::es) t)
 (hbase:attributeBase o name X.env (eval o X.env)=eval o X.env:=by rfl)
 (hfew:((backTo cpos (starEach (e::es) X.env)).all (fun x => !x.1)&&(backToKw cpos (keywordEach [] X.env)).all (fun x=>x.1.isSome)
  && decide ((e::es).length+([]:List Keyword).length+(if ([]:List Keyword).isEmpty then 0 else 1)<30))=true:=by rfl)
 (hline:(apos.endLine==cpos.line)=true:=by rfl) (hs:starEach (e::es) X.env=(false,eval e X.env)::starEach es X.env:=by rfl) (hplain:(backTo cpos (starEach es X.env)).any (·.1)=false:=by rfl) :
 PE X (.Call (.Attribute o name apos) (e::es) [] cpos) (tBM X.K T r to t):=by
 intro Xa1 s σ H Q I h;refine wpAny_Call_method_late hbase hfew hline rfl (Q6 (ho Xa1 s σ H _ I h) fun v s1 ⟨x,H1,I1,r1,ty,q1⟩=>?_);obtain⟨h1,h2⟩:=Tj I1 r1 ty;refine⟨T,id,pa,slot,hty,h1,h2,?_⟩;have hA:=ha cpos Xa1 s1 σ H1 _ I1 q1;rw[hs]at hA ⊢;refine Calls.callWith_builtin (by show(false||(backTo cpos (starEach es X.env)).any (·.1))=false;rw[hplain]<;>rfl) (Calls.evalArgs_plain ?_);exact Q6 hA fun us s2 ⟨vs,H2,I2,r2,q2⟩=>hm Xa1 s2 σ H2 x vs v us Q I2 r1 r2 q2
end
def MtM (X:Cx)(id:String)(r:V->List V->Hp->VK->Prop):Prop :=
 ∀(Xa1:Qc) (s:Shared) (σ:St) (H:Hp) (x:V) (xs:List V) (v:Value) (us:Qe) (Q:VK),Qr X Xa1 σ H s->QL x v->QK xs us->r x xs H Q ->
  wpAny (model X.prog X.w) X.A (call (.builtin id) (v::us)) (EP X Xa1 σ Q) X.xe s
theorem QK.one:∀{x:V} {us:Qe},QK [x] us->∃u,us=[u]/\QL x u
 |_,_,.cons r .nil=>⟨_,rfl,r⟩
theorem QK.rep {xs:List V}{us:Qe}(h:QK xs us):∀k:Nat,QK (List.replicate k xs).flatten (List.replicate k us).flatten
 |0=>.nil
 |k+1=>by
   rw[Jq,Jq,Uf,Uf];exact QK.append h (QK.rep h k)
theorem SR (its:Qe):∀(k:Nat) (acc:Qe),
 List.foldl (fun x1 x2=>x1++x2) acc.toArray (List.replicate k its.toArray)=(acc++(List.replicate k its).flatten).toArray
 |0,acc=>by simp
 |k+1,acc=>by
   have e:acc.toArray++its.toArray=(acc++its).toArray:=by simp
   have e2:(acc++its)++(List.replicate k its).flatten=acc++(List.replicate (k+1) its).flatten:=by
    rw[Jq,Uf,UX]
   rw[<- e2,<- SR its k (acc++its),<- e,Jq,List.foldl_cons]
section
variable {X:Cx}{Xa1:Qc}{σ:St}{H:Hp}{s:Shared}{l b:Addr}{xs ys zs:List V}
def Qr.lset {its its':Qe}{n:Nat}{f:Array Value->Array Value}{t':Nat}(I:Qr X Xa1 σ H s)(hH:H l=some (.lst xs))
 (e:s.heap.get? l=some { cls:=.type "list",data:=.seq its.toArray n }) (hf:f its.toArray=its'.toArray) (hv:QK ys its') (hz:ys.length<=sizeLine) :
 Qr X Xa1 σ (upd H l (.lst ys)) { s with heap:=s.heap.update l (Obj.mapSeq f),toks:=t' }:=by
 have q:=PySem.IsL.update e f;rw[hf]at q;refine I.write (x:=l) (e:=l) (by rw[hH];exact trivial) (.inl rfl) (fun b' u hb hu=>(XS s.heap (Obj.mapSeq f) (Ne.symm hb)).trans hu) ⟨_,q⟩ ?_
 exact⟨hz,its',_,hv,q⟩
def Qr.lnew {its:Qe}{t':Nat}(I:Qr X Xa1 σ H s)(hv:QK ys its)(hz:ys.length<=sizeLine) :
 Qr X Xa1 σ (upd H s.heap.objs.size (.lst ys)) { s with heap:=s.heap.push { cls:=.type "list",data:=.seq its.toArray },toks:=t' } :=
 I.laid (fun _ _ q=>Xf _ q) (Xu _) ⟨hz,its,0,hv,Xy _ rfl⟩
def Qr.fresh (I:Qr X Xa1 σ H s):H s.heap.objs.size=none:=I.hok.fresh (Xu _)
def Qr.lstM (I:Qr X Xa1 σ H s) (hH:H l=some (.lst xs)):xs.length<=sizeLine/\∃(its:Qe) (n:Nat),QK xs its/\xs.length=its.length/\s.heap.get? l=some { cls:=.type "list",data:=.seq its.toArray n }:=by
 obtain⟨z,its,n,r,e⟩:=I.hok l _ hH
 exact⟨z,its,n,r,r.length,e⟩
def FU {n:Nat}(h:n<=sizeLine):Builtin.List.listTooLong n=false:=by
 unfold Builtin.List.listTooLong;exact XN (by omega)
end
section
variable {X:Cx}
def Yc:V->List V->Hp->VK->Prop:=fun x vs H Q=>∃l xs y,x=.ref l/\vs=[y]/\H l=some (.lst xs)/\xs.length<sizeLine/\Q .non (upd H l (.lst (xs++[y])))
def VZ:MtM X "list.append" Yc:=by
 intro Xa1 s σ H x vs v us Q I rx rv h;obtain⟨l,xs,y,rfl,rfl,hH,hz,q⟩:=h
 cases rx
 obtain⟨u,rfl,ru⟩:=rv.one;obtain⟨z,its,n,r,hl,e⟩:=I.lstM hH;refine call_meets F.slot_list_append ⟨_,e,rfl⟩ F.entry_list_append (F.args_list_append_2 _ _) (PySem.list_append l its.toArray n u (by rw[Xw];omega)) ⟨e,?_⟩;refine⟨.non,_,I.lset (its':=its++[u]) hH e (by simp) (r.append (.cons ru .nil)) ?_,rfl,q⟩;rw[Xm,Jr];omega
def Bm:R2:=fun x y H Q=>∃l b xs zs,x=.ref l/\y=.ref b/\H l=some (.lst xs)/\H b=some (.lst zs)/\xs.length+zs.length<=sizeLine/\∀p,H p=none->Q (.ref p) (upd H p (.lst (xs++zs)))
def U8:OpR X (binaryOp .Add) Bm:=by
 intro Xa1 s σ H x y v u Q I rx ry h;obtain⟨l,b,xs,zs,rfl,rfl,hH,hB,hz,q⟩:=h
 cases rx
 cases ry
 obtain⟨z,its,n,r,hl,e⟩:=I.lstM hH;obtain⟨z2,its2,n2,r2,hl2,e2⟩:=I.lstM hB;refine PySem.P.add_list e e2 ?_ (by rw[Xw,Xw];omega);have ea:its.toArray++its2.toArray=(its++its2).toArray:=by simp
 rw[ea];exact⟨.ref _,_,I.lnew (t':=s.toks) (r.append r2) (by rw[Xm];omega),rfl,q _ I.fresh⟩
def KF:R2:=fun x y H Q=>∃l k xs,x=.ref l/\y=.int k/\H l=some (.lst xs) /\ -(2^63)<=k/\k<2^63/\xs.length*k.toNat<=sizeLine /\
 ∀p,H p=none->Q (.ref p) (upd H p (.lst (List.replicate k.toNat xs).flatten))
def Fe {α:Type}(xs:List α)(k:Nat):(List.replicate k xs).flatten.length=k*xs.length:=by
 induction k with
 |zero=>simp
 |succ k ih=>rw[Jq,Uf,Xm,ih,Nat.succ_mul,Nat.add_comm]
def Lq:OpR X (binaryOp .Mult) KF:=by
 intro Xa1 s σ H x y v u Q I rx ry h;obtain⟨l,k,xs,rfl,rfl,hH,h1,h2,hz,q⟩:=h
 cases rx
 obtain⟨t,rfl⟩:=ry;obtain⟨z,its,n,r,hl,e⟩:=I.lstM hH;have hlen:its.toArray.size*k.toNat<=sizeLine:=by rw[Xw,<- hl];exact hz
 have hcap:¬its.toArray.size*k.toNat > (2^63-1)/8:=by
  have:(sizeLine:Nat)<=(2^63-1)/8:=by decide
  omega
 have hfit:¬(!Builtin.List.listFitsIndex k)=true:=by
  rw[fitsIndex_both h1 h2];exact Xv
 have hlong:¬Builtin.List.listTooLong (its.toArray.size*k.toNat)=true:=by
  rw[FU hlen];exact Xv
 have hnew:List.foldl (fun x1 x2=>x1++x2) #[] (List.replicate (if its.toArray.isEmpty=true then 0 else k.toNat) its.toArray)=(List.replicate k.toNat its).flatten.toArray:=by
  have f0:∀m:Nat,List.foldl (fun x1 x2=>x1++x2) #[] (List.replicate m its.toArray)=(List.replicate m its).flatten.toArray:=fun m=>by
   have:=SR its m []
   rw[List.nil_append]at this;exact this
  rw[f0];cases its with
  |nil=>simp
  |cons a r'=>rw[Xb (by simp)]
 refine wpAny_binaryOp_repeat_ref (T := "list") (U := "int") (by decide) ⟨_,e,rfl⟩ (fun s'=>typeIs_int s' k t) noFill_list_mul F.fills_int_mul F.slot_int_rmul repeat_list F.slot_int_index.lookup
  (call_meets F.slot_int_rmul (typeIs_int s k t) F.entry_int_rmul (F.args_int_rmul_2 _ _) (int___rmul___int_list k t l its.toArray n)
   ⟨e,rfl,⟨_,e,rfl⟩,call_meets F.slot_list_mul ⟨_,e,rfl⟩ F.entry_list_mul (F.args_list_mul_2 _ _) (AutoListH.list___mul___list_int_3 l its.toArray n k t hfit hcap hlong) ⟨e,?_⟩⟩)
 rw[hnew];exact⟨.ref _,_,I.lnew (t':=s.toks) (r.rep k.toNat) (by rw[Fe,Nat.mul_comm];exact hz),rfl,q _ I.fresh⟩
end
section
variable {prog:Program}{w:World}{A:Around}{E:Qb}{s:Shared}
end
section
variable {X:Cx}
end
end L2
namespace Att
open PySem PySem.W PySem.Calls PyProof.Rows
def IU {P:Params}{h:Heap}:∀(ns:Ql) (vs:Qe),WellAll P h vs (ns.map WData.int)->IntsAre vs ns:=by
 intro ns;induction ns with
 |nil =>
   intro vs w;rw[UU]at w;cases w;exact .nil
 |cons n ns ih =>
   intro vs w;rw[Xs]at w;cases w with
   |cons a b =>
     cases a
     exact .cons _ _ (ih _ b)
def A9 {l:OpenLaw}{n:Nat}(hn:l.most=some n){P:Params}{h:Heap}{args:List WData}{vals:Qe}
 (hpre:l.row.toRowW.claim.pre args=true) (hwl:WellAll P h vals args) :
 ∃a vs ns,vals=[Value.ref a]/\args=[WData.list (ns.map WData.int)]/\h.get? a=some { cls:=.type "list",data:=.seq vs.toArray }/\IntsAre vs ns/\ns.length<=n:=by
 have hsh:WShape.hasAll [] args [.list .int]=true:=(pre_splitW hpre).1;have hc:l.pre.holds [] { args:=args }=true:=(pre_splitW hpre).2;obtain⟨d,r,rfl,h1,h2⟩:=hasAllW_cons hsh;obtain rfl:=hasAllW_nil h2;obtain⟨xs,rfl,h3⟩:=hasW_list h1;obtain⟨ns,rfl⟩:=items_int h3
 have hlen:ns.length<=n:=by
  unfold OpenLaw.pre at hc;have h4:(WTm.not (.lt (.lit (.int (n:Int))) (.len (.arg 0)))).holds [] { args:=[.list (ns.map .int)] }=true:=by
   have h4:=(holds_andW hc).1;rw[hn]at h4;exact h4
  have h5:=condW_of h4 (w_not (w_lt w_lit (w_len_list (w_arg rfl))));rw[Xk]at h5;refine Nat.le_of_not_lt fun q=>?_;have q':(n:Int)<((ns.length:Nat):Int):=by omega
  first
   |(rw[XW q']at h5;exact Xl h5 (by decide))
   |(simp at h5;omega)
 cases hwl with
 |cons w1 w2 =>
   cases w2
   cases w1 with
   |list ho hall=>exact⟨_,_,ns,rfl,rfl,ho,IU ns _ hall,hlen⟩
def AN (l:OpenLaw)(args:List WData):l.row.toRowW.claim.post args (.bool true) args=true :=
 postW_of (r:=l.row.toRowW) (X:=(true==true))
  (show WShape.has [] (.bool true) .bool=true by first|rfl|decide|simp[WShape.has,WShape.arms,WShape.armsAll])
  (show(WTm.eq .res (.lit (.bool true))).value [] { args:=args,res:=some (.bool true),after:=args }=some (.bool (true==true)) from w_eq_bool (w_res rfl) w_lit) rfl
section
variable {prog:Program}{w:World}{A:Around}{E:Qb}{s:Shared}{K:Frag}
end
end Att
namespace L2
open PySem PySem.Spec PyProof.Rows
theorem SM:∀{vs:Qe} {ns:Ql},IntsAre vs ns->QK (ns.map V.int) vs
 |_,_,.nil=>.nil
 |_,_,.cons n t h=>.cons ⟨t,rfl⟩ (SM h)
def Tc (H:Hp):Prop := ∀b,H b=none\/∃o xs,H b=some (.frz o (.lst xs))
abbrev KOf {K:W.Frag}{h:Heap}(_:K.In h):W.Frag:=K
def VY (s:Stmt)(j:Nat):Stmt:=match s with
 |.ClassDef _ _ _ body _ _ _ _ _ _ _=>body.getD j (.Pass ⟨0,0,0,0⟩)
 |_=>.Pass ⟨0,0,0,0⟩
def Vb (s:Stmt):Arguments:=match s with
 |.FunctionDef _ a _ _ _ _ _ _ _ _=>a
 |_=>{ posonlyargs:=[],args:=[],vararg:=none,kwonlyargs:=[],kw_defaults:=[],kwarg:=none,defaults:=[] }
def Zi (s:Stmt):List Stmt:=match s with
 |.FunctionDef _ _ b _ _ _ _ _ _ _=>b
 |_=>[]
def Qy (s:Stmt):Scope:=match s with
 |.FunctionDef _ _ _ _ _ _ sc _ _ _=>sc
 |_=>{ kind:=.function,names:=[],isGenerator:=false,isCoroutine:=false }
abbrev CX0:CXT:=fun _ _ _ _ _ _=>False
abbrev E0:XK:=fun _ _ _=>False
def J5 {X:Cx}:Yl CX0 X E0:=fun _ _ _ _ _ _ _ h=>h.elim
structure Fun (K:W.Frag)(x qual:Str)(st:Stmt)(f:Addr)(fd:FuncData):Prop where
 ex:∃(oc:Value) (od:Qj) (kV doc pm:Value) (an:Qj) (cdv ct:Value) (osl:Array (Qf)),
  fd=W.fnOf x qual (Vb st) (Zi st) (Qy st) .none kV doc pm an cdv ct/\K.lookup f=some ⟨oc,od,.func fd,osl⟩/\W.codeIn K cdv qual=true
 kp:W.keepIn K (.ref f)=true
section
variable {P:Program}{w:World}{K:W.Frag}{mg:Str->Qf}{base:Heap}
def Fun.ok {x qual:Str}{st:Stmt}{f:Addr}{fd:FuncData}{N ps:Qh}{k:Nat}{sp:Sp}(F:Fun K x qual st f fd)(S:Qp N ps (Qy st))(len:∀vs H Q E,sp vs H Q E->vs.length=ps.length)
 (Xa2:∀(cdv:Value) (A:Around) (outer:List Env) (s:Shared) (H:Hp) (vs:List V) (Q:VK) (E:XK),Room k (A.deeper (envOfC qual (Qy st) s.heap.objs.size f cdv))->sp vs H Q E ->
  ∃t,PSs (Vo CX0 P w K mg base N qual (Qy st) f cdv A outer s H E).nox (Zi st) t/\t { nx:=fun _ H'=>Q .non H',rt:=Q } (start N vs) H):FnOk P w K mg base CX0 (k+1) f fd ps sp:=by
 obtain⟨oc,od,kV,doc,pm,an,cdv,ct,osl,rfl,lk,hcd⟩:=F.ex;refine KP lk hcd S len fun A outer s H vs Q E hr hsp=>?_;obtain⟨t,h,q⟩:=Xa2 cdv A outer s H vs Q E hr hsp
 exact⟨t,h.nox,q⟩
def Fun.binds {x qual:Str}{st:Stmt}{f:Addr}{fd:FuncData}{ps:Qh}(F:Fun K x qual st f fd)
 (h:∀(kV doc pm:Value) (an:Qj) (cdv ct:Value) (us:Qe),us.length=ps.length->bindArgs (W.fnOf x qual (Vb st) (Zi st) (Qy st) .none kV doc pm an cdv ct) ⟨us,[]⟩=pure (ps.zip us)):Vp K fd ps []:=by
 obtain⟨oc,od,kV,doc,pm,an,cdv,ct,osl,rfl,lk,hcd⟩:=F.ex;exact .all (h kV doc pm an cdv ct)
def V7 {x qual:Str}{st:Stmt}{f:Addr}{oc:Value}{od an:Qj}{osl:Array (Qf)}{kV doc pm cdv ct:Value}(l:K.lookup f=some ⟨oc,od,.func (W.fnOf x qual (Vb st) (Zi st) (Qy st) .none kV doc pm an cdv ct),osl⟩)
 (c:W.codeIn K cdv qual=true) (k:W.keepIn K (.ref f)=true):Fun K x qual st f (W.fnOf x qual (Vb st) (Zi st) (Qy st) .none kV doc pm an cdv ct):=⟨⟨oc,od,kV,doc,pm,an,cdv,ct,osl,rfl,l,c⟩,k⟩
end
def Y6 {A:Around}{k:Nat}(hr:Room k A):A.units+1<cLine:=Nat.lt_of_le_of_lt (Nat.add_le_add_left (by decide:1<=64) _) hr.units
def Vr {n:Nat}(h:n<=1000):n<sizeLine:=Nat.lt_of_le_of_lt h (by decide)
section
variable {X:Cx}
def pv (i:Nat) {x:Str} {pos:Pos} (hN:X.N[i]?=some x:=by rfl) (hv:Vis X.env.scope x:=by first|exact Or.inl rfl|exact Or.inr Qa|exact Or.inr (Or.inr rfl)) (hd:(x==("__debug__" : Str))=false:=by decide)
 (hcd:(x==("__classdict__" : Str))=false:=by decide):PE X (.Name x pos) (Q8 i):=N4 hN hv hd hcd
end
def Q4 (H H':Hp):Prop := ∀b o,H b=some o->H' b=some o
def Q4.refl (H:Hp):Q4 H H:=fun _ _ h=>h
def Q4.trans {H H1 H2:Hp}(a:Q4 H H1)(b:Q4 H1 H2):Q4 H H2:=fun c o h=>b c o (a c o h)
def Q4.free {H H':Hp}(e:Q4 H H'){l:Addr}(h:H' l=Option.none):H l=Option.none:=by
 cases q:H l with
 |none=>rfl
 |some o =>
   rw[e l o q]at h;cases h
def Q4.seq {K:W.Frag}{H H':Hp}{a:Addr}{xs:List V}(e:Q4 H H')(h:SqL K H a xs):SqL K H' a xs:=by
 rcases h with (h|⟨o,h⟩)|h
 ·exact .inl (.inl (e _ _ h))
 ·exact .inl (.inr ⟨o,e _ _ h⟩)
 ·exact .inr h
end L2
section
namespace L2
open PySem PySem.Spec PyProof.Rows
theorem HE {env:Env}{F:Str×NameKind->List (Str×Addr)->Sem (ForInStep (List (Str×Addr)))}
 (h1:∀n c cs,env.cells.lookup n=some c->F (n,NameKind.free) cs=pure (.yield ((n,c)::cs)))
 (h2:∀n k cs,k≠NameKind.free->F (n,k) cs=pure (.yield cs)) :
 ∀(l:List (Str×NameKind)) (cs:List (Str×Addr)),(∀p∈l,p.2=NameKind.free->∃c,env.cells.lookup p.1=some c)->(∀x c,cs.lookup x=some c->env.cells.lookup x=some c) ->
  ∃cl,forIn l cs F=pure cl/\(∀x c,cl.lookup x=some c->env.cells.lookup x=some c)/\(∀x c,cs.lookup x=some c->∃c',cl.lookup x=some c')/\∀p∈l,p.2=NameKind.free->∃c,cl.lookup p.1=some c
 |[],cs,_,hc=>⟨cs,by rw[List.forIn_nil],hc,fun x c h=>⟨c,h⟩,fun p hp=>Xl hp (by simp)⟩
 |(n,k)::l,cs,hl,hc=>by
   have hl':∀p∈l,p.2=NameKind.free->∃c,env.cells.lookup p.1=some c:=fun p hp=>hl p (Xe _ hp)
   by_cases hk:k=NameKind.free
   ·subst hk
    obtain⟨c,e⟩:=hl (n,NameKind.free) Xc rfl
    have hc':∀x d,((n,c)::cs).lookup x=some d->env.cells.lookup x=some d:=fun x d q=>by
     cases hx:x==n with
     |true =>
       simp only[XL,hx]at q;cases q;rw[eq_of_beq hx];exact e
     |false =>
       simp only[XL,hx]at q;exact hc x d q
    obtain⟨cl,a1,a2,a3,a4⟩:=HE h1 h2 l ((n,c)::cs) hl' hc'
    have up:∀x d,cs.lookup x=some d->∃d',((n,c)::cs).lookup x=some d':=fun x d q=>by
     cases hx:x==n with
     |true=>exact⟨c,by simp only[XL,hx]⟩
     |false=>exact⟨d,by simp only[XL,hx];exact q⟩
    refine⟨cl,by rw[List.forIn_cons,h1 n c cs e,pure_bind];exact a1,a2,fun x d q=>?_,fun p hp hf=>?_⟩
    ·obtain⟨d',q'⟩:=up x d q
     exact a3 x d' q'
    ·rcases Xg.mp hp with rfl|hp
     ·exact a3 n c (by simp only[XL,beq_self_eq_true])
     ·exact a4 p hp hf
   ·obtain⟨cl,a1,a2,a3,a4⟩:=HE h1 h2 l cs hl' hc
    refine⟨cl,by rw[List.forIn_cons,h2 n k cs hk,pure_bind];exact a1,a2,a3,fun p hp hf=>?_⟩
    rcases Xg.mp hp with rfl|hp
    ·exact Xl hf hk
    ·exact a4 p hp hf
def Ka {scope:Scope}{env:Env}(h:∀p∈scope.names,p.2=NameKind.free->∃c,env.cells.lookup p.1=some c) :
 ∃cl,closureFor scope env=pure cl/\(∀x c,cl.lookup x=some c->env.cells.lookup x=some c)/\∀p∈scope.names,p.2=NameKind.free->∃c,cl.lookup p.1=some c:=by
 simp only[closureFor];obtain⟨cl,a1,a2,_,a4⟩:=HE (env:=env) (F:=fun x r=>match x with|(name,kind)=>if (kind==NameKind.free)=true then do let a <- cellOf env name;pure (ForInStep.yield ((name,a)::r)) else pure (ForInStep.yield r))
  (fun n c cs e=>by
   show(if (NameKind.free==NameKind.free)=true then _ else _)=_
   rw[Xd (show(NameKind.free==NameKind.free)=true from rfl)];unfold cellOf;rw[e];rfl)
  (fun n k cs hk=>by
   have:(k==NameKind.free)=false:=by simpa using hk
   show(if (k==NameKind.free)=true then _ else _)=_
   rw[this,Xb Xv]) scope.names [] h (fun x c q=>by simp at q)
 refine⟨cl,?_,a2,a4⟩
 first
  |exact a1
  |(rw[bind_pure];exact a1)
  |(simp only[bind_pure]at *;exact a1)
  |(rw[show(forIn scope.names ([]:List (Str×Addr)) _ >>= fun r=>pure r)=_ from bind_pure _];exact a1)
theorem Kw {env:Env}:∀{names:List (Str×NameKind)} {x:Str},names.lookup x=some .free ->
 (names.map fun(n,k)=>if (k==NameKind.free&&env.scope.kind==.function&&env.kindOf n==some .cell) then (n,NameKind.cell) else (n,k)).lookup x=some .cell \/
 (names.map fun(n,k)=>if (k==NameKind.free&&env.scope.kind==.function&&env.kindOf n==some .cell) then (n,NameKind.cell) else (n,k)).lookup x=some .free
 |[],_,h=>by simp at h
 |(n,k)::r,x,h=>by
   have ih:=@Kw env r x;show List.lookup x ((if (k==NameKind.free&&env.scope.kind==.function&&env.kindOf n==some .cell)=true then (n,NameKind.cell) else (n,k))::_)=_\/List.lookup x ((if (k==NameKind.free&&env.scope.kind==.function&&env.kindOf n==some .cell)=true then (n,NameKind.cell) else (n,k))::_)=_
   cases hx:x==n with
   |true =>
     simp only[XL,hx]at h;cases h
     by_cases hc:(NameKind.free==NameKind.free&&env.scope.kind==.function&&env.kindOf n==some .cell)=true
     ·rw[Xd hc];left;simp only[XL,hx]
     ·rw[Xb hc];right;simp only[XL,hx]
   |false =>
     simp only[XL,hx]at h;by_cases hc:(k==NameKind.free&&env.scope.kind==.function&&env.kindOf n==some .cell)=true
     ·rw[Xd hc];simp only[XL,hx];exact ih h
     ·rw[Xb hc];simp only[XL,hx];exact ih h
theorem Ku {env:Env}:∀{names:List (Str×NameKind)} {x:Str},((names.map fun(n,k)=>if (k==NameKind.free&&env.scope.kind==.function&&env.kindOf n==some .cell) then (n,NameKind.cell) else (n,k)).lookup x=some .cell \/
 (names.map fun(n,k)=>if (k==NameKind.free&&env.scope.kind==.function&&env.kindOf n==some .cell) then (n,NameKind.cell) else (n,k)).lookup x=some .free)->names.lookup x=some .free\/names.lookup x=some .cell
 |[],_,h=>by simp at h
 |(n,k)::r,x,h=>by
   have ih:=@Ku env r x;have h:List.lookup x ((if (k==NameKind.free&&env.scope.kind==.function&&env.kindOf n==some .cell)=true then (n,NameKind.cell) else (n,k))::_)=_\/List.lookup x ((if (k==NameKind.free&&env.scope.kind==.function&&env.kindOf n==some .cell)=true then (n,NameKind.cell) else (n,k))::_)=_:=h
   cases hx:x==n with
   |true =>
     simp only[XL,hx];by_cases hc:(k==NameKind.free&&env.scope.kind==.function&&env.kindOf n==some .cell)=true
     ·have:k=NameKind.free:=by
       rw[UV,UV]at hc;exact eq_of_beq hc.1.1
      left;rw[this]
     ·rw[Xb hc]at h
      simp only[XL,hx]at h;exact h.symm
   |false =>
     simp only[XL,hx];by_cases hc:(k==NameKind.free&&env.scope.kind==.function&&env.kindOf n==some .cell)=true
     ·rw[Xd hc]at h;simp only[XL,hx]at h;exact ih h
     ·rw[Xb hc]at h;simp only[XL,hx]at h;exact ih h
structure CIn where
 cl:List (Str×Addr)
 C:Addr
 s₀:Shared
 H₀:Hp
 ex:Qg
 pn:Qc
def Zt (X:Cx)(N:Qh)(scope:Scope)(c:CIn):Cx where
 prog:=X.prog
 w:=X.w
 K:=X.K
 mg:=X.mg
 base:=X.base
 A:=X.A
 N:=N
 s₀:=c.s₀
 H₀:=c.H₀
 env:=compEnvC scope c.cl c.C X.env
 outer:=X.stack
 stack:=X.stack
 ex:=c.ex
 fn:=fun _=>false
 calm:=X.calm
 pn:=c.pn
 xe:=fun _ _=>False
def ZH (f:List (Option Nat))(σ:St):St:=f.map fun o=>match o with|some i=>(σ[i]?).join|none=>none
structure CompOk (NX:Qh)(sc:Scope)(N:Qh)(f:List (Option Nat))(scope:Scope):Prop where
 kind:scope.kind=.function
 nocell:∀y∈scope.names,y.2≠NameKind.cell
 names:∀y∈scope.names,y.2=NameKind.local->scope.names.lookup y.1=some .local
 free:∀y∈scope.names,y.2=NameKind.free->sc.names.lookup y.1=some .cell\/sc.names.lookup y.1=some .free
 len:f.length=N.length
 ix:∀(j i:Nat),f[j]?=some (some i)->∃x,N[j]?=some x/\NX[i]?=some x/\scope.names.lookup x=some .free
def GC (NX:Qh)(sc:Scope)(N:Qh)(f:List (Option Nat))(scope:Scope):Bool :=
 decide (scope.kind=.function)&&(scope.names.all fun y=>decide (y.2≠NameKind.cell)&&(decide (y.2≠NameKind.local)||decide (scope.names.lookup y.1=some .local)) &&
  (decide (y.2≠NameKind.free)||decide (sc.names.lookup y.1=some .cell)||decide (sc.names.lookup y.1=some .free)))&&decide (f.length=N.length) &&
 (List.range f.length).all fun j=>match f[j]? with
  | some (some i)=>(match N[j]? with
    |some x=>decide (NX[i]?=some x)&&decide (scope.names.lookup x=some .free)
    |none=>false)
  |_=>true
def Hn {NX:Qh}{sc:Scope}{N:Qh}{f:List (Option Nat)}{scope:Scope}(h:GC NX sc N f scope=true):CompOk NX sc N f scope:=by
 unfold GC at h;simp only[UV,List.all_eq_true,decide_eq_true_eq,Bool.or_eq_true]at h;obtain⟨⟨⟨h1,h2⟩,h3⟩,h4⟩:=h;refine⟨h1,fun y hy=>(h2 y hy).1.1,fun y hy e=>?_,fun y hy e=>?_,h3,fun j i e=>?_⟩
 ·rcases(h2 y hy).1.2 with z|z
  ·exact Xl e z
  ·exact z
 ·rcases(h2 y hy).2 with (z|z)|z
  ·exact Xl e z
  ·exact .inl z
  ·exact .inr z
 ·have hj:j<f.length:=(Xh.mp e).1
  have q:=h4 j (XF.mpr hj);rw[e]at q;cases hN:N[j]? with
  |none=>rw[hN]at q;simp at q
  |some x =>
    rw[hN]at q;simp only[UV,decide_eq_true_eq]at q;exact⟨x,rfl,q.1,q.2⟩
def KB (f:List (Option Nat))(σ σ':St):Prop:=σ'.length=σ.length/\∀(i j:Nat),f[i]?=some (some j)->σ'[i]?=σ[i]?
structure TgOk (f:List (Option Nat))(g:TG):Prop where
 keep:∀x σ H Q,g x σ H Q->g x σ H fun σ2 H2=>KB f σ σ2/\Q σ2 H2
 mono:∀x σ H Q Q',(∀σ H,Q σ H->Q' σ H)->g x σ H Q->g x σ H Q'
structure TgsOk (f:List (Option Nat))(g:TGs):Prop where
 keep:∀xs σ H Q,g xs σ H Q->g xs σ H fun σ2 H2=>KB f σ σ2/\Q σ2 H2
 mono:∀xs σ H Q Q',(∀σ H,Q σ H->Q' σ H)->g xs σ H Q->g xs σ H Q'
theorem ZZ {f:List (Option Nat)}{j:Nat}(h:f[j]?=some none:=by rfl):TgOk f (ZJ j) where
 keep:=fun x σ H Q q=>⟨⟨List.length_set ..,fun i k e=>Xx (by rintro rfl;rw[h]at e;cases e)⟩,q⟩
 mono:=fun x σ H Q Q' m q=>m _ _ q
theorem D3 {f:List (Option Nat)}:TgsOk f M6 where
 keep:=fun xs σ H Q ⟨e,q⟩=>⟨e,⟨rfl,fun _ _ _=>rfl⟩,q⟩
 mono:=fun xs σ H Q Q' m ⟨e,q⟩=>⟨e,m _ _ q⟩
theorem UL {f:List (Option Nat)}{t:TG}{u:TGs}(h1:TgOk f t)(h2:TgsOk f u):TgsOk f (MU t u) where
 keep:=fun xs σ H Q ⟨v,r,e,q⟩=>⟨v,r,e,h1.mono _ _ _ _ _ (fun σ1 H1 z=>h2.mono _ _ _ _ _ (fun σ2 H2 y=>⟨⟨y.1.1.trans z.1.1,fun i j ef=>(y.1.2 i j ef).trans (z.1.2 i j ef)⟩,y.2⟩) (h2.keep _ _ _ _ z.2)) (h1.keep _ _ _ _ q)⟩
 mono:=fun xs σ H Q Q' m ⟨v,r,e,q⟩=>⟨v,r,e,h1.mono _ _ _ _ _ (fun σ1 H1 z=>h2.mono _ _ _ _ _ m z) q⟩
theorem Dk {f:List (Option Nat)}{K:W.Frag}{n:Nat}{t:TGs}(h:TgsOk f t):TgOk f (MI K n t) where
 keep:=fun x σ H Q ⟨a,xs,e,q,l,z⟩=>⟨a,xs,e,q,l,h.keep _ _ _ _ z⟩
 mono:=fun x σ H Q Q' m ⟨a,xs,e,q,l,z⟩=>⟨a,xs,e,q,l,h.mono _ _ _ _ _ m z⟩
def PCs (X:Cx)(ifs:Qi)(tc:TT):Prop :=
 ∀(Xa1:Qc) (s:Shared) (σ:St) (H:Hp) (Q:Bool->Hp->Prop),Qr X Xa1 σ H s->tc σ H Q ->
  wpAny (model X.prog X.w) X.A (forIn ifs true fun c r=>if r=true then do let ok <- isTrue c X.env (eval c X.env);pure (ForInStep.yield ok) else pure (ForInStep.yield r)) (TP X Xa1 σ Q) X.xe s
def W4:TT:=fun _ H Q=>Q true H
def Yx {X:Cx}:PCs X [] W4:=fun _ _ _ H _ I h=>wpAny_tests_nil ⟨H,I,h⟩
def Jc {X:Cx}{c:Expr}{tc:TT}(h:PT X c tc):PCs X [c] tc:=fun Xa1 s σ H Q I q=>wpAny_tests_one (h Xa1 s σ H Q I q)
def P2 {prog:Program}{w:World}{A:Around}{R:Result->Shared->Prop}{s:Shared}{elt target iter:Expr}{ifs:Qi}{scope:Scope}{pos:Pos}{it acc:Value}{env:Env}(I:Nat->Shared->Prop)
 (turn:∀n s,I n s->wpAny (model prog w) A (pyNext it) (fun r b7=>match r with
  |none=>R (.ok .next) b7
  | some v=>wpAny (model prog w) A (letOwnedTupleGo target it v) (fun _ s₁'=>wpAny (model prog w) A (assign target env v) (fun _ b6 =>
   wpAny (model prog w) A (forIn ifs true fun c r=>if r=true then do let ok <- isTrue c env (eval c env);pure (ForInStep.yield ok) else pure (ForInStep.yield r)) (fun ok b9 =>
    if ok=true then wpAny (model prog w) A (eval elt env) (fun x bz =>
     wpAny (model prog w) A (call (.builtin "list.append") [acc,x]) (fun _ cj => ∃m,m<n/\I m cj) (fun _ _=>False) bz) (fun _ _=>False) b9
    else ∃m,m<n/\I m b9) (fun _ _=>False) b6) (fun _ _=>False) s₁') (fun _ _=>False) b7) (fun _ _=>False) s)
 (n:Nat) (h:I n s) :
 codeAny (model prog w) A (.compLoop (.ListComp elt [⟨target,iter,ifs,0⟩] scope pos) 0 it acc env) R s:=by
 refine codeAny_loop rfl I (fun n s hI=>?_) n h;show wpAny _ A ((compTurn (.ListComp elt [⟨target,iter,ifs,0⟩] scope pos) 0 it acc env).onRaise (fun x=>do noteFrame x env;theTreesLotGoes x)) _ _ s;refine wpAny_noted ?_;rw[compTurn_list];refine Xa (wpAny_standAt (Xa (wpAny_mono (turn n s hI) (fun r b7 b8=>?_) fun _ _ h'=>h'.elim)))
 cases r with
 |none=>exact Xn b8
 |some v =>
   refine Xa (wpAny_mono b8 (fun _ s₁' h₁'=>?_) fun _ _ h'=>h'.elim);refine Xa (wpAny_mono h₁' (fun _ b6 bj=>Xa (wpAny_mono bj (fun ok b9 c5=>?_) fun _ _ h'=>h'.elim)) fun _ _ h'=>h'.elim)
   cases ok with
   |false=>exact Xn ⟨rfl,c5⟩
   |true =>
     exact Xa (Xa (wpAny_mono c5 (fun x bz d6=>Xa (wpAny_mono d6 (fun _ cj d7=>Xn (Xn ⟨rfl,d7⟩)) fun _ _ h'=>h'.elim)) fun _ _ h'=>h'.elim))
theorem Qr.track {X:Cx}{Xa1:Qc}{σ:St}{H:Hp}{s:Shared}{a:Addr}{o:HO}(I:Qr X Xa1 σ H s)(hn:H a=none)(h0:X.s₀.heap.objs.size<=a)(hL:a≠X.env.locals)(hC:∀x c,X.env.cells.lookup x=some c->c≠a)
 (hp:∀p∈X.pn++Xa1,p.1≠a) (new:Z7 X.prog X.w (upd H a o) s.heap a o):Qr X Xa1 σ (upd H a o) s where
 ok:=I.ok
 os:=I.os
 bare:=I.bare
 base :=
  { keep:=I.base.keep
    slot:=I.base.slot
    free:=fun b ob q n hx=>by rw[Qu (Xp (Xt (Xj q) h0))];exact I.base.free b ob q n hx
    there:=I.base.there
    tups:=fun b xs q=>by have z:=I.base.tups b xs q;rw[Qu (Zo z hn)];exact z
    tupo:=I.base.tupo
    frzs:=fun b u xs q=>by have z:=I.base.frzs b u xs q;rw[Qu (Zo z hn)];exact z
    tbls:=fun b ps q=>by obtain⟨more,z⟩:=I.base.tbls b ps q;exact⟨more,by rw[Qu (Zo z hn)];exact z⟩ }
 loc:=I.loc
 cell:=I.cell
 free:=by rw[Qu hL.symm];exact I.free
 freeC:=fun x c e=>by rw[Qu (hC x c e)];exact I.freeC x c e
 pin:=fun p hp'=>by obtain⟨e,n,r⟩:=I.pin p hp';exact⟨e,by rw[Qu (hp p hp')];exact n,r⟩
 hok:=fun b u e=>by
  by_cases hb:b=a
  ·subst hb;rw[QD]at e;cases e;exact new
  ·rw[Qu hb]at e
   exact(I.hok b u e).stay (fun _ _ _ q=>q) (fun c q=>by rw[Qu (Zo q hn)];exact q) fun c xs q=>by rw[Qu (Zo q hn)];exact q
 len:=I.len
def LCw (f:List (Option Nat))(g:TG)(tc:TT)(te:TE)(σ:St)(J:It)(Q:VK)(H1:Hp):Prop :=
 ∃W:Nat->Nat->List V->Hp->Prop,(∃m,W 0 m [] H1)/\∀i m ys H,W i m ys H ->
  (J.stop i H/\∀p,H p=none->Q (.ref p) (upd H p (.lst ys))) \/
  (J.go i H/\∀x H',J.yld i H x H'->g x (ZH f σ) H' fun σ2 H2=>tc σ2 H2 fun b H3 =>
   if b=true then te σ2 H3 fun y H4=>ys.length<sizeLine/\∃m',m'<m/\W (i+1) m' (ys++[y]) H4
   else ∃m',m'<m/\W (i+1) m' ys H3)
def tLC (f:List (Option Nat))(wi:TI)(g:CIn->TG)(tc:CIn->TT)(te:CIn->TE):TE:=fun σ H Q=>wi σ H fun J H1=>∀c:CIn,LCw f (g c) (tc c) (te c) σ J Q H1
abbrev ZW (its:Qe) (k:Nat):Obj:={ cls:=.type "list",data:=.seq its.toArray k }
section
variable {X:Cx}{Xa1:Qc}{σ:St}{H2:Hp}{b6:Shared}
def NQ {tg iter elt:Expr}{ifs:Qi}{scope:Scope}{pos:Pos}{N:Qh}{f:List (Option Nat)}{g:CIn->TG}{tc:CIn->TT}{te:CIn->TE}{cl:List (Str×Addr)}
 (hc:X.calm=true) (ck:CompOk X.N X.env.scope N f scope)
 (hg:∀c,PG (Zt X N scope c) tg (g c)) (ht:∀c,TgOk f (g c)) (hcs:∀c,PCs (Zt X N scope c) ifs (tc c)) (he:∀c,PE (Zt X N scope c) elt (te c))
 (I2:Qr X Xa1 σ H2 b6) {it:Addr} {fp:Qg} {tn:Nat->Heap->Prop} {J:It} (T:Turn X.prog X.w X.K tg J fp it tn) (st:tn 0 b6.heap) (f2:∀b∈fp,Yb X Xa1 H2 b)
 {Q:VK} (hq:∀c:CIn,LCw f (g c) (tc c) (te c) σ J Q H2)
 (hcl1:∀x c,cl.lookup x=some c->X.env.cells.lookup x=some c) (hcl2:∀p∈scope.names,p.2=NameKind.free->∃c,cl.lookup p.1=some c)
 {RR:Value->Addr->Result->Shared->Prop} {E:Qb}
 (hRR:∀(acc C:Addr) (H':Hp) (s':Shared) (m':Str->Qf),s'.heap.Ns C m'->Qr X Xa1 σ H' s'->H' C=none->C≠X.env.locals->X.s₀.heap.objs.size<=C->(∀x c,X.env.cells.lookup x=some c->c≠C) ->
  (∀p∈X.pn++Xa1,p.1≠C)->Q (.ref acc) H'->RR (.ref acc) C (.ok .next) s') :
 wpAny (model X.prog X.w) X.A (newList []) (fun acc b9=>wpAny (model X.prog X.w) X.A (newFunctionEnv scope X.env.globals cl [] X.env.qual none .none (some X.env)) (fun cenv bz =>
  codeAny (model X.prog X.w) X.A (.compStart (.ListComp elt [⟨tg,iter,ifs,0⟩] scope pos) 0 (.ref it) acc { cenv with scope:=relabel scope X.env }) (RR acc cenv.locals) bz) E b9) E b6:=by
 refine wpAny_newObj_type (wpAny_newFunctionEnv ck.nocell (by intro y hy;simp at hy) (fun b8 bv bw=>?_) ck.kind);dsimp only at bv bw ⊢;have I3:Qr X Xa1 σ H2 { b6 with heap:=b6.heap.push (ZW [] 0) }:=I2.kept (t':=b6.toks) fun b u e=>Xf _ e;have hD:(b6.heap.push (ZW [] 0)).get? b6.heap.objs.size=some (ZW [] 0):=Xy _ rfl;generalize hs3:({ b6 with heap:=b6.heap.push (ZW [] 0) }:Shared)=b9 at I3 bv bw ⊢;have hp3:b6.heap.push (ZW [] 0)=b9.heap:=by rw[<- hs3]
 have hp3':b6.heap.push { cls:=.type "list",dict:=none,data:=.seq ([]:Qe).toArray }=b9.heap:=hp3;rw[hp3]at hD;simp only[hp3']at bv bw ⊢;have sz3:b6.heap.objs.size<b9.heap.objs.size:=by rw[<- hp3,W0];exact W1 _
 have k3:∀b u,b6.heap.get? b=some u->b9.heap.get? b=some u:=fun b u e=>by rw[<- hp3];exact Xf _ e
 have k1:∀b u,b9.heap.get? b=some u->b8.get? b=some u:=fun b u e =>
  bw.extBut b u (Xp (Xj e)) (Xf _ e)
 have fpo:∀b∈fp,b<b6.heap.objs.size:=fun b hb=>by
  obtain⟨o,e,_⟩:=T.obj 0 _ st b hb;exact Xj e
 have st1:tn 0 b8:=T.keep _ _ _ st fun b hb o e=>k1 b o (k3 b o e);have fneC:∀b∈fp,b≠b9.heap.objs.size:=fun b hb=>Xp (Nat.lt_trans (fpo b hb) sz3);have fneD:∀b∈fp,b≠b6.heap.objs.size:=fun b hb=>Xp (fpo b hb)
 have cneD:∀x d,X.env.cells.lookup x=some d->d≠b6.heap.objs.size:=fun x d e=>by
  obtain⟨v,z⟩:=I2.cell x d e;exact Xp z.lt
 have pneD:∀p∈X.pn++Xa1,p.1≠b6.heap.objs.size:=fun p hp=>Xp (Xj (I2.pin p hp).1);have freeD:H2 b6.heap.objs.size=none:=I2.fresh
 have stk:∀b,b≠X.env.locals->b∉X.fs->b∉frs X.stack:=fun b h1 h2 hb=>by
  rcases Xg.mp (I3.stkSub b hb) with z|z
  ·exact h1 z
  ·exact h2 z
 have exD:∀b,b∈b6.heap.objs.size::fp->b=b6.heap.objs.size\/b∈fp:=fun b hb=>Xg.mp hb
 let c:CIn:=⟨cl,b9.heap.objs.size,b9,H2,b6.heap.objs.size::fp,X.pn++Xa1⟩
 have okX:(Zt X N scope c).Ok :=
  { mod:=I3.ok.mod
    kind:=ck.kind
    glob:=I3.ok.glob
    blt:=I3.ok.blt
    above:=Xu _
    inj:=fun x y d h1 h2=>I3.ok.inj x y d (hcl1 x d h1) (hcl1 y d h2)
    has:=fun x hx=>by
     rcases Ku hx with z|z
     ·exact hcl2 (x,.free) (PySem.mem_of_lookup z) rfl
     ·exact Xl rfl (ck.nocell (x,.cell) (PySem.mem_of_lookup z))
    cab:=fun x d h=>Xl (show false=true from h) Xv
    hd:=I3.ok.hd
    frames:=I3.ok.frames
    stk:=.inl rfl
    exf:=fun b hb=>by
     rcases exD b hb with rfl|hb
     ·exact⟨Xp sz3,fun x d e=>cneD x d (hcl1 x d e)⟩
     ·exact⟨fneC b hb,fun x d e=>(f2 b hb).2.2.2.2.1 x d (hcl1 x d e)⟩
    bs:=fun b o e=>I3.bs b o e
    bsz:=VM I3.ok.bsz I3.sz
    noex:=fun b o e hb=>by
     rcases exD b hb with rfl|hb
     ·exact Xl (Xj (I2.bk _ _ e)) (Yh _)
     ·rcases(f2 b hb).2.2.2.1 with z|z
      ·exact I3.ok.noex b o e z
      ·exact Xl (Xt (Xj (I3.ok.bs b o e).1) z) (Yh _)
    exfs:=fun b hb=>by
     rcases exD b hb with rfl|hb
     ·exact stk _ (XX I2.lt) (I2.nofs (Xu _))
     ·exact stk b (f2 b hb).2.1 (f2 b hb).2.2.1
    funs:=I3.stack
    frf:=I3.stkFree }
 have I4:Qr (Zt X N scope c) [(b6.heap.objs.size,ZW [] 0)] (ZH f σ) H2 { b9 with heap:=b8,toks:=b9.toks+([]:List (Str×Value)).length } :=
  { ok:=okX
    os:=rfl
    bare:=I3.bare
    base:=Un.kept k1
    loc:=⟨_,bv,fun i x v e1 e2 e3=>by
     have hfi:∃j,f[i]?=some (some j)/\σ[j]?=some (some v):=by
      unfold ZH at e2;rw[Xq]at e2;cases ef:f[i]? with
      |none=>rw[ef]at e2;cases e2
      |some o =>
        rw[ef]at e2;cases o with
        |none=>cases e2
        |some j =>
          refine⟨j,rfl,?_⟩;have e2':(σ[j]?).join=some v:=Option.some.inj e2
          cases es:σ[j]? with
          |none=>rw[es]at e2';cases e2'
          |some o2 =>
            rw[es]at e2';have:o2=some v:=e2';rw[this]
     obtain⟨j,ef,es⟩:=hfi;obtain⟨x',n1,n2,n3⟩:=ck.ix i j ef
     have:x'=x:=Option.some.inj (n1.symm.trans e1)
     subst this;have hfr:=ck.free (x',.free) (PySem.mem_of_lookup n3) rfl;obtain⟨m0,hm0,hl0⟩:=I3.loc;obtain⟨u,ru,lk⟩:=hl0 j x' v n2 es (hfr.elim (fun z=>.inr (.inl z)) fun z=>.inr (.inr z));refine⟨u,ru,.inr ⟨Kw n3,?_⟩⟩
     rcases lk with ⟨kl,_⟩|⟨_,d,ed,hd⟩
     ·have kl':X.env.scope.names.lookup x'=some .local:=kl
      rcases hfr with z|z
      ·rw[kl']at z;cases z
      ·rw[kl']at z;cases z
     ·obtain⟨d',ed'⟩:=hcl2 (x',.free) (PySem.mem_of_lookup n3) rfl
      have:d'=d:=Option.some.inj ((hcl1 x' d' ed').symm.trans ed)
      subst this;exact⟨d',ed',hd.keeps k1⟩⟩
    cell:=fun x d e=>by
     obtain⟨v,z⟩:=I3.cell x d (hcl1 x d e)
     exact⟨v,z.keeps k1⟩
    free:=I3.fresh
    freeC:=fun x d e=>I3.freeC x d (hcl1 x d e)
    pin:=fun p hp=>by
     rcases XG.mp (show p∈(X.pn++Xa1)++[(b6.heap.objs.size,ZW [] 0)] from hp) with hp'|hp'
     ·obtain⟨e,n,ne,nf,d⟩:=I3.pin p hp'
      exact⟨k1 _ _ e,n,Xp (Xj e),stk p.1 ne nf,d⟩
     ·have z:p=(b6.heap.objs.size,ZW [] 0):=Xi.mp hp'
      subst z;exact⟨k1 _ _ hD,freeD,Xp sz3,stk _ (XX I2.lt) (I2.nofs (Xu _)),fun v z=>nomatch (show Data.seq _ _=Data.cell v from z)⟩
    hok:=I3.hok.kept k1
    len:=by
     show(ZH f σ).length=N.length
     unfold ZH;rw[Xk];exact ck.len }
 have back:∀{σ':St} {H':Hp} {s':Shared} {ps:Qc},Qr (Zt X N scope c) ps σ' H' s'->Qr X Xa1 σ H' s':=fun{σ' H' s' ps} J' =>
  I3.call' (ch:=b6.heap.objs.size::fp) J'.os J'.base J'.hok J'.bare fun b hb=>by
   rcases exD b hb with rfl|hb
   ·exact⟨.inr I2.sz,XX I2.lt,cneD,pneD⟩
   ·exact⟨(f2 b hb).2.2.2.1,(f2 b hb).2.1,(f2 b hb).2.2.2.2.1,(f2 b hb).2.2.2.2.2⟩
 have fpX:∀{H':Hp} {ob:Obj},(∀b∈fp,H' b=none)->∀b∈fp,Yb (Zt X N scope c) [(b6.heap.objs.size,ob)] H' b:=fun{H' ob} hn b hb =>
  ⟨hn b hb,(okX.exf b (Xe _ hb)).1,okX.exfs b (Xe _ hb),.inl (Xe _ hb),(okX.exf b (Xe _ hb)).2,fun p hp=>by
   rcases XG.mp (show p∈(X.pn++Xa1)++[(b6.heap.objs.size,ob)] from hp) with z|z
   ·exact(f2 b hb).2.2.2.2.2 p z
   ·have z:p=(b6.heap.objs.size,ob):=Xi.mp z
    subst z;exact(fneD b hb).symm⟩
 obtain⟨W,⟨m0,w0⟩,turn⟩:=hq c
 have loop:∀s,s=({ b9 with heap:=b8,toks:=b9.toks+([]:List (Str×Value)).length }:Shared) ->
  codeAny (model X.prog X.w) X.A (.compLoop (.ListComp elt [⟨tg,iter,ifs,0⟩] scope pos) 0 (.ref it) (.ref b6.heap.objs.size) (compEnvC scope cl b9.heap.objs.size X.env)) (RR (.ref b6.heap.objs.size) b9.heap.objs.size) s:=by
  rintro s rfl
  refine P2 (fun n s'=>∃i H' ys its k,Qr (Zt X N scope c) [(b6.heap.objs.size,ZW its k)] (ZH f σ) H' s'/\QK ys its/\ys.length<=sizeLine/\tn i s'.heap/\(∀b∈fp,H' b=none)/\W i n ys H') ?_ m0 ⟨0,_,[],[],0,I4,.nil,XM _,st1,fun b hb=>(f2 b hb).1,w0⟩
  rintro n s5 ⟨i,H5,ys,its,k,I5,rv5,hz5,st5,fr5,w5⟩
  rcases turn i n ys H5 w5 with ⟨stop,qn⟩|⟨go,step⟩
  ·refine Q6 (T.done (Zt X N scope c) rfl rfl rfl hc i _ s5 (ZH f σ) H5 _ I5 (fpX fr5) st5 stop) fun r s6 ⟨hr,I6⟩=>?_
   subst hr;obtain⟨m6,hn6,_⟩:=id I6.loc;obtain⟨eD,nD,_⟩:=I6.pin (b6.heap.objs.size,ZW its k) (XH _ (Xi.mpr rfl));have I7:Qr X Xa1 σ (upd H5 b6.heap.objs.size (.lst ys)) s6:=(back I6).track nD I2.sz (XX I2.lt) cneD pneD ⟨hz5,its,k,rv5,eD⟩;refine hRR _ _ _ s6 m6 hn6 I7 (by rw[Qu (XX sz3)];exact I6.free) (XX I3.lt) I3.sz (fun x d e=>?_) (fun p hp=>?_) (qn _ nD)
   ·obtain⟨v,z⟩:=I3.cell x d e
    exact Xp z.lt
   ·exact Xp (Xj (I3.pin p hp).1)
  ·refine Q6 (T.item (Zt X N scope c) rfl rfl rfl hc i _ s5 (ZH f σ) H5 _ I5 (fpX fr5) st5 go) fun r s6 ⟨u,hr,h6⟩=>?_
   subst hr;refine Q6 h6 fun _ s7 ⟨x,H7,I7,r7,y7,st7,fr7⟩=>?_;have I7':=I7.pinned (fpX fr7) (T.obj _ _ st7);refine Q6 (hg c _ s7 (ZH f σ) H7 x u _ I7' r7 ((ht c).keep _ _ _ _ (step x H7 y7))) fun _ s8 ⟨σ8,H8,I8,kp8,q8⟩=>?_
   have wk:∀(j:Nat) v,(ZH f σ)[j]?=some (some v)->σ8[j]?=some (some v):=fun j v e=>by
    have ef:∃k,f[j]?=some (some k):=by
     have e':=e;unfold ZH at e';rw[Xq]at e';cases q:f[j]? with
     |none=>rw[q]at e';cases e'
     |some o =>
       cases o with
       |none=>rw[q]at e';cases e'
       |some k=>exact⟨k,rfl⟩
    obtain⟨k,ef⟩:=ef;rw[kp8.2 j k ef];exact e
   have recs:∀{H9:Hp} {s9:Shared} {ob:Obj},Qr (Zt X N scope c) ([(b6.heap.objs.size,ob)]++UA fp s7.heap) σ8 H9 s9->tn (i+1) s9.heap/\∀b∈fp,H9 b=none:=fun{H9 s9 ob} I9 =>
    ⟨T.keep _ _ _ st7 fun b hb o e=>(I9.pin (b,o) (XH _ (XH _ (UN hb e)))).1,fun b hb=>by
     obtain⟨o,e,d⟩:=T.obj _ _ st7 b hb
     exact(I9.pin (b,o) (XH _ (XH _ (UN hb e)))).2.1⟩
   refine Q6 (hcs c _ s8 σ8 H8 _ I8 q8) fun ok s9 ⟨H9,I9,q9⟩=>?_
   cases ok with
   |false =>
     obtain⟨m',hm,w9⟩:=(show ∃m',m'<n/\W (i+1) m' ys H9 from q9);obtain⟨z1,z2⟩:=recs I9
     exact⟨m',hm,i+1,H9,ys,its,k,(I9.unpinned).weak kp8.1.symm wk,rv5,hz5,z1,z2,w9⟩
   |true =>
     refine Q6 (he c _ s9 σ8 H9 _ I9 (show te c σ8 H9 _ from q9)) fun v s10 ⟨y,H10,I10,r10,hlen,m',hm,w10⟩=>?_;obtain⟨eD,nD,neD,nfD,dD⟩:=I10.pin (b6.heap.objs.size,ZW its k) (XH _ (Ui _ (Xi.mpr rfl)));obtain⟨z1,z2⟩:=recs I10;have lv:=rv5.length;refine call_meets F.slot_list_append ⟨_,eD,rfl⟩ F.entry_list_append (F.args_list_append_2 _ _) (PySem.list_append b6.heap.objs.size its.toArray k v (by rw[Xw];omega)) ⟨eD,?_⟩;have q:=PySem.IsL.update eD (·.push v);have hf:its.toArray.push v=(its++[v]).toArray:=by simp
     rw[hf]at q;have I11:Qr (Zt X N scope c) [] σ8 H10 { s10 with heap:=s10.heap.update b6.heap.objs.size (Obj.mapSeq (·.push v)) } :=
      (I10.pins_of (pins':=[]) fun p hp=>Xl hp (by simp)).turned (t':=s10.toks) (it:=b6.heap.objs.size) (fun b o hb e=>(XS s10.heap (Obj.mapSeq (·.push v)) (Ne.symm hb)).trans e) nD neD (.inl Xc) (okX.exf _ Xc).2 fun p hp=>by
       have z:p∈(X.pn++Xa1)++[]:=hp;rw[XD]at z;exact pneD p z
     have I12:Qr (Zt X N scope c) [(b6.heap.objs.size,ZW (its++[v]) _)] σ8 H10 { s10 with heap:=s10.heap.update b6.heap.objs.size (Obj.mapSeq (·.push v)) } :=
      I11.pins_of fun p hp=>by
       have z:p=(b6.heap.objs.size,_):=Xi.mp hp;subst z;exact⟨q,nD,neD,nfD,fun v z=>nomatch (show Data.seq _ _=Data.cell v from z)⟩
     refine⟨m',hm,i+1,H10,ys++[y],its++[v],_,I12.weak kp8.1.symm wk,rv5.append (.cons r10 .nil),by rw[Xm,Jr];omega,?_,z2,w10⟩;exact T.keep _ _ _ z1 fun b hb o e=>(XS s10.heap (Obj.mapSeq (·.push v)) (fneD b hb).symm).trans e
 exact codeAny_compStart_list (loop _ (by rw[<- hs3])) (T.self _ 0 _ _ _ st1 (loop _ (by rw[<- hs3])))
def Yj {tg iter elt:Expr}{ifs:Qi}{scope:Scope}{pos:Pos}{NX:Qh}{sc:Scope}{N:Qh}{f:List (Option Nat)}{wi:TI}{g:CIn->TG}{tc:CIn->TT}{te:CIn->TE}
 (hc:X.calm=true) (ck:GC NX sc N f scope=true) (hNX:X.N=NX) (hsc:X.env.scope=sc) (hi:PI X tg iter wi)
 (hg:∀c,PG (Zt X N scope c) tg (g c)) (ht:∀c,TgOk f (g c)) (hcs:∀c,PCs (Zt X N scope c) ifs (tc c)) (he:∀c,PE (Zt X N scope c) elt (te c))
 (hs:∀x,foldedSetIterable iter X.env x=pure x:=by intro _;rfl):PE X (.ListComp elt [⟨tg,iter,ifs,0⟩] scope pos) (tLC f wi g tc te):=by
 subst hNX hsc;intro Xa1 s σ H Q I h;have ck':=Hn ck;obtain⟨cl,hclos,hcl1,hcl2⟩:=Ka (scope:=scope) (env:=X.env) fun p hp hf=>I.ok.has p.1 (ck'.free p hp hf);rw[eval_ListComp];refine wpAny_comprehension_free (use:=none) rfl hs hclos ck'.kind ck'.names (Q6 (hi Xa1 s σ H _ I h) fun xv b7 b8=>Q6 b8 fun itv b6 bj=>?_);obtain⟨it,fp,tn,J,H2,e,I2,T,st,f2,hq⟩:=bj;subst e;refine NQ (RR:=fun acc C=>compPost (model X.prog X.w) X.A X.xe none (EP X Xa1 σ Q) acc C) hc ck' hg ht hcs he I2 T st f2 hq hcl1 hcl2 ?_;intro acc C H' s' m' hn I' hC hL h0 h1 h2 q;exact⟨m',hn,fun h'' hs''=>⟨.ref acc,H',I'.turned (t':=s'.toks) (fun b o hb e=>(hs''.2 b hb).trans e) hC hL (.inr h0) h1 h2,rfl,q⟩⟩
def GN {i:Nat}{x:Str}{px spos:Pos}{tg iter elt:Expr}{ifs:Qi}{scope:Scope}{pos:Pos}{NX:Qh}{sc:Scope}{N:Qh}{f:List (Option Nat)}{wi:TI}{g:CIn->TG}{tc:CIn->TT}{te:CIn->TE}
 (hN:X.N.Nodup) (hix:X.N[i]?=some x) (hx:X.env.scope.names.lookup x=some .local)
 (hc:X.calm=true) (ck:GC NX sc N f scope=true) (hNX:X.N=NX) (hsc:X.env.scope=sc) (hi:PI X tg iter wi)
 (hg:∀c,PG (Zt X N scope c) tg (g c)) (ht:∀c,TgOk f (g c)) (hcs:∀c,PCs (Zt X N scope c) ifs (tc c)) (he:∀c,PE (Zt X N scope c) elt (te c))
 (hsw:swapsWith (.ListComp elt [⟨tg,iter,ifs,0⟩] scope pos) (some (.Name x px)) spos.line X.env=pure true)
 (hs:∀x,foldedSetIterable iter X.env x=pure x:=by intro _;rfl):PS X (.Assign [.Name x px] (.ListComp elt [⟨tg,iter,ifs,0⟩] scope pos) spos) (Ve (tLC f wi g tc te) (ZJ i)):=by
 subst hNX hsc;intro Xa1 s σ H D I h;have ck':=Hn ck;obtain⟨cl,hclos,hcl1,hcl2⟩:=Ka (scope:=scope) (env:=X.env) fun p hp hf=>I.ok.has p.1 (ck'.free p hp hf);rw[exec_Assign_Name_used _ _ _ _ hsw];refine Xa (wpAny_standAt (Xa ?_));show wpAny _ X.A (do let _ <- comprehension (.ListComp elt [⟨tg,iter,ifs,0⟩] scope pos) scope X.env _ (newList []) false (eval iter X.env) (some (assign (.Name x px) X.env))) _ _ s
 refine Xa (wpAny_mono (wpAny_comprehension_free (use:=some (assign (.Name x px) X.env)) (Q:=fun _ s'=>SP X Xa1 D .next s') rfl hs hclos ck'.kind ck'.names
  (Q6 (hi Xa1 s σ H _ I h) fun xv b7 b8=>Q6 b8 fun itv b6 bj=>?_)) (fun _ s' hq=>Xn (Xn hq)) fun _ _ e=>e)
 obtain⟨it,fp,tn,J,H2,e,I2,T,st,f2,hq⟩:=bj;subst e;refine NQ (RR:=fun acc C=>compPost (model X.prog X.w) X.A X.xe (some (assign (.Name x px) X.env)) (fun _ s'=>SP X Xa1 D .next s') acc C) hc ck' hg ht hcs he I2 T st f2 hq hcl1 hcl2 ?_;intro acc C H' s' m' hn I' hC hL h0 h1 h2 q;show wpAny _ X.A (assign (.Name x px) X.env (.ref acc)) _ _ _;refine wpAny_assign_Name (Hv I' hN hix (.inl hx) (v:=.ref acc) rfl (fun s'' I'' ⟨a,sb,ha⟩=>?_) (.inr hx))
 have nC:C≠a:=by
  rcases ha with z|z
  ·rw[z];exact hL
  ·exact(h1 _ _ z).symm
 refine⟨m',hn.sameBut sb nC,fun h'' hs''=>?_⟩
 exact⟨_,H',I''.turned (t':=s''.toks) (fun b o hb e=>(hs''.2 b hb).trans e) hC hL (.inr h0) h1 h2,q⟩
end
section
variable {f:List (Option Nat)}{g:TG}{tc:TT}{te:TE}{σ:St}{Q:VK}{H1:Hp}{K:W.Frag}{a:Addr}{xs:List V}
end
mutual
inductive Rep (H:Hp):V->PyData->Prop
 |non:Rep H .non .none
 |bl (b:Bool):Rep H (.bl b) (.bool b)
 |int (i:Int):Rep H (.int i) (.int i)
 |str (x:Str):Rep H (.str x) (.str x)
 |lst {a:Addr} {xs:List V} {ds:Qd}:H a=some (.lst xs)->Qv H xs ds->Rep H (.ref a) (.list ds)
 |tup {a:Addr} {xs:List V} {ds:Qd}:H a=some (.tup xs)->Qv H xs ds->Rep H (.ref a) (.tuple ds)
 |dct {a:Addr}:H a=some (.dK [])->Rep H (.ref a) (.dict [])
inductive Qv (H:Hp):List V->Qd->Prop
 |nil:Qv H [] []
 |cons {x:V} {xs:List V} {d:PyData} {ds:Qd}:Rep H x d->Qv H xs ds->Qv H (x::xs) (d::ds)
end
mutual
theorem Rep.mono {H H':Hp}(s:Q4 H H'):∀{v:V} {d:PyData},Rep H v d->Rep H' v d
 |_,_,.non=>.non
 |_,_,.bl b=>.bl b
 |_,_,.int i=>.int i
 |_,_,.str x=>.str x
 |_,_,.lst h r=>.lst (s _ _ h) (Qv.mono s r)
 |_,_,.tup h r=>.tup (s _ _ h) (Qv.mono s r)
 |_,_,.dct h=>.dct (s _ _ h)
theorem Qv.mono {H H':Hp}(s:Q4 H H'):∀{vs:List V} {ds:Qd},Qv H vs ds->Qv H' vs ds
 |_,_,.nil=>.nil
 |_,_,.cons r t=>.cons (Rep.mono s r) (Qv.mono s t)
end
theorem Qv.length {H:Hp}:∀{vs:List V} {ds:Qd},Qv H vs ds->vs.length=ds.length
 |_,_,.nil=>rfl
 |_,_,.cons _ t=>by simp[Qv.length t]
theorem Qv.get {H:Hp}:∀{vs:List V} {ds:Qd} {i:Nat} {d:PyData},Qv H vs ds->ds[i]?=some d->∃v,vs[i]?=some v/\Rep H v d
 |_,_,_,_,.nil,e=>by simp at e
 |_,_,0,_,.cons r _,e=>by simp at e;subst e;exact⟨_,rfl,r⟩
 |_,_,i+1,d,.cons _ t,e=>by
   obtain⟨u,h1,h2⟩:=Qv.get (i:=i) (d:=d) t (by simpa using e)
   exact⟨u,by simpa using h1,h2⟩
theorem Qv.snoc {H:Hp}{v:V}{d:PyData}:∀{vs:List V} {ds:Qd},Qv H vs ds->Rep H v d->Qv H (vs++[v]) (ds++[d])
 |_,_,.nil,h=>.cons h .nil
 |_,_,.cons r t,h=>.cons r (Qv.snoc t h)
theorem Qv.append {H:Hp}:∀{vs ws:List V} {ds es:Qd},Qv H vs ds->Qv H ws es->Qv H (vs++ws) (ds++es)
 |_,_,_,_,.nil,s=>s
 |_,_,_,_,.cons r t,s=>.cons r (Qv.append t s)
theorem Qv.set {H:Hp}{v:V}{d:PyData}(r:Rep H v d):∀{vs:List V} {ds:Qd} (i:Nat),Qv H vs ds->Qv H (vs.set i v) (ds.set i d)
 |_,_,_,.nil=>.nil
 |_,_,0,.cons _ t=>.cons r t
 |_,_,i+1,.cons q t=>.cons q (Qv.set r i t)
theorem GT {H:Hp}:∀{vs:List V} {l:Ql},Qv H vs (l.map PyData.int)->vs=l.map V.int
 |_,[],.nil=>rfl
 |_,i::l,.cons (.int _) t=>by rw[Xs,GT t]
section
variable {X:Cx}{Xa1:Qc}{σ:St}{H:Hp}{s:Shared}
mutual
theorem Rep.reads (I:Qr X Xa1 σ H s):∀{v:V} {d:PyData} {u:Value},Rep H v d->QL v u->∃as,Reads s.heap u d as
 |_,_,_,.non,r=>by cases r;exact⟨_,.none⟩
 |_,_,_,.bl b,r=>by cases r;exact⟨_,.bool b⟩
 |_,_,_,.int i,r=>by obtain⟨t,rfl⟩:=r;exact⟨_,.int i t⟩
 |_,_,_,.str x,r=>by obtain⟨t,rfl⟩:=r;exact⟨_,.str x t⟩
 |_,_,_,.lst h q,r=>by
   cases r
   obtain⟨z,its,n,rv,e⟩:=I.hok _ _ h;obtain⟨as,ra⟩:=Qv.reads I q rv
   exact⟨_,.list e rfl rfl (by simpa using ra)⟩
 |_,_,_,.tup h q,r=>by
   cases r
   obtain⟨z,its,rv,o,e,c,n,dd⟩:=I.hok _ _ h;obtain⟨as,ra⟩:=Qv.reads I q rv
   exact⟨_,.tuple e c dd (by simpa using ra)⟩
 |_,_,_,.dct h,r=>by
   cases r
   obtain⟨z,y,vs,kv,ob,es,ep,e,c,dd,_,pr,_⟩:=I.hok _ _ h
   cases kv
   have ee:es.toList=[]:=List.eq_nil_of_length_eq_zero pr.length
   exact⟨_,.dict (kvs:=[]) e c.1 dd (by rw[ee];exact .nil) (by rw[ee];exact .nil)⟩
theorem Qv.reads (I:Qr X Xa1 σ H s):∀{vs:List V} {ds:Qd} {us:Qe},Qv H vs ds->QK vs us->∃as,ReadsAll s.heap us ds as
 |_,_,_,.nil,r=>by cases r;exact⟨_,.nil⟩
 |_,_,_,.cons q t,r=>by
   cases r with
   |cons r1 r2 =>
     obtain⟨as,ra⟩:=Rep.reads I q r1;obtain⟨bs,rb⟩:=Qv.reads I t r2
     exact⟨_,.cons ra rb⟩
end
def Vs (d:PyData):Prop:=d.canLay0=true/\d.depth<=60
def Ge:R2:=fun x y H Q=>∃d e,Rep H x d/\Rep H y e/\Vs d/\Vs e/\Q (.bl (PyData.eqv d e)) H
def MH:R2:=fun x y H Q=>∃d e,Rep H x d/\Rep H y e/\Vs d/\Vs e/\Q (.bl (!PyData.eqv d e)) H
def WS (hu:X.A.units+64<cLine):OpR X (compareOp .Eq) Ge:=by
 intro Xa1 s σ H x y v u Q I rx ry h;obtain⟨d,e,hd,he,fd,fe,q⟩:=h;obtain⟨as,ra⟩:=hd.reads I rx;obtain⟨bs,rb⟩:=he.reads I ry;refine SeqAt.compareEq_reads ra rb fd.1 fe.1 ?_ ⟨.bl (PyData.eqv d e),H,I,rfl,q⟩;have h1:=fd.2;have h2:min d.depth e.depth<=d.depth:=Nat.min_le_left _ _;omega
def NK (hu:X.A.units+64<cLine):OpR X (compareOp .NotEq) MH:=by
 intro Xa1 s σ H x y v u Q I rx ry h;obtain⟨d,e,hd,he,fd,fe,q⟩:=h;obtain⟨as,ra⟩:=hd.reads I rx;obtain⟨bs,rb⟩:=he.reads I ry;refine SeqAt.compareNe_reads ra rb fd.1 fe.1 ?_ ⟨.bl (!PyData.eqv d e),H,I,rfl,q⟩;have h1:=fd.2;have h2:min d.depth e.depth<=d.depth:=Nat.min_le_left _ _;omega
end
def GO {d:PyData}(f:Vs d):PyData.eqv d d=true:=SeqAt.eqv_refl d f.1
def Ny {α:Type}{xs:List α}{i:Int}{v:α}(h:atI xs i=some v):∃j:Nat,xs[j]?=some v/\ixN xs.length i=some j:=by
 unfold atI at h;cases e:ixN xs.length i with
 |none=>rw[e]at h;cases h
 |some j=>rw[e]at h;exact⟨j,h,rfl⟩
section
variable {X:Cx}
end
inductive TyN (H:Hp):V->String->Prop
 |non:TyN H .non "NoneType"
 |bl (b:Bool):TyN H (.bl b) "bool"
 |int (i:Int):TyN H (.int i) "int"
 |str (x:Str):TyN H (.str x) "str"
 |lst {a:Addr} {xs:List V}:H a=some (.lst xs)->TyN H (.ref a) "list"
 |tup {a:Addr} {xs:List V}:H a=some (.tup xs)->TyN H (.ref a) "tuple"
 |dct {a:Addr}:H a=some (.dK [])->TyN H (.ref a) "dict"
def tyD:PyData->String
 |.none => "NoneType"
 |.bool _ => "bool"
 |.int _ => "int"
 |.str _ => "str"
 |.list _ => "list"
 |.tuple _ => "tuple"
 |.dict _ => "dict"
def Rep.ty {H:Hp}{v:V}{d:PyData}(r:Rep H v d):TyN H v (tyD d):=by
 cases r with
 |non=>exact .non
 |bl b=>exact .bl b
 |int i=>exact .int i
 |str x=>exact .str x
 |lst h _=>exact .lst h
 |tup h _=>exact .tup h
 |dct h=>exact .dct h
def YK (T c:String):Option Bool :=
 if c = "int" then some (T == "int" || T == "bool") else if c = "bool" then some (T == "bool") else if c = "list" then some (T == "list") else if c = "tuple" then some (T == "tuple") else if c = "str" then some (T == "str") else if c = "dict" then some (T == "dict") else none
def Fx {prog:Program} {w:World} {A:Around} {E:Qb} {s:Shared} {Q:Qb} {a:Addr} {o:Obj} {c:String} {b:Bool} (hx:s.heap.get? a=some o) (hc:o.cls=.type "list") (e:YK "list" c=some b) (h:∀t,Q (.bool b) { s with toks:=t }) :
 wpAny (model prog w) A (call (.builtin "isinstance") [.ref a,.type c]) Q E s:=by
 unfold YK at e;split at e
 ·rename_i z;subst z;cases e;exact IsiPair.list_int hx hc (h _)
 ·split at e
  ·rename_i z;subst z;cases e;exact IsiPair.list_bool hx hc (h _)
  ·split at e
   ·rename_i z;subst z;cases e;exact IsiPair.list_list hx hc (h _)
   ·split at e
    ·rename_i z;subst z;cases e;exact IsiPair.list_tuple hx hc (h _)
    ·split at e
     ·rename_i z;subst z;cases e;exact IsiPair.list_str hx hc (h _)
     ·split at e
      ·rename_i z;subst z;cases e;exact IsiPair.list_dict hx hc (h _)
      ·cases e
def Fv {prog:Program} {w:World} {A:Around} {E:Qb} {s:Shared} {Q:Qb} {a:Addr} {o:Obj} {c:String} {b:Bool} (hx:s.heap.get? a=some o) (hc:o.cls=.type "tuple") (e:YK "tuple" c=some b) (h:∀t,Q (.bool b) { s with toks:=t }) :
 wpAny (model prog w) A (call (.builtin "isinstance") [.ref a,.type c]) Q E s:=by
 unfold YK at e;split at e
 ·rename_i z;subst z;cases e;exact IsiPair.tuple_int hx hc (h _)
 ·split at e
  ·rename_i z;subst z;cases e;exact IsiPair.tuple_bool hx hc (h _)
  ·split at e
   ·rename_i z;subst z;cases e;exact IsiPair.tuple_list hx hc (h _)
   ·split at e
    ·rename_i z;subst z;cases e;exact IsiPair.tuple_tuple hx hc (h _)
    ·split at e
     ·rename_i z;subst z;cases e;exact IsiPair.tuple_str hx hc (h _)
     ·split at e
      ·rename_i z;subst z;cases e;exact IsiPair.tuple_dict hx hc (h _)
      ·cases e
def Fk {prog:Program} {w:World} {A:Around} {E:Qb} {s:Shared} {Q:Qb} {a:Addr} {o:Obj} {c:String} {b:Bool} (hx:s.heap.get? a=some o) (hc:o.cls=.type "dict") (e:YK "dict" c=some b) (h:∀t,Q (.bool b) { s with toks:=t }) :
 wpAny (model prog w) A (call (.builtin "isinstance") [.ref a,.type c]) Q E s:=by
 unfold YK at e;split at e
 ·rename_i z;subst z;cases e;exact IsiPair.dict_int hx hc (h _)
 ·split at e
  ·rename_i z;subst z;cases e;exact IsiPair.dict_bool hx hc (h _)
  ·split at e
   ·rename_i z;subst z;cases e;exact IsiPair.dict_list hx hc (h _)
   ·split at e
    ·rename_i z;subst z;cases e;exact IsiPair.dict_tuple hx hc (h _)
    ·split at e
     ·rename_i z;subst z;cases e;exact IsiPair.dict_str hx hc (h _)
     ·split at e
      ·rename_i z;subst z;cases e;exact IsiPair.dict_dict hx hc (h _)
      ·cases e
def Cy {prog:Program}{w:World}{A:Around}{E:Qb}{s:Shared}{Q:Qb}{H:Hp}{x:V}{u:Value}{T c:String}{b:Bool}(ty:TyN H x T)(rx:QL x u)(hf:∀a,x≠.ref a)(e:YK T c=some b)(h:∀t,Q (.bool b) { s with toks:=t }) :
 wpAny (model prog w) A (call (.builtin "isinstance") [u,.type c]) Q E s:=by
 unfold YK at e;split at e
 ·rename_i z;subst z;cases e
  cases ty with
  |non=>cases rx;exact IsiPair.NoneType_int (h _)
  |bl b=>cases rx;exact IsiPair.bool_int (h _)
  |int i=>obtain⟨t,rfl⟩:=rx;exact IsiPair.int_int (h _)
  |str i=>obtain⟨t,rfl⟩:=rx;exact IsiPair.str_int (h _)
  |lst _=>exact Xl rfl (hf _)
  |tup _=>exact Xl rfl (hf _)
  |dct _=>exact Xl rfl (hf _)
 ·split at e
  ·rename_i z;subst z;cases e
   cases ty with
   |non=>cases rx;exact IsiPair.NoneType_bool (h _)
   |bl b=>cases rx;exact IsiPair.bool_bool (h _)
   |int i=>obtain⟨t,rfl⟩:=rx;exact IsiPair.int_bool (h _)
   |str i=>obtain⟨t,rfl⟩:=rx;exact IsiPair.str_bool (h _)
   |lst _=>exact Xl rfl (hf _)
   |tup _=>exact Xl rfl (hf _)
   |dct _=>exact Xl rfl (hf _)
  ·split at e
   ·rename_i z;subst z;cases e
    cases ty with
    |non=>cases rx;exact IsiPair.NoneType_list (h _)
    |bl b=>cases rx;exact IsiPair.bool_list (h _)
    |int i=>obtain⟨t,rfl⟩:=rx;exact IsiPair.int_list (h _)
    |str i=>obtain⟨t,rfl⟩:=rx;exact IsiPair.str_list (h _)
    |lst _=>exact Xl rfl (hf _)
    |tup _=>exact Xl rfl (hf _)
    |dct _=>exact Xl rfl (hf _)
   ·split at e
    ·rename_i z;subst z;cases e
     cases ty with
     |non=>cases rx;exact IsiPair.NoneType_tuple (h _)
     |bl b=>cases rx;exact IsiPair.bool_tuple (h _)
     |int i=>obtain⟨t,rfl⟩:=rx;exact IsiPair.int_tuple (h _)
     |str i=>obtain⟨t,rfl⟩:=rx;exact IsiPair.str_tuple (h _)
     |lst _=>exact Xl rfl (hf _)
     |tup _=>exact Xl rfl (hf _)
     |dct _=>exact Xl rfl (hf _)
    ·split at e
     ·rename_i z;subst z;cases e
      cases ty with
      |non=>cases rx;exact IsiPair.NoneType_str (h _)
      |bl b=>cases rx;exact IsiPair.bool_str (h _)
      |int i=>obtain⟨t,rfl⟩:=rx;exact IsiPair.int_str (h _)
      |str i=>obtain⟨t,rfl⟩:=rx;exact IsiPair.str_str (h _)
      |lst _=>exact Xl rfl (hf _)
      |tup _=>exact Xl rfl (hf _)
      |dct _=>exact Xl rfl (hf _)
     ·split at e
      ·rename_i z;subst z;cases e
       cases ty with
       |non=>cases rx;exact IsiPair.NoneType_dict (h _)
       |bl b=>cases rx;exact IsiPair.bool_dict (h _)
       |int i=>obtain⟨t,rfl⟩:=rx;exact IsiPair.int_dict (h _)
       |str i=>obtain⟨t,rfl⟩:=rx;exact IsiPair.str_dict (h _)
       |lst _=>exact Xl rfl (hf _)
       |tup _=>exact Xl rfl (hf _)
       |dct _=>exact Xl rfl (hf _)
      ·cases e
section
variable {X:Cx}
def Ck:Z0 X (.builtin "isinstance") (fun xs H Q=>∃x T c b,xs=[x,.ty c]/\TyN H x T/\YK T c=some b/\Q (.bl b) H):=by
 intro Xa1 s σ H xs us Q I r h;obtain⟨x,T,c,b,rfl,ty,e,q⟩:=h;obtain⟨u,w',rfl,rx,rc⟩:=Bt r
 cases (show w'=Value.type c from rc)
 have fin:∀t,EP X Xa1 σ Q (.bool b) { s with toks:=t }:=fun t=>⟨.bl b,H,I.tok t,rfl,q⟩
 by_cases hf:∀a,x≠.ref a
 ·exact Cy ty rx hf e fin
 ·cases ty with
  |lst ha =>
    cases rx
    obtain⟨z,its,n,rv,e1⟩:=I.hok _ _ ha;exact Fx e1 rfl e fin
  |tup ha =>
    cases rx
    obtain⟨z,its,rv,o,e1,c1,n,dd⟩:=I.hok _ _ ha;exact Fv e1 c1 e fin
  |dct ha =>
    cases rx
    obtain⟨z,y,vs,kv,ob,es,ep,e1,c1,_⟩:=I.hok _ _ ha;exact Fk e1 c1.1 e fin
  |_=>exact Xl (fun a z=>nomatch z) hf
def J6 (_ j:Int):Prop:=0<j/\j<2^8000
def LW {j:Int}(h:J6 0 j):j.natAbs.log2<9000:=by
 have h0:j.natAbs≠0:=by have:=h.1;omega
 have h1:j.natAbs<2^8000:=by have:=h.2;have:=h.1;omega
 have:=(Nat.log2_lt h0).mpr h1
 omega
def JM:OpR X (binaryOp .FloorDiv) (rI J6 fun i j=>.int (i/j)):=opI fun i j _ _ _ _ _ hc q=>by
 have e:i.fdiv j=i/j:=Int.fdiv_eq_ediv_of_nonneg _ (Int.le_of_lt hc.1);refine floordiv_int (Int.ne_of_gt hc.1) ?_ (.inl (PyProof.noPylong_of_log2 (LW hc)));rw[e];exact q
def KI (i j:Int):Prop:=0<=j/\(Builtin.Int.intBits i:Int)+j<=2^27
def Fb:OpR X (binaryOp .LShift) (rI KI fun i j=>.int (i*2^j.toNat)):=opI fun _ _ _ _ _ _ _ hc q=>lshift_int hc.1 hc.2 q
def DA:OpR X (binaryOp .Mult) (rI IntMulOk fun i j=>.int (i*j)):=opI fun _ _ _ _ _ _ _ hc q=>mul_int q hc
end
def Q4.upd {H H':Hp}{a:Addr}{o:HO}(s:Q4 H H')(h:H a=none):Q4 H (L2.upd H' a o):=fun b u e=>by
 rw[Qu (Zo e h)];exact s b u e
def Q4.new {H:Hp}{a:Addr}{o:HO}(h:H a=none):Q4 H (L2.upd H a o):=(Q4.refl H).upd h
end L2
end
section
namespace Att
open PySem PySem.W PySem.Calls PyProof.Rows
theorem Pk:∀(ns:Ql) (i:Int),i∈ns->Builtin.Int.intBits i<=WData.weightAll (ns.map WData.int)
 |[],i,h=>by simp at h
 |n::ns,i,h=>by
   rw[Xs,WData.weightAll];rcases Xg.mp h with rfl|h
   ·have:WData.weight (.int i)=Builtin.Int.intBits i:=by rw[WData.weight];rfl
    omega
   ·have:=Pk ns i h
    omega
def LX {ns:Ql}(h:WData.layableAll [WData.list (ns.map WData.int)]=true):∀i∈ns,Builtin.Int.intBits i<=2^20:=fun i hi=>by
 have h1:=layableW_arg h (WData.list (ns.map WData.int)) (Xi.mpr rfl);obtain⟨_,_,h2⟩:=layableW_iff.mp h1;rw[WData.weight]at h2;exact VM (Pk ns i hi) h2
def attach_callW {l:OpenLaw}{n:Nat}{q:Program}{loose:Qh}{XP:(Str->Qf)->Heap->Prop}{YP:World->Heap->Prop}{d:DefRec}
 (hn:l.most=some n) (hdf:d.params.defaults=[])
 (call:∀(w:World) (s₀ b7:Shared) (mg mb:Str->Qf) (fa:Addr) (o:Obj) (pm cd doc:Value) (a:Addr) (vs:Qe) (ns:Ql),
  Ground q loose [] XP w s₀ mg mb b7.heap->YP w b7.heap ->
  b7.heap.get? fa=some o->o.data=.func (docDef d.name d.params d.body d.scope pm cd doc)->b7.heap.CodeRec cd d.name->mg d.name=some (.ref fa) ->
  b7.heap.get? a=some { cls:=.type "list",data:=.seq vs.toArray }->IntsAre vs ns->ns.length<=n->(∀i∈ns,Builtin.Int.intBits i<=2^20)->b7.gens=#[] ->
  codeAny (model l.prog w) callerA (.call (.ref fa) ⟨[.ref a],[]⟩) (fun r s'=>r=.ok (.ret (.bool true))/\OldK b7.heap s'.heap/\s'.os=b7.os/\AllBare s'.gens) b7) :
 WalkO q loose XP YP l.row.toRowW d [] (fun f vs=>PySem.call f vs):=by
 intro w s₀ b7 mg mb G Y fa o pm cd doc dV kV ho hd hcd hD hmg hg args vals as hpre hlay hrd hwl hlo;obtain rfl:dV=.none:=Dflts.none hD hdf
 obtain rfl:kV=.none:=Dflts.noKw hD;obtain⟨a,vs,ns,rfl,rfl,hobj,hints,hlen⟩:=A9 hn hpre hwl;refine enter_call (codeAny_mono (call w s₀ b7 mg mb fa o pm cd doc a vs ns G Y ho (fd_plain hd) hcd hmg hobj hints hlen (LX hlay) hg) fun r s' hq=>?_)
 obtain⟨rfl,h2,h3,h4⟩:=hq
 exact⟨.inl ⟨.bool true,.bool true,[],rfl,fun _=>rfl,.bool true,AN l _,fun _=>⟨List.Pairwise.nil,fun _ hm=>(nomatch hm)⟩⟩,h2,h3,h4⟩
end Att
namespace L2
open PySem PySem.Spec PyProof.Rows
structure Scr (K:W.Frag)(H:Hp)(a:Addr)(ns:Ql):Prop where
 sq:SqL K H a (ns.map V.int)
 len:ns.length<=63
 bits:∀i∈ns,Builtin.Int.intBits i<=2^20
def Scr.mono {K:W.Frag}{H H':Hp}{a:Addr}{ns:Ql}(h:Scr K H a ns)(s:Q4 H H'):Scr K H' a ns:=⟨s.seq h.sq,h.len,h.bits⟩
structure Df (K:W.Frag)(mg:Str->Qf)(x:Str)(st:Stmt)(ps:Qh):Prop where
 ex:∃f fd,Fun K x x st f fd/\mg x=some (.ref f)/\Vp K fd ps []
def QF (P:Program)(w:World)(K:W.Frag)(mg:Str->Qf)(base:Heap)(x:Str)(ps:Qh)(k:Nat)(sp:Sp):Prop :=
 ∃f fd,mg x=some (.ref f)/\W.keepIn K (.ref f)=true/\Vp K fd ps []/\FnOk P w K mg base CX0 k f fd ps sp
def Df.cal {P:Program}{w:World}{K:W.Frag}{mg:Str->Qf}{base:Heap}{x:Str}{st:Stmt}{N ps:Qh}{k:Nat}{sp:Sp}(D:Df K mg x st ps)(S:Qp N ps (Qy st))(len:∀vs H Q E,sp vs H Q E->vs.length=ps.length)
 (Xa2:∀(f:Addr) (cdv:Value) (A:Around) (outer:List Env) (s:Shared) (H:Hp) (vs:List V) (Q:VK) (E:XK),Room k (A.deeper (envOfC x (Qy st) s.heap.objs.size f cdv))->sp vs H Q E ->
  ∃t,PSs (Vo CX0 P w K mg base N x (Qy st) f cdv A outer s H E).nox (Zi st) t/\t { nx:=fun _ H'=>Q .non H',rt:=Q } (start N vs) H):QF P w K mg base x ps (k+1) sp:=by
 obtain⟨f,fd,F,hm,hb⟩:=D.ex
 exact⟨f,fd,hm,F.kp,hb,F.ok S len fun cdv A outer s H vs Q E hr h=>Xa2 f cdv A outer s H vs Q E hr h⟩
section
variable {X:Cx}
def QJ {x:Str}{p pos:Pos}{e:Expr}{es:Qi}{t:TA}{ps:Qh}{j k:Nat}{sp:Sp}(C:QF X.prog X.w X.K X.mg X.base x ps j sp)(hr:Room k X.A)(ha:PA X (e::es) t)(hj:j<=k:=by walk_at"j")(hg:Gl X x:=by rfl)
 (hdb:(x==("__debug__" : Str))=false:=by decide +kernel)
 (he:starEach (e::es) X.env=(false,eval e X.env)::starEach es X.env:=by rfl) (hpl:(backTo pos (starEach es X.env)).any (·.1)=false:=by rfl):PE X (.Call (.Name x p) (e::es) [] pos) (Vv sp [] E0 t):=by
 obtain⟨f,fd,hm,hk,hb,F⟩:=C;exact Rr F (hr.mono hj) hg hm hk hb .nil J5 ha hdb he hpl
end
def ZQ:bootBuiltins "len"=some (.builtin "len"):=by decide +kernel
def JD:bootBuiltins "max"=some (.builtin "max"):=by decide +kernel
def G4:bootBuiltins "min"=some (.builtin "min"):=by decide +kernel
def Dr:bootBuiltins "sum"=some (.builtin "sum"):=by decide +kernel
def YU:bootBuiltins "isinstance"=some (.builtin "isinstance"):=by decide +kernel
def NR:bootBuiltins "int"=some (.type "int"):=by decide +kernel
def L6:bootBuiltins "bool"=some (.type "bool"):=by decide +kernel
def BE:bootBuiltins "list"=some (.type "list"):=by decide +kernel
def GK:bootBuiltins "tuple"=some (.type "tuple"):=by decide +kernel
mutual
theorem Rep.uniq {H:Hp}:∀{v:V} {d e:PyData},Rep H v d->Rep H v e->d=e
 |_,_,_,.non,.non=>rfl
 |_,_,_,.bl b,.bl _=>rfl
 |_,_,_,.int b,.int _=>rfl
 |_,_,_,.str b,.str _=>rfl
 |_,_,_,.lst h r,.lst h' r'=>by
   rw[h]at h';cases h';rw[Qv.uniq r r']
 |_,_,_,.tup h r,.tup h' r'=>by
   rw[h]at h';cases h';rw[Qv.uniq r r']
 |_,_,_,.lst h r,.tup h' r'=>by rw[h]at h';cases h'
 |_,_,_,.tup h r,.lst h' r'=>by rw[h]at h';cases h'
 |_,_,_,.dct h,.dct h'=>rfl
 |_,_,_,.lst h r,.dct h'=>by rw[h]at h';cases h'
 |_,_,_,.tup h r,.dct h'=>by rw[h]at h';cases h'
 |_,_,_,.dct h,.lst h' r'=>by rw[h]at h';cases h'
 |_,_,_,.dct h,.tup h' r'=>by rw[h]at h';cases h'
theorem Qv.uniq {H:Hp}:∀{vs:List V} {ds es:Qd},Qv H vs ds->Qv H vs es->ds=es
 |_,_,_,.nil,.nil=>rfl
 |_,_,_,.cons r t,.cons r' t'=>by rw[Rep.uniq r r',Qv.uniq t t']
end
section
variable {X:Cx}{tg:Expr}
end
section
variable {v:V}{ds:Qd}{g:TG}{tb:TS}{D:Ends}{σ:St}{H:Hp}
end
section
variable {f:List (Option Nat)}{g:TG}{tc:TT}{te:TE}{σ:St}{Q:VK}{H1:Hp}{v:V}{ds:Qd}
end
mutual
def noL:PyData->Bool
 |.none=>true
 |.bool _=>true
 |.int _=>true
 |.str _=>true
 |.list _=>false
 |.dict _=>false
 |.tuple ds=>noLs ds
def noLs:Qd->Bool
 |[]=>true
 |d::ds=>noL d&&noLs ds
end
mutual
theorem Rep.updL {H:Hp}{l:Addr}{us zs:List V}(hl:H l=some (.lst us)):∀{v:V} {d:PyData},noL d=true->Rep H v d->Rep (L2.upd H l (.lst zs)) v d
 |_,_,_,.non=>.non
 |_,_,_,.bl b=>.bl b
 |_,_,_,.int i=>.int i
 |_,_,_,.str x=>.str x
 |_,_,h,.lst _ _=>by simp[noL]at h
 |_,_,h,.tup ha r=>.tup (by rw[Qu (KS ha hl (by intro z;cases z))];exact ha) (Qv.updL hl (by simpa [noL] using h) r)
theorem Qv.updL {H:Hp}{l:Addr}{us zs:List V}(hl:H l=some (.lst us)):∀{vs:List V} {ds:Qd},noLs ds=true->Qv H vs ds->Qv (L2.upd H l (.lst zs)) vs ds
 |_,_,_,.nil=>.nil
 |_,_,h,.cons r t=>.cons (Rep.updL hl (by simp[noLs]at h;exact h.1) r) (Qv.updL hl (by simp[noLs]at h;exact h.2) t)
end
def Pf (a b:Int):Builtin.Range.rangeSize a b (-1)=((a-b).toNat:Int):=by
 unfold Builtin.Range.rangeSize;simp only[show ¬((-1:Int) > 0) by decide,if_false,show(-(-1):Int)=1 from rfl,Int.ediv_one]
 split<;>omega
def EU {a b:Int}(ha : -(2^62)<=a)(ha':a<2^62)(hb : -(2^62)<=b)(hb':b<2^62):Builtin.Range.small a b (-1)=true:=by
 unfold Builtin.Range.small;rw[Pf];simp only[Builtin.Range.rangeFitsLong,UV,Bool.or_eq_true,decide_eq_true_eq,beq_iff_eq,show ¬((-1:Int) > 0) by decide,if_false];omega
def MC (hi:Int)(n:Nat):It:=⟨fun i _=>i<n,fun i H x H'=>H'=H/\x=.int (hi-i),fun i _=>n<=i⟩
theorem IA {P:Program}{w:World}{K:W.Frag}{tg:Expr}(it:Addr)(hi:Int)(n:Nat):Turn P w K tg (MC hi n) [it] it (fun i h=>IsRangeIter h it (hi+(i:Nat)*(-1)) ((n:Int)-(i:Nat)) (-1)) where
 mem:=by simp
 obj:=fun i h st b hb=>by
  have e:b=it:=by simpa using hb
  subst e;exact⟨_,st,fun v z=>by
   have z':Data.fields _=Data.cell v:=z
   cases z'⟩
 keep:=fun i h h' st k=>k it (by simp) _ st
 item:=by
  intro X hP hw hK hc i Xa1 s σ H E I hf st hg;subst hP hw hK;obtain⟨f0,f1,f2,f3,f4,f5⟩:=hf it (by simp);have W:=Walks.range (prog:=X.prog) (w:=X.w) (I.ok.hd hc) it hi (-1) n;refine W.item i s _ _ hg st fun v h' tk hv st' kk=>?_;obtain⟨t,rfl⟩:=hv;have I1:Qr X Xa1 σ H { s with heap:=h',toks:=tk }:=I.turned (fun b o hb e=>kk b o (by simpa using hb) e) f0 f1 f3 f4 f5;refine⟨_,rfl,Gu (s:={ s with heap:=h',toks:=tk }) (n := "range_iterator") st' rfl rfl (by decide) ⟨.int (hi-i),H,I1,⟨t,?_⟩,⟨rfl,rfl⟩,st',fun b hb=>(hf b hb).1⟩⟩;rw[show hi+(i:Int)*(-1)=hi-i by omega]
 done:=by
  intro X hP hw hK hc i Xa1 s σ H E I hf st hg;subst hP hw hK;obtain⟨f0,f1,f2,f3,f4,f5⟩:=hf it (by simp);exact wpAny_pyNext_range_end (I.ok.hd hc) st (by have:n<=i:=hg;omega) fun h' eb=>⟨rfl,I.turned (t':=s.toks) (fun b o hb e=>eb b o hb e) f0 f1 f3 f4 f5⟩
 self:=fun _ _ _ _ _ st h=>wpAny_pyIter_rangeiter st h
section
variable {X:Cx}{tg:Expr}
def AA {Xa1:Qc}{σ:St}{H:Hp}{s:Shared}{R:It->Hp->Prop}{E:Qb}{lo hi:Int}{t u v:Tok}{tk:Nat}(I:Qr X Xa1 σ H s)(h1 : -(2^62)<=hi)(h2:hi<2^62)(h3 : -(2^62)<=lo)(h4:lo<2^62)
 (q:R (MC hi (hi-lo).toNat) H):wpAny (model X.prog X.w) X.A (pyIter (.ref s.heap.objs.size)) (PIE X Xa1 σ tg R) E { s with heap:=s.heap.push { cls:=.type "range",data:=.fields #[.int hi t,.int lo u,.int (-1) v] },toks:=tk }:=by
 refine wpAny_pyIter_range (IsRange.new ..) (EU h1 h2 h3 h4) ?_;have I1:Qr X Xa1 σ H { s with heap:=s.heap.push { cls:=.type "range",data:=.fields #[.int hi t,.int lo u,.int (-1) v] },toks:=tk }:=I.kept fun b o e=>Xf _ e
 refine⟨(s.heap.push { cls:=.type "range",data:=.fields #[.int hi t,.int lo u,.int (-1) v] }).objs.size,[(s.heap.push { cls:=.type "range",data:=.fields #[.int hi t,.int lo u,.int (-1) v] }).objs.size],_,_,H,rfl,
  I1.kept (t':=tk) fun b o e=>Xf _ e,IA _ hi (hi-lo).toNat,?_,fun b hb=>?_,q⟩
 ·have e1:hi+((0:Nat):Int)*(-1)=hi:=by simp
  have e2:(((hi-lo).toNat:Nat):Int)-((0:Nat):Int)=Builtin.Range.rangeSize hi lo (-1):=by rw[Pf];omega
  show IsRangeIter _ _ (hi+((0:Nat):Int)*(-1)) ((((hi-lo).toNat:Nat):Int)-((0:Nat):Int)) (-1);rw[e1,e2];exact Xy _ rfl
 ·have e:b=(s.heap.push { cls:=.type "range",data:=.fields #[.int hi t,.int lo u,.int (-1) v] }).objs.size:=by simpa using hb
  subst e;exact I1.fpOk (Xu _) (I1.hok.fresh (Xu _))
def KR (ta:TA):TI:=fun σ H R=>ta σ H fun vs H1=>∃i j:Int,vs=[.int i,.int j,.int (-1)]/\(-(2^62)<=i/\i<2^62 /\ -(2^62)<=j/\j<2^62)/\R (MC i (i-j).toNat) H1
def SK {a b c:Expr} {ta:TA} {p pos:Pos} (hg:Gl X "range") (hm:X.mg "range"=none) (ha:PA X [a,b,c] ta) (hs:starEach [a,b,c] X.env=[(false,eval a X.env),(false,eval b X.env),(false,eval c X.env)]:=by rfl)
 (hs2:starEach [b,c] X.env=[(false,eval b X.env),(false,eval c X.env)]:=by rfl):PI X tg (.Call (.Name "range" p) [a,b,c] [] pos) (KR ta):=by
 intro Xa1 s σ H R I h;refine Call_ (WV I hg hm boot_range (PyProof.Rows.callWith_type1 (Q6 (ha pos Xa1 s σ H _ I h) fun us s1 ⟨vs,H1,I1,r1,q1⟩=>?_) (by rw[hs,hs2]) (by rw[hs2];rfl)));obtain⟨i,j,e,⟨q1,q2,q3,q4⟩,q⟩:=q1;subst e;cases r1 with
 |cons r rr =>
   cases rr with
   |cons r' rr =>
     cases rr with
     |cons r2 rr =>
       cases rr
       obtain⟨t,rfl⟩:=r;obtain⟨t',rfl⟩:=r';obtain⟨t2,rfl⟩:=r2;exact call_range_3 (by decide) (AA I1 q1 q2 q3 q4 q) (.inl (PyProof.noPylong_small (by decide)))
end
def MN (K:W.Frag):V->V->Hp->VK->Prop:=fun o i H Q=>∃p xs k v,o=.ref p/\i=.int k/\SqL K H p xs/\0<=k/\xs[k.toNat]?=some v/\Q v H
def IB (ns:Ql):preSum (fun i=>ns.getD i 0) ns.length=ns.sum:=by
 have key:∀k,k<=ns.length->preSum (fun i=>ns.getD i 0) k=(ns.take k).sum:=by
  intro k;induction k with
  |zero=>intro _;simp[preSum]
  |succ k ih =>
    intro hk;have h1:k<ns.length:=by omega
    rw[WG,Bd,<- ih (by omega)];simp[preSum,h1]
 rw[key ns.length (Xu _),Wc]
theorem WZ:∀{vs:Qe} {ns:Ql} {i:Nat} {v:Value},IntsAre vs ns->vs[i]?=some v->∃t,v=.int (ns.getD i 0) t
 |_,_,_,_,.nil,e=>by simp at e
 |_,_,0,_,.cons n t h,e=>by simp at e;exact⟨t,by simp[<- e]⟩
 |_,_,i+1,v,.cons n t h,e=>by
   obtain⟨t',z⟩:=WZ (i:=i) (v:=v) h (by simpa using e)
   exact⟨t',by simpa using z⟩
def II {prog:Program}{w:World}{A:Around}{E:Qb}{s:Shared}{l:Addr}{vs:Qe}{ns:Ql}{Q:Qb}(hh:A.handled=none)(hl:s.heap.IsList l vs.toArray)(hi:IntsAre vs ns)
 (h:∀h' tk t',(∀b o,s.heap.get? b=some o->h'.get? b=some o)->Q (.int ns.sum t') { s with heap:=h',toks:=tk }):wpAny (model prog w) A (call (.builtin "sum") [.ref l]) Q E s:=by
 obtain⟨o,ho,hc,n,hd⟩:=id hl;have hne:l≠s.heap.objs.size:=Xp (Xj ho);have W:=(Walks.list (prog:=prog) (w:=w) (A:=A.in1) hh s.heap.objs.size l hne vs.toArray).toS;refine call_sum_walkAnyS (wpAny_pyIter_list hl ?_);refine⟨s.heap.objs.size,_,_,_,_,_,_,fun i=>ns.getD i 0,rfl,W,⟨⟨_,Xy _ rfl,rfl,rfl⟩,hl.at fun o e=>Xf _ e⟩,fun b hb=>?_,fun i v hP=>WZ hi (by simpa using hP),fun s' t' hm=>?_⟩
 ·rcases Xg.mp hb with rfl|hb
  ·exact Xj (Xy _ rfl)
  ·obtain rfl:=Xi.mp hb
   exact Xj (Xf _ ho)
 ·obtain⟨h',g',d',tk',os'⟩:=s'
  have e1:g'=s.gens:=hm.gens;have e2:d'=s.drawn:=hm.drawn;have e3:os'=s.os:=hm.os;subst e1 e2 e3;have es:vs.toArray.size=ns.length:=by rw[Xw,hi.length]
  rw[es,IB];exact h h' tk' t' fun b o e=>hm.heap b o (fun hb=>Xl (Xj e) ((Xi.mp hb)▸Yh _)) (Xf _ e)
section
variable {X:Cx}
def BT:KA X (MN X.K):=by
 intro Xa1 s σ H o i ov iv Q I ro ri h;obtain⟨p,xs,k,v,rfl,rfl,hq,h0,hv,q⟩:=h
 cases ro
 obtain⟨t,rfl⟩:=ri;obtain⟨its,r,pl,hz⟩:=I.list hq;obtain⟨w,ew,rw'⟩:=r.get hv;have hl:=r.length;have hn:=JC;have hlt:k.toNat<xs.length:=(Xh.mp hv).1;exact wpAny_getItem_list pl.isList h0 (by omega) (by simpa using ew) ⟨v,H,I,rw',q⟩
def CC:Z0 X (.builtin "sum") (fun xs H Q=>X.calm=true/\∃(x:V) (ns:Ql),xs=[x]/\Rep H x (.list (ns.map PyData.int))/\Q (.int ns.sum) H):=by
 intro Xa1 s σ H xs us Q I r h;obtain⟨hc,x,ns,rfl,hx,q⟩:=h;obtain⟨u,rfl,rx⟩:=Y7 r
 cases hx with
 |lst ha rr =>
   cases rx
   have er:=GT rr;subst er;obtain⟨its,rv,p,hz⟩:=I.list (SqL.of (K:=X.K) ha);exact II (I.ok.hd hc) p.isList (BZ rv) fun h' tk t' k=>⟨.int ns.sum,H,I.kept k,⟨_,rfl⟩,q⟩
end
section
variable {X:Cx}
def Ia:Z0 X (.type "range") (fun xs H Q=>∃j,xs=[.int j]/\∀p,H p=none->Q (.ref p) (upd H p (.rng 0 j))):=by
 intro Xa1 s σ H xs us Q I r h;obtain⟨j,rfl,q⟩:=h;obtain⟨u,rfl,t,rfl⟩:=Y7 r;refine call_range_1 ?_;refine⟨.ref s.heap.objs.size,_,I.laid (fun b o e=>Xf _ e) (Xu _) (o:=.rng 0 j) ?_,rfl,q _ I.fresh⟩
 exact⟨_,_,_,Xy _ rfl⟩
def WR (n:Nat):List V:=(List.range n).map fun(j:Nat)=>V.int (j:Int)
def Ex {vs:Qe}{n:Nat}(h1:vs.length=n)(h2:∀(j:Nat) (v:Value),vs[j]?=some v->∃t,v=Value.int (j:Int) t):QK (WR n) vs:=by
 have key:∀(k:Nat) (ws:Qe),(∀(j:Nat) (v:Value),ws[j]?=some v->∃t,v=Value.int ((k+j:Nat):Int) t)->QK ((List.range ws.length).map fun(j:Nat)=>V.int ((k+j:Nat):Int)) ws:=by
  intro k ws;induction ws generalizing k with
  |nil=>intro _;exact .nil
  |cons w ws ih =>
    intro hw;rw[XJ,List.range_succ_eq_map,Xs,XY];refine .cons ?_ ?_
    ·obtain⟨t,e⟩:=hw 0 w rfl
     exact⟨t,e⟩
    ·have:=ih (k+1) fun j v e=>by
      obtain⟨t,e'⟩:=hw (j+1) v (by simpa using e)
      exact⟨t,by rw[e'];congr 1;omega⟩
     have e2:((fun(j:Nat)=>V.int ((k+j:Nat):Int)) ∘ Nat.succ)=fun(j:Nat)=>V.int ((k+1+j:Nat):Int):=by
      funext j
      show V.int ((k+(j+1):Nat):Int)=_
      congr 1
      omega
     rw[e2];exact this
 have:=key 0 vs fun j v e=>by
  obtain⟨t,e'⟩:=h2 j v e
  exact⟨t,by rw[e'];congr 1;omega⟩
 rw[h1]at this;unfold WR;have e3:(fun(j:Nat)=>V.int ((0+j:Nat):Int))=fun(j:Nat)=>V.int (j:Int):=by
  funext j
  rw[Nat.zero_add]
 rw[e3]at this;exact this
def IM:Z0 X (.type "list") (fun xs H Q=>X.calm=true/\∃(p:Addr) (n:Nat),xs=[.ref p]/\H p=some (.rng 0 (n:Int))/\n<=1000/\∀l,H l=none->Q (.ref l) (upd H l (.lst (WR n)))):=by
 intro Xa1 s σ H xs us Q I r h;obtain⟨hc,p,n,rfl,hp,hn,q⟩:=h;obtain⟨u,rfl,rx⟩:=Y7 r
 cases rx
 obtain⟨t,u,v,e⟩:=I.hok p _ hp;have hs:Builtin.Range.rangeSize 0 (n:Int) 1=(n:Int):=by rw[rangeSize_one];split<;>omega
 refine call_list_range (n:=n) (I.ok.hd hc) (a:=0) (b:=n) (c:=1) (t:=t) (u:=u) (v:=v) e (small_one (by decide) (by decide) (by omega) (by omega)) hs (by omega) fun h' tk acc' c' hk hS hacc=>?_;refine⟨.ref s.heap.objs.size,_,I.laid (o:=.lst (WR n)) hk (Xu _) ?_,rfl,q _ I.fresh⟩;refine⟨?_,acc'.toList,c',Ex ?_ ?_,by simpa using hS⟩
 ·unfold WR
  rw[Xk,WI];exact Y1 (Vr hn)
 ·simpa using hacc.1
 ·intro j v hv
  obtain⟨t,e'⟩:=hacc.2 j v (by simpa using hv)
  exact⟨t,by rw[e'];congr 1;omega⟩
end
def FQ:bootBuiltins "range"=some (.type "range"):=by decide +kernel
def Qr.turnedL {X:Cx}{Xa1:Qc}{σ:St}{H:Hp}{s:Shared}{h':Heap}{t':Nat}{ch:Qg}(I:Qr X Xa1 σ H s)(k:∀b o,b∉ch->s.heap.get? b=some o->h'.get? b=some o)(hch:∀b∈ch,Yb X Xa1 H b):Qr X Xa1 σ H { s with heap:=h',toks:=t' }:=by
 refine I.step (g':=s.gens) (d':=s.drawn) (ch:=ch) (fun b hb=>?_) (fun b o _ _ hc e _=>k b o hc e) (fun b o _ _ hc e _=>⟨o.slots,k b o hc e⟩) (fun _ _ _ _ n=>n)
  (fun b o hc e=>⟨o,k b o hc e⟩) (fun _ _ e=>e) (fun _ _ _ e=>e) (fun b ps e=>⟨#[],by rw[e];simp⟩) (fun m hm=>?_) (fun b u e=>?_) I.bare (fun b _ o hc _ e=>k b o hc e)
 ·obtain⟨f0,f1,f2,f3,f4,f5⟩:=hch b hb
  exact⟨f3,f1,f4,f5⟩
 ·obtain⟨o,es,ep,ho,r⟩:=hm
  exact⟨o,es,ep,k _ o (fun z=>(hch _ z).2.1 rfl) ho,r⟩
 ·refine(I.hok b u e).stay (fun c v hc q=>k c v (fun z=>?_) q) (fun _ q=>q) fun _ _ q=>q
  have hn:=(hch c z).1
  rcases hc with rfl|hc
  ·rw[hn]at e;cases e
  ·rw[hn]at hc;cases hc
def Qr.trackTup {X:Cx}{Xa1:Qc}{σ:St}{H:Hp}{s0 s:Shared}{T:Addr}{x y:V}{u v:Value}(I0:Qr X Xa1 σ H s0)(I:Qr X Xa1 σ H s)(hT:s0.heap.objs.size<=T)(rx:QL x u)(ry:QL y v)(tup:s.heap.IsTuple T #[u,v]):Qr X Xa1 σ (upd H T (.tup [x,y])) s:=by
 refine I.track (I0.hok.fresh hT) (VM I0.sz hT) (XX (Xt I0.lt hT)) (fun z c e q=>?_) (fun p hp q=>?_) ⟨by show 2<=sizeLine;decide,[u,v],.cons rx (.cons ry .nil),tup⟩
 ·obtain⟨w,hw⟩:=I0.cell z c e
  exact Xl (Xt hw.lt (by rw[q];exact hT)) (Yh _)
 ·exact Xl (Xt (Xj (I0.pin p hp).1) (by rw[q];exact hT)) (Yh _)
def Ite (K:W.Frag)(a:Addr):It :=
 ⟨fun i H=>∃xs x,SqL K H a xs/\xs[i]?=some x,
  fun i H v H'=>∃p x,H p=none/\v=.ref p/\H'=upd H p (.tup [.int (i:Int),x])/\∀xs,SqL K H a xs->xs[i]?=some x,
  fun i H=>∃xs,SqL K H a xs/\i=xs.length⟩
theorem Ew {P:Program}{w:World}{K:W.Frag}{elts:Qi}{k:Nat}{pos:Pos}{e it a:Addr}(hei:e≠it)(hle:a≠e)(hli:a≠it) :
 Turn P w K (.Tuple elts k pos) (Ite K a) [e,it] e (fun i h=>(∃old,IsEnum h e it i old)/\h.IsListIter it a i) where
 mem:=by simp
 obj:=fun i h st c hc=>by
  obtain⟨⟨old,he⟩,o1,e1,c1,d1⟩:=st;simp only[Xg,XU,or_false]at hc;rcases hc with rfl|rfl
  ·exact⟨_,he,fun v z=>nomatch z⟩
  ·exact⟨_,e1,fun v z=>by rw[d1]at z;cases z⟩
 keep:=fun i h h' st kk=>by
  obtain⟨⟨old,he⟩,h1⟩:=st
  exact⟨⟨old,kk e (by simp) _ he⟩,h1.at fun o x=>kk it (by simp) o x⟩
 item:=by
  intro X hP hw hK hc i Xa1 s σ H E I hf st hg;subst hP hw hK;obtain⟨xs,x,hq1,hx⟩:=hg;obtain⟨its1,rv1,p1,hz1⟩:=I.list hq1;obtain⟨u1,hu1,ru1⟩:=rv1.get hx;obtain⟨he,h1⟩:=st;have W:=WalksT.enumerate (prog:=X.prog) (w:=X.w) (A:=X.A) (I.ok.hd hc) e it a hei hle hli its1.toArray;have l1:i<its1.length:=(Xh.mp hu1).1;have wr:∀c∈[e,it],Yb X Xa1 H c:=hf;refine W.item i s _ _ (by simp only[Xw];omega) ⟨he,h1,p1.isList⟩ fun T vals h' tk pt hT tup mid kp=>?_;obtain⟨t,v1,e1,rfl⟩:=pt
  have ev1:v1=u1:=by
   have:its1[i]?=some v1:=by simpa using e1
   rw[hu1]at this;exact(Option.some.inj this).symm
  subst ev1;have I1:Qr X Xa1 σ H { s with heap:=h',toks:=tk }:=I.turnedL kp wr;refine⟨.ref T,rfl,W.go elts k pos i T { s with heap:=h',toks:=tk } _ _ mid fun h'' st' kp2=>?_⟩;have I2:Qr X Xa1 σ H { s with heap:=h'',toks:=tk }:=I1.turnedL (t':=tk) kp2 wr
  have tup2:h''.IsTuple T #[.int (i:Int) t,v1]:=by
   obtain⟨o,ho,hcl,n,hd⟩:=tup
   exact⟨o,kp2 T o (W.apart i T h' mid) ho,hcl,n,hd⟩
  have I3:=I.trackTup I2 hT (x:=.int (i:Int)) ⟨t,rfl⟩ ru1 tup2;obtain⟨s1,s2,_⟩:=st';refine⟨.ref T,_,I3,rfl,⟨T,x,I.hok.fresh hT,rfl,rfl,fun xs' h=>by rw[I.list_inj h hq1];exact hx⟩,⟨s1,s2⟩,fun c hc'=>?_⟩
  have hlt:c<s.heap.objs.size:=by
   simp only[Xg,XU,or_false]at hc';obtain⟨old,he⟩:=he
   rcases hc' with rfl|rfl
   ·exact Xj he
   ·obtain⟨_,z,_⟩:=h1;exact Xj z
  rw[Qu (Xp (Xt hlt hT))];exact(hf c hc').1
 done:=by
  intro X hP hw hK hc i Xa1 s σ H E I hf st hg;subst hP hw hK;obtain⟨xs,hq1,rfl⟩:=hg;obtain⟨its1,rv1,p1,hz1⟩:=I.list hq1;obtain⟨he,h1⟩:=st;have W:=WalksT.enumerate (prog:=X.prog) (w:=X.w) (A:=X.A) (I.ok.hd hc) e it a hei hle hli its1.toArray;have en:xs.length=its1.toArray.size:=by simp[rv1.length]
  refine W.done s _ _ (by rw[<- en];exact⟨he,h1,p1.isList⟩) fun h' tk kp=>⟨rfl,I.turnedL kp hf⟩
 self:=fun _ _ _ _ _ st h=>by
  obtain⟨⟨old,he⟩,_⟩:=st;exact wpAny_pyIter_enum he h
section
variable {X:Cx}
def Nv (K:W.Frag)(ta:TA):TI:=fun σ H R=>ta σ H fun vs H1=>∃a,vs=[.ref a]/\(∃xs,SqL K H1 a xs)/\R (Ite K a) H1
def CD:bootBuiltins "enumerate"=some (.type "enumerate"):=by decide +kernel
def P3 {a:Expr} {ta:TA} {p pos:Pos} {elts:Qi} {k:Nat} {tpos:Pos} (hg:Gl X "enumerate") (hm:X.mg "enumerate"=none) (ha:PA X [a] ta) (hs:starEach [a] X.env=[(false,eval a X.env)]:=by rfl) :
 PI X (.Tuple elts k tpos) (.Call (.Name "enumerate" p) [a] [] pos) (Nv X.K ta):=by
 intro Xa1 s σ H R I h;refine Call_ (WV I hg hm CD (PyProof.Rows.callWith_type1 (Q6 (ha pos Xa1 s σ H _ I h) fun us s1 ⟨vs,H1,I1,r1,q1⟩=>?_) hs rfl));obtain⟨x,e,⟨xs,hx⟩,q⟩:=q1;subst e;obtain⟨u,rfl,rx⟩:=Y7 r1
 cases rx
 obtain⟨its1,rv1,p1,hz1⟩:=I1.list hx;refine call_enumerate_list p1.isList fun h' he h1 hsz kp=>wpAny_pyIter_enum he ?_;have lx:x<s1.heap.objs.size:=by obtain⟨o,ho,_⟩:=p1.isList;exact Xj ho
 have I2:Qr X Xa1 σ H1 { s1 with heap:=h' }:=I1.kept (t':=s1.toks) kp;refine⟨_,[s1.heap.objs.size+1,s1.heap.objs.size],_,_,H1,rfl,I2,Ew (e:=s1.heap.objs.size+1) (it:=s1.heap.objs.size) (a:=x) (Nat.succ_ne_self _) (Xp (Bf lx)) (Xp lx),⟨⟨_,he⟩,h1⟩,fun c hc=>?_,q⟩
 have hle:s1.heap.objs.size<=c:=by
  simp only[Xg,XU,or_false]at hc;rcases hc with rfl|rfl
  ·exact Nat.le_add_right _ _
  ·exact Xu _
 exact I1.fpOk hle (I1.hok.fresh hle)
end
def DG {s:Shared}{h':Heap}{o:Obj}(hk:∀b x,b∉[s.heap.objs.size]->(s.heap.push o).get? b=some x->h'.get? b=some x):∀b x,s.heap.get? b=some x->h'.get? b=some x :=
 fun b x e=>hk b x (fun hm=>by rw[Xi.mp hm]at e;exact Yh _ (Xj e)) (Xf _ e)
def Yp:Ql->Int
 |[]=>0
 |[a]=>a
 |a::b::r=>min a (Yp (b::r))
theorem Hr:∀{ns:Ql},ns≠[]->Yp ns∈ns/\∀a∈ns,Yp ns<=a
 |[],h=>Xl rfl h
 |[a],_=>by simp[Yp]
 |a::b::r,_=>by
   obtain⟨h1,h2⟩:=Hr (ns:=b::r) (by simp);simp only[Yp];refine⟨?_,fun c hc=>?_⟩
   ·by_cases h:a<=Yp (b::r)
    ·rw[Int.min_eq_left h];exact Xc
    ·rw[Int.min_eq_right (by omega)];exact Xe _ h1
   ·rcases Xg.mp hc with rfl|hc
    ·omega
    ·have:=h2 c hc
     omega
def Fs {ns:Ql}{M:Int}(h1:M∈ns)(h2:∀a∈ns,M<=a):M=Yp ns:=by
 obtain⟨g1,g2⟩:=Hr (ns:=ns) (fun z=>by rw[z]at h1;cases h1)
 have:=h2 _ g1
 have:=g2 _ h1
 omega
section
variable {X:Cx}
def Na (X:Cx):List V->Hp->VK->Prop:=fun xs H Q=>X.calm=true/\∃(x:V) (ns:Ql),xs=[x]/\Rep H x (.list (ns.map PyData.int))/\ns≠[]/\Q (.int (Yp ns)) H
def FC:Z0 X (.builtin "min") (Na X):=by
 intro Xa1 s σ H xs us Q I r h;obtain⟨hc,x,ns,rfl,hx,hne,q⟩:=h;obtain⟨u,rfl,rx⟩:=Y7 r
 cases hx with
 |@lst l ys _ ha rr =>
   cases rx
   have er:=GT rr;subst er;obtain⟨its,rv,p,hz⟩:=I.list (SqL.of (K:=X.K) ha);have hl:=p.isList;have hi:=BZ rv;have hlen:its.length=ns.length:=hi.length;have hpos:0<ns.length:=Mt.mpr hne;have hlt:l<s.heap.objs.size:=by obtain⟨_,e,_⟩:=hl;exact Xj e
   refine call_min_walk (wpAny_pyIter_list hl ?_)
   refine⟨s.heap.objs.size,[s.heap.objs.size,l],[s.heap.objs.size],its.toArray.size,_,_,_,rfl,Walks.list (A:=X.A.in1) (I.ok.hd hc) _ l (Xp hlt) its.toArray,
    ⟨⟨_,Xy _ rfl,rfl,rfl⟩,hl.push _⟩,fun b hb=>?_,by simp only[Xw];omega,CmpOf.ints_lt (fun i=>ns.getD i 0) (fun i v hP=>WZ hi (by simpa using hP)),fun v h' tk hP hk=>?_⟩
   ·show b<(s.heap.push _).objs.size
    rw[W0];rcases Xg.mp hb with rfl|hb
    ·exact W1 _
    ·rcases Xg.mp hb with rfl|hb
     ·exact Bf hlt
     ·cases hb
   ·rw[List.getElem?_toArray]at hP
    obtain⟨t,rfl⟩:=WZ hi hP;obtain⟨g1,g2⟩:=argBest_lt (fun i=>ns.getD i 0) (its.toArray.size-1);have hsz:its.toArray.size=its.length:=by simp
    generalize argBest (fun i j=>decide (ns.getD i 0<ns.getD j 0)) (its.toArray.size-1)=k at g1 g2 ⊢;rw[hsz]at g1 g2;have hk2:k<ns.length:=by omega
    have em:ns.getD k 0=Yp ns:=by
     refine Fs (by simp[hk2]) fun a ha'=>?_;obtain⟨j,hj,rfl⟩:=UR.mp ha'
     have:=g2 j (by omega)
     simpa [hj,hk2] using this
    exact⟨.int (Yp ns),H,I.kept (DG hk),⟨t,by rw[em]⟩,q⟩
end
end L2
end
namespace Mir
def V5 (ns:Ql)(k:Int):Int:=ns.getD k.toNat 0
def Tu (x:Int):Nat:=if x==0 then 0 else x.natAbs.log2+1
def K2 (i:Int):Int:=if i<0 then -i else i
def mix (head k:Int):Nat->Int×Int×Int
 |0=>(head%2147483629+7919*k,69621*k+5,0)
 |i+1 =>
   ((((mix head k i).1*48271+11+(i:Int)*k)%2147483647),
    (((mix head k i).2.1*16807+((mix head k i).1*48271+11+(i:Int)*k)%2147483647)%2147483629),
    (mix head k i).2.2*2147483629+(((mix head k i).2.1*16807+((mix head k i).1*48271+11+(i:Int)*k)%2147483647)%2147483629*(((mix head k i).2.1*16807+((mix head k i).1*48271+11+(i:Int)*k)%2147483647)%2147483629)+((mix head k i).1*48271+11+(i:Int)*k)%2147483647)%2147483587)
def Ld (ns:Ql)(k:Int):Int :=
 if V5 ns 0/720%2=1 then (mix (V5 ns 0) k 30).2.2 else K2 (V5 ns k)+(mix (V5 ns 0) k 30).2.2*2^Tu (K2 (V5 ns k))
structure Ln where
 up:Option Nat
 bs:Ql
structure Yd where
 T:Nat
 ls:List Ln
def QX (y:Yd)(k:Nat):Option Nat:=(y.ls[k]?).bind (·.up)
structure Yd.Ok (y:Yd):Prop where
 t1:1<=y.T
 t8:y.T<=8
 l1:1<=y.ls.length
 l5:y.ls.length<=5
 up0:QX y 0=none
 ups:∀k,0<k->k<y.ls.length->∃a,QX y k=some a/\a<k
 bl:∀l∈y.ls,l.bs.length=y.T
 bb:∀l∈y.ls,∀b∈l.bs,0<=b/\b<10^300
def JF {b:Int}(h:b<10^30):b<10^300:=Int.lt_trans h (by decide +kernel)
def upF9(y:Yd):Nat->Nat->Qk
 |0,k=>[k]
 |n+1,k=>k::match QX y k with
  |none=>[]
  |some a=>if a<k then upF9 y n a else []
theorem upE9(y:Yd):∀n k m,k<=n->k<=m->upF9 y n k=upF9 y m k
 |0,k,0,_,_=>rfl
 |0,k,m+1,h,_=>by
  cases Nat.le_zero.mp h;unfold upF9;cases QX y 0<;>simp
 |n+1,k,0,_,h=>by
  cases Nat.le_zero.mp h;unfold upF9;cases QX y 0<;>simp
 |n+1,k,m+1,h,g=>by
  unfold upF9;cases QX y k with
  |none=>rfl
  |some a=>
   by_cases l:a<k
   ·simp only[l,if_true,upE9 y n a m (by omega) (by omega)]
   ·simp only[l,if_false]
def upL(y:Yd)(k:Nat):Qk:=upF9 y k k
theorem upD9(y:Yd)(k:Nat):upL y k=k::match QX y k with|none=>[]|some a=>if a<k then upL y a else []:=by
 unfold upL;rw[upE9 y k k (k+1) (Nat.le_refl _) (by omega)]
 show k::_=_
 cases QX y k with
 |none=>rfl
 |some a=>
  by_cases l:a<k
  ·simp only[l,if_true,upE9 y k a a (by omega) (Nat.le_refl _)]
  ·simp only[l,if_false]
def NE {y:Yd}(ok:y.Ok){k:Nat}(hk:k<y.ls.length):upL y k=if k=0 then [0] else k::upL y ((QX y k).getD 0):=by
 rw[upD9];by_cases h0:k=0
 ·subst h0;simp[ok.up0]
 ·obtain⟨a,e,l⟩:=ok.ups k (by omega) hk
  simp[e,l,h0]
def N3 (y:Yd):∀k,∀j∈upL y k,j<=k:=by
 intro k;induction k using Nat.strongRecOn with
 |ind k ih =>
   intro j hj;rw[upD9]at hj;rcases Xg.mp hj with rfl|hj
   ·exact Xu _
   ·cases e:QX y k with
    |none=>rw[e]at hj;simp at hj
    |some a =>
      rw[e]at hj;by_cases hl:a<k
      ·simp only[hl,if_true]at hj
       have:=ih a hl j hj
       omega
      ·simp only[hl,if_false]at hj;simp at hj
def Hd (y:Yd)(k:Nat):k∈upL y k:=by rw[upD9];exact Xc
def Dj {y:Yd}(ok:y.Ok){k:Nat}(h0:0<k)(hk:k<y.ls.length){a:Nat}(e:QX y k=some a)(l:Nat)(hl:l≠k):l∈upL y k↔l∈upL y a:=by
 rw[NE ok hk,Xb (by omega),e];simp only[Ue,Xg];constructor
 ·rintro(h|h)
  ·exact Xl h hl
  ·exact h
 ·exact .inr
end Mir
namespace Mir
structure Gs where
 line:Nat
 first:Nat
 last:Nat
 want:Int
 most:Int
structure Gs.Ok (y:Yd)(g:Gs):Prop where
 ln:g.line<y.ls.length
 fl:g.first<=g.last
 lt:g.last<y.T
 w1:1<=g.want
 w2:g.want<10^300
 m1:1<=g.most
 m2:g.most<10^300
def gn0 (ns:Ql)(k:Nat):Int:=Ld ns (6+(k:Int))
def gn1 (ns:Ql)(y:Yd)(k:Nat):Int:=gn0 ns k/(y.ls.length:Int)
def gn2 (ns:Ql)(y:Yd)(k:Nat):Int:=gn1 ns y k/(y.T:Int)
def gf (ns:Ql)(y:Yd)(k:Nat):Int:=gn1 ns y k%(y.T:Int)
def gl (ns:Ql)(y:Yd)(k:Nat):Int:=gf ns y k+gn2 ns y k%((y.T:Int)-gf ns y k)
def Yk (g:Gs)(t:Int):Bool:=decide ((g.first:Int)<=t)&&decide (t<=(g.last:Int))
def Zn (y:Yd)(l:Nat)(t:Nat):Int:=(((y.ls[l]?).map (·.bs)).getD []).getD t 0
def Zq (gs:List Gs)(t:Int)(l:Nat):Qk->Int
 |[]=>0
 |k::r=>(match gs[k]? with|some g=>if g.line=l/\Yk g t=true then g.most else 0|none=>0)+Zq gs t l r
def Jk (gs:List Gs)(t:Int)(l:Nat)(a b:Qk):Zq gs t l (a++b)=Zq gs t l a+Zq gs t l b:=by
 induction a with
 |nil=>simp[Zq]
 |cons k r ih=>simp only[WH,Zq,ih];omega
def Y5 (y:Yd)(b:Qn)(st:Qn)(j:Nat):Qn:=fun l=>st l+(if QX y j=some l then min (st j) (b j) else 0)
def ZG (y:Yd)(b own:Qn):Nat->Qn
 |0=>own
 |i+1=>Y5 y b (ZG y b own i) (y.ls.length-1-i)
def Vu (y:Yd)(b own:Qn)(l:Nat):Int:=ZG y b own (y.ls.length-1) l
def passes (y:Yd)(b own:Qn)(l:Nat):Int:=min (Vu y b own l) (b l)
def WF (y:Yd)(b own:Qn)(l:Nat):Qn
 |0=>0
 |n+1=>WF y b own l n+(if QX y (l+1+n)=some l then passes y b own (l+1+n) else 0)
theorem Pm (y:Yd)(ok:y.Ok)(b own:Qn)(l:Nat):∀i,i<=y.ls.length-1->y.ls.length-1-i<=l->∀d,i+d<=y.ls.length-1->ZG y b own (i+d) l=ZG y b own i l
 |i,hi,hl,0,_=>rfl
 |i,hi,hl,d+1,hd=>by
   have ih:=Pm y ok b own l i hi hl d (by omega);show Y5 y b (ZG y b own (i+d)) (y.ls.length-1-(i+d)) l=_;unfold Y5;rw[ih];by_cases h0:0<y.ls.length-1-(i+d)
   ·obtain⟨a,ea,la⟩:=ok.ups (y.ls.length-1-(i+d)) h0 (by omega)
    rw[ea];have:¬some a=some l:=by
     intro z;injection z with z;omega
    rw[Xb this];omega
   ·have:y.ls.length-1-(i+d)=0:=by omega
    omega
def Pw {y:Yd}(ok:y.Ok)(b own:Qn){j:Nat}(hj:j<y.ls.length):ZG y b own (y.ls.length-1-j) j=Vu y b own j:=by
 unfold Vu;have:=Pm y ok b own j (y.ls.length-1-j) (by omega) (by omega) j (by omega);rw[show y.ls.length-1-j+j=y.ls.length-1 by omega]at this;exact this.symm
theorem S9 {y:Yd}(ok:y.Ok)(b own:Qn)(l:Nat):∀i,i<=y.ls.length-1->ZG y b own i l+WF y b own l (y.ls.length-1-i-l)=own l+WF y b own l (y.ls.length-1-l)
 |0,_=>by simp[ZG]
 |i+1,hi=>by
   have ih:=S9 ok b own l i (by omega)
   have e:ZG y b own (i+1) l=ZG y b own i l+(if QX y (y.ls.length-1-i)=some l then passes y b own (y.ls.length-1-i) else 0):=by
    show Y5 y b (ZG y b own i) (y.ls.length-1-i) l=_;unfold Y5 passes;have hj:y.ls.length-1-i<y.ls.length:=by have:=ok.l1;omega
    have rf:=Pw ok b own hj;rw[show y.ls.length-1-(y.ls.length-1-i)=i by omega]at rf;rw[rf]
   rw[e];by_cases hl:l<y.ls.length-1-i
   ·obtain⟨d,ed⟩:∃d,y.ls.length-1-i-l=d+1:=⟨y.ls.length-1-i-l-1,by omega⟩
    rw[ed]at ih;have e2:y.ls.length-1-(i+1)-l=d:=by omega
    rw[e2];have e3:l+1+d=y.ls.length-1-i:=by omega
    simp only[WF,e3]at ih;omega
   ·have e1:y.ls.length-1-i-l=0:=by omega
    have e2:y.ls.length-1-(i+1)-l=0:=by omega
    rw[e1]at ih;rw[e2];have:¬QX y (y.ls.length-1-i)=some l:=by
     intro z;have h0:0<y.ls.length-1-i:=by omega
     obtain⟨a,ea,la⟩:=ok.ups (y.ls.length-1-i) h0 (by omega);rw[ea]at z;injection z with z;omega
    rw[Xb this];simp only[WF]at ih ⊢;omega
def Cz {y:Yd}(ok:y.Ok)(b own:Qn)(l:Nat):Vu y b own l=own l+WF y b own l (y.ls.length-1-l):=by
 have h:=S9 ok b own l (y.ls.length-1) (Xu _);rw[show y.ls.length-1-(y.ls.length-1)-l=0 by omega]at h;simp only[WF]at h;unfold Vu;omega
end Mir
namespace Mir
def Q3 (f:Qn):Qn
 |0=>0
 |n+1=>Q3 f n+f n
theorem Zj {f g:Qn}:∀{n:Nat},(∀k,k<n->f k=g k)->Q3 f n=Q3 g n
 |0,_=>rfl
 |n+1,h=>by
   simp only[Q3];rw[Zj (n:=n) fun k hk=>h k (by omega),h n (by omega)]
theorem YX {f g:Qn}:∀{n:Nat},(∀k,k<n->f k<=g k)->Q3 f n<=Q3 g n
 |0,_=>Jt _
 |n+1,h=>by
   simp only[Q3];have:=YX (n:=n) fun k hk=>h k (by omega)
   have:=h n (by omega)
   omega
theorem GG (f g:Qn):∀n,Q3 (fun k=>f k+g k) n=Q3 f n+Q3 g n
 |0=>rfl
 |n+1=>by simp only[Q3];rw[GG f g n];omega
theorem GL (c:Int)(f:Qn):∀n,Q3 (fun k=>c*f k) n=c*Q3 f n
 |0=>by simp[Q3]
 |n+1=>by simp only[Q3];rw[GL c f n,Int.mul_add]
theorem VL:∀n,Q3 (fun _=>0) n=0
 |0=>rfl
 |n+1=>by simp only[Q3];rw[VL n];rfl
theorem UD {a:Nat}{v:Int}:∀{n:Nat},Q3 (fun l=>if l=a then v else 0) n=if a<n then v else 0
 |0=>by simp[Q3]
 |n+1=>by
   simp only[Q3];rw[UD (n:=n)]
   by_cases h:n=a
   ·subst h;simp
   ·by_cases h2:a<n
    ·simp[h,h2];omega
    ·have:¬a<n+1:=by omega
     simp[h,h2,this]
def LY {f:Qn}{n:Nat}(h:∀k,k<n->0<=f k):0<=Q3 f n:=by
 have:=YX (f:=fun _=>0) (g:=f) (n:=n) h
 rw[VL]at this;exact this
def GU (f:Qn)(n:Nat):((List.range n).map f).sum=Q3 f n:=by
 induction n with
 |zero=>rfl
 |succ n ih=>rw[YH,Xr,Bd,ih];simp[Q3]
theorem HX {y:Yd}{b b' own own':Qn}(hb:∀l,b l<=b' l)(h:∀l,own l<=own' l):∀i l,ZG y b own i l<=ZG y b' own' i l
 |0,l=>h l
 |i+1,l=>by
   simp only[ZG,Y5];have h1:=HX (y:=y) hb h i l;have h2:=HX (y:=y) hb h i (y.ls.length-1-i);have h3:=hb (y.ls.length-1-i)
   split<;>omega
def Ix {y:Yd}{b b' own own':Qn}(hb:∀l,b l<=b' l)(h:∀l,own l<=own' l)(l:Nat):passes y b own l<=passes y b' own' l:=by
 have h1:=HX (y:=y) hb h (y.ls.length-1) l;have h2:=hb l;unfold passes Vu;omega
def wgt (gs:List Gs)(t:Int)(l k:Nat):Int:=match gs[k]? with|some g=>if g.line=l/\Yk g t=true then g.most else 0|none=>0
def Rb (gs:List Gs)(t:Int)(l k:Nat):Zq gs t l [k]=wgt gs t l k:=by
 simp only[Zq,wgt];cases gs[k]? with
 |none=>rfl
 |some g=>simp
def EG (gs:List Gs)(t:Int)(l:Nat)(p:Qm)(m:Nat):Zq gs t l ((List.range m).filter p)=Q3 (fun k=>if p k=true then wgt gs t l k else 0) m:=by
 induction m with
 |zero=>rfl
 |succ m ih =>
   rw[YH,Bh,Jk,ih];simp only[Q3];cases e:p m with
   |true=>simp only[Jo,e,if_true,List.filter_nil,Rb]
   |false=>simp only[Jo,e,List.filter_nil,Zq,XZ,if_false]
theorem Mc (f:Nat->Qn)(n:Nat):∀m,Q3 (fun l=>Q3 (fun k=>f l k) m) n=Q3 (fun k=>Q3 (fun l=>f l k) n) m
 |0=>by simp only[Q3];exact VL n
 |m+1=>by
   simp only[Q3];rw[GG,Mc f n m]
end Mir
namespace Mir
section
variable {y:Yd}{b b' own:Qn}{l0:Nat}
end
def Rt {k a b:Int}(h:0<=k):min (a*k) (b*k)=min a b*k:=by
 rcases Int.le_total a b with h1|h1
 ·rw[Int.min_eq_left h1,Int.min_eq_left (Ky h1 h)]
 ·rw[Int.min_eq_right h1,Int.min_eq_right (Ky h1 h)]
theorem Ke {y y':Yd}{k:Int}(h:0<=k)(hu:∀j,QX y' j=QX y j)(hn:y'.ls.length=y.ls.length)(b own:Qn):∀i l,ZG y' (fun l=>b l*k) (fun l=>own l*k) i l=ZG y b own i l*k
 |0,l=>rfl
 |i+1,l=>by
   simp only[ZG,Y5,hu,hn];rw[Ke h hu hn b own i l,Ke h hu hn b own i (y.ls.length-1-i)];by_cases e:QX y (y.ls.length-1-i)=some l
   ·rw[Xd e,Xd e,Rt h,Int.add_mul]
   ·rw[Xb e,Xb e,UT,UT]
def EB {y y':Yd}{k:Int}(h:0<=k)(hu:∀j,QX y' j=QX y j)(hn:y'.ls.length=y.ls.length)(b own:Qn)(l:Nat):passes y' (fun l=>b l*k) (fun l=>own l*k) l=passes y b own l*k:=by
 unfold passes Vu;rw[Ke h hu hn,hn,Rt h]
end Mir
section
namespace L2
open PySem PySem.Spec PyProof.Rows
structure Q0 (F H F' H':Hp):Prop where
 hh:Q4 H H'
 ff:Q4 F F'
 fh:Q4 F' H'
 fr:∀a,F' a≠none->F a≠none\/H a=none
def Q0.refl {F H:Hp}(s:Q4 F H):Q0 F H F H:=⟨Q4.refl _,Q4.refl _,s,fun _ h=>.inl h⟩
def Q0.trans {F H F1 H1 F2 H2:Hp}(a:Q0 F H F1 H1)(b:Q0 F1 H1 F2 H2):Q0 F H F2 H2 :=
 ⟨a.hh.trans b.hh,a.ff.trans b.ff,b.fh,fun p h=>by
  rcases b.fr p h with z|z
  ·exact a.fr p z
  ·exact .inr (a.hh.free z)⟩
def Zy {H:Hp}{a:Addr}{o:HO}(h:H a=some o):H a≠none:=by rw[h];exact fun z=>nomatch z
def D7 {H:Hp}{a:Addr}(h:H a≠none):∃o,H a=some o:=by
 cases e:H a with
 |none=>exact Xl e h
 |some o=>exact⟨o,rfl⟩
def CV {F H:Hp}{p:Addr}{o:HO}(s:Q4 F H):Q4 (upd F p o) (upd H p o):=fun b u e=>by
 by_cases h:b=p
 ·subst h;rw[QD]at e ⊢;exact e
 ·rw[Qu h]at e ⊢;exact s b u e
def Q0.new {F H:Hp}{p:Addr}{o:HO}(s:Q4 F H)(hp:H p=none):Q0 F H (upd F p o) (upd H p o) :=
 ⟨Q4.new hp,Q4.new (s.free hp),CV s,fun a h=>by
  by_cases e:a=p
  ·subst e;exact .inr hp
  ·rw[Qu e]at h;exact .inl h⟩
def Q0.own {F H:Hp}{p:Addr}{o:HO}(s:Q4 F H)(hp:H p=none):Q0 F H F (upd H p o) :=
 ⟨Q4.new hp,Q4.refl _,s.upd (s.free hp),fun _ h=>.inl h⟩
def Q0.freeze {F0 H0 F H:Hp}{a:Addr}{o:HO}(x:Q0 F0 H0 F H)(hf:F a=none)(ho:H a=some o)(h0:H0 a=none):Q0 F0 H0 (upd F a o) H :=
 ⟨x.hh,x.ff.trans (Q4.new hf),fun b u e=>by
  by_cases h:b=a
  ·subst h;rw[QD]at e;rw[ho];exact e
  ·rw[Qu h]at e;exact x.fh b u e,fun b h=>by
  by_cases e:b=a
  ·subst e;exact .inr h0
  ·rw[Qu e]at h;exact x.fr b h⟩
def Q0.free {F H F' H':Hp}{a:Addr}(x:Q0 F H F' H')(hf:F a=none)(hh:H a≠none):F' a=none:=by
 cases e:F' a with
 |none=>rfl
 |some o =>
   rcases x.fr a (Zy e) with z|z
   ·exact Xl hf z
   ·exact Xl z hh
structure OwnP where
 ok:W.Frag->Hp->Hp->V->Qg->Prop
 there:∀{K:W.Frag} {F H:Hp} {v:V} {p:Qg},ok K F H v p->∀a∈p,F a=none/\H a≠none
 mono:∀{K:W.Frag} {F F' H H':Hp} {v:V} {p:Qg},Q4 F F'->(∀a∈p,F' a=none)->(∀a∈p,H' a=H a)->ok K F H v p->ok K F' H' v p
 uniq:∀{K:W.Frag} {F H:Hp} {v:V} {p q:Qg},ok K F H v p->ok K F H v q->∀a∈q,a∈p
structure ZP where
 ok:W.Frag->Hp->V->Prop
 mono:∀{K:W.Frag} {F F':Hp} {v:V},Q4 F F'->ok K F v->ok K F' v
inductive OT where
 |zow (Ψ:ZP)
 |fz (d:PyData)
 |ol (ds:Qd)
 |oll (dss:List (Qd))
 |scr (ns:Ql)
 |own (v:V) (Φ:OwnP)
abbrev Q1:=List (Option OT)
def Vt (F H:Hp)(a:Addr)(ds:Qd):Prop:=F a=none/\∃xs,H a=some (.lst xs)/\Qv F xs ds
def ZD (F H:Hp):Qg->List (Qd)->Prop
 |[],[]=>True
 |a::as,ds::dss=>Vt F H a ds/\ZD F H as dss
 |_,_=>False
def Zk (K:W.Frag)(F H:Hp)(v:V):OT->Qg->Prop
 |.fz d,p=>p=[]/\Rep F v d
 |.ol ds,p=>∃a,v=.ref a/\p=[a]/\Vt F H a ds
 |.oll dss,p=>∃a as,v=.ref a/\p=a::as/\(a::as).Nodup/\F a=none/\H a=some (.lst (as.map V.ref))/\ZD F H as dss
 |.scr ns,p=>p=[]/\∃a,v=.ref a/\Scr K F a ns
 |.own v0 Φ,p=>v=v0/\Φ.ok K F H v p
 |.zow Ψ,p=>p=[]/\Ψ.ok K F v
def Q4.at_eq {H H':Hp}(s:Q4 H H'){a:Addr}(h:H a≠none):H' a=H a:=by
 cases e:H a with
 |none=>exact Xl e h
 |some o=>exact s _ _ e
def Vt.ext {F H F' H':Hp}{a:Addr}{ds:Qd}(h:Vt F H a ds)(x:Q0 F H F' H'):Vt F' H' a ds:=by
 obtain⟨h1,xs,h2,h3⟩:=h
 exact⟨x.free h1 (Zy h2),xs,x.hh _ _ h2,h3.mono x.ff⟩
theorem ZD.ext {F H F' H':Hp}(x:Q0 F H F' H'):∀{as:Qg} {dss:List (Qd)},ZD F H as dss->ZD F' H' as dss
 |[],[],_=>trivial
 |_::_,_::_,h=>⟨h.1.ext x,ZD.ext x h.2⟩
 |[],_::_,h=>False.elim h
 |_::_,[],h=>False.elim h
theorem ZD.mem {F H:Hp}:∀{as:Qg} {dss:List (Qd)},ZD F H as dss->∀a∈as,F a=none/\H a≠none
 |[],[],_,a,ha=>by cases ha
 |b::as,_::_,h,a,ha=>by
   rcases Xg.mp ha with rfl|ha
   ·obtain⟨h1,xs,h2,_⟩:=h.1
    exact⟨h1,Zy h2⟩
   ·exact ZD.mem h.2 a ha
 |[],_::_,h,_,_=>False.elim h
 |_::_,[],h,_,_=>False.elim h
def Zk.ext {K:W.Frag}{F H F' H':Hp}{v:V}{t:OT}{p:Qg}(h:Zk K F H v t p)(x:Q0 F H F' H'):Zk K F' H' v t p:=by
 cases t with
 |fz d=>exact⟨h.1,h.2.mono x.ff⟩
 |zow Ψ=>exact⟨h.1,Ψ.mono x.ff h.2⟩
 |ol ds=>obtain⟨a,h1,h2,h3⟩:=h;exact⟨a,h1,h2,h3.ext x⟩
 |oll dss=>obtain⟨a,as,h1,h2,h3,h4,h5,h6⟩:=h;exact⟨a,as,h1,h2,h3,x.free h4 (Zy h5),x.hh _ _ h5,h6.ext x⟩
 |scr ns=>obtain⟨h1,a,h2,h3⟩:=h;exact⟨h1,a,h2,h3.mono x.ff⟩
 |own v0 Φ=>exact⟨h.1,Φ.mono x.ff (fun a ha=>x.free (Φ.there h.2 a ha).1 (Φ.there h.2 a ha).2) (fun a ha=>x.hh.at_eq (Φ.there h.2 a ha).2) h.2⟩
def Zk.there {K:W.Frag}{F H:Hp}{v:V}{t:OT}{p:Qg}(h:Zk K F H v t p):∀a∈p,F a=none/\H a≠none:=by
 cases t with
 |fz d=>obtain⟨rfl,_⟩:=h;intro a ha;cases ha
 |zow Ψ=>obtain⟨rfl,_⟩:=h;intro a ha;cases ha
 |ol ds =>
   obtain⟨a,h1,rfl,h3,xs,h4,_⟩:=h;intro b hb;have e:b=a:=by simpa using hb
   subst e;exact⟨h3,Zy h4⟩
 |oll dss =>
   obtain⟨a,as,h1,rfl,h3,h4,h5,h6⟩:=h;intro b hb;rcases Xg.mp hb with rfl|hb
   ·exact⟨h4,Zy h5⟩
   ·exact h6.mem b hb
 |scr ns=>obtain⟨rfl,_⟩:=h;intro a ha;cases ha
 |own v0 Φ=>exact Φ.there h.2
def Vt.other {F H:Hp}{a b:Addr}{o:HO}{ds:Qd}(h:Vt F H a ds)(n:a≠b):Vt F (upd H b o) a ds:=by
 obtain⟨h1,xs,h2,h3⟩:=h
 exact⟨h1,xs,by rw[Qu n];exact h2,h3⟩
theorem ZD.other {F H:Hp}{b:Addr}{o:HO}:∀{as:Qg} {dss:List (Qd)},ZD F H as dss->b∉as->ZD F (upd H b o) as dss
 |[],[],_,_=>trivial
 |a::as,_::_,h,n=>⟨h.1.other (fun z=>n (by rw[z];exact Xc)),ZD.other h.2 fun z=>n (Xe _ z)⟩
 |[],_::_,h,_=>False.elim h
 |_::_,[],h,_=>False.elim h
def Zk.other {K:W.Frag}{F H:Hp}{v:V}{t:OT}{p:Qg}{b:Addr}{o:HO}(h:Zk K F H v t p)(n:b∉p):Zk K F (upd H b o) v t p:=by
 cases t with
 |fz d=>exact h
 |zow Ψ=>exact h
 |ol ds=>obtain⟨a,h1,rfl,h3⟩:=h;exact⟨a,h1,rfl,h3.other (fun z=>n (by simp[z]))⟩
 |oll dss =>
   obtain⟨a,as,h1,rfl,h3,h4,h5,h6⟩:=h
   exact⟨a,as,h1,rfl,h3,h4,by rw[Qu (fun z=>n (by simp[z]))];exact h5,h6.other fun z=>n (Xe _ z)⟩
 |scr ns=>exact h
 |own v0 Φ=>exact⟨h.1,Φ.mono (Q4.refl _) (fun a ha=>(Φ.there h.2 a ha).1) (fun a ha=>Qu fun z=>n (by rw[<- z];exact ha)) h.2⟩
def KTs (K:W.Frag) (F:Hp):Prop := ∃gS gE,W.nsIn K mainGlobals "START"=some (some (.ref gS))/\W.nsIn K mainGlobals "END"=some (some (.ref gE))/\F gS=some (.tup [.str "start"])/\F gE=some (.tup [.str "end"])
def KTs.mono {K:W.Frag}{F F':Hp}(h:KTs K F)(s:Q4 F F'):KTs K F':=by
 obtain⟨gS,gE,h1,h2,h3,h4⟩:=h
 exact⟨gS,gE,h1,h2,s _ _ h3,s _ _ h4⟩
structure QB (K:W.Frag)(H0 F:Hp)(ρ:Q1)(σ:St)(H:Hp):Prop where
 kt:KTs K F
 sub:Q4 F H
 len:σ.length=ρ.length
 fp:∃fp:Nat->Qg,(∀(i:Nat) (t:OT),ρ[i]?=some (some t)->∃v,σ[i]?=some (some v)/\Zk K F H v t (fp i)) /\
  (∀(i j:Nat) (a:Addr),a∈fp i->a∈fp j->i=j)/\∀(i:Nat) (a:Addr),a∈fp i->H0 a=none/\H a≠none
def QB.ext {K:W.Frag}{H0 F F' H H':Hp}{ρ:Q1}{σ:St}(s:QB K H0 F ρ σ H)(x:Q0 F H F' H'):QB K H0 F' ρ σ H':=by
 obtain⟨kt,h1,h2,fp,h3,h4,h5⟩:=s;refine⟨kt.mono x.ff,x.fh,h2,fp,fun i t e=>?_,h4,fun i a ha=>?_⟩
 ·obtain⟨v,e1,e2⟩:=h3 i t e
  exact⟨v,e1,e2.ext x⟩
 ·obtain⟨e1,e2⟩:=h5 i a ha
  obtain⟨o,e3⟩:=D7 e2
  exact⟨e1,Zy (x.hh _ _ e3)⟩
def Fgt:Q1->Q1->Prop
 |[],[]=>True
 |_::r,none::r'=>Fgt r r'
 |s::r,some x::r'=>s=some x/\Fgt r r'
 |_,_=>False
theorem Fgt.len:∀{ρ ρ':Q1},Fgt ρ ρ'->ρ.length=ρ'.length
 |[],[],_=>rfl
 |_::r,none::r',h=>by
   have h':Fgt r r':=h
   simp[Fgt.len h']
 |s::r,some x::r',h=>by
   have h':s=some x/\Fgt r r':=h
   simp[Fgt.len h'.2]
 |[],none::_,h=>False.elim h
 |[],some _::_,h=>False.elim h
 |_::_,[],h=>False.elim h
theorem Fgt.get:∀{ρ ρ':Q1},Fgt ρ ρ'->∀(i:Nat) (t:OT),ρ'[i]?=some (some t)->ρ[i]?=some (some t)
 |[],[],_,i,t,e=>by simp at e
 |_::r,none::r',h,0,t,e=>by simp at e
 |_::r,none::r',h,i+1,t,e=>by
   have h':Fgt r r':=h
   have:=Fgt.get h' i t (by simpa using e)
   simpa using this
 |s::r,some x::r',h,0,t,e=>by
   have h':s=some x/\Fgt r r':=h
   simp at e;subst e;simp[h'.1]
 |s::r,some x::r',h,i+1,t,e=>by
   have h':s=some x/\Fgt r r':=h
   have:=Fgt.get h'.2 i t (by simpa using e)
   simpa using this
 |[],none::_,h,_,_,_=>False.elim h
 |[],some _::_,h,_,_,_=>False.elim h
 |_::_,[],h,_,_,_=>False.elim h
def QB.fgt {K:W.Frag}{H0 F H:Hp}{ρ ρ':Q1}{σ:St}(s:QB K H0 F ρ σ H)(f:Fgt ρ ρ'):QB K H0 F ρ' σ H:=by
 obtain⟨kt,h1,h2,fp,h3,h4,h5⟩:=s
 exact⟨kt,h1,h2.trans f.len,fp,fun i t e=>h3 i t (f.get i t e),h4,h5⟩
def QB.set {K:W.Frag}{H0 F H:Hp}{ρ:Q1}{σ:St}{i:Nat}{v:V}{t:OT}{p:Qg}(s:QB K H0 F ρ σ H)(ok:Zk K F H v t p)
 (hp:∀(a:Addr),a∈p->H0 a=none)
 (hn:∀(a:Addr),a∈p->∀(j:Nat) (u:V) (t':OT) (q:Qg),ρ[j]?=some (some t')->σ[j]?=some (some u)->Zk K F H u t' q->a∉q) :
 QB K H0 F (ρ.set i (some t)) (σ.set i (some v)) H:=by
 obtain⟨kt,h1,h2,fp,h3,h4,h5⟩:=s;refine⟨kt,h1,by simp[h2],fun j=>if j=i then p else if (ρ[j]?).join.isSome then fp j else [],fun j t' e=>?_,fun j k a ha hb=>?_,fun j a ha=>?_⟩
 ·by_cases hj:j=i
  ·subst hj
   have hlt:j<ρ.length:=by
    have:=(Xh.mp e).1
    simpa using this
   rw[Xo hlt]at e;cases e;refine⟨v,Xo (by omega),?_⟩;dsimp only;rw[Xd rfl];exact ok
  ·rw[Xx (Ne.symm hj)]at e
   obtain⟨u,e1,e2⟩:=h3 j t' e;refine⟨u,by rw[Xx (Ne.symm hj)];exact e1,?_⟩;dsimp only;rw[Xb hj,e,Xd (by rfl)];exact e2
 ·have key:∀(j:Nat),j≠i->a∈(if j=i then p else if (ρ[j]?).join.isSome then fp j else [])->∃t' u,ρ[j]?=some (some t')/\σ[j]?=some (some u)/\Zk K F H u t' (fp j)/\a∈fp j:=fun j hj hm=>by
   rw[Xb hj]at hm;cases e:(ρ[j]?).join with
   |none=>rw[e]at hm;simp at hm
   |some t' =>
     rw[e]at hm;have e':ρ[j]?=some (some t'):=by
      cases z:ρ[j]? with
      |none=>rw[z]at e;simp at e
      |some w=>rw[z]at e;simp at e;rw[e]
     obtain⟨u,e1,e2⟩:=h3 j t' e'
     exact⟨t',u,e',e1,e2,by simpa using hm⟩
  by_cases hj:j=i
  ·by_cases hk:k=i
   ·omega
   ·obtain⟨t',u,e1,e2,e3,e4⟩:=key k hk hb
    have ha':a∈p:=by simpa [hj] using ha
    exact Xl e4 (hn a ha' k u t' _ e1 e2 e3)
  ·obtain⟨t',u,e1,e2,e3,e4⟩:=key j hj ha
   by_cases hk:k=i
   ·have hb':a∈p:=by simpa [hk] using hb
    exact Xl e4 (hn a hb' j u t' _ e1 e2 e3)
   ·obtain⟨t2,u2,f1,f2,f3,f4⟩:=key k hk hb
    exact h4 j k a e4 f4
 ·by_cases hj:j=i
  ·have ha':a∈p:=by simpa [hj] using ha
   exact⟨hp a ha',(ok.there a ha').2⟩
  ·simp only[Xb hj]at ha
   split at ha
   ·exact h5 j a ha
   ·cases ha
def QB.setF {K:W.Frag}{H0 F H:Hp}{ρ:Q1}{σ:St}{i:Nat}{v:V}{d:PyData}(s:QB K H0 F ρ σ H)(r:Rep F v d):QB K H0 F (ρ.set i (some (.fz d))) (σ.set i (some v)) H :=
 s.set (p:=[]) ⟨rfl,r⟩ (fun a ha=>nomatch ha) (hn:=fun a ha=>nomatch ha)
def QB.write {K:W.Frag}{H0 F H:Hp}{ρ:Q1}{σ:St}{i:Nat}{ds:Qd}(s:QB K H0 F ρ σ H)(e:ρ[i]?=some (some (.ol ds))) :
 ∃a xs,σ[i]?=some (some (.ref a))/\H a=some (.lst xs)/\Qv F xs ds/\H0 a=none/\F a=none/\∀xs' ds',Qv F xs' ds'->QB K H0 F (ρ.set i (some (.ol ds'))) σ (upd H a (.lst xs')):=by
 obtain⟨kt,h1,h2,fp,h3,h4,h5⟩:=s;obtain⟨v,e1,a,rfl,e2,e3,xs,e4,e5⟩:=h3 i _ e;have ha:a∈fp i:=by rw[e2];exact Xc
 refine⟨a,xs,e1,e4,e5,(h5 i a ha).1,e3,fun xs' ds' r=>?_⟩;have hlt:=(Xh.mp e).1;refine⟨kt,h1.upd e3,by simp[h2],fp,fun j t' e'=>?_,h4,fun j b hb=>?_⟩
 ·by_cases hj:j=i
  ·subst hj
   rw[Xo hlt]at e';cases e'
   exact⟨_,e1,a,rfl,e2,e3,xs',QD,r⟩
  ·rw[Xx (Ne.symm hj)]at e'
   obtain⟨u,f1,f2⟩:=h3 j t' e'
   exact⟨u,f1,f2.other fun z=>hj (h4 j i a z ha)⟩
 ·obtain⟨f1,f2⟩:=h5 j b hb
  refine⟨f1,?_⟩
  by_cases z:b=a
  ·subst z;rw[QD];exact fun q=>nomatch q
  ·rw[Qu z];exact f2
def QB.freeze {K:W.Frag}{H0 F H:Hp}{ρ:Q1}{σ:St}{i:Nat}{ds:Qd}(s:QB K H0 F ρ σ H)(e:ρ[i]?=some (some (.ol ds))) :
 ∃a xs,F a=none/\H a=some (.lst xs)/\H0 a=none/\σ[i]?=some (some (.ref a))/\Qv F xs ds/\QB K H0 (upd F a (.lst xs)) (ρ.set i (some (.fz (.list ds)))) σ H:=by
 obtain⟨kt,h1,h2,fp,h3,h4,h5⟩:=s;obtain⟨v,e1,a,rfl,e2,e3,xs,e4,e5⟩:=h3 i _ e;have ha:a∈fp i:=by rw[e2];exact Xc
 have hlt:=(Xh.mp e).1;have sm:Q4 F (upd F a (.lst xs)):=Q4.new e3;refine⟨a,xs,e3,e4,(h5 i a ha).1,e1,e5,kt.mono sm,?_,by simp[h2],fun j=>if j=i then [] else fp j,fun j t' e'=>?_,fun j k b hb hc=>?_,fun j b hb=>?_⟩
 ·intro b u hb
  by_cases z:b=a
  ·subst z;rw[QD]at hb;rw[e4];exact hb
  ·rw[Qu z]at hb;exact h1 b u hb
 ·by_cases hj:j=i
  ·subst hj
   rw[Xo hlt]at e';cases e';refine⟨_,e1,?_,.lst QD (e5.mono sm)⟩;dsimp only;rw[Xd rfl]
  ·rw[Xx (Ne.symm hj)]at e'
   obtain⟨u,f1,f2⟩:=h3 j t' e';refine⟨u,f1,?_⟩;dsimp only;rw[Xb hj];have na:a∉fp j:=fun z=>hj (h4 j i a z ha);have nb:∀b,F b=none->b≠a->upd F a (.lst xs) b=none:=fun b hb hn=>by rw[Qu hn];exact hb
   have go:∀{b:Addr} {es:Qd},b≠a->Vt F H b es->Vt (upd F a (.lst xs)) H b es:=fun{b es} hn ⟨z1,zs,z2,z3⟩=>⟨nb _ z1 hn,zs,z2,z3.mono sm⟩
   cases t' with
   |fz d=>exact⟨f2.1,f2.2.mono sm⟩
   |zow Ψ=>exact⟨f2.1,Ψ.mono sm f2.2⟩
   |ol es =>
     obtain⟨b,g1,g2,g3⟩:=f2
     exact⟨b,g1,g2,go (fun z=>na (by rw[g2,z];exact Xc)) g3⟩
   |oll dss =>
     obtain⟨b,bs,g1,g2,g3,g4,g5,g6⟩:=f2;refine⟨b,bs,g1,g2,g3,nb _ g4 (fun z=>na (by rw[g2,z];exact Xc)),g5,?_⟩;have nbs:a∉bs:=fun z=>na (by rw[g2];exact Xe _ z)
     clear g1 g2 g3 g5;have all:∀(bs:Qg) (dss:List (Qd)),a∉bs->ZD F H bs dss->ZD (upd F a (.lst xs)) H bs dss:=by
      intro bs;induction bs with
      |nil =>
        intro dss _ h;cases dss with
        |nil=>exact trivial
        |cons _ _=>exact False.elim h
      |cons c cs ih =>
        intro dss hn h;cases dss with
        |nil=>exact False.elim h
        |cons es ess=>exact⟨go (fun z=>hn (by rw[z];exact Xc)) h.1,ih ess (fun z=>hn (Xe _ z)) h.2⟩
     exact all bs dss nbs g6
   |scr ns =>
     obtain⟨g1,b,g2,g3⟩:=f2
     exact⟨g1,b,g2,g3.mono sm⟩
   |own v0 Φ=>exact⟨f2.1,Φ.mono sm (fun b hb=>nb b (Φ.there f2.2 b hb).1 fun z=>na (by rw[<- z];exact hb)) (fun _ _=>rfl) f2.2⟩
 ·by_cases hj:j=i
  ·simp[hj]at hb
  ·by_cases hk:k=i
   ·simp[hk]at hc
   ·simp only[Xb hj]at hb
    simp only[Xb hk]at hc;exact h4 j k b hb hc
 ·by_cases hj:j=i
  ·simp[hj]at hb
  ·simp only[Xb hj]at hb
   exact h5 j b hb
inductive Args (K:W.Frag)(F:Hp):List V->List OT->Prop
 |nil:Args K F [] []
 |fz {v:V} {d:PyData} {vs:List V} {ts:List OT}:Rep F v d->Args K F vs ts->Args K F (v::vs) (.fz d::ts)
 |zow {v:V} {Ψ:ZP} {vs:List V} {ts:List OT}:Ψ.ok K F v->Args K F vs ts->Args K F (v::vs) (.zow Ψ::ts)
 |scr {a:Addr} {ns:Ql} {vs:List V} {ts:List OT}:Scr K F a ns->Args K F vs ts->Args K F (.ref a::vs) (.scr ns::ts)
theorem Args.mono {K:W.Frag}{F F':Hp}(s:Q4 F F'):∀{vs:List V} {ts:List OT},Args K F vs ts->Args K F' vs ts
 |_,_,.nil=>.nil
 |_,_,.fz r t=>.fz (r.mono s) (Args.mono s t)
 |_,_,.scr r t=>.scr (r.mono s) (Args.mono s t)
 |_,_,.zow (Ψ:=Ψ) r t=>.zow (Ψ.mono s r) (Args.mono s t)
theorem Args.length {K:W.Frag}{F:Hp}:∀{vs:List V} {ts:List OT},Args K F vs ts->vs.length=ts.length
 |_,_,.nil=>rfl
 |_,_,.fz _ t=>by simp[Args.length t]
 |_,_,.scr _ t=>by simp[Args.length t]
 |_,_,.zow _ t=>by simp[Args.length t]
theorem Args.get {K:W.Frag}{F H:Hp}:∀{vs:List V} {ts:List OT},Args K F vs ts->∀(i:Nat) (t:OT),ts[i]?=some t->∃v,vs[i]?=some v/\Zk K F H v t []
 |_,_,.nil,i,t,e=>by simp at e
 |_,_,.fz r _,0,t,e=>by simp at e;subst e;exact⟨_,rfl,rfl,r⟩
 |_,_,.scr r _,0,t,e=>by simp at e;subst e;exact⟨_,rfl,rfl,_,rfl,r⟩
 |_,_,.zow r _,0,t,e=>by simp at e;subst e;exact⟨_,rfl,rfl,r⟩
 |_,_,.zow _ q,i+1,t,e=>by
   obtain⟨v,h1,h2⟩:=Args.get (H:=H) q i t (by simpa using e)
   exact⟨v,by simpa using h1,h2⟩
 |_,_,.fz _ q,i+1,t,e=>by
   obtain⟨v,h1,h2⟩:=Args.get (H:=H) q i t (by simpa using e)
   exact⟨v,by simpa using h1,h2⟩
 |_,_,.scr _ q,i+1,t,e=>by
   obtain⟨v,h1,h2⟩:=Args.get (H:=H) q i t (by simpa using e)
   exact⟨v,by simpa using h1,h2⟩
section
variable (K:W.Frag)
def Qt (t:TE)(ρ:Q1)(d:PyData):Prop := ∀(H0 F:Hp) (σ:St) (H:Hp) (Q:VK),QB K H0 F ρ σ H->(∀F' H' v,Q0 F H F' H'->Rep F' v d->Q v H')->t σ H Q
def EvO (t:TE)(ρ:Q1)(r:OT):Prop := ∀(H0 F:Hp) (σ:St) (H:Hp) (Q:VK),QB K H0 F ρ σ H->(∀F' H' v p,Q0 F H F' H'->(∀a∈p,H a=none)->Zk K F' H' v r p->Q v H')->t σ H Q
def Zg (t:TT)(ρ:Q1)(b:Bool):Prop := ∀(H0 F:Hp) (σ:St) (H:Hp) (Q:Bool->Hp->Prop),QB K H0 F ρ σ H->(∀F' H',Q0 F H F' H'->Q b H')->t σ H Q
def Zw (t:TA)(ρ:Q1)(ts:List OT):Prop := ∀(H0 F:Hp) (σ:St) (H:Hp) (Q:List V->Hp->Prop),QB K H0 F ρ σ H->(∀F' H' vs,Q0 F H F' H'->Args K F' vs ts->Q vs H')->t σ H Q
def NC (F':Hp)(J:It)(ds:Qd):Prop := ∀(F'' H'':Hp),Q4 F' F''->Q4 F'' H''->J.stop ds.length H'' /\
 ∀(i:Nat) (d:PyData),ds[i]?=some d->J.go i H''/\∀x H3,J.yld i H'' x H3->∃F3,Q0 F'' H'' F3 H3/\Rep F3 x d
def EvI (wi:TI)(ρ:Q1)(ds:Qd):Prop := ∀(H0 F:Hp) (σ:St) (H:Hp) (R:It->Hp->Prop),QB K H0 F ρ σ H->(∀F' H' J,Q0 F H F' H'->NC F' J ds->R J H')->wi σ H R
def GTo (g:TG)(d:PyData)(ρ ρ':Q1):Prop := ∀(H0 F:Hp) (σ:St) (H:Hp) (x:V) (Q:St->Hp->Prop),QB K H0 F ρ σ H->Rep F x d->(∀σ',QB K H0 F ρ' σ' H->Q σ' H)->g x σ H Q
def Gg (g:TGs)(ds:Qd)(ρ ρ':Q1):Prop := ∀(H0 F:Hp) (σ:St) (H:Hp) (xs:List V) (Q:St->Hp->Prop),QB K H0 F ρ σ H->Qv F xs ds->(∀σ',QB K H0 F ρ' σ' H->Q σ' H)->g xs σ H Q
structure PEnds where
 nx:Q1->Prop
 rt:OT->Prop
 bk:Q1->Prop:=fun _=>False
 ct:Q1->Prop:=fun _=>False
structure Cnv (F0 H0:Hp)(D:PEnds)(E:Ends):Prop where
 nx:∀F σ H ρ,Q0 F0 H0 F H->QB K H0 F ρ σ H->D.nx ρ->E.nx σ H
 rt:∀F H v r p,Q0 F0 H0 F H->(∀a∈p,H0 a=none)->Zk K F H v r p->D.rt r->E.rt v H
 bk:∀F σ H ρ,Q0 F0 H0 F H->QB K H0 F ρ σ H->D.bk ρ->E.bk σ H
 ct:∀F σ H ρ,Q0 F0 H0 F H->QB K H0 F ρ σ H->D.ct ρ->E.ct σ H
def Q2 (t:TS)(ρ:Q1)(D:PEnds):Prop := ∀(F0 H0 F:Hp) (σ:St) (H:Hp) (E:Ends),Q0 F0 H0 F H->QB K H0 F ρ σ H->Cnv K F0 H0 D E->t E σ H
end
section
variable {K:W.Frag}{ρ:Q1}{ta tb tc:TE}{tA tB':TT}
def Qt.o {t:TE}{d:PyData}(h:Qt K t ρ d):EvO K t ρ (.fz d):=fun H0 F σ H Q S q=>h H0 F σ H Q S fun F' H' v x r=>q F' H' v [] x (fun _ z=>nomatch z) ⟨rfl,r⟩
def EvO.e {t:TE}{d:PyData}(h:EvO K t ρ (.fz d)):Qt K t ρ d:=fun H0 F σ H Q S q=>h H0 F σ H Q S fun F' H' v p x _ r=>q F' H' v x r.2
def EvO.fz {t:TE}{ds:Qd}(h:EvO K t ρ (.ol ds)):Qt K t ρ (.list ds):=fun H0 F σ H Q S q=>h H0 F σ H Q S fun F' H' v p x hp r=>by
 obtain⟨a,rfl,rfl,r1,xs,r2,r3⟩:=r;refine q (upd F' a (.lst xs)) H' _ (x.freeze r1 r2 (hp a Xc)) (.lst QD (r3.mono (Q4.new r1)))
def Qq {i:Nat}{d:PyData}(e:ρ[i]?=some (some (.fz d))):Qt K (Q8 i) ρ d:=fun H0 F σ H Q S q=>by
 obtain⟨fp,h,_⟩:=S.fp;obtain⟨v,e1,e2⟩:=h i _ e
 exact⟨v,e1,q F H v (Q0.refl S.sub) e2.2⟩
def Q7 {i:Int}:Qt K (tC (.int i)) ρ (.int i):=fun H0 F σ H Q S q=>q F H _ (Q0.refl S.sub) (.int i)
def Gj {b:Bool}:Qt K (tC (.bl b)) ρ (.bool b):=fun H0 F σ H Q S q=>q F H _ (Q0.refl S.sub) (.bl b)
def Gw:Qt K (tC .non) ρ .none:=fun H0 F σ H Q S q=>q F H _ (Q0.refl S.sub) .non
def Yv {x:Str}:Qt K (tC (.str x)) ρ (.str x):=fun H0 F σ H Q S q=>q F H _ (Q0.refl S.sub) (.str x)
def YT {a b:PyData}{Q:VK}{r:R2}{H0 F H:Hp}{σ:St}(ha:Qt K ta ρ a)(hb:Qt K tb ρ b)(S:QB K H0 F ρ σ H)
 (h:∀F' H' x y,Q0 F H F' H'->Rep F' x a->Rep F' y b->r x y H' Q):tOp r ta tb σ H Q :=
 ha H0 F σ H _ S fun F1 H1 x x1 r1=>hb H0 F1 σ H1 _ (S.ext x1) fun F2 H2 y x2 r2=>h F2 H2 x y (x1.trans x2) (r1.mono x2.ff) r2
def Z5 {g:Int->Int->Int}{x y:Int}(ha:Qt K ta ρ (.int x))(hb:Qt K tb ρ (.int y)):Qt K (tOp (rI0 fun i j=>.int (g i j)) ta tb) ρ (.int (g x y)):=fun H0 F σ H Q S q =>
 YT ha hb S fun F' H' u v e r1 r2=>by cases r1;cases r2;exact⟨x,y,rfl,rfl,q F' H' _ e (.int _)⟩
def Yu {g:Int->Int->Bool}{x y:Int}(ha:Qt K ta ρ (.int x))(hb:Qt K tb ρ (.int y)):Qt K (tOp (rI0 fun i j=>.bl (g i j)) ta tb) ρ (.bool (g x y)):=fun H0 F σ H Q S q =>
 YT ha hb S fun F' H' u v e r1 r2=>by cases r1;cases r2;exact⟨x,y,rfl,rfl,q F' H' _ e (.bl _)⟩
def Z4 {C:Int->Int->Prop}{g:Int->Int->Int}{x y:Int}(ha:Qt K ta ρ (.int x))(hb:Qt K tb ρ (.int y))(hc:C x y):Qt K (tOp (rI C fun i j=>.int (g i j)) ta tb) ρ (.int (g x y)):=fun H0 F σ H Q S q =>
 YT ha hb S fun F' H' u v e r1 r2=>by cases r1;cases r2;exact⟨x,y,rfl,rfl,hc,q F' H' _ e (.int _)⟩
def KY {g:Int->Int}{x:Int}(ha:Qt K ta ρ (.int x)):Qt K (tUn (rU fun i=>.int (g i)) ta) ρ (.int (g x)):=fun H0 F σ H Q S q =>
 ha H0 F σ H _ S fun F1 H1 v x1 r1=>by cases r1;exact⟨x,rfl,q F1 H1 _ x1 (.int _)⟩
def Zx:PyData->Option V
 |.none=>some .non
 |.bool b=>some (.bl b)
 |.int i=>some (.int i)
 |.str x=>some (.str x)
 |_=>Option.none
def Rep.flat {H:Hp}{x v:V}{d:PyData}(r:Rep H x d)(e:Zx d=some v):x=v:=by
 cases r<;>simp[Zx]at e<;>exact e
def Lr {a b:PyData}{v w:V}(ha:Qt K ta ρ a)(hb:Qt K tb ρ b)(e1:Zx a=some v)(e2:Zx b=some w)(hs:∀(H:Hp) (Q:VK),Q (.bl (decide (v=w))) H->rEq v w H Q) :
 Qt K (tOp rEq ta tb) ρ (.bool (decide (v=w))):=fun H0 F σ H Q S q =>
 YT ha hb S fun F' H' x y e r1 r2=>by rw[r1.flat e1,r2.flat e2];exact hs _ _ (q F' H' _ e (.bl _))
def Lg {a b:PyData}{v w:V}(ha:Qt K ta ρ a)(hb:Qt K tb ρ b)(e1:Zx a=some v)(e2:Zx b=some w)(hs:∀(H:Hp) (Q:VK),Q (.bl (!decide (v=w))) H->rNe v w H Q) :
 Qt K (tOp rNe ta tb) ρ (.bool (!decide (v=w))):=fun H0 F σ H Q S q =>
 YT ha hb S fun F' H' x y e r1 r2=>by rw[r1.flat e1,r2.flat e2];exact hs _ _ (q F' H' _ e (.bl _))
def RN {x y:Int}:decide (V.int x=V.int y)=decide (x=y):=by
 by_cases h:x=y
 ·subst h;simp
 ·rw[XN h,XN (fun z=>h (by injection z))]
def U3 {x y:Int}(ha:Qt K ta ρ (.int x))(hb:Qt K tb ρ (.int y)):Qt K (tOp rEq ta tb) ρ (.bool (decide (x=y))):=by
 rw[<- RN];exact Lr ha hb rfl rfl fun H Q q=>⟨rfl,q⟩
def KQ {x y:Int}(ha:Qt K ta ρ (.int x))(hb:Qt K tb ρ (.int y)):Qt K (tOp rNe ta tb) ρ (.bool (!decide (x=y))):=by
 rw[<- RN];exact Lg ha hb rfl rfl fun H Q q=>⟨rfl,q⟩
def J9 {a b:PyData}(ha:Qt K ta ρ a)(hb:Qt K tb ρ b)(fa:Vs a)(fb:Vs b):Qt K (tOp Ge ta tb) ρ (.bool (PyData.eqv a b)):=fun H0 F σ H Q S q =>
 YT ha hb S fun F' H' x y e r1 r2=>⟨a,b,r1.mono e.fh,r2.mono e.fh,fa,fb,q F' H' _ e (.bl _)⟩
def Np {a b:PyData}(ha:Qt K ta ρ a)(hb:Qt K tb ρ b)(fa:Vs a)(fb:Vs b):Qt K (tOp MH ta tb) ρ (.bool (!PyData.eqv a b)):=fun H0 F σ H Q S q =>
 YT ha hb S fun F' H' x y e r1 r2=>⟨a,b,r1.mono e.fh,r2.mono e.fh,fa,fb,q F' H' _ e (.bl _)⟩
def Nk:PyData->Bool
 |.none=>true
 |_=>false
def Rep.isNon {H:Hp}{x:V}{d:PyData}(r:Rep H x d):decide (x=.non)=Nk d:=by cases r<;>rfl
def Nu {a:PyData}(ha:Qt K ta ρ a):Qt K (KM ta) ρ (.bool (!Nk a)):=fun H0 F σ H Q S q =>
 ha H0 F σ H _ S fun F1 H1 v x1 r1=>by rw[r1.isNon];exact q F1 H1 _ x1 (.bl _)
def ZS {b:Bool}(h:Qt K ta ρ (.bool b)):Zg K (Gm ta) ρ b:=fun H0 F σ H Q S q=>h H0 F σ H _ S fun F1 H1 v x1 r1=>by cases r1;exact⟨b,rfl,q F1 H1 x1⟩
def VB {b:Bool}(h:Qt K ta ρ (.bool b)):Zg K (tB ta) ρ b:=fun H0 F σ H Q S q=>h H0 F σ H _ S fun F1 H1 v x1 r1=>by cases r1;exact⟨b,rfl,q F1 H1 x1⟩
def Nm:Zg K W4 ρ true:=fun H0 F σ H Q S q=>q F H (Q0.refl S.sub)
def Gx {b c:Bool}(h1:Zg K tA ρ b)(h2:b=true->Zg K tB' ρ c):Zg K (KD tA tB') ρ (b&&c):=fun H0 F σ H Q S q=>h1 H0 F σ H _ S fun F1 H1 x1=>by
 cases b with
 |true=>rw[Xd rfl];exact h2 rfl H0 F1 σ H1 Q (S.ext x1) fun F2 H2 x2=>by simpa using q F2 H2 (x1.trans x2)
 |false=>rw[Xb Xv];simpa using q F1 H1 x1
def Bp {b c:Bool}(h1:Zg K tA ρ b)(h2:b=false->Zg K tB' ρ c):Zg K (tOr tA tB') ρ (b||c):=fun H0 F σ H Q S q=>h1 H0 F σ H _ S fun F1 H1 x1=>by
 cases b with
 |false=>rw[Xb Xv];exact h2 rfl H0 F1 σ H1 Q (S.ext x1) fun F2 H2 x2=>by simpa using q F2 H2 (x1.trans x2)
 |true=>rw[Xd rfl];simpa using q F1 H1 x1
def YO {b:Bool}(h1:Zg K tA ρ b):Zg K (K7 tA) ρ (!b):=fun H0 F σ H Q S q=>h1 H0 F σ H _ S fun F1 H1 x1=>q F1 H1 x1
def Gy {b c:Bool}(h1:Qt K ta ρ (.bool b))(h2:b=true->Qt K tb ρ (.bool c)):Qt K (Nn ta tb) ρ (.bool (b&&c)):=fun H0 F σ H Q S q=>h1 H0 F σ H _ S fun F1 H1 v x1 r1=>by
 cases r1
 refine⟨b,rfl,?_⟩
 cases b with
 |true=>rw[Xd rfl];exact h2 rfl H0 F1 σ H1 Q (S.ext x1) fun F2 H2 v x2 r2=>by simpa using q F2 H2 v (x1.trans x2) (by simpa using r2)
 |false=>rw[Xb Xv];exact q F1 H1 _ x1 (.bl _)
def Nj {b:Bool}(h1:Qt K ta ρ (.bool b)):Qt K (Nt ta) ρ (.bool (!b)):=fun H0 F σ H Q S q=>h1 H0 F σ H _ S fun F1 H1 v x1 r1=>by cases r1;exact⟨b,rfl,q F1 H1 _ x1 (.bl _)⟩
def BH {g g':Int->Int->Bool}{x y z:Int}(ha:Qt K ta ρ (.int x))(hb:Qt K tb ρ (.int y))(hc:Qt K tc ρ (.int z)) :
 Qt K (Db (rI0 fun i j=>.bl (g i j)) (rI0 fun i j=>.bl (g' i j)) ta tb tc) ρ (.bool (g x y&&g' y z)):=fun H0 F σ H Q S q =>
 ha H0 F σ H _ S fun F1 H1 v x1 r1=>hb H0 F1 σ H1 _ (S.ext x1) fun F2 H2 w x2 r2=>by
  cases r1;cases r2
  refine⟨x,y,rfl,rfl,g x y,rfl,?_⟩
  cases e:g x y with
  |true=>rw[Xd rfl];exact hc H0 F2 σ H2 _ (S.ext (x1.trans x2)) fun F3 H3 u x3 r3=>by cases r3;exact⟨y,z,rfl,rfl,by simpa [e] using q F3 H3 _ ((x1.trans x2).trans x3) (by rw[e];exact .bl _)⟩
  |false=>rw[Xb Xv];simpa [e] using q F2 H2 _ (x1.trans x2) (by rw[e];exact .bl _)
def QC:Zw K QN ρ []:=fun H0 F σ H Q S q=>q F H [] (Q0.refl S.sub) .nil
def Qw {t:TA}{d:PyData}{ts:List OT}(h1:Qt K ta ρ d)(h2:Zw K t ρ ts):Zw K (QE ta t) ρ (.fz d::ts):=fun H0 F σ H Q S q =>
 h1 H0 F σ H _ S fun F1 H1 v x1 r1=>h2 H0 F1 σ H1 _ (S.ext x1) fun F2 H2 vs x2 r2=>q F2 H2 _ (x1.trans x2) (.fz (r1.mono x2.ff) r2)
def U4 {t:TA}{i:Nat}{ns:Ql}{ts:List OT}(e:ρ[i]?=some (some (.scr ns)))(h2:Zw K t ρ ts):Zw K (QE (Q8 i) t) ρ (.scr ns::ts):=fun H0 F σ H Q S q=>by
 obtain⟨fp,h,_⟩:=S.fp;obtain⟨v,e1,_,a,rfl,e3⟩:=h i _ e
 exact⟨_,e1,h2 H0 F σ H _ S fun F2 H2 vs x2 r2=>q F2 H2 _ x2 (.scr (e3.mono x2.ff) r2)⟩
def TH {t:TA}{i:Nat}{Ψ:ZP}{ts:List OT}(e:ρ[i]?=some (some (.zow Ψ)))(h2:Zw K t ρ ts):Zw K (QE (Q8 i) t) ρ (.zow Ψ::ts):=fun H0 F σ H Q S q=>by
 obtain⟨fp,h,_⟩:=S.fp;obtain⟨v,e1,_,e3⟩:=h i _ e
 exact⟨_,e1,h2 H0 F σ H _ S fun F2 H2 vs x2 r2=>q F2 H2 _ x2 (.zow (Ψ.mono x2.ff e3) r2)⟩
def fzs (ds:Qd):List OT:=ds.map OT.fz
theorem Args.reps {F:Hp}:∀{vs:List V} {ds:Qd},Args K F vs (fzs ds)->Qv F vs ds
 |_,[],.nil=>.nil
 |_,_::_,.fz r t=>.cons r (Args.reps t)
def Yw {t:TA}{ds:Qd}(h:Zw K t ρ (fzs ds))(hl:ds.length<=1000):Qt K (Gh t) ρ (.tuple ds):=fun H0 F σ H Q S q =>
 h H0 F σ H _ S fun F1 H1 vs x1 r1=>⟨by rw[r1.reps.length];exact Y1 (Vr hl),fun p hp=>by
  have s1:=x1.fh;exact q _ _ _ (x1.trans (Q0.new s1 hp)) (.tup QD (r1.reps.mono (Q4.new (s1.free hp))))⟩
def WY {F0 H0 F H:Hp}{p:Addr}{xs:List V}{ds:Qd}(x:Q0 F0 H0 F H)(hp:H p=none)(r:Qv F xs ds):Q0 F0 H0 F (upd H p (.lst xs))/\(∀a∈[p],H0 a=none)/\Zk K F (upd H p (.lst xs)) (.ref p) (.ol ds) [p] :=
 ⟨x.trans (Q0.own x.fh hp),fun a ha=>by
  have e:a=p:=by simpa using ha
  subst e;exact x.hh.free hp,p,rfl,rfl,x.fh.free hp,xs,QD,r⟩
def Vk {t:TA}{ds:Qd}(h:Zw K t ρ (fzs ds))(hl:ds.length<=1000):EvO K (Jw t) ρ (.ol ds):=fun H0 F σ H Q S q =>
 h H0 F σ H _ S fun F1 H1 vs x1 r1=>⟨by rw[r1.reps.length];exact Y1 (Vr hl),fun p hp=>by
  obtain⟨a,b,c⟩:=WY (K:=K) x1 hp r1.reps;exact q _ _ _ _ a b c⟩
def Wx {F H:Hp}{x:V}{ds:Qd}(r:Rep F x (.list ds))(s:Q4 F H):∃a xs,x=.ref a/\SqL K H a xs/\Qv F xs ds/\H a=some (.lst xs):=by
 cases r with
 |lst ha rr=>exact⟨_,_,rfl,SqL.of (s _ _ ha),rr,s _ _ ha⟩
def GQ {F H:Hp}{x:V}{ds:Qd}(r:Rep F x (.tuple ds))(s:Q4 F H):∃a xs,x=.ref a/\SqT K H a xs/\Qv F xs ds/\H a=some (.tup xs):=by
 cases r with
 |tup ha rr=>exact⟨_,_,rfl,SqT.of (s _ _ ha),rr,s _ _ ha⟩
def UM {F:Hp}{xs:List V}{ds:Qd}{i:Int}{d:PyData}(r:Qv F xs ds)(e:atI ds i=some d):∃z,atI xs i=some z/\Rep F z d:=by
 obtain⟨j,e1,e2⟩:=Ny e;obtain⟨z,z1,z2⟩:=r.get e1;refine⟨z,?_,z2⟩;unfold atI;rw[r.length,e2];exact z1
def V6 {ds:Qd}{i:Int}{d:PyData}(ha:Qt K ta ρ (.list ds))(hb:Qt K tb ρ (.int i))(e:atI ds i=some d):Qt K (tOp (rIx K) ta tb) ρ d:=fun H0 F σ H Q S q =>
 YT ha hb S fun F' H' x y x1 r1 r2=>by
  obtain⟨a,xs,rfl,h1,h2,_⟩:=Wx (K:=K) r1 x1.fh;obtain⟨z,z1,z2⟩:=UM h2 e
  cases r2
  exact .inl ⟨a,xs,i,z,rfl,rfl,h1,z1,q F' H' z x1 z2⟩
def VV {ds:Qd}{i:Int}{d:PyData}(ha:Qt K ta ρ (.tuple ds))(hb:Qt K tb ρ (.int i))(e:atI ds i=some d):Qt K (tOp (rIx K) ta tb) ρ d:=fun H0 F σ H Q S q =>
 YT ha hb S fun F' H' x y x1 r1 r2=>by
  obtain⟨a,xs,rfl,h1,h2,_⟩:=GQ (K:=K) r1 x1.fh;obtain⟨z,z1,z2⟩:=UM h2 e
  cases r2
  exact .inr (.inl ⟨a,xs,i,z,rfl,rfl,h1,z1,q F' H' z x1 z2⟩)
def U2 {i:Nat}{ds:Qd}{k:Int}{d:PyData}(e0:ρ[i]?=some (some (.ol ds)))(hb:Qt K tb ρ (.int k))(e:atI ds k=some d):Qt K (tOp (rIx K) (Q8 i) tb) ρ d:=fun H0 F σ H Q S q=>by
 obtain⟨fp,h,_⟩:=S.fp;obtain⟨v,e1,a,rfl,_,o1⟩:=h i _ e0;refine⟨_,e1,hb H0 F σ H _ S fun F1 H1 y x1 r1=>?_⟩;obtain⟨f1,xs,f2,f3⟩:=o1.ext x1;obtain⟨z,z1,z2⟩:=UM f3 e
 cases r1
 exact .inl ⟨a,xs,k,z,rfl,rfl,SqL.of f2,z1,q F1 H1 z x1 z2⟩
def Tf {i:Nat}{ns:Ql}{k n:Int}(e0:ρ[i]?=some (some (.scr ns)))(hb:Qt K tb ρ (.int k))(e:atI ns k=some n):Qt K (tOp (rIx K) (Q8 i) tb) ρ (.int n):=fun H0 F σ H Q S q=>by
 obtain⟨fp,h,_⟩:=S.fp;obtain⟨v,e1,_,a,rfl,sc⟩:=h i _ e0;refine⟨_,e1,hb H0 F σ H _ S fun F1 H1 y x1 r1=>?_⟩
 cases r1
 obtain⟨j,j1,j2⟩:=Ny e
 have z1:atI (ns.map V.int) k=some (.int n):=by
  unfold atI;rw[Xk,j2];show(ns.map V.int)[j]?=_;rw[Xq,j1];rfl
 exact .inl ⟨a,_,k,_,rfl,rfl,(x1.ff.trans x1.fh).seq sc.sq,z1,q F1 H1 _ x1 (.int n)⟩
def QP (R:List OT->OT->Prop):Sp:=fun vs H Q _=>∃F ts r,KTs K F/\Q4 F H/\Args K F vs ts/\R ts r/\∀F' H' v p,Q0 F H F' H'->(∀a∈p,H a=none)->Zk K F' H' v r p->Q v H'
def De {R:List OT->OT->Prop}{t:TA}{E:XK}{ts:List OT}{r:OT}(h:Zw K t ρ ts)(hR:R ts r):EvO K (Vv (QP (K:=K) R) [] E t) ρ r:=fun H0 F σ H Q S q =>
 h H0 F σ H _ S fun F1 H1 vs x1 r1=>by
  refine⟨F1,ts,r,(S.ext x1).kt,x1.fh,by rw[XD];exact r1,hR,fun F2 H2 v p x2 hp ok=>q F2 H2 v p (x1.trans x2) (fun a ha=>x1.hh.free (hp a ha)) ok⟩
def Zd {R:List OT->OT->Prop}{t:TA}{E:XK}{ts:List OT}{d:PyData}(h:Zw K t ρ ts)(hR:R ts (.fz d)):Qt K (Vv (QP (K:=K) R) [] E t) ρ d:=(De h hR).e
def TC {R:List OT->OT->Prop}{t:TA}{E:XK}{ts:List OT}{ds:Qd}(h:Zw K t ρ ts)(hR:R ts (.ol ds)):Qt K (Vv (QP (K:=K) R) [] E t) ρ (.list ds):=(De h hR).fz
end
def Df.ev {P:Program}{w:World}{K:W.Frag}{mg:Str->Qf}{base:Heap}{x:Str}{st:Stmt}{N ps:Qh}{k:Nat}{R:List OT->OT->Prop}(D:Df K mg x st ps)(S:Qp N ps (Qy st))(len:∀ts r,R ts r->ts.length=ps.length)
 (Xa2:∀(f:Addr) (cdv:Value) (A:Around) (outer:List Env) (s:Shared) (H:Hp) (E:XK) (ts:List OT) (r:OT),Room k (A.deeper (envOfC x (Qy st) s.heap.objs.size f cdv))->R ts r ->
  ∃t,PSs (Vo CX0 P w K mg base N x (Qy st) f cdv A outer s H E).nox (Zi st) t/\Q2 K t (ts.map some++List.replicate (N.length-ts.length) none) { nx:=fun _=>r=.fz .none,rt:=fun r'=>r'=r }):QF P w K mg base x ps (k+1) (QP (K:=K) R):=by
 refine D.cal S (fun vs H Q E ⟨F,ts,r,_,_,ha,hR,_⟩=>ha.length.trans (len ts r hR)) fun f cdv A outer s H vs Q E hr ⟨F,ts,r,kt,sm,ha,hR,q⟩=>?_;obtain⟨t,h1,h2⟩:=Xa2 f cdv A outer s H E ts r hr hR;refine⟨t,h1,h2 F H F (start N vs) H _ (Q0.refl sm) ⟨kt,sm,?_,fun _=>[],fun i t' e=>?_,fun i j a h=>(nomatch h),fun i a h=>(nomatch h)⟩ ⟨fun F' σ' H' ρ' x' _ e=>?_,fun F' H' v r' p x' hp ok e=>?_,fun _ _ _ _ _ _ z=>False.elim z,fun _ _ _ _ _ _ z=>False.elim z⟩⟩
 ·unfold start
  simp[ha.length]
 ·have hlt:i<ts.length:=by
   by_cases z:i<ts.length
   ·exact z
   ·rw[X9 (by simpa using z)]at e
    have:=List.mem_of_getElem? e
    simp at this
  rw[XI (by simpa using hlt),Xq]at e;have e':ts[i]?=some t':=by
   cases z:ts[i]? with
   |none=>rw[z]at e;simp at e
   |some w=>rw[z]at e;simp at e;rw[e]
  obtain⟨v,e1,e2⟩:=ha.get (H:=H) i t' e';refine⟨v,?_,e2⟩;unfold start;have hl2:i<vs.length:=by rw[ha.length];exact hlt
  rw[XI (by simpa using hl2),Xq,e1];rfl
 ·subst e
  exact q F' H' _ [] x' (fun _ z=>nomatch z) ⟨rfl,.non⟩
 ·subst e
  exact q F' H' v p x' hp ok
theorem Ps:∀{as bs:Qg},as.map V.ref=bs.map V.ref->as=bs
 |[],[],_=>rfl
 |[],_::_,h=>by simp at h
 |_::_,[],h=>by simp at h
 |a::as,b::bs,h=>by
   simp only[Xs,List.cons.injEq]at h;obtain⟨h1,h2⟩:=h;injection h1 with h1;rw[h1,Ps h2]
section
variable {K:W.Frag}{ρ:Q1}{ta tb tc te:TE}{tA:TT}{t u:TS}{D:PEnds}
def ZE (h:D.nx ρ):Q2 K Nl ρ D:=fun F0 H0 F σ H E x S C=>C.nx F σ H ρ x S h
def QI (h:Q2 K t ρ { D with nx:=fun ρ'=>Q2 K u ρ' D }):Q2 K (Jy t u) ρ D:=fun F0 H0 F σ H E x S C =>
 h F0 H0 F σ H { E with nx:=u E } x S ⟨fun F' σ' H' ρ' x' S' q=>q F0 H0 F' σ' H' E x' S' C,C.rt,C.bk,C.ct⟩
def B4 {ρ':Q1}(f:Fgt ρ ρ')(h:Q2 K t ρ' D):Q2 K t ρ D:=fun F0 H0 F σ H E x S C=>h F0 H0 F σ H E x (S.fgt f) C
def Yt (i:Nat){ds:Qd}(e:ρ[i]?=some (some (.ol ds)))(h:Q2 K t (ρ.set i (some (.fz (.list ds)))) D):Q2 K t ρ D:=fun F0 H0 F σ H E x S C=>by
 obtain⟨a,xs,e1,e2,e3,_,_,S'⟩:=S.freeze e;exact h F0 H0 _ σ H E (x.freeze e1 e2 e3) S' C
def U1 {r:OT}(h:EvO K te ρ r)(hr:D.rt r):Q2 K (Yo te) ρ D:=fun F0 H0 F σ H E x S C =>
 h H0 F σ H _ S fun F' H' v p x' hp ok=>C.rt F' H' v r p (x.trans x') (fun a ha=>x.hh.free (hp a ha)) ok hr
def Vj {d:PyData}(h:Qt K te ρ d)(hr:D.rt (.fz d)):Q2 K (Yo te) ρ D:=U1 h.o hr
def D1 {i:Nat}{ds:Qd}(e:ρ[i]?=some (some (.ol ds)))(hr:D.rt (.ol ds)):Q2 K (Yo (Q8 i)) ρ D:=fun F0 H0 F σ H E x S C=>by
 obtain⟨fp,h,_,h5⟩:=S.fp;obtain⟨v,e1,ok⟩:=h i _ e
 exact⟨v,e1,C.rt F H v _ _ x (fun a ha=>(h5 i a ha).1) ok hr⟩
def ZC {b:Bool}(h:Zg K tA ρ b)(h1:b=true->Q2 K t ρ D)(h2:b=false->Q2 K u ρ D):Q2 K (Bo tA t u) ρ D:=fun F0 H0 F σ H E x S C =>
 h H0 F σ H _ S fun F' H' x'=>by
  cases b with
  |true=>rw[Xd rfl];exact h1 rfl F0 H0 F' σ H' E (x.trans x') (S.ext x') C
  |false=>rw[Xb Xv];exact h2 rfl F0 H0 F' σ H' E (x.trans x') (S.ext x') C
def Vw {i:Nat}{r:OT}(h:EvO K te ρ r)(hn:D.nx (ρ.set i (some r))):Q2 K (Ve te (ZJ i)) ρ D:=fun F0 H0 F σ H E x S C =>
 h H0 F σ H _ S fun F' H' v p x' hp ok=>by
  refine C.nx F' _ H' _ (x.trans x') ((S.ext x').set ok (fun a ha=>x.hh.free (hp a ha)) (hn:=fun a ha j w t' q e1 e2 ok'=>?_)) hn;obtain⟨fp,g1,g2,g3⟩:=S.fp;obtain⟨w',f1,f2⟩:=g1 j t' e1;intro hq;have f3:=f2.ext x';rw[e2]at f1;cases f1
  have same:∀b∈q,b∈fp j:=by
   cases t' with
   |fz d=>rw[ok'.1];intro b hb;cases hb
   |zow Ψ=>rw[ok'.1];intro b hb;cases hb
   |ol ds =>
     obtain⟨b1,z1,z2,z3⟩:=ok';obtain⟨b2,y1,y2,y3⟩:=f3;rw[z1]at y1;cases y1;rw[z2,y2];exact fun _ z=>z
   |oll dss =>
     obtain⟨b1,bs1,z1,z2,z3,z4,z5,z6⟩:=ok';obtain⟨b2,bs2,y1,y2,y3,y4,y5,y6⟩:=f3;rw[z1]at y1;cases y1;rw[z5]at y5;have e5:bs1.map V.ref=bs2.map V.ref:=by injection y5 with z;injection z
     have e6:bs1=bs2:=Ps e5;rw[z2,y2,e6];exact fun _ z=>z
   |scr ns=>rw[ok'.1];intro b hb;cases hb
   |own v0 Φ=>exact fun b hb=>Φ.uniq f3.2 ok'.2 b hb
  exact(g3 j a (same a hq)).2 (hp a ha)
def ZK {i:Nat}{d:PyData}(h:Qt K te ρ d)(hn:D.nx (ρ.set i (some (.fz d)))):Q2 K (Ve te (ZJ i)) ρ D:=Vw h.o hn
def Zc {i:Nat}{d:PyData}:GTo K (ZJ i) d ρ (ρ.set i (some (.fz d))):=fun H0 F σ H x Q S r q=>q _ (S.setF r)
def Wp:Gg K M6 [] ρ ρ:=fun H0 F σ H xs Q S r q=>by cases r;exact⟨rfl,q _ S⟩
def ZR {g:TG}{gs:TGs}{d:PyData}{ds:Qd}{ρ1 ρ2:Q1}(h1:GTo K g d ρ ρ1)(h2:Gg K gs ds ρ1 ρ2):Gg K (MU g gs) (d::ds) ρ ρ2:=fun H0 F σ H xs Q S r q=>by
 cases r with
 |cons r1 r2=>exact⟨_,_,rfl,h1 H0 F σ H _ _ S r1 fun σ1 S1=>h2 H0 F σ1 H _ _ S1 r2 q⟩
def Wg {n:Nat}{gs:TGs}{ds:Qd}{ρ1:Q1}(h:Gg K gs ds ρ ρ1)(hn:ds.length=n):GTo K (MI K n gs) (.tuple ds) ρ ρ1:=fun H0 F σ H x Q S r q=>by
 obtain⟨a,xs,rfl,h1,h2,_⟩:=GQ (K:=K) r S.sub
 exact⟨a,xs,rfl,h1,by rw[h2.length,hn],h H0 F σ H xs Q S h2 q⟩
def Bz {g:TG}{d:PyData}{ρ':Q1}(h:Qt K te ρ d)(hg:GTo K g d ρ ρ')(hn:D.nx ρ'):Q2 K (Ve te g) ρ D:=fun F0 H0 F σ H E x S C =>
 h H0 F σ H _ S fun F' H' v x' r=>hg H0 F' σ H' v _ (S.ext x') r fun σ' S'=>C.nx F' σ' H' ρ' (x.trans x') S' hn
def Q0.wr {F0 H0 F H:Hp}{a:Addr}{o:HO}(x:Q0 F0 H0 F H)(h0:H0 a=none)(hf:F a=none):Q0 F0 H0 F (upd H a o) :=
 ⟨x.hh.upd h0,x.ff,x.fh.upd hf,x.fr⟩
def JN {i:Nat}{ds:Qd}{d:PyData}(e:ρ[i]?=some (some (.ol ds)))(h:Qt K te ρ d)(hl:ds.length<1000)(hn:D.nx (ρ.set i (some (.ol (ds++[d]))))) :
 Q2 K (VC (tBM K "list" Yc (Q8 i) (QE te QN))) ρ D:=fun F0 H0 F σ H E x S C=>by
 obtain⟨a,xs,e1,e2,e3,_⟩:=S.write e;refine⟨_,e1,.inl ⟨rfl,_,SqL.of e2⟩,h H0 F σ H _ S fun F1 H1 v x1 r1=>?_⟩;obtain⟨a',xs',f1,f2,f3,f4,f5,f6⟩:=(S.ext x1).write e;rw[e1]at f1;cases f1;refine⟨a,xs',v,rfl,rfl,f2,by rw[f3.length];exact Vr (by omega),?_⟩;exact C.nx F1 σ _ _ ((x.trans x1).wr f4 f5) (f6 _ _ (f3.snoc r1)) hn
def BN {i:Nat}{ds:Qd}{d:PyData}{k:Int}{j:Nat}(e:ρ[i]?=some (some (.ol ds)))(h:Qt K te ρ d)(hi:Qt K tb ρ (.int k))(hj:ixN ds.length k=some j)(hn:D.nx (ρ.set i (some (.ol (ds.set j d))))) :
 Q2 K (Ve te (M1 (Q8 i) tb Go)) ρ D:=fun F0 H0 F σ H E x S C =>
 h H0 F σ H _ S fun F1 H1 v x1 r1=>by
  obtain⟨a,xs,e1,e2,e3,_⟩:=(S.ext x1).write e;refine⟨_,e1,hi H0 F1 σ H1 _ (S.ext x1) fun F2 H2 y x2 r2=>?_⟩;obtain⟨a',xs',f1,f2,f3,f4,f5,f6⟩:=(S.ext (x1.trans x2)).write e;rw[e1]at f1;cases f1
  cases r2
  refine⟨a,xs',k,j,rfl,rfl,f2,by rw[f3.length];exact hj,?_⟩;exact C.nx F2 σ _ _ ((x.trans (x1.trans x2)).wr f4 f5) (f6 _ _ (f3.set (r1.mono x2.ff) j)) hn
def Rq {f:Int->Int->Int}{i:Nat}{ds:Qd}{k m n:Int}(e:ρ[i]?=some (some (.ol ds)))(hi:Qt K tb ρ (.int k))(h0:0<=k)(hm:ds[k.toNat]?=some (.int m))(h:Qt K te ρ (.int n))
 (hn:D.nx (ρ.set i (some (.ol (ds.set k.toNat (.int (f m n))))))):Q2 K (MQ (Q8 i) tb te (MN K) (ipI f) Go) ρ D:=fun F0 H0 F σ H E x S C=>by
 obtain⟨a,xs,e1,e2,e3,_⟩:=S.write e;refine⟨_,e1,hi H0 F σ H _ S fun F1 H1 y x1 r1=>?_⟩
 cases r1
 obtain⟨a1,xs1,f1,f2,f3,_⟩:=(S.ext x1).write e;rw[e1]at f1;cases f1;obtain⟨z,z1,z2⟩:=f3.get hm;refine⟨a,xs1,k,z,rfl,rfl,SqL.of f2,h0,z1,h H0 F1 σ H1 _ (S.ext x1) fun F2 H2 w x2 r2=>?_⟩
 cases r2
 cases z2
 refine⟨m,n,rfl,rfl,?_⟩;obtain⟨a2,xs2,g1,g2,g3,g4,g5,g6⟩:=(S.ext (x1.trans x2)).write e;rw[e1]at g1;cases g1;have hlt:k.toNat<ds.length:=(Xh.mp hm).1;refine⟨a,xs2,k,k.toNat,rfl,rfl,g2,?_,?_⟩
 ·rw[g3.length]
  unfold ixN;rw[Xd h0,Xd (by omega)]
 ·exact C.nx F2 σ _ _ ((x.trans (x1.trans x2)).wr g4 g5) (g6 _ _ (g3.set (.int _) _)) hn
def Q0.base {F0 H0 F H:Hp}(x:Q0 F0 H0 F H):Q0 F H0 F H:=⟨x.hh,Q4.refl _,x.fh,fun _ h=>.inl h⟩
def Q0.rebase {F0 H0 F H F' H':Hp}(x:Q0 F0 H0 F H)(y:Q0 F H0 F' H'):Q0 F0 H0 F' H' :=
 ⟨y.hh,x.ff.trans y.ff,y.fh,fun a h=>(y.fr a h).elim (fun z=>x.fr a z) .inr⟩
def VJ {wi:TI}{g:TG}{tbd:TS}{ds:Qd}(P:Nat->Q1->Prop)(hi:EvI K wi ρ ds)(h0:P 0 ρ)
 (hs:∀(i:Nat) (d:PyData) (ρ':Q1),ds[i]?=some d->P i ρ'->∃ρ2,GTo K g d ρ' ρ2/\Q2 K tbd ρ2 { nx:=P (i+1),ct:=P (i+1),bk:=D.nx,rt:=D.rt }) (hd:∀ρ',P ds.length ρ'->D.nx ρ'):Q2 K (Ur wi g tbd) ρ D:=fun F0 H0 F σ H E x S C =>
 hi H0 F σ H _ S fun F1 H1 J x1 W=>by
  refine⟨fun i m σ H=>m=ds.length-i/\i<=ds.length/\∃F ρ',Q0 F0 H0 F H/\Q4 F1 F/\QB K H0 F ρ' σ H/\P i ρ',⟨ds.length,by simp,XM _,F1,ρ,x.trans x1,Q4.refl _,S.ext x1,h0⟩,?_⟩
  rintro i m σ' H' ⟨rfl,hle,F',ρ',x',s',S',p⟩
  obtain⟨w1,w2⟩:=W F' H' s' S'.sub
  by_cases hlt:i<ds.length
  ·have e:ds[i]?=some ds[i]:=by simp[hlt]
   obtain⟨go,yl⟩:=w2 i _ e;refine .inr ⟨go,fun σ2 H2=>∃F2 ρ2,Q0 F0 H0 F2 H2/\Q4 F1 F2/\QB K H0 F2 ρ2 σ2 H2/\P (i+1) ρ2,fun σ2 H2 q=>⟨ds.length-(i+1),by omega,rfl,hlt,q⟩,fun v H3 y=>?_⟩;obtain⟨F3,x3,r3⟩:=yl v H3 y;obtain⟨ρ2,hg,hb⟩:=hs i _ ρ' e p;refine hg H0 F3 σ' H3 v _ (S'.ext x3) r3 fun σ2 S2=>?_;have big:Q0 F0 H0 F3 H3:=x'.trans x3;have s13:=s'.trans x3.ff
   exact hb F3 H0 F3 σ2 H3 _ big.base S2 ⟨fun F4 σ4 H4 ρ4 x4 S4 q4=>⟨F4,ρ4,big.rebase x4,s13.trans x4.ff,S4,q4⟩,fun F4 H4 v4 r4 p4 x4=>C.rt F4 H4 v4 r4 p4 (big.rebase x4),
    fun F4 σ4 H4 ρ4 x4=>C.nx F4 σ4 H4 ρ4 (big.rebase x4),fun F4 σ4 H4 ρ4 x4 S4 q4=>⟨F4,ρ4,big.rebase x4,s13.trans x4.ff,S4,q4⟩⟩
  ·have e:i=ds.length:=by omega
   subst e;exact .inl ⟨w1,C.nx F' σ' H' ρ' x' S' (hd ρ' p)⟩
def BL {wi:TI}{g:TG}{tbd:TS}{ds:Qd}(R:Nat->Q1)(hi:EvI K wi ρ ds)(h0:Fgt ρ (R 0))
 (hs:∀(i:Nat) (d:PyData),ds[i]?=some d->∃ρ2,GTo K g d (R i) ρ2/\Q2 K tbd ρ2 { nx:=fun ρ'=>Fgt ρ' (R (i+1)),ct:=fun ρ'=>Fgt ρ' (R (i+1)),bk:=D.nx,rt:=D.rt }) (hd:∀ρ',Fgt ρ' (R ds.length)->D.nx ρ'):Q2 K (Ur wi g tbd) ρ D:=by
 refine VJ (fun i ρ'=>Fgt ρ' (R i)) hi h0 (fun i d ρ' e f=>?_) hd;obtain⟨ρ2,h1,h2⟩:=hs i d e
 exact⟨ρ2,fun H0 F σ H x Q S r q=>h1 H0 F σ H x Q (S.fgt f) r q,h2⟩
def DT {c:TT}{tbd:TS}(P:Nat->Q1->Prop)(m0:Nat)(h0:P m0 ρ)
 (hs:∀(m:Nat) (ρ':Q1),P m ρ'->∃b,Zg K c ρ' b/\(b=true->Q2 K tbd ρ' { nx:=fun ρ2=>∃m',m'<m/\P m' ρ2,ct:=fun ρ2=>∃m',m'<m/\P m' ρ2,bk:=D.nx,rt:=D.rt })/\(b=false->D.nx ρ')):Q2 K (NF c tbd) ρ D:=fun F0 H0 F σ H E x S C=>by
 refine⟨fun m σ H=>∃F ρ',Q0 F0 H0 F H/\QB K H0 F ρ' σ H/\P m ρ',⟨m0,F,ρ,x,S,h0⟩,?_⟩
 rintro m σ' H' ⟨F',ρ',x',S',p⟩
 obtain⟨b,h1,h2,h3⟩:=hs m ρ' p;refine h1 H0 F' σ' H' _ S' fun F1 H1 x1=>?_;have X1:=x'.trans x1;have S1:=S'.ext x1
 cases b with
 |false=>rw[Xb Xv];exact C.nx F1 σ' H1 ρ' X1 S1 (h3 rfl)
 |true =>
   rw[Xd rfl];refine⟨fun σ2 H2=>∃m',m'<m/\∃F2 ρ2,Q0 F0 H0 F2 H2/\QB K H0 F2 ρ2 σ2 H2/\P m' ρ2,fun σ2 H2 h=>h,?_⟩;have go:∀F4 σ4 H4 ρ4,Q0 F0 H0 F4 H4->QB K H0 F4 ρ4 σ4 H4->(∃m',m'<m/\P m' ρ4)->∃m',m'<m/\∃F2 ρ2,Q0 F0 H0 F2 H4/\QB K H0 F2 ρ2 σ4 H4/\P m' ρ2:=fun F4 σ4 H4 ρ4 x4 S4 ⟨m',q1,q2⟩=>⟨m',q1,F4,ρ4,x4,S4,q2⟩;exact h2 rfl F0 H0 F1 σ' H1 _ X1 S1 ⟨go,C.rt,C.nx,go⟩
def YA {ds:Qd}(h:Qt K ta ρ (.list ds)):EvI K (Nr K ta) ρ ds:=fun H0 F σ H R S q =>
 h H0 F σ H _ S fun F1 H1 v x1 r1=>by
  obtain⟨a,xs,rfl,h1,h2,h3⟩:=Wx (K:=K) r1 x1.fh
  have hF:F1 a=some (.lst xs):=by
   cases r1 with
   |lst ha rr =>
     have:=x1.fh _ _ ha
     rw[h3]at this;cases this;exact ha
  refine⟨a,rfl,⟨xs,h1⟩,q F1 H1 _ x1 fun F2 H2 s2 s3=>?_⟩;have hq:SqL K H2 a xs:=SqL.of (s3 _ _ (s2 _ _ hF));refine⟨⟨xs,hq,by rw[h2.length];exact Xu _⟩,fun i d e=>?_⟩;obtain⟨z,z1,z2⟩:=h2.get e;refine⟨⟨xs,z,hq,z1⟩,fun y H3 hy=>?_⟩;obtain⟨rfl,hy⟩:=hy;have e2:=hy xs hq;rw[z1]at e2;cases e2
  exact⟨F2,Q0.refl s3,z2.mono s2⟩
def Gz {ds:Qd}(h:Qt K ta ρ (.tuple ds)):EvI K (KG K ta) ρ ds:=fun H0 F σ H R S q =>
 h H0 F σ H _ S fun F1 H1 v x1 r1=>by
  obtain⟨a,xs,rfl,h1,h2,h3⟩:=GQ (K:=K) r1 x1.fh
  have hF:F1 a=some (.tup xs):=by
   cases r1 with
   |tup ha rr =>
     have:=x1.fh _ _ ha
     rw[h3]at this;cases this;exact ha
  refine⟨a,rfl,⟨xs,h1⟩,q F1 H1 _ x1 fun F2 H2 s2 s3=>?_⟩;have hq:SqT K H2 a xs:=SqT.of (s3 _ _ (s2 _ _ hF));refine⟨⟨xs,hq,by rw[h2.length];exact Xu _⟩,fun i d e=>?_⟩;obtain⟨z,z1,z2⟩:=h2.get e;refine⟨⟨xs,z,hq,z1⟩,fun y H3 hy=>?_⟩;obtain⟨rfl,hy⟩:=hy;have e2:=hy xs hq;rw[z1]at e2;cases e2
  exact⟨F2,Q0.refl s3,z2.mono s2⟩
def ZI (lo:Int)(n:Nat):Qd:=(List.range n).map fun(i:Nat)=>PyData.int (lo+(i:Int))
def YE {lo:Int}{n i:Nat}{d:PyData}(e:(ZI lo n)[i]?=some d):i<n/\d=.int (lo+(i:Int)):=by
 unfold ZI at e;rw[Xq]at e;by_cases h:i<n
 ·simp[h]at e;exact⟨h,e.symm⟩
 ·simp[h]at e
def YW {lo:Int}{n:Nat}:(ZI lo n).length=n:=by simp[ZI]
def SD {F:Hp}{lo:Int}{n:Nat}:NC F (Itr lo n) (ZI lo n):=fun F2 H2 s2 s3=>by
 refine⟨by show n<=_;rw[YW];exact Xu _,fun i d e=>?_⟩;obtain⟨h1,rfl⟩:=YE e;refine⟨h1,fun x H3 hy=>?_⟩;obtain⟨rfl,rfl⟩:=hy
 exact⟨F2,Q0.refl s3,.int _⟩
def Yn {t:TA}{n:Int}(h:Zw K t ρ [.fz (.int n)])(h1 : -(2^62)<=n)(h2:n<2^62):EvI K (Gq t) ρ (ZI 0 n.toNat):=fun H0 F σ H R S q =>
 h H0 F σ H _ S fun F1 H1 vs x1 r1=>by
  cases r1 with
  |fz r r1=>cases r1;cases r;exact⟨n,rfl,h1,h2,q F1 H1 _ x1 SD⟩
def DL {t:TA}{m n:Int}(h:Zw K t ρ [.fz (.int m),.fz (.int n)])(h1 : -(2^62)<=m/\m<2^62 /\ -(2^62)<=n/\n<2^62):EvI K (Nh t) ρ (ZI m (n-m).toNat):=fun H0 F σ H R S q =>
 h H0 F σ H _ S fun F1 H1 vs x1 r1=>by
  cases r1 with
  |fz r r1 =>
    cases r1 with
    |fz r' r1=>cases r1;cases r;cases r';exact⟨m,n,rfl,h1,q F1 H1 _ x1 SD⟩
def W5 (hi:Int)(n:Nat):Qd:=(List.range n).map fun(i:Nat)=>PyData.int (hi-(i:Int))
def Hh {hi:Int}{n i:Nat}{d:PyData}(e:(W5 hi n)[i]?=some d):i<n/\d=.int (hi-(i:Int)):=by
 unfold W5 at e;rw[Xq]at e;by_cases h:i<n
 ·simp[h]at e;exact⟨h,e.symm⟩
 ·simp[h]at e
def DV {hi:Int}{n:Nat}:(W5 hi n).length=n:=by simp[W5]
def TN {t:TA}{m n:Int}(h:Zw K t ρ [.fz (.int m),.fz (.int n),.fz (.int (-1))])(h1 : -(2^62)<=m/\m<2^62 /\ -(2^62)<=n/\n<2^62):EvI K (KR t) ρ (W5 m (m-n).toNat):=fun H0 F σ H R S q =>
 h H0 F σ H _ S fun F1 H1 vs x1 r1=>by
  cases r1 with
  |fz r r1 =>
    cases r1 with
    |fz r' r1 =>
      cases r1 with
      |fz r2 r1 =>
        cases r1;cases r;cases r';cases r2
        refine⟨m,n,rfl,h1,q F1 H1 _ x1 fun F2 H2 s2 s3=>⟨by show _<=_;rw[DV];exact Xu _,fun i d e=>?_⟩⟩;obtain⟨h1,rfl⟩:=Hh e;refine⟨h1,fun x H3 hy=>?_⟩;obtain⟨rfl,rfl⟩:=hy
        exact⟨F2,Q0.refl s3,.int _⟩
def Wk:Option OT->Option OT
 |some (.fz d)=>some (.fz d)
 |some (.scr ns)=>some (.scr ns)
 |some (.zow Ψ)=>some (.zow Ψ)
 |_=>none
def J7 (f:List (Option Nat))(ρ:Q1):Q1:=f.map fun o=>match o with|some i=>Wk (ρ[i]?).join|none=>none
def QB.inner {H0 F H:Hp}{σ:St}(f:List (Option Nat))(S:QB K H0 F ρ σ H):QB K H0 F (J7 f ρ) (ZH f σ) H:=by
 obtain⟨kt,h1,h2,fp,h3,h4,h5⟩:=S;refine⟨kt,h1,by simp[J7,ZH],fun _=>[],fun i t e=>?_,fun i j a h=>(nomatch h),fun i a h=>(nomatch h)⟩;unfold J7 at e;rw[Xq]at e;cases z:f[i]? with
 |none=>rw[z]at e;simp at e
 |some o =>
   rw[z]at e;simp only[X6,Option.some.injEq]at e;cases o with
   |none=>cases e
   |some k =>
     simp only at e
     have e':ρ[k]?=some (some t)/\((∃d,t=.fz d)\/(∃ns,t=.scr ns)\/∃Ψ,t=.zow Ψ):=by
      cases y:ρ[k]? with
      |none=>rw[y]at e;simp[Wk]at e
      |some w =>
        rw[y]at e;simp only[Option.join_some]at e;cases w with
        |none=>simp[Wk]at e
        |some w =>
          cases w with
          |fz d=>simp[Wk]at e;subst e;exact⟨rfl,.inl ⟨_,rfl⟩⟩
          |scr ns=>simp[Wk]at e;subst e;exact⟨rfl,.inr (.inl ⟨_,rfl⟩)⟩
          |zow Ψ=>simp[Wk]at e;subst e;exact⟨rfl,.inr (.inr ⟨_,rfl⟩)⟩
          |ol ds=>simp[Wk]at e
          |oll ds=>simp[Wk]at e
          |own v0 Φ=>simp[Wk]at e
     obtain⟨v,e1,e2⟩:=h3 k t e'.1;refine⟨v,?_,?_⟩
     ·unfold ZH
      rw[Xq,z];simp[e1]
     ·rcases e'.2 with ⟨d,rfl⟩|⟨ns,rfl⟩|⟨Ψ,rfl⟩
      ·exact⟨rfl,e2.2⟩
      ·exact⟨rfl,e2.2⟩
      ·exact⟨rfl,e2.2⟩
def WU {α:Type}{f:List (Option Nat)}{wi:TI}{g:CIn->TG}{tcc:CIn->TT}{tee:CIn->TE}{xs:List α}{enc h:α->PyData}{p:α->Bool}(hi:EvI K wi ρ (xs.map enc))(hl:xs.length<=1000)
 (hs:∀x∈xs,∀c,∃ρ2,GTo K (g c) (enc x) (J7 f ρ) ρ2/\Zg K (tcc c) ρ2 (p x)/\(p x=true->Qt K (tee c) ρ2 (h x))):EvO K (tLC f wi g tcc tee) ρ (.ol ((xs.filter p).map h)):=fun H0 F σ H Q S q =>
 hi H0 F σ H _ S fun F1 H1 J x1 W c=>by
  have hn:xs.length<=sizeLine:=Y1 (Vr hl);refine⟨fun i m ys H=>m=xs.length-i/\i<=xs.length/\∃F',Q0 F1 H1 F' H/\Qv F' ys (((xs.take i).filter p).map h),⟨xs.length,by simp,XM _,F1,Q0.refl x1.fh,.nil⟩,?_⟩
  rintro i m ys H' ⟨rfl,hle,F',x',r'⟩
  obtain⟨w1,w2⟩:=W F' H' x'.ff x'.fh
  by_cases hlt:i<xs.length
  ·have e:(xs.map enc)[i]?=some (enc xs[i]):=by simp[hlt]
   obtain⟨go,yl⟩:=w2 i _ e;refine .inr ⟨go,fun v H3 y=>?_⟩;obtain⟨F3,x3,r3⟩:=yl v H3 y;obtain⟨ρ2,k1,k2,k3⟩:=hs xs[i] (XV hlt) c;have S3:=(S.ext (x1.trans (x'.trans x3))).inner f;have tk:xs.take (i+1)=xs.take i++[xs[i]]:=by rw[WG];simp[hlt]
   have ly:=r'.length
   have ly2:ys.length<=i:=by
    rw[ly,Xk];refine VM (List.length_filter_le _ _) ?_;rw[Jp];omega
   refine k1 H0 F3 _ H3 v _ S3 r3 fun σ2 S4=>k2 H0 F3 σ2 H3 _ S4 fun F4 H4 x4=>?_
   cases ep:p xs[i] with
   |true =>
     rw[Xd rfl];refine k3 ep H0 F4 σ2 H4 _ (S4.ext x4) fun F5 H5 z x5 r5=>⟨by omega,xs.length-(i+1),by omega,rfl,hlt,F5,x'.trans (x3.trans (x4.trans x5)),?_⟩;rw[tk,Bh,Xr];simp only[Jo,ep,if_true,List.filter_nil,Xs,UU];exact(r'.mono (x3.trans (x4.trans x5)).ff).snoc r5
   |false =>
     rw[Xb Xv];refine⟨xs.length-(i+1),by omega,rfl,hlt,F4,x'.trans (x3.trans x4),?_⟩;rw[tk,Bh,Xr];simp only[Jo,ep,List.filter_nil,UU,XD,XZ,if_false];exact r'.mono (x3.trans x4).ff
  ·have e:i=xs.length:=by omega
   subst e;refine .inl ⟨by simpa using w1,fun a ha=>?_⟩;rw[Wc]at r';obtain⟨z1,z2,z3⟩:=WY (K:=K) (x1.trans x') ha r';exact q _ _ _ _ z1 z2 z3
def Wh {α:Type}{f:List (Option Nat)}{wi:TI}{g:CIn->TG}{tee:CIn->TE}{xs:List α}{enc h:α->PyData}(hi:EvI K wi ρ (xs.map enc))(hl:xs.length<=1000)
 (hs:∀x∈xs,∀c,∃ρ2,GTo K (g c) (enc x) (J7 f ρ) ρ2/\Qt K (tee c) ρ2 (h x)):EvO K (tLC f wi g (fun _=>W4) tee) ρ (.ol (xs.map h)):=by
 have:=WU (K:=K) (ρ:=ρ) (f:=f) (wi:=wi) (g:=g) (tcc:=fun _=>W4) (tee:=tee) (xs:=xs) (enc:=enc) (h:=h) (p:=fun _=>true) hi hl fun x hx c=>by
  obtain⟨ρ2,h1,h2⟩:=hs x hx c
  exact⟨ρ2,h1,Nm,fun _=>h2⟩
 have e:xs.filter (fun _=>true)=xs:=List.filter_eq_self.mpr fun _ _=>rfl;rw[e]at this;exact this
def MP:List V->Hp->VK->Prop:=fun xs H Q=>∃i j,xs=[.int i,.int j]/\Q (.int (if j > i then j else i)) H
def MV:List V->Hp->VK->Prop:=fun xs H Q=>∃i j,xs=[.int i,.int j]/\Q (.int (if j<i then j else i)) H
def Nb:List V->Hp->VK->Prop:=fun xs H Q=>(∃i,xs=[.int i]/\Q (.int i) H)\/∃k,xs=[.bl k]/\Q (.int (if k then 1 else 0)) H
def K1:List V->Hp->VK->Prop:=fun xs H Q=>∃x T c b,xs=[x,.ty c]/\TyN H x T/\YK T c=some b/\Q (.bl b) H
def YL (K:W.Frag):List V->Hp->VK->Prop:=fun xs H Q=>∃p ys,xs=[.ref p]/\(SqL K H p ys\/SqT K H p ys)/\Q (.int ys.length) H
def BI (K:W.Frag):List V->Hp->VK->Prop:=fun xs H Q=>∃p ys,xs=[.ref p]/\(SqL K H p ys\/SqT K H p ys)/\∀l,H l=none->Q (.ref l) (upd H l (.lst ys))
def Dp (K:W.Frag):List V->Hp->VK->Prop:=fun xs H Q=>∃p ys,xs=[.ref p]/\((SqL K H p ys/\∀l,H l=none->Q (.ref l) (upd H l (.tup ys)))\/(SqT K H p ys/\Q (.ref p) H))
def KJ (X:Cx):List V->Hp->VK->Prop:=fun xs H Q=>X.calm=true/\∃(x:V) (ns:Ql),xs=[x]/\Rep H x (.list (ns.map PyData.int))/\Q (.int ns.sum) H
def Nz {X:Cx} (h:X.calm=true):Z0 X (.builtin "max") MP:=Ax h
def BD {X:Cx} (h:X.calm=true):Z0 X (.builtin "min") MV:=Au h
def LQ {X:Cx}:Z0 X (.type "int") Nb:=Aw
def Dt {X:Cx}:Z0 X (.builtin "isinstance") K1:=Ck
def ZN {X:Cx}:Z0 X (.builtin "len") (YL X.K):=IC
def D9 {X:Cx}:Z0 X (.type "list") (BI X.K):=IL
def BO {X:Cx}:Z0 X (.type "tuple") (Dp X.K):=IH
def Du {X:Cx}:Z0 X (.builtin "sum") (KJ X):=CC
def NB {x y:Int}{r:List V->Hp->VK->Prop}{H0 F H:Hp}{σ:St}{Q:VK}(ha:Qt K ta ρ (.int x))(hb:Qt K tb ρ (.int y))(S:QB K H0 F ρ σ H)(h:∀F' H',Q0 F H F' H'->r [.int x,.int y] H' Q):tCB r (QE ta (QE tb QN)) σ H Q :=
 ha H0 F σ H _ S fun F1 H1 v x1 r1=>hb H0 F1 σ H1 _ (S.ext x1) fun F2 H2 w x2 r2=>by cases r1;cases r2;exact h F2 H2 (x1.trans x2)
def Ll {x y:Int}(ha:Qt K ta ρ (.int x))(hb:Qt K tb ρ (.int y)):Qt K (tCB MP (QE ta (QE tb QN))) ρ (.int (if y > x then y else x)):=fun H0 F σ H Q S q =>
 NB ha hb S fun F' H' e=>⟨x,y,rfl,q F' H' _ e (.int _)⟩
def TL {x y:Int}(ha:Qt K ta ρ (.int x))(hb:Qt K tb ρ (.int y)):Qt K (tCB MV (QE ta (QE tb QN))) ρ (.int (if y<x then y else x)):=fun H0 F σ H Q S q =>
 NB ha hb S fun F' H' e=>⟨x,y,rfl,q F' H' _ e (.int _)⟩
def Nx {b:Bool}(h:Qt K ta ρ (.bool b)):Qt K (tCB Nb (QE ta QN)) ρ (.int (if b then 1 else 0)):=fun H0 F σ H Q S q =>
 h H0 F σ H _ S fun F1 H1 v x1 r1=>by cases r1;exact .inr ⟨b,rfl,q F1 H1 _ x1 (.int _)⟩
def Bw {a:PyData}{c:String}{b:Bool}(h:Qt K ta ρ a)(hb:YK (tyD a) c=some b):Qt K (tCB K1 (QE ta (QE (tC (.ty c)) QN))) ρ (.bool b):=fun H0 F σ H Q S q =>
 h H0 F σ H _ S fun F1 H1 v x1 r1=>⟨v,_,c,b,rfl,(r1.mono x1.fh).ty,hb,q F1 H1 _ x1 (.bl _)⟩
def YQ {ds:Qd}(h:Qt K ta ρ (.list ds)):Qt K (tCB (YL K) (QE ta QN)) ρ (.int (ds.length:Int)):=fun H0 F σ H Q S q =>
 h H0 F σ H _ S fun F1 H1 v x1 r1=>by
  obtain⟨a,xs,rfl,h1,h2,_⟩:=Wx (K:=K) r1 x1.fh
  exact⟨a,xs,rfl,.inl h1,by rw[h2.length];exact q F1 H1 _ x1 (.int _)⟩
def B6 {ds:Qd}(h:Qt K ta ρ (.tuple ds)):Qt K (tCB (YL K) (QE ta QN)) ρ (.int (ds.length:Int)):=fun H0 F σ H Q S q =>
 h H0 F σ H _ S fun F1 H1 v x1 r1=>by
  obtain⟨a,xs,rfl,h1,h2,_⟩:=GQ (K:=K) r1 x1.fh
  exact⟨a,xs,rfl,.inr h1,by rw[h2.length];exact q F1 H1 _ x1 (.int _)⟩
def PU {i:Nat}{ns:Ql}(e0:ρ[i]?=some (some (.scr ns))):Qt K (tCB (YL K) (QE (Q8 i) QN)) ρ (.int (ns.length:Int)):=fun H0 F σ H Q S q=>by
 obtain⟨fp,h,_⟩:=S.fp;obtain⟨v,e1,_,a,rfl,sc⟩:=h i _ e0
 exact⟨_,e1,a,ns.map V.int,rfl,.inl (S.sub.seq sc.sq),by rw[Xk];exact q F H _ (Q0.refl S.sub) (.int _)⟩
def PR {i:Nat}{ds:Qd}(e0:ρ[i]?=some (some (.ol ds))):Qt K (tCB (YL K) (QE (Q8 i) QN)) ρ (.int (ds.length:Int)):=fun H0 F σ H Q S q=>by
 obtain⟨fp,h,_⟩:=S.fp;obtain⟨v,e1,a,rfl,_,_,xs,o2,o3⟩:=h i _ e0
 exact⟨_,e1,a,xs,rfl,.inl (SqL.of o2),by rw[o3.length];exact q F H _ (Q0.refl S.sub) (.int _)⟩
def NY {ds:Qd}(h:Qt K ta ρ (.tuple ds)):EvO K (tCB (BI K) (QE ta QN)) ρ (.ol ds):=fun H0 F σ H Q S q =>
 h H0 F σ H _ S fun F1 H1 v x1 r1=>by
  obtain⟨a,xs,rfl,h1,h2,_⟩:=GQ (K:=K) r1 x1.fh;refine⟨a,xs,rfl,.inr h1,fun p hp=>?_⟩;obtain⟨z1,z2,z3⟩:=WY (K:=K) x1 hp h2;exact q _ _ _ _ z1 z2 z3
def Dx {ds:Qd}(h:Qt K ta ρ (.list ds)):Qt K (tCB (Dp K) (QE ta QN)) ρ (.tuple ds):=fun H0 F σ H Q S q =>
 h H0 F σ H _ S fun F1 H1 v x1 r1=>by
  obtain⟨a,xs,rfl,h1,h2,_⟩:=Wx (K:=K) r1 x1.fh;refine⟨a,xs,rfl,.inl ⟨h1,fun p hp=>?_⟩⟩;have s1:=x1.fh;exact q _ _ _ (x1.trans (Q0.new s1 hp)) (.tup QD (h2.mono (Q4.new (s1.free hp))))
def Dw {i:Nat}{ds:Qd}(e0:ρ[i]?=some (some (.ol ds))):Qt K (tCB (Dp K) (QE (Q8 i) QN)) ρ (.tuple ds):=fun H0 F σ H Q S q=>by
 obtain⟨fp,h,_⟩:=S.fp;obtain⟨v,e1,a,rfl,_,_,xs,o2,o3⟩:=h i _ e0;refine⟨_,e1,a,xs,rfl,.inl ⟨SqL.of o2,fun p hp=>?_⟩⟩;exact q _ _ _ (Q0.new S.sub hp) (.tup QD (o3.mono (Q4.new (S.sub.free hp))))
def Bx {X:Cx}{ns:Ql}(h:Qt K ta ρ (.list (ns.map PyData.int)))(hc:X.calm=true):Qt K (tCB (KJ X) (QE ta QN)) ρ (.int ns.sum):=fun H0 F σ H Q S q =>
 h H0 F σ H _ S fun F1 H1 v x1 r1=>⟨hc,v,ns,rfl,r1.mono x1.fh,q F1 H1 _ x1 (.int _)⟩
def KN:List V->Hp->VK->Prop:=fun xs H Q=>∃j,xs=[.int j]/\∀p,H p=none->Q (.ref p) (upd H p (.rng 0 j))
def Se (X:Cx):List V->Hp->VK->Prop:=fun xs H Q=>X.calm=true/\∃(p:Addr) (n:Nat),xs=[.ref p]/\H p=some (.rng 0 (n:Int))/\n<=1000/\∀l,H l=none->Q (.ref l) (upd H l (.lst (WR n)))
def Av {X:Cx}:Z0 X (.type "range") KN:=Ia
def Ev {X:Cx}:Z0 X (.type "list") (Se X):=IM
def Ek {F:Hp}(n:Nat):Qv F (WR n) ((List.range n).map fun(j:Nat)=>PyData.int (j:Int)):=by
 unfold WR;generalize List.range n=l;induction l with
 |nil=>exact .nil
 |cons a l ih=>exact .cons (.int _) ih
def RJ {X:Cx}{n:Nat}(h:Qt K ta ρ (.int (n:Int)))(hc:X.calm=true)(hn:n<=1000):EvO K (tCB (Se X) (QE (tCB KN (QE ta QN)) QN)) ρ (.ol ((List.range n).map fun(j:Nat)=>PyData.int (j:Int))):=fun H0 F σ H Q S q =>
 h H0 F σ H _ S fun F1 H1 v x1 r1=>by
  cases r1
  refine⟨_,rfl,fun p hp=>⟨hc,p,n,rfl,QD,hn,fun l hl=>?_⟩⟩;obtain⟨z1,z2,z3⟩:=WY (K:=K) (x1.trans (Q0.own (o:=.rng 0 (n:Int)) x1.fh hp)) hl (Ek n);exact q _ _ _ _ z1 z2 z3
def U0 {as bs:Qd}(ha:Qt K ta ρ (.list as))(hb:Qt K tb ρ (.list bs))(hl:as.length+bs.length<=1000):EvO K (tOp Bm ta tb) ρ (.ol (as++bs)):=fun H0 F σ H Q S q =>
 YT ha hb S fun F' H' x y e r1 r2=>by
  obtain⟨a,xs,rfl,h1,h2,h3⟩:=Wx (K:=K) r1 e.fh;obtain⟨b,ys,rfl,g1,g2,g3⟩:=Wx (K:=K) r2 e.fh;refine⟨a,b,xs,ys,rfl,rfl,h3,g3,by rw[h2.length,g2.length];exact Y1 (Vr hl),fun p hp=>?_⟩;obtain⟨z1,z2,z3⟩:=WY (K:=K) e hp (h2.append g2);exact q _ _ _ _ z1 z2 z3
end
def QT {K:W.Frag}{ρ:Q1}{ta:TE}{t:TA}{d:PyData}{ds:Qd}(h1:Qt K ta ρ d)(h2:Zw K t ρ (fzs ds)):Zw K (QE ta t) ρ (fzs (d::ds)):=Qw h1 h2
def EvI.cast {K:W.Frag}{wi:TI}{ρ:Q1}{ds ds':Qd}(h:EvI K wi ρ ds)(e:ds=ds'):EvI K wi ρ ds':=e▸h
def WD {a b:Int}{m n:Nat}(h:a=b)(h2:m=n):ZI a m=ZI b n:=by rw[h,h2]
def Pc {a b:Int}{m n:Nat}(h:a=b)(h2:m=n):W5 a m=W5 b n:=by rw[h,h2]
def MZ {K:W.Frag}{ρ:Q1}{ta tb:TE}{x y:Int}(ha:Qt K ta ρ (.int x))(hb:Qt K tb ρ (.int y)):Qt K (tCB MP (QE ta (QE tb QN))) ρ (.int (max x y)):=by
 have e:max x y=if y > x then y else x:=by split<;>omega
 rw[e];exact Ll ha hb
def Dm {K:W.Frag}{ρ:Q1}{ta tb:TE}{x y:Int}(ha:Qt K ta ρ (.int x))(hb:Qt K tb ρ (.int y)):Qt K (tCB MV (QE ta (QE tb QN))) ρ (.int (min x y)):=by
 have e:min x y=if y<x then y else x:=by split<;>omega
 rw[e];exact TL ha hb
def NW {K:W.Frag}{ρ:Q1}{f:List (Option Nat)}{wi:TI}{g:CIn->TG}{tee:CIn->TE}{lo:Int}{n:Nat}{h:Nat->PyData}(hi:EvI K wi ρ (ZI lo n))(hl:n<=1000)
 (hs:∀(x:Nat),x<n->∀c,∃ρ2,GTo K (g c) (.int (lo+(x:Int))) (J7 f ρ) ρ2/\Qt K (tee c) ρ2 (h x)):EvO K (tLC f wi g (fun _=>W4) tee) ρ (.ol ((List.range n).map h)) :=
 Wh (xs:=List.range n) (enc:=fun(i:Nat)=>PyData.int (lo+(i:Int))) hi (by simpa using hl) fun x hx c=>hs x (XF.mp hx) c
def Qt.cast {K:W.Frag}{t:TE}{ρ:Q1}{d d':PyData}(h:Qt K t ρ d)(e:d=d'):Qt K t ρ d':=e▸h
def EvO.cast {K:W.Frag}{t:TE}{ρ:Q1}{d d':OT}(h:EvO K t ρ d)(e:d=d'):EvO K t ρ d':=e▸h
def Zg.cast {K:W.Frag}{t:TT}{ρ:Q1}{d d':Bool}(h:Zg K t ρ d)(e:d=d'):Zg K t ρ d':=e▸h
def B5 (K:W.Frag):Sp:=fun vs H Q _=>∃(a:Addr) (ns:Ql),vs=[.ref a]/\KTs K H/\Scr K H a ns/\∀H',Q (.bl true) H'
def Fun.evLaw {P:Program}{w:World}{K:W.Frag}{mg:Str->Qf}{base:Heap}{x qual p:Str}{st:Stmt}{f:Addr}{fd:FuncData}{N:Qh}{k:Nat}(F:Fun K x qual st f fd)(S:Qp N [p] (Qy st))
 (Xa2:∀(cdv:Value) (A:Around) (outer:List Env) (s:Shared) (H:Hp) (E:XK) (ns:Ql),Room k (A.deeper (envOfC qual (Qy st) s.heap.objs.size f cdv))->ns.length<=63->(∀i∈ns,Builtin.Int.intBits i<=2^20) ->
  ∃t,PSs (Vo CX0 P w K mg base N qual (Qy st) f cdv A outer s H E).nox (Zi st) t/\Q2 K t (some (.scr ns)::List.replicate (N.length-1) none) { nx:=fun _=>False,rt:=fun r=>r=.fz (.bool true) }):FnOk P w K mg base CX0 (k+1) f fd [p] (B5 K):=by
 refine F.ok S (fun vs H Q E ⟨a,ns,e,_⟩=>by rw[e];rfl) fun cdv A outer s H vs Q E hr ⟨a,ns,e,kt,sc,q⟩=>?_;subst e;obtain⟨t,h1,h2⟩:=Xa2 cdv A outer s H E ns hr sc.len sc.bits;refine⟨t,h1,h2 H H H (start N [.ref a]) H _ (Q0.refl (Q4.refl _)) ⟨kt,Q4.refl _,?_,fun _=>[],fun i t' e=>?_,fun i j a h=>(nomatch h),fun i a h=>(nomatch h)⟩ ⟨fun F' σ' H' ρ' x' _ e=>False.elim e,fun F' H' v r' p x' hp ok e=>?_,fun _ _ _ _ _ _ z=>False.elim z,fun _ _ _ _ _ _ z=>False.elim z⟩⟩
 ·unfold start
  simp
 ·cases i with
  |zero =>
    simp at e
    subst e;exact⟨_,rfl,rfl,a,rfl,sc⟩
  |succ i =>
    rw[US]at e;have:=List.mem_of_getElem? e
    simp at this
 ·subst e
  obtain⟨_,r⟩:=ok
  cases r
  exact q H'
def Z2 {K:W.Frag}{ρ:Q1}:Zw K QN ρ (fzs []):=QC
def z62:(2:Int)^62=4611686018427387904:=by decide
def Lh {CX:CXT}{P:Program}{w:World}{K:W.Frag}{mg:Str->Qf}{base:Heap}{N:Qh}{q:Str}{sc:Scope}{f:Addr}{cd:Value}{A:Around}{o:List Env}{s:Shared}{H:Hp}{E:XK}:(Vo CX P w K mg base N q sc f cd A o s H E).nox.K=K:=rfl
def Ah {X:Cx}{N:Qh}{sc:Scope}{c:CIn}:(Zt X N sc c).K=X.K:=rfl
section
variable {K:W.Frag}{ρ:Q1}{ta tb te:TE}
def EvP (K:W.Frag)(t:TO)(ρ:Q1)(o:Option Int):Prop := ∀(H0 F:Hp) (σ:St) (H:Hp) (Q:Option Int->Hp->Prop),QB K H0 F ρ σ H->(∀F' H',Q0 F H F' H'->Q o H')->t σ H Q
def U7:EvP K WB ρ none:=fun H0 F σ H Q S q=>q F H (Q0.refl S.sub)
def G5 {i:Int}(h:Qt K te ρ (.int i)):EvP K (WP te) ρ (some i):=fun H0 F σ H Q S q=>h H0 F σ H _ S fun F1 H1 v x1 r1=>by cases r1;exact⟨i,rfl,q F1 H1 x1⟩
def cut {α:Type}(xs:List α)(lo hi:Option Int):List α:=(xs.drop (HT.sIx xs.length 0 lo)).take (HT.sIx xs.length xs.length hi-HT.sIx xs.length 0 lo)
theorem Qv.drop {F:Hp}:∀{xs:List V} {ds:Qd} (n:Nat),Qv F xs ds->Qv F (xs.drop n) (ds.drop n)
 |_,_,0,r=>r
 |_,_,_+1,.nil=>.nil
 |_,_,n+1,.cons _ t=>Qv.drop n t
theorem Qv.take {F:Hp}:∀{xs:List V} {ds:Qd} (n:Nat),Qv F xs ds->Qv F (xs.take n) (ds.take n)
 |_,_,0,_=>.nil
 |_,_,_+1,.nil=>.nil
 |_,_,n+1,.cons r t=>.cons r (Qv.take n t)
def Cg {F:Hp}{xs:List V}{ds:Qd}(r:Qv F xs ds)(lo hi:Option Int):Qv F (Us xs lo hi) (cut ds lo hi):=by
 unfold Us cut;rw[r.length];exact(r.drop _).take _
def B0 {tl th:TO}{ds:Qd}{lo hi:Option Int}(h:Qt K te ρ (.list ds))(h1:EvP K tl ρ lo)(h2:EvP K th ρ hi):EvO K (tSl (Jz K) te tl th) ρ (.ol (cut ds lo hi)):=fun H0 F σ H Q S q =>
 h H0 F σ H _ S fun F1 H1 v x1 r1=>h1 H0 F1 σ H1 _ (S.ext x1) fun F2 H2 x2=>h2 H0 F2 σ H2 _ (S.ext (x1.trans x2)) fun F3 H3 x3=>by
  have x:=x1.trans (x2.trans x3);obtain⟨a,xs,rfl,g1,g2,g3⟩:=Wx (K:=K) (r1.mono (x2.trans x3).ff) x.fh;refine⟨a,xs,rfl,g1,fun p hp=>?_⟩;obtain⟨z1,z2,z3⟩:=WY (K:=K) x hp (Cg g2 lo hi);exact q _ _ _ _ z1 z2 z3
def T5 {a b:Int}{m n:Nat}(h0:0<=a)(h1:a<2^m)(h2:0<=b)(h3:b<2^n)(h4:m+n<=100000):IntMulOk a b:=by
 have bl:∀{x:Int} {m:Nat},0<=x->x<2^m->Builtin.Int.intBits x<=m:=fun{x m} h0 h=>by
  unfold Builtin.Int.intBits;by_cases e:x=0
  ·subst e;simp
  ·have e1:(x==0)=false:=by simpa using e
   rw[e1];have h1:x.natAbs≠0:=by omega
   have h2:x.natAbs<2^m:=by
    have:((x.natAbs:Nat):Int)<((2^m:Nat):Int):=by
     have e2:((2^m:Nat):Int)=(2:Int)^m:=by rw[Int.natCast_pow];rfl
     rw[e2];omega
    exact Int.ofNat_lt.mp this
   have:=(Nat.log2_lt h1).mpr h2
   simp only[XZ,if_false];omega
 have ba:=bl h0 h1;have bb:=bl h2 h3
 unfold IntMulOk;have:Builtin.Int.intTooBig (Builtin.Int.intBits a+Builtin.Int.intBits b)=false:=by
  unfold Builtin.Int.intTooBig;have hb:(100000:Nat)<=bitsLine:=by decide
  exact XN (by omega)
 rw[this];simp
end
section
variable {K:W.Frag}{ρ:Q1}{ta tb te:TE}
def Uw (as:Qd):Qd:=as.zipIdx.map fun p=>PyData.tuple [.int (p.2:Int),p.1]
def Hw (as:Qd):(Uw as).length=as.length:=by simp[Uw]
def Hx {as:Qd}{i:Nat}{d:PyData}(e:(Uw as)[i]?=some d):∃a,as[i]?=some a/\d=.tuple [.int (i:Int),a]:=by
 unfold Uw at e;rw[Xq,List.getElem?_zipIdx]at e;cases z:as[i]? with
 |none=>rw[z]at e;cases e
 |some a=>rw[z]at e;simp at e;exact⟨a,rfl,e.symm⟩
def As {F H:Hp}{x:V}{ds:Qd}(r:Rep F x (.list ds)):∃a xs,x=.ref a/\F a=some (.lst xs)/\Qv F xs ds:=by
 cases r with
 |lst ha rr=>exact⟨_,_,rfl,ha,rr⟩
def Dy {t:TA}{as:Qd}(h:Zw K t ρ [.fz (.list as)]):EvI K (Nv K t) ρ (Uw as):=fun H0 F σ H R S q =>
 h H0 F σ H _ S fun F1 H1 vs x1 r1=>by
  cases r1 with
  |fz r r1 =>
    cases r1
    obtain⟨a,xs,rfl,ha,ra⟩:=As (H:=H1) r;refine⟨a,rfl,⟨xs,SqL.of (x1.fh _ _ ha)⟩,q F1 H1 _ x1 fun F2 H2 s2 s3=>?_⟩;have qa:SqL K H2 a xs:=SqL.of (s3 _ _ (s2 _ _ ha));refine⟨⟨xs,qa,by rw[Hw,ra.length]⟩,fun i d e=>?_⟩;obtain⟨d1,e1,rfl⟩:=Hx e;obtain⟨z1,f1,g1⟩:=ra.get e1;refine⟨⟨xs,z1,qa,f1⟩,fun v H3 hy=>?_⟩;obtain⟨p,x,hp,rfl,rfl,k1⟩:=hy;have ex:=k1 xs qa;rw[f1]at ex;cases ex;have sn:Q4 F2 (upd F2 p (.tup [.int (i:Int),z1])):=Q4.new (s3.free hp)
    exact⟨_,Q0.new s3 hp,.tup QD (.cons (.int _) (.cons ((g1.mono s2).mono sn) .nil))⟩
def LU {X:Cx}{ns:Ql}(h:Qt K ta ρ (.list (ns.map PyData.int)))(hc:X.calm=true)(hn:ns≠[]):Qt K (tCB (Na X) (QE ta QN)) ρ (.int (Yp ns)):=fun H0 F σ H Q S q =>
 h H0 F σ H _ S fun F1 H1 v x1 r1=>⟨hc,v,ns,rfl,r1.mono x1.fh,hn,q F1 H1 _ x1 (.int _)⟩
def MB:OT->Option PyData
 |.fz d=>some d
 |.ol ds=>some (.list ds)
 |.oll dss=>some (.list (dss.map PyData.list))
 |.scr _=>none
 |.own _ _=>none
 |.zow _=>none
def frF (F H:Hp)(p:Qg):Hp:=fun b=>if b∈p then H b else F b
def WW {F H:Hp}{p:Qg}{b:Addr}(h:b∈p):frF F H p b=H b:=by unfold frF;rw[Xd h]
def Wq {F H:Hp}{p:Qg}{b:Addr}(h:b∉p):frF F H p b=F b:=by unfold frF;rw[Xb h]
def Wu {F H:Hp}{p:Qg}(h:∀a∈p,F a=none):Q4 F (frF F H p):=fun b u e=>by
 rw[Wq fun z=>by rw[h b z]at e;cases e];exact e
def GB {F H:Hp}{p:Qg}(s:Q4 F H):Q4 (frF F H p) H:=fun b u e=>by
 by_cases z:b∈p
 ·rw[WW z]at e;exact e
 ·rw[Wq z]at e;exact s b u e
theorem RD {F F' H:Hp}(sm:Q4 F F'):∀{as:Qg} {dss:List (Qd)},ZD F H as dss->(∀a∈as,F' a=H a)->Qv F' (as.map V.ref) (dss.map PyData.list)
 |[],[],_,_=>.nil
 |a::as,ds::dss,h,he=>by
   obtain⟨⟨h1,xs,h2,h3⟩,h4⟩:=h;exact .cons (.lst (by rw[he a Xc];exact h2) (h3.mono sm)) (RD sm h4 fun b hb=>he b (Xe _ hb))
 |[],_::_,h,_=>False.elim h
 |_::_,[],h,_=>False.elim h
def Zk.frz {F H:Hp}{v:V}{t:OT}{p:Qg}{d:PyData}(ok:Zk K F H v t p)(e:MB t=some d):Rep (frF F H p) v d:=by
 have sm:Q4 F (frF F H p):=Wu fun a ha=>(ok.there a ha).1
 cases t with
 |fz d'=>cases e;exact ok.2.mono sm
 |ol ds =>
   cases e
   obtain⟨a,rfl,rfl,h1,xs,h2,h3⟩:=ok;exact .lst (by rw[WW Xc];exact h2) (h3.mono sm)
 |oll dss =>
   cases e
   obtain⟨a,as,rfl,rfl,hn,h1,h2,h3⟩:=ok;exact .lst (by rw[WW Xc];exact h2) (RD sm h3 fun b hb=>WW (Xe _ hb))
 |scr ns=>cases e
 |own v0 Φ=>cases e
 |zow Ψ=>cases e
theorem ZD.frOther {F H:Hp}{p:Qg}(sm:Q4 F (frF F H p)):∀{as:Qg} {dss:List (Qd)},(∀a∈as,a∉p)->ZD F H as dss->ZD (frF F H p) H as dss
 |[],[],_,_=>trivial
 |a::as,ds::dss,hn,h=>by
   obtain⟨⟨h1,xs,h2,h3⟩,h4⟩:=h
   exact⟨⟨by rw[Wq (hn a Xc)];exact h1,xs,h2,h3.mono sm⟩,ZD.frOther sm (fun b hb=>hn b (Xe _ hb)) h4⟩
 |[],_::_,_,h=>False.elim h
 |_::_,[],_,h=>False.elim h
def Zk.frOther {F H:Hp}{v:V}{t:OT}{p q:Qg}(sm:Q4 F (frF F H p))(ok:Zk K F H v t q)(hn:∀a∈q,a∉p):Zk K (frF F H p) H v t q:=by
 cases t with
 |fz d=>exact⟨ok.1,ok.2.mono sm⟩
 |zow Ψ=>exact⟨ok.1,Ψ.mono sm ok.2⟩
 |ol ds =>
   obtain⟨a,rfl,rfl,h1,xs,h2,h3⟩:=ok
   exact⟨a,rfl,rfl,by rw[Wq (hn a Xc)];exact h1,xs,h2,h3.mono sm⟩
 |oll dss =>
   obtain⟨a,as,rfl,rfl,hd,h1,h2,h3⟩:=ok
   exact⟨a,as,rfl,rfl,hd,by rw[Wq (hn a Xc)];exact h1,h2,h3.frOther sm fun b hb=>hn b (Xe _ hb)⟩
 |scr ns=>obtain⟨h1,a,h2,h3⟩:=ok;exact⟨h1,a,h2,h3.mono sm⟩
 |own v0 Φ=>exact⟨ok.1,Φ.mono sm (fun a ha=>by rw[Wq (hn a ha)];exact(Φ.there ok.2 a ha).1) (fun _ _=>rfl) ok.2⟩
def QB.freezeG {H0 F H:Hp}{σ:St}{i:Nat}{t:OT}{d:PyData}(s:QB K H0 F ρ σ H)(e:ρ[i]?=some (some t))(ed:MB t=some d) :
 ∃p,(∀a∈p,F a=none/\H a≠none/\H0 a=none)/\QB K H0 (frF F H p) (ρ.set i (some (.fz d))) σ H:=by
 obtain⟨kt,h1,h2,fp,h3,h4,h5⟩:=s;obtain⟨v,e1,ok⟩:=h3 i _ e;have hlt:=(Xh.mp e).1;have sm:Q4 F (frF F H (fp i)):=Wu fun a ha=>(ok.there a ha).1;refine⟨fp i,fun a ha=>⟨(ok.there a ha).1,(ok.there a ha).2,(h5 i a ha).1⟩,kt.mono sm,GB h1,by simp[h2],fun j=>if j=i then [] else fp j,fun j t' e'=>?_,fun j k b hb hc=>?_,fun j b hb=>?_⟩
 ·by_cases hj:j=i
  ·subst hj
   rw[Xo hlt]at e';cases e';refine⟨_,e1,?_,ok.frz ed⟩;dsimp only;rw[Xd rfl]
  ·rw[Xx (Ne.symm hj)]at e'
   obtain⟨u,f1,f2⟩:=h3 j t' e';refine⟨u,f1,?_⟩;dsimp only;rw[Xb hj];exact f2.frOther sm fun a ha z=>hj (h4 j i a ha z)
 ·by_cases hj:j=i
  ·simp[hj]at hb
  ·by_cases hk:k=i
   ·simp[hk]at hc
   ·simp only[Xb hj]at hb
    simp only[Xb hk]at hc;exact h4 j k b hb hc
 ·by_cases hj:j=i
  ·simp[hj]at hb
  ·simp only[Xb hj]at hb
   exact h5 j b hb
def JL {F H F' H':Hp}{p:Qg}(hp:∀a∈p,F a=none/\H a≠none)(x:Q0 (frF F H p) H F' H'):Q0 F H (fun b=>if b∈p then none else F' b) H' :=
 ⟨x.hh,fun b u hb=>by
  have nb:b∉p:=fun z=>by rw[(hp b z).1]at hb;cases hb
  simp only[Xb nb];exact x.ff b u (by rw[Wq nb];exact hb),fun b u hb=>by
  by_cases z:b∈p
  ·simp[z]at hb
  ·simp only[Xb z]at hb;exact x.fh b u hb,fun b hb=>by
  by_cases z:b∈p
  ·simp[z]at hb
  ·simp only[Xb z]at hb
   rcases x.fr b hb with y|y
   ·rw[Wq z]at y;exact .inl y
   ·exact .inr y⟩
def Cq {t:TT}(i:Nat){r:OT}{d0:PyData}{b:Bool}(e:ρ[i]?=some (some r))(ed:MB r=some d0)(h:Zg K t (ρ.set i (some (.fz d0))) b):Zg K t ρ b:=fun H0 F σ H Q S q=>by
 obtain⟨p,hp,S'⟩:=S.freezeG e ed;exact h H0 _ σ H Q S' fun F' H' x=>q _ H' (JL (fun a ha=>⟨(hp a ha).1,(hp a ha).2.1⟩) x)
def B3 (ds:Qd):Prop := ∀d∈ds,∃w,Zx d=some w
theorem Qv.flats {F F':Hp}:∀{xs:List V} {ds:Qd},B3 ds->Qv F xs ds->Qv F' xs ds
 |_,_,_,.nil=>.nil
 |_::_,d::_,h,.cons r t=>by
   obtain⟨w,e⟩:=h d Xc;refine .cons ?_ (Qv.flats (fun c hc=>h c (Xe _ hc)) t)
   cases r<;>simp[Zx]at e
   ·exact .non
   ·exact .bl _
   ·exact .int _
   ·exact .str _
end
section
variable {K:W.Frag}{ρ:Q1}{ta tb tc te ti tj:TE}{D:PEnds}
def TD {ds:Qd}{k:Int}(ha:Qt K ta ρ (.list ds))(hb:Qt K tb ρ (.int k))(h0:0<=k)(hl:ds.length*k.toNat<=1000)(hk:k<=1000000):EvO K (tOp KF ta tb) ρ (.ol (List.replicate k.toNat ds).flatten):=fun H0 F σ H Q S q =>
 YT ha hb S fun F' H' x y e r1 r2=>by
  obtain⟨a,xs,rfl,h1,h2,h3⟩:=Wx (K:=K) r1 e.fh
  cases r2
  have h63:(2:Int)^63=9223372036854775808:=by decide
  refine⟨a,k,xs,rfl,rfl,h3,by rw[h63];omega,by rw[h63];omega,by rw[h2.length];exact Y1 (Vr hl),fun p hp=>?_⟩
  have rr:∀n:Nat,Qv F' (List.replicate n xs).flatten (List.replicate n ds).flatten:=fun n=>by
   induction n with
   |zero=>exact .nil
   |succ n ih=>rw[Jq,Jq,Uf,Uf];exact h2.append ih
  obtain⟨z1,z2,z3⟩:=WY (K:=K) e hp (rr k.toNat);exact q _ _ _ _ z1 z2 z3
theorem Rs {α:Type}(d:α):∀n:Nat,(List.replicate n [d]).flatten=List.replicate n d
 |0=>rfl
 |n+1=>by rw[Jq,Uf,Rs d n];rfl
end
section
variable {es:Qi}{env:Env}
end
section
variable {X:Cx}{e:Expr}{es:Qi}{te:TE}{t:TA}{pos:Pos}
end
section
variable {X:Cx}{a:Expr}{ta:TE}
end
section
variable {K:W.Frag}{ρ:Q1}{ta tb tc td:TE}
end
section
variable {X:Cx}{a b c d:Expr}{ta tb tc td:TE}{pos:Pos}
end
section
variable {K:W.Frag}{ρ:Q1}{ta tb tc td:TE}
end
end L2
end
namespace PySem
section
variable {prog:Program}{w:World}{K:Type} [DecidableEq K] (knd:KeyKind prog w K)
def Yf (h:Heap) (xy:List K×List K) (a:Addr):Prop := ∃o n p q,h.get? a=some o/\o.cls=.type "tuple" /\ o.data=.seq #[.ref p,.ref q] n/\IsTupleKey knd h xy.1 p/\IsTupleKey knd h xy.2 q
variable {knd}
def Yf.typeIs {s:Shared} {ks:List K×List K} {a:Addr} (x:Yf knd s.heap ks a):s.TypeIs (.ref a) "tuple" := let ⟨o,_,_,_,ho,hc,_⟩:=x;⟨o,ho,hc⟩
def Yf.inj {h:Heap}{a:Addr}{x y:List K×List K}(hx:Yf knd h x a)(hy:Yf knd h y a):x=y:=by
 obtain⟨o,n,p,q,ho,_,hd,h1,h2⟩:=hx;obtain⟨o',n',p',q',ho',_,hd',h1',h2'⟩:=hy
 cases Option.some.inj (ho.symm.trans ho')
 rw[hd]at hd';injection hd' with z _;have z1:=X5 Array.toList z
 simp at z1
 obtain⟨rfl,rfl⟩:=z1;exact Prod.ext (h1.inj h1') (h2.inj h2')
def Yf.keeps {h h':Heap}{ks:List K×List K}{a d:Addr}{o:Obj}{es ep}(x:Yf knd h ks a)(ho:h.get? d=some o)(hd:o.data=.dict es ep)(hs:Heap.SameBut d h h'):Yf knd h' ks a:=by
 obtain⟨o',n,p,q,ho',hc,hd',h1,h2⟩:=x
 have hne:a≠d:=fun z=>by
  subst z;cases Option.some.inj (ho'.symm.trans ho);rw[hd]at hd';exact nomatch hd'
 exact⟨o',n,p,q,(hs.2 a hne).trans ho',hc,hd',h1.keeps ho hd hs,h2.keeps ho hd hs⟩
def Ha (knd:KeyKind prog w K)(ks:List K×List K):Int:=reduceHash (Builtin.Tuple.tupleHashOf [tupleKeyHash knd ks.1,tupleKeyHash knd ks.2])
variable {A:Around}{E:Qb}{s:Shared}
def Oe {ks:List K×List K}{a:Addr}{Q:Int->Shared->Prop}(hu:A.units+5<cLine)(hk:Yf knd s.heap ks a)(h:Q (Ha knd ks) { s with toks:=s.toks+(ks.1.length+ks.2.length+3) }) :
 wpAny (model prog w) A (pyHash (.ref a)) Q E s:=by
 have hT:=hk.typeIs;obtain⟨o,n,p,q,ho,_,hd,h1,h2⟩:=hk;unfold pyHash pyHashByItsType;refine Xa (wpAny_cRoomFor_or (.inr (by omega)) ?_);refine Xa (wpAny_specialOf hT F.slot_tuple_hash.lookup ?_);show wpAny _ _ (if (some (Value.builtin "tuple.__hash__")==some Value.none)=true then _ else _) Q E s;rw[Xb (by rw[beq_builtin_none];exact Xv)];refine Xa (wpAny_specialOf hT F.slot_tuple_hash.lookup ?_);show wpAny _ _ (callSpecialIfBoundUnlessNone? (.ref a) "__hash__" _ >>= _) Q E s;refine Xa (wpAny_callSpecialIfBoundUnlessNone?_slot hT F.slot_tuple_hash (wpAny_call_entry F.slot_tuple_hash hT F.entry_tuple_hash ?_ (F.args_tuple_hash_1 _)));show wpAny _ _ (Builtin.Tuple.tupleItemsOf (.ref a) >>= _) _ _ s;refine Xa (wpAny_tupleItemsOf ho hd ?_);refine Xa ?_
 rw[<- Array.forIn_toList];refine wpAny_forIn_list _
  (fun rest (b:Array Int) s'=>(rest=[.ref p,.ref q]/\b.toList=[]/\s'=s)\/(rest=[.ref q]/\b.toList=[tupleKeyHash knd ks.1]/\s'={ s with toks:=s.toks+(ks.1.length+1) }) \/
   (rest=[]/\b.toList=[tupleKeyHash knd ks.1,tupleKeyHash knd ks.2]/\s'={ s with toks:=s.toks+(ks.1.length+1)+(ks.2.length+1) }))
  _ ?_ ?_ _ _ (.inl ⟨rfl,rfl,rfl⟩)
 ·rintro x rest b s' (⟨hr,hb,rfl⟩|⟨hr,hb,rfl⟩|⟨hr,_⟩)
  ·injection hr with e1 e2
   subst e1 e2;refine Xa (wpAny_pyHash_tuple ?hu1 h1 ?_)
   case hu1=>show A.units+1<cLine;omega
   exact Xn (.inr (.inl ⟨rfl,by simp[hb],rfl⟩))
  ·injection hr with e1 e2
   subst e1 e2;refine Xa (wpAny_pyHash_tuple ?hu2 h2 ?_)
   case hu2=>show A.units+1<cLine;omega
   exact Xn (.inr (.inr ⟨rfl,by simp[hb],rfl⟩))
  ·cases hr
 ·rintro b s' (⟨hr,_⟩|⟨hr,_⟩|⟨_,hb,rfl⟩)
  ·cases hr
  ·cases hr
  show wpAny _ _ (retInt (Builtin.Tuple.tupleHashOf b.toList)) _ _ _;rw[hb];refine wpAny_ret_mkInt ?_;show wpAny _ _ (if (decide (-(2:Int)^63<=Builtin.Tuple.tupleHashOf [tupleKeyHash knd ks.1,tupleKeyHash knd ks.2])&&decide (Builtin.Tuple.tupleHashOf [tupleKeyHash knd ks.1,tupleKeyHash knd ks.2]<2^63))=true then _ else _) Q E _;unfold Ha reduceHash at h;have et:s.toks+(ks.1.length+ks.2.length+3)=s.toks+(ks.1.length+1)+(ks.2.length+1)+1:=by omega
  rw[et]at h;split
  ·rename_i hr
   rw[Xd hr]at h;exact Xn h
  ·rename_i hr
   rw[Xb hr]at h;exact Xa (wpAny_rule (Xn h))
def Ii {x y:List K×List K}{a b:Addr}{P:Fin->Shared->Prop}(hu:A.units+1<cLine)(hx:Yf knd s.heap x a)(hy:Yf knd s.heap y b)(h:P (.done (.ret (.bool (decide (x=y))))) s) :
 wpAny (model prog w) A (Builtin.«tuple.__eq__» ⟨[.ref a,.ref b],[]⟩) P E s:=by
 have hTb:=hy.typeIs;obtain⟨oa,na,p,q,hoa,_,hda,ha1,ha2⟩:=hx;obtain⟨ob,nb,p',q',hob,_,hdb,hb1,hb2⟩:=hy;show wpAny _ _ (isInstance (.ref b) (.type "tuple") >>= _) _ _ s;refine Xa (wpAny_isInstance hTb isSubtype_tuple_tuple ?_);simp only[Uk,XZ,if_false];refine Xa (wpAny_tupleItemsOf hoa hda ?_);refine Xa (wpAny_tupleItemsOf hob hdb ?_);refine Xa ?_
 have e2:decide (x=y)=(decide (x.1=y.1)&&decide (x.2=y.2)):=by
  obtain⟨x1,x2⟩:=x;obtain⟨y1,y2⟩:=y
  simp
 refine wpAny_forIn_list _
  (fun rest r s'=>r.1=none/\s'=s/\((rest=[(.ref p,.ref p'),(.ref q,.ref q')])\/(rest=[(.ref q,.ref q')]/\x.1=y.1)\/(rest=[]/\x=y)))
  _ ?_ ?_ _ _ ⟨rfl,rfl,.inl rfl⟩
 ·rintro⟨u,v⟩ rest r s' ⟨hr,rfl,(hz|⟨hz,e1⟩|⟨hz,_⟩)⟩
  ·injection hz with z1 z2
   injection z1 with z3 z4;subst z2 z3 z4;refine Xa (wpAny_eqBool_tuple (by omega) ha1 hb1 ?_)
   by_cases hk:x.1=y.1
   ·rw[XW hk]
    simp only[Uk,XZ,if_false];exact Xn ⟨rfl,rfl,.inr (.inl ⟨trivial,hk⟩)⟩
   ·rw[XN hk]
    simp only[Bool.not_false,if_true];rw[e2,XN hk,Bool.false_and]at h;exact Xa (Xn (Xn (Xn h)))
  ·injection hz with z1 z2
   injection z1 with z3 z4;subst z2 z3 z4;refine Xa (wpAny_eqBool_tuple (by omega) ha2 hb2 ?_)
   by_cases hk:x.2=y.2
   ·rw[XW hk]
    simp only[Uk,XZ,if_false];exact Xn ⟨rfl,rfl,.inr (.inr ⟨trivial,Prod.ext e1 hk⟩)⟩
   ·rw[XN hk]
    simp only[Bool.not_false,if_true];rw[e2,XN hk,Bool.and_false]at h;exact Xa (Xn (Xn (Xn h)))
  ·cases hz
 ·rintro⟨r1,r2⟩ s' ⟨hr,rfl,(hz|⟨hz,_⟩|⟨_,e⟩)⟩
  ·cases hz
  ·cases hz
  simp only at hr
  subst hr;refine Xn ?_;rw[XW e]at h;exact h
def Od {x y:List K×List K}{a b:Addr}{Q:Bool->Shared->Prop}(hu:A.units+5<cLine)(hx:Yf knd s.heap x a)(hy:Yf knd s.heap y b)(h:Q (decide (x=y)) s) :
 wpAny (model prog w) A (eqBool (.ref a) (.ref b)) Q E s:=by
 unfold eqBool;try with_reducible refine wpAny_holding ?_;show wpAny _ _ (if (Value.ref a==Value.ref b)=true then _ else _) Q E s
 by_cases hab:(Value.ref a==Value.ref b)=true
 ·rw[Xd hab]
  have e:a=b:=by have:=eq_of_beq hab;injection this
  subst e;cases hx.inj hy;exact Xa (wpAny_rule (Xn (by simpa using h)))
 ·rw[Xb hab]
  exact Xa (wpAny_richCompare_same_room (op:=.Eq) hx.typeIs hy.typeIs F.slot_tuple_eq
   (wpAny_call_entry F.slot_tuple_eq hx.typeIs F.entry_tuple_eq (Ii (by show _+1<cLine;simp;omega) hx hy ⟨_,rfl,(fun e=>nomatch e),wpAny_truthy_bool h⟩) (F.args_tuple_eq_2 _ _)) (by omega))
def ER (n:Nat){ks:List K}{a:Addr}{Q:Bool->Shared->Prop}(hk:IsTupleKey knd s.heap ks a)(h:Q true s):wpAny (model prog w) A (eqIsQuiet (n+1) (.ref a)) Q E s:=by
 have hT:=hk.typeIs;obtain⟨o,items,m,ho,_,hd,hi⟩:=hk;unfold eqIsQuiet;refine Xa (wpAny_specialOf hT F.slot_tuple_eq.lookup ?_);show wpAny _ _ (isInstance (.ref a) (.type "tuple") >>= _) _ _ s;refine Xa (wpAny_isInstance hT isSubtype_tuple_tuple ?_);simp only[Uk,XZ,if_false];refine Xa (wpAny_seqItems ho hd ?_);refine Xa ?_;show wpAny _ _ (forIn items _ _) _ _ s;rw[<- Array.forIn_toList];refine wpAny_forIn_list _ (fun rest r s'=>r.1=none/\s'=s/\∀v∈rest,carriedByValue v=true) _ ?_ ?_ _ _ ⟨rfl,rfl,hi.byValue⟩
 ·rintro v rest r s' ⟨hr,rfl,hall⟩
  rw[eqIsQuiet_byValue _ (hall v Xc)];refine Xa (Xn ?_);simp only[Uk,XZ,if_false];exact Xn ⟨rfl,rfl,fun u hu'=>hall u (Xe _ hu')⟩
 ·rintro⟨r1,r2⟩ s' ⟨hr,rfl,_⟩
  simp only at hr
  subst hr;exact Xn h
def Oh {ks:List K×List K}{a:Addr}{Q:Bool->Shared->Prop}(hk:Yf knd s.heap ks a)(h:Q true s):wpAny (model prog w) A (eqIsQuiet 8 (.ref a)) Q E s:=by
 have hT:=hk.typeIs;obtain⟨o,n,p,q,ho,_,hd,h1,h2⟩:=hk;unfold eqIsQuiet;refine Xa (wpAny_specialOf hT F.slot_tuple_eq.lookup ?_);show wpAny _ _ (isInstance (.ref a) (.type "tuple") >>= _) _ _ s;refine Xa (wpAny_isInstance hT isSubtype_tuple_tuple ?_);simp only[Uk,XZ,if_false];refine Xa (wpAny_seqItems ho hd ?_);refine Xa ?_;show wpAny _ _ (forIn #[Value.ref p,Value.ref q] _ _) _ _ s;rw[<- Array.forIn_toList];refine wpAny_forIn_list _ (fun rest r s'=>r.1=none/\s'=s/\∀v∈rest,∃z zs,v=.ref z/\IsTupleKey knd s.heap zs z) _ ?_ ?_ _ _ ⟨rfl,rfl,fun v hv=>?_⟩
 ·rintro v rest r s' ⟨hr,rfl,hall⟩
  obtain⟨z,zs,rfl,hz⟩:=hall v Xc;refine Xa (ER 6 hz ?_);simp only[Uk,XZ,if_false];exact Xn ⟨rfl,rfl,fun u hu'=>hall u (Xe _ hu')⟩
 ·rintro⟨r1,r2⟩ s' ⟨hr,rfl,_⟩
  simp only at hr
  subst hr;exact Xn h
 ·rcases Xg.mp hv with rfl|hv
  ·exact⟨p,_,rfl,h1⟩
  ·rcases Xg.mp hv with rfl|hv
   ·exact⟨q,_,rfl,h2⟩
   ·cases hv
end
def DO {prog:Program}{w:World}{K:Type} [DecidableEq K] (knd:KeyKind prog w K):HeapKind prog w (List K×List K) where
 is:=Yf knd
 hash:=Ha knd
 draws:=fun ks=>ks.1.length+ks.2.length+3
 room:=fun A=>A.units+5<cLine
 inj:=fun hx hy=>hx.inj hy
 keeps:=fun x ho hd hs=>x.keeps ho hd hs
 pyHash:=fun hu hk h=>Oe hu hk h
 eqBool:=fun hu hx hy h=>Od hu hx hy h
 quiet:=fun hk h=>Oh hk h
section
variable {prog:Program}{w:World}{K:Type} [DecidableEq K] {knd:HeapKind prog w K}{A:Around}{E:Qb}{s:Shared}
def On {d a:Addr}{xs:List (K×Addr×Value)}{k:K}{dflt:Value}{Q:Qb}(hu:knd.room A)(hkey:knd.is s.heap k a)(hm:s.heap.DictOfH knd d xs)
 (hthere:∀p,atKey xs k=some p->Q p.2 { s with toks:=s.toks+knd.draws k })
 (hnew:atKey xs k=none->∀h',h'.DictOfH knd d (xs++[(k,a,dflt)])->Heap.SameBut d s.heap h'->Q dflt { s with heap:=h',toks:=s.toks+knd.draws k })
 (hsz:xs.length<=sizeLine) :
 wpAny (model prog w) A (dictSetDefault d (.ref a) dflt) Q E s:=by
 obtain⟨o,es,ep,ho,hc,hd,he,his,hn⟩:=hm;unfold dictSetDefault;try with_reducible refine wpAny_holding ?_;refine Xa (knd.pyHash hu hkey ?_);refine Xa (wpAny_dictFind_heap (s:={ s with toks:=s.toks+knd.draws k }) hu hkey ho hd he his hn ?_ ?_)
 ·intro hno
  have hnot:k∉xs.map (·.1):=not_mem_keys_of_get hno
  refine Xa (wpAny_rule (Xa (wpAny_updateDictKeys (hz:=by have e:=size_of_entries he;omega) (s:={ s with toks:=s.toks+knd.draws k }) ho hd (Xn (hnew (atKey_none_of_get hno) _ ⟨_,_,ep+1,WJ _ ho (Obj.isFreed_of_dict (Obj.data_mapDictKeys hd _)),
   hc.mapDictKeys _,Obj.data_mapDictKeys hd _,?_,?_,?_⟩ (Heap.SameBut.update ..))))))
  ·simp[he,entryOfKey]
  ·intro x hx
   rcases XG.mp hx with hx|hx
   ·exact knd.keeps (his x hx) ho hd (Heap.SameBut.update ..)
   ·simp only[Xi]at hx
    subst hx;exact knd.keeps hkey ho hd (Heap.SameBut.update ..)
  ·rw[Xr,List.nodup_append]
   refine⟨hn,by simp,?_⟩;intro x hx y hy;simp only[Xs,UU,Xi]at hy;subst hy;exact fun e=>hnot (e▸hx)
 ·intro j p hj
  refine Xa (wpAny_dictEntries (s:={ s with toks:=s.toks+knd.draws k }) ho hd ?_);rw[entry_at he j,hj];exact Xa (wpAny_rule (Xn (hthere _ (atKey_of_get hn hj))))
def Om (knd:HeapKind prog w K)(d a:Addr)(hd:(d==sysModules)=false)(dflt:Value) :
 MeetsIn prog w (Builtin.«dict.setdefault» ⟨[.ref d,.ref a,dflt],[]⟩) (fun A R s=>knd.room A.in1/\∃k xs,knd.is s.heap k a/\s.heap.DictOfH knd d xs/\xs.length<=sizeLine /\
  (∀p,atKey xs k=some p->R (.ok (.ret p.2)) { s with toks:=s.toks+knd.draws k }) /\
  (atKey xs k=none->∀h',h'.DictOfH knd d (xs++[(k,a,dflt)])->Heap.SameBut d s.heap h'->R (.ok (.ret dflt)) { s with heap:=h',toks:=s.toks+knd.draws k })) :=
 .of_wp fun A R s ⟨hu,k,xs,hkey,hm,hz,h1,h2⟩=>by
  unfold Builtin.«dict.setdefault»;refine Xa ?_;unfold Builtin.Dict.keyAndDefault;refine Xa (wpAny_notOrdered_dict hm.typeIs ?_);show wpAny _ _ (pure (d,Value.ref a,some dflt)) _ _ s;refine Xn ?_;show wpAny _ _ (if (d==sysModules)=true then _ else (dictSetDefault d (.ref a) dflt >>= _)) _ _ s;rw[Xb (by rw[hd];exact Xv)];exact Xa (On hu hkey hm (fun p hp=>Xn ⟨p.2,rfl,h1 p hp⟩) (fun hn h' hm' hs'=>Xn ⟨dflt,rfl,h2 hn h' hm' hs'⟩) hz)
end
end PySem
namespace L2
open PySem PySem.Spec PyProof.Rows
section
variable {κ:Type} [DecidableEq κ]
def Zs (kvs:List (κ×V))(k:κ):Option V:=(kvs.find? fun kv=>decide (kv.1=k)).map (·.2)
def VP (kvs:List (κ×V))(k:κ)(v:V):List (κ×V) :=
 if (kvs.any fun kv=>decide (kv.1=k))=true then kvs.map (fun kv=>if kv.1=k then (kv.1,v) else kv) else kvs++[(k,v)]
def YF {p:κ×V}{r:List (κ×V)}{k:κ}(e:p.1=k):Zs (p::r) k=some p.2:=by simp[Zs,XB,e]
def YG {p:κ×V}{r:List (κ×V)}{k:κ}(e:¬p.1=k):Zs (p::r) k=Zs r k:=by simp[Zs,XB,e]
theorem Sl (k:κ):∀kvs:List (κ×V),(kvs.any fun kv=>decide (kv.1=k))=(Zs kvs k).isSome
 |[]=>rfl
 |p::r=>by
   rw[List.any_cons];by_cases e:p.1=k
   ·simp only[YF e,XW e,Bool.true_or,Option.isSome_some]
   ·rw[YG e,XN e,Bool.false_or];exact Sl k r
theorem S5 (k j:κ)(y:V):∀kvs:List (κ×V),Zs kvs k=none->Zs (kvs++[(k,y)]) j=if j=k then some y else Zs kvs j
 |[],_=>by
   by_cases e:k=j
   ·rw[Xd e.symm];exact YF (p:=(k,y)) e
   ·rw[Xb (fun z=>e z.symm)];exact YG (p:=(k,y)) e
 |p::r,hn=>by
   rw[WH];have hk:¬p.1=k:=fun z=>by rw[YF z]at hn;cases hn
   rw[YG hk]at hn;have ih:=S5 k j y r hn
   by_cases e:p.1=j
   ·rw[YF e,YF e,Xb (fun z=>hk (e.trans z))]
   ·rw[YG e,YG e,ih]
def Po (kvs:List (κ×V))(k:κ)(v:V):(VP kvs k v).length<=kvs.length+1:=by
 unfold VP;split
 ·rw[Xk];omega
 ·rw[Xm,XJ,List.length_nil];omega
def ZM.isSome_eq {o:Option V}{u:Qf}(r:ZM o u):o.isSome=u.isSome:=by
 cases o with
 |none=>cases u with
   |none=>rfl
   |some _=>exact(show False from r).elim
 |some _=>cases u with
   |none=>exact(show False from r).elim
   |some _=>rfl
def ZM.getD {o:Option V}{u:Qf}{d:V}{d':Value}(r:ZM o u)(rd:QL d d'):QL (o.getD d) (u.getD d'):=by
 cases o with
 |none=>cases u with
   |none=>exact rd
   |some _=>exact(show False from r).elim
 |some _=>cases u with
   |none=>exact(show False from r).elim
   |some _=>exact r
def KV.val {kvs:List (κ×V)}{vs:List (κ×Value)}(r:KV kvs vs)(k:κ):ZM (Zs kvs k) (valueAt vs k):=by
 unfold KV at r;induction r with
 |nil=>exact True.intro
 |@cons p q ps qs h t ih =>
   obtain⟨h1,h2⟩:=h
   by_cases e:p.1=k
   ·have e':q.1=k:=h1.symm.trans e
    have b:valueAt (q::qs) k=some q.2:=by simp[valueAt,XB,e']
    rw[YF e,b];exact h2
   ·have e':¬q.1=k:=fun z=>e (h1.trans z)
    have b:valueAt (q::qs) k=valueAt qs k:=by simp[valueAt,XB,e']
    rw[YG e,b];exact ih
def KV.any {kvs:List (κ×V)}{vs:List (κ×Value)}(r:KV kvs vs)(k:κ):(kvs.any fun kv=>decide (kv.1=k))=vs.any fun kv=>decide (kv.1=k):=by
 unfold KV at r;induction r with
 |nil=>rfl
 |cons h t ih=>rw[List.any_cons,List.any_cons,ih,h.1]
def KV.repl {kvs:List (κ×V)}{vs:List (κ×Value)}(r:KV kvs vs)(k:κ){y:V}{u:Value}(ry:QL y u) :
 KV (kvs.map fun kv=>if kv.1=k then (kv.1,y) else kv) (vs.map fun kv=>if kv.1=k then (kv.1,u) else kv):=by
 unfold KV at r ⊢;induction r with
 |nil=>exact .nil
 |@cons p q ps qs h t ih =>
   rw[Xs,Xs];refine .cons ?_ ih;obtain⟨h1,h2⟩:=h
   by_cases e:p.1=k
   ·rw[Xd e,Xd (h1.symm.trans e)];exact⟨h1,ry⟩
   ·rw[Xb e,Xb (fun z=>e (h1.trans z))];exact⟨h1,h2⟩
def KV.put {kvs:List (κ×V)}{vs:List (κ×Value)}(r:KV kvs vs)(k:κ){y:V}{u:Value}(ry:QL y u):KV (VP kvs k y) (stored vs k u):=by
 unfold VP stored;rw[r.any k];by_cases e:(vs.any fun kv=>decide (kv.1=k))=true
 ·rw[Xd e,Xd e];exact r.repl k ry
 ·rw[Xb e,Xb e];exact Paired.snoc r ⟨rfl,ry⟩
def KV.length {kvs:List (κ×V)}{vs:List (κ×Value)}(r:KV kvs vs):kvs.length=vs.length:=Paired.length r
end
def Uz {P:Program}{w:World}{k:Key}{u:Value}(r:QL (kV k) u):(Vq P w).is k u=true:=by
 cases k with
 |inl i=>obtain⟨t,e⟩:=(show ∃t,u=Value.int i t from r);subst e;exact EW P w i t
 |inr x=>obtain⟨t,e⟩:=(show ∃t,u=Value.str x t from r);subst e;exact Ij P w x t
theorem ST {P:Program}{w:World}:∀{ks:List Key} {us:Qe},QK (ks.map kV) us->ItemsAre (Vq P w) ks us
 |[],_,r=>by rw[UU]at r;cases r;exact .nil
 |k::ks,_,r=>by
   rw[Xs]at r;cases r with
   |cons h t=>exact .cons (Uz h) (ST t)
abbrev KT (H:Hp):List (List Key×V)->List (List Key×Addr×Value)->Prop:=Paired fun p q=>p.1=q.1/\H q.2.1=some (.tup (p.1.map kV))/\QL p.2 q.2.2
def KT.val {H:Hp}{kvs:List (List Key×V)}{xs:List (List Key×Addr×Value)}(r:KT H kvs xs)(k:List Key):ZM (Zs kvs k) ((atKey xs k).map (·.2)):=by
 induction r with
 |nil=>exact True.intro
 |@cons p q ps qs h t ih =>
   obtain⟨h1,_,h2⟩:=h
   by_cases e:p.1=k
   ·have e':q.1=k:=h1.symm.trans e
    have b:atKey (q::qs) k=some q.2:=by simp[atKey,XB,e']
    rw[YF e,b];exact h2
   ·have e':¬q.1=k:=fun z=>e (h1.trans z)
    have b:atKey (q::qs) k=atKey qs k:=by simp[atKey,XB,e']
    rw[YG e,b];exact ih
def KT.repl {H:Hp}{kvs:List (List Key×V)}{xs:List (List Key×Addr×Value)}(r:KT H kvs xs)(k:List Key){y:V}{u:Value}(ry:QL y u) :
 KT H (kvs.map fun kv=>if kv.1=k then (kv.1,y) else kv) (xs.map (putAt k u)):=by
 induction r with
 |nil=>exact .nil
 |@cons p q ps qs h t ih =>
   rw[Xs,Xs];refine .cons ?_ ih;obtain⟨h1,h2,h3⟩:=h;unfold putAt;by_cases e:p.1=k
   ·rw[Xd e,Xd (h1.symm.trans e)];exact⟨h1,h2,ry⟩
   ·rw[Xb e,Xb (fun z=>e (h1.trans z))];exact⟨h1,h2,h3⟩
def KT.put {H:Hp}{kvs:List (List Key×V)}{xs:List (List Key×Addr×Value)}(r:KT H kvs xs)(k:List Key){b:Addr}{y:V}{u:Value}(hb:H b=some (.tup (k.map kV)))(ry:QL y u) :
 KT H (VP kvs k y) (storedH xs k b u):=by
 have e:(kvs.any fun kv=>decide (kv.1=k))=(atKey xs k).isSome:=by
  rw[Sl,(r.val k).isSome_eq,UW]
 unfold VP storedH;rw[e];by_cases q:(atKey xs k).isSome=true
 ·rw[Xd q,Xd q];exact r.repl k ry
 ·rw[Xb q,Xb q];exact Paired.snoc r ⟨rfl,hb,ry⟩
def KT.keeps {H H':Hp}{kvs:List (List Key×V)}{xs:List (List Key×Addr×Value)}(r:KT H kvs xs)(ht:∀b ys,H b=some (.tup ys)->H' b=some (.tup ys)):KT H' kvs xs :=
 Paired.mapP r fun _ _ z=>⟨z.1,ht _ _ z.2.1,z.2.2⟩
section
variable {P:Program}{w:World}{H:Hp}{h:Heap}{a:Addr}
def KU {u:HO}(ok:HOk P w H h)(e:Rd H a u):Z7 P w H h a u:=e.ok ok
def J8 {kvs:List (Key×V)}(ok:HOk P w H h)(e:Rd H a (.dK kvs)):kvs.length<=sizeLine/\(a==sysModules)=false/\∃vs,KV kvs vs/\h.DictOf (Vq P w) a vs :=
 show Z7 P w H h a (.dK kvs) from KU ok e
def T7 {kvs:List (Key×V)}(ok:HOk P w H h)(e:H a=some (.dK kvs)):kvs.length<=sizeLine/\(a==sysModules)=false/\∃vs,KV kvs vs/\h.DictOf (Vq P w) a vs:=J8 ok (.inl e)
def Wl {ks:List Key}(ok:HOk P w H h)(e:H a=some (.tup (ks.map kV))):(tupleKind (Vq P w)).is h ks a:=by
 obtain⟨_,its,r,o,h1,h2,n,h3⟩:=(show Z7 P w H h a (.tup (ks.map kV)) from ok a _ e)
 exact⟨o,its.toArray,n,h1,h2,h3,by simpa using ST r⟩
def J4 {kvs:List (List Key×V)}(ok:HOk P w H h)(e:Rd H a (.dT kvs)):kvs.length<=sizeLine/\(a==sysModules)=false /\
 ∃xs,KT H kvs xs/\h.DictOfH (tupleKind (Vq P w)) a xs:=by
 obtain⟨z,y,xs,r,o,es,ep,h1,h2,h3,h4,h5⟩:=(show Z7 P w H h a (.dT kvs) from KU ok e);refine⟨z,y,xs,r,o,es,ep,h1,h2,h3,h4,fun x hx=>?_,h5⟩
 have all:∀{l:List (List Key×V)} {m:List (List Key×Addr×Value)},KT H l m->∀x∈m,(tupleKind (Vq P w)).is h x.1 x.2.1:=by
  intro l m q;induction q with
  |nil=>intro x hx;exact nomatch hx
  |@cons p q ps qs hq t ih =>
    intro x hx;rcases Xg.mp hx with e|hx
    ·subst e
     exact Wl ok (by rw[<- hq.1];exact hq.2.1)
    ·exact ih x hx
 exact all r x hx
def MM {kvs:List (List Key×V)}(ok:HOk P w H h)(e:H a=some (.dT kvs)):kvs.length<=sizeLine/\(a==sysModules)=false /\
 ∃xs,KT H kvs xs/\h.DictOfH (tupleKind (Vq P w)) a xs:=J4 ok (.inl e)
end
def V1 (H:Hp)(a:Addr)(y:V)(r:Option V):Prop :=
 (∃kvs k,Rd H a (.dK kvs)/\y=kV k/\r=Zs kvs k)\/∃kvs k b,Rd H a (.dT kvs)/\y=.ref b/\H b=some (.tup (k.map kV))/\r=Zs kvs k
def WO (H:Hp)(a:Addr)(y v:V)(H':Hp):Prop :=
 (∃kvs k,H a=some (.dK kvs)/\y=kV k/\kvs.length<sizeLine/\H'=upd H a (.dK (VP kvs k v))) \/
 ∃kvs k b,H a=some (.dT kvs)/\y=.ref b/\H b=some (.tup (k.map kV))/\kvs.length<sizeLine/\H'=upd H a (.dT (VP kvs k v))
def V1.k {H:Hp}{a:Addr}{kvs:List (Key×V)}{k:Key}(e:H a=some (.dK kvs)):V1 H a (kV k) (Zs kvs k):=.inl ⟨kvs,k,.inl e,rfl,rfl⟩
def V1.t {H:Hp}{a b:Addr}{kvs:List (List Key×V)}{k:List Key}(e:H a=some (.dT kvs))(eb:H b=some (.tup (k.map kV))):V1 H a (.ref b) (Zs kvs k):=.inr ⟨kvs,k,b,.inl e,rfl,eb,rfl⟩
def WO.k {H:Hp}{a:Addr}{kvs:List (Key×V)}{k:Key}{v:V}(e:H a=some (.dK kvs))(hl:kvs.length<sizeLine):WO H a (kV k) v (upd H a (.dK (VP kvs k v))):=.inl ⟨kvs,k,e,rfl,hl,rfl⟩
def WO.t {H:Hp}{a b:Addr}{kvs:List (List Key×V)}{k:List Key}{v:V}(e:H a=some (.dT kvs))(eb:H b=some (.tup (k.map kV)))(hl:kvs.length<sizeLine) :
 WO H a (.ref b) v (upd H a (.dT (VP kvs k v))):=.inr ⟨kvs,k,b,e,rfl,eb,hl,rfl⟩
section
variable {X:Cx}{Xa1:Qc}{σ:St}{H:Hp}{s:Shared}{a:Addr}{y v:V}{u r:Value}{o:Option V}{A:Around}{E:Qb}
def Qr.big (I:Qr X Xa1 σ H s):sysModules<s.heap.objs.size:=by
 have h:mainGlobals<s.heap.objs.size:=(I.mod.glob.keeps I.bk).lt;exact Nat.lt_trans (by decide) h
def A5 {Q:Qb}(hu:A.units+1<cLine)(I:Qr X Xa1 σ H s)(g:V1 H a y (some v))(ry:QL y u)(h:∀w' s',Qr X Xa1 σ H s'->QL v w'->Q w' s') :
 wpAny (model X.prog X.w) A (getItem (.ref a) u) Q E s:=by
 rcases g with ⟨kvs,k,e,ey,l⟩|⟨kvs,k,b,e,ey,eb,l⟩
 ·subst ey
  obtain⟨z,hd,vs,rel,dd⟩:=J8 I.hok e;obtain⟨w',hw,rw'⟩:=ZM.some_of (v:=v) (o:=valueAt vs k) (by rw[l];exact rel.val k);exact wpAny_getItem_of (Uz ry) dd.mapOf hw (h w' _ (I.tok _) rw')
 ·subst ey
  cases (show u=Value.ref b from ry)
  obtain⟨z,hd,xs,rel,dd⟩:=J4 I.hok e;obtain⟨w',hw,rw'⟩:=ZM.some_of (v:=v) (o:=(atKey xs k).map (·.2)) (by rw[l];exact rel.val k);obtain⟨p,hp,hp2⟩:=Option.map_eq_some_iff.mp hw;refine wpAny_getItem_heap (tupleKind_room_in1 hu) (Wl I.hok eb) dd hp ?_;rw[hp2];exact h w' _ (I.tok _) rw'
def PV {Q:Qb}(hu:A.units+1<cLine)(I:Qr X Xa1 σ H s)(g:V1 H a y o)(ry:QL y u)(h:∀s',Qr X Xa1 σ H s'->Q (.bool o.isSome) s') :
 wpAny (model X.prog X.w) A (compareOp .In u (.ref a)) Q E s:=by
 rcases g with ⟨kvs,k,e,ey,l⟩|⟨kvs,k,b,e,ey,eb,l⟩
 ·subst ey
  obtain⟨z,hd,vs,rel,dd⟩:=J8 I.hok e;refine wpAny_in_of (Uz ry) hd dd.mapOf ?_;rw[<- (rel.val k).isSome_eq,<- l];exact h _ (I.tok _)
 ·subst ey
  cases (show u=Value.ref b from ry)
  obtain⟨z,hd,xs,rel,dd⟩:=J4 I.hok e;refine wpAny_in_heap (tupleKind_room_in1 hu) (Wl I.hok eb) hd dd ?_;have q:=(rel.val k).isSome_eq;rw[UW]at q;rw[<- q,<- l];exact h _ (I.tok _)
def F8 {Q:Qb}(hu:A.units+1<cLine)(I:Qr X Xa1 σ H s)(g:V1 H a y o)(ry:QL y u)(h:∀s',Qr X Xa1 σ H s'->Q (.bool (!o.isSome)) s') :
 wpAny (model X.prog X.w) A (compareOp .NotIn u (.ref a)) Q E s:=by
 rcases g with ⟨kvs,k,e,ey,l⟩|⟨kvs,k,b,e,ey,eb,l⟩
 ·subst ey
  obtain⟨z,hd,vs,rel,dd⟩:=J8 I.hok e;refine wpAny_notIn_of (Uz ry) hd dd.mapOf ?_;rw[<- (rel.val k).isSome_eq,<- l];exact h _ (I.tok _)
 ·subst ey
  cases (show u=Value.ref b from ry)
  obtain⟨z,hd,xs,rel,dd⟩:=J4 I.hok e;refine wpAny_notIn_heap (tupleKind_room_in1 hu) (Wl I.hok eb) hd dd ?_;have q:=(rel.val k).isSome_eq;rw[UW]at q;rw[<- q,<- l];exact h _ (I.tok _)
def GE {h':Heap}{t':Nat}{ob:HO}(I:Qr X Xa1 σ H s)(mu:Mut (H a))(hs:Heap.SameBut a s.heap h')(he:∃q,h'.get? a=some q)(new:Z7 X.prog X.w (upd H a ob) h' a ob) :
 Qr X Xa1 σ (upd H a ob) { s with heap:=h',toks:=t' } :=
 I.write (x:=a) (e:=a) mu (.inl rfl) (fun b q hb z=>(hs.2 b hb).trans z) he new
def Tg {P:Program}{w:World}{H':Hp}{h':Heap}{kvs:List (Key×V)}{vs:List (Key×Value)}(z:kvs.length<=sizeLine)(hd:(a==sysModules)=false)(rel:KV kvs vs)(dd:h'.DictOf (Vq P w) a vs) :
 Z7 P w H' h' a (.dK kvs):=⟨z,hd,vs,rel,dd⟩
def AH {H':Hp}{Q:Unit->Shared->Prop}(hu:A.units+1<cLine)(I:Qr X Xa1 σ H s)(g:WO H a y v H')(ry:QL y u)(rv:QL v r)(h:∀s',Qr X Xa1 σ H' s'->Q () s') :
 wpAny (model X.prog X.w) A (setItem (.ref a) u r) Q E s:=by
 rcases g with ⟨kvs,k,e,ey,l,eH⟩|⟨kvs,k,b,e,ey,eb,l,eH⟩
 ·subst ey eH
  obtain⟨z,hd,vs,rel,dd⟩:=T7 I.hok e;have hz:vs.length<=sizeLine:=by rw[<- rel.length];exact z
  have hl:(VP kvs k v).length<=sizeLine:=by have:=Po kvs k v;omega
  refine wpAny_setItem_pairs (hsz:=hz) (Uz ry) dd fun h' dd' hs=>h _ ?_;have he:∃q,h'.get? a=some q:=let ⟨q,_,_,hq,_⟩:=dd';⟨q,hq⟩;exact GE I (by rw[e];exact True.intro) hs he (Tg hl hd (rel.put k rv) dd')
 ·subst ey eH
  cases (show u=Value.ref b from ry)
  obtain⟨z,hd,xs,rel,dd⟩:=MM I.hok e;have hz:xs.length<=sizeLine:=by rw[<- Paired.length rel];exact z
  have hl:(VP kvs k v).length<=sizeLine:=by have:=Po kvs k v;omega
  refine wpAny_setItem_heap (hsz:=hz) (tupleKind_room_in1 hu) (Wl I.hok eb) dd fun h' dd' hs=>h _ ?_;obtain⟨q,es,ep,hq,h2,h3,h4,_,h5⟩:=dd';refine GE I (by rw[e];exact True.intro) hs ⟨q,hq⟩ ⟨hl,hd,_,(rel.put k eb rv).keeps fun c ys ec=>?_,q,es,ep,hq,h2,h3,h4,h5⟩;rw[Qu (KS ec e (fun z=>nomatch z))];exact ec
end
section
variable {X:Cx}{Xa1:Qc}{σ:St}{H:Hp}{s:Shared}{a:Addr}{kvs:List (Key×V)}{k:Key}{u:Value}{A:Around}{E:Qb}
end
def K0 (i:Expr):Prop := ∀ov iv,subscripted i false ov iv=operate [ov,iv] (getItem ov iv)
def LA {prog:Program}{w:World}{A:Around}{E:Qb}{s:Shared}{env:Env}{value slice:Expr}{pos:Pos}{T id:String}{Q:Qb}
 (hl:typeLookup (.type T) "__getitem__"=pure (some (.builtin id))) (hs:K0 slice)
 (h:wpAny (model prog w) A (eval value env) (fun o b7=>wpAny (model prog w) A (eval slice env) (fun i b6=>b6.TypeIs o T/\wpAny (model prog w) A (getItem o i) Q E b6) E b7) E s) :
 wpAny (model prog w) A (eval (.Subscript value slice pos) env) Q E s:=by
 refine Subscript_ (wpAny_mono h (fun o b7 b8=>wpAny_mono b8 (fun i b6 bj=>?_) fun _ _ x=>x) fun _ _ x=>x);obtain⟨hT,bj⟩:=bj;unfold subscriptTail;refine Xa ?_;rw[getitemInPython_of_ne hT.not_modules];refine Xa (wpAny_specialOf hT hl ?_)
 have fin:wpAny (model prog w) A (subscripted slice false o i) (fun r b9=>wpAny (model prog w) A (letTemporaryGo value o r >>= fun _=>pure r) Q E b9) E b6:=by
  rw[hs o i];exact wpAny_operating (wpAny_mono bj (fun r b9 c5=>Xa (wpAny_letTemporaryGo (Xn c5))) fun _ _ x=>x)
 first
  |exact Xn (Xa fin)
  |exact Xa (Xn (Xa fin))
  |exact Xa fin
def Ir {X:Cx} {Xa1:Qc} {σ:St} {H:Hp} {s:Shared} {a:Addr} {y:V} {o:Option V} (I:Qr X Xa1 σ H s) (g:V1 H a y o):s.TypeIs (.ref a) "dict" := by
 rcases g with ⟨kvs,k,e,_,_⟩|⟨kvs,k,b,e,_,_,_⟩
 ·obtain⟨_,_,vs,_,dd⟩:=J8 I.hok e
  exact dd.typeIs
 ·obtain⟨_,_,xs,_,dd⟩:=J4 I.hok e
  exact dd.typeIs
def No (td ty:TE):TE:=fun σ H Q=>td σ H fun x H1=>ty σ H1 fun y H2=>∃a v,x=.ref a/\V1 H2 a y (some v)/\Q v H2
def Bi (ty td:TE):TE:=fun σ H Q=>ty σ H fun y H1=>td σ H1 fun x H2=>∃a o,x=.ref a/\V1 H2 a y o/\Q (.bl o.isSome) H2
def Ro (ty td:TE):TE:=fun σ H Q=>ty σ H fun y H1=>td σ H1 fun x H2=>∃a o,x=.ref a/\V1 H2 a y o/\Q (.bl (!o.isSome)) H2
def MR (td ty tv:TE):TS:=fun D σ H=>tv σ H fun v H1=>td σ H1 fun x H2=>ty σ H2 fun y H3=>∃a H4,x=.ref a/\WO H3 a y v H4/\D.nx σ H4
section
variable {X:Cx}{o i e value:Expr}{pos pos' tpos:Pos}{td ty tv:TE}
def RB (hu:X.A.units+1<cLine)(ho:PE X o td)(hi:PE X i ty)(hs:K0 i):PE X (.Subscript o i pos) (No td ty):=by
 intro Xa1 s σ H Q I h;refine LA PySem.F.slot_dict_getitem.lookup hs (Q6 (ho Xa1 s σ H _ I h) fun u s1 ⟨x,H1,I1,rx,q1⟩=>Q6 (hi Xa1 s1 σ H1 _ I1 q1) fun iv s2 ⟨y,H2,I2,ry,a,v,ex,g,q2⟩=>?_);subst ex;obtain rfl:u=Value.ref a:=rx
 exact⟨Ir I2 g,A5 hu I2 g ry fun w' s3 I3 rw'=>⟨v,H2,I3,rw',q2⟩⟩
def BA (hu:X.A.units+1<cLine)(hi:PE X i ty)(ho:PE X o td):PC X .In i o (Bi ty td):=by
 intro Xa1 s σ H Q I h;refine Q6 (hi Xa1 s σ H _ I h) fun iv s1 ⟨y,H1,I1,ry,q1⟩=>Q6 (ho Xa1 s1 σ H1 _ I1 q1) fun u s2 ⟨x,H2,I2,rx,a,ov,ex,g,q2⟩=>?_;subst ex;obtain rfl:u=Value.ref a:=rx;exact PV hu I2 g ry fun s3 I3=>⟨.bl ov.isSome,H2,I3,rfl,q2⟩
def A8 (hu:X.A.units+1<cLine)(hi:PE X i ty)(ho:PE X o td):PC X .NotIn i o (Ro ty td):=by
 intro Xa1 s σ H Q I h;refine Q6 (hi Xa1 s σ H _ I h) fun iv s1 ⟨y,H1,I1,ry,q1⟩=>Q6 (ho Xa1 s1 σ H1 _ I1 q1) fun u s2 ⟨x,H2,I2,rx,a,ov,ex,g,q2⟩=>?_;subst ex;obtain rfl:u=Value.ref a:=rx;exact F8 hu I2 g ry fun s3 I3=>⟨.bl (!ov.isSome),H2,I3,rfl,q2⟩
def Rw (hu:X.A.units+1<cLine)(ho:PE X o td)(hi:PE X i ty)(hv:PE X value tv)(hs:swapsWith value (some (.Subscript o i pos')) pos.line X.env=pure false) :
 PS X (.Assign [.Subscript o i pos'] value pos) (MR td ty tv):=by
 intro Xa1 s σ H D I h;refine wpAny_Assign_Subscript (Q6 (hv Xa1 s σ H _ I h) fun r s1 ⟨v,H1,I1,rv,q1⟩=>Q6 (ho Xa1 s1 σ H1 _ I1 q1) fun u s2 ⟨x,H2,I2,rx,q2⟩=>Q6 (hi Xa1 s2 σ H2 _ I2 q2) fun iv s3 ⟨y,H3,I3,ry,a,H4,ex,g,q3⟩=>?_) hs;subst ex;obtain rfl:u=Value.ref a:=rx;exact AH hu I3 g ry rv fun s4 I4=>⟨σ,H4,I4,q3⟩
end
def CP {P:Program} {w:World} {H:Hp} (h:Heap) (hb:sysModules<h.objs.size):Z7 P w H (h.push { cls:=.type "dict",data:=.dict #[] }) h.objs.size (.dK []) :=
 ⟨XM _,beq_eq_false_iff_ne.mpr (Ne.symm (Xp hb)),[],.nil,Heap.DictOf.new h⟩
def RF {P:Program} {w:World} {H:Hp} (h:Heap) (hb:sysModules<h.objs.size):Z7 P w H (h.push { cls:=.type "dict",data:=.dict #[] }) h.objs.size (.dT []) :=
 ⟨XM _,beq_eq_false_iff_ne.mpr (Ne.symm (Xp hb)),[],.nil,_,#[],0,Xy _ rfl,⟨rfl,rfl,rfl⟩,rfl,rfl,Ul⟩
def Ly:TE:=fun _ H Q=>∀p,H p=none->Q (.ref p) (upd H p (.dK []))
def Ls:TE:=fun _ H Q=>∀p,H p=none->Q (.ref p) (upd H p (.dT []))
section
variable {X:Cx}{pos:Pos}
def Ad:PE X (.Dict [] [] pos) Ly:=fun Xa1 s σ H Q I h =>
 wpAny_Dict_empty ⟨.ref s.heap.objs.size,_,I.laid (a:=s.heap.objs.size) (o:=.dK []) (t':=s.toks) (fun _ _ q=>Xf _ q) (Xu _) (CP s.heap I.big),rfl,h _ (I.hok.fresh (Xu _))⟩
def CW:PE X (.Dict [] [] pos) Ls:=fun Xa1 s σ H Q I h =>
 wpAny_Dict_empty ⟨.ref s.heap.objs.size,_,I.laid (a:=s.heap.objs.size) (o:=.dT []) (t':=s.toks) (fun _ _ q=>Xf _ q) (Xu _) (RF s.heap I.big),rfl,h _ (I.hok.fresh (Xu _))⟩
end
structure M2 (X:Cx)(o:Expr)(m:Str)(apos:Pos)(e f:Expr)(cpos:Pos):Prop where
 base:attributeBase o m X.env (eval o X.env)=eval o X.env
 few:((backTo cpos (starEach [e,f] X.env)).all (fun x => !x.1)&&(backToKw cpos (keywordEach [] X.env)).all (fun x=>x.1.isSome)
  && decide (([e,f]:Qi).length+([]:List Keyword).length+(if ([]:List Keyword).isEmpty then 0 else 1)<30))=true
 line:(apos.endLine==cpos.line)=true
 trees:backTo cpos (starEach [e,f] X.env)=[(false,eval e X.env),(false,eval f X.env)]
def IsD (H:Hp)(a:Addr):Prop:=(∃kvs,Rd H a (.dK kvs))\/∃kvs,Rd H a (.dT kvs)
def NA {X:Cx}{Xa1:Qc}{σ:St}{H:Hp}{s:Shared}{a:Addr}(I:Qr X Xa1 σ H s)(d:IsD H a) :
 s.TypeIs (.ref a) "dict" /\ (∀b,Value.ref a=.ref b->∃ob,s.heap.get? b=some ob/\ob.dict=none)/\(a==sysModules)=false:=by
 rcases d with ⟨kvs,e⟩|⟨kvs,e⟩
 ·obtain⟨_,hd,vs,_,dd⟩:=J8 I.hok e
  refine⟨dd.typeIs,fun b q=>?_,hd⟩
  cases q
  obtain⟨ob,_,_,h1,h2,_⟩:=dd
  exact⟨ob,h1,h2.2.1⟩
 ·obtain⟨_,hd,xs,_,dd⟩:=J4 I.hok e
  refine⟨dd.typeIs,fun b q=>?_,hd⟩
  cases q
  obtain⟨ob,_,_,h1,h2,_⟩:=dd
  exact⟨ob,h1,h2.2.1⟩
section
variable {X:Cx}{Xa1:Qc}{σ:St}{H:Hp}{s:Shared}{a:Addr}{y d:V}{u r:Value}{o:Option V}{A:Around}{E:Qb}
def Tk {Q:Qb}(hu:A.units+1<cLine)(I:Qr X Xa1 σ H s)(g:V1 H a y o)(ry:QL y u)(rd:QL d r)(h:∀w' s',Qr X Xa1 σ H s'->QL (o.getD d) w'->Q w' s') :
 wpAny (model X.prog X.w) A (call (.builtin "dict.get") [.ref a,u,r]) Q E s:=by
 rcases g with ⟨kvs,k,e,ey,l⟩|⟨kvs,k,b,e,ey,eb,l⟩
 ·subst ey
  obtain⟨z,hd,vs,rel,dd⟩:=J8 I.hok e;refine call_meetsIn PySem.F.slot_dict_get dd.typeIs PySem.F.entry_dict_get (PySem.F.args_dict_get_3 _ _ _) (meets_dict_get_default (Vq X.prog X.w) a (Uz ry) hd r) ⟨_,dd.mapOf,h _ _ (I.tok _) ?_⟩;rw[l];exact(rel.val k).getD rd
 ·subst ey
  cases (show u=Value.ref b from ry)
  obtain⟨z,hd,xs,rel,dd⟩:=J4 I.hok e;refine call_meetsIn PySem.F.slot_dict_get dd.typeIs PySem.F.entry_dict_get (PySem.F.args_dict_get_3 _ _ _) (meetsH_dict_get_default (tupleKind (Vq X.prog X.w)) a b hd r) ⟨tupleKind_room_in1 hu,k,xs,Wl I.hok eb,dd,h _ _ (I.tok _) ?_⟩;rw[l];exact(rel.val k).getD rd
end
def N6 (td ty tx:TE):TE:=fun σ H Q=>td σ H fun x H1=>∃a,x=.ref a/\IsD H1 a/\ty σ H1 fun y H2=>tx σ H2 fun z H3=>∃o,V1 H3 a y o/\Q (o.getD z) H3
section
variable {X:Cx}{o e f:Expr}{apos cpos:Pos}{td ty tx:TE}
def CN (hu:X.A.units+1<cLine) (ho:PE X o td) (he:PE X e ty) (hf:PE X f tx) (m:M2 X o "get" apos e f cpos):PE X (.Call (.Attribute o "get" apos) [e,f] [] cpos) (N6 td ty tx):=by
 intro Xa1 s σ H Q I h;refine wpAny_Call_method m.base m.few m.line PySem.F.plainAttrs_dict PySem.F.slot_dict_get PySem.F.type_dict_get (Q6 (ho Xa1 s σ H _ I h) fun u s1 ⟨x,H1,I1,rx,a,ex,d,q1⟩=>?_);subst ex;obtain rfl:u=Value.ref a:=rx;obtain⟨t1,t2,_⟩:=NA I1 d;refine⟨t1,t2,?_⟩
 rw[m.trees];refine Calls.callWith_builtin rfl (Calls.evalArgs_plain (Calls.spliced_cons (Q6 (he Xa1 s1 σ H1 _ I1 q1) fun iv s2 ⟨y,H2,I2,ry,q2⟩ =>
  Calls.spliced_cons (Q6 (hf Xa1 s2 σ H2 _ I2 q2) fun fv s3 ⟨z,H3,I3,rz,ov,g,q3⟩=>Calls.spliced_nil ?_))))
 exact Tk hu I3 g ry rz fun w' s4 I4 rw'=>⟨_,H3,I4,rw',q3⟩
end
section
variable {X:Cx}{Xa1:Qc}{σ:St}{H:Hp}{s:Shared}{a:Addr}{kvs:List (Key×V)}{A:Around}{E:Qb}
end
section
variable {X:Cx}{Xa1:Qc}{σ:St}{H:Hp}{s:Shared}{a:Addr}{y:V}{u:Value}{A:Around}{E:Qb}
end
end L2
def W2:1<=1000:=by decide
def YI:2<=1000:=by decide
namespace My
end My
namespace L2
open PySem
theorem ZD.keep {F H H':Hp}:∀{as:Qg} {dss:List (Qd)},(∀b∈as,H' b=H b)->ZD F H as dss->ZD F H' as dss
 |[],[],_,_=>trivial
 |a::as,_::_,h,o=>by
   obtain⟨⟨h1,xs,h2,h3⟩,o2⟩:=o
   exact⟨⟨h1,xs,by rw[h a Xc];exact h2,h3⟩,ZD.keep (fun b hb=>h b (Xe _ hb)) o2⟩
 |[],_::_,_,h=>False.elim h
 |_::_,[],_,h=>False.elim h
def Zk.keep {K:W.Frag}{F H H':Hp}{v:V}{t:OT}{p:Qg}(k:∀b∈p,H' b=H b)(h:Zk K F H v t p):Zk K F H' v t p:=by
 cases t with
 |fz d=>exact h
 |zow Ψ=>exact h
 |ol ds =>
   obtain⟨a,rfl,rfl,h1,xs,h2,h3⟩:=h
   exact⟨a,rfl,rfl,h1,xs,by rw[k a Xc];exact h2,h3⟩
 |oll dss =>
   obtain⟨a,as,rfl,rfl,h1,h2,h3,h4⟩:=h
   exact⟨a,as,rfl,rfl,h1,h2,by rw[k a Xc];exact h3,h4.keep fun b hb=>k b (Xe _ hb)⟩
 |scr ns=>exact h
 |own v0 Φ =>
   obtain⟨h1,h2⟩:=h
   exact⟨h1,Φ.mono (Q4.refl _) (fun a ha=>(Φ.there h2 a ha).1) k h2⟩
def QB.writeOwn {K:W.Frag}{H0 F H:Hp}{ρ:Q1}{σ:St}{i:Nat}{v:V}{Φ:OwnP}(s:QB K H0 F ρ σ H)(e:ρ[i]?=some (some (.own v Φ))) :
 σ[i]?=some (some v)/\∃p,Φ.ok K F H v p/\(∀a∈p,H0 a=none/\F a=none/\H a≠none) /\
  ∀(H':Hp) (Φ':OwnP) (p':Qg),Q4 F H'->(∀b,b∉p->H b≠none->H' b=H b)->(∀b,H b≠none->H' b≠none)->Φ'.ok K F H' v p'->(∀a∈p',a∈p\/(H a=none/\H0 a=none)) ->
   QB K H0 F (ρ.set i (some (.own v Φ'))) σ H':=by
 obtain⟨kt,h1,h2,fp,h3,h4,h5⟩:=s;obtain⟨u,e1,rfl,e2⟩:=h3 i _ e;refine⟨e1,fp i,e2,fun a ha=>⟨(h5 i a ha).1,(Φ.there e2 a ha).1,(h5 i a ha).2⟩,fun H' Φ' p' sm kp st ok sub=>?_⟩;have hlt:=(Xh.mp e).1;refine⟨kt,sm,by simp[h2],fun j=>if j=i then p' else fp j,fun j t' e'=>?_,fun j k a ha hb=>?_,fun j a ha=>?_⟩
 ·by_cases hj:j=i
  ·subst hj
   rw[Xo hlt]at e';cases e';refine⟨_,e1,rfl,?_⟩;simp only[if_true];exact ok
  ·rw[Xx (Ne.symm hj)]at e'
   obtain⟨u',f1,f2⟩:=h3 j t' e';refine⟨u',f1,?_⟩;simp only[Xb hj];exact f2.keep fun b hb=>kp b (fun z=>hj (h4 j i b hb z)) (h5 j b hb).2
 ·by_cases hj:j=i
  ·by_cases hk:k=i
   ·omega
   ·simp only[Xd hj]at ha
    simp only[Xb hk]at hb;rcases sub a ha with z|z
    ·exact Xl (h4 k i a hb z) hk
    ·exact Xl z.1 (h5 k a hb).2
  ·simp only[Xb hj]at ha
   by_cases hk:k=i
   ·simp only[Xd hk]at hb
    rcases sub a hb with z|z
    ·exact Xl (h4 j i a ha z) hj
    ·exact Xl z.1 (h5 j a ha).2
   ·simp only[Xb hk]at hb
    exact h4 j k a ha hb
 ·by_cases hj:j=i
  ·simp only[Xd hj]at ha
   rcases sub a ha with z|z
   ·exact⟨(h5 i a z).1,st a (h5 i a z).2⟩
   ·exact⟨z.2,(Φ'.there ok a ha).2⟩
  ·simp only[Xb hj]at ha
   exact⟨(h5 j a ha).1,st a (h5 j a ha).2⟩
def Gc:Key->PyData
 |.inl i=>.int i
 |.inr x=>.str x
def QV (k:List Key):PyData:=.tuple (k.map Gc)
def DP {F:Hp}{y:V}{k:Key}(r:Rep F y (Gc k)):y=kV k:=by
 cases k with
 |inl i=>cases r;rfl
 |inr x=>cases r;rfl
theorem Pe {F:Hp}:∀{ys:List V} {k:List Key},Qv F ys (k.map Gc)->ys=k.map kV
 |_,[],.nil=>rfl
 |_,k::ks,.cons r rs=>by rw[DP r,Pe rs];rfl
def Wr {F:Hp}{y:V}{k:List Key}(r:Rep F y (QV k)):∃b,y=.ref b/\F b=some (.tup (k.map kV)):=by
 unfold QV at r;cases r with
 |tup h rs=>exact⟨_,rfl,by rw[h,Pe rs]⟩
abbrev ZV:=List (List Key×PyData)
def VO (kvs:ZV)(k:List Key):Option PyData:=(kvs.find? fun kv=>decide (kv.1=k)).map (·.2)
def Up (kvs:ZV)(k:List Key)(d:PyData):ZV:=if (kvs.any fun kv=>decide (kv.1=k))=true then kvs.map (fun kv=>if kv.1=k then (kv.1,d) else kv) else kvs++[(k,d)]
inductive PairD (F:Hp):List (List Key×V)->ZV->Prop
 |nil:PairD F [] []
 |cons {k:List Key} {x:V} {d:PyData} {xs:List (List Key×V)} {kvs:ZV}:Rep F x d->PairD F xs kvs->PairD F ((k,x)::xs) ((k,d)::kvs)
theorem PairD.mono {F F':Hp}(s:Q4 F F'):∀{xs:List (List Key×V)} {kvs:ZV},PairD F xs kvs->PairD F' xs kvs
 |_,_,.nil=>.nil
 |_,_,.cons r t=>.cons (r.mono s) (t.mono s)
theorem PairD.length {F:Hp}:∀{xs:List (List Key×V)} {kvs:ZV},PairD F xs kvs->xs.length=kvs.length
 |_,_,.nil=>rfl
 |_,_,.cons _ t=>by simp[t.length]
theorem PairD.val {F:Hp}(k:List Key):∀{xs:List (List Key×V)} {kvs:ZV},PairD F xs kvs->(Zs xs k=none/\VO kvs k=none)\/∃x d,Zs xs k=some x/\VO kvs k=some d/\Rep F x d
 |_,_,.nil=>.inl ⟨rfl,rfl⟩
 |_,_,.cons (k:=k') (x:=x) (d:=d) (xs:=xs) (kvs:=kvs) r t=>by
   by_cases e:k'=k
   ·exact .inr ⟨x,d,YF e,by simp[VO,XB,e],r⟩
   ·have q:VO ((k',d)::kvs) k=VO kvs k:=by simp[VO,XB,e]
    rw[YG (p:=(k',x)) e,q];exact t.val k
theorem PairD.any {F:Hp}(k:List Key):∀{xs:List (List Key×V)} {kvs:ZV},PairD F xs kvs->(xs.any fun kv=>decide (kv.1=k))=(kvs.any fun kv=>decide (kv.1=k))
 |_,_,.nil=>rfl
 |_,_,.cons _ t=>by simp[t.any k]
theorem PairD.mapP {F:Hp}(k:List Key){y:V}{d:PyData}(r:Rep F y d):∀{xs:List (List Key×V)} {kvs:ZV},PairD F xs kvs->PairD F (xs.map fun kv=>if kv.1=k then (kv.1,y) else kv) (kvs.map fun kv=>if kv.1=k then (kv.1,d) else kv)
 |_,_,.nil=>.nil
 |_,_,.cons (k:=k') r' t=>by
   rw[Xs,Xs];by_cases e:k'=k
   ·simp only[e,if_true]
    exact .cons r (t.mapP k r)
   ·simp only[e,if_false]
    exact .cons r' (t.mapP k r)
theorem PairD.snoc {F:Hp}(k:List Key){y:V}{d:PyData}(r:Rep F y d):∀{xs:List (List Key×V)} {kvs:ZV},PairD F xs kvs->PairD F (xs++[(k,y)]) (kvs++[(k,d)])
 |_,_,.nil=>.cons r .nil
 |_,_,.cons r' t=>.cons r' (t.snoc k r)
def PairD.put {F:Hp}(k:List Key){y:V}{d:PyData}(r:Rep F y d){xs:List (List Key×V)}{kvs:ZV}(t:PairD F xs kvs):PairD F (VP xs k y) (Up kvs k d):=by
 unfold VP Up;rw[t.any k];split
 ·exact t.mapP k r
 ·exact t.snoc k r
def Vy (kvs:ZV):OwnP where
 ok K F H v p := ∃a xs,v=.ref a/\p=[a]/\F a=none/\H a=some (.dT xs)/\PairD F xs kvs
 there:=by
  rintro K F H v p ⟨a,xs,rfl,rfl,h1,h2,h3⟩ b hb
  cases Xi.mp hb
  exact⟨h1,Zy h2⟩
 mono:=by
  rintro K F F' H H' v p s hF hH ⟨a,xs,rfl,rfl,h1,h2,h3⟩
  exact⟨a,xs,rfl,rfl,hF a Xc,by rw[hH a Xc];exact h2,h3.mono s⟩
 uniq:=by
  rintro K F H v p q ⟨a,xs,rfl,rfl,_⟩ ⟨b,ys,e,rfl,_⟩ c hc
  cases e
  exact hc
section
variable {K:W.Frag}{ρ:Q1}{te ty tv:TE}{D:PEnds}{i:Nat}{v:V}{kvs:ZV}{k:List Key}{d:PyData}
def QB.dct {H0 F H:Hp}{σ:St}(S:QB K H0 F ρ σ H)(e:ρ[i]?=some (some (.own v (Vy kvs)))) :
 ∃a xs,v=.ref a/\σ[i]?=some (some (.ref a))/\F a=none/\H0 a=none/\H a=some (.dT xs)/\PairD F xs kvs:=by
 obtain⟨e1,p,⟨a,xs,rfl,rfl,h1,h2,h3⟩,hp,_⟩:=S.writeOwn e
 exact⟨a,xs,rfl,e1,h1,(hp a Xc).1,h2,h3⟩
def HM {F:Hp}{xs:List (List Key×V)}(t:PairD F xs kvs):(Zs xs k).isSome=(VO kvs k).isSome:=by
 rcases t.val k with ⟨z1,z2⟩|⟨x,d',z1,z2,_⟩<;>rw[z1,z2]<;>rfl
def L9 (hy:Qt K ty ρ (QV k))(e:ρ[i]?=some (some (.own v (Vy kvs)))):Qt K (Bi ty (Q8 i)) ρ (.bool (VO kvs k).isSome):=fun H0 F σ H Q S q =>
 hy H0 F σ H _ S fun F1 H1 y x1 r1=>by
  obtain⟨a,xs,rfl,e1,_,_,f2,f3⟩:=(S.ext x1).dct e;obtain⟨b,rfl,hb⟩:=Wr r1
  exact⟨_,e1,a,_,rfl,V1.t f2 (x1.fh _ _ hb),q F1 H1 _ x1 (by rw[HM f3];exact .bl _)⟩
def E7 (hy:Qt K ty ρ (QV k))(e:ρ[i]?=some (some (.own v (Vy kvs)))):Qt K (Ro ty (Q8 i)) ρ (.bool (!(VO kvs k).isSome)):=fun H0 F σ H Q S q =>
 hy H0 F σ H _ S fun F1 H1 y x1 r1=>by
  obtain⟨a,xs,rfl,e1,_,_,f2,f3⟩:=(S.ext x1).dct e;obtain⟨b,rfl,hb⟩:=Wr r1
  exact⟨_,e1,a,_,rfl,V1.t f2 (x1.fh _ _ hb),q F1 H1 _ x1 (by rw[HM f3];exact .bl _)⟩
def Co (e:ρ[i]?=some (some (.own v (Vy kvs))))(hv:Qt K tv ρ d)(hy:Qt K ty ρ (QV k))(hz:kvs.length<sizeLine)(hn:D.nx (ρ.set i (some (.own v (Vy (Up kvs k d)))))):Q2 K (MR (Q8 i) ty tv) ρ D:=fun F0 H0 F σ H E x S C =>
 hv H0 F σ H _ S fun F1 H1 u x1 r1=>by
  obtain⟨a,xs,rfl,e1,_⟩:=(S.ext x1).dct e;refine⟨_,e1,hy H0 F1 σ H1 _ (S.ext x1) fun F2 H2 y x2 r2=>?_⟩;have S2:=S.ext (x1.trans x2);obtain⟨a',xs',ea,_,g1,g0,g2,g3⟩:=S2.dct e
  cases ea
  obtain⟨b,rfl,hb⟩:=Wr r2;refine⟨a,_,rfl,WO.t g2 (x2.fh _ _ hb) (by rw[g3.length];exact hz),?_⟩;obtain⟨_,p,ok,hp,w⟩:=S2.writeOwn e;obtain⟨a'',xs'',ea,rfl,_,g4,_⟩:=ok
  cases ea
  refine C.nx F2 σ _ _ ((x.trans (x1.trans x2)).wr g0 g1) (w _ (Vy (Up kvs k d)) [a] (S2.sub.upd g1) (fun c hc _=>Qu fun z=>hc (by rw[z];exact Xc)) (fun c hc=>?_) ⟨a,_,rfl,rfl,g1,QD,g3.put k (r1.mono x2.ff)⟩ (fun c hc=>.inl hc)) hn
  by_cases z:c=a
  ·subst z;rw[QD];exact fun q=>nomatch q
  ·rw[Qu z];exact hc
def EvX (K:W.Frag)(t:TE)(ρ:Q1)(Φ:OwnP):Prop := ∀(H0 F:Hp) (σ:St) (H:Hp) (Q:VK),QB K H0 F ρ σ H->(∀F' H' v p,Q0 F H F' H'->(∀a∈p,H a=none)->Φ.ok K F' H' v p->Q v H')->t σ H Q
theorem DM:∀{as bs:Qg},as.map V.ref=bs.map V.ref->as=bs
 |[],[],_=>rfl
 |a::as,b::bs,h=>by
   rw[Xs,Xs]at h;injection h with h1 h2
   cases h1
   rw[DM h2]
 |[],_::_,h=>by cases h
 |_::_,[],h=>by cases h
def UI {F H:Hp}{w:V}{t:OT}{p q:Qg}(h:Zk K F H w t p)(h':Zk K F H w t q):∀b∈q,b∈p:=by
 cases t with
 |fz d=>rw[h'.1];intro b hb;cases hb
 |zow Ψ=>rw[h'.1];intro b hb;cases hb
 |ol ds =>
   obtain⟨b1,z1,z2,z3⟩:=h';obtain⟨b2,y1,y2,y3⟩:=h;rw[z1]at y1;cases y1;rw[z2,y2];exact fun _ z=>z
 |oll dss =>
   obtain⟨a,as,z1,z2,_,_,z3,_⟩:=h';obtain⟨b,bs,y1,y2,_,_,y3,_⟩:=h;rw[z1]at y1;cases y1;rw[z3]at y3;injection y3 with y4;injection y4 with y5;rw[z2,y2,DM y5];exact fun _ z=>z
 |scr ns=>rw[h'.1];intro b hb;cases hb
 |own v0 Φ=>exact Φ.uniq h.2 h'.2
def GF {Φ:OwnP}(h:EvX K te ρ Φ)(hn:∀v,D.nx (ρ.set i (some (.own v Φ)))):Q2 K (Ve te (ZJ i)) ρ D:=fun F0 H0 F σ H E x S C =>
 h H0 F σ H _ S fun F' H' v p x' hp ok=>by
  refine C.nx F' _ H' _ (x.trans x') ((S.ext x').set (t:=.own v Φ) ⟨rfl,ok⟩ (fun a ha=>x.hh.free (hp a ha)) (hn:=fun a ha j w t' q e1 e2 ok'=>?_)) (hn v);obtain⟨fp,g1,g2,g3⟩:=S.fp;obtain⟨w',f1,f2⟩:=g1 j t' e1;intro hq;have f3:=f2.ext x';rw[e2]at f1;cases f1
  exact(g3 j a (UI (K:=K) f3 ok' a hq)).2 (hp a ha)
end
end L2
namespace Mir
theorem S8 {g:Qn}{l:Nat}(h:∀c,c<=l->g c=0):∀m,Q3 g (l+1+m)=Q3 (fun j=>g (l+1+j)) m
 |0=>by
   show Q3 g (l+1)=0;rw[Zj (g:=fun _=>0) fun k hk=>h k (by omega),VL]
 |m+1=>by
   show Q3 g (l+1+m)+g (l+1+m)=_;rw[S8 h m];rfl
theorem P7 (y:Yd)(b own:Qn)(l:Nat):∀m,WF y b own l m=Q3 (fun j=>if QX y (l+1+j)=some l then passes y b own (l+1+j) else 0) m
 |0=>rfl
 |m+1=>by simp only[WF,Q3];rw[P7 y b own l m]
def Ux {y:Yd}(ok:y.Ok){c l:Nat}(hc:c<y.ls.length)(e:QX y c=some l):l<c:=by
 by_cases h0:c=0
 ·subst h0;rw[ok.up0]at e;cases e
 ·obtain⟨a,ea,la⟩:=ok.ups c (by omega) hc
  rw[ea]at e;cases e;exact la
def SU {y:Yd}(ok:y.Ok)(b own:Qn){l:Nat}(hl:l<y.ls.length):Vu y b own l=own l+Q3 (fun c=>if QX y c=some l then passes y b own c else 0) y.ls.length:=by
 rw[Cz ok,P7];have e:y.ls.length=l+1+(y.ls.length-1-l):=by omega
 have h:=S8 (g:=fun c=>if QX y c=some l then passes y b own c else 0) (l:=l) (fun c hc=>Xb fun z=>by
  have:=Ux ok (by omega) z
  omega) (y.ls.length-1-l)
 rw[<- e]at h;rw[h]
section
variable (y:Yd)(b own:Qn)
end
section
variable {y:Yd}{b own:Qn}
def RY (ok:y.Ok):upL y 0=[0]:=by
 have:=ok.l1
 rw[NE ok (by omega),Xd rfl]
end
end Mir
namespace Mir
def ind (p:Prop) [Decidable p]:Int:=if p then 1 else 0
theorem Si {y:Yd}(ok:y.Ok)(l:Nat)(hl:l<y.ls.length):∀n j,j<n->j<y.ls.length ->
 ind (l∈upL y j)=ind (j=l)+Q3 (fun c=>if QX y c=some l then ind (c∈upL y j) else 0) y.ls.length
 |0,j,h,_=>by omega
 |n+1,j,h,hj=>by
   by_cases e:j=l
   ·subst e
    have z:Q3 (fun c=>if QX y c=some j then ind (c∈upL y j) else 0) y.ls.length=0:=by
     rw[Zj (g:=fun _=>0) fun c hc=>?_,VL]
     by_cases u:QX y c=some j
     ·have:=Ux ok hc u
      have w:¬c∈upL y j:=fun z=>by have:=N3 y j c z;omega
      simp[u,ind,w]
     ·simp[u]
    rw[z];simp[ind,Hd]
   ·by_cases j0:j=0
    ·subst j0
     have w:¬l∈upL y 0:=fun z=>by rw[RY ok]at z;simp at z;exact e z.symm
     have z:Q3 (fun c=>if QX y c=some l then ind (c∈upL y 0) else 0) y.ls.length=0:=by
      rw[Zj (g:=fun _=>0) fun c hc=>?_,VL]
      by_cases u:QX y c=some l
      ·have c0:¬c∈upL y 0:=fun z=>by
        rw[RY ok]at z;simp at z;subst z;rw[ok.up0]at u;cases u
       simp[u,ind,c0]
      ·simp[u]
     rw[z];simp[ind,w,e]
    ·obtain⟨a,ea,la⟩:=ok.ups j (by omega) hj
     have ih:=Si ok l hl n a (by omega) (by omega);have m1:(l∈upL y j)↔(l∈upL y a):=Dj ok (by omega) hj ea l (fun z=>e z.symm);have e1:ind (l∈upL y j)=ind (l∈upL y a):=by unfold ind;simp only[m1]
     have e2:∀c,c<y.ls.length->(if QX y c=some l then ind (c∈upL y j) else 0)=(if QX y c=some l then ind (c∈upL y a) else 0)+(if c=j then ind (a=l) else 0):=by
      intro c hc;by_cases z:c=j
      ·subst z
       have w:¬c∈upL y a:=fun q=>by have:=N3 y a c q;omega
       rw[ea];by_cases q:a=l
       ·subst q;simp[ind,Hd,w]
       ·have:¬some a=some l:=fun z=>q (by injection z)
        simp[ind,q]
      ·have m2:(c∈upL y j)↔(c∈upL y a):=Dj ok (by omega) hj ea c z
       have:ind (c∈upL y j)=ind (c∈upL y a):=by unfold ind;simp only[m2]
       rw[this,Xb z,UT]
     rw[e1,ih,Zj e2,GG,UD,Xd hj];have:ind (j=l)=0:=by unfold ind;rw[Xb e]
     omega
def Vm (y:Yd)(m:Nat)(ln:Nat->Nat)(f:Qn)(l:Nat):Int:=Q3 (fun k=>f k*ind (l∈upL y (ln k))) m
def GW {y:Yd}(ok:y.Ok){m:Nat}{ln:Nat->Nat}(hln:∀k,k<m->ln k<y.ls.length)(f:Qn){l:Nat}(hl:l<y.ls.length) :
 Vm y m ln f l=Q3 (fun k=>f k*ind (ln k=l)) m+Q3 (fun c=>if QX y c=some l then Vm y m ln f c else 0) y.ls.length:=by
 unfold Vm;have h1:∀k,k<m->f k*ind (l∈upL y (ln k))=f k*ind (ln k=l)+Q3 (fun c=>if QX y c=some l then f k*ind (c∈upL y (ln k)) else 0) y.ls.length:=by
  intro k hk;rw[Si ok l hl _ (ln k) (W1 _) (hln k hk),Int.mul_add,<- GL];congr 1;refine Zj fun c _=>?_
  by_cases u:QX y c=some l
  ·rw[Xd u,Xd u]
  ·rw[Xb u,Xb u,Int.mul_zero]
 rw[Zj h1,GG,Mc];congr 1;refine Zj fun c _=>?_
 by_cases u:QX y c=some l
 ·simp only[Xd u]
 ·simp only[Xb u]
  rw[VL]
theorem no_more {y:Yd}(ok:y.Ok){m:Nat}{ln:Nat->Nat}(hln:∀k,k<m->ln k<y.ls.length){f:Qn}{b own:Qn}(ho:∀l,l<y.ls.length->Q3 (fun k=>f k*ind (ln k=l)) m<=own l)(hb:∀l,l<y.ls.length->Vm y m ln f l<=b l) :
 ∀n l,y.ls.length<=l+n->l<y.ls.length->Vm y m ln f l<=passes y b own l
 |0,l,h,hl=>by omega
 |n+1,l,h,hl=>by
   have h1:Vm y m ln f l<=Vu y b own l:=by
    rw[GW ok hln f hl,SU ok b own hl];refine Int.add_le_add (ho l hl) (YX fun c hc=>?_)
    by_cases u:QX y c=some l
    ·rw[Xd u,Xd u]
     have:=Ux ok hc u
     exact no_more ok hln ho hb n c (by omega) hc
    ·rw[Xb u,Xb u]
     exact Jt _
   have h2:=hb l hl;unfold passes;omega
end Mir
namespace Mir
def Re {y:Yd}{m:Nat}{ln:Nat->Nat}{f g:Qn}(h:∀k,k<m->f k<=g k)(l:Nat):Vm y m ln f l<=Vm y m ln g l :=
 YX fun k hk=>by
  unfold ind;split
  ·have:=h k hk;omega
  ·omega
def FD {y:Yd}{m:Nat}{ln:Nat->Nat}{f:Qn}(h:∀k,k<m->0<=f k)(l:Nat):0<=Vm y m ln f l :=
 LY fun k hk=>by
  unfold ind;split
  ·have:=h k hk;omega
  ·omega
structure Shut (y:Yd)(m:Nat)(ln:Nat->Nat)(f mo:Qn)(b:Qn)(S R:Qm):Prop where
 nn:∀k,k<m->0<=f k
 full:∀k,k<m->S k=true->R (ln k)=false->f k=mo k
 none:∀k,k<m->S k=false->R (ln k)=true->f k=0
 top:R 0=true->Vm y m ln f 0=b 0
 out:∀c a,c<y.ls.length->QX y c=some a->R c=true->R a=false->Vm y m ln f c=b c
 inn:∀c a,c<y.ls.length->QX y c=some a->R c=false->R a=true->Vm y m ln f c=0
def Zh (S:Qm)(f:Qn):Qn:=fun k=>if S k=true then f k else 0
def Hi {S:Qm}{f:Qn}{k:Nat}(h:0<=f k):Zh S f k<=f k:=by
 unfold Zh;split<;>omega
def Ca {S:Qm}{f:Qn}{k:Nat}(h:0<=f k):0<=Zh S f k:=by
 unfold Zh;split<;>omega
theorem Shut.alike {y:Yd}(ok:y.Ok){m:Nat}{ln:Nat->Nat}(hln:∀k,k<m->ln k<y.ls.length){f mo b:Qn}{S R:Qm}(h:Shut y m ln f mo b S R) :
 ∀n l,y.ls.length<=l+n->l<y.ls.length->R l=true->Vm y m ln f l=Vm y m ln (Zh S f) l
 |0,l,h0,hl,_=>by omega
 |n+1,l,h0,hl,hR=>by
   rw[GW ok hln f hl,GW ok hln (Zh S f) hl];congr 1
   ·refine Zj fun k hk=>?_
    by_cases e:ln k=l
    ·have:f k=Zh S f k:=by
      unfold Zh;cases s:S k with
      |true=>simp
      |false=>simp;exact h.none k hk s (by rw[e];exact hR)
     rw[this]
    ·simp[ind,e]
   ·refine Zj fun c hc=>?_
    by_cases u:QX y c=some l
    ·rw[Xd u,Xd u]
     have:=Ux ok hc u
     cases r:R c with
     |true=>exact Shut.alike ok hln h n c (by omega) hc r
     |false =>
       have e:=h.inn c l hc u r hR;have q1:=Re (y:=y) (ln:=ln) (f:=Zh S f) (g:=f) (fun k hk=>Hi (S:=S) (h.nn k hk)) c;have q2:=FD (y:=y) (ln:=ln) (f:=Zh S f) (fun k hk=>Ca (S:=S) (h.nn k hk)) c;omega
    ·rw[Xb u,Xb u]
theorem Shut.all {y:Yd}(ok:y.Ok){m:Nat}{ln:Nat->Nat}(hln:∀k,k<m->ln k<y.ls.length){f mo b own:Qn}{S R:Qm}(h:Shut y m ln f mo b S R)
 (ho:∀l,l<y.ls.length->own l=Q3 (fun k=>Zh S mo k*ind (ln k=l)) m) :
 ∀n l,y.ls.length<=l+n->l<y.ls.length->(R l=true->l=0\/∃a,QX y l=some a/\R a=false)->passes y b own l<=Vm y m ln (Zh S f) l
 |0,l,h0,hl,_=>by omega
 |n+1,l,h0,hl,hU=>by
   cases r:R l with
   |true =>
     have e:Vm y m ln f l=b l:=by
      rcases hU r with z|⟨a,u,ra⟩
      ·subst z;exact h.top r
      ·exact h.out l a hl u r ra
     rw[<- h.alike ok hln (n+1) l h0 hl r,e];unfold passes;omega
   |false =>
     have h1:Vu y b own l<=Vm y m ln (Zh S f) l:=by
      rw[GW ok hln _ hl,SU ok b own hl];refine Int.add_le_add ?_ (YX fun c hc=>?_)
      ·rw[ho l hl]
       refine YX fun k hk=>?_
       by_cases e:ln k=l
       ·have:Zh S mo k=Zh S f k:=by
         unfold Zh;cases s:S k with
         |true=>simp;exact(h.full k hk s (by rw[e];exact r)).symm
         |false=>simp
        rw[this];exact Jt _
       ·simp[ind,e]
      ·by_cases u:QX y c=some l
       ·rw[Xd u,Xd u]
        have:=Ux ok hc u
        exact Shut.all ok hln h ho n c (by omega) hc (fun _=>.inr ⟨l,u,r⟩)
       ·rw[Xb u,Xb u]
        exact Jt _
     unfold passes;omega
end Mir
namespace Mir
section
variable {ν:Type} [DecidableEq ν]
abbrev Lay (ν:Type):=List (ν×ν×Int)
abbrev QU (ν:Type):=ν->ν->Int
def Wj (L:Lay ν):List ν:=L.flatMap fun x=>[x.2.1,x.1]
def V8 (L:Lay ν)(φ:QU ν):Ql:=L.flatMap fun x=>[x.2.2-φ x.1 x.2.1,φ x.1 x.2.1]
def Dis (L:Lay ν):Prop:=(L.map fun x=>(x.1,x.2.1)).Nodup
def VG (φ:QU ν)(s e:ν)(a:Int):QU ν:=fun p q=>if p=s/\q=e then φ p q+a else φ p q
theorem Di {α β:Type}(f g:α->β):∀(L:List α) (e:Nat),(L.flatMap fun x=>[f x,g x])[e]?=L[e/2]?.map (if e%2=0 then f else g)
 |[],e=>by simp
 |x::L,0=>by simp
 |x::L,1=>by simp
 |x::L,e+2=>by
   have h:=Di f g L e;have e1:(e+2)/2=e/2+1:=by omega
   have e2:(e+2)%2=e%2:=by omega
   rw[e1,e2,Ms,US];simpa using h
def hdE (L:Lay ν)(e:Nat):Option ν:=L[e/2]?.map fun x=>if e%2=0 then x.2.1 else x.1
def tlE (L:Lay ν)(e:Nat):Option ν:=L[e/2]?.map fun x=>if e%2=0 then x.1 else x.2.1
def rmE (L:Lay ν)(φ:QU ν)(e:Nat):Option Int:=L[e/2]?.map fun x=>if e%2=0 then x.2.2-φ x.1 x.2.1 else φ x.1 x.2.1
def DJ (L:Lay ν)(e:Nat):(Wj L)[e]?=hdE L e:=by
 unfold Wj hdE;rw[Di];congr 1
 split<;>rfl
def GP (L:Lay ν)(φ:QU ν)(e:Nat):(V8 L φ)[e]?=rmE L φ e:=by
 unfold V8 rmE;rw[Di];congr 1
 split<;>rfl
def ZeR (e:Nat):Nat:=if e%2=0 then e+1 else e-1
def A2 (L:Lay ν)(e:Nat):(Wj L)[ZeR e]?=tlE L e:=by
 rw[DJ];unfold hdE tlE ZeR;by_cases h:e%2=0
 ·have h1:(e+1)/2=e/2:=by omega
  have h2:¬(e+1)%2=0:=by omega
  simp only[h,if_true,h1,h2,if_false]
 ·have h1:(e-1)/2=e/2:=by omega
  have h2:(e-1)%2=0:=by omega
  simp only[h,if_false,h1,h2,if_true]
def Vf (L:Lay ν)(F:ν->ν->Int):Int:=(L.map fun x=>F x.1 x.2.1).sum
def Vz (L:Lay ν)(φ:QU ν)(n:ν):Int:=Vf L fun s e=>φ s e*(ind (s=n)-ind (e=n))
def EI {φ:QU ν}{s e:ν}{a:Int}{L:Lay ν}(h:(s,e)∉L.map fun x=>(x.1,x.2.1))(G:Int->ν->ν->Int) :
 Vf L (fun p q=>G (VG φ s e a p q) p q)=Vf L fun p q=>G (φ p q) p q:=by
 unfold Vf;congr 1;refine X7 fun x hx=>?_
 have:¬(x.1=s/\x.2.1=e):=fun⟨z1,z2⟩=>h (XT.mpr ⟨x,hx,by rw[z1,z2]⟩)
 unfold VG;dsimp only;rw[Xb this]
theorem Sw {φ:QU ν}{a:Int}(G:Int->ν->ν->Int):∀{L:Lay ν},Dis L->∀{x:ν×ν×Int},x∈L ->
 Vf L (fun p q=>G (VG φ x.1 x.2.1 a p q) p q)=Vf L (fun p q=>G (φ p q) p q)-G (φ x.1 x.2.1) x.1 x.2.1+G (φ x.1 x.2.1+a) x.1 x.2.1
 |[],_,_,h=>by cases h
 |y::L,hd,x,h=>by
   unfold Dis at hd;rw[Xs,XO]at hd;rcases Xg.mp h with rfl|h
   ·have:=EI (φ:=φ) (a:=a) hd.1 G
    have e:VG φ x.1 x.2.1 a x.1 x.2.1=φ x.1 x.2.1+a:=by unfold VG;rw[Xd ⟨rfl,rfl⟩]
    unfold Vf at this ⊢;rw[Xs,Y2,Xs,Y2,this];dsimp only;rw[e];omega
   ·have ih:=Sw (φ:=φ) (a:=a) G (L:=L) hd.2 h
    have ne:¬(y.1=x.1/\y.2.1=x.2.1):=fun⟨z1,z2⟩=>hd.1 (XT.mpr ⟨x,h,by rw[z1,z2]⟩);have e:VG φ x.1 x.2.1 a y.1 y.2.1=φ y.1 y.2.1:=by unfold VG;rw[Xb ne]
    unfold Vf at ih ⊢;rw[Xs,Y2,Xs,Y2,ih];dsimp only;rw[e];omega
def VQ (L:Lay ν)(a:Int)(φ:QU ν)(e:Nat):QU ν :=
 match L[e/2]? with
 |some x=>VG φ x.1 x.2.1 (if e%2=0 then a else -a)
 |none=>φ
def AV {L:Lay ν}(hd:Dis L){φ:QU ν}{a:Int}{e:Nat}{s t:ν}(ht:hdE L e=some t)(hs:tlE L e=some s)(n:ν) :
 Vz L (VQ L a φ e) n=Vz L φ n+a*(ind (s=n)-ind (t=n)):=by
 unfold hdE at ht;unfold tlE at hs;cases ex:L[e/2]? with
 |none=>rw[ex]at ht;cases ht
 |some x =>
   rw[ex]at ht hs;have hx:x∈L:=List.mem_of_getElem? ex;have hp:VQ L a φ e=VG φ x.1 x.2.1 (if e%2=0 then a else -a):=by unfold VQ;rw[ex]
   rw[hp];unfold Vz;rw[Sw (fun v p q=>v*(ind (p=n)-ind (q=n))) hd hx];simp only[X6,Option.some.injEq]at ht hs;by_cases z:e%2=0
   ·rw[Xd z]at ht hs ⊢
    subst ht hs;rw[Int.add_mul];omega
   ·rw[Xb z]at ht hs ⊢
    subst ht hs;rw[Int.add_mul,Int.neg_mul,Uj a,Uj a];omega
inductive Chain (L:Lay ν)(s:ν):ν->Qk->Prop
 |nil:Chain L s s []
 |cons {n m:ν} {e:Nat} {w:Qk} (h:hdE L e=some n) (t:tlE L e=some m) (c:Chain L s m w):Chain L s n (e::w)
def YN (L:Lay ν)(a:Int)(φ:QU ν)(w:Qk):QU ν:=w.foldl (VQ L a) φ
theorem Hb {L:Lay ν}(hd:Dis L){s:ν}{a:Int}(p:ν):∀{w:Qk} {n:ν} {φ:QU ν},Chain L s n w->Vz L (YN L a φ w) p=Vz L φ p+a*(ind (s=p)-ind (n=p))
 |_,_,φ,.nil=>by
   show Vz L φ p=_;rw[Int.sub_self,Int.mul_zero,UT]
 |e::w,n,φ,.cons (m:=m) h t c=>by
   show Vz L (YN L a (VQ L a φ e) w) p=_;rw[Hb hd p c,AV hd h t,Uj,Uj,Uj];omega
def Within (L:Lay ν)(φ:QU ν):Prop := ∀x∈L,0<=φ x.1 x.2.1/\φ x.1 x.2.1<=x.2.2
def D4:∀{L:Lay ν},Dis L->∀{i j:Nat} {x y:ν×ν×Int},L[i]?=some x->L[j]?=some y->x.1=y.1->x.2.1=y.2.1->i=j:=fun{L} hd {i j x y} hi hj e1 e2=>by
 have a:(L.map fun x=>(x.1,x.2.1))[i]?=some (x.1,x.2.1):=by rw[Xq,hi];rfl
 have b:(L.map fun x=>(x.1,x.2.1))[j]?=some (x.1,x.2.1):=by rw[Xq,hj,e1,e2];rfl
 have li:i<(L.map fun x=>(x.1,x.2.1)).length:=(Xh.mp a).1
 exact(List.getElem?_inj li hd).mp (a.trans b.symm)
def Io {L:Lay ν}(hd:Dis L){φ:QU ν}(h:Within L φ){a:Int}(ha:0<=a){e:Nat}{r:Int}(he:rmE L φ e=some r)(hr:a<=r):Within L (VQ L a φ e):=by
 unfold rmE at he;cases ex:L[e/2]? with
 |none=>rw[ex]at he;cases he
 |some x =>
   rw[ex]at he;simp only[X6,Option.some.injEq]at he;have hx:=h x (List.mem_of_getElem? ex);intro y hy;have hyv:=h y hy;have hp:VQ L a φ e=VG φ x.1 x.2.1 (if e%2=0 then a else -a):=by unfold VQ;rw[ex]
   rw[hp];unfold VG;by_cases z:y.1=x.1/\y.2.1=x.2.1
   ·rw[Xd z]
    obtain⟨j,hj⟩:=List.mem_iff_getElem?.mp hy;have ij:=D4 hd hj ex z.1 z.2;subst ij;rw[ex]at hj;cases hj
    by_cases q:e%2=0
    ·rw[Xd q]at he ⊢;omega
    ·rw[Xb q]at he ⊢;omega
   ·rw[Xb z];exact hyv
def AY {L:Lay ν}(hd:Dis L){φ:QU ν}{a:Int}(ha:0<=a){e e':Nat}(ne:e'≠e){r:Int}(he:rmE L φ e'=some r):∃r',rmE L (VQ L a φ e) e'=some r'/\r<=r':=by
 unfold rmE at he ⊢;cases ey:L[e'/2]? with
 |none=>rw[ey]at he;cases he
 |some y =>
   rw[ey]at he;simp only[X6,Option.some.injEq]at he ⊢;refine⟨_,rfl,?_⟩;unfold VQ;cases ex:L[e/2]? with
   |none=>simp only[];omega
   |some x =>
     simp only[];unfold VG;by_cases z:y.1=x.1/\y.2.1=x.2.1
     ·rw[Xd z]
      have ij:=D4 hd ey ex z.1 z.2
      by_cases q:e%2=0
      ·have q':¬e'%2=0:=by omega
       rw[Xb q']at he ⊢;rw[Xd q];omega
      ·have q':e'%2=0:=by omega
       rw[Xd q']at he ⊢;rw[Xb q];omega
     ·rw[Xb z];omega
theorem Pl {L:Lay ν}(hd:Dis L){a:Int}(ha:0<=a):∀{w:Qk} {φ:QU ν},Within L φ->w.Nodup->(∀e∈w,∃r,rmE L φ e=some r/\a<=r)->Within L (YN L a φ w)
 |[],_,h,_,_=>h
 |e::w,φ,h,hn,hw=>by
   obtain⟨h1,h2⟩:=XO.mp hn;obtain⟨r,er,lr⟩:=hw e Xc;show Within L (YN L a (VQ L a φ e) w);refine Pl hd ha (Io hd h ha er lr) h2 fun e' he'=>?_;obtain⟨r',er',lr'⟩:=hw e' (Xe _ he');obtain⟨q,eq,lq⟩:=AY hd ha (e:=e) (fun z=>h1 (z▸he')) er'
   exact⟨q,eq,by omega⟩
abbrev Got (ν:Type):=List (ν×Option Nat)
def QR (es:Got ν):List ν:=es.map (·.1)
inductive Tree (L:Lay ν)(φ:QU ν)(s:ν):Got ν->Prop
 |root:Tree L φ s [(s,none)]
 |add {es:Got ν} {e:Nat} {n m:ν} {r:Int} (t:Tree L φ s es) (hn:n∉QR es) (hh:hdE L e=some n) (ht:tlE L e=some m) (hm:m∈QR es) (hr:rmE L φ e=some r) (h0:0<r):Tree L φ s (es++[(n,some e)])
def WQ (es:Got ν)(n:ν):Option (Option Nat):=es.lookup n
def Ig {es:Got ν}{n:ν}:n∉QR es->es.lookup n=none:=by
 induction es with
 |nil=>intro _;rfl
 |cons p es ih =>
   intro h;have h1:n≠p.1:=fun z=>h (by rw[z];exact Xc);have h2:n∉QR es:=fun z=>h (Xe _ z);obtain⟨k,v⟩:=p;rw[XL];have:(n==k)=false:=by rw[beq_eq_false_iff_ne];exact h1
   rw[this];exact ih h2
def HF {es fs:Got ν}{n:ν}:(es++fs).lookup n=(es.lookup n).or (fs.lookup n):=by
 induction es with
 |nil=>rfl
 |cons p es ih =>
   obtain⟨k,v⟩:=p;rw[WH,XL,XL];cases (n==k)
   ·exact ih
   ·rfl
inductive Back (L:Lay ν)(es:Got ν):ν->Qk->Prop
 |nil {n:ν} (h:WQ es n=some none):Back L es n []
 |cons {n m:ν} {e:Nat} {w:Qk} (h:WQ es n=some (some e)) (t:tlE L e=some m) (b:Back L es m w):Back L es n (e::w)
theorem Back.app {L:Lay ν}{es fs:Got ν}:∀{w:Qk} {n:ν},Back L es n w->Back L (es++fs) n w
 |_,_,.nil h=>.nil (by unfold WQ at h ⊢;rw[HF,h];rfl)
 |_,_,.cons h t b=>.cons (by unfold WQ at h ⊢;rw[HF,h];rfl) t b.app
structure WayOk (L:Lay ν)(φ:QU ν)(s:ν)(es:Got ν)(n:ν)(w:Qk):Prop where
 back:Back L es n w
 chain:Chain L s n w
 nodup:w.Nodup
 room:∀e∈w,∃r,rmE L φ e=some r/\0<r
 heads:∀e∈w,∃m,hdE L e=some m/\m∈QR es
theorem Tree.way {L:Lay ν}{φ:QU ν}{s:ν}:∀{es:Got ν},Tree L φ s es->∀n∈QR es,∃w,WayOk L φ s es n w
 |_,.root,n,hn=>by
   have e:n=s:=by simpa [QR] using hn
   subst e;exact⟨[],.nil (by simp[WQ]),.nil,Ul,(fun e h=>nomatch h),(fun e h=>nomatch h)⟩
 |_,.add (es:=es) (e:=e) (n:=k) (m:=m) t hk hh ht hm hr h0,n,hn=>by
   have hn':n∈QR es\/n=k:=by simpa [QR] using hn
   have sub:∀p,p∈QR es->p∈QR (es++[(k,some e)]):=fun p hp=>by
    unfold QR at hp ⊢;rw[Xr];exact Ui _ hp
   rcases hn' with hn'|rfl
   ·obtain⟨w,q⟩:=t.way n hn'
    exact⟨w,q.back.app,q.chain,q.nodup,q.room,fun e' he'=>let ⟨m',a,b⟩:=q.heads e' he';⟨m',a,sub _ b⟩⟩
   ·obtain⟨w,q⟩:=t.way m hm
    refine⟨e::w,.cons ?_ ht q.back.app,.cons hh ht q.chain,XO.mpr ⟨fun z=>?_,q.nodup⟩,fun e' he'=>?_,fun e' he'=>?_⟩
    ·unfold WQ
     rw[HF,Ig hk];simp
    ·obtain⟨m',a,b⟩:=q.heads e z
     rw[hh]at a;cases a;exact hk b
    ·rcases Xg.mp he' with rfl|he'
     ·exact⟨_,hr,h0⟩
     ·exact q.room e' he'
    ·rcases Xg.mp he' with rfl|he'
     ·exact⟨n,hh,by simp[QR]⟩
     ·obtain⟨m',a,b⟩:=q.heads e' he'
      exact⟨m',a,sub _ b⟩
theorem Tree.nodup {L:Lay ν}{φ:QU ν}{s:ν}:∀{es:Got ν},Tree L φ s es->(QR es).Nodup
 |_,.root=>by simp[QR]
 |_,.add (n:=k) t hk _ _ _ _ _=>by
   have:=t.nodup
   unfold QR at this hk ⊢;rw[Xr,List.nodup_append];refine⟨this,by simp,fun a ha b hb=>?_⟩;have e:b=k:=by simpa using hb
   exact fun z=>hk (e▸z▸ha)
theorem Tree.start {L:Lay ν}{φ:QU ν}{s:ν}:∀{es:Got ν},Tree L φ s es->s∈QR es
 |_,.root=>by simp[QR]
 |_,.add t _ _ _ _ _ _=>by
   have:=t.start
   unfold QR at this ⊢;rw[Xr];exact Ui _ this
theorem Tree.sub {L:Lay ν}{φ:QU ν}{s:ν}:∀{es:Got ν},Tree L φ s es->∀n∈QR es,n∈s::Wj L
 |_,.root,n,hn=>by
   have e:n=s:=by simpa [QR] using hn
   rw[e];exact Xc
 |_,.add (es:=es) (n:=k) t hk hh _ _ _ _,n,hn=>by
   have hn':n∈QR es\/n=k:=by simpa [QR] using hn
   rcases hn' with hn'|rfl
   ·exact t.sub n hn'
   ·exact Xe _ (List.mem_of_getElem? ((DJ L _).trans hh))
theorem Ho {α:Type} [DecidableEq α]:∀{xs ys:List α},xs.Nodup->(∀x∈xs,x∈ys)->xs.length<=ys.length
 |[],_,_,_=>XM _
 |x::xs,ys,hd,h=>by
   obtain⟨h1,h2⟩:=XO.mp hd;have hx:=h x Xc
   have:=Ho (xs:=xs) (ys:=ys.erase x) h2 fun z hz=>by
    have ne:z≠x:=fun q=>h1 (q▸hz)
    exact(List.mem_erase_of_ne ne).mpr (h z (Xe _ hz))
   rw[List.length_erase_of_mem hx]at this;have:0<ys.length:=List.length_pos_of_mem hx;rw[XJ];omega
def Tree.len {L:Lay ν}{φ:QU ν}{s:ν}{es:Got ν}(t:Tree L φ s es):es.length<=(Wj L).length+1:=by
 have:=Ho t.nodup t.sub
 simpa [QR] using this
def VW (L:Lay ν)(φ:QU ν)(es:Got ν):Prop := ∀e m n r,tlE L e=some m->hdE L e=some n->rmE L φ e=some r->0<r->m∈QR es->n∈QR es
end
end Mir
namespace Mir
inductive Nd where
 |start|fin
 |guest (k:Nat)
 |line (l t:Nat)
deriving DecidableEq
structure Gv where
 m:Nat
 ln:Nat->Nat
 wa:Qn
 mo:Qn
 th:Nat->Qm
def upN (y:Yd)(l:Nat):Nat:=(QX y l).getD 0
def Vd (y:Yd)(G:Gv)(k:Nat):Lay Nd:=(.start,.guest k,G.wa k)::(List.range y.T).flatMap fun t=>if G.th k t=true then [(.guest k,.line (G.ln k) t,G.mo k)] else []
def VA (y:Yd)(t:Nat):Lay Nd:=(.line 0 t,.fin,Zn y 0 t)::(List.range (y.ls.length-1)).flatMap fun i=>[(.line (i+1) t,.line (upN y (i+1)) t,Zn y (i+1) t)]
def Zf (y:Yd)(G:Gv):Lay Nd:=(List.range G.m).flatMap (Vd y G)++(List.range y.T).flatMap (VA y)
def Sg (A B:Lay Nd)(F:Nd->Nd->Int):Vf (A++B) F=Vf A F+Vf B F:=by
 unfold Vf;rw[Xr,Bd]
theorem GR (f:Nat->Lay Nd)(F:Nd->Nd->Int):∀n,Vf ((List.range n).flatMap f) F=Q3 (fun k=>Vf (f k) F) n
 |0=>rfl
 |n+1=>by
   rw[YH,Uh,Sg,GR f F n];simp[Q3]
def Sn (x:Nd×Nd×Int)(F:Nd->Nd->Int):Vf [x] F=F x.1 x.2.1:=by simp[Vf]
def SV (x:Nd×Nd×Int)(L:Lay Nd)(F:Nd->Nd->Int):Vf (x::L) F=F x.1 x.2.1+Vf L F:=by simp[Vf]
def AT (y:Yd)(G:Gv)(F:Nd->Nd->Int)(k:Nat):Vf (Vd y G k) F=F .start (.guest k)+Q3 (fun t=>if G.th k t=true then F (.guest k) (.line (G.ln k) t) else 0) y.T:=by
 unfold Vd;rw[SV,GR];congr 1;refine Zj fun t _=>?_
 split
 ·rw[Sn]
 ·rfl
def AE (y:Yd)(F:Nd->Nd->Int)(t:Nat):Vf (VA y t) F=F (.line 0 t) .fin+Q3 (fun i=>F (.line (i+1) t) (.line (upN y (i+1)) t)) (y.ls.length-1):=by
 unfold VA;rw[SV,GR];congr 1;refine Zj fun t _=>?_;rw[Sn]
def Hq (y:Yd)(G:Gv)(F:Nd->Nd->Int):Vf (Zf y G) F =
 Q3 (fun k=>F .start (.guest k)+Q3 (fun t=>if G.th k t=true then F (.guest k) (.line (G.ln k) t) else 0) y.T) G.m +
 Q3 (fun t=>F (.line 0 t) .fin+Q3 (fun i=>F (.line (i+1) t) (.line (upN y (i+1)) t)) (y.ls.length-1)) y.T:=by
 unfold Zf;rw[Sg,GR,GR];congr 1
 ·exact Zj fun k _=>AT y G F k
 ·exact Zj fun t _=>AE y F t
def Wt {y:Yd}{G:Gv}{x:Nd×Nd×Int}{k:Nat}:x∈Vd y G k↔x=(.start,.guest k,G.wa k)\/∃t,t<y.T/\G.th k t=true/\x=(.guest k,.line (G.ln k) t,G.mo k):=by
 unfold Vd;rw[Xg,Wb];refine or_congr Iff.rfl ⟨fun⟨t,ht,hx⟩=>?_,fun⟨t,ht,hc,hx⟩=>⟨t,XF.mpr ht,by rw[Xd hc];exact Xi.mpr hx⟩⟩
 by_cases c:G.th k t=true
 ·rw[Xd c]at hx
  exact⟨t,XF.mp ht,c,Xi.mp hx⟩
 ·rw[Xb c]at hx;cases hx
def Jg {y:Yd}{x:Nd×Nd×Int}{t:Nat}:x∈VA y t↔x=(.line 0 t,.fin,Zn y 0 t)\/∃i,i<y.ls.length-1/\x=(.line (i+1) t,.line (upN y (i+1)) t,Zn y (i+1) t):=by
 unfold VA;rw[Xg,Wb];exact or_congr Iff.rfl ⟨fun⟨i,hi,hx⟩=>⟨i,XF.mp hi,Xi.mp hx⟩,fun⟨i,hi,hx⟩=>⟨i,XF.mpr hi,Xi.mpr hx⟩⟩
def GJ {y:Yd}{G:Gv}{x:Nd×Nd×Int}:x∈Zf y G↔(∃k,k<G.m/\x∈Vd y G k)\/∃t,t<y.T/\x∈VA y t:=by
 unfold Zf;rw[XG,Wb,Wb];simp only[XF]
def BX (n:Nat):(List.range n).Pairwise (· ≠ ·):=List.nodup_range
def BW (y:Yd)(G:Gv):Dis (Zf y G):=by
 unfold Dis List.Nodup;rw[List.pairwise_map];unfold Zf;rw[List.pairwise_append];refine⟨?_,?_,?_⟩
 ·rw[Mv]
  refine⟨fun k _=>?_,(BX _).imp fun{k j} hkj x hx z hz=>?_⟩
  ·unfold Vd
   rw[List.pairwise_cons];refine⟨fun x hx=>?_,?_⟩
   ·obtain⟨t,_,hx⟩:=Wb.mp hx
    split at hx
    ·rw[Xi.mp hx];intro q;cases q
    ·cases hx
   ·rw[Mv]
    refine⟨fun t _=>?_,(BX _).imp fun{t u} htu x hx z hz=>?_⟩
    ·split
     ·exact List.pairwise_singleton _ _
     ·exact List.Pairwise.nil
    ·split at hx
     ·split at hz
      ·rw[Xi.mp hx,Xi.mp hz]
       intro q;simp at q;exact htu q
      ·cases hz
     ·cases hx
  ·rcases Wt.mp hx with rfl|⟨t,_,_,rfl⟩<;>rcases Wt.mp hz with rfl|⟨u,_,_,rfl⟩<;>intro q<;>simp at q
   ·exact hkj q
   ·exact hkj q.1
 ·rw[Mv]
  refine⟨fun t _=>?_,(BX _).imp fun{t u} htu x hx z hz=>?_⟩
  ·unfold VA
   rw[List.pairwise_cons];refine⟨fun x hx=>?_,?_⟩
   ·obtain⟨i,_,hx⟩:=Wb.mp hx
    rw[Xi.mp hx];intro q;cases q
   ·rw[Mv]
    refine⟨fun t _=>List.pairwise_singleton _ _,(BX _).imp fun{i j} hij x hx z hz=>?_⟩;rw[Xi.mp hx,Xi.mp hz];intro q;simp at q;exact hij q.1
  ·rcases Jg.mp hx with rfl|⟨i,_,rfl⟩<;>rcases Jg.mp hz with rfl|⟨j,_,rfl⟩<;>intro q<;>simp at q
   ·exact htu q
   ·exact htu q.1.2
 ·intro x hx z hz
  obtain⟨k,_,hx⟩:=Wb.mp hx;obtain⟨t,_,hz⟩:=Wb.mp hz
  rcases Wt.mp hx with rfl|⟨t',_,_,rfl⟩<;>rcases Jg.mp hz with rfl|⟨j,_,rfl⟩<;>intro q<;>simp at q
end Mir
namespace Mir
def Zp (G:Gv)(φ:QU Nd)(t k:Nat):Int:=if G.th k t=true then φ (.guest k) (.line (G.ln k) t) else 0
def upF (y:Yd)(φ:QU Nd)(t l:Nat):Int:=if l=0 then φ (.line 0 t) .fin else φ (.line l t) (.line (upN y l) t)
theorem HQ (f:Qn):∀n,Q3 f (n+1)=f 0+Q3 (fun i=>f (i+1)) n
 |0=>by simp[Q3]
 |n+1=>by
   show Q3 f (n+1)+f (n+1)=_;rw[HQ f n];simp[Q3];omega
def ZO {p:Prop} [Decidable p] (h:¬p):ind p=0:=Xb h
def BF {p q:Prop} [Decidable p] [Decidable q] (h:p↔q):ind p=ind q:=by unfold ind;simp only[h]
def Es (y:Yd)(G:Gv)(φ:QU Nd){k0:Nat}(hk:k0<G.m):Vz (Zf y G) φ (.guest k0)=Q3 (fun t=>Zp G φ t k0) y.T-φ .start (.guest k0):=by
 unfold Vz;rw[Hq];have h2:Q3 (fun t=>φ (.line 0 t) .fin*(ind (Nd.line 0 t=.guest k0)-ind (Nd.fin=.guest k0))+Q3 (fun i=>φ (.line (i+1) t) (.line (upN y (i+1)) t)*(ind (Nd.line (i+1) t=.guest k0)-ind (Nd.line (upN y (i+1)) t=.guest k0))) (y.ls.length-1)) y.T=0:=by
  rw[Zj (g:=fun _=>0) fun t _=>?_,VL];rw[ZO (fun z=>nomatch z),ZO (fun z=>nomatch z),Zj (g:=fun _=>0) fun i _=>?_,VL]
  ·simp
  ·rw[ZO (fun z=>nomatch z),ZO (fun z=>nomatch z)];simp
 rw[h2,UT];rw[Zj (g:=fun k=>if k=k0 then Q3 (fun t=>Zp G φ t k0) y.T-φ .start (.guest k0) else 0) fun k _=>?_,UD,Xd hk];rw[ZO (p:=Nd.start=.guest k0) (fun z=>nomatch z)]
 by_cases e:k=k0
 ·subst e
  rw[Xd rfl];have:Q3 (fun t=>if G.th k t=true then φ (.guest k) (.line (G.ln k) t)*(ind (Nd.guest k=.guest k)-ind (Nd.line (G.ln k) t=.guest k)) else 0) y.T=Q3 (fun t=>Zp G φ t k) y.T:=by
   refine Zj fun t _=>?_;unfold Zp;split
   ·rw[ZO (p:=Nd.line (G.ln k) t=.guest k) (fun z=>nomatch z)]
    simp[ind]
   ·rfl
  rw[this];simp[ind];omega
 ·have ne:¬Nd.guest k=.guest k0:=fun z=>e (by injection z)
  rw[Xb e,ZO ne,Zj (g:=fun _=>0) fun t _=>?_,VL]
  ·simp
  ·rw[ZO (p:=Nd.line (G.ln k) t=.guest k0) (fun z=>nomatch z)]
   simp
def DU {y:Yd}(ok:y.Ok){c l:Nat}(h0:0<c)(hc:c<y.ls.length):upN y c=l↔QX y c=some l:=by
 obtain⟨a,ea,_⟩:=ok.ups c h0 hc;unfold upN;rw[ea];simp
def AO {y:Yd}(ok:y.Ok)(G:Gv)(φ:QU Nd){l t0:Nat}(hl:l<y.ls.length)(ht:t0<y.T):Vz (Zf y G) φ (.line l t0) =
 upF y φ t0 l-Q3 (fun k=>Zp G φ t0 k*ind (G.ln k=l)) G.m-Q3 (fun c=>if QX y c=some l then upF y φ t0 c else 0) y.ls.length:=by
 unfold Vz;rw[Hq];have h1:Q3 (fun k=>φ .start (.guest k)*(ind (Nd.start=.line l t0)-ind (Nd.guest k=.line l t0))+Q3 (fun t=>if G.th k t=true then φ (.guest k) (.line (G.ln k) t)*(ind (Nd.guest k=.line l t0)-ind (Nd.line (G.ln k) t=.line l t0)) else 0) y.T) G.m = - Q3 (fun k=>Zp G φ t0 k*ind (G.ln k=l)) G.m:=by
  rw[show-Q3 (fun k=>Zp G φ t0 k*ind (G.ln k=l)) G.m=(-1)*Q3 (fun k=>Zp G φ t0 k*ind (G.ln k=l)) G.m by omega,<- GL];refine Zj fun k _=>?_;rw[ZO (p:=Nd.start=.line l t0) (fun z=>nomatch z),ZO (p:=Nd.guest k=.line l t0) (fun z=>nomatch z)];rw[Zj (g:=fun t=>if t=t0 then-(Zp G φ t0 k*ind (G.ln k=l)) else 0) fun t _=>?_,UD,Xd ht]
  ·simp
  ·by_cases e:t=t0
   ·subst e
    rw[Xd rfl,BF (p:=Nd.line (G.ln k) t=.line l t) (q:=G.ln k=l) (by simp)];unfold Zp;split
    ·rw[Int.zero_sub,Int.mul_neg]
    ·simp
   ·rw[Xb e,ZO (p:=Nd.line (G.ln k) t=.line l t0) (fun z=>e (by injection z))]
    simp
 rw[h1];have h2:Q3 (fun t=>φ (.line 0 t) .fin*(ind (Nd.line 0 t=.line l t0)-ind (Nd.fin=.line l t0))+Q3 (fun i=>φ (.line (i+1) t) (.line (upN y (i+1)) t)*(ind (Nd.line (i+1) t=.line l t0)-ind (Nd.line (upN y (i+1)) t=.line l t0))) (y.ls.length-1)) y.T
  = upF y φ t0 l-Q3 (fun c=>if QX y c=some l then upF y φ t0 c else 0) y.ls.length:=by
  rw[Zj (g:=fun t=>if t=t0 then upF y φ t0 l-Q3 (fun c=>if QX y c=some l then upF y φ t0 c else 0) y.ls.length else 0) fun t _=>?_,UD,Xd ht];rw[ZO (p:=Nd.fin=.line l t0) (fun z=>nomatch z)]
  by_cases e:t=t0
  ·subst e
   rw[Xd rfl,BF (p:=Nd.line 0 t=.line l t) (q:=0=l) (by simp)];have hn:y.ls.length=(y.ls.length-1)+1:=by omega
   have e1:upF y φ t l=Q3 (fun c=>if c=l then upF y φ t l else 0) y.ls.length:=by rw[UD,Xd hl]
   have e2:∀c,c<y.ls.length->(if c=l then upF y φ t l else 0)=upF y φ t c*ind (c=l):=fun c _=>by
    by_cases q:c=l
    ·subst q;simp[ind]
    ·simp[ind,q]
   rw[e1,Zj e2,hn,HQ,HQ];have u0:¬QX y 0=some l:=fun z=>by rw[ok.up0]at z;cases z
   have f0:upF y φ t 0=φ (.line 0 t) .fin:=by unfold upF;rw[Xd rfl]
   rw[Xb u0,f0,<- hn];have e3:Q3 (fun i=>φ (.line (i+1) t) (.line (upN y (i+1)) t)*(ind (Nd.line (i+1) t=.line l t)-ind (Nd.line (upN y (i+1)) t=.line l t))) (y.ls.length-1)
    = Q3 (fun i=>upF y φ t (i+1)*ind (i+1=l)) (y.ls.length-1)+Q3 (fun i => -1*(if QX y (i+1)=some l then upF y φ t (i+1) else 0)) (y.ls.length-1):=by
    rw[<- GG];refine Zj fun i hi=>?_;rw[BF (p:=Nd.line (i+1) t=.line l t) (q:=i+1=l) (by simp),BF (p:=Nd.line (upN y (i+1)) t=.line l t) (q:=QX y (i+1)=some l) (by rw[<- DU ok (by omega) (by omega)];simp)]
    have:upF y φ t (i+1)=φ (.line (i+1) t) (.line (upN y (i+1)) t):=by unfold upF;rw[Xb (by omega)]
    rw[this,Uj];by_cases q:QX y (i+1)=some l
    ·rw[Xd q];simp[ind,q];omega
    ·rw[Xb q];simp[ind,q]
   rw[e3,GL];simp only[Int.sub_zero];omega
  ·rw[Xb e,ZO (p:=Nd.line 0 t=.line l t0) (fun z=>e (by injection z)),Zj (g:=fun _=>0) fun i _=>?_,VL]
   ·simp
   ·rw[ZO (p:=Nd.line (i+1) t=.line l t0) (fun z=>e (by injection z)),ZO (p:=Nd.line (upN y (i+1)) t=.line l t0) (fun z=>e (by injection z))]
    simp
 rw[h2];omega
end Mir
namespace Mir
section
variable {ν:Type} [DecidableEq ν]
def VW.fwd {L:Lay ν}{φ:QU ν}(hw:Within L φ){es:Got ν}(hc:VW L φ es){x:ν×ν×Int}(hx:x∈L)(h1:x.1∈QR es)(h2:x.2.1∉QR es):φ x.1 x.2.1=x.2.2:=by
 obtain⟨i,hi⟩:=List.mem_iff_getElem?.mp hx;have e:(2*i)/2=i:=by omega
 have e2:(2*i)%2=0:=by omega
 by_cases z:φ x.1 x.2.1=x.2.2
 ·exact z
 ·have:=hw x hx
  exact Xl (hc (2*i) x.1 x.2.1 (x.2.2-φ x.1 x.2.1) (by unfold tlE;rw[e,hi,e2];rfl) (by unfold hdE;rw[e,hi,e2];rfl) (by unfold rmE;rw[e,hi,e2];rfl) (by omega) h1) h2
def VW.bwd {L:Lay ν}{φ:QU ν}(hw:Within L φ){es:Got ν}(hc:VW L φ es){x:ν×ν×Int}(hx:x∈L)(h1:x.1∉QR es)(h2:x.2.1∈QR es):φ x.1 x.2.1=0:=by
 obtain⟨i,hi⟩:=List.mem_iff_getElem?.mp hx;have e:(2*i+1)/2=i:=by omega
 have e2:¬(2*i+1)%2=0:=by omega
 by_cases z:φ x.1 x.2.1=0
 ·exact z
 ·have:=hw x hx
  exact Xl (hc (2*i+1) x.2.1 x.1 (φ x.1 x.2.1) (by unfold tlE;rw[e,hi];simp[e2]) (by unfold hdE;rw[e,hi];simp[e2]) (by unfold rmE;rw[e,hi];simp[e2]) (by omega) h2) h1
end
structure Flow (y:Yd)(G:Gv)(φ:QU Nd):Prop where
 wi:Within (Zf y G) φ
 kp:∀n,n≠.start->n≠.fin->Vz (Zf y G) φ n=0
def R1 {y:Yd}{G:Gv}{k:Nat}(hk:k<G.m):((.start,.guest k,G.wa k):Nd×Nd×Int)∈Zf y G:=GJ.mpr (.inl ⟨k,hk,Wt.mpr (.inl rfl)⟩)
def D8 {y:Yd}{G:Gv}{k t:Nat}(hk:k<G.m)(ht:t<y.T)(h:G.th k t=true):((.guest k,.line (G.ln k) t,G.mo k):Nd×Nd×Int)∈Zf y G:=GJ.mpr (.inl ⟨k,hk,Wt.mpr (.inr ⟨t,ht,h,rfl⟩)⟩)
def N9 {y:Yd}{G:Gv}{t:Nat}(ht:t<y.T):((.line 0 t,.fin,Zn y 0 t):Nd×Nd×Int)∈Zf y G:=GJ.mpr (.inr ⟨t,ht,Jg.mpr (.inl rfl)⟩)
def MT {y:Yd}{G:Gv}{t l:Nat}(ht:t<y.T)(h0:0<l)(hl:l<y.ls.length):((.line l t,.line (upN y l) t,Zn y l t):Nd×Nd×Int)∈Zf y G :=
 GJ.mpr (.inr ⟨t,ht,Jg.mpr (.inr ⟨l-1,by omega,by rw[show l-1+1=l by omega]⟩)⟩)
def moT (G:Gv)(t k:Nat):Int:=if G.th k t=true then G.mo k else 0
section
variable {y:Yd}{G:Gv}{φ:QU Nd}(F:Flow y G φ)
include F
theorem Flow.tak {k t:Nat}(hk:k<G.m)(ht:t<y.T):0<=Zp G φ t k/\Zp G φ t k<=moT G t k:=by
 unfold Zp moT;by_cases c:G.th k t=true
 ·rw[Xd c,Xd c]
  exact F.wi _ (D8 hk ht c)
 ·rw[Xb c,Xb c]
  omega
theorem Flow.total {k:Nat}(hk:k<G.m):Q3 (fun t=>Zp G φ t k) y.T=φ .start (.guest k):=by
 have:=F.kp (.guest k) (fun z=>nomatch z) (fun z=>nomatch z)
 rw[Es y G φ hk]at this;omega
theorem Flow.want {k:Nat}(hk:k<G.m):0<=φ .start (.guest k)/\φ .start (.guest k)<=G.wa k:=F.wi _ (R1 hk)
theorem Flow.up (ok:y.Ok)(hln:∀k,k<G.m->G.ln k<y.ls.length){t:Nat}(ht:t<y.T):∀n l,y.ls.length<=l+n->l<y.ls.length->upF y φ t l=Vm y G.m G.ln (Zp G φ t) l
 |0,l,h,hl=>by omega
 |n+1,l,h,hl=>by
   have z:=F.kp (.line l t) (fun z=>nomatch z) (fun z=>nomatch z)
   rw[AO ok G φ hl ht]at z;have e:Q3 (fun c=>if QX y c=some l then upF y φ t c else 0) y.ls.length=Q3 (fun c=>if QX y c=some l then Vm y G.m G.ln (Zp G φ t) c else 0) y.ls.length:=by
    refine Zj fun c hc=>?_
    by_cases u:QX y c=some l
    ·rw[Xd u,Xd u]
     have:=Ux ok hc u
     exact Flow.up ok hln ht n c (by omega) hc
    ·rw[Xb u,Xb u]
   rw[GW ok hln _ hl,<- e];omega
theorem Flow.up_ok (ok:y.Ok){t l:Nat}(ht:t<y.T)(hl:l<y.ls.length):0<=upF y φ t l/\upF y φ t l<=Zn y l t:=by
 unfold upF;by_cases z:l=0
 ·subst z
  rw[Xd rfl];exact F.wi _ (N9 ht)
 ·rw[Xb z]
  exact F.wi _ (MT ht (by omega) hl)
theorem Flow.load (ok:y.Ok)(hln:∀k,k<G.m->G.ln k<y.ls.length){t l:Nat}(ht:t<y.T)(hl:l<y.ls.length):Vm y G.m G.ln (Zp G φ t) l<=Zn y l t:=by
 rw[<- F.up ok hln ht y.ls.length l (by omega) hl];exact(F.up_ok ok ht hl).2
def V0 (es:Got Nd)(k:Nat):Bool:=decide (Nd.guest k∈QR es)
def Tb (es:Got Nd)(t l:Nat):Bool:=decide (Nd.line l t∈QR es)
omit F in
theorem not_of {p:Prop} [Decidable p] (h:decide p=false):¬p:=Ug h
theorem Flow.shut (ok:y.Ok)(hln:∀k,k<G.m->G.ln k<y.ls.length){es:Got Nd}(hc:VW (Zf y G) φ es)(hf:Nd.fin∉QR es){t:Nat}(ht:t<y.T) :
 Shut y G.m G.ln (Zp G φ t) (moT G t) (fun l=>Zn y l t) (V0 es) (Tb es t) where
 nn k hk:=(F.tak hk ht).1
 full k hk hS hR:=by
  unfold Zp moT;by_cases c:G.th k t=true
  ·rw[Xd c,Xd c]
   exact hc.fwd F.wi (D8 hk ht c) (X0 hS) (not_of hR)
  ·rw[Xb c,Xb c]
 none k hk hS hR:=by
  unfold Zp;by_cases c:G.th k t=true
  ·rw[Xd c]
   exact hc.bwd F.wi (D8 hk ht c) (not_of hS) (X0 hR)
  ·rw[Xb c]
 top hR:=by
  have h0:=ok.l1;rw[<- F.up ok hln ht y.ls.length 0 (by omega) (by omega)];unfold upF;rw[Xd rfl];exact hc.fwd F.wi (N9 ht) (X0 hR) hf
 out c a hcl u h1 h2:=by
  have c0:c≠0:=fun z=>by subst z;rw[ok.up0]at u;cases u
  have ea:upN y c=a:=(DU ok (by omega) hcl).mpr u;rw[<- F.up ok hln ht y.ls.length c (by omega) hcl];unfold upF;rw[Xb c0];exact hc.fwd F.wi (MT ht (by omega) hcl) (X0 h1) (by rw[ea];exact not_of h2)
 inn c a hcl u h1 h2:=by
  have c0:c≠0:=fun z=>by subst z;rw[ok.up0]at u;cases u
  have ea:upN y c=a:=(DU ok (by omega) hcl).mpr u;rw[<- F.up ok hln ht y.ls.length c (by omega) hcl];unfold upF;rw[Xb c0];exact hc.bwd F.wi (MT ht (by omega) hcl) (not_of h1) (by rw[ea];exact X0 h2)
theorem Flow.filled {es:Got Nd}(hc:VW (Zf y G) φ es)(hs:Nd.start∈QR es){k:Nat}(hk:k<G.m)(hS:V0 es k=false):Q3 (fun t=>Zp G φ t k) y.T=G.wa k:=by
 rw[F.total hk];exact hc.fwd F.wi (R1 hk) hs (not_of hS)
def W3 (G:Gv)(S:Qm)(t l:Nat):Int:=Q3 (fun k=>Zh S (moT G t) k*ind (G.ln k=l)) G.m
omit F in
theorem Rm {y:Yd}(ok:y.Ok):∀n j,j<n->j<y.ls.length->0∈upL y j
 |0,j,h,_=>by omega
 |n+1,j,h,hj=>by
   by_cases z:j=0
   ·subst z;exact Hd y 0
   ·obtain⟨a,ea,la⟩:=ok.ups j (by omega) hj
    exact(Dj ok (by omega) hj ea 0 (fun q=>z q.symm)).mpr (Rm ok n a (by omega) (by omega))
omit F in
theorem RP {y:Yd}(ok:y.Ok){m:Nat}{ln:Nat->Nat}(hln:∀k,k<m->ln k<y.ls.length)(f:Qn):Vm y m ln f 0=Q3 f m :=
 Zj fun k hk=>by
  unfold ind;rw[Xd (Rm ok _ _ (W1 _) (hln k hk)),Int.mul_one]
theorem Flow.no_more (ok:y.Ok)(hln:∀k,k<G.m->G.ln k<y.ls.length)(S:Qm){t:Nat}(ht:t<y.T):Q3 (Zh S (Zp G φ t)) G.m<=passes y (fun l=>Zn y l t) (W3 G S t) 0:=by
 have l1:=ok.l1;rw[<- RP ok hln];refine Mir.no_more ok hln (fun l hl=>?_) (fun l hl=>?_) y.ls.length 0 (by omega) (by omega)
 ·refine YX fun k hk=>?_
  have q:=F.tak hk ht
  by_cases e:G.ln k=l
  ·unfold Zh ind
   rw[Xd e];split<;>omega
  ·rw[ZO e];omega
 ·have q:=F.load ok hln ht hl
  have q2:=Re (y:=y) (ln:=G.ln) (f:=Zh S (Zp G φ t)) (g:=Zp G φ t) (fun k hk=>Hi (F.tak hk ht).1) l;omega
theorem Flow.meet (ok:y.Ok)(hln:∀k,k<G.m->G.ln k<y.ls.length){es:Got Nd}(hc:VW (Zf y G) φ es)(hf:Nd.fin∉QR es){t:Nat}(ht:t<y.T) :
 passes y (fun l=>Zn y l t) (W3 G (V0 es) t) 0=Q3 (Zh (V0 es) (Zp G φ t)) G.m:=by
 have l1:=ok.l1;have a:=F.no_more ok hln (V0 es) ht;have b:=(F.shut ok hln hc hf ht).all ok hln (own:=W3 G (V0 es) t) (fun l hl=>rfl) y.ls.length 0 (by omega) (by omega) (fun _=>.inl rfl);rw[RP ok hln]at b;omega
omit F in
theorem DW (f g:Qn):∀n,Q3 (fun k=>f k-g k) n=Q3 f n-Q3 g n
 |0=>rfl
 |n+1=>by
   simp only[Q3];rw[DW f g n];omega
theorem Flow.lack (ok:y.Ok)(hln:∀k,k<G.m->G.ln k<y.ls.length){es:Got Nd}(hc:VW (Zf y G) φ es)(hs:Nd.start∈QR es)(hf:Nd.fin∉QR es) :
 Q3 (fun k=>G.wa k-Q3 (fun t=>Zp G φ t k) y.T) G.m=Q3 (Zh (V0 es) G.wa) G.m-Q3 (fun t=>passes y (fun l=>Zn y l t) (W3 G (V0 es) t) 0) y.T:=by
 rw[Zj (n:=y.T) fun t ht=>F.meet ok hln hc hf ht,Mc,<- DW];refine Zj fun k hk=>?_
 cases s:V0 es k with
 |true =>
   have:Q3 (fun t=>Zh (V0 es) (Zp G φ t) k) y.T=Q3 (fun t=>Zp G φ t k) y.T:=Zj fun t _=>by unfold Zh;rw[Xd s]
   rw[this];unfold Zh;rw[Xd s]
 |false =>
   have:Q3 (fun t=>Zh (V0 es) (Zp G φ t) k) y.T=0:=by
    rw[Zj (g:=fun _=>0) fun t _=>?_,VL];unfold Zh;rw[Xb (by rw[s];decide)]
   rw[this,F.filled hc hs hk s];unfold Zh;rw[Xb (by rw[s];decide)];omega
omit F in
theorem EE (y:Yd)(G:Gv)(φ:QU Nd):Vz (Zf y G) φ .start=Q3 (fun k=>φ .start (.guest k)) G.m:=by
 unfold Vz;rw[Hq];have h2:Q3 (fun t=>φ (.line 0 t) .fin*(ind (Nd.line 0 t=.start)-ind (Nd.fin=.start))+Q3 (fun i=>φ (.line (i+1) t) (.line (upN y (i+1)) t)*(ind (Nd.line (i+1) t=.start)-ind (Nd.line (upN y (i+1)) t=.start))) (y.ls.length-1)) y.T=0:=by
  rw[Zj (g:=fun _=>0) fun t _=>?_,VL];rw[ZO (fun z=>nomatch z),ZO (fun z=>nomatch z),Zj (g:=fun _=>0) fun i _=>?_,VL]
  ·simp
  ·rw[ZO (fun z=>nomatch z),ZO (fun z=>nomatch z)];simp
 rw[h2,UT];refine Zj fun k _=>?_;rw[ZO (p:=Nd.guest k=.start) (fun z=>nomatch z),Zj (g:=fun _=>0) fun t _=>?_,VL]
 ·simp[ind]
 ·rw[ZO (p:=Nd.line (G.ln k) t=.start) (fun z=>nomatch z)];simp
theorem Flow.push {a:Int}(ha:0<=a){w:Qk}(hw:Chain (Zf y G) .start .fin w)(hn:w.Nodup)(hr:∀e∈w,∃r,rmE (Zf y G) φ e=some r/\a<=r) :
 Flow y G (YN (Zf y G) a φ w)/\Vz (Zf y G) (YN (Zf y G) a φ w) .start=Vz (Zf y G) φ .start+a:=by
 refine⟨⟨Pl (BW y G) ha F.wi hn hr,fun n h1 h2=>?_⟩,?_⟩
 ·rw[Hb (BW y G) n hw,F.kp n h1 h2,ZO (fun z=>h1 z.symm),ZO (fun z=>h2 z.symm)]
  simp
 ·rw[Hb (BW y G) .start hw,ZO (p:=Nd.fin=.start) (fun z=>nomatch z)]
  simp[ind]
theorem Flow.most:Vz (Zf y G) φ .start<=Q3 G.wa G.m:=by
 rw[EE];exact YX fun k hk=>(F.want hk).2
end
def Ty {y:Yd}{G:Gv}(h:∀x∈Zf y G,0<=x.2.2):Flow y G (fun _ _=>0):=by
 refine⟨fun x hx=>⟨Jt _,h x hx⟩,fun n _ _=>?_⟩
 unfold Vz Vf;have:∀L:Lay Nd,(L.map fun x=>(0:Int)*(ind (x.1=n)-ind (x.2.1=n))).sum=0:=fun L=>by
  induction L with
  |nil=>rfl
  |cons x L ih=>rw[Xs,Y2,ih];simp
 exact this _
end Mir
namespace Mir
open PySem
def Eo (e:Nat):Builtin.bitAnd (e:Int) 1=((e%2:Nat):Int):=by
 unfold Builtin.bitAnd;have h1:decide ((0:Int)<=(e:Int))=true:=XW (by omega);have h2:decide ((0:Int)<=1)=true:=rfl;rw[h1,h2];show((((e:Int).toNat &&& (1:Int).toNat:Nat)):Int)=_;rw[Xz,show(1:Int).toNat=1 from rfl,Nat.and_one_is_mod]
def Lp (e:Nat):e ||| 1=e+1-e%2:=by
 apply Nat.eq_of_testBit_eq
 intro i;rw[Nat.testBit_or];have h2:e%2=0\/e%2=1:=by omega
 cases i with
 |zero =>
   rw[Nat.testBit_zero,Nat.testBit_zero,Nat.testBit_zero];have:(e+1-e%2)%2=1:=by omega
   rw[this];rcases h2 with h|h<;>rw[h]<;>rfl
 |succ i =>
   rw[Nat.testBit_succ,Nat.testBit_succ,Nat.testBit_succ];have:(e+1-e%2)/2=e/2:=by omega
   rw[this];simp
def AI (e:Nat):Builtin.bitOr (e:Int) 1=((e+1-e%2:Nat):Int):=by
 unfold Builtin.bitOr;have a:Builtin.bitNot (e:Int) = -(e:Int)-1:=rfl;have b:Builtin.bitNot 1 = -2:=rfl
 have c:Builtin.bitAnd (Builtin.bitNot (e:Int)) (Builtin.bitNot 1)=Builtin.bitNot (((e ||| 1:Nat)):Int):=by
  rw[a,b];unfold Builtin.bitAnd;have h1:decide ((0:Int) <= -(e:Int)-1)=false:=XN (by omega);have h2:decide ((0:Int) <= -2)=false:=rfl;rw[h1,h2];show Builtin.bitNot ((((Builtin.bitNot (-(e:Int)-1)).toNat ||| (Builtin.bitNot (-2)).toNat:Nat)):Int)=_;have e1:(Builtin.bitNot (-(e:Int)-1)).toNat=e:=by show(-(-(e:Int)-1)-1).toNat=e;omega
  have e2:(Builtin.bitNot (-2)).toNat=1:=rfl;rw[e1,e2]
 rw[c,Lp];show -(-(((e+1-e%2:Nat)):Int)-1)-1=_;omega
def P0 (e:Nat):Builtin.bitXor (e:Int) 1=(ZeR e:Int):=by
 unfold Builtin.bitXor;rw[Eo,AI];unfold ZeR;split<;>omega
end Mir
namespace L2
open PySem PySem.Spec PyProof.Rows
abbrev KK:=List Key×List Key
def WL (P:Program)(w:World)(a:Addr)(xs:List (KK×Addr×V))(h:Heap):Prop:=xs.length<=sizeLine/\(a==sysModules)=false/\∃vs:List (KK×Addr×Value),
 Paired (fun(x:KK×Addr×V) (y:KK×Addr×Value)=>x.1=y.1/\x.2.1=y.2.1/\QL x.2.2 y.2.2) xs vs /\
 ∃o es ep,h.get? a=some o/\o.ExactDict/\o.data=.dict es ep/\es.toList=vs.map (entryOfKey (DO (Vq P w)))/\(vs.map (·.1)).Nodup
def pdO (P:Program)(w:World)(a:Addr)(xs:List (KK×Addr×V)):HO:=.ext (WL P w a xs)
def WL.move {P:Program}{w:World}{a:Addr}{xs:List (KK×Addr×V)}{h1 h2:Heap}(x:WL P w a xs h1)(k:∀o,h1.get? a=some o->h2.get? a=some o):WL P w a xs h2:=by
 obtain⟨z,y,vs,r,o,es,ep,e1,e2,e3,e4,e5⟩:=x
 exact⟨z,y,vs,r,o,es,ep,k _ e1,e2,e3,e4,e5⟩
def WL.ok {P:Program}{w:World}{a:Addr}{xs:List (KK×Addr×V)}{H:Hp}{h:Heap}(x:WL P w a xs h):Z7 P w H h a (pdO P w a xs):=by
 refine⟨x,?_,fun h1 h2 y k=>y.move k⟩;obtain⟨z,y,vs,r,o,es,ep,e1,_⟩:=x
 exact⟨o,e1⟩
def Ym (H:Hp)(k:KK)(b:Addr):Prop := ∃p q,H b=some (.tup [.ref p,.ref q])/\H p=some (.tup (k.1.map kV))/\H q=some (.tup (k.2.map kV))
def Ym.mono {H H':Hp}(s:∀b ys,H b=some (.tup ys)->H' b=some (.tup ys)){k:KK}{b:Addr}(x:Ym H k b):Ym H' k b:=by
 obtain⟨p,q,h1,h2,h3⟩:=x
 exact⟨p,q,s _ _ h1,s _ _ h2,s _ _ h3⟩
section
variable {P:Program}{w:World}{H:Hp}{h:Heap}{a b:Addr}
def Sb {k:KK}(ok:HOk P w H h)(x:Ym H k b):(DO (Vq P w)).is h k b:=by
 obtain⟨p,q,h1,h2,h3⟩:=x;obtain⟨_,its,r,o,e1,e2,n,e3⟩:=(show Z7 P w H h b (.tup [.ref p,.ref q]) from ok b _ h1)
 cases r with
 |cons r1 r =>
   cases r with
   |cons r2 r =>
     cases r
     cases (show _=Value.ref p from r1)
     cases (show _=Value.ref q from r2)
     exact⟨o,n,p,q,e1,e2,e3,Wl ok h2,Wl ok h3⟩
def T6 {xs:List (KK×Addr×V)}(ok:HOk P w H h)(e:H a=some (pdO P w a xs))(hk:∀x∈xs,Ym H x.1 x.2.1):xs.length<=sizeLine/\(a==sysModules)=false/\∃vs,
 Paired (fun(x:KK×Addr×V) (y:KK×Addr×Value)=>x.1=y.1/\x.2.1=y.2.1/\QL x.2.2 y.2.2) xs vs/\h.DictOfH (DO (Vq P w)) a vs:=by
 obtain⟨⟨z,y,vs,r,o,es,ep,e1,e2,e3,e4,e5⟩,hst⟩:=(show Z7 P w H h a (pdO P w a xs) from ok a _ e);refine⟨z,y,vs,r,o,es,ep,e1,e2,e3,e4,?_,e5⟩;clear e5 e4 z e hst;induction r with
 |nil=>intro x hx;exact nomatch hx
 |@cons p q ps qs hq t ih =>
   intro x hx;rcases Xg.mp hx with rfl|hx
   ·have:=Sb ok (hk p Xc)
    rw[hq.1,hq.2.1]at this;exact this
   ·exact ih (fun z hz=>hk z (Xe _ hz)) x hx
end
def We (xs:List (KK×Addr×V))(k:KK):Option V:=(xs.find? fun x=>decide (x.1=k)).map (·.2.2)
abbrev RPD:=Paired (fun(x:KK×Addr×V) (y:KK×Addr×Value)=>x.1=y.1/\x.2.1=y.2.1/\QL x.2.2 y.2.2)
def RPD.val (k:KK){xs:List (KK×Addr×V)}{vs:List (KK×Addr×Value)}(r:RPD xs vs):ZM (We xs k) ((atKey vs k).map (·.2)):=by
 induction r with
 |nil=>exact True.intro
 |@cons p q ps qs hq t ih =>
   by_cases e:p.1=k
   ·have e1:We (p::ps) k=some p.2.2:=by simp[We,XB,e]
    have e2:(atKey (q::qs) k).map (·.2)=some q.2.2:=by simp[atKey,XB,<- hq.1,e]
    rw[e1,e2];exact hq.2.2
   ·have e1:We (p::ps) k=We ps k:=by simp[We,XB,e]
    have e2:(atKey (q::qs) k).map (·.2)=(atKey qs k).map (·.2):=by simp[atKey,XB,<- hq.1,e]
    rw[e1,e2];exact ih
def WN (xs:List (KK×Addr×V))(k:KK)(b:Addr)(v:V):List (KK×Addr×V):=if (We xs k).isSome=true then xs.map (fun x=>if x.1=k then (x.1,x.2.1,v) else x) else xs++[(k,b,v)]
def RPD.repl (k:KK){v:V}{u:Value}(rv:QL v u){xs:List (KK×Addr×V)}{vs:List (KK×Addr×Value)}(r:RPD xs vs):RPD (xs.map fun x=>if x.1=k then (x.1,x.2.1,v) else x) (vs.map (putAt k u)):=by
 induction r with
 |nil=>exact .nil
 |@cons p q ps qs hq t ih =>
   rw[Xs,Xs];refine .cons ?_ ih;unfold putAt;by_cases e:p.1=k
   ·rw[Xd e,Xd (hq.1▸e)]
    exact⟨hq.1,hq.2.1,rv⟩
   ·rw[Xb e,Xb (hq.1▸e)]
    exact hq
theorem ZM.some_eq:∀{x:Option V} {y:Qf},ZM x y->x.isSome=y.isSome
 |none,none,_=>rfl
 |some _,some _,_=>rfl
 |none,some _,h=>by cases h
 |some _,none,h=>by cases h
def RPD.put (k:KK)(b:Addr){v:V}{u:Value}(rv:QL v u){xs:List (KK×Addr×V)}{vs:List (KK×Addr×Value)}(r:RPD xs vs):RPD (WN xs k b v) (storedH vs k b u):=by
 have e:=ZM.some_eq (r.val k);rw[UW]at e;unfold WN storedH;rw[e];split
 ·exact r.repl k rv
 ·exact Paired.snoc r ⟨rfl,rfl,rv⟩
def ET (xs:List (KK×Addr×V))(k:KK)(b:Addr)(v:V):(WN xs k b v).length<=xs.length+1:=by
 unfold WN;split<;>simp
section
variable {X:Cx}{Xa1:Qc}{σ:St}{H:Hp}{s:Shared}{a b:Addr}{v:V}{r:Value}{A:Around}{E:Qb}{xs:List (KK×Addr×V)}{k:KK}
def Ee {Q:Unit->Shared->Prop}(hu:A.units+6<cLine)(I:Qr X Xa1 σ H s)(e:H a=some (pdO X.prog X.w a xs))(hk:∀x∈xs,Ym H x.1 x.2.1)(hb:Ym H k b)(l:xs.length<sizeLine)(rv:QL v r)
 (h:∀s',Qr X Xa1 σ (upd H a (pdO X.prog X.w a (WN xs k b v))) s'->Q () s'):wpAny (model X.prog X.w) A (setItem (.ref a) (.ref b) r) Q E s:=by
 obtain⟨z,hd,vs,rel,dd⟩:=T6 I.hok e hk;have hz:vs.length<=sizeLine:=by rw[<- Paired.length rel];exact z
 refine wpAny_setItem_heap (hsz:=hz) (show A.units+1+5<cLine by omega) (Sb I.hok hb) dd fun h' dd' hs=>h _ ?_;obtain⟨q,es,ep,hq,h2,h3,h4,_,h5⟩:=dd';exact GE I (by rw[e];exact True.intro) hs ⟨q,hq⟩ (WL.ok ⟨by have:=ET xs k b v;omega,hd,_,RPD.put k b rv rel,q,es,ep,hq,h2,h3,h4,h5⟩)
end
section
variable {X:Cx}{Xa1:Qc}{σ:St}{H:Hp}{s:Shared}{a b:Addr}{d:V}{r:Value}{A:Around}{E:Qb}{kvs:List (List Key×V)}{k:List Key}
def Aa {Q:Qb}(hu:A.units+1<cLine)(I:Qr X Xa1 σ H s)(e:H a=some (.dT kvs))(eb:H b=some (.tup (k.map kV)))(l:kvs.length<sizeLine)(rd:QL d r)
 (h1:∀v u s',Zs kvs k=some v->Qr X Xa1 σ H s'->QL v u->Q u s') (h2:Zs kvs k=none->∀s',Qr X Xa1 σ (upd H a (.dT (kvs++[(k,d)]))) s'->Q r s') :
 wpAny (model X.prog X.w) A (call (.builtin "dict.setdefault") [.ref a,.ref b,r]) Q E s:=by
 obtain⟨z,hd,xs,rel,dd⟩:=MM I.hok e;have hz:xs.length<=sizeLine:=by rw[<- Paired.length rel];exact z
 have rr:=rel.val k
 refine call_meetsIn PySem.F.slot_dict_setdefault dd.typeIs PySem.F.entry_dict_setdefault (PySem.F.args_dict_setdefault_3 _ _ _) (Om (tupleKind (Vq X.prog X.w)) a b hd r)
  ⟨tupleKind_room_in1 hu,k,xs,Wl I.hok eb,dd,hz,fun p hp=>?_,fun hn h' dd' hs=>?_⟩
 ·rw[hp]at rr
  cases ev:Zs kvs k with
  |none=>rw[ev]at rr;cases rr
  |some v=>rw[ev]at rr;exact h1 v _ _ ev (I.tok _) rr
 ·have ev:Zs kvs k=none:=by
   rw[hn]at rr;cases ev:Zs kvs k with
   |none=>rfl
   |some v=>rw[ev]at rr;cases rr
  refine h2 ev _ ?_;obtain⟨q,es,ep,hq,g2,g3,g4,_,g5⟩:=dd';refine GE I (by rw[e];exact True.intro) hs ⟨q,hq⟩ ⟨by simp;omega,hd,_,(show KT H (kvs++[(k,d)]) (xs++[(k,b,r)]) from Paired.snoc rel ⟨rfl,eb,rd⟩).keeps fun c ys ec=>?_,q,es,ep,hq,g2,g3,g4,g5⟩;rw[Qu (fun z=>by subst z;rw[e]at ec;cases ec)];exact ec
end
def NU (td ty tx:TE):TE:=fun σ H Q=>td σ H fun x H1=>∃a,x=.ref a/\IsD H1 a/\ty σ H1 fun y H2=>tx σ H2 fun z H3=>∃kvs k b,y=.ref b/\H3 a=some (.dT kvs)/\H3 b=some (.tup (k.map kV))/\kvs.length<sizeLine /\
 (∀v,Zs kvs k=some v->Q v H3)/\(Zs kvs k=none->Q z (upd H3 a (.dT (kvs++[(k,z)]))))
section
variable {X:Cx}{o e f value:Expr}{apos cpos pos pos':Pos}{td ty tx tv:TE}
def Cu (hu:X.A.units+1<cLine) (ho:PE X o td) (he:PE X e ty) (hf:PE X f tx) (m:M2 X o "setdefault" apos e f cpos):PE X (.Call (.Attribute o "setdefault" apos) [e,f] [] cpos) (NU td ty tx):=by
 intro Xa1 s σ H Q I h;refine wpAny_Call_method m.base m.few m.line PySem.F.plainAttrs_dict PySem.F.slot_dict_setdefault PySem.F.type_dict_setdefault (Q6 (ho Xa1 s σ H _ I h) fun u s1 ⟨x,H1,I1,rx,a,ex,d,q1⟩=>?_);subst ex;obtain rfl:u=Value.ref a:=rx;obtain⟨t1,t2,_⟩:=NA I1 d;refine⟨t1,t2,?_⟩
 rw[m.trees];refine Calls.callWith_builtin rfl (Calls.evalArgs_plain (Calls.spliced_cons (Q6 (he Xa1 s1 σ H1 _ I1 q1) fun iv s2 ⟨y,H2,I2,ry,q2⟩ =>
  Calls.spliced_cons (Q6 (hf Xa1 s2 σ H2 _ I2 q2) fun fv s3 ⟨z,H3,I3,rz,kvs,k,b,ey,e1,e2,l,q3,q4⟩=>Calls.spliced_nil ?_))))
 subst ey;cases (show iv=Value.ref b from ry);exact Aa hu I3 e1 e2 l rz (fun v u s' ev I4 rv=>⟨v,H3,I4,rv,q3 v ev⟩) (fun ev s' I4=>⟨z,_,I4,rz,q4 ev⟩)
def KW (P:Program)(w:World)(td ty tv:TE):TS:=fun D σ H=>tv σ H fun v H1=>td σ H1 fun x H2=>ty σ H2 fun y H3=>∃a b xs k,x=.ref a/\y=.ref b/\H3 a=some (pdO P w a xs)/\(∀x∈xs,Ym H3 x.1 x.2.1)/\Ym H3 k b/\xs.length<sizeLine /\
 D.nx σ (upd H3 a (pdO P w a (WN xs k b v)))
def LZ (hu:X.A.units+6<cLine)(ho:PE X o td)(hi:PE X e ty)(hv:PE X value tv)(hs:swapsWith value (some (.Subscript o e pos')) pos.line X.env=pure false) :
 PS X (.Assign [.Subscript o e pos'] value pos) (KW X.prog X.w td ty tv):=by
 intro Xa1 s σ H D I h;refine wpAny_Assign_Subscript (Q6 (hv Xa1 s σ H _ I h) fun r s1 ⟨v,H1,I1,rv,q1⟩=>Q6 (ho Xa1 s1 σ H1 _ I1 q1) fun u s2 ⟨x,H2,I2,rx,q2⟩=>Q6 (hi Xa1 s2 σ H2 _ I2 q2) fun iv s3 ⟨y,H3,I3,ry,a,b,xs,k,ex,ey,e1,e2,e3,l,q3⟩=>?_) hs;subst ex ey;obtain rfl:u=Value.ref a:=rx;obtain rfl:iv=Value.ref b:=ry;exact Ee hu I3 e1 e2 e3 l rv fun s4 I4=>⟨σ,_,I4,q3⟩
end
def Li (P:Program)(w:World):TE:=fun _ H Q=>∀p,H p=none->Q (.ref p) (upd H p (pdO P w p []))
def Cc {X:Cx}{pos:Pos}:PE X (.Dict [] [] pos) (Li X.prog X.w):=fun Xa1 s σ H Q I h =>
 wpAny_Dict_empty ⟨.ref s.heap.objs.size,_,I.laid (a:=s.heap.objs.size) (o:=pdO X.prog X.w s.heap.objs.size []) (t':=s.toks) (fun _ _ q=>Xf _ q) (Xu _)
  (WL.ok ⟨XM _,beq_eq_false_iff_ne.mpr (Ne.symm (Xp I.big)),[],.nil,_,#[],0,Xy _ rfl,⟨rfl,rfl,rfl⟩,rfl,rfl,Ul⟩),rfl,h _ (I.hok.fresh (Xu _))⟩
structure Qz where
 ends:List (List Key)
 rooms:Ql
 leav:List (List Key×Ql)
 laid:List (KK×Int)
inductive LaidD (F:Hp):List (KK×Addr×V)->List (KK×Int)->Prop
 |nil:LaidD F [] []
 |cons {k:KK} {b:Addr} {n:Int} {xs:List (KK×Addr×V)} {ls:List (KK×Int)}:Ym F k b->LaidD F xs ls->LaidD F ((k,b,.int n)::xs) ((k,n)::ls)
theorem LaidD.mono {F F':Hp}(s:Q4 F F'):∀{xs:List (KK×Addr×V)} {ls:List (KK×Int)},LaidD F xs ls->LaidD F' xs ls
 |_,_,.nil=>.nil
 |_,_,.cons h t=>.cons (h.mono fun b ys e=>s _ _ e) (t.mono s)
theorem LaidD.at {F H:Hp}(s:Q4 F H):∀{xs:List (KK×Addr×V)} {ls:List (KK×Int)},LaidD F xs ls->∀x∈xs,Ym H x.1 x.2.1
 |_,_,.nil,x,hx=>nomatch hx
 |_,_,.cons h t,x,hx=>by
   rcases Xg.mp hx with rfl|hx
   ·exact h.mono fun b ys e=>s _ _ e
   ·exact t.at s x hx
inductive LeavD (F H:Hp):List (List Key×V)->List (List Key×Ql)->Qg->Prop
 |nil:LeavD F H [] [] []
 |cons {k:List Key} {a:Addr} {ns:Ql} {xs:List (List Key×V)} {ls:List (List Key×Ql)} {as:Qg}:Vt F H a (ns.map PyData.int)->LeavD F H xs ls as->LeavD F H ((k,.ref a)::xs) ((k,ns)::ls) (a::as)
theorem LeavD.mem {F H:Hp}:∀{xs:List (List Key×V)} {ls:List (List Key×Ql)} {as:Qg},LeavD F H xs ls as->∀a∈as,F a=none/\H a≠none
 |_,_,_,.nil,a,ha=>nomatch ha
 |_,_,_,.cons h t,a,ha=>by
   rcases Xg.mp ha with rfl|ha
   ·obtain⟨h1,xs,h2,_⟩:=h
    exact⟨h1,Zy h2⟩
   ·exact t.mem a ha
theorem LeavD.mono {F F' H H':Hp}(s:Q4 F F'):∀{xs:List (List Key×V)} {ls:List (List Key×Ql)} {as:Qg},(∀a∈as,F' a=none)->(∀a∈as,H' a=H a)->LeavD F H xs ls as->LeavD F' H' xs ls as
 |_,_,_,_,_,.nil=>.nil
 |_,_,_,hF,hH,.cons h t=>by
   obtain⟨h1,xs,h2,h3⟩:=h;exact .cons ⟨hF _ Xc,xs,by rw[hH _ Xc];exact h2,h3.mono s⟩ (t.mono s (fun a ha=>hF a (Xe _ ha)) (fun a ha=>hH a (Xe _ ha)))
theorem LeavD.addrs {F F' H H':Hp}:∀{xs:List (List Key×V)} {ls ls':List (List Key×Ql)} {as bs:Qg},LeavD F H xs ls as->LeavD F' H' xs ls' bs->as=bs
 |_,_,_,_,_,.nil,.nil=>rfl
 |_,_,_,_,_,.cons _ t,.cons _ t'=>by rw[t.addrs t']
structure NetOk (P:Program)(w:World)(C:Addr)(N:Qz)(F H:Hp)(a dx e r l d:Addr)(xs:List (List Key×V))(ys:List (KK×Addr×V))(as:Qg):Prop where
 nd:(a::dx::e::r::l::d::as).Nodup
 ins:F a=none/\H a=some (.ins C dx [("ends",.ref e),("rooms",.ref r),("leaving",.ref l),("laid",.ref d)])
 own:F dx=none/\H dx=some (.own a)
 ends:Vt F H e (N.ends.map QV)
 rooms:Vt F H r (N.rooms.map PyData.int)
 leav:F l=none/\H l=some (.dT xs)/\LeavD F H xs N.leav as
 laid:F d=none/\H d=some (pdO P w d ys)/\LaidD F ys N.laid
def Zb (P:Program)(w:World)(C:Addr)(N:Qz):OwnP where
 ok K F H v p := ∃a dx e r l d xs ys as,v=.ref a/\p=a::dx::e::r::l::d::as/\NetOk P w C N F H a dx e r l d xs ys as
 there:=by
  rintro K F H v p ⟨a,dx,e,r,l,d,xs,ys,as,rfl,rfl,o⟩ b hb
  obtain⟨_,⟨i1,i2⟩,⟨o1,o2⟩,⟨e1,ex,e2,_⟩,⟨r1,rx,r2,_⟩,⟨l1,l2,l3⟩,⟨d1,d2,_⟩⟩:=o;simp only[Xg]at hb;rcases hb with rfl|rfl|rfl|rfl|rfl|rfl|hb
  ·exact⟨i1,Zy i2⟩
  ·exact⟨o1,Zy o2⟩
  ·exact⟨e1,Zy e2⟩
  ·exact⟨r1,Zy r2⟩
  ·exact⟨l1,Zy l2⟩
  ·exact⟨d1,Zy d2⟩
  ·exact l3.mem b hb
 mono:=by
  rintro K F F' H H' v p s hF hH ⟨a,dx,e,r,l,d,xs,ys,as,rfl,rfl,o⟩
  obtain⟨nd,⟨i1,i2⟩,⟨o1,o2⟩,⟨e1,ex,e2,e3⟩,⟨r1,rx,r2,r3⟩,⟨l1,l2,l3⟩,⟨d1,d2,d3⟩⟩:=o
  refine⟨a,dx,e,r,l,d,xs,ys,as,rfl,rfl,nd,⟨hF _ (by simp),by rw[hH _ (by simp)];exact i2⟩,⟨hF _ (by simp),by rw[hH _ (by simp)];exact o2⟩,⟨hF _ (by simp),ex,by rw[hH _ (by simp)];exact e2,e3.mono s⟩,
   ⟨hF _ (by simp),rx,by rw[hH _ (by simp)];exact r2,r3.mono s⟩,⟨hF _ (by simp),by rw[hH _ (by simp)];exact l2,l3.mono s (fun b hb=>hF b (by simp[hb])) (fun b hb=>hH b (by simp[hb]))⟩,⟨hF _ (by simp),by rw[hH _ (by simp)];exact d2,d3.mono s⟩⟩
 uniq:=by
  rintro K F H v p q ⟨a,dx,e,r,l,d,xs,ys,as,rfl,rfl,o⟩ ⟨a',dx',e',r',l',d',xs',ys',as',ev,rfl,o'⟩ c hc
  cases ev
  have i:=o.ins.2.symm.trans o'.ins.2;injection i with i;injection i with _ i1 i2;subst i1;simp only[List.cons.injEq,Prod.mk.injEq,true_and,and_true,V.ref.injEq]at i2;obtain⟨rfl,rfl,rfl,rfl⟩:=i2;have j:=o.leav.2.1.symm.trans o'.leav.2.1;injection j with j;injection j with j;subst j;rw[o.leav.2.2.addrs o'.leav.2.2];exact hc
structure NetC (K:W.Frag)(C:Addr):Prop where
 cl:Cls K C
 ends:VE K C "ends"
 rooms:VE K C "rooms"
 leav:VE K C "leaving"
 laid:VE K C "laid"
section
variable {K:W.Frag}{ρ:Q1}{tb te ty tx:TE}{D:PEnds}{i:Nat}{v:V}{P:Program}{w:World}{C:Addr}{N:Qz}
def QB.net {H0 F H:Hp}{σ:St}(S:QB K H0 F ρ σ H)(e:ρ[i]?=some (some (.own v (Zb P w C N)))) :
 ∃a dx el r l d xs ys as,v=.ref a/\σ[i]?=some (some (.ref a))/\NetOk P w C N F H a dx el r l d xs ys as/\(∀b∈a::dx::el::r::l::d::as,H0 b=none/\F b=none/\H b≠none) /\
  ∀(H':Hp) (N':Qz) (xs':List (List Key×V)) (ys':List (KK×Addr×V)) (as':Qg),Q4 F H'->(∀b,b∉a::dx::el::r::l::d::as->H b≠none->H' b=H b)->(∀b,H b≠none->H' b≠none) ->
   NetOk P w C N' F H' a dx el r l d xs' ys' as'->(∀b∈as',b∈as\/(H b=none/\H0 b=none))->QB K H0 F (ρ.set i (some (.own v (Zb P w C N')))) σ H':=by
 obtain⟨e1,p,⟨a,dx,el,r,l,d,xs,ys,as,rfl,rfl,ok⟩,hp,w'⟩:=S.writeOwn e;refine⟨a,dx,el,r,l,d,xs,ys,as,rfl,e1,ok,hp,fun H' N' xs' ys' as' h1 h2 h3 h4 h5=>w' H' _ _ h1 h2 h3 ⟨a,dx,el,r,l,d,xs',ys',as',rfl,rfl,h4⟩ fun b hb=>?_⟩;simp only[Xg]at hb ⊢;rcases hb with h|h|h|h|h|h|hb
 ·exact .inl (.inl h)
 ·exact .inl (.inr (.inl h))
 ·exact .inl (.inr (.inr (.inl h)))
 ·exact .inl (.inr (.inr (.inr (.inl h))))
 ·exact .inl (.inr (.inr (.inr (.inr (.inl h)))))
 ·exact .inl (.inr (.inr (.inr (.inr (.inr (.inl h))))))
 ·rcases h5 b hb with z|z
  ·exact .inl (.inr (.inr (.inr (.inr (.inr (.inr z))))))
  ·exact .inr z
def LeavD.other {F H:Hp}{b:Addr}{o:HO}{xs:List (List Key×V)}{ls:List (List Key×Ql)}{as:Qg}(h:LeavD F H xs ls as)(n:b∉as):LeavD F (upd H b o) xs ls as :=
 h.mono (Q4.refl _) (fun a ha=>(h.mem a ha).1) (fun a ha=>Qu fun z=>n (z▸ha))
def NetOk.setRooms {F H:Hp}{a dx el r l d:Addr}{xs:List (List Key×V)}{ys:List (KK×Addr×V)}{as:Qg}(ok:NetOk P w C N F H a dx el r l d xs ys as){ns:Ql}{zs:List V}(hr:Qv F zs (ns.map PyData.int)) :
 NetOk P w C { N with rooms:=ns } F (upd H r (.lst zs)) a dx el r l d xs ys as:=by
 obtain⟨nd,⟨i1,i2⟩,⟨o1,o2⟩,⟨e1,ex,e2,e3⟩,⟨r1,rx,r2,r3⟩,⟨l1,l2,l3⟩,⟨d1,d2,d3⟩⟩:=ok;have nd':=nd;simp only[XO,Xg,not_or]at nd';obtain⟨⟨a1,a2,a3,_⟩,⟨b1,b2,_⟩,⟨c1,_⟩,⟨g1,g2,g3⟩,_⟩:=nd'
 exact⟨nd,⟨i1,by rw[Qu a3];exact i2⟩,⟨o1,by rw[Qu b2];exact o2⟩,⟨e1,ex,by rw[Qu c1];exact e2,e3⟩,⟨r1,zs,QD,hr⟩,⟨l1,by rw[Qu (Ne.symm g1)];exact l2,l3.other g3⟩,⟨d1,by rw[Qu (Ne.symm g2)];exact d2,d3⟩⟩
def Yz {H:Hp}{a:Addr}{o:HO}:∀b,H b≠none->upd H a o b≠none:=fun b hb=>by
 by_cases z:b=a
 ·subst z;rw[QD];exact fun q=>nomatch q
 ·rw[Qu z];exact hb
def SH {f:Int->Int->Int}(c:NetC K C)(e:ρ[i]?=some (some (.own v (Zb P w C N)))){k m n:Int}(hi:Qt K tb ρ (.int k))(h0:0<=k)(hm:N.rooms[k.toNat]?=some m)(h:Qt K te ρ (.int n))
 (hn:D.nx (ρ.set i (some (.own v (Zb P w C { N with rooms:=N.rooms.set k.toNat (f m n) }))))):Q2 K (MQ (V3 K (Q8 i) "rooms") tb te (MN K) (ipI f) Go) ρ D:=fun F0 H0 F σ H E x S C'=>by
 obtain⟨a,dx,el,r,l,d,xs,ys,as,rfl,e1,ok,_⟩:=S.net e;refine⟨_,e1,a,C,dx,_,.ref r,rfl,ok.ins.2,c.cl,c.rooms,rfl,hi H0 F σ H _ S fun F1 H1 y x1 r1=>?_⟩
 cases r1
 obtain⟨_,rx,r2,r3⟩:=ok.rooms;have hm':(N.rooms.map PyData.int)[k.toNat]?=some (.int m):=by rw[Xq,hm];rfl
 obtain⟨z,z1,z2⟩:=(r3.mono x1.ff).get hm';refine⟨r,rx,k,z,rfl,rfl,SqL.of (x1.hh _ _ r2),h0,z1,h H0 F1 σ H1 _ (S.ext x1) fun F2 H2 u x2 r2'=>?_⟩
 cases r2'
 cases z2
 refine⟨m,n,rfl,rfl,?_⟩;obtain⟨a',dx',el',r',l',d',xs',ys',as',ea,g1,ok',hp,wr⟩:=(S.ext (x1.trans x2)).net e
 cases ea
 have hi2:=ok'.ins.2.symm.trans ((x1.trans x2).hh _ _ ok.ins.2);injection hi2 with hi2;injection hi2 with _ _ hi3;simp only[List.cons.injEq,Prod.mk.injEq,true_and,and_true,V.ref.injEq]at hi3;obtain⟨rfl,rfl,rfl,rfl⟩:=hi3;obtain⟨q1,qx,q2,q3⟩:=ok'.rooms;have hlt:k.toNat<N.rooms.length:=(Xh.mp hm).1
 have hr:Qv F2 (qx.set k.toNat (.int (f m n))) ((N.rooms.set k.toNat (f m n)).map PyData.int):=by
  rw[List.map_set];exact q3.set (.int _) _
 refine⟨r',qx,k,k.toNat,rfl,rfl,q2,?_,?_⟩
 ·rw[q3.length,Xk]
  unfold ixN;rw[Xd h0,Xd (by omega)]
 ·have hr0:=hp r' (by simp)
  exact C'.nx F2 σ _ _ ((x.trans (x1.trans x2)).wr hr0.1 hr0.2.1) (wr _ { N with rooms:=N.rooms.set k.toNat (f m n) } xs' ys' as' ((S.ext (x1.trans x2)).sub.upd hr0.2.1) (fun b hb _=>Qu fun z=>hb (by rw[z];simp)) Yz (ok'.setRooms hr) (fun b hb=>.inl hb)) hn
end
section
variable {K:W.Frag}{ρ:Q1}{tb te ty tx:TE}{D:PEnds}{i:Nat}{v:V}{P:Program}{w:World}{C:Addr}{N:Qz}
def NetOk.same {N':Qz}{F H F' H':Hp}{a dx el r l d dx' el' r' l' d':Addr}{xs xs':List (List Key×V)}{ys ys':List (KK×Addr×V)}{as as':Qg}
 (ok:NetOk P w C N F H a dx el r l d xs ys as) (ok':NetOk P w C N' F' H' a dx' el' r' l' d' xs' ys' as') (s:H' a=H a):dx'=dx/\el'=el/\r'=r/\l'=l/\d'=d:=by
 have h:=ok'.ins.2;rw[s,ok.ins.2]at h;injection h with h;injection h with _ h1 h2;simp only[List.cons.injEq,Prod.mk.injEq,true_and,and_true,V.ref.injEq]at h2;obtain⟨z1,z2,z3,z4⟩:=h2
 exact⟨h1.symm,z1.symm,z2.symm,z3.symm,z4.symm⟩
def NetOk.setEnds {F H:Hp}{a dx el r l d:Addr}{xs:List (List Key×V)}{ys:List (KK×Addr×V)}{as:Qg}(ok:NetOk P w C N F H a dx el r l d xs ys as){ns:List (List Key)}{zs:List V}(hr:Qv F zs (ns.map QV)) :
 NetOk P w C { N with ends:=ns } F (upd H el (.lst zs)) a dx el r l d xs ys as:=by
 obtain⟨nd,⟨i1,i2⟩,⟨o1,o2⟩,⟨e1,ex,e2,e3⟩,⟨r1,rx,r2,r3⟩,⟨l1,l2,l3⟩,⟨d1,d2,d3⟩⟩:=ok;have nd':=nd;simp only[XO,Xg,not_or]at nd';obtain⟨⟨a1,a2,a3,_⟩,⟨b1,b2,_⟩,⟨c1,c2,c3,c4⟩,_⟩:=nd'
 exact⟨nd,⟨i1,by rw[Qu a2];exact i2⟩,⟨o1,by rw[Qu b1];exact o2⟩,⟨e1,zs,QD,hr⟩,⟨r1,rx,by rw[Qu (Ne.symm c1)];exact r2,r3⟩,⟨l1,by rw[Qu (Ne.symm c2)];exact l2,l3.other c4⟩,⟨d1,by rw[Qu (Ne.symm c3)];exact d2,d3⟩⟩
def Eu (c:NetC K C)(e:ρ[i]?=some (some (.own v (Zb P w C N)))){n:Int}(h:Qt K te ρ (.int n))(hl:N.rooms.length<1000)
 (hn:D.nx (ρ.set i (some (.own v (Zb P w C { N with rooms:=N.rooms++[n] }))))):Q2 K (VC (tBM K "list" Yc (V3 K (Q8 i) "rooms") (QE te QN))) ρ D:=fun F0 H0 F σ H E x S C'=>by
 obtain⟨a,dx,el,r,l,d,xs,ys,as,rfl,e1,ok,_⟩:=S.net e;refine⟨_,e1,a,C,dx,_,.ref r,rfl,ok.ins.2,c.cl,c.rooms,rfl,.inl ⟨rfl,_,SqL.of ok.rooms.2.choose_spec.1⟩,h H0 F σ H _ S fun F1 H1 u x1 r1=>?_⟩
 cases r1
 obtain⟨a',dx',el',r',l',d',xs',ys',as',ea,g1,ok',hp,wr⟩:=(S.ext x1).net e
 cases ea
 obtain⟨rfl,rfl,rfl,rfl,rfl⟩:=ok.same ok' ((x1.hh _ _ ok.ins.2).trans ok.ins.2.symm);obtain⟨q1,qx,q2,q3⟩:=ok'.rooms;have hr0:=hp r' (by simp);refine⟨r',qx,.int n,rfl,rfl,q2,by rw[q3.length,Xk];exact Vr (by omega),?_⟩;exact C'.nx F1 σ _ _ ((x.trans x1).wr hr0.1 hr0.2.1) (wr _ { N with rooms:=N.rooms++[n] } xs' ys' as' ((S.ext x1).sub.upd hr0.2.1) (fun b hb _=>Qu fun z=>hb (by rw[z];simp)) Yz (ok'.setRooms (by rw[Xr];exact q3.snoc (.int n))) (fun b hb=>.inl hb)) hn
def Ei (c:NetC K C)(e:ρ[i]?=some (some (.own v (Zb P w C N)))){n:List Key}(h:Qt K te ρ (QV n))(hl:N.ends.length<1000)
 (hn:D.nx (ρ.set i (some (.own v (Zb P w C { N with ends:=N.ends++[n] }))))):Q2 K (VC (tBM K "list" Yc (V3 K (Q8 i) "ends") (QE te QN))) ρ D:=fun F0 H0 F σ H E x S C'=>by
 obtain⟨a,dx,el,r,l,d,xs,ys,as,rfl,e1,ok,_⟩:=S.net e;refine⟨_,e1,a,C,dx,_,.ref el,rfl,ok.ins.2,c.cl,c.ends,rfl,.inl ⟨rfl,_,SqL.of ok.ends.2.choose_spec.1⟩,h H0 F σ H _ S fun F1 H1 u x1 r1=>?_⟩;obtain⟨a',dx',el',r',l',d',xs',ys',as',ea,g1,ok',hp,wr⟩:=(S.ext x1).net e
 cases ea
 obtain⟨rfl,rfl,rfl,rfl,rfl⟩:=ok.same ok' ((x1.hh _ _ ok.ins.2).trans ok.ins.2.symm);obtain⟨q1,qx,q2,q3⟩:=ok'.ends;have hr0:=hp el' (by simp);refine⟨el',qx,u,rfl,rfl,q2,by rw[q3.length,Xk];exact Vr (by omega),?_⟩;exact C'.nx F1 σ _ _ ((x.trans x1).wr hr0.1 hr0.2.1) (wr _ { N with ends:=N.ends++[n] } xs' ys' as' ((S.ext x1).sub.upd hr0.2.1) (fun b hb _=>Qu fun z=>hb (by rw[z];simp)) Yz (ok'.setEnds (by rw[Xr];exact q3.snoc r1)) (fun b hb=>.inl hb)) hn
def Pd (c:NetC K C) (e:ρ[i]?=some (some (.own v (Zb P w C N)))):Qt K (tCB (YL K) (QE (V3 K (Q8 i) "ends") QN)) ρ (.int (N.ends.length:Int)):=fun H0 F σ H Q S q=>by
 obtain⟨a,dx,el,r,l,d,xs,ys,as,rfl,e1,ok,_⟩:=S.net e;obtain⟨_,ex,e2,e3⟩:=ok.ends;refine⟨_,e1,a,C,dx,_,.ref el,rfl,ok.ins.2,c.cl,c.ends,rfl,el,ex,rfl,.inl (SqL.of e2),?_⟩
 have:ex.length=N.ends.length:=by rw[e3.length,Xk]
 rw[this];exact q F H _ (Q0.refl S.sub) (.int _)
end
def Vl (ls:List (KK×Int))(k:KK):Option Int:=(ls.find? fun x=>decide (x.1=k)).map (·.2)
def Ys (ls:List (KK×Int))(k:KK)(n:Int):List (KK×Int):=if (Vl ls k).isSome=true then ls.map (fun x=>if x.1=k then (x.1,n) else x) else ls++[(k,n)]
theorem LaidD.val {F:Hp}(k:KK):∀{xs:List (KK×Addr×V)} {ls:List (KK×Int)},LaidD F xs ls->We xs k=(Vl ls k).map V.int
 |_,_,.nil=>rfl
 |_,_,.cons (k:=k') h t=>by
   by_cases e:k'=k
   ·simp[We,Vl,XB,e]
   ·have:=t.val k
    simpa [We,Vl,XB,e] using this
theorem LaidD.length {F:Hp}:∀{xs:List (KK×Addr×V)} {ls:List (KK×Int)},LaidD F xs ls->xs.length=ls.length
 |_,_,.nil=>rfl
 |_,_,.cons h t=>by simp[t.length]
theorem LaidD.repl {F:Hp}(k:KK)(n:Int):∀{xs:List (KK×Addr×V)} {ls:List (KK×Int)},LaidD F xs ls->LaidD F (xs.map fun x=>if x.1=k then (x.1,x.2.1,.int n) else x) (ls.map fun x=>if x.1=k then (x.1,n) else x)
 |_,_,.nil=>.nil
 |_,_,.cons (k:=k') h t=>by
   rw[Xs,Xs];by_cases e:k'=k
   ·simp only[e,if_true]
    exact .cons (e▸h) (t.repl k n)
   ·simp only[e,if_false]
    exact .cons h (t.repl k n)
theorem LaidD.snoc {F:Hp}{k:KK}{b:Addr}(n:Int)(hb:Ym F k b):∀{xs:List (KK×Addr×V)} {ls:List (KK×Int)},LaidD F xs ls->LaidD F (xs++[(k,b,.int n)]) (ls++[(k,n)])
 |_,_,.nil=>.cons hb .nil
 |_,_,.cons h t=>.cons h (t.snoc n hb)
def LaidD.put {F:Hp}{k:KK}{b:Addr}(n:Int)(hb:Ym F k b){xs:List (KK×Addr×V)}{ls:List (KK×Int)}(t:LaidD F xs ls):LaidD F (WN xs k b (.int n)) (Ys ls k n):=by
 unfold WN Ys;rw[t.val k,UW];split
 ·exact t.repl k n
 ·exact t.snoc n hb
def Cm {F:Hp}{y:V}{k1 k2:List Key}(r:Rep F y (.tuple [QV k1,QV k2])):∃b,y=.ref b/\Ym F (k1,k2) b:=by
 cases r with
 |tup h rs =>
   cases rs with
   |cons r1 rs =>
     cases rs with
     |cons r2 rs =>
       cases rs
       obtain⟨p,rfl,hp⟩:=Wr r1;obtain⟨q,rfl,hq⟩:=Wr r2
       exact⟨_,rfl,p,q,h,hp,hq⟩
section
variable {K:W.Frag}{ρ:Q1}{tb te ty tx tv:TE}{D:PEnds}{i:Nat}{v:V}{P:Program}{w:World}{C:Addr}{N:Qz}{k1 k2:List Key}
def NetOk.setLaid {F H:Hp}{a dx el r l d:Addr}{xs:List (List Key×V)}{ys ys':List (KK×Addr×V)}{as:Qg}(ok:NetOk P w C N F H a dx el r l d xs ys as){ls:List (KK×Int)}(hr:LaidD F ys' ls) :
 NetOk P w C { N with laid:=ls } F (upd H d (pdO P w d ys')) a dx el r l d xs ys' as:=by
 obtain⟨nd,⟨i1,i2⟩,⟨o1,o2⟩,⟨e1,ex,e2,e3⟩,⟨r1,rx,r2,r3⟩,⟨l1,l2,l3⟩,⟨d1,d2,d3⟩⟩:=ok;have nd':=nd;simp only[XO,Xg,not_or]at nd';obtain⟨⟨a1,a2,a3,a4,a5,_⟩,⟨b1,b2,b3,b4,_⟩,⟨c1,c2,c3,c4⟩,⟨g1,g2,g3⟩,⟨h1,h2⟩,f1,_⟩:=nd'
 exact⟨nd,⟨i1,by rw[Qu a5];exact i2⟩,⟨o1,by rw[Qu b4];exact o2⟩,⟨e1,ex,by rw[Qu c3];exact e2,e3⟩,⟨r1,rx,by rw[Qu g2];exact r2,r3⟩,⟨l1,by rw[Qu h1];exact l2,l3.other f1⟩,⟨d1,QD,hr⟩⟩
def AC (c:NetC K C)(e:ρ[i]?=some (some (.own v (Zb P w C N)))){n:Int}(hv:Qt K tv ρ (.int n))(hy:Qt K ty ρ (.tuple [QV k1,QV k2]))(hl:N.laid.length<1000)
 (hn:D.nx (ρ.set i (some (.own v (Zb P w C { N with laid:=Ys N.laid (k1,k2) n }))))):Q2 K (KW P w (V3 K (Q8 i) "laid") ty tv) ρ D:=fun F0 H0 F σ H E x S C' =>
 hv H0 F σ H _ S fun F1 H1 u x1 r1=>by
  cases r1
  obtain⟨a,dx,el,r,l,d,xs,ys,as,rfl,e1,ok,_⟩:=(S.ext x1).net e;refine⟨_,e1,a,C,dx,_,.ref d,rfl,ok.ins.2,c.cl,c.laid,rfl,hy H0 F1 σ H1 _ (S.ext x1) fun F2 H2 y x2 r2=>?_⟩;have S2:=S.ext (x1.trans x2);obtain⟨a',dx',el',r',l',d',xs',ys',as',ea,g1,ok',hp,wr⟩:=S2.net e
  cases ea
  obtain⟨rfl,rfl,rfl,rfl,rfl⟩:=ok.same ok' ((x2.hh _ _ ok.ins.2).trans ok.ins.2.symm);obtain⟨b,rfl,hb⟩:=Cm r2;obtain⟨d1,d2,d3⟩:=ok'.laid;refine⟨d',b,ys',(k1,k2),rfl,rfl,d2,d3.at S2.sub,hb.mono fun c' z ez=>S2.sub _ _ ez,by rw[d3.length];exact Vr (by omega),?_⟩;have hr0:=hp d' (by simp);exact C'.nx F2 σ _ _ ((x.trans (x1.trans x2)).wr hr0.1 hr0.2.1) (wr _ { N with laid:=Ys N.laid (k1,k2) n } xs' _ as' (S2.sub.upd hr0.2.1) (fun b' hb' _=>Qu fun z=>hb' (by rw[z];simp)) Yz (ok'.setLaid (d3.put n hb)) (fun b' hb'=>.inl hb')) hn
end
def QM (ls:List (List Key×Ql))(k:List Key):Option (Ql):=(ls.find? fun x=>decide (x.1=k)).map (·.2)
def VF:List (List Key×Ql)->List Key->Int->List (List Key×Ql)
 |[],_,_=>[]
 |(k',ns)::r,k,n=>if k'=k then (k',ns++[n])::r else (k',ns)::VF r k n
theorem LeavD.val {F H:Hp}(k:List Key):∀{xs:List (List Key×V)} {ls:List (List Key×Ql)} {as:Qg},LeavD F H xs ls as->(Zs xs k=none/\QM ls k=none) \/
 ∃a ns,Zs xs k=some (.ref a)/\QM ls k=some ns/\a∈as/\Vt F H a (ns.map PyData.int)
 |_,_,_,.nil=>.inl ⟨rfl,rfl⟩
 |_,_,_,.cons (k:=k') (a:=a) (ns:=ns) (xs:=xs) (ls:=ls) h t=>by
   by_cases e:k'=k
   ·exact .inr ⟨a,ns,YF e,by simp[QM,XB,e],Xc,h⟩
   ·have q:QM ((k',ns)::ls) k=QM ls k:=by simp[QM,XB,e]
    rw[YG (p:=(k',V.ref a)) e,q]
    rcases t.val k with z|⟨a',ns',z1,z2,z3,z4⟩
    ·exact .inl z
    ·exact .inr ⟨a',ns',z1,z2,Xe _ z3,z4⟩
theorem LeavD.app {F H:Hp}(k:List Key){a:Addr}{n:Int}{zs:List V}:∀{xs:List (List Key×V)} {ls:List (List Key×Ql)} {as:Qg} {ns:Ql},LeavD F H xs ls as->as.Nodup->Zs xs k=some (.ref a)->QM ls k=some ns ->
 Qv F zs ((ns++[n]).map PyData.int)->LeavD F (upd H a (.lst zs)) xs (VF ls k n) as
 |_,_,_,_,.nil,_,h,_,_=>by cases h
 |_,_,_,ns,.cons (k:=k') (a:=a') (ns:=ns') (xs:=xs) (ls:=ls) (as:=as) h t,nd,hv,he,hr=>by
   obtain⟨n1,n2⟩:=XO.mp nd;unfold VF;by_cases e:k'=k
   ·rw[YF (p:=(k',V.ref a')) e]at hv
    have q:QM ((k',ns')::ls) k=some ns':=by simp[QM,XB,e]
    rw[q]at he;cases hv
    cases he
    rw[Xd e];exact .cons ⟨h.1,zs,QD,hr⟩ (t.other n1)
   ·rw[YG (p:=(k',V.ref a')) e]at hv
    have q:QM ((k',ns')::ls) k=QM ls k:=by simp[QM,XB,e]
    rw[q]at he;rw[Xb e];have ha:a∈as:=by
     rcases t.val k with z|⟨a2,ns2,z1,z2,z3,z4⟩
     ·rw[hv]at z;cases z.1
     ·rw[hv]at z1;cases z1;exact z3
    refine .cons ?_ (t.app k n2 hv he hr);obtain⟨h1,xs',h2,h3⟩:=h;have ne:a'≠a:=fun z=>n1 (by rw[z];exact ha)
    exact⟨h1,xs',by rw[Qu ne];exact h2,h3⟩
theorem LeavD.snoc {F H:Hp}(k:List Key){a:Addr}(o:Vt F H a []):∀{xs:List (List Key×V)} {ls:List (List Key×Ql)} {as:Qg},LeavD F H xs ls as->LeavD F H (xs++[(k,.ref a)]) (ls++[(k,[])]) (as++[a])
 |_,_,_,.nil=>.cons o .nil
 |_,_,_,.cons h t=>.cons h (t.snoc k o)
theorem LeavD.length {F H:Hp}:∀{xs:List (List Key×V)} {ls:List (List Key×Ql)} {as:Qg},LeavD F H xs ls as->xs.length=ls.length
 |_,_,_,.nil=>rfl
 |_,_,_,.cons h t=>by simp[t.length]
def VH (ls:List (List Key×Ql))(k:List Key):List (List Key×Ql):=if (QM ls k).isSome=true then ls else ls++[(k,[])]
section
variable {K:W.Frag}{ρ:Q1}{tb te ty tx tv:TE}{D:PEnds}{i:Nat}{v:V}{P:Program}{w:World}{C:Addr}{N:Qz}{k:List Key}
def NetOk.appLeav {F H:Hp}{a dx el r l d:Addr}{xs:List (List Key×V)}{ys:List (KK×Addr×V)}{as:Qg}(ok:NetOk P w C N F H a dx el r l d xs ys as){b:Addr}{ns:Ql}{n:Int}{zs:List V}
 (hv:Zs xs k=some (.ref b)) (he:QM N.leav k=some ns) (hb:b∈as) (hr:Qv F zs ((ns++[n]).map PyData.int)):NetOk P w C { N with leav:=VF N.leav k n } F (upd H b (.lst zs)) a dx el r l d xs ys as:=by
 obtain⟨nd,⟨i1,i2⟩,⟨o1,o2⟩,⟨e1,ex,e2,e3⟩,⟨r1,rx,r2,r3⟩,⟨l1,l2,l3⟩,⟨d1,d2,d3⟩⟩:=ok;have nd':=nd;simp only[XO,Xg,not_or]at nd';obtain⟨⟨a1,a2,a3,a4,a5,a6⟩,⟨b1,b2,b3,b4,b5⟩,⟨c1,c2,c3,c4⟩,⟨g1,g2,g3⟩,⟨h1,h2⟩,f1,f2⟩:=nd';have ne:∀{x:Addr},x∉as->x≠b:=fun h z=>h (by rw[z];exact hb)
 exact⟨nd,⟨i1,by rw[Qu (ne a6)];exact i2⟩,⟨o1,by rw[Qu (ne b5)];exact o2⟩,⟨e1,ex,by rw[Qu (ne c4)];exact e2,e3⟩,⟨r1,rx,by rw[Qu (ne g3)];exact r2,r3⟩,⟨l1,by rw[Qu (ne h2)];exact l2,l3.app k f2 hv he hr⟩,⟨d1,by rw[Qu (ne f1)];exact d2,d3⟩⟩
end
section
variable {K:W.Frag}{ρ:Q1}{tb te ty tx tv:TE}{D:PEnds}{i:Nat}{v:V}{P:Program}{w:World}{C:Addr}{N:Qz}{k:List Key}
def R8 (c:NetC K C)(e:ρ[i]?=some (some (.own v (Zb P w C N)))){n:Int}(h:Qt K te ρ (.int n)){ns:Ql}(he:QM N.leav k=some ns)(hz:ns.length<1000)
 (hn:D.nx (ρ.set i (some (.own v (Zb P w C { N with leav:=VF N.leav k n }))))) {F0 H0 F H:Hp} {σ:St} {E:Ends} (x:Q0 F0 H0 F H) (S:QB K H0 F ρ σ H) (C':Cnv K F0 H0 D E)
 {a dx el r l d:Addr} {xs:List (List Key×V)} {ys:List (KK×Addr×V)} {as:Qg} {al:Addr} (ok:NetOk P w C N F H a dx el r l d xs ys as) (ev:v=.ref a) (hv:Zs xs k=some (.ref al)) :
 tyV K "list" (.ref al) H/\QE te QN σ H fun vs H2=>Yc (.ref al) vs H2 fun _ H3=>E.nx σ H3:=by
 have find:∀{F H:Hp} {a dx el r l d:Addr} {xs:List (List Key×V)} {ys:List (KK×Addr×V)} {as:Qg},NetOk P w C N F H a dx el r l d xs ys as->Zs xs k=some (.ref al)->al∈as/\Vt F H al (ns.map PyData.int):=fun ok hv=>by
  rcases ok.leav.2.2.val k with z|⟨a2,ns2,z1,z2,z3,z4⟩
  ·rw[hv]at z;cases z.1
  ·rw[hv]at z1
   rw[he]at z2;cases z1
   cases z2
   exact⟨z3,z4⟩
 obtain⟨_,_,zs,hz1,_⟩:=find ok hv;refine⟨.inl ⟨rfl,_,SqL.of hz1⟩,h H0 F σ H _ S fun F1 H1 u x1 r1=>?_⟩
 cases r1
 obtain⟨a',dx',el',r',l',d',xs',ys',as',ea,g1,ok',hp,wr⟩:=(S.ext x1).net e;rw[ev]at ea;cases ea;obtain⟨rfl,rfl,rfl,rfl,rfl⟩:=ok.same ok' ((x1.hh _ _ ok.ins.2).trans ok.ins.2.symm);have el2:=ok'.leav.2.1.symm.trans (x1.hh _ _ ok.leav.2.1);injection el2 with el2;injection el2 with el2;subst el2;obtain⟨m1,m2,zs2,m3,m4⟩:=find ok' hv;have hr0:=hp al (by simp[m1]);refine⟨al,zs2,.int n,rfl,rfl,m3,by rw[m4.length,Xk];exact Vr (by omega),?_⟩
 exact C'.nx F1 σ _ _ ((x.trans x1).wr hr0.1 hr0.2.1) (wr _ { N with leav:=VF N.leav k n } _ ys' as' ((S.ext x1).sub.upd hr0.2.1) (fun b hb _=>Qu fun z=>hb (by rw[z];simp[m1])) Yz
  (ok'.appLeav hv he m1 (by rw[Xr];exact m4.snoc (.int n))) (fun b hb=>.inl hb)) hn
def SN (ls:List (List Key×Ql))(h:QM ls k=none):QM (ls++[(k,[])]) k=some []:=by
 induction ls with
 |nil=>simp[QM]
 |cons x ls ih =>
   obtain⟨k',ns⟩:=x
   by_cases e:k'=k
   ·simp[QM,XB,e]at h
   ·have q:QM ((k',ns)::ls) k=QM ls k:=by simp[QM,XB,e]
    rw[q]at h;have q2:QM ((k',ns)::ls++[(k,[])]) k=QM (ls++[(k,[])]) k:=by simp[QM,XB,e]
    rw[q2];exact ih h
def EC (c:NetC K C)(e:ρ[i]?=some (some (.own v (Zb P w C N)))){n:Int}(hy:Qt K ty ρ (QV k))(hl:N.leav.length<1000)(hz:∀ns,QM (VH N.leav k) k=some ns->ns.length<1000)
 (h:Qt K te (ρ.set i (some (.own v (Zb P w C { N with leav:=VH N.leav k })))) (.int n)) (hn:D.nx (ρ.set i (some (.own v (Zb P w C { N with leav:=VF (VH N.leav k) k n }))))) :
 Q2 K (VC (tBM K "list" Yc (NU (V3 K (Q8 i) "leaving") ty (Jw QN)) (QE te QN))) ρ D:=fun F0 H0 F σ H E x S C'=>by
 obtain⟨a,dx,el,r,l,d,xs,ys,as,rfl,e1,ok,hp0,_⟩:=S.net e;refine⟨_,e1,a,C,dx,_,.ref l,rfl,ok.ins.2,c.cl,c.leav,rfl,l,rfl,.inr ⟨xs,Rd.of ok.leav.2.1⟩,hy H0 F σ H _ S fun F1 H1 y x1 r1=>⟨XM _,fun p hp=>?_⟩⟩;have S1:=S.ext x1;have x2:Q0 F1 H1 F1 (upd H1 p (.lst [])):=Q0.own S1.sub hp;obtain⟨a',dx',el',r',l',d',xs',ys',as',ea,g1,ok',hp',wr⟩:=S1.net e
 cases ea
 obtain⟨rfl,rfl,rfl,rfl,rfl⟩:=ok.same ok' ((x1.hh _ _ ok.ins.2).trans ok.ins.2.symm);have hlt:i<ρ.length:=(Xh.mp e).1;obtain⟨b,rfl,hb⟩:=Wr r1;obtain⟨l1,l2,l3⟩:=ok'.leav;have np:∀q∈a::dx'::el'::r'::l'::d'::as',q≠p:=fun q hq z=>by rw[z]at hq;exact(hp' p hq).2.2 hp
 have lp:l'≠p:=np l' (by simp);have bp:b≠p:=fun z=>by rw[z]at hb;rw[S1.sub _ _ hb]at hp;cases hp
 have h0p:H0 p=none:=(x.trans x1).hh.free hp;refine⟨xs',k,b,rfl,by rw[Qu lp];exact l2,by rw[Qu bp];exact S1.sub _ _ hb,by rw[l3.length];exact Vr (by omega),fun v0 hv0=>?_,fun hv0=>?_⟩
 ·rcases l3.val k with z|⟨al,ns,z1,z2,z3,z4⟩
  ·rw[hv0]at z;cases z.1
  ·rw[hv0]at z1
   cases z1
   have ens:VH N.leav k=N.leav:=by unfold VH;rw[z2];rfl
   rw[ens]at h hn hz;have S3:=S1.ext x2
   have ok3:NetOk P w C N F1 (upd H1 p (.lst [])) a dx' el' r' l' d' xs' ys' as':=by
    obtain⟨q0,q1,q2,q3,q4,q5,q6⟩:=ok';obtain⟨e1',ex,e2,e3⟩:=q3;obtain⟨r1',rx,r2,r3⟩:=q4
    exact⟨q0,⟨q1.1,by rw[Qu (np a (by simp))];exact q1.2⟩,⟨q2.1,by rw[Qu (np dx' (by simp))];exact q2.2⟩,⟨e1',ex,by rw[Qu (np el' (by simp))];exact e2,e3⟩,⟨r1',rx,by rw[Qu (np r' (by simp))];exact r2,r3⟩,
     ⟨q5.1,by rw[Qu lp];exact q5.2.1,q5.2.2.other fun z=>np p (by simp[z]) rfl⟩,⟨q6.1,by rw[Qu (np d' (by simp))];exact q6.2.1,q6.2.2⟩⟩
   have S4:QB K H0 F1 (ρ.set i (some (.own (.ref a) (Zb P w C N)))) σ (upd H1 p (.lst [])):=wr _ N xs' ys' as' S3.sub (fun b' _ hb'=>Qu fun z=>hb' (by rw[z];exact hp)) Yz ok3 (fun b' hb'=>.inl hb');exact R8 (N:=N) c (Xo hlt) h z2 (hz ns z2) (by rw[List.set_set];exact hn) (x.trans (x1.trans x2)) S4 C' ok3 rfl hv0
 ·have z2:QM N.leav k=none:=by
   rcases l3.val k with z|⟨al,ns,z1,z2,z3,z4⟩
   ·exact z.2
   ·rw[hv0]at z1;cases z1
  have ens:VH N.leav k=N.leav++[(k,[])]:=by unfold VH;rw[z2];rfl
  rw[ens]at h hn hz;have fp:F1 p=none:=S1.sub.free hp
  have ok3:NetOk P w C { N with leav:=N.leav++[(k,[])] } F1 (upd (upd H1 p (.lst [])) l' (.dT (xs'++[(k,.ref p)]))) a dx' el' r' l' d' (xs'++[(k,.ref p)]) ys' (as'++[p]):=by
   have ok2:=ok';obtain⟨q0,q1,q2,q3,q4,q5,q6⟩:=ok';obtain⟨e1',ex,e2,e3⟩:=q3;obtain⟨r1',rx,r2,r3⟩:=q4;have nd':=q0;simp only[XO,Xg,not_or]at nd';obtain⟨⟨a1,a2,a3,a4,a5,a6⟩,⟨b1,b2,b3,b4,b5⟩,⟨c1,c2,c3,c4⟩,⟨g1',g2,g3⟩,⟨h1,h2⟩,f1,f2⟩:=nd';have up:∀{q:Addr},q∈a::dx'::el'::r'::l'::d'::as'->q≠l'->upd (upd H1 p (.lst [])) l' (.dT (xs'++[(k,.ref p)])) q=H1 q:=fun hq ne=>by rw[Qu ne,Qu (np _ hq)]
   refine⟨?_,⟨q1.1,by rw[up (by simp) a4];exact q1.2⟩,⟨q2.1,by rw[up (by simp) b3];exact q2.2⟩,⟨e1',ex,by rw[up (by simp) c2];exact e2,e3⟩,⟨r1',rx,by rw[up (by simp) g1'];exact r2,r3⟩,⟨l1,QD,?_⟩,⟨q6.1,by rw[up (by simp) (Ne.symm h1)];exact q6.2.1,q6.2.2⟩⟩
   ·have:(a::dx'::el'::r'::l'::d'::(as'++[p]))=(a::dx'::el'::r'::l'::d'::as')++[p]:=by simp
    rw[this,List.nodup_append];refine⟨q0,by simp,fun u hu t ht=>?_⟩
    cases Xi.mp ht
    exact np u hu
   ·refine LeavD.snoc k ⟨fp,[],by rw[Qu (Ne.symm lp),QD],.nil⟩ ?_
    exact(l3.other fun z=>np p (by simp[z]) rfl).other h2
  have S4:QB K H0 F1 (ρ.set i (some (.own (.ref a) (Zb P w C { N with leav:=N.leav++[(k,[])] })))) σ (upd (upd H1 p (.lst [])) l' (.dT (xs'++[(k,.ref p)]))) :=
   wr _ _ _ ys' (as'++[p]) ((S1.sub.upd fp).upd l1) (fun b' hb1 hb2=>by rw[Qu (fun z=>hb1 (by rw[z];simp)),Qu (fun z=>hb2 (by rw[z];exact hp))]) (fun b' hb'=>Yz b' (Yz b' hb')) ok3 (fun b' hb'=>by
    rcases XG.mp hb' with z|z
    ·exact .inl z
    ·cases Xi.mp z;exact .inr ⟨hp,h0p⟩)
  have hl0:=hp' l' (by simp)
  exact R8 (N:={ N with leav:=N.leav++[(k,[])] }) c (Xo hlt) h (SN _ z2) (hz [] (SN _ z2)) (by rw[List.set_set];exact hn) ((x.trans (x1.trans x2)).wr hl0.1 hl0.2.1) S4 C' ok3 rfl (by
   rw[S5 k k (.ref p) xs' hv0,Xd rfl])
end
end L2
section
namespace L2
open PySem PySem.Spec PyProof.Rows
structure KTup (K:W.Frag)(g:Addr)(x:Str):Prop where
 ex:∃(d:Qj) (t:Nat) (n:Nat) (sl:Array (Qf)),K.lookup g=some ⟨.type "tuple",d,.seq #[.str x t] n,sl⟩
def AL {P:Program}{w:World}{K:W.Frag}{mg mb:Str->Qf}{k:Nat}{fa a gS gE:Addr}{fd:FuncData}{x:Str}{sp:Sp}{b7:Shared}{vs:Qe}{ns:Ql}
 (KX:K.In b7.heap) (hns:b7.heap.Ns mainGlobals mg) (hb:b7.heap.Ns builtinsNs mb) (hbb:∀x:Str,x ≠ "__name__" -> mb x=bootBuiltins x) (hlim:b7.heap.NoLimit) (hg:b7.gens=#[])
 (ha:b7.heap.get? a=some { cls:=.type "list",data:=.seq vs.toArray }) (hi:IntsAre vs ns) (hl:ns.length<=sizeLine) (hr:Room k callerA) (tS:KTup K gS "start") (tE:KTup K gE "end")
 (F:∀base:Heap,K.In base->base.Ns mainGlobals mg->FnOk P w K mg base CX0 k fa fd [x] sp) (hbind:∀(s:Shared) (u:Value),BindsTo s fd ⟨[u],[]⟩ [(x,u)])
 (hsp:∀H:Hp,SqL K H a (ns.map V.int)->H gS=some (.tup [.str "start"])->H gE=some (.tup [.str "end"])->sp [.ref a] H (fun v _=>v=.bl true) fun _ _ _=>False) :
 codeAny (model P w) callerA (.call (.ref fa) ⟨[.ref a],[]⟩) (fun r s'=>r=.ok (.ret (.bool true))/\OldK b7.heap s'.heap/\s'.os=b7.os/\AllBare s'.gens) b7:=by
 have rv:=SM hi;have lenV:=hi.length;obtain⟨dS,kS,cS,slS,lS⟩:=tS.ex;obtain⟨dE,kE,cE,slE,lE⟩:=tE.ex;have hS0:=KX gS _ lS;have hE0:=KX gE _ lE
 have naS:gS≠a:=fun z=>by
  rw[z,ha]at hS0;injection hS0 with z1;injection z1 with z2;injection z2 with z3;exact Xl z3 (by decide)
 have naE:gE≠a:=fun z=>by
  rw[z,ha]at hE0;injection hE0 with z1;injection z1 with z2;injection z2 with z3;exact Xl z3 (by decide)
 have nSE:gE≠gS:=fun z=>by
  rw[z,lS]at lE;injection lE with z1;injection z1 with _ _ z2 _;injection z2 with z3 _;have z4:=X5 Array.toList z3;simp only[List.cons.injEq,Value.str.injEq,and_true]at z4;exact Xl z4.1 (by decide)
 have core:∀Hs:Hp,Tc Hs->SqL K Hs a (ns.map V.int)->HOk P w Hs b7.heap->(∀b,Hs b≠none->b=a)->(Hs a≠none->K.lookup a=none) ->
  codeAny (model P w) callerA (.call (.ref fa) ⟨[.ref a],[]⟩) (fun r s'=>r=.ok (.ret (.bool true))/\OldK b7.heap s'.heap/\s'.os=b7.os/\AllBare s'.gens) b7:=by
  intro Hs hO hSq hok hA hK;have fS:Hs gS=none:=by
   cases q:Hs gS with
   |none=>rfl
   |some u=>exact Xl (hA gS (by rw[q];simp)) naS
  have fE:Hs gE=none:=by
   cases q:Hs gE with
   |none=>rfl
   |some u=>exact Xl (hA gE (by rw[q];simp)) naE
  have base_of:∀{b:Addr} {o:Obj},b7.heap.get? b=some o->Hs b=none->(W6 b7.heap Hs).get? b=some o:=fun e n=>FI e n
  have noA:∀{b:Addr} {o:Obj} {es:Array DictEntry} {ep:Nat},b7.heap.get? b=some o->o.data=.dict es ep->Hs b=none:=fun{b o es ep} e d=>by
   cases q:Hs b with
   |none=>rfl
   |some u =>
     have e':b=a:=hA b (by rw[q];simp);subst e';rw[ha]at e;cases e;have d':Data.seq vs.toArray _=Data.dict es ep:=d
     cases d'
  have nsK:∀{b:Addr} {m:Str->Qf},b7.heap.Ns b m->(W6 b7.heap Hs).Ns b m:=fun{b m} ⟨o,es,ep,e,d,r⟩=>⟨o,es,ep,base_of e (noA e d),d,r⟩
  have hKb:K.In (W6 b7.heap Hs):=fun b o e=>base_of (KX b o e) (by
   cases q:Hs b with
   |none=>rfl
   |some u =>
     have e':b=a:=hA b (by rw[q];simp);subst e';rw[hK (by rw[q];simp)]at e;cases e)
  have hM:Mod K mg (W6 b7.heap Hs):=⟨hKb,nsK hns,⟨mb,nsK hb,hbb⟩,let ⟨mc,h1,h2⟩:=hlim;⟨mc,nsK h1,h2⟩⟩
  let H:Hp:=upd (upd Hs gS (.tup [.str "start"])) gE (.tup [.str "end"])
  have hHS:H gS=some (.tup [.str "start"]):=by show upd _ _ _ gS=_;rw[Qu (Ne.symm nSE),QD]
  have hHE:H gE=some (.tup [.str "end"]):=QD;have hHo:∀b,b≠gS->b≠gE->H b=Hs b:=fun b h1 h2=>by show upd _ _ _ b=_;rw[Qu h2,Qu h1]
  have sm:Q4 Hs H:=fun b u e=>by
   rw[hHo b (fun z=>by rw[z,fS]at e;cases e) (fun z=>by rw[z,fE]at e;cases e)];exact e
  have l1:∀x:Str,[V.str x].length<=sizeLine:=fun _=>Y1 (Vr W2)
  have hokH:HOk P w H b7.heap:=fun b u e=>by
   by_cases h1:b=gS
   ·subst h1
    rw[hHS]at e;cases e
    exact⟨l1 _,[.str "start" kS],.cons ⟨kS,rfl⟩ .nil,⟨_,hS0,rfl,_,rfl⟩⟩
   ·by_cases h2:b=gE
    ·subst h2
     rw[hHE]at e;cases e
     exact⟨l1 _,[.str "end" kE],.cons ⟨kE,rfl⟩ .nil,⟨_,hE0,rfl,_,rfl⟩⟩
    ·rw[hHo b h1 h2]at e
     rcases hO b with z|⟨o,xs,z⟩
     ·rw[z]at e;cases e
     ·rw[z]at e
      cases e
      obtain⟨q1,q2⟩:=hok b _ z
      exact⟨q1,q2⟩
  have e0:Env0 P w K mg (W6 b7.heap Hs) callerA [] b7 H:=⟨rfl,hM,fun b o e=>by
   obtain⟨e1,e2⟩:=F9 e;refine⟨e1,?_⟩
   by_cases h1:b=gS
   ·exact .inr ⟨_,by rw[h1];exact hHS⟩
   ·by_cases h2:b=gE
    ·exact .inr ⟨_,by rw[h2];exact hHE⟩
    ·exact .inl (by rw[hHo b h1 h2];exact e2),Nat.le_of_eq (AG _ _),trivial,fun b hb=>Xl (show b∈([]:Qg) from hb) (by simp),hokH,.of_eq hg⟩
  refine codeAny_mono ((F _ hKb (nsK hns)).run callerA [] b7 H ⟨[.ref a],[]⟩ [.ref a] [.ref a] _ _ hr e0 (hbind b7 (.ref a)) (.cons rfl .nil) (hsp H (sm.seq hSq) hHS hHE)) fun r s' h=>?_
  cases r with
  |error e=>exact False.elim h
  |ok fl =>
    cases fl with
    |next=>exact False.elim h
    |brk=>exact False.elim h
    |cont=>exact False.elim h
    |ret u =>
      obtain⟨v,H',os,bare,un,hok',r',q⟩:=h;have q':v=.bl true:=q;subst q';obtain rfl:u=Value.bool true:=r';refine⟨rfl,OldK.of_keep fun b o e=>?_,os,bare⟩
      by_cases h1:b=gS
      ·subst h1
       exact un.tupo b _ o hHS e (by simp)
      ·by_cases h2:b=gE
       ·subst h2
        exact un.tupo b _ o hHE e (by simp)
       ·rcases hO b with z|⟨ob,xs,z⟩
        ·exact un.keep b o e (by rw[hHo b h1 h2];exact z) (by intro z;exact Xl (show b∈([]:Qg) from z) (by simp)) (by simp)
        ·have z2:=un.frzs b ob _ (by rw[hHo b h1 h2];exact z)
         obtain⟨e1,_⟩:=hok b _ z;obtain⟨e2,_⟩:=hok' b _ z2;rw[e]at e1;cases e1;exact e2
 cases hk:K.lookup a with
 |some o =>
   have e:=KX a o hk;rw[ha]at e;cases e;refine core (fun _=>none) (fun _=>.inl rfl) (.inr ⟨_,vs.toArray,_,hk,rfl,rfl,rfl,by rw[Xw,lenV];exact hl,by simpa using rv⟩) (fun b u z=>by have z':(none:Option HO)=some u:=z;cases z') (fun b z=>Xl rfl z) fun z=>Xl rfl z
 |none =>
   refine core (fun b=>if b=a then some (.frz { cls:=.type "list",data:=.seq vs.toArray } (.lst (ns.map V.int))) else none) (fun b=>?_) (.inl (.inr ⟨{ cls:=.type "list",data:=.seq vs.toArray },Xd rfl⟩)) (fun b u z=>?_) (fun b z=>?_) fun _=>hk
   ·by_cases hb:b=a
    ·exact .inr ⟨_,_,Xd hb⟩
    ·exact .inl (Xb hb)
   ·by_cases hb:b=a
    ·have z':=(Xd hb).symm.trans z
     cases z'
     subst hb;exact⟨ha,by rw[Xk];exact hl,vs,_,rv,ha⟩
    ·have z':=(Xb hb).symm.trans z
     cases z'
   ·by_cases hb:b=a
    ·exact hb
    ·exact Xl (Xb hb) z
def Zms {l:W.OpenLaw}{k:Nat}{q:Program}{loose:Qh}{XP:(Str->Qf)->Heap->Prop}{YP:World->Heap->Prop}{d:DefRec}{K:Params->W.Frag}{x:Str}
 (hn:l.most=some 63) (hdf:d.params.defaults=[]) (hr:Room k callerA)
 (hY:∀(w:World) (h:Heap),YP w h->(K w.params).In h)
 (F:∀(w:World) (mg:Str->Qf) (fa:Addr) (h:Heap),(K w.params).In h->h.Ns mainGlobals mg->mg d.name=some (.ref fa) ->
  (∃gS gE,W.nsIn (K w.params) mainGlobals "START"=some (some (.ref gS))/\W.nsIn (K w.params) mainGlobals "END"=some (some (.ref gE))/\KTup (K w.params) gS "start" /\ KTup (K w.params) gE "end") /\
  ∃fd:FuncData,(∀(s:Shared) (u:Value),BindsTo s fd ⟨[u],[]⟩ [(x,u)]) /\
   ∀base:Heap,(K w.params).In base->base.Ns mainGlobals mg->FnOk l.prog w (K w.params) mg base CX0 k fa fd [x] (B5 (K w.params))) :
 W.WalkO q loose XP YP l.row.toRowW d [] (fun f vs=>PySem.call f vs):=by
 refine Att.attach_callW hn hdf fun w s₀ b7 mg mb fa o pm cd doc a vs ns G Y ho hd hcd hmg hobj hints hlen hbits hg=>?_
 have KX:=hY w _ Y;obtain⟨⟨gS,gE,n1,n2,t1,t2⟩,fd,hb,hF⟩:=F w mg fa _ KX G.T.g hmg;exact AL KX G.T.g G.T.b G.T.builtins G.T.nolimit hg hobj hints (VM hlen (by decide)) hr t1 t2 hF hb (fun H hS h1 h2=>⟨a,ns,rfl,⟨gS,gE,n1,n2,h1,h2⟩,⟨hS,hlen,hbits⟩,fun _=>rfl⟩)
def Hg {K:W.Frag} {ρ:Q1} {g:Addr} (a:W.nsIn K mainGlobals "START"=some (some (.ref g))):Qt K (tC (.ref g)) ρ (QV [.inr "start"]):=fun H0 F σ H Q S q=>by
 obtain⟨gS,gE,h1,h2,h3,h4⟩:=S.kt;rw[h1]at a;cases a;exact q F H _ (Q0.refl S.sub) (.tup h3 (.cons (.str _) .nil))
def N5 {K:W.Frag} {ρ:Q1} {g:Addr} (a:W.nsIn K mainGlobals "END"=some (some (.ref g))):Qt K (tC (.ref g)) ρ (QV [.inr "end"]):=fun H0 F σ H Q S q=>by
 obtain⟨gS,gE,h1,h2,h3,h4⟩:=S.kt;rw[h2]at a;cases a;exact q F H _ (Q0.refl S.sub) (.tup h4 (.cons (.str _) .nil))
def Ti {A:Around}{k:Nat}(hr:Room k A):A.units+6<cLine:=Nat.lt_of_le_of_lt (Nat.add_le_add_left (by decide:6<=64) _) hr.units
def NG (tk tv:TE):TE:=fun σ H Q=>∀p,H p=none->tk σ (upd H p (.dT [])) fun x H1=>tv σ H1 fun y H2=>∃k b,x=.ref b/\H2 p=some (.dT [])/\H2 b=some (.tup (k.map kV))/\Q (.ref p) (upd H2 p (.dT [(k,y)]))
def CK {X:Cx}{pos:Pos}{ke ve:Expr}{tk tv:TE}(hu:X.A.units+1<cLine)(hk:PE X ke tk)(hv:PE X ve tv):PE X (.Dict [some ke] [ve] pos) (NG tk tv):=by
 intro Xa1 s σ H Q I q;have hn:=I.hok.fresh (Xu s.heap.objs.size);have I1:=I.laid (a:=s.heap.objs.size) (o:=.dT []) (h':=s.heap.push { cls:=.type "dict",data:=.dict #[] }) (t':=s.toks) (fun _ _ q=>Xf _ q) (Xu _) (RF s.heap I.big);refine wpAny_Dict_any rfl rfl (by simp) (by show(1:Nat)<=15;decide) (pairTrees_cons_walk (Q6 (hk Xa1 _ σ _ _ I1 (q _ hn)) fun kv s1 ⟨x,H1,I2,rx,q1⟩=>Q6 (hv Xa1 s1 σ H1 _ I2 q1) fun vv s2 ⟨y,H2,I3,ry,k,b,ex,e,eb,q2⟩=>pairTrees_nil_walk ?_));subst ex;obtain rfl:kv=Value.ref b:=rx;obtain⟨z,hd,xs,rel,dd⟩:=MM I3.hok e;have hx:xs=[]:=by cases rel;rfl
 subst hx;unfold storeAll;rw[List.forIn_cons];refine Xa (Xa (wpAny_dictSet_heap (hsz:=XM _) (knd:=tupleKind (Vq X.prog X.w)) (show X.A.units<cLine by omega) (Wl I3.hok eb) dd fun h' dd' hs=>Xn ?_));obtain⟨q',es,ep,hq,g2,g3,g4,_,g5⟩:=dd';show wpAny _ _ (forIn [] PUnit.unit _) _ _ _;rw[List.forIn_nil];refine Xn ⟨.ref s.heap.objs.size,upd H2 s.heap.objs.size (.dT [(k,y)]),GE (ob:=.dT [(k,y)]) I3 (by rw[e];exact True.intro) hs ⟨q',hq⟩ ⟨Y1 (Vr W2),hd,_,(show KT H2 [(k,y)] [(k,b,vv)] from .cons ⟨rfl,eb,ry⟩ .nil).keeps fun c ys ec=>?_,q',es,ep,hq,g2,g3,g4,g5⟩,rfl,q2⟩;rw[Qu (fun z=>by subst z;rw[e]at ec;cases ec)];exact ec
def Cf {K:W.Frag}{ρ:Q1}{tk tv:TE}{k:List Key}{d:PyData}(hk:Qt K tk ρ (QV k))(hv:Qt K tv ρ d):EvX K (NG tk tv) ρ (Vy [(k,d)]):=fun H0 F σ H Q S q=>fun p hp=>by
 have x0:Q0 F H F (upd H p (.dT [])):=Q0.own S.sub hp;have f0:F p=none:=S.sub.free hp;refine hk H0 F σ _ _ (S.ext x0) fun F1 H1 x x1 r1=>hv H0 F1 σ H1 _ (S.ext (x0.trans x1)) fun F2 H2 y x2 r2=>?_;obtain⟨b,rfl,hb⟩:=Wr r1;have X:=x1.trans x2;have hp2:H2 p=some (.dT []):=X.hh _ _ QD;have fp2:F2 p=none:=X.free f0 (by rw[QD];exact fun z=>nomatch z);have X':=x0.trans X;refine⟨k,b,rfl,hp2,X.fh _ _ (x2.ff _ _ hb),q F2 _ (.ref p) [p] (X'.wr hp fp2) (fun a ha=>by cases Xi.mp ha;exact hp) ⟨p,_,rfl,rfl,fp2,QD,.cons r2 .nil⟩⟩
inductive LeavZ (F:Hp):List (List Key×V)->List (List Key×Ql)->Prop
 |nil:LeavZ F [] []
 |cons {k:List Key} {a:Addr} {ns:Ql} {zs:List V} {xs:List (List Key×V)} {ls:List (List Key×Ql)}:F a=some (.lst zs)->Qv F zs (ns.map PyData.int)->LeavZ F xs ls->LeavZ F ((k,.ref a)::xs) ((k,ns)::ls)
theorem LeavZ.mono {F F':Hp}(s:Q4 F F'):∀{xs:List (List Key×V)} {ls:List (List Key×Ql)},LeavZ F xs ls->LeavZ F' xs ls
 |_,_,.nil=>.nil
 |_,_,.cons h r t=>.cons (s _ _ h) (r.mono s) (t.mono s)
theorem LeavZ.val {F:Hp}(k:List Key):∀{xs:List (List Key×V)} {ls:List (List Key×Ql)},LeavZ F xs ls->(Zs xs k=none/\QM ls k=none)\/∃a ns zs,Zs xs k=some (.ref a)/\QM ls k=some ns/\F a=some (.lst zs)/\Qv F zs (ns.map PyData.int)
 |_,_,.nil=>.inl ⟨rfl,rfl⟩
 |_,_,.cons (k:=k') (a:=a) (ns:=ns) (zs:=zs) (xs:=xs) (ls:=ls) h r t=>by
   by_cases e:k'=k
   ·exact .inr ⟨a,ns,zs,YF e,by simp[QM,XB,e],h,r⟩
   ·have q:QM ((k',ns)::ls) k=QM ls k:=by simp[QM,XB,e]
    rw[YG (p:=(k',V.ref a)) e,q];exact t.val k
theorem LeavD.fz {F F' H:Hp}(s:Q4 F F'):∀{xs:List (List Key×V)} {ls:List (List Key×Ql)} {as:Qg},LeavD F H xs ls as->(∀b∈as,F' b=H b)->LeavZ F' xs ls
 |_,_,_,.nil,_=>.nil
 |_,_,_,.cons h t,he=>by
   obtain⟨h1,xs,h2,h3⟩:=h;exact .cons (by rw[he _ Xc];exact h2) (h3.mono s) (t.fz s fun b hb=>he b (Xe _ hb))
structure NetFz (P:Program)(w:World)(C:Addr)(N:Qz)(F:Hp)(a dx e r l d:Addr)(xs:List (List Key×V))(ys:List (KK×Addr×V)):Prop where
 ins:F a=some (.ins C dx [("ends",.ref e),("rooms",.ref r),("leaving",.ref l),("laid",.ref d)])
 ends:∃ex,F e=some (.lst ex)/\Qv F ex (N.ends.map QV)
 rooms:∃rx,F r=some (.lst rx)/\Qv F rx (N.rooms.map PyData.int)
 leav:F l=some (.dT xs)/\LeavZ F xs N.leav
 laid:F d=some (pdO P w d ys)/\LaidD F ys N.laid
def NetFz.mono {P:Program}{w:World}{C:Addr}{N:Qz}{F F':Hp}{a dx e r l d:Addr}{xs:List (List Key×V)}{ys:List (KK×Addr×V)}(s:Q4 F F')(h:NetFz P w C N F a dx e r l d xs ys):NetFz P w C N F' a dx e r l d xs ys:=by
 obtain⟨h1,⟨ex,h2,h3⟩,⟨rx,h4,h5⟩,⟨h6,h7⟩,⟨h8,h9⟩⟩:=h
 exact⟨s _ _ h1,⟨ex,s _ _ h2,h3.mono s⟩,⟨rx,s _ _ h4,h5.mono s⟩,⟨s _ _ h6,h7.mono s⟩,⟨s _ _ h8,h9.mono s⟩⟩
def V2 (P:Program)(w:World)(C:Addr)(N:Qz):ZP where
 ok K F v := ∃a dx e r l d xs ys,v=.ref a/\NetFz P w C N F a dx e r l d xs ys
 mono:=by
  rintro K F F' v s ⟨a,dx,e,r,l,d,xs,ys,rfl,h⟩
  exact⟨a,dx,e,r,l,d,xs,ys,rfl,h.mono s⟩
def NetOk.fz {P:Program}{w:World}{C:Addr}{N:Qz}{F F' H:Hp}{a dx el r l d:Addr}{xs:List (List Key×V)}{ys:List (KK×Addr×V)}{as:Qg}(ok:NetOk P w C N F H a dx el r l d xs ys as)(s:Q4 F F')(he:∀b∈a::dx::el::r::l::d::as,F' b=H b) :
 NetFz P w C N F' a dx el r l d xs ys:=by
 obtain⟨nd,⟨i1,i2⟩,⟨o1,o2⟩,⟨e1,ex,e2,e3⟩,⟨r1,rx,r2,r3⟩,⟨l1,l2,l3⟩,⟨d1,d2,d3⟩⟩:=ok
 exact⟨by rw[he _ (by simp)];exact i2,⟨ex,by rw[he _ (by simp)];exact e2,e3.mono s⟩,⟨rx,by rw[he _ (by simp)];exact r2,r3.mono s⟩,⟨by rw[he _ (by simp)];exact l2,l3.fz s fun b hb=>he b (by simp[hb])⟩,⟨by rw[he _ (by simp)];exact d2,d3.mono s⟩⟩
def Zb.fz {P:Program}{w:World}{C:Addr}{N:Qz}{K:W.Frag}{F F' H:Hp}{v:V}{p:Qg}(h:(Zb P w C N).ok K F H v p)(s:Q4 F F')(he:∀b∈p,F' b=H b):(V2 P w C N).ok K F' v:=by
 obtain⟨a,dx,e,r,l,d,xs,ys,as,rfl,rfl,o⟩:=h
 exact⟨a,dx,e,r,l,d,xs,ys,rfl,o.fz s he⟩
def J0 (kvs:ZV):ZP where
 ok K F v := ∃a xs,v=.ref a/\F a=some (.dT xs)/\PairD F xs kvs
 mono:=by
  rintro K F F' v s ⟨a,xs,rfl,h1,h2⟩
  exact⟨a,xs,rfl,s _ _ h1,h2.mono s⟩
def Vy.fz {kvs:ZV}{K:W.Frag}{F F' H:Hp}{v:V}{p:Qg}(h:(Vy kvs).ok K F H v p)(s:Q4 F F')(he:∀b∈p,F' b=H b):(J0 kvs).ok K F' v:=by
 obtain⟨a,xs,rfl,rfl,h1,h2,h3⟩:=h
 exact⟨a,xs,rfl,by rw[he a Xc];exact h2,h3.mono s⟩
section
variable {K:W.Frag}{ρ:Q1}{D:PEnds}
def QB.freezeZ {H0 F H:Hp}{σ:St}{i:Nat}{v:V}{Φ:OwnP}{Ψ:ZP}(s:QB K H0 F ρ σ H)(e:ρ[i]?=some (some (.own v Φ)))
 (hz:∀{F F' H:Hp} {u:V} {p:Qg},Φ.ok K F H u p->Q4 F F'->(∀b∈p,F' b=H b)->Ψ.ok K F' u) :
 ∃p,(∀a∈p,F a=none/\H a≠none/\H0 a=none)/\QB K H0 (frF F H p) (ρ.set i (some (.zow Ψ))) σ H:=by
 obtain⟨kt,h1,h2,fp,h3,h4,h5⟩:=s;obtain⟨u,e1,rfl,ok⟩:=h3 i _ e;have hlt:=(Xh.mp e).1;have th:=fun a ha=>Φ.there ok a ha;have sm:Q4 F (frF F H (fp i)):=Wu fun a ha=>(th a ha).1;refine⟨fp i,fun a ha=>⟨(th a ha).1,(th a ha).2,(h5 i a ha).1⟩,kt.mono sm,GB h1,by simp[h2],fun j=>if j=i then [] else fp j,fun j t' e'=>?_,fun j k b hb hc=>?_,fun j b hb=>?_⟩
 ·by_cases hj:j=i
  ·subst hj
   rw[Xo hlt]at e';cases e';refine⟨_,e1,?_,hz ok sm fun b hb=>WW hb⟩;dsimp only;rw[Xd rfl]
  ·rw[Xx (Ne.symm hj)]at e'
   obtain⟨u',f1,f2⟩:=h3 j t' e';refine⟨u',f1,?_⟩;dsimp only;rw[Xb hj];exact f2.frOther sm fun a ha z=>hj (h4 j i a ha z)
 ·by_cases hj:j=i
  ·simp[hj]at hb
  ·by_cases hk:k=i
   ·simp[hk]at hc
   ·simp only[Xb hj]at hb
    simp only[Xb hk]at hc;exact h4 j k b hb hc
 ·by_cases hj:j=i
  ·simp[hj]at hb
  ·simp only[Xb hj]at hb
   exact h5 j b hb
def TK {t:TS}(i:Nat){v:V}{Φ:OwnP}{Ψ:ZP}(e:ρ[i]?=some (some (.own v Φ)))(hz:∀{F F' H:Hp} {u:V} {p:Qg},Φ.ok K F H u p->Q4 F F'->(∀b∈p,F' b=H b)->Ψ.ok K F' u)
 (h:Q2 K t (ρ.set i (some (.zow Ψ))) D):Q2 K t ρ D:=fun F0 H0 F σ H E x S C=>by
 obtain⟨p,hp,S'⟩:=S.freezeZ e hz;refine h F0 H0 _ σ H E ⟨x.hh,x.ff.trans (Wu fun a ha=>(hp a ha).1),S'.sub,fun a ha=>?_⟩ S' C
 by_cases z:a∈p
 ·exact .inr (hp a z).2.2
 ·rw[Wq z]at ha;exact x.fr a ha
def RZ {t:TS}{kvs:ZV}{v:V}(i:Nat)(e:ρ[i]?=some (some (.own v (Vy kvs))))(h:Q2 K t (ρ.set i (some (.zow (J0 kvs)))) D):Q2 K t ρ D:=TK i e (fun a b c=>Vy.fz a b c) h
def Zv (K:W.Frag)(t:TE)(ρ:Q1)(Φ:OT->Prop):Prop := ∀(H0 F:Hp) (σ:St) (H:Hp) (Q:VK),QB K H0 F ρ σ H->(∀F' H' v p r,Φ r->Q0 F H F' H'->(∀a∈p,H a=none)->Zk K F' H' v r p->Q v H')->t σ H Q
def EvO.d {t:TE}{r:OT}{Φ:OT->Prop}(h:EvO K t ρ r)(hr:Φ r):Zv K t ρ Φ:=fun H0 F σ H Q S q=>h H0 F σ H Q S fun F' H' v p x hp ok=>q F' H' v p r hr x hp ok
def Zv.imp {t:TE}{Φ Φ':OT->Prop}(h:Zv K t ρ Φ)(hi:∀r,Φ r->Φ' r):Zv K t ρ Φ':=fun H0 F σ H Q S q=>h H0 F σ H Q S fun F' H' v p r hr=>q F' H' v p r (hi r hr)
def Zv.o {t:TE}{r:OT}(h:Zv K t ρ (fun r'=>r'=r)):EvO K t ρ r:=fun H0 F σ H Q S q=>h H0 F σ H Q S fun F' H' v p r' e x hp ok=>by subst e;exact q F' H' v p x hp ok
def EvX.d {t:TE}{Φ0:OwnP}{Φ:OT->Prop}(h:EvX K t ρ Φ0)(hr:∀v,Φ (.own v Φ0)):Zv K t ρ Φ:=fun H0 F σ H Q S q=>h H0 F σ H Q S fun F' H' v p x hp ok=>q F' H' v p (.own v Φ0) (hr v) x hp ⟨rfl,ok⟩
def UF {te:TE}{i:Nat}{Φ:OT->Prop}(h:Zv K te ρ Φ)(hn:∀r,Φ r->D.nx (ρ.set i (some r))):Q2 K (Ve te (ZJ i)) ρ D:=fun F0 H0 F σ H E x S C =>
 h H0 F σ H _ S fun F' H' v p r hr x' hp ok=>by
  refine C.nx F' _ H' _ (x.trans x') ((S.ext x').set ok (fun a ha=>x.hh.free (hp a ha)) (hn:=fun a ha j w t' q e1 e2 ok'=>?_)) (hn r hr);obtain⟨fp,g1,g2,g3⟩:=S.fp;obtain⟨w',f1,f2⟩:=g1 j t' e1;intro hq;have f3:=f2.ext x';rw[e2]at f1;cases f1
  exact(g3 j a (UI (K:=K) f3 ok' a hq)).2 (hp a ha)
def FF {te:TE}{Φ:OT->Prop}(h:Zv K te ρ Φ)(hr:∀r,Φ r->D.rt r):Q2 K (Yo te) ρ D:=fun F0 H0 F σ H E x S C =>
 h H0 F σ H _ S fun F' H' v p r e x' hp ok=>C.rt F' H' v r p (x.trans x') (fun a ha=>x.hh.free (hp a ha)) ok (hr r e)
def D6 {i:Nat}{v:V}{Φ:OwnP}(e:ρ[i]?=some (some (.own v Φ)))(hr:D.rt (.own v Φ)):Q2 K (Yo (Q8 i)) ρ D:=fun F0 H0 F σ H E x S C=>by
 obtain⟨fp,h,_,h5⟩:=S.fp;obtain⟨u,e1,e2⟩:=h i _ e
 exact⟨_,e1,C.rt F H u (.own v Φ) (fp i) x (fun a ha=>(h5 i a ha).1) e2 hr⟩
def Ut (r:OT):Prop := ∀(K:W.Frag) (F F' H:Hp) (v:V) (p:Qg),(∀a∈p,F' a=none)->Zk K F H v r p->Zk K F' H v r p
def Rep.thin {F F':Hp}{v w:V}{d:PyData}(r:Rep F v d)(h:Zx d=some w):Rep F' v d:=by
 cases r<;>simp[Zx]at h
 ·exact .non
 ·exact .bl _
 ·exact .int _
 ·exact .str _
def GV {d:PyData}{w:V}(h:Zx d=some w):Ut (.fz d):=fun K F F' H v p _ ok=>⟨ok.1,ok.2.thin h⟩
def RA {ds:Qd}(h:B3 ds):Ut (.ol ds):=fun K F F' H v p hp ok=>by
 obtain⟨a,rfl,rfl,h1,xs,h2,h3⟩:=ok
 exact⟨a,rfl,rfl,hp a Xc,xs,h2,h3.flats h⟩
def Dq (kvs:ZV):Prop := ∀x∈kvs,∃w,Zx x.2=some w
theorem PairD.flats {F F':Hp}:∀{xs:List (List Key×V)} {kvs:ZV},Dq kvs->PairD F xs kvs->PairD F' xs kvs
 |_,_,_,.nil=>.nil
 |_,_,h,.cons r t=>by
   obtain⟨w,e⟩:=h _ Xc;exact .cons (r.thin e) (t.flats fun x hx=>h x (Xe _ hx))
def CJ {kvs:ZV}{v:V}(h:Dq kvs):Ut (.own v (Vy kvs)):=fun K F F' H u p hp ok=>by
 obtain⟨e,a,xs,rfl,rfl,h1,h2,h3⟩:=ok
 exact⟨e,a,xs,rfl,rfl,hp a Xc,h2,h3.flats h⟩
def RQ {t:TE}{v:V}{Φ0:OwnP}{Ψ:ZP}{Φ:OT->Prop}(i:Nat)(e:ρ[i]?=some (some (.own v Φ0)))(hz:∀{F F' H:Hp} {u:V} {p:Qg},Φ0.ok K F H u p->Q4 F F'->(∀b∈p,F' b=H b)->Ψ.ok K F' u)
 (hf:∀r,Φ r->Ut r) (h:Zv K t (ρ.set i (some (.zow Ψ))) Φ):Zv K t ρ Φ:=fun H0 F σ H Q S q=>by
 obtain⟨p,hp,S'⟩:=S.freezeZ e hz;refine h H0 _ σ H Q S' fun F' H' u pp r hr x hpp ok=>?_;refine q _ H' u pp r hr (JL (fun a ha=>⟨(hp a ha).1,(hp a ha).2.1⟩) x) hpp (hf r hr K F' _ H' u pp (fun a ha=>?_) ok)
 by_cases z:a∈p
 ·show(if a∈p then none else F' a)=none
  rw[Xd z]
 ·show(if a∈p then none else F' a)=none
  rw[Xb z];exact(ok.there a ha).1
def Kb {t:TE}{P:Program}{w:World}{C:Addr}{N:Qz}{v:V}{Φ:OT->Prop}(i:Nat)(e:ρ[i]?=some (some (.own v (Zb P w C N))))(hf:∀r,Φ r->Ut r)(h:Zv K t (ρ.set i (some (.zow (V2 P w C N)))) Φ):Zv K t ρ Φ :=
 RQ i e (fun a b c=>Zb.fz a b c) hf h
def EH {t:TE}{P:Program}{w:World}{C:Addr}{N:Qz}{v:V}{d:PyData}{u:V}(i:Nat)(e:ρ[i]?=some (some (.own v (Zb P w C N))))(hf:Zx d=some u)(h:Qt K t (ρ.set i (some (.zow (V2 P w C N)))) d):Qt K t ρ d :=
 EvO.e (Zv.o (Kb (Φ:=fun r=>r=.fz d) i e (fun r hr=>by subst hr;exact GV hf) (h.o.d rfl)))
section
variable {tb te ty tx:TE}{i:Nat}{P:Program}{w:World}{C:Addr}{N:Qz}{k:List Key}
def QB.netz {H0 F H:Hp}{σ:St}(S:QB K H0 F ρ σ H)(e:ρ[i]?=some (some (.zow (V2 P w C N)))):∃a dx el r l d xs ys,σ[i]?=some (some (.ref a))/\NetFz P w C N F a dx el r l d xs ys:=by
 obtain⟨fp,h,_⟩:=S.fp;obtain⟨v,e1,_,a,dx,el,r,l,d,xs,ys,rfl,h1⟩:=h i _ e
 exact⟨a,dx,el,r,l,d,xs,ys,e1,h1⟩
def Sj (c:NetC K C) (e:ρ[i]?=some (some (.zow (V2 P w C N)))) {k m:Int} (hb:Qt K tb ρ (.int k)) (hm:atI (N.rooms.map PyData.int) k=some (.int m)):Qt K (tOp (rIx K) (V3 K (Q8 i) "rooms") tb) ρ (.int m):=fun H0 F σ H Q S q=>by
 obtain⟨a,dx,el,r,l,d,xs,ys,e1,ok⟩:=S.netz e;refine⟨_,e1,a,C,dx,_,.ref r,rfl,S.sub _ _ ok.ins,c.cl,c.rooms,rfl,hb H0 F σ H _ S fun F1 H1 y x1 r1=>?_⟩
 cases r1
 obtain⟨rx,r2,r3⟩:=ok.rooms;obtain⟨z,z1,z2⟩:=UM (r3.mono x1.ff) hm;exact .inl ⟨r,rx,k,z,rfl,rfl,SqL.of (x1.fh _ _ (x1.ff _ _ r2)),z1,q F1 H1 z x1 z2⟩
def Rg (c:NetC K C) (e:ρ[i]?=some (some (.zow (V2 P w C N)))) {k:Int} {n:PyData} (hb:Qt K tb ρ (.int k)) (hm:atI (N.ends.map QV) k=some n):Qt K (tOp (rIx K) (V3 K (Q8 i) "ends") tb) ρ n:=fun H0 F σ H Q S q=>by
 obtain⟨a,dx,el,r,l,d,xs,ys,e1,ok⟩:=S.netz e;refine⟨_,e1,a,C,dx,_,.ref el,rfl,S.sub _ _ ok.ins,c.cl,c.ends,rfl,hb H0 F σ H _ S fun F1 H1 y x1 r1=>?_⟩
 cases r1
 obtain⟨rx,r2,r3⟩:=ok.ends;obtain⟨z,z1,z2⟩:=UM (r3.mono x1.ff) hm;exact .inl ⟨el,rx,k,z,rfl,rfl,SqL.of (x1.fh _ _ (x1.ff _ _ r2)),z1,q F1 H1 z x1 z2⟩
def CB (c:NetC K C) (e:ρ[i]?=some (some (.zow (V2 P w C N)))) (hy:Qt K ty ρ (QV k)):Qt K (N6 (V3 K (Q8 i) "leaving") ty (Jw QN)) ρ (.list (((QM N.leav k).getD []).map PyData.int)):=fun H0 F σ H Q S q=>by
 obtain⟨a,dx,el,r,l,d,xs,ys,e1,ok⟩:=S.netz e;refine⟨_,e1,a,C,dx,_,.ref l,rfl,S.sub _ _ ok.ins,c.cl,c.leav,rfl,l,rfl,.inr ⟨xs,Rd.of (S.sub _ _ ok.leav.1)⟩,hy H0 F σ H _ S fun F1 H1 y x1 r1=>⟨XM _,fun p hp=>?_⟩⟩;obtain⟨b,rfl,hb⟩:=Wr r1;have S1:=S.ext x1;have x2:Q0 F1 H1 (upd F1 p (.lst [])) (upd H1 p (.lst [])):=Q0.new S1.sub hp;have xx:=x1.trans x2;have lH:upd H1 p (.lst []) l=some (.dT xs):=xx.fh _ _ (xx.ff _ _ ok.leav.1);have bH:upd H1 p (.lst []) b=some (.tup (k.map kV)):=x2.fh _ _ (x2.ff _ _ hb);refine⟨Zs xs k,V1.t lH bH,?_⟩
 rcases ok.leav.2.val k with ⟨z1,z2⟩|⟨c1,ns,zs,z1,z2,z3,z4⟩
 ·rw[z1]
  exact q _ _ _ xx (by rw[z2];exact .lst QD .nil)
 ·rw[z1]
  exact q _ _ _ xx (by rw[z2];exact .lst (xx.ff _ _ z3) (z4.mono xx.ff))
def QB.dctz {H0 F H:Hp}{σ:St}{kvs:ZV}(S:QB K H0 F ρ σ H)(e:ρ[i]?=some (some (.zow (J0 kvs)))):∃a xs,σ[i]?=some (some (.ref a))/\F a=some (.dT xs)/\PairD F xs kvs:=by
 obtain⟨fp,h,_⟩:=S.fp;obtain⟨v,e1,_,a,xs,rfl,h1,h2⟩:=h i _ e
 exact⟨a,xs,e1,h1,h2⟩
def Ra {kvs:ZV}{d:PyData}(e:ρ[i]?=some (some (.zow (J0 kvs))))(hy:Qt K ty ρ (QV k))(hd:VO kvs k=some d):Qt K (No (Q8 i) ty) ρ d:=fun H0 F σ H Q S q=>by
 obtain⟨a,xs,e1,_⟩:=S.dctz e;refine⟨_,e1,hy H0 F σ H _ S fun F1 H1 y x1 r1=>?_⟩;obtain⟨a',xs',e1',f2,f3⟩:=(S.ext x1).dctz e;rw[e1]at e1';cases e1';obtain⟨b,rfl,hb⟩:=Wr r1
 rcases f3.val k with ⟨_,z⟩|⟨x,d',z1,z2,z3⟩
 ·rw[hd]at z;cases z
 ·rw[hd]at z2
  cases z2
  exact⟨a,x,rfl,z1▸V1.t (x1.fh _ _ f2) (x1.fh _ _ hb),q F1 H1 x x1 z3⟩
def Lz {kvs:ZV}(hy:Qt K ty ρ (QV k))(e:ρ[i]?=some (some (.zow (J0 kvs)))):Qt K (Bi ty (Q8 i)) ρ (.bool (VO kvs k).isSome):=fun H0 F σ H Q S q =>
 hy H0 F σ H _ S fun F1 H1 y x1 r1=>by
  obtain⟨a,xs,e1,f2,f3⟩:=(S.ext x1).dctz e;obtain⟨b,rfl,hb⟩:=Wr r1
  exact⟨_,e1,a,_,rfl,V1.t (x1.fh _ _ f2) (x1.fh _ _ hb),q F1 H1 _ x1 (by rw[HM f3];exact .bl _)⟩
end
end
def Zl (K:W.Frag)(R:List OT->(OT->Prop)->Prop):Sp:=fun vs H Q _=>∃F ts Φ,KTs K F/\Q4 F H/\Args K F vs ts/\R ts Φ/\∀F' H' v p r,Φ r->Q0 F H F' H'->(∀a∈p,H a=none)->Zk K F' H' v r p->Q v H'
def Bk (K:W.Frag)(t:TA)(ρ:Q1)(Φ:List OT->Prop):Prop := ∀(H0 F:Hp) (σ:St) (H:Hp) (Q:List V->Hp->Prop),QB K H0 F ρ σ H->(∀F' H' vs ts,Φ ts->Q0 F H F' H'->Args K F' vs ts->Q vs H')->t σ H Q
section
variable {K:W.Frag}{ρ:Q1}{D:PEnds}
def Jb {R:List OT->(OT->Prop)->Prop}{t:TA}{E:XK}{ts:List OT}{Φ:OT->Prop}(h:Zw K t ρ ts)(hR:R ts Φ):Zv K (Vv (Zl K R) [] E t) ρ Φ:=fun H0 F σ H Q S q =>
 h H0 F σ H _ S fun F1 H1 vs x1 r1=>⟨F1,ts,Φ,(S.ext x1).kt,x1.fh,by rw[XD];exact r1,hR,fun F2 H2 v p r hr x2 hp ok=>q F2 H2 v p r hr (x1.trans x2) (fun a ha=>x1.hh.free (hp a ha)) ok⟩
def W9 {t:TA}{ts:List OT}{Φ:List OT->Prop}(h:Zw K t ρ ts)(hp:Φ ts):Bk K t ρ Φ:=fun H0 F σ H Q S q=>h H0 F σ H Q S fun F' H' vs x r=>q F' H' vs ts hp x r
def Lb {ta:TE}{Φ:OT->Prop}{Φ':List OT->Prop}(h:Zv K ta ρ Φ)(hi:∀r,Φ r->∃ds,r=.ol ds/\Φ' [.fz (.list ds)]):Bk K (QE ta QN) ρ Φ':=fun H0 F σ H Q S q =>
 h H0 F σ H _ S fun F1 H1 v p r hr x hp ok=>by
  obtain⟨ds,rfl,hp'⟩:=hi r hr;obtain⟨a,rfl,rfl,r1,xs,r2,r3⟩:=ok;exact q (upd F1 a (.lst xs)) H1 [.ref a] _ hp' (x.freeze r1 r2 (hp a Xc)) (.fz (.lst QD (r3.mono (Q4.new r1))) .nil)
section
variable {P:Program}{w:World}{C:Addr}{N:Qz}{i:Nat}{m:Str}
def NoF (m:Str):Prop := ∀e r l d:Addr,([("ends",V.ref e),("rooms",V.ref r),("leaving",V.ref l),("laid",V.ref d)]:List (Str×V)).lookup m=none
def RH {R:List OT->(OT->Prop)->Prop}{t:TA}{E:XK}{ts:List OT}{Φ:OT->Prop}(hm:NoF m)(e:ρ[i]?=some (some (.zow (V2 P w C N))))(h:Zw K t ρ ts)(hR:R (.zow (V2 P w C N)::ts) Φ) :
 Zv K (VR C m (Zl K R) [] E (Q8 i) t) ρ Φ:=fun H0 F σ H Q S q=>by
 obtain⟨a,dx,el,r,l,d,xs,ys,e1,ok⟩:=S.netz e;refine⟨_,e1,a,dx,_,rfl,S.sub _ _ ok.ins,hm _ _ _ _,h H0 F σ H _ S fun F1 H1 vs x1 r1=>?_⟩;refine⟨F1,_,Φ,(S.ext x1).kt,x1.fh,.zow (Ψ:=V2 P w C N) ⟨a,dx,el,r,l,d,xs,ys,rfl,ok.mono x1.ff⟩ (by rw[XD];exact r1),hR,fun F2 H2 v p r' hr x2 hp ok'=>q F2 H2 v p r' hr (x1.trans x2) (fun b hb=>x1.hh.free (hp b hb)) ok'⟩
def Ce {R:List OT->(OT->Prop)->Prop}{ta:TE}{t:TA}{E:XK}{ts:List OT}{Φ1 Φ:OT->Prop}(hm:NoF m)(h1:Zv K ta ρ Φ1)(hz:∀r,Φ1 r->∃v N,r=.own v (Zb P w C N)/\∃Φ2,R (.zow (V2 P w C N)::ts) Φ2/\∀r,Φ2 r->Φ r)
 (h:Zw K t ρ ts):Zv K (VR C m (Zl K R) [] E ta t) ρ Φ:=fun H0 F σ H Q S q =>
 h1 H0 F σ H _ S fun F1 H1 v p r hr x1 hp ok=>by
  obtain⟨v0,N,rfl,Φ2,hR,hi⟩:=hz r hr;obtain⟨rfl,ok⟩:=ok;have th:=fun a ha=>(Zb P w C N).there ok a ha;have sm:Q4 F1 (frF F1 H1 p):=Wu fun a ha=>(th a ha).1
  have x1':Q0 F H (frF F1 H1 p) H1:=⟨x1.hh,x1.ff.trans sm,GB x1.fh,fun a ha=>by
   by_cases z:a∈p
   ·exact .inr (hp a z)
   ·rw[Wq z]at ha;exact x1.fr a ha⟩
  obtain⟨a,dx,el,r,l,d,xs,ys,as,rfl,rfl,o⟩:=ok;refine⟨a,dx,_,rfl,o.ins.2,hm _ _ _ _,h H0 _ σ H1 _ (S.ext x1') fun F2 H2 vs x2 r2=>?_⟩;have z:=o.fz sm (fun b hb=>WW hb)
  exact⟨F2,_,Φ2,(S.ext (x1'.trans x2)).kt,x2.fh,.zow (Ψ:=V2 P w C N) ⟨a,dx,el,r,l,d,xs,ys,rfl,z.mono x2.ff⟩ (by rw[XD];exact r2),hR,fun F3 H3 v p' r' hr' x3 hp' ok'=>q F3 H3 v p' r' (hi r' hr') ((x1'.trans x2).trans x3) (fun b hb=>(x1'.trans x2).hh.free (hp' b hb)) ok'⟩
structure ExtN (p:Qg)(F H F' H':Hp):Prop where
 hh:∀b o,b∉p->H b=some o->H' b=some o
 ff:Q4 F F'
 fh:Q4 F' H'
 fr:∀b,F' b≠none->F b≠none\/H b=none\/b∈p
def spN (K:W.Frag)(P:Program)(w:World)(C:Addr)(R:Qz->List OT->(Qz->Prop)->Prop):Sp:=fun vs H Q _=>∃F a vs' p ts N Ψ,vs=.ref a::vs'/\KTs K F/\Q4 F H/\Args K F vs' ts/\(Zb P w C N).ok K F H (.ref a) p/\R N ts Ψ /\
 ∀F' H' p' N',Ψ N'->ExtN p F H F' H'->(Zb P w C N').ok K F' H' (.ref a) p'->(∀b∈p',b∈p\/H b=none)->Q .non H'
theorem ZD.move {F F' H H':Hp}(s:Q4 F F'):∀{as:Qg} {dss:List (Qd)},(∀a∈as,F' a=none)->(∀a∈as,H' a=H a)->ZD F H as dss->ZD F' H' as dss
 |[],[],_,_,_=>trivial
 |a::as,_::_,hF,hH,o=>by
   obtain⟨⟨h1,xs,h2,h3⟩,o2⟩:=o
   exact⟨⟨hF a Xc,xs,by rw[hH a Xc];exact h2,h3.mono s⟩,ZD.move s (fun b hb=>hF b (Xe _ hb)) (fun b hb=>hH b (Xe _ hb)) o2⟩
 |[],_::_,_,_,h=>False.elim h
 |_::_,[],_,_,h=>False.elim h
def Zk.move {F F' H H':Hp}{v:V}{t:OT}{p:Qg}(s:Q4 F F')(hF:∀a∈p,F' a=none)(hH:∀a∈p,H' a=H a)(h:Zk K F H v t p):Zk K F' H' v t p:=by
 cases t with
 |fz d=>exact⟨h.1,h.2.mono s⟩
 |zow Ψ=>exact⟨h.1,Ψ.mono s h.2⟩
 |ol ds =>
   obtain⟨a,rfl,rfl,h1,xs,h2,h3⟩:=h
   exact⟨a,rfl,rfl,hF a Xc,xs,by rw[hH a Xc];exact h2,h3.mono s⟩
 |oll dss =>
   obtain⟨a,as,rfl,rfl,h1,h2,h3,h4⟩:=h
   exact⟨a,as,rfl,rfl,h1,hF a Xc,by rw[hH a Xc];exact h3,h4.move s (fun b hb=>hF b (Xe _ hb)) fun b hb=>hH b (Xe _ hb)⟩
 |scr ns=>obtain⟨h1,a,h2,h3⟩:=h;exact⟨h1,a,h2,h3.mono s⟩
 |own v0 Φ=>exact⟨h.1,Φ.mono s hF hH h.2⟩
def Sm {F0 H0 F H:Hp}{σ:St}{E:Ends}{v:V}{Ψ:Qz->Prop}(S:QB K H0 F ρ σ H)(x:Q0 F0 H0 F H)(e:ρ[i]?=some (some (.own v (Zb P w C N))))(hn:∀N',Ψ N'->D.nx (ρ.set i (some (.own v (Zb P w C N')))))(C':Cnv K F0 H0 D E) :
 ∃a p,v=.ref a/\(Zb P w C N).ok K F H (.ref a) p/\∀F' H' p' N',Ψ N'->ExtN p F H F' H'->(Zb P w C N').ok K F' H' (.ref a) p'->(∀b∈p',b∈p\/H b=none)->E.nx σ H':=by
 obtain⟨kt,h1,h2,fp,h3,h4,h5⟩:=S;obtain⟨u,e1,rfl,ok⟩:=h3 i _ e;obtain⟨a,_,_,_,_,_,_,_,_,rfl,_⟩:=id ok;have hlt:=(Xh.mp e).1;refine⟨a,fp i,rfl,ok,fun F' H' p' N' hN xn ok' sub=>?_⟩;have out:∀j,j≠i->∀b∈fp j,b∉fp i:=fun j hj b hb z=>hj (h4 j i b hb z)
 have hH:∀j,j≠i->∀b∈fp j,H' b=H b:=fun j hj b hb=>by
  obtain⟨o,ho⟩:=D7 (h5 j b hb).2;rw[xn.hh b o (out j hj b hb) ho,ho]
 refine C'.nx F' σ H' _ ⟨fun b o hb=>xn.hh b o (fun z=>by rw[(h5 i b z).1]at hb;cases hb) (x.hh b o hb),x.ff.trans xn.ff,xn.fh,fun b hb=>?_⟩ ⟨kt.mono xn.ff,xn.fh,by simp[h2],fun j=>if j=i then p' else fp j,fun j t' e'=>?_,fun j k b hb hc=>?_,fun j b hb=>?_⟩ (hn N' hN)
 ·rcases xn.fr b hb with z|z|z
  ·exact x.fr b z
  ·exact .inr (x.hh.free z)
  ·exact .inr (h5 i b z).1
 ·by_cases hj:j=i
  ·subst hj
   rw[Xo hlt]at e';cases e';refine⟨_,e1,rfl,?_⟩;simp only[if_true];exact ok'
  ·rw[Xx (Ne.symm hj)]at e'
   obtain⟨u',f1,f2⟩:=h3 j t' e';refine⟨u',f1,?_⟩;simp only[Xb hj];refine f2.move xn.ff (fun b hb=>?_) (hH j hj)
   cases z:F' b with
   |none=>rfl
   |some o =>
     rcases xn.fr b (Zy z) with y|y|y
     ·exact Xl (f2.there b hb).1 y
     ·exact Xl y (h5 j b hb).2
     ·exact Xl y (out j hj b hb)
 ·by_cases hj:j=i
  ·by_cases hk:k=i
   ·omega
   ·simp only[Xd hj]at hb
    simp only[Xb hk]at hc;rcases sub b hb with z|z
    ·exact Xl (h4 k i b hc z) hk
    ·exact Xl z (h5 k b hc).2
  ·simp only[Xb hj]at hb
   by_cases hk:k=i
   ·simp only[Xd hk]at hc
    rcases sub b hc with z|z
    ·exact Xl (h4 j i b hb z) hj
    ·exact Xl z (h5 j b hb).2
   ·simp only[Xb hk]at hc
    exact h4 j k b hb hc
 ·by_cases hj:j=i
  ·simp only[Xd hj]at hb
   refine⟨?_,((Zb P w C N').there ok' b hb).2⟩
   rcases sub b hb with z|z
   ·exact(h5 i b z).1
   ·exact x.hh.free z
  ·simp only[Xb hj]at hb
   exact⟨(h5 j b hb).1,by rw[hH j hj b hb];exact(h5 j b hb).2⟩
def Jh {R:Qz->List OT->(Qz->Prop)->Prop}{t:TA}{E':XK}{v:V}{ΦA:List OT->Prop}(hm:NoF m)(e:ρ[i]?=some (some (.own v (Zb P w C N))))(hA:Bk K t ρ ΦA)
 (hR:∀ts,ΦA ts->∃Ψ,R N ts Ψ/\∀N',Ψ N'->D.nx (ρ.set i (some (.own v (Zb P w C N'))))):Q2 K (VC (VR C m (spN K P w C R) [] E' (Q8 i) t)) ρ D:=fun F0 H0 F σ H E x S C'=>by
 obtain⟨a,dx,el,r,l,d,xs,ys,as,rfl,e1,ok,_⟩:=S.net e;refine⟨_,e1,a,dx,_,rfl,ok.ins.2,hm _ _ _ _,hA H0 F σ H _ S fun F1 H1 vs ts ht x1 r1=>?_⟩;obtain⟨Ψ,hR',hn⟩:=hR ts ht;obtain⟨a',p,ea,okp,fin⟩:=Sm (S.ext x1) (x.trans x1) e hn C'
 cases ea
 exact⟨F1,a,vs++[],p,ts,N,Ψ,rfl,(S.ext x1).kt,x1.fh,by rw[XD];exact r1,okp,hR',fin⟩
def RO {R:Qz->List OT->(Qz->Prop)->Prop}{t:TA}{E':XK}{v:V}{ΦA:List OT->Prop}(e:ρ[i]?=some (some (.own v (Zb P w C N))))(hA:Bk K t ρ ΦA)
 (hR:∀ts,ΦA ts->∃Ψ,R N ts Ψ/\∀N',Ψ N'->D.nx (ρ.set i (some (.own v (Zb P w C N'))))):Q2 K (VC (Vv (spN K P w C R) [] E' (QE (Q8 i) t))) ρ D:=fun F0 H0 F σ H E x S C'=>by
 obtain⟨a,dx,el,r,l,d,xs,ys,as,rfl,e1,ok,_⟩:=S.net e;refine⟨_,e1,hA H0 F σ H _ S fun F1 H1 vs ts ht x1 r1=>?_⟩;obtain⟨Ψ,hR',hn⟩:=hR ts ht;obtain⟨a',p,ea,okp,fin⟩:=Sm (S.ext x1) (x.trans x1) e hn C'
 cases ea
 exact⟨F1,a,vs++[],p,ts,N,Ψ,rfl,(S.ext x1).kt,x1.fh,by rw[XD];exact r1,okp,hR',fin⟩
def spI (P:Program)(w:World)(C:Addr):Sp:=fun vs H Q _=>∃x dx,vs=[.ref x]/\H x=some (.ins C dx [])/\∀e r l d H',H e=none->H r=none->H l=none->H d=none->[x,e,r,l,d].Nodup ->
 H' x=some (.ins C dx [("ends",.ref e),("rooms",.ref r),("leaving",.ref l),("laid",.ref d)])->H' e=some (.lst [])->H' r=some (.lst [])->H' l=some (.dT [])->H' d=some (pdO P w d [])->(∀b,b∉[x,e,r,l,d]->H' b=H b)->Q .non H'
def LB {E:XK}:EvX K (Uy C (spI P w C) [] E QN) ρ (Zb P w C ⟨[],[],[],[]⟩):=fun H0 F σ H Q S q=>fun x dx hx hdx ne=>by
 refine⟨x,dx,rfl,QD,fun e r l d H' he hr hl hd nd h1 h2 h3 h4 h5 ho=>⟨rfl,?_⟩⟩
 have un:∀{b:Addr},upd (upd H dx (.own x)) x (.ins C dx []) b=none->H b=none/\b≠x/\b≠dx:=fun{b} hb=>by
  have n1:b≠x:=fun z=>by rw[z,QD]at hb;cases hb
  rw[Qu n1]at hb;have n2:b≠dx:=fun z=>by rw[z,QD]at hb;cases hb
  rw[Qu n2]at hb;exact⟨hb,n1,n2⟩
 obtain⟨e1,e2,e3⟩:=un he;obtain⟨r1,r2,r3⟩:=un hr;obtain⟨l1,l2,l3⟩:=un hl;obtain⟨d1,d2,d3⟩:=un hd
 have hdx':H' dx=some (.own x):=by
  rw[ho dx (by simp only[Xg,XU,or_false,not_or];exact⟨ne,Ne.symm e3,Ne.symm r3,Ne.symm l3,Ne.symm d3⟩),Qu ne,QD]
 have kp:∀b o,H b=some o->H' b=some o:=fun b o hb=>by
  have nb:∀{c:Addr},H c=none->b≠c:=fun hc z=>by rw[z,hc]at hb;cases hb
  rw[ho b (by simp only[Xg,XU,or_false,not_or];exact⟨nb hx,nb e1,nb r1,nb l1,nb d1⟩),Qu (nb hx),Qu (nb hdx)];exact hb
 have fr:∀{b:Addr},H b=none->F b=none:=fun hb=>S.sub.free hb;refine q F H' (.ref x) [x,dx,e,r,l,d] ⟨kp,Q4.refl _,fun b o hb=>kp b o (S.sub b o hb),fun _ h=>.inl h⟩ (fun b hb=>?_) ⟨x,dx,e,r,l,d,[],[],[],rfl,rfl,?_,⟨fr hx,h1⟩,⟨fr hdx,hdx'⟩,⟨fr e1,[],h2,.nil⟩,⟨fr r1,[],h3,.nil⟩,⟨fr l1,h4,.nil⟩,⟨fr d1,h5,.nil⟩⟩
 ·simp only[Xg,XU,or_false]at hb
  rcases hb with rfl|rfl|rfl|rfl|rfl|rfl
  ·exact hx
  ·exact hdx
  ·exact e1
  ·exact r1
  ·exact l1
  ·exact d1
 ·simp only[XO,Xg,XU,or_false,not_or,not_false_eq_true,Ul,and_true]at nd ⊢
  obtain⟨⟨a1,a2,a3,a4⟩,b1,c1,f1⟩:=nd
  exact⟨⟨Ne.symm ne,a1,a2,a3,a4⟩,⟨Ne.symm e3,Ne.symm r3,Ne.symm l3,Ne.symm d3⟩,b1,c1,f1⟩
end
end
section
variable {P:Program}{w:World}{K:W.Frag}{mg:Str->Qf}{base:Heap}
def Fun.evD {x qual:Str}{st:Stmt}{f:Addr}{fd:FuncData}{N ps:Qh}{k:Nat}{R:List OT->(OT->Prop)->Prop}(F:Fun K x qual st f fd)(S:Qp N ps (Qy st))(len:∀ts Φ,R ts Φ->ts.length=ps.length)
 (Xa2:∀(cdv:Value) (A:Around) (outer:List Env) (s:Shared) (H:Hp) (E:XK) (ts:List OT) (Φ:OT->Prop),Room k (A.deeper (envOfC qual (Qy st) s.heap.objs.size f cdv))->R ts Φ ->
  ∃t,PSs (Vo CX0 P w K mg base N qual (Qy st) f cdv A outer s H E).nox (Zi st) t/\Q2 K t (ts.map some++List.replicate (N.length-ts.length) none) { nx:=fun _=>Φ (.fz .none),rt:=Φ }):FnOk P w K mg base CX0 (k+1) f fd ps (Zl K R):=by
 refine F.ok S (fun vs H Q E ⟨F,ts,Φ,_,_,ha,hR,_⟩=>ha.length.trans (len ts Φ hR)) fun cdv A outer s H vs Q E hr ⟨F,ts,Φ,kt,sm,ha,hR,q⟩=>?_;obtain⟨t,h1,h2⟩:=Xa2 cdv A outer s H E ts Φ hr hR;refine⟨t,h1,h2 F H F (start N vs) H _ (Q0.refl sm) ⟨kt,sm,?_,fun _=>[],fun i t' e=>?_,fun i j a h=>(nomatch h),fun i a h=>(nomatch h)⟩ ⟨fun F' σ' H' ρ' x' _ e=>?_,fun F' H' v r' p x' hp ok e=>q F' H' v p r' e x' hp ok,fun _ _ _ _ _ _ z=>False.elim z,fun _ _ _ _ _ _ z=>False.elim z⟩⟩
 ·unfold start
  simp[ha.length]
 ·have hlt:i<ts.length:=by
   by_cases z:i<ts.length
   ·exact z
   ·rw[X9 (by simpa using z)]at e
    have:=List.mem_of_getElem? e
    simp at this
  rw[XI (by simpa using hlt),Xq]at e;have e':ts[i]?=some t':=by
   cases z:ts[i]? with
   |none=>rw[z]at e;simp at e
   |some w=>rw[z]at e;simp at e;rw[e]
  obtain⟨v,e1,e2⟩:=ha.get (H:=H) i t' e';refine⟨v,?_,e2⟩;unfold start;have hl2:i<vs.length:=by rw[ha.length];exact hlt
  rw[XI (by simpa using hl2),Xq,e1];rfl
 ·exact q F' H' _ [] _ e x' (fun _ z=>nomatch z) ⟨rfl,.non⟩
def Fun.evN {C:Addr}{x qual:Str}{st:Stmt}{f:Addr}{fd:FuncData}{N ps:Qh}{k:Nat}{R:Qz->List OT->(Qz->Prop)->Prop}(F:Fun K x qual st f fd)(S:Qp N ps (Qy st))(len:∀M ts Ψ,R M ts Ψ->ts.length+1=ps.length)
 (Xa2:∀(cdv:Value) (A:Around) (outer:List Env) (s:Shared) (H:Hp) (E:XK) (v:V) (M:Qz) (ts:List OT) (Ψ:Qz->Prop),Room k (A.deeper (envOfC qual (Qy st) s.heap.objs.size f cdv))->R M ts Ψ ->
  ∃t,PSs (Vo CX0 P w K mg base N qual (Qy st) f cdv A outer s H E).nox (Zi st) t/\Q2 K t (some (.own v (Zb P w C M))::(ts.map some++List.replicate (N.length-(ts.length+1)) none)) { nx:=fun ρ'=>∃M',Ψ M'/\ρ'[0]?=some (some (.own v (Zb P w C M'))),rt:=fun _=>False }) :
 FnOk P w K mg base CX0 (k+1) f fd ps (spN K P w C R):=by
 refine F.ok S (fun vs H Q E ⟨F,a,vs',p,ts,M,Ψ,e,_,_,ha,_,hR,_⟩=>by rw[e,XJ,ha.length];exact len _ _ _ hR) fun cdv A outer s H vs Q E hr ⟨F,a,vs',p,ts,M,Ψ,e,kt,sm,ha,ok,hR,q⟩=>?_;subst e;obtain⟨t,h1,h2⟩:=Xa2 cdv A outer s H E (.ref a) M ts Ψ hr hR
 have h0:∀b,(fun b=>if b∈p then none else H b:Hp) b=none->b∈p\/H b=none:=fun b hb=>by
  by_cases z:b∈p
  ·exact .inl z
  ·simp only[Xb z]at hb;exact .inr hb
 have th:=fun b hb=>(Zb P w C M).there ok b hb
 refine⟨t,h1,h2 F (fun b=>if b∈p then none else H b) F (start N (.ref a::vs')) H _ ⟨fun b o hb=>?_,Q4.refl _,sm,fun _ h=>.inl h⟩ ⟨kt,sm,?_,fun j=>if j=0 then p else [],fun j t' e=>?_,fun j k' b hb hc=>?_,fun j b hb=>?_⟩
  ⟨fun F' σ' H' ρ' x' S' ⟨M',hM,e0⟩=>?_,fun F' H' v r' p x' hp ok e=>False.elim e,fun _ _ _ _ _ _ z=>False.elim z,fun _ _ _ _ _ _ z=>False.elim z⟩⟩
 ·by_cases z:b∈p
  ·simp[z]at hb
  ·simp only[Xb z]at hb;exact hb
 ·unfold start
  simp[ha.length]
 ·cases j with
  |zero =>
    simp at e
    subst e;refine⟨.ref a,?_,rfl,?_⟩
    ·unfold start
     simp
    ·simp only[if_true]
     exact ok
  |succ i =>
    rw[US]at e;have hlt:i<ts.length:=by
     by_cases z:i<ts.length
     ·exact z
     ·rw[X9 (by simpa using z)]at e
      have:=List.mem_of_getElem? e
      simp at this
    rw[XI (by simpa using hlt),Xq]at e;have e':ts[i]?=some t':=by
     cases z:ts[i]? with
     |none=>rw[z]at e;simp at e
     |some w=>rw[z]at e;simp at e;rw[e]
    obtain⟨v,e1,e2⟩:=ha.get (H:=H) i t' e';refine⟨v,?_,?_⟩
    ·unfold start
     have hl2:i<vs'.length:=by rw[ha.length];exact hlt
     rw[Xs,WH,US,XI (by simpa using hl2),Xq,e1];rfl
    ·simp only[Nat.add_one_ne_zero,if_false]
     exact e2
 ·by_cases hj:j=0
  ·by_cases hk:k'=0
   ·rw[hj,hk]
   ·simp[hk]at hc
  ·simp[hj]at hb
 ·by_cases hj:j=0
  ·simp only[Xd hj]at hb
   exact⟨by simp[hb],(th b hb).2⟩
  ·simp[hj]at hb
 ·obtain⟨fp,g1,g2,g3⟩:=S'.fp
  obtain⟨u,u1,rfl,ok'⟩:=g1 0 _ e0;refine q F' H' (fp 0) M' hM ⟨fun b o nb hb=>x'.hh b o (by simp only[Xb nb];exact hb),x'.ff,x'.fh,fun b hb=>?_⟩ ok' (fun b hb=>h0 b (g3 0 b hb).1)
  rcases x'.fr b hb with z|z
  ·exact .inl z
  ·exact .inr ((h0 b z).symm)
structure Mf (K:W.Frag)(C:Addr)(m qual:Str)(st:Stmt)(ps:Qh):Prop where
 ex:∃f fd,Fun K m qual st f fd/\Meth K C m f/\Vp K fd ps []
def Zz (P:Program)(w:World)(K:W.Frag)(mg:Str->Qf)(base:Heap)(C:Addr)(m:Str)(ps:Qh)(k:Nat)(sp:Sp):Prop :=
 ∃f fd,Meth K C m f/\Vp K fd ps []/\FnOk P w K mg base CX0 k f fd ps sp
def Mf.evD {C:Addr}{m qual:Str}{st:Stmt}{N ps:Qh}{k:Nat}{R:List OT->(OT->Prop)->Prop}(D:Mf K C m qual st ps)(S:Qp N ps (Qy st))(len:∀ts Φ,R ts Φ->ts.length=ps.length)
 (Xa2:∀(f:Addr) (cdv:Value) (A:Around) (outer:List Env) (s:Shared) (H:Hp) (E:XK) (ts:List OT) (Φ:OT->Prop),Room k (A.deeper (envOfC qual (Qy st) s.heap.objs.size f cdv))->R ts Φ ->
  ∃t,PSs (Vo CX0 P w K mg base N qual (Qy st) f cdv A outer s H E).nox (Zi st) t/\Q2 K t (ts.map some++List.replicate (N.length-ts.length) none) { nx:=fun _=>Φ (.fz .none),rt:=Φ }):Zz P w K mg base C m ps (k+1) (Zl K R):=by
 obtain⟨f,fd,F,hm,hb⟩:=D.ex
 exact⟨f,fd,hm,hb,F.evD S len fun cdv A outer s H E ts Φ=>Xa2 f cdv A outer s H E ts Φ⟩
def Mf.evN {C:Addr}{m qual:Str}{st:Stmt}{N ps:Qh}{k:Nat}{R:Qz->List OT->(Qz->Prop)->Prop}(D:Mf K C m qual st ps)(S:Qp N ps (Qy st))(len:∀M ts Ψ,R M ts Ψ->ts.length+1=ps.length)
 (Xa2:∀(f:Addr) (cdv:Value) (A:Around) (outer:List Env) (s:Shared) (H:Hp) (E:XK) (v:V) (M:Qz) (ts:List OT) (Ψ:Qz->Prop),Room k (A.deeper (envOfC qual (Qy st) s.heap.objs.size f cdv))->R M ts Ψ ->
  ∃t,PSs (Vo CX0 P w K mg base N qual (Qy st) f cdv A outer s H E).nox (Zi st) t/\Q2 K t (some (.own v (Zb P w C M))::(ts.map some++List.replicate (N.length-(ts.length+1)) none)) { nx:=fun ρ'=>∃M',Ψ M'/\ρ'[0]?=some (some (.own v (Zb P w C M'))),rt:=fun _=>False }) :
 Zz P w K mg base C m ps (k+1) (spN K P w C R):=by
 obtain⟨f,fd,F,hm,hb⟩:=D.ex
 exact⟨f,fd,hm,hb,F.evN S len fun cdv A outer s H E v M ts Ψ=>Xa2 f cdv A outer s H E v M ts Ψ⟩
def Df.evD {x:Str}{st:Stmt}{N ps:Qh}{k:Nat}{R:List OT->(OT->Prop)->Prop}(D:Df K mg x st ps)(S:Qp N ps (Qy st))(len:∀ts Φ,R ts Φ->ts.length=ps.length)
 (Xa2:∀(f:Addr) (cdv:Value) (A:Around) (outer:List Env) (s:Shared) (H:Hp) (E:XK) (ts:List OT) (Φ:OT->Prop),Room k (A.deeper (envOfC x (Qy st) s.heap.objs.size f cdv))->R ts Φ ->
  ∃t,PSs (Vo CX0 P w K mg base N x (Qy st) f cdv A outer s H E).nox (Zi st) t/\Q2 K t (ts.map some++List.replicate (N.length-ts.length) none) { nx:=fun _=>Φ (.fz .none),rt:=Φ }):QF P w K mg base x ps (k+1) (Zl K R):=by
 obtain⟨f,fd,F,hm,hb⟩:=D.ex
 exact⟨f,fd,hm,F.kp,hb,F.evD S len fun cdv A outer s H E ts Φ=>Xa2 f cdv A outer s H E ts Φ⟩
def Df.evN {C:Addr}{x:Str}{st:Stmt}{N ps:Qh}{k:Nat}{R:Qz->List OT->(Qz->Prop)->Prop}(D:Df K mg x st ps)(S:Qp N ps (Qy st))(len:∀M ts Ψ,R M ts Ψ->ts.length+1=ps.length)
 (Xa2:∀(f:Addr) (cdv:Value) (A:Around) (outer:List Env) (s:Shared) (H:Hp) (E:XK) (v:V) (M:Qz) (ts:List OT) (Ψ:Qz->Prop),Room k (A.deeper (envOfC x (Qy st) s.heap.objs.size f cdv))->R M ts Ψ ->
  ∃t,PSs (Vo CX0 P w K mg base N x (Qy st) f cdv A outer s H E).nox (Zi st) t/\Q2 K t (some (.own v (Zb P w C M))::(ts.map some++List.replicate (N.length-(ts.length+1)) none)) { nx:=fun ρ'=>∃M',Ψ M'/\ρ'[0]?=some (some (.own v (Zb P w C M'))),rt:=fun _=>False }) :
 QF P w K mg base x ps (k+1) (spN K P w C R):=by
 obtain⟨f,fd,F,hm,hb⟩:=D.ex
 exact⟨f,fd,hm,F.kp,hb,F.evN S len fun cdv A outer s H E v M ts Ψ=>Xa2 f cdv A outer s H E v M ts Ψ⟩
def M9 (P:Program)(w:World)(K:W.Frag)(mg:Str->Qf)(base:Heap)(x:Str)(C:Addr)(k:Nat):Prop :=
 ∃f fd,Mk K C f/\mg x=some (.ref C)/\Vp K fd ZaG []/\FnOk P w K mg base CX0 k f fd ZaG (spI P w C)
end
section
variable {X:Cx}
def YC {C:Addr}{m:Str}{pos apos:Pos}{o e:Expr}{es:Qi}{ta:TE}{t:TA}{ps:Qh}{j k:Nat}{sp:Sp}{pl:Sem Bool}(M:Zz X.prog X.w X.K X.mg X.base C m ps j sp)(c:NetC X.K C)(hr:Room k X.A)(he:PE X o ta)(ha:PA X (e::es) t)(hj:j<=k:=by walk_at"j")
 (hst:starEach (e::es) X.env=(false,eval e X.env)::starEach es X.env:=by rfl) (hpl:(backTo pos (starEach es X.env)).any (·.1)=false:=by rfl)
 (ht:eval (.Call (.Attribute o m apos) (e::es) [] pos) X.env=(do
  let ov <- eval o X.env
  standAt apos.atName
  let (f,first) <- holding [ov] (getMethod ov m pl)
  callWith pos f first (backTo pos (starEach (e::es) X.env)) (backToKw pos (keywordEach [] X.env))):=by rfl) :
 PE X (.Call (.Attribute o m apos) (e::es) [] pos) (VR C m sp [] E0 ta t):=by
 obtain⟨f,fd,hm,hb,F⟩:=M;exact DF (pl:=pl) he c.cl hm F (hr.mono hj) hb .nil J5 ha hst hpl ht
def Fp {C:Addr} {x:Str} {p pos:Pos} {j k:Nat} (M:M9 X.prog X.w X.K X.mg X.base x C j) (hr:Room k X.A) (hj:j+1<=k:=by walk_at"j") (hg:Gl X x:=by rfl) (hdb:(x==("__debug__" : Str))=false:=by decide +kernel) :
 PE X (.Call (.Name x p) [] [] pos) (Uy C (spI X.prog X.w C) [] E0 QN):=by
 obtain⟨f,fd,M,hm,hb,F⟩:=M;exact C0 M F (hr.mono hj) hg hm hb .nil J5 hdb
end
end L2
end
section
namespace Mir
open PySem L2
def nk:Nd->List Key
 |.start=>[.inr "start"]
 |.fin=>[.inr "end"]
 |.guest k=>[.inr "guest",.inl (k:Int)]
 |.line l t=>[.inr "line",.inl (l:Int),.inl (t:Int)]
theorem JA:∀{a b:Nd},nk a=nk b->a=b
 |.start,.start,_=>rfl
 |.fin,.fin,_=>rfl
 |.start,.fin,h=>Xl h (by decide)
 |.fin,.start,h=>Xl h (by decide)
 |.guest a,.guest b,h=>by
   injection h with _ h;injection h with h _;injection h with h
   have:a=b:=by omega
   rw[this]
 |.line a b,.line c d,h=>by
   injection h with _ h;injection h with h1 h;injection h with h2 _;injection h1 with h1;injection h2 with h2;have e1:a=c:=by omega
   have e2:b=d:=by omega
   rw[e1,e2]
 |.start,.guest _,h=>by have q:=X5 List.length h;simp[nk]at q
 |.start,.line _ _,h=>by have q:=X5 List.length h;simp[nk]at q
 |.fin,.guest _,h=>by have q:=X5 List.length h;simp[nk]at q
 |.fin,.line _ _,h=>by have q:=X5 List.length h;simp[nk]at q
 |.guest _,.start,h=>by have q:=X5 List.length h;simp[nk]at q
 |.guest _,.fin,h=>by have q:=X5 List.length h;simp[nk]at q
 |.guest _,.line _ _,h=>by have q:=X5 List.length h;simp[nk]at q
 |.line _ _,.start,h=>by have q:=X5 List.length h;simp[nk]at q
 |.line _ _,.fin,h=>by have q:=X5 List.length h;simp[nk]at q
 |.line _ _,.guest _,h=>by have q:=X5 List.length h;simp[nk]at q
def Lk {a b:Nd}:nk a=nk b↔a=b:=⟨JA,fun h=>by rw[h]⟩
def Uq:Option Nat->PyData
 |none=>.none
 |some e=>.int (e:Int)
def kvG (es:Got Nd):ZV:=es.map fun x=>(nk x.1,Uq x.2)
theorem Hf (n:Nd):∀es:Got Nd,VO (kvG es) (nk n)=(WQ es n).map Uq
 |[]=>rfl
 |(k,v)::es=>by
   have ih:=Hf n es;unfold WQ at ih ⊢;rw[XL];unfold kvG VO at ih ⊢;rw[Xs,XB];by_cases e:k=n
   ·subst e
    simp
   ·have e1:¬nk k=nk n:=fun z=>e (JA z)
    have e2:(n==k)=false:=by rw[beq_eq_false_iff_ne];exact fun z=>e z.symm
    rw[e2];simp only[e1,decide_false];exact ih
def Ib {es:Got Nd}{n:Nd}:(es.lookup n).isSome=decide (n∈QR es):=by
 induction es with
 |nil=>rfl
 |cons p es ih =>
   obtain⟨k,v⟩:=p;rw[XL];by_cases e:n=k
   ·subst e
    simp[QR]
   ·have e2:(n==k)=false:=by rw[beq_eq_false_iff_ne];exact e
    rw[e2];have:decide (n∈QR ((k,v)::es))=decide (n∈QR es):=by
     apply decide_eq_decide.mpr
     unfold QR;rw[Xs,Xg];exact⟨fun z=>z.resolve_left e,.inr⟩
    rw[this];exact ih
def G3 (n:Nd)(es:Got Nd):(VO (kvG es) (nk n)).isSome=decide (n∈QR es):=by
 rw[Hf,UW];exact Ib
def CS (es:Got Nd):Dq (kvG es):=fun x hx=>by
 obtain⟨y,_,rfl⟩:=XT.mp hx
 cases h:y.2 with
 |none=>exact⟨.non,by simp[h,Uq,Zx]⟩
 |some e=>exact⟨.int (e:Int),by simp[h,Uq,Zx]⟩
def FZ {es:Got Nd}{n:Nd}{e:Nat}(h:n∉QR es):Up (kvG es) (nk n) (.int (e:Int))=kvG (es++[(n,some e)]):=by
 unfold Up;have:¬((kvG es).any fun kv=>decide (kv.1=nk n))=true:=fun z=>by
  obtain⟨x,hx,hz⟩:=List.any_eq_true.mp z;obtain⟨y,hy,rfl⟩:=XT.mp hx;have q:y.1=n:=JA (X0 hz);exact h (by rw[<- q];exact XT.mpr ⟨y,hy,rfl⟩)
 rw[Xb this];unfold kvG;rw[Xr];rfl
structure NetR (N:Qz)(L:Lay Nd)(φ:QU Nd):Prop where
 ends:N.ends=(Wj L).map nk
 rooms:N.rooms=V8 L φ
 leav:∀(n:Nd) (e:Int),e∈(QM N.leav (nk n)).getD [] ↔ ∃j:Nat,e=(j:Int)/\tlE L j=some n
 laid:∀(i:Nat) (x:Nd×Nd×Int),L[i]?=some x->Vl N.laid (nk x.1,nk x.2.1)=some ((2*i:Nat):Int)
 laid0:∀p q:Nd,(p,q)∉L.map (fun x=>(x.1,x.2.1))->Vl N.laid (nk p,nk q)=none
 l1:N.leav.length<=2*L.length
 l2:N.laid.length<=L.length
 l3:∀k ns,QM N.leav k=some ns->ns.length<=2*L.length
theorem PN (φ:QU Nd):NetR ⟨[],[],[],[]⟩ [] φ where
 ends:=rfl
 rooms:=rfl
 leav n e:=by
  constructor
  ·intro h;simp[QM]at h
  ·rintro⟨j,_,h⟩;simp[tlE]at h
 laid i x h:=by simp at h
 laid0 p q _:=rfl
 l1:=XM _
 l2:=XM _
 l3 k ns h:=by simp[QM]at h
def Wv {k k':List Key}{ns:Ql}{ls:List (List Key×Ql)}:QM ((k',ns)::ls) k=if k'=k then some ns else QM ls k:=by
 by_cases e:k'=k
 ·simp[QM,XB,e]
 ·simp[QM,XB,e]
theorem RT (k k':List Key)(x:Int):∀ls:List (List Key×Ql),QM (VF ls k x) k'=if k'=k then (QM ls k).map (· ++ [x]) else QM ls k'
 |[]=>by
   unfold VF;by_cases e:k'=k
   ·rw[Xd e];simp[QM]
   ·rw[Xb e]
 |(j,ns)::ls=>by
   unfold VF;have ih:=RT k k' x ls
   by_cases e:j=k
   ·rw[Xd e,Wv,Wv,Wv,Xd e]
    by_cases e2:k'=k
    ·rw[Xd e2,Xd (e.trans e2.symm)];rfl
    ·rw[Xb e2,Xb (fun z=>e2 (z.symm.trans e)),Xb (fun z=>e2 (z.symm.trans e))]
   ·rw[Xb e,Wv,Wv,Wv,Xb e,ih]
    by_cases e2:k'=k
    ·rw[Xd e2,Xb (fun z=>e (z.trans e2)),Xd e2]
    ·rw[Xb e2,Xb e2]
theorem BV (k:List Key)(x:Int):∀ls:List (List Key×Ql),(VF ls k x).length=ls.length
 |[]=>rfl
 |(j,ns)::ls=>by
   unfold VF;split
   ·simp
   ·simp[BV k x ls]
theorem Pi (k k':List Key):∀ls:List (List Key×Ql),QM ls k=none->QM (ls++[(k,[])]) k'=if k'=k then some [] else QM ls k'
 |[],_=>by
   rw[List.nil_append,Wv];by_cases e:k'=k
   ·rw[Xd e,Xd e.symm]
   ·rw[Xb e,Xb (fun z=>e z.symm)]
 |(j,ns)::ls,h=>by
   rw[Wv]at h;by_cases e:j=k
   ·rw[Xd e]at h;cases h
   ·rw[Xb e]at h
    rw[WH,Wv,Wv,Pi k k' ls h];by_cases e2:k'=k
    ·rw[Xd e2,Xb (fun z=>e (z.trans e2)),Xd e2]
    ·rw[Xb e2,Xb e2]
def DS (ls:List (List Key×Ql))(k k':List Key):QM (VH ls k) k'=if k'=k then some ((QM ls k).getD []) else QM ls k':=by
 unfold VH;cases h:QM ls k with
 |some ns =>
   rw[Xd (by rfl)];by_cases e:k'=k
   ·rw[Xd e,e,h];rfl
   ·rw[Xb e]
 |none =>
   rw[Xb (by simp),Pi k k' ls h];rfl
def DK (ls:List (List Key×Ql))(k:List Key):(VH ls k).length<=ls.length+1:=by
 unfold VH;split
 ·omega
 ·simp
def Uu (N:Qz)(s e:List Key)(r:Int):Qz:={ N with ends:=N.ends++[e],rooms:=N.rooms++[r],leav:=VF (VH N.leav s) s (N.ends.length:Int) }
def Jx (N:Qz)(s e:List Key)(r:Int):Qz:=Uu (Uu { N with laid:=Ys N.laid (s,e) (N.ends.length:Int) } s e r) e s 0
def UJ (N:Qz)(s e:List Key)(r:Int)(k:List Key):QM (Uu N s e r).leav k=if k=s then some ((QM N.leav s).getD []++[(N.ends.length:Int)]) else QM N.leav k:=by
 show QM (VF (VH N.leav s) s _) k=_;rw[RT,DS,Xd rfl,DS];by_cases e:k=s
 ·rw[Xd e,Xd e];rfl
 ·rw[Xb e,Xb e,Xb e]
def Ww {k k':KK}{n:Int}{ls:List (KK×Int)}:Vl ((k',n)::ls) k=if k'=k then some n else Vl ls k:=by
 by_cases e:k'=k
 ·simp[Vl,XB,e]
 ·simp[Vl,XB,e]
theorem RW (k k':KK)(n:Int):∀ls:List (KK×Int),Vl (ls.map fun x=>if x.1=k then (x.1,n) else x) k'=if k'=k then (Vl ls k).map fun _=>n else Vl ls k'
 |[]=>by
   by_cases e:k'=k
   ·rw[Xd e];rfl
   ·rw[Xb e];rfl
 |(j,m)::ls=>by
   rw[Xs];have ih:=RW k k' n ls
   by_cases e:j=k
   ·simp only[e,if_true]
    rw[Ww,Ww,Ww,ih];by_cases e2:k'=k
    ·simp[e2]
    ·have:¬k=k':=fun z=>e2 z.symm
     simp[e2,this]
   ·simp only[e,if_false]
    rw[Ww,Ww,Ww,ih];by_cases e2:k'=k
    ·simp[e2,e]
    ·simp[e2]
theorem Pa (k k':KK)(n:Int):∀ls:List (KK×Int),Vl ls k=none->Vl (ls++[(k,n)]) k'=if k'=k then some n else Vl ls k'
 |[],_=>by
   rw[List.nil_append,Ww];by_cases e:k'=k
   ·rw[Xd e,Xd e.symm]
   ·rw[Xb e,Xb (fun z=>e z.symm)]
 |(j,m)::ls,h=>by
   rw[Ww]at h;by_cases e:j=k
   ·rw[Xd e]at h;cases h
   ·rw[Xb e]at h
    rw[WH,Ww,Ww,Pa k k' n ls h];by_cases e2:k'=k
    ·rw[Xd e2,Xb (fun z=>e (z.trans e2)),Xd e2]
    ·rw[Xb e2,Xb e2]
def RM (ls:List (KK×Int))(k k':KK)(n:Int):Vl (Ys ls k n) k'=if k'=k then some n else Vl ls k':=by
 unfold Ys;cases h:Vl ls k with
 |some m=>rw[Xd (by rfl),RW,h];rfl
 |none=>rw[Xb (by simp),Pa k k' n ls h]
def CQ (ls:List (KK×Int))(k:KK)(n:Int):(Ys ls k n).length<=ls.length+1:=by
 unfold Ys;split
 ·simp
 ·simp
def SY {ν:Type} [DecidableEq ν] (L:Lay ν):(Wj L).length=2*L.length:=by
 unfold Wj;induction L with
 |nil=>rfl
 |cons x L ih=>rw[Ms,Xm,ih,XJ];simp;omega
def NetR.elen {N:Qz}{L:Lay Nd}{φ:QU Nd}(h:NetR N L φ):N.ends.length=2*L.length:=by rw[h.ends,Xk,SY]
def HL {ν:Type} [DecidableEq ν] (L:Lay ν)(φ:QU ν):(V8 L φ).length=2*L.length:=by
 unfold V8;induction L with
 |nil=>rfl
 |cons x L ih=>rw[Ms,Xm,ih,XJ];simp;omega
def BU {L:Lay Nd}{x:Nd×Nd×Int}{j:Nat}{n:Nd}:tlE (L++[x]) j=some n↔tlE L j=some n\/(j=2*L.length/\n=x.1)\/(j=2*L.length+1/\n=x.2.1):=by
 unfold tlE;by_cases h:j/2<L.length
 ·rw[XI h]
  constructor
  ·exact .inl
  ·rintro(z|⟨z,_⟩|⟨z,_⟩)
   ·exact z
   ·omega
   ·omega
 ·rw[X9 (by omega),Mz.mpr (show L.length<=j/2 by omega)]
  by_cases h2:j/2=L.length
  ·rw[h2,Nat.sub_self]
   simp only[List.getElem?_cons_zero,X6,Option.map_none,Option.some.injEq];by_cases p:j%2=0
   ·rw[Xd p]
    constructor
    ·intro z;exact .inr (.inl ⟨by omega,z.symm⟩)
    ·rintro(z|⟨_,z⟩|⟨z,_⟩)
     ·cases z
     ·exact z.symm
     ·omega
   ·rw[Xb p]
    constructor
    ·intro z;exact .inr (.inr ⟨by omega,z.symm⟩)
    ·rintro(z|⟨z,_⟩|⟨_,z⟩)
     ·cases z
     ·omega
     ·exact z.symm
  ·have:([x]:Lay Nd)[j/2-L.length]?=none:=Mz.mpr (by simp;omega)
   rw[this];constructor
   ·intro z;cases z
   ·rintro(z|⟨z,_⟩|⟨z,_⟩)
    ·cases z
    ·omega
    ·omega
theorem Cn {N:Qz}{L:Lay Nd}{φ:QU Nd}(h:NetR N L φ){s e:Nd}{r:Int}(h0:φ s e=0)(new:(s,e)∉L.map (fun x=>(x.1,x.2.1))):NetR (Jx N (nk s) (nk e) r) (L++[(s,e,r)]) φ where
 ends:=by
  show(N.ends++[nk e])++[nk s]=_
  unfold Wj;rw[Uh,Xr,h.ends];simp[Wj]
 rooms:=by
  show(N.rooms++[r])++[0]=_
  unfold V8;rw[Uh,h.rooms];simp[V8,h0]
 leav n e':=by
  have le:=h.elen
  have l1:(Uu { N with laid:=Ys N.laid (nk s,nk e) (N.ends.length:Int) } (nk s) (nk e) r).ends.length=2*L.length+1:=by
   show(N.ends++[nk e]).length=_
   rw[Xm,le];rfl
  have q:(QM (Jx N (nk s) (nk e) r).leav (nk n)).getD []=((QM N.leav (nk n)).getD []++(if n=s then [((2*L.length:Nat):Int)] else []))++(if n=e then [((2*L.length+1:Nat):Int)] else []):=by
   unfold Jx;rw[UJ,l1,UJ,UJ];show Option.getD (if nk n=nk e then some ((if nk e=nk s then some ((QM N.leav (nk s)).getD []++[(N.ends.length:Int)]) else QM N.leav (nk e)).getD []++[((2*L.length+1:Nat):Int)]) else if nk n=nk s then some ((QM N.leav (nk s)).getD []++[(N.ends.length:Int)]) else QM N.leav (nk n)) []=_;rw[le];simp only[Lk];by_cases e1:n=e
   ·subst e1
    by_cases e2:n=s
    ·subst e2;simp
    ·simp[e2]
   ·by_cases e2:n=s
    ·subst e2;simp[e1]
    ·simp[e1,e2]
  rw[q,XG,XG,h.leav n e'];constructor
  ·rintro((⟨j,rfl,hj⟩|z)|z)
   ·exact⟨j,rfl,BU.mpr (.inl hj)⟩
   ·by_cases e2:n=s
    ·rw[Xd e2]at z
     exact⟨2*L.length,Xi.mp z,BU.mpr (.inr (.inl ⟨rfl,e2⟩))⟩
    ·rw[Xb e2]at z;cases z
   ·by_cases e2:n=e
    ·rw[Xd e2]at z
     exact⟨2*L.length+1,Xi.mp z,BU.mpr (.inr (.inr ⟨rfl,e2⟩))⟩
    ·rw[Xb e2]at z;cases z
  ·rintro⟨j,rfl,hj⟩
   rcases BU.mp hj with z|⟨rfl,z⟩|⟨rfl,z⟩
   ·exact .inl (.inl ⟨j,rfl,z⟩)
   ·exact .inl (.inr (by rw[Xd z];exact Xi.mpr rfl))
   ·exact .inr (by rw[Xd z];exact Xi.mpr rfl)
 laid i x hx:=by
  show Vl (Ys N.laid (nk s,nk e) (N.ends.length:Int)) (nk x.1,nk x.2.1)=_;rw[RM,h.elen];by_cases hi:i<L.length
  ·rw[XI hi]at hx
   have ne:¬(nk x.1,nk x.2.1)=(nk s,nk e):=fun z=>new (by
    injection z with z1 z2;exact XT.mpr ⟨x,List.mem_of_getElem? hx,by rw[JA z1,JA z2]⟩)
   rw[Xb ne];exact h.laid i x hx
  ·rw[X9 (by omega)]at hx
   have hi2:i=L.length:=by
    have:=(Xh.mp hx).1
    simp at this
    omega
   subst hi2;rw[Nat.sub_self]at hx;cases hx;rw[Xd rfl]
 laid0 p q hn:=by
  show Vl (Ys N.laid (nk s,nk e) (N.ends.length:Int)) (nk p,nk q)=_;rw[Xr,XG,not_or]at hn;rw[RM,Xb (fun z=>?_)]
  ·exact h.laid0 p q hn.1
  ·injection z with z1 z2
   exact hn.2 (by rw[JA z1,JA z2];simp)
 l1:=by
  have a:=h.l1
  have b:(Jx N (nk s) (nk e) r).leav.length<=N.leav.length+2:=by
   unfold Jx;show(VF (VH (VF (VH N.leav (nk s)) (nk s) _) (nk e)) (nk e) _).length<=_;rw[BV];refine VM (DK _ _) ?_;rw[BV];have:=DK N.leav (nk s);omega
  rw[Xm];simp;omega
 l2:=by
  have a:=h.l2;have b:(Jx N (nk s) (nk e) r).laid.length<=N.laid.length+1:=CQ _ _ _;rw[Xm];simp;omega
 l3 k ns hk:=by
  have g:∀k',((QM N.leav k').getD []).length<=2*L.length:=fun k'=>by
   cases z:QM N.leav k' with
   |none=>exact XM _
   |some m=>exact h.l3 k' m z
  have g1:∀k',((QM (Uu { N with laid:=Ys N.laid (nk s,nk e) (N.ends.length:Int) } (nk s) (nk e) r).leav k').getD []).length<=2*L.length+1:=fun k'=>by
   rw[UJ];by_cases z:k'=nk s
   ·rw[Xd z]
    have:=g (nk s)
    simpa using this
   ·rw[Xb z]
    have:=g k'
    show((QM N.leav k').getD []).length<=_
    omega
  unfold Jx at hk;rw[UJ]at hk;rw[Xm];by_cases z:k=nk e
  ·rw[Xd z]at hk
   cases hk
   have:=g1 (nk e)
   simp at this ⊢
   omega
  ·rw[Xb z]at hk
   have:=g1 k
   rw[hk]at this;simp at this ⊢;omega
def Er {L:Lay Nd}(hd:Dis L){φ:QU Nd}{a r r':Int}{e:Nat}(h1:(V8 L φ)[e]?=some r)(h2:(V8 L φ)[ZeR e]?=some r'):V8 L (VQ L a φ e)=((V8 L φ).set e (r-a)).set (ZeR e) (r'+a):=by
 have me:ZeR e≠e:=by unfold ZeR;split<;>omega
 have mh:ZeR e/2=e/2:=by unfold ZeR;split<;>omega
 rw[GP]at h1 h2;have h1':=h1;unfold rmE at h1 h2;rw[mh]at h2;cases ex:L[e/2]? with
 |none=>rw[ex]at h1;cases h1
 |some x =>
   rw[ex]at h1 h2;simp only[X6,Option.some.injEq]at h1 h2;have hp:VQ L a φ e=VG φ x.1 x.2.1 (if e%2=0 then a else -a):=by unfold VQ;rw[ex]
   have bx:VG φ x.1 x.2.1 (if e%2=0 then a else -a) x.1 x.2.1=φ x.1 x.2.1+(if e%2=0 then a else -a):=by unfold VG;rw[Xd ⟨rfl,rfl⟩]
   have le:e/2<L.length:=(Xh.mp ex).1;have lr:=HL L φ;have le2:e<(V8 L φ).length:=by omega
   have lm:ZeR e<(V8 L φ).length:=by omega
   refine List.ext_getElem? fun i=>?_;rw[GP,List.getElem?_set,List.getElem?_set,GP,hp];by_cases im:ZeR e=i
   ·subst im
    rw[Xd rfl,Xd (show ZeR e<((V8 L φ).set e (r-a)).length by simpa using lm)]
    unfold rmE;rw[mh,ex];simp only[X6,Option.some.injEq];rw[bx];have pm:(ZeR e%2=0)=¬(e%2=0):=by
     apply propext
     unfold ZeR;split<;>omega
    by_cases p:e%2=0
    ·have p2:¬ZeR e%2=0:=by rw[pm];exact fun z=>z p
     rw[Xb p2]at h2 ⊢;rw[Xd p];omega
    ·have p2:ZeR e%2=0:=by rw[pm];exact p
     rw[Xd p2]at h2 ⊢;rw[Xb p];omega
   ·rw[Xb im]
    by_cases ie:e=i
    ·subst ie
     rw[Xd rfl,Xd le2];unfold rmE;rw[ex];simp only[X6,Option.some.injEq];rw[bx];by_cases p:e%2=0
     ·rw[Xd p]at h1 ⊢
      rw[Xd p];omega
     ·rw[Xb p]at h1 ⊢
      rw[Xb p];omega
    ·rw[Xb ie]
     unfold rmE;cases ey:L[i/2]? with
     |none=>rfl
     |some y =>
       have ne:¬(y.1=x.1/\y.2.1=x.2.1):=fun⟨z1,z2⟩=>by
        have q:=D4 hd ey ex z1 z2;unfold ZeR at im;split at im<;>omega
       have by':VG φ x.1 x.2.1 (if e%2=0 then a else -a) y.1 y.2.1=φ y.1 y.2.1:=by unfold VG;rw[Xb ne]
       simp only[X6,by']
def Jv (L:Lay Nd)(φ:QU Nd)(es:Got Nd)(U:List Nd):Prop := ∀e m n r,tlE L e=some m->hdE L e=some n->rmE L φ e=some r->0<r->m∈QR es->m∉U->n∈QR es
def Jv.closed {L:Lay Nd}{φ:QU Nd}{es:Got Nd}(h:Jv L φ es []):VW L φ es:=fun e m n r h1 h2 h3 h4 h5=>h e m n r h1 h2 h3 h4 h5 (fun z=>nomatch z)
def Je {es:Got Nd}{x:Nd×Option Nat}{n:Nd}:n∈QR (es++[x])↔n∈QR es\/n=x.1:=by
 unfold QR;rw[Xr,XG];simp
def Jv.add {L:Lay Nd}{φ:QU Nd}{es:Got Nd}{U V:List Nd}(h:Jv L φ es (U++V))(n:Nd)(o:Option Nat):Jv L φ (es++[(n,o)]) (U++(V++[n])):=fun e m k r h1 h2 h3 h4 h5 h6=>by
 rw[<- UX,XG,not_or]at h6;have ne:m≠n:=fun z=>h6.2 (by simp[z])
 rcases Je.mp h5 with z|z
 ·exact Je.mpr (.inl (h e m k r h1 h2 h3 h4 z h6.1))
 ·exact Xl z ne
theorem Tree.inClosed {L:Lay Nd}{φ:QU Nd}{s:Nd}{fs:Got Nd}(hc:VW L φ fs)(hs:s∈QR fs):∀{es:Got Nd},Tree L φ s es->∀n∈QR es,n∈QR fs
 |_,.root,n,hn=>by
   have e:n=s:=by simpa [QR] using hn
   rw[e];exact hs
 |_,.add t hn hh ht hm hr h0,n,hx=>by
   rcases Je.mp hx with z|z
   ·exact t.inClosed hc hs n z
   ·rw[z]
    exact hc _ _ _ _ ht hh hr h0 (t.inClosed hc hs _ hm)
end Mir
end
section
namespace L2
open PySem PySem.Spec PyProof.Rows
section
variable {K:W.Frag}{ρ:Q1}{ta tb tc te:TE}{D:PEnds}
end
end L2
end
namespace L2
open PySem
section
variable {prog:Program}{w:World}{A:Around}{E:Qb}{h:Heap}{g:Array GenState}{d:Drawn}{t:Nat}{os:OsState}
variable {nm q:Str}{C N:Addr}{bs bm bmB:Qe}{hdct:Bool}{sn:Qh}{sub:Qe}{ab:Bool}{col:Option Bool}{dd:Qj}{k0 k1 k2 k3 k5:Qf}{B newId initId:String}
abbrev Dv (C a:Addr):Obj:={ cls:=.ref C,data:=.fields #[.ref a,.none,.none,.none,.bool false,.none] }
abbrev LP (vs:Qe):Obj:={ cls:=.type "tuple",data:=.seq vs.toArray }
def Y3 (h:Heap)(C:Addr)(vs:Qe):Heap:=(h.push (LP vs)).push (Dv C h.objs.size)
def L7 (F:ExcBaseFacts B newId initId bmB)(T:OwnTail h bmB bm){mN:Str->Qf}{rest:Qe}{f:Addr}{fo:Obj}{Q:Fin->Shared->Prop}
 (hC:h.get? C=some (excClassObj nm q C N bs bm hdct sn sub ab col dd k0 k1 k2 k3 k5 newId)) (hn:h.Ns N mN)
 (hi:mN "__init__"=some (.ref f)) (hf:h.get? f=some fo) (hc:fo.cls=.type "function") (hrest:rest.length<=sizeLine)
 (hq:wpAny (model prog w) A (call (.ref f) (.ref (h.objs.size+1)::rest)) (fun r s'=>r=.none/\Q (.done (.ret (.ref (h.objs.size+1)))) s') E ⟨Y3 h C rest,g,d,t,os⟩) :
 wpAny (model prog w) A (Builtin.«type.__call__» ⟨.ref C::rest,[]⟩) Q E ⟨h,g,d,t,os⟩:=by
 have kp:∀b o,h.get? b=some o->(Y3 h C rest).get? b=some o:=fun b o e=>Xf _ (Xf _ e)
 repeat (first
  |with_reducible refine wpAny_loadPart_at hC ?_
  |with_reducible refine wpAny_madeBy_exc hC ?_
  |wp_step)
 refine codeAny_call_builtin_code (Code.quiet_builtin _ F.quiet)
  (wpAny_check_new_subT F T hC ?_)
 refine codeAny_exc_new_subT F T hC ?_ hrest;show wpAny _ _ _ _ _ ⟨Y3 h C rest,g,d,t,os⟩
 have me:(Y3 h C rest).get? (h.objs.size+1)=some (Dv C h.objs.size):=by
  unfold Y3;exact Heap.get?_push_at (by rw[W0]) rfl
 have hC1:=kp _ _ hC;have hn1:(Y3 h C rest).Ns N mN:=hn.keeps kp;have T1:=T.keeps kp;have own:(Value.ref C::bm).contains (.ref C)=true:=by simp
 unfold isInstance;repeat (first
  |with_reducible refine wpAny_loadPart_at me ?_
  |(with_reducible refine wpAny_isSubtype_exc hC1 ?_;rw[own])
  |wp_step)
 show wpAny _ _ (typeLookup (.ref C) _) _ _ _;refine wpAny_typeLookup_tail hC1 hn1 T1 F.mroIs F.init.lookup ?_;rw[hi];refine wpAny_holding (Xa (wpAny_bindSpecial_def (s:=⟨Y3 h C rest,g,d,t,os⟩) (kp _ _ hf) hc ?_));refine Xa (wpAny_mono hq (fun r s' hr=>?_) fun _ _ z=>z);obtain⟨rfl,hr⟩:=hr
 wp_walk
 exact hr
def TZ (F:ExcBaseFacts B newId initId bmB)(T:OwnTail h bmB bm){mN:Str->Qf}{rest:Qe}{f:Addr}{fo:Obj}{Q:Qb}
 (hC:h.get? C=some (excClassObj nm q C N bs bm hdct sn sub ab col dd k0 k1 k2 k3 k5 newId)) (hn:h.Ns N mN)
 (hi:mN "__init__"=some (.ref f)) (hf:h.get? f=some fo) (hc:fo.cls=.type "function") (hrest:rest.length<=sizeLine)
 (hq:wpAny (model prog w) (A.under (.builtin "type.__call__" ⟨.ref C::rest,[]⟩)) (call (.ref f) (.ref (h.objs.size+1)::rest)) (fun r s'=>r=.none/\Q (.ref (h.objs.size+1)) s') E ⟨Y3 h C rest,g,d,t,os⟩) :
 wpAny (model prog w) A (call (.ref C) rest) Q E ⟨h,g,d,t,os⟩:=by
 have l1:=tc_lookup;have l2:=tc_bind (.ref C);have ty:(⟨h,g,d,t,os⟩:Shared).TypeIs (.ref C) "type" := ⟨_,hC,rfl⟩;refine wpAny_call (codeAny_of_tree ?_);show wpAny _ _ (callAny (.ref C) _) _ _ _
 repeat (any_goals (first
  |assumption
  |with_reducible refine wpAny_loadPart_at hC ?_
  |wp_step))
 refine⟨rfl,?_⟩;refine codeAny_call_builtin_at (Code.quiet_builtin _ (by decide +kernel)) entry_typeCall (wpAny_check_type_call_sub hC ?_);refine L7 F T hC hn hi hf hc hrest ?_;exact wpAny_mono hq (fun r s' z=>z) fun _ _ z=>z
end
end L2
namespace L2
open PySem PySem.Spec PyProof.Rows
def phX (C e:Addr)(dct:Qj):Heap->Prop:=fun h=>∃(t:Addr) (sl:Array (Qf)),h.get? e=some { cls:=.ref C,dict:=dct,data:=.fields #[.ref t,.none,.none,.none,.bool false,.none],slots:=sl }
def D0 {P:Program}{w:World}{H:Hp}{h:Heap}{C e:Addr}{dct:Qj}(p:phX C e dct h):Z7 P w H h e (.ext (phX C e dct)):=⟨p,by obtain⟨t,sl,q⟩:=p;exact⟨_,q⟩,fun h1 h2 p1 k=>by obtain⟨t,sl,q⟩:=p1;exact⟨t,sl,k _ q⟩⟩
section
variable {prog:Program}{w:World}{A:Around}{E:Qb}{h:Heap}{g:Array GenState}{d:Drawn}{t:Nat}{os:OsState}
variable {nm q:Str}{C N:Addr}{bs bm bmB:Qe}{hdct:Bool}{sn:Qh}{sub:Qe}{ab:Bool}{col:Option Bool}{dd:Qj}{k0 k1 k2 k3 k5:Qf}{B newId initId:String}
def TR (F:ExcBaseFacts B newId initId bmB)(T:OwnTail h bmB bm){e a:Addr}{dct:Qj}{sl:Array (Qf)}{v:Value}{Q:Qb}
 (hC:h.get? C=some (excClassObj nm q C N bs bm hdct sn sub ab col dd k0 k1 k2 k3 k5 newId))
 (he:h.get? e=some { cls:=.ref C,dict:=dct,data:=.fields #[.ref a,.none,.none,.none,.bool false,.none],slots:=sl })
 (hq:∀h',(∀b o,b≠e->h.get? b=some o->h'.get? b=some o)->phX C e dct h'->Q .none ⟨h',g,d,t,os⟩) :
 wpAny (model prog w) A (call (.builtin initId) [.ref e,v]) Q E ⟨h,g,d,t,os⟩:=by
 refine wpAny_call (codeAny_call_builtin F.init.plain F.initEntry (wpAny_check_init_subT F T hC he rfl ?_))
 wp_walk using AutoSeq1.wpAny_loadPart' he
 refine hq _ (fun b o hb z=>?_) ⟨h.objs.size,sl,?_⟩
 ·rw[XS _ _ (Ne.symm hb)]
  exact Xf _ z
 ·rw[WJ _ (Xf _ he) rfl]
  rfl
end
structure Uo (K:W.Frag)(Y C f:Addr):Prop where
 ga:W.specialIn K (.ref Y) "__getattribute__"=some (some (.builtin "type.__getattribute__"))
 rd:W.readsIn K Y (.type "type")=true
 ini:W.findCls K (.ref Y) (.type "type") "__init__"=some (.val (.builtin "ValueError.__init__"))
 cls:∀h:Heap,K.In h->∃(bmB bm:Qe) (nm q:Str) (N:Addr) (bs:Qe) (hdct:Bool) (sn:Qh) (sub:Qe) (ab:Bool) (col:Option Bool) (dd:Qj) (k0 k1 k2 k3 k5:Qf),
  ExcBaseFacts "ValueError" "ValueError.__new__" "ValueError.__init__" bmB/\OwnTail h bmB bm/\h.get? C=some (excClassObj nm q C N bs bm hdct sn sub ab col dd k0 k1 k2 k3 k5 "ValueError.__new__") /\
  ∃(mN:Str->Qf) (fo:Obj),h.Ns N mN/\mN "__init__"=some (.ref f)/\h.get? f=some fo/\fo.cls=.type "function"
def tXI (C:Addr)(i:Nat):TE:=fun σ H Q=>∃e dct,σ[i]?=some (some (.ref e))/\H e=some (.ext (phX C e dct))/\Q .non H
def Cw {X:Cx}{Y C f:Addr}(c:Uo X.K Y C f){x y:Str}{i:Nat}{p0 p1 p2 p3 p4:Pos}{txt:Str}{kd:Nat}(hg:Gl X x)(hm:X.mg x=some (.ref Y))(hN:X.N[i]?=some y)(hv:Vis X.env.scope y)
 (hdb:(x==("__debug__" : Str))=false:=by decide) (hd:(y==("__debug__" : Str))=false:=by decide) (hcd:(y==("__classdict__" : Str))=false:=by decide) {pl:Sem Bool}
 (ht:eval (.Call (.Attribute (.Name x p0) "__init__" p1) [.Name y p2,.Constant (.str txt) kd p3] [] p4) X.env=(do
  let ov <- eval (.Name x p0) X.env
  standAt p1.atName
  let (f,first) <- holding [ov] (getMethod ov "__init__" pl)
  callWith p4 f first (backTo p4 (starEach [.Name y p2,.Constant (.str txt) kd p3] X.env)) (backToKw p4 (keywordEach [] X.env))):=by rfl) :
 PE X (.Call (.Attribute (.Name x p0) "__init__" p1) [.Name y p2,.Constant (.str txt) kd p3] [] p4) (tXI C i):=by
 intro Xa1 s σ H Q I h;obtain⟨e,dct,e1,e2,q⟩:=h;refine W.methodCall_KW (pl:=pl) (JG I hg hm ?_ hdb) ht;refine W.method_cls I.kIn c.ga (W.cls_value I.kIn c.rd c.ini (by decide +kernel) ?_);have I1:=I.tok (s.toks+1);have args:PA X [.Name y p2,.Constant (.str txt) kd p3] (QE (Q8 i) (QE (tC (.str txt)) QN)):=Qo (N4 hN hv hd hcd) (Qo VI Qs);refine PyProof.Rows.callWith_builtin1 (Q6 (args p4 Xa1 _ σ H (fun vs H1=>vs=[.ref e,.str txt]/\H1=H) I1 ⟨_,e1,rfl,rfl⟩) fun us s1 ⟨vs,H1,I2,r,ev,eH⟩=>?_) rfl rfl;subst ev eH;cases r with
 |cons r1 r =>
 cases r with
 |cons r2 r =>
 cases r
 cases r1
 obtain⟨tk,rfl⟩:=r2;have hx:=I2.hok e _ e2;obtain⟨⟨ta,sl,he⟩,_,_⟩:=hx;obtain⟨bmB,bm,nm,qn,N,bs,hdct,sn,sub,ab,col,dd,k0,k1,k2,k3,k5,F,T,hC,_⟩:=c.cls _ I2.kIn;refine TR F T hC he fun h' kp px=>?_;have mu:Mut (H1 e):=by rw[e2];trivial
 have W:=I2.write (h':=h') (t':=s1.toks) (o:=.ext (phX C e dct)) mu Qa kp (by obtain⟨_,_,z⟩:=px;exact⟨_,z⟩) (D0 px)
 have eu:upd H1 e (.ext (phX C e dct))=H1:=by
  funext b
  by_cases hb:b=e
  ·subst hb;simp[upd,e2]
  ·simp[upd,hb]
 rw[eu]at W;exact⟨.non,H1,W,rfl,q⟩
def WA:Qe->Bool
 |.ref _::r=>WA r
 |l=>l==[.type "ValueError",.type "Exception",.type "BaseException",.type "object"]
theorem S6 (self:Value):∀{l:Qe},WA l=true->refuseLoop self "__setattr__" l=pure ()
 |.ref c::r,e=>by rw[refuseLoop_ref];exact S6 self (by simpa [WA] using e)
 |[],e=>by cases e
 |.type n::r,e=>by rw[show(Value.type n::r)=_ from beq_iff_eq.mp e];exact PySem.F.store_ValueError.passes self
theorem NP:∀{l:Qe},WA l=true->l.contains (.type "object")=true
 |.ref c::r,e=>by rw[List.contains_cons,NP (l:=r) (by simpa [WA] using e),Bool.or_true]
 |[],e=>by cases e
 |.type n::r,e=>by rw[show(Value.type n::r)=_ from beq_iff_eq.mp e];decide
section
open PySem.W
variable {prog:Program}{w:World}{A:Around}{R:Result->Shared->Prop}{K:Frag}{s:Shared}{x C:Addr}
def PP {ox:Obj}{od:Option Obj}{name:Str}{tk:Tok}{v:Value}{r:Qf}(X:K.In s.heap)(I:W.InstAt s.heap x ox C od)(hp:((clsIn K C).any fun cd=>WA cd.mro)=true)(ht:takerIn K C name=some r)
 (h:∀b,wpAny (model prog w) A.in1 (match r with|some a=>Builtin.ObjectAttr.setByDescriptor a (.ref x) v|none=>Builtin.ObjectAttr.storeInOwnDict (.ref x) (.ref C) (.str name tk) name v b)
  (fun fin s'=>match fin with|.done f=>R (.ok f) s'|.again c'=>c'.quiet=true/\codeAny (model prog w) A c' R s') (fun e s'=>R (.error e) s') s) :
 codeAny (model prog w) A (.call (.builtin "object.__setattr__") ⟨[.ref x,.str name tk,v],[]⟩) R s:=by
 have SF:=PySem.F.store_object;obtain⟨cd,hc,ho⟩:=any_some hp;have ne:cd.mro.isEmpty=false:=by cases q:cd.mro with|nil=>rw[q]at ho;cases ho|cons _ _=>rfl
 have sub:Looks (model prog w) s.heap (isInstance (.ref x) (.type "object")) true:=I.type.andThen (looks_mroIn X (by unfold mroIn;rw[hc,Option.bind_some,Xb (by rw[ne];decide),NP ho]));refine codeAny_call_builtin SF.slot.plain SF.entry (@check_slot (model prog w) _ _ s "object.__setattr__" "object" "__setattr__" (.ref x) [.str name tk,v] [] _ SF.kind SF.split sub (SF.args (.ref x) (.str name tk) v) ?_);obtain⟨attr,ha,hr⟩:=Option.bind_eq_some_iff.mp ht;have hm:Looks (model prog w) s.heap (mroOf (.ref C)) cd.mro:=(looks_clsIn X hc).andThen .now
 have L3:Looks (model prog w) s.heap (Builtin.ObjectAttr.storeTaker? attr) r:=by
  cases attr with
  |none=>cases hr;exact .now
  |some a =>
    obtain⟨b,hb,rfl⟩:=Option.map_eq_some_iff.mp hr;refine(looks_takesIn X hb).andThen ?_
    cases b<;>exact .now
 rw[osa_eq,refuse_eq];refine Xa (Xa (I.type.here (Xa (hm.here ?_))));rw[S6 _ ho];refine Xn (Xa (I.type.here (Xa ((looks_findIn X ha).here (Xa (L3.here ?_))))));exact h _
def PL {E:Qb}{Q:Unit->Shared->Prop}{name:Str}{v:Value}{fs:Array Value}{sl:Array (Qf)}(X:K.In s.heap)
 (hs:findIn K (.ref C) "__setattr__"=some (some (.builtin "object.__setattr__"))) (hp:((clsIn K C).any fun cd=>WA cd.mro)=true) (ht:takerIn K C name=some none) (hh:hasDictIn K C=true)
 (hx:s.heap.get? x=some { cls:=.ref C,dict:=none,data:=.fields fs,slots:=sl })
 (h:∀h' t',(∀b o,b≠x->s.heap.get? b=some o->h'.get? b=some o)->h'.get? x=some { cls:=.ref C,dict:=some s.heap.objs.size,data:=.fields fs,slots:=sl } ->
  h'.Ns1 s.heap.objs.size (fun y=>if y=name then some v else none)->Q () { s with heap:=h',toks:=t' }) :
 wpAny (model prog w) A (setAttr (.ref x) name v) Q E s:=by
 have J:W.InstAt s.heap x _ C none:=⟨hx,rfl,rfl,trivial⟩;refine W.set_plain X J hs (PP (s:={ s with toks:=s.toks+1 }) (r:=none) X J hp ht fun b=>?_);obtain⟨cd,hc,hd'⟩:=W.any_some hh;refine Xa (Xn (Xa (Xa (wpAny_loadPart hx (Xa (W.Looks.here (s:={ s with toks:=s.toks+1 }) (W.looks_clsIn X hc) ?_))))));rw[hd'];have cq:(s.heap.push { cls:=.type "dict",data:=.dict #[] }).get? x=_:=Xf _ hx;have hxs:x≠s.heap.objs.size:=Xp (Xj hx);rw[Xb (by decide)];dsimp only;rw[Xb (by simp[typeHasDict])];refine Xa (wpAny_alloc' ?_);refine Xa (wpAny_update' cq ?_);refine Xn ?_
 have hgd:((s.heap.push { cls:=.type "dict",data:=.dict #[] }).update x fun o=>{ cls:=o.cls,dict:=some s.heap.objs.size,data:=o.data,slots:=o.slots }).get? s.heap.objs.size
  = some { cls:=.type "dict",data:=.dict #[] } :=
  (Heap.get?_update_ne _ _ _ _ hxs.symm).trans (Heap.get?_push_at rfl rfl)
 have hnd:((s.heap.push { cls:=.type "dict",data:=.dict #[] }).update x fun o=>{ cls:=o.cls,dict:=some s.heap.objs.size,data:=o.data,slots:=o.slots }).Ns s.heap.objs.size (fun _=>none) :=
  ⟨_,#[],_,hgd,rfl,fun e he=>Xl he (by simp),fun _=>rfl⟩
 show wpAny _ _ (Builtin.ObjectAttr.storeInDict s.heap.objs.size (.str name s.toks) name v) _ _ _;unfold Builtin.ObjectAttr.storeInDict Builtin.ObjectAttr.newKeyGuard;refine Xa (Xn (Xa (wpAny_nsSet1 (Heap.Ns1.of_empty hnd) fun h' hn' hs=>?_)));obtain⟨oD,esD,epD,hoD,hdD,hcD⟩:=hn'.count (Within.cons name v Within.nil);refine Xa (wpAny_lookBehind hoD (by rw[hdD];exact pastItsLine_dict (VM hcD (by rw[XJ,List.length_nil,sizeLine_eq];omega))) ?_);refine Xn (h _ _ (fun b ob hbx hb=>?_) ?_ hn')
 ·exact(hs.2 b (Xp (Xj hb))).trans ((Heap.get?_update_ne _ _ _ _ hbx).trans (Xf _ hb))
 ·exact(hs.2 x hxs).trans (WJ _ cq rfl)
end
structure PF (K:W.Frag)(C:Addr):Prop where
 sa:W.findIn K (.ref C) "__setattr__"=some (some (.builtin "object.__setattr__"))
 ov:((W.clsIn K C).any fun cd=>WA cd.mro)=true
 hd:W.hasDictIn K C=true
def sXF (C:Addr)(ta tv:TE)(f:Str):TS:=fun D σ H=>tv σ H fun y H1=>ta σ H1 fun x H2=>∃e,x=.ref e/\H2 e=some (.ext (phX C e none)) /\
 ∀dx,H2 dx=none->dx≠e->D.nx σ (upd (upd H2 e (.ext (phX C e (some dx)))) dx (.xd [(f,y)]))
section
variable {X:Cx}{o value:Expr}{f:Str}{pos pos':Pos}{ta tv:TE}{C:Addr}
def Fm (c:PF X.K C)(ht:W.takerIn X.K C f=some none)(ha:PE X o ta)(hv:PE X value tv)(hs:swapsWith value (some (.Attribute o f pos')) pos.line X.env=pure false):PS X (.Assign [.Attribute o f pos'] value pos) (sXF C ta tv f):=by
 intro Xa1 s σ H D I h;refine plainObj_wpAny_Assign_Attribute (Q6 (hv Xa1 s σ H _ I h) fun u s1 ⟨y,H1,I1,ry,q⟩=>Q6 (ha Xa1 s1 σ H1 _ I1 q) fun ov s2 ⟨x,H2,I2,rx,e,ex,ea,q2⟩=>?_) hs;subst ex;obtain rfl:ov=Value.ref e:=rx;obtain⟨⟨ta,sl,he⟩,_,_⟩:=I2.hok e _ ea;refine PL I2.kIn c.sa c.ov ht c.hd he fun h' t' kp hx hn=>?_;have mu:Mut (H2 e):=by rw[ea];trivial
 have W:=I2.write (h':=h') (t':=t') (o:=.ext (phX C e (some s2.heap.objs.size))) mu Qa kp ⟨_,hx⟩ (D0 ⟨ta,sl,hx⟩);have hne:s2.heap.objs.size≠e:=(Xp (Xj he)).symm;have hfr:H2 s2.heap.objs.size=none:=I2.fresh;refine⟨σ,_,W.track (a:=s2.heap.objs.size) (o:=.xd [(f,y)]) (by rw[Qu hne];exact hfr) I2.sz (XX I2.lt) (fun z c hc hz=>?_) (fun p hp hz=>?_) ⟨_,hn,fun g=>?_⟩,q2 _ hfr hne⟩
 ·obtain⟨v,hv⟩:=I2.cell z c hc
  subst hz;obtain⟨oc,hc2,_⟩:=hv;exact Xl (Xj hc2) (Yh _)
 ·have:=(I2.pin p hp).1
  rw[hz]at this;exact Xl (Xj this) (Yh _)
 ·show ZM (List.lookup g [(f,y)]) (if g=f then some u else none)
  by_cases hg:g=f
  ·subst hg;simp[List.lookup];exact ry
  ·rw[Xb hg]
   have:(g==f)=false:=by simpa using hg
   simp[List.lookup,this]
   trivial
end
def M4 (C:Addr)(sp:Sp)(E:XK)(t:TA):TE:=fun σ H Q=>t σ H fun vs H1=>vs.length<=1000/\∀x,H1 x=none ->
 sp (.ref x::vs) (upd H1 x (.ext (phX C x none))) (fun v H2=>v=.non/\Q (.ref x) H2) E
section
variable {X:Cx}{CX:CXT}{k:Nat}{f C Y:Addr}{fd:FuncData}{ps:Qh}{sp:Sp}{E:XK}{x:Str}{p pos:Pos}{e:Expr}{es:Qi}{t:TA}
def AR {Xa1:Qc}{σ:St}{H:Hp}{s:Shared}{Q:VK}{us:Qe}{vs:List V}(c:Uo X.K Y C f)(F:FnOk X.prog X.w X.K X.mg X.base CX k f fd ps sp)(hr:Room (k+1) X.A)(hb:Vp X.K fd ps [])
 (hx:Yl CX X E) (I:Qr X Xa1 σ H s) (r:QK vs us) (hl:vs.length<=1000)
 (h:∀x,H x=none->sp (.ref x::vs) (upd H x (.ext (phX C x none))) (fun v H2=>v=.non/\Q (.ref x) H2) E) :
 wpAny (model X.prog X.w) X.A (call (.ref C) us) (EP X Xa1 σ Q) X.xe s:=by
 obtain⟨bmB,bm,nm,qn,N,bs,hdct,sn,sub,ab,col,dd,k0,k1,k2,k3,k5,FB,T,hC,mN,fo,hN,hi,hf,hfc⟩:=c.cls _ I.kIn;have hq:=h (s.heap.objs.size+1) (I.hok.fresh (Nat.le_succ _));obtain⟨hp,g,d,tk,os⟩:=s;have kp:∀b o,hp.get? b=some o->(Y3 hp C us).get? b=some o:=fun b o e=>Xf _ (Xf _ e)
 have me:(Y3 hp C us).get? (hp.objs.size+1)=some (Dv C hp.objs.size):=by
  unfold Y3;exact Heap.get?_push_at (by rw[W0]) rfl
 have I2:Qr X Xa1 σ (upd H (hp.objs.size+1) (.ext (phX C (hp.objs.size+1) none))) ⟨Y3 hp C us,g,d,tk,os⟩:=I.laid (t':=tk) kp (Nat.le_succ _) (D0 ⟨_,_,me⟩);have r2:QK (V.ref (hp.objs.size+1)::vs) (Value.ref (hp.objs.size+1)::us):=.cons rfl r
 have hl2:(Value.ref (hp.objs.size+1)::us++[]).length=ps.length:=by
  have e:=r2.length;rw[F.len _ _ _ _ hq]at e;simpa using e.symm
 refine TZ FB T hC hN hi hf hfc (by rw[<- r.length,sizeLine_eq];omega) ?_;have run:=F.run _ X.stack _ _ ⟨Value.ref (hp.objs.size+1)::us,[]⟩ (Value.ref (hp.objs.size+1)::us) _ _ E (hr.make C us []) (I2.env0.make C us []) (by simpa using hb _ (Value.ref (hp.objs.size+1)::us) I2.kIn hl2) r2 hq;refine wpAny_call (codeAny_mono run fun r s' hq'=>?_)
 cases r with
 |error e=>exact hx Xa1 σ _ _ e s' I2 hq'
 |ok fl =>
   cases fl with
   |ret u =>
     obtain⟨v,H',I3,rv,ev,q3⟩:=I2.after hq';subst ev;exact⟨rv,⟨V.ref (hp.objs.size+1),H',I3,rfl,q3⟩⟩
   |next=>exact False.elim hq'
   |brk=>exact False.elim hq'
   |cont=>exact False.elim hq'
def Ci (c:Uo X.K Y C f)(kp:W.keepIn X.K (.ref C)=true)(F:FnOk X.prog X.w X.K X.mg X.base CX k f fd ps sp)(hr:Room (k+1) X.A)(hg:Gl X x)(hm:X.mg x=some (.ref C))(hb:Vp X.K fd ps [])(hx:Yl CX X E)
 (ha:PA X (e::es) t) (hdb:(x==("__debug__" : Str))=false:=by decide) (he:starEach (e::es) X.env=(false,eval e X.env)::starEach es X.env:=by rfl) (hpl:(backTo pos (starEach es X.env)).any (·.1)=false:=by rfl) :
 PE X (.Call (.Name x p) (e::es) [] pos) (M4 C sp E t):=by
 intro Xa1 s σ H Q I h;refine wpAny_Call_Name_kw (JG I hg hm ?_ hdb);refine W.callWith_K (h₀:=X.base) I.ok.mod.kin kp (Q6 (ha pos Xa1 s σ H _ I h) fun us s1 ⟨vs,H1,I1,r,q⟩=>⟨I1.kIn,?_⟩) he hpl;exact AR c F hr hb hx I1 r q.1 q.2
end
def sXR (C:Addr)(te:TE)(R:Addr->Qj->Hp->Prop):TS:=fun D σ H=>te σ H fun v H1=>∃e dct,v=.ref e/\H1 e=some (.ext (phX C e dct))/\R e dct H1
section
variable {M:Model}{A:Around}{E:Qb}{env:Env}
variable {nm q:Str}{C N:Addr}{bs bm:Qe}{hdct:Bool}{sn:Qh}{sub:Qe}{ab:Bool}{col:Option Bool}{dd:Qj}{k0 k1 k2 k3 k5:Qf}{newId:String}
def LR {s:Shared}{x:Sem Value}{Q:Flow->Shared->Prop}(hh:A.handled=none)
 (h:wpAny M A x (fun v b7=>∃e t dct sl bm nm q N bs hdct sn sub ab col dd k0 k1 k2 k3 k5 newId,v=.ref e/\bm.contains (Value.type "BaseException")=true/\b7.heap.get? C=some (excClassObj nm q C N bs bm hdct sn sub ab col dd k0 k1 k2 k3 k5 newId) /\
  b7.heap.get? e=some { cls:=.ref C,dict:=dct,data:=.fields #[.ref t,.none,.none,.none,.bool false,.none],slots:=sl }/\E (.ref e) b7) E s) :
 wpAny M A (raiseStmt env (some x) none) Q E s:=by
 unfold raiseStmt;refine Xa (wpAny_mono h (fun v b7 b8=>?_) fun _ _ x=>x);obtain⟨e,t,dct,sl,bm,nm,q,N,bs,hdct,sn,sub,ab,col,dd,k0,k1,k2,k3,k5,newId,rfl,hbase,hC,he,hE⟩:=b8;have hcB:(Value.ref C::bm).contains (.type "BaseException")=true:=by rw[List.contains_cons,hbase,Bool.or_true]
 obtain⟨hp,g,d,tk,os⟩:=b7
 repeat (first|with_reducible refine wpAny_loadPart_at he ?_|with_reducible refine wpAny_loadPart_at hC ?_|(with_reducible refine wpAny_isSubtype_exc hC ?_;rw[hcB])|wp_step)
 exact wpAny_raiseNew_none hh hE
end
end L2
namespace L2
open PySem
section
variable {M:Model}{A:Around}{E:Qb}{s:Shared}
structure Leaves (l:List Env)(e:Addr)(oe:Obj)(h h':Heap)(T:Addr):Prop where
 keep:∀b o,b∉l.filterMap (·.frame)->b≠e->h.get? b=some o->h'.get? b=some o
 slot:∀b o,b∈l.filterMap (·.frame)->h.get? b=some o->∃sl,h'.get? b=some { o with slots:=sl }
 new:h.objs.size<=T
 exc:h'.get? e=some (Obj.mapFields (·.setIfInBounds 1 (Value.ref T)) oe)
 tb:∃oT ts,h'.get? T=some oT/\oT.data=.fields ts/\ts[3]?=some .none
def SI {base:Heap}{env:Env}{outer:List Env}{L e:Addr}{oe:Obj}{vs:Array Value}{head:Value}{hadNext:Bool}{Q:Unit->Shared->Prop}
 (hfr:A.frames=some (env::outer)) (hl:s.heap.FunFrames base (env::outer)) (hf:env.frame=some L)
 (he:s.heap.get? e=some oe) (hd:oe.data=.fields vs) (hsz:1<vs.size)
 (h:∀h' T,Leaves (env::outer) e oe s.heap h' T->Q () { s with heap:=h' }) :
 wpAny M A (do let a <- frameOf env;let pl <- entryPlaceOf L hadNext;let b <- EntryCells.newEntry head a .none (rawInt L) .none pl;setField (.ref e) 1 b) (fun _ s'=>wpAny M A (setFlight (.ref e) none) Q E s') E s:=by
 have hene:e∉(env::outer).filterMap (·.frame):=fun hm=>by
  obtain⟨_,o,ho,hnf⟩:=hl.mem hm;rw[he]at ho;injection ho with ho;subst ho;exact hnf vs hd
 refine Xa (wpAny_frameOf_fun hfr hl hf fun b8 bq=>?_);refine Xa (wpAny_entryPlaceOf fun pl hpl=>?_);unfold EntryCells.newEntry newFields;refine Xa (wpAny_newObj_type ?_ (hpl.sizeOk5 _ _ _ _ _));have cw:b8.get? e=some oe:=(bq.2.1 e hene).trans he;have c6:=Xf (h:=b8) { cls:=.type "traceback",dict:=none,data:=.fields ([head,.ref L,.none,rawInt L,.none]++(if pl.isEmpty then List.replicate 6 Value.none else pl)).toArray } cw;refine wpAny_setField c6 hd hsz ?_;have hTe:b8.objs.size≠e:=XX (Xj cw);have cx:=Obj.data_mapFields hd (·.setIfInBounds 1 (Value.ref b8.objs.size));have cz:=WJ (Obj.mapFields (·.setIfInBounds 1 (Value.ref b8.objs.size))) c6 (Obj.isFreed_of_fields cx)
 have d5:=(XS (b8.push { cls:=.type "traceback",dict:=none,data:=.fields ([head,.ref L,.none,rawInt L,.none]++(if pl.isEmpty then List.replicate 6 Value.none else pl)).toArray })
  (Obj.mapFields (·.setIfInBounds 1 (Value.ref b8.objs.size))) (Ne.symm hTe)).trans (Xy b8 rfl)
 unfold setFlight;refine Xa (Js cz cx (x:=.ref b8.objs.size) (by simp[hsz]) ?_);rw[Xd (show(Value.ref b8.objs.size != Value.none)=true from by simp)];refine wpAny_setField d5 rfl (by simp only[Xw,Xm,XJ,List.length_nil]<;>omega) (h _ b8.objs.size ?_)
 have keep:∀b o,b≠e->b8.get? b=some o ->
  (((b8.push { cls:=.type "traceback",dict:=none,data:=.fields ([head,.ref L,.none,rawInt L,.none]++(if pl.isEmpty then List.replicate 6 Value.none else pl)).toArray }).update e (Obj.mapFields (·.setIfInBounds 1 (Value.ref b8.objs.size)))).update b8.objs.size
    (Obj.mapFields (·.setIfInBounds 3 ((none:Qj).elim Value.none fun f=>rawInt f)))).get? b=some o:=fun b o hbe hb=>by
  have hbT:b8.objs.size≠b:=XX (Xj hb);rw[XS _ _ hbT,XS _ _ (Ne.symm hbe)];exact Xf _ hb
 refine⟨fun b o hb hbe ho=>keep b o hbe ((bq.2.1 b hb).trans ho),fun b o hb ho=>?_,?_,?_,?_⟩
 ·obtain⟨sl,hs⟩:=bq.2.2 b o ho
  exact⟨sl,keep b _ (fun q=>hene (q▸hb)) hs⟩
 ·exact Nat.le_of_eq bq.1.symm
 ·rw[XS _ _ hTe];exact cz
 ·exact⟨_,_,WJ _ d5 (Obj.isFreed_of_fields (Obj.data_mapFields rfl _)),Obj.data_mapFields rfl _,by first|(simp;done)|(rcases hpl with rfl|⟨_,_,_,_,_,_,_,rfl⟩<;>simp)⟩
def EX {base:Heap}{env:Env}{outer:List Env}{L e:Addr}{oe:Obj}{vs:Array Value}{Q:Unit->Shared->Prop}
 (hfr:A.frames=some (env::outer)) (hl:s.heap.FunFrames base (env::outer)) (hf:env.frame=some L)
 (he:s.heap.get? e=some oe) (hd:oe.data=.fields vs) (h1:vs[1]?=some .none)
 (h:∀h' T,Leaves (env::outer) e oe s.heap h' T->Q () { s with heap:=h' }):wpAny M A (leaving env (.ref e)) Q E s:=by
 unfold leaving noteFrame;simp only[hf];refine Xa (Xa (Js he hd h1 ?_));rw[Xb (by decide)];exact SI hfr hl hf he hd (Array.getElem?_eq_some_iff.mp h1).1 h
def P1 {base:Heap}{env:Env}{outer:List Env}{L e T0:Addr}{oe oT:Obj}{vs ts:Array Value}{Q:Unit->Shared->Prop}
 (hfr:A.frames=some (env::outer)) (hl:s.heap.FunFrames base (env::outer)) (hf:env.frame=some L)
 (he:s.heap.get? e=some oe) (hd:oe.data=.fields vs) (h1:vs[1]?=some (.ref T0)) (hTe:T0≠e) (hT:s.heap.get? T0=some oT) (hdT:oT.data=.fields ts) (h3:ts[3]?=some .none)
 (h:∀h' T,Leaves (env::outer) e oe s.heap h' T->Q () { s with heap:=h' }):wpAny M A (noteFrame (.ref e) env) (fun _ s'=>wpAny M A (setFlight (.ref e) none) Q E s') E s:=by
 unfold noteFrame;simp only[hf];refine Xa (Js he hd h1 ?_);rw[Xd (show(Value.ref T0 != Value.none)=true from by simp)];refine Xa (Js hT hdT h3 ?_);rw[Xb (show ¬((Value.none==rawInt L)=true) from by simp[rawInt])];refine Xa (wpAny_setField hT hdT (Array.getElem?_eq_some_iff.mp h3).1 ?_);have hsz3:3<ts.size:=(Array.getElem?_eq_some_iff.mp h3).1
 have same:Obj.mapFields (·.setIfInBounds 3 Value.none) oT=oT:=by
  obtain⟨c,d,dt,sl⟩:=oT
  subst hdT;have:ts.setIfInBounds 3 Value.none=ts:=by
   apply Array.ext_getElem?
   intro i;rw[Array.getElem?_setIfInBounds];by_cases hi:3=i
   ·subst hi;rw[Xd rfl,Xd hsz3,h3]
   ·rw[Xb hi]
  unfold Obj.mapFields;simp[this]
 have all:∀b o,s.heap.get? b=some o->(s.heap.update T0 (Obj.mapFields (·.setIfInBounds 3 Value.none))).get? b=some o:=fun b o hb=>by
  by_cases q:b=T0
  ·subst q
   rw[hT]at hb;cases hb;rw[WJ _ hT (Obj.isFreed_of_fields (Obj.data_mapFields hdT _)),same]
  ·rw[XS _ _ (Ne.symm q)];exact hb
 refine SI (s:={ s with heap:=_ }) hfr (hl.of_keeps fun b o hb hnf=>⟨o,all b o hb,rfl⟩) hf (all e _ he) hd (Array.getElem?_eq_some_iff.mp h1).1 fun h' T Z=>h h' T ?_
 exact⟨fun b o x1 x2 x3=>Z.keep b o x1 x2 (all b o x3),fun b o x1 x2=>Z.slot b o x1 (all b o x2),by have:=Z.new;simpa only [Heap.size_update] using this,Z.exc,Z.tb⟩
def EL {base:Heap}{env:Env}{outer:List Env}{L e T0:Addr}{oe oT:Obj}{vs ts:Array Value}{Q:Unit->Shared->Prop}
 (hfr:A.frames=some (env::outer)) (hl:s.heap.FunFrames base (env::outer)) (hf:env.frame=some L)
 (he:s.heap.get? e=some oe) (hd:oe.data=.fields vs) (h1:vs[1]?=some (.ref T0)) (hTe:T0≠e) (hT:s.heap.get? T0=some oT) (hdT:oT.data=.fields ts) (h3:ts[3]?=some .none)
 (h:∀h' T,Leaves (env::outer) e oe s.heap h' T->Q () { s with heap:=h' }):wpAny M A (leaving env (.ref e)) Q E s:=Xa (P1 hfr hl hf he hd h1 hTe hT hdT h3 h)
end
end L2
namespace L2
open PySem PySem.Spec PyProof.Rows
def phT (T:Addr):Heap->Prop:=fun h=>∃oT ts,h.get? T=some oT/\oT.data=.fields ts/\ts[3]?=some .none
def phF (C e:Addr)(dct:Qj)(T:Addr):Heap->Prop:=fun h=>∃(vs:Array Value) (sl:Array (Qf)),h.get? e=some { cls:=.ref C,dict:=dct,data:=.fields vs,slots:=sl }/\vs[1]?=some (.ref T)/\vs[2]?=some .none
def Th {P:Program}{w:World}{H:Hp}{h:Heap}{T:Addr}(p:phT T h):Z7 P w H h T (.ext (phT T)):=⟨p,by obtain⟨o,_,q,_⟩:=p;exact⟨_,q⟩,fun h1 h2 p1 k=>by obtain⟨o,ts,q,r⟩:=p1;exact⟨o,ts,k _ q,r⟩⟩
def Lf {P:Program}{w:World}{H:Hp}{h:Heap}{C e T:Addr}{dct:Qj}(p:phF C e dct T h):Z7 P w H h e (.ext (phF C e dct T)):=⟨p,by obtain⟨o,_,q,_⟩:=p;exact⟨_,q⟩,fun h1 h2 p1 k=>by obtain⟨o,ts,q,r⟩:=p1;exact⟨o,ts,k _ q,r⟩⟩
abbrev left (C e:Addr)(dct:Qj)(T:Addr)(H:Hp):Hp:=upd (upd H e (.ext (phF C e dct T))) T (.ext (phT T))
section
variable {X:Cx}{Xa1:Qc}{σ:St}{H:Hp}{s:Shared}
def HP {C e T:Addr}{dct:Qj}{vs:Array Value}{sl:Array (Qf)}{h':Heap}(I:Qr X Xa1 σ H s)(mu:Mut (H e))
 (he:s.heap.get? e=some { cls:=.ref C,dict:=dct,data:=.fields vs,slots:=sl }) (hsz:1<vs.size) (hc2:vs[2]?=some .none)
 (Z:Leaves X.stack e { cls:=.ref C,dict:=dct,data:=.fields vs,slots:=sl } s.heap h' T):Qr X Xa1 σ (left C e dct T H) { s with heap:=h' }:=by
 have hTe:T≠e:=XX (Xt (Xj he) Z.new);have hnone:∀b,H b=none->b≠e:=fun b hb q=>by subst q;rw[hb]at mu;exact mu
 have hlt:∀b o,H b=some o->b≠T:=fun b o hb=>Xp (Xt (I.hok.lt hb) Z.new)
 have hne:∀b o,H b=some o->b≠e->left C e dct T H b=some o:=fun b o hb q=>by
  unfold left;rw[Qu (hlt b o hb),Qu q];exact hb
 have nfr:∀b o,H b=some o->b∉frs X.stack:=fun b o hb q=>by rw[I.stkFree b q]at hb;cases hb
 have nmu:∀b o,H b=some o->¬Mut (some o)->b≠e:=fun b o hb n q=>by subst q;rw[hb]at mu;exact n mu
 have U:Un (frs X.stack) [] H (left C e dct T H) s.heap h' :=
  { keep:=fun b o ho hb hf _=>Z.keep b o hf (hnone b hb) ho
    slot:=fun b o ho hb hf _=>Z.slot b o hf ho
    free:=fun b o ho hb _=>by
     unfold left;rw[Qu (Xp (Xt (Xj ho) Z.new)),Qu (hnone b hb)];exact hb
    there:=fun b o ho _=>by
     by_cases hf:b∈frs X.stack
     ·obtain⟨sl,z⟩:=Z.slot b o hf ho;exact⟨_,z⟩
     ·by_cases q:b=e
      ·subst q;exact⟨_,Z.exc⟩
      ·exact⟨_,Z.keep b o hf q ho⟩
    tups:=fun b xs hb=>hne b _ hb (nmu b _ hb (fun z=>z))
    frzs:=fun b o u hb=>hne b _ hb (nmu b _ hb (fun z=>z))
    tupo:=fun b xs o hb ho _=>Z.keep b o (nfr b _ hb) (nmu b _ hb (fun z=>z)) ho
    tbls:=fun b ps hb=>⟨#[],by rw[hne b _ hb (nmu b _ hb (fun z=>z))];simp⟩ }
 have hok:HOk X.prog X.w (left C e dct T H) h':=fun b u hb=>by
  by_cases q:b=T
  ·subst q
   unfold left at hb;rw[QD]at hb;cases hb;exact Th Z.tb
  ·by_cases q2:b=e
   ·subst q2
    unfold left at hb;rw[Qu q,QD]at hb;cases hb;exact Lf ⟨_,_,Z.exc,by simp[hsz],by rw[Array.getElem?_setIfInBounds_ne (by decide)];exact hc2⟩
   ·have hb':H b=some u:=by unfold left at hb;rw[Qu q,Qu q2]at hb;exact hb
    refine(I.hok b u hb').stay (fun c v hc hv=>?_) (fun c hc=>?_) fun c xs hc=>?_
    ·rcases hc with z|z
     ·subst z;exact Z.keep c v (nfr c _ hb') q2 hv
     ·exact Z.keep c v (nfr c _ z) (nmu c _ z (fun z=>z)) hv
    ·exact hne c _ hc (nmu c _ hc (fun z=>z))
    ·exact hne c _ hc (nmu c _ hc (fun z=>z))
 obtain⟨hh,g,d,t,os⟩:=s;exact I.call (h':=h') (g':=g) (d':=d) (t':=t) (ch:=[]) U hok I.bare fun b z=>nomatch z
end
def Fly (C e:Addr)(dct:Qj)(H:Hp):Prop := ∃T,T≠e/\H e=some (.ext (phF C e dct T))/\H T=some (.ext (phT T))
def XE (C:Addr)(R:Addr->Qj->Hp->Prop):XK:=fun v dct H=>∃e,v=.ref e/\Fly C e dct H/\R e dct H
def CX1 (P:Program)(w:World):CXT:=fun outer H s E v s'=>∃dct H',s'.os=s.os/\AllBare s'.gens/\Un (frs outer) [] H H' s.heap s'.heap/\HOk P w H' s'.heap/\E v dct H'
def VT (C:Addr)(R:Addr->Qj->Hp->Prop):Prop := ∀e dct H T,R e dct H->H T=none->T≠e->R e dct (left C e dct T H)
section
variable {P:Program}{w:World}{K:W.Frag}{mg:Str->Qf}{base:Heap}{N:Qh}{qual:Str}{scope:Scope}{f:Addr}{cd:Value}{A:Around}{outer:List Env}{s0:Shared}{H0:Hp}{C:Addr}{R:Addr->Qj->Hp->Prop}
abbrev cx1 (P:Program)(w:World)(K:W.Frag)(mg:Str->Qf)(base:Heap)(N:Qh)(qual:Str)(scope:Scope)(f:Addr)(cd:Value)(A:Around)(outer:List Env)(s0:Shared)(H0:Hp)(E:XK):Cx:=Vo (CX1 P w) P w K mg base N qual scope f cd A outer s0 H0 E
variable {Xa1:Qc}{σ:St}{H:Hp}{s:Shared}
def C7 {e T:Addr}{dct:Qj}(h:T≠e):Fly C e dct (left C e dct T H):=⟨T,h,by unfold left;rw[Qu (Ne.symm h),QD],by unfold left;rw[QD]⟩
def NJ {e:Addr}{dct:Qj}{h':Heap}{T:Addr}(hR:VT C R)(I:Qr (cx1 P w K mg base N qual scope f cd A outer s0 H0 (XE C R)) Xa1 σ (left C e dct T H) { s with heap:=h' })(hT:H T=none)(hTe:T≠e)(r:R e dct H) :
 CX1 P w outer H0 s0 (XE C R) (.ref e) { s with heap:=h' }:=⟨dct,_,I.os,I.bare,I.base,I.hok,e,rfl,C7 hTe,hR e dct H T r hT hTe⟩
def Cp {e:Addr}{dct:Qj}(hR:VT C R)(I:Qr (cx1 P w K mg base N qual scope f cd A outer s0 H0 (XE C R)) Xa1 σ H s)(he:H e=some (.ext (phX C e dct)))(r:R e dct H) :
 (cx1 P w K mg base N qual scope f cd A outer s0 H0 (XE C R)).xe (.ref e) s:=by
 obtain⟨⟨t,sl,hx⟩,_,_⟩:=I.hok e _ he;refine EX I.ok.frames I.stack rfl hx rfl rfl fun h' T Z=>?_;exact NJ hR (HP I (by rw[he];trivial) hx (by simp) rfl Z) (I.hok.fresh Z.new) (XX (Xt (Xj hx) Z.new)) r
def Nq (hR:VT C R):Yl (CX1 P w) (cx1 P w K mg base N qual scope f cd A outer s0 H0 (XE C R)) (XE C R):=by
 intro Xa1 σ H s v s' I h;obtain⟨dct,H',os,bare,un,hok,e,rfl,⟨T0,hT0,he,hT⟩,r⟩:=h;obtain⟨hh,g,d,t,os'⟩:=s';obtain rfl:os'=s.os:=os;have I2:=I.call (h':=hh) (g':=g) (d':=d) (t':=t) (ch:=[]) un hok bare (fun b z=>nomatch z);obtain⟨⟨vs,sl,hx,h1,h2c⟩,_,_⟩:=I2.hok e _ he;obtain⟨⟨oT,ts,hx2,h2,h3⟩,_,_⟩:=I2.hok T0 _ hT;refine EL I2.ok.frames I2.stack rfl hx rfl h1 hT0 hx2 h2 h3 fun h' T Z=>?_;exact NJ hR (HP I2 (by rw[he];trivial) hx (Array.getElem?_eq_some_iff.mp h1).1 h2c Z) (I2.hok.fresh Z.new) (XX (Xt (Xj hx) Z.new)) r
end
section
variable {X:Cx}{C Y f:Addr}{e:Expr}{te:TE}{pos:Pos}{R:Addr->Qj->Hp->Prop}
def Cj (c:Uo X.K Y C f)(calm:X.calm=true)(hv:PE X e te)(hx:∀Xa1 σ H s a dct,Qr X Xa1 σ H s->H a=some (.ext (phX C a dct))->R a dct H->X.xe (.ref a) s):PS X (.Raise (some e) none pos) (sXR C te R):=by
 intro Xa1 s σ H D I h;rw[arm_exec_Raise];simp only[evalOpt,Option.map];refine Xa (wpAny_standAt (LR (C:=C) (I.ok.hd calm) (Xa (Q6 (hv Xa1 s σ H _ I h) fun u s1 ⟨v,H1,I1,r,a,dct,ev,ea,q⟩=>Xa (wpAny_standAt (Xn ?_))))));subst ev;obtain rfl:u=Value.ref a:=r;obtain⟨⟨t,sl,hx1⟩,_,_⟩:=I1.hok a _ ea;obtain⟨bmB,bm,nm,qn,N,bs,hdct,sn,sub,ab,col,dd,k0,k1,k2,k3,k5,FB,T,hC,_⟩:=c.cls _ I1.kIn
 exact⟨a,t,dct,sl,bm,nm,qn,N,bs,hdct,sn,sub,ab,col,dd,k0,k1,k2,k3,k5,_,rfl,T.hasType FB.hasBase,hC,hx1,hx _ _ _ _ _ _ I1 ea q⟩
end
inductive Lefts (C e:Addr)(dct:Qj):Hp->Hp->Prop
 |nil {H}:Lefts C e dct H H
 |step {H H' T}:Lefts C e dct H H'->H' T=none->T≠e->Lefts C e dct H (left C e dct T H')
def Lefts.head {C e:Addr}{dct:Qj}{H H':Hp}{T:Addr}(hT:H T=none)(he:T≠e)(h:Lefts C e dct (left C e dct T H) H'):Lefts C e dct H H':=by
 induction h with
 |nil=>exact .step .nil hT he
 |step _ a b ih=>exact .step ih a b
abbrev Ji (X:Cx)(e:Addr)(pn:Qc):Cx:={ X with pn:=pn,A:=X.A.mark (some (.ref e)),calm:=false,xe:=fun _ _=>False }
section
variable {X:Cx}{Xa1:Qc}{σ:St}{H:Hp}{s:Shared}{C:Addr}{th:TS}{D:Ends}
def Qr.toPn (I:Qr X Xa1 σ H s):Qr { X with pn:=X.pn++Xa1 } [] σ H s :=
 ⟨⟨I.ok.mod,I.ok.kind,I.ok.glob,I.ok.blt,I.ok.above,I.ok.inj,I.ok.has,I.ok.cab,I.ok.hd,I.ok.frames,I.ok.stk,I.ok.exf,I.ok.bs,I.ok.bsz,I.ok.noex,I.ok.exfs,I.ok.funs,I.ok.frf⟩,I.os,I.bare,I.base,I.loc,I.cell,I.free,I.freeC,fun p hp=>I.pin p (by simpa using hp),I.hok,I.len⟩
def Qr.ofPn {pins':Qc}(I:Qr { X with pn:=X.pn++Xa1 } pins' σ H s):Qr X Xa1 σ H s :=
 ⟨⟨I.ok.mod,I.ok.kind,I.ok.glob,I.ok.blt,I.ok.above,I.ok.inj,I.ok.has,I.ok.cab,I.ok.hd,I.ok.frames,I.ok.stk,I.ok.exf,I.ok.bs,I.ok.bsz,I.ok.noex,I.ok.exfs,I.ok.funs,I.ok.frf⟩,I.os,I.bare,I.base,I.loc,I.cell,I.free,I.freeC,fun p hp=>I.pin p (Ui _ hp),I.hok,I.len⟩
def Qr.toHandler {pn:Qc}{e:Addr}(I:Qr { X with pn:=pn } Xa1 σ H s):Qr (Ji X e pn) Xa1 σ H s :=
 ⟨⟨I.ok.mod,I.ok.kind,I.ok.glob,I.ok.blt,I.ok.above,I.ok.inj,I.ok.has,I.ok.cab,(fun z=>by cases z),I.ok.frames,I.ok.stk,I.ok.exf,I.ok.bs,I.ok.bsz,I.ok.noex,I.ok.exfs,I.ok.funs,I.ok.frf⟩,I.os,I.bare,I.base,I.loc,I.cell,I.free,I.freeC,I.pin,I.hok,I.len⟩
def Qr.ofHandler {pn:Qc}{e:Addr}(hc:X.Ok)(I:Qr (Ji X e pn) Xa1 σ H s):Qr { X with pn:=pn } Xa1 σ H s :=
 ⟨⟨I.ok.mod,I.ok.kind,I.ok.glob,I.ok.blt,I.ok.above,I.ok.inj,I.ok.has,I.ok.cab,hc.hd,hc.frames,I.ok.stk,I.ok.exf,I.ok.bs,I.ok.bsz,I.ok.noex,I.ok.exfs,I.ok.funs,I.ok.frf⟩,I.os,I.bare,I.base,I.loc,I.cell,I.free,I.freeC,I.pin,I.hok,I.len⟩
def SP.ofPn {f:Flow}{s':Shared}{pins':Qc}{E:Qb}(h:SP { X with pn:=X.pn++Xa1,xe:=E } pins' D f s'):SP X Xa1 D f s':=by
 have o:∀{σ' H'},Qr { X with pn:=X.pn++Xa1,xe:=E } pins' σ' H' s'->Qr X Xa1 σ' H' s':=fun I=>Qr.ofPn (I.unwish (X:={ X with pn:=X.pn++Xa1 }))
 cases f with
 |next=>obtain⟨σ',H',I,q⟩:=h;exact⟨σ',H',o I,q⟩
 |brk=>obtain⟨σ',H',I,q⟩:=h;exact⟨σ',H',o I,q⟩
 |cont=>obtain⟨σ',H',I,q⟩:=h;exact⟨σ',H',o I,q⟩
 |ret u=>obtain⟨v,σ',H',I,r,q⟩:=h;exact⟨v,σ',H',o I,r,q⟩
end
def Iq {M:Model}{A:Around}{E:Qb}{s:Shared}{C e T:Addr}{dct:Qj}{Q:Unit->Shared->Prop}(he:phF C e dct T s.heap)(hT:phT T s.heap)
 (h:∀h',(∀b o,s.heap.get? b=some o->h'.get? b=some o)->Q () { s with heap:=h' }):wpAny M A (setFlight (.ref e) none) Q E s:=by
 obtain⟨vs,sl,hx,h1,_⟩:=he;obtain⟨oT,ts,hx2,hdT,h3⟩:=hT;have hsz3:3<ts.size:=(Array.getElem?_eq_some_iff.mp h3).1
 have same:Obj.mapFields (·.setIfInBounds 3 Value.none) oT=oT:=by
  obtain⟨c,d,dt,sl⟩:=oT
  subst hdT;have:ts.setIfInBounds 3 Value.none=ts:=by
   apply Array.ext_getElem?
   intro i;rw[Array.getElem?_setIfInBounds];by_cases hi:3=i
   ·subst hi;rw[Xd rfl,Xd hsz3,h3]
   ·rw[Xb hi]
  unfold Obj.mapFields;simp[this]
 refine wpAny_setFlight_none hx rfl h1 hx2 hdT hsz3 (h _ fun b o hb=>?_)
 by_cases q:b=T
 ·subst q
  rw[hx2]at hb;cases hb;rw[WJ _ hx2 (Obj.isFreed_of_fields (Obj.data_mapFields hdT _)),same]
 ·rw[XS _ _ (Ne.symm q)];exact hb
def MJ (tb:Ends->TS):TS:=fun D σ H=>tb D D σ H
section
variable {X:Cx}{C Y f:Addr}{th:TS}{tb:Ends->TS}{body suite:List Stmt}{b0:Stmt}{x:Str}{np hpos pos:Pos}{rest:List ExceptHandler}
end
end L2
namespace L2
open PySem PySem.Spec PyProof.Rows PySem.W
abbrev K8:Qe:=[.type "ValueError",.type "Exception",.type "BaseException",.type "object"]
def E3 {K:Frag}{h:Heap}{N:Addr}{mg:Str->Qf}{n:Str}{v:Value}(X:K.In h)(G:h.Ns N mg)(e:nsIn K N n=some (some v)):mg n=some v:=by
 obtain⟨o,es,ep,ho,hd,_,hf⟩:=G;unfold nsIn at e;split at e
 ·rename_i c d es' n' sl q
  have:=X _ _ q
  rw[ho]at this;cases this
  cases hd
  split at e
  ·rename_i he
   cases e
   rw[<- hf];unfold nsFind findBy;rw[<- Array.find?_toList,he];rfl
  ·split at e<;>cases e
 ·cases e
def Dn (K:Frag)(C f:Addr):Bool:=match K.lookup C with
 |some ⟨.type "type",_,.cls cd,sl⟩=>(match cd.mro,sl.toList with
   |.ref C'::bm,[_,_,_,_,some (.builtin n),_]=>C'==C&&n == "ValueError.__new__" && !cd.hasDel&&tailIn K K8 bm&&nsOkIn K cd.ns&&nsIn K cd.ns "__init__" == some (some (.ref f))
   |_,_=>false)
 |_=>false
theorem TW {K:Frag} {Y C f:Addr} {fo:Obj} (q:Dn K C f=true) (lf:K.lookup f=some fo) (hf:fo.cls=.type "function")
 (ga:specialIn K (.ref Y) "__getattribute__"=some (some (.builtin "type.__getattribute__"))) (rd:readsIn K Y (.type "type")=true) (ini:findCls K (.ref Y) (.type "type") "__init__"=some (.val (.builtin "ValueError.__init__"))):Uo K Y C f where
 ga:=ga
 rd:=rd
 ini:=ini
 cls:=fun h X=>by
  unfold Dn at q;split at q
  ·rename_i dd cd sl ho
   split at q
   ·rename_i C' bm k0 k1 k2 k3 n k5 hm hs
    simp only[UV,beq_iff_eq,Bool.not_eq_true']at q;obtain⟨⟨⟨⟨⟨rfl,rfl⟩,hdel⟩,ht⟩,hok⟩,hni⟩:=q;obtain⟨nm,bs,mro,ns,qn,hd,sn,sub,ab,col,del⟩:=cd
    dsimp only at hm hdel hok hni;subst hm hdel;have hsl:sl=#[k0,k1,k2,k3,some (.builtin "ValueError.__new__"),k5]:=by
     obtain⟨l⟩:=sl
     simp only at hs
     rw[hs]
    subst hsl;have G:h.Ns ns _:=.of_isNs (isNs_of_in X hok)
    exact⟨K8,bm,nm,qn,ns,bs,hd,sn,sub,ab,col,dd,k0,k1,k2,k3,k5,PySem.F.excBase_ValueError,tail_of_in X ht,X _ _ ho,_,fo,G,E3 X G hni,X _ _ lf,hf⟩
   ·cases q
  ·cases q
end L2
namespace L2
open PySem PySem.Spec PyProof.Rows
def UY (P:Program)(w:World)(K:W.Frag)(mg:Str->Qf)(base:Heap)(x:Str)(ps:Qh)(k:Nat)(sp:Sp):Prop :=
 ∃f fd,mg x=some (.ref f)/\W.keepIn K (.ref f)=true/\Vp K fd ps []/\FnOk P w K mg base (CX1 P w) k f fd ps sp
section
variable {P:Program}{w:World}{K:W.Frag}{mg:Str->Qf}{base:Heap}
def Fun.okX {x qual:Str}{st:Stmt}{f:Addr}{fd:FuncData}{N ps:Qh}{k:Nat}{sp:Sp}(F:Fun K x qual st f fd)(S:Qp N ps (Qy st))(len:∀vs H Q E,sp vs H Q E->vs.length=ps.length)
 (Xa2:∀(cdv:Value) (A:Around) (outer:List Env) (s:Shared) (H:Hp) (vs:List V) (Q:VK) (E:XK),Room k (A.deeper (envOfC qual (Qy st) s.heap.objs.size f cdv))->sp vs H Q E ->
  ∃t,PSs (cx1 P w K mg base N qual (Qy st) f cdv A outer s H E) (Zi st) t/\t { nx:=fun _ H'=>Q .non H',rt:=Q } (start N vs) H):FnOk P w K mg base (CX1 P w) (k+1) f fd ps sp:=by
 obtain⟨oc,od,kV,doc,pm,an,cdv,ct,osl,rfl,lk,hcd⟩:=F.ex;exact KP lk hcd S len fun A outer s H vs Q E hr hsp=>Xa2 cdv A outer s H vs Q E hr hsp
def Df.calX {x:Str}{st:Stmt}{N ps:Qh}{k:Nat}{sp:Sp}(D:Df K mg x st ps)(S:Qp N ps (Qy st))(len:∀vs H Q E,sp vs H Q E->vs.length=ps.length)
 (Xa2:∀(f:Addr) (cdv:Value) (A:Around) (outer:List Env) (s:Shared) (H:Hp) (vs:List V) (Q:VK) (E:XK),Room k (A.deeper (envOfC x (Qy st) s.heap.objs.size f cdv))->sp vs H Q E ->
  ∃t,PSs (cx1 P w K mg base N x (Qy st) f cdv A outer s H E) (Zi st) t/\t { nx:=fun _ H'=>Q .non H',rt:=Q } (start N vs) H):UY P w K mg base x ps (k+1) sp:=by
 obtain⟨f,fd,F,hm,hb⟩:=D.ex
 exact⟨f,fd,hm,F.kp,hb,F.okX S len fun cdv A outer s H vs Q E hr h=>Xa2 f cdv A outer s H vs Q E hr h⟩
end
section
variable {X:Cx}
def R4 {x:Str}{p pos:Pos}{e:Expr}{es:Qi}{t:TA}{ps:Qh}{j k:Nat}{sp:Sp}{E:XK}(C:UY X.prog X.w X.K X.mg X.base x ps j sp)(hr:Room k X.A)(hx:Yl (CX1 X.prog X.w) X E)(ha:PA X (e::es) t)(hj:j<=k:=by walk_at"j")(hg:Gl X x:=by rfl)
 (hdb:(x==("__debug__" : Str))=false:=by decide +kernel)
 (he:starEach (e::es) X.env=(false,eval e X.env)::starEach es X.env:=by rfl) (hpl:(backTo pos (starEach es X.env)).any (·.1)=false:=by rfl):PE X (.Call (.Name x p) (e::es) [] pos) (Vv sp [] E t):=by
 obtain⟨f,fd,hm,hk,hb,F⟩:=C;exact Rr F (hr.mono hj) hg hm hk hb .nil hx ha hdb he hpl
end
def G7 (K:W.Frag)(C:Addr)(f:Str):Sp:=fun vs H Q _=>∃(e p:Addr) (xs:List V),vs=[.ref e,.ref p]/\H e=some (.ext (phX C e none))/\SqL K H p xs /\
 ∀q dx,H q=none->H dx=none->dx≠q->dx≠e->q≠e->Q .non (upd (upd (upd H q (.lst xs)) e (.ext (phX C e (some dx)))) dx (.xd [(f,.ref q)]))
def Ac {K:W.Frag}{C:Addr}{f:Str}{n:Nat}{vs:List V}{H:Hp}{Q:VK}{E:XK}(h:G7 K C f vs H Q E) :
 Jy (VC (tXI C 0)) (sXF C (Q8 0) (tCB (BI K) (QE (Q8 1) QN)) f) { nx:=fun _ H'=>Q .non H',rt:=Q } (vs.map some++List.replicate n none) H:=by
 obtain⟨e,p,xs,rfl,he,hp,hq⟩:=h;refine⟨e,none,rfl,he,?_⟩;refine⟨.ref p,rfl,?_⟩;refine⟨p,xs,rfl,.inl hp,fun q hqn=>?_⟩;have hqe:q≠e:=fun z=>by subst z;rw[he]at hqn;cases hqn
 refine⟨.ref e,rfl,e,rfl,by rw[Qu (Ne.symm hqe)];exact he,fun dx hdx hde=>?_⟩;have hdq:dx≠q:=fun z=>by subst z;rw[QD]at hdx;cases hdx
 exact hq q dx hqn (by rw[Qu hdq]at hdx;exact hdx) hdq hde hqe
structure FldL (f:Str)(e:Addr)(F H H0:Hp)(ds:Qd)(dx q:Addr)(xs:List V):Prop where
 hd:H dx=some (.xd [(f,.ref q)])
 hq:H q=some (.lst xs)
 fq:F q=none
 rp:Qv F xs ds
 nd:dx≠e
 nq:q≠e
 dq:dx≠q
 fe:F e=none
 fd:F dx=none
 q0:H0 q=none
 d0:H0 dx=none
def Fld (f:Str)(e:Addr)(F H H0:Hp)(dct:Qj)(ds:Qd):Prop := ∃dx q xs,dct=some dx/\FldL f e F H H0 ds dx q xs
def Fld.back {f:Str}{e:Addr}{F H H0 H1:Hp}{dct:Qj}{ds:Qd}(h:Fld f e F H H1 dct ds)(s:Q4 H0 H1):Fld f e F H H0 dct ds:=by
 obtain⟨dx,q,xs,a,b⟩:=h
 exact⟨dx,q,xs,a,b.hd,b.hq,b.fq,b.rp,b.nd,b.nq,b.dq,b.fe,b.fd,s.free b.q0,s.free b.d0⟩
def spX (K:W.Frag)(C:Addr)(f:Str)(R:List OT->(OT->Prop)->Prop)(Rx:List OT->(Qd->Prop)->Prop):Sp:=fun vs H Q E=>∃F ts,KTs K F/\Q4 F H/\Args K F vs ts/\∃RR,E=XE C RR/\VT C RR /\
 ((∃Φ,R ts Φ/\∀F' H' v p r,Φ r->Q0 F H F' H'->(∀a∈p,H a=none)->Zk K F' H' v r p->Q v H')\/(∃Φx,Rx ts Φx/\∀F' H' e dct d,Φx d->Q0 F H F' H'->H e=none->Fld f e F' H' H dct d->RR e dct H'))
def EvZ (K:W.Frag)(F0 H0:Hp)(t:TS)(ρ:Q1):Prop := ∀(F:Hp) (σ:St) (H:Hp) (E:Ends),Q0 F0 H0 F H->QB K H0 F ρ σ H->t E σ H
section
variable {P:Program}{w:World}{K:W.Frag}{mg:Str->Qf}{base:Heap}
def Md {N ps:Qh}{vs:List V}{ts:List OT}{F H:Hp}(kt:KTs K F)(sm:Q4 F H)(ha:Args K F vs ts)(hl:ts.length<=N.length):QB K H F (ts.map some++List.replicate (N.length-ts.length) none) (start N vs) H:=by
 refine⟨kt,sm,?_,fun _=>[],fun i t' e=>?_,fun i j a h=>(nomatch h),fun i a h=>(nomatch h)⟩
 ·unfold start
  simp[ha.length]
 ·have hlt:i<ts.length:=by
   by_cases z:i<ts.length
   ·exact z
   ·rw[X9 (by simpa using z)]at e
    have:=List.mem_of_getElem? e
    simp at this
  rw[XI (by simpa using hlt),Xq]at e;have e':ts[i]?=some t':=by
   cases z:ts[i]? with
   |none=>rw[z]at e;simp at e
   |some w=>rw[z]at e;simp at e;rw[e]
  obtain⟨v,e1,e2⟩:=ha.get (H:=H) i t' e';refine⟨v,?_,e2⟩;unfold start;have hl2:i<vs.length:=by rw[ha.length];exact hlt
  rw[XI (by simpa using hl2),Xq,e1];rfl
def Df.evZ {x:Str}{st:Stmt}{N ps:Qh}{k:Nat}{C:Addr}{fl:Str}{R:List OT->(OT->Prop)->Prop}{Rx:List OT->(Qd->Prop)->Prop}(D:Df K mg x st ps)(S:Qp N ps (Qy st))(len:∀ts Φ,R ts Φ->ts.length=ps.length)(lenx:∀ts Φ,Rx ts Φ->ts.length=ps.length)
 (hpn:ps.length<=N.length)
 (hret:∀(f:Addr) (cdv:Value) (A:Around) (outer:List Env) (s:Shared) (H:Hp) RR (ts:List OT) (Φ:OT->Prop),Room k (A.deeper (envOfC x (Qy st) s.heap.objs.size f cdv))->VT C RR->R ts Φ ->
  ∃t,PSs (cx1 P w K mg base N x (Qy st) f cdv A outer s H (XE C RR)) (Zi st) t/\Q2 K t (ts.map some++List.replicate (N.length-ts.length) none) { nx:=fun _=>Φ (.fz .none),rt:=Φ })
 (hexc:∀(f:Addr) (cdv:Value) (A:Around) (outer:List Env) (s:Shared) (F H:Hp) RR (ts:List OT) (Φx:Qd->Prop),Room k (A.deeper (envOfC x (Qy st) s.heap.objs.size f cdv))->VT C RR->(∀F' H' e dct d,Φx d->Q0 F H F' H'->H e=none->Fld fl e F' H' H dct d->RR e dct H')->Rx ts Φx ->
  ∃t,PSs (cx1 P w K mg base N x (Qy st) f cdv A outer s H (XE C RR)) (Zi st) t/\EvZ K F H t (ts.map some++List.replicate (N.length-ts.length) none)) :
 UY P w K mg base x ps (k+1) (spX K C fl R Rx):=by
 refine D.calX S (fun vs H Q E ⟨F,ts,_,_,ha,RR,_,_,q⟩=>?_) fun f cdv A outer s H vs Q E hr ⟨F,ts,kt,sm,ha,RR,eE,st,q⟩=>?_
 ·rcases q with ⟨r,hR,_⟩|⟨r,hR,_⟩
  ·exact ha.length.trans (len ts r hR)
  ·exact ha.length.trans (lenx ts r hR)
 ·subst eE
  rcases q with ⟨Φ,hR,q⟩|⟨Φx,hR,q⟩
  ·obtain⟨t,h1,h2⟩:=hret f cdv A outer s H RR ts Φ hr st hR
   refine⟨t,h1,h2 F H F (start N vs) H _ (Q0.refl sm) (Md (ps:=ps) kt sm ha (by rw[len ts Φ hR];exact hpn)) ⟨fun F' σ' H' ρ' x' _ e=>?_,fun F' H' v r' p x' hp ok e=>?_,fun _ _ _ _ _ _ z=>False.elim z,fun _ _ _ _ _ _ z=>False.elim z⟩⟩
   ·exact q F' H' _ [] _ e x' (fun _ z=>nomatch z) ⟨rfl,.non⟩
   ·exact q F' H' v p r' e x' hp ok
  ·obtain⟨t,h1,h2⟩:=hexc f cdv A outer s F H RR ts Φx hr st q hR
   exact⟨t,h1,h2 F (start N vs) H _ (Q0.refl sm) (Md (ps:=ps) kt sm ha (by rw[lenx ts Φx hR];exact hpn))⟩
end
section
variable {K:W.Frag}{ρ:Q1}{ta:TE}{C:Addr}{f:Str}{F0 H0:Hp}{RR:Addr->Qj->Hp->Prop}{ds:Qd}{E:XK}
def Aj {Φx:Qd->Prop}(h:Qt K ta ρ (.list ds))(hd:Φx ds)(hq:∀F' H' e dct d,Φx d->Q0 F0 H0 F' H'->H0 e=none->Fld f e F' H' H0 dct d->RR e dct H'):EvZ K F0 H0 (sXR C (M4 C (G7 K C f) E (QE ta QN)) RR) ρ:=by
 intro F σ H D x S;refine h H0 F σ H _ S fun F1 H1 v x1 rp=>⟨by simp,fun e he=>?_⟩
 cases rp with
 |@lst a xs _ r1 r2 =>
 have ha:H1 a=some (.lst xs):=x1.fh a _ r1;have hae:a≠e:=fun z=>by subst z;rw[he]at ha;cases ha
 refine⟨e,a,xs,rfl,QD,SqL.of (by rw[Qu hae];exact ha),fun q dx hqn hdn hdq hde hqe=>⟨rfl,e,some dx,rfl,?_,?_⟩⟩
 ·rw[Qu (Ne.symm hde),QD]
 ·have hq1:H1 q=none:=by rw[Qu hqe]at hqn;exact hqn
  have hd1:H1 dx=none:=by rw[Qu hde]at hdn;exact hdn
  have hf1:F1 q=none:=x1.fh.free hq1
  have sm:Q4 H1 (upd (upd (upd (upd H1 e (.ext (phX C e none))) q (.lst xs)) e (.ext (phX C e (some dx)))) dx (.xd [(f,.ref q)])):=fun b o hb=>by
   have n1:b≠e:=fun z=>by subst z;rw[he]at hb;cases hb
   have n2:b≠q:=fun z=>by subst z;rw[hq1]at hb;cases hb
   have n3:b≠dx:=fun z=>by subst z;rw[hd1]at hb;cases hb
   rw[Qu n3,Qu n1,Qu n2,Qu n1];exact hb
  have X1:=x.trans x1
  have hqh:upd (upd (upd (upd H1 e (.ext (phX C e none))) q (.lst xs)) e (.ext (phX C e (some dx)))) dx (.xd [(f,.ref q)]) q=some (.lst xs):=by
   rw[Qu (Ne.symm hdq),Qu hqe,QD]
  have X2:Q0 F0 H0 F1 (upd (upd (upd (upd H1 e (.ext (phX C e none))) q (.lst xs)) e (.ext (phX C e (some dx)))) dx (.xd [(f,.ref q)])):=X1.trans ⟨sm,Q4.refl _,X1.fh.trans sm,fun b hb=>.inl hb⟩;exact hq F1 _ e (some dx) ds hd X2 (X1.hh.free he) ⟨dx,q,xs,rfl,QD,hqh,hf1,r2,hde,hqe,hdq,X1.fh.free he,X1.fh.free hd1,X1.hh.free hq1,X1.hh.free hd1⟩
def Lc {t u:TS}(M:Q1->Prop)(h1:Q2 K t ρ { nx:=M,rt:=fun _=>False })(h2:∀ρ',M ρ'->EvZ K F0 H0 u ρ'):EvZ K F0 H0 (Jy t u) ρ:=fun F σ H E x S =>
 h1 F0 H0 F σ H _ x S ⟨fun F' σ' H' ρ' x' S' e=>h2 ρ' e F' σ' H' E x' S',fun _ _ _ _ _ _ _ _ z=>z.elim,fun _ _ _ _ _ _ z=>False.elim z,fun _ _ _ _ _ _ z=>False.elim z⟩
def T9 {t:TS}(i:Nat){ds:Qd}(e:ρ[i]?=some (some (.ol ds)))(h:EvZ K F0 H0 t (ρ.set i (some (.fz (.list ds))))):EvZ K F0 H0 t ρ:=fun F σ H E x S=>by
 obtain⟨a,xs,e1,e2,e3,_,_,S'⟩:=S.freeze e;exact h _ σ H E (x.freeze e1 e2 e3) S'
def NH {t u:TS}{ρ1:Q1}(h1:Q2 K t ρ { nx:=fun ρ'=>ρ'=ρ1,rt:=fun _=>False })(h2:EvZ K F0 H0 u ρ1):EvZ K F0 H0 (Jy t u) ρ:=fun F σ H E x S =>
 h1 F0 H0 F σ H _ x S ⟨fun F' σ' H' ρ' x' S' e=>by subst e;exact h2 F' σ' H' E x' S',fun _ _ _ _ _ _ _ _ z=>z.elim,fun _ _ _ _ _ _ z=>False.elim z,fun _ _ _ _ _ _ z=>False.elim z⟩
def Ts {t u:TS}(h:EvZ K F0 H0 t ρ):EvZ K F0 H0 (Jy t u) ρ:=fun F σ H E x S=>h F σ H _ x S
def Tv {tA:TT}{t u:TS}{b:Bool}(h:Zg K tA ρ b)(h1:b=true->EvZ K F0 H0 t ρ)(h2:b=false->EvZ K F0 H0 u ρ):EvZ K F0 H0 (Bo tA t u) ρ:=fun F σ H E x S =>
 h H0 F σ H _ S fun F' H' x'=>by
  cases b with
  |true=>rw[Xd rfl];exact h1 rfl F' σ H' E (x.trans x') (S.ext x')
  |false=>rw[Xb (by decide)];exact h2 rfl F' σ H' E (x.trans x') (S.ext x')
def FN {R:List OT->(OT->Prop)->Prop}{Rx:List OT->(Qd->Prop)->Prop}{Φx:Qd->Prop}{t:TA}{ts:List OT}{Q:VK}(hA:Zw K t ρ ts)(hR:Rx ts Φx)(st:VT C RR)(hq:∀F' H' e dct d,Φx d->Q0 F0 H0 F' H'->H0 e=none->Fld f e F' H' H0 dct d->RR e dct H'){F H9:Hp}{σ:St}{H:Hp}(x:Q0 F0 H0 F H)(S:QB K H9 F ρ σ H) :
 Vv (spX K C f R Rx) [] (XE C RR) t σ H Q:=hA H9 F σ H _ S fun F1 H1 vs x1 r1 =>
 ⟨F1,ts,(S.ext x1).kt,x1.fh,by rw[XD];exact r1,RR,rfl,st,.inr ⟨Φx,hR,fun F' H' e dct d hd x2 he hf=>hq F' H' e dct d hd ((x.trans x1).trans x2) ((x.trans x1).hh.free he) (hf.back (x.trans x1).hh)⟩⟩
def Fd {R:List OT->(OT->Prop)->Prop}{Rx:List OT->(Qd->Prop)->Prop}{Φx:Qd->Prop}{t:TA}{ts:List OT}(hA:Zw K t ρ ts)(hR:Rx ts Φx)(st:VT C RR)(hq:∀F' H' e dct d,Φx d->Q0 F0 H0 F' H'->H0 e=none->Fld f e F' H' H0 dct d->RR e dct H') :
 EvZ K F0 H0 (VC (Vv (spX K C f R Rx) [] (XE C RR) t)) ρ:=fun F σ H E x S=>FN hA hR st hq x S
def CL {R:List OT->(OT->Prop)->Prop}{Rx:List OT->(Qd->Prop)->Prop}{Φ:OT->Prop}{t:TA}{ts:List OT}(hA:Zw K t ρ ts)(hR:R ts Φ)(st:VT C RR):Zv K (Vv (spX K C f R Rx) [] (XE C RR) t) ρ Φ:=fun H0 F σ H Q S q =>
 hA H0 F σ H _ S fun F1 H1 vs x1 r1 =>
  ⟨F1,ts,(S.ext x1).kt,x1.fh,by rw[XD];exact r1,RR,rfl,st,.inl ⟨Φ,hR,fun F2 H2 v p r hr x2 hp ok=>q F2 H2 v p r hr (x1.trans x2) (fun a ha=>x1.hh.free (hp a ha)) ok⟩⟩
def GH {t:TE}{D:PEnds}{Φ:OT->Prop}(h:Zv K t ρ Φ)(hn:D.nx ρ):Q2 K (VC t) ρ D:=fun F0 H0 F σ H E x S c =>
 h H0 F σ H _ S fun F' H' v p r _ x' _ _=>c.nx F' σ H' ρ (x.trans x') (S.ext x') hn
end
section
variable {K:W.Frag}{ρ:Q1}{C:Addr}{th:TS}{tb:Ends->TS}{D:PEnds}{n:Nat}
def Py {e:Addr}{dct:Qj}{G H H':Hp}(h:Lefts C e dct H H')(s:Q4 G H)(he:G e=none):Q4 G H':=by
 induction h with
 |nil=>exact s
 |@step H1 T h1 hT hTe ih =>
   intro b o hb;have n1:b≠e:=fun z=>by subst z;rw[he]at hb;cases hb
   have hb1:=ih b o hb;have n2:b≠T:=fun z=>by subst z;rw[hT]at hb1;cases hb1
   unfold left;rw[Qu n2,Qu n1];exact hb1
def LF (h:∀E,Q2 K (tb E) ρ D):Q2 K (MJ tb) ρ D:=fun F0 H0 F σ H E x S c=>h E F0 H0 F σ H E x S c
end
structure XC (K:W.Frag)(mg:Str->Qf)(x:Str)(Y C f:Addr):Prop where
 cl:Uo K Y C f
 kp:W.keepIn K (.ref C)=true
 m:mg x=some (.ref C)
def ML (P:Program)(w:World)(K:W.Frag)(mg:Str->Qf)(base:Heap)(f:Addr)(ps:Qh)(k:Nat)(sp:Sp):Prop := ∃fd,Vp K fd ps []/\FnOk P w K mg base CX0 k f fd ps sp
section
variable {P:Program}{w:World}{K:W.Frag}{mg:Str->Qf}{base:Heap}{N:Qh}{qual:Str}{scope:Scope}{f f0:Addr}{cd:Value}{A:Around}{outer:List Env}{s0:Shared}{H0:Hp}{Y C:Addr}{RR:Addr->Qj->Hp->Prop}
def SB {x:Str}{p pos pos':Pos}{e:Expr}{es:Qi}{t:TA}{ps:Qh}{j k:Nat}{sp:Sp}(c:XC K mg x Y C f)(ci:ML P w K mg base f ps j sp)(hst:VT C RR)(hr:Room k (cx1 P w K mg base N qual scope f0 cd A outer s0 H0 (XE C RR)).A)
 (ha:PA (cx1 P w K mg base N qual scope f0 cd A outer s0 H0 (XE C RR)) (e::es) t) (hj:j+1<=k:=by walk_at"j") (hg:Gl (cx1 P w K mg base N qual scope f0 cd A outer s0 H0 (XE C RR)) x:=by rfl)
 (hdb:(x==("__debug__" : Str))=false:=by decide) (he:starEach (e::es) (cx1 P w K mg base N qual scope f0 cd A outer s0 H0 (XE C RR)).env=(false,eval e (cx1 P w K mg base N qual scope f0 cd A outer s0 H0 (XE C RR)).env)::starEach es (cx1 P w K mg base N qual scope f0 cd A outer s0 H0 (XE C RR)).env:=by rfl)
 (hpl:(backTo pos (starEach es (cx1 P w K mg base N qual scope f0 cd A outer s0 H0 (XE C RR)).env)).any (·.1)=false:=by rfl) :
 PS (cx1 P w K mg base N qual scope f0 cd A outer s0 H0 (XE C RR)) (.Raise (some (.Call (.Name x p) (e::es) [] pos)) none pos') (sXR C (M4 C sp E0 t) RR):=by
 obtain⟨fd,hb,F⟩:=ci;exact Cj c.cl rfl (Ci c.cl c.kp F (hr.mono hj) hg c.m hb J5 ha hdb he hpl) (fun Xa1 σ H s a dct I he r=>Cp hst I he r)
end
section
variable {K:W.Frag}{ρ:Q1}{ta tb:TE}{t:TA}
end
def Dh (D:Ends)(j:Nat):Ends:={ nx:=fun σ H=>D.nx (σ.set j none) H,rt:=fun _ _=>False }
def Oo (X:Cx)(E:XK)(pn:Qc)(v:Value)(s:Shared):Prop := ∃(σ:St) (H:Hp) (dct:Qj),Qr { X with pn:=pn } [] σ H s/\E v dct H
abbrev Dz (X:Cx)(E:XK)(pn:Qc):Cx:={ X with pn:=pn,xe:=Oo X E pn }
section
variable {X:Cx}{Xa1:Qc}{σ:St}{H:Hp}{s:Shared}{C:Addr}{th:TS}{D:Ends}
def SE {E:XK}{pn:Qc}:Yl (CX1 X.prog X.w) (Dz X E pn) E:=by
 intro Xa1 σ H s v s' I h;obtain⟨dct,H',os,bare,un,hok,hE⟩:=h;obtain⟨hh,g,d,t,os'⟩:=s';obtain rfl:os'=s.os:=os;have I2:=I.call (h':=hh) (g':=g) (d':=d) (t':=t) (ch:=[]) un hok bare (fun b z=>nomatch z)
 exact⟨σ,H',dct,(I2.unwish (X:={ X with pn:=pn })).pins_of (fun p hp=>by cases hp),hE⟩
end
section
variable {X:Cx}{C B:Addr}{th:TS}{tb:Ends->TS}{body suite:List Stmt}{b0:Stmt}{x n:Str}{j:Nat}{np hpos pos:Pos}{rest:List ExceptHandler}
end
end L2
section
namespace L2
open PySem PySem.Spec PyProof.Rows
section
variable {K:W.Frag}{ρ:Q1}{D:PEnds}
def QB.setN {H0 F H:Hp}{σ:St}{r:Nat}(u:Option V)(s:QB K H0 F ρ σ H):QB K H0 F (ρ.set r none) (σ.set r u) H:=by
 obtain⟨kt,h1,h2,fp,h3,h4,h5⟩:=s;refine⟨kt,h1,by simp[h2],fp,fun j t e=>?_,h4,h5⟩
 by_cases z:r=j
 ·subst z
  by_cases l:r<ρ.length
  ·rw[Xo l]at e;cases e
  ·rw[Mz.mpr (by simp;omega)]at e;cases e
 ·rw[Xx z]at e ⊢
  exact h3 j t e
end
end L2
end
namespace L2
open PySem PySem.Spec PyProof.Rows
section
open PySem.W
variable {prog:Program}{w:World}{A:Around}{E:Qb}{s:Shared}{K:Frag}{x C:Addr}{ox:Obj}{od:Option Obj}{name:Str}{tk:Tok}{fill expr:Bool}
structure Um (K:Frag)(C:Addr):Prop where
 ga:findIn K (.ref C) "__getattribute__"=some (some (.builtin "BaseException.__getattribute__"))
 gt:findIn K (.ref C) "__getattr__"=some none
 mb:mroIn K C (.type "BaseException")=some true
def SZ {Q:Unit->Shared->Prop} {M:Model} {nameV:Value} (c:Um K C) (X:K.In s.heap) (I:InstAt s.heap x ox C od) (hq:Q () s):wpAny M A (checkBuiltinCall "BaseException.__getattribute__" ⟨[.ref x,nameV],[]⟩) Q E s:=by
 have hk:builtinKind "BaseException.__getattribute__"=some .slot:=by decide +kernel
 have hsplit:splitId "BaseException.__getattribute__"=some ("BaseException","__getattribute__"):=by decide +kernel
 have ha:=F.args_bexc_ga (.ref x) nameV;have L0:=I.type (M:=M);have L1:=looks_mroIn (M:=M) X c.mb;simp only[checkBuiltinCall,hk,hsplit];obtain⟨hh,g,d,t,os⟩:=s;refine Xa ((L0.andThen L1).at ?_)
 repeat (any_goals (first|assumption|wp_step))
def RX {Q:Qb}(c:Um K C)(X:K.In s.heap)(I:InstAt s.heap x ox C od)
 (h:codeAny (model prog w) A (.call (.builtin "BaseException.__getattribute__") ⟨[.ref x,.str name tk],[]⟩) (fun r s'=>∃v,r=.ok (.ret v)/\wpAny (model prog w) A (handedOut v) Q E s') s) :
 wpAny (model prog w) A (getAttrBy (.ref x) (.str name tk) fill expr) Q E s:=by
 have f3:=F.excAttr_ValueError.ga.bind (.ref x);have hx0:(expr&&onTheHeap (Value.builtin "BaseException.__getattribute__"))=false:=by cases expr<;>rfl
 have hx2:(Value.builtin "BaseException.__getattribute__" == Value.builtin "object.__getattribute__")=false:=by decide +kernel
 have hx1:(onTheHeap (Value.ref C)&&Value.builtin "BaseException.__getattribute__" == Value.builtin "object.__getattribute__")=false:=by rw[hx2];rfl
 obtain⟨hh,g,d,t,os⟩:=s;have L0:=I.type (M:=model prog w);have L1:=looks_findIn (M:=model prog w) X c.ga;have L2:=looks_findIn (M:=model prog w) X c.gt;unfold getAttrBy;refine wpAny_holding (Xa (L0.at (Xa (L1.at ?_))));dsimp only;rw[hx1,Xb Xv];unfold getAttrByItsOwn;refine Xa (L2.at ?_);refine Xa (wpAny_attempt (wpAny_holding ?_));unfold callGetattribute;rw[hx0,Xb Xv];unfold boundAndCalled;rw[f3];refine Xa (Xn ?_);refine wpAny_call (codeAny_mono h fun r s' hq=>?_);obtain⟨v,rfl,hq⟩:=hq;exact hq
def Ar {Q:Qb}{v:Value}(c:Um K C)(X:K.In s.heap)(I:InstAt s.heap x ox C od)(hf:findObj K C od name=some (.value v))(hh:handedIn v=true)(h:Q v { s with toks:=s.toks+1 }):wpAny (model prog w) A (getAttr (.ref x) name expr) Q E s:=by
 unfold getAttr;refine Xa (wpAny_mkText (RX (s:={ s with toks:=s.toks+1 }) c X I (codeAny_call_builtin F.excAttr_ValueError.ga.plain F.entry_bexc_ga (SZ c X I ?_))));obtain⟨hh',g,d,t,os⟩:=s;have L0:=I.type (M:=model prog w);have L1:=looks_find (M:=model prog w) X I hf;refine Xa (Xn (Xa (Xn (Xa (L0.at (Xa (L1.at ?_)))))));refine Xn ⟨v,rfl,?_⟩;rw[handedOut_of hh];exact Xn h
def AD {Q:Qf->Shared->Prop} {od:Obj} (c:Um K C) (hdct:hasDictIn K C=true) (ha:findIn K (.ref C) "__class__"=some (some (.builtin "object.__class__")))
 (hn:specialIn K (.builtin "object.__class__") "__get__"=some (some (.builtin "getset_descriptor.__get__"))) (htk:takesIn K (.builtin "object.__class__")=some true) (hm:mroIn K C (.type "object")=some true)
 (X:K.In s.heap) (I:InstAt s.heap x ox C (some od)) (h:Q (some (.ref C)) { s with toks:=s.toks+1 }):wpAny (model prog w) A (getAttr? (.ref x) "__class__") Q E s:=by
 have hf:findObj K C (some od) "__class__"=some (.bind (.builtin "getset_descriptor.__get__") (.builtin "object.__class__")):=findObj_data (by obtain⟨cd,hc,_⟩:=any_some hdct;rw[hc];rfl) ha hn htk;unfold getAttr? getAttrBy?;refine Xa (wpAny_mkText (Xa (wpAny_attempt (RX (s:={ s with toks:=s.toks+1 }) c X I (codeAny_call_builtin F.excAttr_ValueError.ga.plain F.entry_bexc_ga (SZ c X I ?_))))));obtain⟨hh',g,d,t,os⟩:=s;have L0:=I.type (M:=model prog w);have L1:=looks_find (M:=model prog w) X I hf;refine Xa (Xn (Xa (Xn (Xa (L0.at (Xa (L1.at ?_)))))));show wpAny _ _ (holding [_] (call _ [_,_,_]) >>= ret) _ _ _;refine Xa (wpAny_holding (wpAny_call (class_get (s:=⟨hh',g,d,t+1,os⟩) (ox:=ox) (od:=some od) X I hm ?_)));exact Xn ⟨_,rfl,Xn (Xn h)⟩
theorem C9 {od:Obj} (c:Um K C) (hdct:hasDictIn K C=true) (ha:findIn K (.ref C) "__class__"=some (some (.builtin "object.__class__")))
 (hn:specialIn K (.builtin "object.__class__") "__get__"=some (some (.builtin "getset_descriptor.__get__"))) (htk:takesIn K (.builtin "object.__class__")=some true) (hm:mroIn K C (.type "object")=some true) :
 KitX K (.ref x) (.ref C) (fun h=>InstAt h x ox C (some od)) where
 ty:=fun _ _ _ I=>I.type
 it:=fun _ _ X _=>by
  obtain⟨cdD,hcD,_⟩:=any_some hdct;unfold clsIn at hcD;split at hcD
  ·rename_i c' d' cd' sl' ho
   intro A' Q' E' s' k q;unfold isType loadHead;exact Xa (wpAny_loadPart (k _ _ (X _ _ ho)) (Xn q))
  ·cases hcD
 ne:=fun h tp dd its n sl X htp=>by
  obtain⟨cdD,hcD,_⟩:=any_some hdct;refine Bool.eq_false_iff.mpr fun q=>?_;have e:C=tp:=Value.ref.inj (beq_iff_eq.mp q);subst e;unfold clsIn at hcD;split at hcD
  ·rename_i c' d' cd' sl' ho
   have z:=(X _ _ ho).symm.trans htp
   cases z
  ·cases hcD
 ca:=fun X I k=>AD c hdct ha hn htk hm X I k
end
def tXG (C:Addr)(ta:TE)(f:Str):TE:=fun σ H Q=>ta σ H fun x H1=>∃e dx T v,x=.ref e/\H1 e=some (.ext (phF C e (some dx) T))/\H1 dx=some (.xd [(f,v)])/\Q v H1
structure PJ (K:W.Frag)(C:Addr):Prop where
 ga:Um K C
 hd:W.hasDictIn K C=true
section
variable {X:Cx}{e:Expr}{ta:TE}{f:Str}{C:Addr}{pos:Pos}
def NN {H:Hp}{Xa1:Qc}{σ:St}{s:Shared}(I:Qr X Xa1 σ H s){a dx T:Addr}{fs:List (Str×V)}(h1:H a=some (.ext (phF C a (some dx) T)))(h2:H dx=some (.xd fs)) :
 ∃(mA:Str->Qf) (ox od:Obj),W.InstAt s.heap a ox C (some od)/\(∀name,W.lookIn name od=some (mA name))/\∀f,ZM (fs.lookup f) (mA f):=by
 obtain⟨⟨vs,sl,hx,_⟩,_,_⟩:=I.hok a _ h1;obtain⟨mA,n,r⟩:=(show Z7 X.prog X.w H s.heap dx (.xd fs) from I.hok dx _ h2);obtain⟨od,ho,hl⟩:=Pb n
 exact⟨mA,_,od,⟨hx,rfl,rfl,ho⟩,hl,r⟩
def Rz (c:PJ X.K C)(n:VE X.K C f)(he:PE X e ta)(hb:attributeBase e f X.env (eval e X.env)=eval e X.env:=by rfl):PE X (.Attribute e f pos) (tXG C ta f):=by
 intro Xa1 s σ H Q I h;refine R3 hb (Q6 (he Xa1 s σ H _ I h) fun u s1 ⟨x,H1,I1,rx,a,dx,T,v,ex,ea,ed,q⟩=>?_);subst ex;obtain rfl:u=Value.ref a:=rx;obtain⟨mA,ox,od,J,hl,r⟩:=NN I1 ea ed;obtain⟨u,hu,ru⟩:=ZM.some_of (v:=v) (o:=mA f) (by have:=r f;simpa [List.lookup] using this);exact Ar c.ga I1.kIn J (W.findObj_own c.hd n rfl (by rw[hl,hu])) (Sx ru) ⟨v,H1,I1.tok _,ru,q⟩
def Bn:V->Qf
 |.ref a=>some (.ref a)
 |.ty t=>some (.type t)
 |_=>none
structure PH (K:W.Frag)(C:Addr):Prop where
 ga:Um K C
 hd:W.hasDictIn K C=true
 fc:W.findIn K (.ref C) "__class__"=some (some (.builtin "object.__class__"))
 sp:W.specialIn K (.builtin "object.__class__") "__get__"=some (some (.builtin "getset_descriptor.__get__"))
 tk:W.takesIn K (.builtin "object.__class__")=some true
 mo:W.mroIn K C (.type "object")=some true
def YJ (K:W.Frag)(C:Addr):List V->Hp->VK->Prop:=fun xs H Q=>∃x c cv b,xs=[x,c]/\Bn c=some cv /\
 ((∃e dx T fs,x=.ref e/\H e=some (.ext (phF C e (some dx) T))/\H dx=some (.xd fs)/\W.kitOne K (.ref C) cv=some b)\/(x=.non/\W.kitOne K (.type "NoneType") cv=some b))/\Q (.bl b) H
def WX (c:PH X.K C):Z0 X (.builtin "isinstance") (YJ X.K C):=by
 intro Xa1 s σ H xs us Q I r h;obtain⟨x,cc,cv,b,rfl,hcv,hx,q⟩:=h;obtain⟨u,w,rfl,ru,rw'⟩:=Bt r
 have ew:w=cv:=by
  cases cc<;>simp[Bn]at hcv
  ·subst hcv;exact rw'
  ·subst hcv;exact rw'
 subst ew;rcases hx with ⟨e,dx,T,fs,rfl,h1,h2,hk⟩|⟨rfl,hk⟩
 ·obtain rfl:u=Value.ref e:=ru
  obtain⟨mA,ox,od,J,_⟩:=NN I h1 h2;exact W.kia_one (C9 c.ga c.hd c.fc c.sp c.tk c.mo) I.kIn J hk (by intro z;cases z) fun tk=>⟨.bl b,H,I.tok tk,rfl,q⟩
 ·obtain rfl:u=Value.none:=ru
  exact W.kia_one W.kitx_none I.kIn trivial hk (by intro z;cases z) fun tk=>⟨.bl b,H,I.tok tk,rfl,q⟩
end
def WM (C:Addr)(f:Str)(ds:Qd)(e dx q:Addr):OwnP where
 ok:=fun K F H v p=>p=[e,dx,q]/\(F e=none/\F dx=none/\F q=none)/\(∃T,H e=some (.ext (phF C e (some dx) T)))/\H dx=some (.xd [(f,.ref q)])/\∃xs,H q=some (.lst xs)/\Qv F xs ds
 there:=fun{K F H v p} h a ha=>by
  obtain⟨rfl,⟨f1,f2,f3⟩,⟨T,h1⟩,h2,xs,h3,_⟩:=h
  rcases Xg.mp ha with rfl|ha
  ·exact⟨f1,Zy h1⟩
  ·rcases Xg.mp ha with rfl|ha
   ·exact⟨f2,Zy h2⟩
   ·rcases Xg.mp ha with rfl|ha
    ·exact⟨f3,Zy h3⟩
    ·cases ha
 mono:=fun{K F F' H H' v p} s hF hH h=>by
  obtain⟨rfl,⟨f1,f2,f3⟩,⟨T,h1⟩,h2,xs,h3,r⟩:=h;have m1:e∈[e,dx,q]:=Xc;have m2:dx∈[e,dx,q]:=Xe _ Xc;have m3:q∈[e,dx,q]:=Xe _ (Xe _ Xc)
  exact⟨rfl,⟨hF _ m1,hF _ m2,hF _ m3⟩,⟨T,(hH _ m1).trans h1⟩,(hH _ m2).trans h2,xs,(hH _ m3).trans h3,r.mono s⟩
 uniq:=fun{K F H v p p'} h h' a ha=>by
  obtain⟨rfl,_⟩:=h;obtain⟨rfl,_⟩:=h';exact ha
def RK {C e:Addr}{dct:Qj}{H H':Hp}(h:Lefts C e dct H H'){b:Addr}{o:HO}(hb:b≠e)(ho:H b=some o):H' b=some o:=by
 induction h with
 |nil=>exact ho
 |@step H1 T h1 hT hTe ih =>
   have n2:b≠T:=fun z=>by subst z;rw[hT]at ih;cases ih
   unfold left;rw[Qu n2,Qu hb];exact ih
section
variable {K:W.Frag}{ρ:Q1}{C:Addr}{f:Str}{th:TS}{tb:Ends->TS}{D:PEnds}{n i j:Nat}{ta tb':TE}
variable {ds:Qd}{e dx q:Addr}
def QB.exc {H0 F H:Hp}{σ:St}{v:V}(S:QB K H0 F ρ σ H)(h:ρ[i]?=some (some (.own v (WM C f ds e dx q)))):σ[i]?=some (some v)/\(∃T,H e=some (.ext (phF C e (some dx) T)))/\H dx=some (.xd [(f,.ref q)])/\(∃xs,H q=some (.lst xs)/\Qv F xs ds)/\F q=none/\H0 q=none:=by
 obtain⟨kt,h1,h2,fp,h3,h4,h5⟩:=S;obtain⟨u,e1,hu,hp,⟨f1,f2,f3⟩,hT,hd,hq⟩:=h3 i _ h;subst hu;exact⟨e1,hT,hd,hq,f3,(h5 i q (by rw[hp];exact Xe _ (Xe _ Xc))).1⟩
def Ds {c:V}{cv:Value}{b:Bool}(h:ρ[i]?=some (some (.own (.ref e) (WM C f ds e dx q))))(hc:Bn c=some cv)(hk:W.kitOne K (.ref C) cv=some b):Qt K (tCB (YJ K C) (QE (Q8 i) (QE (tC c) QN))) ρ (.bool b):=fun H0 F σ H Q S k=>by
 obtain⟨e1,⟨T,h1⟩,h2,_⟩:=S.exc h
 exact⟨.ref e,e1,.ref e,c,cv,b,rfl,hc,.inl ⟨e,dx,T,_,rfl,h1,h2,hk⟩,k F H _ (Q0.refl S.sub) (.bl b)⟩
end
end L2
section
namespace L2
open PySem PySem.Spec PyProof.Rows
def Bu (lo hi st:Option Int)(n:Nat):Qk:=sliceRange (sliceBounds lo hi st n).1 (sliceBounds lo hi st n).2.1 (sliceBounds lo hi st n).2.2
def Yi {α:Type}(xs:List α)(lo hi st:Option Int):List α:=(Bu lo hi st xs.length).filterMap fun i=>xs[i]?
def IW (its:Qe)(lo hi st:Option Int):slicePick its.toArray lo hi st=(Yi its lo hi st).toArray:=by
 unfold slicePick Yi Bu;simp
def QK.at {xs:List V}{us:Qe}(r:QK xs us):∀i:Nat,(xs[i]?=none/\us[i]?=none)\/∃x u,xs[i]?=some x/\us[i]?=some u/\QL x u:=by
 induction r with
 |nil=>intro i;exact .inl ⟨rfl,rfl⟩
 |cons a b ih =>
   intro i;cases i with
   |zero=>exact .inr ⟨_,_,rfl,rfl,a⟩
   |succ i=>exact ih i
theorem QK.picks {xs:List V}{us:Qe}(r:QK xs us):∀is:Qk,QK (is.filterMap fun i=>xs[i]?) (is.filterMap fun i=>us[i]?)
 |[]=>.nil
 |i::is=>by
   rcases QK.at r i with ⟨a,b⟩|⟨x,u,a,b,c⟩
   ·rw[Mx a,Mx b];exact QK.picks r is
   ·rw[Mw a,Mw b];exact .cons c (QK.picks r is)
def MG (K:W.Frag)(te:TE)(tl th ts:TO):TE:=fun σ H Q=>te σ H fun x H1=>tl σ H1 fun l H2=>th σ H2 fun u H3=>ts σ H3 fun st H4=>st≠some 0/\∃a xs,x=.ref a/\SqL K H4 a xs/\∀p,H4 p=none->Q (.ref p) (upd H4 p (.lst (Yi xs l u st)))
section
variable {X:Cx}{e:Expr}{te:TE}{lo hi:Option Expr}{se:Expr}{tl th ts:TO}{pos p2:Pos}
def A7 (he:PE X e te)(hl:PO X lo tl)(hu:PO X hi th)(ht:PO X (some se) ts):PE X (.Subscript e (.Slice lo hi (some se) p2) pos) (MG X.K te tl th ts):=by
 intro Xa1 s σ H Q I h;refine Subscript_ (Q6 (he Xa1 s σ H _ I h) fun v s1 ⟨x,H1,I1,r1,q1⟩=>?_);refine wpAny_Slice (Q6 (hl Xa1 s1 σ H1 _ I1 q1) fun vl s2 ⟨l,H2,I2,pl,q2⟩=>Q6 (hu Xa1 s2 σ H2 _ I2 q2) fun vu s3 ⟨u,H3,I3,pu,q3⟩=>Q6 (ht Xa1 s3 σ H3 _ I3 q3) fun vs s4 ⟨c,H4,I4,ps,q4⟩=>?_);obtain⟨h0,a,xs,rfl,hx,q⟩:=q4
 cases r1
 have I5:Qr X Xa1 σ H4 { s4 with heap:=s4.heap.push { cls:=.type "slice",data:=.fields #[vl,vu,vs] } }:=I4.kept (t':=s4.toks) fun b ob q=>Xf _ q;obtain⟨its,r,hi',hz⟩:=I5.list hx;have hlen:=r.length;refine tail_any (ops:=[.ref a,.ref s4.heap.objs.size]) hi'.isList.typeIs slot_list_getitem.lookup ?_ (by with_unfolding_all rfl);refine wpAny_getItem_list_slice hi'.isList (Heap.IsSliceOf.new ..) pl pu ps h0 ?_ (by rw[Xw]<;>omega);have le:=slicePick_size_le its.toArray l u c;rw[IW]at le ⊢;refine⟨.ref _,_,I5.laid (t':=s4.toks) (o:=.lst (Yi xs l u c)) (fun b ob q=>Xf _ q) (Xu _) ?_,rfl,q _ (I5.hok.fresh (Xu _))⟩;have e:Yi its l u c=(Bu l u c xs.length).filterMap fun i=>its[i]? := by unfold Yi;rw[<- hlen]
 have rr:QK (Yi xs l u c) (Yi its l u c):=by rw[e];exact QK.picks r _
 have l1:=rr.length
 simp at le
 exact⟨by omega,_,0,rr,Xy _ rfl⟩
end
section
variable {K:W.Frag}{ρ:Q1}{te:TE}
theorem Qv.picks {F:Hp}{xs:List V}{ds:Qd}(r:Qv F xs ds):∀is:Qk,(Qv F (is.filterMap fun i=>xs[i]?) (is.filterMap fun i=>ds[i]?))
 |[]=>.nil
 |i::is=>by
   cases e:ds[i]? with
   |none =>
     have e2:xs[i]?=none:=by
      have:=r.length
      rw[Mz]at e ⊢;omega
     rw[Mx e,Mx e2];exact Qv.picks r is
   |some d =>
     obtain⟨v,e2,rv⟩:=r.get e;rw[Mw e,Mw e2];exact .cons rv (Qv.picks r is)
def Le {tl th ts:TO}{ds:Qd}{lo hi st:Option Int}(h:Qt K te ρ (.list ds))(h1:EvP K tl ρ lo)(h2:EvP K th ρ hi)(h3:EvP K ts ρ st)(h0:st≠some 0):EvO K (MG K te tl th ts) ρ (.ol (Yi ds lo hi st)):=fun H0 F σ H Q S q =>
 h H0 F σ H _ S fun F1 H1 v x1 r1=>h1 H0 F1 σ H1 _ (S.ext x1) fun F2 H2 x2=>h2 H0 F2 σ H2 _ (S.ext (x1.trans x2)) fun F3 H3 x3=>h3 H0 F3 σ H3 _ (S.ext (x1.trans (x2.trans x3))) fun F4 H4 x4=>by
  have x:=x1.trans (x2.trans (x3.trans x4));obtain⟨a,xs,rfl,g1,g2,g3⟩:=Wx (K:=K) (r1.mono (x2.trans (x3.trans x4)).ff) x.fh;refine⟨h0,a,xs,rfl,g1,fun p hp=>?_⟩
  have rp:Qv F4 (Yi xs lo hi st) (Yi ds lo hi st):=by
   unfold Yi;rw[g2.length];exact g2.picks _
  obtain⟨z1,z2,z3⟩:=WY (K:=K) x hp rp;exact q _ _ _ _ z1 z2 z3
end
section
variable {X:Cx}
end
section
variable {X:Cx}
end
section
variable {K:W.Frag}{ρ:Q1}{ta tb:TE}{D:PEnds}
end
end L2
end
namespace L2
open PySem PySem.Spec PyProof.Rows
section
variable {prog:Program}{w:World}{A:Around}{E:Qb}{s:Shared}
end
section
variable {prog:Program}{w:World}{A:Around}{R:Result->Shared->Prop}{E:Qb}{s:Shared}
end
section
variable {prog:Program}{w:World}{A:Around}{E:Qb}{s:Shared}
end
end L2
set_option maxHeartbeats 8000000
namespace L2
open PySem PySem.Spec PyProof.Rows
section
variable {prog:Program}{w:World}{A:Around}{E:Qb}{s:Shared}
end
end L2
set_option maxHeartbeats 8000000
namespace L2
open PySem PySem.Spec PyProof.Rows
end L2
set_option maxHeartbeats 8000000
namespace L2
open PySem PySem.Spec PyProof.Rows
section
variable {prog:Program}{w:World}{A:Around}{E:Qb}{s:Shared}
end
end L2
set_option maxHeartbeats 8000000
namespace L2
open PySem PySem.Spec PyProof.Rows
section
variable {prog:Program}{w:World}{A:Around}{E:Qb}{s:Shared}
end
end L2
set_option maxHeartbeats 8000000
namespace L2
open PySem PySem.Spec PyProof.Rows
section
variable {prog:Program}{w:World}{A:Around}{E:Qb}{s:Shared}
end
section
variable {X:Cx}
end
section
variable {K:W.Frag}{ρ:Q1}{ta:TE}{X X':Cx}{p:Qm}
end
end L2
section
namespace L2
open PySem PySem.Spec PyProof.Rows
section
variable {X:Cx}
end
section
variable {K:W.Frag}{ρ:Q1}{te ti:TE}{D:PEnds}
end
end L2
end
namespace L2
open PySem PySem.Spec PyProof.Rows
def P8:bootBuiltins "ValueError"=some (.type "ValueError"):=by decide +kernel
end L2
section
namespace L2
open PySem PySem.Spec PyProof.Rows
abbrev ZF:=List (Key×PyData)
def Yr (kvs:ZF)(k:Key):Option PyData:=(kvs.find? fun kv=>decide (kv.1=k)).map (·.2)
def MS (kvs:ZF)(k:Key)(d:PyData):ZF:=if (kvs.any fun kv=>decide (kv.1=k))=true then kvs.map (fun kv=>if kv.1=k then (kv.1,d) else kv) else kvs++[(k,d)]
inductive PairK (F:Hp):List (Key×V)->ZF->Prop
 |nil:PairK F [] []
 |cons {k:Key} {x:V} {d:PyData} {xs:List (Key×V)} {kvs:ZF}:Rep F x d->PairK F xs kvs->PairK F ((k,x)::xs) ((k,d)::kvs)
theorem PairK.mono {F F':Hp}(s:Q4 F F'):∀{xs:List (Key×V)} {kvs:ZF},PairK F xs kvs->PairK F' xs kvs
 |_,_,.nil=>.nil
 |_,_,.cons r t=>.cons (r.mono s) (t.mono s)
theorem PairK.length {F:Hp}:∀{xs:List (Key×V)} {kvs:ZF},PairK F xs kvs->xs.length=kvs.length
 |_,_,.nil=>rfl
 |_,_,.cons _ t=>by simp[t.length]
theorem PairK.val {F:Hp}(k:Key):∀{xs:List (Key×V)} {kvs:ZF},PairK F xs kvs->(Zs xs k=none/\Yr kvs k=none)\/∃x d,Zs xs k=some x/\Yr kvs k=some d/\Rep F x d
 |_,_,.nil=>.inl ⟨rfl,rfl⟩
 |_,_,.cons (k:=k') (x:=x) (d:=d) (xs:=xs) (kvs:=kvs) r t=>by
   by_cases e:k'=k
   ·exact .inr ⟨x,d,YF e,by simp[Yr,XB,e],r⟩
   ·have q:Yr ((k',d)::kvs) k=Yr kvs k:=by simp[Yr,XB,e]
    rw[YG (p:=(k',x)) e,q];exact t.val k
theorem PairK.any {F:Hp}(k:Key):∀{xs:List (Key×V)} {kvs:ZF},PairK F xs kvs->(xs.any fun kv=>decide (kv.1=k))=(kvs.any fun kv=>decide (kv.1=k))
 |_,_,.nil=>rfl
 |_,_,.cons _ t=>by simp[t.any k]
theorem PairK.mapP {F:Hp}(k:Key){y:V}{d:PyData}(r:Rep F y d):∀{xs:List (Key×V)} {kvs:ZF},PairK F xs kvs->PairK F (xs.map fun kv=>if kv.1=k then (kv.1,y) else kv) (kvs.map fun kv=>if kv.1=k then (kv.1,d) else kv)
 |_,_,.nil=>.nil
 |_,_,.cons (k:=k') r' t=>by
   rw[Xs,Xs];by_cases e:k'=k
   ·simp only[e,if_true]
    exact .cons r (t.mapP k r)
   ·simp only[e,if_false]
    exact .cons r' (t.mapP k r)
theorem PairK.snoc {F:Hp}(k:Key){y:V}{d:PyData}(r:Rep F y d):∀{xs:List (Key×V)} {kvs:ZF},PairK F xs kvs->PairK F (xs++[(k,y)]) (kvs++[(k,d)])
 |_,_,.nil=>.cons r .nil
 |_,_,.cons r' t=>.cons r' (t.snoc k r)
def PairK.put {F:Hp}(k:Key){y:V}{d:PyData}(r:Rep F y d){xs:List (Key×V)}{kvs:ZF}(t:PairK F xs kvs):PairK F (VP xs k y) (MS kvs k d):=by
 unfold VP MS;rw[t.any k];split
 ·exact t.mapP k r
 ·exact t.snoc k r
section
variable {K:W.Frag}{ρ:Q1}{te ty tv:TE}{D:PEnds}{i:Nat}{v:V}{kvs:ZF}{k:Key}{d:PyData}
end
section
variable {K:W.Frag}{ρ:Q1}{ty:TE}{D:PEnds}{i:Nat}{k:Key}
end
structure HandS where
 yard:PyData
 now:Int
 known:Qd
 given:Ql
 gone:ZF
 made:List ZF
inductive MadeD (F H:Hp):Qg->List ZF->Prop
 |nil:MadeD F H [] []
 |cons {a:Addr} {xs:List (Key×V)} {kvs:ZF} {as:Qg} {ms:List ZF}:F a=none->H a=some (.dK xs)->PairK F xs kvs->MadeD F H as ms->MadeD F H (a::as) (kvs::ms)
theorem MadeD.mem {F H:Hp}:∀{as:Qg} {ms:List ZF},MadeD F H as ms->∀a∈as,F a=none/\H a≠none
 |_,_,.nil,a,ha=>nomatch ha
 |_,_,.cons h1 h2 _ t,a,ha=>by
   rcases Xg.mp ha with rfl|ha
   ·exact⟨h1,Zy h2⟩
   ·exact t.mem a ha
theorem MadeD.mono {F F' H H':Hp}(s:Q4 F F'):∀{as:Qg} {ms:List ZF},(∀a∈as,F' a=none)->(∀a∈as,H' a=H a)->MadeD F H as ms->MadeD F' H' as ms
 |_,_,_,_,.nil=>.nil
 |_,_,hF,hH,.cons h1 h2 h3 t=>.cons (hF _ Xc) (by rw[hH _ Xc];exact h2) (h3.mono s) (t.mono s (fun a ha=>hF a (Xe _ ha)) (fun a ha=>hH a (Xe _ ha)))
def MadeD.other {F H:Hp}{b:Addr}{o:HO}{as:Qg}{ms:List ZF}(h:MadeD F H as ms)(n:b∉as):MadeD F (upd H b o) as ms :=
 h.mono (Q4.refl _) (fun a ha=>(h.mem a ha).1) (fun a ha=>Qu fun z=>n (z▸ha))
inductive MadeZ (F:Hp):Qg->List ZF->Prop
 |nil:MadeZ F [] []
 |cons {a:Addr} {xs:List (Key×V)} {kvs:ZF} {as:Qg} {ms:List ZF}:F a=some (.dK xs)->PairK F xs kvs->MadeZ F as ms->MadeZ F (a::as) (kvs::ms)
theorem MadeZ.mono {F F':Hp}(s:Q4 F F'):∀{as:Qg} {ms:List ZF},MadeZ F as ms->MadeZ F' as ms
 |_,_,.nil=>.nil
 |_,_,.cons h1 h2 t=>.cons (s _ _ h1) (h2.mono s) (t.mono s)
theorem MadeD.fz {F F' H:Hp}(s:Q4 F F'):∀{as:Qg} {ms:List ZF},(∀a∈as,F' a=H a)->MadeD F H as ms->MadeZ F' as ms
 |_,_,_,.nil=>.nil
 |_,_,he,.cons _ h2 h3 t=>.cons (by rw[he _ Xc];exact h2) (h3.mono s) (t.fz s fun a ha=>he a (Xe _ ha))
abbrev hfs (y:V) (n:Int) (k g d m:Addr):List (Str×V):=[("yard",y),("present",.int n),("known",.ref k),("given",.ref g),("gone",.ref d),("made",.ref m)]
structure HandOk (C:Addr)(N:HandS)(F H:Hp)(a dx k g d m:Addr)(y:V)(xs:List (Key×V))(as:Qg):Prop where
 nd:(a::dx::k::g::d::m::as).Nodup
 ins:F a=none/\H a=some (.ins C dx (hfs y N.now k g d m))
 own:F dx=none/\H dx=some (.own a)
 yd:Rep F y N.yard
 known:Vt F H k N.known
 given:Vt F H g (N.given.map PyData.int)
 gone:F d=none/\H d=some (.dK xs)/\PairK F xs N.gone
 made:F m=none/\H m=some (.lst (as.map V.ref))/\MadeD F H as N.made
def HandOk.mono {C:Addr}{N:HandS}{F F' H H':Hp}{a dx k g d m:Addr}{y:V}{xs:List (Key×V)}{as:Qg}(o:HandOk C N F H a dx k g d m y xs as)(s:Q4 F F')(hF:∀b∈a::dx::k::g::d::m::as,F' b=none)(hH:∀b∈a::dx::k::g::d::m::as,H' b=H b):HandOk C N F' H' a dx k g d m y xs as:=by
 obtain⟨nd,⟨i1,i2⟩,⟨o1,o2⟩,yd,⟨k1,kx,k2,k3⟩,⟨g1,gx,g2,g3⟩,⟨d1,d2,d3⟩,⟨m1,m2,m3⟩⟩:=o
 exact⟨nd,⟨hF _ (by simp),by rw[hH _ (by simp)];exact i2⟩,⟨hF _ (by simp),by rw[hH _ (by simp)];exact o2⟩,yd.mono s,⟨hF _ (by simp),kx,by rw[hH _ (by simp)];exact k2,k3.mono s⟩,⟨hF _ (by simp),gx,by rw[hH _ (by simp)];exact g2,g3.mono s⟩,
  ⟨hF _ (by simp),by rw[hH _ (by simp)];exact d2,d3.mono s⟩,⟨hF _ (by simp),by rw[hH _ (by simp)];exact m2,m3.mono s (fun b hb=>hF b (by simp[hb])) (fun b hb=>hH b (by simp[hb]))⟩⟩
def QQ (C:Addr)(N:HandS):OwnP where
 ok K F H v p := ∃a dx k g d m y xs as,v=.ref a/\p=a::dx::k::g::d::m::as/\HandOk C N F H a dx k g d m y xs as
 there:=by
  rintro K F H v p ⟨a,dx,k,g,d,m,y,xs,as,rfl,rfl,o⟩ b hb
  obtain⟨_,⟨i1,i2⟩,⟨o1,o2⟩,_,⟨k1,kx,k2,_⟩,⟨g1,gx,g2,_⟩,⟨d1,d2,_⟩,⟨m1,m2,m3⟩⟩:=o;simp only[Xg]at hb;rcases hb with rfl|rfl|rfl|rfl|rfl|rfl|hb
  ·exact⟨i1,Zy i2⟩
  ·exact⟨o1,Zy o2⟩
  ·exact⟨k1,Zy k2⟩
  ·exact⟨g1,Zy g2⟩
  ·exact⟨d1,Zy d2⟩
  ·exact⟨m1,Zy m2⟩
  ·exact m3.mem b hb
 mono:=by
  rintro K F F' H H' v p s hF hH ⟨a,dx,k,g,d,m,y,xs,as,rfl,rfl,o⟩
  exact⟨a,dx,k,g,d,m,y,xs,as,rfl,rfl,o.mono s hF hH⟩
 uniq:=by
  rintro K F H v p q ⟨a,dx,k,g,d,m,y,xs,as,rfl,rfl,o⟩ ⟨a',dx',k',g',d',m',y',xs',as',ev,rfl,o'⟩ c hc
  cases ev
  have i:=o.ins.2.symm.trans o'.ins.2;injection i with i;injection i with _ i1 i2;subst i1;simp only[hfs,List.cons.injEq,Prod.mk.injEq,true_and,and_true,V.ref.injEq]at i2;obtain⟨rfl,rfl,rfl,rfl,rfl⟩:=i2;have j:=o.made.2.1.symm.trans o'.made.2.1;injection j with j;injection j with j;rw[DM j];exact hc
structure HandFz (C:Addr)(N:HandS)(F:Hp)(a dx k g d m:Addr)(y:V)(ks gs:List V)(xs:List (Key×V))(as:Qg):Prop where
 ins:F a=some (.ins C dx (hfs y N.now k g d m))
 yd:Rep F y N.yard
 known:F k=some (.lst ks)/\Qv F ks N.known
 given:F g=some (.lst gs)/\Qv F gs (N.given.map PyData.int)
 gone:F d=some (.dK xs)/\PairK F xs N.gone
 made:F m=some (.lst (as.map V.ref))/\MadeZ F as N.made
def Zr (C:Addr)(N:HandS):ZP where
 ok K F v := ∃a dx k g d m y ks gs xs as,v=.ref a/\HandFz C N F a dx k g d m y ks gs xs as
 mono:=by
  rintro K F F' v s ⟨a,dx,k,g,d,m,y,ks,gs,xs,as,rfl,⟨h1,h2,⟨h3,h4⟩,⟨h5,h6⟩,⟨h7,h8⟩,⟨h9,h10⟩⟩⟩
  exact⟨a,dx,k,g,d,m,y,ks,gs,xs,as,rfl,s _ _ h1,h2.mono s,⟨s _ _ h3,h4.mono s⟩,⟨s _ _ h5,h6.mono s⟩,⟨s _ _ h7,h8.mono s⟩,⟨s _ _ h9,h10.mono s⟩⟩
def QQ.fz {C:Addr}{N:HandS}{K:W.Frag}{F F' H:Hp}{v:V}{p:Qg}(h:(QQ C N).ok K F H v p)(s:Q4 F F')(he:∀b∈p,F' b=H b):(Zr C N).ok K F' v:=by
 obtain⟨a,dx,k,g,d,m,y,xs,as,rfl,rfl,o⟩:=h;obtain⟨nd,⟨i1,i2⟩,⟨o1,o2⟩,yd,⟨k1,kx,k2,k3⟩,⟨g1,gx,g2,g3⟩,⟨d1,d2,d3⟩,⟨m1,m2,m3⟩⟩:=o
 exact⟨a,dx,k,g,d,m,y,kx,gx,xs,as,rfl,by rw[he _ (by simp)];exact i2,yd.mono s,⟨by rw[he _ (by simp)];exact k2,k3.mono s⟩,⟨by rw[he _ (by simp)];exact g2,g3.mono s⟩,⟨by rw[he _ (by simp)];exact d2,d3.mono s⟩,⟨by rw[he _ (by simp)];exact m2,m3.fz s fun b hb=>he b (by simp[hb])⟩⟩
structure HandC (K:W.Frag)(C:Addr):Prop where
 cl:Cls K C
 yd:VE K C "yard"
 pr:VE K C "present"
 kn:VE K C "known"
 gv:VE K C "given"
 go:VE K C "gone"
 md:VE K C "made"
def NoH (m:Str):Prop := ∀(y:V) (n:Int) (k g d e:Addr),(hfs y n k g d e).lookup m=none
section
variable {K:W.Frag}{ρ:Q1}{ty:TE}{D:PEnds}{i:Nat}{C:Addr}{N:HandS}{m:Str}
def QB.hz {H0 F H:Hp}{σ:St}(S:QB K H0 F ρ σ H)(e:ρ[i]?=some (some (.zow (Zr C N)))):∃a dx k g d m y ks gs xs as,σ[i]?=some (some (.ref a))/\HandFz C N F a dx k g d m y ks gs xs as:=by
 obtain⟨fp,h,_⟩:=S.fp;obtain⟨v,e1,_,a,dx,k,g,d,m,y,ks,gs,xs,as,rfl,h1⟩:=h i _ e
 exact⟨a,dx,k,g,d,m,y,ks,gs,xs,as,e1,h1⟩
def Mb (c:HandC K C) (e:ρ[i]?=some (some (.zow (Zr C N)))):Qt K (V3 K (Q8 i) "yard") ρ N.yard:=fun H0 F σ H Q S q=>by
 obtain⟨a,dx,k,g,d,m,y,ks,gs,xs,as,e1,o⟩:=S.hz e
 exact⟨_,e1,a,C,dx,_,y,rfl,S.sub _ _ o.ins,c.cl,c.yd,rfl,q F H y (Q0.refl S.sub) o.yd⟩
def Sv (c:HandC K C) (e:ρ[i]?=some (some (.zow (Zr C N)))):Qt K (V3 K (Q8 i) "present") ρ (.int N.now):=fun H0 F σ H Q S q=>by
 obtain⟨a,dx,k,g,d,m,y,ks,gs,xs,as,e1,o⟩:=S.hz e
 exact⟨_,e1,a,C,dx,_,.int N.now,rfl,S.sub _ _ o.ins,c.cl,c.pr,rfl,q F H _ (Q0.refl S.sub) (.int _)⟩
def GS (c:HandC K C) (e:ρ[i]?=some (some (.zow (Zr C N)))):Qt K (V3 K (Q8 i) "known") ρ (.list N.known):=fun H0 F σ H Q S q=>by
 obtain⟨a,dx,k,g,d,m,y,ks,gs,xs,as,e1,o⟩:=S.hz e
 exact⟨_,e1,a,C,dx,_,.ref k,rfl,S.sub _ _ o.ins,c.cl,c.kn,rfl,q F H _ (Q0.refl S.sub) (.lst o.known.1 o.known.2)⟩
def Pn (c:HandC K C) (e:ρ[i]?=some (some (.zow (Zr C N)))):Qt K (V3 K (Q8 i) "given") ρ (.list (N.given.map PyData.int)):=fun H0 F σ H Q S q=>by
 obtain⟨a,dx,k,g,d,m,y,ks,gs,xs,as,e1,o⟩:=S.hz e
 exact⟨_,e1,a,C,dx,_,.ref g,rfl,S.sub _ _ o.ins,c.cl,c.gv,rfl,q F H _ (Q0.refl S.sub) (.lst o.given.1 o.given.2)⟩
def SC {k:Key} (c:HandC K C) (hy:Qt K ty ρ (Gc k)) (e:ρ[i]?=some (some (.zow (Zr C N)))):Qt K (Bi ty (V3 K (Q8 i) "gone")) ρ (.bool (Yr N.gone k).isSome):=fun H0 F σ H Q S q =>
 hy H0 F σ H _ S fun F1 H1 y x1 r1=>by
  obtain⟨a,dx,kk,g,d,m,y',ks,gs,xs,as,e1,o⟩:=(S.ext x1).hz e;refine⟨_,e1,a,C,dx,_,.ref d,rfl,x1.fh _ _ o.ins,c.cl,c.go,rfl,?_⟩;rw[DP r1];refine⟨d,_,rfl,V1.k (x1.fh _ _ o.gone.1),?_⟩
  have hv:(Zs xs k).isSome=(Yr N.gone k).isSome:=by
   rcases o.gone.2.val k with ⟨z1,z2⟩|⟨x,d',z1,z2,_⟩
   ·rw[z1,z2];rfl
   ·rw[z1,z2];rfl
  rw[hv];exact q F1 H1 _ x1 (.bl _)
def JO {R:List OT->(OT->Prop)->Prop}{t:TA}{E:XK}{ts:List OT}{Φ:OT->Prop}(hm:NoH m)(e:ρ[i]?=some (some (.zow (Zr C N))))(h:Zw K t ρ ts)(hR:R (.zow (Zr C N)::ts) Φ) :
 Zv K (VR C m (Zl K R) [] E (Q8 i) t) ρ Φ:=fun H0 F σ H Q S q=>by
 obtain⟨a,dx,k,g,d,m',y,ks,gs,xs,as,e1,ok⟩:=S.hz e;refine⟨_,e1,a,dx,_,rfl,S.sub _ _ ok.ins,hm _ _ _ _ _ _,h H0 F σ H _ S fun F1 H1 vs x1 r1=>?_⟩
 exact⟨F1,_,Φ,(S.ext x1).kt,x1.fh,.zow (Ψ:=Zr C N) ((Zr C N).mono (K:=K) x1.ff ⟨a,dx,k,g,d,m',y,ks,gs,xs,as,rfl,ok⟩) (by rw[XD];exact r1),hR,fun F2 H2 v p r' hr x2 hp ok'=>q F2 H2 v p r' hr (x1.trans x2) (fun b hb=>x1.hh.free (hp b hb)) ok'⟩
def Ss {R:List OT->(OT->Prop)->Prop}{t:TA}{E:XK}{ts:List OT}{d:PyData}(hm:NoH m)(e:ρ[i]?=some (some (.zow (Zr C N))))(h:Zw K t ρ ts)(hR:R (.zow (Zr C N)::ts) (fun r=>r=.fz d)):Qt K (VR C m (Zl K R) [] E (Q8 i) t) ρ d:=EvO.e (Zv.o (JO hm e h hR))
def BR {t:TE}{v:V}{Φ:OT->Prop}(i:Nat)(e:ρ[i]?=some (some (.own v (QQ C N))))(hf:∀r,Φ r->Ut r)(h:Zv K t (ρ.set i (some (.zow (Zr C N)))) Φ):Zv K t ρ Φ :=
 RQ i e (fun a b c=>QQ.fz a b c) hf h
def DQ {t:TE}{v:V}{d:PyData}{u:V}(i:Nat)(e:ρ[i]?=some (some (.own v (QQ C N))))(hf:Zx d=some u)(h:Qt K t (ρ.set i (some (.zow (Zr C N)))) d):Qt K t ρ d :=
 EvO.e (Zv.o (BR (Φ:=fun r=>r=.fz d) i e (fun r hr=>by subst hr;exact GV hf) (h.o.d rfl)))
def RU {t:TT}{v:V}{b:Bool}(i:Nat)(e:ρ[i]?=some (some (.own v (QQ C N))))(h:Zg K t (ρ.set i (some (.zow (Zr C N)))) b):Zg K t ρ b:=fun H0 F σ H Q S q=>by
 obtain⟨p,hp,S'⟩:=S.freezeZ e (fun a b c=>QQ.fz a b c);exact h H0 _ σ H Q S' fun F' H' x=>q _ H' (JL (fun a ha=>⟨(hp a ha).1,(hp a ha).2.1⟩) x)
def QB.hand {v:V}{H0 F H:Hp}{σ:St}(S:QB K H0 F ρ σ H)(e:ρ[i]?=some (some (.own v (QQ C N)))) :
 ∃a dx k g d m y xs as,v=.ref a/\σ[i]?=some (some (.ref a))/\HandOk C N F H a dx k g d m y xs as/\(∀b∈a::dx::k::g::d::m::as,H0 b=none/\F b=none/\H b≠none) /\
  ∀(H':Hp) (N':HandS) (y':V) (xs':List (Key×V)) (as':Qg),Q4 F H'->(∀b,b∉a::dx::k::g::d::m::as->H b≠none->H' b=H b)->(∀b,H b≠none->H' b≠none) ->
   HandOk C N' F H' a dx k g d m y' xs' as'->(∀b∈as',b∈as\/(H b=none/\H0 b=none))->QB K H0 F (ρ.set i (some (.own v (QQ C N')))) σ H':=by
 obtain⟨e1,p,⟨a,dx,k,g,d,m,y,xs,as,rfl,rfl,ok⟩,hp,w'⟩:=S.writeOwn e;refine⟨a,dx,k,g,d,m,y,xs,as,rfl,e1,ok,hp,fun H' N' y' xs' as' h1 h2 h3 h4 h5=>w' H' _ _ h1 h2 h3 ⟨a,dx,k,g,d,m,y',xs',as',rfl,rfl,h4⟩ fun b hb=>?_⟩;simp only[Xg]at hb ⊢;rcases hb with h|h|h|h|h|h|hb
 ·exact .inl (.inl h)
 ·exact .inl (.inr (.inl h))
 ·exact .inl (.inr (.inr (.inl h)))
 ·exact .inl (.inr (.inr (.inr (.inl h))))
 ·exact .inl (.inr (.inr (.inr (.inr (.inl h)))))
 ·exact .inl (.inr (.inr (.inr (.inr (.inr (.inl h))))))
 ·rcases h5 b hb with z|z
  ·exact .inl (.inr (.inr (.inr (.inr (.inr (.inr z))))))
  ·exact .inr z
def HandOk.same {N':HandS}{F H F' H':Hp}{a dx k g d m dx' k' g' d' m':Addr}{y y':V}{xs xs':List (Key×V)}{as as':Qg}
 (ok:HandOk C N F H a dx k g d m y xs as) (ok':HandOk C N' F' H' a dx' k' g' d' m' y' xs' as') (s:H' a=H a):dx'=dx/\k'=k/\g'=g/\d'=d/\m'=m/\y'=y:=by
 have h:=ok'.ins.2;rw[s,ok.ins.2]at h;injection h with h;injection h with _ h1 h2;simp only[hfs,List.cons.injEq,Prod.mk.injEq,true_and,and_true,V.ref.injEq]at h2;obtain⟨z0,_,z1,z2,z3,z4⟩:=h2
 exact⟨h1.symm,z1.symm,z2.symm,z3.symm,z4.symm,z0.symm⟩
def HandOk.setKnown {F H:Hp}{a dx k g d m:Addr}{y:V}{xs:List (Key×V)}{as:Qg}(ok:HandOk C N F H a dx k g d m y xs as){ns:Qd}{zs:List V}(hr:Qv F zs ns) :
 HandOk C { N with known:=ns } F (upd H k (.lst zs)) a dx k g d m y xs as:=by
 obtain⟨nd,⟨i1,i2⟩,⟨o1,o2⟩,yd,⟨k1,kx,k2,k3⟩,⟨g1,gx,g2,g3⟩,⟨d1,d2,d3⟩,⟨m1,m2,m3⟩⟩:=ok;have nd':=nd;simp only[XO,Xg,not_or]at nd';obtain⟨⟨a1,a2,_⟩,⟨b1,_⟩,⟨c1,c2,c3,c4⟩,_⟩:=nd'
 exact⟨nd,⟨i1,by rw[Qu a2];exact i2⟩,⟨o1,by rw[Qu b1];exact o2⟩,yd,⟨k1,zs,QD,hr⟩,⟨g1,gx,by rw[Qu (Ne.symm c1)];exact g2,g3⟩,⟨d1,by rw[Qu (Ne.symm c2)];exact d2,d3⟩,⟨m1,by rw[Qu (Ne.symm c3)];exact m2,m3.other c4⟩⟩
def HandOk.setGiven {F H:Hp}{a dx k g d m:Addr}{y:V}{xs:List (Key×V)}{as:Qg}(ok:HandOk C N F H a dx k g d m y xs as){ns:Ql}{zs:List V}(hr:Qv F zs (ns.map PyData.int)) :
 HandOk C { N with given:=ns } F (upd H g (.lst zs)) a dx k g d m y xs as:=by
 obtain⟨nd,⟨i1,i2⟩,⟨o1,o2⟩,yd,⟨k1,kx,k2,k3⟩,⟨g1,gx,g2,g3⟩,⟨d1,d2,d3⟩,⟨m1,m2,m3⟩⟩:=ok;have nd':=nd;simp only[XO,Xg,not_or]at nd';obtain⟨⟨a1,a2,a3,_⟩,⟨b1,b2,_⟩,⟨c1,_⟩,⟨f1,f2,f3⟩,_⟩:=nd'
 exact⟨nd,⟨i1,by rw[Qu a3];exact i2⟩,⟨o1,by rw[Qu b2];exact o2⟩,yd,⟨k1,kx,by rw[Qu c1];exact k2,k3⟩,⟨g1,zs,QD,hr⟩,⟨d1,by rw[Qu (Ne.symm f1)];exact d2,d3⟩,⟨m1,by rw[Qu (Ne.symm f2)];exact m2,m3.other f3⟩⟩
variable {te:TE}{v:V}
def AX (c:HandC K C)(e:ρ[i]?=some (some (.own v (QQ C N)))){n:PyData}(h:Qt K te ρ n)(hl:N.known.length<1000)
 (hn:D.nx (ρ.set i (some (.own v (QQ C { N with known:=N.known++[n] }))))):Q2 K (VC (tBM K "list" Yc (V3 K (Q8 i) "known") (QE te QN))) ρ D:=fun F0 H0 F σ H E x S C'=>by
 obtain⟨a,dx,k,g,d,m,y,xs,as,rfl,e1,ok,_⟩:=S.hand e;refine⟨_,e1,a,C,dx,_,.ref k,rfl,ok.ins.2,c.cl,c.kn,rfl,.inl ⟨rfl,_,SqL.of ok.known.2.choose_spec.1⟩,h H0 F σ H _ S fun F1 H1 u x1 r1=>?_⟩;obtain⟨a',dx',k',g',d',m',y',xs',as',ea,g1,ok',hp,wr⟩:=(S.ext x1).hand e
 cases ea
 obtain⟨rfl,rfl,rfl,rfl,rfl,rfl⟩:=ok.same ok' ((x1.hh _ _ ok.ins.2).trans ok.ins.2.symm);obtain⟨q1,qx,q2,q3⟩:=ok'.known;have hr0:=hp k' (by simp);refine⟨k',qx,u,rfl,rfl,q2,by rw[q3.length];exact Vr (by omega),?_⟩;exact C'.nx F1 σ _ _ ((x.trans x1).wr hr0.1 hr0.2.1) (wr _ { N with known:=N.known++[n] } y' xs' as' ((S.ext x1).sub.upd hr0.2.1) (fun b hb _=>Qu fun z=>hb (by rw[z];simp)) Yz (ok'.setKnown (q3.snoc r1)) (fun b hb=>.inl hb)) hn
def Ed (c:HandC K C)(e:ρ[i]?=some (some (.own v (QQ C N)))){n:Int}(h:Qt K te ρ (.int n))(hl:N.given.length<1000)
 (hn:D.nx (ρ.set i (some (.own v (QQ C { N with given:=N.given++[n] }))))):Q2 K (VC (tBM K "list" Yc (V3 K (Q8 i) "given") (QE te QN))) ρ D:=fun F0 H0 F σ H E x S C'=>by
 obtain⟨a,dx,k,g,d,m,y,xs,as,rfl,e1,ok,_⟩:=S.hand e;refine⟨_,e1,a,C,dx,_,.ref g,rfl,ok.ins.2,c.cl,c.gv,rfl,.inl ⟨rfl,_,SqL.of ok.given.2.choose_spec.1⟩,h H0 F σ H _ S fun F1 H1 u x1 r1=>?_⟩;obtain⟨a',dx',k',g',d',m',y',xs',as',ea,g1,ok',hp,wr⟩:=(S.ext x1).hand e
 cases ea
 obtain⟨rfl,rfl,rfl,rfl,rfl,rfl⟩:=ok.same ok' ((x1.hh _ _ ok.ins.2).trans ok.ins.2.symm);obtain⟨q1,qx,q2,q3⟩:=ok'.given;have hr0:=hp g' (by simp);refine⟨g',qx,u,rfl,rfl,q2,by rw[q3.length,Xk];exact Vr (by omega),?_⟩;exact C'.nx F1 σ _ _ ((x.trans x1).wr hr0.1 hr0.2.1) (wr _ { N with given:=N.given++[n] } y' xs' as' ((S.ext x1).sub.upd hr0.2.1) (fun b hb _=>Qu fun z=>hb (by rw[z];simp)) Yz (ok'.setGiven (by rw[Xr];exact q3.snoc r1)) (fun b hb=>.inl hb)) hn
end
def spP (K:W.Frag){α:Type}(Φ:α->OwnP)(R:α->List OT->(OT->α->Prop)->Prop):Sp:=fun vs H Q _=>∃F v0 vs' p ts N Ψ,vs=v0::vs'/\KTs K F/\Q4 F H/\Args K F vs' ts/\(Φ N).ok K F H v0 p/\R N ts Ψ /\
 ∀F' H' p' N' v r q,Ψ r N'->ExtN p F H F' H'->(Φ N').ok K F' H' v0 p'->(∀b∈p',b∈p\/H b=none)->Zk K F' H' v r q->(∀b∈q,(b∈p\/H b=none)/\b∉p')->Q v H'
abbrev spH (K:W.Frag)(C:Addr)(R:HandS->List OT->(OT->HandS->Prop)->Prop):Sp:=spP K (QQ C) R
def Gf (K:W.Frag)(C CR:Addr)(f:Str)(R:HandS->List OT->(OT->HandS->Prop)->Prop)(Rx:List OT->(Qd->Prop)->Prop):Sp:=fun vs H Q E=>(∃RR,E=XE CR RR/\VT CR RR/\spH K C R vs H Q E)\/spX K CR f (fun _ _=>False) Rx vs H Q E
def Wf (K:W.Frag)(C:Addr)(R:HandS->List OT->(OT->HandS->Prop)->Prop)(R2:List OT->(OT->Prop)->Prop):Sp:=fun vs H Q E=>spH K C R vs H Q E\/Zl K R2 vs H Q E
def EvR (K:W.Frag)(t:TS)(ρ:Q1)(Ψ:OT->Q1->Prop):Prop := ∀(F0 H0 F:Hp) (σ:St) (H:Hp) (E:Ends),Q0 F0 H0 F H->QB K H0 F ρ σ H ->
 (∀F' σ' H' ρ' v r q,Q0 F0 H0 F' H'->QB K H0 F' ρ' σ' H'->Zk K F' H' v r q->(∀a∈q,H0 a=none)->(∀a∈q,∀u t' q',ρ'[0]?=some (some t')->σ'[0]?=some (some u)->Zk K F' H' u t' q'->a∉q')->Ψ r ρ'->E.rt v H')->t E σ H
section
variable {K:W.Frag}{ρ:Q1}{te:TE}{t u:TS}{Ψ:OT->Q1->Prop}
def ZY (M:Q1->Prop)(h1:Q2 K t ρ { nx:=M,rt:=fun _=>False })(h2:∀ρ',M ρ'->EvR K u ρ' Ψ):EvR K (Jy t u) ρ Ψ:=fun F0 H0 F σ H E x S k =>
 h1 F0 H0 F σ H _ x S ⟨fun F' σ' H' ρ' x' S' e=>h2 ρ' e F0 H0 F' σ' H' E x' S' k,fun _ _ _ _ _ _ _ _ z=>z.elim,fun _ _ _ _ _ _ z=>False.elim z,fun _ _ _ _ _ _ z=>False.elim z⟩
def G2 {d:PyData}(h:Qt K te ρ d)(hr:Ψ (.fz d) ρ):EvR K (Yo te) ρ Ψ:=fun F0 H0 F σ H E x S k =>
 h H0 F σ H _ S fun F' H' v x' r=>k F' σ H' ρ v (.fz d) [] (x.trans x') (S.ext x') ⟨rfl,r⟩ (fun _ z=>nomatch z) (fun _ z=>nomatch z) hr
def F7 {j:Nat}{r:OT}(hj:j≠0)(e:ρ[j]?=some (some r))(hr:Ψ r ρ):EvR K (Yo (Q8 j)) ρ Ψ:=fun F0 H0 F σ H E x S k=>by
 obtain⟨fp,h,h4,h5⟩:=S.fp;obtain⟨v,e1,ok⟩:=h j _ e;refine⟨v,e1,k F σ H ρ v r (fp j) x S ok (fun a ha=>(h5 j a ha).1) (fun a ha u t' q' e2 e3 ok' hq=>?_) hr⟩;obtain⟨v2,f1,f2⟩:=h 0 _ e2;rw[e3]at f1;cases f1;exact hj (h4 j 0 a ha (UI (K:=K) f2 ok' a hq))
variable {α:Type}{Φ:α->OwnP}{N:α}
def E1 {L:Qh}{vs:List V}{ts:List OT}{F H:Hp}{v0:V}{p:Qg}(kt:KTs K F)(sm:Q4 F H)(ha:Args K F vs ts)(ok:(Φ N).ok K F H v0 p) :
 QB K (fun b=>if b∈p then none else H b) F (some (.own v0 (Φ N))::(ts.map some++List.replicate (L.length-(ts.length+1)) none)) (start L (v0::vs)) H:=by
 have th:=fun b hb=>(Φ N).there ok b hb;refine⟨kt,sm,?_,fun j=>if j=0 then p else [],fun j t' e=>?_,fun j k' b hb hc=>?_,fun j b hb=>?_⟩
 ·unfold start
  simp[ha.length]
 ·cases j with
  |zero =>
    simp at e
    subst e;refine⟨v0,?_,rfl,?_⟩
    ·unfold start
     simp
    ·simp only[if_true]
     exact ok
  |succ i =>
    rw[US]at e;have hlt:i<ts.length:=by
     by_cases z:i<ts.length
     ·exact z
     ·rw[X9 (by simpa using z)]at e
      have:=List.mem_of_getElem? e
      simp at this
    rw[XI (by simpa using hlt),Xq]at e;have e':ts[i]?=some t':=by
     cases z:ts[i]? with
     |none=>rw[z]at e;simp at e
     |some w=>rw[z]at e;simp at e;rw[e]
    obtain⟨v,e1,e2⟩:=ha.get (H:=H) i t' e';refine⟨v,?_,?_⟩
    ·unfold start
     have hl2:i<vs.length:=by rw[ha.length];exact hlt
     rw[Xs,WH,US,XI (by simpa using hl2),Xq,e1];rfl
    ·simp only[Nat.add_one_ne_zero,if_false]
     exact e2
 ·by_cases hj:j=0
  ·by_cases hk:k'=0
   ·rw[hj,hk]
   ·simp[hk]at hc
  ·simp[hj]at hb
 ·by_cases hj:j=0
  ·simp only[Xd hj]at hb
   exact⟨by simp[hb],(th b hb).2⟩
  ·simp[hj]at hb
def BQ {L:Qh}{R:α->List OT->(OT->α->Prop)->Prop}{vs:List V}{ts:List OT}{F H:Hp}{v0:V}{p:Qg}{Ψ:OT->α->Prop}{Q:VK}{t:TS}{q0:St->Hp->Prop}
 (h:EvR K t (some (.own v0 (Φ N))::(ts.map some++List.replicate (L.length-(ts.length+1)) none)) (fun r ρ'=>∃M',Ψ r M'/\ρ'[0]?=some (some (.own v0 (Φ M')))))
 (kt:KTs K F) (sm:Q4 F H) (ha:Args K F vs ts) (ok:(Φ N).ok K F H v0 p)
 (q:∀F' H' p' N' v r q,Ψ r N'->ExtN p F H F' H'->(Φ N').ok K F' H' v0 p'->(∀b∈p',b∈p\/H b=none)->Zk K F' H' v r q->(∀b∈q,(b∈p\/H b=none)/\b∉p')->Q v H') :
 t { nx:=q0,rt:=Q } (start L (v0::vs)) H:=by
 have h0:∀b,(fun b=>if b∈p then none else H b:Hp) b=none->b∈p\/H b=none:=fun b hb=>by
  by_cases z:b∈p
  ·exact .inl z
  ·simp only[Xb z]at hb;exact .inr hb
 refine h F (fun b=>if b∈p then none else H b) F _ H _ ⟨fun b o hb=>?_,Q4.refl _,sm,fun _ h=>.inl h⟩ (E1 kt sm ha ok) fun F' σ' H' ρ' v r qq x' S' sok hq hd ⟨M',hM,e0⟩=>?_
 ·by_cases z:b∈p
  ·simp[z]at hb
  ·simp only[Xb z]at hb;exact hb
 ·obtain⟨fp,g1,g2,g3⟩:=S'.fp
  obtain⟨u,u1,rfl,ok'⟩:=g1 0 _ e0;refine q F' H' (fp 0) M' v r qq hM ⟨fun b o nb hb=>x'.hh b o (by simp only[Xb nb];exact hb),x'.ff,x'.fh,fun b hb=>?_⟩ ok' (fun b hb=>h0 b (g3 0 b hb).1) sok (fun b hb=>⟨h0 b (hq b hb),hd b hb _ _ _ e0 u1 ⟨rfl,ok'⟩⟩)
  rcases x'.fr b hb with z|z
  ·exact .inl z
  ·exact .inr ((h0 b z).symm)
end
def Bs (P:Program)(w:World)(K:W.Frag)(mg:Str->Qf)(base:Heap)(C:Addr)(m:Str)(ps:Qh)(k:Nat)(sp:Sp):Prop :=
 ∃f fd,Meth K C m f/\Vp K fd ps []/\FnOk P w K mg base (CX1 P w) k f fd ps sp
section
variable {P:Program}{w:World}{K:W.Frag}{mg:Str->Qf}{base:Heap}{C CR:Addr}
def Mf.evHX {m qual fl:Str}{st:Stmt}{L ps:Qh}{k:Nat}{R:HandS->List OT->(OT->HandS->Prop)->Prop}{Rx:List OT->(Qd->Prop)->Prop}(D:Mf K C m qual st ps)(S:Qp L ps (Qy st))(len:∀M ts Ψ,R M ts Ψ->ts.length+1=ps.length)(lenx:∀ts Φ,Rx ts Φ->ts.length=ps.length)(hpn:ps.length<=L.length)
 (hret:∀(f:Addr) (cdv:Value) (A:Around) (outer:List Env) (s:Shared) (H:Hp) RR (v:V) (M:HandS) (ts:List OT) (Ψ:OT->HandS->Prop),Room k (A.deeper (envOfC qual (Qy st) s.heap.objs.size f cdv))->VT CR RR->R M ts Ψ ->
  ∃t,PSs (cx1 P w K mg base L qual (Qy st) f cdv A outer s H (XE CR RR)) (Zi st) t/\EvR K t (some (.own v (QQ C M))::(ts.map some++List.replicate (L.length-(ts.length+1)) none)) (fun r ρ'=>∃M',Ψ r M'/\ρ'[0]?=some (some (.own v (QQ C M')))))
 (hexc:∀(f:Addr) (cdv:Value) (A:Around) (outer:List Env) (s:Shared) (F H:Hp) RR (ts:List OT) (Φx:Qd->Prop),Room k (A.deeper (envOfC qual (Qy st) s.heap.objs.size f cdv))->VT CR RR->(∀F' H' e dct d,Φx d->Q0 F H F' H'->H e=none->Fld fl e F' H' H dct d->RR e dct H')->Rx ts Φx ->
  ∃t,PSs (cx1 P w K mg base L qual (Qy st) f cdv A outer s H (XE CR RR)) (Zi st) t/\EvZ K F H t (ts.map some++List.replicate (L.length-ts.length) none)) :
 Bs P w K mg base C m ps (k+1) (Gf K C CR fl R Rx):=by
 obtain⟨f,fd,F,hm,hb⟩:=D.ex;refine⟨f,fd,hm,hb,F.okX S (fun vs H Q E h=>?_) fun cdv A outer s H vs Q E hr h=>?_⟩
 ·rcases h with ⟨RR,_,_,F,v0,vs',p,ts,M,Ψ,e,_,_,ha,_,hR,_⟩|⟨F,ts,_,_,ha,RR,_,_,q⟩
  ·rw[e,XJ,ha.length];exact len _ _ _ hR
  ·rcases q with ⟨_,z,_⟩|⟨r,hR,_⟩
   ·exact z.elim
   ·exact ha.length.trans (lenx ts r hR)
 ·rcases h with ⟨RR,eE,sts,F,v0,vs',p,ts,M,Ψ,e,kt,sm,ha,ok,hR,q⟩|⟨F,ts,kt,sm,ha,RR,eE,sts,q⟩
  ·subst e eE
   obtain⟨t,h1,h2⟩:=hret f cdv A outer s H RR v0 M ts Ψ hr sts hR
   exact⟨t,h1,BQ (R:=R) h2 kt sm ha ok q⟩
  ·subst eE
   rcases q with ⟨_,z,_⟩|⟨Φx,hR,q⟩
   ·exact z.elim
   ·obtain⟨t,h1,h2⟩:=hexc f cdv A outer s F H RR ts Φx hr sts q hR
    exact⟨t,h1,h2 F (start L vs) H _ (Q0.refl sm) (Md (ps:=ps) kt sm ha (by rw[lenx ts Φx hR];exact hpn))⟩
def Df.evH2 {x:Str}{st:Stmt}{L ps:Qh}{k:Nat}{R:HandS->List OT->(OT->HandS->Prop)->Prop}{R2:List OT->(OT->Prop)->Prop}(D:Df K mg x st ps)(S:Qp L ps (Qy st))(len:∀M ts Ψ,R M ts Ψ->ts.length+1=ps.length)(len2:∀ts Φ,R2 ts Φ->ts.length=ps.length)(hpn:ps.length<=L.length)
 (hret:∀(f:Addr) (cdv:Value) (A:Around) (outer:List Env) (s:Shared) (H:Hp) (E:XK) (v:V) (M:HandS) (ts:List OT) (Ψ:OT->HandS->Prop),Room k (A.deeper (envOfC x (Qy st) s.heap.objs.size f cdv))->R M ts Ψ ->
  ∃t,PSs (Vo CX0 P w K mg base L x (Qy st) f cdv A outer s H E).nox (Zi st) t/\EvR K t (some (.own v (QQ C M))::(ts.map some++List.replicate (L.length-(ts.length+1)) none)) (fun r ρ'=>∃M',Ψ r M'/\ρ'[0]?=some (some (.own v (QQ C M')))))
 (Xa2:∀(f:Addr) (cdv:Value) (A:Around) (outer:List Env) (s:Shared) (H:Hp) (E:XK) (ts:List OT) (Φ:OT->Prop),Room k (A.deeper (envOfC x (Qy st) s.heap.objs.size f cdv))->R2 ts Φ ->
  ∃t,PSs (Vo CX0 P w K mg base L x (Qy st) f cdv A outer s H E).nox (Zi st) t/\Q2 K t (ts.map some++List.replicate (L.length-ts.length) none) { nx:=fun _=>Φ (.fz .none),rt:=Φ }):QF P w K mg base x ps (k+1) (Wf K C R R2):=by
 obtain⟨f,fd,F,hm,hb⟩:=D.ex;refine⟨f,fd,hm,F.kp,hb,F.ok S (fun vs H Q E h=>?_) fun cdv A outer s H vs Q E hr h=>?_⟩
 ·rcases h with ⟨F,v0,vs',p,ts,M,Ψ,e,_,_,ha,_,hR,_⟩|⟨F,ts,Φ,_,_,ha,hR,_⟩
  ·rw[e,XJ,ha.length];exact len _ _ _ hR
  ·exact ha.length.trans (len2 ts Φ hR)
 ·rcases h with ⟨F,v0,vs',p,ts,M,Ψ,e,kt,sm,ha,ok,hR,q⟩|⟨F,ts,Φ,kt,sm,ha,hR,q⟩
  ·subst e
   obtain⟨t,h1,h2⟩:=hret f cdv A outer s H E v0 M ts Ψ hr hR
   exact⟨t,h1,BQ (R:=R) h2 kt sm ha ok q⟩
  ·obtain⟨t,h1,h2⟩:=Xa2 f cdv A outer s H E ts Φ hr hR
   refine⟨t,h1,h2 F H F (start L vs) H _ (Q0.refl sm) (Md (ps:=ps) kt sm ha (by rw[len2 ts Φ hR];exact hpn)) ⟨fun F' σ' H' ρ' x' _ e=>?_,fun F' H' v r' p x' hp ok e=>q F' H' v p r' e x' hp ok,fun _ _ _ _ _ _ z=>False.elim z,fun _ _ _ _ _ _ z=>False.elim z⟩⟩;exact q F' H' _ [] _ e x' (fun _ z=>nomatch z) ⟨rfl,.non⟩
end
section
variable {X:Cx}
def JK {C:Addr}{m:Str}{pos apos:Pos}{o e:Expr}{es:Qi}{ta:TE}{t:TA}{ps:Qh}{j k:Nat}{sp:Sp}{pl:Sem Bool}(M:Zz X.prog X.w X.K X.mg X.base C m ps j sp)(c:HandC X.K C)(hr:Room k X.A)(he:PE X o ta)(ha:PA X (e::es) t)(hj:j<=k:=by walk_at"j")
 (hst:starEach (e::es) X.env=(false,eval e X.env)::starEach es X.env:=by rfl) (hpl:(backTo pos (starEach es X.env)).any (·.1)=false:=by rfl)
 (ht:eval (.Call (.Attribute o m apos) (e::es) [] pos) X.env=(do
  let ov <- eval o X.env
  standAt apos.atName
  let (f,first) <- holding [ov] (getMethod ov m pl)
  callWith pos f first (backTo pos (starEach (e::es) X.env)) (backToKw pos (keywordEach [] X.env))):=by rfl) :
 PE X (.Call (.Attribute o m apos) (e::es) [] pos) (VR C m sp [] E0 ta t):=by
 obtain⟨f,fd,hm,hb,F⟩:=M;exact DF (pl:=pl) he c.cl hm F (hr.mono hj) hb .nil J5 ha hst hpl ht
def DR {C:Addr}{m:Str}{pos apos:Pos}{o:Expr}{ta:TE}{ps:Qh}{j k:Nat}{sp:Sp}{pl:Sem Bool}(M:Zz X.prog X.w X.K X.mg X.base C m ps j sp)(c:HandC X.K C)(hr:Room k X.A)(he:PE X o ta)(hj:j<=k:=by walk_at"j")
 (ht:eval (.Call (.Attribute o m apos) [] [] pos) X.env=(do
  let ov <- eval o X.env
  standAt apos.atName
  let (f,first) <- holding [ov] (getMethod ov m pl)
  callWith pos f first (backTo pos (starEach [] X.env)) (backToKw pos (keywordEach [] X.env))):=by rfl) :
 PE X (.Call (.Attribute o m apos) [] [] pos) (VR C m sp [] E0 ta QN):=by
 obtain⟨f,fd,hm,hb,F⟩:=M;exact FV (pl:=pl) he c.cl hm F (hr.mono hj) hb .nil J5 ht
def RV {C:Addr}{m:Str}{pos apos:Pos}{o e:Expr}{es:Qi}{ta:TE}{t:TA}{ps:Qh}{j k:Nat}{sp:Sp}{E:XK}{pl:Sem Bool}(M:Bs X.prog X.w X.K X.mg X.base C m ps j sp)(c:HandC X.K C)(hr:Room k X.A)(hx:Yl (CX1 X.prog X.w) X E)(he:PE X o ta)(ha:PA X (e::es) t)(hj:j<=k:=by walk_at"j")
 (hst:starEach (e::es) X.env=(false,eval e X.env)::starEach es X.env:=by rfl) (hpl:(backTo pos (starEach es X.env)).any (·.1)=false:=by rfl)
 (ht:eval (.Call (.Attribute o m apos) (e::es) [] pos) X.env=(do
  let ov <- eval o X.env
  standAt apos.atName
  let (f,first) <- holding [ov] (getMethod ov m pl)
  callWith pos f first (backTo pos (starEach (e::es) X.env)) (backToKw pos (keywordEach [] X.env))):=by rfl) :
 PE X (.Call (.Attribute o m apos) (e::es) [] pos) (VR C m sp [] E ta t):=by
 obtain⟨f,fd,hm,hb,F⟩:=M;exact DF (pl:=pl) he c.cl hm F (hr.mono hj) hb .nil hx ha hst hpl ht
end
section
variable {K:W.Frag}{ρ:Q1}{tx:TE}{t:TA}{D:PEnds}{i j:Nat}{v:V}{C CR:Addr}{N:HandS}{m f:Str}{RR:Addr->Qj->Hp->Prop}{ts:List OT}
def YV {α:Type}{Φ:α->OwnP}{N:α}{F0 H0 F H:Hp}{σ:St}(S:QB K H0 F ρ σ H)(x:Q0 F0 H0 F H)(e:ρ[i]?=some (some (.own v (Φ N)))) :
 ∃p,σ[i]?=some (some v)/\(Φ N).ok K F H v p/\∀F' H' p' N',ExtN p F H F' H'->(Φ N').ok K F' H' v p'->(∀b∈p',b∈p\/H b=none) ->
  Q0 F0 H0 F' H'/\QB K H0 F' (ρ.set i (some (.own v (Φ N')))) σ H'/\∀(q:Qg),(∀b∈q,(b∈p\/H b=none)/\b∉p')->(∀b∈q,H0 b=none)/\∀b∈q,∀(j:Nat) (u:V) (t':OT) (q':Qg),(ρ.set i (some (.own v (Φ N'))))[j]?=some (some t')->σ[j]?=some (some u)->Zk K F' H' u t' q'->b∉q':=by
 obtain⟨kt,h1,h2,fp,h3,h4,h5⟩:=S;obtain⟨u,e1,rfl,ok⟩:=h3 i _ e;have hlt:=(Xh.mp e).1;refine⟨fp i,e1,ok,fun F' H' p' N' xn ok' sub=>?_⟩;have out:∀j,j≠i->∀b∈fp j,b∉fp i:=fun j hj b hb z=>hj (h4 j i b hb z)
 have hH:∀j,j≠i->∀b∈fp j,H' b=H b:=fun j hj b hb=>by
  obtain⟨o,ho⟩:=D7 (h5 j b hb).2;rw[xn.hh b o (out j hj b hb) ho,ho]
 have mv:∀j t' u',j≠i->Zk K F H u' t' (fp j)->Zk K F' H' u' t' (fp j):=fun j t' u' hj f2=>by
  refine f2.move xn.ff (fun b hb=>?_) (hH j hj)
  cases z:F' b with
  |none=>rfl
  |some o =>
    rcases xn.fr b (Zy z) with y|y|y
    ·exact Xl (f2.there b hb).1 y
    ·exact Xl y (h5 j b hb).2
    ·exact Xl y (out j hj b hb)
 refine⟨⟨fun b o hb=>xn.hh b o (fun z=>by rw[(h5 i b z).1]at hb;cases hb) (x.hh b o hb),x.ff.trans xn.ff,xn.fh,fun b hb=>?_⟩,⟨kt.mono xn.ff,xn.fh,by simp[h2],fun j=>if j=i then p' else fp j,fun j t' e'=>?_,fun j k b hb hc=>?_,fun j b hb=>?_⟩,fun q hq=>⟨fun b hb=>?_,fun b hb j u t' q' m1 m2 ok2 hb'=>?_⟩⟩
 ·rcases xn.fr b hb with z|z|z
  ·exact x.fr b z
  ·exact .inr (x.hh.free z)
  ·exact .inr (h5 i b z).1
 ·by_cases hj:j=i
  ·subst hj
   rw[Xo hlt]at e';cases e';refine⟨_,e1,rfl,?_⟩;simp only[if_true];exact ok'
  ·rw[Xx (Ne.symm hj)]at e'
   obtain⟨u',f1,f2⟩:=h3 j t' e';refine⟨u',f1,?_⟩;simp only[Xb hj];exact mv j t' u' hj f2
 ·by_cases hj:j=i
  ·by_cases hk:k=i
   ·omega
   ·simp only[Xd hj]at hb
    simp only[Xb hk]at hc;rcases sub b hb with z|z
    ·exact Xl (h4 k i b hc z) hk
    ·exact Xl z (h5 k b hc).2
  ·simp only[Xb hj]at hb
   by_cases hk:k=i
   ·simp only[Xd hk]at hc
    rcases sub b hc with z|z
    ·exact Xl (h4 j i b hb z) hj
    ·exact Xl z (h5 j b hb).2
   ·simp only[Xb hk]at hc
    exact h4 j k b hb hc
 ·by_cases hj:j=i
  ·simp only[Xd hj]at hb
   refine⟨?_,((Φ N').there ok' b hb).2⟩
   rcases sub b hb with z|z
   ·exact(h5 i b z).1
   ·exact x.hh.free z
  ·simp only[Xb hj]at hb
   exact⟨(h5 j b hb).1,by rw[hH j hj b hb];exact(h5 j b hb).2⟩
 ·rcases(hq b hb).1 with z|z
  ·exact(h5 i b z).1
  ·exact x.hh.free z
 ·by_cases hj:j=i
  ·subst hj
   rw[Xo hlt]at m1;cases m1;rw[e1]at m2;cases m2
   exact(hq b hb).2 ((Φ N').uniq ok' ok2.2 b hb')
  ·rw[Xx (Ne.symm hj)]at m1
   obtain⟨u',f1,f2⟩:=h3 j t' m1;rw[f1]at m2;cases m2;have hb2:=UI (K:=K) (mv j t' u hj f2) ok2 b hb'
   rcases(hq b hb).1 with z|z
   ·exact out j hj b hb2 z
   ·exact(h5 j b hb2).2 z
def QQ.at {F H:Hp}{p:Qg}(h:(QQ C N).ok K F H v p):∃a dx y n k g d e,v=.ref a/\H a=some (.ins C dx (hfs y n k g d e)):=by
 obtain⟨a,dx,k,g,d,m,y,xs,as,rfl,_,o⟩:=h
 exact⟨a,dx,y,_,k,g,d,m,rfl,o.ins.2⟩
def Ch {R:HandS->List OT->(OT->HandS->Prop)->Prop}{Rx:List OT->(Qd->Prop)->Prop}{Ψ:OT->HandS->Prop}{d0:PyData}{w0:V}(hm:NoH m)(e:ρ[i]?=some (some (.own v (QQ C N))))(hx:Qt K tx ρ d0)(hf:Zx d0=some w0)(hA:Zw K t ρ ts)(hR:R N ts Ψ)(st:VT CR RR)
 (hn:∀r N',Ψ r N'->∃d w,r=.fz d/\Zx d=some w/\D.nx ((ρ.set i (some (.own v (QQ C N')))).set j (some (.ol [d0,d])))) :
 Q2 K (Ve (Jw (QE tx (QE (VR C m (Gf K C CR f R Rx) [] (XE CR RR) (Q8 i) t) QN))) (ZJ j)) ρ D:=fun F0 H0 F σ H E x S C' =>
 hx H0 F σ H _ S fun F1 H1 u x1 r1=>by
  obtain⟨p0,s0,ok0,_⟩:=YV (S.ext x1) (x.trans x1) e;obtain⟨a0,dx,y,n,k,g,d,e',rfl,h1⟩:=QQ.at ok0;refine⟨.ref a0,s0,a0,dx,_,rfl,h1,hm _ _ _ _ _ _,hA H0 F1 σ H1 _ (S.ext x1) fun F2 H2 vs x2 r2=>.inl ⟨RR,rfl,st,?_⟩⟩;obtain⟨p,s1,okp,fin⟩:=YV (S.ext (x1.trans x2)) (x.trans (x1.trans x2)) e;refine⟨F2,_,vs++[],p,ts,N,Ψ,rfl,(S.ext (x1.trans x2)).kt,x2.fh,by rw[XD];exact r2,okp,hR,fun F' H' p' N' v' r q hr xn ok' sub sok hq=>?_⟩;obtain⟨d,w,rfl,hfd,hnx⟩:=hn r N' hr;obtain⟨X',S',_⟩:=fin F' H' p' N' xn ok' sub;refine⟨Y1 (Vr YI),fun z hz=>?_⟩;have hp:H' z=none:=hz;have X2:Q0 F' H' F' (upd H' z (.lst [u,v'])):=Q0.own S'.sub hp;have S2:=S'.ext X2;refine C'.nx F' _ _ _ (X'.trans X2) (S2.set (t:=.ol [d0,d]) (p:=[z]) ⟨z,rfl,rfl,S'.sub.free hp,_,QD,.cons (r1.thin hf) (.cons sok.2 .nil)⟩ (fun b hb=>?_) (hn:=fun b hb k u' t' q' m1 m2 ok2 hb'=>?_)) hnx
  ·cases Xi.mp hb
   exact X'.hh.free hp
  ·cases Xi.mp hb
   obtain⟨fp,g1,g2,g3⟩:=S'.fp;obtain⟨u2,f1,f2⟩:=g1 k t' m1;rw[f1]at m2;cases m2
   exact(g3 k z (UI (K:=K) (f2.ext X2) ok2 z hb')).2 hp
def CT {R:HandS->List OT->(OT->HandS->Prop)->Prop}{Rx:List OT->(Qd->Prop)->Prop}{Φx:Qd->Prop}{d0:PyData}{F0 H0 H9:Hp}{E:Ends}(hm:NoH m)(e:ρ[i]?=some (some (.zow (Zr C N))))(hx:Qt K tx ρ d0)(hA:Zw K t ρ ts)(hR:Rx (.zow (Zr C N)::ts) Φx)(st:VT CR RR)
 (hq:∀F' H' e dct d,Φx d->Q0 F0 H0 F' H'->H0 e=none->Fld f e F' H' H0 dct d->RR e dct H') {F:Hp} {σ:St} {H:Hp} (x:Q0 F0 H0 F H) (S:QB K H9 F ρ σ H) :
 Ve (Jw (QE tx (QE (VR C m (Gf K C CR f R Rx) [] (XE CR RR) (Q8 i) t) QN))) (ZJ j) E σ H :=
 hx H9 F σ H _ S fun F1 H1 u x1 r1=>by
  obtain⟨a,dx,k,g,d,m',y,ks,gs,xs,as,e1,ok⟩:=(S.ext x1).hz e;refine⟨_,e1,a,dx,_,rfl,x1.fh _ _ ok.ins,hm _ _ _ _ _ _,hA H9 F1 σ H1 _ (S.ext x1) fun F2 H2 vs x2 r2=>.inr ?_⟩;have X2:=x.trans (x1.trans x2)
  exact⟨F2,_,(S.ext (x1.trans x2)).kt,x2.fh,.zow (Ψ:=Zr C N) ((Zr C N).mono (K:=K) x2.ff ⟨a,dx,k,g,d,m',y,ks,gs,xs,as,rfl,ok⟩) (by rw[XD];exact r2),RR,rfl,st,.inr ⟨Φx,hR,fun F' H' e dct d hd x3 he hf=>hq F' H' e dct d hd (X2.trans x3) (X2.hh.free he) (hf.back X2.hh)⟩⟩
end
def Bj (C:Addr):Sp:=fun vs H Q _=>∃x dx y,vs=[.ref x,y]/\H x=some (.ins C dx [])/\∀k g d m H',H k=none->H g=none->H d=none->H m=none->[x,k,g,d,m].Nodup ->
 H' x=some (.ins C dx (hfs y 0 k g d m))->H' k=some (.lst [])->H' g=some (.lst [])->H' d=some (.dK [])->H' m=some (.lst [])->(∀b,b∉[x,k,g,d,m]->H' b=H b)->Q .non H'
def Gn (P:Program)(w:World)(K:W.Frag)(mg:Str->Qf)(base:Heap)(x:Str)(C:Addr)(ps:Qh)(k:Nat):Prop :=
 ∃f fd,Mk K C f/\mg x=some (.ref C)/\Vp K fd ps []/\FnOk P w K mg base CX0 k f fd ps (Bj C)
def Hc {X:Cx} {C:Addr} {x:Str} {p pos:Pos} {e:Expr} {es:Qi} {t:TA} {ps:Qh} {j k:Nat} (M:Gn X.prog X.w X.K X.mg X.base x C ps j) (hr:Room k X.A) (ha:PA X (e::es) t) (hj:j+1<=k:=by walk_at"j") (hg:Gl X x:=by rfl) (hdb:(x==("__debug__" : Str))=false:=by decide +kernel)
 (he:starEach (e::es) X.env=(false,eval e X.env)::starEach es X.env:=by rfl) (hpl:(backTo pos (starEach es X.env)).any (·.1)=false:=by rfl) :
 PE X (.Call (.Name x p) (e::es) [] pos) (Uy C (Bj C) [] E0 t):=by
 obtain⟨f,fd,M,hm,hb,F⟩:=M;exact L8 M F (hr.mono hj) hg hm hb .nil J5 ha hdb he hpl
def Hk {K:W.Frag}{ρ:Q1}{ta:TE}{C:Addr}{E:XK}{yd:PyData}(h:Qt K ta ρ yd):EvX K (Uy C (Bj C) [] E (QE ta QN)) ρ (QQ C ⟨yd,0,[],[],[],[]⟩):=fun H0 F σ H Q S0 q=>h H0 F σ H _ S0 fun F1 H1 yv x1 r1=>fun x dx hx hdx ne=>by
 have S:=S0.ext x1;refine⟨x,dx,yv,rfl,QD,fun e r l d H' he hr hl hd nd h1 h2 h3 h4 h5 ho=>⟨rfl,?_⟩⟩
 have un:∀{b:Addr},upd (upd H1 dx (.own x)) x (.ins C dx []) b=none->H1 b=none/\b≠x/\b≠dx:=fun{b} hb=>by
  have n1:b≠x:=fun z=>by rw[z,QD]at hb;cases hb
  rw[Qu n1]at hb;have n2:b≠dx:=fun z=>by rw[z,QD]at hb;cases hb
  rw[Qu n2]at hb;exact⟨hb,n1,n2⟩
 obtain⟨e1,e2,e3⟩:=un he;obtain⟨r1',r2,r3⟩:=un hr;obtain⟨l1,l2,l3⟩:=un hl;obtain⟨d1,d2,d3⟩:=un hd
 have hdx':H' dx=some (.own x):=by
  rw[ho dx (by simp only[Xg,XU,or_false,not_or];exact⟨ne,Ne.symm e3,Ne.symm r3,Ne.symm l3,Ne.symm d3⟩),Qu ne,QD]
 have kp:∀b o,H1 b=some o->H' b=some o:=fun b o hb=>by
  have nb:∀{c:Addr},H1 c=none->b≠c:=fun hc z=>by rw[z,hc]at hb;cases hb
  rw[ho b (by simp only[Xg,XU,or_false,not_or];exact⟨nb hx,nb e1,nb r1',nb l1,nb d1⟩),Qu (nb hx),Qu (nb hdx)];exact hb
 have fr:∀{b:Addr},H1 b=none->F1 b=none:=fun hb=>S.sub.free hb;refine q F1 H' (.ref x) [x,dx,e,r,l,d] (x1.trans ⟨kp,Q4.refl _,fun b o hb=>kp b o (S.sub b o hb),fun _ h=>.inl h⟩) (fun b hb=>?_) ⟨x,dx,e,r,l,d,yv,[],[],rfl,rfl,?_,⟨fr hx,h1⟩,⟨fr hdx,hdx'⟩,r1,⟨fr e1,[],h2,.nil⟩,⟨fr r1',[],h3,.nil⟩,⟨fr l1,h4,.nil⟩,⟨fr d1,h5,.nil⟩⟩
 ·refine x1.hh.free ?_
  simp only[Xg,XU,or_false]at hb;rcases hb with rfl|rfl|rfl|rfl|rfl|rfl
  ·exact hx
  ·exact hdx
  ·exact e1
  ·exact r1'
  ·exact l1
  ·exact d1
 ·simp only[XO,Xg,XU,or_false,not_or,not_false_eq_true,Ul,and_true]at nd ⊢
  obtain⟨⟨a1,a2,a3,a4⟩,b1,c1,f1⟩:=nd
  exact⟨⟨Ne.symm ne,a1,a2,a3,a4⟩,⟨Ne.symm e3,Ne.symm r3,Ne.symm l3,Ne.symm d3⟩,b1,c1,f1⟩
section
variable {X:Cx}{Xa1:Qc}{σ:St}{H:Hp}{s:Shared}
def EA {M:Model}{A:Around}{E:Qb}{i:Nat}{x:Str}{pos:Pos}{Q:Unit->Shared->Prop}(I0:Qr X Xa1 σ H s)(hN:X.N.Nodup)(hi:X.N[i]?=some x)(hk:X.env.scope.names.lookup x=some .cell)(hfn:X.fn x=true)
 (h:∀s',Qr X Xa1 (σ.set i none) H s'->Q () s'):wpAny M A (do bindName X.env x .none;unbindBehindTheSuite X.env x pos) Q E s:=by
 have hi0:i<σ.length:=by rw[I0.len];exact(Xh.mp hi).1
 refine Xa (wpAny_bindName (BS (v:=.non) I0 hN hi (.inr hk) rfl (fun s I=>?_) (.inl hfn)));obtain⟨m,hn,hl⟩:=id I.loc;have hiσ:i<(σ.set i (some V.non)).length:=by simpa using hi0
 have cne:=I.cne;obtain⟨c,hc⟩:=I.ok.has x (.inl hk)
 have hv:s.heap.IsCell c (some .none):=by
  obtain⟨u,ru,q⟩:=hl i x .non hi (by rw[Xo hi0]) (.inr (.inl hk))
  cases ru
  rcases q with ⟨k,_⟩|⟨k,c',e,z⟩
  ·have z:=hk.symm.trans k;cases z
  ·rw[hc]at e;cases e;exact z
 have tracked:∀{a:Addr} {h':Heap},(∃o,s.heap.get? a=some o/\H a=none)->Heap.SameBut a s.heap h'->HOk X.prog X.w H h':=fun{a h'} ha hs b ob e=>by
  obtain⟨_,_,hfree⟩:=ha;refine(I.hok b ob e).stay (fun c w' hc q=>(hs.2 c ?_).trans q) (fun _ q=>q) fun _ _ q=>q
  rintro rfl
  rcases hc with rfl|hc
  ·rw[hfree]at e;cases e
  ·rw[hfree]at hc;cases hc
 unfold unbindBehindTheSuite;refine wpAny_onRaise ?_;unfold unbindName;refine Xa (wpAny_point (Xa ?_));unfold deleteName;have hk':X.env.kindOf x=some .cell:=hk;simp only[hk'];refine Xa (wpAny_cellOf hc (Xa (wpAny_cellGet hv ?_)));simp only[Option.isSome_some,if_true];refine wpAny_cellSet hv fun h' hc' hs=>?_;obtain⟨oc,hoc,hocd⟩:=id hv;refine wpAny_point (h _ ⟨I.ok,I.os,I.bare,⟨fun b o e n hb hx=>?_,fun b o e n hb hx=>?_,I.base.free,fun b o e hx=>?_,I.base.tups,I.base.frzs,fun b xs o q e hx=>(hs.2 b (Xp (Xt (Xj e) (I.ok.cab x c hfn hc)))).trans (I.base.tupo b xs o q e hx),I.base.tbls⟩,⟨m,hn.sameBut hs (Ne.symm (cne x c hc)),fun j y v' e1 e2 e3=>?_⟩,fun y c' e=>?_,I.free,I.freeC,fun p hp=>?_,tracked ⟨oc,hoc,I.freeC x c hc⟩ hs,by simpa using I0.len⟩)
 ·exact(hs.2 b (Xp (Xt (Xj e) (I.ok.cab x c hfn hc)))).trans (I.base.keep b o e n hb hx)
 ·obtain⟨sl,e1⟩:=I.base.slot b o e n hb hx
  exact⟨sl,(hs.2 b (Xp (Xt (Xj e) (I.ok.cab x c hfn hc)))).trans e1⟩
 ·obtain⟨o',e1⟩:=I.base.there b o e hx
  exact⟨o',(hs.2 b (Xp (Xt (Xj e) (I.ok.cab x c hfn hc)))).trans e1⟩
 ·by_cases hj:j=i
  ·subst hj
   rw[Xo hi0]at e2;cases e2
  ·rw[Xx (Ne.symm hj)]at e2
   obtain⟨u',r',q⟩:=hl j y v' e1 (by rw[Xx (Ne.symm hj)];exact e2) e3;refine⟨u',r',?_⟩
   rcases q with q|⟨k,c',e,z'⟩
   ·exact .inl q
   ·refine .inr ⟨k,c',e,z'.sameBut hs ?_⟩
    rintro rfl
    exact hj (DY hN e1 (I.ok.inj _ _ _ e hc▸hi))
 ·by_cases hcc:c'=c
  ·subst hcc;exact⟨_,hc'⟩
  ·obtain⟨w2,z2⟩:=I.cell y c' e
   exact⟨w2,z2.sameBut hs hcc⟩
 ·obtain⟨e,n,ne,nf,d⟩:=I.pin p hp
  refine⟨(hs.2 p.1 ?_).trans e,n,ne,nf,d⟩;intro q;rw[q,hoc]at e;have q':oc=p.2:=Option.some.inj e;exact d _ (by rw[<- q'];exact hocd)
end
def EHc (C:Addr)(th:Addr->TS)(D:Ends)(n j:Nat):XK:=XE C fun e dct H=>∀(σ:St) H' T,σ.length=n->Lefts C e dct H H'->H' T=none->T≠e->th e (Dh D j) (σ.set j (some (.ref e))) (left C e dct T H')
def SX {C:Addr}{th:Addr->TS}{D:Ends}{n j:Nat}:VT C fun e dct H=>∀(σ:St) H' T,σ.length=n->Lefts C e dct H H'->H' T=none->T≠e->th e (Dh D j) (σ.set j (some (.ref e))) (left C e dct T H'):=fun _ _ _ _ r hT hTe σ H' T' hl hL=>r σ H' T' hl (.head hT hTe hL)
section
variable {X:Cx}{C B:Addr}{th:Addr->TS}{tb:Ends->TS}{body suite:List Stmt}{b0:Stmt}{x n:Str}{j:Nat}{np hpos pos:Pos}{rest:List ExceptHandler}
def AF {Xa1:Qc}{Q:Flow->Shared->Prop}{E:Qb}{e T0:Addr}{dct:Qj}{σ:St}{H:Hp}{s:Shared}{D:Ends}(cm:W.exmOne X.K (.ref C) (.ref B)=some true)(hok:X.Ok)(hst:X.stack=X.env::X.outer)(hfr:X.env.frame=some X.env.locals)(hg:Gl X x)(hm:X.mg x=some (.ref B))
 (hN:X.N.Nodup) (hj:X.N[j]?=some n) (hl:X.env.scope.names.lookup n=some .cell) (hfn:X.fn n=true)
 (hh:∀e pn,PSs (Ji X e pn) (b0::suite) (th e)) (I:Qr { X with pn:=X.pn++Xa1 } [] σ H s) (hT0:T0≠e) (he:H e=some (.ext (phF C e dct T0))) (hT:H T0=some (.ext (phT T0)))
 (hd:(x==("__debug__" : Str))=false)
 (hq:∀T,H T=none->T≠e->th e (Dh D j) (σ.set j (some (.ref e))) (left C e dct T H)) (hQ:∀f s',SP X Xa1 D f s'->Q f s') :
 wpAny (model X.prog X.w) X.A (noteFrame (.ref e) X.env) (fun _ s2=>wpAny (model X.prog X.w) X.A (setFlight (.ref e) none) (fun _ s3=>wpAny (model X.prog X.w) X.A (handleBy (.ref e) X.env (.ExceptHandler (some (.Name x np)) (some n) (b0::suite) hpos::rest)) Q E s3) E s2) E s:=by
 obtain⟨⟨vs,sl,hx,h1,h2c⟩,_,_⟩:=I.hok e _ he;obtain⟨⟨oT,ts,hx2,h2,h3⟩,_,_⟩:=I.hok T0 _ hT;have fr:X.A.frames=some (X.env::X.outer):=by rw[hok.frames,hst]
 have ff:=I.stack;have ff:s.heap.FunFrames X.base (X.env::X.outer):=by rw[<- hst];exact ff
 refine P1 fr ff hfr hx rfl h1 hT0 hx2 h2 h3 fun h' T Z=>?_;have J:=HP I (by rw[he];trivial) hx (Array.getElem?_eq_some_iff.mp h1).1 h2c (by show Leaves X.stack _ _ _ _ _;rw[hst];exact Z);have hTn:H T=none:=I.hok.fresh Z.new;have hTe:T≠e:=XX (Xt (Xj hx) Z.new);have JH:Qr (Ji X e (X.pn++Xa1)) [] σ (left C e dct T H) { s with heap:=h' }:=J.toHandler;refine wpAny_handleBy_cons (codeAny_handlers_test (JG JH hg hm ?_ hd)) (by intro q;cases q);have LT:W.Looks (model X.prog X.w) h' (typeOf (.ref e)) (.ref C):=(W.Looks.ld Z.exc).andThen .now;refine(W.exm_one J.kIn LT cm).here (codeAny_handlers_suite_as ?_);have o1:left C e dct T H e=some (.ext (phF C e dct T)):=by unfold left;rw[Qu (Ne.symm hTe),QD]
 have o2:left C e dct T H T=some (.ext (phT T)):=by unfold left;rw[QD]
 obtain⟨p1,_,_⟩:=JH.hok e _ o1;obtain⟨p2,_,_⟩:=JH.hok T _ o2;refine Iq p1 p2 fun h2 k2=>?_;have J2:Qr (Ji X e (X.pn++Xa1)) [] σ (left C e dct T H) { s with heap:=h2 }:=JH.kept (t':=s.toks) k2;refine BS (X:=Ji X e (X.pn++Xa1)) J2 hN hj (.inr hl) (v:=.ref e) rfl (fun s3 J3=>?_) (.inl hfn);refine wpAny_mono (hh e _ [] s3 _ _ (Dh D j) J3 (hq T hTn hTe)) (fun fl s4 z=>?_) fun _ _ z=>False.elim z
 cases fl with
 |next =>
   obtain⟨σ',H',I4,q⟩:=z;refine EA (X:=Ji X e (X.pn++Xa1)) I4 hN hj hl hfn fun s5 I5=>hQ _ _ ?_
   exact⟨_,H',(I5.ofHandler hok).ofPn,q⟩
 |ret u=>obtain⟨_,_,_,_,_,z⟩:=z;exact False.elim z
 |brk=>obtain⟨_,_,_,z⟩:=z;exact False.elim z
 |cont=>obtain⟨_,_,_,z⟩:=z;exact False.elim z
def SO (cm:W.exmOne X.K (.ref C) (.ref B)=some true)(hst:X.stack=X.env::X.outer)(hfr:X.env.frame=some X.env.locals)(hg:Gl X x)(hm:X.mg x=some (.ref B))
 (hN:X.N.Nodup) (hj:X.N[j]?=some n) (hl:X.env.scope.names.lookup n=some .cell) (hfn:X.fn n=true)
 (hb:∀D pn,PSs (Dz X (EHc C th D X.N.length j) pn) body (tb D)) (hh:∀e pn,PSs (Ji X e pn) (b0::suite) (th e)) (hd:(x==("__debug__" : Str))=false:=by decide) :
 PS X (.Try body (.ExceptHandler (some (.Name x np)) (some n) (b0::suite) hpos::rest) [] [] pos) (MJ tb):=by
 intro Xa1 s σ H D I h;have I1:Qr (Dz X (EHc C th D X.N.length j) (X.pn++Xa1)) [] σ H s:=I.toPn.wish _;refine wpAny_Try_except (wpAny_mono (hb D (X.pn++Xa1) [] s σ H D I1 h) (fun fl s1 q=>?_) fun v s1 q=>?_)
 ·have q':=SP.ofPn q
  cases fl with
  |next=>exact wpAny_execs_nil q'
  |ret u=>exact q'
  |brk=>exact q'
  |cont=>exact q'
 ·obtain⟨σ1,H1,dct,J,e,rfl,⟨T0,hT0,he,hT⟩,hq⟩:=q
  exact AF cm I.ok hst hfr hg hm hN hj hl hfn hh J hT0 he hT hd (fun T a b=>hq σ1 _ T J.len .nil a b) fun fl s' z=>z
end
end L2
end
namespace L2
open PySem PySem.Spec PyProof.Rows
section
variable {K:W.Frag}{ρ:Q1}{ta tb tc te:TE}{D:PEnds}{d:PyData}{dss:List (Qd)}
end
section
variable {K:W.Frag}{ρ:Q1}{ta:TE}{D:PEnds}
end
section
variable {X:Cx}
variable {C B:Addr}{th:TS}{tb:Ends->TS}{body suite:List Stmt}{b0:Stmt}{x n:Str}{j:Nat}{np hpos pos:Pos}{rest:List ExceptHandler}
end
section
variable {K:W.Frag}{ρ:Q1}{C:Addr}{f:Str}{th:TS}{tb:Ends->TS}{D:PEnds}{i j:Nat}{ta:TE}
end
section
variable {K:W.Frag}{ρ:Q1}{ta tb te:TE}{D:PEnds}{d:PyData}{dss:List (Qd)}{ds:Qd}
def QB.freezeO {Φ:OwnP}{H0 F H:Hp}{σ:St}{i:Nat}{v:V}(hz:∀{p:Qg},Φ.ok K F H v p->Rep (frF F H p) v d)(s:QB K H0 F ρ σ H)(e:ρ[i]?=some (some (.own v Φ))) :
 ∃p,(∀a∈p,F a=none/\H a≠none/\H0 a=none)/\QB K H0 (frF F H p) (ρ.set i (some (.fz d))) σ H:=by
 obtain⟨kt,h1,h2,fp,h3,h4,h5⟩:=s;obtain⟨u,e1,rfl,ok⟩:=h3 i _ e;have hlt:=(Xh.mp e).1;have th:=fun a ha=>Φ.there ok a ha;have sm:Q4 F (frF F H (fp i)):=Wu fun a ha=>(th a ha).1;refine⟨fp i,fun a ha=>⟨(th a ha).1,(th a ha).2,(h5 i a ha).1⟩,kt.mono sm,GB h1,by simp[h2],fun j=>if j=i then [] else fp j,fun j t' e'=>?_,fun j k b hb hc=>?_,fun j b hb=>?_⟩
 ·by_cases hj:j=i
  ·subst hj
   rw[Xo hlt]at e';cases e';refine⟨_,e1,?_,hz ok⟩;dsimp only;rw[Xd rfl]
  ·rw[Xx (Ne.symm hj)]at e'
   obtain⟨u',f1,f2⟩:=h3 j t' e';refine⟨u',f1,?_⟩;dsimp only;rw[Xb hj];exact f2.frOther sm fun a ha z=>hj (h4 j i a ha z)
 ·by_cases hj:j=i
  ·simp[hj]at hb
  ·by_cases hk:k=i
   ·simp[hk]at hc
   ·simp only[Xb hj]at hb
    simp only[Xb hk]at hc;exact h4 j k b hb hc
 ·by_cases hj:j=i
  ·simp[hj]at hb
  ·simp only[Xb hj]at hb
   exact h5 j b hb
end
end L2
section
namespace L2
open PySem PySem.Spec PyProof.Rows
def lsO (d0:PyData)(ds:Qd):OwnP where
 ok K F H v p := ∃a b x,v=.ref a/\p=[a,b]/\a≠b/\F a=none/\H a=some (.lst [x,.ref b])/\Rep F x d0/\Vt F H b ds
 there:=by
  rintro K F H v p ⟨a,b,x,rfl,rfl,_,h1,h2,_,h3,xs,h4,_⟩ c hc
  simp only[Xg,XU,or_false]at hc;rcases hc with rfl|rfl
  ·exact⟨h1,Zy h2⟩
  ·exact⟨h3,Zy h4⟩
 mono:=by
  rintro K F F' H H' v p s hF hH ⟨a,b,x,rfl,rfl,n,h1,h2,r,h3,xs,h4,h5⟩
  exact⟨a,b,x,rfl,rfl,n,hF _ (by simp),by rw[hH _ (by simp)];exact h2,r.mono s,hF _ (by simp),xs,by rw[hH _ (by simp)];exact h4,h5.mono s⟩
 uniq:=by
  rintro K F H v p q ⟨a,b,x,rfl,rfl,_,_,h2,_⟩ ⟨a',b',x',e,rfl,_,_,h2',_⟩ c hc
  cases e
  have z:=h2.symm.trans h2';simp only[Option.some.injEq,HO.lst.injEq,List.cons.injEq,V.ref.injEq,and_true]at z;rw[z.2];exact hc
section
variable {K:W.Frag}{ρ:Q1}{D:PEnds}{i j:Nat}{d0:PyData}{ds:Qd}{C:Addr}{f:Str}
def FX {e dx q:Addr}(hij:i≠j)(hi:ρ[i]?=some (some (.ol [d0])))(h:ρ[j]?=some (some (.own (.ref e) (WM C f ds e dx q))))(hn:∀v,D.nx ((ρ.set j none).set i (some (.own v (lsO d0 ds))))) :
 Q2 K (VC (tBM K "list" Yc (Q8 i) (QE (tXG C (Q8 j) f) QN))) ρ D:=fun F0 H0 F σ H E x S c=>by
 obtain⟨kt,s1,s2,fp,h3,h4,h5⟩:=id S;obtain⟨u,u1,a,rfl,ui,fa,xs,ha,ra⟩:=h3 i _ hi;obtain⟨w,w1,rfl,wp,⟨f1,f2,f3⟩,⟨T,hT⟩,hd,ys,hq,rq⟩:=h3 j _ h;have hil:=(Xh.mp hi).1;have hjl:=(Xh.mp h).1;have ai:a∈fp i:=by rw[ui];exact Xc
 have qj:q∈fp j:=by rw[wp];simp
 have naq:a≠q:=fun z=>hij (h4 i j a ai (z▸qj));have a0:=(h5 i a ai).1;have q0:=(h5 j q qj).1
 obtain⟨x0,rfl,r0⟩:∃x0,xs=[x0]/\Rep F x0 d0:=by
  cases ra with
  |cons r1 r2=>cases r2;exact⟨_,rfl,r1⟩
 refine⟨.ref a,u1,.inl ⟨rfl,_,SqL.of ha⟩,.ref e,w1,e,dx,T,.ref q,rfl,hT,hd,a,[x0],.ref q,rfl,rfl,ha,Vr W2,?_⟩;refine c.nx F σ _ _ (x.wr a0 fa) ⟨kt,s1.upd fa,by simp[s2],fun k=>if k=i then [a,q] else if k=j then [] else fp k,fun k t ek=>?_,fun k l b hb hc=>?_,fun k b hb=>?_⟩ (hn (.ref a))
 ·by_cases hk:k=i
  ·subst hk
   rw[Xo (by simpa using hil)]at ek;cases ek;refine⟨.ref a,u1,rfl,a,q,x0,rfl,?_,naq,fa,QD,r0,f3,ys,by rw[Qu (Ne.symm naq)];exact hq,rq⟩
   simp
  ·rw[Xx (Ne.symm hk)]at ek
   by_cases hkj:k=j
   ·subst hkj
    rw[Xo hjl]at ek;cases ek
   ·rw[Xx (Ne.symm hkj)]at ek
    obtain⟨v',g1,g2⟩:=h3 k t ek;refine⟨v',g1,?_⟩;simp only[Xb hk,Xb hkj];exact g2.other fun z=>hk (h4 k i a z ai)
 ·have key:∀k b,b∈(if k=i then [a,q] else if k=j then [] else fp k)->(k=i/\(b=a\/b=q))\/(k≠i/\k≠j/\b∈fp k):=fun k b hk=>by
   by_cases z:k=i
   ·rw[Xd z]at hk;exact .inl ⟨z,by simpa using hk⟩
   ·rw[Xb z]at hk
    by_cases z':k=j
    ·rw[Xd z']at hk;cases hk
    ·rw[Xb z']at hk;exact .inr ⟨z,z',hk⟩
  rcases key k b hb with ⟨z1,m1⟩|⟨z1,z2,m1⟩
  ·rcases key l b hc with ⟨y1,_⟩|⟨y1,y2,n1⟩
   ·rw[z1,y1]
   ·rcases m1 with rfl|rfl
    ·exact Xl (h4 l i _ n1 ai) y1
    ·exact Xl (h4 l j _ n1 qj) y2
  ·rcases key l b hc with ⟨y1,n1⟩|⟨y1,y2,n1⟩
   ·rcases n1 with rfl|rfl
    ·exact Xl (h4 k i _ m1 ai) z1
    ·exact Xl (h4 k j _ m1 qj) z2
   ·exact h4 k l b m1 n1
 ·refine⟨?_,Yz b ?_⟩
  ·by_cases z:k=i
   ·simp only[Xd z,Xg,XU,or_false]at hb
    rcases hb with rfl|rfl
    ·exact a0
    ·exact q0
   ·simp only[Xb z]at hb
    by_cases z':k=j
    ·simp[z']at hb
    ·simp only[Xb z']at hb
     exact(h5 k b hb).1
  ·by_cases z:k=i
   ·simp only[Xd z,Xg,XU,or_false]at hb
    rcases hb with rfl|rfl
    ·exact Zy ha
    ·exact Zy hq
   ·simp only[Xb z]at hb
    by_cases z':k=j
    ·simp[z']at hb
    ·simp only[Xb z']at hb
     exact(h5 k b hb).2
structure PK (K:W.Frag)(mg:Str->Qf)(Y C cg ct:Addr):Prop where
 em:W.exmOne K (.ref C) (.ref Y)=some true
 my:mg "YardError"=some (.ref Y)
 gt:PJ K C
 na:VE K C "some"
 is:PH K C
 k1:W.kitOne K (.ref C) (.ref C)=some true
 k2:W.kitOne K (.ref C) (.type "ValueError")=some true
 kg:W.kitOne K (.ref C) (.ref cg)=some false
 kt:W.kitOne K (.ref C) (.ref ct)=some false
 m1:mg "NoGuest"=some (.ref cg)
 m2:mg "NoTime"=some (.ref ct)
end
end L2
end
section
set_option maxHeartbeats 400000
namespace L2
open PySem PySem.Spec PyProof.Rows
section
variable {X:Cx}
end
section
variable {X:Cx}
def KZ (X:Cx):List V->Hp->VK->Prop:=fun xs H Q=>X.calm=true/\∃(x:V) (ns:Ql) (M:Int),xs=[x]/\Rep H x (.list (ns.map PyData.int))/\M∈ns/\(∀a∈ns,a<=M)/\Q (.int M) H
def DI:Z0 X (.builtin "max") (KZ X):=by
 intro Xa1 s σ H xs us Q I r h;obtain⟨hc,x,ns,M,rfl,hx,hM,hmax,q⟩:=h;obtain⟨u,rfl,rx⟩:=Y7 r
 cases hx with
 |@lst l ys _ ha rr =>
   cases rx
   have er:=GT rr;subst er;obtain⟨its,rv,p,hz⟩:=I.list (SqL.of (K:=X.K) ha);have hl:=p.isList;have hi:=BZ rv;have hlen:its.length=ns.length:=hi.length;have hpos:0<ns.length:=Mt.mpr fun z=>by rw[z]at hM;cases hM
   have hlt:l<s.heap.objs.size:=by obtain⟨_,e,_⟩:=hl;exact Xj e
   refine call_max_walk (wpAny_pyIter_list hl ?_)
   refine⟨s.heap.objs.size,[s.heap.objs.size,l],[s.heap.objs.size],its.toArray.size,_,_,_,rfl,Walks.list (A:=X.A.in1) (I.ok.hd hc) _ l (Xp hlt) its.toArray,
    ⟨⟨_,Xy _ rfl,rfl,rfl⟩,hl.push _⟩,fun b hb=>?_,by simp only[Xw];omega,CmpOf.ints_gt (fun i=>ns.getD i 0) (fun i v hP=>WZ hi (by simpa using hP)),fun v h' tk hP hk=>?_⟩
   ·show b<(s.heap.push _).objs.size
    rw[W0];rcases Xg.mp hb with rfl|hb
    ·exact W1 _
    ·rcases Xg.mp hb with rfl|hb
     ·exact Bf hlt
     ·cases hb
   ·rw[List.getElem?_toArray]at hP
    obtain⟨t,rfl⟩:=WZ hi hP;obtain⟨g1,g2⟩:=argBest_gt (fun i=>ns.getD i 0) (its.toArray.size-1);have hsz:its.toArray.size=its.length:=by simp
    generalize argBest (fun i j=>decide (ns.getD i 0 > ns.getD j 0)) (its.toArray.size-1)=k at g1 g2 ⊢;rw[hsz]at g1 g2;have hk2:k<ns.length:=by omega
    have em:ns.getD k 0=M:=by
     have h1:ns.getD k 0∈ns:=by simp[hk2]
     have h2:=hmax _ h1;obtain⟨j,hj,e⟩:=UR.mp hM;have h3:=g2 j (by omega);have h4:ns.getD j 0=M:=by simp[hj,e]
     omega
    exact⟨.int M,H,I.kept (DG hk),⟨t,by rw[em]⟩,q⟩
end
section
variable {K:W.Frag}{ρ:Q1}{ta tb tc te:TE}{D:PEnds}
def D2 {X:Cx}{ns:Ql}{M:Int}(h:Qt K ta ρ (.list (ns.map PyData.int)))(hc:X.calm=true)(hM:M∈ns)(hm:∀a∈ns,a<=M):Qt K (tCB (KZ X) (QE ta QN)) ρ (.int M):=fun H0 F σ H Q S q =>
 h H0 F σ H _ S fun F1 H1 v x1 r1=>⟨hc,v,ns,M,rfl,r1.mono x1.fh,hM,hm,q F1 H1 _ x1 (.int _)⟩
def Tw {t:TS}(J:Q1->Prop)(h:Q2 K t ρ { nx:=J,ct:=D.ct,bk:=D.bk,rt:=D.rt })(k:∀ρ',J ρ'->D.nx ρ'):Q2 K t ρ D:=fun F0 H0 F σ H E x S C =>
 h F0 H0 F σ H E x S ⟨fun F' σ' H' ρ' x' S' hj=>C.nx F' σ' H' ρ' x' S' (k ρ' hj),C.rt,C.bk,C.ct⟩
end
def olP (ds:Qd):OwnP where
 ok K F H v p := ∃a,v=.ref a/\p=[a]/\Vt F H a ds
 there:=by
  rintro K F H v p ⟨a,rfl,rfl,h1,xs,h2,_⟩ c hc
  cases Xi.mp hc
  exact⟨h1,Zy h2⟩
 mono:=by
  rintro K F F' H H' v p s hF hH ⟨a,rfl,rfl,h1,xs,h2,h3⟩
  exact⟨a,rfl,rfl,hF _ (by simp),xs,by rw[hH _ (by simp)];exact h2,h3.mono s⟩
 uniq:=by
  rintro K F H v p q ⟨a,rfl,rfl,_⟩ ⟨a',e,rfl,_⟩ c hc
  cases e
  exact hc
def EvW (K:W.Frag)(t:TE)(ρ:Q1)(i:Nat)(Θ:Int->OT->Prop):Prop := ∀(F0 H0 F:Hp) (σ:St) (H:Hp) (Q:VK),Q0 F0 H0 F H->QB K H0 F ρ σ H ->
 (∀F' H' n o,Θ n o->Q0 F0 H0 F' H'->Q4 F F'->QB K H0 F' (ρ.set i (some o)) σ H'->Q (.int n) H')->t σ H Q
section
variable {K:W.Frag}{ρ:Q1}{ta te tb:TE}{t:TA}{D:PEnds}{i j:Nat}{v:V}{ds:Qd}{ts:List OT}{Θ:Int->OT->Prop}
def olP.frz {F H:Hp}{p:Qg}(ok:(olP ds).ok K F H v p):Rep (frF F H p) v (.list ds):=by
 have sm:Q4 F (frF F H p):=Wu fun a ha=>((olP ds).there ok a ha).1;obtain⟨a,rfl,rfl,h1,xs,h2,h3⟩:=ok;exact .lst (by rw[WW (by simp)];exact h2) (h3.mono sm)
def Su {d:PyData}{u:V}(i:Nat)(e:ρ[i]?=some (some (.own v (olP ds))))(hf:Zx d=some u)(h:Qt K te (ρ.set i (some (.fz (.list ds)))) d):Qt K te ρ d:=fun H0 F σ H Q S q=>by
 obtain⟨p,hp,S'⟩:=S.freezeO olP.frz e;exact h H0 _ σ H Q S' fun F' H' v x r=>q _ H' v (JL (fun a ha=>⟨(hp a ha).1,(hp a ha).2.1⟩) x) (r.thin hf)
def Hu {d:PyData}{k:Int}{j:Nat}(e:ρ[i]?=some (some (.own v (olP ds))))(h:Qt K te ρ d)(hi:Qt K tb ρ (.int k))(hj:ixN ds.length k=some j)(hn:D.nx (ρ.set i (some (.own v (olP (ds.set j d)))))) :
 Q2 K (Ve te (M1 (Q8 i) tb Go)) ρ D:=fun F0 H0 F σ H E x S C =>
 h H0 F σ H _ S fun F1 H1 u x1 r1=>by
  obtain⟨e1,p,⟨a,rfl,rfl,o1,xs,o2,o3⟩,hp,_⟩:=(S.ext x1).writeOwn e;refine⟨_,e1,hi H0 F1 σ H1 _ (S.ext x1) fun F2 H2 y x2 r2=>?_⟩
  cases r2
  obtain⟨_,p',⟨a',ea,rfl,q1,ys,q2,q3⟩,hp',w⟩:=(S.ext (x1.trans x2)).writeOwn e
  cases ea
  obtain⟨z0,zf,_⟩:=hp' a Xc;refine⟨a,ys,k,j,rfl,rfl,q2,by rw[q3.length];exact hj,?_⟩;exact C.nx F2 σ _ _ ((x.trans (x1.trans x2)).wr z0 zf) (w _ (olP (ds.set j d)) [a] ((S.ext (x1.trans x2)).sub.upd zf) (fun c hc _=>Qu fun z=>hc (by rw[z];exact Xc)) Yz ⟨a,rfl,rfl,zf,_,QD,q3.set (r1.mono x2.ff) j⟩ (fun c hc=>.inl hc)) hn
def LV {α:Type}{Φ:α->OwnP}{N:α}{R:α->List OT->(OT->α->Prop)->Prop}{Ψ:OT->α->Prop}{E':XK}(e:ρ[i]?=some (some (.own v (Φ N))))(hA:Zw K t ρ ts)(hR:R N ts Ψ)(hn:∀r N',Ψ r N'->∃n,r=.fz (.int n)/\Θ n (.own v (Φ N'))) :
 EvW K (Vv (spP K Φ R) [] E' (QE (Q8 i) t)) ρ i Θ:=fun F0 H0 F σ H Q x S q=>by
 obtain⟨p0,s0,_⟩:=YV S x e;refine⟨_,s0,hA H0 F σ H _ S fun F1 H1 vs x1 r1=>?_⟩;obtain⟨p,s1,okp,fin⟩:=YV (S.ext x1) (x.trans x1) e;refine⟨F1,v,vs++[],p,ts,N,Ψ,rfl,(S.ext x1).kt,x1.fh,by rw[XD];exact r1,okp,hR,fun F' H' p' N' v' r qq hr xn ok' sub sok hq=>?_⟩;obtain⟨n,rfl,hΘ⟩:=hn r N' hr;obtain⟨X',S',_⟩:=fin F' H' p' N' xn ok' sub;obtain⟨_,rp⟩:=sok
 cases rp
 exact q F' H' n _ hΘ X' (x1.ff.trans xn.ff) S'
def G1 {s:TE->TS}(hw:EvW K te ρ i Θ)(hs:∀(H0 F:Hp) (σ:St) (H:Hp) (E:Ends),QB K H0 F ρ σ H->(∀Q:VK,(∀n H1,s (tC (.int n)) E σ H1->Q (.int n) H1)->te σ H Q)->s te E σ H)
 (hn:∀n o,Θ n o->Q2 K (s (tC (.int n))) (ρ.set i (some o)) D):Q2 K (s te) ρ D:=fun F0 H0 F σ H E x S c =>
 hs H0 F σ H E S fun Q hQ=>hw F0 H0 F σ H Q x S fun F' H' n o hΘ x' _ S'=>hQ n H' (hn n o hΘ F0 H0 F' σ H' E x' S' c)
def S7 (ha:Qt K ta ρ (.list ds))(hw:EvW K te ρ i Θ)(hn:∀n o,Θ n o->∃d,atI ds n=some d/\D.nx ((ρ.set i (some o)).set j (some (.fz d)))):Q2 K (Ve (tOp (rIx K) ta te) (ZJ j)) ρ D:=fun F0 H0 F σ H E x S c =>
 ha H0 F σ H _ S fun F1 H1 u x1 r1=>hw F0 H0 F1 σ H1 _ (x.trans x1) (S.ext x1) fun F' H' n o hΘ x' sm S'=>by
  obtain⟨d,e,hnx⟩:=hn n o hΘ
  cases r1 with
  |@lst a xs _ k1 k2 =>
    obtain⟨z,z1,z2⟩:=UM (k2.mono sm) e;exact .inl ⟨a,xs,n,z,rfl,rfl,SqL.of (S'.sub _ _ (sm _ _ k1)),z1,c.nx F' _ H' _ x' (S'.setF z2) hnx⟩
end
section
variable {P:Program}{w:World}{K:W.Frag}{mg:Str->Qf}{base:Heap}
def Df.evP {α:Type}{Φ:α->OwnP}{x:Str}{st:Stmt}{L ps:Qh}{k:Nat}{R:α->List OT->(OT->α->Prop)->Prop}(D:Df K mg x st ps)(S:Qp L ps (Qy st))(len:∀M ts Ψ,R M ts Ψ->ts.length+1=ps.length)
 (hret:∀(f:Addr) (cdv:Value) (A:Around) (outer:List Env) (s:Shared) (H:Hp) (E:XK) (v:V) (M:α) (ts:List OT) (Ψ:OT->α->Prop),Room k (A.deeper (envOfC x (Qy st) s.heap.objs.size f cdv))->R M ts Ψ ->
  ∃t,PSs (Vo CX0 P w K mg base L x (Qy st) f cdv A outer s H E).nox (Zi st) t/\EvR K t (some (.own v (Φ M))::(ts.map some++List.replicate (L.length-(ts.length+1)) none)) (fun r ρ'=>∃M',Ψ r M'/\ρ'[0]?=some (some (.own v (Φ M'))))):QF P w K mg base x ps (k+1) (spP K Φ R):=by
 obtain⟨f,fd,F,hm,hb⟩:=D.ex;refine⟨f,fd,hm,F.kp,hb,F.ok S (fun vs H Q E h=>?_) fun cdv A outer s H vs Q E hr h=>?_⟩
 ·obtain⟨F,v0,vs',p,ts,M,Ψ,e,_,_,ha,_,hR,_⟩:=h
  rw[e,XJ,ha.length];exact len _ _ _ hR
 ·obtain⟨F,v0,vs',p,ts,M,Ψ,e,kt,sm,ha,ok,hR,q⟩:=h
  subst e;obtain⟨t,h1,h2⟩:=hret f cdv A outer s H E v0 M ts Ψ hr hR
  exact⟨t,h1,BQ (R:=R) h2 kt sm ha ok q⟩
end
section
variable {X:Cx}
def Nc (X:Cx):List V->Hp->VK->Prop:=fun xs H Q=>X.calm=true/\∃(x:V) (ns:Ql) (M:Int),xs=[x]/\Rep H x (.tuple (ns.map PyData.int))/\M∈ns/\(∀a∈ns,a<=M)/\Q (.int M) H
def RC:Z0 X (.builtin "max") (Nc X):=by
 intro Xa1 s σ H xs us Q I r h;obtain⟨hc,x,ns,M,rfl,hx,hM,hmax,q⟩:=h;obtain⟨u,rfl,rx⟩:=Y7 r
 cases hx with
 |@tup l ys _ ha rr =>
   cases rx
   have er:=GT rr;subst er;obtain⟨its,rv,hl,hz⟩:=I.tuple (SqT.of (K:=X.K) ha);have hi:=BZ rv;have hlen:its.length=ns.length:=hi.length;have hpos:0<ns.length:=Mt.mpr fun z=>by rw[z]at hM;cases hM
   have hlt:l<s.heap.objs.size:=by obtain⟨_,e,_⟩:=hl;exact Xj e
   refine call_max_walk (wpAny_pyIter_tuple hl ?_)
   refine⟨s.heap.objs.size,[s.heap.objs.size,l],[s.heap.objs.size],its.toArray.size,_,_,_,rfl,Walks.tuple (A:=X.A.in1) (I.ok.hd hc) _ l (Xp hlt) its.toArray,
    ⟨⟨_,Xy _ rfl,rfl,rfl⟩,hl.push _⟩,fun b hb=>?_,by simp only[Xw];omega,CmpOf.ints_gt (fun i=>ns.getD i 0) (fun i v hP=>WZ hi (by simpa using hP)),fun v h' tk hP hk=>?_⟩
   ·show b<(s.heap.push _).objs.size
    rw[W0];rcases Xg.mp hb with rfl|hb
    ·exact W1 _
    ·rcases Xg.mp hb with rfl|hb
     ·exact Bf hlt
     ·cases hb
   ·rw[List.getElem?_toArray]at hP
    obtain⟨t,rfl⟩:=WZ hi hP;obtain⟨g1,g2⟩:=argBest_gt (fun i=>ns.getD i 0) (its.toArray.size-1);have hsz:its.toArray.size=its.length:=by simp
    generalize argBest (fun i j=>decide (ns.getD i 0 > ns.getD j 0)) (its.toArray.size-1)=k at g1 g2 ⊢;rw[hsz]at g1 g2;have hk2:k<ns.length:=by omega
    have em:ns.getD k 0=M:=by
     have h1:ns.getD k 0∈ns:=by simp[hk2]
     have h2:=hmax _ h1;obtain⟨j,hj,e⟩:=UR.mp hM;have h3:=g2 j (by omega);have h4:ns.getD j 0=M:=by simp[hj,e]
     omega
    exact⟨.int M,H,I.kept (DG hk),⟨t,by rw[em]⟩,q⟩
def Rh {K:W.Frag}{ρ:Q1}{ta:TE}{ns:Ql}{M:Int}(h:Qt K ta ρ (.tuple (ns.map PyData.int)))(hc:X.calm=true)(hM:M∈ns)(hm:∀a∈ns,a<=M):Qt K (tCB (Nc X) (QE ta QN)) ρ (.int M):=fun H0 F σ H Q S q =>
 h H0 F σ H _ S fun F1 H1 v x1 r1=>⟨hc,v,ns,M,rfl,r1.mono x1.fh,hM,hm,q F1 H1 _ x1 (.int _)⟩
end
def IS:entryFor table "proto.unchain"=some Builtin.«proto.unchain» := entryFor_of_tree (by kernel_rfl)
section
variable {prog:Program}{w:World}{A:Around}{E:Qb}{s:Shared}
def Ej {it e:Addr}{x left step:Int}{oe:Obj}{vs:Array Value}{Q:Qf->Shared->Prop}(hh:A.handled=some (.ref e))(hit:IsRangeIter s.heap it x left step)(hleft:left<=0)(he:s.heap.get? e=some oe)(hd:oe.data=.fields vs)(h2:vs[2]?=some .none)
 (hQ:∀h',Heap.ExtBut it s.heap h'->Q none { s with heap:=h' }):wpAny (model prog w) A (pyNext (.ref it)) Q E s:=by
 have hT:s.TypeIs (.ref it) "range_iterator" := ⟨_,hit,rfl⟩
 unfold pyNext;refine Xa (wpAny_attempt (wpAny_callSpecial?_slot (name:=Str.ofString "__next__") hT F.slot_range_iterator_next
  (wpAny_call_entry F.slot_range_iterator_next hT F.entry_range_iterator_next ?_ (F.args_range_iterator_next_1 _))))
 show wpAny _ _ (field (.ref it) 0 >>= _) _ _ s;refine Xa (Js hit rfl (x:=rawInt x) rfl ?_);show wpAny _ _ (field (.ref it) 1 >>= _) _ _ s;refine Xa (Js hit rfl (x:=rawInt left) rfl ?_);show wpAny _ _ (field (.ref it) 2 >>= _) _ _ s;refine Xa (Js hit rfl (x:=rawInt step) rfl ?_);show wpAny _ _ (if left<=0 then _ else _) _ _ s;rw[Xd hleft];refine Xa (wpAny_rule ?_);refine Xa ?_;show wpAny _ _ (newExc (.type "StopIteration") [] >>= _) _ _ _;refine Xa ?_;simp only[newExc,newTuple];refine Xa (wpAny_newObj_type ?_ (by size_fits));refine Xa (m:=firstArgMember _ _) (wpAny_of_eq (a:=Value.none) (by first|rfl|(simp only[firstArgMember];rfl)) ?_);refine wpAny_newObj_type ?_ (by size_fits);simp only[raiseNew];refine Xa (wpAny_handled ?_)
 first|rw[show A.in1.handled=some (.ref e) from hh]|rw[hh]
 have hlt:e<s.heap.objs.size:=Xj he;have hsz:(s.heap.push { cls:=Value.type "tuple",data:=Data.seq #[] }).objs.size=s.heap.objs.size+1:=W0 _ _
 have hne:(Value.ref e != Value.ref (s.heap.push { cls:=Value.type "tuple",data:=Data.seq #[] }).objs.size)=true:=by
  rw[hsz,bne_iff_ne];intro z;injection z with z;exact Xp (Bf hlt) z
 have he':((s.heap.push { cls:=Value.type "tuple",data:=Data.seq #[] }).push { cls:=Value.type "StopIteration",data:=Data.fields (#[Value.ref s.heap.objs.size,Value.none,Value.none,Value.none,Value.bool false,Value.none]++ownMembersOf (Value.type "StopIteration") []) }).get? e=some oe:=Xf _ (Xf _ he);show wpAny _ _ (if (Value.ref e != Value.ref (s.heap.push { cls:=Value.type "tuple",data:=Data.seq #[] }).objs.size)=true then _ else _) _ _ _;rw[Xd hne];refine Xa (wpAny_holding (wpAny_runValue (codeAny_builtin IS ?_)));show wpAny _ _ (field (.ref e) 2 >>= _) _ _ _;refine Xa (Js he' hd h2 ?_);show wpAny _ _ (if (Value.none==Value.none)=true then _ else _) _ _ _;rw[Xd (by decide)];refine Xa (Xn ?_);refine Xn ?_;show wpAny _ _ (updateField (s.heap.push { cls:=Value.type "tuple",data:=Data.seq #[] }).objs.size 2 (.ref e) >>= _) _ _ _;refine Xa ?_;unfold updateField;refine Xa (wpAny_load (Xy _ rfl) ?_);show wpAny _ _ (if 2<(#[Value.ref s.heap.objs.size,Value.none,Value.none,Value.none,Value.bool false,Value.none]++ownMembersOf (Value.type "StopIteration") []).size then _ else _) _ _ _;rw[Xd (by rw[Array.size_append];show 2<6+_;omega)];refine wpAny_update (Xy _ rfl) (wpAny_throw ?_);refine Xa (wpAny_isInstance (T := "StopIteration") (b:=true) ⟨_,WJ _ (Xy _ rfl) rfl,rfl⟩ isSubtype_stop ?_);refine Xn (hQ _ fun b o hb eb=>?_);have q:=Xf { cls:=Value.type "StopIteration",data:=Data.fields (#[Value.ref s.heap.objs.size,Value.none,Value.none,Value.none,Value.bool false,Value.none]++ownMembersOf (Value.type "StopIteration") []) } (Xf { cls:=Value.type "tuple",data:=Data.seq #[] } eb)
 rw[XS _ _ (fun z=>by
  have:=Xj eb
  have z':(s.heap.push { cls:=Value.type "tuple",data:=Data.seq #[] }).objs.size=b:=z;rw[hsz]at z';exact Xl this (by rw[<- z'];exact Nat.not_lt.mpr (Nat.le_succ _)))]
 exact q
end
structure TurnX (X:Cx)(tg:Expr)(J:It)(fp:Qg)(it:Addr)(tn:Nat->Heap->Prop):Prop where
 mem:it∈fp
 obj:∀i h,tn i h->∀b∈fp,∃o,h.get? b=some o/\∀v,o.data≠.cell v
 keep:∀i h h',tn i h->(∀b∈fp,∀o,h.get? b=some o->h'.get? b=some o)->tn i h'
 item:∀(X':Cx),X'.prog=X.prog->X'.w=X.w->X'.K=X.K->X'.A=X.A->∀(i:Nat) (Xa1:Qc) (s:Shared) (σ:St) (H:Hp) (E:Qb),Qr X' Xa1 σ H s->(∀b∈fp,Yb X' Xa1 H b)->tn i s.heap->J.go i H ->
  wpAny (model X.prog X.w) X'.A (pyNext (.ref it)) (fun r s1=>∃u,r=some u /\
   wpAny (model X.prog X.w) X'.A (letOwnedTupleGo tg (.ref it) u) (fun _ s2=>∃x H',Qr X' Xa1 σ H' s2/\QL x u/\J.yld i H x H'/\tn (i+1) s2.heap/\∀b∈fp,H' b=none) E s1) E s
 done:∀(X':Cx),X'.prog=X.prog->X'.w=X.w->X'.K=X.K->X'.A=X.A->∀(i:Nat) (Xa1:Qc) (s:Shared) (σ:St) (H:Hp) (E:Qb),Qr X' Xa1 σ H s->(∀b∈fp,Yb X' Xa1 H b)->tn i s.heap->J.stop i H ->
  wpAny (model X.prog X.w) X'.A (pyNext (.ref it)) (fun r s1=>r=none/\Qr X' Xa1 σ H s1) E s
 self:∀(A:Around) (i:Nat) (s:Shared) (Q:Qb) (E:Qb),tn i s.heap->Q (.ref it) s->wpAny (model X.prog X.w) A (pyIter (.ref it)) Q E s
def K6 (X:Cx)(Xa1:Qc)(σ:St)(tg:Expr)(R:It->Hp->Prop)(itv:Value)(s2:Shared):Prop :=
 ∃(it:Addr) (fp:Qg) (tn:Nat->Heap->Prop) (J:It) (H':Hp),itv=.ref it/\Qr X Xa1 σ H' s2/\TurnX X tg J fp it tn/\tn 0 s2.heap/\(∀b∈fp,Yb X Xa1 H' b)/\R J H'
def PIH (X:Cx)(tg iter:Expr)(wi:TI):Prop :=
 ∀(Xa1:Qc) (s:Shared) (σ:St) (H:Hp) (R:It->Hp->Prop),Qr X Xa1 σ H s->wi σ H R ->
  wpAny (model X.prog X.w) X.A (eval iter X.env) (fun v s1=>wpAny (model X.prog X.w) X.A (pyIter v) (K6 X Xa1 σ tg R) X.xe s1) X.xe s
def ME (C e:Addr)(lo:Int)(n:Nat):It where
 go:=(Itr lo n).go
 stop:=fun i H=>(Itr lo n).stop i H/\∃dct T,H e=some (.ext (phF C e dct T))
 yld:=(Itr lo n).yld
theorem Im {X:Cx}{C e:Addr}{tg:Expr}(hh:X.A.handled=some (.ref e))(it:Addr)(lo:Int)(n:Nat):TurnX X tg (ME C e lo n) [it] it (fun i h=>IsRangeIter h it (lo+(i:Nat)*1) ((n:Int)-(i:Nat)) 1) where
 mem:=by simp
 obj:=fun i h st b hb=>by
  have e:b=it:=by simpa using hb
  subst e;exact⟨_,st,fun v z=>by
   have z':Data.fields _=Data.cell v:=z
   cases z'⟩
 keep:=fun i h h' st k=>k it (by simp) _ st
 item:=by
  intro X' hP hw hK hA i Xa1 s σ H E I hf st hg;rw[<- hP,<- hw];obtain⟨f0,f1,f2,f3,f4,f5⟩:=hf it (by simp);have hg':i<n:=hg;refine wpAny_pyNext_range_item st (by omega) fun h' hit' hs'=>?_;have e1:lo+((i+1:Nat):Int)*1=lo+(i:Int)*1+1:=by push_cast;omega
  have e2:(n:Int)-((i+1:Nat):Int)=(n:Int)-(i:Int)-1:=by push_cast;omega
  have st':IsRangeIter h' it (lo+((i+1:Nat):Int)*1) ((n:Int)-((i+1:Nat):Int)) 1:=by rw[e1,e2];exact hit'
  refine⟨_,rfl,?_⟩;refine Gu (n := "range_iterator") st' rfl rfl (by decide) ⟨.int (lo+i),H,I.turned (fun b o hb e=>(hs'.2 b hb).trans e) f0 f1 f3 f4 f5,?_,⟨rfl,rfl⟩,st',fun b hb=>(hf b hb).1⟩;have z:lo+(i:Int)=lo+(i:Int)*1:=by omega
  rw[z];exact⟨_,rfl⟩
 done:=by
  intro X' hP hw hK hA i Xa1 s σ H E I hf st hg;rw[<- hP,<- hw];obtain⟨f0,f1,f2,f3,f4,f5⟩:=hf it (by simp);obtain⟨hg,dct,T,he⟩:=hg;obtain⟨⟨vs,sl,hx,h1,h2⟩,_,_⟩:=I.hok e _ he;exact Ej (by rw[hA];exact hh) st (by have:n<=i:=hg;omega) hx rfl h2 fun h' eb=>⟨rfl,I.turned (t':=s.toks) (fun b o hb e=>eb b o hb e) f0 f1 f3 f4 f5⟩
 self:=fun _ _ _ _ _ st h=>wpAny_pyIter_rangeiter st h
section
variable {X:Cx}{tg:Expr}
def Nw (C e:Addr)(ta:TA):TI:=fun σ H R=>ta σ H fun vs H1=>∃j:Int,vs=[.int j] /\ -(2^62)<=j/\j<2^62/\R (ME C e 0 j.toNat) H1
def A4 {C e:Addr}{Xa1:Qc}{σ:St}{H:Hp}{s:Shared}{R:It->Hp->Prop}{E:Qb}{lo hi:Int}{t u v:Tok}{tk:Nat}(hh:X.A.handled=some (.ref e))(I:Qr X Xa1 σ H s)(h1 : -(2^62)<=lo)(h2:lo<2^62)(h3 : -(2^62)<=hi)(h4:hi<2^62)
 (q:R (ME C e lo (hi-lo).toNat) H):wpAny (model X.prog X.w) X.A (pyIter (.ref s.heap.objs.size)) (K6 X Xa1 σ tg R) E { s with heap:=s.heap.push { cls:=.type "range",data:=.fields #[.int lo t,.int hi u,.int 1 v] },toks:=tk }:=by
 refine wpAny_pyIter_range (IsRange.new ..) (small_one h1 h2 h3 h4) ?_;have I1:Qr X Xa1 σ H { s with heap:=s.heap.push { cls:=.type "range",data:=.fields #[.int lo t,.int hi u,.int 1 v] },toks:=tk }:=I.kept fun b o e=>Xf _ e
 refine⟨(s.heap.push { cls:=.type "range",data:=.fields #[.int lo t,.int hi u,.int 1 v] }).objs.size,[(s.heap.push { cls:=.type "range",data:=.fields #[.int lo t,.int hi u,.int 1 v] }).objs.size],_,_,H,rfl,
  I1.kept (t':=tk) fun b o e=>Xf _ e,Im hh _ lo (hi-lo).toNat,?_,fun b hb=>?_,q⟩
 ·have e1:lo+((0:Nat):Int)*1=lo:=by simp
  have e2:(((hi-lo).toNat:Nat):Int)-((0:Nat):Int)=Builtin.Range.rangeSize lo hi 1:=by rw[rangeSize_one];split<;>omega
  show IsRangeIter _ _ (lo+((0:Nat):Int)*1) ((((hi-lo).toNat:Nat):Int)-((0:Nat):Int)) 1;rw[e1,e2];exact Xy _ rfl
 ·have e:b=(s.heap.push { cls:=.type "range",data:=.fields #[.int lo t,.int hi u,.int 1 v] }).objs.size:=by simpa using hb
  subst e;exact I1.fpOk (Xu _) (I1.hok.fresh (Xu _))
def Sz {C e:Addr} {a:Expr} {ta:TA} {p pos:Pos} (hh:X.A.handled=some (.ref e)) (hg:Gl X "range") (hm:X.mg "range"=none) (ha:PA X [a] ta) (hs:starEach [a] X.env=[(false,eval a X.env)]:=by rfl):PIH X tg (.Call (.Name "range" p) [a] [] pos) (Nw C e ta):=by
 intro Xa1 s σ H R I h;refine Call_ (WV I hg hm boot_range (PyProof.Rows.callWith_type1 (Q6 (ha pos Xa1 s σ H _ I h) fun us s1 ⟨vs,H1,I1,r1,q1⟩=>?_) hs rfl));obtain⟨j,e,q1,q2,q⟩:=q1;subst e;cases r1 with
 |cons r rr =>
   cases rr
   obtain⟨t,rfl⟩:=r;exact call_range_1 (A4 hh I1 (by omega) (by omega) q1 q2 (by simpa using q))
end
section
variable {X:Cx}{Xa1:Qc}{σ:St}{H2:Hp}{b6:Shared}
def Fu {tg iter elt:Expr}{ifs:Qi}{scope:Scope}{pos:Pos}{N:Qh}{f:List (Option Nat)}{g:CIn->TG}{tc:CIn->TT}{te:CIn->TE}{cl:List (Str×Addr)}
 (ck:CompOk X.N X.env.scope N f scope)
 (hg:∀c,PG (Zt X N scope c) tg (g c)) (ht:∀c,TgOk f (g c)) (hcs:∀c,PCs (Zt X N scope c) ifs (tc c)) (he:∀c,PE (Zt X N scope c) elt (te c))
 (I2:Qr X Xa1 σ H2 b6) {it:Addr} {fp:Qg} {tn:Nat->Heap->Prop} {J:It} (T:TurnX X tg J fp it tn) (st:tn 0 b6.heap) (f2:∀b∈fp,Yb X Xa1 H2 b)
 {Q:VK} (hq:∀c:CIn,LCw f (g c) (tc c) (te c) σ J Q H2)
 (hcl1:∀x c,cl.lookup x=some c->X.env.cells.lookup x=some c) (hcl2:∀p∈scope.names,p.2=NameKind.free->∃c,cl.lookup p.1=some c)
 {RR:Value->Addr->Result->Shared->Prop} {E:Qb}
 (hRR:∀(acc C:Addr) (H':Hp) (s':Shared) (m':Str->Qf),s'.heap.Ns C m'->Qr X Xa1 σ H' s'->H' C=none->C≠X.env.locals->X.s₀.heap.objs.size<=C->(∀x c,X.env.cells.lookup x=some c->c≠C) ->
  (∀p∈X.pn++Xa1,p.1≠C)->Q (.ref acc) H'->RR (.ref acc) C (.ok .next) s') :
 wpAny (model X.prog X.w) X.A (newList []) (fun acc b9=>wpAny (model X.prog X.w) X.A (newFunctionEnv scope X.env.globals cl [] X.env.qual none .none (some X.env)) (fun cenv bz =>
  codeAny (model X.prog X.w) X.A (.compStart (.ListComp elt [⟨tg,iter,ifs,0⟩] scope pos) 0 (.ref it) acc { cenv with scope:=relabel scope X.env }) (RR acc cenv.locals) bz) E b9) E b6:=by
 refine wpAny_newObj_type (wpAny_newFunctionEnv ck.nocell (by intro y hy;simp at hy) (fun b8 bv bw=>?_) ck.kind);dsimp only at bv bw ⊢;have I3:Qr X Xa1 σ H2 { b6 with heap:=b6.heap.push (ZW [] 0) }:=I2.kept (t':=b6.toks) fun b u e=>Xf _ e;have hD:(b6.heap.push (ZW [] 0)).get? b6.heap.objs.size=some (ZW [] 0):=Xy _ rfl;generalize hs3:({ b6 with heap:=b6.heap.push (ZW [] 0) }:Shared)=b9 at I3 bv bw ⊢;have hp3:b6.heap.push (ZW [] 0)=b9.heap:=by rw[<- hs3]
 have hp3':b6.heap.push { cls:=.type "list",dict:=none,data:=.seq ([]:Qe).toArray }=b9.heap:=hp3;rw[hp3]at hD;simp only[hp3']at bv bw ⊢;have sz3:b6.heap.objs.size<b9.heap.objs.size:=by rw[<- hp3,W0];exact W1 _
 have k3:∀b u,b6.heap.get? b=some u->b9.heap.get? b=some u:=fun b u e=>by rw[<- hp3];exact Xf _ e
 have k1:∀b u,b9.heap.get? b=some u->b8.get? b=some u:=fun b u e =>
  bw.extBut b u (Xp (Xj e)) (Xf _ e)
 have fpo:∀b∈fp,b<b6.heap.objs.size:=fun b hb=>by
  obtain⟨o,e,_⟩:=T.obj 0 _ st b hb;exact Xj e
 have st1:tn 0 b8:=T.keep _ _ _ st fun b hb o e=>k1 b o (k3 b o e);have fneC:∀b∈fp,b≠b9.heap.objs.size:=fun b hb=>Xp (Nat.lt_trans (fpo b hb) sz3);have fneD:∀b∈fp,b≠b6.heap.objs.size:=fun b hb=>Xp (fpo b hb)
 have cneD:∀x d,X.env.cells.lookup x=some d->d≠b6.heap.objs.size:=fun x d e=>by
  obtain⟨v,z⟩:=I2.cell x d e;exact Xp z.lt
 have pneD:∀p∈X.pn++Xa1,p.1≠b6.heap.objs.size:=fun p hp=>Xp (Xj (I2.pin p hp).1);have freeD:H2 b6.heap.objs.size=none:=I2.fresh
 have stk:∀b,b≠X.env.locals->b∉X.fs->b∉frs X.stack:=fun b h1 h2 hb=>by
  rcases Xg.mp (I3.stkSub b hb) with z|z
  ·exact h1 z
  ·exact h2 z
 have exD:∀b,b∈b6.heap.objs.size::fp->b=b6.heap.objs.size\/b∈fp:=fun b hb=>Xg.mp hb
 let c:CIn:=⟨cl,b9.heap.objs.size,b9,H2,b6.heap.objs.size::fp,X.pn++Xa1⟩
 have okX:(Zt X N scope c).Ok :=
  { mod:=I3.ok.mod
    kind:=ck.kind
    glob:=I3.ok.glob
    blt:=I3.ok.blt
    above:=Xu _
    inj:=fun x y d h1 h2=>I3.ok.inj x y d (hcl1 x d h1) (hcl1 y d h2)
    has:=fun x hx=>by
     rcases Ku hx with z|z
     ·exact hcl2 (x,.free) (PySem.mem_of_lookup z) rfl
     ·exact Xl rfl (ck.nocell (x,.cell) (PySem.mem_of_lookup z))
    cab:=fun x d h=>Xl (show false=true from h) Xv
    hd:=I3.ok.hd
    frames:=I3.ok.frames
    stk:=.inl rfl
    exf:=fun b hb=>by
     rcases exD b hb with rfl|hb
     ·exact⟨Xp sz3,fun x d e=>cneD x d (hcl1 x d e)⟩
     ·exact⟨fneC b hb,fun x d e=>(f2 b hb).2.2.2.2.1 x d (hcl1 x d e)⟩
    bs:=fun b o e=>I3.bs b o e
    bsz:=VM I3.ok.bsz I3.sz
    noex:=fun b o e hb=>by
     rcases exD b hb with rfl|hb
     ·exact Xl (Xj (I2.bk _ _ e)) (Yh _)
     ·rcases(f2 b hb).2.2.2.1 with z|z
      ·exact I3.ok.noex b o e z
      ·exact Xl (Xt (Xj (I3.ok.bs b o e).1) z) (Yh _)
    exfs:=fun b hb=>by
     rcases exD b hb with rfl|hb
     ·exact stk _ (XX I2.lt) (I2.nofs (Xu _))
     ·exact stk b (f2 b hb).2.1 (f2 b hb).2.2.1
    funs:=I3.stack
    frf:=I3.stkFree }
 have I4:Qr (Zt X N scope c) [(b6.heap.objs.size,ZW [] 0)] (ZH f σ) H2 { b9 with heap:=b8,toks:=b9.toks+([]:List (Str×Value)).length } :=
  { ok:=okX
    os:=rfl
    bare:=I3.bare
    base:=Un.kept k1
    loc:=⟨_,bv,fun i x v e1 e2 e3=>by
     have hfi:∃j,f[i]?=some (some j)/\σ[j]?=some (some v):=by
      unfold ZH at e2;rw[Xq]at e2;cases ef:f[i]? with
      |none=>rw[ef]at e2;cases e2
      |some o =>
        rw[ef]at e2;cases o with
        |none=>cases e2
        |some j =>
          refine⟨j,rfl,?_⟩;have e2':(σ[j]?).join=some v:=Option.some.inj e2
          cases es:σ[j]? with
          |none=>rw[es]at e2';cases e2'
          |some o2 =>
            rw[es]at e2';have:o2=some v:=e2';rw[this]
     obtain⟨j,ef,es⟩:=hfi;obtain⟨x',n1,n2,n3⟩:=ck.ix i j ef
     have:x'=x:=Option.some.inj (n1.symm.trans e1)
     subst this;have hfr:=ck.free (x',.free) (PySem.mem_of_lookup n3) rfl;obtain⟨m0,hm0,hl0⟩:=I3.loc;obtain⟨u,ru,lk⟩:=hl0 j x' v n2 es (hfr.elim (fun z=>.inr (.inl z)) fun z=>.inr (.inr z));refine⟨u,ru,.inr ⟨Kw n3,?_⟩⟩
     rcases lk with ⟨kl,_⟩|⟨_,d,ed,hd⟩
     ·have kl':X.env.scope.names.lookup x'=some .local:=kl
      rcases hfr with z|z
      ·rw[kl']at z;cases z
      ·rw[kl']at z;cases z
     ·obtain⟨d',ed'⟩:=hcl2 (x',.free) (PySem.mem_of_lookup n3) rfl
      have:d'=d:=Option.some.inj ((hcl1 x' d' ed').symm.trans ed)
      subst this;exact⟨d',ed',hd.keeps k1⟩⟩
    cell:=fun x d e=>by
     obtain⟨v,z⟩:=I3.cell x d (hcl1 x d e)
     exact⟨v,z.keeps k1⟩
    free:=I3.fresh
    freeC:=fun x d e=>I3.freeC x d (hcl1 x d e)
    pin:=fun p hp=>by
     rcases XG.mp (show p∈(X.pn++Xa1)++[(b6.heap.objs.size,ZW [] 0)] from hp) with hp'|hp'
     ·obtain⟨e,n,ne,nf,d⟩:=I3.pin p hp'
      exact⟨k1 _ _ e,n,Xp (Xj e),stk p.1 ne nf,d⟩
     ·have z:p=(b6.heap.objs.size,ZW [] 0):=Xi.mp hp'
      subst z;exact⟨k1 _ _ hD,freeD,Xp sz3,stk _ (XX I2.lt) (I2.nofs (Xu _)),fun v z=>nomatch (show Data.seq _ _=Data.cell v from z)⟩
    hok:=I3.hok.kept k1
    len:=by
     show(ZH f σ).length=N.length
     unfold ZH;rw[Xk];exact ck.len }
 have back:∀{σ':St} {H':Hp} {s':Shared} {ps:Qc},Qr (Zt X N scope c) ps σ' H' s'->Qr X Xa1 σ H' s':=fun{σ' H' s' ps} J' =>
  I3.call' (ch:=b6.heap.objs.size::fp) J'.os J'.base J'.hok J'.bare fun b hb=>by
   rcases exD b hb with rfl|hb
   ·exact⟨.inr I2.sz,XX I2.lt,cneD,pneD⟩
   ·exact⟨(f2 b hb).2.2.2.1,(f2 b hb).2.1,(f2 b hb).2.2.2.2.1,(f2 b hb).2.2.2.2.2⟩
 have fpX:∀{H':Hp} {ob:Obj},(∀b∈fp,H' b=none)->∀b∈fp,Yb (Zt X N scope c) [(b6.heap.objs.size,ob)] H' b:=fun{H' ob} hn b hb =>
  ⟨hn b hb,(okX.exf b (Xe _ hb)).1,okX.exfs b (Xe _ hb),.inl (Xe _ hb),(okX.exf b (Xe _ hb)).2,fun p hp=>by
   rcases XG.mp (show p∈(X.pn++Xa1)++[(b6.heap.objs.size,ob)] from hp) with z|z
   ·exact(f2 b hb).2.2.2.2.2 p z
   ·have z:p=(b6.heap.objs.size,ob):=Xi.mp z
    subst z;exact(fneD b hb).symm⟩
 obtain⟨W,⟨m0,w0⟩,turn⟩:=hq c
 have loop:∀s,s=({ b9 with heap:=b8,toks:=b9.toks+([]:List (Str×Value)).length }:Shared) ->
  codeAny (model X.prog X.w) X.A (.compLoop (.ListComp elt [⟨tg,iter,ifs,0⟩] scope pos) 0 (.ref it) (.ref b6.heap.objs.size) (compEnvC scope cl b9.heap.objs.size X.env)) (RR (.ref b6.heap.objs.size) b9.heap.objs.size) s:=by
  rintro s rfl
  refine P2 (fun n s'=>∃i H' ys its k,Qr (Zt X N scope c) [(b6.heap.objs.size,ZW its k)] (ZH f σ) H' s'/\QK ys its/\ys.length<=sizeLine/\tn i s'.heap/\(∀b∈fp,H' b=none)/\W i n ys H') ?_ m0 ⟨0,_,[],[],0,I4,.nil,XM _,st1,fun b hb=>(f2 b hb).1,w0⟩
  rintro n s5 ⟨i,H5,ys,its,k,I5,rv5,hz5,st5,fr5,w5⟩
  rcases turn i n ys H5 w5 with ⟨stop,qn⟩|⟨go,step⟩
  ·refine Q6 (T.done (Zt X N scope c) rfl rfl rfl rfl i _ s5 (ZH f σ) H5 _ I5 (fpX fr5) st5 stop) fun r s6 ⟨hr,I6⟩=>?_
   subst hr;obtain⟨m6,hn6,_⟩:=id I6.loc;obtain⟨eD,nD,_⟩:=I6.pin (b6.heap.objs.size,ZW its k) (XH _ (Xi.mpr rfl));have I7:Qr X Xa1 σ (upd H5 b6.heap.objs.size (.lst ys)) s6:=(back I6).track nD I2.sz (XX I2.lt) cneD pneD ⟨hz5,its,k,rv5,eD⟩;refine hRR _ _ _ s6 m6 hn6 I7 (by rw[Qu (XX sz3)];exact I6.free) (XX I3.lt) I3.sz (fun x d e=>?_) (fun p hp=>?_) (qn _ nD)
   ·obtain⟨v,z⟩:=I3.cell x d e
    exact Xp z.lt
   ·exact Xp (Xj (I3.pin p hp).1)
  ·refine Q6 (T.item (Zt X N scope c) rfl rfl rfl rfl i _ s5 (ZH f σ) H5 _ I5 (fpX fr5) st5 go) fun r s6 ⟨u,hr,h6⟩=>?_
   subst hr;refine Q6 h6 fun _ s7 ⟨x,H7,I7,r7,y7,st7,fr7⟩=>?_;have I7':=I7.pinned (fpX fr7) (T.obj _ _ st7);refine Q6 (hg c _ s7 (ZH f σ) H7 x u _ I7' r7 ((ht c).keep _ _ _ _ (step x H7 y7))) fun _ s8 ⟨σ8,H8,I8,kp8,q8⟩=>?_
   have wk:∀(j:Nat) v,(ZH f σ)[j]?=some (some v)->σ8[j]?=some (some v):=fun j v e=>by
    have ef:∃k,f[j]?=some (some k):=by
     have e':=e;unfold ZH at e';rw[Xq]at e';cases q:f[j]? with
     |none=>rw[q]at e';cases e'
     |some o =>
       cases o with
       |none=>rw[q]at e';cases e'
       |some k=>exact⟨k,rfl⟩
    obtain⟨k,ef⟩:=ef;rw[kp8.2 j k ef];exact e
   have recs:∀{H9:Hp} {s9:Shared} {ob:Obj},Qr (Zt X N scope c) ([(b6.heap.objs.size,ob)]++UA fp s7.heap) σ8 H9 s9->tn (i+1) s9.heap/\∀b∈fp,H9 b=none:=fun{H9 s9 ob} I9 =>
    ⟨T.keep _ _ _ st7 fun b hb o e=>(I9.pin (b,o) (XH _ (XH _ (UN hb e)))).1,fun b hb=>by
     obtain⟨o,e,d⟩:=T.obj _ _ st7 b hb
     exact(I9.pin (b,o) (XH _ (XH _ (UN hb e)))).2.1⟩
   refine Q6 (hcs c _ s8 σ8 H8 _ I8 q8) fun ok s9 ⟨H9,I9,q9⟩=>?_
   cases ok with
   |false =>
     obtain⟨m',hm,w9⟩:=(show ∃m',m'<n/\W (i+1) m' ys H9 from q9);obtain⟨z1,z2⟩:=recs I9
     exact⟨m',hm,i+1,H9,ys,its,k,(I9.unpinned).weak kp8.1.symm wk,rv5,hz5,z1,z2,w9⟩
   |true =>
     refine Q6 (he c _ s9 σ8 H9 _ I9 (show te c σ8 H9 _ from q9)) fun v s10 ⟨y,H10,I10,r10,hlen,m',hm,w10⟩=>?_;obtain⟨eD,nD,neD,nfD,dD⟩:=I10.pin (b6.heap.objs.size,ZW its k) (XH _ (Ui _ (Xi.mpr rfl)));obtain⟨z1,z2⟩:=recs I10;have lv:=rv5.length;refine call_meets F.slot_list_append ⟨_,eD,rfl⟩ F.entry_list_append (F.args_list_append_2 _ _) (PySem.list_append b6.heap.objs.size its.toArray k v (by rw[Xw];omega)) ⟨eD,?_⟩;have q:=PySem.IsL.update eD (·.push v);have hf:its.toArray.push v=(its++[v]).toArray:=by simp
     rw[hf]at q;have I11:Qr (Zt X N scope c) [] σ8 H10 { s10 with heap:=s10.heap.update b6.heap.objs.size (Obj.mapSeq (·.push v)) } :=
      (I10.pins_of (pins':=[]) fun p hp=>Xl hp (by simp)).turned (t':=s10.toks) (it:=b6.heap.objs.size) (fun b o hb e=>(XS s10.heap (Obj.mapSeq (·.push v)) (Ne.symm hb)).trans e) nD neD (.inl Xc) (okX.exf _ Xc).2 fun p hp=>by
       have z:p∈(X.pn++Xa1)++[]:=hp;rw[XD]at z;exact pneD p z
     have I12:Qr (Zt X N scope c) [(b6.heap.objs.size,ZW (its++[v]) _)] σ8 H10 { s10 with heap:=s10.heap.update b6.heap.objs.size (Obj.mapSeq (·.push v)) } :=
      I11.pins_of fun p hp=>by
       have z:p=(b6.heap.objs.size,_):=Xi.mp hp;subst z;exact⟨q,nD,neD,nfD,fun v z=>nomatch (show Data.seq _ _=Data.cell v from z)⟩
     refine⟨m',hm,i+1,H10,ys++[y],its++[v],_,I12.weak kp8.1.symm wk,rv5.append (.cons r10 .nil),by rw[Xm,Jr];omega,?_,z2,w10⟩;exact T.keep _ _ _ z1 fun b hb o e=>(XS s10.heap (Obj.mapSeq (·.push v)) (fneD b hb).symm).trans e
 exact codeAny_compStart_list (loop _ (by rw[<- hs3])) (T.self _ 0 _ _ _ st1 (loop _ (by rw[<- hs3])))
def SA {i:Nat}{x:Str}{px spos:Pos}{tg iter elt:Expr}{ifs:Qi}{scope:Scope}{pos:Pos}{NX:Qh}{sc:Scope}{N:Qh}{f:List (Option Nat)}{wi:TI}{g:CIn->TG}{tc:CIn->TT}{te:CIn->TE}
 (hN:X.N.Nodup) (hix:X.N[i]?=some x) (hx:X.env.scope.names.lookup x=some .local)
 (ck:GC NX sc N f scope=true) (hNX:X.N=NX) (hsc:X.env.scope=sc) (hi:PIH X tg iter wi)
 (hg:∀c,PG (Zt X N scope c) tg (g c)) (ht:∀c,TgOk f (g c)) (hcs:∀c,PCs (Zt X N scope c) ifs (tc c)) (he:∀c,PE (Zt X N scope c) elt (te c))
 (hsw:swapsWith (.ListComp elt [⟨tg,iter,ifs,0⟩] scope pos) (some (.Name x px)) spos.line X.env=pure true)
 (hs:∀x,foldedSetIterable iter X.env x=pure x:=by intro _;rfl):PS X (.Assign [.Name x px] (.ListComp elt [⟨tg,iter,ifs,0⟩] scope pos) spos) (Ve (tLC f wi g tc te) (ZJ i)):=by
 subst hNX hsc;intro Xa1 s σ H D I h;have ck':=Hn ck;obtain⟨cl,hclos,hcl1,hcl2⟩:=Ka (scope:=scope) (env:=X.env) fun p hp hf=>I.ok.has p.1 (ck'.free p hp hf);rw[exec_Assign_Name_used _ _ _ _ hsw];refine Xa (wpAny_standAt (Xa ?_));show wpAny _ X.A (do let _ <- comprehension (.ListComp elt [⟨tg,iter,ifs,0⟩] scope pos) scope X.env _ (newList []) false (eval iter X.env) (some (assign (.Name x px) X.env))) _ _ s
 refine Xa (wpAny_mono (wpAny_comprehension_free (use:=some (assign (.Name x px) X.env)) (Q:=fun _ s'=>SP X Xa1 D .next s') rfl hs hclos ck'.kind ck'.names
  (Q6 (hi Xa1 s σ H _ I h) fun xv b7 b8=>Q6 b8 fun itv b6 bj=>?_)) (fun _ s' hq=>Xn (Xn hq)) fun _ _ e=>e)
 obtain⟨it,fp,tn,J,H2,e,I2,T,st,f2,hq⟩:=bj;subst e;refine Fu (RR:=fun acc C=>compPost (model X.prog X.w) X.A X.xe (some (assign (.Name x px) X.env)) (fun _ s'=>SP X Xa1 D .next s') acc C) ck' hg ht hcs he I2 T st f2 hq hcl1 hcl2 ?_;intro acc C H' s' m' hn I' hC hL h0 h1 h2 q;show wpAny _ X.A (assign (.Name x px) X.env (.ref acc)) _ _ _;refine wpAny_assign_Name (Hv I' hN hix (.inl hx) (v:=.ref acc) rfl (fun s'' I'' ⟨a,sb,ha⟩=>?_) (.inr hx))
 have nC:C≠a:=by
  rcases ha with z|z
  ·rw[z];exact hL
  ·exact(h1 _ _ z).symm
 refine⟨m',hn.sameBut sb nC,fun h'' hs''=>?_⟩
 exact⟨_,H',I''.turned (t':=s''.toks) (fun b o hb e=>(hs''.2 b hb).trans e) hC hL (.inr h0) h1 h2,q⟩
end
def Gd (C:Addr)(f:Str)(ds:Qd)(e dx q:Addr):ZP where
 ok:=fun K F v=>v=.ref e/\(∃T,F e=some (.ext (phF C e (some dx) T)))/\F dx=some (.xd [(f,.ref q)])/\∃xs,F q=some (.lst xs)/\Qv F xs ds
 mono:=by
  rintro K F F' v s ⟨rfl,⟨T,h1⟩,h2,xs,h3,h4⟩
  exact⟨rfl,⟨T,s _ _ h1⟩,s _ _ h2,xs,s _ _ h3,h4.mono s⟩
section
variable {K:W.Frag}{ρ:Q1}{C:Addr}{f:Str}{th:Addr->TS}{tb:Ends->TS}{D:PEnds}{n i j:Nat}{ta:TE}{ds:Qd}{e dx q:Addr}
def WM.fz {F F' H:Hp}{p:Qg}(h:(WM C f ds e dx q).ok K F H (.ref e) p)(s:Q4 F F')(he:∀b∈p,F' b=H b):(Gd C f ds e dx q).ok K F' (.ref e):=by
 obtain⟨rfl,_,⟨T,h1⟩,h2,xs,h3,h4⟩:=h
 exact⟨rfl,⟨T,by rw[he _ (by simp)];exact h1⟩,by rw[he _ (by simp)];exact h2,xs,by rw[he _ (by simp)];exact h3,h4.mono s⟩
def QB.excz {H0 F H:Hp}{σ:St}(S:QB K H0 F ρ σ H)(h:ρ[i]?=some (some (.zow (Gd C f ds e dx q)))):σ[i]?=some (some (.ref e))/\(∃T,F e=some (.ext (phF C e (some dx) T)))/\F dx=some (.xd [(f,.ref q)]):=by
 obtain⟨fp,g,_⟩:=S.fp;obtain⟨v,e1,_,rfl,h1,h2,_⟩:=g i _ h
 exact⟨e1,h1,h2⟩
def Tr {c:V}{cv:Value}{b:Bool}(h:ρ[i]?=some (some (.zow (Gd C f ds e dx q))))(hc:Bn c=some cv)(hk:W.kitOne K (.ref C) cv=some b):Qt K (tCB (YJ K C) (QE (Q8 i) (QE (tC c) QN))) ρ (.bool b):=fun H0 F σ H Q S k=>by
 obtain⟨e1,⟨T,h1⟩,h2⟩:=S.excz h
 exact⟨.ref e,e1,.ref e,c,cv,b,rfl,hc,.inl ⟨e,dx,T,_,rfl,S.sub _ _ h1,S.sub _ _ h2,hk⟩,k F H _ (Q0.refl S.sub) (.bl b)⟩
def Eb {t:TA}{k:Int}(h:ρ[i]?=some (some (.zow (Gd C f ds e dx q))))(ht:Zw K t ρ [.fz (.int k)])(h1 : -(2^62)<=k)(h2:k<2^62):EvI K (Nw C e t) ρ (ZI 0 k.toNat):=fun H0 F σ H R S r =>
 ht H0 F σ H _ S fun F1 H1 vs x1 r1=>by
  cases r1 with
  |fz a b =>
    cases b
    cases a
    obtain⟨_,⟨T,g1⟩,_⟩:=(S.ext x1).excz h;refine⟨k,rfl,h1,h2,r F1 H1 _ x1 fun F2 H2 s1 s2=>⟨⟨?_,_,T,s2 _ _ (s1 _ _ g1)⟩,fun i d hd=>?_⟩⟩
    ·rw[YW];exact Xu _
    ·obtain⟨hi,rfl⟩:=YE hd
     exact⟨hi,fun x H3 hy=>by
      obtain⟨rfl,rfl⟩:=hy
      exact⟨F2,Q0.refl s2,.int _⟩⟩
def QB.freezeZX {H0 F H:Hp}{σ:St}{i:Nat}{v:V}{Φ:OwnP}{Ψ:ZP}(s:QB K H0 F ρ σ H)(e:ρ[i]?=some (some (.own v Φ)))
 (hz:∀{F F' H:Hp} {p:Qg},Φ.ok K F H v p->Q4 F F'->(∀b∈p,F' b=H b)->Ψ.ok K F' v) :
 ∃p,(∀a∈p,F a=none/\H a≠none/\H0 a=none)/\QB K H0 (frF F H p) (ρ.set i (some (.zow Ψ))) σ H:=by
 obtain⟨kt,h1,h2,fp,h3,h4,h5⟩:=s;obtain⟨u,e1,rfl,ok⟩:=h3 i _ e;have hlt:=(Xh.mp e).1;have th:=fun a ha=>Φ.there ok a ha;have sm:Q4 F (frF F H (fp i)):=Wu fun a ha=>(th a ha).1;refine⟨fp i,fun a ha=>⟨(th a ha).1,(th a ha).2,(h5 i a ha).1⟩,kt.mono sm,GB h1,by simp[h2],fun j=>if j=i then [] else fp j,fun j t' e'=>?_,fun j k b hb hc=>?_,fun j b hb=>?_⟩
 ·by_cases hj:j=i
  ·subst hj
   rw[Xo hlt]at e';cases e';refine⟨_,e1,?_,hz ok sm fun b hb=>WW hb⟩;dsimp only;rw[Xd rfl]
  ·rw[Xx (Ne.symm hj)]at e'
   obtain⟨u',f1,f2⟩:=h3 j t' e';refine⟨u',f1,?_⟩;dsimp only;rw[Xb hj];exact f2.frOther sm fun a ha z=>hj (h4 j i a ha z)
 ·by_cases hj:j=i
  ·simp[hj]at hb
  ·by_cases hk:k=i
   ·simp[hk]at hc
   ·simp only[Xb hj]at hb
    simp only[Xb hk]at hc;exact h4 j k b hb hc
 ·by_cases hj:j=i
  ·simp[hj]at hb
  ·simp only[Xb hj]at hb
   exact h5 j b hb
def C5 {t:TE}{fs:Qd}(i:Nat)(h:ρ[i]?=some (some (.own (.ref e) (WM C f ds e dx q))))(hf:B3 fs)(k:EvO K t (ρ.set i (some (.zow (Gd C f ds e dx q)))) (.ol fs)):EvO K t ρ (.ol fs):=fun H0 F σ H Q S r=>by
 obtain⟨p,hp,S'⟩:=S.freezeZX h (fun a b c=>WM.fz a b c);refine k H0 _ σ H Q S' fun F' H' u pp x hpp ok=>?_;refine r _ H' u pp (JL (fun a ha=>⟨(hp a ha).1,(hp a ha).2.1⟩) x) hpp (RA hf K F' _ H' u pp (fun a ha=>?_) ok)
 by_cases z:a∈p
 ·show(if a∈p then none else F' a)=none
  rw[Xd z]
 ·show(if a∈p then none else F' a)=none
  rw[Xb z];exact(ok.there a ha).1
def AW (Φx:Qd->Prop)(hj:j<n)(hth:∀ds e dx q,Φx ds->Q2 K (th e) ((List.replicate n none).set j (some (.own (.ref e) (WM C f ds e dx q)))) { nx:=fun ρ'=>D.nx (ρ'.set j none),rt:=fun _=>False })
 (hz:∀(E:Ends) (F0 H0 F:Hp) (σ:St) (H:Hp),Q0 F0 H0 F H->QB K H0 F ρ σ H->(∀F' H' e dct ds,Φx ds->Q0 F H F' H'->H e=none->Fld f e F' H' H dct ds->∀(σ1:St) H'' T,σ1.length=n->Lefts C e dct H' H''->H'' T=none->T≠e->th e (Dh E j) (σ1.set j (some (.ref e))) (left C e dct T H''))->tb E E σ H):Q2 K (MJ tb) ρ D:=fun F0 H0 F σ H E x S c=>by
 refine hz E F0 H0 F σ H x S fun F' H' e dct ds hds x' he fl σ1 H'' T hl hL hT hTe=>?_;obtain⟨dx,q,xs,rfl,fl⟩:=fl;have b1:H'' dx=some (.xd [(f,.ref q)]):=RK hL fl.nd fl.hd;have b2:H'' q=some (.lst xs):=RK hL fl.nq fl.hq;have nT1:dx≠T:=fun z=>by subst z;rw[hT]at b1;cases b1
 have nT2:q≠T:=fun z=>by subst z;rw[hT]at b2;cases b2
 have s1:Q4 H (left C e (some dx) T H''):=Py (.step hL hT hTe) x'.hh he;have s2:Q4 F' (left C e (some dx) T H''):=Py (.step hL hT hTe) x'.fh fl.fe;have o1:left C e (some dx) T H'' e=some (.ext (phF C e (some dx) T)):=by unfold left;rw[Qu (Ne.symm hTe),QD]
 have o2:left C e (some dx) T H'' dx=some (.xd [(f,.ref q)]):=by unfold left;rw[Qu nT1,Qu fl.nd];exact b1
 have o3:left C e (some dx) T H'' q=some (.lst xs):=by unfold left;rw[Qu nT2,Qu fl.nq];exact b2
 have X1:Q0 F0 H0 F' (left C e (some dx) T H''):=x.trans ⟨s1,x'.ff,s2,x'.fr⟩;have hj':j<σ1.length:=by omega
 refine hth ds e dx q hds F0 H0 F' (σ1.set j (some (.ref e))) _ (Dh E j) X1 ⟨S.kt.mono x'.ff,s2,by simp[hl],fun k=>if k=j then [e,dx,q] else [],fun k t ek=>?_,fun k l a ha hb=>?_,fun k a ha=>?_⟩ ⟨fun F4 σ4 H4 ρ4 x4 S4 q4=>c.nx F4 _ H4 _ x4 (S4.setN none) q4,fun _ _ _ _ _ _ _ _ z=>False.elim z,fun _ _ _ _ _ _ z=>False.elim z,fun _ _ _ _ _ _ z=>False.elim z⟩
 ·by_cases hk:k=j
  ·subst hk
   rw[Xo (by simpa using hj)]at ek;cases ek;refine⟨.ref e,Xo hj',?_⟩;dsimp only;rw[Xd rfl];exact⟨rfl,rfl,⟨fl.fe,fl.fd,fl.fq⟩,⟨T,o1⟩,o2,xs,o3,fl.rp⟩
  ·rw[Xx (Ne.symm hk),List.getElem?_replicate]at ek
   split at ek<;>cases ek
 ·by_cases hk:k=j
  ·by_cases hm:l=j
   ·omega
   ·simp[hm]at hb
  ·simp[hk]at ha
 ·dsimp only at ha
  by_cases hk:k=j
  ·rw[Xd hk]at ha
   rcases Xg.mp ha with rfl|ha
   ·exact⟨x.hh.free he,Zy o1⟩
   ·rcases Xg.mp ha with rfl|ha
    ·exact⟨x.hh.free fl.d0,Zy o2⟩
    ·rcases Xg.mp ha with rfl|ha
     ·exact⟨x.hh.free fl.q0,Zy o3⟩
     ·cases ha
  ·simp[hk]at ha
end
section
variable {K:W.Frag}{ρ:Q1}{te:TE}{D:PEnds}{i j k:Nat}{Θ:Int->OT->Prop}{r:R2}{c:V}{Ψ:OT->Q1->Prop}
def TM {s:TE->TS}(hw:EvW K te ρ i Θ)(hs:∀(H0 F:Hp) (σ:St) (H:Hp) (E:Ends),QB K H0 F ρ σ H->(∀Q:VK,(∀n H1,s (tC (.int n)) E σ H1->Q (.int n) H1)->te σ H Q)->s te E σ H)
 (hn:∀n o,Θ n o->EvR K (s (tC (.int n))) (ρ.set i (some o)) Ψ):EvR K (s te) ρ Ψ:=fun F0 H0 F σ H E x S c =>
 hs H0 F σ H E S fun Q hQ=>hw F0 H0 F σ H Q x S fun F' H' n o hΘ x' _ S'=>hQ n H' (hn n o hΘ F0 H0 F' σ H' E x' S' c)
def BY (hw:EvW K te ρ i Θ)(hn:∀n o,Θ n o->D.nx ((ρ.set i (some o)).set j (some (.fz (.int n))))):Q2 K (Ve te (ZJ j)) ρ D :=
 G1 (s:=fun x=>Ve x (ZJ j)) hw (fun _ _ _ _ _ _ h=>h _ fun _ _ q=>q) fun n o h=>ZK Q7 (hn n o h)
def RL (hw:EvW K te ρ i Θ)(hn:∀n o,Θ n o->Q2 K (Ve (tOp r (tC c) (tC (.int n))) (ZJ j)) (ρ.set i (some o)) D):Q2 K (Ve (tOp r (tC c) te) (ZJ j)) ρ D :=
 G1 (s:=fun x=>Ve (tOp r (tC c) x) (ZJ j)) hw (fun _ _ _ _ _ _ h=>h _ fun _ _ q=>q) hn
def FW {d:PyData}(ek:ρ[k]?=some (some (.fz d)))(hw:EvW K te ρ i Θ)(hn:∀n o,Θ n o->Q2 K (Ve (tOp r (Q8 k) (tC (.int n))) (ZJ j)) (ρ.set i (some o)) D):Q2 K (Ve (tOp r (Q8 k) te) (ZJ j)) ρ D :=
 G1 (s:=fun x=>Ve (tOp r (Q8 k) x) (ZJ j)) hw (fun H0 F σ H E S h=>by
  obtain⟨fp,g,_⟩:=S.fp;obtain⟨v',e1,_⟩:=g k _ ek
  exact⟨v',e1,h _ fun n H1 ⟨v'',e2,q⟩=>by rw[e1]at e2;cases e2;exact q⟩) hn
def Fj {g:TG}{b:TS}(hw:EvW K te ρ i Θ)(hn:∀n o,Θ n o->Q2 K (Ur (Gq (QE (tOp r (tC c) (tC (.int n))) QN)) g b) (ρ.set i (some o)) D):Q2 K (Ur (Gq (QE (tOp r (tC c) te) QN)) g b) ρ D :=
 G1 (s:=fun x=>Ur (Gq (QE (tOp r (tC c) x) QN)) g b) hw (fun _ _ _ _ _ _ h=>h _ fun _ _ q=>q) hn
def Fn {b:Nat}{ds:Qd}{d:PyData}{r2:List V->Hp->VK->Prop}{r3:R2}(eb:ρ[b]?=some (some (.ol ds)))(ek:ρ[k]?=some (some (.fz d)))(hw:EvW K te ρ i Θ)
 (hn:∀n o,Θ n o->Q2 K (VC (tBM K "list" Yc (Q8 b) (QE (tOp r (Q8 k) (tCB r2 (QE (tOp r3 (tC (.int n)) (tC c)) QN))) QN))) (ρ.set i (some o)) D) :
 Q2 K (VC (tBM K "list" Yc (Q8 b) (QE (tOp r (Q8 k) (tCB r2 (QE (tOp r3 te (tC c)) QN))) QN))) ρ D :=
 G1 (s:=fun x=>VC (tBM K "list" Yc (Q8 b) (QE (tOp r (Q8 k) (tCB r2 (QE (tOp r3 x (tC c)) QN))) QN))) hw (fun H0 F σ H E S h=>by
  obtain⟨fp,g,_⟩:=S.fp;obtain⟨v',e1,_⟩:=g k _ ek;obtain⟨u,e2,a,rfl,_,_,xs,ha,_⟩:=g b _ eb;refine⟨.ref a,e2,.inl ⟨rfl,_,SqL.of ha⟩,v',e1,h _ fun n H1 ⟨u2,e3,_,v2,e4,q⟩=>?_⟩;rw[e2]at e3;cases e3;rw[e1]at e4;cases e4;exact q) hn
def Ft {a1 a2 a3 a4:Nat}{d1 d2 d3 d4:PyData}(e1:ρ[a1]?=some (some (.fz d1)))(e2:ρ[a2]?=some (some (.fz d2)))(e3:ρ[a3]?=some (some (.fz d3)))(e4:ρ[a4]?=some (some (.fz d4)))(hw:EvW K te ρ i Θ)
 (hn:∀n o,Θ n o->EvR K (Yo (Gh (QE (Q8 a1) (QE (Q8 a2) (QE (Q8 a3) (QE (Q8 a4) (QE (tOp r (tC c) (tC (.int n))) QN))))))) (ρ.set i (some o)) Ψ) :
 EvR K (Yo (Gh (QE (Q8 a1) (QE (Q8 a2) (QE (Q8 a3) (QE (Q8 a4) (QE (tOp r (tC c) te) QN))))))) ρ Ψ :=
 TM (s:=fun x=>Yo (Gh (QE (Q8 a1) (QE (Q8 a2) (QE (Q8 a3) (QE (Q8 a4) (QE (tOp r (tC c) x) QN))))))) hw (fun H0 F σ H E S h=>by
  obtain⟨fp,g,_⟩:=S.fp;obtain⟨v1,f1,_⟩:=g a1 _ e1;obtain⟨v2,f2,_⟩:=g a2 _ e2;obtain⟨v3,f3,_⟩:=g a3 _ e3;obtain⟨v4,f4,_⟩:=g a4 _ e4;refine⟨v1,f1,v2,f2,v3,f3,v4,f4,h _ fun n H1 ⟨u1,k1,u2,k2,u3,k3,u4,k4,q⟩=>?_⟩;rw[f1]at k1;cases k1;rw[f2]at k2;cases k2;rw[f3]at k3;cases k3;rw[f4]at k4;cases k4;exact q) hn
end
section
variable {prog:Program}{w:World}{A:Around}{E:Qb}{s:Shared}
theorem SJ {it t:Addr}{items:Array Value}(hne:t≠it):∀(n i:Nat) (s:Shared) (Q:Qe->Shared->Prop),s.heap.IsListIter it t i->s.heap.IsList t items->i+n<=items.size ->
 (∀h',h'.IsListIter it t (i+n)->Heap.SameBut it s.heap h'->Q ((items.toList.drop i).take n) { s with heap:=h' })->wpAny (model prog w) A (draw (.ref it) n) Q E s
 |0,i,s,Q,hit,_,_,hQ=>by
   show wpAny _ _ (pure []) Q E s;exact Xn (by simpa using hQ s.heap hit (Heap.SameBut.refl ..))
 |n+1,i,s,Q,hit,ht,hle,hQ=>by
   have hlt:i<items.size:=by omega
   show wpAny _ _ (pyNext (.ref it) >>= _) Q E s;refine Xa (wpAny_pyNext_list_item hit ht (x:=items[i]) (by simp[hlt]) fun b8 c7 bq=>?_);refine Xa (wpAny_holding (SJ hne n (i+1) _ _ c7 (ht.extBut bq.extBut hne) (by omega) fun bj d8 d9=>Xn ?_));have hd:items.toList.drop i=items[i]::items.toList.drop (i+1):=by simp[List.drop_eq_getElem_cons,hlt]
   have:=hQ bj (by rw[show i+(n+1)=i+1+n by omega];exact d8) (bq.trans d9)
   rw[hd,List.take_succ_cons]at this;exact this
def Ic {t:Addr}{items:Array Value}{Q:Qe->Shared->Prop}(hh:A.handled=none)(ht:s.heap.IsList t items)
 (hQ:∀h',Heap.ExtBut s.heap.objs.size s.heap h'->Q items.toList { s with heap:=h' }):wpAny (model prog w) A (unpackItems (.ref t) items.size none) Q E s:=by
 have hlt:t≠s.heap.objs.size:=by obtain⟨o,ho,_⟩:=ht;exact Xp (Xj ho)
 unfold unpackItems;refine Xa ?_
 ·unfold notIterableAtAll
  refine Xa (wpAny_specialOf ht.typeIs F.slot_list_iter.lookup ?_);refine Xn ?_;simp only[XZ,if_false];refine Xa (wpAny_holding (wpAny_pyIter_list ht ?_));refine Xa (wpAny_holding (SJ hlt items.size 0 _ _ ⟨_,Xy _ rfl,rfl,rfl⟩ (ht.push _) (by omega) fun b8 c7 bq=>?_))
  have hall:List.take items.size (List.drop 0 items.toList)=items.toList:=by
   rw[List.drop_zero];exact List.take_of_length_le (by simp)
  rw[hall];rw[Xb (by simp)];have dj:b8.IsList t items:=(ht.push _).extBut bq.extBut hlt;refine Xa (wpAny_holding (wpAny_pyNext_list_end hh c7 dj (by simp) fun bj c6=>?_));simp only[Option.isSome_none,XZ,if_false];refine Xn (hQ bj fun b o hb e=>c6 b o hb (bq.extBut b o hb (Xf _ e)))
def Ip {env:Env}{elts:Qi}{x1}{pos:Pos}{t:Addr}{items:Array Value}{Q:Unit->Shared->Prop}(hh:A.handled=none)(ht:s.heap.IsList t items)
 (hn:(assignEach elts env).length=items.size) (hstar:(assignEach elts env).findIdx? (·.1)=none)
 (h:∀h',Heap.ExtBut s.heap.objs.size s.heap h'->wpAny (model prog w) A (assignInOrder ((assignEach elts env).map (·.2)) items.toList) Q E { s with heap:=h' }) :
 wpAny (model prog w) A (assign (.Tuple elts x1 pos) env (.ref t)) Q E s:=by
 rw[arm_assign_Tuple];refine Xa (wpAny_standAt ?_);unfold unpack;rw[hn,hstar];exact Xa (wpAny_holding (Ic hh ht h))
end
section
variable {X:Cx}{pos:Pos}
def K5 (K:W.Frag)(n:Nat)(t:TGs):TG:=fun v σ H Q=>∃a xs,v=.ref a/\SqL K H a xs/\xs.length=n/\t xs σ H Q
def La {es:Qi}{k:Nat}{t:TGs}{n:Nat}(hc:X.calm=true)(h:PGs X es t)
 (hn:(assignEach es X.env).length=n:=by rfl) (hst:(assignEach es X.env).findIdx? (·.1)=none:=by rfl):PG X (.Tuple es k pos) (K5 X.K n t):=by
 intro Xa1 s σ H v u Q I r hw;obtain⟨a,xs,e1,hq,hl,hw⟩:=hw;subst e1;cases r;obtain⟨its,rv,ht,hz⟩:=I.list hq;refine Ip (I.ok.hd hc) ht.isList (by simp[hn,<- hl,rv.length]) hst fun h' hx=>?_;have I1:Qr X Xa1 σ H { s with heap:=h' }:=I.kept (t':=s.toks) fun b o e=>hx b o (Xp (Xj e)) e;exact h Xa1 _ σ H xs _ Q I1 (by simpa using rv) hw
end
def T4 {K:W.Frag}{ρ:Q1}{n:Nat}{gs:TGs}{ds:Qd}{ρ1:Q1}(h:Gg K gs ds ρ ρ1)(hn:ds.length=n):GTo K (K5 K n gs) (.list ds) ρ ρ1:=fun H0 F σ H x Q S r q=>by
 cases r with
 |@lst a xs _ h1 h2=>exact⟨a,xs,rfl,SqL.of (S.sub _ _ h1),by rw[h2.length,hn],h H0 F σ H xs Q S h2 q⟩
def Pu {K:W.Frag}{ρ:Q1}{ta:TE}{t:TA}{ts:List OT}{R:Qd->List OT->(OT->Qd->Prop)->Prop}{Φ1 Φ:OT->Prop}{E':XK}(h:Zv K ta ρ Φ1)(hA:Zw K t ρ ts)(hR:∀r,Φ1 r->∃ds Ψ,r=.ol ds/\R ds ts Ψ/\∀r ds',Ψ r ds'->Φ r) :
 Zv K (Vv (spP K olP R) [] E' (QE ta t)) ρ Φ:=fun H0 F σ H Q S q =>
 h H0 F σ H _ S fun F1 H1 u p r0 hr0 x1 hp ok=>by
  obtain⟨ds,Ψ,rfl,hR,hn⟩:=hR r0 hr0;refine hA H0 F1 σ H1 _ (S.ext x1) fun F2 H2 vs x2 r2=>?_;have ok2:=ok.ext x2;obtain⟨a,rfl,rfl,ol⟩:=ok2;have x12:=x1.trans x2;have ha:H a=none:=hp a Xc;refine⟨F2,.ref a,vs++[],[a],ts,ds,Ψ,rfl,(S.ext x12).kt,x2.fh,by rw[XD];exact r2,⟨a,rfl,rfl,ol⟩,hR,fun F' H' p' N' v' r qq hr xn ok' sub sok hq=>?_⟩;refine q F' H' v' qq r (hn r N' hr) ⟨fun b o hb=>?_,x12.ff.trans xn.ff,xn.fh,fun b hb=>?_⟩ (fun b hb=>?_) sok
  ·refine xn.hh b o (fun z=>?_) (x12.hh b o hb)
   cases Xi.mp z
   rw[ha]at hb;cases hb
  ·rcases xn.fr b hb with z|z|z
   ·exact x12.fr b z
   ·exact .inr (x12.hh.free z)
   ·cases Xi.mp z;exact .inr ha
  ·rcases(hq b hb).1 with z|z
   ·cases Xi.mp z;exact ha
   ·exact x12.hh.free z
section
variable {K:W.Frag}{ρ:Q1}{te ty tv:TE}{t:TA}{D:PEnds}{i j:Nat}{v:V}{C:Addr}{N:HandS}{m:Str}{ts:List OT}
def Fc {Φ:OT->Prop}{ds:Qd}(e:ρ[i]?=some (some (.ol ds)))(h:Zv K te ρ Φ)(hl:ds.length<1000)(hn:∀r,Φ r->∃d,r=.fz d/\D.nx (ρ.set i (some (.ol (ds++[d]))))) :
 Q2 K (VC (tBM K "list" Yc (Q8 i) (QE te QN))) ρ D:=fun F0 H0 F σ H E x S c=>by
 obtain⟨a,xs,e1,e2,e3,_⟩:=S.write e;refine⟨_,e1,.inl ⟨rfl,_,SqL.of e2⟩,h H0 F σ H _ S fun F1 H1 u p r hr x1 hp ok=>?_⟩;obtain⟨d,rfl,hn⟩:=hn r hr;obtain⟨a',xs',f1,f2,f3,f4,f5,f6⟩:=(S.ext x1).write e;rw[e1]at f1;cases f1;refine⟨a,xs',u,rfl,rfl,f2,by rw[f3.length];exact Vr (by omega),?_⟩;exact c.nx F1 σ _ _ ((x.trans x1).wr f4 f5) (f6 _ _ (f3.snoc ok.2)) hn
def HandOk.setGone {F H:Hp}{a dx k g d m:Addr}{y:V}{xs:List (Key×V)}{as:Qg}(ok:HandOk C N F H a dx k g d m y xs as){ns:ZF}{zs:List (Key×V)}(hr:PairK F zs ns) :
 HandOk C { N with gone:=ns } F (upd H d (.dK zs)) a dx k g d m y zs as:=by
 obtain⟨nd,⟨i1,i2⟩,⟨o1,o2⟩,yd,⟨k1,kx,k2,k3⟩,⟨g1,gx,g2,g3⟩,⟨d1,d2,d3⟩,⟨m1,m2,m3⟩⟩:=ok;have nd':=nd;simp only[XO,Xg,not_or]at nd';obtain⟨⟨a1,a2,a3,a4,_⟩,⟨b1,b2,b3,_⟩,⟨c1,c2,_⟩,⟨f1,_⟩,⟨h1,h2⟩,_⟩:=nd'
 exact⟨nd,⟨i1,by rw[Qu a4];exact i2⟩,⟨o1,by rw[Qu b3];exact o2⟩,yd,⟨k1,kx,by rw[Qu c2];exact k2,k3⟩,⟨g1,gx,by rw[Qu f1];exact g2,g3⟩,⟨d1,QD,hr⟩,⟨m1,by rw[Qu (Ne.symm h1)];exact m2,m3.other h2⟩⟩
def FJ {k:Key}{d:PyData}(c:HandC K C)(e:ρ[i]?=some (some (.own v (QQ C N))))(hv:Qt K tv ρ d)(hy:Qt K ty ρ (Gc k))(hz:N.gone.length<sizeLine)
 (hn:D.nx (ρ.set i (some (.own v (QQ C { N with gone:=MS N.gone k d }))))):Q2 K (MR (V3 K (Q8 i) "gone") ty tv) ρ D:=fun F0 H0 F σ H E x S C' =>
 hv H0 F σ H _ S fun F1 H1 u x1 r1=>by
  obtain⟨a,dx,kk,g,d,m,y,xs,as,rfl,e1,ok,_⟩:=(S.ext x1).hand e;refine⟨_,e1,a,C,dx,_,.ref d,rfl,ok.ins.2,c.cl,c.go,rfl,hy H0 F1 σ H1 _ (S.ext x1) fun F2 H2 y2 x2 r2=>?_⟩;obtain⟨a',dx',k',g',d',m',y',xs',as',ea,g1,ok',hp,wr⟩:=(S.ext (x1.trans x2)).hand e
  cases ea
  obtain⟨rfl,rfl,rfl,rfl,rfl,rfl⟩:=ok.same ok' ((x2.hh _ _ ok.ins.2).trans ok.ins.2.symm);obtain⟨q1,q2,q3⟩:=ok'.gone;have hr0:=hp d' (by simp);rw[DP r2];refine⟨d',_,rfl,WO.k q2 (by rw[q3.length];exact hz),?_⟩;exact C'.nx F2 σ _ _ ((x.trans (x1.trans x2)).wr hr0.1 hr0.2.1) (wr _ _ y' _ as' ((S.ext (x1.trans x2)).sub.upd hr0.2.1) (fun b hb _=>Qu fun z=>hb (by rw[z];simp)) Yz (ok'.setGone (q3.put k (r1.mono x2.ff))) (fun b hb=>.inl hb)) hn
def CU {R:HandS->List OT->(OT->HandS->Prop)->Prop}{Ψ:OT->HandS->Prop}{E':XK}(hm:NoH m)(e:ρ[i]?=some (some (.own v (QQ C N))))(hA:Zw K t ρ ts)(hR:R N ts Ψ)
 (hn:∀r N',Ψ r N'->D.nx (ρ.set i (some (.own v (QQ C N'))))):Q2 K (VC (VR C m (spP K (QQ C) R) [] E' (Q8 i) t)) ρ D:=fun F0 H0 F σ H E x S C'=>by
 obtain⟨p0,s0,ok0,_⟩:=YV S x e;obtain⟨a0,dx,y,n,k,g,d,e',rfl,h1⟩:=QQ.at ok0;refine⟨.ref a0,s0,a0,dx,_,rfl,h1,hm _ _ _ _ _ _,hA H0 F σ H _ S fun F2 H2 vs x2 r2=>?_⟩;obtain⟨p,s1,okp,fin⟩:=YV (S.ext x2) (x.trans x2) e;refine⟨F2,_,vs++[],p,ts,N,Ψ,rfl,(S.ext x2).kt,x2.fh,by rw[XD];exact r2,okp,hR,fun F' H' p' N' v' r q hr xn ok' sub sok hq=>?_⟩;obtain⟨X',S',_⟩:=fin F' H' p' N' xn ok' sub;exact C'.nx F' σ H' _ X' S' (hn r N' hr)
end
section
variable {P:Program}{w:World}{K:W.Frag}{mg:Str->Qf}{base:Heap}
def Mf.evP {α:Type}{Φ:α->OwnP}{C:Addr}{m qual:Str}{st:Stmt}{L ps:Qh}{k:Nat}{R:α->List OT->(OT->α->Prop)->Prop}(D:Mf K C m qual st ps)(S:Qp L ps (Qy st))(len:∀M ts Ψ,R M ts Ψ->ts.length+1=ps.length)
 (hret:∀(f:Addr) (cdv:Value) (A:Around) (outer:List Env) (s:Shared) (H:Hp) (E:XK) (v:V) (M:α) (ts:List OT) (Ψ:OT->α->Prop),Room k (A.deeper (envOfC qual (Qy st) s.heap.objs.size f cdv))->R M ts Ψ ->
  ∃t,PSs (Vo CX0 P w K mg base L qual (Qy st) f cdv A outer s H E).nox (Zi st) t/\EvR K t (some (.own v (Φ M))::(ts.map some++List.replicate (L.length-(ts.length+1)) none)) (fun r ρ'=>∃M',Ψ r M'/\ρ'[0]?=some (some (.own v (Φ M'))))):Zz P w K mg base C m ps (k+1) (spP K Φ R):=by
 obtain⟨f,fd,F,hm,hb⟩:=D.ex;refine⟨f,fd,hm,hb,F.ok S (fun vs H Q E h=>?_) fun cdv A outer s H vs Q E hr h=>?_⟩
 ·obtain⟨F,v0,vs',p,ts,M,Ψ,e,_,_,ha,_,hR,_⟩:=h
  rw[e,XJ,ha.length];exact len _ _ _ hR
 ·obtain⟨F,v0,vs',p,ts,M,Ψ,e,kt,sm,ha,ok,hR,q⟩:=h
  subst e;obtain⟨t,h1,h2⟩:=hret f cdv A outer s H E v0 M ts Ψ hr hR
  exact⟨t,h1,BQ (R:=R) h2 kt sm ha ok q⟩
end
section
variable {K:W.Frag}{ρ:Q1}{D:PEnds}{i:Nat}{v:V}{C:Addr}
def Ru {α:Type}{wi:TI}{g:CIn->TG}{tcc:CIn->TT}{tee:CIn->TE}{xs:List α}{enc:α->PyData}{R:HandS->List OT->(OT->HandS->Prop)->Prop}{R2:List OT->(OT->Prop)->Prop}{N0:HandS}(J:Nat->HandS->Qd->Prop)(E':XK)
 (hi:EvI K wi ρ (xs.map enc)) (hl:xs.length<=1000) (e:ρ[i]?=some (some (.own v (QQ C N0)))) (j0:J 0 N0 [])
 (hgt:∀c,g c=ZJ 0) (htc:∀c,tcc c=W4) (hte:∀c,tee c=tOp (rIx K) (Vv (Wf K C R R2) [] E' (QE (Q8 1) (QE (Q8 0) QN))) (tC (.int 0)))
 (hs:∀(k:Nat) (hk:k<xs.length) (N:HandS) (ds:Qd),J k N ds ->
  (∃Ψ,R N [.fz (enc xs[k])] Ψ/\∀r N',Ψ r N'->∃d dd w,r=.ol (d::dd)/\Zx d=some w/\J (k+1) N' (ds++[d])) \/
  (∃Φ,R2 [.zow (Zr C N),.fz (enc xs[k])] Φ/\∀r,Φ r->∃v' d w dd,r=.own v' (lsO d dd)/\Zx d=some w/\J (k+1) N (ds++[d])))
 {F0 H0 F:Hp} {σ:St} {H:Hp} {Q:VK} (x:Q0 F0 H0 F H) (S:QB K H0 F ρ σ H)
 (hq:∀F' H' N' ds zs,J xs.length N' ds->Q0 F0 H0 F' H'->QB K H0 F' (ρ.set i (some (.own v (QQ C N')))) σ H'->Qv F' zs ds->(∀d∈ds,∃w,Zx d=some w)->∀p,H' p=none->Q (.ref p) (upd H' p (.lst zs))):tLC [none,some i] wi g tcc tee σ H Q :=
 hi H0 F σ H _ S fun F1 H1 It x1 W c=>by
  have hn:xs.length<=sizeLine:=Y1 (Vr hl);have hil:=(Xh.mp e).1
  refine⟨fun k m ys H=>m=xs.length-k/\k<=xs.length/\∃F' N ds,Q0 F0 H0 F' H/\Q4 F1 F'/\QB K H0 F' (ρ.set i (some (.own v (QQ C N)))) σ H/\J k N ds/\Qv F' ys ds/\(∀d∈ds,∃w,Zx d=some w)/\ds.length=k,
   ⟨xs.length,by simp,XM _,F1,N0,[],x.trans x1,Q4.refl _,?_,j0,.nil,(fun d hd=>nomatch hd),rfl⟩,?_⟩
  ·have z:ρ.set i (some (.own v (QQ C N0)))=ρ:=by
    apply List.ext_getElem?
    intro k;by_cases hk:k=i
    ·subst hk;rw[Xo hil,e]
    ·rw[Xx (Ne.symm hk)]
   rw[z];exact S.ext x1
  rintro k m ys H' ⟨rfl,hle,F',N,ds,x',s',S',hJ,rp,fl,dl⟩
  obtain⟨w1,w2⟩:=W F' H' s' S'.sub
  by_cases hlt:k<xs.length
  ·have ek:(xs.map enc)[k]?=some (enc xs[k]):=by simp[hlt]
   obtain⟨go,yl⟩:=w2 k _ ek;refine .inr ⟨go,fun u H3 y=>?_⟩;obtain⟨F3,x3,r3⟩:=yl u H3 y;rw[hgt c,htc c,hte c];have S3:=S'.ext x3;have X3:=x'.trans x3;have e':(ρ.set i (some (.own v (QQ C N))))[i]?=some (some (.own v (QQ C N))):=Xo hil;have setset:∀o:Option OT,(ρ.set i (some (.own v (QQ C N)))).set i o=ρ.set i o:=fun o=>by rw[List.set_set]
   obtain⟨p,s1,okp,fin⟩:=YV S3 X3 e';have rp3:=rp.mono x3.ff;dsimp only[ZJ,W4];rw[Xd rfl];refine⟨v,by simp[ZH,s1],u,by simp[ZH],?_⟩
   have fin2:∀{F4 H4:Hp} {N':HandS} {d:PyData} {w z:V},Zx d=some w->J (k+1) N' (ds++[d])->Q0 F0 H0 F4 H4->Q4 F3 F4->QB K H0 F4 (ρ.set i (some (.own v (QQ C N')))) σ H4->Rep F4 z d->ys.length<sizeLine/\∃m',m'<xs.length-k/\(m'=xs.length-(k+1)/\k+1<=xs.length/\∃F' N ds,Q0 F0 H0 F' H4/\Q4 F1 F'/\QB K H0 F' (ρ.set i (some (.own v (QQ C N)))) σ H4/\J (k+1) N ds/\Qv F' (ys++[z]) ds/\(∀d∈ds,∃w,Zx d=some w)/\ds.length=k+1):=fun{F4 H4 N' d w z} hf hJ' X4 sm S4 rz=>by
    refine⟨by rw[rp.length,dl];omega,_,by omega,rfl,hlt,F4,N',_,X4,(s'.trans x3.ff).trans sm,S4,hJ',(rp3.mono sm).snoc rz,fun d' hd'=>?_,by rw[Xm,dl];rfl⟩
    rcases XG.mp hd' with h|h
    ·exact fl d' h
    ·rw[Xi.mp h];exact⟨w,hf⟩
   rcases hs k hlt N ds hJ with ⟨Ψ,hR,hΨ⟩|⟨Φ,hR,hΦ⟩
   ·refine .inl ⟨F3,v,[u],p,_,N,Ψ,rfl,S3.kt,x3.fh,.fz r3 .nil,okp,hR,fun F4 H4 p' N' v' r q hr xn ok' sub sok hq'=>?_⟩
    obtain⟨d,dd,w,rfl,hf,hJ'⟩:=hΨ r N' hr;obtain⟨X4,S4,_⟩:=fin F4 H4 p' N' xn ok' sub;rw[setset]at S4;obtain⟨b,rfl,rfl,b1,zs,b2,b3⟩:=sok
    cases b3 with
    |@cons z zs' _ _ z1 z2 =>
      exact .inl ⟨b,_,0,z,rfl,rfl,SqL.of b2,Va (j:=0) rfl,fin2 hf hJ' X4 xn.ff S4 z1⟩
   ·obtain⟨pf,hpf,Sf⟩:=S3.freezeZ e' (fun a b c=>QQ.fz a b c)
    obtain⟨fp,g1,_⟩:=Sf.fp;obtain⟨v2,f1,_,zok⟩:=g1 i _ (Xo (by simpa using hil));rw[s1]at f1;cases f1;have smf:Q4 F3 (frF F3 H3 pf):=Wu fun a ha=>(hpf a ha).1;refine .inr ⟨frF F3 H3 pf,_,Φ,Sf.kt,Sf.sub,.zow (Ψ:=Zr C N) zok (.fz (r3.mono smf) .nil),hR,fun F4 H4 v' q r hr x4 hq' sok=>?_⟩;obtain⟨v'',d,w,dd,rfl,hf,hJ'⟩:=hΦ r hr;have xt:=JL (fun a ha=>⟨(hpf a ha).1,(hpf a ha).2.1⟩) x4;obtain⟨_,a,b,z,rfl,rfl,nab,fa,ha,rz,_⟩:=sok;exact .inl ⟨a,_,0,z,rfl,rfl,SqL.of ha,Va (j:=0) rfl,fin2 hf hJ' (X3.trans xt) xt.ff (S3.ext xt) (rz.thin hf)⟩
  ·have ek:k=xs.length:=by omega
   subst ek;refine .inl ⟨by simpa using w1,fun p hp=>hq F' H' N ds ys hJ x' S' rp fl p hp⟩
end
section
variable {K:W.Frag}{ρ:Q1}{D:PEnds}{i j:Nat}{v:V}{C:Addr}{N:HandS}{t:TA}{ts:List OT}{te:TE}{R:HandS->List OT->(OT->HandS->Prop)->Prop}{R2:List OT->(OT->Prop)->Prop}{E':XK}
def A6 {th el:TS}{Ψ:OT->HandS->Prop}(e:ρ[i]?=some (some (.own v (QQ C N))))(hA:Zw K t ρ ts)(hR:R N ts Ψ)
 (hn:∀r N',Ψ r N'->∃ds,r=.ol ds/\Vs (.list ds)/\Qt K te (ρ.set i (some (.own v (QQ C N')))) (.list ds)/\(!PyData.eqv (.list ds) (.list ds))=false/\Q2 K el (ρ.set i (some (.own v (QQ C N')))) D) :
 Q2 K (Bo (Gm (tOp MH (Vv (Wf K C R R2) [] E' (QE (Q8 i) t)) te)) th el) ρ D:=fun F0 H0 F σ H E x S c=>by
 obtain⟨p0,s0,_⟩:=YV S x e;refine⟨_,s0,hA H0 F σ H _ S fun F1 H1 vs x1 r1=>.inl ?_⟩;obtain⟨p,s1,okp,fin⟩:=YV (S.ext x1) (x.trans x1) e;refine⟨F1,_,vs++[],p,ts,N,Ψ,rfl,(S.ext x1).kt,x1.fh,by rw[XD];exact r1,okp,hR,fun F' H' p' N' v' r q hr xn ok' sub sok hq=>?_⟩;obtain⟨ds,rfl,fd,he,hb,hel⟩:=hn r N' hr;obtain⟨X',S',_⟩:=fin F' H' p' N' xn ok' sub;refine he H0 F' σ H' _ S' fun F2 H2 y x2 r2=>?_;obtain⟨b,rfl,rfl,b1,zs,b2,b3⟩:=sok;refine⟨.list ds,.list ds,.lst (x2.hh _ _ b2) (b3.mono (xn.fh.trans x2.hh)),r2.mono x2.fh,fd,fd,_,rfl,?_⟩;rw[hb];dsimp only;rw[Xb (by decide)];exact hel F0 H0 F2 σ H2 E (X'.trans x2) (S'.ext x2) c
def KL (K:W.Frag)(t:TE)(ρ:Q1)(i:Nat)(Θ:PyData->OT->Prop):Prop := ∀(F0 H0 F:Hp) (σ:St) (H:Hp) (Q:VK),Q0 F0 H0 F H->QB K H0 F ρ σ H ->
 (∀F' H' d w o,Θ d o->Zx d=some w->Q0 F0 H0 F' H'->Q4 F F'->QB K H0 F' (ρ.set i (some o)) σ H'->Q w H')->t σ H Q
def Ff {s:TE->TS}{Θ:PyData->OT->Prop}(hw:KL K te ρ i Θ)(hs:∀(H0 F:Hp) (σ:St) (H:Hp) (E:Ends),QB K H0 F ρ σ H->(∀Q:VK,(∀w H1,s (tC w) E σ H1->Q w H1)->te σ H Q)->s te E σ H)
 (hn:∀d w o,Θ d o->Zx d=some w->Q2 K (s (tC w)) (ρ.set i (some o)) D):Q2 K (s te) ρ D:=fun F0 H0 F σ H E x S c =>
 hs H0 F σ H E S fun Q hQ=>hw F0 H0 F σ H Q x S fun F' H' d w o hΘ hf x' _ S'=>hQ w H' (hn d w o hΘ hf F0 H0 F' σ H' E x' S' c)
def Cr {Θ:PyData->OT->Prop}(e:ρ[i]?=some (some (.own v (QQ C N))))(hA:Zw K t ρ ts)
 (hs:(∃Ψ,R N ts Ψ/\∀r N',Ψ r N'->∃d dd w,r=.ol (d::dd)/\Zx d=some w/\Θ d (.own v (QQ C N'))) \/
  (∃Φ,R2 (.zow (Zr C N)::ts) Φ/\∀r,Φ r->∃v' d w dd,r=.own v' (lsO d dd)/\Zx d=some w/\Θ d (.own v (QQ C N)))) :
 KL K (tOp (rIx K) (Vv (Wf K C R R2) [] E' (QE (Q8 i) t)) (tC (.int 0))) ρ i Θ:=fun F0 H0 F σ H Q x S q=>by
 have hil:=(Xh.mp e).1;obtain⟨p0,s0,_⟩:=YV S x e;refine⟨_,s0,hA H0 F σ H _ S fun F1 H1 vs x1 r1=>?_⟩;have S1:=S.ext x1;have X1:=x.trans x1;obtain⟨p,s1,okp,fin⟩:=YV S1 X1 e
 rcases hs with ⟨Ψ,hR,hΨ⟩|⟨Φ,hR,hΦ⟩
 ·refine .inl ⟨F1,_,vs++[],p,ts,N,Ψ,rfl,S1.kt,x1.fh,by rw[XD];exact r1,okp,hR,fun F' H' p' N' v' r qq hr xn ok' sub sok hq=>?_⟩
  obtain⟨d,dd,w,rfl,hf,hΘ⟩:=hΨ r N' hr;obtain⟨X',S',_⟩:=fin F' H' p' N' xn ok' sub;obtain⟨b,rfl,rfl,b1,zs,b2,b3⟩:=sok
  cases b3 with
  |@cons z zs' _ _ z1 z2 =>
    have ew:=z1.flat hf;subst ew;exact .inl ⟨b,_,0,z,rfl,rfl,SqL.of b2,Va (j:=0) rfl,q F' H' d z _ hΘ hf X' (x1.ff.trans xn.ff) S'⟩
 ·obtain⟨pf,hpf,Sf⟩:=S1.freezeZ e (fun a b c=>QQ.fz a b c)
  obtain⟨fp,g1,_⟩:=Sf.fp;obtain⟨v2,f1,_,zok⟩:=g1 i _ (Xo hil);rw[s1]at f1;cases f1;have smf:Q4 F1 (frF F1 H1 pf):=Wu fun a ha=>(hpf a ha).1;refine .inr ⟨frF F1 H1 pf,_,Φ,Sf.kt,Sf.sub,.zow (Ψ:=Zr C N) zok (by show Args K _ (vs++[]) ts;rw[XD];exact r1.mono smf),hR,fun F4 H4 v' qq r hr x4 hq' sok=>?_⟩;obtain⟨v'',d,w,dd,rfl,hf,hΘ⟩:=hΦ r hr;have xt:=JL (fun a ha=>⟨(hpf a ha).1,(hpf a ha).2.1⟩) x4;obtain⟨_,a,b,z,rfl,rfl,nab,fa,ha,rz,_⟩:=sok;have ew:=rz.flat hf;subst ew;refine .inl ⟨a,_,0,z,rfl,rfl,SqL.of ha,Va (j:=0) rfl,q _ H4 d z _ hΘ hf (X1.trans xt) (x1.ff.trans xt.ff) ?_⟩
  have ze:ρ.set i (some (.own v (QQ C N)))=ρ:=by
   apply List.ext_getElem?
   intro k;by_cases hk:k=i
   ·subst hk;rw[Xo hil,e]
   ·rw[Xx (Ne.symm hk)]
  rw[ze];exact S1.ext xt
def Ap {α:Type}{wi:TI}{g:CIn->TG}{tcc:CIn->TT}{tee:CIn->TE}{xs:List α}{enc:α->PyData}{N0:HandS}(J:Nat->HandS->Qd->Prop)(E':XK)
 (hi:EvI K wi ρ (xs.map enc)) (hl:xs.length<=1000) (e:ρ[i]?=some (some (.own v (QQ C N0)))) (j0:J 0 N0 [])
 (hgt:∀c,g c=ZJ 0) (htc:∀c,tcc c=W4) (hte:∀c,tee c=tOp (rIx K) (Vv (Wf K C R R2) [] E' (QE (Q8 1) (QE (Q8 0) QN))) (tC (.int 0)))
 (hs:∀(k:Nat) (hk:k<xs.length) (N:HandS) (ds:Qd),J k N ds ->
  (∃Ψ,R N [.fz (enc xs[k])] Ψ/\∀r N',Ψ r N'->∃d dd w,r=.ol (d::dd)/\Zx d=some w/\J (k+1) N' (ds++[d])) \/
  (∃Φ,R2 [.zow (Zr C N),.fz (enc xs[k])] Φ/\∀r,Φ r->∃v' d w dd,r=.own v' (lsO d dd)/\Zx d=some w/\J (k+1) N (ds++[d])))
 (hn:∀N' ds,J xs.length N' ds->D.nx ((ρ.set i (some (.own v (QQ C N')))).set j (some (.ol ds)))):Q2 K (Ve (tLC [none,some i] wi g tcc tee) (ZJ j)) ρ D:=fun F0 H0 F σ H E x S c =>
 Ru J E' hi hl e j0 hgt htc hte hs x S fun F' H' N' ds zs hJ x' S' rp fl p hp=>by
  have X2:Q0 F' H' F' (upd H' p (.lst zs)):=Q0.own S'.sub hp;refine c.nx F' _ _ _ (x'.trans X2) ((S'.ext X2).set (t:=.ol ds) (p:=[p]) ⟨p,rfl,rfl,S'.sub.free hp,_,QD,rp⟩ (fun b hb=>?_) (hn:=fun b hb k u' t' q' m1 m2 ok2 hb'=>?_)) (hn N' ds hJ)
  ·cases Xi.mp hb
   exact x'.hh.free hp
  ·cases Xi.mp hb
   obtain⟨fp,g1,g2,g3⟩:=S'.fp;obtain⟨u2,f1,f2⟩:=g1 k t' m1;rw[f1]at m2;cases m2
   exact(g3 k p (UI (K:=K) (f2.ext X2) ok2 p hb')).2 hp
def Ay {α:Type}{wi:TI}{g:CIn->TG}{tcc:CIn->TT}{tee:CIn->TE}{xs:List α}{enc:α->PyData}{N0:HandS}(J:Nat->HandS->Qd->Prop)(E':XK)
 (hi:EvI K wi ρ (xs.map enc)) (hl:xs.length<=1000) (e:ρ[i]?=some (some (.own v (QQ C N0)))) (j0:J 0 N0 [])
 (hgt:∀c,g c=ZJ 0) (htc:∀c,tcc c=W4) (hte:∀c,tee c=tOp (rIx K) (Vv (Wf K C R R2) [] E' (QE (Q8 1) (QE (Q8 0) QN))) (tC (.int 0)))
 (hs:∀(k:Nat) (hk:k<xs.length) (N:HandS) (ds:Qd),J k N ds ->
  (∃Ψ,R N [.fz (enc xs[k])] Ψ/\∀r N',Ψ r N'->∃d dd w,r=.ol (d::dd)/\Zx d=some w/\J (k+1) N' (ds++[d])) \/
  (∃Φ,R2 [.zow (Zr C N),.fz (enc xs[k])] Φ/\∀r,Φ r->∃v' d w dd,r=.own v' (lsO d dd)/\Zx d=some w/\J (k+1) N (ds++[d])))
 (hn:∀N' ds,J xs.length N' ds->D.rt (.ol ds)):Q2 K (Yo (tLC [none,some i] wi g tcc tee)) ρ D:=fun F0 H0 F σ H E x S c =>
 Ru J E' hi hl e j0 hgt htc hte hs x S fun F' H' N' ds zs hJ x' S' rp fl p hp=>by
  have X2:Q0 F' H' F' (upd H' p (.lst zs)):=Q0.own S'.sub hp;exact c.rt F' _ (.ref p) (.ol ds) [p] (x'.trans X2) (fun b hb=>by cases Xi.mp hb;exact x'.hh.free hp) ⟨p,rfl,rfl,S'.sub.free hp,_,QD,rp⟩ (hn N' ds hJ)
end
end L2
end
namespace L2
open PySem PySem.Spec PyProof.Rows
section
variable {prog:Program}{w:World}{A:Around}{E:Qb}{s:Shared}
end
section
variable {X:Cx}{e:Expr}{te:TE}{lo hi:Option Expr}{se:Expr}{tl th ts:TO}{pos p2:Pos}
end
section
variable {K:W.Frag}{ρ:Q1}{te:TE}
end
end L2
namespace Mir
section
variable {m:Nat}{w:Qn}{g:(Qm)->Int}
end
end Mir
namespace Mir
end Mir
section
namespace My
open PySem L2 Mir
local macro_rules | `(tactic| walk_at "d") => `(tactic| dsimp only [List.set])
local macro_rules | `(tactic| walk_at "e") => `(tactic| dsimp only [List.set,J7,List.map,Wk])
local macro_rules | `(tactic| walk_at "x") => `(tactic| try dsimp only [Lh,Ah])
local macro_rules | `(tactic| walk_at "p") => `(tactic| exact ⟨rfl,rfl,rfl,by decide +kernel,rfl,by decide +kernel,by decide +kernel⟩)
local macro_rules | `(tactic| walk_at "j") => `(tactic| first | decide | omega)
def top (i:Nat):Stmt:=PySem.Challenge.pw_chargeyard_k67_in_any_order.main.body.getD i (.Pass ⟨0,0,0,0⟩)
abbrev HI:Stmt:=top 8
abbrev Kt:Stmt:=top 9
abbrev Kf:Stmt:=top 10
abbrev Kh:Stmt:=top 11
abbrev HN:Stmt:=top 12
abbrev HJ:Stmt:=top 13
abbrev Kq:Stmt:=top 14
abbrev Kc:Stmt:=top 15
abbrev HD:Stmt:=top 16
abbrev Hz:Stmt:=top 17
abbrev HK:Stmt:=top 18
abbrev HC:Stmt:=top 19
abbrev HA:Stmt:=top 20
abbrev HZ:Stmt:=top 21
abbrev Kv:Stmt:=top 22
abbrev Kp:Stmt:=top 27
abbrev HV:Stmt:=top 28
abbrev Kg:Stmt:=top 29
abbrev HG:Stmt:=top 30
abbrev Ko:Stmt:=top 31
abbrev Mr:Stmt:=top 34
abbrev Ml:Stmt:=top 36
abbrev Kd:Stmt:=top 37
abbrev Mi:Stmt:=top 38
abbrev Ma:Stmt:=top 39
abbrev Kr:Stmt:=top 42
abbrev Kj:Stmt:=top 43
abbrev Km:Stmt:=top 47
abbrev HU:Stmt:=top 48
abbrev Kn:Stmt:=top 49
abbrev HW:Stmt:=top 50
abbrev Mg:Stmt:=top 51
abbrev Ks:Stmt:=top 52
abbrev Mh:Stmt:=top 53
abbrev Bb:Stmt:=top 55
abbrev GZ:Stmt:=top 56
abbrev Ki:Stmt:=top 57
abbrev Mj:Stmt:=top 58
abbrev Mq:Stmt:=top 59
abbrev VS:Stmt:=top 60
abbrev UP:Stmt:=VY (top 4) 0
abbrev UQ:Stmt:=VY (top 26) 0
abbrev JU:Stmt:=VY (top 26) 1
abbrev JZ:Stmt:=VY (top 26) 2
abbrev JY:Stmt:=VY (top 26) 4
abbrev Jf:Stmt:=VY (top 26) 5
abbrev JQ:Stmt:=VY (top 26) 6
abbrev JX:Stmt:=VY (top 26) 7
abbrev UO:Stmt:=VY (top 45) 0
abbrev JR:Stmt:=VY (top 45) 2
abbrev JW:Stmt:=VY (top 45) 4
abbrev JS:Stmt:=VY (top 45) 6
abbrev Jn:Stmt:=VY (top 45) 8
abbrev Ua:Stmt:=VY (top 45) 11
abbrev Ub:Stmt:=VY (top 45) 12
abbrev Uc:Stmt:=VY (top 45) 13
structure Bl (mg:Str->Qf):Prop where
 abs:mg "abs"=none
 len:mg "len"=none
 max:mg "max"=none
 min:mg "min"=none
 sum:mg "sum"=none
 any:mg "any"=none
 all:mg "all"=none
 isi:mg "isinstance"=none
 int:mg "int"=none
 bool:mg "bool"=none
 list:mg "list"=none
 tuple:mg "tuple"=none
 range:mg "range"=none
 zip:mg "zip"=none
 enumerate:mg "enumerate"=none
 sorted:mg "sorted"=none
 set:mg "set"=none
 ValueError:mg "ValueError"=none
structure Tx (K:W.Frag)(mg:Str->Qf)(C gS gE:Addr):Prop where
 net:NetC K C
 mSTART:mg "START"=some (.ref gS)
 mEND:mg "END"=some (.ref gE)
 aS:W.nsIn K mainGlobals "START"=some (some (.ref gS))
 aE:W.nsIn K mainGlobals "END"=some (some (.ref gE))
def upD:Option Nat->PyData
 |none=>.none
 |some a=>.int (a:Int)
def ZL (l:Ln):PyData:=.tuple [upD l.up,.tuple (l.bs.map PyData.int)]
def Za (y:Yd):PyData:=.tuple [.int (y.T:Int),.tuple (y.ls.map ZL)]
def Zm (l:Qk):Qd:=l.map fun(j:Nat)=>PyData.int (j:Int)
def cdl {i j:Int}(h1:0<j)(h2:j<=10^60):J6 i j:=⟨h1,Int.lt_of_le_of_lt h2 (by decide +kernel)⟩
def Gi {j:Int}(h0:0<=j)(h1:j<=1000000):K9 10 j:=⟨h0,h1,by decide⟩
def MX {a b:Int}(h0:0<=a)(h1:a<10^300)(h2:0<=b)(h3:b<10^300):IntMulOk a b:=T5 (m:=1000) (n:=1000) h0 (Int.lt_trans h1 (by decide +kernel)) h2 (Int.lt_trans h3 (by decide +kernel)) (by decide)
def z60:(10:Int)^60=1000000000000000000000000000000000000000000000000000000000000:=by decide +kernel
def Gb {i j:Int}(h1:0<j)(h2:j<=1000000000000000000000000000000000000000000000000000000000000):J6 i j:=cdl h1 (by rw[z60];exact h2)
def Tz {α:Type} [Inhabited α] {f:α->PyData}{xs:List α}{k:Int}(h0:0<=k)(h1:k<(xs.length:Int)):atI (xs.map f) k=some (f (xs.getD k.toNat default)):=by
 have h:k.toNat<xs.length:=by omega
 have e:(xs.map f)[k.toNat]?=some (f (xs.getD k.toNat default)):=by simp[h]
 have e2:=Va e
 rwa [X8 h0]at e2
def NS {xs:Ql}{k:Int}(h0:0<=k)(h1:k<(xs.length:Int)):atI (xs.map PyData.int) k=some (.int (xs.getD k.toNat 0)):=by
 have h:k.toNat<xs.length:=by omega
 have e:(xs.map PyData.int)[k.toNat]?=some (.int (xs.getD k.toNat 0)):=by simp[h]
 have e2:=Va e
 rwa [X8 h0]at e2
def T3 {xs:Ql}{k:Int}(h0:0<=k)(h1:k<(xs.length:Int)):atI xs k=some (xs.getD k.toNat 0):=by
 have h:k.toNat<xs.length:=by omega
 have e:xs[k.toNat]?=some (xs.getD k.toNat 0):=by simp[h]
 have e2:=Va e
 rwa [X8 h0]at e2
def UC {f:Nat->PyData}{n:Nat}{k:Int}(h0:0<=k)(h1:k<(n:Int)):atI ((List.range n).map f) k=some (f k.toNat):=by
 have h:k.toNat<n:=by omega
 have e:((List.range n).map f)[k.toNat]?=some (f k.toNat):=by simp[h]
 have e2:=Va e
 rwa [X8 h0]at e2
def Bv {n:Nat}{k:Int}(h0:0<=k)(h1:k<(n:Int)):ixN n k=some k.toNat:=by
 unfold ixN;rw[Xd h0,Xd h1]
instance:Inhabited Ln:=⟨⟨none,[]⟩⟩
def Q9 (g:Gs):PyData:=.tuple [.int (g.line:Int),.int (g.first:Int),.int (g.last:Int),.int g.want,.int g.most]
instance:Inhabited Gs:=⟨⟨0,0,0,1,1⟩⟩
def P4 {ds:Qd}{m:Nat}(h:∀d∈ds,d.canLay0=true/\d.depth<=m):PyData.canLayAll0 ds=true/\PyData.depthAll ds<=m:=by
 induction ds with
 |nil=>exact⟨rfl,XM _⟩
 |cons d ds ih =>
   obtain⟨a,b⟩:=h d Xc;obtain⟨c,e⟩:=ih fun x hx=>h x (Xe _ hx);refine⟨by rw[PyData.canLayAll0,a,c];rfl,?_⟩;rw[PyData.depthAll];omega
def VD (m:Nat)(d:PyData):Prop:=d.canLay0=true/\d.depth<=m
def VD.fine {m:Nat}{d:PyData}(h:VD m d)(hm:m<=60):Vs d:=⟨h.1,VM h.2 hm⟩
def CZ {ds:Qd}{m:Nat}(h:∀d∈ds,VD m d):VD (m+1) (.tuple ds):=by
 obtain⟨a,b⟩:=P4 h;refine⟨by rw[PyData.canLay0];exact a,?_⟩;rw[PyData.depth];omega
def UG {ds:Qd}{m:Nat}(h:∀d∈ds,VD m d):VD (m+1) (.list ds):=by
 obtain⟨a,b⟩:=P4 h;refine⟨by rw[PyData.canLay0];exact a,?_⟩;rw[PyData.depth];omega
def JE (i:Int)(m:Nat):VD m (.int i):=⟨rfl,XM _⟩
def F6 (b:Bool)(m:Nat):VD m (.bool b):=⟨rfl,XM _⟩
def N8 {α:Type}{f:α->PyData}{xs:List α}{m:Nat}(h:∀x,VD m (f x)):∀d∈xs.map f,VD m d:=fun d hd=>by
 obtain⟨x,_,rfl⟩:=XT.mp hd;exact h x
def B7 {m:Nat}:∀d∈([]:Qd),VD m d:=fun d hd=>(nomatch hd)
def Ja {m:Nat}{d:PyData}{ds:Qd}(h:VD m d)(h2:∀d∈ds,VD m d):∀x∈d::ds,VD m x:=fun x hx=>by
 rcases Xg.mp hx with rfl|hx
 ·exact h
 ·exact h2 x hx
def TB (g:Gs):VD 1 (Q9 g):=CZ (Ja (JE _ _) (Ja (JE _ _) (Ja (JE _ _) (Ja (JE _ _) (Ja (JE _ _) B7)))))
def TY (gs:List Gs):VD 2 (.list (gs.map Q9)):=UG (N8 TB)
def LI (l:Qk):VD 1 (.list (Zm l)):=UG (N8 fun j=>JE _ 0)
def Rc (gs:List Gs):Vs (.list (gs.map Q9)):=(TY gs).fine (by decide)
def R7 (l:Qk):Vs (.list (Zm l)):=(LI l).fine (by decide)
def NZ:Vs (.list []):=(UG (m:=0) B7).fine (by decide)
def NT {α:Type}(xs:List α)(k:Nat)(hk:k<=xs.length):cut xs (some (k:Int)) none=xs.drop k:=by
 unfold cut;rw[HT.sIx_nat,Nat.min_eq_left hk];show(xs.drop k).take (xs.length-k)=_;rw[<- Be,Wc]
def L4 {α:Type}(xs:List α)(k:Nat)(hk:k<=xs.length):cut xs none (some (k:Int))=xs.take k:=by
 unfold cut;rw[HT.sIx_nat,Nat.min_eq_left hk];rfl
def M5 (w:String):Lean.MacroM (Lean.TSyntax `tactic):=do
 let n:=Lean.mkIdent (w.drop 1).toString.toName
 match w.front with
 |'@' => `(tactic| with_reducible apply $n)
 |'!' => `(tactic| with_reducible exact $n)
 |'~' => `(tactic| apply $n)
 |_ => `(tactic| walk_at $(Lean.Syntax.mkStrLit w))
def V4 (s:String):Lean.MacroM (Lean.TSyntax `tactic):=do
 let l ← (s.splitOn "|").mapM fun a=>do
  match a.splitOn "<" with
  |[x,z] => `(tactic| ($(← M5 x):tactic <;> $(← M5 z):tactic))
  |_ =>
    let ts ← (a.splitOn " ").mapM M5
    `(tactic| ($[$ts.toArray:tactic];*))
 `(tactic| first $[| $l.toArray:tactic]*)
local macro_rules | `(tactic| walk_at "rfl") => `(tactic| rfl)
local macro_rules | `(tactic| walk_at "hc") => `(tactic| intro hc)
local macro_rules | `(tactic| walk_at "ls") => `(tactic| dsimp only [List.set])
local macro_rules | `(tactic| walk_at "om") => `(tactic| first | lia | omega)
local macro_rules | `(tactic| walk_at "asm") => `(tactic| with_reducible assumption)
local macro_rules | `(tactic| walk_at "ble") => `(tactic| first | with_reducible rfl | decide | exact Nat.le_of_ble_eq_true rfl)
local macro_rules | `(tactic| walk_at "smo") => `(tactic| (focus (simp; (first | done | walk_at "om"))))
local macro_rules | `(tactic| walk_at "dso") => `(tactic| (focus (dsimp only; walk_at "om")))
local macro_rules | `(tactic| walk_at "r4") => `(tactic| (refine ⟨?_,?_,?_,?_⟩ <;> walk_at "r62"))
local macro_rules | `(tactic| walk_at "r62") => `(tactic| (rw [z62]; walk_at "side"))
local macro_rules | `(tactic| walk_at "ss") => `(tactic| repeat walk_at "s1")
local macro_rules | `(tactic| walk_at "call") => `(tactic| (constructor <;> walk_at "side"))
local macro_rules | `(tactic| walk_at "rg") => `(tactic| first | with_reducible rfl | (apply WD <;> walk_at "rs") | (apply Pc <;> walk_at "rs"))
local macro_rules | `(tactic| walk_at "rs")=>V4 "om|smo"
local macro_rules | `(tactic| walk_at "side")=>V4 "om|asm|ble|smo"
local macro_rules | `(tactic| walk_at "arith")=>V4 "om|asm|ble|smo"
local macro_rules | `(tactic| walk_at "ev")=>V4 "@Qq rfl|!Q7|!Gj|!Gw|!Yv|@Z5 ev ev|@Yu ev ev|@Z4 ev ev cond|@KY ev|@U3 ev ev|@KQ ev ev|@Nu ev|@BH ev ev ev|@Gy ev hc ev|@Nj ev|@U2 rfl ev item|@Tf rfl ev item|@VV evd ev item|@V6 evd ev item|@Yw eas side|@Zd ea call|@TC ea call|@MZ ev ev|@Dm ev ev|@Nx ev|@Bw ev rfl|@PU rfl|@PR rfl|@B6 evd|@YQ evd|@Dw rfl|@Dx evd|@J9 ev ev fine fine|@Np ev ev fine fine|@Bx ev rfl|@EvO.fz eo"
local macro_rules | `(tactic| walk_at "evd")=>V4 "~Qq rfl|ev|@EvO.fz eo"
local macro_rules | `(tactic| walk_at "ea")=>V4 "!QC|@U4 rfl ea|@Qw ev ea"
local macro_rules | `(tactic| walk_at "ep")=>V4 "!U7|@G5 ev"
local macro_rules | `(tactic| walk_at "eas")=>V4 "~Z2|~QT ev eas"
local macro_rules | `(tactic| walk_at "eo")=>V4 "@Vk eas side|@De ea call|@RJ ev rfl side|@B0 evd ep ep|@NY evd|@U0 evd evd side"
local macro_rules | `(tactic| walk_at "et")=>V4 "!Nm|@ZS ev|@VB ev|@Gx et hc et|@Bp et hc et|@YO et"
local macro_rules | `(tactic| walk_at "g")=>V4 "!Zc|!Wp|@ZR g g|@Wg g rfl|~Wg g rfl"
local macro_rules | `(tactic| walk_at "ei")=>V4 "@Yn ea r62 r62|@DL ea r4|@TN ea r4|@Dy ea|@YA evd|@Gz evd"
local macro_rules | `(tactic| walk_at "s1")=>V4 "@QI s1|@Vw eo ls|@ZK ev ls|@Bz ev g ls|@JN rfl ev side ls|@BN rfl ev ev item ls"
local macro_rules | `(tactic| walk_at "ret")=>V4 "@D1 rfl|@Vj evd|@U1 eo"
local macro_rules | `(tactic| walk_at "if")=>V4 "@QI if|@ZC et"
local macro_rules | `(tactic| walk_at "eir")=>V4 "~EvI.cast ei rg"
local macro_rules | `(tactic| walk_at "item")=>V4 "rfl|asm|@NS<arith|@T3<arith|@UC<arith|@Bv<arith|~Tz<arith"
local macro_rules | `(tactic| walk_at "cond")=>V4 "asm|@Gb<om|@Gi<om|om|dso"
local macro_rules | `(tactic| walk_at "fine")=>V4 "~Rc|~R7|~NZ"
section
variable {P:Program}{w:World}{K:W.Frag}{mg:Str->Qf}{base:Heap}{C gS gE YR CR fR CH cg ct:Addr}
inductive R_cell:List OT->OT->Prop
 |mk {ns:Ql} {k:Int} (h:0<=k):R_cell [.scr ns,.fz (.int k)] (.fz (.int (V5 ns k)))
def Ob:Qp ZaB ZaB (Qy Km):=by walk_at"p"
def Fz (T:Bl mg) (D:Df K mg "_law_cell_at" Km ZaB):QF P w K mg base "_law_cell_at" ZaB 1 (QP (K:=K) R_cell):=by
 refine D.ev Ob (fun ts r h=>by cases h;rfl) (fun _ _ _ _ s H E ts r hr h=>?_)
 cases h with
 |@mk ns k h0 =>
   refine⟨_,(Q5 (Z8 (ZT J1 (pv 1) (Ze ZN (by rfl) T.len ZQ (Qo (pv 0) Qs)) (ZA _)) (QA (QW (QG QH (pv 0) (pv 1)))) Z9)
 (QA (QW Qx))),?_⟩
   show Q2 K _ [some _,some _] _
   walk_at"x"
   walk_at"if"
   ·
    intro c;have c:=X0 c
    walk_at"ret"
    rfl
   ·
    intro c;have c:=Ug c;refine ZE ?_
    walk_at"ret"
    have e:V5 ns k=0:=by
     have:ns.length<=k.toNat:=by omega
     simp[V5,List.getD,this]
    rw[e]
def Vi (y:Yd)(k:Nat):Ln:=y.ls.getD k default
def upN (y:Yd)(k:Nat):Nat:=(QX y k).getD 0
def Hy {y:Yd}{k:Nat}(h:k<y.ls.length):QX y k=(Vi y k).up:=by simp[QX,Vi,h]
def HH {y:Yd}{k t:Nat}(h:k<y.ls.length):Zn y k t=(Vi y k).bs.getD t 0:=by simp[Zn,Vi,h]
def He {y:Yd}(ok:y.Ok){k:Nat}(h:k<y.ls.length):(Vi y k).bs.length=y.T:=ok.bl _ (by simp[Vi,h])
inductive R_turns:List OT->OT->Prop
 |mk {y:Yd}:R_turns [.fz (Za y)] (.fz (.int (y.T:Int)))
def Iz:Qp ZaN ZaN (Qy HJ):=by walk_at"p"
def Ab (T:Bl mg) (D:Df K mg "turns_of" HJ ZaN):QF P w K mg base "turns_of" ZaN 1 (QP (K:=K) R_turns):=by
 refine D.ev Iz (fun ts r h=>by cases h;rfl) (fun _ _ _ _ s H E ts r hr h=>?_)
 cases h with
 |@mk y =>
   refine⟨_,(QA (QW (QG QH (pv 0) Qx))),?_⟩;show Q2 K _ [some _] _
   walk_at"x"
   walk_at"ret"
   rfl
inductive R_count:List OT->OT->Prop
 |mk {y:Yd}:R_count [.fz (Za y)] (.fz (.int (y.ls.length:Int)))
def IT:Qp ZaN ZaN (Qy Kq):=by walk_at"p"
def C6 (T:Bl mg) (D:Df K mg "line_count" Kq ZaN):QF P w K mg base "line_count" ZaN 1 (QP (K:=K) R_count):=by
 refine D.ev IT (fun ts r h=>by cases h;rfl) (fun _ _ _ _ s H E ts r hr h=>?_)
 cases h with
 |@mk y =>
   refine⟨_,(QA (QW (Ze ZN (by rfl) T.len ZQ (Qo (QG QH (pv 0) Qx) Qs)))),?_⟩;show Q2 K _ [some _] _
   walk_at"x"
   walk_at"ret"
   show _=_;rw[Xk]
inductive R_above:List OT->OT->Prop
 |mk {y:Yd} {k:Int} (ok:y.Ok) (h0:0<k) (h1:k<(y.ls.length:Int)):R_above [.fz (Za y),.fz (.int k)] (.fz (.int (upN y k.toNat:Int)))
 |zero {y:Yd} (ok:y.Ok):R_above [.fz (Za y),.fz (.int 0)] (.fz .none)
def EY:Qp ZaO ZaO (Qy Kc):=by walk_at"p"
def FP (T:Bl mg) (D:Df K mg "above_of" Kc ZaO):QF P w K mg base "above_of" ZaO 1 (QP (K:=K) R_above):=by
 refine D.ev EY (fun ts r h=>by cases h<;>rfl) (fun _ _ _ _ s H E ts r hr h=>?_)
 cases h with
 |@mk y k ok h0 h1 =>
   refine⟨_,(QA (QW (QG QH (QG QH (QG QH (pv 0) Qx) (pv 1)) Qx))),?_⟩;show Q2 K _ [some _,some _] _
   walk_at"x"
   walk_at"ret"
   obtain⟨a,e,l⟩:=ok.ups k.toNat (by omega) (by omega);have e2:(Vi y k.toNat).up=some a:=by rw[<- Hy (by omega)];exact e
   show OT.fz (upD (Vi y k.toNat).up)=_;rw[e2];simp[upN,e,upD]
 |@zero y ok =>
   refine⟨_,(QA (QW (QG QH (QG QH (QG QH (pv 0) Qx) (pv 1)) Qx))),?_⟩;show Q2 K _ [some _,some _] _
   walk_at"x"
   have l1:=ok.l1
   walk_at"ret"
   have e2:(Vi y 0).up=none:=by rw[<- Hy (by omega)];exact ok.up0
   show OT.fz (upD (Vi y 0).up)=_;rw[e2];rfl
inductive R_bound:List OT->OT->Prop
 |mk {y:Yd} {k t:Int} (ok:y.Ok) (h0:0<=k) (h1:k<(y.ls.length:Int)) (h2:0<=t) (h3:t<(y.T:Int)):R_bound [.fz (Za y),.fz (.int k),.fz (.int t)] (.fz (.int (Zn y k.toNat t.toNat)))
def Iy:Qp Zav Zav (Qy HD):=by walk_at"p"
def FK (T:Bl mg) (D:Df K mg "bound_at" HD Zav):QF P w K mg base "bound_at" Zav 1 (QP (K:=K) R_bound):=by
 refine D.ev Iy (fun ts r h=>by cases h;rfl) (fun _ _ _ _ s H E ts r hr h=>?_)
 cases h with
 |@mk y k t ok h0 h1 h2 h3 =>
   refine⟨_,(QA (QW (QG QH (QG QH (QG QH (QG QH (pv 0) Qx) (pv 1)) Qx) (pv 2)))),?_⟩;show Q2 K _ [some _,some _,some _] _
   walk_at"x"
   have hl:(y.ls.getD k.toNat default).bs.length=y.T:=He ok (by omega)
   walk_at"ret"
   show _=_;rw[HH (by omega)];rfl
inductive R_lineof:List OT->OT->Prop
 |mk {g:Gs}:R_lineof [.fz (Q9 g)] (.fz (.int (g.line:Int)))
def Em:Qp Zaz Zaz (Qy Hz):=by walk_at"p"
def CI (T:Bl mg) (D:Df K mg "line_of" Hz Zaz):QF P w K mg base "line_of" Zaz 1 (QP (K:=K) R_lineof):=by
 refine D.ev Em (fun ts r h=>by cases h;rfl) (fun _ _ _ _ s H E ts r hr h=>?_)
 cases h with
 |@mk g =>
   refine⟨_,(QA (QW (QG QH (pv 0) Qx))),?_⟩;show Q2 K _ [some _] _
   walk_at"x"
   walk_at"ret"
   rfl
inductive R_there:List OT->OT->Prop
 |mk {g:Gs} {t:Int}:R_there [.fz (Q9 g),.fz (.int t)] (.fz (.bool (Yk g t)))
def Il:Qp Zar Zar (Qy HK):=by walk_at"p"
def Ag (T:Bl mg) (D:Df K mg "is_there" HK Zar):QF P w K mg base "is_there" Zar 1 (QP (K:=K) R_there):=by
 refine D.ev Il (fun ts r h=>by cases h;rfl) (fun _ _ _ _ s H E ts r hr h=>?_)
 cases h with
 |@mk g t =>
   refine⟨_,(QA (QW (RS Gr Gr (QG QH (pv 0) Qx) (pv 1) (QG QH (pv 0) Qx)))),?_⟩;show Q2 K _ [some _,some _] _
   walk_at"x"
   walk_at"ret"
   rfl
inductive R_most:List OT->OT->Prop
 |mk {g:Gs}:R_most [.fz (Q9 g)] (.fz (.int g.most))
def EO:Qp Zaz Zaz (Qy HA):=by walk_at"p"
def Fr (T:Bl mg) (D:Df K mg "most_of" HA Zaz):QF P w K mg base "most_of" Zaz 1 (QP (K:=K) R_most):=by
 refine D.ev EO (fun ts r h=>by cases h;rfl) (fun _ _ _ _ s H E ts r hr h=>?_)
 cases h with
 |@mk g =>
   refine⟨_,(QA (QW (QG QH (pv 0) Qx))),?_⟩;show Q2 K _ [some _] _
   walk_at"x"
   walk_at"ret"
   rfl
inductive R_want:List OT->OT->Prop
 |mk {g:Gs}:R_want [.fz (Q9 g)] (.fz (.int g.want))
def E9:Qp Zaz Zaz (Qy HC):=by walk_at"p"
def FE (T:Bl mg) (D:Df K mg "want_of" HC Zaz):QF P w K mg base "want_of" Zaz 1 (QP (K:=K) R_want):=by
 refine D.ev E9 (fun ts r h=>by cases h;rfl) (fun _ _ _ _ s H E ts r hr h=>?_)
 cases h with
 |@mk g =>
   refine⟨_,(QA (QW (QG QH (pv 0) Qx))),?_⟩;show Q2 K _ [some _] _
   walk_at"x"
   walk_at"ret"
   rfl
structure SetOk (gs:List Gs)(some:Qk):Prop where
 mem:∀k∈some,k<gs.length
 len:some.length<=8
def Y8 (gs:List Gs)(t:Nat)(sm:Qk):Qn:=fun l=>Zq gs (t:Int) l sm
def U5 (y:Yd)(gs:List Gs)(sm:Qk)(t:Nat):Ql:=(List.range y.ls.length).map fun l=>Vu y (fun k=>Zn y k t) (Y8 gs t sm) l
inductive R_reaching:List OT->OT->Prop
 |mk {y:Yd} {gs:List Gs} {sm:Qk} {t:Int} (ok:y.Ok) (hg:∀g∈gs,g.line<y.ls.length) (hs:SetOk gs sm) (h0:0<=t) (h1:t<(y.T:Int)) :
  R_reaching [.fz (Za y),.fz (.list (gs.map Q9)),.fz (.list (Zm sm)),.fz (.int t)] (.ol ((U5 y gs sm t.toNat).map PyData.int))
def GA {n j:Nat}{f g:Qn}(hj:j<n)(e1:∀l,l<n->l≠j->g l=f l){v:Int}(e2:g j=v) :
 (((List.range n).map fun l=>PyData.int (f l)).set j (.int v))=(List.range n).map fun l=>PyData.int (g l):=by
 apply List.ext_getElem?
 intro i;by_cases hi:i=j
 ·subst hi
  rw[Xo (by simpa using hj)];simp[hj,e2]
 ·rw[Xx (Ne.symm hi)]
  by_cases h:i<n
  ·simp[h,e1 i h hi]
  ·simp[h]
def Ba:Qp ZaC Zae (Qy Ml):=by walk_at"p"
def EQ (T:Bl mg) (D:Df K mg "reaching_at" Ml Zae) (Xa6:QF P w K mg base "line_count" ZaN 1 (QP (K:=K) R_count)) (Xbg:QF P w K mg base "is_there" Zar 1 (QP (K:=K) R_there))
 (Xbh:QF P w K mg base "line_of" Zaz 1 (QP (K:=K) R_lineof)) (Xbi:QF P w K mg base "most_of" Zaz 1 (QP (K:=K) R_most)) (Xbj:QF P w K mg base "above_of" ZaO 1 (QP (K:=K) R_above))
 (Xa7:QF P w K mg base "bound_at" Zav 1 (QP (K:=K) R_bound)):QF P w K mg base "reaching_at" Zae 2 (QP (K:=K) R_reaching):=by
 refine D.ev Ba (fun ts r h=>by cases h;rfl) (fun _ _ _ _ s H E ts r hr h=>?_)
 cases h with
 |@mk y gs sm t ok hg hs h0 h1 =>
   refine⟨_,(Q5 (GN (i:=4) Ba.nd rfl rfl (NX:=ZaC) (sc:=Qy Ml) (N:=["line"]) (f:=[none]) rfl (by decide +kernel) rfl rfl (Ya rfl T.range (Qo (QJ Xa6 hr (Qo (pv 0) Qs)) Qs)) (fun _=>(QZ (i:=0) (show(["line"]:Qh).Nodup by decide +kernel) rfl Qa)) (fun _=>ZZ) (fun _=>Yx) (fun _=>Qx) rfl)
 (Q5 (Vx PassesOwn.never rfl (Yy (pv 2)) (QZ (i:=5) Ba.nd rfl Qa) (Q5 (QY (i:=6) Ba.nd rfl Qa (QG QH (pv 1) (pv 5)))
 (QA (Z8 (VX (QJ Xbg hr (Qo (pv 6) (Qo (pv 3) Qs)))) (QA (BG (pv 4) (QJ Xbh hr (Qo (pv 6) Qs)) BT (QJ Xbi hr (Qo (pv 6) Qs)) Dl Ws)) Z9))))
 (Q5 (Vx PassesOwn.never rfl (SK rfl T.range (Qo (QO YS (QJ Xa6 hr (Qo (pv 0) Qs)) Qx) (Qo Qx (Qo (Br B9 Qx) Qs)))) (QZ (i:=7) Ba.nd rfl Qa) (QA (BG (pv 4) (QJ Xbj hr (Qo (pv 0) (Qo (pv 7) Qs))) BT (Ze (BD rfl) (by rfl) T.min G4 (Qo (QG QH (pv 4) (pv 7)) (Qo (QJ Xa7 hr (Qo (pv 0) (Qo (pv 7) (Qo (pv 3) Qs)))) Qs))) Dl Ws)))
 (QA (QW (pv 4)))))),?_⟩
   show Q2 K _ [some _,some _,some _,some _,none,none,none,none] _
   walk_at"x"
   have l1:=ok.l1;have l5:=ok.l5;have n8:=hs.len;refine QI (Vw (NW (lo:=0) (n:=y.ls.length) (h:=fun _=>.int 0) ?ei (by omega) ?el) ?_)
   case ei=>walk_at"eir"
   case el =>
    intro x hx c;exact⟨_,by walk_at"g",by walk_at"ev"⟩
   walk_at"d"
   refine QI (BL (fun i=>[some (.fz (Za y)),some (.fz (.list (gs.map Q9))),some (.fz (.list (Zm sm))),some (.fz (.int t)),some (.ol ((List.range y.ls.length).map fun l=>PyData.int (Zq gs t l (sm.take i)))),none,none,none]) (by walk_at"ei") ⟨rfl,rfl,rfl,rfl,rfl,trivial⟩ ?st ?fin)
   case st =>
    intro i d hd;have hi:i<sm.length:=by
     have:=(Xh.mp hd).1
     simpa [Zm] using this
    obtain rfl:d=.int ((sm[i]:Nat):Int):=by simpa [Zm,hi] using hd.symm
    have hk:sm[i]<gs.length:=hs.mem _ (XV hi);refine⟨_,by walk_at"g",?_⟩
    walk_at"d"
    walk_at"s1";have eg:gs.getD ((sm[i]:Nat):Int).toNat default=gs[sm[i]]:=by simp[hk]
    rw[eg];have gok:=hg gs[sm[i]] (XV hk);have gl:=gok;have tk:sm.take (i+1)=sm.take i++[sm[i]]:=by rw[WG];simp[hi]
    refine ZC (by walk_at"et") (fun c=>?_) (fun c=>?_)
    ·refine Rq (m:=Zq gs t gs[sm[i]].line (sm.take i)) rfl (by walk_at"ev") (by omega) ?_ (by walk_at"ev") ?_
     ·simp[gl]
     ·walk_at"d"
      refine⟨rfl,rfl,rfl,rfl,?_,trivial⟩;rw[Xz];congr 2;refine GA gl (fun l hl hn=>?_) ?_
      ·rw[tk,Jk]
       simp[Zq,hk,Ne.symm hn]
      ·rw[tk,Jk]
       simp[Zq,hk,c]
    ·refine ZE ⟨rfl,rfl,rfl,rfl,?_,trivial⟩
     refine X5 (fun z=>some (OT.ol z)) (X7 fun l _=>?_);rw[tk,Jk];simp[Zq,hk,c]
   case fin =>
    intro ρ' hf;refine B4 hf ?_;have el:(Zm sm).length=sm.length:=by simp[Zm]
    rw[el,Wc];refine QI (BL (fun i=>[some (.fz (Za y)),some (.fz (.list (gs.map Q9))),some (.fz (.list (Zm sm))),some (.fz (.int t)),some (.ol ((List.range y.ls.length).map fun l=>PyData.int (ZG y (fun k=>Zn y k t.toNat) (fun l=>Zq gs t l sm) i l))),none,none,none]) (by walk_at"ei") ⟨rfl,rfl,rfl,rfl,rfl,trivial⟩ ?st2 ?fin2)
    case st2 =>
     intro i d hd;obtain⟨hi,rfl⟩:=Hh hd;have hi2:i<y.ls.length-1:=by omega
     refine⟨_,by walk_at"g",?_⟩
     walk_at"d"
     have ej:((y.ls.length:Int)-1-(i:Int)).toNat=y.ls.length-1-i:=by omega
     obtain⟨a,ea,la⟩:=ok.ups (y.ls.length-1-i) (by omega) (by omega);have un:upN y ((y.ls.length:Int)-1-(i:Int)).toNat=a:=by rw[ej];simp[upN,ea]
     refine Rq (m:=ZG y (fun k=>Zn y k t.toNat) (fun l=>Zq gs t l sm) i a) rfl (by walk_at"ev") (by omega) ?_ (by walk_at"ev") ?_
     ·rw[un,Xz]
      have:a<y.ls.length:=by omega
      simp[this]
     ·walk_at"d"
      refine⟨rfl,rfl,rfl,rfl,?_,trivial⟩;rw[un,Xz];refine X5 (fun z=>some (OT.ol z)) (GA (by omega) (fun l hl hn=>?_) ?_)
      ·simp only[ZG,Y5]
       rw[ea,Xb (by simpa using fun z=>hn z.symm)];omega
      ·simp only[ZG,Y5]
       rw[ea,Xd rfl,ej]
    case fin2 =>
     intro ρ' hf;refine B4 hf ?_
     walk_at"ret"
     show _=_;have e2:(W5 ((y.ls.length:Int)-1) ((y.ls.length:Int)-1-0).toNat).length=y.ls.length-1:=by rw[DV];omega
     rw[e2];unfold U5 Vu Y8;rw[X8 h0,XY];rfl
def Eg (y:Yd)(gs:List Gs)(sm:Qk)(t:Nat):(U5 y gs sm t).length=y.ls.length:=by simp[U5]
def A1 {y:Yd}{gs:List Gs}{sm:Qk}{t l:Nat}(h:l<y.ls.length):(U5 y gs sm t).getD l 0=Vu y (fun k=>Zn y k t) (Y8 gs t sm) l:=by simp[U5,List.getD,h]
def Yg (y:Yd)(gs:List Gs)(sm:Qk)(t:Nat):Int:=passes y (fun k=>Zn y k t) (Y8 gs t sm) 0
def JT (y:Yd)(gs:List Gs)(sm:Qk):Int:=((List.range y.T).map fun t=>Yg y gs sm t).sum
def Gp (f:Qn)(i:Nat):Int:=((List.range i).map f).sum
def El (f:Qn)(i:Nat):Gp f (i+1)=Gp f i+f i:=by simp[Gp,YH]
def L5 (y:Yd)(gs:List Gs)(t:Nat):Y8 gs t []=fun _=>0:=rfl
theorem Pv {y:Yd}(ok:y.Ok)(t:Nat):∀i l,ZG y (fun k=>Zn y k t) (fun _=>0) i l=0
 |0,l=>rfl
 |i+1,l=>by
   have b0:∀k,0<=Zn y k t:=fun k=>by
    unfold Zn;cases e:y.ls[k]? with
    |none=>simp
    |some ln =>
      have:=ok.bb ln (List.mem_of_getElem? e)
      simp only[X6,Ue];by_cases h:t<ln.bs.length
      ·have h2:=this (ln.bs[t]) (XV h)
       simp only[List.getD,XQ h,Ue];exact h2.1
      ·simp[List.getD,h]
   simp only[ZG,Y5,Pv ok t i];have:=b0 (y.ls.length-1-i)
   split<;>omega
def TQ {y:Yd}(ok:y.Ok)(k t:Nat):0<=Zn y k t:=by
 unfold Zn;cases e:y.ls[k]? with
 |none=>simp
 |some ln =>
   have:=ok.bb ln (List.mem_of_getElem? e)
   simp only[X6,Ue];by_cases h:t<ln.bs.length
   ·have h2:=this (ln.bs[t]) (XV h)
    simp only[List.getD,XQ h,Ue];exact h2.1
   ·simp[List.getD,h]
def IQ {y:Yd}(ok:y.Ok)(gs:List Gs):JT y gs []=0:=by
 have g0:∀t,Yg y gs [] t=0:=fun t=>by
  unfold Yg passes Vu;rw[L5 y,Pv ok];have:=TQ ok 0 t;dsimp only;omega
 unfold JT;rw[GU,Zj (g:=fun _=>0) fun t _=>g0 t,VL]
inductive R_given:List OT->OT->Prop
 |mk {y:Yd} {gs:List Gs} {sm:Qk} {t:Int} (ok:y.Ok) (hg:∀g∈gs,g.line<y.ls.length) (hs:SetOk gs sm) (h0:0<=t) (h1:t<(y.T:Int)) :
  R_given [.fz (Za y),.fz (.list (gs.map Q9)),.fz (.list (Zm sm)),.fz (.int t)] (.fz (.int (Yg y gs sm t.toNat)))
def Iu:Qp Zae Zae (Qy Kd):=by walk_at"p"
def Ak (T:Bl mg) (D:Df K mg "given_at" Kd Zae) (Xby:QF P w K mg base "reaching_at" Zae 2 (QP (K:=K) R_reaching)) (Xa7:QF P w K mg base "bound_at" Zav 1 (QP (K:=K) R_bound)) :
 QF P w K mg base "given_at" Zae 3 (QP (K:=K) R_given):=by
 refine D.ev Iu (fun ts r h=>by cases h;rfl) (fun _ _ _ _ s H E ts r hr h=>?_)
 cases h with
 |@mk y gs sm t ok hg hs h0 h1 =>
   refine⟨_,(QA (QW (Ze (BD rfl) (by rfl) T.min G4 (Qo (QG QH (QJ Xby hr (Qo (pv 0) (Qo (pv 1) (Qo (pv 2) (Qo (pv 3) Qs))))) Qx) (Qo (QJ Xa7 hr (Qo (pv 0) (Qo Qx (Qo (pv 3) Qs)))) Qs))))),?_⟩;show Q2 K _ [some _,some _,some _,some _] _
   walk_at"x"
   have l1:=ok.l1;have rl:=Eg y gs sm t.toNat
   walk_at"ret"
   show _=_;rw[show(0:Int).toNat=0 from rfl,A1 (by omega)];rfl
inductive R_givenm:List OT->OT->Prop
 |mk {y:Yd} {gs:List Gs} {sm:Qk} (ok:y.Ok) (hg:∀g∈gs,g.line<y.ls.length) (hs:SetOk gs sm) :
  R_givenm [.fz (Za y),.fz (.list (gs.map Q9)),.fz (.list (Zm sm))] (.fz (.int (JT y gs sm)))
def IR:Qp Zad Zad (Qy Mi):=by walk_at"p"
def AK (T:Bl mg) (D:Df K mg "given_most" Mi Zad) (Xa4:QF P w K mg base "turns_of" ZaN 1 (QP (K:=K) R_turns)) (Xbz:QF P w K mg base "given_at" Zae 3 (QP (K:=K) R_given)) :
 QF P w K mg base "given_most" Zad 4 (QP (K:=K) R_givenm):=by
 refine D.ev IR (fun ts r h=>by cases h;rfl) (fun _ _ _ _ s H E ts r hr h=>?_)
 cases h with
 |@mk y gs sm ok hg hs =>
   refine⟨_,(QA (QW (Ze Du (by rfl) T.sum Dr (Qo (Yj (NX:=Zad) (sc:=Qy Mi) (N:=["turn","yard","guests","some"]) (f:=[none,some 0,some 1,some 2]) rfl (by decide +kernel) rfl rfl (Ya rfl T.range (Qo (QJ Xa4 hr (Qo (pv 0) Qs)) Qs)) (fun _=>(QZ (i:=0) (show(["turn","yard","guests","some"]:Qh).Nodup by decide +kernel) rfl Qa)) (fun _=>ZZ) (fun _=>Yx) (fun _=>(QJ Xbz hr (Qo (pv 1) (Qo (pv 2) (Qo (pv 3) (Qo (pv 0) Qs))))))) Qs)))),?_⟩;show Q2 K _ [some _,some _,some _] _
   walk_at"x"
   have t8:=ok.t8;refine Vj (Bx (ns:=(List.range y.T).map fun t=>Yg y gs sm t) ?_ rfl) rfl;refine EvO.fz ?_;rw[XY];refine NW (lo:=0) (n:=y.T) ?_ (by omega) ?_
   ·walk_at"eir"
   ·intro x hx c
    refine⟨_,by walk_at"g",?_⟩
    walk_at"e"
    rw[Y0];have h:R_given [.fz (Za y),.fz (.list (gs.map Q9)),.fz (.list (Zm sm)),.fz (.int (x:Int))] (.fz (.int (Yg y gs sm x))):=R_given.mk (t:=(x:Int)) ok hg hs (by omega) (by omega);exact Zd (by walk_at"ea") h
def BJ:NoF "lay" := fun _ _ _ _=>rfl
def Sc:NoF "lay_one" := fun _ _ _ _=>rfl
def Pz:NoF "reached" := fun _ _ _ _=>rfl
def Af:NoF "push" := fun _ _ _ _=>rfl
def FS:NoF "fill" := fun _ _ _ _=>rfl
def Fo:NoF "way_to" := fun _ _ _ _=>rfl
def IV:Qp ZaG ZaG (Qy UQ):=by walk_at"p"
def Tm {f:Addr} {fd:FuncData} (T:Bl mg) (U:Tx K mg C gS gE) (F:Fun K "__init__" "Net.__init__" UQ f fd):FnOk P w K mg base CX0 1 f fd ZaG (spI P w C):=by
 refine F.ok IV (fun vs H Q E ⟨x,dx,e,_⟩=>by rw[e];rfl) fun cdv A outer s H vs Q E hr ⟨x,dx,e,hx,q⟩=>?_;subst e;refine⟨_,(Q5 (Wn (pv 0) (Z1 Qs) rfl)
 (Q5 (Wn (pv 0) (Z1 Qs) rfl)
 (Q5 (Wn (pv 0) CW rfl)
 (QA (Wn (pv 0) Cc rfl))))),?_⟩
 refine⟨XM _,fun e he=>⟨_,rfl,x,C,dx,[],rfl,?_,U.net.cl,U.net.ends,by decide,?_⟩⟩
 ·rw[Qu (Zo hx he)];exact hx
 have xe:x≠e:=Zo hx he;refine⟨XM _,fun r hr'=>⟨_,rfl,x,C,dx,[("ends",.ref e)],rfl,?_,U.net.cl,U.net.rooms,(by show(1:Nat)<1000;decide),?_⟩⟩
 ·have xr:x≠r:=Zo QD hr'
  rw[Qu xr,QD];rfl
 have xr:x≠r:=Zo QD hr';have rr:upd H e (.lst []) r=none:=by rw[Qu (Ne.symm xr)]at hr';exact hr'
 have er:e≠r:=Zo QD rr;have r0:H r=none:=by rw[Qu (Ne.symm er)]at rr;exact rr
 refine fun l hl=>⟨_,rfl,x,C,dx,[("ends",.ref e),("rooms",.ref r)],rfl,?_,U.net.cl,U.net.leav,(by show(2:Nat)<1000;decide),?_⟩
 ·have xl:x≠l:=Zo QD hl
  rw[Qu xl,QD];rfl
 have xl:x≠l:=Zo QD hl;rw[Qu (Ne.symm xl)]at hl;have rl:r≠l:=Zo QD hl;rw[Qu (Ne.symm rl),Qu (Ne.symm xl)]at hl;have el:e≠l:=Zo QD hl;rw[Qu (Ne.symm el)]at hl;refine fun d hd=>⟨_,rfl,x,C,dx,[("ends",.ref e),("rooms",.ref r),("leaving",.ref l)],rfl,?_,U.net.cl,U.net.laid,(by show(3:Nat)<1000;decide),?_⟩
 ·have xd:x≠d:=Zo QD hd
  rw[Qu xd,QD];rfl
 have xd:x≠d:=Zo QD hd;rw[Qu (Ne.symm xd)]at hd;have ld:l≠d:=Zo QD hd;rw[Qu (Ne.symm ld),Qu (Ne.symm xd)]at hd;have rd:r≠d:=Zo QD hd;rw[Qu (Ne.symm rd),Qu (Ne.symm xd)]at hd;have ed:e≠d:=Zo QD hd;rw[Qu (Ne.symm ed)]at hd;refine q e r l d _ he r0 hl hd ?_ ?_ ?_ ?_ ?_ ?_ (fun b hb=>?_)
 ·simp only[XO,Xg,XU,or_false,not_or,not_false_eq_true,Ul,and_true]
  exact⟨⟨xe,xr,xl,xd⟩,⟨er,el,ed⟩,⟨rl,rd⟩,ld⟩
 ·rw[QD];rfl
 ·rw[Qu (Ne.symm xe),Qu ed,Qu (Ne.symm xe),Qu el,Qu (Ne.symm xe),Qu er,Qu (Ne.symm xe),QD]
 ·rw[Qu (Ne.symm xr),Qu rd,Qu (Ne.symm xr),Qu rl,Qu (Ne.symm xr),QD]
 ·rw[Qu (Ne.symm xl),Qu ld,Qu (Ne.symm xl),QD]
 ·rw[Qu (Ne.symm xd),QD];rfl
 ·simp only[Xg,XU,or_false,not_or]at hb
  obtain⟨b1,b2,b3,b4,b5⟩:=hb;rw[Qu b1,Qu b5,Qu b1,Qu b4,Qu b1,Qu b3,Qu b1,Qu b2]
inductive R_lay1:Qz->List OT->(Qz->Prop)->Prop
 |mk {N:Qz} {s e:List Key} {r:Int} (h1:N.ends.length<900) (h2:N.rooms.length<900) (h3:N.leav.length<900) (h4:∀k ns,QM N.leav k=some ns->ns.length<900):R_lay1 N [.fz (QV s),.fz (QV e),.fz (.int r)] (fun N'=>N'=Uu N s e r)
def IZ:Qp Zab Zab (Qy JZ):=by walk_at"p"
def LG (T:Bl mg) (U:Tx K mg C gS gE) (D:Mf K C "lay_one" "Net.lay_one" JZ Zab):Zz P w K mg base C "lay_one" Zab 1 (spN K P w C R_lay1):=by
 refine D.evN IZ (fun M ts Ψ h=>by cases h;rfl) (fun f cdv A outer s H E v M ts Ψ hr h=>?_)
 cases h with
 |@mk s' e r h1 h2 h3 h4 =>
   refine⟨_,(Q5 (Z3 (VU PySem.F.plainAttrs_list PySem.F.slot_list_append PySem.F.type_list_append VZ (Cu (Y6 hr) (Zu (pv 0) rfl) (pv 1) (Z1 Qs) ⟨rfl,rfl,rfl,rfl⟩) (Qo (Ze ZN (by rfl) T.len ZQ (Qo (Zu (pv 0) rfl) Qs)) Qs)))
 (Q5 (Z3 (VU PySem.F.plainAttrs_list PySem.F.slot_list_append PySem.F.type_list_append VZ (Zu (pv 0) rfl) (Qo (pv 2) Qs)))
 (QA (Z3 (VU PySem.F.plainAttrs_list PySem.F.slot_list_append PySem.F.type_list_append VZ (Zu (pv 0) rfl) (Qo (pv 3) Qs)))))),?_⟩
   show Q2 K _ [some _,some _,some _,some _] _
   walk_at"x"
   refine QI (EC (N:=M) (n:=(M.ends.length:Int)) U.net rfl (Qq rfl) (by omega) (fun ns hns=>?_) (Pd (N:={ M with leav:=VH M.leav s' }) U.net rfl) ?_)
   ·rw[DS,Xd rfl]at hns
    cases hns
    cases z:QM M.leav s' with
    |none=>decide
    |some ms=>have:=h4 s' ms z;show ms.length<1000;omega
   walk_at"d"
   refine QI (Ei U.net rfl (Qq rfl) (show M.ends.length<1000 by omega) ?_)
   walk_at"d"
   refine Eu U.net rfl (Qq rfl) (show M.rooms.length<1000 by omega) ?_
   walk_at"d"
   exact⟨_,rfl,rfl⟩
abbrev YM:QU Nd:=fun _ _=>0
inductive R_lay:Qz->List OT->(Qz->Prop)->Prop
 |mk {N:Qz} {L:Lay Nd} {s e:Nd} {r:Int} (h:NetR N L YM) (new:(s,e)∉L.map (fun x=>(x.1,x.2.1))) (l:L.length<400):R_lay N [.fz (QV (nk s)),.fz (QV (nk e)),.fz (.int r)] (fun N'=>NetR N' (L++[(s,e,r)]) YM)
def Ez:Qp Zab Zab (Qy JU):=by walk_at"p"
def To (T:Bl mg) (U:Tx K mg C gS gE) (D:Mf K C "lay" "Net.lay" JU Zab) (Xbn:Zz P w K mg base C "lay_one" Zab 1 (spN K P w C R_lay1)):Zz P w K mg base C "lay" Zab 2 (spN K P w C R_lay):=by
 refine D.evN Ez (fun M ts Ψ h=>by cases h;rfl) (fun f cdv A outer s H E v M ts Ψ hr h=>?_)
 cases h with
 |@mk L s' e r h new l =>
   refine⟨_,(Q5 (LZ (Ti hr) (Zu (pv 0) rfl) (Y9 (Qo (pv 1) (Qo (pv 2) Qs))) (Ze ZN (by rfl) T.len ZQ (Qo (Zu (pv 0) rfl) Qs)) rfl)
 (Q5 (Z3 (YC Xbn U.net hr (pv 0) (Qo (pv 1) (Qo (pv 2) (Qo (pv 3) Qs)))))
 (QA (Z3 (YC Xbn U.net hr (pv 0) (Qo (pv 2) (Qo (pv 1) (Qo Qx Qs)))))))),?_⟩
   show Q2 K _ [some _,some _,some _,some _] _
   walk_at"x"
   have le:=h.elen;have lr:M.rooms.length=2*L.length:=by rw[h.rooms,HL]
   have l1:=h.l1;have l2:=h.l2;have l3:=h.l3;refine QI (AC (N:=M) (n:=(M.ends.length:Int)) (k1:=nk s') (k2:=nk e) U.net rfl (Pd U.net rfl) (Yw (QT (Qq rfl) (QT (Qq rfl) Z2)) YI) (by omega) ?_)
   walk_at"d"
   refine QI (Jh (ΦA:=fun ts=>ts=[.fz (QV (nk s')),.fz (QV (nk e)),.fz (.int r)]) Sc rfl (W9 (Qw (Qq rfl) (Qw (Qq rfl) (Qw (Qq rfl) QC))) rfl) (fun ts hts=>?_));subst hts;refine⟨_,R_lay1.mk (show M.ends.length<900 by omega) (show M.rooms.length<900 by omega) (show M.leav.length<900 by omega) (fun k ns hk=>by have:=l3 k ns hk;omega),fun N' hN=>?_⟩;subst hN;walk_at"d"
   refine Jh (ΦA:=fun ts=>ts=[.fz (QV (nk e)),.fz (QV (nk s')),.fz (.int 0)]) Sc rfl (W9 (Qw (Qq rfl) (Qw (Qq rfl) (Qw Q7 QC))) rfl) (fun ts hts=>?_);subst hts;refine⟨_,R_lay1.mk ?a1 ?a2 ?a3 ?a4,fun N' hN=>?_⟩
   case a1=>show(M.ends++[nk e]).length<900;rw[Xm,le];show 2*L.length+1<900;omega
   case a2=>show(M.rooms++[r]).length<900;rw[Xm,lr];show 2*L.length+1<900;omega
   case a3 =>
    show(VF (VH M.leav (nk s')) (nk s') _).length<900
    rw[BV];have:=DK M.leav (nk s');omega
   case a4 =>
    intro k ns hk;rw[UJ]at hk;by_cases z:k=nk s'
    ·rw[Xd z]at hk
     cases hk
     have:((QM M.leav (nk s')).getD []).length<=2*L.length:=by
      cases q:QM M.leav (nk s') with
      |none=>exact XM _
      |some ms=>exact l3 _ ms q
     show((QM M.leav (nk s')).getD []++[_]).length<900
     rw[Xm];show _+1<900;omega
    ·rw[Xb z]at hk
     have:=l3 k ns hk
     omega
   subst hN;walk_at"d"
   exact⟨_,Cn (r:=r) h rfl new,rfl⟩
def Fw {K:W.Frag}{ρ:Q1}{ta:TE}{ds:Qd}(h:Qt K ta ρ (.list ds)):Zg K (fun σ H Q=>ta σ H fun x H'=>∃k,MD K x H' k/\Q k H') ρ (!ds.isEmpty):=fun H0 F σ H Q S q=>h H0 F σ H _ S fun F1 H1 v x1 r1=>by
 obtain⟨a,xs,rfl,h1,h2,_⟩:=Wx (K:=K) r1 x1.fh;refine⟨_,.inl ⟨xs,h1,rfl⟩,?_⟩
 have e:xs.isEmpty=ds.isEmpty:=by
  have:=h2.length
  cases xs<;>cases ds<;>simp at this ⊢
 rw[e];exact q F1 H1 x1
def Wd (n:Nd):PyData:=QV (nk n)
inductive R_reached (P:Program)(w:World)(C:Addr):List OT->(OT->Prop)->Prop
 |mk {N:Qz} {L:Lay Nd} {φ:QU Nd} {s:Nd} (h:NetR N L φ) (l:L.length<400):R_reached P w C [.zow (V2 P w C N),.fz (QV (nk s))] (fun r=>∃v es,r=.own v (Vy (kvG es))/\Tree L φ s es/\VW L φ es)
structure ReachI (L:Lay Nd)(φ:QU Nd)(s:Nd)(es0 es:Got Nd)(U fu:List Nd):Prop where
 tree:Tree L φ s es
 fin:∀n∈fu,n∈QR es
 sub:∀n∈QR es0,n∈QR es
 done:Jv L φ es (U++fu)
 len:es.length=es0.length+fu.length
def JV:Qp ["self","start","edges","latest","further","node","edge"] ZaJ (Qy JY):=by walk_at"p"
def Et (T:Bl mg) (U:Tx K mg C gS gE) (D:Mf K C "reached" "Net.reached" JY ZaJ):Zz P w K mg base C "reached" ZaJ 1 (Zl K (R_reached P w C)):=by
 refine D.evD JV (fun ts Φ h=>by cases h;rfl) (fun _ _ _ _ s H E ts Φ hr h=>?_)
 cases h with
 |@mk N L φ s' h l =>
   refine⟨_,(Q5 (QY (i:=2) JV.nd rfl Qa (CK (Y6 hr) (pv 1) B8))
 (Q5 (QY (i:=3) JV.nd rfl Qa (Z1 (Qo (pv 1) Qs)))
 (Q5 (Hm PassesOwn.never (Ct (pv 3) (fun _=>rfl)) (Q5 (QY (i:=4) JV.nd rfl Qa (Z1 Qs))
 (Q5 (Vx PassesOwn.never rfl (Yy (pv 3)) (QZ (i:=5) JV.nd rfl Qa) (QA (Vx PassesOwn.never rfl (Yy (CN (Y6 hr) (Zu (pv 0) rfl) (pv 5) (Z1 Qs) ⟨rfl,rfl,rfl,rfl⟩)) (QZ (i:=6) JV.nd rfl Qa) (QA (Z8 (PW.pt (G0 (ZT Wi (QG QH (Zu (pv 0) rfl) (pv 6)) Qx (ZA _)) (G8 (U9 (A8 (Y6 hr) (QG QH (Zu (pv 0) rfl) (pv 6)) (pv 2)))))) (Q5 (Rw (Y6 hr) (pv 2) (QG QH (Zu (pv 0) rfl) (pv 6)) (pv 6) rfl)
 (QA (Z3 (VU PySem.F.plainAttrs_list PySem.F.slot_list_append PySem.F.type_list_append VZ (pv 4) (Qo (QG QH (Zu (pv 0) rfl) (pv 6)) Qs))))) Z9)))))
 (QA (QY (i:=3) JV.nd rfl Qa (pv 4))))))
 (QA (QW (pv 2)))))),?_⟩
   show Q2 K _ [some _,some _,none,none,none,none,none] _
   walk_at"x"
   refine QI (GF (Cf (k:=nk s') (d:=.none) (Qq rfl) Gw) (fun v=>?_))
   walk_at"d"
   refine QI (Vw (Vk (ds:=[QV (nk s')]) (QT (Qq rfl) Z2) W2) ?_)
   walk_at"d"
   refine Yt 3 rfl ?_
   walk_at"d"
   have bnd:∀es,Tree L φ s' es->es.length<=2*L.length+1:=fun es t=>by have:=t.len;rw[SY]at this;exact this
   refine QI (DT (fun m ρ'=>∃(es:Got Nd) (lt:List Nd) (u4 u5 u6:Option OT),Tree L φ s' es/\(∀n∈lt,n∈QR es)/\Jv L φ es lt/\m=2*(2*L.length+2-es.length)+(if lt=[] then 0 else 1) /\
    ρ'=[some (.zow (V2 P w C N)),some (.fz (QV (nk s'))),some (.own v (Vy (kvG es))),some (.fz (.list (lt.map Wd))),u4,u5,u6]) _ ⟨[(s',none)],[s'],none,none,none,.root,(fun n hn=>by simpa [QR] using hn),?d0,rfl,rfl⟩ ?ws)
   case d0 =>
    intro e m n r h1 h2 h3 h4 h5 h6;have:m=s':=by simpa [QR] using h5
    exact Xl (by rw[this];exact Xc) h6
   case ws =>
    rintro m _ ⟨es,lt,u4,u5,u6,tr,sb,dn,rfl,rfl⟩
    refine⟨_,Fw (ds:=lt.map Wd) (Qq rfl),fun c=>?_,fun c=>?_⟩
    ·have hlt:lt≠[]:=fun z=>by rw[z]at c;cases c
     rw[Xb hlt];refine QI (Vw (Vk (ds:=[]) Z2 (by decide)) ?_)
     walk_at"d"
     refine QI (VJ (ds:=lt.map Wd) (fun i ρ'=>∃(es':Got Nd) (fu:List Nd) (u5 u6:Option OT),ReachI L φ s' es es' (lt.drop i) fu /\
      ρ'=[some (.zow (V2 P w C N)),some (.fz (QV (nk s'))),some (.own v (Vy (kvG es'))),some (.fz (.list (lt.map Wd))),some (.ol (fu.map Wd)),u5,u6]) (YA (Qq rfl)) ⟨es,[],_,_,⟨tr,(fun n hn=>nomatch hn),fun n hn=>hn,by rw[List.drop_zero,XD];exact dn,by simp⟩,rfl⟩ ?st ?fin)
     case fin =>
      rintro _ ⟨es',fu,w5,w6,I,rfl⟩
      rw[Xk]at I;have dn':=I.done;rw[List.drop_length,List.nil_append]at dn';refine Yt 4 rfl ?_
      walk_at"d"
      refine ZK (Qq rfl) ?_
      walk_at"d"
      refine⟨2*(2*L.length+2-es'.length)+(if fu=[] then 0 else 1),?_,es',fu,_,_,_,I.tree,I.fin,dn',rfl,rfl⟩;have b1:=bnd es' I.tree;have b2:=I.len
      by_cases z:fu=[]
      ·rw[Xd z]
       rw[z]at b2;simp at b2;omega
      ·rw[Xb z]
       have:0<fu.length:=Mt.mpr z
       omega
     case st =>
      rintro i d _ hd ⟨es1,fu1,w5,w6,I1,rfl⟩
      have hi:i<lt.length:=by
       have:=(Xh.mp hd).1
       simpa using this
      obtain rfl:d=Wd lt[i]:=by simpa [hi] using hd.symm
      have hdr:lt.drop i=lt[i]::lt.drop (i+1):=List.drop_eq_getElem_cons hi;generalize lt[i]=x at hdr;refine⟨_,Zc,?_⟩
      walk_at"d"
      refine VJ (ds:=((QM N.leav (nk x)).getD []).map PyData.int) (fun j ρ'=>∃(es2:Got Nd) (fu2:List Nd) (u6:Option OT),ReachI L φ s' es es2 (lt.drop i) fu2 /\
       (∀(k:Nat) (n:Nd) (r:Int),(k:Int)∈((QM N.leav (nk x)).getD []).take j->hdE L k=some n->rmE L φ k=some r->0<r->n∈QR es2) /\
       ρ'=[some (.zow (V2 P w C N)),some (.fz (QV (nk s'))),some (.own v (Vy (kvG es2))),some (.fz (.list (lt.map Wd))),some (.ol (fu2.map Wd)),some (.fz (Wd x)),u6]) (YA (CB (k:=nk x) U.net rfl (Qq rfl))) ⟨es1,fu1,_,I1,(fun k n r hk=>by simp at hk),rfl⟩ ?st2 ?fin2
      case fin2 =>
       rintro _ ⟨es2,fu2,w6,I2,dn2,rfl⟩
       refine⟨es2,fu2,_,_,⟨I2.tree,I2.fin,I2.sub,?_,I2.len⟩,rfl⟩;rw[Xk,Wc]at dn2;intro e m n r h1 h2 h3 h4 h5 h6;by_cases z:m=x
       ·subst z
        exact dn2 e n r ((h.leav m (e:Int)).mpr ⟨e,rfl,h1⟩) h2 h3 h4
       ·refine I2.done e m n r h1 h2 h3 h4 h5 ?_
        rw[hdr,WH,Xg,not_or];exact⟨z,h6⟩
      case st2 =>
       rintro j d2 _ hd2 ⟨es2,fu2,w6,I2,dn2,rfl⟩
       have hj:j<((QM N.leav (nk x)).getD []).length:=by
        have:=(Xh.mp hd2).1
        simpa using this
       obtain⟨k,ek,tk⟩:=(h.leav x _).mp (XV hj)
       obtain rfl:d2=.int (k:Int):=by
        rw[Xq,XQ hj]at hd2;rw[ek]at hd2;simpa using hd2.symm
       obtain⟨y,hy⟩:∃y,L[k/2]?=some y:=by
        unfold tlE at tk;cases z:L[k/2]? with
        |none=>rw[z]at tk;cases tk
        |some y=>exact⟨y,rfl⟩
       obtain⟨n,hn⟩:∃n,hdE L k=some n:=⟨_,by unfold hdE;rw[hy];rfl⟩;obtain⟨r,hr'⟩:∃r,rmE L φ k=some r:=⟨_,by unfold rmE;rw[hy];rfl⟩;have ra:atI (N.rooms.map PyData.int) (k:Int)=some (.int r):=Va (by rw[Xq,h.rooms,GP,hr'];rfl);have ea:atI (N.ends.map QV) (k:Int)=some (QV (nk n)):=Va (by rw[h.ends,XY,Xq,DJ,hn];rfl);have tks:((QM N.leav (nk x)).getD []).take (j+1)=((QM N.leav (nk x)).getD []).take j++[(k:Int)]:=by rw[WG,XQ hj,ek];rfl
       have bes:=bnd es2 I2.tree;have ben:=I2.len;refine⟨_,Zc,?_⟩
       walk_at"d"
       have eend:∀{ρ:Q1},ρ[0]?=some (some (.zow (V2 P w C N)))->ρ[6]?=some (some (.fz (.int (k:Int))))->Qt K (tOp (rIx K) (V3 K (Q8 0) "ends") (Q8 6)) ρ (QV (nk n)):=fun e0 e6=>Rg U.net e0 (Qq e6) ea;refine ZC (b:=decide (r > 0) && !(VO (kvG es2) (nk n)).isSome) (Gx (ZS (Yu (Sj U.net rfl (Qq rfl) ra) Q7)) (fun _=>VB (E7 (eend rfl rfl) rfl))) (fun c=>?_) (fun c=>ZE ?_)
       ·rw[G3]at c
        have c1:r > 0:=X0 (Bool.and_eq_true_iff.mp c).1;have c2:n∉QR es2:=by simpa using (Bool.and_eq_true_iff.mp c).2
        refine QI (Co rfl (Qq rfl) (eend rfl rfl) (by rw[show(kvG es2).length=es2.length from Xk _];exact Vr (by omega)) ?_)
        walk_at"d"
        rw[FZ c2];refine JN (ds:=fu2.map Wd) rfl (eend rfl rfl) (by rw[Xk];omega) ?_
        walk_at"d"
        have km:x∈QR es2:=I2.sub x (sb x (List.mem_of_mem_drop (by rw[hdr];exact Xc)));refine⟨es2++[(n,some k)],fu2++[n],_,⟨I2.tree.add c2 hn tk km hr' c1,fun z hz=>?_,fun z hz=>Je.mpr (.inl (I2.sub z hz)),?_,by simp;omega⟩,fun k' n' r' hk' q1 q2 q3=>?_,by rw[Xr];rfl⟩
        ·rcases XG.mp hz with hz|hz
         ·exact Je.mpr (.inl (I2.fin z hz))
         ·exact Je.mpr (.inr (by simpa using hz))
        ·exact I2.done.add n (some k)
        ·rw[tks]at hk'
         rcases XG.mp hk' with z|z
         ·exact Je.mpr (.inl (dn2 k' n' r' z q1 q2 q3))
         ·have:k'=k:=by have:=Xi.mp z;omega
          subst this;rw[hn]at q1;cases q1;exact Je.mpr (.inr rfl)
       ·rw[G3]at c
        refine⟨es2,fu2,_,I2,fun k' n' r' hk' q1 q2 q3=>?_,rfl⟩;rw[tks]at hk';rcases XG.mp hk' with z|z
        ·exact dn2 k' n' r' z q1 q2 q3
        ·have:k'=k:=by have:=Xi.mp z;omega
         subst this;rw[hn]at q1;rw[hr']at q2;cases q1
         cases q2
         apply Classical.byContradiction
         intro hq;have q3':r > 0:=q3
         simp[q3',hq]at c
    ·have hlt:lt=[]:=by
      cases lt with
      |nil=>rfl
      |cons a b=>cases c
     subst hlt;exact D6 rfl ⟨v,es,rfl,tr,dn.closed⟩
def Yq (w:Qk):Qd:=w.map fun(e:Nat)=>PyData.int (e:Int)
def SQ {L:Lay Nd}{es:Got Nd}{n:Nd}{w:Qk}(b:Back L es n w):VO (kvG es) (nk n)=some (Uq w.head?):=by
 rw[Hf];cases b with
 |nil h=>rw[h];rfl
 |cons h t b=>rw[h];rfl
def Ni {L:Lay Nd}{φ:QU Nd}{e:Nat}{r:Int}(h:rmE L φ e=some r):e<2*L.length:=by
 unfold rmE at h;cases z:L[e/2]? with
 |none=>rw[z]at h;cases h
 |some x=>have:=(Xh.mp z).1;omega
def Rl {L:Lay Nd}{φ:QU Nd}{s n:Nd}{es:Got Nd}{w:Qk}(q:WayOk L φ s es n w):w.length<=2*L.length:=by
 have:=Ho (ys:=List.range (2*L.length)) q.nodup fun e he=>by
  obtain⟨r,hr,_⟩:=q.room e he;exact XF.mpr (Ni hr)
 simpa using this
inductive R_way (P:Program)(w:World)(C:Addr):List OT->(OT->Prop)->Prop
 |mk {N:Qz} {L:Lay Nd} {φ:QU Nd} {s n:Nd} {es:Got Nd} {wy:Qk} (h:NetR N L φ) (l:L.length<400) (q:WayOk L φ s es n wy):R_way P w C [.zow (V2 P w C N),.zow (J0 (kvG es)),.fz (QV (nk n))] (fun r=>r=.ol (Yq wy))
def Mn:Qp ["self","edges","end","way","edge"] ZaD (Qy JX):=by walk_at"p"
def TF (T:Bl mg) (U:Tx K mg C gS gE) (D:Mf K C "way_to" "Net.way_to" JX ZaD):Zz P w K mg base C "way_to" ZaD 1 (Zl K (R_way P w C)):=by
 refine D.evD Mn (fun ts Φ h=>by cases h;rfl) (fun _ _ _ _ s H E ts Φ hr h=>?_)
 cases h with
 |@mk N L φ s' n es wy h l q =>
   refine⟨_,(Q5 (QY (i:=3) Mn.nd rfl Qa (Z1 Qs))
 (Q5 (QY (i:=4) Mn.nd rfl Qa (RB (Y6 hr) (pv 1) (pv 2) (fun _ _=>rfl)))
 (Q5 (Hm PassesOwn.never (U9 (LH (pv 4))) (Q5 (Z3 (VU PySem.F.plainAttrs_list PySem.F.slot_list_append PySem.F.type_list_append VZ (pv 3) (Qo (pv 4) Qs)))
 (QA (QY (i:=4) Mn.nd rfl Qa (RB (Y6 hr) (pv 1) (QG QH (Zu (pv 0) rfl) (QO ND (pv 4) Qx)) (fun _ _=>rfl))))))
 (QA (QW (pv 3)))))),?_⟩
   show Q2 K _ [some _,some _,some _,none,none] _
   walk_at"x"
   have wl:=Rl q;refine QI (Vw (Vk (ds:=[]) Z2 (by decide)) ?_)
   walk_at"d"
   refine QI (ZK (Ra rfl (Qq rfl) (SQ q.back)) ?_)
   walk_at"d"
   refine QI (DT (fun m ρ'=>∃(dn rs:Qk) (n':Nd),m=rs.length/\dn++rs=wy/\Back L es n' rs/\ρ'=[some (.zow (V2 P w C N)),some (.zow (J0 (kvG es))),some (.fz (QV (nk n))),some (.ol (Yq dn)),some (.fz (Uq rs.head?))]) wy.length ⟨[],wy,n,rfl,rfl,q.back,rfl⟩ ?ws)
   case ws =>
    rintro m _ ⟨dn,rs,n',rfl,hw,b,rfl⟩
    refine⟨_,VB (Nu (Qq rfl)),fun c=>?_,fun c=>?_⟩
    ·cases b with
     |nil h0=>cases c
     |@cons _ m' e rs' h0 t0 b0 =>
       have dl:dn.length<1000:=by
        have:=X5 List.length hw
        rw[Xm]at this;omega
       refine QI (JN (ds:=Yq dn) (d:=.int (e:Int)) rfl (Qq rfl) (by unfold Yq;rw[Xk];exact dl) ?_)
       walk_at"d"
       have ea:atI (N.ends.map QV) (Builtin.bitXor (e:Int) 1)=some (QV (nk m')):=by
        rw[P0];exact Va (by rw[h.ends,XY,Xq,A2,t0];rfl)
       refine ZK (Ra rfl (Rg U.net rfl (Z5 (g:=Builtin.bitXor) (Qq rfl) Q7) ea) (SQ b0)) ?_
       walk_at"d"
       refine⟨rs'.length,W1 _,dn++[e],rs',m',rfl,by rw[<- hw,UX];rfl,b0,?_⟩;unfold Yq;rw[Xr];rfl
    ·have:rs=[]:=by
      cases rs with
      |nil=>rfl
      |cons a b=>cases c
     subst this;rw[XD]at hw;subst hw;exact D1 rfl rfl
def amt (L:Lay Nd)(φ:QU Nd)(w:Qk):Int:=Yp (w.map fun e=>(rmE L φ e).getD 0)
inductive R_push:Qz->List OT->(Qz->Prop)->Prop
 |mk {N:Qz} {L:Lay Nd} {φ:QU Nd} {wy:Qk} (h:NetR N L φ) (hd:Dis L) (ne:wy≠[]) (hin:∀e∈wy,∃r,rmE L φ e=some r) (hl:wy.length<900):R_push N [.fz (.list (Yq wy))] (fun N'=>NetR N' L (YN L (amt L φ wy) φ wy))
def NetR.rm {N:Qz}{L:Lay Nd}{φ:QU Nd}(h:NetR N L φ){e:Nat}(he:e<2*L.length):∃r,N.rooms[e]?=some r/\(V8 L φ)[e]?=some r:=by
 have:e<(V8 L φ).length:=by rw[HL];exact he
 exact⟨(V8 L φ)[e],by rw[h.rooms,XQ this],XQ this⟩
def NetR.push {N:Qz}{L:Lay Nd}{φ:QU Nd}(h:NetR N L φ)(hd:Dis L){a r r':Int}{e:Nat}(h1:(V8 L φ)[e]?=some r)(h2:(V8 L φ)[ZeR e]?=some r'):NetR { N with rooms:=(N.rooms.set e (r-a)).set (ZeR e) (r'+a) } L (VQ L a φ e) :=
 ⟨h.ends,by show(N.rooms.set e (r-a)).set (ZeR e) (r'+a)=_;rw[h.rooms,Er hd h1 h2],h.leav,h.laid,h.laid0,h.l1,h.l2,h.l3⟩
def En {L:Lay Nd}{a:Int}{φ:QU Nd}{wy:Qk}{i e:Nat}(h:wy[i]?=some e):YN L a φ (wy.take (i+1))=VQ L a (YN L a φ (wy.take i)) e:=by
 have t:wy.take (i+1)=wy.take i++[e]:=by rw[WG,h];rfl
 rw[t];unfold YN;rw[List.foldl_append];rfl
def HS:Qp ["self","way","amount","edge"] ZaX (Qy Jf):=by walk_at"p"
def Fg (T:Bl mg) (U:Tx K mg C gS gE) (D:Mf K C "push" "Net.push" Jf ZaX):Zz P w K mg base C "push" ZaX 1 (spN K P w C R_push):=by
 refine D.evN HS (fun M ts Ψ h=>by cases h;rfl) (fun f cdv A outer s H E v M ts Ψ hr h=>?_)
 cases h with
 |@mk L φ wy h hd ne hin hl =>
   refine⟨_,(Q5 (QY (i:=2) HS.nd rfl Qa (Ze FC (by rfl) T.min G4 (Qo (Yj (NX:=["self","way","amount","edge"]) (sc:=Qy Jf) (N:=["edge","self"]) (f:=[none,some 0]) rfl (by decide +kernel) rfl rfl (Yy (pv 1)) (fun _=>(QZ (i:=0) (show(["edge","self"]:Qh).Nodup by decide +kernel) rfl Qa)) (fun _=>ZZ) (fun _=>Yx) (fun _=>(QG QH (Zu (pv 1) rfl) (pv 0)))) Qs)))
 (QA (Vx PassesOwn.never rfl (Yy (pv 1)) (QZ (i:=3) HS.nd rfl Qa) (Q5 (BG (Zu (pv 0) rfl) (pv 3) BT (pv 2) TJ Ws)
 (QA (BG (Zu (pv 0) rfl) (QO ND (pv 3) Qx) BT (pv 2) Dl Ws)))))),?_⟩
   show Q2 K _ [some _,some _,none,none] _
   walk_at"x"
   refine QI (ZK (d:=.int (amt L φ wy)) (EH 0 rfl rfl (LU (ns:=wy.map fun e=>(rmE L φ e).getD 0) (Qt.cast (EvO.fz (Wh (xs:=wy) (enc:=fun(e:Nat)=>PyData.int (e:Int)) (h:=fun e=>.int ((rmE L φ e).getD 0)) ?ei (by omega) ?el)) (by rw[XY];rfl)) rfl (fun z=>ne (List.map_eq_nil_iff.mp z)))) ?_)
   case ei=>exact YA (Qq rfl)
   case el =>
    intro e he c;refine⟨_,Zc,?_⟩
    walk_at"e"
    obtain⟨r,hr'⟩:=hin e he;refine Qt.cast (Sj (N:=M) (m:=r) U.net rfl (Qq rfl) ?_) (by rw[hr'];rfl);exact Va (by rw[Xq,h.rooms,GP,hr'];rfl)
   walk_at"d"
   generalize amt L φ wy=a;refine VJ (ds:=Yq wy) (fun i ρ'=>∃(N':Qz) (u3:Option OT),NetR N' L (YN L a φ (wy.take i))/\ρ'=[some (.own v (Zb P w C N')),some (.fz (.list (Yq wy))),some (.fz (.int a)),u3]) (YA (Qq rfl)) ⟨M,_,h,rfl⟩ ?st ?fin
   case fin =>
    rintro _ ⟨N',u3,hN,rfl⟩
    unfold Yq at hN;rw[Xk,Wc]at hN;exact⟨N',hN,rfl⟩
   case st =>
    rintro i d _ hd' ⟨N',u3,hN,rfl⟩
    have hi:i<wy.length:=by
     have:=(Xh.mp hd').1
     unfold Yq at this;simpa using this
    obtain rfl:d=.int (wy[i]:Int):=by
     unfold Yq at hd';simpa [hi] using hd'.symm
    obtain⟨r0,hr0⟩:=hin wy[i] (XV hi);have el:=Ni hr0;rw[En (XQ hi)];generalize wy[i]=e at el;have em:ZeR e<2*L.length:=by unfold ZeR;split<;>omega
    have me:ZeR e≠e:=by unfold ZeR;split<;>omega
    obtain⟨r,h1,h2⟩:=My.NetR.rm hN el;obtain⟨r',h3,h4⟩:=My.NetR.rm hN em;refine⟨_,Zc,?_⟩
    walk_at"d"
    refine QI (SH (N:=N') (f:=fun i j=>i-j) (k:=(e:Int)) (m:=r) (n:=a) U.net rfl (Qq rfl) (by omega) (by rw[Xz];exact h1) (Qq rfl) ?_)
    walk_at"d"
    rw[Xz];refine SH (f:=fun i j=>i+j) (k:=(ZeR e:Int)) (m:=r') (n:=a) U.net rfl (Qt.cast (Z5 (g:=Builtin.bitXor) (Qq rfl) Q7) (by rw[P0])) (by omega) (by rw[Xz];show(N'.rooms.set e (r-a))[ZeR e]?=_;rw[Xx (Ne.symm me)];exact h3) (Qq rfl) ?_
    walk_at"d"
    rw[Xz];exact⟨_,_,My.NetR.push hN hd h2 h4,rfl⟩
inductive R_fill:Qz->List OT->(Qz->Prop)->Prop
 |mk {N:Qz} {y:Yd} {G:Gv} {φ:QU Nd} (h:NetR N (Zf y G) φ) (F:Flow y G φ) (l:(Zf y G).length<400):R_fill N [.fz (QV (nk .start)),.fz (QV (nk .fin))] (fun N'=>∃φ' es,NetR N' (Zf y G) φ'/\Flow y G φ'/\Nd.start∈QR es/\VW (Zf y G) φ' es/\Nd.fin∉QR es)
def HY:Qp ["self","start","end","edges"] ZaE (Qy JQ):=by walk_at"p"
def Fq (T:Bl mg) (U:Tx K mg C gS gE) (D:Mf K C "fill" "Net.fill" JQ ZaE) (Xbd:Zz P w K mg base C "reached" ZaJ 1 (Zl K (R_reached P w C))) (XbA:Zz P w K mg base C "push" ZaX 1 (spN K P w C R_push)) (XbB:Zz P w K mg base C "way_to" ZaD 1 (Zl K (R_way P w C))) :
 Zz P w K mg base C "fill" ZaE 2 (spN K P w C R_fill):=by
 refine D.evN HY (fun M ts Ψ h=>by cases h;rfl) (fun f cdv A outer s H E v M ts Ψ hr h=>?_)
 cases h with
 |@mk y G φ h F l =>
   refine⟨_,(Q5 (QY (i:=3) HY.nd rfl Qa (YC Xbd U.net hr (pv 0) (Qo (pv 1) Qs)))
 (QA (Hm PassesOwn.never (U9 (BA (Y6 hr) (pv 2) (pv 3))) (Q5 (Z3 (YC XbA U.net hr (pv 0) (Qo (YC XbB U.net hr (pv 0) (Qo (pv 3) (Qo (pv 2) Qs))) Qs)))
 (QA (QY (i:=3) HY.nd rfl Qa (YC Xbd U.net hr (pv 0) (Qo (pv 1) Qs)))))))),?_⟩
   show Q2 K _ [some _,some _,some _,none] _
   walk_at"x"
   have Vu:∀{M:Qz} {φ:QU Nd} {u:Option OT} {E':XK},NetR M (Zf y G) φ->Zv K (VR C "reached" (Zl K (R_reached P w C)) [] E' (Q8 0) (QE (Q8 1) QN)) [some (.own v (Zb P w C M)),some (.fz (QV (nk .start))),some (.fz (QV (nk .fin))),u] (fun r=>∃v' es,r=.own v' (Vy (kvG es))/\Tree (Zf y G) φ .start es/\VW (Zf y G) φ es):=fun h' =>
    Kb 0 rfl (fun r ⟨v',es,e,_⟩=>by subst e;exact CJ (CS es)) (RH Pz rfl (Qw (Qq rfl) QC) (R_reached.mk h' l))
   refine QI (UF (Vu h) (fun r hr'=>?_));obtain⟨v3,es,rfl,tr,cl⟩:=hr'
   walk_at"d"
   refine DT (fun m ρ'=>∃(M:Qz) (φ:QU Nd) (es:Got Nd) (v3:V),NetR M (Zf y G) φ/\Flow y G φ/\Tree (Zf y G) φ .start es/\VW (Zf y G) φ es/\m=(Q3 G.wa G.m-Vz (Zf y G) φ .start).toNat /\
    ρ'=[some (.own v (Zb P w C M)),some (.fz (QV (nk .start))),some (.fz (QV (nk .fin))),some (.own v3 (Vy (kvG es)))]) _ ⟨M,φ,es,v3,h,F,tr,cl,rfl,rfl⟩ ?ws
   clear tr cl es v3 h F;rintro m _ ⟨M,φ,es,v3,h,F,tr,cl,rfl,rfl⟩;refine⟨_,VB (L9 (k:=nk .fin) (Qq rfl) rfl),fun c=>?_,fun c=>?_⟩
   ·rw[G3]at c
    obtain⟨wy,q⟩:=tr.way .fin (X0 c);have wl:=Rl q
    have wne:wy≠[]:=fun z=>by
     have:=q.chain
     rw[z]at this;cases this
    refine RZ 3 rfl ?_
    walk_at"d"
    refine QI (Jh (ΦA:=fun ts=>ts=[.fz (.list (Yq wy))]) Af rfl (Lb (Φ:=fun r=>r=.ol (Yq wy)) (Kb 0 rfl (fun r e=>by subst e;exact RA (fun d hd=>by
     obtain⟨e,_,rfl⟩:=XT.mp hd
     exact⟨_,rfl⟩)) (RH Fo rfl (TH rfl (Qw (Qq rfl) QC)) (R_way.mk h l q))) (fun r e=>⟨_,e,rfl⟩)) (fun ts hts=>?_))
    subst hts;refine⟨_,R_push.mk h (BW y G) wne (fun e he=>let ⟨r,a,_⟩:=q.room e he;⟨r,a⟩) (by omega),fun N' hN=>?_⟩
    walk_at"d"
    obtain⟨m1,m2⟩:=Hr (ns:=wy.map fun e=>(rmE (Zf y G) φ e).getD 0) (fun z=>wne (List.map_eq_nil_iff.mp z))
    have a0:0<amt (Zf y G) φ wy:=by
     obtain⟨e,he,ee⟩:=XT.mp m1;obtain⟨r,hr1,hr2⟩:=q.room e he;rw[hr1]at ee;show 0<Yp _;rw[<- ee];exact hr2
    obtain⟨F',nd⟩:=F.push (a:=amt (Zf y G) φ wy) (by omega) q.chain q.nodup (fun e he=>by
     obtain⟨r,hr1,_⟩:=q.room e he;refine⟨r,hr1,?_⟩
     have:=m2 _ (XT.mpr ⟨e,he,rfl⟩)
     rw[hr1]at this;exact this)
    refine UF (Vu hN) (fun r hr'=>?_);obtain⟨v4,es',rfl,tr',cl'⟩:=hr'
    walk_at"d"
    refine⟨_,?_,N',_,es',v4,hN,F',tr',cl',rfl,rfl⟩
    have:=F'.most
    rw[nd]at this ⊢;omega
   ·rw[G3]at c
    exact⟨M,⟨φ,es,h,F,tr.start,cl,Ug c⟩,rfl⟩
structure GOk (y:Yd)(g:Gs):Prop where
 ln:g.line<y.ls.length
 w0:0<=g.want
 m0:0<=g.most
def Tl {y:Yd}{g:Gs}(h:g.Ok y):GOk y g:=⟨h.ln,by have:=h.w1;omega,by have:=h.m1;omega⟩
def QS (gs:List Gs):Gv:={ m:=gs.length,ln:=fun k=>(gs.getD k default).line,wa:=fun k=>(gs.getD k default).want,mo:=fun k=>(gs.getD k default).most,th:=fun k t=>Yk (gs.getD k default) (t:Int) }
def JI {gs:List Gs}{k:Nat}(h:k<gs.length):gs.getD k default=gs[k]:=by simp[List.getD,h]
def FR (y:Yd)(G:Gv)(k:Nat):(Vd y G k).length<=1+y.T:=by
 unfold Vd;rw[XJ];have:∀n,((List.range n).flatMap fun t=>if G.th k t=true then [((.guest k,.line (G.ln k) t,G.mo k):Nd×Nd×Int)] else []).length<=n:=by
  intro n;induction n with
  |zero=>simp
  |succ n ih =>
    rw[YH,Uh,Xm];have:([n].flatMap fun t=>if G.th k t=true then [((.guest k,.line (G.ln k) t,G.mo k):Nd×Nd×Int)] else []).length<=1:=by
     simp only[Ms,List.flatMap_nil,XD];split<;>simp
    omega
 have:=this y.T
 omega
def Cb {y:Yd}(h:1<=y.ls.length)(t:Nat):(VA y t).length=y.ls.length:=by
 unfold VA;rw[XJ];have:∀n,((List.range n).flatMap fun i=>[((.line (i+1) t,.line (Mir.upN y (i+1)) t,Zn y (i+1) t):Nd×Nd×Int)]).length=n:=by
  intro n;induction n with
  |zero=>simp
  |succ n ih=>rw[YH,Uh,Xm,ih];simp
 rw[this];omega
theorem GI {f:Nat->Lay Nd}{c:Nat}(h:∀k,(f k).length<=c):∀n,((List.range n).flatMap f).length<=n*c
 |0=>by simp
 |n+1=>by
   rw[YH,Uh,Xm];have a:=GI h n;have b:([n].flatMap f).length<=c:=by simpa using h n
   rw[Nat.add_mul];omega
def GX (f:Nat->Lay Nd)(n:Nat):(List.range (n+1)).flatMap f=(List.range n).flatMap f++f n:=by rw[YH,Uh];simp
def Hl {f:Nat->Lay Nd}{n:Nat}{x:Nd×Nd×Int}:x∈(List.range n).flatMap f ↔ ∃k,k<n/\x∈f k:=by
 rw[Wb];simp only[XF]
def Me {y:Yd}(ok:y.Ok)(G:Gv){n:Nat}(h:n<=8):((List.range n).flatMap (Vd y G)).length<=72:=by
 have a:=GI (f:=Vd y G) (c:=9) (fun k=>by have:=FR y G k;have:=ok.t8;omega) n;omega
def HB {y:Yd}(ok:y.Ok){n:Nat}(h:n<=8):((List.range n).flatMap (VA y)).length<=40:=by
 have a:=GI (f:=VA y) (c:=5) (fun k=>by rw[Cb ok.l1 k];exact ok.l5) n;omega
inductive R_gnode:List OT->OT->Prop
 |mk {k:Nat}:R_gnode [.fz (.int (k:Int))] (.fz (QV (nk (.guest k))))
def IP:Qp Zbb Zbb (Qy Kp):=by walk_at"p"
def FT (T:Bl mg) (D:Df K mg "guest_node" Kp Zbb):QF P w K mg base "guest_node" Zbb 1 (QP (K:=K) R_gnode):=by
 refine D.ev IP (fun ts r h=>by cases h;rfl) (fun _ _ _ _ s H E ts r hr h=>?_)
 cases h with
 |@mk k =>
   refine⟨_,(QA (QW (Y9 (Qo VI (Qo (pv 0) Qs))))),?_⟩;show Q2 K _ [some _] _
   walk_at"x"
   exact Vj (Yw (ds:=[.str "guest",.int (k:Int)]) (QT Yv (QT (Qq rfl) Z2)) YI) rfl
inductive R_lnode:List OT->OT->Prop
 |mk {l t:Nat}:R_lnode [.fz (.int (l:Int)),.fz (.int (t:Int))] (.fz (QV (nk (.line l t))))
def IJ:Qp ZaP ZaP (Qy HV):=by walk_at"p"
def Cs (T:Bl mg) (D:Df K mg "line_node" HV ZaP):QF P w K mg base "line_node" ZaP 1 (QP (K:=K) R_lnode):=by
 refine D.ev IJ (fun ts r h=>by cases h;rfl) (fun _ _ _ _ s H E ts r hr h=>?_)
 cases h with
 |@mk l t =>
   refine⟨_,(QA (QW (Y9 (Qo VI (Qo (pv 0) (Qo (pv 1) Qs)))))),?_⟩;show Q2 K _ [some _,some _] _
   walk_at"x"
   exact Vj (Yw (ds:=[.str "line",.int (l:Int),.int (t:Int)]) (QT Yv (QT (Qq rfl) (QT (Qq rfl) Z2))) (by show(3:Nat)<=1000;decide)) rfl
inductive R_lguest:Qz->List OT->(Qz->Prop)->Prop
 |mk {N:Qz} {y:Yd} {gs:List Gs} {k:Nat} (ok:y.Ok) (g8:gs.length<=8) (hk:k<gs.length) (h:NetR N ((List.range k).flatMap (Vd y (QS gs))) YM) :
  R_lguest N [.fz (Za y),.fz (.int (k:Int)),.fz (Q9 gs[k])] (fun N'=>NetR N' ((List.range (k+1)).flatMap (Vd y (QS gs))) YM)
def P5:Qp ["net","yard","number","guest","turn"] Zax (Qy Kg):=by walk_at"p"
def AB (T:Bl mg) (U:Tx K mg C gS gE) (D:Df K mg "lay_guest" Kg Zax) (Xbb:Zz P w K mg base C "lay" Zab 2 (spN K P w C R_lay)) (Xa9:QF P w K mg base "want_of" Zaz 1 (QP (K:=K) R_want)) (Xbe:QF P w K mg base "guest_node" Zbb 1 (QP (K:=K) R_gnode))
 (Xa4:QF P w K mg base "turns_of" ZaN 1 (QP (K:=K) R_turns)) (Xbg:QF P w K mg base "is_there" Zar 1 (QP (K:=K) R_there)) (Xbi:QF P w K mg base "most_of" Zaz 1 (QP (K:=K) R_most)) (Xbc:QF P w K mg base "line_node" ZaP 1 (QP (K:=K) R_lnode)) (Xbh:QF P w K mg base "line_of" Zaz 1 (QP (K:=K) R_lineof)) :
 QF P w K mg base "lay_guest" Zax 3 (spN K P w C R_lguest):=by
 refine D.evN P5 (fun M ts Ψ h=>by cases h;rfl) (fun f cdv A outer s H E v M ts Ψ hr h=>?_)
 cases h with
 |@mk y gs k ok g8 hk h =>
   refine⟨_,(Q5 (Z3 (YC Xbb U.net hr (pv 0) (Qo (YY (v:=.ref _) rfl U.mSTART rfl) (Qo (QJ Xbe hr (Qo (pv 2) Qs)) (Qo (QJ Xa9 hr (Qo (pv 3) Qs)) Qs)))))
 (QA (Vx PassesOwn.never rfl (Ya rfl T.range (Qo (QJ Xa4 hr (Qo (pv 1) Qs)) Qs)) (QZ (i:=4) P5.nd rfl Qa) (QA (Z8 (VX (QJ Xbg hr (Qo (pv 3) (Qo (pv 4) Qs)))) (QA (Z3 (YC Xbb U.net hr (pv 0) (Qo (QJ Xbe hr (Qo (pv 2) Qs)) (Qo (QJ Xbc hr (Qo (QJ Xbh hr (Qo (pv 3) Qs)) (Qo (pv 4) Qs))) (Qo (QJ Xbi hr (Qo (pv 3) Qs)) Qs)))))) Z9))))),?_⟩
   show Q2 K _ [some _,some _,some _,some _,none] _
   walk_at"x"
   have t8:=ok.t8;have gl:=Me ok (QS gs) (n:=k) (by omega);have gk:=JI hk;have ew:(QS gs).wa k=gs[k].want:=by show(gs.getD k default).want=_;rw[gk]
   have glb:∀x∈(List.range k).flatMap (Vd y (QS gs)),∃j,j<k/\x∈Vd y (QS gs) j:=fun x hx=>Hl.mp hx;refine QI (Jh (ΦA:=fun ts=>ts=[.fz (QV (nk .start)),.fz (QV (nk (.guest k))),.fz (.int gs[k].want)]) BJ rfl (W9 (Qw (Hg U.aS) (Qw (Zd (Qw (Qq rfl) QC) R_gnode.mk) (Qw (Zd (Qw (Qq rfl) QC) R_want.mk) QC))) rfl) (fun ts hts=>?_));subst hts;refine⟨_,R_lay.mk h ?n0 (by omega),fun N1 hN1=>?_⟩
   case n0 =>
    intro hm;obtain⟨x,hx,ex⟩:=XT.mp hm;obtain⟨j,hj,hx⟩:=glb x hx;injection ex with e1 e2
    rcases Wt.mp hx with rfl|⟨t,_,_,rfl⟩
    ·injection e2 with e2
     omega
    ·cases e1
   walk_at"d"
   refine VJ (ds:=ZI 0 y.T) (fun i ρ'=>∃(N':Qz) (u4:Option OT),NetR N' ((List.range k).flatMap (Vd y (QS gs))++((.start,.guest k,(QS gs).wa k)::(List.range i).flatMap fun t=>if (QS gs).th k t=true then [(.guest k,.line ((QS gs).ln k) t,(QS gs).mo k)] else [])) YM /\
    ρ'=[some (.own v (Zb P w C N')),some (.fz (Za y)),some (.fz (.int (k:Int))),some (.fz (Q9 gs[k])),u4]) ?ei ⟨N1,none,by rw[ew];exact hN1,rfl⟩ ?st ?fin
   case ei=>exact EvI.cast (Yn (Qw (Zd (Qw (Qq rfl) QC) R_turns.mk) QC) (by rw[z62];omega) (by rw[z62];omega)) (WD rfl (by omega))
   case fin =>
    rintro _ ⟨N',u4,hN,rfl⟩
    rw[YW]at hN;refine⟨N',?_,rfl⟩;rw[GX];exact hN
   case st =>
    rintro t d _ hd ⟨N',u4,hN,rfl⟩
    obtain⟨ht,rfl⟩:=YE hd;rw[Y0];refine⟨_,Zc,?_⟩
    walk_at"d"
    have et:Yk gs[k] (t:Int)=(QS gs).th k t:=by show _=Yk (gs.getD k default) (t:Int);rw[gk]
    refine ZC (b:=(QS gs).th k t) (Zg.cast (VB (Zd (Qw (Qq rfl) (Qw (Qq rfl) QC)) R_there.mk)) et) (fun c=>?_) (fun c=>ZE ?_)
    ·refine Jh (ΦA:=fun ts=>ts=[.fz (QV (nk (.guest k))),.fz (QV (nk (.line gs[k].line t))),.fz (.int gs[k].most)]) BJ rfl (W9 (Qw (Zd (Qw (Qq rfl) QC) R_gnode.mk) (Qw (Zd (Qw (Zd (Qw (Qq rfl) QC) R_lineof.mk) (Qw (Qq rfl) QC)) R_lnode.mk) (Qw (Zd (Qw (Qq rfl) QC) R_most.mk) QC))) rfl) (fun ts hts=>?_)
     subst hts;refine⟨_,R_lay.mk hN ?n1 ?l1,fun N2 hN2=>?_⟩
     case n1 =>
      intro hm;obtain⟨x,hx,ex⟩:=XT.mp hm;injection ex with e1 e2
      rcases XG.mp hx with hx|hx
      ·obtain⟨j,hj,hx⟩:=glb x hx
       rcases Wt.mp hx with rfl|⟨t',_,_,rfl⟩
       ·cases e1
       ·injection e1 with e1
        omega
      ·rcases Xg.mp hx with rfl|hx
       ·cases e1
       ·obtain⟨t',ht',hx⟩:=Wb.mp hx
        split at hx
        ·rw[Xi.mp hx]at e2
         injection e2 with _ e2
         have:=XF.mp ht'
         omega
        ·cases hx
     case l1 =>
      rw[Xm];have:(((.start,.guest k,(QS gs).wa k):Nd×Nd×Int)::(List.range t).flatMap fun t=>if (QS gs).th k t=true then [((.guest k,.line ((QS gs).ln k) t,(QS gs).mo k):Nd×Nd×Int)] else []).length<=1+t*1:=by
       rw[XJ];have:=GI (f:=fun t=>if (QS gs).th k t=true then [((.guest k,.line ((QS gs).ln k) t,(QS gs).mo k):Nd×Nd×Int)] else []) (c:=1) (fun t=>by split<;>simp) t;omega
      omega
     walk_at"d"
     refine⟨N2,_,?_,rfl⟩;rw[GX,Xd c];have e1:(QS gs).ln k=gs[k].line:=by show(gs.getD k default).line=_;rw[gk]
     have e2:(QS gs).mo k=gs[k].most:=by show(gs.getD k default).most=_;rw[gk]
     rw[<- e1,<- e2,UX]at hN2;exact hN2
    ·refine⟨N',_,?_,rfl⟩
     rw[GX,Xb (by rw[c];decide),XD];exact hN
inductive R_lturn:Qz->List OT->(Qz->Prop)->Prop
 |mk {N:Qz} {y:Yd} {G:Gv} {t:Nat} (ok:y.Ok) (g8:G.m<=8) (ht:t<y.T) (h:NetR N ((List.range G.m).flatMap (Vd y G)++(List.range t).flatMap (VA y)) YM) :
  R_lturn N [.fz (Za y),.fz (.int (t:Int))] (fun N'=>NetR N' ((List.range G.m).flatMap (Vd y G)++(List.range (t+1)).flatMap (VA y)) YM)
def Pt:Qp ["net","yard","turn","line"] ZaL (Qy HG):=by walk_at"p"
def An (T:Bl mg) (U:Tx K mg C gS gE) (D:Df K mg "lay_turn" HG ZaL) (Xbb:Zz P w K mg base C "lay" Zab 2 (spN K P w C R_lay)) (Xa7:QF P w K mg base "bound_at" Zav 1 (QP (K:=K) R_bound)) (Xbc:QF P w K mg base "line_node" ZaP 1 (QP (K:=K) R_lnode))
 (Xa6:QF P w K mg base "line_count" ZaN 1 (QP (K:=K) R_count)) (Xbj:QF P w K mg base "above_of" ZaO 1 (QP (K:=K) R_above)):QF P w K mg base "lay_turn" ZaL 3 (spN K P w C R_lturn):=by
 refine D.evN Pt (fun M ts Ψ h=>by cases h;rfl) (fun f cdv A outer s H E v M ts Ψ hr h=>?_)
 cases h with
 |@mk y G t ok g8 ht h =>
   refine⟨_,(Q5 (Z3 (YC Xbb U.net hr (pv 0) (Qo (QJ Xbc hr (Qo Qx (Qo (pv 2) Qs))) (Qo (YY (v:=.ref _) rfl U.mEND rfl) (Qo (QJ Xa7 hr (Qo (pv 1) (Qo Qx (Qo (pv 2) Qs)))) Qs)))))
 (QA (Vx PassesOwn.never rfl (SL rfl T.range (Qo Qx (Qo (QJ Xa6 hr (Qo (pv 1) Qs)) Qs))) (QZ (i:=3) Pt.nd rfl Qa) (QA (Z3 (YC Xbb U.net hr (pv 0) (Qo (QJ Xbc hr (Qo (pv 3) (Qo (pv 2) Qs))) (Qo (QJ Xbc hr (Qo (QJ Xbj hr (Qo (pv 1) (Qo (pv 3) Qs))) (Qo (pv 2) Qs))) (Qo (QJ Xa7 hr (Qo (pv 1) (Qo (pv 3) (Qo (pv 2) Qs)))) Qs))))))))),?_⟩
   show Q2 K _ [some _,some _,some _,none] _
   walk_at"x"
   have t8:=ok.t8;have l1:=ok.l1;have l5:=ok.l5;have gl:=Me ok G g8;have tl:=HB ok (n:=t) (by omega)
   have glb:∀x∈(List.range G.m).flatMap (Vd y G)++(List.range t).flatMap (VA y),(∃j,x∈Vd y G j)\/∃t',t'<t/\x∈VA y t':=fun x hx=>by
    rcases XG.mp hx with hx|hx
    ·obtain⟨j,_,hx⟩:=Hl.mp hx
     exact .inl ⟨j,hx⟩
    ·obtain⟨j,hj,hx⟩:=Hl.mp hx
     exact .inr ⟨j,hj,hx⟩
   refine QI (Jh (ΦA:=fun ts=>ts=[.fz (QV (nk (.line 0 t))),.fz (QV (nk .fin)),.fz (.int (Zn y 0 t))]) BJ rfl (W9 (Qw (Zd (Qw Q7 (Qw (Qq rfl) QC)) (R_lnode.mk (l:=0))) (Qw (N5 U.aE) (Qw (Zd (Qw (Qq rfl) (Qw Q7 (Qw (Qq rfl) QC))) (R_bound.mk (k:=0) (t:=(t:Int)) ok (by decide) (by omega) (by omega) (by omega))) QC))) ?e0) (fun ts hts=>?_))
   case e0=>rw[Xz];rfl
   subst hts;refine⟨_,R_lay.mk h ?n0 (by rw[Xm];omega),fun N1 hN1=>?_⟩
   case n0 =>
    intro hm;obtain⟨x,hx,ex⟩:=XT.mp hm;injection ex with e1 e2
    rcases glb x hx with ⟨j,hx⟩|⟨t',ht',hx⟩
    ·rcases Wt.mp hx with rfl|⟨u,_,_,rfl⟩<;>cases e1
    ·rcases Jg.mp hx with rfl|⟨i,_,rfl⟩
     ·injection e1 with _ e1
      omega
     ·cases e2
   walk_at"d"
   refine VJ (ds:=ZI 1 (y.ls.length-1)) (fun i ρ'=>∃(N':Qz) (u3:Option OT),NetR N' (((List.range G.m).flatMap (Vd y G)++(List.range t).flatMap (VA y))++((.line 0 t,.fin,Zn y 0 t)::(List.range i).flatMap fun i=>[(.line (i+1) t,.line (Mir.upN y (i+1)) t,Zn y (i+1) t)])) YM /\
    ρ'=[some (.own v (Zb P w C N')),some (.fz (Za y)),some (.fz (.int (t:Int))),u3]) ?ei ⟨N1,none,by simpa using hN1,rfl⟩ ?st ?fin
   case ei=>exact EvI.cast (DL (Qw Q7 (Qw (Zd (Qw (Qq rfl) QC) R_count.mk) QC)) (by rw[z62];omega)) (WD rfl (by omega))
   case fin =>
    rintro _ ⟨N',u3,hN,rfl⟩
    rw[YW]at hN;refine⟨N',?_,rfl⟩;rw[GX,<- UX];exact hN
   case st =>
    rintro i d _ hd ⟨N',u3,hN,rfl⟩
    obtain⟨hi,rfl⟩:=YE hd;have ei:(1:Int)+(i:Int)=((i+1:Nat):Int):=by omega
    rw[ei];refine⟨_,Zc,?_⟩
    walk_at"d"
    refine Jh (ΦA:=fun ts=>ts=[.fz (QV (nk (.line (i+1) t))),.fz (QV (nk (.line (Mir.upN y (i+1)) t))),.fz (.int (Zn y (i+1) t))]) BJ rfl (W9 (Qw (Zd (Qw (Qq rfl) (Qw (Qq rfl) QC)) (R_lnode.mk (l:=i+1))) (Qw (Zd (Qw (Zd (Qw (Qq rfl) (Qw (Qq rfl) QC)) (R_above.mk (k:=((i+1:Nat):Int)) ok (by omega) (by omega))) (Qw (Qq rfl) QC)) (R_lnode.mk (l:=upN y (((i+1:Nat):Int)).toNat))) (Qw (Zd (Qw (Qq rfl) (Qw (Qq rfl) (Qw (Qq rfl) QC))) (R_bound.mk (k:=((i+1:Nat):Int)) (t:=(t:Int)) ok (by omega) (by omega) (by omega) (by omega))) QC))) ?e1) (fun ts hts=>?_)
    case e1=>rw[Xz,Xz];rfl
    subst hts;refine⟨_,R_lay.mk hN ?n1 ?l1,fun N2 hN2=>?_⟩
    case n1 =>
     intro hm;obtain⟨x,hx,ex⟩:=XT.mp hm;injection ex with e1 e2
     rcases XG.mp hx with hx|hx
     ·rcases glb x hx with ⟨j,hx⟩|⟨t',ht',hx⟩
      ·rcases Wt.mp hx with rfl|⟨u,_,_,rfl⟩<;>cases e1
      ·rcases Jg.mp hx with rfl|⟨i',_,rfl⟩
       ·cases e2
       ·injection e1 with _ e1
        omega
     ·rcases Xg.mp hx with rfl|hx
      ·cases e2
      ·obtain⟨i',hi',hx⟩:=Wb.mp hx
       rw[Xi.mp hx]at e1;injection e1 with e1 _
       have:=XF.mp hi'
       omega
    case l1 =>
     rw[Xm,Xm,XJ];have:=GI (f:=fun i=>[((.line (i+1) t,.line (Mir.upN y (i+1)) t,Zn y (i+1) t):Nd×Nd×Int)]) (c:=1) (fun i=>by simp) i;omega
    walk_at"d"
    refine⟨N2,_,?_,rfl⟩;rw[GX];rw[UX]at hN2;exact hN2
def PZ (y:Yd)(G:Gv)(φ:QU Nd):Prop:=Flow y G φ/\∃es:Got Nd,Nd.start∈QR es/\VW (Zf y G) φ es/\Nd.fin∉QR es
inductive R_filled (P:Program)(w:World)(C:Addr):List OT->(OT->Prop)->Prop
 |mk {y:Yd} {gs:List Gs} (ok:y.Ok) (hg:∀g∈gs,GOk y g) (g8:gs.length<=8):R_filled P w C [.fz (Za y),.fz (.list (gs.map Q9))] (fun r=>∃v N φ,r=.own v (Zb P w C N)/\NetR N (Zf y (QS gs)) φ/\PZ y (QS gs) φ)
def KO {y:Yd}(ok:y.Ok){l t:Nat}(hl:l<y.ls.length)(ht:t<y.T):0<=Zn y l t:=by
 rw[HH hl];have h1:=He ok hl;have hm:Vi y l∈y.ls:=by simp[Vi,hl]
 have:(Vi y l).bs.getD t 0=(Vi y l).bs[t]'(by omega):=by simp[List.getD,show t<(Vi y l).bs.length by omega]
 rw[this];exact(ok.bb _ hm _ (XV _)).1
def LD {y:Yd}(ok:y.Ok){gs:List Gs}(hg:∀g∈gs,GOk y g):∀x∈Zf y (QS gs),0<=x.2.2:=fun x hx=>by
 have l1:=ok.l1
 rcases GJ.mp hx with ⟨k,hk,hx⟩|⟨t,ht,hx⟩
 ·have gk:GOk y (gs.getD k default):=by rw[JI hk];exact hg _ (XV _)
  rcases Wt.mp hx with rfl|⟨t,_,_,rfl⟩
  ·exact gk.w0
  ·exact gk.m0
 ·rcases Jg.mp hx with rfl|⟨i,hi,rfl⟩
  ·exact KO ok (by omega) ht
  ·exact KO ok (by omega) ht
def GY:Qp ["yard","guests","net","number","guest","turn"] Zaf (Qy Ko):=by walk_at"p"
def Ea (T:Bl mg) (U:Tx K mg C gS gE) (D:Df K mg "filled_net" Ko Zaf) (XbC:M9 P w K mg base "Net" C 1) (XbD:QF P w K mg base "lay_guest" Zax 3 (spN K P w C R_lguest)) (Xa4:QF P w K mg base "turns_of" ZaN 1 (QP (K:=K) R_turns))
 (XbE:QF P w K mg base "lay_turn" ZaL 3 (spN K P w C R_lturn)) (XbF:Zz P w K mg base C "fill" ZaE 2 (spN K P w C R_fill)):QF P w K mg base "filled_net" Zaf 4 (Zl K (R_filled P w C)):=by
 refine D.evD GY (fun ts Φ h=>by cases h;rfl) (fun _ _ _ _ s H E ts Φ hr h=>?_)
 cases h with
 |@mk y gs ok hg g8 =>
   refine⟨_,(Q5 (QY (i:=2) GY.nd rfl Qa (Fp XbC hr))
 (Q5 (Vx PassesOwn.never rfl (P3 rfl T.enumerate (Qo (pv 1) Qs)) (WT (n:=2) rfl (Vc (QZ (i:=3) GY.nd rfl Qa) (Vc (QZ (i:=4) GY.nd rfl Qa) WC))) (QA (Z3 (QJ XbD hr (Qo (pv 2) (Qo (pv 0) (Qo (pv 3) (Qo (pv 4) Qs))))))))
 (Q5 (Vx PassesOwn.never rfl (Ya rfl T.range (Qo (QJ Xa4 hr (Qo (pv 0) Qs)) Qs)) (QZ (i:=5) GY.nd rfl Qa) (QA (Z3 (QJ XbE hr (Qo (pv 2) (Qo (pv 0) (Qo (pv 5) Qs)))))))
 (Q5 (Z3 (YC XbF U.net hr (pv 2) (Qo (YY (v:=.ref _) rfl U.mSTART rfl) (Qo (YY (v:=.ref _) rfl U.mEND rfl) Qs))))
 (QA (QW (pv 2))))))),?_⟩
   show Q2 K _ [some _,some _,none,none,none,none] _
   walk_at"x"
   have t8:=ok.t8;refine QI (GF LB (fun v=>?_))
   walk_at"d"
   refine QI (VJ (ds:=Uw (gs.map Q9)) (fun i ρ'=>∃(N':Qz) (u3 u4:Option OT),NetR N' ((List.range i).flatMap (Vd y (QS gs))) YM/\ρ'=[some (.fz (Za y)),some (.fz (.list (gs.map Q9))),some (.own v (Zb P w C N')),u3,u4,none]) (Dy (Qw (Qq rfl) QC)) ⟨_,none,none,PN _,rfl⟩ ?st ?fin)
   case st =>
    rintro i d _ hd ⟨N',u3,u4,hN,rfl⟩
    obtain⟨a,ha,rfl⟩:=Hx hd
    have hi:i<gs.length:=by
     have:=(Xh.mp ha).1
     simpa using this
    obtain rfl:a=Q9 gs[i]:=by simpa [hi] using ha.symm
    refine⟨_,Wg (ds:=[.int (i:Int),Q9 gs[i]]) (ZR Zc (ZR Zc Wp)) rfl,?_⟩
    walk_at"d"
    refine RO (ΦA:=fun ts=>ts=[.fz (Za y),.fz (.int (i:Int)),.fz (Q9 gs[i])]) rfl (W9 (Qw (Qq rfl) (Qw (Qq rfl) (Qw (Qq rfl) QC))) rfl) (fun ts hts=>?_);subst hts;refine⟨_,R_lguest.mk ok g8 hi hN,fun N2 hN2=>?_⟩
    walk_at"d"
    exact⟨N2,_,_,hN2,rfl⟩
   case fin =>
    rintro _ ⟨N1,u3,u4,hN1,rfl⟩
    rw[Hw,Xk]at hN1;refine QI (VJ (ds:=ZI 0 y.T) (fun i ρ'=>∃(N':Qz) (u5:Option OT),NetR N' ((List.range (QS gs).m).flatMap (Vd y (QS gs))++(List.range i).flatMap (VA y)) YM/\ρ'=[some (.fz (Za y)),some (.fz (.list (gs.map Q9))),some (.own v (Zb P w C N')),u3,u4,u5]) ?ei2 ⟨N1,none,by rw[show(List.range 0).flatMap (VA y)=[] from rfl,XD];exact hN1,rfl⟩ ?st2 ?fin2)
    case ei2=>exact EvI.cast (Yn (Qw (Zd (Qw (Qq rfl) QC) R_turns.mk) QC) (by rw[z62];omega) (by rw[z62];omega)) (WD rfl (by omega))
    case st2 =>
     rintro t d _ hd ⟨N',u5,hN,rfl⟩
     obtain⟨ht,rfl⟩:=YE hd;rw[Y0];refine⟨_,Zc,?_⟩
     walk_at"d"
     refine RO (ΦA:=fun ts=>ts=[.fz (Za y),.fz (.int (t:Int))]) rfl (W9 (Qw (Qq rfl) (Qw (Qq rfl) QC)) rfl) (fun ts hts=>?_);subst hts;refine⟨_,R_lturn.mk ok g8 ht hN,fun N2 hN2=>?_⟩
     walk_at"d"
     exact⟨N2,_,hN2,rfl⟩
    case fin2 =>
     rintro _ ⟨N',u5,hN,rfl⟩
     rw[YW]at hN;have hN:NetR N' (Zf y (QS gs)) YM:=hN
     have ll:(Zf y (QS gs)).length<400:=by
      unfold Zf;rw[Xm];have a:=Me ok (QS gs) (n:=(QS gs).m) g8;have b:=HB ok t8;omega
     refine QI (Jh (ΦA:=fun ts=>ts=[.fz (QV (nk .start)),.fz (QV (nk .fin))]) FS rfl (W9 (Qw (Hg U.aS) (Qw (N5 U.aE) QC)) rfl) (fun ts hts=>?_));subst hts;refine⟨_,R_fill.mk hN (Ty (LD ok hg)) ll,fun N2 hN2=>?_⟩;obtain⟨φ',es,h1,h2,h3,h4,h5⟩:=hN2
     walk_at"d"
     exact D6 rfl ⟨v,N2,φ',rfl,h1,h2,es,h3,h4,h5⟩
def ZX (y:Yd)(G:Gv)(S:Qm):Int:=Q3 (Zh S G.wa) G.m-Q3 (fun t=>passes y (fun l=>Zn y l t) (W3 G S t) 0) y.T
def MW (y:Yd)(G:Gv)(φ:QU Nd):Int:=Q3 (fun k=>G.wa k-Q3 (fun t=>Zp G φ t k) y.T) G.m
def AM {y:Yd}{G:Gv}{φ:QU Nd}(F:Flow y G φ)(ok:y.Ok)(hln:∀k,k<G.m->G.ln k<y.ls.length)(S:Qm):ZX y G S<=MW y G φ:=by
 have nn:∀k,k<G.m->0<=G.wa k-Q3 (fun t=>Zp G φ t k) y.T:=fun k hk=>by
  rw[F.total hk];have:=F.want hk;omega
 have h1:Q3 (Zh S fun k=>G.wa k-Q3 (fun t=>Zp G φ t k) y.T) G.m<=MW y G φ:=YX fun k hk=>Hi (nn k hk)
 have h2:Q3 (Zh S fun k=>G.wa k-Q3 (fun t=>Zp G φ t k) y.T) G.m=Q3 (Zh S G.wa) G.m-Q3 (Zh S fun k=>Q3 (fun t=>Zp G φ t k) y.T) G.m:=by
  rw[<- DW];refine Zj fun k _=>?_;unfold Zh;dsimp only;split<;>omega
 have h3:Q3 (fun t=>Q3 (Zh S (Zp G φ t)) G.m) y.T=Q3 (Zh S fun k=>Q3 (fun t=>Zp G φ t k) y.T) G.m:=by
  rw[Mc (fun t k=>Zh S (Zp G φ t) k) y.T G.m];refine Zj fun k _=>?_;unfold Zh;cases S k with
  |true=>rfl
  |false=>simp only[XZ,if_false];exact VL _
 have h4:Q3 (fun t=>Q3 (Zh S (Zp G φ t)) G.m) y.T<=Q3 (fun t=>passes y (fun l=>Zn y l t) (W3 G S t) 0) y.T:=YX fun t ht=>F.no_more ok hln S ht;unfold ZX;omega
def NO {y:Yd}{gs:List Gs}(hg:∀g∈gs,GOk y g):∀k,k<(QS gs).m->(QS gs).ln k<y.ls.length:=fun k hk=>by
 show(gs.getD k default).line<_
 rw[JI hk];exact(hg _ (XV _)).ln
def Z6 (gs:List Gs)(S:Qm):Qk:=(List.range gs.length).filter S
def DX {gs:List Gs}(g8:gs.length<=8)(S:Qm):SetOk gs (Z6 gs S) :=
 ⟨fun k hk=>XF.mp (Ud.mp hk).1,VM (List.length_filter_le _ _) (by simpa using g8)⟩
theorem GU (f:Qn):∀n,((List.range n).map f).sum=Q3 f n
 |0=>rfl
 |n+1=>by rw[YH,Xr,Bd,GU f n];simp[Q3]
theorem Pg (f:Qn)(p:Qm):∀n,(((List.range n).filter p).map f).sum=Q3 (Zh p f) n
 |0=>rfl
 |n+1=>by
   rw[YH,Bh,Xr,Bd,Pg f p n];show _=Q3 (Zh p f) n+Zh p f n;unfold Zh;cases e:p n with
   |true=>simp[Jo,e]
   |false=>simp[Jo,e]
def Fl (gs:List Gs)(S:Qm)(t l:Nat):W3 (QS gs) S t l=Y8 gs t (Z6 gs S) l:=by
 show _=Zq gs (t:Int) l ((List.range gs.length).filter S);rw[EG];unfold W3;refine Zj fun k hk=>?_;have hk:k<gs.length:=hk;unfold Zh moT wgt ind;rw[XQ hk];have e1:(QS gs).th k t=Yk gs[k] (t:Int):=by show Yk (gs.getD k default) _=_;rw[JI hk]
 have e2:(QS gs).mo k=gs[k].most:=by show(gs.getD k default).most=_;rw[JI hk]
 have e3:(QS gs).ln k=gs[k].line:=by show(gs.getD k default).line=_;rw[JI hk]
 rw[e1,e2,e3];cases S k with
 |false=>simp
 |true =>
   simp only[if_true];by_cases c:gs[k].line=l
   ·by_cases d:Yk gs[k] (t:Int)=true
    ·simp[c,d]
    ·simp[c,d]
   ·simp[c]
def YD (gs:List Gs)(sm:Qk):Int:=(sm.map fun k=>(gs.getD k default).want).sum
def UK (y:Yd)(gs:List Gs)(S:Qm):ZX y (QS gs) S=YD gs (Z6 gs S)-JT y gs (Z6 gs S):=by
 unfold ZX;congr 1
 ·exact(Pg _ S gs.length).symm
 ·unfold JT
  rw[GU];refine Zj fun t _=>?_;unfold Yg;rw[show W3 (QS gs) S t=Y8 gs t (Z6 gs S) from funext fun l=>Fl gs S t l]
def Dc (y:Yd)(G:Gv)(φ:QU Nd)(es:Got Nd):Prop:=Flow y G φ/\Nd.start∈QR es/\VW (Zf y G) φ es/\Nd.fin∉QR es
inductive R_lset:List OT->(OT->Prop)->Prop
 |mk {y:Yd} {gs:List Gs} (ok:y.Ok) (hg:∀g∈gs,GOk y g) (g8:gs.length<=8):R_lset [.fz (Za y),.fz (.list (gs.map Q9))] (fun r=>∃φ es,Dc y (QS gs) φ es/\r=.ol (Zm (Z6 gs (V0 es))))
def PD:Qp ["yard","guests","edges"] Zaf (Qy Mr):=by walk_at"p"
def ES (T:Bl mg) (U:Tx K mg C gS gE) (D:Df K mg "guests_reached" Mr Zaf) (XbG:QF P w K mg base "filled_net" Zaf 4 (Zl K (R_filled P w C))) (Xbd:Zz P w K mg base C "reached" ZaJ 1 (Zl K (R_reached P w C))) (Xbe:QF P w K mg base "guest_node" Zbb 1 (QP (K:=K) R_gnode)) :
 QF P w K mg base "guests_reached" Zaf 5 (Zl K R_lset):=by
 refine D.evD PD (fun ts Φ h=>by cases h;rfl) (fun _ _ _ _ s H E ts Φ hr h=>?_)
 cases h with
 |@mk y gs ok hg g8 =>
   refine⟨_,(Q5 (QY (i:=2) PD.nd rfl (Or.inr rfl) (YC Xbd U.net hr (QJ XbG hr (Qo (pv 0) (Qo (pv 1) Qs))) (Qo (YY (v:=.ref _) rfl U.mSTART rfl) Qs)))
 (QA (QW (Yj (NX:=["yard","guests","edges"]) (sc:=Qy Mr) (N:=["number","edges"]) (f:=[none,some 2]) rfl (by decide +kernel) rfl rfl (Ya rfl T.range (Qo (Ze ZN (by rfl) T.len ZQ (Qo (pv 1) Qs)) Qs)) (fun _=>(QZ (i:=0) (show(["number","edges"]:Qh).Nodup by decide +kernel) rfl Qa)) (fun _=>ZZ) (fun _=>(Jc (U9 (BA (Y6 hr) (QJ Xbe hr (Qo (pv 0) Qs)) (pv 1))))) (fun _=>(pv 0)))))),?_⟩
   show Q2 K _ [some _,some _,none] _
   walk_at"x"
   have ll:(Zf y (QS gs)).length<400:=by
    unfold Zf;rw[Xm];have a:=Me ok (QS gs) (n:=(QS gs).m) g8;have b:=HB ok ok.t8;omega
   refine QI (UF (Φ:=fun r=>∃v φ es,r=.own v (Vy (kvG es))/\Dc y (QS gs) φ es) (Ce (P:=P) (w:=w) Pz (Jb (Qw (Qq rfl) (Qw (Qq rfl) QC)) (R_filled.mk ok hg g8)) (fun r hr'=>?_) (Qw (Hg U.aS) QC)) (fun r hr'=>?_))
   ·obtain⟨v,N,φ,rfl,hN,F,es0,h1,h2,h3⟩:=hr'
    refine⟨v,N,rfl,_,R_reached.mk (s:=.start) hN ll,fun r ⟨v',es,e,tr,cl⟩=>⟨v',φ,es,e,F,tr.start,cl,fun z=>h3 (tr.inClosed h2 h1 _ z)⟩⟩
   ·obtain⟨v,φ,es,rfl,fb⟩:=hr'
    walk_at"d"
    refine RZ 2 rfl ?_
    walk_at"d"
    refine U1 (r:=.ol (Zm (Z6 gs (V0 es)))) (WU (xs:=List.range gs.length) (enc:=fun(j:Nat)=>PyData.int (j:Int)) (h:=fun(j:Nat)=>PyData.int (j:Int)) (p:=V0 es) ?ei (by simp;omega) ?el) ⟨φ,es,fb,rfl⟩
    case ei =>
     have e:(gs.map Q9).length=gs.length:=by simp
     refine EvI.cast (Yn (Qw (YQ (Qq rfl)) QC) (by rw[z62,e];omega) (by rw[z62,e];omega)) ?_;rw[e,Xz];unfold ZI;refine X7 fun i _=>?_;rw[Y0]
    case el =>
     intro k hk c;refine⟨_,Zc,?_,fun _=>?_⟩
     ·walk_at"e"
      exact Zg.cast (VB (Lz (k:=nk (.guest k)) (Zd (Qw (Qq rfl) QC) R_gnode.mk) rfl)) (G3 _ _)
     ·walk_at"e"
      exact Qq rfl
def IY:Qp Zaf Zaf (Qy Kr):=by walk_at"p"
def Fy (T:Bl mg) (D:Df K mg "lacking_set" Kr Zaf) (XbH:QF P w K mg base "guests_reached" Zaf 5 (Zl K R_lset)):QF P w K mg base "lacking_set" Zaf 6 (Zl K R_lset):=by
 refine D.evD IY (fun ts Φ h=>by cases h;rfl) (fun _ _ _ _ s H E ts Φ hr h=>?_);have h0:=h
 cases h with
 |@mk y gs ok hg g8 =>
   refine⟨_,(QA (QW (QJ XbH hr (Qo (pv 0) (Qo (pv 1) Qs))))),?_⟩;show Q2 K _ [some _,some _] _
   walk_at"x"
   exact FF (Jb (Qw (Qq rfl) (Qw (Qq rfl) QC)) h0) (fun r hr'=>hr')
def JJ (y:Yd)(gs:List Gs)(sm:Qk):Int:=YD gs sm-JT y gs sm
inductive R_short:List OT->OT->Prop
 |mk {y:Yd} {gs:List Gs} {sm:Qk} (ok:y.Ok) (hg:∀g∈gs,g.line<y.ls.length) (hs:SetOk gs sm) :
  R_short [.fz (Za y),.fz (.list (gs.map Q9)),.fz (.list (Zm sm))] (.fz (.int (JJ y gs sm)))
def Ik:Qp Zad Zad (Qy Ma):=by walk_at"p"
def FY (T:Bl mg) (D:Df K mg "short_of" Ma Zad) (Xa9:QF P w K mg base "want_of" Zaz 1 (QP (K:=K) R_want)) (XbI:QF P w K mg base "given_most" Zad 4 (QP (K:=K) R_givenm)) :
 QF P w K mg base "short_of" Zad 5 (QP (K:=K) R_short):=by
 refine D.ev Ik (fun ts r h=>by cases h;rfl) (fun _ _ _ _ s H E ts r hr h=>?_)
 cases h with
 |@mk y gs sm ok hg hs =>
   refine⟨_,(QA (QW (QO YS (Ze Du (by rfl) T.sum Dr (Qo (Yj (NX:=Zad) (sc:=Qy Ma) (N:=["number","guests"]) (f:=[none,some 1]) rfl (by decide +kernel) rfl rfl (Yy (pv 2)) (fun _=>(QZ (i:=0) (show(["number","guests"]:Qh).Nodup by decide +kernel) rfl Qa)) (fun _=>ZZ) (fun _=>Yx) (fun _=>(QJ Xa9 hr (Qo (QG QH (pv 1) (pv 0)) Qs)))) Qs)) (QJ XbI hr (Qo (pv 0) (Qo (pv 1) (Qo (pv 2) Qs))))))),?_⟩;show Q2 K _ [some _,some _,some _] _
   walk_at"x"
   have n8:=hs.len;refine Vj (Z5 (Bx (ns:=sm.map fun k=>(gs.getD k default).want) ?_ rfl) (Zd (by walk_at"ea") (R_givenm.mk ok hg hs))) rfl
   refine EvO.fz ?_;rw[XY];refine Wh (xs:=sm) (enc:=fun(j:Nat)=>PyData.int (j:Int)) ?_ (by omega) ?_
   ·walk_at"ei"
   ·intro x hx c
    have hk:=hs.mem x hx;refine⟨_,by walk_at"g",?_⟩
    walk_at"e"
    refine Zd (ts:=[.fz (Q9 (gs.getD x default))]) (Qw (Qt.cast (by walk_at"ev") (by rw[Xz])) QC) R_want.mk
def Oi:Qp ZaW ZaW (Qy UP):=by walk_at"p"
def AU {f:Addr} {fd:FuncData} (T:Bl mg) (F:Fun K "__init__" "NoRoom.__init__" UP f fd) (cl:Uo K YR CR f) (xs:PF K CR) (tk:W.takerIn K CR "some"=some none) (my:mg "YardError"=some (.ref YR)):FnOk P w K mg base CX0 1 f fd ZaW (G7 K CR "some"):=by
 refine F.ok Oi (fun vs H Q E ⟨e,p,xs,h,_⟩=>by rw[h];rfl) (fun cdv A outer s H vs Q E hr h=>⟨_,Q5 (Z3 (Cw (i:=0) cl rfl my rfl Qa)) (QA (Fm xs tk (pv 0) (Wy D9 (by rfl) T.list BE (Qo (pv 1) Qs)) rfl)),Ac h⟩)
inductive R_refuse:List OT->(OT->Prop)->Prop
 |mk {y:Yd} {gs:List Gs} (ok:y.Ok) (hg:∀g∈gs,GOk y g) (g8:gs.length<=8) (h:∀S,ZX y (QS gs) S<=0):R_refuse [.fz (Za y),.fz (.list (gs.map Q9))] (fun r=>r=.fz .none)
inductive X_refuse:List OT->(Qd->Prop)->Prop
 |mk {y:Yd} {gs:List Gs} (ok:y.Ok) (hg:∀g∈gs,GOk y g) (g8:gs.length<=8) {S:Qm} (h:0<ZX y (QS gs) S):X_refuse [.fz (Za y),.fz (.list (gs.map Q9))] (fun d=>∃S,0<ZX y (QS gs) S/\d=Zm (Z6 gs S))
def Kl:Qp Zad Zaf (Qy Kj):=by walk_at"p"
def AZ (T:Bl mg) (XR:XC K mg "NoRoom" YR CR fR) (D:Df K mg "refuse_lack" Kj Zaf) (Xbo:QF P w K mg base "lacking_set" Zaf 6 (Zl K R_lset)) (Xbp:QF P w K mg base "short_of" Zad 5 (QP (K:=K) R_short)) (Xbq:ML P w K mg base fR ZaW 1 (G7 K CR "some")) :
 UY P w K mg base "refuse_lack" Zaf 7 (spX K CR "some" R_refuse X_refuse):=by
 refine D.evZ Kl (fun ts Φ h=>by cases h;rfl) (fun ts Φ h=>by cases h;rfl) (by decide) (fun f cdv A outer s H RR ts Φ hr hst h=>?_) (fun f cdv A outer s F H RR ts Φ hr hst hq h=>?_)
 ·cases h with
  |@mk y gs ok hg g8 h =>
    refine⟨_,(Q5 (QY (i:=2) Kl.nd rfl Qa (QJ Xbo hr (Qo (pv 0) (Qo (pv 1) Qs))))
 (QA (Z8 (ZT Wi (QJ Xbp hr (Qo (pv 0) (Qo (pv 1) (Qo (pv 2) Qs)))) Qx (ZA _)) (QA (SB XR Xbq hst hr (Qo (pv 2) Qs))) Z9))),?_⟩
    show Q2 K _ [some _,some _,none] _
    walk_at"x"
    have hk:=hg;refine QI (UF (Jb (Qw (Qq rfl) (Qw (Qq rfl) QC)) (R_lset.mk ok hk g8)) (fun r hr'=>?_));obtain⟨φ,es,fb,rfl⟩:=hr'
    walk_at"d"
    refine Yt 2 rfl ?_
    walk_at"d"
    have h1:=h (V0 es);rw[UK]at h1;exact ZC (b:=false) (Zg.cast (ZS (Yu (Zd (Qw (Qq rfl) (Qw (Qq rfl) (Qw (Qq rfl) QC))) (R_short.mk ok (fun g h=>(hg g h).ln) (DX g8 _))) Q7)) (XN (by unfold JJ;omega))) (fun c=>nomatch c) (fun _=>ZE rfl)
 ·cases h with
  |@mk y gs ok hg g8 S h =>
    refine⟨_,(Q5 (QY (i:=2) Kl.nd rfl Qa (QJ Xbo hr (Qo (pv 0) (Qo (pv 1) Qs))))
 (QA (Z8 (ZT Wi (QJ Xbp hr (Qo (pv 0) (Qo (pv 1) (Qo (pv 2) Qs)))) Qx (ZA _)) (QA (SB XR Xbq hst hr (Qo (pv 2) Qs))) Z9))),?_⟩
    show EvZ K F H _ [some _,some _,none]
    walk_at"x"
    have hk:=hg;refine Lc (fun ρ'=>∃φ es,Dc y (QS gs) φ es/\ρ'=[some (.fz (Za y)),some (.fz (.list (gs.map Q9))),some (.ol (Zm (Z6 gs (V0 es))))]) (UF (Jb (Qw (Qq rfl) (Qw (Qq rfl) QC)) (R_lset.mk ok hk g8)) (fun r hr'=>?_)) ?_
    ·obtain⟨φ,es,fb,rfl⟩:=hr'
     exact⟨φ,es,fb,rfl⟩
    ·rintro _ ⟨φ,es,fb,rfl⟩
     refine T9 2 rfl ?_
     walk_at"d"
     have h1:0<ZX y (QS gs) (V0 es):=by
      have a:=AM fb.1 ok (NO hk) S;have e:=fb.1.lack ok (NO hk) fb.2.2.1 fb.2.1 fb.2.2.2;have e:MW y (QS gs) φ=ZX y (QS gs) (V0 es):=e;omega
     have h2:=h1;rw[UK]at h2;exact Tv (b:=true) (Zg.cast (ZS (Yu (Zd (Qw (Qq rfl) (Qw (Qq rfl) (Qw (Qq rfl) QC))) (R_short.mk ok (fun g h=>(hg g h).ln) (DX g8 _))) Q7)) (XW (by unfold JJ;omega))) (fun _=>Aj (Qq rfl) ⟨V0 es,h1,rfl⟩ hq) (fun c=>nomatch c)
inductive R_feed:List OT->(OT->Prop)->Prop
 |mk {n:Int}:R_feed [.fz (.int n)] (fun r=>∃a b:Int,r=.ol [.int a,.int b])
def Jj:Qp ["_law_cell","_law_big","_law_one","_law_other","_law_k"] Zba (Qy HU):=by walk_at"p"
def Fi (T:Bl mg) (D:Df K mg "_law_feed" HU Zba):QF P w K mg base "_law_feed" Zba 1 (Zl K R_feed):=by
 refine D.evD Jj (fun ts r h=>by cases h;rfl) (fun _ _ _ _ s H E ts r hr h=>?_)
 cases h with
 |@mk n =>
   refine⟨_,(Q5 (QY (i:=1) Jj.nd rfl Qa Qx)
 (Q5 (QY (i:=2) Jj.nd rfl Qa (QO Vh (QO Wm (QO JM (pv 0) Qx) Qx) Qx))
 (Q5 (QY (i:=3) Jj.nd rfl Qa (QO Vh (QO Wm (QO JM (pv 0) Qx) Qx) Qx))
 (Q5 (Vx PassesOwn.never rfl (Ya rfl T.range (Qo Qx Qs)) (QZ (i:=4) Jj.nd rfl Qa) (Q5 (QY (i:=2) Jj.nd rfl Qa (QO Wm (QO Vh (QO Vh (QO U6 (pv 2) (pv 2)) (QO U6 Qx (pv 3))) (pv 4)) Qx))
 (Q5 (QY (i:=3) Jj.nd rfl Qa (QO Wm (QO Vh (QO Vh (QO U6 (pv 3) (pv 3)) (QO U6 Qx (pv 2))) Qx) Qx))
 (QA (QY (i:=1) Jj.nd rfl Qa (QO Vh (QO U6 (pv 1) Qx) (pv 3)))))))
 (Q5 (Z8 (ZT Gk (QO Wm (pv 0) Qx) Qx (ZA _)) (QA (QW (Z1 (Qo (QO JM (pv 0) Qx) (Qo (pv 1) Qs))))) Z9)
 (QA (QW (Z1 (Qo (pv 1) (Qo Qx Qs)))))))))),?_⟩
   show Q2 K _ [some _,none,none,none,none] _
   walk_at"x"
   refine QI (ZK Q7 ?_)
   walk_at"d"
   have d2:∀{i:Int},J6 i 2:=Gb (by decide) (by decide);have d3:∀{i:Int},J6 i 3:=Gb (by decide) (by decide);refine QI (ZK (Z5 (Z4 (Z4 (Qq rfl) Q7 d2) Q7 (by decide)) Q7) ?_)
   walk_at"d"
   refine QI (ZK (Z5 (Z4 (Z4 (Qq rfl) Q7 d3) Q7 (by decide)) Q7) ?_)
   walk_at"d"
   have b1:0<=n/2%2147483647+11/\n/2%2147483647+11<4294967296:=by omega
   have b2:0<=n/3%2147483629+7/\n/3%2147483629+7<4294967296:=by omega
   generalize n/2%2147483647+11=x at b1;generalize n/3%2147483629+7=y at b2;refine QI (VJ (ds:=ZI 0 40) (fun _ ρ'=>∃(a b c:Int) (u:Option OT),(0<=a/\a<4294967296)/\(0<=b/\b<4294967296)/\ρ'=[some (.fz (.int n)),some (.fz (.int c)),some (.fz (.int a)),some (.fz (.int b)),u]) ?ei ⟨x,y,0,none,b1,b2,rfl⟩ ?st ?fin)
   case ei=>exact EvI.cast (Yn (Qw Q7 QC) (by rw[z62];decide) (by rw[z62];decide)) (WD rfl (by decide))
   case st =>
    rintro i d _ hd ⟨a,b,c,u,ha,hb,rfl⟩
    obtain⟨hi,rfl⟩:=YE hd;refine⟨_,Zc,?_⟩
    walk_at"d"
    have p64:(2:Int)^64=18446744073709551616:=by decide
    have m1:WK a a:=.inl ⟨by omega,by omega⟩;have m2:∀{z:Int},WK 48271 z:=.inl ⟨by decide,by decide⟩;have m3:∀{z:Int},WK 69621 z:=.inl ⟨by decide,by decide⟩;have m4:∀{z:Int},WK z 2147483629:=.inr ⟨by decide,by decide⟩;have m5:WK b b:=.inl ⟨by omega,by omega⟩;refine QI (ZK (Z4 (Z5 (Z5 (Z4 (Qq rfl) (Qq rfl) m1) (Z4 Q7 (Qq rfl) m2)) (Qq rfl)) Q7 (by decide)) ?_)
    walk_at"d"
    have e1:0<=(a*a+48271*b+(0+(i:Int)))%2147483647/\(a*a+48271*b+(0+(i:Int)))%2147483647<4294967296:=⟨Bc _ (by decide),Int.lt_trans (Bg _ (by decide)) (by decide)⟩;generalize (a*a+48271*b+(0+(i:Int)))%2147483647=a' at e1;refine QI (ZK (Z4 (Z5 (Z5 (Z4 (Qq rfl) (Qq rfl) m5) (Z4 Q7 (Qq rfl) m3)) Q7) Q7 (by decide)) ?_)
    walk_at"d"
    have e2:0<=(b*b+69621*a'+1)%2147483629/\(b*b+69621*a'+1)%2147483629<4294967296:=⟨Bc _ (by decide),Int.lt_trans (Bg _ (by decide)) (by decide)⟩;generalize (b*b+69621*a'+1)%2147483629=b' at e2;refine ZK (Z5 (Z4 (Qq rfl) Q7 m4) (Qq rfl)) ?_
    exact⟨a',b',_,_,e1,e2,rfl⟩
   case fin =>
    rintro _ ⟨a,b,c,u,ha,hb,rfl⟩
    refine QI (ZC (b:=decide (n%2=0)) (Zg.cast (ZS (U3 (Z4 (Qq rfl) Q7 (by decide)) Q7)) rfl) (fun _=>?_) (fun _=>ZE ?_))
    ·exact U1 (Vk (ds:=[.int (n/2),.int c]) (QT (Z4 (Qq rfl) Q7 d2) (QT (Qq rfl) Z2)) YI) ⟨_,_,rfl⟩
    ·exact U1 (Vk (ds:=[.int c,.int 0]) (QT (Qq rfl) (QT Q7 Z2)) YI) ⟨_,_,rfl⟩
inductive R_digit:Qd->List OT->(OT->Qd->Prop)->Prop
 |mk {a b m:Int} (h0:0<m) (h1:m<=10^60):R_digit [.int a,.int b] [.fz (.int m)] (fun r ds'=>∃n a' b':Int,0<=n/\n<m/\r=.fz (.int n)/\ds'=[.int a',.int b'])
def P9:Qp ["_law_feed_here","_law_many","_law_digit_here"] Zas (Qy Kn):=by walk_at"p"
def Cl (T:Bl mg) (D:Df K mg "_law_digit" Kn Zas):QF P w K mg base "_law_digit" Zas 1 (spP K olP R_digit):=by
 refine D.evP P9 (fun M ts Ψ h=>by cases h;rfl) (fun f cdv A outer s H E v M ts Ψ hr h=>?_)
 cases h with
 |@mk a b m h0 h1 =>
   refine⟨_,(Q5 (Z8 (ZT Gk (QG QH (pv 0) Qx) Qx (ZA _)) (Q5 (W8 (QG QH (pv 0) Qx) (UB (pv 0) Qx Ws))
 (QA (W8 Qx (UB (pv 0) Qx Ws)))) Z9)
 (Q5 (QY (i:=2) P9.nd rfl Qa (QO Wm (QG QH (pv 0) Qx) (pv 1)))
 (Q5 (W8 (QO JM (QG QH (pv 0) Qx) (pv 1)) (UB (pv 0) Qx Ws))
 (QA (QW (pv 2)))))),?_⟩
   show EvR K _ [some (.own v (olP [.int a,.int b])),some (.fz (.int m)),none] _
   walk_at"x"
   have rd:∀{ρ:Q1} {x y:Int},ρ[0]?=some (some (.own v (olP [.int x,.int y])))->Qt K (tOp (rIx K) (Q8 0) (tC (.int 0))) ρ (.int x)/\Qt K (tOp (rIx K) (Q8 0) (tC (.int 1))) ρ (.int y):=fun{ρ x y} e=>by
    have hl:=(Xh.mp e).1
    exact⟨Su 0 e rfl (V6 (ds:=[.int x,.int y]) (Qq (Xo hl)) Q7 rfl),Su 0 e rfl (V6 (ds:=[.int x,.int y]) (Qq (Xo hl)) Q7 rfl)⟩
   refine ZY (fun ρ'=>∃x y:Int,ρ'=[some (.own v (olP [.int x,.int y])),some (.fz (.int m)),none]) (ZC (b:=decide (a=0)) (Zg.cast (ZS (U3 (rd rfl).1 Q7)) rfl) (fun _=>?_) (fun _=>ZE ⟨a,b,rfl⟩)) ?_
   ·refine QI (Hu (j:=0) rfl (rd rfl).2 Q7 rfl ?_)
    walk_at"d"
    refine Hu (j:=1) rfl Q7 Q7 rfl ?_
    exact⟨b,0,rfl⟩
   ·rintro _ ⟨x,y,rfl⟩
    refine ZY (fun ρ'=>ρ'=[some (.own v (olP [.int x,.int y])),some (.fz (.int m)),some (.fz (.int (x%m)))]) (ZK (Z4 (rd rfl).1 (Qq rfl) h0) rfl) ?_
    rintro _ rfl
    refine ZY (fun ρ'=>ρ'=[some (.own v (olP [.int (x/m),.int y])),some (.fz (.int m)),some (.fz (.int (x%m)))]) (Hu (j:=0) rfl (Z4 (rd rfl).1 (Qq rfl) (cdl h0 h1)) Q7 rfl rfl) ?_
    rintro _ rfl
    exact G2 (Qq rfl) ⟨_,⟨x%m,x/m,y,Bc _ (Int.ne_of_gt h0),Bg _ h0,rfl,rfl⟩,rfl⟩
def Dg (K:W.Frag)(t:TE)(ρ:Q1)(v:V)(m:Int):Prop:=EvW K t ρ 0 fun n o=>0<=n/\n<m/\∃a b:Int,o=.own v (olP [.int a,.int b])
def YB {ρ:Q1}{t:TE}{v:V}{a b m:Int}{E:XK}(e:ρ[0]?=some (some (.own v (olP [.int a,.int b]))))(h:Qt K t ρ (.int m))(h0:0<m)(h1:m<=10^60):Dg K (Vv (spP K olP R_digit) [] E (QE (Q8 0) (QE t QN))) ρ v m :=
 LV (Φ:=olP) e (Qw h QC) (R_digit.mk h0 h1) (by
  rintro r N' ⟨n,a',b',n0,n1,rfl,rfl⟩
  exact⟨n,rfl,n0,n1,a',b',rfl⟩)
def MK (k T:Nat)(l:Ln):Prop:=(l.up=none↔k=0)/\(∀a,l.up=some a->a<k)/\l.bs.length=T/\∀b∈l.bs,0<=b/\b<10^30
theorem PM {T:Nat}{ls:List Ln}(t1:1<=T)(t8:T<=8)(l1:1<=ls.length)(l5:ls.length<=5)(h:∀k (hk:k<ls.length),MK k T ls[k]):(⟨T,ls⟩:Yd).Ok where
 t1:=t1
 t8:=t8
 l1:=l1
 l5:=l5
 up0:=by
  have h0:=(h 0 (by omega)).1.mpr rfl
  simp[QX,show 0<ls.length by omega,h0]
 ups:=fun k k0 hk=>by
  have hk:k<ls.length:=hk;obtain⟨a1,a2,_⟩:=h k hk
  cases e:ls[k].up with
  |none=>have:=a1.mp e;omega
  |some a=>exact⟨a,by simp[QX,hk,e],a2 a e⟩
 bl:=fun l hl=>by
  obtain⟨k,hk,rfl⟩:=UR.mp hl
  exact(h k hk).2.2.1
 bb:=fun l hl b hb=>by
  obtain⟨k,hk,rfl⟩:=UR.mp hl
  have:=(h k hk).2.2.2 b hb
  exact⟨this.1,JF this.2⟩
def KC (y:Yd):Prop := ∀l∈y.ls,∀b∈l.bs,0<=b/\b<10^30
inductive R_dyard:Qd->List OT->(OT->Qd->Prop)->Prop
 |mk {a b:Int}:R_dyard [.int a,.int b] [] (fun r ds'=>∃y:Yd,y.Ok/\KC y/\r=.fz (Za y))
def PQ {b:Int}{c:Bool}(h0:0<=b)(h1:b<10^30):0<=b*(if c then 1 else 0)/\b*(if c then 1 else 0)<10^30:=by
 have e:(0:Int)<10^30:=by decide +kernel
 cases c
 ·simp
 ·simpa using ⟨h0,h1⟩
def p60 {m:Int}(h:m<=10^30):m<=10^60:=Ju h (by decide +kernel)
def Wz:Qp ["_law_feed_here","_law_turns","_law_scale","_law_lines","_law_k","_law_above","_law_bounds","_law_turn","_law_bound"] ZaV (Qy HW):=by walk_at"p"
def CA (T:Bl mg) (D:Df K mg "_law_yard" HW ZaV) (Xa3:QF P w K mg base "_law_digit" Zas 1 (spP K olP R_digit)):QF P w K mg base "_law_yard" ZaV 2 (spP K olP R_dyard):=by
 refine D.evP Wz (fun M ts Ψ h=>by cases h;rfl) (fun f cdv A outer s H E v M ts Ψ hr h=>?_)
 cases h with
 |@mk a b =>
   refine⟨_,(Q5 (QY (i:=1) Wz.nd rfl Qa (QO Vh Qx (QJ Xa3 hr (Qo (pv 0) (Qo Qx Qs)))))
 (Q5 (QY (i:=2) Wz.nd rfl Qa (QG QH (Z1 (Qo Qx (Qo Qx (Qo Qx (Qo (QO BC Qx Qx) Qs))))) (QJ Xa3 hr (Qo (pv 0) (Qo Qx Qs)))))
 (Q5 (QY (i:=3) Wz.nd rfl Qa (Z1 Qs))
 (Q5 (Vx PassesOwn.never rfl (Ya rfl T.range (Qo (QO Vh Qx (QJ Xa3 hr (Qo (pv 0) (Qo Qx Qs)))) Qs)) (QZ (i:=4) Wz.nd rfl Qa) (Q5 (QY (i:=5) Wz.nd rfl Qa B8)
 (Q5 (Z8 (ZT Wi (pv 4) Qx (ZA _)) (QA (QY (i:=5) Wz.nd rfl Qa (QJ Xa3 hr (Qo (pv 0) (Qo (pv 4) Qs))))) Z9)
 (Q5 (QY (i:=6) Wz.nd rfl Qa (Z1 Qs))
 (Q5 (Vx PassesOwn.never rfl (Ya rfl T.range (Qo (pv 1) Qs)) (QZ (i:=7) Wz.nd rfl Qa) (Q5 (QY (i:=8) Wz.nd rfl Qa (QJ Xa3 hr (Qo (pv 0) (Qo (pv 2) Qs))))
 (QA (Z3 (VU PySem.F.plainAttrs_list PySem.F.slot_list_append PySem.F.type_list_append VZ (pv 6) (Qo (QO U6 (pv 8) (Wy LQ (by rfl) T.int NR (Qo (GD Wi (QJ Xa3 hr (Qo (pv 0) (Qo Qx Qs))) Qx (ZA _)) Qs))) Qs))))))
 (QA (Z3 (VU PySem.F.plainAttrs_list PySem.F.slot_list_append PySem.F.type_list_append VZ (pv 3) (Qo (Y9 (Qo (pv 5) (Qo (Wy BO (by rfl) T.tuple GK (Qo (pv 6) Qs)) Qs))) Qs)))))))))
 (QA (QW (Y9 (Qo (pv 1) (Qo (Wy BO (by rfl) T.tuple GK (Qo (pv 3) Qs)) Qs))))))))),?_⟩
   show EvR K _ [some (.own v (olP [.int a,.int b])),none,none,none,none,none,none,none,none] _
   walk_at"x"
   have q30:(0:Int)<10^(30:Int).toNat/\(10:Int)^(30:Int).toNat<=10^30:=by decide +kernel
   have q31:(16:Int)<=10^30:=by decide +kernel
   refine ZY (fun ρ'=>∃(T:Nat) (a b:Int),1<=T/\T<=8/\ρ'=[some (.own v (olP [.int a,.int b])),some (.fz (.int (T:Int))),none,none,none,none,none,none,none]) (RL (YB rfl Q7 (by decide) (by decide +kernel)) ?_) ?_
   ·rintro n _ ⟨n0,n1,a,b,rfl⟩
    refine ZK (Z5 Q7 Q7) ⟨(1+n).toNat,a,b,by omega,by omega,?_⟩;rw[X8 (by omega)];rfl
   rintro _ ⟨T,a,b,t1,t8,rfl⟩
   refine ZY (fun ρ'=>∃sc a b:Int,0<sc/\sc<=10^30/\ρ'=[some (.own v (olP [.int a,.int b])),some (.fz (.int (T:Int))),some (.fz (.int sc)),none,none,none,none,none,none]) (S7 (ds:=[.int 5,.int 9,.int 16,.int (10^(30:Int).toNat)]) (EvO.fz (Vk (QT Q7 (QT Q7 (QT Q7 (QT (Z4 Q7 Q7 (Gi (by decide) (by decide))) Z2)))) (by show(4:Nat)<=1000;decide))) (YB rfl Q7 (by decide) (by decide +kernel)) ?_) ?_
   ·rintro n _ ⟨n0,n1,a,b,rfl⟩
    obtain rfl|rfl|rfl|rfl:n=0\/n=1\/n=2\/n=3:=by omega
    ·exact⟨_,rfl,5,a,b,by decide,by omega,rfl⟩
    ·exact⟨_,rfl,9,a,b,by decide,by omega,rfl⟩
    ·exact⟨_,rfl,16,a,b,by decide,by omega,rfl⟩
    ·exact⟨_,rfl,_,a,b,q30.1,q30.2,rfl⟩
   rintro _ ⟨sc,a,b,s0,s1,rfl⟩
   refine ZY (fun ρ'=>ρ'=[some (.own v (olP [.int a,.int b])),some (.fz (.int (T:Int))),some (.fz (.int sc)),some (.ol []),none,none,none,none,none]) (Vw (Vk (ds:=[]) Z2 (by decide)) rfl) ?_
   rintro _ rfl
   refine ZY (fun ρ'=>∃(ls:List Ln) (a b:Int) (u4 u5 u6 u7 u8:Option OT),(1<=ls.length/\ls.length<=5)/\(∀k (hk:k<ls.length),MK k T ls[k])/\ρ'=[some (.own v (olP [.int a,.int b])),some (.fz (.int (T:Int))),some (.fz (.int sc)),some (.ol (ls.map ZL)),u4,u5,u6,u7,u8]) (Fj (YB rfl Q7 (by decide) (by decide +kernel)) ?_) ?_
   ·rintro n _ ⟨n0,n1,a,b,rfl⟩
    walk_at"d"
    refine VJ (ds:=ZI 0 (1+n).toNat) (fun i ρ'=>∃(ls:List Ln) (a b:Int) (u4 u5 u6 u7 u8:Option OT),ls.length=i/\(∀k (hk:k<ls.length),MK k T ls[k])/\ρ'=[some (.own v (olP [.int a,.int b])),some (.fz (.int (T:Int))),some (.fz (.int sc)),some (.ol (ls.map ZL)),u4,u5,u6,u7,u8]) ?ei ⟨[],a,b,_,_,_,_,_,rfl,(fun k hk=>Xl hk (Nat.not_lt_zero k)),rfl⟩ ?st ?fin
    case ei=>exact Yn (Qw (Z5 Q7 Q7) QC) (by rw[z62];omega) (by rw[z62];omega)
    case fin =>
     rintro _ ⟨ls,a,b,u4,u5,u6,u7,u8,e,h,rfl⟩
     rw[YW]at e;exact⟨ls,a,b,u4,u5,u6,u7,u8,by omega,h,rfl⟩
    case st =>
     rintro i d _ hd ⟨ls,a,b,u4,u5,u6,u7,u8,e,h,rfl⟩
     obtain⟨hi,rfl⟩:=YE hd;have hi:i<(1+n).toNat:=hi;refine⟨_,Zc,?_⟩
     walk_at"d"
     rw[Y0];refine QI (ZK Gw ?_)
     walk_at"d"
     refine QI (Tw (fun ρ'=>∃(ab:Option Nat) (a b:Int),(ab=none↔i=0)/\(∀x,ab=some x->x<i)/\ρ'=[some (.own v (olP [.int a,.int b])),some (.fz (.int (T:Int))),some (.fz (.int sc)),some (.ol (ls.map ZL)),some (.fz (.int (i:Int))),some (.fz (upD ab)),u6,u7,u8]) (ZC (b:=decide ((i:Int) > 0)) (Zg.cast (ZS (Yu (Qq rfl) Q7)) rfl) (fun c=>?_) (fun c=>ZE ⟨none,a,b,⟨fun _=>by have:=Ug c;omega,fun _=>rfl⟩,(fun x z=>nomatch z),rfl⟩)) ?_)
     ·have c:=X0 c
      refine BY (YB rfl (Qq rfl) (by omega) (Ju (show(i:Int)<=5 by omega) (by decide +kernel))) ?_
      rintro m _ ⟨m0,m1,a,b,rfl⟩
      refine⟨some m.toNat,a,b,⟨fun z=>(nomatch z),fun z=>Xl z (by omega)⟩,(fun x z=>by injection z with z;omega),?_⟩;show _=([_,_,_,_,_,some (OT.fz (.int ((m.toNat:Nat):Int))),_,_,_]:Q1);rw[X8 m0];rfl
     rintro _ ⟨ab,a,b,ab1,ab2,rfl⟩
     refine QI (Vw (Vk (ds:=[]) Z2 (by decide)) ?_)
     walk_at"d"
     refine QI (VJ (ds:=ZI 0 T) (fun j ρ'=>∃(bs:Ql) (a b:Int) (u7 u8:Option OT),bs.length=j/\(∀x∈bs,0<=x/\x<10^30)/\ρ'=[some (.own v (olP [.int a,.int b])),some (.fz (.int (T:Int))),some (.fz (.int sc)),some (.ol (ls.map ZL)),some (.fz (.int (i:Int))),some (.fz (upD ab)),some (.ol (bs.map PyData.int)),u7,u8]) ?ei2 ⟨[],a,b,_,_,rfl,(fun x z=>nomatch z),rfl⟩ ?st2 ?fin2)
     case ei2=>exact EvI.cast (Yn (Qw (Qq rfl) QC) (by rw[z62];omega) (by rw[z62];omega)) (WD rfl (by omega))
     case st2 =>
      rintro j d _ hd ⟨bs,a,b,u7,u8,e2,h2,rfl⟩
      obtain⟨hj,rfl⟩:=YE hd;refine⟨_,Zc,?_⟩
      walk_at"d"
      refine QI (BY (YB rfl (Qq rfl) s0 (p60 s1)) ?_)
      rintro m _ ⟨m0,m1,a,b,rfl⟩
      walk_at"d"
      refine Fn rfl rfl (YB rfl Q7 (by decide) (by decide +kernel)) ?_
      rintro z _ ⟨z0,z1,a,b,rfl⟩
      walk_at"d"
      have mm:=PQ (c:=decide (z > 0)) m0 (Int.lt_of_lt_of_le m1 s1);refine JN rfl (Z4 (Qq rfl) (Nx (Yu Q7 Q7)) (.inr ⟨by split<;>decide,by split<;>decide⟩)) (by rw[Xk];omega) ⟨bs++[m*(if decide (z > 0) then 1 else 0)],a,b,some (.fz (.int (0+(j:Int)))),some (.fz (.int m)),by rw[Xm,e2];rfl,fun x hx=>?_,?_⟩
      ·rcases XG.mp hx with hx|hx
       ·exact h2 x hx
       ·rw[Xi.mp hx];exact mm
      ·rw[Xr]
       rfl
     case fin2 =>
      rintro _ ⟨bs,a,b,u7,u8,e2,h2,rfl⟩
      rw[YW]at e2;refine JN rfl (Yw (ds:=[upD ab,.tuple (bs.map PyData.int)]) (QT (Qq rfl) (QT (Dw rfl) Z2)) YI) (by rw[Xk];omega) ⟨ls++[⟨ab,bs⟩],a,b,some (.fz (.int (i:Int))),some (.fz (upD ab)),some (.ol (bs.map PyData.int)),u7,u8,by rw[Xm,e];rfl,fun k hk=>?_,?_⟩
      ·by_cases z:k<ls.length
       ·rw[List.getElem_append_left z];exact h k z
       ·have:k=ls.length:=by rw[Xm]at hk;have:[(⟨ab,bs⟩:Ln)].length=1:=rfl;omega
        subst this;rw[List.getElem_append_right (Xu _)];simp only[Nat.sub_self,List.getElem_cons_zero];rw[e];exact⟨ab1,ab2,e2,h2⟩
      ·rw[Xr]
       rfl
   rintro _ ⟨ls,a,b,u4,u5,u6,u7,u8,⟨l1,l5⟩,h,rfl⟩
   refine G2 (Yw (ds:=[.int (T:Int),.tuple (ls.map ZL)]) (QT (Qq rfl) (QT (Dw rfl) Z2)) YI) ⟨_,⟨⟨T,ls⟩,PM t1 t8 l1 l5 h,fun l hl=>?_,rfl⟩,rfl⟩;obtain⟨k,hk,rfl⟩:=UR.mp hl
   exact(h k hk).2.2.2
theorem Dd:∀{bs:Ql},bs≠[]->∃M∈bs,∀a∈bs,a<=M
 |[],h=>Xl rfl h
 |[x],_=>⟨x,Xc,fun a ha=>by rw[Xi.mp ha];exact Jt _⟩
 |x::y::bs,_=>by
   obtain⟨M,m1,m2⟩:=Dd (bs:=y::bs) (List.cons_ne_nil _ _)
   by_cases h:x<=M
   ·refine⟨M,Xe _ m1,fun a ha=>?_⟩
    rcases Xg.mp ha with rfl|ha
    ·exact h
    ·exact m2 a ha
   ·refine⟨x,Xc,fun a ha=>?_⟩
    rcases Xg.mp ha with rfl|ha
    ·exact Jt _
    ·have:=m2 a ha
     omega
noncomputable def mxB (bs:Ql):Int:=open Classical in if h:bs≠[] then Classical.choose (Dd h) else 0
def JB {bs:Ql}(h:bs≠[]):mxB bs∈bs/\∀a∈bs,a<=mxB bs:=by
 unfold mxB;rw[dif_pos h];exact Classical.choose_spec (Dd h)
structure G30 (y:Yd)(g:Gs):Prop where
 ok:g.Ok y
 w:g.want<10^30
 m:g.most<10^30
inductive R_dguest:Qd->List OT->(OT->Qd->Prop)->Prop
 |mk {a b:Int} {y:Yd} (ok:y.Ok):R_dguest [.int a,.int b] [.fz (Za y),.fz (.int 0)] (fun r ds'=>∃g:Gs,G30 y g/\r=.fz (Q9 g))
def M3 {n:Nat}(h:n<=8):(n:Int)<=10^60:=Ju (show(n:Int)<=8 by omega) (by decide +kernel)
def Jl:Qp Zam Zal (Qy Mg):=by walk_at"p"
def CG (T:Bl mg) (D:Df K mg "_law_guest" Mg Zal) (Xa3:QF P w K mg base "_law_digit" Zas 1 (spP K olP R_digit)):QF P w K mg base "_law_guest" Zal 2 (spP K olP R_dguest):=by
 refine D.evP Jl (fun M ts Ψ h=>by cases h;rfl) (fun f cdv A outer s H E v M ts Ψ hr h=>?_)
 cases h with
 |@mk a b y ok =>
   refine⟨_,(Q5 (QY (i:=3) Jl.nd rfl Qa (QJ Xa3 hr (Qo (pv 0) (Qo (QG QH (pv 1) Qx) Qs))))
 (Q5 (Z8 (PW.pt (G0 (RG J1 J1 (pv 3) (pv 2) (QG QH (pv 1) Qx)) (G8 (ZT Wi (QJ Xa3 hr (Qo (pv 0) (Qo Qx Qs))) Qx (ZA _))))) (QA (QY (i:=3) Jl.nd rfl Qa (QO Vh (pv 2) (QJ Xa3 hr (Qo (pv 0) (Qo (QO YS (QG QH (pv 1) Qx) (pv 2)) Qs)))))) Z9)
 (Q5 (QY (i:=4) Jl.nd rfl Qa (QO Vh (pv 3) (QJ Xa3 hr (Qo (pv 0) (Qo (QO YS (QG QH (pv 1) Qx) (pv 3)) Qs)))))
 (Q5 (QY (i:=5) Jl.nd rfl Qa (QJ Xa3 hr (Qo (pv 0) (Qo (Ze ZN (by rfl) T.len ZQ (Qo (QG QH (pv 1) Qx) Qs)) Qs))))
 (Q5 (QY (i:=6) Jl.nd rfl Qa (QG QH (Z1 (Qo Qx (Qo Qx (Qo Qx (Qo (QO YS (QO BC Qx Qx) Qx) Qs))))) (QJ Xa3 hr (Qo (pv 0) (Qo Qx Qs)))))
 (Q5 (Z8 (ZT J1 (Ze DI (by rfl) T.max JD (Qo (Yj (NX:=Zam) (sc:=Qy Mg) (N:=Zaw) (f:=[none,none]) rfl (by decide +kernel) rfl rfl (BB (QG QH (pv 1) Qx)) (fun _=>(WT (n:=2) rfl (Vc (QZ (i:=0) (show(Zaw:Qh).Nodup by decide +kernel) rfl Qa) (Vc (QZ (i:=1) (show(Zaw:Qh).Nodup by decide +kernel) rfl Qa) WC)))) (fun _=>(Dk (n:=2) (UL ZZ (UL ZZ D3)))) (fun _=>Yx) (fun _=>(Ze RC (by rfl) T.max JD (Qo (pv 1) Qs)))) Qs)) Qx (ZA _)) (QA (QY (i:=6) Jl.nd rfl Qa (Ze (BD rfl) (by rfl) T.min G4 (Qo (pv 6) (Qo Qx Qs))))) Z9)
 (Q5 (QY (i:=7) Jl.nd rfl Qa (QO Vh Qx (QJ Xa3 hr (Qo (pv 0) (Qo (pv 6) Qs)))))
 (QA (QW (Y9 (Qo (pv 5) (Qo (pv 3) (Qo (pv 4) (Qo (pv 7) (Qo (QO Vh Qx (QJ Xa3 hr (Qo (pv 0) (Qo (pv 6) Qs)))) Qs))))))))))))))),?_⟩
   show EvR K _ [some (.own v (olP [.int a,.int b])),some (.fz (Za y)),some (.fz (.int 0)),none,none,none,none,none] _
   walk_at"x"
   have t1:=ok.t1;have t8:=ok.t8;have l1:=ok.l1;have l5:=ok.l5;have q30:(0:Int)<10^(30:Int).toNat-1/\(10:Int)^(30:Int).toNat-1<10^30:=by decide +kernel
   have q31:(20:Int)<10^30:=by decide +kernel
   have eT:∀{ρ:Q1},ρ[1]?=some (some (.fz (Za y)))->Qt K (tOp (rIx K) (Q8 1) (tC (.int 0))) ρ (.int (y.T:Int)):=fun e=>VV (ds:=[PyData.int (y.T:Int),.tuple (y.ls.map ZL)]) (Qq e) Q7 rfl;have eL:∀{ρ:Q1},ρ[1]?=some (some (.fz (Za y)))->Qt K (tOp (rIx K) (Q8 1) (tC (.int 1))) ρ (.tuple (y.ls.map ZL)):=fun e=>VV (ds:=[PyData.int (y.T:Int),.tuple (y.ls.map ZL)]) (Qq e) Q7 rfl;refine ZY (fun ρ'=>∃(fs:Nat) (a b:Int),fs<y.T/\ρ'=[some (.own v (olP [.int a,.int b])),some (.fz (Za y)),some (.fz (.int 0)),some (.fz (.int (fs:Int))),none,none,none,none]) (BY (YB rfl (eT rfl) (by omega) (M3 t8)) ?_) ?_
   ·rintro n _ ⟨n0,n1,a,b,rfl⟩
    refine⟨n.toNat,a,b,by omega,?_⟩;rw[X8 n0];rfl
   rintro _ ⟨fs,a,b,hfs,rfl⟩
   refine ZY (fun ρ'=>ρ'=[some (.own v (olP [.int a,.int b])),some (.fz (Za y)),some (.fz (.int 0)),some (.fz (.int (fs:Int))),none,none,none,none]) (ZC (b:=false) (Gx (b:=false) (c:=false) (Zg.cast (ZS (BH (Qq rfl) (Qq rfl) (eT rfl))) ?_) (fun c=>nomatch c)) (fun c=>nomatch c) (fun _=>ZE rfl)) ?_
   ·rw[XN (show ¬(fs:Int)<0 by omega)]
    rfl
   rintro _ rfl
   refine ZY (fun ρ'=>∃(la:Nat) (a b:Int),fs<=la/\la<y.T/\ρ'=[some (.own v (olP [.int a,.int b])),some (.fz (Za y)),some (.fz (.int 0)),some (.fz (.int (fs:Int))),some (.fz (.int (la:Int))),none,none,none]) (FW rfl (YB rfl (Z5 (eT rfl) (Qq rfl)) (by omega) (Ju (show(y.T:Int)-(fs:Int)<=(y.T:Int) by omega) (M3 t8))) ?_) ?_
   ·rintro n _ ⟨n0,n1,a,b,rfl⟩
    refine ZK (Z5 (Qq rfl) Q7) ⟨((fs:Int)+n).toNat,a,b,by omega,by omega,?_⟩;rw[X8 (by omega)];rfl
   rintro _ ⟨la,a,b,hla1,hla2,rfl⟩
   refine ZY (fun ρ'=>∃(li:Nat) (a b:Int),li<y.ls.length/\ρ'=[some (.own v (olP [.int a,.int b])),some (.fz (Za y)),some (.fz (.int 0)),some (.fz (.int (fs:Int))),some (.fz (.int (la:Int))),some (.fz (.int (li:Int))),none,none]) (BY (YB rfl (Qt.cast (B6 (eL rfl)) (show _=PyData.int (y.ls.length:Int) by rw[Xk])) (by omega) (M3 (by omega))) ?_) ?_
   ·rintro n _ ⟨n0,n1,a,b,rfl⟩
    refine⟨n.toNat,a,b,by omega,?_⟩;rw[X8 n0];rfl
   rintro _ ⟨li,a,b,hli,rfl⟩
   refine ZY (fun ρ'=>∃sc a b:Int,0<sc/\sc<10^30/\ρ'=[some (.own v (olP [.int a,.int b])),some (.fz (Za y)),some (.fz (.int 0)),some (.fz (.int (fs:Int))),some (.fz (.int (la:Int))),some (.fz (.int (li:Int))),some (.fz (.int sc)),none]) (S7 (ds:=[.int 4,.int 9,.int 20,.int (10^(30:Int).toNat-1)]) (EvO.fz (Vk (QT Q7 (QT Q7 (QT Q7 (QT (Z5 (Z4 Q7 Q7 (Gi (by decide) (by decide))) Q7) Z2)))) (by show(4:Nat)<=1000;decide))) (YB rfl Q7 (by decide) (by decide +kernel)) ?_) ?_
   ·rintro n _ ⟨n0,n1,a,b,rfl⟩
    obtain rfl|rfl|rfl|rfl:n=0\/n=1\/n=2\/n=3:=by omega
    ·exact⟨_,rfl,4,a,b,by decide,by omega,rfl⟩
    ·exact⟨_,rfl,9,a,b,by decide,by omega,rfl⟩
    ·exact⟨_,rfl,20,a,b,by decide,by omega,rfl⟩
    ·exact⟨_,rfl,_,a,b,q30.1,q30.2,rfl⟩
   rintro _ ⟨sc,a,b,s0,s1,rfl⟩
   have ne:∀l∈y.ls,l.bs≠[]:=fun l hl z=>by
    have:=ok.bl l hl
    rw[z]at this;have:(0:Nat)=y.T:=this;omega
   have nel:(y.ls.map fun l=>mxB l.bs)≠[]:=fun z=>by
    have:=X5 List.length z
    rw[Xk]at this;have:y.ls.length=0:=this;omega
   obtain⟨mx1,mx2⟩:=JB nel;refine ZY (fun ρ'=>∃sc:Int,0<sc/\sc<10^30/\ρ'=[some (.own v (olP [.int a,.int b])),some (.fz (Za y)),some (.fz (.int 0)),some (.fz (.int (fs:Int))),some (.fz (.int (la:Int))),some (.fz (.int (li:Int))),some (.fz (.int sc)),none]) (ZC (b:=decide (mxB (y.ls.map fun l=>mxB l.bs)<20)) (Zg.cast (ZS (Yu (D2 (ns:=y.ls.map fun l=>mxB l.bs) (Qt.cast (EvO.fz (Wh (xs:=y.ls) (enc:=ZL) (h:=fun l=>.int (mxB l.bs)) ?ei (by omega) ?el)) (by rw[XY];rfl)) rfl mx1 mx2) Q7)) rfl) (fun _=>?_) (fun _=>ZE ⟨sc,s0,s1,rfl⟩)) ?_
   case ei=>exact Gz (eL rfl)
   case el =>
    intro l hl c;obtain⟨k1,k2⟩:=JB (ne l hl);refine⟨_,Wg (ds:=[upD l.up,.tuple (l.bs.map PyData.int)]) (ZR Zc (ZR Zc Wp)) rfl,?_⟩
    walk_at"e"
    exact Rh (ns:=l.bs) (Qq rfl) rfl k1 k2
   ·refine ZK (Dm (Qq rfl) Q7) ⟨min sc 20,by omega,by omega,rfl⟩
   rintro _ ⟨sc,s0,s1,rfl⟩
   refine ZY (fun ρ'=>∃wa a b:Int,1<=wa/\wa<10^30/\ρ'=[some (.own v (olP [.int a,.int b])),some (.fz (Za y)),some (.fz (.int 0)),some (.fz (.int (fs:Int))),some (.fz (.int (la:Int))),some (.fz (.int (li:Int))),some (.fz (.int sc)),some (.fz (.int wa))]) (RL (YB rfl (Qq rfl) s0 (p60 (Int.le_of_lt s1))) ?_) ?_
   ·rintro n _ ⟨n0,n1,a,b,rfl⟩
    refine ZK (Z5 Q7 Q7) ⟨1+n,a,b,by omega,by omega,rfl⟩
   rintro _ ⟨wa,a,b,w1,w2,rfl⟩
   refine Ft rfl rfl rfl rfl (YB rfl (Qq rfl) s0 (p60 (Int.le_of_lt s1))) ?_
   rintro n _ ⟨n0,n1,a,b,rfl⟩
   refine G2 (Yw (ds:=[.int (li:Int),.int (fs:Int),.int (la:Int),.int wa,.int (1+n)]) (QT (Qq rfl) (QT (Qq rfl) (QT (Qq rfl) (QT (Qq rfl) (QT (Z5 Q7 Q7) Z2))))) (by show(5:Nat)<=1000;decide)) ⟨_,⟨⟨li,fs,la,wa,1+n⟩,⟨⟨hli,hla1,hla2,w1,JF w2,by show 1<=1+n;omega,JF (by show 1+n<_;omega)⟩,w2,by show 1+n<_;omega⟩,rfl⟩,rfl⟩
inductive R_iswhole:List OT->OT->Prop
 |mk {i:Int}:R_iswhole [.fz (.int i)] (.fz (.bool true))
def Is:Qp ["thing"] ["thing"] (Qy HI):=by walk_at"p"
def EF (T:Bl mg) (D:Df K mg "is_whole" HI ["thing"]):QF P w K mg base "is_whole" ["thing"] 1 (QP (K:=K) R_iswhole):=by
 refine D.ev Is (fun ts r h=>by cases h;rfl) (fun _ _ _ _ s H E ts r hr h=>?_)
 cases h with
 |@mk i =>
   refine⟨_,(QA (QW (B1 (Ze Dt (by rfl) T.isi YU (Qo (pv 0) (Qo (G6 (v:=.ty "int") rfl T.int NR rfl) Qs))) (B2 (Lv (Ze Dt (by rfl) T.isi YU (Qo (pv 0) (Qo (G6 (v:=.ty "bool") rfl T.bool L6 rfl) Qs)))))))),?_⟩;show Q2 K _ [some _] _
   walk_at"x"
   exact Vj (Gy (b:=true) (Bw (Qq rfl) rfl) (fun _=>Nj (b:=false) (Bw (Qq rfl) rfl))) rfl
inductive R_within:List OT->OT->Prop
 |mk {i lo hi:Int}:R_within [.fz (.int i),.fz (.int lo),.fz (.int hi)] (.fz (.bool (decide (lo<=i)&&decide (i<hi))))
def Oj:Qp Zat Zat (Qy Kt):=by walk_at"p"
def AQ (T:Bl mg) (D:Df K mg "is_whole_within" Kt Zat) (XbJ:QF P w K mg base "is_whole" ["thing"] 1 (QP (K:=K) R_iswhole)):QF P w K mg base "is_whole_within" Zat 2 (QP (K:=K) R_within):=by
 refine D.ev Oj (fun ts r h=>by cases h;rfl) (fun _ _ _ _ s H E ts r hr h=>?_)
 cases h with
 |@mk i lo hi =>
   refine⟨_,(QA (QW (B1 (QJ XbJ hr (Qo (pv 0) Qs)) (B2 (RS Gr J1 (pv 1) (pv 0) (pv 2)))))),?_⟩;show Q2 K _ [some _,some _,some _] _
   walk_at"x"
   exact Vj (Gy (b:=true) (Zd (Qw (Qq rfl) QC) R_iswhole.mk) (fun _=>BH (Qq rfl) (Qq rfl) (Qq rfl))) rfl
inductive R_isamount:List OT->OT->Prop
 |mk {i:Int} (h0:1<=i) (h1:i<10^30):R_isamount [.fz (.int i),.fz (.int 1)] (.fz (.bool true))
def IE:Qp ZaQ ZaQ (Qy Kf):=by walk_at"p"
def Iw (T:Bl mg) (D:Df K mg "is_amount" Kf ZaQ) (Xa5:QF P w K mg base "is_whole_within" Zat 2 (QP (K:=K) R_within)):QF P w K mg base "is_amount" ZaQ 3 (QP (K:=K) R_isamount):=by
 refine D.ev IE (fun ts r h=>by cases h;rfl) (fun _ _ _ _ s H E ts r hr h=>?_)
 cases h with
 |@mk i h0 h1 =>
   refine⟨_,(QA (QW (QJ Xa5 hr (Qo (pv 0) (Qo (pv 1) (Qo (QO BC Qx Qx) Qs)))))),?_⟩;show Q2 K _ [some _,some _] _
   walk_at"x"
   have e:(10:Int)^30=10^(30:Int).toNat:=by decide +kernel
   rw[e]at h1;refine Vj (Qt.cast (Zd (Qw (Qq rfl) (Qw (Qq rfl) (Qw (Z4 Q7 Q7 (Gi (by decide) (by decide))) QC))) R_within.mk) ?_) rfl;rw[XW h0,XW h1];rfl
inductive R_tupof:List OT->OT->Prop
 |mk {g:Gs}:R_tupof [.fz (Q9 g),.fz (.int 5)] (.fz (.bool true))
def IX:Qp ZaM ZaM (Qy Kh):=by walk_at"p"
def FM (T:Bl mg) (D:Df K mg "is_tuple_of" Kh ZaM):QF P w K mg base "is_tuple_of" ZaM 1 (QP (K:=K) R_tupof):=by
 refine D.ev IX (fun ts r h=>by cases h;rfl) (fun _ _ _ _ s H E ts r hr h=>?_)
 cases h with
 |@mk g =>
   refine⟨_,(QA (QW (B1 (Ze Dt (by rfl) T.isi YU (Qo (pv 0) (Qo (G6 (v:=.ty "tuple") rfl T.tuple GK rfl) Qs))) (B2 (GD Gk (Ze ZN (by rfl) T.len ZQ (Qo (pv 0) Qs)) (pv 1) (ZA _)))))),?_⟩;show Q2 K _ [some _,some _] _
   walk_at"x"
   exact Vj (Gy (b:=true) (Bw (Qq rfl) rfl) (fun _=>U3 (B6 (ds:=[.int (g.line:Int),.int (g.first:Int),.int (g.last:Int),.int g.want,.int g.most]) (Qq rfl)) (Qq rfl))) rfl
inductive R_isguest:List OT->OT->Prop
 |mk {y:Yd} {g:Gs} (h:G30 y g):R_isguest [.fz (Za y),.fz (Q9 g)] (.fz (.bool true))
def EZ:Qp ZaT ZaT (Qy HN):=by walk_at"p"
def E6 (T:Bl mg) (D:Df K mg "is_guest" HN ZaT) (XbK:QF P w K mg base "is_tuple_of" ZaM 1 (QP (K:=K) R_tupof)) (Xa5:QF P w K mg base "is_whole_within" Zat 2 (QP (K:=K) R_within)) (Xa6:QF P w K mg base "line_count" ZaN 1 (QP (K:=K) R_count)) (Xa4:QF P w K mg base "turns_of" ZaN 1 (QP (K:=K) R_turns)) (Xbr:QF P w K mg base "is_amount" ZaQ 3 (QP (K:=K) R_isamount)):QF P w K mg base "is_guest" ZaT 4 (QP (K:=K) R_isguest):=by
 refine D.ev EZ (fun ts r h=>by cases h;rfl) (fun _ _ _ _ s H E ts r hr h=>?_)
 cases h with
 |@mk y g h =>
   refine⟨_,(Q5 (Z8 (Wo (VX (QJ XbK hr (Qo (pv 1) (Qo Qx Qs))))) (QA (QW Y4)) Z9)
 (Q5 (Z8 (Wo (VX (QJ Xa5 hr (Qo (QG QH (pv 1) Qx) (Qo Qx (Qo (QJ Xa6 hr (Qo (pv 0) Qs)) Qs)))))) (QA (QW Y4)) Z9)
 (Q5 (Z8 (Wo (VX (QJ Xa5 hr (Qo (QG QH (pv 1) Qx) (Qo Qx (Qo (QJ Xa4 hr (Qo (pv 0) Qs)) Qs)))))) (QA (QW Y4)) Z9)
 (Q5 (Z8 (Wo (VX (QJ Xa5 hr (Qo (QG QH (pv 1) Qx) (Qo (QG QH (pv 1) Qx) (Qo (QJ Xa4 hr (Qo (pv 0) Qs)) Qs)))))) (QA (QW Y4)) Z9)
 (QA (QW (B1 (QJ Xbr hr (Qo (QG QH (pv 1) Qx) (Qo Qx Qs))) (B2 (QJ Xbr hr (Qo (QG QH (pv 1) Qx) (Qo Qx Qs))))))))))),?_⟩
   show Q2 K _ [some _,some _] _
   walk_at"x"
   obtain⟨⟨k1,k2,k3,k4,_,k6,_⟩,k5,k7⟩:=h;have it:∀{ρ:Q1} {n:Int} {d:PyData},ρ[1]?=some (some (.fz (Q9 g)))->atI [.int (g.line:Int),.int (g.first:Int),.int (g.last:Int),.int g.want,.int g.most] n=some d->Qt K (tOp (rIx K) (Q8 1) (tC (.int n))) ρ d:=fun e h=>VV (Qq e) Q7 h;refine QI (ZC (b:=false) (YO (b:=true) (VB (Zd (Qw (Qq rfl) (Qw Q7 QC)) R_tupof.mk))) (fun c=>nomatch c) (fun _=>ZE ?_));refine QI (ZC (b:=false) (YO (b:=true) (VB (Qt.cast (Zd (Qw (it rfl rfl) (Qw Q7 (Qw (Zd (Qw (Qq rfl) QC) R_count.mk) QC))) R_within.mk) ?_))) (fun c=>nomatch c) (fun _=>ZE ?_))
   ·rw[XW (show(0:Int)<=(g.line:Int) by omega),XW (show(g.line:Int)<(y.ls.length:Int) by omega)]
    rfl
   refine QI (ZC (b:=false) (YO (b:=true) (VB (Qt.cast (Zd (Qw (it rfl rfl) (Qw Q7 (Qw (Zd (Qw (Qq rfl) QC) R_turns.mk) QC))) R_within.mk) ?_))) (fun c=>nomatch c) (fun _=>ZE ?_))
   ·rw[XW (show(0:Int)<=(g.first:Int) by omega),XW (show(g.first:Int)<(y.T:Int) by omega)]
    rfl
   refine QI (ZC (b:=false) (YO (b:=true) (VB (Qt.cast (Zd (Qw (it rfl rfl) (Qw (it rfl rfl) (Qw (Zd (Qw (Qq rfl) QC) R_turns.mk) QC))) R_within.mk) ?_))) (fun c=>nomatch c) (fun _=>ZE ?_))
   ·rw[XW (show(g.first:Int)<=(g.last:Int) by omega),XW (show(g.last:Int)<(y.T:Int) by omega)]
    rfl
   exact Vj (Gy (b:=true) (Zd (Qw (it rfl rfl) (Qw Q7 QC)) (R_isamount.mk k4 k5)) (fun _=>Zd (Qw (it rfl rfl) (Qw Q7 QC)) (R_isamount.mk k6 k7))) rfl
def FG:NoH "leave" := fun _ _ _ _ _ _=>rfl
def Rv:NoH "come" := fun _ _ _ _ _ _=>rfl
def Rk:NoH "rest" := fun _ _ _ _ _ _=>rfl
def LK:NoH "open_ones" := fun _ _ _ _ _ _=>rfl
def FL:NoH "still_there" := fun _ _ _ _ _ _=>rfl
def RI:NoH "refuse_past" := fun _ _ _ _ _ _=>rfl
def NI:NoH "refuse_number" := fun _ _ _ _ _ _=>rfl
def Of:Qp ZaH ZaH (Qy UO):=by walk_at"p"
def LL {f:Addr} {fd:FuncData} (T:Bl mg) (UH:HandC K CH) (F:Fun K "__init__" "Hand.__init__" UO f fd):FnOk P w K mg base CX0 1 f fd ZaH (Bj CH):=by
 refine F.ok Of (fun vs H Q E ⟨x,dx,y,e,_⟩=>by rw[e];rfl) fun cdv A outer s H vs Q E hr ⟨x,dx,y,e,hx,q⟩=>?_;subst e;refine⟨_,(Q5 (Wn (pv 0) (pv 1) rfl)
 (Q5 (Wn (pv 0) Qx rfl)
 (Q5 (Wn (pv 0) (Z1 Qs) rfl)
 (Q5 (Wn (pv 0) (Z1 Qs) rfl)
 (Q5 (Wn (pv 0) Ad rfl)
 (QA (Wn (pv 0) (Z1 Qs) rfl))))))),?_⟩
 refine⟨y,rfl,_,rfl,x,CH,dx,[],rfl,hx,UH.cl,UH.yd,by decide,?_⟩;refine⟨_,rfl,x,CH,dx,[("yard",y)],rfl,by rw[QD];rfl,UH.cl,UH.pr,(by show(1:Nat)<1000;decide),?_⟩;refine⟨XM _,fun k hk=>⟨_,rfl,x,CH,dx,[("yard",y),("present",.int 0)],rfl,?_,UH.cl,UH.kn,(by show(2:Nat)<1000;decide),?_⟩⟩
 ·have xk:x≠k:=Zo QD hk
  rw[Qu xk,QD];rfl
 have xk:x≠k:=Zo QD hk;rw[Qu (Ne.symm xk),Qu (Ne.symm xk)]at hk;refine⟨XM _,fun g hg=>⟨_,rfl,x,CH,dx,[("yard",y),("present",.int 0),("known",.ref k)],rfl,?_,UH.cl,UH.gv,(by show(3:Nat)<1000;decide),?_⟩⟩
 ·have xg:x≠g:=Zo QD hg
  rw[Qu xg,QD];rfl
 have xg:x≠g:=Zo QD hg;rw[Qu (Ne.symm xg)]at hg;have kg:k≠g:=Zo QD hg;rw[Qu (Ne.symm kg),Qu (Ne.symm xg),Qu (Ne.symm xg)]at hg;refine fun d hd=>⟨_,rfl,x,CH,dx,[("yard",y),("present",.int 0),("known",.ref k),("given",.ref g)],rfl,?_,UH.cl,UH.go,(by show(4:Nat)<1000;decide),?_⟩
 ·have xd:x≠d:=Zo QD hd
  rw[Qu xd,QD];rfl
 have xd:x≠d:=Zo QD hd;rw[Qu (Ne.symm xd)]at hd;have gd:g≠d:=Zo QD hd;rw[Qu (Ne.symm gd),Qu (Ne.symm xd)]at hd;have kd:k≠d:=Zo QD hd;rw[Qu (Ne.symm kd),Qu (Ne.symm xd),Qu (Ne.symm xd)]at hd;refine⟨XM _,fun m hm=>⟨_,rfl,x,CH,dx,[("yard",y),("present",.int 0),("known",.ref k),("given",.ref g),("gone",.ref d)],rfl,?_,UH.cl,UH.md,(by show(5:Nat)<1000;decide),?_⟩⟩
 ·have xm:x≠m:=Zo QD hm
  rw[Qu xm,QD];rfl
 have xm:x≠m:=Zo QD hm;rw[Qu (Ne.symm xm)]at hm;have dm:d≠m:=Zo QD hm;rw[Qu (Ne.symm dm),Qu (Ne.symm xm)]at hm;have gm:g≠m:=Zo QD hm;rw[Qu (Ne.symm gm),Qu (Ne.symm xm)]at hm;have km:k≠m:=Zo QD hm;rw[Qu (Ne.symm km),Qu (Ne.symm xm),Qu (Ne.symm xm)]at hm;refine q k g d m _ hk hg hd hm ?_ ?_ ?_ ?_ ?_ ?_ (fun b hb=>?_)
 ·simp only[XO,Xg,XU,or_false,not_or,not_false_eq_true,Ul,and_true]
  exact⟨⟨xk,xg,xd,xm⟩,⟨kg,kd,km⟩,⟨gd,gm⟩,dm⟩
 ·rw[QD];rfl
 ·rw[Qu (Ne.symm xk),Qu km,Qu (Ne.symm xk),Qu kd,Qu (Ne.symm xk),Qu kg,Qu (Ne.symm xk),QD]
 ·rw[Qu (Ne.symm xg),Qu gm,Qu (Ne.symm xg),Qu gd,Qu (Ne.symm xg),QD]
 ·rw[Qu (Ne.symm xd),Qu dm,Qu (Ne.symm xd),QD]
 ·rw[Qu (Ne.symm xm),QD]
 ·simp only[Xg,XU,or_false,not_or]at hb
  obtain⟨b1,b2,b3,b4,b5⟩:=hb;rw[Qu b1,Qu b5,Qu b1,Qu b4,Qu b1,Qu b3,Qu b1,Qu b2,Qu b1,Qu b1]
inductive R_hpast (CH:Addr):List OT->(OT->Prop)->Prop
 |mk {N:HandS} {t:Int} (h:N.now<=t):R_hpast CH [.zow (Zr CH N),.fz (.int t)] (fun r=>r=.fz .none)
def Og:Qp ZaR ZaR (Qy Ub):=by walk_at"p"
def CO (T:Bl mg) (UH:HandC K CH) (D:Mf K CH "refuse_past" "Hand.refuse_past" Ub ZaR):Zz P w K mg base CH "refuse_past" ZaR 1 (Zl K (R_hpast CH)):=by
 refine D.evD Og (fun ts Φ h=>by cases h;rfl) (fun _ _ _ _ s H E ts Φ hr h=>?_)
 cases h with
 |@mk N t h =>
   refine⟨_,(QA (Z8 (ZT J1 (pv 1) (Zu (pv 0) rfl) (ZA _)) (QA GM) Z9)),?_⟩;show Q2 K _ [some _,some _] _
   walk_at"x"
   exact ZC (b:=false) (Zg.cast (ZS (Yu (Qq rfl) (Sv UH rfl))) (XN (by omega))) (fun c=>nomatch c) (fun _=>ZE rfl)
inductive R_withw:List OT->OT->Prop
 |mk {g:Gs} {z:Int}:R_withw [.fz (Q9 g),.fz (.int z)] (.fz (Q9 { g with want:=z }))
def ID:Qp ZaU ZaU (Qy HZ):=by walk_at"p"
def FH (T:Bl mg) (D:Df K mg "with_want" HZ ZaU):QF P w K mg base "with_want" ZaU 1 (QP (K:=K) R_withw):=by
 refine D.ev ID (fun ts r h=>by cases h;rfl) (fun _ _ _ _ s H E ts r hr h=>?_)
 cases h with
 |@mk g z =>
   refine⟨_,(QA (QW (Y9 (Qo (QG QH (pv 0) Qx) (Qo (QG QH (pv 0) Qx) (Qo (QG QH (pv 0) Qx) (Qo (pv 1) (Qo (QG QH (pv 0) Qx) Qs)))))))),?_⟩;show Q2 K _ [some _,some _] _
   walk_at"x"
   have it:∀{ρ:Q1} {n:Int} {d:PyData},ρ[0]?=some (some (.fz (Q9 g)))->atI [.int (g.line:Int),.int (g.first:Int),.int (g.last:Int),.int g.want,.int g.most] n=some d->Qt K (tOp (rIx K) (Q8 0) (tC (.int n))) ρ d:=fun e h=>VV (Qq e) Q7 h;exact Vj (Yw (ds:=[.int (g.line:Int),.int (g.first:Int),.int (g.last:Int),.int z,.int g.most]) (QT (it rfl rfl) (QT (it rfl rfl) (QT (it rfl rfl) (QT (Qq rfl) (QT (it rfl rfl) Z2))))) (by show(5:Nat)<=1000;decide)) rfl
inductive R_stay:List OT->OT->Prop
 |mk {g:Gs} {n:Nat}:R_stay [.fz (Q9 g),.fz (.int (n:Int))] (.fz (Q9 { g with first:=max g.first n }))
def Oa:Qp Zar Zar (Qy Kv):=by walk_at"p"
def LO (T:Bl mg) (D:Df K mg "staying_from" Kv Zar):QF P w K mg base "staying_from" Zar 1 (QP (K:=K) R_stay):=by
 refine D.ev Oa (fun ts r h=>by cases h;rfl) (fun _ _ _ _ s H E ts r hr h=>?_)
 cases h with
 |@mk g n =>
   refine⟨_,(QA (QW (Y9 (Qo (QG QH (pv 0) Qx) (Qo (Ze (Nz rfl) (by rfl) T.max JD (Qo (QG QH (pv 0) Qx) (Qo (pv 1) Qs))) (Qo (QG QH (pv 0) Qx) (Qo (QG QH (pv 0) Qx) (Qo (QG QH (pv 0) Qx) Qs)))))))),?_⟩;show Q2 K _ [some _,some _] _
   walk_at"x"
   have it:∀{ρ:Q1} {n:Int} {d:PyData},ρ[0]?=some (some (.fz (Q9 g)))->atI [.int (g.line:Int),.int (g.first:Int),.int (g.last:Int),.int g.want,.int g.most] n=some d->Qt K (tOp (rIx K) (Q8 0) (tC (.int n))) ρ d:=fun e h=>VV (Qq e) Q7 h;refine Vj (Qt.cast (Yw (ds:=[.int (g.line:Int),.int (max (g.first:Int) (n:Int)),.int (g.last:Int),.int g.want,.int g.most]) (QT (it rfl rfl) (QT (MZ (it rfl rfl) (Qq rfl)) (QT (it rfl rfl) (QT (it rfl rfl) (QT (it rfl rfl) Z2))))) (by show(5:Nat)<=1000;decide)) ?_) rfl;have e:max (g.first:Int) (n:Int)=((max g.first n:Nat):Int):=by omega
   rw[e];rfl
def Bq (N:HandS)(k:Nat)(z:Int):Prop := ∃(g:Gs) (x:Int),N.known[k]?=some (Q9 g)/\N.given[k]?=some x/\z=if (Yr N.gone (.inl (k:Int))).isSome then 0 else g.want-x
inductive R_hnum (CH:Addr):List OT->(OT->Prop)->Prop
 |mk {N:HandS} {k:Nat} (h:k<N.known.length):R_hnum CH [.zow (Zr CH N),.fz (.int (k:Int))] (fun r=>r=.fz .none)
def Ol:Qp Zac Zac (Qy Uc):=by walk_at"p"
def LJ (T:Bl mg) (UH:HandC K CH) (D:Mf K CH "refuse_number" "Hand.refuse_number" Uc Zac) (Xa5:QF P w K mg base "is_whole_within" Zat 2 (QP (K:=K) R_within)):Zz P w K mg base CH "refuse_number" Zac 3 (Zl K (R_hnum CH)):=by
 refine D.evD Ol (fun ts Φ h=>by cases h;rfl) (fun _ _ _ _ s H E ts Φ hr h=>?_)
 cases h with
 |@mk N k h =>
   refine⟨_,(QA (Z8 (Wo (VX (QJ Xa5 hr (Qo (pv 1) (Qo Qx (Qo (Ze ZN (by rfl) T.len ZQ (Qo (Zu (pv 0) rfl) Qs)) Qs)))))) (QA GM) Z9)),?_⟩;show Q2 K _ [some _,some _] _
   walk_at"x"
   refine ZC (b:=false) (YO (b:=true) (VB (Qt.cast (Zd (Qw (Qq rfl) (Qw Q7 (Qw (YQ (GS UH rfl)) QC))) R_within.mk) ?_))) (fun c=>nomatch c) (fun _=>ZE rfl);rw[XW (show(0:Int)<=(k:Int) by omega),XW (show(k:Int)<(N.known.length:Int) by omega)]
   rfl
def Sr {N:HandS}{k:Nat}{x:Int}(hx:N.given[k]?=some x):atI (N.given.map PyData.int) (k:Int)=some (.int x):=Va (by rw[Xq,hx];rfl)
inductive R_hrest (CH:Addr):List OT->(OT->Prop)->Prop
 |mk {N:HandS} {k:Nat} {z:Int} (h:Bq N k z):R_hrest CH [.zow (Zr CH N),.fz (.int (k:Int))] (fun r=>r=.fz (.int z))
def IK:Qp Zac Zac (Qy JS):=by walk_at"p"
def FO (T:Bl mg) (UH:HandC K CH) (D:Mf K CH "rest" "Hand.rest" JS Zac) (Xbk:Zz P w K mg base CH "refuse_number" Zac 3 (Zl K (R_hnum CH))) (Xa9:QF P w K mg base "want_of" Zaz 1 (QP (K:=K) R_want)):Zz P w K mg base CH "rest" Zac 4 (Zl K (R_hrest CH)):=by
 refine D.evD IK (fun ts Φ h=>by cases h;rfl) (fun _ _ _ _ s H E ts Φ hr h=>?_)
 cases h with
 |@mk N k z h =>
   refine⟨_,(Q5 (Z3 (JK Xbk UH hr (pv 0) (Qo (pv 1) Qs)))
 (Q5 (Z8 (U9 (BA (Y6 hr) (pv 1) (Zu (pv 0) rfl))) (QA (QW Qx)) Z9)
 (QA (QW (QO YS (QJ Xa9 hr (Qo (QG QH (Zu (pv 0) rfl) (pv 1)) Qs)) (QG QH (Zu (pv 0) rfl) (pv 1))))))),?_⟩
   show Q2 K _ [some _,some _] _
   walk_at"x"
   obtain⟨g,x,hg,hx,rfl⟩:=h;have hl:=(Xh.mp hg).1;refine QI (GH (JO NI rfl (Qw (Qq rfl) QC) (R_hnum.mk hl)) ?_);refine QI (ZC (b:=(Yr N.gone (.inl (k:Int))).isSome) (ZS (SC (k:=.inl (k:Int)) UH (Qq rfl) rfl)) (fun c=>?_) (fun c=>ZE ?_))
   ·rw[c]
    exact Vj Q7 rfl
   ·rw[c]
    exact Vj (Z5 (Zd (Qw (V6 (GS UH rfl) (Qq rfl) (Va hg)) QC) R_want.mk) (V6 (Pn UH rfl) (Qq rfl) (Sr hx))) rfl
inductive R_hopen (CH:Addr):List OT->(OT->Prop)->Prop
 |mk {N:HandS} (rs:Qn) (h:∀k,k<N.known.length->Bq N k (rs k)) (l:N.known.length<=1000):R_hopen CH [.zow (Zr CH N)] (fun r=>r=.ol (Zm ((List.range N.known.length).filter fun k => !decide (rs k=0))))
def Oc:Qp ZaG ZaG (Qy Jn):=by walk_at"p"
def C1 (T:Bl mg) (UH:HandC K CH) (D:Mf K CH "open_ones" "Hand.open_ones" Jn ZaG) (Xbl:Zz P w K mg base CH "rest" Zac 4 (Zl K (R_hrest CH))):Zz P w K mg base CH "open_ones" ZaG 5 (Zl K (R_hopen CH)):=by
 refine D.evD Oc (fun ts Φ h=>by cases h;rfl) (fun _ _ _ _ s H E ts Φ hr h=>?_)
 cases h with
 |@mk N rs h l =>
   refine⟨_,(QA (QW (Yj (NX:=ZaG) (sc:=Qy Jn) (N:=["number","self"]) (f:=[none,some 0]) rfl (by decide +kernel) rfl rfl (Ya rfl T.range (Qo (Ze ZN (by rfl) T.len ZQ (Qo (Zu (pv 0) rfl) Qs)) Qs)) (fun _=>(QZ (i:=0) (show(["number","self"]:Qh).Nodup by decide +kernel) rfl Qa)) (fun _=>ZZ) (fun _=>(Jc (ZT T8 (JK Xbl UH hr (pv 1) (Qo (pv 0) Qs)) Qx (ZA _)))) (fun _=>(pv 0))))),?_⟩;show Q2 K _ [some _] _
   walk_at"x"
   refine U1 (WU (xs:=List.range N.known.length) (enc:=fun(k:Nat)=>PyData.int (k:Int)) (h:=fun(k:Nat)=>PyData.int (k:Int)) (p:=fun k => !decide (rs k=0)) ?ei (by rw[WI];exact l) ?el) rfl
   case ei =>
    refine EvI.cast (Yn (Qw (YQ (GS UH rfl)) QC) (by rw[z62];omega) (by rw[z62];omega)) ?_;rw[Xz];unfold ZI;exact X7 fun i _=>by rw[Y0]
   case el =>
    intro k hk c;have hk:=XF.mp hk;refine⟨_,Zc,?_⟩
    walk_at"e"
    exact⟨ZS (KQ (Ss Rk rfl (Qw (Qq rfl) QC) (R_hrest.mk (h k hk))) Q7),fun _=>Qq rfl⟩
def stl (gs:List Gs)(n:Nat)(rs:Qn)(k:Nat):Gs:={ gs.getD k default with first:=max (gs.getD k default).first n,want:=rs k }
inductive R_hstill (CH:Addr):List OT->(OT->Prop)->Prop
 |mk {N:HandS} {gs:List Gs} {n:Nat} (rs:Qn) (hk:N.known=gs.map Q9) (hn:N.now=(n:Int)) (h:∀k,k<gs.length->Bq N k (rs k)) (l:gs.length<=900):R_hstill CH [.zow (Zr CH N)] (fun r=>r=.ol ((List.range gs.length).map fun k=>Q9 (stl gs n rs k)))
def Mo:Qp ["self","guests","number","guest"] ZaG (Qy Ua):=by walk_at"p"
def A0 (T:Bl mg) (UH:HandC K CH) (D:Mf K CH "still_there" "Hand.still_there" Ua ZaG) (XbL:QF P w K mg base "with_want" ZaU 1 (QP (K:=K) R_withw)) (XbM:QF P w K mg base "staying_from" Zar 1 (QP (K:=K) R_stay)) (Xbl:Zz P w K mg base CH "rest" Zac 4 (Zl K (R_hrest CH))):Zz P w K mg base CH "still_there" ZaG 5 (Zl K (R_hstill CH)):=by
 refine D.evD Mo (fun ts Φ h=>by cases h;rfl) (fun _ _ _ _ s H E ts Φ hr h=>?_)
 cases h with
 |@mk N gs n rs hk hn h l =>
   refine⟨_,(Q5 (QY (i:=1) Mo.nd rfl Qa (Z1 Qs))
 (Q5 (Vx PassesOwn.never rfl (P3 rfl T.enumerate (Qo (Zu (pv 0) rfl) Qs)) (WT (n:=2) rfl (Vc (QZ (i:=2) Mo.nd rfl Qa) (Vc (QZ (i:=3) Mo.nd rfl Qa) WC))) (QA (Z3 (VU PySem.F.plainAttrs_list PySem.F.slot_list_append PySem.F.type_list_append VZ (pv 1) (Qo (QJ XbL hr (Qo (QJ XbM hr (Qo (pv 3) (Qo (Zu (pv 0) rfl) Qs))) (Qo (JK Xbl UH hr (pv 0) (Qo (pv 2) Qs)) Qs))) Qs)))))
 (QA (QW (pv 1))))),?_⟩
   show Q2 K _ [some _,none,none,none] _
   walk_at"x"
   refine QI (Vw (Vk (ds:=[]) Z2 (by decide)) ?_)
   walk_at"d"
   refine QI (BL (fun i=>[some (.zow (Zr CH N)),some (.ol ((List.range i).map fun k=>Q9 (stl gs n rs k))),none,none]) (Dy (Qw (Qt.cast (GS UH rfl) (show _=PyData.list (gs.map Q9) by rw[hk])) QC)) ⟨rfl,rfl,trivial⟩ ?st ?fin)
   case st =>
    intro i d hd;obtain⟨d1,e1,rfl⟩:=Hx hd
    have hi:i<gs.length:=by
     have:=(Xh.mp e1).1
     simpa using this
    obtain rfl:d1=Q9 (gs.getD i default):=by simpa [hi] using e1.symm
    refine⟨_,Wg (ds:=[.int (i:Int),Q9 (gs.getD i default)]) (ZR Zc (ZR Zc Wp)) rfl,?_⟩
    walk_at"d"
    refine JN rfl (Zd (Qw (Zd (Qw (Qq rfl) (Qw (Qt.cast (Sv UH rfl) (by rw[hn])) QC)) R_stay.mk) (Qw (Ss Rk rfl (Qw (Qq rfl) QC) (R_hrest.mk (h i hi))) QC)) R_withw.mk) (by rw[Xk,WI];omega) ⟨rfl,?_,trivial⟩;rw[YH,Xr];rfl
   case fin =>
    intro ρ' hf;refine B4 hf ?_;rw[Hw,Xk];exact D1 rfl rfl
def eRw (g:Gs):PyData:=.list [.int (g.line:Int),.int (g.first:Int),.int (g.last:Int),.int g.want,.int g.most]
def Ef {α:Type}(a:α)(n:Nat):List.replicate n a=(List.range n).map fun _=>a:=by
 apply List.ext_getElem?
 intro i;by_cases h:i<n
 ·simp[h]
 ·simp[h]
def Vn (y:Yd)(b own:Qn)(i l:Nat):Int:=if y.ls.length<=l+i then passes y b own l else ZG y b own i l
inductive R_lpass:List OT->OT->Prop
 |mk {y:Yd} {gs:List Gs} {sm:Qk} {t:Nat} (ok:y.Ok) (hg:∀g∈gs,g.Ok y) (hs:SetOk gs sm) (ht:t<y.T) :
  R_lpass [.fz (Za y),.fz (.list (gs.map eRw)),.fz (.list (Zm sm)),.fz (.int (t:Int))] (.fz (.int (Yg y gs sm t)))
def Wa:Qp ["_law_yard_here","_law_rows","_law_picked","_law_turn","_law_reach","_law_number","_law_line","_law_first","_law_last","_law_lack","_law_most","_law_k","_law_above","_law_bounds"] Zah (Qy Ks):=by walk_at"p"
def Ae (T:Bl mg) (D:Df K mg "_law_passes" Ks Zah):QF P w K mg base "_law_passes" Zah 1 (QP (K:=K) R_lpass):=by
 refine D.ev Wa (fun ts r h=>by cases h;rfl) (fun _ _ _ _ s H E ts r hr h=>?_)
 cases h with
 |@mk y gs sm t ok hg hs htT =>
   refine⟨_,(Q5 (QY (i:=4) Wa.nd rfl Qa (QO Lq (Z1 (Qo Qx Qs)) (Ze ZN (by rfl) T.len ZQ (Qo (QG QH (pv 0) Qx) Qs))))
 (Q5 (Vx PassesOwn.never rfl (Yy (pv 2)) (QZ (i:=5) Wa.nd rfl Qa) (Q5 (W8 (QG QH (pv 1) (pv 5)) (La (n:=5) rfl (Vc (QZ (i:=6) Wa.nd rfl Qa) (Vc (QZ (i:=7) Wa.nd rfl Qa) (Vc (QZ (i:=8) Wa.nd rfl Qa) (Vc (QZ (i:=9) Wa.nd rfl Qa) (Vc (QZ (i:=10) Wa.nd rfl Qa) WC)))))))
 (QA (Z8 (PW.pt (G0 (RG Gr Gr (pv 7) (pv 3) (pv 8)) (G8 (ZT Wi (pv 9) Qx (ZA _))))) (QA (W8 (QO Vh (QG QH (pv 4) (pv 6)) (pv 10)) (UB (pv 4) (pv 6) Ws))) Z9))))
 (Q5 (Vx PassesOwn.never rfl (SK rfl T.range (Qo (QO YS (Ze ZN (by rfl) T.len ZQ (Qo (pv 4) Qs)) Qx) (Qo (Br B9 Qx) (Qo (Br B9 Qx) Qs)))) (QZ (i:=11) Wa.nd rfl Qa) (Q5 (W8 (QG QH (QG QH (pv 0) Qx) (pv 11)) (WT (n:=2) rfl (Vc (QZ (i:=12) Wa.nd rfl Qa) (Vc (QZ (i:=13) Wa.nd rfl Qa) WC))))
 (Q5 (W8 (Ze (BD rfl) (by rfl) T.min G4 (Qo (QG QH (pv 4) (pv 11)) (Qo (QG QH (pv 13) (pv 3)) Qs))) (UB (pv 4) (pv 11) Ws))
 (QA (Z8 (ZT Wi (pv 11) Qx (ZA _)) (QA (W8 (QO Vh (QG QH (pv 4) (pv 12)) (QG QH (pv 4) (pv 11))) (UB (pv 4) (pv 12) Ws))) Z9)))))
 (QA (QW (QG QH (pv 4) Qx)))))),?_⟩
   show Q2 K _ [some _,some _,some _,some _,none,none,none,none,none,none,none,none,none,none] _
   walk_at"x"
   have l1:=ok.l1;have l5:=ok.l5;have t8:=ok.t8;have n8:=hs.len;have eL:∀{ρ:Q1},ρ[0]?=some (some (.fz (Za y)))->Qt K (tOp (rIx K) (Q8 0) (tC (.int 1))) ρ (.tuple (y.ls.map ZL)):=fun e=>VV (ds:=[PyData.int (y.T:Int),.tuple (y.ls.map ZL)]) (Qq e) Q7 rfl;have len:(y.ls.map ZL).length=y.ls.length:=by simp
   refine QI (Vw (EvO.cast (TD (ds:=[.int 0]) (k:=(y.ls.length:Int)) (EvO.fz (Vk (ds:=[.int 0]) (QT Q7 Z2) W2)) (Qt.cast (B6 (eL rfl)) (by rw[len])) (by omega) (by show 1*_<=1000;omega) (by omega)) (d':=.ol ((List.range y.ls.length).map fun l=>PyData.int (Zq gs (t:Int) l []))) ?e0) ?_)
   case e0 =>
    rw[Rs,Xz,Ef];rfl
   walk_at"d"
   refine QI (VJ (ds:=Zm sm) (fun i ρ'=>∃u5 u6 u7 u8 u9 u10:Option OT,ρ'=[some (.fz (Za y)),some (.fz (.list (gs.map eRw))),some (.fz (.list (Zm sm))),some (.fz (.int (t:Int))),some (.ol ((List.range y.ls.length).map fun l=>PyData.int (Zq gs (t:Int) l (sm.take i)))),u5,u6,u7,u8,u9,u10,none,none,none]) (YA (Qq rfl)) ⟨_,_,_,_,_,_,rfl⟩ ?st3 ?fin3)
   case st3 =>
    rintro i d _ hd ⟨u5,u6,u7,u8,u9,u10,rfl⟩
    have hi:i<sm.length:=by
     have:=(Xh.mp hd).1
     simpa [Zm] using this
    obtain rfl:d=.int ((sm[i]:Nat):Int):=by simpa [Zm,hi] using hd.symm
    have hk:sm[i]<gs.length:=hs.mem _ (XV hi);refine⟨_,Zc,?_⟩
    walk_at"d"
    have tk:sm.take (i+1)=sm.take i++[sm[i]]:=by rw[WG];simp[hi]
    have eg:atI (gs.map eRw) ((sm[i]:Nat):Int)=some (eRw gs[sm[i]]):=Va (by simp[hk]);have gok:=hg gs[sm[i]] (XV hk);have gl:=gok.ln;have gw:=gok.w1;refine QI (Bz (V6 (Qq rfl) (Qq rfl) eg) (T4 (ZR Zc (ZR Zc (ZR Zc (ZR Zc (ZR Zc Wp))))) rfl) ?_)
    walk_at"d"
    refine ZC (b:=Yk gs[sm[i]] (t:Int)) (Zg.cast (Gx (c:=true) (ZS (BH (Qq rfl) (Qq rfl) (Qq rfl))) (fun _=>Zg.cast (ZS (Yu (Qq rfl) Q7)) (XW (by omega)))) (by rw[Bool.and_true];rfl)) (fun c=>?_) (fun c=>ZE ?_)
    ·have it:∀{ρ:Q1},ρ[4]?=some (some (.ol ((List.range y.ls.length).map fun l=>PyData.int (Zq gs (t:Int) l (sm.take i)))))->ρ[6]?=some (some (.fz (.int (gs[sm[i]].line:Int))))->Qt K (tOp (rIx K) (Q8 4) (Q8 6)) ρ (.int (Zq gs (t:Int) gs[sm[i]].line (sm.take i))):=fun e1 e2=>U2 e1 (Qq e2) (by rw[UC (by omega) (by omega),Xz])
     refine BN (j:=gs[sm[i]].line) rfl (Z5 (it rfl rfl) (Qq rfl)) (Qq rfl) (by rw[Bv (by omega) (by simp;omega),Xz]) ?_
     walk_at"d"
     rw[GA (f:=fun l=>Zq gs (t:Int) l (sm.take i)) (g:=fun l=>Zq gs (t:Int) l (sm.take (i+1))) gl (fun l hl hn=>by rw[tk,Jk];simp[Zq,hk,Ne.symm hn]) (by rw[tk,Jk];simp[Zq,hk,c])]
     exact⟨_,_,_,_,_,_,rfl⟩
    ·have e:(fun l=>PyData.int (Zq gs (t:Int) l (sm.take (i+1))))=fun l=>PyData.int (Zq gs (t:Int) l (sm.take i)):=by
      funext l
      rw[tk,Jk];simp[Zq,hk,c]
     dsimp only;rw[e];exact⟨_,_,_,_,_,_,rfl⟩
   case fin3 =>
    rintro _ ⟨u5,u6,u7,u8,u9,u10,rfl⟩
    have el:(Zm sm).length=sm.length:=by simp[Zm]
    rw[el,Wc];generalize hb:(fun k=>Zn y k t)=b
    generalize ho:Y8 gs t sm=own;have e0:((List.range y.ls.length).map fun l=>PyData.int (Zq gs (t:Int) l sm))=(List.range y.ls.length).map fun l=>PyData.int (Vn y b own 0 l):=X7 fun l hl=>by
     have:=XF.mp hl
     unfold Vn;rw[Xb (by omega),<- ho];rfl
    rw[e0];refine QI (VJ (ds:=W5 ((y.ls.length:Int)-1) y.ls.length) (fun i ρ'=>∃u11 u12 u13:Option OT,ρ'=[some (.fz (Za y)),some (.fz (.list (gs.map eRw))),some (.fz (.list (Zm sm))),some (.fz (.int (t:Int))),some (.ol ((List.range y.ls.length).map fun l=>PyData.int (Vn y b own i l))),u5,u6,u7,u8,u9,u10,u11,u12,u13]) ?ei4 ⟨_,_,_,rfl⟩ ?st4 ?fin4)
    case ei4 =>
     apply EvI.cast
     ·walk_at"ei"
     ·rw[Xk,WI]
      exact Pc rfl (by omega)
    case st4 =>
     rintro i d _ hd ⟨u11,u12,u13,rfl⟩
     obtain⟨hi,rfl⟩:=Hh hd;refine⟨_,Zc,?_⟩
     walk_at"d"
     have ej:(y.ls.length:Int)-1-(i:Int)=((y.ls.length-1-i:Nat):Int):=by omega
     rw[ej];generalize hj:y.ls.length-1-i=j;have hjl:j<y.ls.length:=by omega
     have hbl:=He ok hjl;have hbb:(Vi y j).bs.getD t 0=b j:=by rw[<- HH hjl,<- hb]
     have ln:atI (y.ls.map ZL) (j:Int)=some (ZL (Vi y j)):=Va (by simp[hjl,Vi])
     have ar:Vn y b own i j=Vu y b own j:=by
      unfold Vn;rw[Xb (by omega)];have:i=y.ls.length-1-j:=by omega
      rw[this];exact Pw ok b own hjl
     refine QI (Bz (VV (eL rfl) (Qq rfl) ln) (Wg (ds:=[upD (Vi y j).up,.tuple ((Vi y j).bs.map PyData.int)]) (ZR Zc (ZR Zc Wp)) rfl) ?_)
     walk_at"d"
     refine QI (BN (j:=j) rfl (Dm (U2 rfl (Qq rfl) (UC (by omega) (by omega))) (VV (Qq rfl) (Qq rfl) (NS (by omega) (by omega)))) (Qq rfl) (by rw[Bv (by omega) (by simp;omega),Xz]) ?_)
     walk_at"d"
     rw[Xz,Xz,hbb,ar];have ed:((List.range y.ls.length).map fun l=>PyData.int (Vn y b own i l)).set j (.int (min (Vu y b own j) (b j)))=(List.range y.ls.length).map fun l=>PyData.int (if l=j then passes y b own j else Vn y b own i l):=GA hjl (fun l _ hn=>Xb hn) (Xd rfl);rw[ed];refine ZC (b:=decide ((j:Int) > 0)) (Zg.cast (ZS (Yu (Qq rfl) Q7)) rfl) (fun c=>?_) (fun c=>ZE ?_)
     ·have c:=X0 c
      obtain⟨a,ea,la⟩:=ok.ups j (by omega) hjl
      have eu:upD (Vi y j).up=.int (a:Int):=by
       have:(Vi y j).up=some a:=by rw[<- Hy hjl];exact ea
       rw[this];rfl
      rw[eu];refine BN (j:=a) rfl (Z5 (U2 rfl (Qq rfl) (UC (by omega) (by omega))) (U2 rfl (Qq rfl) (UC (by omega) (by omega)))) (Qq rfl) (by rw[Bv (by omega) (by simp;omega),Xz]) ?_
      walk_at"d"
      rw[Xz,Xz,Xd rfl,Xb (show ¬a=j by omega)]
      have e1:∀l,l<y.ls.length->l≠a->Vn y b own (i+1) l=if l=j then passes y b own j else Vn y b own i l:=fun l hl hn=>by
       unfold Vn;by_cases z:l=j
       ·subst z
        rw[Xd rfl,Xd (by omega)]
       ·rw[Xb z]
        by_cases z2:y.ls.length<=l+i
        ·rw[Xd z2,Xd (by omega)]
        ·rw[Xb z2,Xb (by omega)]
         simp only[ZG,Y5,hj];rw[ea,Xb (by simpa using fun z=>hn z.symm)];omega
      have e2:Vn y b own (i+1) a=Vn y b own i a+passes y b own j:=by
       have r:ZG y b own i j=Vu y b own j:=by
        rw[<- ar];unfold Vn;rw[Xb (by omega)]
       unfold Vn;rw[Xb (by omega),Xb (by omega)];simp only[ZG,Y5,hj];rw[ea,Xd rfl,r];rfl
      rw[GA (f:=fun l=>if l=j then passes y b own j else Vn y b own i l) (g:=fun l=>Vn y b own (i+1) l) (by omega) e1 e2]
      exact⟨_,_,_,rfl⟩
     ·have c:=Ug c
      have e:(fun l=>PyData.int (if l=j then passes y b own j else Vn y b own i l))=fun l=>PyData.int (Vn y b own (i+1) l):=by
       funext l
       have:j=0:=by omega
       subst this;by_cases z:l=0
       ·subst z
        rw[Xd rfl];unfold Vn;rw[Xd (by omega)]
       ·rw[Xb z]
        unfold Vn;rw[Xd (by omega),Xd (by omega)]
      dsimp only;rw[e];exact⟨_,_,_,rfl⟩
    case fin4 =>
     rintro _ ⟨u11,u12,u13,rfl⟩
     rw[DV];refine Vj (Qt.cast (U2 rfl Q7 (UC (by decide) (by omega))) ?_) rfl;unfold Vn Yg;rw[Xd (by omega),hb,ho];rfl
def hG (y:Yd)(gs:List Gs)(go:Qk):HandS:=⟨Za y,0,gs.map Q9,gs.map fun _=>0,go.map fun(k:Nat)=>(.inl (k:Int),.bool true),[]⟩
def rsG (gs:List Gs)(go:Qk)(k:Nat):Int:=if k∈go then 0 else (gs.getD k default).want
theorem R5 (k:Nat):∀go:Qk,(Yr (go.map fun(k:Nat)=>((.inl (k:Int):Key),PyData.bool true)) (.inl (k:Int))).isSome=decide (k∈go)
 |[]=>rfl
 |x::go=>by
   have ih:=R5 k go;unfold Yr at ih ⊢;rw[Xs,XB];by_cases z:x=k
   ·subst z
    simp
   ·have z1:¬((.inl (x:Int):Key)=.inl (k:Int)):=fun q=>z (by injection q with q;omega)
    simp only[z1,decide_false];rw[ih];simp[Ne.symm z]
def Rp {y:Yd}{gs:List Gs}{go:Qk}{k:Nat}(h:k<gs.length):Bq (hG y gs go) k (rsG gs go k):=by
 refine⟨gs.getD k default,0,by simp[hG,h],by simp[hG,h],?_⟩;show _=if (Yr (go.map fun(k:Nat)=>((.inl (k:Int):Key),PyData.bool true)) (.inl (k:Int))).isSome=true then _ else _;rw[R5];unfold rsG;simp only[decide_eq_true_eq,Int.sub_zero]
def msG (gs:List Gs)(go:Qk):List Gs:=(List.range gs.length).map fun k=>{ gs.getD k default with want:=rsG gs go k }
def DC (gs:List Gs)(go:Qk):(msG gs go).length=gs.length:=by simp[msG]
def DB (gs:List Gs):msG gs []=gs:=by
 apply List.ext_getElem?
 intro i;by_cases h:i<gs.length
 ·simp[msG,rsG,h]
 ·simp[msG,h]
def TX (gs:List Gs)(go:Qk):((List.range gs.length).map fun k=>Q9 (stl gs 0 (rsG gs go) k))=(msG gs go).map Q9:=by
 unfold msG;rw[XY];refine X7 fun k _=>?_
 simp[stl]
def Lx {y:Yd}{gs:List Gs}{go:Qk}(hg:∀x∈gs,G30 y x):∀x∈msG gs go,GOk y x:=fun x hx=>by
 obtain⟨k,hk,rfl⟩:=XT.mp hx;have hk:=XF.mp hk;have g:=(hg (gs.getD k default) (by simp[hk])).ok;have w1:=g.w1;have m1:=g.m1;refine⟨g.ln,?_,by show 0<=(gs.getD k default).most;omega⟩;show 0<=rsG gs go k;unfold rsG;split<;>omega
inductive R_hcome:HandS->List OT->(OT->HandS->Prop)->Prop
 |mk {y:Yd} {gs:List Gs} {go:Qk} {g:Gs} (ok:y.Ok) (hg:∀x∈gs,G30 y x) (gk:G30 y g) (l:gs.length<=7) (h:∀S,ZX y (QS (msG gs go++[g])) S<=0):R_hcome (hG y gs go) [.fz (Q9 g)] (fun r N'=>r=.fz (.int (gs.length:Int))/\N'=hG y (gs++[g]) go)
inductive X_hcome (CH:Addr):List OT->(Qd->Prop)->Prop
 |mk {y:Yd} {gs:List Gs} {go:Qk} {g:Gs} (ok:y.Ok) (hg:∀x∈gs,G30 y x) (gk:G30 y g) (l:gs.length<=7) {S:Qm} (h:0<ZX y (QS (msG gs go++[g])) S):X_hcome CH [.zow (Zr CH (hG y gs go)),.fz (Q9 g)] (fun d=>∃S,0<ZX y (QS (msG gs go++[g])) S/\d=Zm (Z6 (msG gs go++[g]) S))
def Ih:Qp ZaK ZaK (Qy JR):=by walk_at"p"
def C4 (T:Bl mg) (UH:HandC K CH) (XR:XC K mg "NoRoom" YR CR fR) (D:Mf K CH "come" "Hand.come" JR ZaK) (Xbs:QF P w K mg base "is_guest" ZaT 4 (QP (K:=K) R_isguest)) (Xbt:Zz P w K mg base CH "refuse_past" ZaR 1 (Zl K (R_hpast CH))) (Xbu:UY P w K mg base "refuse_lack" Zaf 7 (spX K CR "some" R_refuse X_refuse)) (Xbv:Zz P w K mg base CH "still_there" ZaG 5 (Zl K (R_hstill CH))) :
 Bs P w K mg base CH "come" ZaK 8 (Gf K CH CR "some" R_hcome (X_hcome CH)):=by
 have gus:∀{ρ:Q1} {y:Yd} {gs:List Gs} {go:Qk} {g:Gs} {E:XK},ρ[0]?=some (some (.zow (Zr CH (hG y gs go))))->ρ[1]?=some (some (.fz (Q9 g)))->gs.length<=7->Qt K (tOp Bm (VR CH "still_there" (Zl K (R_hstill CH)) [] E (Q8 0) QN) (Jw (QE (Q8 1) QN))) ρ (.list ((msG gs go++[g]).map Q9)):=fun{ρ y gs go g E} e0 e1 l =>
  Qt.cast (EvO.fz (U0 (as:=(msG gs go).map Q9) (bs:=[Q9 g]) (Qt.cast (EvO.fz (Zv.o (JO FL e0 QC (R_hstill.mk (n:=0) (rsG gs go) rfl rfl (fun k hk=>Rp hk) (by omega))))) (by rw[TX])) (EvO.fz (Vk (QT (Qq e1) Z2) W2)) (by rw[Xk,DC];show gs.length+1<=1000;omega))) (by rw[Xr];rfl)
 have it1:∀{ρ:Q1} {g:Gs},ρ[1]?=some (some (.fz (Q9 g)))->Qt K (tOp (rIx K) (Q8 1) (tC (.int 1))) ρ (.int (g.first:Int)):=fun{ρ g} e=>VV (ds:=[.int (g.line:Int),.int (g.first:Int),.int (g.last:Int),.int g.want,.int g.most]) (Qq e) Q7 rfl
 have gks:∀{y:Yd} {gs:List Gs} {go:Qk} {g:Gs},(∀x∈gs,G30 y x)->G30 y g->∀x∈msG gs go++[g],GOk y x:=fun hg gk x hx=>by
  rcases XG.mp hx with hx|hx
  ·exact Lx hg x hx
  ·rw[Xi.mp hx];exact Tl gk.ok
 refine D.evHX Ih (fun M ts Ψ h=>by cases h;rfl) (fun ts Φ h=>by cases h;rfl) (by decide) (fun f cdv A outer s H RR v M ts Ψ hr hst h=>?_) (fun f cdv A outer s F H RR ts Φ hr hst hq h=>?_)
 ·cases h with
  |@mk y gs go g ok hg gk l h =>
    refine⟨_,(Q5 (Z8 (Wo (VX (QJ Xbs hr (Qo (Zu (pv 0) rfl) (Qo (pv 1) Qs))))) (PSs.nox (QA GM)) Z9)
 (Q5 (Z3 (JK Xbt UH hr (pv 0) (Qo (QG QH (pv 1) Qx) Qs)))
 (Q5 (Z3 (R4 Xbu hr (Nq hst) (Qo (Zu (pv 0) rfl) (Qo (QO U8 (DR Xbv UH hr (pv 0)) (Z1 (Qo (pv 1) Qs))) Qs))))
 (PSs.nox (Q5 (Z3 (VU PySem.F.plainAttrs_list PySem.F.slot_list_append PySem.F.type_list_append VZ (Zu (pv 0) rfl) (Qo (pv 1) Qs)))
 (Q5 (Z3 (VU PySem.F.plainAttrs_list PySem.F.slot_list_append PySem.F.type_list_append VZ (Zu (pv 0) rfl) (Qo Qx Qs)))
 (QA (QW (QO YS (Ze ZN (by rfl) T.len ZQ (Qo (Zu (pv 0) rfl) Qs)) Qx))))))))),?_⟩
    show EvR K _ [some (.own v (QQ CH (hG y gs go))),some (.fz (Q9 g))] _
    walk_at"x"
    refine ZY (fun ρ'=>ρ'=[some (.own v (QQ CH (hG y gs go))),some (.fz (Q9 g))]) (ZC (b:=false) (RU 0 rfl (YO (b:=true) (VB (Zd (Qw (Qt.cast (Mb (N:=hG y gs go) UH rfl) rfl) (Qw (Qq rfl) QC)) (R_isguest.mk gk))))) (fun c=>nomatch c) (fun _=>ZE rfl)) ?_
    rintro _ rfl
    refine ZY (fun ρ'=>ρ'=[some (.own v (QQ CH (hG y gs go))),some (.fz (Q9 g))]) (GH (BR 0 rfl (fun r hr=>by rw[hr];exact GV rfl) (JO RI rfl (Qw (it1 rfl) QC) (R_hpast.mk (by show(0:Int)<=(g.first:Int);omega)))) rfl) ?_
    rintro _ rfl
    refine ZY (fun ρ'=>ρ'=[some (.own v (QQ CH (hG y gs go))),some (.fz (Q9 g))]) (GH (BR 0 rfl (fun r hr=>by rw[hr];exact GV rfl) (CL (Qw (Qt.cast (Mb (N:=hG y gs go) UH rfl) rfl) (Qw (gus rfl rfl l) QC)) (R_refuse.mk ok (gks hg gk) (by rw[Xm,DC];show gs.length+1<=8;omega) h) hst)) rfl) ?_
    rintro _ rfl
    refine ZY (fun ρ'=>ρ'=[some (.own v (QQ CH { hG y gs go with known:=gs.map Q9++[Q9 g] })),some (.fz (Q9 g))]) (AX UH rfl (Qq rfl) (by show(gs.map Q9).length<1000;rw[Xk];omega) rfl) ?_
    rintro _ rfl
    refine ZY (fun ρ'=>ρ'=[some (.own v (QQ CH (hG y (gs++[g]) go))),some (.fz (Q9 g))]) (Ed (n:=0) UH rfl Q7 (by show(gs.map fun _=>(0:Int)).length<1000;rw[Xk];omega) ?_) ?_
    ·simp[hG]
    rintro _ rfl
    refine G2 (Qt.cast (DQ (d:=.int ((gs.length:Int)+1-1)) 0 rfl rfl (Z5 (Qt.cast (YQ (GS (N:=hG y (gs++[g]) go) UH rfl)) ?_) Q7)) ?_) ⟨_,⟨rfl,rfl⟩,rfl⟩
    ·show PyData.int (((gs++[g]).map Q9).length:Int)=_
     rw[Xk,Xm];rfl
    ·rw[Int.add_sub_cancel]
 ·cases h with
  |@mk y gs go g ok hg gk l S h =>
    refine⟨_,(Q5 (Z8 (Wo (VX (QJ Xbs hr (Qo (Zu (pv 0) rfl) (Qo (pv 1) Qs))))) (PSs.nox (QA GM)) Z9)
 (Q5 (Z3 (JK Xbt UH hr (pv 0) (Qo (QG QH (pv 1) Qx) Qs)))
 (Q5 (Z3 (R4 Xbu hr (Nq hst) (Qo (Zu (pv 0) rfl) (Qo (QO U8 (DR Xbv UH hr (pv 0)) (Z1 (Qo (pv 1) Qs))) Qs))))
 (PSs.nox (Q5 (Z3 (VU PySem.F.plainAttrs_list PySem.F.slot_list_append PySem.F.type_list_append VZ (Zu (pv 0) rfl) (Qo (pv 1) Qs)))
 (Q5 (Z3 (VU PySem.F.plainAttrs_list PySem.F.slot_list_append PySem.F.type_list_append VZ (Zu (pv 0) rfl) (Qo Qx Qs)))
 (QA (QW (QO YS (Ze ZN (by rfl) T.len ZQ (Qo (Zu (pv 0) rfl) Qs)) Qx))))))))),?_⟩
    show EvZ K F H _ [some (.zow (Zr CH (hG y gs go))),some (.fz (Q9 g))]
    walk_at"x"
    refine NH (ZC (b:=false) (YO (b:=true) (VB (Zd (Qw (Qt.cast (Mb (N:=hG y gs go) UH rfl) rfl) (Qw (Qq rfl) QC)) (R_isguest.mk gk)))) (fun c=>nomatch c) (fun _=>ZE rfl)) ?_;refine NH (GH (JO RI rfl (Qw (it1 rfl) QC) (R_hpast.mk (by show(0:Int)<=(g.first:Int);omega))) rfl) ?_;exact Ts (Fd (Qw (Qt.cast (Mb (N:=hG y gs go) UH rfl) rfl) (Qw (gus rfl rfl l) QC)) (X_refuse.mk ok (gks hg gk) (by rw[Xm,DC];show gs.length+1<=8;omega) h) hst hq)
inductive R_hleave:HandS->List OT->(OT->HandS->Prop)->Prop
 |mk {y:Yd} {gs:List Gs} {k:Nat} (h:k<gs.length):R_hleave (hG y gs []) [.fz (.int (k:Int))] (fun r N'=>r=.fz (.int 0)/\N'=hG y gs [k])
def IN:Qp Zac Zac (Qy JW):=by walk_at"p"
def Aq (T:Bl mg) (UH:HandC K CH) (D:Mf K CH "leave" "Hand.leave" JW Zac) (Xbk:Zz P w K mg base CH "refuse_number" Zac 3 (Zl K (R_hnum CH))):Zz P w K mg base CH "leave" Zac 4 (spP K (QQ CH) R_hleave):=by
 refine D.evP IN (fun M ts Ψ h=>by cases h;rfl) (fun f cdv A outer s H E v M ts Ψ hr h=>?_)
 cases h with
 |@mk y gs k h =>
   refine⟨_,(Q5 (Z3 (JK Xbk UH hr (pv 0) (Qo (pv 1) Qs)))
 (Q5 (Z8 (U9 (BA (Y6 hr) (pv 1) (Zu (pv 0) rfl))) (QA GM) Z9)
 (Q5 (Rw (Y6 hr) (Zu (pv 0) rfl) (pv 1) Y4 rfl)
 (QA (QW (QG QH (Zu (pv 0) rfl) (pv 1))))))),?_⟩
   show EvR K _ [some (.own v (QQ CH (hG y gs []))),some (.fz (.int (k:Int)))] _
   walk_at"x"
   refine ZY (fun ρ'=>ρ'=[some (.own v (QQ CH (hG y gs []))),some (.fz (.int (k:Int)))]) (GH (BR 0 rfl (fun r hr=>by rw[hr];exact GV rfl) (JO NI rfl (Qw (Qq rfl) QC) (R_hnum.mk (by simp[hG,h])))) rfl) ?_
   rintro _ rfl
   refine ZY (fun ρ'=>ρ'=[some (.own v (QQ CH (hG y gs []))),some (.fz (.int (k:Int)))]) (ZC (b:=false) (RU 0 rfl (Zg.cast (ZS (SC (k:=.inl (k:Int)) UH (Qq rfl) rfl)) rfl)) (fun c=>nomatch c) (fun _=>ZE rfl)) ?_
   rintro _ rfl
   refine ZY (fun ρ'=>ρ'=[some (.own v (QQ CH (hG y gs [k]))),some (.fz (.int (k:Int)))]) (FJ (k:=.inl (k:Int)) (d:=.bool true) UH rfl Gj (Qq rfl) (by show(0:Nat)<_;decide) rfl) ?_
   rintro _ rfl
   exact G2 (DQ 0 rfl rfl (V6 (Pn (N:=hG y gs [k]) UH rfl) (Qq rfl) (Sr (x:=0) (by simp[hG,h])))) ⟨_,⟨rfl,rfl⟩,rfl⟩
def Jd (l:Ln)(k:Int):Ln:=⟨l.up,l.bs.map fun b=>b*k⟩
def Vg (y:Yd)(k:Int):Yd:=⟨y.T,y.ls.map fun l=>Jd l k⟩
def V9 (g:Gs)(k:Int):Gs:=⟨g.line,g.first,g.last,g.want*k,g.most*k⟩
def Ey {y:Yd}(ok:y.Ok){k:Int}(h0:0<=k)(hb:∀l∈y.ls,∀b∈l.bs,b*k<10^300):(Vg y k).Ok:=by
 have hu:∀j,QX (Vg y k) j=QX y j:=fun j=>by
  simp only[QX,Vg,Xq];cases y.ls[j]?<;>rfl
 refine⟨ok.t1,ok.t8,by simpa [Vg] using ok.l1,by simpa [Vg] using ok.l5,by rw[hu];exact ok.up0,fun j h1 h2=>?_,fun l hl=>?_,fun l hl b hb'=>?_⟩
 ·rw[hu]
  exact ok.ups j h1 (by simpa [Vg] using h2)
 ·simp only[Vg,XT]at hl
  obtain⟨l0,h1,rfl⟩:=hl
  simpa [Jd,Vg] using ok.bl l0 h1
 ·simp only[Vg,XT]at hl
  obtain⟨l0,h1,rfl⟩:=hl;simp only[Jd,XT]at hb';obtain⟨b0,h2,rfl⟩:=hb'
  exact⟨Int.mul_nonneg (ok.bb l0 h1 b0 h2).1 h0,hb l0 h1 b0 h2⟩
def Ht {y:Yd}(gs:List Gs)(S:Qm):ZX y (QS gs) S=YD gs (Z6 gs S)-Q3 (Yg y gs (Z6 gs S)) y.T:=by
 rw[UK];unfold JT;rw[GU]
theorem Pr (gs:List Gs)(k:Int)(t:Int)(l:Nat):∀sm:Qk,Zq (gs.map fun g=>V9 g k) t l sm=Zq gs t l sm*k
 |[]=>by simp[Zq]
 |j::r=>by
   simp only[Zq];rw[Pr gs k t l r,Int.add_mul];congr 1;rw[Xq];cases gs[j]? with
   |none=>simp
   |some g =>
     simp only[X6];by_cases h:g.line=l/\Yk g t=true
     ·rw[Xd (show(V9 g k).line=l/\Yk (V9 g k) t=true from h),Xd h]
      rfl
     ·rw[Xb (show ¬((V9 g k).line=l/\Yk (V9 g k) t=true) from h),Xb h]
      simp
def Iv (y:Yd)(gs:List Gs)(sm:Qk){k:Int}(h:0<=k)(t:Nat):Yg (Vg y k) (gs.map fun g=>V9 g k) sm t=Yg y gs sm t*k:=by
 unfold Yg Y8;have hu:∀j,QX (Vg y k) j=QX y j:=fun j=>by
  simp only[QX,Vg,Xq];cases y.ls[j]?<;>rfl
 have hb:(fun j=>Zn (Vg y k) j t)=fun j=>Zn y j t*k:=by
  funext j
  simp only[Zn,Vg,Xq];cases y.ls[j]? with
  |none=>simp
  |some ln =>
    simp only[X6,Ue,Jd,List.getD,Xq];cases ln.bs[t]?<;>simp
 have ho:(fun l=>Zq (gs.map fun g=>V9 g k) (t:Int) l sm)=fun l=>Zq gs (t:Int) l sm*k:=by
  funext l
  exact Pr gs k t l sm
 rw[hb,ho,EB h hu (by simp[Vg])]
def D5 (gs:List Gs)(f:Gs->Gs)(S:Qm):Z6 (gs.map f) S=Z6 gs S:=by unfold Z6;rw[Xk]
def EV (gs:List Gs)(k:Int)(S:Qm):YD (gs.map fun g=>V9 g k) (Z6 gs S)=k*YD gs (Z6 gs S):=by
 have key:∀sm:Qk,(∀j∈sm,j<gs.length)->YD (gs.map fun g=>V9 g k) sm=k*YD gs sm:=fun sm=>by
  induction sm with
  |nil=>intro _;simp[YD]
  |cons j r ih =>
    intro hm;have ih:=ih fun j hj=>hm j (Xe _ hj);have hj:=hm j Xc;unfold YD at ih ⊢;rw[Xs,Xs,Y2,Y2,ih,Int.mul_add];congr 1;simp only[List.getD,Xq,XQ hj,X6,Ue,V9];exact Int.mul_comm ..
 exact key _ fun j hj=>XF.mp (Ud.mp hj).1
def Pp (y:Yd)(gs:List Gs){k:Int}(h:0<=k)(S:Qm):ZX (Vg y k) (QS (gs.map fun g=>V9 g k)) S=k*ZX y (QS gs) S:=by
 rw[Ht,Ht,D5,EV,Uj,<- GL];congr 1;show Q3 _ y.T=_;exact Zj fun t _=>by rw[Iv y gs _ h,Int.mul_comm]
def pkG:List Gs->(Qm)->List Gs
 |[],_=>[]
 |g::r,S=>if S 0=true then g::pkG r (fun k=>S (k+1)) else pkG r (fun k=>S (k+1))
theorem DZ:∀(gs:List Gs) (S:Qm),(Z6 gs S).map (fun k=>gs.getD k default)=pkG gs S
 |[],_=>rfl
 |g::r,S=>by
   have ih:=DZ r fun k=>S (k+1);unfold Z6 at ih ⊢;rw[XJ,List.range_succ_eq_map,Jo,List.filter_map];show _=if S 0=true then g::pkG r (fun k=>S (k+1)) else pkG r (fun k=>S (k+1));rw[<- ih];by_cases c:S 0=true
   ·rw[Xd c,Xd c,Xs,XY]
    rfl
   ·rw[Xb c,Xb c,XY]
    rfl
def ED (gs:List Gs)(S:Qm):YD gs (Z6 gs S)=((pkG gs S).map Gs.want).sum:=by
 rw[<- DZ,XY];rfl
def wG (t:Int)(l:Nat)(g:Gs):Int:=if g.line=l/\Yk g t=true then g.most else 0
theorem Sh (gl:List Gs)(t:Int)(l:Nat):∀sm:Qk,Zq gl t l sm=(sm.map (wgt gl t l)).sum
 |[]=>rfl
 |k::r=>by
   rw[Xs,Y2,<- Sh gl t l r,<- Rb,<- Jk];rfl
def Al (gs:List Gs)(S:Qm)(t l:Nat):Y8 gs t (Z6 gs S) l=((pkG gs S).map (wG (t:Int) l)).sum:=by
 unfold Y8;rw[Sh,<- DZ,XY];congr 1;refine X7 fun k hk=>?_;have hk:k<gs.length:=XF.mp (Ud.mp hk).1;show wgt gs (t:Int) l k=wG (t:Int) l (gs.getD k default);unfold wgt wG;rw[JI hk,XQ hk]
theorem Hj:∀(gs:List Gs) (S:Qm),(pkG gs S).Sublist gs
 |[],_=>.slnil
 |g::r,S=>by
   show(if S 0=true then g::pkG r (fun k=>S (k+1)) else pkG r (fun k=>S (k+1))).Sublist (g::r)
   split
   ·exact .cons_cons _ (Hj r _)
   ·exact .cons _ (Hj r _)
def Nf (b:Bool)(S:Qm):Qm
 |0=>b
 |k+1=>S k
def Am {c gs:List Gs}(h:c.Sublist gs):∃S,c=pkG gs S:=by
 induction h with
 |slnil=>exact⟨fun _=>false,rfl⟩
 |@cons l r g _ ih =>
   obtain⟨S,rfl⟩:=ih
   exact⟨Nf false S,rfl⟩
 |@cons_cons l r g _ ih =>
   obtain⟨S,rfl⟩:=ih
   exact⟨Nf true S,rfl⟩
def ZU (y:Yd)(gs:List Gs):Prop := ∀S,ZX y (QS gs) S<=0
def shL (y:Yd)(c:List Gs):Int:=(c.map Gs.want).sum-Q3 (fun t=>passes y (fun k=>Zn y k t) (fun l=>(c.map (wG (t:Int) l)).sum) 0) y.T
def Rj (y:Yd)(gs:List Gs)(S:Qm):ZX y (QS gs) S=shL y (pkG gs S):=by
 rw[Ht,ED];unfold shL;congr 1;refine Zj fun t _=>?_;unfold Yg;rw[show Y8 gs t (Z6 gs S)=fun l=>((pkG gs S).map (wG (t:Int) l)).sum from funext fun l=>Al gs S t l]
def JP {y:Yd}{gs:List Gs}:ZU y gs ↔ ∀c:List Gs,c.Sublist gs->shL y c<=0 :=
 ⟨fun h c hc=>by
  obtain⟨S,rfl⟩:=Am hc;rw[<- Rj];exact h S,fun h S=>by
  rw[Rj];exact h _ (Hj gs S)⟩
def Sa {f:Gs->Int}{a b:List Gs}(h:a.Perm b):(a.map f).sum=(b.map f).sum:=by
 induction h with
 |nil=>rfl
 |cons x _ ih=>rw[Xs,Xs,Y2,Y2,ih]
 |swap x y l =>
   simp only[Xs,Y2];omega
 |trans _ _ h1 h2=>exact h1.trans h2
def Ai (y:Yd){a b:List Gs}(h:a.Perm b):shL y a=shL y b:=by
 unfold shL;rw[Sa h];congr 1;refine Zj fun t _=>?_;rw[show(fun l=>(a.map (wG (t:Int) l)).sum)=fun l=>(b.map (wG (t:Int) l)).sum from funext fun l=>Sa h]
def ZU.sub {y:Yd}{a b:List Gs}(h:ZU y b)(s:a.Sublist b):ZU y a:=JP.mpr fun c hc=>JP.mp h c (hc.trans s)
def ZU.perm {y:Yd}{a b:List Gs}(h:ZU y a)(p:a.Perm b):ZU y b:=JP.mpr fun c hc=>by
 obtain⟨c',h1,h2⟩:=List.exists_perm_sublist hc p.symm;rw[<- Ai y h1];exact JP.mp h c' h2
def ZU.drop0 {y:Yd}{x:Gs}{l:List Gs}(h:ZU y l)(w:x.want=0)(m:0<=x.most):ZU y (x::l):=JP.mpr fun c hc=>by
 rcases List.sublist_cons_iff.mp hc with hc|⟨r,rfl,hr⟩
 ·exact JP.mp h c hc
 ·have a:=JP.mp h r hr
  unfold shL at a ⊢;rw[Xs,Y2,w];have:Q3 (fun t=>passes y (fun k=>Zn y k t) (fun l=>(r.map (wG (t:Int) l)).sum) 0) y.T<=Q3 (fun t=>passes y (fun k=>Zn y k t) (fun l=>((x::r).map (wG (t:Int) l)).sum) 0) y.T:=YX fun t _=>Ix (fun _=>Jt _) (fun l=>by
   rw[Xs,Y2];have:0<=wG (t:Int) l x:=by
    unfold wG;split<;>omega
   omega) 0
  omega
def Pj {y:Yd}{gs:List Gs}{k:Int}(h:0<k):ZU (Vg y k) (gs.map fun g=>V9 g k)↔ZU y gs :=
 ⟨fun z S=>by
  have a:=z S
  rw[Pp y gs (by omega)]at a;exact Int.not_lt.mp fun c=>by
   have:=Int.mul_pos h c
   omega,fun z S=>by
  rw[Pp y gs (by omega)];exact Int.mul_nonpos_of_nonneg_of_nonpos (by omega) (z S)⟩
def CY {y:Yd}(ok:y.Ok):ZU y []:=fun S=>by
 rw[UK];have:Z6 ([]:List Gs) S=[]:=rfl;rw[this,IQ ok];decide
inductive Run (y:Yd):List Gs->List Gs->List Bool->Prop
 |nil:Run y [] [] []
 |yes {gs a:List Gs} {bs:List Bool} {g:Gs} (r:Run y gs a bs) (h:ZU y (a++[g])):Run y (gs++[g]) (a++[g]) (bs++[true])
 |no {gs a:List Gs} {bs:List Bool} {g:Gs} (r:Run y gs a bs) (h:¬ZU y (a++[g])):Run y (gs++[g]) a (bs++[false])
def Run.len {y:Yd}{gs a:List Gs}{bs:List Bool}(r:Run y gs a bs):bs.length=gs.length:=by
 induction r with
 |nil=>rfl
 |yes _ _ ih=>simp[ih]
 |no _ _ ih=>simp[ih]
def Run.sub {y:Yd}{gs a:List Gs}{bs:List Bool}(r:Run y gs a bs):a.Sublist gs:=by
 induction r with
 |nil=>exact .slnil
 |yes _ _ ih=>exact ih.append (.refl _)
 |no _ _ ih=>exact ih.trans (List.sublist_append_left _ _)
def Run.fits {y:Yd}(ok:y.Ok){gs a:List Gs}{bs:List Bool}(r:Run y gs a bs):ZU y a:=by
 induction r with
 |nil=>exact CY ok
 |yes _ h _=>exact h
 |no _ _ ih=>exact ih
def Run.det {y:Yd}{gs a:List Gs}{bs:List Bool}(r:Run y gs a bs):∀{gs' a':List Gs} {bs':List Bool},Run y gs' a' bs'->gs=gs'->a=a'/\bs=bs':=by
 induction r with
 |nil =>
   intro gs' a' bs' r' e;cases r' with
   |nil=>exact⟨rfl,rfl⟩
   |yes _ _=>exact Xl e (by simp)
   |no _ _=>exact Xl e (by simp)
 |@yes gs a bs g r h ih =>
   intro gs' a' bs' r' e;cases r' with
   |nil=>exact Xl e (by simp)
   |yes r2 h2 =>
     obtain⟨e1,e2⟩:=M0 e rfl;obtain⟨rfl,rfl⟩:=ih r2 e1
     cases e2
     exact⟨rfl,rfl⟩
   |no r2 h2 =>
     obtain⟨e1,e2⟩:=M0 e rfl;obtain⟨rfl,rfl⟩:=ih r2 e1
     cases e2
     exact Xl h h2
 |@no gs a bs g r h ih =>
   intro gs' a' bs' r' e;cases r' with
   |nil=>exact Xl e (by simp)
   |yes r2 h2 =>
     obtain⟨e1,e2⟩:=M0 e rfl;obtain⟨rfl,rfl⟩:=ih r2 e1
     cases e2
     exact Xl h2 h
   |no r2 h2 =>
     obtain⟨e1,e2⟩:=M0 e rfl;obtain⟨rfl,rfl⟩:=ih r2 e1
     cases e2
     exact⟨rfl,rfl⟩
def Run.times {y:Yd}{k:Int}(hk:0<k){gs a:List Gs}{bs:List Bool}(r:Run y gs a bs):Run (Vg y k) (gs.map fun g=>V9 g k) (a.map fun g=>V9 g k) bs:=by
 induction r with
 |nil=>exact .nil
 |yes _ h ih =>
   rw[Xr,Xr];refine .yes ih ?_
   have:=(Pj hk).mpr h
   rw[Xr]at this;exact this
 |no _ h ih =>
   rw[Xr];refine .no ih fun c=>h ((Pj hk).mp ?_);rw[Xr];exact c
def bAt (bs:List Bool)(k:Nat):Bool:=bs.getD k false
def BM {n:Nat}{bs:List Bool}(e:bs.length=n)(b c:Bool):(List.range (n+1)).filter (fun k=>bAt (bs++[b]) k==c)=(List.range n).filter (fun k=>bAt bs k==c)++if (b==c)=true then [n] else []:=by
 rw[YH,Bh];congr 1
 ·refine List.filter_congr fun k hk=>?_
  have hk:=XF.mp hk;unfold bAt;simp only[List.getD,XI (show k<bs.length by omega)]
 ·have:bAt (bs++[b]) n=b:=by
   unfold bAt;subst e;simp
  rw[Jo,this];split<;>rfl
def Sd {gs:List Gs}{g:Gs}(sm:Qk)(h:∀k∈sm,k<gs.length):sm.map (fun k=>(gs++[g]).getD k default)=sm.map fun k=>gs.getD k default:=X7 fun k hk=>by
 simp only[List.getD,XI (h k hk)]
def Run.ins {y:Yd}{gs a:List Gs}{bs:List Bool}(r:Run y gs a bs):a=((List.range gs.length).filter fun k=>bAt bs k==true).map fun k=>gs.getD k default:=by
 have ml:∀{n:Nat} {p:Qm},∀k∈(List.range n).filter p,k<n:=fun{n p} k hk=>XF.mp (Ud.mp hk).1
 induction r with
 |nil=>rfl
 |@yes gs a bs g r h ih =>
   rw[Xm,Jr,BM r.len,Xd (by decide),Xr,Sd _ ml,<- ih];simp
 |@no gs a bs g r h ih =>
   rw[Xm,Jr,BM r.len,Xb (by decide),XD,Sd _ ml,<- ih]
def Run.outs {y:Yd}{gs a:List Gs}{bs:List Bool}(r:Run y gs a bs):a.length+((List.range gs.length).filter fun k=>bAt bs k==false).length=gs.length:=by
 induction r with
 |nil=>rfl
 |@yes gs a bs g r h ih =>
   have e:(gs++[g]).length=gs.length+1:=by simp
   rw[e,BM r.len,Xb (by decide),XD,Xm,Jr];omega
 |@no gs a bs g r h ih =>
   rw[Xm,Jr,BM r.len,Xd (by decide),Xm,Jr];omega
def g0 (g:Gs):Gs:=⟨g.line,g.first,g.last,0,g.most⟩
def LS (gs:List Gs){k:Nat}(h:k<gs.length):msG gs [k]=gs.take k++g0 (gs.getD k default)::gs.drop (k+1):=by
 rw[show gs.take k++g0 (gs.getD k default)::gs.drop (k+1)=gs.set k (g0 (gs.getD k default)) by rw[List.set_eq_take_append_cons_drop,Xd h]]
 apply List.ext_getElem?
 intro i;unfold msG rsG;by_cases hi:i<gs.length
 ·by_cases e:i=k
  ·subst e
   simp[hi,g0]
  ·rw[Xx (Ne.symm e)]
   simp[hi,e]
 ·simp[hi]
def A3 {y:Yd}{gs:List Gs}{g:Gs}{k:Nat}(h:k<gs.length)(m:0<=(gs.getD k default).most):ZU y (msG gs [k]++[g])↔ZU y (gs.take k++gs.drop (k+1)++[g]):=by
 rw[LS gs h];have p:(gs.take k++g0 (gs.getD k default)::gs.drop (k+1)++[g]).Perm (g0 (gs.getD k default)::(gs.take k++gs.drop (k+1)++[g])):=by
  rw[<- WH];exact(List.perm_middle).append_right [g]
 exact⟨fun z=>(z.perm p).sub (List.sublist_cons_self _ _),fun z=>(ZU.drop0 (x:=g0 (gs.getD k default)) z rfl m).perm p.symm⟩
inductive R_lcome:HandS->List OT->(OT->HandS->Prop)->Prop
 | mk {y:Yd} {gs:List Gs} {go:Qk} {g:Gs} (ok:y.Ok) (hg:∀x∈gs,G30 y x) (gk:G30 y g) (l:gs.length<=7) (h:∀S,ZX y (QS (msG gs go++[g])) S<=0):R_lcome (hG y gs go) [.fz (Q9 g)] (fun r N'=>r=.ol [.str "in",.int (gs.length:Int)]/\N'=hG y (gs++[g]) go)
inductive X_lcome (CH:Addr):List OT->(OT->Prop)->Prop
 | mk {y:Yd} {gs:List Gs} {go:Qk} {g:Gs} (ok:y.Ok) (hg:∀x∈gs,G30 y x) (gk:G30 y g) (l:gs.length<=7) {S:Qm} (h:0<ZX y (QS (msG gs go++[g])) S):X_lcome CH [.zow (Zr CH (hG y gs go)),.fz (Q9 g)] (fun r=>∃v S,0<ZX y (QS (msG gs go++[g])) S/\r=.own v (lsO (.str "room") (Zm (Z6 (msG gs go++[g]) S))))
def YZ:Qp Zaq Zan (Qy GZ):=by walk_at"p"
def Cv (T:Bl mg) (UH:HandC K CH) (XR:XC K mg "NoRoom" YR CR fR) (XA:PK K mg YR CR cg ct) (D:Df K mg "_law_come" GZ Zan) (Xbw:Bs P w K mg base CH "come" ZaK 8 (Gf K CH CR "some" R_hcome (X_hcome CH))) :
 QF P w K mg base "_law_come" Zan 9 (Wf K CH R_lcome (X_lcome CH)):=by
 refine D.evH2 YZ (fun M ts Ψ h=>by cases h;rfl) (fun ts Φ h=>by cases h;rfl) (by decide) (fun f cdv A outer s H E v M ts Ψ hr h=>?_) (fun _ _ _ _ s H E ts Φ hr h=>?_)
 ·have hu:=hr.units
  cases h with
  |@mk y gs go g ok hg gk l h =>
    refine⟨_,(Q5 (QY (i:=2) YZ.nd rfl Qa B8)
 (Q5 (SO (j:=3) XA.em rfl rfl rfl XA.my YZ.nd rfl rfl rfl (fun D pn=>(QA (QY (i:=2) YZ.nd rfl Qa (Z1 (Qo VI (Qo (RV Xbw UH hr SE (pv 0) (Qo (pv 1) Qs)) Qs)))))) (fun e pn=>(Q5 (QY (i:=4) YZ.nd rfl (Or.inr rfl) (Z1 (Qo (Ze (show Z0 _ (.builtin "isinstance") (YJ K CR) from WX XA.is) (by rfl) T.isi YU (Qo (pv 3) (Qo (YY (v:=.ref _) rfl XA.m1 rfl) Qs))) (Qo (Ze (show Z0 _ (.builtin "isinstance") (YJ K CR) from WX XA.is) (by rfl) T.isi YU (Qo (pv 3) (Qo (YY (v:=.ref _) rfl XA.m2 rfl) Qs))) (Qo (Ze (show Z0 _ (.builtin "isinstance") (YJ K CR) from WX XA.is) (by rfl) T.isi YU (Qo (pv 3) (Qo (YY (v:=.ref _) rfl XR.m rfl) Qs))) Qs)))))
 (Q5 (SA (i:=2) YZ.nd rfl rfl (NX:=Zaq) (sc:=Qy GZ) (N:=ZaI) (f:=[none,some 4,some 3]) (by decide +kernel) rfl rfl (Sz (C:=CR) (e:=e) rfl rfl T.range (Qo Qx Qs)) (fun _=>(QZ (i:=0) (show(ZaI:Qh).Nodup by decide +kernel) rfl Qa)) (fun _=>ZZ) (fun _=>(Jc (PW.pt (G0 (VX (QG (show IxR _ (rIx K) from QH) (pv 1) (pv 0))) (G8 (VX (Ze (show Z0 _ (.builtin "isinstance") (YJ K CR) from WX XA.is) (by rfl) T.isi YU (Qo (pv 2) (Qo (G6 (v:=.ty "ValueError") rfl T.ValueError P8 rfl) Qs))))))))) (fun _=>(QG (show IxR _ (rIx K) from QH) (Z1 (Qo VI (Qo VI (Qo VI Qs)))) (pv 0))) rfl)
 (QA (Z8 (ZT (WS hu) (pv 2) (Z1 (Qo VI Qs)) (ZA _)) (QA (Z3 (show PE _ _ (tBM K "list" Yc _ _) from VU PySem.F.plainAttrs_list PySem.F.slot_list_append PySem.F.type_list_append VZ (pv 2) (Qo (Rz XA.gt XA.na (pv 3)) Qs)))) Z9))))))
 (QA (QW (pv 2))))),?_⟩
    show EvR K _ [some (.own v (QQ CH (hG y gs go))),some (.fz (Q9 g)),none,none,none] _
    walk_at"x"
    refine ZY (fun ρ'=>ρ'=[some (.own v (QQ CH (hG y gs go))),some (.fz (Q9 g)),some (.fz .none),none,none]) (ZK Gw rfl) ?_
    rintro _ rfl
    refine ZY (fun ρ'=>ρ'=[some (.own v (QQ CH (hG y (gs++[g]) go))),some (.fz (Q9 g)),some (.ol [.str "in",.int (gs.length:Int)]),none,none]) (LF fun E'=>Ch Rv rfl Yv rfl (Qw (Qq rfl) QC) (R_hcome.mk ok hg gk l h) SX ?_) ?_
    ·rintro r N' ⟨rfl,rfl⟩
     exact⟨_,_,rfl,rfl,rfl⟩
    rintro _ rfl
    exact F7 (j:=2) (by decide) rfl ⟨_,⟨rfl,rfl⟩,rfl⟩
 ·have hu:=hr.units
  cases h with
  |@mk y gs go g ok hg gk l S h =>
    refine⟨_,(Q5 (QY (i:=2) YZ.nd rfl Qa B8)
 (Q5 (SO (j:=3) XA.em rfl rfl rfl XA.my YZ.nd rfl rfl rfl (fun D pn=>(QA (QY (i:=2) YZ.nd rfl Qa (Z1 (Qo VI (Qo (RV Xbw UH hr SE (pv 0) (Qo (pv 1) Qs)) Qs)))))) (fun e pn=>(Q5 (QY (i:=4) YZ.nd rfl (Or.inr rfl) (Z1 (Qo (Ze (show Z0 _ (.builtin "isinstance") (YJ K CR) from WX XA.is) (by rfl) T.isi YU (Qo (pv 3) (Qo (YY (v:=.ref _) rfl XA.m1 rfl) Qs))) (Qo (Ze (show Z0 _ (.builtin "isinstance") (YJ K CR) from WX XA.is) (by rfl) T.isi YU (Qo (pv 3) (Qo (YY (v:=.ref _) rfl XA.m2 rfl) Qs))) (Qo (Ze (show Z0 _ (.builtin "isinstance") (YJ K CR) from WX XA.is) (by rfl) T.isi YU (Qo (pv 3) (Qo (YY (v:=.ref _) rfl XR.m rfl) Qs))) Qs)))))
 (Q5 (SA (i:=2) YZ.nd rfl rfl (NX:=Zaq) (sc:=Qy GZ) (N:=ZaI) (f:=[none,some 4,some 3]) (by decide +kernel) rfl rfl (Sz (C:=CR) (e:=e) rfl rfl T.range (Qo Qx Qs)) (fun _=>(QZ (i:=0) (show(ZaI:Qh).Nodup by decide +kernel) rfl Qa)) (fun _=>ZZ) (fun _=>(Jc (PW.pt (G0 (VX (QG (show IxR _ (rIx K) from QH) (pv 1) (pv 0))) (G8 (VX (Ze (show Z0 _ (.builtin "isinstance") (YJ K CR) from WX XA.is) (by rfl) T.isi YU (Qo (pv 2) (Qo (G6 (v:=.ty "ValueError") rfl T.ValueError P8 rfl) Qs))))))))) (fun _=>(QG (show IxR _ (rIx K) from QH) (Z1 (Qo VI (Qo VI (Qo VI Qs)))) (pv 0))) rfl)
 (QA (Z8 (ZT (WS hu) (pv 2) (Z1 (Qo VI Qs)) (ZA _)) (QA (Z3 (show PE _ _ (tBM K "list" Yc _ _) from VU PySem.F.plainAttrs_list PySem.F.slot_list_append PySem.F.type_list_append VZ (pv 2) (Qo (Rz XA.gt XA.na (pv 3)) Qs)))) Z9))))))
 (QA (QW (pv 2))))),?_⟩
    show Q2 K _ [some (.zow (Zr CH (hG y gs go))),some (.fz (Q9 g)),none,none,none] _
    walk_at"x"
    refine QI (ZK (d:=.none) Gw ?_)
    walk_at"d"
    apply QI
    apply AW (C:=CR) (f := "some") (n:=5) (j:=3) (fun d=>∃S,0<ZX y (QS (msG gs go++[g])) S/\d=Zm (Z6 (msG gs go++[g]) S)) (by decide)
    case hz =>
     intro E' F0 H0 F σ H' x St k;exact CT (F0:=F) (H0:=H') Rv rfl Yv (Qw (Qq rfl) QC) (X_hcome.mk ok hg gk l h) SX (fun F' H'' e dct d hd x' he fl=>k F' H'' e dct d hd x' he fl) (Q0.refl St.sub) St
    case hth =>
     rintro _ e dx q ⟨S',hS',rfl⟩
     dsimp only[List.set,List.replicate];refine QI (Vw (Vk (ds:=[.bool false,.bool false,.bool true]) (QT (Ds rfl rfl XA.kg) (QT (Ds rfl rfl XA.kt) (QT (Ds rfl rfl XA.k1) Z2))) (by show(3:Nat)<=1000;decide)) ?_)
     walk_at"d"
     refine Yt 4 rfl ?_
     walk_at"d"
     have fl:B3 [PyData.str "room"]:=fun d hd=>by rw[Xi.mp hd];exact⟨_,rfl⟩
     refine QI (Vw (r:=.ol [.str "room"]) (C5 3 rfl fl (EvO.cast (WU (xs:=List.range 3) (enc:=fun(k:Nat)=>PyData.int (k:Int)) (h:=fun(k:Nat)=>([.str "guest",.str "time",.str "room"]:Qd).getD k .none) (p:=fun k=>decide (k=2)) ?ei (by decide) ?el) rfl)) ?_)
     case ei=>exact EvI.cast (Eb (i:=3) rfl (Qw Q7 QC) (by rw[z62];decide) (by rw[z62];decide)) rfl
     case el =>
      intro k hk c;have hk:=XF.mp hk;refine⟨_,Zc,?_⟩
      walk_at"e"
      have im:atI [PyData.bool false,.bool false,.bool true] (k:Int)=some (PyData.bool (decide (k=2))):=by
       obtain rfl|rfl|rfl:k=0\/k=1\/k=2:=by omega
       all_goals rfl
      refine⟨Zg.cast (Gx (b:=decide (k=2)) (c:=true) (VB (V6 (Qq rfl) (Qq rfl) im)) (fun _=>VB (Tr rfl rfl XA.k2))) (by rw[Bool.and_true]),fun hc=>?_⟩;have hc:=X0 hc;subst hc;exact V6 (EvO.fz (Vk (ds:=[.str "guest",.str "time",.str "room"]) (QT Yv (QT Yv (QT Yv Z2))) (by show(3:Nat)<=1000;decide))) (Qq rfl) rfl
     walk_at"d"
     have fr:Vs (.list [.str "room"]):=(UG (m:=0) (Ja ⟨by decide +kernel,XM _⟩ B7)).fine (by decide);refine ZC (b:=true) (Cq 2 rfl rfl (Zg.cast (ZS (J9 (a:=.list [.str "room"]) (b:=.list [.str "room"]) (Qq rfl) (EvO.fz (Vk (QT Yv Z2) W2)) fr fr)) (by rw[GO fr]))) (fun _=>?_) (fun c=>nomatch c);refine FX (by decide) rfl rfl fun v=>?_
     walk_at"d"
     exact D6 rfl ⟨v,S',hS',rfl⟩
def Rn (n:Int):Vs (.list [.str "in",.int n]):=(UG (m:=0) (Ja ⟨by decide +kernel,XM _⟩ (Ja (JE _ _) B7))).fine (by decide)
def Fh (gs:List Gs)(k:Nat):rsG gs [] k=(gs.getD k default).want:=by unfold rsG;simp
inductive R_lall:List OT->OT->Prop
 |mk {y:Yd} {gs:List Gs} (ok:y.Ok) (hg:∀x∈gs,G30 y x) (l:gs.length<=8) (h:ZU y gs):R_lall [.fz (Za y),.fz (.list (gs.map Q9))] (.fz (.bool true))
def Kk:Qp ["_law_yard_here","_law_guests","_law_hand","_law_k"] Zag (Qy Ki):=by walk_at"p"
def LE (T:Bl mg) (UH:HandC K CH) (D:Df K mg "_law_all_in" Ki Zag) (Xba:Gn P w K mg base "Hand" CH ZaH 1) (Xa8:QF P w K mg base "_law_come" Zan 9 (Wf K CH R_lcome (X_lcome CH))) (XbN:Zz P w K mg base CH "open_ones" ZaG 5 (Zl K (R_hopen CH))):QF P w K mg base "_law_all_in" Zag 10 (QP (K:=K) R_lall):=by
 refine D.ev Kk (fun ts r h=>by cases h;rfl) (fun _ _ _ _ s H E ts r hr h=>?_);have hu:=hr.units
 cases h with
 |@mk y gs ok hg l h =>
   refine⟨_,(Q5 (QY (i:=2) Kk.nd rfl Qa (Hc Xba hr (Qo (pv 0) Qs)))
 (Q5 (Vx PassesOwn.never rfl (Ya rfl T.range (Qo (Ze ZN (by rfl) T.len ZQ (Qo (pv 1) Qs)) Qs)) (QZ (i:=3) Kk.nd rfl Qa) (QA (Z8 (ZT (NK hu) (QJ Xa8 hr (Qo (pv 2) (Qo (QG QH (pv 1) (pv 3)) Qs))) (Z1 (Qo VI (Qo (pv 3) Qs))) (ZA _)) (QA (QW Y4)) Z9)))
 (QA (QW (GD (WS hu) (DR XbN UH hr (pv 2)) (Wy Ev (by rfl) T.list BE (Qo (Wy Av (by rfl) T.range FQ (Qo (Ze ZN (by rfl) T.len ZQ (Qo (pv 1) Qs)) Qs)) Qs)) (ZA _)))))),?_⟩
   show Q2 K _ [some _,some _,none,none] _
   walk_at"x"
   refine QI (GF (Hk (Qq rfl)) (fun v=>?_))
   walk_at"d"
   have le:∀{ρ:Q1},ρ[1]?=some (some (.fz (.list (gs.map Q9))))->Qt K (tCB (YL K) (QE (Q8 1) QN)) ρ (.int (gs.length:Int)):=fun e=>Qt.cast (YQ (Qq e)) (by rw[Xk]);refine QI (VJ (ds:=ZI 0 gs.length) (fun i ρ'=>∃u3:Option OT,ρ'=[some (.fz (Za y)),some (.fz (.list (gs.map Q9))),some (.own v (QQ CH (hG y (gs.take i) []))),u3]) ?ei ⟨_,rfl⟩ ?st ?fin)
   case ei=>exact EvI.cast (Yn (Qw (le rfl) QC) (by rw[z62];omega) (by rw[z62];omega)) (WD rfl (by omega))
   case st =>
    rintro i d _ hd ⟨u3,rfl⟩
    obtain⟨hi,rfl⟩:=YE hd;refine⟨_,Zc,?_⟩
    walk_at"d"
    rw[Y0];have it:atI (gs.map Q9) (i:Int)=some (Q9 gs[i]):=Va (by simp[hi]);have tl:(gs.take i).length=i:=by rw[Jp];omega
    have tk:gs.take i++[gs[i]]=gs.take (i+1):=by rw[WG,XQ hi];rfl
    have hs:∀S,ZX y (QS (msG (gs.take i) []++[gs[i]])) S<=0:=by
     rw[DB,tk];exact h.sub (List.take_sublist _ _)
    refine A6 (i:=2) rfl (Qw (V6 (Qq rfl) (Qq rfl) it) QC) (R_lcome.mk ok (fun x hx=>hg x (List.mem_of_mem_take hx)) (hg _ (XV hi)) (by omega) hs) ?_
    rintro r N' ⟨rfl,rfl⟩
    rw[tl,tk];exact⟨_,rfl,Rn _,EvO.fz (Vk (QT Yv (QT (Qq rfl) Z2)) YI),by rw[GO (Rn _)];rfl,ZE ⟨_,rfl⟩⟩
   case fin =>
    rintro _ ⟨u3,rfl⟩
    rw[YW,Wc];have fn:Vs (.list (Zm (List.range gs.length))):=R7 _;have ln:(hG y gs []).known.length=gs.length:=by simp[hG]
    have op:((List.range (hG y gs []).known.length).filter fun k => !decide (rsG gs [] k=0))=List.range gs.length:=by
     rw[ln];refine List.filter_eq_self.mpr fun k hk=>?_;have hk:=XF.mp hk
     have:=(hg (gs.getD k default) (by simp[hk])).ok.w1
     rw[Fh];simp only[Bool.not_eq_true',decide_eq_false_iff_not];omega
    refine Vj (DQ (d:=.bool true) 2 rfl rfl (Qt.cast (J9 (a:=.list (Zm (List.range gs.length))) (b:=.list (Zm (List.range gs.length))) (Qt.cast (EvO.fz (Zv.o (JO LK rfl QC (R_hopen.mk (N:=hG y gs []) (rsG gs []) (fun k hk=>Rp (by rw[ln]at hk;exact hk)) (by rw[ln];omega))))) (by rw[op])) (Qt.cast (EvO.fz (RJ (n:=gs.length) (le rfl) rfl (by omega))) rfl) fn fn) (by rw[GO fn]))) rfl
def wdB (b:Bool):PyData:=.str (if b=true then "in" else "room")
def Ga (y:Yd)(gs:List Gs)(k:Nat)(N:HandS)(ds:Qd):Prop := ∃a bs,Run y (gs.take k) a bs/\N=hG y a []/\ds=bs.map wdB
def So {y:Yd}{gs:List Gs}(ok:y.Ok)(hg:∀x∈gs,G30 y x)(l:gs.length<=8)(CH:Addr)(k:Nat)(hk:k<gs.length)(N:HandS)(ds:Qd)(h:Ga y gs k N ds) :
 (∃Ψ,R_lcome N [.fz (Q9 gs[k])] Ψ/\∀r N',Ψ r N'->∃d dd w,r=.ol (d::dd)/\Zx d=some w/\Ga y gs (k+1) N' (ds++[d])) \/
  (∃Φ,X_lcome CH [.zow (Zr CH N),.fz (Q9 gs[k])] Φ/\∀r,Φ r->∃v' d w dd,r=.own v' (lsO d dd)/\Zx d=some w/\Ga y gs (k+1) N (ds++[d])):=by
 obtain⟨a,bs,rn,rfl,rfl⟩:=h;have tk:gs.take (k+1)=gs.take k++[gs[k]]:=by rw[WG,XQ hk];rfl
 have sb:=rn.sub
 have al:a.length<=7:=by
  have:=sb.length_le
  rw[Jp]at this;omega
 have ha:∀x∈a,G30 y x:=fun x hx=>hg x (List.mem_of_mem_take (sb.subset hx));have gk:=hg _ (XV hk)
 by_cases hS:ZU y (a++[gs[k]])
 ·refine .inl ⟨_,R_lcome.mk ok ha gk al (by rw[DB];exact hS),?_⟩
  rintro r N' ⟨rfl,rfl⟩
  exact⟨_,_,_,rfl,rfl,a++[gs[k]],bs++[true],by rw[tk];exact .yes rn hS,rfl,by rw[Xr];rfl⟩
 ·obtain⟨S0,hS0⟩:∃S,0<ZX y (QS (a++[gs[k]])) S:=Classical.byContradiction fun c=>hS fun S=>Int.not_lt.mp fun z=>c ⟨S,z⟩
  refine .inr ⟨_,X_lcome.mk (S:=S0) ok ha gk al (by rw[DB];exact hS0),?_⟩
  rintro r ⟨v',S,_,rfl⟩
  exact⟨_,_,_,_,rfl,rfl,a,bs++[false],by rw[tk];exact .no rn hS,rfl,by rw[Xr];rfl⟩
inductive R_lday:List OT->(OT->Prop)->Prop
 |mk {y:Yd} {gs:List Gs} (ok:y.Ok) (hg:∀x∈gs,G30 y x) (l:gs.length<=8):R_lday [.fz (Za y),.fz (.list (gs.map Q9))] (fun r=>∃a bs,Run y gs a bs/\r=.ol (bs.map wdB))
def PB:Qp ZaS Zag (Qy Mq):=by walk_at"p"
def FA (T:Bl mg) (UH:HandC K CH) (D:Df K mg "_law_whole_day" Mq Zag) (Xba:Gn P w K mg base "Hand" CH ZaH 1) (Xa8:QF P w K mg base "_law_come" Zan 9 (Wf K CH R_lcome (X_lcome CH))):QF P w K mg base "_law_whole_day" Zag 10 (Zl K R_lday):=by
 refine D.evD PB (fun ts r h=>by cases h;rfl) (fun _ _ _ _ s H E ts r hr h=>?_)
 cases h with
 |@mk y gs ok hg l =>
   refine⟨_,(Q5 (QY (i:=2) PB.nd rfl (Or.inr rfl) (Hc Xba hr (Qo (pv 0) Qs)))
 (QA (QW (Yj (NX:=ZaS) (sc:=Qy Mq) (N:=ZaF) (f:=[none,some 2]) rfl (by decide +kernel) rfl rfl (Yy (pv 1)) (fun _=>(QZ (i:=0) (show(ZaF:Qh).Nodup by decide +kernel) rfl Qa)) (fun _=>ZZ) (fun _=>Yx) (fun _=>(QG QH (QJ Xa8 hr (Qo (pv 1) (Qo (pv 0) Qs))) Qx)))))),?_⟩
   show Q2 K _ [some _,some _,none] _
   walk_at"x"
   refine QI (GF (Hk (Qq rfl)) (fun v=>?_))
   walk_at"d"
   refine Ay (xs:=gs) (enc:=Q9) (N0:=hG y [] []) (Ga y gs) _ (YA (Qq rfl)) (by omega) rfl ⟨[],[],.nil,rfl,rfl⟩ (fun _=>rfl) (fun _=>rfl) (fun _=>rfl) (So ok hg l CH) ?_
   rintro N' ds ⟨a,bs,rn,rfl,rfl⟩
   rw[Wc]at rn;exact⟨a,bs,rn,rfl⟩
inductive R_ltim:List OT->OT->Prop
 |mk {y:Yd} {gs:List Gs} {k:Int} (ok:y.Ok) (hb:∀l∈y.ls,∀b∈l.bs,IntMulOk b k) (hg:∀g∈gs,IntMulOk g.want k/\IntMulOk g.most k) (l:gs.length<=8) :
  R_ltim [.fz (Za y),.fz (.list (gs.map Q9)),.fz (.int k)] (.fz (.tuple [Za (Vg y k),.list ((gs.map fun g=>V9 g k).map Q9)]))
def Jm:Qp Zaj Zao (Qy Mj):=by walk_at"p"
def LM (T:Bl mg) (D:Df K mg "_law_times" Mj Zao):QF P w K mg base "_law_times" Zao 1 (QP (K:=K) R_ltim):=by
 refine D.ev Jm (fun ts r h=>by cases h;rfl) (fun _ _ _ _ s H E ts r hr h=>?_)
 cases h with
 |@mk y gs k ok hb hg l =>
   refine⟨_,(Q5 (GN (i:=3) Jm.nd rfl rfl (NX:=Zaj) (sc:=Qy Mj) (N:=Zay) (f:=[none,none,some 2]) rfl (by decide +kernel) rfl rfl (BB (QG QH (pv 0) Qx)) (fun _=>(WT (n:=2) rfl (Vc (QZ (i:=0) (show(Zay:Qh).Nodup by decide +kernel) rfl Qa) (Vc (QZ (i:=1) (show(Zay:Qh).Nodup by decide +kernel) rfl Qa) WC)))) (fun _=>(Dk (n:=2) (UL ZZ (UL ZZ D3)))) (fun _=>Yx) (fun _=>(Y9 (Qo (pv 0) (Qo (Wy BO (by rfl) T.tuple GK (Qo (Yj (NX:=Zay) (sc:=({ kind:=.function,names:=[(".0",.local),("_law_above",.local),("_law_bounds",.local),("tuple",.globalImplicit),("_law_k",.cell)],isGenerator:=false,isCoroutine:=false }:Scope)) (N:=["_law_bound","_law_k"]) (f:=[none,some 2]) rfl (by decide +kernel) rfl rfl (BB (pv 1)) (fun _=>(QZ (i:=0) (show(["_law_bound","_law_k"]:Qh).Nodup by decide +kernel) rfl Qa)) (fun _=>ZZ) (fun _=>Yx) (fun _=>(QO DA (pv 0) (pv 1)))) Qs)) Qs)))) rfl)
 (Q5 (QY (i:=4) Jm.nd rfl Qa (Z1 Qs))
 (Q5 (Vx PassesOwn.never rfl (Yy (pv 1)) (WT (n:=5) rfl (Vc (QZ (i:=5) Jm.nd rfl Qa) (Vc (QZ (i:=6) Jm.nd rfl Qa) (Vc (QZ (i:=7) Jm.nd rfl Qa) (Vc (QZ (i:=8) Jm.nd rfl Qa) (Vc (QZ (i:=9) Jm.nd rfl Qa) WC)))))) (QA (Z3 (VU PySem.F.plainAttrs_list PySem.F.slot_list_append PySem.F.type_list_append VZ (pv 4) (Qo (Y9 (Qo (pv 5) (Qo (pv 6) (Qo (pv 7) (Qo (QO DA (pv 8) (pv 2)) (Qo (QO DA (pv 9) (pv 2)) Qs)))))) Qs)))))
 (QA (QW (Y9 (Qo (Y9 (Qo (QG QH (pv 0) Qx) (Qo (Wy BO (by rfl) T.tuple GK (Qo (pv 3) Qs)) Qs))) (Qo (pv 4) Qs)))))))),?_⟩
   show Q2 K _ [some _,some _,some _,none,none,none,none,none,none,none] _
   walk_at"x"
   have l5:=ok.l5;have t8:=ok.t8;refine QI (Vw (Wh (xs:=y.ls) (enc:=ZL) (h:=fun l=>ZL (Jd l k)) ?ei (by omega) ?el) ?_)
   case ei=>exact Gz (VV (ds:=[PyData.int (y.T:Int),.tuple (y.ls.map ZL)]) (Qq rfl) Q7 rfl)
   case el =>
    intro x hx c;have xl:=ok.bl x hx;refine⟨_,Wg (ds:=[upD x.up,.tuple (x.bs.map PyData.int)]) (ZR Zc (ZR Zc Wp)) rfl,?_⟩
    walk_at"e"
    refine Qt.cast (Yw (ds:=[upD x.up,.tuple (x.bs.map fun b=>.int (b*k))]) (QT (Qq rfl) (QT (Dx (EvO.fz (Wh (xs:=x.bs) (enc:=PyData.int) (h:=fun b=>.int (b*k)) ?ei2 (by omega) ?el2))) Z2)) YI) ?_
    case ei2=>exact Gz (Qq rfl)
    case el2 =>
     intro b hb' c';refine⟨_,Zc,?_⟩
     walk_at"e"
     exact Z4 (Qq rfl) (Qq rfl) (hb x hx b hb')
    unfold ZL Jd;rw[XY];rfl
   walk_at"d"
   refine Yt 3 rfl ?_
   walk_at"d"
   refine QI (Vw (Vk (ds:=[]) Z2 (by decide)) ?_)
   walk_at"d"
   refine QI (VJ (ds:=gs.map Q9) (fun i ρ'=>∃u5 u6 u7 u8 u9:Option OT,ρ'=[some (.fz (Za y)),some (.fz (.list (gs.map Q9))),some (.fz (.int k)),some (.fz (.list (y.ls.map fun l=>ZL (Jd l k)))),some (.ol (((gs.take i).map fun g=>V9 g k).map Q9)),u5,u6,u7,u8,u9]) (YA (Qq rfl)) ⟨_,_,_,_,_,rfl⟩ ?st ?fin)
   case st =>
    rintro i d _ hd ⟨u5,u6,u7,u8,u9,rfl⟩
    have hi:i<gs.length:=by
     have:=(Xh.mp hd).1
     simpa using this
    obtain rfl:d=Q9 gs[i]:=by simpa [hi] using hd.symm
    obtain⟨m1,m2⟩:=hg _ (XV hi);refine⟨_,Wg (ds:=[.int (gs[i].line:Int),.int (gs[i].first:Int),.int (gs[i].last:Int),.int gs[i].want,.int gs[i].most]) (ZR Zc (ZR Zc (ZR Zc (ZR Zc (ZR Zc Wp))))) rfl,?_⟩
    walk_at"d"
    refine JN rfl (Yw (ds:=[.int (gs[i].line:Int),.int (gs[i].first:Int),.int (gs[i].last:Int),.int (gs[i].want*k),.int (gs[i].most*k)]) (QT (Qq rfl) (QT (Qq rfl) (QT (Qq rfl) (QT (Z4 (Qq rfl) (Qq rfl) m1) (QT (Z4 (Qq rfl) (Qq rfl) m2) Z2))))) (by show(5:Nat)<=1000;decide)) (by simp;omega) ?_;have tk:gs.take (i+1)=gs.take i++[gs[i]]:=by rw[WG,XQ hi];rfl
    rw[tk,Xr,Xr];exact⟨_,_,_,_,_,rfl⟩
   case fin =>
    rintro _ ⟨u5,u6,u7,u8,u9,rfl⟩
    rw[Xk,Wc];refine Yt 4 rfl ?_
    walk_at"d"
    refine Vj (Yw (ds:=[Za (Vg y k),.list ((gs.map fun g=>V9 g k).map Q9)]) (QT (Qt.cast (Yw (ds:=[.int (y.T:Int),.tuple (y.ls.map fun l=>ZL (Jd l k))]) (QT (VV (ds:=[PyData.int (y.T:Int),.tuple (y.ls.map ZL)]) (Qq rfl) Q7 rfl) (QT (Dx (Qq rfl)) Z2)) YI) ?_) (QT (Qq rfl) Z2)) YI) rfl;unfold Za Vg;rw[XY];rfl
inductive R_lsh:List OT->OT->Prop
 |mk {y:Yd} {gs:List Gs} {sm:Qk} (ok:y.Ok) (hg:∀g∈gs,g.Ok y) (hs:SetOk gs sm):R_lsh [.fz (Za y),.fz (.list (gs.map eRw)),.fz (.list (Zm sm)),.fz (.int 0)] (.fz (.int (JJ y gs sm)))
def Mm:Qp Zau Zai (Qy Mh):=by walk_at"p"
def Tp (T:Bl mg) (D:Df K mg "_law_short" Mh Zai) (XbO:QF P w K mg base "_law_passes" Zah 1 (QP (K:=K) R_lpass)):QF P w K mg base "_law_short" Zai 2 (QP (K:=K) R_lsh):=by
 refine D.ev Mm (fun ts r h=>by cases h;rfl) (fun _ _ _ _ s H E ts r hr h=>?_)
 cases h with
 |@mk y gs sm ok hg hs =>
   refine⟨_,(Q5 (QY (i:=4) Mm.nd rfl Qa (Ze Du (by rfl) T.sum Dr (Qo (Yj (NX:=Zau) (sc:=Qy Mh) (N:=["_law_number","_law_rows"]) (f:=[none,some 1]) rfl (by decide +kernel) rfl rfl (Yy (pv 2)) (fun _=>(QZ (i:=0) (show(["_law_number","_law_rows"]:Qh).Nodup by decide +kernel) rfl Qa)) (fun _=>ZZ) (fun _=>Yx) (fun _=>(QG QH (QG QH (pv 1) (pv 0)) Qx))) Qs)))
 (Q5 (Vx PassesOwn.never rfl (SL rfl T.range (Qo (pv 3) (Qo (QG QH (pv 0) Qx) Qs))) (QZ (i:=5) Mm.nd rfl Qa) (QA (QY (i:=4) Mm.nd rfl Qa (QO YS (pv 4) (QJ XbO hr (Qo (pv 0) (Qo (pv 1) (Qo (pv 2) (Qo (pv 5) Qs)))))))))
 (QA (QW (pv 4))))),?_⟩
   show Q2 K _ [some _,some _,some _,some _,none,none] _
   walk_at"x"
   have sl:=hs.len;have t8:=ok.t8;refine QI (ZK (d:=.int (YD gs sm)) (Bx (ns:=sm.map fun k=>(gs.getD k default).want) (Qt.cast (EvO.fz (Wh (xs:=sm) (enc:=fun(k:Nat)=>PyData.int (k:Int)) (h:=fun k=>.int (gs.getD k default).want) ?ei (by omega) ?el)) (by rw[XY];rfl)) rfl) ?_)
   case ei=>exact YA (Qq rfl)
   case el =>
    intro k hk c;have hk':=hs.mem k hk;refine⟨_,Zc,?_⟩
    walk_at"e"
    have it:atI (gs.map eRw) (k:Int)=some (eRw (gs.getD k default)):=Va (by simp[hk']);exact V6 (ds:=[.int ((gs.getD k default).line:Int),.int ((gs.getD k default).first:Int),.int ((gs.getD k default).last:Int),.int (gs.getD k default).want,.int (gs.getD k default).most]) (V6 (Qq rfl) (Qq rfl) it) Q7 rfl
   walk_at"d"
   refine QI (BL (ds:=ZI 0 y.T) (fun i=>[some (.fz (Za y)),some (.fz (.list (gs.map eRw))),some (.fz (.list (Zm sm))),some (.fz (.int 0)),some (.fz (.int (YD gs sm-Gp (fun t=>Yg y gs sm t) i))),none]) ?ei2 ⟨rfl,rfl,rfl,rfl,?e0,trivial⟩ ?st2 ?fin2)
   case ei2=>exact EvI.cast (DL (Qw (Qq rfl) (Qw (VV (ds:=[PyData.int (y.T:Int),.tuple (y.ls.map ZL)]) (Qq rfl) Q7 rfl) QC)) (by rw[z62];omega)) (WD rfl (by omega))
   case e0=>simp[Gp]
   case st2 =>
    intro i d hd;obtain⟨hi,rfl⟩:=YE hd;refine⟨_,Zc,?_⟩
    walk_at"d"
    rw[Y0];refine ZK (Z5 (Qq rfl) (Zd (Qw (Qq rfl) (Qw (Qq rfl) (Qw (Qq rfl) (Qw (Qq rfl) QC)))) (R_lpass.mk ok hg hs hi))) ⟨rfl,rfl,rfl,rfl,?_,trivial⟩;rw[El];exact X5 (fun z=>some (OT.fz (.int z))) (by omega)
   case fin2 =>
    intro ρ' hf;refine B4 hf ?_;rw[YW];exact Vj (Qq rfl) rfl
theorem Ry (S:Qm):∀n,∃i,i<2^n/\∀k,k<n->decide (i/2^k%2=1)=S k
 |0=>⟨0,by simp,fun k h=>Xl h (by omega)⟩
 |n+1=>by
   obtain⟨i,hi,h⟩:=Ry S n;have p2:2^(n+1)=2^n*2:=Nat.pow_succ 2 n;have pp:0<2^n:=Nat.two_pow_pos n
   cases s:S n with
   |false =>
     refine⟨i,by omega,fun k hk=>?_⟩
     by_cases z:k<n
     ·exact h k z
     ·have:k=n:=by omega
      subst this;rw[Nat.div_eq_of_lt hi,s];rfl
   |true =>
     refine⟨i+2^n,by omega,fun k hk=>?_⟩
     by_cases z:k<n
     ·rw[<- h k z]
      have e:2^n=2^k*(2*2^(n-k-1)):=by
       rw[<- Nat.mul_assoc,<- Nat.pow_succ,<- Nat.pow_add];congr 1;omega
      rw[e,Nat.add_mul_div_left _ _ (Nat.two_pow_pos k),Nat.add_mul_mod_self_left]
     ·have:k=n:=by omega
      subst this;rw[Nat.add_div_right _ pp,Nat.div_eq_of_lt hi,s];rfl
def W7 (i k:Nat):Bool:=decide (i/2^k%2=1)
def EJ {ms:List Gs}{i:Nat}{S:Qm}(h:∀k,k<ms.length->W7 i k=S k):Z6 ms (W7 i)=Z6 ms S:=List.filter_congr fun k hk=>h k (XF.mp hk)
inductive R_lkept:List OT->(OT->Prop)->Prop
 |mk {y:Yd} {ms:List Gs} (ok:y.Ok) (hg:∀g∈ms,g.Ok y) (m8:ms.length<=8):R_lkept [.fz (Za y),.fz (.list (ms.map eRw)),.fz (.int 0)] (fun r=>∃b:Bool,r=.fz (.bool b)/\(b=true↔ZU y ms))
def Mp:Qp Zak Zap (Qy Bb):=by walk_at"p"
def C2 (T:Bl mg) (D:Df K mg "_law_all_kept" Bb Zap) (XbP:QF P w K mg base "_law_short" Zai 2 (QP (K:=K) R_lsh)):QF P w K mg base "_law_all_kept" Zap 3 (Zl K R_lkept):=by
 refine D.evD Mp (fun ts r h=>by cases h;rfl) (fun _ _ _ _ s H E ts r hr h=>?_)
 cases h with
 |@mk y ms ok hg m8 =>
   refine⟨_,(Q5 (QY (i:=3) Mp.nd rfl (Or.inr rfl) (Yj (NX:=Zak) (sc:=Qy Bb) (N:=["_law_k","_law_rows"]) (f:=[none,some 1]) rfl (by decide +kernel) rfl rfl (Ya rfl T.range (Qo (Ze ZN (by rfl) T.len ZQ (Qo (pv 1) Qs)) Qs)) (fun _=>(QZ (i:=0) (show(["_law_k","_law_rows"]:Qh).Nodup by decide +kernel) rfl Qa)) (fun _=>ZZ) (fun _=>(Jc (ZT Wi (QG QH (QG QH (pv 1) (pv 0)) Qx) Qx (ZA _)))) (fun _=>(pv 0))))
 (Q5 (Vx PassesOwn.never rfl (Ya rfl T.range (Qo (QO Fb Qx (Ze ZN (by rfl) T.len ZQ (Qo (pv 3) Qs))) Qs)) (QZ (i:=4) Mp.nd rfl (Or.inr rfl)) (Q5 (GN (i:=5) Mp.nd rfl rfl (NX:=Zak) (sc:=Qy Bb) (N:=["_law_k","_law_numbers","_law_bits"]) (f:=[none,some 3,some 4]) rfl (by decide +kernel) rfl rfl (Ya rfl T.range (Qo (Ze ZN (by rfl) T.len ZQ (Qo (pv 3) Qs)) Qs)) (fun _=>(QZ (i:=0) (show(["_law_k","_law_numbers","_law_bits"]:Qh).Nodup by decide +kernel) rfl Qa)) (fun _=>ZZ) (fun _=>(Jc (ZT Gk (QO Wm (QO Tt (pv 2) (pv 0)) Qx) Qx (ZA _)))) (fun _=>(QG QH (pv 1) (pv 0))) rfl)
 (QA (Z8 (ZT Wi (QJ XbP hr (Qo (pv 0) (Qo (pv 1) (Qo (pv 5) (Qo (pv 2) Qs))))) Qx (ZA _)) (QA (QW Y4)) Z9))))
 (QA (QW Y4)))),?_⟩
   show Q2 K _ [some _,some _,some _,none,none,none] _
   walk_at"x"
   have so:∀i,SetOk ms (Z6 ms (W7 i)):=fun i=>DX m8 _;refine QI (Vw (r:=.ol (Zm (List.range ms.length))) (EvO.cast (WU (xs:=List.range ms.length) (enc:=fun(k:Nat)=>PyData.int (k:Int)) (h:=fun(k:Nat)=>PyData.int (k:Int)) (p:=fun _=>true) ?ei1 (by rw[WI];omega) ?el1) (by rw[List.filter_eq_self.mpr fun _ _=>rfl];rfl)) ?_)
   case ei1 =>
    refine EvI.cast (Yn (Qw (Qt.cast (YQ (Qq rfl)) (show _=PyData.int (ms.length:Int) by rw[Xk])) QC) (by rw[z62];omega) (by rw[z62];omega)) ?_;rw[Xz];unfold ZI;exact X7 fun i _=>by rw[Y0]
   case el1 =>
    intro k hk c;have hk:=XF.mp hk;have gw:=(hg (ms.getD k default) (by simp[hk])).w1;have it:atI (ms.map eRw) (k:Int)=some (eRw (ms.getD k default)):=Va (by simp[hk]);refine⟨_,Zc,?_⟩
    walk_at"e"
    refine⟨Zg.cast (ZS (Yu (V6 (ds:=[.int ((ms.getD k default).line:Int),.int ((ms.getD k default).first:Int),.int ((ms.getD k default).last:Int),.int (ms.getD k default).want,.int (ms.getD k default).most]) (V6 (Qq rfl) (Qq rfl) it) Q7 rfl) Q7)) (XW (by omega)),fun _=>Qq rfl⟩
   walk_at"d"
   refine Yt 3 rfl ?_
   walk_at"d"
   generalize hm:ms.length=m at m8;have ln:∀{ρ:Q1},ρ[3]?=some (some (.fz (.list (Zm (List.range m)))))->Qt K (tCB (YL K) (QE (Q8 3) QN)) ρ (.int (m:Int)):=fun e=>Qt.cast (YQ (Qq e)) (by unfold Zm;rw[Xk,WI])
   have cs:KI 1 (m:Int):=⟨by omega,by
    have:(Builtin.Int.intBits 1:Int)=1:=by decide
    rw[this];have:(2:Int)^27=134217728:=by decide
    omega⟩
   have p7:2^m<=2^8:=Nat.pow_le_pow_right (by decide) m8
   have e2:(1:Int)*2^(m:Int).toNat=((2^m:Nat):Int):=by
    rw[Int.one_mul,Xz,Int.natCast_pow];rfl
   have p8:2^m<=256:=p7;clear p7;generalize hq:2^m=q at p8 e2;refine QI (VJ (ds:=ZI 0 q) (fun i ρ'=>(∀j,j<i->JJ y ms (Z6 ms (W7 j))<=0)/\∃u4 u5:Option OT,ρ'=[some (.fz (Za y)),some (.fz (.list (ms.map eRw))),some (.fz (.int 0)),some (.fz (.list (Zm (List.range m)))),u4,u5]) ?ei ⟨fun j hj=>Xl hj (by omega),_,_,rfl⟩ ?st ?fin)
   case ei =>
    refine EvI.cast (Yn (Qw (Qt.cast (Z4 Q7 (ln rfl) cs) (show _=PyData.int (q:Int) by rw[e2])) QC) (by rw[z62];omega) (by rw[z62];omega)) (WD rfl (by omega))
   case st =>
    rintro i d _ hd ⟨hj,u4,u5,rfl⟩
    obtain⟨hi,rfl⟩:=YE hd;refine⟨_,Zc,?_⟩
    walk_at"d"
    rw[Y0];refine QI (Vw (r:=.ol (Zm (Z6 ms (W7 i)))) (EvO.cast (WU (xs:=List.range m) (enc:=fun(k:Nat)=>PyData.int (k:Int)) (h:=fun(k:Nat)=>PyData.int (k:Int)) (p:=W7 i) ?ei2 (by rw[WI];omega) ?el2) (by unfold Z6 Zm;rw[hm])) ?_)
    case ei2 =>
     refine EvI.cast (Yn (Qw (ln rfl) QC) (by rw[z62];omega) (by rw[z62];omega)) ?_;rw[Xz];unfold ZI;exact X7 fun i _=>by rw[Y0]
    case el2 =>
     intro k hk c;have hk:=XF.mp hk;refine⟨_,Zc,?_⟩
     walk_at"e"
     refine⟨Zg.cast (ZS (U3 (Z4 (Z4 (Qq rfl) (Qq rfl) (by omega)) Q7 (by decide)) Q7)) ?_,fun _=>V6 (Qq rfl) (Qq rfl) (Va (by unfold Zm;simp[hk]))⟩
     rw[Xz];unfold W7;have e3:((i:Int)/2^k%2)=((i/2^k%2:Nat):Int):=by
      rw[Int.natCast_emod,Int.natCast_ediv,Int.natCast_pow];rfl
     rw[e3];exact decide_eq_decide.mpr ⟨fun z=>by omega,fun z=>by omega⟩
    walk_at"d"
    refine Yt 5 rfl ?_
    walk_at"d"
    refine ZC (b:=decide (JJ y ms (Z6 ms (W7 i)) > 0)) (Zg.cast (ZS (Yu (Zd (Qw (Qq rfl) (Qw (Qq rfl) (Qw (Qq rfl) (Qw (Qq rfl) QC)))) (R_lsh.mk ok hg (so i))) Q7)) rfl) (fun c=>?_) (fun c=>ZE ⟨fun j h=>?_,_,_,rfl⟩)
    ·have c:=X0 c
     refine Vj Gj ⟨false,rfl,fun z=>(nomatch z),fun z=>?_⟩;have h1:=z (W7 i);rw[UK]at h1;unfold JJ at c;omega
    ·have c:=Ug c
     by_cases z:j<i
     ·exact hj j z
     ·have:j=i:=by omega
      subst this;omega
   case fin =>
    rintro _ ⟨hj,u4,u5,rfl⟩
    rw[YW]at hj;refine Vj Gj ⟨true,rfl,fun _ S=>?_,fun _=>rfl⟩;obtain⟨i,hi,hb⟩:=Ry S m;have h1:=hj i (by rw[<- hq];exact hi);rw[EJ (by rw[hm];exact hb)]at h1;rw[UK];exact h1
def T2:∀n:Nat,n<=8->Bu none none (some (-1)) n=(List.range n).reverse:=by decide +kernel
theorem NV {α:Type}:∀xs:List α,((List.range xs.length).filterMap fun i=>xs[i]?)=xs
 |[]=>rfl
 |x::xs=>by
   rw[XJ,List.range_succ_eq_map,Mu];simp only[List.getElem?_cons_zero,List.filterMap_map];have:=NV xs
   simpa [Function.comp_def] using this
def CM {α:Type}(xs:List α)(h:xs.length<=8):Yi xs none none (some (-1))=xs.reverse:=by
 unfold Yi;rw[T2 _ h,List.filterMap_reverse,NV]
def N7 (b:Bool) (s:Str) (hs:s = "in" \/ s = "room"):PyData.eqv (wdB b) (.str s)=(b==decide (s = "in")):=by
 rcases hs with rfl|rfl<;>cases b<;>decide +kernel
def Ng (b:Bool):VD 0 (wdB b):=by cases b<;>exact⟨by decide +kernel,XM _⟩
def R0 (b:Bool):Vs (wdB b):=(Ng b).fine (by decide)
def NL (s:Str) (hs:s = "in" \/ s = "room"):Vs (.str s):=by rcases hs with rfl|rfl<;>exact⟨by decide +kernel,XM _⟩
def DN (bs:List Bool):Vs (.list (bs.map wdB)):=(UG (m:=0) fun d hd=>by
 obtain⟨b,_,rfl⟩:=XT.mp hd;exact Ng b).fine (by decide)
theorem C8 {α:Type}{e:α->PyData}:∀xs:List α,PyData.eqv (.list (xs.map e)) (.list [])=xs.isEmpty
 |[]=>rfl
 |_::_=>rfl
def Ye:Qp Zaa ZaZ (Qy VS):=by walk_at"p"
def Tn {f:Addr} {fd:FuncData} (T:Bl mg) (UH:HandC K CH) (F:Fun K "law" "law" VS f fd) (Xbf:QF P w K mg base "_law_cell_at" ZaB 1 (QP (K:=K) R_cell)) (Xbx:QF P w K mg base "_law_feed" Zba 1 (Zl K R_feed)) (XbQ:QF P w K mg base "_law_yard" ZaV 2 (spP K olP R_dyard)) (XbR:QF P w K mg base "_law_guest" Zal 2 (spP K olP R_dguest)) (Xba:Gn P w K mg base "Hand" CH ZaH 1)
 (Xa8:QF P w K mg base "_law_come" Zan 9 (Wf K CH R_lcome (X_lcome CH))) (Xbm:QF P w K mg base "_law_all_in" Zag 10 (QP (K:=K) R_lall)) (XbS:QF P w K mg base "_law_times" Zao 1 (QP (K:=K) R_ltim)) (XbT:QF P w K mg base "_law_whole_day" Zag 10 (Zl K R_lday)) (XbU:Zz P w K mg base CH "leave" Zac 4 (spP K (QQ CH) R_hleave)) (XbV:QF P w K mg base "_law_all_kept" Zap 3 (Zl K R_lkept)) :
 FnOk P w K mg base CX0 11 f fd ZaZ (B5 K):=by
 refine F.evLaw Ye (fun cdv A outer s H E ns hr hl hb=>?_);have hu:=hr.units;refine⟨_,(Q5 (QY (i:=1) Ye.nd rfl Qa (QJ XbQ hr (Qo (QJ Xbx hr (Qo (QJ Xbf hr (Qo (pv 0) (Qo Qx Qs))) Qs)) Qs)))
 (Q5 (QY (i:=2) Ye.nd rfl (Or.inr rfl) (Z1 Qs))
 (Q5 (Vx PassesOwn.never rfl (Ya rfl T.range (Qo (QO Vh Qx (QO Wm (QJ Xbf hr (Qo (pv 0) (Qo Qx Qs))) Qx)) Qs)) (QZ (i:=3) Ye.nd rfl Qa) (QA (Z3 (VU PySem.F.plainAttrs_list PySem.F.slot_list_append PySem.F.type_list_append VZ (pv 2) (Qo (QJ XbR hr (Qo (QJ Xbx hr (Qo (QJ Xbf hr (Qo (pv 0) (Qo (QO Vh Qx (pv 3)) Qs))) Qs)) (Qo (pv 1) (Qo Qx Qs)))) Qs)))))
 (Q5 (QY (i:=4) Ye.nd rfl (Or.inr rfl) (Hc Xba hr (Qo (pv 1) Qs)))
 (Q5 (QY (i:=5) Ye.nd rfl (Or.inr rfl) (Yj (NX:=Zaa) (sc:=Qy VS) (N:=ZaF) (f:=[none,some 4]) rfl (by decide +kernel) rfl rfl (Yy (pv 2)) (fun _=>(QZ (i:=0) (show(ZaF:Qh).Nodup by decide +kernel) rfl Qa)) (fun _=>ZZ) (fun _=>Yx) (fun _=>(QG QH (QJ Xa8 hr (Qo (pv 1) (Qo (pv 0) Qs))) Qx))))
 (Q5 (GN (i:=6) Ye.nd rfl rfl (NX:=Zaa) (sc:=Qy VS) (N:=ZaA) (f:=[none,some 2,some 5]) rfl (by decide +kernel) rfl rfl (Ya rfl T.range (Qo (Ze ZN (by rfl) T.len ZQ (Qo (pv 2) Qs)) Qs)) (fun _=>(QZ (i:=0) (show(ZaA:Qh).Nodup by decide +kernel) rfl Qa)) (fun _=>ZZ) (fun _=>(Jc (ZT (WS hu) (QG QH (pv 2) (pv 0)) VI (ZA _)))) (fun _=>(QG QH (pv 1) (pv 0))) rfl)
 (Q5 (GN (i:=7) Ye.nd rfl rfl (NX:=Zaa) (sc:=Qy VS) (N:=ZaA) (f:=[none,some 2,some 5]) rfl (by decide +kernel) rfl rfl (Ya rfl T.range (Qo (Ze ZN (by rfl) T.len ZQ (Qo (pv 2) Qs)) Qs)) (fun _=>(QZ (i:=0) (show(ZaA:Qh).Nodup by decide +kernel) rfl Qa)) (fun _=>ZZ) (fun _=>(Jc (ZT (WS hu) (QG QH (pv 2) (pv 0)) VI (ZA _)))) (fun _=>(QG QH (pv 1) (pv 0))) rfl)
 (Q5 (QY (i:=8) Ye.nd rfl Qa (QO Wm (QO JM (QJ Xbf hr (Qo (pv 0) (Qo Qx Qs))) Qx) (QO Vh (Ze ZN (by rfl) T.len ZQ (Qo (pv 6) Qs)) Qx)))
 (Q5 (Z8 (PW.pt (MO (ZT J1 (QO Vh (Ze ZN (by rfl) T.len ZQ (Qo (pv 6) Qs)) (Ze ZN (by rfl) T.len ZQ (Qo (pv 7) Qs))) (Ze ZN (by rfl) T.len ZQ (Qo (pv 2) Qs)) (ZA _)) (MY (Wo (VX (QJ Xbm hr (Qo (pv 1) (Qo (pv 6) Qs)))))))) (QA (QW Y4)) Z9)
 (Q5 (Z8 (PW.pt (MO (Wo (VX (QJ Xbm hr (Qo (pv 1) (Qo (A7 (pv 6) UE UE (G9 (Br B9 Qx))) Qs))))) (MY (Wo (VX (QJ Xbm hr (Qo (pv 1) (Qo (QO U8 (BP BK (pv 6) (G9 (pv 8)) UE) (BP BK (pv 6) UE (G9 (pv 8)))) Qs)))))))) (QA (QW Y4)) Z9)
 (Q5 (QY (i:=9) Ye.nd rfl Qa (Ze DI (by rfl) T.max JD (Qo (Yj (NX:=Zaa) (sc:=Qy VS) (N:=ZaY) (f:=[none]) rfl (by decide +kernel) rfl rfl (Yy (pv 2)) (fun _=>(QZ (i:=0) (show(ZaY:Qh).Nodup by decide +kernel) rfl Qa)) (fun _=>ZZ) (fun _=>Yx) (fun _=>(QO Vh (QG QH (pv 0) Qx) (QG QH (pv 0) Qx)))) Qs)))
 (Q5 (QY (i:=9) Ye.nd rfl Qa (Ze DI (by rfl) T.max JD (Qo (QO U8 (Z1 (Qo (pv 9) Qs)) (Yj (NX:=Zaa) (sc:=Qy VS) (N:=Zaw) (f:=[none,none]) rfl (by decide +kernel) rfl rfl (BB (QG QH (pv 1) Qx)) (fun _=>(WT (n:=2) rfl (Vc (QZ (i:=0) (show(Zaw:Qh).Nodup by decide +kernel) rfl Qa) (Vc (QZ (i:=1) (show(Zaw:Qh).Nodup by decide +kernel) rfl Qa) WC)))) (fun _=>(Dk (n:=2) (UL ZZ (UL ZZ D3)))) (fun _=>Yx) (fun _=>(Ze RC (by rfl) T.max JD (Qo (pv 1) Qs))))) Qs)))
 (Q5 (QY (i:=10) Ye.nd rfl Qa (QO Vh Qx (QO Wm (QO JM (QJ Xbf hr (Qo (pv 0) (Qo Qx Qs))) Qx) (Ze (Nz rfl) (by rfl) T.max JD (Qo Qx (Qo (QO JM (QO YS (QO BC Qx Qx) Qx) (QO Vh (pv 9) Qx)) Qs))))))
 (Q5 (W8 (QJ XbS hr (Qo (pv 1) (Qo (pv 2) (Qo (pv 10) Qs)))) (WT (n:=2) rfl (Vc (QZ (i:=11) Ye.nd rfl Qa) (Vc (QZ (i:=12) Ye.nd rfl Qa) WC))))
 (Q5 (Z8 (ZT (NK hu) (QJ XbT hr (Qo (pv 11) (Qo (pv 12) Qs))) (pv 5) (ZA _)) (QA (QW Y4)) Z9)
 (Q5 (Z8 (PW.pt (MO (ZT Gk (pv 8) (Ze ZN (by rfl) T.len ZQ (Qo (pv 6) Qs)) (ZA _)) (MY (ZT (WS hu) (pv 7) (Z1 Qs) (ZA _))))) (QA (QW Y4)) Z9)
 (Q5 (Z3 (JK XbU UH hr (pv 4) (Qo (pv 8) Qs)))
 (Q5 (QY (i:=13) Ye.nd rfl Qa (QO U8 (Yj (NX:=Zaa) (sc:=Qy VS) (N:=ZaY) (f:=[none]) rfl (by decide +kernel) rfl rfl (Yy (QO U8 (BP BK (pv 6) UE (G9 (pv 8))) (BP BK (pv 6) (G9 (QO Vh (pv 8) Qx)) UE))) (fun _=>(QZ (i:=0) (show(ZaY:Qh).Nodup by decide +kernel) rfl Qa)) (fun _=>ZZ) (fun _=>Yx) (fun _=>(Wy D9 (by rfl) T.list BE (Qo (pv 0) Qs)))) (Z1 (Qo (Wy D9 (by rfl) T.list BE (Qo (QG QH (pv 7) Qx) Qs)) Qs))))
 (QA (QW (GD (WS hu) (GD (WS hu) (QG QH (QJ Xa8 hr (Qo (pv 4) (Qo (QG QH (pv 7) Qx) Qs))) Qx) VI (ZA _)) (QJ XbV hr (Qo (pv 1) (Qo (pv 13) (Qo Qx Qs)))) (ZA _)))))))))))))))))))))),?_⟩
 show Q2 K _ [some _,none,none,none,none,none,none,none,none,none,none,none,none,none] _
 walk_at"x"
 refine QI (UF (Pu (Φ:=fun r=>∃y:Yd,y.Ok/\KC y/\r=.fz (Za y)) (Jb (Qw (Zd (U4 rfl (Qw Q7 QC)) (R_cell.mk (by decide))) QC) R_feed.mk) QC (fun r hr'=>?_)) (fun r hr'=>?_))
 ·obtain⟨a,b,rfl⟩:=hr'
  exact⟨_,_,rfl,R_dyard.mk,fun r ds' z=>z⟩
 obtain⟨y,ok,bd,rfl⟩:=hr'
 walk_at"d"
 have t1:=ok.t1;have l1:=ok.l1;have l5:=ok.l5;refine QI (Vw (Vk (ds:=[]) Z2 (by decide)) ?_)
 walk_at"d"
 have n0:0<=V5 ns 1%8/\V5 ns 1%8<8:=by omega
 refine QI (VJ (ds:=ZI 0 (1+V5 ns 1%8).toNat) (fun i ρ'=>∃(gs:List Gs) (u3:Option OT),gs.length=i/\(∀g∈gs,G30 y g)/\ρ'=[some (.scr ns),some (.fz (Za y)),some (.ol (gs.map Q9)),u3,none,none,none,none,none,none,none,none,none,none]) ?ei ⟨[],_,rfl,(fun g hg=>nomatch hg),rfl⟩ ?st ?fin)
 case ei=>exact Yn (Qw (Z5 Q7 (Z4 (Zd (U4 rfl (Qw Q7 QC)) (R_cell.mk (by decide))) Q7 (by decide))) QC) (by rw[z62];omega) (by rw[z62];omega)
 case st =>
  rintro i d _ hd ⟨gs,u3,gl,hg,rfl⟩
  obtain⟨hi,rfl⟩:=YE hd;have hi:i<(1+V5 ns 1%8).toNat:=hi;refine⟨_,Zc,?_⟩
  walk_at"d"
  rw[Y0];refine Fc rfl (Pu (Φ:=fun r=>∃g:Gs,G30 y g/\r=.fz (Q9 g)) (Jb (Qw (Zd (U4 rfl (Qw (Z5 Q7 (Qq rfl)) QC)) (R_cell.mk (by omega))) QC) R_feed.mk) (Qw (Qq rfl) (Qw Q7 QC)) (fun r hr'=>?_)) (by rw[Xk];omega) (fun r hr'=>?_)
  ·obtain⟨a,b,rfl⟩:=hr'
   exact⟨_,_,rfl,R_dguest.mk ok,fun r ds' z=>z⟩
  obtain⟨g,gk,rfl⟩:=hr';refine⟨_,rfl,gs++[g],_,by rw[Xm];show gs.length+1=_;omega,fun x hx=>?_,by rw[Xr];rfl⟩
  rcases XG.mp hx with hx|hx
  ·exact hg x hx
  ·rw[Xi.mp hx];exact gk
 case fin =>
  rintro _ ⟨gs,u3,gl,hg,rfl⟩
  rw[YW]at gl;have g1:1<=gs.length:=by omega
  have g8:gs.length<=8:=by omega
  clear gl n0;refine Yt 2 rfl ?_
  walk_at"d"
  refine QI (GF (Hk (Qq rfl)) (fun v=>?_))
  walk_at"d"
  refine QI (Ap (i:=4) (xs:=gs) (enc:=Q9) (N0:=hG y [] []) (Ga y gs) _ (YA (Qq rfl)) (by omega) rfl ⟨[],[],.nil,rfl,rfl⟩ (fun _=>rfl) (fun _=>rfl) (fun _=>rfl) (So ok hg g8 CH) ?_)
  rintro N' ds ⟨a,bs,rn,rfl,rfl⟩
  rw[Wc]at rn;walk_at"d"
  refine Yt 5 rfl ?_
  walk_at"d"
  have bl:=rn.len;have ol:=rn.outs;have asb:=rn.sub;have af:=rn.fits ok;have ain:=rn.ins;have aG:∀x∈a,G30 y x:=fun x hx=>hg x (asb.subset hx);have a8:a.length<=8:=by have:=asb.length_le;omega
  generalize ho:((List.range gs.length).filter fun k=>bAt bs k==false)=om at ol;have oL:∀k∈om,k<gs.length:=fun k hk=>by rw[<- ho]at hk;exact XF.mp (Ud.mp hk).1
  have le:∀{ρ:Q1},ρ[2]?=some (some (.fz (.list (gs.map Q9))))->Qt K (tCB (YL K) (QE (Q8 2) QN)) ρ (.int (gs.length:Int)):=fun e=>Qt.cast (YQ (Qq e)) (by rw[Xk])
  have rngE:∀{ρ:Q1},ρ[2]?=some (some (.fz (.list (gs.map Q9))))->EvI K _ ρ ((List.range gs.length).map fun(k:Nat)=>PyData.int (k:Int)):=fun{ρ} e=>by
   refine EvI.cast (Yn (Qw (le e) QC) (by rw[z62];omega) (by rw[z62];omega)) ?_;rw[Xz];unfold ZI;exact X7 fun i _=>by rw[Y0]
  have tst:∀{ρ:Q1} (k:Nat) (s:Str) (hs:s = "in" \/ s = "room"),k<gs.length->ρ[2]?=some (some (.fz (.list (bs.map wdB))))->ρ[0]?=some (some (.fz (.int (k:Int))))->Zg K (Gm (tOp Ge (tOp (rIx K) (Q8 2) (Q8 0)) (tC (.str s)))) ρ (bAt bs k==decide (s = "in")):=fun{ρ} k s hs hk e2 e0=>by
   have it:atI (bs.map wdB) (k:Int)=some (wdB (bAt bs k)):=Va (by unfold bAt;simp[bl,hk]);refine Zg.cast (ZS (J9 (V6 (Qq e2) (Qq e0) it) Yv (R0 _) (NL s hs))) (N7 _ s hs)
  refine QI (Vw (r:=.ol (a.map Q9)) (EvO.cast (WU (xs:=List.range gs.length) (enc:=fun(k:Nat)=>PyData.int (k:Int)) (h:=fun(k:Nat)=>Q9 (gs.getD k default)) (p:=fun k=>bAt bs k==true) ?ei6 (by rw[WI];omega) ?el6) (by rw[ain,XY];rfl)) ?_)
  case ei6=>exact rngE rfl
  case el6 =>
   intro k hk c;have hk:=XF.mp hk;refine⟨_,Zc,?_⟩
   walk_at"e"
   exact⟨tst k "in" (.inl rfl) hk rfl rfl,fun _=>V6 (Qq rfl) (Qq rfl) (Va (by simp[hk]))⟩
  walk_at"d"
  refine Yt 6 rfl ?_
  walk_at"d"
  refine QI (Vw (r:=.ol ((om.map fun k=>gs.getD k default).map Q9)) (EvO.cast (WU (xs:=List.range gs.length) (enc:=fun(k:Nat)=>PyData.int (k:Int)) (h:=fun(k:Nat)=>Q9 (gs.getD k default)) (p:=fun k=>bAt bs k==false) ?ei7 (by rw[WI];omega) ?el7) (by rw[XY,<- ho];rfl)) ?_)
  case ei7=>exact rngE rfl
  case el7 =>
   intro k hk c;have hk:=XF.mp hk;refine⟨_,Zc,?_⟩
   walk_at"e"
   exact⟨tst k "room" (.inr rfl) hk rfl rfl,fun _=>V6 (Qq rfl) (Qq rfl) (Va (by simp[hk]))⟩
  walk_at"d"
  refine Yt 7 rfl ?_
  walk_at"d"
  generalize hog:(om.map fun k=>gs.getD k default)=og;have ogl:a.length+og.length=gs.length:=by rw[<- hog,Xk];exact ol
  have ogG:∀x∈og,G30 y x:=fun x hx=>by
   rw[<- hog]at hx;obtain⟨k,hk,rfl⟩:=XT.mp hx
   have:=oL k hk
   exact hg _ (by simp[this])
  clear hog oL ho ol rngE tst;have la:∀{ρ:Q1},ρ[6]?=some (some (.fz (.list (a.map Q9))))->Qt K (tCB (YL K) (QE (Q8 6) QN)) ρ (.int (a.length:Int)):=fun e=>Qt.cast (YQ (Qq e)) (by rw[Xk]);have lo:∀{ρ:Q1},ρ[7]?=some (some (.fz (.list (og.map Q9))))->Qt K (tCB (YL K) (QE (Q8 7) QN)) ρ (.int (og.length:Int)):=fun e=>Qt.cast (YQ (Qq e)) (by rw[Xk]);have q0:0<=V5 ns 1/8%((a.length:Int)+1):=Bc _ (by omega);have q1:V5 ns 1/8%((a.length:Int)+1)<(a.length:Int)+1:=Bg _ (by omega);obtain⟨at',hat⟩:∃k:Nat,V5 ns 1/8%((a.length:Int)+1)=(k:Int):=⟨_,(X8 q0).symm⟩;refine QI (ZK (d:=.int (at':Int)) (Qt.cast (Z4 (Z4 (Zd (U4 rfl (Qw Q7 QC)) (R_cell.mk (by decide))) Q7 (Gb (by decide) (by decide))) (Z5 (la rfl) Q7) (by show(0:Int)<(a.length:Int)+1;omega)) (by rw[<- hat])) ?_)
  walk_at"d"
  rw[hat]at q1;clear hat q0;have aA:at'<=a.length:=by omega
  refine QI (ZC (b:=false) (Bp (b:=false) (c:=false) (Zg.cast (ZS (Yu (Z5 (la rfl) (lo rfl)) (le rfl))) (XN (by omega))) (fun _=>YO (b:=true) (VB (Zd (Qw (Qq rfl) (Qw (Qq rfl) QC)) (R_lall.mk ok aG a8 af))))) (fun c=>nomatch c) (fun _=>ZE ?_));have rvG:∀{ρ:Q1},ρ[6]?=some (some (.fz (.list (a.map Q9))))->Qt K (MG K (Q8 6) WB WB (WP (tUn (rU fun i=>.int (-i)) (tC (.int 1))))) ρ (.list (a.reverse.map Q9)):=fun e=>Qt.cast (EvO.fz (Le (Qq e) U7 U7 (G5 (KY (g:=fun i => -i) (x:=1) Q7)) (by decide))) (by rw[show(-(1:Int)) = -1 from rfl,CM _ (by rw[Xk];exact a8),List.map_reverse]);have mA:(a.map Q9).length=a.length:=Xk ..;have sHi:∀{ρ:Q1},ρ[6]?=some (some (.fz (.list (a.map Q9))))->ρ[8]?=some (some (.fz (.int (at':Int))))->Qt K (tSl (Jz K) (Q8 6) WB (WP (Q8 8))) ρ (.list ((a.take at').map Q9)):=fun e2 e8=>Qt.cast (EvO.fz (B0 (Qq e2) U7 (G5 (Qq e8)))) (by rw[L4 _ _ (by rw[mA];exact aA),List.map_take]);have sLo:∀{ρ:Q1},ρ[6]?=some (some (.fz (.list (a.map Q9))))->ρ[8]?=some (some (.fz (.int (at':Int))))->Qt K (tSl (Jz K) (Q8 6) (WP (Q8 8)) WB) ρ (.list ((a.drop at').map Q9)):=fun e2 e8=>Qt.cast (EvO.fz (B0 (Qq e2) (G5 (Qq e8)) U7)) (by rw[NT _ _ (by rw[mA];exact aA),List.map_drop]);have tdl:((a.drop at').map Q9).length+((a.take at').map Q9).length<=1000:=by rw[Xk,Xk,Be,Jp];omega
  have rot:∀{ρ:Q1},ρ[6]?=some (some (.fz (.list (a.map Q9))))->ρ[8]?=some (some (.fz (.int (at':Int))))->Qt K (tOp Bm (tSl (Jz K) (Q8 6) (WP (Q8 8)) WB) (tSl (Jz K) (Q8 6) WB (WP (Q8 8)))) ρ (.list ((a.drop at'++a.take at').map Q9)):=fun e2 e8=>Qt.cast (EvO.fz (U0 (sLo e2 e8) (sHi e2 e8) tdl)) (by rw[Xr])
  have pr:a.Perm (a.drop at'++a.take at'):=by
   have h1:(a.take at'++a.drop at').Perm (a.drop at'++a.take at'):=List.perm_append_comm;rw[List.take_append_drop]at h1;exact h1
  refine QI (ZC (b:=false) (Bp (b:=false) (c:=false) (YO (b:=true) (VB (Zd (Qw (Qq rfl) (Qw (rvG rfl) QC)) (R_lall.mk ok (fun x hx=>aG x (List.mem_reverse.mp hx)) (by rw[List.length_reverse];exact a8) (af.perm (List.reverse_perm a).symm))))) (fun _=>YO (b:=true) (VB (Zd (Qw (Qq rfl) (Qw (rot rfl rfl) QC)) (R_lall.mk ok (fun x hx=>aG x (pr.mem_iff.mpr hx)) (by rw[<- pr.length_eq];exact a8) (af.perm pr)))))) (fun c=>nomatch c) (fun _=>ZE ?_))
  clear rvG rot pr tdl;have nel:(gs.map fun g=>g.want+g.most)≠[]:=fun z=>by
   have:=X5 List.length z
   rw[Xk]at this;have:gs.length=0:=this;omega
  obtain⟨mx1,mx2⟩:=JB nel;generalize mxB (gs.map fun g=>g.want+g.most)=gr at mx1 mx2;refine QI (ZK (d:=.int gr) (D2 (ns:=gs.map fun g=>g.want+g.most) (Qt.cast (EvO.fz (Wh (xs:=gs) (enc:=Q9) (h:=fun g=>.int (g.want+g.most)) ?ei9 (by omega) ?el9)) (by rw[XY];rfl)) rfl mx1 mx2) ?_)
  case ei9=>exact YA (Qq rfl)
  case el9 =>
   intro g hg' c;refine⟨_,Zc,?_⟩
   walk_at"e"
   exact Z5 (VV (ds:=[.int (g.line:Int),.int (g.first:Int),.int (g.last:Int),.int g.want,.int g.most]) (Qq rfl) Q7 rfl) (VV (ds:=[.int (g.line:Int),.int (g.first:Int),.int (g.last:Int),.int g.want,.int g.most]) (Qq rfl) Q7 rfl)
  walk_at"d"
  have ne:∀l∈y.ls,l.bs≠[]:=fun l hl z=>by
   have:=ok.bl l hl
   rw[z]at this;have:(0:Nat)=y.T:=this;omega
  obtain⟨my1,my2⟩:=JB (bs:=gr::y.ls.map fun l=>mxB l.bs) (List.cons_ne_nil _ _);generalize mxB (gr::y.ls.map fun l=>mxB l.bs)=gt at my1 my2;refine QI (ZK (d:=.int gt) (D2 (ns:=gr::y.ls.map fun l=>mxB l.bs) (Qt.cast (EvO.fz (U0 (as:=[.int gr]) (bs:=(y.ls.map fun l=>mxB l.bs).map PyData.int) (EvO.fz (Vk (QT (Qq rfl) Z2) W2)) (Qt.cast (EvO.fz (Wh (xs:=y.ls) (enc:=ZL) (h:=fun l=>.int (mxB l.bs)) ?ei10 (by omega) ?el10)) (by rw[XY];rfl)) (by rw[Xk,Xk];show 1+y.ls.length<=1000;omega))) rfl) rfl my1 my2) ?_)
  case ei10=>exact Gz (VV (ds:=[PyData.int (y.T:Int),.tuple (y.ls.map ZL)]) (Qq rfl) Q7 rfl)
  case el10 =>
   intro l hl c;obtain⟨k1,k2⟩:=JB (ne l hl);refine⟨_,Wg (ds:=[upD l.up,.tuple (l.bs.map PyData.int)]) (ZR Zc (ZR Zc Wp)) rfl,?_⟩
   walk_at"e"
   exact Rh (ns:=l.bs) (Qq rfl) rfl k1 k2
  walk_at"d"
  have gtG:∀g∈gs,g.want+g.most<=gt:=fun g hg'=>Ju (mx2 _ (XT.mpr ⟨g,hg',rfl⟩)) (my2 _ Xc);have gtB:∀l∈y.ls,∀b∈l.bs,b<=gt:=fun l hl b hb'=>Ju ((JB (ne l hl)).2 b hb') (my2 _ (Xe _ (XT.mpr ⟨l,hl,rfl⟩)))
  have gt0:0<=gt:=by
   have hx:=gtG _ (XV (show 0<gs.length by omega));have k:=(hg _ (XV (show 0<gs.length by omega))).ok
   have:=k.w1
   have:=k.m1
   omega
  have gtM:gt<=2*10^30:=by
   rcases Xg.mp my1 with rfl|h1
   ·obtain⟨g,hg',rfl⟩:=XT.mp mx1
    have k:=hg g hg'
    have:=k.w
    have:=k.m
    omega
   ·obtain⟨l,hl,rfl⟩:=XT.mp h1
    have:=bd l hl _ (JB (ne l hl)).1
    omega
  clear mx1 mx2 my1 my2 ne nel;have pw:(10:Int)^(30:Int).toNat-1=10^30-1:=rfl;have mpos:0<max (1:Int) ((10^30-1)/(gt+1)):=by omega
  have cdg:J6 ((10:Int)^30-1) (gt+1):=cdl (by omega) (Ju (show gt+1<=2*10^30+1 by omega) (by decide +kernel));refine QI (ZK (d:=.int (1+V5 ns 1/72%max 1 ((10^30-1)/(gt+1)))) (Z5 Q7 (Z4 (Z4 (Zd (U4 rfl (Qw Q7 QC)) (R_cell.mk (by decide))) Q7 (Gb (by decide) (by decide))) (MZ Q7 (Z4 (Qt.cast (Z5 (Z4 Q7 Q7 (Gi (by decide) (by decide))) Q7) rfl) (Z5 (Qq rfl) Q7) cdg)) mpos)) ?_)
  walk_at"d"
  have m0:0<=V5 ns 1/72%max (1:Int) ((10^30-1)/(gt+1)):=Bc _ (by omega);have m1:=Bg (V5 ns 1/72) mpos;generalize V5 ns 1/72%max (1:Int) ((10^30-1)/(gt+1))=tm at m0 m1;obtain⟨tk,htk⟩:∃t:Int,t=1+tm:=⟨_,rfl⟩;rw[<- htk];have tk1:1<=tk:=by omega
  have tkM:tk=1\/tk*(gt+1)<=10^30-1:=by
   by_cases c:(10^30-1)/(gt+1)<=1
   ·left
    omega
   ·right
    have h1:tk<=(10^30-1)/(gt+1):=by omega
    have h2:=Ky h1 (show 0<=gt+1 by omega);exact Ju h2 (Int.ediv_mul_le _ (by omega))
  clear m0 m1 htk mpos cdg;have tk30:tk<10^300:=by
   rcases tkM with rfl|c
   ·decide +kernel
   ·have h2:=Kx (show 1<=gt+1 by omega) (show 0<=tk by omega)
    rw[Int.mul_one]at h2;exact JF (by omega)
  have lt30:∀{x:Int},0<=x->x<=gt->x<10^30->x*tk<10^30:=fun{x} x0 x1 x2=>by
   rcases tkM with rfl|c
   ·rw[Int.mul_one];exact x2
   ·have h2:=Kx (show x<=gt+1 by omega) (show 0<=tk by omega)
    rw[Int.mul_comm x tk];omega
  have bT:∀l∈y.ls,∀b∈l.bs,b*tk<10^300:=fun l hl b hb'=>by
   rcases tkM with rfl|c
   ·rw[Int.mul_one];exact(ok.bb l hl b hb').2
   ·have h2:=Kx (show b<=gt+1 by have:=gtB l hl b hb';omega) (show 0<=tk by omega)
    rw[Int.mul_comm b tk];exact JF (by omega)
  have ok':=Ey ok (show 0<=tk by omega) bT
  have hg':∀x∈gs.map fun g=>V9 g tk,G30 (Vg y tk) x:=fun x hx=>by
   obtain⟨g,hgm,rfl⟩:=XT.mp hx;have k:=hg g hgm;have w1:=k.ok.w1;have mo1:=k.ok.m1;have s1:=gtG g hgm;have w30:=lt30 (x:=g.want) (by omega) (by omega) k.w;have m30:=lt30 (x:=g.most) (by omega) (by omega) k.m;have wp:=Int.mul_pos (show 0<g.want by omega) (show 0<tk by omega);have mp:=Int.mul_pos (show 0<g.most by omega) (show 0<tk by omega)
   exact⟨⟨by show g.line<(y.ls.map _).length;rw[Xk];exact k.ok.ln,k.ok.fl,k.ok.lt,by show 1<=g.want*tk;omega,JF w30,by show 1<=g.most*tk;omega,JF m30⟩,w30,m30⟩
  refine QI (Bz (Zd (Qw (Qq rfl) (Qw (Qq rfl) (Qw (Qq rfl) QC))) (R_ltim.mk ok (fun l hl b hb'=>MX (ok.bb l hl b hb').1 (ok.bb l hl b hb').2 (by omega) tk30) (fun g hgm=>⟨MX (by have:=(hg g hgm).ok.w1;omega) (hg g hgm).ok.w2 (by omega) tk30,MX (by have:=(hg g hgm).ok.m1;omega) (hg g hgm).ok.m2 (by omega) tk30⟩) g8)) (Wg (ds:=[Za (Vg y tk),.list ((gs.map fun g=>V9 g tk).map Q9)]) (ZR Zc (ZR Zc Wp)) rfl) ?_)
  walk_at"d"
  refine QI (ZC (b:=false) (Zg.cast (ZS (Np (a:=.list (bs.map wdB)) (b:=.list (bs.map wdB)) (EvO.fz (Zv.o (Zv.imp (Jb (Qw (Qq rfl) (Qw (Qq rfl) QC)) (R_lday.mk ok' hg' (by rw[Xk];exact g8))) ?hd))) (Qq rfl) (DN _) (DN _))) (by rw[GO (DN _)];rfl)) (fun c=>nomatch c) (fun _=>ZE ?_))
  case hd =>
   rintro r ⟨a',bs',rn',rfl⟩
   rw[((rn.times (show 0<tk by omega)).det rn' rfl).2]
  refine QI (ZC (b:=decide ((at':Int)=(a.length:Int))||og.isEmpty) (Bp (b:=decide ((at':Int)=(a.length:Int))) (c:=og.isEmpty) (ZS (U3 (Qq rfl) (la rfl))) (fun _=>Zg.cast (ZS (J9 (a:=.list (og.map Q9)) (b:=.list []) (Qq rfl) (EvO.fz (Vk (ds:=[]) Z2 (by simp))) (Rc og) NZ)) (C8 og))) (fun c=>Vj Gj rfl) (fun c=>ZE ?_));obtain⟨c1,c2⟩:=(Bool.or_eq_false_iff).mp c;have c1:=Ug c1;have aL:at'<a.length:=by omega
  obtain⟨o0,ot,rfl⟩:∃o ot,og=o::ot:=by
   cases og with
   |nil=>exact Xl c2 (by decide)
   |cons o ot=>exact⟨o,ot,rfl⟩
  have oG:=ogG o0 Xc
  have a7:a.length<=7:=by
   have:(o0::ot).length=ot.length+1:=rfl
   omega
  clear c c1 c2 hg' ok' bT lt30 tk30 tkM gtG gtB gtM gt0;refine QI (CU FG rfl (Qw (Qq rfl) QC) (R_hleave.mk aL) ?_)
  rintro r N' ⟨rfl,rfl⟩
  walk_at"d"
  have out0:∀{ρ:Q1},ρ[7]?=some (some (.fz (.list ((o0::ot).map Q9))))->Qt K (tOp (rIx K) (Q8 7) (tC (.int 0))) ρ (Q9 o0):=fun e=>V6 (ds:=(o0::ot).map Q9) (Qq e) Q7 (Va (j:=0) rfl);have sLo1:∀{ρ:Q1},ρ[6]?=some (some (.fz (.list (a.map Q9))))->ρ[8]?=some (some (.fz (.int (at':Int))))->Qt K (tSl (Jz K) (Q8 6) (WP (tOp (rI0 fun i j=>.int (i+j)) (Q8 8) (tC (.int 1)))) WB) ρ (.list ((a.drop (at'+1)).map Q9)):=fun e2 e8=>Qt.cast (EvO.fz (B0 (lo:=some ((at'+1:Nat):Int)) (Qq e2) (G5 (Qt.cast (Z5 (Qq e8) Q7) rfl)) U7)) (by rw[NT _ _ (by rw[mA];omega),List.map_drop]);have tl2:((a.take at').map Q9).length+((a.drop (at'+1)).map Q9).length<=1000:=by rw[Xk,Xk,Be,Jp];omega
  have ml:(a.take at'++a.drop (at'+1)).length+1<=8:=by rw[Xm,Be,Jp];omega
  have lst:∀{ρ:Q1} {te:TE} {g:Gs},Qt K te ρ (Q9 g)->Qt K (tCB (BI K) (QE te QN)) ρ (eRw g):=fun{ρ te g} h=>EvO.fz (NY (ds:=[.int (g.line:Int),.int (g.first:Int),.int (g.last:Int),.int g.want,.int g.most]) h);refine QI (Vw (r:=.ol ((a.take at'++a.drop (at'+1)++[o0]).map eRw)) (EvO.cast (U0 (as:=(a.take at'++a.drop (at'+1)).map eRw) (bs:=[eRw o0]) (EvO.fz (Wh (xs:=a.take at'++a.drop (at'+1)) (enc:=Q9) (h:=eRw) ?ei13 (by omega) ?el13)) (EvO.fz (Vk (QT (lst (out0 rfl)) Z2) W2)) (by rw[Xk];show _+1<=1000;omega)) (by rw[Xr,Xr,Xr];rfl)) ?_)
  case ei13=>exact EvI.cast (YA (EvO.fz (U0 (sHi rfl rfl) (sLo1 rfl rfl) tl2))) (by rw[Xr])
  case el13 =>
   intro g hgm c;refine⟨_,Zc,?_⟩
   walk_at"e"
   exact lst (Qq rfl)
  walk_at"d"
  refine Yt 13 rfl ?_
  walk_at"d"
  have msO:∀g∈a.take at'++a.drop (at'+1)++[o0],g.Ok y:=fun g hgm=>by
   rcases XG.mp hgm with h1|h1
   ·rcases XG.mp h1 with h1|h1
    ·exact(aG g (List.mem_of_mem_take h1)).ok
    ·exact(aG g (List.mem_of_mem_drop h1)).ok
   ·rw[Xi.mp h1];exact oG.ok
  have nl:=A3 (y:=y) (gs:=a) (g:=o0) aL (by have:=(aG (a.getD at' default) (by simp[aL])).ok.m1;omega);have msl:(a.take at'++a.drop (at'+1)++[o0]).length<=8:=by rw[Xm];exact ml
  generalize a.take at'++a.drop (at'+1)++[o0]=ms at msO nl msl;refine Ff (s:=fun te=>Yo (tOp Ge (tOp Ge te (tC (.str "in"))) (Vv (Zl K R_lkept) [] _ (QE (Q8 1) (QE (Q8 13) (QE (tC (.int 0)) QN)))))) (i:=4) (Θ:=fun d o=>(∃N,o=.own v (QQ CH N))/\∃b:Bool,d=wdB b/\(b=true↔ZU y ms)) (Cr rfl (Qw (out0 rfl) QC) ?_) (fun _ _ _ _ _ _ h=>h _ fun _ _ z=>z) ?_
  ·by_cases hS:ZU y ms
   ·refine .inl ⟨_,R_lcome.mk ok aG oG a7 (nl.mpr hS),?_⟩
    rintro r N' ⟨rfl,rfl⟩
    exact⟨_,_,_,rfl,rfl,⟨_,rfl⟩,true,rfl,fun _=>hS,fun _=>rfl⟩
   ·obtain⟨S0,hS0⟩:∃S,0<ZX y (QS (msG a [at']++[o0])) S:=Classical.byContradiction fun c=>hS (nl.mp fun S=>Int.not_lt.mp fun z=>c ⟨S,z⟩)
    refine .inr ⟨_,X_lcome.mk (S:=S0) ok aG oG a7 hS0,?_⟩
    rintro r ⟨v',S,_,rfl⟩
    exact⟨_,_,_,_,rfl,rfl,⟨_,rfl⟩,false,rfl,fun z=>(nomatch z),fun z=>Xl z hS⟩
  rintro d w o ⟨⟨N,rfl⟩,b,rfl,hb⟩ hw
  walk_at"d"
  have ew:w=.str (if b=true then "in" else "room"):=(Option.some.inj hw).symm;subst ew;have fb:=(F6 b 0).fine (by decide);refine Vj (Qt.cast (J9 (a:=.bool b) (b:=.bool b) (Qt.cast (J9 (a:=wdB b) (b:=.str "in") Yv Yv (R0 b) (NL _ (.inl rfl))) (by rw[N7 b _ (.inl rfl)];cases b<;>rfl)) (EvO.e (Zv.o (Zv.imp (Jb (Qw (Qq rfl) (Qw (Qq rfl) (Qw Q7 QC))) (R_lkept.mk ok msO ?m8)) ?hd2))) fb fb) (by rw[GO fb])) rfl
  case m8=>exact msl
  case hd2 =>
   rintro r ⟨b',rfl,hb'⟩
   have:b'=b:=by
    cases b<;>cases b'
    ·rfl
    ·exact(hb.mpr (hb'.mp rfl)).symm
    ·exact hb'.mpr (hb.mp rfl)
    ·rfl
   rw[this]
end
inductive DH (K:W.Frag)(x:Str)(st:Stmt):Prop
 |mk {f:Addr} {oc kV dc pm cd ct:Value} {od an:Qj} {sl:Array (Qf)} (a:W.nsIn K mainGlobals x=some (some (.ref f))) (l:K.lookup f=some ⟨oc,od,.func (W.fnOf x x (Vb st) (Zi st) (Qy st) .none kV dc pm an cd ct),sl⟩) (c:W.codeIn K cd x=true) (k:W.keepIn K (.ref f)=true):DH K x st
def DH.df {K:W.Frag}{h:Heap}{mg:Str->Qf}{x:Str}{st:Stmt}{ps:Qh}(X:K.In h)(G:h.Ns mainGlobals mg)(H:DH K x st)(hb:∀(z:Value×Value×Value×Qj×Value×Value) (us:Qe),us.length=ps.length->bindArgs (W.fnOf x x (Vb st) (Zi st) (Qy st) .none z.1 z.2.1 z.2.2.1 z.2.2.2.1 z.2.2.2.2.1 z.2.2.2.2.2) ⟨us,[]⟩=pure (ps.zip us)):Df K mg x st ps:=by
 cases H with
 |mk a l c k=>exact⟨_,_,V7 l c k,W.mg_of X G a,(V7 l c k).binds fun kV dc pm an cd ct us hl=>hb (kV,dc,pm,an,cd,ct) us hl⟩
@[elab_as_elim] theorem ln1 {α:Type}{p:List α->Prop}{us:List α}(h:us.length=1)(k:∀a0,p [a0]):p us:=by
 match us,h with
 |[a0],_=>exact k a0
@[elab_as_elim] theorem ln2 {α:Type}{p:List α->Prop}{us:List α}(h:us.length=2)(k:∀a0 a1,p [a0,a1]):p us:=by
 match us,h with
 |[a0,a1],_=>exact k a0 a1
@[elab_as_elim] theorem ln3 {α:Type}{p:List α->Prop}{us:List α}(h:us.length=3)(k:∀a0 a1 a2,p [a0,a1,a2]):p us:=by
 match us,h with
 |[a0,a1,a2],_=>exact k a0 a1 a2
@[elab_as_elim] theorem ln4 {α:Type}{p:List α->Prop}{us:List α}(h:us.length=4)(k:∀a0 a1 a2 a3,p [a0,a1,a2,a3]):p us:=by
 match us,h with
 |[a0,a1,a2,a3],_=>exact k a0 a1 a2 a3
def ZsE {P:Program} {w:World} {K:W.Frag} {h:Heap} {mg:Str->Qf} {fa C gS gE:Addr} (X:K.In h) (G:h.Ns mainGlobals mg) (hfa:mg "law"=some (.ref fa))
 {cg ct:Addr}
 {CH:Addr}
 {YR CR fR:Addr} {odR anR:Qj} {slR:Array (Qf)} {kVR dcR pmR cdR ctR:Value}
 {f39 f40 f41 f42 f43 f44 f45 f46 f47 f48 f49 f50 f51 f52 f53 f54:Addr} {od39 an39 od40 an40 od41 an41 od42 an42 od43 an43 od44 an44 od45 an45 od46 an46 od47 an47 od48 an48 od49 an49 od50 an50 od51 an51 od52 an52 od53 an53 od54 an54 dS dE:Qj} {sl39 sl40 sl41 sl42 sl43 sl44 sl45 sl46 sl47 sl48 sl49 sl50 sl51 sl52 sl53 sl54 slS slE:Array (Qf)} {oc39 kV39 dc39 pm39 cd39 ct39 oc40 kV40 dc40 pm40 cd40 ct40 oc41 kV41 dc41 pm41 cd41 ct41 oc42 kV42 dc42 pm42 cd42 ct42 oc43 kV43 dc43 pm43 cd43 ct43 oc44 kV44 dc44 pm44 cd44 ct44 oc45 kV45 dc45 pm45 cd45 ct45 oc46 kV46 dc46 pm46 cd46 ct46 oc47 kV47 dc47 pm47 cd47 ct47 oc48 kV48 dc48 pm48 cd48 ct48 oc49 kV49 dc49 pm49 cd49 ct49 oc50 kV50 dc50 pm50 cd50 ct50 oc51 kV51 dc51 pm51 cd51 ct51 oc52 kV52 dc52 pm52 cd52 ct52 oc53 kV53 dc53 pm53 cd53 ct53 oc54 kV54 dc54 pm54 cd54 ct54:Value} {tS tE nS nE:Nat}
 (aC:W.nsIn K mainGlobals "Net"=some (some (.ref C)))
 (aH:W.nsIn K mainGlobals "Hand"=some (some (.ref CH)))
 (h0:DH K "is_whole" HI)
 (h1:DH K "is_whole_within" Kt)
 (h2:DH K "is_amount" Kf)
 (h3:DH K "is_tuple_of" Kh)
 (h4:DH K "is_guest" HN)
 (h5:DH K "turns_of" HJ)
 (h6:DH K "line_count" Kq)
 (h7:DH K "above_of" Kc)
 (h8:DH K "bound_at" HD)
 (h9:DH K "line_of" Hz)
 (h10:DH K "is_there" HK)
 (h11:DH K "want_of" HC)
 (h12:DH K "most_of" HA)
 (h13:DH K "with_want" HZ)
 (h14:DH K "staying_from" Kv)
 (h15:DH K "guest_node" Kp)
 (h16:DH K "line_node" HV)
 (h17:DH K "lay_guest" Kg)
 (h18:DH K "lay_turn" HG)
 (h19:DH K "filled_net" Ko)
 (h20:DH K "guests_reached" Mr)
 (h21:DH K "reaching_at" Ml)
 (h22:DH K "given_at" Kd)
 (h23:DH K "given_most" Mi)
 (h24:DH K "short_of" Ma)
 (h25:DH K "lacking_set" Kr)
 (h26:DH K "refuse_lack" Kj)
 (h27:DH K "_law_cell_at" Km)
 (h28:DH K "_law_feed" HU)
 (h29:DH K "_law_digit" Kn)
 (h30:DH K "_law_yard" HW)
 (h31:DH K "_law_guest" Mg)
 (h32:DH K "_law_passes" Ks)
 (h33:DH K "_law_short" Mh)
 (h34:DH K "_law_all_kept" Bb)
 (h35:DH K "_law_come" GZ)
 (h36:DH K "_law_all_in" Ki)
 (h37:DH K "_law_times" Mj)
 (h38:DH K "_law_whole_day" Mq)
 (a39:W.nsIn K mainGlobals "law"=some (some (.ref f39)))
 (l39:K.lookup f39=some ⟨oc39,od39,.func (W.fnOf "law" "law" (Vb VS) (Zi VS) (Qy VS) .none kV39 dc39 pm39 an39 cd39 ct39),sl39⟩)
 (c39:W.codeIn K cd39 "law"=true)
 (k39:W.keepIn K (.ref f39)=true)
 (a40:W.findIn K (.ref C) "lay"=some (some (.ref f40)))
 (i40:W.isFn K (.ref f40)=true)
 (l40:K.lookup f40=some ⟨oc40,od40,.func (W.fnOf "lay" "Net.lay" (Vb JU) (Zi JU) (Qy JU) .none kV40 dc40 pm40 an40 cd40 ct40),sl40⟩)
 (c40:W.codeIn K cd40 "Net.lay"=true)
 (k40:W.keepIn K (.ref f40)=true)
 (a41:W.findIn K (.ref C) "lay_one"=some (some (.ref f41)))
 (i41:W.isFn K (.ref f41)=true)
 (l41:K.lookup f41=some ⟨oc41,od41,.func (W.fnOf "lay_one" "Net.lay_one" (Vb JZ) (Zi JZ) (Qy JZ) .none kV41 dc41 pm41 an41 cd41 ct41),sl41⟩)
 (c41:W.codeIn K cd41 "Net.lay_one"=true)
 (k41:W.keepIn K (.ref f41)=true)
 (a42:W.findIn K (.ref C) "reached"=some (some (.ref f42)))
 (i42:W.isFn K (.ref f42)=true)
 (l42:K.lookup f42=some ⟨oc42,od42,.func (W.fnOf "reached" "Net.reached" (Vb JY) (Zi JY) (Qy JY) .none kV42 dc42 pm42 an42 cd42 ct42),sl42⟩)
 (c42:W.codeIn K cd42 "Net.reached"=true)
 (k42:W.keepIn K (.ref f42)=true)
 (a43:W.findIn K (.ref C) "push"=some (some (.ref f43)))
 (i43:W.isFn K (.ref f43)=true)
 (l43:K.lookup f43=some ⟨oc43,od43,.func (W.fnOf "push" "Net.push" (Vb Jf) (Zi Jf) (Qy Jf) .none kV43 dc43 pm43 an43 cd43 ct43),sl43⟩)
 (c43:W.codeIn K cd43 "Net.push"=true)
 (k43:W.keepIn K (.ref f43)=true)
 (a44:W.findIn K (.ref C) "fill"=some (some (.ref f44)))
 (i44:W.isFn K (.ref f44)=true)
 (l44:K.lookup f44=some ⟨oc44,od44,.func (W.fnOf "fill" "Net.fill" (Vb JQ) (Zi JQ) (Qy JQ) .none kV44 dc44 pm44 an44 cd44 ct44),sl44⟩)
 (c44:W.codeIn K cd44 "Net.fill"=true)
 (k44:W.keepIn K (.ref f44)=true)
 (a45:W.findIn K (.ref C) "way_to"=some (some (.ref f45)))
 (i45:W.isFn K (.ref f45)=true)
 (l45:K.lookup f45=some ⟨oc45,od45,.func (W.fnOf "way_to" "Net.way_to" (Vb JX) (Zi JX) (Qy JX) .none kV45 dc45 pm45 an45 cd45 ct45),sl45⟩)
 (c45:W.codeIn K cd45 "Net.way_to"=true)
 (k45:W.keepIn K (.ref f45)=true)
 (a46:W.findIn K (.ref CH) "come"=some (some (.ref f46)))
 (i46:W.isFn K (.ref f46)=true)
 (l46:K.lookup f46=some ⟨oc46,od46,.func (W.fnOf "come" "Hand.come" (Vb JR) (Zi JR) (Qy JR) .none kV46 dc46 pm46 an46 cd46 ct46),sl46⟩)
 (c46:W.codeIn K cd46 "Hand.come"=true)
 (k46:W.keepIn K (.ref f46)=true)
 (a47:W.findIn K (.ref CH) "leave"=some (some (.ref f47)))
 (i47:W.isFn K (.ref f47)=true)
 (l47:K.lookup f47=some ⟨oc47,od47,.func (W.fnOf "leave" "Hand.leave" (Vb JW) (Zi JW) (Qy JW) .none kV47 dc47 pm47 an47 cd47 ct47),sl47⟩)
 (c47:W.codeIn K cd47 "Hand.leave"=true)
 (k47:W.keepIn K (.ref f47)=true)
 (a48:W.findIn K (.ref CH) "rest"=some (some (.ref f48)))
 (i48:W.isFn K (.ref f48)=true)
 (l48:K.lookup f48=some ⟨oc48,od48,.func (W.fnOf "rest" "Hand.rest" (Vb JS) (Zi JS) (Qy JS) .none kV48 dc48 pm48 an48 cd48 ct48),sl48⟩)
 (c48:W.codeIn K cd48 "Hand.rest"=true)
 (k48:W.keepIn K (.ref f48)=true)
 (a49:W.findIn K (.ref CH) "open_ones"=some (some (.ref f49)))
 (i49:W.isFn K (.ref f49)=true)
 (l49:K.lookup f49=some ⟨oc49,od49,.func (W.fnOf "open_ones" "Hand.open_ones" (Vb Jn) (Zi Jn) (Qy Jn) .none kV49 dc49 pm49 an49 cd49 ct49),sl49⟩)
 (c49:W.codeIn K cd49 "Hand.open_ones"=true)
 (k49:W.keepIn K (.ref f49)=true)
 (a50:W.findIn K (.ref CH) "still_there"=some (some (.ref f50)))
 (i50:W.isFn K (.ref f50)=true)
 (l50:K.lookup f50=some ⟨oc50,od50,.func (W.fnOf "still_there" "Hand.still_there" (Vb Ua) (Zi Ua) (Qy Ua) .none kV50 dc50 pm50 an50 cd50 ct50),sl50⟩)
 (c50:W.codeIn K cd50 "Hand.still_there"=true)
 (k50:W.keepIn K (.ref f50)=true)
 (a51:W.findIn K (.ref CH) "refuse_past"=some (some (.ref f51)))
 (i51:W.isFn K (.ref f51)=true)
 (l51:K.lookup f51=some ⟨oc51,od51,.func (W.fnOf "refuse_past" "Hand.refuse_past" (Vb Ub) (Zi Ub) (Qy Ub) .none kV51 dc51 pm51 an51 cd51 ct51),sl51⟩)
 (c51:W.codeIn K cd51 "Hand.refuse_past"=true)
 (k51:W.keepIn K (.ref f51)=true)
 (a52:W.findIn K (.ref CH) "refuse_number"=some (some (.ref f52)))
 (i52:W.isFn K (.ref f52)=true)
 (l52:K.lookup f52=some ⟨oc52,od52,.func (W.fnOf "refuse_number" "Hand.refuse_number" (Vb Uc) (Zi Uc) (Qy Uc) .none kV52 dc52 pm52 an52 cd52 ct52),sl52⟩)
 (c52:W.codeIn K cd52 "Hand.refuse_number"=true)
 (k52:W.keepIn K (.ref f52)=true)
 (a53:W.findIn K (.ref C) "__init__"=some (some (.ref f53)))
 (i53:W.isFn K (.ref f53)=true)
 (l53:K.lookup f53=some ⟨oc53,od53,.func (W.fnOf "__init__" "Net.__init__" (Vb UQ) (Zi UQ) (Qy UQ) .none kV53 dc53 pm53 an53 cd53 ct53),sl53⟩)
 (c53:W.codeIn K cd53 "Net.__init__"=true)
 (k53:W.keepIn K (.ref f53)=true)
 (a54:W.findIn K (.ref CH) "__init__"=some (some (.ref f54)))
 (i54:W.isFn K (.ref f54)=true)
 (l54:K.lookup f54=some ⟨oc54,od54,.func (W.fnOf "__init__" "Hand.__init__" (Vb UO) (Zi UO) (Qy UO) .none kV54 dc54 pm54 an54 cd54 ct54),sl54⟩)
 (c54:W.codeIn K cd54 "Hand.__init__"=true)
 (k54:W.keepIn K (.ref f54)=true)
 (pg:W.plainGet K C Str.empty=true)
 (hd:W.hasDictIn K C=true)
 (po:W.plainOver K C=true)
 (sa:W.findIn K (.ref C) "__setattr__"=some (some (.builtin "object.__setattr__")))
 (mk:W.makesIn K C=true)
 (kc:W.keepIn K (.ref C)=true)
 (Hpg:W.plainGet K CH Str.empty=true)
 (Hhd:W.hasDictIn K CH=true)
 (Hpo:W.plainOver K CH=true)
 (Hsa:W.findIn K (.ref CH) "__setattr__"=some (some (.builtin "object.__setattr__")))
 (Hmk:W.makesIn K CH=true)
 (Hkc:W.keepIn K (.ref CH)=true)
 (Hn0:W.findIn K (.ref CH) "yard"=some none)
 (Hn1:W.findIn K (.ref CH) "present"=some none)
 (Hn2:W.findIn K (.ref CH) "known"=some none)
 (Hn3:W.findIn K (.ref CH) "given"=some none)
 (Hn4:W.findIn K (.ref CH) "gone"=some none)
 (Hn5:W.findIn K (.ref CH) "made"=some none)
 (n0:W.findIn K (.ref C) "ends"=some none)
 (n1:W.findIn K (.ref C) "rooms"=some none)
 (n2:W.findIn K (.ref C) "leaving"=some none)
 (n3:W.findIn K (.ref C) "laid"=some none)
 (aS:W.nsIn K mainGlobals "START"=some (some (.ref gS)))
 (lS:K.lookup gS=some ⟨.type "tuple",dS,.seq #[.str "start" tS] nS,slS⟩)
 (aE:W.nsIn K mainGlobals "END"=some (some (.ref gE)))
 (lE:K.lookup gE=some ⟨.type "tuple",dE,.seq #[.str "end" tE] nE,slE⟩)
 (rC:W.nsIn K mainGlobals "NoRoom"=some (some (.ref CR)))
 (rY:W.nsIn K mainGlobals "YardError"=some (some (.ref YR)))
 (rf:W.findIn K (.ref CR) "__init__"=some (some (.ref fR)))
 (rl:K.lookup fR=some ⟨.type "function",odR,.func (W.fnOf "__init__" "NoRoom.__init__" (Vb UP) (Zi UP) (Qy UP) .none kVR dcR pmR anR cdR ctR),slR⟩)
 (rc:W.codeIn K cdR "NoRoom.__init__"=true)
 (rk:W.keepIn K (.ref fR)=true)
 (rx:Dn K CR fR=true)
 (rg:W.specialIn K (.ref YR) "__getattribute__"=some (some (.builtin "type.__getattribute__")))
 (rr:W.readsIn K YR (.type "type")=true)
 (ri:W.findCls K (.ref YR) (.type "type") "__init__"=some (.val (.builtin "ValueError.__init__")))
 (rs:W.findIn K (.ref CR) "__setattr__"=some (some (.builtin "object.__setattr__")))
 (ro:((W.clsIn K CR).any fun cd=>WA cd.mro)=true)
 (xa0:W.nsIn K mainGlobals "NoGuest"=some (some (.ref cg)))
 (xa1:W.nsIn K mainGlobals "NoTime"=some (some (.ref ct)))
 (xe:W.exmOne K (.ref CR) (.ref YR)=some true)
 (xp:W.findIn K (.ref CR) "__getattribute__"=some (some (.builtin "BaseException.__getattribute__")))
 (xn:W.findIn K (.ref CR) "some"=some none)
 (xq:W.findIn K (.ref CR) "__getattr__"=some none)
 (xb:W.mroIn K CR (.type "BaseException")=some true)
 (xc:W.findIn K (.ref CR) "__class__"=some (some (.builtin "object.__class__")))
 (xs:W.specialIn K (.builtin "object.__class__") "__get__"=some (some (.builtin "getset_descriptor.__get__")))
 (xt:W.takesIn K (.builtin "object.__class__")=some true)
 (xm:W.mroIn K CR (.type "object")=some true)
 (xk1:W.kitOne K (.ref CR) (.ref CR)=some true)
 (xk2:W.kitOne K (.ref CR) (.type "ValueError")=some true)
 (xk3:W.kitOne K (.ref CR) (.ref cg)=some false)
 (xk4:W.kitOne K (.ref CR) (.ref ct)=some false)
 (rd:W.hasDictIn K CR=true)
 (rt:W.takerIn K CR "some"=some none)
 (rK:W.keepIn K (.ref CR)=true)
 (z0:W.nsIn K mainGlobals "abs"=some none)
 (z1:W.nsIn K mainGlobals "len"=some none)
 (z2:W.nsIn K mainGlobals "max"=some none)
 (z3:W.nsIn K mainGlobals "min"=some none)
 (z4:W.nsIn K mainGlobals "sum"=some none)
 (z5:W.nsIn K mainGlobals "any"=some none)
 (z6:W.nsIn K mainGlobals "all"=some none)
 (z7:W.nsIn K mainGlobals "isinstance"=some none)
 (z8:W.nsIn K mainGlobals "int"=some none)
 (z9:W.nsIn K mainGlobals "bool"=some none)
 (z10:W.nsIn K mainGlobals "list"=some none)
 (z11:W.nsIn K mainGlobals "tuple"=some none)
 (z12:W.nsIn K mainGlobals "range"=some none)
 (z13:W.nsIn K mainGlobals "zip"=some none)
 (z14:W.nsIn K mainGlobals "enumerate"=some none)
 (z15:W.nsIn K mainGlobals "sorted"=some none)
 (z16:W.nsIn K mainGlobals "set"=some none)
 (z17:W.nsIn K mainGlobals "ValueError"=some none)
 : (∃gS gE,W.nsIn K mainGlobals "START"=some (some (.ref gS))/\W.nsIn K mainGlobals "END"=some (some (.ref gE))/\KTup K gS "start" /\ KTup K gE "end")/\∃fd:FuncData,(∀(s:Shared) (v:Value),BindsTo s fd ⟨[v],[]⟩ [("_law_script",v)])/\∀base:Heap,K.In base->base.Ns mainGlobals mg->FnOk P w K mg base CX0 11 fa fd ZaZ (B5 K):=by
 have e:=hfa.symm.trans (W.mg_of X G a39)
 cases e
 have T:Bl mg:=⟨W.mg_none_of X G z0,W.mg_none_of X G z1,W.mg_none_of X G z2,W.mg_none_of X G z3,W.mg_none_of X G z4,W.mg_none_of X G z5,W.mg_none_of X G z6,W.mg_none_of X G z7,W.mg_none_of X G z8,W.mg_none_of X G z9,W.mg_none_of X G z10,W.mg_none_of X G z11,W.mg_none_of X G z12,W.mg_none_of X G z13,W.mg_none_of X G z14,W.mg_none_of X G z15,W.mg_none_of X G z16,W.mg_none_of X G z17⟩;have U:Tx K mg C gS gE:=⟨⟨⟨pg,hd,po,sa⟩,n0,n1,n2,n3⟩,W.mg_of X G aS,W.mg_of X G aE,aS,aE⟩;have UH:HandC K CH:=⟨⟨Hpg,Hhd,Hpo,Hsa⟩,Hn0,Hn1,Hn2,Hn3,Hn4,Hn5⟩;have XR:XC K mg "NoRoom" YR CR fR:=⟨TW rx rl rfl rg rr ri,rK,W.mg_of X G rC⟩;have XA:PK K mg YR CR cg ct:=⟨xe,W.mg_of X G rY,⟨⟨xp,xq,xb⟩,rd⟩,xn,⟨⟨xp,xq,xb⟩,rd,xc,xs,xt,xm⟩,xk1,xk2,xk3,xk4,W.mg_of X G xa0,W.mg_of X G xa1⟩;have XbX:=V7 (st:=UP) rl rc rk;have B_NoRoom:=XbX.binds (ps:=ZaW) fun _ _ _ _ _ _ us hl=>ln2 hl fun _ _=>rfl;have Xcd:=h0.df (ps:=["thing"]) X G fun _ us hl=>ln1 hl fun _=>rfl;have Xce:=h1.df (ps:=Zat) X G fun _ us hl=>ln3 hl fun _ _ _=>rfl;have Xcf:=h2.df (ps:=ZaQ) X G fun _ us hl=>ln2 hl fun _ _=>rfl;have Xcg:=h3.df (ps:=ZaM) X G fun _ us hl=>ln2 hl fun _ _=>rfl;have Xch:=h4.df (ps:=ZaT) X G fun _ us hl=>ln2 hl fun _ _=>rfl;have Xci:=h5.df (ps:=ZaN) X G fun _ us hl=>ln1 hl fun _=>rfl;have Xcj:=h6.df (ps:=ZaN) X G fun _ us hl=>ln1 hl fun _=>rfl;have Xck:=h7.df (ps:=ZaO) X G fun _ us hl=>ln2 hl fun _ _=>rfl;have Xcl:=h8.df (ps:=Zav) X G fun _ us hl=>ln3 hl fun _ _ _=>rfl;have Xcm:=h9.df (ps:=Zaz) X G fun _ us hl=>ln1 hl fun _=>rfl;have Xcn:=h10.df (ps:=Zar) X G fun _ us hl=>ln2 hl fun _ _=>rfl;have Xco:=h11.df (ps:=Zaz) X G fun _ us hl=>ln1 hl fun _=>rfl;have Xcp:=h12.df (ps:=Zaz) X G fun _ us hl=>ln1 hl fun _=>rfl;have Xcq:=h13.df (ps:=ZaU) X G fun _ us hl=>ln2 hl fun _ _=>rfl;have Xcr:=h14.df (ps:=Zar) X G fun _ us hl=>ln2 hl fun _ _=>rfl;have Xcs:=h15.df (ps:=Zbb) X G fun _ us hl=>ln1 hl fun _=>rfl;have Xct:=h16.df (ps:=ZaP) X G fun _ us hl=>ln2 hl fun _ _=>rfl;have Xcu:=h17.df (ps:=Zax) X G fun _ us hl=>ln4 hl fun _ _ _ _=>rfl;have Xcv:=h18.df (ps:=ZaL) X G fun _ us hl=>ln3 hl fun _ _ _=>rfl;have Xcw:=h19.df (ps:=Zaf) X G fun _ us hl=>ln2 hl fun _ _=>rfl;have Xcx:=h20.df (ps:=Zaf) X G fun _ us hl=>ln2 hl fun _ _=>rfl;have Xcy:=h21.df (ps:=Zae) X G fun _ us hl=>ln4 hl fun _ _ _ _=>rfl;have Xcz:=h22.df (ps:=Zae) X G fun _ us hl=>ln4 hl fun _ _ _ _=>rfl;have XcA:=h23.df (ps:=Zad) X G fun _ us hl=>ln3 hl fun _ _ _=>rfl;have XcB:=h24.df (ps:=Zad) X G fun _ us hl=>ln3 hl fun _ _ _=>rfl;have XcC:=h25.df (ps:=Zaf) X G fun _ us hl=>ln2 hl fun _ _=>rfl;have XcD:=h26.df (ps:=Zaf) X G fun _ us hl=>ln2 hl fun _ _=>rfl;have XcE:=h27.df (ps:=ZaB) X G fun _ us hl=>ln2 hl fun _ _=>rfl;have XcF:=h28.df (ps:=Zba) X G fun _ us hl=>ln1 hl fun _=>rfl;have XcG:=h29.df (ps:=Zas) X G fun _ us hl=>ln2 hl fun _ _=>rfl;have XcH:=h30.df (ps:=ZaV) X G fun _ us hl=>ln1 hl fun _=>rfl;have XcI:=h31.df (ps:=Zal) X G fun _ us hl=>ln3 hl fun _ _ _=>rfl;have XcJ:=h32.df (ps:=Zah) X G fun _ us hl=>ln4 hl fun _ _ _ _=>rfl;have XcK:=h33.df (ps:=Zai) X G fun _ us hl=>ln4 hl fun _ _ _ _=>rfl;have XcL:=h34.df (ps:=Zap) X G fun _ us hl=>ln3 hl fun _ _ _=>rfl;have XcM:=h35.df (ps:=Zan) X G fun _ us hl=>ln2 hl fun _ _=>rfl;have XcN:=h36.df (ps:=Zag) X G fun _ us hl=>ln2 hl fun _ _=>rfl;have XcO:=h37.df (ps:=Zao) X G fun _ us hl=>ln3 hl fun _ _ _=>rfl;have XcP:=h38.df (ps:=Zag) X G fun _ us hl=>ln2 hl fun _ _=>rfl;have XbW:=V7 (st:=VS) l39 c39 k39;have D_law:Df K mg "law" VS ZaZ:=⟨_,_,XbW,W.mg_of X G a39,XbW.binds (ps:=ZaZ) fun _ _ _ _ _ _ us hl=>ln1 hl fun _=>rfl⟩;have XbY:=V7 (st:=JU) l40 c40 k40;have XcQ:Mf K C "lay" "Net.lay" JU Zab:=⟨_,_,XbY,⟨a40,i40,k40⟩,XbY.binds (ps:=Zab) fun _ _ _ _ _ _ us hl=>ln4 hl fun _ _ _ _=>rfl⟩;have XbZ:=V7 (st:=JZ) l41 c41 k41;have XcR:Mf K C "lay_one" "Net.lay_one" JZ Zab:=⟨_,_,XbZ,⟨a41,i41,k41⟩,XbZ.binds (ps:=Zab) fun _ _ _ _ _ _ us hl=>ln4 hl fun _ _ _ _=>rfl⟩;have Xb0:=V7 (st:=JY) l42 c42 k42;have XcS:Mf K C "reached" "Net.reached" JY ZaJ:=⟨_,_,Xb0,⟨a42,i42,k42⟩,Xb0.binds (ps:=ZaJ) fun _ _ _ _ _ _ us hl=>ln2 hl fun _ _=>rfl⟩;have Xb1:=V7 (st:=Jf) l43 c43 k43;have XcT:Mf K C "push" "Net.push" Jf ZaX:=⟨_,_,Xb1,⟨a43,i43,k43⟩,Xb1.binds (ps:=ZaX) fun _ _ _ _ _ _ us hl=>ln2 hl fun _ _=>rfl⟩;have Xb2:=V7 (st:=JQ) l44 c44 k44;have XcU:Mf K C "fill" "Net.fill" JQ ZaE:=⟨_,_,Xb2,⟨a44,i44,k44⟩,Xb2.binds (ps:=ZaE) fun _ _ _ _ _ _ us hl=>ln3 hl fun _ _ _=>rfl⟩;have Xb3:=V7 (st:=JX) l45 c45 k45;have XcV:Mf K C "way_to" "Net.way_to" JX ZaD:=⟨_,_,Xb3,⟨a45,i45,k45⟩,Xb3.binds (ps:=ZaD) fun _ _ _ _ _ _ us hl=>ln3 hl fun _ _ _=>rfl⟩;have Xb4:=V7 (st:=JR) l46 c46 k46;have XcW:Mf K CH "come" "Hand.come" JR ZaK:=⟨_,_,Xb4,⟨a46,i46,k46⟩,Xb4.binds (ps:=ZaK) fun _ _ _ _ _ _ us hl=>ln2 hl fun _ _=>rfl⟩;have Xb5:=V7 (st:=JW) l47 c47 k47;have XcX:Mf K CH "leave" "Hand.leave" JW Zac:=⟨_,_,Xb5,⟨a47,i47,k47⟩,Xb5.binds (ps:=Zac) fun _ _ _ _ _ _ us hl=>ln2 hl fun _ _=>rfl⟩;have Xb6:=V7 (st:=JS) l48 c48 k48;have XcY:Mf K CH "rest" "Hand.rest" JS Zac:=⟨_,_,Xb6,⟨a48,i48,k48⟩,Xb6.binds (ps:=Zac) fun _ _ _ _ _ _ us hl=>ln2 hl fun _ _=>rfl⟩;have Xb7:=V7 (st:=Jn) l49 c49 k49;have XcZ:Mf K CH "open_ones" "Hand.open_ones" Jn ZaG:=⟨_,_,Xb7,⟨a49,i49,k49⟩,Xb7.binds (ps:=ZaG) fun _ _ _ _ _ _ us hl=>ln1 hl fun _=>rfl⟩;have Xb8:=V7 (st:=Ua) l50 c50 k50;have Xc0:Mf K CH "still_there" "Hand.still_there" Ua ZaG:=⟨_,_,Xb8,⟨a50,i50,k50⟩,Xb8.binds (ps:=ZaG) fun _ _ _ _ _ _ us hl=>ln1 hl fun _=>rfl⟩;have Xb9:=V7 (st:=Ub) l51 c51 k51;have Xc1:Mf K CH "refuse_past" "Hand.refuse_past" Ub ZaR:=⟨_,_,Xb9,⟨a51,i51,k51⟩,Xb9.binds (ps:=ZaR) fun _ _ _ _ _ _ us hl=>ln2 hl fun _ _=>rfl⟩;have Xca:=V7 (st:=Uc) l52 c52 k52;have Xc2:Mf K CH "refuse_number" "Hand.refuse_number" Uc Zac:=⟨_,_,Xca,⟨a52,i52,k52⟩,Xca.binds (ps:=Zac) fun _ _ _ _ _ _ us hl=>ln2 hl fun _ _=>rfl⟩;have Xcb:=V7 (st:=UQ) l53 c53 k53;have B_Net:=Xcb.binds (ps:=ZaG) fun _ _ _ _ _ _ us hl=>ln1 hl fun _=>rfl;have Xcc:=V7 (st:=UO) l54 c54 k54;have B_Hand:=Xcc.binds (ps:=ZaH) fun _ _ _ _ _ _ us hl=>ln2 hl fun _ _=>rfl;refine⟨⟨gS,gE,aS,aE,⟨_,_,_,_,lS⟩,⟨_,_,_,_,lE⟩⟩,W.fnOf "law" "law" (Vb VS) (Zi VS) (Qy VS) .none kV39 dc39 pm39 an39 cd39 ct39,fun s v=>.of_eq rfl,fun base _ _=>?_⟩;have Xbf:=Fz (P:=P) (w:=w) (base:=base) T XcE;have Xbx:=Fi (P:=P) (w:=w) (base:=base) T XcF;have Xa3:=Cl (P:=P) (w:=w) (base:=base) T XcG;have XbQ:=CA T XcH Xa3;have XbR:=CG T XcI Xa3;have Xba:Gn P w K mg base "Hand" CH ZaH 1:=⟨_,_,⟨Hmk,a54,i54,Hkc⟩,W.mg_of X G aH,B_Hand,LL (P:=P) (w:=w) (base:=base) T UH Xcc⟩;have XbK:=FM (P:=P) (w:=w) (base:=base) T Xcg;have XbJ:=EF (P:=P) (w:=w) (base:=base) T Xcd;have Xa5:=AQ T Xce XbJ;have Xa6:=C6 (P:=P) (w:=w) (base:=base) T Xcj;have Xa4:=Ab (P:=P) (w:=w) (base:=base) T Xci;have Xbr:=Iw T Xcf Xa5;have Xbs:=E6 T Xch XbK Xa5 Xa6 Xa4 Xbr;have Xbt:=CO (P:=P) (w:=w) (base:=base) T UH Xc1;have XbC:M9 P w K mg base "Net" C 1:=⟨_,_,⟨mk,a53,i53,kc⟩,W.mg_of X G aC,B_Net,Tm (P:=P) (w:=w) (base:=base) T U Xcb⟩;have Xbn:=LG (P:=P) (w:=w) (base:=base) T U XcR;have Xbb:=To T U XcQ Xbn;have Xa9:=FE (P:=P) (w:=w) (base:=base) T Xco;have Xbe:=FT (P:=P) (w:=w) (base:=base) T Xcs;have Xbg:=Ag (P:=P) (w:=w) (base:=base) T Xcn;have Xbi:=Fr (P:=P) (w:=w) (base:=base) T Xcp;have Xbc:=Cs (P:=P) (w:=w) (base:=base) T Xct;have Xbh:=CI (P:=P) (w:=w) (base:=base) T Xcm;have XbD:=AB T U Xcu Xbb Xa9 Xbe Xa4 Xbg Xbi Xbc Xbh;have Xa7:=FK (P:=P) (w:=w) (base:=base) T Xcl;have Xbj:=FP (P:=P) (w:=w) (base:=base) T Xck;have XbE:=An T U Xcv Xbb Xa7 Xbc Xa6 Xbj;have Xbd:=Et (P:=P) (w:=w) (base:=base) T U XcS;have XbA:=Fg (P:=P) (w:=w) (base:=base) T U XcT;have XbB:=TF (P:=P) (w:=w) (base:=base) T U XcV;have XbF:=Fq T U XcU Xbd XbA XbB;have XbG:=Ea T U Xcw XbC XbD Xa4 XbE XbF;have XbH:=ES T U Xcx XbG Xbd Xbe;have Xbo:=Fy T XcC XbH;have Xby:=EQ T Xcy Xa6 Xbg Xbh Xbi Xbj Xa7;have Xbz:=Ak T Xcz Xby Xa7;have XbI:=AK T XcA Xa4 Xbz;have Xbp:=FY T XcB Xa9 XbI;have Xbq:ML P w K mg base fR ZaW 1 (G7 K CR "some"):=⟨_,B_NoRoom,AU (P:=P) (w:=w) (base:=base) T XbX XR.cl ⟨rs,ro,rd⟩ rt (W.mg_of X G rY)⟩;have Xbu:=AZ T XR XcD Xbo Xbp Xbq;have XbL:=FH (P:=P) (w:=w) (base:=base) T Xcq;have XbM:=LO (P:=P) (w:=w) (base:=base) T Xcr;have Xbk:=LJ T UH Xc2 Xa5;have Xbl:=FO T UH XcY Xbk Xa9;have Xbv:=A0 T UH Xc0 XbL XbM Xbl;have Xbw:=C4 T UH XR XcW Xbs Xbt Xbu Xbv;have Xa8:=Cv T UH XR XA XcM Xbw;have XbN:=C1 T UH XcZ Xbl;have Xbm:=LE T UH XcN Xba Xa8 XbN;have XbS:=LM (P:=P) (w:=w) (base:=base) T XcO;have XbT:=FA T UH XcP Xba Xa8;have XbU:=Aq T UH XcX Xbk;have XbO:=Ae (P:=P) (w:=w) (base:=base) T XcJ;have XbP:=Tp T XcK XbO;have XbV:=C2 T XcL XbP;exact Tn T UH XbW Xbf Xbx XbQ XbR Xba Xa8 Xbm XbS XbT XbU XbV
end My
namespace PySem.W.Fast
def tw11600637619298733497:=0
def tw14094323085041549492:=0
def tw7341942941042694499:=0
def tw15117168775728301246:=0
def tw15899143705551974201:=0
def tw13069428203634364881:=0
def tw16449532514251480637:=0
def tw8088199390347600735:=0
def tw13781069858255499587:=0
def tw9944166714115042666:=0
def tw8265592628482499510:=0
def tw10920413725474487308:=0
def tw15389282517602343558:=0
def tw6167629839103513225:=0
def tw12223915774731267015:=0
def tw14846702423130219987:=0
def tw7156068760372845541:=0
def tw542285796510658127:=0
def tw4489782108940431305:=0
def tw17953243827414039982:=0
def tw14969939140802619811:=0
def tw1803998917982836187:=0
def tw11930464709906183891:=0
def tw4749744202636220565:=0
def tw18203239099105811432:=0
def tw8647945792307728037:=0
def tw18276119001634696513:=0
def tw10383004822361463598:=0
def tw11025645076059130374:=0
def tw11248574959187779277:=0
def tw317556197569569243:=0
def tw669309569150703503:=0
def tw15616882734213588194:=0
def tw13925677657048271132:=0
def tw17387462235624150387:=0
def tw13463170532960987852:=0
def tw11744672270783119383:=0
def tw2620735102548642262:=0
def tw15891482407006880343:=0
def tw4652572776160181029:=0
def tw13022289544155238148:=0
def tw12813612463055814835:=0
def tw15369552683115036430:=0
def tw1821138643327019321:=0
def tw6961431595375152568:=0
def tw8067204960586719679:=0
def tw12023238866673048097:=0
def tw2968539384813975162:=0
def tw2972060133505828799:=0
def tw12310261757942578426:=0
def tw12901002507277122924:=0
def tw9208794812021738900:=0
def tw5501001295464439482:=0
def tw2133541888869766183:=0
def tw10122605679077950121:=0
def tw12688886901143515723:=0
def tw16649661838361026140:=0
def tw16250879211341602447:=0
def tw3859354650317430808:=0
def tw5760875163177812277:=0
def tw15059235370020301209:=0
def tw310905218171080860:=0
def tw13862340103522609128:=0
def tw10847182240188009290:=0
def tw6985573343281927525:=0
def tw16669238513907785183:=0
def tw5655958725066397258:=0
def tw6609715117573732840:=0
def tw2341359678502067310:=0
def tw4222151970403216812:=0
def tw12071862969951788772:=0
def tw11083410109210576861:=0
def tw6769634285048308059:=0
def tw3919328404871084554:=0
def tw12591033295796112327:=0
def tw395265206214086347:=0
def tw4874560479080982821:=0
def tw13035865248341689325:=0
def tw11466027140538676366:=0
def tw1682521817854115685:=0
def tw4527552617912829678:=0
def tw13110159812952535072:=0
def tw17193518710230851955:=0
def tw5128815538739365669:=0
def tw4847796486242317873:=0
def tw11011188636735745960:=0
def tw18225879368807857197:=0
def tw11764163702362350532:=0
def tw5224699423622162006:=0
def tw3638981396647173546:=0
def tw9112149121501747263:=0
def tw17164589972514424147:=0
def tw15046478437575017375:=0
def tw18396215724929589495:=0
def tw12804075872506578273:=0
def tw12025026088270527651:=0
def tw16564803130551262291:=0
def tw12529715616058710240:=0
def tw11376569688169443155:=0
def tw10759648654282602441:=0
def tw12546790474634987031:=0
def tw14283758994777563010:=0
def tw987563598955196187:=0
def tw13790031475347412502:=0
def tw6216414105202235352:=0
def tw18155123813963961146:=0
def tw3894175740043946419:=0
def tw11910633105911641499:=0
def tw5237527326190383187:=0
def tw1843556929660897056:=0
def tw228925237768455235:=0
def tw14458697694898826348:=0
def tw4154701119691443254:=0
def tw17919159273694868521:=0
def tw14503318154534336397:=0
def tw2997342520774563139:=0
def tw3566369215236993200:=0
def tw17015517915524108028:=0
def tw5184784312698054534:=0
def tw1792779491887963733:=0
def tw11308811606675690064:=0
def tw12226408329474284138:=0
def tw5056272659229299594:=0
def tw17320883497459109262:=0
def tw12356805212225137830:=0
def tw11427658895809849886:=0
def tw4240507633013975090:=0
end PySem.W.Fast
open PySem PySem.W PyProof.Rows
set_option maxRecDepth 100000 in
set_option maxHeartbeats 0 in
theorem PySem.Challenge.cw_chargeyard_k67_in_any_order_holds : PySem.Challenge.rw_chargeyard_k67_in_any_order.Holds := by
 w_on; o_law; k_head; (case hw=>w_witness2)
 k_fill
 refine L2.Zms (l:=PySem.Challenge.rw_chargeyard_k67_in_any_order) (k:=11) (x := "_law_script") rfl rfl ⟨rfl,by decide,by decide⟩ (fun w h Y=>W.kIn_of Y) ?F
 case F =>
  intro w mg fa h KX G hmg
  refine' My.ZsE KX G hmg ?aC ?aH ?h0 ?h1 ?h2 ?h3 ?h4 ?h5 ?h6 ?h7 ?h8 ?h9 ?h10 ?h11 ?h12 ?h13 ?h14 ?h15 ?h16 ?h17 ?h18 ?h19 ?h20 ?h21 ?h22 ?h23 ?h24 ?h25 ?h26 ?h27 ?h28 ?h29 ?h30 ?h31 ?h32 ?h33 ?h34 ?h35 ?h36 ?h37 ?h38 ?a39 ?l39 ?c39 ?k39 ?a40 ?i40 ?l40 ?c40 ?k40 ?a41 ?i41 ?l41 ?c41 ?k41 ?a42 ?i42 ?l42 ?c42 ?k42 ?a43 ?i43 ?l43 ?c43 ?k43 ?a44 ?i44 ?l44 ?c44 ?k44 ?a45 ?i45 ?l45 ?c45 ?k45 ?a46 ?i46 ?l46 ?c46 ?k46 ?a47 ?i47 ?l47 ?c47 ?k47 ?a48 ?i48 ?l48 ?c48 ?k48 ?a49 ?i49 ?l49 ?c49 ?k49 ?a50 ?i50 ?l50 ?c50 ?k50 ?a51 ?i51 ?l51 ?c51 ?k51 ?a52 ?i52 ?l52 ?c52 ?k52 ?a53 ?i53 ?l53 ?c53 ?k53 ?a54 ?i54 ?l54 ?c54 ?k54 ?pg ?hd ?po ?sa ?mk ?kc ?Hpg ?Hhd ?Hpo ?Hsa ?Hmk ?Hkc ?Hn0 ?Hn1 ?Hn2 ?Hn3 ?Hn4 ?Hn5 ?n0 ?n1 ?n2 ?n3 ?aS ?lS ?aE ?lE ?rC ?rY ?rf ?rl ?rc ?rk ?rx ?rg ?rr ?ri ?rs ?ro ?xa0 ?xa1 ?xe ?xp ?xn ?xq ?xb ?xc ?xs ?xt ?xm ?xk1 ?xk2 ?xk3 ?xk4 ?rd ?rt ?rK ?z0 ?z1 ?z2 ?z3 ?z4 ?z5 ?z6 ?z7 ?z8 ?z9 ?z10 ?z11 ?z12 ?z13 ?z14 ?z15 ?z16 ?z17
  case aC | aH | a39 | l39 | c39 | k39 | a40 | i40 | l40 | c40 | k40 | a41 | i41 | l41 | c41 | k41 | a42 | i42 | l42 | c42 | k42 | a43 | i43 | l43 | c43 | k43 | a44 | i44 | l44 | c44 | k44 | a45 | i45 | l45 | c45 | k45 | a46 | i46 | l46 | c46 | k46 | a47 | i47 | l47 | c47 | k47 | a48 | i48 | l48 | c48 | k48 | a49 | i49 | l49 | c49 | k49 | a50 | i50 | l50 | c50 | k50 | a51 | i51 | l51 | c51 | k51 | a52 | i52 | l52 | c52 | k52 | a53 | i53 | l53 | c53 | k53 | a54 | i54 | l54 | c54 | k54 | pg | hd | po | sa | mk | kc | Hpg | Hhd | Hpo | Hsa | Hmk | Hkc | Hn0 | Hn1 | Hn2 | Hn3 | Hn4 | Hn5 | n0 | n1 | n2 | n3 | aS | lS | aE | lE | rC | rY | rf | rl | rc | rk | rg | rr | ri | rs | xa0 | xa1 | xp | xn | xq | xb | xc | xs | xt | xm | rd | rt | rK | z0 | z1 | z2 | z3 | z4 | z5 | z6 | z7 | z8 | z9 | z10 | z11 | z12 | z13 | z14 | z15 | z16 | z17=>k_is
  case xk1 | xk2 | xk3 | xk4=>kit_is
  case xe=>kts_exm
  case h0 | h1 | h2 | h3 | h4 | h5 | h6 | h7 | h8 | h9 | h10 | h11 | h12 | h13 | h14 | h15 | h16 | h17 | h18 | h19 | h20 | h21 | h22 | h23 | h24 | h25 | h26 | h27 | h28 | h29 | h30 | h31 | h32 | h33 | h34 | h35 | h36 | h37 | h38 =>
   refine' My.DH.mk ?a ?l ?c ?k
   case a | l | c | k=>k_is
  case rx | ro=>with_unfolding_all exact Eq.refl true
end
