import PyProof.Rows.All
import Wide.All
import OpenK.AllK
import Wide.FinOn
import Lean
import PyProof.EqAt
import PyProof.EqKinds
import PyProof.TupleCall
import PyProof.EqLayable
import PyProof.SumAny
import PyProof.ListRange
import PyProof.WalksEnum
import PyProof.ZipIter
import PyProof.EnumMake
import PyProof.ConsumeS
import PyProof.SeqI3
import PyProof.MaxThree
import PyProof.Rows.TupAdd
import PyProof.DictRoadsH
import PyProof.MeetsDict
import PyProof.FactsAll.dict
import PyProof.Rows.TupDisplay
import PyProof.Rows.SortWalk
import PyProof.MinMaxWalk
import PyProof.WalksMore
import PySem.Challenge.RW_chargeyard_k55_which_filling_is_fairest
set_option Elab.async false
set_option linter.all false
set_option maxRecDepth 100000
set_option maxHeartbeats 4000000
set_option compiler.extract_closed false
set_option genSizeOf false
section
open PySem PySem.Spec PyProof.Rows
def Qa {α:Sort _}{a:α}{q:Prop}:a=a\/q:=Or.inl rfl
abbrev Qb:=Value->Shared->Prop
abbrev Qc:=List (Addr×Obj)
abbrev Qd:=List PyData
abbrev Qe:=List Value
abbrev Qf:=Option Value
abbrev Qg:=List Addr
abbrev Qh:=List Str
abbrev Zaa:Qh:=["yard","guests"]
abbrev Zab:Qh:=["_law_yard_here","_law_guests_here","_law_k","_law_filling"]
abbrev Zac:Qh:=["yard","guests","filling"]
abbrev Zad:Qh:=["_law_yard_here","_law_guests_here","_law_number_here","_law_k","_law_cut","_law_rows","_law_at","_law_line","_law_first","_law_last","_law_want","_law_most","_law_turn","_law_wish","_law_amount_here"]
abbrev Zae:Qh:=["_law_yard_here","_law_rows","_law_guests_here","_law_line","_law_turn","_law_k"]
abbrev Zaf:Qh:=["self","start","end","room"]
abbrev Zag:Qh:=["_law_yard_here","_law_guests_here","_law_number_here","_law_k","_law_cut"]
abbrev Zah:Qh:=["_law_yard_here","_law_guests_here","_law_k","_law_filling","_law_loads","_law_guest","_law_row","_law_line","_law_first","_law_last","_law_want","_law_most","_law_turn","_law_here"]
abbrev Zai:Qh:=["_law_yard_here","_law_filling","_law_number_here","_law_way","_law_rows","_law_at","_law_turn","_law_more","_law_other"]
abbrev Zaj:Qh:=["net","yard","number","guest"]
abbrev Zak:Qh:=["_law_script","_law_k"]
abbrev Zal:Qh:=["yard","guests","some","turn"]
abbrev Zam:Qh:=["_law_yard_here","_law_guests_here","_law_k","_law_filling","_law_shares_here","_law_due","_law_guest","_law_share","_law_row","_law_handed","_law_found"]
abbrev Zan:Qh:=["_law_script","_law_yard_here","_law_guests_here","_law_k","_law_filling","_law_number_here","_law_times","_law_part","_law_drawn_here"]
abbrev Zao:Qh:=["self","start","end"]
abbrev Zap:Qh:=["_law_yard_here","_law_filling","_law_number_here"]
abbrev Zaq:Qh:=["yard","guests","filling","line","beneath","loads","guest","takes"]
abbrev Zar:Qh:=["number","guest","turn","take"]
abbrev Zas:Qh:=["yard","line","turn"]
abbrev Zat:Qh:=["guest"]
abbrev Zau:Qh:=["yard","line"]
abbrev Zav:Qh:=["yard","guests","filling","line"]
abbrev Zaw:Qh:=["_law_levels","_law_many","_law_shares_here","_law_share","_law_some","_law_k"]
abbrev Zax:Qh:=["yard","guests","ahead","share"]
abbrev Zay:Qh:=["yard","guests","some"]
abbrev Zaz:Qh:=["_law_script","_law_yard_here"]
abbrev ZaA:Qh:=["yard","guests","ahead","some"]
abbrev ZaB:Qh:=["yard","guests","k","filling"]
abbrev ZaC:Qh:=["yard","guests","ahead","share","totals","some"]
abbrev ZaD:Qh:=["one","other"]
abbrev ZaE:Qh:=["yard","guests","some","turn","reaching","number","guest","line"]
abbrev ZaF:Qh:=["_law_script"]
abbrev ZaG:Qh:=["guests","totals","k"]
abbrev ZaH:Qh:=["_law_levels","_law_many"]
abbrev ZaI:Qh:=["guest","want"]
abbrev ZaJ:Qh:=["number","guest","takes"]
abbrev ZaK:Qh:=["self","edges","end"]
abbrev ZaL:Qh:=["yard","guests","ahead"]
abbrev ZaM:Qh:=["parts","bottom"]
abbrev ZaN:Qh:=["guest","turn"]
abbrev ZaO:Qh:=["_law_number_here"]
abbrev ZaP:Qh:=["line","turn"]
abbrev ZaQ:Qh:=["yard"]
abbrev ZaR:Qh:=["yard","guests","shares","share","some","number"]
abbrev ZaS:Qh:=["self","start"]
abbrev ZaT:Qh:=["top","bottom"]
abbrev ZaU:Qh:=["net","yard","turn"]
abbrev ZaV:Qh:=["yard","guests","ahead","share","level","some"]
abbrev ZaW:Qh:=["guests","k"]
abbrev ZaX:Qh:=["yard","guests","k","filling","many","shares"]
abbrev ZaY:Qh:=["number","guest","net","yard"]
abbrev ZaZ:Qh:=["guests","totals","k","wants"]
abbrev Zba:Qh:=["line","k"]
abbrev Zbb:Qh:=["yard","k"]
abbrev Zbc:Qh:=["guest","k"]
abbrev Zbd:Qh:=["guest","share"]
abbrev Zbe:Qh:=["self","way"]
abbrev Zbf:Qh:=["_law_row","_law_times"]
abbrev Zbg:Qh:=["number","ahead"]
abbrev Zbh:Qh:=["number"]
abbrev Zbi:Qh:=["filling"]
abbrev Qi:=List Expr
abbrev Qj:=Option Addr
abbrev Qk:=List Nat
abbrev Ql:=List Int
abbrev Qm:=Nat->Bool
abbrev Qn:=Nat->Int
def Xa:=@if_neg
def Xb:=@if_pos
def Xc:=@List.mem_cons_self
def Xd:=@wpAny_bind
def Xe:=@List.getElem?_eq_some_iff
def Xf:=@List.mem_cons_of_mem
def Xg:=@List.mem_cons
def Xh:=@List.length_map
def Xi:=@absurd
def Xj:=@List.getElem?_map
def Xk:=@List.mem_singleton
def Xl:=@Int.toNat_natCast
def Xm:=@Heap.lt_size
def Xn:=@List.mem_range
def Xo:=@Heap.get?_push_of_some
def Xp:=@Bool.false_ne_true
def Xq:=@of_decide_eq_true
def Xr:=@Nat.ne_of_lt
def Xs:=@List.map_cons
def Xt:=@Int.mul_assoc
def Xu:=@wpAny_pure
def Xv:=@List.length_append
def Xw:=@List.map_map
def Xx:=@Nat.le_refl
def Xy:=@List.getElem_mem
def Xz:=@Nat.lt_of_lt_of_le
def XA:=@List.find?_cons
def XB:=@Int.mul_comm
def XC:=@List.mem_append
def XD:=@List.mem_map
def XE:=@List.map_append
def XF:=@List.size_toArray
def XG:=@decide_eq_false
def XH:=@Int.mul_le_mul_of_nonneg_left
def XI:=@Nat.le_trans
def XJ:=@List.mem_append_right
def XL:=@List.getElem?_set_self
def XM:=@List.getElem?_eq_getElem
def XN:=@List.nodup_cons
def XO:=@of_decide_eq_false
def XQ:=@List.map_congr_left
def XR:=@Int.toNat_of_nonneg
def XS:=@Nat.add_sub_cancel
def XT:=@List.getElem?_set_ne
def XU:=@List.lookup_cons
def XV:=@Heap.get?_push_size
def XW:=@congrArg
def XX:=@List.length_cons
def XY:=@Int.lt_of_le_of_lt
def XZ:=@List.not_mem_nil
def X0:=@Int.mul_nonneg
def X2:=@List.append_nil
def X4:=@Nat.zero_le
def X5:=@Int.lt_trans
def X6:=@Int.mul_le_mul_of_nonneg_right
def X7:=@Option.map_some
def X8:=@Bool.false_eq_true
def X9:=@Nat.le_of_lt
def Y4:=@List.mem_filter
def JG:=@List.getElem?_append_left
def Y3:=@List.range_succ
def YF:=@Int.mul_le_mul
def YZ:=@decide_eq_true
def JF:=@List.mem_append_left
def Y2:=@Int.zero_add
def WE:=@List.take_length
def WD:=@List.mem_flatMap
def JE:=@List.flatMap_append
def Jg:=@List.length_range
def YY:=@Nat.lt_irrefl
def YE:=@Nat.ne_of_gt
def Wv:=@Heap.size_push
def WC:=@Int.natCast_mul
def GR:=@List.getElem?_append_right
def WB:=@List.take_succ
def Ur:=@List.replicate_succ
def JD:=@Bool.and_eq_true
def Wu:=@Int.ofNat_lt
def UZ:=@Nat.pow_le_pow_right
def Uq:=@List.append_assoc
def Uo:=@Option.isSome_map
def JC:=@Bool.eq_iff_iff
def JB:=@Int.emod_nonneg
def JA:=@Int.ediv_nonneg
def JK:=@Nat.not_lt_zero
def Ww:=@Int.mul_sub
def Uu:=@Option.getD_some
def BW:=@Int.le_of_mul_le_mul_left
def Jh:=@Int.ofNat_le
def GX:=@Bool.and_eq_true_iff
def GW:=@Nat.mul_le_mul_right
def Gf:=@List.flatten_cons
def Ge:=@Nat.lt_succ_self
def Gd:=@List.cons_append
def Ut:=@wpAny_seqItems
def JJ:=@List.map_nil
def JI:=@Nat.mul_comm
def GV:=@Int.emod_lt_of_pos
def Us:=@Nat.mul_assoc
def DT:=@Int.le_of_mul_le_mul_right
def GU:=@List.nodup_append
def JH:=@Int.mul_add
def Gc:=@List.nodup_nil
def GT:=@List.filter_cons
def DS:=@List.getElem?_cons_succ
def Gb:=@List.sum_cons
def Ga:=@Bool.not_true
def BV:=@Nat.lt_of_le_of_lt
def GS:=@List.sum_append
def BU:=@List.filter_append
def BZ:=@wpAny_setField_rec
def DW:=@Heap.get?_update_other
def Uv:=@wpAny_field
def BY:=@List.flatMap_cons
def Gh:=@Int.add_zero
def DV:=@List.length_filter_le
def Gg:=@Int.mul_zero
def DU:=@List.pairwise_flatMap
def NV:=@Int.mul_lt_mul_of_pos_right
def BX:=@Nat.le_add_right
def BT:=@List.ext_getElem
def GQ:=@List.any_cons
def UY:=@Int.le_refl
def DR:=@List.length_pos_iff
def DQ:=@List.takeWhile_cons
def BS:=@List.foldl_cons
def BR:=@List.nil_append
def BQ:=@List.forIn_cons
def NU:=@List.drop_eq_getElem_cons
def DP:=@List.pairwise_cons
def GP:=@Int.le_trans
def DO:=@Nat.gcd_dvd_right
def DN:=@List.length_take
def DM:=@List.nodup_range
end
namespace L2
open PySem PySem.Spec PyProof.Rows
abbrev Key:=Sum Int Str
def Gu:Key->Value->Bool
 |.inl k,v=>Value.isInt k v
 |.inr x,v=>Value.isStrOf x v
def L1 (w:World):Key->Int
 |.inl k=>hashInt k
 |.inr x=>hashStr w x
theorem J9:∀{k:Key} {v:Value},Gu k v=true->(∃i t,k=Sum.inl i/\v=Value.int i t)\/(∃x t,k=Sum.inr x/\v=Value.str x t)
 |.inl i,v,h=>by
   obtain⟨t,e⟩:=Value.isInt_shape (k:=i) (v:=v) h;exact .inl ⟨i,t,rfl,e⟩
 |.inr x,v,h=>by
   obtain⟨t,e⟩:=Value.isStrOf_shape (x:=x) (v:=v) h;exact .inr ⟨x,t,rfl,e⟩
def IV (i:Int)(t:Tok):Gu (.inl i) (.int i t)=true:=by simp[Gu,Value.isInt]
def Oe (x:Str)(t:Tok):Gu (.inr x) (.str x t)=true:=by simp[Gu,Value.isStrOf]
def FM (a b:Int):decide ((Sum.inl a:Key)=Sum.inl b)=(a==b):=by
 by_cases e:a=b
 ·subst e;simp
 ·have h:¬(Sum.inl a:Key)=Sum.inl b:=fun q=>e (Sum.inl.inj q)
  rw[XG h];exact(beq_eq_false_iff_ne.mpr e).symm
def Fy (a b:Str):decide ((Sum.inr a:Key)=Sum.inr b)=decide (a=b):=by
 by_cases e:a=b
 ·subst e;simp
 ·have h:¬(Sum.inr a:Key)=Sum.inr b:=fun q=>e (Sum.inr.inj q)
  rw[XG h,XG e]
def Fu (a:Int)(b:Str):decide ((Sum.inl a:Key)=Sum.inr b)=false:=XG (fun q=>nomatch q)
def Fq (a:Str)(b:Int):decide ((Sum.inr a:Key)=Sum.inl b)=false:=XG (fun q=>nomatch q)
def Vx (prog:Program)(w:World):PySem.KeyKind prog w Key where
 is:=Gu
 hash:=L1 w
 inj:=fun v a b ha hb=>by
  rcases J9 ha with ⟨i,t,rfl,rfl⟩|⟨x,t,rfl,rfl⟩
  ·rcases J9 hb with ⟨j,u,rfl,e⟩|⟨y,u,rfl,e⟩
   ·injection e with e1 _;rw[e1]
   ·exact nomatch e
  ·rcases J9 hb with ⟨j,u,rfl,e⟩|⟨y,u,rfl,e⟩
   ·exact nomatch e
   ·injection e with e1 _;rw[e1]
 byValue:=fun k v h=>by
  rcases J9 h with ⟨i,t,rfl,rfl⟩|⟨x,t,rfl,rfl⟩<;>rfl
 pyHash:=fun hv h=>by
  rcases J9 hv with ⟨i,t,rfl,rfl⟩|⟨x,t,rfl,rfl⟩
  ·exact wpAny_pyHash_int h
  ·exact wpAny_pyHash_str h
 eqBool:=fun hu hv h=>by
  rcases J9 hu with ⟨i,t,rfl,rfl⟩|⟨x,t,rfl,rfl⟩
  ·rcases J9 hv with ⟨j,u,rfl,rfl⟩|⟨y,u,rfl,rfl⟩
   ·rw[FM]at h;exact wpAny_eqBool_int h
   ·rw[Fu]at h;exact SeqAt.EqAt.int_str i t y u _ _ _ _ h
  ·rcases J9 hv with ⟨j,u,rfl,rfl⟩|⟨y,u,rfl,rfl⟩
   ·rw[Fq]at h;exact SeqAt.EqAt.str_int x t j u _ _ _ _ h
   ·rw[Fy]at h;exact wpAny_eqBool_str h
 «strs» := fun k x t v h=>by
  rcases J9 h with ⟨i,u,rfl,e⟩|⟨y,u,rfl,e⟩
  ·exact nomatch e
  ·injection e with e1 _
   subst e1;cases v<;>rfl
def Zlb (prog:Program)(w:World)(i:Int)(t:Tok):(Vx prog w).is (.inl i) (.int i t)=true:=IV i t
def Zk7 (prog:Program)(w:World)(x:Str)(t:Tok):(Vx prog w).is (.inr x) (.str x t)=true:=Oe x t
inductive V where
 |non|bl (b:Bool)|int (i:Int)|str (x:Str)|byt (b:Array UInt8)|flt (b:UInt64)|ref (a:Addr)|ty (n:String)
 deriving DecidableEq
def QR:V->Value->Prop
 |.non,u=>u=Value.none
 |.bl b,u=>u=Value.bool b
 |.int i,u=>∃t,u=Value.int i t
 |.str x,u=>∃t,u=Value.str x t
 |.byt b,u=>∃t,u=Value.bytes b t
 |.flt b,u=>∃t,u=Value.float b t
 |.ref a,u=>u=Value.ref a
 |.ty n,u=>u=Value.type n
abbrev Zf:List V->Qe->Prop:=Paired QR
def Zf.length {xs:List V}{us:Qe}(r:Zf xs us):xs.length=us.length:=Paired.length r
theorem Zf.get:∀{xs:List V} {us:Qe} {i:Nat} {x:V},Zf xs us->xs[i]?=some x->∃u,us[i]?=some u/\QR x u
 |_,_,_,_,.nil,e=>by simp at e
 |_,_,0,_,.cons r _,e=>by simp at e;subst e;exact⟨_,rfl,r⟩
 |_,_,i+1,x,.cons _ t,e=>by
   obtain⟨u,h1,h2⟩:=Zf.get (i:=i) (x:=x) t (by simpa using e)
   exact⟨u,by simpa using h1,h2⟩
theorem Zf.set {x:V}{u:Value}(r:QR x u):∀{xs:List V} {us:Qe} (i:Nat),Zf xs us->Zf (xs.set i x) (us.set i u)
 |_,_,_,.nil=>.nil
 |_,_,0,.cons _ t=>.cons r t
 |_,_,i+1,.cons q t=>.cons q (Zf.set r i t)
theorem Zf.append:∀{xs ys:List V} {us ws:Qe},Zf xs us->Zf ys ws->Zf (xs++ys) (us++ws)
 |_,_,_,_,.nil,s=>s
 |_,_,_,_,.cons r t,s=>.cons r (Zf.append t s)
def Vm:Option V->Qf->Prop
 |some v,some u=>QR v u
 |none,none=>True
 |_,_=>False
def KV {κ:Type}:List (κ×V)->List (κ×Value)->Prop:=Paired fun(p:κ×V) (q:κ×Value)=>p.1=q.1/\QR p.2 q.2
def kV:Key->V
 |.inl i=>.int i
 |.inr x=>.str x
inductive HO where
 |lst (xs:List V)
 |tup (xs:List V)
 |dK (kvs:List (Key×V))|dT (kvs:List (List Key×V))
 |set (S:Int->Bool) (n:Nat)
 |ins (C dx:Addr) (fs:List (Str×V))
 |own (x:Addr)
 |xd (fs:List (Str×V))
 |met (f x:Addr)
 |rng (lo hi:Int)
 |frz (o:Obj) (u:HO)
 |tbl (ps:Array Value)
 |ext (φ:Heap->Prop)
abbrev Hp:=Addr->Option HO
def upd (H:Hp)(a:Addr)(o:HO):Hp:=fun b=>if b=a then some o else H b
def Zg {H:Hp}{a:Addr}{o:HO}:upd H a o a=some o:=by unfold upd;rw[Xb rfl]
def Q7 {H:Hp}{a b:Addr}{o:HO}(h:b≠a):upd H a o b=H b:=by unfold upd;rw[Xa h]
def Rz {H:Hp}{a b:Addr}{o u:HO}(h:H a=some o)(h':H b=some u)(d:o≠u):a≠b:=by
 intro e;subst e;rw[h]at h';exact d (Option.some.inj h')
def Vd {H:Hp}{a b:Addr}{o:HO}(h:H a=some o)(h':H b=none):a≠b:=by
 intro e;subst e;rw[h]at h';cases h'
section
variable (P:Program)(w:World)
def ZR (H:Hp)(h:Heap)(a:Addr):HO->Prop
 |.lst xs=>xs.length<=sizeLine/\∃(its:Qe) (n:Nat),Zf xs its/\h.get? a=some { cls:=.type "list",data:=.seq its.toArray n }
 |.tup xs=>xs.length<=sizeLine/\∃its:Qe,Zf xs its/\IsTup h a its.toArray
 |.dK kvs=>kvs.length<=sizeLine/\(a==sysModules)=false/\∃vs,KV kvs vs/\h.DictOf (Vx P w) a vs
 |.dT kvs=>kvs.length<=sizeLine/\(a==sysModules)=false/\∃xs:List (List Key×Addr×Value),
  Paired (fun(p:List Key×V) (q:List Key×Addr×Value)=>p.1=q.1/\H q.2.1=some (.tup (p.1.map kV))/\QR p.2 q.2.2) kvs xs /\
  ∃o es ep,h.get? a=some o/\o.ExactDict/\o.data=.dict es ep/\es.toList=xs.map (entryOfKey (tupleKind (Vx P w)))/\(xs.map (·.1)).Nodup
 |.set S n=>h.SetOf (intKind P w) a S n
 |.ins C dx fs=>H dx=some (.own a)/\fs.length<=1000/\dx≠a/\h.get? a=some (W.instObj C dx) /\
  ∃mA,h.Ns1 dx mA/\(∀f,Vm (fs.lookup f) (mA f))/\PySem.Within mA (fs.map (·.1))
 |.own _=>∃o,h.get? a=some o
 |.xd fs=>∃mA,h.Ns1 a mA/\∀f,Vm (fs.lookup f) (mA f)
 |.rng lo hi=>∃t u v,h.get? a=some { cls:=.type "range",data:=.fields #[.int lo t,.int hi u,.int 1 v] }
 |.frz o u=>h.get? a=some o/\ZR H h a u
 |.tbl ps=>h.get? a=some { cls:=.none,data:=.fields ps }
 |.met f x=>h.get? a=some (W.methodObj (.ref f) (.ref x))
 |.ext φ=>φ h/\(∃o,h.get? a=some o)/\∀h1 h2:Heap,φ h1->(∀o,h1.get? a=some o->h2.get? a=some o)->φ h2
def HOk (H:Hp)(h:Heap):Prop := ∀a o,H a=some o->ZR P w H h a o
end
section
variable {P:Program}{w:World}{H H':Hp}{h h':Heap}{a:Addr}{o:HO}
def ZR.lt (x:ZR P w H h a o):a<h.objs.size:=by
 cases o with
 |lst xs=>obtain⟨_,_,_,_,e⟩:=x;exact Xm e
 |tup xs=>obtain⟨_,_,_,p⟩:=x;exact p.lt
 |dK kvs=>obtain⟨_,_,_,_,o,_,_,e,_⟩:=x;exact Xm e
 |dT kvs=>obtain⟨_,_,_,_,o,_,_,e,_⟩:=x;exact Xm e
 |set S n=>obtain⟨o,_,_,_,e,_⟩:=x;exact Xm e
 |ins C dx fs=>obtain⟨_,_,_,e,_⟩:=x;exact Xm e
 |own y=>obtain⟨_,e⟩:=x;exact Xm e
 |xd fs=>obtain⟨_,⟨_,_,_,e,_⟩,_⟩:=x;exact Xm e
 |rng lo hi=>obtain⟨_,_,_,e⟩:=x;exact Xm e
 |frz ob u=>obtain⟨e,_⟩:=x;exact Xm e
 |tbl ps=>exact Xm (show h.get? a=some _ from x)
 |met f y=>exact Xm (show h.get? a=some _ from x)
 |ext φ=>obtain⟨_,⟨_,e⟩,_⟩:=x;exact Xm e
theorem Paired.mapP {α β:Type}{F G:α->β->Prop}:∀{l₁:List α} {l₂:List β},Paired F l₁ l₂->(∀a b,F a b->G a b)->Paired G l₁ l₂
 |_,_,.nil,_=>.nil
 |_,_,.cons r t,f=>.cons (f _ _ r) (Paired.mapP t f)
def ZR.stay (x:ZR P w H h a o)(k:∀b u,(b=a\/H b=some (.own a))->h.get? b=some u->h'.get? b=some u)
 (ho:∀b,H b=some (.own a)->H' b=some (.own a)) (ht:∀b xs,H b=some (.tup xs)->H' b=some (.tup xs)):ZR P w H' h' a o:=by
 induction o with
 |lst xs=>obtain⟨z,its,n,r,e⟩:=x;exact⟨z,its,n,r,k _ _ (.inl rfl) e⟩
 |tup xs=>obtain⟨z,its,r,ob,e,c⟩:=x;exact⟨z,its,r,ob,k _ _ (.inl rfl) e,c⟩
 |dK kvs=>obtain⟨z,y,vs,r,ob,es,ep,e,c⟩:=x;exact⟨z,y,vs,r,ob,es,ep,k _ _ (.inl rfl) e,c⟩
 |dT kvs =>
   obtain⟨z,y,xs,r,ob,es,ep,e,c⟩:=x
   exact⟨z,y,xs,Paired.mapP r fun p q z=>⟨z.1,ht _ _ z.2.1,z.2.2⟩,ob,es,ep,k _ _ (.inl rfl) e,c⟩
 |set S n=>obtain⟨ob,es,ep,t,e,c⟩:=x;exact⟨ob,es,ep,t,k _ _ (.inl rfl) e,c⟩
 |ins C dx fs =>
   obtain⟨d,z,ne,e,mA,⟨od,es,ep,e2,c⟩,r⟩:=x
   exact⟨ho _ d,z,ne,k _ _ (.inl rfl) e,mA,⟨od,es,ep,k _ _ (.inr d) e2,c⟩,r⟩
 |own y=>obtain⟨ob,e⟩:=x;exact⟨ob,k _ _ (.inl rfl) e⟩
 |xd fs=>obtain⟨mA,⟨od,es,ep,e,c⟩,r⟩:=x;exact⟨mA,⟨od,es,ep,k _ _ (.inl rfl) e,c⟩,r⟩
 |rng lo hi=>obtain⟨t,u,v,e⟩:=x;exact⟨t,u,v,k _ _ (.inl rfl) e⟩
 |frz ob u ih=>obtain⟨e,q⟩:=x;exact⟨k _ _ (.inl rfl) e,ih q⟩
 |tbl ps =>
   have e:h.get? a=some { cls:=.none,data:=.fields ps }:=x;show h'.get? a=some { cls:=.none,data:=.fields ps };exact k a _ (.inl rfl) e
 |met f y =>
   have e:h.get? a=some (W.methodObj (.ref f) (.ref y)):=x;show h'.get? a=some (W.methodObj (.ref f) (.ref y));exact k a _ (.inl rfl) e
 |ext φ=>obtain⟨p,⟨o,e⟩,st⟩:=x;exact⟨st _ _ p fun o q=>k _ _ (.inl rfl) q,⟨o,k _ _ (.inl rfl) e⟩,st⟩
def HOk.lt (x:HOk P w H h)(e:H a=some o):a<h.objs.size:=(x a o e).lt
def HOk.fresh (x:HOk P w H h)(e:h.objs.size<=a):H a=none:=by
 cases q:H a with
 |none=>rfl
 |some u=>exact Xi (Xz (x.lt q) e) (YY _)
def HOk.kept (x:HOk P w H h)(k:∀b u,h.get? b=some u->h'.get? b=some u):HOk P w H h':=fun a o e =>
 (x a o e).stay (fun b u _ q=>k b u q) (fun _ q=>q) fun _ _ q=>q
def HOk.laid (x:HOk P w H h)(k:∀b u,h.get? b=some u->h'.get? b=some u)(hp:h.objs.size<=a)(new:ZR P w (upd H a o) h' a o):HOk P w (upd H a o) h':=fun b u e=>by
 have hn:=x.fresh hp
 by_cases hb:b=a
 ·subst hb;rw[Zg]at e;cases e;exact new
 ·rw[Q7 hb]at e
  exact(x b u e).stay (fun c v _ q=>k c v q) (fun c q=>by rw[Q7 (Vd q hn)];exact q) fun c xs q=>by rw[Q7 (Vd q hn)];exact q
end
def Rd (H:Hp)(a:Addr)(u:HO):Prop:=H a=some u\/∃o,H a=some (.frz o u)
def Rd.of {H:Hp}{a:Addr}{u:HO}(h:H a=some u):Rd H a u:=.inl h
def Rd.ok {P:Program}{w:World}{H:Hp}{h:Heap}{a:Addr}{u:HO}(r:Rd H a u)(x:HOk P w H h):ZR P w H h a u:=by
 rcases r with r|⟨o,r⟩
 ·exact x a u r
 ·obtain⟨_,q⟩:=x a _ r
  exact q
def Mut:Option HO->Prop
 |some (.lst _)=>True
 |some (.dK _)=>True
 |some (.dT _)=>True
 |some (.set _ _)=>True
 |some (.ins _ _ _)=>True
 |some (.ext _)=>True
 |_=>False
section
variable {P:Program}{w:World}{H:Hp}{h h':Heap}{x e:Addr}{o':HO}
def HOk.write (ok:HOk P w H h)(mu:Mut (H x))(he:e=x\/H e=some (.own x))(k:∀b u,b≠e->h.get? b=some u->h'.get? b=some u)(heo:∃u,h'.get? e=some u)
 (new:ZR P w (upd H x o') h' x o'):HOk P w (upd H x o') h':=fun b u q=>by
 have nown:∀c y,H c=some (.own y)->c≠x:=fun c y r z=>by subst z;rw[r]at mu;exact mu
 have ntup:∀c xs,H c=some (.tup xs)->c≠x:=fun c xs r z=>by subst z;rw[r]at mu;exact mu
 by_cases hb:b=x
 ·subst hb;rw[Zg]at q;cases q;exact new
 ·rw[Q7 hb]at q
  by_cases hbe:b=e
  ·have q':H b=some (.own x):=by
    rcases he with z|z
    ·exact Xi (hbe.trans z) hb
    ·rw[hbe];exact z
   rw[q]at q';cases q';obtain⟨v,hv⟩:=heo
   exact⟨v,by rw[hbe];exact hv⟩
  ·refine(ok b u q).stay (fun c v hc r=>k c v ?_ r) (fun c r=>by rw[Q7 (nown c b r)];exact r) fun c xs r=>by rw[Q7 (ntup c xs r)];exact r
   rcases hc with rfl|hc
   ·exact hbe
   ·rintro rfl
    rcases he with z|z
    ·exact nown c b hc z
    ·rw[hc]at z;cases z;exact hb rfl
end
structure Un (fs ex:Qg)(H H':Hp)(h h':Heap):Prop where
 keep:∀b o,h.get? b=some o->H b=none->b∉fs->b∉ex->h'.get? b=some o
 slot:∀b o,h.get? b=some o->H b=none->b∈fs->b∉ex->∃sl,h'.get? b=some { o with slots:=sl }
 free:∀b o,h.get? b=some o->H b=none->b∉ex->H' b=none
 there:∀b o,h.get? b=some o->b∉ex->∃o',h'.get? b=some o'
 tups:∀b xs,H b=some (.tup xs)->H' b=some (.tup xs)
 frzs:∀b o u,H b=some (.frz o u)->H' b=some (.frz o u)
 tupo:∀b xs o,H b=some (.tup xs)->h.get? b=some o->b∉ex->h'.get? b=some o
 tbls:∀b ps,H b=some (.tbl ps)->∃more,H' b=some (.tbl (ps++more))
section
variable {fs fs' ex ex':Qg}{H H1 H2:Hp}{h h1 h2 h':Heap}{a x e:Addr}{o:HO}
def Un.any (u:Un fs ex H H1 h h1){b:Addr}{ob:Obj}(q:h.get? b=some ob)(n:H b=none)(hx:b∉ex):∃sl,h1.get? b=some { ob with slots:=sl }:=by
 by_cases hb:b∈fs
 ·exact u.slot b ob q n hb hx
 ·exact⟨ob.slots,u.keep b ob q n hb hx⟩
def Un.kept (k:∀b u,h.get? b=some u->h'.get? b=some u):Un fs ex H H h h' :=
 ⟨fun b ob q _ _ _=>k b ob q,fun b ob q _ _ _=>⟨ob.slots,k b ob q⟩,fun _ _ _ n _=>n,fun b ob q _=>⟨ob,k b ob q⟩,fun _ _ q=>q,fun _ _ _ q=>q,fun b _ ob _ e _=>k b ob e,fun _ ps q=>⟨#[],by rw[q];simp⟩⟩
def Un.refl:Un fs ex H H h h:=Un.kept fun _ _ q=>q
theorem Un.laid (k:∀b u,h.get? b=some u->h'.get? b=some u)(hp:h.objs.size<=a)(hn:H a=none):Un fs ex H (upd H a o) h h' where
 keep:=fun b u q _ _ _=>k b u q
 slot:=fun b u q _ _ _=>⟨u.slots,k b u q⟩
 free:=fun b u q n _=>by rw[Q7 (Xr (Xz (Xm q) hp))];exact n
 there:=fun b u q _=>⟨u,k b u q⟩
 tups:=fun b xs q=>by rw[Q7 (Vd q hn)];exact q
 frzs:=fun b u xs q=>by rw[Q7 (Vd q hn)];exact q
 tupo:=fun b _ ob _ e _=>k b ob e
 tbls:=fun b ps q=>⟨#[],by rw[Q7 (Vd q hn),q];simp⟩
def Un.write (mu:Mut (H x))(he:e=x\/H e=some (.own x))(k:∀b u,b≠e->h.get? b=some u->h'.get? b=some u)(heo:∃u,h'.get? e=some u):Un fs ex H (upd H x o) h h':=by
 have hx:∀b,H b=none->b≠x:=fun b n z=>by subst z;rw[n]at mu;exact mu
 have hb:∀b,H b=none->b≠e:=fun b n z=>by
  subst z;rcases he with r|r
  ·exact hx b n r
  ·rw[n]at r;cases r
 have hm:∀b u,H b=some u->¬Mut (some u)->b≠x:=fun b u q nm z=>by subst z;rw[q]at mu;exact nm mu
 refine⟨fun b u q n _ _=>k b u (hb b n) q,fun b u q n _ _=>⟨u.slots,k b u (hb b n) q⟩,fun b u q n _=>by rw[Q7 (hx b n)];exact n,fun b u q _=>?_,
  fun b xs q=>by rw[Q7 (hm b _ q fun z=>z)];exact q,fun b u xs q=>by rw[Q7 (hm b _ q fun z=>z)];exact q,fun b xs u q e' _=>k b u (fun z=>by
   rcases he with r|r
   ·exact hm b _ q (fun y=>y) (z.trans r)
   ·rw[<- z,q]at r;cases r) e',fun b ps q=>⟨#[],by rw[Q7 (hm b _ q fun z=>z),q];simp⟩⟩
 by_cases hbe:b=e
 ·subst hbe;exact heo
 ·exact⟨u,k b u hbe q⟩
end
def trk (h:Heap)(H:Hp):Qg:=(List.range h.objs.size).filter fun a=>(H a).isSome
def Jj (h:Heap)(H:Hp):Heap:=W.hideAll h (trk h H)
def Es (h:Heap)(H:Hp):(Jj h H).objs.size=h.objs.size:=W.hideAll_size _ _
def AZ {h:Heap}{H:Hp}{b:Addr}{o:Obj}(e:h.get? b=some o)(n:H b=none):(Jj h H).get? b=some o :=
 W.hideAll_get _ e fun hm=>by
  have q:(H b).isSome=true:=(Y4.mp hm).2;rw[n]at q;simp at q
def CC {h:Heap}{H:Hp}{b:Addr}{o:Obj}(e:(Jj h H).get? b=some o):h.get? b=some o/\H b=none:=by
 have e':h.get? b=some o:=W.of_hideAll (trk h H) e;refine⟨e',?_⟩
 cases q:H b with
 |none=>rfl
 |some x =>
   have hm:b∈trk h H:=Y4.mpr ⟨Xn.mpr (Xm e'),by simp[q]⟩;have z:(Jj h H).get? b=none:=W.hideAll_none (trk h H) hm;rw[z]at e;cases e
structure Mod (K:W.Frag)(mg:Str->Qf)(base:Heap):Prop where
 kin:K.In base
 glob:base.Ns mainGlobals mg
 blt:∃mb,base.Ns builtinsNs mb/\∀x:Str,x ≠ "__name__" -> mb x=bootBuiltins x
 nolimit:base.NoLimit
structure Cx where
 prog:Program
 w:World
 K:W.Frag
 mg:Str->Qf
 base:Heap
 A:Around
 N:Qh
 s₀:Shared
 H₀:Hp
 env:Env
 outer:List Env
 stack:List Env
 ex:Qg
 fn:Str->Bool
 calm:Bool
 pn:Qc
 xe:Qb
def frs (l:List Env):Qg:=l.filterMap (·.frame)
abbrev Cx.fs (X:Cx):Qg:=frs X.outer
def Vis (sc:Scope)(x:Str):Prop:=sc.names.lookup x=some .local\/sc.names.lookup x=some .cell\/sc.names.lookup x=some .free
def Loc (sc:Scope)(x:Str):Prop:=sc.names.lookup x=some .local\/sc.names.lookup x=some .cell
def Lu (env:Env)(h:Heap)(m:Str->Qf)(x:Str)(u:Value):Prop :=
 (env.kindOf x=some .local/\m x=some u)\/((env.kindOf x=some .cell\/env.kindOf x=some .free)/\∃c,env.cells.lookup x=some c/\h.IsCell c (some u))
structure Cx.Ok (X:Cx):Prop where
 mod:Mod X.K X.mg X.base
 kind:X.env.scope.kind=.function
 glob:X.env.globals=mainGlobals
 blt:X.env.builtins=builtinsNs
 above:X.s₀.heap.objs.size<=X.env.locals
 inj:∀x y c,X.env.cells.lookup x=some c->X.env.cells.lookup y=some c->x=y
 has:∀x,(X.env.kindOf x=some .cell\/X.env.kindOf x=some .free)->∃c,X.env.cells.lookup x=some c
 cab:∀x c,X.fn x=true->X.env.cells.lookup x=some c->X.s₀.heap.objs.size<=c
 hd:X.calm=true->X.A.handled=none
 frames:X.A.frames=some X.stack
 stk:X.stack=X.outer\/(X.stack=X.env::X.outer/\X.env.frame=some X.env.locals)
 exf:∀b∈X.ex,b≠X.env.locals/\∀x c,X.env.cells.lookup x=some c->c≠b
 bs:∀b o,X.base.get? b=some o->X.s₀.heap.get? b=some o/\(X.H₀ b=none\/∃xs,X.H₀ b=some (.tup xs))
 bsz:X.base.objs.size<=X.s₀.heap.objs.size
 noex:∀b o,X.base.get? b=some o->b∉X.ex
 exfs:∀b∈X.ex,b∉X.fs
 funs:X.s₀.heap.FunFrames X.base X.outer
 frf:∀b∈X.fs,X.H₀ b=none
structure Qu (X:Cx)(Xbo:Qc)(σ:List (Option V))(H:Hp)(s:Shared):Prop where
 ok:X.Ok
 os:s.os=X.s₀.os
 bare:AllBare s.gens
 base:Un X.fs X.ex X.H₀ H X.s₀.heap s.heap
 loc:∃m,s.heap.Ns X.env.locals m/\∀(i:Nat) (x:Str) (v:V),X.N[i]?=some x->σ[i]?=some (some v)->Vis X.env.scope x->∃u,QR v u/\Lu X.env s.heap m x u
 cell:∀x c,X.env.cells.lookup x=some c->∃v,s.heap.IsCell c v
 free:H X.env.locals=none
 freeC:∀x c,X.env.cells.lookup x=some c->H c=none
 pin:∀p∈X.pn++Xbo,s.heap.get? p.1=some p.2/\H p.1=none/\p.1≠X.env.locals/\p.1∉X.fs/\∀v,p.2.data≠.cell v
 hok:HOk X.prog X.w H s.heap
 len:σ.length=X.N.length
section
variable {X:Cx}{Xbo:Qc}{σ:List (Option V)}{H H':Hp}{s:Shared}{h':Heap}
def Cx.Ok.nofr (ok:X.Ok){b:Addr}{o:Obj}(e:X.base.get? b=some o):b∉X.fs:=fun hb=>by
 have:=(ok.funs.mem hb).1
 rw[e]at this;cases this
def Qu.bs (I:Qu X Xbo σ H s):∀b o,X.base.get? b=some o->s.heap.get? b=some o/\(H b=none\/∃xs,H b=some (.tup xs)):=fun b o e=>by
 obtain⟨e1,e2⟩:=I.ok.bs b o e
 rcases e2 with e2|⟨xs,e2⟩
 ·exact⟨I.base.keep b o e1 e2 (I.ok.nofr e) (I.ok.noex b o e),.inl (I.base.free b o e1 e2 (I.ok.noex b o e))⟩
 ·exact⟨I.base.tupo b xs o e2 e1 (I.ok.noex b o e),.inr ⟨xs,I.base.tups b xs e2⟩⟩
def Qu.bk (I:Qu X Xbo σ H s):∀b o,X.base.get? b=some o->s.heap.get? b=some o:=fun b o e=>(I.bs b o e).1
def Qu.mod (I:Qu X Xbo σ H s):Mod X.K X.mg X.base:=I.ok.mod
def Qu.kIn (I:Qu X Xbo σ H s):X.K.In s.heap:=I.ok.mod.kin.keeps I.bk
def Qu.lt (I:Qu X Xbo σ H s):X.env.locals<s.heap.objs.size:=let ⟨_,hn,_⟩:=I.loc;hn.lt
def Qu.sz (I:Qu X Xbo σ H s):X.s₀.heap.objs.size<=s.heap.objs.size:=XI I.ok.above (X9 I.lt)
def Qu.nofs (I:Qu X Xbo σ H s){a:Addr}(h:s.heap.objs.size<=a):a∉X.fs:=fun hb=>by
 obtain⟨_,o,ho,_⟩:=I.ok.funs.mem hb;exact Xi (Xz (Xm ho) (XI I.sz h)) (YY _)
def Qu.cne (I:Qu X Xbo σ H s):∀x c,X.env.cells.lookup x=some c->c≠X.env.locals:=fun x c e z=>by
 obtain⟨v,o,ho,hd⟩:=I.cell x c e;obtain⟨m,⟨o',es,ep,ho',hd',_⟩,_⟩:=I.loc;rw[z,ho']at ho;cases ho;rw[hd']at hd;cases hd
def Qu.funs (I:Qu X Xbo σ H s):s.heap.FunFrames X.base X.outer:=by
 have all:∀(l:List Env),(∀b∈frs l,b∈X.fs)->X.s₀.heap.FunFrames X.base l->s.heap.FunFrames X.base l:=by
  intro l;induction l with
  |nil=>intro _ _;trivial
  |cons env r ih =>
    intro hs hl;obtain⟨hk,⟨L,o,hf,hn,ho,hd⟩,hr⟩:=hl;have hL:L∈X.fs:=hs L (by unfold frs;rw[List.filterMap_cons,hf];exact Xc);obtain⟨sl,e⟩:=I.base.slot L o ho (I.ok.frf L hL) hL fun z=>I.ok.exfs L z hL
    exact⟨hk,⟨L,_,hf,hn,e,hd⟩,ih (fun b hb=>hs b (by unfold frs;rw[List.filterMap_cons,hf];exact Xf _ hb)) hr⟩
 exact all X.outer (fun _ hb=>hb) I.ok.funs
def Qu.stack (I:Qu X Xbo σ H s):s.heap.FunFrames X.base X.stack:=by
 rcases I.ok.stk with e|⟨e,hf⟩
 ·rw[e];exact I.funs
 ·rw[e]
  obtain⟨m,hn,_⟩:=I.loc;refine .cons (by rw[I.ok.kind];decide) hf hn ?_ I.funs;exact Heap.get?_none_of_le (XI I.ok.bsz I.ok.above)
def Qu.stkSub (I:Qu X Xbo σ H s):∀b∈frs X.stack,b∈X.env.locals::X.fs:=fun b hb=>by
 rcases I.ok.stk with e|⟨e,hf⟩
 ·rw[e]at hb;exact Xf _ hb
 ·rw[e]at hb
  unfold frs at hb;rw[List.filterMap_cons,hf]at hb;exact hb
def Qu.stkFree (I:Qu X Xbo σ H s):∀b∈frs X.stack,H b=none:=fun b hb=>by
 rcases Xg.mp (I.stkSub b hb) with e|hb
 ·rw[e];exact I.free
 ·obtain⟨_,o,ho,_⟩:=I.ok.funs.mem hb
  exact I.base.free b o ho (I.ok.frf b hb) fun z=>I.ok.exfs b z hb
def Qu.step {g':Array GenState}{t':Nat}{d':Drawn}{ch:Qg}(I:Qu X Xbo σ H s)
 (hch:∀b∈ch,(b∈X.ex\/X.s₀.heap.objs.size<=b)/\b≠X.env.locals/\(∀x c,X.env.cells.lookup x=some c->c≠b)/\∀p∈X.pn++Xbo,p.1≠b)
 (keep:∀b o,b≠X.env.locals->b∉X.fs->b∉ch->s.heap.get? b=some o->H b=none->h'.get? b=some o)
 (slot:∀b o,b≠X.env.locals->b∈X.fs->b∉ch->s.heap.get? b=some o->H b=none->∃sl,h'.get? b=some { o with slots:=sl }) (free:∀b o,b∉ch->s.heap.get? b=some o->H b=none->H' b=none)
 (there:∀b o,b∉ch->s.heap.get? b=some o->∃o',h'.get? b=some o')
 (tups:∀b xs,H b=some (.tup xs)->H' b=some (.tup xs)) (frzs:∀b o u,H b=some (.frz o u)->H' b=some (.frz o u)) (tbls:∀b ps,H b=some (.tbl ps)->∃more,H' b=some (.tbl (ps++more)))
 (ns:∀m,s.heap.Ns X.env.locals m->h'.Ns X.env.locals m) (hok:HOk X.prog X.w H' h') (hg:AllBare g') (tupo:∀b xs o,b∉ch->H b=some (.tup xs)->s.heap.get? b=some o->h'.get? b=some o) :
 Qu X Xbo σ H' { s with heap:=h',gens:=g',drawn:=d',toks:=t' }:=by
 have neL:∀b o,X.s₀.heap.get? b=some o->b≠X.env.locals:=fun b o e=>Xr (Xz (Xm e) I.ok.above)
 have neC:∀b o,X.s₀.heap.get? b=some o->b∉X.ex->b∉ch:=fun b o e hx hb=>by
  rcases(hch b hb).1 with z|z
  ·exact hx z
  ·exact Xi (Xz (Xm e) z) (YY _)
 have cellK:∀x c,X.env.cells.lookup x=some c->∀v,s.heap.IsCell c v->h'.IsCell c v:=fun x c e v ⟨o,ho,hd⟩=>by
  have nch:c∉ch:=fun z=>(hch c z).2.2.1 x c e rfl
  by_cases hc:c∈X.fs
  ·obtain⟨sl,q⟩:=slot c o (I.cne x c e) hc nch ho (I.freeC x c e)
   exact⟨_,q,hd⟩
  ·exact⟨o,keep c o (I.cne x c e) hc nch ho (I.freeC x c e),hd⟩
 refine⟨I.ok,I.os,hg,⟨fun b o e n hb hx=>?_,fun b o e n hb hx=>?_,fun b o e n hx=>?_,fun b o e hx=>?_,fun b xs e=>tups b xs (I.base.tups b xs e),fun b o xs e=>frzs b o xs (I.base.frzs b o xs e),fun b xs o q e hx=>tupo b xs o (neC b o e hx) (I.base.tups b xs q) (I.base.tupo b xs o q e hx),fun b ps e=>?_⟩,?_,fun x c e=>?_,?_,fun x c e=>?_,fun p hp=>?_,hok,I.len⟩
 ·exact keep b o (neL b o e) hb (neC b o e hx) (I.base.keep b o e n hb hx) (I.base.free b o e n hx)
 ·obtain⟨sl,e1⟩:=I.base.slot b o e n hb hx
  obtain⟨sl',e2⟩:=slot b _ (neL b o e) hb (neC b o e hx) e1 (I.base.free b o e n hx)
  exact⟨sl',e2⟩
 ·obtain⟨o',e1⟩:=I.base.there b o e hx
  exact free b o' (neC b o e hx) e1 (I.base.free b o e n hx)
 ·obtain⟨o',e1⟩:=I.base.there b o e hx
  exact there b o' (neC b o e hx) e1
 ·obtain⟨m1,e1⟩:=I.base.tbls b ps e
  obtain⟨m2,e2⟩:=tbls b _ e1
  exact⟨m1++m2,by rw[e2,Array.append_assoc]⟩
 ·obtain⟨m,hn,hl⟩:=I.loc
  refine⟨m,ns m hn,fun i x v e1 e2 e3=>?_⟩;obtain⟨u,r,l⟩:=hl i x v e1 e2 e3;refine⟨u,r,?_⟩
  rcases l with l|⟨k,c,e,z⟩
  ·exact .inl l
  ·exact .inr ⟨k,c,e,cellK x c e _ z⟩
 ·obtain⟨v,z⟩:=I.cell x c e
  exact⟨v,cellK x c e v z⟩
 ·obtain⟨m,⟨o,_,_,ho,_⟩,_⟩:=I.loc
  exact free _ o (fun z=>(hch _ z).2.1 rfl) ho I.free
 ·obtain⟨v,o,ho,hd⟩:=I.cell x c e
  exact free c o (fun z=>(hch c z).2.2.1 x c e rfl) ho (I.freeC x c e)
 ·obtain⟨e,n,ne,nf,d⟩:=I.pin p hp
  have nch:p.1∉ch:=fun z=>(hch p.1 z).2.2.2 p hp rfl
  exact⟨keep p.1 p.2 ne nf nch e n,free p.1 p.2 nch e n,ne,nf,d⟩
def Qu.un {t':Nat}(I:Qu X Xbo σ H s)(u:Un X.fs [] H H' s.heap h')(hok:HOk X.prog X.w H' h'):Qu X Xbo σ H' { s with heap:=h',toks:=t' }:=by
 obtain⟨m,⟨o,es,ep,ho,r⟩,_⟩:=id I.loc;obtain⟨sl,hL⟩:=u.any ho I.free (by simp)
 exact I.step (g':=s.gens) (d':=s.drawn) (ch:=[]) (fun _ z=>nomatch z) (fun b o _ hb _ e n=>u.keep b o e n hb (by simp)) (fun b o _ hb _ e n=>u.slot b o e n hb (by simp)) (fun b o _ e n=>u.free b o e n (by simp)) (fun b o _ e=>u.there b o e (by simp)) u.tups u.frzs u.tbls (fun m' hm=>by
  obtain⟨o',es',ep',ho',r'⟩:=hm;rw[ho]at ho';cases ho';exact⟨_,es',ep',hL,r'⟩) hok I.bare (fun b xs o _ q e=>u.tupo b xs o q e (by simp))
def Qu.call {g':Array GenState}{t':Nat}{d':Drawn}{ch:Qg}(I:Qu X Xbo σ H s)(u:Un (frs X.stack) ch H H' s.heap h')(hok:HOk X.prog X.w H' h')(hg:AllBare g')
 (hch:∀b∈ch,(b∈X.ex\/X.s₀.heap.objs.size<=b)/\b≠X.env.locals/\(∀x c,X.env.cells.lookup x=some c->c≠b)/\∀p∈X.pn++Xbo,p.1≠b) :
 Qu X Xbo σ H' { s with heap:=h',gens:=g',drawn:=d',toks:=t' }:=by
 obtain⟨m,⟨o,es,ep,ho,r⟩,_⟩:=id I.loc;obtain⟨sl,hL⟩:=u.any ho I.free fun z=>(hch _ z).2.1 rfl
 exact I.step (ch:=ch) hch (fun b o hL hb hc e n=>u.keep b o e n (fun z=>(Xg.mp (I.stkSub b z)).elim hL hb) hc) (fun b o _ _ hc e n=>u.any e n hc) (fun b o hc e n=>u.free b o e n hc) (fun b o hc e=>u.there b o e hc) u.tups u.frzs u.tbls (fun m' hm=>by
  obtain⟨o',es',ep',ho',r'⟩:=hm;rw[ho]at ho';cases ho';exact⟨_,es',ep',hL,r'⟩) hok hg (fun b xs o hc q e=>u.tupo b xs o q e hc)
def Qu.turned {t':Nat}{it:Addr}(I:Qu X Xbo σ H s)(k:∀b o,b≠it->s.heap.get? b=some o->h'.get? b=some o)(hn:H it=none)(hL:it≠X.env.locals)
 (h1:it∈X.ex\/X.s₀.heap.objs.size<=it) (h2:∀x c,X.env.cells.lookup x=some c->c≠it) (h3:∀p∈X.pn++Xbo,p.1≠it):Qu X Xbo σ H { s with heap:=h',toks:=t' }:=by
 have nit:∀b u,H b=some u->b≠it:=fun b u e z=>by rw[z,hn]at e;cases e
 refine I.step (g':=s.gens) (d':=s.drawn) (ch:=[it]) (fun b hb=>?_) (fun b o _ _ hc e _=>k b o (fun z=>hc (by simp[z])) e) (fun b o _ _ hc e _=>⟨o.slots,k b o (fun z=>hc (by simp[z])) e⟩) (fun _ _ _ _ n=>n)
  (fun b o hc e=>⟨o,k b o (fun z=>hc (by simp[z])) e⟩) (fun _ _ e=>e) (fun _ _ _ e=>e) (fun b ps e=>⟨#[],by rw[e];simp⟩) (fun m hm=>?_) (fun b u e=>?_) I.bare (fun b _ o hc _ e=>k b o (fun z=>hc (by simp[z])) e)
 ·have e:b=it:=by simpa using hb
  subst e;exact⟨h1,hL,h2,h3⟩
 ·obtain⟨o,es,ep,ho,r⟩:=hm
  exact⟨o,es,ep,k _ o (Ne.symm hL) ho,r⟩
 ·refine(I.hok b u e).stay (fun c v hc q=>k c v ?_ q) (fun _ q=>q) fun _ _ q=>q
  rcases hc with z|z
  ·rw[z];exact nit b u e
  ·exact nit c _ z
def Qu.tok (I:Qu X Xbo σ H s)(t:Nat):Qu X Xbo σ H { s with toks:=t }:=I.un (h':=s.heap) (t':=t) Un.refl I.hok
def Qu.kept {t':Nat}(I:Qu X Xbo σ H s)(k:∀b u,s.heap.get? b=some u->h'.get? b=some u):Qu X Xbo σ H { s with heap:=h',toks:=t' }:=I.un (Un.kept k) (I.hok.kept k)
def Qu.laid {a:Addr}{o:HO}{t':Nat}(I:Qu X Xbo σ H s)(k:∀b u,s.heap.get? b=some u->h'.get? b=some u)(hp:s.heap.objs.size<=a)(new:ZR X.prog X.w (upd H a o) h' a o) :
 Qu X Xbo σ (upd H a o) { s with heap:=h',toks:=t' }:=I.un (Un.laid k hp (I.hok.fresh hp)) (I.hok.laid k hp new)
def Qu.write {x e:Addr}{o:HO}{t':Nat}(I:Qu X Xbo σ H s)(mu:Mut (H x))(he:e=x\/H e=some (.own x))(k:∀b u,b≠e->s.heap.get? b=some u->h'.get? b=some u)(heo:∃u,h'.get? e=some u)
 (new:ZR X.prog X.w (upd H x o) h' x o):Qu X Xbo σ (upd H x o) { s with heap:=h',toks:=t' }:=I.un (Un.write mu he k heo) (I.hok.write mu he k heo new)
def Qu.weak {σ':List (Option V)}(I:Qu X Xbo σ H s)(hl:σ'.length=σ.length)(w:∀(i:Nat) v,σ'[i]?=some (some v)->σ[i]?=some (some v)):Qu X Xbo σ' H s :=
 ⟨I.ok,I.os,I.bare,I.base,let ⟨m,hn,hl'⟩:=I.loc;⟨m,hn,fun i x v e1 e2 e3=>hl' i x v e1 (w i v e2) e3⟩,I.cell,I.free,I.freeC,I.pin,I.hok,hl.trans I.len⟩
def Qu.pins_of {pins':Qc}(I:Qu X Xbo σ H s)(h:∀p∈pins',s.heap.get? p.1=some p.2/\H p.1=none/\p.1≠X.env.locals/\p.1∉X.fs/\∀v,p.2.data≠.cell v):Qu X pins' σ H s :=
 ⟨I.ok,I.os,I.bare,I.base,I.loc,I.cell,I.free,I.freeC,fun p hp=>(XC.mp hp).elim (fun z=>I.pin p (JF _ z)) (h p),I.hok,I.len⟩
def Pt {N:Qh}(hN:N.Nodup){i j:Nat}{x:Str}(a:N[i]?=some x)(b:N[j]?=some x):i=j:=by
 obtain⟨h1,e1⟩:=Xe.mp a;obtain⟨h2,e2⟩:=Xe.mp b
 exact(List.getElem_inj hN).mp (e1.trans e2.symm)
def PK {M:Model}{A:Around}{E:Qb}{i:Nat}{x:Str}{v:V}{u:Value}{Q:Unit->Shared->Prop}(I:Qu X Xbo σ H s)(hN:X.N.Nodup)(hi:X.N[i]?=some x)(hx:Loc X.env.scope x)(r:QR v u)
 (h:∀s',Qu X Xbo (σ.set i (some v)) H s'->(∃a,Heap.SameBut a s.heap s'.heap/\(a=X.env.locals\/X.env.cells.lookup x=some a))->Q () s') (hf:X.fn x=true\/X.env.scope.names.lookup x=some .local:=by first|exact .inl rfl|exact .inr rfl|assumption):wpAny M A (storeName X.env x u) Q E s:=by
 obtain⟨m,hn,hl⟩:=id I.loc;have hcls:(X.env.scope.kind==.class||(X.env.scope.kind==.module&&X.env.locals != X.env.globals))=false:=by rw[I.ok.kind];rfl
 have hiσ:i<σ.length:=by rw[I.len];exact(Xe.mp hi).1
 have cne:=I.cne
 have tracked:∀{a:Addr} {h':Heap},(∃o,s.heap.get? a=some o/\H a=none)->Heap.SameBut a s.heap h'->HOk X.prog X.w H h':=fun{a h'} ha hs b ob e=>by
  obtain⟨_,_,hfree⟩:=ha;refine(I.hok b ob e).stay (fun c w' hc q=>(hs.2 c ?_).trans q) (fun _ q=>q) fun _ _ q=>q
  rintro rfl
  rcases hc with rfl|hc
  ·rw[hfree]at e;cases e
  ·rw[hfree]at hc;cases hc
 rcases hx with hk|hk
 ·refine wpAny_storeName_local hk hn (fun h' hn' hs=>?_) hcls
  obtain⟨oL,_,_,hoL,_⟩:=id hn;refine h _ ⟨I.ok,I.os,I.bare,⟨fun b o e n hb hx=>?_,fun b o e n hb hx=>?_,I.base.free,fun b o e hx=>?_,I.base.tups,I.base.frzs,fun b xs o q e hx=>(hs.2 b (Xr (Xz (Xm e) I.ok.above))).trans (I.base.tupo b xs o q e hx),I.base.tbls⟩,⟨_,hn',fun j y v' e1 e2 e3=>?_⟩,fun y c e=>?_,I.free,I.freeC,fun p hp=>?_,tracked ⟨oL,hoL,I.free⟩ hs,by simpa using I.len⟩ ⟨_,hs,.inl rfl⟩
  ·exact(hs.2 b (Xr (Xz (Xm e) I.ok.above))).trans (I.base.keep b o e n hb hx)
  ·obtain⟨sl,e1⟩:=I.base.slot b o e n hb hx
   exact⟨sl,(hs.2 b (Xr (Xz (Xm e) I.ok.above))).trans e1⟩
  ·obtain⟨o',e1⟩:=I.base.there b o e hx
   exact⟨o',(hs.2 b (Xr (Xz (Xm e) I.ok.above))).trans e1⟩
  ·by_cases hj:j=i
   ·subst hj
    rw[hi]at e1;cases e1;rw[XL hiσ]at e2;cases e2
    exact⟨u,r,.inl ⟨hk,by simp⟩⟩
   ·rw[XT (Ne.symm hj)]at e2
    obtain⟨u',r',q⟩:=hl j y v' e1 e2 e3;refine⟨u',r',?_⟩
    rcases q with ⟨k,e⟩|⟨k,c,e,z⟩
    ·refine .inl ⟨k,?_⟩
     have:y≠x:=fun e=>hj (Pt hN e1 (e▸hi))
     simp[this,e]
    ·exact .inr ⟨k,c,e,z.sameBut hs (cne y c e)⟩
  ·obtain⟨w',z⟩:=I.cell y c e
   exact⟨w',z.sameBut hs (cne y c e)⟩
  ·obtain⟨e,n,ne,nf,d⟩:=I.pin p hp
   exact⟨(hs.2 p.1 ne).trans e,n,ne,nf,d⟩
 ·have hfn:X.fn x=true:=by
   rcases hf with z|z
   ·exact z
   ·rw[z]at hk;cases hk
  obtain⟨c,hc⟩:=I.ok.has x (.inl hk);obtain⟨w',z⟩:=I.cell x c hc;refine wpAny_storeName_cell I.ok.kind hk hc z (fun h' hc' hs=>?_);obtain⟨oc,hoc,hocd⟩:=id z;refine h { s with heap:=h' } ⟨I.ok,I.os,I.bare,⟨fun b o e n hb hx=>?_,fun b o e n hb hx=>?_,I.base.free,fun b o e hx=>?_,I.base.tups,I.base.frzs,fun b xs o q e hx=>(hs.2 b (Xr (Xz (Xm e) (I.ok.cab x c hfn hc)))).trans (I.base.tupo b xs o q e hx),I.base.tbls⟩,⟨m,hn.sameBut hs (Ne.symm (cne x c hc)),fun j y v' e1 e2 e3=>?_⟩,fun y c' e=>?_,I.free,I.freeC,fun p hp=>?_,tracked ⟨oc,hoc,I.freeC x c hc⟩ hs,by simpa using I.len⟩ ⟨c,hs,.inr hc⟩
  ·exact(hs.2 b (Xr (Xz (Xm e) (I.ok.cab x c hfn hc)))).trans (I.base.keep b o e n hb hx)
  ·obtain⟨sl,e1⟩:=I.base.slot b o e n hb hx
   exact⟨sl,(hs.2 b (Xr (Xz (Xm e) (I.ok.cab x c hfn hc)))).trans e1⟩
  ·obtain⟨o',e1⟩:=I.base.there b o e hx
   exact⟨o',(hs.2 b (Xr (Xz (Xm e) (I.ok.cab x c hfn hc)))).trans e1⟩
  ·by_cases hj:j=i
   ·subst hj
    rw[hi]at e1;cases e1;rw[XL hiσ]at e2;cases e2
    exact⟨u,r,.inr ⟨.inl hk,c,hc,hc'⟩⟩
   ·rw[XT (Ne.symm hj)]at e2
    obtain⟨u',r',q⟩:=hl j y v' e1 e2 e3;refine⟨u',r',?_⟩
    rcases q with q|⟨k,c',e,z'⟩
    ·exact .inl q
    ·refine .inr ⟨k,c',e,z'.sameBut hs ?_⟩
     rintro rfl
     exact hj (Pt hN e1 (I.ok.inj _ _ _ e hc▸hi))
  ·by_cases hcc:c'=c
   ·subst hcc;exact⟨_,hc'⟩
   ·obtain⟨w2,z2⟩:=I.cell y c' e
    exact⟨w2,z2.sameBut hs hcc⟩
  ·obtain⟨e,n,ne,nf,d⟩:=I.pin p hp
   refine⟨(hs.2 p.1 ?_).trans e,n,ne,nf,d⟩;intro q;rw[q,hoc]at e;have q':oc=p.2:=Option.some.inj e;exact d w' (by rw[<- q'];exact hocd)
def K5 {M:Model}{A:Around}{E:Qb}{i:Nat}{x:Str}{v:V}{u:Value}{Q:Unit->Shared->Prop}(I:Qu X Xbo σ H s)(hN:X.N.Nodup)(hi:X.N[i]?=some x)(hx:Loc X.env.scope x)(r:QR v u)
 (h:∀s',Qu X Xbo (σ.set i (some v)) H s'->Q () s') (hf:X.fn x=true\/X.env.scope.names.lookup x=some .local:=by first|exact .inl rfl|exact .inr rfl|assumption):wpAny M A (storeName X.env x u) Q E s :=
 PK I hN hi hx r (fun s' I' _=>h s' I') hf
def Qu.call' {s':Shared}{ch:Qg}(I:Qu X Xbo σ H s)(ho:s'.os=s.os)(u:Un (frs X.stack) ch H H' s.heap s'.heap)(hok:HOk X.prog X.w H' s'.heap)(hg:AllBare s'.gens)
 (hch:∀b∈ch,(b∈X.ex\/X.s₀.heap.objs.size<=b)/\b≠X.env.locals/\(∀x c,X.env.cells.lookup x=some c->c≠b)/\∀p∈X.pn++Xbo,p.1≠b):Qu X Xbo σ H' s':=by
 obtain⟨h',g',d',t',o'⟩:=s';have e:o'=s.os:=ho;subst e;exact I.call (g':=g') (t':=t') (d':=d') u hok hg hch
end
abbrev XK:=Value->Qj->Hp->Prop
abbrev St:=List (Option V)
abbrev VK:=V->Hp->Prop
abbrev TE:=St->Hp->VK->Prop
abbrev TT:=St->Hp->(Bool->Hp->Prop)->Prop
abbrev TA:=St->Hp->(List V->Hp->Prop)->Prop
structure Ends where
 nx:St->Hp->Prop
 rt:VK
 bk:St->Hp->Prop:=fun _ _=>False
 ct:St->Hp->Prop:=fun _ _=>False
abbrev TS:=Ends->St->Hp->Prop
def EP (X:Cx)(Xbo:Qc)(σ:St)(Q:VK)(u:Value)(s':Shared):Prop := ∃v H',Qu X Xbo σ H' s'/\QR v u/\Q v H'
def TP (X:Cx)(Xbo:Qc)(σ:St)(Q:Bool->Hp->Prop)(b:Bool)(s':Shared):Prop := ∃H',Qu X Xbo σ H' s'/\Q b H'
def AP (X:Cx)(Xbo:Qc)(σ:St)(Q:List V->Hp->Prop)(us:Qe)(s':Shared):Prop := ∃vs H',Qu X Xbo σ H' s'/\Zf vs us/\Q vs H'
def SP (X:Cx)(Xbo:Qc)(D:Ends)(f:Flow)(s':Shared):Prop :=
 match f with
 |.next=>∃σ' H',Qu X Xbo σ' H' s'/\D.nx σ' H'
 |.brk=>∃σ' H',Qu X Xbo σ' H' s'/\D.bk σ' H'
 |.cont=>∃σ' H',Qu X Xbo σ' H' s'/\D.ct σ' H'
 |.ret u=>∃v σ' H',Qu X Xbo σ' H' s'/\QR v u/\D.rt v H'
def PE (X:Cx)(e:Expr)(t:TE):Prop :=
 ∀(Xbo:Qc) (s:Shared) (σ:St) (H:Hp) (Q:VK),Qu X Xbo σ H s->t σ H Q->wpAny (model X.prog X.w) X.A (eval e X.env) (EP X Xbo σ Q) X.xe s
def PT (X:Cx)(e:Expr)(t:TT):Prop :=
 ∀(Xbo:Qc) (s:Shared) (σ:St) (H:Hp) (Q:Bool->Hp->Prop),Qu X Xbo σ H s->t σ H Q->wpAny (model X.prog X.w) X.A (isTrue e X.env (eval e X.env)) (TP X Xbo σ Q) X.xe s
def PW (X:Cx)(e:Expr)(t:TT):Prop :=
 ∀(whole:Sem Value) (Xbo:Qc) (s:Shared) (σ:St) (H:Hp) (Q:Bool->Hp->Prop),Qu X Xbo σ H s->t σ H Q->wpAny (model X.prog X.w) X.A (isTrue e X.env whole) (TP X Xbo σ Q) X.xe s
def PW.pt {X:Cx}{e:Expr}{t:TT}(h:PW X e t):PT X e t:=h _
def PA (X:Cx)(es:Qi)(t:TA):Prop :=
 ∀(pos:Pos) (Xbo:Qc) (s:Shared) (σ:St) (H:Hp) (Q:List V->Hp->Prop),Qu X Xbo σ H s->t σ H Q->wpAny (model X.prog X.w) X.A (spliced (backTo pos (starEach es X.env))) (AP X Xbo σ Q) X.xe s
def PS (X:Cx)(st:Stmt)(t:TS):Prop :=
 ∀(Xbo:Qc) (s:Shared) (σ:St) (H:Hp) (D:Ends),Qu X Xbo σ H s->t D σ H->wpAny (model X.prog X.w) X.A (exec st X.env) (SP X Xbo D) X.xe s
def PSs (X:Cx)(st:List Stmt)(t:TS):Prop :=
 ∀(Xbo:Qc) (s:Shared) (σ:St) (H:Hp) (D:Ends),Qu X Xbo σ H s->t D σ H->wpAny (model X.prog X.w) X.A (execs st X.env) (SP X Xbo D) X.xe s
def QI {α:Type}{t:Sem α}{Q Q':α->Shared->Prop}{M:Model}{A:Around}{E:Qb}{s:Shared}(h:wpAny M A t Q E s)(hQ:∀a s,Q a s->Q' a s):wpAny M A t Q' E s:=wpAny_mono h hQ fun _ _ x=>x
section
variable {X:Cx}
def Za (i:Nat):TE:=fun σ H Q=>∃v,σ[i]?=some (some v)/\Q v H
def tC (v:V):TE:=fun _ H Q=>Q v H
def Fj {i:Nat} {x:Str} {pos:Pos} (hN:X.N[i]?=some x) (hv:Vis X.env.scope x) (hd:(x==("__debug__" : Str))=false:=by decide) (hcd:(x==("__classdict__" : Str))=false:=by decide):PE X (.Name x pos) (Za i):=by
 intro Xbo s σ H Q I h;obtain⟨v,e,h⟩:=h;obtain⟨m,hn,hl⟩:=I.loc;obtain⟨u,r,l⟩:=hl i x v hN e hv;have fin:EP X Xbo σ Q u s:=⟨v,H,I,r,h⟩
 rcases l with ⟨hk,hm⟩|⟨hk,c,hc,hcell⟩
 ·exact wpAny_Name (wpAny_loadName_local I.ok.kind hk hn hm fin) hd
 ·rcases hk with hk|hk
  ·exact wpAny_Name (wpAny_loadName_cell I.ok.kind hk hc hcell fin) hd
  ·exact wpAny_Name (wpAny_loadName_free I.ok.kind hk hc hcell fin hcd) hd
def Qw {i j pos}:PE X (.Constant (.int i) j pos) (tC (.int i)):=fun _ _ _ H _ I h=>wpAny_Constant_int ⟨.int i,H,I.tok _,⟨_,rfl⟩,h⟩
def U9 {b j pos}:PE X (.Constant (.bool b) j pos) (tC (.bl b)):=fun _ _ _ H _ I h=>Constant_bool ⟨.bl b,H,I,rfl,h⟩
def UH {j pos}:PE X (.Constant .none j pos) (tC .non):=fun _ _ _ H _ I h=>Constant_none ⟨.non,H,I,rfl,h⟩
def UJ {x j pos}:PE X (.Constant (.str x) j pos) (tC (.str x)):=fun _ _ _ H _ I h=>Calls.Constant_str ⟨.str x,H,I.tok _,⟨_,rfl⟩,h⟩
def Gl (X:Cx)(x:Str):Prop:=X.env.kindOf x=some .globalImplicit
def Ks {E:Qb}{Xbo:Qc}{s:Shared}{σ:St}{H:Hp}{x:Str}{u:Value}{pos:Pos}{Q:Qb}(I:Qu X Xbo σ H s)(hg:Gl X x)(hm:X.mg x=some u)(h:Q u s)
 (hd:(x==("__debug__" : Str))=false:=by decide):wpAny (model X.prog X.w) X.A (eval (.Name x pos) X.env) Q E s :=
 Calls.Name_function_global I.ok.kind hg (Calls.loadGlobal_global (by rw[I.ok.glob];exact I.mod.glob.keeps I.bk) hm h) hd
def Jy {E:Qb}{Xbo:Qc}{s:Shared}{σ:St}{H:Hp}{x:Str}{u:Value}{pos:Pos}{Q:Qb}(I:Qu X Xbo σ H s)(hg:Gl X x)(hm:X.mg x=none)(hv:bootBuiltins x=some u)(h:Q u s)
 (hn:x ≠ "__name__" := by decide) (hd:(x==("__debug__" : Str))=false:=by decide):wpAny (model X.prog X.w) X.A (eval (.Name x pos) X.env) Q E s:=by
 obtain⟨mb,h1,h2⟩:=I.mod.blt;exact Calls.Name_function_global I.ok.kind hg (Calls.loadGlobal_builtin (by rw[I.ok.glob];exact I.mod.glob.keeps I.bk) hm (by rw[I.ok.blt];exact h1.keeps I.bk) ((h2 x hn).trans hv) h) hd
def Bv {x:Str} {v:V} {u:Value} {pos:Pos} (hg:Gl X x) (hm:X.mg x=some u) (r:QR v u) (hd:(x==("__debug__" : Str))=false:=by decide):PE X (.Name x pos) (tC v) :=
 fun _ _ _ H _ I h=>Ks I hg hm ⟨v,H,I,r,h⟩ hd
def Ag {x:Str} {v:V} {u:Value} {pos:Pos} (hg:Gl X x) (hm:X.mg x=none) (hv:bootBuiltins x=some u) (r:QR v u) (hn:x ≠ "__name__" := by decide) (hd:(x==("__debug__" : Str))=false:=by decide):PE X (.Name x pos) (tC v) :=
 fun _ _ _ H _ I h=>Jy I hg hm hv ⟨v,H,I,r,h⟩ hn hd
variable {a b:Expr}{ta tb:TE}{pos:Pos}
def PC (X:Cx)(op:CmpOp)(a b:Expr)(t:TE):Prop :=
 ∀(Xbo:Qc) (s:Shared) (σ:St) (H:Hp) (Q:VK),Qu X Xbo σ H s->t σ H Q ->
  wpAny (model X.prog X.w) X.A (eval a X.env) (fun v bj=>wpAny (model X.prog X.w) X.A (eval b X.env) (fun u b9=>wpAny (model X.prog X.w) X.A (compareOp op v u) (EP X Xbo σ Q) X.xe b9) X.xe bj) X.xe s
def PF (b:Expr){op:CmpOp}(h:op≠.In)(h2:op≠.NotIn):behindInMarks op b=false:=by
 have e1:(op==CmpOp.In)=false:=by cases op<;>first|rfl|exact Xi rfl h
 have e2:(op==CmpOp.NotIn)=false:=by cases op<;>first|rfl|exact Xi rfl h2
 cases b<;>simp[behindInMarks,e1,e2]
def Rx (ta:TE):TE:=fun σ H Q=>ta σ H fun x H1=>Q (.bl (decide (x=.non))) H1
def RF (ta:TE):TE:=fun σ H Q=>ta σ H fun x H1=>Q (.bl (!decide (x=.non))) H1
def QR.none_iff {x:V}{v:Value}(r:QR x v):(v==Value.none)=decide (x=.non):=by
 cases x with
 |non=>cases r;rfl
 |bl _=>cases r;rfl
 |int _=>obtain⟨t,rfl⟩:=r;rfl
 |str _=>obtain⟨t,rfl⟩:=r;rfl
 |byt _=>obtain⟨t,rfl⟩:=r;rfl
 |flt _=>obtain⟨t,rfl⟩:=r;rfl
 |ref _=>cases r;rfl
 |ty _=>cases r;rfl
def FX {j pos'}(ha:PE X a ta):PC X .Is a (.Constant .none j pos') (Rx ta):=by
 intro Xbo s σ H Q I h;refine QI (ha Xbo s σ H _ I h) fun v s1 ⟨x,H1,I1,r1,q1⟩=>?_;exact Constant_none (is_none_gen ⟨.bl _,H1,I1,by rw[r1.none_iff];rfl,q1⟩)
def Ue {j pos'}(ha:PE X a ta):PC X .IsNot a (.Constant .none j pos') (RF ta):=by
 intro Xbo s σ H Q I h;refine QI (ha Xbo s σ H _ I h) fun v s1 ⟨x,H1,I1,r1,q1⟩=>?_;exact Constant_none (isnot_none_gen ⟨.bl _,H1,I1,by rw[r1.none_iff];rfl,q1⟩)
def tB (t:TE):TT:=fun σ H Q=>t σ H fun x H1=>∃c,x=.bl c/\Q c H1
def Fc {op:CmpOp}{t:TE}(h:PC X op a b t)(h1:behindInMarks op b=false:=by first|exact PF _ (by decide) (by decide)|rfl):PE X (.Compare a [op] [b] pos) t:=fun Xbo s σ H Q I hw=>wpAny_Compare1 (h Xbo s σ H Q I hw) h1
def Wm {op:CmpOp}{t:TE}(h:PC X op a b t)(h1:behindInMarks op b=false:=by first|exact PF _ (by decide) (by decide)|rfl):PT X (.Compare a [op] [b] pos) (tB t):=by
 intro Xbo s σ H Q I hw;refine wpAny_isTrue_Compare1 (QI (h Xbo s σ H _ I hw) fun v s1 h1=>QI h1 fun u s2 h2=>QI h2 fun c s3 ⟨x,H1,I1,r1,q1⟩=>?_) h1;obtain⟨d,rfl,q⟩:=q1
 cases r1
 exact wpAny_truthy_bool ⟨H1,I1,q⟩
def UB {e:Expr}{t:TE}(h:PE X e t)(he:∀whole,isTrue e X.env whole=(do let v <- whole;standAt e.pos;holding [v] (truthy v)):=by intro _;rfl):PT X e (tB t):=by
 intro Xbo s σ H Q I hw;refine isTrue_plain (QI (h Xbo s σ H _ I hw) fun v s1 ⟨x,H1,I1,r1,q1⟩=>?_) (he _);obtain⟨d,rfl,q⟩:=q1
 cases r1
 exact wpAny_truthy_bool ⟨H1,I1,q⟩
variable {tA tB':TT}{rest:Qi}
def Rh (t u:TT):TT:=fun σ H Q=>t σ H fun c H1=>if c=true then u σ H1 Q else Q false H1
def tOr (t u:TT):TT:=fun σ H Q=>t σ H fun c H1=>if c=true then Q true H1 else u σ H1 Q
def Rw (t:TT):TT:=fun σ H Q=>t σ H fun c H1=>Q (!c) H1
def ML (ha:PT X a tA):PW X (.BoolOp .And [a] pos) tA:=by
 intro wh Xbo s σ H Q I h;refine isTrue_and (QI (ha Xbo s σ H Q I h) fun c s1 e=>?_)
 cases c with
 |true=>exact isTrue_and_nil e
 |false=>exact e
def RX (ha:PT X a tA):PW X (.BoolOp .Or [a] pos) tA:=by
 intro wh Xbo s σ H Q I h;refine isTrue_or (QI (ha Xbo s σ H Q I h) fun c s1 e=>?_)
 cases c with
 |false=>exact isTrue_or_nil e
 |true=>exact e
def M8 (ha:PT X a tA)(hb:PW X (.BoolOp .And (b::rest) pos) tB'):PW X (.BoolOp .And (a::b::rest) pos) (Rh tA tB'):=by
 intro wh Xbo s σ H Q I h;refine isTrue_and (QI (ha Xbo s σ H _ I h) fun c s1 ⟨H1,I1,q1⟩=>?_)
 cases c with
 |true=>exact hb wh Xbo s1 σ H1 Q I1 q1
 |false=>exact⟨H1,I1,q1⟩
def RI (ha:PT X a tA)(hb:PW X (.BoolOp .Or (b::rest) pos) tB'):PW X (.BoolOp .Or (a::b::rest) pos) (tOr tA tB'):=by
 intro wh Xbo s σ H Q I h;refine isTrue_or (QI (ha Xbo s σ H _ I h) fun c s1 ⟨H1,I1,q1⟩=>?_)
 cases c with
 |true=>exact⟨H1,I1,q1⟩
 |false=>exact hb wh Xbo s1 σ H1 Q I1 q1
def M5 (ha:PT X a tA):PT X (.UnaryOp .Not a pos) (Rw tA):=by
 intro Xbo s σ H Q I h;exact isTrue_not (ha Xbo s σ H (fun c H1=>Q (!c) H1) I h)
def RK (ta tb:TE):TE:=fun σ H Q=>ta σ H fun x H1=>∃c,x=.bl c/\if c=true then tb σ H1 Q else Q (.bl false) H1
def RZ {op}{t:TE}(h:PE X a t):PE X (.BoolOp op [a] pos) t:=fun Xbo s σ H Q I hw=>BoolOp_one (h Xbo s σ H Q I hw)
def HX (ha:PE X a ta)(hb:PE X (.BoolOp .And (b::rest) pos) tb):PE X (.BoolOp .And (a::b::rest) pos) (RK ta tb):=by
 intro Xbo s σ H Q I h;refine BoolOp_and (QI (ha Xbo s σ H _ I h) fun v s1 ⟨x,H1,I1,r1,q1⟩=>?_);obtain⟨c,rfl,q1⟩:=q1
 cases r1
 refine wpAny_truthy_bool ?_
 cases c with
 |true=>exact hb Xbo s1 σ H1 Q I1 q1
 |false=>exact⟨.bl false,H1,I1,rfl,q1⟩
end
def SqL (K:W.Frag)(H:Hp)(a:Addr)(xs:List V):Prop :=
 Rd H a (.lst xs) \/
  ∃(o:Obj) (its:Array Value) (n:Nat),K.lookup a=some o/\o.cls=.type "list" /\ o.dict=none/\o.data=.seq its n/\its.size<=sizeLine/\Zf xs its.toList
def SqT (K:W.Frag)(H:Hp)(a:Addr)(xs:List V):Prop :=
 Rd H a (.tup xs) \/
  ∃(o:Obj) (its:Array Value) (n:Nat),K.lookup a=some o/\o.cls=.type "tuple" /\ o.data=.seq its n/\its.size<=sizeLine/\Zf xs its.toList
def L3:Value->Option V
 |.none=>some .non
 |.bool b=>some (.bl b)
 |.int i _=>some (.int i)
 |.str x _=>some (.str x)
 |.bytes b _=>some (.byt b)
 |.float b _=>some (.flt b)
 |.ref a=>some (.ref a)
 |.type n=>some (.ty n)
 |_=>none
def QR.abs {x:V}{u:Value}(r:QR x u):L3 u=some x:=by
 cases x with
 |non=>cases r;rfl
 |bl _=>cases r;rfl
 |int _=>obtain⟨t,rfl⟩:=r;rfl
 |str _=>obtain⟨t,rfl⟩:=r;rfl
 |byt _=>obtain⟨t,rfl⟩:=r;rfl
 |flt _=>obtain⟨t,rfl⟩:=r;rfl
 |ref _=>cases r;rfl
 |ty _=>cases r;rfl
def QR.inj {x y:V}{u:Value}(r:QR x u)(q:QR y u):x=y:=Option.some.inj (r.abs.symm.trans q.abs)
theorem Zf.inj:∀{xs ys:List V} {us:Qe},Zf xs us->Zf ys us->xs=ys
 |_,_,_,.nil,.nil=>rfl
 |_,_,_,.cons r t,.cons r' t'=>by rw[r.inj r',Zf.inj t t']
section
variable {X:Cx}{Xbo:Qc}{σ:St}{H:Hp}{s:Shared}{a:Addr}{xs ys:List V}
def SqL.of {K:W.Frag}(h:H a=some (.lst xs)):SqL K H a xs:=.inl (.inl h)
def SqT.of {K:W.Frag}(h:H a=some (.tup xs)):SqT K H a xs:=.inl (.inl h)
def Qu.list (I:Qu X Xbo σ H s)(h:SqL X.K H a xs):∃its:Qe,Zf xs its/\PlainL s.heap a its.toArray/\xs.length<=sizeLine:=by
 rcases h with h|⟨o,its,n,hk,hc,hd,hs,hz,r⟩
 ·obtain⟨z,its,n,r,e⟩:=h.ok I.hok
  exact⟨its,r,⟨_,n,e,rfl,rfl,rfl⟩,z⟩
 ·refine⟨its.toList,r,⟨o,n,I.kIn a o hk,hc,hd,by simpa using hs⟩,?_⟩
  have e:=r.length;simp only[Array.length_toList]at e;omega
def Qu.tuple (I:Qu X Xbo σ H s)(h:SqT X.K H a xs):∃its:Qe,Zf xs its/\IsTup s.heap a its.toArray/\xs.length<=sizeLine:=by
 rcases h with h|⟨o,its,n,hk,hc,hs,hz,r⟩
 ·obtain⟨z,its,r,p⟩:=h.ok I.hok
  exact⟨its,r,p,z⟩
 ·refine⟨its.toList,r,⟨o,I.kIn a o hk,hc,n,by simpa using hs⟩,?_⟩
  have e:=r.length;simp only[Array.length_toList]at e;omega
def Qu.list_inj (I:Qu X Xbo σ H s)(h:SqL X.K H a xs)(h':SqL X.K H a ys):xs=ys:=by
 obtain⟨its,r,⟨o,n,e,_,_,d⟩,_⟩:=I.list h;obtain⟨its',r',⟨o',n',e',_,_,d'⟩,_⟩:=I.list h';rw[e]at e';cases e';rw[d]at d';injection d' with d1 _
 have:its=its':=by simpa using XW Array.toList d1
 subst this;exact r.inj r'
def Qu.tuple_inj (I:Qu X Xbo σ H s)(h:SqT X.K H a xs)(h':SqT X.K H a ys):xs=ys:=by
 obtain⟨its,r,⟨o,e,_,n,d⟩,_⟩:=I.tuple h;obtain⟨its',r',⟨o',e',_,n',d'⟩,_⟩:=I.tuple h';rw[e]at e';cases e';rw[d]at d';injection d' with d1 _
 have:its=its':=by simpa using XW Array.toList d1
 subst this;exact r.inj r'
end
abbrev Cx.wish (X:Cx)(E:Qb):Cx:={ X with xe:=E }
abbrev Cx.nox (X:Cx):Cx:=X.wish fun _ _=>False
def Cx.Ok.wish {X:Cx}(ok:X.Ok)(E:Qb):(X.wish E).Ok :=
 ⟨ok.mod,ok.kind,ok.glob,ok.blt,ok.above,ok.inj,ok.has,ok.cab,ok.hd,ok.frames,ok.stk,ok.exf,ok.bs,ok.bsz,ok.noex,ok.exfs,ok.funs,ok.frf⟩
def Cx.Ok.unwish {X:Cx}{E:Qb}(ok:(X.wish E).Ok):X.Ok :=
 ⟨ok.mod,ok.kind,ok.glob,ok.blt,ok.above,ok.inj,ok.has,ok.cab,ok.hd,ok.frames,ok.stk,ok.exf,ok.bs,ok.bsz,ok.noex,ok.exfs,ok.funs,ok.frf⟩
section
variable {X:Cx}{Xbo:Qc}{σ:St}{H:Hp}{s:Shared}{E:Qb}
def Qu.wish (I:Qu X Xbo σ H s)(E:Qb):Qu (X.wish E) Xbo σ H s:=⟨I.ok.wish E,I.os,I.bare,I.base,I.loc,I.cell,I.free,I.freeC,I.pin,I.hok,I.len⟩
def Qu.unwish (I:Qu (X.wish E) Xbo σ H s):Qu X Xbo σ H s:=⟨I.ok.unwish,I.os,I.bare,I.base,I.loc,I.cell,I.free,I.freeC,I.pin,I.hok,I.len⟩
def SP.unwish {D:Ends}{f:Flow}{s':Shared}(h:SP (X.wish E) Xbo D f s'):SP X Xbo D f s':=by
 cases f with
 |next=>obtain⟨σ',H',I,q⟩:=h;exact⟨σ',H',I.unwish,q⟩
 |brk=>obtain⟨σ',H',I,q⟩:=h;exact⟨σ',H',I.unwish,q⟩
 |cont=>obtain⟨σ',H',I,q⟩:=h;exact⟨σ',H',I.unwish,q⟩
 |ret u=>obtain⟨v,σ',H',I,r,q⟩:=h;exact⟨v,σ',H',I.unwish,r,q⟩
def PSs.nox {st:List Stmt}{t:TS}(h:PSs X.nox st t):PSs X st t:=fun Xbo s σ H D I hw =>
 wpAny_mono (h Xbo s σ H D (I.wish _) hw) (fun _ _ q=>q.unwish) fun _ _ z=>False.elim z
end
section
variable {X:Cx}{st:Stmt}{rest:List Stmt}{t u:TS}{e:Expr}{te:TE}{pos:Pos}
def R0:TS:=fun D σ H=>D.nx σ H
def Hk (t u:TS):TS:=fun D σ H=>t { D with nx:=u D } σ H
def ZG:PSs X [] R0:=fun _ _ σ H _ I h=>wpAny_execs_nil ⟨σ,H,I,h⟩
def Qx (h1:PS X st t)(h2:PSs X rest u):PSs X (st::rest) (Hk t u):=by
 intro Xbo s σ H D I h;refine wpAny_execs_cons (QI (h1 Xbo s σ H { D with nx:=u D } I h) fun f s1 q=>?_)
 cases f with
 |next =>
   obtain⟨σ',H',I',q⟩:=q;exact h2 Xbo s1 σ' H' D I' q
 |ret v=>exact q
 |brk=>exact q
 |cont=>exact q
def QA (h1:PS X st t):PSs X [st] t:=by
 intro Xbo s σ H D I h;refine wpAny_execs_cons (QI (h1 Xbo s σ H D I h) fun f s1 q=>?_)
 cases f with
 |next=>exact wpAny_execs_nil q
 |ret v=>exact q
 |brk=>exact q
 |cont=>exact q
def Qu.quiet {Xbo:Qc}{σ:St}{H:Hp}{s:Shared}(I:Qu X Xbo σ H s):interactive X.env=false:=by simp[interactive,I.ok.kind]
def U5 (te:TE):TS:=fun D σ H=>te σ H fun _ H1=>D.nx σ H1
def V3 (he:PE X e te)(hs:swapsWith e none pos.line X.env=pure false:=by rfl):PS X (.Expr e pos) (U5 te):=by
 intro Xbo s σ H D I h;exact wpAny_Expr_any (QI (he Xbo s σ H _ I h) fun v s1 ⟨x,H1,I1,r1,q1⟩=>⟨σ,H1,I1,q1⟩) I.quiet hs
def U3 (te:TE):TS:=fun D σ H=>te σ H D.rt
def QT (he:PE X e te):PS X (.Return (some e) pos) (U3 te):=by
 intro Xbo s σ H D I h;exact wpAny_Return_some (QI (he Xbo s σ H _ I h) fun v s1 ⟨x,H1,I1,r1,q1⟩=>⟨x,σ,H1,I1,r1,q1⟩)
def NY (c:TT)(t u:TS):TS:=fun D σ H=>c σ H fun b H1=>if b=true then t D σ H1 else u D σ H1
def ZF {c:Expr}{a b:List Stmt}{tc:TT}(hc:PT X c tc)(ha:PSs X a t)(hb:PSs X b u):PS X (.If c a b pos) (NY tc t u):=by
 intro Xbo s σ H D I h;refine wpAny_If (QI (hc Xbo s σ H _ I h) fun d s1 ⟨H1,I1,q1⟩=>?_)
 cases d with
 |true=>exact ha Xbo s1 σ H1 D I1 q1
 |false=>exact hb Xbo s1 σ H1 D I1 q1
end
abbrev TG:=V->St->Hp->(St->Hp->Prop)->Prop
abbrev TGs:=List V->St->Hp->(St->Hp->Prop)->Prop
def PG (X:Cx)(target:Expr)(t:TG):Prop :=
 ∀(Xbo:Qc) (s:Shared) (σ:St) (H:Hp) (v:V) (u:Value) (Q:St->Hp->Prop),Qu X Xbo σ H s->QR v u->t v σ H Q ->
  wpAny (model X.prog X.w) X.A (assign target X.env u) (fun _ s'=>∃σ' H',Qu X Xbo σ' H' s'/\Q σ' H') X.xe s
def PGs (X:Cx)(ts:Qi)(t:TGs):Prop :=
 ∀(Xbo:Qc) (s:Shared) (σ:St) (H:Hp) (vs:List V) (us:Qe) (Q:St->Hp->Prop),Qu X Xbo σ H s->Zf vs us->t vs σ H Q ->
  wpAny (model X.prog X.w) X.A (assignInOrder ((assignEach ts X.env).map (·.2)) us) (fun _ s'=>∃σ' H',Qu X Xbo σ' H' s'/\Q σ' H') X.xe s
abbrev GZ:=V->V->V->Hp->(Hp->Prop)->Prop
def Hl (X:Cx)(t:GZ):Prop :=
 ∀(Xbo:Qc) (s:Shared) (σ:St) (H:Hp) (o i v:V) (ov iv u:Value) (Q:Hp->Prop),Qu X Xbo σ H s->QR o ov->QR i iv->QR v u->t o i v H Q ->
  wpAny (model X.prog X.w) X.A (setItem ov iv u) (fun _ s'=>∃H',Qu X Xbo σ H' s'/\Q H') X.xe s
abbrev TIp:=V->V->Hp->VK->Prop
def PIp (X:Cx)(op:Operator)(t:TIp):Prop :=
 ∀(Xbo:Qc) (s:Shared) (σ:St) (H:Hp) (x y:V) (v u:Value) (Q:VK),Qu X Xbo σ H s->QR x v->QR y u->t x y H Q ->
  wpAny (model X.prog X.w) X.A (inplaceOp op v u) (EP X Xbo σ Q) X.xe s
section
variable {X:Cx}{pos:Pos}
def Jq (i:Nat):TG:=fun v σ H Q=>Q (σ.set i (some v)) H
def QP {i:Nat}{x:Str}(hN:X.N.Nodup)(hi:X.N[i]?=some x)(hx:Loc X.env.scope x)(hf:X.fn x=true\/X.env.scope.names.lookup x=some .local:=by first|exact .inl rfl|exact .inr rfl|assumption):PG X (.Name x pos) (Jq i):=by
 intro Xbo s σ H v u Q I r h;exact wpAny_assign_Name (K5 I hN hi hx r (fun s' I'=>⟨_,H,I',h⟩) hf)
def Hh:TGs:=fun vs σ H Q=>vs=[]/\Q σ H
def Hz (t:TG)(u:TGs):TGs:=fun vs σ H Q=>∃v r,vs=v::r/\t v σ H fun σ' H'=>u r σ' H' Q
def Vp:PGs X [] Hh:=by
 intro Xbo s σ H vs us Q I r h;obtain⟨e,h⟩:=h;subst e;cases r;exact assignInOrder_nil ⟨σ,H,I,h⟩
def Zo {e:Expr}{es:Qi}{t:TG}{u:TGs}(h1:PG X e t)(h2:PGs X es u)
 (hs:(assignEach (e::es) X.env).map (·.2)=assign e X.env::(assignEach es X.env).map (·.2):=by rfl):PGs X (e::es) (Hz t u):=by
 intro Xbo s σ H vs us Q I r h;obtain⟨v,vr,e1,h⟩:=h;subst e1;cases r with
 |cons r rr =>
   rw[hs];refine assignInOrder_cons (QI (h1 Xbo s σ H _ _ _ I r h) fun _ s1 ⟨σ1,H1,I1,q1⟩=>?_);exact h2 Xbo s1 σ1 H1 _ _ Q I1 rr q1
def DX (K:W.Frag)(n:Nat)(t:TGs):TG:=fun v σ H Q=>∃a xs,v=.ref a/\SqT K H a xs/\xs.length=n/\t xs σ H Q
def Vs {es:Qi}{k:Nat}{t:TGs}{n:Nat}(hc:X.calm=true)(h:PGs X es t)
 (hn:(assignEach es X.env).length=n:=by rfl) (hst:(assignEach es X.env).findIdx? (·.1)=none:=by rfl):PG X (.Tuple es k pos) (DX X.K n t):=by
 intro Xbo s σ H v u Q I r hw;obtain⟨a,xs,e1,hq,hl,hw⟩:=hw;subst e1;cases r;obtain⟨its,rv,ht,hz⟩:=I.tuple hq;refine assign_Tuple_tuple (I.ok.hd hc) ht (by simp[hn,<- hl,rv.length]) hst fun h' hx=>?_;have I1:Qu X Xbo σ H { s with heap:=h' }:=I.kept (t':=s.toks) fun b o e=>hx b o (Xr (Xm e)) e;exact h Xbo _ σ H xs _ Q I1 (by simpa using rv) hw
def Mc (to ti:TE)(t:GZ):TG:=fun v σ H Q=>to σ H fun o H1=>ti σ H1 fun i H2=>t o i v H2 fun H3=>Q σ H3
def G6 {o i:Expr}{to ti:TE}{t:GZ}(ho:PE X o to)(hi:PE X i ti)(hs:Hl X t)
 (ha:∀v,assign (.Subscript o i pos) X.env v=(do
  let ov <- holding [v] (eval o X.env)
  let iv <- holding [v,ov] (eval i X.env)
  standAt pos
  holding [v,ov,iv] (setItem ov iv v)
  release [v,ov,iv] []):=by intro _;rfl):PG X (.Subscript o i pos) (Mc to ti t):=by
 intro Xbo s σ H v u Q I r h;rw[ha];refine Xd (wpAny_holding (QI (ho Xbo s σ H _ I h) fun ov s1 ⟨x,H1,I1,r1,q1⟩=>?_));refine Xd (wpAny_holding (QI (hi Xbo s1 σ H1 _ I1 q1) fun iv s2 ⟨y,H2,I2,r2,q2⟩=>?_));refine Xd (wpAny_standAt (Xd (wpAny_holding (QI (hs Xbo s2 σ H2 x y v ov iv u _ I2 r1 r2 r q2) fun _ s3 ⟨H3,I3,q3⟩=>?_))));exact wpAny_release ⟨σ,H3,I3,q3⟩
def Wa (te:TE)(g:TG):TS:=fun D σ H=>te σ H fun x H1=>g x σ H1 D.nx
def YS {tg e:Expr}{te:TE}{g:TG}(he:PE X e te)(hg:PG X tg g)(hs:swapsWithSole [tg] e pos.line X.env=pure false:=by rfl)(hw:swappedStores [tg] e X.env=pure none:=by rfl)
 (h1:(assignEach [tg] X.env).map (·.2)=[assign tg X.env]:=by rfl):PS X (.Assign [tg] e pos) (Wa te g):=by
 intro Xbo s σ H D I h;refine wpAny_Assign_stores (QI (he Xbo s σ H _ I h) fun v s1 ⟨x,H1,I1,r1,q1⟩=>?_) hs hw;rw[h1];exact QI (hg Xbo s1 σ H1 x v _ I1 r1 q1) fun _ s2 q=>q
def QQ {i:Nat}{x:Str}{e:Expr}{te:TE}{pos':Pos}(hN:X.N.Nodup)(hi:X.N[i]?=some x)(hx:Loc X.env.scope x)(he:PE X e te)(hs:swapsWith e (some (.Name x pos')) pos.line X.env=pure false:=by rfl)(hf:X.fn x=true\/X.env.scope.names.lookup x=some .local:=by first|exact .inl rfl|exact .inr rfl|assumption) :
 PS X (.Assign [.Name x pos'] e pos) (Wa te (Jq i)):=by
 intro Xbo s σ H D I h;refine wpAny_Assign_Name (QI (he Xbo s σ H _ I h) fun v s1 ⟨y,H1,I1,r1,q1⟩=>?_) hs;exact K5 I1 hN hi hx r1 (fun s2 I2=>⟨_,H1,I2,q1⟩) hf
def Rp (i:Nat)(te:TE)(ti:TIp):TS:=fun D σ H=>∃x,σ[i]?=some (some x)/\te σ H fun y H1=>ti x y H1 fun z H2=>D.nx (σ.set i (some z)) H2
def LZ {i:Nat}{x:Str}{e:Expr}{te:TE}{op:Operator}{ti:TIp}{pos':Pos}(hN:X.N.Nodup)(hi:X.N[i]?=some x)(hx:Loc X.env.scope x)(he:PE X e te)(ho:PIp X op ti)(hf:X.fn x=true\/X.env.scope.names.lookup x=some .local:=by first|exact .inl rfl|exact .inr rfl|assumption) :
 PS X (.AugAssign (.Name x pos') op e pos) (Rp i te ti):=by
 intro Xbo s σ H D I h;obtain⟨v,e1,h⟩:=h;obtain⟨m,hn,hl⟩:=I.loc;have vis:Vis X.env.scope x:=by rcases hx with k|k;exact .inl k;exact .inr (.inl k)
 obtain⟨u,r,l⟩:=hl i x v hi e1 vis;refine wpAny_AugAssign_Name ?_
 have go:wpAny (model X.prog X.w) X.A (eval e X.env) (fun w b9=>wpAny (model X.prog X.w) X.A (inplaceOp op u w) (fun r bq=>wpAny (model X.prog X.w) X.A (storeName X.env x r) (fun _=>SP X Xbo D .next) X.xe bq) X.xe b9) X.xe s:=by
  refine QI (he Xbo s σ H _ I h) fun w s1 ⟨y,H1,I1,r1,q1⟩=>?_;refine QI (ho Xbo s1 σ H1 v y u w _ I1 r r1 q1) fun z s2 ⟨zv,H2,I2,r2,q2⟩=>?_;exact K5 I2 hN hi hx r2 (fun s3 I3=>⟨_,H2,I3,q2⟩) hf
 rcases l with ⟨hk,hm⟩|⟨hk,c,hc,hcell⟩
 ·exact wpAny_loadName_local I.ok.kind hk hn hm go
 ·rcases hk with hk|hk
  ·exact wpAny_loadName_cell I.ok.kind hk hc hcell go
  ·rcases hx with k|k
   ·have:X.env.scope.names.lookup x=some .free:=hk
    rw[k]at this;cases this
   ·have:X.env.scope.names.lookup x=some .free:=hk
    rw[k]at this;cases this
def HK (to ti te:TE)(tget:V->V->Hp->VK->Prop)(tip:TIp)(tset:GZ):TS:=fun D σ H=>to σ H fun o H1=>ti σ H1 fun i H2=>tget o i H2 fun x H3=>te σ H3 fun y H4=>tip x y H4 fun z H5=>tset o i z H5 fun H6=>D.nx σ H6
def Rb (X:Cx)(t:V->V->Hp->VK->Prop):Prop :=
 ∀(Xbo:Qc) (s:Shared) (σ:St) (H:Hp) (o i:V) (ov iv:Value) (Q:VK),Qu X Xbo σ H s->QR o ov->QR i iv->t o i H Q ->
  wpAny (model X.prog X.w) X.A (getItem ov iv) (EP X Xbo σ Q) X.xe s
def MD {o i e:Expr}{to ti te:TE}{tget:V->V->Hp->VK->Prop}{tip:TIp}{tset:GZ}{op:Operator}{tpos:Pos}(ho:PE X o to)(hi:PE X i ti)(hg:Rb X tget)(he:PE X e te)(hp:PIp X op tip)(hs:Hl X tset)
 (ha:∀ov iv new,augStore i ov iv new=(do holding [new,ov,iv] (setItem ov iv new);release [new,ov,iv] [];pure .next):=by intros;rfl):PS X (.AugAssign (.Subscript o i tpos) op e pos) (HK to ti te tget tip tset):=by
 intro Xbo s σ H D I h;refine wpAny_AugAssign_SubscriptAny (QI (ho Xbo s σ H _ I h) fun ov s1 ⟨x1,H1,I1,r1,q1⟩=>?_) ha;refine QI (hi Xbo s1 σ H1 _ I1 q1) fun iv s2 ⟨x2,H2,I2,r2,q2⟩=>?_;refine QI (hg Xbo s2 σ H2 x1 x2 ov iv _ I2 r1 r2 q2) fun old s3 ⟨x3,H3,I3,r3,q3⟩=>?_;refine QI (he Xbo s3 σ H3 _ I3 q3) fun v s4 ⟨x4,H4,I4,r4,q4⟩=>?_;refine QI (hp Xbo s4 σ H4 x3 x4 old v _ I4 r3 r4 q4) fun new s5 ⟨x5,H5,I5,r5,q5⟩=>?_;exact QI (hs Xbo s5 σ H5 x1 x2 x5 ov iv new _ I5 r1 r2 r5 q5) fun _ s6 ⟨H6,I6,q6⟩=>⟨σ,H6,I6,q6⟩
def ipI (f:Int->Int->Int):TIp:=fun x y H Q=>∃i j,x=.int i/\y=.int j/\Q (.int (f i j)) H
def HV:PIp X .Add (ipI fun i j=>i+j):=by
 intro Xbo s σ H x y v u Q I r1 r2 h;obtain⟨i,j,e1,e2,q⟩:=h;subst e1;subst e2;obtain⟨t,rfl⟩:=r1;obtain⟨t',rfl⟩:=r2;exact iadd_int ⟨.int _,H,I.tok _,⟨_,rfl⟩,q⟩
def Ff:PIp X .Sub (ipI fun i j=>i-j):=by
 intro Xbo s σ H x y v u Q I r1 r2 h;obtain⟨i,j,e1,e2,q⟩:=h;subst e1;subst e2;obtain⟨t,rfl⟩:=r1;obtain⟨t',rfl⟩:=r2;exact isub_int ⟨.int _,H,I.tok _,⟨_,rfl⟩,q⟩
end
section
variable {X:Cx}{pos:Pos}
def Sw (c:TT)(tb:TS):TS:=fun D σ H=>∃W:Nat->St->Hp->Prop,(∃m,W m σ H)/\∀m σ H,W m σ H ->
 c σ H fun b H1=>if b=true then ∃N:St->Hp->Prop,(∀σ' H',N σ' H'->∃m',m'<m/\W m' σ' H')/\tb { D with nx:=N,ct:=N,bk:=D.nx } σ H1 else D.nx σ H1
def J4 {c:Expr}{body:List Stmt}{tc:TT}{tb:TS}(hp:PassesOwn (model X.prog X.w) X.A X.env X.xe)(hc:PT X c tc)(hb:PSs X body tb):PS X (.While c body [] pos) (Sw tc tb):=by
 intro Xbo s σ H D I h;obtain⟨W,⟨m0,w0⟩,turn⟩:=h;refine wpAny_While (codeAny_whileLoop (fun n s'=>∃σ' H',Qu X Xbo σ' H' s'/\W n σ' H') ?_ m0 ⟨σ,H,I,w0⟩)
 rintro n s1 ⟨σ1,H1,I1,w1⟩
 refine wpAny_passesOwn hp (QI (hc Xbo s1 σ1 H1 _ I1 (turn n σ1 H1 w1)) fun b s2 ⟨H2,I2,q2⟩=>?_)
 cases b with
 |true =>
   obtain⟨N,hN,q2⟩:=q2;rw[Xb rfl];refine wpAny_passesOwn hp (QI (hb Xbo s2 σ1 H2 _ I2 q2) fun f s3 q3=>?_)
   cases f with
   |next =>
     obtain⟨σ3,H3,I3,n3⟩:=q3;obtain⟨m',hm,w3⟩:=hN σ3 H3 n3
     exact⟨m',hm,σ3,H3,I3,w3⟩
   |cont =>
     obtain⟨σ3,H3,I3,n3⟩:=q3;obtain⟨m',hm,w3⟩:=hN σ3 H3 n3
     exact⟨m',hm,σ3,H3,I3,w3⟩
   |brk=>exact q3
   |ret v=>exact q3
 |false =>
   rw[Xa Xp];exact wpAny_execs_nil ⟨σ1,H2,I2,q2⟩
end
structure It where
 go:Nat->Hp->Prop
 yld:Nat->Hp->V->Hp->Prop
 stop:Nat->Hp->Prop
def Wb (X:Cx)(Xbo:Qc)(H:Hp)(b:Addr):Prop :=
 H b=none/\b≠X.env.locals/\b∉X.fs/\(b∈X.ex\/X.s₀.heap.objs.size<=b)/\(∀x c,X.env.cells.lookup x=some c->c≠b)/\∀p∈X.pn++Xbo,p.1≠b
def Qu.fpOk {X:Cx}{Xbo:Qc}{σ:St}{H H':Hp}{s:Shared}{b:Addr}(I:Qu X Xbo σ H s)(hb:s.heap.objs.size<=b)(hn:H' b=none):Wb X Xbo H' b:=by
 refine⟨hn,YE (Xz I.lt hb),I.nofs hb,.inr (XI I.sz hb),fun x c e z=>?_,fun p hp z=>?_⟩
 ·obtain⟨v,q⟩:=I.cell x c e
  exact Xi (Xz q.lt (by rw[z];exact hb)) (YY _)
 ·exact Xi (Xz (Xm (I.pin p hp).1) (by rw[z];exact hb)) (YY _)
structure Turn (P:Program)(w:World)(K:W.Frag)(tg:Expr)(J:It)(fp:Qg)(it:Addr)(tn:Nat->Heap->Prop):Prop where
 mem:it∈fp
 obj:∀i h,tn i h->∀b∈fp,∃o,h.get? b=some o/\∀v,o.data≠.cell v
 keep:∀i h h',tn i h->(∀b∈fp,∀o,h.get? b=some o->h'.get? b=some o)->tn i h'
 item:∀(X:Cx),X.prog=P->X.w=w->X.K=K->X.calm=true->∀(i:Nat) (Xbo:Qc) (s:Shared) (σ:St) (H:Hp) (E:Qb),Qu X Xbo σ H s->(∀b∈fp,Wb X Xbo H b)->tn i s.heap->J.go i H ->
  wpAny (model P w) X.A (pyNext (.ref it)) (fun r s1=>∃u,r=some u /\
   wpAny (model P w) X.A (letOwnedTupleGo tg (.ref it) u) (fun _ s2=>∃x H',Qu X Xbo σ H' s2/\QR x u/\J.yld i H x H'/\tn (i+1) s2.heap/\∀b∈fp,H' b=none) E s1) E s
 done:∀(X:Cx),X.prog=P->X.w=w->X.K=K->X.calm=true->∀(i:Nat) (Xbo:Qc) (s:Shared) (σ:St) (H:Hp) (E:Qb),Qu X Xbo σ H s->(∀b∈fp,Wb X Xbo H b)->tn i s.heap->J.stop i H ->
  wpAny (model P w) X.A (pyNext (.ref it)) (fun r s1=>r=none/\Qu X Xbo σ H s1) E s
 self:∀(A:Around) (i:Nat) (s:Shared) (Q:Qb) (E:Qb),tn i s.heap->Q (.ref it) s->wpAny (model P w) A (pyIter (.ref it)) Q E s
abbrev TI:=St->Hp->(It->Hp->Prop)->Prop
def PIE (X:Cx)(Xbo:Qc)(σ:St)(tg:Expr)(R:It->Hp->Prop)(itv:Value)(s2:Shared):Prop :=
 ∃(it:Addr) (fp:Qg) (tn:Nat->Heap->Prop) (J:It) (H':Hp),itv=.ref it/\Qu X Xbo σ H' s2/\Turn X.prog X.w X.K tg J fp it tn/\tn 0 s2.heap/\(∀b∈fp,Wb X Xbo H' b)/\R J H'
def PI (X:Cx)(tg iter:Expr)(wi:TI):Prop :=
 ∀(Xbo:Qc) (s:Shared) (σ:St) (H:Hp) (R:It->Hp->Prop),Qu X Xbo σ H s->wi σ H R ->
  wpAny (model X.prog X.w) X.A (eval iter X.env) (fun v s1=>wpAny (model X.prog X.w) X.A (pyIter v) (PIE X Xbo σ tg R) X.xe s1) X.xe s
def Ml {M:Model}{A:Around}{E:Qb}{s:Shared}{tg:Expr}{it:Addr}{u:Value}{o:Obj}{n:String}{vs:Array Value}{Q:Unit->Shared->Prop}(ho:s.heap.get? it=some o)(hc:o.cls=.type n)(hd:o.data=.fields vs)
 (hn:["enumerate","zip","dict_itemiterator","dict_reverseitemiterator","odict_iterator","itertools.zip_longest","itertools.pairwise"].contains n=false) (hQ:Q () s):wpAny M A (letOwnedTupleGo tg (.ref it) u) Q E s:=by
 unfold letOwnedTupleGo;cases tg<;>first
  |exact Xu hQ
  | (cases u<;>first
   |exact Xu hQ
   | (refine Xd (wpAny_load ho ?_)
      rw[hc,hd];show wpAny M A (if (["enumerate","zip","dict_itemiterator","dict_reverseitemiterator","odict_iterator","itertools.zip_longest","itertools.pairwise"].contains n&&vs[0]?==some (rawInt _))=true then _ else _) Q E s;rw[Xa (by intro h;rw[hn,Bool.false_and]at h;cases h)];exact Xu hQ))
def Itl (K:W.Frag)(a:Addr):It :=
 ⟨fun i H=>∃xs x,SqL K H a xs/\xs[i]?=some x,fun i H x H'=>H'=H/\∀xs,SqL K H a xs->xs[i]?=some x,fun i H=>∃xs,SqL K H a xs/\xs.length<=i⟩
def Itt (K:W.Frag)(a:Addr):It :=
 ⟨fun i H=>∃xs x,SqT K H a xs/\xs[i]?=some x,fun i H x H'=>H'=H/\∀xs,SqT K H a xs->xs[i]?=some x,fun i H=>∃xs,SqT K H a xs/\xs.length<=i⟩
def Itr (lo:Int)(n:Nat):It:=⟨fun i _=>i<n,fun i H x H'=>H'=H/\x=.int (lo+i),fun i _=>n<=i⟩
theorem Ie {P:Program}{w:World}{K:W.Frag}{tg:Expr}(a it:Addr):Turn P w K tg (Itl K a) [it] it (fun i h=>h.IsListIter it a i) where
 mem:=by simp
 obj:=fun i h st b hb=>by
  have e:b=it:=by simpa using hb
  subst e;obtain⟨o,e,c,d⟩:=st
  exact⟨o,e,fun v z=>by rw[d]at z;cases z⟩
 keep:=fun i h h' st k=>st.at fun o e=>k it (by simp) o e
 item:=by
  intro X hP hw hK hc i Xbo s σ H E I hf st hg;subst hP hw hK;obtain⟨xs,x,hq,hx⟩:=hg;obtain⟨its,rv,p,hz⟩:=I.list hq;obtain⟨u,hu,ru⟩:=rv.get hx;obtain⟨f0,f1,f2,f3,f4,f5⟩:=hf it (by simp);refine wpAny_pyNext_list_item st p.isList (x:=u) (by simpa using hu) fun h' st' sb=>?_;have I1:Qu X Xbo σ H { s with heap:=h' }:=I.turned (t':=s.toks) (fun b o hb e=>(sb.2 b hb).trans e) f0 f1 f3 f4 f5;obtain⟨o,e,c,d⟩:=id st'
  exact⟨u,rfl,Ml (s:={ s with heap:=h' }) e c d (by decide) ⟨x,H,I1,ru,⟨rfl,fun ys hy=>by rw[I.list_inj hy hq];exact hx⟩,st',fun b hb=>(hf b hb).1⟩⟩
 done:=by
  intro X hP hw hK hc i Xbo s σ H E I hf st hg;subst hP hw hK;obtain⟨xs,hq,hx⟩:=hg;obtain⟨its,rv,p,hz⟩:=I.list hq;obtain⟨f0,f1,f2,f3,f4,f5⟩:=hf it (by simp);have hl:=rv.length;exact wpAny_pyNext_list_end (I.ok.hd hc) st p.isList (by simp;omega) fun h' eb=>⟨rfl,I.turned (t':=s.toks) (fun b o hb e=>eb b o hb e) f0 f1 f3 f4 f5⟩
 self:=fun _ _ _ _ _ st h=>wpAny_pyIter_listiter st h
theorem O2 {P:Program}{w:World}{K:W.Frag}{tg:Expr}(a it:Addr):Turn P w K tg (Itt K a) [it] it (fun i h=>h.IsTupleIter it a i) where
 mem:=by simp
 obj:=fun i h st b hb=>by
  have e:b=it:=by simpa using hb
  subst e;obtain⟨o,e,c,d⟩:=st
  exact⟨o,e,fun v z=>by rw[d]at z;cases z⟩
 keep:=fun i h h' st k=>st.at fun o e=>k it (by simp) o e
 item:=by
  intro X hP hw hK hc i Xbo s σ H E I hf st hg;subst hP hw hK;obtain⟨xs,x,hq,hx⟩:=hg;obtain⟨its,rv,p,hz⟩:=I.tuple hq;obtain⟨u,hu,ru⟩:=rv.get hx;obtain⟨f0,f1,f2,f3,f4,f5⟩:=hf it (by simp);refine wpAny_pyNext_tuple_item st (show s.heap.IsTuple a its.toArray from p) (x:=u) (by simpa using hu) fun h' st' sb=>?_;have I1:Qu X Xbo σ H { s with heap:=h' }:=I.turned (t':=s.toks) (fun b o hb e=>(sb.2 b hb).trans e) f0 f1 f3 f4 f5;obtain⟨o,e,c,d⟩:=id st'
  exact⟨u,rfl,Ml (s:={ s with heap:=h' }) e c d (by decide) ⟨x,H,I1,ru,⟨rfl,fun ys hy=>by rw[I.tuple_inj hy hq];exact hx⟩,st',fun b hb=>(hf b hb).1⟩⟩
 done:=by
  intro X hP hw hK hc i Xbo s σ H E I hf st hg;subst hP hw hK;obtain⟨xs,hq,hx⟩:=hg;obtain⟨its,rv,p,hz⟩:=I.tuple hq;obtain⟨f0,f1,f2,f3,f4,f5⟩:=hf it (by simp);have hl:=rv.length;exact wpAny_pyNext_tuple_end (I.ok.hd hc) st (show s.heap.IsTuple a its.toArray from p) (by simp;omega) fun h' eb=>⟨rfl,I.turned (t':=s.toks) (fun b o hb e=>eb b o hb e) f0 f1 f3 f4 f5⟩
 self:=fun _ _ _ _ _ st h=>wpAny_pyIter_tupleiter st h
theorem OF {P:Program}{w:World}{K:W.Frag}{tg:Expr}(it:Addr)(lo:Int)(n:Nat):Turn P w K tg (Itr lo n) [it] it (fun i h=>IsRangeIter h it (lo+(i:Nat)*1) ((n:Int)-(i:Nat)) 1) where
 mem:=by simp
 obj:=fun i h st b hb=>by
  have e:b=it:=by simpa using hb
  subst e;exact⟨_,st,fun v z=>by
   have z':Data.fields _=Data.cell v:=z
   cases z'⟩
 keep:=fun i h h' st k=>k it (by simp) _ st
 item:=by
  intro X hP hw hK hc i Xbo s σ H E I hf st hg;subst hP hw hK;obtain⟨f0,f1,f2,f3,f4,f5⟩:=hf it (by simp);have W:=Walks.range (prog:=X.prog) (w:=X.w) (I.ok.hd hc) it lo 1 n;refine W.item i s _ _ hg st fun v h' tk hv st' kk=>?_;obtain⟨t,rfl⟩:=hv;have I1:Qu X Xbo σ H { s with heap:=h',toks:=tk }:=I.turned (fun b o hb e=>kk b o (by simpa using hb) e) f0 f1 f3 f4 f5;refine⟨_,rfl,Ml (s:={ s with heap:=h',toks:=tk }) (n := "range_iterator") st' rfl rfl (by decide) ⟨.int (lo+i),H,I1,⟨t,?_⟩,⟨rfl,rfl⟩,st',fun b hb=>(hf b hb).1⟩⟩;rw[Int.mul_one]
 done:=by
  intro X hP hw hK hc i Xbo s σ H E I hf st hg;subst hP hw hK;obtain⟨f0,f1,f2,f3,f4,f5⟩:=hf it (by simp);exact wpAny_pyNext_range_end (I.ok.hd hc) st (by have:n<=i:=hg;omega) fun h' eb=>⟨rfl,I.turned (t':=s.toks) (fun b o hb e=>eb b o hb e) f0 f1 f3 f4 f5⟩
 self:=fun _ _ _ _ _ st h=>wpAny_pyIter_rangeiter st h
section
variable {X:Cx}{tg:Expr}
def HC (K:W.Frag)(tl:TE):TI:=fun σ H R=>tl σ H fun x H1=>∃a,x=.ref a/\(∃xs,SqL K H1 a xs)/\R (Itl K a) H1
def Ro (K:W.Frag)(tl:TE):TI:=fun σ H R=>tl σ H fun x H1=>∃a,x=.ref a/\(∃xs,SqT K H1 a xs)/\R (Itt K a) H1
def Vq {l:Expr}{tl:TE}(hl:PE X l tl):PI X tg l (HC X.K tl):=by
 intro Xbo s σ H R I h;refine QI (hl Xbo s σ H _ I h) fun v s1 ⟨x,H1,I1,r1,q1⟩=>?_;obtain⟨a,e,⟨xs,hq⟩,q⟩:=q1;subst e;cases r1;obtain⟨its,rv,p,hz⟩:=I1.list hq;refine wpAny_pyIter_list p.isList ?_;refine⟨s1.heap.objs.size,[s1.heap.objs.size],_,_,H1,rfl,I1.kept (t':=s1.toks) fun b o e=>Xo _ e,Ie a _,⟨_,XV _ rfl,rfl,rfl⟩,fun b hb=>?_,q⟩;have e:b=s1.heap.objs.size:=by simpa using hb
 subst e;exact I1.fpOk (Xx _) (I1.hok.fresh (Xx _))
def HW {l:Expr}{tl:TE}(hl:PE X l tl):PI X tg l (Ro X.K tl):=by
 intro Xbo s σ H R I h;refine QI (hl Xbo s σ H _ I h) fun v s1 ⟨x,H1,I1,r1,q1⟩=>?_;obtain⟨a,e,⟨xs,hq⟩,q⟩:=q1;subst e;cases r1;obtain⟨its,rv,p,hz⟩:=I1.tuple hq;refine wpAny_pyIter_tuple (show s1.heap.IsTuple a its.toArray from p) ?_;refine⟨s1.heap.objs.size,[s1.heap.objs.size],_,_,H1,rfl,I1.kept (t':=s1.toks) fun b o e=>Xo _ e,O2 a _,⟨_,XV _ rfl,rfl,rfl⟩,fun b hb=>?_,q⟩;have e:b=s1.heap.objs.size:=by simpa using hb
 subst e;exact I1.fpOk (Xx _) (I1.hok.fresh (Xx _))
def Pc {Xbo:Qc}{σ:St}{H:Hp}{s:Shared}{R:It->Hp->Prop}{E:Qb}{lo hi:Int}{t u v:Tok}{tk:Nat}(I:Qu X Xbo σ H s)(h1 : -(2^62)<=lo)(h2:lo<2^62)(h3 : -(2^62)<=hi)(h4:hi<2^62)
 (q:R (Itr lo (hi-lo).toNat) H):wpAny (model X.prog X.w) X.A (pyIter (.ref s.heap.objs.size)) (PIE X Xbo σ tg R) E { s with heap:=s.heap.push { cls:=.type "range",data:=.fields #[.int lo t,.int hi u,.int 1 v] },toks:=tk }:=by
 refine wpAny_pyIter_range (IsRange.new ..) (small_one h1 h2 h3 h4) ?_;have I1:Qu X Xbo σ H { s with heap:=s.heap.push { cls:=.type "range",data:=.fields #[.int lo t,.int hi u,.int 1 v] },toks:=tk }:=I.kept fun b o e=>Xo _ e
 refine⟨(s.heap.push { cls:=.type "range",data:=.fields #[.int lo t,.int hi u,.int 1 v] }).objs.size,[(s.heap.push { cls:=.type "range",data:=.fields #[.int lo t,.int hi u,.int 1 v] }).objs.size],_,_,H,rfl,
  I1.kept (t':=tk) fun b o e=>Xo _ e,OF _ lo (hi-lo).toNat,?_,fun b hb=>?_,q⟩
 ·have e1:lo+((0:Nat):Int)*1=lo:=by simp
  have e2:(((hi-lo).toNat:Nat):Int)-((0:Nat):Int)=Builtin.Range.rangeSize lo hi 1:=by rw[rangeSize_one];split<;>omega
  show IsRangeIter _ _ (lo+((0:Nat):Int)*1) ((((hi-lo).toNat:Nat):Int)-((0:Nat):Int)) 1;rw[e1,e2];exact XV _ rfl
 ·have e:b=(s.heap.push { cls:=.type "range",data:=.fields #[.int lo t,.int hi u,.int 1 v] }).objs.size:=by simpa using hb
  subst e;exact I1.fpOk (Xx _) (I1.hok.fresh (Xx _))
def Re (ta:TA):TI:=fun σ H R=>ta σ H fun vs H1=>∃j:Int,vs=[.int j] /\ -(2^62)<=j/\j<2^62/\R (Itr 0 j.toNat) H1
def RB (ta:TA):TI:=fun σ H R=>ta σ H fun vs H1=>∃i j:Int,vs=[.int i,.int j]/\(-(2^62)<=i/\i<2^62 /\ -(2^62)<=j/\j<2^62)/\R (Itr i (j-i).toNat) H1
def VD {a:Expr} {ta:TA} {p pos:Pos} (hg:Gl X "range") (hm:X.mg "range"=none) (ha:PA X [a] ta) (hs:starEach [a] X.env=[(false,eval a X.env)]:=by rfl):PI X tg (.Call (.Name "range" p) [a] [] pos) (Re ta):=by
 intro Xbo s σ H R I h;refine Call_ (Jy I hg hm boot_range (PyProof.Rows.callWith_type1 (QI (ha pos Xbo s σ H _ I h) fun us s1 ⟨vs,H1,I1,r1,q1⟩=>?_) hs rfl));obtain⟨j,e,q1,q2,q⟩:=q1;subst e;cases r1 with
 |cons r rr =>
   cases rr
   obtain⟨t,rfl⟩:=r;exact call_range_1 (Pc I1 (by omega) (by omega) q1 q2 (by simpa using q))
def KO {a b:Expr} {ta:TA} {p pos:Pos} (hg:Gl X "range") (hm:X.mg "range"=none) (ha:PA X [a,b] ta) (hs:starEach [a,b] X.env=[(false,eval a X.env),(false,eval b X.env)]:=by rfl) (hs2:starEach [b] X.env=[(false,eval b X.env)]:=by rfl) :
 PI X tg (.Call (.Name "range" p) [a,b] [] pos) (RB ta):=by
 intro Xbo s σ H R I h;refine Call_ (Jy I hg hm boot_range (PyProof.Rows.callWith_type1 (QI (ha pos Xbo s σ H _ I h) fun us s1 ⟨vs,H1,I1,r1,q1⟩=>?_) (by rw[hs,hs2]) (by rw[hs2];rfl)));obtain⟨i,j,e,⟨q1,q2,q3,q4⟩,q⟩:=q1;subst e;cases r1 with
 |cons r rr =>
   cases rr with
   |cons r' rr =>
     cases rr
     obtain⟨t,rfl⟩:=r;obtain⟨t',rfl⟩:=r';exact call_range_2 (Pc I1 q1 q2 q3 q4 q)
def Gm (wi:TI)(g:TG)(tb:TS):TS:=fun D σ H=>wi σ H fun J H1=>∃W:Nat->Nat->St->Hp->Prop,(∃m,W 0 m σ H1)/\∀i m σ H,W i m σ H ->
 (J.stop i H/\D.nx σ H)\/(J.go i H/\∃N:St->Hp->Prop,(∀σ' H',N σ' H'->∃m',m'<m/\W (i+1) m' σ' H')/\∀x H',J.yld i H x H'->g x σ H' fun σ2 H2=>tb { D with nx:=N,ct:=N,bk:=D.nx } σ2 H2)
def Bq (fp:Qg)(h:Heap):Qc:=fp.filterMap fun b=>(h.get? b).map fun o=>(b,o)
def Du {fp:Qg}{h:Heap}{b:Addr}{o:Obj}(hb:b∈fp)(e:h.get? b=some o):(b,o)∈Bq fp h:=List.mem_filterMap.mpr ⟨b,hb,by rw[e];rfl⟩
def Ib {fp:Qg}{h:Heap}{p:Addr×Obj}(hp:p∈Bq fp h):p.1∈fp/\h.get? p.1=some p.2:=by
 obtain⟨b,hb,e⟩:=List.mem_filterMap.mp hp
 cases q:h.get? b with
 |none=>rw[q]at e;cases e
 |some o =>
   rw[q]at e;have e':(b,o)=p:=Option.some.inj e;subst e';exact⟨hb,q⟩
def Qu.pinned {Xbo:Qc}{σ:St}{H:Hp}{s:Shared}{fp:Qg}(I:Qu X Xbo σ H s)(hf:∀b∈fp,Wb X Xbo H b)(ho:∀b∈fp,∃o,s.heap.get? b=some o/\∀v,o.data≠.cell v):Qu X (Xbo++Bq fp s.heap) σ H s :=
 I.pins_of fun p hp=>(XC.mp hp).elim (fun z=>I.pin p (XJ _ z)) fun z=>by
  obtain⟨hb,e⟩:=Ib z;obtain⟨f0,f1,f2,_⟩:=hf p.1 hb;obtain⟨o,e',d⟩:=ho p.1 hb;rw[e]at e';cases e';exact⟨e,f0,f1,f2,d⟩
def Qu.unpinned {Xbo pl:Qc}{σ:St}{H:Hp}{s:Shared}(I:Qu X (Xbo++pl) σ H s):Qu X Xbo σ H s:=I.pins_of fun p hp=>I.pin p (XJ _ (JF _ hp))
def ZC {iter:Expr}{body:List Stmt}{wi:TI}{g:TG}{tb:TS}{pos:Pos}(hp:PassesOwn (model X.prog X.w) X.A X.env X.xe)(hc:X.calm=true)(hi:PI X tg iter wi)(hg:PG X tg g)(hb:PSs X body tb)
 (hs:∀x,foldedSetIterable iter X.env x=pure x:=by intro _;rfl):PS X (.For tg iter body [] pos) (Gm wi g tb):=by
 intro Xbo s σ H D I h;refine wpAny_For (QI (hi Xbo s σ H _ I h) fun v s1 h1=>QI h1 fun itv s2 h2=>?_) hs;obtain⟨it,fp,tn,J,H2,e,I2,T,st2,f2,W,⟨m0,w0⟩,turn⟩:=h2;subst e;have stat:∀{H':Hp},(∀b∈fp,H' b=none)->∀b∈fp,Wb X Xbo H' b:=fun hn b hb=>⟨hn b hb,(f2 b hb).2⟩;refine codeAny_forLoop_any (fun n s'=>∃i σ' H',Qu X Xbo σ' H' s'/\tn i s'.heap/\(∀b∈fp,H' b=none)/\W i n σ' H') ?_ m0 ⟨0,σ,H2,I2,st2,fun b hb=>(f2 b hb).1,w0⟩
 rintro n s3 ⟨i,σ3,H3,I3,st3,fr3,w3⟩
 rcases turn i n σ3 H3 w3 with ⟨stop,qn⟩|⟨go,N,hN,step⟩
 ·refine wpAny_passesOwn hp (QI (T.done X rfl rfl rfl hc i Xbo s3 σ3 H3 X.xe I3 (stat fr3) st3 stop) fun r s4 ⟨hr,I4⟩=>?_)
  subst hr;exact wpAny_execs_nil ⟨σ3,H3,I4,qn⟩
 ·refine wpAny_passesOwn hp (QI (T.item X rfl rfl rfl hc i Xbo s3 σ3 H3 X.xe I3 (stat fr3) st3 go) fun r s4 ⟨u,hr,h4⟩=>?_)
  subst hr;refine wpAny_passesOwn hp (QI h4 fun _ s5 ⟨x,H5,I5,r5,y5,st5,fr5⟩=>?_);have I5':=I5.pinned (stat fr5) (T.obj _ _ st5);refine wpAny_passesOwn hp (QI (hg _ s5 σ3 H5 x u _ I5' r5 (step x H5 y5)) fun _ s6 ⟨σ6,H6,I6,q6⟩=>?_);refine wpAny_passesOwn hp (QI (hb _ s6 σ6 H6 _ I6 q6) fun f s7 q7=>?_)
  have again:∀{σ7:St} {H7:Hp},Qu X (Xbo++Bq fp s5.heap) σ7 H7 s7->N σ7 H7->∃m,m<n/\∃i σ' H',Qu X Xbo σ' H' s7/\tn i s7.heap/\(∀b∈fp,H' b=none)/\W i m σ' H':=fun{σ7 H7} I7 n7=>by
   obtain⟨m',hm,w7⟩:=hN σ7 H7 n7;refine⟨m',hm,i+1,σ7,H7,I7.unpinned,T.keep _ _ _ st5 fun b hb o e=>(I7.pin (b,o) (XJ _ (XJ _ (Du hb e)))).1,fun b hb=>?_,w7⟩;obtain⟨o,e,d⟩:=T.obj _ _ st5 b hb
   exact(I7.pin (b,o) (XJ _ (XJ _ (Du hb e)))).2.1
  cases f with
  |next=>obtain⟨σ7,H7,I7,n7⟩:=q7;exact again I7 n7
  |cont=>obtain⟨σ7,H7,I7,n7⟩:=q7;exact again I7 n7
  |brk=>obtain⟨σ7,H7,I7,q7⟩:=q7;exact⟨σ7,H7,I7.unpinned,q7⟩
  |ret v=>obtain⟨x7,σ7,H7,I7,r7,q7⟩:=q7;exact⟨x7,σ7,H7,I7.unpinned,r7,q7⟩
end
abbrev R2:=V->V->Hp->VK->Prop
def OpR (X:Cx)(f:Value->Value->Sem Value)(r:R2):Prop :=
 ∀(Xbo:Qc) (s:Shared) (σ:St) (H:Hp) (x y:V) (v u:Value) (Q:VK),Qu X Xbo σ H s->QR x v->QR y u->r x y H Q ->
  wpAny (model X.prog X.w) X.A (f v u) (EP X Xbo σ Q) X.xe s
def UnR (X:Cx)(f:Value->Sem Value)(r:V->Hp->VK->Prop):Prop :=
 ∀(Xbo:Qc) (s:Shared) (σ:St) (H:Hp) (x:V) (v:Value) (Q:VK),Qu X Xbo σ H s->QR x v->r x H Q ->
  wpAny (model X.prog X.w) X.A (f v) (EP X Xbo σ Q) X.xe s
def Vu (X:Cx)(f:Value)(r:List V->Hp->VK->Prop):Prop :=
 ∀(Xbo:Qc) (s:Shared) (σ:St) (H:Hp) (xs:List V) (us:Qe) (Q:VK),Qu X Xbo σ H s->Zf xs us->r xs H Q ->
  wpAny (model X.prog X.w) X.A (call f us) (EP X Xbo σ Q) X.xe s
def Lv (X:Cx)(r:V->Hp->(Bool->Hp->Prop)->Prop):Prop :=
 ∀(Xbo:Qc) (s:Shared) (σ:St) (H:Hp) (x:V) (v:Value) (Q:Bool->Hp->Prop),Qu X Xbo σ H s->QR x v->r x H Q ->
  wpAny (model X.prog X.w) X.A (truthy v) (TP X Xbo σ Q) X.xe s
def tOp (r:R2)(ta tb:TE):TE:=fun σ H Q=>ta σ H fun x H1=>tb σ H1 fun y H2=>r x y H2 Q
def tUn (r:V->Hp->VK->Prop)(ta:TE):TE:=fun σ H Q=>ta σ H fun x H1=>r x H1 Q
def rI (C:Int->Int->Prop)(g:Int->Int->V):R2:=fun x y H Q=>∃i j,x=.int i/\y=.int j/\C i j/\Q (g i j) H
def rI0 (g:Int->Int->V):R2:=fun x y H Q=>∃i j,x=.int i/\y=.int j/\Q (g i j) H
def rU (g:Int->V):V->Hp->VK->Prop:=fun x H Q=>∃i,x=.int i/\Q (g i) H
section
variable {X:Cx}{a b c:Expr}{ta tb tc:TE}{pos:Pos}
def Ho (ha:PE X a ta)(hb:PE X b tb){Xbo:Qc}{s:Shared}{σ:St}{H:Hp}{R:V->V->Hp->Prop}(I:Qu X Xbo σ H s)
 (h:ta σ H fun x H1=>tb σ H1 fun y H2=>R x y H2) {Q:Qb} {f:Value->Value->Sem Value}
 (hf:∀v u s2 x y H2,Qu X Xbo σ H2 s2->QR x v->QR y u->R x y H2->wpAny (model X.prog X.w) X.A (f v u) Q X.xe s2) :
 wpAny (model X.prog X.w) X.A (eval a X.env) (fun v bj=>wpAny (model X.prog X.w) X.A (eval b X.env) (fun u b9=>wpAny (model X.prog X.w) X.A (f v u) Q X.xe b9) X.xe bj) X.xe s:=by
 refine QI (ha Xbo s σ H _ I h) fun v s1 ⟨x,H1,I1,r1,q1⟩=>?_;refine QI (hb Xbo s1 σ H1 _ I1 q1) fun u s2 ⟨y,H2,I2,r2,q2⟩=>?_;exact hf v u s2 x y H2 I2 r1 r2 q2
def QF {op:Operator}{r:R2}(ho:OpR X (binaryOp op) r)(ha:PE X a ta)(hb:PE X b tb):PE X (.BinOp a op b pos) (tOp r ta tb):=by
 intro Xbo s σ H Q I h;exact wpAny_BinOp (Ho ha hb I h fun v u s2 x y H2 I2 rx ry q=>ho Xbo s2 σ H2 x y v u Q I2 rx ry q)
def Mm {op:UnaryOp}{r:V->Hp->VK->Prop}(ho:UnR X (unaryOp op) r)(ha:PE X a ta):PE X (.UnaryOp op a pos) (tUn r ta):=by
 intro Xbo s σ H Q I h;exact UnaryOp_ (QI (ha Xbo s σ H _ I h) fun v s1 ⟨x,H1,I1,r1,q1⟩=>ho Xbo s1 σ H1 x v Q I1 r1 q1)
def opI {f:Value->Value->Sem Value}{C:Int->Int->Prop}{g:Int->Int->Int}
 (rule:∀(i j:Int) (t u:Tok) (s:Shared) (Q:Qb) (E:Qb),C i j->Q (.int (g i j) s.toks) { s with toks:=s.toks+1 }->wpAny (model X.prog X.w) X.A (f (.int i t) (.int j u)) Q E s) :
 OpR X f (rI C fun i j=>.int (g i j)):=by
 intro Xbo s σ H x y v u Q I rx ry h;obtain⟨i,j,rfl,rfl,hc,q⟩:=h;obtain⟨t,rfl⟩:=rx;obtain⟨t',rfl⟩:=ry;exact rule i j t t' s _ _ hc ⟨.int (g i j),H,I.tok _,⟨_,rfl⟩,q⟩
def Hc {f:Value->Value->Sem Value}{g:Int->Int->Int}
 (rule:∀(i j:Int) (t u:Tok) (s:Shared) (Q:Qb) (E:Qb),Q (.int (g i j) s.toks) { s with toks:=s.toks+1 }->wpAny (model X.prog X.w) X.A (f (.int i t) (.int j u)) Q E s) :
 OpR X f (rI0 fun i j=>.int (g i j)):=by
 intro Xbo s σ H x y v u Q I rx ry h;obtain⟨i,j,rfl,rfl,q⟩:=h;obtain⟨t,rfl⟩:=rx;obtain⟨t',rfl⟩:=ry;exact rule i j t t' s _ _ ⟨.int (g i j),H,I.tok _,⟨_,rfl⟩,q⟩
def Hi {f:Value->Value->Sem Value}{g:Int->Int->Bool}
 (rule:∀(i j:Int) (t u:Tok) (s:Shared) (Q:Qb) (E:Qb),Q (.bool (g i j)) s->wpAny (model X.prog X.w) X.A (f (.int i t) (.int j u)) Q E s) :
 OpR X f (rI0 fun i j=>.bl (g i j)):=by
 intro Xbo s σ H x y v u Q I rx ry h;obtain⟨i,j,rfl,rfl,q⟩:=h;obtain⟨t,rfl⟩:=rx;obtain⟨t',rfl⟩:=ry;exact rule i j t t' s _ _ ⟨.bl (g i j),H,I,rfl,q⟩
def Hf (i j:Int):Prop:=0<=j/\j<=1000000/\i.natAbs<2^64
def Mg (i j:Int):Prop:=(-(2^64)<i/\i<2^64)\/(-(2^64)<j/\j<2^64)
def Mg.ok {i j:Int}(h:Mg i j):IntMulOk i j:=by
 rcases h with ⟨h1,h2⟩|⟨h1,h2⟩
 ·exact .of_left (intBits_le_64 h1 h2)
 ·exact .of_right (intBits_le_64 h1 h2)
def Vr:OpR X (binaryOp .Add) (rI0 fun i j=>.int (i+j)):=Hc fun _ _ _ _ _ _ _ q=>add_int q
def G3:OpR X (binaryOp .Sub) (rI0 fun i j=>.int (i-j)):=Hc fun _ _ _ _ _ _ _ q=>sub_int q
def Yx:OpR X (binaryOp .Mult) (rI Mg fun i j=>.int (i*j)):=opI fun _ _ _ _ _ _ _ hc q=>mul_int q hc.ok
def Vb:OpR X (binaryOp .Mod) (rI (fun _ j=>0<j) fun i j=>.int (i%j)):=opI fun i j _ _ _ _ _ hc q=>by
 have h1:(0:Int)<j:=hc;exact mod_int' (by omega) (by rw[Int.fmod_eq_emod_of_nonneg i (by omega)];exact q)
def Km:OpR X (binaryOp .Pow) (rI Hf fun i j=>.int (i^j.toNat)):=opI fun _ _ _ _ _ _ _ hc q=>pow_int_small hc.1 hc.2.1 hc.2.2 q
def HQ:OpR X (binaryOp .BitXor) (rI0 fun i j=>.int (Builtin.bitXor i j)):=Hc fun _ _ _ _ _ _ _ q=>xor_int q
def unI {f:Value->Sem Value}{g:Int->Int}
 (rule:∀(i:Int) (t:Tok) (s:Shared) (Q:Qb) (E:Qb),Q (.int (g i) s.toks) { s with toks:=s.toks+1 }->wpAny (model X.prog X.w) X.A (f (.int i t)) Q E s) :
 UnR X f (rU fun i=>.int (g i)):=by
 intro Xbo s σ H x v Q I rx h;obtain⟨i,rfl,q⟩:=h;obtain⟨t,rfl⟩:=rx;exact rule i t s _ _ ⟨.int (g i),H,I.tok _,⟨_,rfl⟩,q⟩
def M9:UnR X (unaryOp .USub) (rU fun i=>.int (-i)):=unI fun _ _ _ _ _ q=>neg_int q
end
def Rt:V->V->Bool
 |.non,.non=>true|.non,.int _=>true|.int _,.non=>true|.non,.bl _=>true|.bl _,.non=>true|.non,.str _=>true|.str _,.non=>true
 |.int _,.int _=>true|.bl _,.bl _=>true|.str _,.str _=>true|.byt _,.byt _=>true
 |.int _,.str _=>true|.str _,.int _=>true|.bl _,.str _=>true|.str _,.bl _=>true
 |_,_=>false
def rEq:R2:=fun x y H Q=>Rt x y=true/\Q (.bl (decide (x=y))) H
def rNe:R2:=fun x y H Q=>Rt x y=true/\Q (.bl (!decide (x=y))) H
def SL {i j:Int}:decide (V.int i=V.int j)=(i==j):=by
 rw[JC];simp
def Ss {i j:Bool}:decide (V.bl i=V.bl j)=(i==j):=by
 rw[JC];simp
def SI {i j:Str}:decide (V.str i=V.str j)=(i==j):=by
 rw[JC];simp
def SW {i j:Array UInt8}:decide (V.byt i=V.byt j)=(i.toList==j.toList):=by
 rw[JC];cases i
 cases j
 simp
section
variable {X:Cx}{a b c:Expr}{ta tb tc:TE}{pos:Pos}
def ZL {Xbo:Qc}{σ:St}{H:Hp}{s:Shared}{Q:VK}{k k':Bool}(I:Qu X Xbo σ H s)(q:Q (.bl k) H)(e:k=k'):EP X Xbo σ Q (.bool k') s:=by
 subst e;exact⟨.bl k,H,I,rfl,q⟩
def JS:OpR X (compareOp .Eq) rEq:=by
 intro Xbo s σ H x y v u Q I rx ry h;obtain⟨hs,q⟩:=h
 cases x with
 |non =>
   cases rx
   cases y with
   |non=>cases ry;exact PySem.EqNone.eq_none_none (ZL I q (by simp))
   |bl j=>cases ry;exact PySem.EqNone.eq_none_bool (ZL I q (by simp))
   |int j=>obtain⟨t',rfl⟩:=ry;exact PySem.EqNone.eq_none_int (ZL I q (by simp))
   |str j=>obtain⟨t',rfl⟩:=ry;exact PySem.EqNone.eq_none_str (ZL I q (by simp))
   |_=>exact Xi (show false=true from hs) Xp
 |bl i =>
   cases rx
   cases y with
   |non=>cases ry;exact PySem.EqNone.eq_bool_none (ZL I q (by simp))
   |bl j=>cases ry;exact eq_bool (ZL I q Ss)
   |str j=>obtain⟨t',rfl⟩:=ry;exact PySem.EqMixed.eq_bool_str (ZL I q (by simp))
   |_=>exact Xi (show false=true from hs) Xp
 |int i =>
   obtain⟨t,rfl⟩:=rx
   cases y with
   |non=>cases ry;exact PySem.EqNone.eq_int_none (ZL I q (by simp))
   |int j=>obtain⟨t',rfl⟩:=ry;exact eq_int (ZL I q SL)
   |str j=>obtain⟨t',rfl⟩:=ry;exact PySem.EqMixed.eq_int_str (ZL I q (by simp))
   |_=>exact Xi (show false=true from hs) Xp
 |str i =>
   obtain⟨t,rfl⟩:=rx
   cases y with
   |non=>cases ry;exact PySem.EqNone.eq_str_none (ZL I q (by simp))
   |bl j=>cases ry;exact PySem.EqMixed.eq_str_bool (ZL I q (by simp))
   |int j=>obtain⟨t',rfl⟩:=ry;exact PySem.EqMixed.eq_str_int (ZL I q (by simp))
   |str j=>obtain⟨t',rfl⟩:=ry;exact eq_str (ZL I q SI)
   |_=>exact Xi (show false=true from hs) Xp
 |byt i =>
   obtain⟨t,rfl⟩:=rx
   cases y with
   |byt j=>obtain⟨t',rfl⟩:=ry;exact W.eq_bytes (ZL I q SW)
   |_=>exact Xi (show false=true from hs) Xp
 |_=>cases y<;>exact Xi (show false=true from hs) Xp
def RD:OpR X (compareOp .NotEq) rNe:=by
 intro Xbo s σ H x y v u Q I rx ry h;obtain⟨hs,q⟩:=h
 cases x with
 |non =>
   cases rx
   cases y with
   |non=>cases ry;exact PySem.EqNone.ne_none_none (ZL I q (by simp))
   |bl j=>cases ry;exact PySem.EqNone.ne_none_bool (ZL I q (by simp))
   |int j=>obtain⟨t',rfl⟩:=ry;exact PySem.EqNone.ne_none_int (ZL I q (by simp))
   |str j=>obtain⟨t',rfl⟩:=ry;exact PySem.EqNone.ne_none_str (ZL I q (by simp))
   |_=>exact Xi (show false=true from hs) Xp
 |bl i =>
   cases rx
   cases y with
   |non=>cases ry;exact PySem.EqNone.ne_bool_none (ZL I q (by simp))
   |bl j=>cases ry;exact ne_bool (ZL I q (XW not Ss))
   |str j=>obtain⟨t',rfl⟩:=ry;exact PySem.EqMixed.ne_bool_str (ZL I q (by simp))
   |_=>exact Xi (show false=true from hs) Xp
 |int i =>
   obtain⟨t,rfl⟩:=rx
   cases y with
   |non=>cases ry;exact PySem.EqNone.ne_int_none (ZL I q (by simp))
   |int j=>obtain⟨t',rfl⟩:=ry;exact ne_int (ZL I q (XW not SL))
   |str j=>obtain⟨t',rfl⟩:=ry;exact PySem.EqMixed.ne_int_str (ZL I q (by simp))
   |_=>exact Xi (show false=true from hs) Xp
 |str i =>
   obtain⟨t,rfl⟩:=rx
   cases y with
   |non=>cases ry;exact PySem.EqNone.ne_str_none (ZL I q (by simp))
   |bl j=>cases ry;exact PySem.EqMixed.ne_str_bool (ZL I q (by simp))
   |int j=>obtain⟨t',rfl⟩:=ry;exact PySem.EqMixed.ne_str_int (ZL I q (by simp))
   |str j=>obtain⟨t',rfl⟩:=ry;exact ne_str (ZL I q (XW not SI))
   |_=>exact Xi (show false=true from hs) Xp
 |byt i =>
   obtain⟨t,rfl⟩:=rx
   cases y with
   |byt j=>obtain⟨t',rfl⟩:=ry;exact W.ne_bytes (ZL I q (XW not SW))
   |_=>exact Xi (show false=true from hs) Xp
 |_=>cases y<;>exact Xi (show false=true from hs) Xp
def Be:OpR X (compareOp .Lt) (rI0 fun i j=>.bl (decide (i<j))):=Hi fun _ _ _ _ _ _ _ q=>lt_int q
def Gw:OpR X (compareOp .LtE) (rI0 fun i j=>.bl (decide (i<=j))):=Hi fun _ _ _ _ _ _ _ q=>le_int q
def Jp:OpR X (compareOp .Gt) (rI0 fun i j=>.bl (decide (j<i))):=Hi fun _ _ _ _ _ _ _ q=>gt_int q
def ZN (b:Expr){op:CmpOp}(h:op≠.In:=by decide)(h2:op≠.NotIn:=by decide):behindInMarks op b=false:=by
 have e1:(op==CmpOp.In)=false:=by cases op<;>first|rfl|exact Xi rfl h
 have e2:(op==CmpOp.NotIn)=false:=by cases op<;>first|rfl|exact Xi rfl h2
 cases b<;>simp[behindInMarks,e1,e2]
def G9 {op:CmpOp}{r:R2}(ho:OpR X (compareOp op) r)(ha:PE X a ta)(hb:PE X b tb)(hm:behindInMarks op b=false):PE X (.Compare a [op] [b] pos) (tOp r ta tb):=by
 intro Xbo s σ H Q I h;exact wpAny_Compare1 (Ho ha hb I h fun v u s2 x y H2 I2 rx ry q=>ho Xbo s2 σ H2 x y v u Q I2 rx ry q) hm
def HA (t:TE):TT:=fun σ H Q=>t σ H fun x H'=>∃k,x=.bl k/\Q k H'
def ZX {op:CmpOp}{r:R2}(ho:OpR X (compareOp op) r)(ha:PE X a ta)(hb:PE X b tb)(hm:behindInMarks op b=false):PT X (.Compare a [op] [b] pos) (HA (tOp r ta tb)):=by
 intro Xbo s σ H Q I h;refine wpAny_isTrue_Compare1 (QI (ha Xbo s σ H _ I h) fun v s1 ⟨x,H1,I1,r1,q1⟩=>QI (hb Xbo s1 σ H1 _ I1 q1) fun u s2 ⟨y,H2,I2,r2,q2⟩ =>
  QI (ho Xbo s2 σ H2 x y v u _ I2 r1 r2 q2) fun c s3 ⟨z,H3,I3,r3,k,e,q3⟩=>?_) hm
 subst e;cases r3;exact wpAny_truthy_bool ⟨H3,I3,q3⟩
def HY (r r':R2)(ta tb tc:TE):TE:=fun σ H Q=>ta σ H fun x H1=>tb σ H1 fun y H2=>r x y H2 fun z H3=>∃k,z=.bl k /\
 (if k=true then tc σ H3 fun w' H4=>r' y w' H4 Q else Q (.bl false) H3)
def P6 {op op':CmpOp}{r r':R2}(ho:OpR X (compareOp op) r)(ho':OpR X (compareOp op') r')(ha:PE X a ta)(hb:PE X b tb)(hc:PE X c tc)
 (hm:lastMarks [op,op'] [b,c]=false:=by with_unfolding_all rfl):PE X (.Compare a [op,op'] [b,c] pos) (HY r r' ta tb tc):=by
 intro Xbo s σ H Q I h;refine Compare_chain (QI (ha Xbo s σ H _ I h) fun v s1 ⟨x,H1,I1,r1,q1⟩=>chain_link (QI (hb Xbo s1 σ H1 _ I1 q1) fun u s2 ⟨y,H2,I2,r2,q2⟩ =>
  QI (ho Xbo s2 σ H2 x y v u _ I2 r1 r2 q2) fun d s3 ⟨z,H3,I3,r3,k,e,q3⟩=>?_)) hm
 subst e;cases r3;refine wpAny_truthy_bool ?_
 cases k with
 |false=>exact ite_ff ⟨.bl false,H3,I3,rfl,q3⟩
 |true=>exact ite_tt (chain_last (QI (hc Xbo s3 σ H3 _ I3 q3) fun w' s4 ⟨z',H4,I4,r4,q4⟩=>ho' Xbo s4 σ H4 y z' u w' Q I4 r2 r4 q4))
def AT {op op':CmpOp}{r r':R2}(ho:OpR X (compareOp op) r)(ho':OpR X (compareOp op') r')(ha:PE X a ta)(hb:PE X b tb)(hc:PE X c tc)
 (hm:lastMarks [op,op'] [b,c]=false:=by with_unfolding_all rfl):PT X (.Compare a [op,op'] [b,c] pos) (HA (HY r r' ta tb tc)):=by
 intro Xbo s σ H Q I h;refine isTrue_chain (QI (ha Xbo s σ H _ I h) fun v s1 ⟨x,H1,I1,r1,q1⟩=>test_link (QI (hb Xbo s1 σ H1 _ I1 q1) fun u s2 ⟨y,H2,I2,r2,q2⟩ =>
  QI (ho Xbo s2 σ H2 x y v u _ I2 r1 r2 q2) fun d s3 ⟨z,H3,I3,r3,k,e,q3⟩=>?_)) hm
 subst e;cases r3;refine wpAny_truthy_bool ?_
 cases k with
 |false =>
   obtain⟨k',e',q'⟩:=q3
   cases e'
   exact ite_ff ⟨H3,I3,q'⟩
 |true =>
   refine ite_tt (test_last (QI (hc Xbo s3 σ H3 _ I3 q3) fun w' s4 ⟨z',H4,I4,r4,q4⟩=>QI (ho' Xbo s4 σ H4 y z' u w' _ I4 r2 r4 q4) fun d' s5 ⟨z2,H5,I5,r5,k2,e2,q5⟩=>?_));subst e2;cases r5;exact wpAny_truthy_bool ⟨H5,I5,q5⟩
def Hd (K:W.Frag)(x:V)(H:Hp)(k:Bool):Prop :=
 match x with
 |.non=>k=false
 |.bl b=>k=b
 |.int i=>k=(i != 0)
 |.str y=>y.length<=sizeLine/\k=((y.length:Int) != 0)
 |.byt y=>y.size<=sizeLine/\k=((y.size:Int) != 0)
 |.ref p=>(∃xs,SqL K H p xs/\k = !xs.isEmpty)\/(∃xs,SqT K H p xs/\k = !xs.isEmpty)\/∃kvs,H p=some (.dK kvs)/\k = !kvs.isEmpty
 |_=>False
def Ow {κ:Type}{kvs:List (κ×V)}{vs:List (κ×Value)}(r:KV kvs vs):(!vs.isEmpty) = !kvs.isEmpty:=by
 cases r<;>rfl
def TU {xs:List V}{its:Qe}(r:Zf xs its):(!its.toArray.isEmpty) = !xs.isEmpty:=by
 cases r<;>simp
def UC:(sizeLine:Nat)<2^63:=by rw[sizeLine_eq];decide
def Fw:Lv X (fun x H Q=>∃k,Hd X.K x H k/\Q k H):=by
 intro Xbo s σ H x v Q I rx h;obtain⟨k,e,q⟩:=h;have hl:=UC;have hs:sizeLine=16777216:=sizeLine_eq
 cases x with
 |non =>
   cases rx
   have e':k=false:=e;subst e';exact truthy_none ⟨H,I,q⟩
 |bl b =>
   cases rx
   have e':k=b:=e;subst e';exact wpAny_truthy_bool ⟨H,I,q⟩
 |int i =>
   obtain⟨t,rfl⟩:=rx;have e':k=(i != 0):=e;subst e';exact PySem.P.truthy_int ⟨H,I,q⟩
 |str y =>
   obtain⟨t,rfl⟩:=rx;obtain⟨hy,e'⟩:y.length<=sizeLine/\k=((y.length:Int) != 0):=e;subst e';exact PySem.P.truthy_str (by omega) ⟨H,I.tok _,q⟩
 |byt y =>
   obtain⟨t,rfl⟩:=rx;obtain⟨hy,e'⟩:y.size<=sizeLine/\k=((y.size:Int) != 0):=e;subst e';exact W.truthy_bytes (by omega) ⟨H,I.tok _,q⟩
 |ref p =>
   cases rx
   have e':(∃xs,SqL X.K H p xs/\k = !xs.isEmpty)\/(∃xs,SqT X.K H p xs/\k = !xs.isEmpty)\/∃kvs,H p=some (.dK kvs)/\k = !kvs.isEmpty:=e
   rcases e' with ⟨xs,hx,e'⟩|⟨xs,hx,e'⟩|⟨kvs,hx,e'⟩
   ·subst e'
    obtain⟨its,r,pl,hz⟩:=I.list hx;have hlen:=r.length;exact wpAny_truthy_list pl.isList (by simp only[XF];omega) ⟨H,I.tok _,by rw[TU r];exact q⟩
   ·subst e'
    obtain⟨its,r,pl,hz⟩:=I.tuple hx;have hlen:=r.length;exact truthy_tuple pl (by simp only[XF];omega) ⟨H,I.tok _,by rw[TU r];exact q⟩
   ·subst e'
    obtain⟨hz,hS,vs,r,m⟩:kvs.length<=sizeLine/\(p==sysModules)=false/\∃vs,KV kvs vs/\s.heap.DictOf (Vx X.prog X.w) p vs:=I.hok p _ hx;have hlen:kvs.length=vs.length:=Paired.length r;exact wpAny_truthy_dict hS m (by omega) ⟨H,I.tok _,by rw[Ow r];exact q⟩
 |_=>exact(show False from e).elim
def Pl (ha:PE X a ta)(he:∀whole,isTrue a X.env whole=(do let v <- whole;standAt a.pos;holding [v] (truthy v))) :
 PT X a (fun σ H Q=>ta σ H fun x H'=>∃k,Hd X.K x H' k/\Q k H'):=by
 intro Xbo s σ H Q I h;exact isTrue_plain (QI (ha Xbo s σ H _ I h) fun v s1 ⟨x,H1,I1,r1,q1⟩=>Fw Xbo s1 σ H1 x v Q I1 r1 q1) (he _)
def WH {x:V}{us:Qe}(r:Zf [x] us):∃u,us=[u]/\QR x u:=by
 cases r with
 |cons r1 r2=>cases r2;exact⟨_,rfl,r1⟩
def Bf {x y:V}{us:Qe}(r:Zf [x,y] us):∃u w',us=[u,w']/\QR x u/\QR y w':=by
 cases r with
 |cons r1 r2 =>
   cases r2 with
   |cons r3 r4=>cases r4;exact⟨_,_,rfl,r1,r3⟩
def AH:Vu X (.builtin "abs") (fun xs H Q=>∃i,xs=[.int i]/\Q (.int (if i<0 then -i else i)) H):=by
 intro Xbo s σ H xs us Q I r h;obtain⟨i,rfl,q⟩:=h;obtain⟨u,rfl,t,rfl⟩:=WH r;exact call_abs_int fun u tk=>⟨.int (if i<0 then -i else i),H,I.tok _,⟨_,rfl⟩,q⟩
def Oh (hc:X.calm=true):Vu X (.builtin "max") (fun xs H Q=>∃i j,xs=[.int i,.int j]/\Q (.int (if j > i then j else i)) H):=by
 intro Xbo s σ H xs us Q I r h;obtain⟨i,j,rfl,q⟩:=h;obtain⟨u,w',rfl,⟨t,rfl⟩,⟨t',rfl⟩⟩:=Bf r;refine max_two_ints (I.ok.hd hc) fun h' tk k=>⟨_,H,I.kept k,?_,q⟩
 by_cases hj:j > i
 ·rw[Xb hj,Xb hj];exact⟨_,rfl⟩
 ·rw[Xa hj,Xa hj];exact⟨_,rfl⟩
def IF (hc:X.calm=true):Vu X (.builtin "min") (fun xs H Q=>∃i j,xs=[.int i,.int j]/\Q (.int (if j<i then j else i)) H):=by
 intro Xbo s σ H xs us Q I r h;obtain⟨i,j,rfl,q⟩:=h;obtain⟨u,w',rfl,⟨t,rfl⟩,⟨t',rfl⟩⟩:=Bf r;refine min_two_ints (I.ok.hd hc) fun h' tk k=>⟨_,H,I.kept k,?_,q⟩
 by_cases hj:j<i
 ·rw[Xb hj,Xb hj];exact⟨_,rfl⟩
 ·rw[Xa hj,Xa hj];exact⟨_,rfl⟩
def Ik:Vu X (.type "int") (fun xs H Q=>(∃i,xs=[.int i]/\Q (.int i) H)\/∃k,xs=[.bl k]/\Q (.int (if k then 1 else 0)) H):=by
 intro Xbo s σ H xs us Q I r h;rcases h with ⟨i,rfl,q⟩|⟨k,rfl,q⟩
 ·obtain⟨u,rfl,t,rfl⟩:=WH r
  exact call_int_int ⟨.int i,H,I,⟨_,rfl⟩,q⟩
 ·obtain⟨u,rfl,r1⟩:=WH r
  cases r1
  exact call_int_bool ⟨.int (if k then 1 else 0),H,I.tok _,⟨_,rfl⟩,q⟩
end
structure ObjM (h:Heap)(x dx C:Addr)(mA:Str->Qf):Prop where
 obj:h.get? x=some (W.instObj C dx)
 ns:h.Ns1 dx mA
 ne:dx≠x
def IN {h:Heap}{dx:Addr}{mA:Str->Qf}(n:h.Ns1 dx mA):∃od,h.get? dx=some od/\∀name,W.lookIn name od=some (mA name):=by
 obtain⟨o,es,ep,ho,hd,hk,_,hm⟩:=n;refine⟨o,ho,fun name=>?_⟩;have e:=hm name;unfold nsFind findBy at e;rw[<- Array.find?_toList]at e;unfold W.lookIn;rw[hd];dsimp only;split
 ·rename_i y q
  rw[q]at e;exact XW some e
 ·rename_i q
  rw[q]at e;have a:es.toList.any (·.refKey)=false:=by
   rw[List.any_eq_false];intro y hy;obtain⟨z,t,hkey⟩:=hk y (Array.mem_toList_iff.mp hy)
   simp[DictEntry.refKey,hkey]
  have a':¬es.toList.any (·.refKey)=true:=by rw[a];exact Xp
  rw[Xa a'];exact XW some e
def ObjM.look {h:Heap}{x dx C:Addr}{mA:Str->Qf}(I:ObjM h x dx C mA):∃od,W.InstAt h x (W.instObj C dx) C (some od)/\∀name,W.lookIn name od=some (mA name) :=
 let ⟨od,ho,hl⟩:=IN I.ns
 ⟨od,⟨I.obj,rfl,rfl,ho⟩,hl⟩
section
variable {prog:Program}{w:World}{A:Around}{E:Qb}{s:Shared}{K:W.Frag}{x dx C f:Addr}{mA:Str->Qf}{name:Str}{v:Value}
def Cq {expr:Bool}{Q:Qb}(X:K.In s.heap)(I:ObjM s.heap x dx C mA)(hg:W.plainGet K C name=true)(hh:W.hasDictIn K C=true)
 (ha:W.findIn K (.ref C) name=some none) (hv:mA name=some v) (hv':W.handedIn v=true) (h:Q v { s with toks:=s.toks+1 }) :
 wpAny (model prog w) A (getAttr (.ref x) name expr) Q E s:=by
 obtain⟨od,J,hl⟩:=I.look;exact W.get_value X J (W.plainGet_of hg).1 (W.findObj_own hh ha rfl (by rw[hl,hv])) hv' h
def EK {pl:Sem Bool}{Q:Value×Qe->Shared->Prop}(X:K.In s.heap)(I:ObjM s.heap x dx C mA)(hg:W.plainGet K C name=true)
 (hf:W.findIn K (.ref C) name=some (some (.ref f))) (ht:W.isFn K (.ref f)=true) (hv:mA name=none) (h:Q (.ref f,[.ref x]) s) :
 wpAny (model prog w) A (getMethod (.ref x) name pl) Q E s:=by
 obtain⟨od,J,hl⟩:=I.look;exact W.method_fn X J (W.plainGet_of hg).1 (W.plainGet_of hg).2 hf (beq_iff_eq.mp ht) (by show(W.lookIn name od).map (·.isSome)=some false;rw[hl,hv];rfl) h
def CF {ns:Qh}{Q:Unit->Shared->Prop}(X:K.In s.heap)(I:ObjM s.heap x dx C mA)
 (hs:W.findIn K (.ref C) "__setattr__"=some (some (.builtin "object.__setattr__"))) (hp:W.plainOver K C=true) (ht:W.takerIn K C name=some none) (hh:W.hasDictIn K C=true)
 (hw:PySem.Within mA ns) (hsz:ns.length<=sizeLine)
 (h:∀h',ObjM h' x dx C (fun y=>if y=name then some v else mA y)->Heap.SameBut dx s.heap h'->Q () { s with heap:=h',toks:=s.toks+2 }) :
 wpAny (model prog w) A (setAttr (.ref x) name v) Q E s:=by
 obtain⟨od,J,hl⟩:=I.look;refine W.set_plain X J hs (W.osa_open (s:={ s with toks:=s.toks+1 }) (r:=none) X J hp ht fun b=>?_);obtain⟨cd,hc,hd'⟩:=W.any_some hh;have hx:s.heap.get? x=some ⟨.ref C,some dx,.plain,#[]⟩:=I.obj;refine Xd (Xu (Xd (Xd (wpAny_loadPart hx (Xd (W.Looks.here (s:={ s with toks:=s.toks+1 }) (W.looks_clsIn X hc) ?_))))));rw[hd'];refine Xu (a:=some dx) (Xd (Xu (Xd ?_)));refine wpAny_nsSet1 (s:={ s with toks:=s.toks+1 }) I.ns fun h' hn2 hs2=>?_;obtain⟨oD,esD,epD,hoD,hdD,hcD⟩:=hn2.count (PySem.Within.cons name v hw);refine Xd (wpAny_lookBehind hoD (by rw[hdD];exact pastItsLine_dict (XI hcD (by rw[XX];omega))) ?_);exact Xu (h _ ⟨(hs2.2 _ (Ne.symm I.ne)).trans I.obj,hn2,I.ne⟩ hs2)
def ES {R:Result->Shared->Prop}{vs:Qe}{kw:List (Str×Value)}(X:K.In s.heap)(hm:W.makesIn K C=true)
 (hi:W.findIn K (.ref C) "__init__"=some (some (.ref f))) (hf:W.typeIn K (.ref f)=some (.type "function"))
 (h:codeAny (model prog w) (A.under (.builtin "type.__call__" ⟨.ref C::vs,kw⟩)) (.call (.ref f) ⟨.ref (s.heap.objs.size+1)::vs,kw⟩) (W.InitBack (s.heap.objs.size+1) R)
  { s with heap:=(s.heap.push W.emptyDict).push (W.instObj C s.heap.objs.size) }) :
 codeAny (model prog w) A (.call (.ref C) ⟨vs,kw⟩) R s:=by
 obtain⟨hh,g,d,t,os⟩:=s;exact W.make_core (W.makes_of X hm) (W.looks_findIn X hi) (fun self=>W.bind_fn X self hf) (.inl rfl) h
end
def Yc (f:Str)(v:V):List (Str×V)->List (Str×V)
 |[]=>[(f,v)]
 |(g,x)::r=>if g=f then (g,v)::r else (g,x)::Yc f v r
theorem T6 (f g:Str)(v:V):∀fs:List (Str×V),(Yc f v fs).lookup g=if g=f then some v else fs.lookup g
 |[]=>by
   show List.lookup g [(f,v)]=_
   by_cases h:g=f
   ·have hb:(g==f)=true:=beq_iff_eq.mpr h
    simp only[List.lookup,hb,Xb h]
   ·have hb:(g==f)=false:=beq_eq_false_iff_ne.mpr h
    simp only[List.lookup,hb,Xa h]
 |(k,x)::r=>by
   have ih:=T6 f g v r;rw[show Yc f v ((k,x)::r)=(if k=f then (k,v)::r else (k,x)::Yc f v r) from rfl];by_cases hk:k=f
   ·rw[Xb hk]
    by_cases h:g=k
    ·have hb:(g==k)=true:=beq_iff_eq.mpr h
     simp only[List.lookup,hb,Xb (h.trans hk)]
    ·have hb:(g==k)=false:=beq_eq_false_iff_ne.mpr h
     simp only[List.lookup,hb,Xa (fun e:g=f=>h (e.trans hk.symm))]
   ·rw[Xa hk]
    by_cases h:g=k
    ·have hb:(g==k)=true:=beq_iff_eq.mpr h
     simp only[List.lookup,hb,Xa (fun e:g=f=>hk (h.symm.trans e))]
    ·have hb:(g==k)=false:=beq_eq_false_iff_ne.mpr h
     simp only[List.lookup,hb];exact ih
theorem KP (f:Str)(v:V):∀fs:List (Str×V),f∈(Yc f v fs).map (·.1)/\∀g,g∈fs.map (·.1)->g∈(Yc f v fs).map (·.1)
 |[]=>⟨by simp[Yc],fun g h=>by simp at h⟩
 |(k,x)::r=>by
   obtain⟨i1,i2⟩:=KP f v r;rw[show Yc f v ((k,x)::r)=(if k=f then (k,v)::r else (k,x)::Yc f v r) from rfl];by_cases hk:k=f
   ·rw[Xb hk]
    subst hk;exact⟨by simp,fun g h=>by simpa using h⟩
   ·rw[Xa hk]
    refine⟨?_,fun g h=>?_⟩
    ·rw[Xs]
     exact Xf _ i1
    ·rw[Xs]at h ⊢
     rcases Xg.mp h with e|e
     ·exact Xg.mpr (.inl e)
     ·exact Xf _ (i2 g e)
theorem T7 (f:Str)(v:V):∀fs:List (Str×V),(Yc f v fs).length<=fs.length+1
 |[]=>by simp[Yc]
 |(k,x)::r=>by
   have ih:=T7 f v r;rw[show Yc f v ((k,x)::r)=(if k=f then (k,v)::r else (k,x)::Yc f v r) from rfl];by_cases hk:k=f
   ·rw[Xb hk,XX,XX];omega
   ·rw[Xa hk,XX,XX];omega
def Vm.some_of {v:V}{o:Qf}(r:Vm (some v) o):∃u,o=some u/\QR v u:=by
 cases o with
 |none=>exact(show False from r).elim
 |some u=>exact⟨u,rfl,r⟩
def Vm.none_of {o:Qf}(r:Vm none o):o=none:=by
 cases o with
 |none=>rfl
 |some u=>exact(show False from r).elim
def Od {v:V}{u:Value}(r:QR v u):W.handedIn u=true:=by
 cases v with
 |non=>cases (show u=Value.none from r);rfl
 |bl b=>cases (show u=Value.bool b from r);rfl
 |int i=>obtain⟨t,e⟩:=(show ∃t,u=Value.int i t from r);cases e;rfl
 |str x=>obtain⟨t,e⟩:=(show ∃t,u=Value.str x t from r);cases e;rfl
 |byt b=>obtain⟨t,e⟩:=(show ∃t,u=Value.bytes b t from r);cases e;rfl
 |flt b=>obtain⟨t,e⟩:=(show ∃t,u=Value.float b t from r);cases e;rfl
 |ref a=>cases (show u=Value.ref a from r);rfl
 |ty n=>cases (show u=Value.type n from r);rfl
section
variable {P:Program}{w:World}{H H':Hp}{h h':Heap}{a C dx:Addr}{fs fs':List (Str×V)}
def Kx (hok:HOk P w H h)(e:H a=some (.ins C dx fs)):∃mA,ObjM h a dx C mA/\(∀f,Vm (fs.lookup f) (mA f))/\PySem.Within mA (fs.map (·.1))/\fs.length<=1000/\H dx=some (.own a):=by
 obtain⟨d,z,ne,ob,mA,n,r,q⟩:=(show ZR P w H h a (.ins C dx fs) from hok a _ e)
 exact⟨mA,⟨ob,n,ne⟩,r,q,z,d⟩
end
structure Cls (K:W.Frag)(C:Addr):Prop where
 pg:W.plainGet K C Str.empty=true
 hd:W.hasDictIn K C=true
 po:W.plainOver K C=true
 sa:W.findIn K (.ref C) "__setattr__"=some (some (.builtin "object.__setattr__"))
def Cls.get {K:W.Frag}{C:Addr}(c:Cls K C)(f:Str):W.plainGet K C f=true:=c.pg
def WO (K:W.Frag)(C:Addr)(f:Str):Prop:=W.findIn K (.ref C) f=some none
def WO.taker {K:W.Frag}{C:Addr}{f:Str}(n:WO K C f):W.takerIn K C f=some none:=by
 unfold W.takerIn;rw[show W.findIn K (.ref C) f=some none from n];rfl
structure Meth (K:W.Frag)(C:Addr)(m:Str)(f:Addr):Prop where
 at_:W.findIn K (.ref C) m=some (some (.ref f))
 fn:W.isFn K (.ref f)=true
 kp:W.keepIn K (.ref f)=true
section
variable {X:Cx}{Xbo:Qc}{σ:St}{H:Hp}{s:Shared}{a C dx:Addr}{fs:List (Str×V)}{f:Str}{v:V}{A:Around}{E:Qb}
def ON {b:Bool}{Q:Qb}(I:Qu X Xbo σ H s)(e:H a=some (.ins C dx fs))(c:Cls X.K C)(n:WO X.K C f)(l:fs.lookup f=some v)
 (h:∀u s',Qu X Xbo σ H s'->QR v u->Q u s'):wpAny (model X.prog X.w) A (getAttr (.ref a) f b) Q E s:=by
 obtain⟨mA,O,r,_,_,_⟩:=Kx I.hok e;obtain⟨u,hu,ru⟩:=Vm.some_of (v:=v) (o:=mA f) (by rw[<- l];exact r f);exact Cq I.kIn O (c.get f) c.hd n hu (Od ru) (h u _ (I.tok _) ru)
def Oz {m:Str}{g:Addr}{pl:Sem Bool}{Q:Value×Qe->Shared->Prop}(I:Qu X Xbo σ H s)(e:H a=some (.ins C dx fs))(c:Cls X.K C)(k:Meth X.K C m g)(l:fs.lookup m=none)
 (h:Q (.ref g,[.ref a]) s):wpAny (model X.prog X.w) A (getMethod (.ref a) m pl) Q E s:=by
 obtain⟨mA,O,r,_,_,_⟩:=Kx I.hok e;have hn:mA m=none:=Vm.none_of (by rw[<- l];exact r m);exact EK I.kIn O (c.get m) k.at_ k.fn hn h
def O0 {y:V}{u:Value}{Q:Unit->Shared->Prop}(I:Qu X Xbo σ H s)(e:H a=some (.ins C dx fs))(c:Cls X.K C)(n:WO X.K C f)(hl:fs.length<1000)(ry:QR y u)
 (h:∀s',Qu X Xbo σ (upd H a (.ins C dx (Yc f y fs))) s'->Q () s'):wpAny (model X.prog X.w) A (setAttr (.ref a) f u) Q E s:=by
 obtain⟨mA,O,r,wi,_,ho⟩:=Kx I.hok e;have hz:(fs.map (·.1)).length<=sizeLine:=by rw[Xh,sizeLine_eq];omega
 refine CF I.kIn O c.sa c.po n.taker c.hd wi hz fun h' O' sb=>h _ ?_;have hd:∃o,h'.get? dx=some o:=let ⟨o,_,_,e',_⟩:=O'.ns;⟨o,e'⟩;refine I.write (x:=a) (e:=dx) (by rw[e];exact True.intro) (.inr ho) (fun b q hb z=>(sb.2 b hb).trans z) hd ?_;refine⟨by rw[Q7 O.ne];exact ho,?_,O.ne,O'.obj,_,O'.ns,fun g=>?_,fun g hg=>?_⟩
 ·have:=T7 f y fs;omega
 ·show Vm ((Yc f y fs).lookup g) (if g=f then some u else mA g)
  rw[T6];by_cases q:g=f
  ·rw[Xb q,Xb q];exact ry
  ·rw[Xa q,Xa q];exact r g
 ·by_cases q:g=f
  ·rw[q];exact(KP f y fs).1
  ·refine(KP f y fs).2 g (wi g fun z=>hg ?_)
   show(if g=f then some u else mA g)=none
   rw[Xa q];exact z
def Qu.made (I:Qu X Xbo σ H s):Qu X Xbo σ (upd (upd H s.heap.objs.size (.own (s.heap.objs.size+1))) (s.heap.objs.size+1) (.ins C s.heap.objs.size []))
 { s with heap:=(s.heap.push W.emptyDict).push (W.instObj C s.heap.objs.size) }:=by
 have e1:(s.heap.push W.emptyDict).get? s.heap.objs.size=some W.emptyDict:=XV s.heap rfl
 have e2:((s.heap.push W.emptyDict).push (W.instObj C s.heap.objs.size)).get? (s.heap.objs.size+1)=some (W.instObj C s.heap.objs.size):=by
  have:=XV (s.heap.push W.emptyDict) (o:=W.instObj C s.heap.objs.size) rfl
  rwa [Wv]at this
 have e3:(s.heap.push W.emptyDict).Ns s.heap.objs.size (fun _=>none):=⟨W.emptyDict,#[],_,e1,rfl,(fun e he=>Xi he (by simp)),fun _=>rfl⟩;have I1:=I.laid (a:=s.heap.objs.size) (o:=.own (s.heap.objs.size+1)) (h':=s.heap.push W.emptyDict) (t':=s.toks) (fun b u q=>Xo _ q) (Xx _) ⟨_,e1⟩;refine I1.laid (a:=s.heap.objs.size+1) (o:=.ins C s.heap.objs.size []) (t':=s.toks) (fun b u q=>Xo _ q) (Nat.le_of_eq (Wv _ _)) ?_;have ne:s.heap.objs.size≠s.heap.objs.size+1:=Xr (Ge _);refine⟨by rw[Q7 ne,Zg],X4 _,ne,e2,fun _=>none,(Heap.Ns1.of_empty e3).at fun o q=>Xo _ q,fun _=>True.intro,fun y hy=>Xi rfl hy⟩
def Af {prog:Program}{w:World}{env:Env}{e:Expr}{f:Str}{pos:Pos}{s:Shared}{Q:Qb}(hb:attributeBase e f env (eval e env)=eval e env)
 (h:wpAny (model prog w) A (eval e env) (fun o bj=>wpAny (model prog w) A (getAttr o f true) Q E bj) E s):wpAny (model prog w) A (eval (.Attribute e f pos) env) Q E s :=
 Attribute_any_ h (by rw[arm_eval_Attribute,hb])
end
def YK (K:W.Frag)(ta:TE)(f:Str):TE:=fun σ H Q=>ta σ H fun x H1=>∃a C dx fs v,x=.ref a/\H1 a=some (.ins C dx fs)/\Cls K C/\WO K C f/\fs.lookup f=some v/\Q v H1
def Lw (K:W.Frag)(ta tv:TE)(f:Str):TS:=fun D σ H=>tv σ H fun y H1=>ta σ H1 fun x H2=>∃a C dx fs,x=.ref a/\H2 a=some (.ins C dx fs)/\Cls K C/\WO K C f/\fs.length<1000 /\
 D.nx σ (upd H2 a (.ins C dx (Yc f y fs)))
section
variable {X:Cx}{o e value:Expr}{f:Str}{pos pos' tpos:Pos}{ta tv:TE}
def VL (he:PE X e ta)(hb:attributeBase e f X.env (eval e X.env)=eval e X.env):PE X (.Attribute e f pos) (YK X.K ta f):=by
 intro Xbo s σ H Q I h;refine Af hb (QI (he Xbo s σ H _ I h) fun u s1 ⟨x,H1,I1,rx,a,C,dx,fs,v,ex,ea,c,n,l,q⟩=>?_);subst ex;obtain rfl:u=Value.ref a:=rx;exact ON I1 ea c n l fun u' s2 I2 ru=>⟨v,H1,I2,ru,q⟩
def M1 (ha:PE X o ta)(hv:PE X value tv)(hs:swapsWith value (some (.Attribute o f pos')) pos.line X.env=pure false):PS X (.Assign [.Attribute o f pos'] value pos) (Lw X.K ta tv f):=by
 intro Xbo s σ H D I h;refine plainObj_wpAny_Assign_Attribute (QI (hv Xbo s σ H _ I h) fun u s1 ⟨y,H1,I1,ry,q⟩=>QI (ha Xbo s1 σ H1 _ I1 q) fun ov s2 ⟨x,H2,I2,rx,a,C,dx,fs,ex,ea,c,n,l,q2⟩=>?_) hs;subst ex;obtain rfl:ov=Value.ref a:=rx;exact O0 I2 ea c n l ry fun s3 I3=>⟨σ,_,I3,q2⟩
end
section
variable {X:Cx}{Xbo:Qc}{σ:St}{H:Hp}{s:Shared}{A:Around}{E:Qb}{Q:Qb}{c:Value}{b:Bool}
end
structure Room (k:Nat)(A:Around):Prop where
 hd:A.handled=none
 dp:A.depth+3*k+5<recursionLimit
 un:A.units+16*k+200<cLine
def Room.mono {j k:Nat}{A:Around}(r:Room k A)(h:j<=k):Room j A:=⟨r.hd,by have:=r.dp;omega,by have:=r.un;omega⟩
def Room.deeper {k:Nat}{A:Around}(r:Room (k+1) A)(env:Env):Room k (A.deeper env) :=
 ⟨r.hd,by have:=r.dp;show A.depth+1+3*k+5<_;omega,by have:=r.un;show A.units+3+16*k+200<_;omega⟩
def OR {A:Around} {C:Addr} {us:Qe} {kw:List (Str×Value)}:(A.under (.builtin "type.__call__" ⟨.ref C::us,kw⟩)).depth=A.depth+1:=by
 first|rfl|simp[Around.under,Code.weight,Code.isCreation,Code.isGuard,Code.isCaller,Code.frames,Code.isFrame,guardIds]
def OS {A:Around} {C:Addr} {us:Qe} {kw:List (Str×Value)}:(A.under (.builtin "type.__call__" ⟨.ref C::us,kw⟩)).units=A.units+1:=by
 first|rfl|simp[Around.under,Code.cUnits,Code.frames,Code.isFrame]
def Room.make {k:Nat} {A:Around} (r:Room (k+1) A) (C:Addr) (us:Qe) (kw:List (Str×Value)):Room k (A.under (.builtin "type.__call__" ⟨.ref C::us,kw⟩)) :=
 ⟨r.hd,by have:=r.dp;rw[OR];omega,by have:=r.un;rw[OS];omega⟩
def Room.depth {k:Nat}{A:Around}(r:Room k A):A.depth<recursionLimit:=by have:=r.dp;omega
def Room.units {k:Nat}{A:Around}(r:Room k A):A.units+64<cLine:=by have:=r.un;omega
def Zv:TA:=fun _ H Q=>Q [] H
def Zl (ta:TE)(tr:TA):TA:=fun σ H Q=>ta σ H fun x H1=>tr σ H1 fun xs H2=>Q (x::xs) H2
section
variable {X:Cx}{e:Expr}{es:Qi}{te:TE}{t:TA}{pos:Pos}
def Qr:PA X [] Zv:=fun _ _ _ _ H Q I h=>Calls.spliced_nil ⟨[],H,I,.nil,h⟩
def Qo (ha:PE X e te)(hr:PA X es t)(hs:starEach (e::es) X.env=(false,eval e X.env)::starEach es X.env:=by rfl):PA X (e::es) (Zl te t):=by
 intro pos Xbo s σ H Q I h;rw[hs];show wpAny _ _ (spliced ((false,eval e X.env)::backTo pos (starEach es X.env))) _ _ s;refine Calls.spliced_cons (QI (ha Xbo s σ H _ I h) fun u s1 ⟨x,H1,I1,r1,q1⟩=>?_);exact QI (hr pos Xbo s1 σ H1 _ I1 q1) fun us s2 ⟨xs,H2,I2,r2,q2⟩=>⟨x::xs,H2,I2,.cons r1 r2,q2⟩
def Mb (t:TA):TE:=fun σ H Q=>t σ H fun xs H1=>xs.length<=sizeLine/\∀p,H1 p=none->Q (.ref p) (upd H1 p (.tup xs))
def Me (t:TA):TE:=fun σ H Q=>t σ H fun xs H1=>xs.length<=sizeLine/\∀p,H1 p=none->Q (.ref p) (upd H1 p (.lst xs))
def Va {x1}(h:PA X es t):PE X (.Tuple es x1 pos) (Mb t):=by
 intro Xbo s σ H Q I hq;refine wpAny_Tuple_spliced (QI (h pos Xbo s σ H _ I hq) fun us s1 ⟨xs,H1,I1,r,z,q⟩=>⟨by rw[<- r.length];exact z,?_⟩);have hf:H1 s1.heap.objs.size=none:=I1.hok.fresh (Xx _);refine⟨.ref s1.heap.objs.size,upd H1 s1.heap.objs.size (.tup xs),I1.laid (t':=s1.toks) (fun b u e=>Xo _ e) (Xx _) ?_,rfl,q _ hf⟩
 exact⟨z,us,r,⟨_,XV _ rfl,rfl,_,rfl⟩⟩
def V2 (h:PA X es t):PE X (.List es pos) (Me t):=by
 intro Xbo s σ H Q I hq;refine wpAny_List_spliced (QI (h pos Xbo s σ H _ I hq) fun us s1 ⟨xs,H1,I1,r,z,q⟩=>⟨by rw[<- r.length];exact z,?_⟩);have hf:H1 s1.heap.objs.size=none:=I1.hok.fresh (Xx _);refine⟨.ref s1.heap.objs.size,upd H1 s1.heap.objs.size (.lst xs),I1.laid (t':=s1.toks) (fun b u e=>Xo _ e) (Xx _) ?_,rfl,q _ hf⟩
 exact⟨z,us,0,r,XV _ rfl⟩
end
abbrev Sp:=List V->Hp->VK->XK->Prop
abbrev CXT:=List Env->Hp->Shared->XK->Qb
structure Env0 (P:Program)(w:World)(K:W.Frag)(mg:Str->Qf)(base:Heap)(A:Around)(outer:List Env)(s:Shared)(H:Hp):Prop where
 frames:A.frames=some outer
 mod:Mod K mg base
 bs:∀b o,base.get? b=some o->s.heap.get? b=some o/\(H b=none\/∃xs,H b=some (.tup xs))
 bsz:base.objs.size<=s.heap.objs.size
 funs:s.heap.FunFrames base outer
 frf:∀b∈frs outer,H b=none
 hok:HOk P w H s.heap
 bare:AllBare s.gens
def CE (outer:List Env)(P:Program)(w:World)(H:Hp)(s:Shared)(Q:VK)(u:Value)(s':Shared):Prop :=
 ∃v H',s'.os=s.os/\AllBare s'.gens/\Un (frs outer) [] H H' s.heap s'.heap/\HOk P w H' s'.heap/\QR v u/\Q v H'
def CR (CX:CXT)(outer:List Env)(P:Program)(w:World)(H:Hp)(s:Shared)(Q:VK)(E:XK)(r:Result)(s':Shared):Prop :=
 match r with
 |.ok (.ret u)=>CE outer P w H s Q u s'
 |.ok _=>False
 |.error e=>CX outer H s E e s'
structure FnOk (P:Program)(w:World)(K:W.Frag)(mg:Str->Qf)(base:Heap)(CX:CXT)(k:Nat)(f:Addr)(fd:FuncData)(ps:Qh)(sp:Sp):Prop where
 len:∀vs H Q E,sp vs H Q E->vs.length=ps.length
 run:∀(A:Around) (outer:List Env) (s:Shared) (H:Hp) (args:Args) (us:Qe) (vs:List V) (Q:VK) (E:XK),Room k A->Env0 P w K mg base A outer s H->BindsTo s fd args (ps.zip us)->Zf vs us->sp vs H Q E ->
  codeAny (model P w) A (.call (.ref f) args) (CR CX outer P w H s Q E) s
def Env0.make {P:Program}{w:World}{K:W.Frag}{mg:Str->Qf}{base:Heap}{A:Around}{outer:List Env}{s:Shared}{H:Hp}(e:Env0 P w K mg base A outer s H)(C:Addr)(us:Qe)(kw:List (Str×Value)) :
 Env0 P w K mg base (A.under (.builtin "type.__call__" ⟨.ref C::us,kw⟩)) outer s H:=⟨by first|exact e.frames|(simpa [Around.under,Code.envs,Code.isFrame,pushEnvs] using e.frames),e.mod,e.bs,e.bsz,e.funs,e.frf,e.hok,e.bare⟩
section
variable {X:Cx}{Xbo:Qc}{σ:St}{H:Hp}{s s':Shared}
def Qu.env0 (I:Qu X Xbo σ H s):Env0 X.prog X.w X.K X.mg X.base X.A X.stack s H :=
 ⟨I.ok.frames,I.ok.mod,I.bs,XI I.ok.bsz I.sz,I.stack,I.stkFree,I.hok,I.bare⟩
def Qu.after {Q:VK}{u:Value}(I:Qu X Xbo σ H s)(h:CE X.stack X.prog X.w H s Q u s'):EP X Xbo σ Q u s':=by
 obtain⟨v,H',os,bare,un,hok,r,q⟩:=h;obtain⟨hh,g,d,t,os'⟩:=s';obtain rfl:os'=s.os:=os
 exact⟨v,H',I.call (h':=hh) (g':=g) (d':=d) (t':=t) (ch:=[]) un hok bare (fun b z=>Xi z (by simp)),r,q⟩
end
def Wz (sp:Sp)(dvs:List V)(E:XK)(t:TA):TE:=fun σ H Q=>t σ H fun vs H1=>sp (vs++dvs) H1 Q E
def Gp (C:Addr)(m:Str)(sp:Sp)(dvs:List V)(E:XK)(ta:TE)(t:TA):TE:=fun σ H Q=>ta σ H fun x H1=>∃a dx fs,x=.ref a/\H1 a=some (.ins C dx fs)/\fs.lookup m=none /\
 t σ H1 fun vs H2=>sp (x::(vs++dvs)) H2 Q E
def HI (C:Addr)(sp:Sp)(dvs:List V)(E:XK)(t:TA):TE:=fun σ H Q=>t σ H fun vs H1=>∀x dx,H1 x=none->H1 dx=none->dx≠x ->
 sp (.ref x::(vs++dvs)) (upd (upd H1 dx (.own x)) x (.ins C dx [])) (fun v H2=>v=.non/\Q (.ref x) H2) E
def YL (K:W.Frag)(fd:FuncData)(ps:Qh)(ds:Qe):Prop :=
 ∀(s:Shared) (us:Qe),K.In s.heap->(us++ds).length=ps.length->BindsTo s fd ⟨us,[]⟩ (ps.zip (us++ds))
def YL.all {K:W.Frag}{fd:FuncData}{ps:Qh}(h:∀us:Qe,us.length=ps.length->bindArgs fd ⟨us,[]⟩=pure (ps.zip us)):YL K fd ps []:=fun s us _ hl=>by
 rw[X2]at hl ⊢;exact .of_eq (h us hl)
def G1 (CX:CXT)(X:Cx)(E:XK):Prop := ∀(Xbo:Qc) (σ:St) (H:Hp) (s:Shared) (e:Value) (s':Shared),Qu X Xbo σ H s->CX X.stack H s E e s'->X.xe e s'
section
variable {X:Cx}{CX:CXT}{k:Nat}{f C:Addr}{fd:FuncData}{ps:Qh}{sp:Sp}{dvs:List V}{ds:Qe}{E:XK}{x m:Str}{p pos apos:Pos}{e o:Expr}{es:Qi}{ta:TE}{t:TA}
def Sj {Xbo:Qc}{σ:St}{H:Hp}{s:Shared}{Q:VK}{us:Qe}{vs:List V}(F:FnOk X.prog X.w X.K X.mg X.base CX k f fd ps sp)(hr:Room k X.A)(hb:YL X.K fd ps ds)(hd:Zf dvs ds)(hx:G1 CX X E)
 (I:Qu X Xbo σ H s) (r:Zf vs us) (h:sp (vs++dvs) H Q E):wpAny (model X.prog X.w) X.A (call (.ref f) us) (EP X Xbo σ Q) X.xe s:=by
 have r2:Zf (vs++dvs) (us++ds):=r.append hd;have hl:(us++ds).length=ps.length:=by rw[<- r2.length];exact F.len _ _ _ _ h
 refine wpAny_call (codeAny_mono (F.run X.A X.stack s H ⟨us,[]⟩ (us++ds) (vs++dvs) Q E hr I.env0 (hb s us I.kIn hl) r2 h) fun r s' hq=>?_)
 cases r with
 |error e=>exact hx Xbo σ H s e s' I hq
 |ok fl =>
   cases fl with
   |ret u=>exact I.after hq
   |next=>exact False.elim hq
   |brk=>exact False.elim hq
   |cont=>exact False.elim hq
def Aj (F:FnOk X.prog X.w X.K X.mg X.base CX k f fd ps sp)(hr:Room k X.A)(hg:Gl X x)(hm:X.mg x=some (.ref f))(hk:W.keepIn X.K (.ref f)=true)(hb:YL X.K fd ps ds)(hd:Zf dvs ds)(hx:G1 CX X E)
 (ha:PA X (e::es) t) (hdb:(x==("__debug__" : Str))=false:=by decide) (he:starEach (e::es) X.env=(false,eval e X.env)::starEach es X.env:=by rfl) (hpl:(backTo pos (starEach es X.env)).any (·.1)=false:=by rfl) :
 PE X (.Call (.Name x p) (e::es) [] pos) (Wz sp dvs E t):=by
 intro Xbo s σ H Q I h;refine wpAny_Call_Name_kw (Ks I hg hm ?_ hdb);refine W.callWith_K (h₀:=X.base) I.ok.mod.kin hk (QI (ha pos Xbo s σ H _ I h) fun us s1 ⟨vs,H1,I1,r,q⟩=>⟨I1.kIn,?_⟩) he hpl;exact Sj F hr hb hd hx I1 r q
def CK {pl:Sem Bool}(he:PE X o ta)(c:Cls X.K C)(hm:Meth X.K C m f)(F:FnOk X.prog X.w X.K X.mg X.base CX k f fd ps sp)(hr:Room k X.A)(hb:YL X.K fd ps ds)(hd:Zf dvs ds)(hx:G1 CX X E)(ha:PA X (e::es) t)
 (hst:starEach (e::es) X.env=(false,eval e X.env)::starEach es X.env:=by rfl) (hpl:(backTo pos (starEach es X.env)).any (·.1)=false:=by rfl)
 (ht:eval (.Call (.Attribute o m apos) (e::es) [] pos) X.env=(do
  let ov <- eval o X.env
  standAt apos.atName
  let (f,first) <- holding [ov] (getMethod ov m pl)
  callWith pos f first (backTo pos (starEach (e::es) X.env)) (backToKw pos (keywordEach [] X.env))):=by rfl) :
 PE X (.Call (.Attribute o m apos) (e::es) [] pos) (Gp C m sp dvs E ta t):=by
 intro Xbo s σ H Q I h;refine W.methodCall_KW (pl:=pl) (QI (he Xbo s σ H _ I h) fun u s1 ⟨x,H1,I1,rx,a,dx,fs,ex,ea,l,q⟩=>?_) ht;subst ex;obtain rfl:u=Value.ref a:=rx;refine Oz I1 ea c hm l ?_;refine W.callWith_K (first:=[.ref a]) (h₀:=X.base) I.ok.mod.kin hm.kp (QI (ha pos Xbo s1 σ H1 _ I1 q) fun us s2 ⟨vs,H2,I2,r,q2⟩=>⟨I2.kIn,?_⟩) hst hpl;exact Sj (us:=.ref a::us) (vs:=.ref a::vs) F hr hb hd hx I2 (.cons rfl r) q2
structure Mk (K:W.Frag)(C f:Addr):Prop where
 makes:W.makesIn K C=true
 init:W.findIn K (.ref C) "__init__"=some (some (.ref f))
 fn:W.isFn K (.ref f)=true
 kp:W.keepIn K (.ref C)=true
def Aa {Xbo:Qc}{σ:St}{H:Hp}{s:Shared}{Q:VK}{us:Qe}{vs:List V}(M:Mk X.K C f)(F:FnOk X.prog X.w X.K X.mg X.base CX k f fd ps sp)(hr:Room (k+1) X.A)(hb:YL X.K fd ps ds)(hd:Zf dvs ds)
 (hx:G1 CX X E) (I:Qu X Xbo σ H s) (r:Zf vs us)
 (h:∀x dx,H x=none->H dx=none->dx≠x->sp (.ref x::(vs++dvs)) (upd (upd H dx (.own x)) x (.ins C dx [])) (fun v H2=>v=.non/\Q (.ref x) H2) E) :
 wpAny (model X.prog X.w) X.A (call (.ref C) us) (EP X Xbo σ Q) X.xe s:=by
 have hq:=h (s.heap.objs.size+1) s.heap.objs.size (I.hok.fresh (Nat.le_succ _)) (I.hok.fresh (Xx _)) (Xr (Ge _));have I2:=Qu.made (C:=C) I;have r2:Zf (V.ref (s.heap.objs.size+1)::(vs++dvs)) (Value.ref (s.heap.objs.size+1)::(us++ds)):=.cons rfl (r.append hd)
 have hl:(Value.ref (s.heap.objs.size+1)::us++ds).length=ps.length:=by
  have e:=r2.length;rw[F.len _ _ _ _ hq]at e;exact e.symm
 refine wpAny_call (ES (f:=f) I.kIn M.makes M.init (beq_iff_eq.mp M.fn) (codeAny_mono (F.run _ X.stack _ _ ⟨Value.ref (s.heap.objs.size+1)::us,[]⟩ (Value.ref (s.heap.objs.size+1)::(us++ds)) _ _ E (hr.make C us [])
  (I2.env0.make C us []) (hb _ (Value.ref (s.heap.objs.size+1)::us) I2.kIn hl) r2 hq) fun r s' hq'=>?_))
 cases r with
 |error e=>exact hx Xbo σ _ _ e s' I2 hq'
 |ok fl =>
   cases fl with
   |ret u =>
     obtain⟨v,H',I3,rv,ev,q3⟩:=I2.after hq';subst ev;exact⟨rv,⟨V.ref (s.heap.objs.size+1),H',I3,rfl,q3⟩⟩
   |next=>exact False.elim hq'
   |brk=>exact False.elim hq'
   |cont=>exact False.elim hq'
def Au (M:Mk X.K C f)(F:FnOk X.prog X.w X.K X.mg X.base CX k f fd ps sp)(hr:Room (k+1) X.A)(hg:Gl X x)(hm:X.mg x=some (.ref C))(hb:YL X.K fd ps ds)(hd:Zf dvs ds)(hx:G1 CX X E)
 (hdb:(x==("__debug__" : Str))=false:=by decide):PE X (.Call (.Name x p) [] [] pos) (HI C sp dvs E Zv):=by
 intro Xbo s σ H Q I h;refine wpAny_Call_Name_kw (Ks I hg hm ?_ hdb);exact W.callWith_K0 I.kIn M.kp (Aa (us:=[]) M F hr hb hd hx I .nil h)
end
section
variable {X:Cx}{CX:CXT}{k:Nat}{f C:Addr}{fd:FuncData}{ps ks:Qh}{sp:Sp}{E:XK}{x m:Str}{p pos apos kpos:Pos}{e o:Expr}{es:Qi}{kws:List Keyword}{te ta:TE}{t tk:TA}{nm:Option Str}
variable {g:Qe->Qe->Qe}{gV:List V->List V->List V}
end
structure Qq (N P:Qh)(sc:Scope):Prop where
 kind:sc.kind=.function
 co:sc.isCoroutine=false
 gen:sc.isGenerator=false
 nd:N.Nodup
 pre:N.take P.length=P
 par:∀x∈P,sc.names.lookup x=some .local\/sc.names.lookup x=some .cell
 nofree:∀y∈sc.names,y.2≠.free
theorem Ts {kindOf:Str->Option NameKind}{x:Str}:∀{binds:List (Str×Value)} {m:Str->Qf},(∀v,(x,v)∉binds)->bindL kindOf binds m x=m x
 |[],_,_=>rfl
 |(n,v)::r,m,h=>by
   unfold bindL;rw[Ts fun w hw=>h w (Xf _ hw)]
   split
   ·have:x≠n:=by rintro rfl;exact h v Xc
    simp[this]
   ·rfl
theorem PM {kindOf:Str->Option NameKind}{x:Str}:∀{binds:List (Str×Value)} {m:Str->Qf},(∀v,(x,v)∉binds)->bindC kindOf binds m x=m x
 |[],_,_=>rfl
 |(n,v)::r,m,h=>by
   unfold bindC;rw[PM fun w hw=>h w (Xf _ hw)]
   split
   ·rfl
   ·have:x≠n:=by rintro rfl;exact h v Xc
    simp[this]
theorem Tz {kindOf:Str->Option NameKind}{x:Str}{v:Value}:∀{P:Qh} {vs:Qe} {i:Nat} {m:Str->Qf},P.Nodup->P[i]?=some x->vs[i]?=some v->kindOf x=some .local ->
 bindL kindOf (P.zip vs) m x=some v
 |[],_,_,_,_,h,_,_=>by simp at h
 |_::_,[],_,_,_,_,h,_=>by simp at h
 |p::P,w::vs,0,m,nd,h1,h2,hk=>by
   simp at h1 h2;subst h1;subst h2
   show bindL kindOf ((p,w)::P.zip vs) m p=_;unfold bindL;rw[Ts fun v hv=>(XN.mp nd).1 (List.of_mem_zip hv).1,Xb hk]
   simp
 |p::P,w::vs,i+1,m,nd,h1,h2,hk=>by
   show bindL kindOf ((p,w)::P.zip vs) m x=_;unfold bindL;exact Tz (i:=i) (XN.mp nd).2 (by simpa using h1) (by simpa using h2) hk
theorem Tq {kindOf:Str->Option NameKind}{x:Str}{v:Value}:∀{P:Qh} {vs:Qe} {i:Nat} {m:Str->Qf},P.Nodup->P[i]?=some x->vs[i]?=some v->kindOf x≠some .local ->
 bindC kindOf (P.zip vs) m x=some v
 |[],_,_,_,_,h,_,_=>by simp at h
 |_::_,[],_,_,_,_,h,_=>by simp at h
 |p::P,w::vs,0,m,nd,h1,h2,hk=>by
   simp at h1 h2;subst h1;subst h2
   show bindC kindOf ((p,w)::P.zip vs) m p=_;unfold bindC;rw[PM fun v hv=>(XN.mp nd).1 (List.of_mem_zip hv).1,Xa hk]
   simp
 |p::P,w::vs,i+1,m,nd,h1,h2,hk=>by
   show bindC kindOf ((p,w)::P.zip vs) m x=_;unfold bindC;exact Tq (i:=i) (XN.mp nd).2 (by simpa using h1) (by simpa using h2) hk
def start (N:Qh)(vs:List V):St:=vs.map some++List.replicate (N.length-vs.length) none
def Ya (CX:CXT)(P:Program)(w:World)(K:W.Frag)(mg:Str->Qf)(base:Heap)(N:Qh)(qual:Str)(scope:Scope)(f:Addr)(cd:Value)(A:Around)(outer:List Env)(s:Shared)(H:Hp)(E:XK):Cx where
 prog:=P
 w:=w
 K:=K
 mg:=mg
 base:=base
 A:=A.deeper (envOfC qual scope s.heap.objs.size f cd)
 N:=N
 s₀:=s
 H₀:=H
 env:=envOfC qual scope s.heap.objs.size f cd
 outer:=outer
 stack:=envOfC qual scope s.heap.objs.size f cd::outer
 ex:=[]
 calm:=true
 fn:=fun _=>true
 pn:=[]
 xe:=fun e s'=>wpAny (model P w) (A.deeper (envOfC qual scope s.heap.objs.size f cd)) (leaving (envOfC qual scope s.heap.objs.size f cd) e) (fun _ s''=>CX outer H s E e s'') (fun e' s''=>CX outer H s E e' s'') s'
def Pa {sc:Scope}{n:Nat}{x:Str}(h:sc.names.lookup x=some .cell):∃c,(cellsFrom n sc.names []).lookup x=some c:=by
 have q:=W.cellsFrom_some sc.names n [] (.inl h);exact Option.isSome_iff_exists.mp q
def Ia {CX:CXT}{P:Program}{w:World}{K:W.Frag}{mg:Str->Qf}{base:Heap}{N ps:Qh}{qual:Str}{scope:Scope}{f:Addr}{cd:Value}{A:Around}{outer:List Env}{s s1:Shared}{H:Hp}{E:XK}{us:Qe}{vs:List V}
 (S:Qq N ps scope) (hd:A.handled=none) (e0:Env0 P w K mg base A outer s H) (hl:vs.length=ps.length) (r:Zf vs us)
 (x:InCallC s s.heap.objs.size (bindL (envOfC qual scope s.heap.objs.size f cd).kindOf (ps.zip us) fun _=>none) (cellsFrom (s.heap.objs.size+1) scope.names []) (bindC (envOfC qual scope s.heap.objs.size f cd).kindOf (ps.zip us) fun _=>none) s1) :
 Qu (Ya CX P w K mg base N qual scope f cd A outer s H E) [] (start N vs) H s1:=by
 have hpl:ps.length<=N.length:=by have:=XW List.length S.pre;rw[DN]at this;omega
 obtain⟨h1,tk,rfl,hk⟩:=x.done;have noA:∀b:Addr,b∉(Ya CX P w K mg base N qual scope f cd A outer s H E).ex:=fun b z=>Xi (show b∈([]:Qg) from z) (by simp)
 refine⟨⟨e0.mod,S.kind,rfl,rfl,Xx _,fun y z c h1 h2=>?_,fun y hy=>?_,fun y c _ h=>?_,fun _=>hd,Around.frames_deeper e0.frames,.inr ⟨rfl,rfl⟩,fun b z=>Xi z (noA b),e0.bs,e0.bsz,fun b _ _=>noA b,fun b z=>Xi z (noA b),e0.funs,e0.frf⟩,
  rfl,e0.bare,Un.kept hk,⟨_,x.toInCall.ns,fun i y v h1 h2 h3=>?_⟩,fun y c h=>⟨_,x.cell y c h⟩,e0.hok.fresh (Xx _),fun y c h=>?_,fun p hp=>Xi (show p∈([]:Qc) from hp) (by simp),e0.hok.kept hk,?_⟩
 ·exact name_of_addr x.apart (PySem.mem_of_lookup h1) (PySem.mem_of_lookup h2)
 ·have hy:scope.names.lookup y=some .cell\/scope.names.lookup y=some .free:=hy
  rcases hy with hy|hy
  ·exact Pa hy
  ·exact Xi rfl (S.nofree _ (PySem.mem_of_lookup hy))
 ·exact X9 (x.above y c (PySem.mem_of_lookup h))
 ·have hi:i<vs.length:=by
   unfold start at h2;by_cases hi:i<vs.length
   ·exact hi
   ·rw[GR (by simpa using hi)]at h2
    rw[List.getElem?_replicate]at h2;split at h2<;>cases h2
  have ha:vs[i]?=some v:=by
   unfold start at h2;rw[JG (by simpa using hi),Xj]at h2;cases e:vs[i]? with
   |none=>rw[e]at h2;cases h2
   |some a=>rw[e]at h2;cases h2;rfl
  obtain⟨u,hu,rv⟩:=r.get ha
  have hp:ps[i]?=some y:=by
   rw[<- S.pre,List.getElem?_take_of_lt (by omega)];exact h1
  have ndP:ps.Nodup:=by rw[<- S.pre];exact S.nd.sublist (List.take_sublist _ _)
  refine⟨u,rv,?_⟩
  rcases S.par y (List.mem_of_getElem? hp) with k|k
  ·exact .inl ⟨k,Tz ndP hp hu k⟩
  ·obtain⟨c,e⟩:=Pa (n:=s.heap.objs.size+1) k
   refine .inr ⟨.inl k,c,e,?_⟩;have q:=x.cell y c e;rw[Tq ndP hp hu (by show scope.names.lookup y≠_;rw[k];decide)]at q;exact q
 ·exact e0.hok.fresh (X9 (x.above y c (PySem.mem_of_lookup h)))
 ·unfold start
  show _=N.length;rw[Xv,Xh,List.length_replicate];omega
def LA {CX:CXT}{P:Program}{w:World}{K:W.Frag}{mg:Str->Qf}{base:Heap}{k:Nat}{f:Addr}{name qual:Str}{params:Arguments}{body:List Stmt}{scope:Scope}{dV kV doc pm cdv ct oc:Value}{an od:Qj}
 {osl:Array (Qf)} {N ps:Qh} {sp:Sp} (lk:K.lookup f=some ⟨oc,od,.func (W.fnOf name qual params body scope dV kV doc pm an cdv ct),osl⟩) (hcd:W.codeIn K cdv qual=true) (S:Qq N ps scope)
 (len:∀vs H Q E,sp vs H Q E->vs.length=ps.length)
 (Xbp:∀(A:Around) (outer:List Env) (s:Shared) (H:Hp) (vs:List V) (Q:VK) (E:XK),Room k (A.deeper (envOfC qual scope s.heap.objs.size f cdv))->sp vs H Q E ->
  ∃t,PSs (Ya CX P w K mg base N qual scope f cdv A outer s H E) body t/\t { nx:=fun _ H'=>Q .non H',rt:=Q } (start N vs) H) :
 FnOk P w K mg base CX (k+1) f (W.fnOf name qual params body scope dV kV doc pm an cdv ct) ps sp:=by
 refine⟨len,fun A outer s H args us vs Q E hr e0 hb r hsp=>?_⟩;have hl:=len _ _ _ _ hsp;have KX:K.In s.heap:=e0.mod.kin.keeps fun b o e=>(e0.bs b o e).1;have lim:s.heap.NoLimit:=e0.mod.nolimit.keeps fun b o e=>(e0.bs b o e).1
 have hkind:∀y∈ps.zip us,scope.names.lookup y.1=some .local\/(scope.names.lookup y.1=some .cell/\((cellsFrom (s.heap.objs.size+1) scope.names []).lookup y.1).isSome=true):=fun⟨n,v⟩ hy=>by
  rcases S.par n (List.of_mem_zip hy).1 with q|q
  ·exact .inl q
  ·exact .inr ⟨q,W.cellsFrom_some _ _ _ (.inl q)⟩
 refine codeAny_call_function hr.depth (KX _ _ lk) rfl S.co S.gen rfl (W.codeRec_of KX hcd) (hb _ _ _ _ ?_);refine wpAny_newFunctionEnv_cells S.kind hkind fun env he s1 x=>?_;subst he;refine⟨lim.keeps x.toInCall.keep,codeAny_func ?_⟩;obtain⟨t,ht,hq⟩:=Xbp A outer s H vs Q E (hr.deeper _) hsp;have I:Qu (Ya CX P w K mg base N qual scope f cdv A outer s H E) [] (start N vs) H s1:=Ia S hr.hd e0 hl r x;refine wpAny_mono (ht [] s1 (start N vs) H _ I hq) (fun fl s' hs=>?_) fun e s' hs=>hs
 have fin:∀{σ':St} {H':Hp} {v:V} {u:Value},Qu (Ya CX P w K mg base N qual scope f cdv A outer s H E) [] σ' H' s'->QR v u->Q v H'->CE outer P w H s Q u s' :=
  fun{σ' H' v u} J rv q=>⟨v,H',J.os,J.bare,J.base,J.hok,rv,q⟩
 cases fl with
 |ret u =>
   obtain⟨v,σ',H',J,rv,q⟩:=hs;exact fin J rv q
 |next =>
   obtain⟨σ',H',J,q⟩:=hs;exact fin (v:=V.non) (u:=Value.none) J rfl q
 |brk =>
   obtain⟨_,_,_,q⟩:=hs;exact False.elim q
 |cont =>
   obtain⟨_,_,_,q⟩:=hs;exact False.elim q
section
variable {X:Cx}{x:Str}{p pos:Pos}{e:Expr}{es:Qi}{t:TA}{id T:String}{r:List V->Hp->VK->Prop}
def tCB (r:List V->Hp->VK->Prop)(t:TA):TE:=fun σ H Q=>t σ H fun vs H1=>r vs H1 Q
def Z2 (hc:Vu X (.builtin id) r) (hg:Gl X x) (hm:X.mg x=none) (hv:bootBuiltins x=some (.builtin id)) (ha:PA X (e::es) t) (hn:x ≠ "__name__" := by decide) (hdb:(x==("__debug__" : Str))=false:=by decide)
 (he:starEach (e::es) X.env=(false,eval e X.env)::starEach es X.env:=by rfl) (hpl:(backTo pos (starEach es X.env)).any (·.1)=false:=by rfl):PE X (.Call (.Name x p) (e::es) [] pos) (tCB r t):=by
 intro Xbo s σ H Q I h;refine wpAny_Call_Name_kw (Jy I hg hm hv ?_ hn hdb);exact PyProof.Rows.callWith_builtin1 (QI (ha pos Xbo s σ H _ I h) fun us s1 ⟨vs,H1,I1,r1,q1⟩=>hc Xbo s1 σ H1 vs us Q I1 r1 q1) he hpl
def WX (hc:Vu X (.type T) r) (hg:Gl X x) (hm:X.mg x=none) (hv:bootBuiltins x=some (.type T)) (ha:PA X (e::es) t) (hn:x ≠ "__name__" := by decide) (hdb:(x==("__debug__" : Str))=false:=by decide)
 (he:starEach (e::es) X.env=(false,eval e X.env)::starEach es X.env:=by rfl) (hpl:(backTo pos (starEach es X.env)).any (·.1)=false:=by rfl):PE X (.Call (.Name x p) (e::es) [] pos) (tCB r t):=by
 intro Xbo s σ H Q I h;refine wpAny_Call_Name_kw (Jy I hg hm hv ?_ hn hdb);exact PyProof.Rows.callWith_type1 (QI (ha pos Xbo s σ H _ I h) fun us s1 ⟨vs,H1,I1,r1,q1⟩=>hc Xbo s1 σ H1 vs us Q I1 r1 q1) he hpl
end
end L2
namespace HT
open PySem PyProof.Rows
section
open PySem.SeqAt
open PySem.AutoSeq1 (wpAny_loadPart')
open PySem.MeetsSeq PySem.MeetsSeq2 PySem.MeetsSeq3
end
section
variable {prog:Program}{w:World}{A:Around}{E:Qb}{s:Shared}
def sIx (n d:Nat):Option Int->Nat
 |none=>d
 |some v=>if v<0 then (v+(n:Int)).toNat else min v.toNat n
end
end HT
namespace L2
open PySem PySem.Spec PyProof.Rows
def BG {ns:Ql}:∀{us:Qe},Zf (ns.map V.int) us->IntsAre us ns:=by
 induction ns with
 |nil=>intro us r;rw[JJ]at r;cases r;exact .nil
 |cons n ns ih =>
   intro us r;rw[Xs]at r;cases r with
   |cons r1 r2 =>
     obtain⟨t,e⟩:=r1;subst e;exact .cons n t (ih r2)
section
variable {X:Cx}{e:Expr}{te:TE}{lo hi:Option Expr}{tl th:TO}{pos p2:Pos}
end
def ixN (n:Nat)(i:Int):Option Nat:=if 0<=i then (if i<n then some i.toNat else none) else if -(n:Int)<=i then some (i+n).toNat else none
def atI {α:Type}(xs:List α)(i:Int):Option α:=(ixN xs.length i).bind fun j=>xs[j]?
def SE {n:Nat}{i:Int}{j:Nat}(h:ixN n i=some j):seqIndex? i n=some j/\j<n /\ -(n:Int)<=i/\i<n:=by
 unfold ixN at h;by_cases h0:0<=i
 ·rw[Xb h0]at h
  by_cases h1:i<n
  ·rw[Xb h1]at h
   have e:i.toNat=j:=Option.some.inj h
   exact⟨by rw[seqIndex_of h0 h1,e],by omega,by omega,h1⟩
  ·rw[Xa h1]at h;cases h
 ·rw[Xa h0]at h
  by_cases h1 : -(n:Int)<=i
  ·rw[Xb h1]at h
   have e:(i+n).toNat=j:=Option.some.inj h
   exact⟨by rw[seqIndex_neg (by omega) h1,e],by omega,h1,by omega⟩
  ·rw[Xa h1]at h;cases h
def Kz {α:Type}{xs:List α}{i:Int}{v:α}(h:atI xs i=some v):∃j,seqIndex? i xs.length=some j/\xs[j]?=some v/\j<xs.length /\ -(xs.length:Int)<=i/\i<xs.length:=by
 unfold atI at h;cases e:ixN xs.length i with
 |none=>rw[e]at h;cases h
 |some j =>
   rw[e]at h;obtain⟨h1,h2,h3,h4⟩:=SE e
   exact⟨j,h1,h,h2,h3,h4⟩
def Y9 {α:Type}{xs:List α}{j:Nat}{v:α}(h:xs[j]?=some v):atI xs (j:Int)=some v:=by
 have hj:j<xs.length:=(Xe.mp h).1
 have e:ixN xs.length (j:Int)=some j:=by
  unfold ixN;rw[Xb (by omega),Xb (by omega)];simp
 unfold atI;rw[e];exact h
def Cf (b:Expr):Prop := ∀o i,subscripted b false o i=operate [o,i] (getItem o i)
def IxR (X:Cx)(r:R2):Prop :=
 ∀(value slice:Expr) (Xbo:Qc) (s:Shared) (σ:St) (H:Hp) (x y:V) (v u:Value) (Q:VK),Qu X Xbo σ H s->QR x v->QR y u->r x y H Q ->
  subscripted slice false v u=operate [v,u] (getItem v u)->wpAny (model X.prog X.w) X.A (subscriptTail value slice v u) (EP X Xbo σ Q) X.xe s
def MtR (X:Cx)(id:String)(r:V->List V->Hp->VK->Prop):Prop :=
 ∀(Xbo:Qc) (s:Shared) (σ:St) (H:Hp) (x:V) (xs:List V) (v:Value) (us:Qe) (Q:VK),Qu X Xbo σ H s->QR x v->Zf xs us->r x xs H Q ->
  wpAny (model X.prog X.w) X.A (call (.builtin id) (v::us)) (EP X Xbo σ Q) X.xe s
section
variable {X:Cx}{a b:Expr}{ta tb:TE}{pos:Pos}
def IxR.or {r r':R2}(h:IxR X r)(h':IxR X r'):IxR X (fun x y H Q=>r x y H Q\/r' x y H Q):=by
 intro value slice Xbo s σ H x y v u Q I rx ry q hs;rcases q with q|q
 ·exact h value slice Xbo s σ H x y v u Q I rx ry q hs
 ·exact h' value slice Xbo s σ H x y v u Q I rx ry q hs
def QJ {r:R2}(hr:IxR X r)(ha:PE X a ta)(hb:PE X b tb)(hs:Cf b:=by exact fun _ _=>rfl):PE X (.Subscript a b pos) (tOp r ta tb):=by
 intro Xbo s σ H Q I h;exact Subscript_ (Ho ha hb I h fun v u s2 x y H2 I2 rx ry q=>hr a b Xbo s2 σ H2 x y v u Q I2 rx ry q (hs _ _))
def Ru (K:W.Frag):R2:=fun x y H Q=>∃p xs i v,x=.ref p/\y=.int i/\SqL K H p xs/\atI xs i=some v/\Q v H
def Ra (K:W.Frag):R2:=fun x y H Q=>∃p xs i v,x=.ref p/\y=.int i/\SqT K H p xs/\atI xs i=some v/\Q v H
def Rq:R2:=fun x y H Q=>∃z i c,x=.str z/\y=.int i/\z.length<=sizeLine/\atI z.cps.toList i=some c/\Q (.str ⟨#[c]⟩) H
def FB:IxR X (Ru X.K):=by
 intro value slice Xbo s σ H x y v u Q I rx ry h hs;obtain⟨p,xs,i,z,rfl,rfl,hq,he,q⟩:=h
 cases rx
 obtain⟨t,rfl⟩:=ry;obtain⟨its,r,pl,hz⟩:=I.list hq;obtain⟨j,h1,h2,h3,h4,h5⟩:=Kz he;obtain⟨w,ew,rw'⟩:=r.get h2;have hl:=r.length;have hn:=UC;have fin:EP X Xbo σ Q w s:=⟨z,H,I,rw',q⟩
 by_cases h0:0<=i
 ·have hj:i.toNat=j:=by
   rw[seqIndex_of h0 h5]at h1;exact Option.some.inj h1
  exact item_listR pl.isList h0 (by omega) (by rw[hj];simpa using ew) fin hs
 ·have hj:(i+(its.toArray.size:Int)).toNat=j:=by
   rw[seqIndex_neg (by omega) h4]at h1;rw[XF,<- hl];exact Option.some.inj h1
  exact subscriptTail_builtinR (x:=w) pl.isList.typeIs slot_list_getitem.lookup
   (wpAny_getItem_list_neg (Q:=fun r s'=>r=w/\EP X Xbo σ Q r s') pl.isList (by omega) (by rw[XF]<;>omega) (by omega) (by rw[hj];simpa using ew) ⟨rfl,fin⟩) hs
def Fd:IxR X (Ra X.K):=by
 intro value slice Xbo s σ H x y v u Q I rx ry h hs;obtain⟨p,xs,i,z,rfl,rfl,hq,he,q⟩:=h
 cases rx
 obtain⟨t,rfl⟩:=ry;obtain⟨its,r,pl,hz⟩:=I.tuple hq;obtain⟨j,h1,h2,h3,h4,h5⟩:=Kz he;obtain⟨w,ew,rw'⟩:=r.get h2;have hl:=r.length;have hn:=UC;have fin:EP X Xbo σ Q w s:=⟨z,H,I,rw',q⟩
 exact subscriptTail_builtinR (x:=w) pl.typeIs slot_tuple_getitem.lookup
  (getItem_tuple (j:=j) (Q:=fun r s'=>r=w/\EP X Xbo σ Q r s') pl (by omega) (by omega) (by rw[XF,<- hl];exact h1) (by simpa using ew) ⟨rfl,fin⟩) hs
def FN:IxR X Rq:=by
 intro value slice Xbo s σ H x y v u Q I rx ry h hs;obtain⟨z,i,c,rfl,rfl,hz,he,q⟩:=h;obtain⟨t,rfl⟩:=rx;obtain⟨t',rfl⟩:=ry;obtain⟨j,h1,h2,h3,h4,h5⟩:=Kz he;have hl:z.cps.toList.length=z.length:=by simp[Str.length]
 rw[hl]at h1 h4 h5;have hn:=UC
 exact tail_any (typeIs_str s z t) slot_str_getitem.lookup (getItem_str (c:=c) (by
  have e1:decide (i < -(2^63:Int))=false:=XG (by omega);have e2:decide (i>=2^63)=false:=XG (by omega);rw[e1,e2,Bool.or_false]) (by rw[h1];simpa using h2) ⟨.str ⟨#[c]⟩,H,I.tok _,⟨_,rfl⟩,q⟩) hs
def rIx (K:W.Frag):R2:=fun x y H Q=>Ru K x y H Q\/Ra K x y H Q\/Rq x y H Q
def QK:IxR X (rIx X.K):=FB.or (Fd.or FN)
def Ov (its:Qe) (n j:Nat) (u:Value):Obj.mapSeq (·.setIfInBounds j u) { cls:=.type "list",data:=.seq its.toArray n }={ cls:=.type "list",data:=.seq (its.set j u).toArray n }:=by
 simp[Obj.mapSeq]
def Qu.lst {Xbo:Qc}{σ:St}{H:Hp}{s:Shared}{p:Addr}{xs:List V}(I:Qu X Xbo σ H s)(h:H p=some (.lst xs)) :
 ∃(its:Qe) (n:Nat),Zf xs its/\s.heap.get? p=some { cls:=.type "list",data:=.seq its.toArray n }/\xs.length<=sizeLine:=by
 obtain⟨z,its,n,r,e⟩:=I.hok p _ h
 exact⟨its,n,r,e,z⟩
def Qu.lstUpd {Xbo:Qc}{σ:St}{H:Hp}{s:Shared}{p:Addr}{xs ys:List V}{its its':Qe}{n n':Nat}{f:Obj->Obj}(I:Qu X Xbo σ H s)(h:H p=some (.lst xs))
 (ho:s.heap.get? p=some { cls:=.type "list",data:=.seq its.toArray n }) (hf:f { cls:=.type "list",data:=.seq its.toArray n }={ cls:=.type "list",data:=.seq its'.toArray n' }) (r:Zf ys its') (hz:ys.length<=sizeLine) (t:Nat) :
 Qu X Xbo σ (upd H p (.lst ys)) { s with heap:=s.heap.update p f,toks:=t }:=by
 have e:(s.heap.update p f).get? p=some { cls:=.type "list",data:=.seq its'.toArray n' }:=by
  rw[Heap.get?_update_self f ho (by rw[hf]<;>rfl),hf]
 refine I.write (x:=p) (e:=p) (by rw[h];trivial) (.inl rfl) (fun b u hb q=>(DW _ _ (Ne.symm hb)).trans q) ⟨_,e⟩ ?_
 exact⟨hz,its',n',r,e⟩
def Gr:V->V->V->Hp->(Hp->Prop)->Prop:=fun o i v H Q=>∃p xs k j,o=.ref p/\i=.int k/\H p=some (.lst xs)/\ixN xs.length k=some j/\Q (upd H p (.lst (xs.set j v)))
def Jc:Hl X Gr:=by
 intro Xbo s σ H o i v ov iv u Q I ro ri rv h;obtain⟨p,xs,k,j,rfl,rfl,hp,hj,q⟩:=h
 cases ro
 obtain⟨t,rfl⟩:=ri;obtain⟨its,n,r,ho,hz⟩:=I.lst hp;obtain⟨h1,h2,h3,h4⟩:=SE hj;have hl:=r.length;have hn:=UC
 have I':Qu X Xbo σ (upd H p (.lst (xs.set j v))) { s with heap:=s.heap.update p (Obj.mapSeq (·.setIfInBounds j u)) } :=
  I.lstUpd hp ho (Ov its n j u) (r.set rv j) (by rw[List.length_set];exact hz) s.toks
 by_cases h0:0<=k
 ·have hk:k.toNat=j:=by
   rw[seqIndex_of h0 h4]at h1;exact Option.some.inj h1
  exact W.ki_setAt ho h0 (by omega) (by rw[XF,<- hl];exact h4) (by rw[hk];exact⟨_,I',q⟩)
 ·have hk:(k+(its.toArray.size:Int)).toNat=j:=by
   rw[seqIndex_neg (by omega) h3]at h1;rw[XF,<- hl];exact Option.some.inj h1
  exact W.ki_setBack ho (by omega) (by rw[XF,<- hl];exact h3) (by omega) (by rw[hk];exact⟨_,I',q⟩)
def JT:V->Bool
 |.non=>true
 |.bl _=>true
 |.int _=>true
 |.str _=>true
 |_=>false
def eqV:V->V->Bool
 |.non,.non=>true
 |.bl a,.bl b=>a==b
 |.bl a,.int b=>(if a then 1 else 0)==b
 |.int a,.bl b=>a==(if b then 1 else 0)
 |.int a,.int b=>a==b
 |.str a,.str b=>a==b
 |_,_=>false
def Fm {A:Around}{s:Shared}{y x:V}{u v:Value}(ry:QR y u)(rx:QR x v)(fy:JT y=true)(fx:JT x=true):SeqAt.EqAt A s u v (eqV y x):=by
 cases y with
 |non =>
   cases ry
   cases x with
   |non=>cases rx;exact SeqAt.EqAt.same _
   |bl b=>cases rx;exact SeqAt.EqAt.none_bool b
   |int b=>obtain⟨t,rfl⟩:=rx;exact SeqAt.EqAt.none_int b t
   |str b=>obtain⟨t,rfl⟩:=rx;exact SeqAt.EqAt.none_str b t
   |_=>exact Xi (show false=true from fx) Xp
 |bl a =>
   cases ry
   cases x with
   |non=>cases rx;exact SeqAt.EqAt.bool_none a
   |bl b=>cases rx;exact SeqAt.EqAt.bool_bool a b
   |int b=>obtain⟨t,rfl⟩:=rx;exact SeqAt.EqAt.bool_int a b t
   |str b=>obtain⟨t,rfl⟩:=rx;exact SeqAt.EqAt.bool_str a b t
   |_=>exact Xi (show false=true from fx) Xp
 |int a =>
   obtain⟨t',rfl⟩:=ry
   cases x with
   |non=>cases rx;exact SeqAt.EqAt.int_none a t'
   |bl b=>cases rx;exact SeqAt.EqAt.int_bool a t' b
   |int b=>obtain⟨t,rfl⟩:=rx;exact SeqAt.EqAt.int_int a t' b t
   |str b=>obtain⟨t,rfl⟩:=rx;exact SeqAt.EqAt.int_str a t' b t
   |_=>exact Xi (show false=true from fx) Xp
 |str a =>
   obtain⟨t',rfl⟩:=ry
   cases x with
   |non=>cases rx;exact SeqAt.EqAt.str_none a t'
   |bl b=>cases rx;exact SeqAt.EqAt.str_bool a t' b
   |int b=>obtain⟨t,rfl⟩:=rx;exact SeqAt.EqAt.str_int a t' b t
   |str b=>obtain⟨t,rfl⟩:=rx;exact SeqAt.EqAt.str_str a t' b t
   |_=>exact Xi (show false=true from fx) Xp
 |_=>exact Xi (show false=true from fy) Xp
def eqU (x:V)(u:Value):Bool:=match u with
 |.none=>eqV .non x
 |.bool b=>eqV (.bl b) x
 |.int i _=>eqV (.int i) x
 |.str z _=>eqV (.str z) x
 |_=>false
def So {x y:V}{u:Value}(r:QR y u)(f:JT y=true):eqU x u=eqV y x:=by
 cases y with
 |non=>cases r;rfl
 |bl b=>cases r;rfl
 |int i=>obtain⟨t,rfl⟩:=r;rfl
 |str z=>obtain⟨t,rfl⟩:=r;rfl
 |_=>exact Xi (show false=true from f) Xp
theorem Bw {x:V}:∀{xs:List V} {us:Qe},Zf xs us->xs.all JT=true->us.any (eqU x)=xs.any fun y=>eqV y x
 |_,_,.nil,_=>rfl
 |y::xs,u::us,.cons r t,f=>by
   rw[List.all_cons,JD]at f;rw[GQ,GQ,So r f.1,Bw t f.2]
theorem B8 {A:Around}{s:Shared}{x:V}{v:Value}(rx:QR x v)(fx:JT x=true):∀{xs:List V} {us:Qe},Zf xs us->xs.all JT=true->∀u∈us,SeqAt.EqAt A s u v (eqU x u)
 |_,_,.nil,_=>fun u hu=>by cases hu
 |y::xs,u::us,.cons r t,f=>fun u' hu=>by
   rw[List.all_cons,JD]at f;rcases Xg.mp hu with rfl|hu
   ·rw[So r f.1];exact Fm r rx f.1 fx
   ·exact B8 rx fx t f.2 u' hu
def inV (x:V)(xs:List V):Bool:=xs.any fun y=>eqV y x
def rIn (K:W.Frag)(neg:Bool):R2:=fun x y H Q=>∃p xs,y=.ref p/\(SqL K H p xs\/SqT K H p xs)/\JT x=true/\xs.all JT=true/\Q (.bl (if neg then !inV x xs else inV x xs)) H
def PO:OpR X (compareOp .In) (rIn X.K false):=by
 intro Xbo s σ H x y v u Q I rx ry h;obtain⟨p,xs,rfl,hq,fx,fs,q⟩:=h
 cases ry
 rcases hq with hq|hq
 ·obtain⟨its,r,pl,hz⟩:=I.list hq
  refine SeqAt.in_listAt (eqU x) pl.isList (fun w hw=>B8 rx fx r fs w (by simpa using hw)) ⟨.bl _,H,I,rfl,?_⟩;rw[show its.toArray.any (eqU x)=its.any (eqU x) by simp,Bw r fs];exact q
 ·obtain⟨its,r,pl,hz⟩:=I.tuple hq
  refine SeqAt.in_tupleAt (eqU x) pl (fun w hw=>B8 rx fx r fs w (by simpa using hw)) ⟨.bl _,H,I,rfl,?_⟩;rw[show its.toArray.any (eqU x)=its.any (eqU x) by simp,Bw r fs];exact q
def Lb:OpR X (compareOp .NotIn) (rIn X.K true):=by
 intro Xbo s σ H x y v u Q I rx ry h;obtain⟨p,xs,rfl,hq,fx,fs,q⟩:=h
 cases ry
 rcases hq with hq|hq
 ·obtain⟨its,r,pl,hz⟩:=I.list hq
  refine SeqAt.notIn_listAt (eqU x) pl.isList (fun w hw=>B8 rx fx r fs w (by simpa using hw)) ⟨.bl _,H,I,rfl,?_⟩;rw[show its.toArray.any (eqU x)=its.any (eqU x) by simp,Bw r fs];exact q
 ·obtain⟨its,r,pl,hz⟩:=I.tuple hq
  refine SeqAt.notIn_tupleAt (eqU x) pl (fun w hw=>B8 rx fx r fs w (by simpa using hw)) ⟨.bl _,H,I,rfl,?_⟩;rw[show its.toArray.any (eqU x)=its.any (eqU x) by simp,Bw r fs];exact q
def Zj1:Vu X (.builtin "len") (fun xs H Q=>∃p ys,xs=[.ref p]/\(SqL X.K H p ys\/SqT X.K H p ys)/\Q (.int ys.length) H):=by
 intro Xbo s σ H xs us Q I r h;obtain⟨p,ys,rfl,hq,q⟩:=h;obtain⟨u,rfl,rx⟩:=WH r
 cases rx
 have hn:=UC
 rcases hq with hq|hq
 ·obtain⟨its,r',pl,hz⟩:=I.list hq
  have hlen:=r'.length;exact Calls.call_len_list pl.isList (by simp only[XF]<;>omega) ⟨.int ys.length,H,I.tok _,⟨s.toks+1,by rw[XF,hlen]⟩,q⟩
 ·obtain⟨its,r',pl,hz⟩:=I.tuple hq
  have hlen:=r'.length;exact len_tuple pl (by simp only[XF]<;>omega) ⟨.int ys.length,H,I.tok _,⟨s.toks+1,by rw[XF,hlen]⟩,q⟩
def Zjb:Vu X (.type "list") (fun xs H Q=>∃p ys,xs=[.ref p]/\(SqL X.K H p ys\/SqT X.K H p ys)/\∀l,H l=none->Q (.ref l) (upd H l (.lst ys))):=by
 intro Xbo s σ H xs us Q I r h;obtain⟨p,ys,rfl,hq,q⟩:=h;obtain⟨u,rfl,rx⟩:=WH r
 cases rx
 have fin:∀(its:Qe),Zf ys its->ys.length<=sizeLine->∀(h':Heap) (c':Nat),(∀b o',s.heap.get? b=some o'->h'.get? b=some o') ->
  h'.get? s.heap.objs.size=some { cls:=.type "list",dict:=none,data:=.seq its.toArray c',slots := #[] }->EP X Xbo σ Q (.ref s.heap.objs.size) { s with heap:=h' }:=fun its r' hz h' c' kp e =>
  ⟨.ref s.heap.objs.size,_,I.laid (t':=s.toks) kp (Xx _) (show ZR X.prog X.w _ h' _ (.lst ys) from⟨hz,its,c',r',e⟩),rfl,q _ (I.hok.fresh (Xx _))⟩
 rcases hq with hq|hq
 ·obtain⟨its,r',pl,hz⟩:=I.list hq
  have hlen:=r'.length;obtain⟨o,ho,hc,n,hd⟩:=pl.isList;exact call_list_seq p (.inl rfl) ho hc hd (fun h' c' kp e=>fin its r' hz h' c' kp e) (by simp only[XF]<;>omega)
 ·obtain⟨its,r',pl,hz⟩:=I.tuple hq
  have hlen:=r'.length;obtain⟨o,ho,hc,n,hd⟩:=pl;exact call_list_seq p (.inr rfl) ho hc hd (fun h' c' kp e=>fin its r' hz h' c' kp e) (by simp only[XF]<;>omega)
def ZiN:Vu X (.type "tuple") (fun xs H Q=>∃p ys,xs=[.ref p]/\((SqL X.K H p ys/\∀l,H l=none->Q (.ref l) (upd H l (.tup ys)))\/(SqT X.K H p ys/\Q (.ref p) H))):=by
 intro Xbo s σ H xs us Q I r h;obtain⟨p,ys,rfl,h⟩:=h;obtain⟨u,rfl,rx⟩:=WH r
 cases rx
 rcases h with ⟨hq,q⟩|⟨hq,q⟩
 ·obtain⟨its,r',pl,hz⟩:=I.list hq
  have hlen:=r'.length;refine call_tuple_list pl.isList (fun h' kp=>?_) (by simp only[XF]<;>omega);have I1:Qu X Xbo σ H { s with heap:=h' }:=I.kept (t':=s.toks) kp
  have I2:Qu X Xbo σ (upd H h'.objs.size (.tup ys)) { s with heap:=h'.push { cls:=.type "tuple",data:=.seq its.toArray } } :=
   I1.laid (t':=s.toks) (fun b o e=>Xo _ e) (Xx _) (show ZR X.prog X.w _ _ _ (.tup ys) from⟨hz,its,r',IsTup.new _ _⟩)
  exact⟨.ref h'.objs.size,_,I2,rfl,q _ (I1.hok.fresh (Xx _))⟩
 ·obtain⟨its,r',pl,hz⟩:=I.tuple hq
  exact call_tuple_same pl ⟨.ref p,H,I,rfl,q⟩
def tyV (K:W.Frag)(T:String)(x:V)(H:Hp):Prop:=match x with
 |.str _=>T = "str"
 |.int _=>T = "int"
 | .ref p=>(T = "list" /\ ∃xs,SqL K H p xs)\/(T = "tuple" /\ ∃o,K.lookup p=some o/\o.cls=.type "tuple" /\ o.dict=none) \/
  (T = "dict" /\ ((∃kvs,H p=some (.dK kvs))\/∃kvs,H p=some (.dT kvs)))\/(T = "set" /\ ∃S n,H p=some (.set S n))
 |_=>False
def Sq {Xbo:Qc}{σ:St}{H:Hp}{s:Shared}{T:String}{x:V}{v:Value}(I:Qu X Xbo σ H s)(r:QR x v)(ty:tyV X.K T x H) :
 s.TypeIs v T/\∀a,v=.ref a->∃ob,s.heap.get? a=some ob/\ob.dict=none:=by
 cases x with
 |str z =>
   obtain⟨t,rfl⟩:=r
   cases (show T = "str" from ty)
   exact⟨typeIs_str s z t,fun _ e=>nomatch e⟩
 |int i =>
   obtain⟨t,rfl⟩:=r
   cases (show T = "int" from ty)
   exact⟨typeIs_int s i t,fun _ e=>nomatch e⟩
 |ref p =>
   cases r
   rcases ty with ⟨rfl,xs,hq⟩|⟨rfl,o,hk,hc,hd⟩|⟨rfl,hk⟩|⟨rfl,S,n,hk⟩
   ·obtain⟨its,_,pl,_⟩:=I.list hq
    refine⟨pl.isList.typeIs,fun a e=>?_⟩
    cases e
    obtain⟨o,n,e,c,hd,_⟩:=pl
    exact⟨o,e,hd⟩
   ·refine⟨⟨o,I.kIn p o hk,hc⟩,fun a e=>?_⟩
    cases e
    exact⟨o,I.kIn _ o hk,hd⟩
   ·have z:∃o,s.heap.get? p=some o/\o.ExactDict:=by
     rcases hk with ⟨kvs,hk⟩|⟨kvs,hk⟩
     ·obtain⟨_,_,_,_,o,_,_,e,ex,_⟩:=I.hok p _ hk
      exact⟨o,e,ex⟩
     ·obtain⟨_,_,_,_,o,_,_,e,ex,_⟩:=I.hok p _ hk
      exact⟨o,e,ex⟩
    obtain⟨o,e,ex⟩:=z;refine⟨⟨o,e,ex.1⟩,fun a e2=>?_⟩
    cases e2
    exact⟨o,e,ex.2.1⟩
   ·obtain⟨o,_,_,_,e,ex,_⟩:=I.hok p _ hk
    refine⟨⟨o,e,ex.1⟩,fun a e2=>?_⟩
    cases e2
    exact⟨o,e,ex.2.1⟩
 |_=>exact False.elim ty
def Rr (K:W.Frag)(T:String)(r:V->List V->Hp->VK->Prop)(to:TE):TE:=fun σ H Q=>to σ H fun x H1=>tyV K T x H1/\r x [] H1 Q
def tBM (K:W.Frag)(T:String)(r:V->List V->Hp->VK->Prop)(to:TE)(t:TA):TE:=fun σ H Q=>to σ H fun x H1=>tyV K T x H1/\t σ H1 fun xs H2=>r x xs H2 Q
variable {o e:Expr}{es:Qi}{to:TE}{t:TA}{name:Str}{apos cpos:Pos}{T id:String}{r:V->List V->Hp->VK->Prop}
def Fn (pa:PlainAttrs T) (slot:Slot T name id) (hty:typeOf (.builtin id)=pure (.type "method_descriptor")) (hm:MtR X id r) (ho:PE X o to)
 (hbase:attributeBase o name X.env (eval o X.env)=eval o X.env:=by rfl) (hline:(apos.endLine==cpos.line)=true:=by rfl):PE X (.Call (.Attribute o name apos) [] [] cpos) (Rr X.K T r to):=by
 intro Xbo s σ H Q I h;refine wpAny_Call_method0_late hbase hline (QI (ho Xbo s σ H _ I h) fun v s1 ⟨x,H1,I1,r1,ty,q1⟩=>?_);obtain⟨h1,h2⟩:=Sq I1 r1 ty
 exact⟨T,id,pa,slot,hty,h1,h2,Calls.callWith_builtin rfl (PySem.evalArgs_none (hm Xbo s1 σ H1 x [] v [] Q I1 r1 .nil q1))⟩
def WJ (pa:PlainAttrs T) (slot:Slot T name id) (hty:typeOf (.builtin id)=pure (.type "method_descriptor")) (hm:MtR X id r) (ho:PE X o to) (ha:PA X (e::es) t)
 (hbase:attributeBase o name X.env (eval o X.env)=eval o X.env:=by rfl)
 (hfew:((backTo cpos (starEach (e::es) X.env)).all (fun x => !x.1)&&(backToKw cpos (keywordEach [] X.env)).all (fun x=>x.1.isSome)
  && decide ((e::es).length+([]:List Keyword).length+(if ([]:List Keyword).isEmpty then 0 else 1)<30))=true:=by rfl)
 (hline:(apos.endLine==cpos.line)=true:=by rfl) (hs:starEach (e::es) X.env=(false,eval e X.env)::starEach es X.env:=by rfl) (hplain:(backTo cpos (starEach es X.env)).any (·.1)=false:=by rfl) :
 PE X (.Call (.Attribute o name apos) (e::es) [] cpos) (tBM X.K T r to t):=by
 intro Xbo s σ H Q I h;refine wpAny_Call_method_late hbase hfew hline rfl (QI (ho Xbo s σ H _ I h) fun v s1 ⟨x,H1,I1,r1,ty,q1⟩=>?_);obtain⟨h1,h2⟩:=Sq I1 r1 ty;refine⟨T,id,pa,slot,hty,h1,h2,?_⟩;have hA:=ha cpos Xbo s1 σ H1 _ I1 q1;rw[hs]at hA ⊢;refine Calls.callWith_builtin (by show(false||(backTo cpos (starEach es X.env)).any (·.1))=false;rw[hplain]<;>rfl) (Calls.evalArgs_plain ?_);exact QI hA fun us s2 ⟨vs,H2,I2,r2,q2⟩=>hm Xbo s2 σ H2 x vs v us Q I2 r1 r2 q2
end
def MtM (X:Cx)(id:String)(r:V->List V->Hp->VK->Prop):Prop :=
 ∀(Xbo:Qc) (s:Shared) (σ:St) (H:Hp) (x:V) (xs:List V) (v:Value) (us:Qe) (Q:VK),Qu X Xbo σ H s->QR x v->Zf xs us->r x xs H Q ->
  wpAny (model X.prog X.w) X.A (call (.builtin id) (v::us)) (EP X Xbo σ Q) X.xe s
theorem Zf.one:∀{x:V} {us:Qe},Zf [x] us->∃u,us=[u]/\QR x u
 |_,_,.cons r .nil=>⟨_,rfl,r⟩
theorem Zf.rep {xs:List V}{us:Qe}(h:Zf xs us):∀k:Nat,Zf (List.replicate k xs).flatten (List.replicate k us).flatten
 |0=>.nil
 |k+1=>by
   rw[Ur,Ur,Gf,Gf];exact Zf.append h (Zf.rep h k)
theorem PP (its:Qe):∀(k:Nat) (acc:Qe),
 List.foldl (fun x1 x2=>x1++x2) acc.toArray (List.replicate k its.toArray)=(acc++(List.replicate k its).flatten).toArray
 |0,acc=>by simp
 |k+1,acc=>by
   have e:acc.toArray++its.toArray=(acc++its).toArray:=by simp
   have e2:(acc++its)++(List.replicate k its).flatten=acc++(List.replicate (k+1) its).flatten:=by
    rw[Ur,Gf,Uq]
   rw[<- e2,<- PP its k (acc++its),<- e,Ur,BS]
section
variable {X:Cx}{Xbo:Qc}{σ:St}{H:Hp}{s:Shared}{l b:Addr}{xs ys zs:List V}
def Qu.lset {its its':Qe}{n:Nat}{f:Array Value->Array Value}{t':Nat}(I:Qu X Xbo σ H s)(hH:H l=some (.lst xs))
 (e:s.heap.get? l=some { cls:=.type "list",data:=.seq its.toArray n }) (hf:f its.toArray=its'.toArray) (hv:Zf ys its') (hz:ys.length<=sizeLine) :
 Qu X Xbo σ (upd H l (.lst ys)) { s with heap:=s.heap.update l (Obj.mapSeq f),toks:=t' }:=by
 have q:=PySem.IsL.update e f;rw[hf]at q;refine I.write (x:=l) (e:=l) (by rw[hH];exact trivial) (.inl rfl) (fun b' u hb hu=>(DW s.heap (Obj.mapSeq f) (Ne.symm hb)).trans hu) ⟨_,q⟩ ?_
 exact⟨hz,its',_,hv,q⟩
def Qu.lnew {its:Qe}{t':Nat}(I:Qu X Xbo σ H s)(hv:Zf ys its)(hz:ys.length<=sizeLine) :
 Qu X Xbo σ (upd H s.heap.objs.size (.lst ys)) { s with heap:=s.heap.push { cls:=.type "list",data:=.seq its.toArray },toks:=t' } :=
 I.laid (fun _ _ q=>Xo _ q) (Xx _) ⟨hz,its,0,hv,XV _ rfl⟩
def Qu.fresh (I:Qu X Xbo σ H s):H s.heap.objs.size=none:=I.hok.fresh (Xx _)
def Qu.lstM (I:Qu X Xbo σ H s) (hH:H l=some (.lst xs)):xs.length<=sizeLine/\∃(its:Qe) (n:Nat),Zf xs its/\xs.length=its.length/\s.heap.get? l=some { cls:=.type "list",data:=.seq its.toArray n }:=by
 obtain⟨z,its,n,r,e⟩:=I.hok l _ hH
 exact⟨z,its,n,r,r.length,e⟩
def AI {n:Nat}(h:n<=sizeLine):Builtin.List.listTooLong n=false:=by
 unfold Builtin.List.listTooLong;exact XG (by omega)
end
section
variable {X:Cx}
def GC:V->List V->Hp->VK->Prop:=fun x vs H Q=>∃l xs y,x=.ref l/\vs=[y]/\H l=some (.lst xs)/\xs.length<sizeLine/\Q .non (upd H l (.lst (xs++[y])))
def WY:MtM X "list.append" GC:=by
 intro Xbo s σ H x vs v us Q I rx rv h;obtain⟨l,xs,y,rfl,rfl,hH,hz,q⟩:=h
 cases rx
 obtain⟨u,rfl,ru⟩:=rv.one;obtain⟨z,its,n,r,hl,e⟩:=I.lstM hH;refine call_meets F.slot_list_append ⟨_,e,rfl⟩ F.entry_list_append (F.args_list_append_2 _ _) (PySem.list_append l its.toArray n u (by rw[XF];omega)) ⟨e,?_⟩;refine⟨.non,_,I.lset (its':=its++[u]) hH e (by simp) (r.append (.cons ru .nil)) ?_,rfl,q⟩;rw[Xv,List.length_singleton];omega
def Rk:R2:=fun x y H Q=>∃l b xs zs,x=.ref l/\y=.ref b/\H l=some (.lst xs)/\H b=some (.lst zs)/\xs.length+zs.length<=sizeLine/\∀p,H p=none->Q (.ref p) (upd H p (.lst (xs++zs)))
def Kb:OpR X (binaryOp .Add) Rk:=by
 intro Xbo s σ H x y v u Q I rx ry h;obtain⟨l,b,xs,zs,rfl,rfl,hH,hB,hz,q⟩:=h
 cases rx
 cases ry
 obtain⟨z,its,n,r,hl,e⟩:=I.lstM hH;obtain⟨z2,its2,n2,r2,hl2,e2⟩:=I.lstM hB;refine PySem.P.add_list e e2 ?_ (by rw[XF,XF];omega);have ea:its.toArray++its2.toArray=(its++its2).toArray:=by simp
 rw[ea];exact⟨.ref _,_,I.lnew (t':=s.toks) (r.append r2) (by rw[Xv];omega),rfl,q _ I.fresh⟩
def Rv:R2:=fun x y H Q=>∃l k xs,x=.ref l/\y=.int k/\H l=some (.lst xs) /\ -(2^63)<=k/\k<2^63/\xs.length*k.toNat<=sizeLine /\
 ∀p,H p=none->Q (.ref p) (upd H p (.lst (List.replicate k.toNat xs).flatten))
def Co {α:Type}(xs:List α)(k:Nat):(List.replicate k xs).flatten.length=k*xs.length:=by
 induction k with
 |zero=>simp
 |succ k ih=>rw[Ur,Gf,Xv,ih,Nat.succ_mul,Nat.add_comm]
def HZ:OpR X (binaryOp .Mult) Rv:=by
 intro Xbo s σ H x y v u Q I rx ry h;obtain⟨l,k,xs,rfl,rfl,hH,h1,h2,hz,q⟩:=h
 cases rx
 obtain⟨t,rfl⟩:=ry;obtain⟨z,its,n,r,hl,e⟩:=I.lstM hH;have hlen:its.toArray.size*k.toNat<=sizeLine:=by rw[XF,<- hl];exact hz
 have hcap:¬its.toArray.size*k.toNat > (2^63-1)/8:=by
  have:(sizeLine:Nat)<=(2^63-1)/8:=by decide
  omega
 have hfit:¬(!Builtin.List.listFitsIndex k)=true:=by
  rw[fitsIndex_both h1 h2];exact Xp
 have hlong:¬Builtin.List.listTooLong (its.toArray.size*k.toNat)=true:=by
  rw[AI hlen];exact Xp
 have hnew:List.foldl (fun x1 x2=>x1++x2) #[] (List.replicate (if its.toArray.isEmpty=true then 0 else k.toNat) its.toArray)=(List.replicate k.toNat its).flatten.toArray:=by
  have f0:∀m:Nat,List.foldl (fun x1 x2=>x1++x2) #[] (List.replicate m its.toArray)=(List.replicate m its).flatten.toArray:=fun m=>by
   have:=PP its m []
   rw[BR]at this;exact this
  rw[f0];cases its with
  |nil=>simp
  |cons a r'=>rw[Xa (by simp)]
 refine wpAny_binaryOp_repeat_ref (T := "list") (U := "int") (by decide) ⟨_,e,rfl⟩ (fun s'=>typeIs_int s' k t) noFill_list_mul F.fills_int_mul F.slot_int_rmul repeat_list F.slot_int_index.lookup
  (call_meets F.slot_int_rmul (typeIs_int s k t) F.entry_int_rmul (F.args_int_rmul_2 _ _) (int___rmul___int_list k t l its.toArray n)
   ⟨e,rfl,⟨_,e,rfl⟩,call_meets F.slot_list_mul ⟨_,e,rfl⟩ F.entry_list_mul (F.args_list_mul_2 _ _) (AutoListH.list___mul___list_int_3 l its.toArray n k t hfit hcap hlong) ⟨e,?_⟩⟩)
 rw[hnew];exact⟨.ref _,_,I.lnew (t':=s.toks) (r.rep k.toNat) (by rw[Co,JI];exact hz),rfl,q _ I.fresh⟩
end
section
variable {prog:Program}{w:World}{A:Around}{E:Qb}{s:Shared}
end
section
variable {X:Cx}
end
end L2
namespace Att
open PySem PySem.W PySem.Calls PyProof.Rows
def Zhb {P:Params}{h:Heap}:∀(ns:Ql) (vs:Qe),WellAll P h vs (ns.map WData.int)->IntsAre vs ns:=by
 intro ns;induction ns with
 |nil =>
   intro vs w;rw[JJ]at w;cases w;exact .nil
 |cons n ns ih =>
   intro vs w;rw[Xs]at w;cases w with
   |cons a b =>
     cases a
     exact .cons _ _ (ih _ b)
def IB {l:OpenLaw}{n:Nat}(hn:l.most=some n){P:Params}{h:Heap}{args:List WData}{vals:Qe}
 (hpre:l.row.toRowW.claim.pre args=true) (hwl:WellAll P h vals args) :
 ∃a vs ns,vals=[Value.ref a]/\args=[WData.list (ns.map WData.int)]/\h.get? a=some { cls:=.type "list",data:=.seq vs.toArray }/\IntsAre vs ns/\ns.length<=n:=by
 have hsh:WShape.hasAll [] args [.list .int]=true:=(pre_splitW hpre).1;have hc:l.pre.holds [] { args:=args }=true:=(pre_splitW hpre).2;obtain⟨d,r,rfl,h1,h2⟩:=hasAllW_cons hsh;obtain rfl:=hasAllW_nil h2;obtain⟨xs,rfl,h3⟩:=hasW_list h1;obtain⟨ns,rfl⟩:=items_int h3
 have hlen:ns.length<=n:=by
  unfold OpenLaw.pre at hc;have h4:(WTm.not (.lt (.lit (.int (n:Int))) (.len (.arg 0)))).holds [] { args:=[.list (ns.map .int)] }=true:=by
   have h4:=(holds_andW hc).1;rw[hn]at h4;exact h4
  have h5:=condW_of h4 (w_not (w_lt w_lit (w_len_list (w_arg rfl))));rw[Xh]at h5;refine Nat.le_of_not_lt fun q=>?_;have q':(n:Int)<((ns.length:Nat):Int):=by omega
  first
   |(rw[YZ q']at h5;exact Xi h5 (by decide))
   |(simp at h5;omega)
 cases hwl with
 |cons w1 w2 =>
   cases w2
   cases w1 with
   |list ho hall=>exact⟨_,_,ns,rfl,rfl,ho,Zhb ns _ hall,hlen⟩
def Iv (l:OpenLaw)(args:List WData):l.row.toRowW.claim.post args (.bool true) args=true :=
 postW_of (r:=l.row.toRowW) (X:=(true==true))
  (show WShape.has [] (.bool true) .bool=true by first|rfl|decide|simp[WShape.has,WShape.arms,WShape.armsAll])
  (show(WTm.eq .res (.lit (.bool true))).value [] { args:=args,res:=some (.bool true),after:=args }=some (.bool (true==true)) from w_eq_bool (w_res rfl) w_lit) rfl
section
variable {prog:Program}{w:World}{A:Around}{E:Qb}{s:Shared}{K:Frag}
end
end Att
namespace L2
open PySem PySem.Spec PyProof.Rows
theorem Tb:∀{vs:Qe} {ns:Ql},IntsAre vs ns->Zf (ns.map V.int) vs
 |_,_,.nil=>.nil
 |_,_,.cons n t h=>.cons ⟨t,rfl⟩ (Tb h)
def L0 (H:Hp):Prop := ∀b,H b=none\/∃o xs,H b=some (.frz o (.lst xs))
abbrev KOf {K:W.Frag}{h:Heap}(_:K.In h):W.Frag:=K
def Uc (s:Stmt)(j:Nat):Stmt:=match s with
 |.ClassDef _ _ _ body _ _ _ _ _ _ _=>body.getD j (.Pass ⟨0,0,0,0⟩)
 |_=>.Pass ⟨0,0,0,0⟩
def Yo (s:Stmt):Arguments:=match s with
 |.FunctionDef _ a _ _ _ _ _ _ _ _=>a
 |_=>{ posonlyargs:=[],args:=[],vararg:=none,kwonlyargs:=[],kw_defaults:=[],kwarg:=none,defaults:=[] }
def Vc (s:Stmt):List Stmt:=match s with
 |.FunctionDef _ _ b _ _ _ _ _ _ _=>b
 |_=>[]
def Q8 (s:Stmt):Scope:=match s with
 |.FunctionDef _ _ _ _ _ _ sc _ _ _=>sc
 |_=>{ kind:=.function,names:=[],isGenerator:=false,isCoroutine:=false }
abbrev CX0:CXT:=fun _ _ _ _ _ _=>False
abbrev E0:XK:=fun _ _ _=>False
def Ht {X:Cx}:G1 CX0 X E0:=fun _ _ _ _ _ _ _ h=>h.elim
structure Fun (K:W.Frag)(x qual:Str)(st:Stmt)(f:Addr)(fd:FuncData):Prop where
 ex:∃(oc:Value) (od:Qj) (kV doc pm:Value) (an:Qj) (cdv ct:Value) (osl:Array (Qf)),
  fd=W.fnOf x qual (Yo st) (Vc st) (Q8 st) .none kV doc pm an cdv ct/\K.lookup f=some ⟨oc,od,.func fd,osl⟩/\W.codeIn K cdv qual=true
 kp:W.keepIn K (.ref f)=true
section
variable {P:Program}{w:World}{K:W.Frag}{mg:Str->Qf}{base:Heap}
def Fun.ok {x qual:Str}{st:Stmt}{f:Addr}{fd:FuncData}{N ps:Qh}{k:Nat}{sp:Sp}(F:Fun K x qual st f fd)(S:Qq N ps (Q8 st))(len:∀vs H Q E,sp vs H Q E->vs.length=ps.length)
 (Xbp:∀(cdv:Value) (A:Around) (outer:List Env) (s:Shared) (H:Hp) (vs:List V) (Q:VK) (E:XK),Room k (A.deeper (envOfC qual (Q8 st) s.heap.objs.size f cdv))->sp vs H Q E ->
  ∃t,PSs (Ya CX0 P w K mg base N qual (Q8 st) f cdv A outer s H E).nox (Vc st) t/\t { nx:=fun _ H'=>Q .non H',rt:=Q } (start N vs) H):FnOk P w K mg base CX0 (k+1) f fd ps sp:=by
 obtain⟨oc,od,kV,doc,pm,an,cdv,ct,osl,rfl,lk,hcd⟩:=F.ex;refine LA lk hcd S len fun A outer s H vs Q E hr hsp=>?_;obtain⟨t,h,q⟩:=Xbp cdv A outer s H vs Q E hr hsp
 exact⟨t,h.nox,q⟩
def Fun.binds {x qual:Str}{st:Stmt}{f:Addr}{fd:FuncData}{ps:Qh}(F:Fun K x qual st f fd)
 (h:∀(kV doc pm:Value) (an:Qj) (cdv ct:Value) (us:Qe),us.length=ps.length->bindArgs (W.fnOf x qual (Yo st) (Vc st) (Q8 st) .none kV doc pm an cdv ct) ⟨us,[]⟩=pure (ps.zip us)):YL K fd ps []:=by
 obtain⟨oc,od,kV,doc,pm,an,cdv,ct,osl,rfl,lk,hcd⟩:=F.ex;exact .all (h kV doc pm an cdv ct)
def W8 {x qual:Str}{st:Stmt}{f:Addr}{oc:Value}{od an:Qj}{osl:Array (Qf)}{kV doc pm cdv ct:Value}(l:K.lookup f=some ⟨oc,od,.func (W.fnOf x qual (Yo st) (Vc st) (Q8 st) .none kV doc pm an cdv ct),osl⟩)
 (c:W.codeIn K cdv qual=true) (k:W.keepIn K (.ref f)=true):Fun K x qual st f (W.fnOf x qual (Yo st) (Vc st) (Q8 st) .none kV doc pm an cdv ct):=⟨⟨oc,od,kV,doc,pm,an,cdv,ct,osl,rfl,l,c⟩,k⟩
end
def W4 {A:Around}{k:Nat}(hr:Room k A):A.units+1<cLine:=BV (Nat.add_le_add_left (by decide:1<=64) _) hr.units
def VX {n:Nat}(h:n<=1000):n<sizeLine:=BV h (by decide)
section
variable {X:Cx}
def pv (i:Nat) {x:Str} {pos:Pos} (hN:X.N[i]?=some x:=by rfl) (hv:Vis X.env.scope x:=by first|exact Or.inl rfl|exact Or.inr Qa|exact Or.inr (Or.inr rfl)) (hd:(x==("__debug__" : Str))=false:=by decide)
 (hcd:(x==("__classdict__" : Str))=false:=by decide):PE X (.Name x pos) (Za i):=Fj hN hv hd hcd
end
def QN (H H':Hp):Prop := ∀b o,H b=some o->H' b=some o
def QN.refl (H:Hp):QN H H:=fun _ _ h=>h
def QN.trans {H H1 H2:Hp}(a:QN H H1)(b:QN H1 H2):QN H H2:=fun c o h=>b c o (a c o h)
def QN.free {H H':Hp}(e:QN H H'){l:Addr}(h:H' l=Option.none):H l=Option.none:=by
 cases q:H l with
 |none=>rfl
 |some o =>
   rw[e l o q]at h;cases h
def QN.seq {K:W.Frag}{H H':Hp}{a:Addr}{xs:List V}(e:QN H H')(h:SqL K H a xs):SqL K H' a xs:=by
 rcases h with (h|⟨o,h⟩)|h
 ·exact .inl (.inl (e _ _ h))
 ·exact .inl (.inr ⟨o,e _ _ h⟩)
 ·exact .inr h
end L2
section
namespace L2
open PySem PySem.Spec PyProof.Rows
theorem Nr {env:Env}{F:Str×NameKind->List (Str×Addr)->Sem (ForInStep (List (Str×Addr)))}
 (h1:∀n c cs,env.cells.lookup n=some c->F (n,NameKind.free) cs=pure (.yield ((n,c)::cs)))
 (h2:∀n k cs,k≠NameKind.free->F (n,k) cs=pure (.yield cs)) :
 ∀(l:List (Str×NameKind)) (cs:List (Str×Addr)),(∀p∈l,p.2=NameKind.free->∃c,env.cells.lookup p.1=some c)->(∀x c,cs.lookup x=some c->env.cells.lookup x=some c) ->
  ∃cl,forIn l cs F=pure cl/\(∀x c,cl.lookup x=some c->env.cells.lookup x=some c)/\(∀x c,cs.lookup x=some c->∃c',cl.lookup x=some c')/\∀p∈l,p.2=NameKind.free->∃c,cl.lookup p.1=some c
 |[],cs,_,hc=>⟨cs,by rw[List.forIn_nil],hc,fun x c h=>⟨c,h⟩,fun p hp=>Xi hp (by simp)⟩
 |(n,k)::l,cs,hl,hc=>by
   have hl':∀p∈l,p.2=NameKind.free->∃c,env.cells.lookup p.1=some c:=fun p hp=>hl p (Xf _ hp)
   by_cases hk:k=NameKind.free
   ·subst hk
    obtain⟨c,e⟩:=hl (n,NameKind.free) Xc rfl
    have hc':∀x d,((n,c)::cs).lookup x=some d->env.cells.lookup x=some d:=fun x d q=>by
     cases hx:x==n with
     |true =>
       simp only[XU,hx]at q;cases q;rw[eq_of_beq hx];exact e
     |false =>
       simp only[XU,hx]at q;exact hc x d q
    obtain⟨cl,a1,a2,a3,a4⟩:=Nr h1 h2 l ((n,c)::cs) hl' hc'
    have up:∀x d,cs.lookup x=some d->∃d',((n,c)::cs).lookup x=some d':=fun x d q=>by
     cases hx:x==n with
     |true=>exact⟨c,by simp only[XU,hx]⟩
     |false=>exact⟨d,by simp only[XU,hx];exact q⟩
    refine⟨cl,by rw[BQ,h1 n c cs e,pure_bind];exact a1,a2,fun x d q=>?_,fun p hp hf=>?_⟩
    ·obtain⟨d',q'⟩:=up x d q
     exact a3 x d' q'
    ·rcases Xg.mp hp with rfl|hp
     ·exact a3 n c (by simp only[XU,beq_self_eq_true])
     ·exact a4 p hp hf
   ·obtain⟨cl,a1,a2,a3,a4⟩:=Nr h1 h2 l cs hl' hc
    refine⟨cl,by rw[BQ,h2 n k cs hk,pure_bind];exact a1,a2,a3,fun p hp hf=>?_⟩
    rcases Xg.mp hp with rfl|hp
    ·exact Xi hf hk
    ·exact a4 p hp hf
def TB {scope:Scope}{env:Env}(h:∀p∈scope.names,p.2=NameKind.free->∃c,env.cells.lookup p.1=some c) :
 ∃cl,closureFor scope env=pure cl/\(∀x c,cl.lookup x=some c->env.cells.lookup x=some c)/\∀p∈scope.names,p.2=NameKind.free->∃c,cl.lookup p.1=some c:=by
 simp only[closureFor];obtain⟨cl,a1,a2,_,a4⟩:=Nr (env:=env) (F:=fun x r=>match x with|(name,kind)=>if (kind==NameKind.free)=true then do let a <- cellOf env name;pure (ForInStep.yield ((name,a)::r)) else pure (ForInStep.yield r))
  (fun n c cs e=>by
   show(if (NameKind.free==NameKind.free)=true then _ else _)=_
   rw[Xb (show(NameKind.free==NameKind.free)=true from rfl)];unfold cellOf;rw[e];rfl)
  (fun n k cs hk=>by
   have:(k==NameKind.free)=false:=by simpa using hk
   show(if (k==NameKind.free)=true then _ else _)=_
   rw[this,Xa Xp]) scope.names [] h (fun x c q=>by simp at q)
 refine⟨cl,?_,a2,a4⟩
 first
  |exact a1
  |(rw[bind_pure];exact a1)
  |(simp only[bind_pure]at *;exact a1)
  |(rw[show(forIn scope.names ([]:List (Str×Addr)) _ >>= fun r=>pure r)=_ from bind_pure _];exact a1)
theorem Lo {env:Env}:∀{names:List (Str×NameKind)} {x:Str},names.lookup x=some .free ->
 (names.map fun(n,k)=>if (k==NameKind.free&&env.scope.kind==.function&&env.kindOf n==some .cell) then (n,NameKind.cell) else (n,k)).lookup x=some .cell \/
 (names.map fun(n,k)=>if (k==NameKind.free&&env.scope.kind==.function&&env.kindOf n==some .cell) then (n,NameKind.cell) else (n,k)).lookup x=some .free
 |[],_,h=>by simp at h
 |(n,k)::r,x,h=>by
   have ih:=@Lo env r x;show List.lookup x ((if (k==NameKind.free&&env.scope.kind==.function&&env.kindOf n==some .cell)=true then (n,NameKind.cell) else (n,k))::_)=_\/List.lookup x ((if (k==NameKind.free&&env.scope.kind==.function&&env.kindOf n==some .cell)=true then (n,NameKind.cell) else (n,k))::_)=_
   cases hx:x==n with
   |true =>
     simp only[XU,hx]at h;cases h
     by_cases hc:(NameKind.free==NameKind.free&&env.scope.kind==.function&&env.kindOf n==some .cell)=true
     ·rw[Xb hc];left;simp only[XU,hx]
     ·rw[Xa hc];right;simp only[XU,hx]
   |false =>
     simp only[XU,hx]at h;by_cases hc:(k==NameKind.free&&env.scope.kind==.function&&env.kindOf n==some .cell)=true
     ·rw[Xb hc];simp only[XU,hx];exact ih h
     ·rw[Xa hc];simp only[XU,hx];exact ih h
theorem Lq {env:Env}:∀{names:List (Str×NameKind)} {x:Str},((names.map fun(n,k)=>if (k==NameKind.free&&env.scope.kind==.function&&env.kindOf n==some .cell) then (n,NameKind.cell) else (n,k)).lookup x=some .cell \/
 (names.map fun(n,k)=>if (k==NameKind.free&&env.scope.kind==.function&&env.kindOf n==some .cell) then (n,NameKind.cell) else (n,k)).lookup x=some .free)->names.lookup x=some .free\/names.lookup x=some .cell
 |[],_,h=>by simp at h
 |(n,k)::r,x,h=>by
   have ih:=@Lq env r x;have h:List.lookup x ((if (k==NameKind.free&&env.scope.kind==.function&&env.kindOf n==some .cell)=true then (n,NameKind.cell) else (n,k))::_)=_\/List.lookup x ((if (k==NameKind.free&&env.scope.kind==.function&&env.kindOf n==some .cell)=true then (n,NameKind.cell) else (n,k))::_)=_:=h
   cases hx:x==n with
   |true =>
     simp only[XU,hx];by_cases hc:(k==NameKind.free&&env.scope.kind==.function&&env.kindOf n==some .cell)=true
     ·have:k=NameKind.free:=by
       rw[JD,JD]at hc;exact eq_of_beq hc.1.1
      left;rw[this]
     ·rw[Xa hc]at h
      simp only[XU,hx]at h;exact h.symm
   |false =>
     simp only[XU,hx];by_cases hc:(k==NameKind.free&&env.scope.kind==.function&&env.kindOf n==some .cell)=true
     ·rw[Xb hc]at h;simp only[XU,hx]at h;exact ih h
     ·rw[Xa hc]at h;simp only[XU,hx]at h;exact ih h
structure CIn where
 cl:List (Str×Addr)
 C:Addr
 s₀:Shared
 H₀:Hp
 ex:Qg
 pn:Qc
def V0 (X:Cx)(N:Qh)(scope:Scope)(c:CIn):Cx where
 prog:=X.prog
 w:=X.w
 K:=X.K
 mg:=X.mg
 base:=X.base
 A:=X.A
 N:=N
 s₀:=c.s₀
 H₀:=c.H₀
 env:=compEnvC scope c.cl c.C X.env
 outer:=X.stack
 stack:=X.stack
 ex:=c.ex
 fn:=fun _=>false
 calm:=X.calm
 pn:=c.pn
 xe:=fun _ _=>False
def Y5 (f:List (Option Nat))(σ:St):St:=f.map fun o=>match o with|some i=>(σ[i]?).join|none=>none
structure CompOk (NX:Qh)(sc:Scope)(N:Qh)(f:List (Option Nat))(scope:Scope):Prop where
 kind:scope.kind=.function
 nocell:∀y∈scope.names,y.2≠NameKind.cell
 names:∀y∈scope.names,y.2=NameKind.local->scope.names.lookup y.1=some .local
 free:∀y∈scope.names,y.2=NameKind.free->sc.names.lookup y.1=some .cell\/sc.names.lookup y.1=some .free
 len:f.length=N.length
 ix:∀(j i:Nat),f[j]?=some (some i)->∃x,N[j]?=some x/\NX[i]?=some x/\scope.names.lookup x=some .free
def MF (NX:Qh)(sc:Scope)(N:Qh)(f:List (Option Nat))(scope:Scope):Bool :=
 decide (scope.kind=.function)&&(scope.names.all fun y=>decide (y.2≠NameKind.cell)&&(decide (y.2≠NameKind.local)||decide (scope.names.lookup y.1=some .local)) &&
  (decide (y.2≠NameKind.free)||decide (sc.names.lookup y.1=some .cell)||decide (sc.names.lookup y.1=some .free)))&&decide (f.length=N.length) &&
 (List.range f.length).all fun j=>match f[j]? with
  | some (some i)=>(match N[j]? with
    |some x=>decide (NX[i]?=some x)&&decide (scope.names.lookup x=some .free)
    |none=>false)
  |_=>true
def Ta {NX:Qh}{sc:Scope}{N:Qh}{f:List (Option Nat)}{scope:Scope}(h:MF NX sc N f scope=true):CompOk NX sc N f scope:=by
 unfold MF at h;simp only[JD,List.all_eq_true,decide_eq_true_eq,Bool.or_eq_true]at h;obtain⟨⟨⟨h1,h2⟩,h3⟩,h4⟩:=h;refine⟨h1,fun y hy=>(h2 y hy).1.1,fun y hy e=>?_,fun y hy e=>?_,h3,fun j i e=>?_⟩
 ·rcases(h2 y hy).1.2 with z|z
  ·exact Xi e z
  ·exact z
 ·rcases(h2 y hy).2 with (z|z)|z
  ·exact Xi e z
  ·exact .inl z
  ·exact .inr z
 ·have hj:j<f.length:=(Xe.mp e).1
  have q:=h4 j (Xn.mpr hj);rw[e]at q;cases hN:N[j]? with
  |none=>rw[hN]at q;simp at q
  |some x =>
    rw[hN]at q;simp only[JD,decide_eq_true_eq]at q;exact⟨x,rfl,q.1,q.2⟩
def Rg (f:List (Option Nat))(σ σ':St):Prop:=σ'.length=σ.length/\∀(i j:Nat),f[i]?=some (some j)->σ'[i]?=σ[i]?
structure TgOk (f:List (Option Nat))(g:TG):Prop where
 keep:∀x σ H Q,g x σ H Q->g x σ H fun σ2 H2=>Rg f σ σ2/\Q σ2 H2
 mono:∀x σ H Q Q',(∀σ H,Q σ H->Q' σ H)->g x σ H Q->g x σ H Q'
structure TgsOk (f:List (Option Nat))(g:TGs):Prop where
 keep:∀xs σ H Q,g xs σ H Q->g xs σ H fun σ2 H2=>Rg f σ σ2/\Q σ2 H2
 mono:∀xs σ H Q Q',(∀σ H,Q σ H->Q' σ H)->g xs σ H Q->g xs σ H Q'
theorem Z5 {f:List (Option Nat)}{j:Nat}(h:f[j]?=some none:=by rfl):TgOk f (Jq j) where
 keep:=fun x σ H Q q=>⟨⟨List.length_set ..,fun i k e=>XT (by rintro rfl;rw[h]at e;cases e)⟩,q⟩
 mono:=fun x σ H Q Q' m q=>m _ _ q
theorem Bx {f:List (Option Nat)}:TgsOk f Hh where
 keep:=fun xs σ H Q ⟨e,q⟩=>⟨e,⟨rfl,fun _ _ _=>rfl⟩,q⟩
 mono:=fun xs σ H Q Q' m ⟨e,q⟩=>⟨e,m _ _ q⟩
theorem Jb {f:List (Option Nat)}{t:TG}{u:TGs}(h1:TgOk f t)(h2:TgsOk f u):TgsOk f (Hz t u) where
 keep:=fun xs σ H Q ⟨v,r,e,q⟩=>⟨v,r,e,h1.mono _ _ _ _ _ (fun σ1 H1 z=>h2.mono _ _ _ _ _ (fun σ2 H2 y=>⟨⟨y.1.1.trans z.1.1,fun i j ef=>(y.1.2 i j ef).trans (z.1.2 i j ef)⟩,y.2⟩) (h2.keep _ _ _ _ z.2)) (h1.keep _ _ _ _ q)⟩
 mono:=fun xs σ H Q Q' m ⟨v,r,e,q⟩=>⟨v,r,e,h1.mono _ _ _ _ _ (fun σ1 H1 z=>h2.mono _ _ _ _ _ m z) q⟩
theorem Bp {f:List (Option Nat)}{K:W.Frag}{n:Nat}{t:TGs}(h:TgsOk f t):TgOk f (DX K n t) where
 keep:=fun x σ H Q ⟨a,xs,e,q,l,z⟩=>⟨a,xs,e,q,l,h.keep _ _ _ _ z⟩
 mono:=fun x σ H Q Q' m ⟨a,xs,e,q,l,z⟩=>⟨a,xs,e,q,l,h.mono _ _ _ _ _ m z⟩
def PCs (X:Cx)(ifs:Qi)(tc:TT):Prop :=
 ∀(Xbo:Qc) (s:Shared) (σ:St) (H:Hp) (Q:Bool->Hp->Prop),Qu X Xbo σ H s->tc σ H Q ->
  wpAny (model X.prog X.w) X.A (forIn ifs true fun c r=>if r=true then do let ok <- isTrue c X.env (eval c X.env);pure (ForInStep.yield ok) else pure (ForInStep.yield r)) (TP X Xbo σ Q) X.xe s
def U4:TT:=fun _ H Q=>Q true H
def ZT {X:Cx}:PCs X [] U4:=fun _ _ _ H _ I h=>wpAny_tests_nil ⟨H,I,h⟩
def Kq {X:Cx}{c:Expr}{tc:TT}(h:PT X c tc):PCs X [c] tc:=fun Xbo s σ H Q I q=>wpAny_tests_one (h Xbo s σ H Q I q)
def Zj9 {prog:Program}{w:World}{A:Around}{R:Result->Shared->Prop}{s:Shared}{elt target iter:Expr}{ifs:Qi}{scope:Scope}{pos:Pos}{it acc:Value}{env:Env}(I:Nat->Shared->Prop)
 (turn:∀n s,I n s->wpAny (model prog w) A (pyNext it) (fun r bj=>match r with
  |none=>R (.ok .next) bj
  | some v=>wpAny (model prog w) A (letOwnedTupleGo target it v) (fun _ s₁'=>wpAny (model prog w) A (assign target env v) (fun _ b9 =>
   wpAny (model prog w) A (forIn ifs true fun c r=>if r=true then do let ok <- isTrue c env (eval c env);pure (ForInStep.yield ok) else pure (ForInStep.yield r)) (fun ok bq =>
    if ok=true then wpAny (model prog w) A (eval elt env) (fun x bz =>
     wpAny (model prog w) A (call (.builtin "list.append") [acc,x]) (fun _ cv => ∃m,m<n/\I m cv) (fun _ _=>False) bz) (fun _ _=>False) bq
    else ∃m,m<n/\I m bq) (fun _ _=>False) b9) (fun _ _=>False) s₁') (fun _ _=>False) bj) (fun _ _=>False) s)
 (n:Nat) (h:I n s) :
 codeAny (model prog w) A (.compLoop (.ListComp elt [⟨target,iter,ifs,0⟩] scope pos) 0 it acc env) R s:=by
 refine codeAny_loop rfl I (fun n s hI=>?_) n h;show wpAny _ A ((compTurn (.ListComp elt [⟨target,iter,ifs,0⟩] scope pos) 0 it acc env).onRaise (fun x=>do noteFrame x env;theTreesLotGoes x)) _ _ s;refine wpAny_noted ?_;rw[compTurn_list];refine Xd (wpAny_standAt (Xd (wpAny_mono (turn n s hI) (fun r bj bv=>?_) fun _ _ h'=>h'.elim)))
 cases r with
 |none=>exact Xu bv
 |some v =>
   refine Xd (wpAny_mono bv (fun _ s₁' h₁'=>?_) fun _ _ h'=>h'.elim);refine Xd (wpAny_mono h₁' (fun _ b9 bw=>Xd (wpAny_mono bw (fun ok bq c7=>?_) fun _ _ h'=>h'.elim)) fun _ _ h'=>h'.elim)
   cases ok with
   |false=>exact Xu ⟨rfl,c7⟩
   |true =>
     exact Xd (Xd (wpAny_mono c7 (fun x bz cw=>Xd (wpAny_mono cw (fun _ cv cx=>Xu (Xu ⟨rfl,cx⟩)) fun _ _ h'=>h'.elim)) fun _ _ h'=>h'.elim))
theorem Qu.track {X:Cx}{Xbo:Qc}{σ:St}{H:Hp}{s:Shared}{a:Addr}{o:HO}(I:Qu X Xbo σ H s)(hn:H a=none)(h0:X.s₀.heap.objs.size<=a)(hL:a≠X.env.locals)(hC:∀x c,X.env.cells.lookup x=some c->c≠a)
 (hp:∀p∈X.pn++Xbo,p.1≠a) (new:ZR X.prog X.w (upd H a o) s.heap a o):Qu X Xbo σ (upd H a o) s where
 ok:=I.ok
 os:=I.os
 bare:=I.bare
 base :=
  { keep:=I.base.keep
    slot:=I.base.slot
    free:=fun b ob q n hx=>by rw[Q7 (Xr (Xz (Xm q) h0))];exact I.base.free b ob q n hx
    there:=I.base.there
    tups:=fun b xs q=>by have z:=I.base.tups b xs q;rw[Q7 (Vd z hn)];exact z
    tupo:=I.base.tupo
    frzs:=fun b u xs q=>by have z:=I.base.frzs b u xs q;rw[Q7 (Vd z hn)];exact z
    tbls:=fun b ps q=>by obtain⟨more,z⟩:=I.base.tbls b ps q;exact⟨more,by rw[Q7 (Vd z hn)];exact z⟩ }
 loc:=I.loc
 cell:=I.cell
 free:=by rw[Q7 hL.symm];exact I.free
 freeC:=fun x c e=>by rw[Q7 (hC x c e)];exact I.freeC x c e
 pin:=fun p hp'=>by obtain⟨e,n,r⟩:=I.pin p hp';exact⟨e,by rw[Q7 (hp p hp')];exact n,r⟩
 hok:=fun b u e=>by
  by_cases hb:b=a
  ·subst hb;rw[Zg]at e;cases e;exact new
  ·rw[Q7 hb]at e
   exact(I.hok b u e).stay (fun _ _ _ q=>q) (fun c q=>by rw[Q7 (Vd q hn)];exact q) fun c xs q=>by rw[Q7 (Vd q hn)];exact q
 len:=I.len
def LCw (f:List (Option Nat))(g:TG)(tc:TT)(te:TE)(σ:St)(J:It)(Q:VK)(H1:Hp):Prop :=
 ∃W:Nat->Nat->List V->Hp->Prop,(∃m,W 0 m [] H1)/\∀i m ys H,W i m ys H ->
  (J.stop i H/\∀p,H p=none->Q (.ref p) (upd H p (.lst ys))) \/
  (J.go i H/\∀x H',J.yld i H x H'->g x (Y5 f σ) H' fun σ2 H2=>tc σ2 H2 fun b H3 =>
   if b=true then te σ2 H3 fun y H4=>ys.length<sizeLine/\∃m',m'<m/\W (i+1) m' (ys++[y]) H4
   else ∃m',m'<m/\W (i+1) m' ys H3)
def tLC (f:List (Option Nat))(wi:TI)(g:CIn->TG)(tc:CIn->TT)(te:CIn->TE):TE:=fun σ H Q=>wi σ H fun J H1=>∀c:CIn,LCw f (g c) (tc c) (te c) σ J Q H1
abbrev Wc (its:Qe) (k:Nat):Obj:={ cls:=.type "list",data:=.seq its.toArray k }
section
variable {X:Cx}{Xbo:Qc}{σ:St}{H2:Hp}{b9:Shared}
def Sk {tg iter elt:Expr}{ifs:Qi}{scope:Scope}{pos:Pos}{N:Qh}{f:List (Option Nat)}{g:CIn->TG}{tc:CIn->TT}{te:CIn->TE}{cl:List (Str×Addr)}
 (hc:X.calm=true) (ck:CompOk X.N X.env.scope N f scope)
 (hg:∀c,PG (V0 X N scope c) tg (g c)) (ht:∀c,TgOk f (g c)) (hcs:∀c,PCs (V0 X N scope c) ifs (tc c)) (he:∀c,PE (V0 X N scope c) elt (te c))
 (I2:Qu X Xbo σ H2 b9) {it:Addr} {fp:Qg} {tn:Nat->Heap->Prop} {J:It} (T:Turn X.prog X.w X.K tg J fp it tn) (st:tn 0 b9.heap) (f2:∀b∈fp,Wb X Xbo H2 b)
 {Q:VK} (hq:∀c:CIn,LCw f (g c) (tc c) (te c) σ J Q H2)
 (hcl1:∀x c,cl.lookup x=some c->X.env.cells.lookup x=some c) (hcl2:∀p∈scope.names,p.2=NameKind.free->∃c,cl.lookup p.1=some c)
 {RR:Value->Addr->Result->Shared->Prop} {E:Qb}
 (hRR:∀(acc C:Addr) (H':Hp) (s':Shared) (m':Str->Qf),s'.heap.Ns C m'->Qu X Xbo σ H' s'->H' C=none->C≠X.env.locals->X.s₀.heap.objs.size<=C->(∀x c,X.env.cells.lookup x=some c->c≠C) ->
  (∀p∈X.pn++Xbo,p.1≠C)->Q (.ref acc) H'->RR (.ref acc) C (.ok .next) s') :
 wpAny (model X.prog X.w) X.A (newList []) (fun acc bq=>wpAny (model X.prog X.w) X.A (newFunctionEnv scope X.env.globals cl [] X.env.qual none .none (some X.env)) (fun cenv bz =>
  codeAny (model X.prog X.w) X.A (.compStart (.ListComp elt [⟨tg,iter,ifs,0⟩] scope pos) 0 (.ref it) acc { cenv with scope:=relabel scope X.env }) (RR acc cenv.locals) bz) E bq) E b9:=by
 refine wpAny_newObj_type (wpAny_newFunctionEnv ck.nocell (by intro y hy;simp at hy) (fun bv cj cq=>?_) ck.kind);dsimp only at cj cq ⊢;have I3:Qu X Xbo σ H2 { b9 with heap:=b9.heap.push (Wc [] 0) }:=I2.kept (t':=b9.toks) fun b u e=>Xo _ e;have hD:(b9.heap.push (Wc [] 0)).get? b9.heap.objs.size=some (Wc [] 0):=XV _ rfl;generalize hs3:({ b9 with heap:=b9.heap.push (Wc [] 0) }:Shared)=bq at I3 cj cq ⊢;have hp3:b9.heap.push (Wc [] 0)=bq.heap:=by rw[<- hs3]
 have hp3':b9.heap.push { cls:=.type "list",dict:=none,data:=.seq ([]:Qe).toArray }=bq.heap:=hp3;rw[hp3]at hD;simp only[hp3']at cj cq ⊢;have sz3:b9.heap.objs.size<bq.heap.objs.size:=by rw[<- hp3,Wv];exact Ge _
 have k3:∀b u,b9.heap.get? b=some u->bq.heap.get? b=some u:=fun b u e=>by rw[<- hp3];exact Xo _ e
 have k1:∀b u,bq.heap.get? b=some u->bv.get? b=some u:=fun b u e =>
  cq.extBut b u (Xr (Xm e)) (Xo _ e)
 have fpo:∀b∈fp,b<b9.heap.objs.size:=fun b hb=>by
  obtain⟨o,e,_⟩:=T.obj 0 _ st b hb;exact Xm e
 have st1:tn 0 bv:=T.keep _ _ _ st fun b hb o e=>k1 b o (k3 b o e);have fneC:∀b∈fp,b≠bq.heap.objs.size:=fun b hb=>Xr (Nat.lt_trans (fpo b hb) sz3);have fneD:∀b∈fp,b≠b9.heap.objs.size:=fun b hb=>Xr (fpo b hb)
 have cneD:∀x d,X.env.cells.lookup x=some d->d≠b9.heap.objs.size:=fun x d e=>by
  obtain⟨v,z⟩:=I2.cell x d e;exact Xr z.lt
 have pneD:∀p∈X.pn++Xbo,p.1≠b9.heap.objs.size:=fun p hp=>Xr (Xm (I2.pin p hp).1);have freeD:H2 b9.heap.objs.size=none:=I2.fresh
 have stk:∀b,b≠X.env.locals->b∉X.fs->b∉frs X.stack:=fun b h1 h2 hb=>by
  rcases Xg.mp (I3.stkSub b hb) with z|z
  ·exact h1 z
  ·exact h2 z
 have exD:∀b,b∈b9.heap.objs.size::fp->b=b9.heap.objs.size\/b∈fp:=fun b hb=>Xg.mp hb
 let c:CIn:=⟨cl,bq.heap.objs.size,bq,H2,b9.heap.objs.size::fp,X.pn++Xbo⟩
 have okX:(V0 X N scope c).Ok :=
  { mod:=I3.ok.mod
    kind:=ck.kind
    glob:=I3.ok.glob
    blt:=I3.ok.blt
    above:=Xx _
    inj:=fun x y d h1 h2=>I3.ok.inj x y d (hcl1 x d h1) (hcl1 y d h2)
    has:=fun x hx=>by
     rcases Lq hx with z|z
     ·exact hcl2 (x,.free) (PySem.mem_of_lookup z) rfl
     ·exact Xi rfl (ck.nocell (x,.cell) (PySem.mem_of_lookup z))
    cab:=fun x d h=>Xi (show false=true from h) Xp
    hd:=I3.ok.hd
    frames:=I3.ok.frames
    stk:=.inl rfl
    exf:=fun b hb=>by
     rcases exD b hb with rfl|hb
     ·exact⟨Xr sz3,fun x d e=>cneD x d (hcl1 x d e)⟩
     ·exact⟨fneC b hb,fun x d e=>(f2 b hb).2.2.2.2.1 x d (hcl1 x d e)⟩
    bs:=fun b o e=>I3.bs b o e
    bsz:=XI I3.ok.bsz I3.sz
    noex:=fun b o e hb=>by
     rcases exD b hb with rfl|hb
     ·exact Xi (Xm (I2.bk _ _ e)) (YY _)
     ·rcases(f2 b hb).2.2.2.1 with z|z
      ·exact I3.ok.noex b o e z
      ·exact Xi (Xz (Xm (I3.ok.bs b o e).1) z) (YY _)
    exfs:=fun b hb=>by
     rcases exD b hb with rfl|hb
     ·exact stk _ (YE I2.lt) (I2.nofs (Xx _))
     ·exact stk b (f2 b hb).2.1 (f2 b hb).2.2.1
    funs:=I3.stack
    frf:=I3.stkFree }
 have I4:Qu (V0 X N scope c) [(b9.heap.objs.size,Wc [] 0)] (Y5 f σ) H2 { bq with heap:=bv,toks:=bq.toks+([]:List (Str×Value)).length } :=
  { ok:=okX
    os:=rfl
    bare:=I3.bare
    base:=Un.kept k1
    loc:=⟨_,cj,fun i x v e1 e2 e3=>by
     have hfi:∃j,f[i]?=some (some j)/\σ[j]?=some (some v):=by
      unfold Y5 at e2;rw[Xj]at e2;cases ef:f[i]? with
      |none=>rw[ef]at e2;cases e2
      |some o =>
        rw[ef]at e2;cases o with
        |none=>cases e2
        |some j =>
          refine⟨j,rfl,?_⟩;have e2':(σ[j]?).join=some v:=Option.some.inj e2
          cases es:σ[j]? with
          |none=>rw[es]at e2';cases e2'
          |some o2 =>
            rw[es]at e2';have:o2=some v:=e2';rw[this]
     obtain⟨j,ef,es⟩:=hfi;obtain⟨x',n1,n2,n3⟩:=ck.ix i j ef
     have:x'=x:=Option.some.inj (n1.symm.trans e1)
     subst this;have hfr:=ck.free (x',.free) (PySem.mem_of_lookup n3) rfl;obtain⟨m0,hm0,hl0⟩:=I3.loc;obtain⟨u,ru,lk⟩:=hl0 j x' v n2 es (hfr.elim (fun z=>.inr (.inl z)) fun z=>.inr (.inr z));refine⟨u,ru,.inr ⟨Lo n3,?_⟩⟩
     rcases lk with ⟨kl,_⟩|⟨_,d,ed,hd⟩
     ·have kl':X.env.scope.names.lookup x'=some .local:=kl
      rcases hfr with z|z
      ·rw[kl']at z;cases z
      ·rw[kl']at z;cases z
     ·obtain⟨d',ed'⟩:=hcl2 (x',.free) (PySem.mem_of_lookup n3) rfl
      have:d'=d:=Option.some.inj ((hcl1 x' d' ed').symm.trans ed)
      subst this;exact⟨d',ed',hd.keeps k1⟩⟩
    cell:=fun x d e=>by
     obtain⟨v,z⟩:=I3.cell x d (hcl1 x d e)
     exact⟨v,z.keeps k1⟩
    free:=I3.fresh
    freeC:=fun x d e=>I3.freeC x d (hcl1 x d e)
    pin:=fun p hp=>by
     rcases XC.mp (show p∈(X.pn++Xbo)++[(b9.heap.objs.size,Wc [] 0)] from hp) with hp'|hp'
     ·obtain⟨e,n,ne,nf,d⟩:=I3.pin p hp'
      exact⟨k1 _ _ e,n,Xr (Xm e),stk p.1 ne nf,d⟩
     ·have z:p=(b9.heap.objs.size,Wc [] 0):=Xk.mp hp'
      subst z;exact⟨k1 _ _ hD,freeD,Xr sz3,stk _ (YE I2.lt) (I2.nofs (Xx _)),fun v z=>nomatch (show Data.seq _ _=Data.cell v from z)⟩
    hok:=I3.hok.kept k1
    len:=by
     show(Y5 f σ).length=N.length
     unfold Y5;rw[Xh];exact ck.len }
 have back:∀{σ':St} {H':Hp} {s':Shared} {ps:Qc},Qu (V0 X N scope c) ps σ' H' s'->Qu X Xbo σ H' s':=fun{σ' H' s' ps} J' =>
  I3.call' (ch:=b9.heap.objs.size::fp) J'.os J'.base J'.hok J'.bare fun b hb=>by
   rcases exD b hb with rfl|hb
   ·exact⟨.inr I2.sz,YE I2.lt,cneD,pneD⟩
   ·exact⟨(f2 b hb).2.2.2.1,(f2 b hb).2.1,(f2 b hb).2.2.2.2.1,(f2 b hb).2.2.2.2.2⟩
 have fpX:∀{H':Hp} {ob:Obj},(∀b∈fp,H' b=none)->∀b∈fp,Wb (V0 X N scope c) [(b9.heap.objs.size,ob)] H' b:=fun{H' ob} hn b hb =>
  ⟨hn b hb,(okX.exf b (Xf _ hb)).1,okX.exfs b (Xf _ hb),.inl (Xf _ hb),(okX.exf b (Xf _ hb)).2,fun p hp=>by
   rcases XC.mp (show p∈(X.pn++Xbo)++[(b9.heap.objs.size,ob)] from hp) with z|z
   ·exact(f2 b hb).2.2.2.2.2 p z
   ·have z:p=(b9.heap.objs.size,ob):=Xk.mp z
    subst z;exact(fneD b hb).symm⟩
 obtain⟨W,⟨m0,w0⟩,turn⟩:=hq c
 have loop:∀s,s=({ bq with heap:=bv,toks:=bq.toks+([]:List (Str×Value)).length }:Shared) ->
  codeAny (model X.prog X.w) X.A (.compLoop (.ListComp elt [⟨tg,iter,ifs,0⟩] scope pos) 0 (.ref it) (.ref b9.heap.objs.size) (compEnvC scope cl bq.heap.objs.size X.env)) (RR (.ref b9.heap.objs.size) bq.heap.objs.size) s:=by
  rintro s rfl
  refine Zj9 (fun n s'=>∃i H' ys its k,Qu (V0 X N scope c) [(b9.heap.objs.size,Wc its k)] (Y5 f σ) H' s'/\Zf ys its/\ys.length<=sizeLine/\tn i s'.heap/\(∀b∈fp,H' b=none)/\W i n ys H') ?_ m0 ⟨0,_,[],[],0,I4,.nil,X4 _,st1,fun b hb=>(f2 b hb).1,w0⟩
  rintro n s5 ⟨i,H5,ys,its,k,I5,rv5,hz5,st5,fr5,w5⟩
  rcases turn i n ys H5 w5 with ⟨stop,qn⟩|⟨go,step⟩
  ·refine QI (T.done (V0 X N scope c) rfl rfl rfl hc i _ s5 (Y5 f σ) H5 _ I5 (fpX fr5) st5 stop) fun r s6 ⟨hr,I6⟩=>?_
   subst hr;obtain⟨m6,hn6,_⟩:=id I6.loc;obtain⟨eD,nD,_⟩:=I6.pin (b9.heap.objs.size,Wc its k) (XJ _ (Xk.mpr rfl));have I7:Qu X Xbo σ (upd H5 b9.heap.objs.size (.lst ys)) s6:=(back I6).track nD I2.sz (YE I2.lt) cneD pneD ⟨hz5,its,k,rv5,eD⟩;refine hRR _ _ _ s6 m6 hn6 I7 (by rw[Q7 (YE sz3)];exact I6.free) (YE I3.lt) I3.sz (fun x d e=>?_) (fun p hp=>?_) (qn _ nD)
   ·obtain⟨v,z⟩:=I3.cell x d e
    exact Xr z.lt
   ·exact Xr (Xm (I3.pin p hp).1)
  ·refine QI (T.item (V0 X N scope c) rfl rfl rfl hc i _ s5 (Y5 f σ) H5 _ I5 (fpX fr5) st5 go) fun r s6 ⟨u,hr,h6⟩=>?_
   subst hr;refine QI h6 fun _ s7 ⟨x,H7,I7,r7,y7,st7,fr7⟩=>?_;have I7':=I7.pinned (fpX fr7) (T.obj _ _ st7);refine QI (hg c _ s7 (Y5 f σ) H7 x u _ I7' r7 ((ht c).keep _ _ _ _ (step x H7 y7))) fun _ s8 ⟨σ8,H8,I8,kp8,q8⟩=>?_
   have wk:∀(j:Nat) v,(Y5 f σ)[j]?=some (some v)->σ8[j]?=some (some v):=fun j v e=>by
    have ef:∃k,f[j]?=some (some k):=by
     have e':=e;unfold Y5 at e';rw[Xj]at e';cases q:f[j]? with
     |none=>rw[q]at e';cases e'
     |some o =>
       cases o with
       |none=>rw[q]at e';cases e'
       |some k=>exact⟨k,rfl⟩
    obtain⟨k,ef⟩:=ef;rw[kp8.2 j k ef];exact e
   have recs:∀{H9:Hp} {s9:Shared} {ob:Obj},Qu (V0 X N scope c) ([(b9.heap.objs.size,ob)]++Bq fp s7.heap) σ8 H9 s9->tn (i+1) s9.heap/\∀b∈fp,H9 b=none:=fun{H9 s9 ob} I9 =>
    ⟨T.keep _ _ _ st7 fun b hb o e=>(I9.pin (b,o) (XJ _ (XJ _ (Du hb e)))).1,fun b hb=>by
     obtain⟨o,e,d⟩:=T.obj _ _ st7 b hb
     exact(I9.pin (b,o) (XJ _ (XJ _ (Du hb e)))).2.1⟩
   refine QI (hcs c _ s8 σ8 H8 _ I8 q8) fun ok s9 ⟨H9,I9,q9⟩=>?_
   cases ok with
   |false =>
     obtain⟨m',hm,w9⟩:=(show ∃m',m'<n/\W (i+1) m' ys H9 from q9);obtain⟨z1,z2⟩:=recs I9
     exact⟨m',hm,i+1,H9,ys,its,k,(I9.unpinned).weak kp8.1.symm wk,rv5,hz5,z1,z2,w9⟩
   |true =>
     refine QI (he c _ s9 σ8 H9 _ I9 (show te c σ8 H9 _ from q9)) fun v s10 ⟨y,H10,I10,r10,hlen,m',hm,w10⟩=>?_;obtain⟨eD,nD,neD,nfD,dD⟩:=I10.pin (b9.heap.objs.size,Wc its k) (XJ _ (JF _ (Xk.mpr rfl)));obtain⟨z1,z2⟩:=recs I10;have lv:=rv5.length;refine call_meets F.slot_list_append ⟨_,eD,rfl⟩ F.entry_list_append (F.args_list_append_2 _ _) (PySem.list_append b9.heap.objs.size its.toArray k v (by rw[XF];omega)) ⟨eD,?_⟩;have q:=PySem.IsL.update eD (·.push v);have hf:its.toArray.push v=(its++[v]).toArray:=by simp
     rw[hf]at q;have I11:Qu (V0 X N scope c) [] σ8 H10 { s10 with heap:=s10.heap.update b9.heap.objs.size (Obj.mapSeq (·.push v)) } :=
      (I10.pins_of (pins':=[]) fun p hp=>Xi hp (by simp)).turned (t':=s10.toks) (it:=b9.heap.objs.size) (fun b o hb e=>(DW s10.heap (Obj.mapSeq (·.push v)) (Ne.symm hb)).trans e) nD neD (.inl Xc) (okX.exf _ Xc).2 fun p hp=>by
       have z:p∈(X.pn++Xbo)++[]:=hp;rw[X2]at z;exact pneD p z
     have I12:Qu (V0 X N scope c) [(b9.heap.objs.size,Wc (its++[v]) _)] σ8 H10 { s10 with heap:=s10.heap.update b9.heap.objs.size (Obj.mapSeq (·.push v)) } :=
      I11.pins_of fun p hp=>by
       have z:p=(b9.heap.objs.size,_):=Xk.mp hp;subst z;exact⟨q,nD,neD,nfD,fun v z=>nomatch (show Data.seq _ _=Data.cell v from z)⟩
     refine⟨m',hm,i+1,H10,ys++[y],its++[v],_,I12.weak kp8.1.symm wk,rv5.append (.cons r10 .nil),by rw[Xv,List.length_singleton];omega,?_,z2,w10⟩;exact T.keep _ _ _ z1 fun b hb o e=>(DW s10.heap (Obj.mapSeq (·.push v)) (fneD b hb).symm).trans e
 exact codeAny_compStart_list (loop _ (by rw[<- hs3])) (T.self _ 0 _ _ _ st1 (loop _ (by rw[<- hs3])))
def Yf {tg iter elt:Expr}{ifs:Qi}{scope:Scope}{pos:Pos}{NX:Qh}{sc:Scope}{N:Qh}{f:List (Option Nat)}{wi:TI}{g:CIn->TG}{tc:CIn->TT}{te:CIn->TE}
 (hc:X.calm=true) (ck:MF NX sc N f scope=true) (hNX:X.N=NX) (hsc:X.env.scope=sc) (hi:PI X tg iter wi)
 (hg:∀c,PG (V0 X N scope c) tg (g c)) (ht:∀c,TgOk f (g c)) (hcs:∀c,PCs (V0 X N scope c) ifs (tc c)) (he:∀c,PE (V0 X N scope c) elt (te c))
 (hs:∀x,foldedSetIterable iter X.env x=pure x:=by intro _;rfl):PE X (.ListComp elt [⟨tg,iter,ifs,0⟩] scope pos) (tLC f wi g tc te):=by
 subst hNX hsc;intro Xbo s σ H Q I h;have ck':=Ta ck;obtain⟨cl,hclos,hcl1,hcl2⟩:=TB (scope:=scope) (env:=X.env) fun p hp hf=>I.ok.has p.1 (ck'.free p hp hf);rw[eval_ListComp];refine wpAny_comprehension_free (use:=none) rfl hs hclos ck'.kind ck'.names (QI (hi Xbo s σ H _ I h) fun xv bj bv=>QI bv fun itv b9 bw=>?_);obtain⟨it,fp,tn,J,H2,e,I2,T,st,f2,hq⟩:=bw;subst e;refine Sk (RR:=fun acc C=>compPost (model X.prog X.w) X.A X.xe none (EP X Xbo σ Q) acc C) hc ck' hg ht hcs he I2 T st f2 hq hcl1 hcl2 ?_;intro acc C H' s' m' hn I' hC hL h0 h1 h2 q;exact⟨m',hn,fun h'' hs''=>⟨.ref acc,H',I'.turned (t':=s'.toks) (fun b o hb e=>(hs''.2 b hb).trans e) hC hL (.inr h0) h1 h2,rfl,q⟩⟩
def Y1 {i:Nat}{x:Str}{px spos:Pos}{tg iter elt:Expr}{ifs:Qi}{scope:Scope}{pos:Pos}{NX:Qh}{sc:Scope}{N:Qh}{f:List (Option Nat)}{wi:TI}{g:CIn->TG}{tc:CIn->TT}{te:CIn->TE}
 (hN:X.N.Nodup) (hix:X.N[i]?=some x) (hx:X.env.scope.names.lookup x=some .local)
 (hc:X.calm=true) (ck:MF NX sc N f scope=true) (hNX:X.N=NX) (hsc:X.env.scope=sc) (hi:PI X tg iter wi)
 (hg:∀c,PG (V0 X N scope c) tg (g c)) (ht:∀c,TgOk f (g c)) (hcs:∀c,PCs (V0 X N scope c) ifs (tc c)) (he:∀c,PE (V0 X N scope c) elt (te c))
 (hsw:swapsWith (.ListComp elt [⟨tg,iter,ifs,0⟩] scope pos) (some (.Name x px)) spos.line X.env=pure true)
 (hs:∀x,foldedSetIterable iter X.env x=pure x:=by intro _;rfl):PS X (.Assign [.Name x px] (.ListComp elt [⟨tg,iter,ifs,0⟩] scope pos) spos) (Wa (tLC f wi g tc te) (Jq i)):=by
 subst hNX hsc;intro Xbo s σ H D I h;have ck':=Ta ck;obtain⟨cl,hclos,hcl1,hcl2⟩:=TB (scope:=scope) (env:=X.env) fun p hp hf=>I.ok.has p.1 (ck'.free p hp hf);rw[exec_Assign_Name_used _ _ _ _ hsw];refine Xd (wpAny_standAt (Xd ?_));show wpAny _ X.A (do let _ <- comprehension (.ListComp elt [⟨tg,iter,ifs,0⟩] scope pos) scope X.env _ (newList []) false (eval iter X.env) (some (assign (.Name x px) X.env))) _ _ s
 refine Xd (wpAny_mono (wpAny_comprehension_free (use:=some (assign (.Name x px) X.env)) (Q:=fun _ s'=>SP X Xbo D .next s') rfl hs hclos ck'.kind ck'.names
  (QI (hi Xbo s σ H _ I h) fun xv bj bv=>QI bv fun itv b9 bw=>?_)) (fun _ s' hq=>Xu (Xu hq)) fun _ _ e=>e)
 obtain⟨it,fp,tn,J,H2,e,I2,T,st,f2,hq⟩:=bw;subst e;refine Sk (RR:=fun acc C=>compPost (model X.prog X.w) X.A X.xe (some (assign (.Name x px) X.env)) (fun _ s'=>SP X Xbo D .next s') acc C) hc ck' hg ht hcs he I2 T st f2 hq hcl1 hcl2 ?_;intro acc C H' s' m' hn I' hC hL h0 h1 h2 q;show wpAny _ X.A (assign (.Name x px) X.env (.ref acc)) _ _ _;refine wpAny_assign_Name (PK I' hN hix (.inl hx) (v:=.ref acc) rfl (fun s'' I'' ⟨a,sb,ha⟩=>?_) (.inr hx))
 have nC:C≠a:=by
  rcases ha with z|z
  ·rw[z];exact hL
  ·exact(h1 _ _ z).symm
 refine⟨m',hn.sameBut sb nC,fun h'' hs''=>?_⟩
 exact⟨_,H',I''.turned (t':=s''.toks) (fun b o hb e=>(hs''.2 b hb).trans e) hC hL (.inr h0) h1 h2,q⟩
end
section
variable {f:List (Option Nat)}{g:TG}{tc:TT}{te:TE}{σ:St}{Q:VK}{H1:Hp}{K:W.Frag}{a:Addr}{xs:List V}
end
mutual
inductive Rep (H:Hp):V->PyData->Prop
 |non:Rep H .non .none
 |bl (b:Bool):Rep H (.bl b) (.bool b)
 |int (i:Int):Rep H (.int i) (.int i)
 |str (x:Str):Rep H (.str x) (.str x)
 |lst {a:Addr} {xs:List V} {ds:Qd}:H a=some (.lst xs)->Q0 H xs ds->Rep H (.ref a) (.list ds)
 |tup {a:Addr} {xs:List V} {ds:Qd}:H a=some (.tup xs)->Q0 H xs ds->Rep H (.ref a) (.tuple ds)
 |dct {a:Addr}:H a=some (.dK [])->Rep H (.ref a) (.dict [])
inductive Q0 (H:Hp):List V->Qd->Prop
 |nil:Q0 H [] []
 |cons {x:V} {xs:List V} {d:PyData} {ds:Qd}:Rep H x d->Q0 H xs ds->Q0 H (x::xs) (d::ds)
end
mutual
theorem Rep.mono {H H':Hp}(s:QN H H'):∀{v:V} {d:PyData},Rep H v d->Rep H' v d
 |_,_,.non=>.non
 |_,_,.bl b=>.bl b
 |_,_,.int i=>.int i
 |_,_,.str x=>.str x
 |_,_,.lst h r=>.lst (s _ _ h) (Q0.mono s r)
 |_,_,.tup h r=>.tup (s _ _ h) (Q0.mono s r)
 |_,_,.dct h=>.dct (s _ _ h)
theorem Q0.mono {H H':Hp}(s:QN H H'):∀{vs:List V} {ds:Qd},Q0 H vs ds->Q0 H' vs ds
 |_,_,.nil=>.nil
 |_,_,.cons r t=>.cons (Rep.mono s r) (Q0.mono s t)
end
theorem Q0.length {H:Hp}:∀{vs:List V} {ds:Qd},Q0 H vs ds->vs.length=ds.length
 |_,_,.nil=>rfl
 |_,_,.cons _ t=>by simp[Q0.length t]
theorem Q0.get {H:Hp}:∀{vs:List V} {ds:Qd} {i:Nat} {d:PyData},Q0 H vs ds->ds[i]?=some d->∃v,vs[i]?=some v/\Rep H v d
 |_,_,_,_,.nil,e=>by simp at e
 |_,_,0,_,.cons r _,e=>by simp at e;subst e;exact⟨_,rfl,r⟩
 |_,_,i+1,d,.cons _ t,e=>by
   obtain⟨u,h1,h2⟩:=Q0.get (i:=i) (d:=d) t (by simpa using e)
   exact⟨u,by simpa using h1,h2⟩
theorem Q0.snoc {H:Hp}{v:V}{d:PyData}:∀{vs:List V} {ds:Qd},Q0 H vs ds->Rep H v d->Q0 H (vs++[v]) (ds++[d])
 |_,_,.nil,h=>.cons h .nil
 |_,_,.cons r t,h=>.cons r (Q0.snoc t h)
theorem Q0.append {H:Hp}:∀{vs ws:List V} {ds es:Qd},Q0 H vs ds->Q0 H ws es->Q0 H (vs++ws) (ds++es)
 |_,_,_,_,.nil,s=>s
 |_,_,_,_,.cons r t,s=>.cons r (Q0.append t s)
theorem Q0.set {H:Hp}{v:V}{d:PyData}(r:Rep H v d):∀{vs:List V} {ds:Qd} (i:Nat),Q0 H vs ds->Q0 H (vs.set i v) (ds.set i d)
 |_,_,_,.nil=>.nil
 |_,_,0,.cons _ t=>.cons r t
 |_,_,i+1,.cons q t=>.cons q (Q0.set r i t)
theorem Ul {H:Hp}:∀{vs:List V} {l:Ql},Q0 H vs (l.map PyData.int)->vs=l.map V.int
 |_,[],.nil=>rfl
 |_,i::l,.cons (.int _) t=>by rw[Xs,Ul t]
theorem Td {H:Hp}:∀(l:Ql),Q0 H (l.map V.int) (l.map PyData.int)
 |[]=>.nil
 |i::l=>.cons (.int i) (Td l)
section
variable {X:Cx}{Xbo:Qc}{σ:St}{H:Hp}{s:Shared}
mutual
theorem Rep.reads (I:Qu X Xbo σ H s):∀{v:V} {d:PyData} {u:Value},Rep H v d->QR v u->∃as,Reads s.heap u d as
 |_,_,_,.non,r=>by cases r;exact⟨_,.none⟩
 |_,_,_,.bl b,r=>by cases r;exact⟨_,.bool b⟩
 |_,_,_,.int i,r=>by obtain⟨t,rfl⟩:=r;exact⟨_,.int i t⟩
 |_,_,_,.str x,r=>by obtain⟨t,rfl⟩:=r;exact⟨_,.str x t⟩
 |_,_,_,.lst h q,r=>by
   cases r
   obtain⟨z,its,n,rv,e⟩:=I.hok _ _ h;obtain⟨as,ra⟩:=Q0.reads I q rv
   exact⟨_,.list e rfl rfl (by simpa using ra)⟩
 |_,_,_,.tup h q,r=>by
   cases r
   obtain⟨z,its,rv,o,e,c,n,dd⟩:=I.hok _ _ h;obtain⟨as,ra⟩:=Q0.reads I q rv
   exact⟨_,.tuple e c dd (by simpa using ra)⟩
 |_,_,_,.dct h,r=>by
   cases r
   obtain⟨z,y,vs,kv,ob,es,ep,e,c,dd,_,pr,_⟩:=I.hok _ _ h
   cases kv
   have ee:es.toList=[]:=List.eq_nil_of_length_eq_zero pr.length
   exact⟨_,.dict (kvs:=[]) e c.1 dd (by rw[ee];exact .nil) (by rw[ee];exact .nil)⟩
theorem Q0.reads (I:Qu X Xbo σ H s):∀{vs:List V} {ds:Qd} {us:Qe},Q0 H vs ds->Zf vs us->∃as,ReadsAll s.heap us ds as
 |_,_,_,.nil,r=>by cases r;exact⟨_,.nil⟩
 |_,_,_,.cons q t,r=>by
   cases r with
   |cons r1 r2 =>
     obtain⟨as,ra⟩:=Rep.reads I q r1;obtain⟨bs,rb⟩:=Q0.reads I t r2
     exact⟨_,.cons ra rb⟩
end
def Jk (d:PyData):Prop:=d.canLay0=true/\d.depth<=60
def Rn:R2:=fun x y H Q=>∃d e,Rep H x d/\Rep H y e/\Jk d/\Jk e/\Q (.bl (PyData.eqv d e)) H
def Mx (hu:X.A.units+64<cLine):OpR X (compareOp .Eq) Rn:=by
 intro Xbo s σ H x y v u Q I rx ry h;obtain⟨d,e,hd,he,fd,fe,q⟩:=h;obtain⟨as,ra⟩:=hd.reads I rx;obtain⟨bs,rb⟩:=he.reads I ry;refine SeqAt.compareEq_reads ra rb fd.1 fe.1 ?_ ⟨.bl (PyData.eqv d e),H,I,rfl,q⟩;have h1:=fd.2;have h2:min d.depth e.depth<=d.depth:=Nat.min_le_left _ _;omega
end
def Po {d:PyData}(f:Jk d):PyData.eqv d d=true:=SeqAt.eqv_refl d f.1
def Sf {α:Type}{xs:List α}{i:Int}{v:α}(h:atI xs i=some v):∃j:Nat,xs[j]?=some v/\ixN xs.length i=some j:=by
 unfold atI at h;cases e:ixN xs.length i with
 |none=>rw[e]at h;cases h
 |some j=>rw[e]at h;exact⟨j,h,rfl⟩
section
variable {X:Cx}
end
inductive TyN (H:Hp):V->String->Prop
 |non:TyN H .non "NoneType"
 |bl (b:Bool):TyN H (.bl b) "bool"
 |int (i:Int):TyN H (.int i) "int"
 |str (x:Str):TyN H (.str x) "str"
 |lst {a:Addr} {xs:List V}:H a=some (.lst xs)->TyN H (.ref a) "list"
 |tup {a:Addr} {xs:List V}:H a=some (.tup xs)->TyN H (.ref a) "tuple"
 |dct {a:Addr}:H a=some (.dK [])->TyN H (.ref a) "dict"
def tyD:PyData->String
 |.none => "NoneType"
 |.bool _ => "bool"
 |.int _ => "int"
 |.str _ => "str"
 |.list _ => "list"
 |.tuple _ => "tuple"
 |.dict _ => "dict"
def Rep.ty {H:Hp}{v:V}{d:PyData}(r:Rep H v d):TyN H v (tyD d):=by
 cases r with
 |non=>exact .non
 |bl b=>exact .bl b
 |int i=>exact .int i
 |str x=>exact .str x
 |lst h _=>exact .lst h
 |tup h _=>exact .tup h
 |dct h=>exact .dct h
def Wy (T c:String):Option Bool :=
 if c = "int" then some (T == "int" || T == "bool") else if c = "bool" then some (T == "bool") else if c = "list" then some (T == "list") else if c = "tuple" then some (T == "tuple") else if c = "str" then some (T == "str") else if c = "dict" then some (T == "dict") else none
def Cj {prog:Program} {w:World} {A:Around} {E:Qb} {s:Shared} {Q:Qb} {a:Addr} {o:Obj} {c:String} {b:Bool} (hx:s.heap.get? a=some o) (hc:o.cls=.type "list") (e:Wy "list" c=some b) (h:∀t,Q (.bool b) { s with toks:=t }) :
 wpAny (model prog w) A (call (.builtin "isinstance") [.ref a,.type c]) Q E s:=by
 unfold Wy at e;split at e
 ·rename_i z;subst z;cases e;exact IsiPair.list_int hx hc (h _)
 ·split at e
  ·rename_i z;subst z;cases e;exact IsiPair.list_bool hx hc (h _)
  ·split at e
   ·rename_i z;subst z;cases e;exact IsiPair.list_list hx hc (h _)
   ·split at e
    ·rename_i z;subst z;cases e;exact IsiPair.list_tuple hx hc (h _)
    ·split at e
     ·rename_i z;subst z;cases e;exact IsiPair.list_str hx hc (h _)
     ·split at e
      ·rename_i z;subst z;cases e;exact IsiPair.list_dict hx hc (h _)
      ·cases e
def CB {prog:Program} {w:World} {A:Around} {E:Qb} {s:Shared} {Q:Qb} {a:Addr} {o:Obj} {c:String} {b:Bool} (hx:s.heap.get? a=some o) (hc:o.cls=.type "tuple") (e:Wy "tuple" c=some b) (h:∀t,Q (.bool b) { s with toks:=t }) :
 wpAny (model prog w) A (call (.builtin "isinstance") [.ref a,.type c]) Q E s:=by
 unfold Wy at e;split at e
 ·rename_i z;subst z;cases e;exact IsiPair.tuple_int hx hc (h _)
 ·split at e
  ·rename_i z;subst z;cases e;exact IsiPair.tuple_bool hx hc (h _)
  ·split at e
   ·rename_i z;subst z;cases e;exact IsiPair.tuple_list hx hc (h _)
   ·split at e
    ·rename_i z;subst z;cases e;exact IsiPair.tuple_tuple hx hc (h _)
    ·split at e
     ·rename_i z;subst z;cases e;exact IsiPair.tuple_str hx hc (h _)
     ·split at e
      ·rename_i z;subst z;cases e;exact IsiPair.tuple_dict hx hc (h _)
      ·cases e
def CT {prog:Program} {w:World} {A:Around} {E:Qb} {s:Shared} {Q:Qb} {a:Addr} {o:Obj} {c:String} {b:Bool} (hx:s.heap.get? a=some o) (hc:o.cls=.type "dict") (e:Wy "dict" c=some b) (h:∀t,Q (.bool b) { s with toks:=t }) :
 wpAny (model prog w) A (call (.builtin "isinstance") [.ref a,.type c]) Q E s:=by
 unfold Wy at e;split at e
 ·rename_i z;subst z;cases e;exact IsiPair.dict_int hx hc (h _)
 ·split at e
  ·rename_i z;subst z;cases e;exact IsiPair.dict_bool hx hc (h _)
  ·split at e
   ·rename_i z;subst z;cases e;exact IsiPair.dict_list hx hc (h _)
   ·split at e
    ·rename_i z;subst z;cases e;exact IsiPair.dict_tuple hx hc (h _)
    ·split at e
     ·rename_i z;subst z;cases e;exact IsiPair.dict_str hx hc (h _)
     ·split at e
      ·rename_i z;subst z;cases e;exact IsiPair.dict_dict hx hc (h _)
      ·cases e
def AQ {prog:Program}{w:World}{A:Around}{E:Qb}{s:Shared}{Q:Qb}{H:Hp}{x:V}{u:Value}{T c:String}{b:Bool}(ty:TyN H x T)(rx:QR x u)(hf:∀a,x≠.ref a)(e:Wy T c=some b)(h:∀t,Q (.bool b) { s with toks:=t }) :
 wpAny (model prog w) A (call (.builtin "isinstance") [u,.type c]) Q E s:=by
 unfold Wy at e;split at e
 ·rename_i z;subst z;cases e
  cases ty with
  |non=>cases rx;exact IsiPair.NoneType_int (h _)
  |bl b=>cases rx;exact IsiPair.bool_int (h _)
  |int i=>obtain⟨t,rfl⟩:=rx;exact IsiPair.int_int (h _)
  |str i=>obtain⟨t,rfl⟩:=rx;exact IsiPair.str_int (h _)
  |lst _=>exact Xi rfl (hf _)
  |tup _=>exact Xi rfl (hf _)
  |dct _=>exact Xi rfl (hf _)
 ·split at e
  ·rename_i z;subst z;cases e
   cases ty with
   |non=>cases rx;exact IsiPair.NoneType_bool (h _)
   |bl b=>cases rx;exact IsiPair.bool_bool (h _)
   |int i=>obtain⟨t,rfl⟩:=rx;exact IsiPair.int_bool (h _)
   |str i=>obtain⟨t,rfl⟩:=rx;exact IsiPair.str_bool (h _)
   |lst _=>exact Xi rfl (hf _)
   |tup _=>exact Xi rfl (hf _)
   |dct _=>exact Xi rfl (hf _)
  ·split at e
   ·rename_i z;subst z;cases e
    cases ty with
    |non=>cases rx;exact IsiPair.NoneType_list (h _)
    |bl b=>cases rx;exact IsiPair.bool_list (h _)
    |int i=>obtain⟨t,rfl⟩:=rx;exact IsiPair.int_list (h _)
    |str i=>obtain⟨t,rfl⟩:=rx;exact IsiPair.str_list (h _)
    |lst _=>exact Xi rfl (hf _)
    |tup _=>exact Xi rfl (hf _)
    |dct _=>exact Xi rfl (hf _)
   ·split at e
    ·rename_i z;subst z;cases e
     cases ty with
     |non=>cases rx;exact IsiPair.NoneType_tuple (h _)
     |bl b=>cases rx;exact IsiPair.bool_tuple (h _)
     |int i=>obtain⟨t,rfl⟩:=rx;exact IsiPair.int_tuple (h _)
     |str i=>obtain⟨t,rfl⟩:=rx;exact IsiPair.str_tuple (h _)
     |lst _=>exact Xi rfl (hf _)
     |tup _=>exact Xi rfl (hf _)
     |dct _=>exact Xi rfl (hf _)
    ·split at e
     ·rename_i z;subst z;cases e
      cases ty with
      |non=>cases rx;exact IsiPair.NoneType_str (h _)
      |bl b=>cases rx;exact IsiPair.bool_str (h _)
      |int i=>obtain⟨t,rfl⟩:=rx;exact IsiPair.int_str (h _)
      |str i=>obtain⟨t,rfl⟩:=rx;exact IsiPair.str_str (h _)
      |lst _=>exact Xi rfl (hf _)
      |tup _=>exact Xi rfl (hf _)
      |dct _=>exact Xi rfl (hf _)
     ·split at e
      ·rename_i z;subst z;cases e
       cases ty with
       |non=>cases rx;exact IsiPair.NoneType_dict (h _)
       |bl b=>cases rx;exact IsiPair.bool_dict (h _)
       |int i=>obtain⟨t,rfl⟩:=rx;exact IsiPair.int_dict (h _)
       |str i=>obtain⟨t,rfl⟩:=rx;exact IsiPair.str_dict (h _)
       |lst _=>exact Xi rfl (hf _)
       |tup _=>exact Xi rfl (hf _)
       |dct _=>exact Xi rfl (hf _)
      ·cases e
section
variable {X:Cx}
def Ap:Vu X (.builtin "isinstance") (fun xs H Q=>∃x T c b,xs=[x,.ty c]/\TyN H x T/\Wy T c=some b/\Q (.bl b) H):=by
 intro Xbo s σ H xs us Q I r h;obtain⟨x,T,c,b,rfl,ty,e,q⟩:=h;obtain⟨u,w',rfl,rx,rc⟩:=Bf r
 cases (show w'=Value.type c from rc)
 have fin:∀t,EP X Xbo σ Q (.bool b) { s with toks:=t }:=fun t=>⟨.bl b,H,I.tok t,rfl,q⟩
 by_cases hf:∀a,x≠.ref a
 ·exact AQ ty rx hf e fin
 ·cases ty with
  |lst ha =>
    cases rx
    obtain⟨z,its,n,rv,e1⟩:=I.hok _ _ ha;exact Cj e1 rfl e fin
  |tup ha =>
    cases rx
    obtain⟨z,its,rv,o,e1,c1,n,dd⟩:=I.hok _ _ ha;exact CB e1 c1 e fin
  |dct ha =>
    cases rx
    obtain⟨z,y,vs,kv,ob,es,ep,e1,c1,_⟩:=I.hok _ _ ha;exact CT e1 c1.1 e fin
  |_=>exact Xi (fun a z=>nomatch z) hf
def W5 (_ j:Int):Prop:=0<j/\j<2^8000
def C7 {j:Int}(h:W5 0 j):j.natAbs.log2<9000:=by
 have h0:j.natAbs≠0:=by have:=h.1;omega
 have h1:j.natAbs<2^8000:=by have:=h.2;have:=h.1;omega
 have:=(Nat.log2_lt h0).mpr h1
 omega
def Vl:OpR X (binaryOp .FloorDiv) (rI W5 fun i j=>.int (i/j)):=opI fun i j _ _ _ _ _ hc q=>by
 have e:i.fdiv j=i/j:=Int.fdiv_eq_ediv_of_nonneg _ (Int.le_of_lt hc.1);refine floordiv_int (Int.ne_of_gt hc.1) ?_ (.inl (PyProof.noPylong_of_log2 (C7 hc)));rw[e];exact q
def NW (i j:Int):Prop:=0<=j/\(Builtin.Int.intBits i:Int)+j<=2^27
def C5:OpR X (binaryOp .LShift) (rI NW fun i j=>.int (i*2^j.toNat)):=opI fun _ _ _ _ _ _ _ hc q=>lshift_int hc.1 hc.2 q
def YA:OpR X (binaryOp .Mult) (rI IntMulOk fun i j=>.int (i*j)):=opI fun _ _ _ _ _ _ _ hc q=>mul_int q hc
def Cs:MtR X "int.bit_length" (fun x xs H Q=>∃i,x=.int i/\xs=[]/\Q (.int (Builtin.Int.intBits i)) H):=by
 intro Xbo s σ H x xs v us Q I rx rv h;obtain⟨i,rfl,rfl,q⟩:=h;obtain⟨t,rfl⟩:=rx
 cases rv
 exact call_givesAt F.slot_int_bit_length (typeIs_int s i t) F.entry_int_bit_length (F.args_int_bit_length_1 _) (Gives.at (P:=fun _=>True) (AutoIntG2.int_bit_length_int_0 i t)) trivial (show EP X Xbo σ Q _ _ from⟨.int (Builtin.Int.intBits i),H,I.tok _,⟨_,rfl⟩,q⟩)
end
def QN.upd {H H':Hp}{a:Addr}{o:HO}(s:QN H H')(h:H a=none):QN H (L2.upd H' a o):=fun b u e=>by
 rw[Q7 (Vd e h)];exact s b u e
def QN.new {H:Hp}{a:Addr}{o:HO}(h:H a=none):QN H (L2.upd H a o):=(QN.refl H).upd h
end L2
end
section
namespace Att
open PySem PySem.W PySem.Calls PyProof.Rows
theorem TD:∀(ns:Ql) (i:Int),i∈ns->Builtin.Int.intBits i<=WData.weightAll (ns.map WData.int)
 |[],i,h=>by simp at h
 |n::ns,i,h=>by
   rw[Xs,WData.weightAll];rcases Xg.mp h with rfl|h
   ·have:WData.weight (.int i)=Builtin.Int.intBits i:=by rw[WData.weight];rfl
    omega
   ·have:=TD ns i h
    omega
def CL {ns:Ql}(h:WData.layableAll [WData.list (ns.map WData.int)]=true):∀i∈ns,Builtin.Int.intBits i<=2^20:=fun i hi=>by
 have h1:=layableW_arg h (WData.list (ns.map WData.int)) (Xk.mpr rfl);obtain⟨_,_,h2⟩:=layableW_iff.mp h1;rw[WData.weight]at h2;exact XI (TD ns i hi) h2
def attach_callW {l:OpenLaw}{n:Nat}{q:Program}{loose:Qh}{XP:(Str->Qf)->Heap->Prop}{YP:World->Heap->Prop}{d:DefRec}
 (hn:l.most=some n) (hdf:d.params.defaults=[])
 (call:∀(w:World) (s₀ bj:Shared) (mg mb:Str->Qf) (fa:Addr) (o:Obj) (pm cd doc:Value) (a:Addr) (vs:Qe) (ns:Ql),
  Ground q loose [] XP w s₀ mg mb bj.heap->YP w bj.heap ->
  bj.heap.get? fa=some o->o.data=.func (docDef d.name d.params d.body d.scope pm cd doc)->bj.heap.CodeRec cd d.name->mg d.name=some (.ref fa) ->
  bj.heap.get? a=some { cls:=.type "list",data:=.seq vs.toArray }->IntsAre vs ns->ns.length<=n->(∀i∈ns,Builtin.Int.intBits i<=2^20)->bj.gens=#[] ->
  codeAny (model l.prog w) callerA (.call (.ref fa) ⟨[.ref a],[]⟩) (fun r s'=>r=.ok (.ret (.bool true))/\OldK bj.heap s'.heap/\s'.os=bj.os/\AllBare s'.gens) bj) :
 WalkO q loose XP YP l.row.toRowW d [] (fun f vs=>PySem.call f vs):=by
 intro w s₀ bj mg mb G Y fa o pm cd doc dV kV ho hd hcd hD hmg hg args vals as hpre hlay hrd hwl hlo;obtain rfl:dV=.none:=Dflts.none hD hdf
 obtain rfl:kV=.none:=Dflts.noKw hD;obtain⟨a,vs,ns,rfl,rfl,hobj,hints,hlen⟩:=IB hn hpre hwl;refine enter_call (codeAny_mono (call w s₀ bj mg mb fa o pm cd doc a vs ns G Y ho (fd_plain hd) hcd hmg hobj hints hlen (CL hlay) hg) fun r s' hq=>?_)
 obtain⟨rfl,h2,h3,h4⟩:=hq
 exact⟨.inl ⟨.bool true,.bool true,[],rfl,fun _=>rfl,.bool true,Iv l _,fun _=>⟨List.Pairwise.nil,fun _ hm=>(nomatch hm)⟩⟩,h2,h3,h4⟩
end Att
namespace L2
open PySem PySem.Spec PyProof.Rows
structure Scr (K:W.Frag)(H:Hp)(a:Addr)(ns:Ql):Prop where
 sq:SqL K H a (ns.map V.int)
 len:ns.length<=63
 bits:∀i∈ns,Builtin.Int.intBits i<=2^20
def Scr.mono {K:W.Frag}{H H':Hp}{a:Addr}{ns:Ql}(h:Scr K H a ns)(s:QN H H'):Scr K H' a ns:=⟨s.seq h.sq,h.len,h.bits⟩
structure Df (K:W.Frag)(mg:Str->Qf)(x:Str)(st:Stmt)(ps:Qh):Prop where
 ex:∃f fd,Fun K x x st f fd/\mg x=some (.ref f)/\YL K fd ps []
def Qy (P:Program)(w:World)(K:W.Frag)(mg:Str->Qf)(base:Heap)(x:Str)(ps:Qh)(k:Nat)(sp:Sp):Prop :=
 ∃f fd,mg x=some (.ref f)/\W.keepIn K (.ref f)=true/\YL K fd ps []/\FnOk P w K mg base CX0 k f fd ps sp
def Df.cal {P:Program}{w:World}{K:W.Frag}{mg:Str->Qf}{base:Heap}{x:Str}{st:Stmt}{N ps:Qh}{k:Nat}{sp:Sp}(D:Df K mg x st ps)(S:Qq N ps (Q8 st))(len:∀vs H Q E,sp vs H Q E->vs.length=ps.length)
 (Xbp:∀(f:Addr) (cdv:Value) (A:Around) (outer:List Env) (s:Shared) (H:Hp) (vs:List V) (Q:VK) (E:XK),Room k (A.deeper (envOfC x (Q8 st) s.heap.objs.size f cdv))->sp vs H Q E ->
  ∃t,PSs (Ya CX0 P w K mg base N x (Q8 st) f cdv A outer s H E).nox (Vc st) t/\t { nx:=fun _ H'=>Q .non H',rt:=Q } (start N vs) H):Qy P w K mg base x ps (k+1) sp:=by
 obtain⟨f,fd,F,hm,hb⟩:=D.ex
 exact⟨f,fd,hm,F.kp,hb,F.ok S len fun cdv A outer s H vs Q E hr h=>Xbp f cdv A outer s H vs Q E hr h⟩
section
variable {X:Cx}
def QH {x:Str}{p pos:Pos}{e:Expr}{es:Qi}{t:TA}{ps:Qh}{j k:Nat}{sp:Sp}(C:Qy X.prog X.w X.K X.mg X.base x ps j sp)(hr:Room k X.A)(ha:PA X (e::es) t)(hj:j<=k:=by walk_at"j")(hg:Gl X x:=by rfl)
 (hdb:(x==("__debug__" : Str))=false:=by decide +kernel)
 (he:starEach (e::es) X.env=(false,eval e X.env)::starEach es X.env:=by rfl) (hpl:(backTo pos (starEach es X.env)).any (·.1)=false:=by rfl):PE X (.Call (.Name x p) (e::es) [] pos) (Wz sp [] E0 t):=by
 obtain⟨f,fd,hm,hk,hb,F⟩:=C;exact Aj F (hr.mono hj) hg hm hk hb .nil Ht ha hdb he hpl
end
def M3:bootBuiltins "abs"=some (.builtin "abs"):=by decide +kernel
def Yk:bootBuiltins "len"=some (.builtin "len"):=by decide +kernel
def Si:bootBuiltins "max"=some (.builtin "max"):=by decide +kernel
def G5:bootBuiltins "min"=some (.builtin "min"):=by decide +kernel
def UI:bootBuiltins "sum"=some (.builtin "sum"):=by decide +kernel
def Ft:bootBuiltins "isinstance"=some (.builtin "isinstance"):=by decide +kernel
def Sc:bootBuiltins "int"=some (.type "int"):=by decide +kernel
def FA:bootBuiltins "bool"=some (.type "bool"):=by decide +kernel
def MQ:bootBuiltins "list"=some (.type "list"):=by decide +kernel
def Dh:bootBuiltins "tuple"=some (.type "tuple"):=by decide +kernel
mutual
theorem Rep.uniq {H:Hp}:∀{v:V} {d e:PyData},Rep H v d->Rep H v e->d=e
 |_,_,_,.non,.non=>rfl
 |_,_,_,.bl b,.bl _=>rfl
 |_,_,_,.int b,.int _=>rfl
 |_,_,_,.str b,.str _=>rfl
 |_,_,_,.lst h r,.lst h' r'=>by
   rw[h]at h';cases h';rw[Q0.uniq r r']
 |_,_,_,.tup h r,.tup h' r'=>by
   rw[h]at h';cases h';rw[Q0.uniq r r']
 |_,_,_,.lst h r,.tup h' r'=>by rw[h]at h';cases h'
 |_,_,_,.tup h r,.lst h' r'=>by rw[h]at h';cases h'
 |_,_,_,.dct h,.dct h'=>rfl
 |_,_,_,.lst h r,.dct h'=>by rw[h]at h';cases h'
 |_,_,_,.tup h r,.dct h'=>by rw[h]at h';cases h'
 |_,_,_,.dct h,.lst h' r'=>by rw[h]at h';cases h'
 |_,_,_,.dct h,.tup h' r'=>by rw[h]at h';cases h'
theorem Q0.uniq {H:Hp}:∀{vs:List V} {ds es:Qd},Q0 H vs ds->Q0 H vs es->ds=es
 |_,_,_,.nil,.nil=>rfl
 |_,_,_,.cons r t,.cons r' t'=>by rw[Rep.uniq r r',Q0.uniq t t']
end
section
variable {X:Cx}{tg:Expr}
end
section
variable {v:V}{ds:Qd}{g:TG}{tb:TS}{D:Ends}{σ:St}{H:Hp}
end
section
variable {f:List (Option Nat)}{g:TG}{tc:TT}{te:TE}{σ:St}{Q:VK}{H1:Hp}{v:V}{ds:Qd}
end
mutual
def noL:PyData->Bool
 |.none=>true
 |.bool _=>true
 |.int _=>true
 |.str _=>true
 |.list _=>false
 |.dict _=>false
 |.tuple ds=>noLs ds
def noLs:Qd->Bool
 |[]=>true
 |d::ds=>noL d&&noLs ds
end
mutual
theorem Rep.updL {H:Hp}{l:Addr}{us zs:List V}(hl:H l=some (.lst us)):∀{v:V} {d:PyData},noL d=true->Rep H v d->Rep (L2.upd H l (.lst zs)) v d
 |_,_,_,.non=>.non
 |_,_,_,.bl b=>.bl b
 |_,_,_,.int i=>.int i
 |_,_,_,.str x=>.str x
 |_,_,h,.lst _ _=>by simp[noL]at h
 |_,_,h,.tup ha r=>.tup (by rw[Q7 (Rz ha hl (by intro z;cases z))];exact ha) (Q0.updL hl (by simpa [noL] using h) r)
theorem Q0.updL {H:Hp}{l:Addr}{us zs:List V}(hl:H l=some (.lst us)):∀{vs:List V} {ds:Qd},noLs ds=true->Q0 H vs ds->Q0 (L2.upd H l (.lst zs)) vs ds
 |_,_,_,.nil=>.nil
 |_,_,h,.cons r t=>.cons (Rep.updL hl (by simp[noLs]at h;exact h.1) r) (Q0.updL hl (by simp[noLs]at h;exact h.2) t)
end
def TW (a b:Int):Builtin.Range.rangeSize a b (-1)=((a-b).toNat:Int):=by
 unfold Builtin.Range.rangeSize;simp only[show ¬((-1:Int) > 0) by decide,if_false,show(-(-1):Int)=1 from rfl,Int.ediv_one]
 split<;>omega
def Zky {a b:Int}(ha : -(2^62)<=a)(ha':a<2^62)(hb : -(2^62)<=b)(hb':b<2^62):Builtin.Range.small a b (-1)=true:=by
 unfold Builtin.Range.small;rw[TW];simp only[Builtin.Range.rangeFitsLong,JD,Bool.or_eq_true,decide_eq_true_eq,beq_iff_eq,show ¬((-1:Int) > 0) by decide,if_false];omega
def Hb (hi:Int)(n:Nat):It:=⟨fun i _=>i<n,fun i H x H'=>H'=H/\x=.int (hi-i),fun i _=>n<=i⟩
theorem Zlf {P:Program}{w:World}{K:W.Frag}{tg:Expr}(it:Addr)(hi:Int)(n:Nat):Turn P w K tg (Hb hi n) [it] it (fun i h=>IsRangeIter h it (hi+(i:Nat)*(-1)) ((n:Int)-(i:Nat)) (-1)) where
 mem:=by simp
 obj:=fun i h st b hb=>by
  have e:b=it:=by simpa using hb
  subst e;exact⟨_,st,fun v z=>by
   have z':Data.fields _=Data.cell v:=z
   cases z'⟩
 keep:=fun i h h' st k=>k it (by simp) _ st
 item:=by
  intro X hP hw hK hc i Xbo s σ H E I hf st hg;subst hP hw hK;obtain⟨f0,f1,f2,f3,f4,f5⟩:=hf it (by simp);have W:=Walks.range (prog:=X.prog) (w:=X.w) (I.ok.hd hc) it hi (-1) n;refine W.item i s _ _ hg st fun v h' tk hv st' kk=>?_;obtain⟨t,rfl⟩:=hv;have I1:Qu X Xbo σ H { s with heap:=h',toks:=tk }:=I.turned (fun b o hb e=>kk b o (by simpa using hb) e) f0 f1 f3 f4 f5;refine⟨_,rfl,Ml (s:={ s with heap:=h',toks:=tk }) (n := "range_iterator") st' rfl rfl (by decide) ⟨.int (hi-i),H,I1,⟨t,?_⟩,⟨rfl,rfl⟩,st',fun b hb=>(hf b hb).1⟩⟩;rw[show hi+(i:Int)*(-1)=hi-i by omega]
 done:=by
  intro X hP hw hK hc i Xbo s σ H E I hf st hg;subst hP hw hK;obtain⟨f0,f1,f2,f3,f4,f5⟩:=hf it (by simp);exact wpAny_pyNext_range_end (I.ok.hd hc) st (by have:n<=i:=hg;omega) fun h' eb=>⟨rfl,I.turned (t':=s.toks) (fun b o hb e=>eb b o hb e) f0 f1 f3 f4 f5⟩
 self:=fun _ _ _ _ _ st h=>wpAny_pyIter_rangeiter st h
section
variable {X:Cx}{tg:Expr}
def Oc {Xbo:Qc}{σ:St}{H:Hp}{s:Shared}{R:It->Hp->Prop}{E:Qb}{lo hi:Int}{t u v:Tok}{tk:Nat}(I:Qu X Xbo σ H s)(h1 : -(2^62)<=hi)(h2:hi<2^62)(h3 : -(2^62)<=lo)(h4:lo<2^62)
 (q:R (Hb hi (hi-lo).toNat) H):wpAny (model X.prog X.w) X.A (pyIter (.ref s.heap.objs.size)) (PIE X Xbo σ tg R) E { s with heap:=s.heap.push { cls:=.type "range",data:=.fields #[.int hi t,.int lo u,.int (-1) v] },toks:=tk }:=by
 refine wpAny_pyIter_range (IsRange.new ..) (Zky h1 h2 h3 h4) ?_;have I1:Qu X Xbo σ H { s with heap:=s.heap.push { cls:=.type "range",data:=.fields #[.int hi t,.int lo u,.int (-1) v] },toks:=tk }:=I.kept fun b o e=>Xo _ e
 refine⟨(s.heap.push { cls:=.type "range",data:=.fields #[.int hi t,.int lo u,.int (-1) v] }).objs.size,[(s.heap.push { cls:=.type "range",data:=.fields #[.int hi t,.int lo u,.int (-1) v] }).objs.size],_,_,H,rfl,
  I1.kept (t':=tk) fun b o e=>Xo _ e,Zlf _ hi (hi-lo).toNat,?_,fun b hb=>?_,q⟩
 ·have e1:hi+((0:Nat):Int)*(-1)=hi:=by simp
  have e2:(((hi-lo).toNat:Nat):Int)-((0:Nat):Int)=Builtin.Range.rangeSize hi lo (-1):=by rw[TW];omega
  show IsRangeIter _ _ (hi+((0:Nat):Int)*(-1)) ((((hi-lo).toNat:Nat):Int)-((0:Nat):Int)) (-1);rw[e1,e2];exact XV _ rfl
 ·have e:b=(s.heap.push { cls:=.type "range",data:=.fields #[.int hi t,.int lo u,.int (-1) v] }).objs.size:=by simpa using hb
  subst e;exact I1.fpOk (Xx _) (I1.hok.fresh (Xx _))
def RA (ta:TA):TI:=fun σ H R=>ta σ H fun vs H1=>∃i j:Int,vs=[.int i,.int j,.int (-1)]/\(-(2^62)<=i/\i<2^62 /\ -(2^62)<=j/\j<2^62)/\R (Hb i (i-j).toNat) H1
def Ew {a b c:Expr} {ta:TA} {p pos:Pos} (hg:Gl X "range") (hm:X.mg "range"=none) (ha:PA X [a,b,c] ta) (hs:starEach [a,b,c] X.env=[(false,eval a X.env),(false,eval b X.env),(false,eval c X.env)]:=by rfl)
 (hs2:starEach [b,c] X.env=[(false,eval b X.env),(false,eval c X.env)]:=by rfl):PI X tg (.Call (.Name "range" p) [a,b,c] [] pos) (RA ta):=by
 intro Xbo s σ H R I h;refine Call_ (Jy I hg hm boot_range (PyProof.Rows.callWith_type1 (QI (ha pos Xbo s σ H _ I h) fun us s1 ⟨vs,H1,I1,r1,q1⟩=>?_) (by rw[hs,hs2]) (by rw[hs2];rfl)));obtain⟨i,j,e,⟨q1,q2,q3,q4⟩,q⟩:=q1;subst e;cases r1 with
 |cons r rr =>
   cases rr with
   |cons r' rr =>
     cases rr with
     |cons r2 rr =>
       cases rr
       obtain⟨t,rfl⟩:=r;obtain⟨t',rfl⟩:=r';obtain⟨t2,rfl⟩:=r2;exact call_range_3 (by decide) (Oc I1 q1 q2 q3 q4 q) (.inl (PyProof.noPylong_small (by decide)))
end
def Hy (K:W.Frag):V->V->Hp->VK->Prop:=fun o i H Q=>∃p xs k v,o=.ref p/\i=.int k/\SqL K H p xs/\0<=k/\xs[k.toNat]?=some v/\Q v H
def Zk1 (ns:Ql):preSum (fun i=>ns.getD i 0) ns.length=ns.sum:=by
 have key:∀k,k<=ns.length->preSum (fun i=>ns.getD i 0) k=(ns.take k).sum:=by
  intro k;induction k with
  |zero=>intro _;simp[preSum]
  |succ k ih =>
    intro hk;have h1:k<ns.length:=by omega
    rw[WB,GS,<- ih (by omega)];simp[preSum,h1]
 rw[key ns.length (Xx _),WE]
theorem MC:∀{vs:Qe} {ns:Ql} {i:Nat} {v:Value},IntsAre vs ns->vs[i]?=some v->∃t,v=.int (ns.getD i 0) t
 |_,_,_,_,.nil,e=>by simp at e
 |_,_,0,_,.cons n t h,e=>by simp at e;exact⟨t,by simp[<- e]⟩
 |_,_,i+1,v,.cons n t h,e=>by
   obtain⟨t',z⟩:=MC (i:=i) (v:=v) h (by simpa using e)
   exact⟨t',by simpa using z⟩
def Zj7 {prog:Program}{w:World}{A:Around}{E:Qb}{s:Shared}{l:Addr}{vs:Qe}{ns:Ql}{Q:Qb}(hh:A.handled=none)(hl:s.heap.IsList l vs.toArray)(hi:IntsAre vs ns)
 (h:∀h' tk t',(∀b o,s.heap.get? b=some o->h'.get? b=some o)->Q (.int ns.sum t') { s with heap:=h',toks:=tk }):wpAny (model prog w) A (call (.builtin "sum") [.ref l]) Q E s:=by
 obtain⟨o,ho,hc,n,hd⟩:=id hl;have hne:l≠s.heap.objs.size:=Xr (Xm ho);have W:=(Walks.list (prog:=prog) (w:=w) (A:=A.in1) hh s.heap.objs.size l hne vs.toArray).toS;refine call_sum_walkAnyS (wpAny_pyIter_list hl ?_);refine⟨s.heap.objs.size,_,_,_,_,_,_,fun i=>ns.getD i 0,rfl,W,⟨⟨_,XV _ rfl,rfl,rfl⟩,hl.at fun o e=>Xo _ e⟩,fun b hb=>?_,fun i v hP=>MC hi (by simpa using hP),fun s' t' hm=>?_⟩
 ·rcases Xg.mp hb with rfl|hb
  ·exact Xm (XV _ rfl)
  ·obtain rfl:=Xk.mp hb
   exact Xm (Xo _ ho)
 ·obtain⟨h',g',d',tk',os'⟩:=s'
  have e1:g'=s.gens:=hm.gens;have e2:d'=s.drawn:=hm.drawn;have e3:os'=s.os:=hm.os;subst e1 e2 e3;have es:vs.toArray.size=ns.length:=by rw[XF,hi.length]
  rw[es,Zk1];exact h h' tk' t' fun b o e=>hm.heap b o (fun hb=>Xi (Xm e) ((Xk.mp hb)▸YY _)) (Xo _ e)
section
variable {X:Cx}
def MX:Rb X (Hy X.K):=by
 intro Xbo s σ H o i ov iv Q I ro ri h;obtain⟨p,xs,k,v,rfl,rfl,hq,h0,hv,q⟩:=h
 cases ro
 obtain⟨t,rfl⟩:=ri;obtain⟨its,r,pl,hz⟩:=I.list hq;obtain⟨w,ew,rw'⟩:=r.get hv;have hl:=r.length;have hn:=UC;have hlt:k.toNat<xs.length:=(Xe.mp hv).1;exact wpAny_getItem_list pl.isList h0 (by omega) (by simpa using ew) ⟨v,H,I,rw',q⟩
def Oj:Vu X (.builtin "sum") (fun xs H Q=>X.calm=true/\∃(x:V) (ns:Ql),xs=[x]/\Rep H x (.list (ns.map PyData.int))/\Q (.int ns.sum) H):=by
 intro Xbo s σ H xs us Q I r h;obtain⟨hc,x,ns,rfl,hx,q⟩:=h;obtain⟨u,rfl,rx⟩:=WH r
 cases hx with
 |lst ha rr =>
   cases rx
   have er:=Ul rr;subst er;obtain⟨its,rv,p,hz⟩:=I.list (SqL.of (K:=X.K) ha);exact Zj7 (I.ok.hd hc) p.isList (BG rv) fun h' tk t' k=>⟨.int ns.sum,H,I.kept k,⟨_,rfl⟩,q⟩
end
section
variable {X:Cx}
end
def Qu.turnedL {X:Cx}{Xbo:Qc}{σ:St}{H:Hp}{s:Shared}{h':Heap}{t':Nat}{ch:Qg}(I:Qu X Xbo σ H s)(k:∀b o,b∉ch->s.heap.get? b=some o->h'.get? b=some o)(hch:∀b∈ch,Wb X Xbo H b):Qu X Xbo σ H { s with heap:=h',toks:=t' }:=by
 refine I.step (g':=s.gens) (d':=s.drawn) (ch:=ch) (fun b hb=>?_) (fun b o _ _ hc e _=>k b o hc e) (fun b o _ _ hc e _=>⟨o.slots,k b o hc e⟩) (fun _ _ _ _ n=>n)
  (fun b o hc e=>⟨o,k b o hc e⟩) (fun _ _ e=>e) (fun _ _ _ e=>e) (fun b ps e=>⟨#[],by rw[e];simp⟩) (fun m hm=>?_) (fun b u e=>?_) I.bare (fun b _ o hc _ e=>k b o hc e)
 ·obtain⟨f0,f1,f2,f3,f4,f5⟩:=hch b hb
  exact⟨f3,f1,f4,f5⟩
 ·obtain⟨o,es,ep,ho,r⟩:=hm
  exact⟨o,es,ep,k _ o (fun z=>(hch _ z).2.1 rfl) ho,r⟩
 ·refine(I.hok b u e).stay (fun c v hc q=>k c v (fun z=>?_) q) (fun _ q=>q) fun _ _ q=>q
  have hn:=(hch c z).1
  rcases hc with rfl|hc
  ·rw[hn]at e;cases e
  ·rw[hn]at hc;cases hc
def Qu.trackTup {X:Cx}{Xbo:Qc}{σ:St}{H:Hp}{s0 s:Shared}{T:Addr}{x y:V}{u v:Value}(I0:Qu X Xbo σ H s0)(I:Qu X Xbo σ H s)(hT:s0.heap.objs.size<=T)(rx:QR x u)(ry:QR y v)(tup:s.heap.IsTuple T #[u,v]):Qu X Xbo σ (upd H T (.tup [x,y])) s:=by
 refine I.track (I0.hok.fresh hT) (XI I0.sz hT) (YE (Xz I0.lt hT)) (fun z c e q=>?_) (fun p hp q=>?_) ⟨by show 2<=sizeLine;decide,[u,v],.cons rx (.cons ry .nil),tup⟩
 ·obtain⟨w,hw⟩:=I0.cell z c e
  exact Xi (Xz hw.lt (by rw[q];exact hT)) (YY _)
 ·exact Xi (Xz (Xm (I0.pin p hp).1) (by rw[q];exact hT)) (YY _)
def Itz (K:W.Frag)(a b:Addr):It :=
 ⟨fun i H=>∃xs ys x y,SqL K H a xs/\SqL K H b ys/\xs[i]?=some x/\ys[i]?=some y,
  fun i H v H'=>∃p x y,H p=none/\v=.ref p/\H'=upd H p (.tup [x,y])/\(∀xs,SqL K H a xs->xs[i]?=some x)/\∀ys,SqL K H b ys->ys[i]?=some y,
  fun i H=>∃xs ys,SqL K H a xs/\SqL K H b ys/\i=min xs.length ys.length⟩
def Ite (K:W.Frag)(a:Addr):It :=
 ⟨fun i H=>∃xs x,SqL K H a xs/\xs[i]?=some x,
  fun i H v H'=>∃p x,H p=none/\v=.ref p/\H'=upd H p (.tup [.int (i:Int),x])/\∀xs,SqL K H a xs->xs[i]?=some x,
  fun i H=>∃xs,SqL K H a xs/\i=xs.length⟩
theorem A2 {P:Program}{w:World}{K:W.Frag}{elts:Qi}{k:Nat}{pos:Pos}{z TI TO i1 i2 a b:Addr}(D:ZipApart z TI TO i1 i2 a b) :
 Turn P w K (.Tuple elts k pos) (Itz K a b) [z,TI,TO,i1,i2] z (fun i h=>IsZip h z TI TO .none/\IsPair h TI (.ref i1) (.ref i2)/\(∃p q,IsPair h TO p q)/\h.IsListIter i1 a i/\h.IsListIter i2 b i) where
 mem:=by simp
 obj:=fun i h st c hc=>by
  obtain⟨hz,hTI,⟨p,q,hTO⟩,⟨o1,e1,c1,d1⟩,o2,e2,c2,d2⟩:=st;simp only[Xg,XZ,or_false]at hc;rcases hc with rfl|rfl|rfl|rfl|rfl
  ·exact⟨_,hz,fun v z=>nomatch z⟩
  ·exact⟨_,hTI,fun v z=>nomatch z⟩
  ·exact⟨_,hTO,fun v z=>nomatch z⟩
  ·exact⟨_,e1,fun v z=>by rw[d1]at z;cases z⟩
  ·exact⟨_,e2,fun v z=>by rw[d2]at z;cases z⟩
 keep:=fun i h h' st kk=>by
  obtain⟨hz,hTI,⟨p,q,hTO⟩,h1,h2⟩:=st
  exact⟨kk z (by simp) _ hz,kk TI (by simp) _ hTI,⟨p,q,kk TO (by simp) _ hTO⟩,h1.at fun o e=>kk i1 (by simp) o e,h2.at fun o e=>kk i2 (by simp) o e⟩
 item:=by
  intro X hP hw hK hc i Xbo s σ H E I hf st hg;subst hP hw hK;obtain⟨xs,ys,x,y,hq1,hq2,hx,hy⟩:=hg;obtain⟨its1,rv1,p1,hz1⟩:=I.list hq1;obtain⟨its2,rv2,p2,hz2⟩:=I.list hq2;obtain⟨u1,hu1,ru1⟩:=rv1.get hx;obtain⟨u2,hu2,ru2⟩:=rv2.get hy;obtain⟨hz,hTI,hTO,h1,h2⟩:=st;have W:=WalksT.zip2 (prog:=X.prog) (w:=X.w) (A:=X.A) (I.ok.hd hc) z TI TO i1 i2 a b D its1.toArray its2.toArray;have l1:i<its1.length:=(Xe.mp hu1).1;have l2:i<its2.length:=(Xe.mp hu2).1
  have wr:∀c∈[z,TO,i1,i2],Wb X Xbo H c:=fun c hc=>hf c (by
   simp only[Xg,XZ,or_false]at hc ⊢;rcases hc with rfl|rfl|rfl|rfl<;>simp)
  refine W.item i s _ _ (by simp only[XF];omega) ⟨hz,hTI,hTO,h1,h2,p1.isList,p2.isList⟩ fun T vals h' tk pt hT tup mid kp=>?_;obtain⟨v1,v2,e1,e2,rfl⟩:=pt
  have ev1:v1=u1:=by
   have:its1[i]?=some v1:=by simpa using e1
   rw[hu1]at this;exact(Option.some.inj this).symm
  have ev2:v2=u2:=by
   have:its2[i]?=some v2:=by simpa using e2
   rw[hu2]at this;exact(Option.some.inj this).symm
  subst ev1 ev2;have I1:Qu X Xbo σ H { s with heap:=h',toks:=tk }:=I.turnedL kp wr;refine⟨.ref T,rfl,W.go elts k pos i T { s with heap:=h',toks:=tk } _ _ mid fun h'' st' kp2=>?_⟩;have I2:Qu X Xbo σ H { s with heap:=h'',toks:=tk }:=I1.turnedL (t':=tk) kp2 wr
  have tup2:h''.IsTuple T #[v1,v2]:=by
   obtain⟨o,ho,hcl,n,hd⟩:=tup
   exact⟨o,kp2 T o (W.apart i T h' mid) ho,hcl,n,hd⟩
  have I3:=I.trackTup I2 hT ru1 ru2 tup2;obtain⟨sz,sTI,sTO,s1,s2,_,_⟩:=st';refine⟨.ref T,_,I3,rfl,⟨T,x,y,I.hok.fresh hT,rfl,rfl,fun xs' h=>by rw[I.list_inj h hq1];exact hx,fun ys' h=>by rw[I.list_inj h hq2];exact hy⟩,⟨sz,sTI,sTO,s1,s2⟩,fun c hc'=>?_⟩
  have hlt:c<s.heap.objs.size:=by
   simp only[Xg,XZ,or_false]at hc';obtain⟨p,q,hTO⟩:=hTO
   rcases hc' with rfl|rfl|rfl|rfl|rfl
   ·exact Xm hz
   ·exact Xm hTI
   ·exact Xm hTO
   ·obtain⟨_,e,_⟩:=h1;exact Xm e
   ·obtain⟨_,e,_⟩:=h2;exact Xm e
  rw[Q7 (Xr (Xz hlt hT))];exact(hf c hc').1
 done:=by
  intro X hP hw hK hc i Xbo s σ H E I hf st hg;subst hP hw hK;obtain⟨xs,ys,hq1,hq2,rfl⟩:=hg;obtain⟨its1,rv1,p1,hz1⟩:=I.list hq1;obtain⟨its2,rv2,p2,hz2⟩:=I.list hq2;obtain⟨hz,hTI,hTO,h1,h2⟩:=st;have W:=WalksT.zip2 (prog:=X.prog) (w:=X.w) (A:=X.A) (I.ok.hd hc) z TI TO i1 i2 a b D its1.toArray its2.toArray
  have wr:∀c∈[z,TO,i1,i2],Wb X Xbo H c:=fun c hc=>hf c (by
   simp only[Xg,XZ,or_false]at hc ⊢;rcases hc with rfl|rfl|rfl|rfl<;>simp)
  have en:min xs.length ys.length=min its1.toArray.size its2.toArray.size:=by simp[rv1.length,rv2.length]
  refine W.done s _ _ (by rw[<- en];exact⟨hz,hTI,hTO,h1,h2,p1.isList,p2.isList⟩) fun h' tk kp=>⟨rfl,I.turnedL kp wr⟩
 self:=fun _ _ _ _ _ st h=>wpAny_pyIter_zip st.1 h
theorem IC {P:Program}{w:World}{K:W.Frag}{elts:Qi}{k:Nat}{pos:Pos}{e it a:Addr}(hei:e≠it)(hle:a≠e)(hli:a≠it) :
 Turn P w K (.Tuple elts k pos) (Ite K a) [e,it] e (fun i h=>(∃old,IsEnum h e it i old)/\h.IsListIter it a i) where
 mem:=by simp
 obj:=fun i h st c hc=>by
  obtain⟨⟨old,he⟩,o1,e1,c1,d1⟩:=st;simp only[Xg,XZ,or_false]at hc;rcases hc with rfl|rfl
  ·exact⟨_,he,fun v z=>nomatch z⟩
  ·exact⟨_,e1,fun v z=>by rw[d1]at z;cases z⟩
 keep:=fun i h h' st kk=>by
  obtain⟨⟨old,he⟩,h1⟩:=st
  exact⟨⟨old,kk e (by simp) _ he⟩,h1.at fun o x=>kk it (by simp) o x⟩
 item:=by
  intro X hP hw hK hc i Xbo s σ H E I hf st hg;subst hP hw hK;obtain⟨xs,x,hq1,hx⟩:=hg;obtain⟨its1,rv1,p1,hz1⟩:=I.list hq1;obtain⟨u1,hu1,ru1⟩:=rv1.get hx;obtain⟨he,h1⟩:=st;have W:=WalksT.enumerate (prog:=X.prog) (w:=X.w) (A:=X.A) (I.ok.hd hc) e it a hei hle hli its1.toArray;have l1:i<its1.length:=(Xe.mp hu1).1;have wr:∀c∈[e,it],Wb X Xbo H c:=hf;refine W.item i s _ _ (by simp only[XF];omega) ⟨he,h1,p1.isList⟩ fun T vals h' tk pt hT tup mid kp=>?_;obtain⟨t,v1,e1,rfl⟩:=pt
  have ev1:v1=u1:=by
   have:its1[i]?=some v1:=by simpa using e1
   rw[hu1]at this;exact(Option.some.inj this).symm
  subst ev1;have I1:Qu X Xbo σ H { s with heap:=h',toks:=tk }:=I.turnedL kp wr;refine⟨.ref T,rfl,W.go elts k pos i T { s with heap:=h',toks:=tk } _ _ mid fun h'' st' kp2=>?_⟩;have I2:Qu X Xbo σ H { s with heap:=h'',toks:=tk }:=I1.turnedL (t':=tk) kp2 wr
  have tup2:h''.IsTuple T #[.int (i:Int) t,v1]:=by
   obtain⟨o,ho,hcl,n,hd⟩:=tup
   exact⟨o,kp2 T o (W.apart i T h' mid) ho,hcl,n,hd⟩
  have I3:=I.trackTup I2 hT (x:=.int (i:Int)) ⟨t,rfl⟩ ru1 tup2;obtain⟨s1,s2,_⟩:=st';refine⟨.ref T,_,I3,rfl,⟨T,x,I.hok.fresh hT,rfl,rfl,fun xs' h=>by rw[I.list_inj h hq1];exact hx⟩,⟨s1,s2⟩,fun c hc'=>?_⟩
  have hlt:c<s.heap.objs.size:=by
   simp only[Xg,XZ,or_false]at hc';obtain⟨old,he⟩:=he
   rcases hc' with rfl|rfl
   ·exact Xm he
   ·obtain⟨_,z,_⟩:=h1;exact Xm z
  rw[Q7 (Xr (Xz hlt hT))];exact(hf c hc').1
 done:=by
  intro X hP hw hK hc i Xbo s σ H E I hf st hg;subst hP hw hK;obtain⟨xs,hq1,rfl⟩:=hg;obtain⟨its1,rv1,p1,hz1⟩:=I.list hq1;obtain⟨he,h1⟩:=st;have W:=WalksT.enumerate (prog:=X.prog) (w:=X.w) (A:=X.A) (I.ok.hd hc) e it a hei hle hli its1.toArray;have en:xs.length=its1.toArray.size:=by simp[rv1.length]
  refine W.done s _ _ (by rw[<- en];exact⟨he,h1,p1.isList⟩) fun h' tk kp=>⟨rfl,I.turnedL kp hf⟩
 self:=fun _ _ _ _ _ st h=>by
  obtain⟨⟨old,he⟩,_⟩:=st;exact wpAny_pyIter_enum he h
def LO {n x y:Nat}(hx:x<n)(hy:y<n):ZipApart (n+4) (n+2) (n+3) n (n+1) x y :=
 ⟨Xr (by omega),Xr (by omega),Xr (by omega),Xr (by omega),Xr (by omega),YE (by omega),YE (by omega),YE (by omega),YE (by omega),Xr (by omega),
  Xr (by omega),Xr (by omega),Xr (by omega),Xr (by omega),Xr (by omega),Xr (by omega),Xr (by omega),Xr (by omega)⟩
section
variable {X:Cx}
def Ri (K:W.Frag)(ta:TA):TI:=fun σ H R=>ta σ H fun vs H1=>∃a b,vs=[.ref a,.ref b]/\(∃xs,SqL K H1 a xs)/\(∃ys,SqL K H1 b ys)/\R (Itz K a b) H1
def RL (K:W.Frag)(ta:TA):TI:=fun σ H R=>ta σ H fun vs H1=>∃a,vs=[.ref a]/\(∃xs,SqL K H1 a xs)/\R (Ite K a) H1
def Ij:bootBuiltins "enumerate"=some (.type "enumerate"):=by decide +kernel
def T0:bootBuiltins "zip"=some (.type "zip"):=by decide +kernel
def UD {a b:Expr} {ta:TA} {p pos:Pos} {elts:Qi} {k:Nat} {tpos:Pos} (hg:Gl X "zip") (hm:X.mg "zip"=none) (ha:PA X [a,b] ta) (hs:starEach [a,b] X.env=[(false,eval a X.env),(false,eval b X.env)]:=by rfl) (hs2:starEach [b] X.env=[(false,eval b X.env)]:=by rfl) :
 PI X (.Tuple elts k tpos) (.Call (.Name "zip" p) [a,b] [] pos) (Ri X.K ta):=by
 intro Xbo s σ H R I h;refine Call_ (Jy I hg hm T0 (PyProof.Rows.callWith_type1 (QI (ha pos Xbo s σ H _ I h) fun us s1 ⟨vs,H1,I1,r1,q1⟩=>?_) (by rw[hs,hs2]) (by rw[hs2];rfl)));obtain⟨x,y,e,⟨xs,hx⟩,⟨ys,hy⟩,q⟩:=q1;subst e;obtain⟨u,v,rfl,rx,ry⟩:=Bf r1
 cases rx
 cases ry
 obtain⟨its1,rv1,p1,hz1⟩:=I1.list hx;obtain⟨its2,rv2,p2,hz2⟩:=I1.list hy;refine call_zip_2 p1.isList p2.isList fun h' hz hTI hTO h1 h2 hsz kp=>wpAny_pyIter_zip hz ?_;have lx:x<s1.heap.objs.size:=by obtain⟨o,ho,_⟩:=p1.isList;exact Xm ho
 have ly:y<s1.heap.objs.size:=by obtain⟨o,ho,_⟩:=p2.isList;exact Xm ho
 have I2:Qu X Xbo σ H1 { s1 with heap:=h' }:=I1.kept (t':=s1.toks) kp;refine⟨_,[s1.heap.objs.size+4,s1.heap.objs.size+2,s1.heap.objs.size+3,s1.heap.objs.size,s1.heap.objs.size+1],_,_,H1,rfl,I2,A2 (TI:=s1.heap.objs.size+2) (TO:=s1.heap.objs.size+3) (i1:=s1.heap.objs.size) (i2:=s1.heap.objs.size+1) (a:=x) (b:=y) ?_,⟨hz,hTI,⟨_,_,hTO⟩,h1,h2⟩,fun c hc=>?_,q⟩
 ·exact LO lx ly
 ·have hle:s1.heap.objs.size<=c:=by
   simp only[Xg,XZ,or_false]at hc;rcases hc with rfl|rfl|rfl|rfl|rfl
   ·exact BX _ _
   ·exact BX _ _
   ·exact BX _ _
   ·exact Xx _
   ·exact BX _ _
  exact I1.fpOk hle (I1.hok.fresh hle)
def GM {a:Expr} {ta:TA} {p pos:Pos} {elts:Qi} {k:Nat} {tpos:Pos} (hg:Gl X "enumerate") (hm:X.mg "enumerate"=none) (ha:PA X [a] ta) (hs:starEach [a] X.env=[(false,eval a X.env)]:=by rfl) :
 PI X (.Tuple elts k tpos) (.Call (.Name "enumerate" p) [a] [] pos) (RL X.K ta):=by
 intro Xbo s σ H R I h;refine Call_ (Jy I hg hm Ij (PyProof.Rows.callWith_type1 (QI (ha pos Xbo s σ H _ I h) fun us s1 ⟨vs,H1,I1,r1,q1⟩=>?_) hs rfl));obtain⟨x,e,⟨xs,hx⟩,q⟩:=q1;subst e;obtain⟨u,rfl,rx⟩:=WH r1
 cases rx
 obtain⟨its1,rv1,p1,hz1⟩:=I1.list hx;refine call_enumerate_list p1.isList fun h' he h1 hsz kp=>wpAny_pyIter_enum he ?_;have lx:x<s1.heap.objs.size:=by obtain⟨o,ho,_⟩:=p1.isList;exact Xm ho
 have I2:Qu X Xbo σ H1 { s1 with heap:=h' }:=I1.kept (t':=s1.toks) kp;refine⟨_,[s1.heap.objs.size+1,s1.heap.objs.size],_,_,H1,rfl,I2,IC (e:=s1.heap.objs.size+1) (it:=s1.heap.objs.size) (a:=x) (Nat.succ_ne_self _) (Xr (Nat.lt_succ_of_lt lx)) (Xr lx),⟨⟨_,he⟩,h1⟩,fun c hc=>?_,q⟩
 have hle:s1.heap.objs.size<=c:=by
  simp only[Xg,XZ,or_false]at hc;rcases hc with rfl|rfl
  ·exact BX _ _
  ·exact Xx _
 exact I1.fpOk hle (I1.hok.fresh hle)
end
def Cb {s:Shared}{h':Heap}{o:Obj}(hk:∀b x,b∉[s.heap.objs.size]->(s.heap.push o).get? b=some x->h'.get? b=some x):∀b x,s.heap.get? b=some x->h'.get? b=some x :=
 fun b x e=>hk b x (fun hm=>by rw[Xk.mp hm]at e;exact YY _ (Xm e)) (Xo _ e)
def YJ:Ql->Int
 |[]=>0
 |[a]=>a
 |a::b::r=>min a (YJ (b::r))
theorem KM:∀{ns:Ql},ns≠[]->YJ ns∈ns/\∀a∈ns,YJ ns<=a
 |[],h=>Xi rfl h
 |[a],_=>by simp[YJ]
 |a::b::r,_=>by
   obtain⟨h1,h2⟩:=KM (ns:=b::r) (by simp);simp only[YJ];refine⟨?_,fun c hc=>?_⟩
   ·by_cases h:a<=YJ (b::r)
    ·rw[Int.min_eq_left h];exact Xc
    ·rw[Int.min_eq_right (by omega)];exact Xf _ h1
   ·rcases Xg.mp hc with rfl|hc
    ·omega
    ·have:=h2 c hc
     omega
def F8 {ns:Ql}{M:Int}(h1:M∈ns)(h2:∀a∈ns,M<=a):M=YJ ns:=by
 obtain⟨g1,g2⟩:=KM (ns:=ns) (fun z=>by rw[z]at h1;cases h1)
 have:=h2 _ g1
 have:=g2 _ h1
 omega
section
variable {X:Cx}
def R3 (X:Cx):List V->Hp->VK->Prop:=fun xs H Q=>X.calm=true/\∃(x:V) (ns:Ql),xs=[x]/\Rep H x (.list (ns.map PyData.int))/\ns≠[]/\Q (.int (YJ ns)) H
def CH:Vu X (.builtin "min") (R3 X):=by
 intro Xbo s σ H xs us Q I r h;obtain⟨hc,x,ns,rfl,hx,hne,q⟩:=h;obtain⟨u,rfl,rx⟩:=WH r
 cases hx with
 |@lst l ys _ ha rr =>
   cases rx
   have er:=Ul rr;subst er;obtain⟨its,rv,p,hz⟩:=I.list (SqL.of (K:=X.K) ha);have hl:=p.isList;have hi:=BG rv;have hlen:its.length=ns.length:=hi.length;have hpos:0<ns.length:=DR.mpr hne;have hlt:l<s.heap.objs.size:=by obtain⟨_,e,_⟩:=hl;exact Xm e
   refine call_min_walk (wpAny_pyIter_list hl ?_)
   refine⟨s.heap.objs.size,[s.heap.objs.size,l],[s.heap.objs.size],its.toArray.size,_,_,_,rfl,Walks.list (A:=X.A.in1) (I.ok.hd hc) _ l (Xr hlt) its.toArray,
    ⟨⟨_,XV _ rfl,rfl,rfl⟩,hl.push _⟩,fun b hb=>?_,by simp only[XF];omega,CmpOf.ints_lt (fun i=>ns.getD i 0) (fun i v hP=>MC hi (by simpa using hP)),fun v h' tk hP hk=>?_⟩
   ·show b<(s.heap.push _).objs.size
    rw[Wv];rcases Xg.mp hb with rfl|hb
    ·exact Ge _
    ·rcases Xg.mp hb with rfl|hb
     ·exact Nat.lt_succ_of_lt hlt
     ·cases hb
   ·rw[List.getElem?_toArray]at hP
    obtain⟨t,rfl⟩:=MC hi hP;obtain⟨g1,g2⟩:=argBest_lt (fun i=>ns.getD i 0) (its.toArray.size-1);have hsz:its.toArray.size=its.length:=by simp
    generalize argBest (fun i j=>decide (ns.getD i 0<ns.getD j 0)) (its.toArray.size-1)=k at g1 g2 ⊢;rw[hsz]at g1 g2;have hk2:k<ns.length:=by omega
    have em:ns.getD k 0=YJ ns:=by
     refine F8 (by simp[hk2]) fun a ha'=>?_;obtain⟨j,hj,rfl⟩:=List.mem_iff_getElem.mp ha'
     have:=g2 j (by omega)
     simpa [hj,hk2] using this
    exact⟨.int (YJ ns),H,I.kept (Cb hk),⟨t,by rw[em]⟩,q⟩
end
end L2
end
namespace Mir
def Zt (ns:Ql)(k:Int):Int:=ns.getD k.toNat 0
def Rc (x:Int):Nat:=if x==0 then 0 else x.natAbs.log2+1
def ZgG (i:Int):Int:=if i<0 then -i else i
def mix (head k:Int):Nat->Int×Int×Int
 |0=>(head%2147483629+7919*k,69621*k+5,0)
 |i+1 =>
   ((((mix head k i).1*48271+11+(i:Int)*k)%2147483647),
    (((mix head k i).2.1*16807+((mix head k i).1*48271+11+(i:Int)*k)%2147483647)%2147483629),
    (mix head k i).2.2*2147483629+(((mix head k i).2.1*16807+((mix head k i).1*48271+11+(i:Int)*k)%2147483647)%2147483629*(((mix head k i).2.1*16807+((mix head k i).1*48271+11+(i:Int)*k)%2147483647)%2147483629)+((mix head k i).1*48271+11+(i:Int)*k)%2147483647)%2147483587)
def V1 (ns:Ql)(k:Int):Int :=
 if Zt ns 0/720%2=1 then (mix (Zt ns 0) k 30).2.2 else ZgG (Zt ns k)+(mix (Zt ns 0) k 30).2.2*2^Rc (ZgG (Zt ns k))
def GD (i:Int):0<=ZgG i:=by unfold ZgG;split<;>omega
theorem Dq (head k:Int):∀i,0<=(mix head k i).2.2/\(mix head k i).2.2<2147483629^i
 |0=>by simp[mix]
 |i+1=>by
   obtain⟨h1,h2⟩:=Dq head k i;have e:(2147483629:Int)^(i+1)=2147483629^i*2147483629:=Int.pow_succ ..;simp only[mix];generalize (((mix head k i).2.1*16807+((mix head k i).1*48271+11+(i:Int)*k)%2147483647)%2147483629*(((mix head k i).2.1*16807+((mix head k i).1*48271+11+(i:Int)*k)%2147483647)%2147483629)+((mix head k i).1*48271+11+(i:Int)*k)%2147483647)=q;rw[e];generalize (2147483629:Int)^i=M at h2 ⊢;generalize (mix head k i).2.2=t at h1 h2 ⊢;omega
def A0 (head k:Int):(mix head k 30).2.2<2^930:=by
 have h:=(Dq head k 30).2
 have:(2147483629:Int)^30<=2^930:=by decide +kernel
 omega
def Dl (ns:Ql)(k:Int):0<=V1 ns k:=by
 unfold V1;have h:=(Dq (Zt ns 0) k 30).1
 split
 ·exact h
 ·have h2:(0:Int)<=2^Rc (ZgG (Zt ns k)):=Int.pow_nonneg (by decide)
  have:=X0 h h2
  have:=GD (Zt ns k)
  omega
def VM (n:Int):Int×Int :=
 if n%8=0 then (0,n/8) else if n%8<6 then (n/8%10,n/8/10) else if n%8=6 then (n/8%100,n/8/100) else (n/8%10^30,n/8/10^30)
def UN {n:Int}(h:0<=n):0<=(VM n).1/\(VM n).1<10^30/\0<=(VM n).2:=by
 unfold VM;have e:(10:Int)^30=1000000000000000000000000000000:=by decide
 rw[e];split
 ·simp only;omega
 ·split
  ·simp only;omega
  ·split
   ·simp only;omega
   ·simp only;omega
def bnd (n:Int):Nat->Ql×Int
 |0=>([],n)
 |i+1=>((bnd n i).1++[(VM (bnd n i).2).1],(VM (bnd n i).2).2)
theorem W7 {n:Int}(h:0<=n):∀i,(bnd n i).1.length=i/\0<=(bnd n i).2/\∀b∈(bnd n i).1,0<=b/\b<10^30
 |0=>⟨rfl,h,by simp[bnd]⟩
 |i+1=>by
   obtain⟨h1,h2,h3⟩:=W7 h i;obtain⟨a1,a2,a3⟩:=UN h2;refine⟨by simp[bnd,h1],a3,fun b hb=>?_⟩;simp only[bnd,XC,Xk]at hb;rcases hb with hb|hb
   ·exact h3 b hb
   ·subst hb;exact⟨a1,a2⟩
structure Ln where
 up:Option Nat
 bs:Ql
structure Yd where
 T:Nat
 ls:List Ln
def Wj (ns:Ql)(T k:Nat):Ln :=
 if k=0 then ⟨none,(bnd (V1 ns (1+(k:Int))) T).1⟩ else ⟨some (V1 ns (1+(k:Int))%(k:Int)).toNat,(bnd (V1 ns (1+(k:Int))/(k:Int)) T).1⟩
def ZbK (ns:Ql):Nat:=(1+ZgG (Zt ns 0)%8).toNat
def ZdA (ns:Ql):Nat:=(1+ZgG (Zt ns 0)/8%5).toNat
def Wk (ns:Ql):Yd:=⟨ZbK ns,(List.range (ZdA ns)).map (Wj ns (ZbK ns))⟩
def QZ (y:Yd)(k:Nat):Option Nat:=(y.ls[k]?).bind (·.up)
structure Yd.Ok (y:Yd):Prop where
 t1:1<=y.T
 t8:y.T<=8
 l1:1<=y.ls.length
 l5:y.ls.length<=5
 up0:QZ y 0=none
 ups:∀k,0<k->k<y.ls.length->∃a,QZ y k=some a/\a<k
 bl:∀l∈y.ls,l.bs.length=y.T
 bb:∀l∈y.ls,∀b∈l.bs,0<=b/\b<10^300
def ME {b:Int}(h:b<10^30):b<10^300:=X5 h (by decide +kernel)
def TM (ns:Ql):1<=ZbK ns/\ZbK ns<=8:=by unfold ZbK;have:=GD (Zt ns 0);omega
def TV (ns:Ql):1<=ZdA ns/\ZdA ns<=5:=by unfold ZdA;have:=GD (Zt ns 0);omega
def IW (ns:Ql):(Wk ns).Ok:=by
 obtain⟨t1,t2⟩:=TM ns;obtain⟨c1,c2⟩:=TV ns;have bo:∀k,0<=V1 ns (1+(k:Int)):=fun k=>Dl _ _;refine⟨t1,t2,by simpa [Wk] using c1,by simpa [Wk] using c2,?_,fun k h0 hk=>?_,fun l hl=>?_,fun l hl=>?_⟩
 ·simp only[QZ,Wk,Xj]
  cases e:(List.range (ZdA ns))[0]? with
  |none=>rfl
  |some z =>
    have:z=0:=by
     have:=Xe.mp e
     obtain⟨h1,h2⟩:=this
     simpa using h2.symm
    subst this;simp[Wj]
 ·have hk':k<ZdA ns:=by simpa [Wk] using hk
  have e:(List.range (ZdA ns))[k]?=some k:=by simp[hk']
  refine⟨(V1 ns (1+(k:Int))%(k:Int)).toNat,?_,?_⟩
  ·simp only[QZ,Wk,Xj,e]
   simp[Wj,YE h0]
  ·have h1:(0:Int)<k:=by omega
   have:=GV (V1 ns (1+(k:Int))) h1
   have:=JB (V1 ns (1+(k:Int))) (Int.ne_of_gt h1)
   omega
 ·simp only[Wk,XD,Xn]at hl
  obtain⟨k,_,rfl⟩:=hl;unfold Wj;split
  ·exact(W7 (bo k) _).1
  ·exact(W7 (JA (bo k) (by omega)) _).1
 ·simp only[Wk,XD,Xn]at hl
  obtain⟨k,_,rfl⟩:=hl;unfold Wj;split
  ·exact fun b hb=>⟨((W7 (bo k) _).2.2 b hb).1,ME ((W7 (bo k) _).2.2 b hb).2⟩
  ·exact fun b hb=>⟨((W7 (JA (bo k) (by omega)) _).2.2 b hb).1,ME ((W7 (JA (bo k) (by omega)) _).2.2 b hb).2⟩
def E3 (ns:Ql):∀l∈(Wk ns).ls,∀b∈l.bs,b<10^30:=fun l hl b hb=>by
 have bo:∀k,0<=V1 ns (1+(k:Int)):=fun k=>Dl _ _;simp only[Wk,XD,Xn]at hl;obtain⟨k,_,rfl⟩:=hl;unfold Wj at hb;split at hb
 ·exact((W7 (bo k) _).2.2 b hb).2
 ·exact((W7 (JA (bo k) (by omega)) _).2.2 b hb).2
def upF9(y:Yd):Nat->Nat->Qk
 |0,k=>[k]
 |n+1,k=>k::match QZ y k with
  |none=>[]
  |some a=>if a<k then upF9 y n a else []
theorem upE9(y:Yd):∀n k m,k<=n->k<=m->upF9 y n k=upF9 y m k
 |0,k,0,_,_=>rfl
 |0,k,m+1,h,_=>by
  cases Nat.le_zero.mp h;unfold upF9;cases QZ y 0<;>simp
 |n+1,k,0,_,h=>by
  cases Nat.le_zero.mp h;unfold upF9;cases QZ y 0<;>simp
 |n+1,k,m+1,h,g=>by
  unfold upF9;cases QZ y k with
  |none=>rfl
  |some a=>
   by_cases l:a<k
   ·simp only[l,if_true,upE9 y n a m (by omega) (by omega)]
   ·simp only[l,if_false]
def upL(y:Yd)(k:Nat):Qk:=upF9 y k k
theorem upD9(y:Yd)(k:Nat):upL y k=k::match QZ y k with|none=>[]|some a=>if a<k then upL y a else []:=by
 unfold upL;rw[upE9 y k k (k+1) (Nat.le_refl _) (by omega)]
 show k::_=_
 cases QZ y k with
 |none=>rfl
 |some a=>
  by_cases l:a<k
  ·simp only[l,if_true,upE9 y k a a (by omega) (Nat.le_refl _)]
  ·simp only[l,if_false]
def Ki {y:Yd}(ok:y.Ok){k:Nat}(hk:k<y.ls.length):upL y k=if k=0 then [0] else k::upL y ((QZ y k).getD 0):=by
 rw[upD9];by_cases h0:k=0
 ·subst h0;simp[ok.up0]
 ·obtain⟨a,e,l⟩:=ok.ups k (by omega) hk
  simp[e,l,h0]
def G2 (y:Yd):∀k,∀j∈upL y k,j<=k:=by
 intro k;induction k using Nat.strongRecOn with
 |ind k ih =>
   intro j hj;rw[upD9]at hj;rcases Xg.mp hj with rfl|hj
   ·exact Xx _
   ·cases e:QZ y k with
    |none=>rw[e]at hj;simp at hj
    |some a =>
      rw[e]at hj;by_cases hl:a<k
      ·simp only[hl,if_true]at hj
       have:=ih a hl j hj
       omega
      ·simp only[hl,if_false]at hj;simp at hj
def B3 (y:Yd)(k:Nat):k∈upL y k:=by rw[upD9];exact Xc
def Bt {y:Yd}(ok:y.Ok){k:Nat}(h0:0<k)(hk:k<y.ls.length){a:Nat}(e:QZ y k=some a)(l:Nat)(hl:l≠k):l∈upL y k↔l∈upL y a:=by
 rw[Ki ok hk,Xa (by omega),e];simp only[Uu,Xg];constructor
 ·rintro(h|h)
  ·exact Xi h hl
  ·exact h
 ·exact .inr
def Ye (y:Yd)(l n:Nat):Qk:=((List.range n).map (l + ·)).filter (fun j=>decide (l∈upL y j))
def AD (y:Yd)(l:Nat):Ye y l 1=[l]:=by
 simp[Ye,Y3,B3]
def Th (y:Yd)(l n:Nat):Ye y l (n+1)=Ye y l n++(if l∈upL y (l+n) then [l+n] else []):=by
 simp only[Ye,Y3,XE,BU,Xs,JJ];by_cases h:l∈upL y (l+n)
 ·simp[h]
 ·simp[h]
def Pw {y:Yd}{l n j:Nat}:j∈Ye y l n↔l<=j/\j<l+n/\l∈upL y j:=by
 simp only[Ye,Y4,XD,Xn,decide_eq_true_eq];constructor
 ·rintro⟨⟨i,hi,rfl⟩,h⟩;exact⟨by omega,by omega,h⟩
 ·rintro⟨h1,h2,h3⟩;exact⟨⟨j-l,by omega,by omega⟩,h3⟩
def AL {y:Yd}(ok:y.Ok){l n a:Nat}(hn:1<=n)(hl:l+n<y.ls.length)(e:QZ y (l+n)=some a)(ha:a<l+n):a∈Ye y l n↔l∈upL y (l+n):=by
 rw[Pw,Bt ok (by omega) hl e l (by omega)];constructor
 ·exact fun h=>h.2.2
 ·intro h
  have:=G2 y a l h
  exact⟨this,ha,h⟩
end Mir
namespace Mir
structure Gs where
 line:Nat
 first:Nat
 last:Nat
 want:Int
 most:Int
structure Gs.Ok (y:Yd)(g:Gs):Prop where
 ln:g.line<y.ls.length
 fl:g.first<=g.last
 lt:g.last<y.T
 w1:1<=g.want
 w2:g.want<10^300
 m1:1<=g.most
 m2:g.most<10^300
def Ji (i:Int):Int:=if i > 1 then i else 1
def MP {i:Int}(h:i<10^30):1<=Ji i/\Ji i<10^30:=by
 have e:(10:Int)^30=1000000000000000000000000000000:=by decide
 rw[e]at h ⊢;unfold Ji;split<;>omega
def gn0 (ns:Ql)(k:Nat):Int:=V1 ns (6+(k:Int))
def gn1 (ns:Ql)(y:Yd)(k:Nat):Int:=gn0 ns k/(y.ls.length:Int)
def gn2 (ns:Ql)(y:Yd)(k:Nat):Int:=gn1 ns y k/(y.T:Int)
def gf (ns:Ql)(y:Yd)(k:Nat):Int:=gn1 ns y k%(y.T:Int)
def gl (ns:Ql)(y:Yd)(k:Nat):Int:=gf ns y k+gn2 ns y k%((y.T:Int)-gf ns y k)
def gn3 (ns:Ql)(y:Yd)(k:Nat):Int:=gn2 ns y k/((y.T:Int)-gf ns y k)
def WU (ns:Ql)(y:Yd)(k:Nat):Gs :=
 ⟨(gn0 ns k%(y.ls.length:Int)).toNat,(gf ns y k).toNat,(gl ns y k).toNat,Ji (VM (gn3 ns y k)).1,Ji (VM (VM (gn3 ns y k)).2).1⟩
def GI (ns:Ql):Nat:=(ZgG (Zt ns 0)/40%9).toNat
def Uh (ns:Ql)(y:Yd):List Gs:=(List.range (GI ns)).map (WU ns y)
def Mn {y:Yd}(ok:y.Ok)(ns:Ql)(k:Nat):0<=gf ns y k/\gf ns y k<y.T:=by
 have h:(0:Int)<(y.T:Int):=by have:=ok.t1;omega
 exact⟨JB _ (Int.ne_of_gt h),GV _ h⟩
def HJ {y:Yd}(ok:y.Ok)(ns:Ql)(k:Nat):0<=gn0 ns k/\0<=gn1 ns y k/\0<=gn2 ns y k/\0<=gn3 ns y k:=by
 have h0:=Dl ns (6+(k:Int));have h1:0<=gn1 ns y k:=JA h0 (by omega);have h2:0<=gn2 ns y k:=JA h1 (by omega);obtain⟨f0,f1⟩:=Mn ok ns k
 exact⟨h0,h1,h2,JA h2 (by omega)⟩
def R4 {y:Yd}(ok:y.Ok)(ns:Ql)(k:Nat):gf ns y k<=gl ns y k/\gl ns y k<y.T:=by
 obtain⟨f0,f1⟩:=Mn ok ns k;have h:(0:Int)<(y.T:Int)-gf ns y k:=by omega
 have a:=JB (gn2 ns y k) (Int.ne_of_gt h);have b:=GV (gn2 ns y k) h;unfold gl;omega
def O3 {y:Yd}(ok:y.Ok)(ns:Ql)(k:Nat):(WU ns y k).Ok y:=by
 obtain⟨f0,f1⟩:=Mn ok ns k;obtain⟨l0,l1⟩:=R4 ok ns k;obtain⟨n0,n1,n2,n3⟩:=HJ ok ns k;obtain⟨a1,a2,a3⟩:=UN n3;obtain⟨b1,b2,b3⟩:=UN a3;obtain⟨m1,m2⟩:=MP a2;obtain⟨m3,m4⟩:=MP b2;have hl:(0:Int)<(y.ls.length:Int):=by have:=ok.l1;omega
 have c1:=JB (gn0 ns k) (Int.ne_of_gt hl);have c2:=GV (gn0 ns k) hl;refine⟨?_,?_,?_,m1,ME m2,m3,ME m4⟩
 ·simp only[WU];omega
 ·simp only[WU];omega
 ·simp only[WU];omega
def OL {y:Yd}(ok:y.Ok)(ns:Ql)(k:Nat):(WU ns y k).want<10^30/\(WU ns y k).most<10^30:=by
 obtain⟨n0,n1,n2,n3⟩:=HJ ok ns k;obtain⟨a1,a2,a3⟩:=UN n3;obtain⟨b1,b2,b3⟩:=UN a3;obtain⟨m1,m2⟩:=MP a2;obtain⟨m3,m4⟩:=MP b2
 exact⟨m2,m4⟩
def Zk2 {y:Yd}(ok:y.Ok)(ns:Ql):∀g∈Uh ns y,g.Ok y:=fun g hg=>by
 simp only[Uh,XD,Xn]at hg;obtain⟨k,_,rfl⟩:=hg;exact O3 ok ns k
def ZkC {y:Yd}(ok:y.Ok)(ns:Ql):∀g∈Uh ns y,g.want<10^30/\g.most<10^30:=fun g hg=>by
 simp only[Uh,XD,Xn]at hg;obtain⟨k,_,rfl⟩:=hg;exact OL ok ns k
def Zj3 (ns:Ql)(y:Yd):(Uh ns y).length<=8:=by
 simp only[Uh,Xh,Jg,GI];have:=GD (Zt ns 0);omega
def ZH (g:Gs)(t:Int):Bool:=decide ((g.first:Int)<=t)&&decide (t<=(g.last:Int))
def Zi (y:Yd)(l:Nat)(t:Nat):Int:=(((y.ls[l]?).map (·.bs)).getD []).getD t 0
def Z7 (gs:List Gs)(t:Int)(l:Nat):Qk->Int
 |[]=>0
 |k::r=>(match gs[k]? with|some g=>if g.line=l/\ZH g t=true then g.most else 0|none=>0)+Z7 gs t l r
def D0 (gs:List Gs)(t:Int)(l:Nat)(a b:Qk):Z7 gs t l (a++b)=Z7 gs t l a+Z7 gs t l b:=by
 induction a with
 |nil=>simp[Z7]
 |cons k r ih=>simp only[Gd,Z7,ih];omega
def W1 (y:Yd)(b:Qn)(st:Qn)(j:Nat):Qn:=fun l=>st l+(if QZ y j=some l then min (st j) (b j) else 0)
def ZS (y:Yd)(b own:Qn):Nat->Qn
 |0=>own
 |i+1=>W1 y b (ZS y b own i) (y.ls.length-1-i)
def VI (y:Yd)(b own:Qn)(l:Nat):Int:=ZS y b own (y.ls.length-1) l
def ZK (y:Yd)(b own:Qn)(l:Nat):Int:=min (VI y b own l) (b l)
def J8 (y:Yd)(b own:Qn)(l:Nat):Qn
 |0=>0
 |n+1=>J8 y b own l n+(if QZ y (l+1+n)=some l then ZK y b own (l+1+n) else 0)
theorem TK (y:Yd)(ok:y.Ok)(b own:Qn)(l:Nat):∀i,i<=y.ls.length-1->y.ls.length-1-i<=l->∀d,i+d<=y.ls.length-1->ZS y b own (i+d) l=ZS y b own i l
 |i,hi,hl,0,_=>rfl
 |i,hi,hl,d+1,hd=>by
   have ih:=TK y ok b own l i hi hl d (by omega);show W1 y b (ZS y b own (i+d)) (y.ls.length-1-(i+d)) l=_;unfold W1;rw[ih];by_cases h0:0<y.ls.length-1-(i+d)
   ·obtain⟨a,ea,la⟩:=ok.ups (y.ls.length-1-(i+d)) h0 (by omega)
    rw[ea];have:¬some a=some l:=by
     intro z;injection z with z;omega
    rw[Xa this];omega
   ·have:y.ls.length-1-(i+d)=0:=by omega
    omega
def O1 {y:Yd}(ok:y.Ok)(b own:Qn){j:Nat}(hj:j<y.ls.length):ZS y b own (y.ls.length-1-j) j=VI y b own j:=by
 unfold VI;have:=TK y ok b own j (y.ls.length-1-j) (by omega) (by omega) j (by omega);rw[show y.ls.length-1-j+j=y.ls.length-1 by omega]at this;exact this.symm
theorem Tf {y:Yd}(ok:y.Ok)(b own:Qn)(l:Nat):∀i,i<=y.ls.length-1->ZS y b own i l+J8 y b own l (y.ls.length-1-i-l)=own l+J8 y b own l (y.ls.length-1-l)
 |0,_=>by simp[ZS]
 |i+1,hi=>by
   have ih:=Tf ok b own l i (by omega)
   have e:ZS y b own (i+1) l=ZS y b own i l+(if QZ y (y.ls.length-1-i)=some l then ZK y b own (y.ls.length-1-i) else 0):=by
    show W1 y b (ZS y b own i) (y.ls.length-1-i) l=_;unfold W1 ZK;have hj:y.ls.length-1-i<y.ls.length:=by have:=ok.l1;omega
    have rf:=O1 ok b own hj;rw[show y.ls.length-1-(y.ls.length-1-i)=i by omega]at rf;rw[rf]
   rw[e];by_cases hl:l<y.ls.length-1-i
   ·obtain⟨d,ed⟩:∃d,y.ls.length-1-i-l=d+1:=⟨y.ls.length-1-i-l-1,by omega⟩
    rw[ed]at ih;have e2:y.ls.length-1-(i+1)-l=d:=by omega
    rw[e2];have e3:l+1+d=y.ls.length-1-i:=by omega
    simp only[J8,e3]at ih;omega
   ·have e1:y.ls.length-1-i-l=0:=by omega
    have e2:y.ls.length-1-(i+1)-l=0:=by omega
    rw[e1]at ih;rw[e2];have:¬QZ y (y.ls.length-1-i)=some l:=by
     intro z;have h0:0<y.ls.length-1-i:=by omega
     obtain⟨a,ea,la⟩:=ok.ups (y.ls.length-1-i) h0 (by omega);rw[ea]at z;injection z with z;omega
    rw[Xa this];simp only[J8]at ih ⊢;omega
def AF {y:Yd}(ok:y.Ok)(b own:Qn)(l:Nat):VI y b own l=own l+J8 y b own l (y.ls.length-1-l):=by
 have h:=Tf ok b own l (y.ls.length-1) (Xx _);rw[show y.ls.length-1-(y.ls.length-1)-l=0 by omega]at h;simp only[J8]at h;unfold VI;omega
end Mir
namespace Mir
def Qv (f:Qn):Qn
 |0=>0
 |n+1=>Qv f n+f n
theorem Zq {f g:Qn}:∀{n:Nat},(∀k,k<n->f k=g k)->Qv f n=Qv g n
 |0,_=>rfl
 |n+1,h=>by
   simp only[Qv];rw[Zq (n:=n) fun k hk=>h k (by omega),h n (by omega)]
theorem VC {f g:Qn}:∀{n:Nat},(∀k,k<n->f k<=g k)->Qv f n<=Qv g n
 |0,_=>UY _
 |n+1,h=>by
   simp only[Qv];have:=VC (n:=n) fun k hk=>h k (by omega)
   have:=h n (by omega)
   omega
theorem Jd (f g:Qn):∀n,Qv (fun k=>f k+g k) n=Qv f n+Qv g n
 |0=>rfl
 |n+1=>by simp only[Qv];rw[Jd f g n];omega
theorem GG (c:Int)(f:Qn):∀n,Qv (fun k=>c*f k) n=c*Qv f n
 |0=>by simp[Qv]
 |n+1=>by simp only[Qv];rw[GG c f n,JH]
theorem VN:∀n,Qv (fun _=>0) n=0
 |0=>rfl
 |n+1=>by simp only[Qv];rw[VN n];rfl
theorem UK {a:Nat}{v:Int}:∀{n:Nat},Qv (fun l=>if l=a then v else 0) n=if a<n then v else 0
 |0=>by simp[Qv]
 |n+1=>by
   simp only[Qv];rw[UK (n:=n)]
   by_cases h:n=a
   ·subst h;simp
   ·by_cases h2:a<n
    ·simp[h,h2];omega
    ·have:¬a<n+1:=by omega
     simp[h,h2,this]
def MJ {f:Qn}{n:Nat}(h:∀k,k<n->0<=f k):0<=Qv f n:=by
 have:=VC (f:=fun _=>0) (g:=f) (n:=n) h
 rw[VN]at this;exact this
def VY (f:Qn)(n:Nat):((List.range n).map f).sum=Qv f n:=by
 induction n with
 |zero=>rfl
 |succ n ih=>rw[Y3,XE,GS,ih];simp[Qv]
theorem Nl {y:Yd}{b b' own own':Qn}(hb:∀l,b l<=b' l)(h:∀l,own l<=own' l):∀i l,ZS y b own i l<=ZS y b' own' i l
 |0,l=>h l
 |i+1,l=>by
   simp only[ZS,W1];have h1:=Nl (y:=y) hb h i l;have h2:=Nl (y:=y) hb h i (y.ls.length-1-i);have h3:=hb (y.ls.length-1-i)
   split<;>omega
def Zle {y:Yd}{b b' own own':Qn}(hb:∀l,b l<=b' l)(h:∀l,own l<=own' l)(l:Nat):ZK y b own l<=ZK y b' own' l:=by
 have h1:=Nl (y:=y) hb h (y.ls.length-1) l;have h2:=hb l;unfold ZK VI;omega
structure Quad (u n a b:Qn):Prop where
 q:∀l,n l<=a l/\n l<=b l/\a l<=u l/\b l<=u l/\u l+n l<=a l+b l
theorem NA {y:Yd}{c u n a b:Qn}(h:Quad u n a b):∀i,Quad (ZS y c u i) (ZS y c n i) (ZS y c a i) (ZS y c b i)
 |0=>h
 |i+1=>⟨fun l=>by
   have h1:=(NA (y:=y) (c:=c) h i).q l;have h2:=(NA (y:=y) (c:=c) h i).q (y.ls.length-1-i);simp only[ZS,W1];split
   ·omega
   ·omega⟩
def ZkO {y:Yd}{c u n a b:Qn}(h:Quad u n a b):ZK y c u 0+ZK y c n 0<=ZK y c a 0+ZK y c b 0:=by
 have:=(NA (y:=y) (c:=c) h (y.ls.length-1)).q 0
 unfold ZK VI;omega
def wgt (gs:List Gs)(t:Int)(l k:Nat):Int:=match gs[k]? with|some g=>if g.line=l/\ZH g t=true then g.most else 0|none=>0
def C1 (gs:List Gs)(t:Int)(l k:Nat):Z7 gs t l [k]=wgt gs t l k:=by
 simp only[Z7,wgt];cases gs[k]? with
 |none=>rfl
 |some g=>simp
def KU (gs:List Gs)(t:Int)(l:Nat)(p:Qm)(m:Nat):Z7 gs t l ((List.range m).filter p)=Qv (fun k=>if p k=true then wgt gs t l k else 0) m:=by
 induction m with
 |zero=>rfl
 |succ m ih =>
   rw[Y3,BU,D0,ih];simp only[Qv];cases e:p m with
   |true=>simp only[GT,e,if_true,List.filter_nil,C1]
   |false=>simp only[GT,e,List.filter_nil,Z7,X8,if_false]
def Fz {gs:List Gs}(h:∀g∈gs,1<=g.most)(t:Int)(l k:Nat):0<=wgt gs t l k:=by
 unfold wgt;split
 ·rename_i g e
  have:=h g (List.mem_of_getElem? e)
  split<;>omega
 ·omega
def EO {gs:List Gs}(h:∀g∈gs,1<=g.most)(t:Int)(p q:Qm)(m:Nat) :
 Quad (fun l=>Z7 gs t l ((List.range m).filter fun k=>p k||q k)) (fun l=>Z7 gs t l ((List.range m).filter fun k=>p k&&q k)) (fun l=>Z7 gs t l ((List.range m).filter p)) (fun l=>Z7 gs t l ((List.range m).filter q)):=⟨fun l=>by
 simp only[KU];have w:=fun k=>Fz h t l k;refine⟨VC fun k _=>?_,VC fun k _=>?_,VC fun k _=>?_,VC fun k _=>?_,?_⟩
 ·have:=w k;cases p k<;>cases q k<;>simp<;>omega
 ·have:=w k;cases p k<;>cases q k<;>simp<;>omega
 ·have:=w k;cases p k<;>cases q k<;>simp<;>omega
 ·have:=w k;cases p k<;>cases q k<;>simp<;>omega
 ·rw[<- Jd,<- Jd]
  refine VC fun k _=>?_
  have:=w k
  cases p k<;>cases q k<;>simp⟩
theorem Dk (f:Nat->Qn)(n:Nat):∀m,Qv (fun l=>Qv (fun k=>f l k) m) n=Qv (fun k=>Qv (fun l=>f l k) n) m
 |0=>by simp only[Qv];exact VN n
 |m+1=>by
   simp only[Qv];rw[Jd,Dk f n m]
end Mir
namespace Mir
section
variable {y:Yd}{b b' own:Qn}{l0:Nat}
end
def SR {k a b:Int}(h:0<=k):min (a*k) (b*k)=min a b*k:=by
 rcases Int.le_total a b with h1|h1
 ·rw[Int.min_eq_left h1,Int.min_eq_left (X6 h1 h)]
 ·rw[Int.min_eq_right h1,Int.min_eq_right (X6 h1 h)]
theorem Nt {y y':Yd}{k:Int}(h:0<=k)(hu:∀j,QZ y' j=QZ y j)(hn:y'.ls.length=y.ls.length)(b own:Qn):∀i l,ZS y' (fun l=>b l*k) (fun l=>own l*k) i l=ZS y b own i l*k
 |0,l=>rfl
 |i+1,l=>by
   simp only[ZS,W1,hu,hn];rw[Nt h hu hn b own i l,Nt h hu hn b own i (y.ls.length-1-i)];by_cases e:QZ y (y.ls.length-1-i)=some l
   ·rw[Xb e,Xb e,SR h,Int.add_mul]
   ·rw[Xa e,Xa e,Gh,Gh]
def OO {y y':Yd}{k:Int}(h:0<=k)(hu:∀j,QZ y' j=QZ y j)(hn:y'.ls.length=y.ls.length)(b own:Qn)(l:Nat):ZK y' (fun l=>b l*k) (fun l=>own l*k) l=ZK y b own l*k:=by
 unfold ZK VI;rw[Nt h hu hn,hn,SR h]
end Mir
section
namespace L2
open PySem PySem.Spec PyProof.Rows
structure QM (F H F' H':Hp):Prop where
 hh:QN H H'
 ff:QN F F'
 fh:QN F' H'
 fr:∀a,F' a≠none->F a≠none\/H a=none
def QM.refl {F H:Hp}(s:QN F H):QM F H F H:=⟨QN.refl _,QN.refl _,s,fun _ h=>.inl h⟩
def QM.trans {F H F1 H1 F2 H2:Hp}(a:QM F H F1 H1)(b:QM F1 H1 F2 H2):QM F H F2 H2 :=
 ⟨a.hh.trans b.hh,a.ff.trans b.ff,b.fh,fun p h=>by
  rcases b.fr p h with z|z
  ·exact a.fr p z
  ·exact .inr (a.hh.free z)⟩
def Vy {H:Hp}{a:Addr}{o:HO}(h:H a=some o):H a≠none:=by rw[h];exact fun z=>nomatch z
def MT {H:Hp}{a:Addr}(h:H a≠none):∃o,H a=some o:=by
 cases e:H a with
 |none=>exact Xi e h
 |some o=>exact⟨o,rfl⟩
def AN {F H:Hp}{p:Addr}{o:HO}(s:QN F H):QN (upd F p o) (upd H p o):=fun b u e=>by
 by_cases h:b=p
 ·subst h;rw[Zg]at e ⊢;exact e
 ·rw[Q7 h]at e ⊢;exact s b u e
def QM.new {F H:Hp}{p:Addr}{o:HO}(s:QN F H)(hp:H p=none):QM F H (upd F p o) (upd H p o) :=
 ⟨QN.new hp,QN.new (s.free hp),AN s,fun a h=>by
  by_cases e:a=p
  ·subst e;exact .inr hp
  ·rw[Q7 e]at h;exact .inl h⟩
def QM.own {F H:Hp}{p:Addr}{o:HO}(s:QN F H)(hp:H p=none):QM F H F (upd H p o) :=
 ⟨QN.new hp,QN.refl _,s.upd (s.free hp),fun _ h=>.inl h⟩
def QM.freeze {F0 H0 F H:Hp}{a:Addr}{o:HO}(x:QM F0 H0 F H)(hf:F a=none)(ho:H a=some o)(h0:H0 a=none):QM F0 H0 (upd F a o) H :=
 ⟨x.hh,x.ff.trans (QN.new hf),fun b u e=>by
  by_cases h:b=a
  ·subst h;rw[Zg]at e;rw[ho];exact e
  ·rw[Q7 h]at e;exact x.fh b u e,fun b h=>by
  by_cases e:b=a
  ·subst e;exact .inr h0
  ·rw[Q7 e]at h;exact x.fr b h⟩
def QM.free {F H F' H':Hp}{a:Addr}(x:QM F H F' H')(hf:F a=none)(hh:H a≠none):F' a=none:=by
 cases e:F' a with
 |none=>rfl
 |some o =>
   rcases x.fr a (Vy e) with z|z
   ·exact Xi hf z
   ·exact Xi z hh
structure OwnP where
 ok:W.Frag->Hp->Hp->V->Qg->Prop
 there:∀{K:W.Frag} {F H:Hp} {v:V} {p:Qg},ok K F H v p->∀a∈p,F a=none/\H a≠none
 mono:∀{K:W.Frag} {F F' H H':Hp} {v:V} {p:Qg},QN F F'->(∀a∈p,F' a=none)->(∀a∈p,H' a=H a)->ok K F H v p->ok K F' H' v p
 uniq:∀{K:W.Frag} {F H:Hp} {v:V} {p q:Qg},ok K F H v p->ok K F H v q->∀a∈q,a∈p
structure ZP where
 ok:W.Frag->Hp->V->Prop
 mono:∀{K:W.Frag} {F F':Hp} {v:V},QN F F'->ok K F v->ok K F' v
inductive OT where
 |zow (Ψ:ZP)
 |fz (d:PyData)
 |ol (ds:Qd)
 |oll (dss:List (Qd))
 |scr (ns:Ql)
 |own (v:V) (Φ:OwnP)
abbrev QL:=List (Option OT)
def VE (F H:Hp)(a:Addr)(ds:Qd):Prop:=F a=none/\∃xs,H a=some (.lst xs)/\Q0 F xs ds
def Zu (F H:Hp):Qg->List (Qd)->Prop
 |[],[]=>True
 |a::as,ds::dss=>VE F H a ds/\Zu F H as dss
 |_,_=>False
def Z6 (K:W.Frag)(F H:Hp)(v:V):OT->Qg->Prop
 |.fz d,p=>p=[]/\Rep F v d
 |.ol ds,p=>∃a,v=.ref a/\p=[a]/\VE F H a ds
 |.oll dss,p=>∃a as,v=.ref a/\p=a::as/\(a::as).Nodup/\F a=none/\H a=some (.lst (as.map V.ref))/\Zu F H as dss
 |.scr ns,p=>p=[]/\∃a,v=.ref a/\Scr K F a ns
 |.own v0 Φ,p=>v=v0/\Φ.ok K F H v p
 |.zow Ψ,p=>p=[]/\Ψ.ok K F v
def QN.at_eq {H H':Hp}(s:QN H H'){a:Addr}(h:H a≠none):H' a=H a:=by
 cases e:H a with
 |none=>exact Xi e h
 |some o=>exact s _ _ e
def VE.ext {F H F' H':Hp}{a:Addr}{ds:Qd}(h:VE F H a ds)(x:QM F H F' H'):VE F' H' a ds:=by
 obtain⟨h1,xs,h2,h3⟩:=h
 exact⟨x.free h1 (Vy h2),xs,x.hh _ _ h2,h3.mono x.ff⟩
theorem Zu.ext {F H F' H':Hp}(x:QM F H F' H'):∀{as:Qg} {dss:List (Qd)},Zu F H as dss->Zu F' H' as dss
 |[],[],_=>trivial
 |_::_,_::_,h=>⟨h.1.ext x,Zu.ext x h.2⟩
 |[],_::_,h=>False.elim h
 |_::_,[],h=>False.elim h
theorem Zu.mem {F H:Hp}:∀{as:Qg} {dss:List (Qd)},Zu F H as dss->∀a∈as,F a=none/\H a≠none
 |[],[],_,a,ha=>by cases ha
 |b::as,_::_,h,a,ha=>by
   rcases Xg.mp ha with rfl|ha
   ·obtain⟨h1,xs,h2,_⟩:=h.1
    exact⟨h1,Vy h2⟩
   ·exact Zu.mem h.2 a ha
 |[],_::_,h,_,_=>False.elim h
 |_::_,[],h,_,_=>False.elim h
def Z6.ext {K:W.Frag}{F H F' H':Hp}{v:V}{t:OT}{p:Qg}(h:Z6 K F H v t p)(x:QM F H F' H'):Z6 K F' H' v t p:=by
 cases t with
 |fz d=>exact⟨h.1,h.2.mono x.ff⟩
 |zow Ψ=>exact⟨h.1,Ψ.mono x.ff h.2⟩
 |ol ds=>obtain⟨a,h1,h2,h3⟩:=h;exact⟨a,h1,h2,h3.ext x⟩
 |oll dss=>obtain⟨a,as,h1,h2,h3,h4,h5,h6⟩:=h;exact⟨a,as,h1,h2,h3,x.free h4 (Vy h5),x.hh _ _ h5,h6.ext x⟩
 |scr ns=>obtain⟨h1,a,h2,h3⟩:=h;exact⟨h1,a,h2,h3.mono x.ff⟩
 |own v0 Φ=>exact⟨h.1,Φ.mono x.ff (fun a ha=>x.free (Φ.there h.2 a ha).1 (Φ.there h.2 a ha).2) (fun a ha=>x.hh.at_eq (Φ.there h.2 a ha).2) h.2⟩
def Z6.there {K:W.Frag}{F H:Hp}{v:V}{t:OT}{p:Qg}(h:Z6 K F H v t p):∀a∈p,F a=none/\H a≠none:=by
 cases t with
 |fz d=>obtain⟨rfl,_⟩:=h;intro a ha;cases ha
 |zow Ψ=>obtain⟨rfl,_⟩:=h;intro a ha;cases ha
 |ol ds =>
   obtain⟨a,h1,rfl,h3,xs,h4,_⟩:=h;intro b hb;have e:b=a:=by simpa using hb
   subst e;exact⟨h3,Vy h4⟩
 |oll dss =>
   obtain⟨a,as,h1,rfl,h3,h4,h5,h6⟩:=h;intro b hb;rcases Xg.mp hb with rfl|hb
   ·exact⟨h4,Vy h5⟩
   ·exact h6.mem b hb
 |scr ns=>obtain⟨rfl,_⟩:=h;intro a ha;cases ha
 |own v0 Φ=>exact Φ.there h.2
def VE.other {F H:Hp}{a b:Addr}{o:HO}{ds:Qd}(h:VE F H a ds)(n:a≠b):VE F (upd H b o) a ds:=by
 obtain⟨h1,xs,h2,h3⟩:=h
 exact⟨h1,xs,by rw[Q7 n];exact h2,h3⟩
theorem Zu.other {F H:Hp}{b:Addr}{o:HO}:∀{as:Qg} {dss:List (Qd)},Zu F H as dss->b∉as->Zu F (upd H b o) as dss
 |[],[],_,_=>trivial
 |a::as,_::_,h,n=>⟨h.1.other (fun z=>n (by rw[z];exact Xc)),Zu.other h.2 fun z=>n (Xf _ z)⟩
 |[],_::_,h,_=>False.elim h
 |_::_,[],h,_=>False.elim h
def Z6.other {K:W.Frag}{F H:Hp}{v:V}{t:OT}{p:Qg}{b:Addr}{o:HO}(h:Z6 K F H v t p)(n:b∉p):Z6 K F (upd H b o) v t p:=by
 cases t with
 |fz d=>exact h
 |zow Ψ=>exact h
 |ol ds=>obtain⟨a,h1,rfl,h3⟩:=h;exact⟨a,h1,rfl,h3.other (fun z=>n (by simp[z]))⟩
 |oll dss =>
   obtain⟨a,as,h1,rfl,h3,h4,h5,h6⟩:=h
   exact⟨a,as,h1,rfl,h3,h4,by rw[Q7 (fun z=>n (by simp[z]))];exact h5,h6.other fun z=>n (Xf _ z)⟩
 |scr ns=>exact h
 |own v0 Φ=>exact⟨h.1,Φ.mono (QN.refl _) (fun a ha=>(Φ.there h.2 a ha).1) (fun a ha=>Q7 fun z=>n (by rw[<- z];exact ha)) h.2⟩
def KTs (K:W.Frag) (F:Hp):Prop := ∃gS gE,W.nsIn K mainGlobals "START"=some (some (.ref gS))/\W.nsIn K mainGlobals "END"=some (some (.ref gE))/\F gS=some (.tup [.str "start"])/\F gE=some (.tup [.str "end"])
def KTs.mono {K:W.Frag}{F F':Hp}(h:KTs K F)(s:QN F F'):KTs K F':=by
 obtain⟨gS,gE,h1,h2,h3,h4⟩:=h
 exact⟨gS,gE,h1,h2,s _ _ h3,s _ _ h4⟩
structure QY (K:W.Frag)(H0 F:Hp)(ρ:QL)(σ:St)(H:Hp):Prop where
 kt:KTs K F
 sub:QN F H
 len:σ.length=ρ.length
 fp:∃fp:Nat->Qg,(∀(i:Nat) (t:OT),ρ[i]?=some (some t)->∃v,σ[i]?=some (some v)/\Z6 K F H v t (fp i)) /\
  (∀(i j:Nat) (a:Addr),a∈fp i->a∈fp j->i=j)/\∀(i:Nat) (a:Addr),a∈fp i->H0 a=none/\H a≠none
def QY.ext {K:W.Frag}{H0 F F' H H':Hp}{ρ:QL}{σ:St}(s:QY K H0 F ρ σ H)(x:QM F H F' H'):QY K H0 F' ρ σ H':=by
 obtain⟨kt,h1,h2,fp,h3,h4,h5⟩:=s;refine⟨kt.mono x.ff,x.fh,h2,fp,fun i t e=>?_,h4,fun i a ha=>?_⟩
 ·obtain⟨v,e1,e2⟩:=h3 i t e
  exact⟨v,e1,e2.ext x⟩
 ·obtain⟨e1,e2⟩:=h5 i a ha
  obtain⟨o,e3⟩:=MT e2
  exact⟨e1,Vy (x.hh _ _ e3)⟩
def Fgt:QL->QL->Prop
 |[],[]=>True
 |_::r,none::r'=>Fgt r r'
 |s::r,some x::r'=>s=some x/\Fgt r r'
 |_,_=>False
theorem Fgt.len:∀{ρ ρ':QL},Fgt ρ ρ'->ρ.length=ρ'.length
 |[],[],_=>rfl
 |_::r,none::r',h=>by
   have h':Fgt r r':=h
   simp[Fgt.len h']
 |s::r,some x::r',h=>by
   have h':s=some x/\Fgt r r':=h
   simp[Fgt.len h'.2]
 |[],none::_,h=>False.elim h
 |[],some _::_,h=>False.elim h
 |_::_,[],h=>False.elim h
theorem Fgt.get:∀{ρ ρ':QL},Fgt ρ ρ'->∀(i:Nat) (t:OT),ρ'[i]?=some (some t)->ρ[i]?=some (some t)
 |[],[],_,i,t,e=>by simp at e
 |_::r,none::r',h,0,t,e=>by simp at e
 |_::r,none::r',h,i+1,t,e=>by
   have h':Fgt r r':=h
   have:=Fgt.get h' i t (by simpa using e)
   simpa using this
 |s::r,some x::r',h,0,t,e=>by
   have h':s=some x/\Fgt r r':=h
   simp at e;subst e;simp[h'.1]
 |s::r,some x::r',h,i+1,t,e=>by
   have h':s=some x/\Fgt r r':=h
   have:=Fgt.get h'.2 i t (by simpa using e)
   simpa using this
 |[],none::_,h,_,_,_=>False.elim h
 |[],some _::_,h,_,_,_=>False.elim h
 |_::_,[],h,_,_,_=>False.elim h
def QY.fgt {K:W.Frag}{H0 F H:Hp}{ρ ρ':QL}{σ:St}(s:QY K H0 F ρ σ H)(f:Fgt ρ ρ'):QY K H0 F ρ' σ H:=by
 obtain⟨kt,h1,h2,fp,h3,h4,h5⟩:=s
 exact⟨kt,h1,h2.trans f.len,fp,fun i t e=>h3 i t (f.get i t e),h4,h5⟩
def QY.set {K:W.Frag}{H0 F H:Hp}{ρ:QL}{σ:St}{i:Nat}{v:V}{t:OT}{p:Qg}(s:QY K H0 F ρ σ H)(ok:Z6 K F H v t p)
 (hp:∀(a:Addr),a∈p->H0 a=none)
 (hn:∀(a:Addr),a∈p->∀(j:Nat) (u:V) (t':OT) (q:Qg),ρ[j]?=some (some t')->σ[j]?=some (some u)->Z6 K F H u t' q->a∉q) :
 QY K H0 F (ρ.set i (some t)) (σ.set i (some v)) H:=by
 obtain⟨kt,h1,h2,fp,h3,h4,h5⟩:=s;refine⟨kt,h1,by simp[h2],fun j=>if j=i then p else if (ρ[j]?).join.isSome then fp j else [],fun j t' e=>?_,fun j k a ha hb=>?_,fun j a ha=>?_⟩
 ·by_cases hj:j=i
  ·subst hj
   have hlt:j<ρ.length:=by
    have:=(Xe.mp e).1
    simpa using this
   rw[XL hlt]at e;cases e;refine⟨v,XL (by omega),?_⟩;dsimp only;rw[Xb rfl];exact ok
  ·rw[XT (Ne.symm hj)]at e
   obtain⟨u,e1,e2⟩:=h3 j t' e;refine⟨u,by rw[XT (Ne.symm hj)];exact e1,?_⟩;dsimp only;rw[Xa hj,e,Xb (by rfl)];exact e2
 ·have key:∀(j:Nat),j≠i->a∈(if j=i then p else if (ρ[j]?).join.isSome then fp j else [])->∃t' u,ρ[j]?=some (some t')/\σ[j]?=some (some u)/\Z6 K F H u t' (fp j)/\a∈fp j:=fun j hj hm=>by
   rw[Xa hj]at hm;cases e:(ρ[j]?).join with
   |none=>rw[e]at hm;simp at hm
   |some t' =>
     rw[e]at hm;have e':ρ[j]?=some (some t'):=by
      cases z:ρ[j]? with
      |none=>rw[z]at e;simp at e
      |some w=>rw[z]at e;simp at e;rw[e]
     obtain⟨u,e1,e2⟩:=h3 j t' e'
     exact⟨t',u,e',e1,e2,by simpa using hm⟩
  by_cases hj:j=i
  ·by_cases hk:k=i
   ·omega
   ·obtain⟨t',u,e1,e2,e3,e4⟩:=key k hk hb
    have ha':a∈p:=by simpa [hj] using ha
    exact Xi e4 (hn a ha' k u t' _ e1 e2 e3)
  ·obtain⟨t',u,e1,e2,e3,e4⟩:=key j hj ha
   by_cases hk:k=i
   ·have hb':a∈p:=by simpa [hk] using hb
    exact Xi e4 (hn a hb' j u t' _ e1 e2 e3)
   ·obtain⟨t2,u2,f1,f2,f3,f4⟩:=key k hk hb
    exact h4 j k a e4 f4
 ·by_cases hj:j=i
  ·have ha':a∈p:=by simpa [hj] using ha
   exact⟨hp a ha',(ok.there a ha').2⟩
  ·simp only[Xa hj]at ha
   split at ha
   ·exact h5 j a ha
   ·cases ha
def QY.setF {K:W.Frag}{H0 F H:Hp}{ρ:QL}{σ:St}{i:Nat}{v:V}{d:PyData}(s:QY K H0 F ρ σ H)(r:Rep F v d):QY K H0 F (ρ.set i (some (.fz d))) (σ.set i (some v)) H :=
 s.set (p:=[]) ⟨rfl,r⟩ (fun a ha=>nomatch ha) (hn:=fun a ha=>nomatch ha)
def QY.write {K:W.Frag}{H0 F H:Hp}{ρ:QL}{σ:St}{i:Nat}{ds:Qd}(s:QY K H0 F ρ σ H)(e:ρ[i]?=some (some (.ol ds))) :
 ∃a xs,σ[i]?=some (some (.ref a))/\H a=some (.lst xs)/\Q0 F xs ds/\H0 a=none/\F a=none/\∀xs' ds',Q0 F xs' ds'->QY K H0 F (ρ.set i (some (.ol ds'))) σ (upd H a (.lst xs')):=by
 obtain⟨kt,h1,h2,fp,h3,h4,h5⟩:=s;obtain⟨v,e1,a,rfl,e2,e3,xs,e4,e5⟩:=h3 i _ e;have ha:a∈fp i:=by rw[e2];exact Xc
 refine⟨a,xs,e1,e4,e5,(h5 i a ha).1,e3,fun xs' ds' r=>?_⟩;have hlt:=(Xe.mp e).1;refine⟨kt,h1.upd e3,by simp[h2],fp,fun j t' e'=>?_,h4,fun j b hb=>?_⟩
 ·by_cases hj:j=i
  ·subst hj
   rw[XL hlt]at e';cases e'
   exact⟨_,e1,a,rfl,e2,e3,xs',Zg,r⟩
  ·rw[XT (Ne.symm hj)]at e'
   obtain⟨u,f1,f2⟩:=h3 j t' e'
   exact⟨u,f1,f2.other fun z=>hj (h4 j i a z ha)⟩
 ·obtain⟨f1,f2⟩:=h5 j b hb
  refine⟨f1,?_⟩
  by_cases z:b=a
  ·subst z;rw[Zg];exact fun q=>nomatch q
  ·rw[Q7 z];exact f2
def QY.freeze {K:W.Frag}{H0 F H:Hp}{ρ:QL}{σ:St}{i:Nat}{ds:Qd}(s:QY K H0 F ρ σ H)(e:ρ[i]?=some (some (.ol ds))) :
 ∃a xs,F a=none/\H a=some (.lst xs)/\H0 a=none/\σ[i]?=some (some (.ref a))/\Q0 F xs ds/\QY K H0 (upd F a (.lst xs)) (ρ.set i (some (.fz (.list ds)))) σ H:=by
 obtain⟨kt,h1,h2,fp,h3,h4,h5⟩:=s;obtain⟨v,e1,a,rfl,e2,e3,xs,e4,e5⟩:=h3 i _ e;have ha:a∈fp i:=by rw[e2];exact Xc
 have hlt:=(Xe.mp e).1;have sm:QN F (upd F a (.lst xs)):=QN.new e3;refine⟨a,xs,e3,e4,(h5 i a ha).1,e1,e5,kt.mono sm,?_,by simp[h2],fun j=>if j=i then [] else fp j,fun j t' e'=>?_,fun j k b hb hc=>?_,fun j b hb=>?_⟩
 ·intro b u hb
  by_cases z:b=a
  ·subst z;rw[Zg]at hb;rw[e4];exact hb
  ·rw[Q7 z]at hb;exact h1 b u hb
 ·by_cases hj:j=i
  ·subst hj
   rw[XL hlt]at e';cases e';refine⟨_,e1,?_,.lst Zg (e5.mono sm)⟩;dsimp only;rw[Xb rfl]
  ·rw[XT (Ne.symm hj)]at e'
   obtain⟨u,f1,f2⟩:=h3 j t' e';refine⟨u,f1,?_⟩;dsimp only;rw[Xa hj];have na:a∉fp j:=fun z=>hj (h4 j i a z ha);have nb:∀b,F b=none->b≠a->upd F a (.lst xs) b=none:=fun b hb hn=>by rw[Q7 hn];exact hb
   have go:∀{b:Addr} {es:Qd},b≠a->VE F H b es->VE (upd F a (.lst xs)) H b es:=fun{b es} hn ⟨z1,zs,z2,z3⟩=>⟨nb _ z1 hn,zs,z2,z3.mono sm⟩
   cases t' with
   |fz d=>exact⟨f2.1,f2.2.mono sm⟩
   |zow Ψ=>exact⟨f2.1,Ψ.mono sm f2.2⟩
   |ol es =>
     obtain⟨b,g1,g2,g3⟩:=f2
     exact⟨b,g1,g2,go (fun z=>na (by rw[g2,z];exact Xc)) g3⟩
   |oll dss =>
     obtain⟨b,bs,g1,g2,g3,g4,g5,g6⟩:=f2;refine⟨b,bs,g1,g2,g3,nb _ g4 (fun z=>na (by rw[g2,z];exact Xc)),g5,?_⟩;have nbs:a∉bs:=fun z=>na (by rw[g2];exact Xf _ z)
     clear g1 g2 g3 g5;have all:∀(bs:Qg) (dss:List (Qd)),a∉bs->Zu F H bs dss->Zu (upd F a (.lst xs)) H bs dss:=by
      intro bs;induction bs with
      |nil =>
        intro dss _ h;cases dss with
        |nil=>exact trivial
        |cons _ _=>exact False.elim h
      |cons c cs ih =>
        intro dss hn h;cases dss with
        |nil=>exact False.elim h
        |cons es ess=>exact⟨go (fun z=>hn (by rw[z];exact Xc)) h.1,ih ess (fun z=>hn (Xf _ z)) h.2⟩
     exact all bs dss nbs g6
   |scr ns =>
     obtain⟨g1,b,g2,g3⟩:=f2
     exact⟨g1,b,g2,g3.mono sm⟩
   |own v0 Φ=>exact⟨f2.1,Φ.mono sm (fun b hb=>nb b (Φ.there f2.2 b hb).1 fun z=>na (by rw[<- z];exact hb)) (fun _ _=>rfl) f2.2⟩
 ·by_cases hj:j=i
  ·simp[hj]at hb
  ·by_cases hk:k=i
   ·simp[hk]at hc
   ·simp only[Xa hj]at hb
    simp only[Xa hk]at hc;exact h4 j k b hb hc
 ·by_cases hj:j=i
  ·simp[hj]at hb
  ·simp only[Xa hj]at hb
   exact h5 j b hb
inductive Args (K:W.Frag)(F:Hp):List V->List OT->Prop
 |nil:Args K F [] []
 |fz {v:V} {d:PyData} {vs:List V} {ts:List OT}:Rep F v d->Args K F vs ts->Args K F (v::vs) (.fz d::ts)
 |zow {v:V} {Ψ:ZP} {vs:List V} {ts:List OT}:Ψ.ok K F v->Args K F vs ts->Args K F (v::vs) (.zow Ψ::ts)
 |scr {a:Addr} {ns:Ql} {vs:List V} {ts:List OT}:Scr K F a ns->Args K F vs ts->Args K F (.ref a::vs) (.scr ns::ts)
theorem Args.length {K:W.Frag}{F:Hp}:∀{vs:List V} {ts:List OT},Args K F vs ts->vs.length=ts.length
 |_,_,.nil=>rfl
 |_,_,.fz _ t=>by simp[Args.length t]
 |_,_,.scr _ t=>by simp[Args.length t]
 |_,_,.zow _ t=>by simp[Args.length t]
theorem Args.get {K:W.Frag}{F H:Hp}:∀{vs:List V} {ts:List OT},Args K F vs ts->∀(i:Nat) (t:OT),ts[i]?=some t->∃v,vs[i]?=some v/\Z6 K F H v t []
 |_,_,.nil,i,t,e=>by simp at e
 |_,_,.fz r _,0,t,e=>by simp at e;subst e;exact⟨_,rfl,rfl,r⟩
 |_,_,.scr r _,0,t,e=>by simp at e;subst e;exact⟨_,rfl,rfl,_,rfl,r⟩
 |_,_,.zow r _,0,t,e=>by simp at e;subst e;exact⟨_,rfl,rfl,r⟩
 |_,_,.zow _ q,i+1,t,e=>by
   obtain⟨v,h1,h2⟩:=Args.get (H:=H) q i t (by simpa using e)
   exact⟨v,by simpa using h1,h2⟩
 |_,_,.fz _ q,i+1,t,e=>by
   obtain⟨v,h1,h2⟩:=Args.get (H:=H) q i t (by simpa using e)
   exact⟨v,by simpa using h1,h2⟩
 |_,_,.scr _ q,i+1,t,e=>by
   obtain⟨v,h1,h2⟩:=Args.get (H:=H) q i t (by simpa using e)
   exact⟨v,by simpa using h1,h2⟩
section
variable (K:W.Frag)
def Qs (t:TE)(ρ:QL)(d:PyData):Prop := ∀(H0 F:Hp) (σ:St) (H:Hp) (Q:VK),QY K H0 F ρ σ H->(∀F' H' v,QM F H F' H'->Rep F' v d->Q v H')->t σ H Q
def EvO (t:TE)(ρ:QL)(r:OT):Prop := ∀(H0 F:Hp) (σ:St) (H:Hp) (Q:VK),QY K H0 F ρ σ H->(∀F' H' v p,QM F H F' H'->(∀a∈p,H a=none)->Z6 K F' H' v r p->Q v H')->t σ H Q
def Zz (t:TT)(ρ:QL)(b:Bool):Prop := ∀(H0 F:Hp) (σ:St) (H:Hp) (Q:Bool->Hp->Prop),QY K H0 F ρ σ H->(∀F' H',QM F H F' H'->Q b H')->t σ H Q
def Vh (t:TA)(ρ:QL)(ts:List OT):Prop := ∀(H0 F:Hp) (σ:St) (H:Hp) (Q:List V->Hp->Prop),QY K H0 F ρ σ H->(∀F' H' vs,QM F H F' H'->Args K F' vs ts->Q vs H')->t σ H Q
def Kj (F':Hp)(J:It)(ds:Qd):Prop := ∀(F'' H'':Hp),QN F' F''->QN F'' H''->J.stop ds.length H'' /\
 ∀(i:Nat) (d:PyData),ds[i]?=some d->J.go i H''/\∀x H3,J.yld i H'' x H3->∃F3,QM F'' H'' F3 H3/\Rep F3 x d
def EvI (wi:TI)(ρ:QL)(ds:Qd):Prop := ∀(H0 F:Hp) (σ:St) (H:Hp) (R:It->Hp->Prop),QY K H0 F ρ σ H->(∀F' H' J,QM F H F' H'->Kj F' J ds->R J H')->wi σ H R
def GTo (g:TG)(d:PyData)(ρ ρ':QL):Prop := ∀(H0 F:Hp) (σ:St) (H:Hp) (x:V) (Q:St->Hp->Prop),QY K H0 F ρ σ H->Rep F x d->(∀σ',QY K H0 F ρ' σ' H->Q σ' H)->g x σ H Q
def Ma (g:TGs)(ds:Qd)(ρ ρ':QL):Prop := ∀(H0 F:Hp) (σ:St) (H:Hp) (xs:List V) (Q:St->Hp->Prop),QY K H0 F ρ σ H->Q0 F xs ds->(∀σ',QY K H0 F ρ' σ' H->Q σ' H)->g xs σ H Q
structure PEnds where
 nx:QL->Prop
 rt:OT->Prop
 bk:QL->Prop:=fun _=>False
 ct:QL->Prop:=fun _=>False
structure Cnv (F0 H0:Hp)(D:PEnds)(E:Ends):Prop where
 nx:∀F σ H ρ,QM F0 H0 F H->QY K H0 F ρ σ H->D.nx ρ->E.nx σ H
 rt:∀F H v r p,QM F0 H0 F H->(∀a∈p,H0 a=none)->Z6 K F H v r p->D.rt r->E.rt v H
 bk:∀F σ H ρ,QM F0 H0 F H->QY K H0 F ρ σ H->D.bk ρ->E.bk σ H
 ct:∀F σ H ρ,QM F0 H0 F H->QY K H0 F ρ σ H->D.ct ρ->E.ct σ H
def Q9 (t:TS)(ρ:QL)(D:PEnds):Prop := ∀(F0 H0 F:Hp) (σ:St) (H:Hp) (E:Ends),QM F0 H0 F H->QY K H0 F ρ σ H->Cnv K F0 H0 D E->t E σ H
end
section
variable {K:W.Frag}{ρ:QL}{ta tb tc:TE}{tA tB':TT}
def Qs.o {t:TE}{d:PyData}(h:Qs K t ρ d):EvO K t ρ (.fz d):=fun H0 F σ H Q S q=>h H0 F σ H Q S fun F' H' v x r=>q F' H' v [] x (fun _ z=>nomatch z) ⟨rfl,r⟩
def EvO.e {t:TE}{d:PyData}(h:EvO K t ρ (.fz d)):Qs K t ρ d:=fun H0 F σ H Q S q=>h H0 F σ H Q S fun F' H' v p x _ r=>q F' H' v x r.2
def EvO.fz {t:TE}{ds:Qd}(h:EvO K t ρ (.ol ds)):Qs K t ρ (.list ds):=fun H0 F σ H Q S q=>h H0 F σ H Q S fun F' H' v p x hp r=>by
 obtain⟨a,rfl,rfl,r1,xs,r2,r3⟩:=r;refine q (upd F' a (.lst xs)) H' _ (x.freeze r1 r2 (hp a Xc)) (.lst Zg (r3.mono (QN.new r1)))
def Qp {i:Nat}{d:PyData}(e:ρ[i]?=some (some (.fz d))):Qs K (Za i) ρ d:=fun H0 F σ H Q S q=>by
 obtain⟨fp,h,_⟩:=S.fp;obtain⟨v,e1,e2⟩:=h i _ e
 exact⟨v,e1,q F H v (QM.refl S.sub) e2.2⟩
def QX {i:Int}:Qs K (tC (.int i)) ρ (.int i):=fun H0 F σ H Q S q=>q F H _ (QM.refl S.sub) (.int i)
def Go {b:Bool}:Qs K (tC (.bl b)) ρ (.bool b):=fun H0 F σ H Q S q=>q F H _ (QM.refl S.sub) (.bl b)
def Mp:Qs K (tC .non) ρ .none:=fun H0 F σ H Q S q=>q F H _ (QM.refl S.sub) .non
def HF {x:Str}:Qs K (tC (.str x)) ρ (.str x):=fun H0 F σ H Q S q=>q F H _ (QM.refl S.sub) (.str x)
def YN {a b:PyData}{Q:VK}{r:R2}{H0 F H:Hp}{σ:St}(ha:Qs K ta ρ a)(hb:Qs K tb ρ b)(S:QY K H0 F ρ σ H)
 (h:∀F' H' x y,QM F H F' H'->Rep F' x a->Rep F' y b->r x y H' Q):tOp r ta tb σ H Q :=
 ha H0 F σ H _ S fun F1 H1 x x1 r1=>hb H0 F1 σ H1 _ (S.ext x1) fun F2 H2 y x2 r2=>h F2 H2 x y (x1.trans x2) (r1.mono x2.ff) r2
def VV {g:Int->Int->Int}{x y:Int}(ha:Qs K ta ρ (.int x))(hb:Qs K tb ρ (.int y)):Qs K (tOp (rI0 fun i j=>.int (g i j)) ta tb) ρ (.int (g x y)):=fun H0 F σ H Q S q =>
 YN ha hb S fun F' H' u v e r1 r2=>by cases r1;cases r2;exact⟨x,y,rfl,rfl,q F' H' _ e (.int _)⟩
def Jt {g:Int->Int->Bool}{x y:Int}(ha:Qs K ta ρ (.int x))(hb:Qs K tb ρ (.int y)):Qs K (tOp (rI0 fun i j=>.bl (g i j)) ta tb) ρ (.bool (g x y)):=fun H0 F σ H Q S q =>
 YN ha hb S fun F' H' u v e r1 r2=>by cases r1;cases r2;exact⟨x,y,rfl,rfl,q F' H' _ e (.bl _)⟩
def Zs {C:Int->Int->Prop}{g:Int->Int->Int}{x y:Int}(ha:Qs K ta ρ (.int x))(hb:Qs K tb ρ (.int y))(hc:C x y):Qs K (tOp (rI C fun i j=>.int (g i j)) ta tb) ρ (.int (g x y)):=fun H0 F σ H Q S q =>
 YN ha hb S fun F' H' u v e r1 r2=>by cases r1;cases r2;exact⟨x,y,rfl,rfl,hc,q F' H' _ e (.int _)⟩
def Mh {g:Int->Int}{x:Int}(ha:Qs K ta ρ (.int x)):Qs K (tUn (rU fun i=>.int (g i)) ta) ρ (.int (g x)):=fun H0 F σ H Q S q =>
 ha H0 F σ H _ S fun F1 H1 v x1 r1=>by cases r1;exact⟨x,rfl,q F1 H1 _ x1 (.int _)⟩
def VU:PyData->Option V
 |.none=>some .non
 |.bool b=>some (.bl b)
 |.int i=>some (.int i)
 |.str x=>some (.str x)
 |_=>Option.none
def Rep.flat {H:Hp}{x v:V}{d:PyData}(r:Rep H x d)(e:VU d=some v):x=v:=by
 cases r<;>simp[VU]at e<;>exact e
def FP {a b:PyData}{v w:V}(ha:Qs K ta ρ a)(hb:Qs K tb ρ b)(e1:VU a=some v)(e2:VU b=some w)(hs:∀(H:Hp) (Q:VK),Q (.bl (decide (v=w))) H->rEq v w H Q) :
 Qs K (tOp rEq ta tb) ρ (.bool (decide (v=w))):=fun H0 F σ H Q S q =>
 YN ha hb S fun F' H' x y e r1 r2=>by rw[r1.flat e1,r2.flat e2];exact hs _ _ (q F' H' _ e (.bl _))
def LQ {a b:PyData}{v w:V}(ha:Qs K ta ρ a)(hb:Qs K tb ρ b)(e1:VU a=some v)(e2:VU b=some w)(hs:∀(H:Hp) (Q:VK),Q (.bl (!decide (v=w))) H->rNe v w H Q) :
 Qs K (tOp rNe ta tb) ρ (.bool (!decide (v=w))):=fun H0 F σ H Q S q =>
 YN ha hb S fun F' H' x y e r1 r2=>by rw[r1.flat e1,r2.flat e2];exact hs _ _ (q F' H' _ e (.bl _))
def P2 {x y:Int}:decide (V.int x=V.int y)=decide (x=y):=by
 by_cases h:x=y
 ·subst h;simp
 ·rw[XG h,XG (fun z=>h (by injection z))]
def Gx {x y:Int}(ha:Qs K ta ρ (.int x))(hb:Qs K tb ρ (.int y)):Qs K (tOp rEq ta tb) ρ (.bool (decide (x=y))):=by
 rw[<- P2];exact FP ha hb rfl rfl fun H Q q=>⟨rfl,q⟩
def RJ {x y:Int}(ha:Qs K ta ρ (.int x))(hb:Qs K tb ρ (.int y)):Qs K (tOp rNe ta tb) ρ (.bool (!decide (x=y))):=by
 rw[<- P2];exact LQ ha hb rfl rfl fun H Q q=>⟨rfl,q⟩
def Bi {a b:PyData}(ha:Qs K ta ρ a)(hb:Qs K tb ρ b)(fa:Jk a)(fb:Jk b):Qs K (tOp Rn ta tb) ρ (.bool (PyData.eqv a b)):=fun H0 F σ H Q S q =>
 YN ha hb S fun F' H' x y e r1 r2=>⟨a,b,r1.mono e.fh,r2.mono e.fh,fa,fb,q F' H' _ e (.bl _)⟩
def Wn:PyData->Bool
 |.none=>true
 |_=>false
def Rep.isNon {H:Hp}{x:V}{d:PyData}(r:Rep H x d):decide (x=.non)=Wn d:=by cases r<;>rfl
def HM {a:PyData}(ha:Qs K ta ρ a):Qs K (Rx ta) ρ (.bool (Wn a)):=fun H0 F σ H Q S q =>
 ha H0 F σ H _ S fun F1 H1 v x1 r1=>by rw[r1.isNon];exact q F1 H1 _ x1 (.bl _)
def Yy {a:PyData}(ha:Qs K ta ρ a):Qs K (RF ta) ρ (.bool (!Wn a)):=fun H0 F σ H Q S q =>
 ha H0 F σ H _ S fun F1 H1 v x1 r1=>by rw[r1.isNon];exact q F1 H1 _ x1 (.bl _)
def ZO {b:Bool}(h:Qs K ta ρ (.bool b)):Zz K (HA ta) ρ b:=fun H0 F σ H Q S q=>h H0 F σ H _ S fun F1 H1 v x1 r1=>by cases r1;exact⟨b,rfl,q F1 H1 x1⟩
def Yr {b:Bool}(h:Qs K ta ρ (.bool b)):Zz K (tB ta) ρ b:=fun H0 F σ H Q S q=>h H0 F σ H _ S fun F1 H1 v x1 r1=>by cases r1;exact⟨b,rfl,q F1 H1 x1⟩
def RN:Zz K U4 ρ true:=fun H0 F σ H Q S q=>q F H (QM.refl S.sub)
def Bh {b c:Bool}(h1:Zz K tA ρ b)(h2:b=true->Zz K tB' ρ c):Zz K (Rh tA tB') ρ (b&&c):=fun H0 F σ H Q S q=>h1 H0 F σ H _ S fun F1 H1 x1=>by
 cases b with
 |true=>rw[Xb rfl];exact h2 rfl H0 F1 σ H1 Q (S.ext x1) fun F2 H2 x2=>by simpa using q F2 H2 (x1.trans x2)
 |false=>rw[Xa Xp];simpa using q F1 H1 x1
def Mi {b c:Bool}(h1:Zz K tA ρ b)(h2:b=false->Zz K tB' ρ c):Zz K (tOr tA tB') ρ (b||c):=fun H0 F σ H Q S q=>h1 H0 F σ H _ S fun F1 H1 x1=>by
 cases b with
 |false=>rw[Xa Xp];exact h2 rfl H0 F1 σ H1 Q (S.ext x1) fun F2 H2 x2=>by simpa using q F2 H2 (x1.trans x2)
 |true=>rw[Xb rfl];simpa using q F1 H1 x1
def Ms {b:Bool}(h1:Zz K tA ρ b):Zz K (Rw tA) ρ (!b):=fun H0 F σ H Q S q=>h1 H0 F σ H _ S fun F1 H1 x1=>q F1 H1 x1
def Mr {b c:Bool}(h1:Qs K ta ρ (.bool b))(h2:b=true->Qs K tb ρ (.bool c)):Qs K (RK ta tb) ρ (.bool (b&&c)):=fun H0 F σ H Q S q=>h1 H0 F σ H _ S fun F1 H1 v x1 r1=>by
 cases r1
 refine⟨b,rfl,?_⟩
 cases b with
 |true=>rw[Xb rfl];exact h2 rfl H0 F1 σ H1 Q (S.ext x1) fun F2 H2 v x2 r2=>by simpa using q F2 H2 v (x1.trans x2) (by simpa using r2)
 |false=>rw[Xa Xp];exact q F1 H1 _ x1 (.bl _)
def Kn {g g':Int->Int->Bool}{x y z:Int}(ha:Qs K ta ρ (.int x))(hb:Qs K tb ρ (.int y))(hc:Qs K tc ρ (.int z)) :
 Qs K (HY (rI0 fun i j=>.bl (g i j)) (rI0 fun i j=>.bl (g' i j)) ta tb tc) ρ (.bool (g x y&&g' y z)):=fun H0 F σ H Q S q =>
 ha H0 F σ H _ S fun F1 H1 v x1 r1=>hb H0 F1 σ H1 _ (S.ext x1) fun F2 H2 w x2 r2=>by
  cases r1;cases r2
  refine⟨x,y,rfl,rfl,g x y,rfl,?_⟩
  cases e:g x y with
  |true=>rw[Xb rfl];exact hc H0 F2 σ H2 _ (S.ext (x1.trans x2)) fun F3 H3 u x3 r3=>by cases r3;exact⟨y,z,rfl,rfl,by simpa [e] using q F3 H3 _ ((x1.trans x2).trans x3) (by rw[e];exact .bl _)⟩
  |false=>rw[Xa Xp];simpa [e] using q F2 H2 _ (x1.trans x2) (by rw[e];exact .bl _)
def QD:Vh K Zv ρ []:=fun H0 F σ H Q S q=>q F H [] (QM.refl S.sub) .nil
def Qt {t:TA}{d:PyData}{ts:List OT}(h1:Qs K ta ρ d)(h2:Vh K t ρ ts):Vh K (Zl ta t) ρ (.fz d::ts):=fun H0 F σ H Q S q =>
 h1 H0 F σ H _ S fun F1 H1 v x1 r1=>h2 H0 F1 σ H1 _ (S.ext x1) fun F2 H2 vs x2 r2=>q F2 H2 _ (x1.trans x2) (.fz (r1.mono x2.ff) r2)
def HG {t:TA}{i:Nat}{ns:Ql}{ts:List OT}(e:ρ[i]?=some (some (.scr ns)))(h2:Vh K t ρ ts):Vh K (Zl (Za i) t) ρ (.scr ns::ts):=fun H0 F σ H Q S q=>by
 obtain⟨fp,h,_⟩:=S.fp;obtain⟨v,e1,_,a,rfl,e3⟩:=h i _ e
 exact⟨_,e1,h2 H0 F σ H _ S fun F2 H2 vs x2 r2=>q F2 H2 _ x2 (.scr (e3.mono x2.ff) r2)⟩
def Sm {t:TA}{i:Nat}{Ψ:ZP}{ts:List OT}(e:ρ[i]?=some (some (.zow Ψ)))(h2:Vh K t ρ ts):Vh K (Zl (Za i) t) ρ (.zow Ψ::ts):=fun H0 F σ H Q S q=>by
 obtain⟨fp,h,_⟩:=S.fp;obtain⟨v,e1,_,e3⟩:=h i _ e
 exact⟨_,e1,h2 H0 F σ H _ S fun F2 H2 vs x2 r2=>q F2 H2 _ x2 (.zow (Ψ.mono x2.ff e3) r2)⟩
def fzs (ds:Qd):List OT:=ds.map OT.fz
theorem Args.reps {F:Hp}:∀{vs:List V} {ds:Qd},Args K F vs (fzs ds)->Q0 F vs ds
 |_,[],.nil=>.nil
 |_,_::_,.fz r t=>.cons r (Args.reps t)
def Wi {t:TA}{ds:Qd}(h:Vh K t ρ (fzs ds))(hl:ds.length<=1000):Qs K (Mb t) ρ (.tuple ds):=fun H0 F σ H Q S q =>
 h H0 F σ H _ S fun F1 H1 vs x1 r1=>⟨by rw[r1.reps.length];exact X9 (VX hl),fun p hp=>by
  have s1:=x1.fh;exact q _ _ _ (x1.trans (QM.new s1 hp)) (.tup Zg (r1.reps.mono (QN.new (s1.free hp))))⟩
def G8 {F0 H0 F H:Hp}{p:Addr}{xs:List V}{ds:Qd}(x:QM F0 H0 F H)(hp:H p=none)(r:Q0 F xs ds):QM F0 H0 F (upd H p (.lst xs))/\(∀a∈[p],H0 a=none)/\Z6 K F (upd H p (.lst xs)) (.ref p) (.ol ds) [p] :=
 ⟨x.trans (QM.own x.fh hp),fun a ha=>by
  have e:a=p:=by simpa using ha
  subst e;exact x.hh.free hp,p,rfl,rfl,x.fh.free hp,xs,Zg,r⟩
def Y8 {t:TA}{ds:Qd}(h:Vh K t ρ (fzs ds))(hl:ds.length<=1000):EvO K (Me t) ρ (.ol ds):=fun H0 F σ H Q S q =>
 h H0 F σ H _ S fun F1 H1 vs x1 r1=>⟨by rw[r1.reps.length];exact X9 (VX hl),fun p hp=>by
  obtain⟨a,b,c⟩:=G8 (K:=K) x1 hp r1.reps;exact q _ _ _ _ a b c⟩
def Wt {F H:Hp}{x:V}{ds:Qd}(r:Rep F x (.list ds))(s:QN F H):∃a xs,x=.ref a/\SqL K H a xs/\Q0 F xs ds/\H a=some (.lst xs):=by
 cases r with
 |lst ha rr=>exact⟨_,_,rfl,SqL.of (s _ _ ha),rr,s _ _ ha⟩
def MY {F H:Hp}{x:V}{ds:Qd}(r:Rep F x (.tuple ds))(s:QN F H):∃a xs,x=.ref a/\SqT K H a xs/\Q0 F xs ds/\H a=some (.tup xs):=by
 cases r with
 |tup ha rr=>exact⟨_,_,rfl,SqT.of (s _ _ ha),rr,s _ _ ha⟩
def B4 {F:Hp}{xs:List V}{ds:Qd}{i:Int}{d:PyData}(r:Q0 F xs ds)(e:atI ds i=some d):∃z,atI xs i=some z/\Rep F z d:=by
 obtain⟨j,e1,e2⟩:=Sf e;obtain⟨z,z1,z2⟩:=r.get e1;refine⟨z,?_,z2⟩;unfold atI;rw[r.length,e2];exact z1
def Y7 {ds:Qd}{i:Int}{d:PyData}(ha:Qs K ta ρ (.list ds))(hb:Qs K tb ρ (.int i))(e:atI ds i=some d):Qs K (tOp (rIx K) ta tb) ρ d:=fun H0 F σ H Q S q =>
 YN ha hb S fun F' H' x y x1 r1 r2=>by
  obtain⟨a,xs,rfl,h1,h2,_⟩:=Wt (K:=K) r1 x1.fh;obtain⟨z,z1,z2⟩:=B4 h2 e
  cases r2
  exact .inl ⟨a,xs,i,z,rfl,rfl,h1,z1,q F' H' z x1 z2⟩
def ZB {ds:Qd}{i:Int}{d:PyData}(ha:Qs K ta ρ (.tuple ds))(hb:Qs K tb ρ (.int i))(e:atI ds i=some d):Qs K (tOp (rIx K) ta tb) ρ d:=fun H0 F σ H Q S q =>
 YN ha hb S fun F' H' x y x1 r1 r2=>by
  obtain⟨a,xs,rfl,h1,h2,_⟩:=MY (K:=K) r1 x1.fh;obtain⟨z,z1,z2⟩:=B4 h2 e
  cases r2
  exact .inr (.inl ⟨a,xs,i,z,rfl,rfl,h1,z1,q F' H' z x1 z2⟩)
def L4 {i:Nat}{ds:Qd}{k:Int}{d:PyData}(e0:ρ[i]?=some (some (.ol ds)))(hb:Qs K tb ρ (.int k))(e:atI ds k=some d):Qs K (tOp (rIx K) (Za i) tb) ρ d:=fun H0 F σ H Q S q=>by
 obtain⟨fp,h,_⟩:=S.fp;obtain⟨v,e1,a,rfl,_,o1⟩:=h i _ e0;refine⟨_,e1,hb H0 F σ H _ S fun F1 H1 y x1 r1=>?_⟩;obtain⟨f1,xs,f2,f3⟩:=o1.ext x1;obtain⟨z,z1,z2⟩:=B4 f3 e
 cases r1
 exact .inl ⟨a,xs,k,z,rfl,rfl,SqL.of f2,z1,q F1 H1 z x1 z2⟩
def LF {i:Nat}{ns:Ql}{k n:Int}(e0:ρ[i]?=some (some (.scr ns)))(hb:Qs K tb ρ (.int k))(e:atI ns k=some n):Qs K (tOp (rIx K) (Za i) tb) ρ (.int n):=fun H0 F σ H Q S q=>by
 obtain⟨fp,h,_⟩:=S.fp;obtain⟨v,e1,_,a,rfl,sc⟩:=h i _ e0;refine⟨_,e1,hb H0 F σ H _ S fun F1 H1 y x1 r1=>?_⟩
 cases r1
 obtain⟨j,j1,j2⟩:=Sf e
 have z1:atI (ns.map V.int) k=some (.int n):=by
  unfold atI;rw[Xh,j2];show(ns.map V.int)[j]?=_;rw[Xj,j1];rfl
 exact .inl ⟨a,_,k,_,rfl,rfl,(x1.ff.trans x1.fh).seq sc.sq,z1,q F1 H1 _ x1 (.int n)⟩
def QC (R:List OT->OT->Prop):Sp:=fun vs H Q _=>∃F ts r,KTs K F/\QN F H/\Args K F vs ts/\R ts r/\∀F' H' v p,QM F H F' H'->(∀a∈p,H a=none)->Z6 K F' H' v r p->Q v H'
def Ua {R:List OT->OT->Prop}{t:TA}{E:XK}{ts:List OT}{r:OT}(h:Vh K t ρ ts)(hR:R ts r):EvO K (Wz (QC (K:=K) R) [] E t) ρ r:=fun H0 F σ H Q S q =>
 h H0 F σ H _ S fun F1 H1 vs x1 r1=>by
  refine⟨F1,ts,r,(S.ext x1).kt,x1.fh,by rw[X2];exact r1,hR,fun F2 H2 v p x2 hp ok=>q F2 H2 v p (x1.trans x2) (fun a ha=>x1.hh.free (hp a ha)) ok⟩
def Zk {R:List OT->OT->Prop}{t:TA}{E:XK}{ts:List OT}{d:PyData}(h:Vh K t ρ ts)(hR:R ts (.fz d)):Qs K (Wz (QC (K:=K) R) [] E t) ρ d:=(Ua h hR).e
def Ug {R:List OT->OT->Prop}{t:TA}{E:XK}{ts:List OT}{ds:Qd}(h:Vh K t ρ ts)(hR:R ts (.ol ds)):Qs K (Wz (QC (K:=K) R) [] E t) ρ (.list ds):=(Ua h hR).fz
end
def Df.ev {P:Program}{w:World}{K:W.Frag}{mg:Str->Qf}{base:Heap}{x:Str}{st:Stmt}{N ps:Qh}{k:Nat}{R:List OT->OT->Prop}(D:Df K mg x st ps)(S:Qq N ps (Q8 st))(len:∀ts r,R ts r->ts.length=ps.length)
 (Xbp:∀(f:Addr) (cdv:Value) (A:Around) (outer:List Env) (s:Shared) (H:Hp) (E:XK) (ts:List OT) (r:OT),Room k (A.deeper (envOfC x (Q8 st) s.heap.objs.size f cdv))->R ts r ->
  ∃t,PSs (Ya CX0 P w K mg base N x (Q8 st) f cdv A outer s H E).nox (Vc st) t/\Q9 K t (ts.map some++List.replicate (N.length-ts.length) none) { nx:=fun _=>r=.fz .none,rt:=fun r'=>r'=r }):Qy P w K mg base x ps (k+1) (QC (K:=K) R):=by
 refine D.cal S (fun vs H Q E ⟨F,ts,r,_,_,ha,hR,_⟩=>ha.length.trans (len ts r hR)) fun f cdv A outer s H vs Q E hr ⟨F,ts,r,kt,sm,ha,hR,q⟩=>?_;obtain⟨t,h1,h2⟩:=Xbp f cdv A outer s H E ts r hr hR;refine⟨t,h1,h2 F H F (start N vs) H _ (QM.refl sm) ⟨kt,sm,?_,fun _=>[],fun i t' e=>?_,fun i j a h=>(nomatch h),fun i a h=>(nomatch h)⟩ ⟨fun F' σ' H' ρ' x' _ e=>?_,fun F' H' v r' p x' hp ok e=>?_,fun _ _ _ _ _ _ z=>False.elim z,fun _ _ _ _ _ _ z=>False.elim z⟩⟩
 ·unfold start
  simp[ha.length]
 ·have hlt:i<ts.length:=by
   by_cases z:i<ts.length
   ·exact z
   ·rw[GR (by simpa using z)]at e
    have:=List.mem_of_getElem? e
    simp at this
  rw[JG (by simpa using hlt),Xj]at e;have e':ts[i]?=some t':=by
   cases z:ts[i]? with
   |none=>rw[z]at e;simp at e
   |some w=>rw[z]at e;simp at e;rw[e]
  obtain⟨v,e1,e2⟩:=ha.get (H:=H) i t' e';refine⟨v,?_,e2⟩;unfold start;have hl2:i<vs.length:=by rw[ha.length];exact hlt
  rw[JG (by simpa using hl2),Xj,e1];rfl
 ·subst e
  exact q F' H' _ [] x' (fun _ z=>nomatch z) ⟨rfl,.non⟩
 ·subst e
  exact q F' H' v p x' hp ok
theorem Lh:∀{as bs:Qg},as.map V.ref=bs.map V.ref->as=bs
 |[],[],_=>rfl
 |[],_::_,h=>by simp at h
 |_::_,[],h=>by simp at h
 |a::as,b::bs,h=>by
   simp only[Xs,List.cons.injEq]at h;obtain⟨h1,h2⟩:=h;injection h1 with h1;rw[h1,Lh h2]
def PB (x:Int)(ns:Ql):inV (.int x) (ns.map V.int)=decide (x∈ns):=by
 induction ns with
 |nil=>rfl
 |cons b l ih =>
   show(eqV (.int b) (.int x)||inV (.int x) (l.map V.int))=_
   rw[ih];show((b==x)||decide (x∈l))=_
   by_cases hx:x=b
   ·subst hx;simp
   ·have:(b==x)=false:=by rw[beq_eq_false_iff_ne];exact fun z=>hx z.symm
    rw[this];simp[hx]
section
variable {K:W.Frag}{ρ:QL}{ta tb tc te:TE}{tA:TT}{t u:TS}{D:PEnds}
def ZI (h:D.nx ρ):Q9 K R0 ρ D:=fun F0 H0 F σ H E x S C=>C.nx F σ H ρ x S h
def QG (h:Q9 K t ρ { D with nx:=fun ρ'=>Q9 K u ρ' D }):Q9 K (Hk t u) ρ D:=fun F0 H0 F σ H E x S C =>
 h F0 H0 F σ H { E with nx:=u E } x S ⟨fun F' σ' H' ρ' x' S' q=>q F0 H0 F' σ' H' E x' S' C,C.rt,C.bk,C.ct⟩
def Wl (M:QL->Prop)(h:Q9 K t ρ { D with nx:=M })(h2:∀ρ',M ρ'->Q9 K u ρ' D):Q9 K (Hk t u) ρ D:=fun F0 H0 F σ H E x S C =>
 h F0 H0 F σ H { E with nx:=u E } x S ⟨fun F' σ' H' ρ' x' S' q=>h2 ρ' q F0 H0 F' σ' H' E x' S' C,C.rt,C.bk,C.ct⟩
def VW {ρ':QL}(f:Fgt ρ ρ')(h:Q9 K t ρ' D):Q9 K t ρ D:=fun F0 H0 F σ H E x S C=>h F0 H0 F σ H E x (S.fgt f) C
def Yi (i:Nat){ds:Qd}(e:ρ[i]?=some (some (.ol ds)))(h:Q9 K t (ρ.set i (some (.fz (.list ds)))) D):Q9 K t ρ D:=fun F0 H0 F σ H E x S C=>by
 obtain⟨a,xs,e1,e2,e3,_,_,S'⟩:=S.freeze e;exact h F0 H0 _ σ H E (x.freeze e1 e2 e3) S' C
def YM {r:OT}(h:EvO K te ρ r)(hr:D.rt r):Q9 K (U3 te) ρ D:=fun F0 H0 F σ H E x S C =>
 h H0 F σ H _ S fun F' H' v p x' hp ok=>C.rt F' H' v r p (x.trans x') (fun a ha=>x.hh.free (hp a ha)) ok hr
def ZD {d:PyData}(h:Qs K te ρ d)(hr:D.rt (.fz d)):Q9 K (U3 te) ρ D:=YM h.o hr
def G7 {i:Nat}{ds:Qd}(e:ρ[i]?=some (some (.ol ds)))(hr:D.rt (.ol ds)):Q9 K (U3 (Za i)) ρ D:=fun F0 H0 F σ H E x S C=>by
 obtain⟨fp,h,_,h5⟩:=S.fp;obtain⟨v,e1,ok⟩:=h i _ e
 exact⟨v,e1,C.rt F H v _ _ x (fun a ha=>(h5 i a ha).1) ok hr⟩
def P0 {i:Nat}{ds:List (Qd)}(e:ρ[i]?=some (some (.oll ds)))(hr:D.rt (.oll ds)):Q9 K (U3 (Za i)) ρ D:=fun F0 H0 F σ H E x S C=>by
 obtain⟨fp,h,_,h5⟩:=S.fp;obtain⟨v,e1,ok⟩:=h i _ e
 exact⟨v,e1,C.rt F H v _ _ x (fun a ha=>(h5 i a ha).1) ok hr⟩
def ZV {b:Bool}(h:Zz K tA ρ b)(h1:b=true->Q9 K t ρ D)(h2:b=false->Q9 K u ρ D):Q9 K (NY tA t u) ρ D:=fun F0 H0 F σ H E x S C =>
 h H0 F σ H _ S fun F' H' x'=>by
  cases b with
  |true=>rw[Xb rfl];exact h1 rfl F0 H0 F' σ H' E (x.trans x') (S.ext x') C
  |false=>rw[Xa Xp];exact h2 rfl F0 H0 F' σ H' E (x.trans x') (S.ext x') C
def ZW {i:Nat}{r:OT}(h:EvO K te ρ r)(hn:D.nx (ρ.set i (some r))):Q9 K (Wa te (Jq i)) ρ D:=fun F0 H0 F σ H E x S C =>
 h H0 F σ H _ S fun F' H' v p x' hp ok=>by
  refine C.nx F' _ H' _ (x.trans x') ((S.ext x').set ok (fun a ha=>x.hh.free (hp a ha)) (hn:=fun a ha j w t' q e1 e2 ok'=>?_)) hn;obtain⟨fp,g1,g2,g3⟩:=S.fp;obtain⟨w',f1,f2⟩:=g1 j t' e1;intro hq;have f3:=f2.ext x';rw[e2]at f1;cases f1
  have same:∀b∈q,b∈fp j:=by
   cases t' with
   |fz d=>rw[ok'.1];intro b hb;cases hb
   |zow Ψ=>rw[ok'.1];intro b hb;cases hb
   |ol ds =>
     obtain⟨b1,z1,z2,z3⟩:=ok';obtain⟨b2,y1,y2,y3⟩:=f3;rw[z1]at y1;cases y1;rw[z2,y2];exact fun _ z=>z
   |oll dss =>
     obtain⟨b1,bs1,z1,z2,z3,z4,z5,z6⟩:=ok';obtain⟨b2,bs2,y1,y2,y3,y4,y5,y6⟩:=f3;rw[z1]at y1;cases y1;rw[z5]at y5;have e5:bs1.map V.ref=bs2.map V.ref:=by injection y5 with z;injection z
     have e6:bs1=bs2:=Lh e5;rw[z2,y2,e6];exact fun _ z=>z
   |scr ns=>rw[ok'.1];intro b hb;cases hb
   |own v0 Φ=>exact fun b hb=>Φ.uniq f3.2 ok'.2 b hb
  exact(g3 j a (same a hq)).2 (hp a ha)
def Zw {i:Nat}{d:PyData}(h:Qs K te ρ d)(hn:D.nx (ρ.set i (some (.fz d)))):Q9 K (Wa te (Jq i)) ρ D:=ZW h.o hn
def Zj {i:Nat}{d:PyData}:GTo K (Jq i) d ρ (ρ.set i (some (.fz d))):=fun H0 F σ H x Q S r q=>q _ (S.setF r)
def Y6:Ma K Hh [] ρ ρ:=fun H0 F σ H xs Q S r q=>by cases r;exact⟨rfl,q _ S⟩
def Z8 {g:TG}{gs:TGs}{d:PyData}{ds:Qd}{ρ1 ρ2:QL}(h1:GTo K g d ρ ρ1)(h2:Ma K gs ds ρ1 ρ2):Ma K (Hz g gs) (d::ds) ρ ρ2:=fun H0 F σ H xs Q S r q=>by
 cases r with
 |cons r1 r2=>exact⟨_,_,rfl,h1 H0 F σ H _ _ S r1 fun σ1 S1=>h2 H0 F σ1 H _ _ S1 r2 q⟩
def Yv {n:Nat}{gs:TGs}{ds:Qd}{ρ1:QL}(h:Ma K gs ds ρ ρ1)(hn:ds.length=n):GTo K (DX K n gs) (.tuple ds) ρ ρ1:=fun H0 F σ H x Q S r q=>by
 obtain⟨a,xs,rfl,h1,h2,_⟩:=MY (K:=K) r S.sub
 exact⟨a,xs,rfl,h1,by rw[h2.length,hn],h H0 F σ H xs Q S h2 q⟩
def Mt {g:TG}{d:PyData}{ρ':QL}(h:Qs K te ρ d)(hg:GTo K g d ρ ρ')(hn:D.nx ρ'):Q9 K (Wa te g) ρ D:=fun F0 H0 F σ H E x S C =>
 h H0 F σ H _ S fun F' H' v x' r=>hg H0 F' σ H' v _ (S.ext x') r fun σ' S'=>C.nx F' σ' H' ρ' (x.trans x') S' hn
def QM.wr {F0 H0 F H:Hp}{a:Addr}{o:HO}(x:QM F0 H0 F H)(h0:H0 a=none)(hf:F a=none):QM F0 H0 F (upd H a o) :=
 ⟨x.hh.upd h0,x.ff,x.fh.upd hf,x.fr⟩
def B9 {i:Nat}{ds:Qd}{d:PyData}(e:ρ[i]?=some (some (.ol ds)))(h:Qs K te ρ d)(hl:ds.length<1000)(hn:D.nx (ρ.set i (some (.ol (ds++[d]))))) :
 Q9 K (U5 (tBM K "list" GC (Za i) (Zl te Zv))) ρ D:=fun F0 H0 F σ H E x S C=>by
 obtain⟨a,xs,e1,e2,e3,_⟩:=S.write e;refine⟨_,e1,.inl ⟨rfl,_,SqL.of e2⟩,h H0 F σ H _ S fun F1 H1 v x1 r1=>?_⟩;obtain⟨a',xs',f1,f2,f3,f4,f5,f6⟩:=(S.ext x1).write e;rw[e1]at f1;cases f1;refine⟨a,xs',v,rfl,rfl,f2,by rw[f3.length];exact VX (by omega),?_⟩;exact C.nx F1 σ _ _ ((x.trans x1).wr f4 f5) (f6 _ _ (f3.snoc r1)) hn
def Sz {i:Nat}{ds:Qd}{d:PyData}{k:Int}{j:Nat}(e:ρ[i]?=some (some (.ol ds)))(h:Qs K te ρ d)(hi:Qs K tb ρ (.int k))(hj:ixN ds.length k=some j)(hn:D.nx (ρ.set i (some (.ol (ds.set j d))))) :
 Q9 K (Wa te (Mc (Za i) tb Gr)) ρ D:=fun F0 H0 F σ H E x S C =>
 h H0 F σ H _ S fun F1 H1 v x1 r1=>by
  obtain⟨a,xs,e1,e2,e3,_⟩:=(S.ext x1).write e;refine⟨_,e1,hi H0 F1 σ H1 _ (S.ext x1) fun F2 H2 y x2 r2=>?_⟩;obtain⟨a',xs',f1,f2,f3,f4,f5,f6⟩:=(S.ext (x1.trans x2)).write e;rw[e1]at f1;cases f1
  cases r2
  refine⟨a,xs',k,j,rfl,rfl,f2,by rw[f3.length];exact hj,?_⟩;exact C.nx F2 σ _ _ ((x.trans (x1.trans x2)).wr f4 f5) (f6 _ _ (f3.set (r1.mono x2.ff) j)) hn
def SS {f:Int->Int->Int}{i:Nat}{ds:Qd}{k m n:Int}(e:ρ[i]?=some (some (.ol ds)))(hi:Qs K tb ρ (.int k))(h0:0<=k)(hm:ds[k.toNat]?=some (.int m))(h:Qs K te ρ (.int n))
 (hn:D.nx (ρ.set i (some (.ol (ds.set k.toNat (.int (f m n))))))):Q9 K (HK (Za i) tb te (Hy K) (ipI f) Gr) ρ D:=fun F0 H0 F σ H E x S C=>by
 obtain⟨a,xs,e1,e2,e3,_⟩:=S.write e;refine⟨_,e1,hi H0 F σ H _ S fun F1 H1 y x1 r1=>?_⟩
 cases r1
 obtain⟨a1,xs1,f1,f2,f3,_⟩:=(S.ext x1).write e;rw[e1]at f1;cases f1;obtain⟨z,z1,z2⟩:=f3.get hm;refine⟨a,xs1,k,z,rfl,rfl,SqL.of f2,h0,z1,h H0 F1 σ H1 _ (S.ext x1) fun F2 H2 w x2 r2=>?_⟩
 cases r2
 cases z2
 refine⟨m,n,rfl,rfl,?_⟩;obtain⟨a2,xs2,g1,g2,g3,g4,g5,g6⟩:=(S.ext (x1.trans x2)).write e;rw[e1]at g1;cases g1;have hlt:k.toNat<ds.length:=(Xe.mp hm).1;refine⟨a,xs2,k,k.toNat,rfl,rfl,g2,?_,?_⟩
 ·rw[g3.length]
  unfold ixN;rw[Xb h0,Xb (by omega)]
 ·exact C.nx F2 σ _ _ ((x.trans (x1.trans x2)).wr g4 g5) (g6 _ _ (g3.set (.int _) _)) hn
def QM.base {F0 H0 F H:Hp}(x:QM F0 H0 F H):QM F H0 F H:=⟨x.hh,QN.refl _,x.fh,fun _ h=>.inl h⟩
def QM.rebase {F0 H0 F H F' H':Hp}(x:QM F0 H0 F H)(y:QM F H0 F' H'):QM F0 H0 F' H' :=
 ⟨y.hh,x.ff.trans y.ff,y.fh,fun a h=>(y.fr a h).elim (fun z=>x.fr a z) .inr⟩
def YO {wi:TI}{g:TG}{tbd:TS}{ds:Qd}(P:Nat->QL->Prop)(hi:EvI K wi ρ ds)(h0:P 0 ρ)
 (hs:∀(i:Nat) (d:PyData) (ρ':QL),ds[i]?=some d->P i ρ'->∃ρ2,GTo K g d ρ' ρ2/\Q9 K tbd ρ2 { nx:=P (i+1),ct:=P (i+1),bk:=D.nx,rt:=D.rt }) (hd:∀ρ',P ds.length ρ'->D.nx ρ'):Q9 K (Gm wi g tbd) ρ D:=fun F0 H0 F σ H E x S C =>
 hi H0 F σ H _ S fun F1 H1 J x1 W=>by
  refine⟨fun i m σ H=>m=ds.length-i/\i<=ds.length/\∃F ρ',QM F0 H0 F H/\QN F1 F/\QY K H0 F ρ' σ H/\P i ρ',⟨ds.length,by simp,X4 _,F1,ρ,x.trans x1,QN.refl _,S.ext x1,h0⟩,?_⟩
  rintro i m σ' H' ⟨rfl,hle,F',ρ',x',s',S',p⟩
  obtain⟨w1,w2⟩:=W F' H' s' S'.sub
  by_cases hlt:i<ds.length
  ·have e:ds[i]?=some ds[i]:=by simp[hlt]
   obtain⟨go,yl⟩:=w2 i _ e;refine .inr ⟨go,fun σ2 H2=>∃F2 ρ2,QM F0 H0 F2 H2/\QN F1 F2/\QY K H0 F2 ρ2 σ2 H2/\P (i+1) ρ2,fun σ2 H2 q=>⟨ds.length-(i+1),by omega,rfl,hlt,q⟩,fun v H3 y=>?_⟩;obtain⟨F3,x3,r3⟩:=yl v H3 y;obtain⟨ρ2,hg,hb⟩:=hs i _ ρ' e p;refine hg H0 F3 σ' H3 v _ (S'.ext x3) r3 fun σ2 S2=>?_;have big:QM F0 H0 F3 H3:=x'.trans x3;have s13:=s'.trans x3.ff
   exact hb F3 H0 F3 σ2 H3 _ big.base S2 ⟨fun F4 σ4 H4 ρ4 x4 S4 q4=>⟨F4,ρ4,big.rebase x4,s13.trans x4.ff,S4,q4⟩,fun F4 H4 v4 r4 p4 x4=>C.rt F4 H4 v4 r4 p4 (big.rebase x4),
    fun F4 σ4 H4 ρ4 x4=>C.nx F4 σ4 H4 ρ4 (big.rebase x4),fun F4 σ4 H4 ρ4 x4 S4 q4=>⟨F4,ρ4,big.rebase x4,s13.trans x4.ff,S4,q4⟩⟩
  ·have e:i=ds.length:=by omega
   subst e;exact .inl ⟨w1,C.nx F' σ' H' ρ' x' S' (hd ρ' p)⟩
def YU {wi:TI}{g:TG}{tbd:TS}{ds:Qd}(R:Nat->QL)(hi:EvI K wi ρ ds)(h0:Fgt ρ (R 0))
 (hs:∀(i:Nat) (d:PyData),ds[i]?=some d->∃ρ2,GTo K g d (R i) ρ2/\Q9 K tbd ρ2 { nx:=fun ρ'=>Fgt ρ' (R (i+1)),ct:=fun ρ'=>Fgt ρ' (R (i+1)),bk:=D.nx,rt:=D.rt }) (hd:∀ρ',Fgt ρ' (R ds.length)->D.nx ρ'):Q9 K (Gm wi g tbd) ρ D:=by
 refine YO (fun i ρ'=>Fgt ρ' (R i)) hi h0 (fun i d ρ' e f=>?_) hd;obtain⟨ρ2,h1,h2⟩:=hs i d e
 exact⟨ρ2,fun H0 F σ H x Q S r q=>h1 H0 F σ H x Q (S.fgt f) r q,h2⟩
def J6 {c:TT}{tbd:TS}(P:Nat->QL->Prop)(m0:Nat)(h0:P m0 ρ)
 (hs:∀(m:Nat) (ρ':QL),P m ρ'->∃b,Zz K c ρ' b/\(b=true->Q9 K tbd ρ' { nx:=fun ρ2=>∃m',m'<m/\P m' ρ2,ct:=fun ρ2=>∃m',m'<m/\P m' ρ2,bk:=D.nx,rt:=D.rt })/\(b=false->D.nx ρ')):Q9 K (Sw c tbd) ρ D:=fun F0 H0 F σ H E x S C=>by
 refine⟨fun m σ H=>∃F ρ',QM F0 H0 F H/\QY K H0 F ρ' σ H/\P m ρ',⟨m0,F,ρ,x,S,h0⟩,?_⟩
 rintro m σ' H' ⟨F',ρ',x',S',p⟩
 obtain⟨b,h1,h2,h3⟩:=hs m ρ' p;refine h1 H0 F' σ' H' _ S' fun F1 H1 x1=>?_;have X1:=x'.trans x1;have S1:=S'.ext x1
 cases b with
 |false=>rw[Xa Xp];exact C.nx F1 σ' H1 ρ' X1 S1 (h3 rfl)
 |true =>
   rw[Xb rfl];refine⟨fun σ2 H2=>∃m',m'<m/\∃F2 ρ2,QM F0 H0 F2 H2/\QY K H0 F2 ρ2 σ2 H2/\P m' ρ2,fun σ2 H2 h=>h,?_⟩;have go:∀F4 σ4 H4 ρ4,QM F0 H0 F4 H4->QY K H0 F4 ρ4 σ4 H4->(∃m',m'<m/\P m' ρ4)->∃m',m'<m/\∃F2 ρ2,QM F0 H0 F2 H4/\QY K H0 F2 ρ2 σ4 H4/\P m' ρ2:=fun F4 σ4 H4 ρ4 x4 S4 ⟨m',q1,q2⟩=>⟨m',q1,F4,ρ4,x4,S4,q2⟩;exact h2 rfl F0 H0 F1 σ' H1 _ X1 S1 ⟨go,C.rt,C.nx,go⟩
def Vv {ds:Qd}(h:Qs K ta ρ (.list ds)):EvI K (HC K ta) ρ ds:=fun H0 F σ H R S q =>
 h H0 F σ H _ S fun F1 H1 v x1 r1=>by
  obtain⟨a,xs,rfl,h1,h2,h3⟩:=Wt (K:=K) r1 x1.fh
  have hF:F1 a=some (.lst xs):=by
   cases r1 with
   |lst ha rr =>
     have:=x1.fh _ _ ha
     rw[h3]at this;cases this;exact ha
  refine⟨a,rfl,⟨xs,h1⟩,q F1 H1 _ x1 fun F2 H2 s2 s3=>?_⟩;have hq:SqL K H2 a xs:=SqL.of (s3 _ _ (s2 _ _ hF));refine⟨⟨xs,hq,by rw[h2.length];exact Xx _⟩,fun i d e=>?_⟩;obtain⟨z,z1,z2⟩:=h2.get e;refine⟨⟨xs,z,hq,z1⟩,fun y H3 hy=>?_⟩;obtain⟨rfl,hy⟩:=hy;have e2:=hy xs hq;rw[z1]at e2;cases e2
  exact⟨F2,QM.refl s3,z2.mono s2⟩
def R9 {ds:Qd}(h:Qs K ta ρ (.tuple ds)):EvI K (Ro K ta) ρ ds:=fun H0 F σ H R S q =>
 h H0 F σ H _ S fun F1 H1 v x1 r1=>by
  obtain⟨a,xs,rfl,h1,h2,h3⟩:=MY (K:=K) r1 x1.fh
  have hF:F1 a=some (.tup xs):=by
   cases r1 with
   |tup ha rr =>
     have:=x1.fh _ _ ha
     rw[h3]at this;cases this;exact ha
  refine⟨a,rfl,⟨xs,h1⟩,q F1 H1 _ x1 fun F2 H2 s2 s3=>?_⟩;have hq:SqT K H2 a xs:=SqT.of (s3 _ _ (s2 _ _ hF));refine⟨⟨xs,hq,by rw[h2.length];exact Xx _⟩,fun i d e=>?_⟩;obtain⟨z,z1,z2⟩:=h2.get e;refine⟨⟨xs,z,hq,z1⟩,fun y H3 hy=>?_⟩;obtain⟨rfl,hy⟩:=hy;have e2:=hy xs hq;rw[z1]at e2;cases e2
  exact⟨F2,QM.refl s3,z2.mono s2⟩
def ZQ (lo:Int)(n:Nat):Qd:=(List.range n).map fun(i:Nat)=>PyData.int (lo+(i:Int))
def YB {lo:Int}{n i:Nat}{d:PyData}(e:(ZQ lo n)[i]?=some d):i<n/\d=.int (lo+(i:Int)):=by
 unfold ZQ at e;rw[Xj]at e;by_cases h:i<n
 ·simp[h]at e;exact⟨h,e.symm⟩
 ·simp[h]at e
def Y0 {lo:Int}{n:Nat}:(ZQ lo n).length=n:=by simp[ZQ]
def T5 {F:Hp}{lo:Int}{n:Nat}:Kj F (Itr lo n) (ZQ lo n):=fun F2 H2 s2 s3=>by
 refine⟨by show n<=_;rw[Y0];exact Xx _,fun i d e=>?_⟩;obtain⟨h1,rfl⟩:=YB e;refine⟨h1,fun x H3 hy=>?_⟩;obtain⟨rfl,rfl⟩:=hy
 exact⟨F2,QM.refl s3,.int _⟩
def Ws {t:TA}{n:Int}(h:Vh K t ρ [.fz (.int n)])(h1 : -(2^62)<=n)(h2:n<2^62):EvI K (Re t) ρ (ZQ 0 n.toNat):=fun H0 F σ H R S q =>
 h H0 F σ H _ S fun F1 H1 vs x1 r1=>by
  cases r1 with
  |fz r r1=>cases r1;cases r;exact⟨n,rfl,h1,h2,q F1 H1 _ x1 T5⟩
def K1 {t:TA}{m n:Int}(h:Vh K t ρ [.fz (.int m),.fz (.int n)])(h1 : -(2^62)<=m/\m<2^62 /\ -(2^62)<=n/\n<2^62):EvI K (RB t) ρ (ZQ m (n-m).toNat):=fun H0 F σ H R S q =>
 h H0 F σ H _ S fun F1 H1 vs x1 r1=>by
  cases r1 with
  |fz r r1 =>
    cases r1 with
    |fz r' r1=>cases r1;cases r;cases r';exact⟨m,n,rfl,h1,q F1 H1 _ x1 T5⟩
def Gk (hi:Int)(n:Nat):Qd:=(List.range n).map fun(i:Nat)=>PyData.int (hi-(i:Int))
def P9 {hi:Int}{n i:Nat}{d:PyData}(e:(Gk hi n)[i]?=some d):i<n/\d=.int (hi-(i:Int)):=by
 unfold Gk at e;rw[Xj]at e;by_cases h:i<n
 ·simp[h]at e;exact⟨h,e.symm⟩
 ·simp[h]at e
def P1 {hi:Int}{n:Nat}:(Gk hi n).length=n:=by simp[Gk]
def FO {t:TA}{m n:Int}(h:Vh K t ρ [.fz (.int m),.fz (.int n),.fz (.int (-1))])(h1 : -(2^62)<=m/\m<2^62 /\ -(2^62)<=n/\n<2^62):EvI K (RA t) ρ (Gk m (m-n).toNat):=fun H0 F σ H R S q =>
 h H0 F σ H _ S fun F1 H1 vs x1 r1=>by
  cases r1 with
  |fz r r1 =>
    cases r1 with
    |fz r' r1 =>
      cases r1 with
      |fz r2 r1 =>
        cases r1;cases r;cases r';cases r2
        refine⟨m,n,rfl,h1,q F1 H1 _ x1 fun F2 H2 s2 s3=>⟨by show _<=_;rw[P1];exact Xx _,fun i d e=>?_⟩⟩;obtain⟨h1,rfl⟩:=P9 e;refine⟨h1,fun x H3 hy=>?_⟩;obtain⟨rfl,rfl⟩:=hy
        exact⟨F2,QM.refl s3,.int _⟩
def WN:Option OT->Option OT
 |some (.fz d)=>some (.fz d)
 |some (.scr ns)=>some (.scr ns)
 |some (.zow Ψ)=>some (.zow Ψ)
 |_=>none
def JX (f:List (Option Nat))(ρ:QL):QL:=f.map fun o=>match o with|some i=>WN (ρ[i]?).join|none=>none
def QY.inner {H0 F H:Hp}{σ:St}(f:List (Option Nat))(S:QY K H0 F ρ σ H):QY K H0 F (JX f ρ) (Y5 f σ) H:=by
 obtain⟨kt,h1,h2,fp,h3,h4,h5⟩:=S;refine⟨kt,h1,by simp[JX,Y5],fun _=>[],fun i t e=>?_,fun i j a h=>(nomatch h),fun i a h=>(nomatch h)⟩;unfold JX at e;rw[Xj]at e;cases z:f[i]? with
 |none=>rw[z]at e;simp at e
 |some o =>
   rw[z]at e;simp only[X7,Option.some.injEq]at e;cases o with
   |none=>cases e
   |some k =>
     simp only at e
     have e':ρ[k]?=some (some t)/\((∃d,t=.fz d)\/(∃ns,t=.scr ns)\/∃Ψ,t=.zow Ψ):=by
      cases y:ρ[k]? with
      |none=>rw[y]at e;simp[WN]at e
      |some w =>
        rw[y]at e;simp only[Option.join_some]at e;cases w with
        |none=>simp[WN]at e
        |some w =>
          cases w with
          |fz d=>simp[WN]at e;subst e;exact⟨rfl,.inl ⟨_,rfl⟩⟩
          |scr ns=>simp[WN]at e;subst e;exact⟨rfl,.inr (.inl ⟨_,rfl⟩)⟩
          |zow Ψ=>simp[WN]at e;subst e;exact⟨rfl,.inr (.inr ⟨_,rfl⟩)⟩
          |ol ds=>simp[WN]at e
          |oll ds=>simp[WN]at e
          |own v0 Φ=>simp[WN]at e
     obtain⟨v,e1,e2⟩:=h3 k t e'.1;refine⟨v,?_,?_⟩
     ·unfold Y5
      rw[Xj,z];simp[e1]
     ·rcases e'.2 with ⟨d,rfl⟩|⟨ns,rfl⟩|⟨Ψ,rfl⟩
      ·exact⟨rfl,e2.2⟩
      ·exact⟨rfl,e2.2⟩
      ·exact⟨rfl,e2.2⟩
def Mw {α:Type}{f:List (Option Nat)}{wi:TI}{g:CIn->TG}{tcc:CIn->TT}{tee:CIn->TE}{xs:List α}{enc h:α->PyData}{p:α->Bool}(hi:EvI K wi ρ (xs.map enc))(hl:xs.length<=1000)
 (hs:∀x∈xs,∀c,∃ρ2,GTo K (g c) (enc x) (JX f ρ) ρ2/\Zz K (tcc c) ρ2 (p x)/\(p x=true->Qs K (tee c) ρ2 (h x))):EvO K (tLC f wi g tcc tee) ρ (.ol ((xs.filter p).map h)):=fun H0 F σ H Q S q =>
 hi H0 F σ H _ S fun F1 H1 J x1 W c=>by
  have hn:xs.length<=sizeLine:=X9 (VX hl);refine⟨fun i m ys H=>m=xs.length-i/\i<=xs.length/\∃F',QM F1 H1 F' H/\Q0 F' ys (((xs.take i).filter p).map h),⟨xs.length,by simp,X4 _,F1,QM.refl x1.fh,.nil⟩,?_⟩
  rintro i m ys H' ⟨rfl,hle,F',x',r'⟩
  obtain⟨w1,w2⟩:=W F' H' x'.ff x'.fh
  by_cases hlt:i<xs.length
  ·have e:(xs.map enc)[i]?=some (enc xs[i]):=by simp[hlt]
   obtain⟨go,yl⟩:=w2 i _ e;refine .inr ⟨go,fun v H3 y=>?_⟩;obtain⟨F3,x3,r3⟩:=yl v H3 y;obtain⟨ρ2,k1,k2,k3⟩:=hs xs[i] (Xy hlt) c;have S3:=(S.ext (x1.trans (x'.trans x3))).inner f;have tk:xs.take (i+1)=xs.take i++[xs[i]]:=by rw[WB];simp[hlt]
   have ly:=r'.length
   have ly2:ys.length<=i:=by
    rw[ly,Xh];refine XI (DV _ _) ?_;rw[DN];omega
   refine k1 H0 F3 _ H3 v _ S3 r3 fun σ2 S4=>k2 H0 F3 σ2 H3 _ S4 fun F4 H4 x4=>?_
   cases ep:p xs[i] with
   |true =>
     rw[Xb rfl];refine k3 ep H0 F4 σ2 H4 _ (S4.ext x4) fun F5 H5 z x5 r5=>⟨by omega,xs.length-(i+1),by omega,rfl,hlt,F5,x'.trans (x3.trans (x4.trans x5)),?_⟩;rw[tk,BU,XE];simp only[GT,ep,if_true,List.filter_nil,Xs,JJ];exact(r'.mono (x3.trans (x4.trans x5)).ff).snoc r5
   |false =>
     rw[Xa Xp];refine⟨xs.length-(i+1),by omega,rfl,hlt,F4,x'.trans (x3.trans x4),?_⟩;rw[tk,BU,XE];simp only[GT,ep,List.filter_nil,JJ,X2,X8,if_false];exact r'.mono (x3.trans x4).ff
  ·have e:i=xs.length:=by omega
   subst e;refine .inl ⟨by simpa using w1,fun a ha=>?_⟩;rw[WE]at r';obtain⟨z1,z2,z3⟩:=G8 (K:=K) (x1.trans x') ha r';exact q _ _ _ _ z1 z2 z3
def VA {α:Type}{f:List (Option Nat)}{wi:TI}{g:CIn->TG}{tee:CIn->TE}{xs:List α}{enc h:α->PyData}(hi:EvI K wi ρ (xs.map enc))(hl:xs.length<=1000)
 (hs:∀x∈xs,∀c,∃ρ2,GTo K (g c) (enc x) (JX f ρ) ρ2/\Qs K (tee c) ρ2 (h x)):EvO K (tLC f wi g (fun _=>U4) tee) ρ (.ol (xs.map h)):=by
 have:=Mw (K:=K) (ρ:=ρ) (f:=f) (wi:=wi) (g:=g) (tcc:=fun _=>U4) (tee:=tee) (xs:=xs) (enc:=enc) (h:=h) (p:=fun _=>true) hi hl fun x hx c=>by
  obtain⟨ρ2,h1,h2⟩:=hs x hx c
  exact⟨ρ2,h1,RN,fun _=>h2⟩
 have e:xs.filter (fun _=>true)=xs:=List.filter_eq_self.mpr fun _ _=>rfl;rw[e]at this;exact this
def Ha:List V->Hp->VK->Prop:=fun xs H Q=>∃i,xs=[.int i]/\Q (.int (if i<0 then -i else i)) H
def Hw:List V->Hp->VK->Prop:=fun xs H Q=>∃i j,xs=[.int i,.int j]/\Q (.int (if j > i then j else i)) H
def Hx:List V->Hp->VK->Prop:=fun xs H Q=>∃i j,xs=[.int i,.int j]/\Q (.int (if j<i then j else i)) H
def R6:List V->Hp->VK->Prop:=fun xs H Q=>(∃i,xs=[.int i]/\Q (.int i) H)\/∃k,xs=[.bl k]/\Q (.int (if k then 1 else 0)) H
def Ry:List V->Hp->VK->Prop:=fun xs H Q=>∃x T c b,xs=[x,.ty c]/\TyN H x T/\Wy T c=some b/\Q (.bl b) H
def U2 (K:W.Frag):List V->Hp->VK->Prop:=fun xs H Q=>∃p ys,xs=[.ref p]/\(SqL K H p ys\/SqT K H p ys)/\Q (.int ys.length) H
def SD (K:W.Frag):List V->Hp->VK->Prop:=fun xs H Q=>∃p ys,xs=[.ref p]/\(SqL K H p ys\/SqT K H p ys)/\∀l,H l=none->Q (.ref l) (upd H l (.lst ys))
def Ka (K:W.Frag):List V->Hp->VK->Prop:=fun xs H Q=>∃p ys,xs=[.ref p]/\((SqL K H p ys/\∀l,H l=none->Q (.ref l) (upd H l (.tup ys)))\/(SqT K H p ys/\Q (.ref p) H))
def Rf (X:Cx):List V->Hp->VK->Prop:=fun xs H Q=>X.calm=true/\∃(x:V) (ns:Ql),xs=[x]/\Rep H x (.list (ns.map PyData.int))/\Q (.int ns.sum) H
def RH:V->List V->Hp->VK->Prop:=fun x xs H Q=>∃i,x=.int i/\xs=[]/\Q (.int (Builtin.Int.intBits i)) H
def M7 {X:Cx}:Vu X (.builtin "abs") Ha:=AH
def Sh {X:Cx} (h:X.calm=true):Vu X (.builtin "max") Hw:=Oh h
def Bj {X:Cx} (h:X.calm=true):Vu X (.builtin "min") Hx:=IF h
def Sn {X:Cx}:Vu X (.type "int") R6:=Ik
def LN {X:Cx}:Vu X (.builtin "isinstance") Ry:=Ap
def Ym {X:Cx}:Vu X (.builtin "len") (U2 X.K):=Zj1
def MI {X:Cx}:Vu X (.type "list") (SD X.K):=Zjb
def De {X:Cx}:Vu X (.type "tuple") (Ka X.K):=ZiN
def UG {X:Cx}:Vu X (.builtin "sum") (Rf X):=Oj
def Cu {X:Cx}:MtR X "int.bit_length" RH:=Cs
def Fx {x:Int}(h:Qs K ta ρ (.int x)):Qs K (tCB Ha (Zl ta Zv)) ρ (.int (if x<0 then -x else x)):=fun H0 F σ H Q S q =>
 h H0 F σ H _ S fun F1 H1 v x1 r1=>by cases r1;exact⟨x,rfl,q F1 H1 _ x1 (.int _)⟩
def Sr {x y:Int}{r:List V->Hp->VK->Prop}{H0 F H:Hp}{σ:St}{Q:VK}(ha:Qs K ta ρ (.int x))(hb:Qs K tb ρ (.int y))(S:QY K H0 F ρ σ H)(h:∀F' H',QM F H F' H'->r [.int x,.int y] H' Q):tCB r (Zl ta (Zl tb Zv)) σ H Q :=
 ha H0 F σ H _ S fun F1 H1 v x1 r1=>hb H0 F1 σ H1 _ (S.ext x1) fun F2 H2 w x2 r2=>by cases r1;cases r2;exact h F2 H2 (x1.trans x2)
def LM {x y:Int}(ha:Qs K ta ρ (.int x))(hb:Qs K tb ρ (.int y)):Qs K (tCB Hw (Zl ta (Zl tb Zv))) ρ (.int (if y > x then y else x)):=fun H0 F σ H Q S q =>
 Sr ha hb S fun F' H' e=>⟨x,y,rfl,q F' H' _ e (.int _)⟩
def FS {x y:Int}(ha:Qs K ta ρ (.int x))(hb:Qs K tb ρ (.int y)):Qs K (tCB Hx (Zl ta (Zl tb Zv))) ρ (.int (if y<x then y else x)):=fun H0 F σ H Q S q =>
 Sr ha hb S fun F' H' e=>⟨x,y,rfl,q F' H' _ e (.int _)⟩
def HU {b:Bool}(h:Qs K ta ρ (.bool b)):Qs K (tCB R6 (Zl ta Zv)) ρ (.int (if b then 1 else 0)):=fun H0 F σ H Q S q =>
 h H0 F σ H _ S fun F1 H1 v x1 r1=>by cases r1;exact .inr ⟨b,rfl,q F1 H1 _ x1 (.int _)⟩
def RO {a:PyData}{c:String}{b:Bool}(h:Qs K ta ρ a)(hb:Wy (tyD a) c=some b):Qs K (tCB Ry (Zl ta (Zl (tC (.ty c)) Zv))) ρ (.bool b):=fun H0 F σ H Q S q =>
 h H0 F σ H _ S fun F1 H1 v x1 r1=>⟨v,_,c,b,rfl,(r1.mono x1.fh).ty,hb,q F1 H1 _ x1 (.bl _)⟩
def Jz {ds:Qd}(h:Qs K ta ρ (.list ds)):Qs K (tCB (U2 K) (Zl ta Zv)) ρ (.int (ds.length:Int)):=fun H0 F σ H Q S q =>
 h H0 F σ H _ S fun F1 H1 v x1 r1=>by
  obtain⟨a,xs,rfl,h1,h2,_⟩:=Wt (K:=K) r1 x1.fh
  exact⟨a,xs,rfl,.inl h1,by rw[h2.length];exact q F1 H1 _ x1 (.int _)⟩
def L5 {ds:Qd}(h:Qs K ta ρ (.tuple ds)):Qs K (tCB (U2 K) (Zl ta Zv)) ρ (.int (ds.length:Int)):=fun H0 F σ H Q S q =>
 h H0 F σ H _ S fun F1 H1 v x1 r1=>by
  obtain⟨a,xs,rfl,h1,h2,_⟩:=MY (K:=K) r1 x1.fh
  exact⟨a,xs,rfl,.inr h1,by rw[h2.length];exact q F1 H1 _ x1 (.int _)⟩
def LC {i:Nat}{ns:Ql}(e0:ρ[i]?=some (some (.scr ns))):Qs K (tCB (U2 K) (Zl (Za i) Zv)) ρ (.int (ns.length:Int)):=fun H0 F σ H Q S q=>by
 obtain⟨fp,h,_⟩:=S.fp;obtain⟨v,e1,_,a,rfl,sc⟩:=h i _ e0
 exact⟨_,e1,a,ns.map V.int,rfl,.inl (S.sub.seq sc.sq),by rw[Xh];exact q F H _ (QM.refl S.sub) (.int _)⟩
def RQ {i:Nat}{ds:Qd}(e0:ρ[i]?=some (some (.ol ds))):Qs K (tCB (U2 K) (Zl (Za i) Zv)) ρ (.int (ds.length:Int)):=fun H0 F σ H Q S q=>by
 obtain⟨fp,h,_⟩:=S.fp;obtain⟨v,e1,a,rfl,_,_,xs,o2,o3⟩:=h i _ e0
 exact⟨_,e1,a,xs,rfl,.inl (SqL.of o2),by rw[o3.length];exact q F H _ (QM.refl S.sub) (.int _)⟩
def B0 {ds:Qd}(h:Qs K ta ρ (.list ds)):EvO K (tCB (SD K) (Zl ta Zv)) ρ (.ol ds):=fun H0 F σ H Q S q =>
 h H0 F σ H _ S fun F1 H1 v x1 r1=>by
  obtain⟨a,xs,rfl,h1,h2,_⟩:=Wt (K:=K) r1 x1.fh;refine⟨a,xs,rfl,.inl h1,fun p hp=>?_⟩;obtain⟨z1,z2,z3⟩:=G8 (K:=K) x1 hp h2;exact q _ _ _ _ z1 z2 z3
def Kl {ds:Qd}(h:Qs K ta ρ (.list ds)):Qs K (tCB (Ka K) (Zl ta Zv)) ρ (.tuple ds):=fun H0 F σ H Q S q =>
 h H0 F σ H _ S fun F1 H1 v x1 r1=>by
  obtain⟨a,xs,rfl,h1,h2,_⟩:=Wt (K:=K) r1 x1.fh;refine⟨a,xs,rfl,.inl ⟨h1,fun p hp=>?_⟩⟩;have s1:=x1.fh;exact q _ _ _ (x1.trans (QM.new s1 hp)) (.tup Zg (h2.mono (QN.new (s1.free hp))))
def LK {i:Nat}{ds:Qd}(e0:ρ[i]?=some (some (.ol ds))):Qs K (tCB (Ka K) (Zl (Za i) Zv)) ρ (.tuple ds):=fun H0 F σ H Q S q=>by
 obtain⟨fp,h,_⟩:=S.fp;obtain⟨v,e1,a,rfl,_,_,xs,o2,o3⟩:=h i _ e0;refine⟨_,e1,a,xs,rfl,.inl ⟨SqL.of o2,fun p hp=>?_⟩⟩;exact q _ _ _ (QM.new S.sub hp) (.tup Zg (o3.mono (QN.new (S.sub.free hp))))
def JZ {X:Cx}{ns:Ql}(h:Qs K ta ρ (.list (ns.map PyData.int)))(hc:X.calm=true):Qs K (tCB (Rf X) (Zl ta Zv)) ρ (.int ns.sum):=fun H0 F σ H Q S q =>
 h H0 F σ H _ S fun F1 H1 v x1 r1=>⟨hc,v,ns,rfl,r1.mono x1.fh,q F1 H1 _ x1 (.int _)⟩
def RG {x:Int} (h:Qs K ta ρ (.int x)):Qs K (Rr K "int" RH ta) ρ (.int (Builtin.Int.intBits x:Int)):=fun H0 F σ H Q S q =>
 h H0 F σ H _ S fun F1 H1 v x1 r1=>by cases r1;exact⟨rfl,x,rfl,rfl,q F1 H1 _ x1 (.int _)⟩
def Mq {as bs:Qd}(ha:Qs K ta ρ (.list as))(hb:Qs K tb ρ (.list bs))(hl:as.length+bs.length<=1000):EvO K (tOp Rk ta tb) ρ (.ol (as++bs)):=fun H0 F σ H Q S q =>
 YN ha hb S fun F' H' x y e r1 r2=>by
  obtain⟨a,xs,rfl,h1,h2,h3⟩:=Wt (K:=K) r1 e.fh;obtain⟨b,ys,rfl,g1,g2,g3⟩:=Wt (K:=K) r2 e.fh;refine⟨a,b,xs,ys,rfl,rfl,h3,g3,by rw[h2.length,g2.length];exact X9 (VX hl),fun p hp=>?_⟩;obtain⟨z1,z2,z3⟩:=G8 (K:=K) e hp (h2.append g2);exact q _ _ _ _ z1 z2 z3
def Fl {x:Int}{ns:Ql}(ha:Qs K ta ρ (.int x))(hb:Qs K tb ρ (.list (ns.map PyData.int))):Qs K (tOp (rIn K false) ta tb) ρ (.bool (decide (x∈ns))):=fun H0 F σ H Q S q =>
 YN ha hb S fun F' H' u y e r1 r2=>by
  obtain⟨a,xs,rfl,h1,h2,h3⟩:=Wt (K:=K) r2 e.fh
  cases r1
  have ex:=Ul h2;subst ex;refine⟨a,_,rfl,.inl h1,rfl,?_,?_⟩
  ·rw[List.all_eq_true]
   intro v hv;obtain⟨j,_,rfl⟩:=XD.mp hv
   rfl
  ·have:(if false=true then !inV (.int x) (ns.map V.int) else inV (.int x) (ns.map V.int))=decide (x∈ns):=by
    rw[Xa Xp];exact PB x ns
   rw[this];exact q F' H' _ e (.bl _)
end
def Z1 {K:W.Frag}{ρ:QL}{ta:TE}{t:TA}{d:PyData}{ds:Qd}(h1:Qs K ta ρ d)(h2:Vh K t ρ (fzs ds)):Vh K (Zl ta t) ρ (fzs (d::ds)):=Qt h1 h2
def EvI.cast {K:W.Frag}{wi:TI}{ρ:QL}{ds ds':Qd}(h:EvI K wi ρ ds)(e:ds=ds'):EvI K wi ρ ds':=e▸h
def WA {a b:Int}{m n:Nat}(h:a=b)(h2:m=n):ZQ a m=ZQ b n:=by rw[h,h2]
def LJ {K:W.Frag}{ρ:QL}{ta:TE}{x:Int}(h:Qs K ta ρ (.int x)):Qs K (tCB Ha (Zl ta Zv)) ρ (.int (Mir.ZgG x)):=Fx h
def L9 {K:W.Frag}{ρ:QL}{ta tb:TE}{x y:Int}(ha:Qs K ta ρ (.int x))(hb:Qs K tb ρ (.int y)):Qs K (tCB Hw (Zl ta (Zl tb Zv))) ρ (.int (max x y)):=by
 have e:max x y=if y > x then y else x:=by split<;>omega
 rw[e];exact LM ha hb
def MA {K:W.Frag}{ρ:QL}{ta tb:TE}{x y:Int}(ha:Qs K ta ρ (.int x))(hb:Qs K tb ρ (.int y)):Qs K (tCB Hx (Zl ta (Zl tb Zv))) ρ (.int (min x y)):=by
 have e:min x y=if y<x then y else x:=by split<;>omega
 rw[e];exact FS ha hb
def Mu {K:W.Frag}{ρ:QL}{f:List (Option Nat)}{wi:TI}{g:CIn->TG}{tee:CIn->TE}{lo:Int}{n:Nat}{h:Nat->PyData}(hi:EvI K wi ρ (ZQ lo n))(hl:n<=1000)
 (hs:∀(x:Nat),x<n->∀c,∃ρ2,GTo K (g c) (.int (lo+(x:Int))) (JX f ρ) ρ2/\Qs K (tee c) ρ2 (h x)):EvO K (tLC f wi g (fun _=>U4) tee) ρ (.ol ((List.range n).map h)) :=
 VA (xs:=List.range n) (enc:=fun(i:Nat)=>PyData.int (lo+(i:Int))) hi (by simpa using hl) fun x hx c=>hs x (Xn.mp hx) c
def Qs.cast {K:W.Frag}{t:TE}{ρ:QL}{d d':PyData}(h:Qs K t ρ d)(e:d=d'):Qs K t ρ d':=e▸h
def EvO.cast {K:W.Frag}{t:TE}{ρ:QL}{d d':OT}(h:EvO K t ρ d)(e:d=d'):EvO K t ρ d':=e▸h
def Zz.cast {K:W.Frag}{t:TT}{ρ:QL}{d d':Bool}(h:Zz K t ρ d)(e:d=d'):Zz K t ρ d':=e▸h
def M0 (K:W.Frag):Sp:=fun vs H Q _=>∃(a:Addr) (ns:Ql),vs=[.ref a]/\KTs K H/\Scr K H a ns/\∀H',Q (.bl true) H'
def Fun.evLaw {P:Program}{w:World}{K:W.Frag}{mg:Str->Qf}{base:Heap}{x qual p:Str}{st:Stmt}{f:Addr}{fd:FuncData}{N:Qh}{k:Nat}(F:Fun K x qual st f fd)(S:Qq N [p] (Q8 st))
 (Xbp:∀(cdv:Value) (A:Around) (outer:List Env) (s:Shared) (H:Hp) (E:XK) (ns:Ql),Room k (A.deeper (envOfC qual (Q8 st) s.heap.objs.size f cdv))->ns.length<=63->(∀i∈ns,Builtin.Int.intBits i<=2^20) ->
  ∃t,PSs (Ya CX0 P w K mg base N qual (Q8 st) f cdv A outer s H E).nox (Vc st) t/\Q9 K t (some (.scr ns)::List.replicate (N.length-1) none) { nx:=fun _=>False,rt:=fun r=>r=.fz (.bool true) }):FnOk P w K mg base CX0 (k+1) f fd [p] (M0 K):=by
 refine F.ok S (fun vs H Q E ⟨a,ns,e,_⟩=>by rw[e];rfl) fun cdv A outer s H vs Q E hr ⟨a,ns,e,kt,sc,q⟩=>?_;subst e;obtain⟨t,h1,h2⟩:=Xbp cdv A outer s H E ns hr sc.len sc.bits;refine⟨t,h1,h2 H H H (start N [.ref a]) H _ (QM.refl (QN.refl _)) ⟨kt,QN.refl _,?_,fun _=>[],fun i t' e=>?_,fun i j a h=>(nomatch h),fun i a h=>(nomatch h)⟩ ⟨fun F' σ' H' ρ' x' _ e=>False.elim e,fun F' H' v r' p x' hp ok e=>?_,fun _ _ _ _ _ _ z=>False.elim z,fun _ _ _ _ _ _ z=>False.elim z⟩⟩
 ·unfold start
  simp
 ·cases i with
  |zero =>
    simp at e
    subst e;exact⟨_,rfl,rfl,a,rfl,sc⟩
  |succ i =>
    rw[DS]at e;have:=List.mem_of_getElem? e
    simp at this
 ·subst e
  obtain⟨_,r⟩:=ok
  cases r
  exact q H'
theorem Fgt.trans:∀{a b c:QL},Fgt a b->Fgt b c->Fgt a c
 |[],[],[],_,_=>trivial
 |_::r,none::r',none::r2,h,h2=>by
   have h':Fgt r r':=h;have h2':Fgt r' r2:=h2
   exact(show Fgt r r2 from Fgt.trans h' h2')
 |s::r,some x::r',none::r2,h,h2=>by
   have h':s=some x/\Fgt r r':=h;have h2':Fgt r' r2:=h2
   exact(show Fgt r r2 from Fgt.trans h'.2 h2')
 |_::r,none::r',some z::r2,h,h2=>by
   have h2':none=some z/\Fgt r' r2:=h2;exact Xi h2'.1 (by simp)
 |s::r,some x::r',some z::r2,h,h2=>by
   have h':s=some x/\Fgt r r':=h;have h2':some x=some z/\Fgt r' r2:=h2
   exact⟨h'.1.trans h2'.1,Fgt.trans h'.2 h2'.2⟩
 |[],none::_,_,h,_=>False.elim h
 |[],some _::_,_,h,_=>False.elim h
 |_::_,[],_,h,_=>False.elim h
 |[],[],none::_,_,h=>False.elim h
 |[],[],some _::_,_,h=>False.elim h
 |_::_,none::_,[],_,h=>False.elim h
 |_::_,some _::_,[],_,h=>False.elim h
def Vf {K:W.Frag}{ρ:QL}:Vh K Zv ρ (fzs []):=QD
def Js {i j:Int}(h1 : -18446744073709551616<j)(h2:j<18446744073709551616):Mg i j:=.inr ⟨h1,h2⟩
def z62:(2:Int)^62=4611686018427387904:=by decide
def LE:Hf 10 30:=⟨by decide,by decide,by decide⟩
def FQ {CX:CXT}{P:Program}{w:World}{K:W.Frag}{mg:Str->Qf}{base:Heap}{N:Qh}{q:Str}{sc:Scope}{f:Addr}{cd:Value}{A:Around}{o:List Env}{s:Shared}{H:Hp}{E:XK}:(Ya CX P w K mg base N q sc f cd A o s H E).nox.K=K:=rfl
def AX {X:Cx}{N:Qh}{sc:Scope}{c:CIn}:(V0 X N sc c).K=X.K:=rfl
section
variable {K:W.Frag}{ρ:QL}{ta tb te:TE}
def cut {α:Type}(xs:List α)(lo hi:Option Int):List α:=(xs.drop (HT.sIx xs.length 0 lo)).take (HT.sIx xs.length xs.length hi-HT.sIx xs.length 0 lo)
def FE {t:TT}(i:Nat){ds:Qd}{b:Bool}(e:ρ[i]?=some (some (.ol ds)))(h:Zz K t (ρ.set i (some (.fz (.list ds)))) b):Zz K t ρ b:=fun H0 F σ H Q S q=>by
 obtain⟨a,xs,e1,e2,e3,e4,e5,S'⟩:=S.freeze e;refine h H0 _ σ H Q S' fun F' H' x=>?_;refine q (fun b=>if b=a then none else F' b) H' ⟨x.hh,fun b u hb=>?_,fun b u hb=>?_,fun b hb=>?_⟩
 ·have nb:b≠a:=Vd hb e1
  simp only[Xa nb];exact x.ff b u (by rw[Q7 nb];exact hb)
 ·by_cases z:b=a
  ·simp[z]at hb
  ·simp only[Xa z]at hb;exact x.fh b u hb
 ·by_cases z:b=a
  ·simp[z]at hb
  ·simp only[Xa z]at hb
   rcases x.fr b hb with y|y
   ·rw[Q7 z]at y;exact .inl y
   ·exact .inr y
def HH {a b:Int}{m n:Nat}(h0:0<=a)(h1:a<2^m)(h2:0<=b)(h3:b<2^n)(h4:m+n<=100000):IntMulOk a b:=by
 have bl:∀{x:Int} {m:Nat},0<=x->x<2^m->Builtin.Int.intBits x<=m:=fun{x m} h0 h=>by
  unfold Builtin.Int.intBits;by_cases e:x=0
  ·subst e;simp
  ·have e1:(x==0)=false:=by simpa using e
   rw[e1];have h1:x.natAbs≠0:=by omega
   have h2:x.natAbs<2^m:=by
    have:((x.natAbs:Nat):Int)<((2^m:Nat):Int):=by
     have e2:((2^m:Nat):Int)=(2:Int)^m:=by rw[Int.natCast_pow];rfl
     rw[e2];omega
    exact Wu.mp this
   have:=(Nat.log2_lt h1).mpr h2
   simp only[X8,if_false];omega
 have ba:=bl h0 h1;have bb:=bl h2 h3
 unfold IntMulOk;have:Builtin.Int.intTooBig (Builtin.Int.intBits a+Builtin.Int.intBits b)=false:=by
  unfold Builtin.Int.intTooBig;have hb:(100000:Nat)<=bitsLine:=by decide
  exact XG (by omega)
 rw[this];simp
end
section
variable {K:W.Frag}{ρ:QL}{ta tb te:TE}
def VH (as bs:Qd):Qd:=(as.zip bs).map fun p=>PyData.tuple [p.1,p.2]
def B6 (as bs:Qd):(VH as bs).length=min as.length bs.length:=by simp[VH]
def Dg {as bs:Qd}{i:Nat}{d:PyData}(e:(VH as bs)[i]?=some d):∃a b,as[i]?=some a/\bs[i]?=some b/\d=.tuple [a,b]:=by
 unfold VH at e;rw[Xj]at e;cases z:(as.zip bs)[i]? with
 |none=>rw[z]at e;cases e
 |some p =>
   rw[z]at e;have e':=Option.some.inj e;obtain⟨h1,h2⟩:=List.getElem?_zip_eq_some.mp z
   exact⟨p.1,p.2,h1,h2,e'.symm⟩
def Wh (as:Qd):Qd:=as.zipIdx.map fun p=>PyData.tuple [.int (p.2:Int),p.1]
def GJ (as:Qd):(Wh as).length=as.length:=by simp[Wh]
def Dm {as:Qd}{i:Nat}{d:PyData}(e:(Wh as)[i]?=some d):∃a,as[i]?=some a/\d=.tuple [.int (i:Int),a]:=by
 unfold Wh at e;rw[Xj,List.getElem?_zipIdx]at e;cases z:as[i]? with
 |none=>rw[z]at e;cases e
 |some a=>rw[z]at e;simp at e;exact⟨a,rfl,e.symm⟩
def KQ {F H:Hp}{x:V}{ds:Qd}(r:Rep F x (.list ds)):∃a xs,x=.ref a/\F a=some (.lst xs)/\Q0 F xs ds:=by
 cases r with
 |lst ha rr=>exact⟨_,_,rfl,ha,rr⟩
def Jr {t:TA}{as bs:Qd}(h:Vh K t ρ [.fz (.list as),.fz (.list bs)]):EvI K (Ri K t) ρ (VH as bs):=fun H0 F σ H R S q =>
 h H0 F σ H _ S fun F1 H1 vs x1 r1=>by
  cases r1 with
  |fz r r1 =>
    cases r1 with
    |fz r' r1 =>
      cases r1
      obtain⟨a,xs,rfl,ha,ra⟩:=KQ (H:=H1) r;obtain⟨b,ys,rfl,hb,rb⟩:=KQ (H:=H1) r';refine⟨a,b,rfl,⟨xs,SqL.of (x1.fh _ _ ha)⟩,⟨ys,SqL.of (x1.fh _ _ hb)⟩,q F1 H1 _ x1 fun F2 H2 s2 s3=>?_⟩;have qa:SqL K H2 a xs:=SqL.of (s3 _ _ (s2 _ _ ha));have qb:SqL K H2 b ys:=SqL.of (s3 _ _ (s2 _ _ hb));refine⟨⟨xs,ys,qa,qb,by rw[B6,ra.length,rb.length]⟩,fun i d e=>?_⟩;obtain⟨d1,d2,e1,e2,rfl⟩:=Dg e;obtain⟨z1,f1,g1⟩:=ra.get e1;obtain⟨z2,f2,g2⟩:=rb.get e2;refine⟨⟨xs,ys,z1,z2,qa,qb,f1,f2⟩,fun v H3 hy=>?_⟩;obtain⟨p,x,y,hp,rfl,rfl,k1,k2⟩:=hy;have ex:=k1 xs qa;rw[f1]at ex;cases ex;have ey:=k2 ys qb;rw[f2]at ey;cases ey;have sn:QN F2 (upd F2 p (.tup [z1,z2])):=QN.new (s3.free hp)
      exact⟨_,QM.new s3 hp,.tup Zg (.cons ((g1.mono s2).mono sn) (.cons ((g2.mono s2).mono sn) .nil))⟩
def UL {t:TA}{as:Qd}(h:Vh K t ρ [.fz (.list as)]):EvI K (RL K t) ρ (Wh as):=fun H0 F σ H R S q =>
 h H0 F σ H _ S fun F1 H1 vs x1 r1=>by
  cases r1 with
  |fz r r1 =>
    cases r1
    obtain⟨a,xs,rfl,ha,ra⟩:=KQ (H:=H1) r;refine⟨a,rfl,⟨xs,SqL.of (x1.fh _ _ ha)⟩,q F1 H1 _ x1 fun F2 H2 s2 s3=>?_⟩;have qa:SqL K H2 a xs:=SqL.of (s3 _ _ (s2 _ _ ha));refine⟨⟨xs,qa,by rw[GJ,ra.length]⟩,fun i d e=>?_⟩;obtain⟨d1,e1,rfl⟩:=Dm e;obtain⟨z1,f1,g1⟩:=ra.get e1;refine⟨⟨xs,z1,qa,f1⟩,fun v H3 hy=>?_⟩;obtain⟨p,x,hp,rfl,rfl,k1⟩:=hy;have ex:=k1 xs qa;rw[f1]at ex;cases ex;have sn:QN F2 (upd F2 p (.tup [.int (i:Int),z1])):=QN.new (s3.free hp)
    exact⟨_,QM.new s3 hp,.tup Zg (.cons (.int _) (.cons ((g1.mono s2).mono sn) .nil))⟩
def C9 {X:Cx}{ns:Ql}(h:Qs K ta ρ (.list (ns.map PyData.int)))(hc:X.calm=true)(hn:ns≠[]):Qs K (tCB (R3 X) (Zl ta Zv)) ρ (.int (YJ ns)):=fun H0 F σ H Q S q =>
 h H0 F σ H _ S fun F1 H1 v x1 r1=>⟨hc,v,ns,rfl,r1.mono x1.fh,hn,q F1 H1 _ x1 (.int _)⟩
def Cd {x:Int}{ns:Ql}(ha:Qs K ta ρ (.int x))(hb:Qs K tb ρ (.list (ns.map PyData.int))):Qs K (tOp (rIn K true) ta tb) ρ (.bool (!decide (x∈ns))):=fun H0 F σ H Q S q =>
 YN ha hb S fun F' H' u y e r1 r2=>by
  obtain⟨a,xs,rfl,h1,h2,h3⟩:=Wt (K:=K) r2 e.fh
  cases r1
  have ex:=Ul h2;subst ex;refine⟨a,_,rfl,.inl h1,rfl,?_,?_⟩
  ·rw[List.all_eq_true]
   intro v hv;obtain⟨j,_,rfl⟩:=XD.mp hv
   rfl
  ·rw[Xb rfl,PB]
   exact q F' H' _ e (.bl _)
def WG:OT->Option PyData
 |.fz d=>some d
 |.ol ds=>some (.list ds)
 |.oll dss=>some (.list (dss.map PyData.list))
 |.scr _=>none
 |.own _ _=>none
 |.zow _=>none
def frF (F H:Hp)(p:Qg):Hp:=fun b=>if b∈p then H b else F b
def Jx {F H:Hp}{p:Qg}{b:Addr}(h:b∈p):frF F H p b=H b:=by unfold frF;rw[Xb h]
def Yq {F H:Hp}{p:Qg}{b:Addr}(h:b∉p):frF F H p b=F b:=by unfold frF;rw[Xa h]
def Wp {F H:Hp}{p:Qg}(h:∀a∈p,F a=none):QN F (frF F H p):=fun b u e=>by
 rw[Yq fun z=>by rw[h b z]at e;cases e];exact e
def Ud {F H:Hp}{p:Qg}(s:QN F H):QN (frF F H p) H:=fun b u e=>by
 by_cases z:b∈p
 ·rw[Jx z]at e;exact e
 ·rw[Yq z]at e;exact s b u e
theorem KF {F F' H:Hp}(sm:QN F F'):∀{as:Qg} {dss:List (Qd)},Zu F H as dss->(∀a∈as,F' a=H a)->Q0 F' (as.map V.ref) (dss.map PyData.list)
 |[],[],_,_=>.nil
 |a::as,ds::dss,h,he=>by
   obtain⟨⟨h1,xs,h2,h3⟩,h4⟩:=h;exact .cons (.lst (by rw[he a Xc];exact h2) (h3.mono sm)) (KF sm h4 fun b hb=>he b (Xf _ hb))
 |[],_::_,h,_=>False.elim h
 |_::_,[],h,_=>False.elim h
def Z6.frz {F H:Hp}{v:V}{t:OT}{p:Qg}{d:PyData}(ok:Z6 K F H v t p)(e:WG t=some d):Rep (frF F H p) v d:=by
 have sm:QN F (frF F H p):=Wp fun a ha=>(ok.there a ha).1
 cases t with
 |fz d'=>cases e;exact ok.2.mono sm
 |ol ds =>
   cases e
   obtain⟨a,rfl,rfl,h1,xs,h2,h3⟩:=ok;exact .lst (by rw[Jx Xc];exact h2) (h3.mono sm)
 |oll dss =>
   cases e
   obtain⟨a,as,rfl,rfl,hn,h1,h2,h3⟩:=ok;exact .lst (by rw[Jx Xc];exact h2) (KF sm h3 fun b hb=>Jx (Xf _ hb))
 |scr ns=>cases e
 |own v0 Φ=>cases e
 |zow Ψ=>cases e
theorem Zu.frOther {F H:Hp}{p:Qg}(sm:QN F (frF F H p)):∀{as:Qg} {dss:List (Qd)},(∀a∈as,a∉p)->Zu F H as dss->Zu (frF F H p) H as dss
 |[],[],_,_=>trivial
 |a::as,ds::dss,hn,h=>by
   obtain⟨⟨h1,xs,h2,h3⟩,h4⟩:=h
   exact⟨⟨by rw[Yq (hn a Xc)];exact h1,xs,h2,h3.mono sm⟩,Zu.frOther sm (fun b hb=>hn b (Xf _ hb)) h4⟩
 |[],_::_,_,h=>False.elim h
 |_::_,[],_,h=>False.elim h
def Z6.frOther {F H:Hp}{v:V}{t:OT}{p q:Qg}(sm:QN F (frF F H p))(ok:Z6 K F H v t q)(hn:∀a∈q,a∉p):Z6 K (frF F H p) H v t q:=by
 cases t with
 |fz d=>exact⟨ok.1,ok.2.mono sm⟩
 |zow Ψ=>exact⟨ok.1,Ψ.mono sm ok.2⟩
 |ol ds =>
   obtain⟨a,rfl,rfl,h1,xs,h2,h3⟩:=ok
   exact⟨a,rfl,rfl,by rw[Yq (hn a Xc)];exact h1,xs,h2,h3.mono sm⟩
 |oll dss =>
   obtain⟨a,as,rfl,rfl,hd,h1,h2,h3⟩:=ok
   exact⟨a,as,rfl,rfl,hd,by rw[Yq (hn a Xc)];exact h1,h2,h3.frOther sm fun b hb=>hn b (Xf _ hb)⟩
 |scr ns=>obtain⟨h1,a,h2,h3⟩:=ok;exact⟨h1,a,h2,h3.mono sm⟩
 |own v0 Φ=>exact⟨ok.1,Φ.mono sm (fun a ha=>by rw[Yq (hn a ha)];exact(Φ.there ok.2 a ha).1) (fun _ _=>rfl) ok.2⟩
def QY.freezeG {H0 F H:Hp}{σ:St}{i:Nat}{t:OT}{d:PyData}(s:QY K H0 F ρ σ H)(e:ρ[i]?=some (some t))(ed:WG t=some d) :
 ∃p,(∀a∈p,F a=none/\H a≠none/\H0 a=none)/\QY K H0 (frF F H p) (ρ.set i (some (.fz d))) σ H:=by
 obtain⟨kt,h1,h2,fp,h3,h4,h5⟩:=s;obtain⟨v,e1,ok⟩:=h3 i _ e;have hlt:=(Xe.mp e).1;have sm:QN F (frF F H (fp i)):=Wp fun a ha=>(ok.there a ha).1;refine⟨fp i,fun a ha=>⟨(ok.there a ha).1,(ok.there a ha).2,(h5 i a ha).1⟩,kt.mono sm,Ud h1,by simp[h2],fun j=>if j=i then [] else fp j,fun j t' e'=>?_,fun j k b hb hc=>?_,fun j b hb=>?_⟩
 ·by_cases hj:j=i
  ·subst hj
   rw[XL hlt]at e';cases e';refine⟨_,e1,?_,ok.frz ed⟩;dsimp only;rw[Xb rfl]
  ·rw[XT (Ne.symm hj)]at e'
   obtain⟨u,f1,f2⟩:=h3 j t' e';refine⟨u,f1,?_⟩;dsimp only;rw[Xa hj];exact f2.frOther sm fun a ha z=>hj (h4 j i a ha z)
 ·by_cases hj:j=i
  ·simp[hj]at hb
  ·by_cases hk:k=i
   ·simp[hk]at hc
   ·simp only[Xa hj]at hb
    simp only[Xa hk]at hc;exact h4 j k b hb hc
 ·by_cases hj:j=i
  ·simp[hj]at hb
  ·simp only[Xa hj]at hb
   exact h5 j b hb
def Br {t:TS}{D:PEnds}(i:Nat){r:OT}{d:PyData}(e:ρ[i]?=some (some r))(ed:WG r=some d)(h:Q9 K t (ρ.set i (some (.fz d))) D):Q9 K t ρ D:=fun F0 H0 F σ H E x S C=>by
 obtain⟨p,hp,S'⟩:=S.freezeG e ed;refine h F0 H0 _ σ H E ⟨x.hh,x.ff.trans (Wp fun a ha=>(hp a ha).1),S'.sub,fun a ha=>?_⟩ S' C
 by_cases z:a∈p
 ·exact .inr (hp a z).2.2
 ·rw[Yq z]at ha;exact x.fr a ha
def Dj {F H F' H':Hp}{p:Qg}(hp:∀a∈p,F a=none/\H a≠none)(x:QM (frF F H p) H F' H'):QM F H (fun b=>if b∈p then none else F' b) H' :=
 ⟨x.hh,fun b u hb=>by
  have nb:b∉p:=fun z=>by rw[(hp b z).1]at hb;cases hb
  simp only[Xa nb];exact x.ff b u (by rw[Yq nb];exact hb),fun b u hb=>by
  by_cases z:b∈p
  ·simp[z]at hb
  ·simp only[Xa z]at hb;exact x.fh b u hb,fun b hb=>by
  by_cases z:b∈p
  ·simp[z]at hb
  ·simp only[Xa z]at hb
   rcases x.fr b hb with y|y
   ·rw[Yq z]at y;exact .inl y
   ·exact .inr y⟩
def B7 {t:TE}(i:Nat){r:OT}{d0 d:PyData}{w:V}(e:ρ[i]?=some (some r))(ed:WG r=some d0)(hf:VU d=some w)(h:Qs K t (ρ.set i (some (.fz d0))) d):Qs K t ρ d:=fun H0 F σ H Q S q=>by
 obtain⟨p,hp,S'⟩:=S.freezeG e ed;refine h H0 _ σ H Q S' fun F' H' v x rr=>?_;have hv:=rr.flat hf;refine q _ H' v (Dj (fun a ha=>⟨(hp a ha).1,(hp a ha).2.1⟩) x) ?_;subst hv;cases rr<;>simp[VU]at hf
 ·exact .non
 ·exact .bl _
 ·exact .int _
 ·exact .str _
def Eh {t:TT}(i:Nat){r:OT}{d0:PyData}{b:Bool}(e:ρ[i]?=some (some r))(ed:WG r=some d0)(h:Zz K t (ρ.set i (some (.fz d0))) b):Zz K t ρ b:=fun H0 F σ H Q S q=>by
 obtain⟨p,hp,S'⟩:=S.freezeG e ed;exact h H0 _ σ H Q S' fun F' H' x=>q _ H' (Dj (fun a ha=>⟨(hp a ha).1,(hp a ha).2.1⟩) x)
def M6 (ds:Qd):Prop := ∀d∈ds,∃w,VU d=some w
theorem Q0.flats {F F':Hp}:∀{xs:List V} {ds:Qd},M6 ds->Q0 F xs ds->Q0 F' xs ds
 |_,_,_,.nil=>.nil
 |_::_,d::_,h,.cons r t=>by
   obtain⟨w,e⟩:=h d Xc;refine .cons ?_ (Q0.flats (fun c hc=>h c (Xf _ hc)) t)
   cases r<;>simp[VU]at e
   ·exact .non
   ·exact .bl _
   ·exact .int _
   ·exact .str _
def E4 {t:TE}(i:Nat){r:OT}{d0:PyData}{ds:Qd}(e:ρ[i]?=some (some r))(ed:WG r=some d0)(hf:M6 ds)(h:EvO K t (ρ.set i (some (.fz d0))) (.ol ds)):EvO K t ρ (.ol ds):=fun H0 F σ H Q S q=>by
 obtain⟨p,hp,S'⟩:=S.freezeG e ed;refine h H0 _ σ H Q S' fun F' H' v pp x hpp ok=>?_;obtain⟨a,rfl,rfl,h1,xs,h2,h3⟩:=ok;refine q _ H' _ [a] (Dj (fun a ha=>⟨(hp a ha).1,(hp a ha).2.1⟩) x) hpp ⟨a,rfl,rfl,?_,xs,h2,h3.flats hf⟩;dsimp only;by_cases z:a∈p
 ·rw[Xb z]
 ·rw[Xa z];exact h1
end
section
variable {K:W.Frag}{ρ:QL}{ta tb tc te ti tj:TE}{D:PEnds}
theorem Zu.snoc {F H:Hp}{b:Addr}{ds:Qd}:∀{as:Qg} {dss:List (Qd)},Zu F H as dss->VE F H b ds->Zu F H (as++[b]) (dss++[ds])
 |[],[],_,h=>⟨h,trivial⟩
 |_::_,_::_,h,h2=>⟨h.1,Zu.snoc h.2 h2⟩
 |[],_::_,h,_=>False.elim h
 |_::_,[],h,_=>False.elim h
theorem Zu.length {F H:Hp}:∀{as:Qg} {dss:List (Qd)},Zu F H as dss->as.length=dss.length
 |[],[],_=>rfl
 |_::_,_::_,h=>by simp[Zu.length h.2]
 |[],_::_,h=>False.elim h
 |_::_,[],h=>False.elim h
theorem Zu.get {F H:Hp}:∀{as:Qg} {dss:List (Qd)} {k:Nat} {ds:Qd},Zu F H as dss->dss[k]?=some ds->∃c,as[k]?=some c/\VE F H c ds
 |[],[],_,_,_,e=>by simp at e
 |a::_,_::_,0,ds,h,e=>by simp at e;subst e;exact⟨a,rfl,h.1⟩
 |_::as,_::dss,k+1,ds,h,e=>by
   obtain⟨c,h1,h2⟩:=Zu.get (k:=k) (ds:=ds) h.2 (by simpa using e)
   exact⟨c,by simpa using h1,h2⟩
 |[],_::_,_,_,h,_=>False.elim h
 |_::_,[],_,_,h,_=>False.elim h
theorem Zu.set {F H:Hp}{c:Addr}{xs:List V}{ds:Qd}(r:Q0 F xs ds)(hf:F c=none):∀{as:Qg} {dss:List (Qd)} {k:Nat},Zu F H as dss->as.Nodup->as[k]?=some c->Zu F (upd H c (.lst xs)) as (dss.set k ds)
 |[],[],_,_,_,e=>by simp at e
 |a::as,d::dss,0,h,hn,e=>by
   simp at e
   subst e;exact⟨⟨hf,xs,Zg,r⟩,h.2.other (XN.mp hn).1⟩
 |a::as,d::dss,k+1,h,hn,e=>by
   have e':as[k]?=some c:=by simpa using e
   have hm:=List.mem_of_getElem? e'
   exact⟨h.1.other (fun z=>(XN.mp hn).1 (by rw[z];exact hm)),Zu.set r hf h.2 (XN.mp hn).2 e'⟩
 |[],_::_,_,h,_,_=>False.elim h
 |_::_,[],_,h,_,_=>False.elim h
def TH {i:Nat}{dss:List (Qd)}{ds:Qd}{d:PyData}{k m:Int}{k' m':Nat}(e:ρ[i]?=some (some (.oll dss)))(h:Qs K te ρ d)(hk:Qs K ti ρ (.int k))(hm:Qs K tj ρ (.int m))(e1:ixN dss.length k=some k')(e2:dss[k']?=some ds)(e3:ixN ds.length m=some m')
 (hn:D.nx (ρ.set i (some (.oll (dss.set k' (ds.set m' d)))))):Q9 K (Wa te (Mc (tOp (rIx K) (Za i) ti) tj Gr)) ρ D:=fun F0 H0 F σ H E x S C =>
 h H0 F σ H _ S fun F1 H1 v x1 r1=>by
  have S1:=S.ext x1;obtain⟨fp1,g1,g2,g3⟩:=S1.fp;obtain⟨v1,q1,a,as,rfl,p1,nd1,fa1,ha1,oa1⟩:=g1 i _ e;refine⟨_,q1,hk H0 F1 σ H1 _ S1 fun F2 H2 y x2 r2=>?_⟩
  cases r2
  obtain⟨c,hc,oc⟩:=(oa1.ext x2).get e2
  have ea:atI (as.map V.ref) k=some (.ref c):=by
   unfold atI;rw[Xh,oa1.length,e1];show(as.map V.ref)[k']?=_;rw[Xj,hc];rfl
  refine .inl ⟨a,as.map V.ref,k,.ref c,rfl,rfl,SqL.of (x2.hh _ _ ha1),ea,hm H0 F2 σ H2 _ (S1.ext x2) fun F3 H3 z x3 r3=>?_⟩
  cases r3
  have x23:=x2.trans x3;obtain⟨oc1,xs,oc2,oc3⟩:=oc.ext x3;refine⟨c,xs,m,m',rfl,rfl,oc2,by rw[oc3.length];exact e3,?_⟩;have S3:=S1.ext x23;have X3:=x.trans (x1.trans x23);have hcm:c∈fp1 i:=by rw[p1];exact Xf _ (List.mem_of_getElem? hc)
  have nca:c≠a:=fun z=>(XN.mp nd1).1 (by rw[<- z];exact List.mem_of_getElem? hc);have hlt:=(Xe.mp e).1;have rr:=(oc3.set (r1.mono x23.ff) m');refine C.nx F3 σ _ _ (X3.wr (g3 i c hcm).1 oc1) ⟨S3.kt,S3.sub.upd oc1,by simp[S3.len],fp1,fun j t ej=>?_,g2,fun j b hb=>?_⟩ hn
  ·by_cases hj:j=i
   ·subst hj
    rw[XL hlt]at ej;cases ej;have ok3:=(g1 j _ e);refine⟨_,q1,a,as,rfl,p1,nd1,x23.free fa1 (Vy ha1),by rw[Q7 nca.symm];exact x23.hh _ _ ha1,(oa1.ext x23).set rr oc1 (XN.mp nd1).2 hc⟩
   ·rw[XT (Ne.symm hj)]at ej
    obtain⟨u,f1,f2⟩:=g1 j t ej
    exact⟨u,f1,(f2.ext x23).other fun z=>hj (g2 j i c z hcm)⟩
  ·obtain⟨f1,f2⟩:=g3 j b hb
   refine⟨f1,?_⟩
   by_cases z:b=c
   ·subst z;rw[Zg];exact fun q=>nomatch q
   ·rw[Q7 z]
    obtain⟨o,ho⟩:=MT f2;exact Vy (x23.hh _ _ ho)
def JY {α:Type}{f:List (Option Nat)}{wi:TI}{g:CIn->TG}{tee:CIn->TE}{xs:List α}{enc:α->PyData}{h:α->Qd}(hi:EvI K wi ρ (xs.map enc))(hl:xs.length<=1000)
 (hs:∀x∈xs,∀c,∃ρ2,GTo K (g c) (enc x) (JX f ρ) ρ2/\EvO K (tee c) ρ2 (.ol (h x))):EvO K (tLC f wi g (fun _=>U4) tee) ρ (.oll (xs.map h)):=fun H0 F σ H Q S q =>
 hi H0 F σ H _ S fun F1 H1 J x1 W c=>by
  have hn:xs.length<=sizeLine:=X9 (VX hl);refine⟨fun i m ys H=>m=xs.length-i/\i<=xs.length/\∃F' as,QM F1 H1 F' H/\ys=as.map V.ref/\as.Nodup/\(∀a∈as,H1 a=none)/\Zu F' H as ((xs.take i).map h),⟨xs.length,by simp,X4 _,F1,[],QM.refl x1.fh,rfl,by simp,fun a ha=>(nomatch ha),trivial⟩,?_⟩
  rintro i m ys H' ⟨rfl,hle,F',as,x',rfl,nd,hfr,oa⟩
  obtain⟨w1,w2⟩:=W F' H' x'.ff x'.fh
  by_cases hlt:i<xs.length
  ·have e:(xs.map enc)[i]?=some (enc xs[i]):=by simp[hlt]
   obtain⟨go,yl⟩:=w2 i _ e;refine .inr ⟨go,fun v H3 y=>?_⟩;obtain⟨F3,x3,r3⟩:=yl v H3 y;obtain⟨ρ2,k1,k2⟩:=hs xs[i] (Xy hlt) c;have S3:=(S.ext (x1.trans (x'.trans x3))).inner f;have tk:xs.take (i+1)=xs.take i++[xs[i]]:=by rw[WB];simp[hlt]
   have ol:=oa.length;refine k1 H0 F3 _ H3 v _ S3 r3 fun σ2 S4=>?_;dsimp only[U4];rw[Xb rfl];refine k2 H0 F3 σ2 H3 _ S4 fun F5 H5 z p x5 hp ok=>⟨?_,xs.length-(i+1),by omega,rfl,hlt,F5,as++[?_],x'.trans (x3.trans x5),?_,?_,?_,?_⟩
   ·rw[Xh,ol,Xh,DN];omega
   ·exact(match z with|.ref b=>b|_=>0)
   all_goals obtain⟨b,rfl,rfl,o1⟩:=ok
   ·simp
   ·rw[GU]
    refine⟨nd,by simp,fun c' hc' d hd=>?_⟩;have hd':d=b:=by simpa using hd
    subst hd';intro z;subst z;have hb:H3 c'=none:=hp c' Xc
    have:=(oa.mem c' hc').2
    obtain⟨o,ho⟩:=MT this;rw[x3.hh _ _ ho]at hb;cases hb
   ·intro c' hc'
    rcases XC.mp hc' with hc'|hc'
    ·exact hfr c' hc'
    ·have:c'=b:=by simpa using hc'
     subst this;exact(x'.trans x3).hh.free (hp c' Xc)
   ·rw[tk,XE]
    exact(oa.ext (x3.trans x5)).snoc o1
  ·have e:i=xs.length:=by omega
   subst e;refine .inl ⟨by simpa using w1,fun a ha=>?_⟩;rw[WE]at oa;have na:a∉as:=fun z=>(oa.mem a z).2 ha;refine q F' _ _ (a::as) ((x1.trans x').trans (QM.own x'.fh ha)) (fun b hb=>?_) ⟨a,as,rfl,rfl,XN.mpr ⟨na,nd⟩,x'.fh.free ha,Zg,oa.other na⟩
   rcases Xg.mp hb with rfl|hb
   ·exact(x1.trans x').hh.free ha
   ·exact x1.hh.free (hfr b hb)
def Kk {ds:Qd}{k:Int}(ha:Qs K ta ρ (.list ds))(hb:Qs K tb ρ (.int k))(h0:0<=k)(hl:ds.length*k.toNat<=1000)(hk:k<=1000000):EvO K (tOp Rv ta tb) ρ (.ol (List.replicate k.toNat ds).flatten):=fun H0 F σ H Q S q =>
 YN ha hb S fun F' H' x y e r1 r2=>by
  obtain⟨a,xs,rfl,h1,h2,h3⟩:=Wt (K:=K) r1 e.fh
  cases r2
  have h63:(2:Int)^63=9223372036854775808:=by decide
  refine⟨a,k,xs,rfl,rfl,h3,by rw[h63];omega,by rw[h63];omega,by rw[h2.length];exact X9 (VX hl),fun p hp=>?_⟩
  have rr:∀n:Nat,Q0 F' (List.replicate n xs).flatten (List.replicate n ds).flatten:=fun n=>by
   induction n with
   |zero=>exact .nil
   |succ n ih=>rw[Ur,Ur,Gf,Gf];exact h2.append ih
  obtain⟨z1,z2,z3⟩:=G8 (K:=K) e hp (rr k.toNat);exact q _ _ _ _ z1 z2 z3
theorem SJ {α:Type}(d:α):∀n:Nat,(List.replicate n [d]).flatten=List.replicate n d
 |0=>rfl
 |n+1=>by rw[Ur,Gf,SJ d n];rfl
end
end L2
end
namespace L2
open PySem PySem.Spec PyProof.Rows
section
variable {κ:Type} [DecidableEq κ]
def Z4 (kvs:List (κ×V))(k:κ):Option V:=(kvs.find? fun kv=>decide (kv.1=k)).map (·.2)
def Yb (kvs:List (κ×V))(k:κ)(v:V):List (κ×V) :=
 if (kvs.any fun kv=>decide (kv.1=k))=true then kvs.map (fun kv=>if kv.1=k then (kv.1,v) else kv) else kvs++[(k,v)]
def Wq {p:κ×V}{r:List (κ×V)}{k:κ}(e:p.1=k):Z4 (p::r) k=some p.2:=by simp[Z4,XA,e]
def Wo {p:κ×V}{r:List (κ×V)}{k:κ}(e:¬p.1=k):Z4 (p::r) k=Z4 r k:=by simp[Z4,XA,e]
theorem Px (k:κ):∀kvs:List (κ×V),(kvs.any fun kv=>decide (kv.1=k))=(Z4 kvs k).isSome
 |[]=>rfl
 |p::r=>by
   rw[GQ];by_cases e:p.1=k
   ·simp only[Wq e,YZ e,Bool.true_or,Option.isSome_some]
   ·rw[Wo e,XG e,Bool.false_or];exact Px k r
theorem PX (k j:κ)(y:V):∀kvs:List (κ×V),Z4 kvs k=none->Z4 (kvs++[(k,y)]) j=if j=k then some y else Z4 kvs j
 |[],_=>by
   by_cases e:k=j
   ·rw[Xb e.symm];exact Wq (p:=(k,y)) e
   ·rw[Xa (fun z=>e z.symm)];exact Wo (p:=(k,y)) e
 |p::r,hn=>by
   rw[Gd];have hk:¬p.1=k:=fun z=>by rw[Wq z]at hn;cases hn
   rw[Wo hk]at hn;have ih:=PX k j y r hn
   by_cases e:p.1=j
   ·rw[Wq e,Wq e,Xa (fun z=>hk (e.trans z))]
   ·rw[Wo e,Wo e,ih]
def Li (kvs:List (κ×V))(k:κ)(v:V):(Yb kvs k v).length<=kvs.length+1:=by
 unfold Yb;split
 ·rw[Xh];omega
 ·rw[Xv,XX,List.length_nil];omega
def Vm.isSome_eq {o:Option V}{u:Qf}(r:Vm o u):o.isSome=u.isSome:=by
 cases o with
 |none=>cases u with
   |none=>rfl
   |some _=>exact(show False from r).elim
 |some _=>cases u with
   |none=>exact(show False from r).elim
   |some _=>rfl
def Vm.getD {o:Option V}{u:Qf}{d:V}{d':Value}(r:Vm o u)(rd:QR d d'):QR (o.getD d) (u.getD d'):=by
 cases o with
 |none=>cases u with
   |none=>exact rd
   |some _=>exact(show False from r).elim
 |some _=>cases u with
   |none=>exact(show False from r).elim
   |some _=>exact r
def KV.val {kvs:List (κ×V)}{vs:List (κ×Value)}(r:KV kvs vs)(k:κ):Vm (Z4 kvs k) (valueAt vs k):=by
 unfold KV at r;induction r with
 |nil=>exact True.intro
 |@cons p q ps qs h t ih =>
   obtain⟨h1,h2⟩:=h
   by_cases e:p.1=k
   ·have e':q.1=k:=h1.symm.trans e
    have b:valueAt (q::qs) k=some q.2:=by simp[valueAt,XA,e']
    rw[Wq e,b];exact h2
   ·have e':¬q.1=k:=fun z=>e (h1.trans z)
    have b:valueAt (q::qs) k=valueAt qs k:=by simp[valueAt,XA,e']
    rw[Wo e,b];exact ih
def KV.any {kvs:List (κ×V)}{vs:List (κ×Value)}(r:KV kvs vs)(k:κ):(kvs.any fun kv=>decide (kv.1=k))=vs.any fun kv=>decide (kv.1=k):=by
 unfold KV at r;induction r with
 |nil=>rfl
 |cons h t ih=>rw[GQ,GQ,ih,h.1]
def KV.repl {kvs:List (κ×V)}{vs:List (κ×Value)}(r:KV kvs vs)(k:κ){y:V}{u:Value}(ry:QR y u) :
 KV (kvs.map fun kv=>if kv.1=k then (kv.1,y) else kv) (vs.map fun kv=>if kv.1=k then (kv.1,u) else kv):=by
 unfold KV at r ⊢;induction r with
 |nil=>exact .nil
 |@cons p q ps qs h t ih =>
   rw[Xs,Xs];refine .cons ?_ ih;obtain⟨h1,h2⟩:=h
   by_cases e:p.1=k
   ·rw[Xb e,Xb (h1.symm.trans e)];exact⟨h1,ry⟩
   ·rw[Xa e,Xa (fun z=>e (h1.trans z))];exact⟨h1,h2⟩
def KV.put {kvs:List (κ×V)}{vs:List (κ×Value)}(r:KV kvs vs)(k:κ){y:V}{u:Value}(ry:QR y u):KV (Yb kvs k y) (stored vs k u):=by
 unfold Yb stored;rw[r.any k];by_cases e:(vs.any fun kv=>decide (kv.1=k))=true
 ·rw[Xb e,Xb e];exact r.repl k ry
 ·rw[Xa e,Xa e];exact Paired.snoc r ⟨rfl,ry⟩
def KV.length {kvs:List (κ×V)}{vs:List (κ×Value)}(r:KV kvs vs):kvs.length=vs.length:=Paired.length r
end
def Gq {P:Program}{w:World}{k:Key}{u:Value}(r:QR (kV k) u):(Vx P w).is k u=true:=by
 cases k with
 |inl i=>obtain⟨t,e⟩:=(show ∃t,u=Value.int i t from r);subst e;exact Zlb P w i t
 |inr x=>obtain⟨t,e⟩:=(show ∃t,u=Value.str x t from r);subst e;exact Zk7 P w x t
theorem PV {P:Program}{w:World}:∀{ks:List Key} {us:Qe},Zf (ks.map kV) us->ItemsAre (Vx P w) ks us
 |[],_,r=>by rw[JJ]at r;cases r;exact .nil
 |k::ks,_,r=>by
   rw[Xs]at r;cases r with
   |cons h t=>exact .cons (Gq h) (PV t)
abbrev KT (H:Hp):List (List Key×V)->List (List Key×Addr×Value)->Prop:=Paired fun p q=>p.1=q.1/\H q.2.1=some (.tup (p.1.map kV))/\QR p.2 q.2.2
def KT.val {H:Hp}{kvs:List (List Key×V)}{xs:List (List Key×Addr×Value)}(r:KT H kvs xs)(k:List Key):Vm (Z4 kvs k) ((atKey xs k).map (·.2)):=by
 induction r with
 |nil=>exact True.intro
 |@cons p q ps qs h t ih =>
   obtain⟨h1,_,h2⟩:=h
   by_cases e:p.1=k
   ·have e':q.1=k:=h1.symm.trans e
    have b:atKey (q::qs) k=some q.2:=by simp[atKey,XA,e']
    rw[Wq e,b];exact h2
   ·have e':¬q.1=k:=fun z=>e (h1.trans z)
    have b:atKey (q::qs) k=atKey qs k:=by simp[atKey,XA,e']
    rw[Wo e,b];exact ih
def KT.repl {H:Hp}{kvs:List (List Key×V)}{xs:List (List Key×Addr×Value)}(r:KT H kvs xs)(k:List Key){y:V}{u:Value}(ry:QR y u) :
 KT H (kvs.map fun kv=>if kv.1=k then (kv.1,y) else kv) (xs.map (putAt k u)):=by
 induction r with
 |nil=>exact .nil
 |@cons p q ps qs h t ih =>
   rw[Xs,Xs];refine .cons ?_ ih;obtain⟨h1,h2,h3⟩:=h;unfold putAt;by_cases e:p.1=k
   ·rw[Xb e,Xb (h1.symm.trans e)];exact⟨h1,h2,ry⟩
   ·rw[Xa e,Xa (fun z=>e (h1.trans z))];exact⟨h1,h2,h3⟩
def KT.put {H:Hp}{kvs:List (List Key×V)}{xs:List (List Key×Addr×Value)}(r:KT H kvs xs)(k:List Key){b:Addr}{y:V}{u:Value}(hb:H b=some (.tup (k.map kV)))(ry:QR y u) :
 KT H (Yb kvs k y) (storedH xs k b u):=by
 have e:(kvs.any fun kv=>decide (kv.1=k))=(atKey xs k).isSome:=by
  rw[Px,(r.val k).isSome_eq,Uo]
 unfold Yb storedH;rw[e];by_cases q:(atKey xs k).isSome=true
 ·rw[Xb q,Xb q];exact r.repl k ry
 ·rw[Xa q,Xa q];exact Paired.snoc r ⟨rfl,hb,ry⟩
def KT.keeps {H H':Hp}{kvs:List (List Key×V)}{xs:List (List Key×Addr×Value)}(r:KT H kvs xs)(ht:∀b ys,H b=some (.tup ys)->H' b=some (.tup ys)):KT H' kvs xs :=
 Paired.mapP r fun _ _ z=>⟨z.1,ht _ _ z.2.1,z.2.2⟩
section
variable {P:Program}{w:World}{H:Hp}{h:Heap}{a:Addr}
def R5 {u:HO}(ok:HOk P w H h)(e:Rd H a u):ZR P w H h a u:=e.ok ok
def U8 {kvs:List (Key×V)}(ok:HOk P w H h)(e:Rd H a (.dK kvs)):kvs.length<=sizeLine/\(a==sysModules)=false/\∃vs,KV kvs vs/\h.DictOf (Vx P w) a vs :=
 show ZR P w H h a (.dK kvs) from R5 ok e
def LH {kvs:List (Key×V)}(ok:HOk P w H h)(e:H a=some (.dK kvs)):kvs.length<=sizeLine/\(a==sysModules)=false/\∃vs,KV kvs vs/\h.DictOf (Vx P w) a vs:=U8 ok (.inl e)
def WR {ks:List Key}(ok:HOk P w H h)(e:H a=some (.tup (ks.map kV))):(tupleKind (Vx P w)).is h ks a:=by
 obtain⟨_,its,r,o,h1,h2,n,h3⟩:=(show ZR P w H h a (.tup (ks.map kV)) from ok a _ e)
 exact⟨o,its.toArray,n,h1,h2,h3,by simpa using PV r⟩
def U6 {kvs:List (List Key×V)}(ok:HOk P w H h)(e:Rd H a (.dT kvs)):kvs.length<=sizeLine/\(a==sysModules)=false /\
 ∃xs,KT H kvs xs/\h.DictOfH (tupleKind (Vx P w)) a xs:=by
 obtain⟨z,y,xs,r,o,es,ep,h1,h2,h3,h4,h5⟩:=(show ZR P w H h a (.dT kvs) from R5 ok e);refine⟨z,y,xs,r,o,es,ep,h1,h2,h3,h4,fun x hx=>?_,h5⟩
 have all:∀{l:List (List Key×V)} {m:List (List Key×Addr×Value)},KT H l m->∀x∈m,(tupleKind (Vx P w)).is h x.1 x.2.1:=by
  intro l m q;induction q with
  |nil=>intro x hx;exact nomatch hx
  |@cons p q ps qs hq t ih =>
    intro x hx;rcases Xg.mp hx with e|hx
    ·subst e
     exact WR ok (by rw[<- hq.1];exact hq.2.1)
    ·exact ih x hx
 exact all r x hx
def Hu {kvs:List (List Key×V)}(ok:HOk P w H h)(e:H a=some (.dT kvs)):kvs.length<=sizeLine/\(a==sysModules)=false /\
 ∃xs,KT H kvs xs/\h.DictOfH (tupleKind (Vx P w)) a xs:=U6 ok (.inl e)
end
def V4 (H:Hp)(a:Addr)(y:V)(r:Option V):Prop :=
 (∃kvs k,Rd H a (.dK kvs)/\y=kV k/\r=Z4 kvs k)\/∃kvs k b,Rd H a (.dT kvs)/\y=.ref b/\H b=some (.tup (k.map kV))/\r=Z4 kvs k
def JO (H:Hp)(a:Addr)(y v:V)(H':Hp):Prop :=
 (∃kvs k,H a=some (.dK kvs)/\y=kV k/\kvs.length<sizeLine/\H'=upd H a (.dK (Yb kvs k v))) \/
 ∃kvs k b,H a=some (.dT kvs)/\y=.ref b/\H b=some (.tup (k.map kV))/\kvs.length<sizeLine/\H'=upd H a (.dT (Yb kvs k v))
def V4.k {H:Hp}{a:Addr}{kvs:List (Key×V)}{k:Key}(e:H a=some (.dK kvs)):V4 H a (kV k) (Z4 kvs k):=.inl ⟨kvs,k,.inl e,rfl,rfl⟩
def V4.t {H:Hp}{a b:Addr}{kvs:List (List Key×V)}{k:List Key}(e:H a=some (.dT kvs))(eb:H b=some (.tup (k.map kV))):V4 H a (.ref b) (Z4 kvs k):=.inr ⟨kvs,k,b,.inl e,rfl,eb,rfl⟩
def JO.k {H:Hp}{a:Addr}{kvs:List (Key×V)}{k:Key}{v:V}(e:H a=some (.dK kvs))(hl:kvs.length<sizeLine):JO H a (kV k) v (upd H a (.dK (Yb kvs k v))):=.inl ⟨kvs,k,e,rfl,hl,rfl⟩
def JO.t {H:Hp}{a b:Addr}{kvs:List (List Key×V)}{k:List Key}{v:V}(e:H a=some (.dT kvs))(eb:H b=some (.tup (k.map kV)))(hl:kvs.length<sizeLine) :
 JO H a (.ref b) v (upd H a (.dT (Yb kvs k v))):=.inr ⟨kvs,k,b,e,rfl,eb,hl,rfl⟩
section
variable {X:Cx}{Xbo:Qc}{σ:St}{H:Hp}{s:Shared}{a:Addr}{y v:V}{u r:Value}{o:Option V}{A:Around}{E:Qb}
def Qu.big (I:Qu X Xbo σ H s):sysModules<s.heap.objs.size:=by
 have h:mainGlobals<s.heap.objs.size:=(I.mod.glob.keeps I.bk).lt;exact Nat.lt_trans (by decide) h
def Eu {Q:Qb}(hu:A.units+1<cLine)(I:Qu X Xbo σ H s)(g:V4 H a y (some v))(ry:QR y u)(h:∀w' s',Qu X Xbo σ H s'->QR v w'->Q w' s') :
 wpAny (model X.prog X.w) A (getItem (.ref a) u) Q E s:=by
 rcases g with ⟨kvs,k,e,ey,l⟩|⟨kvs,k,b,e,ey,eb,l⟩
 ·subst ey
  obtain⟨z,hd,vs,rel,dd⟩:=U8 I.hok e;obtain⟨w',hw,rw'⟩:=Vm.some_of (v:=v) (o:=valueAt vs k) (by rw[l];exact rel.val k);exact wpAny_getItem_of (Gq ry) dd.mapOf hw (h w' _ (I.tok _) rw')
 ·subst ey
  cases (show u=Value.ref b from ry)
  obtain⟨z,hd,xs,rel,dd⟩:=U6 I.hok e;obtain⟨w',hw,rw'⟩:=Vm.some_of (v:=v) (o:=(atKey xs k).map (·.2)) (by rw[l];exact rel.val k);obtain⟨p,hp,hp2⟩:=Option.map_eq_some_iff.mp hw;refine wpAny_getItem_heap (tupleKind_room_in1 hu) (WR I.hok eb) dd hp ?_;rw[hp2];exact h w' _ (I.tok _) rw'
def Lx {Q:Qb}(hu:A.units+1<cLine)(I:Qu X Xbo σ H s)(g:V4 H a y o)(ry:QR y u)(h:∀s',Qu X Xbo σ H s'->Q (.bool o.isSome) s') :
 wpAny (model X.prog X.w) A (compareOp .In u (.ref a)) Q E s:=by
 rcases g with ⟨kvs,k,e,ey,l⟩|⟨kvs,k,b,e,ey,eb,l⟩
 ·subst ey
  obtain⟨z,hd,vs,rel,dd⟩:=U8 I.hok e;refine wpAny_in_of (Gq ry) hd dd.mapOf ?_;rw[<- (rel.val k).isSome_eq,<- l];exact h _ (I.tok _)
 ·subst ey
  cases (show u=Value.ref b from ry)
  obtain⟨z,hd,xs,rel,dd⟩:=U6 I.hok e;refine wpAny_in_heap (tupleKind_room_in1 hu) (WR I.hok eb) hd dd ?_;have q:=(rel.val k).isSome_eq;rw[Uo]at q;rw[<- q,<- l];exact h _ (I.tok _)
def C8 {Q:Qb}(hu:A.units+1<cLine)(I:Qu X Xbo σ H s)(g:V4 H a y o)(ry:QR y u)(h:∀s',Qu X Xbo σ H s'->Q (.bool (!o.isSome)) s') :
 wpAny (model X.prog X.w) A (compareOp .NotIn u (.ref a)) Q E s:=by
 rcases g with ⟨kvs,k,e,ey,l⟩|⟨kvs,k,b,e,ey,eb,l⟩
 ·subst ey
  obtain⟨z,hd,vs,rel,dd⟩:=U8 I.hok e;refine wpAny_notIn_of (Gq ry) hd dd.mapOf ?_;rw[<- (rel.val k).isSome_eq,<- l];exact h _ (I.tok _)
 ·subst ey
  cases (show u=Value.ref b from ry)
  obtain⟨z,hd,xs,rel,dd⟩:=U6 I.hok e;refine wpAny_notIn_heap (tupleKind_room_in1 hu) (WR I.hok eb) hd dd ?_;have q:=(rel.val k).isSome_eq;rw[Uo]at q;rw[<- q,<- l];exact h _ (I.tok _)
def Bz {h':Heap}{t':Nat}{ob:HO}(I:Qu X Xbo σ H s)(mu:Mut (H a))(hs:Heap.SameBut a s.heap h')(he:∃q,h'.get? a=some q)(new:ZR X.prog X.w (upd H a ob) h' a ob) :
 Qu X Xbo σ (upd H a ob) { s with heap:=h',toks:=t' } :=
 I.write (x:=a) (e:=a) mu (.inl rfl) (fun b q hb z=>(hs.2 b hb).trans z) he new
def LS {P:Program}{w:World}{H':Hp}{h':Heap}{kvs:List (Key×V)}{vs:List (Key×Value)}(z:kvs.length<=sizeLine)(hd:(a==sysModules)=false)(rel:KV kvs vs)(dd:h'.DictOf (Vx P w) a vs) :
 ZR P w H' h' a (.dK kvs):=⟨z,hd,vs,rel,dd⟩
def El {H':Hp}{Q:Unit->Shared->Prop}(hu:A.units+1<cLine)(I:Qu X Xbo σ H s)(g:JO H a y v H')(ry:QR y u)(rv:QR v r)(h:∀s',Qu X Xbo σ H' s'->Q () s') :
 wpAny (model X.prog X.w) A (setItem (.ref a) u r) Q E s:=by
 rcases g with ⟨kvs,k,e,ey,l,eH⟩|⟨kvs,k,b,e,ey,eb,l,eH⟩
 ·subst ey eH
  obtain⟨z,hd,vs,rel,dd⟩:=LH I.hok e;have hz:vs.length<=sizeLine:=by rw[<- rel.length];exact z
  have hl:(Yb kvs k v).length<=sizeLine:=by have:=Li kvs k v;omega
  refine wpAny_setItem_pairs (hsz:=hz) (Gq ry) dd fun h' dd' hs=>h _ ?_;have he:∃q,h'.get? a=some q:=let ⟨q,_,_,hq,_⟩:=dd';⟨q,hq⟩;exact Bz I (by rw[e];exact True.intro) hs he (LS hl hd (rel.put k rv) dd')
 ·subst ey eH
  cases (show u=Value.ref b from ry)
  obtain⟨z,hd,xs,rel,dd⟩:=Hu I.hok e;have hz:xs.length<=sizeLine:=by rw[<- Paired.length rel];exact z
  have hl:(Yb kvs k v).length<=sizeLine:=by have:=Li kvs k v;omega
  refine wpAny_setItem_heap (hsz:=hz) (tupleKind_room_in1 hu) (WR I.hok eb) dd fun h' dd' hs=>h _ ?_;obtain⟨q,es,ep,hq,h2,h3,h4,_,h5⟩:=dd';refine Bz I (by rw[e];exact True.intro) hs ⟨q,hq⟩ ⟨hl,hd,_,(rel.put k eb rv).keeps fun c ys ec=>?_,q,es,ep,hq,h2,h3,h4,h5⟩;rw[Q7 (Rz ec e (fun z=>nomatch z))];exact ec
end
section
variable {X:Cx}{Xbo:Qc}{σ:St}{H:Hp}{s:Shared}{a:Addr}{kvs:List (Key×V)}{k:Key}{u:Value}{A:Around}{E:Qb}
end
def Hg (i:Expr):Prop := ∀ov iv,subscripted i false ov iv=operate [ov,iv] (getItem ov iv)
def S0 {prog:Program}{w:World}{A:Around}{E:Qb}{s:Shared}{env:Env}{value slice:Expr}{pos:Pos}{T id:String}{Q:Qb}
 (hl:typeLookup (.type T) "__getitem__"=pure (some (.builtin id))) (hs:Hg slice)
 (h:wpAny (model prog w) A (eval value env) (fun o bj=>wpAny (model prog w) A (eval slice env) (fun i b9=>b9.TypeIs o T/\wpAny (model prog w) A (getItem o i) Q E b9) E bj) E s) :
 wpAny (model prog w) A (eval (.Subscript value slice pos) env) Q E s:=by
 refine Subscript_ (wpAny_mono h (fun o bj bv=>wpAny_mono bv (fun i b9 bw=>?_) fun _ _ x=>x) fun _ _ x=>x);obtain⟨hT,bw⟩:=bw;unfold subscriptTail;refine Xd ?_;rw[getitemInPython_of_ne hT.not_modules];refine Xd (wpAny_specialOf hT hl ?_)
 have fin:wpAny (model prog w) A (subscripted slice false o i) (fun r bq=>wpAny (model prog w) A (letTemporaryGo value o r >>= fun _=>pure r) Q E bq) E b9:=by
  rw[hs o i];exact wpAny_operating (wpAny_mono bw (fun r bq c7=>Xd (wpAny_letTemporaryGo (Xu c7))) fun _ _ x=>x)
 first
  |exact Xu (Xd fin)
  |exact Xd (Xu (Xd fin))
  |exact Xd fin
def ZkB {X:Cx} {Xbo:Qc} {σ:St} {H:Hp} {s:Shared} {a:Addr} {y:V} {o:Option V} (I:Qu X Xbo σ H s) (g:V4 H a y o):s.TypeIs (.ref a) "dict" := by
 rcases g with ⟨kvs,k,e,_,_⟩|⟨kvs,k,b,e,_,_,_⟩
 ·obtain⟨_,_,vs,_,dd⟩:=U8 I.hok e
  exact dd.typeIs
 ·obtain⟨_,_,xs,_,dd⟩:=U6 I.hok e
  exact dd.typeIs
def Hv (td ty:TE):TE:=fun σ H Q=>td σ H fun x H1=>ty σ H1 fun y H2=>∃a v,x=.ref a/\V4 H2 a y (some v)/\Q v H2
def Hn (ty td:TE):TE:=fun σ H Q=>ty σ H fun y H1=>td σ H1 fun x H2=>∃a o,x=.ref a/\V4 H2 a y o/\Q (.bl o.isSome) H2
def S5 (ty td:TE):TE:=fun σ H Q=>ty σ H fun y H1=>td σ H1 fun x H2=>∃a o,x=.ref a/\V4 H2 a y o/\Q (.bl (!o.isSome)) H2
def HD (td ty tv:TE):TS:=fun D σ H=>tv σ H fun v H1=>td σ H1 fun x H2=>ty σ H2 fun y H3=>∃a H4,x=.ref a/\JO H3 a y v H4/\D.nx σ H4
section
variable {X:Cx}{o i e value:Expr}{pos pos' tpos:Pos}{td ty tv:TE}
def Ku (hu:X.A.units+1<cLine)(ho:PE X o td)(hi:PE X i ty)(hs:Hg i):PE X (.Subscript o i pos) (Hv td ty):=by
 intro Xbo s σ H Q I h;refine S0 PySem.F.slot_dict_getitem.lookup hs (QI (ho Xbo s σ H _ I h) fun u s1 ⟨x,H1,I1,rx,q1⟩=>QI (hi Xbo s1 σ H1 _ I1 q1) fun iv s2 ⟨y,H2,I2,ry,a,v,ex,g,q2⟩=>?_);subst ex;obtain rfl:u=Value.ref a:=rx
 exact⟨ZkB I2 g,Eu hu I2 g ry fun w' s3 I3 rw'=>⟨v,H2,I3,rw',q2⟩⟩
def RU (hu:X.A.units+1<cLine)(hi:PE X i ty)(ho:PE X o td):PC X .In i o (Hn ty td):=by
 intro Xbo s σ H Q I h;refine QI (hi Xbo s σ H _ I h) fun iv s1 ⟨y,H1,I1,ry,q1⟩=>QI (ho Xbo s1 σ H1 _ I1 q1) fun u s2 ⟨x,H2,I2,rx,a,ov,ex,g,q2⟩=>?_;subst ex;obtain rfl:u=Value.ref a:=rx;exact Lx hu I2 g ry fun s3 I3=>⟨.bl ov.isSome,H2,I3,rfl,q2⟩
def Ii (hu:X.A.units+1<cLine)(hi:PE X i ty)(ho:PE X o td):PC X .NotIn i o (S5 ty td):=by
 intro Xbo s σ H Q I h;refine QI (hi Xbo s σ H _ I h) fun iv s1 ⟨y,H1,I1,ry,q1⟩=>QI (ho Xbo s1 σ H1 _ I1 q1) fun u s2 ⟨x,H2,I2,rx,a,ov,ex,g,q2⟩=>?_;subst ex;obtain rfl:u=Value.ref a:=rx;exact C8 hu I2 g ry fun s3 I3=>⟨.bl (!ov.isSome),H2,I3,rfl,q2⟩
def SQ (hu:X.A.units+1<cLine)(ho:PE X o td)(hi:PE X i ty)(hv:PE X value tv)(hs:swapsWith value (some (.Subscript o i pos')) pos.line X.env=pure false) :
 PS X (.Assign [.Subscript o i pos'] value pos) (HD td ty tv):=by
 intro Xbo s σ H D I h;refine wpAny_Assign_Subscript (QI (hv Xbo s σ H _ I h) fun r s1 ⟨v,H1,I1,rv,q1⟩=>QI (ho Xbo s1 σ H1 _ I1 q1) fun u s2 ⟨x,H2,I2,rx,q2⟩=>QI (hi Xbo s2 σ H2 _ I2 q2) fun iv s3 ⟨y,H3,I3,ry,a,H4,ex,g,q3⟩=>?_) hs;subst ex;obtain rfl:u=Value.ref a:=rx;exact El hu I3 g ry rv fun s4 I4=>⟨σ,H4,I4,q3⟩
end
def AW {P:Program} {w:World} {H:Hp} (h:Heap) (hb:sysModules<h.objs.size):ZR P w H (h.push { cls:=.type "dict",data:=.dict #[] }) h.objs.size (.dK []) :=
 ⟨X4 _,beq_eq_false_iff_ne.mpr (Ne.symm (Xr hb)),[],.nil,Heap.DictOf.new h⟩
def P4 {P:Program} {w:World} {H:Hp} (h:Heap) (hb:sysModules<h.objs.size):ZR P w H (h.push { cls:=.type "dict",data:=.dict #[] }) h.objs.size (.dT []) :=
 ⟨X4 _,beq_eq_false_iff_ne.mpr (Ne.symm (Xr hb)),[],.nil,_,#[],0,XV _ rfl,⟨rfl,rfl,rfl⟩,rfl,rfl,Gc⟩
def Sb:TE:=fun _ H Q=>∀p,H p=none->Q (.ref p) (upd H p (.dK []))
def FL:TE:=fun _ H Q=>∀p,H p=none->Q (.ref p) (upd H p (.dT []))
section
variable {X:Cx}{pos:Pos}
def A6:PE X (.Dict [] [] pos) Sb:=fun Xbo s σ H Q I h =>
 wpAny_Dict_empty ⟨.ref s.heap.objs.size,_,I.laid (a:=s.heap.objs.size) (o:=.dK []) (t':=s.toks) (fun _ _ q=>Xo _ q) (Xx _) (AW s.heap I.big),rfl,h _ (I.hok.fresh (Xx _))⟩
def AB:PE X (.Dict [] [] pos) FL:=fun Xbo s σ H Q I h =>
 wpAny_Dict_empty ⟨.ref s.heap.objs.size,_,I.laid (a:=s.heap.objs.size) (o:=.dT []) (t':=s.toks) (fun _ _ q=>Xo _ q) (Xx _) (P4 s.heap I.big),rfl,h _ (I.hok.fresh (Xx _))⟩
end
structure M2 (X:Cx)(o:Expr)(m:Str)(apos:Pos)(e f:Expr)(cpos:Pos):Prop where
 base:attributeBase o m X.env (eval o X.env)=eval o X.env
 few:((backTo cpos (starEach [e,f] X.env)).all (fun x => !x.1)&&(backToKw cpos (keywordEach [] X.env)).all (fun x=>x.1.isSome)
  && decide (([e,f]:Qi).length+([]:List Keyword).length+(if ([]:List Keyword).isEmpty then 0 else 1)<30))=true
 line:(apos.endLine==cpos.line)=true
 trees:backTo cpos (starEach [e,f] X.env)=[(false,eval e X.env),(false,eval f X.env)]
def IsD (H:Hp)(a:Addr):Prop:=(∃kvs,Rd H a (.dK kvs))\/∃kvs,Rd H a (.dT kvs)
def RW {X:Cx}{Xbo:Qc}{σ:St}{H:Hp}{s:Shared}{a:Addr}(I:Qu X Xbo σ H s)(d:IsD H a) :
 s.TypeIs (.ref a) "dict" /\ (∀b,Value.ref a=.ref b->∃ob,s.heap.get? b=some ob/\ob.dict=none)/\(a==sysModules)=false:=by
 rcases d with ⟨kvs,e⟩|⟨kvs,e⟩
 ·obtain⟨_,hd,vs,_,dd⟩:=U8 I.hok e
  refine⟨dd.typeIs,fun b q=>?_,hd⟩
  cases q
  obtain⟨ob,_,_,h1,h2,_⟩:=dd
  exact⟨ob,h1,h2.2.1⟩
 ·obtain⟨_,hd,xs,_,dd⟩:=U6 I.hok e
  refine⟨dd.typeIs,fun b q=>?_,hd⟩
  cases q
  obtain⟨ob,_,_,h1,h2,_⟩:=dd
  exact⟨ob,h1,h2.2.1⟩
section
variable {X:Cx}{Xbo:Qc}{σ:St}{H:Hp}{s:Shared}{a:Addr}{y d:V}{u r:Value}{o:Option V}{A:Around}{E:Qb}
def FW {Q:Qb}(hu:A.units+1<cLine)(I:Qu X Xbo σ H s)(g:V4 H a y o)(ry:QR y u)(rd:QR d r)(h:∀w' s',Qu X Xbo σ H s'->QR (o.getD d) w'->Q w' s') :
 wpAny (model X.prog X.w) A (call (.builtin "dict.get") [.ref a,u,r]) Q E s:=by
 rcases g with ⟨kvs,k,e,ey,l⟩|⟨kvs,k,b,e,ey,eb,l⟩
 ·subst ey
  obtain⟨z,hd,vs,rel,dd⟩:=U8 I.hok e;refine call_meetsIn PySem.F.slot_dict_get dd.typeIs PySem.F.entry_dict_get (PySem.F.args_dict_get_3 _ _ _) (meets_dict_get_default (Vx X.prog X.w) a (Gq ry) hd r) ⟨_,dd.mapOf,h _ _ (I.tok _) ?_⟩;rw[l];exact(rel.val k).getD rd
 ·subst ey
  cases (show u=Value.ref b from ry)
  obtain⟨z,hd,xs,rel,dd⟩:=U6 I.hok e;refine call_meetsIn PySem.F.slot_dict_get dd.typeIs PySem.F.entry_dict_get (PySem.F.args_dict_get_3 _ _ _) (meetsH_dict_get_default (tupleKind (Vx X.prog X.w)) a b hd r) ⟨tupleKind_room_in1 hu,k,xs,WR I.hok eb,dd,h _ _ (I.tok _) ?_⟩;rw[l];exact(rel.val k).getD rd
end
def Sd (td ty tx:TE):TE:=fun σ H Q=>td σ H fun x H1=>∃a,x=.ref a/\IsD H1 a/\ty σ H1 fun y H2=>tx σ H2 fun z H3=>∃o,V4 H3 a y o/\Q (o.getD z) H3
section
variable {X:Cx}{o e f:Expr}{apos cpos:Pos}{td ty tx:TE}
def Ax (hu:X.A.units+1<cLine) (ho:PE X o td) (he:PE X e ty) (hf:PE X f tx) (m:M2 X o "get" apos e f cpos):PE X (.Call (.Attribute o "get" apos) [e,f] [] cpos) (Sd td ty tx):=by
 intro Xbo s σ H Q I h;refine wpAny_Call_method m.base m.few m.line PySem.F.plainAttrs_dict PySem.F.slot_dict_get PySem.F.type_dict_get (QI (ho Xbo s σ H _ I h) fun u s1 ⟨x,H1,I1,rx,a,ex,d,q1⟩=>?_);subst ex;obtain rfl:u=Value.ref a:=rx;obtain⟨t1,t2,_⟩:=RW I1 d;refine⟨t1,t2,?_⟩
 rw[m.trees];refine Calls.callWith_builtin rfl (Calls.evalArgs_plain (Calls.spliced_cons (QI (he Xbo s1 σ H1 _ I1 q1) fun iv s2 ⟨y,H2,I2,ry,q2⟩ =>
  Calls.spliced_cons (QI (hf Xbo s2 σ H2 _ I2 q2) fun fv s3 ⟨z,H3,I3,rz,ov,g,q3⟩=>Calls.spliced_nil ?_))))
 exact FW hu I3 g ry rz fun w' s4 I4 rw'=>⟨_,H3,I4,rw',q3⟩
end
section
variable {X:Cx}{Xbo:Qc}{σ:St}{H:Hp}{s:Shared}{a:Addr}{kvs:List (Key×V)}{A:Around}{E:Qb}
end
section
variable {X:Cx}{Xbo:Qc}{σ:St}{H:Hp}{s:Shared}{a:Addr}{y:V}{u:Value}{A:Around}{E:Qb}
end
end L2
namespace Mir
theorem PN {g:Qn}{l:Nat}(h:∀c,c<=l->g c=0):∀m,Qv g (l+1+m)=Qv (fun j=>g (l+1+j)) m
 |0=>by
   show Qv g (l+1)=0;rw[Zq (g:=fun _=>0) fun k hk=>h k (by omega),VN]
 |m+1=>by
   show Qv g (l+1+m)+g (l+1+m)=_;rw[PN h m];rfl
theorem TZ (y:Yd)(b own:Qn)(l:Nat):∀m,J8 y b own l m=Qv (fun j=>if QZ y (l+1+j)=some l then ZK y b own (l+1+j) else 0) m
 |0=>rfl
 |m+1=>by simp only[J8,Qv];rw[TZ y b own l m]
def JQ {y:Yd}(ok:y.Ok){c l:Nat}(hc:c<y.ls.length)(e:QZ y c=some l):l<c:=by
 by_cases h0:c=0
 ·subst h0;rw[ok.up0]at e;cases e
 ·obtain⟨a,ea,la⟩:=ok.ups c (by omega) hc
  rw[ea]at e;cases e;exact la
def PU {y:Yd}(ok:y.Ok)(b own:Qn){l:Nat}(hl:l<y.ls.length):VI y b own l=own l+Qv (fun c=>if QZ y c=some l then ZK y b own c else 0) y.ls.length:=by
 rw[AF ok,TZ];have e:y.ls.length=l+1+(y.ls.length-1-l):=by omega
 have h:=PN (g:=fun c=>if QZ y c=some l then ZK y b own c else 0) (l:=l) (fun c hc=>Xa fun z=>by
  have:=JQ ok (by omega) z
  omega) (y.ls.length-1-l)
 rw[<- e]at h;rw[h]
section
variable (y:Yd)(b own:Qn)
end
section
variable {y:Yd}{b own:Qn}
def P3 (ok:y.Ok){c a:Nat}(hc:c<y.ls.length)(e:QZ y c=some a):upL y c=c::upL y a:=by
 have:=JQ ok hc e
 rw[Ki ok hc,Xa (by omega),e];rfl
def B2 (ok:y.Ok):upL y 0=[0]:=by
 have:=ok.l1
 rw[Ki ok (by omega),Xb rfl]
end
end Mir
namespace Mir
def ind (p:Prop) [Decidable p]:Int:=if p then 1 else 0
theorem Pj {y:Yd}(ok:y.Ok)(l:Nat)(hl:l<y.ls.length):∀n j,j<n->j<y.ls.length ->
 ind (l∈upL y j)=ind (j=l)+Qv (fun c=>if QZ y c=some l then ind (c∈upL y j) else 0) y.ls.length
 |0,j,h,_=>by omega
 |n+1,j,h,hj=>by
   by_cases e:j=l
   ·subst e
    have z:Qv (fun c=>if QZ y c=some j then ind (c∈upL y j) else 0) y.ls.length=0:=by
     rw[Zq (g:=fun _=>0) fun c hc=>?_,VN]
     by_cases u:QZ y c=some j
     ·have:=JQ ok hc u
      have w:¬c∈upL y j:=fun z=>by have:=G2 y j c z;omega
      simp[u,ind,w]
     ·simp[u]
    rw[z];simp[ind,B3]
   ·by_cases j0:j=0
    ·subst j0
     have w:¬l∈upL y 0:=fun z=>by rw[B2 ok]at z;simp at z;exact e z.symm
     have z:Qv (fun c=>if QZ y c=some l then ind (c∈upL y 0) else 0) y.ls.length=0:=by
      rw[Zq (g:=fun _=>0) fun c hc=>?_,VN]
      by_cases u:QZ y c=some l
      ·have c0:¬c∈upL y 0:=fun z=>by
        rw[B2 ok]at z;simp at z;subst z;rw[ok.up0]at u;cases u
       simp[u,ind,c0]
      ·simp[u]
     rw[z];simp[ind,w,e]
    ·obtain⟨a,ea,la⟩:=ok.ups j (by omega) hj
     have ih:=Pj ok l hl n a (by omega) (by omega);have m1:(l∈upL y j)↔(l∈upL y a):=Bt ok (by omega) hj ea l (fun z=>e z.symm);have e1:ind (l∈upL y j)=ind (l∈upL y a):=by unfold ind;simp only[m1]
     have e2:∀c,c<y.ls.length->(if QZ y c=some l then ind (c∈upL y j) else 0)=(if QZ y c=some l then ind (c∈upL y a) else 0)+(if c=j then ind (a=l) else 0):=by
      intro c hc;by_cases z:c=j
      ·subst z
       have w:¬c∈upL y a:=fun q=>by have:=G2 y a c q;omega
       rw[ea];by_cases q:a=l
       ·subst q;simp[ind,B3,w]
       ·have:¬some a=some l:=fun z=>q (by injection z)
        simp[ind,q]
      ·have m2:(c∈upL y j)↔(c∈upL y a):=Bt ok (by omega) hj ea c z
       have:ind (c∈upL y j)=ind (c∈upL y a):=by unfold ind;simp only[m2]
       rw[this,Xa z,Gh]
     rw[e1,ih,Zq e2,Jd,UK,Xb hj];have:ind (j=l)=0:=by unfold ind;rw[Xa e]
     omega
def ZU (y:Yd)(m:Nat)(ln:Nat->Nat)(f:Qn)(l:Nat):Int:=Qv (fun k=>f k*ind (l∈upL y (ln k))) m
def BE {y:Yd}(ok:y.Ok){m:Nat}{ln:Nat->Nat}(hln:∀k,k<m->ln k<y.ls.length)(f:Qn){l:Nat}(hl:l<y.ls.length) :
 ZU y m ln f l=Qv (fun k=>f k*ind (ln k=l)) m+Qv (fun c=>if QZ y c=some l then ZU y m ln f c else 0) y.ls.length:=by
 unfold ZU;have h1:∀k,k<m->f k*ind (l∈upL y (ln k))=f k*ind (ln k=l)+Qv (fun c=>if QZ y c=some l then f k*ind (c∈upL y (ln k)) else 0) y.ls.length:=by
  intro k hk;rw[Pj ok l hl _ (ln k) (Ge _) (hln k hk),JH,<- GG];congr 1;refine Zq fun c _=>?_
  by_cases u:QZ y c=some l
  ·rw[Xb u,Xb u]
  ·rw[Xa u,Xa u,Gg]
 rw[Zq h1,Jd,Dk];congr 1;refine Zq fun c _=>?_
 by_cases u:QZ y c=some l
 ·simp only[Xb u]
 ·simp only[Xa u]
  rw[VN]
theorem no_more {y:Yd}(ok:y.Ok){m:Nat}{ln:Nat->Nat}(hln:∀k,k<m->ln k<y.ls.length){f:Qn}{b own:Qn}(ho:∀l,l<y.ls.length->Qv (fun k=>f k*ind (ln k=l)) m<=own l)(hb:∀l,l<y.ls.length->ZU y m ln f l<=b l) :
 ∀n l,y.ls.length<=l+n->l<y.ls.length->ZU y m ln f l<=ZK y b own l
 |0,l,h,hl=>by omega
 |n+1,l,h,hl=>by
   have h1:ZU y m ln f l<=VI y b own l:=by
    rw[BE ok hln f hl,PU ok b own hl];refine Int.add_le_add (ho l hl) (VC fun c hc=>?_)
    by_cases u:QZ y c=some l
    ·rw[Xb u,Xb u]
     have:=JQ ok hc u
     exact no_more ok hln ho hb n c (by omega) hc
    ·rw[Xa u,Xa u]
     exact UY _
   have h2:=hb l hl;unfold ZK;omega
end Mir
namespace Mir
def Ys (f:Nat->Qn)(a t:Nat)(v:Int):Nat->Qn:=fun k s=>if k=a/\s=t then v else f k s
def WK (y:Yd)(line t:Nat)(v:Int)(g:Nat->Qn):Nat->Qn:=fun l s=>if s=t/\l∈upL y line then g l s+v else g l s
section
variable (y:Yd)(lf:(Nat->Qn)->Nat->Qn)(gs:Nat->Gs)
end
section
variable {y:Yd}{lf:(Nat->Qn)->Nat->Qn}{gs:Nat->Gs}{m:Nat}
end
end Mir
namespace Mir
structure Fr where
 t:Nat
 b:Nat
 deriving DecidableEq
def Fr.Ok (f:Fr):Prop:=0<f.b/\Nat.gcd f.t f.b=1
def phi (B:Nat)(f:Fr):Nat:=f.t*(B/f.b)
def Sx {B:Nat}{f:Fr}(h:f.b∣B):phi B f*f.b=f.t*B:=by
 unfold phi;rw[Us,Nat.div_mul_cancel h]
def Bs {B:Nat}(hB:0<B){f g:Fr}(hf:f.b∣B)(hg:g.b∣B)(f0:0<f.b)(g0:0<g.b):g.t*f.b<f.t*g.b↔phi B g<phi B f:=by
 have e1:=Sx hf;have e2:=Sx hg;have p:0<f.b*g.b:=Nat.mul_pos f0 g0
 have k1:phi B g*(f.b*g.b)=(g.t*f.b)*B:=by
  rw[JI f.b g.b,<- Us,e2,Us,JI B,<- Us]
 have k2:phi B f*(f.b*g.b)=(f.t*g.b)*B:=by
  rw[<- Us,e1,Us,JI B,<- Us]
 constructor
 ·intro h
  have:(g.t*f.b)*B<(f.t*g.b)*B:=Nat.mul_lt_mul_of_pos_right h hB
  rw[<- k1,<- k2]at this;exact Nat.lt_of_mul_lt_mul_right this
 ·intro h
  have:phi B g*(f.b*g.b)<phi B f*(f.b*g.b):=Nat.mul_lt_mul_of_pos_right h p
  rw[k1,k2]at this;exact Nat.lt_of_mul_lt_mul_right this
def Hq {f g:Fr}(hf:f.Ok)(hg:g.Ok)(h:f.t*g.b=g.t*f.b):f=g:=by
 have d1:f.b∣g.b:=by
  have:f.b∣f.t*g.b:=by rw[h];exact Nat.dvd_mul_left ..
  exact(Nat.Coprime.dvd_of_dvd_mul_left (show Nat.Coprime f.b f.t by rw[Nat.Coprime,Nat.gcd_comm];exact hf.2) this)
 have d2:g.b∣f.b:=by
  have:g.b∣g.t*f.b:=by rw[<- h];exact Nat.dvd_mul_left ..
  exact(Nat.Coprime.dvd_of_dvd_mul_left (show Nat.Coprime g.b g.t by rw[Nat.Coprime,Nat.gcd_comm];exact hg.2) this)
 have e:f.b=g.b:=Nat.dvd_antisymm d1 d2
 have e2:f.t=g.t:=by
  rw[e]at h;exact Nat.eq_of_mul_eq_mul_right hg.1 h
 cases f
 cases g
 simp at e e2
 rw[e,e2]
def Ah {B:Nat}(hB:0<B){f g:Fr}(hf:f.Ok)(hg:g.Ok)(df:f.b∣B)(dg:g.b∣B)(h:phi B f=phi B g):f=g:=by
 have a:=Bs hB df dg hf.1 hg.1;have b:=Bs hB dg df hg.1 hf.1;refine Hq hf hg ?_;have n1:¬g.t*f.b<f.t*g.b:=fun z=>by have:=a.mp z;omega
 have n2:¬f.t*g.b<g.t*f.b:=fun z=>by have:=b.mp z;omega
 omega
def Bg (f g:Fr):Bool:=decide (g.t*f.b<f.t*g.b)
def We (f:Fr)(rows:List Fr):Nat:=(rows.takeWhile (Bg f)).length
def Jm (f:Fr)(rows:List Fr):List Fr:=rows.take (We f rows)++f::rows.drop (We f rows)
def Wd (xs:List Fr):List Fr:=xs.foldl (fun rows f=>Jm f rows) []
def Tm (f:Fr)(rows:List Fr):(Jm f rows).Perm (f::rows):=by
 unfold Jm;have h:=List.perm_middle (a:=f) (l₁:=rows.take (We f rows)) (l₂:=rows.drop (We f rows))
 rwa [List.take_append_drop]at h
theorem TQ:∀(xs acc:List Fr),(xs.foldl (fun rows f=>Jm f rows) acc).Perm (acc++xs)
 |[],acc=>by simp
 |f::xs,acc=>by
   have h:=TQ xs (Jm f acc);refine h.trans ?_;refine((Tm f acc).append_right xs).trans ?_
   exact(List.perm_middle (a:=f) (l₁:=acc) (l₂:=xs)).symm
def BA (xs:List Fr):(Wd xs).Perm xs:=by
 have:=TQ xs []
 simpa [Wd] using this
theorem SY (f:Fr):∀rows:List Fr,∀g∈rows.take (We f rows),Bg f g=true
 |[],g,h=>by simp at h
 |r::rows,g,h=>by
   unfold We at h;by_cases c:Bg f r=true
   ·rw[DQ,Xb c,XX,List.take_succ_cons]at h
    rcases Xg.mp h with rfl|h
    ·exact c
    ·exact SY f rows g h
   ·rw[DQ,Xa c]at h
    simp at h
theorem P7 (f:Fr):∀rows:List Fr,∀g r,rows.drop (We f rows)=g::r->Bg f g=false
 |[],g,r,h=>by simp at h
 |x::rows,g,r,h=>by
   unfold We at h;by_cases c:Bg f x=true
   ·rw[DQ,Xb c,XX,List.drop_succ_cons]at h
    exact P7 f rows g r h
   ·rw[DQ,Xa c]at h
    simp at h
    rw[<- h.1];simpa using c
section
variable {B:Nat}(hB:0<B)
theorem OX (hB:0<B){f:Fr}{rows:List Fr}(hf:f.b∣B)(f0:0<f.b)(hr:∀g∈rows,g.b∣B/\0<g.b)(h:rows.Pairwise (fun a b=>phi B a<=phi B b)):(Jm f rows).Pairwise (fun a b=>phi B a<=phi B b):=by
 have lt:∀g∈rows.take (We f rows),phi B g<phi B f:=fun g hg=>by
  obtain⟨d,p⟩:=hr g (List.mem_of_mem_take hg)
  exact(Bs hB hf d f0 p).mp (Xq (SY f rows g hg))
 have hp:=h;rw[<- List.take_append_drop (We f rows) rows,List.pairwise_append]at hp;obtain⟨p1,p2,p3⟩:=hp
 have ge:∀g∈rows.drop (We f rows),phi B f<=phi B g:=by
  cases e:rows.drop (We f rows) with
  |nil=>intro g hg;cases hg
  |cons x r =>
    have hx:=XO (P7 f rows x r e);obtain⟨d,p⟩:=hr x (List.mem_of_mem_drop (by rw[e];exact Xc))
    have h1:phi B f<=phi B x:=by
     have:¬phi B x<phi B f:=fun z=>hx ((Bs hB hf d f0 p).mpr z)
     omega
    rw[e]at p2;obtain⟨q1,q2⟩:=DP.mp p2;intro g hg;rcases Xg.mp hg with rfl|hg
    ·exact h1
    ·exact XI h1 (q1 g hg)
 unfold Jm;rw[List.pairwise_append];refine⟨p1,DP.mpr ⟨ge,p2⟩,fun a ha b hb=>?_⟩
 rcases Xg.mp hb with rfl|hb
 ·exact X9 (lt a ha)
 ·exact XI (X9 (lt a ha)) (ge b hb)
theorem Le (hB:0<B):∀(xs acc:List Fr),(∀g∈xs,g.b∣B/\0<g.b)->(∀g∈acc,g.b∣B/\0<g.b)->acc.Pairwise (fun a b=>phi B a<=phi B b)->(xs.foldl (fun rows f=>Jm f rows) acc).Pairwise (fun a b=>phi B a<=phi B b)
 |[],acc,_,_,h=>h
 |f::xs,acc,hx,ha,h=>by
   obtain⟨d,p⟩:=hx f Xc;refine Le hB xs (Jm f acc) (fun g hg=>hx g (Xf _ hg)) (fun g hg=>?_) (OX hB d p ha h)
   rcases Xg.mp ((Tm f acc).mem_iff.mp hg) with rfl|hg
   ·exact⟨d,p⟩
   ·exact ha g hg
theorem OD (hB:0<B){xs:List Fr}(hx:∀g∈xs,g.b∣B/\0<g.b):(Wd xs).Pairwise (fun a b=>phi B a<=phi B b):=Le hB xs [] hx (fun g hg=>(nomatch hg)) List.Pairwise.nil
end
def Bd:List Fr->List Fr->Bool
 |f::fs,g::gs=>if f=g then Bd fs gs else decide (g.t*f.b<f.t*g.b)
 |_,_=>false
def Ej {B:Nat}(hB:0<B){f g:Fr}(hf:f.Ok)(hg:g.Ok)(df:f.b∣B)(dg:g.b∣B):((phi B f:Int)=(phi B g:Int)↔f=g)/\((phi B g:Int)<(phi B f:Int)↔g.t*f.b<f.t*g.b):=by
 refine⟨⟨fun h=>Ah hB hf hg df dg (by omega),fun h=>by rw[h]⟩,?_⟩;rw[Bs hB df dg hf.1 hg.1];omega
end Mir
namespace Mir
def SU {y:Yd}{m:Nat}{ln:Nat->Nat}{f g:Qn}(h:∀k,k<m->f k<=g k)(l:Nat):ZU y m ln f l<=ZU y m ln g l :=
 VC fun k hk=>by
  unfold ind;split
  ·have:=h k hk;omega
  ·omega
def FI {y:Yd}{m:Nat}{ln:Nat->Nat}{f:Qn}(h:∀k,k<m->0<=f k)(l:Nat):0<=ZU y m ln f l :=
 MJ fun k hk=>by
  unfold ind;split
  ·have:=h k hk;omega
  ·omega
structure Shut (y:Yd)(m:Nat)(ln:Nat->Nat)(f mo:Qn)(b:Qn)(S R:Qm):Prop where
 nn:∀k,k<m->0<=f k
 full:∀k,k<m->S k=true->R (ln k)=false->f k=mo k
 none:∀k,k<m->S k=false->R (ln k)=true->f k=0
 top:R 0=true->ZU y m ln f 0=b 0
 out:∀c a,c<y.ls.length->QZ y c=some a->R c=true->R a=false->ZU y m ln f c=b c
 inn:∀c a,c<y.ls.length->QZ y c=some a->R c=false->R a=true->ZU y m ln f c=0
def Zn (S:Qm)(f:Qn):Qn:=fun k=>if S k=true then f k else 0
def KD {S:Qm}{f:Qn}{k:Nat}(h:0<=f k):Zn S f k<=f k:=by
 unfold Zn;split<;>omega
def Pn {S:Qm}{f:Qn}{k:Nat}(h:0<=f k):0<=Zn S f k:=by
 unfold Zn;split<;>omega
theorem Shut.alike {y:Yd}(ok:y.Ok){m:Nat}{ln:Nat->Nat}(hln:∀k,k<m->ln k<y.ls.length){f mo b:Qn}{S R:Qm}(h:Shut y m ln f mo b S R) :
 ∀n l,y.ls.length<=l+n->l<y.ls.length->R l=true->ZU y m ln f l=ZU y m ln (Zn S f) l
 |0,l,h0,hl,_=>by omega
 |n+1,l,h0,hl,hR=>by
   rw[BE ok hln f hl,BE ok hln (Zn S f) hl];congr 1
   ·refine Zq fun k hk=>?_
    by_cases e:ln k=l
    ·have:f k=Zn S f k:=by
      unfold Zn;cases s:S k with
      |true=>simp
      |false=>simp;exact h.none k hk s (by rw[e];exact hR)
     rw[this]
    ·simp[ind,e]
   ·refine Zq fun c hc=>?_
    by_cases u:QZ y c=some l
    ·rw[Xb u,Xb u]
     have:=JQ ok hc u
     cases r:R c with
     |true=>exact Shut.alike ok hln h n c (by omega) hc r
     |false =>
       have e:=h.inn c l hc u r hR;have q1:=SU (y:=y) (ln:=ln) (f:=Zn S f) (g:=f) (fun k hk=>KD (S:=S) (h.nn k hk)) c;have q2:=FI (y:=y) (ln:=ln) (f:=Zn S f) (fun k hk=>Pn (S:=S) (h.nn k hk)) c;omega
    ·rw[Xa u,Xa u]
theorem Shut.all {y:Yd}(ok:y.Ok){m:Nat}{ln:Nat->Nat}(hln:∀k,k<m->ln k<y.ls.length){f mo b own:Qn}{S R:Qm}(h:Shut y m ln f mo b S R)
 (ho:∀l,l<y.ls.length->own l=Qv (fun k=>Zn S mo k*ind (ln k=l)) m) :
 ∀n l,y.ls.length<=l+n->l<y.ls.length->(R l=true->l=0\/∃a,QZ y l=some a/\R a=false)->ZK y b own l<=ZU y m ln (Zn S f) l
 |0,l,h0,hl,_=>by omega
 |n+1,l,h0,hl,hU=>by
   cases r:R l with
   |true =>
     have e:ZU y m ln f l=b l:=by
      rcases hU r with z|⟨a,u,ra⟩
      ·subst z;exact h.top r
      ·exact h.out l a hl u r ra
     rw[<- h.alike ok hln (n+1) l h0 hl r,e];unfold ZK;omega
   |false =>
     have h1:VI y b own l<=ZU y m ln (Zn S f) l:=by
      rw[BE ok hln _ hl,PU ok b own hl];refine Int.add_le_add ?_ (VC fun c hc=>?_)
      ·rw[ho l hl]
       refine VC fun k hk=>?_
       by_cases e:ln k=l
       ·have:Zn S mo k=Zn S f k:=by
         unfold Zn;cases s:S k with
         |true=>simp;exact(h.full k hk s (by rw[e];exact r)).symm
         |false=>simp
        rw[this];exact UY _
       ·simp[ind,e]
      ·by_cases u:QZ y c=some l
       ·rw[Xb u,Xb u]
        have:=JQ ok hc u
        exact Shut.all ok hln h ho n c (by omega) hc (fun _=>.inr ⟨l,u,r⟩)
       ·rw[Xa u,Xa u]
        exact UY _
     unfold ZK;omega
end Mir
namespace Mir
section
variable {ν:Type} [DecidableEq ν]
abbrev Lay (ν:Type):=List (ν×ν×Int)
abbrev Zc (ν:Type):=ν->ν->Int
def WL (L:Lay ν):List ν:=L.flatMap fun x=>[x.2.1,x.1]
def VB (L:Lay ν)(φ:Zc ν):Ql:=L.flatMap fun x=>[x.2.2-φ x.1 x.2.1,φ x.1 x.2.1]
def Dis (L:Lay ν):Prop:=(L.map fun x=>(x.1,x.2.1)).Nodup
def VQ (φ:Zc ν)(s e:ν)(a:Int):Zc ν:=fun p q=>if p=s/\q=e then φ p q+a else φ p q
theorem Ke {α β:Type}(f g:α->β):∀(L:List α) (e:Nat),(L.flatMap fun x=>[f x,g x])[e]?=L[e/2]?.map (if e%2=0 then f else g)
 |[],e=>by simp
 |x::L,0=>by simp
 |x::L,1=>by simp
 |x::L,e+2=>by
   have h:=Ke f g L e;have e1:(e+2)/2=e/2+1:=by omega
   have e2:(e+2)%2=e%2:=by omega
   rw[e1,e2,BY,DS];simpa using h
def hdE (L:Lay ν)(e:Nat):Option ν:=L[e/2]?.map fun x=>if e%2=0 then x.2.1 else x.1
def tlE (L:Lay ν)(e:Nat):Option ν:=L[e/2]?.map fun x=>if e%2=0 then x.1 else x.2.1
def rmE (L:Lay ν)(φ:Zc ν)(e:Nat):Option Int:=L[e/2]?.map fun x=>if e%2=0 then x.2.2-φ x.1 x.2.1 else φ x.1 x.2.1
def Kv (L:Lay ν)(e:Nat):(WL L)[e]?=hdE L e:=by
 unfold WL hdE;rw[Ke];congr 1
 split<;>rfl
def GE (L:Lay ν)(φ:Zc ν)(e:Nat):(VB L φ)[e]?=rmE L φ e:=by
 unfold VB rmE;rw[Ke];congr 1
 split<;>rfl
def Zf1 (e:Nat):Nat:=if e%2=0 then e+1 else e-1
def IM (L:Lay ν)(e:Nat):(WL L)[Zf1 e]?=tlE L e:=by
 rw[Kv];unfold hdE tlE Zf1;by_cases h:e%2=0
 ·have h1:(e+1)/2=e/2:=by omega
  have h2:¬(e+1)%2=0:=by omega
  simp only[h,if_true,h1,h2,if_false]
 ·have h1:(e-1)/2=e/2:=by omega
  have h2:(e-1)%2=0:=by omega
  simp only[h,if_false,h1,h2,if_true]
def Vn (L:Lay ν)(F:ν->ν->Int):Int:=(L.map fun x=>F x.1 x.2.1).sum
def V6 (L:Lay ν)(φ:Zc ν)(n:ν):Int:=Vn L fun s e=>φ s e*(ind (s=n)-ind (e=n))
def Op {φ:Zc ν}{s e:ν}{a:Int}{L:Lay ν}(h:(s,e)∉L.map fun x=>(x.1,x.2.1))(G:Int->ν->ν->Int) :
 Vn L (fun p q=>G (VQ φ s e a p q) p q)=Vn L fun p q=>G (φ p q) p q:=by
 unfold Vn;congr 1;refine XQ fun x hx=>?_
 have:¬(x.1=s/\x.2.1=e):=fun⟨z1,z2⟩=>h (XD.mpr ⟨x,hx,by rw[z1,z2]⟩)
 unfold VQ;dsimp only;rw[Xa this]
theorem Tr {φ:Zc ν}{a:Int}(G:Int->ν->ν->Int):∀{L:Lay ν},Dis L->∀{x:ν×ν×Int},x∈L ->
 Vn L (fun p q=>G (VQ φ x.1 x.2.1 a p q) p q)=Vn L (fun p q=>G (φ p q) p q)-G (φ x.1 x.2.1) x.1 x.2.1+G (φ x.1 x.2.1+a) x.1 x.2.1
 |[],_,_,h=>by cases h
 |y::L,hd,x,h=>by
   unfold Dis at hd;rw[Xs,XN]at hd;rcases Xg.mp h with rfl|h
   ·have:=Op (φ:=φ) (a:=a) hd.1 G
    have e:VQ φ x.1 x.2.1 a x.1 x.2.1=φ x.1 x.2.1+a:=by unfold VQ;rw[Xb ⟨rfl,rfl⟩]
    unfold Vn at this ⊢;rw[Xs,Gb,Xs,Gb,this];dsimp only;rw[e];omega
   ·have ih:=Tr (φ:=φ) (a:=a) G (L:=L) hd.2 h
    have ne:¬(y.1=x.1/\y.2.1=x.2.1):=fun⟨z1,z2⟩=>hd.1 (XD.mpr ⟨x,h,by rw[z1,z2]⟩);have e:VQ φ x.1 x.2.1 a y.1 y.2.1=φ y.1 y.2.1:=by unfold VQ;rw[Xa ne]
    unfold Vn at ih ⊢;rw[Xs,Gb,Xs,Gb,ih];dsimp only;rw[e];omega
def Yh (L:Lay ν)(a:Int)(φ:Zc ν)(e:Nat):Zc ν :=
 match L[e/2]? with
 |some x=>VQ φ x.1 x.2.1 (if e%2=0 then a else -a)
 |none=>φ
def IA {L:Lay ν}(hd:Dis L){φ:Zc ν}{a:Int}{e:Nat}{s t:ν}(ht:hdE L e=some t)(hs:tlE L e=some s)(n:ν) :
 V6 L (Yh L a φ e) n=V6 L φ n+a*(ind (s=n)-ind (t=n)):=by
 unfold hdE at ht;unfold tlE at hs;cases ex:L[e/2]? with
 |none=>rw[ex]at ht;cases ht
 |some x =>
   rw[ex]at ht hs;have hx:x∈L:=List.mem_of_getElem? ex;have hp:Yh L a φ e=VQ φ x.1 x.2.1 (if e%2=0 then a else -a):=by unfold Yh;rw[ex]
   rw[hp];unfold V6;rw[Tr (fun v p q=>v*(ind (p=n)-ind (q=n))) hd hx];simp only[X7,Option.some.injEq]at ht hs;by_cases z:e%2=0
   ·rw[Xb z]at ht hs ⊢
    subst ht hs;rw[Int.add_mul];omega
   ·rw[Xa z]at ht hs ⊢
    subst ht hs;rw[Int.add_mul,Int.neg_mul,Ww a,Ww a];omega
inductive Chain (L:Lay ν)(s:ν):ν->Qk->Prop
 |nil:Chain L s s []
 |cons {n m:ν} {e:Nat} {w:Qk} (h:hdE L e=some n) (t:tlE L e=some m) (c:Chain L s m w):Chain L s n (e::w)
def W0 (L:Lay ν)(a:Int)(φ:Zc ν)(w:Qk):Zc ν:=w.foldl (Yh L a) φ
theorem KA {L:Lay ν}(hd:Dis L){s:ν}{a:Int}(p:ν):∀{w:Qk} {n:ν} {φ:Zc ν},Chain L s n w->V6 L (W0 L a φ w) p=V6 L φ p+a*(ind (s=p)-ind (n=p))
 |_,_,φ,.nil=>by
   show V6 L φ p=_;rw[Int.sub_self,Gg,Gh]
 |e::w,n,φ,.cons (m:=m) h t c=>by
   show V6 L (W0 L a (Yh L a φ e) w) p=_;rw[KA hd p c,IA hd h t,Ww,Ww,Ww];omega
def Within (L:Lay ν)(φ:Zc ν):Prop := ∀x∈L,0<=φ x.1 x.2.1/\φ x.1 x.2.1<=x.2.2
def Kr:∀{L:Lay ν},Dis L->∀{i j:Nat} {x y:ν×ν×Int},L[i]?=some x->L[j]?=some y->x.1=y.1->x.2.1=y.2.1->i=j:=fun{L} hd {i j x y} hi hj e1 e2=>by
 have a:(L.map fun x=>(x.1,x.2.1))[i]?=some (x.1,x.2.1):=by rw[Xj,hi];rfl
 have b:(L.map fun x=>(x.1,x.2.1))[j]?=some (x.1,x.2.1):=by rw[Xj,hj,e1,e2];rfl
 have li:i<(L.map fun x=>(x.1,x.2.1)).length:=(Xe.mp a).1
 exact(List.getElem?_inj li hd).mp (a.trans b.symm)
def ZkE {L:Lay ν}(hd:Dis L){φ:Zc ν}(h:Within L φ){a:Int}(ha:0<=a){e:Nat}{r:Int}(he:rmE L φ e=some r)(hr:a<=r):Within L (Yh L a φ e):=by
 unfold rmE at he;cases ex:L[e/2]? with
 |none=>rw[ex]at he;cases he
 |some x =>
   rw[ex]at he;simp only[X7,Option.some.injEq]at he;have hx:=h x (List.mem_of_getElem? ex);intro y hy;have hyv:=h y hy;have hp:Yh L a φ e=VQ φ x.1 x.2.1 (if e%2=0 then a else -a):=by unfold Yh;rw[ex]
   rw[hp];unfold VQ;by_cases z:y.1=x.1/\y.2.1=x.2.1
   ·rw[Xb z]
    obtain⟨j,hj⟩:=List.mem_iff_getElem?.mp hy;have ij:=Kr hd hj ex z.1 z.2;subst ij;rw[ex]at hj;cases hj
    by_cases q:e%2=0
    ·rw[Xb q]at he ⊢;omega
    ·rw[Xa q]at he ⊢;omega
   ·rw[Xa z];exact hyv
def Ev {L:Lay ν}(hd:Dis L){φ:Zc ν}{a:Int}(ha:0<=a){e e':Nat}(ne:e'≠e){r:Int}(he:rmE L φ e'=some r):∃r',rmE L (Yh L a φ e) e'=some r'/\r<=r':=by
 unfold rmE at he ⊢;cases ey:L[e'/2]? with
 |none=>rw[ey]at he;cases he
 |some y =>
   rw[ey]at he;simp only[X7,Option.some.injEq]at he ⊢;refine⟨_,rfl,?_⟩;unfold Yh;cases ex:L[e/2]? with
   |none=>simp only[];omega
   |some x =>
     simp only[];unfold VQ;by_cases z:y.1=x.1/\y.2.1=x.2.1
     ·rw[Xb z]
      have ij:=Kr hd ey ex z.1 z.2
      by_cases q:e%2=0
      ·have q':¬e'%2=0:=by omega
       rw[Xa q']at he ⊢;rw[Xb q];omega
      ·have q':e'%2=0:=by omega
       rw[Xb q']at he ⊢;rw[Xa q];omega
     ·rw[Xa z];omega
theorem TC {L:Lay ν}(hd:Dis L){a:Int}(ha:0<=a):∀{w:Qk} {φ:Zc ν},Within L φ->w.Nodup->(∀e∈w,∃r,rmE L φ e=some r/\a<=r)->Within L (W0 L a φ w)
 |[],_,h,_,_=>h
 |e::w,φ,h,hn,hw=>by
   obtain⟨h1,h2⟩:=XN.mp hn;obtain⟨r,er,lr⟩:=hw e Xc;show Within L (W0 L a (Yh L a φ e) w);refine TC hd ha (ZkE hd h ha er lr) h2 fun e' he'=>?_;obtain⟨r',er',lr'⟩:=hw e' (Xf _ he');obtain⟨q,eq,lq⟩:=Ev hd ha (e:=e) (fun z=>h1 (z▸he')) er'
   exact⟨q,eq,by omega⟩
abbrev Got (ν:Type):=List (ν×Option Nat)
def Zd (es:Got ν):List ν:=es.map (·.1)
inductive Tree (L:Lay ν)(φ:Zc ν)(s:ν):Got ν->Prop
 |root:Tree L φ s [(s,none)]
 |add {es:Got ν} {e:Nat} {n m:ν} {r:Int} (t:Tree L φ s es) (hn:n∉Zd es) (hh:hdE L e=some n) (ht:tlE L e=some m) (hm:m∈Zd es) (hr:rmE L φ e=some r) (h0:0<r):Tree L φ s (es++[(n,some e)])
def JU (es:Got ν)(n:ν):Option (Option Nat):=es.lookup n
def ZkZ {es:Got ν}{n:ν}:n∉Zd es->es.lookup n=none:=by
 induction es with
 |nil=>intro _;rfl
 |cons p es ih =>
   intro h;have h1:n≠p.1:=fun z=>h (by rw[z];exact Xc);have h2:n∉Zd es:=fun z=>h (Xf _ z);obtain⟨k,v⟩:=p;rw[XU];have:(n==k)=false:=by rw[beq_eq_false_iff_ne];exact h1
   rw[this];exact ih h2
def Nq {es fs:Got ν}{n:ν}:(es++fs).lookup n=(es.lookup n).or (fs.lookup n):=by
 induction es with
 |nil=>rfl
 |cons p es ih =>
   obtain⟨k,v⟩:=p;rw[Gd,XU,XU];cases (n==k)
   ·exact ih
   ·rfl
inductive Back (L:Lay ν)(es:Got ν):ν->Qk->Prop
 |nil {n:ν} (h:JU es n=some none):Back L es n []
 |cons {n m:ν} {e:Nat} {w:Qk} (h:JU es n=some (some e)) (t:tlE L e=some m) (b:Back L es m w):Back L es n (e::w)
theorem Back.app {L:Lay ν}{es fs:Got ν}:∀{w:Qk} {n:ν},Back L es n w->Back L (es++fs) n w
 |_,_,.nil h=>.nil (by unfold JU at h ⊢;rw[Nq,h];rfl)
 |_,_,.cons h t b=>.cons (by unfold JU at h ⊢;rw[Nq,h];rfl) t b.app
structure WayOk (L:Lay ν)(φ:Zc ν)(s:ν)(es:Got ν)(n:ν)(w:Qk):Prop where
 back:Back L es n w
 chain:Chain L s n w
 nodup:w.Nodup
 room:∀e∈w,∃r,rmE L φ e=some r/\0<r
 heads:∀e∈w,∃m,hdE L e=some m/\m∈Zd es
theorem Tree.way {L:Lay ν}{φ:Zc ν}{s:ν}:∀{es:Got ν},Tree L φ s es->∀n∈Zd es,∃w,WayOk L φ s es n w
 |_,.root,n,hn=>by
   have e:n=s:=by simpa [Zd] using hn
   subst e;exact⟨[],.nil (by simp[JU]),.nil,Gc,(fun e h=>nomatch h),(fun e h=>nomatch h)⟩
 |_,.add (es:=es) (e:=e) (n:=k) (m:=m) t hk hh ht hm hr h0,n,hn=>by
   have hn':n∈Zd es\/n=k:=by simpa [Zd] using hn
   have sub:∀p,p∈Zd es->p∈Zd (es++[(k,some e)]):=fun p hp=>by
    unfold Zd at hp ⊢;rw[XE];exact JF _ hp
   rcases hn' with hn'|rfl
   ·obtain⟨w,q⟩:=t.way n hn'
    exact⟨w,q.back.app,q.chain,q.nodup,q.room,fun e' he'=>let ⟨m',a,b⟩:=q.heads e' he';⟨m',a,sub _ b⟩⟩
   ·obtain⟨w,q⟩:=t.way m hm
    refine⟨e::w,.cons ?_ ht q.back.app,.cons hh ht q.chain,XN.mpr ⟨fun z=>?_,q.nodup⟩,fun e' he'=>?_,fun e' he'=>?_⟩
    ·unfold JU
     rw[Nq,ZkZ hk];simp
    ·obtain⟨m',a,b⟩:=q.heads e z
     rw[hh]at a;cases a;exact hk b
    ·rcases Xg.mp he' with rfl|he'
     ·exact⟨_,hr,h0⟩
     ·exact q.room e' he'
    ·rcases Xg.mp he' with rfl|he'
     ·exact⟨n,hh,by simp[Zd]⟩
     ·obtain⟨m',a,b⟩:=q.heads e' he'
      exact⟨m',a,sub _ b⟩
theorem Tree.nodup {L:Lay ν}{φ:Zc ν}{s:ν}:∀{es:Got ν},Tree L φ s es->(Zd es).Nodup
 |_,.root=>by simp[Zd]
 |_,.add (n:=k) t hk _ _ _ _ _=>by
   have:=t.nodup
   unfold Zd at this hk ⊢;rw[XE,GU];refine⟨this,by simp,fun a ha b hb=>?_⟩;have e:b=k:=by simpa using hb
   exact fun z=>hk (e▸z▸ha)
theorem Tree.start {L:Lay ν}{φ:Zc ν}{s:ν}:∀{es:Got ν},Tree L φ s es->s∈Zd es
 |_,.root=>by simp[Zd]
 |_,.add t _ _ _ _ _ _=>by
   have:=t.start
   unfold Zd at this ⊢;rw[XE];exact JF _ this
theorem Tree.sub {L:Lay ν}{φ:Zc ν}{s:ν}:∀{es:Got ν},Tree L φ s es->∀n∈Zd es,n∈s::WL L
 |_,.root,n,hn=>by
   have e:n=s:=by simpa [Zd] using hn
   rw[e];exact Xc
 |_,.add (es:=es) (n:=k) t hk hh _ _ _ _,n,hn=>by
   have hn':n∈Zd es\/n=k:=by simpa [Zd] using hn
   rcases hn' with hn'|rfl
   ·exact t.sub n hn'
   ·exact Xf _ (List.mem_of_getElem? ((Kv L _).trans hh))
theorem KN {α:Type} [DecidableEq α]:∀{xs ys:List α},xs.Nodup->(∀x∈xs,x∈ys)->xs.length<=ys.length
 |[],_,_,_=>X4 _
 |x::xs,ys,hd,h=>by
   obtain⟨h1,h2⟩:=XN.mp hd;have hx:=h x Xc
   have:=KN (xs:=xs) (ys:=ys.erase x) h2 fun z hz=>by
    have ne:z≠x:=fun q=>h1 (q▸hz)
    exact(List.mem_erase_of_ne ne).mpr (h z (Xf _ hz))
   rw[List.length_erase_of_mem hx]at this;have:0<ys.length:=List.length_pos_of_mem hx;rw[XX];omega
def Tree.len {L:Lay ν}{φ:Zc ν}{s:ν}{es:Got ν}(t:Tree L φ s es):es.length<=(WL L).length+1:=by
 have:=KN t.nodup t.sub
 simpa [Zd] using this
def Yl (L:Lay ν)(φ:Zc ν)(es:Got ν):Prop := ∀e m n r,tlE L e=some m->hdE L e=some n->rmE L φ e=some r->0<r->m∈Zd es->n∈Zd es
end
end Mir
namespace Mir
inductive Nd where
 |start|fin
 |guest (k:Nat)
 |line (l t:Nat)
deriving DecidableEq
structure Gv where
 m:Nat
 ln:Nat->Nat
 wa:Qn
 mo:Qn
 th:Nat->Qm
def upN (y:Yd)(l:Nat):Nat:=(QZ y l).getD 0
def Vo (y:Yd)(G:Gv)(k:Nat):Lay Nd:=(.start,.guest k,G.wa k)::(List.range y.T).flatMap fun t=>if G.th k t=true then [(.guest k,.line (G.ln k) t,G.mo k)] else []
def VG (y:Yd)(t:Nat):Lay Nd:=(.line 0 t,.fin,Zi y 0 t)::(List.range (y.ls.length-1)).flatMap fun i=>[(.line (i+1) t,.line (upN y (i+1)) t,Zi y (i+1) t)]
def Zp (y:Yd)(G:Gv):Lay Nd:=(List.range G.m).flatMap (Vo y G)++(List.range y.T).flatMap (VG y)
def PD (A B:Lay Nd)(F:Nd->Nd->Int):Vn (A++B) F=Vn A F+Vn B F:=by
 unfold Vn;rw[XE,GS]
theorem BF (f:Nat->Lay Nd)(F:Nd->Nd->Int):∀n,Vn ((List.range n).flatMap f) F=Qv (fun k=>Vn (f k) F) n
 |0=>rfl
 |n+1=>by
   rw[Y3,JE,PD,BF f F n];simp[Qv]
def PH (x:Nd×Nd×Int)(F:Nd->Nd->Int):Vn [x] F=F x.1 x.2.1:=by simp[Vn]
def Tn (x:Nd×Nd×Int)(L:Lay Nd)(F:Nd->Nd->Int):Vn (x::L) F=F x.1 x.2.1+Vn L F:=by simp[Vn]
def Em (y:Yd)(G:Gv)(F:Nd->Nd->Int)(k:Nat):Vn (Vo y G k) F=F .start (.guest k)+Qv (fun t=>if G.th k t=true then F (.guest k) (.line (G.ln k) t) else 0) y.T:=by
 unfold Vo;rw[Tn,BF];congr 1;refine Zq fun t _=>?_
 split
 ·rw[PH]
 ·rfl
def Iu (y:Yd)(F:Nd->Nd->Int)(t:Nat):Vn (VG y t) F=F (.line 0 t) .fin+Qv (fun i=>F (.line (i+1) t) (.line (upN y (i+1)) t)) (y.ls.length-1):=by
 unfold VG;rw[Tn,BF];congr 1;refine Zq fun t _=>?_;rw[PH]
def Na (y:Yd)(G:Gv)(F:Nd->Nd->Int):Vn (Zp y G) F =
 Qv (fun k=>F .start (.guest k)+Qv (fun t=>if G.th k t=true then F (.guest k) (.line (G.ln k) t) else 0) y.T) G.m +
 Qv (fun t=>F (.line 0 t) .fin+Qv (fun i=>F (.line (i+1) t) (.line (upN y (i+1)) t)) (y.ls.length-1)) y.T:=by
 unfold Zp;rw[PD,BF,BF];congr 1
 ·exact Zq fun k _=>Em y G F k
 ·exact Zq fun t _=>Iu y F t
def W9 {y:Yd}{G:Gv}{x:Nd×Nd×Int}{k:Nat}:x∈Vo y G k↔x=(.start,.guest k,G.wa k)\/∃t,t<y.T/\G.th k t=true/\x=(.guest k,.line (G.ln k) t,G.mo k):=by
 unfold Vo;rw[Xg,WD];refine or_congr Iff.rfl ⟨fun⟨t,ht,hx⟩=>?_,fun⟨t,ht,hc,hx⟩=>⟨t,Xn.mpr ht,by rw[Xb hc];exact Xk.mpr hx⟩⟩
 by_cases c:G.th k t=true
 ·rw[Xb c]at hx
  exact⟨t,Xn.mp ht,c,Xk.mp hx⟩
 ·rw[Xa c]at hx;cases hx
def J5 {y:Yd}{x:Nd×Nd×Int}{t:Nat}:x∈VG y t↔x=(.line 0 t,.fin,Zi y 0 t)\/∃i,i<y.ls.length-1/\x=(.line (i+1) t,.line (upN y (i+1)) t,Zi y (i+1) t):=by
 unfold VG;rw[Xg,WD];exact or_congr Iff.rfl ⟨fun⟨i,hi,hx⟩=>⟨i,Xn.mp hi,Xk.mp hx⟩,fun⟨i,hi,hx⟩=>⟨i,Xn.mpr hi,Xk.mpr hx⟩⟩
def GH {y:Yd}{G:Gv}{x:Nd×Nd×Int}:x∈Zp y G↔(∃k,k<G.m/\x∈Vo y G k)\/∃t,t<y.T/\x∈VG y t:=by
 unfold Zp;rw[XC,WD,WD];simp only[Xn]
def Dd (n:Nat):(List.range n).Pairwise (· ≠ ·):=DM
def Da (y:Yd)(G:Gv):Dis (Zp y G):=by
 unfold Dis List.Nodup;rw[List.pairwise_map];unfold Zp;rw[List.pairwise_append];refine⟨?_,?_,?_⟩
 ·rw[DU]
  refine⟨fun k _=>?_,(Dd _).imp fun{k j} hkj x hx z hz=>?_⟩
  ·unfold Vo
   rw[DP];refine⟨fun x hx=>?_,?_⟩
   ·obtain⟨t,_,hx⟩:=WD.mp hx
    split at hx
    ·rw[Xk.mp hx];intro q;cases q
    ·cases hx
   ·rw[DU]
    refine⟨fun t _=>?_,(Dd _).imp fun{t u} htu x hx z hz=>?_⟩
    ·split
     ·exact List.pairwise_singleton _ _
     ·exact List.Pairwise.nil
    ·split at hx
     ·split at hz
      ·rw[Xk.mp hx,Xk.mp hz]
       intro q;simp at q;exact htu q
      ·cases hz
     ·cases hx
  ·rcases W9.mp hx with rfl|⟨t,_,_,rfl⟩<;>rcases W9.mp hz with rfl|⟨u,_,_,rfl⟩<;>intro q<;>simp at q
   ·exact hkj q
   ·exact hkj q.1
 ·rw[DU]
  refine⟨fun t _=>?_,(Dd _).imp fun{t u} htu x hx z hz=>?_⟩
  ·unfold VG
   rw[DP];refine⟨fun x hx=>?_,?_⟩
   ·obtain⟨i,_,hx⟩:=WD.mp hx
    rw[Xk.mp hx];intro q;cases q
   ·rw[DU]
    refine⟨fun t _=>List.pairwise_singleton _ _,(Dd _).imp fun{i j} hij x hx z hz=>?_⟩;rw[Xk.mp hx,Xk.mp hz];intro q;simp at q;exact hij q.1
  ·rcases J5.mp hx with rfl|⟨i,_,rfl⟩<;>rcases J5.mp hz with rfl|⟨j,_,rfl⟩<;>intro q<;>simp at q
   ·exact htu q
   ·exact htu q.1.2
 ·intro x hx z hz
  obtain⟨k,_,hx⟩:=WD.mp hx;obtain⟨t,_,hz⟩:=WD.mp hz
  rcases W9.mp hx with rfl|⟨t',_,_,rfl⟩<;>rcases J5.mp hz with rfl|⟨j,_,rfl⟩<;>intro q<;>simp at q
end Mir
namespace Mir
def Zr (G:Gv)(φ:Zc Nd)(t k:Nat):Int:=if G.th k t=true then φ (.guest k) (.line (G.ln k) t) else 0
def upF (y:Yd)(φ:Zc Nd)(t l:Nat):Int:=if l=0 then φ (.line 0 t) .fin else φ (.line l t) (.line (upN y l) t)
theorem KS (f:Qn):∀n,Qv f (n+1)=f 0+Qv (fun i=>f (i+1)) n
 |0=>by simp[Qv]
 |n+1=>by
   show Qv f (n+1)+f (n+1)=_;rw[KS f n];simp[Qv];omega
def Vg {p:Prop} [Decidable p] (h:¬p):ind p=0:=Xa h
def MM {p q:Prop} [Decidable p] [Decidable q] (h:p↔q):ind p=ind q:=by unfold ind;simp only[h]
def OG (y:Yd)(G:Gv)(φ:Zc Nd){k0:Nat}(hk:k0<G.m):V6 (Zp y G) φ (.guest k0)=Qv (fun t=>Zr G φ t k0) y.T-φ .start (.guest k0):=by
 unfold V6;rw[Na];have h2:Qv (fun t=>φ (.line 0 t) .fin*(ind (Nd.line 0 t=.guest k0)-ind (Nd.fin=.guest k0))+Qv (fun i=>φ (.line (i+1) t) (.line (upN y (i+1)) t)*(ind (Nd.line (i+1) t=.guest k0)-ind (Nd.line (upN y (i+1)) t=.guest k0))) (y.ls.length-1)) y.T=0:=by
  rw[Zq (g:=fun _=>0) fun t _=>?_,VN];rw[Vg (fun z=>nomatch z),Vg (fun z=>nomatch z),Zq (g:=fun _=>0) fun i _=>?_,VN]
  ·simp
  ·rw[Vg (fun z=>nomatch z),Vg (fun z=>nomatch z)];simp
 rw[h2,Gh];rw[Zq (g:=fun k=>if k=k0 then Qv (fun t=>Zr G φ t k0) y.T-φ .start (.guest k0) else 0) fun k _=>?_,UK,Xb hk];rw[Vg (p:=Nd.start=.guest k0) (fun z=>nomatch z)]
 by_cases e:k=k0
 ·subst e
  rw[Xb rfl];have:Qv (fun t=>if G.th k t=true then φ (.guest k) (.line (G.ln k) t)*(ind (Nd.guest k=.guest k)-ind (Nd.line (G.ln k) t=.guest k)) else 0) y.T=Qv (fun t=>Zr G φ t k) y.T:=by
   refine Zq fun t _=>?_;unfold Zr;split
   ·rw[Vg (p:=Nd.line (G.ln k) t=.guest k) (fun z=>nomatch z)]
    simp[ind]
   ·rfl
  rw[this];simp[ind];omega
 ·have ne:¬Nd.guest k=.guest k0:=fun z=>e (by injection z)
  rw[Xa e,Vg ne,Zq (g:=fun _=>0) fun t _=>?_,VN]
  ·simp
  ·rw[Vg (p:=Nd.line (G.ln k) t=.guest k0) (fun z=>nomatch z)]
   simp
def K7 {y:Yd}(ok:y.Ok){c l:Nat}(h0:0<c)(hc:c<y.ls.length):upN y c=l↔QZ y c=some l:=by
 obtain⟨a,ea,_⟩:=ok.ups c h0 hc;unfold upN;rw[ea];simp
def Il {y:Yd}(ok:y.Ok)(G:Gv)(φ:Zc Nd){l t0:Nat}(hl:l<y.ls.length)(ht:t0<y.T):V6 (Zp y G) φ (.line l t0) =
 upF y φ t0 l-Qv (fun k=>Zr G φ t0 k*ind (G.ln k=l)) G.m-Qv (fun c=>if QZ y c=some l then upF y φ t0 c else 0) y.ls.length:=by
 unfold V6;rw[Na];have h1:Qv (fun k=>φ .start (.guest k)*(ind (Nd.start=.line l t0)-ind (Nd.guest k=.line l t0))+Qv (fun t=>if G.th k t=true then φ (.guest k) (.line (G.ln k) t)*(ind (Nd.guest k=.line l t0)-ind (Nd.line (G.ln k) t=.line l t0)) else 0) y.T) G.m = - Qv (fun k=>Zr G φ t0 k*ind (G.ln k=l)) G.m:=by
  rw[show-Qv (fun k=>Zr G φ t0 k*ind (G.ln k=l)) G.m=(-1)*Qv (fun k=>Zr G φ t0 k*ind (G.ln k=l)) G.m by omega,<- GG];refine Zq fun k _=>?_;rw[Vg (p:=Nd.start=.line l t0) (fun z=>nomatch z),Vg (p:=Nd.guest k=.line l t0) (fun z=>nomatch z)];rw[Zq (g:=fun t=>if t=t0 then-(Zr G φ t0 k*ind (G.ln k=l)) else 0) fun t _=>?_,UK,Xb ht]
  ·simp
  ·by_cases e:t=t0
   ·subst e
    rw[Xb rfl,MM (p:=Nd.line (G.ln k) t=.line l t) (q:=G.ln k=l) (by simp)];unfold Zr;split
    ·rw[Int.zero_sub,Int.mul_neg]
    ·simp
   ·rw[Xa e,Vg (p:=Nd.line (G.ln k) t=.line l t0) (fun z=>e (by injection z))]
    simp
 rw[h1];have h2:Qv (fun t=>φ (.line 0 t) .fin*(ind (Nd.line 0 t=.line l t0)-ind (Nd.fin=.line l t0))+Qv (fun i=>φ (.line (i+1) t) (.line (upN y (i+1)) t)*(ind (Nd.line (i+1) t=.line l t0)-ind (Nd.line (upN y (i+1)) t=.line l t0))) (y.ls.length-1)) y.T
  = upF y φ t0 l-Qv (fun c=>if QZ y c=some l then upF y φ t0 c else 0) y.ls.length:=by
  rw[Zq (g:=fun t=>if t=t0 then upF y φ t0 l-Qv (fun c=>if QZ y c=some l then upF y φ t0 c else 0) y.ls.length else 0) fun t _=>?_,UK,Xb ht];rw[Vg (p:=Nd.fin=.line l t0) (fun z=>nomatch z)]
  by_cases e:t=t0
  ·subst e
   rw[Xb rfl,MM (p:=Nd.line 0 t=.line l t) (q:=0=l) (by simp)];have hn:y.ls.length=(y.ls.length-1)+1:=by omega
   have e1:upF y φ t l=Qv (fun c=>if c=l then upF y φ t l else 0) y.ls.length:=by rw[UK,Xb hl]
   have e2:∀c,c<y.ls.length->(if c=l then upF y φ t l else 0)=upF y φ t c*ind (c=l):=fun c _=>by
    by_cases q:c=l
    ·subst q;simp[ind]
    ·simp[ind,q]
   rw[e1,Zq e2,hn,KS,KS];have u0:¬QZ y 0=some l:=fun z=>by rw[ok.up0]at z;cases z
   have f0:upF y φ t 0=φ (.line 0 t) .fin:=by unfold upF;rw[Xb rfl]
   rw[Xa u0,f0,<- hn];have e3:Qv (fun i=>φ (.line (i+1) t) (.line (upN y (i+1)) t)*(ind (Nd.line (i+1) t=.line l t)-ind (Nd.line (upN y (i+1)) t=.line l t))) (y.ls.length-1)
    = Qv (fun i=>upF y φ t (i+1)*ind (i+1=l)) (y.ls.length-1)+Qv (fun i => -1*(if QZ y (i+1)=some l then upF y φ t (i+1) else 0)) (y.ls.length-1):=by
    rw[<- Jd];refine Zq fun i hi=>?_;rw[MM (p:=Nd.line (i+1) t=.line l t) (q:=i+1=l) (by simp),MM (p:=Nd.line (upN y (i+1)) t=.line l t) (q:=QZ y (i+1)=some l) (by rw[<- K7 ok (by omega) (by omega)];simp)]
    have:upF y φ t (i+1)=φ (.line (i+1) t) (.line (upN y (i+1)) t):=by unfold upF;rw[Xa (by omega)]
    rw[this,Ww];by_cases q:QZ y (i+1)=some l
    ·rw[Xb q];simp[ind,q];omega
    ·rw[Xa q];simp[ind,q]
   rw[e3,GG];simp only[Int.sub_zero];omega
  ·rw[Xa e,Vg (p:=Nd.line 0 t=.line l t0) (fun z=>e (by injection z)),Zq (g:=fun _=>0) fun i _=>?_,VN]
   ·simp
   ·rw[Vg (p:=Nd.line (i+1) t=.line l t0) (fun z=>e (by injection z)),Vg (p:=Nd.line (upN y (i+1)) t=.line l t0) (fun z=>e (by injection z))]
    simp
 rw[h2];omega
end Mir
namespace Mir
section
variable {ν:Type} [DecidableEq ν]
def Yl.fwd {L:Lay ν}{φ:Zc ν}(hw:Within L φ){es:Got ν}(hc:Yl L φ es){x:ν×ν×Int}(hx:x∈L)(h1:x.1∈Zd es)(h2:x.2.1∉Zd es):φ x.1 x.2.1=x.2.2:=by
 obtain⟨i,hi⟩:=List.mem_iff_getElem?.mp hx;have e:(2*i)/2=i:=by omega
 have e2:(2*i)%2=0:=by omega
 by_cases z:φ x.1 x.2.1=x.2.2
 ·exact z
 ·have:=hw x hx
  exact Xi (hc (2*i) x.1 x.2.1 (x.2.2-φ x.1 x.2.1) (by unfold tlE;rw[e,hi,e2];rfl) (by unfold hdE;rw[e,hi,e2];rfl) (by unfold rmE;rw[e,hi,e2];rfl) (by omega) h1) h2
def Yl.bwd {L:Lay ν}{φ:Zc ν}(hw:Within L φ){es:Got ν}(hc:Yl L φ es){x:ν×ν×Int}(hx:x∈L)(h1:x.1∉Zd es)(h2:x.2.1∈Zd es):φ x.1 x.2.1=0:=by
 obtain⟨i,hi⟩:=List.mem_iff_getElem?.mp hx;have e:(2*i+1)/2=i:=by omega
 have e2:¬(2*i+1)%2=0:=by omega
 by_cases z:φ x.1 x.2.1=0
 ·exact z
 ·have:=hw x hx
  exact Xi (hc (2*i+1) x.2.1 x.1 (φ x.1 x.2.1) (by unfold tlE;rw[e,hi];simp[e2]) (by unfold hdE;rw[e,hi];simp[e2]) (by unfold rmE;rw[e,hi];simp[e2]) (by omega) h2) h1
end
structure Flow (y:Yd)(G:Gv)(φ:Zc Nd):Prop where
 wi:Within (Zp y G) φ
 kp:∀n,n≠.start->n≠.fin->V6 (Zp y G) φ n=0
def S7 {y:Yd}{G:Gv}{k:Nat}(hk:k<G.m):((.start,.guest k,G.wa k):Nd×Nd×Int)∈Zp y G:=GH.mpr (.inl ⟨k,hk,W9.mpr (.inl rfl)⟩)
def MR {y:Yd}{G:Gv}{k t:Nat}(hk:k<G.m)(ht:t<y.T)(h:G.th k t=true):((.guest k,.line (G.ln k) t,G.mo k):Nd×Nd×Int)∈Zp y G:=GH.mpr (.inl ⟨k,hk,W9.mpr (.inr ⟨t,ht,h,rfl⟩)⟩)
def RY {y:Yd}{G:Gv}{t:Nat}(ht:t<y.T):((.line 0 t,.fin,Zi y 0 t):Nd×Nd×Int)∈Zp y G:=GH.mpr (.inr ⟨t,ht,J5.mpr (.inl rfl)⟩)
def HE {y:Yd}{G:Gv}{t l:Nat}(ht:t<y.T)(h0:0<l)(hl:l<y.ls.length):((.line l t,.line (upN y l) t,Zi y l t):Nd×Nd×Int)∈Zp y G :=
 GH.mpr (.inr ⟨t,ht,J5.mpr (.inr ⟨l-1,by omega,by rw[show l-1+1=l by omega]⟩)⟩)
def moT (G:Gv)(t k:Nat):Int:=if G.th k t=true then G.mo k else 0
section
variable {y:Yd}{G:Gv}{φ:Zc Nd}(F:Flow y G φ)
include F
theorem Flow.tak {k t:Nat}(hk:k<G.m)(ht:t<y.T):0<=Zr G φ t k/\Zr G φ t k<=moT G t k:=by
 unfold Zr moT;by_cases c:G.th k t=true
 ·rw[Xb c,Xb c]
  exact F.wi _ (MR hk ht c)
 ·rw[Xa c,Xa c]
  omega
theorem Flow.total {k:Nat}(hk:k<G.m):Qv (fun t=>Zr G φ t k) y.T=φ .start (.guest k):=by
 have:=F.kp (.guest k) (fun z=>nomatch z) (fun z=>nomatch z)
 rw[OG y G φ hk]at this;omega
theorem Flow.want {k:Nat}(hk:k<G.m):0<=φ .start (.guest k)/\φ .start (.guest k)<=G.wa k:=F.wi _ (S7 hk)
theorem Flow.up (ok:y.Ok)(hln:∀k,k<G.m->G.ln k<y.ls.length){t:Nat}(ht:t<y.T):∀n l,y.ls.length<=l+n->l<y.ls.length->upF y φ t l=ZU y G.m G.ln (Zr G φ t) l
 |0,l,h,hl=>by omega
 |n+1,l,h,hl=>by
   have z:=F.kp (.line l t) (fun z=>nomatch z) (fun z=>nomatch z)
   rw[Il ok G φ hl ht]at z;have e:Qv (fun c=>if QZ y c=some l then upF y φ t c else 0) y.ls.length=Qv (fun c=>if QZ y c=some l then ZU y G.m G.ln (Zr G φ t) c else 0) y.ls.length:=by
    refine Zq fun c hc=>?_
    by_cases u:QZ y c=some l
    ·rw[Xb u,Xb u]
     have:=JQ ok hc u
     exact Flow.up ok hln ht n c (by omega) hc
    ·rw[Xa u,Xa u]
   rw[BE ok hln _ hl,<- e];omega
theorem Flow.up_ok (ok:y.Ok){t l:Nat}(ht:t<y.T)(hl:l<y.ls.length):0<=upF y φ t l/\upF y φ t l<=Zi y l t:=by
 unfold upF;by_cases z:l=0
 ·subst z
  rw[Xb rfl];exact F.wi _ (RY ht)
 ·rw[Xa z]
  exact F.wi _ (HE ht (by omega) hl)
theorem Flow.load (ok:y.Ok)(hln:∀k,k<G.m->G.ln k<y.ls.length){t l:Nat}(ht:t<y.T)(hl:l<y.ls.length):ZU y G.m G.ln (Zr G φ t) l<=Zi y l t:=by
 rw[<- F.up ok hln ht y.ls.length l (by omega) hl];exact(F.up_ok ok ht hl).2
def ZE (es:Got Nd)(k:Nat):Bool:=decide (Nd.guest k∈Zd es)
def Lz (es:Got Nd)(t l:Nat):Bool:=decide (Nd.line l t∈Zd es)
omit F in
theorem Bo {p:Prop} [Decidable p] (h:decide p=false):¬p:=XO h
theorem Flow.shut (ok:y.Ok)(hln:∀k,k<G.m->G.ln k<y.ls.length){es:Got Nd}(hc:Yl (Zp y G) φ es)(hf:Nd.fin∉Zd es){t:Nat}(ht:t<y.T) :
 Shut y G.m G.ln (Zr G φ t) (moT G t) (fun l=>Zi y l t) (ZE es) (Lz es t) where
 nn k hk:=(F.tak hk ht).1
 full k hk hS hR:=by
  unfold Zr moT;by_cases c:G.th k t=true
  ·rw[Xb c,Xb c]
   exact hc.fwd F.wi (MR hk ht c) (Xq hS) (Bo hR)
  ·rw[Xa c,Xa c]
 none k hk hS hR:=by
  unfold Zr;by_cases c:G.th k t=true
  ·rw[Xb c]
   exact hc.bwd F.wi (MR hk ht c) (Bo hS) (Xq hR)
  ·rw[Xa c]
 top hR:=by
  have h0:=ok.l1;rw[<- F.up ok hln ht y.ls.length 0 (by omega) (by omega)];unfold upF;rw[Xb rfl];exact hc.fwd F.wi (RY ht) (Xq hR) hf
 out c a hcl u h1 h2:=by
  have c0:c≠0:=fun z=>by subst z;rw[ok.up0]at u;cases u
  have ea:upN y c=a:=(K7 ok (by omega) hcl).mpr u;rw[<- F.up ok hln ht y.ls.length c (by omega) hcl];unfold upF;rw[Xa c0];exact hc.fwd F.wi (HE ht (by omega) hcl) (Xq h1) (by rw[ea];exact Bo h2)
 inn c a hcl u h1 h2:=by
  have c0:c≠0:=fun z=>by subst z;rw[ok.up0]at u;cases u
  have ea:upN y c=a:=(K7 ok (by omega) hcl).mpr u;rw[<- F.up ok hln ht y.ls.length c (by omega) hcl];unfold upF;rw[Xa c0];exact hc.bwd F.wi (HE ht (by omega) hcl) (Bo h1) (by rw[ea];exact Xq h2)
theorem Flow.filled {es:Got Nd}(hc:Yl (Zp y G) φ es)(hs:Nd.start∈Zd es){k:Nat}(hk:k<G.m)(hS:ZE es k=false):Qv (fun t=>Zr G φ t k) y.T=G.wa k:=by
 rw[F.total hk];exact hc.fwd F.wi (S7 hk) hs (Bo hS)
def Jl (G:Gv)(S:Qm)(t l:Nat):Int:=Qv (fun k=>Zn S (moT G t) k*ind (G.ln k=l)) G.m
omit F in
theorem SX {y:Yd}(ok:y.Ok):∀n j,j<n->j<y.ls.length->0∈upL y j
 |0,j,h,_=>by omega
 |n+1,j,h,hj=>by
   by_cases z:j=0
   ·subst z;exact B3 y 0
   ·obtain⟨a,ea,la⟩:=ok.ups j (by omega) hj
    exact(Bt ok (by omega) hj ea 0 (fun q=>z q.symm)).mpr (SX ok n a (by omega) (by omega))
omit F in
theorem Pk {y:Yd}(ok:y.Ok){m:Nat}{ln:Nat->Nat}(hln:∀k,k<m->ln k<y.ls.length)(f:Qn):ZU y m ln f 0=Qv f m :=
 Zq fun k hk=>by
  unfold ind;rw[Xb (SX ok _ _ (Ge _) (hln k hk)),Int.mul_one]
theorem Flow.no_more (ok:y.Ok)(hln:∀k,k<G.m->G.ln k<y.ls.length)(S:Qm){t:Nat}(ht:t<y.T):Qv (Zn S (Zr G φ t)) G.m<=ZK y (fun l=>Zi y l t) (Jl G S t) 0:=by
 have l1:=ok.l1;rw[<- Pk ok hln];refine Mir.no_more ok hln (fun l hl=>?_) (fun l hl=>?_) y.ls.length 0 (by omega) (by omega)
 ·refine VC fun k hk=>?_
  have q:=F.tak hk ht
  by_cases e:G.ln k=l
  ·unfold Zn ind
   rw[Xb e];split<;>omega
  ·rw[Vg e];omega
 ·have q:=F.load ok hln ht hl
  have q2:=SU (y:=y) (ln:=G.ln) (f:=Zn S (Zr G φ t)) (g:=Zr G φ t) (fun k hk=>KD (F.tak hk ht).1) l;omega
theorem Flow.meet (ok:y.Ok)(hln:∀k,k<G.m->G.ln k<y.ls.length){es:Got Nd}(hc:Yl (Zp y G) φ es)(hf:Nd.fin∉Zd es){t:Nat}(ht:t<y.T) :
 ZK y (fun l=>Zi y l t) (Jl G (ZE es) t) 0=Qv (Zn (ZE es) (Zr G φ t)) G.m:=by
 have l1:=ok.l1;have a:=F.no_more ok hln (ZE es) ht;have b:=(F.shut ok hln hc hf ht).all ok hln (own:=Jl G (ZE es) t) (fun l hl=>rfl) y.ls.length 0 (by omega) (by omega) (fun _=>.inl rfl);rw[Pk ok hln]at b;omega
omit F in
theorem KR (f g:Qn):∀n,Qv (fun k=>f k-g k) n=Qv f n-Qv g n
 |0=>rfl
 |n+1=>by
   simp only[Qv];rw[KR f g n];omega
theorem Flow.lack (ok:y.Ok)(hln:∀k,k<G.m->G.ln k<y.ls.length){es:Got Nd}(hc:Yl (Zp y G) φ es)(hs:Nd.start∈Zd es)(hf:Nd.fin∉Zd es) :
 Qv (fun k=>G.wa k-Qv (fun t=>Zr G φ t k) y.T) G.m=Qv (Zn (ZE es) G.wa) G.m-Qv (fun t=>ZK y (fun l=>Zi y l t) (Jl G (ZE es) t) 0) y.T:=by
 rw[Zq (n:=y.T) fun t ht=>F.meet ok hln hc hf ht,Dk,<- KR];refine Zq fun k hk=>?_
 cases s:ZE es k with
 |true =>
   have:Qv (fun t=>Zn (ZE es) (Zr G φ t) k) y.T=Qv (fun t=>Zr G φ t k) y.T:=Zq fun t _=>by unfold Zn;rw[Xb s]
   rw[this];unfold Zn;rw[Xb s]
 |false =>
   have:Qv (fun t=>Zn (ZE es) (Zr G φ t) k) y.T=0:=by
    rw[Zq (g:=fun _=>0) fun t _=>?_,VN];unfold Zn;rw[Xa (by rw[s];decide)]
   rw[this,F.filled hc hs hk s];unfold Zn;rw[Xa (by rw[s];decide)];omega
omit F in
theorem Ou (y:Yd)(G:Gv)(φ:Zc Nd):V6 (Zp y G) φ .start=Qv (fun k=>φ .start (.guest k)) G.m:=by
 unfold V6;rw[Na];have h2:Qv (fun t=>φ (.line 0 t) .fin*(ind (Nd.line 0 t=.start)-ind (Nd.fin=.start))+Qv (fun i=>φ (.line (i+1) t) (.line (upN y (i+1)) t)*(ind (Nd.line (i+1) t=.start)-ind (Nd.line (upN y (i+1)) t=.start))) (y.ls.length-1)) y.T=0:=by
  rw[Zq (g:=fun _=>0) fun t _=>?_,VN];rw[Vg (fun z=>nomatch z),Vg (fun z=>nomatch z),Zq (g:=fun _=>0) fun i _=>?_,VN]
  ·simp
  ·rw[Vg (fun z=>nomatch z),Vg (fun z=>nomatch z)];simp
 rw[h2,Gh];refine Zq fun k _=>?_;rw[Vg (p:=Nd.guest k=.start) (fun z=>nomatch z),Zq (g:=fun _=>0) fun t _=>?_,VN]
 ·simp[ind]
 ·rw[Vg (p:=Nd.line (G.ln k) t=.start) (fun z=>nomatch z)];simp
theorem Flow.push {a:Int}(ha:0<=a){w:Qk}(hw:Chain (Zp y G) .start .fin w)(hn:w.Nodup)(hr:∀e∈w,∃r,rmE (Zp y G) φ e=some r/\a<=r) :
 Flow y G (W0 (Zp y G) a φ w)/\V6 (Zp y G) (W0 (Zp y G) a φ w) .start=V6 (Zp y G) φ .start+a:=by
 refine⟨⟨TC (Da y G) ha F.wi hn hr,fun n h1 h2=>?_⟩,?_⟩
 ·rw[KA (Da y G) n hw,F.kp n h1 h2,Vg (fun z=>h1 z.symm),Vg (fun z=>h2 z.symm)]
  simp
 ·rw[KA (Da y G) .start hw,Vg (p:=Nd.fin=.start) (fun z=>nomatch z)]
  simp[ind]
theorem Flow.most:V6 (Zp y G) φ .start<=Qv G.wa G.m:=by
 rw[Ou];exact VC fun k hk=>(F.want hk).2
end
def L8 {y:Yd}{G:Gv}(h:∀x∈Zp y G,0<=x.2.2):Flow y G (fun _ _=>0):=by
 refine⟨fun x hx=>⟨UY _,h x hx⟩,fun n _ _=>?_⟩
 unfold V6 Vn;have:∀L:Lay Nd,(L.map fun x=>(0:Int)*(ind (x.1=n)-ind (x.2.1=n))).sum=0:=fun L=>by
  induction L with
  |nil=>rfl
  |cons x L ih=>rw[Xs,Gb,ih];simp
 exact this _
end Mir
namespace Mir
structure Giv (m:Nat)(w:Qn)(g:(Qm)->Int):Prop where
 w1:∀k,k<m->1<=w k
 g0:∀S,(∀k,k<m->S k=false)->g S=0
 nn:∀S,0<=g S
 ext:∀S U,(∀k,k<m->S k=U k)->g S=g U
 sub:∀S U,g (fun k=>S k||U k)+g (fun k=>S k&&U k)<=g S+g U
def wS (m:Nat)(w:Qn)(S:Qm):Int:=Qv (Zn S w) m
section
variable {m:Nat}{w:Qn}{g:(Qm)->Int}
def Kg {S U:Qm}(h:∀k,k<m->S k=U k):wS m w S=wS m w U:=Zq fun k hk=>by unfold Zn;rw[h k hk]
def Ju {S U R:Qm}(h:∀k,k<m->(R k=true↔S k=true\/U k=true)/\¬(S k=true/\U k=true)):wS m w R=wS m w S+wS m w U:=by
 unfold wS;rw[<- Jd];refine Zq fun k hk=>?_;obtain⟨h1,h2⟩:=h k hk;unfold Zn;cases e1:S k<;>cases e2:U k<;>cases e3:R k<;>simp[e1,e2,e3]at h1 h2 ⊢
def Giv.w0 (G:Giv m w g)(S:Qm):0<=wS m w S:=MJ fun k hk=>Pn (by have:=G.w1 k hk;omega)
def Giv.wp (G:Giv m w g){S:Qm}{j:Nat}(hj:j<m)(h:S j=true):1<=wS m w S:=by
 have e:wS m w S=wS m w (fun k=>decide (k=j))+wS m w (fun k=>S k && !decide (k=j)):=Ju fun k hk=>by
  by_cases c:k=j
  ·subst c;simp[h]
  ·simp[c]
 have h1:=G.w0 (fun k=>S k && !decide (k=j))
 have h2:wS m w (fun k=>decide (k=j))=w j:=by
  unfold wS;have:Qv (Zn (fun k=>decide (k=j)) w) m=Qv (fun l=>if l=j then w j else 0) m:=Zq fun k _=>by
   unfold Zn;by_cases c:k=j
   ·subst c;simp
   ·simp[c]
  rw[this,UK,Xb hj]
 have:=G.w1 j hj
 omega
def CN {S:Qm}(h:∀k,k<m->S k=false):wS m w S=0:=by
 unfold wS;rw[Zq (g:=fun _=>0) fun k hk=>by unfold Zn;rw[h k hk];rfl];exact VN m
variable (m w g) in
def Low (A:Qm)(p q:Int):Prop := ∀S:Nat->Bool,(∀k,k<m->S k=true->A k=true)->q*(g A-g S)<=p*wS m w (fun k=>A k && !S k)
variable (m w g) in
def Up (A:Qm)(p q:Int):Prop := ∀S:Nat->Bool,(∀k,k<m->S k=true->A k=false)->p*wS m w S<=q*(g (fun k=>A k||S k)-g A)
def L6 {p q t b X Y:Int}(h:q*X<=p*Y)(hq:0<q)(hb:0<b)(hy:0<=Y)(hs:p*b<=t*q):b*X<=t*Y:=by
 have h1:b*(q*X)<=b*(p*Y):=XH h (by omega);have h2:p*b*Y<=t*q*Y:=X6 hs hy;have e1:b*(p*Y)=p*b*Y:=by rw[<- Xt,XB b p]
 have e2:t*q*Y=q*(t*Y):=by rw[XB t q,Xt]
 have e3:b*(q*X)=q*(b*X):=by rw[<- Xt,XB b q,Xt]
 have h3:q*(b*X)<=q*(t*Y):=by omega
 exact BW h3 hq
def Low.more (G:Giv m w g){A:Qm}{p q t b:Int}(h:Low m w g A p q)(hq:0<q)(hb:0<b)(hs:p*b<=t*q):Low m w g A t b:=fun S hS=>L6 (h S hS) hq hb (G.w0 _) hs
def Up.nn {A:Qm}(G:Giv m w g)(hA:∀k,k<m->A k=false):Up m w g A 0 1:=fun S _=>by
 have e:g A=0:=G.g0 A hA
 have:=G.nn (fun k=>A k||S k)
 omega
def Low.nil {A:Qm}(G:Giv m w g)(hA:∀k,k<m->A k=false):Low m w g A 0 1:=fun S hS=>by
 have e:g A=0:=G.g0 A hA
 have e2:g S=0:=G.g0 S fun k hk=>by
  cases c:S k with
  |false=>rfl
  |true=>exact Xi ((hA k hk).symm.trans (hS k hk c)) (by decide)
 rw[e,e2];omega
def Low.step (G:Giv m w g){A T:Qm}{p q t b:Int}(h:Low m w g A p q)(hu:Up m w g A t b)(hT:∀k,k<m->T k=true->A k=false)(ht:t*wS m w T=b*(g (fun k=>A k||T k)-g A))(hq:0<q)(hb:0<b)(hs:p*b<=t*q):Low m w g (fun k=>A k||T k) t b:=fun S hS=>by
 have h1:=hu (fun k=>S k && !A k) (fun k _ e=>by cases c:A k with|false=>rfl|true=>simp[c]at e);have e1:g (fun k=>A k||(S k && !A k))=g (fun k=>A k||S k):=G.ext _ _ fun k _=>by cases A k<;>cases S k<;>rfl
 rw[e1]at h1;have h2:=G.sub A S;have h3:=(h.more G hq hb hs) (fun k=>A k&&S k) (fun k _ e=>by cases c:A k with|true=>rfl|false=>simp[c]at e);have e2:wS m w (fun k=>A k && !(A k&&S k))=wS m w (fun k=>A k && !S k):=Kg fun k _=>by cases A k<;>cases S k<;>rfl
 rw[e2]at h3;have e3:wS m w (fun k=>(A k||T k) && !S k)=wS m w (fun k=>A k && !S k)+wS m w (fun k=>T k && !S k):=Ju fun k hk=>by
  have:=hT k hk
  cases c1:A k<;>cases c2:T k<;>cases c3:S k<;>simp[c1,c2]at this ⊢
 have e4:wS m w T=wS m w (fun k=>S k && !A k)+wS m w (fun k=>T k && !S k):=Ju fun k hk=>by
  have:=hT k hk
  have:=hS k hk
  cases c1:A k<;>cases c2:T k<;>cases c3:S k<;>simp_all
 rw[e3];rw[e4]at ht;have h2':b*(g (fun k=>A k||S k)+g (fun k=>A k&&S k))<=b*(g A+g S):=XH h2 (by omega);simp only[Ww,JH]at *;omega
def Up.step (G:Giv m w g){A T:Qm}{t b:Int}(hu:Up m w g A t b)(hT:∀k,k<m->T k=true->A k=false)(ht:t*wS m w T=b*(g (fun k=>A k||T k)-g A)):Up m w g (fun k=>A k||T k) t b:=fun S hS=>by
 have h1:=hu (fun k=>T k||S k) (fun k hk e=>by
  have h1:=hT k hk;have h2:=hS k hk
  cases c1:A k<;>cases c2:T k<;>cases c3:S k<;>simp_all)
 have e1:wS m w (fun k=>T k||S k)=wS m w T+wS m w S:=Ju fun k hk=>by
  have h2:=hS k hk
  cases c1:A k<;>cases c2:T k<;>cases c3:S k<;>simp_all
 have e2:g (fun k=>A k||(T k||S k))=g (fun k=>(A k||T k)||S k):=G.ext _ _ fun k _=>by cases A k<;>cases T k<;>cases S k<;>rfl
 rw[e1,e2]at h1;show t*wS m w S<=b*(g (fun k=>(A k||T k)||S k)-g (fun k=>A k||T k));simp only[Ww,JH]at *;omega
def Of (G:Giv m w g){A S:Qm}{p q:Int}(hl:Low m w g A p q)(hq:0<q)(hm:∀U:Nat->Bool,p*wS m w U-q*g U<=p*wS m w S-q*g S)(U:Qm)(hU:∀k,k<m->U k=true->A k=false) :
 p*wS m w U-q*(g (fun k=>A k||U k)-g A)<=p*wS m w (fun k=>S k && !A k)-q*(g (fun k=>A k||(S k && !A k))-g A):=by
 have h1:=hm (fun k=>A k||U k)
 have e1:wS m w (fun k=>A k||U k)=wS m w A+wS m w U:=Ju fun k hk=>by
  have:=hU k hk
  cases c1:A k<;>cases c2:U k<;>simp_all
 have h2:=G.sub A S;have h3:=hl (fun k=>A k&&S k) (fun k _ e=>by cases c:A k with|true=>rfl|false=>simp[c]at e);have e2:wS m w (fun k=>A k && !(A k&&S k))=wS m w (fun k=>A k && !S k):=Kg fun k _=>by cases A k<;>cases S k<;>rfl
 rw[e2]at h3;have e3:g (fun k=>A k||(S k && !A k))=g (fun k=>A k||S k):=G.ext _ _ fun k _=>by cases A k<;>cases S k<;>rfl
 rw[e3];have e4:wS m w S=wS m w (fun k=>A k&&S k)+wS m w (fun k=>S k && !A k):=Ju fun k _=>by cases c1:A k<;>cases c2:S k<;>simp
 have e5:wS m w A=wS m w (fun k=>A k&&S k)+wS m w (fun k=>A k && !S k):=Ju fun k _=>by cases c1:A k<;>cases c2:S k<;>simp
 have h2':q*(g (fun k=>A k||S k)+g (fun k=>A k&&S k))<=q*(g A+g S):=XH h2 (by omega);rw[e1,e4,e5]at h1;simp only[Ww,JH]at *;omega
def OU {A T:Qm}{p q:Int}(hm:∀U:Nat->Bool,(∀k,k<m->U k=true->A k=false)->p*wS m w U-q*(g (fun k=>A k||U k)-g A)<=p*wS m w T-q*(g (fun k=>A k||T k)-g A))(h0:p*wS m w T<=q*(g (fun k=>A k||T k)-g A)):Up m w g A p q:=fun U hU=>by
 have:=hm U hU
 omega
def IZ {p q p' q' W W' x x':Int}(hq:0<q)(hq':0<q')(hl:p'*q<p*q')(ht:p'*W=q'*x)(h1:p*W'-q*x'<=p*W-q*x)(h2:q'*x'<p'*W'):W'<W:=by
 refine Int.lt_of_not_ge fun c=>?_;have a1:q'*(p*W'-q*x')<=q'*(p*W-q*x):=XH h1 (by omega);have a2:q*(q'*x')<q*(p'*W'):=Int.mul_lt_mul_of_pos_left h2 hq;have a3:q*(p'*W)=q*(q'*x):=by rw[ht]
 have a4:0<=(p*q'-p'*q)*(W'-W):=X0 (by omega) (by omega);have b1:q'*(q*x')=q*(q'*x'):=by rw[<- Xt,XB q' q,Xt]
 have b2:q'*(q*x)=q*(q'*x):=by rw[<- Xt,XB q' q,Xt]
 have b3:q'*(p*W')=p*q'*W':=by rw[<- Xt,XB q' p]
 have b4:q'*(p*W)=p*q'*W:=by rw[<- Xt,XB q' p]
 have b5:q*(p'*W')=p'*q*W':=by rw[<- Xt,XB q p']
 have b6:q*(p'*W)=p'*q*W:=by rw[<- Xt,XB q p']
 simp only[Ww,Int.sub_mul]at a1 a4;rw[b1,b2,b3,b4]at a1;rw[b5]at a2;rw[b6]at a3;omega
end
end Mir
section
namespace L2
open PySem PySem.Spec PyProof.Rows
def Zf.at {xs:List V}{us:Qe}(r:Zf xs us):∀i:Nat,(xs[i]?=none/\us[i]?=none)\/∃x u,xs[i]?=some x/\us[i]?=some u/\QR x u:=by
 induction r with
 |nil=>intro i;exact .inl ⟨rfl,rfl⟩
 |cons a b ih =>
   intro i;cases i with
   |zero=>exact .inr ⟨_,_,rfl,rfl,a⟩
   |succ i=>exact ih i
section
variable {X:Cx}{e:Expr}{te:TE}{lo hi:Option Expr}{se:Expr}{tl th ts:TO}{pos p2:Pos}
end
section
variable {K:W.Frag}{ρ:QL}{te:TE}
end
section
variable {K:W.Frag}{ρ:QL}{D:PEnds}
end
section
variable {es:Qi}{env:Env}
def GB {a b}:starEach (.Name a b::es) env=(false,eval (.Name a b) env)::starEach es env:=by rfl
end
section
variable {X:Cx}{e:Expr}{es:Qi}{te:TE}{t:TA}{pos:Pos}
end
section
variable {X:Cx}{a:Expr}{ta:TE}
end
section
variable {K:W.Frag}{ρ:QL}{ta tb tc td:TE}
end
section
variable {X:Cx}{a b c d:Expr}{ta tb tc td:TE}{pos:Pos}
end
section
variable {K:W.Frag}{ρ:QL}{ta tb tc td:TE}
end
theorem TY:∀{us:Qe} {ns:Ql},IntsAre us ns->Zf (ns.map V.int) us
 |_,_,.nil=>.nil
 |_,_,.cons n t h=>.cons ⟨t,rfl⟩ (TY h)
section
variable {X:Cx}
def S9:List V->Hp->VK->Prop:=fun xs H Q=>∃(x:V) (ns:Ql),xs=[x]/\Rep H x (.list (ns.map PyData.int))/\ns.length<64/\∀(p:Addr) (ms:Ql),H p=none->ms.Perm ns->ms.Pairwise (· <= ·)->Q (.ref p) (upd H p (.lst (ms.map V.int)))
def Ig:Vu X (.builtin "sorted") S9:=by
 intro Xbo s σ H xs us Q I r h;obtain⟨x,ns,rfl,rx,h64,q⟩:=h;obtain⟨u,rfl,ru⟩:=WH r
 cases rx with
 |@lst a ys _ ha ra =>
   cases ru
   obtain⟨z,its,n,rv,e⟩:=I.hok _ _ ha;have ey:ys=ns.map V.int:=Ul ra;have hI:IntsAre its ns:=BG (by rw[<- ey];exact rv);have hl:its.length=ns.length:=by rw[<- rv.length,ey];simp
   refine sorted_ints ⟨_,e,rfl,n,rfl⟩ hI (by omega) fun out ms a1 a2 a3=>?_;obtain⟨k,hk⟩:=sortedAll_at s.heap its out;have ln:ms.length=ns.length:=a2.length_eq;refine⟨.ref (s.heap.objs.size+1),_,I.laid (t':=s.toks) (a:=s.heap.objs.size+1) (o:=.lst (ms.map V.int)) (fun b ob q=>sortedAll_old q) (Nat.le_succ _) ?_,rfl,q _ ms (I.hok.fresh (Nat.le_succ _)) a2 a3⟩;refine⟨by rw[Xh,ln];exact X9 (Xz h64 (by decide)),out.toList,k,TY a1,?_⟩;rw[hk]
end
def W6:Ql->Ql->Bool
 |a::as,b::bs=>if a=b then W6 as bs else decide (b<a)
 |_,_=>false
theorem Ko:∀{us:Qe} {ns:Ql},IntsAre us ns->∀{i:Nat} {n:Int},ns[i]?=some n->∃t,us[i]?=some (.int n t)
 |_,_,.nil,i,n,e=>by simp at e
 |_,_,.cons m t h,0,n,e=>by
   simp at e
   exact⟨t,by simp[e]⟩
 |_,_,.cons m t h,i+1,n,e=>by
   obtain⟨t',h'⟩:=Ko h (i:=i) (n:=n) (by simpa using e)
   exact⟨t',by simpa using h'⟩
section
def Ai (l b:Addr)(xs ys:Array Value)(n n2:Nat)(dd dd2:Qj)(sl sl2:Array (Qf))(ns ms:Ql)(hsz:ns.length=ms.length)(hx:IntsAre xs.toList ns)(hy:IntsAre ys.toList ms)(k:Nat) :
 ∀i:Nat,ns.length-i=k->Meets (Builtin.«list.__eq__.loop» ⟨[.ref l,.ref b,rawInt i,rawInt 4],[]⟩)
  (fun A R s=>s.heap.get? l=some { cls:=.type "list",dict:=dd,data:=.seq xs n,slots:=sl }/\s.heap.get? b=some { cls:=.type "list",dict:=dd2,data:=.seq ys n2,slots:=sl2 } /\
   R (.ok (.ret (.bool (W6 (ns.drop i) (ms.drop i))))) s):=by
 have lx:xs.size=ns.length:=by have:=IntsAre.length hx;simpa using this
 have ly:ys.size=ms.length:=by have:=IntsAre.length hy;simpa using this
 induction k with
 |zero =>
   intro i hk prog w A R s h;obtain⟨hp,g,d,tk,os⟩:=s;obtain⟨ja,jb,q⟩:=h
   wp_walk using AutoSeq1.wpAny_loadPart' ja,AutoSeq1.wpAny_loadPart' jb
   have e1:xs[((i:Nat):Int).toNat]?=none:=by simp;omega
   have e2:ys[((i:Nat):Int).toNat]?=none:=by simp;omega
   have e3:ns.drop i=[]:=by simp;omega
   rw[e3]at q;rw[e1,e2];wp_walk using AutoSeq1.wpAny_loadPart' ja,AutoSeq1.wpAny_loadPart' jb;show R (.ok (.ret (.bool (decide (xs.size > ys.size))))) _;rw[XG (show ¬xs.size > ys.size by omega)];exact q
 |succ k ih =>
   intro i hk prog w A R s h;obtain⟨hp,g,d,tk,os⟩:=s;obtain⟨ja,jb,q⟩:=h
   wp_walk using AutoSeq1.wpAny_loadPart' ja,AutoSeq1.wpAny_loadPart' jb
   have l1:i<ns.length:=by omega
   have l2:i<ms.length:=by omega
   obtain⟨ta,e1⟩:∃t,xs[((i:Nat):Int).toNat]?=some (.int ns[i] t):=by
    have:=Ko hx (i:=i) (n:=ns[i]) (by simp[l1])
    simpa using this
   obtain⟨tb,e2⟩:∃t,ys[((i:Nat):Int).toNat]?=some (.int ms[i] t):=by
    have:=Ko hy (i:=i) (n:=ms[i]) (by simp[l2])
    simpa using this
   have d1:ns.drop i=ns[i]::ns.drop (i+1):=NU l1;have d2:ms.drop i=ms[i]::ms.drop (i+1):=NU l2;rw[d1,d2]at q;rw[e1,e2];refine Xd (SeqAt.EqAt.int_int ns[i] ta ms[i] tb prog w _ _ ?_);have hc:((i:Int)+1)=((i+1:Nat):Int):=by omega
   by_cases hab:ns[i]=ms[i]
   ·have hb:(ns[i]==ms[i])=true:=by simp[hab]
    rw[hb];wp_walk
    rw[hc];exact⟨plainId_quiet MeetsSeq3.plain_eq_loop _,codeAny_builtin MeetsSeq3.entry_eq_loop (by
     rw[Around.under_plainId MeetsSeq3.plain_eq_loop _];exact ih (i+1) (by omega) prog w A R _ ⟨ja,jb,by simpa [W6,hab] using q⟩)⟩
   ·have hb:(ns[i]==ms[i])=false:=by simp[hab]
    rw[hb];wp_walk using AutoSeq1.wpAny_loadPart' ja,AutoSeq1.wpAny_loadPart' jb;rw[e1,e2];show wpAny _ _ (richCompare .Gt (.int ns[i] ta) (.int ms[i] tb) >>= fun v=>ret v) _ _ _;refine Xd (gt_int (Xu ?_));show R (.ok (.ret (.bool (decide (ms[i]<ns[i]))))) _
    have e9:W6 (ns[i]::ns.drop (i+1)) (ms[i]::ms.drop (i+1))=decide (ms[i]<ns[i]):=by
     show(if ns[i]=ms[i] then _ else decide (ms[i]<ns[i]))=_
     rw[Xa hab]
    rw[e9]at q;exact q
def CD (l b:Addr)(xs ys:Array Value)(n n2:Nat)(dd dd2:Qj)(sl sl2:Array (Qf))(ns ms:Ql)(hsz:ns.length=ms.length)(hx:IntsAre xs.toList ns)(hy:IntsAre ys.toList ms) :
 Meets (Builtin.«list.__gt__» ⟨[.ref l,.ref b],[]⟩)
  (fun A R s=>s.heap.get? l=some { cls:=.type "list",dict:=dd,data:=.seq xs n,slots:=sl }/\s.heap.get? b=some { cls:=.type "list",dict:=dd2,data:=.seq ys n2,slots:=sl2 } /\
   R (.ok (.ret (.bool (W6 ns ms)))) s):=by
 intro prog w A R s h;obtain⟨hp,g,d,tk,os⟩:=s;obtain⟨ja,jb,q⟩:=h;have f3:=AutoSeq1.sub_list_list
 wp_walk using AutoSeq1.wpAny_loadPart' ja,AutoSeq1.wpAny_loadPart' jb
 exact⟨plainId_quiet MeetsSeq3.plain_eq_loop _,codeAny_builtin MeetsSeq3.entry_eq_loop (by
  rw[Around.under_plainId MeetsSeq3.plain_eq_loop _];exact Ai l b xs ys n n2 dd dd2 sl sl2 ns ms hsz hx hy _ 0 rfl prog w A R _ ⟨ja,jb,by simpa using q⟩)⟩
variable {X:Cx}
def Rm (K:W.Frag):R2:=fun x y H Q=>∃ns ms,Rep H x (.list (ns.map PyData.int))/\Rep H y (.list (ms.map PyData.int))/\ns.length=ms.length/\Q (.bl (W6 ns ms)) H
def LR (hu:X.A.units+64<cLine):OpR X (compareOp .Gt) (Rm X.K):=by
 intro Xbo s σ H x y v u Q I rx ry h;obtain⟨ns,ms,r1,r2,hl,q⟩:=h
 cases r1 with
 |@lst a xs _ ha ra =>
   cases r2 with
   |@lst b ys _ hb rb =>
     cases rx
     cases ry
     obtain⟨z,its,n,rv,e⟩:=I.hok _ _ ha;obtain⟨z',its',n',rv',e'⟩:=I.hok _ _ hb;have ex:xs=ns.map V.int:=Ul ra;have ey:ys=ms.map V.int:=Ul rb;have i1:IntsAre its.toArray.toList ns:=BG (by rw[<- ex];exact rv);have i2:IntsAre its'.toArray.toList ms:=BG (by rw[<- ey];exact rv')
     exact richCompare_meets_room (op:=.Gt) ⟨_,e,rfl⟩ ⟨_,e',rfl⟩ PySem.F.slot_list_gt PySem.F.entry_list_gt (PySem.F.args_list_gt_2 _ _) (CD a b _ _ n n' none none #[] #[] ns ms hl i1 i2)
      ⟨e,e',show Value.bool (W6 ns ms)≠Value.notImplemented/\_ from⟨(fun x=>nomatch x),⟨.bl (W6 ns ms),H,I,rfl,q⟩⟩⟩ (by omega)
end
section
variable {K:W.Frag}{ρ:QL}{ta tb:TE}{D:PEnds}
def LV {ns ms:Ql}(ha:Qs K ta ρ (.list (ns.map PyData.int)))(hb:Qs K tb ρ (.list (ms.map PyData.int)))(hl:ns.length=ms.length):Qs K (tOp (Rm K) ta tb) ρ (.bool (W6 ns ms)):=fun H0 F σ H Q S q =>
 YN ha hb S fun F' H' x y e r1 r2=>⟨ns,ms,r1.mono e.fh,r2.mono e.fh,hl,q F' H' _ e (.bl _)⟩
def ER:∀{l m:Ql},l.Perm m->l.Pairwise (· <= ·)->m.Pairwise (· <= ·)->l=m:=fun p h1 h2=>by
 exact p.eq_of_pairwise (le:=(· <= ·)) (fun a b _ _ h h'=>Int.le_antisymm h h') h1 h2
def IE {ns ms:Ql}(h:Qs K ta ρ (.list (ns.map PyData.int)))(hp:ms.Perm ns)(hs:ms.Pairwise (· <= ·))(hn:ns.length<64):EvO K (tCB S9 (Zl ta Zv)) ρ (.ol (ms.map PyData.int)):=fun H0 F σ H Q S q =>
 h H0 F σ H _ S fun F1 H1 v x1 r1=>⟨v,ns,rfl,r1.mono x1.fh,hn,fun p ks hp' k1 k2=>by
  have e:ks=ms:=ER (k1.trans hp.symm) k2 hs;subst e;obtain⟨a,b,c⟩:=G8 (K:=K) x1 hp' (Td (H:=F1) ks);exact q _ _ _ _ a b c⟩
end
def Ic:bootBuiltins "sorted"=some (.builtin "sorted"):=by decide +kernel
section
variable {X:Cx}
def ipM:TIp:=fun x y H Q=>∃i j,x=.int i/\y=.int j/\IntMulOk i j/\Q (.int (i*j)) H
def Ce:PIp X .Mult ipM:=by
 intro Xbo s σ H x y v u Q I r1 r2 h;obtain⟨i,j,rfl,rfl,hc,q⟩:=h;obtain⟨t,rfl⟩:=r1;obtain⟨t',rfl⟩:=r2;exact imul_int ⟨.int (i*j),H,I.tok _,⟨_,rfl⟩,q⟩ hc
end
section
variable {K:W.Frag}{ρ:QL}{te ti:TE}{D:PEnds}
def Ak {i:Nat}{m n:Int}(e:ρ[i]?=some (some (.fz (.int m))))(h:Qs K te ρ (.int n))(hc:IntMulOk m n)(hn:D.nx (ρ.set i (some (.fz (.int (m*n)))))):Q9 K (Rp i te ipM) ρ D:=fun F0 H0 F σ H E x S C=>by
 obtain⟨fp,g,_⟩:=S.fp;obtain⟨v,e1,_,r⟩:=g i _ e
 cases r
 refine⟨_,e1,h H0 F σ H _ S fun F1 H1 y x1 r1=>?_⟩
 cases r1
 exact⟨m,n,rfl,rfl,hc,C.nx F1 _ H1 _ (x.trans x1) ((S.ext x1).setF (.int _)) hn⟩
end
end L2
end
namespace PySem
section
variable {prog:Program}{w:World}{K:Type} [DecidableEq K] (knd:KeyKind prog w K)
def Yz (h:Heap) (xy:List K×List K) (a:Addr):Prop := ∃o n p q,h.get? a=some o/\o.cls=.type "tuple" /\ o.data=.seq #[.ref p,.ref q] n/\IsTupleKey knd h xy.1 p/\IsTupleKey knd h xy.2 q
variable {knd}
def Yz.typeIs {s:Shared} {ks:List K×List K} {a:Addr} (x:Yz knd s.heap ks a):s.TypeIs (.ref a) "tuple" := let ⟨o,_,_,_,ho,hc,_⟩:=x;⟨o,ho,hc⟩
def Yz.inj {h:Heap}{a:Addr}{x y:List K×List K}(hx:Yz knd h x a)(hy:Yz knd h y a):x=y:=by
 obtain⟨o,n,p,q,ho,_,hd,h1,h2⟩:=hx;obtain⟨o',n',p',q',ho',_,hd',h1',h2'⟩:=hy
 cases Option.some.inj (ho.symm.trans ho')
 rw[hd]at hd';injection hd' with z _;have z1:=XW Array.toList z
 simp at z1
 obtain⟨rfl,rfl⟩:=z1;exact Prod.ext (h1.inj h1') (h2.inj h2')
def Yz.keeps {h h':Heap}{ks:List K×List K}{a d:Addr}{o:Obj}{es ep}(x:Yz knd h ks a)(ho:h.get? d=some o)(hd:o.data=.dict es ep)(hs:Heap.SameBut d h h'):Yz knd h' ks a:=by
 obtain⟨o',n,p,q,ho',hc,hd',h1,h2⟩:=x
 have hne:a≠d:=fun z=>by
  subst z;cases Option.some.inj (ho'.symm.trans ho);rw[hd]at hd';exact nomatch hd'
 exact⟨o',n,p,q,(hs.2 a hne).trans ho',hc,hd',h1.keeps ho hd hs,h2.keeps ho hd hs⟩
def K4 (knd:KeyKind prog w K)(ks:List K×List K):Int:=reduceHash (Builtin.Tuple.tupleHashOf [tupleKeyHash knd ks.1,tupleKeyHash knd ks.2])
variable {A:Around}{E:Qb}{s:Shared}
def ZfZ {ks:List K×List K}{a:Addr}{Q:Int->Shared->Prop}(hu:A.units+5<cLine)(hk:Yz knd s.heap ks a)(h:Q (K4 knd ks) { s with toks:=s.toks+(ks.1.length+ks.2.length+3) }) :
 wpAny (model prog w) A (pyHash (.ref a)) Q E s:=by
 have hT:=hk.typeIs;obtain⟨o,n,p,q,ho,_,hd,h1,h2⟩:=hk;unfold pyHash pyHashByItsType;refine Xd (wpAny_cRoomFor_or (.inr (by omega)) ?_);refine Xd (wpAny_specialOf hT F.slot_tuple_hash.lookup ?_);show wpAny _ _ (if (some (Value.builtin "tuple.__hash__")==some Value.none)=true then _ else _) Q E s;rw[Xa (by rw[beq_builtin_none];exact Xp)];refine Xd (wpAny_specialOf hT F.slot_tuple_hash.lookup ?_);show wpAny _ _ (callSpecialIfBoundUnlessNone? (.ref a) "__hash__" _ >>= _) Q E s;refine Xd (wpAny_callSpecialIfBoundUnlessNone?_slot hT F.slot_tuple_hash (wpAny_call_entry F.slot_tuple_hash hT F.entry_tuple_hash ?_ (F.args_tuple_hash_1 _)));show wpAny _ _ (Builtin.Tuple.tupleItemsOf (.ref a) >>= _) _ _ s;refine Xd (wpAny_tupleItemsOf ho hd ?_);refine Xd ?_
 rw[<- Array.forIn_toList];refine wpAny_forIn_list _
  (fun rest (b:Array Int) s'=>(rest=[.ref p,.ref q]/\b.toList=[]/\s'=s)\/(rest=[.ref q]/\b.toList=[tupleKeyHash knd ks.1]/\s'={ s with toks:=s.toks+(ks.1.length+1) }) \/
   (rest=[]/\b.toList=[tupleKeyHash knd ks.1,tupleKeyHash knd ks.2]/\s'={ s with toks:=s.toks+(ks.1.length+1)+(ks.2.length+1) }))
  _ ?_ ?_ _ _ (.inl ⟨rfl,rfl,rfl⟩)
 ·rintro x rest b s' (⟨hr,hb,rfl⟩|⟨hr,hb,rfl⟩|⟨hr,_⟩)
  ·injection hr with e1 e2
   subst e1 e2;refine Xd (wpAny_pyHash_tuple ?hu1 h1 ?_)
   case hu1=>show A.units+1<cLine;omega
   exact Xu (.inr (.inl ⟨rfl,by simp[hb],rfl⟩))
  ·injection hr with e1 e2
   subst e1 e2;refine Xd (wpAny_pyHash_tuple ?hu2 h2 ?_)
   case hu2=>show A.units+1<cLine;omega
   exact Xu (.inr (.inr ⟨rfl,by simp[hb],rfl⟩))
  ·cases hr
 ·rintro b s' (⟨hr,_⟩|⟨hr,_⟩|⟨_,hb,rfl⟩)
  ·cases hr
  ·cases hr
  show wpAny _ _ (retInt (Builtin.Tuple.tupleHashOf b.toList)) _ _ _;rw[hb];refine wpAny_ret_mkInt ?_;show wpAny _ _ (if (decide (-(2:Int)^63<=Builtin.Tuple.tupleHashOf [tupleKeyHash knd ks.1,tupleKeyHash knd ks.2])&&decide (Builtin.Tuple.tupleHashOf [tupleKeyHash knd ks.1,tupleKeyHash knd ks.2]<2^63))=true then _ else _) Q E _;unfold K4 reduceHash at h;have et:s.toks+(ks.1.length+ks.2.length+3)=s.toks+(ks.1.length+1)+(ks.2.length+1)+1:=by omega
  rw[et]at h;split
  ·rename_i hr
   rw[Xb hr]at h;exact Xu h
  ·rename_i hr
   rw[Xa hr]at h;exact Xd (wpAny_rule (Xu h))
def ZiW {x y:List K×List K}{a b:Addr}{P:Fin->Shared->Prop}(hu:A.units+1<cLine)(hx:Yz knd s.heap x a)(hy:Yz knd s.heap y b)(h:P (.done (.ret (.bool (decide (x=y))))) s) :
 wpAny (model prog w) A (Builtin.«tuple.__eq__» ⟨[.ref a,.ref b],[]⟩) P E s:=by
 have hTb:=hy.typeIs;obtain⟨oa,na,p,q,hoa,_,hda,ha1,ha2⟩:=hx;obtain⟨ob,nb,p',q',hob,_,hdb,hb1,hb2⟩:=hy;show wpAny _ _ (isInstance (.ref b) (.type "tuple") >>= _) _ _ s;refine Xd (wpAny_isInstance hTb isSubtype_tuple_tuple ?_);simp only[Ga,X8,if_false];refine Xd (wpAny_tupleItemsOf hoa hda ?_);refine Xd (wpAny_tupleItemsOf hob hdb ?_);refine Xd ?_
 have e2:decide (x=y)=(decide (x.1=y.1)&&decide (x.2=y.2)):=by
  obtain⟨x1,x2⟩:=x;obtain⟨y1,y2⟩:=y
  simp
 refine wpAny_forIn_list _
  (fun rest r s'=>r.1=none/\s'=s/\((rest=[(.ref p,.ref p'),(.ref q,.ref q')])\/(rest=[(.ref q,.ref q')]/\x.1=y.1)\/(rest=[]/\x=y)))
  _ ?_ ?_ _ _ ⟨rfl,rfl,.inl rfl⟩
 ·rintro⟨u,v⟩ rest r s' ⟨hr,rfl,(hz|⟨hz,e1⟩|⟨hz,_⟩)⟩
  ·injection hz with z1 z2
   injection z1 with z3 z4;subst z2 z3 z4;refine Xd (wpAny_eqBool_tuple (by omega) ha1 hb1 ?_)
   by_cases hk:x.1=y.1
   ·rw[YZ hk]
    simp only[Ga,X8,if_false];exact Xu ⟨rfl,rfl,.inr (.inl ⟨trivial,hk⟩)⟩
   ·rw[XG hk]
    simp only[Bool.not_false,if_true];rw[e2,XG hk,Bool.false_and]at h;exact Xd (Xu (Xu (Xu h)))
  ·injection hz with z1 z2
   injection z1 with z3 z4;subst z2 z3 z4;refine Xd (wpAny_eqBool_tuple (by omega) ha2 hb2 ?_)
   by_cases hk:x.2=y.2
   ·rw[YZ hk]
    simp only[Ga,X8,if_false];exact Xu ⟨rfl,rfl,.inr (.inr ⟨trivial,Prod.ext e1 hk⟩)⟩
   ·rw[XG hk]
    simp only[Bool.not_false,if_true];rw[e2,XG hk,Bool.and_false]at h;exact Xd (Xu (Xu (Xu h)))
  ·cases hz
 ·rintro⟨r1,r2⟩ s' ⟨hr,rfl,(hz|⟨hz,_⟩|⟨_,e⟩)⟩
  ·cases hz
  ·cases hz
  simp only at hr
  subst hr;refine Xu ?_;rw[YZ e]at h;exact h
def ZfU {x y:List K×List K}{a b:Addr}{Q:Bool->Shared->Prop}(hu:A.units+5<cLine)(hx:Yz knd s.heap x a)(hy:Yz knd s.heap y b)(h:Q (decide (x=y)) s) :
 wpAny (model prog w) A (eqBool (.ref a) (.ref b)) Q E s:=by
 unfold eqBool;try with_reducible refine wpAny_holding ?_;show wpAny _ _ (if (Value.ref a==Value.ref b)=true then _ else _) Q E s
 by_cases hab:(Value.ref a==Value.ref b)=true
 ·rw[Xb hab]
  have e:a=b:=by have:=eq_of_beq hab;injection this
  subst e;cases hx.inj hy;exact Xd (wpAny_rule (Xu (by simpa using h)))
 ·rw[Xa hab]
  exact Xd (wpAny_richCompare_same_room (op:=.Eq) hx.typeIs hy.typeIs F.slot_tuple_eq
   (wpAny_call_entry F.slot_tuple_eq hx.typeIs F.entry_tuple_eq (ZiW (by show _+1<cLine;simp;omega) hx hy ⟨_,rfl,(fun e=>nomatch e),wpAny_truthy_bool h⟩) (F.args_tuple_eq_2 _ _)) (by omega))
def ZkN (n:Nat){ks:List K}{a:Addr}{Q:Bool->Shared->Prop}(hk:IsTupleKey knd s.heap ks a)(h:Q true s):wpAny (model prog w) A (eqIsQuiet (n+1) (.ref a)) Q E s:=by
 have hT:=hk.typeIs;obtain⟨o,items,m,ho,_,hd,hi⟩:=hk;unfold eqIsQuiet;refine Xd (wpAny_specialOf hT F.slot_tuple_eq.lookup ?_);show wpAny _ _ (isInstance (.ref a) (.type "tuple") >>= _) _ _ s;refine Xd (wpAny_isInstance hT isSubtype_tuple_tuple ?_);simp only[Ga,X8,if_false];refine Xd (Ut ho hd ?_);refine Xd ?_;show wpAny _ _ (forIn items _ _) _ _ s;rw[<- Array.forIn_toList];refine wpAny_forIn_list _ (fun rest r s'=>r.1=none/\s'=s/\∀v∈rest,carriedByValue v=true) _ ?_ ?_ _ _ ⟨rfl,rfl,hi.byValue⟩
 ·rintro v rest r s' ⟨hr,rfl,hall⟩
  rw[eqIsQuiet_byValue _ (hall v Xc)];refine Xd (Xu ?_);simp only[Ga,X8,if_false];exact Xu ⟨rfl,rfl,fun u hu'=>hall u (Xf _ hu')⟩
 ·rintro⟨r1,r2⟩ s' ⟨hr,rfl,_⟩
  simp only at hr
  subst hr;exact Xu h
def ZeJ {ks:List K×List K}{a:Addr}{Q:Bool->Shared->Prop}(hk:Yz knd s.heap ks a)(h:Q true s):wpAny (model prog w) A (eqIsQuiet 8 (.ref a)) Q E s:=by
 have hT:=hk.typeIs;obtain⟨o,n,p,q,ho,_,hd,h1,h2⟩:=hk;unfold eqIsQuiet;refine Xd (wpAny_specialOf hT F.slot_tuple_eq.lookup ?_);show wpAny _ _ (isInstance (.ref a) (.type "tuple") >>= _) _ _ s;refine Xd (wpAny_isInstance hT isSubtype_tuple_tuple ?_);simp only[Ga,X8,if_false];refine Xd (Ut ho hd ?_);refine Xd ?_;show wpAny _ _ (forIn #[Value.ref p,Value.ref q] _ _) _ _ s;rw[<- Array.forIn_toList];refine wpAny_forIn_list _ (fun rest r s'=>r.1=none/\s'=s/\∀v∈rest,∃z zs,v=.ref z/\IsTupleKey knd s.heap zs z) _ ?_ ?_ _ _ ⟨rfl,rfl,fun v hv=>?_⟩
 ·rintro v rest r s' ⟨hr,rfl,hall⟩
  obtain⟨z,zs,rfl,hz⟩:=hall v Xc;refine Xd (ZkN 6 hz ?_);simp only[Ga,X8,if_false];exact Xu ⟨rfl,rfl,fun u hu'=>hall u (Xf _ hu')⟩
 ·rintro⟨r1,r2⟩ s' ⟨hr,rfl,_⟩
  simp only at hr
  subst hr;exact Xu h
 ·rcases Xg.mp hv with rfl|hv
  ·exact⟨p,_,rfl,h1⟩
  ·rcases Xg.mp hv with rfl|hv
   ·exact⟨q,_,rfl,h2⟩
   ·cases hv
end
def KE {prog:Program}{w:World}{K:Type} [DecidableEq K] (knd:KeyKind prog w K):HeapKind prog w (List K×List K) where
 is:=Yz knd
 hash:=K4 knd
 draws:=fun ks=>ks.1.length+ks.2.length+3
 room:=fun A=>A.units+5<cLine
 inj:=fun hx hy=>hx.inj hy
 keeps:=fun x ho hd hs=>x.keeps ho hd hs
 pyHash:=fun hu hk h=>ZfZ hu hk h
 eqBool:=fun hu hx hy h=>ZfU hu hx hy h
 quiet:=fun hk h=>ZeJ hk h
section
variable {prog:Program}{w:World}{K:Type} [DecidableEq K] {knd:HeapKind prog w K}{A:Around}{E:Qb}{s:Shared}
def Zd8 {d a:Addr}{xs:List (K×Addr×Value)}{k:K}{dflt:Value}{Q:Qb}(hu:knd.room A)(hkey:knd.is s.heap k a)(hm:s.heap.DictOfH knd d xs)
 (hthere:∀p,atKey xs k=some p->Q p.2 { s with toks:=s.toks+knd.draws k })
 (hnew:atKey xs k=none->∀h',h'.DictOfH knd d (xs++[(k,a,dflt)])->Heap.SameBut d s.heap h'->Q dflt { s with heap:=h',toks:=s.toks+knd.draws k })
 (hsz:xs.length<=sizeLine) :
 wpAny (model prog w) A (dictSetDefault d (.ref a) dflt) Q E s:=by
 obtain⟨o,es,ep,ho,hc,hd,he,his,hn⟩:=hm;unfold dictSetDefault;try with_reducible refine wpAny_holding ?_;refine Xd (knd.pyHash hu hkey ?_);refine Xd (wpAny_dictFind_heap (s:={ s with toks:=s.toks+knd.draws k }) hu hkey ho hd he his hn ?_ ?_)
 ·intro hno
  have hnot:k∉xs.map (·.1):=not_mem_keys_of_get hno
  refine Xd (wpAny_rule (Xd (wpAny_updateDictKeys (hz:=by have e:=size_of_entries he;omega) (s:={ s with toks:=s.toks+knd.draws k }) ho hd (Xu (hnew (atKey_none_of_get hno) _ ⟨_,_,ep+1,Heap.get?_update_self _ ho (Obj.isFreed_of_dict (Obj.data_mapDictKeys hd _)),
   hc.mapDictKeys _,Obj.data_mapDictKeys hd _,?_,?_,?_⟩ (Heap.SameBut.update ..))))))
  ·simp[he,entryOfKey]
  ·intro x hx
   rcases XC.mp hx with hx|hx
   ·exact knd.keeps (his x hx) ho hd (Heap.SameBut.update ..)
   ·simp only[Xk]at hx
    subst hx;exact knd.keeps hkey ho hd (Heap.SameBut.update ..)
  ·rw[XE,GU]
   refine⟨hn,by simp,?_⟩;intro x hx y hy;simp only[Xs,JJ,Xk]at hy;subst hy;exact fun e=>hnot (e▸hx)
 ·intro j p hj
  refine Xd (wpAny_dictEntries (s:={ s with toks:=s.toks+knd.draws k }) ho hd ?_);rw[entry_at he j,hj];exact Xd (wpAny_rule (Xu (hthere _ (atKey_of_get hn hj))))
def Zel (knd:HeapKind prog w K)(d a:Addr)(hd:(d==sysModules)=false)(dflt:Value) :
 MeetsIn prog w (Builtin.«dict.setdefault» ⟨[.ref d,.ref a,dflt],[]⟩) (fun A R s=>knd.room A.in1/\∃k xs,knd.is s.heap k a/\s.heap.DictOfH knd d xs/\xs.length<=sizeLine /\
  (∀p,atKey xs k=some p->R (.ok (.ret p.2)) { s with toks:=s.toks+knd.draws k }) /\
  (atKey xs k=none->∀h',h'.DictOfH knd d (xs++[(k,a,dflt)])->Heap.SameBut d s.heap h'->R (.ok (.ret dflt)) { s with heap:=h',toks:=s.toks+knd.draws k })) :=
 .of_wp fun A R s ⟨hu,k,xs,hkey,hm,hz,h1,h2⟩=>by
  unfold Builtin.«dict.setdefault»;refine Xd ?_;unfold Builtin.Dict.keyAndDefault;refine Xd (wpAny_notOrdered_dict hm.typeIs ?_);show wpAny _ _ (pure (d,Value.ref a,some dflt)) _ _ s;refine Xu ?_;show wpAny _ _ (if (d==sysModules)=true then _ else (dictSetDefault d (.ref a) dflt >>= _)) _ _ s;rw[Xa (by rw[hd];exact Xp)];exact Xd (Zd8 hu hkey hm (fun p hp=>Xu ⟨p.2,rfl,h1 p hp⟩) (fun hn h' hm' hs'=>Xu ⟨dflt,rfl,h2 hn h' hm' hs'⟩) hz)
end
end PySem
def Ba:1<=1000:=by decide
def U1:2<=1000:=by decide
namespace My
end My
namespace L2
open PySem
theorem Zu.keep {F H H':Hp}:∀{as:Qg} {dss:List (Qd)},(∀b∈as,H' b=H b)->Zu F H as dss->Zu F H' as dss
 |[],[],_,_=>trivial
 |a::as,_::_,h,o=>by
   obtain⟨⟨h1,xs,h2,h3⟩,o2⟩:=o
   exact⟨⟨h1,xs,by rw[h a Xc];exact h2,h3⟩,Zu.keep (fun b hb=>h b (Xf _ hb)) o2⟩
 |[],_::_,_,h=>False.elim h
 |_::_,[],_,h=>False.elim h
def Z6.keep {K:W.Frag}{F H H':Hp}{v:V}{t:OT}{p:Qg}(k:∀b∈p,H' b=H b)(h:Z6 K F H v t p):Z6 K F H' v t p:=by
 cases t with
 |fz d=>exact h
 |zow Ψ=>exact h
 |ol ds =>
   obtain⟨a,rfl,rfl,h1,xs,h2,h3⟩:=h
   exact⟨a,rfl,rfl,h1,xs,by rw[k a Xc];exact h2,h3⟩
 |oll dss =>
   obtain⟨a,as,rfl,rfl,h1,h2,h3,h4⟩:=h
   exact⟨a,as,rfl,rfl,h1,h2,by rw[k a Xc];exact h3,h4.keep fun b hb=>k b (Xf _ hb)⟩
 |scr ns=>exact h
 |own v0 Φ =>
   obtain⟨h1,h2⟩:=h
   exact⟨h1,Φ.mono (QN.refl _) (fun a ha=>(Φ.there h2 a ha).1) k h2⟩
def QY.writeOwn {K:W.Frag}{H0 F H:Hp}{ρ:QL}{σ:St}{i:Nat}{v:V}{Φ:OwnP}(s:QY K H0 F ρ σ H)(e:ρ[i]?=some (some (.own v Φ))) :
 σ[i]?=some (some v)/\∃p,Φ.ok K F H v p/\(∀a∈p,H0 a=none/\F a=none/\H a≠none) /\
  ∀(H':Hp) (Φ':OwnP) (p':Qg),QN F H'->(∀b,b∉p->H b≠none->H' b=H b)->(∀b,H b≠none->H' b≠none)->Φ'.ok K F H' v p'->(∀a∈p',a∈p\/(H a=none/\H0 a=none)) ->
   QY K H0 F (ρ.set i (some (.own v Φ'))) σ H':=by
 obtain⟨kt,h1,h2,fp,h3,h4,h5⟩:=s;obtain⟨u,e1,rfl,e2⟩:=h3 i _ e;refine⟨e1,fp i,e2,fun a ha=>⟨(h5 i a ha).1,(Φ.there e2 a ha).1,(h5 i a ha).2⟩,fun H' Φ' p' sm kp st ok sub=>?_⟩;have hlt:=(Xe.mp e).1;refine⟨kt,sm,by simp[h2],fun j=>if j=i then p' else fp j,fun j t' e'=>?_,fun j k a ha hb=>?_,fun j a ha=>?_⟩
 ·by_cases hj:j=i
  ·subst hj
   rw[XL hlt]at e';cases e';refine⟨_,e1,rfl,?_⟩;simp only[if_true];exact ok
  ·rw[XT (Ne.symm hj)]at e'
   obtain⟨u',f1,f2⟩:=h3 j t' e';refine⟨u',f1,?_⟩;simp only[Xa hj];exact f2.keep fun b hb=>kp b (fun z=>hj (h4 j i b hb z)) (h5 j b hb).2
 ·by_cases hj:j=i
  ·by_cases hk:k=i
   ·omega
   ·simp only[Xb hj]at ha
    simp only[Xa hk]at hb;rcases sub a ha with z|z
    ·exact Xi (h4 k i a hb z) hk
    ·exact Xi z.1 (h5 k a hb).2
  ·simp only[Xa hj]at ha
   by_cases hk:k=i
   ·simp only[Xb hk]at hb
    rcases sub a hb with z|z
    ·exact Xi (h4 j i a ha z) hj
    ·exact Xi z.1 (h5 j a ha).2
   ·simp only[Xa hk]at hb
    exact h4 j k a ha hb
 ·by_cases hj:j=i
  ·simp only[Xb hj]at ha
   rcases sub a ha with z|z
   ·exact⟨(h5 i a z).1,st a (h5 i a z).2⟩
   ·exact⟨z.2,(Φ'.there ok a ha).2⟩
  ·simp only[Xa hj]at ha
   exact⟨(h5 j a ha).1,st a (h5 j a ha).2⟩
def Bc:Key->PyData
 |.inl i=>.int i
 |.inr x=>.str x
def Zb (k:List Key):PyData:=.tuple (k.map Bc)
def K6 {F:Hp}{y:V}{k:Key}(r:Rep F y (Bc k)):y=kV k:=by
 cases k with
 |inl i=>cases r;rfl
 |inr x=>cases r;rfl
theorem PR {F:Hp}:∀{ys:List V} {k:List Key},Q0 F ys (k.map Bc)->ys=k.map kV
 |_,[],.nil=>rfl
 |_,k::ks,.cons r rs=>by rw[K6 r,PR rs];rfl
def WW {F:Hp}{y:V}{k:List Key}(r:Rep F y (Zb k)):∃b,y=.ref b/\F b=some (.tup (k.map kV)):=by
 unfold Zb at r;cases r with
 |tup h rs=>exact⟨_,rfl,by rw[h,PR rs]⟩
abbrev Vj:=List (List Key×PyData)
def VZ (kvs:Vj)(k:List Key):Option PyData:=(kvs.find? fun kv=>decide (kv.1=k)).map (·.2)
def Gj (kvs:Vj)(k:List Key)(d:PyData):Vj:=if (kvs.any fun kv=>decide (kv.1=k))=true then kvs.map (fun kv=>if kv.1=k then (kv.1,d) else kv) else kvs++[(k,d)]
inductive PairD (F:Hp):List (List Key×V)->Vj->Prop
 |nil:PairD F [] []
 |cons {k:List Key} {x:V} {d:PyData} {xs:List (List Key×V)} {kvs:Vj}:Rep F x d->PairD F xs kvs->PairD F ((k,x)::xs) ((k,d)::kvs)
theorem PairD.mono {F F':Hp}(s:QN F F'):∀{xs:List (List Key×V)} {kvs:Vj},PairD F xs kvs->PairD F' xs kvs
 |_,_,.nil=>.nil
 |_,_,.cons r t=>.cons (r.mono s) (t.mono s)
theorem PairD.length {F:Hp}:∀{xs:List (List Key×V)} {kvs:Vj},PairD F xs kvs->xs.length=kvs.length
 |_,_,.nil=>rfl
 |_,_,.cons _ t=>by simp[t.length]
theorem PairD.val {F:Hp}(k:List Key):∀{xs:List (List Key×V)} {kvs:Vj},PairD F xs kvs->(Z4 xs k=none/\VZ kvs k=none)\/∃x d,Z4 xs k=some x/\VZ kvs k=some d/\Rep F x d
 |_,_,.nil=>.inl ⟨rfl,rfl⟩
 |_,_,.cons (k:=k') (x:=x) (d:=d) (xs:=xs) (kvs:=kvs) r t=>by
   by_cases e:k'=k
   ·exact .inr ⟨x,d,Wq e,by simp[VZ,XA,e],r⟩
   ·have q:VZ ((k',d)::kvs) k=VZ kvs k:=by simp[VZ,XA,e]
    rw[Wo (p:=(k',x)) e,q];exact t.val k
theorem PairD.any {F:Hp}(k:List Key):∀{xs:List (List Key×V)} {kvs:Vj},PairD F xs kvs->(xs.any fun kv=>decide (kv.1=k))=(kvs.any fun kv=>decide (kv.1=k))
 |_,_,.nil=>rfl
 |_,_,.cons _ t=>by simp[t.any k]
theorem PairD.mapP {F:Hp}(k:List Key){y:V}{d:PyData}(r:Rep F y d):∀{xs:List (List Key×V)} {kvs:Vj},PairD F xs kvs->PairD F (xs.map fun kv=>if kv.1=k then (kv.1,y) else kv) (kvs.map fun kv=>if kv.1=k then (kv.1,d) else kv)
 |_,_,.nil=>.nil
 |_,_,.cons (k:=k') r' t=>by
   rw[Xs,Xs];by_cases e:k'=k
   ·simp only[e,if_true]
    exact .cons r (t.mapP k r)
   ·simp only[e,if_false]
    exact .cons r' (t.mapP k r)
theorem PairD.snoc {F:Hp}(k:List Key){y:V}{d:PyData}(r:Rep F y d):∀{xs:List (List Key×V)} {kvs:Vj},PairD F xs kvs->PairD F (xs++[(k,y)]) (kvs++[(k,d)])
 |_,_,.nil=>.cons r .nil
 |_,_,.cons r' t=>.cons r' (t.snoc k r)
def PairD.put {F:Hp}(k:List Key){y:V}{d:PyData}(r:Rep F y d){xs:List (List Key×V)}{kvs:Vj}(t:PairD F xs kvs):PairD F (Yb xs k y) (Gj kvs k d):=by
 unfold Yb Gj;rw[t.any k];split
 ·exact t.mapP k r
 ·exact t.snoc k r
def V9 (kvs:Vj):OwnP where
 ok K F H v p := ∃a xs,v=.ref a/\p=[a]/\F a=none/\H a=some (.dT xs)/\PairD F xs kvs
 there:=by
  rintro K F H v p ⟨a,xs,rfl,rfl,h1,h2,h3⟩ b hb
  cases Xk.mp hb
  exact⟨h1,Vy h2⟩
 mono:=by
  rintro K F F' H H' v p s hF hH ⟨a,xs,rfl,rfl,h1,h2,h3⟩
  exact⟨a,xs,rfl,rfl,hF a Xc,by rw[hH a Xc];exact h2,h3.mono s⟩
 uniq:=by
  rintro K F H v p q ⟨a,xs,rfl,rfl,_⟩ ⟨b,ys,e,rfl,_⟩ c hc
  cases e
  exact hc
section
variable {K:W.Frag}{ρ:QL}{te ty tv:TE}{D:PEnds}{i:Nat}{v:V}{kvs:Vj}{k:List Key}{d:PyData}
def QY.dct {H0 F H:Hp}{σ:St}(S:QY K H0 F ρ σ H)(e:ρ[i]?=some (some (.own v (V9 kvs)))) :
 ∃a xs,v=.ref a/\σ[i]?=some (some (.ref a))/\F a=none/\H0 a=none/\H a=some (.dT xs)/\PairD F xs kvs:=by
 obtain⟨e1,p,⟨a,xs,rfl,rfl,h1,h2,h3⟩,hp,_⟩:=S.writeOwn e
 exact⟨a,xs,rfl,e1,h1,(hp a Xc).1,h2,h3⟩
def Nz {F:Hp}{xs:List (List Key×V)}(t:PairD F xs kvs):(Z4 xs k).isSome=(VZ kvs k).isSome:=by
 rcases t.val k with ⟨z1,z2⟩|⟨x,d',z1,z2,_⟩<;>rw[z1,z2]<;>rfl
def Cp (hy:Qs K ty ρ (Zb k))(e:ρ[i]?=some (some (.own v (V9 kvs)))):Qs K (Hn ty (Za i)) ρ (.bool (VZ kvs k).isSome):=fun H0 F σ H Q S q =>
 hy H0 F σ H _ S fun F1 H1 y x1 r1=>by
  obtain⟨a,xs,rfl,e1,_,_,f2,f3⟩:=(S.ext x1).dct e;obtain⟨b,rfl,hb⟩:=WW r1
  exact⟨_,e1,a,_,rfl,V4.t f2 (x1.fh _ _ hb),q F1 H1 _ x1 (by rw[Nz f3];exact .bl _)⟩
def O4 (hy:Qs K ty ρ (Zb k))(e:ρ[i]?=some (some (.own v (V9 kvs)))):Qs K (S5 ty (Za i)) ρ (.bool (!(VZ kvs k).isSome)):=fun H0 F σ H Q S q =>
 hy H0 F σ H _ S fun F1 H1 y x1 r1=>by
  obtain⟨a,xs,rfl,e1,_,_,f2,f3⟩:=(S.ext x1).dct e;obtain⟨b,rfl,hb⟩:=WW r1
  exact⟨_,e1,a,_,rfl,V4.t f2 (x1.fh _ _ hb),q F1 H1 _ x1 (by rw[Nz f3];exact .bl _)⟩
def EN (e:ρ[i]?=some (some (.own v (V9 kvs))))(hv:Qs K tv ρ d)(hy:Qs K ty ρ (Zb k))(hz:kvs.length<sizeLine)(hn:D.nx (ρ.set i (some (.own v (V9 (Gj kvs k d)))))):Q9 K (HD (Za i) ty tv) ρ D:=fun F0 H0 F σ H E x S C =>
 hv H0 F σ H _ S fun F1 H1 u x1 r1=>by
  obtain⟨a,xs,rfl,e1,_⟩:=(S.ext x1).dct e;refine⟨_,e1,hy H0 F1 σ H1 _ (S.ext x1) fun F2 H2 y x2 r2=>?_⟩;have S2:=S.ext (x1.trans x2);obtain⟨a',xs',ea,_,g1,g0,g2,g3⟩:=S2.dct e
  cases ea
  obtain⟨b,rfl,hb⟩:=WW r2;refine⟨a,_,rfl,JO.t g2 (x2.fh _ _ hb) (by rw[g3.length];exact hz),?_⟩;obtain⟨_,p,ok,hp,w⟩:=S2.writeOwn e;obtain⟨a'',xs'',ea,rfl,_,g4,_⟩:=ok
  cases ea
  refine C.nx F2 σ _ _ ((x.trans (x1.trans x2)).wr g0 g1) (w _ (V9 (Gj kvs k d)) [a] (S2.sub.upd g1) (fun c hc _=>Q7 fun z=>hc (by rw[z];exact Xc)) (fun c hc=>?_) ⟨a,_,rfl,rfl,g1,Zg,g3.put k (r1.mono x2.ff)⟩ (fun c hc=>.inl hc)) hn
  by_cases z:c=a
  ·subst z;rw[Zg];exact fun q=>nomatch q
  ·rw[Q7 z];exact hc
def EvX (K:W.Frag)(t:TE)(ρ:QL)(Φ:OwnP):Prop := ∀(H0 F:Hp) (σ:St) (H:Hp) (Q:VK),QY K H0 F ρ σ H->(∀F' H' v p,QM F H F' H'->(∀a∈p,H a=none)->Φ.ok K F' H' v p->Q v H')->t σ H Q
theorem Ph:∀{as bs:Qg},as.map V.ref=bs.map V.ref->as=bs
 |[],[],_=>rfl
 |a::as,b::bs,h=>by
   rw[Xs,Xs]at h;injection h with h1 h2
   cases h1
   rw[Ph h2]
 |[],_::_,h=>by cases h
 |_::_,[],h=>by cases h
def Te {F H:Hp}{w:V}{t:OT}{p q:Qg}(h:Z6 K F H w t p)(h':Z6 K F H w t q):∀b∈q,b∈p:=by
 cases t with
 |fz d=>rw[h'.1];intro b hb;cases hb
 |zow Ψ=>rw[h'.1];intro b hb;cases hb
 |ol ds =>
   obtain⟨b1,z1,z2,z3⟩:=h';obtain⟨b2,y1,y2,y3⟩:=h;rw[z1]at y1;cases y1;rw[z2,y2];exact fun _ z=>z
 |oll dss =>
   obtain⟨a,as,z1,z2,_,_,z3,_⟩:=h';obtain⟨b,bs,y1,y2,_,_,y3,_⟩:=h;rw[z1]at y1;cases y1;rw[z3]at y3;injection y3 with y4;injection y4 with y5;rw[z2,y2,Ph y5];exact fun _ z=>z
 |scr ns=>rw[h'.1];intro b hb;cases hb
 |own v0 Φ=>exact Φ.uniq h.2 h'.2
def S6 {Φ:OwnP}(h:EvX K te ρ Φ)(hn:∀v,D.nx (ρ.set i (some (.own v Φ)))):Q9 K (Wa te (Jq i)) ρ D:=fun F0 H0 F σ H E x S C =>
 h H0 F σ H _ S fun F' H' v p x' hp ok=>by
  refine C.nx F' _ H' _ (x.trans x') ((S.ext x').set (t:=.own v Φ) ⟨rfl,ok⟩ (fun a ha=>x.hh.free (hp a ha)) (hn:=fun a ha j w t' q e1 e2 ok'=>?_)) (hn v);obtain⟨fp,g1,g2,g3⟩:=S.fp;obtain⟨w',f1,f2⟩:=g1 j t' e1;intro hq;have f3:=f2.ext x';rw[e2]at f1;cases f1
  exact(g3 j a (Te (K:=K) f3 ok' a hq)).2 (hp a ha)
end
end L2
namespace Mir
open PySem
def Oy (e:Nat):Builtin.bitAnd (e:Int) 1=((e%2:Nat):Int):=by
 unfold Builtin.bitAnd;have h1:decide ((0:Int)<=(e:Int))=true:=YZ (by omega);have h2:decide ((0:Int)<=1)=true:=rfl;rw[h1,h2];show((((e:Int).toNat &&& (1:Int).toNat:Nat)):Int)=_;rw[Xl,show(1:Int).toNat=1 from rfl,Nat.and_one_is_mod]
def Fg (e:Nat):e ||| 1=e+1-e%2:=by
 apply Nat.eq_of_testBit_eq
 intro i;rw[Nat.testBit_or];have h2:e%2=0\/e%2=1:=by omega
 cases i with
 |zero =>
   rw[Nat.testBit_zero,Nat.testBit_zero,Nat.testBit_zero];have:(e+1-e%2)%2=1:=by omega
   rw[this];rcases h2 with h|h<;>rw[h]<;>rfl
 |succ i =>
   rw[Nat.testBit_succ,Nat.testBit_succ,Nat.testBit_succ];have:(e+1-e%2)/2=e/2:=by omega
   rw[this];simp
def Ip (e:Nat):Builtin.bitOr (e:Int) 1=((e+1-e%2:Nat):Int):=by
 unfold Builtin.bitOr;have a:Builtin.bitNot (e:Int) = -(e:Int)-1:=rfl;have b:Builtin.bitNot 1 = -2:=rfl
 have c:Builtin.bitAnd (Builtin.bitNot (e:Int)) (Builtin.bitNot 1)=Builtin.bitNot (((e ||| 1:Nat)):Int):=by
  rw[a,b];unfold Builtin.bitAnd;have h1:decide ((0:Int) <= -(e:Int)-1)=false:=XG (by omega);have h2:decide ((0:Int) <= -2)=false:=rfl;rw[h1,h2];show Builtin.bitNot ((((Builtin.bitNot (-(e:Int)-1)).toNat ||| (Builtin.bitNot (-2)).toNat:Nat)):Int)=_;have e1:(Builtin.bitNot (-(e:Int)-1)).toNat=e:=by show(-(-(e:Int)-1)-1).toNat=e;omega
  have e2:(Builtin.bitNot (-2)).toNat=1:=rfl;rw[e1,e2]
 rw[c,Fg];show -(-(((e+1-e%2:Nat)):Int)-1)-1=_;omega
def Ng (e:Nat):Builtin.bitXor (e:Int) 1=(Zf1 e:Int):=by
 unfold Builtin.bitXor;rw[Oy,Ip];unfold Zf1;split<;>omega
end Mir
namespace L2
open PySem PySem.Spec PyProof.Rows
abbrev KK:=List Key×List Key
def JM (P:Program)(w:World)(a:Addr)(xs:List (KK×Addr×V))(h:Heap):Prop:=xs.length<=sizeLine/\(a==sysModules)=false/\∃vs:List (KK×Addr×Value),
 Paired (fun(x:KK×Addr×V) (y:KK×Addr×Value)=>x.1=y.1/\x.2.1=y.2.1/\QR x.2.2 y.2.2) xs vs /\
 ∃o es ep,h.get? a=some o/\o.ExactDict/\o.data=.dict es ep/\es.toList=vs.map (entryOfKey (KE (Vx P w)))/\(vs.map (·.1)).Nodup
def pdO (P:Program)(w:World)(a:Addr)(xs:List (KK×Addr×V)):HO:=.ext (JM P w a xs)
def JM.move {P:Program}{w:World}{a:Addr}{xs:List (KK×Addr×V)}{h1 h2:Heap}(x:JM P w a xs h1)(k:∀o,h1.get? a=some o->h2.get? a=some o):JM P w a xs h2:=by
 obtain⟨z,y,vs,r,o,es,ep,e1,e2,e3,e4,e5⟩:=x
 exact⟨z,y,vs,r,o,es,ep,k _ e1,e2,e3,e4,e5⟩
def JM.ok {P:Program}{w:World}{a:Addr}{xs:List (KK×Addr×V)}{H:Hp}{h:Heap}(x:JM P w a xs h):ZR P w H h a (pdO P w a xs):=by
 refine⟨x,?_,fun h1 h2 y k=>y.move k⟩;obtain⟨z,y,vs,r,o,es,ep,e1,_⟩:=x
 exact⟨o,e1⟩
def Vw (H:Hp)(k:KK)(b:Addr):Prop := ∃p q,H b=some (.tup [.ref p,.ref q])/\H p=some (.tup (k.1.map kV))/\H q=some (.tup (k.2.map kV))
def Vw.mono {H H':Hp}(s:∀b ys,H b=some (.tup ys)->H' b=some (.tup ys)){k:KK}{b:Addr}(x:Vw H k b):Vw H' k b:=by
 obtain⟨p,q,h1,h2,h3⟩:=x
 exact⟨p,q,s _ _ h1,s _ _ h2,s _ _ h3⟩
section
variable {P:Program}{w:World}{H:Hp}{h:Heap}{a b:Addr}
def MW {k:KK}(ok:HOk P w H h)(x:Vw H k b):(KE (Vx P w)).is h k b:=by
 obtain⟨p,q,h1,h2,h3⟩:=x;obtain⟨_,its,r,o,e1,e2,n,e3⟩:=(show ZR P w H h b (.tup [.ref p,.ref q]) from ok b _ h1)
 cases r with
 |cons r1 r =>
   cases r with
   |cons r2 r =>
     cases r
     cases (show _=Value.ref p from r1)
     cases (show _=Value.ref q from r2)
     exact⟨o,n,p,q,e1,e2,e3,WR ok h2,WR ok h3⟩
def HB {xs:List (KK×Addr×V)}(ok:HOk P w H h)(e:H a=some (pdO P w a xs))(hk:∀x∈xs,Vw H x.1 x.2.1):xs.length<=sizeLine/\(a==sysModules)=false/\∃vs,
 Paired (fun(x:KK×Addr×V) (y:KK×Addr×Value)=>x.1=y.1/\x.2.1=y.2.1/\QR x.2.2 y.2.2) xs vs/\h.DictOfH (KE (Vx P w)) a vs:=by
 obtain⟨⟨z,y,vs,r,o,es,ep,e1,e2,e3,e4,e5⟩,hst⟩:=(show ZR P w H h a (pdO P w a xs) from ok a _ e);refine⟨z,y,vs,r,o,es,ep,e1,e2,e3,e4,?_,e5⟩;clear e5 e4 z e hst;induction r with
 |nil=>intro x hx;exact nomatch hx
 |@cons p q ps qs hq t ih =>
   intro x hx;rcases Xg.mp hx with rfl|hx
   ·have:=MW ok (hk p Xc)
    rw[hq.1,hq.2.1]at this;exact this
   ·exact ih (fun z hz=>hk z (Xf _ hz)) x hx
end
def Yt (xs:List (KK×Addr×V))(k:KK):Option V:=(xs.find? fun x=>decide (x.1=k)).map (·.2.2)
abbrev RPD:=Paired (fun(x:KK×Addr×V) (y:KK×Addr×Value)=>x.1=y.1/\x.2.1=y.2.1/\QR x.2.2 y.2.2)
def RPD.val (k:KK){xs:List (KK×Addr×V)}{vs:List (KK×Addr×Value)}(r:RPD xs vs):Vm (Yt xs k) ((atKey vs k).map (·.2)):=by
 induction r with
 |nil=>exact True.intro
 |@cons p q ps qs hq t ih =>
   by_cases e:p.1=k
   ·have e1:Yt (p::ps) k=some p.2.2:=by simp[Yt,XA,e]
    have e2:(atKey (q::qs) k).map (·.2)=some q.2.2:=by simp[atKey,XA,<- hq.1,e]
    rw[e1,e2];exact hq.2.2
   ·have e1:Yt (p::ps) k=Yt ps k:=by simp[Yt,XA,e]
    have e2:(atKey (q::qs) k).map (·.2)=(atKey qs k).map (·.2):=by simp[atKey,XA,<- hq.1,e]
    rw[e1,e2];exact ih
def JN (xs:List (KK×Addr×V))(k:KK)(b:Addr)(v:V):List (KK×Addr×V):=if (Yt xs k).isSome=true then xs.map (fun x=>if x.1=k then (x.1,x.2.1,v) else x) else xs++[(k,b,v)]
def RPD.repl (k:KK){v:V}{u:Value}(rv:QR v u){xs:List (KK×Addr×V)}{vs:List (KK×Addr×Value)}(r:RPD xs vs):RPD (xs.map fun x=>if x.1=k then (x.1,x.2.1,v) else x) (vs.map (putAt k u)):=by
 induction r with
 |nil=>exact .nil
 |@cons p q ps qs hq t ih =>
   rw[Xs,Xs];refine .cons ?_ ih;unfold putAt;by_cases e:p.1=k
   ·rw[Xb e,Xb (hq.1▸e)]
    exact⟨hq.1,hq.2.1,rv⟩
   ·rw[Xa e,Xa (hq.1▸e)]
    exact hq
theorem Vm.some_eq:∀{x:Option V} {y:Qf},Vm x y->x.isSome=y.isSome
 |none,none,_=>rfl
 |some _,some _,_=>rfl
 |none,some _,h=>by cases h
 |some _,none,h=>by cases h
def RPD.put (k:KK)(b:Addr){v:V}{u:Value}(rv:QR v u){xs:List (KK×Addr×V)}{vs:List (KK×Addr×Value)}(r:RPD xs vs):RPD (JN xs k b v) (storedH vs k b u):=by
 have e:=Vm.some_eq (r.val k);rw[Uo]at e;unfold JN storedH;rw[e];split
 ·exact r.repl k rv
 ·exact Paired.snoc r ⟨rfl,rfl,rv⟩
def Zkv (xs:List (KK×Addr×V))(k:KK)(b:Addr)(v:V):(JN xs k b v).length<=xs.length+1:=by
 unfold JN;split<;>simp
section
variable {X:Cx}{Xbo:Qc}{σ:St}{H:Hp}{s:Shared}{a b:Addr}{v:V}{r:Value}{A:Around}{E:Qb}{xs:List (KK×Addr×V)}{k:KK}
def IL {Q:Unit->Shared->Prop}(hu:A.units+6<cLine)(I:Qu X Xbo σ H s)(e:H a=some (pdO X.prog X.w a xs))(hk:∀x∈xs,Vw H x.1 x.2.1)(hb:Vw H k b)(l:xs.length<sizeLine)(rv:QR v r)
 (h:∀s',Qu X Xbo σ (upd H a (pdO X.prog X.w a (JN xs k b v))) s'->Q () s'):wpAny (model X.prog X.w) A (setItem (.ref a) (.ref b) r) Q E s:=by
 obtain⟨z,hd,vs,rel,dd⟩:=HB I.hok e hk;have hz:vs.length<=sizeLine:=by rw[<- Paired.length rel];exact z
 refine wpAny_setItem_heap (hsz:=hz) (show A.units+1+5<cLine by omega) (MW I.hok hb) dd fun h' dd' hs=>h _ ?_;obtain⟨q,es,ep,hq,h2,h3,h4,_,h5⟩:=dd';exact Bz I (by rw[e];exact True.intro) hs ⟨q,hq⟩ (JM.ok ⟨by have:=Zkv xs k b v;omega,hd,_,RPD.put k b rv rel,q,es,ep,hq,h2,h3,h4,h5⟩)
def Ez {Q:Qb}(hu:A.units+6<cLine)(I:Qu X Xbo σ H s)(e:H a=some (pdO X.prog X.w a xs))(hk:∀x∈xs,Vw H x.1 x.2.1)(hb:Vw H k b)(hv:Yt xs k=some v)
 (h:∀u s',Qu X Xbo σ H s'->QR v u->Q u s'):wpAny (model X.prog X.w) A (getItem (.ref a) (.ref b)) Q E s:=by
 obtain⟨z,hd,vs,rel,dd⟩:=HB I.hok e hk;have rr:=RPD.val k rel;rw[hv]at rr;cases ek:atKey vs k with
 |none=>rw[ek]at rr;cases rr
 |some p =>
   rw[ek]at rr;exact wpAny_getItem_heap (show A.units+1+5<cLine by omega) (MW I.hok hb) dd ek (h _ _ (I.tok _) rr)
def C0 {Q:Qb}(hu:A.units+6<cLine)(I:Qu X Xbo σ H s)(e:H a=some (pdO X.prog X.w a xs))(hk:∀x∈xs,Vw H x.1 x.2.1)(hb:Vw H k b)
 (h:∀s',Qu X Xbo σ H s'->Q (.bool (!(Yt xs k).isSome)) s'):wpAny (model X.prog X.w) A (compareOp .NotIn (.ref b) (.ref a)) Q E s:=by
 obtain⟨z,hd,vs,rel,dd⟩:=HB I.hok e hk;have rr:=Vm.some_eq (RPD.val k rel);rw[Uo]at rr;refine wpAny_notIn_heap (show A.units+1+5<cLine by omega) (MW I.hok hb) hd dd ?_;rw[<- rr];exact h _ (I.tok _)
end
section
variable {X:Cx}{Xbo:Qc}{σ:St}{H:Hp}{s:Shared}{a b:Addr}{d:V}{r:Value}{A:Around}{E:Qb}{kvs:List (List Key×V)}{k:List Key}
def EM {Q:Qb}(hu:A.units+1<cLine)(I:Qu X Xbo σ H s)(e:H a=some (.dT kvs))(eb:H b=some (.tup (k.map kV)))(l:kvs.length<sizeLine)(rd:QR d r)
 (h1:∀v u s',Z4 kvs k=some v->Qu X Xbo σ H s'->QR v u->Q u s') (h2:Z4 kvs k=none->∀s',Qu X Xbo σ (upd H a (.dT (kvs++[(k,d)]))) s'->Q r s') :
 wpAny (model X.prog X.w) A (call (.builtin "dict.setdefault") [.ref a,.ref b,r]) Q E s:=by
 obtain⟨z,hd,xs,rel,dd⟩:=Hu I.hok e;have hz:xs.length<=sizeLine:=by rw[<- Paired.length rel];exact z
 have rr:=rel.val k
 refine call_meetsIn PySem.F.slot_dict_setdefault dd.typeIs PySem.F.entry_dict_setdefault (PySem.F.args_dict_setdefault_3 _ _ _) (Zel (tupleKind (Vx X.prog X.w)) a b hd r)
  ⟨tupleKind_room_in1 hu,k,xs,WR I.hok eb,dd,hz,fun p hp=>?_,fun hn h' dd' hs=>?_⟩
 ·rw[hp]at rr
  cases ev:Z4 kvs k with
  |none=>rw[ev]at rr;cases rr
  |some v=>rw[ev]at rr;exact h1 v _ _ ev (I.tok _) rr
 ·have ev:Z4 kvs k=none:=by
   rw[hn]at rr;cases ev:Z4 kvs k with
   |none=>rfl
   |some v=>rw[ev]at rr;cases rr
  refine h2 ev _ ?_;obtain⟨q,es,ep,hq,g2,g3,g4,_,g5⟩:=dd';refine Bz I (by rw[e];exact True.intro) hs ⟨q,hq⟩ ⟨by simp;omega,hd,_,(show KT H (kvs++[(k,d)]) (xs++[(k,b,r)]) from Paired.snoc rel ⟨rfl,eb,rd⟩).keeps fun c ys ec=>?_,q,es,ep,hq,g2,g3,g4,g5⟩;rw[Q7 (fun z=>by subst z;rw[e]at ec;cases ec)];exact ec
end
def Sl (td ty tx:TE):TE:=fun σ H Q=>td σ H fun x H1=>∃a,x=.ref a/\IsD H1 a/\ty σ H1 fun y H2=>tx σ H2 fun z H3=>∃kvs k b,y=.ref b/\H3 a=some (.dT kvs)/\H3 b=some (.tup (k.map kV))/\kvs.length<sizeLine /\
 (∀v,Z4 kvs k=some v->Q v H3)/\(Z4 kvs k=none->Q z (upd H3 a (.dT (kvs++[(k,z)]))))
section
variable {X:Cx}{o e f value:Expr}{apos cpos pos pos':Pos}{td ty tx tv:TE}
def Aq (hu:X.A.units+1<cLine) (ho:PE X o td) (he:PE X e ty) (hf:PE X f tx) (m:M2 X o "setdefault" apos e f cpos):PE X (.Call (.Attribute o "setdefault" apos) [e,f] [] cpos) (Sl td ty tx):=by
 intro Xbo s σ H Q I h;refine wpAny_Call_method m.base m.few m.line PySem.F.plainAttrs_dict PySem.F.slot_dict_setdefault PySem.F.type_dict_setdefault (QI (ho Xbo s σ H _ I h) fun u s1 ⟨x,H1,I1,rx,a,ex,d,q1⟩=>?_);subst ex;obtain rfl:u=Value.ref a:=rx;obtain⟨t1,t2,_⟩:=RW I1 d;refine⟨t1,t2,?_⟩
 rw[m.trees];refine Calls.callWith_builtin rfl (Calls.evalArgs_plain (Calls.spliced_cons (QI (he Xbo s1 σ H1 _ I1 q1) fun iv s2 ⟨y,H2,I2,ry,q2⟩ =>
  Calls.spliced_cons (QI (hf Xbo s2 σ H2 _ I2 q2) fun fv s3 ⟨z,H3,I3,rz,kvs,k,b,ey,e1,e2,l,q3,q4⟩=>Calls.spliced_nil ?_))))
 subst ey;cases (show iv=Value.ref b from ry);exact EM hu I3 e1 e2 l rz (fun v u s' ev I4 rv=>⟨v,H3,I4,rv,q3 v ev⟩) (fun ev s' I4=>⟨z,_,I4,rz,q4 ev⟩)
def R1 (P:Program)(w:World)(td ty:TE):TE:=fun σ H Q=>td σ H fun x H1=>ty σ H1 fun y H2=>∃a b xs k v,x=.ref a/\y=.ref b/\H2 a=some (pdO P w a xs)/\(∀x∈xs,Vw H2 x.1 x.2.1)/\Vw H2 k b/\Yt xs k=some v/\Q v H2
def SM (P:Program)(w:World)(ty td:TE):TE:=fun σ H Q=>ty σ H fun y H1=>td σ H1 fun x H2=>∃a b xs k,x=.ref a/\y=.ref b/\H2 a=some (pdO P w a xs)/\(∀x∈xs,Vw H2 x.1 x.2.1)/\Vw H2 k b/\Q (.bl (!(Yt xs k).isSome)) H2
def R7 (P:Program)(w:World)(td ty tv:TE):TS:=fun D σ H=>tv σ H fun v H1=>td σ H1 fun x H2=>ty σ H2 fun y H3=>∃a b xs k,x=.ref a/\y=.ref b/\H3 a=some (pdO P w a xs)/\(∀x∈xs,Vw H3 x.1 x.2.1)/\Vw H3 k b/\xs.length<sizeLine /\
 D.nx σ (upd H3 a (pdO P w a (JN xs k b v)))
def Et {Xbo:Qc} {σ:St} {H:Hp} {s:Shared} {a:Addr} {xs:List (KK×Addr×V)} (I:Qu X Xbo σ H s) (e:H a=some (pdO X.prog X.w a xs)):s.TypeIs (.ref a) "dict" := by
 obtain⟨⟨_,_,vs,_,o,es,ep,e1,e2,_⟩,_⟩:=(show ZR X.prog X.w H s.heap a (pdO X.prog X.w a xs) from I.hok a _ e)
 exact⟨o,e1,e2.1⟩
def Ad (hu:X.A.units+6<cLine)(ho:PE X o td)(hi:PE X e ty)(hs:Hg e):PE X (.Subscript o e pos) (R1 X.prog X.w td ty):=by
 intro Xbo s σ H Q I h;refine S0 PySem.F.slot_dict_getitem.lookup hs (QI (ho Xbo s σ H _ I h) fun u s1 ⟨x,H1,I1,rx,q1⟩=>QI (hi Xbo s1 σ H1 _ I1 q1) fun iv s2 ⟨y,H2,I2,ry,a,b,xs,k,v,ex,ey,e1,e2,e3,e4,q2⟩=>?_);subst ex ey;obtain rfl:u=Value.ref a:=rx;obtain rfl:iv=Value.ref b:=ry
 exact⟨Et I2 e1,Ez hu I2 e1 e2 e3 e4 fun w' s3 I3 rw'=>⟨v,H2,I3,rw',q2⟩⟩
def IT (hu:X.A.units+6<cLine)(hi:PE X e ty)(ho:PE X o td):PC X .NotIn e o (SM X.prog X.w ty td):=by
 intro Xbo s σ H Q I h;refine QI (hi Xbo s σ H _ I h) fun iv s1 ⟨y,H1,I1,ry,q1⟩=>QI (ho Xbo s1 σ H1 _ I1 q1) fun u s2 ⟨x,H2,I2,rx,a,b,xs,k,ex,ey,e1,e2,e3,q2⟩=>?_;subst ex ey;obtain rfl:u=Value.ref a:=rx;obtain rfl:iv=Value.ref b:=ry;exact C0 hu I2 e1 e2 e3 fun s3 I3=>⟨.bl (!(Yt xs k).isSome),H2,I3,rfl,q2⟩
def FK (hu:X.A.units+6<cLine)(ho:PE X o td)(hi:PE X e ty)(hv:PE X value tv)(hs:swapsWith value (some (.Subscript o e pos')) pos.line X.env=pure false) :
 PS X (.Assign [.Subscript o e pos'] value pos) (R7 X.prog X.w td ty tv):=by
 intro Xbo s σ H D I h;refine wpAny_Assign_Subscript (QI (hv Xbo s σ H _ I h) fun r s1 ⟨v,H1,I1,rv,q1⟩=>QI (ho Xbo s1 σ H1 _ I1 q1) fun u s2 ⟨x,H2,I2,rx,q2⟩=>QI (hi Xbo s2 σ H2 _ I2 q2) fun iv s3 ⟨y,H3,I3,ry,a,b,xs,k,ex,ey,e1,e2,e3,l,q3⟩=>?_) hs;subst ex ey;obtain rfl:u=Value.ref a:=rx;obtain rfl:iv=Value.ref b:=ry;exact IL hu I3 e1 e2 e3 l rv fun s4 I4=>⟨σ,_,I4,q3⟩
end
def LT (P:Program)(w:World):TE:=fun _ H Q=>∀p,H p=none->Q (.ref p) (upd H p (pdO P w p []))
def Ec {X:Cx}{pos:Pos}:PE X (.Dict [] [] pos) (LT X.prog X.w):=fun Xbo s σ H Q I h =>
 wpAny_Dict_empty ⟨.ref s.heap.objs.size,_,I.laid (a:=s.heap.objs.size) (o:=pdO X.prog X.w s.heap.objs.size []) (t':=s.toks) (fun _ _ q=>Xo _ q) (Xx _)
  (JM.ok ⟨X4 _,beq_eq_false_iff_ne.mpr (Ne.symm (Xr I.big)),[],.nil,_,#[],0,XV _ rfl,⟨rfl,rfl,rfl⟩,rfl,rfl,Gc⟩),rfl,h _ (I.hok.fresh (Xx _))⟩
structure Q6 where
 ends:List (List Key)
 rooms:Ql
 leav:List (List Key×Ql)
 laid:List (KK×Int)
inductive LaidD (F:Hp):List (KK×Addr×V)->List (KK×Int)->Prop
 |nil:LaidD F [] []
 |cons {k:KK} {b:Addr} {n:Int} {xs:List (KK×Addr×V)} {ls:List (KK×Int)}:Vw F k b->LaidD F xs ls->LaidD F ((k,b,.int n)::xs) ((k,n)::ls)
theorem LaidD.mono {F F':Hp}(s:QN F F'):∀{xs:List (KK×Addr×V)} {ls:List (KK×Int)},LaidD F xs ls->LaidD F' xs ls
 |_,_,.nil=>.nil
 |_,_,.cons h t=>.cons (h.mono fun b ys e=>s _ _ e) (t.mono s)
theorem LaidD.at {F H:Hp}(s:QN F H):∀{xs:List (KK×Addr×V)} {ls:List (KK×Int)},LaidD F xs ls->∀x∈xs,Vw H x.1 x.2.1
 |_,_,.nil,x,hx=>nomatch hx
 |_,_,.cons h t,x,hx=>by
   rcases Xg.mp hx with rfl|hx
   ·exact h.mono fun b ys e=>s _ _ e
   ·exact t.at s x hx
inductive LeavD (F H:Hp):List (List Key×V)->List (List Key×Ql)->Qg->Prop
 |nil:LeavD F H [] [] []
 |cons {k:List Key} {a:Addr} {ns:Ql} {xs:List (List Key×V)} {ls:List (List Key×Ql)} {as:Qg}:VE F H a (ns.map PyData.int)->LeavD F H xs ls as->LeavD F H ((k,.ref a)::xs) ((k,ns)::ls) (a::as)
theorem LeavD.mem {F H:Hp}:∀{xs:List (List Key×V)} {ls:List (List Key×Ql)} {as:Qg},LeavD F H xs ls as->∀a∈as,F a=none/\H a≠none
 |_,_,_,.nil,a,ha=>nomatch ha
 |_,_,_,.cons h t,a,ha=>by
   rcases Xg.mp ha with rfl|ha
   ·obtain⟨h1,xs,h2,_⟩:=h
    exact⟨h1,Vy h2⟩
   ·exact t.mem a ha
theorem LeavD.mono {F F' H H':Hp}(s:QN F F'):∀{xs:List (List Key×V)} {ls:List (List Key×Ql)} {as:Qg},(∀a∈as,F' a=none)->(∀a∈as,H' a=H a)->LeavD F H xs ls as->LeavD F' H' xs ls as
 |_,_,_,_,_,.nil=>.nil
 |_,_,_,hF,hH,.cons h t=>by
   obtain⟨h1,xs,h2,h3⟩:=h;exact .cons ⟨hF _ Xc,xs,by rw[hH _ Xc];exact h2,h3.mono s⟩ (t.mono s (fun a ha=>hF a (Xf _ ha)) (fun a ha=>hH a (Xf _ ha)))
theorem LeavD.addrs {F F' H H':Hp}:∀{xs:List (List Key×V)} {ls ls':List (List Key×Ql)} {as bs:Qg},LeavD F H xs ls as->LeavD F' H' xs ls' bs->as=bs
 |_,_,_,_,_,.nil,.nil=>rfl
 |_,_,_,_,_,.cons _ t,.cons _ t'=>by rw[t.addrs t']
structure NetOk (P:Program)(w:World)(C:Addr)(N:Q6)(F H:Hp)(a dx e r l d:Addr)(xs:List (List Key×V))(ys:List (KK×Addr×V))(as:Qg):Prop where
 nd:(a::dx::e::r::l::d::as).Nodup
 ins:F a=none/\H a=some (.ins C dx [("ends",.ref e),("rooms",.ref r),("leaving",.ref l),("laid",.ref d)])
 own:F dx=none/\H dx=some (.own a)
 ends:VE F H e (N.ends.map Zb)
 rooms:VE F H r (N.rooms.map PyData.int)
 leav:F l=none/\H l=some (.dT xs)/\LeavD F H xs N.leav as
 laid:F d=none/\H d=some (pdO P w d ys)/\LaidD F ys N.laid
def Zm (P:Program)(w:World)(C:Addr)(N:Q6):OwnP where
 ok K F H v p := ∃a dx e r l d xs ys as,v=.ref a/\p=a::dx::e::r::l::d::as/\NetOk P w C N F H a dx e r l d xs ys as
 there:=by
  rintro K F H v p ⟨a,dx,e,r,l,d,xs,ys,as,rfl,rfl,o⟩ b hb
  obtain⟨_,⟨i1,i2⟩,⟨o1,o2⟩,⟨e1,ex,e2,_⟩,⟨r1,rx,r2,_⟩,⟨l1,l2,l3⟩,⟨d1,d2,_⟩⟩:=o;simp only[Xg]at hb;rcases hb with rfl|rfl|rfl|rfl|rfl|rfl|hb
  ·exact⟨i1,Vy i2⟩
  ·exact⟨o1,Vy o2⟩
  ·exact⟨e1,Vy e2⟩
  ·exact⟨r1,Vy r2⟩
  ·exact⟨l1,Vy l2⟩
  ·exact⟨d1,Vy d2⟩
  ·exact l3.mem b hb
 mono:=by
  rintro K F F' H H' v p s hF hH ⟨a,dx,e,r,l,d,xs,ys,as,rfl,rfl,o⟩
  obtain⟨nd,⟨i1,i2⟩,⟨o1,o2⟩,⟨e1,ex,e2,e3⟩,⟨r1,rx,r2,r3⟩,⟨l1,l2,l3⟩,⟨d1,d2,d3⟩⟩:=o
  refine⟨a,dx,e,r,l,d,xs,ys,as,rfl,rfl,nd,⟨hF _ (by simp),by rw[hH _ (by simp)];exact i2⟩,⟨hF _ (by simp),by rw[hH _ (by simp)];exact o2⟩,⟨hF _ (by simp),ex,by rw[hH _ (by simp)];exact e2,e3.mono s⟩,
   ⟨hF _ (by simp),rx,by rw[hH _ (by simp)];exact r2,r3.mono s⟩,⟨hF _ (by simp),by rw[hH _ (by simp)];exact l2,l3.mono s (fun b hb=>hF b (by simp[hb])) (fun b hb=>hH b (by simp[hb]))⟩,⟨hF _ (by simp),by rw[hH _ (by simp)];exact d2,d3.mono s⟩⟩
 uniq:=by
  rintro K F H v p q ⟨a,dx,e,r,l,d,xs,ys,as,rfl,rfl,o⟩ ⟨a',dx',e',r',l',d',xs',ys',as',ev,rfl,o'⟩ c hc
  cases ev
  have i:=o.ins.2.symm.trans o'.ins.2;injection i with i;injection i with _ i1 i2;subst i1;simp only[List.cons.injEq,Prod.mk.injEq,true_and,and_true,V.ref.injEq]at i2;obtain⟨rfl,rfl,rfl,rfl⟩:=i2;have j:=o.leav.2.1.symm.trans o'.leav.2.1;injection j with j;injection j with j;subst j;rw[o.leav.2.2.addrs o'.leav.2.2];exact hc
structure NetC (K:W.Frag)(C:Addr):Prop where
 cl:Cls K C
 ends:WO K C "ends"
 rooms:WO K C "rooms"
 leav:WO K C "leaving"
 laid:WO K C "laid"
section
variable {K:W.Frag}{ρ:QL}{tb te ty tx:TE}{D:PEnds}{i:Nat}{v:V}{P:Program}{w:World}{C:Addr}{N:Q6}
def QY.net {H0 F H:Hp}{σ:St}(S:QY K H0 F ρ σ H)(e:ρ[i]?=some (some (.own v (Zm P w C N)))) :
 ∃a dx el r l d xs ys as,v=.ref a/\σ[i]?=some (some (.ref a))/\NetOk P w C N F H a dx el r l d xs ys as/\(∀b∈a::dx::el::r::l::d::as,H0 b=none/\F b=none/\H b≠none) /\
  ∀(H':Hp) (N':Q6) (xs':List (List Key×V)) (ys':List (KK×Addr×V)) (as':Qg),QN F H'->(∀b,b∉a::dx::el::r::l::d::as->H b≠none->H' b=H b)->(∀b,H b≠none->H' b≠none) ->
   NetOk P w C N' F H' a dx el r l d xs' ys' as'->(∀b∈as',b∈as\/(H b=none/\H0 b=none))->QY K H0 F (ρ.set i (some (.own v (Zm P w C N')))) σ H':=by
 obtain⟨e1,p,⟨a,dx,el,r,l,d,xs,ys,as,rfl,rfl,ok⟩,hp,w'⟩:=S.writeOwn e;refine⟨a,dx,el,r,l,d,xs,ys,as,rfl,e1,ok,hp,fun H' N' xs' ys' as' h1 h2 h3 h4 h5=>w' H' _ _ h1 h2 h3 ⟨a,dx,el,r,l,d,xs',ys',as',rfl,rfl,h4⟩ fun b hb=>?_⟩;simp only[Xg]at hb ⊢;rcases hb with h|h|h|h|h|h|hb
 ·exact .inl (.inl h)
 ·exact .inl (.inr (.inl h))
 ·exact .inl (.inr (.inr (.inl h)))
 ·exact .inl (.inr (.inr (.inr (.inl h))))
 ·exact .inl (.inr (.inr (.inr (.inr (.inl h)))))
 ·exact .inl (.inr (.inr (.inr (.inr (.inr (.inl h))))))
 ·rcases h5 b hb with z|z
  ·exact .inl (.inr (.inr (.inr (.inr (.inr (.inr z))))))
  ·exact .inr z
def LeavD.other {F H:Hp}{b:Addr}{o:HO}{xs:List (List Key×V)}{ls:List (List Key×Ql)}{as:Qg}(h:LeavD F H xs ls as)(n:b∉as):LeavD F (upd H b o) xs ls as :=
 h.mono (QN.refl _) (fun a ha=>(h.mem a ha).1) (fun a ha=>Q7 fun z=>n (z▸ha))
def NetOk.setRooms {F H:Hp}{a dx el r l d:Addr}{xs:List (List Key×V)}{ys:List (KK×Addr×V)}{as:Qg}(ok:NetOk P w C N F H a dx el r l d xs ys as){ns:Ql}{zs:List V}(hr:Q0 F zs (ns.map PyData.int)) :
 NetOk P w C { N with rooms:=ns } F (upd H r (.lst zs)) a dx el r l d xs ys as:=by
 obtain⟨nd,⟨i1,i2⟩,⟨o1,o2⟩,⟨e1,ex,e2,e3⟩,⟨r1,rx,r2,r3⟩,⟨l1,l2,l3⟩,⟨d1,d2,d3⟩⟩:=ok;have nd':=nd;simp only[XN,Xg,not_or]at nd';obtain⟨⟨a1,a2,a3,_⟩,⟨b1,b2,_⟩,⟨c1,_⟩,⟨g1,g2,g3⟩,_⟩:=nd'
 exact⟨nd,⟨i1,by rw[Q7 a3];exact i2⟩,⟨o1,by rw[Q7 b2];exact o2⟩,⟨e1,ex,by rw[Q7 c1];exact e2,e3⟩,⟨r1,zs,Zg,hr⟩,⟨l1,by rw[Q7 (Ne.symm g1)];exact l2,l3.other g3⟩,⟨d1,by rw[Q7 (Ne.symm g2)];exact d2,d3⟩⟩
def Uk {H:Hp}{a:Addr}{o:HO}:∀b,H b≠none->upd H a o b≠none:=fun b hb=>by
 by_cases z:b=a
 ·subst z;rw[Zg];exact fun q=>nomatch q
 ·rw[Q7 z];exact hb
def Tt {f:Int->Int->Int}(c:NetC K C)(e:ρ[i]?=some (some (.own v (Zm P w C N)))){k m n:Int}(hi:Qs K tb ρ (.int k))(h0:0<=k)(hm:N.rooms[k.toNat]?=some m)(h:Qs K te ρ (.int n))
 (hn:D.nx (ρ.set i (some (.own v (Zm P w C { N with rooms:=N.rooms.set k.toNat (f m n) }))))):Q9 K (HK (YK K (Za i) "rooms") tb te (Hy K) (ipI f) Gr) ρ D:=fun F0 H0 F σ H E x S C'=>by
 obtain⟨a,dx,el,r,l,d,xs,ys,as,rfl,e1,ok,_⟩:=S.net e;refine⟨_,e1,a,C,dx,_,.ref r,rfl,ok.ins.2,c.cl,c.rooms,rfl,hi H0 F σ H _ S fun F1 H1 y x1 r1=>?_⟩
 cases r1
 obtain⟨_,rx,r2,r3⟩:=ok.rooms;have hm':(N.rooms.map PyData.int)[k.toNat]?=some (.int m):=by rw[Xj,hm];rfl
 obtain⟨z,z1,z2⟩:=(r3.mono x1.ff).get hm';refine⟨r,rx,k,z,rfl,rfl,SqL.of (x1.hh _ _ r2),h0,z1,h H0 F1 σ H1 _ (S.ext x1) fun F2 H2 u x2 r2'=>?_⟩
 cases r2'
 cases z2
 refine⟨m,n,rfl,rfl,?_⟩;obtain⟨a',dx',el',r',l',d',xs',ys',as',ea,g1,ok',hp,wr⟩:=(S.ext (x1.trans x2)).net e
 cases ea
 have hi2:=ok'.ins.2.symm.trans ((x1.trans x2).hh _ _ ok.ins.2);injection hi2 with hi2;injection hi2 with _ _ hi3;simp only[List.cons.injEq,Prod.mk.injEq,true_and,and_true,V.ref.injEq]at hi3;obtain⟨rfl,rfl,rfl,rfl⟩:=hi3;obtain⟨q1,qx,q2,q3⟩:=ok'.rooms;have hlt:k.toNat<N.rooms.length:=(Xe.mp hm).1
 have hr:Q0 F2 (qx.set k.toNat (.int (f m n))) ((N.rooms.set k.toNat (f m n)).map PyData.int):=by
  rw[List.map_set];exact q3.set (.int _) _
 refine⟨r',qx,k,k.toNat,rfl,rfl,q2,?_,?_⟩
 ·rw[q3.length,Xh]
  unfold ixN;rw[Xb h0,Xb (by omega)]
 ·have hr0:=hp r' (by simp)
  exact C'.nx F2 σ _ _ ((x.trans (x1.trans x2)).wr hr0.1 hr0.2.1) (wr _ { N with rooms:=N.rooms.set k.toNat (f m n) } xs' ys' as' ((S.ext (x1.trans x2)).sub.upd hr0.2.1) (fun b hb _=>Q7 fun z=>hb (by rw[z];simp)) Uk (ok'.setRooms hr) (fun b hb=>.inl hb)) hn
end
section
variable {K:W.Frag}{ρ:QL}{tb te ty tx:TE}{D:PEnds}{i:Nat}{v:V}{P:Program}{w:World}{C:Addr}{N:Q6}
def NetOk.same {N':Q6}{F H F' H':Hp}{a dx el r l d dx' el' r' l' d':Addr}{xs xs':List (List Key×V)}{ys ys':List (KK×Addr×V)}{as as':Qg}
 (ok:NetOk P w C N F H a dx el r l d xs ys as) (ok':NetOk P w C N' F' H' a dx' el' r' l' d' xs' ys' as') (s:H' a=H a):dx'=dx/\el'=el/\r'=r/\l'=l/\d'=d:=by
 have h:=ok'.ins.2;rw[s,ok.ins.2]at h;injection h with h;injection h with _ h1 h2;simp only[List.cons.injEq,Prod.mk.injEq,true_and,and_true,V.ref.injEq]at h2;obtain⟨z1,z2,z3,z4⟩:=h2
 exact⟨h1.symm,z1.symm,z2.symm,z3.symm,z4.symm⟩
def NetOk.setEnds {F H:Hp}{a dx el r l d:Addr}{xs:List (List Key×V)}{ys:List (KK×Addr×V)}{as:Qg}(ok:NetOk P w C N F H a dx el r l d xs ys as){ns:List (List Key)}{zs:List V}(hr:Q0 F zs (ns.map Zb)) :
 NetOk P w C { N with ends:=ns } F (upd H el (.lst zs)) a dx el r l d xs ys as:=by
 obtain⟨nd,⟨i1,i2⟩,⟨o1,o2⟩,⟨e1,ex,e2,e3⟩,⟨r1,rx,r2,r3⟩,⟨l1,l2,l3⟩,⟨d1,d2,d3⟩⟩:=ok;have nd':=nd;simp only[XN,Xg,not_or]at nd';obtain⟨⟨a1,a2,a3,_⟩,⟨b1,b2,_⟩,⟨c1,c2,c3,c4⟩,_⟩:=nd'
 exact⟨nd,⟨i1,by rw[Q7 a2];exact i2⟩,⟨o1,by rw[Q7 b1];exact o2⟩,⟨e1,zs,Zg,hr⟩,⟨r1,rx,by rw[Q7 (Ne.symm c1)];exact r2,r3⟩,⟨l1,by rw[Q7 (Ne.symm c2)];exact l2,l3.other c4⟩,⟨d1,by rw[Q7 (Ne.symm c3)];exact d2,d3⟩⟩
def OC (c:NetC K C)(e:ρ[i]?=some (some (.own v (Zm P w C N)))){n:Int}(h:Qs K te ρ (.int n))(hl:N.rooms.length<1000)
 (hn:D.nx (ρ.set i (some (.own v (Zm P w C { N with rooms:=N.rooms++[n] }))))):Q9 K (U5 (tBM K "list" GC (YK K (Za i) "rooms") (Zl te Zv))) ρ D:=fun F0 H0 F σ H E x S C'=>by
 obtain⟨a,dx,el,r,l,d,xs,ys,as,rfl,e1,ok,_⟩:=S.net e;refine⟨_,e1,a,C,dx,_,.ref r,rfl,ok.ins.2,c.cl,c.rooms,rfl,.inl ⟨rfl,_,SqL.of ok.rooms.2.choose_spec.1⟩,h H0 F σ H _ S fun F1 H1 u x1 r1=>?_⟩
 cases r1
 obtain⟨a',dx',el',r',l',d',xs',ys',as',ea,g1,ok',hp,wr⟩:=(S.ext x1).net e
 cases ea
 obtain⟨rfl,rfl,rfl,rfl,rfl⟩:=ok.same ok' ((x1.hh _ _ ok.ins.2).trans ok.ins.2.symm);obtain⟨q1,qx,q2,q3⟩:=ok'.rooms;have hr0:=hp r' (by simp);refine⟨r',qx,.int n,rfl,rfl,q2,by rw[q3.length,Xh];exact VX (by omega),?_⟩;exact C'.nx F1 σ _ _ ((x.trans x1).wr hr0.1 hr0.2.1) (wr _ { N with rooms:=N.rooms++[n] } xs' ys' as' ((S.ext x1).sub.upd hr0.2.1) (fun b hb _=>Q7 fun z=>hb (by rw[z];simp)) Uk (ok'.setRooms (by rw[XE];exact q3.snoc (.int n))) (fun b hb=>.inl hb)) hn
def OE (c:NetC K C)(e:ρ[i]?=some (some (.own v (Zm P w C N)))){n:List Key}(h:Qs K te ρ (Zb n))(hl:N.ends.length<1000)
 (hn:D.nx (ρ.set i (some (.own v (Zm P w C { N with ends:=N.ends++[n] }))))):Q9 K (U5 (tBM K "list" GC (YK K (Za i) "ends") (Zl te Zv))) ρ D:=fun F0 H0 F σ H E x S C'=>by
 obtain⟨a,dx,el,r,l,d,xs,ys,as,rfl,e1,ok,_⟩:=S.net e;refine⟨_,e1,a,C,dx,_,.ref el,rfl,ok.ins.2,c.cl,c.ends,rfl,.inl ⟨rfl,_,SqL.of ok.ends.2.choose_spec.1⟩,h H0 F σ H _ S fun F1 H1 u x1 r1=>?_⟩;obtain⟨a',dx',el',r',l',d',xs',ys',as',ea,g1,ok',hp,wr⟩:=(S.ext x1).net e
 cases ea
 obtain⟨rfl,rfl,rfl,rfl,rfl⟩:=ok.same ok' ((x1.hh _ _ ok.ins.2).trans ok.ins.2.symm);obtain⟨q1,qx,q2,q3⟩:=ok'.ends;have hr0:=hp el' (by simp);refine⟨el',qx,u,rfl,rfl,q2,by rw[q3.length,Xh];exact VX (by omega),?_⟩;exact C'.nx F1 σ _ _ ((x.trans x1).wr hr0.1 hr0.2.1) (wr _ { N with ends:=N.ends++[n] } xs' ys' as' ((S.ext x1).sub.upd hr0.2.1) (fun b hb _=>Q7 fun z=>hb (by rw[z];simp)) Uk (ok'.setEnds (by rw[XE];exact q3.snoc r1)) (fun b hb=>.inl hb)) hn
def Ty (c:NetC K C) (e:ρ[i]?=some (some (.own v (Zm P w C N)))):Qs K (tCB (U2 K) (Zl (YK K (Za i) "ends") Zv)) ρ (.int (N.ends.length:Int)):=fun H0 F σ H Q S q=>by
 obtain⟨a,dx,el,r,l,d,xs,ys,as,rfl,e1,ok,_⟩:=S.net e;obtain⟨_,ex,e2,e3⟩:=ok.ends;refine⟨_,e1,a,C,dx,_,.ref el,rfl,ok.ins.2,c.cl,c.ends,rfl,el,ex,rfl,.inl (SqL.of e2),?_⟩
 have:ex.length=N.ends.length:=by rw[e3.length,Xh]
 rw[this];exact q F H _ (QM.refl S.sub) (.int _)
end
def ZZ (ls:List (KK×Int))(k:KK):Option Int:=(ls.find? fun x=>decide (x.1=k)).map (·.2)
def YI (ls:List (KK×Int))(k:KK)(n:Int):List (KK×Int):=if (ZZ ls k).isSome=true then ls.map (fun x=>if x.1=k then (x.1,n) else x) else ls++[(k,n)]
theorem LaidD.val {F:Hp}(k:KK):∀{xs:List (KK×Addr×V)} {ls:List (KK×Int)},LaidD F xs ls->Yt xs k=(ZZ ls k).map V.int
 |_,_,.nil=>rfl
 |_,_,.cons (k:=k') h t=>by
   by_cases e:k'=k
   ·simp[Yt,ZZ,XA,e]
   ·have:=t.val k
    simpa [Yt,ZZ,XA,e] using this
theorem LaidD.length {F:Hp}:∀{xs:List (KK×Addr×V)} {ls:List (KK×Int)},LaidD F xs ls->xs.length=ls.length
 |_,_,.nil=>rfl
 |_,_,.cons h t=>by simp[t.length]
theorem LaidD.repl {F:Hp}(k:KK)(n:Int):∀{xs:List (KK×Addr×V)} {ls:List (KK×Int)},LaidD F xs ls->LaidD F (xs.map fun x=>if x.1=k then (x.1,x.2.1,.int n) else x) (ls.map fun x=>if x.1=k then (x.1,n) else x)
 |_,_,.nil=>.nil
 |_,_,.cons (k:=k') h t=>by
   rw[Xs,Xs];by_cases e:k'=k
   ·simp only[e,if_true]
    exact .cons (e▸h) (t.repl k n)
   ·simp only[e,if_false]
    exact .cons h (t.repl k n)
theorem LaidD.snoc {F:Hp}{k:KK}{b:Addr}(n:Int)(hb:Vw F k b):∀{xs:List (KK×Addr×V)} {ls:List (KK×Int)},LaidD F xs ls->LaidD F (xs++[(k,b,.int n)]) (ls++[(k,n)])
 |_,_,.nil=>.cons hb .nil
 |_,_,.cons h t=>.cons h (t.snoc n hb)
def LaidD.put {F:Hp}{k:KK}{b:Addr}(n:Int)(hb:Vw F k b){xs:List (KK×Addr×V)}{ls:List (KK×Int)}(t:LaidD F xs ls):LaidD F (JN xs k b (.int n)) (YI ls k n):=by
 unfold JN YI;rw[t.val k,Uo];split
 ·exact t.repl k n
 ·exact t.snoc n hb
def KJ {F:Hp}{y:V}{k1 k2:List Key}(r:Rep F y (.tuple [Zb k1,Zb k2])):∃b,y=.ref b/\Vw F (k1,k2) b:=by
 cases r with
 |tup h rs =>
   cases rs with
   |cons r1 rs =>
     cases rs with
     |cons r2 rs =>
       cases rs
       obtain⟨p,rfl,hp⟩:=WW r1;obtain⟨q,rfl,hq⟩:=WW r2
       exact⟨_,rfl,p,q,h,hp,hq⟩
section
variable {K:W.Frag}{ρ:QL}{tb te ty tx tv:TE}{D:PEnds}{i:Nat}{v:V}{P:Program}{w:World}{C:Addr}{N:Q6}{k1 k2:List Key}
def NetOk.setLaid {F H:Hp}{a dx el r l d:Addr}{xs:List (List Key×V)}{ys ys':List (KK×Addr×V)}{as:Qg}(ok:NetOk P w C N F H a dx el r l d xs ys as){ls:List (KK×Int)}(hr:LaidD F ys' ls) :
 NetOk P w C { N with laid:=ls } F (upd H d (pdO P w d ys')) a dx el r l d xs ys' as:=by
 obtain⟨nd,⟨i1,i2⟩,⟨o1,o2⟩,⟨e1,ex,e2,e3⟩,⟨r1,rx,r2,r3⟩,⟨l1,l2,l3⟩,⟨d1,d2,d3⟩⟩:=ok;have nd':=nd;simp only[XN,Xg,not_or]at nd';obtain⟨⟨a1,a2,a3,a4,a5,_⟩,⟨b1,b2,b3,b4,_⟩,⟨c1,c2,c3,c4⟩,⟨g1,g2,g3⟩,⟨h1,h2⟩,f1,_⟩:=nd'
 exact⟨nd,⟨i1,by rw[Q7 a5];exact i2⟩,⟨o1,by rw[Q7 b4];exact o2⟩,⟨e1,ex,by rw[Q7 c3];exact e2,e3⟩,⟨r1,rx,by rw[Q7 g2];exact r2,r3⟩,⟨l1,by rw[Q7 h1];exact l2,l3.other f1⟩,⟨d1,Zg,hr⟩⟩
def IY (c:NetC K C)(e:ρ[i]?=some (some (.own v (Zm P w C N)))){n:Int}(hv:Qs K tv ρ (.int n))(hy:Qs K ty ρ (.tuple [Zb k1,Zb k2]))(hl:N.laid.length<1000)
 (hn:D.nx (ρ.set i (some (.own v (Zm P w C { N with laid:=YI N.laid (k1,k2) n }))))):Q9 K (R7 P w (YK K (Za i) "laid") ty tv) ρ D:=fun F0 H0 F σ H E x S C' =>
 hv H0 F σ H _ S fun F1 H1 u x1 r1=>by
  cases r1
  obtain⟨a,dx,el,r,l,d,xs,ys,as,rfl,e1,ok,_⟩:=(S.ext x1).net e;refine⟨_,e1,a,C,dx,_,.ref d,rfl,ok.ins.2,c.cl,c.laid,rfl,hy H0 F1 σ H1 _ (S.ext x1) fun F2 H2 y x2 r2=>?_⟩;have S2:=S.ext (x1.trans x2);obtain⟨a',dx',el',r',l',d',xs',ys',as',ea,g1,ok',hp,wr⟩:=S2.net e
  cases ea
  obtain⟨rfl,rfl,rfl,rfl,rfl⟩:=ok.same ok' ((x2.hh _ _ ok.ins.2).trans ok.ins.2.symm);obtain⟨b,rfl,hb⟩:=KJ r2;obtain⟨d1,d2,d3⟩:=ok'.laid;refine⟨d',b,ys',(k1,k2),rfl,rfl,d2,d3.at S2.sub,hb.mono fun c' z ez=>S2.sub _ _ ez,by rw[d3.length];exact VX (by omega),?_⟩;have hr0:=hp d' (by simp);exact C'.nx F2 σ _ _ ((x.trans (x1.trans x2)).wr hr0.1 hr0.2.1) (wr _ { N with laid:=YI N.laid (k1,k2) n } xs' _ as' (S2.sub.upd hr0.2.1) (fun b' hb' _=>Q7 fun z=>hb' (by rw[z];simp)) Uk (ok'.setLaid (d3.put n hb)) (fun b' hb'=>.inl hb')) hn
end
def QV (ls:List (List Key×Ql))(k:List Key):Option (Ql):=(ls.find? fun x=>decide (x.1=k)).map (·.2)
def VR:List (List Key×Ql)->List Key->Int->List (List Key×Ql)
 |[],_,_=>[]
 |(k',ns)::r,k,n=>if k'=k then (k',ns++[n])::r else (k',ns)::VR r k n
theorem LeavD.val {F H:Hp}(k:List Key):∀{xs:List (List Key×V)} {ls:List (List Key×Ql)} {as:Qg},LeavD F H xs ls as->(Z4 xs k=none/\QV ls k=none) \/
 ∃a ns,Z4 xs k=some (.ref a)/\QV ls k=some ns/\a∈as/\VE F H a (ns.map PyData.int)
 |_,_,_,.nil=>.inl ⟨rfl,rfl⟩
 |_,_,_,.cons (k:=k') (a:=a) (ns:=ns) (xs:=xs) (ls:=ls) h t=>by
   by_cases e:k'=k
   ·exact .inr ⟨a,ns,Wq e,by simp[QV,XA,e],Xc,h⟩
   ·have q:QV ((k',ns)::ls) k=QV ls k:=by simp[QV,XA,e]
    rw[Wo (p:=(k',V.ref a)) e,q]
    rcases t.val k with z|⟨a',ns',z1,z2,z3,z4⟩
    ·exact .inl z
    ·exact .inr ⟨a',ns',z1,z2,Xf _ z3,z4⟩
theorem LeavD.app {F H:Hp}(k:List Key){a:Addr}{n:Int}{zs:List V}:∀{xs:List (List Key×V)} {ls:List (List Key×Ql)} {as:Qg} {ns:Ql},LeavD F H xs ls as->as.Nodup->Z4 xs k=some (.ref a)->QV ls k=some ns ->
 Q0 F zs ((ns++[n]).map PyData.int)->LeavD F (upd H a (.lst zs)) xs (VR ls k n) as
 |_,_,_,_,.nil,_,h,_,_=>by cases h
 |_,_,_,ns,.cons (k:=k') (a:=a') (ns:=ns') (xs:=xs) (ls:=ls) (as:=as) h t,nd,hv,he,hr=>by
   obtain⟨n1,n2⟩:=XN.mp nd;unfold VR;by_cases e:k'=k
   ·rw[Wq (p:=(k',V.ref a')) e]at hv
    have q:QV ((k',ns')::ls) k=some ns':=by simp[QV,XA,e]
    rw[q]at he;cases hv
    cases he
    rw[Xb e];exact .cons ⟨h.1,zs,Zg,hr⟩ (t.other n1)
   ·rw[Wo (p:=(k',V.ref a')) e]at hv
    have q:QV ((k',ns')::ls) k=QV ls k:=by simp[QV,XA,e]
    rw[q]at he;rw[Xa e];have ha:a∈as:=by
     rcases t.val k with z|⟨a2,ns2,z1,z2,z3,z4⟩
     ·rw[hv]at z;cases z.1
     ·rw[hv]at z1;cases z1;exact z3
    refine .cons ?_ (t.app k n2 hv he hr);obtain⟨h1,xs',h2,h3⟩:=h;have ne:a'≠a:=fun z=>n1 (by rw[z];exact ha)
    exact⟨h1,xs',by rw[Q7 ne];exact h2,h3⟩
theorem LeavD.snoc {F H:Hp}(k:List Key){a:Addr}(o:VE F H a []):∀{xs:List (List Key×V)} {ls:List (List Key×Ql)} {as:Qg},LeavD F H xs ls as->LeavD F H (xs++[(k,.ref a)]) (ls++[(k,[])]) (as++[a])
 |_,_,_,.nil=>.cons o .nil
 |_,_,_,.cons h t=>.cons h (t.snoc k o)
theorem LeavD.length {F H:Hp}:∀{xs:List (List Key×V)} {ls:List (List Key×Ql)} {as:Qg},LeavD F H xs ls as->xs.length=ls.length
 |_,_,_,.nil=>rfl
 |_,_,_,.cons h t=>by simp[t.length]
def VO (ls:List (List Key×Ql))(k:List Key):List (List Key×Ql):=if (QV ls k).isSome=true then ls else ls++[(k,[])]
section
variable {K:W.Frag}{ρ:QL}{tb te ty tx tv:TE}{D:PEnds}{i:Nat}{v:V}{P:Program}{w:World}{C:Addr}{N:Q6}{k:List Key}
def NetOk.appLeav {F H:Hp}{a dx el r l d:Addr}{xs:List (List Key×V)}{ys:List (KK×Addr×V)}{as:Qg}(ok:NetOk P w C N F H a dx el r l d xs ys as){b:Addr}{ns:Ql}{n:Int}{zs:List V}
 (hv:Z4 xs k=some (.ref b)) (he:QV N.leav k=some ns) (hb:b∈as) (hr:Q0 F zs ((ns++[n]).map PyData.int)):NetOk P w C { N with leav:=VR N.leav k n } F (upd H b (.lst zs)) a dx el r l d xs ys as:=by
 obtain⟨nd,⟨i1,i2⟩,⟨o1,o2⟩,⟨e1,ex,e2,e3⟩,⟨r1,rx,r2,r3⟩,⟨l1,l2,l3⟩,⟨d1,d2,d3⟩⟩:=ok;have nd':=nd;simp only[XN,Xg,not_or]at nd';obtain⟨⟨a1,a2,a3,a4,a5,a6⟩,⟨b1,b2,b3,b4,b5⟩,⟨c1,c2,c3,c4⟩,⟨g1,g2,g3⟩,⟨h1,h2⟩,f1,f2⟩:=nd';have ne:∀{x:Addr},x∉as->x≠b:=fun h z=>h (by rw[z];exact hb)
 exact⟨nd,⟨i1,by rw[Q7 (ne a6)];exact i2⟩,⟨o1,by rw[Q7 (ne b5)];exact o2⟩,⟨e1,ex,by rw[Q7 (ne c4)];exact e2,e3⟩,⟨r1,rx,by rw[Q7 (ne g3)];exact r2,r3⟩,⟨l1,by rw[Q7 (ne h2)];exact l2,l3.app k f2 hv he hr⟩,⟨d1,by rw[Q7 (ne f1)];exact d2,d3⟩⟩
end
section
variable {K:W.Frag}{ρ:QL}{tb te ty tx tv:TE}{D:PEnds}{i:Nat}{v:V}{P:Program}{w:World}{C:Addr}{N:Q6}{k:List Key}
def SF (c:NetC K C)(e:ρ[i]?=some (some (.own v (Zm P w C N)))){n:Int}(h:Qs K te ρ (.int n)){ns:Ql}(he:QV N.leav k=some ns)(hz:ns.length<1000)
 (hn:D.nx (ρ.set i (some (.own v (Zm P w C { N with leav:=VR N.leav k n }))))) {F0 H0 F H:Hp} {σ:St} {E:Ends} (x:QM F0 H0 F H) (S:QY K H0 F ρ σ H) (C':Cnv K F0 H0 D E)
 {a dx el r l d:Addr} {xs:List (List Key×V)} {ys:List (KK×Addr×V)} {as:Qg} {al:Addr} (ok:NetOk P w C N F H a dx el r l d xs ys as) (ev:v=.ref a) (hv:Z4 xs k=some (.ref al)) :
 tyV K "list" (.ref al) H/\Zl te Zv σ H fun vs H2=>GC (.ref al) vs H2 fun _ H3=>E.nx σ H3:=by
 have find:∀{F H:Hp} {a dx el r l d:Addr} {xs:List (List Key×V)} {ys:List (KK×Addr×V)} {as:Qg},NetOk P w C N F H a dx el r l d xs ys as->Z4 xs k=some (.ref al)->al∈as/\VE F H al (ns.map PyData.int):=fun ok hv=>by
  rcases ok.leav.2.2.val k with z|⟨a2,ns2,z1,z2,z3,z4⟩
  ·rw[hv]at z;cases z.1
  ·rw[hv]at z1
   rw[he]at z2;cases z1
   cases z2
   exact⟨z3,z4⟩
 obtain⟨_,_,zs,hz1,_⟩:=find ok hv;refine⟨.inl ⟨rfl,_,SqL.of hz1⟩,h H0 F σ H _ S fun F1 H1 u x1 r1=>?_⟩
 cases r1
 obtain⟨a',dx',el',r',l',d',xs',ys',as',ea,g1,ok',hp,wr⟩:=(S.ext x1).net e;rw[ev]at ea;cases ea;obtain⟨rfl,rfl,rfl,rfl,rfl⟩:=ok.same ok' ((x1.hh _ _ ok.ins.2).trans ok.ins.2.symm);have el2:=ok'.leav.2.1.symm.trans (x1.hh _ _ ok.leav.2.1);injection el2 with el2;injection el2 with el2;subst el2;obtain⟨m1,m2,zs2,m3,m4⟩:=find ok' hv;have hr0:=hp al (by simp[m1]);refine⟨al,zs2,.int n,rfl,rfl,m3,by rw[m4.length,Xh];exact VX (by omega),?_⟩
 exact C'.nx F1 σ _ _ ((x.trans x1).wr hr0.1 hr0.2.1) (wr _ { N with leav:=VR N.leav k n } _ ys' as' ((S.ext x1).sub.upd hr0.2.1) (fun b hb _=>Q7 fun z=>hb (by rw[z];simp[m1])) Uk
  (ok'.appLeav hv he m1 (by rw[XE];exact m4.snoc (.int n))) (fun b hb=>.inl hb)) hn
def Tc (ls:List (List Key×Ql))(h:QV ls k=none):QV (ls++[(k,[])]) k=some []:=by
 induction ls with
 |nil=>simp[QV]
 |cons x ls ih =>
   obtain⟨k',ns⟩:=x
   by_cases e:k'=k
   ·simp[QV,XA,e]at h
   ·have q:QV ((k',ns)::ls) k=QV ls k:=by simp[QV,XA,e]
    rw[q]at h;have q2:QV ((k',ns)::ls++[(k,[])]) k=QV (ls++[(k,[])]) k:=by simp[QV,XA,e]
    rw[q2];exact ih h
def Ox (c:NetC K C)(e:ρ[i]?=some (some (.own v (Zm P w C N)))){n:Int}(hy:Qs K ty ρ (Zb k))(hl:N.leav.length<1000)(hz:∀ns,QV (VO N.leav k) k=some ns->ns.length<1000)
 (h:Qs K te (ρ.set i (some (.own v (Zm P w C { N with leav:=VO N.leav k })))) (.int n)) (hn:D.nx (ρ.set i (some (.own v (Zm P w C { N with leav:=VR (VO N.leav k) k n }))))) :
 Q9 K (U5 (tBM K "list" GC (Sl (YK K (Za i) "leaving") ty (Me Zv)) (Zl te Zv))) ρ D:=fun F0 H0 F σ H E x S C'=>by
 obtain⟨a,dx,el,r,l,d,xs,ys,as,rfl,e1,ok,hp0,_⟩:=S.net e;refine⟨_,e1,a,C,dx,_,.ref l,rfl,ok.ins.2,c.cl,c.leav,rfl,l,rfl,.inr ⟨xs,Rd.of ok.leav.2.1⟩,hy H0 F σ H _ S fun F1 H1 y x1 r1=>⟨X4 _,fun p hp=>?_⟩⟩;have S1:=S.ext x1;have x2:QM F1 H1 F1 (upd H1 p (.lst [])):=QM.own S1.sub hp;obtain⟨a',dx',el',r',l',d',xs',ys',as',ea,g1,ok',hp',wr⟩:=S1.net e
 cases ea
 obtain⟨rfl,rfl,rfl,rfl,rfl⟩:=ok.same ok' ((x1.hh _ _ ok.ins.2).trans ok.ins.2.symm);have hlt:i<ρ.length:=(Xe.mp e).1;obtain⟨b,rfl,hb⟩:=WW r1;obtain⟨l1,l2,l3⟩:=ok'.leav;have np:∀q∈a::dx'::el'::r'::l'::d'::as',q≠p:=fun q hq z=>by rw[z]at hq;exact(hp' p hq).2.2 hp
 have lp:l'≠p:=np l' (by simp);have bp:b≠p:=fun z=>by rw[z]at hb;rw[S1.sub _ _ hb]at hp;cases hp
 have h0p:H0 p=none:=(x.trans x1).hh.free hp;refine⟨xs',k,b,rfl,by rw[Q7 lp];exact l2,by rw[Q7 bp];exact S1.sub _ _ hb,by rw[l3.length];exact VX (by omega),fun v0 hv0=>?_,fun hv0=>?_⟩
 ·rcases l3.val k with z|⟨al,ns,z1,z2,z3,z4⟩
  ·rw[hv0]at z;cases z.1
  ·rw[hv0]at z1
   cases z1
   have ens:VO N.leav k=N.leav:=by unfold VO;rw[z2];rfl
   rw[ens]at h hn hz;have S3:=S1.ext x2
   have ok3:NetOk P w C N F1 (upd H1 p (.lst [])) a dx' el' r' l' d' xs' ys' as':=by
    obtain⟨q0,q1,q2,q3,q4,q5,q6⟩:=ok';obtain⟨e1',ex,e2,e3⟩:=q3;obtain⟨r1',rx,r2,r3⟩:=q4
    exact⟨q0,⟨q1.1,by rw[Q7 (np a (by simp))];exact q1.2⟩,⟨q2.1,by rw[Q7 (np dx' (by simp))];exact q2.2⟩,⟨e1',ex,by rw[Q7 (np el' (by simp))];exact e2,e3⟩,⟨r1',rx,by rw[Q7 (np r' (by simp))];exact r2,r3⟩,
     ⟨q5.1,by rw[Q7 lp];exact q5.2.1,q5.2.2.other fun z=>np p (by simp[z]) rfl⟩,⟨q6.1,by rw[Q7 (np d' (by simp))];exact q6.2.1,q6.2.2⟩⟩
   have S4:QY K H0 F1 (ρ.set i (some (.own (.ref a) (Zm P w C N)))) σ (upd H1 p (.lst [])):=wr _ N xs' ys' as' S3.sub (fun b' _ hb'=>Q7 fun z=>hb' (by rw[z];exact hp)) Uk ok3 (fun b' hb'=>.inl hb');exact SF (N:=N) c (XL hlt) h z2 (hz ns z2) (by rw[List.set_set];exact hn) (x.trans (x1.trans x2)) S4 C' ok3 rfl hv0
 ·have z2:QV N.leav k=none:=by
   rcases l3.val k with z|⟨al,ns,z1,z2,z3,z4⟩
   ·exact z.2
   ·rw[hv0]at z1;cases z1
  have ens:VO N.leav k=N.leav++[(k,[])]:=by unfold VO;rw[z2];rfl
  rw[ens]at h hn hz;have fp:F1 p=none:=S1.sub.free hp
  have ok3:NetOk P w C { N with leav:=N.leav++[(k,[])] } F1 (upd (upd H1 p (.lst [])) l' (.dT (xs'++[(k,.ref p)]))) a dx' el' r' l' d' (xs'++[(k,.ref p)]) ys' (as'++[p]):=by
   have ok2:=ok';obtain⟨q0,q1,q2,q3,q4,q5,q6⟩:=ok';obtain⟨e1',ex,e2,e3⟩:=q3;obtain⟨r1',rx,r2,r3⟩:=q4;have nd':=q0;simp only[XN,Xg,not_or]at nd';obtain⟨⟨a1,a2,a3,a4,a5,a6⟩,⟨b1,b2,b3,b4,b5⟩,⟨c1,c2,c3,c4⟩,⟨g1',g2,g3⟩,⟨h1,h2⟩,f1,f2⟩:=nd';have up:∀{q:Addr},q∈a::dx'::el'::r'::l'::d'::as'->q≠l'->upd (upd H1 p (.lst [])) l' (.dT (xs'++[(k,.ref p)])) q=H1 q:=fun hq ne=>by rw[Q7 ne,Q7 (np _ hq)]
   refine⟨?_,⟨q1.1,by rw[up (by simp) a4];exact q1.2⟩,⟨q2.1,by rw[up (by simp) b3];exact q2.2⟩,⟨e1',ex,by rw[up (by simp) c2];exact e2,e3⟩,⟨r1',rx,by rw[up (by simp) g1'];exact r2,r3⟩,⟨l1,Zg,?_⟩,⟨q6.1,by rw[up (by simp) (Ne.symm h1)];exact q6.2.1,q6.2.2⟩⟩
   ·have:(a::dx'::el'::r'::l'::d'::(as'++[p]))=(a::dx'::el'::r'::l'::d'::as')++[p]:=by simp
    rw[this,GU];refine⟨q0,by simp,fun u hu t ht=>?_⟩
    cases Xk.mp ht
    exact np u hu
   ·refine LeavD.snoc k ⟨fp,[],by rw[Q7 (Ne.symm lp),Zg],.nil⟩ ?_
    exact(l3.other fun z=>np p (by simp[z]) rfl).other h2
  have S4:QY K H0 F1 (ρ.set i (some (.own (.ref a) (Zm P w C { N with leav:=N.leav++[(k,[])] })))) σ (upd (upd H1 p (.lst [])) l' (.dT (xs'++[(k,.ref p)]))) :=
   wr _ _ _ ys' (as'++[p]) ((S1.sub.upd fp).upd l1) (fun b' hb1 hb2=>by rw[Q7 (fun z=>hb1 (by rw[z];simp)),Q7 (fun z=>hb2 (by rw[z];exact hp))]) (fun b' hb'=>Uk b' (Uk b' hb')) ok3 (fun b' hb'=>by
    rcases XC.mp hb' with z|z
    ·exact .inl z
    ·cases Xk.mp z;exact .inr ⟨hp,h0p⟩)
  have hl0:=hp' l' (by simp)
  exact SF (N:={ N with leav:=N.leav++[(k,[])] }) c (XL hlt) h (Tc _ z2) (hz [] (Tc _ z2)) (by rw[List.set_set];exact hn) ((x.trans (x1.trans x2)).wr hl0.1 hl0.2.1) S4 C' ok3 rfl (by
   rw[PX k k (.ref p) xs' hv0,Xb rfl])
end
end L2
section
namespace L2
open PySem PySem.Spec PyProof.Rows
structure KTup (K:W.Frag)(g:Addr)(x:Str):Prop where
 ex:∃(d:Qj) (t:Nat) (n:Nat) (sl:Array (Qf)),K.lookup g=some ⟨.type "tuple",d,.seq #[.str x t] n,sl⟩
def On {P:Program}{w:World}{K:W.Frag}{mg mb:Str->Qf}{k:Nat}{fa a gS gE:Addr}{fd:FuncData}{x:Str}{sp:Sp}{bj:Shared}{vs:Qe}{ns:Ql}
 (KX:K.In bj.heap) (hns:bj.heap.Ns mainGlobals mg) (hb:bj.heap.Ns builtinsNs mb) (hbb:∀x:Str,x ≠ "__name__" -> mb x=bootBuiltins x) (hlim:bj.heap.NoLimit) (hg:bj.gens=#[])
 (ha:bj.heap.get? a=some { cls:=.type "list",data:=.seq vs.toArray }) (hi:IntsAre vs ns) (hl:ns.length<=sizeLine) (hr:Room k callerA) (tS:KTup K gS "start") (tE:KTup K gE "end")
 (F:∀base:Heap,K.In base->base.Ns mainGlobals mg->FnOk P w K mg base CX0 k fa fd [x] sp) (hbind:∀(s:Shared) (u:Value),BindsTo s fd ⟨[u],[]⟩ [(x,u)])
 (hsp:∀H:Hp,SqL K H a (ns.map V.int)->H gS=some (.tup [.str "start"])->H gE=some (.tup [.str "end"])->sp [.ref a] H (fun v _=>v=.bl true) fun _ _ _=>False) :
 codeAny (model P w) callerA (.call (.ref fa) ⟨[.ref a],[]⟩) (fun r s'=>r=.ok (.ret (.bool true))/\OldK bj.heap s'.heap/\s'.os=bj.os/\AllBare s'.gens) bj:=by
 have rv:=Tb hi;have lenV:=hi.length;obtain⟨dS,kS,cS,slS,lS⟩:=tS.ex;obtain⟨dE,kE,cE,slE,lE⟩:=tE.ex;have hS0:=KX gS _ lS;have hE0:=KX gE _ lE
 have naS:gS≠a:=fun z=>by
  rw[z,ha]at hS0;injection hS0 with z1;injection z1 with z2;injection z2 with z3;exact Xi z3 (by decide)
 have naE:gE≠a:=fun z=>by
  rw[z,ha]at hE0;injection hE0 with z1;injection z1 with z2;injection z2 with z3;exact Xi z3 (by decide)
 have nSE:gE≠gS:=fun z=>by
  rw[z,lS]at lE;injection lE with z1;injection z1 with _ _ z2 _;injection z2 with z3 _;have z4:=XW Array.toList z3;simp only[List.cons.injEq,Value.str.injEq,and_true]at z4;exact Xi z4.1 (by decide)
 have core:∀Hs:Hp,L0 Hs->SqL K Hs a (ns.map V.int)->HOk P w Hs bj.heap->(∀b,Hs b≠none->b=a)->(Hs a≠none->K.lookup a=none) ->
  codeAny (model P w) callerA (.call (.ref fa) ⟨[.ref a],[]⟩) (fun r s'=>r=.ok (.ret (.bool true))/\OldK bj.heap s'.heap/\s'.os=bj.os/\AllBare s'.gens) bj:=by
  intro Hs hO hSq hok hA hK;have fS:Hs gS=none:=by
   cases q:Hs gS with
   |none=>rfl
   |some u=>exact Xi (hA gS (by rw[q];simp)) naS
  have fE:Hs gE=none:=by
   cases q:Hs gE with
   |none=>rfl
   |some u=>exact Xi (hA gE (by rw[q];simp)) naE
  have base_of:∀{b:Addr} {o:Obj},bj.heap.get? b=some o->Hs b=none->(Jj bj.heap Hs).get? b=some o:=fun e n=>AZ e n
  have noA:∀{b:Addr} {o:Obj} {es:Array DictEntry} {ep:Nat},bj.heap.get? b=some o->o.data=.dict es ep->Hs b=none:=fun{b o es ep} e d=>by
   cases q:Hs b with
   |none=>rfl
   |some u =>
     have e':b=a:=hA b (by rw[q];simp);subst e';rw[ha]at e;cases e;have d':Data.seq vs.toArray _=Data.dict es ep:=d
     cases d'
  have nsK:∀{b:Addr} {m:Str->Qf},bj.heap.Ns b m->(Jj bj.heap Hs).Ns b m:=fun{b m} ⟨o,es,ep,e,d,r⟩=>⟨o,es,ep,base_of e (noA e d),d,r⟩
  have hKb:K.In (Jj bj.heap Hs):=fun b o e=>base_of (KX b o e) (by
   cases q:Hs b with
   |none=>rfl
   |some u =>
     have e':b=a:=hA b (by rw[q];simp);subst e';rw[hK (by rw[q];simp)]at e;cases e)
  have hM:Mod K mg (Jj bj.heap Hs):=⟨hKb,nsK hns,⟨mb,nsK hb,hbb⟩,let ⟨mc,h1,h2⟩:=hlim;⟨mc,nsK h1,h2⟩⟩
  let H:Hp:=upd (upd Hs gS (.tup [.str "start"])) gE (.tup [.str "end"])
  have hHS:H gS=some (.tup [.str "start"]):=by show upd _ _ _ gS=_;rw[Q7 (Ne.symm nSE),Zg]
  have hHE:H gE=some (.tup [.str "end"]):=Zg;have hHo:∀b,b≠gS->b≠gE->H b=Hs b:=fun b h1 h2=>by show upd _ _ _ b=_;rw[Q7 h2,Q7 h1]
  have sm:QN Hs H:=fun b u e=>by
   rw[hHo b (fun z=>by rw[z,fS]at e;cases e) (fun z=>by rw[z,fE]at e;cases e)];exact e
  have l1:∀x:Str,[V.str x].length<=sizeLine:=fun _=>X9 (VX Ba)
  have hokH:HOk P w H bj.heap:=fun b u e=>by
   by_cases h1:b=gS
   ·subst h1
    rw[hHS]at e;cases e
    exact⟨l1 _,[.str "start" kS],.cons ⟨kS,rfl⟩ .nil,⟨_,hS0,rfl,_,rfl⟩⟩
   ·by_cases h2:b=gE
    ·subst h2
     rw[hHE]at e;cases e
     exact⟨l1 _,[.str "end" kE],.cons ⟨kE,rfl⟩ .nil,⟨_,hE0,rfl,_,rfl⟩⟩
    ·rw[hHo b h1 h2]at e
     rcases hO b with z|⟨o,xs,z⟩
     ·rw[z]at e;cases e
     ·rw[z]at e
      cases e
      obtain⟨q1,q2⟩:=hok b _ z
      exact⟨q1,q2⟩
  have e0:Env0 P w K mg (Jj bj.heap Hs) callerA [] bj H:=⟨rfl,hM,fun b o e=>by
   obtain⟨e1,e2⟩:=CC e;refine⟨e1,?_⟩
   by_cases h1:b=gS
   ·exact .inr ⟨_,by rw[h1];exact hHS⟩
   ·by_cases h2:b=gE
    ·exact .inr ⟨_,by rw[h2];exact hHE⟩
    ·exact .inl (by rw[hHo b h1 h2];exact e2),Nat.le_of_eq (Es _ _),trivial,fun b hb=>Xi (show b∈([]:Qg) from hb) (by simp),hokH,.of_eq hg⟩
  refine codeAny_mono ((F _ hKb (nsK hns)).run callerA [] bj H ⟨[.ref a],[]⟩ [.ref a] [.ref a] _ _ hr e0 (hbind bj (.ref a)) (.cons rfl .nil) (hsp H (sm.seq hSq) hHS hHE)) fun r s' h=>?_
  cases r with
  |error e=>exact False.elim h
  |ok fl =>
    cases fl with
    |next=>exact False.elim h
    |brk=>exact False.elim h
    |cont=>exact False.elim h
    |ret u =>
      obtain⟨v,H',os,bare,un,hok',r',q⟩:=h;have q':v=.bl true:=q;subst q';obtain rfl:u=Value.bool true:=r';refine⟨rfl,OldK.of_keep fun b o e=>?_,os,bare⟩
      by_cases h1:b=gS
      ·subst h1
       exact un.tupo b _ o hHS e (by simp)
      ·by_cases h2:b=gE
       ·subst h2
        exact un.tupo b _ o hHE e (by simp)
       ·rcases hO b with z|⟨ob,xs,z⟩
        ·exact un.keep b o e (by rw[hHo b h1 h2];exact z) (by intro z;exact Xi (show b∈([]:Qg) from z) (by simp)) (by simp)
        ·have z2:=un.frzs b ob _ (by rw[hHo b h1 h2];exact z)
         obtain⟨e1,_⟩:=hok b _ z;obtain⟨e2,_⟩:=hok' b _ z2;rw[e]at e1;cases e1;exact e2
 cases hk:K.lookup a with
 |some o =>
   have e:=KX a o hk;rw[ha]at e;cases e;refine core (fun _=>none) (fun _=>.inl rfl) (.inr ⟨_,vs.toArray,_,hk,rfl,rfl,rfl,by rw[XF,lenV];exact hl,by simpa using rv⟩) (fun b u z=>by have z':(none:Option HO)=some u:=z;cases z') (fun b z=>Xi rfl z) fun z=>Xi rfl z
 |none =>
   refine core (fun b=>if b=a then some (.frz { cls:=.type "list",data:=.seq vs.toArray } (.lst (ns.map V.int))) else none) (fun b=>?_) (.inl (.inr ⟨{ cls:=.type "list",data:=.seq vs.toArray },Xb rfl⟩)) (fun b u z=>?_) (fun b z=>?_) fun _=>hk
   ·by_cases hb:b=a
    ·exact .inr ⟨_,_,Xb hb⟩
    ·exact .inl (Xa hb)
   ·by_cases hb:b=a
    ·have z':=(Xb hb).symm.trans z
     cases z'
     subst hb;exact⟨ha,by rw[Xh];exact hl,vs,_,rv,ha⟩
    ·have z':=(Xa hb).symm.trans z
     cases z'
   ·by_cases hb:b=a
    ·exact hb
    ·exact Xi (Xa hb) z
def Zox {l:W.OpenLaw}{k:Nat}{q:Program}{loose:Qh}{XP:(Str->Qf)->Heap->Prop}{YP:World->Heap->Prop}{d:DefRec}{K:Params->W.Frag}{x:Str}
 (hn:l.most=some 63) (hdf:d.params.defaults=[]) (hr:Room k callerA)
 (hY:∀(w:World) (h:Heap),YP w h->(K w.params).In h)
 (F:∀(w:World) (mg:Str->Qf) (fa:Addr) (h:Heap),(K w.params).In h->h.Ns mainGlobals mg->mg d.name=some (.ref fa) ->
  (∃gS gE,W.nsIn (K w.params) mainGlobals "START"=some (some (.ref gS))/\W.nsIn (K w.params) mainGlobals "END"=some (some (.ref gE))/\KTup (K w.params) gS "start" /\ KTup (K w.params) gE "end") /\
  ∃fd:FuncData,(∀(s:Shared) (u:Value),BindsTo s fd ⟨[u],[]⟩ [(x,u)]) /\
   ∀base:Heap,(K w.params).In base->base.Ns mainGlobals mg->FnOk l.prog w (K w.params) mg base CX0 k fa fd [x] (M0 (K w.params))) :
 W.WalkO q loose XP YP l.row.toRowW d [] (fun f vs=>PySem.call f vs):=by
 refine Att.attach_callW hn hdf fun w s₀ bj mg mb fa o pm cd doc a vs ns G Y ho hd hcd hmg hobj hints hlen hbits hg=>?_
 have KX:=hY w _ Y;obtain⟨⟨gS,gE,n1,n2,t1,t2⟩,fd,hb,hF⟩:=F w mg fa _ KX G.T.g hmg;exact On KX G.T.g G.T.b G.T.builtins G.T.nolimit hg hobj hints (XI hlen (by decide)) hr t1 t2 hF hb (fun H hS h1 h2=>⟨a,ns,rfl,⟨gS,gE,n1,n2,h1,h2⟩,⟨hS,hlen,hbits⟩,fun _=>rfl⟩)
def K3 {K:W.Frag} {ρ:QL} {g:Addr} (a:W.nsIn K mainGlobals "START"=some (some (.ref g))):Qs K (tC (.ref g)) ρ (Zb [.inr "start"]):=fun H0 F σ H Q S q=>by
 obtain⟨gS,gE,h1,h2,h3,h4⟩:=S.kt;rw[h1]at a;cases a;exact q F H _ (QM.refl S.sub) (.tup h3 (.cons (.str _) .nil))
def Se {K:W.Frag} {ρ:QL} {g:Addr} (a:W.nsIn K mainGlobals "END"=some (some (.ref g))):Qs K (tC (.ref g)) ρ (Zb [.inr "end"]):=fun H0 F σ H Q S q=>by
 obtain⟨gS,gE,h1,h2,h3,h4⟩:=S.kt;rw[h2]at a;cases a;exact q F H _ (QM.refl S.sub) (.tup h4 (.cons (.str _) .nil))
def HN {A:Around}{k:Nat}(hr:Room k A):A.units+6<cLine:=BV (Nat.add_le_add_left (by decide:6<=64) _) hr.units
def Su (tk tv:TE):TE:=fun σ H Q=>∀p,H p=none->tk σ (upd H p (.dT [])) fun x H1=>tv σ H1 fun y H2=>∃k b,x=.ref b/\H2 p=some (.dT [])/\H2 b=some (.tup (k.map kV))/\Q (.ref p) (upd H2 p (.dT [(k,y)]))
def E8 {X:Cx}{pos:Pos}{ke ve:Expr}{tk tv:TE}(hu:X.A.units+1<cLine)(hk:PE X ke tk)(hv:PE X ve tv):PE X (.Dict [some ke] [ve] pos) (Su tk tv):=by
 intro Xbo s σ H Q I q;have hn:=I.hok.fresh (Xx s.heap.objs.size);have I1:=I.laid (a:=s.heap.objs.size) (o:=.dT []) (h':=s.heap.push { cls:=.type "dict",data:=.dict #[] }) (t':=s.toks) (fun _ _ q=>Xo _ q) (Xx _) (P4 s.heap I.big);refine wpAny_Dict_any rfl rfl (by simp) (by show(1:Nat)<=15;decide) (pairTrees_cons_walk (QI (hk Xbo _ σ _ _ I1 (q _ hn)) fun kv s1 ⟨x,H1,I2,rx,q1⟩=>QI (hv Xbo s1 σ H1 _ I2 q1) fun vv s2 ⟨y,H2,I3,ry,k,b,ex,e,eb,q2⟩=>pairTrees_nil_walk ?_));subst ex;obtain rfl:kv=Value.ref b:=rx;obtain⟨z,hd,xs,rel,dd⟩:=Hu I3.hok e;have hx:xs=[]:=by cases rel;rfl
 subst hx;unfold storeAll;rw[BQ];refine Xd (Xd (wpAny_dictSet_heap (hsz:=X4 _) (knd:=tupleKind (Vx X.prog X.w)) (show X.A.units<cLine by omega) (WR I3.hok eb) dd fun h' dd' hs=>Xu ?_));obtain⟨q',es,ep,hq,g2,g3,g4,_,g5⟩:=dd';show wpAny _ _ (forIn [] PUnit.unit _) _ _ _;rw[List.forIn_nil];refine Xu ⟨.ref s.heap.objs.size,upd H2 s.heap.objs.size (.dT [(k,y)]),Bz (ob:=.dT [(k,y)]) I3 (by rw[e];exact True.intro) hs ⟨q',hq⟩ ⟨X9 (VX Ba),hd,_,(show KT H2 [(k,y)] [(k,b,vv)] from .cons ⟨rfl,eb,ry⟩ .nil).keeps fun c ys ec=>?_,q',es,ep,hq,g2,g3,g4,g5⟩,rfl,q2⟩;rw[Q7 (fun z=>by subst z;rw[e]at ec;cases ec)];exact ec
def A4 {K:W.Frag}{ρ:QL}{tk tv:TE}{k:List Key}{d:PyData}(hk:Qs K tk ρ (Zb k))(hv:Qs K tv ρ d):EvX K (Su tk tv) ρ (V9 [(k,d)]):=fun H0 F σ H Q S q=>fun p hp=>by
 have x0:QM F H F (upd H p (.dT [])):=QM.own S.sub hp;have f0:F p=none:=S.sub.free hp;refine hk H0 F σ _ _ (S.ext x0) fun F1 H1 x x1 r1=>hv H0 F1 σ H1 _ (S.ext (x0.trans x1)) fun F2 H2 y x2 r2=>?_;obtain⟨b,rfl,hb⟩:=WW r1;have X:=x1.trans x2;have hp2:H2 p=some (.dT []):=X.hh _ _ Zg;have fp2:F2 p=none:=X.free f0 (by rw[Zg];exact fun z=>nomatch z);have X':=x0.trans X;refine⟨k,b,rfl,hp2,X.fh _ _ (x2.ff _ _ hb),q F2 _ (.ref p) [p] (X'.wr hp fp2) (fun a ha=>by cases Xk.mp ha;exact hp) ⟨p,_,rfl,rfl,fp2,Zg,.cons r2 .nil⟩⟩
inductive LeavZ (F:Hp):List (List Key×V)->List (List Key×Ql)->Prop
 |nil:LeavZ F [] []
 |cons {k:List Key} {a:Addr} {ns:Ql} {zs:List V} {xs:List (List Key×V)} {ls:List (List Key×Ql)}:F a=some (.lst zs)->Q0 F zs (ns.map PyData.int)->LeavZ F xs ls->LeavZ F ((k,.ref a)::xs) ((k,ns)::ls)
theorem LeavZ.mono {F F':Hp}(s:QN F F'):∀{xs:List (List Key×V)} {ls:List (List Key×Ql)},LeavZ F xs ls->LeavZ F' xs ls
 |_,_,.nil=>.nil
 |_,_,.cons h r t=>.cons (s _ _ h) (r.mono s) (t.mono s)
theorem LeavZ.val {F:Hp}(k:List Key):∀{xs:List (List Key×V)} {ls:List (List Key×Ql)},LeavZ F xs ls->(Z4 xs k=none/\QV ls k=none)\/∃a ns zs,Z4 xs k=some (.ref a)/\QV ls k=some ns/\F a=some (.lst zs)/\Q0 F zs (ns.map PyData.int)
 |_,_,.nil=>.inl ⟨rfl,rfl⟩
 |_,_,.cons (k:=k') (a:=a) (ns:=ns) (zs:=zs) (xs:=xs) (ls:=ls) h r t=>by
   by_cases e:k'=k
   ·exact .inr ⟨a,ns,zs,Wq e,by simp[QV,XA,e],h,r⟩
   ·have q:QV ((k',ns)::ls) k=QV ls k:=by simp[QV,XA,e]
    rw[Wo (p:=(k',V.ref a)) e,q];exact t.val k
theorem LeavD.fz {F F' H:Hp}(s:QN F F'):∀{xs:List (List Key×V)} {ls:List (List Key×Ql)} {as:Qg},LeavD F H xs ls as->(∀b∈as,F' b=H b)->LeavZ F' xs ls
 |_,_,_,.nil,_=>.nil
 |_,_,_,.cons h t,he=>by
   obtain⟨h1,xs,h2,h3⟩:=h;exact .cons (by rw[he _ Xc];exact h2) (h3.mono s) (t.fz s fun b hb=>he b (Xf _ hb))
structure NetFz (P:Program)(w:World)(C:Addr)(N:Q6)(F:Hp)(a dx e r l d:Addr)(xs:List (List Key×V))(ys:List (KK×Addr×V)):Prop where
 ins:F a=some (.ins C dx [("ends",.ref e),("rooms",.ref r),("leaving",.ref l),("laid",.ref d)])
 ends:∃ex,F e=some (.lst ex)/\Q0 F ex (N.ends.map Zb)
 rooms:∃rx,F r=some (.lst rx)/\Q0 F rx (N.rooms.map PyData.int)
 leav:F l=some (.dT xs)/\LeavZ F xs N.leav
 laid:F d=some (pdO P w d ys)/\LaidD F ys N.laid
def NetFz.mono {P:Program}{w:World}{C:Addr}{N:Q6}{F F':Hp}{a dx e r l d:Addr}{xs:List (List Key×V)}{ys:List (KK×Addr×V)}(s:QN F F')(h:NetFz P w C N F a dx e r l d xs ys):NetFz P w C N F' a dx e r l d xs ys:=by
 obtain⟨h1,⟨ex,h2,h3⟩,⟨rx,h4,h5⟩,⟨h6,h7⟩,⟨h8,h9⟩⟩:=h
 exact⟨s _ _ h1,⟨ex,s _ _ h2,h3.mono s⟩,⟨rx,s _ _ h4,h5.mono s⟩,⟨s _ _ h6,h7.mono s⟩,⟨s _ _ h8,h9.mono s⟩⟩
def Vi (P:Program)(w:World)(C:Addr)(N:Q6):ZP where
 ok K F v := ∃a dx e r l d xs ys,v=.ref a/\NetFz P w C N F a dx e r l d xs ys
 mono:=by
  rintro K F F' v s ⟨a,dx,e,r,l,d,xs,ys,rfl,h⟩
  exact⟨a,dx,e,r,l,d,xs,ys,rfl,h.mono s⟩
def NetOk.fz {P:Program}{w:World}{C:Addr}{N:Q6}{F F' H:Hp}{a dx el r l d:Addr}{xs:List (List Key×V)}{ys:List (KK×Addr×V)}{as:Qg}(ok:NetOk P w C N F H a dx el r l d xs ys as)(s:QN F F')(he:∀b∈a::dx::el::r::l::d::as,F' b=H b) :
 NetFz P w C N F' a dx el r l d xs ys:=by
 obtain⟨nd,⟨i1,i2⟩,⟨o1,o2⟩,⟨e1,ex,e2,e3⟩,⟨r1,rx,r2,r3⟩,⟨l1,l2,l3⟩,⟨d1,d2,d3⟩⟩:=ok
 exact⟨by rw[he _ (by simp)];exact i2,⟨ex,by rw[he _ (by simp)];exact e2,e3.mono s⟩,⟨rx,by rw[he _ (by simp)];exact r2,r3.mono s⟩,⟨by rw[he _ (by simp)];exact l2,l3.fz s fun b hb=>he b (by simp[hb])⟩,⟨by rw[he _ (by simp)];exact d2,d3.mono s⟩⟩
def Zm.fz {P:Program}{w:World}{C:Addr}{N:Q6}{K:W.Frag}{F F' H:Hp}{v:V}{p:Qg}(h:(Zm P w C N).ok K F H v p)(s:QN F F')(he:∀b∈p,F' b=H b):(Vi P w C N).ok K F' v:=by
 obtain⟨a,dx,e,r,l,d,xs,ys,as,rfl,rfl,o⟩:=h
 exact⟨a,dx,e,r,l,d,xs,ys,rfl,o.fz s he⟩
def U0 (kvs:Vj):ZP where
 ok K F v := ∃a xs,v=.ref a/\F a=some (.dT xs)/\PairD F xs kvs
 mono:=by
  rintro K F F' v s ⟨a,xs,rfl,h1,h2⟩
  exact⟨a,xs,rfl,s _ _ h1,h2.mono s⟩
def V9.fz {kvs:Vj}{K:W.Frag}{F F' H:Hp}{v:V}{p:Qg}(h:(V9 kvs).ok K F H v p)(s:QN F F')(he:∀b∈p,F' b=H b):(U0 kvs).ok K F' v:=by
 obtain⟨a,xs,rfl,rfl,h1,h2,h3⟩:=h
 exact⟨a,xs,rfl,by rw[he a Xc];exact h2,h3.mono s⟩
section
variable {K:W.Frag}{ρ:QL}{D:PEnds}
def QY.freezeZ {H0 F H:Hp}{σ:St}{i:Nat}{v:V}{Φ:OwnP}{Ψ:ZP}(s:QY K H0 F ρ σ H)(e:ρ[i]?=some (some (.own v Φ)))
 (hz:∀{F F' H:Hp} {u:V} {p:Qg},Φ.ok K F H u p->QN F F'->(∀b∈p,F' b=H b)->Ψ.ok K F' u) :
 ∃p,(∀a∈p,F a=none/\H a≠none/\H0 a=none)/\QY K H0 (frF F H p) (ρ.set i (some (.zow Ψ))) σ H:=by
 obtain⟨kt,h1,h2,fp,h3,h4,h5⟩:=s;obtain⟨u,e1,rfl,ok⟩:=h3 i _ e;have hlt:=(Xe.mp e).1;have th:=fun a ha=>Φ.there ok a ha;have sm:QN F (frF F H (fp i)):=Wp fun a ha=>(th a ha).1;refine⟨fp i,fun a ha=>⟨(th a ha).1,(th a ha).2,(h5 i a ha).1⟩,kt.mono sm,Ud h1,by simp[h2],fun j=>if j=i then [] else fp j,fun j t' e'=>?_,fun j k b hb hc=>?_,fun j b hb=>?_⟩
 ·by_cases hj:j=i
  ·subst hj
   rw[XL hlt]at e';cases e';refine⟨_,e1,?_,hz ok sm fun b hb=>Jx hb⟩;dsimp only;rw[Xb rfl]
  ·rw[XT (Ne.symm hj)]at e'
   obtain⟨u',f1,f2⟩:=h3 j t' e';refine⟨u',f1,?_⟩;dsimp only;rw[Xa hj];exact f2.frOther sm fun a ha z=>hj (h4 j i a ha z)
 ·by_cases hj:j=i
  ·simp[hj]at hb
  ·by_cases hk:k=i
   ·simp[hk]at hc
   ·simp only[Xa hj]at hb
    simp only[Xa hk]at hc;exact h4 j k b hb hc
 ·by_cases hj:j=i
  ·simp[hj]at hb
  ·simp only[Xa hj]at hb
   exact h5 j b hb
def Kf {t:TS}(i:Nat){v:V}{Φ:OwnP}{Ψ:ZP}(e:ρ[i]?=some (some (.own v Φ)))(hz:∀{F F' H:Hp} {u:V} {p:Qg},Φ.ok K F H u p->QN F F'->(∀b∈p,F' b=H b)->Ψ.ok K F' u)
 (h:Q9 K t (ρ.set i (some (.zow Ψ))) D):Q9 K t ρ D:=fun F0 H0 F σ H E x S C=>by
 obtain⟨p,hp,S'⟩:=S.freezeZ e hz;refine h F0 H0 _ σ H E ⟨x.hh,x.ff.trans (Wp fun a ha=>(hp a ha).1),S'.sub,fun a ha=>?_⟩ S' C
 by_cases z:a∈p
 ·exact .inr (hp a z).2.2
 ·rw[Yq z]at ha;exact x.fr a ha
def AM {t:TS}{P:Program}{w:World}{C:Addr}{N:Q6}{v:V}(i:Nat)(e:ρ[i]?=some (some (.own v (Zm P w C N))))(h:Q9 K t (ρ.set i (some (.zow (Vi P w C N)))) D):Q9 K t ρ D:=Kf i e (fun a b c=>Zm.fz a b c) h
def Pf {t:TS}{kvs:Vj}{v:V}(i:Nat)(e:ρ[i]?=some (some (.own v (V9 kvs))))(h:Q9 K t (ρ.set i (some (.zow (U0 kvs)))) D):Q9 K t ρ D:=Kf i e (fun a b c=>V9.fz a b c) h
def ZJ (K:W.Frag)(t:TE)(ρ:QL)(Φ:OT->Prop):Prop := ∀(H0 F:Hp) (σ:St) (H:Hp) (Q:VK),QY K H0 F ρ σ H->(∀F' H' v p r,Φ r->QM F H F' H'->(∀a∈p,H a=none)->Z6 K F' H' v r p->Q v H')->t σ H Q
def EvO.d {t:TE}{r:OT}{Φ:OT->Prop}(h:EvO K t ρ r)(hr:Φ r):ZJ K t ρ Φ:=fun H0 F σ H Q S q=>h H0 F σ H Q S fun F' H' v p x hp ok=>q F' H' v p r hr x hp ok
def ZJ.imp {t:TE}{Φ Φ':OT->Prop}(h:ZJ K t ρ Φ)(hi:∀r,Φ r->Φ' r):ZJ K t ρ Φ':=fun H0 F σ H Q S q=>h H0 F σ H Q S fun F' H' v p r hr=>q F' H' v p r (hi r hr)
def ZJ.o {t:TE}{r:OT}(h:ZJ K t ρ (fun r'=>r'=r)):EvO K t ρ r:=fun H0 F σ H Q S q=>h H0 F σ H Q S fun F' H' v p r' e x hp ok=>by subst e;exact q F' H' v p x hp ok
def EvX.d {t:TE}{Φ0:OwnP}{Φ:OT->Prop}(h:EvX K t ρ Φ0)(hr:∀v,Φ (.own v Φ0)):ZJ K t ρ Φ:=fun H0 F σ H Q S q=>h H0 F σ H Q S fun F' H' v p x hp ok=>q F' H' v p (.own v Φ0) (hr v) x hp ⟨rfl,ok⟩
def Wr {te:TE}{i:Nat}{Φ:OT->Prop}(h:ZJ K te ρ Φ)(hn:∀r,Φ r->D.nx (ρ.set i (some r))):Q9 K (Wa te (Jq i)) ρ D:=fun F0 H0 F σ H E x S C =>
 h H0 F σ H _ S fun F' H' v p r hr x' hp ok=>by
  refine C.nx F' _ H' _ (x.trans x') ((S.ext x').set ok (fun a ha=>x.hh.free (hp a ha)) (hn:=fun a ha j w t' q e1 e2 ok'=>?_)) (hn r hr);obtain⟨fp,g1,g2,g3⟩:=S.fp;obtain⟨w',f1,f2⟩:=g1 j t' e1;intro hq;have f3:=f2.ext x';rw[e2]at f1;cases f1
  exact(g3 j a (Te (K:=K) f3 ok' a hq)).2 (hp a ha)
def Ky {te:TE}{Φ:OT->Prop}(h:ZJ K te ρ Φ)(hr:∀r,Φ r->D.rt r):Q9 K (U3 te) ρ D:=fun F0 H0 F σ H E x S C =>
 h H0 F σ H _ S fun F' H' v p r e x' hp ok=>C.rt F' H' v r p (x.trans x') (fun a ha=>x.hh.free (hp a ha)) ok (hr r e)
def SO {i:Nat}{v:V}{Φ:OwnP}(e:ρ[i]?=some (some (.own v Φ)))(hr:D.rt (.own v Φ)):Q9 K (U3 (Za i)) ρ D:=fun F0 H0 F σ H E x S C=>by
 obtain⟨fp,h,_,h5⟩:=S.fp;obtain⟨u,e1,e2⟩:=h i _ e
 exact⟨_,e1,C.rt F H u (.own v Φ) (fp i) x (fun a ha=>(h5 i a ha).1) e2 hr⟩
def Bb (r:OT):Prop := ∀(K:W.Frag) (F F' H:Hp) (v:V) (p:Qg),(∀a∈p,F' a=none)->Z6 K F H v r p->Z6 K F' H v r p
def Rep.thin {F F':Hp}{v w:V}{d:PyData}(r:Rep F v d)(h:VU d=some w):Rep F' v d:=by
 cases r<;>simp[VU]at h
 ·exact .non
 ·exact .bl _
 ·exact .int _
 ·exact .str _
def IH {d:PyData}{w:V}(h:VU d=some w):Bb (.fz d):=fun K F F' H v p _ ok=>⟨ok.1,ok.2.thin h⟩
def CP {ds:Qd}(h:M6 ds):Bb (.ol ds):=fun K F F' H v p hp ok=>by
 obtain⟨a,rfl,rfl,h1,xs,h2,h3⟩:=ok
 exact⟨a,rfl,rfl,hp a Xc,xs,h2,h3.flats h⟩
def Kc (kvs:Vj):Prop := ∀x∈kvs,∃w,VU x.2=some w
theorem PairD.flats {F F':Hp}:∀{xs:List (List Key×V)} {kvs:Vj},Kc kvs->PairD F xs kvs->PairD F' xs kvs
 |_,_,_,.nil=>.nil
 |_,_,h,.cons r t=>by
   obtain⟨w,e⟩:=h _ Xc;exact .cons (r.thin e) (t.flats fun x hx=>h x (Xf _ hx))
def EV {kvs:Vj}{v:V}(h:Kc kvs):Bb (.own v (V9 kvs)):=fun K F F' H u p hp ok=>by
 obtain⟨e,a,xs,rfl,rfl,h1,h2,h3⟩:=ok
 exact⟨e,a,xs,rfl,rfl,hp a Xc,h2,h3.flats h⟩
def Eg {t:TE}{v:V}{Φ0:OwnP}{Ψ:ZP}{Φ:OT->Prop}(i:Nat)(e:ρ[i]?=some (some (.own v Φ0)))(hz:∀{F F' H:Hp} {u:V} {p:Qg},Φ0.ok K F H u p->QN F F'->(∀b∈p,F' b=H b)->Ψ.ok K F' u)
 (hf:∀r,Φ r->Bb r) (h:ZJ K t (ρ.set i (some (.zow Ψ))) Φ):ZJ K t ρ Φ:=fun H0 F σ H Q S q=>by
 obtain⟨p,hp,S'⟩:=S.freezeZ e hz;refine h H0 _ σ H Q S' fun F' H' u pp r hr x hpp ok=>?_;refine q _ H' u pp r hr (Dj (fun a ha=>⟨(hp a ha).1,(hp a ha).2.1⟩) x) hpp (hf r hr K F' _ H' u pp (fun a ha=>?_) ok)
 by_cases z:a∈p
 ·show(if a∈p then none else F' a)=none
  rw[Xb z]
 ·show(if a∈p then none else F' a)=none
  rw[Xa z];exact(ok.there a ha).1
def Np {t:TE}{P:Program}{w:World}{C:Addr}{N:Q6}{v:V}{Φ:OT->Prop}(i:Nat)(e:ρ[i]?=some (some (.own v (Zm P w C N))))(hf:∀r,Φ r->Bb r)(h:ZJ K t (ρ.set i (some (.zow (Vi P w C N)))) Φ):ZJ K t ρ Φ :=
 Eg i e (fun a b c=>Zm.fz a b c) hf h
def O7 {t:TE}{P:Program}{w:World}{C:Addr}{N:Q6}{v:V}{d:PyData}{u:V}(i:Nat)(e:ρ[i]?=some (some (.own v (Zm P w C N))))(hf:VU d=some u)(h:Qs K t (ρ.set i (some (.zow (Vi P w C N)))) d):Qs K t ρ d :=
 EvO.e (ZJ.o (Np (Φ:=fun r=>r=.fz d) i e (fun r hr=>by subst hr;exact IH hf) (h.o.d rfl)))
section
variable {tb te ty tx:TE}{i:Nat}{P:Program}{w:World}{C:Addr}{N:Q6}{k:List Key}
def QY.netz {H0 F H:Hp}{σ:St}(S:QY K H0 F ρ σ H)(e:ρ[i]?=some (some (.zow (Vi P w C N)))):∃a dx el r l d xs ys,σ[i]?=some (some (.ref a))/\NetFz P w C N F a dx el r l d xs ys:=by
 obtain⟨fp,h,_⟩:=S.fp;obtain⟨v,e1,_,a,dx,el,r,l,d,xs,ys,rfl,h1⟩:=h i _ e
 exact⟨a,dx,el,r,l,d,xs,ys,e1,h1⟩
def K9 (c:NetC K C) (e:ρ[i]?=some (some (.zow (Vi P w C N)))) {k m:Int} (hb:Qs K tb ρ (.int k)) (hm:atI (N.rooms.map PyData.int) k=some (.int m)):Qs K (tOp (rIx K) (YK K (Za i) "rooms") tb) ρ (.int m):=fun H0 F σ H Q S q=>by
 obtain⟨a,dx,el,r,l,d,xs,ys,e1,ok⟩:=S.netz e;refine⟨_,e1,a,C,dx,_,.ref r,rfl,S.sub _ _ ok.ins,c.cl,c.rooms,rfl,hb H0 F σ H _ S fun F1 H1 y x1 r1=>?_⟩
 cases r1
 obtain⟨rx,r2,r3⟩:=ok.rooms;obtain⟨z,z1,z2⟩:=B4 (r3.mono x1.ff) hm;exact .inl ⟨r,rx,k,z,rfl,rfl,SqL.of (x1.fh _ _ (x1.ff _ _ r2)),z1,q F1 H1 z x1 z2⟩
def SC (c:NetC K C) (e:ρ[i]?=some (some (.zow (Vi P w C N)))) {k:Int} {n:PyData} (hb:Qs K tb ρ (.int k)) (hm:atI (N.ends.map Zb) k=some n):Qs K (tOp (rIx K) (YK K (Za i) "ends") tb) ρ n:=fun H0 F σ H Q S q=>by
 obtain⟨a,dx,el,r,l,d,xs,ys,e1,ok⟩:=S.netz e;refine⟨_,e1,a,C,dx,_,.ref el,rfl,S.sub _ _ ok.ins,c.cl,c.ends,rfl,hb H0 F σ H _ S fun F1 H1 y x1 r1=>?_⟩
 cases r1
 obtain⟨rx,r2,r3⟩:=ok.ends;obtain⟨z,z1,z2⟩:=B4 (r3.mono x1.ff) hm;exact .inl ⟨el,rx,k,z,rfl,rfl,SqL.of (x1.fh _ _ (x1.ff _ _ r2)),z1,q F1 H1 z x1 z2⟩
def Ei (c:NetC K C) (e:ρ[i]?=some (some (.zow (Vi P w C N)))) (hy:Qs K ty ρ (Zb k)):Qs K (Sd (YK K (Za i) "leaving") ty (Me Zv)) ρ (.list (((QV N.leav k).getD []).map PyData.int)):=fun H0 F σ H Q S q=>by
 obtain⟨a,dx,el,r,l,d,xs,ys,e1,ok⟩:=S.netz e;refine⟨_,e1,a,C,dx,_,.ref l,rfl,S.sub _ _ ok.ins,c.cl,c.leav,rfl,l,rfl,.inr ⟨xs,Rd.of (S.sub _ _ ok.leav.1)⟩,hy H0 F σ H _ S fun F1 H1 y x1 r1=>⟨X4 _,fun p hp=>?_⟩⟩;obtain⟨b,rfl,hb⟩:=WW r1;have S1:=S.ext x1;have x2:QM F1 H1 (upd F1 p (.lst [])) (upd H1 p (.lst [])):=QM.new S1.sub hp;have xx:=x1.trans x2;have lH:upd H1 p (.lst []) l=some (.dT xs):=xx.fh _ _ (xx.ff _ _ ok.leav.1);have bH:upd H1 p (.lst []) b=some (.tup (k.map kV)):=x2.fh _ _ (x2.ff _ _ hb);refine⟨Z4 xs k,V4.t lH bH,?_⟩
 rcases ok.leav.2.val k with ⟨z1,z2⟩|⟨c1,ns,zs,z1,z2,z3,z4⟩
 ·rw[z1]
  exact q _ _ _ xx (by rw[z2];exact .lst Zg .nil)
 ·rw[z1]
  exact q _ _ _ xx (by rw[z2];exact .lst (xx.ff _ _ z3) (z4.mono xx.ff))
def AO (c:NetC K C) (e:ρ[i]?=some (some (.zow (Vi P w C N)))) {k1 k2:List Key} {n:Int} (hy:Qs K ty ρ (.tuple [Zb k1,Zb k2])) (hn:ZZ N.laid (k1,k2)=some n):Qs K (R1 P w (YK K (Za i) "laid") ty) ρ (.int n):=fun H0 F σ H Q S q=>by
 obtain⟨a,dx,el,r,l,d,xs,ys,e1,ok⟩:=S.netz e;refine⟨_,e1,a,C,dx,_,.ref d,rfl,S.sub _ _ ok.ins,c.cl,c.laid,rfl,hy H0 F σ H _ S fun F2 H2 y x2 r2=>?_⟩;obtain⟨b,rfl,hb⟩:=KJ r2;have S2:=S.ext x2;have d3:=ok.laid.2.mono x2.ff
 exact⟨d,b,ys,(k1,k2),.int n,rfl,rfl,x2.fh _ _ (x2.ff _ _ ok.laid.1),d3.at S2.sub,hb.mono fun c' z ez=>S2.sub _ _ ez,by rw[d3.val,hn];rfl,q F2 H2 _ x2 (.int n)⟩
def Io (c:NetC K C) {k1 k2:List Key} (hy:Qs K ty ρ (.tuple [Zb k1,Zb k2])) (e:ρ[i]?=some (some (.zow (Vi P w C N)))):Qs K (SM P w ty (YK K (Za i) "laid")) ρ (.bool (!(ZZ N.laid (k1,k2)).isSome)):=fun H0 F σ H Q S q =>
 hy H0 F σ H _ S fun F2 H2 y x2 r2=>by
  have S2:=S.ext x2;obtain⟨a,dx,el,r,l,d,xs,ys,e1,ok⟩:=S2.netz e;obtain⟨b,rfl,hb⟩:=KJ r2;have d3:=ok.laid.2;refine⟨_,e1,a,C,dx,_,.ref d,rfl,S2.sub _ _ ok.ins,c.cl,c.laid,rfl,d,b,ys,(k1,k2),rfl,rfl,S2.sub _ _ ok.laid.1,d3.at S2.sub,hb.mono fun c' z ez=>S2.sub _ _ ez,q F2 H2 _ x2 ?_⟩;rw[d3.val,Uo];exact .bl _
def QY.dctz {H0 F H:Hp}{σ:St}{kvs:Vj}(S:QY K H0 F ρ σ H)(e:ρ[i]?=some (some (.zow (U0 kvs)))):∃a xs,σ[i]?=some (some (.ref a))/\F a=some (.dT xs)/\PairD F xs kvs:=by
 obtain⟨fp,h,_⟩:=S.fp;obtain⟨v,e1,_,a,xs,rfl,h1,h2⟩:=h i _ e
 exact⟨a,xs,e1,h1,h2⟩
def SN {kvs:Vj}{d:PyData}(e:ρ[i]?=some (some (.zow (U0 kvs))))(hy:Qs K ty ρ (Zb k))(hd:VZ kvs k=some d):Qs K (Hv (Za i) ty) ρ d:=fun H0 F σ H Q S q=>by
 obtain⟨a,xs,e1,_⟩:=S.dctz e;refine⟨_,e1,hy H0 F σ H _ S fun F1 H1 y x1 r1=>?_⟩;obtain⟨a',xs',e1',f2,f3⟩:=(S.ext x1).dctz e;rw[e1]at e1';cases e1';obtain⟨b,rfl,hb⟩:=WW r1
 rcases f3.val k with ⟨_,z⟩|⟨x,d',z1,z2,z3⟩
 ·rw[hd]at z;cases z
 ·rw[hd]at z2
  cases z2
  exact⟨a,x,rfl,z1▸V4.t (x1.fh _ _ f2) (x1.fh _ _ hb),q F1 H1 x x1 z3⟩
def FU {kvs:Vj}(hy:Qs K ty ρ (Zb k))(e:ρ[i]?=some (some (.zow (U0 kvs)))):Qs K (Hn ty (Za i)) ρ (.bool (VZ kvs k).isSome):=fun H0 F σ H Q S q =>
 hy H0 F σ H _ S fun F1 H1 y x1 r1=>by
  obtain⟨a,xs,e1,f2,f3⟩:=(S.ext x1).dctz e;obtain⟨b,rfl,hb⟩:=WW r1
  exact⟨_,e1,a,_,rfl,V4.t (x1.fh _ _ f2) (x1.fh _ _ hb),q F1 H1 _ x1 (by rw[Nz f3];exact .bl _)⟩
end
end
def Zy (K:W.Frag)(R:List OT->(OT->Prop)->Prop):Sp:=fun vs H Q _=>∃F ts Φ,KTs K F/\QN F H/\Args K F vs ts/\R ts Φ/\∀F' H' v p r,Φ r->QM F H F' H'->(∀a∈p,H a=none)->Z6 K F' H' v r p->Q v H'
def Jo (K:W.Frag)(t:TA)(ρ:QL)(Φ:List OT->Prop):Prop := ∀(H0 F:Hp) (σ:St) (H:Hp) (Q:List V->Hp->Prop),QY K H0 F ρ σ H->(∀F' H' vs ts,Φ ts->QM F H F' H'->Args K F' vs ts->Q vs H')->t σ H Q
section
variable {K:W.Frag}{ρ:QL}{D:PEnds}
def Yj {R:List OT->(OT->Prop)->Prop}{t:TA}{E:XK}{ts:List OT}{Φ:OT->Prop}(h:Vh K t ρ ts)(hR:R ts Φ):ZJ K (Wz (Zy K R) [] E t) ρ Φ:=fun H0 F σ H Q S q =>
 h H0 F σ H _ S fun F1 H1 vs x1 r1=>⟨F1,ts,Φ,(S.ext x1).kt,x1.fh,by rw[X2];exact r1,hR,fun F2 H2 v p r hr x2 hp ok=>q F2 H2 v p r hr (x1.trans x2) (fun a ha=>x1.hh.free (hp a ha)) ok⟩
def Jv {t:TA}{ts:List OT}{Φ:List OT->Prop}(h:Vh K t ρ ts)(hp:Φ ts):Jo K t ρ Φ:=fun H0 F σ H Q S q=>h H0 F σ H Q S fun F' H' vs x r=>q F' H' vs ts hp x r
def Fo {ta:TE}{Φ:OT->Prop}{Φ':List OT->Prop}(h:ZJ K ta ρ Φ)(hi:∀r,Φ r->∃ds,r=.ol ds/\Φ' [.fz (.list ds)]):Jo K (Zl ta Zv) ρ Φ':=fun H0 F σ H Q S q =>
 h H0 F σ H _ S fun F1 H1 v p r hr x hp ok=>by
  obtain⟨ds,rfl,hp'⟩:=hi r hr;obtain⟨a,rfl,rfl,r1,xs,r2,r3⟩:=ok;exact q (upd F1 a (.lst xs)) H1 [.ref a] _ hp' (x.freeze r1 r2 (hp a Xc)) (.fz (.lst Zg (r3.mono (QN.new r1))) .nil)
def Pb {R:List OT->OT->Prop}{t:TA}{E:XK}{ΦA:List OT->Prop}{Φ:OT->Prop}(h:Jo K t ρ ΦA)(hR:∀ts,ΦA ts->∃r,R ts r/\Φ r):ZJ K (Wz (QC (K:=K) R) [] E t) ρ Φ:=fun H0 F σ H Q S q =>
 h H0 F σ H _ S fun F1 H1 vs ts ht x1 r1=>by
  obtain⟨r,h1,h2⟩:=hR ts ht
  exact⟨F1,ts,r,(S.ext x1).kt,x1.fh,by rw[X2];exact r1,h1,fun F2 H2 v p x2 hp ok=>q F2 H2 v p r h2 (x1.trans x2) (fun a ha=>x1.hh.free (hp a ha)) ok⟩
section
variable {P:Program}{w:World}{C:Addr}{N:Q6}{i:Nat}{m:Str}
def NoF (m:Str):Prop := ∀e r l d:Addr,([("ends",V.ref e),("rooms",V.ref r),("leaving",V.ref l),("laid",V.ref d)]:List (Str×V)).lookup m=none
def KH {R:List OT->(OT->Prop)->Prop}{t:TA}{E:XK}{ts:List OT}{Φ:OT->Prop}(hm:NoF m)(e:ρ[i]?=some (some (.zow (Vi P w C N))))(h:Vh K t ρ ts)(hR:R (.zow (Vi P w C N)::ts) Φ) :
 ZJ K (Gp C m (Zy K R) [] E (Za i) t) ρ Φ:=fun H0 F σ H Q S q=>by
 obtain⟨a,dx,el,r,l,d,xs,ys,e1,ok⟩:=S.netz e;refine⟨_,e1,a,dx,_,rfl,S.sub _ _ ok.ins,hm _ _ _ _,h H0 F σ H _ S fun F1 H1 vs x1 r1=>?_⟩;refine⟨F1,_,Φ,(S.ext x1).kt,x1.fh,.zow (Ψ:=Vi P w C N) ⟨a,dx,el,r,l,d,xs,ys,rfl,ok.mono x1.ff⟩ (by rw[X2];exact r1),hR,fun F2 H2 v p r' hr x2 hp ok'=>q F2 H2 v p r' hr (x1.trans x2) (fun b hb=>x1.hh.free (hp b hb)) ok'⟩
def AV {R:List OT->(OT->Prop)->Prop}{ta:TE}{t:TA}{E:XK}{ts:List OT}{Φ1 Φ:OT->Prop}(hm:NoF m)(h1:ZJ K ta ρ Φ1)(hz:∀r,Φ1 r->∃v N,r=.own v (Zm P w C N)/\∃Φ2,R (.zow (Vi P w C N)::ts) Φ2/\∀r,Φ2 r->Φ r)
 (h:Vh K t ρ ts):ZJ K (Gp C m (Zy K R) [] E ta t) ρ Φ:=fun H0 F σ H Q S q =>
 h1 H0 F σ H _ S fun F1 H1 v p r hr x1 hp ok=>by
  obtain⟨v0,N,rfl,Φ2,hR,hi⟩:=hz r hr;obtain⟨rfl,ok⟩:=ok;have th:=fun a ha=>(Zm P w C N).there ok a ha;have sm:QN F1 (frF F1 H1 p):=Wp fun a ha=>(th a ha).1
  have x1':QM F H (frF F1 H1 p) H1:=⟨x1.hh,x1.ff.trans sm,Ud x1.fh,fun a ha=>by
   by_cases z:a∈p
   ·exact .inr (hp a z)
   ·rw[Yq z]at ha;exact x1.fr a ha⟩
  obtain⟨a,dx,el,r,l,d,xs,ys,as,rfl,rfl,o⟩:=ok;refine⟨a,dx,_,rfl,o.ins.2,hm _ _ _ _,h H0 _ σ H1 _ (S.ext x1') fun F2 H2 vs x2 r2=>?_⟩;have z:=o.fz sm (fun b hb=>Jx hb)
  exact⟨F2,_,Φ2,(S.ext (x1'.trans x2)).kt,x2.fh,.zow (Ψ:=Vi P w C N) ⟨a,dx,el,r,l,d,xs,ys,rfl,z.mono x2.ff⟩ (by rw[X2];exact r2),hR,fun F3 H3 v p' r' hr' x3 hp' ok'=>q F3 H3 v p' r' (hi r' hr') ((x1'.trans x2).trans x3) (fun b hb=>(x1'.trans x2).hh.free (hp' b hb)) ok'⟩
structure ExtN (p:Qg)(F H F' H':Hp):Prop where
 hh:∀b o,b∉p->H b=some o->H' b=some o
 ff:QN F F'
 fh:QN F' H'
 fr:∀b,F' b≠none->F b≠none\/H b=none\/b∈p
def spN (K:W.Frag)(P:Program)(w:World)(C:Addr)(R:Q6->List OT->(Q6->Prop)->Prop):Sp:=fun vs H Q _=>∃F a vs' p ts N Ψ,vs=.ref a::vs'/\KTs K F/\QN F H/\Args K F vs' ts/\(Zm P w C N).ok K F H (.ref a) p/\R N ts Ψ /\
 ∀F' H' p' N',Ψ N'->ExtN p F H F' H'->(Zm P w C N').ok K F' H' (.ref a) p'->(∀b∈p',b∈p\/H b=none)->Q .non H'
theorem Zu.move {F F' H H':Hp}(s:QN F F'):∀{as:Qg} {dss:List (Qd)},(∀a∈as,F' a=none)->(∀a∈as,H' a=H a)->Zu F H as dss->Zu F' H' as dss
 |[],[],_,_,_=>trivial
 |a::as,_::_,hF,hH,o=>by
   obtain⟨⟨h1,xs,h2,h3⟩,o2⟩:=o
   exact⟨⟨hF a Xc,xs,by rw[hH a Xc];exact h2,h3.mono s⟩,Zu.move s (fun b hb=>hF b (Xf _ hb)) (fun b hb=>hH b (Xf _ hb)) o2⟩
 |[],_::_,_,_,h=>False.elim h
 |_::_,[],_,_,h=>False.elim h
def Z6.move {F F' H H':Hp}{v:V}{t:OT}{p:Qg}(s:QN F F')(hF:∀a∈p,F' a=none)(hH:∀a∈p,H' a=H a)(h:Z6 K F H v t p):Z6 K F' H' v t p:=by
 cases t with
 |fz d=>exact⟨h.1,h.2.mono s⟩
 |zow Ψ=>exact⟨h.1,Ψ.mono s h.2⟩
 |ol ds =>
   obtain⟨a,rfl,rfl,h1,xs,h2,h3⟩:=h
   exact⟨a,rfl,rfl,hF a Xc,xs,by rw[hH a Xc];exact h2,h3.mono s⟩
 |oll dss =>
   obtain⟨a,as,rfl,rfl,h1,h2,h3,h4⟩:=h
   exact⟨a,as,rfl,rfl,h1,hF a Xc,by rw[hH a Xc];exact h3,h4.move s (fun b hb=>hF b (Xf _ hb)) fun b hb=>hH b (Xf _ hb)⟩
 |scr ns=>obtain⟨h1,a,h2,h3⟩:=h;exact⟨h1,a,h2,h3.mono s⟩
 |own v0 Φ=>exact⟨h.1,Φ.mono s hF hH h.2⟩
def Pg {F0 H0 F H:Hp}{σ:St}{E:Ends}{v:V}{Ψ:Q6->Prop}(S:QY K H0 F ρ σ H)(x:QM F0 H0 F H)(e:ρ[i]?=some (some (.own v (Zm P w C N))))(hn:∀N',Ψ N'->D.nx (ρ.set i (some (.own v (Zm P w C N')))))(C':Cnv K F0 H0 D E) :
 ∃a p,v=.ref a/\(Zm P w C N).ok K F H (.ref a) p/\∀F' H' p' N',Ψ N'->ExtN p F H F' H'->(Zm P w C N').ok K F' H' (.ref a) p'->(∀b∈p',b∈p\/H b=none)->E.nx σ H':=by
 obtain⟨kt,h1,h2,fp,h3,h4,h5⟩:=S;obtain⟨u,e1,rfl,ok⟩:=h3 i _ e;obtain⟨a,_,_,_,_,_,_,_,_,rfl,_⟩:=id ok;have hlt:=(Xe.mp e).1;refine⟨a,fp i,rfl,ok,fun F' H' p' N' hN xn ok' sub=>?_⟩;have out:∀j,j≠i->∀b∈fp j,b∉fp i:=fun j hj b hb z=>hj (h4 j i b hb z)
 have hH:∀j,j≠i->∀b∈fp j,H' b=H b:=fun j hj b hb=>by
  obtain⟨o,ho⟩:=MT (h5 j b hb).2;rw[xn.hh b o (out j hj b hb) ho,ho]
 refine C'.nx F' σ H' _ ⟨fun b o hb=>xn.hh b o (fun z=>by rw[(h5 i b z).1]at hb;cases hb) (x.hh b o hb),x.ff.trans xn.ff,xn.fh,fun b hb=>?_⟩ ⟨kt.mono xn.ff,xn.fh,by simp[h2],fun j=>if j=i then p' else fp j,fun j t' e'=>?_,fun j k b hb hc=>?_,fun j b hb=>?_⟩ (hn N' hN)
 ·rcases xn.fr b hb with z|z|z
  ·exact x.fr b z
  ·exact .inr (x.hh.free z)
  ·exact .inr (h5 i b z).1
 ·by_cases hj:j=i
  ·subst hj
   rw[XL hlt]at e';cases e';refine⟨_,e1,rfl,?_⟩;simp only[if_true];exact ok'
  ·rw[XT (Ne.symm hj)]at e'
   obtain⟨u',f1,f2⟩:=h3 j t' e';refine⟨u',f1,?_⟩;simp only[Xa hj];refine f2.move xn.ff (fun b hb=>?_) (hH j hj)
   cases z:F' b with
   |none=>rfl
   |some o =>
     rcases xn.fr b (Vy z) with y|y|y
     ·exact Xi (f2.there b hb).1 y
     ·exact Xi y (h5 j b hb).2
     ·exact Xi y (out j hj b hb)
 ·by_cases hj:j=i
  ·by_cases hk:k=i
   ·omega
   ·simp only[Xb hj]at hb
    simp only[Xa hk]at hc;rcases sub b hb with z|z
    ·exact Xi (h4 k i b hc z) hk
    ·exact Xi z (h5 k b hc).2
  ·simp only[Xa hj]at hb
   by_cases hk:k=i
   ·simp only[Xb hk]at hc
    rcases sub b hc with z|z
    ·exact Xi (h4 j i b hb z) hj
    ·exact Xi z (h5 j b hb).2
   ·simp only[Xa hk]at hc
    exact h4 j k b hb hc
 ·by_cases hj:j=i
  ·simp only[Xb hj]at hb
   refine⟨?_,((Zm P w C N').there ok' b hb).2⟩
   rcases sub b hb with z|z
   ·exact(h5 i b z).1
   ·exact x.hh.free z
  ·simp only[Xa hj]at hb
   exact⟨(h5 j b hb).1,by rw[hH j hj b hb];exact(h5 j b hb).2⟩
def Uf {R:Q6->List OT->(Q6->Prop)->Prop}{t:TA}{E':XK}{v:V}{ΦA:List OT->Prop}(hm:NoF m)(e:ρ[i]?=some (some (.own v (Zm P w C N))))(hA:Jo K t ρ ΦA)
 (hR:∀ts,ΦA ts->∃Ψ,R N ts Ψ/\∀N',Ψ N'->D.nx (ρ.set i (some (.own v (Zm P w C N'))))):Q9 K (U5 (Gp C m (spN K P w C R) [] E' (Za i) t)) ρ D:=fun F0 H0 F σ H E x S C'=>by
 obtain⟨a,dx,el,r,l,d,xs,ys,as,rfl,e1,ok,_⟩:=S.net e;refine⟨_,e1,a,dx,_,rfl,ok.ins.2,hm _ _ _ _,hA H0 F σ H _ S fun F1 H1 vs ts ht x1 r1=>?_⟩;obtain⟨Ψ,hR',hn⟩:=hR ts ht;obtain⟨a',p,ea,okp,fin⟩:=Pg (S.ext x1) (x.trans x1) e hn C'
 cases ea
 exact⟨F1,a,vs++[],p,ts,N,Ψ,rfl,(S.ext x1).kt,x1.fh,by rw[X2];exact r1,okp,hR',fin⟩
def Pu {R:Q6->List OT->(Q6->Prop)->Prop}{t:TA}{E':XK}{v:V}{ΦA:List OT->Prop}(e:ρ[i]?=some (some (.own v (Zm P w C N))))(hA:Jo K t ρ ΦA)
 (hR:∀ts,ΦA ts->∃Ψ,R N ts Ψ/\∀N',Ψ N'->D.nx (ρ.set i (some (.own v (Zm P w C N'))))):Q9 K (U5 (Wz (spN K P w C R) [] E' (Zl (Za i) t))) ρ D:=fun F0 H0 F σ H E x S C'=>by
 obtain⟨a,dx,el,r,l,d,xs,ys,as,rfl,e1,ok,_⟩:=S.net e;refine⟨_,e1,hA H0 F σ H _ S fun F1 H1 vs ts ht x1 r1=>?_⟩;obtain⟨Ψ,hR',hn⟩:=hR ts ht;obtain⟨a',p,ea,okp,fin⟩:=Pg (S.ext x1) (x.trans x1) e hn C'
 cases ea
 exact⟨F1,a,vs++[],p,ts,N,Ψ,rfl,(S.ext x1).kt,x1.fh,by rw[X2];exact r1,okp,hR',fin⟩
def spI (P:Program)(w:World)(C:Addr):Sp:=fun vs H Q _=>∃x dx,vs=[.ref x]/\H x=some (.ins C dx [])/\∀e r l d H',H e=none->H r=none->H l=none->H d=none->[x,e,r,l,d].Nodup ->
 H' x=some (.ins C dx [("ends",.ref e),("rooms",.ref r),("leaving",.ref l),("laid",.ref d)])->H' e=some (.lst [])->H' r=some (.lst [])->H' l=some (.dT [])->H' d=some (pdO P w d [])->(∀b,b∉[x,e,r,l,d]->H' b=H b)->Q .non H'
def Cr {E:XK}:EvX K (HI C (spI P w C) [] E Zv) ρ (Zm P w C ⟨[],[],[],[]⟩):=fun H0 F σ H Q S q=>fun x dx hx hdx ne=>by
 refine⟨x,dx,rfl,Zg,fun e r l d H' he hr hl hd nd h1 h2 h3 h4 h5 ho=>⟨rfl,?_⟩⟩
 have un:∀{b:Addr},upd (upd H dx (.own x)) x (.ins C dx []) b=none->H b=none/\b≠x/\b≠dx:=fun{b} hb=>by
  have n1:b≠x:=fun z=>by rw[z,Zg]at hb;cases hb
  rw[Q7 n1]at hb;have n2:b≠dx:=fun z=>by rw[z,Zg]at hb;cases hb
  rw[Q7 n2]at hb;exact⟨hb,n1,n2⟩
 obtain⟨e1,e2,e3⟩:=un he;obtain⟨r1,r2,r3⟩:=un hr;obtain⟨l1,l2,l3⟩:=un hl;obtain⟨d1,d2,d3⟩:=un hd
 have hdx':H' dx=some (.own x):=by
  rw[ho dx (by simp only[Xg,XZ,or_false,not_or];exact⟨ne,Ne.symm e3,Ne.symm r3,Ne.symm l3,Ne.symm d3⟩),Q7 ne,Zg]
 have kp:∀b o,H b=some o->H' b=some o:=fun b o hb=>by
  have nb:∀{c:Addr},H c=none->b≠c:=fun hc z=>by rw[z,hc]at hb;cases hb
  rw[ho b (by simp only[Xg,XZ,or_false,not_or];exact⟨nb hx,nb e1,nb r1,nb l1,nb d1⟩),Q7 (nb hx),Q7 (nb hdx)];exact hb
 have fr:∀{b:Addr},H b=none->F b=none:=fun hb=>S.sub.free hb;refine q F H' (.ref x) [x,dx,e,r,l,d] ⟨kp,QN.refl _,fun b o hb=>kp b o (S.sub b o hb),fun _ h=>.inl h⟩ (fun b hb=>?_) ⟨x,dx,e,r,l,d,[],[],[],rfl,rfl,?_,⟨fr hx,h1⟩,⟨fr hdx,hdx'⟩,⟨fr e1,[],h2,.nil⟩,⟨fr r1,[],h3,.nil⟩,⟨fr l1,h4,.nil⟩,⟨fr d1,h5,.nil⟩⟩
 ·simp only[Xg,XZ,or_false]at hb
  rcases hb with rfl|rfl|rfl|rfl|rfl|rfl
  ·exact hx
  ·exact hdx
  ·exact e1
  ·exact r1
  ·exact l1
  ·exact d1
 ·simp only[XN,Xg,XZ,or_false,not_or,not_false_eq_true,Gc,and_true]at nd ⊢
  obtain⟨⟨a1,a2,a3,a4⟩,b1,c1,f1⟩:=nd
  exact⟨⟨Ne.symm ne,a1,a2,a3,a4⟩,⟨Ne.symm e3,Ne.symm r3,Ne.symm l3,Ne.symm d3⟩,b1,c1,f1⟩
end
end
section
variable {P:Program}{w:World}{K:W.Frag}{mg:Str->Qf}{base:Heap}
def Fun.evD {x qual:Str}{st:Stmt}{f:Addr}{fd:FuncData}{N ps:Qh}{k:Nat}{R:List OT->(OT->Prop)->Prop}(F:Fun K x qual st f fd)(S:Qq N ps (Q8 st))(len:∀ts Φ,R ts Φ->ts.length=ps.length)
 (Xbp:∀(cdv:Value) (A:Around) (outer:List Env) (s:Shared) (H:Hp) (E:XK) (ts:List OT) (Φ:OT->Prop),Room k (A.deeper (envOfC qual (Q8 st) s.heap.objs.size f cdv))->R ts Φ ->
  ∃t,PSs (Ya CX0 P w K mg base N qual (Q8 st) f cdv A outer s H E).nox (Vc st) t/\Q9 K t (ts.map some++List.replicate (N.length-ts.length) none) { nx:=fun _=>Φ (.fz .none),rt:=Φ }):FnOk P w K mg base CX0 (k+1) f fd ps (Zy K R):=by
 refine F.ok S (fun vs H Q E ⟨F,ts,Φ,_,_,ha,hR,_⟩=>ha.length.trans (len ts Φ hR)) fun cdv A outer s H vs Q E hr ⟨F,ts,Φ,kt,sm,ha,hR,q⟩=>?_;obtain⟨t,h1,h2⟩:=Xbp cdv A outer s H E ts Φ hr hR;refine⟨t,h1,h2 F H F (start N vs) H _ (QM.refl sm) ⟨kt,sm,?_,fun _=>[],fun i t' e=>?_,fun i j a h=>(nomatch h),fun i a h=>(nomatch h)⟩ ⟨fun F' σ' H' ρ' x' _ e=>?_,fun F' H' v r' p x' hp ok e=>q F' H' v p r' e x' hp ok,fun _ _ _ _ _ _ z=>False.elim z,fun _ _ _ _ _ _ z=>False.elim z⟩⟩
 ·unfold start
  simp[ha.length]
 ·have hlt:i<ts.length:=by
   by_cases z:i<ts.length
   ·exact z
   ·rw[GR (by simpa using z)]at e
    have:=List.mem_of_getElem? e
    simp at this
  rw[JG (by simpa using hlt),Xj]at e;have e':ts[i]?=some t':=by
   cases z:ts[i]? with
   |none=>rw[z]at e;simp at e
   |some w=>rw[z]at e;simp at e;rw[e]
  obtain⟨v,e1,e2⟩:=ha.get (H:=H) i t' e';refine⟨v,?_,e2⟩;unfold start;have hl2:i<vs.length:=by rw[ha.length];exact hlt
  rw[JG (by simpa using hl2),Xj,e1];rfl
 ·exact q F' H' _ [] _ e x' (fun _ z=>nomatch z) ⟨rfl,.non⟩
def Fun.evN {C:Addr}{x qual:Str}{st:Stmt}{f:Addr}{fd:FuncData}{N ps:Qh}{k:Nat}{R:Q6->List OT->(Q6->Prop)->Prop}(F:Fun K x qual st f fd)(S:Qq N ps (Q8 st))(len:∀M ts Ψ,R M ts Ψ->ts.length+1=ps.length)
 (Xbp:∀(cdv:Value) (A:Around) (outer:List Env) (s:Shared) (H:Hp) (E:XK) (v:V) (M:Q6) (ts:List OT) (Ψ:Q6->Prop),Room k (A.deeper (envOfC qual (Q8 st) s.heap.objs.size f cdv))->R M ts Ψ ->
  ∃t,PSs (Ya CX0 P w K mg base N qual (Q8 st) f cdv A outer s H E).nox (Vc st) t/\Q9 K t (some (.own v (Zm P w C M))::(ts.map some++List.replicate (N.length-(ts.length+1)) none)) { nx:=fun ρ'=>∃M',Ψ M'/\ρ'[0]?=some (some (.own v (Zm P w C M'))),rt:=fun _=>False }) :
 FnOk P w K mg base CX0 (k+1) f fd ps (spN K P w C R):=by
 refine F.ok S (fun vs H Q E ⟨F,a,vs',p,ts,M,Ψ,e,_,_,ha,_,hR,_⟩=>by rw[e,XX,ha.length];exact len _ _ _ hR) fun cdv A outer s H vs Q E hr ⟨F,a,vs',p,ts,M,Ψ,e,kt,sm,ha,ok,hR,q⟩=>?_;subst e;obtain⟨t,h1,h2⟩:=Xbp cdv A outer s H E (.ref a) M ts Ψ hr hR
 have h0:∀b,(fun b=>if b∈p then none else H b:Hp) b=none->b∈p\/H b=none:=fun b hb=>by
  by_cases z:b∈p
  ·exact .inl z
  ·simp only[Xa z]at hb;exact .inr hb
 have th:=fun b hb=>(Zm P w C M).there ok b hb
 refine⟨t,h1,h2 F (fun b=>if b∈p then none else H b) F (start N (.ref a::vs')) H _ ⟨fun b o hb=>?_,QN.refl _,sm,fun _ h=>.inl h⟩ ⟨kt,sm,?_,fun j=>if j=0 then p else [],fun j t' e=>?_,fun j k' b hb hc=>?_,fun j b hb=>?_⟩
  ⟨fun F' σ' H' ρ' x' S' ⟨M',hM,e0⟩=>?_,fun F' H' v r' p x' hp ok e=>False.elim e,fun _ _ _ _ _ _ z=>False.elim z,fun _ _ _ _ _ _ z=>False.elim z⟩⟩
 ·by_cases z:b∈p
  ·simp[z]at hb
  ·simp only[Xa z]at hb;exact hb
 ·unfold start
  simp[ha.length]
 ·cases j with
  |zero =>
    simp at e
    subst e;refine⟨.ref a,?_,rfl,?_⟩
    ·unfold start
     simp
    ·simp only[if_true]
     exact ok
  |succ i =>
    rw[DS]at e;have hlt:i<ts.length:=by
     by_cases z:i<ts.length
     ·exact z
     ·rw[GR (by simpa using z)]at e
      have:=List.mem_of_getElem? e
      simp at this
    rw[JG (by simpa using hlt),Xj]at e;have e':ts[i]?=some t':=by
     cases z:ts[i]? with
     |none=>rw[z]at e;simp at e
     |some w=>rw[z]at e;simp at e;rw[e]
    obtain⟨v,e1,e2⟩:=ha.get (H:=H) i t' e';refine⟨v,?_,?_⟩
    ·unfold start
     have hl2:i<vs'.length:=by rw[ha.length];exact hlt
     rw[Xs,Gd,DS,JG (by simpa using hl2),Xj,e1];rfl
    ·simp only[Nat.add_one_ne_zero,if_false]
     exact e2
 ·by_cases hj:j=0
  ·by_cases hk:k'=0
   ·rw[hj,hk]
   ·simp[hk]at hc
  ·simp[hj]at hb
 ·by_cases hj:j=0
  ·simp only[Xb hj]at hb
   exact⟨by simp[hb],(th b hb).2⟩
  ·simp[hj]at hb
 ·obtain⟨fp,g1,g2,g3⟩:=S'.fp
  obtain⟨u,u1,rfl,ok'⟩:=g1 0 _ e0;refine q F' H' (fp 0) M' hM ⟨fun b o nb hb=>x'.hh b o (by simp only[Xa nb];exact hb),x'.ff,x'.fh,fun b hb=>?_⟩ ok' (fun b hb=>h0 b (g3 0 b hb).1)
  rcases x'.fr b hb with z|z
  ·exact .inl z
  ·exact .inr ((h0 b z).symm)
structure Mf (K:W.Frag)(C:Addr)(m qual:Str)(st:Stmt)(ps:Qh):Prop where
 ex:∃f fd,Fun K m qual st f fd/\Meth K C m f/\YL K fd ps []
def V7 (P:Program)(w:World)(K:W.Frag)(mg:Str->Qf)(base:Heap)(C:Addr)(m:Str)(ps:Qh)(k:Nat)(sp:Sp):Prop :=
 ∃f fd,Meth K C m f/\YL K fd ps []/\FnOk P w K mg base CX0 k f fd ps sp
def Mf.evD {C:Addr}{m qual:Str}{st:Stmt}{N ps:Qh}{k:Nat}{R:List OT->(OT->Prop)->Prop}(D:Mf K C m qual st ps)(S:Qq N ps (Q8 st))(len:∀ts Φ,R ts Φ->ts.length=ps.length)
 (Xbp:∀(f:Addr) (cdv:Value) (A:Around) (outer:List Env) (s:Shared) (H:Hp) (E:XK) (ts:List OT) (Φ:OT->Prop),Room k (A.deeper (envOfC qual (Q8 st) s.heap.objs.size f cdv))->R ts Φ ->
  ∃t,PSs (Ya CX0 P w K mg base N qual (Q8 st) f cdv A outer s H E).nox (Vc st) t/\Q9 K t (ts.map some++List.replicate (N.length-ts.length) none) { nx:=fun _=>Φ (.fz .none),rt:=Φ }):V7 P w K mg base C m ps (k+1) (Zy K R):=by
 obtain⟨f,fd,F,hm,hb⟩:=D.ex
 exact⟨f,fd,hm,hb,F.evD S len fun cdv A outer s H E ts Φ=>Xbp f cdv A outer s H E ts Φ⟩
def Mf.evN {C:Addr}{m qual:Str}{st:Stmt}{N ps:Qh}{k:Nat}{R:Q6->List OT->(Q6->Prop)->Prop}(D:Mf K C m qual st ps)(S:Qq N ps (Q8 st))(len:∀M ts Ψ,R M ts Ψ->ts.length+1=ps.length)
 (Xbp:∀(f:Addr) (cdv:Value) (A:Around) (outer:List Env) (s:Shared) (H:Hp) (E:XK) (v:V) (M:Q6) (ts:List OT) (Ψ:Q6->Prop),Room k (A.deeper (envOfC qual (Q8 st) s.heap.objs.size f cdv))->R M ts Ψ ->
  ∃t,PSs (Ya CX0 P w K mg base N qual (Q8 st) f cdv A outer s H E).nox (Vc st) t/\Q9 K t (some (.own v (Zm P w C M))::(ts.map some++List.replicate (N.length-(ts.length+1)) none)) { nx:=fun ρ'=>∃M',Ψ M'/\ρ'[0]?=some (some (.own v (Zm P w C M'))),rt:=fun _=>False }) :
 V7 P w K mg base C m ps (k+1) (spN K P w C R):=by
 obtain⟨f,fd,F,hm,hb⟩:=D.ex
 exact⟨f,fd,hm,hb,F.evN S len fun cdv A outer s H E v M ts Ψ=>Xbp f cdv A outer s H E v M ts Ψ⟩
def Df.evD {x:Str}{st:Stmt}{N ps:Qh}{k:Nat}{R:List OT->(OT->Prop)->Prop}(D:Df K mg x st ps)(S:Qq N ps (Q8 st))(len:∀ts Φ,R ts Φ->ts.length=ps.length)
 (Xbp:∀(f:Addr) (cdv:Value) (A:Around) (outer:List Env) (s:Shared) (H:Hp) (E:XK) (ts:List OT) (Φ:OT->Prop),Room k (A.deeper (envOfC x (Q8 st) s.heap.objs.size f cdv))->R ts Φ ->
  ∃t,PSs (Ya CX0 P w K mg base N x (Q8 st) f cdv A outer s H E).nox (Vc st) t/\Q9 K t (ts.map some++List.replicate (N.length-ts.length) none) { nx:=fun _=>Φ (.fz .none),rt:=Φ }):Qy P w K mg base x ps (k+1) (Zy K R):=by
 obtain⟨f,fd,F,hm,hb⟩:=D.ex
 exact⟨f,fd,hm,F.kp,hb,F.evD S len fun cdv A outer s H E ts Φ=>Xbp f cdv A outer s H E ts Φ⟩
def Df.evN {C:Addr}{x:Str}{st:Stmt}{N ps:Qh}{k:Nat}{R:Q6->List OT->(Q6->Prop)->Prop}(D:Df K mg x st ps)(S:Qq N ps (Q8 st))(len:∀M ts Ψ,R M ts Ψ->ts.length+1=ps.length)
 (Xbp:∀(f:Addr) (cdv:Value) (A:Around) (outer:List Env) (s:Shared) (H:Hp) (E:XK) (v:V) (M:Q6) (ts:List OT) (Ψ:Q6->Prop),Room k (A.deeper (envOfC x (Q8 st) s.heap.objs.size f cdv))->R M ts Ψ ->
  ∃t,PSs (Ya CX0 P w K mg base N x (Q8 st) f cdv A outer s H E).nox (Vc st) t/\Q9 K t (some (.own v (Zm P w C M))::(ts.map some++List.replicate (N.length-(ts.length+1)) none)) { nx:=fun ρ'=>∃M',Ψ M'/\ρ'[0]?=some (some (.own v (Zm P w C M'))),rt:=fun _=>False }) :
 Qy P w K mg base x ps (k+1) (spN K P w C R):=by
 obtain⟨f,fd,F,hm,hb⟩:=D.ex
 exact⟨f,fd,hm,F.kp,hb,F.evN S len fun cdv A outer s H E v M ts Ψ=>Xbp f cdv A outer s H E v M ts Ψ⟩
def Hm (P:Program)(w:World)(K:W.Frag)(mg:Str->Qf)(base:Heap)(x:Str)(C:Addr)(k:Nat):Prop :=
 ∃f fd,Mk K C f/\mg x=some (.ref C)/\YL K fd ["self"] []/\FnOk P w K mg base CX0 k f fd ["self"] (spI P w C)
end
section
variable {X:Cx}
def YT {C:Addr}{m:Str}{pos apos:Pos}{o e:Expr}{es:Qi}{ta:TE}{t:TA}{ps:Qh}{j k:Nat}{sp:Sp}{pl:Sem Bool}(M:V7 X.prog X.w X.K X.mg X.base C m ps j sp)(c:NetC X.K C)(hr:Room k X.A)(he:PE X o ta)(ha:PA X (e::es) t)(hj:j<=k:=by walk_at"j")
 (hst:starEach (e::es) X.env=(false,eval e X.env)::starEach es X.env:=by rfl) (hpl:(backTo pos (starEach es X.env)).any (·.1)=false:=by rfl)
 (ht:eval (.Call (.Attribute o m apos) (e::es) [] pos) X.env=(do
  let ov <- eval o X.env
  standAt apos.atName
  let (f,first) <- holding [ov] (getMethod ov m pl)
  callWith pos f first (backTo pos (starEach (e::es) X.env)) (backToKw pos (keywordEach [] X.env))):=by rfl) :
 PE X (.Call (.Attribute o m apos) (e::es) [] pos) (Gp C m sp [] E0 ta t):=by
 obtain⟨f,fd,hm,hb,F⟩:=M;exact CK (pl:=pl) he c.cl hm F (hr.mono hj) hb .nil Ht ha hst hpl ht
def C4 {C:Addr} {x:Str} {p pos:Pos} {j k:Nat} (M:Hm X.prog X.w X.K X.mg X.base x C j) (hr:Room k X.A) (hj:j+1<=k:=by walk_at"j") (hg:Gl X x:=by rfl) (hdb:(x==("__debug__" : Str))=false:=by decide +kernel) :
 PE X (.Call (.Name x p) [] [] pos) (HI C (spI X.prog X.w C) [] E0 Zv):=by
 obtain⟨f,fd,M,hm,hb,F⟩:=M;exact Au M F (hr.mono hj) hg hm hb .nil Ht hdb
end
end L2
end
section
namespace Mir
open PySem L2
def nk:Nd->List Key
 |.start=>[.inr "start"]
 |.fin=>[.inr "end"]
 |.guest k=>[.inr "guest",.inl (k:Int)]
 |.line l t=>[.inr "line",.inl (l:Int),.inl (t:Int)]
theorem UE:∀{a b:Nd},nk a=nk b->a=b
 |.start,.start,_=>rfl
 |.fin,.fin,_=>rfl
 |.start,.fin,h=>Xi h (by decide)
 |.fin,.start,h=>Xi h (by decide)
 |.guest a,.guest b,h=>by
   injection h with _ h;injection h with h _;injection h with h
   have:a=b:=by omega
   rw[this]
 |.line a b,.line c d,h=>by
   injection h with _ h;injection h with h1 h;injection h with h2 _;injection h1 with h1;injection h2 with h2;have e1:a=c:=by omega
   have e2:b=d:=by omega
   rw[e1,e2]
 |.start,.guest _,h=>by have q:=XW List.length h;simp[nk]at q
 |.start,.line _ _,h=>by have q:=XW List.length h;simp[nk]at q
 |.fin,.guest _,h=>by have q:=XW List.length h;simp[nk]at q
 |.fin,.line _ _,h=>by have q:=XW List.length h;simp[nk]at q
 |.guest _,.start,h=>by have q:=XW List.length h;simp[nk]at q
 |.guest _,.fin,h=>by have q:=XW List.length h;simp[nk]at q
 |.guest _,.line _ _,h=>by have q:=XW List.length h;simp[nk]at q
 |.line _ _,.start,h=>by have q:=XW List.length h;simp[nk]at q
 |.line _ _,.fin,h=>by have q:=XW List.length h;simp[nk]at q
 |.line _ _,.guest _,h=>by have q:=XW List.length h;simp[nk]at q
def FV {a b:Nd}:nk a=nk b↔a=b:=⟨UE,fun h=>by rw[h]⟩
def Gi:Option Nat->PyData
 |none=>.none
 |some e=>.int (e:Int)
def kvG (es:Got Nd):Vj:=es.map fun x=>(nk x.1,Gi x.2)
theorem KL (n:Nd):∀es:Got Nd,VZ (kvG es) (nk n)=(JU es n).map Gi
 |[]=>rfl
 |(k,v)::es=>by
   have ih:=KL n es;unfold JU at ih ⊢;rw[XU];unfold kvG VZ at ih ⊢;rw[Xs,XA];by_cases e:k=n
   ·subst e
    simp
   ·have e1:¬nk k=nk n:=fun z=>e (UE z)
    have e2:(n==k)=false:=by rw[beq_eq_false_iff_ne];exact fun z=>e z.symm
    rw[e2];simp only[e1,decide_false];exact ih
def Zk6 {es:Got Nd}{n:Nd}:(es.lookup n).isSome=decide (n∈Zd es):=by
 induction es with
 |nil=>rfl
 |cons p es ih =>
   obtain⟨k,v⟩:=p;rw[XU];by_cases e:n=k
   ·subst e
    simp[Zd]
   ·have e2:(n==k)=false:=by rw[beq_eq_false_iff_ne];exact e
    rw[e2];have:decide (n∈Zd ((k,v)::es))=decide (n∈Zd es):=by
     apply decide_eq_decide.mpr
     unfold Zd;rw[Xs,Xg];exact⟨fun z=>z.resolve_left e,.inr⟩
    rw[this];exact ih
def Bk (n:Nd)(es:Got Nd):(VZ (kvG es) (nk n)).isSome=decide (n∈Zd es):=by
 rw[KL,Uo];exact Zk6
def E9 (es:Got Nd):Kc (kvG es):=fun x hx=>by
 obtain⟨y,_,rfl⟩:=XD.mp hx
 cases h:y.2 with
 |none=>exact⟨.non,by simp[h,Gi,VU]⟩
 |some e=>exact⟨.int (e:Int),by simp[h,Gi,VU]⟩
def EL {es:Got Nd}{n:Nd}{e:Nat}(h:n∉Zd es):Gj (kvG es) (nk n) (.int (e:Int))=kvG (es++[(n,some e)]):=by
 unfold Gj;have:¬((kvG es).any fun kv=>decide (kv.1=nk n))=true:=fun z=>by
  obtain⟨x,hx,hz⟩:=List.any_eq_true.mp z;obtain⟨y,hy,rfl⟩:=XD.mp hx;have q:y.1=n:=UE (Xq hz);exact h (by rw[<- q];exact XD.mpr ⟨y,hy,rfl⟩)
 rw[Xa this];unfold kvG;rw[XE];rfl
structure NetR (N:Q6)(L:Lay Nd)(φ:Zc Nd):Prop where
 ends:N.ends=(WL L).map nk
 rooms:N.rooms=VB L φ
 leav:∀(n:Nd) (e:Int),e∈(QV N.leav (nk n)).getD [] ↔ ∃j:Nat,e=(j:Int)/\tlE L j=some n
 laid:∀(i:Nat) (x:Nd×Nd×Int),L[i]?=some x->ZZ N.laid (nk x.1,nk x.2.1)=some ((2*i:Nat):Int)
 laid0:∀p q:Nd,(p,q)∉L.map (fun x=>(x.1,x.2.1))->ZZ N.laid (nk p,nk q)=none
 l1:N.leav.length<=2*L.length
 l2:N.laid.length<=L.length
 l3:∀k ns,QV N.leav k=some ns->ns.length<=2*L.length
theorem L7 (φ:Zc Nd):NetR ⟨[],[],[],[]⟩ [] φ where
 ends:=rfl
 rooms:=rfl
 leav n e:=by
  constructor
  ·intro h;simp[QV]at h
  ·rintro⟨j,_,h⟩;simp[tlE]at h
 laid i x h:=by simp at h
 laid0 p q _:=rfl
 l1:=X4 _
 l2:=X4 _
 l3 k ns h:=by simp[QV]at h
def WZ {k k':List Key}{ns:Ql}{ls:List (List Key×Ql)}:QV ((k',ns)::ls) k=if k'=k then some ns else QV ls k:=by
 by_cases e:k'=k
 ·simp[QV,XA,e]
 ·simp[QV,XA,e]
theorem Pq (k k':List Key)(x:Int):∀ls:List (List Key×Ql),QV (VR ls k x) k'=if k'=k then (QV ls k).map (· ++ [x]) else QV ls k'
 |[]=>by
   unfold VR;by_cases e:k'=k
   ·rw[Xb e];simp[QV]
   ·rw[Xa e]
 |(j,ns)::ls=>by
   unfold VR;have ih:=Pq k k' x ls
   by_cases e:j=k
   ·rw[Xb e,WZ,WZ,WZ,Xb e]
    by_cases e2:k'=k
    ·rw[Xb e2,Xb (e.trans e2.symm)];rfl
    ·rw[Xa e2,Xa (fun z=>e2 (z.symm.trans e)),Xa (fun z=>e2 (z.symm.trans e))]
   ·rw[Xa e,WZ,WZ,WZ,Xa e,ih]
    by_cases e2:k'=k
    ·rw[Xb e2,Xa (fun z=>e (z.trans e2)),Xb e2]
    ·rw[Xa e2,Xa e2]
theorem MV (k:List Key)(x:Int):∀ls:List (List Key×Ql),(VR ls k x).length=ls.length
 |[]=>rfl
 |(j,ns)::ls=>by
   unfold VR;split
   ·simp
   ·simp[MV k x ls]
theorem TF (k k':List Key):∀ls:List (List Key×Ql),QV ls k=none->QV (ls++[(k,[])]) k'=if k'=k then some [] else QV ls k'
 |[],_=>by
   rw[BR,WZ];by_cases e:k'=k
   ·rw[Xb e,Xb e.symm]
   ·rw[Xa e,Xa (fun z=>e z.symm)]
 |(j,ns)::ls,h=>by
   rw[WZ]at h;by_cases e:j=k
   ·rw[Xb e]at h;cases h
   ·rw[Xa e]at h
    rw[Gd,WZ,WZ,TF k k' ls h];by_cases e2:k'=k
    ·rw[Xb e2,Xa (fun z=>e (z.trans e2)),Xb e2]
    ·rw[Xa e2,Xa e2]
def KC (ls:List (List Key×Ql))(k k':List Key):QV (VO ls k) k'=if k'=k then some ((QV ls k).getD []) else QV ls k':=by
 unfold VO;cases h:QV ls k with
 |some ns =>
   rw[Xb (by rfl)];by_cases e:k'=k
   ·rw[Xb e,e,h];rfl
   ·rw[Xa e]
 |none =>
   rw[Xa (by simp),TF k k' ls h];rfl
def Kt (ls:List (List Key×Ql))(k:List Key):(VO ls k).length<=ls.length+1:=by
 unfold VO;split
 ·omega
 ·simp
def Gn (N:Q6)(s e:List Key)(r:Int):Q6:={ N with ends:=N.ends++[e],rooms:=N.rooms++[r],leav:=VR (VO N.leav s) s (N.ends.length:Int) }
def Uy (N:Q6)(s e:List Key)(r:Int):Q6:=Gn (Gn { N with laid:=YI N.laid (s,e) (N.ends.length:Int) } s e r) e s 0
def GK (N:Q6)(s e:List Key)(r:Int)(k:List Key):QV (Gn N s e r).leav k=if k=s then some ((QV N.leav s).getD []++[(N.ends.length:Int)]) else QV N.leav k:=by
 show QV (VR (VO N.leav s) s _) k=_;rw[Pq,KC,Xb rfl,KC];by_cases e:k=s
 ·rw[Xb e,Xb e];rfl
 ·rw[Xa e,Xa e,Xa e]
def Ja {k k':KK}{n:Int}{ls:List (KK×Int)}:ZZ ((k',n)::ls) k=if k'=k then some n else ZZ ls k:=by
 by_cases e:k'=k
 ·simp[ZZ,XA,e]
 ·simp[ZZ,XA,e]
theorem Pv (k k':KK)(n:Int):∀ls:List (KK×Int),ZZ (ls.map fun x=>if x.1=k then (x.1,n) else x) k'=if k'=k then (ZZ ls k).map fun _=>n else ZZ ls k'
 |[]=>by
   by_cases e:k'=k
   ·rw[Xb e];rfl
   ·rw[Xa e];rfl
 |(j,m)::ls=>by
   rw[Xs];have ih:=Pv k k' n ls
   by_cases e:j=k
   ·simp only[e,if_true]
    rw[Ja,Ja,Ja,ih];by_cases e2:k'=k
    ·simp[e2]
    ·have:¬k=k':=fun z=>e2 z.symm
     simp[e2,this]
   ·simp only[e,if_false]
    rw[Ja,Ja,Ja,ih];by_cases e2:k'=k
    ·simp[e2,e]
    ·simp[e2]
theorem PZ (k k':KK)(n:Int):∀ls:List (KK×Int),ZZ ls k=none->ZZ (ls++[(k,n)]) k'=if k'=k then some n else ZZ ls k'
 |[],_=>by
   rw[BR,Ja];by_cases e:k'=k
   ·rw[Xb e,Xb e.symm]
   ·rw[Xa e,Xa (fun z=>e z.symm)]
 |(j,m)::ls,h=>by
   rw[Ja]at h;by_cases e:j=k
   ·rw[Xb e]at h;cases h
   ·rw[Xa e]at h
    rw[Gd,Ja,Ja,PZ k k' n ls h];by_cases e2:k'=k
    ·rw[Xb e2,Xa (fun z=>e (z.trans e2)),Xb e2]
    ·rw[Xa e2,Xa e2]
def P5 (ls:List (KK×Int))(k k':KK)(n:Int):ZZ (YI ls k n) k'=if k'=k then some n else ZZ ls k':=by
 unfold YI;cases h:ZZ ls k with
 |some m=>rw[Xb (by rfl),Pv,h];rfl
 |none=>rw[Xa (by simp),PZ k k' n ls h]
def AU (ls:List (KK×Int))(k:KK)(n:Int):(YI ls k n).length<=ls.length+1:=by
 unfold YI;split
 ·simp
 ·simp
def Tu {ν:Type} [DecidableEq ν] (L:Lay ν):(WL L).length=2*L.length:=by
 unfold WL;induction L with
 |nil=>rfl
 |cons x L ih=>rw[BY,Xv,ih,XX];simp;omega
def NetR.elen {N:Q6}{L:Lay Nd}{φ:Zc Nd}(h:NetR N L φ):N.ends.length=2*L.length:=by rw[h.ends,Xh,Tu]
def Ny {ν:Type} [DecidableEq ν] (L:Lay ν)(φ:Zc ν):(VB L φ).length=2*L.length:=by
 unfold VB;induction L with
 |nil=>rfl
 |cons x L ih=>rw[BY,Xv,ih,XX];simp;omega
def MZ {L:Lay Nd}{x:Nd×Nd×Int}{j:Nat}{n:Nd}:tlE (L++[x]) j=some n↔tlE L j=some n\/(j=2*L.length/\n=x.1)\/(j=2*L.length+1/\n=x.2.1):=by
 unfold tlE;by_cases h:j/2<L.length
 ·rw[JG h]
  constructor
  ·exact .inl
  ·rintro(z|⟨z,_⟩|⟨z,_⟩)
   ·exact z
   ·omega
   ·omega
 ·rw[GR (by omega),List.getElem?_eq_none_iff.mpr (show L.length<=j/2 by omega)]
  by_cases h2:j/2=L.length
  ·rw[h2,Nat.sub_self]
   simp only[List.getElem?_cons_zero,X7,Option.map_none,Option.some.injEq];by_cases p:j%2=0
   ·rw[Xb p]
    constructor
    ·intro z;exact .inr (.inl ⟨by omega,z.symm⟩)
    ·rintro(z|⟨_,z⟩|⟨z,_⟩)
     ·cases z
     ·exact z.symm
     ·omega
   ·rw[Xa p]
    constructor
    ·intro z;exact .inr (.inr ⟨by omega,z.symm⟩)
    ·rintro(z|⟨z,_⟩|⟨_,z⟩)
     ·cases z
     ·omega
     ·exact z.symm
  ·have:([x]:Lay Nd)[j/2-L.length]?=none:=List.getElem?_eq_none_iff.mpr (by simp;omega)
   rw[this];constructor
   ·intro z;cases z
   ·rintro(z|⟨z,_⟩|⟨z,_⟩)
    ·cases z
    ·omega
    ·omega
theorem ED {N:Q6}{L:Lay Nd}{φ:Zc Nd}(h:NetR N L φ){s e:Nd}{r:Int}(h0:φ s e=0)(new:(s,e)∉L.map (fun x=>(x.1,x.2.1))):NetR (Uy N (nk s) (nk e) r) (L++[(s,e,r)]) φ where
 ends:=by
  show(N.ends++[nk e])++[nk s]=_
  unfold WL;rw[JE,XE,h.ends];simp[WL]
 rooms:=by
  show(N.rooms++[r])++[0]=_
  unfold VB;rw[JE,h.rooms];simp[VB,h0]
 leav n e':=by
  have le:=h.elen
  have l1:(Gn { N with laid:=YI N.laid (nk s,nk e) (N.ends.length:Int) } (nk s) (nk e) r).ends.length=2*L.length+1:=by
   show(N.ends++[nk e]).length=_
   rw[Xv,le];rfl
  have q:(QV (Uy N (nk s) (nk e) r).leav (nk n)).getD []=((QV N.leav (nk n)).getD []++(if n=s then [((2*L.length:Nat):Int)] else []))++(if n=e then [((2*L.length+1:Nat):Int)] else []):=by
   unfold Uy;rw[GK,l1,GK,GK];show Option.getD (if nk n=nk e then some ((if nk e=nk s then some ((QV N.leav (nk s)).getD []++[(N.ends.length:Int)]) else QV N.leav (nk e)).getD []++[((2*L.length+1:Nat):Int)]) else if nk n=nk s then some ((QV N.leav (nk s)).getD []++[(N.ends.length:Int)]) else QV N.leav (nk n)) []=_;rw[le];simp only[FV];by_cases e1:n=e
   ·subst e1
    by_cases e2:n=s
    ·subst e2;simp
    ·simp[e2]
   ·by_cases e2:n=s
    ·subst e2;simp[e1]
    ·simp[e1,e2]
  rw[q,XC,XC,h.leav n e'];constructor
  ·rintro((⟨j,rfl,hj⟩|z)|z)
   ·exact⟨j,rfl,MZ.mpr (.inl hj)⟩
   ·by_cases e2:n=s
    ·rw[Xb e2]at z
     exact⟨2*L.length,Xk.mp z,MZ.mpr (.inr (.inl ⟨rfl,e2⟩))⟩
    ·rw[Xa e2]at z;cases z
   ·by_cases e2:n=e
    ·rw[Xb e2]at z
     exact⟨2*L.length+1,Xk.mp z,MZ.mpr (.inr (.inr ⟨rfl,e2⟩))⟩
    ·rw[Xa e2]at z;cases z
  ·rintro⟨j,rfl,hj⟩
   rcases MZ.mp hj with z|⟨rfl,z⟩|⟨rfl,z⟩
   ·exact .inl (.inl ⟨j,rfl,z⟩)
   ·exact .inl (.inr (by rw[Xb z];exact Xk.mpr rfl))
   ·exact .inr (by rw[Xb z];exact Xk.mpr rfl)
 laid i x hx:=by
  show ZZ (YI N.laid (nk s,nk e) (N.ends.length:Int)) (nk x.1,nk x.2.1)=_;rw[P5,h.elen];by_cases hi:i<L.length
  ·rw[JG hi]at hx
   have ne:¬(nk x.1,nk x.2.1)=(nk s,nk e):=fun z=>new (by
    injection z with z1 z2;exact XD.mpr ⟨x,List.mem_of_getElem? hx,by rw[UE z1,UE z2]⟩)
   rw[Xa ne];exact h.laid i x hx
  ·rw[GR (by omega)]at hx
   have hi2:i=L.length:=by
    have:=(Xe.mp hx).1
    simp at this
    omega
   subst hi2;rw[Nat.sub_self]at hx;cases hx;rw[Xb rfl]
 laid0 p q hn:=by
  show ZZ (YI N.laid (nk s,nk e) (N.ends.length:Int)) (nk p,nk q)=_;rw[XE,XC,not_or]at hn;rw[P5,Xa (fun z=>?_)]
  ·exact h.laid0 p q hn.1
  ·injection z with z1 z2
   exact hn.2 (by rw[UE z1,UE z2];simp)
 l1:=by
  have a:=h.l1
  have b:(Uy N (nk s) (nk e) r).leav.length<=N.leav.length+2:=by
   unfold Uy;show(VR (VO (VR (VO N.leav (nk s)) (nk s) _) (nk e)) (nk e) _).length<=_;rw[MV];refine XI (Kt _ _) ?_;rw[MV];have:=Kt N.leav (nk s);omega
  rw[Xv];simp;omega
 l2:=by
  have a:=h.l2;have b:(Uy N (nk s) (nk e) r).laid.length<=N.laid.length+1:=AU _ _ _;rw[Xv];simp;omega
 l3 k ns hk:=by
  have g:∀k',((QV N.leav k').getD []).length<=2*L.length:=fun k'=>by
   cases z:QV N.leav k' with
   |none=>exact X4 _
   |some m=>exact h.l3 k' m z
  have g1:∀k',((QV (Gn { N with laid:=YI N.laid (nk s,nk e) (N.ends.length:Int) } (nk s) (nk e) r).leav k').getD []).length<=2*L.length+1:=fun k'=>by
   rw[GK];by_cases z:k'=nk s
   ·rw[Xb z]
    have:=g (nk s)
    simpa using this
   ·rw[Xa z]
    have:=g k'
    show((QV N.leav k').getD []).length<=_
    omega
  unfold Uy at hk;rw[GK]at hk;rw[Xv];by_cases z:k=nk e
  ·rw[Xb z]at hk
   cases hk
   have:=g1 (nk e)
   simp at this ⊢
   omega
  ·rw[Xa z]at hk
   have:=g1 k
   rw[hk]at this;simp at this ⊢;omega
def Ot {L:Lay Nd}(hd:Dis L){φ:Zc Nd}{a r r':Int}{e:Nat}(h1:(VB L φ)[e]?=some r)(h2:(VB L φ)[Zf1 e]?=some r'):VB L (Yh L a φ e)=((VB L φ).set e (r-a)).set (Zf1 e) (r'+a):=by
 have me:Zf1 e≠e:=by unfold Zf1;split<;>omega
 have mh:Zf1 e/2=e/2:=by unfold Zf1;split<;>omega
 rw[GE]at h1 h2;have h1':=h1;unfold rmE at h1 h2;rw[mh]at h2;cases ex:L[e/2]? with
 |none=>rw[ex]at h1;cases h1
 |some x =>
   rw[ex]at h1 h2;simp only[X7,Option.some.injEq]at h1 h2;have hp:Yh L a φ e=VQ φ x.1 x.2.1 (if e%2=0 then a else -a):=by unfold Yh;rw[ex]
   have bx:VQ φ x.1 x.2.1 (if e%2=0 then a else -a) x.1 x.2.1=φ x.1 x.2.1+(if e%2=0 then a else -a):=by unfold VQ;rw[Xb ⟨rfl,rfl⟩]
   have le:e/2<L.length:=(Xe.mp ex).1;have lr:=Ny L φ;have le2:e<(VB L φ).length:=by omega
   have lm:Zf1 e<(VB L φ).length:=by omega
   refine List.ext_getElem? fun i=>?_;rw[GE,List.getElem?_set,List.getElem?_set,GE,hp];by_cases im:Zf1 e=i
   ·subst im
    rw[Xb rfl,Xb (show Zf1 e<((VB L φ).set e (r-a)).length by simpa using lm)]
    unfold rmE;rw[mh,ex];simp only[X7,Option.some.injEq];rw[bx];have pm:(Zf1 e%2=0)=¬(e%2=0):=by
     apply propext
     unfold Zf1;split<;>omega
    by_cases p:e%2=0
    ·have p2:¬Zf1 e%2=0:=by rw[pm];exact fun z=>z p
     rw[Xa p2]at h2 ⊢;rw[Xb p];omega
    ·have p2:Zf1 e%2=0:=by rw[pm];exact p
     rw[Xb p2]at h2 ⊢;rw[Xa p];omega
   ·rw[Xa im]
    by_cases ie:e=i
    ·subst ie
     rw[Xb rfl,Xb le2];unfold rmE;rw[ex];simp only[X7,Option.some.injEq];rw[bx];by_cases p:e%2=0
     ·rw[Xb p]at h1 ⊢
      rw[Xb p];omega
     ·rw[Xa p]at h1 ⊢
      rw[Xa p];omega
    ·rw[Xa ie]
     unfold rmE;cases ey:L[i/2]? with
     |none=>rfl
     |some y =>
       have ne:¬(y.1=x.1/\y.2.1=x.2.1):=fun⟨z1,z2⟩=>by
        have q:=Kr hd ey ex z1 z2;unfold Zf1 at im;split at im<;>omega
       have by':VQ φ x.1 x.2.1 (if e%2=0 then a else -a) y.1 y.2.1=φ y.1 y.2.1:=by unfold VQ;rw[Xa ne]
       simp only[X7,by']
def Uw (L:Lay Nd)(φ:Zc Nd)(es:Got Nd)(U:List Nd):Prop := ∀e m n r,tlE L e=some m->hdE L e=some n->rmE L φ e=some r->0<r->m∈Zd es->m∉U->n∈Zd es
def Uw.closed {L:Lay Nd}{φ:Zc Nd}{es:Got Nd}(h:Uw L φ es []):Yl L φ es:=fun e m n r h1 h2 h3 h4 h5=>h e m n r h1 h2 h3 h4 h5 (fun z=>nomatch z)
def Uj {es:Got Nd}{x:Nd×Option Nat}{n:Nd}:n∈Zd (es++[x])↔n∈Zd es\/n=x.1:=by
 unfold Zd;rw[XE,XC];simp
def Uw.add {L:Lay Nd}{φ:Zc Nd}{es:Got Nd}{U V:List Nd}(h:Uw L φ es (U++V))(n:Nd)(o:Option Nat):Uw L φ (es++[(n,o)]) (U++(V++[n])):=fun e m k r h1 h2 h3 h4 h5 h6=>by
 rw[<- Uq,XC,not_or]at h6;have ne:m≠n:=fun z=>h6.2 (by simp[z])
 rcases Uj.mp h5 with z|z
 ·exact Uj.mpr (.inl (h e m k r h1 h2 h3 h4 z h6.1))
 ·exact Xi z ne
theorem Tree.inClosed {L:Lay Nd}{φ:Zc Nd}{s:Nd}{fs:Got Nd}(hc:Yl L φ fs)(hs:s∈Zd fs):∀{es:Got Nd},Tree L φ s es->∀n∈Zd es,n∈Zd fs
 |_,.root,n,hn=>by
   have e:n=s:=by simpa [Zd] using hn
   rw[e];exact hs
 |_,.add t hn hh ht hm hr h0,n,hx=>by
   rcases Uj.mp hx with z|z
   ·exact t.inClosed hc hs n z
   ·rw[z]
    exact hc _ _ _ _ ht hh hr h0 (t.inClosed hc hs _ hm)
end Mir
end
section
namespace L2
open PySem PySem.Spec PyProof.Rows
section
variable {K:W.Frag}{ρ:QL}{ta tb tc te:TE}{D:PEnds}
end
abbrev Vt:=List (Key×PyData)
def VS (kvs:Vt)(k:Key):Option PyData:=(kvs.find? fun kv=>decide (kv.1=k)).map (·.2)
def JW (kvs:Vt)(k:Key)(d:PyData):Vt:=if (kvs.any fun kv=>decide (kv.1=k))=true then kvs.map (fun kv=>if kv.1=k then (kv.1,d) else kv) else kvs++[(k,d)]
inductive PairK (F:Hp):List (Key×V)->Vt->Prop
 |nil:PairK F [] []
 |cons {k:Key} {x:V} {d:PyData} {xs:List (Key×V)} {kvs:Vt}:Rep F x d->PairK F xs kvs->PairK F ((k,x)::xs) ((k,d)::kvs)
theorem PairK.mono {F F':Hp}(s:QN F F'):∀{xs:List (Key×V)} {kvs:Vt},PairK F xs kvs->PairK F' xs kvs
 |_,_,.nil=>.nil
 |_,_,.cons r t=>.cons (r.mono s) (t.mono s)
theorem PairK.length {F:Hp}:∀{xs:List (Key×V)} {kvs:Vt},PairK F xs kvs->xs.length=kvs.length
 |_,_,.nil=>rfl
 |_,_,.cons _ t=>by simp[t.length]
theorem PairK.val {F:Hp}(k:Key):∀{xs:List (Key×V)} {kvs:Vt},PairK F xs kvs->(Z4 xs k=none/\VS kvs k=none)\/∃x d,Z4 xs k=some x/\VS kvs k=some d/\Rep F x d
 |_,_,.nil=>.inl ⟨rfl,rfl⟩
 |_,_,.cons (k:=k') (x:=x) (d:=d) (xs:=xs) (kvs:=kvs) r t=>by
   by_cases e:k'=k
   ·exact .inr ⟨x,d,Wq e,by simp[VS,XA,e],r⟩
   ·have q:VS ((k',d)::kvs) k=VS kvs k:=by simp[VS,XA,e]
    rw[Wo (p:=(k',x)) e,q];exact t.val k
theorem PairK.any {F:Hp}(k:Key):∀{xs:List (Key×V)} {kvs:Vt},PairK F xs kvs->(xs.any fun kv=>decide (kv.1=k))=(kvs.any fun kv=>decide (kv.1=k))
 |_,_,.nil=>rfl
 |_,_,.cons _ t=>by simp[t.any k]
theorem PairK.mapP {F:Hp}(k:Key){y:V}{d:PyData}(r:Rep F y d):∀{xs:List (Key×V)} {kvs:Vt},PairK F xs kvs->PairK F (xs.map fun kv=>if kv.1=k then (kv.1,y) else kv) (kvs.map fun kv=>if kv.1=k then (kv.1,d) else kv)
 |_,_,.nil=>.nil
 |_,_,.cons (k:=k') r' t=>by
   rw[Xs,Xs];by_cases e:k'=k
   ·simp only[e,if_true]
    exact .cons r (t.mapP k r)
   ·simp only[e,if_false]
    exact .cons r' (t.mapP k r)
theorem PairK.snoc {F:Hp}(k:Key){y:V}{d:PyData}(r:Rep F y d):∀{xs:List (Key×V)} {kvs:Vt},PairK F xs kvs->PairK F (xs++[(k,y)]) (kvs++[(k,d)])
 |_,_,.nil=>.cons r .nil
 |_,_,.cons r' t=>.cons r' (t.snoc k r)
def PairK.put {F:Hp}(k:Key){y:V}{d:PyData}(r:Rep F y d){xs:List (Key×V)}{kvs:Vt}(t:PairK F xs kvs):PairK F (Yb xs k y) (JW kvs k d):=by
 unfold Yb JW;rw[t.any k];split
 ·exact t.mapP k r
 ·exact t.snoc k r
def dkP (kvs:Vt):OwnP where
 ok K F H v p := ∃a xs,v=.ref a/\p=[a]/\F a=none/\H a=some (.dK xs)/\PairK F xs kvs
 there:=by
  rintro K F H v p ⟨a,xs,rfl,rfl,h1,h2,h3⟩ b hb
  cases Xk.mp hb
  exact⟨h1,Vy h2⟩
 mono:=by
  rintro K F F' H H' v p s hF hH ⟨a,xs,rfl,rfl,h1,h2,h3⟩
  exact⟨a,xs,rfl,rfl,hF a Xc,by rw[hH a Xc];exact h2,h3.mono s⟩
 uniq:=by
  rintro K F H v p q ⟨a,xs,rfl,rfl,_⟩ ⟨b,ys,e,rfl,_⟩ c hc
  cases e
  exact hc
section
variable {K:W.Frag}{ρ:QL}{te ty tv:TE}{D:PEnds}{i:Nat}{v:V}{kvs:Vt}{k:Key}{d:PyData}
def QY.dk {H0 F H:Hp}{σ:St}(S:QY K H0 F ρ σ H)(e:ρ[i]?=some (some (.own v (dkP kvs)))) :
 ∃a xs,v=.ref a/\σ[i]?=some (some (.ref a))/\F a=none/\H0 a=none/\H a=some (.dK xs)/\PairK F xs kvs:=by
 obtain⟨e1,p,⟨a,xs,rfl,rfl,h1,h2,h3⟩,hp,_⟩:=S.writeOwn e
 exact⟨a,xs,rfl,e1,h1,(hp a Xc).1,h2,h3⟩
def ET (e:ρ[i]?=some (some (.own v (dkP kvs))))(hv:Qs K tv ρ d)(hy:Qs K ty ρ (Bc k))(hz:kvs.length<sizeLine)(hn:D.nx (ρ.set i (some (.own v (dkP (JW kvs k d)))))):Q9 K (HD (Za i) ty tv) ρ D:=fun F0 H0 F σ H E x S C =>
 hv H0 F σ H _ S fun F1 H1 u x1 r1=>by
  obtain⟨a,xs,rfl,e1,_⟩:=(S.ext x1).dk e;refine⟨_,e1,hy H0 F1 σ H1 _ (S.ext x1) fun F2 H2 y x2 r2=>?_⟩;have S2:=S.ext (x1.trans x2);obtain⟨a',xs',ea,_,g1,g0,g2,g3⟩:=S2.dk e
  cases ea
  rw[K6 r2];refine⟨a,_,rfl,JO.k g2 (by rw[g3.length];exact hz),?_⟩;obtain⟨_,p,ok,hp,w⟩:=S2.writeOwn e;obtain⟨a'',xs'',ea,rfl,_,g4,_⟩:=ok
  cases ea
  refine C.nx F2 σ _ _ ((x.trans (x1.trans x2)).wr g0 g1) (w _ (dkP (JW kvs k d)) [a] (S2.sub.upd g1) (fun c hc _=>Q7 fun z=>hc (by rw[z];exact Xc)) (fun c hc=>?_) ⟨a,_,rfl,rfl,g1,Zg,g3.put k (r1.mono x2.ff)⟩ (fun c hc=>.inl hc)) hn
  by_cases z:c=a
  ·subst z;rw[Zg];exact fun q=>nomatch q
  ·rw[Q7 z];exact hc
def Ee:EvX K Sb ρ (dkP []):=fun H0 F σ H Q S q=>fun p hp=>by
 have fp:F p=none:=by
  cases z:F p with
  |none=>rfl
  |some o=>rw[S.sub _ _ z]at hp;cases hp
 refine q F _ (.ref p) [p] (QM.own S.sub hp) (fun a ha=>by cases Xk.mp ha;exact hp) ⟨p,[],rfl,rfl,fp,Zg,.nil⟩
end
def DkZ (kvs:Vt):ZP where
 ok K F v := ∃a xs,v=.ref a/\F a=some (.dK xs)/\PairK F xs kvs
 mono:=by
  rintro K F F' v s ⟨a,xs,rfl,h1,h2⟩
  exact⟨a,xs,rfl,s _ _ h1,h2.mono s⟩
def dkP.fz {kvs:Vt}{K:W.Frag}{F F' H:Hp}{v:V}{p:Qg}(h:(dkP kvs).ok K F H v p)(s:QN F F')(he:∀b∈p,F' b=H b):(DkZ kvs).ok K F' v:=by
 obtain⟨a,xs,rfl,rfl,h1,h2,h3⟩:=h
 exact⟨a,xs,rfl,by rw[he a Xc];exact h2,h3.mono s⟩
section
variable {K:W.Frag}{ρ:QL}{ty:TE}{D:PEnds}{i:Nat}{k:Key}
def Ac {t:TS}{kvs:Vt}{v:V}(i:Nat)(e:ρ[i]?=some (some (.own v (dkP kvs))))(h:Q9 K t (ρ.set i (some (.zow (DkZ kvs)))) D):Q9 K t ρ D:=Kf i e (fun a b c=>dkP.fz a b c) h
def QY.dkz {H0 F H:Hp}{σ:St}{kvs:Vt}(S:QY K H0 F ρ σ H)(e:ρ[i]?=some (some (.zow (DkZ kvs)))):∃a xs,σ[i]?=some (some (.ref a))/\F a=some (.dK xs)/\PairK F xs kvs:=by
 obtain⟨fp,h,_⟩:=S.fp;obtain⟨v,e1,_,a,xs,rfl,h1,h2⟩:=h i _ e
 exact⟨a,xs,e1,h1,h2⟩
def A9 {kvs:Vt}{d:PyData}(e:ρ[i]?=some (some (.zow (DkZ kvs))))(hy:Qs K ty ρ (Bc k))(hd:VS kvs k=some d):Qs K (Hv (Za i) ty) ρ d:=fun H0 F σ H Q S q=>by
 obtain⟨a,xs,e1,_⟩:=S.dkz e;refine⟨_,e1,hy H0 F σ H _ S fun F1 H1 y x1 r1=>?_⟩;obtain⟨a',xs',e1',f2,f3⟩:=(S.ext x1).dkz e;rw[e1]at e1';cases e1';rw[K6 r1];rcases f3.val k with ⟨_,z⟩|⟨x,d',z1,z2,z3⟩
 ·rw[hd]at z;cases z
 ·rw[hd]at z2
  cases z2
  exact⟨a,x,rfl,z1▸V4.k ((S.ext x1).sub _ _ f2),q F1 H1 x x1 z3⟩
end
end L2
end
namespace L2
open PySem PySem.Spec PyProof.Rows
def JR (d:PyData)(dss:List (Qd)):OwnP where
 ok _ F H v p := ∃a b as v0,v=.ref a/\p=a::b::as/\(a::b::as).Nodup/\F a=none/\F b=none/\H a=some (.tup [v0,.ref b])/\H b=some (.lst (as.map V.ref))/\Rep F v0 d/\Zu F H as dss
 there:=by
  rintro K F H v p ⟨a,b,as,v0,rfl,rfl,nd,fa,fb,ha,hb,r1,oa⟩ c hc
  rcases Xg.mp hc with rfl|hc
  ·exact⟨fa,Vy ha⟩
  rcases Xg.mp hc with rfl|hc
  ·exact⟨fb,Vy hb⟩
  ·exact oa.mem c hc
 mono:=by
  rintro K F F' H H' v p sm hf hh ⟨a,b,as,v0,rfl,rfl,nd,fa,fb,ha,hb,r1,oa⟩
  exact⟨a,b,as,v0,rfl,rfl,nd,hf a (by simp),hf b (by simp),by rw[hh a (by simp)];exact ha,by rw[hh b (by simp)];exact hb,r1.mono sm,oa.move sm (fun c hc=>hf c (by simp[hc])) (fun c hc=>hh c (by simp[hc]))⟩
 uniq:=by
  rintro K F H v p q ⟨a,b,as,v0,rfl,rfl,nd,fa,fb,ha,hb,r1,oa⟩ ⟨a',b',as',v0',e,rfl,nd',fa',fb',ha',hb',r1',oa'⟩ c hc
  cases e
  rw[ha]at ha';cases ha';rw[hb]at hb';injection hb' with hb';injection hb' with hb'
  have inj:∀{xs ys:Qg},xs.map V.ref=ys.map V.ref->xs=ys:=fun{xs}=>by
   induction xs with
   |nil=>intro ys h;cases ys with|nil=>rfl|cons _ _=>cases h
   |cons x xs ih =>
     intro ys h;cases ys with
     |nil=>cases h
     |cons y ys =>
       rw[Xs,Xs]at h;injection h with h1 h2
       cases h1
       rw[ih h2]
  rw[inj hb'];exact hc
section
variable {K:W.Frag}{ρ:QL}{ta tb tc te:TE}{D:PEnds}{d:PyData}{dss:List (Qd)}
def AA {Φ:OT->Prop}{Ψ:List (Qd)->Prop}(ha:Qs K ta ρ d)(hb:ZJ K tb ρ Φ)(hi:∀r,Φ r->∃dss,r=.oll dss/\Ψ dss):ZJ K (Mb (Zl ta (Zl tb Zv))) ρ (fun r=>∃v dss,r=.own v (JR d dss)/\Ψ dss):=fun H0 F σ H Q S q =>
 ha H0 F σ H _ S fun F1 H1 v0 x1 r1=>hb H0 F1 σ H1 _ (S.ext x1) fun F2 H2 v p r hr x2 hp ok=>by
  obtain⟨dss,rfl,hψ⟩:=hi r hr;obtain⟨b,as,rfl,rfl,nd,fb,hb2,oa⟩:=ok;refine⟨X9 (VX (n:=2) (by decide)),fun a ha2=>?_⟩
  have ab:a∉b::as:=fun z=>by
   rcases Xg.mp z with rfl|z
   ·rw[ha2]at hb2;cases hb2
   ·exact(oa.mem a z).2 ha2
  have x12:=x1.trans x2
  exact q F2 (upd H2 a (.tup [v0,.ref b])) (.ref a) (a::b::as) _ ⟨_,dss,rfl,hψ⟩ (x12.trans (QM.own x12.fh ha2)) (fun c hc=>by
   rcases Xg.mp hc with rfl|hc
   ·exact x12.hh.free ha2
   ·exact x1.hh.free (hp c hc)) ⟨rfl,a,b,as,v0,rfl,rfl,XN.mpr ⟨ab,nd⟩,x12.fh.free ha2,fb,Zg,by rw[Q7 (fun z=>ab (by rw[<- z];exact Xc))];exact hb2,r1.mono x2.ff,oa.other fun z=>ab (Xf _ z)⟩
def JR.frz {F H:Hp}{v:V}{p:Qg}(ok:(JR d dss).ok K F H v p):Rep (frF F H p) v (.tuple [d,.list (dss.map PyData.list)]):=by
 have sm:QN F (frF F H p):=Wp fun a ha=>((JR d dss).there ok a ha).1;obtain⟨a,b,as,v0,rfl,rfl,nd,fa,fb,ha,hb,r1,oa⟩:=ok;exact .tup (xs:=[v0,.ref b]) (by rw[Jx (by simp)];exact ha) (.cons (r1.mono sm) (.cons (.lst (by rw[Jx (by simp)];exact hb) (KF sm oa fun c hc=>Jx (by simp[hc]))) .nil))
def Cn {g:TG}{Φ:OT->Prop}(h:ZJ K ta ρ Φ)(hi:∀r,Φ r->∃v d dss,r=.own v (JR d dss)/\∃ρ',GTo K g (.tuple [d,.list (dss.map PyData.list)]) ρ ρ'/\D.nx ρ'):Q9 K (Wa ta g) ρ D:=fun F0 H0 F σ H E x S C =>
 h H0 F σ H _ S fun F1 H1 v p r hr x1 hp ok=>by
  obtain⟨v',d,dss,rfl,ρ',hg,hn⟩:=hi r hr;obtain⟨rfl,ok⟩:=ok
  have X1:QM F H (frF F1 H1 p) H1:=⟨x1.hh,x1.ff.trans (Wp fun a ha=>((JR d dss).there ok a ha).1),Ud x1.fh,fun a ha=>by
   by_cases z:a∈p
   ·exact .inr (hp a z)
   ·rw[Yq z]at ha;exact x1.fr a ha⟩
  exact hg H0 _ σ H1 v _ (S.ext X1) (JR.frz ok) fun σ' S'=>C.nx _ σ' H1 ρ' (x.trans X1) S' hn
end
def Rj (K:W.Frag)(wi:TI)(ρ:QL)(Ψ:Qd->Prop):Prop := ∀(H0 F:Hp) (σ:St) (H:Hp) (R:It->Hp->Prop),QY K H0 F ρ σ H->(∀F' H' J ds,Ψ ds->QM F H F' H'->Kj F' J ds->R J H')->wi σ H R
section
variable {K:W.Frag}{ρ:QL}{ta:TE}{D:PEnds}
def Az {Φ:OT->Prop}{Ψ:Qd->Prop}(h:ZJ K ta ρ Φ)(hi:∀r,Φ r->∃ds,WG r=some (.list ds)/\Ψ ds):Rj K (HC K ta) ρ Ψ:=fun H0 F σ H R S q =>
 h H0 F σ H _ S fun F1 H1 v p r hr x hp ok=>by
  obtain⟨ds,ed,hψ⟩:=hi r hr
  have X1:QM F H (frF F1 H1 p) H1:=⟨x.hh,x.ff.trans (Wp fun a ha=>(ok.there a ha).1),Ud x.fh,fun a ha=>by
   by_cases z:a∈p
   ·exact .inr (hp a z)
   ·rw[Yq z]at ha;exact x.fr a ha⟩
  have r1:Rep (frF F1 H1 p) v (.list ds):=ok.frz ed;generalize frF F1 H1 p=F1 at X1 r1;obtain⟨a,xs,rfl,h1,h2,h3⟩:=Wt (K:=K) r1 X1.fh
  have hF:F1 a=some (.lst xs):=by
   cases r1 with
   |lst ha rr =>
     have:=X1.fh _ _ ha
     rw[h3]at this;cases this;exact ha
  refine⟨a,rfl,⟨xs,h1⟩,q F1 H1 _ ds hψ X1 fun F2 H2 s2 s3=>?_⟩;have hq:SqL K H2 a xs:=SqL.of (s3 _ _ (s2 _ _ hF));refine⟨⟨xs,hq,by rw[h2.length];exact Xx _⟩,fun i d e=>?_⟩;obtain⟨z,z1,z2⟩:=h2.get e;refine⟨⟨xs,z,hq,z1⟩,fun y H3 hy=>?_⟩;obtain⟨rfl,hy⟩:=hy;have e2:=hy xs hq;rw[z1]at e2;cases e2
  exact⟨F2,QM.refl s3,z2.mono s2⟩
def An {wi:TI}{g:TG}{tbd:TS}{Ψ:Qd->Prop}(hi:Rj K wi ρ Ψ)
 (hs:∀ds,Ψ ds->∃P:Nat->QL->Prop,P 0 ρ/\(∀(i:Nat) (d:PyData) (ρ':QL),ds[i]?=some d->P i ρ'->∃ρ2,GTo K g d ρ' ρ2/\Q9 K tbd ρ2 { nx:=P (i+1),ct:=P (i+1),bk:=D.nx,rt:=D.rt })/\∀ρ',P ds.length ρ'->D.nx ρ'):Q9 K (Gm wi g tbd) ρ D:=fun F0 H0 F σ H E x S C =>
 hi H0 F σ H _ S fun F1 H1 J ds hψ x1 W=>by
  obtain⟨P,h0,hs,hd⟩:=hs ds hψ;refine⟨fun i m σ H=>m=ds.length-i/\i<=ds.length/\∃F ρ',QM F0 H0 F H/\QN F1 F/\QY K H0 F ρ' σ H/\P i ρ',⟨ds.length,by simp,X4 _,F1,ρ,x.trans x1,QN.refl _,S.ext x1,h0⟩,?_⟩
  rintro i m σ' H' ⟨rfl,hle,F',ρ',x',s',S',p⟩
  obtain⟨w1,w2⟩:=W F' H' s' S'.sub
  by_cases hlt:i<ds.length
  ·have e:ds[i]?=some ds[i]:=by simp[hlt]
   obtain⟨go,yl⟩:=w2 i _ e;refine .inr ⟨go,fun σ2 H2=>∃F2 ρ2,QM F0 H0 F2 H2/\QN F1 F2/\QY K H0 F2 ρ2 σ2 H2/\P (i+1) ρ2,fun σ2 H2 q=>⟨ds.length-(i+1),by omega,rfl,hlt,q⟩,fun v H3 y=>?_⟩;obtain⟨F3,x3,r3⟩:=yl v H3 y;obtain⟨ρ2,hg,hb⟩:=hs i _ ρ' e p;refine hg H0 F3 σ' H3 v _ (S'.ext x3) r3 fun σ2 S2=>?_;have big:QM F0 H0 F3 H3:=x'.trans x3;have s13:=s'.trans x3.ff
   exact hb F3 H0 F3 σ2 H3 _ big.base S2 ⟨fun F4 σ4 H4 ρ4 x4 S4 q4=>⟨F4,ρ4,big.rebase x4,s13.trans x4.ff,S4,q4⟩,fun F4 H4 v4 r4 p4 x4=>C.rt F4 H4 v4 r4 p4 (big.rebase x4),
    fun F4 σ4 H4 ρ4 x4=>C.nx F4 σ4 H4 ρ4 (big.rebase x4),fun F4 σ4 H4 ρ4 x4 S4 q4=>⟨F4,ρ4,big.rebase x4,s13.trans x4.ff,S4,q4⟩⟩
  ·have e:i=ds.length:=by omega
   subst e;exact .inl ⟨w1,C.nx F' σ' H' ρ' x' S' (hd ρ' p)⟩
end
def AJ (kvs:Vt)(k k':Key)(d:PyData):VS (JW kvs k d) k'=if k'=k then some d else VS kvs k':=by
 have m:∀kvs:Vt,VS (kvs.map fun kv=>if kv.1=k then (kv.1,d) else kv) k'=if k'=k then (if (kvs.any fun kv=>decide (kv.1=k))=true then some d else none) else VS kvs k':=fun kvs=>by
  induction kvs with
  |nil=>simp[VS]
  |cons kv r ih =>
    obtain⟨a,b⟩:=kv;unfold VS at ih ⊢;rw[Xs,XA,XA,GQ];by_cases e:a=k
    ·subst e
     by_cases e2:k'=a
     ·subst e2;simp
     ·have e3:¬a=k':=fun z=>e2 z.symm
      simp only[if_true,XG e3];rw[ih,Xa e2,Xa e2]
    ·simp only[Xa e,XG e,Bool.false_or]
     by_cases e2:a=k'
     ·subst e2
      simp[e]
     ·simp only[XG e2]
      exact ih
 unfold JW;split
 ·rename_i c
  rw[m kvs];simp only[c,if_true]
 ·rename_i c
  have n:∀kv∈kvs,¬kv.1=k:=fun kv hkv e=>c (List.any_eq_true.mpr ⟨kv,hkv,YZ e⟩);unfold VS;rw[List.find?_append];by_cases e:k'=k
  ·subst e
   have f:(kvs.find? fun kv=>decide (kv.1=k'))=none:=List.find?_eq_none.mpr fun kv hkv=>by simpa using n kv hkv
   rw[f];simp
  ·have e3:¬k=k':=fun z=>e z.symm
   rw[Xa e];cases kvs.find? fun kv=>decide (kv.1=k') with
   |none=>simp[e3]
   |some x=>rfl
def II (kvs:Vt)(k:Key)(d:PyData):(JW kvs k d).length<=kvs.length+1:=by
 unfold JW;split
 ·simp
 ·simp
end L2
section
namespace L2
open PySem PySem.Spec PyProof.Rows
abbrev WI (h:Heap) (T:Addr) (a b c:Value):Prop:=h.get? T=some { cls:=.type "tuple",data:=.seq #[a,b,c] }
structure Z3 (n t1 t2 t3 i:Nat)(f:Value)(h:Heap):Prop where
 z:IsZip h (n+5) (n+3) (n+4) f
 pr:WI h (n+3) (.ref n) (.ref (n+1)) (.ref (n+2))
 o:∃p q r,WI h (n+4) p q r
 u:h.IsListIter n t1 i
 v:h.IsListIter (n+1) t2 i
 x:h.IsListIter (n+2) t3 i
def JP (n:Nat)(h h':Heap):Prop := ∀b o,(b<n\/n+6<=b)->h.get? b=some o->h'.get? b=some o
def MO {n t:Nat}{h h':Heap}{xs:Array Value}(lt:t<n)(k:JP n h h')(j:h.IsList t xs):h'.IsList t xs:=by
 obtain⟨o,e,r⟩:=j
 exact⟨o,k t o (.inl lt) e,r⟩
def sb3 {a b:Nat}{h h':Heap}{o:Obj}(w:Heap.SameBut a h h')(e:h.get? b=some o)(ne:b≠a):h'.get? b=some o:=w.extBut b o ne e
def eb3 {a b:Nat}{h h':Heap}{o:Obj}(w:Heap.ExtBut a h h')(e:h.get? b=some o)(ne:b≠a):h'.get? b=some o:=w b o ne e
section
variable {prog:Program}{w:World}{A:Around}{E:Qb}{s:Shared}
def Kp {T:Addr}{a b c x:Value}{k:Nat}{Q:Unit->Shared->Prop}(hT:WI s.heap T a b c)
 (h:∀h',h'.get? T=some { cls:=.type "tuple",data:=.seq ((#[a,b,c]:Array Value).setIfInBounds k x) }->Heap.SameBut T s.heap h'->Q () { s with heap:=h' }) :
 wpAny (model prog w) A (updateSeq T (·.setIfInBounds k x)) Q E s:=by
 refine wpAny_updateSeq hT rfl (h _ (by rw[Heap.get?_update_self _ hT rfl];simp[Obj.mapSeq]) (Heap.SameBut.update ..))
def Ci {n t1 t2 t3 i:Nat}{xs ys zs:Array Value}{x y c:Value}{Q:Qf->Shared->Prop}(Z:Z3 n t1 t2 t3 i .none s.heap)(l1:t1<n)(l2:t2<n)(l3:t3<n)(j1:s.heap.IsList t1 xs)(j2:s.heap.IsList t2 ys)(j3:s.heap.IsList t3 zs)(hx:xs[i]?=some x)(hy:ys[i]?=some y)(hc:zs[i]?=some c)
 (fin:∀h',Z3 n t1 t2 t3 (i+1) (rawInt s.heap.objs.size) h'->h'.get? s.heap.objs.size=some { cls:=.type "tuple",data:=.seq #[x,y,c] }->h'.objs.size=s.heap.objs.size+1->JP n s.heap h'->Q (some (.ref s.heap.objs.size)) { s with heap:=h' }) :
 wpAny (model prog w) A (pyNext (.ref (n+5))) Q E s:=by
 obtain⟨hp,gg,dd,tk,os⟩:=s;obtain⟨hz,hi,⟨p,q,r,ho⟩,hu,hv,hw⟩:=Z;have ty:Shared.TypeIs ⟨hp,gg,dd,tk,os⟩ (.ref (n+5)) "zip" := ⟨_,hz,rfl⟩;have big:n+5<hp.objs.size:=Xm hz;unfold pyNext;refine Xd (wpAny_attempt (wpAny_callSpecial?_slot (name:=Str.ofString "__next__") ty F.slot_zip_next (wpAny_call_entry F.slot_zip_next ty F.entry_zip_next ?_ (F.args_zip_next_1 _))));show wpAny _ _ (field (.ref (n+5)) 2 >>= _) _ _ _;refine Xd (Uv hz rfl (x:=.bool false) rfl ?_);show wpAny _ _ (field (.ref (n+5)) 3 >>= _) _ _ _;refine Xd (Uv hz rfl (x:=.ref (n+3)) rfl (Xd (Ut hi rfl ?_)));show wpAny _ _ (Builtin.SmallTypes.ownedTupleIsFree (.ref (n+5)) >>= _) _ _ _;refine Xd ?_;unfold Builtin.SmallTypes.ownedTupleIsFree;refine Xd (Uv hz rfl (x:=.none) rfl (Xu ?_));simp only[if_true];refine Xd (wpAny_rule (Xd (Uv hz rfl (x:=.ref (n+4)) rfl (Xd (BZ hz (by simp) fun k1 z1 w1=>?_)))));replace z1:IsZip k1 (n+5) (n+3) (n+4) .ellipsis:=z1;replace w1:Heap.SameBut (n+5) hp k1:=w1;refine Xd ?_;simp only[List.zipIdx_cons,List.zipIdx_nil,BQ,List.forIn_nil];refine Xd (Xd (wpAny_onRaise ?_));show wpAny _ _ (Builtin.SmallTypes.nextOf (.ref n) >>= _) _ _ _;have b1:JP n hp k1:=fun b o c e=>sb3 w1 e (by omega);refine Xd (wpAny_nextOf_list_item (x:=x) (hu.at fun o e=>sb3 w1 e (by omega)) (MO l1 b1 j1) hx fun k2 u2 w2=>Xu ?_);replace w2:Heap.SameBut n k1 k2:=w2;have o2:WI k2 (n+4) p q r:=sb3 w2 (sb3 w1 ho (by omega)) (by omega);refine Xd (Ut o2 rfl (Xd (Kp o2 fun k3 o3 w3=>?_)));replace o3:WI k3 (n+4) x q r:=o3;replace w3:Heap.SameBut (n+4) k2 k3:=w3;refine Xd (wpAny_letGo (Xu ?_));refine Xd (Xd (wpAny_onRaise ?_));show wpAny _ _ (Builtin.SmallTypes.nextOf (.ref (n+1)) >>= _) _ _ _;have b3:JP n hp k3:=fun b o c e=>sb3 w3 (sb3 w2 (b1 b o c e) (by omega)) (by omega);refine Xd (wpAny_nextOf_list_item (x:=y) (hv.at fun o e=>sb3 w3 (sb3 w2 (sb3 w1 e (by omega)) (by omega)) (by omega)) (MO l2 b3 j2) hy fun k4 u4 w4=>Xu ?_);replace w4:Heap.SameBut (n+1) k3 k4:=w4;have o4:WI k4 (n+4) x q r:=sb3 w4 o3 (by omega);refine Xd (Ut o4 rfl (Xd (Kp o4 fun k5 o5 w5=>?_)));replace o5:WI k5 (n+4) x y r:=o5;replace w5:Heap.SameBut (n+4) k4 k5:=w5;refine Xd (wpAny_letGo (Xu ?_));refine Xd (Xd (wpAny_onRaise ?_));show wpAny _ _ (Builtin.SmallTypes.nextOf (.ref (n+2)) >>= _) _ _ _;have b5:JP n hp k5:=fun b o c e=>sb3 w5 (sb3 w4 (b3 b o c e) (by omega)) (by omega);refine Xd (wpAny_nextOf_list_item (x:=c) (hw.at fun o e=>sb3 w5 (sb3 w4 (sb3 w3 (sb3 w2 (sb3 w1 e (by omega)) (by omega)) (by omega)) (by omega)) (by omega)) (MO l3 b5 j3) hc fun k6 u6 w6=>Xu ?_);replace w6:Heap.SameBut (n+2) k5 k6:=w6;have o6:WI k6 (n+4) x y r:=sb3 w6 o5 (by omega);refine Xd (Ut o6 rfl (Xd (Kp o6 fun k7 o7 w7=>?_)));replace o7:WI k7 (n+4) x y c:=o7;replace w7:Heap.SameBut (n+4) k6 k7:=w7;refine Xd (wpAny_letGo (Xu (Xu ?_)));refine Xd (Ut o7 rfl (Xd (wpAny_newTuple ?_)));have sz:k7.objs.size=hp.objs.size:=by rw[w7.1,w6.1,w5.1,w4.1,w3.1,w2.1,w1.1]
 have b7:JP n hp k7:=fun b o c e=>sb3 w7 (sb3 w6 (b5 b o c e) (by omega)) (by omega);have go:∀{b:Nat} {o:Obj},b≠n->b≠n+1->b≠n+2->b≠n+4->k1.get? b=some o->k7.get? b=some o:=fun q1 q2 q3 q4 e=>sb3 w7 (sb3 w6 (sb3 w5 (sb3 w4 (sb3 w3 (sb3 w2 e q1) q4) q2) q4) q3) q4;have z7:IsZip k7 (n+5) (n+3) (n+4) .ellipsis:=go (by omega) (by omega) (by omega) (by omega) z1;have i7:WI k7 (n+3) (.ref n) (.ref (n+1)) (.ref (n+2)):=go (by omega) (by omega) (by omega) (by omega) (sb3 w1 hi (by omega));have u7:k7.IsListIter n t1 (i+1):=u2.at fun o e=>sb3 w7 (sb3 w6 (sb3 w5 (sb3 w4 (sb3 w3 e (by omega)) (by omega)) (by omega)) (by omega)) (by omega);have v7:k7.IsListIter (n+1) t2 (i+1):=u4.at fun o e=>sb3 w7 (sb3 w6 (sb3 w5 e (by omega)) (by omega)) (by omega);have x7:k7.IsListIter (n+2) t3 (i+1):=u6.at fun o e=>sb3 w7 e (by omega);show wpAny _ _ (Builtin.SmallTypes.ownedTupleHandOut (.ref (n+5)) (.ref k7.objs.size) >>= _) _ _ _;refine Xd ?_;unfold Builtin.SmallTypes.ownedTupleHandOut;refine Xd (BZ (Xo _ z7) (by simp) fun k8 z8 w8=>?_);replace z8:IsZip k8 (n+5) (n+3) (n+4) (rawInt k7.objs.size):=z8;refine BZ z8 (by simp) fun k9 z9 w9=>?_;replace z9:IsZip k9 (n+5) (n+3) (n+4) (rawInt k7.objs.size):=z9;have up:∀{b:Nat} {o:Obj},b≠n+5->k7.get? b=some o->k9.get? b=some o:=fun c e=>sb3 w9 (sb3 w8 (Xo _ e) c) c;have t9:k9.get? k7.objs.size=some { cls:=.type "tuple",data:=.seq #[x,y,c] }:=sb3 w9 (sb3 w8 (XV _ rfl) (by omega)) (by omega);have s9:k9.objs.size=k7.objs.size+1:=by rw[w9.1,w8.1,Wv]
 rw[sz]at z9 t9 s9;refine Xu ⟨_,rfl,?_⟩;show wpAny _ _ (pure (some (Value.ref k7.objs.size))) _ _ _;rw[sz];exact Xu (fin k9 ⟨z9,up (by omega) i7,⟨_,_,_,up (by omega) o7⟩,u7.at fun o e=>up (by omega) e,v7.at fun o e=>up (by omega) e,x7.at fun o e=>up (by omega) e⟩ t9 s9 fun b o c e=>up (by omega) (b7 b o c e))
def Fp {n t1 t2 t3 i:Nat}{xs:Array Value}{Q:Qf->Shared->Prop}(nh:A.handled=none)(Z:Z3 n t1 t2 t3 i .none s.heap)(l1:t1<n)(j1:s.heap.IsList t1 xs)(hend:xs[i]?=none)
 (fin:∀h',JP n s.heap h'->Q none { s with heap:=h' }):wpAny (model prog w) A (pyNext (.ref (n+5))) Q E s:=by
 obtain⟨hp,gg,dd,tk,os⟩:=s;obtain⟨hz,hi,⟨p,q,r,ho⟩,hu,hv,hw⟩:=Z;have ty:Shared.TypeIs ⟨hp,gg,dd,tk,os⟩ (.ref (n+5)) "zip" := ⟨_,hz,rfl⟩;unfold pyNext;refine Xd (wpAny_attempt (wpAny_callSpecial?_slot (name:=Str.ofString "__next__") ty F.slot_zip_next (wpAny_call_entry F.slot_zip_next ty F.entry_zip_next ?_ (F.args_zip_next_1 _))));show wpAny _ _ (field (.ref (n+5)) 2 >>= _) _ _ _;refine Xd (Uv hz rfl (x:=.bool false) rfl ?_);show wpAny _ _ (field (.ref (n+5)) 3 >>= _) _ _ _;refine Xd (Uv hz rfl (x:=.ref (n+3)) rfl (Xd (Ut hi rfl ?_)));show wpAny _ _ (Builtin.SmallTypes.ownedTupleIsFree (.ref (n+5)) >>= _) _ _ _;refine Xd ?_;unfold Builtin.SmallTypes.ownedTupleIsFree;refine Xd (Uv hz rfl (x:=.none) rfl (Xu ?_));simp only[if_true];refine Xd (wpAny_rule (Xd (Uv hz rfl (x:=.ref (n+4)) rfl (Xd (BZ hz (by simp) fun k1 z1 w1=>?_)))));replace z1:IsZip k1 (n+5) (n+3) (n+4) .ellipsis:=z1;replace w1:Heap.SameBut (n+5) hp k1:=w1;refine Xd ?_;simp only[List.zipIdx_cons,List.zipIdx_nil,BQ,List.forIn_nil];refine Xd (Xd (wpAny_onRaise ?_));show wpAny _ _ (Builtin.SmallTypes.nextOf (.ref n) >>= _) _ _ _;have b1:JP n hp k1:=fun b o c e=>sb3 w1 e (by omega);refine Xd (wpAny_nextOf_list_end nh (hu.at fun o e=>sb3 w1 e (by omega)) (MO l1 b1 j1) hend fun k2 e w2 he=>?_);obtain⟨oe,hoe,ce⟩:=he;have z2:IsZip k2 (n+5) (n+3) (n+4) .ellipsis:=eb3 w2 z1 (by omega);have ez:e≠n+5:=fun c=>by subst c;rw[z2]at hoe;cases hoe;simp at ce
 refine BZ z2 (by simp) fun k3 _ w3=>?_;exact Xd (wpAny_isInstance (T := "StopIteration") (b:=true) ⟨oe,w3.extBut _ _ ez hoe,ce⟩ isSubtype_stop (Xu (fin _ fun b o c x=>sb3 w3 (eb3 w2 (b1 b o c x) (by omega)) (by omega))))
def gp3 {h:Heap}{o:Obj}{n:Nat}(e:h.objs.size=n)(f:o.isFreed=false):(h.push o).get? n=some o:=e▸XV _ f
def FZ (a b c:Value):checkTypeCall "zip" ⟨[a,b,c],[]⟩=pure ():=by kernel_rfl
def CQ (a b c:Value):checkBuiltinCall "zip.__new__" ⟨[.type "zip",a,b,c],[]⟩=pure ():=by kernel_rfl
def E5 (a b c d:Value):argsOk "object.__init__" ⟨[a,b,c,d],[]⟩:=by
 unfold argsOk;rw[signature?_of (id := "object.__init__") (n:=['_','_','t','i','n','i','_','_']) (o:=['t','c','e','j','b','o']) (by kernel_rfl) F.owner_object]
 kernel_rfl
set_option maxHeartbeats 4000000 in
def FT (t1 t2 t3:Addr) (xs ys zs:Array Value):Meets (Builtin.«zip.__new__» ⟨[.type "zip",.ref t1,.ref t2,.ref t3],[]⟩) (fun _ R s=>(s.heap.IsList t1 xs/\s.heap.IsList t2 ys/\s.heap.IsList t3 zs)/\∀h',Z3 s.heap.objs.size t1 t2 t3 0 .none h'->h'.objs.size=s.heap.objs.size+6->(∀b o,s.heap.get? b=some o->h'.get? b=some o)->R (.ok (.ret (.ref (s.heap.objs.size+5)))) { s with heap:=h' }) :=
 .of_wp fun prog w A R s h=>by
  obtain⟨hp,g,d,tk,os⟩:=s;obtain⟨⟨j1,j2,j3⟩,h⟩:=h;have hsub:=sub_zip;have J1:Heap.IsList (Shared.heap ⟨hp,g,d,tk,os⟩) t1 xs:=j1
  have J2:Heap.IsList (Shared.heap ⟨hp.push { cls:=.type "list_iterator",data:=.fields #[.ref t1,.int 0 0] },g,d,tk,os⟩) t2 ys:=by
   obtain⟨o,e,r⟩:=j2
   exact⟨o,Xo _ e,r⟩
  have J3:Heap.IsList (Shared.heap ⟨(hp.push { cls:=.type "list_iterator",data:=.fields #[.ref t1,.int 0 0] }).push { cls:=.type "list_iterator",data:=.fields #[.ref t2,.int 0 0] },g,d,tk,os⟩) t3 zs:=by
   obtain⟨o,e,r⟩:=j3
   exact⟨o,Xo _ (Xo _ e),r⟩
  wp_walk using wpAny_pyIter_list J1,wpAny_pyIter_list J2,wpAny_pyIter_list J3
  refine⟨_,rfl,?_⟩;simp only[Wv];have ps:∀{h:Heap} {o o':Obj} {b:Addr},h.get? b=some o'->(h.push o).get? b=some o':=fun e=>Xo _ e
  exact h _ ⟨gp3 (by simp only[Wv]) rfl,ps (ps (gp3 (by simp only[Wv]) rfl)),⟨_,_,_,ps (gp3 (by simp only[Wv]) rfl)⟩,⟨_,ps (ps (ps (ps (ps (gp3 rfl rfl))))),rfl,rfl⟩,⟨_,ps (ps (ps (ps (gp3 (by simp only[Wv]) rfl)))),rfl,rfl⟩,⟨_,ps (ps (ps (gp3 (by simp only[Wv]) rfl))),rfl,rfl⟩⟩
   (by simp only[Wv]) fun b o e=>ps (ps (ps (ps (ps (ps e)))))
def C6 {t1 t2 t3:Addr}{xs ys zs:Array Value}{Q:Qb}(j1:s.heap.IsList t1 xs)(j2:s.heap.IsList t2 ys)(j3:s.heap.IsList t3 zs)
 (fin:∀h',Z3 s.heap.objs.size t1 t2 t3 0 .none h'->h'.objs.size=s.heap.objs.size+6->(∀b o,s.heap.get? b=some o->h'.get? b=some o)->Q (.ref (s.heap.objs.size+5)) { s with heap:=h' }):wpAny (model prog w) A (call (.type "zip") [.ref t1,.ref t2,.ref t3]) Q E s :=
 callType_new F.called_zip (by decide) (FZ _ _ _) (CQ _ _ _) (fun obj=>E5 obj _ _ _) F.entry_zip_new (FT t1 t2 t3 xs ys zs) ⟨⟨j1,j2,j3⟩,fun h' Z sz k=>⟨⟨_,Z.z,rfl⟩,fin h' Z sz k⟩⟩
end
def Qu.trackTri {X:Cx}{Xbo:Qc}{σ:St}{H:Hp}{s0 s:Shared}{T:Addr}{x y z:V}{u v w:Value}(I0:Qu X Xbo σ H s0)(I:Qu X Xbo σ H s)(hT:s0.heap.objs.size<=T)(rx:QR x u)(ry:QR y v)(rz:QR z w)(tup:s.heap.IsTuple T #[u,v,w]):Qu X Xbo σ (upd H T (.tup [x,y,z])) s:=by
 refine I.track (I0.hok.fresh hT) (XI I0.sz hT) (YE (Xz I0.lt hT)) (fun z c e q=>?_) (fun p hp q=>?_) ⟨by show 3<=sizeLine;decide,[u,v,w],.cons rx (.cons ry (.cons rz .nil)),tup⟩
 ·obtain⟨w,hw⟩:=I0.cell z c e
  exact Xi (Xz hw.lt (by rw[q];exact hT)) (YY _)
 ·exact Xi (Xz (Xm (I0.pin p hp).1) (by rw[q];exact hT)) (YY _)
def NZ (K:W.Frag)(a b c:Addr):It :=
 ⟨fun i H=>∃xs ys zs x y z,SqL K H a xs/\SqL K H b ys/\SqL K H c zs/\xs[i]?=some x/\ys[i]?=some y/\zs[i]?=some z,
  fun i H v H'=>∃p x y z,H p=none/\v=.ref p/\H'=upd H p (.tup [x,y,z])/\(∀xs,SqL K H a xs->xs[i]?=some x)/\(∀ys,SqL K H b ys->ys[i]?=some y)/\∀zs,SqL K H c zs->zs[i]?=some z,
  fun i H=>∃xs,SqL K H a xs/\i=xs.length⟩
def He {n c:Nat}:c∈[n+5,n+3,n+4,n,n+1,n+2]↔n<=c/\c<n+6:=by
 simp only[Xg,XZ,or_false];omega
def Rl {n c:Nat}(h:c∉[n+5,n+3,n+4,n,n+1,n+2]):c<n\/n+6<=c:=by
 rw[He]at h;omega
theorem C3 {P:Program}{w:World}{K:W.Frag}{elts:Qi}{k:Nat}{pos:Pos}{n a b c:Nat}(la:a<n)(lb:b<n)(lc:c<n):Turn P w K (.Tuple elts k pos) (NZ K a b c) [n+5,n+3,n+4,n,n+1,n+2] (n+5) (fun i h=>Z3 n a b c i .none h) where
 mem:=by simp
 obj:=fun i h st c hc=>by
  obtain⟨hz,hi,⟨p,q,r,ho⟩,⟨o1,e1,c1,d1⟩,⟨o2,e2,c2,d2⟩,o3,e3,c3,d3⟩:=st;simp only[Xg,XZ,or_false]at hc;rcases hc with rfl|rfl|rfl|rfl|rfl|rfl
  ·exact⟨_,hz,fun v z=>nomatch z⟩
  ·exact⟨_,hi,fun v z=>nomatch z⟩
  ·exact⟨_,ho,fun v z=>nomatch z⟩
  ·exact⟨_,e1,fun v z=>by rw[d1]at z;cases z⟩
  ·exact⟨_,e2,fun v z=>by rw[d2]at z;cases z⟩
  ·exact⟨_,e3,fun v z=>by rw[d3]at z;cases z⟩
 keep:=fun i h h' st kk=>by
  obtain⟨hz,hi,⟨p,q,r,ho⟩,h1,h2,h3⟩:=st
  exact⟨kk _ (by simp) _ hz,kk _ (by simp) _ hi,⟨p,q,r,kk _ (by simp) _ ho⟩,h1.at fun o e=>kk n (by simp) o e,h2.at fun o e=>kk (n+1) (by simp) o e,h3.at fun o e=>kk (n+2) (by simp) o e⟩
 item:=by
  intro X hP hw hK hc i Xbo s σ H E I hf st hg;subst hP hw hK;obtain⟨xs,ys,zs,x,y,z,hq1,hq2,hq3,hx,hy,hz⟩:=hg;obtain⟨its1,rv1,p1,_⟩:=I.list hq1;obtain⟨its2,rv2,p2,_⟩:=I.list hq2;obtain⟨its3,rv3,p3,_⟩:=I.list hq3;obtain⟨u1,hu1,ru1⟩:=rv1.get hx;obtain⟨u2,hu2,ru2⟩:=rv2.get hy;obtain⟨u3,hu3,ru3⟩:=rv3.get hz;have j1:s.heap.IsList a its1.toArray:=p1.isList;have j2:s.heap.IsList b its2.toArray:=p2.isList;have j3:s.heap.IsList c its3.toArray:=p3.isList;have big:n+5<s.heap.objs.size:=Xm st.z;refine Ci st la lb lc j1 j2 j3 (x:=u1) (y:=u2) (c:=u3) (by simpa using hu1) (by simpa using hu2) (by simpa using hu3) fun h2 Z hT hsz kp=>?_;have I1:Qu X Xbo σ H { s with heap:=h2 }:=I.turnedL (t':=s.toks) (ch:=[n+5,n+3,n+4,n,n+1,n+2]) (fun b o hb e=>kp b o (Rl hb) e) hf;refine⟨_,rfl,wpAny_letOwnedTupleGo_zip Z.z fun h3 z3 s3=>?_⟩;replace s3:Heap.SameBut (n+5) h2 h3:=s3;have I2:Qu X Xbo σ H { s with heap:=h3 }:=Qu.turnedL (s:={ s with heap:=h2 }) (t':=s.toks) (ch:=[n+5]) I1 (fun b o hb e=>s3.extBut b o (fun z=>hb (by simp[z])) e) (fun c hc=>hf c (by simp only[Xg,XZ,or_false]at hc ⊢;exact .inl hc));have tup:h3.IsTuple s.heap.objs.size #[u1,u2,u3]:=⟨_,sb3 s3 hT (by omega),rfl,_,rfl⟩;have I3:=I.trackTri I2 (Xx _) ru1 ru2 ru3 tup;obtain⟨_,zi,⟨p,q,r,zo⟩,zu,zv,zw⟩:=Z;refine⟨.ref s.heap.objs.size,_,I3,rfl,⟨_,x,y,z,I.hok.fresh (Xx _),rfl,rfl,fun xs' h=>by rw[I.list_inj h hq1];exact hx,fun ys' h=>by rw[I.list_inj h hq2];exact hy,fun zs' h=>by rw[I.list_inj h hq3];exact hz⟩,⟨z3,sb3 s3 zi (by omega),⟨p,q,r,sb3 s3 zo (by omega)⟩,zu.at fun o e=>sb3 s3 e (by omega),zv.at fun o e=>sb3 s3 e (by omega),zw.at fun o e=>sb3 s3 e (by omega)⟩,fun c hc'=>?_⟩;have hlt:=(He.mp hc').2;rw[Q7 (show c≠s.heap.objs.size from Xr (by omega))];exact(hf c hc').1
 done:=by
  intro X hP hw hK hc i Xbo s σ H E I hf st hg;subst hP hw hK;obtain⟨xs,hq1,rfl⟩:=hg;obtain⟨its1,rv1,p1,_⟩:=I.list hq1;have j1:s.heap.IsList a its1.toArray:=p1.isList;refine Fp (I.ok.hd hc) st la j1 ?_ fun h2 kp=>⟨rfl,I.turnedL (t':=s.toks) (ch:=[n+5,n+3,n+4,n,n+1,n+2]) (fun b o hb e=>kp b o (Rl hb) e) hf⟩;have r1:=rv1.length
  simp[r1]
 self:=fun _ _ _ _ _ st h=>wpAny_pyIter_zip st.z h
section
variable {X:Cx}
def LB {x y z:V}{us:Qe}(r:Zf [x,y,z] us):∃u v w',us=[u,v,w']/\QR x u/\QR y v/\QR z w':=by
 cases r with
 |cons r1 r2 =>
   obtain⟨v,w',rfl,r3,r4⟩:=Bf r2
   exact⟨_,v,w',rfl,r1,r3,r4⟩
def RM (K:W.Frag)(ta:TA):TI:=fun σ H R=>ta σ H fun vs H1=>∃a b c,vs=[.ref a,.ref b,.ref c]/\(∃xs,SqL K H1 a xs)/\(∃ys,SqL K H1 b ys)/\(∃zs,SqL K H1 c zs)/\R (NZ K a b c) H1
def CG {a b c:Expr} {ta:TA} {p pos:Pos} {elts:Qi} {k:Nat} {tpos:Pos} (hg:Gl X "zip") (hm:X.mg "zip"=none) (ha:PA X [a,b,c] ta) (hs:starEach [a,b,c] X.env=[(false,eval a X.env),(false,eval b X.env),(false,eval c X.env)]:=by rfl) (hs2:starEach [b,c] X.env=[(false,eval b X.env),(false,eval c X.env)]:=by rfl) :
 PI X (.Tuple elts k tpos) (.Call (.Name "zip" p) [a,b,c] [] pos) (RM X.K ta):=by
 intro Xbo s σ H R I h;refine Call_ (Jy I hg hm T0 (PyProof.Rows.callWith_type1 (QI (ha pos Xbo s σ H _ I h) fun us s1 ⟨vs,H1,I1,r1,q1⟩=>?_) (by rw[hs,hs2]) (by rw[hs2];rfl)));obtain⟨x,y,z,e,⟨xs,hx⟩,⟨ys,hy⟩,⟨zs,hz⟩,q⟩:=q1;subst e;obtain⟨u,v,w,rfl,rx,ry,rz⟩:=LB r1
 cases rx
 cases ry
 cases rz
 obtain⟨its1,rv1,p1,_⟩:=I1.list hx;obtain⟨its2,rv2,p2,_⟩:=I1.list hy;obtain⟨its3,rv3,p3,_⟩:=I1.list hz;have j1:s1.heap.IsList x its1.toArray:=p1.isList;have j2:s1.heap.IsList y its2.toArray:=p2.isList;have j3:s1.heap.IsList z its3.toArray:=p3.isList;refine C6 j1 j2 j3 fun h' Z hsz kp=>wpAny_pyIter_zip Z.z ?_;have lx:x<s1.heap.objs.size:=by obtain⟨o,ho,_⟩:=j1;exact Xm ho
 have ly:y<s1.heap.objs.size:=by obtain⟨o,ho,_⟩:=j2;exact Xm ho
 have lz:z<s1.heap.objs.size:=by obtain⟨o,ho,_⟩:=j3;exact Xm ho
 have I2:Qu X Xbo σ H1 { s1 with heap:=h' }:=I1.kept (t':=s1.toks) kp;refine⟨_,[s1.heap.objs.size+5,s1.heap.objs.size+3,s1.heap.objs.size+4,s1.heap.objs.size,s1.heap.objs.size+1,s1.heap.objs.size+2],_,_,H1,rfl,I2,C3 lx ly lz,Z,fun c hc=>?_,q⟩;have hle:s1.heap.objs.size<=c:=(He.mp hc).1;exact I1.fpOk hle (I1.hok.fresh hle)
end
section
variable {K:W.Frag}{ρ:QL}
def Al {α:Type}{t:TA}{xs:List α}{f g h:α->PyData}(hA:Vh K t ρ [.fz (.list (xs.map f)),.fz (.list (xs.map g)),.fz (.list (xs.map h))]):EvI K (RM K t) ρ (xs.map fun x=>.tuple [f x,g x,h x]):=fun H0 F σ H R S q =>
 hA H0 F σ H _ S fun F1 H1 vs x1 r1=>by
  cases r1 with
  |fz r r1 =>
    cases r1 with
    |fz r' r1 =>
      cases r1 with
      |fz r'' r1 =>
        cases r1
        cases r with
        |@lst a as _ ha ra =>
          cases r' with
          |@lst b bs _ hb rb =>
            cases r'' with
            |@lst c cs _ hc rc =>
              refine⟨a,b,c,rfl,⟨as,SqL.of (x1.fh _ _ ha)⟩,⟨bs,SqL.of (x1.fh _ _ hb)⟩,⟨cs,SqL.of (x1.fh _ _ hc)⟩,q F1 H1 _ x1 fun F2 H2 s2 s3=>?_⟩;have qa:SqL K H2 a as:=SqL.of (s3 _ _ (s2 _ _ ha));have qb:SqL K H2 b bs:=SqL.of (s3 _ _ (s2 _ _ hb));have qc:SqL K H2 c cs:=SqL.of (s3 _ _ (s2 _ _ hc));refine⟨⟨as,qa,by rw[ra.length,Xh,Xh]⟩,fun i d e=>?_⟩
              have hi:i<xs.length:=by
               have:=(Xe.mp e).1
               simpa using this
              obtain rfl:d=.tuple [f xs[i],g xs[i],h xs[i]]:=by simpa [hi] using e.symm
              obtain⟨z1,f1,g1⟩:=ra.get (show(xs.map f)[i]?=some (f xs[i]) by simp[hi]);obtain⟨z2,f2,g2⟩:=rb.get (show(xs.map g)[i]?=some (g xs[i]) by simp[hi]);obtain⟨z3,f3,g3⟩:=rc.get (show(xs.map h)[i]?=some (h xs[i]) by simp[hi]);refine⟨⟨as,bs,cs,z1,z2,z3,qa,qb,qc,f1,f2,f3⟩,fun v H3 hy=>?_⟩;obtain⟨p,x,y,z,hp,rfl,rfl,k1,k2,k3⟩:=hy;have ex:=k1 as qa;rw[f1]at ex;cases ex;have ey:=k2 bs qb;rw[f2]at ey;cases ey;have ez:=k3 cs qc;rw[f3]at ez;cases ez;have sn:QN F2 (upd F2 p (.tup [z1,z2,z3])):=QN.new (s3.free hp)
              exact⟨_,QM.new s3 hp,.tup Zg (.cons ((g1.mono s2).mono sn) (.cons ((g2.mono s2).mono sn) (.cons ((g3.mono s2).mono sn) .nil)))⟩
end
end L2
end
section
namespace My
open PySem L2 Mir
local macro_rules | `(tactic| walk_at "d") => `(tactic| dsimp only [List.set])
local macro_rules | `(tactic| walk_at "e") => `(tactic| dsimp only [List.set,JX,List.map,WN])
local macro_rules | `(tactic| walk_at "x") => `(tactic| try dsimp only [FQ,AX])
local macro_rules | `(tactic| walk_at "p") => `(tactic| exact ⟨rfl,rfl,rfl,by decide +kernel,rfl,by decide +kernel,by decide +kernel⟩)
local macro_rules | `(tactic| walk_at "j") => `(tactic| first | decide | omega)
seal PA PE PI PS PSs PT PG
def top (i:Nat):Stmt:=PySem.Challenge.pw_chargeyard_k55_which_filling_is_fairest.main.body.getD i (.Pass ⟨0,0,0,0⟩)
abbrev N0:Stmt:=top 1
abbrev NF:Stmt:=top 2
abbrev N3:Stmt:=top 3
abbrev No:Stmt:=top 4
abbrev Nc:Stmt:=top 5
abbrev Nu:Stmt:=top 6
abbrev Nb:Stmt:=top 7
abbrev KY:Stmt:=top 8
abbrev NB:Stmt:=top 9
abbrev NH:Stmt:=top 10
abbrev Dz:Stmt:=top 11
abbrev D3:Stmt:=top 12
abbrev NM:Stmt:=top 13
abbrev DG:Stmt:=top 14
abbrev D9:Stmt:=top 16
abbrev BP:Stmt:=top 17
abbrev Dv:Stmt:=top 18
abbrev NG:Stmt:=top 19
abbrev NQ:Stmt:=top 20
abbrev NR:Stmt:=top 21
abbrev Nv:Stmt:=top 22
abbrev N4:Stmt:=top 27
abbrev Nk:Stmt:=top 28
abbrev Ni:Stmt:=top 29
abbrev KW:Stmt:=top 30
abbrev N5:Stmt:=top 31
abbrev Dx:Stmt:=top 32
abbrev DK:Stmt:=top 33
abbrev DD:Stmt:=top 34
abbrev D6:Stmt:=top 36
abbrev Nx:Stmt:=top 37
abbrev D2:Stmt:=top 38
abbrev NN:Stmt:=top 40
abbrev N8:Stmt:=top 41
abbrev NT:Stmt:=top 43
abbrev Nw:Stmt:=top 44
abbrev NI:Stmt:=top 45
abbrev DA:Stmt:=top 46
abbrev Nj:Stmt:=top 47
abbrev B5:Stmt:=top 49
abbrev Dy:Stmt:=top 50
abbrev BM:Stmt:=top 51
abbrev D4:Stmt:=top 52
abbrev N7:Stmt:=top 53
abbrev DF:Stmt:=top 54
abbrev Dn:Stmt:=top 55
abbrev DC:Stmt:=top 56
abbrev NO:Stmt:=top 58
abbrev N6:Stmt:=top 59
abbrev N9:Stmt:=top 60
abbrev ND:Stmt:=top 61
abbrev NJ:Stmt:=top 62
abbrev DI:Stmt:=top 63
abbrev D5:Stmt:=top 64
abbrev BI:Stmt:=top 65
abbrev Nh:Stmt:=top 66
abbrev D1:Stmt:=top 67
abbrev DB:Stmt:=top 68
abbrev W3:Stmt:=top 69
abbrev GO:Stmt:=Uc (top 26) 0
abbrev UO:Stmt:=Uc (top 26) 1
abbrev UW:Stmt:=Uc (top 26) 2
abbrev UR:Stmt:=Uc (top 26) 3
abbrev UV:Stmt:=Uc (top 26) 4
abbrev Ui:Stmt:=Uc (top 26) 5
abbrev UQ:Stmt:=Uc (top 26) 6
abbrev UU:Stmt:=Uc (top 26) 7
structure Bl (mg:Str->Qf):Prop where
 abs:mg "abs"=none
 len:mg "len"=none
 max:mg "max"=none
 min:mg "min"=none
 sum:mg "sum"=none
 any:mg "any"=none
 all:mg "all"=none
 isi:mg "isinstance"=none
 int:mg "int"=none
 bool:mg "bool"=none
 list:mg "list"=none
 tuple:mg "tuple"=none
 range:mg "range"=none
 zip:mg "zip"=none
 enumerate:mg "enumerate"=none
 sorted:mg "sorted"=none
structure Tx (K:W.Frag)(mg:Str->Qf)(C gS gE:Addr):Prop where
 net:NetC K C
 mSTART:mg "START"=some (.ref gS)
 mEND:mg "END"=some (.ref gE)
 aS:W.nsIn K mainGlobals "START"=some (some (.ref gS))
 aE:W.nsIn K mainGlobals "END"=some (some (.ref gE))
def upD:Option Nat->PyData
 |none=>.none
 |some a=>.int (a:Int)
def Ve (l:Ln):PyData:=.tuple [upD l.up,.tuple (l.bs.map PyData.int)]
def QS (y:Yd):PyData:=.tuple [.int (y.T:Int),.tuple (y.ls.map Ve)]
def QW (l:Qk):Qd:=l.map fun(j:Nat)=>PyData.int (j:Int)
def mdl {j:Int}(h:0<j):0<j:=h
def cdl {i j:Int}(h1:0<j)(h2:j<=10^60):W5 i j:=⟨h1,XY h2 (by decide +kernel)⟩
def VJ {a b:Int}(h0:0<=a)(h1:a<10^300)(h2:0<=b)(h3:b<10^300):IntMulOk a b:=HH (m:=1000) (n:=1000) h0 (X5 h1 (by decide +kernel)) h2 (X5 h3 (by decide +kernel)) (by decide)
def z60:(10:Int)^60=1000000000000000000000000000000000000000000000000000000000000:=by decide +kernel
def JL {i j:Int}(h1:0<j)(h2:j<=1000000000000000000000000000000000000000000000000000000000000):W5 i j:=cdl h1 (by rw[z60];exact h2)
def UM {α:Type} [Inhabited α] {f:α->PyData}{xs:List α}{k:Int}(h0:0<=k)(h1:k<(xs.length:Int)):atI (xs.map f) k=some (f (xs.getD k.toNat default)):=by
 have h:k.toNat<xs.length:=by omega
 have e:(xs.map f)[k.toNat]?=some (f (xs.getD k.toNat default)):=by simp[h]
 have e2:=Y9 e
 rwa [XR h0]at e2
def MN {xs:Ql}{k:Int}(h0:0<=k)(h1:k<(xs.length:Int)):atI (xs.map PyData.int) k=some (.int (xs.getD k.toNat 0)):=by
 have h:k.toNat<xs.length:=by omega
 have e:(xs.map PyData.int)[k.toNat]?=some (.int (xs.getD k.toNat 0)):=by simp[h]
 have e2:=Y9 e
 rwa [XR h0]at e2
def LG {xs:Ql}{k:Int}(h0:0<=k)(h1:k<(xs.length:Int)):atI xs k=some (xs.getD k.toNat 0):=by
 have h:k.toNat<xs.length:=by omega
 have e:xs[k.toNat]?=some (xs.getD k.toNat 0):=by simp[h]
 have e2:=Y9 e
 rwa [XR h0]at e2
def Gz {f:Nat->PyData}{n:Nat}{k:Int}(h0:0<=k)(h1:k<(n:Int)):atI ((List.range n).map f) k=some (f k.toNat):=by
 have h:k.toNat<n:=by omega
 have e:((List.range n).map f)[k.toNat]?=some (f k.toNat):=by simp[h]
 have e2:=Y9 e
 rwa [XR h0]at e2
def Gy {n:Nat}{k:Int}(h0:0<=k)(h1:k<(n:Int)):ixN n k=some k.toNat:=by
 unfold ixN;rw[Xb h0,Xb h1]
def Tk {α β:Type}(xs:List α)(c:β):xs.map (fun _=>c)=(List.range xs.length).map fun _=>c:=by
 apply List.ext_getElem?
 intro i;by_cases h:i<xs.length
 ·simp[h]
 ·simp[h]
instance:Inhabited Ln:=⟨⟨none,[]⟩⟩
structure ScrOk (ns:Ql):Prop where
 len:ns.length<=63
 bits:∀i∈ns,Builtin.Int.intBits i<=2^20
def QB (g:Gs):PyData:=.tuple [.int (g.line:Int),.int (g.first:Int),.int (g.last:Int),.int g.want,.int g.most]
instance:Inhabited Gs:=⟨⟨0,0,0,1,1⟩⟩
def La {ds:Qd}{m:Nat}(h:∀d∈ds,d.canLay0=true/\d.depth<=m):PyData.canLayAll0 ds=true/\PyData.depthAll ds<=m:=by
 induction ds with
 |nil=>exact⟨rfl,X4 _⟩
 |cons d ds ih =>
   obtain⟨a,b⟩:=h d Xc;obtain⟨c,e⟩:=ih fun x hx=>h x (Xf _ hx);refine⟨by rw[PyData.canLayAll0,a,c];rfl,?_⟩;rw[PyData.depthAll];omega
def Yg (m:Nat)(d:PyData):Prop:=d.canLay0=true/\d.depth<=m
def Yg.fine {m:Nat}{d:PyData}(h:Yg m d)(hm:m<=60):Jk d:=⟨h.1,XI h.2 hm⟩
def As {ds:Qd}{m:Nat}(h:∀d∈ds,Yg m d):Yg (m+1) (.tuple ds):=by
 obtain⟨a,b⟩:=La h;refine⟨by rw[PyData.canLay0];exact a,?_⟩;rw[PyData.depth];omega
def GA {ds:Qd}{m:Nat}(h:∀d∈ds,Yg m d):Yg (m+1) (.list ds):=by
 obtain⟨a,b⟩:=La h;refine⟨by rw[PyData.canLay0];exact a,?_⟩;rw[PyData.depth];omega
def Mv (i:Int)(m:Nat):Yg m (.int i):=⟨rfl,X4 _⟩
def Kw (b:Bool)(m:Nat):Yg m (.bool b):=⟨rfl,X4 _⟩
def Bn {α:Type}{f:α->PyData}{xs:List α}{m:Nat}(h:∀x,Yg m (f x)):∀d∈xs.map f,Yg m d:=fun d hd=>by
 obtain⟨x,_,rfl⟩:=XD.mp hd;exact h x
def Sv {m:Nat}:∀d∈([]:Qd),Yg m d:=fun d hd=>(nomatch hd)
def SH {m:Nat}{d:PyData}{ds:Qd}(h:Yg m d)(h2:∀d∈ds,Yg m d):∀x∈d::ds,Yg m x:=fun x hx=>by
 rcases Xg.mp hx with rfl|hx
 ·exact h
 ·exact h2 x hx
def EF:Jk (.list []):=(GA (m:=0) Sv).fine (by decide)
def Pm (l:Qk):QW l=(l.map fun(j:Nat)=>(j:Int)).map PyData.int:=by
 unfold QW;rw[Xw];rfl
def Pr {a:Nat}{l:Qk}:((a:Int)∈l.map fun(j:Nat)=>(j:Int))↔a∈l:=by
 constructor
 ·intro h
  obtain⟨j,hj,e⟩:=XD.mp h
  have:j=a:=by omega
  subst this;exact hj
 ·intro h
  exact XD.mpr ⟨a,h,rfl⟩
def HL {K:W.Frag}{ρ:QL}{ta tb:TE}{a:Nat}{l:Qk}(ha:Qs K ta ρ (.int (a:Int)))(hb:Qs K tb ρ (.list (QW l))):Qs K (tOp (rIn K false) ta tb) ρ (.bool (decide (a∈l))):=by
 rw[Pm]at hb;have:=Fl ha hb
 rwa [decide_eq_decide.mpr Pr]at this
def K2 {K:W.Frag}{ρ:QL}{ta tb:TE}{a:Nat}{l:Qk}(ha:Qs K ta ρ (.int (a:Int)))(hb:Qs K tb ρ (.list (QW l))):Qs K (tOp (rIn K true) ta tb) ρ (.bool (!decide (a∈l))):=by
 rw[Pm]at hb;have:=Cd ha hb
 rwa [decide_eq_decide.mpr Pr]at this
def PY (n:Nat)(f:Nat->PyData):Wh ((List.range n).map f)=(List.range n).map fun(i:Nat)=>PyData.tuple [.int (i:Int),f i]:=by
 apply List.ext_getElem?
 intro i;unfold Wh;rw[Xj,List.getElem?_zipIdx];by_cases h:i<n
 ·simp[h]
 ·simp[h]
def p10 (n:Nat):(10:Int)^n=((10^n:Nat):Int):=by rw[Int.natCast_pow];rfl
def SA (n:Nat):(0:Int)<10^n:=by
 rw[p10];have:0<10^n:=Nat.pow_pos (by decide);omega
def Lr {i j:Int}(h0:0<=j)(h1:j<=1000):W5 i (10^j.toNat):=⟨SA _,by
 have h:(10:Nat)^j.toNat<=10^1000:=UZ (by decide) (by omega)
 have h2:(10:Int)^j.toNat<=10^1000:=by
  rw[p10,p10];exact Jh.mpr h
 exact XY h2 (by decide +kernel)⟩
def Ls {j:Int}:0<(10:Int)^j.toNat:=SA _
def DY (w:String):Lean.MacroM (Lean.TSyntax `tactic):=do
 let n:=Lean.mkIdent (w.drop 1).toString.toName
 match w.front with
 |'@' => `(tactic| with_reducible apply $n)
 |'!' => `(tactic| with_reducible exact $n)
 |'~' => `(tactic| apply $n)
 |_ => `(tactic| walk_at $(Lean.Syntax.mkStrLit w))
def VF (s:String):Lean.MacroM (Lean.TSyntax `tactic):=do
 let l ← (s.splitOn "|").mapM fun a=>do
  match a.splitOn "<" with
  |[x,z] => `(tactic| ($(← DY x):tactic <;> $(← DY z):tactic))
  |_ =>
    let ts ← (a.splitOn " ").mapM DY
    `(tactic| ($[$ts.toArray:tactic];*))
 `(tactic| first $[| $l.toArray:tactic]*)
local macro_rules | `(tactic| walk_at "rfl") => `(tactic| rfl)
local macro_rules | `(tactic| walk_at "hc") => `(tactic| intro hc)
local macro_rules | `(tactic| walk_at "ls") => `(tactic| dsimp only [List.set])
local macro_rules | `(tactic| walk_at "om") => `(tactic| first | lia | omega)
local macro_rules | `(tactic| walk_at "asm") => `(tactic| with_reducible assumption)
local macro_rules | `(tactic| walk_at "ble") => `(tactic| first | with_reducible rfl | decide | exact Nat.le_of_ble_eq_true rfl)
local macro_rules | `(tactic| walk_at "smo") => `(tactic| (focus (simp; (first | done | walk_at "om"))))
local macro_rules | `(tactic| walk_at "dso") => `(tactic| (focus (dsimp only; walk_at "om")))
local macro_rules | `(tactic| walk_at "r4") => `(tactic| (refine ⟨?_,?_,?_,?_⟩ <;> walk_at "r62"))
local macro_rules | `(tactic| walk_at "r62") => `(tactic| (rw [z62]; walk_at "side"))
local macro_rules | `(tactic| walk_at "ss") => `(tactic| repeat walk_at "s1")
local macro_rules | `(tactic| walk_at "call") => `(tactic| (constructor <;> walk_at "side"))
local macro_rules | `(tactic| walk_at "rg") => `(tactic| first | with_reducible rfl | (apply WA <;> walk_at "rs") | (apply rngU_cong <;> walk_at "rs"))
local macro_rules | `(tactic| walk_at "rs")=>VF "om|smo"
local macro_rules | `(tactic| walk_at "side")=>VF "om|asm|ble|smo"
local macro_rules | `(tactic| walk_at "arith")=>VF "om|asm|ble|smo"
local macro_rules | `(tactic| walk_at "ev")=>VF "@Qp rfl|!QX|!Go|!Mp|!HF|@VV ev ev|@Jt ev ev|@Zs ev ev cond|@Mh ev|@Gx ev ev|@RJ ev ev|@HM ev|@Yy ev|@Kn ev ev ev|@Mr ev hc ev|@L4 rfl ev item|@LF rfl ev item|@ZB evd ev item|@Y7 evd ev item|@Wi eas side|@Zk ea call|@Ug ea call|@LJ ev|@L9 ev ev|@MA ev ev|@HU ev|@RO ev rfl|@LC rfl|@RQ rfl|@L5 evd|@Jz evd|@LK rfl|@Kl evd|@RG ev|@HL ev evd|@K2 ev evd|@Bi ev ev fine fine|@JZ ev rfl|@EvO.fz eo"
local macro_rules | `(tactic| walk_at "evd")=>VF "~Qp rfl|ev|@EvO.fz eo"
local macro_rules | `(tactic| walk_at "ea")=>VF "!QD|@HG rfl ea|@Qt ev ea"
local macro_rules | `(tactic| walk_at "eas")=>VF "~Vf|~Z1 ev eas"
local macro_rules | `(tactic| walk_at "eo")=>VF "@Y8 eas side|@Ua ea call|@B0 evd|@Mq evd evd side"
local macro_rules | `(tactic| walk_at "et")=>VF "!RN|@ZO ev|@Yr ev|@Bh et hc et|@Mi et hc et|@Ms et"
local macro_rules | `(tactic| walk_at "g")=>VF "!Zj|!Y6|@Z8 g g|@Yv g rfl|~Yv g rfl"
local macro_rules | `(tactic| walk_at "ei")=>VF "@Ws ea r62 r62|@K1 ea r4|@FO ea r4|@Jr ea|@UL ea|@Vv evd|@R9 evd"
local macro_rules | `(tactic| walk_at "s1")=>VF "@QG s1|@ZW eo ls|@Zw ev ls|@Mt ev g ls|@B9 rfl ev side ls|@Sz rfl ev ev item ls"
local macro_rules | `(tactic| walk_at "ret")=>VF "@G7 rfl|@ZD evd|@YM eo"
local macro_rules | `(tactic| walk_at "if")=>VF "@QG if|@ZV et"
local macro_rules | `(tactic| walk_at "eir")=>VF "~EvI.cast ei rg"
local macro_rules | `(tactic| walk_at "item")=>VF "rfl|asm|@MN<arith|@LG<arith|@Gz<arith|@Gy<arith|~UM<arith"
local macro_rules | `(tactic| walk_at "cond")=>VF "asm|@Js<om|@JL<om|!LE|@Lr<om|!Ls|@mdl<om|om|dso"
local macro_rules | `(tactic| walk_at "fine")=>VF "~fine_nil"
section
variable {P:Program}{w:World}{K:W.Frag}{mg:Str->Qf}{base:Heap}{C gS gE YR CR fR:Addr}
inductive R_cell:List OT->OT->Prop
 |mk {ns:Ql} {k:Int} (h:0<=k):R_cell [.scr ns,.fz (.int k)] (.fz (.int (Zt ns k)))
def Zhs:Qq Zak Zak (Q8 NO):=by walk_at"p"
def Ca (T:Bl mg) (D:Df K mg "_law_cell_at" NO Zak):Qy P w K mg base "_law_cell_at" Zak 1 (QC (K:=K) R_cell):=by
 refine D.ev Zhs (fun ts r h=>by cases h;rfl) (fun _ _ _ _ s H E ts r hr h=>?_)
 cases h with
 |@mk ns k h0 =>
   refine⟨_,(Qx (ZF (ZX Be (pv 1) (Z2 Ym (by rfl) T.len Yk (Qo (pv 0) Qr)) (ZN _)) (QA (QT (QJ QK (pv 0) (pv 1)))) ZG)
 (QA (QT Qw))),?_⟩
   show Q9 K _ [some _,some _] _
   walk_at"x"
   walk_at"if"
   ·
    intro c;have c:=Xq c
    walk_at"ret"
    rfl
   ·
    intro c;have c:=XO c;refine ZI ?_
    walk_at"ret"
    have e:Zt ns k=0:=by
     have:ns.length<=k.toNat:=by omega
     simp[Zt,List.getD,this]
    rw[e]
inductive R_amount:List OT->OT->Prop
 |mk {n:Int} (h:0<=n):R_amount [.fz (.int n)] (.fz (.tuple [.int (VM n).1,.int (VM n).2]))
def NP:Qq ["_law_number_here","_law_way"] ZaO (Q8 N9):=by walk_at"p"
def IJ (T:Bl mg) (D:Df K mg "_law_amount" N9 ZaO):Qy P w K mg base "_law_amount" ZaO 1 (QC (K:=K) R_amount):=by
 refine D.ev NP (fun ts r h=>by cases h;rfl) (fun _ _ _ _ s H E ts r hr h=>?_)
 cases h with
 |@mk n h0 =>
   refine⟨_,(Qx (QQ (i:=1) NP.nd rfl Qa (QF Vb (pv 0) Qw))
 (Qx (QQ (i:=0) NP.nd rfl Qa (QF Vl (pv 0) Qw))
 (Qx (ZF (ZX JS (pv 1) Qw (ZN _)) (QA (QT (Va (Qo Qw (Qo (pv 0) Qr))))) ZG)
 (Qx (ZF (ZX Be (pv 1) Qw (ZN _)) (QA (QT (Va (Qo (QF Vb (pv 0) Qw) (Qo (QF Vl (pv 0) Qw) Qr))))) ZG)
 (Qx (ZF (ZX JS (pv 1) Qw (ZN _)) (QA (QT (Va (Qo (QF Vb (pv 0) Qw) (Qo (QF Vl (pv 0) Qw) Qr))))) ZG)
 (QA (QT (Va (Qo (QF Vb (pv 0) (QF Km Qw Qw)) (Qo (QF Vl (pv 0) (QF Km Qw Qw)) Qr)))))))))),?_⟩
   show Q9 K _ [some _,none] _
   walk_at"ss"
   walk_at"if"
   ·
    intro c;have c:=Xq c
    walk_at"ret"
    show _=_;unfold VM;rw[Xb c]
   ·
    intro c;have c:=XO c;refine ZI ?_
    walk_at"if"
    ·
     intro c2;have c2:=Xq c2
     walk_at"ret"
     show _=_;unfold VM;rw[Xa c,Xb c2]
    ·
     intro c2;have c2:=XO c2;refine ZI ?_
     walk_at"if"
     ·
      intro c3;have c3:=Xq c3
      walk_at"ret"
      show _=_;unfold VM;rw[Xa c,Xa c2,Xb c3]
     ·
      intro c3;have c3:=XO c3;refine ZI ?_
      walk_at"ret"
      show _=_;unfold VM;rw[Xa c,Xa c2,Xa c3];rfl
inductive R_number:List OT->OT->Prop
 |mk {ns:Ql} {k:Int} (hs:ScrOk ns) (h0:0<=k) (h1:k<1000):R_number [.scr ns,.fz (.int k)] (.fz (.int (V1 ns k)))
def Cg {x:Int}{m:Nat}(h0:0<=x)(h:x<2^m):Builtin.Int.intBits x<=m:=by
 unfold Builtin.Int.intBits;by_cases e:x=0
 ·subst e;simp
 ·have e1:(x==0)=false:=by simpa using e
  rw[e1];have h1:x.natAbs≠0:=by omega
  have h2:x.natAbs<2^m:=by
   have:((x.natAbs:Nat):Int)<((2^m:Nat):Int):=by
    have e2:((2^m:Nat):Int)=(2:Int)^m:=by rw[Int.natCast_pow];rfl
    rw[e2];omega
   exact Wu.mp this
  have:=(Nat.log2_lt h1).mpr h2
  simp only[X8,if_false];omega
def En {ns:Ql}(hs:ScrOk ns)(k:Int):Builtin.Int.intBits (ZgG (Zt ns k))<=2^20:=by
 have e:Builtin.Int.intBits (ZgG (Zt ns k))=Builtin.Int.intBits (Zt ns k):=by
  unfold ZgG;split
  ·unfold Builtin.Int.intBits
   simp
  ·rfl
 rw[e];by_cases h:k.toNat<ns.length
 ·refine hs.bits _ ?_
  simp[Zt,h]
 ·have:Zt ns k=0:=by
   have:ns.length<=k.toNat:=by omega
   simp[Zt,List.getD,this]
  rw[this];decide
def Je:Qq ["_law_script","_law_k","_law_head","_law_one","_law_other","_law_total","_law_turn","_law_cell"] Zak (Q8 N6):=by walk_at"p"
def Ob (T:Bl mg) (D:Df K mg "_law_number" N6 Zak) (Xbw:Qy P w K mg base "_law_cell_at" Zak 1 (QC (K:=K) R_cell)):Qy P w K mg base "_law_number" Zak 2 (QC (K:=K) R_number):=by
 refine D.ev Je (fun ts r h=>by cases h;rfl) (fun _ _ _ _ s H E ts r hr h=>?_)
 cases h with
 |@mk ns k hs h0 h1 =>
   refine⟨_,(Qx (QQ (i:=2) Je.nd rfl Qa (QH Xbw hr (Qo (pv 0) (Qo Qw Qr))))
 (Qx (QQ (i:=3) Je.nd rfl Qa (QF Vr (QF Vb (pv 2) Qw) (QF Yx Qw (pv 1))))
 (Qx (QQ (i:=4) Je.nd rfl Qa (QF Vr (QF Yx Qw (pv 1)) Qw))
 (Qx (QQ (i:=5) Je.nd rfl Qa Qw)
 (Qx (ZC PassesOwn.never rfl (VD rfl T.range (Qo Qw Qr)) (QP (i:=6) Je.nd rfl Qa) (Qx (QQ (i:=3) Je.nd rfl Qa (QF Vb (QF Vr (QF Vr (QF Yx (pv 3) Qw) Qw) (QF Yx (pv 6) (pv 1))) Qw))
 (Qx (QQ (i:=4) Je.nd rfl Qa (QF Vb (QF Vr (QF Yx (pv 4) Qw) (pv 3)) Qw))
 (QA (QQ (i:=5) Je.nd rfl Qa (QF Vr (QF Yx (pv 5) Qw) (QF Vb (QF Vr (QF Yx (pv 4) (pv 4)) (pv 3)) Qw)))))))
 (Qx (ZF (ZX JS (QF Vb (QF Vl (pv 2) Qw) Qw) Qw (ZN _)) (QA (QT (pv 5))) ZG)
 (Qx (QQ (i:=7) Je.nd rfl Qa (Z2 M7 (by rfl) T.abs M3 (Qo (QH Xbw hr (Qo (pv 0) (Qo (pv 1) Qr))) Qr)))
 (QA (QT (QF Vr (pv 7) (QF C5 (pv 5) (Fn PySem.F.plainAttrs_int PySem.F.slot_int_bit_length PySem.F.type_int_bit_length Cu (pv 7))))))))))))),?_⟩
   show Q9 K _ [some _,some _,none,none,none,none,none,none] _
   walk_at"x"
   walk_at"ss"
   refine QG (YU (fun i=>[some (.scr ns),some (.fz (.int k)),some (.fz (.int (Zt ns 0))),some (.fz (.int (mix (Zt ns 0) k i).1)),some (.fz (.int (mix (Zt ns 0) k i).2.1)),some (.fz (.int (mix (Zt ns 0) k i).2.2)),none,none]) (by walk_at"ei") ⟨rfl,rfl,rfl,rfl,rfl,rfl,trivial⟩ ?_ ?_)
   ·intro i d hd
    obtain⟨hi,rfl⟩:=YB hd;refine⟨_,by walk_at"g",?_⟩
    walk_at"d"
    have hi2:i<30:=hi;have o1:0<=((mix (Zt ns 0) k i).1*48271+11+(0+(i:Int))*k)%2147483647/\((mix (Zt ns 0) k i).1*48271+11+(0+(i:Int))*k)%2147483647<2147483647:=by omega
    have o2:0<=((mix (Zt ns 0) k i).2.1*16807+((mix (Zt ns 0) k i).1*48271+11+(0+(i:Int))*k)%2147483647)%2147483629/\((mix (Zt ns 0) k i).2.1*16807+((mix (Zt ns 0) k i).1*48271+11+(0+(i:Int))*k)%2147483647)%2147483629<2147483629:=by omega
    walk_at"ss"
    refine⟨rfl,rfl,rfl,?_,?_,?_,trivial⟩<;>simp only[mix,Y2]
   ·intro ρ' hf
    refine VW hf ?_;have hn:=Dq (Zt ns 0) k 30;have e30:(ZQ 0 (30:Int).toNat).length=30:=Y0;rw[e30];walk_at"if"
    ·
     intro c;have c:=Xq c
     walk_at"ret"
     show _=_;unfold V1;rw[Xb c]
    ·
     intro c;have c:=XO c;refine ZI ?_;have cb:=En hs k;have tb:Builtin.Int.intBits (mix (Zt ns 0) k 30).2.2<=930:=Cg hn.1 (A0 _ _)
     have sh:NW (mix (Zt ns 0) k 30).2.2 (Builtin.Int.intBits (ZgG (Zt ns k)):Int):=⟨by omega,by
      have:(2:Int)^27=134217728:=by decide
      have:(2:Nat)^20=1048576:=by decide
      omega⟩
     walk_at"s1";refine ZD (VV (Qp rfl) (Zs (Qp rfl) (RG (Qp rfl)) sh)) ?_
     show _=_;unfold V1;rw[Xa c];rfl
inductive R_yard:List OT->OT->Prop
 |mk {ns:Ql} (hs:ScrOk ns):R_yard [.scr ns] (.fz (QS (Wk ns)))
def YW:Qq ["_law_script","_law_head","_law_turns","_law_lines","_law_k","_law_number_here","_law_above","_law_bounds","_law_turn","_law_bound"] ZaF (Q8 ND):=by walk_at"p"
def CA (T:Bl mg) (D:Df K mg "_law_yard" ND ZaF) (Xbw:Qy P w K mg base "_law_cell_at" Zak 1 (QC (K:=K) R_cell)) (Xbx:Qy P w K mg base "_law_number" Zak 2 (QC (K:=K) R_number))
 (XbF:Qy P w K mg base "_law_amount" ZaO 1 (QC (K:=K) R_amount)):Qy P w K mg base "_law_yard" ZaF 3 (QC (K:=K) R_yard):=by
 refine D.ev YW (fun ts r h=>by cases h;rfl) (fun _ _ _ _ s H E ts r hr h=>?_)
 cases h with
 |@mk ns hs =>
   refine⟨_,(Qx (QQ (i:=1) YW.nd rfl Qa (Z2 M7 (by rfl) T.abs M3 (Qo (QH Xbw hr (Qo (pv 0) (Qo Qw Qr))) Qr)))
 (Qx (QQ (i:=2) YW.nd rfl Qa (QF Vr Qw (QF Vb (pv 1) Qw)))
 (Qx (QQ (i:=3) YW.nd rfl Qa (V2 Qr))
 (Qx (ZC PassesOwn.never rfl (VD rfl T.range (Qo (QF Vr Qw (QF Vb (QF Vl (pv 1) Qw) Qw)) Qr)) (QP (i:=4) YW.nd rfl Qa) (Qx (QQ (i:=5) YW.nd rfl Qa (QH Xbx hr (Qo (pv 0) (Qo (QF Vr Qw (pv 4)) Qr))))
 (Qx (QQ (i:=6) YW.nd rfl Qa UH)
 (Qx (ZF (ZX Jp (pv 4) Qw (ZN _)) (Qx (QQ (i:=6) YW.nd rfl Qa (QF Vb (pv 5) (pv 4)))
 (QA (QQ (i:=5) YW.nd rfl Qa (QF Vl (pv 5) (pv 4))))) ZG)
 (Qx (QQ (i:=7) YW.nd rfl Qa (V2 Qr))
 (Qx (ZC PassesOwn.never rfl (VD rfl T.range (Qo (pv 2) Qr)) (QP (i:=8) YW.nd rfl Qa) (Qx (YS (QH XbF hr (Qo (pv 5) Qr)) (Vs (n:=2) rfl (Zo (QP (i:=9) YW.nd rfl Qa) (Zo (QP (i:=5) YW.nd rfl Qa) Vp))))
 (QA (V3 (WJ PySem.F.plainAttrs_list PySem.F.slot_list_append PySem.F.type_list_append WY (pv 7) (Qo (pv 9) Qr))))))
 (QA (V3 (WJ PySem.F.plainAttrs_list PySem.F.slot_list_append PySem.F.type_list_append WY (pv 3) (Qo (Va (Qo (pv 6) (Qo (WX De (by rfl) T.tuple Dh (Qo (pv 7) Qr)) Qr))) Qr))))))))))
 (QA (QT (Va (Qo (pv 2) (Qo (WX De (by rfl) T.tuple Dh (Qo (pv 3) Qr)) Qr))))))))),?_⟩
   show Q9 K _ [some _,none,none,none,none,none,none,none,none,none] _
   walk_at"x"
   obtain⟨t1,t8⟩:=TM ns;obtain⟨c1,c5⟩:=TV ns;have hn:=GD (Zt ns 0)
   walk_at"ss"
   have et:1+ZgG (Zt ns 0)%8=((ZbK ns:Nat):Int):=by unfold ZbK;omega
   have ec:1+ZgG (Zt ns 0)/8%5=((ZdA ns:Nat):Int):=by unfold ZdA;omega
   rw[et];refine QG (YU (ds:=ZQ 0 (ZdA ns)) (fun i=>[some (.scr ns),some (.fz (.int (ZgG (Zt ns 0)))),some (.fz (.int (ZbK ns:Int))),some (.ol (((List.range i).map (Wj ns (ZbK ns))).map Ve)),none,none,none,none,none,none]) ?ei ⟨rfl,rfl,rfl,rfl,trivial⟩ ?st ?fin)
   case ei=>walk_at"eir"
   case st =>
    intro i d hd;obtain⟨hi,rfl⟩:=YB hd;refine⟨_,by walk_at"g",?_⟩
    walk_at"d"
    rw[Y2];have nn:=Dl ns (1+(i:Int))
    walk_at"ss"
    refine Wl (fun ρ'=>∃(ab:Option Nat) (nm:Int),0<=nm/\Wj ns (ZbK ns) i=⟨ab,(bnd nm (ZbK ns)).1⟩ /\
     ρ'=[some (.scr ns),some (.fz (.int (ZgG (Zt ns 0)))),some (.fz (.int (ZbK ns:Int))),some (.ol (((List.range i).map (Wj ns (ZbK ns))).map Ve)),some (.fz (.int (i:Int))),some (.fz (.int nm)),some (.fz (upD ab)),none,none,none]) ?h ?z
    case h =>
     walk_at"if"
     ·
      intro c;have c:(0:Int)<(i:Int):=Xq c
      walk_at"ss"
      refine⟨some (V1 ns (1+(i:Int))%(i:Int)).toNat,V1 ns (1+(i:Int))/(i:Int),JA nn (by omega),?_,?_⟩
      ·unfold Wj
       rw[Xa (by omega)]
      ·have:(((V1 ns (1+(i:Int))%(i:Int)).toNat:Nat):Int)=V1 ns (1+(i:Int))%(i:Int):=XR (JB _ (by omega))
       simp only[upD,this]
     ·
      intro c;have c:¬(0:Int)<(i:Int):=XO c;refine ZI ⟨none,V1 ns (1+(i:Int)),nn,?_,rfl⟩;unfold Wj;rw[Xb (by omega)]
    case z =>
     rintro ρ' ⟨ab,nm,hnm,eln,rfl⟩
     walk_at"ss"
     refine QG (YU (ds:=ZQ 0 (ZbK ns)) (fun j=>[some (.scr ns),some (.fz (.int (ZgG (Zt ns 0)))),some (.fz (.int (ZbK ns:Int))),some (.ol (((List.range i).map (Wj ns (ZbK ns))).map Ve)),some (.fz (.int (i:Int))),some (.fz (.int (bnd nm j).2)),some (.fz (upD ab)),some (.ol ((bnd nm j).1.map PyData.int)),none,none]) ?ei2 ⟨rfl,rfl,rfl,rfl,rfl,rfl,rfl,rfl,trivial⟩ ?st2 ?fin2)
     case ei2=>walk_at"eir"
     case st2 =>
      intro j d hd;obtain⟨hj,rfl⟩:=YB hd;obtain⟨b1,b2,b3⟩:=W7 hnm j;refine⟨_,by walk_at"g",?_⟩
      walk_at"d"
      walk_at"ss"
      exact⟨rfl,rfl,rfl,rfl,rfl,rfl,rfl,by simp[bnd],trivial⟩
     case fin2 =>
      intro ρ' hf;refine VW hf ?_;obtain⟨b1,b2,b3⟩:=W7 hnm (ZbK ns)
      walk_at"ss"
      refine⟨rfl,rfl,rfl,?_,trivial⟩;rw[Y3,XE,XE,Y0];simp only[Xs,JJ,eln];rfl
   case fin =>
    intro ρ' hf;refine VW hf ?_
    walk_at"ret"
    rw[Y0];rfl
inductive R_guests:List OT->OT->Prop
 |mk {ns:Ql} {y:Yd} (hs:ScrOk ns) (ok:y.Ok):R_guests [.scr ns,.fz (QS y)] (.ol ((Uh ns y).map QB))
def YD:Qq ["_law_script","_law_yard_here","_law_guests_here","_law_k","_law_number_here","_law_line","_law_first","_law_last","_law_want","_law_most"] Zaz (Q8 NJ):=by walk_at"p"
def Og (T:Bl mg) (D:Df K mg "_law_guests" NJ Zaz) (Xbw:Qy P w K mg base "_law_cell_at" Zak 1 (QC (K:=K) R_cell)) (Xbx:Qy P w K mg base "_law_number" Zak 2 (QC (K:=K) R_number))
 (XbF:Qy P w K mg base "_law_amount" ZaO 1 (QC (K:=K) R_amount)):Qy P w K mg base "_law_guests" Zaz 3 (QC (K:=K) R_guests):=by
 refine D.ev YD (fun ts r h=>by cases h;rfl) (fun _ _ _ _ s H E ts r hr h=>?_)
 cases h with
 |@mk ns y hs ok =>
   refine⟨_,(Qx (QQ (i:=2) YD.nd rfl Qa (V2 Qr))
 (Qx (ZC PassesOwn.never rfl (VD rfl T.range (Qo (QF Vb (QF Vl (Z2 M7 (by rfl) T.abs M3 (Qo (QH Xbw hr (Qo (pv 0) (Qo Qw Qr))) Qr)) Qw) Qw) Qr)) (QP (i:=3) YD.nd rfl Qa) (Qx (QQ (i:=4) YD.nd rfl Qa (QH Xbx hr (Qo (pv 0) (Qo (QF Vr Qw (pv 3)) Qr))))
 (Qx (QQ (i:=5) YD.nd rfl Qa (QF Vb (pv 4) (Z2 Ym (by rfl) T.len Yk (Qo (QJ QK (pv 1) Qw) Qr))))
 (Qx (QQ (i:=4) YD.nd rfl Qa (QF Vl (pv 4) (Z2 Ym (by rfl) T.len Yk (Qo (QJ QK (pv 1) Qw) Qr))))
 (Qx (QQ (i:=6) YD.nd rfl Qa (QF Vb (pv 4) (QJ QK (pv 1) Qw)))
 (Qx (QQ (i:=4) YD.nd rfl Qa (QF Vl (pv 4) (QJ QK (pv 1) Qw)))
 (Qx (QQ (i:=7) YD.nd rfl Qa (QF Vr (pv 6) (QF Vb (pv 4) (QF G3 (QJ QK (pv 1) Qw) (pv 6)))))
 (Qx (QQ (i:=4) YD.nd rfl Qa (QF Vl (pv 4) (QF G3 (QJ QK (pv 1) Qw) (pv 6))))
 (Qx (YS (QH XbF hr (Qo (pv 4) Qr)) (Vs (n:=2) rfl (Zo (QP (i:=8) YD.nd rfl Qa) (Zo (QP (i:=4) YD.nd rfl Qa) Vp))))
 (Qx (YS (QH XbF hr (Qo (pv 4) Qr)) (Vs (n:=2) rfl (Zo (QP (i:=9) YD.nd rfl Qa) (Zo (QP (i:=4) YD.nd rfl Qa) Vp))))
 (QA (V3 (WJ PySem.F.plainAttrs_list PySem.F.slot_list_append PySem.F.type_list_append WY (pv 2) (Qo (Va (Qo (pv 5) (Qo (pv 6) (Qo (pv 7) (Qo (Z2 (Sh rfl) (by rfl) T.max Si (Qo Qw (Qo (pv 8) Qr))) (Qo (Z2 (Sh rfl) (by rfl) T.max Si (Qo Qw (Qo (pv 9) Qr))) Qr)))))) Qr))))))))))))))
 (QA (QT (pv 2))))),?_⟩
   show Q9 K _ [some _,some _,none,none,none,none,none,none,none,none] _
   walk_at"x"
   have l1:=ok.l1;have l5:=ok.l5;have t1:=ok.t1;have t8:=ok.t8;have hn:=GD (Zt ns 0);have gc:GI ns<=8:=by unfold GI;omega
   have eg:GI ns=(ZgG (Zt ns 0)/40%9).toNat:=rfl
   walk_at"ss"
   refine QG (YU (ds:=ZQ 0 (GI ns)) (fun i=>[some (.scr ns),some (.fz (QS y)),some (.ol (((List.range i).map (WU ns y)).map QB)),none,none,none,none,none,none,none]) ?ei ⟨rfl,rfl,rfl,trivial⟩ ?st ?fin)
   case ei=>walk_at"eir"
   case st =>
    intro i d hd;obtain⟨hi,rfl⟩:=YB hd;refine⟨_,by walk_at"g",?_⟩
    walk_at"d"
    rw[Y2];obtain⟨f0,f1⟩:=Mn ok ns i;obtain⟨e0,e1⟩:=R4 ok ns i;obtain⟨n0,n1,n2,n3⟩:=HJ ok ns i;obtain⟨a1,a2,a3⟩:=UN n3;obtain⟨b1,b2,b3⟩:=UN a3;have lp:(0:Int)<(((y.ls.map Ve).length:Nat):Int):=by rw[Xh];omega
    have lp2:(((y.ls.map Ve).length:Nat):Int)<=5:=by rw[Xh];omega
    have tp:(0:Int)<(y.T:Int):=by omega
    have fp:(0:Int)<(y.T:Int)-gf ns y i:=by omega
    walk_at"s1";walk_at"s1"
    walk_at"s1";rw[Xh]
    change Q9 K _ [_,_,_,_,some (.fz (.int (gn1 ns y i))),some (.fz (.int (gn0 ns i%(y.ls.length:Int)))),_,_,_,_] _
    walk_at"s1";walk_at"s1"
    change Q9 K _ [_,_,_,_,some (.fz (.int (gn2 ns y i))),_,some (.fz (.int (gf ns y i))),_,_,_] _
    walk_at"s1";walk_at"s1"
    change Q9 K _ [_,_,_,_,some (.fz (.int (gn3 ns y i))),_,_,some (.fz (.int (gl ns y i))),_,_] _
    walk_at"ss"
    refine⟨rfl,rfl,?_,trivial⟩;rw[Y3,XE,XE];simp only[Xs,JJ];have c1:=JB (gn0 ns i) (show(y.ls.length:Int)≠0 by omega)
    have hg:QB (WU ns y i)=.tuple [.int (gn0 ns i%(y.ls.length:Int)),.int (gf ns y i),.int (gl ns y i),.int (Ji (VM (gn3 ns y i)).1),.int (Ji (VM (VM (gn3 ns y i)).2).1)]:=by
     unfold QB WU;dsimp only;rw[XR c1,XR f0,XR (by omega)]
    have m1:∀i:Int,max 1 i=Ji i:=fun i=>by unfold Ji;split<;>omega
    rw[hg,<- m1,<- m1]
   case fin =>
    intro ρ' hf;refine VW hf ?_
    walk_at"ret"
    rw[Y0];rfl
def Z9 (y:Yd)(k:Nat):Ln:=y.ls.getD k default
def upN (y:Yd)(k:Nat):Nat:=(QZ y k).getD 0
def BB {y:Yd}{k:Nat}(h:k<y.ls.length):QZ y k=(Z9 y k).up:=by simp[QZ,Z9,h]
def US {y:Yd}{k t:Nat}(h:k<y.ls.length):Zi y k t=(Z9 y k).bs.getD t 0:=by simp[Zi,Z9,h]
def GF {y:Yd}(ok:y.Ok){k:Nat}(h:k<y.ls.length):(Z9 y k).bs.length=y.T:=ok.bl _ (by simp[Z9,h])
inductive R_turns:List OT->OT->Prop
 |mk {y:Yd}:R_turns [.fz (QS y)] (.fz (.int (y.T:Int)))
def Zkw:Qq ZaQ ZaQ (Q8 N0):=by walk_at"p"
def A7 (T:Bl mg) (D:Df K mg "turns_of" N0 ZaQ):Qy P w K mg base "turns_of" ZaQ 1 (QC (K:=K) R_turns):=by
 refine D.ev Zkw (fun ts r h=>by cases h;rfl) (fun _ _ _ _ s H E ts r hr h=>?_)
 cases h with
 |@mk y =>
   refine⟨_,(QA (QT (QJ QK (pv 0) Qw))),?_⟩;show Q9 K _ [some _] _
   walk_at"x"
   walk_at"ret"
   rfl
inductive R_count:List OT->OT->Prop
 |mk {y:Yd}:R_count [.fz (QS y)] (.fz (.int (y.ls.length:Int)))
def ZiK:Qq ZaQ ZaQ (Q8 NF):=by walk_at"p"
def A8 (T:Bl mg) (D:Df K mg "line_count" NF ZaQ):Qy P w K mg base "line_count" ZaQ 1 (QC (K:=K) R_count):=by
 refine D.ev ZiK (fun ts r h=>by cases h;rfl) (fun _ _ _ _ s H E ts r hr h=>?_)
 cases h with
 |@mk y =>
   refine⟨_,(QA (QT (Z2 Ym (by rfl) T.len Yk (Qo (QJ QK (pv 0) Qw) Qr)))),?_⟩;show Q9 K _ [some _] _
   walk_at"x"
   walk_at"ret"
   show _=_;rw[Xh]
inductive R_above:List OT->OT->Prop
 |mk {y:Yd} {k:Int} (ok:y.Ok) (h0:0<k) (h1:k<(y.ls.length:Int)):R_above [.fz (QS y),.fz (.int k)] (.fz (.int (upN y k.toNat:Int)))
 |zero {y:Yd} (ok:y.Ok):R_above [.fz (QS y),.fz (.int 0)] (.fz .none)
def ZkW:Qq Zau Zau (Q8 N3):=by walk_at"p"
def E7 (T:Bl mg) (D:Df K mg "above_of" N3 Zau):Qy P w K mg base "above_of" Zau 1 (QC (K:=K) R_above):=by
 refine D.ev ZkW (fun ts r h=>by cases h<;>rfl) (fun _ _ _ _ s H E ts r hr h=>?_)
 cases h with
 |@mk y k ok h0 h1 =>
   refine⟨_,(QA (QT (QJ QK (QJ QK (QJ QK (pv 0) Qw) (pv 1)) Qw))),?_⟩;show Q9 K _ [some _,some _] _
   walk_at"x"
   walk_at"ret"
   obtain⟨a,e,l⟩:=ok.ups k.toNat (by omega) (by omega);have e2:(Z9 y k.toNat).up=some a:=by rw[<- BB (by omega)];exact e
   show OT.fz (upD (Z9 y k.toNat).up)=_;rw[e2];simp[upN,e,upD]
 |@zero y ok =>
   refine⟨_,(QA (QT (QJ QK (QJ QK (QJ QK (pv 0) Qw) (pv 1)) Qw))),?_⟩;show Q9 K _ [some _,some _] _
   walk_at"x"
   have l1:=ok.l1
   walk_at"ret"
   have e2:(Z9 y 0).up=none:=by rw[<- BB (by omega)];exact ok.up0
   show OT.fz (upD (Z9 y 0).up)=_;rw[e2];rfl
inductive R_bound:List OT->OT->Prop
 |mk {y:Yd} {k t:Int} (ok:y.Ok) (h0:0<=k) (h1:k<(y.ls.length:Int)) (h2:0<=t) (h3:t<(y.T:Int)):R_bound [.fz (QS y),.fz (.int k),.fz (.int t)] (.fz (.int (Zi y k.toNat t.toNat)))
def ZkQ:Qq Zas Zas (Q8 No):=by walk_at"p"
def Av (T:Bl mg) (D:Df K mg "bound_at" No Zas):Qy P w K mg base "bound_at" Zas 1 (QC (K:=K) R_bound):=by
 refine D.ev ZkQ (fun ts r h=>by cases h;rfl) (fun _ _ _ _ s H E ts r hr h=>?_)
 cases h with
 |@mk y k t ok h0 h1 h2 h3 =>
   refine⟨_,(QA (QT (QJ QK (QJ QK (QJ QK (QJ QK (pv 0) Qw) (pv 1)) Qw) (pv 2)))),?_⟩;show Q9 K _ [some _,some _,some _] _
   walk_at"x"
   have hl:(y.ls.getD k.toNat default).bs.length=y.T:=GF ok (by omega)
   walk_at"ret"
   show _=_;rw[US (by omega)];rfl
inductive R_lineof:List OT->OT->Prop
 |mk {g:Gs}:R_lineof [.fz (QB g)] (.fz (.int (g.line:Int)))
def O6:Qq Zat Zat (Q8 Nc):=by walk_at"p"
def Ex (T:Bl mg) (D:Df K mg "line_of" Nc Zat):Qy P w K mg base "line_of" Zat 1 (QC (K:=K) R_lineof):=by
 refine D.ev O6 (fun ts r h=>by cases h;rfl) (fun _ _ _ _ s H E ts r hr h=>?_)
 cases h with
 |@mk g =>
   refine⟨_,(QA (QT (QJ QK (pv 0) Qw))),?_⟩;show Q9 K _ [some _] _
   walk_at"x"
   walk_at"ret"
   rfl
inductive R_there:List OT->OT->Prop
 |mk {g:Gs} {t:Int}:R_there [.fz (QB g),.fz (.int t)] (.fz (.bool (ZH g t)))
def ZkV:Qq ZaN ZaN (Q8 Nu):=by walk_at"p"
def CZ (T:Bl mg) (D:Df K mg "is_there" Nu ZaN):Qy P w K mg base "is_there" ZaN 1 (QC (K:=K) R_there):=by
 refine D.ev ZkV (fun ts r h=>by cases h;rfl) (fun _ _ _ _ s H E ts r hr h=>?_)
 cases h with
 |@mk g t =>
   refine⟨_,(QA (QT (P6 Gw Gw (QJ QK (pv 0) Qw) (pv 1) (QJ QK (pv 0) Qw)))),?_⟩;show Q9 K _ [some _,some _] _
   walk_at"x"
   walk_at"ret"
   rfl
inductive R_most:List OT->OT->Prop
 |mk {g:Gs}:R_most [.fz (QB g)] (.fz (.int g.most))
def OK:Qq Zat Zat (Q8 KY):=by walk_at"p"
def Cc (T:Bl mg) (D:Df K mg "most_of" KY Zat):Qy P w K mg base "most_of" Zat 1 (QC (K:=K) R_most):=by
 refine D.ev OK (fun ts r h=>by cases h;rfl) (fun _ _ _ _ s H E ts r hr h=>?_)
 cases h with
 |@mk g =>
   refine⟨_,(QA (QT (QJ QK (pv 0) Qw))),?_⟩;show Q9 K _ [some _] _
   walk_at"x"
   walk_at"ret"
   rfl
inductive R_want:List OT->OT->Prop
 |mk {g:Gs}:R_want [.fz (QB g)] (.fz (.int g.want))
def OQ:Qq Zat Zat (Q8 Nb):=by walk_at"p"
def Cy (T:Bl mg) (D:Df K mg "want_of" Nb Zat):Qy P w K mg base "want_of" Zat 1 (QC (K:=K) R_want):=by
 refine D.ev OQ (fun ts r h=>by cases h;rfl) (fun _ _ _ _ s H E ts r hr h=>?_)
 cases h with
 |@mk g =>
   refine⟨_,(QA (QT (QJ QK (pv 0) Qw))),?_⟩;show Q9 K _ [some _] _
   walk_at"x"
   walk_at"ret"
   rfl
structure SetOk (gs:List Gs)(some:Qk):Prop where
 mem:∀k∈some,k<gs.length
 len:some.length<=8
def WQ (gs:List Gs)(t:Nat)(sm:Qk):Qn:=fun l=>Z7 gs (t:Int) l sm
def G4 (y:Yd)(gs:List Gs)(sm:Qk)(t:Nat):Ql:=(List.range y.ls.length).map fun l=>VI y (fun k=>Zi y k t) (WQ gs t sm) l
inductive R_reaching:List OT->OT->Prop
 |mk {y:Yd} {gs:List Gs} {sm:Qk} {t:Int} (ok:y.Ok) (hg:∀g∈gs,g.Ok y) (hs:SetOk gs sm) (h0:0<=t) (h1:t<(y.T:Int)) :
  R_reaching [.fz (QS y),.fz (.list (gs.map QB)),.fz (.list (QW sm)),.fz (.int t)] (.ol ((G4 y gs sm t.toNat).map PyData.int))
def SG {n j:Nat}{f g:Qn}(hj:j<n)(e1:∀l,l<n->l≠j->g l=f l){v:Int}(e2:g j=v) :
 (((List.range n).map fun l=>PyData.int (f l)).set j (.int v))=(List.range n).map fun l=>PyData.int (g l):=by
 apply List.ext_getElem?
 intro i;by_cases hi:i=j
 ·subst hi
  rw[XL (by simpa using hj)];simp[hj,e2]
 ·rw[XT (Ne.symm hi)]
  by_cases h:i<n
  ·simp[h,e1 i h hi]
  ·simp[h]
def BL:Qq ZaE Zal (Q8 D6):=by walk_at"p"
def Zlg (T:Bl mg) (D:Df K mg "reaching_at" D6 Zal) (Xbs:Qy P w K mg base "line_count" ZaQ 1 (QC (K:=K) R_count)) (Xbz:Qy P w K mg base "is_there" ZaN 1 (QC (K:=K) R_there))
 (Xbu:Qy P w K mg base "line_of" Zat 1 (QC (K:=K) R_lineof)) (XbA:Qy P w K mg base "most_of" Zat 1 (QC (K:=K) R_most)) (XbB:Qy P w K mg base "above_of" Zau 1 (QC (K:=K) R_above))
 (Xbt:Qy P w K mg base "bound_at" Zas 1 (QC (K:=K) R_bound)):Qy P w K mg base "reaching_at" Zal 2 (QC (K:=K) R_reaching):=by
 refine D.ev BL (fun ts r h=>by cases h;rfl) (fun _ _ _ _ s H E ts r hr h=>?_)
 cases h with
 |@mk y gs sm t ok hg hs h0 h1 =>
   refine⟨_,(Qx (Y1 (i:=4) BL.nd rfl rfl (NX:=ZaE) (sc:=Q8 D6) (N:=["line"]) (f:=[none]) rfl (by decide +kernel) rfl rfl (VD rfl T.range (Qo (QH Xbs hr (Qo (pv 0) Qr)) Qr)) (fun _=>(QP (i:=0) (show(["line"]:Qh).Nodup by decide +kernel) rfl Qa)) (fun _=>Z5) (fun _=>ZT) (fun _=>Qw) rfl)
 (Qx (ZC PassesOwn.never rfl (Vq (pv 2)) (QP (i:=5) BL.nd rfl Qa) (Qx (QQ (i:=6) BL.nd rfl Qa (QJ QK (pv 1) (pv 5)))
 (QA (ZF (UB (QH Xbz hr (Qo (pv 6) (Qo (pv 3) Qr)))) (QA (MD (pv 4) (QH Xbu hr (Qo (pv 6) Qr)) MX (QH XbA hr (Qo (pv 6) Qr)) HV Jc)) ZG))))
 (Qx (ZC PassesOwn.never rfl (Ew rfl T.range (Qo (QF G3 (QH Xbs hr (Qo (pv 0) Qr)) Qw) (Qo Qw (Qo (Mm M9 Qw) Qr)))) (QP (i:=7) BL.nd rfl Qa) (QA (MD (pv 4) (QH XbB hr (Qo (pv 0) (Qo (pv 7) Qr))) MX (Z2 (Bj rfl) (by rfl) T.min G5 (Qo (QJ QK (pv 4) (pv 7)) (Qo (QH Xbt hr (Qo (pv 0) (Qo (pv 7) (Qo (pv 3) Qr)))) Qr))) HV Jc)))
 (QA (QT (pv 4)))))),?_⟩
   show Q9 K _ [some _,some _,some _,some _,none,none,none,none] _
   walk_at"x"
   have l1:=ok.l1;have l5:=ok.l5;have n8:=hs.len;refine QG (ZW (Mu (lo:=0) (n:=y.ls.length) (h:=fun _=>.int 0) ?ei (by omega) ?el) ?_)
   case ei=>walk_at"eir"
   case el =>
    intro x hx c;exact⟨_,by walk_at"g",by walk_at"ev"⟩
   walk_at"d"
   refine QG (YU (fun i=>[some (.fz (QS y)),some (.fz (.list (gs.map QB))),some (.fz (.list (QW sm))),some (.fz (.int t)),some (.ol ((List.range y.ls.length).map fun l=>PyData.int (Z7 gs t l (sm.take i)))),none,none,none]) (by walk_at"ei") ⟨rfl,rfl,rfl,rfl,rfl,trivial⟩ ?st ?fin)
   case st =>
    intro i d hd;have hi:i<sm.length:=by
     have:=(Xe.mp hd).1
     simpa [QW] using this
    obtain rfl:d=.int ((sm[i]:Nat):Int):=by simpa [QW,hi] using hd.symm
    have hk:sm[i]<gs.length:=hs.mem _ (Xy hi);refine⟨_,by walk_at"g",?_⟩
    walk_at"d"
    walk_at"s1";have eg:gs.getD ((sm[i]:Nat):Int).toNat default=gs[sm[i]]:=by simp[hk]
    rw[eg];have gok:=hg gs[sm[i]] (Xy hk);have gl:=gok.ln;have tk:sm.take (i+1)=sm.take i++[sm[i]]:=by rw[WB];simp[hi]
    refine ZV (by walk_at"et") (fun c=>?_) (fun c=>?_)
    ·refine SS (m:=Z7 gs t gs[sm[i]].line (sm.take i)) rfl (by walk_at"ev") (by omega) ?_ (by walk_at"ev") ?_
     ·simp[gl]
     ·walk_at"d"
      refine⟨rfl,rfl,rfl,rfl,?_,trivial⟩;rw[Xl];congr 2;refine SG gl (fun l hl hn=>?_) ?_
      ·rw[tk,D0]
       simp[Z7,hk,Ne.symm hn]
      ·rw[tk,D0]
       simp[Z7,hk,c]
    ·refine ZI ⟨rfl,rfl,rfl,rfl,?_,trivial⟩
     refine XW (fun z=>some (OT.ol z)) (XQ fun l _=>?_);rw[tk,D0];simp[Z7,hk,c]
   case fin =>
    intro ρ' hf;refine VW hf ?_;have el:(QW sm).length=sm.length:=by simp[QW]
    rw[el,WE];refine QG (YU (fun i=>[some (.fz (QS y)),some (.fz (.list (gs.map QB))),some (.fz (.list (QW sm))),some (.fz (.int t)),some (.ol ((List.range y.ls.length).map fun l=>PyData.int (ZS y (fun k=>Zi y k t.toNat) (fun l=>Z7 gs t l sm) i l))),none,none,none]) (by walk_at"ei") ⟨rfl,rfl,rfl,rfl,rfl,trivial⟩ ?st2 ?fin2)
    case st2 =>
     intro i d hd;obtain⟨hi,rfl⟩:=P9 hd;have hi2:i<y.ls.length-1:=by omega
     refine⟨_,by walk_at"g",?_⟩
     walk_at"d"
     have ej:((y.ls.length:Int)-1-(i:Int)).toNat=y.ls.length-1-i:=by omega
     obtain⟨a,ea,la⟩:=ok.ups (y.ls.length-1-i) (by omega) (by omega);have un:upN y ((y.ls.length:Int)-1-(i:Int)).toNat=a:=by rw[ej];simp[upN,ea]
     refine SS (m:=ZS y (fun k=>Zi y k t.toNat) (fun l=>Z7 gs t l sm) i a) rfl (by walk_at"ev") (by omega) ?_ (by walk_at"ev") ?_
     ·rw[un,Xl]
      have:a<y.ls.length:=by omega
      simp[this]
     ·walk_at"d"
      refine⟨rfl,rfl,rfl,rfl,?_,trivial⟩;rw[un,Xl];refine XW (fun z=>some (OT.ol z)) (SG (by omega) (fun l hl hn=>?_) ?_)
      ·simp only[ZS,W1]
       rw[ea,Xa (by simpa using fun z=>hn z.symm)];omega
      ·simp only[ZS,W1]
       rw[ea,Xb rfl,ej]
    case fin2 =>
     intro ρ' hf;refine VW hf ?_
     walk_at"ret"
     show _=_;have e2:(Gk ((y.ls.length:Int)-1) ((y.ls.length:Int)-1-0).toNat).length=y.ls.length-1:=by rw[P1];omega
     rw[e2];unfold G4 VI WQ;rw[XR h0,Xw];rfl
def OW (y:Yd)(gs:List Gs)(sm:Qk)(t:Nat):(G4 y gs sm t).length=y.ls.length:=by simp[G4]
def Ix {y:Yd}{gs:List Gs}{sm:Qk}{t l:Nat}(h:l<y.ls.length):(G4 y gs sm t).getD l 0=VI y (fun k=>Zi y k t) (WQ gs t sm) l:=by simp[G4,List.getD,h]
def WV (y:Yd)(gs:List Gs)(sm:Qk)(t:Nat):Int:=ZK y (fun k=>Zi y k t) (WQ gs t sm) 0
def Yn (y:Yd)(gs:List Gs)(sm:Qk):Int:=((List.range y.T).map fun t=>WV y gs sm t).sum
def Cz (y:Yd)(gs:List Gs)(t:Nat):WQ gs t []=fun _=>0:=rfl
theorem TJ {y:Yd}(ok:y.Ok)(t:Nat):∀i l,ZS y (fun k=>Zi y k t) (fun _=>0) i l=0
 |0,l=>rfl
 |i+1,l=>by
   have b0:∀k,0<=Zi y k t:=fun k=>by
    unfold Zi;cases e:y.ls[k]? with
    |none=>simp
    |some ln =>
      have:=ok.bb ln (List.mem_of_getElem? e)
      simp only[X7,Uu];by_cases h:t<ln.bs.length
      ·have h2:=this (ln.bs[t]) (Xy h)
       simp only[List.getD,XM h,Uu];exact h2.1
      ·simp[List.getD,h]
   simp only[ZS,W1,TJ ok t i];have:=b0 (y.ls.length-1-i)
   split<;>omega
def Fh {y:Yd}(ok:y.Ok)(k t:Nat):0<=Zi y k t:=by
 unfold Zi;cases e:y.ls[k]? with
 |none=>simp
 |some ln =>
   have:=ok.bb ln (List.mem_of_getElem? e)
   simp only[X7,Uu];by_cases h:t<ln.bs.length
   ·have h2:=this (ln.bs[t]) (Xy h)
    simp only[List.getD,XM h,Uu];exact h2.1
   ·simp[List.getD,h]
def Ll {y:Yd}(ok:y.Ok)(gs:List Gs):Yn y gs []=0:=by
 have g0:∀t,WV y gs [] t=0:=fun t=>by
  unfold WV ZK VI;rw[Cz y,TJ ok];have:=Fh ok 0 t;dsimp only;omega
 unfold Yn;rw[VY,Zq (g:=fun _=>0) fun t _=>g0 t,VN]
inductive R_given:List OT->OT->Prop
 |mk {y:Yd} {gs:List Gs} {sm:Qk} {t:Int} (ok:y.Ok) (hg:∀g∈gs,g.Ok y) (hs:SetOk gs sm) (h0:0<=t) (h1:t<(y.T:Int)) :
  R_given [.fz (QS y),.fz (.list (gs.map QB)),.fz (.list (QW sm)),.fz (.int t)] (.fz (.int (WV y gs sm t.toNat)))
def Zlc:Qq Zal Zal (Q8 Nx):=by walk_at"p"
def AC (T:Bl mg) (D:Df K mg "given_at" Nx Zal) (XbU:Qy P w K mg base "reaching_at" Zal 2 (QC (K:=K) R_reaching)) (Xbt:Qy P w K mg base "bound_at" Zas 1 (QC (K:=K) R_bound)) :
 Qy P w K mg base "given_at" Zal 3 (QC (K:=K) R_given):=by
 refine D.ev Zlc (fun ts r h=>by cases h;rfl) (fun _ _ _ _ s H E ts r hr h=>?_)
 cases h with
 |@mk y gs sm t ok hg hs h0 h1 =>
   refine⟨_,(QA (QT (Z2 (Bj rfl) (by rfl) T.min G5 (Qo (QJ QK (QH XbU hr (Qo (pv 0) (Qo (pv 1) (Qo (pv 2) (Qo (pv 3) Qr))))) Qw) (Qo (QH Xbt hr (Qo (pv 0) (Qo Qw (Qo (pv 3) Qr)))) Qr))))),?_⟩;show Q9 K _ [some _,some _,some _,some _] _
   walk_at"x"
   have l1:=ok.l1;have rl:=OW y gs sm t.toNat
   walk_at"ret"
   show _=_;rw[show(0:Int).toNat=0 from rfl,Ix (by omega)];rfl
inductive R_givenm:List OT->OT->Prop
 |mk {y:Yd} {gs:List Gs} {sm:Qk} (ok:y.Ok) (hg:∀g∈gs,g.Ok y) (hs:SetOk gs sm) :
  R_givenm [.fz (QS y),.fz (.list (gs.map QB)),.fz (.list (QW sm))] (.fz (.int (Yn y gs sm)))
def Zi7:Qq Zay Zay (Q8 D2):=by walk_at"p"
def IS (T:Bl mg) (D:Df K mg "given_most" D2 Zay) (Xbr:Qy P w K mg base "turns_of" ZaQ 1 (QC (K:=K) R_turns)) (XbV:Qy P w K mg base "given_at" Zal 3 (QC (K:=K) R_given)) :
 Qy P w K mg base "given_most" Zay 4 (QC (K:=K) R_givenm):=by
 refine D.ev Zi7 (fun ts r h=>by cases h;rfl) (fun _ _ _ _ s H E ts r hr h=>?_)
 cases h with
 |@mk y gs sm ok hg hs =>
   refine⟨_,(QA (QT (Z2 UG (by rfl) T.sum UI (Qo (Yf (NX:=Zay) (sc:=Q8 D2) (N:=["turn","yard","guests","some"]) (f:=[none,some 0,some 1,some 2]) rfl (by decide +kernel) rfl rfl (VD rfl T.range (Qo (QH Xbr hr (Qo (pv 0) Qr)) Qr)) (fun _=>(QP (i:=0) (show(["turn","yard","guests","some"]:Qh).Nodup by decide +kernel) rfl Qa)) (fun _=>Z5) (fun _=>ZT) (fun _=>(QH XbV hr (Qo (pv 1) (Qo (pv 2) (Qo (pv 3) (Qo (pv 0) Qr))))))) Qr)))),?_⟩;show Q9 K _ [some _,some _,some _] _
   walk_at"x"
   have t8:=ok.t8;refine ZD (JZ (ns:=(List.range y.T).map fun t=>WV y gs sm t) ?_ rfl) rfl;refine EvO.fz ?_;rw[Xw];refine Mu (lo:=0) (n:=y.T) ?_ (by omega) ?_
   ·walk_at"eir"
   ·intro x hx c
    refine⟨_,by walk_at"g",?_⟩
    walk_at"e"
    rw[Y2];have h:R_given [.fz (QS y),.fz (.list (gs.map QB)),.fz (.list (QW sm)),.fz (.int (x:Int))] (.fz (.int (WV y gs sm x))):=R_given.mk (t:=(x:Int)) ok hg hs (by omega) (by omega);exact Zk (by walk_at"ea") h
def Ub (l:Ln)(k:Int):Ln:=⟨l.up,l.bs.map fun b=>b*k⟩
def Zx (y:Yd)(k:Int):Yd:=⟨y.T,y.ls.map fun l=>Ub l k⟩
def ZY (g:Gs)(k:Int):Gs:=⟨g.line,g.first,g.last,g.want*k,g.most*k⟩
def Nn {y:Yd}(ok:y.Ok){k:Int}(h0:0<=k)(hb:∀l∈y.ls,∀b∈l.bs,b*k<10^300):(Zx y k).Ok:=by
 have hu:∀j,QZ (Zx y k) j=QZ y j:=fun j=>by
  simp only[QZ,Zx,Xj];cases y.ls[j]?<;>rfl
 refine⟨ok.t1,ok.t8,by simpa [Zx] using ok.l1,by simpa [Zx] using ok.l5,by rw[hu];exact ok.up0,fun j h1 h2=>?_,fun l hl=>?_,fun l hl b hb'=>?_⟩
 ·rw[hu]
  exact ok.ups j h1 (by simpa [Zx] using h2)
 ·simp only[Zx,XD]at hl
  obtain⟨l0,h1,rfl⟩:=hl
  simpa [Ub,Zx] using ok.bl l0 h1
 ·simp only[Zx,XD]at hl
  obtain⟨l0,h1,rfl⟩:=hl;simp only[Ub,XD]at hb';obtain⟨b0,h2,rfl⟩:=hb'
  exact⟨X0 (ok.bb l0 h1 b0 h2).1 h0,hb l0 h1 b0 h2⟩
inductive R_lntimes:List OT->OT->Prop
 |mk {l:Ln} {k:Int} (hb:∀b∈l.bs,IntMulOk b k) (hl:l.bs.length<=8):R_lntimes [.fz (Ve l),.fz (.int k)] (.fz (Ve (Ub l k)))
def Zi6:Qq Zba Zba (Q8 Dz):=by walk_at"p"
def IP (T:Bl mg) (D:Df K mg "line_times" Dz Zba):Qy P w K mg base "line_times" Zba 1 (QC (K:=K) R_lntimes):=by
 refine D.ev Zi6 (fun ts r h=>by cases h;rfl) (fun _ _ _ _ s H E ts r hr h=>?_)
 cases h with
 |@mk l k hb hl =>
   refine⟨_,(QA (QT (Va (Qo (QJ QK (pv 0) Qw) (Qo (WX De (by rfl) T.tuple Dh (Qo (Yf (NX:=Zba) (sc:=Q8 Dz) (N:=["bound","k"]) (f:=[none,some 1]) rfl (by decide +kernel) rfl rfl (HW (QJ QK (pv 0) Qw)) (fun _=>(QP (i:=0) (show(["bound","k"]:Qh).Nodup by decide +kernel) rfl Qa)) (fun _=>Z5) (fun _=>ZT) (fun _=>(QF YA (pv 0) (pv 1)))) Qr)) Qr))))),?_⟩;show Q9 K _ [some _,some _] _
   walk_at"x"
   refine ZD (Wi (Z1 (by walk_at"ev") (Z1 (Kl (EvO.fz (VA (xs:=l.bs) (enc:=PyData.int) (h:=fun b=>.int (b*k)) ?ei (by omega) ?el))) Vf)) (Nat.le_of_ble_eq_true rfl)) ?_
   case ei=>walk_at"ei"
   case el =>
    intro x hx c;have hm:=hb x hx;refine⟨_,by walk_at"g",?_⟩
    walk_at"e"
    walk_at"ev"
   show _=_;unfold Ve Ub;rw[Xw];rfl
inductive R_ydtimes:List OT->OT->Prop
 |mk {y:Yd} {k:Int} (hb:∀l∈y.ls,∀b∈l.bs,IntMulOk b k) (hl:∀l∈y.ls,l.bs.length<=8) (h5:y.ls.length<=5):R_ydtimes [.fz (QS y),.fz (.int k)] (.fz (QS (Zx y k)))
def ZiG:Qq Zbb Zbb (Q8 D3):=by walk_at"p"
def O8 (T:Bl mg) (D:Df K mg "yard_times" D3 Zbb) (XbW:Qy P w K mg base "line_times" Zba 1 (QC (K:=K) R_lntimes)):Qy P w K mg base "yard_times" Zbb 2 (QC (K:=K) R_ydtimes):=by
 refine D.ev ZiG (fun ts r h=>by cases h;rfl) (fun _ _ _ _ s H E ts r hr h=>?_)
 cases h with
 |@mk y k hb hl h5 =>
   refine⟨_,(QA (QT (Va (Qo (QJ QK (pv 0) Qw) (Qo (WX De (by rfl) T.tuple Dh (Qo (Yf (NX:=Zbb) (sc:=Q8 D3) (N:=Zba) (f:=[none,some 1]) rfl (by decide +kernel) rfl rfl (HW (QJ QK (pv 0) Qw)) (fun _=>(QP (i:=0) (show(Zba:Qh).Nodup by decide +kernel) rfl Qa)) (fun _=>Z5) (fun _=>ZT) (fun _=>(QH XbW hr (Qo (pv 0) (Qo (pv 1) Qr))))) Qr)) Qr))))),?_⟩;show Q9 K _ [some _,some _] _
   walk_at"x"
   refine ZD (Wi (Z1 (by walk_at"ev") (Z1 (Kl (EvO.fz (VA (xs:=y.ls) (enc:=Ve) (h:=fun l=>Ve (Ub l k)) ?ei (by omega) ?el))) Vf)) (Nat.le_of_ble_eq_true rfl)) ?_
   case ei=>walk_at"ei"
   case el =>
    intro x hx c;have hm:=hb x hx;have hn:=hl x hx;refine⟨_,by walk_at"g",?_⟩
    walk_at"e"
    walk_at"ev"
   show _=_;unfold QS Zx;rw[Xw];rfl
inductive R_gstimes:List OT->OT->Prop
 |mk {g:Gs} {k:Int} (hw:IntMulOk g.want k) (hm:IntMulOk g.most k):R_gstimes [.fz (QB g),.fz (.int k)] (.fz (QB (ZY g k)))
def Zh3:Qq Zbc Zbc (Q8 NM):=by walk_at"p"
def OH (T:Bl mg) (D:Df K mg "guest_times" NM Zbc):Qy P w K mg base "guest_times" Zbc 1 (QC (K:=K) R_gstimes):=by
 refine D.ev Zh3 (fun ts r h=>by cases h;rfl) (fun _ _ _ _ s H E ts r hr h=>?_)
 cases h with
 |@mk g k hw hm =>
   refine⟨_,(QA (QT (Va (Qo (QJ QK (pv 0) Qw) (Qo (QJ QK (pv 0) Qw) (Qo (QJ QK (pv 0) Qw) (Qo (QF YA (QJ QK (pv 0) Qw) (pv 1)) (Qo (QF YA (QJ QK (pv 0) Qw) (pv 1)) Qr)))))))),?_⟩;show Q9 K _ [some _,some _] _
   walk_at"x"
   walk_at"ret"
   rfl
inductive R_gsstimes:List OT->OT->Prop
 |mk {gs:List Gs} {k:Int} (hw:∀g∈gs,IntMulOk g.want k/\IntMulOk g.most k) (h8:gs.length<=8):R_gsstimes [.fz (.list (gs.map QB)),.fz (.int k)] (.ol ((gs.map fun g=>ZY g k).map QB))
def ZgI:Qq ZaW ZaW (Q8 DG):=by walk_at"p"
def Zku (T:Bl mg) (D:Df K mg "guests_times" DG ZaW) (XbX:Qy P w K mg base "guest_times" Zbc 1 (QC (K:=K) R_gstimes)):Qy P w K mg base "guests_times" ZaW 2 (QC (K:=K) R_gsstimes):=by
 refine D.ev ZgI (fun ts r h=>by cases h;rfl) (fun _ _ _ _ s H E ts r hr h=>?_)
 cases h with
 |@mk gs k hw h8 =>
   refine⟨_,(QA (QT (Yf (NX:=ZaW) (sc:=Q8 DG) (N:=Zbc) (f:=[none,some 1]) rfl (by decide +kernel) rfl rfl (Vq (pv 0)) (fun _=>(QP (i:=0) (show(Zbc:Qh).Nodup by decide +kernel) rfl Qa)) (fun _=>Z5) (fun _=>ZT) (fun _=>(QH XbX hr (Qo (pv 0) (Qo (pv 1) Qr))))))),?_⟩;show Q9 K _ [some _,some _] _
   walk_at"x"
   refine YM (VA (xs:=gs) (enc:=QB) (h:=fun g=>QB (ZY g k)) ?ei (by omega) ?el) ?_
   case ei=>walk_at"ei"
   case el =>
    intro x hx c;have h1:=(hw x hx).1;have h2:=(hw x hx).2;refine⟨_,by walk_at"g",?_⟩
    walk_at"e"
    walk_at"ev"
   show _=_;rw[Xw];rfl
def MB:NoF "lay" := fun _ _ _ _=>rfl
def Pp:NoF "lay_one" := fun _ _ _ _=>rfl
def Ay:NoF "flow" := fun _ _ _ _=>rfl
def Lf:NoF "reached" := fun _ _ _ _=>rfl
def EW:NoF "push" := fun _ _ _ _=>rfl
def A1:NoF "fill" := fun _ _ _ _=>rfl
def Ae:NoF "way_to" := fun _ _ _ _=>rfl
def ZgT:Qq ["self"] ["self"] (Q8 GO):=by walk_at"p"
def Fb {f:Addr} {fd:FuncData} (T:Bl mg) (U:Tx K mg C gS gE) (F:Fun K "__init__" "Net.__init__" GO f fd):FnOk P w K mg base CX0 1 f fd ["self"] (spI P w C):=by
 refine F.ok ZgT (fun vs H Q E ⟨x,dx,e,_⟩=>by rw[e];rfl) fun cdv A outer s H vs Q E hr ⟨x,dx,e,hx,q⟩=>?_;subst e;refine⟨_,(Qx (M1 (pv 0) (V2 Qr) rfl)
 (Qx (M1 (pv 0) (V2 Qr) rfl)
 (Qx (M1 (pv 0) AB rfl)
 (QA (M1 (pv 0) Ec rfl))))),?_⟩
 refine⟨X4 _,fun e he=>⟨_,rfl,x,C,dx,[],rfl,?_,U.net.cl,U.net.ends,by decide,?_⟩⟩
 ·rw[Q7 (Vd hx he)];exact hx
 have xe:x≠e:=Vd hx he;refine⟨X4 _,fun r hr'=>⟨_,rfl,x,C,dx,[("ends",.ref e)],rfl,?_,U.net.cl,U.net.rooms,(by show(1:Nat)<1000;decide),?_⟩⟩
 ·have xr:x≠r:=Vd Zg hr'
  rw[Q7 xr,Zg];rfl
 have xr:x≠r:=Vd Zg hr';have rr:upd H e (.lst []) r=none:=by rw[Q7 (Ne.symm xr)]at hr';exact hr'
 have er:e≠r:=Vd Zg rr;have r0:H r=none:=by rw[Q7 (Ne.symm er)]at rr;exact rr
 refine fun l hl=>⟨_,rfl,x,C,dx,[("ends",.ref e),("rooms",.ref r)],rfl,?_,U.net.cl,U.net.leav,(by show(2:Nat)<1000;decide),?_⟩
 ·have xl:x≠l:=Vd Zg hl
  rw[Q7 xl,Zg];rfl
 have xl:x≠l:=Vd Zg hl;rw[Q7 (Ne.symm xl)]at hl;have rl:r≠l:=Vd Zg hl;rw[Q7 (Ne.symm rl),Q7 (Ne.symm xl)]at hl;have el:e≠l:=Vd Zg hl;rw[Q7 (Ne.symm el)]at hl;refine fun d hd=>⟨_,rfl,x,C,dx,[("ends",.ref e),("rooms",.ref r),("leaving",.ref l)],rfl,?_,U.net.cl,U.net.laid,(by show(3:Nat)<1000;decide),?_⟩
 ·have xd:x≠d:=Vd Zg hd
  rw[Q7 xd,Zg];rfl
 have xd:x≠d:=Vd Zg hd;rw[Q7 (Ne.symm xd)]at hd;have ld:l≠d:=Vd Zg hd;rw[Q7 (Ne.symm ld),Q7 (Ne.symm xd)]at hd;have rd:r≠d:=Vd Zg hd;rw[Q7 (Ne.symm rd),Q7 (Ne.symm xd)]at hd;have ed:e≠d:=Vd Zg hd;rw[Q7 (Ne.symm ed)]at hd;refine q e r l d _ he r0 hl hd ?_ ?_ ?_ ?_ ?_ ?_ (fun b hb=>?_)
 ·simp only[XN,Xg,XZ,or_false,not_or,not_false_eq_true,Gc,and_true]
  exact⟨⟨xe,xr,xl,xd⟩,⟨er,el,ed⟩,⟨rl,rd⟩,ld⟩
 ·rw[Zg];rfl
 ·rw[Q7 (Ne.symm xe),Q7 ed,Q7 (Ne.symm xe),Q7 el,Q7 (Ne.symm xe),Q7 er,Q7 (Ne.symm xe),Zg]
 ·rw[Q7 (Ne.symm xr),Q7 rd,Q7 (Ne.symm xr),Q7 rl,Q7 (Ne.symm xr),Zg]
 ·rw[Q7 (Ne.symm xl),Q7 ld,Q7 (Ne.symm xl),Zg]
 ·rw[Q7 (Ne.symm xd),Zg];rfl
 ·simp only[Xg,XZ,or_false,not_or]at hb
  obtain⟨b1,b2,b3,b4,b5⟩:=hb;rw[Q7 b1,Q7 b5,Q7 b1,Q7 b4,Q7 b1,Q7 b3,Q7 b1,Q7 b2]
inductive R_lay1:Q6->List OT->(Q6->Prop)->Prop
 |mk {N:Q6} {s e:List Key} {r:Int} (h1:N.ends.length<900) (h2:N.rooms.length<900) (h3:N.leav.length<900) (h4:∀k ns,QV N.leav k=some ns->ns.length<900):R_lay1 N [.fz (Zb s),.fz (Zb e),.fz (.int r)] (fun N'=>N'=Gn N s e r)
def ZhA:Qq Zaf Zaf (Q8 UW):=by walk_at"p"
def F7 (T:Bl mg) (U:Tx K mg C gS gE) (D:Mf K C "lay_one" "Net.lay_one" UW Zaf):V7 P w K mg base C "lay_one" Zaf 1 (spN K P w C R_lay1):=by
 refine D.evN ZhA (fun M ts Ψ h=>by cases h;rfl) (fun f cdv A outer s H E v M ts Ψ hr h=>?_)
 cases h with
 |@mk s' e r h1 h2 h3 h4 =>
   refine⟨_,(Qx (V3 (WJ PySem.F.plainAttrs_list PySem.F.slot_list_append PySem.F.type_list_append WY (Aq (W4 hr) (VL (pv 0) rfl) (pv 1) (V2 Qr) ⟨rfl,rfl,rfl,rfl⟩) (Qo (Z2 Ym (by rfl) T.len Yk (Qo (VL (pv 0) rfl) Qr)) Qr)))
 (Qx (V3 (WJ PySem.F.plainAttrs_list PySem.F.slot_list_append PySem.F.type_list_append WY (VL (pv 0) rfl) (Qo (pv 2) Qr)))
 (QA (V3 (WJ PySem.F.plainAttrs_list PySem.F.slot_list_append PySem.F.type_list_append WY (VL (pv 0) rfl) (Qo (pv 3) Qr)))))),?_⟩
   show Q9 K _ [some _,some _,some _,some _] _
   walk_at"x"
   refine QG (Ox (N:=M) (n:=(M.ends.length:Int)) U.net rfl (Qp rfl) (by omega) (fun ns hns=>?_) (Ty (N:={ M with leav:=VO M.leav s' }) U.net rfl) ?_)
   ·rw[KC,Xb rfl]at hns
    cases hns
    cases z:QV M.leav s' with
    |none=>decide
    |some ms=>have:=h4 s' ms z;show ms.length<1000;omega
   walk_at"d"
   refine QG (OE U.net rfl (Qp rfl) (show M.ends.length<1000 by omega) ?_)
   walk_at"d"
   refine OC U.net rfl (Qp rfl) (show M.rooms.length<1000 by omega) ?_
   walk_at"d"
   exact⟨_,rfl,rfl⟩
abbrev W2:Zc Nd:=fun _ _=>0
inductive R_lay:Q6->List OT->(Q6->Prop)->Prop
 |mk {N:Q6} {L:Lay Nd} {s e:Nd} {r:Int} (h:NetR N L W2) (new:(s,e)∉L.map (fun x=>(x.1,x.2.1))) (l:L.length<400):R_lay N [.fz (Zb (nk s)),.fz (Zb (nk e)),.fz (.int r)] (fun N'=>NetR N' (L++[(s,e,r)]) W2)
def OM:Qq Zaf Zaf (Q8 UO):=by walk_at"p"
def LL (T:Bl mg) (U:Tx K mg C gS gE) (D:Mf K C "lay" "Net.lay" UO Zaf) (XbP:V7 P w K mg base C "lay_one" Zaf 1 (spN K P w C R_lay1)):V7 P w K mg base C "lay" Zaf 2 (spN K P w C R_lay):=by
 refine D.evN OM (fun M ts Ψ h=>by cases h;rfl) (fun f cdv A outer s H E v M ts Ψ hr h=>?_)
 cases h with
 |@mk L s' e r h new l =>
   refine⟨_,(Qx (FK (HN hr) (VL (pv 0) rfl) (Va (Qo (pv 1) (Qo (pv 2) Qr))) (Z2 Ym (by rfl) T.len Yk (Qo (VL (pv 0) rfl) Qr)) rfl)
 (Qx (V3 (YT XbP U.net hr (pv 0) (Qo (pv 1) (Qo (pv 2) (Qo (pv 3) Qr)))))
 (QA (V3 (YT XbP U.net hr (pv 0) (Qo (pv 2) (Qo (pv 1) (Qo Qw Qr)))))))),?_⟩
   show Q9 K _ [some _,some _,some _,some _] _
   walk_at"x"
   have le:=h.elen;have lr:M.rooms.length=2*L.length:=by rw[h.rooms,Ny]
   have l1:=h.l1;have l2:=h.l2;have l3:=h.l3;refine QG (IY (N:=M) (n:=(M.ends.length:Int)) (k1:=nk s') (k2:=nk e) U.net rfl (Ty U.net rfl) (Wi (Z1 (Qp rfl) (Z1 (Qp rfl) Vf)) U1) (by omega) ?_)
   walk_at"d"
   refine QG (Uf (ΦA:=fun ts=>ts=[.fz (Zb (nk s')),.fz (Zb (nk e)),.fz (.int r)]) Pp rfl (Jv (Qt (Qp rfl) (Qt (Qp rfl) (Qt (Qp rfl) QD))) rfl) (fun ts hts=>?_));subst hts;refine⟨_,R_lay1.mk (show M.ends.length<900 by omega) (show M.rooms.length<900 by omega) (show M.leav.length<900 by omega) (fun k ns hk=>by have:=l3 k ns hk;omega),fun N' hN=>?_⟩;subst hN;walk_at"d"
   refine Uf (ΦA:=fun ts=>ts=[.fz (Zb (nk e)),.fz (Zb (nk s')),.fz (.int 0)]) Pp rfl (Jv (Qt (Qp rfl) (Qt (Qp rfl) (Qt QX QD))) rfl) (fun ts hts=>?_);subst hts;refine⟨_,R_lay1.mk ?a1 ?a2 ?a3 ?a4,fun N' hN=>?_⟩
   case a1=>show(M.ends++[nk e]).length<900;rw[Xv,le];show 2*L.length+1<900;omega
   case a2=>show(M.rooms++[r]).length<900;rw[Xv,lr];show 2*L.length+1<900;omega
   case a3 =>
    show(VR (VO M.leav (nk s')) (nk s') _).length<900
    rw[MV];have:=Kt M.leav (nk s');omega
   case a4 =>
    intro k ns hk;rw[GK]at hk;by_cases z:k=nk s'
    ·rw[Xb z]at hk
     cases hk
     have:((QV M.leav (nk s')).getD []).length<=2*L.length:=by
      cases q:QV M.leav (nk s') with
      |none=>exact X4 _
      |some ms=>exact l3 _ ms q
     show((QV M.leav (nk s')).getD []++[_]).length<900
     rw[Xv];show _+1<900;omega
    ·rw[Xa z]at hk
     have:=l3 k ns hk
     omega
   subst hN;walk_at"d"
   exact⟨_,ED (r:=r) h rfl new,rfl⟩
def Bm (L:Lay Nd)(φ:Zc Nd)(p q:Nd):Int:=if (p,q)∈L.map (fun x=>(x.1,x.2.1)) then φ p q else 0
inductive R_flow (P:Program)(w:World)(C:Addr):List OT->(OT->Prop)->Prop
 |mk {N:Q6} {L:Lay Nd} {φ:Zc Nd} {p q:Nd} (h:NetR N L φ):R_flow P w C [.zow (Vi P w C N),.fz (Zb (nk p)),.fz (Zb (nk q))] (fun r=>r=.fz (.int (Bm L φ p q)))
def Zk4:Qq Zao Zao (Q8 UR):=by walk_at"p"
def Ck (T:Bl mg) (U:Tx K mg C gS gE) (D:Mf K C "flow" "Net.flow" UR Zao):V7 P w K mg base C "flow" Zao 1 (Zy K (R_flow P w C)):=by
 refine D.evD Zk4 (fun ts Φ h=>by cases h;rfl) (fun _ _ _ _ s H E ts Φ hr h=>?_)
 cases h with
 |@mk N L φ p q h =>
   refine⟨_,(Qx (ZF (Wm (IT (HN hr) (Va (Qo (pv 1) (Qo (pv 2) Qr))) (VL (pv 0) rfl))) (QA (QT Qw)) ZG)
 (QA (QT (QJ QK (VL (pv 0) rfl) (QF HQ (Ad (HN hr) (VL (pv 0) rfl) (Va (Qo (pv 1) (Qo (pv 2) Qr))) (fun _ _=>rfl)) Qw))))),?_⟩
   show Q9 K _ [some _,some _,some _] _
   walk_at"x"
   have key:∀{ρ:QL},ρ[1]?=some (some (.fz (Zb (nk p))))->ρ[2]?=some (some (.fz (Zb (nk q))))->Qs K (Mb (Zl (Za 1) (Zl (Za 2) Zv))) ρ (.tuple [Zb (nk p),Zb (nk q)]):=fun e1 e2=>Wi (Z1 (Qp e1) (Z1 (Qp e2) Vf)) U1;refine QG (ZV (b := !(ZZ N.laid (nk p,nk q)).isSome) (Yr (Io U.net (key rfl rfl) rfl)) (fun c=>ZD QX ?_) (fun c=>ZI ?_))
   ·have c:ZZ N.laid (nk p,nk q)=none:=by
     cases z:ZZ N.laid (nk p,nk q) with
     |none=>rfl
     |some n=>rw[z]at c;cases c
    show OT.fz (.int 0)=_;unfold Bm;rw[Xa (fun hm=>?_)];obtain⟨x,hx,ex⟩:=XD.mp hm;obtain⟨i,hi⟩:=List.mem_iff_getElem?.mp hx
    have:=h.laid i x hi
    injection ex with e1 e2;rw[e1,e2,c]at this;cases this
   ·have hm:(p,q)∈L.map (fun x=>(x.1,x.2.1)):=by
     apply Classical.byContradiction
     intro hn;rw[h.laid0 p q hn]at c;cases c
    obtain⟨x,hx,ex⟩:=XD.mp hm;obtain⟨i,hi⟩:=List.mem_iff_getElem?.mp hx;have hl:=h.laid i x hi;injection ex with e1 e2
    rw[e1,e2]at hl;have hr':N.rooms[2*i+1]?=some (φ p q):=by
     rw[h.rooms,GE];unfold rmE;have a:(2*i+1)/2=i:=by omega
     have b:¬(2*i+1)%2=0:=by omega
     rw[a,hi];simp only[X7,Xa b,e1,e2]
    have ea:atI (N.rooms.map PyData.int) (Builtin.bitXor ((2*i:Nat):Int) 1)=some (.int (φ p q)):=by
     rw[Ng];have a:Zf1 (2*i)=2*i+1:=by unfold Zf1;rw[Xb (by omega)]
     rw[a];exact Y9 (by rw[Xj,hr'];rfl)
    refine ZD (K9 (N:=N) U.net rfl (VV (g:=Builtin.bitXor) (AO (n:=((2*i:Nat):Int)) U.net rfl (key rfl rfl) hl) QX) ea) ?_;unfold Bm;rw[Xb hm]
def SB {K:W.Frag}{ρ:QL}{ta:TE}{ds:Qd}(h:Qs K ta ρ (.list ds)):Zz K (fun σ H Q=>ta σ H fun x H'=>∃k,Hd K x H' k/\Q k H') ρ (!ds.isEmpty):=fun H0 F σ H Q S q=>h H0 F σ H _ S fun F1 H1 v x1 r1=>by
 obtain⟨a,xs,rfl,h1,h2,_⟩:=Wt (K:=K) r1 x1.fh;refine⟨_,.inl ⟨xs,h1,rfl⟩,?_⟩
 have e:xs.isEmpty=ds.isEmpty:=by
  have:=h2.length
  cases xs<;>cases ds<;>simp at this ⊢
 rw[e];exact q F1 H1 x1
def WF (n:Nd):PyData:=Zb (nk n)
inductive R_reached (P:Program)(w:World)(C:Addr):List OT->(OT->Prop)->Prop
 |mk {N:Q6} {L:Lay Nd} {φ:Zc Nd} {s:Nd} (h:NetR N L φ) (l:L.length<400):R_reached P w C [.zow (Vi P w C N),.fz (Zb (nk s))] (fun r=>∃v es,r=.own v (V9 (kvG es))/\Tree L φ s es/\Yl L φ es)
structure ReachI (L:Lay Nd)(φ:Zc Nd)(s:Nd)(es0 es:Got Nd)(U fu:List Nd):Prop where
 tree:Tree L φ s es
 fin:∀n∈fu,n∈Zd es
 sub:∀n∈Zd es0,n∈Zd es
 done:Uw L φ es (U++fu)
 len:es.length=es0.length+fu.length
def UT:Qq ["self","start","edges","latest","further","node","edge"] ZaS (Q8 UV):=by walk_at"p"
def OA (T:Bl mg) (U:Tx K mg C gS gE) (D:Mf K C "reached" "Net.reached" UV ZaS):V7 P w K mg base C "reached" ZaS 1 (Zy K (R_reached P w C)):=by
 refine D.evD UT (fun ts Φ h=>by cases h;rfl) (fun _ _ _ _ s H E ts Φ hr h=>?_)
 cases h with
 |@mk N L φ s' h l =>
   refine⟨_,(Qx (QQ (i:=2) UT.nd rfl Qa (E8 (W4 hr) (pv 1) UH))
 (Qx (QQ (i:=3) UT.nd rfl Qa (V2 (Qo (pv 1) Qr)))
 (Qx (J4 PassesOwn.never (Pl (pv 3) (fun _=>rfl)) (Qx (QQ (i:=4) UT.nd rfl Qa (V2 Qr))
 (Qx (ZC PassesOwn.never rfl (Vq (pv 3)) (QP (i:=5) UT.nd rfl Qa) (QA (ZC PassesOwn.never rfl (Vq (Ax (W4 hr) (VL (pv 0) rfl) (pv 5) (V2 Qr) ⟨rfl,rfl,rfl,rfl⟩)) (QP (i:=6) UT.nd rfl Qa) (QA (ZF (PW.pt (M8 (ZX Jp (QJ QK (VL (pv 0) rfl) (pv 6)) Qw (ZN _)) (ML (Wm (Ii (W4 hr) (QJ QK (VL (pv 0) rfl) (pv 6)) (pv 2)))))) (Qx (SQ (W4 hr) (pv 2) (QJ QK (VL (pv 0) rfl) (pv 6)) (pv 6) rfl)
 (QA (V3 (WJ PySem.F.plainAttrs_list PySem.F.slot_list_append PySem.F.type_list_append WY (pv 4) (Qo (QJ QK (VL (pv 0) rfl) (pv 6)) Qr))))) ZG)))))
 (QA (QQ (i:=3) UT.nd rfl Qa (pv 4))))))
 (QA (QT (pv 2)))))),?_⟩
   show Q9 K _ [some _,some _,none,none,none,none,none] _
   walk_at"x"
   refine QG (S6 (A4 (k:=nk s') (d:=.none) (Qp rfl) Mp) (fun v=>?_))
   walk_at"d"
   refine QG (ZW (Y8 (ds:=[Zb (nk s')]) (Z1 (Qp rfl) Vf) Ba) ?_)
   walk_at"d"
   refine Yi 3 rfl ?_
   walk_at"d"
   have bnd:∀es,Tree L φ s' es->es.length<=2*L.length+1:=fun es t=>by have:=t.len;rw[Tu]at this;exact this
   refine QG (J6 (fun m ρ'=>∃(es:Got Nd) (lt:List Nd) (u4 u5 u6:Option OT),Tree L φ s' es/\(∀n∈lt,n∈Zd es)/\Uw L φ es lt/\m=2*(2*L.length+2-es.length)+(if lt=[] then 0 else 1) /\
    ρ'=[some (.zow (Vi P w C N)),some (.fz (Zb (nk s'))),some (.own v (V9 (kvG es))),some (.fz (.list (lt.map WF))),u4,u5,u6]) _ ⟨[(s',none)],[s'],none,none,none,.root,(fun n hn=>by simpa [Zd] using hn),?d0,rfl,rfl⟩ ?ws)
   case d0 =>
    intro e m n r h1 h2 h3 h4 h5 h6;have:m=s':=by simpa [Zd] using h5
    exact Xi (by rw[this];exact Xc) h6
   case ws =>
    rintro m _ ⟨es,lt,u4,u5,u6,tr,sb,dn,rfl,rfl⟩
    refine⟨_,SB (ds:=lt.map WF) (Qp rfl),fun c=>?_,fun c=>?_⟩
    ·have hlt:lt≠[]:=fun z=>by rw[z]at c;cases c
     rw[Xa hlt];refine QG (ZW (Y8 (ds:=[]) Vf (by decide)) ?_)
     walk_at"d"
     refine QG (YO (ds:=lt.map WF) (fun i ρ'=>∃(es':Got Nd) (fu:List Nd) (u5 u6:Option OT),ReachI L φ s' es es' (lt.drop i) fu /\
      ρ'=[some (.zow (Vi P w C N)),some (.fz (Zb (nk s'))),some (.own v (V9 (kvG es'))),some (.fz (.list (lt.map WF))),some (.ol (fu.map WF)),u5,u6]) (Vv (Qp rfl)) ⟨es,[],_,_,⟨tr,(fun n hn=>nomatch hn),fun n hn=>hn,by rw[List.drop_zero,X2];exact dn,by simp⟩,rfl⟩ ?st ?fin)
     case fin =>
      rintro _ ⟨es',fu,w5,w6,I,rfl⟩
      rw[Xh]at I;have dn':=I.done;rw[List.drop_length,BR]at dn';refine Yi 4 rfl ?_
      walk_at"d"
      refine Zw (Qp rfl) ?_
      walk_at"d"
      refine⟨2*(2*L.length+2-es'.length)+(if fu=[] then 0 else 1),?_,es',fu,_,_,_,I.tree,I.fin,dn',rfl,rfl⟩;have b1:=bnd es' I.tree;have b2:=I.len
      by_cases z:fu=[]
      ·rw[Xb z]
       rw[z]at b2;simp at b2;omega
      ·rw[Xa z]
       have:0<fu.length:=DR.mpr z
       omega
     case st =>
      rintro i d _ hd ⟨es1,fu1,w5,w6,I1,rfl⟩
      have hi:i<lt.length:=by
       have:=(Xe.mp hd).1
       simpa using this
      obtain rfl:d=WF lt[i]:=by simpa [hi] using hd.symm
      have hdr:lt.drop i=lt[i]::lt.drop (i+1):=NU hi;generalize lt[i]=x at hdr;refine⟨_,Zj,?_⟩
      walk_at"d"
      refine YO (ds:=((QV N.leav (nk x)).getD []).map PyData.int) (fun j ρ'=>∃(es2:Got Nd) (fu2:List Nd) (u6:Option OT),ReachI L φ s' es es2 (lt.drop i) fu2 /\
       (∀(k:Nat) (n:Nd) (r:Int),(k:Int)∈((QV N.leav (nk x)).getD []).take j->hdE L k=some n->rmE L φ k=some r->0<r->n∈Zd es2) /\
       ρ'=[some (.zow (Vi P w C N)),some (.fz (Zb (nk s'))),some (.own v (V9 (kvG es2))),some (.fz (.list (lt.map WF))),some (.ol (fu2.map WF)),some (.fz (WF x)),u6]) (Vv (Ei (k:=nk x) U.net rfl (Qp rfl))) ⟨es1,fu1,_,I1,(fun k n r hk=>by simp at hk),rfl⟩ ?st2 ?fin2
      case fin2 =>
       rintro _ ⟨es2,fu2,w6,I2,dn2,rfl⟩
       refine⟨es2,fu2,_,_,⟨I2.tree,I2.fin,I2.sub,?_,I2.len⟩,rfl⟩;rw[Xh,WE]at dn2;intro e m n r h1 h2 h3 h4 h5 h6;by_cases z:m=x
       ·subst z
        exact dn2 e n r ((h.leav m (e:Int)).mpr ⟨e,rfl,h1⟩) h2 h3 h4
       ·refine I2.done e m n r h1 h2 h3 h4 h5 ?_
        rw[hdr,Gd,Xg,not_or];exact⟨z,h6⟩
      case st2 =>
       rintro j d2 _ hd2 ⟨es2,fu2,w6,I2,dn2,rfl⟩
       have hj:j<((QV N.leav (nk x)).getD []).length:=by
        have:=(Xe.mp hd2).1
        simpa using this
       obtain⟨k,ek,tk⟩:=(h.leav x _).mp (Xy hj)
       obtain rfl:d2=.int (k:Int):=by
        rw[Xj,XM hj]at hd2;rw[ek]at hd2;simpa using hd2.symm
       obtain⟨y,hy⟩:∃y,L[k/2]?=some y:=by
        unfold tlE at tk;cases z:L[k/2]? with
        |none=>rw[z]at tk;cases tk
        |some y=>exact⟨y,rfl⟩
       obtain⟨n,hn⟩:∃n,hdE L k=some n:=⟨_,by unfold hdE;rw[hy];rfl⟩;obtain⟨r,hr'⟩:∃r,rmE L φ k=some r:=⟨_,by unfold rmE;rw[hy];rfl⟩;have ra:atI (N.rooms.map PyData.int) (k:Int)=some (.int r):=Y9 (by rw[Xj,h.rooms,GE,hr'];rfl);have ea:atI (N.ends.map Zb) (k:Int)=some (Zb (nk n)):=Y9 (by rw[h.ends,Xw,Xj,Kv,hn];rfl);have tks:((QV N.leav (nk x)).getD []).take (j+1)=((QV N.leav (nk x)).getD []).take j++[(k:Int)]:=by rw[WB,XM hj,ek];rfl
       have bes:=bnd es2 I2.tree;have ben:=I2.len;refine⟨_,Zj,?_⟩
       walk_at"d"
       have eend:∀{ρ:QL},ρ[0]?=some (some (.zow (Vi P w C N)))->ρ[6]?=some (some (.fz (.int (k:Int))))->Qs K (tOp (rIx K) (YK K (Za 0) "ends") (Za 6)) ρ (Zb (nk n)):=fun e0 e6=>SC U.net e0 (Qp e6) ea;refine ZV (b:=decide (r > 0) && !(VZ (kvG es2) (nk n)).isSome) (Bh (ZO (Jt (K9 U.net rfl (Qp rfl) ra) QX)) (fun _=>Yr (O4 (eend rfl rfl) rfl))) (fun c=>?_) (fun c=>ZI ?_)
       ·rw[Bk]at c
        have c1:r > 0:=Xq (GX.mp c).1;have c2:n∉Zd es2:=by simpa using (GX.mp c).2
        refine QG (EN rfl (Qp rfl) (eend rfl rfl) (by rw[show(kvG es2).length=es2.length from Xh _];exact VX (by omega)) ?_)
        walk_at"d"
        rw[EL c2];refine B9 (ds:=fu2.map WF) rfl (eend rfl rfl) (by rw[Xh];omega) ?_
        walk_at"d"
        have km:x∈Zd es2:=I2.sub x (sb x (List.mem_of_mem_drop (by rw[hdr];exact Xc)));refine⟨es2++[(n,some k)],fu2++[n],_,⟨I2.tree.add c2 hn tk km hr' c1,fun z hz=>?_,fun z hz=>Uj.mpr (.inl (I2.sub z hz)),?_,by simp;omega⟩,fun k' n' r' hk' q1 q2 q3=>?_,by rw[XE];rfl⟩
        ·rcases XC.mp hz with hz|hz
         ·exact Uj.mpr (.inl (I2.fin z hz))
         ·exact Uj.mpr (.inr (by simpa using hz))
        ·exact I2.done.add n (some k)
        ·rw[tks]at hk'
         rcases XC.mp hk' with z|z
         ·exact Uj.mpr (.inl (dn2 k' n' r' z q1 q2 q3))
         ·have:k'=k:=by have:=Xk.mp z;omega
          subst this;rw[hn]at q1;cases q1;exact Uj.mpr (.inr rfl)
       ·rw[Bk]at c
        refine⟨es2,fu2,_,I2,fun k' n' r' hk' q1 q2 q3=>?_,rfl⟩;rw[tks]at hk';rcases XC.mp hk' with z|z
        ·exact dn2 k' n' r' z q1 q2 q3
        ·have:k'=k:=by have:=Xk.mp z;omega
         subst this;rw[hn]at q1;rw[hr']at q2;cases q1
         cases q2
         apply Classical.byContradiction
         intro hq;have q3':r > 0:=q3
         simp[q3',hq]at c
    ·have hlt:lt=[]:=by
      cases lt with
      |nil=>rfl
      |cons a b=>cases c
     subst hlt;exact SO rfl ⟨v,es,rfl,tr,dn.closed⟩
def YG (w:Qk):Qd:=w.map fun(e:Nat)=>PyData.int (e:Int)
def PQ {L:Lay Nd}{es:Got Nd}{n:Nd}{w:Qk}(b:Back L es n w):VZ (kvG es) (nk n)=some (Gi w.head?):=by
 rw[KL];cases b with
 |nil h=>rw[h];rfl
 |cons h t b=>rw[h];rfl
def RE {L:Lay Nd}{φ:Zc Nd}{e:Nat}{r:Int}(h:rmE L φ e=some r):e<2*L.length:=by
 unfold rmE at h;cases z:L[e/2]? with
 |none=>rw[z]at h;cases h
 |some x=>have:=(Xe.mp z).1;omega
def S8 {L:Lay Nd}{φ:Zc Nd}{s n:Nd}{es:Got Nd}{w:Qk}(q:WayOk L φ s es n w):w.length<=2*L.length:=by
 have:=KN (ys:=List.range (2*L.length)) q.nodup fun e he=>by
  obtain⟨r,hr,_⟩:=q.room e he;exact Xn.mpr (RE hr)
 simpa using this
inductive R_way (P:Program)(w:World)(C:Addr):List OT->(OT->Prop)->Prop
 |mk {N:Q6} {L:Lay Nd} {φ:Zc Nd} {s n:Nd} {es:Got Nd} {wy:Qk} (h:NetR N L φ) (l:L.length<400) (q:WayOk L φ s es n wy):R_way P w C [.zow (Vi P w C N),.zow (U0 (kvG es)),.fz (Zb (nk n))] (fun r=>r=.ol (YG wy))
def D7:Qq ["self","edges","end","way","edge"] ZaK (Q8 UU):=by walk_at"p"
def Fk (T:Bl mg) (U:Tx K mg C gS gE) (D:Mf K C "way_to" "Net.way_to" UU ZaK):V7 P w K mg base C "way_to" ZaK 1 (Zy K (R_way P w C)):=by
 refine D.evD D7 (fun ts Φ h=>by cases h;rfl) (fun _ _ _ _ s H E ts Φ hr h=>?_)
 cases h with
 |@mk N L φ s' n es wy h l q =>
   refine⟨_,(Qx (QQ (i:=3) D7.nd rfl Qa (V2 Qr))
 (Qx (QQ (i:=4) D7.nd rfl Qa (Ku (W4 hr) (pv 1) (pv 2) (fun _ _=>rfl)))
 (Qx (J4 PassesOwn.never (Wm (Ue (pv 4))) (Qx (V3 (WJ PySem.F.plainAttrs_list PySem.F.slot_list_append PySem.F.type_list_append WY (pv 3) (Qo (pv 4) Qr)))
 (QA (QQ (i:=4) D7.nd rfl Qa (Ku (W4 hr) (pv 1) (QJ QK (VL (pv 0) rfl) (QF HQ (pv 4) Qw)) (fun _ _=>rfl))))))
 (QA (QT (pv 3)))))),?_⟩
   show Q9 K _ [some _,some _,some _,none,none] _
   walk_at"x"
   have wl:=S8 q;refine QG (ZW (Y8 (ds:=[]) Vf (by decide)) ?_)
   walk_at"d"
   refine QG (Zw (SN rfl (Qp rfl) (PQ q.back)) ?_)
   walk_at"d"
   refine QG (J6 (fun m ρ'=>∃(dn rs:Qk) (n':Nd),m=rs.length/\dn++rs=wy/\Back L es n' rs/\ρ'=[some (.zow (Vi P w C N)),some (.zow (U0 (kvG es))),some (.fz (Zb (nk n))),some (.ol (YG dn)),some (.fz (Gi rs.head?))]) wy.length ⟨[],wy,n,rfl,rfl,q.back,rfl⟩ ?ws)
   case ws =>
    rintro m _ ⟨dn,rs,n',rfl,hw,b,rfl⟩
    refine⟨_,Yr (Yy (Qp rfl)),fun c=>?_,fun c=>?_⟩
    ·cases b with
     |nil h0=>cases c
     |@cons _ m' e rs' h0 t0 b0 =>
       have dl:dn.length<1000:=by
        have:=XW List.length hw
        rw[Xv]at this;omega
       refine QG (B9 (ds:=YG dn) (d:=.int (e:Int)) rfl (Qp rfl) (by unfold YG;rw[Xh];exact dl) ?_)
       walk_at"d"
       have ea:atI (N.ends.map Zb) (Builtin.bitXor (e:Int) 1)=some (Zb (nk m')):=by
        rw[Ng];exact Y9 (by rw[h.ends,Xw,Xj,IM,t0];rfl)
       refine Zw (SN rfl (SC U.net rfl (VV (g:=Builtin.bitXor) (Qp rfl) QX) ea) (PQ b0)) ?_
       walk_at"d"
       refine⟨rs'.length,Ge _,dn++[e],rs',m',rfl,by rw[<- hw,Uq];rfl,b0,?_⟩;unfold YG;rw[XE];rfl
    ·have:rs=[]:=by
      cases rs with
      |nil=>rfl
      |cons a b=>cases c
     subst this;rw[X2]at hw;subst hw;exact G7 rfl rfl
def amt (L:Lay Nd)(φ:Zc Nd)(w:Qk):Int:=YJ (w.map fun e=>(rmE L φ e).getD 0)
inductive R_push:Q6->List OT->(Q6->Prop)->Prop
 |mk {N:Q6} {L:Lay Nd} {φ:Zc Nd} {wy:Qk} (h:NetR N L φ) (hd:Dis L) (ne:wy≠[]) (hin:∀e∈wy,∃r,rmE L φ e=some r) (hl:wy.length<900):R_push N [.fz (.list (YG wy))] (fun N'=>NetR N' L (W0 L (amt L φ wy) φ wy))
def NetR.rm {N:Q6}{L:Lay Nd}{φ:Zc Nd}(h:NetR N L φ){e:Nat}(he:e<2*L.length):∃r,N.rooms[e]?=some r/\(VB L φ)[e]?=some r:=by
 have:e<(VB L φ).length:=by rw[Ny];exact he
 exact⟨(VB L φ)[e],by rw[h.rooms,XM this],XM this⟩
def NetR.push {N:Q6}{L:Lay Nd}{φ:Zc Nd}(h:NetR N L φ)(hd:Dis L){a r r':Int}{e:Nat}(h1:(VB L φ)[e]?=some r)(h2:(VB L φ)[Zf1 e]?=some r'):NetR { N with rooms:=(N.rooms.set e (r-a)).set (Zf1 e) (r'+a) } L (Yh L a φ e) :=
 ⟨h.ends,by show(N.rooms.set e (r-a)).set (Zf1 e) (r'+a)=_;rw[h.rooms,Ot hd h1 h2],h.leav,h.laid,h.laid0,h.l1,h.l2,h.l3⟩
def OI {L:Lay Nd}{a:Int}{φ:Zc Nd}{wy:Qk}{i e:Nat}(h:wy[i]?=some e):W0 L a φ (wy.take (i+1))=Yh L a (W0 L a φ (wy.take i)) e:=by
 have t:wy.take (i+1)=wy.take i++[e]:=by rw[WB,h];rfl
 rw[t];unfold W0;rw[List.foldl_append];rfl
def Nm:Qq ["self","way","amount","edge"] Zbe (Q8 Ui):=by walk_at"p"
def FF (T:Bl mg) (U:Tx K mg C gS gE) (D:Mf K C "push" "Net.push" Ui Zbe):V7 P w K mg base C "push" Zbe 1 (spN K P w C R_push):=by
 refine D.evN Nm (fun M ts Ψ h=>by cases h;rfl) (fun f cdv A outer s H E v M ts Ψ hr h=>?_)
 cases h with
 |@mk L φ wy h hd ne hin hl =>
   refine⟨_,(Qx (QQ (i:=2) Nm.nd rfl Qa (Z2 CH (by rfl) T.min G5 (Qo (Yf (NX:=["self","way","amount","edge"]) (sc:=Q8 Ui) (N:=["edge","self"]) (f:=[none,some 0]) rfl (by decide +kernel) rfl rfl (Vq (pv 1)) (fun _=>(QP (i:=0) (show(["edge","self"]:Qh).Nodup by decide +kernel) rfl Qa)) (fun _=>Z5) (fun _=>ZT) (fun _=>(QJ QK (VL (pv 1) rfl) (pv 0)))) Qr)))
 (QA (ZC PassesOwn.never rfl (Vq (pv 1)) (QP (i:=3) Nm.nd rfl Qa) (Qx (MD (VL (pv 0) rfl) (pv 3) MX (pv 2) Ff Jc)
 (QA (MD (VL (pv 0) rfl) (QF HQ (pv 3) Qw) MX (pv 2) HV Jc)))))),?_⟩
   show Q9 K _ [some _,some _,none,none] _
   walk_at"x"
   refine QG (Zw (d:=.int (amt L φ wy)) (O7 0 rfl rfl (C9 (ns:=wy.map fun e=>(rmE L φ e).getD 0) (Qs.cast (EvO.fz (VA (xs:=wy) (enc:=fun(e:Nat)=>PyData.int (e:Int)) (h:=fun e=>.int ((rmE L φ e).getD 0)) ?ei (by omega) ?el)) (by rw[Xw];rfl)) rfl (fun z=>ne (List.map_eq_nil_iff.mp z)))) ?_)
   case ei=>exact Vv (Qp rfl)
   case el =>
    intro e he c;refine⟨_,Zj,?_⟩
    walk_at"e"
    obtain⟨r,hr'⟩:=hin e he;refine Qs.cast (K9 (N:=M) (m:=r) U.net rfl (Qp rfl) ?_) (by rw[hr'];rfl);exact Y9 (by rw[Xj,h.rooms,GE,hr'];rfl)
   walk_at"d"
   generalize amt L φ wy=a;refine YO (ds:=YG wy) (fun i ρ'=>∃(N':Q6) (u3:Option OT),NetR N' L (W0 L a φ (wy.take i))/\ρ'=[some (.own v (Zm P w C N')),some (.fz (.list (YG wy))),some (.fz (.int a)),u3]) (Vv (Qp rfl)) ⟨M,_,h,rfl⟩ ?st ?fin
   case fin =>
    rintro _ ⟨N',u3,hN,rfl⟩
    unfold YG at hN;rw[Xh,WE]at hN;exact⟨N',hN,rfl⟩
   case st =>
    rintro i d _ hd' ⟨N',u3,hN,rfl⟩
    have hi:i<wy.length:=by
     have:=(Xe.mp hd').1
     unfold YG at this;simpa using this
    obtain rfl:d=.int (wy[i]:Int):=by
     unfold YG at hd';simpa [hi] using hd'.symm
    obtain⟨r0,hr0⟩:=hin wy[i] (Xy hi);have el:=RE hr0;rw[OI (XM hi)];generalize wy[i]=e at el;have em:Zf1 e<2*L.length:=by unfold Zf1;split<;>omega
    have me:Zf1 e≠e:=by unfold Zf1;split<;>omega
    obtain⟨r,h1,h2⟩:=My.NetR.rm hN el;obtain⟨r',h3,h4⟩:=My.NetR.rm hN em;refine⟨_,Zj,?_⟩
    walk_at"d"
    refine QG (Tt (N:=N') (f:=fun i j=>i-j) (k:=(e:Int)) (m:=r) (n:=a) U.net rfl (Qp rfl) (by omega) (by rw[Xl];exact h1) (Qp rfl) ?_)
    walk_at"d"
    rw[Xl];refine Tt (f:=fun i j=>i+j) (k:=(Zf1 e:Int)) (m:=r') (n:=a) U.net rfl (Qs.cast (VV (g:=Builtin.bitXor) (Qp rfl) QX) (by rw[Ng])) (by omega) (by rw[Xl];show(N'.rooms.set e (r-a))[Zf1 e]?=_;rw[XT (Ne.symm me)];exact h3) (Qp rfl) ?_
    walk_at"d"
    rw[Xl];exact⟨_,_,My.NetR.push hN hd h2 h4,rfl⟩
inductive R_fill:Q6->List OT->(Q6->Prop)->Prop
 |mk {N:Q6} {y:Yd} {G:Gv} {φ:Zc Nd} (h:NetR N (Zp y G) φ) (F:Flow y G φ) (l:(Zp y G).length<400):R_fill N [.fz (Zb (nk .start)),.fz (Zb (nk .fin))] (fun N'=>∃φ' es,NetR N' (Zp y G) φ'/\Flow y G φ'/\Nd.start∈Zd es/\Yl (Zp y G) φ' es/\Nd.fin∉Zd es)
def NE:Qq ["self","start","end","edges"] Zao (Q8 UQ):=by walk_at"p"
def FD (T:Bl mg) (U:Tx K mg C gS gE) (D:Mf K C "fill" "Net.fill" UQ Zao) (XbG:V7 P w K mg base C "reached" ZaS 1 (Zy K (R_reached P w C))) (XbY:V7 P w K mg base C "push" Zbe 1 (spN K P w C R_push)) (XbZ:V7 P w K mg base C "way_to" ZaK 1 (Zy K (R_way P w C))) :
 V7 P w K mg base C "fill" Zao 2 (spN K P w C R_fill):=by
 refine D.evN NE (fun M ts Ψ h=>by cases h;rfl) (fun f cdv A outer s H E v M ts Ψ hr h=>?_)
 cases h with
 |@mk y G φ h F l =>
   refine⟨_,(Qx (QQ (i:=3) NE.nd rfl Qa (YT XbG U.net hr (pv 0) (Qo (pv 1) Qr)))
 (QA (J4 PassesOwn.never (Wm (RU (W4 hr) (pv 2) (pv 3))) (Qx (V3 (YT XbY U.net hr (pv 0) (Qo (YT XbZ U.net hr (pv 0) (Qo (pv 3) (Qo (pv 2) Qr))) Qr)))
 (QA (QQ (i:=3) NE.nd rfl Qa (YT XbG U.net hr (pv 0) (Qo (pv 1) Qr)))))))),?_⟩
   show Q9 K _ [some _,some _,some _,none] _
   walk_at"x"
   have VI:∀{M:Q6} {φ:Zc Nd} {u:Option OT} {E':XK},NetR M (Zp y G) φ->ZJ K (Gp C "reached" (Zy K (R_reached P w C)) [] E' (Za 0) (Zl (Za 1) Zv)) [some (.own v (Zm P w C M)),some (.fz (Zb (nk .start))),some (.fz (Zb (nk .fin))),u] (fun r=>∃v' es,r=.own v' (V9 (kvG es))/\Tree (Zp y G) φ .start es/\Yl (Zp y G) φ es):=fun h' =>
    Np 0 rfl (fun r ⟨v',es,e,_⟩=>by subst e;exact EV (E9 es)) (KH Lf rfl (Qt (Qp rfl) QD) (R_reached.mk h' l))
   refine QG (Wr (VI h) (fun r hr'=>?_));obtain⟨v3,es,rfl,tr,cl⟩:=hr'
   walk_at"d"
   refine J6 (fun m ρ'=>∃(M:Q6) (φ:Zc Nd) (es:Got Nd) (v3:V),NetR M (Zp y G) φ/\Flow y G φ/\Tree (Zp y G) φ .start es/\Yl (Zp y G) φ es/\m=(Qv G.wa G.m-V6 (Zp y G) φ .start).toNat /\
    ρ'=[some (.own v (Zm P w C M)),some (.fz (Zb (nk .start))),some (.fz (Zb (nk .fin))),some (.own v3 (V9 (kvG es)))]) _ ⟨M,φ,es,v3,h,F,tr,cl,rfl,rfl⟩ ?ws
   clear tr cl es v3 h F;rintro m _ ⟨M,φ,es,v3,h,F,tr,cl,rfl,rfl⟩;refine⟨_,Yr (Cp (k:=nk .fin) (Qp rfl) rfl),fun c=>?_,fun c=>?_⟩
   ·rw[Bk]at c
    obtain⟨wy,q⟩:=tr.way .fin (Xq c);have wl:=S8 q
    have wne:wy≠[]:=fun z=>by
     have:=q.chain
     rw[z]at this;cases this
    refine Pf 3 rfl ?_
    walk_at"d"
    refine QG (Uf (ΦA:=fun ts=>ts=[.fz (.list (YG wy))]) EW rfl (Fo (Φ:=fun r=>r=.ol (YG wy)) (Np 0 rfl (fun r e=>by subst e;exact CP (fun d hd=>by
     obtain⟨e,_,rfl⟩:=XD.mp hd
     exact⟨_,rfl⟩)) (KH Ae rfl (Sm rfl (Qt (Qp rfl) QD)) (R_way.mk h l q))) (fun r e=>⟨_,e,rfl⟩)) (fun ts hts=>?_))
    subst hts;refine⟨_,R_push.mk h (Da y G) wne (fun e he=>let ⟨r,a,_⟩:=q.room e he;⟨r,a⟩) (by omega),fun N' hN=>?_⟩
    walk_at"d"
    obtain⟨m1,m2⟩:=KM (ns:=wy.map fun e=>(rmE (Zp y G) φ e).getD 0) (fun z=>wne (List.map_eq_nil_iff.mp z))
    have a0:0<amt (Zp y G) φ wy:=by
     obtain⟨e,he,ee⟩:=XD.mp m1;obtain⟨r,hr1,hr2⟩:=q.room e he;rw[hr1]at ee;show 0<YJ _;rw[<- ee];exact hr2
    obtain⟨F',nd⟩:=F.push (a:=amt (Zp y G) φ wy) (by omega) q.chain q.nodup (fun e he=>by
     obtain⟨r,hr1,_⟩:=q.room e he;refine⟨r,hr1,?_⟩
     have:=m2 _ (XD.mpr ⟨e,he,rfl⟩)
     rw[hr1]at this;exact this)
    refine Wr (VI hN) (fun r hr'=>?_);obtain⟨v4,es',rfl,tr',cl'⟩:=hr'
    walk_at"d"
    refine⟨_,?_,N',_,es',v4,hN,F',tr',cl',rfl,rfl⟩
    have:=F'.most
    rw[nd]at this ⊢;omega
   ·rw[Bk]at c
    exact⟨M,⟨φ,es,h,F,tr.start,cl,XO c⟩,rfl⟩
structure GOk (y:Yd)(g:Gs):Prop where
 ln:g.line<y.ls.length
 w0:0<=g.want
 m0:0<=g.most
def Zh (gs:List Gs):Gv:={ m:=gs.length,ln:=fun k=>(gs.getD k default).line,wa:=fun k=>(gs.getD k default).want,mo:=fun k=>(gs.getD k default).most,th:=fun k t=>ZH (gs.getD k default) (t:Int) }
def Yp {gs:List Gs}{k:Nat}(h:k<gs.length):gs.getD k default=gs[k]:=by simp[List.getD,h]
def CW (y:Yd)(G:Gv)(k:Nat):(Vo y G k).length<=1+y.T:=by
 unfold Vo;rw[XX];have:∀n,((List.range n).flatMap fun t=>if G.th k t=true then [((.guest k,.line (G.ln k) t,G.mo k):Nd×Nd×Int)] else []).length<=n:=by
  intro n;induction n with
  |zero=>simp
  |succ n ih =>
    rw[Y3,JE,Xv];have:([n].flatMap fun t=>if G.th k t=true then [((.guest k,.line (G.ln k) t,G.mo k):Nd×Nd×Int)] else []).length<=1:=by
     simp only[BY,List.flatMap_nil,X2];split<;>simp
    omega
 have:=this y.T
 omega
def EJ {y:Yd}(h:1<=y.ls.length)(t:Nat):(VG y t).length=y.ls.length:=by
 unfold VG;rw[XX];have:∀n,((List.range n).flatMap fun i=>[((.line (i+1) t,.line (Mir.upN y (i+1)) t,Zi y (i+1) t):Nd×Nd×Int)]).length=n:=by
  intro n;induction n with
  |zero=>simp
  |succ n ih=>rw[Y3,JE,Xv,ih];simp
 rw[this];omega
theorem B1 {f:Nat->Lay Nd}{c:Nat}(h:∀k,(f k).length<=c):∀n,((List.range n).flatMap f).length<=n*c
 |0=>by simp
 |n+1=>by
   rw[Y3,JE,Xv];have a:=B1 h n;have b:([n].flatMap f).length<=c:=by simpa using h n
   rw[Nat.add_mul];omega
def BC (f:Nat->Lay Nd)(n:Nat):(List.range (n+1)).flatMap f=(List.range n).flatMap f++f n:=by rw[Y3,JE];simp
def KI {f:Nat->Lay Nd}{n:Nat}{x:Nd×Nd×Int}:x∈(List.range n).flatMap f ↔ ∃k,k<n/\x∈f k:=by
 rw[WD];simp only[Xn]
def Dt {y:Yd}(ok:y.Ok)(G:Gv){n:Nat}(h:n<=8):((List.range n).flatMap (Vo y G)).length<=72:=by
 have a:=B1 (f:=Vo y G) (c:=9) (fun k=>by have:=CW y G k;have:=ok.t8;omega) n;omega
def Nf {y:Yd}(ok:y.Ok){n:Nat}(h:n<=8):((List.range n).flatMap (VG y)).length<=40:=by
 have a:=B1 (f:=VG y) (c:=5) (fun k=>by rw[EJ ok.l1 k];exact ok.l5) n;omega
inductive R_gnode:List OT->OT->Prop
 |mk {k:Nat}:R_gnode [.fz (.int (k:Int))] (.fz (Zb (nk (.guest k))))
def ZiP:Qq Zbh Zbh (Q8 N4):=by walk_at"p"
def E6 (T:Bl mg) (D:Df K mg "guest_node" N4 Zbh):Qy P w K mg base "guest_node" Zbh 1 (QC (K:=K) R_gnode):=by
 refine D.ev ZiP (fun ts r h=>by cases h;rfl) (fun _ _ _ _ s H E ts r hr h=>?_)
 cases h with
 |@mk k =>
   refine⟨_,(QA (QT (Va (Qo UJ (Qo (pv 0) Qr))))),?_⟩;show Q9 K _ [some _] _
   walk_at"x"
   exact ZD (Wi (ds:=[.str "guest",.int (k:Int)]) (Z1 HF (Z1 (Qp rfl) Vf)) U1) rfl
inductive R_lnode:List OT->OT->Prop
 |mk {l t:Nat}:R_lnode [.fz (.int (l:Int)),.fz (.int (t:Int))] (.fz (Zb (nk (.line l t))))
def Zjz:Qq ZaP ZaP (Q8 Nk):=by walk_at"p"
def AS (T:Bl mg) (D:Df K mg "line_node" Nk ZaP):Qy P w K mg base "line_node" ZaP 1 (QC (K:=K) R_lnode):=by
 refine D.ev Zjz (fun ts r h=>by cases h;rfl) (fun _ _ _ _ s H E ts r hr h=>?_)
 cases h with
 |@mk l t =>
   refine⟨_,(QA (QT (Va (Qo UJ (Qo (pv 0) (Qo (pv 1) Qr)))))),?_⟩;show Q9 K _ [some _,some _] _
   walk_at"x"
   exact ZD (Wi (ds:=[.str "line",.int (l:Int),.int (t:Int)]) (Z1 HF (Z1 (Qp rfl) (Z1 (Qp rfl) Vf))) (by show(3:Nat)<=1000;decide)) rfl
inductive R_lguest:Q6->List OT->(Q6->Prop)->Prop
 |mk {N:Q6} {y:Yd} {gs:List Gs} {k:Nat} (ok:y.Ok) (g8:gs.length<=8) (hk:k<gs.length) (h:NetR N ((List.range k).flatMap (Vo y (Zh gs))) W2) :
  R_lguest N [.fz (QS y),.fz (.int (k:Int)),.fz (QB gs[k])] (fun N'=>NetR N' ((List.range (k+1)).flatMap (Vo y (Zh gs))) W2)
def TX:Qq ["net","yard","number","guest","turn"] Zaj (Q8 Ni):=by walk_at"p"
def IR (T:Bl mg) (U:Tx K mg C gS gE) (D:Df K mg "lay_guest" Ni Zaj) (XbE:V7 P w K mg base C "lay" Zaf 2 (spN K P w C R_lay)) (Xbq:Qy P w K mg base "want_of" Zat 1 (QC (K:=K) R_want)) (Xby:Qy P w K mg base "guest_node" Zbh 1 (QC (K:=K) R_gnode))
 (Xbr:Qy P w K mg base "turns_of" ZaQ 1 (QC (K:=K) R_turns)) (Xbz:Qy P w K mg base "is_there" ZaN 1 (QC (K:=K) R_there)) (XbA:Qy P w K mg base "most_of" Zat 1 (QC (K:=K) R_most)) (Xbv:Qy P w K mg base "line_node" ZaP 1 (QC (K:=K) R_lnode)) (Xbu:Qy P w K mg base "line_of" Zat 1 (QC (K:=K) R_lineof)) :
 Qy P w K mg base "lay_guest" Zaj 3 (spN K P w C R_lguest):=by
 refine D.evN TX (fun M ts Ψ h=>by cases h;rfl) (fun f cdv A outer s H E v M ts Ψ hr h=>?_)
 cases h with
 |@mk y gs k ok g8 hk h =>
   refine⟨_,(Qx (V3 (YT XbE U.net hr (pv 0) (Qo (Bv (v:=.ref _) rfl U.mSTART rfl) (Qo (QH Xby hr (Qo (pv 2) Qr)) (Qo (QH Xbq hr (Qo (pv 3) Qr)) Qr)))))
 (QA (ZC PassesOwn.never rfl (VD rfl T.range (Qo (QH Xbr hr (Qo (pv 1) Qr)) Qr)) (QP (i:=4) TX.nd rfl Qa) (QA (ZF (UB (QH Xbz hr (Qo (pv 3) (Qo (pv 4) Qr)))) (QA (V3 (YT XbE U.net hr (pv 0) (Qo (QH Xby hr (Qo (pv 2) Qr)) (Qo (QH Xbv hr (Qo (QH Xbu hr (Qo (pv 3) Qr)) (Qo (pv 4) Qr))) (Qo (QH XbA hr (Qo (pv 3) Qr)) Qr)))))) ZG))))),?_⟩
   show Q9 K _ [some _,some _,some _,some _,none] _
   walk_at"x"
   have t8:=ok.t8;have gl:=Dt ok (Zh gs) (n:=k) (by omega);have gk:=Yp hk;have ew:(Zh gs).wa k=gs[k].want:=by show(gs.getD k default).want=_;rw[gk]
   have glb:∀x∈(List.range k).flatMap (Vo y (Zh gs)),∃j,j<k/\x∈Vo y (Zh gs) j:=fun x hx=>KI.mp hx;refine QG (Uf (ΦA:=fun ts=>ts=[.fz (Zb (nk .start)),.fz (Zb (nk (.guest k))),.fz (.int gs[k].want)]) MB rfl (Jv (Qt (K3 U.aS) (Qt (Zk (Qt (Qp rfl) QD) R_gnode.mk) (Qt (Zk (Qt (Qp rfl) QD) R_want.mk) QD))) rfl) (fun ts hts=>?_));subst hts;refine⟨_,R_lay.mk h ?n0 (by omega),fun N1 hN1=>?_⟩
   case n0 =>
    intro hm;obtain⟨x,hx,ex⟩:=XD.mp hm;obtain⟨j,hj,hx⟩:=glb x hx;injection ex with e1 e2
    rcases W9.mp hx with rfl|⟨t,_,_,rfl⟩
    ·injection e2 with e2
     omega
    ·cases e1
   walk_at"d"
   refine YO (ds:=ZQ 0 y.T) (fun i ρ'=>∃(N':Q6) (u4:Option OT),NetR N' ((List.range k).flatMap (Vo y (Zh gs))++((.start,.guest k,(Zh gs).wa k)::(List.range i).flatMap fun t=>if (Zh gs).th k t=true then [(.guest k,.line ((Zh gs).ln k) t,(Zh gs).mo k)] else [])) W2 /\
    ρ'=[some (.own v (Zm P w C N')),some (.fz (QS y)),some (.fz (.int (k:Int))),some (.fz (QB gs[k])),u4]) ?ei ⟨N1,none,by rw[ew];exact hN1,rfl⟩ ?st ?fin
   case ei=>exact EvI.cast (Ws (Qt (Zk (Qt (Qp rfl) QD) R_turns.mk) QD) (by rw[z62];omega) (by rw[z62];omega)) (WA rfl (by omega))
   case fin =>
    rintro _ ⟨N',u4,hN,rfl⟩
    rw[Y0]at hN;refine⟨N',?_,rfl⟩;rw[BC];exact hN
   case st =>
    rintro t d _ hd ⟨N',u4,hN,rfl⟩
    obtain⟨ht,rfl⟩:=YB hd;rw[Y2];refine⟨_,Zj,?_⟩
    walk_at"d"
    have et:ZH gs[k] (t:Int)=(Zh gs).th k t:=by show _=ZH (gs.getD k default) (t:Int);rw[gk]
    refine ZV (b:=(Zh gs).th k t) (Zz.cast (Yr (Zk (Qt (Qp rfl) (Qt (Qp rfl) QD)) R_there.mk)) et) (fun c=>?_) (fun c=>ZI ?_)
    ·refine Uf (ΦA:=fun ts=>ts=[.fz (Zb (nk (.guest k))),.fz (Zb (nk (.line gs[k].line t))),.fz (.int gs[k].most)]) MB rfl (Jv (Qt (Zk (Qt (Qp rfl) QD) R_gnode.mk) (Qt (Zk (Qt (Zk (Qt (Qp rfl) QD) R_lineof.mk) (Qt (Qp rfl) QD)) R_lnode.mk) (Qt (Zk (Qt (Qp rfl) QD) R_most.mk) QD))) rfl) (fun ts hts=>?_)
     subst hts;refine⟨_,R_lay.mk hN ?n1 ?l1,fun N2 hN2=>?_⟩
     case n1 =>
      intro hm;obtain⟨x,hx,ex⟩:=XD.mp hm;injection ex with e1 e2
      rcases XC.mp hx with hx|hx
      ·obtain⟨j,hj,hx⟩:=glb x hx
       rcases W9.mp hx with rfl|⟨t',_,_,rfl⟩
       ·cases e1
       ·injection e1 with e1
        omega
      ·rcases Xg.mp hx with rfl|hx
       ·cases e1
       ·obtain⟨t',ht',hx⟩:=WD.mp hx
        split at hx
        ·rw[Xk.mp hx]at e2
         injection e2 with _ e2
         have:=Xn.mp ht'
         omega
        ·cases hx
     case l1 =>
      rw[Xv];have:(((.start,.guest k,(Zh gs).wa k):Nd×Nd×Int)::(List.range t).flatMap fun t=>if (Zh gs).th k t=true then [((.guest k,.line ((Zh gs).ln k) t,(Zh gs).mo k):Nd×Nd×Int)] else []).length<=1+t*1:=by
       rw[XX];have:=B1 (f:=fun t=>if (Zh gs).th k t=true then [((.guest k,.line ((Zh gs).ln k) t,(Zh gs).mo k):Nd×Nd×Int)] else []) (c:=1) (fun t=>by split<;>simp) t;omega
      omega
     walk_at"d"
     refine⟨N2,_,?_,rfl⟩;rw[BC,Xb c];have e1:(Zh gs).ln k=gs[k].line:=by show(gs.getD k default).line=_;rw[gk]
     have e2:(Zh gs).mo k=gs[k].most:=by show(gs.getD k default).most=_;rw[gk]
     rw[<- e1,<- e2,Uq]at hN2;exact hN2
    ·refine⟨N',_,?_,rfl⟩
     rw[BC,Xa (by rw[c];decide),X2];exact hN
inductive R_lturn:Q6->List OT->(Q6->Prop)->Prop
 |mk {N:Q6} {y:Yd} {G:Gv} {t:Nat} (ok:y.Ok) (g8:G.m<=8) (ht:t<y.T) (h:NetR N ((List.range G.m).flatMap (Vo y G)++(List.range t).flatMap (VG y)) W2) :
  R_lturn N [.fz (QS y),.fz (.int (t:Int))] (fun N'=>NetR N' ((List.range G.m).flatMap (Vo y G)++(List.range (t+1)).flatMap (VG y)) W2)
def Lj:Qq ["net","yard","turn","line"] ZaU (Q8 KW):=by walk_at"p"
def EC (T:Bl mg) (U:Tx K mg C gS gE) (D:Df K mg "lay_turn" KW ZaU) (XbE:V7 P w K mg base C "lay" Zaf 2 (spN K P w C R_lay)) (Xbt:Qy P w K mg base "bound_at" Zas 1 (QC (K:=K) R_bound)) (Xbv:Qy P w K mg base "line_node" ZaP 1 (QC (K:=K) R_lnode))
 (Xbs:Qy P w K mg base "line_count" ZaQ 1 (QC (K:=K) R_count)) (XbB:Qy P w K mg base "above_of" Zau 1 (QC (K:=K) R_above)):Qy P w K mg base "lay_turn" ZaU 3 (spN K P w C R_lturn):=by
 refine D.evN Lj (fun M ts Ψ h=>by cases h;rfl) (fun f cdv A outer s H E v M ts Ψ hr h=>?_)
 cases h with
 |@mk y G t ok g8 ht h =>
   refine⟨_,(Qx (V3 (YT XbE U.net hr (pv 0) (Qo (QH Xbv hr (Qo Qw (Qo (pv 2) Qr))) (Qo (Bv (v:=.ref _) rfl U.mEND rfl) (Qo (QH Xbt hr (Qo (pv 1) (Qo Qw (Qo (pv 2) Qr)))) Qr)))))
 (QA (ZC PassesOwn.never rfl (KO rfl T.range (Qo Qw (Qo (QH Xbs hr (Qo (pv 1) Qr)) Qr))) (QP (i:=3) Lj.nd rfl Qa) (QA (V3 (YT XbE U.net hr (pv 0) (Qo (QH Xbv hr (Qo (pv 3) (Qo (pv 2) Qr))) (Qo (QH Xbv hr (Qo (QH XbB hr (Qo (pv 1) (Qo (pv 3) Qr))) (Qo (pv 2) Qr))) (Qo (QH Xbt hr (Qo (pv 1) (Qo (pv 3) (Qo (pv 2) Qr)))) Qr))))))))),?_⟩
   show Q9 K _ [some _,some _,some _,none] _
   walk_at"x"
   have t8:=ok.t8;have l1:=ok.l1;have l5:=ok.l5;have gl:=Dt ok G g8;have tl:=Nf ok (n:=t) (by omega)
   have glb:∀x∈(List.range G.m).flatMap (Vo y G)++(List.range t).flatMap (VG y),(∃j,x∈Vo y G j)\/∃t',t'<t/\x∈VG y t':=fun x hx=>by
    rcases XC.mp hx with hx|hx
    ·obtain⟨j,_,hx⟩:=KI.mp hx
     exact .inl ⟨j,hx⟩
    ·obtain⟨j,hj,hx⟩:=KI.mp hx
     exact .inr ⟨j,hj,hx⟩
   refine QG (Uf (ΦA:=fun ts=>ts=[.fz (Zb (nk (.line 0 t))),.fz (Zb (nk .fin)),.fz (.int (Zi y 0 t))]) MB rfl (Jv (Qt (Zk (Qt QX (Qt (Qp rfl) QD)) (R_lnode.mk (l:=0))) (Qt (Se U.aE) (Qt (Zk (Qt (Qp rfl) (Qt QX (Qt (Qp rfl) QD))) (R_bound.mk (k:=0) (t:=(t:Int)) ok (by decide) (by omega) (by omega) (by omega))) QD))) ?e0) (fun ts hts=>?_))
   case e0=>rw[Xl];rfl
   subst hts;refine⟨_,R_lay.mk h ?n0 (by rw[Xv];omega),fun N1 hN1=>?_⟩
   case n0 =>
    intro hm;obtain⟨x,hx,ex⟩:=XD.mp hm;injection ex with e1 e2
    rcases glb x hx with ⟨j,hx⟩|⟨t',ht',hx⟩
    ·rcases W9.mp hx with rfl|⟨u,_,_,rfl⟩<;>cases e1
    ·rcases J5.mp hx with rfl|⟨i,_,rfl⟩
     ·injection e1 with _ e1
      omega
     ·cases e2
   walk_at"d"
   refine YO (ds:=ZQ 1 (y.ls.length-1)) (fun i ρ'=>∃(N':Q6) (u3:Option OT),NetR N' (((List.range G.m).flatMap (Vo y G)++(List.range t).flatMap (VG y))++((.line 0 t,.fin,Zi y 0 t)::(List.range i).flatMap fun i=>[(.line (i+1) t,.line (Mir.upN y (i+1)) t,Zi y (i+1) t)])) W2 /\
    ρ'=[some (.own v (Zm P w C N')),some (.fz (QS y)),some (.fz (.int (t:Int))),u3]) ?ei ⟨N1,none,by simpa using hN1,rfl⟩ ?st ?fin
   case ei=>exact EvI.cast (K1 (Qt QX (Qt (Zk (Qt (Qp rfl) QD) R_count.mk) QD)) (by rw[z62];omega)) (WA rfl (by omega))
   case fin =>
    rintro _ ⟨N',u3,hN,rfl⟩
    rw[Y0]at hN;refine⟨N',?_,rfl⟩;rw[BC,<- Uq];exact hN
   case st =>
    rintro i d _ hd ⟨N',u3,hN,rfl⟩
    obtain⟨hi,rfl⟩:=YB hd;have ei:(1:Int)+(i:Int)=((i+1:Nat):Int):=by omega
    rw[ei];refine⟨_,Zj,?_⟩
    walk_at"d"
    refine Uf (ΦA:=fun ts=>ts=[.fz (Zb (nk (.line (i+1) t))),.fz (Zb (nk (.line (Mir.upN y (i+1)) t))),.fz (.int (Zi y (i+1) t))]) MB rfl (Jv (Qt (Zk (Qt (Qp rfl) (Qt (Qp rfl) QD)) (R_lnode.mk (l:=i+1))) (Qt (Zk (Qt (Zk (Qt (Qp rfl) (Qt (Qp rfl) QD)) (R_above.mk (k:=((i+1:Nat):Int)) ok (by omega) (by omega))) (Qt (Qp rfl) QD)) (R_lnode.mk (l:=upN y (((i+1:Nat):Int)).toNat))) (Qt (Zk (Qt (Qp rfl) (Qt (Qp rfl) (Qt (Qp rfl) QD))) (R_bound.mk (k:=((i+1:Nat):Int)) (t:=(t:Int)) ok (by omega) (by omega) (by omega) (by omega))) QD))) ?e1) (fun ts hts=>?_)
    case e1=>rw[Xl,Xl];rfl
    subst hts;refine⟨_,R_lay.mk hN ?n1 ?l1,fun N2 hN2=>?_⟩
    case n1 =>
     intro hm;obtain⟨x,hx,ex⟩:=XD.mp hm;injection ex with e1 e2
     rcases XC.mp hx with hx|hx
     ·rcases glb x hx with ⟨j,hx⟩|⟨t',ht',hx⟩
      ·rcases W9.mp hx with rfl|⟨u,_,_,rfl⟩<;>cases e1
      ·rcases J5.mp hx with rfl|⟨i',_,rfl⟩
       ·cases e2
       ·injection e1 with _ e1
        omega
     ·rcases Xg.mp hx with rfl|hx
      ·cases e2
      ·obtain⟨i',hi',hx⟩:=WD.mp hx
       rw[Xk.mp hx]at e1;injection e1 with e1 _
       have:=Xn.mp hi'
       omega
    case l1 =>
     rw[Xv,Xv,XX];have:=B1 (f:=fun i=>[((.line (i+1) t,.line (Mir.upN y (i+1)) t,Zi y (i+1) t):Nd×Nd×Int)]) (c:=1) (fun i=>by simp) i;omega
    walk_at"d"
    refine⟨N2,_,?_,rfl⟩;rw[BC];rw[Uq]at hN2;exact hN2
def Rs (y:Yd)(G:Gv)(φ:Zc Nd):Prop:=Flow y G φ/\∃es:Got Nd,Nd.start∈Zd es/\Yl (Zp y G) φ es/\Nd.fin∉Zd es
inductive R_filled (P:Program)(w:World)(C:Addr):List OT->(OT->Prop)->Prop
 |mk {y:Yd} {gs:List Gs} (ok:y.Ok) (hg:∀g∈gs,GOk y g) (g8:gs.length<=8):R_filled P w C [.fz (QS y),.fz (.list (gs.map QB))] (fun r=>∃v N φ,r=.own v (Zm P w C N)/\NetR N (Zp y (Zh gs)) φ/\Rs y (Zh gs) φ)
def R8 {y:Yd}(ok:y.Ok){l t:Nat}(hl:l<y.ls.length)(ht:t<y.T):0<=Zi y l t:=by
 rw[US hl];have h1:=GF ok hl;have hm:Z9 y l∈y.ls:=by simp[Z9,hl]
 have:(Z9 y l).bs.getD t 0=(Z9 y l).bs[t]'(by omega):=by simp[List.getD,show t<(Z9 y l).bs.length by omega]
 rw[this];exact(ok.bb _ hm _ (Xy _)).1
def C2 {y:Yd}(ok:y.Ok){gs:List Gs}(hg:∀g∈gs,GOk y g):∀x∈Zp y (Zh gs),0<=x.2.2:=fun x hx=>by
 have l1:=ok.l1
 rcases GH.mp hx with ⟨k,hk,hx⟩|⟨t,ht,hx⟩
 ·have gk:GOk y (gs.getD k default):=by rw[Yp hk];exact hg _ (Xy _)
  rcases W9.mp hx with rfl|⟨t,_,_,rfl⟩
  ·exact gk.w0
  ·exact gk.m0
 ·rcases J5.mp hx with rfl|⟨i,hi,rfl⟩
  ·exact R8 ok (by omega) ht
  ·exact R8 ok (by omega) ht
def BN:Qq ["yard","guests","net","number","guest","turn"] Zaa (Q8 N5):=by walk_at"p"
def Im (T:Bl mg) (U:Tx K mg C gS gE) (D:Df K mg "filled_net" N5 Zaa) (Xb0:Hm P w K mg base "Net" C 1) (Xb1:Qy P w K mg base "lay_guest" Zaj 3 (spN K P w C R_lguest)) (Xbr:Qy P w K mg base "turns_of" ZaQ 1 (QC (K:=K) R_turns))
 (Xb2:Qy P w K mg base "lay_turn" ZaU 3 (spN K P w C R_lturn)) (Xb3:V7 P w K mg base C "fill" Zao 2 (spN K P w C R_fill)):Qy P w K mg base "filled_net" Zaa 4 (Zy K (R_filled P w C)):=by
 refine D.evD BN (fun ts Φ h=>by cases h;rfl) (fun _ _ _ _ s H E ts Φ hr h=>?_)
 cases h with
 |@mk y gs ok hg g8 =>
   refine⟨_,(Qx (QQ (i:=2) BN.nd rfl Qa (C4 Xb0 hr))
 (Qx (ZC PassesOwn.never rfl (GM rfl T.enumerate (Qo (pv 1) Qr)) (Vs (n:=2) rfl (Zo (QP (i:=3) BN.nd rfl Qa) (Zo (QP (i:=4) BN.nd rfl Qa) Vp))) (QA (V3 (QH Xb1 hr (Qo (pv 2) (Qo (pv 0) (Qo (pv 3) (Qo (pv 4) Qr))))))))
 (Qx (ZC PassesOwn.never rfl (VD rfl T.range (Qo (QH Xbr hr (Qo (pv 0) Qr)) Qr)) (QP (i:=5) BN.nd rfl Qa) (QA (V3 (QH Xb2 hr (Qo (pv 2) (Qo (pv 0) (Qo (pv 5) Qr)))))))
 (Qx (V3 (YT Xb3 U.net hr (pv 2) (Qo (Bv (v:=.ref _) rfl U.mSTART rfl) (Qo (Bv (v:=.ref _) rfl U.mEND rfl) Qr))))
 (QA (QT (pv 2))))))),?_⟩
   show Q9 K _ [some _,some _,none,none,none,none] _
   walk_at"x"
   have t8:=ok.t8;refine QG (S6 Cr (fun v=>?_))
   walk_at"d"
   refine QG (YO (ds:=Wh (gs.map QB)) (fun i ρ'=>∃(N':Q6) (u3 u4:Option OT),NetR N' ((List.range i).flatMap (Vo y (Zh gs))) W2/\ρ'=[some (.fz (QS y)),some (.fz (.list (gs.map QB))),some (.own v (Zm P w C N')),u3,u4,none]) (UL (Qt (Qp rfl) QD)) ⟨_,none,none,L7 _,rfl⟩ ?st ?fin)
   case st =>
    rintro i d _ hd ⟨N',u3,u4,hN,rfl⟩
    obtain⟨a,ha,rfl⟩:=Dm hd
    have hi:i<gs.length:=by
     have:=(Xe.mp ha).1
     simpa using this
    obtain rfl:a=QB gs[i]:=by simpa [hi] using ha.symm
    refine⟨_,Yv (ds:=[.int (i:Int),QB gs[i]]) (Z8 Zj (Z8 Zj Y6)) rfl,?_⟩
    walk_at"d"
    refine Pu (ΦA:=fun ts=>ts=[.fz (QS y),.fz (.int (i:Int)),.fz (QB gs[i])]) rfl (Jv (Qt (Qp rfl) (Qt (Qp rfl) (Qt (Qp rfl) QD))) rfl) (fun ts hts=>?_);subst hts;refine⟨_,R_lguest.mk ok g8 hi hN,fun N2 hN2=>?_⟩
    walk_at"d"
    exact⟨N2,_,_,hN2,rfl⟩
   case fin =>
    rintro _ ⟨N1,u3,u4,hN1,rfl⟩
    rw[GJ,Xh]at hN1;refine QG (YO (ds:=ZQ 0 y.T) (fun i ρ'=>∃(N':Q6) (u5:Option OT),NetR N' ((List.range (Zh gs).m).flatMap (Vo y (Zh gs))++(List.range i).flatMap (VG y)) W2/\ρ'=[some (.fz (QS y)),some (.fz (.list (gs.map QB))),some (.own v (Zm P w C N')),u3,u4,u5]) ?ei2 ⟨N1,none,by rw[show(List.range 0).flatMap (VG y)=[] from rfl,X2];exact hN1,rfl⟩ ?st2 ?fin2)
    case ei2=>exact EvI.cast (Ws (Qt (Zk (Qt (Qp rfl) QD) R_turns.mk) QD) (by rw[z62];omega) (by rw[z62];omega)) (WA rfl (by omega))
    case st2 =>
     rintro t d _ hd ⟨N',u5,hN,rfl⟩
     obtain⟨ht,rfl⟩:=YB hd;rw[Y2];refine⟨_,Zj,?_⟩
     walk_at"d"
     refine Pu (ΦA:=fun ts=>ts=[.fz (QS y),.fz (.int (t:Int))]) rfl (Jv (Qt (Qp rfl) (Qt (Qp rfl) QD)) rfl) (fun ts hts=>?_);subst hts;refine⟨_,R_lturn.mk ok g8 ht hN,fun N2 hN2=>?_⟩
     walk_at"d"
     exact⟨N2,_,hN2,rfl⟩
    case fin2 =>
     rintro _ ⟨N',u5,hN,rfl⟩
     rw[Y0]at hN;have hN:NetR N' (Zp y (Zh gs)) W2:=hN
     have ll:(Zp y (Zh gs)).length<400:=by
      unfold Zp;rw[Xv];have a:=Dt ok (Zh gs) (n:=(Zh gs).m) g8;have b:=Nf ok t8;omega
     refine QG (Uf (ΦA:=fun ts=>ts=[.fz (Zb (nk .start)),.fz (Zb (nk .fin))]) A1 rfl (Jv (Qt (K3 U.aS) (Qt (Se U.aE) QD)) rfl) (fun ts hts=>?_));subst hts;refine⟨_,R_fill.mk hN (L8 (C2 ok hg)) ll,fun N2 hN2=>?_⟩;obtain⟨φ',es,h1,h2,h3,h4,h5⟩:=hN2
     walk_at"d"
     exact SO rfl ⟨v,N2,φ',rfl,h1,h2,es,h3,h4,h5⟩
def Bu (y:Yd)(G:Gv)(φ:Zc Nd):List (Ql):=(List.range G.m).map fun k=>(List.range y.T).map fun t=>Zr G φ t k
def IU {y:Yd}{G:Gv}{φ:Zc Nd}{k t:Nat}(hk:k<G.m)(ht:t<y.T):Bm (Zp y G) φ (.guest k) (.line (G.ln k) t)=Zr G φ t k:=by
 unfold Bm Zr;by_cases c:G.th k t=true
 ·rw[Xb c,Xb (XD.mpr ⟨_,MR hk ht c,rfl⟩)]
 ·rw[Xa c,Xa (fun hm=>?_)]
  obtain⟨x,hx,ex⟩:=XD.mp hm;injection ex with e1 e2
  rcases GH.mp hx with ⟨j,_,hx⟩|⟨t',_,hx⟩
  ·rcases W9.mp hx with rfl|⟨t',_,c',rfl⟩
   ·cases e1
   ·injection e1 with e1
    injection e2 with _ e2;subst e1 e2;exact c c'
  ·rcases J5.mp hx with rfl|⟨i,_,rfl⟩<;>cases e1
inductive R_takes (P:Program)(w:World)(C:Addr):List OT->OT->Prop
 |mk {N:Q6} {y:Yd} {gs:List Gs} {φ:Zc Nd} {k:Nat} (ok:y.Ok) (h:NetR N (Zp y (Zh gs)) φ) (hk:k<gs.length):R_takes P w C [.zow (Vi P w C N),.fz (QS y),.fz (.int (k:Int)),.fz (QB gs[k])] (.ol ((List.range y.T).map fun t=>PyData.int (Zr (Zh gs) φ t k)))
def ZkI:Qq Zaj Zaj (Q8 Dx):=by walk_at"p"
def CV (T:Bl mg) (U:Tx K mg C gS gE) (D:Df K mg "takes_by" Dx Zaj) (Xbr:Qy P w K mg base "turns_of" ZaQ 1 (QC (K:=K) R_turns)) (Xb4:V7 P w K mg base C "flow" Zao 1 (Zy K (R_flow P w C))) (Xbv:Qy P w K mg base "line_node" ZaP 1 (QC (K:=K) R_lnode)) (Xbu:Qy P w K mg base "line_of" Zat 1 (QC (K:=K) R_lineof)) (Xby:Qy P w K mg base "guest_node" Zbh 1 (QC (K:=K) R_gnode)) :
 Qy P w K mg base "takes_by" Zaj 2 (QC (K:=K) (R_takes P w C)):=by
 refine D.ev ZkI (fun ts r h=>by cases h;rfl) (fun _ _ _ _ s H E ts r hr h=>?_)
 cases h with
 |@mk N y gs φ k ok h hk =>
   refine⟨_,(QA (QT (Yf (NX:=Zaj) (sc:=Q8 Dx) (N:=["turn","net","number","guest"]) (f:=[none,some 0,some 2,some 3]) rfl (by decide +kernel) rfl rfl (VD rfl T.range (Qo (QH Xbr hr (Qo (pv 1) Qr)) Qr)) (fun _=>(QP (i:=0) (show(["turn","net","number","guest"]:Qh).Nodup by decide +kernel) rfl Qa)) (fun _=>Z5) (fun _=>ZT) (fun _=>(YT Xb4 U.net hr (pv 1) (Qo (QH Xby hr (Qo (pv 2) Qr)) (Qo (QH Xbv hr (Qo (QH Xbu hr (Qo (pv 3) Qr)) (Qo (pv 0) Qr))) Qr))))))),?_⟩;show Q9 K _ [some _,some _,some _,some _] _
   walk_at"x"
   have t8:=ok.t8;refine YM (Mu (lo:=0) (n:=y.T) (h:=fun t=>PyData.int (Zr (Zh gs) φ t k)) ?ei (by omega) ?el) rfl
   case ei=>exact EvI.cast (Ws (Qt (Zk (Qt (Qp rfl) QD) R_turns.mk) QD) (by rw[z62];omega) (by rw[z62];omega)) (WA rfl (by omega))
   case el =>
    intro t ht c;refine⟨_,Zj,?_⟩
    walk_at"e"
    rw[Y2];have eL:(Zh gs).ln k=gs[k].line:=by show(gs.getD k default).line=_;rw[Yp hk]
    have ef:=IU (y:=y) (G:=Zh gs) (φ:=φ) (k:=k) hk ht;rw[eL]at ef;exact Qs.cast (EvO.e (ZJ.o (KH Ay rfl (Qt (Zk (Qt (Qp rfl) QD) R_gnode.mk) (Qt (Zk (Qt (Zk (Qt (Qp rfl) QD) R_lineof.mk) (Qt (Qp rfl) QD)) R_lnode.mk) QD)) (R_flow.mk (p:=.guest k) (q:=.line gs[k].line t) h)))) (by rw[ef])
inductive R_great:List OT->(OT->Prop)->Prop
 |mk {y:Yd} {gs:List Gs} (ok:y.Ok) (hg:∀g∈gs,GOk y g) (g8:gs.length<=8):R_great [.fz (QS y),.fz (.list (gs.map QB))] (fun r=>∃φ,Rs y (Zh gs) φ/\r=.oll ((Bu y (Zh gs) φ).map fun row=>row.map PyData.int))
def Lm:Qq ["yard","guests","net"] Zaa (Q8 DK):=by walk_at"p"
def EB (T:Bl mg) (U:Tx K mg C gS gE) (D:Df K mg "greatest_filling" DK Zaa) (XbH:Qy P w K mg base "filled_net" Zaa 4 (Zy K (R_filled P w C))) (Xb5:Qy P w K mg base "takes_by" Zaj 2 (QC (K:=K) (R_takes P w C))):Qy P w K mg base "greatest_filling" Zaa 5 (Zy K R_great):=by
 refine D.evD Lm (fun ts Φ h=>by cases h;rfl) (fun _ _ _ _ s H E ts Φ hr h=>?_)
 cases h with
 |@mk y gs ok hg g8 =>
   refine⟨_,(Qx (QQ (i:=2) Lm.nd rfl (Or.inr rfl) (QH XbH hr (Qo (pv 0) (Qo (pv 1) Qr))))
 (QA (QT (Yf (NX:=["yard","guests","net"]) (sc:=Q8 DK) (N:=ZaY) (f:=[none,none,some 2,some 0]) rfl (by decide +kernel) rfl rfl (GM rfl T.enumerate (Qo (pv 1) Qr)) (fun _=>(Vs (n:=2) rfl (Zo (QP (i:=0) (show(ZaY:Qh).Nodup by decide +kernel) rfl Qa) (Zo (QP (i:=1) (show(ZaY:Qh).Nodup by decide +kernel) rfl Qa) Vp)))) (fun _=>(Bp (n:=2) (Jb Z5 (Jb Z5 Bx)))) (fun _=>ZT) (fun _=>(QH Xb5 hr (Qo (pv 2) (Qo (pv 3) (Qo (pv 0) (Qo (pv 1) Qr)))))))))),?_⟩
   show Q9 K _ [some _,some _,none] _
   walk_at"x"
   refine QG (Wr (Yj (Qt (Qp rfl) (Qt (Qp rfl) QD)) (R_filled.mk ok hg g8)) (fun r hr'=>?_));obtain⟨v,N,φ,rfl,hN,full⟩:=hr'
   walk_at"d"
   refine AM 2 rfl ?_
   walk_at"d"
   refine YM (r:=.oll ((Bu y (Zh gs) φ).map fun row=>row.map PyData.int)) (EvO.cast (JY (xs:=gs.zipIdx) (enc:=fun p=>PyData.tuple [.int (p.2:Int),QB p.1]) (h:=fun p=>(List.range y.T).map fun t=>PyData.int (Zr (Zh gs) φ t p.2)) ?ei (by simp;omega) ?el) ?eq) ⟨φ,full,rfl⟩
   case ei =>
    refine EvI.cast (UL (Qt (Qp rfl) QD)) ?_;unfold Wh;rw[List.zipIdx_map,Xw];rfl
   case eq =>
    congr 1
    unfold Bu;rw[Xw];have:(Zh gs).m=gs.length:=rfl;rw[this];apply List.ext_getElem?;intro i;by_cases hi:i<gs.length
    ·simp[hi,Xw,Function.comp_def]
    ·simp[hi]
   case el =>
    intro p hp c;obtain⟨hk,e2⟩:∃h:p.2<gs.length,p.1=gs[p.2]:=by
     have:=List.mem_zipIdx hp
     simp at this
     exact⟨this.1,this.2⟩
    obtain⟨g,k⟩:=p
    simp only at hk e2
    subst e2;refine⟨_,Yv (ds:=[.int (k:Int),QB gs[k]]) (Z8 Zj (Z8 Zj Y6)) rfl,?_⟩
    walk_at"e"
    exact Ua (Sm rfl (Qt (Qp rfl) (Qt (Qp rfl) (Qt (Qp rfl) QD)))) (R_takes.mk ok hN hk)
def Zhq:Qq Zaa Zaa (Q8 NN):=by walk_at"p"
def Am (T:Bl mg) (D:Df K mg "best_filling" NN Zaa) (Xb6:Qy P w K mg base "greatest_filling" Zaa 5 (Zy K R_great)):Qy P w K mg base "best_filling" Zaa 6 (Zy K R_great):=by
 refine D.evD Zhq (fun ts Φ h=>by cases h;rfl) (fun _ _ _ _ s H E ts Φ hr h=>?_);have h0:=h
 cases h with
 |@mk y gs ok hg g8 =>
   refine⟨_,(QA (QT (QH Xb6 hr (Qo (pv 0) (Qo (pv 1) Qr))))),?_⟩;show Q9 K _ [some _,some _] _
   walk_at"x"
   exact Ky (Yj (Qt (Qp rfl) (Qt (Qp rfl) QD)) h0) (fun r hr'=>hr')
def G0 (y:Yd)(G:Gv)(S:Qm):Int:=Qv (Zn S G.wa) G.m-Qv (fun t=>ZK y (fun l=>Zi y l t) (Jl G S t) 0) y.T
def Hr (y:Yd)(G:Gv)(φ:Zc Nd):Int:=Qv (fun k=>G.wa k-Qv (fun t=>Zr G φ t k) y.T) G.m
def Ir {y:Yd}{G:Gv}{φ:Zc Nd}(F:Flow y G φ)(ok:y.Ok)(hln:∀k,k<G.m->G.ln k<y.ls.length)(S:Qm):G0 y G S<=Hr y G φ:=by
 have nn:∀k,k<G.m->0<=G.wa k-Qv (fun t=>Zr G φ t k) y.T:=fun k hk=>by
  rw[F.total hk];have:=F.want hk;omega
 have h1:Qv (Zn S fun k=>G.wa k-Qv (fun t=>Zr G φ t k) y.T) G.m<=Hr y G φ:=VC fun k hk=>KD (nn k hk)
 have h2:Qv (Zn S fun k=>G.wa k-Qv (fun t=>Zr G φ t k) y.T) G.m=Qv (Zn S G.wa) G.m-Qv (Zn S fun k=>Qv (fun t=>Zr G φ t k) y.T) G.m:=by
  rw[<- KR];refine Zq fun k _=>?_;unfold Zn;dsimp only;split<;>omega
 have h3:Qv (fun t=>Qv (Zn S (Zr G φ t)) G.m) y.T=Qv (Zn S fun k=>Qv (fun t=>Zr G φ t k) y.T) G.m:=by
  rw[Dk (fun t k=>Zn S (Zr G φ t) k) y.T G.m];refine Zq fun k _=>?_;unfold Zn;cases S k with
  |true=>rfl
  |false=>simp only[X8,if_false];exact VN _
 have h4:Qv (fun t=>Qv (Zn S (Zr G φ t)) G.m) y.T<=Qv (fun t=>ZK y (fun l=>Zi y l t) (Jl G S t) 0) y.T:=VC fun t ht=>F.no_more ok hln S ht;unfold G0;omega
def Sg {y:Yd}{gs:List Gs}(hg:∀g∈gs,GOk y g):∀k,k<(Zh gs).m->(Zh gs).ln k<y.ls.length:=fun k hk=>by
 show(gs.getD k default).line<_
 rw[Yp hk];exact(hg _ (Xy _)).ln
def ZA (gs:List Gs)(S:Qm):Qk:=(List.range gs.length).filter S
def Pe {gs:List Gs}(g8:gs.length<=8)(S:Qm):SetOk gs (ZA gs S) :=
 ⟨fun k hk=>Xn.mp (Y4.mp hk).1,XI (DV _ _) (by simpa using g8)⟩
theorem VY (f:Qn):∀n,((List.range n).map f).sum=Qv f n
 |0=>rfl
 |n+1=>by rw[Y3,XE,GS,VY f n];simp[Qv]
theorem Dw (f:Qn)(p:Qm):∀n,(((List.range n).filter p).map f).sum=Qv (Zn p f) n
 |0=>rfl
 |n+1=>by
   rw[Y3,BU,XE,GS,Dw f p n];show _=Qv (Zn p f) n+Zn p f n;unfold Zn;cases e:p n with
   |true=>simp[GT,e]
   |false=>simp[GT,e]
def CJ (gs:List Gs)(S:Qm)(t l:Nat):Jl (Zh gs) S t l=WQ gs t (ZA gs S) l:=by
 show _=Z7 gs (t:Int) l ((List.range gs.length).filter S);rw[KU];unfold Jl;refine Zq fun k hk=>?_;have hk:k<gs.length:=hk;unfold Zn moT wgt ind;rw[XM hk];have e1:(Zh gs).th k t=ZH gs[k] (t:Int):=by show ZH (gs.getD k default) _=_;rw[Yp hk]
 have e2:(Zh gs).mo k=gs[k].most:=by show(gs.getD k default).most=_;rw[Yp hk]
 have e3:(Zh gs).ln k=gs[k].line:=by show(gs.getD k default).line=_;rw[Yp hk]
 rw[e1,e2,e3];cases S k with
 |false=>simp
 |true =>
   simp only[if_true];by_cases c:gs[k].line=l
   ·by_cases d:ZH gs[k] (t:Int)=true
    ·simp[c,d]
    ·simp[c,d]
   ·simp[c]
def K0 (gs:List Gs)(sm:Qk):Int:=(sm.map fun k=>(gs.getD k default).want).sum
def IX (y:Yd)(gs:List Gs)(S:Qm):G0 y (Zh gs) S=K0 gs (ZA gs S)-Yn y gs (ZA gs S):=by
 unfold G0;congr 1
 ·exact(Dw _ S gs.length).symm
 ·unfold Yn
  rw[VY];refine Zq fun t _=>?_;unfold WV;rw[show Jl (Zh gs) S t=WQ gs t (ZA gs S) from funext fun l=>CJ gs S t l]
def Kd (y:Yd)(G:Gv)(φ:Zc Nd)(es:Got Nd):Prop:=Flow y G φ/\Nd.start∈Zd es/\Yl (Zp y G) φ es/\Nd.fin∉Zd es
inductive R_lset:List OT->(OT->Prop)->Prop
 |mk {y:Yd} {gs:List Gs} (ok:y.Ok) (hg:∀g∈gs,GOk y g) (g8:gs.length<=8):R_lset [.fz (QS y),.fz (.list (gs.map QB))] (fun r=>∃φ es,Kd y (Zh gs) φ es/\r=.ol (QW (ZA gs (ZE es))))
def Lp:Qq ["yard","guests","edges"] Zaa (Q8 DD):=by walk_at"p"
def ZkD (T:Bl mg) (U:Tx K mg C gS gE) (D:Df K mg "guests_reached" DD Zaa) (XbH:Qy P w K mg base "filled_net" Zaa 4 (Zy K (R_filled P w C))) (XbG:V7 P w K mg base C "reached" ZaS 1 (Zy K (R_reached P w C))) (Xby:Qy P w K mg base "guest_node" Zbh 1 (QC (K:=K) R_gnode)) :
 Qy P w K mg base "guests_reached" Zaa 5 (Zy K R_lset):=by
 refine D.evD Lp (fun ts Φ h=>by cases h;rfl) (fun _ _ _ _ s H E ts Φ hr h=>?_)
 cases h with
 |@mk y gs ok hg g8 =>
   refine⟨_,(Qx (QQ (i:=2) Lp.nd rfl (Or.inr rfl) (YT XbG U.net hr (QH XbH hr (Qo (pv 0) (Qo (pv 1) Qr))) (Qo (Bv (v:=.ref _) rfl U.mSTART rfl) Qr)))
 (QA (QT (Yf (NX:=["yard","guests","edges"]) (sc:=Q8 DD) (N:=["number","edges"]) (f:=[none,some 2]) rfl (by decide +kernel) rfl rfl (VD rfl T.range (Qo (Z2 Ym (by rfl) T.len Yk (Qo (pv 1) Qr)) Qr)) (fun _=>(QP (i:=0) (show(["number","edges"]:Qh).Nodup by decide +kernel) rfl Qa)) (fun _=>Z5) (fun _=>(Kq (Wm (RU (W4 hr) (QH Xby hr (Qo (pv 0) Qr)) (pv 1))))) (fun _=>(pv 0)))))),?_⟩
   show Q9 K _ [some _,some _,none] _
   walk_at"x"
   have ll:(Zp y (Zh gs)).length<400:=by
    unfold Zp;rw[Xv];have a:=Dt ok (Zh gs) (n:=(Zh gs).m) g8;have b:=Nf ok ok.t8;omega
   refine QG (Wr (Φ:=fun r=>∃v φ es,r=.own v (V9 (kvG es))/\Kd y (Zh gs) φ es) (AV (P:=P) (w:=w) Lf (Yj (Qt (Qp rfl) (Qt (Qp rfl) QD)) (R_filled.mk ok hg g8)) (fun r hr'=>?_) (Qt (K3 U.aS) QD)) (fun r hr'=>?_))
   ·obtain⟨v,N,φ,rfl,hN,F,es0,h1,h2,h3⟩:=hr'
    refine⟨v,N,rfl,_,R_reached.mk (s:=.start) hN ll,fun r ⟨v',es,e,tr,cl⟩=>⟨v',φ,es,e,F,tr.start,cl,fun z=>h3 (tr.inClosed h2 h1 _ z)⟩⟩
   ·obtain⟨v,φ,es,rfl,fb⟩:=hr'
    walk_at"d"
    refine Pf 2 rfl ?_
    walk_at"d"
    refine YM (r:=.ol (QW (ZA gs (ZE es)))) (Mw (xs:=List.range gs.length) (enc:=fun(j:Nat)=>PyData.int (j:Int)) (h:=fun(j:Nat)=>PyData.int (j:Int)) (p:=ZE es) ?ei (by simp;omega) ?el) ⟨φ,es,fb,rfl⟩
    case ei =>
     have e:(gs.map QB).length=gs.length:=by simp
     refine EvI.cast (Ws (Qt (Jz (Qp rfl)) QD) (by rw[z62,e];omega) (by rw[z62,e];omega)) ?_;rw[e,Xl];unfold ZQ;refine XQ fun i _=>?_;rw[Y2]
    case el =>
     intro k hk c;refine⟨_,Zj,?_,fun _=>?_⟩
     ·walk_at"e"
      exact Zz.cast (Yr (FU (k:=nk (.guest k)) (Zk (Qt (Qp rfl) QD) R_gnode.mk) rfl)) (Bk _ _)
     ·walk_at"e"
      exact Qp rfl
def Zh4:Qq Zaa Zaa (Q8 N8):=by walk_at"p"
def Ch (T:Bl mg) (D:Df K mg "lacking_set" N8 Zaa) (Xb7:Qy P w K mg base "guests_reached" Zaa 5 (Zy K R_lset)):Qy P w K mg base "lacking_set" Zaa 6 (Zy K R_lset):=by
 refine D.evD Zh4 (fun ts Φ h=>by cases h;rfl) (fun _ _ _ _ s H E ts Φ hr h=>?_);have h0:=h
 cases h with
 |@mk y gs ok hg g8 =>
   refine⟨_,(QA (QT (QH Xb7 hr (Qo (pv 0) (Qo (pv 1) Qr))))),?_⟩;show Q9 K _ [some _,some _] _
   walk_at"x"
   exact Ky (Yj (Qt (Qp rfl) (Qt (Qp rfl) QD)) h0) (fun r hr'=>hr')
def Ea {x y a b:Nat}(h:Nat.gcd x y=Nat.gcd a b):Nat.gcd y (x%y)=Nat.gcd a b:=by
 rw[<- h,Nat.gcd_comm x y,Nat.gcd_rec y x,Nat.gcd_comm]
def QU (f:Fr):PyData:=.tuple [.int (f.t:Int),.int (f.b:Int)]
structure FrB (f:Fr):Prop where
 ok:f.Ok
 t:f.t<2^103
 b:f.b<=2^103
structure FrG (f:Fr):Prop where
 ok:f.Ok
 t:f.t<2^970
 b:f.b<=2^970
def FrB.g {f:Fr}(h:FrB f):FrG f:=⟨h.ok,Nat.lt_trans h.t (Nat.pow_lt_pow_right (by decide) (by decide)),XI h.b (UZ (by decide) (by decide))⟩
def p2c {m:Nat}:(2:Int)^m=((2^m:Nat):Int):=by rw[Int.natCast_pow];rfl
def Sa {a b:Nat}(h1:a<2^16000)(h3:b<2^16000):IntMulOk (a:Int) (b:Int):=HH (m:=16000) (n:=16000) (by omega) (by rw[p2c];exact Wu.mpr h1) (by omega) (by rw[p2c];exact Wu.mpr h3) (by decide)
def ltG {a:Nat}(h:a<=2^15600):a<2^16000:=BV h (Nat.pow_lt_pow_right (by decide) (by decide))
def leG {a:Nat}(h:a<=2^970):a<=2^15600:=XI h (UZ (by decide) (by decide))
def AG {f g:Fr}:PyData.eqv (QU f) (QU g)=decide (f=g):=by
 show((f.t:Int)==(g.t:Int)&&((f.b:Int)==(g.b:Int)&&true))=_
 rw[JC];simp only[Bool.and_true,JD,beq_iff_eq,decide_eq_true_eq];constructor
 ·rintro⟨a,b⟩
  have a:f.t=g.t:=by omega
  have b:f.b=g.b:=by omega
  cases f
  cases g
  simp at a b
  rw[a,b]
 ·rintro rfl
  exact⟨rfl,rfl⟩
def Ly (f:Fr):Yg 1 (QU f):=As (SH (Mv _ _) (SH (Mv _ _) Sv))
def Vk (B:Nat)(fs:List Fr):Nat:=fs.foldl (fun B f=>B*(f.b/Nat.gcd B f.b)) B
def A5 (B:Nat)(f:Fr)(fs:List Fr):Vk B (f::fs)=Vk (B*(f.b/Nat.gcd B f.b)) fs:=rfl
def ZjQ (B b:Nat):b∣B*(b/Nat.gcd B b):=by
 obtain⟨c,hc⟩:=Nat.gcd_dvd_left B b;have e:Nat.gcd B b*(b/Nat.gcd B b)=b:=Nat.mul_div_cancel' (DO B b);refine⟨c,?_⟩;have q:B*(b/Nat.gcd B b)=(Nat.gcd B b*c)*(b/Nat.gcd B b):=by rw[<- hc]
 rw[q,JI (Nat.gcd B b) c,Us,e,JI]
theorem PJ:∀(fs:List Fr) (B:Nat),B∣Vk B fs
 |[],B=>Nat.dvd_refl _
 |f::fs,B=>Nat.dvd_trans (Nat.dvd_mul_right _ _) (PJ fs _)
theorem MG:∀{fs:List Fr} {B:Nat} {f:Fr},f∈fs->f.b∣Vk B fs
 |g::fs,B,f,h=>by
   rcases Xg.mp h with rfl|h
   ·exact Nat.dvd_trans (ZjQ B f.b) (PJ fs _)
   ·exact MG (fs:=fs) h
theorem MK:∀{fs:List Fr} {B:Nat},0<B->(∀f∈fs,0<f.b)->0<Vk B fs
 |[],_,h,_=>h
 |f::fs,B,h,hf=>MK (fs:=fs) (Nat.mul_pos h (Nat.div_pos (Nat.le_of_dvd (hf f Xc) (DO _ _)) (Nat.gcd_pos_of_pos_left _ h))) (fun g hg=>hf g (Xf _ hg))
theorem Kh {e:Nat}:∀{fs:List Fr} {B c:Nat},B<=2^c->(∀f∈fs,f.b<=2^e)->Vk B fs<=2^(c+e*fs.length)
 |[],_,_,h,_=>h
 |f::fs,B,c,h,hf=>by
   have h1:B*(f.b/Nat.gcd B f.b)<=2^(c+e):=by
    rw[Nat.pow_add];exact Nat.mul_le_mul h (XI (Nat.div_le_self _ _) (hf f Xc))
   have h2:=Kh (fs:=fs) h1 (fun g hg=>hf g (Xf _ hg));rw[A5,XX,Nat.mul_add,Nat.mul_one,Nat.add_comm (e*fs.length),<- Nat.add_assoc];exact h2
def EI {fs:List Fr}{i:Nat}{f:Fr}(h:fs[i]?=some f):Vk 1 (fs.take (i+1))=Vk 1 (fs.take i)*(f.b/Nat.gcd (Vk 1 (fs.take i)) f.b):=by
 have e:fs.take (i+1)=fs.take i++[f]:=by rw[WB,h];rfl
 rw[e];unfold Vk;rw[List.foldl_append];rfl
def T8 {fs:List Fr}(h:∀f∈fs,f.b<=2^970)(hl:fs.length<=16):Vk 1 fs<=2^15600 :=
 XI (Kh (c:=0) (by decide) h) (UZ (by decide) (by omega))
inductive R_gdiv:List OT->OT->Prop
 |mk {a b:Nat}:R_gdiv [.fz (.int (a:Int)),.fz (.int (b:Int))] (.fz (.int ((Nat.gcd a b:Nat):Int)))
def DL:Qq ["one","other","rest"] ZaD (Q8 NT):=by walk_at"p"
def F9 (T:Bl mg) (D:Df K mg "greatest_divisor" NT ZaD):Qy P w K mg base "greatest_divisor" ZaD 1 (QC (K:=K) R_gdiv):=by
 refine D.ev DL (fun ts r h=>by cases h;rfl) (fun _ _ _ _ s H E ts r hr h=>?_)
 cases h with
 |@mk a b =>
   refine⟨_,(Qx (J4 PassesOwn.never (ZX RD (pv 1) Qw (ZN _)) (Qx (QQ (i:=2) DL.nd rfl Qa (QF Vb (pv 0) (pv 1)))
 (Qx (QQ (i:=0) DL.nd rfl Qa (pv 1))
 (QA (QQ (i:=1) DL.nd rfl Qa (pv 2))))))
 (QA (QT (pv 0)))),?_⟩
   show Q9 K _ [some _,some _,none] _
   walk_at"x"
   refine Wl (fun ρ'=>∃u:Option OT,ρ'=[some (.fz (.int ((Nat.gcd a b:Nat):Int))),some (.fz (.int 0)),u]) (J6 (fun m ρ'=>∃(x y:Nat) (u:Option OT),y=m/\Nat.gcd x y=Nat.gcd a b/\ρ'=[some (.fz (.int (x:Int))),some (.fz (.int (y:Int))),u]) b ⟨a,b,none,rfl,rfl,rfl⟩ ?w) ?z
   case w =>
    rintro m _ ⟨x,y,u,rfl,hg,rfl⟩
    refine⟨_,by walk_at"et",fun c=>?_,fun c=>?_⟩
    ·have c:¬(y:Int)=0:=by simpa using c
     have y0:0<y:=by omega
     have y1:(0:Int)<(y:Int):=by omega
     walk_at"ss"
     exact⟨x%y,Nat.mod_lt _ y0,y,x%y,_,rfl,Ea hg,rfl⟩
    ·have c:(y:Int)=0:=by simpa using c
     have y0:y=0:=by omega
     subst y0;rw[Nat.gcd_zero_right]at hg;rw[hg];exact⟨u,rfl⟩
   case z =>
    rintro _ ⟨u,rfl⟩
    walk_at"ret"
    rfl
inductive R_cbot:List OT->OT->Prop
 |mk {fs:List Fr} (h:∀f∈fs,0<f.b/\f.b<=2^970) (hl:fs.length<=16):R_cbot [.fz (.list (fs.map QU))] (.fz (.int (Vk 1 fs:Int)))
def DE:Qq ["parts","bottom","part"] ["parts"] (Q8 NI):=by walk_at"p"
def Cw (T:Bl mg) (D:Df K mg "common_bottom" NI ["parts"]) (XbI:Qy P w K mg base "greatest_divisor" ZaD 1 (QC (K:=K) R_gdiv)):Qy P w K mg base "common_bottom" ["parts"] 2 (QC (K:=K) R_cbot):=by
 refine D.ev DE (fun ts r h=>by cases h;rfl) (fun _ _ _ _ s H E ts r hr h=>?_)
 cases h with
 |@mk fs h hl =>
   refine⟨_,(Qx (QQ (i:=1) DE.nd rfl Qa Qw)
 (Qx (ZC PassesOwn.never rfl (Vq (pv 0)) (QP (i:=2) DE.nd rfl Qa) (QA (LZ (i:=1) DE.nd rfl Qa (QF Vl (QJ QK (pv 2) Qw) (QH XbI hr (Qo (pv 1) (Qo (QJ QK (pv 2) Qw) Qr)))) Ce)))
 (QA (QT (pv 1))))),?_⟩
   show Q9 K _ [some _,none,none] _
   walk_at"x"
   refine QG (Zw (d:=.int 1) QX ?_)
   walk_at"d"
   refine QG (YU (ds:=fs.map QU) (fun i=>[some (.fz (.list (fs.map QU))),some (.fz (.int (Vk 1 (fs.take i):Int))),none]) ?ei ⟨rfl,rfl,trivial⟩ ?st ?fin)
   case ei=>exact Vv (Qp rfl)
   case st =>
    intro i d hd;have hi:i<fs.length:=by
     have:=(Xe.mp hd).1
     simpa using this
    obtain rfl:d=QU fs[i]:=by simpa [hi] using hd.symm
    have hm:=h fs[i] (Xy hi);have hp:Vk 1 (fs.take i)<=2^15600:=T8 (fun f hf=>(h f (List.mem_of_mem_take hf)).2) (by rw[DN];omega);have hp0:0<Vk 1 (fs.take i):=MK (by decide) (fun f hf=>(h f (List.mem_of_mem_take hf)).1);have et:=EI (XM hi);rw[et];generalize Vk 1 (fs.take i)=B at hp hp0;refine⟨_,by walk_at"g",?_⟩
    walk_at"d"
    have g0:0<Nat.gcd B fs[i].b:=Nat.gcd_pos_of_pos_left _ hp0;have g1:Nat.gcd B fs[i].b<=2^970:=XI (Nat.le_of_dvd hm.1 (DO _ _)) hm.2
    have cb:W5 (fs[i].b:Int) ((Nat.gcd B fs[i].b:Nat):Int):=⟨by omega,by
     have:((Nat.gcd B fs[i].b:Nat):Int)<=((2^970:Nat):Int):=Jh.mpr g1
     exact XY this (by decide +kernel)⟩
    have qb:fs[i].b/Nat.gcd B fs[i].b<=2^970:=XI (Nat.div_le_self _ _) hm.2;refine Ak (m:=(B:Int)) (n:=((fs[i].b/Nat.gcd B fs[i].b:Nat):Int)) rfl (Qs.cast (Zs (ZB (ds:=[.int (fs[i].t:Int),.int (fs[i].b:Int)]) (Qp rfl) QX rfl) (Zk (Qt (Qp rfl) (Qt (ZB (ds:=[.int (fs[i].t:Int),.int (fs[i].b:Int)]) (Qp rfl) QX rfl) QD)) R_gdiv.mk) cb) rfl) (Sa (ltG hp) (ltG (leG qb))) ?_
    walk_at"d"
    refine⟨rfl,?_,trivial⟩;rw[WC]
   case fin =>
    intro ρ' hf;refine VW hf ?_;rw[Xh,WE];exact ZD (Qp rfl) rfl
def V5 (B:Nat)(f:Fr):Int:=(phi B f:Int)
inductive R_tops:List OT->OT->Prop
 |mk {fs:List Fr} {B:Nat} (h:∀f∈fs,FrG f) (hd:∀f∈fs,f.b∣B) (hB:0<B) (h2:B<=2^15600) (hl:fs.length<=8):R_tops [.fz (.list (fs.map QU)),.fz (.int (B:Int))] (.ol (((Wd fs).map (V5 B)).map PyData.int))
def Zj4:Qq ZaM ZaM (Q8 DA):=by walk_at"p"
def Ao (T:Bl mg) (D:Df K mg "tops_over" DA ZaM):Qy P w K mg base "tops_over" ZaM 1 (QC (K:=K) R_tops):=by
 refine D.ev Zj4 (fun ts r h=>by cases h;rfl) (fun _ _ _ _ s H E ts r hr h=>?_)
 cases h with
 |@mk fs B h hd hB h2 hl =>
   refine⟨_,(QA (QT (Z2 Ig (by rfl) T.sorted Ic (Qo (Yf (NX:=ZaM) (sc:=Q8 DA) (N:=["part","bottom"]) (f:=[none,some 1]) rfl (by decide +kernel) rfl rfl (Vq (pv 0)) (fun _=>(QP (i:=0) (show(["part","bottom"]:Qh).Nodup by decide +kernel) rfl Qa)) (fun _=>Z5) (fun _=>ZT) (fun _=>(QF YA (QJ QK (pv 0) Qw) (QF Vl (pv 1) (QJ QK (pv 0) Qw))))) Qr)))),?_⟩;show Q9 K _ [some _,some _] _
   walk_at"x"
   refine YM (IE (ns:=fs.map (V5 B)) (ms:=(Wd fs).map (V5 B)) (Qs.cast (EvO.fz (VA (xs:=fs) (enc:=QU) (h:=fun f=>.int (V5 B f)) ?ei (by omega) ?el)) (by rw[Xw];rfl)) ((BA fs).map _) ?so (by rw[Xh];omega)) rfl
   case ei=>exact Vv (Qp rfl)
   case so =>
    rw[List.pairwise_map];exact(OD hB fun g hg=>⟨hd g hg,(h g hg).ok.1⟩).imp fun{a b} z=>Jh.mpr z
   case el =>
    intro x hx c;have hm:=h x hx;have b0:=hm.ok.1;refine⟨_,by walk_at"g",?_⟩
    walk_at"e"
    have cb:W5 (B:Int) (x.b:Int):=⟨by omega,by
     have:(x.b:Int)<=((2^970:Nat):Int):=Jh.mpr hm.b
     exact XY this (by decide +kernel)⟩
    have q:B/x.b<=2^15600:=XI (Nat.div_le_self _ _) h2;have mk:=Sa (a:=x.t) (b:=B/x.b) (ltG (leG (X9 hm.t))) (ltG q);exact Qs.cast (Zs (ZB (ds:=[.int (x.t:Int),.int (x.b:Int)]) (Qp rfl) QX rfl) (Qs.cast (d':=.int ((B/x.b:Nat):Int)) (Zs (Qp rfl) (ZB (ds:=[.int (x.t:Int),.int (x.b:Int)]) (Qp rfl) QX rfl) cb) rfl) mk) (by unfold V5 phi;rw[WC])
theorem SK {B:Nat}(hB:0<B):∀{as bs:List Fr},(∀f∈as,f.Ok/\f.b∣B)->(∀f∈bs,f.Ok/\f.b∣B)->W6 (as.map (V5 B)) (bs.map (V5 B))=Bd as bs
 |[],[],_,_=>rfl
 |[],_::_,_,_=>rfl
 |_::_,[],_,_=>rfl
 |f::as,g::bs,ha,hb=>by
   obtain⟨k1,k2⟩:=Ej hB (ha f Xc).1 (hb g Xc).1 (ha f Xc).2 (hb g Xc).2;have k1:V5 B f=V5 B g↔f=g:=k1;have k2:V5 B g<V5 B f↔g.t*f.b<f.t*g.b:=k2;have ih:=SK hB (as:=as) (bs:=bs) (fun f hf=>ha f (Xf _ hf)) (fun f hf=>hb f (Xf _ hf))
   show(if V5 B f=V5 B g then W6 (as.map (V5 B)) (bs.map (V5 B)) else decide (V5 B g<V5 B f))=if f=g then Bd as bs else decide (g.t*f.b<f.t*g.b)
   by_cases e:f=g
   ·rw[Xb e,Xb (k1.mpr e),ih]
   ·rw[Xa e,Xa (fun z=>e (k1.mp z))]
    exact decide_eq_decide.mpr k2
inductive R_fairer:List OT->OT->Prop
 |mk {as bs:List Fr} (ha:∀f∈as,FrG f) (hb:∀f∈bs,FrG f) (hl:as.length=bs.length) (h8:as.length<=8):R_fairer [.fz (.list (as.map QU)),.fz (.list (bs.map QU))] (.fz (.bool (Bd (Wd as) (Wd bs))))
def Lc:Qq ["one","other","bottom"] ZaD (Q8 Nj):=by walk_at"p"
def ID (T:Bl mg) (D:Df K mg "is_fairer" Nj ZaD) (XbJ:Qy P w K mg base "common_bottom" ["parts"] 2 (QC (K:=K) R_cbot)) (XbQ:Qy P w K mg base "tops_over" ZaM 1 (QC (K:=K) R_tops)):Qy P w K mg base "is_fairer" ZaD 3 (QC (K:=K) R_fairer):=by
 refine D.ev Lc (fun ts r h=>by cases h;rfl) (fun _ _ _ _ s H E ts r hr h=>?_)
 cases h with
 |@mk as bs ha hb hl h8 =>
   have hu:=hr.units;refine⟨_,(Qx (QQ (i:=2) Lc.nd rfl Qa (QH XbJ hr (Qo (QF Kb (pv 0) (pv 1)) Qr)))
 (QA (QT (G9 (LR hu) (QH XbQ hr (Qo (pv 0) (Qo (pv 2) Qr))) (QH XbQ hr (Qo (pv 1) (Qo (pv 2) Qr))) (ZN _))))),?_⟩
   show Q9 K _ [some _,some _,none] _
   walk_at"x"
   have hab:∀f∈as++bs,FrG f:=fun f hf=>by
    rcases XC.mp hf with hf|hf
    ·exact ha f hf
    ·exact hb f hf
   have l16:(as++bs).length<=16:=by rw[Xv];omega
   refine QG (Zw (Zk (Qt (Qs.cast (d':=.list ((as++bs).map QU)) (EvO.fz (Mq (as:=as.map QU) (bs:=bs.map QU) (Qp rfl) (Qp rfl) (by simp;omega))) (by rw[XE])) QD) (R_cbot.mk (fun f hf=>⟨(hab f hf).ok.1,(hab f hf).b⟩) l16)) ?_)
   walk_at"d"
   have hB:0<Vk 1 (as++bs):=MK (by decide) fun f hf=>(hab f hf).ok.1;have h2:=T8 (fun f hf=>(hab f hf).b) l16;have da:∀f∈as,f.b∣Vk 1 (as++bs):=fun f hf=>MG (JF _ hf);have db:∀f∈bs,f.b∣Vk 1 (as++bs):=fun f hf=>MG (XJ _ hf);generalize Vk 1 (as++bs)=B at hB h2 da db;refine ZD (LV (ns:=(Wd as).map (V5 B)) (ms:=(Wd bs).map (V5 B)) (Ug (Qt (Qp rfl) (Qt (Qp rfl) QD)) (R_tops.mk ha da hB h2 h8)) (Ug (Qt (Qp rfl) (Qt (Qp rfl) QD)) (R_tops.mk hb db hB h2 (by omega))) (by rw[Xh,Xh,(BA as).length_eq,(BA bs).length_eq,hl])) ?_;rw[SK hB (fun f hf=>have m:=(BA as).mem_iff.mp hf;⟨(ha f m).ok,da f m⟩) (fun f hf=>have m:=(BA bs).mem_iff.mp hf;⟨(hb f m).ok,db f m⟩)]
def frT (t:Int)(b:Nat):Int:=t/((Nat.gcd t.natAbs b:Nat):Int)
def frB (t:Int)(b:Nat):Nat:=b/Nat.gcd t.natAbs b
def K8 (t:Int){b:Nat}(h0:0<b):∃g:Nat,0<g/\g<=b/\Nat.gcd t.natAbs b=g/\t=(g:Int)*frT t b/\b=g*frB t b/\0<frB t b/\Nat.gcd (frT t b).natAbs (frB t b)=1:=by
 have hg:0<Nat.gcd t.natAbs b:=Nat.gcd_pos_of_pos_right _ h0;have d1:Nat.gcd t.natAbs b∣t.natAbs:=Nat.gcd_dvd_left _ _;have d2:Nat.gcd t.natAbs b∣b:=DO _ _;have d3:((Nat.gcd t.natAbs b:Nat):Int)∣t:=Int.ofNat_dvd_left.mpr d1;have e1:((Nat.gcd t.natAbs b:Nat):Int)*frT t b=t:=Int.mul_ediv_cancel' d3;have e2:Nat.gcd t.natAbs b*frB t b=b:=Nat.mul_div_cancel' d2
 have e3:t.natAbs=Nat.gcd t.natAbs b*(frT t b).natAbs:=by
  have:=XW Int.natAbs e1
  rw[Int.natAbs_mul,Int.natAbs_natCast]at this;exact this.symm
 have p0:0<frB t b:=Nat.pos_of_ne_zero fun z=>by rw[z,Nat.mul_zero]at e2;omega
 refine⟨Nat.gcd t.natAbs b,hg,Nat.le_of_dvd h0 d2,rfl,e1.symm,e2.symm,p0,?_⟩;have e4:Nat.gcd (Nat.gcd t.natAbs b*(frT t b).natAbs) (Nat.gcd t.natAbs b*frB t b)=Nat.gcd t.natAbs b:=by rw[<- e3,e2]
 rw[Nat.gcd_mul_left]at e4;exact Nat.eq_of_mul_eq_mul_left hg (by rw[Nat.mul_one];exact e4)
def ZkS (t:Int):ZgG t=((t.natAbs:Nat):Int):=by
 unfold ZgG;split<;>omega
inductive R_frac:List OT->OT->Prop
 |mk {t:Int} {b:Nat} (h0:0<b) (h1:(b:Int)<2^8000):R_frac [.fz (.int t),.fz (.int (b:Int))] (.fz (.tuple [.int (frT t b),.int (frB t b:Int)]))
def Lg:Qq ["top","bottom","divisor"] ZaT (Q8 Nw):=by walk_at"p"
def Cm (T:Bl mg) (D:Df K mg "fraction" Nw ZaT) (XbI:Qy P w K mg base "greatest_divisor" ZaD 1 (QC (K:=K) R_gdiv)):Qy P w K mg base "fraction" ZaT 2 (QC (K:=K) R_frac):=by
 refine D.ev Lg (fun ts r h=>by cases h;rfl) (fun _ _ _ _ s H E ts r hr h=>?_)
 cases h with
 |@mk t b h0 h1 =>
   refine⟨_,(Qx (QQ (i:=2) Lg.nd rfl Qa (QH XbI hr (Qo (Z2 M7 (by rfl) T.abs M3 (Qo (pv 0) Qr)) (Qo (pv 1) Qr))))
 (QA (QT (Va (Qo (QF Vl (pv 0) (pv 2)) (Qo (QF Vl (pv 1) (pv 2)) Qr)))))),?_⟩
   show Q9 K _ [some _,some _,none] _
   walk_at"x"
   obtain⟨g,g1,g2,e,_⟩:=K8 t h0;have e0:PyData.int (ZgG t)=PyData.int ((t.natAbs:Nat):Int):=by rw[ZkS]
   refine QG (Zw (Zk (Qt (Qs.cast (d:=.int (ZgG t)) (by walk_at"ev") e0) (Qt (by walk_at"ev") QD)) R_gdiv.mk) ?_)
   walk_at"d"
   have c1:W5 t ((Nat.gcd t.natAbs b:Nat):Int):=⟨by omega,by omega⟩;have c2:W5 (b:Int) ((Nat.gcd t.natAbs b:Nat):Int):=⟨by omega,by omega⟩;refine ZD (Wi (Z1 (Zs (Qp rfl) (Qp rfl) c1) (Z1 (Zs (Qp rfl) (Qp rfl) c2) Vf)) U1) ?_
   rfl
def Ze (y:Yd)(gs:List Gs)(S:Qm):Int:=Yn y gs (ZA gs S)
def Qz (gs:List Gs)(k:Nat):Int:=(gs.getD k default).want
def QE (sm:Qk):Qm:=fun k=>decide (k∈sm)
def T3 {gs:List Gs}{S U:Qm}(h:∀k,k<gs.length->S k=U k):ZA gs S=ZA gs U:=List.filter_congr fun k hk=>h k (Xn.mp hk)
theorem Fs {y:Yd}{gs:List Gs}(ok:y.Ok)(hg:∀g∈gs,g.Ok y):Giv gs.length (Qz gs) (Ze y gs) where
 w1 k hk:=by
  show 1<=(gs.getD k default).want;rw[Yp hk];exact(hg _ (Xy hk)).w1
 g0 S hS:=by
  unfold Ze;have e:ZA gs S=[]:=List.filter_eq_nil_iff.mpr fun k hk=>by rw[hS k (Xn.mp hk)];decide
  rw[e];exact Ll ok gs
 nn S:=by
  have e:Yn y gs []=0:=Ll ok gs;unfold Ze;rw[<- e];unfold Yn;rw[VY,VY];refine VC fun t _=>Zle (fun _=>UY _) (fun l=>?_) 0
  show(0:Int)<=Z7 gs (t:Int) l ((List.range gs.length).filter S)
  rw[KU];refine MJ fun k hk=>?_
  split
  ·unfold wgt
   cases e:gs[k]? with
   |none=>simp
   |some g =>
     have:=(hg g (List.mem_of_getElem? e)).m1
     dsimp only;split<;>omega
  ·exact UY _
 ext S U h:=by
  unfold Ze;rw[T3 h]
 sub S U:=by
  unfold Ze Yn;rw[VY,VY,VY,VY,<- Jd,<- Jd];exact VC fun t _=>ZkO (y:=y) (c:=fun k=>Zi y k t) (EO (gs:=gs) (fun g h=>(hg g h).m1) (t:Int) S U gs.length)
def O5 (gs:List Gs)(t:Int)(l:Nat){a b:Qk}(h:a.Perm b):Z7 gs t l a=Z7 gs t l b:=by
 induction h with
 |nil=>rfl
 |cons x _ ih=>simp only[Z7,ih]
 |swap x z r=>simp only[Z7];omega
 |trans _ _ h1 h2=>rw[h1,h2]
def Ab (f:Qn){a b:Qk}(h:a.Perm b):(a.map f).sum=(b.map f).sum:=by
 induction h with
 |nil=>rfl
 |cons x _ ih=>simp only[Xs,Gb,ih]
 |swap x z r=>simp only[Xs,Gb];omega
 |trans _ _ h1 h2=>rw[h1,h2]
structure NdS (gs:List Gs)(sm:Qk):Prop where
 mem:∀k∈sm,k<gs.length
 nd:sm.Nodup
def NdS.perm {gs:List Gs}{sm:Qk}(h:NdS gs sm):sm.Perm (ZA gs (QE sm)):=by
 refine(List.perm_ext_iff_of_nodup h.nd (DM.filter _)).mpr fun k=>?_;rw[Y4,Xn];unfold QE;rw[decide_eq_true_eq];exact⟨fun z=>⟨h.mem k z,z⟩,fun z=>z.2⟩
def NdS.ok {gs:List Gs}{sm:Qk}(h:NdS gs sm)(g8:gs.length<=8):SetOk gs sm:=⟨h.mem,by
 have:=h.perm.length_eq
 have h2:=(Pe g8 (QE sm)).len
 omega⟩
def NdS.given {y:Yd}{gs:List Gs}{sm:Qk}(h:NdS gs sm):Yn y gs sm=Ze y gs (QE sm):=by
 unfold Ze Yn;congr 1;refine XQ fun t _=>?_;unfold WV;rw[show WQ gs t sm=WQ gs t (ZA gs (QE sm)) from funext fun l=>O5 gs (t:Int) l h.perm]
def NdS.wants {gs:List Gs}{sm:Qk}(h:NdS gs sm):(sm.map (Qz gs)).sum=wS gs.length (Qz gs) (QE sm):=by
 rw[Ab (Qz gs) h.perm];exact Dw (Qz gs) (QE sm) gs.length
def Ld (a b:Qk)(k:Nat):QE (a++b) k=(QE a k||QE b k):=by
 unfold QE;by_cases h1:k∈a<;>by_cases h2:k∈b<;>simp[h1,h2]
def T9 {y:Yd}{gs:List Gs}(a b:Qk):Ze y gs (QE (a++b))=Ze y gs (fun k=>QE a k||QE b k):=by
 unfold Ze;rw[T3 fun k _=>Ld a b k]
def Vz (p q:Int)(g:Gs):Gs:=⟨g.line,g.first,g.last,g.want*p,g.most*q⟩
theorem Tg (gs:List Gs)(p q:Int)(t:Int)(l:Nat):∀sm:Qk,Z7 (gs.map (Vz p q)) t l sm=Z7 gs t l sm*q
 |[]=>by simp[Z7]
 |j::r=>by
   simp only[Z7];rw[Tg gs p q t l r,Int.add_mul];congr 1;rw[Xj];cases gs[j]? with
   |none=>simp
   |some g =>
     simp only[X7];by_cases h:g.line=l/\ZH g t=true
     ·rw[Xb (show(Vz p q g).line=l/\ZH (Vz p q g) t=true from h),Xb h]
      rfl
     ·rw[Xa (show ¬((Vz p q g).line=l/\ZH (Vz p q g) t=true) from h),Xa h]
      simp
def Zi8 {y:Yd}(gs:List Gs)(sm:Qk){p q:Int}(h:0<=q):Yn (Zx y q) (gs.map (Vz p q)) sm=q*Yn y gs sm:=by
 rw[Yn,Yn,VY,VY,<- GG];refine Zq fun t _=>?_
 unfold WV WQ;have hu:∀j,QZ (Zx y q) j=QZ y j:=fun j=>by
  simp only[QZ,Zx,Xj];cases y.ls[j]?<;>rfl
 have hb:(fun j=>Zi (Zx y q) j t)=fun j=>Zi y j t*q:=by
  funext j
  simp only[Zi,Zx,Xj];cases y.ls[j]? with
  |none=>simp
  |some ln =>
    simp only[X7,Uu,Ub,List.getD,Xj];cases ln.bs[t]?<;>simp
 have ho:(fun l=>Z7 (gs.map (Vz p q)) (t:Int) l sm)=fun l=>Z7 gs (t:Int) l sm*q:=by
  funext l
  exact Tg gs p q t l sm
 rw[hb,ho,OO h hu (by simp[Zx]),XB]
def Ih (gs:List Gs)(p q:Int)(S:Qm):K0 (gs.map (Vz p q)) (ZA gs S)=p*wS gs.length (Qz gs) S:=by
 unfold K0;have e:((ZA gs S).map fun k=>((gs.map (Vz p q)).getD k default).want)=(ZA gs S).map fun k=>p*Qz gs k:=XQ fun k hk=>by
  have hk':k<gs.length:=Xn.mp (Y4.mp hk).1;unfold Qz;simp only[List.getD,Xj,XM hk',X7,Uu];exact XB _ _
 rw[e];unfold wS;rw[<- GG];have h:=Dw (fun k=>p*Qz gs k) S gs.length
 have h2:Qv (Zn S fun k=>p*Qz gs k) gs.length=Qv (fun k=>p*Zn S (Qz gs) k) gs.length:=Zq fun k _=>by
  unfold Zn;dsimp only;split
  ·rfl
  ·simp
 rw[<- h2];exact h
def T4 {gs gs':List Gs}(h:gs'.length=gs.length)(S:Qm):ZA gs' S=ZA gs S:=by
 unfold ZA;rw[h]
def FH {y:Yd}{gs:List Gs}{p q:Int}(hq:0<=q)(ok':(Zx y q).Ok)(hg':∀g∈gs.map (Vz p q),GOk (Zx y q) g){φ:Zc Nd}{es:Got Nd}(h:Kd (Zx y q) (Zh (gs.map (Vz p q))) φ es)(U:Qm) :
 p*wS gs.length (Qz gs) U-q*Ze y gs U<=p*wS gs.length (Qz gs) (ZE es)-q*Ze y gs (ZE es):=by
 have e:∀S,G0 (Zx y q) (Zh (gs.map (Vz p q))) S=p*wS gs.length (Qz gs) S-q*Ze y gs S:=fun S=>by
  rw[IX,T4 (gs:=gs) (gs':=gs.map (Vz p q)) (by simp) S,Ih,Zi8 gs _ hq]
  rfl
 rw[<- e,<- e];have h1:=Ir h.1 ok' (Sg hg') U;have h2:Hr (Zx y q) (Zh (gs.map (Vz p q))) φ=G0 (Zx y q) (Zh (gs.map (Vz p q))) (ZE es):=h.1.lack ok' (Sg hg') h.2.2.1 h.2.1 h.2.2.2;omega
structure Sml (y:Yd)(gs:List Gs):Prop where
 ok:y.Ok
 hg:∀g∈gs,g.Ok y
 g8:gs.length<=8
 b30:∀l∈y.ls,∀b∈l.bs,b<10^30
 w30:∀g∈gs,g.want<10^30/\g.most<10^30
def Sml.giv {y:Yd}{gs:List Gs}(h:Sml y gs):Giv gs.length (Qz gs) (Ze y gs):=Fs h.ok h.hg
inductive R_wwant:List OT->OT->Prop
 |mk {g:Gs} {n:Int}:R_wwant [.fz (QB g),.fz (.int n)] (.fz (QB ⟨g.line,g.first,g.last,n,g.most⟩))
def Zkd:Qq ZaI ZaI (Q8 NB):=by walk_at"p"
def Eb (T:Bl mg) (D:Df K mg "with_want" NB ZaI):Qy P w K mg base "with_want" ZaI 1 (QC (K:=K) R_wwant):=by
 refine D.ev Zkd (fun ts r h=>by cases h;rfl) (fun _ _ _ _ s H E ts r hr h=>?_)
 cases h with
 |@mk g n =>
   refine⟨_,(QA (QT (Va (Qo (QJ QK (pv 0) Qw) (Qo (QJ QK (pv 0) Qw) (Qo (QJ QK (pv 0) Qw) (Qo (pv 1) (Qo (QJ QK (pv 0) Qw) Qr)))))))),?_⟩;show Q9 K _ [some _,some _] _
   walk_at"x"
   have ix:∀{ρ:QL} {k:Int} {d:PyData},ρ[0]?=some (some (.fz (QB g)))->atI [.int (g.line:Int),.int (g.first:Int),.int (g.last:Int),.int g.want,.int g.most] k=some d->Qs K (tOp (rIx K) (Za 0) (tC (.int k))) ρ d:=fun e h=>ZB (ds:=[.int (g.line:Int),.int (g.first:Int),.int (g.last:Int),.int g.want,.int g.most]) (Qp e) QX h;exact ZD (Wi (Z1 (ix rfl rfl) (Z1 (ix rfl rfl) (Z1 (ix rfl rfl) (Z1 (Qp rfl) (Z1 (ix rfl rfl) Vf))))) (by show(5:Nat)<=1000;decide)) rfl
def YH (gs:List Gs)(tf:Nat->Fr)(k:Int):List Gs:=(List.range gs.length).map fun i=>⟨(gs.getD i default).line,(gs.getD i default).first,(gs.getD i default).last,((tf i).t:Int)*k/((tf i).b:Int),(gs.getD i default).most*k⟩
def RV (gs:List Gs)(f:Gs->PyData)(g:Nat->PyData):VH (gs.map f) ((List.range gs.length).map g)=(List.range gs.length).map fun i=>.tuple [f (gs.getD i default),g i]:=by
 unfold VH;refine BT (by simp) fun i h1 h2=>?_;have hi:i<gs.length:=by simpa using h2
 simp[List.getD,hi]
inductive R_asking:List OT->OT->Prop
 |mk {gs:List Gs} {p q:Int} (q1:1<=q) (q2:q<10^100) (p0:0<=p) (p2:p<10^100) (hw:∀g∈gs,(0<=g.want/\g.want<10^100)/\0<=g.most/\g.most<10^100) (g8:gs.length<=8) :
  R_asking [.fz (.list (gs.map QB)),.fz (.list (gs.map fun g=>.tuple [.int (g.want*p),.int q])),.fz (.int q)] (.ol ((gs.map (Vz p q)).map QB))
 |mkF {gs:List Gs} {tf:Nat->Fr} {k:Int} (k1:1<=k) (k2:k<10^260) (ht:∀i,i<gs.length->0<(tf i).b/\(tf i).b<=2^103/\(tf i).t<2^210) (hw:∀g∈gs,(0<=g.want/\g.want<10^30)/\0<=g.most/\g.most<10^30) (g8:gs.length<=8) :
  R_asking [.fz (.list (gs.map QB)),.fz (.list ((List.range gs.length).map fun i=>QU (tf i))),.fz (.int k)] (.ol ((YH gs tf k).map QB))
def RT {a b:Int}(h0:0<=a)(h1:a<10^100)(h2:0<=b)(h3:b<10^100):0<=a*b/\a*b<10^200:=by
 refine⟨X0 h0 h2,?_⟩;have e1:a*b<=(10^100-1)*(10^100-1):=YF (by omega) (by omega) h2 (by decide +kernel);exact XY e1 (by decide +kernel)
def J0 {a:Int}(h:a<10^100):a<10^300:=X5 h (by decide +kernel)
def Py {a:Int}(h:a<10^200):a<10^300:=X5 h (by decide +kernel)
def Ct (gs:List Gs)(p q:Int):VH ((gs.map fun g=>ZY g q).map QB) (gs.map fun g=>PyData.int (g.want*p))=gs.map fun g=>.tuple [QB (ZY g q),.int (g.want*p)]:=by
 unfold VH;rw[Xw];induction gs with
 |nil=>rfl
 |cons g gs ih =>
   simp only[Xs,List.zip_cons_cons];rw[ih];rfl
def To:Qq ZaZ ZaG (Q8 B5):=by walk_at"p"
def EZ (T:Bl mg) (D:Df K mg "asking" B5 ZaG) (XbK:Qy P w K mg base "guests_times" ZaW 2 (QC (K:=K) R_gsstimes)) (Xb8:Qy P w K mg base "with_want" ZaI 1 (QC (K:=K) R_wwant)):Qy P w K mg base "asking" ZaG 3 (QC (K:=K) R_asking):=by
 refine D.ev To (fun ts r h=>by cases h<;>rfl) (fun _ _ _ _ s H E ts r hr h=>?_);refine⟨_,(Qx (Y1 (i:=3) To.nd rfl rfl (NX:=ZaZ) (sc:=Q8 B5) (N:=["total","k"]) (f:=[none,some 2]) rfl (by decide +kernel) rfl rfl (Vq (pv 1)) (fun _=>(QP (i:=0) (show(["total","k"]:Qh).Nodup by decide +kernel) rfl Qa)) (fun _=>Z5) (fun _=>ZT) (fun _=>(QF Vl (QF YA (QJ QK (pv 0) Qw) (pv 1)) (QJ QK (pv 0) Qw))) rfl)
 (QA (QT (Yf (NX:=ZaZ) (sc:=Q8 B5) (N:=ZaI) (f:=[none,none]) rfl (by decide +kernel) rfl rfl (UD rfl T.zip (Qo (QH XbK hr (Qo (pv 0) (Qo (pv 2) Qr))) (Qo (pv 3) Qr))) (fun _=>(Vs (n:=2) rfl (Zo (QP (i:=0) (show(ZaI:Qh).Nodup by decide +kernel) rfl Qa) (Zo (QP (i:=1) (show(ZaI:Qh).Nodup by decide +kernel) rfl Qa) Vp)))) (fun _=>(Bp (n:=2) (Jb Z5 (Jb Z5 Bx)))) (fun _=>ZT) (fun _=>(QH Xb8 hr (Qo (pv 0) (Qo (pv 1) Qr)))))))),?_⟩
 cases h with
 |@mk gs p q q1 q2 p0 p2 hw g8 =>
   show Q9 K _ [some _,some _,some _,none] _
   walk_at"x"
   refine QG (ZW (VA (xs:=gs) (enc:=fun g=>.tuple [.int (g.want*p),.int q]) (h:=fun g=>.int (g.want*p)) ?ei (by omega) ?el) ?_)
   case ei=>exact Vv (Qp rfl)
   case el =>
    intro g hg c;obtain⟨⟨w0,w1⟩,m0,m1⟩:=hw g hg;have m:=RT w0 w1 p0 p2;refine⟨_,Zj,?_⟩
    walk_at"e"
    have cd:W5 (g.want*p*q) q:=⟨by omega,X5 q2 (by decide +kernel)⟩;exact Qs.cast (Zs (Zs (ZB (ds:=[.int (g.want*p),.int q]) (Qp rfl) QX rfl) (Qp rfl) (VJ m.1 (Py m.2) (by omega) (J0 q2))) (ZB (ds:=[.int (g.want*p),.int q]) (Qp rfl) QX rfl) cd) (by rw[Int.mul_ediv_cancel _ (by omega)])
   walk_at"d"
   refine Yi 3 rfl ?_
   walk_at"d"
   refine YM (VA (xs:=gs) (enc:=fun g=>.tuple [QB (ZY g q),.int (g.want*p)]) (h:=fun g=>QB (Vz p q g)) ?ei2 (by omega) ?el2) (by rw[Xw];rfl)
   case ei2 =>
    refine EvI.cast (Jr (Qt (Ug (Qt (Qp rfl) (Qt (Qp rfl) QD)) (R_gsstimes.mk (k:=q) (fun g hg=>?_) g8)) (Qt (Qp rfl) QD))) (Ct gs p q);obtain⟨⟨w0,w1⟩,m0,m1⟩:=hw g hg
    exact⟨VJ w0 (J0 w1) (by omega) (J0 q2),VJ m0 (J0 m1) (by omega) (J0 q2)⟩
   case el2 =>
    intro g hg c;refine⟨_,Yv (ds:=[QB (ZY g q),.int (g.want*p)]) (Z8 Zj (Z8 Zj Y6)) rfl,?_⟩
    walk_at"e"
    exact Zk (Qt (Qp rfl) (Qt (Qp rfl) QD)) (R_wwant.mk (g:=ZY g q))
 |@mkF gs tf k k1 k2 ht hw g8 =>
   show Q9 K _ [some _,some _,some _,none] _
   walk_at"x"
   have p30:∀{a:Int},a<10^30->a<10^300:=fun h=>X5 h (by decide +kernel);have k300:k<10^300:=X5 k2 (by decide +kernel);refine QG (ZW (VA (xs:=List.range gs.length) (enc:=fun i=>QU (tf i)) (h:=fun i=>.int (((tf i).t:Int)*k/((tf i).b:Int))) ?ei (by simp;omega) ?el) ?_)
   case ei=>exact Vv (Qp rfl)
   case el =>
    intro i hi c;obtain⟨t1,t2,t3⟩:=ht i (Xn.mp hi);refine⟨_,Zj,?_⟩
    walk_at"e"
    have cd:W5 (((tf i).t:Int)*k) ((tf i).b:Int):=⟨by omega,by
     have:((tf i).b:Int)<=((2^103:Nat):Int):=Jh.mpr t2
     exact XY this (by decide +kernel)⟩
    have tt:((tf i).t:Int)<10^300:=by
     have:((tf i).t:Int)<((2^210:Nat):Int):=Wu.mpr t3
     exact X5 this (by decide +kernel)
    exact Zs (Zs (ZB (ds:=[.int ((tf i).t:Int),.int ((tf i).b:Int)]) (Qp rfl) QX rfl) (Qp rfl) (VJ (by omega) tt (by omega) k300)) (ZB (ds:=[.int ((tf i).t:Int),.int ((tf i).b:Int)]) (Qp rfl) QX rfl) cd
   walk_at"d"
   refine Yi 3 rfl ?_
   walk_at"d"
   refine YM (VA (xs:=List.range gs.length) (enc:=fun i=>.tuple [QB (ZY (gs.getD i default) k),.int (((tf i).t:Int)*k/((tf i).b:Int))]) (h:=fun i=>QB ⟨(gs.getD i default).line,(gs.getD i default).first,(gs.getD i default).last,((tf i).t:Int)*k/((tf i).b:Int),(gs.getD i default).most*k⟩) ?ei2 (by simp;omega) ?el2) (by unfold YH;rw[Xw];rfl)
   case ei2 =>
    refine EvI.cast (Jr (Qt (Ug (Qt (Qp rfl) (Qt (Qp rfl) QD)) (R_gsstimes.mk (k:=k) (fun g hg=>?_) g8)) (Qt (Qp rfl) QD))) ?ez
    ·obtain⟨⟨w0,w1⟩,m0,m1⟩:=hw g hg
     exact⟨VJ w0 (p30 w1) (by omega) k300,VJ m0 (p30 m1) (by omega) k300⟩
    case ez =>
     rw[Xw];exact RV gs (fun g=>QB (ZY g k)) _
   case el2 =>
    intro i hi c;refine⟨_,Yv (ds:=[QB (ZY (gs.getD i default) k),.int (((tf i).t:Int)*k/((tf i).b:Int))]) (Z8 Zj (Z8 Zj Y6)) rfl,?_⟩
    walk_at"e"
    exact Zk (Qt (Qp rfl) (Qt (Qp rfl) QD)) (R_wwant.mk (g:=ZY (gs.getD i default) k))
def shF (n m:Nat):Fr:=⟨(frT (n:Int) m).natAbs,frB (n:Int) m⟩
def Jw {n m:Nat}(h:0<m):(shF n m).Ok/\((shF n m).t:Int)=frT (n:Int) m/\((shF n m).t:Int)*(m:Int)=((shF n m).b:Int)*(n:Int)/\(shF n m).b<=m:=by
 obtain⟨g,g1,g2,e,et,eb,p0,cp⟩:=K8 (n:Int) h;have n0:0<=frT (n:Int) m:=BW (show(g:Int)*0<=(g:Int)*frT (n:Int) m by rw[Gg,<- et];omega) (by omega);have en:((shF n m).t:Int)=frT (n:Int) m:=Int.natAbs_of_nonneg n0;refine⟨⟨p0,cp⟩,en,?_,?_⟩
 ·rw[en]
  have eb':(m:Int)=(g:Int)*((shF n m).b:Int):=by
   show(m:Int)=(g:Int)*(frB (n:Int) m:Int)
   rw[<- WC,<- eb]
  rw[eb'];have e2:((shF n m).b:Int)*(n:Int)=((shF n m).b:Int)*((g:Int)*frT (n:Int) m):=by rw[<- et]
  rw[e2];generalize frT (n:Int) m=a;generalize ((shF n m).b:Int)=b;rw[<- Xt,XB a,XB b,Xt,XB a,<- Xt]
 ·show frB (n:Int) m<=m
  exact Nat.div_le_self _ _
def Z0 (y:Yd)(gs:List Gs)(A T:Qk):Int:=Ze y gs (fun k=>QE A k||QE T k)-Ze y gs (QE A)
def NdS.app {gs:List Gs}{A T:Qk}(hA:NdS gs A)(hT:NdS gs T)(hd:∀k∈T,k∉A):NdS gs (A++T):=⟨fun k hk=>by
 rcases XC.mp hk with h|h
 ·exact hA.mem k h
 ·exact hT.mem k h,GU.mpr ⟨hA.nd,hT.nd,fun a ha b hb e=>hd b hb (e▸ha)⟩⟩
def Sml.want {y:Yd}{gs:List Gs}(h:Sml y gs)(S:Qm):wS gs.length (Qz gs) S<=8*10^30:=by
 have h1:wS gs.length (Qz gs) S<=Qv (fun _=>10^30) gs.length:=VC fun k hk=>by
  have h2:=h.w30 (gs.getD k default) (by rw[Yp hk];exact Xy hk);have h3:=h.giv.w1 k hk;unfold Zn;split
  ·show(gs.getD k default).want<=_
   omega
  ·decide +kernel
 have h2:∀n:Nat,Qv (fun _=>(10:Int)^30) n=10^30*(n:Int):=fun n=>by
  induction n with
  |zero=>rfl
  |succ n ih =>
    simp only[Qv];rw[ih,Int.natCast_add,JH];omega
 rw[h2]at h1;have:=h.g8;omega
def Db {y:Yd}{gs:List Gs}(h:Sml y gs)(S:Qm):((wS gs.length (Qz gs) S).toNat:Int)=wS gs.length (Qz gs) S:=XR (h.giv.w0 S)
def F6 {y:Yd}{gs:List Gs}(h:Sml y gs){S:Qm}{n:Nat}(hp:1<=wS gs.length (Qz gs) S)(hn:(n:Int)<=wS gs.length (Qz gs) S):FrB (shF n (wS gs.length (Qz gs) S).toNat):=by
 have hm:0<(wS gs.length (Qz gs) S).toNat:=by omega
 obtain⟨a,b,c,d⟩:=Jw (n:=n) hm;have h8:=h.want S;have e103:(8*10^30:Nat)<2^103:=by decide +kernel
 have h8':(wS gs.length (Qz gs) S).toNat<=8*10^30:=by omega
 refine⟨a,?_,by omega⟩
 have:(shF n (wS gs.length (Qz gs) S).toNat).t<=(shF n (wS gs.length (Qz gs) S).toNat).b:=by
  rw[Db h]at c;have h3:((shF n (wS gs.length (Qz gs) S).toNat).b:Int)*(n:Int)<=((shF n (wS gs.length (Qz gs) S).toNat).b:Int)*wS gs.length (Qz gs) S:=XH hn (by omega);have h4:((shF n (wS gs.length (Qz gs) S).toNat).t:Int)*wS gs.length (Qz gs) S<=((shF n (wS gs.length (Qz gs) S).toNat).b:Int)*wS gs.length (Qz gs) S:=by omega
  have:=DT h4 (by omega)
  omega
 omega
inductive R_shleft:List OT->OT->Prop
 |mk {y:Yd} {gs:List Gs} {A T:Qk} (h:Sml y gs) (hA:NdS gs A) (hT:NdS gs T) (hd:∀k∈T,k∉A) (ne:T≠[]) (hl:0<=Z0 y gs A T) :
  R_shleft [.fz (QS y),.fz (.list (gs.map QB)),.fz (.list (QW A)),.fz (.list (QW T))] (.fz (QU (shF (Z0 y gs A T).toNat (wS gs.length (Qz gs) (QE T)).toNat)))
def NdS.pos {y:Yd}{gs:List Gs}(h:Sml y gs){T:Qk}(hT:NdS gs T)(ne:T≠[]):1<=wS gs.length (Qz gs) (QE T):=by
 obtain⟨k,hk⟩:=List.exists_mem_of_ne_nil T ne;exact h.giv.wp (hT.mem k hk) (by unfold QE;exact YZ hk)
def Dc (a b:Qk):QW (a++b)=QW a++QW b:=XE
def Lk:Qq ["yard","guests","ahead","some","left"] ZaA (Q8 Dy):=by walk_at"p"
def Ep (T:Bl mg) (D:Df K mg "share_left" Dy ZaA) (XbR:Qy P w K mg base "given_most" Zay 4 (QC (K:=K) R_givenm)) (XbC:Qy P w K mg base "fraction" ZaT 2 (QC (K:=K) R_frac)) (Xbq:Qy P w K mg base "want_of" Zat 1 (QC (K:=K) R_want)):Qy P w K mg base "share_left" ZaA 5 (QC (K:=K) R_shleft):=by
 refine D.ev Lk (fun ts r h=>by cases h;rfl) (fun _ _ _ _ s H E ts r hr h=>?_)
 cases h with
 |@mk y gs A T' h hA hT hd ne hl =>
   refine⟨_,(Qx (QQ (i:=4) Lk.nd rfl Qa (QF G3 (QH XbR hr (Qo (pv 0) (Qo (pv 1) (Qo (QF Kb (pv 2) (pv 3)) Qr)))) (QH XbR hr (Qo (pv 0) (Qo (pv 1) (Qo (pv 2) Qr))))))
 (QA (QT (QH XbC hr (Qo (pv 4) (Qo (Z2 UG (by rfl) T.sum UI (Qo (Yf (NX:=["yard","guests","ahead","some","left"]) (sc:=Q8 Dy) (N:=["number","guests"]) (f:=[none,some 1]) rfl (by decide +kernel) rfl rfl (Vq (pv 3)) (fun _=>(QP (i:=0) (show(["number","guests"]:Qh).Nodup by decide +kernel) rfl Qa)) (fun _=>Z5) (fun _=>ZT) (fun _=>(QH Xbq hr (Qo (QJ QK (pv 1) (pv 0)) Qr)))) Qr)) Qr)))))),?_⟩
   show Q9 K _ [some _,some _,some _,some _,none] _
   walk_at"x"
   have g8:=h.g8;have hAT:=hA.app hT hd;have lA:=(hA.ok g8).len;have lT:=(hT.ok g8).len;have lnA:(QW A).length=A.length:=by simp[QW]
   have lnT:(QW T').length=T'.length:=by simp[QW]
   have hp:=NdS.pos h hT ne;refine QG (Zw (d:=.int (Z0 y gs A T')) (Qs.cast (VV (Zk (Qt (Qp rfl) (Qt (Qp rfl) (Qt (Qs.cast (d':=.list (QW (A++T'))) (EvO.fz (Mq (Qp rfl) (Qp rfl) (by omega))) (by rw[Dc])) QD))) (R_givenm.mk h.ok h.hg (hAT.ok g8))) (Zk (Qt (Qp rfl) (Qt (Qp rfl) (Qt (Qp rfl) QD))) (R_givenm.mk h.ok h.hg (hA.ok g8)))) ?e1) ?_)
   case e1 =>
    rw[hAT.given,hA.given,T9];rfl
   walk_at"d"
   have eb:(T'.map (Qz gs)).sum=(((wS gs.length (Qz gs) (QE T')).toNat:Nat):Int):=by rw[hT.wants,Db h]
   have et:Z0 y gs A T'=(((Z0 y gs A T').toNat:Nat):Int):=(XR hl).symm;have h8:=h.want (QE T');refine ZD (Qs.cast (Zk (Qt (Qs.cast (Qp rfl) (XW PyData.int et)) (Qt (Qs.cast (JZ (ns:=T'.map (Qz gs)) (Qs.cast (EvO.fz (VA (xs:=T') (enc:=fun(k:Nat)=>PyData.int (k:Int)) (h:=fun k=>.int (Qz gs k)) ?ei (by omega) ?el)) (by rw[Xw];rfl)) rfl) (by rw[eb])) QD)) (R_frac.mk (t:=((Z0 y gs A T').toNat:Int)) (b:=(wS gs.length (Qz gs) (QE T')).toNat) (by omega) ?_)) ?eq) rfl
   case ei=>exact Vv (Qp rfl)
   case el =>
    intro k hk c;have hk':=hT.mem k hk;refine⟨_,Zj,?_⟩
    walk_at"e"
    have it:atI (gs.map QB) (k:Int)=some (QB (gs.getD k default)):=by rw[UM (f:=QB) (by omega) (by omega),Xl]
    exact Zk (Qt (Y7 (Qp rfl) (Qp rfl) it) QD) R_want.mk
   case eq =>
    show PyData.tuple [_,_]=_;unfold QU;rw[(Jw (n:=(Z0 y gs A T').toNat) (m:=(wS gs.length (Qz gs) (QE T')).toNat) (by omega)).2.1]
    rfl
   ·have:((wS gs.length (Qz gs) (QE T')).toNat:Int)<=8*10^30:=by omega
    exact XY this (by decide +kernel)
def Mo (y:Yd)(gs:List Gs)(A:Qk)(f:Fr)(T:Qk):Prop :=
 ∀U:Nat->Bool,(∀k,k<gs.length->U k=true->QE A k=false)->(f.t:Int)*wS gs.length (Qz gs) U-(f.b:Int)*(Ze y gs (fun k=>QE A k||U k)-Ze y gs (QE A))<=(f.t:Int)*wS gs.length (Qz gs) (QE T)-(f.b:Int)*Z0 y gs A T
inductive R_mshort:List OT->(OT->Prop)->Prop
 |mk {y:Yd} {gs:List Gs} {A:Qk} {f:Fr} (h:Sml y gs) (hA:NdS gs A) (hf:FrB f) (hl:Low gs.length (Qz gs) (Ze y gs) (QE A) f.t f.b) :
  R_mshort [.fz (QS y),.fz (.list (gs.map QB)),.fz (.list (QW A)),.fz (QU f)] (fun r=>∃T:Qk,NdS gs T/\(∀k∈T,k∉A)/\T.Pairwise (· < ·)/\Mo y gs A f T/\r=.ol (QW T))
def NL:Qq ZaC Zax (Q8 BM):=by walk_at"p"
def IG (T:Bl mg) (D:Df K mg "most_short" BM Zax) (Xbq:Qy P w K mg base "want_of" Zat 1 (QC (K:=K) R_want)) (Xb9:Qy P w K mg base "lacking_set" Zaa 6 (Zy K R_lset)) (XbD:Qy P w K mg base "yard_times" Zbb 2 (QC (K:=K) R_ydtimes)) (XbL:Qy P w K mg base "asking" ZaG 3 (QC (K:=K) R_asking)):Qy P w K mg base "most_short" Zax 7 (Zy K R_mshort):=by
 refine D.evD NL (fun ts Φ h=>by cases h;rfl) (fun _ _ _ _ s H E ts Φ hr h=>?_)
 cases h with
 |@mk y gs A f h hA hf hl =>
   refine⟨_,(Qx (Y1 (i:=4) NL.nd rfl rfl (NX:=ZaC) (sc:=Q8 BM) (N:=Zbd) (f:=[none,some 3]) rfl (by decide +kernel) rfl rfl (Vq (pv 1)) (fun _=>(QP (i:=0) (show(Zbd:Qh).Nodup by decide +kernel) rfl Qa)) (fun _=>Z5) (fun _=>ZT) (fun _=>(Va (Qo (QF YA (QH Xbq hr (Qo (pv 0) Qr)) (QJ QK (pv 1) Qw)) (Qo (QJ QK (pv 1) Qw) Qr)))) rfl)
 (Qx (QQ (i:=5) NL.nd rfl Qa (QH Xb9 hr (Qo (QH XbD hr (Qo (pv 0) (Qo (QJ QK (pv 3) Qw) Qr))) (Qo (QH XbL hr (Qo (pv 1) (Qo (pv 4) (Qo (QJ QK (pv 3) Qw) Qr)))) Qr))))
 (QA (QT (Yf (NX:=ZaC) (sc:=Q8 BM) (N:=Zbg) (f:=[none,some 2]) rfl (by decide +kernel) rfl rfl (Vq (pv 5)) (fun _=>(QP (i:=0) (show(Zbg:Qh).Nodup by decide +kernel) rfl Qa)) (fun _=>Z5) (fun _=>(Kq (ZX Lb (pv 0) (pv 1) rfl))) (fun _=>(pv 0))))))),?_⟩
   show Q9 K _ [some _,some _,some _,some _,none,none] _
   walk_at"x"
   have g8:=h.g8;have ok:=h.ok;have b1:=hf.ok.1;have e103:(2^103:Nat)<10^100:=by decide +kernel
   have f2:(f.b:Int)<10^100:=by
    have:=hf.b
    have:f.b<10^100:=by omega
    have e:(10:Int)^100=((10^100:Nat):Int):=by decide +kernel
    rw[e];exact Wu.mpr this
   have f1:(f.t:Int)<10^100:=by
    have:=hf.t
    have:f.t<10^100:=by omega
    have e:(10:Int)^100=((10^100:Nat):Int):=by decide +kernel
    rw[e];exact Wu.mpr this
   have p30:∀{a:Int},a<10^30->a<10^100:=fun h=>X5 h (by decide +kernel);have hw:∀g∈gs,(0<=g.want/\g.want<10^100)/\0<=g.most/\g.most<10^100:=fun g hg=>⟨⟨by have:=(h.hg g hg).w1;omega,p30 (h.w30 g hg).1⟩,by have:=(h.hg g hg).m1;omega,p30 (h.w30 g hg).2⟩;have ix:∀{ρ:QL} {i:Nat} {k:Int} {d:PyData},ρ[i]?=some (some (.fz (QU f)))->atI [.int (f.t:Int),.int (f.b:Int)] k=some d->Qs K (tOp (rIx K) (Za i) (tC (.int k))) ρ d:=fun e h=>ZB (ds:=[.int (f.t:Int),.int (f.b:Int)]) (Qp e) QX h;refine QG (ZW (VA (xs:=gs) (enc:=QB) (h:=fun g=>.tuple [.int (g.want*(f.t:Int)),.int (f.b:Int)]) ?ei (by omega) ?el) ?_)
   case ei=>exact Vv (Qp rfl)
   case el =>
    intro g hg c;obtain⟨⟨w0,w1⟩,m0,m1⟩:=hw g hg;refine⟨_,Zj,?_⟩
    walk_at"e"
    exact Wi (Z1 (Zs (Zk (Qt (Qp rfl) QD) R_want.mk) (ix rfl rfl) (VJ w0 (J0 w1) (by omega) (J0 f1))) (Z1 (ix rfl rfl) Vf)) U1
   walk_at"d"
   refine Yi 4 rfl ?_
   walk_at"d"
   have bb:∀l∈y.ls,∀b∈l.bs,0<=b/\b<10^100:=fun l hl b hb=>⟨(ok.bb l hl b hb).1,p30 (h.b30 l hl b hb)⟩;have ok':(Zx y (f.b:Int)).Ok:=Nn ok (by omega) fun l hl b hb=>Py (RT (bb l hl b hb).1 (bb l hl b hb).2 (by omega) f2).2
   have hg':∀g∈gs.map (Vz (f.t:Int) (f.b:Int)),GOk (Zx y (f.b:Int)) g:=fun g hg=>by
    obtain⟨g0,h0,rfl⟩:=XD.mp hg;obtain⟨⟨w0,w1⟩,m0,m1⟩:=hw g0 h0
    exact⟨by have:=(h.hg g0 h0).ln;simpa [Zx,Vz] using this,X0 w0 (by omega),X0 m0 (by omega)⟩
   refine QG (Wr (Yj (Qt (Zk (Qt (Qp rfl) (Qt (ix rfl rfl) QD)) (R_ydtimes.mk (fun l hl b hb=>VJ (bb l hl b hb).1 (J0 (bb l hl b hb).2) (by omega) (J0 f2)) (fun l hl=>by rw[ok.bl l hl];exact ok.t8) ok.l5)) (Qt (Ug (Qt (Qp rfl) (Qt (Qp rfl) (Qt (ix rfl rfl) QD))) (R_asking.mk (p:=(f.t:Int)) (q:=(f.b:Int)) (by omega) f2 (by omega) f1 hw g8)) QD)) (R_lset.mk ok' hg' (by simpa using g8))) (fun r hr'=>?_));obtain⟨φ,es,fb,rfl⟩:=hr'
   walk_at"d"
   refine Yi 5 rfl ?_
   walk_at"d"
   have esl:ZA (gs.map (Vz (f.t:Int) (f.b:Int))) (ZE es)=ZA gs (ZE es):=T4 (by simp) _;rw[esl];have sl:=(Pe g8 (ZE es)).len;have mx:=FH (by omega) ok' hg' fb;refine YM (r:=.ol (QW ((ZA gs (ZE es)).filter fun k => !decide (k∈A)))) (Mw (xs:=ZA gs (ZE es)) (enc:=fun(k:Nat)=>PyData.int (k:Int)) (h:=fun(k:Nat)=>PyData.int (k:Int)) (p:=fun k => !decide (k∈A)) ?ei2 (by omega) ?el2) ?fin
   case ei2=>exact Vv (Qp rfl)
   case el2 =>
    intro k hk c;refine⟨_,Zj,?_,fun _=>?_⟩
    ·walk_at"e"
     exact ZO (K2 (Qp rfl) (Qp rfl))
    ·walk_at"e"
     exact Qp rfl
   case fin =>
    have em:∀k,k<gs.length->QE ((ZA gs (ZE es)).filter fun k => !decide (k∈A)) k=(ZE es k && !QE A k):=fun k hk=>by
     unfold QE ZA;have:(k∈((List.range gs.length).filter (ZE es)).filter fun k => !decide (k∈A))↔(ZE es k=true/\¬k∈A):=by
      rw[Y4,Y4,Xn];simp[hk]
     rw[JC,decide_eq_true_eq,this];simp
    refine⟨(ZA gs (ZE es)).filter fun k => !decide (k∈A),⟨fun k hk=>Xn.mp (Y4.mp (Y4.mp hk).1).1,(DM.filter _).filter _⟩,fun k hk=>by have:=(Y4.mp hk).2;simpa using this,(List.pairwise_lt_range.filter _).filter _,?_,rfl⟩;intro U hU;have h1:=Of h.giv hl (by omega) mx U hU;have e1:wS gs.length (Qz gs) (QE ((ZA gs (ZE es)).filter fun k => !decide (k∈A)))=wS gs.length (Qz gs) (fun k=>ZE es k && !QE A k):=Kg em;have e2:Ze y gs (fun k=>QE A k||QE ((ZA gs (ZE es)).filter fun k => !decide (k∈A)) k)=Ze y gs (fun k=>QE A k||(ZE es k && !QE A k)):=h.giv.ext _ _ fun k hk=>by rw[em k hk]
    unfold Z0;rw[e1,e2];exact h1
def U7 (gs:List Gs)(A:Qk):Qk:=(List.range gs.length).filter fun k => !decide (k∈A)
def EA {gs:List Gs}{A:Qk}{k:Nat}(hk:k<gs.length)(c:k∉A):k∈U7 gs A:=Y4.mpr ⟨Xn.mpr hk,by simp[c]⟩
def Hj (y:Yd)(gs:List Gs)(A:Qk)(f:Fr)(T:Qk):Prop := ∀U:Nat->Bool,(∀k,k<gs.length->U k=true->QE A k=false/\QE T k=false)->1<=wS gs.length (Qz gs) U ->
 (f.t:Int)*wS gs.length (Qz gs) U<(f.b:Int)*(Ze y gs (fun k=>(QE A k||QE T k)||U k)-Ze y gs (fun k=>QE A k||QE T k))
def CO {y:Yd}{gs:List Gs}(h:Sml y gs){A L:Qk}{f f0:Fr}(fb:0<f.b)(f0b:0<f0.b)(lt:(f.t:Int)*(f0.b:Int)<(f0.t:Int)*(f.b:Int))(mo:Mo y gs A f0 L)(hd:∀k∈L,k∉A):Hj y gs A f L:=fun U hU hw=>by
 refine Int.lt_of_not_ge fun c=>?_
 have m1:=mo (fun k=>QE L k||U k) fun k hk e=>by
  rcases Bool.or_eq_true_iff.mp e with e|e
  ·exact XG (hd k (Xq e))
  ·exact(hU k hk e).1
 have e1:wS gs.length (Qz gs) (fun k=>QE L k||U k)=wS gs.length (Qz gs) (QE L)+wS gs.length (Qz gs) U:=Ju fun k hk=>by
  have:=hU k hk
  cases c1:QE L k<;>cases c2:U k<;>simp_all
 have e2:Ze y gs (fun k=>QE A k||(QE L k||U k))=Ze y gs (fun k=>(QE A k||QE L k)||U k):=h.giv.ext _ _ fun k _=>by rw[Bool.or_assoc]
 rw[e1,e2]at m1;unfold Z0 at m1;generalize wS gs.length (Qz gs) U=W at m1 c hw;generalize wS gs.length (Qz gs) (QE L)=V at m1;generalize Ze y gs (fun k=>(QE A k||QE L k)||U k)=X at m1 c;generalize Ze y gs (fun k=>QE A k||QE L k)=Z at m1 c
 generalize Ze y gs (QE A)=a at m1;have m2:(f0.t:Int)*W<=(f0.b:Int)*(X-Z):=by
  simp only[Ww,JH]at m1 ⊢;omega
 have h1:(f.b:Int)*((f0.t:Int)*W)<=(f.b:Int)*((f0.b:Int)*(X-Z)):=XH m2 (by omega);have h2:(f0.b:Int)*((f.b:Int)*(X-Z))<=(f0.b:Int)*((f.t:Int)*W):=XH c (by omega);have h3:(f.t:Int)*(f0.b:Int)*W<(f0.t:Int)*(f.b:Int)*W:=NV lt (by omega);have q1:(f.b:Int)*((f0.b:Int)*(X-Z))=(f0.b:Int)*((f.b:Int)*(X-Z)):=Int.mul_left_comm _ _ _;have q2:(f0.b:Int)*((f.t:Int)*W)=(f.t:Int)*(f0.b:Int)*W:=by rw[<- Xt,XB (f0.b:Int)]
 have q3:(f.b:Int)*((f0.t:Int)*W)=(f0.t:Int)*(f.b:Int)*W:=by rw[<- Xt,XB (f.b:Int)]
 omega
structure NextOk (y:Yd)(gs:List Gs)(A:Qk)(p q:Int)(f:Fr)(T:Qk):Prop where
 fr:FrB f
 le:f.t<=f.b
 low:p*(f.b:Int)<=(f.t:Int)*q
 up:Up gs.length (Qz gs) (Ze y gs) (QE A) f.t f.b
 nd:NdS gs T
 dis:∀k∈T,k∉A
 ne:T≠[]
 tight:f.t<f.b->(f.t:Int)*wS gs.length (Qz gs) (QE T)=(f.b:Int)*Z0 y gs A T
 all:f.t=f.b->T=U7 gs A
 grow:f.t<f.b->Hj y gs A f T
inductive R_nlevel:List OT->(OT->Prop)->Prop
 |mk {y:Yd} {gs:List Gs} {A:Qk} {p q:Int} (h:Sml y gs) (hA:NdS gs A) (p0:0<=p) (pq:p<=q) (q0:0<q) (hl:Low gs.length (Qz gs) (Ze y gs) (QE A) p q) (hu:Up gs.length (Qz gs) (Ze y gs) (QE A) p q) (hm:A.length<gs.length) :
  R_nlevel [.fz (QS y),.fz (.list (gs.map QB)),.fz (.list (QW A))] (fun r=>∃f T,NextOk y gs A p q f T/\r=.fz (.tuple [QU f,.list (QW T)]))
def FJ (a b:Fr):Bd (Wd [a]) (Wd [b])=decide (b.t*a.b<a.t*b.b):=by
 have e:∀x:Fr,Wd [x]=[x]:=fun x=>rfl;rw[e,e];show(if a=b then false else decide (b.t*a.b<a.t*b.b))=_
 by_cases c:a=b
 ·subst c
  rw[Xb rfl];exact(XG (by omega)).symm
 ·rw[Xa c]
def MS {y:Yd}{gs:List Gs}(h:Sml y gs){A T:Qk}{p q:Int}(p0:0<=p)(q0:0<q)(hu:Up gs.length (Qz gs) (Ze y gs) (QE A) p q)(hd:∀k∈T,k∉A):p*wS gs.length (Qz gs) (QE T)<=q*Z0 y gs A T/\0<=Z0 y gs A T:=by
 have h1:=hu (QE T) (fun k _ e=>XG (hd k (Xq e)));refine⟨h1,?_⟩;have h2:0<=p*wS gs.length (Qz gs) (QE T):=X0 p0 (h.giv.w0 _);refine BW (a:=q) ?_ q0;rw[Gg];show 0<=q*(Ze y gs (fun k=>QE A k||QE T k)-Ze y gs (QE A));omega
def TR {y:Yd}{gs:List Gs}(h:Sml y gs){A T:Qk}{p q:Int}{f:Fr}(p0:0<=p)(q0:0<q)(hu:Up gs.length (Qz gs) (Ze y gs) (QE A) p q)(hT:NdS gs T)(hd:∀k∈T,k∉A)(ne:T≠[])(f1:f.t<=f.b)(fb:0<f.b)
 (lt:(shF (Z0 y gs A T).toNat (wS gs.length (Qz gs) (QE T)).toNat).t*f.b<f.t*(shF (Z0 y gs A T).toNat (wS gs.length (Qz gs) (QE T)).toNat).b) :
 ∃n:Fr,n=shF (Z0 y gs A T).toNat (wS gs.length (Qz gs) (QE T)).toNat/\FrB n/\n.t<n.b/\p*(n.b:Int)<=(n.t:Int)*q/\(n.t:Int)*wS gs.length (Qz gs) (QE T)=(n.b:Int)*Z0 y gs A T/\(n.t:Int)*(f.b:Int)<(f.t:Int)*(n.b:Int)/\(f.b:Int)*Z0 y gs A T<(f.t:Int)*wS gs.length (Qz gs) (QE T):=by
 obtain⟨l1,l2⟩:=MS h p0 q0 hu hd;have hp:=NdS.pos h hT ne;have hm:0<(wS gs.length (Qz gs) (QE T)).toNat:=by omega
 obtain⟨a,b,c,d⟩:=Jw (n:=(Z0 y gs A T).toNat) hm;have eL:(((Z0 y gs A T).toNat:Nat):Int)=Z0 y gs A T:=XR l2;rw[Db h,eL]at c;have hfb:=fun hn=>F6 h (S:=QE T) (n:=(Z0 y gs A T).toNat) hp hn;generalize hn:shF (Z0 y gs A T).toNat (wS gs.length (Qz gs) (QE T)).toNat=n at a c d lt hfb;generalize hW:wS gs.length (Qz gs) (QE T)=W at c l1 hp hfb;generalize hL:Z0 y gs A T=L at c l1 l2 eL hfb;have b1:=a.1;have lt':(n.t:Int)*(f.b:Int)<(f.t:Int)*(n.b:Int):=by rw[<- WC,<- WC];exact Wu.mpr lt
 have tb:n.t<n.b:=by
  refine Nat.lt_of_not_le fun z=>?_;have h1:f.t*n.b<=n.t*f.b:=XI (GW _ f1) (by rw[JI];exact GW _ z);omega
 have s1:(f.b:Int)*L<(f.t:Int)*W:=by
  have h1:(n.t:Int)*(f.b:Int)*W<(f.t:Int)*(n.b:Int)*W:=NV lt' (by omega)
  have e1:(n.t:Int)*(f.b:Int)*W=(n.b:Int)*((f.b:Int)*L):=by
   rw[XB (n.t:Int),Xt,c,<- Xt,XB (f.b:Int),Xt]
  have e2:(f.t:Int)*(n.b:Int)*W=(n.b:Int)*((f.t:Int)*W):=by rw[XB (f.t:Int),Xt]
  rw[e1,e2]at h1;exact Int.lt_of_mul_lt_mul_left h1 (by omega)
 have LW:L<=W:=by
  have h2:(f.t:Int)*W<=(f.b:Int)*W:=X6 (by omega) (by omega);have h3:(f.b:Int)*L<(f.b:Int)*W:=by omega
  exact Int.le_of_lt (Int.lt_of_mul_lt_mul_left h3 (by omega))
 refine⟨n,hn.symm▸rfl,hfb (by rw[eL];exact LW),tb,?_,c,lt',s1⟩;have h1:(n.b:Int)*(p*W)<=(n.b:Int)*(q*L):=XH l1 (by omega);have e1:(n.b:Int)*(q*L)=q*((n.t:Int)*W):=by rw[c,<- Xt,XB (n.b:Int),Xt]
 rw[e1]at h1;have h2:p*(n.b:Int)*W<=(n.t:Int)*q*W:=by
  have e2:p*(n.b:Int)*W=(n.b:Int)*(p*W):=by rw[XB p,Xt]
  have e3:(n.t:Int)*q*W=q*((n.t:Int)*W):=by rw[XB (n.t:Int),Xt]
  omega
 exact DT h2 (by omega)
theorem RP:∀n:Nat,Qv (fun _=>(10:Int)^30) n=10^30*(n:Int)
 |0=>rfl
 |n+1=>by
   simp only[Qv];rw[RP n,Int.natCast_add,JH];omega
def Sml.gv8 {y:Yd}{gs:List Gs}(h:Sml y gs)(S:Qm):Ze y gs S<=8*10^30:=by
 have h1:Ze y gs S<=Qv (fun _=>(10:Int)^30) y.T:=by
  unfold Ze;rw[Yn,VY];refine VC fun t ht=>?_
  have hb:Zi y 0 t<10^30:=by
   have l1:=h.ok.l1;have hb:Zi y 0 t=(Z9 y 0).bs.getD t 0:=US (by omega)
   rw[hb];have e:Z9 y 0∈y.ls:=by
    have:Z9 y 0=y.ls[0]:=by unfold Z9;rw[List.getD,XM (by omega)];rfl
    rw[this];exact Xy _
   have e2:t<(Z9 y 0).bs.length:=by rw[h.ok.bl _ e];exact ht
   have e3:(Z9 y 0).bs.getD t 0=(Z9 y 0).bs[t]:=by simp[List.getD,e2]
   rw[e3];exact h.b30 _ e _ (Xy e2)
  unfold WV ZK;dsimp only;omega
 rw[RP]at h1;have:=h.ok.t8;omega
def Cl {y:Yd}{gs:List Gs}(h:Sml y gs)(A T:Qk):Z0 y gs A T<=8*10^30:=by
 have h1:=h.gv8 (fun k=>QE A k||QE T k);have h2:=h.giv.nn (QE A);unfold Z0;omega
def Cv {y:Yd}{gs:List Gs}(h:Sml y gs){S:Qm}{n:Nat}(hp:1<=wS gs.length (Qz gs) S)(hn:(n:Int)<=8*10^30):FrB (shF n (wS gs.length (Qz gs) S).toNat):=by
 have hm:0<(wS gs.length (Qz gs) S).toNat:=by omega
 obtain⟨a,b,c,d⟩:=Jw (n:=n) hm;obtain⟨g,g1,g2,e,et,eb,p0,cp⟩:=K8 (n:Int) hm;have h8:=h.want S;have e103:(8*10^30:Nat)<2^103:=by decide +kernel
 have h8':(wS gs.length (Qz gs) S).toNat<=8*10^30:=by omega
 refine⟨a,?_,by omega⟩
 have:((shF n (wS gs.length (Qz gs) S).toNat).t:Int)<=(n:Int):=by
  rw[b];have x0:0<=frT (n:Int) (wS gs.length (Qz gs) S).toNat:=by rw[<- b];omega
  generalize frT (n:Int) (wS gs.length (Qz gs) S).toNat=x at et x0;have:1*x<=(g:Int)*x:=X6 (by omega) x0;omega
 omega
structure LoopN (y:Yd)(gs:List Gs)(A:Qk)(p q:Int)(f:Fr)(L T:Qk):Prop where
 fr:FrB f
 le:f.t<=f.b
 low:p*(f.b:Int)<=(f.t:Int)*q
 nd:NdS gs L
 dis:∀k∈L,k∉A
 ne:L≠[]
 tight:f.t<f.b->(f.t:Int)*wS gs.length (Qz gs) (QE L)=(f.b:Int)*Z0 y gs A L
 all:f.t=f.b->L=U7 gs A
 tnd:NdS gs T
 tdis:∀k∈T,k∉A
 most:Mo y gs A f T
 grow:f.t<f.b->Hj y gs A f L
def WP (y:Yd)(gs:List Gs)(A:Qk)(f:Fr)(T:Qk):Bool := !T.isEmpty&&decide ((shF (Z0 y gs A T).toNat (wS gs.length (Qz gs) (QE T)).toNat).t*f.b<f.t*(shF (Z0 y gs A T).toNat (wS gs.length (Qz gs) (QE T)).toNat).b)
def AR {y:Yd}{gs:List Gs}(h:Sml y gs){A L T:Qk}{p q:Int}{f:Fr}(p0:0<=p)(q0:0<q)(hu:Up gs.length (Qz gs) (Ze y gs) (QE A) p q)(I:LoopN y gs A p q f L T)(hg:WP y gs A f T=false):NextOk y gs A p q f L:=by
 refine⟨I.fr,I.le,I.low,?_,I.nd,I.dis,I.ne,I.tight,I.all,I.grow⟩;refine OU (T:=QE T) I.most ?_
 by_cases ne:T=[]
 ·subst ne
  have e1:wS gs.length (Qz gs) (QE [])=0:=CN fun k _=>rfl;have e2:Ze y gs (fun k=>QE A k||QE [] k)=Ze y gs (QE A):=h.giv.ext _ _ fun k _=>by simp[QE]
  rw[e1,e2];omega
 ·have ne':T.isEmpty=false:=by cases T with|nil=>exact Xi rfl ne|cons _ _=>rfl
  unfold WP at hg;rw[ne']at hg;rw[Bool.not_false,Bool.true_and]at hg;have hg:=XO hg;obtain⟨l1,l2⟩:=MS h p0 q0 hu I.tdis;have hp:=NdS.pos h I.tnd ne;have hm:0<(wS gs.length (Qz gs) (QE T)).toNat:=by omega
  obtain⟨a,b,c,d⟩:=Jw (n:=(Z0 y gs A T).toNat) hm;rw[Db h,XR l2]at c;generalize shF (Z0 y gs A T).toNat (wS gs.length (Qz gs) (QE T)).toNat=n at a c d hg;have b1:=a.1;have hg':(f.t:Int)*(n.b:Int)<=(n.t:Int)*(f.b:Int):=by rw[<- WC,<- WC];exact Jh.mpr (by omega)
  show(f.t:Int)*wS gs.length (Qz gs) (QE T)<=(f.b:Int)*Z0 y gs A T
  generalize wS gs.length (Qz gs) (QE T)=W at c hp;generalize Z0 y gs A T=L at c;have h1:(f.t:Int)*(n.b:Int)*W<=(n.t:Int)*(f.b:Int)*W:=X6 hg' (by omega)
  have e1:(n.t:Int)*(f.b:Int)*W=(n.b:Int)*((f.b:Int)*L):=by
   rw[XB (n.t:Int),Xt,c,<- Xt,XB (f.b:Int),Xt]
  have e2:(f.t:Int)*(n.b:Int)*W=(n.b:Int)*((f.t:Int)*W):=by rw[XB (f.t:Int),Xt]
  rw[e1,e2]at h1;exact BW h1 (by omega)
def GY (y:Yd)(gs:List Gs)(A:Qk)(f:Fr)(T:Qk):Nat:=if WP y gs A f T=true then (wS gs.length (Qz gs) (QE T)).toNat+1 else 0
def Oi {y:Yd}{gs:List Gs}(h:Sml y gs){A T T':Qk}{p q:Int}{f n:Fr}(p0:0<=p)(q0:0<q)(hu:Up gs.length (Qz gs) (Ze y gs) (QE A) p q)(hT:NdS gs T)(hd':∀k∈T',k∉A)(hT':NdS gs T')(mo:Mo y gs A f T)(fb:0<f.b)(nb:0<n.b)(nt:n.t<=n.b)
 (tight:(n.t:Int)*wS gs.length (Qz gs) (QE T)=(n.b:Int)*Z0 y gs A T) (lt:(n.t:Int)*(f.b:Int)<(f.t:Int)*(n.b:Int)) (hg:WP y gs A f T=true):GY y gs A n T'<GY y gs A f T:=by
 unfold GY;rw[Xb hg];by_cases c:WP y gs A n T'=true
 ·rw[Xb c]
  unfold WP at c;obtain⟨c1,c2⟩:=GX.mp c;have ne:T'≠[]:=fun z=>by subst z;simp at c1
  obtain⟨n',_,_,_,_,_,_,s2⟩:=TR h p0 q0 hu hT' hd' ne nt nb (Xq c2);have m1:=mo (QE T') (fun k _ e=>XG (hd' k (Xq e)))
  have:=IZ (p:=(f.t:Int)) (q:=(f.b:Int)) (p':=(n.t:Int)) (q':=(n.b:Int)) (W:=wS gs.length (Qz gs) (QE T)) (W':=wS gs.length (Qz gs) (QE T')) (x:=Z0 y gs A T) (x':=Z0 y gs A T') (by omega) (by omega) lt tight m1 s2
  have:=h.giv.w0 (QE T')
  omega
 ·rw[Xa c]
  omega
def UX:Qq ZaV ZaL (Q8 D4):=by walk_at"p"
def Er (T:Bl mg) (D:Df K mg "next_level" D4 ZaL) (XbS:Qy P w K mg base "most_short" Zax 7 (Zy K R_mshort)) (Xca:Qy P w K mg base "is_fairer" ZaD 3 (QC (K:=K) R_fairer)) (XbT:Qy P w K mg base "share_left" ZaA 5 (QC (K:=K) R_shleft)):Qy P w K mg base "next_level" ZaL 8 (Zy K R_nlevel):=by
 refine D.evD UX (fun ts Φ h=>by cases h;rfl) (fun _ _ _ _ s H E ts Φ hr h=>?_)
 cases h with
 |@mk y gs A p q h hA p0 pq q0 hl hu hm =>
   refine⟨_,(Qx (QQ (i:=3) UX.nd rfl Qa (Va (Qo Qw (Qo Qw Qr))))
 (Qx (Y1 (i:=4) UX.nd rfl rfl (NX:=ZaV) (sc:=Q8 D4) (N:=Zbg) (f:=[none,some 2]) rfl (by decide +kernel) rfl rfl (VD rfl T.range (Qo (Z2 Ym (by rfl) T.len Yk (Qo (pv 1) Qr)) Qr)) (fun _=>(QP (i:=0) (show(Zbg:Qh).Nodup by decide +kernel) rfl Qa)) (fun _=>Z5) (fun _=>(Kq (ZX Lb (pv 0) (pv 1) rfl))) (fun _=>(pv 0)) rfl)
 (Qx (QQ (i:=5) UX.nd rfl Qa (QH XbS hr (Qo (pv 0) (Qo (pv 1) (Qo (pv 2) (Qo (pv 3) Qr))))))
 (Qx (J4 PassesOwn.never (PW.pt (M8 (Pl (pv 5) (fun _=>rfl)) (ML (UB (QH Xca hr (Qo (V2 (Qo (pv 3) Qr)) (Qo (V2 (Qo (QH XbT hr (Qo (pv 0) (Qo (pv 1) (Qo (pv 2) (Qo (pv 5) Qr))))) Qr)) Qr))))))) (Qx (QQ (i:=3) UX.nd rfl Qa (QH XbT hr (Qo (pv 0) (Qo (pv 1) (Qo (pv 2) (Qo (pv 5) Qr))))))
 (Qx (QQ (i:=4) UX.nd rfl Qa (pv 5))
 (QA (QQ (i:=5) UX.nd rfl Qa (QH XbS hr (Qo (pv 0) (Qo (pv 1) (Qo (pv 2) (Qo (pv 3) Qr))))))))))
 (QA (QT (Va (Qo (pv 3) (Qo (pv 4) Qr))))))))),?_⟩
   show Q9 K _ [some _,some _,some _,none,none,none] _
   walk_at"x"
   have g8:=h.g8;have gl:(gs.map QB).length=gs.length:=by simp
   have one:FrB ⟨1,1⟩:=⟨⟨by decide,by decide⟩,by decide,by decide⟩;have hlow:∀{f:Fr},0<f.b->p*(f.b:Int)<=(f.t:Int)*q->Low gs.length (Qz gs) (Ze y gs) (QE A) f.t f.b:=fun b1 lo=>hl.more h.giv q0 (by omega) lo;refine QG (Zw (d:=QU ⟨1,1⟩) (Wi (Z1 QX (Z1 QX Vf)) U1) ?_)
   walk_at"d"
   refine QG (ZW (r:=.ol (QW (U7 gs A))) (Mw (xs:=List.range gs.length) (enc:=fun(k:Nat)=>PyData.int (k:Int)) (h:=fun(k:Nat)=>PyData.int (k:Int)) (p:=fun k => !decide (k∈A)) ?ei (by simp;omega) ?el) ?_)
   case ei =>
    refine EvI.cast (Ws (Qt (Jz (Qp rfl)) QD) (by rw[z62,gl];omega) (by rw[z62,gl];omega)) ?_;rw[gl,Xl];unfold ZQ;refine XQ fun i _=>?_;rw[Y2]
   case el =>
    intro k hk c;refine⟨_,Zj,?_,fun _=>?_⟩
    ·walk_at"e"
     exact ZO (K2 (Qp rfl) (Qp rfl))
    ·walk_at"e"
     exact Qp rfl
   walk_at"d"
   refine Yi 4 rfl ?_
   walk_at"d"
   refine QG (Wr (Yj (Qt (Qp rfl) (Qt (Qp rfl) (Qt (Qp rfl) (Qt (Qp rfl) QD)))) (R_mshort.mk h hA one (hlow (by decide) (by show p*1<=1*q;omega)))) (fun r hr'=>?_));obtain⟨T1,t1,t2,-,t3,rfl⟩:=hr'
   walk_at"d"
   have I0:LoopN y gs A p q ⟨1,1⟩ (U7 gs A) T1:=⟨one,Xx _,by show p*1<=1*q;omega,⟨fun k hk=>Xn.mp (Y4.mp hk).1,DM.filter _⟩,fun k hk=>by have:=(Y4.mp hk).2;simpa using this,fun z=>by
    have:∀k,k<gs.length->k∈A:=fun k hk=>Decidable.byContradiction fun c=>by
     have:k∈U7 gs A:=Y4.mpr ⟨Xn.mpr hk,by simp[c]⟩
     rw[z]at this;cases this
    have l1:=hA.perm.length_eq;have l2:ZA gs (QE A)=List.range gs.length:=List.filter_eq_self.mpr fun k hk=>YZ (this k (Xn.mp hk));rw[l2,Jg]at l1;omega,fun c=>Xi c (by decide),fun _=>rfl,t1,t2,t3,fun c=>Xi c (by decide)⟩
   have esl:∀{ρ:QL} {E':XK} {T':Qk},ρ[0]?=some (some (.fz (QS y)))->ρ[1]?=some (some (.fz (.list (gs.map QB))))->ρ[2]?=some (some (.fz (.list (QW A))))->ρ[5]?=some (some (.fz (.list (QW T'))))->NdS gs T'->(∀k∈T',k∉A)->T'≠[] ->
    Qs K (Wz (QC (K:=K) R_shleft) [] E' (Zl (Za 0) (Zl (Za 1) (Zl (Za 2) (Zl (Za 5) Zv))))) ρ (QU (shF (Z0 y gs A T').toNat (wS gs.length (Qz gs) (QE T')).toNat)):=fun e0 e1 e2 e5 n1 n2 n3=>Zk (Qt (Qp e0) (Qt (Qp e1) (Qt (Qp e2) (Qt (Qp e5) QD)))) (R_shleft.mk h hA n1 n2 n3 (MS h p0 q0 hu n2).2)
   refine Wl (fun ρ'=>∃f' L' u,NextOk y gs A p q f' L'/\ρ'=[some (.fz (QS y)),some (.fz (.list (gs.map QB))),some (.fz (.list (QW A))),some (.fz (QU f')),some (.fz (.list (QW L'))),u]) ?wh ?rt
   case rt =>
    rintro _ ⟨f',L',u,hN,rfl⟩
    exact ZD (Wi (Z1 (Qp rfl) (Z1 (Qp rfl) Vf)) U1) ⟨f',L',hN,rfl⟩
   case wh =>
    refine J6 (fun m ρ'=>∃f' L' T',m=GY y gs A f' T'/\LoopN y gs A p q f' L' T'/\ρ'=[some (.fz (QS y)),some (.fz (.list (gs.map QB))),some (.fz (.list (QW A))),some (.fz (QU f')),some (.fz (.list (QW L'))),some (.ol (QW T'))]) _ ⟨_,_,_,rfl,I0,rfl⟩ ?_
    rintro m _ ⟨f',L',T',rfl,I,rfl⟩
    refine⟨WP y gs A f' T',?tst,fun c=>?_,fun c=>⟨f',L',_,AR h p0 q0 hu I c,rfl⟩⟩
    case tst =>
     refine Eh 5 (r:=.ol (QW T')) rfl rfl ?_
     walk_at"d"
     refine Zz.cast (Bh (b := !(QW T').isEmpty) (c:=WP y gs A f' T') (SB (ds:=QW T') (Qp rfl)) (fun c=>?_)) ?_
     ·have ne:T'≠[]:=fun z=>by subst z;simp[QW]at c
      have ne':T'.isEmpty=false:=by cases T' with|nil=>exact Xi rfl ne|cons _ _=>rfl
      have hp:=NdS.pos h I.tnd ne;have l2:=(MS h p0 q0 hu I.tdis).2;have hx:=I.fr;have hsh:FrB (shF (Z0 y gs A T').toNat (wS gs.length (Qz gs) (QE T')).toNat):=Cv h hp (by rw[XR l2];exact Cl h A T');refine Zz.cast (Yr (Zk (Qt (EvO.fz (Y8 (ds:=[QU f']) (Z1 (Qp rfl) Vf) Ba)) (Qt (EvO.fz (Y8 (ds:=[QU (shF (Z0 y gs A T').toNat (wS gs.length (Qz gs) (QE T')).toNat)]) (Z1 (esl rfl rfl rfl rfl I.tnd I.tdis ne) Vf) Ba)) QD)) (R_fairer.mk (as:=[f']) (bs:=[shF (Z0 y gs A T').toNat (wS gs.length (Qz gs) (QE T')).toNat]) (fun x hx'=>?_) (fun x hx'=>?_) rfl (by show(1:Nat)<=8;decide)))) ?_
      ·exact(Xk.mp hx').symm▸hx.g
      ·exact(Xk.mp hx').symm▸hsh.g
      ·rw[FJ]
       unfold WP;rw[ne',Bool.not_false,Bool.true_and]
     ·unfold WP
      have:(QW T').isEmpty=T'.isEmpty:=by cases T'<;>rfl
      rw[this];cases T'.isEmpty<;>simp
    ·obtain⟨c1,c2⟩:=GX.mp c
     have ne:T'≠[]:=fun z=>by subst z;simp at c1
     obtain⟨n,en,n1,n2,n3,n4,n5,n6⟩:=TR h p0 q0 hu I.tnd I.tdis ne I.le I.fr.ok.1 (Xq c2);refine Yi 5 rfl ?_
     walk_at"d"
     refine QG (Zw (d:=QU n) (Qs.cast (esl rfl rfl rfl rfl I.tnd I.tdis ne) (by rw[en])) ?_)
     walk_at"d"
     refine QG (Zw (Qp rfl) ?_)
     walk_at"d"
     refine Wr (Yj (Qt (Qp rfl) (Qt (Qp rfl) (Qt (Qp rfl) (Qt (Qp rfl) QD)))) (R_mshort.mk h hA n1 (hlow n1.ok.1 n3))) (fun r hr'=>?_);obtain⟨T2,u1,u2,-,u3,rfl⟩:=hr'
     walk_at"d"
     refine⟨GY y gs A n T2,Oi h p0 q0 hu I.tnd u2 u1 I.most I.fr.ok.1 n1.ok.1 (X9 n2) n4 n5 c,n,T',T2,rfl,⟨n1,X9 n2,n3,I.tnd,I.tdis,ne,fun _=>n4,fun e=>Xi e (by omega),u1,u2,u3,fun _=>CO h n1.ok.1 I.fr.ok.1 n5 I.most I.tdis⟩,rfl⟩
def Wg (l:Fr×Qk):PyData:=.tuple [QU l.1,.list (QW l.2)]
inductive Lev (y:Yd)(gs:List Gs):Qk->Int->Int->List (Fr×Qk)->Prop
 |nil {A:Qk} {p q:Int} (h:∀k,k<gs.length->k∈A):Lev y gs A p q []
 |cons {A:Qk} {p q:Int} {f:Fr} {T:Qk} {lv:List (Fr×Qk)} (h:NextOk y gs A p q f T) (r:Lev y gs (A++T) f.t f.b lv):Lev y gs A p q ((f,T)::lv)
inductive R_levels:List OT->(OT->Prop)->Prop
 |mk {y:Yd} {gs:List Gs} (h:Sml y gs):R_levels [.fz (QS y),.fz (.list (gs.map QB))] (fun r=>∃lv,Lev y gs [] 0 1 lv/\lv.length<=8/\r=.ol (lv.map Wg))
def OB {gs:List Gs}{A:Qk}(hA:NdS gs A)(h:¬A.length<gs.length):∀k,k<gs.length->k∈A:=fun k hk=>Decidable.byContradiction fun c=>by
 have l1:=hA.perm.length_eq
 have l2:(ZA gs (QE A)).length<(List.range gs.length).length:=by
  unfold ZA;refine Nat.lt_of_le_of_ne (DV _ _) fun e=>?_
  have:=List.length_filter_eq_length_iff.mp e k (Xn.mpr hk)
  exact c (Xq this)
 rw[Jg]at l2;omega
structure LoopL (y:Yd)(gs:List Gs)(lv:List (Fr×Qk))(A:Qk)(p q:Int):Prop where
 nd:NdS gs A
 len:lv.length<=A.length
 on:∀rest,Lev y gs A p q rest->Lev y gs [] 0 1 (lv++rest)
 go:A.length<gs.length->(0<=p/\p<=q/\0<q)/\Low gs.length (Qz gs) (Ze y gs) (QE A) p q/\Up gs.length (Qz gs) (Ze y gs) (QE A) p q
def LoopL.step {y:Yd}{gs:List Gs}(h:Sml y gs){lv:List (Fr×Qk)}{A T:Qk}{p q:Int}{f:Fr}(I:LoopL y gs lv A p q)(hm:A.length<gs.length)(N:NextOk y gs A p q f T):LoopL y gs (lv++[(f,T)]) (A++T) f.t f.b:=by
 have hAT:=I.nd.app N.nd N.dis;have tp:0<T.length:=DR.mpr N.ne;refine⟨hAT,?_,fun rest r=>?_,fun hm'=>?_⟩
 ·have:=I.len
  simp only[Xv,XX,List.length_nil];omega
 ·rw[Uq]
  exact I.on _ (.cons N r)
 ·obtain⟨⟨p0,pq,q0⟩,hl,hu⟩:=I.go hm
  have b1:=N.fr.ok.1
  have lt:f.t<f.b:=by
   refine Nat.lt_of_le_of_ne N.le fun e=>?_;have ha:=N.all e
   have hall:∀k,k<gs.length->k∈A++T:=fun k hk=>by
    by_cases c:k∈A
    ·exact JF _ c
    ·exact XJ _ (ha▸EA hk c)
   have l1:=hAT.perm.length_eq;have l2:ZA gs (QE (A++T))=List.range gs.length:=List.filter_eq_self.mpr fun k hk=>YZ (hall k (Xn.mp hk));rw[l2,Jg]at l1;omega
  have hT:∀k,k<gs.length->QE T k=true->QE A k=false:=fun k _ e=>XG (N.dis k (Xq e));have ti:=N.tight lt;have e1:Ze y gs (QE (A++T))=Ze y gs (fun k=>QE A k||QE T k):=T9 A T;have l1:=Low.step h.giv hl N.up hT ti q0 (by omega) N.low;have u1:=Up.step h.giv N.up hT ti;have em:QE (A++T)=fun k=>QE A k||QE T k:=funext fun k=>Ld A T k;rw[em];exact⟨⟨by omega,by have:=N.le;omega,by omega⟩,l1,u1⟩
def BK:Qq ["yard","guests","levels","ahead","level"] Zaa (Q8 N7):=by walk_at"p"
def Ey (T:Bl mg) (D:Df K mg "fair_levels" N7 Zaa) (Xcb:Qy P w K mg base "next_level" ZaL 8 (Zy K R_nlevel)):Qy P w K mg base "fair_levels" Zaa 9 (Zy K R_levels):=by
 refine D.evD BK (fun ts Φ h=>by cases h;rfl) (fun _ _ _ _ s H E ts Φ hr h=>?_)
 cases h with
 |@mk y gs h =>
   refine⟨_,(Qx (QQ (i:=2) BK.nd rfl Qa (V2 Qr))
 (Qx (QQ (i:=3) BK.nd rfl Qa (V2 Qr))
 (Qx (J4 PassesOwn.never (ZX Be (Z2 Ym (by rfl) T.len Yk (Qo (pv 3) Qr)) (Z2 Ym (by rfl) T.len Yk (Qo (pv 1) Qr)) (ZN _)) (Qx (QQ (i:=4) BK.nd rfl Qa (QH Xcb hr (Qo (pv 0) (Qo (pv 1) (Qo (pv 3) Qr)))))
 (Qx (V3 (WJ PySem.F.plainAttrs_list PySem.F.slot_list_append PySem.F.type_list_append WY (pv 2) (Qo (pv 4) Qr)))
 (QA (QQ (i:=3) BK.nd rfl Qa (QF Kb (pv 3) (QJ QK (pv 4) Qw)))))))
 (QA (QT (pv 2)))))),?_⟩
   show Q9 K _ [some _,some _,none,none,none] _
   walk_at"x"
   have g8:=h.g8;have gl:(gs.map QB).length=gs.length:=by simp
   refine QG (ZW (Y8 (ds:=[]) Vf (by decide)) ?_)
   walk_at"d"
   refine QG (ZW (Y8 (ds:=[]) Vf (by decide)) ?_)
   walk_at"d"
   have I0:LoopL y gs [] [] 0 1:=⟨⟨(fun k hk=>nomatch hk),Gc⟩,Xx _,fun rest r=>r,fun _=>⟨⟨by decide,by decide,by decide⟩,Low.nil h.giv fun k _=>rfl,Up.nn h.giv fun k _=>rfl⟩⟩;refine Wl (fun ρ'=>∃lv a u,Lev y gs [] 0 1 lv/\lv.length<=8/\ρ'=[some (.fz (QS y)),some (.fz (.list (gs.map QB))),some (.ol (lv.map Wg)),a,u]) ?wh ?rt
   case rt =>
    rintro _ ⟨lv,a,u,hN,l8,rfl⟩
    exact G7 rfl ⟨lv,hN,l8,rfl⟩
   case wh =>
    refine J6 (fun m ρ'=>∃lv A p q u,m=gs.length-A.length/\LoopL y gs lv A p q/\ρ'=[some (.fz (QS y)),some (.fz (.list (gs.map QB))),some (.ol (lv.map Wg)),some (.ol (QW A)),u]) _ ⟨[],[],0,1,none,rfl,I0,rfl⟩ ?_
    rintro m _ ⟨lv,A,p,q,u,rfl,I,rfl⟩
    have lA:=(I.nd.ok g8).len;have lnA:(QW A).length=A.length:=by simp[QW]
    refine⟨decide (A.length<gs.length),?tst,fun c=>?_,fun c=>?_⟩
    case tst =>
     refine Zz.cast (ZO (Jt (RQ rfl) (Jz (Qp rfl)))) ?_;rw[gl,lnA];exact decide_eq_decide.mpr Wu
    ·have hm:=Xq c
     obtain⟨⟨p0,pq,q0⟩,hl,hu⟩:=I.go hm;refine Yi 3 rfl ?_
     walk_at"d"
     refine QG (Wr (Yj (Qt (Qp rfl) (Qt (Qp rfl) (Qt (Qp rfl) QD))) (R_nlevel.mk h I.nd p0 pq q0 hl hu hm)) (fun r hr'=>?_));obtain⟨f',T',N,rfl⟩:=hr'
     walk_at"d"
     have J:=I.step h hm N;have lAT:=(J.nd.ok g8).len;have tp:0<T'.length:=DR.mpr N.ne;rw[Xv]at lAT;have lnT:(QW T').length=T'.length:=by simp[QW]
     have ll:=I.len;refine QG (B9 rfl (Qp rfl) (by rw[Xh];omega) ?_)
     walk_at"d"
     refine ZW (r:=.ol (QW (A++T'))) (EvO.cast (Mq (Qp rfl) (ZB (ds:=[QU f',.list (QW T')]) (Qp rfl) QX rfl) (by omega)) (by rw[Dc])) ?_
     walk_at"d"
     refine⟨gs.length-(A++T').length,by rw[Xv];omega,lv++[(f',T')],A++T',f'.t,f'.b,some (.fz (.tuple [QU f',.list (QW T')])),rfl,J,?_⟩;rw[XE];rfl
    ·have hm:=XO c
     have:=I.len
     exact⟨lv,_,u,by have:=I.on [] (.nil (OB I.nd hm));rwa [X2]at this,by omega,rfl⟩
section
variable (Q:Int)(gs:List Gs)
def tkL (lv:List (Fr×Qk))(k:Nat):Int:=match lv with
 |[]=>0
 |(f,T)::r=>if k∈T then Qz gs k*(f.t:Int)*(Q/(f.b:Int)) else tkL r k
end
def Lev.dis {y:Yd}{gs:List Gs}{A:Qk}{p q:Int}{lv:List (Fr×Qk)}(h:Lev y gs A p q lv):∀l∈lv,∀k∈l.2,k∉A:=by
 induction h with
 |nil _=>exact fun l hl=>(nomatch hl)
 |cons N r ih =>
   intro l hl k hk;rcases Xg.mp hl with rfl|hl
   ·exact N.dis k hk
   ·exact fun z=>ih l hl k hk (JF _ z)
def Lev.fr {y:Yd}{gs:List Gs}{A:Qk}{p q:Int}{lv:List (Fr×Qk)}(h:Lev y gs A p q lv):∀l∈lv,FrB l.1/\l.1.t<=l.1.b/\NdS gs l.2:=by
 induction h with
 |nil _=>exact fun l hl=>(nomatch hl)
 |cons N r ih =>
   intro l hl;rcases Xg.mp hl with rfl|hl
   ·exact⟨N.fr,N.le,N.nd⟩
   ·exact ih l hl
def shL (lv:List (Fr×Qk))(k:Nat):PyData:=lv.foldl (fun d l=>if k∈l.2 then QU l.1 else d) .none
def TL {lv:List (Fr×Qk)}{k:Nat}(h:∀l∈lv,k∉l.2):∀d:PyData,lv.foldl (fun d l=>if k∈l.2 then QU l.1 else d) d=d:=by
 induction lv with
 |nil=>exact fun d=>rfl
 |cons l r ih =>
   intro d;rw[BS,Xa (h l Xc)];exact ih (fun x hx=>h x (Xf _ hx)) d
def Lev.share {y:Yd}{gs:List Gs}{Q:Int}{A:Qk}{p q:Int}{lv:List (Fr×Qk)}(h:Lev y gs A p q lv):∀(k:Nat),k<gs.length->k∉A->∀d:PyData,∃l∈lv,k∈l.2/\lv.foldl (fun d l=>if k∈l.2 then QU l.1 else d) d=QU l.1/\tkL Q gs lv k=Qz gs k*(l.1.t:Int)*(Q/(l.1.b:Int)):=by
 induction h with
 |nil h=>exact fun k hk c=>Xi (h k hk) c
 |@cons A p q f T lv N r ih =>
   intro k hk c d;by_cases z:k∈T
   ·refine⟨(f,T),Xc,z,?_,?_⟩
    ·rw[BS,Xb z]
     exact TL (fun l hl c'=>r.dis l hl k c' (XJ _ z)) _
    ·show(if k∈T then _ else _)=_
     rw[Xb z]
   ·obtain⟨l,hl,e1,e2,e3⟩:=ih k hk (fun c'=>(XC.mp c').elim c z) d
    refine⟨l,Xf _ hl,e1,?_,?_⟩
    ·rw[BS,Xa z]
     exact e2
    ·show(if k∈T then _ else _)=_
     rw[Xa z];exact e3
def Ps {lv:List (Fr×Qk)}{i:Nat}(hi:i<lv.length)(k:Nat):shL (lv.take (i+1)) k=if k∈lv[i].2 then QU lv[i].1 else shL (lv.take i) k:=by
 unfold shL;rw[WB,XM hi,List.foldl_append];rfl
def EY {m j:Nat}(hj:j<m){f:Nat->PyData}{d:PyData}:((List.range m).map f).set j d=(List.range m).map fun k=>if k=j then d else f k:=by
 refine BT (by simp) fun i h1 h2=>?_;rw[List.getElem_set];have hi:i<m:=by simpa using h2
 by_cases c:j=i
 ·subst c
  simp
 ·simp[c,Ne.symm c]
inductive R_lshares:List OT->OT->Prop
 |mk {lv:List (Fr×Qk)} {m:Nat} (hm:m<=8) (h:∀l∈lv,∀k∈l.2,k<m):R_lshares [.fz (.list (lv.map Wg)),.fz (.int (m:Int))] (.ol ((List.range m).map (shL lv)))
def BJ:Qq Zaw ZaH (Q8 D5):=by walk_at"p"
def OJ (T:Bl mg) (D:Df K mg "_law_shares" D5 ZaH):Qy P w K mg base "_law_shares" ZaH 1 (QC (K:=K) R_lshares):=by
 refine D.ev BJ (fun ts r h=>by cases h;rfl) (fun _ _ _ _ s H E ts r hr h=>?_)
 cases h with
 |@mk lv m hm h =>
   refine⟨_,(Qx (Y1 (i:=2) BJ.nd rfl rfl (NX:=Zaw) (sc:=Q8 D5) (N:=["_law_k"]) (f:=[none]) rfl (by decide +kernel) rfl rfl (VD rfl T.range (Qo (pv 1) Qr)) (fun _=>(QP (i:=0) (show(["_law_k"]:Qh).Nodup by decide +kernel) rfl Qa)) (fun _=>Z5) (fun _=>ZT) (fun _=>UH) rfl)
 (Qx (ZC PassesOwn.never rfl (Vq (pv 0)) (Vs (n:=2) rfl (Zo (QP (i:=3) BJ.nd rfl Qa) (Zo (QP (i:=4) BJ.nd rfl Qa) Vp))) (QA (ZC PassesOwn.never rfl (Vq (pv 4)) (QP (i:=5) BJ.nd rfl Qa) (QA (YS (pv 3) (G6 (pv 2) (pv 5) Jc))))))
 (QA (QT (pv 2))))),?_⟩
   show Q9 K _ [some _,some _,none,none,none,none] _
   walk_at"x"
   refine QG (ZW (VA (xs:=List.range m) (enc:=fun(k:Nat)=>PyData.int (k:Int)) (h:=fun k=>shL (lv.take 0) k) ?ei (by simp;omega) ?el) ?_)
   case ei =>
    refine EvI.cast (Ws (Qt (Qp rfl) QD) (by rw[z62];omega) (by rw[z62];omega)) ?_;rw[Xl];unfold ZQ;refine XQ fun i _=>?_;rw[Y2]
   case el =>
    intro k hk c;exact⟨_,Zj,Mp⟩
   walk_at"d"
   refine QG (YU (ds:=lv.map Wg) (fun i=>[some (.fz (.list (lv.map Wg))),some (.fz (.int (m:Int))),some (.ol ((List.range m).map (shL (lv.take i)))),none,none,none]) (Vv (Qp rfl)) ⟨rfl,rfl,rfl,trivial⟩ ?st ?fin)
   case fin =>
    intro ρ' hf;refine VW hf ?_;rw[Xh,WE];exact G7 rfl rfl
   case st =>
    intro i d hd;have hi:i<lv.length:=by
     have:=(Xe.mp hd).1
     simpa using this
    obtain rfl:d=Wg lv[i]:=by simpa [hi] using hd.symm
    have hk:=h lv[i] (Xy hi);refine⟨_,Yv (ds:=[QU lv[i].1,.list (QW lv[i].2)]) (Z8 Zj (Z8 Zj Y6)) rfl,?_⟩
    walk_at"d"
    refine YU (ds:=QW lv[i].2) (fun j=>[some (.fz (.list (lv.map Wg))),some (.fz (.int (m:Int))),some (.ol ((List.range m).map fun k=>if k∈lv[i].2.take j then QU lv[i].1 else shL (lv.take i) k)),some (.fz (QU lv[i].1)),some (.fz (.list (QW lv[i].2))),none]) (Vv (Qp rfl)) ⟨rfl,rfl,?z0,rfl,rfl,trivial⟩ ?st2 ?fin2
    case z0=>simp
    case st2 =>
     intro j d hd2;have hj:j<lv[i].2.length:=by
      have:=(Xe.mp hd2).1
      simpa [QW] using this
     obtain rfl:d=.int ((lv[i].2[j]:Nat):Int):=by simpa [QW,hj] using hd2.symm
     have hkj:=hk lv[i].2[j] (Xy hj);refine⟨_,Zj,?_⟩
     walk_at"d"
     refine Sz (j:=lv[i].2[j]) rfl (Qp rfl) (Qp rfl) ?ix ?_
     case ix =>
      have:=Gy (n:=((List.range m).map fun k=>if k∈lv[i].2.take j then QU lv[i].1 else shL (lv.take i) k).length) (k:=((lv[i].2[j]:Nat):Int)) (by omega) (by simp;omega)
      simpa using this
     walk_at"d"
     refine⟨rfl,rfl,?_,rfl,rfl,trivial⟩;rw[EY hkj];congr 2;refine XQ fun k _=>?_
     have em:k∈lv[i].2.take (j+1)↔k∈lv[i].2.take j\/k=lv[i].2[j]:=by
      rw[WB,XM hj,XC];simp
     by_cases c:k=lv[i].2[j]
     ·rw[Xb c,Xb (em.mpr (.inr c))]
     ·by_cases c2:k∈lv[i].2.take j
      ·rw[Xa c,Xb c2,Xb (em.mpr (.inl c2))]
      ·rw[Xa c,Xa c2,Xa (fun z=>(em.mp z).elim c2 c)]
    case fin2 =>
     intro ρ' hf;have ln:(QW lv[i].2).length=lv[i].2.length:=by simp[QW]
     rw[ln,WE]at hf;refine hf.trans ⟨rfl,rfl,?_,trivial⟩
     congr 2
     exact XQ fun k _=>(Ps hi k).symm
def Yw (lv:List (Fr×Qk)):Qk:=lv.flatMap (·.2)
def Lev.ahead {y:Yd}{gs:List Gs}{A:Qk}{p q:Int}{lv:List (Fr×Qk)}(hL:Lev y gs A p q lv):NdS gs A->NdS gs (A++Yw lv):=by
 induction hL with
 |nil _=>intro hA;simpa [Yw] using hA
 |@cons A p q f T lv N r ih =>
   intro hA;have:=ih (hA.app N.nd N.dis);have e:Yw ((f,T)::lv)=T++Yw lv:=BY;rw[e,<- Uq];exact this
def NdS.left {gs:List Gs}{a b:Qk}(h:NdS gs (a++b)):NdS gs a:=⟨fun k hk=>h.mem k (JF _ hk),(GU.mp h.nd).1⟩
def Os {y:Yd}{gs:List Gs}{lv:List (Fr×Qk)}(hL:Lev y gs [] 0 1 lv)(i:Nat):NdS gs (Yw (lv.take i)):=by
 have h1:=hL.ahead ⟨(fun k hk=>nomatch hk),Gc⟩
 rw[BR]at h1;have e:Yw lv=Yw (lv.take i)++Yw (lv.drop i):=by
  unfold Yw;rw[<- JE,List.take_append_drop]
 rw[e]at h1;exact h1.left
def phL (Q:Int)(lv:List (Fr×Qk))(k:Nat):Int:=match lv with
 |[]=>0
 |(f,T)::r=>if k∈T then (f.t:Int)*(Q/(f.b:Int)) else phL Q r k
def frL (lv:List (Fr×Qk))(k:Nat):Fr:=match lv with
 |[]=>⟨0,1⟩
 |(f,T)::r=>if k∈T then f else frL r k
def Lev.fr_at {y:Yd}{gs:List Gs}{Q:Int}{A:Qk}{p q:Int}{lv:List (Fr×Qk)}(h:Lev y gs A p q lv):∀(k:Nat),k<gs.length->k∉A->∃l∈lv,k∈l.2/\frL lv k=l.1/\phL Q lv k=(l.1.t:Int)*(Q/(l.1.b:Int)):=by
 induction h with
 |nil h=>exact fun k hk c=>Xi (h k hk) c
 |@cons A p q f T lv N r ih =>
   intro k hk c;unfold frL phL;by_cases z:k∈T
   ·exact⟨(f,T),Xc,z,by rw[Xb z],by rw[Xb z]⟩
   ·obtain⟨l,hl,e1,e2,e3⟩:=ih k hk (fun c'=>(XC.mp c').elim c z)
    exact⟨l,Xf _ hl,e1,by rw[Xa z];exact e2,by rw[Xa z];exact e3⟩
def Lev.alike_self {y:Yd}{gs:List Gs}{A:Qk}{p q:Int}{lv:List (Fr×Qk)}(hL:Lev y gs A p q lv):∀l∈lv,∀l'∈lv,∀k,k∈l.2->k∈l'.2->l.1=l'.1:=by
 induction hL with
 |nil _=>exact fun l hl=>(nomatch hl)
 |@cons A p q f T lv N r ih =>
   intro l hl l' hl' k hk hk';rcases Xg.mp hl with rfl|hl
   ·rcases Xg.mp hl' with rfl|hl'
    ·rfl
    ·exact Xi (XJ _ hk) (r.dis l' hl' k hk')
   ·rcases Xg.mp hl' with rfl|hl'
    ·exact Xi (XJ _ hk') (r.dis l hl k hk)
    ·exact ih l hl l' hl' k hk hk'
def Lev.sh_fr {y:Yd}{gs:List Gs}{lv:List (Fr×Qk)}(h:Lev y gs [] 0 1 lv){k:Nat}(hk:k<gs.length):shL lv k=QU (frL lv k):=by
 obtain⟨l,h1,h2,h3,_⟩:=h.share (Q:=1) k hk (fun z=>nomatch z) .none;obtain⟨l',h1',h2',h3',_⟩:=h.fr_at (Q:=1) k hk (fun z=>nomatch z);rw[show shL lv k=QU l.1 from h3,h3'];have:=h.alike_self l h1 l' h1' k h2 h2';rw[this]
structure NxS (y:Yd)(gs:List Gs)(A T:Qm)(f:Fr):Prop where
 ok:f.Ok
 le:f.t<=f.b
 up:Up gs.length (Qz gs) (Ze y gs) A f.t f.b
 dis:∀k,k<gs.length->T k=true->A k=false
 ne:∃k,k<gs.length/\T k=true
 tight:f.t<f.b->(f.t:Int)*wS gs.length (Qz gs) T=(f.b:Int)*(Ze y gs (fun k=>A k||T k)-Ze y gs A)
 all:f.t=f.b->∀k,k<gs.length->T k = !A k
 grow:f.t<f.b->∀U:Nat->Bool,(∀k,k<gs.length->U k=true->A k=false/\T k=false)->1<=wS gs.length (Qz gs) U ->
  (f.t:Int)*wS gs.length (Qz gs) U<(f.b:Int)*(Ze y gs (fun k=>(A k||T k)||U k)-Ze y gs (fun k=>A k||T k))
def NextOk.nxs {y:Yd}{gs:List Gs}{A T:Qk}{p q:Int}{f:Fr}(N:NextOk y gs A p q f T):NxS y gs (QE A) (QE T) f:=by
 refine⟨N.fr.ok,N.le,N.up,fun k _ e=>XG (N.dis k (Xq e)),?_,N.tight,fun e k hk=>?_,N.grow⟩
 ·obtain⟨k,hk⟩:=List.exists_mem_of_ne_nil _ N.ne
  exact⟨k,N.nd.mem k hk,YZ hk⟩
 ·rw[N.all e]
  unfold QE U7;by_cases c:k∈A<;>simp[hk,c]
def NxS.le_next {y:Yd}{gs:List Gs}(G:Giv gs.length (Qz gs) (Ze y gs)){A T T':Qm}{f f':Fr}(N:NxS y gs A T f)(N':NxS y gs A T' f'):f'.t*f.b<=f.t*f'.b:=by
 have b1:=N.ok.1;have b2:=N'.ok.1
 by_cases c:f.t<f.b
 ·have h1:=N'.up T N.dis
  have h2:=N.tight c;obtain⟨k,hk,e⟩:=N.ne;have hw:=G.wp hk e;generalize wS gs.length (Qz gs) T=W at h1 h2 hw;generalize Ze y gs (fun k=>A k||T k)-Ze y gs A=X at h1 h2;have g1:(f.b:Int)*((f'.t:Int)*W)<=(f.b:Int)*((f'.b:Int)*X):=XH h1 (by omega);have g2:(f.b:Int)*((f'.b:Int)*X)=(f'.b:Int)*((f.t:Int)*W):=by rw[h2,Int.mul_left_comm]
  have g3:((f'.t:Int)*(f.b:Int))*W<=((f.t:Int)*(f'.b:Int))*W:=by
   have q1:(f.b:Int)*((f'.t:Int)*W)=((f'.t:Int)*(f.b:Int))*W:=by rw[<- Xt,XB (f.b:Int)]
   have q2:(f'.b:Int)*((f.t:Int)*W)=((f.t:Int)*(f'.b:Int))*W:=by rw[<- Xt,XB (f'.b:Int)]
   omega
  have g4:=DT g3 (by omega);rw[<- WC,<- WC]at g4;exact Jh.mp g4
 ·have e:f.t=f.b:=by have:=N.le;omega
  rw[e,JI f.b];exact GW _ N'.le
def NxS.sub_next {y:Yd}{gs:List Gs}(G:Giv gs.length (Qz gs) (Ze y gs)){A T T':Qm}{f:Fr}(N:NxS y gs A T f)(N':NxS y gs A T' f)(lt:f.t<f.b){k:Nat}(hk:k<gs.length)(hT:T' k=true):T k=true:=by
 refine Decidable.byContradiction fun c=>?_;have hw:1<=wS gs.length (Qz gs) (fun k=>T' k && !T k):=G.wp hk (by simp[hT,c])
 have g1:=N.grow lt (fun k=>T' k && !T k) (fun k hk e=>by
  obtain⟨e1,e2⟩:=GX.mp e
  exact⟨N'.dis k hk e1,by simpa using e2⟩) hw
 have g2:=G.sub (fun k=>A k||T k) (fun k=>A k||T' k);have e1:Ze y gs (fun k=>(A k||T k)||(A k||T' k))=Ze y gs (fun k=>(A k||T k)||(T' k && !T k)):=G.ext _ _ fun k _=>by cases A k<;>cases T k<;>cases T' k<;>rfl
 have e2:Ze y gs (fun k=>(A k||T k)&&(A k||T' k))=Ze y gs (fun k=>A k||(T k&&T' k)):=G.ext _ _ fun k _=>by cases A k<;>cases T k<;>cases T' k<;>rfl
 have g3:=N.up (fun k=>T k&&T' k) fun k hk e=>N.dis k hk (GX.mp e).1;have g4:=N'.tight lt;have e3:wS gs.length (Qz gs) T'=wS gs.length (Qz gs) (fun k=>T k&&T' k)+wS gs.length (Qz gs) (fun k=>T' k && !T k):=Ju fun k _=>by cases c1:T k<;>cases c2:T' k<;>simp
 rw[e1,e2]at g2;rw[e3]at g4;have b1:=N.ok.1;generalize Ze y gs (fun k=>(A k||T k)||(T' k && !T k))=x1 at g1 g2;generalize Ze y gs (fun k=>A k||T k)=x2 at g1 g2;generalize Ze y gs (fun k=>A k||(T k&&T' k))=x3 at g2 g3;generalize Ze y gs (fun k=>A k||T' k)=x4 at g2 g4;generalize Ze y gs A=x5 at g3 g4;have g5:(f.b:Int)*(x1+x3)<=(f.b:Int)*(x2+x4):=XH g2 (by omega);simp only[Ww,JH]at g1 g3 g4 g5;omega
def NxS.same {y:Yd}{gs:List Gs}(G:Giv gs.length (Qz gs) (Ze y gs)){A T T':Qm}{f f':Fr}(N:NxS y gs A T f)(N':NxS y gs A T' f'):f=f'/\∀k,k<gs.length->T k=T' k:=by
 have e:f=f':=Hq N.ok N'.ok (Nat.le_antisymm (N'.le_next G N) (N.le_next G N'));subst e;refine⟨rfl,fun k hk=>?_⟩
 by_cases c:f.t<f.b
 ·exact JC.mpr ⟨N'.sub_next G N c hk,N.sub_next G N' c hk⟩
 ·have e:f.t=f.b:=by have:=N.le;omega
  rw[N.all e k hk,N'.all e k hk]
theorem Lev.uniqA {y:Yd}{gs:List Gs}(G:Giv gs.length (Qz gs) (Ze y gs)):∀{A A':Qk} {p q p' q':Int} {lv lv':List (Fr×Qk)},Lev y gs A p q lv->Lev y gs A' p' q' lv'->(∀k,k∈A'↔k∈A)->∀k,k<gs.length->k∉A->frL lv' k=frL lv k
 |_,_,_,_,_,_,_,_,.nil a,_,_,k,hk,c=>Xi (a k hk) c
 |_,_,_,_,_,_,_,_,.cons _ _,.nil a,h,k,hk,c=>Xi ((h k).mp (a k hk)) c
 |A,A',_,_,_,_,_,_,@Lev.cons _ _ _ _ _ f T lv N r,@Lev.cons _ _ _ _ _ f' T' lv' N' r',h,k,hk,c=>by
   have eA:QE A'=QE A:=funext fun k=>decide_eq_decide.mpr (h k);have n':=N'.nxs;rw[eA]at n';obtain⟨e,eT⟩:=N.nxs.same G n'
   subst e;have em:∀k,k∈T'↔k∈T:=fun k=>by
    by_cases hk:k<gs.length
    ·exact(decide_eq_decide.mp (eT k hk)).symm
    ·exact⟨fun z=>Xi (N'.nd.mem k z) hk,fun z=>Xi (N.nd.mem k z) hk⟩
   show(if k∈T' then f else frL lv' k)=(if k∈T then f else frL lv k)
   by_cases z:k∈T
   ·rw[Xb z,Xb ((em k).mpr z)]
   ·rw[Xa z,Xa fun q=>z ((em k).mp q)]
    exact Lev.uniqA G r r' (fun k=>by rw[XC,XC,h k,em k]) k hk fun q=>(XC.mp q).elim c z
def Lev.uniq {y:Yd}{gs:List Gs}(s:Sml y gs){lv lv':List (Fr×Qk)}(hL:Lev y gs [] 0 1 lv)(hL':Lev y gs [] 0 1 lv'):∀k,k<gs.length->frL lv' k=frL lv k:=fun k hk=>Lev.uniqA s.giv hL hL' (fun _=>Iff.rfl) k hk (fun z=>nomatch z)
def Om {y:Yd}{gs:List Gs}{lv:List (Fr×Qk)}(hL:Lev y gs [] 0 1 lv)(g8:gs.length<=8)(i:Nat):(Yw (lv.take i)).length<=8:=((Os hL i).ok g8).len
def Tj {lv:List (Fr×Qk)}{i:Nat}(hi:i<lv.length):(Yw (lv.take (i+1))).length=(Yw (lv.take i)).length+lv[i].2.length:=by
 unfold Yw;rw[WB,XM hi,JE,Xv];simp
inductive R_fshares:List OT->(OT->Prop)->Prop
 |mk {y:Yd} {gs:List Gs} (h:Sml y gs):R_fshares [.fz (QS y),.fz (.list (gs.map QB))] (fun r=>∃lv,Lev y gs [] 0 1 lv/\r=.ol ((List.range gs.length).map fun k=>QU (frL lv k)))
def BH:Qq ZaR Zaa (Q8 DF):=by walk_at"p"
def Oo (T:Bl mg) (D:Df K mg "fair_shares" DF Zaa) (XbM:Qy P w K mg base "fair_levels" Zaa 9 (Zy K R_levels)):Qy P w K mg base "fair_shares" Zaa 10 (Zy K R_fshares):=by
 refine D.evD BH (fun ts Φ h=>by cases h;rfl) (fun _ _ _ _ s H E ts Φ hr h=>?_)
 cases h with
 |@mk y gs h =>
   refine⟨_,(Qx (QQ (i:=2) BH.nd rfl (Or.inr rfl) A6)
 (Qx (ZC PassesOwn.never rfl (Vq (QH XbM hr (Qo (pv 0) (Qo (pv 1) Qr)))) (Vs (n:=2) rfl (Zo (QP (i:=3) BH.nd rfl Qa) (Zo (QP (i:=4) BH.nd rfl Qa) Vp))) (QA (ZC PassesOwn.never rfl (Vq (pv 4)) (QP (i:=5) BH.nd rfl Qa) (QA (SQ (W4 hr) (pv 2) (pv 5) (pv 3) rfl)))))
 (QA (QT (Yf (NX:=ZaR) (sc:=Q8 DF) (N:=["number","shares"]) (f:=[none,some 2]) rfl (by decide +kernel) rfl rfl (VD rfl T.range (Qo (Z2 Ym (by rfl) T.len Yk (Qo (pv 1) Qr)) Qr)) (fun _=>(QP (i:=0) (show(["number","shares"]:Qh).Nodup by decide +kernel) rfl Qa)) (fun _=>Z5) (fun _=>ZT) (fun _=>(Ku (W4 hr) (pv 1) (pv 0) (fun _ _=>rfl)))))))),?_⟩
   show Q9 K _ [some _,some _,none,none,none,none] _
   walk_at"x"
   have g8:=h.g8;have gl:(gs.map QB).length=gs.length:=by simp
   refine QG (Wr (Φ:=fun r=>∃v,r=.own v (dkP [])) (EvX.d Ee fun v=>⟨v,rfl⟩) (fun r hr'=>?_));obtain⟨v,rfl⟩:=hr'
   walk_at"d"
   refine QG (An (Ψ:=fun ds=>∃lv,Lev y gs [] 0 1 lv/\ds=lv.map Wg) (Az (Yj (Qt (Qp rfl) (Qt (Qp rfl) QD)) (R_levels.mk h)) ?im) (fun ds hds=>?_))
   case im =>
    rintro r ⟨lv,hL,_,rfl⟩
    exact⟨_,rfl,lv,hL,rfl⟩
   obtain⟨lv,hL,rfl⟩:=hds;refine⟨fun i ρ'=>∃kvs a b c,(∀k:Nat,(VS kvs (.inl (k:Int))).getD .none=shL (lv.take i) k)/\kvs.length<=(Yw (lv.take i)).length/\ρ'=[some (.fz (QS y)),some (.fz (.list (gs.map QB))),some (.own v (dkP kvs)),a,b,c],⟨[],none,none,none,fun k=>rfl,X4 _,rfl⟩,?stE,?finE⟩
   case stE =>
    rintro i d _ hd ⟨kvs,a,b,c,hv,hl,rfl⟩
    have hi:i<lv.length:=by
     have:=(Xe.mp hd).1
     simpa using this
    obtain rfl:d=Wg lv[i]:=by simpa [hi] using hd.symm
    have l8:=Om hL g8 (i+1);rw[Tj hi]at l8;refine⟨_,Yv (ds:=[QU lv[i].1,.list (QW lv[i].2)]) (Z8 Zj (Z8 Zj Y6)) rfl,?_⟩
    walk_at"d"
    refine YO (ds:=QW lv[i].2) (fun j ρ'=>∃kvs c,(∀k:Nat,(VS kvs (.inl (k:Int))).getD .none=if k∈lv[i].2.take j then QU lv[i].1 else shL (lv.take i) k)/\kvs.length<=(Yw (lv.take i)).length+j/\ρ'=[some (.fz (QS y)),some (.fz (.list (gs.map QB))),some (.own v (dkP kvs)),some (.fz (QU lv[i].1)),some (.fz (.list (QW lv[i].2))),c]) (Vv (Qp rfl)) ⟨kvs,c,fun k=>by simpa using hv k,hl,rfl⟩ ?st2 ?fin2
    case st2 =>
     rintro j d _ hd2 ⟨kvs,c,hv,hl,rfl⟩
     have hj:j<lv[i].2.length:=by
      have:=(Xe.mp hd2).1
      simpa [QW] using this
     obtain rfl:d=.int ((lv[i].2[j]:Nat):Int):=by simpa [QW,hj] using hd2.symm
     refine⟨_,Zj,?_⟩
     walk_at"d"
     refine ET (k:=.inl ((lv[i].2[j]:Nat):Int)) rfl (Qp rfl) (Qp rfl) (VX (by omega)) ?_;refine⟨_,_,fun k=>?_,?_,rfl⟩
     ·rw[AJ]
      have em:k∈lv[i].2.take (j+1)↔k∈lv[i].2.take j\/k=lv[i].2[j]:=by
       rw[WB,XM hj,XC];simp
      by_cases c:k=lv[i].2[j]
      ·rw[Xb (by rw[c]),Xb (em.mpr (.inr c))]
       rfl
      ·rw[Xa (fun z=>c (by injection z with z;omega)),hv k]
       by_cases c2:k∈lv[i].2.take j
       ·rw[Xb c2,Xb (em.mpr (.inl c2))]
       ·rw[Xa c2,Xa (fun z=>(em.mp z).elim c2 c)]
     ·have:=II kvs (.inl ((lv[i].2[j]:Nat):Int)) (QU lv[i].1)
      omega
    case fin2 =>
     rintro _ ⟨kvs,c,hv,hl,rfl⟩
     have ln:(QW lv[i].2).length=lv[i].2.length:=by simp[QW]
     rw[ln]at hv hl;rw[WE]at hv;refine⟨kvs,_,_,_,fun k=>?_,?_,rfl⟩
     ·rw[hv k,Ps hi k]
     ·rw[Tj hi]
      exact hl
   case finE =>
    rintro _ ⟨kvs,a,b,c,hv,hl,rfl⟩
    rw[Xh,WE]at hv;refine Ac 2 rfl ?_
    walk_at"d"
    refine YM (VA (xs:=List.range gs.length) (enc:=fun(k:Nat)=>PyData.int (k:Int)) (h:=fun k=>QU (frL lv k)) ?ei (by simp;omega) ?el) ⟨lv,hL,rfl⟩
    case ei =>
     refine EvI.cast (Ws (Qt (Jz (Qp rfl)) QD) (by rw[z62,gl];omega) (by rw[z62,gl];omega)) ?_;rw[gl,Xl];unfold ZQ;refine XQ fun i _=>?_;rw[Y2]
    case el =>
     intro k hk c;refine⟨_,Zj,?_⟩
     walk_at"e"
     refine A9 (k:=.inl (k:Int)) rfl (Qp rfl) ?_;have e:=hv k;rw[hL.sh_fr (Xn.mp hk)]at e;cases z:VS kvs (.inl (k:Int)) with
     |none=>rw[z]at e;cases e
     |some d=>rw[z]at e;rw[<- e];rfl
def VT (L:List (Ql)):List (Qd):=L.map fun r=>r.map PyData.int
def fzG {ρ:QL}{t:TE}{r:OT}{d:PyData}(h:EvO K t ρ r)(ed:WG r=some d):Qs K t ρ d:=fun H0 F σ H Q S q=>h H0 F σ H Q S fun F' H' v p x hp ok=>by
 refine q (frF F' H' p) H' v ⟨x.hh,x.ff.trans (Wp fun a ha=>(ok.there a ha).1),Ud x.fh,fun a ha=>?_⟩ (ok.frz ed)
 by_cases z:a∈p
 ·exact .inr (hp a z)
 ·rw[Yq z]at ha;exact x.fr a ha
def llD (L:List (Ql)):PyData:=.list ((VT L).map PyData.list)
def CS (L:List (Ql)):(VT L).map PyData.list=L.map fun r=>.list (r.map PyData.int):=by
 unfold VT;rw[Xw];rfl
def Md (L:List (Ql)):Ql:=L.map List.sum
inductive R_totals:List OT->OT->Prop
 |mk {L:List (Ql)} (h:L.length<=1000):R_totals [.fz (llD L)] (.ol ((Md L).map PyData.int))
def ZjF:Qq Zbi Zbi (Q8 D9):=by walk_at"p"
def Iy (T:Bl mg) (D:Df K mg "totals_of" D9 Zbi):Qy P w K mg base "totals_of" Zbi 1 (QC (K:=K) R_totals):=by
 refine D.ev ZjF (fun ts r h=>by cases h;rfl) (fun _ _ _ _ s H E ts r hr h=>?_)
 cases h with
 |@mk L h =>
   refine⟨_,(QA (QT (Yf (NX:=Zbi) (sc:=Q8 D9) (N:=["takes"]) (f:=[none]) rfl (by decide +kernel) rfl rfl (Vq (pv 0)) (fun _=>(QP (i:=0) (show(["takes"]:Qh).Nodup by decide +kernel) rfl Qa)) (fun _=>Z5) (fun _=>ZT) (fun _=>(Z2 UG (by rfl) T.sum UI (Qo (pv 0) Qr)))))),?_⟩;show Q9 K _ [some _] _
   walk_at"x"
   refine YM (EvO.cast (VA (xs:=L) (enc:=fun r=>.list (r.map PyData.int)) (h:=fun r=>.int r.sum) (EvI.cast (Vv (ds:=(VT L).map PyData.list) (Qp rfl)) (CS L)) h ?el) (by unfold Md;rw[Xw];rfl)) rfl;intro x hx c;refine⟨_,by walk_at"g",?_⟩
   walk_at"e"
   exact JZ (ns:=x) (Qp rfl) rfl
def QO (n T:Nat)(f:Nat->Qn):List (Qd):=(List.range n).map fun k=>(List.range T).map fun t=>PyData.int (f k t)
def GL (n T:Nat)(f:Nat->Qn):(QO n T f).length=n:=by simp[QO]
def Um {n T k:Nat}(f:Nat->Qn)(hk:k<n):(QO n T f)[k]?=some ((List.range T).map fun t=>PyData.int (f k t)):=by simp[QO,hk]
def Pd {α:Type}{n j:Nat}{f g:Nat->α}(hj:j<n)(e1:∀l,l<n->l≠j->g l=f l){v:α}(e2:g j=v):((List.range n).map f).set j v=(List.range n).map g:=by
 apply List.ext_getElem?
 intro i;by_cases hi:i=j
 ·subst hi
  rw[XL (by simpa using hj)];simp[hj,e2]
 ·rw[XT (Ne.symm hi)]
  by_cases h:i<n
  ·simp[h,e1 i h hi]
  ·simp[h]
def Tl {n T a t:Nat}(f:Nat->Qn)(v:Int)(ha:a<n)(ht:t<T):(QO n T f).set a (((List.range T).map fun s=>PyData.int (f a s)).set t (.int v))=QO n T (Ys f a t v):=by
 unfold QO;refine Pd ha (fun l hl hn=>XQ fun s _=>?_) ?_
 ·unfold Ys
  rw[Xa (fun z=>hn z.1)]
 ·symm
  refine Pd ht (fun s hs hn=>?_) ?_
  ·unfold Ys
   rw[Xa (fun z=>hn z.2)]
  ·unfold Ys
   rw[Xb ⟨rfl,rfl⟩]
def IQ {y:Yd}(ok:y.Ok){j a t:Nat}{v:Int}(hj:j<y.ls.length)(e:QZ y j=some a)(g:Nat->Qn):WK y j t v g=WK y a t v (Ys g j t (g j t+v)):=by
 have la:=JQ ok hj e
 funext l s
 unfold WK Ys;rw[P3 ok hj e];have nj:¬j∈upL y a:=fun z=>by have:=G2 y a j z;omega
 by_cases hs:s=t
 ·subst hs
  by_cases hl:l=j
  ·subst hl
   simp[nj]
  ·simp[hl]
 ·simp[hs]
def OZ {y:Yd}(ok:y.Ok){t:Nat}{v:Int}(g:Nat->Qn):WK y 0 t v g=Ys g 0 t (g 0 t+v):=by
 funext l s
 unfold WK Ys;rw[B2 ok];by_cases hs:s=t
 ·subst hs
  by_cases hl:l=0
  ·subst hl;simp
  ·simp[hl]
 ·simp[hs]
def NC {n T:Nat}{f g:Nat->Qn}(h:∀k t,k<n->t<T->f k t=g k t):QO n T f=QO n T g:=by
 unfold QO;refine XQ fun k hk=>XQ fun t ht=>?_;rw[h k t (Xn.mp hk) (Xn.mp ht)]
def DZ (n:Nat):(List.replicate n [PyData.int 0]).flatten=(List.range n).map fun _=>PyData.int 0:=by
 rw[SJ];apply List.ext_getElem?;intro i;by_cases h:i<n
 ·simp[h]
 ·simp[h]
def gAt (gs:List Gs)(i:Nat):Gs:=gs.getD i default
structure FillOk (y:Yd)(gs:List Gs)(k:Int)(f:Nat->Qn):Prop where
 sum:∀i,i<gs.length->Qv (f i) y.T<=(gAt gs i).want*k
 item:∀i t,i<gs.length->t<y.T->0<=f i t/\f i t<=(gAt gs i).most*k*(if ZH (gAt gs i) (t:Int)=true then 1 else 0)
 load:∀l t,l<y.ls.length->t<y.T->ZU y gs.length (fun i=>(gAt gs i).line) (fun i=>f i t) l<=Zi y l t*k
structure GBd (y:Yd)(g:Gs):Prop where
 ln:g.line<y.ls.length
 w0:0<=g.want
 w1:g.want<10^300
 m0:0<=g.most
 m1:g.most<10^300
def Fv {y:Yd}{g:Gs}(h:g.Ok y):GBd y g:=⟨h.ln,by have:=h.w1;omega,h.w2,by have:=h.m1;omega,h.m2⟩
def ZM (y:Yd)(gs:List Gs)(f:Nat->Qn)(i:Nat):Nat->Qn:=fun l t=>ZU y i (fun j=>(gAt gs j).line) (fun j=>f j t) l
def Wx (y:Yd)(gs:List Gs)(f:Nat->Qn)(i t:Nat):Nat->Qn:=fun l s=>ZM y gs f i l s+if s<t then f i s*ind (l∈upL y (gAt gs i).line) else 0
def EE {y:Yd}{gs:List Gs}{f:Nat->Qn}{i:Nat}:QO y.ls.length y.T (Wx y gs f i y.T)=QO y.ls.length y.T (ZM y gs f (i+1)):=NC fun l t _ ht=>by
 unfold Wx ZM ZU;rw[Xb ht];rfl
def EU {y:Yd}{gs:List Gs}{f:Nat->Qn}{i t:Nat}:QO y.ls.length y.T (WK y (gAt gs i).line t (f i t) (Wx y gs f i t))=QO y.ls.length y.T (Wx y gs f i (t+1)):=NC fun l s _ _=>by
 unfold WK Wx;by_cases e:s=t
 ·subst e
  by_cases h:l∈upL y (gAt gs i).line
  ·rw[Xb ⟨rfl,h⟩,Xa (by omega),Xb (by omega)]
   simp[ind,h]
  ·rw[Xa (fun z=>h z.2),Xa (by omega),Xb (by omega)]
   simp[ind,h]
 ·rw[Xa (fun z=>e z.1)]
  by_cases h:s<t
  ·rw[Xb h,Xb (by omega)]
  ·rw[Xa h,Xa (by omega)]
def MH {ρ:QL}{D:PEnds}{wi:TI}{g:TG}{tbd:TS}{ds:Qd}(R:Nat->QL)(Q:Nat->Prop)(hi:EvI K wi ρ ds)(h0:Fgt ρ (R 0))(q0:Q 0)
 (hs:∀(i:Nat) (d:PyData),ds[i]?=some d->Q i->∃ρ2,GTo K g d (R i) ρ2/\Q9 K tbd ρ2 { nx:=fun ρ'=>Fgt ρ' (R (i+1))/\Q (i+1),ct:=fun ρ'=>Fgt ρ' (R (i+1))/\Q (i+1),bk:=D.nx,rt:=D.rt }) (hd:∀ρ',Fgt ρ' (R ds.length)->Q ds.length->D.nx ρ'):Q9 K (Gm wi g tbd) ρ D:=by
 refine YO (fun i ρ'=>Fgt ρ' (R i)/\Q i) hi ⟨h0,q0⟩ (fun i d ρ' e f=>?_) (fun ρ' h=>hd ρ' h.1 h.2);obtain⟨ρ2,h1,h2⟩:=hs i d e f.2
 exact⟨ρ2,fun H0 F σ H x Q S r q=>h1 H0 F σ H x Q (S.fgt f.1) r q,h2⟩
inductive R_isfill:List OT->OT->Prop
 |mk {y:Yd} {gs:List Gs} {k:Int} {f:Nat->Qn} (ok:y.Ok) (hg:∀g∈gs,GBd y g) (g8:gs.length<=8) (k0:0<=k) (k1:k<10^300) (b:Bool) (hb:b=true↔FillOk y gs k f):R_isfill [.fz (QS y),.fz (.list (gs.map QB)),.fz (.int k),.fz (.list ((QO gs.length y.T f).map PyData.list))] (.fz (.bool b))
def Fe {a b:Int}(h0:0<=a)(h1:a<10^600)(h2:0<=b)(h3:b<=1):IntMulOk a b:=HH (m:=2000) (n:=1) h0 (X5 h1 (by decide +kernel)) h2 (by omega) (by decide)
def FG {a b:Int}(h0:0<=a)(h1:a<10^300)(h2:0<=b)(h3:b<10^300):a*b<10^600:=by
 have e:(10:Int)^600=10^300*10^300:=by decide +kernel
 rw[e];exact XY (XH (by omega) h0) (NV h1 (by decide +kernel))
def YC:Qq Zah Zab (Q8 DI):=by walk_at"p"
def Iz (T:Bl mg) (D:Df K mg "_law_is_filling" DI Zab):Qy P w K mg base "_law_is_filling" Zab 1 (QC (K:=K) R_isfill):=by
 refine D.ev YC (fun ts r h=>by cases h;rfl) (fun _ _ _ _ s H E ts r hr h=>?_)
 cases h with
 |@mk y gs k f ok hg g8 k0 k1 b hb =>
   have fls:¬FillOk y gs k f->b=false:=fun h=>by
    cases e:b with
    |false=>rfl
    |true=>exact Xi (hb.mp e) h
   refine⟨_,(Qx (Y1 (i:=4) YC.nd rfl rfl (NX:=Zah) (sc:=Q8 DI) (N:=["_law_line","_law_yard_here"]) (f:=[none,some 0]) rfl (by decide +kernel) rfl rfl (HW (QJ QK (pv 0) Qw)) (fun _=>(QP (i:=0) (show(["_law_line","_law_yard_here"]:Qh).Nodup by decide +kernel) rfl Qa)) (fun _=>Z5) (fun _=>ZT) (fun _=>(QF HZ (V2 (Qo Qw Qr)) (QJ QK (pv 1) Qw))) rfl)
 (Qx (ZC PassesOwn.never rfl (UD rfl T.zip (Qo (pv 1) (Qo (pv 3) Qr))) (Vs (n:=2) rfl (Zo (QP (i:=5) YC.nd rfl Qa) (Zo (QP (i:=6) YC.nd rfl Qa) Vp))) (Qx (YS (pv 5) (Vs (n:=5) rfl (Zo (QP (i:=7) YC.nd rfl Qa) (Zo (QP (i:=8) YC.nd rfl Qa) (Zo (QP (i:=9) YC.nd rfl Qa) (Zo (QP (i:=10) YC.nd rfl Qa) (Zo (QP (i:=11) YC.nd rfl Qa) Vp)))))))
 (Qx (ZF (ZX Jp (Z2 UG (by rfl) T.sum UI (Qo (pv 6) Qr)) (QF YA (pv 10) (pv 2)) (ZN _)) (QA (QT U9)) ZG)
 (QA (ZC PassesOwn.never rfl (VD rfl T.range (Qo (QJ QK (pv 0) Qw) Qr)) (QP (i:=12) YC.nd rfl Qa) (Qx (ZF (M5 (AT Gw Gw Qw (QJ QK (pv 6) (pv 12)) (QF YA (QF YA (pv 11) (pv 2)) (WX Sn (by rfl) T.int Sc (Qo (P6 Gw Gw (pv 8) (pv 12) (pv 9)) Qr))))) (QA (QT U9)) ZG)
 (Qx (QQ (i:=13) YC.nd rfl Qa (pv 7))
 (QA (J4 PassesOwn.never (Wm (Ue (pv 13))) (Qx (YS (QF Vr (QJ QK (QJ QK (pv 4) (pv 13)) (pv 12)) (QJ QK (pv 6) (pv 12))) (G6 (QJ QK (pv 4) (pv 13)) (pv 12) Jc))
 (QA (QQ (i:=13) YC.nd rfl Qa (QJ QK (QJ QK (QJ QK (pv 0) Qw) (pv 13)) Qw)))))))))))))
 (Qx (ZC PassesOwn.never rfl (VD rfl T.range (Qo (Z2 Ym (by rfl) T.len Yk (Qo (pv 4) Qr)) Qr)) (QP (i:=7) YC.nd rfl Qa) (QA (ZC PassesOwn.never rfl (VD rfl T.range (Qo (QJ QK (pv 0) Qw) Qr)) (QP (i:=12) YC.nd rfl Qa) (QA (ZF (ZX Jp (QJ QK (QJ QK (pv 4) (pv 7)) (pv 12)) (QF YA (QJ QK (QJ QK (QJ QK (QJ QK (pv 0) Qw) (pv 7)) Qw) (pv 12)) (pv 2)) (ZN _)) (QA (QT U9)) ZG)))))
 (QA (QT U9))))),?_⟩
   show Q9 K _ [some _,some _,some _,some _,none,none,none,none,none,none,none,none,none,none] _
   walk_at"x"
   have l5:=ok.l5;have t8:=ok.t8;have eT:∀{ρ:QL},ρ[0]?=some (some (.fz (QS y)))->Qs K (tOp (rIx K) (Za 0) (tC (.int 0))) ρ (.int (y.T:Int)):=fun e=>ZB (ds:=[PyData.int (y.T:Int),.tuple (y.ls.map Ve)]) (Qp e) QX rfl;have eLs:∀{ρ:QL},ρ[0]?=some (some (.fz (QS y)))->Qs K (tOp (rIx K) (Za 0) (tC (.int 1))) ρ (.tuple (y.ls.map Ve)):=fun e=>ZB (ds:=[PyData.int (y.T:Int),.tuple (y.ls.map Ve)]) (Qp e) QX rfl;refine QG (ZW (EvO.cast (JY (xs:=y.ls) (enc:=Ve) (h:=fun _=>(List.range y.T).map fun _=>PyData.int 0) ?ei0 (by omega) ?el0) (show _=OT.oll (QO y.ls.length y.T (ZM y gs f 0)) by unfold QO;rw[Tk];rfl)) ?_)
   case ei0=>exact R9 (eLs rfl)
   case el0 =>
    intro x hx c;refine⟨_,by walk_at"g",?_⟩
    walk_at"e"
    exact EvO.cast (Kk (ds:=[.int 0]) (k:=(y.T:Int)) (EvO.fz (Y8 (Z1 QX Vf) (by decide))) (ZB (ds:=[PyData.int (y.T:Int),.tuple (y.ls.map Ve)]) (Qp rfl) QX rfl) (by omega) (by simp;omega) (by omega)) (by rw[Xl,DZ])
   walk_at"d"
   refine QG (MH (ds:=VH (gs.map QB) ((QO gs.length y.T f).map PyData.list)) (fun i=>[some (.fz (QS y)),some (.fz (.list (gs.map QB))),some (.fz (.int k)),some (.fz (.list ((QO gs.length y.T f).map PyData.list))),some (.oll (QO y.ls.length y.T (ZM y gs f i))),none,none,none,none,none,none,none,none,none]) (fun i=>∀j,j<i->Qv (f j) y.T<=(gAt gs j).want*k/\∀t,t<y.T->0<=f j t/\f j t<=(gAt gs j).most*k*(if ZH (gAt gs j) (t:Int)=true then 1 else 0)) ?ei ⟨rfl,rfl,rfl,rfl,rfl,trivial⟩ (fun j hj=>Xi hj (JK j)) ?st ?fin)
   case ei=>exact Jr (Qt (Qp rfl) (Qt (Qp rfl) QD))
   case fin =>
    intro ρ' hf Q1;refine VW hf ?_;have el:(VH (gs.map QB) ((QO gs.length y.T f).map PyData.list)).length=gs.length:=by rw[B6,Xh,Xh,GL];omega
    rw[el]at Q1 ⊢;refine Br 4 rfl rfl ?_
    walk_at"d"
    have tl:((QO y.ls.length y.T (ZM y gs f gs.length)).map PyData.list).length=y.ls.length:=by rw[Xh,GL]
    refine QG (MH (ds:=ZQ 0 y.ls.length) (fun i=>[some (.fz (QS y)),some (.fz (.list (gs.map QB))),some (.fz (.int k)),some (.fz (.list ((QO gs.length y.T f).map PyData.list))),some (.fz (.list ((QO y.ls.length y.T (ZM y gs f gs.length)).map PyData.list))),none,none,none,none,none,none,none,none,none]) (fun l=>∀j,j<l->∀t,t<y.T->ZM y gs f gs.length j t<=Zi y j t*k) ?ei5 ⟨rfl,rfl,rfl,rfl,rfl,trivial⟩ (fun j hj=>Xi hj (JK j)) ?st5 ?fin5)
    case ei5=>exact EvI.cast (Ws (Qt (Jz (Qp rfl)) QD) (by rw[z62,tl];omega) (by rw[z62,tl];omega)) (WA rfl (by rw[tl];omega))
    case fin5 =>
     intro ρ' hf Q2;rw[Y0]at Q2;have e:b=true:=hb.mpr ⟨fun i hi=>(Q1 i hi).1,fun i t hi ht=>(Q1 i hi).2 t ht,fun l t hl ht=>Q2 l hl t ht⟩;subst e;exact VW hf (ZD Go rfl)
    case st5 =>
     intro l d hd Q2;obtain⟨hl,rfl⟩:=YB hd;rw[Y2];refine⟨_,by walk_at"g",?_⟩
     walk_at"d"
     refine MH (ds:=ZQ 0 y.T) (fun i=>[some (.fz (QS y)),some (.fz (.list (gs.map QB))),some (.fz (.int k)),some (.fz (.list ((QO gs.length y.T f).map PyData.list))),some (.fz (.list ((QO y.ls.length y.T (ZM y gs f gs.length)).map PyData.list))),none,none,some (.fz (.int (l:Int))),none,none,none,none,none,none]) (fun t=>∀s,s<t->ZM y gs f gs.length l s<=Zi y l s*k) ?ei6 ⟨rfl,rfl,rfl,rfl,rfl,rfl,trivial⟩ (fun j hj=>Xi hj (JK j)) ?st6 ?fin6
     case ei6=>exact EvI.cast (Ws (Qt (eT rfl) QD) (by rw[z62];omega) (by rw[z62];omega)) (WA rfl (by omega))
     case fin6 =>
      intro ρ' hf Q3;rw[Y0]at Q3;refine⟨Fgt.trans hf ⟨rfl,rfl,rfl,rfl,rfl,trivial⟩,fun j hj t ht=>?_⟩
      by_cases e:j=l
      ·rw[e];exact Q3 t ht
      ·exact Q2 j (by omega) t ht
     case st6 =>
      intro t d hd Q3;obtain⟨ht,rfl⟩:=YB hd;rw[Y2];refine⟨_,by walk_at"g",?_⟩
      walk_at"d"
      have a1:atI ((QO y.ls.length y.T (ZM y gs f gs.length)).map PyData.list) (l:Int)=some (.list ((List.range y.T).map fun t=>PyData.int (ZM y gs f gs.length l t))):=Y9 (by rw[Xj,Um _ hl];rfl);have a2:atI ((List.range y.T).map fun t=>PyData.int (ZM y gs f gs.length l t)) (t:Int)=some (.int (ZM y gs f gs.length l t)):=by rw[Gz (by omega) (by omega),Xl]
      have hbl:(y.ls.getD ((l:Nat):Int).toNat default).bs.length=y.T:=by rw[Xl];exact GF ok hl
      have hb:(y.ls.getD ((l:Nat):Int).toNat default).bs.getD ((t:Nat):Int).toNat 0=Zi y l t:=by
       rw[Xl,Xl];exact(US hl).symm
      have lm:Z9 y l∈y.ls:=by simp[Z9,hl]
      have bb:0<=Zi y l t/\Zi y l t<10^300:=by
       rw[US hl];have ll:=GF ok hl
       have:(Z9 y l).bs.getD t 0=(Z9 y l).bs[t]'(by omega):=by simp[List.getD,show t<(Z9 y l).bs.length by omega]
       rw[this];exact ok.bb _ lm _ (Xy _)
      refine ZV (b:=decide (ZM y gs f gs.length l t > Zi y l t*k)) (Zz.cast (ZO (Jt (Y7 (Y7 (Qp rfl) (Qp rfl) a1) (Qp rfl) a2) (Zs (x:=Zi y l t) (Qs.cast (ZB (ds:=(y.ls.getD ((l:Nat):Int).toNat default).bs.map PyData.int) (ZB (ds:=[upD (y.ls.getD ((l:Nat):Int).toNat default).up,.tuple ((y.ls.getD ((l:Nat):Int).toNat default).bs.map PyData.int)]) (ZB (eLs rfl) (Qp rfl) (UM (f:=Ve) (by omega) (by omega))) QX rfl) (Qp rfl) (MN (by omega) (by omega))) (by rw[hb])) (Qp rfl) (VJ bb.1 bb.2 k0 k1)))) rfl) (fun c=>?bad6) (fun c=>ZI ⟨⟨rfl,rfl,rfl,rfl,rfl,rfl,trivial⟩,fun s hs=>?ok6⟩)
      case bad6 =>
       have c:=Xq c
       have e:=fls fun h=>by
        have:=h.load l t hl ht
        unfold ZM at c;omega
       subst e;exact ZD Go rfl
      case ok6 =>
       have c:=XO c
       by_cases e:s=t
       ·rw[e];omega
       ·exact Q3 s (by omega)
   case st =>
    intro i d hd Q1;obtain⟨a,bb,e1,e2,rfl⟩:=Dg hd
    have hi:i<gs.length:=by
     have:=(Xe.mp e1).1
     simpa using this
    have eg:gAt gs i=gs[i]:=by simp[gAt,List.getD,hi]
    obtain rfl:a=QB (gAt gs i):=by rw[eg];simpa [hi] using e1.symm
    obtain rfl:bb=.list ((List.range y.T).map fun t=>PyData.int (f i t)):=by
     rw[Xj,Um _ hi]at e2;simpa using e2.symm
    have gb:GBd y (gAt gs i):=by rw[eg];exact hg _ (Xy _)
    have hitem:∀t,t<y.T->¬(0<=f i t/\f i t<=(gAt gs i).most*k*(if ZH (gAt gs i) (t:Int)=true then 1 else 0))->b=false:=fun t ht c=>fls fun h=>c (h.item i t hi ht);have hsum:¬Qv (f i) y.T<=(gAt gs i).want*k->b=false:=fun c=>fls fun h=>c (h.sum i hi)
    have hnx:Qv (f i) y.T<=(gAt gs i).want*k->(∀t,t<y.T->0<=f i t/\f i t<=(gAt gs i).most*k*(if ZH (gAt gs i) (t:Int)=true then 1 else 0))->∀j,j<i+1->Qv (f j) y.T<=(gAt gs j).want*k/\∀t,t<y.T->0<=f j t/\f j t<=(gAt gs j).most*k*(if ZH (gAt gs j) (t:Int)=true then 1 else 0):=fun c1 c2 j hj=>by
     by_cases e:j=i
     ·rw[e];exact⟨c1,c2⟩
     ·exact Q1 j (by omega)
    have ste:∀t,QO y.ls.length y.T (WK y (gAt gs i).line t (f i t) (Wx y gs f i t))=QO y.ls.length y.T (Wx y gs f i (t+1)):=fun t=>EU;have sta:QO y.ls.length y.T (Wx y gs f i 0)=QO y.ls.length y.T (ZM y gs f i):=NC fun l t _ _=>by unfold Wx;rw[Xa (by omega)];omega
    have sto:=EE (y:=y) (gs:=gs) (f:=f) (i:=i);refine⟨_,by walk_at"g",?_⟩
    walk_at"d"
    generalize gAt gs i=g at gb hitem hsum ste hnx;refine QG (Mt (Qp rfl) (Yv (ds:=[.int (g.line:Int),.int (g.first:Int),.int (g.last:Int),.int g.want,.int g.most]) (Z8 Zj (Z8 Zj (Z8 Zj (Z8 Zj (Z8 Zj Y6))))) rfl) ?_)
    walk_at"d"
    refine QG (ZV (b:=decide (Qv (f i) y.T > g.want*k)) (Zz.cast (ZO (Jt (JZ (ns:=(List.range y.T).map (f i)) (Qs.cast (Qp rfl) (by rw[Xw];rfl)) rfl) (Zs (Qp rfl) (Qp rfl) (VJ gb.w0 gb.w1 k0 k1)))) ?eqs) (fun c=>?bads) (fun cs=>ZI ?_))
    case eqs =>
     have e:∀n,((List.range n).map (f i)).sum=Qv (f i) n:=fun n=>by
      induction n with
      |zero=>rfl
      |succ n ih=>rw[Y3,XE,GS,ih];simp[Qv]
     rw[e]
    case bads =>
     have c:=Xq c;have e:=hsum (by omega);subst e;exact ZD Go rfl
    have cs:=XO cs;rw[<- sta];refine MH (ds:=ZQ 0 y.T) (fun t=>[some (.fz (QS y)),some (.fz (.list (gs.map QB))),some (.fz (.int k)),some (.fz (.list ((QO gs.length y.T f).map PyData.list))),some (.oll (QO y.ls.length y.T (Wx y gs f i t))),some (.fz (QB g)),some (.fz (.list ((List.range y.T).map fun t=>PyData.int (f i t)))),some (.fz (.int (g.line:Int))),some (.fz (.int (g.first:Int))),some (.fz (.int (g.last:Int))),some (.fz (.int g.want)),some (.fz (.int g.most)),none,none]) (fun t=>∀s,s<t->0<=f i s/\f i s<=g.most*k*(if ZH g (s:Int)=true then 1 else 0)) ?ei2 ⟨rfl,rfl,rfl,rfl,rfl,rfl,rfl,rfl,rfl,rfl,rfl,rfl,trivial⟩ (fun j hj=>Xi hj (JK j)) ?st2 ?fin2
    case ei2=>exact EvI.cast (Ws (Qt (eT rfl) QD) (by rw[z62];omega) (by rw[z62];omega)) (WA rfl (by omega))
    case fin2 =>
     intro ρ' hf Q4;rw[Y0,sto]at hf;rw[Y0]at Q4;exact⟨Fgt.trans hf ⟨rfl,rfl,rfl,rfl,rfl,trivial⟩,hnx (by omega) Q4⟩
    case st2 =>
     intro t d hd Q4;obtain⟨ht,rfl⟩:=YB hd;rw[Y2];refine⟨_,by walk_at"g",?_⟩
     walk_at"d"
     have hit:=hitem t ht;have ar:∀{ρ:QL},ρ[6]?=some (some (.fz (.list ((List.range y.T).map fun t=>PyData.int (f i t)))))->ρ[12]?=some (some (.fz (.int (t:Int))))->Qs K (tOp (rIx K) (Za 6) (Za 12)) ρ (.int (f i t)):=fun e6 e12=>Y7 (Qp e6) (Qp e12) (by rw[Gz (by omega) (by omega),Xl]);have mk0:0<=g.most*k:=X0 gb.m0 k0;refine QG (ZV (b := !decide (0<=f i t/\f i t<=g.most*k*(if ZH g (t:Int)=true then 1 else 0))) (Zz.cast (Ms (ZO (Kn QX (ar rfl rfl) (Zs (Zs (Qp rfl) (Qp rfl) (VJ gb.m0 gb.m1 k0 k1)) (HU (Kn (Qp rfl) (Qp rfl) (Qp rfl))) (Fe mk0 (FG gb.m0 gb.m1 k0 k1) (by split<;>omega) (by split<;>omega)))))) ?eq3) (fun c=>?bad3) (fun c3=>ZI ?_))
     case eq3 =>
      show(!(decide ((0:Int)<=f i t)&&decide (f i t<=g.most*k*(if (decide ((g.first:Int)<=(t:Int))&&decide ((t:Int)<=(g.last:Int)))=true then 1 else 0)))) = !decide (0<=f i t/\f i t<=g.most*k*(if (decide ((g.first:Int)<=(t:Int))&&decide ((t:Int)<=(g.last:Int)))=true then 1 else 0))
      rw[Bool.decide_and]
     case bad3 =>
      have e:=hit fun z=>by
       rw[YZ z]at c;cases c
      subst e;exact ZD Go rfl
     have q3:0<=f i t/\f i t<=g.most*k*(if ZH g (t:Int)=true then 1 else 0):=by simpa using c3
     have Q5:∀s,s<t+1->0<=f i s/\f i s<=g.most*k*(if ZH g (s:Int)=true then 1 else 0):=fun s hs=>by
      by_cases e:s=t
      ·rw[e];exact q3
      ·exact Q4 s (by omega)
     refine QG (Zw (Qp rfl) ?_)
     walk_at"d"
     rw[<- ste t];have hgl:=gb.ln
     generalize Wx y gs f i t=W;refine J6 (fun m ρ'=>∃W':Nat->Nat->Int,m<=y.ls.length/\(if m=0 then W' else WK y (m-1) t (f i t) W')=WK y g.line t (f i t) W /\
      ρ'=[some (.fz (QS y)),some (.fz (.list (gs.map QB))),some (.fz (.int k)),some (.fz (.list ((QO gs.length y.T f).map PyData.list))),some (.oll (QO y.ls.length y.T W')),some (.fz (QB g)),some (.fz (.list ((List.range y.T).map fun t=>PyData.int (f i t)))),some (.fz (.int (g.line:Int))),some (.fz (.int (g.first:Int))),some (.fz (.int (g.last:Int))),some (.fz (.int g.want)),some (.fz (.int g.most)),some (.fz (.int (t:Int))),some (.fz (if m=0 then .none else .int ((m-1:Nat):Int)))]) (g.line+1) ⟨W,by omega,by rw[Xa (by omega),XS],by rw[Xa (by omega),XS]⟩ ?ws
     rintro m ρ' ⟨W',hm,he,rfl⟩
     by_cases m0:m=0
     ·subst m0
      rw[Xb rfl]at he;refine⟨false,Yr (Yy (a:=.none) (Qp rfl)),fun c=>(nomatch c),fun _=>?_⟩;rw[he];exact⟨⟨rfl,rfl,rfl,rfl,rfl,rfl,rfl,rfl,rfl,rfl,rfl,rfl,trivial⟩,Q5⟩
     ·obtain⟨j,rfl⟩:∃j,m=j+1:=⟨m-1,by omega⟩
      rw[Xa (by omega),XS]at he;rw[Xa (by omega),XS];have hj:j<y.ls.length:=by omega
      refine⟨true,Yr (Yy (a:=.int (j:Int)) (Qp rfl)),fun _=>?_,fun c=>(nomatch c)⟩;have a1:atI ((QO y.ls.length y.T W').map PyData.list) (j:Int)=some (.list ((List.range y.T).map fun t=>PyData.int (W' j t))):=Y9 (by rw[Xj,Um _ hj];rfl);have a2:atI ((List.range y.T).map fun t=>PyData.int (W' j t)) (t:Int)=some (.int (W' j t)):=by rw[Gz (by omega) (by omega),Xl]
      have ix:ixN (QO y.ls.length y.T W').length (j:Int)=some j:=by
       rw[GL];have:=Gy (n:=y.ls.length) (k:=(j:Int)) (by omega) (by omega)
       rwa [Xl]at this
      have ixt:ixN ((List.range y.T).map fun t=>PyData.int (W' j t)).length (t:Int)=some t:=by
       rw[Xh,Jg];have:=Gy (n:=y.T) (k:=(t:Int)) (by omega) (by omega)
       rwa [Xl]at this
      refine QG (TH (d:=.int (W' j t+f i t)) (k:=(j:Int)) (m:=(t:Int)) rfl (VV (B7 4 rfl rfl rfl (Y7 (Y7 (Qp rfl) (Qp rfl) a1) (Qp rfl) a2)) (ar rfl rfl)) (Qp rfl) (Qp rfl) ix (Um _ hj) ixt ?_)
      walk_at"d"
      rw[Tl W' _ hj ht];have hup:(y.ls.getD ((j:Nat):Int).toNat default).up=QZ y j:=by rw[Xl];exact(BB hj).symm
      refine Zw (d:=upD (QZ y j)) (Qs.cast (ZB (ds:=[upD (y.ls.getD ((j:Nat):Int).toNat default).up,.tuple ((y.ls.getD ((j:Nat):Int).toNat default).bs.map PyData.int)]) (ZB (eLs rfl) (Qp rfl) (UM (f:=Ve) (by omega) (by omega))) QX rfl) (by rw[hup])) ?_
      walk_at"d"
      by_cases j0:j=0
      ·subst j0
       refine⟨0,by omega,Ys W' 0 t (W' 0 t+f i t),by omega,?_,?_⟩
       ·rw[Xb rfl,<- he,OZ ok]
       ·rw[ok.up0,Xb rfl]
        rfl
      ·obtain⟨a,ea,la⟩:=ok.ups j (by omega) hj
       refine⟨a+1,by omega,Ys W' j t (W' j t+f i t),by omega,?_,?_⟩
       ·rw[Xa (by omega),XS,<- he,IQ ok hj ea]
       ·rw[ea,Xa (by omega),XS]
        rfl
def AY (y:Yd)(G:Gv)(φ:Zc Nd):((Bu y G φ).map fun row=>row.map PyData.int)=QO G.m y.T fun k t=>Zr G φ t k:=by
 unfold Bu QO;rw[Xw];refine XQ fun k _=>?_
 show((List.range y.T).map _).map PyData.int=_
 rw[Xw];rfl
def at2 (L:List (Ql))(o t:Nat):Int:=(L.getD o []).getD t 0
structure Shape (n T:Nat)(L:List (Ql)):Prop where
 len:L.length=n
 row:∀r∈L,r.length=T
def Shape.at {n T o:Nat}{L:List (Ql)}(h:Shape n T L)(ho:o<n):(L.getD o []).length=T:=by
 have:o<L.length:=by rw[h.len];exact ho
 refine h.row _ ?_
 simp[List.getD,this]
def Eo (L:List (Ql)):(VT L).length=L.length:=by simp[VT]
def Tw {L:List (Ql)}{o:Nat}(h:o<L.length):(VT L)[o]?=some ((L.getD o []).map PyData.int):=by simp[VT,List.getD,h]
def AE {L:List (Ql)}{o:Nat}(h:o<L.length):atI ((VT L).map PyData.list) (o:Int)=some (.list ((L.getD o []).map PyData.int)):=by
 refine Y9 ?_;rw[Xj,Tw h];rfl
inductive R_beneath:List OT->OT->Prop
 |mk {y:Yd} {l:Nat} (ok:y.Ok) (hl:l<y.ls.length):R_beneath [.fz (QS y),.fz (.int (l:Int))] (.ol (QW (Ye y l (y.ls.length-l))))
def A3 (y:Yd)(l n:Nat):(Ye y l n).length<=n:=by
 unfold Ye;refine XI (DV _ _) ?_
 simp
def NS:Qq ["yard","line","beneath","lower"] Zau (Q8 NH):=by walk_at"p"
def OY (T:Bl mg) (D:Df K mg "lines_beneath" NH Zau) (Xbs:Qy P w K mg base "line_count" ZaQ 1 (QC (K:=K) R_count)) (XbB:Qy P w K mg base "above_of" Zau 1 (QC (K:=K) R_above)):Qy P w K mg base "lines_beneath" Zau 2 (QC (K:=K) R_beneath):=by
 refine D.ev NS (fun ts r h=>by cases h;rfl) (fun _ _ _ _ s H E ts r hr h=>?_)
 cases h with
 |@mk y l ok hl =>
   refine⟨_,(Qx (QQ (i:=2) NS.nd rfl Qa (V2 (Qo (pv 1) Qr)))
 (Qx (ZC PassesOwn.never rfl (KO rfl T.range (Qo (QF Vr (pv 1) Qw) (Qo (QH Xbs hr (Qo (pv 0) Qr)) Qr))) (QP (i:=3) NS.nd rfl Qa) (QA (ZF (ZX PO (QH XbB hr (Qo (pv 0) (Qo (pv 3) Qr))) (pv 2) rfl) (QA (V3 (WJ PySem.F.plainAttrs_list PySem.F.slot_list_append PySem.F.type_list_append WY (pv 2) (Qo (pv 3) Qr)))) ZG)))
 (QA (QT (pv 2))))),?_⟩
   show Q9 K _ [some _,some _,none,none] _
   walk_at"x"
   have l5:=ok.l5;refine QG (ZW (Y8 (ds:=[.int (l:Int)]) (Z1 (Qp rfl) Vf) (by simp)) ?_)
   walk_at"d"
   refine QG (YU (ds:=ZQ ((l+1:Nat):Int) (y.ls.length-l-1)) (fun i=>[some (.fz (QS y)),some (.fz (.int (l:Int))),some (.ol (QW (Ye y l (i+1)))),none]) ?ei ⟨rfl,rfl,by rw[AD];rfl,trivial⟩ ?st ?fin)
   case ei =>
    apply EvI.cast
    ·walk_at"ei"
    ·exact WA (by omega) (by omega)
   case st =>
    intro i d hd;obtain⟨hi,rfl⟩:=YB hd;refine⟨_,by walk_at"g",?_⟩
    walk_at"d"
    rw[show((l+1:Nat):Int)+(i:Int)=((l+(i+1):Nat):Int) by omega];obtain⟨a,e,la⟩:=ok.ups (l+(i+1)) (by omega) (by omega);have eu:upN y (l+(i+1))=a:=by unfold upN;rw[e];rfl
    have bt:=AL ok (l:=l) (n:=i+1) (by omega) (by omega) e la;have bl:=A3 y l (i+1);refine ZV (b:=decide (l∈upL y (l+(i+1)))) (FE 2 rfl ?_) (fun c=>?_) (fun c=>?_)
    ·apply Zz.cast
     ·exact ZO (HL (a:=a) (l:=Ye y l (i+1)) (Qs.cast (Zk (Qt (Qp rfl) (Qt (Qp rfl) QD)) (R_above.mk ok (by omega) (by omega))) (by rw[Xl,eu])) (Qp rfl))
     ·exact decide_eq_decide.mpr bt
    ·refine B9 (ds:=QW (Ye y l (i+1))) (d:=.int ((l+(i+1):Nat):Int)) rfl (Qp rfl) (by simp[QW];omega) ?_
     walk_at"d"
     refine⟨rfl,rfl,?_,trivial⟩;rw[Th y l (i+1),Xb (Xq c),Dc];rfl
    ·refine ZI ⟨rfl,rfl,?_,trivial⟩
     rw[Th y l (i+1),Xa (XO c),X2]
   case fin =>
    intro ρ' hf;refine VW hf ?_;rw[Y0,show y.ls.length-l-1+1=y.ls.length-l by omega];exact G7 rfl rfl
def V8 (n T:Nat)(f:Nat->Qn):List (Ql):=(List.range n).map fun o=>(List.range T).map (f o)
def M4 (y:Yd)(gs:List Gs)(L:List (Ql))(l t k:Nat):Int:=if l∈upL y (gs.getD k default).line then at2 L k t else 0
def UF (y:Yd)(gs:List Gs)(L:List (Ql))(j l t:Nat):Int:=Qv (M4 y gs L l t) j
def YQ (y:Yd)(gs:List Gs)(L:List (Ql))(l t:Nat):Int:=UF y gs L gs.length l t
def Yu (T:Nat)(f:Qn):Qd:=((List.range T).map f).map PyData.int
def Ol (l:Ql):M6 (l.map PyData.int):=fun d hd=>by
 obtain⟨i,_,rfl⟩:=XD.mp hd
 exact⟨_,rfl⟩
inductive R_lline:List OT->OT->Prop
 |mk {y:Yd} {gs:List Gs} {L:List (Ql)} {l:Nat} (ok:y.Ok) (hg:∀g∈gs,g.Ok y) (sh:Shape gs.length y.T L) (hl:l<y.ls.length):R_lline [.fz (QS y),.fz (.list (gs.map QB)),.fz (llD L),.fz (.int (l:Int))] (.ol (Yu y.T (YQ y gs L l)))
def GN:Qq Zaq Zav (Q8 BP):=by walk_at"p"
def Ar (T:Bl mg) (D:Df K mg "loads_of_line" BP Zav) (Xcc:Qy P w K mg base "lines_beneath" Zau 2 (QC (K:=K) R_beneath)) (Xbr:Qy P w K mg base "turns_of" ZaQ 1 (QC (K:=K) R_turns)) (Xbu:Qy P w K mg base "line_of" Zat 1 (QC (K:=K) R_lineof)):Qy P w K mg base "loads_of_line" Zav 3 (QC (K:=K) R_lline):=by
 refine D.ev GN (fun ts r h=>by cases h;rfl) (fun _ _ _ _ s H E ts r hr h=>?_)
 cases h with
 |@mk y gs L l ok hg sh hl =>
   refine⟨_,(Qx (QQ (i:=4) GN.nd rfl Qa (QH Xcc hr (Qo (pv 0) (Qo (pv 3) Qr))))
 (Qx (Y1 (i:=5) GN.nd rfl rfl (NX:=Zaq) (sc:=Q8 BP) (N:=["turn"]) (f:=[none]) rfl (by decide +kernel) rfl rfl (VD rfl T.range (Qo (QH Xbr hr (Qo (pv 0) Qr)) Qr)) (fun _=>(QP (i:=0) (show(["turn"]:Qh).Nodup by decide +kernel) rfl Qa)) (fun _=>Z5) (fun _=>ZT) (fun _=>Qw) rfl)
 (Qx (ZC PassesOwn.never rfl (UD rfl T.zip (Qo (pv 1) (Qo (pv 2) Qr))) (Vs (n:=2) rfl (Zo (QP (i:=6) GN.nd rfl Qa) (Zo (QP (i:=7) GN.nd rfl Qa) Vp))) (QA (ZF (ZX PO (QH Xbu hr (Qo (pv 6) Qr)) (pv 4) rfl) (QA (Y1 (i:=5) GN.nd rfl rfl (NX:=Zaq) (sc:=Q8 BP) (N:=["load","take"]) (f:=[none,none]) rfl (by decide +kernel) rfl rfl (UD rfl T.zip (Qo (pv 5) (Qo (pv 7) Qr))) (fun _=>(Vs (n:=2) rfl (Zo (QP (i:=0) (show(["load","take"]:Qh).Nodup by decide +kernel) rfl Qa) (Zo (QP (i:=1) (show(["load","take"]:Qh).Nodup by decide +kernel) rfl Qa) Vp)))) (fun _=>(Bp (n:=2) (Jb Z5 (Jb Z5 Bx)))) (fun _=>ZT) (fun _=>(QF Vr (pv 0) (pv 1))) rfl)) ZG)))
 (QA (QT (pv 5)))))),?_⟩
   show Q9 K _ [some _,some _,some _,some _,none,none,none,none] _
   walk_at"x"
   have t8:=ok.t8;have sl:=sh.len;refine QG (ZW (Ua (Qt (Qp rfl) (Qt (Qp rfl) QD)) (R_beneath.mk ok hl)) ?_)
   walk_at"d"
   refine Yi 4 rfl ?_
   walk_at"d"
   refine QG (ZW (EvO.cast (Mu (lo:=0) (n:=y.T) (h:=fun _=>.int 0) ?ei1 (by omega) ?el1) (show _=OT.ol (Yu y.T (UF y gs L 0 l)) by unfold Yu;rw[Xw];rfl)) ?_)
   case ei1 =>
    apply EvI.cast
    ·walk_at"ei"
    ·exact WA rfl (by omega)
   case el1 =>
    intro k hk c;exact⟨_,by walk_at"g",QX⟩
   walk_at"d"
   refine QG (YU (ds:=VH (gs.map QB) ((VT L).map PyData.list)) (fun j=>[some (.fz (QS y)),some (.fz (.list (gs.map QB))),some (.fz (llD L)),some (.fz (.int (l:Int))),some (.fz (.list (QW (Ye y l (y.ls.length-l))))),some (.ol (Yu y.T (UF y gs L j l))),none,none]) ?ei2 ⟨rfl,rfl,rfl,rfl,rfl,rfl,trivial⟩ ?st2 ?fin2)
   case ei2=>exact Jr (Qt (Qp rfl) (Qt (Qp rfl) QD))
   case st2 =>
    intro j d hd;have hj:j<gs.length:=by
     have:=(Xe.mp hd).1
     rw[B6]at this;simp at this;omega
    obtain rfl:d=.tuple [QB (gs.getD j default),.list ((L.getD j []).map PyData.int)]:=by
     have hj2:j<L.length:=by omega
     obtain⟨a,b,e1,e2,rfl⟩:=Dg hd;rw[Xj,Tw hj2]at e2;cases e2;have e3:a=QB (gs.getD j default):=by simpa [List.getD,hj] using e1.symm
     rw[e3]
    have hm:gs.getD j default∈gs:=by simp[List.getD,hj]
    have gk:=(hg _ hm).ln;have hR:=sh.at hj;have hS:UF y gs L (j+1) l=fun t=>UF y gs L j l t+M4 y gs L l t j:=rfl;unfold M4 at hS;rw[hS];generalize hgj:gs.getD j default=g at gk;have ei:∀t,at2 L j t=(L.getD j []).getD t 0:=fun _=>rfl;simp only[ei];generalize L.getD j []=row at hR;generalize UF y gs L j l=S;refine⟨_,by walk_at"g",?_⟩
    walk_at"d"
    refine ZV (b:=decide (l∈upL y g.line)) ?_ (fun c=>?_) (fun c=>?_)
    ·apply Zz.cast
     ·exact ZO (HL (a:=g.line) (l:=Ye y l (y.ls.length-l)) (Zk (Qt (Qp rfl) QD) R_lineof.mk) (Qp rfl))
     ·refine decide_eq_decide.mpr ?_
      rw[Pw];constructor
      ·exact fun h=>h.2.2
      ·intro h
       have:=G2 y _ l h
       exact⟨this,by omega,h⟩
    ·simp only[Xb (Xq c)]
     refine ZW (E4 5 rfl rfl (Ol _) (EvO.cast (VA (xs:=List.range y.T) (enc:=fun t=>.tuple [.int (S t),.int (row.getD t 0)]) (h:=fun t=>.int (S t+row.getD t 0)) (EvI.cast (Jr (as:=Yu y.T S) (bs:=row.map PyData.int) (Qt (Qp rfl) (Qt (Qp rfl) QD))) ?eq3) (by simp;omega) ?el3) (show _=OT.ol (Yu y.T fun t=>S t+row.getD t 0) by unfold Yu;rw[Xw];rfl))) ?_
     case eq3 =>
      apply BT
      ·simp[VH,Yu,hR]
      ·intro i h1 h2
       have a:i<row.length:=by simpa [hR] using h2
       simp[VH,Yu,List.getD,a]
     case el3 =>
      intro x hx c;refine⟨_,by walk_at"g",?_⟩
      walk_at"e"
      exact VV (Qp rfl) (Qp rfl)
     exact⟨rfl,rfl,rfl,rfl,rfl,rfl,trivial⟩
    ·simp only[Xa (XO c),Gh]
     exact ZI ⟨rfl,rfl,rfl,rfl,rfl,rfl,trivial⟩
   case fin2 =>
    intro ρ' hf;refine VW hf ?_
    have zl:(VH (gs.map QB) ((VT L).map PyData.list)).length=gs.length:=by
     rw[B6,Xh,Xh,Eo];omega
    rw[zl];exact G7 rfl rfl
inductive R_loads:List OT->OT->Prop
 |mk {y:Yd} {gs:List Gs} {L:List (Ql)} (ok:y.Ok) (hg:∀g∈gs,g.Ok y) (sh:Shape gs.length y.T L):R_loads [.fz (QS y),.fz (.list (gs.map QB)),.fz (llD L)] (.oll (VT (V8 y.ls.length y.T (YQ y gs L))))
def ZkH:Qq Zac Zac (Q8 Dv):=by walk_at"p"
def EH (T:Bl mg) (D:Df K mg "loads_of" Dv Zac) (Xcd:Qy P w K mg base "loads_of_line" Zav 3 (QC (K:=K) R_lline)) (Xbs:Qy P w K mg base "line_count" ZaQ 1 (QC (K:=K) R_count)):Qy P w K mg base "loads_of" Zac 4 (QC (K:=K) R_loads):=by
 refine D.ev ZkH (fun ts r h=>by cases h;rfl) (fun _ _ _ _ s H E ts r hr h=>?_)
 cases h with
 |@mk y gs L ok hg sh =>
   refine⟨_,(QA (QT (Yf (NX:=Zac) (sc:=Q8 Dv) (N:=["line","yard","guests","filling"]) (f:=[none,some 0,some 1,some 2]) rfl (by decide +kernel) rfl rfl (VD rfl T.range (Qo (QH Xbs hr (Qo (pv 0) Qr)) Qr)) (fun _=>(QP (i:=0) (show(["line","yard","guests","filling"]:Qh).Nodup by decide +kernel) rfl Qa)) (fun _=>Z5) (fun _=>ZT) (fun _=>(QH Xcd hr (Qo (pv 1) (Qo (pv 2) (Qo (pv 3) (Qo (pv 0) Qr))))))))),?_⟩;show Q9 K _ [some _,some _,some _] _
   walk_at"x"
   have l5:=ok.l5;refine YM (EvO.cast (JY (xs:=List.range y.ls.length) (enc:=fun(l:Nat)=>.int (l:Int)) (h:=fun l=>Yu y.T (YQ y gs L l)) (EvI.cast (by walk_at"ei") ?eq) (by simp;omega) ?el) (by unfold VT V8;rw[Xw];rfl)) rfl
   case eq=>simp[ZQ]
   case el =>
    intro x hx c;have hx':=Xn.mp hx;refine⟨_,by walk_at"g",?_⟩
    walk_at"e"
    exact Ua (Qt (Qp rfl) (Qt (Qp rfl) (Qt (Qp rfl) (Qt (Qp rfl) QD)))) (R_lline.mk ok hg sh hx')
def MU {ρ:QL}{D:PEnds}{wi:TI}{g:TG}{tbd:TS}{ds:Qd}(R:Nat->QL)(Q:Nat->Prop)(hi:EvI K wi ρ ds)(h0:Fgt ρ (R 0))(q0:Q 0)
 (hs:∀(i:Nat) (d:PyData),ds[i]?=some d->Q i->∃ρ2,GTo K g d (R i) ρ2/\Q9 K tbd ρ2 { nx:=fun ρ'=>Fgt ρ' (R (i+1))/\Q (i+1),ct:=fun ρ'=>Fgt ρ' (R (i+1))/\Q (i+1),bk:=D.nx,rt:=D.rt }) (hd:∀ρ',Fgt ρ' (R ds.length)->Q ds.length->D.nx ρ'):Q9 K (Gm wi g tbd) ρ D:=by
 refine YO (fun i ρ'=>Fgt ρ' (R i)/\Q i) hi ⟨h0,q0⟩ (fun i d ρ' e f=>?_) (fun ρ' h=>hd ρ' h.1 h.2);obtain⟨ρ2,h1,h2⟩:=hs i d e f.2
 exact⟨ρ2,fun H0 F σ H x Q S r q=>h1 H0 F σ H x Q (S.fgt f.1) r q,h2⟩
def VP (f:Nat->Option PyData)(n:Nat):Option PyData:=(List.range n).findSome? f
def WT (f:Nat->Option PyData)(n:Nat):Prop := ∀i,i<n->f i=none
def BD {f:Nat->Option PyData}{n:Nat}(h:WT f n):VP f n=none:=by
 unfold VP;rw[List.findSome?_eq_none_iff];exact fun i hi=>h i (Xn.mp hi)
def Dp {f:Nat->Option PyData}{n k:Nat}{d:PyData}(h:WT f k)(hk:k<n)(e:f k=some d):VP f n=some d:=by
 unfold VP;obtain⟨m,rfl⟩:∃m,n=k+1+m:=⟨n-(k+1),by omega⟩;rw[List.range_add,List.findSome?_append,Y3,List.findSome?_append];have:=BD h;unfold VP at this;rw[this];simp[e]
def Dr {f:Nat->Option PyData}{n:Nat}(h:WT f n)(e:f n=none):WT f (n+1):=fun i hi=>by
 by_cases z:i=n
 ·rw[z];exact e
 ·exact h i (by omega)
def oD (o:Option PyData):PyData:=o.getD .none
def Wf (k:Nat)(g:Gs)(t:Nat)(v:Int):Option PyData :=
 if v<0 then some (.tuple [.str "below",.int (k:Int),.int (t:Int)])
 else if 0<v/\ZH g (t:Int)=false then some (.tuple [.str "away",.int (k:Int),.int (t:Int)])
 else if g.most<v then some (.tuple [.str "most",.int (k:Int),.int (t:Int)])
 else none
def WS (k:Nat)(g:Gs)(row:Ql):Option PyData :=
 match VP (fun t=>Wf k g t (row.getD t 0)) row.length with
 |some d=>some d
 | none=>if g.want<row.sum then some (.tuple [.str "want",.int (k:Int)]) else none
def Ux (gs:List Gs)(L:List (Ql))(k:Nat):Option PyData:=WS k (gs.getD k default) (L.getD k [])
def JV (y:Yd) (gs:List Gs) (L:List (Ql)) (l t:Nat):Option PyData:=if Zi y l t<YQ y gs L l t then some (.tuple [.str "line",.int (l:Int),.int (t:Int)]) else none
def UA (y:Yd)(gs:List Gs)(L:List (Ql)):Option PyData:=VP (fun l=>VP (JV y gs L l) y.T) y.ls.length
def Jn (y:Yd)(gs:List Gs)(L:List (Ql)):Option PyData :=
 match VP (Ux gs L) gs.length with
 |some d=>some d
 |none=>UA y gs L
def PL {k:Nat}{g:Gs}{t:Nat}{v:Int}{d:PyData}(e:Wf k g t v=some d):Wn d=false:=by
 unfold Wf at e;split at e
 ·cases e;rfl
 ·split at e
  ·cases e;rfl
  ·split at e
   ·cases e;rfl
   ·cases e
def Di {f:Nat->Option PyData}(h:∀i d,f i=some d->Wn d=false){n:Nat}{d:PyData}(e:VP f n=some d):Wn d=false:=by
 unfold VP at e;obtain⟨i,_,hi⟩:=List.exists_of_findSome?_eq_some e;exact h i d hi
def TN {k:Nat}{g:Gs}{row:Ql}{d:PyData}(e:WS k g row=some d):Wn d=false:=by
 unfold WS at e;split at e
 ·rename_i z;cases e;exact Di (fun i d h=>PL h) z
 ·split at e
  ·cases e;rfl
  ·cases e
inductive R_fturn:List OT->OT->Prop
 |mk {k:Nat} {g:Gs} {t:Nat} {v:Int}:R_fturn [.fz (.int (k:Int)),.fz (QB g),.fz (.int (t:Int)),.fz (.int v)] (.fz (oD (Wf k g t v)))
def Zgq:Qq Zar Zar (Q8 NG):=by walk_at"p"
def Ek (T:Bl mg) (D:Df K mg "fault_at_turn" NG Zar) (Xbz:Qy P w K mg base "is_there" ZaN 1 (QC (K:=K) R_there)) (XbA:Qy P w K mg base "most_of" Zat 1 (QC (K:=K) R_most)):Qy P w K mg base "fault_at_turn" Zar 2 (QC (K:=K) R_fturn):=by
 refine D.ev Zgq (fun ts r h=>by cases h;rfl) (fun _ _ _ _ s H E ts r hr h=>?_)
 cases h with
 |@mk k g t v =>
   refine⟨_,(Qx (ZF (ZX Be (pv 3) Qw (ZN _)) (QA (QT (Va (Qo UJ (Qo (pv 0) (Qo (pv 2) Qr)))))) ZG)
 (Qx (ZF (PW.pt (M8 (ZX Jp (pv 3) Qw (ZN _)) (ML (M5 (UB (QH Xbz hr (Qo (pv 1) (Qo (pv 2) Qr)))))))) (QA (QT (Va (Qo UJ (Qo (pv 0) (Qo (pv 2) Qr)))))) ZG)
 (Qx (ZF (ZX Jp (pv 3) (QH XbA hr (Qo (pv 1) Qr)) (ZN _)) (QA (QT (Va (Qo UJ (Qo (pv 0) (Qo (pv 2) Qr)))))) ZG)
 (QA (QT UH))))),?_⟩
   show Q9 K _ [some _,some _,some _,some _] _
   walk_at"x"
   unfold Wf;walk_at"if"
   ·intro c
    have c':v<0:=by simpa using c
    rw[Xb c'];walk_at"ret"
    rfl
   ·intro c
    have c':¬v<0:=by simpa using c
    rw[Xa c'];refine ZI ?_
    walk_at"if"
    ·intro c
     have c2:0<v/\ZH g (t:Int)=false:=by simpa using c
     rw[Xb c2];walk_at"ret"
     rfl
    ·intro c
     have c2:¬(0<v/\ZH g (t:Int)=false):=by simpa using c
     rw[Xa c2];refine ZI ?_
     walk_at"if"
     ·intro c
      have c3:g.most<v:=by simpa using c
      rw[Xb c3];walk_at"ret"
      rfl
     ·intro c
      have c3:¬g.most<v:=by simpa using c
      rw[Xa c3];refine ZI ?_
      walk_at"ret"
      rfl
inductive R_fguest:List OT->OT->Prop
 |mk {k:Nat} {g:Gs} {row:Ql}:R_fguest [.fz (.int (k:Int)),.fz (QB g),.fz (.list (row.map PyData.int))] (.fz (oD (WS k g row)))
def DJ:Qq ["number","guest","takes","turn","take","fault"] ZaJ (Q8 NQ):=by walk_at"p"
def Oa (T:Bl mg) (D:Df K mg "fault_of_guest" NQ ZaJ) (Xce:Qy P w K mg base "fault_at_turn" Zar 2 (QC (K:=K) R_fturn)) (Xbq:Qy P w K mg base "want_of" Zat 1 (QC (K:=K) R_want)):Qy P w K mg base "fault_of_guest" ZaJ 3 (QC (K:=K) R_fguest):=by
 refine D.ev DJ (fun ts r h=>by cases h;rfl) (fun _ _ _ _ s H E ts r hr h=>?_)
 cases h with
 |@mk k g row =>
   refine⟨_,(Qx (ZC PassesOwn.never rfl (GM rfl T.enumerate (Qo (pv 2) Qr)) (Vs (n:=2) rfl (Zo (QP (i:=3) DJ.nd rfl Qa) (Zo (QP (i:=4) DJ.nd rfl Qa) Vp))) (Qx (QQ (i:=5) DJ.nd rfl Qa (QH Xce hr (Qo (pv 0) (Qo (pv 1) (Qo (pv 3) (Qo (pv 4) Qr))))))
 (QA (ZF (Wm (Ue (pv 5))) (QA (QT (pv 5))) ZG))))
 (Qx (ZF (ZX Jp (Z2 UG (by rfl) T.sum UI (Qo (pv 2) Qr)) (QH Xbq hr (Qo (pv 1) Qr)) (ZN _)) (QA (QT (Va (Qo UJ (Qo (pv 0) Qr))))) ZG)
 (QA (QT UH)))),?_⟩
   show Q9 K _ [some _,some _,some _,none,none,none] _
   walk_at"x"
   refine QG (MU (ds:=Wh (row.map PyData.int)) (fun i=>[some (.fz (.int (k:Int))),some (.fz (QB g)),some (.fz (.list (row.map PyData.int))),none,none,none]) (WT fun t=>Wf k g t (row.getD t 0)) ?ei ⟨rfl,rfl,rfl,trivial⟩ (fun i hi=>Xi hi (JK i)) ?st ?fin)
   case ei=>exact UL (Qt (Qp rfl) QD)
   case st =>
    intro i d hd q;have hi:i<row.length:=by
     have:=(Xe.mp hd).1
     rw[GJ]at this;simpa using this
    obtain⟨d1,e1,rfl⟩:=Dm hd;obtain rfl:d1=.int (row.getD i 0):=by simpa [List.getD,hi] using e1.symm
    refine⟨_,by walk_at"g",?_⟩
    walk_at"d"
    refine QG (Zw (Zk (Qt (Qp rfl) (Qt (Qp rfl) (Qt (Qp rfl) (Qt (Qp rfl) QD)))) (R_fturn.mk (k:=k) (g:=g) (t:=i) (v:=row.getD i 0))) ?_)
    walk_at"d"
    cases e:Wf k g i (row.getD i 0) with
    |none =>
      refine ZV (b:=false) (ZO (Yy (a:=.none) (Qp rfl))) (fun c=>nomatch c) (fun _=>ZI ⟨⟨rfl,rfl,rfl,trivial⟩,Dr q e⟩)
    |some d =>
      have nn:=PL e;refine ZV (b:=true) ?_ (fun _=>?_) (fun c=>nomatch c)
      ·apply Zz.cast
       ·exact ZO (Yy (a:=d) (Qp rfl))
       ·rw[nn];rfl
      ·refine ZD (d:=d) (Qp rfl) ?_
       show OT.fz d=OT.fz _;unfold WS;rw[Dp (f:=fun t=>Wf k g t (row.getD t 0)) q hi e]
       rfl
   case fin =>
    intro ρ' hf q;refine VW hf ?_;rw[GJ,Xh]at q;have en:=BD q;refine QG (ZV (b:=decide (g.want<row.sum)) ?_ (fun c=>?_) (fun c=>ZI ?_))
    ·apply Zz.cast
     ·exact ZO (Jt (JZ (ns:=row) (Qp rfl) rfl) (Zk (Qt (Qp rfl) QD) R_want.mk))
     ·rfl
    ·refine ZD (d:=.tuple [.str "want",.int (k:Int)]) (by walk_at"ev") ?_
     show OT.fz _=OT.fz _;unfold WS;rw[en];simp only;rw[Xb (Xq c)];rfl
    ·refine ZD (d:=.none) (by walk_at"ev") ?_
     show OT.fz _=OT.fz _;unfold WS;rw[en];simp only;rw[Xa (XO c)];rfl
def Ef (n T:Nat)(f:Nat->Qn):(VT (V8 n T f)).map PyData.list=(List.range n).map fun l=>.list (Yu T (f l)):=by
 unfold VT V8;rw[Xw,Xw];rfl
def AK (T:Nat)(f:Qn):Wh (Yu T f)=(List.range T).map fun(t:Nat)=>PyData.tuple [.int (t:Int),.int (f t)]:=by
 unfold Yu;rw[Xw];exact PY T _
inductive R_flines:List OT->OT->Prop
 |mk {y:Yd} {gs:List Gs} {L:List (Ql)} (ok:y.Ok) (hg:∀g∈gs,g.Ok y) (sh:Shape gs.length y.T L):R_flines [.fz (QS y),.fz (.list (gs.map QB)),.fz (llD L)] (.fz (oD (UA y gs L)))
def BO:Qq ["yard","guests","filling","line","loads","turn","load"] Zac (Q8 NR):=by walk_at"p"
def IK (T:Bl mg) (D:Df K mg "fault_of_lines" NR Zac) (Xcf:Qy P w K mg base "loads_of" Zac 4 (QC (K:=K) R_loads)) (Xbt:Qy P w K mg base "bound_at" Zas 1 (QC (K:=K) R_bound)):Qy P w K mg base "fault_of_lines" Zac 5 (QC (K:=K) R_flines):=by
 refine D.ev BO (fun ts r h=>by cases h;rfl) (fun _ _ _ _ s H E ts r hr h=>?_)
 cases h with
 |@mk y gs L ok hg sh =>
   refine⟨_,(Qx (ZC PassesOwn.never rfl (GM rfl T.enumerate (Qo (QH Xcf hr (Qo (pv 0) (Qo (pv 1) (Qo (pv 2) Qr)))) Qr)) (Vs (n:=2) rfl (Zo (QP (i:=3) BO.nd rfl Qa) (Zo (QP (i:=4) BO.nd rfl Qa) Vp))) (QA (ZC PassesOwn.never rfl (GM rfl T.enumerate (Qo (pv 4) Qr)) (Vs (n:=2) rfl (Zo (QP (i:=5) BO.nd rfl Qa) (Zo (QP (i:=6) BO.nd rfl Qa) Vp))) (QA (ZF (ZX Jp (pv 6) (QH Xbt hr (Qo (pv 0) (Qo (pv 3) (Qo (pv 5) Qr)))) (ZN _)) (QA (QT (Va (Qo UJ (Qo (pv 3) (Qo (pv 5) Qr)))))) ZG)))))
 (QA (QT UH))),?_⟩
   show Q9 K _ [some _,some _,some _,none,none,none,none] _
   walk_at"x"
   refine QG (MU (ds:=(List.range y.ls.length).map fun(l:Nat)=>PyData.tuple [.int (l:Int),.list (Yu y.T (YQ y gs L l))]) (fun i=>[some (.fz (QS y)),some (.fz (.list (gs.map QB))),some (.fz (llD L)),none,none,none,none]) (WT fun l=>VP (JV y gs L l) y.T) ?ei ⟨rfl,rfl,rfl,trivial⟩ (fun i hi=>Xi hi (JK i)) ?st ?fin)
   case ei =>
    apply EvI.cast
    ·exact UL (Qt (fzG (Ua (Qt (Qp rfl) (Qt (Qp rfl) (Qt (Qp rfl) QD))) (R_loads.mk ok hg sh)) rfl) QD)
    ·rw[Ef]
     exact PY _ _
   case st =>
    intro l d hd q;have hl:l<y.ls.length:=by
     have:=(Xe.mp hd).1
     simpa using this
    obtain rfl:d=PyData.tuple [.int (l:Int),.list (Yu y.T (YQ y gs L l))]:=by simpa [hl] using hd.symm
    refine⟨_,by walk_at"g",?_⟩
    walk_at"d"
    refine MU (ds:=(List.range y.T).map fun(t:Nat)=>PyData.tuple [.int (t:Int),.int (YQ y gs L l t)]) (fun i=>[some (.fz (QS y)),some (.fz (.list (gs.map QB))),some (.fz (llD L)),some (.fz (.int (l:Int))),none,none,none]) (WT (JV y gs L l)) ?ei2 ⟨rfl,rfl,rfl,rfl,trivial⟩ (fun i hi=>Xi hi (JK i)) ?st2 ?fin2
    case ei2 =>
     apply EvI.cast
     ·exact UL (Qt (Qp rfl) QD)
     ·exact AK _ _
    case st2 =>
     intro t d hd q2;have ht:t<y.T:=by
      have:=(Xe.mp hd).1
      simpa using this
     obtain rfl:d=PyData.tuple [.int (t:Int),.int (YQ y gs L l t)]:=by simpa [ht] using hd.symm
     refine⟨_,by walk_at"g",?_⟩
     walk_at"d"
     refine ZV (b:=decide (Zi y l t<YQ y gs L l t)) ?_ (fun c=>?_) (fun c=>ZI ⟨⟨rfl,rfl,rfl,rfl,trivial⟩,Dr q2 ?_⟩)
     ·apply Zz.cast
      ·exact ZO (Jt (Qp rfl) (Zk (Qt (Qp rfl) (Qt (Qp rfl) (Qt (Qp rfl) QD))) (R_bound.mk ok (by omega) (by omega) (by omega) (by omega))))
      ·rw[Xl,Xl]
     ·refine ZD (d:=.tuple [.str "line",.int (l:Int),.int (t:Int)]) (by walk_at"ev") ?_
      show OT.fz _=OT.fz _;have e1:JV y gs L l t=some (.tuple [.str "line",.int (l:Int),.int (t:Int)]):=Xb (Xq c);have e2:=Dp q2 ht e1;have e3:=Dp (f:=fun l=>VP (JV y gs L l) y.T) q hl e2;unfold UA;rw[e3];rfl
     ·exact Xa (XO c)
    case fin2 =>
     intro ρ' hf q2;rw[Xh,Jg]at q2;exact⟨hf.trans ⟨rfl,rfl,rfl,trivial⟩,Dr q (BD q2)⟩
   case fin =>
    intro ρ' hf q;rw[Xh,Jg]at q;refine VW hf ?_;refine ZD (d:=.none) (by walk_at"ev") ?_
    show OT.fz _=OT.fz _;unfold UA;rw[BD q];rfl
inductive R_fault:List OT->OT->Prop
 |mk {y:Yd} {gs:List Gs} {L:List (Ql)} (ok:y.Ok) (hg:∀g∈gs,g.Ok y) (sh:Shape gs.length y.T L):R_fault [.fz (QS y),.fz (.list (gs.map QB)),.fz (llD L)] (.fz (oD (Jn y gs L)))
def D8:Qq ["yard","guests","filling","number","guest","fault"] Zac (Q8 Nv):=by walk_at"p"
def EG (T:Bl mg) (D:Df K mg "fault_of" Nv Zac) (Xcg:Qy P w K mg base "fault_of_guest" ZaJ 3 (QC (K:=K) R_fguest)) (Xch:Qy P w K mg base "fault_of_lines" Zac 5 (QC (K:=K) R_flines)):Qy P w K mg base "fault_of" Zac 6 (QC (K:=K) R_fault):=by
 refine D.ev D8 (fun ts r h=>by cases h;rfl) (fun _ _ _ _ s H E ts r hr h=>?_)
 cases h with
 |@mk y gs L ok hg sh =>
   refine⟨_,(Qx (ZC PassesOwn.never rfl (GM rfl T.enumerate (Qo (pv 1) Qr)) (Vs (n:=2) rfl (Zo (QP (i:=3) D8.nd rfl Qa) (Zo (QP (i:=4) D8.nd rfl Qa) Vp))) (Qx (QQ (i:=5) D8.nd rfl Qa (QH Xcg hr (Qo (pv 3) (Qo (pv 4) (Qo (QJ QK (pv 2) (pv 3)) Qr)))))
 (QA (ZF (Wm (Ue (pv 5))) (QA (QT (pv 5))) ZG))))
 (QA (QT (QH Xch hr (Qo (pv 0) (Qo (pv 1) (Qo (pv 2) Qr))))))),?_⟩
   show Q9 K _ [some _,some _,some _,none,none,none] _
   walk_at"x"
   have sl:=sh.len;refine QG (MU (ds:=Wh (gs.map QB)) (fun i=>[some (.fz (QS y)),some (.fz (.list (gs.map QB))),some (.fz (llD L)),none,none,none]) (WT (Ux gs L)) ?ei ⟨rfl,rfl,rfl,trivial⟩ (fun i hi=>Xi hi (JK i)) ?st ?fin)
   case ei=>exact UL (Qt (Qp rfl) QD)
   case st =>
    intro i d hd q;have hi:i<gs.length:=by
     have:=(Xe.mp hd).1
     rw[GJ]at this;simpa using this
    obtain⟨d1,e1,rfl⟩:=Dm hd;obtain rfl:d1=QB (gs.getD i default):=by simpa [List.getD,hi] using e1.symm
    have hA:=AE (L:=L) (o:=i) (by omega);refine⟨_,by walk_at"g",?_⟩
    walk_at"d"
    refine QG (Zw (Zk (Qt (Qp rfl) (Qt (Qp rfl) (Qt (Y7 (ds:=(VT L).map PyData.list) (Qp rfl) (Qp rfl) hA) QD))) (R_fguest.mk (k:=i) (g:=gs.getD i default) (row:=L.getD i []))) ?_)
    walk_at"d"
    cases e:WS i (gs.getD i default) (L.getD i []) with
    |none =>
      refine ZV (b:=false) (ZO (Yy (a:=.none) (Qp rfl))) (fun c=>nomatch c) (fun _=>ZI ⟨⟨rfl,rfl,rfl,trivial⟩,Dr q e⟩)
    |some d =>
      have nn:=TN e;refine ZV (b:=true) ?_ (fun _=>?_) (fun c=>nomatch c)
      ·apply Zz.cast
       ·exact ZO (Yy (a:=d) (Qp rfl))
       ·rw[nn];rfl
      ·refine ZD (d:=d) (Qp rfl) ?_
       show OT.fz d=OT.fz _;unfold Jn;rw[Dp (f:=Ux gs L) q hi e]
       rfl
   case fin =>
    intro ρ' hf q;refine VW hf ?_;rw[GJ,Xh]at q;refine ZD (Zk (Qt (Qp rfl) (Qt (Qp rfl) (Qt (Qp rfl) QD))) (R_flines.mk ok hg sh)) ?_;show OT.fz _=OT.fz _;unfold Jn;rw[BD q]
def ttF (gs:List Gs)(lv:List (Fr×Qk))(i:Nat):Fr:=shF (Qz gs i*((frL lv i).t:Int)).toNat (frL lv i).b
def awF (gs:List Gs)(lv:List (Fr×Qk))(k:Int)(i:Nat):Int:=((ttF gs lv i).t:Int)*k/((ttF gs lv i).b:Int)
def HS {y:Yd}{gs:List Gs}(s:Sml y gs){i:Nat}(hi:i<gs.length):1<=Qz gs i/\Qz gs i<10^30:=by
 refine⟨s.giv.w1 i hi,?_⟩
 show(gs.getD i default).want<_
 rw[Yp hi];exact(s.w30 _ (Xy hi)).1
def Mj {y:Yd}{gs:List Gs}(s:Sml y gs){lv:List (Fr×Qk)}(hL:Lev y gs [] 0 1 lv){i:Nat}(hi:i<gs.length):(0<(frL lv i).b/\(frL lv i).t<=(frL lv i).b)/\(0<(ttF gs lv i).b/\(ttF gs lv i).b<=2^103/\(ttF gs lv i).t<2^210)/\((ttF gs lv i).t:Int)*((frL lv i).b:Int)=((ttF gs lv i).b:Int)*(Qz gs i*((frL lv i).t:Int)):=by
 obtain⟨l,h1,h2,h3,_⟩:=hL.fr_at (Q:=1) i hi (fun z=>nomatch z);obtain⟨fr,le,_⟩:=hL.fr l h1;obtain⟨w1,w2⟩:=HS s hi;unfold ttF;rw[h3];have b1:=fr.ok.1;have n0:0<=Qz gs i*(l.1.t:Int):=X0 (by omega) (by omega);obtain⟨a,b,c,d⟩:=Jw (n:=(Qz gs i*(l.1.t:Int)).toNat) (m:=l.1.b) b1;rw[XR n0]at c;refine⟨⟨b1,le⟩,⟨a.1,XI d fr.b,?_⟩,c⟩
 have t1:((shF (Qz gs i*(l.1.t:Int)).toNat l.1.b).t:Int)<=Qz gs i*(l.1.t:Int):=by
  generalize shF (Qz gs i*(l.1.t:Int)).toNat l.1.b=g at c d;have h5:(g.b:Int)*(Qz gs i*(l.1.t:Int))<=(l.1.b:Int)*(Qz gs i*(l.1.t:Int)):=X6 (by omega) n0;rw[<- c,XB]at h5;exact BW h5 (by omega)
 have t2:Qz gs i*(l.1.t:Int)<=10^30*((2^103:Nat):Int):=YF (by omega) (Jh.mpr (X9 fr.t)) (by omega) (by decide +kernel);have t3:(10:Int)^30*((2^103:Nat):Int)<((2^210:Nat):Int):=by decide +kernel
 have t4:=XY (GP t1 t2) t3;exact Wu.mp t4
def LD {y:Yd}{gs:List Gs}(s:Sml y gs){lv:List (Fr×Qk)}(hL:Lev y gs [] 0 1 lv){k:Int}{i:Nat}(hi:i<gs.length)(hd:((ttF gs lv i).b:Int)∣k):awF gs lv k i*((frL lv i).b:Int)=k*(Qz gs i*((frL lv i).t:Int)):=by
 obtain⟨_,⟨b1,_,_⟩,c⟩:=Mj s hL hi;obtain⟨e,rfl⟩:=hd;unfold awF;generalize ((ttF gs lv i).t:Int)=t at c;have b0:((ttF gs lv i).b:Int)≠0:=by omega
 generalize ((ttF gs lv i).b:Int)=b at c b0;have e1:t*(b*e)=t*e*b:=by rw[XB b,Xt]
 rw[e1,Int.mul_ediv_cancel _ b0,Xt,XB e,<- Xt,c,Xt,XB (Qz gs i*_),<- Xt]
def LI {y:Yd}{gs:List Gs}(s:Sml y gs){lv:List (Fr×Qk)}(hL:Lev y gs [] 0 1 lv){k:Int}(k1:1<=k){i:Nat}(hi:i<gs.length)(hd:((ttF gs lv i).b:Int)∣k):0<=awF gs lv k i/\awF gs lv k i<=Qz gs i*k:=by
 obtain⟨⟨f1,f2⟩,⟨b1,_,_⟩,_⟩:=Mj s hL hi;have e:=LD s hL hi hd;obtain⟨w1,_⟩:=HS s hi;refine⟨JA (X0 (by omega) (by omega)) (by omega),?_⟩;have h1:k*(Qz gs i*((frL lv i).t:Int))<=k*(Qz gs i*((frL lv i).b:Int)):=XH (XH (by omega) (by omega)) (by omega);rw[<- e,<- Xt,XB k]at h1;exact DT h1 (by omega)
def KB (gs:List Gs)(tf:Nat->Fr)(k:Int):(YH gs tf k).length=gs.length:=by simp[YH]
def FC {gs:List Gs}{tf:Nat->Fr}{k:Int}{i:Nat}(hi:i<gs.length):(YH gs tf k).getD i default=⟨(gs.getD i default).line,(gs.getD i default).first,(gs.getD i default).last,((tf i).t:Int)*k/((tf i).b:Int),(gs.getD i default).most*k⟩:=by
 unfold YH;simp[List.getD,hi]
def EQ (y:Yd)(q:Int)(j:Nat):QZ (Zx y q) j=QZ y j:=by
 simp only[QZ,Zx,Xj];cases y.ls[j]?<;>rfl
def Ti (y:Yd)(q:Int)(j t:Nat):Zi (Zx y q) j t=Zi y j t*q:=by
 simp only[Zi,Zx,Xj];cases y.ls[j]? with
 |none=>simp
 |some ln =>
   simp only[X7,Uu,Ub,List.getD,Xj];cases ln.bs[t]?<;>simp
def Iq (y:Yd)(k:Int):∀j,upL (Zx y k) j=upL y j:=by
 intro j;induction j using Nat.strongRecOn with
 |ind j ih =>
   rw[upD9,upD9,EQ];cases e:QZ y j with
   |none=>rfl
   |some a =>
     dsimp only;split
     ·rename_i c
      rw[ih a c]
     ·rfl
structure FairF (y:Yd)(gs:List Gs)(k:Int)(f:Nat->Qn):Prop where
 k1:1<=k
 k2:k<10^260
 item:∀i t,i<gs.length->t<y.T->0<=f i t/\f i t<=(gs.getD i default).most*k
inductive R_fairest:List OT->(OT->Prop)->Prop
 |mk {y:Yd} {gs:List Gs} (h:Sml y gs):R_fairest [.fz (QS y),.fz (.list (gs.map QB))] (fun r=>∃v k f,r=.own v (JR (.int k) (QO gs.length y.T f))/\FairF y gs k f)
def Ds:Qq ["yard","guests","shares","totals","k"] Zaa (Q8 Dn):=by walk_at"p"
def O9 (T:Bl mg) (D:Df K mg "fairest" Dn Zaa) (XbN:Qy P w K mg base "fair_shares" Zaa 10 (Zy K R_fshares)) (Xbq:Qy P w K mg base "want_of" Zat 1 (QC (K:=K) R_want)) (XbC:Qy P w K mg base "fraction" ZaT 2 (QC (K:=K) R_frac)) (XbJ:Qy P w K mg base "common_bottom" ["parts"] 2 (QC (K:=K) R_cbot))
 (Xci:Qy P w K mg base "best_filling" Zaa 6 (Zy K R_great)) (XbD:Qy P w K mg base "yard_times" Zbb 2 (QC (K:=K) R_ydtimes)) (XbL:Qy P w K mg base "asking" ZaG 3 (QC (K:=K) R_asking)):Qy P w K mg base "fairest" Zaa 11 (Zy K R_fairest):=by
 refine D.evD Ds (fun ts Φ h=>by cases h;rfl) (fun _ _ _ _ s H E ts Φ hr h=>?_)
 cases h with
 |@mk y gs h =>
   refine⟨_,(Qx (QQ (i:=2) Ds.nd rfl Qa (QH XbN hr (Qo (pv 0) (Qo (pv 1) Qr))))
 (Qx (Y1 (i:=3) Ds.nd rfl rfl (NX:=["yard","guests","shares","totals","k"]) (sc:=Q8 Dn) (N:=Zbd) (f:=[none,none]) rfl (by decide +kernel) rfl rfl (UD rfl T.zip (Qo (pv 1) (Qo (pv 2) Qr))) (fun _=>(Vs (n:=2) rfl (Zo (QP (i:=0) (show(Zbd:Qh).Nodup by decide +kernel) rfl Qa) (Zo (QP (i:=1) (show(Zbd:Qh).Nodup by decide +kernel) rfl Qa) Vp)))) (fun _=>(Bp (n:=2) (Jb Z5 (Jb Z5 Bx)))) (fun _=>ZT) (fun _=>(QH XbC hr (Qo (QF YA (QH Xbq hr (Qo (pv 0) Qr)) (QJ QK (pv 1) Qw)) (Qo (QJ QK (pv 1) Qw) Qr)))) rfl)
 (Qx (QQ (i:=4) Ds.nd rfl Qa (QH XbJ hr (Qo (pv 3) Qr)))
 (QA (QT (Va (Qo (pv 4) (Qo (QH Xci hr (Qo (QH XbD hr (Qo (pv 0) (Qo (pv 4) Qr))) (Qo (QH XbL hr (Qo (pv 1) (Qo (pv 3) (Qo (pv 4) Qr)))) Qr))) Qr)))))))),?_⟩
   show Q9 K _ [some _,some _,none,none,none] _
   walk_at"x"
   have g8:=h.g8;have ok:=h.ok;refine QG (Wr (Yj (Qt (Qp rfl) (Qt (Qp rfl) QD)) (R_fshares.mk h)) (fun r hr'=>?_));obtain⟨lv,hL,rfl⟩:=hr'
   walk_at"d"
   refine Yi 2 rfl ?_
   walk_at"d"
   refine QG (ZW (VA (xs:=List.range gs.length) (enc:=fun i=>.tuple [QB (gs.getD i default),QU (frL lv i)]) (h:=fun i=>QU (ttF gs lv i)) ?ei (by simp;omega) ?el) ?_)
   case ei=>exact EvI.cast (Jr (Qt (Qp rfl) (Qt (Qp rfl) QD))) (RV gs QB _)
   case el =>
    intro i hi c;have hi:=Xn.mp hi;obtain⟨w1,w2⟩:=HS h hi;obtain⟨l,l1,_,l3,_⟩:=hL.fr_at (Q:=1) i hi (fun z=>nomatch z);obtain⟨fr,le,_⟩:=hL.fr l l1;rw[<- l3]at fr le;have b1:=fr.ok.1;have ix:∀{ρ:QL} {j:Nat} {n:Int} {d:PyData},ρ[j]?=some (some (.fz (QU (frL lv i))))->atI [.int ((frL lv i).t:Int),.int ((frL lv i).b:Int)] n=some d->Qs K (tOp (rIx K) (Za j) (tC (.int n))) ρ d:=fun e h=>ZB (ds:=[.int ((frL lv i).t:Int),.int ((frL lv i).b:Int)]) (Qp e) QX h;refine⟨_,Yv (ds:=[QB (gs.getD i default),QU (frL lv i)]) (Z8 Zj (Z8 Zj Y6)) rfl,?_⟩
    walk_at"e"
    have t300:((frL lv i).t:Int)<10^300:=by
     have:((frL lv i).t:Int)<((2^103:Nat):Int):=Wu.mpr fr.t
     exact X5 this (by decide +kernel)
    have w300:Qz gs i<10^300:=X5 w2 (by decide +kernel)
    have b8:((frL lv i).b:Int)<2^8000:=by
     have:((frL lv i).b:Int)<=((2^103:Nat):Int):=Jh.mpr fr.b
     exact XY this (by decide +kernel)
    have n0:0<=Qz gs i*((frL lv i).t:Int):=X0 (by omega) (by omega);refine Qs.cast (Zk (Qt (Zs (x:=Qz gs i) (Zk (Qt (Qp rfl) QD) R_want.mk) (ix rfl rfl) (VJ (by omega) w300 (by omega) t300)) (Qt (ix rfl rfl) QD)) (R_frac.mk (t:=Qz gs i*((frL lv i).t:Int)) (b:=(frL lv i).b) b1 b8)) ?eq
    case eq =>
     have e:=XR n0;unfold QU ttF;rw[(Jw (n:=(Qz gs i*((frL lv i).t:Int)).toNat) b1).2.1];show _=PyData.tuple [.int (frT _ _),.int (frB _ _:Int)];rw[e]
   walk_at"d"
   refine Yi 3 rfl ?_
   walk_at"d"
   have tb:∀f∈(List.range gs.length).map (ttF gs lv),0<f.b/\f.b<=2^103:=fun f hf=>by
    obtain⟨i,hi,rfl⟩:=XD.mp hf;obtain⟨_,⟨a,b,_⟩,_⟩:=Mj h hL (Xn.mp hi)
    exact⟨a,b⟩
   refine QG (Zw (Zk (Qt (Qs.cast (d':=.list (((List.range gs.length).map (ttF gs lv)).map QU)) (Qp rfl) (by rw[Xw];rfl)) QD) (R_cbot.mk (fun f hf=>⟨(tb f hf).1,XI (tb f hf).2 (UZ (by decide) (by decide))⟩) (by simp;omega))) ?_)
   walk_at"d"
   have kp:0<Vk 1 ((List.range gs.length).map (ttF gs lv)):=MK (by decide) fun f hf=>(tb f hf).1;have kl:Vk 1 ((List.range gs.length).map (ttF gs lv))<=2^824:=XI (Kh (c:=0) (by decide) fun f hf=>(tb f hf).2) (UZ (by decide) (by simp;omega));have kd:∀i,i<gs.length->(ttF gs lv i).b∣Vk 1 ((List.range gs.length).map (ttF gs lv)):=fun i hi=>MG (List.mem_map_of_mem (Xn.mpr hi));generalize Vk 1 ((List.range gs.length).map (ttF gs lv))=k at kp kl kd;have k1:1<=(k:Int):=by omega
   have k2:(k:Int)<10^260:=by
    have:(k:Int)<=((2^824:Nat):Int):=Jh.mpr kl
    exact XY this (by decide +kernel)
   have k3:(k:Int)<10^300:=X5 k2 (by decide +kernel);have hd:∀i,i<gs.length->((ttF gs lv i).b:Int)∣(k:Int):=fun i hi=>Int.ofNat_dvd.mpr (kd i hi);have p30:∀{a:Int},a<10^30->a<10^300:=fun h=>X5 h (by decide +kernel)
   have bm:∀l∈y.ls,∀b∈l.bs,b*(k:Int)<10^300:=fun l hl b hb=>by
    have h1:=h.b30 l hl b hb;have h2:b*(k:Int)<=10^30*(k:Int):=X6 (by omega) (by omega);have h3:(10:Int)^30*(k:Int)<=10^30*10^260:=XH (by omega) (by decide +kernel);exact XY (GP h2 h3) (by decide +kernel)
   have ok':(Zx y (k:Int)).Ok:=Nn ok (by omega) bm
   have hg':∀g∈YH gs (ttF gs lv) (k:Int),GOk (Zx y (k:Int)) g:=fun g hg=>by
    obtain⟨i,hi,rfl⟩:=XD.mp hg;have hi:=Xn.mp hi;have gm:gs.getD i default∈gs:=by rw[Yp hi];exact Xy hi
    have go:=h.hg _ gm
    exact⟨by have:=go.ln;simpa [Zx] using this,(LI h hL k1 hi (hd i hi)).1,X0 (by have:=go.m1;omega) (by omega)⟩
   refine Ky (AA (Ψ:=fun dss=>∃f,dss=QO gs.length y.T f/\FairF y gs (k:Int) f) (Qp rfl) (Yj (Qt (Zk (Qt (Qp rfl) (Qt (Qp rfl) QD)) (R_ydtimes.mk (fun l hl b hb=>VJ (ok.bb l hl b hb).1 (p30 (h.b30 l hl b hb)) (by omega) k3) (fun l hl=>by rw[ok.bl l hl];exact ok.t8) ok.l5)) (Qt (Ug (Qt (Qp rfl) (Qt (Qp rfl) (Qt (Qp rfl) QD))) (R_asking.mkF (tf:=ttF gs lv) k1 k2 (fun i hi=>(Mj h hL hi).2.1) (fun g hg=>⟨⟨by have:=(h.hg g hg).w1;omega,(h.w30 g hg).1⟩,by have:=(h.hg g hg).m1;omega,(h.w30 g hg).2⟩) g8)) QD)) (R_great.mk ok' hg' (by rw[KB];exact g8))) ?im) (fun r hr'=>?_)
   case im =>
    rintro r ⟨φ,full,rfl⟩
    obtain⟨F,_⟩:=full;refine⟨_,rfl,fun i t=>Zr (Zh (YH gs (ttF gs lv) (k:Int))) φ t i,?_,k1,k2,fun i t hi ht=>?_⟩
    ·rw[AY]
     show QO (YH gs (ttF gs lv) (k:Int)).length y.T _=_;rw[KB]
    ·obtain⟨a,b⟩:=F.tak (show i<(Zh (YH gs (ttF gs lv) (k:Int))).m from by show i<(YH gs (ttF gs lv) (k:Int)).length;rw[KB];exact hi) ht
     refine⟨a,GP b ?_⟩
     have e:(Zh (YH gs (ttF gs lv) (k:Int))).mo i=(gs.getD i default).most*(k:Int):=by
      show((YH gs (ttF gs lv) (k:Int)).getD i default).most=_
      rw[FC hi]
     have m0:0<=(gs.getD i default).most*(k:Int):=X0 (by have:=(h.hg _ (show gs.getD i default∈gs by rw[Yp hi];exact Xy hi)).m1;omega) (by omega);unfold moT;rw[e];split<;>omega
   obtain⟨v,dss,rfl,f,rfl,ff⟩:=hr'
   exact⟨v,_,f,rfl,ff⟩
def SV (m T:Nat)(f:Nat->Qn):llD (V8 m T f)=.list ((QO m T f).map PyData.list):=by
 unfold llD VT V8 QO;rw[Xw,Xw,Xw];congr 1;refine XQ fun k _=>?_;show PyData.list (((List.range T).map (f k)).map PyData.int)=PyData.list ((List.range T).map fun t=>PyData.int (f k t));rw[Xw];rfl
def Iw (m T:Nat)(f:Nat->Qn):Shape m T (V8 m T f):=⟨by simp[V8],fun r hr=>by
 obtain⟨k,_,rfl⟩:=XD.mp hr
 simp⟩
def Sy {m T:Nat}{f:Nat->Qn}{i:Nat}(hi:i<m):(V8 m T f).getD i []=(List.range T).map (f i):=by
 unfold V8;simp[List.getD,hi]
def FY {m T:Nat}{f:Nat->Qn}{i t:Nat}(hi:i<m):at2 (V8 m T f) i t=if t<T then f i t else 0:=by
 unfold at2;rw[Sy hi];by_cases c:t<T
 ·simp[List.getD,c]
 ·simp[List.getD,c]
def UP {f:Nat->Option PyData}{n:Nat}:VP f n=none↔WT f n:=by
 unfold VP WT;rw[List.findSome?_eq_none_iff];exact⟨fun h i hi=>h i (Xn.mpr hi),fun h i hi=>h i (Xn.mp hi)⟩
def Tv {k:Nat}{g:Gs}{t:Nat}{v:Int}:Wf k g t v=none↔0<=v/\(0<v->ZH g (t:Int)=true)/\v<=g.most:=by
 unfold Wf;by_cases a:v<0
 ·rw[Xb a]
  exact⟨fun c=>(nomatch c),fun c=>by omega⟩
 ·rw[Xa a]
  by_cases b:0<v/\ZH g (t:Int)=false
  ·rw[Xb b]
   exact⟨fun c=>(nomatch c),fun c=>by have:=c.2.1 b.1;rw[b.2]at this;cases this⟩
  ·rw[Xa b]
   by_cases d:g.most<v
   ·rw[Xb d]
    exact⟨fun c=>(nomatch c),fun c=>by omega⟩
   ·rw[Xa d]
    exact⟨fun _=>⟨by omega,fun p=>by
     cases e:ZH g (t:Int) with
     |true=>rfl
     |false=>exact Xi ⟨p,e⟩ b,by omega⟩,fun _=>rfl⟩
def OP {k:Nat}{g:Gs}{row:Ql}:WS k g row=none↔(∀t,t<row.length->Wf k g t (row.getD t 0)=none)/\row.sum<=g.want:=by
 unfold WS;cases e:VP (fun t=>Wf k g t (row.getD t 0)) row.length with
 |some d =>
   refine⟨fun c=>(nomatch c),fun c=>?_⟩;rw[UP.mpr c.1]at e;cases e
 |none =>
   have e:=UP.mp e
   show(if g.want<row.sum then some (PyData.tuple [.str "want",.int (k:Int)]) else none)=none↔_
   by_cases c:g.want<row.sum
   ·rw[Xb c]
    exact⟨fun z=>(nomatch z),fun z=>by omega⟩
   ·rw[Xa c]
    exact⟨fun _=>⟨e,by omega⟩,fun _=>rfl⟩
def Ed {y:Yd}{gs:List Gs}{F:List (Ql)}:Jn y gs F=none↔(∀j,j<gs.length->Ux gs F j=none)/\∀l t,l<y.ls.length->t<y.T->YQ y gs F l t<=Zi y l t:=by
 unfold Jn;cases e:VP (Ux gs F) gs.length with
 |some d =>
   refine⟨fun c=>(nomatch c),fun c=>?_⟩;rw[UP.mpr c.1]at e;cases e
 |none =>
   have e:=UP.mp e;show UA y gs F=none↔_;unfold UA;rw[UP];refine⟨fun h=>⟨e,fun l t hl ht=>?_⟩,fun h l hl=>UP.mpr fun t ht=>?_⟩
   ·have:=UP.mp (h l hl) t ht
    unfold JV at this;by_cases c:Zi y l t<YQ y gs F l t
    ·rw[Xb c]at this
     cases this
    ·omega
   ·unfold JV
    rw[Xa];have:=h.2 l t hl ht;omega
def Oq {y:Yd}{gs:List Gs}(hg:∀g∈gs,g.Ok y){k:Int}(k0:0<=k)(f:Nat->Qn):Jn (Zx y k) (gs.map fun g=>ZY g k) (V8 gs.length y.T f)=none↔FillOk y gs k f:=by
 have ln:(gs.map fun g=>ZY g k).length=gs.length:=by simp
 have gg:∀{i:Nat},i<gs.length->(gs.map fun g=>ZY g k).getD i default=ZY (gAt gs i) k:=fun{i} hi=>by
  unfold gAt;simp[List.getD,hi]
 have mk0:∀{i:Nat},i<gs.length->0<=(gAt gs i).most*k:=fun{i} hi=>by
  have e:gAt gs i=gs[i]:=by simp[gAt,List.getD,hi]
  rw[e];exact X0 (by have:=(hg _ (Xy hi)).m1;omega) k0
 have sr:∀i n,((List.range n).map (f i)).sum=Qv (f i) n:=fun i n=>VY (f i) n
 have row:∀i,i<gs.length->(Ux (gs.map fun g=>ZY g k) (V8 gs.length y.T f) i=none↔(∀t,t<y.T->0<=f i t/\f i t<=(gAt gs i).most*k*(if ZH (gAt gs i) (t:Int)=true then 1 else 0))/\Qv (f i) y.T<=(gAt gs i).want*k):=fun i hi=>by
  unfold Ux;rw[gg hi,Sy hi,OP,sr,Xh,Jg];have m0:=mk0 hi;refine and_congr ⟨fun h t ht=>?_,fun h t ht=>?_⟩ Iff.rfl
  ·have e:=Tv.mp (h t ht)
   have ev:((List.range y.T).map (f i)).getD t 0=f i t:=by simp[List.getD,ht]
   rw[ev]at e;have e3:f i t<=(gAt gs i).most*k:=e.2.2;refine⟨e.1,?_⟩
   by_cases c:ZH (gAt gs i) (t:Int)=true
   ·rw[Xb c,Int.mul_one]
    exact e3
   ·rw[Xa c,Gg]
    refine Int.not_lt.mp fun z=>c (e.2.1 z)
  ·have ev:((List.range y.T).map (f i)).getD t 0=f i t:=by simp[List.getD,ht]
   rw[ev];obtain⟨h1,h2⟩:=h t ht;refine Tv.mpr ⟨h1,fun z=>?_,?_⟩
   ·show ZH (gAt gs i) (t:Int)=true
    refine Decidable.byContradiction fun c=>?_;rw[Xa c,Gg]at h2;omega
   ·show f i t<=(gAt gs i).most*k
    by_cases c:ZH (gAt gs i) (t:Int)=true
    ·rw[Xb c,Int.mul_one]at h2
     exact h2
    ·rw[Xa c,Gg]at h2
     omega
 have ld:∀l t,t<y.T->YQ (Zx y k) (gs.map fun g=>ZY g k) (V8 gs.length y.T f) l t=ZU y gs.length (fun i=>(gAt gs i).line) (fun i=>f i t) l:=fun l t ht=>by
  unfold YQ UF ZU;rw[ln];refine Zq fun i hi=>?_;unfold M4 ind;rw[FY hi,Xb ht,gg hi,Iq];show(if l∈upL y (gAt gs i).line then f i t else 0)=_
  by_cases c:l∈upL y (gAt gs i).line
  ·simp[c]
  ·simp[c]
 have ll:(Zx y k).ls.length=y.ls.length:=by simp[Zx]
 rw[Ed,ln,ll];constructor
 ·rintro⟨h1,h2⟩
  refine⟨fun i hi=>((row i hi).mp (h1 i hi)).2,fun i t hi ht=>((row i hi).mp (h1 i hi)).1 t ht,fun l t hl ht=>?_⟩
  have:=h2 l t hl ht
  rw[ld l t ht,Ti]at this;exact this
 ·intro h
  refine⟨fun i hi=>(row i hi).mpr ⟨fun t ht=>h.item i t hi ht,h.sum i hi⟩,fun l t hl ht=>?_⟩;rw[ld l t ht,Ti];exact h.load l t hl ht
def FR {n:Int}{m:Nat}{f:Fr}(hn:0<=n)(hm:0<m)(hf:f.Ok):shF n.toNat m=f↔n*(f.b:Int)=(m:Int)*(f.t:Int):=by
 obtain⟨a,b,c,d⟩:=Jw (n:=n.toNat) hm;rw[XR hn]at c;generalize shF n.toNat m=g at a c;have g1:=a.1;have f1:=hf.1
 constructor
 ·intro e
  subst e;rw[XB n,<- c,XB]
 ·intro e
  refine Hq a hf ?_
  have h1:(g.t:Int)*(m:Int)*(f.b:Int)=(f.t:Int)*(m:Int)*(g.b:Int):=by
   rw[c,Xt,e,XB (f.t:Int),XB (g.b:Int)]
  have h2:(m:Int)*((g.t:Int)*(f.b:Int))=(m:Int)*((f.t:Int)*(g.b:Int)):=by
   rw[<- Xt,<- Xt,XB (m:Int),XB (m:Int)];exact h1
  have h3:=Int.eq_of_mul_eq_mul_left (by omega) h2;rw[<- WC,<- WC]at h3;exact Int.ofNat_inj.mp h3
theorem ST:∀as bs:List Fr,PyData.eqv (.list (as.map QU)) (.list (bs.map QU))=decide (as=bs)
 |[],[]=>rfl
 |[],_::_=>rfl
 |_::_,[]=>rfl
 |a::as,b::bs=>by
   have ih:=ST as bs;have e:PyData.eqv (.list ((a::as).map QU)) (.list ((b::bs).map QU))=(PyData.eqv (QU a) (QU b)&&PyData.eqv (.list (as.map QU)) (.list (bs.map QU))):=rfl;rw[e,ih,AG,JC];simp
def P8 (as:List Fr):Jk (.list (as.map QU)):=(GA (m:=1) (Bn fun f=>Ly f)).fine (by decide)
def RC (y:Yd)(gs:List Gs)(k:Int)(f:Nat->Qn)(lv:List (Fr×Qk)):Prop:=FillOk y gs k f/\∀i,i<gs.length->Qv (f i) y.T*((frL lv i).b:Int)=k*(Qz gs i*((frL lv i).t:Int))
inductive R_isfst:List OT->OT->Prop
 |mk {y:Yd} {gs:List Gs} {k:Int} {f:Nat->Qn} {lv:List (Fr×Qk)} (sm:Sml y gs) (k1:1<=k) (k2:k<10^262) (hL:Lev y gs [] 0 1 lv) (b:Bool) (hb:b=true↔RC y gs k f lv):R_isfst [.fz (QS y),.fz (.list (gs.map QB)),.fz (.int k),.fz (.list ((QO gs.length y.T f).map PyData.list))] (.fz (.bool b))
def NK:Qq ZaX ZaB (Q8 DC):=by walk_at"p"
def CU (T:Bl mg) (D:Df K mg "is_fairest" DC ZaB) (XbK:Qy P w K mg base "guests_times" ZaW 2 (QC (K:=K) R_gsstimes)) (Xcj:Qy P w K mg base "fault_of" Zac 6 (QC (K:=K) R_fault)) (XbD:Qy P w K mg base "yard_times" Zbb 2 (QC (K:=K) R_ydtimes)) (XbC:Qy P w K mg base "fraction" ZaT 2 (QC (K:=K) R_frac)) (Xbq:Qy P w K mg base "want_of" Zat 1 (QC (K:=K) R_want)) (Xck:Qy P w K mg base "totals_of" Zbi 1 (QC (K:=K) R_totals)) (XbN:Qy P w K mg base "fair_shares" Zaa 10 (Zy K R_fshares)):Qy P w K mg base "is_fairest" ZaB 11 (QC (K:=K) R_isfst):=by
 refine D.ev NK (fun ts r h=>by cases h;rfl) (fun _ _ _ _ s H E ts r hr h=>?_);have hu:=hr.units
 cases h with
 |@mk y gs k f lv sm k1 k2 hL b hb =>
   refine⟨_,(Qx (QQ (i:=4) NK.nd rfl Qa (QH XbK hr (Qo (pv 1) (Qo (pv 2) Qr))))
 (Qx (ZF (Wm (Ue (QH Xcj hr (Qo (QH XbD hr (Qo (pv 0) (Qo (pv 2) Qr))) (Qo (pv 4) (Qo (pv 3) Qr)))))) (QA (QT U9)) ZG)
 (Qx (Y1 (i:=5) NK.nd rfl rfl (NX:=ZaX) (sc:=Q8 DC) (N:=["total","guest"]) (f:=[none,none]) rfl (by decide +kernel) rfl rfl (UD rfl T.zip (Qo (QH Xck hr (Qo (pv 3) Qr)) (Qo (pv 4) Qr))) (fun _=>(Vs (n:=2) rfl (Zo (QP (i:=0) (show(["total","guest"]:Qh).Nodup by decide +kernel) rfl Qa) (Zo (QP (i:=1) (show(["total","guest"]:Qh).Nodup by decide +kernel) rfl Qa) Vp)))) (fun _=>(Bp (n:=2) (Jb Z5 (Jb Z5 Bx)))) (fun _=>ZT) (fun _=>(QH XbC hr (Qo (pv 0) (Qo (QH Xbq hr (Qo (pv 1) Qr)) Qr)))) rfl)
 (QA (QT (G9 (Mx hu) (pv 5) (QH XbN hr (Qo (pv 0) (Qo (pv 1) Qr))) (ZN _))))))),?_⟩
   show Q9 K _ [some _,some _,some _,some _,none,none] _
   walk_at"x"
   have ok:=sm.ok;have g8:=sm.g8;have k300:k<10^300:=X5 k2 (by decide +kernel);have p300:∀{a:Int},a<10^30->a<10^300:=fun h=>X5 h (by decide +kernel)
   have mk:∀{a:Int},0<=a->a<10^30->a*k<10^300:=fun{a} h0 h1=>by
    have h2:a*k<=10^30*10^262:=YF (by omega) (by omega) (by omega) (by decide +kernel);exact XY h2 (by decide +kernel)
   have gb:∀g∈gs,1<=g.want/\g.want<10^30/\1<=g.most/\g.most<10^30:=fun g h=>⟨(sm.hg g h).w1,(sm.w30 g h).1,(sm.hg g h).m1,(sm.w30 g h).2⟩;have ok':(Zx y k).Ok:=Nn ok (by omega) fun l hl b hb=>mk (ok.bb l hl b hb).1 (sm.b30 l hl b hb)
   have hg':∀g∈gs.map fun g=>ZY g k,g.Ok (Zx y k):=fun g hm=>by
    obtain⟨g0,h0,rfl⟩:=XD.mp hm;have q:=sm.hg g0 h0;obtain⟨a1,a2,a3,a4⟩:=gb g0 h0;have o1:1*1<=g0.want*k:=YF (by omega) (by omega) (by omega) (by omega);have o2:1*1<=g0.most*k:=YF (by omega) (by omega) (by omega) (by omega);refine⟨by have:=q.ln;simpa [Zx,ZY] using this,q.fl,q.lt,?_,mk (by omega) a2,?_,mk (by omega) a4⟩
    ·show 1<=g0.want*k
     omega
    ·show 1<=g0.most*k
     omega
   have ln:(gs.map fun g=>ZY g k).length=gs.length:=by simp
   refine QG (ZW (Ua (Qt (Qp rfl) (Qt (Qp rfl) QD)) (R_gsstimes.mk (fun g h=>⟨VJ (by have:=(gb g h).1;omega) (p300 (gb g h).2.1) (by omega) k300,VJ (by have:=(gb g h).2.2.1;omega) (p300 (gb g h).2.2.2) (by omega) k300⟩) g8)) ?_)
   walk_at"d"
   refine Yi 4 rfl ?_
   walk_at"d"
   have fn:=Oq (y:=y) sm.hg (k:=k) (by omega) f;have eF:∀{ρ:QL} {E1 E2:XK},ρ[0]?=some (some (.fz (QS y)))->ρ[2]?=some (some (.fz (.int k)))->ρ[3]?=some (some (.fz (.list ((QO gs.length y.T f).map PyData.list))))->ρ[4]?=some (some (.fz (.list ((gs.map fun g=>ZY g k).map QB))))->Qs K (Wz (QC (K:=K) R_fault) [] E1 (Zl (Wz (QC (K:=K) R_ydtimes) [] E2 (Zl (Za 0) (Zl (Za 2) Zv))) (Zl (Za 4) (Zl (Za 3) Zv)))) ρ (oD (Jn (Zx y k) (gs.map fun g=>ZY g k) (V8 gs.length y.T f))):=fun e0 e2 e3 e4=>Zk (Qt (Zk (Qt (Qp e0) (Qt (Qp e2) QD)) (R_ydtimes.mk (fun l hl b hb=>VJ (ok.bb l hl b hb).1 (p300 (sm.b30 l hl b hb)) (by omega) k300) (fun l hl=>by rw[ok.bl l hl];exact ok.t8) ok.l5)) (Qt (Qp e4) (Qt (Qs.cast (Qp e3) (SV gs.length y.T f).symm) QD))) (R_fault.mk ok' hg' (by rw[ln];exact Iw gs.length y.T f))
   cases e:Jn (Zx y k) (gs.map fun g=>ZY g k) (V8 gs.length y.T f) with
   |some d =>
     have nn:Wn d=false:=by
      unfold Jn at e;split at e
      ·rename_i z
       cases e
       exact Di (fun i d h=>TN h) z
      ·unfold UA at e
       exact Di (fun l d h=>Di (fun t d h=>by
        unfold JV at h;split at h
        ·cases h;rfl
        ·cases h) h) e
     have bf:b=false:=by
      cases c:b with
      |false=>rfl
      |true =>
        have:=fn.mpr (hb.mp c).1
        rw[e]at this;cases this
     subst bf;refine QG (ZV (b:=true) (Zz.cast (ZO (Yy (eF rfl rfl rfl rfl))) (by rw[e];show(!Wn d)=true;rw[nn];rfl)) (fun _=>ZD Go rfl) (fun c=>nomatch c))
   |none =>
     have fo:=fn.mp e;refine QG (ZV (b:=false) (Zz.cast (ZO (Yy (eF rfl rfl rfl rfl))) (by rw[e];rfl)) (fun c=>nomatch c) (fun _=>ZI ?_));have s0:∀i,i<gs.length->0<=Qv (f i) y.T:=fun i hi=>MJ fun t ht=>(fo.item i t hi ht).1
     have wn:∀i,i<gs.length->(((Qz gs i*k).toNat:Nat):Int)=Qz gs i*k/\0<(Qz gs i*k).toNat/\Qz gs i*k<10^300:=fun i hi=>by
      have gm:gs.getD i default∈gs:=by rw[Yp hi];exact Xy hi
      obtain⟨a1,a2,_⟩:=gb _ gm;have o1:1*1<=Qz gs i*k:=YF a1 (by omega) (by omega) (by show 0<=(gs.getD i default).want;omega)
      exact⟨by omega,by omega,mk (by show 0<=(gs.getD i default).want;omega) a2⟩
     refine QG (ZW (r:=.ol (((List.range gs.length).map fun i=>shF (Qv (f i) y.T).toNat (Qz gs i*k).toNat).map QU)) (EvO.cast (VA (xs:=List.range gs.length) (enc:=fun i=>.tuple [.int (Qv (f i) y.T),QB (ZY (gs.getD i default) k)]) (h:=fun i=>QU (shF (Qv (f i) y.T).toNat (Qz gs i*k).toNat)) ?ei (by simp;omega) ?el) (by rw[Xw];rfl)) ?_)
     case ei =>
      refine EvI.cast (Jr (as:=(Md (V8 gs.length y.T f)).map PyData.int) (bs:=(gs.map fun g=>ZY g k).map QB) (Qt (Ug (Qt (Qs.cast (Qp rfl) (SV gs.length y.T f).symm) QD) (R_totals.mk (by simp[V8];omega))) (Qt (Qp rfl) QD))) ?_;unfold VH Md V8;refine BT (by simp) fun i h1 h2=>?_;have hi:i<gs.length:=by simpa using h2
      have sr:=VY (f i) y.T
      simp[List.getD,hi,sr]
     case el =>
      intro i hi c;have hi:=Xn.mp hi;obtain⟨w1,w2,w3⟩:=wn i hi;refine⟨_,Yv (ds:=[.int (Qv (f i) y.T),QB (ZY (gs.getD i default) k)]) (Z8 Zj (Z8 Zj Y6)) rfl,?_⟩
      walk_at"e"
      refine Qs.cast (Zk (Qt (Qp rfl) (Qt (Qs.cast (Zk (Qt (Qp rfl) QD) R_want.mk) (XW PyData.int w1.symm)) QD)) (R_frac.mk (t:=Qv (f i) y.T) w2 (by rw[w1];exact X5 w3 (by decide +kernel)))) ?_;unfold QU;rw[(Jw (n:=(Qv (f i) y.T).toNat) w2).2.1];show _=PyData.tuple [_,.int (frB (((Qv (f i) y.T).toNat:Nat):Int) _:Int)];rw[XR (s0 i hi)]
     walk_at"d"
     refine Yi 5 rfl ?_
     walk_at"d"
     refine ZD (Qs.cast (Bi (Qp rfl) (Qs.cast (d':=.list (((List.range gs.length).map (frL lv)).map QU)) (EvO.fz (ZJ.o (r:=.ol ((List.range gs.length).map fun i=>QU (frL lv i))) (ZJ.imp (Yj (Qt (Qp rfl) (Qt (Qp rfl) QD)) (R_fshares.mk sm)) ?im))) (by rw[Xw];rfl)) (P8 _) (P8 _)) ?eb) rfl
     case im =>
      rintro r ⟨lv',h',rfl⟩
      congr 1
      exact XQ fun i hi=>by rw[Lev.uniq sm hL h' i (Xn.mp hi)]
     case eb =>
      rw[ST];congr 1
      rw[JC,decide_eq_true_eq,hb];have key:∀i,i<gs.length->(shF (Qv (f i) y.T).toNat (Qz gs i*k).toNat=frL lv i↔Qv (f i) y.T*((frL lv i).b:Int)=k*(Qz gs i*((frL lv i).t:Int))):=fun i hi=>by
       obtain⟨w1,w2,w3⟩:=wn i hi;obtain⟨l,h1,h2,h3,h4⟩:=hL.fr_at (Q:=1) i hi (fun z=>nomatch z);rw[FR (s0 i hi) w2 (by rw[h3];exact(hL.fr l h1).1.ok),w1,XB (Qz gs i) k,Xt]
      constructor
      ·intro h
       refine⟨fo,fun i hi=>(key i hi).mp ?_⟩
       have:=XW (fun l=>l[i]?) h
       simpa [hi] using this
      ·intro h
       exact XQ fun i hi=>(key i (Xn.mp hi)).mpr (h.2 i (Xn.mp hi))
def Aw {K:W.Frag}{ρ:QL}{ta tb:TE}{Φ:OT->Prop}{Φ':List OT->Prop}{d2:PyData}(h:ZJ K ta ρ Φ)(h2:Qs K tb ρ d2)(hi:∀r,Φ r->∃d,WG r=some d/\Φ' [.fz d,.fz d2]):Jo K (Zl ta (Zl tb Zv)) ρ Φ':=fun H0 F σ H Q S q =>
 h H0 F σ H _ S fun F1 H1 v p r hr x hp ok=>by
  obtain⟨d,ed,hp'⟩:=hi r hr
  have x1:QM F H (frF F1 H1 p) H1:=⟨x.hh,x.ff.trans (Wp fun a ha=>(ok.there a ha).1),Ud x.fh,fun a ha=>by
   by_cases z:a∈p
   ·exact .inr (hp a z)
   ·rw[Yq z]at ha;exact x.fr a ha⟩
  exact h2 H0 _ σ H1 _ (S.ext x1) fun F2 H2 u x2 r2=>q F2 H2 [v,u] _ hp' (x1.trans x2) (.fz ((ok.frz ed).mono x2.ff) (.fz r2 .nil))
def Lev.shfr {y:Yd}{gs:List Gs}{A:Qk}{p q:Int}{lv:List (Fr×Qk)}(h:Lev y gs A p q lv):∀(k:Nat),k<gs.length->k∉A->∀d:PyData,lv.foldl (fun d l=>if k∈l.2 then QU l.1 else d) d=QU (frL lv k):=by
 induction h with
 |nil h=>exact fun k hk c=>Xi (h k hk) c
 |@cons A p q f T lv N r ih =>
   intro k hk c d;rw[BS];by_cases z:k∈T
   ·show List.foldl _ (if k∈T then QU f else d) _=QU (if k∈T then f else frL lv k)
    rw[Xb z,Xb z];exact TL (fun l hl c'=>r.dis l hl k c' (XJ _ z)) _
   ·show List.foldl _ (if k∈T then QU f else d) _=QU (if k∈T then f else frL lv k)
    rw[Xa z,Xa z];exact ih k hk (fun c'=>(XC.mp c').elim c z) d
def Bdd (m T:Nat)(f:Nat->Qn):Prop := ∀i t,i<m->t<T->(f i t).natAbs<=10^296
def Uz (c:Qm)(b:Bool):Qm
 |0=>b
 |i+1=>Uz c b i&&c i
theorem Pz {c:Qm}{b:Bool}:∀n,Uz c b n=true↔b=true/\∀i,i<n->c i=true
 |0=>⟨fun h=>⟨h,fun i hi=>Xi hi (JK i)⟩,fun h=>h.1⟩
 |n+1=>by
   show(Uz c b n&&c n)=true↔_
   rw[JD,Pz n];refine⟨fun h=>⟨h.1.1,fun i hi=>?_⟩,fun h=>⟨⟨h.1,fun i hi=>h.2 i (by omega)⟩,h.2 n (by omega)⟩⟩
   by_cases e:i=n
   ·rw[e];exact h.2
   ·exact h.1.2 i (by omega)
theorem KG {f:Qn}{c:Nat}:∀{n:Nat},(∀t,t<n->(f t).natAbs<=c)->(Qv f n).natAbs<=n*c
 |0,_=>by simp[Qv]
 |n+1,h=>by
   have h1:=KG (n:=n) fun t ht=>h t (by omega);have h2:=h n (by omega);rw[Qv,Nat.succ_mul];omega
def LP {a b:Int}{m n:Nat}(h1:a.natAbs<2^m)(h3:b.natAbs<2^n)(h4:m+n<=100000):IntMulOk a b:=by
 have bl:∀{x:Int} {m:Nat},x.natAbs<2^m->Builtin.Int.intBits x<=m:=fun{x m} h2=>by
  unfold Builtin.Int.intBits;by_cases e:x=0
  ·subst e;simp
  ·have e1:(x==0)=false:=by simpa using e
   rw[e1];have h1:x.natAbs≠0:=by omega
   have:=(Nat.log2_lt h1).mpr h2
   simp only[X8,if_false];omega
 have ba:=bl h1;have bb:=bl h3
 unfold IntMulOk;have:Builtin.Int.intTooBig (Builtin.Int.intBits a+Builtin.Int.intBits b)=false:=by
  unfold Builtin.Int.intTooBig;have hb:(100000:Nat)<=bitsLine:=by decide
  exact XG (by omega)
 rw[this];simp
def Fa (m T:Nat)(f:Nat->Qn):Yg 2 (.list ((QO m T f).map PyData.list)):=by
 unfold QO;rw[Xw];exact GA (Bn fun k=>GA (m:=0) (Bn fun t=>Mv _ 0))
inductive R_told:List OT->OT->Prop
 |mk {y:Yd} {gs:List Gs} {k:Int} {f:Nat->Qn} (sm:Sml y gs) (k1:1<=k) (k2:k<10^262) (fb:Bdd gs.length y.T f):R_told [.fz (QS y),.fz (.list (gs.map QB)),.fz (.int k),.fz (.list ((QO gs.length y.T f).map PyData.list))] (.fz (.bool true))
def J7:Qq Zam Zab (Q8 DB):=by walk_at"p"
def CI (T:Bl mg) (D:Df K mg "_law_told" DB Zab) (XbM:Qy P w K mg base "fair_levels" Zaa 9 (Zy K R_levels)) (Xcl:Qy P w K mg base "_law_shares" ZaH 1 (QC (K:=K) R_lshares)) (Xcm:Qy P w K mg base "_law_is_filling" Zab 1 (QC (K:=K) R_isfill)) (Xcn:Qy P w K mg base "is_fairest" ZaB 11 (QC (K:=K) R_isfst)):Qy P w K mg base "_law_told" Zab 12 (QC (K:=K) R_told):=by
 refine D.ev J7 (fun ts r h=>by cases h;rfl) (fun _ _ _ _ s H E ts r hr h=>?_);have hu:=hr.units
 cases h with
 |@mk y gs k f sm k1 k2 fb =>
   refine⟨_,(Qx (QQ (i:=4) J7.nd rfl Qa (QH Xcl hr (Qo (QH XbM hr (Qo (pv 0) (Qo (pv 1) Qr))) (Qo (Z2 Ym (by rfl) T.len Yk (Qo (pv 1) Qr)) Qr))))
 (Qx (QQ (i:=5) J7.nd rfl Qa (QH Xcm hr (Qo (pv 0) (Qo (pv 1) (Qo (pv 2) (Qo (pv 3) Qr))))))
 (Qx (ZC PassesOwn.never rfl (CG rfl T.zip (Qo (pv 1) (Qo (pv 4) (Qo (pv 3) Qr)))) (Vs (n:=3) rfl (Zo (QP (i:=6) J7.nd rfl Qa) (Zo (QP (i:=7) J7.nd rfl Qa) (Zo (QP (i:=8) J7.nd rfl Qa) Vp)))) (QA (QQ (i:=5) J7.nd rfl Qa (HX (pv 5) (RZ (G9 JS (QF YA (Z2 UG (by rfl) T.sum UI (Qo (pv 8) Qr)) (QJ QK (pv 7) Qw)) (QF YA (QF YA (pv 2) (QJ QK (pv 6) Qw)) (QJ QK (pv 7) Qw)) (ZN _)))))))
 (Qx (Y1 (i:=9) J7.nd rfl rfl (NX:=Zam) (sc:=Q8 DB) (N:=["_law_row"]) (f:=[none]) rfl (by decide +kernel) rfl rfl (Vq (pv 3)) (fun _=>(QP (i:=0) (show(["_law_row"]:Qh).Nodup by decide +kernel) rfl Qa)) (fun _=>Z5) (fun _=>ZT) (fun _=>(WX MI (by rfl) T.list MQ (Qo (pv 0) Qr))) rfl)
 (Qx (QQ (i:=10) J7.nd rfl Qa (QH Xcn hr (Qo (pv 0) (Qo (WX MI (by rfl) T.list MQ (Qo (pv 1) Qr)) (Qo (pv 2) (Qo (pv 9) Qr))))))
 (QA (QT (HX (Z2 LN (by rfl) T.isi Ft (Qo (pv 10) (Qo (Ag (v:=.ty "bool") rfl T.bool FA rfl) Qr))) (HX (G9 (Mx hu) (pv 10) (pv 5) (ZN _)) (RZ (G9 (Mx hu) (pv 9) (pv 3) (ZN _)))))))))))),?_⟩
   show Q9 K _ [some _,some _,some _,some _,none,none,none,none,none,none,none] _
   walk_at"x"
   have ok:=sm.ok;have g8:=sm.g8;have t8:=ok.t8;have k300:k<10^300:=X5 k2 (by decide +kernel);have p300:∀{a:Int},a<10^30->a<10^300:=fun h=>X5 h (by decide +kernel);have gl:(gs.map QB).length=gs.length:=by simp
   refine QG (Wr (Φ:=fun r=>∃lv,Lev y gs [] 0 1 lv/\r=.ol ((List.range gs.length).map (shL lv))) (Pb (ΦA:=fun ts=>∃lv,Lev y gs [] 0 1 lv/\ts=[.fz (.list (lv.map Wg)),.fz (.int (gs.length:Int))]) (Aw (Yj (Qt (Qp rfl) (Qt (Qp rfl) QD)) (R_levels.mk sm)) (Qs.cast (Jz (Qp rfl)) (by rw[gl])) (fun r ⟨lv,h,_,e⟩=>⟨.list (lv.map Wg),by rw[e];rfl,lv,h,rfl⟩)) (fun ts ⟨lv,h,e⟩=>⟨_,by rw[e];exact R_lshares.mk g8 fun l hl k hk=>(h.fr l hl).2.2.mem k hk,lv,h,rfl⟩)) (fun r hr'=>?_));obtain⟨lv,hL,rfl⟩:=hr'
   walk_at"d"
   have esh:(List.range gs.length).map (shL lv)=(List.range gs.length).map fun i=>QU (frL lv i):=XQ fun i hi=>hL.shfr i (Xn.mp hi) (fun z=>nomatch z) _
   rw[esh];have frl:∀i,i<gs.length->FrB (frL lv i):=fun i hi=>by
    obtain⟨l,h1,h2,h3,h4⟩:=hL.fr_at (Q:=1) i hi (fun z=>nomatch z);rw[h3];exact(hL.fr l h1).1
   refine Yi 4 rfl ?_
   walk_at"d"
   obtain⟨b0,hb0⟩:∃b0:Bool,b0=true↔FillOk y gs k f:=by
    by_cases c:FillOk y gs k f
    ·exact⟨true,fun _=>c,fun _=>rfl⟩
    ·exact⟨false,fun z=>(nomatch z),fun z=>Xi z c⟩
   refine QG (Zw (Zk (Qt (Qp rfl) (Qt (Qp rfl) (Qt (Qp rfl) (Qt (Qp rfl) QD)))) (R_isfill.mk ok (fun g h=>Fv (sm.hg g h)) g8 (by omega) k300 b0 hb0)) ?_)
   walk_at"d"
   refine QG (YU (ds:=(List.range gs.length).map fun i=>.tuple [QB (gs.getD i default),QU (frL lv i),.list ((List.range y.T).map fun t=>PyData.int (f i t))]) (fun i=>[some (.fz (QS y)),some (.fz (.list (gs.map QB))),some (.fz (.int k)),some (.fz (.list ((QO gs.length y.T f).map PyData.list))),some (.fz (.list ((List.range gs.length).map fun i=>QU (frL lv i)))),some (.fz (.bool (Uz (fun i=>decide (Qv (f i) y.T*((frL lv i).b:Int)=k*Qz gs i*((frL lv i).t:Int))) b0 i))),none,none,none,none,none]) ?ei ⟨rfl,rfl,rfl,rfl,rfl,rfl,trivial⟩ ?st ?fin)
   case ei =>
    refine Al (xs:=List.range gs.length) (Qt (Qs.cast (Qp rfl) ?g1) (Qt (Qp rfl) (Qt (Qs.cast (Qp rfl) ?g2) QD)))
    case g1 =>
     congr 1
     refine BT (by simp) fun i h1 h2=>?_;have hi:i<gs.length:=by simpa using h2
     simp[List.getD,hi]
    case g2 =>
     unfold QO;rw[Xw];rfl
   case st =>
    intro i d hd;have hi:i<gs.length:=by
     have:=(Xe.mp hd).1
     simpa using this
    obtain rfl:d=.tuple [QB (gs.getD i default),QU (frL lv i),.list ((List.range y.T).map fun t=>PyData.int (f i t))]:=by simpa [hi] using hd.symm
    have gm:gs.getD i default∈gs:=by rw[Yp hi];exact Xy hi
    have w1:=(sm.hg _ gm).w1;have w2:=(sm.w30 _ gm).1;have fr:=frl i hi;have t1:=fr.t;have t2:=fr.b
    have sb:(Qv (f i) y.T).natAbs<2^1000:=by
     have h1:=KG (f:=f i) (n:=y.T) fun t ht=>fb i t hi ht;have h2:y.T*10^296<=8*10^296:=GW _ t8;exact BV (XI h1 h2) (by decide +kernel)
    have p103:(2:Nat)^103<2^200:=by decide +kernel
    have m1:IntMulOk (Qv (f i) y.T) ((frL lv i).b:Int):=LP (m:=1000) (n:=200) sb (by rw[Int.natAbs_natCast];omega) (by decide);have m2:IntMulOk k (Qz gs i):=VJ (by omega) k300 (by show 0<=(gs.getD i default).want;omega) (p300 w2)
    have m3:IntMulOk (k*Qz gs i) ((frL lv i).t:Int):=by
     have h0:0<=k*Qz gs i:=X0 (by omega) (by show 0<=(gs.getD i default).want;omega);have h1:k*Qz gs i<=10^262*10^30:=YF (by omega) (by show(gs.getD i default).want<=_;omega) (by show 0<=(gs.getD i default).want;omega) (by decide +kernel);have h2:k*Qz gs i<10^300:=XY h1 (by decide +kernel);have h3:((frL lv i).t:Int)<((2^103:Nat):Int):=Wu.mpr t1;exact VJ h0 h2 (by omega) (X5 h3 (by decide +kernel))
    refine⟨_,Yv (ds:=[QB (gs.getD i default),QU (frL lv i),.list ((List.range y.T).map fun t=>PyData.int (f i t))]) (Z8 Zj (Z8 Zj (Z8 Zj Y6))) rfl,?_⟩
    walk_at"d"
    have ixf:∀{ρ:QL} {j:Nat} {k':Int} {d:PyData},ρ[j]?=some (some (.fz (QU (frL lv i))))->atI [.int ((frL lv i).t:Int),.int ((frL lv i).b:Int)] k'=some d->Qs K (tOp (rIx K) (Za j) (tC (.int k'))) ρ d:=fun e h=>ZB (ds:=[.int ((frL lv i).t:Int),.int ((frL lv i).b:Int)]) (Qp e) QX h;have ixg:∀{ρ:QL} {j:Nat},ρ[j]?=some (some (.fz (QB (gs.getD i default))))->Qs K (tOp (rIx K) (Za j) (tC (.int 3))) ρ (.int (Qz gs i)):=fun e=>ZB (ds:=[.int ((gs.getD i default).line:Int),.int ((gs.getD i default).first:Int),.int ((gs.getD i default).last:Int),.int (gs.getD i default).want,.int (gs.getD i default).most]) (Qp e) QX rfl;have sr:=VY (f i) y.T;refine Zw (d:=.bool (Uz (fun i=>decide (Qv (f i) y.T*((frL lv i).b:Int)=k*Qz gs i*((frL lv i).t:Int))) b0 (i+1))) (Mr (Qp rfl) (fun _=>Gx (Zs (Qs.cast (JZ (ns:=(List.range y.T).map (f i)) (Qs.cast (d':=.list (((List.range y.T).map (f i)).map PyData.int)) (Qp rfl) (by rw[Xw];rfl)) rfl) (XW PyData.int sr)) (ixf rfl rfl) m1) (Zs (Zs (Qp rfl) (ixg rfl) m2) (ixf rfl rfl) m3))) ?_
    exact⟨rfl,rfl,rfl,rfl,rfl,rfl,trivial⟩
   case fin =>
    intro ρ' hf;refine VW hf ?_
    rw[Xh,Jg];have hb:Uz (fun i=>decide (Qv (f i) y.T*((frL lv i).b:Int)=k*Qz gs i*((frL lv i).t:Int))) b0 gs.length=true↔RC y gs k f lv:=by
     rw[Pz,hb0];refine and_congr Iff.rfl ⟨fun h i hi=>?_,fun h i hi=>?_⟩
     ·rw[<- Xt]
      exact Xq (h i hi)
     ·refine YZ ?_
      rw[Xt];exact h i hi
    generalize Uz (fun i=>decide (Qv (f i) y.T*((frL lv i).b:Int)=k*Qz gs i*((frL lv i).t:Int))) b0 gs.length=b at hb;refine QG (ZW (r:=.oll (QO gs.length y.T f)) (EvO.cast (JY (xs:=List.range gs.length) (enc:=fun i=>.list ((List.range y.T).map fun t=>PyData.int (f i t))) (h:=fun i=>(List.range y.T).map fun t=>PyData.int (f i t)) ?ei2 (by simp;omega) ?el2) rfl) ?_)
    case ei2 =>
     refine EvI.cast (Vv (Qp rfl)) ?_;unfold QO;rw[Xw];rfl
    case el2 =>
     intro i hi c;refine⟨_,Zj,?_⟩
     walk_at"e"
     exact B0 (Qp rfl)
    walk_at"d"
    refine Br 9 rfl rfl ?_
    walk_at"d"
    refine QG (Zw (Zk (Qt (Qp rfl) (Qt (EvO.fz (B0 (Qp rfl))) (Qt (Qp rfl) (Qt (Qp rfl) QD)))) (R_isfst.mk sm k1 k2 hL b hb)) ?_)
    walk_at"d"
    have ft:=(Fa gs.length y.T f).fine (by decide);refine ZD (Qs.cast (Mr (b:=true) (c:=true) (RO (Qp rfl) rfl) (fun _=>Qs.cast (Mr (b:=true) (c:=true) (Qs.cast (Bi (a:=.bool b) (b:=.bool b) (Qp rfl) (Qp rfl) ((Kw b 0).fine (by decide)) ((Kw b 0).fine (by decide))) (by rw[Po ((Kw b 0).fine (by decide))])) (fun _=>Qs.cast (Bi (Qp rfl) (Qp rfl) ft ft) (by rw[Po ft]))) rfl)) rfl) rfl
def Bnd (c m T:Nat)(f:Nat->Qn):Prop := ∀i t,i<m->t<T->(f i t).natAbs<=c
def Bnd.mono {c c' m T:Nat}{f:Nat->Qn}(h:Bnd c m T f)(hc:c<=c'):Bnd c' m T f:=fun i t hi ht=>XI (h i t hi ht) hc
def Bnd.upd {c m T:Nat}{f:Nat->Qn}(h:Bnd c m T f){a b:Nat}{v:Int}(hv:v.natAbs<=c):Bnd c m T (Ys f a b v):=fun i t hi ht=>by
 unfold Ys;split
 ·exact hv
 ·exact h i t hi ht
def Fi {n T:Nat}(W:Nat->Qn){j:Nat}(hj:j<n):ixN (QO n T W).length (j:Int)=some j:=by
 rw[GL];have:=Gy (n:=n) (k:=(j:Int)) (by omega) (by omega)
 rwa [Xl]at this
def LY {T:Nat}(g:Qn){t:Nat}(ht:t<T):ixN ((List.range T).map fun t=>PyData.int (g t)).length (t:Int)=some t:=by
 rw[Xh,Jg];have:=Gy (n:=T) (k:=(t:Int)) (by omega) (by omega)
 rwa [Xl]at this
def HR {ρ:QL}{n T:Nat}{W:Nat->Qn}{i ja jt a t:Nat}(e:ρ[i]?=some (some (.oll (QO n T W))))(hia:i≠ja)(hit:i≠jt)(ea:ρ[ja]?=some (some (.fz (.int (a:Int)))))(et:ρ[jt]?=some (some (.fz (.int (t:Int)))))(ha:a<n)(ht:t<T):Qs K (tOp (rIx K) (tOp (rIx K) (Za i) (Za ja)) (Za jt)) ρ (.int (W a t)):=by
 have a1:atI ((QO n T W).map PyData.list) (a:Int)=some (.list ((List.range T).map fun t=>PyData.int (W a t))):=Y9 (by rw[Xj,Um _ ha];rfl);have a2:atI ((List.range T).map fun t=>PyData.int (W a t)) (t:Int)=some (.int (W a t)):=by rw[Gz (by omega) (by omega),Xl]
 have hlt:=(Xe.mp e).1;exact B7 i e rfl rfl (Y7 (Y7 (Qp (XL hlt)) (Qp (by rw[XT hia];exact ea)) a1) (Qp (by rw[XT hit];exact et)) a2)
def Mz {ρ:QL}{D:PEnds}{te:TE}{n T:Nat}{W:Nat->Qn}{i ja jt a t:Nat}{v:Int}(e:ρ[i]?=some (some (.oll (QO n T W))))(ea:ρ[ja]?=some (some (.fz (.int (a:Int)))))(et:ρ[jt]?=some (some (.fz (.int (t:Int)))))(ha:a<n)(ht:t<T)(h:Qs K te ρ (.int v))(hn:D.nx (ρ.set i (some (.oll (QO n T (Ys W a t v)))))):Q9 K (Wa te (Mc (tOp (rIx K) (Za i) (Za ja)) (Za jt) Gr)) ρ D :=
 TH (d:=.int v) (k:=(a:Int)) (m:=(t:Int)) e h (Qp ea) (Qp et) (Fi W ha) (Um _ ha) (LY _ ht) (by rw[Tl W _ ha ht];exact hn)
inductive R_changed:List OT->(OT->Prop)->Prop
 |mk {y:Yd} {m c:Nat} {f:Nat->Qn} {n:Int} (ok:y.Ok) (m8:m<=8) (hb:Bnd c m y.T f):R_changed [.fz (QS y),.fz (.list ((QO m y.T f).map PyData.list)),.fz (.int n)] (fun r=>∃f',Bnd (c+2) m y.T f'/\(r=.fz (.list ((QO m y.T f').map PyData.list))\/r=.oll (QO m y.T f')))
def Jf:Qq Zai Zap (Q8 BI):=by walk_at"p"
def OV (T:Bl mg) (D:Df K mg "_law_changed" BI Zap):Qy P w K mg base "_law_changed" Zap 1 (Zy K R_changed):=by
 refine D.evD Jf (fun ts Φ h=>by cases h;rfl) (fun _ _ _ _ s H E ts Φ hr h=>?_);have hu:=hr.units
 cases h with
 |@mk y m c f n ok m8 hb =>
   refine⟨_,(Qx (QQ (i:=3) Jf.nd rfl Qa (QF Vb (pv 2) Qw))
 (Qx (QQ (i:=2) Jf.nd rfl Qa (QF Vl (pv 2) Qw))
 (Qx (ZF (PW.pt (RI (ZX (Mx hu) (pv 1) (V2 Qr) (ZN _)) (RX (ZX JS (pv 3) Qw (ZN _))))) (QA (QT (pv 1))) ZG)
 (Qx (Y1 (i:=4) Jf.nd rfl rfl (NX:=Zai) (sc:=Q8 BI) (N:=["_law_row"]) (f:=[none]) rfl (by decide +kernel) rfl rfl (Vq (pv 1)) (fun _=>(QP (i:=0) (show(["_law_row"]:Qh).Nodup by decide +kernel) rfl Qa)) (fun _=>Z5) (fun _=>ZT) (fun _=>(WX MI (by rfl) T.list MQ (Qo (pv 0) Qr))) rfl)
 (Qx (QQ (i:=5) Jf.nd rfl Qa (QF Vb (pv 2) (Z2 Ym (by rfl) T.len Yk (Qo (pv 4) Qr))))
 (Qx (QQ (i:=6) Jf.nd rfl Qa (QF Vb (QF Vl (pv 2) Qw) (QJ QK (pv 0) Qw)))
 (Qx (QQ (i:=7) Jf.nd rfl Qa (QJ QK (V2 (Qo Qw (Qo (Mm M9 Qw) (Qo (Mm M9 Qw) (Qo (Mm M9 Qw) (Qo Qw Qr)))))) (pv 3)))
 (Qx (YS (QF Vr (QJ QK (QJ QK (pv 4) (pv 5)) (pv 6)) (pv 7)) (G6 (QJ QK (pv 4) (pv 5)) (pv 6) Jc))
 (Qx (ZF (ZX JS (pv 3) Qw (ZN _)) (Qx (QQ (i:=6) Jf.nd rfl Qa (QF Vb (QF Vl (pv 2) Qw) (QJ QK (pv 0) Qw)))
 (QA (YS (QF Vr (QJ QK (QJ QK (pv 4) (pv 5)) (pv 6)) Qw) (G6 (QJ QK (pv 4) (pv 5)) (pv 6) Jc)))) ZG)
 (Qx (ZF (ZX JS (pv 3) Qw (ZN _)) (Qx (QQ (i:=8) Jf.nd rfl Qa (QF Vb (QF Vl (pv 2) Qw) (Z2 Ym (by rfl) T.len Yk (Qo (pv 4) Qr))))
 (QA (YS (QF Vr (QJ QK (QJ QK (pv 4) (pv 8)) (pv 6)) Qw) (G6 (QJ QK (pv 4) (pv 8)) (pv 6) Jc)))) ZG)
 (Qx (ZF (ZX JS (pv 3) Qw (ZN _)) (QA (Y1 (i:=4) Jf.nd rfl rfl (NX:=Zai) (sc:=Q8 BI) (N:=["_law_row","_law_yard_here"]) (f:=[none,some 0]) rfl (by decide +kernel) rfl rfl (Vq (pv 4)) (fun _=>(QP (i:=0) (show(["_law_row","_law_yard_here"]:Qh).Nodup by decide +kernel) rfl Qa)) (fun _=>Z5) (fun _=>ZT) (fun _=>(QF HZ (V2 (Qo Qw Qr)) (QJ QK (pv 1) Qw))) rfl)) ZG)
 (QA (QT (pv 4)))))))))))))),?_⟩
   show Q9 K _ [some _,some _,some _,none,none,none,none,none,none] _
   walk_at"x"
   have t1:=ok.t1;have t8:=ok.t8;have c6:(0:Int)<6:=by decide
   have ft:Jk (.list ((QO m y.T f).map PyData.list)):=by
    unfold QO;rw[Xw];exact(GA (m:=1) (Bn fun k=>GA (m:=0) (Bn fun t=>Mv _ 0))).fine (by decide)
   have eT:∀{ρ:QL},ρ[0]?=some (some (.fz (QS y)))->Qs K (tOp (rIx K) (Za 0) (tC (.int 0))) ρ (.int (y.T:Int)):=fun e=>ZB (ds:=[PyData.int (y.T:Int),.tuple (y.ls.map Ve)]) (Qp e) QX rfl;refine QG (Zw (d:=.int (n%6)) (Zs (Qp rfl) QX (mdl c6)) ?_)
   walk_at"d"
   refine QG (Zw (d:=.int (n/6)) (Zs (Qp rfl) QX (JL c6 (by decide))) ?_)
   walk_at"d"
   have w0:=JB n (show(6:Int)≠0 by decide);have w1:=GV n c6;generalize n%6=way at w0 w1;generalize n/6=q;refine QG (ZV (Mi (ZO (Bi (Qp rfl) (EvO.fz (Y8 (ds:=[]) Vf (by decide))) ft EF)) (fun _=>ZO (Gx (Qp rfl) QX))) (fun _=>ZD (Qp rfl) ⟨f,hb.mono (by omega),.inl rfl⟩) (fun cc=>ZI ?_));obtain⟨cc1,cc2⟩:=Bool.or_eq_false_iff.mp cc;have cc2:way≠5:=XO cc2
   have m0:0<m:=Nat.pos_of_ne_zero fun z=>by
    subst z;have e:PyData.eqv (.list ((QO 0 y.T f).map PyData.list)) (.list [])=true:=rfl;rw[e]at cc1;cases cc1
   refine QG (ZW (r:=.oll (QO m y.T f)) (EvO.cast (JY (xs:=List.range m) (enc:=fun i=>.list ((List.range y.T).map fun t=>PyData.int (f i t))) (h:=fun i=>(List.range y.T).map fun t=>PyData.int (f i t)) ?ei2 (by simp;omega) ?el2) rfl) ?_)
   case ei2 =>
    refine EvI.cast (Vv (Qp rfl)) ?_;unfold QO;rw[Xw];rfl
   case el2 =>
    intro i hi c;refine⟨_,Zj,?_⟩
    walk_at"e"
    exact B0 (Qp rfl)
   walk_at"d"
   have mp:(0:Int)<(m:Int):=by omega
   have Tp:(0:Int)<(y.T:Int):=by omega
   have lnr:∀{ρ:QL} {W:Nat->Qn},ρ[4]?=some (some (.oll (QO m y.T W)))->Qs K (tCB (U2 K) (Zl (Za 4) Zv)) ρ (.int (m:Int)):=fun{ρ W} e=>by
    have hlt:=(Xe.mp e).1;exact B7 4 e rfl rfl (Qs.cast (Jz (ds:=(QO m y.T W).map PyData.list) (Qp (XL hlt))) (by rw[Xh,GL]))
   have nat:∀(x:Int) {b:Nat},(0:Int)<(b:Int)->∃a:Nat,x%(b:Int)=(a:Int)/\a<b:=fun x {b} hb=>by
    have h0:=JB x (show(b:Int)≠0 by omega);have h1:=GV x hb
    exact⟨(x%(b:Int)).toNat,by omega,by omega⟩
   obtain⟨a,ea,ha⟩:=nat q mp;obtain⟨t,et,ht⟩:=nat (q/8) Tp;have c8:(0:Int)<8:=by decide
   have c64:(0:Int)<64:=by decide
   refine QG (Zw (d:=.int (a:Int)) (Qs.cast (Zs (Qp rfl) (lnr rfl) (mdl mp)) (XW PyData.int ea)) ?_)
   walk_at"d"
   refine QG (Zw (d:=.int (t:Int)) (Qs.cast (Zs (Zs (Qp rfl) QX (JL c8 (by decide))) (eT rfl) (mdl Tp)) (XW PyData.int et)) ?_)
   walk_at"d"
   obtain⟨mo,emo,hmo⟩:∃mo:Int,([1,-1,-1,-1,0]:Ql).getD way.toNat 0=mo/\mo.natAbs<=1:=by
    refine⟨_,rfl,?_⟩
    have:way=0\/way=1\/way=2\/way=3\/way=4:=by omega
    rcases this with z|z|z|z|z<;>rw[z]<;>decide
   refine QG (Zw (d:=.int mo) (Qs.cast (Y7 (ds:=([1,-1,-1,-1,0]:Ql).map PyData.int) (EvO.fz (Y8 (Z1 QX (Z1 (Mh (g:=fun i => -i) (x:=1) QX) (Z1 (Mh (g:=fun i => -i) (x:=1) QX) (Z1 (Mh (g:=fun i => -i) (x:=1) QX) (Z1 QX Vf))))) (by decide))) (Qp rfl) (MN (by omega) (by show way<5;omega))) (XW PyData.int emo)) ?_)
   walk_at"d"
   have hb1:Bnd (c+1) m y.T (Ys f a t (f a t+mo)):=(hb.mono (by omega)).upd (by have:=hb a t ha ht;omega);refine QG (Mz rfl rfl rfl ha ht (VV (HR rfl (by decide) (by decide) rfl rfl ha ht) (Qp rfl)) ?_)
   walk_at"d"
   generalize Ys f a t (f a t+mo)=f1 at hb1;refine Wl (fun ρ'=>∃(t:Nat) (f2:Nat->Qn),t<y.T/\Bnd (c+2) m y.T f2/\(way=3->Bnd (c+1) m y.T f2)/\∃u,ρ'=[some (.fz (QS y)),some (.fz (.list ((QO m y.T f).map PyData.list))),some (.fz (.int q)),some (.fz (.int way)),some (.oll (QO m y.T f2)),some (.fz (.int (a:Int))),some (.fz (.int (t:Int))),u,none]) ?h2 ?r2
   case h2 =>
    refine ZV (ZO (Gx (Qp rfl) QX)) (fun c2=>?_) (fun c2=>ZI ⟨t,f1,ht,hb1.mono (by omega),fun _=>hb1,_,rfl⟩);have c2:way=2:=Xq c2;obtain⟨t',et',ht'⟩:=nat (q/64) Tp;refine QG (Zw (d:=.int (t':Int)) (Qs.cast (Zs (Zs (Qp rfl) QX (JL c64 (by decide))) (eT rfl) (mdl Tp)) (XW PyData.int et')) ?_)
    walk_at"d"
    refine Mz rfl rfl rfl ha ht' (VV (HR rfl (by decide) (by decide) rfl rfl ha ht') QX) ?_
    exact⟨t',_,ht',(hb1.mono (by omega)).upd (by have:=hb1 a t' ha ht';omega),fun z=>by omega,_,rfl⟩
   case r2 =>
    rintro _ ⟨t,f2,ht,hb2,hb3,u,rfl⟩
    refine Wl (fun ρ'=>∃(f3:Nat->Qn),Bnd (c+2) m y.T f3/\∃u v,ρ'=[some (.fz (QS y)),some (.fz (.list ((QO m y.T f).map PyData.list))),some (.fz (.int q)),some (.fz (.int way)),some (.oll (QO m y.T f3)),some (.fz (.int (a:Int))),some (.fz (.int (t:Int))),u,v]) ?h3 ?r3
    case h3 =>
     refine ZV (ZO (Gx (Qp rfl) QX)) (fun c3=>?_) (fun c3=>ZI ⟨f2,hb2,_,_,rfl⟩);have c3:way=3:=Xq c3;obtain⟨o,eo,ho⟩:=nat (q/64) mp;have hb4:=hb3 c3;refine QG (Zw (d:=.int (o:Int)) (Qs.cast (Zs (Zs (Qp rfl) QX (JL c64 (by decide))) (lnr rfl) (mdl mp)) (XW PyData.int eo)) ?_)
     walk_at"d"
     refine Mz rfl rfl rfl ho ht (VV (HR rfl (by decide) (by decide) rfl rfl ho ht) QX) ?_
     exact⟨_,(hb4.mono (by omega)).upd (by have:=hb4 o t ho ht;omega),_,_,rfl⟩
    case r3 =>
     rintro _ ⟨f3,hb5,u,v,rfl⟩
     refine Wl (fun ρ'=>∃(f4:Nat->Qn),Bnd (c+2) m y.T f4/\∃u v,ρ'=[some (.fz (QS y)),some (.fz (.list ((QO m y.T f).map PyData.list))),some (.fz (.int q)),some (.fz (.int way)),some (.oll (QO m y.T f4)),some (.fz (.int (a:Int))),some (.fz (.int (t:Int))),u,v]) ?h4 ?r4
     case h4 =>
      refine ZV (ZO (Gx (Qp rfl) QX)) (fun c4=>?_) (fun c4=>ZI ⟨f3,hb5,_,_,rfl⟩);refine Br 4 rfl rfl ?_
      walk_at"d"
      refine ZW (r:=.oll (QO m y.T fun _ _=>0)) (EvO.cast (JY (xs:=List.range m) (enc:=fun i=>.list ((List.range y.T).map fun t=>PyData.int (f3 i t))) (h:=fun _=>(List.range y.T).map fun _=>PyData.int 0) ?ei5 (by simp;omega) ?el5) rfl) ?_
      case ei5 =>
       refine EvI.cast (Vv (Qp rfl)) ?_;unfold QO;rw[Xw];rfl
      case el5 =>
       intro i hi c;refine⟨_,Zj,?_⟩
       walk_at"e"
       exact EvO.cast (Kk (ds:=[.int 0]) (k:=(y.T:Int)) (EvO.fz (Y8 (Z1 QX Vf) (by decide))) (ZB (ds:=[PyData.int (y.T:Int),.tuple (y.ls.map Ve)]) (Qp rfl) QX rfl) (by omega) (by simp;omega) (by omega)) (by rw[Xl,DZ])
      exact⟨_,fun i t _ _=>by simp,_,_,rfl⟩
     case r4 =>
      rintro _ ⟨f4,hb6,u,v,rfl⟩
      exact P0 rfl ⟨f4,hb6,.inr rfl⟩
def lfR (y:Yd)(gs:List Gs)(f:Nat->Qn)(t:Nat)(k:Int)(l:Nat):Int:=Zi y l t*k-ZM y gs f gs.length l t
def rmN (y:Yd)(gs:List Gs)(f:Nat->Qn)(t:Nat)(k:Int)(o:Option Int)(l:Nat):Option Int:=match o with
 |none=>some (lfR y gs f t k l)
 |some x=>some (if lfR y gs f t k l<x then lfR y gs f t k l else x)
def rmS (y:Yd)(gs:List Gs)(f:Nat->Qn)(t:Nat)(k:Int)(o:Option Int)(L:Qk):Option Int:=L.foldl (rmN y gs f t k) o
def odI:Option Int->PyData
 |none=>.none
 |some x=>.int x
theorem RS {y:Yd}{gs:List Gs}{f:Nat->Qn}{t:Nat}{k:Int}{B:Nat}:∀{L:Qk} {o:Option Int},(∀l∈L,(lfR y gs f t k l).natAbs<=B)->(∀x,o=some x->x.natAbs<=B)->∀x,rmS y gs f t k o L=some x->x.natAbs<=B
 |[],o,_,ho,x,e=>ho x e
 |l::r,o,hl,ho,x,e=>by
   refine RS (L:=r) (o:=rmN y gs f t k o l) (fun l' hl'=>hl l' (Xf _ hl')) (fun z ez=>?_) x e;have h1:=hl l Xc;unfold rmN at ez;cases o with
   |none =>
     injection ez with ez;rw[<- ez];exact h1
   |some w =>
     injection ez with ez;rw[<- ez];split
     ·exact h1
     ·exact ho w rfl
theorem Pi {y:Yd}{gs:List Gs}{f:Nat->Qn}{t:Nat}{k:Int}:∀{L:Qk} {w:Int},∃x,rmS y gs f t k (some w) L=some x
 |[],w=>⟨w,rfl⟩
 |l::r,w=>Pi (L:=r)
def LU {y:Yd}{gs:List Gs}{f:Nat->Qn}{t:Nat}{k:Int}{l:Nat}:∃x,rmS y gs f t k none (upL y l)=some x:=by
 have e:∃r,upL y l=l::r:=by rw[upD9];exact⟨_,rfl⟩
 obtain⟨r,e⟩:=e;rw[e];exact Pi (L:=r)
inductive R_room:List OT->OT->Prop
 |mk {y:Yd} {gs:List Gs} {f:Nat->Qn} {l t:Nat} {k:Int} (ok:y.Ok) (hg:∀g∈gs,g.line<y.ls.length) (g8:gs.length<=8) (hl:l<y.ls.length) (ht:t<y.T) (k0:0<=k) (k1:k<=12) :
  R_room [.fz (QS y),.fz (.list ((QO gs.length y.T f).map PyData.list)),.fz (.list (gs.map QB)),.fz (.int (l:Int)),.fz (.int (t:Int)),.fz (.int k)] (.fz (odI (rmS y gs f t k none (upL y l))))
def YV:Qq ["_law_yard_here","_law_rows","_law_guests_here","_law_line","_law_turn","_law_k","_law_found","_law_above","_law_bounds","_law_load","_law_guest","_law_row","_law_here","_law_left"] Zae (Q8 Nh):=by walk_at"p"
def CM (T:Bl mg) (D:Df K mg "_law_room" Nh Zae):Qy P w K mg base "_law_room" Zae 1 (QC (K:=K) R_room):=by
 refine D.ev YV (fun ts r h=>by cases h;rfl) (fun fa cdv A outer s H E ts r hr h=>?_)
 cases h with
 |@mk y gs f l t k ok hg g8 hl ht k0 k1 =>
   refine⟨_,(Qx (QQ (i:=6) YV.nd rfl Qa UH)
 (Qx (J4 PassesOwn.never (Wm (Ue (pv 3))) (Qx (YS (QJ QK (QJ QK (pv 0) Qw) (pv 3)) (Vs (n:=2) rfl (Zo (QP (i:=7) YV.nd rfl Qa) (Zo (QP (i:=8) YV.nd rfl Qa) Vp))))
 (Qx (QQ (i:=9) YV.nd rfl Qa Qw)
 (Qx (ZC PassesOwn.never rfl (UD rfl T.zip (Qo (pv 2) (Qo (pv 1) Qr))) (Vs (n:=2) rfl (Zo (QP (i:=10) YV.nd rfl Qa) (Zo (QP (i:=11) YV.nd rfl Qa) Vp))) (Qx (QQ (i:=12) YV.nd rfl Qa (QJ QK (pv 10) Qw))
 (Qx (J4 PassesOwn.never (PW.pt (M8 (Wm (Ue (pv 12))) (ML (ZX RD (pv 12) (pv 3) (ZN _))))) (QA (QQ (i:=12) YV.nd rfl Qa (QJ QK (QJ QK (QJ QK (pv 0) Qw) (pv 12)) Qw))))
 (QA (QQ (i:=9) YV.nd rfl Qa (QF Vr (pv 9) (QF Yx (QJ QK (pv 11) (pv 4)) (WX Sn (by rfl) T.int Sc (Qo (Fc (Ue (pv 12))) Qr)))))))))
 (Qx (QQ (i:=13) YV.nd rfl Qa (QF G3 (QF Yx (QJ QK (pv 8) (pv 4)) (pv 5)) (pv 9)))
 (Qx (ZF (PW.pt (RI (Wm (FX (pv 6))) (RX (ZX Be (pv 13) (pv 6) (ZN _))))) (QA (QQ (i:=6) YV.nd rfl Qa (pv 13))) ZG)
 (QA (QQ (i:=3) YV.nd rfl Qa (pv 7)))))))))
 (QA (QT (pv 6))))),?_⟩
   show Q9 K _ [some _,some _,some _,some _,some _,some _,none,none,none,none,none,none,none,none] _
   walk_at"x"
   have l5:=ok.l5;have t8:=ok.t8;have eLs:∀{ρ:QL},ρ[0]?=some (some (.fz (QS y)))->Qs K (tOp (rIx K) (Za 0) (tC (.int 1))) ρ (.tuple (y.ls.map Ve)):=fun e=>ZB (ds:=[PyData.int (y.T:Int),.tuple (y.ls.map Ve)]) (Qp e) QX rfl;have zl:(VH (gs.map QB) ((QO gs.length y.T f).map PyData.list)).length=gs.length:=by rw[B6,Xh,Xh,GL];omega
   refine QG (Zw (d:=.none) Mp ?_)
   walk_at"d"
   refine Wl (fun ρ'=>∃u3 u7 u8 u9 u10 u11 u12 u13,ρ'=[some (.fz (QS y)),some (.fz (.list ((QO gs.length y.T f).map PyData.list))),some (.fz (.list (gs.map QB))),u3,some (.fz (.int (t:Int))),some (.fz (.int k)),some (.fz (odI (rmS y gs f t k none (upL y l)))),u7,u8,u9,u10,u11,u12,u13]) ?wh ?rt
   case rt =>
    rintro _ ⟨u3,u7,u8,u9,u10,u11,u12,u13,rfl⟩
    exact ZD (Qp rfl) rfl
   case wh =>
    refine J6 (fun m ρ'=>∃o:Option Int,m<=y.ls.length/\(if m=0 then o else rmS y gs f t k o (upL y (m-1)))=rmS y gs f t k none (upL y l)/\∃u7 u8 u9 u10 u11 u12 u13,ρ'=[some (.fz (QS y)),some (.fz (.list ((QO gs.length y.T f).map PyData.list))),some (.fz (.list (gs.map QB))),some (.fz (if m=0 then .none else .int ((m-1:Nat):Int))),some (.fz (.int (t:Int))),some (.fz (.int k)),some (.fz (odI o)),u7,u8,u9,u10,u11,u12,u13]) (l+1) ⟨none,by omega,by rw[Xa (by omega),XS],none,none,none,none,none,none,none,by rw[Xa (by omega),XS];rfl⟩ ?ws
    rintro m ρ' ⟨o,hm,he,u7,u8,u9,u10,u11,u12,u13,rfl⟩
    by_cases m0:m=0
    ·subst m0
     rw[Xb rfl]at he;refine⟨false,Yr (Yy (a:=.none) (Qp rfl)),fun c=>(nomatch c),fun _=>?_⟩;rw[he];exact⟨_,_,_,_,_,_,_,_,rfl⟩
    ·obtain⟨j,rfl⟩:∃j,m=j+1:=⟨m-1,by omega⟩
     rw[Xa (by omega),XS]at he;rw[Xa (by omega),XS];have hj:j<y.ls.length:=by omega
     refine⟨true,Yr (Yy (a:=.int (j:Int)) (Qp rfl)),fun _=>?_,fun c=>(nomatch c)⟩;have hup:(y.ls.getD ((j:Nat):Int).toNat default).up=QZ y j:=by rw[Xl];exact(BB hj).symm
     have hbl:(y.ls.getD ((j:Nat):Int).toNat default).bs.length=y.T:=by rw[Xl];exact GF ok hj
     have hbd:(y.ls.getD ((j:Nat):Int).toNat default).bs.getD ((t:Nat):Int).toNat 0=Zi y j t:=by
      rw[Xl,Xl];exact(US hj).symm
     refine QG (Mt (ZB (eLs rfl) (Qp rfl) (UM (f:=Ve) (by omega) (by omega))) (Yv (ds:=[upD (y.ls.getD ((j:Nat):Int).toNat default).up,.tuple ((y.ls.getD ((j:Nat):Int).toNat default).bs.map PyData.int)]) (Z8 Zj (Z8 Zj Y6)) rfl) ?_)
     walk_at"d"
     refine QG (Zw (d:=.int 0) QX ?_)
     walk_at"d"
     refine QG (YU (ds:=VH (gs.map QB) ((QO gs.length y.T f).map PyData.list)) (fun i=>[some (.fz (QS y)),some (.fz (.list ((QO gs.length y.T f).map PyData.list))),some (.fz (.list (gs.map QB))),some (.fz (.int (j:Int))),some (.fz (.int (t:Int))),some (.fz (.int k)),some (.fz (odI o)),some (.fz (upD (y.ls.getD ((j:Nat):Int).toNat default).up)),some (.fz (.tuple ((y.ls.getD ((j:Nat):Int).toNat default).bs.map PyData.int))),some (.fz (.int (ZM y gs f i j t))),none,none,none,none]) ?ei ⟨rfl,rfl,rfl,rfl,rfl,rfl,rfl,rfl,rfl,rfl,trivial⟩ ?st ?fin)
     case ei=>exact Jr (Qt (Qp rfl) (Qt (Qp rfl) QD))
     case st =>
      intro i d hd;obtain⟨a,bb,e1,e2,rfl⟩:=Dg hd
      have hi:i<gs.length:=by
       have:=(Xe.mp e1).1
       simpa using this
      have eg:gAt gs i=gs[i]:=by simp[gAt,List.getD,hi]
      obtain rfl:a=QB (gAt gs i):=by rw[eg];simpa [hi] using e1.symm
      obtain rfl:bb=.list ((List.range y.T).map fun t=>PyData.int (f i t)):=by
       rw[Xj,Um _ hi]at e2;simpa using e2.symm
      have gln:(gAt gs i).line<y.ls.length:=by rw[eg];exact hg _ (Xy hi)
      have nx:ZM y gs f (i+1) j t=ZM y gs f i j t+f i t*ind (j∈upL y (gAt gs i).line):=rfl;refine⟨_,by walk_at"g",?_⟩
      walk_at"d"
      generalize gAt gs i=g at gln nx;refine QG (Zw (d:=.int (g.line:Int)) (ZB (ds:=[.int (g.line:Int),.int (g.first:Int),.int (g.last:Int),.int g.want,.int g.most]) (Qp rfl) QX rfl) ?_)
      walk_at"d"
      refine Wl (fun ρ'=>∃hd:PyData,(Wn hd=false↔j∈upL y g.line)/\ρ'=[some (.fz (QS y)),some (.fz (.list ((QO gs.length y.T f).map PyData.list))),some (.fz (.list (gs.map QB))),some (.fz (.int (j:Int))),some (.fz (.int (t:Int))),some (.fz (.int k)),some (.fz (odI o)),some (.fz (upD (y.ls.getD ((j:Nat):Int).toNat default).up)),some (.fz (.tuple ((y.ls.getD ((j:Nat):Int).toNat default).bs.map PyData.int))),some (.fz (.int (ZM y gs f i j t))),some (.fz (QB g)),some (.fz (.list ((List.range y.T).map fun t=>PyData.int (f i t)))),some (.fz hd),none]) ?wh2 ?rt2
      case rt2 =>
       rintro _ ⟨hd,hh,rfl⟩
       have ar:atI ((List.range y.T).map fun t=>PyData.int (f i t)) (t:Int)=some (.int (f i t)):=by rw[Gz (by omega) (by omega),Xl]
       refine Zw (d:=.int (ZM y gs f (i+1) j t)) (Qs.cast (VV (Qp rfl) (Zs (Y7 (Qp rfl) (Qp rfl) ar) (HU (Yy (Qp rfl))) (Js (by split<;>decide) (by split<;>decide)))) ?_) ?_
       ·rw[nx]
        congr 2
        unfold ind;by_cases c:j∈upL y g.line
        ·rw[hh.mpr c]
         simp[c]
        ·have:Wn hd=true:=by
          cases z:Wn hd with
          |true=>rfl
          |false=>exact Xi (hh.mp z) c
         rw[this];simp[c]
       ·exact⟨rfl,rfl,rfl,rfl,rfl,rfl,rfl,rfl,rfl,rfl,trivial⟩
      case wh2 =>
       refine J6 (fun m ρ'=>m<=y.ls.length/\((m≠0/\j∈upL y (m-1))↔j∈upL y g.line)/\ρ'=[some (.fz (QS y)),some (.fz (.list ((QO gs.length y.T f).map PyData.list))),some (.fz (.list (gs.map QB))),some (.fz (.int (j:Int))),some (.fz (.int (t:Int))),some (.fz (.int k)),some (.fz (odI o)),some (.fz (upD (y.ls.getD ((j:Nat):Int).toNat default).up)),some (.fz (.tuple ((y.ls.getD ((j:Nat):Int).toNat default).bs.map PyData.int))),some (.fz (.int (ZM y gs f i j t))),some (.fz (QB g)),some (.fz (.list ((List.range y.T).map fun t=>PyData.int (f i t)))),some (.fz (if m=0 then .none else .int ((m-1:Nat):Int))),none]) (g.line+1) ⟨by omega,⟨fun z=>by rw[XS]at z;exact z.2,fun z=>⟨by omega,by rw[XS];exact z⟩⟩,by rw[Xa (by omega),XS]⟩ ?ws2
       rintro m ρ' ⟨hm,hin,rfl⟩
       by_cases m0:m=0
       ·subst m0
        refine⟨false,Bh (b:=false) (c:=false) (ZO (Yy (a:=.none) (Qp rfl))) (fun c=>(nomatch c)),fun c=>(nomatch c),fun _=>⟨.none,⟨fun z=>(nomatch z),fun z=>Xi rfl (hin.mpr z).1⟩,rfl⟩⟩
       ·obtain⟨q,rfl⟩:∃q,m=q+1:=⟨m-1,by omega⟩
        rw[XS]at hin;rw[Xa (by omega),XS];have hq:q<y.ls.length:=by omega
        refine⟨decide ((q:Int)≠(j:Int)),Zz.cast (Bh (b:=true) (ZO (Yy (a:=.int (q:Int)) (Qp rfl))) (fun _=>ZO (RJ (Qp rfl) (Qp rfl)))) (by simp),fun c=>?_,fun c=>?_⟩
        ·have c:(q:Int)≠(j:Int):=Xq c
         have hupq:(y.ls.getD ((q:Nat):Int).toNat default).up=QZ y q:=by rw[Xl];exact(BB hq).symm
         refine Zw (d:=upD (QZ y q)) (Qs.cast (ZB (ds:=[upD (y.ls.getD ((q:Nat):Int).toNat default).up,.tuple ((y.ls.getD ((q:Nat):Int).toNat default).bs.map PyData.int)]) (ZB (eLs rfl) (Qp rfl) (UM (f:=Ve) (by omega) (by omega))) QX rfl) (by rw[hupq])) ?_
         walk_at"d"
         by_cases q0:q=0
         ·subst q0
          refine⟨0,by omega,by omega,⟨fun z=>Xi rfl z.1,fun z=>?_⟩,by rw[ok.up0,Xb rfl];rfl⟩
          have:=(hin.mpr z).2
          rw[B2 ok]at this;exact Xi (Xk.mp this) (by omega)
         ·obtain⟨a,ea,la⟩:=ok.ups q (by omega) hq
          refine⟨a+1,by omega,by omega,?_,by rw[ea,Xa (by omega),XS];rfl⟩;rw[XS,<- hin,Bt ok (by omega) hq ea j (by omega)];exact⟨fun z=>⟨by omega,z.2⟩,fun z=>⟨by omega,z.2⟩⟩
        ·have c:(q:Int)=(j:Int):=by simpa using c
         have e:q=j:=by omega
         refine⟨.int (q:Int),⟨fun _=>hin.mp ⟨by omega,by rw[e];exact B3 y j⟩,fun _=>rfl⟩,rfl⟩
     case fin =>
      intro ρ' hf;refine VW hf ?_;rw[zl];refine QG (Zw (d:=.int (lfR y gs f t k j)) (VV (Zs (Qs.cast (ZB (ds:=(y.ls.getD ((j:Nat):Int).toNat default).bs.map PyData.int) (Qp rfl) (Qp rfl) (MN (by omega) (by omega))) (XW PyData.int hbd)) (Qp rfl) (Js (by omega) (by omega))) (Qp rfl)) ?_)
      walk_at"d"
      refine Wl (fun ρ'=>∃u10 u11 u12 u13,ρ'=[some (.fz (QS y)),some (.fz (.list ((QO gs.length y.T f).map PyData.list))),some (.fz (.list (gs.map QB))),some (.fz (.int (j:Int))),some (.fz (.int (t:Int))),some (.fz (.int k)),some (.fz (odI (rmN y gs f t k o j))),some (.fz (upD (y.ls.getD ((j:Nat):Int).toNat default).up)),some (.fz (.tuple ((y.ls.getD ((j:Nat):Int).toNat default).bs.map PyData.int))),some (.fz (.int (ZM y gs f gs.length j t))),u10,u11,u12,u13]) ?hi ?ri
      case hi =>
       cases o with
       |none =>
         refine ZV (b:=true) (Zz.cast (Mi (b:=true) (c:=true) (ZO (HM (a:=.none) (Qp rfl))) (fun c=>(nomatch c))) rfl) (fun _=>Zw (Qp rfl) ?_) (fun c=>nomatch c)
         exact⟨_,_,_,_,rfl⟩
       |some x =>
         refine ZV (b:=decide (lfR y gs f t k j<x)) (Zz.cast (Mi (b:=false) (ZO (HM (a:=.int x) (Qp rfl))) (fun _=>ZO (Jt (Qp rfl) (Qp rfl)))) (by simp)) (fun c=>Zw (Qp rfl) ?_) (fun c=>ZI ?_)
         ·have c:=Xq c
          refine⟨none,none,none,some (.fz (.int (lfR y gs f t k j))),?_⟩;unfold rmN;simp only[Xb c];try rfl
         ·have c:=XO c
          refine⟨none,none,none,some (.fz (.int (lfR y gs f t k j))),?_⟩;unfold rmN;simp only[Xa c];try rfl
      case ri =>
       rintro _ ⟨u10,u11,u12,u13,rfl⟩
       refine Zw (d:=upD (QZ y j)) (Qs.cast (Qp rfl) (by rw[hup])) ?_
       walk_at"d"
       by_cases j0:j=0
       ·subst j0
        rw[B2 ok]at he;exact⟨0,by omega,rmN y gs f t k o 0,by omega,by rw[Xb rfl,<- he];rfl,_,_,_,_,_,_,_,by rw[ok.up0,Xb rfl];rfl⟩
       ·obtain⟨a,ea,la⟩:=ok.ups j (by omega) hj
        rw[P3 ok hj ea]at he;exact⟨a+1,by omega,rmN y gs f t k o j,by omega,by rw[Xa (by omega),XS,<- he];rfl,_,_,_,_,_,_,_,by rw[ea,Xa (by omega),XS];rfl⟩
def HP {a b:Nat}(h:a<=b):10^a<=10^b:=UZ (by decide) h
theorem SZ {y:Yd}{gs:List Gs}{f:Nat->Qn}{B t l:Nat}(h:∀i,i<gs.length->(f i t).natAbs<=B):∀n,n<=gs.length->(ZM y gs f n l t).natAbs<=n*B
 |0,_=>by simp[ZM,ZU,Qv]
 |n+1,hn=>by
   have ih:=SZ (y:=y) (l:=l) h n (by omega);have h1:=h n (by omega);have e:ZM y gs f (n+1) l t=ZM y gs f n l t+f n t*ind (l∈upL y (gAt gs n).line):=rfl
   rw[e,Nat.succ_mul];have h2:(f n t*ind (l∈upL y (gAt gs n).line)).natAbs<=B:=by
    unfold ind;by_cases c:l∈upL y (gAt gs n).line
    ·simp[c];exact h1
    ·simp[c]
   omega
inductive R_drawn:List OT->(OT->Prop)->Prop
 |mk {y:Yd} {gs:List Gs} {n k:Int} {b:Bool} (sm:Sml y gs) (k1:1<=k) (k2:k<=12):R_drawn [.fz (QS y),.fz (.list (gs.map QB)),.fz (.int n),.fz (.int k),.fz (.bool b)] (fun r=>∃f,Bnd (10^110) gs.length y.T f/\r=.oll (QO gs.length y.T f))
def YX:Qq Zad Zag (Q8 D1):=by walk_at"p"
def EX (T:Bl mg) (D:Df K mg "_law_drawn" D1 Zag) (Xco:Qy P w K mg base "_law_room" Zae 1 (QC (K:=K) R_room)):Qy P w K mg base "_law_drawn" Zag 2 (Zy K R_drawn):=by
 refine D.evD YX (fun ts Φ h=>by cases h;rfl) (fun fa cdv A outer s H E ts Φ hr h=>?_)
 cases h with
 |@mk y gs n k b sm k1 k2 =>
   refine⟨_,(Qx (Y1 (i:=5) YX.nd rfl rfl (NX:=Zad) (sc:=Q8 D1) (N:=["_law_guest","_law_yard_here"]) (f:=[none,some 0]) rfl (by decide +kernel) rfl rfl (Vq (pv 1)) (fun _=>(QP (i:=0) (show(["_law_guest","_law_yard_here"]:Qh).Nodup by decide +kernel) rfl Qa)) (fun _=>Z5) (fun _=>ZT) (fun _=>(QF HZ (V2 (Qo Qw Qr)) (QJ QK (pv 1) Qw))) rfl)
 (Qx (ZC PassesOwn.never rfl (VD rfl T.range (Qo (Z2 Ym (by rfl) T.len Yk (Qo (pv 1) Qr)) Qr)) (QP (i:=6) YX.nd rfl Qa) (Qx (YS (QJ QK (pv 1) (pv 6)) (Vs (n:=5) rfl (Zo (QP (i:=7) YX.nd rfl Qa) (Zo (QP (i:=8) YX.nd rfl Qa) (Zo (QP (i:=9) YX.nd rfl Qa) (Zo (QP (i:=10) YX.nd rfl Qa) (Zo (QP (i:=11) YX.nd rfl Qa) Vp)))))))
 (QA (ZC PassesOwn.never rfl (KO rfl T.range (Qo (pv 8) (Qo (QF Vr (pv 9) Qw) Qr))) (QP (i:=12) YX.nd rfl Qa) (Qx (QQ (i:=13) YX.nd rfl Qa (QF Vb (pv 2) Qw))
 (Qx (QQ (i:=2) YX.nd rfl Qa (QF Vl (pv 2) Qw))
 (Qx (QQ (i:=14) YX.nd rfl Qa (Z2 (Bj rfl) (by rfl) T.min G5 (Qo (QF Yx (pv 11) (pv 3)) (Qo (QF G3 (QF Yx (pv 10) (pv 3)) (Z2 UG (by rfl) T.sum UI (Qo (QJ QK (pv 5) (pv 6)) Qr))) Qr))))
 (Qx (ZF (UB (pv 4)) (QA (QQ (i:=14) YX.nd rfl Qa (Z2 (Bj rfl) (by rfl) T.min G5 (Qo (pv 14) (Qo (QH Xco hr (Qo (pv 0) (Qo (pv 5) (Qo (pv 1) (Qo (pv 7) (Qo (pv 12) (Qo (pv 3) Qr GB) GB) GB) GB) GB) GB)) Qr))))) ZG)
 (QA (YS (QF Vl (QF Yx (pv 14) (Z2 (Bj rfl) (by rfl) T.min G5 (Qo (pv 13) (Qo Qw Qr)))) Qw) (G6 (QJ QK (pv 5) (pv 6)) (pv 12) Jc)))))))))))
 (QA (QT (pv 5))))),?_⟩
   show Q9 K _ [some _,some _,some _,some _,some _,none,none,none,none,none,none,none,none,none,none] _
   walk_at"x"
   have ok:=sm.ok;have g8:=sm.g8;have t8:=ok.t8;have l5:=ok.l5;have gl:(gs.map QB).length=gs.length:=by simp
   refine QG (ZW (r:=.oll (QO gs.length y.T fun _ _=>0)) (EvO.cast (JY (xs:=gs) (enc:=QB) (h:=fun _=>(List.range y.T).map fun _=>PyData.int 0) (Vv (Qp rfl)) (by omega) ?el0) (by unfold QO;rw[Tk])) ?_)
   case el0 =>
    intro x hx c;refine⟨_,by walk_at"g",?_⟩
    walk_at"e"
    exact EvO.cast (Kk (ds:=[.int 0]) (k:=(y.T:Int)) (EvO.fz (Y8 (Z1 QX Vf) (by decide))) (ZB (ds:=[PyData.int (y.T:Int),.tuple (y.ls.map Ve)]) (Qp rfl) QX rfl) (by omega) (by simp;omega) (by omega)) (by rw[Xl,DZ])
   walk_at"d"
   refine Wl (fun ρ'=>∃f,Bnd (10^110) gs.length y.T f/\∃u2 u6 u7 u8 u9 u10 u11 u12 u13 u14,ρ'=[some (.fz (QS y)),some (.fz (.list (gs.map QB))),u2,some (.fz (.int k)),some (.fz (.bool b)),some (.oll (QO gs.length y.T f)),u6,u7,u8,u9,u10,u11,u12,u13,u14]) ?lp ?rt
   case rt =>
    rintro _ ⟨f,hb,u2,u6,u7,u8,u9,u10,u11,u12,u13,u14,rfl⟩
    exact P0 rfl ⟨f,hb,rfl⟩
   case lp =>
    refine YO (ds:=ZQ 0 gs.length) (fun i ρ'=>∃f n,Bnd (10^(34+8*i)) gs.length y.T f/\∃u6 u7 u8 u9 u10 u11 u12 u13 u14,ρ'=[some (.fz (QS y)),some (.fz (.list (gs.map QB))),some (.fz (.int n)),some (.fz (.int k)),some (.fz (.bool b)),some (.oll (QO gs.length y.T f)),u6,u7,u8,u9,u10,u11,u12,u13,u14]) ?ei ⟨_,n,fun i t _ _=>by simp,_,_,_,_,_,_,_,_,_,rfl⟩ ?st ?fin
    case ei=>exact EvI.cast (Ws (Qt (Jz (Qp rfl)) QD) (by rw[z62,gl];omega) (by rw[z62,gl];omega)) (WA rfl (by rw[gl];omega))
    case fin =>
     rintro ρ' ⟨f,n,hb,u6,u7,u8,u9,u10,u11,u12,u13,u14,rfl⟩
     rw[Y0]at hb;exact⟨f,hb.mono (HP (by omega)),_,_,_,_,_,_,_,_,_,_,rfl⟩
    case st =>
     rintro i d ρ' hd ⟨f,n,hb,u6,u7,u8,u9,u10,u11,u12,u13,u14,rfl⟩
     obtain⟨hi,rfl⟩:=YB hd;refine⟨_,Zj,?_⟩
     walk_at"d"
     rw[Y2];have gm:gs.getD i default∈gs:=by rw[Yp hi];exact Xy hi
     have gk:=sm.hg _ gm;have g30:=sm.w30 _ gm;have it:atI (gs.map QB) (i:Int)=some (QB (gs.getD i default)):=by rw[UM (f:=QB) (by omega) (by omega),Xl]
     generalize gs.getD i default=g at gk g30 it;have a1:=gk.fl;have a2:=gk.lt;have w1:=gk.w1;have m1:=gk.m1;refine QG (Mt (Y7 (Qp rfl) (Qp rfl) it) (Yv (ds:=[.int (g.line:Int),.int (g.first:Int),.int (g.last:Int),.int g.want,.int g.most]) (Z8 Zj (Z8 Zj (Z8 Zj (Z8 Zj (Z8 Zj Y6))))) rfl) ?_)
     walk_at"d"
     refine YO (ds:=ZQ (g.first:Int) ((g.last:Int)+1-(g.first:Int)).toNat) (fun s ρ'=>∃f n,Bnd (10^(34+8*i+s)) gs.length y.T f/\∃u12 u13 u14,ρ'=[some (.fz (QS y)),some (.fz (.list (gs.map QB))),some (.fz (.int n)),some (.fz (.int k)),some (.fz (.bool b)),some (.oll (QO gs.length y.T f)),some (.fz (.int (i:Int))),some (.fz (.int (g.line:Int))),some (.fz (.int (g.first:Int))),some (.fz (.int (g.last:Int))),some (.fz (.int g.want)),some (.fz (.int g.most)),u12,u13,u14]) ?ei2 ⟨f,n,hb,_,_,_,rfl⟩ ?st2 ?fin2
     case ei2=>exact K1 (Qt (Qp rfl) (Qt (VV (Qp rfl) QX) QD)) ⟨by rw[z62];omega,by rw[z62];omega,by rw[z62];omega,by rw[z62];omega⟩
     case fin2 =>
      rintro ρ' ⟨f,n,hb,u12,u13,u14,rfl⟩
      rw[Y0]at hb;exact⟨f,n,hb.mono (HP (by omega)),_,_,_,_,_,_,_,_,_,rfl⟩
     case st2 =>
      rintro s d ρ' hd2 ⟨f,n,hb,u12,u13,u14,rfl⟩
      obtain⟨hs,rfl⟩:=YB hd2;obtain⟨t,et,ht⟩:∃t:Nat,(g.first:Int)+(s:Int)=(t:Int)/\t<y.T:=⟨g.first+s,by omega,by omega⟩;refine⟨_,Zj,?_⟩
      walk_at"d"
      rw[et];have c11:(0:Int)<11:=by decide
      have c8:(0:Int)<8:=by decide
      refine QG (Zw (d:=.int (n%11)) (Zs (Qp rfl) QX (mdl c11)) ?_)
      walk_at"d"
      refine QG (Zw (d:=.int (n/11)) (Zs (Qp rfl) QX (JL c11 (by decide))) ?_)
      walk_at"d"
      have n0:=JB n (show(11:Int)≠0 by decide);generalize n%11=wi at n0;generalize n/11=nb;have p33:10^34<=10^(34+8*i+s):=HP (by omega);have pS:10^(34+8*i+(s+1))=10*10^(34+8*i+s):=by rw[<- Nat.add_assoc,Nat.pow_succ,JI]
      generalize 10^(34+8*i+s)=B at hb p33 pS;have e34:(10:Nat)^34=10000000000000000000000000000000000:=by decide
      rw[e34]at p33;have sb:(Qv (f i) y.T).natAbs<=8*B:=XI (KG (f:=f i) (n:=y.T) fun t ht=>hb i t hi ht) (GW _ t8)
      have mk1:0<=g.most*k/\g.most*k<=12000000000000000000000000000000:=by
       have h1:g.most*k<=10^30*12:=YF (by omega) k2 (by omega) (by decide)
       exact⟨X0 (by omega) (by omega),GP h1 (by decide)⟩
      have wk1:0<=g.want*k/\g.want*k<=12000000000000000000000000000000:=by
       have h1:g.want*k<=10^30*12:=YF (by omega) k2 (by omega) (by decide)
       exact⟨X0 (by omega) (by omega),GP h1 (by decide)⟩
      have ar:atI ((QO gs.length y.T f).map PyData.list) (i:Int)=some (.list ((List.range y.T).map fun t=>PyData.int (f i t))):=Y9 (by rw[Xj,Um _ hi];rfl);have sr:=VY (f i) y.T;have ck : -18446744073709551616<k/\k<18446744073709551616:=by omega
      obtain⟨am,eam,ham⟩:∃am:Int,min (g.most*k) (g.want*k-Qv (f i) y.T)=am/\am.natAbs<=9*B:=⟨_,rfl,by omega⟩;refine QG (Zw (d:=.int am) (Qs.cast (MA (Zs (Qp rfl) (Qp rfl) (Js ck.1 ck.2)) (VV (Zs (Qp rfl) (Qp rfl) (Js ck.1 ck.2)) (B7 5 rfl rfl rfl (Qs.cast (JZ (ns:=(List.range y.T).map (f i)) (Qs.cast (d':=.list (((List.range y.T).map (f i)).map PyData.int)) (Y7 (Qp rfl) (Qp rfl) ar) (by rw[Xw];rfl)) rfl) (XW PyData.int sr))))) (XW PyData.int eam)) ?_)
      walk_at"d"
      refine Wl (fun ρ'=>∃am:Int,am.natAbs<=9*B/\ρ'=[some (.fz (QS y)),some (.fz (.list (gs.map QB))),some (.fz (.int nb)),some (.fz (.int k)),some (.fz (.bool b)),some (.oll (QO gs.length y.T f)),some (.fz (.int (i:Int))),some (.fz (.int (g.line:Int))),some (.fz (.int (g.first:Int))),some (.fz (.int (g.last:Int))),some (.fz (.int g.want)),some (.fz (.int g.most)),some (.fz (.int (t:Int))),some (.fz (.int wi)),some (.fz (.int am))]) ?hc ?rc
      case hc =>
       refine ZV (b:=b) (Yr (Qp rfl)) (fun _=>?_) (fun _=>ZI ⟨am,ham,rfl⟩);obtain⟨x,ex⟩:=LU (y:=y) (gs:=gs) (f:=f) (t:=t) (k:=k) (l:=g.line)
       have xb:x.natAbs<=9*B:=by
        refine RS (o:=none) (fun l hl=>?_) (fun _ z=>nomatch z) x ex;have hll:l<y.ls.length:=by have:=G2 y g.line l hl;have:=gk.ln;omega
        have h1:=SZ (y:=y) (gs:=gs) (f:=f) (t:=t) (l:=l) (B:=B) (fun j hj=>hb j t hj ht) gs.length (Xx _);have h2:gs.length*B<=8*B:=GW _ g8;have lm:Z9 y l∈y.ls:=by simp[Z9,hll]
        have hbb:0<=Zi y l t/\Zi y l t<10^30:=by
         rw[US hll];have ll:=GF ok hll;have e:(Z9 y l).bs.getD t 0=(Z9 y l).bs[t]'(by omega):=by simp[List.getD,show t<(Z9 y l).bs.length by omega]
         rw[e];exact⟨(ok.bb _ lm _ (Xy _)).1,sm.b30 _ lm _ (Xy _)⟩
        have h3:Zi y l t*k<=10^30*12:=YF (by omega) k2 (by omega) (by decide);have h4:0<=Zi y l t*k:=X0 hbb.1 (by omega);have h5:(10:Int)^30*12=12000000000000000000000000000000:=by decide
        unfold lfR;omega
       obtain⟨am2,eam2,ham2⟩:∃am2:Int,min am x=am2/\am2.natAbs<=9*B:=⟨_,rfl,by omega⟩;refine Zw (d:=.int am2) (Qs.cast (MA (Qp rfl) (B7 5 rfl rfl rfl (Qs.cast (Zk (Qt (Qp rfl) (Qt (Qp rfl) (Qt (Qp rfl) (Qt (Qp rfl) (Qt (Qp rfl) (Qt (Qp rfl) QD)))))) (R_room.mk (f:=f) ok (fun g h=>(sm.hg g h).ln) g8 gk.ln ht (by omega) k2)) (show odI _=PyData.int x by rw[ex];rfl)))) (XW PyData.int eam2)) ?_
       exact⟨am2,ham2,rfl⟩
      case rc =>
       rintro _ ⟨am,ham,rfl⟩
       have mw:0<=min wi 8/\min wi 8<=8:=by omega
       have vb:(am*min wi 8/8).natAbs<=10*B:=by
        have h1:(am*min wi 8).natAbs<=9*B*8:=by
         rw[Int.natAbs_mul];exact Nat.mul_le_mul ham (by omega)
        omega
       refine Mz rfl rfl rfl hi ht (Zs (Zs (Qp rfl) (MA (Qp rfl) QX) (Js (by omega) (by omega))) QX (JL c8 (by decide))) ?_
       walk_at"d"
       exact⟨_,nb,by rw[pS];exact(hb.mono (by omega)).upd vb,_,_,_,rfl⟩
def KZ {ρ:QL}{ta:TE}{t:TA}{d:PyData}{Φ' Φ:List OT->Prop}(h1:Qs K ta ρ d)(h2:Jo K t ρ Φ')(hi:∀ts,Φ' ts->Φ (.fz d::ts)):Jo K (Zl ta t) ρ Φ:=fun H0 F σ H Q S q =>
 h1 H0 F σ H _ S fun F1 H1 v x1 r1=>h2 H0 F1 σ H1 _ (S.ext x1) fun F2 H2 vs ts ht x2 r2=>q F2 H2 _ _ (hi ts ht) (x1.trans x2) (.fz (r1.mono x2.ff) r2)
def CY {ρ:QL}{ta:TE}{Φ:OT->Prop}{Φ':List OT->Prop}(h:ZJ K ta ρ Φ)(hi:∀r,Φ r->∃d,WG r=some d/\Φ' [.fz d]):Jo K (Zl ta Zv) ρ Φ':=fun H0 F σ H Q S q =>
 h H0 F σ H _ S fun F1 H1 v p r hr x hp ok=>by
  obtain⟨d,ed,hp'⟩:=hi r hr;refine q (frF F1 H1 p) H1 [v] _ hp' ⟨x.hh,x.ff.trans (Wp fun a ha=>(ok.there a ha).1),Ud x.fh,fun a ha=>?_⟩ (.fz (ok.frz ed) .nil)
  by_cases z:a∈p
  ·exact .inr (hp a z)
  ·rw[Yq z]at ha;exact x.fr a ha
def WM:Qq Zan ZaF (Q8 W3):=by walk_at"p"
def LX {f:Addr} {fd:FuncData} (T:Bl mg) (F:Fun K "law" "law" W3 f fd) (Xcp:Qy P w K mg base "_law_yard" ZaF 3 (QC (K:=K) R_yard)) (Xcq:Qy P w K mg base "_law_guests" Zaz 3 (QC (K:=K) R_guests)) (Xbx:Qy P w K mg base "_law_number" Zak 2 (QC (K:=K) R_number)) (Xcr:Qy P w K mg base "fairest" Zaa 11 (Zy K R_fairest))
 (XbO:Qy P w K mg base "_law_told" Zab 12 (QC (K:=K) R_told)) (Xcs:Qy P w K mg base "_law_changed" Zap 1 (Zy K R_changed)) (Xct:Qy P w K mg base "_law_drawn" Zag 2 (Zy K R_drawn)) :
 FnOk P w K mg base CX0 13 f fd ZaF (M0 K):=by
 refine F.evLaw WM (fun cdv A outer s H E ns hr hl hb=>?_);have hs:ScrOk ns:=⟨hl,hb⟩;have hu:=hr.units;refine⟨_,(Qx (QQ (i:=1) WM.nd rfl Qa (QH Xcp hr (Qo (pv 0) Qr)))
 (Qx (QQ (i:=2) WM.nd rfl Qa (QH Xcq hr (Qo (pv 0) (Qo (pv 1) Qr))))
 (Qx (YS (QH Xcr hr (Qo (pv 1) (Qo (WX MI (by rfl) T.list MQ (Qo (pv 2) Qr)) Qr))) (Vs (n:=2) rfl (Zo (QP (i:=3) WM.nd rfl Qa) (Zo (QP (i:=4) WM.nd rfl Qa) Vp))))
 (Qx (QQ (i:=5) WM.nd rfl Qa (QH Xbx hr (Qo (pv 0) (Qo Qw Qr))))
 (Qx (QQ (i:=6) WM.nd rfl (Or.inr rfl) (QF Vr Qw (QF Vb (pv 5) Qw)))
 (Qx (Y1 (i:=4) WM.nd rfl rfl (NX:=Zan) (sc:=Q8 W3) (N:=Zbf) (f:=[none,some 6]) rfl (by decide +kernel) rfl rfl (Vq (pv 4)) (fun _=>(QP (i:=0) (show(Zbf:Qh).Nodup by decide +kernel) rfl Qa)) (fun _=>Z5) (fun _=>ZT) (fun _=>(Yf (NX:=Zbf) (sc:=({ kind:=.function,names:=[(".0",.local),("_law_row",.local),("_law_times",.cell)],isGenerator:=false,isCoroutine:=false }:Scope)) (N:=["_law_one","_law_times"]) (f:=[none,some 1]) rfl (by decide +kernel) rfl rfl (Vq (pv 0)) (fun _=>(QP (i:=0) (show(["_law_one","_law_times"]:Qh).Nodup by decide +kernel) rfl Qa)) (fun _=>Z5) (fun _=>ZT) (fun _=>(QF Yx (pv 0) (pv 1))))) rfl)
 (Qx (ZF (M5 (UB (QH XbO hr (Qo (pv 1) (Qo (pv 2) (Qo (QF Yx (pv 3) (pv 6)) (Qo (pv 4) Qr))))))) (QA (QT U9)) ZG)
 (Qx (ZF (M5 (UB (QH XbO hr (Qo (pv 1) (Qo (pv 2) (Qo (QF Yx (pv 3) (pv 6)) (Qo (QH Xcs hr (Qo (pv 1) (Qo (pv 4) (Qo (QF Vl (pv 5) Qw) Qr)))) Qr))))))) (QA (QT U9)) ZG)
 (Qx (QQ (i:=7) WM.nd rfl Qa (QF Vr Qw (QF Vb (QF Vl (pv 5) (QF Km Qw Qw)) Qw)))
 (Qx (QQ (i:=8) WM.nd rfl Qa (QH Xct hr (Qo (pv 1) (Qo (pv 2) (Qo (QH Xbx hr (Qo (pv 0) (Qo Qw Qr))) (Qo (pv 7) (Qo (G9 Jp (QF Vb (pv 5) Qw) Qw (ZN _)) Qr)))))))
 (QA (QT (QH XbO hr (Qo (pv 1) (Qo (pv 2) (Qo (pv 7) (Qo (pv 8) Qr))))))))))))))))),?_⟩
 show Q9 K _ [some _,none,none,none,none,none,none,none,none] _
 walk_at"x"
 have ok:=IW ns;have y30:=E3 ns;generalize hy:Wk ns=y at ok y30;have hg:=Zk2 ok ns;have g8:=Zj3 ns y;have g30:=ZkC ok ns;generalize hgs:Uh ns y=gs at hg g8 g30;have t8:=ok.t8;have sm:Sml y gs:=⟨ok,hg,g8,fun l hl b hb=>y30 l hl b hb,g30⟩
 walk_at"s1";rw[hy]
 walk_at"s1";rw[hgs]
 refine Yi 2 rfl ?_
 walk_at"d"
 refine QG (Cn (Yj (Qt (Qp rfl) (Qt (EvO.fz (B0 (Qp rfl))) QD)) (R_fairest.mk sm)) (fun r hr'=>?_));obtain⟨v,k,fl,rfl,ff⟩:=hr';refine⟨v,.int k,_,rfl,_,Yv (ds:=[.int k,.list ((QO gs.length y.T fl).map PyData.list)]) (Z8 Zj (Z8 Zj Y6)) rfl,?_⟩
 walk_at"d"
 refine QG (Zw (Zk (HG rfl (Qt QX QD)) (R_number.mk hs (by decide) (by decide))) ?_)
 walk_at"d"
 generalize V1 ns 14=nb;have c9:(0:Int)<9:=by decide
 obtain⟨τ,eτ,τ1,τ2⟩:∃τ:Int,1+nb%9=τ/\1<=τ/\τ<=9:=⟨_,rfl,by omega,by omega⟩;refine QG (Zw (d:=.int τ) (Qs.cast (VV QX (Zs (Qp rfl) QX (mdl c9))) (XW PyData.int eτ)) ?_)
 walk_at"d"
 have cτ : -18446744073709551616<τ/\τ<18446744073709551616:=by omega
 have k1:=ff.k1;have k2:=ff.k2;refine QG (ZW (r:=.oll (QO gs.length y.T fun i t=>fl i t*τ)) (EvO.cast (JY (xs:=List.range gs.length) (enc:=fun i=>.list ((List.range y.T).map fun t=>PyData.int (fl i t))) (h:=fun i=>(List.range y.T).map fun t=>PyData.int (fl i t*τ)) ?ei (by simp;omega) ?el) rfl) ?_)
 case ei =>
  refine EvI.cast (Vv (Qp rfl)) ?_;unfold QO;rw[Xw];rfl
 case el =>
  intro i hi c;refine⟨_,Zj,?_⟩
  walk_at"e"
  refine VA (xs:=List.range y.T) (enc:=fun t=>PyData.int (fl i t)) (h:=fun t=>PyData.int (fl i t*τ)) (Vv (Qp rfl)) (by simp;omega) (fun t ht c=>⟨_,Zj,?_⟩)
  walk_at"e"
  exact Zs (Qp rfl) (Qp rfl) (Js cτ.1 cτ.2)
 walk_at"d"
 refine Br 4 rfl rfl ?_
 walk_at"d"
 have kt1:1*1<=k*τ:=YF (by omega) τ1 (by omega) (by omega)
 have kt2:k*τ<10^262:=by
  have h1:k*τ<=10^260*9:=YF (by omega) τ2 (by omega) (by decide +kernel);exact XY h1 (by decide +kernel)
 have e291:((10^291:Nat):Int)=10^30*10^260*10:=by decide +kernel
 have fb:Bnd (10^291) gs.length y.T fun i t=>fl i t*τ:=fun i t hi ht=>by
  obtain⟨h1,h2⟩:=ff.item i t hi ht;have gm:gs.getD i default∈gs:=by rw[Yp hi];exact Xy hi
  have m1:=(hg _ gm).m1;have m2:=(g30 _ gm).2;have h3:(gs.getD i default).most*k<=10^30*10^260:=YF (by omega) (by omega) (by omega) (by decide +kernel);have h4:fl i t<=10^30*10^260:=GP h2 h3;have h6:fl i t*τ<=10^30*10^260*10:=YF h4 (by omega) (by omega) (by decide +kernel);have h7:0<=fl i t*τ:=X0 h1 (by omega);rw[<- e291]at h6;show(fl i t*τ).natAbs<=10^291;omega
 have bd:∀{c:Nat} {f':Nat->Qn},Bnd c gs.length y.T f'->c<=10^296->Bdd gs.length y.T f':=fun h hc i t hi ht=>XI (h i t hi ht) hc;refine QG (ZV (b:=false) (Ms (b:=true) (Yr (Zk (Qt (Qp rfl) (Qt (Qp rfl) (Qt (Zs (Qp rfl) (Qp rfl) (Js cτ.1 cτ.2)) (Qt (Qp rfl) QD)))) (R_told.mk sm (by omega) kt2 (bd fb (by decide +kernel)))))) (fun c=>nomatch c) (fun _=>ZI ?_));refine QG (ZV (b:=false) (Ms (b:=true) (Yr (EvO.e (ZJ.o (Pb (ΦA:=fun ts=>∃f',Bdd gs.length y.T f'/\ts=[.fz (QS y),.fz (.list (gs.map QB)),.fz (.int (k*τ)),.fz (.list ((QO gs.length y.T f').map PyData.list))]) (KZ (Qp rfl) (KZ (Qp rfl) (KZ (Zs (Qp rfl) (Qp rfl) (Js cτ.1 cτ.2)) (CY (Φ':=fun ts=>∃f',Bdd gs.length y.T f'/\ts=[.fz (.list ((QO gs.length y.T f').map PyData.list))]) (Yj (Qt (Qp rfl) (Qt (Qp rfl) (Qt (Zs (Qp rfl) QX (JL c9 (by decide))) QD))) (R_changed.mk ok g8 fb)) ?hc) (Φ:=fun ts=>∃f',Bdd gs.length y.T f'/\ts=[.fz (.int (k*τ)),.fz (.list ((QO gs.length y.T f').map PyData.list))]) (fun ts ⟨f',h,e⟩=>⟨f',h,by rw[e]⟩)) (Φ:=fun ts=>∃f',Bdd gs.length y.T f'/\ts=[.fz (.list (gs.map QB)),.fz (.int (k*τ)),.fz (.list ((QO gs.length y.T f').map PyData.list))]) (fun ts ⟨f',h,e⟩=>⟨f',h,by rw[e]⟩)) (fun ts ⟨f',h,e⟩=>⟨f',h,by rw[e]⟩)) (fun ts ⟨f',h,e⟩=>⟨_,by rw[e];exact R_told.mk sm (by omega) kt2 h,rfl⟩)))))) (fun c=>nomatch c) (fun _=>ZI ?_))
 case hc =>
  rintro r ⟨f',h,e|e⟩
  ·exact⟨_,by rw[e];rfl,f',bd h (by decide +kernel),rfl⟩
  ·exact⟨_,by rw[e];rfl,f',bd h (by decide +kernel),rfl⟩
 have c12:(0:Int)<12:=by decide
 have cp6:Hf 10 6:=⟨by decide,by decide,by decide⟩;have c4:(0:Int)<4:=by decide
 obtain⟨pt,ept,p1,p2⟩:∃pt:Int,1+nb/10^(6:Int).toNat%12=pt/\1<=pt/\pt<=12:=⟨_,rfl,by omega,by omega⟩;refine QG (Zw (d:=.int pt) (Qs.cast (VV QX (Zs (Zs (Qp rfl) (Zs QX QX cp6) ⟨by decide +kernel,by decide +kernel⟩) QX (mdl c12))) (XW PyData.int ept)) ?_)
 walk_at"d"
 refine QG (Wr (Yj (Qt (Qp rfl) (Qt (Qp rfl) (Qt (Zk (HG rfl (Qt QX QD)) (R_number.mk hs (by decide) (by decide))) (Qt (Qp rfl) (Qt (Jt (Zs (Qp rfl) QX (mdl c4)) QX) QD))))) (R_drawn.mk sm p1 p2)) (fun r hr'=>?_));obtain⟨f',hb',rfl⟩:=hr'
 walk_at"d"
 refine Br 8 rfl rfl ?_
 walk_at"d"
 exact ZD (Zk (Qt (Qp rfl) (Qt (Qp rfl) (Qt (Qp rfl) (Qt (Qp rfl) QD)))) (R_told.mk sm p1 (XY p2 (by decide +kernel)) (bd hb' (by decide +kernel)))) rfl
end
inductive DH (K:W.Frag)(x:Str)(st:Stmt):Prop
 |mk {f:Addr} {oc kV dc pm cd ct:Value} {od an:Qj} {sl:Array (Qf)} (a:W.nsIn K mainGlobals x=some (some (.ref f))) (l:K.lookup f=some ⟨oc,od,.func (W.fnOf x x (Yo st) (Vc st) (Q8 st) .none kV dc pm an cd ct),sl⟩) (c:W.codeIn K cd x=true) (k:W.keepIn K (.ref f)=true):DH K x st
def DH.df {K:W.Frag}{h:Heap}{mg:Str->Qf}{x:Str}{st:Stmt}{ps:Qh}(X:K.In h)(G:h.Ns mainGlobals mg)(H:DH K x st)(hb:∀(z:Value×Value×Value×Qj×Value×Value) (us:Qe),us.length=ps.length->bindArgs (W.fnOf x x (Yo st) (Vc st) (Q8 st) .none z.1 z.2.1 z.2.2.1 z.2.2.2.1 z.2.2.2.2.1 z.2.2.2.2.2) ⟨us,[]⟩=pure (ps.zip us)):Df K mg x st ps:=by
 cases H with
 |mk a l c k=>exact⟨_,_,W8 l c k,W.mg_of X G a,(W8 l c k).binds fun kV dc pm an cd ct us hl=>hb (kV,dc,pm,an,cd,ct) us hl⟩
@[elab_as_elim] theorem ln1 {α:Type}{p:List α->Prop}{us:List α}(h:us.length=1)(k:∀a0,p [a0]):p us:=by
 match us,h with
 |[a0],_=>exact k a0
@[elab_as_elim] theorem ln2 {α:Type}{p:List α->Prop}{us:List α}(h:us.length=2)(k:∀a0 a1,p [a0,a1]):p us:=by
 match us,h with
 |[a0,a1],_=>exact k a0 a1
@[elab_as_elim] theorem ln3 {α:Type}{p:List α->Prop}{us:List α}(h:us.length=3)(k:∀a0 a1 a2,p [a0,a1,a2]):p us:=by
 match us,h with
 |[a0,a1,a2],_=>exact k a0 a1 a2
@[elab_as_elim] theorem ln4 {α:Type}{p:List α->Prop}{us:List α}(h:us.length=4)(k:∀a0 a1 a2 a3,p [a0,a1,a2,a3]):p us:=by
 match us,h with
 |[a0,a1,a2,a3],_=>exact k a0 a1 a2 a3
@[elab_as_elim] theorem ln5 {α:Type}{p:List α->Prop}{us:List α}(h:us.length=5)(k:∀a0 a1 a2 a3 a4,p [a0,a1,a2,a3,a4]):p us:=by
 match us,h with
 |[a0,a1,a2,a3,a4],_=>exact k a0 a1 a2 a3 a4
@[elab_as_elim] theorem ln6 {α:Type}{p:List α->Prop}{us:List α}(h:us.length=6)(k:∀a0 a1 a2 a3 a4 a5,p [a0,a1,a2,a3,a4,a5]):p us:=by
 match us,h with
 |[a0,a1,a2,a3,a4,a5],_=>exact k a0 a1 a2 a3 a4 a5
def Zui {P:Program} {w:World} {K:W.Frag} {h:Heap} {mg:Str->Qf} {fa C gS gE:Addr} (X:K.In h) (G:h.Ns mainGlobals mg) (hfa:mg "law"=some (.ref fa))
 {f58 f59 f60 f61 f62 f63 f64 f65 f66:Addr} {od58 an58 od59 an59 od60 an60 od61 an61 od62 an62 od63 an63 od64 an64 od65 an65 od66 an66 dS dE:Qj} {sl58 sl59 sl60 sl61 sl62 sl63 sl64 sl65 sl66 slS slE:Array (Qf)} {oc58 kV58 dc58 pm58 cd58 ct58 oc59 kV59 dc59 pm59 cd59 ct59 oc60 kV60 dc60 pm60 cd60 ct60 oc61 kV61 dc61 pm61 cd61 ct61 oc62 kV62 dc62 pm62 cd62 ct62 oc63 kV63 dc63 pm63 cd63 ct63 oc64 kV64 dc64 pm64 cd64 ct64 oc65 kV65 dc65 pm65 cd65 ct65 oc66 kV66 dc66 pm66 cd66 ct66:Value} {tS tE nS nE:Nat}
 (aC:W.nsIn K mainGlobals "Net"=some (some (.ref C)))
 (h0:DH K "turns_of" N0)
 (h1:DH K "line_count" NF)
 (h2:DH K "above_of" N3)
 (h3:DH K "bound_at" No)
 (h4:DH K "line_of" Nc)
 (h5:DH K "is_there" Nu)
 (h6:DH K "want_of" Nb)
 (h7:DH K "most_of" KY)
 (h8:DH K "with_want" NB)
 (h9:DH K "lines_beneath" NH)
 (h10:DH K "line_times" Dz)
 (h11:DH K "yard_times" D3)
 (h12:DH K "guest_times" NM)
 (h13:DH K "guests_times" DG)
 (h14:DH K "totals_of" D9)
 (h15:DH K "loads_of_line" BP)
 (h16:DH K "loads_of" Dv)
 (h17:DH K "fault_at_turn" NG)
 (h18:DH K "fault_of_guest" NQ)
 (h19:DH K "fault_of_lines" NR)
 (h20:DH K "fault_of" Nv)
 (h21:DH K "guest_node" N4)
 (h22:DH K "line_node" Nk)
 (h23:DH K "lay_guest" Ni)
 (h24:DH K "lay_turn" KW)
 (h25:DH K "filled_net" N5)
 (h26:DH K "takes_by" Dx)
 (h27:DH K "greatest_filling" DK)
 (h28:DH K "guests_reached" DD)
 (h29:DH K "reaching_at" D6)
 (h30:DH K "given_at" Nx)
 (h31:DH K "given_most" D2)
 (h32:DH K "best_filling" NN)
 (h33:DH K "lacking_set" N8)
 (h34:DH K "greatest_divisor" NT)
 (h35:DH K "fraction" Nw)
 (h36:DH K "common_bottom" NI)
 (h37:DH K "tops_over" DA)
 (h38:DH K "is_fairer" Nj)
 (h39:DH K "asking" B5)
 (h40:DH K "share_left" Dy)
 (h41:DH K "most_short" BM)
 (h42:DH K "next_level" D4)
 (h43:DH K "fair_levels" N7)
 (h44:DH K "fair_shares" DF)
 (h45:DH K "fairest" Dn)
 (h46:DH K "is_fairest" DC)
 (h47:DH K "_law_cell_at" NO)
 (h48:DH K "_law_number" N6)
 (h49:DH K "_law_amount" N9)
 (h50:DH K "_law_yard" ND)
 (h51:DH K "_law_guests" NJ)
 (h52:DH K "_law_is_filling" DI)
 (h53:DH K "_law_shares" D5)
 (h54:DH K "_law_changed" BI)
 (h55:DH K "_law_room" Nh)
 (h56:DH K "_law_drawn" D1)
 (h57:DH K "_law_told" DB)
 (a58:W.nsIn K mainGlobals "law"=some (some (.ref f58)))
 (l58:K.lookup f58=some ⟨oc58,od58,.func (W.fnOf "law" "law" (Yo W3) (Vc W3) (Q8 W3) .none kV58 dc58 pm58 an58 cd58 ct58),sl58⟩)
 (c58:W.codeIn K cd58 "law"=true)
 (k58:W.keepIn K (.ref f58)=true)
 (a59:W.findIn K (.ref C) "lay"=some (some (.ref f59)))
 (i59:W.isFn K (.ref f59)=true)
 (l59:K.lookup f59=some ⟨oc59,od59,.func (W.fnOf "lay" "Net.lay" (Yo UO) (Vc UO) (Q8 UO) .none kV59 dc59 pm59 an59 cd59 ct59),sl59⟩)
 (c59:W.codeIn K cd59 "Net.lay"=true)
 (k59:W.keepIn K (.ref f59)=true)
 (a60:W.findIn K (.ref C) "lay_one"=some (some (.ref f60)))
 (i60:W.isFn K (.ref f60)=true)
 (l60:K.lookup f60=some ⟨oc60,od60,.func (W.fnOf "lay_one" "Net.lay_one" (Yo UW) (Vc UW) (Q8 UW) .none kV60 dc60 pm60 an60 cd60 ct60),sl60⟩)
 (c60:W.codeIn K cd60 "Net.lay_one"=true)
 (k60:W.keepIn K (.ref f60)=true)
 (a61:W.findIn K (.ref C) "flow"=some (some (.ref f61)))
 (i61:W.isFn K (.ref f61)=true)
 (l61:K.lookup f61=some ⟨oc61,od61,.func (W.fnOf "flow" "Net.flow" (Yo UR) (Vc UR) (Q8 UR) .none kV61 dc61 pm61 an61 cd61 ct61),sl61⟩)
 (c61:W.codeIn K cd61 "Net.flow"=true)
 (k61:W.keepIn K (.ref f61)=true)
 (a62:W.findIn K (.ref C) "reached"=some (some (.ref f62)))
 (i62:W.isFn K (.ref f62)=true)
 (l62:K.lookup f62=some ⟨oc62,od62,.func (W.fnOf "reached" "Net.reached" (Yo UV) (Vc UV) (Q8 UV) .none kV62 dc62 pm62 an62 cd62 ct62),sl62⟩)
 (c62:W.codeIn K cd62 "Net.reached"=true)
 (k62:W.keepIn K (.ref f62)=true)
 (a63:W.findIn K (.ref C) "push"=some (some (.ref f63)))
 (i63:W.isFn K (.ref f63)=true)
 (l63:K.lookup f63=some ⟨oc63,od63,.func (W.fnOf "push" "Net.push" (Yo Ui) (Vc Ui) (Q8 Ui) .none kV63 dc63 pm63 an63 cd63 ct63),sl63⟩)
 (c63:W.codeIn K cd63 "Net.push"=true)
 (k63:W.keepIn K (.ref f63)=true)
 (a64:W.findIn K (.ref C) "fill"=some (some (.ref f64)))
 (i64:W.isFn K (.ref f64)=true)
 (l64:K.lookup f64=some ⟨oc64,od64,.func (W.fnOf "fill" "Net.fill" (Yo UQ) (Vc UQ) (Q8 UQ) .none kV64 dc64 pm64 an64 cd64 ct64),sl64⟩)
 (c64:W.codeIn K cd64 "Net.fill"=true)
 (k64:W.keepIn K (.ref f64)=true)
 (a65:W.findIn K (.ref C) "way_to"=some (some (.ref f65)))
 (i65:W.isFn K (.ref f65)=true)
 (l65:K.lookup f65=some ⟨oc65,od65,.func (W.fnOf "way_to" "Net.way_to" (Yo UU) (Vc UU) (Q8 UU) .none kV65 dc65 pm65 an65 cd65 ct65),sl65⟩)
 (c65:W.codeIn K cd65 "Net.way_to"=true)
 (k65:W.keepIn K (.ref f65)=true)
 (a66:W.findIn K (.ref C) "__init__"=some (some (.ref f66)))
 (i66:W.isFn K (.ref f66)=true)
 (l66:K.lookup f66=some ⟨oc66,od66,.func (W.fnOf "__init__" "Net.__init__" (Yo GO) (Vc GO) (Q8 GO) .none kV66 dc66 pm66 an66 cd66 ct66),sl66⟩)
 (c66:W.codeIn K cd66 "Net.__init__"=true)
 (k66:W.keepIn K (.ref f66)=true)
 (pg:W.plainGet K C Str.empty=true)
 (hd:W.hasDictIn K C=true)
 (po:W.plainOver K C=true)
 (sa:W.findIn K (.ref C) "__setattr__"=some (some (.builtin "object.__setattr__")))
 (mk:W.makesIn K C=true)
 (kc:W.keepIn K (.ref C)=true)
 (n0:W.findIn K (.ref C) "ends"=some none)
 (n1:W.findIn K (.ref C) "rooms"=some none)
 (n2:W.findIn K (.ref C) "leaving"=some none)
 (n3:W.findIn K (.ref C) "laid"=some none)
 (aS:W.nsIn K mainGlobals "START"=some (some (.ref gS)))
 (lS:K.lookup gS=some ⟨.type "tuple",dS,.seq #[.str "start" tS] nS,slS⟩)
 (aE:W.nsIn K mainGlobals "END"=some (some (.ref gE)))
 (lE:K.lookup gE=some ⟨.type "tuple",dE,.seq #[.str "end" tE] nE,slE⟩)
 (z0:W.nsIn K mainGlobals "abs"=some none)
 (z1:W.nsIn K mainGlobals "len"=some none)
 (z2:W.nsIn K mainGlobals "max"=some none)
 (z3:W.nsIn K mainGlobals "min"=some none)
 (z4:W.nsIn K mainGlobals "sum"=some none)
 (z5:W.nsIn K mainGlobals "any"=some none)
 (z6:W.nsIn K mainGlobals "all"=some none)
 (z7:W.nsIn K mainGlobals "isinstance"=some none)
 (z8:W.nsIn K mainGlobals "int"=some none)
 (z9:W.nsIn K mainGlobals "bool"=some none)
 (z10:W.nsIn K mainGlobals "list"=some none)
 (z11:W.nsIn K mainGlobals "tuple"=some none)
 (z12:W.nsIn K mainGlobals "range"=some none)
 (z13:W.nsIn K mainGlobals "zip"=some none)
 (z14:W.nsIn K mainGlobals "enumerate"=some none)
 (z15:W.nsIn K mainGlobals "sorted"=some none)
 : (∃gS gE,W.nsIn K mainGlobals "START"=some (some (.ref gS))/\W.nsIn K mainGlobals "END"=some (some (.ref gE))/\KTup K gS "start" /\ KTup K gE "end")/\∃fd:FuncData,(∀(s:Shared) (v:Value),BindsTo s fd ⟨[v],[]⟩ [("_law_script",v)])/\∀base:Heap,K.In base->base.Ns mainGlobals mg->FnOk P w K mg base CX0 13 fa fd ZaF (M0 K):=by
 have e:=hfa.symm.trans (W.mg_of X G a58)
 cases e
 have T:Bl mg:=⟨W.mg_none_of X G z0,W.mg_none_of X G z1,W.mg_none_of X G z2,W.mg_none_of X G z3,W.mg_none_of X G z4,W.mg_none_of X G z5,W.mg_none_of X G z6,W.mg_none_of X G z7,W.mg_none_of X G z8,W.mg_none_of X G z9,W.mg_none_of X G z10,W.mg_none_of X G z11,W.mg_none_of X G z12,W.mg_none_of X G z13,W.mg_none_of X G z14,W.mg_none_of X G z15⟩;have U:Tx K mg C gS gE:=⟨⟨⟨pg,hd,po,sa⟩,n0,n1,n2,n3⟩,W.mg_of X G aS,W.mg_of X G aE,aS,aE⟩;have XcD:=h0.df (ps:=ZaQ) X G fun _ us hl=>ln1 hl fun _=>rfl;have XcE:=h1.df (ps:=ZaQ) X G fun _ us hl=>ln1 hl fun _=>rfl;have XcF:=h2.df (ps:=Zau) X G fun _ us hl=>ln2 hl fun _ _=>rfl;have XcG:=h3.df (ps:=Zas) X G fun _ us hl=>ln3 hl fun _ _ _=>rfl;have XcH:=h4.df (ps:=Zat) X G fun _ us hl=>ln1 hl fun _=>rfl;have XcI:=h5.df (ps:=ZaN) X G fun _ us hl=>ln2 hl fun _ _=>rfl;have XcJ:=h6.df (ps:=Zat) X G fun _ us hl=>ln1 hl fun _=>rfl;have XcK:=h7.df (ps:=Zat) X G fun _ us hl=>ln1 hl fun _=>rfl;have XcL:=h8.df (ps:=ZaI) X G fun _ us hl=>ln2 hl fun _ _=>rfl;have XcM:=h9.df (ps:=Zau) X G fun _ us hl=>ln2 hl fun _ _=>rfl;have XcN:=h10.df (ps:=Zba) X G fun _ us hl=>ln2 hl fun _ _=>rfl;have XcO:=h11.df (ps:=Zbb) X G fun _ us hl=>ln2 hl fun _ _=>rfl;have XcP:=h12.df (ps:=Zbc) X G fun _ us hl=>ln2 hl fun _ _=>rfl;have XcQ:=h13.df (ps:=ZaW) X G fun _ us hl=>ln2 hl fun _ _=>rfl;have XcR:=h14.df (ps:=Zbi) X G fun _ us hl=>ln1 hl fun _=>rfl;have XcS:=h15.df (ps:=Zav) X G fun _ us hl=>ln4 hl fun _ _ _ _=>rfl;have XcT:=h16.df (ps:=Zac) X G fun _ us hl=>ln3 hl fun _ _ _=>rfl;have XcU:=h17.df (ps:=Zar) X G fun _ us hl=>ln4 hl fun _ _ _ _=>rfl;have XcV:=h18.df (ps:=ZaJ) X G fun _ us hl=>ln3 hl fun _ _ _=>rfl;have XcW:=h19.df (ps:=Zac) X G fun _ us hl=>ln3 hl fun _ _ _=>rfl;have XcX:=h20.df (ps:=Zac) X G fun _ us hl=>ln3 hl fun _ _ _=>rfl;have XcY:=h21.df (ps:=Zbh) X G fun _ us hl=>ln1 hl fun _=>rfl;have XcZ:=h22.df (ps:=ZaP) X G fun _ us hl=>ln2 hl fun _ _=>rfl;have Xc0:=h23.df (ps:=Zaj) X G fun _ us hl=>ln4 hl fun _ _ _ _=>rfl;have Xc1:=h24.df (ps:=ZaU) X G fun _ us hl=>ln3 hl fun _ _ _=>rfl;have Xc2:=h25.df (ps:=Zaa) X G fun _ us hl=>ln2 hl fun _ _=>rfl;have Xc3:=h26.df (ps:=Zaj) X G fun _ us hl=>ln4 hl fun _ _ _ _=>rfl;have Xc4:=h27.df (ps:=Zaa) X G fun _ us hl=>ln2 hl fun _ _=>rfl;have Xc5:=h28.df (ps:=Zaa) X G fun _ us hl=>ln2 hl fun _ _=>rfl;have Xc6:=h29.df (ps:=Zal) X G fun _ us hl=>ln4 hl fun _ _ _ _=>rfl;have Xc7:=h30.df (ps:=Zal) X G fun _ us hl=>ln4 hl fun _ _ _ _=>rfl;have Xc8:=h31.df (ps:=Zay) X G fun _ us hl=>ln3 hl fun _ _ _=>rfl;have Xc9:=h32.df (ps:=Zaa) X G fun _ us hl=>ln2 hl fun _ _=>rfl;have Xda:=h33.df (ps:=Zaa) X G fun _ us hl=>ln2 hl fun _ _=>rfl;have Xdb:=h34.df (ps:=ZaD) X G fun _ us hl=>ln2 hl fun _ _=>rfl;have Xdc:=h35.df (ps:=ZaT) X G fun _ us hl=>ln2 hl fun _ _=>rfl;have Xdd:=h36.df (ps:=["parts"]) X G fun _ us hl=>ln1 hl fun _=>rfl;have Xde:=h37.df (ps:=ZaM) X G fun _ us hl=>ln2 hl fun _ _=>rfl;have Xdf:=h38.df (ps:=ZaD) X G fun _ us hl=>ln2 hl fun _ _=>rfl;have Xdg:=h39.df (ps:=ZaG) X G fun _ us hl=>ln3 hl fun _ _ _=>rfl;have Xdh:=h40.df (ps:=ZaA) X G fun _ us hl=>ln4 hl fun _ _ _ _=>rfl;have Xdi:=h41.df (ps:=Zax) X G fun _ us hl=>ln4 hl fun _ _ _ _=>rfl;have Xdj:=h42.df (ps:=ZaL) X G fun _ us hl=>ln3 hl fun _ _ _=>rfl;have Xdk:=h43.df (ps:=Zaa) X G fun _ us hl=>ln2 hl fun _ _=>rfl;have Xdl:=h44.df (ps:=Zaa) X G fun _ us hl=>ln2 hl fun _ _=>rfl;have Xdm:=h45.df (ps:=Zaa) X G fun _ us hl=>ln2 hl fun _ _=>rfl;have Xdn:=h46.df (ps:=ZaB) X G fun _ us hl=>ln4 hl fun _ _ _ _=>rfl;have Xdo:=h47.df (ps:=Zak) X G fun _ us hl=>ln2 hl fun _ _=>rfl;have Xdp:=h48.df (ps:=Zak) X G fun _ us hl=>ln2 hl fun _ _=>rfl;have Xdq:=h49.df (ps:=ZaO) X G fun _ us hl=>ln1 hl fun _=>rfl;have Xdr:=h50.df (ps:=ZaF) X G fun _ us hl=>ln1 hl fun _=>rfl;have Xds:=h51.df (ps:=Zaz) X G fun _ us hl=>ln2 hl fun _ _=>rfl;have Xdt:=h52.df (ps:=Zab) X G fun _ us hl=>ln4 hl fun _ _ _ _=>rfl;have Xdu:=h53.df (ps:=ZaH) X G fun _ us hl=>ln2 hl fun _ _=>rfl;have Xdv:=h54.df (ps:=Zap) X G fun _ us hl=>ln3 hl fun _ _ _=>rfl;have Xdw:=h55.df (ps:=Zae) X G fun _ us hl=>ln6 hl fun _ _ _ _ _ _=>rfl;have Xdx:=h56.df (ps:=Zag) X G fun _ us hl=>ln5 hl fun _ _ _ _ _=>rfl;have Xdy:=h57.df (ps:=Zab) X G fun _ us hl=>ln4 hl fun _ _ _ _=>rfl;have Xcu:=W8 (st:=W3) l58 c58 k58;have D_law:Df K mg "law" W3 ZaF:=⟨_,_,Xcu,W.mg_of X G a58,Xcu.binds (ps:=ZaF) fun _ _ _ _ _ _ us hl=>ln1 hl fun _=>rfl⟩;have Xcv:=W8 (st:=UO) l59 c59 k59;have Xdz:Mf K C "lay" "Net.lay" UO Zaf:=⟨_,_,Xcv,⟨a59,i59,k59⟩,Xcv.binds (ps:=Zaf) fun _ _ _ _ _ _ us hl=>ln4 hl fun _ _ _ _=>rfl⟩;have Xcw:=W8 (st:=UW) l60 c60 k60;have XdA:Mf K C "lay_one" "Net.lay_one" UW Zaf:=⟨_,_,Xcw,⟨a60,i60,k60⟩,Xcw.binds (ps:=Zaf) fun _ _ _ _ _ _ us hl=>ln4 hl fun _ _ _ _=>rfl⟩;have Xcx:=W8 (st:=UR) l61 c61 k61;have XdB:Mf K C "flow" "Net.flow" UR Zao:=⟨_,_,Xcx,⟨a61,i61,k61⟩,Xcx.binds (ps:=Zao) fun _ _ _ _ _ _ us hl=>ln3 hl fun _ _ _=>rfl⟩;have Xcy:=W8 (st:=UV) l62 c62 k62;have XdC:Mf K C "reached" "Net.reached" UV ZaS:=⟨_,_,Xcy,⟨a62,i62,k62⟩,Xcy.binds (ps:=ZaS) fun _ _ _ _ _ _ us hl=>ln2 hl fun _ _=>rfl⟩;have Xcz:=W8 (st:=Ui) l63 c63 k63;have XdD:Mf K C "push" "Net.push" Ui Zbe:=⟨_,_,Xcz,⟨a63,i63,k63⟩,Xcz.binds (ps:=Zbe) fun _ _ _ _ _ _ us hl=>ln2 hl fun _ _=>rfl⟩;have XcA:=W8 (st:=UQ) l64 c64 k64;have XdE:Mf K C "fill" "Net.fill" UQ Zao:=⟨_,_,XcA,⟨a64,i64,k64⟩,XcA.binds (ps:=Zao) fun _ _ _ _ _ _ us hl=>ln3 hl fun _ _ _=>rfl⟩;have XcB:=W8 (st:=UU) l65 c65 k65;have XdF:Mf K C "way_to" "Net.way_to" UU ZaK:=⟨_,_,XcB,⟨a65,i65,k65⟩,XcB.binds (ps:=ZaK) fun _ _ _ _ _ _ us hl=>ln3 hl fun _ _ _=>rfl⟩;have XcC:=W8 (st:=GO) l66 c66 k66;have B_Net:=XcC.binds (ps:=["self"]) fun _ _ _ _ _ _ us hl=>ln1 hl fun _=>rfl;refine⟨⟨gS,gE,aS,aE,⟨_,_,_,_,lS⟩,⟨_,_,_,_,lE⟩⟩,W.fnOf "law" "law" (Yo W3) (Vc W3) (Q8 W3) .none kV58 dc58 pm58 an58 cd58 ct58,fun s v=>.of_eq rfl,fun base _ _=>?_⟩;have Xbw:=Ca (P:=P) (w:=w) (base:=base) T Xdo;have Xbx:=Ob T Xdp Xbw;have XbF:=IJ (P:=P) (w:=w) (base:=base) T Xdq;have Xcp:=CA T Xdr Xbw Xbx XbF;have Xcq:=Og T Xds Xbw Xbx XbF;have Xbq:=Cy (P:=P) (w:=w) (base:=base) T XcJ;have Xb0:Hm P w K mg base "Net" C 1:=⟨_,_,⟨mk,a66,i66,kc⟩,W.mg_of X G aC,B_Net,Fb (P:=P) (w:=w) (base:=base) T U XcC⟩;have XbP:=F7 (P:=P) (w:=w) (base:=base) T U XdA;have XbE:=LL T U Xdz XbP;have Xby:=E6 (P:=P) (w:=w) (base:=base) T XcY;have Xbr:=A7 (P:=P) (w:=w) (base:=base) T XcD;have Xbz:=CZ (P:=P) (w:=w) (base:=base) T XcI;have XbA:=Cc (P:=P) (w:=w) (base:=base) T XcK;have Xbv:=AS (P:=P) (w:=w) (base:=base) T XcZ;have Xbu:=Ex (P:=P) (w:=w) (base:=base) T XcH;have Xb1:=IR T U Xc0 XbE Xbq Xby Xbr Xbz XbA Xbv Xbu;have Xbt:=Av (P:=P) (w:=w) (base:=base) T XcG;have Xbs:=A8 (P:=P) (w:=w) (base:=base) T XcE;have XbB:=E7 (P:=P) (w:=w) (base:=base) T XcF;have Xb2:=EC T U Xc1 XbE Xbt Xbv Xbs XbB;have XbG:=OA (P:=P) (w:=w) (base:=base) T U XdC;have XbY:=FF (P:=P) (w:=w) (base:=base) T U XdD;have XbZ:=Fk (P:=P) (w:=w) (base:=base) T U XdF;have Xb3:=FD T U XdE XbG XbY XbZ;have XbH:=Im T U Xc2 Xb0 Xb1 Xbr Xb2 Xb3;have Xb7:=ZkD T U Xc5 XbH XbG Xby;have Xb9:=Ch T Xda Xb7;have XbW:=IP (P:=P) (w:=w) (base:=base) T XcN;have XbD:=O8 T XcO XbW;have XbX:=OH (P:=P) (w:=w) (base:=base) T XcP;have XbK:=Zku T XcQ XbX;have Xb8:=Eb (P:=P) (w:=w) (base:=base) T XcL;have XbL:=EZ T Xdg XbK Xb8;have XbS:=IG T Xdi Xbq Xb9 XbD XbL;have XbI:=F9 (P:=P) (w:=w) (base:=base) T Xdb;have XbJ:=Cw T Xdd XbI;have XbQ:=Ao (P:=P) (w:=w) (base:=base) T Xde;have Xca:=ID T Xdf XbJ XbQ;have XbU:=Zlg T Xc6 Xbs Xbz Xbu XbA XbB Xbt;have XbV:=AC T Xc7 XbU Xbt;have XbR:=IS T Xc8 Xbr XbV;have XbC:=Cm T Xdc XbI;have XbT:=Ep T Xdh XbR XbC Xbq;have Xcb:=Er T Xdj XbS Xca XbT;have XbM:=Ey T Xdk Xcb;have XbN:=Oo T Xdl XbM;have Xb4:=Ck (P:=P) (w:=w) (base:=base) T U XdB;have Xb5:=CV T U Xc3 Xbr Xb4 Xbv Xbu Xby;have Xb6:=EB T U Xc4 XbH Xb5;have Xci:=Am T Xc9 Xb6;have Xcr:=O9 T Xdm XbN Xbq XbC XbJ Xci XbD XbL;have Xcl:=OJ (P:=P) (w:=w) (base:=base) T Xdu;have Xcm:=Iz (P:=P) (w:=w) (base:=base) T Xdt;have Xce:=Ek T XcU Xbz XbA;have Xcg:=Oa T XcV Xce Xbq;have Xcc:=OY T XcM Xbs XbB;have Xcd:=Ar T XcS Xcc Xbr Xbu;have Xcf:=EH T XcT Xcd Xbs;have Xch:=IK T XcW Xcf Xbt;have Xcj:=EG T XcX Xcg Xch;have Xck:=Iy (P:=P) (w:=w) (base:=base) T XcR;have Xcn:=CU T Xdn XbK Xcj XbD XbC Xbq Xck XbN;have XbO:=CI T Xdy XbM Xcl Xcm Xcn;have Xcs:=OV (P:=P) (w:=w) (base:=base) T Xdv;have Xco:=CM (P:=P) (w:=w) (base:=base) T Xdw;have Xct:=EX T Xdx Xco;exact LX T Xcu Xcp Xcq Xbx Xcr XbO Xcs Xct
end My
namespace PySem.W.Fast
def tw17512569309645259787:=0
def tw15024382229630630997:=0
def tw14111863229793765837:=0
def tw7940211313554416311:=0
def tw4252776292926335944:=0
def tw14555192653232483248:=0
def tw7260515716053067772:=0
def tw6612219724575506783:=0
def tw3920466786953584161:=0
def tw2512429754688147430:=0
def tw7221451755158985280:=0
def tw4565117548181688125:=0
def tw16743986766786175088:=0
def tw1199163270927553909:=0
def tw3660085609659650787:=0
def tw4553503669366020630:=0
def tw11341474141459863203:=0
def tw16232116270133016211:=0
def tw9757587740416661233:=0
def tw14638726948168562708:=0
def tw2776491507141981765:=0
def tw11989723064190352390:=0
def tw6885588610627246966:=0
def tw3252357372687164965:=0
def tw3635716463348522474:=0
def tw7304388857894542049:=0
def tw13807136419759789719:=0
def tw16584611989255261109:=0
def tw11066678790411570630:=0
def tw605594163061667381:=0
def tw1910920162295263345:=0
def tw5312221804665212149:=0
def tw4805010206134150323:=0
def tw7455741722111591750:=0
def tw17408969707806676606:=0
def tw3233522024950486152:=0
def tw14111944345364362215:=0
def tw9146029301999377952:=0
def tw16760984056107888837:=0
def tw17953459116464994809:=0
def tw9967386954955252970:=0
def tw17154100739386613645:=0
def tw8037602440349222712:=0
def tw6705387791087302072:=0
def tw7689396182598894734:=0
def tw16401612232428601306:=0
def tw17236193101999218260:=0
def tw8205680640676186708:=0
def tw6183978005699606649:=0
def tw12443259996235551185:=0
def tw13201500071189298810:=0
def tw7872957235735569750:=0
def tw2842560611726915548:=0
def tw11991908920392846899:=0
def tw4726201664432704032:=0
def tw8874639853445366222:=0
def tw8732037352362226062:=0
def tw7346841006756544666:=0
def tw1646922830968242997:=0
def tw4034996716615063596:=0
def tw17264533869176782311:=0
def tw6050669780263672345:=0
def tw14421349947404122358:=0
def tw3210540381597210800:=0
def tw1545480009448517652:=0
def tw1246031173371731706:=0
def tw11353456768865169964:=0
def tw18209236404954763863:=0
def tw14437302760121059840:=0
def tw17010024417395082806:=0
def tw1711575183964012480:=0
def tw1275696245198038453:=0
def tw10378881623640908886:=0
def tw17680219044771781976:=0
def tw14404706971272628926:=0
def tw17229394571299460542:=0
def tw5739225564001855216:=0
def tw13550082276609484749:=0
def tw13994954446425738841:=0
def tw5575256401697662694:=0
def tw11249005806850924540:=0
def tw17420979268693977228:=0
def tw17011665481015999700:=0
def tw358646631014866587:=0
def tw3836278713673759259:=0
def tw5199221150087088792:=0
def tw11163270394516876352:=0
def tw13106807860538905555:=0
def tw9088532808093974072:=0
def tw6053439022777260353:=0
def tw9972630649289165713:=0
def tw10500185449774794940:=0
def tw3585048509304585313:=0
def tw8028016242700856499:=0
def tw4401605013073830088:=0
def tw10690341793871140423:=0
def tw3313724007885509579:=0
def tw15859686372286046621:=0
def tw7263397393419007001:=0
def tw15562013111381701821:=0
def tw14359591389634081554:=0
def tw16365112371712000363:=0
def tw4604782644086419497:=0
def tw13402200284946090160:=0
def tw8843496272206551029:=0
def tw13822510741647886752:=0
def tw4485764590562560212:=0
def tw9101095770844504199:=0
def tw13926615489372000817:=0
def tw18018719685382587990:=0
def tw3727858344919650754:=0
def tw1200481691612402569:=0
def tw9020602448887351106:=0
def tw3054515149139730078:=0
end PySem.W.Fast
open PySem PySem.W PyProof.Rows
set_option maxRecDepth 100000 in
set_option maxHeartbeats 0 in
theorem PySem.Challenge.cw_chargeyard_k55_which_filling_is_fairest_holds : PySem.Challenge.rw_chargeyard_k55_which_filling_is_fairest.Holds := by
 w_on; o_law; k_head; (case hw=>w_witness2)
 k_fill
 refine L2.Zox (l:=PySem.Challenge.rw_chargeyard_k55_which_filling_is_fairest) (k:=13) (x := "_law_script") rfl rfl ⟨rfl,by decide,by decide⟩ (fun w h Y=>W.kIn_of Y) ?F
 case F =>
  intro w mg fa h KX G hmg
  refine' My.Zui KX G hmg ?aC ?h0 ?h1 ?h2 ?h3 ?h4 ?h5 ?h6 ?h7 ?h8 ?h9 ?h10 ?h11 ?h12 ?h13 ?h14 ?h15 ?h16 ?h17 ?h18 ?h19 ?h20 ?h21 ?h22 ?h23 ?h24 ?h25 ?h26 ?h27 ?h28 ?h29 ?h30 ?h31 ?h32 ?h33 ?h34 ?h35 ?h36 ?h37 ?h38 ?h39 ?h40 ?h41 ?h42 ?h43 ?h44 ?h45 ?h46 ?h47 ?h48 ?h49 ?h50 ?h51 ?h52 ?h53 ?h54 ?h55 ?h56 ?h57 ?a58 ?l58 ?c58 ?k58 ?a59 ?i59 ?l59 ?c59 ?k59 ?a60 ?i60 ?l60 ?c60 ?k60 ?a61 ?i61 ?l61 ?c61 ?k61 ?a62 ?i62 ?l62 ?c62 ?k62 ?a63 ?i63 ?l63 ?c63 ?k63 ?a64 ?i64 ?l64 ?c64 ?k64 ?a65 ?i65 ?l65 ?c65 ?k65 ?a66 ?i66 ?l66 ?c66 ?k66 ?pg ?hd ?po ?sa ?mk ?kc ?n0 ?n1 ?n2 ?n3 ?aS ?lS ?aE ?lE ?z0 ?z1 ?z2 ?z3 ?z4 ?z5 ?z6 ?z7 ?z8 ?z9 ?z10 ?z11 ?z12 ?z13 ?z14 ?z15
  case aC | a58 | l58 | c58 | k58 | a59 | i59 | l59 | c59 | k59 | a60 | i60 | l60 | c60 | k60 | a61 | i61 | l61 | c61 | k61 | a62 | i62 | l62 | c62 | k62 | a63 | i63 | l63 | c63 | k63 | a64 | i64 | l64 | c64 | k64 | a65 | i65 | l65 | c65 | k65 | a66 | i66 | l66 | c66 | k66 | pg | hd | po | sa | mk | kc | n0 | n1 | n2 | n3 | aS | lS | aE | lE | z0 | z1 | z2 | z3 | z4 | z5 | z6 | z7 | z8 | z9 | z10 | z11 | z12 | z13 | z14 | z15=>k_is
  case h0 | h1 | h2 | h3 | h4 | h5 | h6 | h7 | h8 | h9 | h10 | h11 | h12 | h13 | h14 | h15 | h16 | h17 | h18 | h19 | h20 | h21 | h22 | h23 | h24 | h25 | h26 | h27 | h28 | h29 | h30 | h31 | h32 | h33 | h34 | h35 | h36 | h37 | h38 | h39 | h40 | h41 | h42 | h43 | h44 | h45 | h46 | h47 | h48 | h49 | h50 | h51 | h52 | h53 | h54 | h55 | h56 | h57 =>
   refine' My.DH.mk ?a ?l ?c ?k
   case a | l | c | k=>k_is
end
