import PyProof.Rows.All
import Wide.All
import OpenK.AllK
import Lean
import PySem.Challenge.RW_chargeyard_k92_whole_from_text_to_peak
set_option Elab.async false
set_option linter.all false
set_option maxRecDepth 100000
set_option maxHeartbeats 4000000
set_option compiler.extract_closed false
set_option genSizeOf false
section
open PySem PySem.Spec PyProof.Rows
def Qa{b:Sort _}{a:b}{q:Prop}:a=a\/q:=Or.inl rfl
def zP:=@PySem.F.plainAttrs_list
def zS:=@PySem.F.slot_list_append
def zT:=@PySem.F.type_list_append
def zN:=@PassesOwn.never
abbrev Qb:=Value->Shared->Prop
abbrev Qc:=List (Addr×Obj)
abbrev Qd:=List PyData
abbrev Qe:=List Value
abbrev Qf:=Option Value
abbrev Qg:=List Addr
abbrev Qh:=List Str
abbrev Zaa:Qh:=["yard","guests"]
abbrev Zab:Qh:=["_law_yard_here","_law_guests_here","_law_filling"]
abbrev Zac:Qh:=["_law_yard_here","_law_guests_here","_law_lack","_law_k","_law_filling","_law_lines","_law_many"]
abbrev Zad:Qh:=["_law_line","_law_first","_law_last","_law_want","_law_most","_law_k"]
abbrev Zae:Qh:=["yard","guests","some","p"]
abbrev Zaf:Qh:=["_law_yard_here","_law_guests_here","_law_lack"]
abbrev Zag:Qh:=["_law_script","_law_yard_here","_law_guests_here","_law_here","_law_there","_law_filling","_law_lack","_law_some"]
abbrev Zah:Qh:=["yard","guests","some"]
abbrev Zai:Qh:=["_law_yard_here","_law_guests_here","_law_filling","_law_k","_law_line","_law_first","_law_last","_law_want","_law_most","_law_turn","_law_taken","_law_load"]
abbrev Zaj:Qh:=["self","start","end","room"]
abbrev Zak:Qh:=["yard","guests","some","turn"]
abbrev Zal:Qh:=["net","yard","number","guest"]
abbrev Zam:Qh:=["_law_yard_here","_law_guests_here","_law_some"]
abbrev Zan:Qh:=["_law_script","_law_k"]
abbrev Zao:Qh:=["_law_yard_here","_law_guests_here"]
abbrev Zap:Qh:=["words"]
abbrev Zaq:Qh:=["_law_script","_law_yard_here"]
abbrev Zar:Qh:=["_law_yard_here","_law_guests_here","_law_some","_law_turn"]
abbrev Zas:Qh:=["_law_yard_here","_law_guests_here","_law_some","_law_wants"]
abbrev Zat:Qh:=["self","start","end"]
abbrev Zau:Qh:=["_law_yard_here","_law_guests_here","_law_found","_law_k"]
abbrev Zav:Qh:=["thing","turns"]
abbrev Zaw:Qh:=["_law_k","_law_turn","_law_line","_law_filling","_law_yard_here","_law_guests_here"]
abbrev Zax:Qh:=["thing","least","end"]
abbrev Zay:Qh:=["guest"]
abbrev Zaz:Qh:=["_law_yard_here","_law_guests_here","_law_filling","_law_k","_law_row"]
abbrev ZaA:Qh:=["yard","guests","ahead","share","totals","some"]
abbrev ZaB:Qh:=["_law_above","_law_bounds","_law_k"]
abbrev ZaC:Qh:=["yard","line","turn"]
abbrev ZaD:Qh:=["yard","guests","some","turn","reaching","number","guest","line"]
abbrev ZaE:Qh:=["yard","guests","ahead","share"]
abbrev ZaF:Qh:=["thing","length"]
abbrev ZaG:Qh:=["_law_turn","_law_yard_here","_law_guests_here","_law_some"]
abbrev ZaH:Qh:=["yard","guests","ahead","some"]
abbrev ZaI:Qh:=["_law_yard_here","_law_line"]
abbrev ZaJ:Qh:=["one","other"]
abbrev ZaK:Qh:=["thing","line","turns"]
abbrev ZaL:Qh:=["guest","want"]
abbrev ZaM:Qh:=["guests","filling"]
abbrev ZaN:Qh:=["guests","totals","k"]
abbrev ZaO:Qh:=["_law_yard_here","_law_p"]
abbrev ZaP:Qh:=["yard","guests","shares","share","some","number"]
abbrev ZaQ:Qh:=["_law_some","_law_yard_here","_law_guests_here"]
abbrev ZaR:Qh:=["parts","bottom"]
abbrev ZaS:Qh:=["yard","guests","ahead","share","level","some"]
abbrev ZaT:Qh:=["yard","guests","ahead"]
abbrev ZaU:Qh:=["_law_number_here"]
abbrev ZaV:Qh:=["yard"]
abbrev ZaW:Qh:=["_law_script"]
abbrev ZaX:Qh:=["line","turn"]
abbrev ZaY:Qh:=["number","guest","net","yard"]
abbrev ZaZ:Qh:=["guests","totals","k","wants"]
abbrev Zba:Qh:=["thing","least"]
abbrev Zbb:Qh:=["guest","turn"]
abbrev Zbc:Qh:=["self","edges","end"]
abbrev Zbd:Qh:=["yard","line"]
abbrev Zbe:Qh:=["line","k"]
abbrev Zbf:Qh:=["net","yard","turn"]
abbrev Zbg:Qh:=["self","some"]
abbrev Zbh:Qh:=["guest","k"]
abbrev Zbi:Qh:=["guest","share"]
abbrev Zbj:Qh:=["guests","k"]
abbrev Zbk:Qh:=["self","start"]
abbrev Zbl:Qh:=["top","bottom"]
abbrev Zbm:Qh:=["rows","place"]
abbrev Zbn:Qh:=["thing","line"]
abbrev Zbo:Qh:=["yard","thing"]
abbrev Zbp:Qh:=["number","guests"]
abbrev Zbq:Qh:=["yard","k"]
abbrev Zbr:Qh:=["rows","yard","guests"]
abbrev Zbs:Qh:=["number","ahead"]
abbrev Zbt:Qh:=["word"]
abbrev Zbu:Qh:=["thing"]
abbrev Zbv:Qh:=["line","part","turns"]
abbrev Zbw:Qh:=["_law_found"]
abbrev Zbx:Qh:=["number"]
abbrev Zby:Qh:=["filling"]
abbrev Qi:=List Expr
abbrev Qj:=Option Addr
abbrev Qk:=List Nat
abbrev Ql:=List Int
abbrev Qm:=Nat->Bool
abbrev Qn:=Nat->Int
def Xa:=@wpAny_bind
def Xb:=@List.mem_cons_self
def Xc:=@if_neg
def Xd:=@Heap.get?_push_of_some
def Xe:=@List.mem_cons
def Xf:=@if_pos
def Xg:=@List.mem_cons_of_mem
def Xh:=@List.getElem?_eq_some_iff
def Xi:=@List.length_map
def Xj:=@Heap.lt_size
def Xk:=@List.mem_map
def Xl:=@wpAny_pure
def Xm:=@List.map_map
def Xn:=@Nat.le_refl
def Xo:=@decide_eq_false
def Xp:=@List.getElem?_map
def Xq:=@Nat.ne_of_lt
def Xr:=@absurd
def Xs:=@Bool.false_ne_true
def Xt:=@List.mem_singleton
def Xu:=@Int.mul_assoc
def Xv:=@List.size_toArray
def Xw:=@List.mem_range
def Xx:=@Nat.le_trans
def Xy:=@List.length_append
def Xz:=@List.map_cons
def XA:=@List.mem_append
def XB:=@List.map_append
def XD:=@Int.mul_comm
def XF:=@Int.toNat_natCast
def XG:=@Heap.get?_push_size
def XH:=@of_decide_eq_true
def XI:=@List.getElem?_eq_getElem
def XJ:=@decide_eq_true
def XL:=@List.getElem_mem
def XM:=@Nat.lt_of_lt_of_le
def XN:=@List.append_nil
def XO:=@List.mem_append_right
def XQ:=@Int.mul_le_mul_of_nonneg_left
def XS:=@congrArg
def XT:=@List.not_mem_nil
def XU:=@Int.toNat_of_nonneg
def XV:=@Int.mul_le_mul_of_nonneg_right
def XW:=@List.lookup_cons
def XX:=@List.take_length
def XY:=@List.nodup_cons
def XZ:=@Option.map_some
def X3:=@Nat.zero_le
def X4:=@Nat.le_of_lt
def X5:=@Nat.ne_of_gt
def X6:=@List.map_congr_left
def X7:=@Heap.get?_update_other
def X8:=@Int.lt_of_le_of_lt
def X9:=@Int.zero_add
def Y9:=@List.take_succ
def Yh:=@Int.lt_trans
def WA:=@of_decide_eq_false
def Wd:=@List.mem_filter
def Wc:=@List.range_succ
def Wt:=@List.length_cons
def Jz:=@List.mem_append_left
def JV:=@Heap.get?_update_self
def Yz:=@wpAny_field
def Wb:=@Nat.lt_irrefl
def JU:=@List.filter_append
def U7:=@List.getElem?_set_ne
def Jy:=@Bool.and_eq_true
def WW:=@Int.mul_nonneg
def JT:=@List.append_assoc
def Bw:=@List.getElem?_append_left
def Bv:=@Int.le_of_mul_le_mul_left
def G0:=@Nat.le_of_ble_eq_true
def W9:=@Int.ofNat_lt
def Ws:=@Int.mul_one
def Jx:=@Heap.size_push
def U6:=@Option.isSome_map
def JS:=@Int.ediv_nonneg
def Gz:=@List.flatMap_append
def Bu:=@List.getElem?_set_self
def MK:=@List.getElem?_append_right
def UD:=@Nat.lt_succ_self
def UC:=@Option.getD_some
def WX:=@Int.mul_sub
def B9:=@Nat.pow_le_pow_right
def G4:=@List.nodup_append
def B8:=@List.replicate_succ
def B7:=@List.length_pos_iff
def B6:=@List.filter_eq_self
def MM:=@List.filter_eq_nil_iff
def G3:=@Int.natCast_mul
def UB:=@Nat.mul_assoc
def B5:=@Nat.lt_succ_of_lt
def Kg:=@List.getElem?_eq_none_iff
def ML:=@Bool.and_eq_true_iff
def JW:=@Int.add_mul
def G2:=@List.nodup_nil
def B4:=@List.length_take
def B3:=@List.all_eq_true
def B2:=@Nat.le_add_right
def Bz:=@List.cons_append
def UA:=@List.map_nil
def U9:=@Int.ofNat_le
def U8:=@Int.le_trans
def Kf:=@Int.eq_ofNat_of_zero_le
def G1:=@List.sum_cons
def Bx:=@Bool.eq_iff_iff
def BB:=@List.nil_append
def BA:=@Int.emod_nonneg
def MP:=@Bool.false_eq_true
def MO:=@wpAny_setField_rec
def UF:=@Int.le_refl
def UE:=@Int.mul_add
def Pe:=@List.eq_nil_of_length_eq_zero
def MN:=@List.length_range
def G5:=@Nat.mul_comm
def Kh:=@List.pairwise_flatMap
def MJ:=@List.filter_cons
def Ke:=@List.mem_of_mem_take
def Kd:=@List.mem_of_mem_drop
def Bt:=@List.any_cons
def Pd:=@Int.le_of_mul_le_mul_right
def Kc:=@List.takeWhile_cons
def MI:=@List.foldl_cons
def Pc:=@List.drop_eq_getElem_cons
def Kb:=@Nat.lt_of_le_of_lt
def Ka:=@Int.emod_lt_of_pos
def HZ:=@List.pairwise_cons
def HY:=@Nat.add_sub_cancel
def Pb:=@Bool.eq_false_or_eq_true
def MG:=@Nat.mul_le_mul
def HX:=@List.flatMap_cons
def HW:=@List.foldl_append
def HV:=@Nat.gcd_dvd_right
def HU:=@List.length_drop
def HS:=@List.nodup_range
def HR:=@List.mem_flatMap
def HQ:=@List.ext_getElem
end
namespace L2
open PySem PySem.Spec PyProof.Rows
abbrev Key:=Sum Int Str
def GJ:Key->Value->Bool
 |.inl k,v=>Value.isInt k v
 |.inr x,v=>Value.isStrOf x v
def Z1m(w:World):Key->Int
 |.inl k=>hashInt k
 |.inr x=>hashStr w x
theorem JR:∀{k:Key} {v:Value},GJ k v=true->(∃i t,k=Sum.inl i/\v=Value.int i t)\/(∃x t,k=Sum.inr x/\v=Value.str x t)
 |.inl i,v,h=>by
  obtain⟨t,e⟩:=Value.isInt_shape h;exact .inl ⟨i,t,rfl,e⟩
 |.inr x,v,h=>by
  obtain⟨t,e⟩:=Value.isStrOf_shape h;exact .inr ⟨x,t,rfl,e⟩
def ZsO(i:Int)(t:Tok):GJ (.inl i) (.int i t)=true:=by simp[GJ,Value.isInt]
def ZqK(x:Str)(t:Tok):GJ (.inr x) (.str x t)=true:=by simp[GJ,Value.isStrOf]
def Ef(a b:Int):decide ((Sum.inl a:Key)=Sum.inl b)=(a==b):=by
 grind
def Eg(a b:Str):decide ((Sum.inr a:Key)=Sum.inr b)=decide (a=b):=by
 simp_all
def AI(a:Int)(b:Str):decide ((Sum.inl a:Key)=Sum.inr b)=false:=Xo (by rintro⟨⟩)
def E6(a:Str)(b:Int):decide ((Sum.inr a:Key)=Sum.inl b)=false:=Xo (by rintro⟨⟩)
def Y8(prog:Program)(w:World):PySem.KeyKind prog w Key where
 is:=GJ
 hash:=Z1m w
 inj:=λv a b l f=>by
  rcases JR l with ⟨i,t,rfl,rfl⟩|⟨x,t,rfl,rfl⟩
  .rcases JR f with ⟨j,u,rfl,e⟩|⟨y,u,rfl,e⟩
   .injection e with c _;rw[c]
   .exact nomatch e
  .rcases JR f with ⟨j,u,rfl,e⟩|⟨y,u,rfl,e⟩
   .exact nomatch e
   .injection e with c _;rw[c]
 byValue:=λk v h=>by
  rcases JR h with ⟨i,t,rfl,rfl⟩|⟨x,t,rfl,rfl⟩<;>rfl
 pyHash:=λd h=>by
  rcases JR d with ⟨i,t,rfl,rfl⟩|⟨x,t,rfl,rfl⟩
  .exact wpAny_pyHash_int h
  .exact wpAny_pyHash_str h
 eqBool:=λg d h=>by
  rcases JR g with ⟨i,t,rfl,rfl⟩|⟨x,t,rfl,rfl⟩
  .rcases JR d with ⟨j,u,rfl,rfl⟩|⟨y,u,rfl,rfl⟩
   .rw[Ef]at h;exact wpAny_eqBool_int h
   .rw[AI]at h;exact SeqAt.EqAt.int_str i t y u _ _ _ _ h
  .rcases JR d with ⟨j,u,rfl,rfl⟩|⟨y,u,rfl,rfl⟩
   .rw[E6]at h;exact SeqAt.EqAt.str_int x t j u _ _ _ _ h
   .rw[Eg]at h;exact wpAny_eqBool_str h
 «strs» := λk x t v h=>by
  rcases JR h with ⟨i,u,rfl,e⟩|⟨y,u,rfl,e⟩
  .exact nomatch e
  .injection e with c _;subst c;cases v<;>rfl
def ZmG(prog:Program)(w:World)(i:Int)(t:Tok):(Y8 prog w).is (.inl i) (.int i t)=true:=ZsO i t
def Zng(prog:Program)(w:World)(x:Str)(t:Tok):(Y8 prog w).is (.inr x) (.str x t)=true:=ZqK x t
end L2
open PySem PySem.Spec PyProof.Rows
variable {P prog:Program}{w:World}{h h':Heap}{C ρ a dx f:Addr}{Z:Qc}{s s0:Shared}{H2:Qb}{tg:Expr}{A:Around}{K:W.Frag}{X1 X2 hpos np p pos':Pos}{es:Qi}{fd:FuncData}{ps sn:Qh}{m nm q qual:Str}{mg:Str->Qf}{cd r:Value}{i:Nat}{bm SF:Qe}{ab X0:Bool}{col:Option Bool}{dd:Qj}{k0 k1 k2 k3 k5:Qf}{B initId newId:String}{H':Model}{scope:Scope}{outer:List Env}{suite:List Stmt}{b0:Stmt}{rest:List ExceptHandler}
namespace L2
inductive V where
 |non|bl (b:Bool)|int (i:Int)|str (x:Str)|byt (b:Array UInt8)|flt (b:UInt64)|ref (a:Addr)|ty (n:String)
 deriving DecidableEq
def QP:V->Value->Prop
 |.non,u=>u=Value.none
 |.bl b,u=>u=Value.bool b
 |.int i,u=>∃t,u=Value.int i t
 |.str x,u=>∃t,u=Value.str x t
 |.byt b,u=>∃t,u=Value.bytes b t
 |.flt b,u=>∃t,u=Value.float b t
 |.ref a,u=>u=Value.ref a
 |.ty n,u=>u=Value.type n
abbrev QR:List V->Qe->Prop:=Paired QP
def QR.length(r:QR xs us):xs.length=us.length:=Paired.length r
theorem QR.get:∀{xs:List V} {us:Qe} {i:Nat} {x:V},QR xs us->xs[i]?=some x->∃u,us[i]?=some u/\QP x u
 |_,_,_,_,.nil,e=>by simp at e
 |_,_,0,_,.cons r _,e=>by simp at e;subst e;exact⟨_,rfl,r⟩
 |_,_,i+1,x,.cons _ t,e=>by
  obtain⟨u,f,a⟩:=QR.get t (by simpa using e);exact⟨u,by simpa using f,a⟩
theorem QR.set{x:V}{u:Value}(r:QP x u):∀{xs:List V} {us:Qe} (i:Nat),QR xs us->QR (xs.set i x) (us.set i u)
 |_,_,_,.nil=>.nil
 |_,_,0,.cons _ t=>.cons r t
 |_,_,i+1,.cons q t=>.cons q (QR.set r i t)
theorem QR.append:∀{xs a:List V} {us ws:Qe},QR xs us->QR a ws->QR (xs++a) (us++ws)
 |_,_,_,_,.nil,s=>s
 |_,_,_,_,.cons r t,s=>.cons r (QR.append t s)
theorem QR.take:∀{xs:List V} {us:Qe} (n:Nat),QR xs us->QR (xs.take n) (us.take n)
 |_,_,0,_=>.nil
 |_,_,_+1,.nil=>.nil
 |_,_,n+1,.cons r t=>.cons r (QR.take n t)
theorem QR.drop:∀{xs:List V} {us:Qe} (n:Nat),QR xs us->QR (xs.drop n) (us.drop n)
 |_,_,0,r=>r
 |_,_,_+1,.nil=>.nil
 |_,_,n+1,.cons _ t=>QR.drop n t
def Vy:Option V->Qf->Prop
 |some v,some u=>QP v u
 |none,none=>True
 |_,_=>False
def KV{a:Type}:List (a×V)->List (a×Value)->Prop:=Paired λ(p:a×V) (q:a×Value)=>p.1=q.1/\QP p.2 q.2
def kV:Key->V
 |.inl i=>.int i
 |.inr x=>.str x
inductive HO where
 |lst (xs:List V)
 |tup (xs:List V)
 |dK (kvs:List (Key×V))|dT (kvs:List (List Key×V))
 |set (S:Int->Bool)(n:Nat)
 |ins (C dx:Addr)(fs:List (Str×V))
 |own (x:Addr)
 |xd (fs:List (Str×V))
 |met (f x:Addr)
 |rng (lo hi:Int)
 |frz (o:Obj)(u:HO)
 |tbl (ps:Array Value)
 |ext (φ:Heap->Prop)
abbrev Hp:=Addr->Option HO
def upd(H:Hp)(a:Addr)(o:HO):Hp:=λb=>if b=a then some o else H b
def QT : upd H a o a=some o:=by unfold upd;rw[Xf rfl]
def Q6{b:Addr}(h:b≠a):upd H a o b=H b:=by unfold upd;rw[Xc h]
def P2{H:Hp}{b:Addr}{o u:HO}(h:H a=some o)(h':H b=some u)(d:o≠u):a≠b:=by
 intro e;subst e;rw[h]at h';exact d (Option.some.inj h')
def Vq{H:Hp}{b:Addr}{o:HO}(h:H a=some o)(h':H b=none):a≠b:=by
 grind
def J1:1<=1000:=by decide
def YM:2<=1000:=by decide
section
variable (P:Program)(w:World)
def Vj(H:Hp)(h:Heap)(a:Addr):HO->Prop
 |.lst r=>r.length<=sizeLine/\∃(m:Qe) (n:Nat),QR r m/\h.get? a=some { cls:=.type "list",data:=.seq m.toArray n }
 |.tup r=>r.length<=sizeLine/\∃m:Qe,QR r m/\IsTup h a m.toArray
 |.dK i=>i.length<=sizeLine/\(a==sysModules)=false/\∃K,KV i K/\h.DictOf (Y8 P w) a K
 |.dT i=>i.length<=sizeLine/\(a==sysModules)=false/\∃r:List (List Key×Addr×Value),
  Paired (λ(p:List Key×V) (q:List Key×Addr×Value)=>p.1=q.1/\H q.2.1=some (.tup<|p.1.map kV)/\QP p.2 q.2.2) i r/\
  ∃o es e,h.get? a=some o/\o.ExactDict/\o.data=.dict es e/\es.toList=r.map (entryOfKey<|tupleKind<|Y8 P w)/\(r.map (·.1)).Nodup
 |.set S n=>h.SetOf (intKind P w) a S n
 |.ins C dx A=>H dx=some (.own a)/\A.length<=1000/\dx≠a/\h.get? a=some (W.instObj C dx)/\
  ∃s,h.Ns1 dx s/\(∀f,Vy (A.lookup f)<|s f)/\PySem.Within s (A.map (·.1))
 |.own _=>∃o,h.get? a=some o
 |.xd A=>∃s,h.Ns1 a s/\∀f,Vy (A.lookup f) (s f)
 |.rng c d=>∃t u v,h.get? a=some { cls:=.type "range",data:=.fields #[.int c t,.int d u,.int 1 v] }
 |.frz o u=>h.get? a=some o/\Vj H h a u
 |.tbl ps=>h.get? a=some { cls:=.none,data:=.fields ps }
 |.met f x=>h.get? a=some (W.methodObj (.ref f)<|.ref x)
 |.ext B=>B h/\(∃o,h.get? a=some o)/\∀b Z:Heap,B b->(∀o,b.get? a=some o->Z.get? a=some o)->B Z
def HOk(H:Hp)(h:Heap):Prop := ∀a o,H a=some o->Vj P w H h a o
end
section
variable {H M:Hp}{o:HO}
def Vj.lt(x:Vj P w H h a o):a<h.objs.size:=by
 cases o with
 |lst m=>obtain⟨_,_,_,_,e⟩:=x;exact Xj e
 |tup m=>obtain⟨_,_,_,p⟩:=x;exact p.lt
 |dK i=>obtain⟨_,_,_,_,o,_,_,e,_⟩:=x;exact Xj e
 |dT i=>obtain⟨_,_,_,_,o,_,_,e,_⟩:=x;exact Xj e
 |set S n=>obtain⟨o,_,_,_,e,_⟩:=x;exact Xj e
 |ins C dx q=>obtain⟨_,_,_,e,_⟩:=x;exact Xj e
 |own y=>obtain⟨_,e⟩:=x;exact Xj e
 |xd q=>obtain⟨_,⟨_,_,_,e,_⟩,_⟩:=x;exact Xj e
 |rng A B=>obtain⟨_,_,_,e⟩:=x;exact Xj e
 |frz s u=>obtain⟨e,_⟩:=x;exact Xj e
 |tbl ps=>exact Xj (x)
 |met f y=>exact Xj (x)
 |ext r=>obtain⟨_,⟨_,e⟩,_⟩:=x;exact Xj e
theorem Paired.mapP{i h:Type}{F G:i->h->Prop}:∀{l₁:List i} {l₂:List h},Paired F l₁ l₂->(∀a b,F a b->G a b)->Paired G l₁ l₂
 |_,_,.nil,_=>.nil
 |_,_,.cons r t,f=>.cons (f _ _ r) (Paired.mapP t f)
def Vj.stay(x:Vj P w H h a o)(k:∀b u,(b=a\/H b=some (.own a))->h.get? b=some u->h'.get? b=some u)
(D:∀b,H b=some (.own a)->M b=some (.own a))(l:∀b xs,H b=some (.tup xs)->M b=some (.tup xs)):Vj P w M h' a o:=by
 induction o with
 |lst xs=>obtain⟨z,s,n,r,e⟩:=x;exact⟨z,s,n,r,k _ _ (.inl rfl) e⟩
 |tup xs=>obtain⟨z,s,r,i,e,c⟩:=x;exact⟨z,s,r,i,k _ _ (.inl rfl) e,c⟩
 |dK K=>obtain⟨z,y,Z,r,i,es,m,e,c⟩:=x;exact⟨z,y,Z,r,i,es,m,k _ _ (.inl rfl) e,c⟩
 |dT K=>
  obtain⟨z,y,xs,r,i,es,m,e,c⟩:=x;exact⟨z,y,xs,Paired.mapP r λp q z=>⟨z.1,l _ _ z.2.1,z.2.2⟩,i,es,m,k _ _ (.inl rfl) e,c⟩
 |set S n=>obtain⟨i,es,m,t,e,c⟩:=x;exact⟨i,es,m,t,k _ _ (.inl rfl) e,c⟩
 |ins C dx E=>
  obtain⟨d,z,g,e,B,⟨A,es,m,F,c⟩,r⟩:=x;exact⟨D _ d,z,g,k _ _ (.inl rfl) e,B,⟨A,es,m,k _ _ (.inr d) F,c⟩,r⟩
 |own y=>obtain⟨i,e⟩:=x;exact⟨i,k _ _ (.inl rfl) e⟩
 |xd E=>obtain⟨B,⟨A,es,m,e,c⟩,r⟩:=x;exact⟨B,⟨A,es,m,k _ _ (.inl rfl) e,c⟩,r⟩
 |rng I J=>obtain⟨t,u,v,e⟩:=x;exact⟨t,u,v,k _ _ (.inl rfl) e⟩
 |frz i u j=>obtain⟨e,q⟩:=x;exact⟨k _ _ (.inl rfl) e,j q⟩
 |tbl ps=>
  have e:=x;exact k a _ (.inl rfl) e
 |met f y=>
  have e:=x;exact k a _ (.inl rfl) e
 |ext G=>obtain⟨p,⟨o,e⟩,W⟩:=x;exact⟨W _ _ p λo q=>k _ _ (.inl rfl) q,⟨o,k _ _ (.inl rfl) e⟩,W⟩
def HOk.lt(x:HOk P w H h)(e:H a=some o):a<h.objs.size:=(x a o e).lt
def HOk.fresh(x:HOk P w H h)(e:h.objs.size<=a):H a=none:=by
 cases q:H a with
 |none=>rfl
 |some u=>exact Xr (XM (x.lt q) e) (Wb _)
def HOk.kept(x:HOk P w H h)(k:∀b u,h.get? b=some u->h'.get? b=some u):HOk P w H h':=λa o e=>
 (x a o e).stay (λb u _ q=>k b u q) (λ_ q=>q) λ_ _ q=>q
def HOk.laid(x:HOk P w H h)(k:∀b u,h.get? b=some u->h'.get? b=some u)(p:h.objs.size<=a)(f:Vj P w (upd H a o) h' a o):HOk P w (upd H a o) h':=λb u e=>by
 have i:=x.fresh p
 by_cases m:b=a
 .subst m;rw[QT]at e;cases e;exact f
 .rw[Q6 m]at e;exact(x b u e).stay (λc v _ q=>k c v q) (λc q=>by rw[Q6<|Vq q i];exact q) λc r q=>by rw[Q6<|Vq q i];exact q
end
def Rd(H:Hp)(a:Addr)(u:HO):Prop:=H a=some u\/∃o,H a=some (.frz o u)
def Rd.of(h:H a=some u):Rd H a u:=.inl h
def Rd.ok(r:Rd H a u)(x:HOk P w H h):Vj P w H h a u:=by
 rcases r with r|⟨o,r⟩
 .exact x a u r
 .obtain⟨_,q⟩:=x a _ r;exact q
def Mut:Option HO->Prop
 |some (.lst _)=>True
 |some (.dK _)=>True
 |some (.dT _)=>True
 |some (.set _ _)=>True
 |some (.ins _ _ _)=>True
 |some (.ext _)=>True
 |_=>False
section
variable {H:Hp}{x e:Addr}{o':HO}
def HOk.write(K:HOk P w H h)(p:Mut (H x))(Z:e=x\/H e=some (.own x))(k:∀b u,b≠e->h.get? b=some u->h'.get? b=some u)(A:∃u,h'.get? e=some u)
(s:Vj P w (upd H x o') h' x o'):HOk P w (upd H x o') h':=λb u q=>by
 have i:∀c y,H c=some (.own y)->c≠x:=λc y r z=>by subst z;rw[r]at p;exact p
 have f:∀c m,H c=some (.tup m)->c≠x:=λc m r z=>by subst z;rw[r]at p;exact p
 by_cases B:b=x
 .subst B;rw[QT]at q;cases q;exact s
 .rw[Q6 B]at q
  by_cases a:b=e
  .have C:H b=some (.own x):=by
    rcases Z with z|z
    .exact Xr (a.trans z) B
    .rw[a];exact z
   rw[q]at C;cases C;obtain⟨v,W⟩:=A;exact⟨v,by rw[a];exact W⟩
  .refine(K b u q).stay (λc v d r=>k c v ?_ r) (λc r=>by rw[Q6<|i c b r];exact r) λc m r=>by rw[Q6<|f c m r];exact r
   grind
end
structure Un(fs ex:Qg)(H M:Hp)(h h':Heap):Prop where
 keep:∀b o,h.get? b=some o->H b=none->b∉fs->b∉ex->h'.get? b=some o
 slot:∀b o,h.get? b=some o->H b=none->b∈fs->b∉ex->∃sl,h'.get? b=some { o with slots:=sl }
 free:∀b o,h.get? b=some o->H b=none->b∉ex->M b=none
 there:∀b o,h.get? b=some o->b∉ex->∃o',h'.get? b=some o'
 tups:∀b xs,H b=some (.tup xs)->M b=some (.tup xs)
 frzs:∀b o u,H b=some (.frz o u)->M b=some (.frz o u)
 tupo:∀b xs o,H b=some (.tup xs)->h.get? b=some o->b∉ex->h'.get? b=some o
 tbls:∀b ps,H b=some (.tbl ps)->∃more,M b=some (.tbl<|ps++more)
section
variable {fs ex:Qg}{H L:Hp}{h1:Heap}{x e:Addr}{o:HO}
def Un.any(u:Un fs ex H L h h1){b:Addr}(q:h.get? b=some ob)(n:H b=none)(a:b∉ex):∃f,h1.get? b=some { ob with slots:=f }:=by
 by_cases e:b∈fs
 .exact u.slot b ob q n e a
 .exact⟨ob.slots,u.keep b ob q n e a⟩
def Un.kept(k:∀b u,h.get? b=some u->h'.get? b=some u):Un fs ex H H h h':=
 ⟨λb a q _ _ _=>k b a q,λb a q _ _ _=>⟨a.slots,k b a q⟩,λ_ _ _ n _=>n,λb a q _=>⟨a,k b a q⟩,λ_ _ q=>q,λ_ _ _ q=>q,λb _ a _ e _=>k b a e,λ_ ps q=>⟨#[],by rw[q];simp⟩⟩
def Un.refl:Un fs ex H H h h:=Un.kept λ_ _ q=>q
theorem Un.laid(k:∀b u,h.get? b=some u->h'.get? b=some u)(m:h.objs.size<=a)(hn:H a=none):Un fs ex H (upd H a o) h h' where
 keep:=λb u q _ _ _=>k b u q
 slot:=λb u q _ _ _=>⟨u.slots,k b u q⟩
 free:=λb u q n _=>by rw[Q6<|Xq<|XM (Xj q) m];exact n
 there:=λb u q _=>⟨u,k b u q⟩
 tups:=λb f q=>by rw[Q6<|Vq q hn];exact q
 frzs:=λb u f q=>by rw[Q6<|Vq q hn];exact q
 tupo:=λb _ i _ e _=>k b i e
 tbls:=λb ps q=>⟨#[],by rw[Q6<|Vq q hn,q];simp⟩
def Un.write(a:Mut (H x))(A:e=x\/H e=some (.own x))(k:∀b u,b≠e->h.get? b=some u->h'.get? b=some u)(w:∃u,h'.get? e=some u):Un fs ex H (upd H x o) h h':=by
 have s:∀b,H b=none->b≠x:=λb n z=>by subst z;rw[n]at a;exact a
 have p:∀b,H b=none->b≠e:=λb n z=>by
  grind
 have f:∀b u,H b=some u->¬Mut (some u)->b≠x:=λb u q nm z=>by subst z;rw[q]at a;exact nm a
 refine⟨λb u q n _ _=>k b u (p b n) q,λb u q n _ _=>⟨u.slots,k b u (p b n) q⟩,λb u q n _=>by rw[Q6<|s b n];exact n,λb u q _=>?_,
  λb m q=>by rw[Q6<|f b _ q λz=>z];exact q,λb u m q=>by rw[Q6<|f b _ q λz=>z];exact q,λb m u q B _=>k b u (λz=>by
   rcases A with r|r
   .exact f b _ q (λy=>y) (z.trans r)
   .rw[<- z,q]at r;cases r) B,λb ps q=>⟨#[],by rw[Q6<|f b _ q λz=>z,q];simp⟩⟩
 by_cases i:b=e
 .simp_all
 .exact⟨u,k b u i q⟩
end
def trk(h:Heap)(H:Hp):Qg:=(List.range h.objs.size).filter λa=>(H a).isSome
def Ua(h:Heap)(H:Hp):Heap:=W.hideAll h (trk h H)
def Zry(h:Heap)(H:Hp):(Ua h H).objs.size=h.objs.size:=W.hideAll_size _ _
def Ztz{b:Addr}(e:h.get? b=some o)(n:H b=none):(Ua h H).get? b=some o:=
 W.hideAll_get _ e λa=>by
  have q:=(Wd.mp a).2;rw[n]at q;simp at q
def IT{b:Addr}(e:(Ua h H).get? b=some o):h.get? b=some o/\H b=none:=by
 have a:=W.of_hideAll _ e;refine⟨a,?_⟩;cases q:H b with
 |none=>rfl
 |some x=>
  have f:b∈trk h H:=Wd.mpr ⟨Xw.mpr<|Xj a,by simp[q]⟩;have z:(Ua h H).get? b=none:=W.hideAll_none _ f
  grind
end L2
variable {xs ys:List L2.V}{v y:L2.V}{R:L2.Hp}{H0 RR:Addr->Qj->L2.Hp->Prop}
namespace L2
structure Mod(K:W.Frag)(mg:Str->Qf)(base:Heap):Prop where
 kin:K.In base
 glob:base.Ns mainGlobals mg
 blt:∃mb,base.Ns builtinsNs mb/\∀x:Str,x ≠ "__name__" -> mb x=bootBuiltins x
 nolimit:base.NoLimit
structure Cx where
 prog:Program
 w:World
 K:W.Frag
 mg:Str->Qf
 base:Heap
 A:Around
 N:Qh
 s₀:Shared
 H₀:Hp
 env:Env
 outer:List Env
 stack:List Env
 ex:Qg
 fn:Str->Bool
 calm:Bool
 pn:Qc
 xe:Qb
def frs(l:List Env):Qg:=l.filterMap (·.frame)
abbrev Cx.fs(X:Cx):Qg:=frs X.outer
def Vis(sc:Scope)(x:Str):Prop:=sc.names.lookup x=some .local\/sc.names.lookup x=some .cell\/sc.names.lookup x=some .free
def Loc(sc:Scope)(x:Str):Prop:=sc.names.lookup x=some .local\/sc.names.lookup x=some .cell
def BG(a:Env)(h:Heap)(m:Str->Qf)(x:Str)(u:Value):Prop:=
 (a.kindOf x=some .local/\m x=some u)\/((a.kindOf x=some .cell\/a.kindOf x=some .free)/\∃c,a.cells.lookup x=some c/\h.IsCell c (some u))
structure Cx.Ok(X:Cx):Prop where
 mod:Mod X.K X.mg X.base
 kind:X.env.scope.kind=.function
 glob:X.env.globals=mainGlobals
 blt:X.env.builtins=builtinsNs
 above:X.s₀.heap.objs.size<=X.env.locals
 inj:∀x y c,X.env.cells.lookup x=some c->X.env.cells.lookup y=some c->x=y
 has:∀x,(X.env.kindOf x=some .cell\/X.env.kindOf x=some .free)->∃c,X.env.cells.lookup x=some c
 cab:∀x c,X.fn x=true->X.env.cells.lookup x=some c->X.s₀.heap.objs.size<=c
 hd:X.calm=true->X.A.handled=none
 frames:X.A.frames=some X.stack
 stk:X.stack=X.outer\/(X.stack=X.env::X.outer/\X.env.frame=some X.env.locals)
 exf:∀b∈X.ex,b≠X.env.locals/\∀x c,X.env.cells.lookup x=some c->c≠b
 bs:∀b o,X.base.get? b=some o->X.s₀.heap.get? b=some o/\(X.H₀ b=none\/∃xs,X.H₀ b=some (.tup xs))
 bsz:X.base.objs.size<=X.s₀.heap.objs.size
 noex:∀b o,X.base.get? b=some o->b∉X.ex
 exfs:∀b∈X.ex,b∉X.fs
 funs:X.s₀.heap.FunFrames X.base X.outer
 frf:∀b∈X.fs,X.H₀ b=none
structure Qt(X:Cx)(Z:Qc)(O:List (Option V))(H:Hp)(s:Shared):Prop where
 ok:X.Ok
 os:s.os=X.s₀.os
 bare:AllBare s.gens
 base:Un X.fs X.ex X.H₀ H X.s₀.heap s.heap
 loc:∃m,s.heap.Ns X.env.locals m/\∀(i:Nat) (x:Str) (v:V),X.N[i]?=some x->O[i]?=some (some v)->Vis X.env.scope x->∃u,QP v u/\BG X.env s.heap m x u
 cell:∀x c,X.env.cells.lookup x=some c->∃v,s.heap.IsCell c v
 free:H X.env.locals=none
 freeC:∀x c,X.env.cells.lookup x=some c->H c=none
 pin:∀p∈X.pn++Z,s.heap.get? p.1=some p.2/\H p.1=none/\p.1≠X.env.locals/\p.1∉X.fs/\∀v,p.2.data≠.cell v
 hok:HOk X.prog X.w H s.heap
 len:O.length=X.N.length
section
variable {X:Cx}{O:List (Option V)}{H M:Hp}
def Cx.Ok.nofr(a:X.Ok){b:Addr}(e:X.base.get? b=some o):b∉X.fs:=λf=>by
 have:=(a.funs.mem f).1
 grind
def Qt.bs(I:Qt X Z O H s):∀b o,X.base.get? b=some o->s.heap.get? b=some o/\(H b=none\/∃xs,H b=some (.tup xs)):=λb o e=>by
 obtain⟨f,a⟩:=I.ok.bs b o e;rcases a with a|⟨xs,a⟩
 .exact⟨I.base.keep b o f a (I.ok.nofr e)<|I.ok.noex b o e,.inl<|I.base.free b o f a<|I.ok.noex b o e⟩
 .exact⟨I.base.tupo b xs o a f<|I.ok.noex b o e,.inr ⟨xs,I.base.tups b xs a⟩⟩
def Qt.bk(I:Qt X Z O H s):∀b o,X.base.get? b=some o->s.heap.get? b=some o:=λb o e=>(I.bs b o e).1
def Qt.mod(I:Qt X Z O H s):Mod X.K X.mg X.base:=I.ok.mod
def Qt.kIn(I:Qt X Z O H s):X.K.In s.heap:=I.ok.mod.kin.keeps I.bk
def Qt.fr(I:Qt X Z O H s):∃m,Fr X.base X.env.locals s.heap m:=
 let ⟨m,hn,_⟩:=I.loc
 ⟨m,hn,I.bk,Xx I.ok.bsz I.ok.above⟩
def Qt.lt(I:Qt X Z O H s):X.env.locals<s.heap.objs.size:=let ⟨_,hn,_⟩:=I.loc;hn.lt
def Qt.sz(I:Qt X Z O H s):X.s₀.heap.objs.size<=s.heap.objs.size:=Xx I.ok.above (X4 I.lt)
def Qt.nofs(I:Qt X Z O H s)(h:s.heap.objs.size<=a):a∉X.fs:=λi=>by
 obtain⟨_,o,f,_⟩:=I.ok.funs.mem i;exact Xr (XM (Xj f)<|Xx I.sz h) (Wb _)
def Qt.cne(I:Qt X Z O H s):∀x c,X.env.cells.lookup x=some c->c≠X.env.locals:=λx c e z=>by
 obtain⟨v,o,i,p⟩:=I.cell x c e;obtain⟨m,⟨h,es,q,a,f,_⟩,_⟩:=I.loc
 grind
def Qt.funs(I:Qt X Z O H s):s.heap.FunFrames X.base X.outer:=by
 have m:∀l,(∀b∈frs l,b∈X.fs)->X.s₀.heap.FunFrames X.base l->s.heap.FunFrames X.base l:=by
  intro l;induction l with
  |nil=>intro _ _;trivial
  |cons K r q=>
   intro p A;obtain⟨B,⟨a,o,f,y,w,C⟩,v⟩:=A;have i:=p a (by unfold frs;rw[List.filterMap_cons,f];exact Xb);obtain⟨M,e⟩:=I.base.slot a o w (I.ok.frf a i) i λz=>I.ok.exfs a z i
   exact⟨B,⟨a,_,f,y,e,C⟩,q (λb h=>p b<|by unfold frs;rw[List.filterMap_cons,f];exact Xg _ h) v⟩
 exact m X.outer (λ_ h=>h) I.ok.funs
def Qt.stack(I:Qt X Z O H s):s.heap.FunFrames X.base X.stack:=by
 rcases I.ok.stk with e|⟨e,f⟩
 .rw[e];exact I.funs
 .rw[e];obtain⟨m,a,_⟩:=I.loc;refine .cons (by rw[I.ok.kind];decide) f a ?_ I.funs;exact Heap.get?_none_of_le (Xx I.ok.bsz I.ok.above)
def Qt.stkSub(I:Qt X Z O H s):∀b∈frs X.stack,b∈X.env.locals::X.fs:=λb a=>by
 rcases I.ok.stk with e|⟨e,f⟩
 .rw[e]at a;exact Xg _ a
 .rw[e]at a;unfold frs at a;rw[List.filterMap_cons,f]at a;exact a
def Qt.stkFree(I:Qt X Z O H s):∀b∈frs X.stack,H b=none:=λb a=>by
 rcases Xe.mp (I.stkSub b a) with e|a
 .rw[e];exact I.free
 .obtain⟨_,o,f,_⟩:=I.ok.funs.mem a;exact I.base.free b o f (I.ok.frf b a) λz=>I.ok.exfs b z a
def Qt.step{t':Nat}{ch:Qg}(I:Qt X Z O H s)
(A:∀b∈ch,(b∈X.ex\/X.s₀.heap.objs.size<=b)/\b≠X.env.locals/\(∀x c,X.env.cells.lookup x=some c->c≠b)/\∀p∈X.pn++Z,p.1≠b)
(y:∀b o,b≠X.env.locals->b∉X.fs->b∉ch->s.heap.get? b=some o->H b=none->h'.get? b=some o)
(K:∀b o,b≠X.env.locals->b∈X.fs->b∉ch->s.heap.get? b=some o->H b=none->∃N,h'.get? b=some { o with slots:=N })(f:∀b o,b∉ch->s.heap.get? b=some o->H b=none->M b=none)
(P:∀b o,b∉ch->s.heap.get? b=some o->∃D,h'.get? b=some D)
(g:∀b xs,H b=some (.tup xs)->M b=some (.tup xs))(G:∀b o u,H b=some (.frz o u)->M b=some (.frz o u))(t:∀b ps,H b=some (.tbl ps)->∃F,M b=some (.tbl<|ps++F))
(ns:∀m,s.heap.Ns X.env.locals m->h'.Ns X.env.locals m)(Q:HOk X.prog X.w M h')(hg:AllBare g')(j:∀b xs o,b∉ch->H b=some (.tup xs)->s.heap.get? b=some o->h'.get? b=some o):
 Qt X Z O M { s with heap:=h',gens:=g',drawn:=d',toks:=t' }:=by
 have E:∀b o,X.s₀.heap.get? b=some o->b≠X.env.locals:=λb o e=>Xq (XM (Xj e) I.ok.above)
 have h:∀b o,X.s₀.heap.get? b=some o->b∉X.ex->b∉ch:=λb o e a R=>by
  rcases(A b R).1 with z|z
  .exact a z
  .exact Xr (XM (Xj e) z) (Wb _)
 have B:∀x c,X.env.cells.lookup x=some c->∀v,s.heap.IsCell c v->h'.IsCell c v:=λx c e v ⟨o,W,S⟩=>by
  have w:=λz=>(A c z).2.2.1 x c e rfl
  by_cases Y:c∈X.fs
  .obtain⟨N,q⟩:=K c o (I.cne x c e) Y w W (I.freeC x c e);exact⟨_,q,S⟩
  .exact⟨o,y c o (I.cne x c e) Y w W<|I.freeC x c e,S⟩
 refine⟨I.ok,I.os,hg,⟨λb o e n R a=>?_,λb o e n R a=>?_,λb o e n a=>?_,λb o e a=>?_,λb xs e=>g b xs<|I.base.tups b xs e,λb o xs e=>G b o xs<|I.base.frzs b o xs e,λb xs o q e a=>j b xs o (h b o e a) (I.base.tups b xs q)<|I.base.tupo b xs o q e a,λb ps e=>?_⟩,?_,λx c e=>?_,?_,λx c e=>?_,λp U=>?_,Q,I.len⟩
 .exact y b o (E b o e) R (h b o e a) (I.base.keep b o e n R a) (I.base.free b o e n a)
 .obtain⟨N,C⟩:=I.base.slot b o e n R a;obtain⟨L,J⟩:=K b _ (E b o e) R (h b o e a) C (I.base.free b o e n a);exact⟨L,J⟩
 .obtain⟨D,C⟩:=I.base.there b o e a;exact f b D (h b o e a) C (I.base.free b o e n a)
 .obtain⟨D,C⟩:=I.base.there b o e a;exact P b D (h b o e a) C
 .obtain⟨m1,C⟩:=I.base.tbls b ps e;obtain⟨m2,J⟩:=t b _ C;exact⟨m1++m2,by rw[J,Array.append_assoc]⟩
 .obtain⟨m,hn,hl⟩:=I.loc;refine⟨m,ns m hn,λi x v C J e3=>?_⟩;obtain⟨u,r,l⟩:=hl i x v C J e3;refine⟨u,r,?_⟩;rcases l with l|⟨k,c,e,z⟩
  .exact .inl l
  .exact .inr ⟨k,c,e,B x c e _ z⟩
 .obtain⟨v,z⟩:=I.cell x c e;exact⟨v,B x c e v z⟩
 .obtain⟨m,⟨o,_,_,W,_⟩,_⟩:=I.loc;exact f _ o (λz=>(A _ z).2.1 rfl) W I.free
 .obtain⟨v,o,W,S⟩:=I.cell x c e;exact f c o (λz=>(A c z).2.2.1 x c e rfl) W (I.freeC x c e)
 .obtain⟨e,n,T,nf,d⟩:=I.pin p U;have w:=λz=>(A p.1 z).2.2.2 p U rfl
  exact⟨y p.1 p.2 T nf w e n,f p.1 p.2 w e n,T,nf,d⟩
def Qt.un(I:Qt X Z O H s)(u:Un X.fs [] H M s.heap h')(f:HOk X.prog X.w M h'):Qt X Z O M { s with heap:=h',toks:=t' }:=by
 obtain⟨m,⟨o,es,P,v,r⟩,_⟩:=id I.loc;obtain⟨B,A⟩:=u.any v I.free (by simp);exact I.step (ch:=[]) (by rintro _ ⟨⟩) (λb o _ h _ e n=>u.keep b o e n h<|by simp) (λb o _ h _ e n=>u.slot b o e n h<|by simp) (λb o _ e n=>u.free b o e n<|by simp) (λb o _ e=>u.there b o e<|by simp) u.tups u.frzs u.tbls (λK y=>by
  obtain⟨C,i,p,a,w⟩:=y;rw[v]at a;cases a;exact⟨_,i,p,A,w⟩) f I.bare (λb xs o _ q e=>u.tupo b xs o q e<|by simp)
def Qt.call(I:Qt X Z O H s)(u:Un (frs X.stack) ch H M s.heap h')(i:HOk X.prog X.w M h')(K:AllBare g')
(h:∀b∈ch,(b∈X.ex\/X.s₀.heap.objs.size<=b)/\b≠X.env.locals/\(∀x c,X.env.cells.lookup x=some c->c≠b)/\∀p∈X.pn++Z,p.1≠b):
 Qt X Z O M { s with heap:=h',gens:=g',drawn:=d',toks:=t' }:=by
 obtain⟨m,⟨o,es,g,A,r⟩,_⟩:=id I.loc;obtain⟨R,v⟩:=u.any A I.free λz=>(h _ z).2.1 rfl
 exact I.step h (λb o v P a e n=>u.keep b o e n (λz=>(Xe.mp<|I.stkSub b z).elim v P) a) (λb o _ _ a e n=>u.any e n a) (λb o a e n=>u.free b o e n a) (λb o a e=>u.there b o e a) u.tups u.frzs u.tbls (λd C=>by
  obtain⟨W,w,y,f,B⟩:=C;rw[A]at f;cases f;exact⟨_,w,y,v,B⟩) i K (λb xs o a q e=>u.tupo b xs o q e a)
def Qt.turned(I:Qt X Z O H s)(k:∀b o,b≠it->s.heap.get? b=some o->h'.get? b=some o)(hn:H it=none)(h:it≠X.env.locals)
(C:it∈X.ex\/X.s₀.heap.objs.size<=it)(B:∀x c,X.env.cells.lookup x=some c->c≠it)(A:∀p∈X.pn++Z,p.1≠it):Qt X Z O H { s with heap:=h',toks:=t' }:=by
 have f:∀b u,H b=some u->b≠it:=λb u e z=>by rw[z,hn]at e;cases e
 refine I.step (ch:=[it]) (λb y=>?_) (λb o _ _ a e _=>k b o (λz=>a<|by simp[z]) e) (λb o _ _ a e _=>⟨o.slots,k b o (λz=>a<|by simp[z]) e⟩) (λ_ _ _ _ n=>n)
  (λb o a e=>⟨o,k b o (λz=>a<|by simp[z]) e⟩) (λ_ _ e=>e) (λ_ _ _ e=>e) (λb ps e=>⟨#[],by rw[e];simp⟩) (λm w=>?_) (λb u e=>?_) I.bare (λb _ o a _ e=>k b o (λz=>a<|by simp[z]) e)
 .have e:=by simpa using y
  subst e;exact⟨C,h,B,A⟩
 .obtain⟨o,es,K,i,r⟩:=w;exact⟨o,es,K,k _ o (Ne.symm h) i,r⟩
 .refine(I.hok b u e).stay (λc v a q=>k c v ?_ q) (λ_ q=>q) λ_ _ q=>q
  rcases a with z|z
  .rw[z];exact f b u e
  .exact f c _ z
def Qt.tok(I:Qt X Z O H s)(t:Nat):Qt X Z O H { s with toks:=t }:=I.un Un.refl I.hok
def Qt.kept(I:Qt X Z O H s)(k:∀b u,s.heap.get? b=some u->h'.get? b=some u):Qt X Z O H { s with heap:=h',toks:=t' }:=I.un (Un.kept k) (I.hok.kept k)
def Qt.laid{o:HO}{t':Nat}(I:Qt X Z O H s)(k:∀b u,s.heap.get? b=some u->h'.get? b=some u)(h:s.heap.objs.size<=a)(f:Vj X.prog X.w (upd H a o) h' a o):
 Qt X Z O (upd H a o) { s with heap:=h',toks:=t' }:=I.un (Un.laid k h<|I.hok.fresh h) (I.hok.laid k h f)
def Qt.write(I:Qt X Z O H s)(h:Mut (H x))(i:e=x\/H e=some (.own x))(k:∀b u,b≠e->s.heap.get? b=some u->h'.get? b=some u)(a:∃u,h'.get? e=some u)
(f:Vj X.prog X.w (upd H x o) h' x o):Qt X Z O (upd H x o) { s with heap:=h',toks:=t' }:=I.un (Un.write h i k a) (I.hok.write h i k a f)
def Qt.weak(I:Qt X Z O H s)(a:σ'.length=O.length)(w:∀(i:Nat) v,σ'[i]?=some (some v)->O[i]?=some (some v)):Qt X Z σ' H s:=
 ⟨I.ok,I.os,I.bare,I.base,let ⟨m,hn,hl'⟩:=I.loc;⟨m,hn,λi x v p h f=>hl' i x v p (w i v h) f⟩,I.cell,I.free,I.freeC,I.pin,I.hok,a.trans I.len⟩
def Qt.pins_of(I:Qt X Z O H s)(h:∀p∈pins',s.heap.get? p.1=some p.2/\H p.1=none/\p.1≠X.env.locals/\p.1∉X.fs/\∀v,p.2.data≠.cell v):Qt X pins' O H s:=
 ⟨I.ok,I.os,I.bare,I.base,I.loc,I.cell,I.free,I.freeC,λp a=>(XA.mp a).elim (λz=>I.pin p<|Jz _ z) (h p),I.hok,I.len⟩
def ZuR{N:Qh}(f:N.Nodup)(a:N[i]?=some x)(b:N[j]?=some x):i=j:=by
 obtain⟨q,m⟩:=Xh.mp a;obtain⟨p,h⟩:=Xh.mp b;exact(List.getElem_inj f).mp (m.trans h.symm)
def Qt.poke{m:Str->Qf}(I:Qt X Z O H s)(E:X.N.Nodup)(M:X.N[i]?=some x)(h:Heap.SameBut a s.heap h')(ab:X.s₀.heap.objs.size<=a)(Q:H a=none)
(P:a=X.env.locals\/(∃v,s.heap.IsCell a v)/\∃w,h'.IsCell a w)(hn:h'.Ns X.env.locals m')(D:∀(i:Nat) (x:Str) (v:V),X.N[i]?=some x->O[i]?=some (some v)->Vis X.env.scope x->∃u,QP v u/\BG X.env s.heap m x u)
(g:∀v,ov=some v->∃u,QP v u/\BG X.env h' m' x u)(t:∀y u,y≠x->BG X.env s.heap m y u->BG X.env h' m' y u):Qt X Z (O.set i ov) H { s with heap:=h',toks:=tk }:=by
 have k:∀{b o o'},X.s₀.heap.get? b=some o->s.heap.get? b=some o'->h'.get? b=some o':=λe q=>(h.2 _<|Xq<|XM (Xj e) ab).trans q;refine⟨I.ok,I.os,I.bare,⟨λb o e n C f=>k e<|I.base.keep b o e n C f,λb o e n C f=>(I.base.slot b o e n C f).imp λ_=>k e,I.base.free,λb o e f=>(I.base.there b o e f).imp λ_=>k e,I.base.tups,I.base.frzs,λb xs o q e f=>k e<|I.base.tupo b xs o q e f,I.base.tbls⟩,⟨m',hn,λj y v A R F=>?_⟩,λy c e=>?_,I.free,I.freeC,λp l=>?_,λb W e=>(I.hok b W e).stay (λc L N q=>(h.2 c<|by rintro rfl;grind).trans q) (λ_ q=>q) λ_ _ q=>q,by simpa using I.len⟩
 .by_cases B:j=i
  .subst B;rw[M]at A;cases A;exact g _ (by grind)
  .rw[U7<|Ne.symm B]at R;obtain⟨u,r,q⟩:=D j y v A R F;exact⟨u,r,t y u (λe=>B<|ZuR E A<|e▸M) q⟩
 .by_cases z:c=a
  .subst z;exact P.elim (λz=>Xr z<|I.cne y c e) And.right
  .exact(I.cell y c e).imp λ_ q=>q.sameBut h z
 .obtain⟨e,n,K,nf,d⟩:=I.pin p l;refine⟨(h.2 p.1 λq=>?_).trans e,n,K,nf,d⟩;rcases P with z|⟨⟨v,o,G,J⟩,_⟩
  .exact K (q.trans z)
  .rw[q,G]at e;cases e;exact d _ J
def Cd(I:Qt X Z O H s)(d:X.N.Nodup)(b:X.N[i]?=some x)(j:Loc X.env.scope x)(r:QP v u)
(h:∀C,Qt X Z (O.set i<|some v) H C->(∃a,Heap.SameBut a s.heap C.heap/\(a=X.env.locals\/X.env.cells.lookup x=some a))->Q () C)(l:X.fn x=true\/X.env.scope.names.lookup x=some .local:=by first|exact .inl rfl|exact .inr rfl|assumption):wpAny H' A (storeName X.env x u) Q H2 s:=by
 obtain⟨m,R,W⟩:=id I.loc;rcases j with p|p
 .refine wpAny_storeName_local p R (λh' M f=>?_) (by rw[I.ok.kind];rfl);refine h _ (I.poke (ov:=some v) d b f I.ok.above I.free (.inl rfl) M W (λ_ e=>by cases e;exact⟨u,r,.inl ⟨p,by simp⟩⟩) λy u K q=>q.imp ?_<|by rintro⟨k,c,e,z⟩;exact⟨k,c,e,z.sameBut f<|I.cne y c e⟩) ⟨_,f,.inl rfl⟩;rintro⟨k,e⟩;exact⟨k,by simp[K,e]⟩
 .have P:X.fn x=true:=l.elim id λz=>by rw[z]at p;cases p
  obtain⟨c,w⟩:=I.ok.has x (.inl p);obtain⟨o,z⟩:=I.cell x c w;refine wpAny_storeName_cell I.ok.kind p w z λh' B f=>?_;refine h { s with heap:=h' } (I.poke (ov:=some v) d b f (I.ok.cab x c P w) (I.freeC x c w) (.inr ⟨⟨_,z⟩,_,B⟩) (R.sameBut f<|Ne.symm<|I.cne x c w) W (λ_ e=>by cases e;exact⟨u,r,.inr ⟨.inl p,c,w,B⟩⟩) λy u K q=>q.imp id ?_) ⟨c,f,.inr w⟩;rintro⟨k,n,e,g⟩;exact⟨k,n,e,g.sameBut f λq=>K<|I.ok.inj _ _ _ (q▸e) w⟩
def N9(I:Qt X Z O H s)(q:X.N.Nodup)(m:X.N[i]?=some x)(f:Loc X.env.scope x)(r:QP v u)
(h:∀a,Qt X Z (O.set i<|some v) H a->Q () a)(p:X.fn x=true\/X.env.scope.names.lookup x=some .local:=by first|exact .inl rfl|exact .inr rfl|assumption):wpAny H' A (storeName X.env x u) Q H2 s:=
 Cd I q m f r (λa w _=>h a w) p
def Qt.call'(I:Qt X Z O H s)(h:s'.os=s.os)(u:Un (frs X.stack) ch H M s.heap s'.heap)(a:HOk X.prog X.w M s'.heap)(i:AllBare s'.gens)
(f:∀b∈ch,(b∈X.ex\/X.s₀.heap.objs.size<=b)/\b≠X.env.locals/\(∀x c,X.env.cells.lookup x=some c->c≠b)/\∀p∈X.pn++Z,p.1≠b):Qt X Z O M s':=by
 obtain⟨h',r,v,m,q⟩:=s';have e:=h;subst e;exact I.call u a i f
end
abbrev XK:=Value->Qj->Hp->Prop
abbrev St:=List (Option V)
abbrev VK:=V->Hp->Prop
abbrev TE:=St->Hp->VK->Prop
abbrev TT:=St->Hp->(Bool->Hp->Prop)->Prop
abbrev TA:=St->Hp->(List V->Hp->Prop)->Prop
structure Ends where
 nx:St->Hp->Prop
 rt:VK
 bk:St->Hp->Prop:=λ_ _=>False
 ct:St->Hp->Prop:=λ_ _=>False
abbrev TS:=Ends->St->Hp->Prop
def EP(X:Cx)(Z:Qc)(O:St)(Q:VK)(u:Value)(a:Shared):Prop := ∃v M,Qt X Z O M a/\QP v u/\Q v M
def TP(X:Cx)(Z:Qc)(O:St)(Q:Bool->Hp->Prop)(b:Bool)(a:Shared):Prop := ∃M,Qt X Z O M a/\Q b M
def AP(X:Cx)(Z:Qc)(O:St)(Q:List V->Hp->Prop)(us:Qe)(f:Shared):Prop := ∃a M,Qt X Z O M f/\QR a us/\Q a M
def SP(X:Cx)(Z:Qc)(h:Ends)(f:Flow)(i:Shared):Prop:=
 match f with
 |.next=>∃a M,Qt X Z a M i/\h.nx a M
 |.brk=>∃a M,Qt X Z a M i/\h.bk a M
 |.cont=>∃a M,Qt X Z a M i/\h.ct a M
 |.ret u=>∃v a M,Qt X Z a M i/\QP v u/\h.rt v M
def PE(X:Cx)(e:Expr)(t:TE):Prop:=
 ∀(Z:Qc) (s:Shared) (O:St) (H:Hp) (Q:VK),Qt X Z O H s->t O H Q->wpAny (model X.prog X.w) X.A (eval e X.env) (EP X Z O Q) X.xe s
def PT(X:Cx)(e:Expr)(t:TT):Prop:=
 ∀(Z:Qc) (s:Shared) (O:St) (H:Hp) (Q:Bool->Hp->Prop),Qt X Z O H s->t O H Q->wpAny (model X.prog X.w) X.A (isTrue e X.env<|eval e X.env) (TP X Z O Q) X.xe s
def PW(X:Cx)(e:Expr)(t:TT):Prop:=
 ∀(a:Sem Value) (Z:Qc) (s:Shared) (O:St) (H:Hp) (Q:Bool->Hp->Prop),Qt X Z O H s->t O H Q->wpAny (model X.prog X.w) X.A (isTrue e X.env a) (TP X Z O Q) X.xe s
def PW.pt(h:PW X e t):PT X e t:=h _
def PA(X:Cx)(es:Qi)(t:TA):Prop:=
 ∀(a:Pos) (Z:Qc) (s:Shared) (O:St) (H:Hp) (Q:List V->Hp->Prop),Qt X Z O H s->t O H Q->wpAny (model X.prog X.w) X.A (spliced<|backTo a<|starEach es X.env) (AP X Z O Q) X.xe s
def PS(X:Cx)(st:Stmt)(t:TS):Prop:=
 ∀(Z:Qc) (s:Shared) (O:St) (H:Hp) (a:Ends),Qt X Z O H s->t a O H->wpAny (model X.prog X.w) X.A (exec st X.env) (SP X Z a) X.xe s
def PSs(X:Cx)(st:List Stmt)(t:TS):Prop:=
 ∀(Z:Qc) (s:Shared) (O:St) (H:Hp) (a:Ends),Qt X Z O H s->t a O H->wpAny (model X.prog X.w) X.A (execs st X.env) (SP X Z a) X.xe s
def QE{f:Type}{t:Sem f}{Q i:f->Shared->Prop}(h:wpAny H' A t Q H2 s)(m:∀a s,Q a s->i a s):wpAny H' A t i H2 s:=wpAny_mono h m λ_ _ x=>x
end L2
variable {X:L2.Cx}{D tb tc td te tv tx:L2.TE}{tA tB':L2.TT}{O:L2.St}{th u:L2.TS}
namespace L2
section
def QY(i:Nat):TE:=λO H Q=>∃v,O[i]?=some (some v)/\Q v H
def tC(v:V):TE:=λ_ H Q=>Q v H
def Ts{x:Str}{q:Pos}(P:X.N[i]?=some x)(B:Vis X.env.scope x)(w:(x==("__debug__" : Str))=false:=by decide)(y:(x==("__classdict__" : Str))=false:=by decide):PE X (.Name x q) (QY i):=by
 intro Z s O H Q I h;obtain⟨v,e,h⟩:=h;obtain⟨m,C,K⟩:=I.loc;obtain⟨u,r,l⟩:=K i x v P e B;have p:EP X Z O Q u s:=⟨v,H,I,r,h⟩
 rcases l with ⟨f,D⟩|⟨f,c,A,a⟩
 .exact wpAny_Name (wpAny_loadName_local I.ok.kind f C D p) w
 .rcases f with f|f
  .exact wpAny_Name (wpAny_loadName_cell I.ok.kind f A a p) w
  .exact wpAny_Name (wpAny_loadName_free I.ok.kind f A a p y) w
def Qw{i j pos}:PE X (.Constant (.int i) j pos) (tC<|.int i):=λ_ _ _ H _ I h=>wpAny_Constant_int ⟨.int i,H,I.tok _,⟨_,rfl⟩,h⟩
def Y2{b j pos}:PE X (.Constant (.bool b) j pos) (tC<|.bl b):=λ_ _ _ H _ I h=>Constant_bool ⟨.bl b,H,I,rfl,h⟩
def Gf{j pos}:PE X (.Constant .none j pos) (tC .non):=λ_ _ _ H _ I h=>Constant_none ⟨.non,H,I,rfl,h⟩
def Vu{x j pos}:PE X (.Constant (.str x) j pos) (tC<|.str x):=λ_ _ _ H _ I h=>Calls.Constant_str ⟨.str x,H,I.tok _,⟨_,rfl⟩,h⟩
def Gl(X:Cx)(x:Str):Prop:=X.env.kindOf x=some .globalImplicit
def Gj{H:Hp}{x:Str}{u:Value}{a:Pos}{Q:Qb}(I:Qt X Z O H s)(i:Gl X x)(f:X.mg x=some u)(h:Q u s)
(m:(x==("__debug__" : Str))=false:=by decide):wpAny (model X.prog X.w) X.A (eval (.Name x a) X.env) Q H2 s:=
 Calls.Name_function_global I.ok.kind i (Calls.loadGlobal_global (by rw[I.ok.glob];exact I.mod.glob.keeps I.bk) f h) m
def JE{H:Hp}{x:Str}{u:Value}{a:Pos}{Q:Qb}(I:Qt X Z O H s)(m:Gl X x)(i:X.mg x=none)(f:bootBuiltins x=some u)(h:Q u s)
(hn:x ≠ "__name__" := by decide)(p:(x==("__debug__" : Str))=false:=by decide):wpAny (model X.prog X.w) X.A (eval (.Name x a) X.env) Q H2 s:=by
 obtain⟨v,r,q⟩:=I.mod.blt;exact Calls.Name_function_global I.ok.kind m (Calls.loadGlobal_builtin (by rw[I.ok.glob];exact I.mod.glob.keeps I.bk) i (by rw[I.ok.blt];exact r.keeps I.bk) ((q x hn).trans f) h) p
def Mm  {u:Value}(f:Gl X x)(a:X.mg x=some u)(r:QP v u)(i:(x==("__debug__" : Str))=false:=by decide):PE X (.Name x pos) (tC v):=
 λ_ _ _ H _ I h=>Gj I f a ⟨v,H,I,r,h⟩ i
def JJ{x:Str}{u:Value}{a:Pos}(m:Gl X x)(i:X.mg x=none)(f:bootBuiltins x=some u)(r:QP v u)(hn:x ≠ "__name__" := by decide)(p:(x==("__debug__" : Str))=false:=by decide):PE X (.Name x a) (tC v):=
 λ_ _ _ H _ I h=>JE I m i f ⟨v,H,I,r,h⟩ hn p
variable {a b:Expr}{pos:Pos}
def PC(X:Cx)(op:CmpOp)(a b:Expr)(t:TE):Prop:=
 ∀(Z:Qc) (s:Shared) (O:St) (H:Hp) (Q:VK),Qt X Z O H s->t O H Q->
  wpAny (model X.prog X.w) X.A (eval a X.env) (λv h=>wpAny (model X.prog X.w) X.A (eval b X.env) (λu f=>wpAny (model X.prog X.w) X.A (compareOp op v u) (EP X Z O Q) X.xe f) X.xe h) X.xe s
def LA(b:Expr)(h:op≠.In)(a:op≠.NotIn):behindInMarks op b=false:=by
 have i:(op==CmpOp.In)=false:=by cases op<;>first|rfl|exact Xr rfl h
 have f:(op==CmpOp.NotIn)=false:=by cases op<;>first|rfl|exact Xr rfl a
 cases b<;>simp[behindInMarks,i,f]
def Av(D:TE):TE:=λO H Q=>D O H λx L=>Q (.bl<|decide (x=.non)) L
def Po(D:TE):TE:=λO H Q=>D O H λx L=>Q (.bl<|!decide (x=.non)) L
def QP.none_iff{v:Value}(r:QP x v):(v==Value.none)=decide (x=.non):=by
 cases x with
 |non=>cases r;rfl
 |bl _=>cases r;rfl
 |int _=>obtain⟨t,rfl⟩:=r;rfl
 |str _=>obtain⟨t,rfl⟩:=r;rfl
 |byt _=>obtain⟨t,rfl⟩:=r;rfl
 |flt _=>obtain⟨t,rfl⟩:=r;rfl
 |ref _=>cases r;rfl
 |ty _=>cases r;rfl
def GS{j pos'}(i:PE X a D):PC X .Is a (.Constant .none j pos') (Av D):=by
 intro Z s O H Q I h;refine QE (i Z s O H _ I h) ?_;rintro v p ⟨x,L,m,b,f⟩;exact Constant_none (is_none_gen ⟨.bl _,L,m,by rw[b.none_iff];rfl,f⟩)
def DF{j pos'}(i:PE X a D):PC X .IsNot a (.Constant .none j pos') (Po D):=by
 intro Z s O H Q I h;refine QE (i Z s O H _ I h) ?_;rintro v p ⟨x,L,m,b,f⟩;exact Constant_none (isnot_none_gen ⟨.bl _,L,m,by rw[b.none_iff];rfl,f⟩)
def tB(t:TE):TT:=λO H Q=>t O H λx L=>∃c,x=.bl c/\Q c L
def Dp(h:PC X op a b t)(i:behindInMarks op b=false:=by first|exact LA _ (by decide) (by decide)|rfl):PE X (.Compare a [op] [b] pos) t:=λZ s O H Q I f=>wpAny_Compare1 (h Z s O H Q I f) i
def Jg(h:PC X op a b t)(f:behindInMarks op b=false:=by first|exact LA _ (by decide) (by decide)|rfl):PT X (.Compare a [op] [b] pos) (tB t):=by
 intro Z s O H Q I p;refine wpAny_isTrue_Compare1 (QE (h Z s O H _ I p) λv B f=>QE f λu A r=>QE r ?_) f;rintro c y ⟨x,L,w,i,m⟩;obtain⟨d,rfl,q⟩:=m;cases i;exact wpAny_truthy_bool ⟨L,w,q⟩
def V4(h:PE X e t)(m:∀a,isTrue e X.env a=(do let v <- a;standAt e.pos;holding [v] (truthy v)):=by intro _;rfl):PT X e (tB t):=by
 intro Z s O H Q I i;refine isTrue_plain (QE (h Z s O H _ I i) ?_) (m _);rintro v r ⟨x,L,p,b,f⟩;obtain⟨d,rfl,q⟩:=f;cases b;exact wpAny_truthy_bool ⟨L,p,q⟩
variable {rest:Qi}
def Af(t u:TT):TT:=λO H Q=>t O H λc L=>if c=true then u O L Q else Q false L
def tOr(t u:TT):TT:=λO H Q=>t O H λc L=>if c=true then Q true L else u O L Q
def Am(t:TT):TT:=λO H Q=>t O H λc L=>Q (!c) L
def DC(b:PT X a tA):PW X (.BoolOp .And [a] pos) tA:=by
 intro f Z s O H Q I h;refine isTrue_and (QE (b Z s O H Q I h) λc i e=>?_);cases c with
 |true=>exact isTrue_and_nil e
 |false=>exact e
def Jo(b:PT X a tA):PW X (.BoolOp .Or [a] pos) tA:=by
 intro f Z s O H Q I h;refine isTrue_or (QE (b Z s O H Q I h) λc i e=>?_);cases c with
 |false=>exact isTrue_or_nil e
 |true=>exact e
def Dk(r:PT X a tA)(q:PW X (.BoolOp .And (b::rest) pos) tB'):PW X (.BoolOp .And (a::b::rest) pos) (Af tA tB'):=by
 intro m Z s O H Q I h;refine isTrue_and (QE (r Z s O H _ I h) ?_);rintro c p ⟨L,i,f⟩;cases c with
 |true=>exact q m Z p O L Q i f
 |false=>exact⟨L,i,f⟩
def WB(r:PT X a tA)(q:PW X (.BoolOp .Or (b::rest) pos) tB'):PW X (.BoolOp .Or (a::b::rest) pos) (tOr tA tB'):=by
 intro m Z s O H Q I h;refine isTrue_or (QE (r Z s O H _ I h) ?_);rintro c p ⟨L,i,f⟩;cases c with
 |true=>exact⟨L,i,f⟩
 |false=>exact q m Z p O L Q i f
def Yu(b:PT X a tA):PT X (.UnaryOp .Not a pos) (Am tA):=by
 intro Z s O H Q I h;exact isTrue_not (b Z s O H _ I h)
def PF(D tb:TE):TE:=λO H Q=>D O H λx L=>∃c,x=.bl c/\if c=true then tb O L Q else Q (.bl false) L
def A5(D tb:TE):TE:=λO H Q=>D O H λx L=>∃c,x=.bl c/\if c=true then Q (.bl true) L else tb O L Q
def Pk(D:TE):TE:=λO H Q=>D O H λx L=>∃c,x=.bl c/\Q (.bl<|!c) L
def Y4{op}(h:PE X a t):PE X (.BoolOp op [a] pos) t:=λZ s O H Q I b=>BoolOp_one (h Z s O H Q I b)
def Ys(r:PE X a D)(q:PE X (.BoolOp .And (b::rest) pos) tb):PE X (.BoolOp .And (a::b::rest) pos) (PF D tb):=by
 intro Z s O H Q I h;refine BoolOp_and (QE (r Z s O H _ I h) ?_);rintro v m ⟨x,L,i,p,f⟩;obtain⟨c,rfl,f⟩:=f;cases p;refine wpAny_truthy_bool ?_;cases c with
 |true=>exact q Z m O L Q i f
 |false=>exact⟨.bl false,L,i,rfl,f⟩
def Kn(r:PE X a D)(q:PE X (.BoolOp .Or (b::rest) pos) tb):PE X (.BoolOp .Or (a::b::rest) pos) (A5 D tb):=by
 intro Z s O H Q I h;refine BoolOp_or (QE (r Z s O H _ I h) ?_);rintro v m ⟨x,L,i,p,f⟩;obtain⟨c,rfl,f⟩:=f;cases p;refine wpAny_truthy_bool ?_;cases c with
 |false=>exact q Z m O L Q i f
 |true=>exact⟨.bl true,L,i,rfl,f⟩
def KL(i:PE X a D):PE X (.UnaryOp .Not a pos) (Pk D):=by
 intro Z s O H Q I h;refine UnaryOp_ (QE (i Z s O H _ I h) ?_);rintro v p ⟨x,L,m,f,b⟩;obtain⟨c,rfl,b⟩:=b;cases f;exact not_of (wpAny_truthy_bool ⟨.bl<|!c,L,m,rfl,b⟩)
def tIf(t:TT)(D tb:TE):TE:=λO H Q=>t O H λc L=>if c=true then D O L Q else tb O L Q
def Zt7(p:PT X c tA)(r:PE X a D)(q:PE X b tb):PE X (.IfExp c a b pos) (tIf tA D tb):=by
 intro Z s O H Q I h;refine wpAny_IfExp (QE (p Z s O H _ I h) ?_);rintro d f ⟨L,m,i⟩;cases d with
 |true=>exact r Z f O L Q m i
 |false=>exact q Z f O L Q m i
end
end L2
namespace L2
def SqL(K:W.Frag)(H:Hp)(a:Addr)(xs:List V):Prop:=
 Rd H a (.lst xs) \/
  ∃(o:Obj) (f:Array Value) (n:Nat),K.lookup a=some o/\o.cls=.type "list" /\ o.dict=none/\o.data=.seq f n/\f.size<=sizeLine/\QR xs f.toList
def SqT(K:W.Frag)(H:Hp)(a:Addr)(xs:List V):Prop:=
 Rd H a (.tup xs) \/
  ∃(o:Obj) (f:Array Value) (n:Nat),K.lookup a=some o/\o.cls=.type "tuple" /\ o.data=.seq f n/\f.size<=sizeLine/\QR xs f.toList
def Z1v:Value->Option V
 |.none=>some .non
 |.bool b=>some (.bl b)
 |.int i _=>some (.int i)
 |.str x _=>some (.str x)
 |.bytes b _=>some (.byt b)
 |.float b _=>some (.flt b)
 |.ref a=>some (.ref a)
 |.type n=>some (.ty n)
 |_=>none
def QP.abs{u:Value}(r:QP x u):Z1v u=some x:=by
 cases x with
 |non=>cases r;rfl
 |bl _=>cases r;rfl
 |int _=>obtain⟨t,rfl⟩:=r;rfl
 |str _=>obtain⟨t,rfl⟩:=r;rfl
 |byt _=>obtain⟨t,rfl⟩:=r;rfl
 |flt _=>obtain⟨t,rfl⟩:=r;rfl
 |ref _=>cases r;rfl
 |ty _=>cases r;rfl
def QP.inj{u:Value}(r:QP x u)(q:QP y u):x=y:=Option.some.inj (r.abs.symm.trans q.abs)
theorem QR.inj:∀{xs ys:List V} {us:Qe},QR xs us->QR ys us->xs=ys
 |_,_,_,.nil,.nil=>rfl
 |_,_,_,.cons r t,.cons f a=>by rw[r.inj f,QR.inj t a]
section
variable {H:Hp}
def SqL.of(h:H a=some (.lst xs)):SqL K H a xs:=.inl (.inl h)
def SqT.of(h:H a=some (.tup xs)):SqT K H a xs:=.inl (.inl h)
def Qt.list(I:Qt X Z O H s)(h:SqL X.K H a xs):∃f:Qe,QR xs f/\PlainL s.heap a f.toArray/\xs.length<=sizeLine:=by
 rcases h with h|⟨o,f,n,m,q,p,i,u,r⟩
 .obtain⟨z,f,n,r,e⟩:=h.ok I.hok;exact⟨f,r,⟨_,n,e,rfl,rfl,rfl⟩,z⟩
 .refine⟨f.toList,r,⟨o,n,I.kIn a o m,q,p,by simpa using i⟩,?_⟩;have e:=r.length;simp_all
def Qt.tuple(I:Qt X Z O H s)(h:SqT X.K H a xs):∃f:Qe,QR xs f/\IsTup s.heap a f.toArray/\xs.length<=sizeLine:=by
 rcases h with h|⟨o,f,n,m,q,i,u,r⟩
 .obtain⟨z,f,r,p⟩:=h.ok I.hok;exact⟨f,r,p,z⟩
 .refine⟨f.toList,r,⟨o,I.kIn a o m,q,n,by simpa using i⟩,?_⟩;have e:=r.length;simp only[Array.length_toList]at e;lia
def Qt.list_inj(I:Qt X Z O H s)(h:SqL X.K H a xs)(h':SqL X.K H a ys):xs=ys:=by
 obtain⟨q,r,⟨o,n,e,_,_,d⟩,_⟩:=I.list h;obtain⟨f,p,⟨v,w,i,_,_,m⟩,_⟩:=I.list h';rw[e]at i;cases i;rw[d]at m;injection m with u _;have:=by simpa using XS Array.toList u
 subst this;exact r.inj p
def Qt.tuple_inj(I:Qt X Z O H s)(h:SqT X.K H a xs)(h':SqT X.K H a ys):xs=ys:=by
 obtain⟨q,r,⟨o,e,_,n,d⟩,_⟩:=I.tuple h;obtain⟨f,p,⟨v,i,_,w,m⟩,_⟩:=I.tuple h';rw[e]at i;cases i;rw[d]at m;injection m with u _;have:=by simpa using XS Array.toList u
 subst this;exact r.inj p
end
abbrev Cx.wish(X:Cx)(H2:Qb):Cx:={ X with xe:=H2 }
abbrev Cx.nox(X:Cx):Cx:=X.wish λ_ _=>False
def Cx.Ok.wish(a:X.Ok)(H2:Qb):(X.wish H2).Ok:=
 ⟨a.mod,a.kind,a.glob,a.blt,a.above,a.inj,a.has,a.cab,a.hd,a.frames,a.stk,a.exf,a.bs,a.bsz,a.noex,a.exfs,a.funs,a.frf⟩
def Cx.Ok.unwish(a:(X.wish H2).Ok):X.Ok:=
 ⟨a.mod,a.kind,a.glob,a.blt,a.above,a.inj,a.has,a.cab,a.hd,a.frames,a.stk,a.exf,a.bs,a.bsz,a.noex,a.exfs,a.funs,a.frf⟩
section
variable {H:Hp}
def Qt.wish(I:Qt X Z O H s)(H2:Qb):Qt (X.wish H2) Z O H s:=⟨I.ok.wish H2,I.os,I.bare,I.base,I.loc,I.cell,I.free,I.freeC,I.pin,I.hok,I.len⟩
def Qt.unwish(I:Qt (X.wish H2) Z O H s):Qt X Z O H s:=⟨I.ok.unwish,I.os,I.bare,I.base,I.loc,I.cell,I.free,I.freeC,I.pin,I.hok,I.len⟩
def SP.unwish{f:Flow}(h:SP (X.wish H2) Z ta f s'):SP X Z ta f s':=by
 cases f with
 |next=>obtain⟨a,M,I,q⟩:=h;exact⟨a,M,I.unwish,q⟩
 |brk=>obtain⟨a,M,I,q⟩:=h;exact⟨a,M,I.unwish,q⟩
 |cont=>obtain⟨a,M,I,q⟩:=h;exact⟨a,M,I.unwish,q⟩
 |ret u=>obtain⟨v,a,M,I,r,q⟩:=h;exact⟨v,a,M,I.unwish,r,q⟩
def PSs.nox{st:List Stmt}(h:PSs X.nox st t):PSs X st t:=λZ s O H a I f=>
 wpAny_mono (h Z s O H a (I.wish _) f) (λ_ _ q=>q.unwish) λ_ _ z=>False.elim z
end
section
variable {st:Stmt}{rest:List Stmt}{t:TS}{e:Expr}{pos:Pos}
def Pt:TS:=λa O H=>a.nx O H
def G8(t u:TS):TS:=λa O H=>t { a with nx:=u a } O H
def Zx:PSs X [] Pt:=λ_ _ O H _ I h=>wpAny_execs_nil ⟨O,H,I,h⟩
def Qz(p:PS X st t)(m:PSs X rest u):PSs X (st::rest) (G8 t u):=by
 intro Z s O H e I h;refine wpAny_execs_cons (QE (p Z s O H { e with nx:=u e } I h) λf i q=>?_);cases f with
 |next=>
  obtain⟨a,M,r,q⟩:=q;exact m Z i a M e r q
 |ret v=>exact q
 |brk=>exact q
 |cont=>exact q
def Q0(e:PS X st t):PSs X [st] t:=by
 intro Z s O H a I h;refine wpAny_execs_cons (QE (e Z s O H a I h) λf i q=>?_);cases f with
 |next=>exact wpAny_execs_nil q
 |ret v=>exact q
 |brk=>exact q
 |cont=>exact q
def Qt.quiet{H:Hp}(I:Qt X Z O H s):interactive X.env=false:=by simp[interactive,I.ok.kind]
def Je(te:TE):TS:=λa O H=>te O H λ_ L=>a.nx O L
def Vs(i:PE X e te)(f:swapsWith e none pos.line X.env=pure false:=by rfl):PS X (.Expr e pos) (Je te):=by
 intro Z s O H p I h;refine wpAny_Expr_any (QE (i Z s O H _ I h) ?_) I.quiet f;rintro v q ⟨x,L,m,r,a⟩;exact⟨O,L,m,a⟩
def GA(te:TE):TS:=λa O H=>te O H a.rt
def QH(i:PE X e te):PS X (.Return (some e) pos) (GA te):=by
 intro Z s O H p I h;refine wpAny_Return_some (QE (i Z s O H _ I h) ?_);rintro v q ⟨x,L,m,a,f⟩;exact⟨x,O,L,m,a,f⟩
def SJ(c:TT)(t u:TS):TS:=λa O H=>c O H λb L=>if b=true then t a O L else u a O L
def Zv{c:Expr}{a b:List Stmt}{tc:TT}(p:PT X c tc)(r:PSs X a t)(q:PSs X b u):PS X (.If c a b pos) (SJ tc t u):=by
 intro Z s O H e I h;refine wpAny_If (QE (p Z s O H _ I h) ?_);rintro d f ⟨L,m,i⟩;cases d with
 |true=>exact r Z f O L e m i
 |false=>exact q Z f O L e m i
def Eb:TS:=λ_ _ _=>False
def Bd:PS X st Eb:=λ_ _ _ _ _ _ h=>h.elim
end
abbrev TG:=V->St->Hp->(St->Hp->Prop)->Prop
abbrev TGs:=List V->St->Hp->(St->Hp->Prop)->Prop
def PG(X:Cx)(a:Expr)(t:TG):Prop:=
 ∀(Z:Qc) (s:Shared) (O:St) (H:Hp) (v:V) (u:Value) (Q:St->Hp->Prop),Qt X Z O H s->QP v u->t v O H Q->
  wpAny (model X.prog X.w) X.A (assign a X.env u) (λ_ h=>∃f M,Qt X Z f M h/\Q f M) X.xe s
def PGs(X:Cx)(ts:Qi)(t:TGs):Prop:=
 ∀(Z:Qc) (s:Shared) (O:St) (H:Hp) (f:List V) (h:Qe) (Q:St->Hp->Prop),Qt X Z O H s->QR f h->t f O H Q->
  wpAny (model X.prog X.w) X.A (assignInOrder ((assignEach ts X.env).map (·.2)) h) (λ_ i=>∃a M,Qt X Z a M i/\Q a M) X.xe s
abbrev SO:=V->V->V->Hp->(Hp->Prop)->Prop
def SU(X:Cx)(t:SO):Prop:=
 ∀(Z:Qc) (s:Shared) (O:St) (H:Hp) (o i v:V) (a f u:Value) (Q:Hp->Prop),Qt X Z O H s->QP o a->QP i f->QP v u->t o i v H Q->
  wpAny (model X.prog X.w) X.A (setItem a f u) (λ_ h=>∃M,Qt X Z O M h/\Q M) X.xe s
abbrev TIp:=V->V->Hp->VK->Prop
def PIp(X:Cx)(op:Operator)(t:TIp):Prop:=
 ∀(Z:Qc) (s:Shared) (O:St) (H:Hp) (x y:V) (v u:Value) (Q:VK),Qt X Z O H s->QP x v->QP y u->t x y H Q->
  wpAny (model X.prog X.w) X.A (inplaceOp op v u) (EP X Z O Q) X.xe s
section
variable {pos:Pos}
def WH(i:Nat):TG:=λv O H Q=>Q (O.set i<|some v) H
def QK(i:Nat)(p:X.N.Nodup)(f:X.N[i]?=some x:=by rfl)(a:Loc X.env.scope x:=by first|exact Or.inl rfl|exact Or.inr rfl)(m:X.fn x=true\/X.env.scope.names.lookup x=some .local:=by first|exact .inl rfl|exact .inr rfl|assumption):PG X (.Name x pos) (WH i):=by
 intro Z s O H v u Q I r h;exact wpAny_assign_Name (N9 I p f a r (λw q=>⟨_,H,q,h⟩) m)
def SV:TGs:=λa O H Q=>a=[]/\Q O H
def Kv(t:TG)(u:TGs):TGs:=λf O H Q=>∃v r,f=v::r/\t v O H λa M=>u r a M Q
def VU:PGs X [] SV:=by
 intro Z s O H a f Q I r h;obtain⟨e,h⟩:=h;exact assignInOrder_nil ⟨O,H,I,h⟩
def Zt{u:TGs}(w:PG X e t)(q:PGs X es u)
(p:(assignEach (e::es) X.env).map (·.2)=assign e X.env::(assignEach es X.env).map (·.2):=by rfl):PGs X (e::es) (Kv t u):=by
 intro Z s O H B D Q I r h;obtain⟨v,C,y,h⟩:=h;subst y;cases r with
 |cons r i=>
  rw[p];refine assignInOrder_cons (QE (w Z s O H _ _ _ I r h) ?_);rintro _ f ⟨a,L,A,m⟩;exact q Z f a L _ _ Q A i m
def Kj(K:W.Frag)(n:Nat)(t:TGs):TG:=λv O H Q=>∃a xs,v=.ref a/\SqT K H a xs/\xs.length=n/\t xs O H Q
def VM{k:Nat}{n:Nat}(B:X.calm=true)(h:PGs X es t)
(hn:(assignEach es X.env).length=n:=by rfl)(i:(assignEach es X.env).findIdx? (·.1)=none:=by rfl):PG X (.Tuple es k pos) (Kj X.K n t):=by
 intro Z s O H v u Q I r f;obtain⟨a,xs,C,y,A,f⟩:=f;subst C;cases r;obtain⟨p,m,w,K⟩:=I.tuple y;refine assign_Tuple_tuple (I.ok.hd B) w (by simp[hn,<- A,m.length]) i λh' q=>?_;have D:=I.kept (t':=s.toks) λb o e=>q b o (Xq<|Xj e) e;exact h Z _ O H xs _ Q D (by simpa using m) f
def A1(a f:TE)(t:SO):TG:=λv O H Q=>a O H λo L=>f O L λi E=>t o i v E λh=>Q O h
def Tz{i:Expr}(D:PE X o to)(K:PE X i ti)(C:SU X t)
(P:∀v,assign (.Subscript o i pos) X.env v=(do
  let ov <- holding [v] (eval o X.env)
  let a <- holding [v,ov] (eval i X.env)
  standAt pos
  holding [v,ov,a] (setItem ov a v)
  release [v,ov,a] []):=by intro _;rfl):PG X (.Subscript o i pos) (A1 to ti t):=by
 intro Z s O H v u Q I r h;rw[P];refine Xa (wpAny_holding<|QE (D Z s O H _ I h) ?_);rintro ov m ⟨x,L,b,q,B⟩;refine Xa (wpAny_holding<|QE (K Z m O L _ b B) ?_);rintro a f ⟨y,E,W,p,A⟩;refine Xa (wpAny_standAt<|Xa<|wpAny_holding<|QE (C Z f O E x y v ov a u _ W q p r A) ?_);rintro _ d ⟨c,R,w⟩;exact wpAny_release ⟨O,c,R,w⟩
def Ww(te:TE)(g:TG):TS:=λa O H=>te O H λx L=>g x O L a.nx
def Jj{g:TG}(r:PE X e te)(p:PG X tg g)(m:swapsWithSole [tg] e pos.line X.env=pure false:=by rfl)(hw:swappedStores [tg] e X.env=pure none:=by rfl)
(u:(assignEach [tg] X.env).map (·.2)=[assign tg X.env]:=by rfl):PS X (.Assign [tg] e pos) (Ww te g):=by
 intro Z s O H y I h;refine wpAny_Assign_stores (QE (r Z s O H _ I h) ?_) m hw;rintro v a ⟨x,L,w,f,i⟩;rw[u];exact QE (p Z a O L x v _ w f i) λ_ A q=>q
def QM(i:Nat)(w:X.N.Nodup)(u:PE X e te)(q:X.N[i]?=some x:=by rfl)(m:Loc X.env.scope x:=by first|exact Or.inl rfl|exact Or.inr rfl)(p:swapsWith e (some<|.Name x pos') pos.line X.env=pure false:=by rfl)(r:X.fn x=true\/X.env.scope.names.lookup x=some .local:=by first|exact .inl rfl|exact .inr rfl|assumption):
 PS X (.Assign [.Name x pos'] e pos) (Ww te<|WH i):=by
 intro Z s O H C I h;refine wpAny_Assign_Name (QE (u Z s O H _ I h) ?_) p;rintro v K ⟨y,L,B,a,f⟩;exact N9 B w q m a (λD A=>⟨_,L,A,f⟩) r
def SL(i:Nat)(te:TE)(a:TIp):TS:=λf O H=>∃x,O[i]?=some (some x)/\te O H λy L=>a x y L λz E=>f.nx (O.set i<|some z) E
def KH(F:X.N.Nodup)(A:X.N[i]?=some x)(q:Loc X.env.scope x)(o:PE X e te)(b:PIp X op ti)(n:X.fn x=true\/X.env.scope.names.lookup x=some .local:=by first|exact .inl rfl|exact .inr rfl|assumption):
 PS X (.AugAssign (.Name x pos') op e pos) (SL i te ti):=by
 intro Z s O H C I h;obtain⟨v,G,h⟩:=h;obtain⟨m,d,j⟩:=I.loc;have p:Vis X.env.scope x:=by rcases q with k|k;exact .inl k;exact .inr (.inl k)
 obtain⟨u,r,l⟩:=j i x v A G p;refine wpAny_AugAssign_Name ?_;have B:wpAny (model X.prog X.w) X.A (eval e X.env) (λw M=>wpAny (model X.prog X.w) X.A (inplaceOp op u w) (λr J=>wpAny (model X.prog X.w) X.A (storeName X.env x r) (λ_=>SP X Z C .next) X.xe J) X.xe M) X.xe s:=by
  refine QE (o Z s O H _ I h) ?_;rintro w D ⟨y,L,S,P,W⟩;refine QE (b Z D O L v y u w _ S r P W) ?_;rintro z Y ⟨T,E,Q,K,R⟩;exact N9 Q F A q K (λU N=>⟨_,E,N,R⟩) n
 rcases l with ⟨a,g⟩|⟨a,c,t,f⟩
 .exact wpAny_loadName_local I.ok.kind a d g B
 .rcases a with a|a
  .exact wpAny_loadName_cell I.ok.kind a t f B
  .rcases q with k|k
   .have:X.env.scope.names.lookup x=some .free:=a;rw[k]at this;cases this
   .have:X.env.scope.names.lookup x=some .free:=a;rw[k]at this;cases this
def K3(m p te:TE)(f:V->V->Hp->VK->Prop)(h:TIp)(a:SO):TS:=λq O H=>m O H λo L=>p O L λi E=>f o i E λx v=>te O v λy u=>h x y u λz s=>a o i z s λr=>q.nx O r
def Ag(X:Cx)(t:V->V->Hp->VK->Prop):Prop:=
 ∀(Z:Qc) (s:Shared) (O:St) (H:Hp) (o i:V) (a f:Value) (Q:VK),Qt X Z O H s->QP o a->QP i f->t o i H Q->
  wpAny (model X.prog X.w) X.A (getItem a f) (EP X Z O Q) X.xe s
def DA{i:Expr}(x:PE X o to)(z:PE X i ti)(F:Ag X tget)(G:PE X e te)(t:PIp X op tip)(n:SU X tset)
(J:∀ov f a,augStore i ov f a=(do holding [a,ov,f] (setItem ov f a);release [a,ov,f] [];pure .next):=by intros;rfl):PS X (.AugAssign (.Subscript o i tpos) op e pos) (K3 to ti te tget tip tset):=by
 intro Z s O H ta I h;refine wpAny_AugAssign_SubscriptAny (QE (x Z s O H _ I h) ?_) J;rintro ov P ⟨q,L,U,u,l⟩;refine QE (z Z P O L _ U l) ?_;rintro f K ⟨p,E,T,r,k⟩;refine QE (F Z K O E q p ov f _ T u r k) ?_;rintro m D ⟨A,H3,S,b,j⟩;refine QE (G Z D O H3 _ S j) ?_;rintro v C ⟨y,H4,Q,W,g⟩;refine QE (t Z C O H4 A y m v _ Q b W g) ?_;rintro a B ⟨w,H5,N,R,d⟩;refine QE (n Z B O H5 q p w ov f a _ N u r R d) ?_;rintro _ s6 ⟨Y,M,c⟩;exact⟨O,Y,M,c⟩
def ipI(f:Int->Int->Int):TIp:=λx y H Q=>∃i j,x=.int i/\y=.int j/\Q (.int<|f i j) H
def BW:PIp X .Add (ipI λi j=>i+j):=by
 intro Z s O H x y v u Q I f a h;obtain⟨i,j,p,m,q⟩:=h;subst p;subst m;obtain⟨t,rfl⟩:=f;obtain⟨r,rfl⟩:=a;exact iadd_int ⟨.int _,H,I.tok _,⟨_,rfl⟩,q⟩
def AO:PIp X .Sub (ipI λi j=>i-j):=by
 intro Z s O H x y v u Q I f a h;obtain⟨i,j,p,m,q⟩:=h;subst p;subst m;obtain⟨t,rfl⟩:=f;obtain⟨r,rfl⟩:=a;exact isub_int ⟨.int _,H,I.tok _,⟨_,rfl⟩,q⟩
end
section
variable {pos:Pos}
def Te(c:TT)(tb:TS):TS:=λf O H=>∃W:Nat->St->Hp->Prop,(∃m,W m O H)/\∀m O H,W m O H->
 c O H λb L=>if b=true then ∃N:St->Hp->Prop,(∀a M,N a M->∃h,h<m/\W h a M)/\tb { f with nx:=N,ct:=N,bk:=f.nx } O L else f.nx O L
def JL{c:Expr}{tc:TT}{tb:TS}(D:PassesOwn (model X.prog X.w) X.A X.env X.xe)(l:PT X c tc)(o:PSs X body tb):PS X (.While c body [] pos) (Te tc tb):=by
 intro Z s O H x I h;obtain⟨W,⟨k,d⟩,p⟩:=h;refine wpAny_While (codeAny_whileLoop (λn j=>∃m M,Qt X Z m M j/\W n m M) ?_ k ⟨O,H,I,d⟩);rintro n g ⟨i,L,t,R⟩;refine wpAny_passesOwn D (QE (l Z g i L _ t<|p n i L R) ?_);rintro b e ⟨E,P,u⟩;cases b with
 |true=>
  obtain⟨N,K,u⟩:=u;refine wpAny_passesOwn D (QE (o Z e i E _ P u) λf z r=>?_);cases f with
  |next=>
   obtain⟨a,q,C,y⟩:=r;obtain⟨A,B,w⟩:=K a q y;exact⟨A,B,a,q,C,w⟩
  |cont=>
   obtain⟨a,q,C,y⟩:=r;obtain⟨A,B,w⟩:=K a q y;exact⟨A,B,a,q,C,w⟩
  |brk=>exact r
  |ret v=>exact r
 |false=>
  exact wpAny_execs_nil ⟨i,E,P,u⟩
end
structure It where
 go:Nat->Hp->Prop
 yld:Nat->Hp->V->Hp->Prop
 stop:Nat->Hp->Prop
def YN(X:Cx)(Z:Qc)(H:Hp)(b:Addr):Prop:=
 H b=none/\b≠X.env.locals/\b∉X.fs/\(b∈X.ex\/X.s₀.heap.objs.size<=b)/\(∀x c,X.env.cells.lookup x=some c->c≠b)/\∀p∈X.pn++Z,p.1≠b
def Qt.fpOk{H M:Hp}{b:Addr}(I:Qt X Z O H s)(a:s.heap.objs.size<=b)(hn:M b=none):YN X Z M b:=by
 refine⟨hn,X5<|XM I.lt a,I.nofs a,.inr<|Xx I.sz a,λx c e z=>?_,λp f z=>?_⟩
 .obtain⟨v,q⟩:=I.cell x c e;exact Xr (XM q.lt<|by rw[z];exact a) (Wb _)
 .exact Xr (XM (Xj (I.pin p f).1)<|by rw[z];exact a) (Wb _)
structure Turn(P:Program)(w:World)(K:W.Frag)(tg:Expr)(J:It)(fp:Qg)(it:Addr)(tn:Nat->Heap->Prop):Prop where
 mem:it∈fp
 obj:∀i h,tn i h->∀b∈fp,∃o,h.get? b=some o/\∀v,o.data≠.cell v
 keep:∀i h h',tn i h->(∀b∈fp,∀o,h.get? b=some o->h'.get? b=some o)->tn i h'
 item:∀(X:Cx),X.prog=P->X.w=w->X.K=K->X.calm=true->∀(i:Nat) (Z:Qc) (s:Shared) (O:St) (H:Hp) (H2:Qb),Qt X Z O H s->(∀b∈fp,YN X Z H b)->tn i s.heap->J.go i H->
  wpAny (model P w) X.A (pyNext<|.ref it) (λr s1=>∃u,r=some u/\
   wpAny (model P w) X.A (letOwnedTupleGo tg (.ref it) u) (λ_ s2=>∃x M,Qt X Z O M s2/\QP x u/\J.yld i H x M/\tn (i+1) s2.heap/\∀b∈fp,M b=none) H2 s1) H2 s
 done:∀(X:Cx),X.prog=P->X.w=w->X.K=K->X.calm=true->∀(i:Nat) (Z:Qc) (s:Shared) (O:St) (H:Hp) (H2:Qb),Qt X Z O H s->(∀b∈fp,YN X Z H b)->tn i s.heap->J.stop i H->
  wpAny (model P w) X.A (pyNext<|.ref it) (λr s1=>r=none/\Qt X Z O H s1) H2 s
 self:∀(A:Around) (i:Nat) (s:Shared) (Q:Qb) (H2:Qb),tn i s.heap->Q (.ref it) s->wpAny (model P w) A (pyIter<|.ref it) Q H2 s
abbrev TI:=St->Hp->(It->Hp->Prop)->Prop
def PIE(X:Cx)(Z:Qc)(O:St)(tg:Expr)(H0:It->Hp->Prop)(a:Value)(h:Shared):Prop:=
 ∃(i:Addr) (m:Qg) (f:Nat->Heap->Prop) (J:It) (M:Hp),a=.ref i/\Qt X Z O M h/\Turn X.prog X.w X.K tg J m i f/\f 0 h.heap/\(∀b∈m,YN X Z M b)/\H0 J M
def PI(X:Cx)(tg iter:Expr)(a:TI):Prop:=
 ∀(Z:Qc) (s:Shared) (O:St) (H:Hp) (H0:It->Hp->Prop),Qt X Z O H s->a O H H0->
  wpAny (model X.prog X.w) X.A (eval iter X.env) (λv f=>wpAny (model X.prog X.w) X.A (pyIter v) (PIE X Z O tg H0) X.xe f) X.xe s
def BN{u:Value}(f:s.heap.get? it=some o)(i:o.cls=.type n)(h:o.data=.fields vs)
(hn:["enumerate","zip","dict_itemiterator","dict_reverseitemiterator","odict_iterator","itertools.zip_longest","itertools.pairwise"].contains n=false)(a:Q () s):wpAny H' A (letOwnedTupleGo tg (.ref it) u) Q H2 s:=by
 cases tg<;>first
  |exact Xl a
  | (cases u<;>first
   |exact Xl a
   | (refine Xa (wpAny_load f ?_)
      rw[i,h];show wpAny H' A (if _=true then _ else _) Q H2 s;rw[Xc<|by lia];exact Xl a))
def Itl(K:W.Frag)(a:Addr):It:=
 ⟨λi H=>∃xs x,SqL K H a xs/\xs[i]?=some x,λi H x M=>M=H/\∀xs,SqL K H a xs->xs[i]?=some x,λi H=>∃xs,SqL K H a xs/\xs.length<=i⟩
def Itt(K:W.Frag)(a:Addr):It:=
 ⟨λi H=>∃xs x,SqT K H a xs/\xs[i]?=some x,λi H x M=>M=H/\∀xs,SqT K H a xs->xs[i]?=some x,λi H=>∃xs,SqT K H a xs/\xs.length<=i⟩
def Itr(lo:Int)(n:Nat):It:=⟨λi _=>i<n,λi H x M=>M=H/\x=.int (lo+i),λi _=>n<=i⟩
theorem Zrf(a it:Addr):Turn P w K tg (Itl K a) [it] it (λi h=>h.IsListIter it a i) where
 mem:=by simp
 obj:=λi h f b m=>by
  have e:=by simpa using m
  subst e;obtain⟨o,e,c,d⟩:=f;simp_all
 keep:=λi h h' f k=>f.at λo e=>k it (by simp) o e
 item:=by
  intro X C B D n i Z s O H H2 I r f hg;subst C B D;obtain⟨xs,x,hq,A⟩:=hg;obtain⟨y,v,p,E⟩:=I.list hq;obtain⟨u,G,z⟩:=v.get A;obtain⟨l,j,J,g,W,R⟩:=r it (by simp);refine wpAny_pyNext_list_item f p.isList (by simpa using G) λh' q t=>?_;have M:=I.turned (t':=s.toks) (λb o m e=>(t.2 b m).trans e) l j g W R;obtain⟨o,e,c,d⟩:=id q
  exact⟨u,rfl,BN e c d (by decide) ⟨x,H,M,z,⟨rfl,λys F=>by rw[I.list_inj F hq];exact A⟩,q,λb m=>(r b m).1⟩⟩
 done:=by
  intro X C B D n i Z s O H H2 I r f hg;subst C B D;obtain⟨xs,hq,A⟩:=hg;obtain⟨y,v,p,E⟩:=I.list hq;obtain⟨l,j,J,g,W,R⟩:=r it (by simp);have N:=v.length;exact wpAny_pyNext_list_end (I.ok.hd n) f p.isList (by simp;lia) λh' L=>⟨rfl,I.turned (λb o m e=>L b o m e) l j g W R⟩
 self:=λ_ _ _ _ _ f h=>wpAny_pyIter_listiter f h
theorem ZpK(a it:Addr):Turn P w K tg (Itt K a) [it] it (λi h=>h.IsTupleIter it a i) where
 mem:=by simp
 obj:=λi h f b m=>by
  have e:=by simpa using m
  subst e;obtain⟨o,e,c,d⟩:=f;simp_all
 keep:=λi h h' f k=>f.at λo e=>k it (by simp) o e
 item:=by
  intro X C B D n i Z s O H H2 I r f hg;subst C B D;obtain⟨xs,x,hq,A⟩:=hg;obtain⟨y,v,p,E⟩:=I.tuple hq;obtain⟨u,G,z⟩:=v.get A;obtain⟨l,j,J,g,W,R⟩:=r it (by simp);refine wpAny_pyNext_tuple_item f (p) (by simpa using G) λh' q t=>?_;have M:=I.turned (t':=s.toks) (λb o m e=>(t.2 b m).trans e) l j g W R;obtain⟨o,e,c,d⟩:=id q
  exact⟨u,rfl,BN e c d (by decide) ⟨x,H,M,z,⟨rfl,λys F=>by rw[I.tuple_inj F hq];exact A⟩,q,λb m=>(r b m).1⟩⟩
 done:=by
  intro X C B D n i Z s O H H2 I r f hg;subst C B D;obtain⟨xs,hq,A⟩:=hg;obtain⟨y,v,p,E⟩:=I.tuple hq;obtain⟨l,j,J,g,W,R⟩:=r it (by simp);have N:=v.length;exact wpAny_pyNext_tuple_end (I.ok.hd n) f (p) (by simp;lia) λh' L=>⟨rfl,I.turned (λb o m e=>L b o m e) l j g W R⟩
 self:=λ_ _ _ _ _ f h=>wpAny_pyIter_tupleiter f h
theorem Zpw(it:Addr)(lo:Int)(n:Nat):Turn P w K tg (Itr lo n) [it] it (λi h=>IsRangeIter h it (lo+(i:Nat)*1) ((n:Int)-(i:Nat)) 1) where
 mem:=by simp
 obj:=λi h a b f=>by
  simp_all
 keep:=λi h h' a k=>k it (by simp) _ a
 item:=by
  intro X D C R q i Z s O H H2 I p a hg;subst D C R;obtain⟨B,A,j,y,u,r⟩:=p it (by simp);have W:=Walks.range (prog:=X.prog) (w:=X.w) (I.ok.hd q) it lo 1 n;refine W.item i s _ _ hg a λv h' c g m d=>?_;obtain⟨t,rfl⟩:=g;have x:Qt X Z O H { s with heap:=h',toks:=c }:=I.turned (λb o f e=>d b o (by simpa using f) e) B A y u r;refine⟨_,rfl,BN m rfl rfl (by decide) ⟨.int _,H,x,⟨t,?_⟩,⟨rfl,rfl⟩,m,λb f=>(p b f).1⟩⟩;rw[Ws]
 done:=by
  intro X D C R q i Z s O H H2 I p a hg;obtain⟨B,A,j,y,u,r⟩:=p it (by simp);exact wpAny_pyNext_range_end (I.ok.hd q) a (by have:n<=i:=hg;lia) λh' l=>⟨rfl,I.turned (λb o f e=>l b o f e) B A y u r⟩
 self:=λ_ _ _ _ _ a h=>wpAny_pyIter_rangeiter a h
end L2
namespace L2
def K1(K:W.Frag)(f:TE):TI:=λO H H0=>f O H λx L=>∃a,x=.ref a/\(∃xs,SqL K L a xs)/\H0 (Itl K a) L
def Ak(K:W.Frag)(f:TE):TI:=λO H H0=>f O H λx L=>∃a,x=.ref a/\(∃xs,SqT K L a xs)/\H0 (Itt K a) L
def ZN(y:PE X l tl):PI X tg l (K1 X.K tl):=by
 intro Z s O H H0 I h;refine QE (y Z s O H _ I h) ?_;rintro v i ⟨x,L,f,m,r⟩;obtain⟨a,e,⟨xs,w⟩,q⟩:=r;subst e;cases m;obtain⟨u,B,p,C⟩:=f.list w;refine wpAny_pyIter_list p.isList ?_;refine⟨i.heap.objs.size,[i.heap.objs.size],_,_,L,rfl,f.kept λb o e=>Xd _ e,Zrf a _,⟨_,XG _ rfl,rfl,rfl⟩,λb A=>?_,q⟩;have e:=by simpa using A
 subst e;exact f.fpOk (Xn _) (f.hok.fresh<|Xn _)
def WI(y:PE X l tl):PI X tg l (Ak X.K tl):=by
 intro Z s O H H0 I h;refine QE (y Z s O H _ I h) ?_;rintro v i ⟨x,L,f,m,r⟩;obtain⟨a,e,⟨xs,w⟩,q⟩:=r;subst e;cases m;obtain⟨u,B,p,C⟩:=f.tuple w;refine wpAny_pyIter_tuple (p) ?_;refine⟨i.heap.objs.size,[i.heap.objs.size],_,_,L,rfl,f.kept λb o e=>Xd _ e,ZpK a _,⟨_,XG _ rfl,rfl,rfl⟩,λb A=>?_,q⟩;have e:=by simpa using A
 subst e;exact f.fpOk (Xn _) (f.hok.fresh<|Xn _)
def Fo{H:Hp}{H0:It->Hp->Prop}{lo a:Int}{t u v:Tok}{h:Nat}(I:Qt X Z O H s)(h1 : -(2^62)<=lo)(p:lo<2^62)(h3 : -(2^62)<=a)(m:a<2^62)
(q:H0 (Itr lo (a-lo).toNat) H):wpAny (model X.prog X.w) X.A (pyIter<|.ref s.heap.objs.size) (PIE X Z O tg H0) H2 { s with heap:=s.heap.push { cls:=.type "range",data:=.fields #[.int lo t,.int a u,.int 1 v] },toks:=h }:=by
 refine wpAny_pyIter_range (IsRange.new ..) (small_one h1 p h3 m) ?_;have f:Qt X Z O H { s with heap:=s.heap.push { cls:=.type "range",data:=.fields #[.int lo t,.int a u,.int 1 v] },toks:=h }:=I.kept λb o e=>Xd _ e
 refine⟨(s.heap.push { cls:=.type "range",data:=.fields #[.int lo t,.int a u,.int 1 v] }).objs.size,[(s.heap.push { cls:=.type "range",data:=.fields #[.int lo t,.int a u,.int 1 v] }).objs.size],_,_,H,rfl,
  f.kept λb o e=>Xd _ e,Zpw _ lo (a-lo).toNat,?_,λb i=>?_,q⟩
 .have w:lo+((0:Nat))*1=lo:=by simp
  have r:(((a-lo).toNat))-((0:Nat))=Builtin.Range.rangeSize lo a 1:=by rw[rangeSize_one];split<;>lia
  rw[w,r];exact XG _ rfl
 .have e:b=(s.heap.push { cls:=.type "range",data:=.fields #[.int lo t,.int a u,.int 1 v] }).objs.size:=by simpa using i
  subst e;exact f.fpOk (Xn _) (f.hok.fresh<|Xn _)
def PB(D:TA):TI:=λO H H0=>D O H λa L=>∃j:Int,a=[.int j] /\ -(2^62)<=j/\j<2^62/\H0 (Itr 0 j.toNat) L
def Pm(D:TA):TI:=λO H H0=>D O H λa L=>∃i j:Int,a=[.int i,.int j]/\(-(2^62)<=i/\i<2^62 /\ -(2^62)<=j/\j<2^62)/\H0 (Itr i (j-i).toNat) L
def V1{a:Expr}{D:TA}(y:Gl X "range")(w:X.mg "range"=none)(A:PA X [a] D)(v:starEach [a] X.env=[(false,eval a X.env)]:=by rfl):PI X tg (.Call (.Name "range" p) [a] [] pos) (PB D):=by
 intro Z s O H H0 I h;refine Call_ (JE I y w boot_range<|PyProof.Rows.callWith_type1 (QE (A pos Z s O H _ I h) ?_) v rfl);rintro K P ⟨C,L,B,m,f⟩;obtain⟨j,e,f,u,q⟩:=f;subst e;cases m with
 |cons r i=>
  cases i;obtain⟨t,rfl⟩:=r;exact call_range_1 (Fo B (by lia) (by lia) f u<|by simpa using q)
def Zr9{a b:Expr}{D:TA}{f:Pos}(R:Gl X "range")(P:X.mg "range"=none)(W:PA X [a,b] D)(K:starEach [a,b] X.env=[(false,eval a X.env),(false,eval b X.env)]:=by rfl)(m:starEach [b] X.env=[(false,eval b X.env)]:=by rfl):
 PI X tg (.Call (.Name "range" p) [a,b] [] f) (Pm D):=by
 intro Z s O H H0 I h;refine Call_ (JE I R P boot_range<|PyProof.Rows.callWith_type1 (QE (W f Z s O H _ I h) ?_) (by rw[K,m])<|by rw[m];rfl);rintro g l ⟨d,L,c,w,v⟩;obtain⟨i,j,e,⟨v,C,B,A⟩,q⟩:=v;subst e;cases w with
 |cons r u=>
  cases u with
  |cons y u=>
   cases u;obtain⟨t,rfl⟩:=r;obtain⟨k,rfl⟩:=y;exact call_range_2 (Fo c v C B A q)
def MS(q:TI)(g:TG)(tb:TS):TS:=λh O H=>q O H λJ L=>∃W:Nat->Nat->St->Hp->Prop,(∃m,W 0 m O L)/\∀i m O H,W i m O H->
 (J.stop i H/\h.nx O H)\/(J.go i H/\∃N:St->Hp->Prop,(∀a M,N a M->∃p,p<m/\W (i+1) p a M)/\∀x M,J.yld i H x M->g x O M λf E=>tb { h with nx:=N,ct:=N,bk:=h.nx } f E)
def Dr(a:Qg)(h:Heap):Qc:=a.filterMap λb=>(h.get? b).map λo=>(b,o)
def Hl{b:Addr}(a:b∈fp)(e:h.get? b=some o):(b,o)∈Dr fp h:=List.mem_filterMap.mpr ⟨b,a,by rw[e];rfl⟩
def ZqT{p:Addr×Obj}(a:p∈Dr fp h):p.1∈fp/\h.get? p.1=some p.2:=by
 obtain⟨b,f,e⟩:=List.mem_filterMap.mp a;cases q:h.get? b with
 |none=>rw[q]at e;cases e
 |some o=>
  rw[q]at e;have i:=Option.some.inj e;subst i;exact⟨f,q⟩
def Qt.pinned{H:Hp}{a:Qg}(I:Qt X Z O H s)(m:∀b∈a,YN X Z H b)(i:∀b∈a,∃o,s.heap.get? b=some o/\∀v,o.data≠.cell v):Qt X (Z++Dr a s.heap) O H s:=
 I.pins_of λp h=>(XA.mp h).elim (λz=>I.pin p<|XO _ z) λz=>by
  obtain⟨f,e⟩:=ZqT z;obtain⟨u,r,q,_⟩:=m p.1 f;obtain _:=i p.1 f;simp_all
def Qt.unpinned{a:Qc}{H:Hp}(I:Qt X (Z++a) O H s):Qt X Z O H s:=I.pins_of λp f=>I.pin p (XO _<|Jz _ f)
def ZV{g:TG}{tb:TS}(k:PassesOwn (model X.prog X.w) X.A X.env X.xe)(hc:X.calm=true)(hi:PI X tg iter wi)(hg:PG X tg g)(y:PSs X body tb)
(hs:∀x,foldedSetIterable iter X.env x=pure x:=by intro _;rfl):PS X (.For tg iter body [] pos) (MS wi g tb):=by
 intro Z s O H ta I h;refine wpAny_For (QE (hi Z s O H _ I h) λv s1 h1=>QE h1 λitv s2 h2=>?_) hs;obtain⟨it,t,Y,J,E,e,I2,T,G,f2,W,⟨m0,w0⟩,P⟩:=h2;subst e;have w:∀{M:Hp},(∀b∈t,M b=none)->∀b∈t,YN X Z M b:=λhn b y=>⟨hn b y,(f2 b y).2⟩;refine codeAny_forLoop_any (λn s'=>∃i q M,Qt X Z q M s'/\Y i s'.heap/\(∀b∈t,M b=none)/\W i n q M) ?_ m0 ⟨0,O,E,I2,G,λb y=>(f2 b y).1,w0⟩
 rintro n s3 ⟨i,p,z,I3,c,l,w3⟩;rcases P i n p z w3 with ⟨R,qn⟩|⟨go,N,hN,step⟩
 .refine wpAny_passesOwn k (QE (T.done X rfl rfl rfl hc i Z s3 p z X.xe I3 (w l) c R) ?_);rintro r s4 ⟨Q,I4⟩;subst Q;exact wpAny_execs_nil ⟨p,z,I4,qn⟩
 .refine wpAny_passesOwn k (QE (T.item X rfl rfl rfl hc i Z s3 p z X.xe I3 (w l) c go) ?_);rintro r s4 ⟨u,Q,h4⟩;subst Q;refine wpAny_passesOwn k (QE h4 ?_);rintro _ s5 ⟨x,H5,I5,r5,y5,K,S⟩;have U:=I5.pinned (w S) (T.obj _ _ K);refine wpAny_passesOwn k (QE (hg _ s5 p H5 x u _ U r5<|step x H5 y5) ?_);rintro _ s6 ⟨F,H6,I6,q6⟩;refine wpAny_passesOwn k (QE (y _ s6 F H6 _ I6 q6) λf L D=>?_);have A:∀{a:St} {C:Hp},Qt X _ a C L->N a C->∃m,m<n/\∃i q M,Qt X Z q M L/\Y i L.heap/\(∀b∈t,M b=none)/\W i m q M:=λ{a C} B j=>by
   obtain⟨m',hm,w7⟩:=hN a C j;refine⟨m',hm,i+1,a,C,B.unpinned,T.keep _ _ _ K λb y o e=>(B.pin (b,o)<|XO _<|XO _<|Hl y e).1,λb y=>?_,w7⟩;obtain⟨o,e,d⟩:=T.obj _ _ K b y;exact(B.pin _<|XO _<|XO _<|Hl y e).2.1
  cases f with
  |next=>obtain⟨a,C,B,j⟩:=D;exact A B j
  |cont=>obtain⟨a,C,B,j⟩:=D;exact A B j
  |brk=>obtain⟨a,C,B,D⟩:=D;exact⟨a,C,B.unpinned,D⟩
  |ret v=>obtain⟨x7,a,C,B,r7,D⟩:=D;exact⟨x7,a,C,B.unpinned,r7,D⟩
end L2
namespace L2
abbrev R2:=V->V->Hp->VK->Prop
def OpR(X:Cx)(f:Value->Value->Sem Value)(r:R2):Prop:=
 ∀(Z:Qc) (s:Shared) (O:St) (H:Hp) (x y:V) (v u:Value) (Q:VK),Qt X Z O H s->QP x v->QP y u->r x y H Q->
  wpAny (model X.prog X.w) X.A (f v u) (EP X Z O Q) X.xe s
def UnR(X:Cx)(f:Value->Sem Value)(r:V->Hp->VK->Prop):Prop:=
 ∀(Z:Qc) (s:Shared) (O:St) (H:Hp) (x:V) (v:Value) (Q:VK),Qt X Z O H s->QP x v->r x H Q->
  wpAny (model X.prog X.w) X.A (f v) (EP X Z O Q) X.xe s
def ZY(X:Cx)(f:Value)(r:List V->Hp->VK->Prop):Prop:=
 ∀(Z:Qc) (s:Shared) (O:St) (H:Hp) (xs:List V) (a:Qe) (Q:VK),Qt X Z O H s->QR xs a->r xs H Q->
  wpAny (model X.prog X.w) X.A (call f a) (EP X Z O Q) X.xe s
def Z1t(X:Cx)(r:V->Hp->(Bool->Hp->Prop)->Prop):Prop:=
 ∀(Z:Qc) (s:Shared) (O:St) (H:Hp) (x:V) (v:Value) (Q:Bool->Hp->Prop),Qt X Z O H s->QP x v->r x H Q->
  wpAny (model X.prog X.w) X.A (truthy v) (TP X Z O Q) X.xe s
def tOp(r:R2)(D tb:TE):TE:=λO H Q=>D O H λx L=>tb O L λy E=>r x y E Q
def tUn(r:V->Hp->VK->Prop)(D:TE):TE:=λO H Q=>D O H λx L=>r x L Q
def rI(C:Int->Int->Prop)(g:Int->Int->V):R2:=λx y H Q=>∃i j,x=.int i/\y=.int j/\C i j/\Q (g i j) H
def rI0(g:Int->Int->V):R2:=λx y H Q=>∃i j,x=.int i/\y=.int j/\Q (g i j) H
def rU(g:Int->V):V->Hp->VK->Prop:=λx H Q=>∃i,x=.int i/\Q (g i) H
section
variable {a b:Expr}{pos:Pos}
def SN(C:PE X a D)(B:PE X b tb){H:Hp}{H0:V->V->Hp->Prop}(I:Qt X Z O H s)
(h:D O H λx L=>tb O L λy E=>H0 x y E){Q:Qb}{f:Value->Value->Sem Value}
(A:∀v u i x y E,Qt X Z O E i->QP x v->QP y u->H0 x y E->wpAny (model X.prog X.w) X.A (f v u) Q X.xe i):
 wpAny (model X.prog X.w) X.A (eval a X.env) (λv P=>wpAny (model X.prog X.w) X.A (eval b X.env) (λu K=>wpAny (model X.prog X.w) X.A (f v u) Q X.xe K) X.xe P) X.xe s:=by
 refine QE (C Z s O H _ I h) ?_;rintro v m ⟨x,L,W,q,w⟩;refine QE (B Z m O L _ W w) ?_;rintro u i ⟨y,E,R,p,r⟩;exact A v u i x y E R q p r
def QN{r:R2}(p:OpR X (binaryOp op) r)(A:PE X a D)(w:PE X b tb):PE X (.BinOp a op b pos) (tOp r D tb):=by
 intro Z s O H Q I h;exact wpAny_BinOp (SN A w I h λv u f x y E B m i q=>p Z f O E x y v u Q B m i q)
def PH{r:V->Hp->VK->Prop}(m:UnR X (unaryOp op) r)(p:PE X a D):PE X (.UnaryOp op a pos) (tUn r D):=by
 intro Z s O H Q I h;refine UnaryOp_ (QE (p Z s O H _ I h) ?_);rintro v b ⟨x,L,q,f,i⟩;exact m Z b O L x v Q q f i
def opI{f:Value->Value->Sem Value}{C:Int->Int->Prop}{g:Int->Int->Int}
(a:∀(i j:Int) (t u:Tok) (s:Shared) (Q:Qb) (H2:Qb),C i j->Q (.int (g i j) s.toks) { s with toks:=s.toks+1 }->wpAny (model X.prog X.w) X.A (f (.int i t)<|.int j u) Q H2 s):
 OpR X f (rI C λi j=>.int<|g i j):=by
 intro Z s O H x y v u Q I p m h;obtain⟨i,j,rfl,rfl,r,q⟩:=h;obtain⟨t,rfl⟩:=p;obtain⟨b,rfl⟩:=m;exact a i j t b s _ _ r ⟨.int _,H,I.tok _,⟨_,rfl⟩,q⟩
def SH{f:Value->Value->Sem Value}{g:Int->Int->Int}
(a:∀(i j:Int) (t u:Tok) (s:Shared) (Q:Qb) (H2:Qb),Q (.int (g i j) s.toks) { s with toks:=s.toks+1 }->wpAny (model X.prog X.w) X.A (f (.int i t)<|.int j u) Q H2 s):
 OpR X f (rI0 λi j=>.int<|g i j):=by
 intro Z s O H x y v u Q I p m h;obtain⟨i,j,rfl,rfl,q⟩:=h;obtain⟨t,rfl⟩:=p;obtain⟨b,rfl⟩:=m;exact a i j t b s _ _ ⟨.int _,H,I.tok _,⟨_,rfl⟩,q⟩
def SZ{f:Value->Value->Sem Value}{g:Int->Int->Bool}
(a:∀(i j:Int) (t u:Tok) (s:Shared) (Q:Qb) (H2:Qb),Q (.bool<|g i j) s->wpAny (model X.prog X.w) X.A (f (.int i t)<|.int j u) Q H2 s):
 OpR X f (rI0 λi j=>.bl<|g i j):=by
 intro Z s O H x y v u Q I p m h;obtain⟨i,j,rfl,rfl,q⟩:=h;obtain⟨t,rfl⟩:=p;obtain⟨b,rfl⟩:=m;exact a i j t b s _ _ ⟨.bl _,H,I,rfl,q⟩
def SI(i j:Int):Prop:=0<=j/\j<=1000000/\i.natAbs<2^64
def MR(i j:Int):Prop:=(-(2^64)<i/\i<2^64)\/(-(2^64)<j/\j<2^64)
def MR.ok{i j:Int}(h:MR i j):IntMulOk i j:=by
 rcases h with ⟨b,a⟩|⟨b,a⟩
 .exact .of_left (intBits_le_64 b a)
 .exact .of_right (intBits_le_64 b a)
def Y5:OpR X (binaryOp .Add) (rI0 λi j=>.int<|i+j):=SH λ_ _ _ _ _ _ _ q=>add_int q
def Wj:OpR X (binaryOp .Sub) (rI0 λi j=>.int<|i-j):=SH λ_ _ _ _ _ _ _ q=>sub_int q
def Gd:OpR X (binaryOp .Mult) (rI MR λi j=>.int<|i*j):=opI λ_ _ _ _ _ _ _ a q=>mul_int q a.ok
def VO:OpR X (binaryOp .Mod) (rI (λ_ j=>0<j) λi j=>.int<|i%j):=opI λi j _ _ _ _ _ a q=>mod_int' (by lia) (by rw[Int.fmod_eq_emod_of_nonneg i<|by lia];exact q)
def Dv:OpR X (binaryOp .Pow) (rI SI λi j=>.int<|i^j.toNat):=opI λ_ _ _ _ _ _ _ a q=>pow_int_small a.1 a.2.1 a.2.2 q
def K9:OpR X (binaryOp .BitXor) (rI0 λi j=>.int<|Builtin.bitXor i j):=SH λ_ _ _ _ _ _ _ q=>xor_int q
def unI{f:Value->Sem Value}{g:Int->Int}
(a:∀(i:Int) (t:Tok) (s:Shared) (Q:Qb) (H2:Qb),Q (.int (g i) s.toks) { s with toks:=s.toks+1 }->wpAny (model X.prog X.w) X.A (f<|.int i t) Q H2 s):
 UnR X f (rU λi=>.int<|g i):=by
 intro Z s O H x v Q I b h;obtain⟨i,rfl,q⟩:=h;obtain⟨t,rfl⟩:=b;exact a i t s _ _ ⟨.int<|g i,H,I.tok _,⟨_,rfl⟩,q⟩
def Th:UnR X (unaryOp .USub) (rU λi=>.int (-i)):=unI λ_ _ _ _ _ q=>neg_int q
end
def Aj:V->V->Bool
 |.non,.non=>true|.non,.int _=>true|.int _,.non=>true|.non,.bl _=>true|.bl _,.non=>true|.non,.str _=>true|.str _,.non=>true
 |.int _,.int _=>true|.bl _,.bl _=>true|.str _,.str _=>true|.byt _,.byt _=>true
 |.int _,.str _=>true|.str _,.int _=>true|.bl _,.str _=>true|.str _,.bl _=>true
 |_,_=>false
def rEq:R2:=λx y H Q=>Aj x y=true/\Q (.bl<|decide (x=y)) H
def rNe:R2:=λx y H Q=>Aj x y=true/\Q (.bl<|!decide (x=y)) H
def TZ{i j:Int}:decide (V.int i=V.int j)=(i==j):=by
 rw[Bx];simp
def Tc{i j:Bool}:decide (V.bl i=V.bl j)=(i==j):=by
 rw[Bx];simp
def Lx{i j:Str}:decide (V.str i=V.str j)=(i==j):=by
 rw[Bx];simp
def TR{i j:Array UInt8}:decide (V.byt i=V.byt j)=(i.toList==j.toList):=by
 rw[Bx];simp_all
section
variable {a b c:Expr}{pos:Pos}
def ZS{H:Hp}{Q:VK}{k a:Bool}(I:Qt X Z O H s)(q:Q (.bl k) H)(e:k=a):EP X Z O Q (.bool a) s:=by
 subst e;exact⟨.bl k,H,I,rfl,q⟩
def Y3:OpR X (compareOp .Eq) rEq:=by
 intro Z s O H x y v u Q I f a h;obtain⟨c,q⟩:=h;cases x with
 |non=>
  cases f;cases y with
  |non=>cases a;exact PySem.EqNone.eq_none_none (ZS I q<|by simp)
  |bl j=>cases a;exact PySem.EqNone.eq_none_bool (ZS I q<|by simp)
  |int j=>obtain⟨b,rfl⟩:=a;exact PySem.EqNone.eq_none_int (ZS I q<|by simp)
  |str j=>obtain⟨b,rfl⟩:=a;exact PySem.EqNone.eq_none_str (ZS I q<|by simp)
  |_=>exact Xr (show false=true from c) Xs
 |bl i=>
  cases f;cases y with
  |non=>cases a;exact PySem.EqNone.eq_bool_none (ZS I q<|by simp)
  |bl j=>cases a;exact eq_bool (ZS I q Tc)
  |str j=>obtain⟨b,rfl⟩:=a;exact PySem.EqMixed.eq_bool_str (ZS I q<|by simp)
  |_=>exact Xr (show false=true from c) Xs
 |int i=>
  obtain⟨t,rfl⟩:=f;cases y with
  |non=>cases a;exact PySem.EqNone.eq_int_none (ZS I q<|by simp)
  |int j=>obtain⟨b,rfl⟩:=a;exact eq_int (ZS I q TZ)
  |str j=>obtain⟨b,rfl⟩:=a;exact PySem.EqMixed.eq_int_str (ZS I q<|by simp)
  |_=>exact Xr (show false=true from c) Xs
 |str i=>
  obtain⟨t,rfl⟩:=f;cases y with
  |non=>cases a;exact PySem.EqNone.eq_str_none (ZS I q<|by simp)
  |bl j=>cases a;exact PySem.EqMixed.eq_str_bool (ZS I q<|by simp)
  |int j=>obtain⟨b,rfl⟩:=a;exact PySem.EqMixed.eq_str_int (ZS I q<|by simp)
  |str j=>obtain⟨b,rfl⟩:=a;exact eq_str (ZS I q Lx)
  |_=>exact Xr (show false=true from c) Xs
 |byt i=>
  obtain⟨t,rfl⟩:=f;cases y with
  |byt j=>obtain⟨b,rfl⟩:=a;exact W.eq_bytes (ZS I q TR)
  |_=>exact Xr (show false=true from c) Xs
 |_=>cases y<;>exact Xr (show false=true from c) Xs
def Jb:OpR X (compareOp .NotEq) rNe:=by
 intro Z s O H x y v u Q I f a h;obtain⟨c,q⟩:=h;cases x with
 |non=>
  cases f;cases y with
  |non=>cases a;exact PySem.EqNone.ne_none_none (ZS I q<|by simp)
  |bl j=>cases a;exact PySem.EqNone.ne_none_bool (ZS I q<|by simp)
  |int j=>obtain⟨b,rfl⟩:=a;exact PySem.EqNone.ne_none_int (ZS I q<|by simp)
  |str j=>obtain⟨b,rfl⟩:=a;exact PySem.EqNone.ne_none_str (ZS I q<|by simp)
  |_=>exact Xr (show false=true from c) Xs
 |bl i=>
  cases f;cases y with
  |non=>cases a;exact PySem.EqNone.ne_bool_none (ZS I q<|by simp)
  |bl j=>cases a;exact ne_bool (ZS I q<|XS not Tc)
  |str j=>obtain⟨b,rfl⟩:=a;exact PySem.EqMixed.ne_bool_str (ZS I q<|by simp)
  |_=>exact Xr (show false=true from c) Xs
 |int i=>
  obtain⟨t,rfl⟩:=f;cases y with
  |non=>cases a;exact PySem.EqNone.ne_int_none (ZS I q<|by simp)
  |int j=>obtain⟨b,rfl⟩:=a;exact ne_int (ZS I q<|XS not TZ)
  |str j=>obtain⟨b,rfl⟩:=a;exact PySem.EqMixed.ne_int_str (ZS I q<|by simp)
  |_=>exact Xr (show false=true from c) Xs
 |str i=>
  obtain⟨t,rfl⟩:=f;cases y with
  |non=>cases a;exact PySem.EqNone.ne_str_none (ZS I q<|by simp)
  |bl j=>cases a;exact PySem.EqMixed.ne_str_bool (ZS I q<|by simp)
  |int j=>obtain⟨b,rfl⟩:=a;exact PySem.EqMixed.ne_str_int (ZS I q<|by simp)
  |str j=>obtain⟨b,rfl⟩:=a;exact ne_str (ZS I q<|XS not Lx)
  |_=>exact Xr (show false=true from c) Xs
 |byt i=>
  obtain⟨t,rfl⟩:=f;cases y with
  |byt j=>obtain⟨b,rfl⟩:=a;exact W.ne_bytes (ZS I q<|XS not TR)
  |_=>exact Xr (show false=true from c) Xs
 |_=>cases y<;>exact Xr (show false=true from c) Xs
def Uf:OpR X (compareOp .Lt) (rI0 λi j=>.bl<|decide (i<j)):=SZ λ_ _ _ _ _ _ _ q=>lt_int q
def J7:OpR X (compareOp .LtE) (rI0 λi j=>.bl<|decide (i<=j)):=SZ λ_ _ _ _ _ _ _ q=>le_int q
def Yq:OpR X (compareOp .Gt) (rI0 λi j=>.bl<|decide (j<i)):=SZ λ_ _ _ _ _ _ _ q=>gt_int q
def Zrz:OpR X (compareOp .In) (λx y H Q=>∃i j,x=.str i/\y=.str j/\Q (.bl<|!(Builtin.Str.occurrences j i 0 j.length 1).isEmpty) H):=by
 intro Z s O H x y v u Q I b a h;obtain⟨i,j,rfl,rfl,q⟩:=h;obtain⟨t,rfl⟩:=b;obtain⟨c,rfl⟩:=a;exact in_str (ZS I q rfl)
def Zp(b:Expr)(h:op≠.In:=by decide)(a:op≠.NotIn:=by decide):behindInMarks op b=false:=by
 have f:(op==CmpOp.In)=false:=by cases op<;>first|rfl|exact Xr rfl h
 have c:(op==CmpOp.NotIn)=false:=by cases op<;>first|rfl|exact Xr rfl a
 cases b<;>simp[behindInMarks,f,c]
def Y7{r:R2}(m:OpR X (compareOp op) r)(A:PE X a D)(w:PE X b tb)(p:behindInMarks op b=false):PE X (.Compare a [op] [b] pos) (tOp r D tb):=by
 intro Z s O H Q I h;exact wpAny_Compare1 (SN A w I h λv u c x y E B i f q=>m Z c O E x y v u Q B i f q) p
def Dc(t:TE):TT:=λO H Q=>t O H λx M=>∃k,x=.bl k/\Q k M
def Z7{r:R2}(C:OpR X (compareOp op) r)(R:PE X a D)(P:PE X b tb)(K:behindInMarks op b=false):PT X (.Compare a [op] [b] pos) (Dc<|tOp r D tb):=by
 intro Z s O H Q I h;refine wpAny_isTrue_Compare1 (QE (R Z s O H _ I h) λv i ⟨x,L,g,q,B⟩=>QE (P Z i O L _ g B) λu f ⟨y,E,d,p,A⟩=>
  QE (C Z f O E x y v u _ d q p A) λc l ⟨z,j,W,m,k,e,w⟩=>?_) K
 subst e;cases m;exact wpAny_truthy_bool ⟨j,W,w⟩
def Na(r c:R2)(D tb tc:TE):TE:=λO H Q=>D O H λx L=>tb O L λy E=>r x y E λz a=>∃k,z=.bl k/\
 (if k=true then tc O a λb f=>c y b f Q else Q (.bl false) a)
def LP{r:R2}(o:OpR X (compareOp op) r)(f:OpR X (compareOp op') r')(J:PE X a D)(G:PE X b tb)(F:PE X c tc)
(t:lastMarks [op,op'] [b,c]=false:=by with_unfolding_all rfl):PE X (.Compare a [op,op'] [b,c] pos) (Na r r' D tb tc):=by
 intro Z s O H Q I h;refine Compare_chain (QE (J Z s O H _ I h) λv P ⟨x,L,S,g,n⟩=>chain_link (QE (G Z P O L _ S n) λu K ⟨y,E,N,i,l⟩=>
  QE (o Z K O E x y v u _ N g i l) λd C ⟨z,q,p,W,k,e,m⟩=>?_)) t
 subst e;cases W;refine wpAny_truthy_bool ?_;cases k with
 |false=>exact ite_ff ⟨.bl false,q,p,rfl,m⟩
 |true=>exact ite_tt (chain_last<|QE (F Z C O q _ p m)<|by rintro A B ⟨w,T,M,R,j⟩;exact f Z B O T y w u A Q M i R j)
def NB{r:R2}(G:OpR X (compareOp op) r)(f:OpR X (compareOp op') r')(S:PE X a D)(N:PE X b tb)(M:PE X c tc)
(J:lastMarks [op,op'] [b,c]=false:=by with_unfolding_all rfl):PT X (.Compare a [op,op'] [b,c] pos) (Dc<|Na r r' D tb tc):=by
 intro Z s O H Q I h;refine isTrue_chain (QE (S Z s O H _ I h) λv P ⟨x,L,I1,j,t⟩=>test_link (QE (N Z P O L _ I1 t) λu K ⟨y,E,I2,i,o⟩=>
  QE (G Z K O E x y v u _ I2 j i o) λd C ⟨z,q,p,g,k,e,m⟩=>?_)) J
 subst e;cases g;refine wpAny_truthy_bool ?_;cases k with
 |false=>
  obtain⟨k',U,F⟩:=m;cases U;exact ite_ff ⟨q,p,F⟩
 |true=>
  refine ite_tt (test_last<|QE (M Z C O q _ p m) ?_);rintro A B ⟨w,H4,I4,W,n⟩;refine QE (f Z B O H4 y w u A _ I4 i W n) ?_;rintro d' s5 ⟨z2,H5,Y,R,k2,T,l⟩;subst T;cases R;exact wpAny_truthy_bool ⟨H5,Y,l⟩
def Pa(K:W.Frag)(x:V)(H:Hp)(k:Bool):Prop:=
 match x with
 |.non=>k=false
 |.bl b=>k=b
 |.int i=>k=(i != 0)
 |.str y=>y.length<=sizeLine/\k=((y.length:Int) != 0)
 |.byt y=>y.size<=sizeLine/\k=((y.size:Int) != 0)
 |.ref p=>(∃xs,SqL K H p xs/\k = !xs.isEmpty)\/(∃xs,SqT K H p xs/\k = !xs.isEmpty)\/∃a,H p=some (.dK a)/\k = !a.isEmpty
 |_=>False
def ZpI{a:Type}{kvs:List (a×V)}{vs:List (a×Value)}(r:KV kvs vs):(!vs.isEmpty) = !kvs.isEmpty:=by
 cases r<;>rfl
def C4(r:QR xs its):(!its.toArray.isEmpty) = !xs.isEmpty:=by
 cases r<;>simp
def UW:(sizeLine:Nat)<2^63:=by rw[sizeLine_eq];decide
def AR:Z1t X (λx H Q=>∃k,Pa X.K x H k/\Q k H):=by
 intro Z s O H x v Q I f h;obtain⟨k,e,q⟩:=h;have R:=sizeLine_eq;cases x with
 |non=>
  cases f;have a:=e;subst a;exact truthy_none ⟨H,I,q⟩
 |bl b=>
  cases f;have a:=e;subst a;exact wpAny_truthy_bool ⟨H,I,q⟩
 |int i=>
  obtain⟨t,rfl⟩:=f;have a:=e;subst a;exact PySem.P.truthy_int ⟨H,I,q⟩
 |str y=>
  obtain⟨t,rfl⟩:=f;obtain⟨D,a⟩:=e;subst a;exact PySem.P.truthy_str (by lia) ⟨H,I.tok _,q⟩
 |byt y=>
  obtain⟨t,rfl⟩:=f;obtain⟨D,a⟩:=e;subst a;exact W.truthy_bytes (by lia) ⟨H,I.tok _,q⟩
 |ref p=>
  cases f;have a:=e;rcases a with ⟨xs,u,a⟩|⟨xs,u,a⟩|⟨C,u,a⟩
  .subst a;obtain⟨A,r,w,B⟩:=I.list u;have c:=r.length;exact wpAny_truthy_list w.isList (by simp only[Xv];lia) ⟨H,I.tok _,by rw[C4 r];exact q⟩
  .subst a;obtain⟨A,r,w,B⟩:=I.tuple u;have c:=r.length;exact truthy_tuple w (by simp only[Xv];lia) ⟨H,I.tok _,by rw[C4 r];exact q⟩
  .subst a;obtain⟨B,K,P,r,m⟩:=I.hok p _ u;have c:=Paired.length r;exact wpAny_truthy_dict K m (by lia) ⟨H,I.tok _,by rw[ZpI r];exact q⟩
 |_=>exact(e).elim
def L6(p:PE X a D)(m:∀b,isTrue a X.env b=(do let v <- b;standAt a.pos;holding [v] (truthy v))):
 PT X a (λO H Q=>D O H λx M=>∃k,Pa X.K x M k/\Q k M):=by
 intro Z s O H Q I h;refine isTrue_plain (QE (p Z s O H _ I h) ?_) (m _);rintro v c ⟨x,L,q,f,i⟩;exact AR Z c O L x v Q q f i
def Zqd:OpR X (binaryOp .Add) (λx y H Q=>∃i j,x=.str i/\y=.str j/\i.length+j.length<=sizeLine/\Q (.str<|i++j) H):=by
 intro Z s O H x y v u Q I c b h;obtain⟨i,j,rfl,rfl,f,q⟩:=h;obtain⟨t,rfl⟩:=c;obtain⟨a,rfl⟩:=b;exact add_str (λa m=>⟨.str<|i++j,H,I.tok _,⟨_,rfl⟩,q⟩) f
def VY(r:QR [x] us):∃u,us=[u]/\QP x u:=by
 cases r with
 |cons b a=>cases a;exact⟨_,rfl,b⟩
def BK(r:QR [x,y] us):∃u a,us=[u,a]/\QP x u/\QP y a:=by
 cases r with
 |cons h f=>
  cases f with
  |cons c b=>cases b;exact⟨_,_,rfl,h,c⟩
def Zu1:ZY X (.builtin "abs") (λxs H Q=>∃i,xs=[.int i]/\Q (.int (if i<0 then -i else i)) H):=by
 intro Z s O H xs a Q I r h;obtain⟨i,rfl,q⟩:=h;obtain⟨u,rfl,t,rfl⟩:=VY r;exact call_abs_int λu b=>⟨.int (if i<0 then -i else i),H,I.tok _,⟨_,rfl⟩,q⟩
def Zsa(b:X.calm=true):ZY X (.builtin "max") (λxs H Q=>∃i j,xs=[.int i,.int j]/\Q (.int (if j > i then j else i)) H):=by
 intro Z s O H xs f Q I r h;obtain⟨i,j,rfl,q⟩:=h;obtain⟨u,c,rfl,⟨t,rfl⟩,⟨p,rfl⟩⟩:=BK r;refine max_two_ints (I.ok.hd b) λh' m k=>⟨_,H,I.kept k,?_,q⟩
 by_cases a:j > i
 .rw[Xf a,Xf a];exact⟨_,rfl⟩
 .rw[Xc a,Xc a];exact⟨_,rfl⟩
def Zqw(b:X.calm=true):ZY X (.builtin "min") (λxs H Q=>∃i j,xs=[.int i,.int j]/\Q (.int (if j<i then j else i)) H):=by
 intro Z s O H xs f Q I r h;obtain⟨i,j,rfl,q⟩:=h;obtain⟨u,c,rfl,⟨t,rfl⟩,⟨p,rfl⟩⟩:=BK r;refine min_two_ints (I.ok.hd b) λh' m k=>⟨_,H,I.kept k,?_,q⟩
 by_cases a:j<i
 .rw[Xf a,Xf a];exact⟨_,rfl⟩
 .rw[Xc a,Xc a];exact⟨_,rfl⟩
def ZqU:ZY X (.type "int") (λxs H Q=>(∃i,xs=[.int i]/\Q (.int i) H)\/∃k,xs=[.bl k]/\Q (.int (if k then 1 else 0)) H):=by
 intro Z s O H xs b Q I r h;rcases h with ⟨i,rfl,q⟩|⟨k,rfl,q⟩
 .obtain⟨u,rfl,t,rfl⟩:=VY r;exact call_int_int ⟨.int i,H,I,⟨_,rfl⟩,q⟩
 .obtain⟨u,rfl,a⟩:=VY r;cases a;exact call_int_bool ⟨.int _,H,I.tok _,⟨_,rfl⟩,q⟩
end
end L2
namespace L2
structure ObjM(h:Heap)(x dx C:Addr)(mA:Str->Qf):Prop where
 obj:h.get? x=some (W.instObj C dx)
 ns:h.Ns1 dx mA
 ne:dx≠x
def ZqX(n:h.Ns1 dx mA):∃i,h.get? dx=some i/\∀name,W.lookIn name i=some (mA name):=by
 obtain⟨o,es,v,p,u,s,_,r⟩:=n;refine⟨o,p,λname=>?_⟩;have e:=r name;unfold nsFind findBy at e;rw[<- Array.find?_toList]at e;unfold W.lookIn;rw[u];dsimp only;split
 .rename_i y q;rw[q]at e;exact XS some e
 .rename_i q;rw[q]at e;have a:es.toList.any (·.refKey)=false:=by
   rw[List.any_eq_false];intro y m;obtain⟨z,t,f⟩:=s y (Array.mem_toList_iff.mp m);simp[DictEntry.refKey,f]
  grind
def ObjM.look(I:ObjM h x dx C mA):∃a,W.InstAt h x (W.instObj C dx) C (some a)/\∀name,W.lookIn name a=some (mA name):=
 let ⟨a,ho,hl⟩:=ZqX I.ns
 ⟨a,⟨I.obj,rfl,rfl,ho⟩,hl⟩
section
variable {x:Addr}{mA:Str->Qf}{name:Str}{v:Value}
def IA(X:K.In s.heap)(I:ObjM s.heap x dx C mA)(p:W.plainGet K C name=true)(m:W.hasDictIn K C=true)
(q:W.findIn K (.ref C) name=some none)(f:mA name=some v)(a:W.handedIn v=true)(h:Q v { s with toks:=s.toks+1 }):
 wpAny (model prog w) A (getAttr (.ref x) name expr) Q H2 s:=by
 obtain⟨r,J,i⟩:=I.look;exact W.get_value X J (W.plainGet_of p).1 (W.findObj_own m q rfl (by rw[i,f])) a h
def O5(X:K.In s.heap)(I:ObjM s.heap x dx C mA)(a:W.plainGet K C name=true)
(r:W.findIn K (.ref C) name=some (some<|.ref f))(p:W.isFn K (.ref f)=true)(m:mA name=none)(h:Q (.ref f,[.ref x]) s):
 wpAny (model prog w) A (getMethod (.ref x) name pl) Q H2 s:=by
 obtain⟨i,J,q⟩:=I.look;exact W.method_fn X J (W.plainGet_of a).1 (W.plainGet_of a).2 r (beq_iff_eq.mp p) (by show(W.lookIn name i).map _=some false;rw[q,m];rfl) h
def Op(X:K.In s.heap)(I:ObjM s.heap x dx C mA)
(B:W.findIn K (.ref C) "__setattr__"=some (some<|.builtin "object.__setattr__"))(D:W.plainOver K C=true)(u:W.takerIn K C name=some none)(O:W.hasDictIn K C=true)
(hw:PySem.Within mA ns)(hsz:ns.length<=sizeLine)
(h:∀h',ObjM h' x dx C (λy=>if y=name then some v else mA y)->Heap.SameBut dx s.heap h'->Q () { s with heap:=h',toks:=s.toks+2 }):
 wpAny (model prog w) A (setAttr (.ref x) name v) Q H2 s:=by
 obtain⟨c,J,e⟩:=I.look;refine W.set_plain X J B (W.osa_open X J D u λb=>?_);obtain⟨cd,P,p⟩:=W.any_some O;have r:=I.obj;refine Xa (Xl<|Xa<|Xa<|wpAny_loadPart r<|Xa<|W.Looks.here (W.looks_clsIn X P) ?_);rw[p];refine Xl (Xa<|Xl<|Xa ?_);refine wpAny_nsSet1 I.ns λh' f a=>?_;obtain⟨d,R,Z,i,m,q⟩:=f.count (PySem.Within.cons name v hw);refine Xa (wpAny_lookBehind i (by rw[m];exact pastItsLine_dict<|Xx q<|by rw[Wt];lia) ?_);exact Xl (h _ ⟨(a.2 _<|Ne.symm I.ne).trans I.obj,f,I.ne⟩ a)
def Zts{H0:Result->Shared->Prop}(X:K.In s.heap)(i:W.makesIn K C=true)
(m:W.findIn K (.ref C) "__init__"=some (some<|.ref f))(p:W.typeIn K (.ref f)=some (.type "function"))
(h:codeAny (model prog w) (A.under<|.builtin "type.__call__" ⟨.ref C::vs,kw⟩) (.call (.ref f) ⟨.ref (s.heap.objs.size+1)::vs,kw⟩) (W.InitBack (s.heap.objs.size+1) H0)
  { s with heap:=(s.heap.push W.emptyDict).push (W.instObj C s.heap.objs.size) }):
 codeAny (model prog w) A (.call (.ref C) ⟨vs,kw⟩) H0 s:=W.make_core (W.makes_of X i) (W.looks_findIn X m) (λa=>W.bind_fn X a p) (.inl rfl) h
end
def YA(f:Str)(v:V):List (Str×V)->List (Str×V)
 |[]=>[(f,v)]
 |(g,x)::r=>if g=f then (g,v)::r else (g,x)::YA f v r
theorem C9(f g:Str)(v:V):∀fs:List (Str×V),(YA f v fs).lookup g=if g=f then some v else fs.lookup g
 |[]=>by
  show List.lookup g [_]=_
  by_cases h:g=f
  .have a:=beq_iff_eq.mpr h;simp only[List.lookup,a,Xf h]
  .have a:=beq_eq_false_iff_ne.mpr h;simp only[List.lookup,a,Xc h]
 |(k,x)::r=>by
  have m:=C9 f g v r;rw[show YA f v _=(if k=f then _::r else _::YA f v r) from rfl];by_cases i:k=f
  .rw[Xf i]
   by_cases h:g=k
   .have a:=beq_iff_eq.mpr h;simp only[List.lookup,a,Xf<|h.trans i]
   .have a:=beq_eq_false_iff_ne.mpr h;simp only[List.lookup,a,Xc λe:g=f=>h<|e.trans i.symm]
  .rw[Xc i]
   by_cases h:g=k
   .have a:=beq_iff_eq.mpr h;simp only[List.lookup,a,Xc λe:g=f=>i<|h.symm.trans e]
   .have a:=beq_eq_false_iff_ne.mpr h;simp only[List.lookup,a];exact m
theorem NV(f:Str)(v:V):∀fs:List (Str×V),f∈(YA f v fs).map (·.1)/\∀g,g∈fs.map (·.1)->g∈(YA f v fs).map (·.1)
 |[]=>⟨by simp[YA],λg h=>by simp at h⟩
 |(k,x)::r=>by
  obtain _:=NV f v r;rw[show YA f v _=(if k=f then _::r else _::YA f v r) from rfl];grind
theorem CD(f:Str)(v:V):∀fs:List (Str×V),(YA f v fs).length<=fs.length+1
 |[]=>by simp[YA]
 |(k,x)::r=>by
  have a:=CD f v r;rw[show YA f v _=(if k=f then _::r else _::YA f v r) from rfl];by_cases h:k=f
  .simp_all
  .simp_all
def Vy.some_of(r:Vy (some v) o):∃u,o=some u/\QP v u:=by
 cases o with
 |none=>exact(r).elim
 |some u=>exact⟨u,rfl,r⟩
def Vy.none_of(r:Vy none o):o=none:=by
 cases o with
 |none=>rfl
 |some u=>exact(r).elim
def Zq6{u:Value}(r:QP v u):W.handedIn u=true:=by
 cases v with
 |non=>cases (r);rfl
 |bl b=>cases (r);rfl
 |int i=>obtain⟨t,e⟩:=(r);cases e;rfl
 |str x=>obtain⟨t,e⟩:=(r);cases e;rfl
 |byt b=>obtain⟨t,e⟩:=(r);cases e;rfl
 |flt b=>obtain⟨t,e⟩:=(r);cases e;rfl
 |ref a=>cases (r);rfl
 |ty n=>cases (r);rfl
section
variable {H:Hp}{fs:List (Str×V)}
def Nr(m:HOk P w H h)(e:H a=some (.ins C dx fs)):∃i,ObjM h a dx C i/\(∀f,Vy (fs.lookup f)<|i f)/\PySem.Within i (fs.map (·.1))/\fs.length<=1000/\H dx=some (.own a):=by
 obtain⟨d,z,s,p,i,n,r,q⟩:=(m a _ e)
 exact⟨i,⟨p,n,s⟩,r,q,z,d⟩
end
structure Cls(K:W.Frag)(C:Addr):Prop where
 pg:W.plainGet K C Str.empty=true
 hd:W.hasDictIn K C=true
 po:W.plainOver K C=true
 sa:W.findIn K (.ref C) "__setattr__"=some (some<|.builtin "object.__setattr__")
def Cls.get(c:Cls K C)(f:Str):W.plainGet K C f=true:=c.pg
def Jh(K:W.Frag)(C:Addr)(f:Str):Prop:=W.findIn K (.ref C) f=some none
def Jh.taker{f:Str}(n:Jh K C f):W.takerIn K C f=some none:=by
 unfold W.takerIn;rw[show W.findIn K _ f=some none from n];rfl
structure Meth(K:W.Frag)(C:Addr)(m:Str)(f:Addr):Prop where
 at_:W.findIn K (.ref C) m=some (some<|.ref f)
 fn:W.isFn K (.ref f)=true
 kp:W.keepIn K (.ref f)=true
section
variable {H:Hp}{fs:List (Str×V)}{f:Str}
def ZpM{b:Bool}(I:Qt X Z O H s)(e:H a=some (.ins C dx fs))(c:Cls X.K C)(n:Jh X.K C f)(l:fs.lookup f=some v)
(h:∀u i,Qt X Z O H i->QP v u->Q u i):wpAny (model X.prog X.w) A (getAttr (.ref a) f b) Q H2 s:=by
 obtain⟨w,p,r,_,_,_⟩:=Nr I.hok e;obtain⟨u,q,m⟩:=Vy.some_of (by rw[<- l];exact r f);exact IA I.kIn p (c.get f) c.hd n q (Zq6 m) (h u _ (I.tok _) m)
def Zpg{g:Addr}(I:Qt X Z O H s)(e:H a=some (.ins C dx fs))(c:Cls X.K C)(k:Meth X.K C m g)(l:fs.lookup m=none)
(h:Q (.ref g,[.ref a]) s):wpAny (model X.prog X.w) A (getMethod (.ref a) m pl) Q H2 s:=by
 obtain⟨p,f,r,_,_,_⟩:=Nr I.hok e;have i:=Vy.none_of (by rw[<- l];exact r m);exact O5 I.kIn f (c.get m) k.at_ k.fn i h
def ZoY{u:Value}(I:Qt X Z O H s)(e:H a=some (.ins C dx fs))(c:Cls X.K C)(n:Jh X.K C f)(j:fs.length<1000)(D:QP y u)
(h:∀v,Qt X Z O (upd H a<|.ins C dx<|YA f y fs) v->Q () v):wpAny (model X.prog X.w) A (setAttr (.ref a) f u) Q H2 s:=by
 obtain⟨d,i,r,p,_,w⟩:=Nr I.hok e;have K:(fs.map (·.1)).length<=sizeLine:=by rw[Xi,sizeLine_eq];lia
 refine Op I.kIn i c.sa c.po n.taker c.hd p K λh' m B=>h _ ?_;have R:∃o,h'.get? dx=some o:=let ⟨o,_,_,e',_⟩:=m.ns;⟨o,e'⟩;refine I.write (by rw[e];exact True.intro) (.inr w) (λb q W z=>(B.2 b W).trans z) R ?_;refine⟨by rw[Q6 i.ne];exact w,?_,i.ne,m.obj,_,m.ns,λg=>?_,λg P=>?_⟩
 .have:=CD f y fs;lia
 .rw[C9]
  by_cases q:g=f
  .rw[Xf q,Xf q];exact D
  .simp_all
 .by_cases q:g=f
  .rw[q];exact(NV f y fs).1
  .refine(NV f y fs).2 g (p g λz=>P ?_);simp_all
def Qt.made(I:Qt X Z O H s):Qt X Z O (upd (upd H s.heap.objs.size<|.own<|s.heap.objs.size+1) (s.heap.objs.size+1)<|.ins C s.heap.objs.size [])
 { s with heap:=(s.heap.push W.emptyDict).push (W.instObj C s.heap.objs.size) }:=by
 have f:(s.heap.push W.emptyDict).get? s.heap.objs.size=some W.emptyDict:=XG s.heap rfl;have p:=by
  have:=XG (s.heap.push W.emptyDict) (o:=W.instObj C s.heap.objs.size) rfl;rwa [Jx]at this
 have m:(s.heap.push W.emptyDict).Ns s.heap.objs.size _:=⟨W.emptyDict,#[],_,f,rfl,(λe i=>Xr i<|by simp),λ_=>rfl⟩;have r:=I.laid (o:=.own (s.heap.objs.size+1)) (t':=s.toks) (λb u q=>Xd _ q) (Xn _) ⟨_,f⟩;refine r.laid (λb u q=>Xd _ q) (Nat.le_of_eq<|Jx _ _) ?_;have a:s.heap.objs.size≠s.heap.objs.size+1:=Xq (UD _);refine⟨by rw[Q6 a,QT],X3 _,a,p,λ_=>none,(Heap.Ns1.of_empty m).at λo q=>Xd _ q,λ_=>True.intro,λy h=>Xr rfl h⟩
def Oe(a:attributeBase e f env (eval e env)=eval e env)
(h:wpAny (model prog w) A (eval e env) (λo i=>wpAny (model prog w) A (getAttr o f true) Q H2 i) H2 s):wpAny (model prog w) A (eval (.Attribute e f pos) env) Q H2 s:=
 Attribute_any_ h (by rw[arm_eval_Attribute,a])
end
def Wf(K:W.Frag)(D:TE)(f:Str):TE:=λO H Q=>D O H λx L=>∃a C dx h v,x=.ref a/\L a=some (.ins C dx h)/\Cls K C/\Jh K C f/\h.lookup f=some v/\Q v L
def Z1u(K:W.Frag)(D tv:TE)(f:Str):TS:=λi O H=>tv O H λy L=>D O L λx E=>∃a C dx h,x=.ref a/\E a=some (.ins C dx h)/\Cls K C/\Jh K C f/\h.length<1000/\
 i.nx O (upd E a<|.ins C dx<|YA f y h)
section
variable {o e value:Expr}{f:Str}{pos:Pos}
def Yc(o:PE X e D)(p:attributeBase e f X.env (eval e X.env)=eval e X.env:=by rfl):PE X (.Attribute e f pos) (Wf X.K D f):=by
 intro Z s O H Q I h;refine Oe p (QE (o Z s O H _ I h) ?_);rintro u P ⟨x,L,A,i,a,C,dx,R,v,r,w,c,n,l,q⟩;subst r;obtain rfl:=i;exact ZpM A w c n l λB K y m=>⟨v,L,y,m,q⟩
def Dw(w:PE X o D)(r:PE X value tv)(v:swapsWith value (some<|.Attribute o f pos') pos.line X.env=pure false):PS X (.Assign [.Attribute o f pos'] value pos) (Z1u X.K D tv f):=by
 intro Z s O H W I h;refine plainObj_wpAny_Assign_Attribute (QE (r Z s O H _ I h) ?_) v;rintro u e ⟨y,L,R,i,q⟩;refine QE (w Z e O L _ R q) ?_;rintro g d ⟨x,E,P,m,a,C,dx,j,A,B,c,n,l,p⟩;subst A;obtain rfl:=m;exact ZoY P B c n l i λb K=>⟨O,_,K,p⟩
end
end L2
namespace L2
structure Room(k:Nat)(A:Around):Prop where
 hd:A.handled=none
 dp:A.depth+3*k+5<recursionLimit
 un:A.units+16*k+200<cLine
def Room.mono(r:Room k A)(h:j<=k):Room j A:=⟨r.hd,by have:=r.dp;lia,by have:=r.un;lia⟩
def Room.deeper(r:Room (k+1) A)(a:Env):Room k (A.deeper a):=
 ⟨r.hd,by have:=r.dp;show A.depth+1+3*k+5<_;lia,by have:=r.un;show A.units+3+16*k+200<_;lia⟩
def ZpN   : (A.under<|.builtin "type.__call__" ⟨.ref C::us,kw⟩).depth=A.depth+1:=by
 first|rfl|simp[ guardIds]
def ZoV   : (A.under<|.builtin "type.__call__" ⟨.ref C::us,kw⟩).units=A.units+1:=by
 first|rfl|simp[Around.under]
def Room.make  (r:Room (k+1) A)(C:Addr)(us:Qe)(a:List (Str×Value)):Room k (A.under<|.builtin "type.__call__" ⟨.ref C::us,a⟩):=
 ⟨r.hd,by have:=r.dp;rw[ZpN];lia,by have:=r.un;rw[ZoV];lia⟩
def Room.depth(r:Room k A):A.depth<recursionLimit:=by have:=r.dp;lia
def Room.units(r:Room k A):A.units+64<cLine:=by have:=r.un;lia
def Zo:TA:=λ_ H Q=>Q [] H
def QX(D:TE)(a:TA):TA:=λO H Q=>D O H λx L=>a O L λxs E=>Q (x::xs) E
section
variable {e:Expr}{t:TA}{pos:Pos}
def Qq:PA X [] Zo:=λ_ _ _ _ H Q I h=>Calls.spliced_nil ⟨[],H,I,.nil,h⟩
abbrev zs(X:Cx)(e:Expr)(es:List Expr):Prop:=starEach (e::es) X.env=(false,eval e X.env)::starEach es X.env
abbrev zb(X:Cx)(pos:Pos)(es:List Expr):Prop:=(backTo pos<|starEach es X.env).any (·.1)=false
def Qu(v:PE X e te)(r:PA X es t)(q:zs X e es:=by rfl):PA X (e::es) (QX te t):=by
 intro pos Z s O H Q I h;rw[q];show wpAny _ _ (spliced ((false,eval e X.env)::backTo pos _)) _ _ s;refine Calls.spliced_cons (QE (v Z s O H _ I h) ?_);rintro u a ⟨x,L,y,i,p⟩;refine QE (r pos Z a O L _ y p) ?_;rintro A B ⟨xs,E,w,f,m⟩;exact⟨x::xs,E,w,.cons i f,m⟩
def GB(t:TA):TE:=λO H Q=>t O H λxs L=>xs.length<=sizeLine/\∀p,L p=none->Q (.ref p) (upd L p<|.tup xs)
def MT(t:TA):TE:=λO H Q=>t O H λxs L=>xs.length<=sizeLine/\∀p,L p=none->Q (.ref p) (upd L p<|.lst xs)
def Z1{x1}(h:PA X es t):PE X (.Tuple es x1 pos) (GB t):=by
 intro Z s O H Q I m;refine wpAny_Tuple_spliced (QE (h pos Z s O H _ I m) ?_);rintro i a ⟨xs,L,f,r,z,q⟩;refine⟨by rw[<- r.length];exact z,?_⟩;have p:=f.hok.fresh (Xn _);refine⟨.ref a.heap.objs.size,upd L a.heap.objs.size _,f.laid (λb u e=>Xd _ e) (Xn _) ?_,rfl,q _ p⟩;exact⟨z,i,r,⟨_,XG _ rfl,rfl,_,rfl⟩⟩
def Vo(h:PA X es t):PE X (.List es pos) (MT t):=by
 intro Z s O H Q I m;refine wpAny_List_spliced (QE (h pos Z s O H _ I m) ?_);rintro i a ⟨xs,L,f,r,z,q⟩;refine⟨by rw[<- r.length];exact z,?_⟩;have p:=f.hok.fresh (Xn _);refine⟨.ref a.heap.objs.size,upd L a.heap.objs.size _,f.laid (λb u e=>Xd _ e) (Xn _) ?_,rfl,q _ p⟩;exact⟨z,i,0,r,XG _ rfl⟩
end
abbrev Sp:=List V->Hp->VK->XK->Prop
abbrev CXT:=List Env->Hp->Shared->XK->Qb
structure Env0(P:Program)(w:World)(K:W.Frag)(mg:Str->Qf)(base:Heap)(A:Around)(outer:List Env)(s:Shared)(H:Hp):Prop where
 frames:A.frames=some outer
 mod:Mod K mg base
 bs:∀b o,base.get? b=some o->s.heap.get? b=some o/\(H b=none\/∃xs,H b=some (.tup xs))
 bsz:base.objs.size<=s.heap.objs.size
 funs:s.heap.FunFrames base outer
 frf:∀b∈frs outer,H b=none
 hok:HOk P w H s.heap
 bare:AllBare s.gens
def CE(outer:List Env)(P:Program)(w:World)(H:Hp)(s:Shared)(Q:VK)(u:Value)(a:Shared):Prop:=
 ∃v M,a.os=s.os/\AllBare a.gens/\Un (frs outer) [] H M s.heap a.heap/\HOk P w M a.heap/\QP v u/\Q v M
def CR(f:CXT)(outer:List Env)(P:Program)(w:World)(H:Hp)(s:Shared)(Q:VK)(H2:XK)(r:Result)(a:Shared):Prop:=
 match r with
 |.ok (.ret u)=>CE outer P w H s Q u a
 |.ok _=>False
 |.error e=>f outer H s H2 e a
structure FnOk(P:Program)(w:World)(K:W.Frag)(mg:Str->Qf)(base:Heap)(CX:CXT)(k:Nat)(f:Addr)(fd:FuncData)(ps:Qh)(sp:Sp):Prop where
 len:∀vs H Q H2,sp vs H Q H2->vs.length=ps.length
 run:∀(A:Around) (outer:List Env) (s:Shared) (H:Hp) (args:Args) (us:Qe) (vs:List V) (Q:VK) (H2:XK),Room k A->Env0 P w K mg base A outer s H->BindsTo s fd args (ps.zip us)->QR vs us->sp vs H Q H2->
  codeAny (model P w) A (.call (.ref f) args) (CR CX outer P w H s Q H2) s
def Env0.make(e:Env0 P w K mg base A outer s H)(C:Addr)(us:Qe)(a:List (Str×Value)):
 Env0 P w K mg base (A.under<|.builtin "type.__call__" ⟨.ref C::us,a⟩) outer s H:=⟨by first|exact e.frames|(simpa [ pushEnvs] using e.frames),e.mod,e.bs,e.bsz,e.funs,e.frf,e.hok,e.bare⟩
section
variable {H:Hp}{s':Shared}
def Qt.env0(I:Qt X Z O H s):Env0 X.prog X.w X.K X.mg X.base X.A X.stack s H:=
 ⟨I.ok.frames,I.ok.mod,I.bs,Xx I.ok.bsz I.sz,I.stack,I.stkFree,I.hok,I.bare⟩
def Qt.after{u:Value}(I:Qt X Z O H s)(h:CE X.stack X.prog X.w H s Q u s'):EP X Z O Q u s':=by
 obtain⟨v,M,p,a,i,f,r,q⟩:=h;obtain⟨w,g,d,t,m⟩:=s';obtain rfl:=p;exact⟨v,M,I.call i f a (λb z=>Xr z<|by simp),r,q⟩
end
def YC(h:Sp)(a:List V)(H2:XK)(t:TA):TE:=λO H Q=>t O H λf L=>h (f++a) L Q H2
def GI(C:Addr)(m:Str)(p:Sp)(f:List V)(H2:XK)(D:TE)(t:TA):TE:=λO H Q=>D O H λx L=>∃a dx h,x=.ref a/\L a=some (.ins C dx h)/\h.lookup m=none/\
 t O L λi E=>p (x::(i++f)) E Q H2
def Kx(C:Addr)(h:Sp)(a:List V)(H2:XK)(t:TA):TE:=λO H Q=>t O H λf L=>∀x dx,L x=none->L dx=none->dx≠x->
 h (.ref x::(f++a)) (upd (upd L dx<|.own x) x<|.ins C dx []) (λv E=>v=.non/\Q (.ref x) E) H2
def VH(K:W.Frag)(fd:FuncData)(ps:Qh)(ds:Qe):Prop:=
 ∀(s:Shared) (a:Qe),K.In s.heap->(a++ds).length=ps.length->BindsTo s fd ⟨a,[]⟩ (ps.zip<|a++ds)
def VH.all(h:∀us:Qe,us.length=ps.length->bindArgs fd ⟨us,[]⟩=pure (ps.zip us)):VH K fd ps []:=λs us _ a=>by
 rw[XN]at a ⊢;exact .of_eq (h us a)
def Jn(f:CXT)(X:Cx)(H2:XK):Prop := ∀(Z:Qc) (O:St) (H:Hp) (s:Shared) (e:Value) (a:Shared),Qt X Z O H s->f X.stack H s H2 e a->X.xe e a
section
variable {CX:CXT}{k:Nat}{sp:Sp}{dvs:List V}{ds:Qe}{H2:XK}{x:Str}{pos:Pos}{e o:Expr}{t:TA}
def PV{H:Hp}{Q:VK}{us:Qe}{vs:List V}(F:FnOk X.prog X.w X.K X.mg X.base CX k f fd ps sp)(p:Room k X.A)(v:VH X.K fd ps ds)(t:QR dvs ds)(o:Jn CX X H2)
(I:Qt X Z O H s)(r:QR vs us)(h:sp (vs++dvs) H Q H2):wpAny (model X.prog X.w) X.A (call (.ref f) us) (EP X Z O Q) X.xe s:=by
 have i:=r.append t;have q:(us++ds).length=ps.length:=by rw[<- i.length];exact F.len _ _ _ _ h
 refine wpAny_call (codeAny_mono (F.run X.A X.stack s H _ _ _ Q H2 p I.env0 (v s us I.kIn q) i h) λr m a=>?_);cases r with
 |error e=>exact o Z O H s e m I a
 |ok w=>
  cases w with
  |ret u=>exact I.after a
  |next=>exact False.elim a
  |brk=>exact False.elim a
  |cont=>exact False.elim a
def TF(F:FnOk X.prog X.w X.K X.mg X.base CX k f fd ps sp)(u:Room k X.A)(y:Gl X x)(v:X.mg x=some (.ref f))(w:W.keepIn X.K (.ref f)=true)(C:VH X.K fd ps ds)(B:QR dvs ds)(o:Jn CX X H2)
(D:PA X (e::es) t)(i:(x==("__debug__" : Str))=false:=by decide)(A:zs X e es:=by rfl)(a:zb X pos es:=by rfl):
 PE X (.Call (.Name x p) (e::es) [] pos) (YC sp dvs H2 t):=by
 intro Z s O H Q I h;refine wpAny_Call_Name_kw (Gj I y v ?_ i);refine W.callWith_K I.ok.mod.kin w (QE (D pos Z s O H _ I h) ?_) A a;rintro P R ⟨K,L,m,r,q⟩;refine⟨m.kIn,?_⟩;exact PV F u C B o m r q
def Ir{P:Sem Bool}(g:PE X o D)(c:Cls X.K C)(v:Meth X.K C m f)(F:FnOk X.prog X.w X.K X.mg X.base CX k f fd ps sp)(d:Room k X.A)(n:VH X.K fd ps ds)(j:QR dvs ds)(R:Jn CX X H2)(z:PA X (e::es) t)
(i:zs X e es:=by rfl)(p:zb X pos es:=by rfl)
(b:eval (.Call (.Attribute o m X1) (e::es) [] pos) X.env=(do
  let ov <- eval o X.env
  standAt X1.atName
  let (f,first) <- holding [ov] (getMethod ov m P)
  callWith pos f first (backTo pos<|starEach (e::es) X.env)<|backToKw pos<|keywordEach [] X.env):=by rfl):
 PE X (.Call (.Attribute o m X1) (e::es) [] pos) (GI C m sp dvs H2 D t):=by
 intro Z s O H Q I h;refine W.methodCall_KW (QE (g Z s O H _ I h) ?_) b;rintro u A ⟨x,L,y,B,a,dx,S,G,J,l,q⟩;subst G;obtain rfl:=B;refine Zpg y J c v l ?_;refine W.callWith_K I.ok.mod.kin v.kp (QE (z pos Z A O L _ y q) ?_) i p;rintro M N ⟨vs,E,w,r,K⟩;refine⟨w.kIn,?_⟩;exact PV (vs:=.ref a::vs) F d n j R w (.cons rfl r) K
structure Mk(K:W.Frag)(C f:Addr):Prop where
 makes:W.makesIn K C=true
 init:W.findIn K (.ref C) "__init__"=some (some<|.ref f)
 fn:W.isFn K (.ref f)=true
 kp:W.keepIn K (.ref C)=true
def ZsY{H:Hp}{Q:VK}{us:Qe}{vs:List V}(H':Mk X.K C f)(F:FnOk X.prog X.w X.K X.mg X.base CX k f fd ps sp)(y:Room (k+1) X.A)(D:VH X.K fd ps ds)(B:QR dvs ds)
(w:Jn CX X H2)(I:Qt X Z O H s)(r:QR vs us)
(h:∀x dx,H x=none->H dx=none->dx≠x->sp (.ref x::(vs++dvs)) (upd (upd H dx<|.own x) x<|.ins C dx []) (λv E=>v=.non/\Q (.ref x) E) H2):
 wpAny (model X.prog X.w) X.A (call (.ref C) us) (EP X Z O Q) X.xe s:=by
 have o:=h (s.heap.objs.size+1) s.heap.objs.size (I.hok.fresh<|Nat.le_succ _) (I.hok.fresh<|Xn _) (Xq<|UD _);have i:=Qt.made (C:=C) I;have m:QR (V.ref (s.heap.objs.size+1)::_) _:=.cons rfl (r.append B);have A:=by
  have e:=m.length;rw[F.len _ _ _ _ o]at e;exact e.symm
 refine wpAny_call (Zts I.kIn H'.makes H'.init (beq_iff_eq.mp H'.fn) (codeAny_mono (F.run _ X.stack _ _ _ _ _ _ H2 (y.make C us [])
  (i.env0.make C us []) (D _ _ i.kIn A) m o) λr p a=>?_))
 cases r with
 |error e=>exact w Z O _ _ e p i a
 |ok K=>
  cases K with
  |ret u=>
   obtain⟨v,M,R,q,P,t⟩:=i.after a;subst P;exact⟨q,⟨V.ref _,M,R,rfl,t⟩⟩
  |next=>exact False.elim a
  |brk=>exact False.elim a
  |cont=>exact False.elim a
def ZuQ(H':Mk X.K C f)(F:FnOk X.prog X.w X.K X.mg X.base CX k f fd ps sp)(i:Room (k+1) X.A)(o:Gl X x)(m:X.mg x=some (.ref C))(r:VH X.K fd ps ds)(q:QR dvs ds)(e:Jn CX X H2)
(a:(x==("__debug__" : Str))=false:=by decide):PE X (.Call (.Name x p) [] [] pos) (Kx C sp dvs H2 Zo):=by
 intro Z s O H Q I h;refine wpAny_Call_Name_kw (Gj I o m ?_ a);exact W.callWith_K0 I.kIn H'.kp (ZsY (us:=[]) H' F i r q e I .nil h)
end
structure Qo(N P:Qh)(sc:Scope):Prop where
 kind:sc.kind=.function
 co:sc.isCoroutine=false
 gen:sc.isGenerator=false
 nd:N.Nodup
 pre:N.take P.length=P
 par:∀x∈P,sc.names.lookup x=some .local\/sc.names.lookup x=some .cell
 nofree:∀y∈sc.names,y.2≠.free
theorem FX{f:Str->Option NameKind}{x:Str}:∀{a:List (Str×Value)} {m:Str->Qf},(∀v,(x,v)∉a)->bindL f a m x=m x
 |[],_,_=>rfl
 |(n,v)::r,m,h=>by
  unfold bindL;rw[FX λw i=>h w<|Xg _ i];split
  .have:x≠n:=by rintro rfl;exact h v Xb
   simp[this]
  .rfl
theorem Fx{f:Str->Option NameKind}{x:Str}:∀{a:List (Str×Value)} {m:Str->Qf},(∀v,(x,v)∉a)->bindC f a m x=m x
 |[],_,_=>rfl
 |(n,v)::r,m,h=>by
  unfold bindC;rw[Fx λw i=>h w<|Xg _ i];split
  .rfl
  .have:x≠n:=by rintro rfl;exact h v Xb
   simp[this]
theorem Fw{a:Str->Option NameKind}{x:Str}{v:Value}:∀{P:Qh} {vs:Qe} {i:Nat} {m:Str->Qf},P.Nodup->P[i]?=some x->vs[i]?=some v->a x=some .local->
 bindL a (P.zip vs) m x=some v
 |[],_,_,_,_,h,_,_=>by simp at h
 |_::_,[],_,_,_,_,h,_=>by simp at h
 |p::P,w::vs,0,m,r,q,f,s=>by
  simp at q f;subst q;subst f;show bindL a (_::P.zip vs) m p=_;unfold bindL;rw[FX λv u=>(XY.mp r).1 (List.of_mem_zip u).1,Xf s]
  simp
 |p::P,w::vs,i+1,m,r,q,f,s=>by
  unfold bindL;exact Fw (XY.mp r).2 (by simpa using q) (by simpa using f) s
theorem FV{a:Str->Option NameKind}{x:Str}{v:Value}:∀{P:Qh} {vs:Qe} {i:Nat} {m:Str->Qf},P.Nodup->P[i]?=some x->vs[i]?=some v->a x≠some .local->
 bindC a (P.zip vs) m x=some v
 |[],_,_,_,_,h,_,_=>by simp at h
 |_::_,[],_,_,_,_,h,_=>by simp at h
 |p::P,w::vs,0,m,r,q,f,s=>by
  simp at q f;subst q;subst f;show bindC a (_::P.zip vs) m p=_;unfold bindC;rw[Fx λv u=>(XY.mp r).1 (List.of_mem_zip u).1,Xc s]
  simp
 |p::P,w::vs,i+1,m,r,q,f,s=>by
  unfold bindC;exact FV (XY.mp r).2 (by simpa using q) (by simpa using f) s
def start(N:Qh)(vs:List V):St:=vs.map some++List.replicate (N.length-vs.length) none
def JZ(h:CXT)(P:Program)(w:World)(K:W.Frag)(mg:Str->Qf)(base:Heap)(N:Qh)(qual:Str)(scope:Scope)(f:Addr)(cd:Value)(A:Around)(outer:List Env)(s:Shared)(H:Hp)(H2:XK):Cx where
 prog:=P
 w:=w
 K:=K
 mg:=mg
 base:=base
 A:=A.deeper (envOfC qual scope s.heap.objs.size f cd)
 N:=N
 s₀:=s
 H₀:=H
 env:=envOfC qual scope s.heap.objs.size f cd
 outer:=outer
 stack:=envOfC qual scope s.heap.objs.size f cd::outer
 ex:=[]
 calm:=true
 fn:=λ_=>true
 pn:=[]
 xe:=λe i=>wpAny (model P w) (A.deeper<|envOfC qual scope s.heap.objs.size f cd) (leaving (envOfC qual scope s.heap.objs.size f cd) e) (λ_ a=>h outer H s H2 e a) (λm a=>h outer H s H2 m a) i
def LX{sc:Scope}(h:sc.names.lookup x=some .cell):∃c,(cellsFrom n sc.names []).lookup x=some c:=by
 have q:=W.cellsFrom_some sc.names n [] (.inl h);exact Option.isSome_iff_exists.mp q
def Zqt{H2:XK}
(S:Qo N ps scope)(g:A.handled=none)(e0:Env0 P w K mg base A outer s H)(n:vs.length=ps.length)(r:QR vs us)
(x:InCallC s s.heap.objs.size (bindL (envOfC qual scope s.heap.objs.size f cd).kindOf (ps.zip us) λ_=>none) (cellsFrom (s.heap.objs.size+1) scope.names []) (bindC (envOfC qual scope s.heap.objs.size f cd).kindOf (ps.zip us) λ_=>none) s1):
 Qt (JZ CX P w K mg base N qual scope f cd A outer s H H2) [] (start N vs) H s1:=by
 have d:ps.length<=N.length:=by have:=XS List.length S.pre;rw[B4]at this;lia
 obtain⟨R,l,rfl,X⟩:=x.done;have m:∀b:Addr,b∉(JZ CX P w K mg base N qual scope f cd A outer s H H2).ex:=λb z=>Xr (show b∈([]) from z) (by simp)
 refine⟨⟨e0.mod,S.kind,rfl,rfl,Xn _,λy z c R a=>?_,λy C=>?_,λy c _ h=>?_,λ_=>g,Around.frames_deeper e0.frames,.inr ⟨rfl,rfl⟩,λb z=>Xr z<|m b,e0.bs,e0.bsz,λb _ _=>m b,λb z=>Xr z<|m b,e0.funs,e0.frf⟩,
  rfl,e0.bare,Un.kept X,⟨_,x.toInCall.ns,λi y v R a o=>?_⟩,λy c h=>⟨_,x.cell y c h⟩,e0.hok.fresh<|Xn _,λy c h=>?_,λp D=>Xr (show p∈([]) from D)<|by simp,e0.hok.kept X,?_⟩
 .exact name_of_addr x.apart (PySem.mem_of_lookup R) (PySem.mem_of_lookup a)
 .rcases C with C|C
  .exact LX C
  .exact Xr rfl (S.nofree _<|PySem.mem_of_lookup C)
 .exact X4 (x.above y c<|PySem.mem_of_lookup h)
 .have O:i<vs.length:=by
   unfold start at a;by_cases O:i<vs.length
   .exact O
   .rw[MK<|by simpa using O]at a;rw[List.getElem?_replicate]at a;split at a<;>cases a
  have j:vs[i]?=some v:=by
   unfold start at a;rw[Bw<|by simpa using O]at a;simp_all
  obtain⟨u,W,Z⟩:=r.get j;have D:ps[i]?=some y:=by
   rw[<- S.pre,List.getElem?_take_of_lt<|by lia];exact R
  have B:ps.Nodup:=by rw[<- S.pre];exact S.nd.sublist (List.take_sublist _ _)
  refine⟨u,Z,?_⟩;rcases S.par y (List.mem_of_getElem? D) with k|k
  .exact .inl ⟨k,Fw B D W k⟩
  .obtain⟨c,e⟩:=LX k;refine .inr ⟨.inl k,c,e,?_⟩;have q:=x.cell y c e;rw[FV B D W<|by show scope.names.lookup y≠_;rw[k];decide]at q;exact q
 .exact e0.hok.fresh (X4<|x.above y c<|PySem.mem_of_lookup h)
 .unfold start;show _=N.length;rw[Xy,Xi,List.length_replicate];lia
def P8{Z:CXT}{base:Heap}{k:Nat}{name:Str}{h:Arguments}{i:List Stmt}{T kV X L a U oc:Value}{an od:Qj}
{j:Array (Qf)}{N:Qh}{c:Sp}(lk:K.lookup f=some ⟨oc,od,.func<|W.fnOf name qual h i scope T kV X L an a U,j⟩)(E:W.codeIn K a qual=true)(S:Qo N ps scope)
(C:∀vs H Q H2,c vs H Q H2->vs.length=ps.length)
(F:∀(A:Around) (outer:List Env) (s:Shared) (H:Hp) (vs:List V) (Q:VK) (H2:XK),Room k (A.deeper<|envOfC qual scope s.heap.objs.size f a)->c vs H Q H2->
  ∃t,PSs (JZ Z P w K mg base N qual scope f a A outer s H H2) i t/\t { nx:=λ_ M=>Q .non M,rt:=Q } (start N vs) H):
 FnOk P w K mg base Z (k+1) f (W.fnOf name qual h i scope T kV X L an a U) ps c:=by
 refine⟨C,λA outer s H Y us vs Q H2 z R hb r D=>?_⟩;have hl:=C _ _ _ _ D;have KX:=R.mod.kin.keeps λb o e=>(R.bs b o e).1;have l:=R.mod.nolimit.keeps λb o e=>(R.bs b o e).1
 have p:∀y∈ps.zip us,scope.names.lookup y.1=some .local\/(scope.names.lookup y.1=some .cell/\((cellsFrom (s.heap.objs.size+1) scope.names []).lookup y.1).isSome=true):=λ⟨n,v⟩ hy=>by
  rcases S.par n (List.of_mem_zip hy).1 with q|q
  .exact .inl q
  .exact .inr ⟨q,W.cellsFrom_some _ _ _<|.inl q⟩
 refine codeAny_call_function z.depth (KX _ _ lk) rfl S.co S.gen rfl (W.codeRec_of KX E) (hb _ _ _ _ ?_);refine wpAny_newFunctionEnv_cells S.kind p λenv he G x=>?_;subst he;refine⟨l.keeps x.toInCall.keep,codeAny_func ?_⟩;obtain⟨t,ht,hq⟩:=F A outer s H vs Q H2 (z.deeper _) D;have I:Qt (JZ Z P w K mg base N qual scope f a A outer s H H2) [] _ H G:=Zqt S z.hd R hl r x;refine wpAny_mono (ht [] G _ H _ I hq) (λfl d B=>?_) λe d B=>B
 have O:∀{m:St} {M:Hp} {v:V} {u:Value},Qt (JZ Z P w K mg base N qual scope f a A outer s H H2) [] m M d->QP v u->Q v M->CE outer P w H s Q u d:=
  λ{m M v u} J g q=>⟨v,M,J.os,J.bare,J.base,J.hok,g,q⟩
 cases fl with
 |ret u=>
  obtain⟨v,m,M,J,g,q⟩:=B;exact O J g q
 |next=>
  obtain⟨m,M,J,q⟩:=B;exact O (v:=V.non) J rfl q
 |brk=>
  obtain⟨_,_,_,q⟩:=B;exact False.elim q
 |cont=>
  obtain⟨_,_,_,q⟩:=B;exact False.elim q
end L2
namespace L2
section
variable {x:Str}{pos:Pos}{e:Expr}{t:TA}{id T:String}{r:List V->Hp->VK->Prop}
def tCB(r:List V->Hp->VK->Prop)(t:TA):TE:=λO H Q=>t O H λa L=>r a L Q
def QW(C:ZY X (.builtin id) r)(A:Gl X x)(y:X.mg x=none)(w:bootBuiltins x=some (.builtin id))(D:PA X (e::es) t)(hn:x ≠ "__name__" := by decide)(f:(x==("__debug__" : Str))=false:=by decide)
(B:zs X e es:=by rfl)(a:zb X pos es:=by rfl):PE X (.Call (.Name x p) (e::es) [] pos) (tCB r t):=by
 intro Z s O H Q I h;refine wpAny_Call_Name_kw (JE I A y w ?_ hn f);refine PyProof.Rows.callWith_builtin1 (QE (D pos Z s O H _ I h) ?_) B a;rintro m q ⟨i,L,K,u,v⟩;exact C Z q O L i m Q K u v
def VB(C:ZY X (.type T) r)(A:Gl X x)(y:X.mg x=none)(w:bootBuiltins x=some (.type T))(D:PA X (e::es) t)(hn:x ≠ "__name__" := by decide)(f:(x==("__debug__" : Str))=false:=by decide)
(B:zs X e es:=by rfl)(a:zb X pos es:=by rfl):PE X (.Call (.Name x p) (e::es) [] pos) (tCB r t):=by
 intro Z s O H Q I h;refine wpAny_Call_Name_kw (JE I A y w ?_ hn f);refine PyProof.Rows.callWith_type1 (QE (D pos Z s O H _ I h) ?_) B a;rintro m q ⟨i,L,K,u,v⟩;exact C Z q O L i m Q K u v
end
end L2
namespace HT
def cat_tup{b:Addr}{vs ws:Qe}(K:IsTup s.heap t vs.toArray)(O:IsTup s.heap b ws.toArray)(y:vs≠[])
(R:ws=[]->Q (.ref t) s)(P:ws≠[]->Q (.ref s.heap.objs.size) { s with heap:=s.heap.push { cls:=.type "tuple",data:=.seq (vs++ws).toArray } })
(hsz:vs.length+ws.length<=sizeLine):wpAny (model prog w) A (binaryOp .Add (.ref t)<|.ref b) Q H2 s:=by
 obtain⟨⟨cls,dd,data,u⟩,q,C,n,B⟩:=id K;obtain⟨⟨D,m,r,f⟩,a,i,v,h⟩:=id O;simp only at C B i h;subst C B i h;have e:vs.toArray++ws.toArray=(vs++ws).toArray:=by simp
 by_cases p:ws=[]
 .exact concat_meets ⟨_,q,rfl⟩ ⟨_,a,rfl⟩ noFill_tuple_add seq_tuple_add PySem.F.slot_tuple_add PySem.F.entry_tuple_add (PySem.F.args_tuple_add_2 _ _)
   (tuple_addW1 t b vs.toArray ws.toArray n v dd m u f (by simpa using y)<|by simp[p]) ⟨q,a,R p⟩
 .refine concat_meets ⟨_,q,rfl⟩ ⟨_,a,rfl⟩ noFill_tuple_add seq_tuple_add PySem.F.slot_tuple_add PySem.F.entry_tuple_add (PySem.F.args_tuple_add_2 _ _)
   (tuple_addW2 t b vs.toArray ws.toArray n v dd m u f (by simpa using y) (by simpa using p)<|hsz) ⟨q,a,?_⟩
  rw[e];exact P p
def sIx(n d:Nat):Option Int->Nat
 |none=>d
 |some v=>if v<0 then (v+(n:Int)).toNat else min v.toNat n
def sIx_nat(n d k:Nat):sIx n d (some (k:Int))=min k n:=by
 show(if (k)<0 then ((k:Int)+(n)).toNat else min (k:Int).toNat n)=min k n
 simp_all
def Ls(v:Int)(n d:Nat):(if v<0 then max (v+(n:Int)) 0 else min v (n:Int))=((sIx n d (some v):Nat):Int):=by
 show(if v<0 then max _ 0 else min v<|n)=(((if v<0 then (v+(n)).toNat else min v.toNat n)))
 grind
def Zpk(lo a:Option Int)(n:Nat):Builtin.Slice.sliceAdjust lo a 1 (n:Int)=(((sIx n 0 lo:Nat):Int),((sIx n n a:Nat):Int)):=by
 refine Prod.ext ?_ ?_
 .cases lo with
  |none=>rfl
  |some v=>exact Ls v n 0
 .cases a with
  |none=>rfl
  |some v=>exact Ls v n n
def ZoQ(i j:Nat):Builtin.Slice.slicePlaces (i:Int) (j:Int) 1=j-i:=by
 unfold Builtin.Slice.slicePlaces;have a:(1:Int) > 0:=by lia
 simp only[a,if_true,Int.ediv_one];split<;>lia
def Cz{v:Value}(p:IsPart v o)(h:Q o s):wpAny (model prog w) A (Builtin.Slice.slicePartIndex v) Q H2 s:=by
 cases p with
 |none=>exact slicePart_none h
 |int i t=>exact slicePart_int h
def ZhG{lo i:Option Int}{n:Nat}{Q:Int×Int×Nat->Shared->Prop}(q:s.heap.IsSliceOf sl vl vu .none)(p:IsPart vl lo)(m:IsPart vu i)
(h:Q (((sIx n 0 lo:Nat):Int),1,sIx n n i-sIx n 0 lo) s):wpAny (model prog w) A (Builtin.Slice.sliceApplied (.ref sl)<|pure (n:Int)) Q H2 s:=by
 obtain⟨u,a,r,f⟩:=id q;refine Xa (Xa<|Yz a f (x:=vl) rfl (Xa<|Yz a f (x:=vu) rfl (Xa<|Yz a f (x:=.none) rfl (Xl ?_))));refine Xa (slicePart_none ?_);refine Xa (Cz p<|Xa<|Cz m<|Xa<|Xl ?_);show wpAny _ _ (match Builtin.Slice.sliceAdjust lo i 1 (n) with|(lo,i)=>pure (lo,_,Builtin.Slice.slicePlaces lo i 1)) _ _ s;rw[Zpk lo i n];show wpAny _ _ (pure _) _ _ s;rw[ZoQ];exact Xl h
def Zt8(xs:Array Value)(i k:Nat):((List.range k).filterMap λ(m:Nat)=>xs[((i:Int)+(m:Int)*1).toNat]?).toArray=((xs.toList.drop i).take k).toArray:=by
 have e:(λ(m:Nat)=>xs[((i:Int)+(m)*1).toNat]?)=λm=>xs[i+m]? := by
  funext m
  have:((i:Int)+(m)*1).toNat=i+m:=by lia
  rw[this]
 rw[e];have:=pick_run xs i k;rw[List.filterMap_map]at this;have a:(_ ∘ λx=>i+x)=λm=>xs[i+m]? := rfl;rw[a]at this;rw[this]
def getItem_tuple_cut{a:Array Value}{lo i:Option Int}(m:IsTup s.heap t a)(v:s.heap.IsSliceOf sl vl vu .none)(B:IsPart vl lo)(y:IsPart vu i)
(hw:¬(sIx a.size 0 lo=0/\sIx a.size a.size i=a.size))
(h:Q (.ref s.heap.objs.size) { s with heap:=s.heap.push { cls:=.type "tuple",data:=.seq ((a.toList.drop<|sIx a.size 0 lo).take (sIx a.size a.size i-sIx a.size 0 lo)).toArray } })
(hsz:a.size<=sizeLine):wpAny (model prog w) A (getItem (.ref t)<|.ref sl) Q H2 s:=by
 have f:=by
  show((a.toList.drop<|sIx a.size 0 lo).take (sIx a.size a.size i-sIx a.size 0 lo)).toArray.size<=sizeLine
  rw[Xv,B4,HU,Array.length_toList];lia
 obtain⟨C,p,r,D⟩:=id v;have u:s.TypeIs (.ref sl) "slice" := ⟨C,p,r⟩;unfold getItem;try with_reducible refine wpAny_holding ?_
 first|refine Xa (Xl ?_)|skip
 refine Xa (wpAny_sequenceKey m.typeIs (by decide) ?_);refine Xa (wpAny_callSpecial?_slot m.typeIs PyProof.Rows.slot_tuple_getitem
  (wpAny_call_entry PyProof.Rows.slot_tuple_getitem m.typeIs entry_tuple_getitem ?_<|args_tuple_getitem _ _))
 show wpAny _ _ (Builtin.Tuple.tupleItemsOf (.ref t) >>= _) _ _ s;refine Xa (tupleItemsOf_ m ?_);refine Xa (wpAny_typeOf u ?_);refine Xa (ZhG v B y ?_)
 have q:¬((((sIx a.size 0 lo):Int)==0&&(1:Int)==1&&(sIx a.size a.size i-sIx a.size 0 lo)==a.size)=true):=by
  lia
 show wpAny _ _ (if _=true then _ else _) _ _ s;rw[Xc q,Zt8]
 first
  |exact Xa (wpAny_newObj_type (Xl ⟨_,rfl,Xl h⟩) f)
  |exact Xa (wpAny_newObj_type (Xa<|Xl<|Xl ⟨_,rfl,Xl h⟩) f)
  |exact Xa (Xa<|wpAny_newObj_type (Xl<|Xl ⟨_,rfl,Xl h⟩) f)
  |exact Xa (Xa<|wpAny_newObj_type (Xl ⟨_,rfl,Xl h⟩) f)
end HT
namespace L2
abbrev TO:=St->Hp->(Option Int->Hp->Prop)->Prop
def PO(X:Cx)(e:Option Expr)(t:TO):Prop:=
 ∀(Z:Qc) (s:Shared) (O:St) (H:Hp) (Q:Option Int->Hp->Prop),Qt X Z O H s->t O H Q->
  wpAny (model X.prog X.w) X.A (evalPart e X.env) (λu a=>∃o M,Qt X Z O M a/\IsPart u o/\Q o M) X.xe s
def TH:TO:=λ_ H Q=>Q none H
def PD(t:TE):TO:=λO H Q=>t O H λx L=>∃i,x=.int i/\Q (some i) L
def Bn:∀{us:Qe},QR (ns.map V.int) us->IntsAre us ns:=by
 induction ns with
 |nil=>intro us r; cases r;exact .nil
 |cons n ns h=>
  intro us r;cases r with
  |cons f a=>
   obtain⟨t,e⟩:=f;subst e;exact .cons n t (h a)
section
variable {e:Expr}{lo hi:Option Expr}{tl th:TO}{pos p2:Pos}
def GY:PO X none TH:=by
 intro Z s O H Q I h;exact Xl ⟨none,H,I,.none,h⟩
def Ba(h:PE X e te):PO X (some e) (PD te):=by
 intro Z s O H Q I m;refine QE (h Z s O H _ I m) ?_;rintro u r ⟨x,L,p,a,f⟩;obtain⟨i,rfl,q⟩:=f;obtain⟨t,rfl⟩:=a;exact⟨some i,L,p,.int i t,q⟩
def SlR(X:Cx)(r:V->Option Int->Option Int->Hp->VK->Prop):Prop:=
 ∀(Z:Qc) (s:Shared) (O:St) (H:Hp) (x:V) (v e a:Value) (lo hi:Option Int) (f:Addr) (Q:VK),Qt X Z O H s->QP x v->s.heap.IsSliceOf f e a .none->IsPart e lo->IsPart a hi->r x lo hi H Q->
  ∃T h,typeLookup (.type T) "__getitem__"=pure (some<|.builtin h)/\s.TypeIs v T/\wpAny (model X.prog X.w) X.A (getItem v<|.ref f) (EP X Z O Q) X.xe s
def tSl(r:V->Option Int->Option Int->Hp->VK->Prop)(te:TE)(tl th:TO):TE:=λO H Q=>te O H λx L=>tl O L λl E=>th O E λu a=>r x l u a Q
def Bc{r:V->Option Int->Option Int->Hp->VK->Prop}(W:SlR X r)(g:PE X e te)(c:PO X lo tl)(P:PO X hi th):PE X (.Subscript e (.Slice lo hi none p2) pos) (tSl r te tl th):=by
 intro Z s O H Q I h;refine Subscript_ (QE (g Z s O H _ I h) ?_);rintro v w ⟨x,L,t,y,C⟩;refine wpAny_Slice (QE (c Z w O L _ t C) ?_);rintro i p ⟨l,E,o,K,B⟩;refine QE (P Z p O E _ o B) ?_;rintro f a ⟨u,m,n,D,A⟩;refine Xl ?_;have k:Qt X Z O m { a with heap:=a.heap.push { cls:=.type "slice",data:=.fields #[i,f,.none] } }:=n.kept λb z q=>Xd _ q;obtain⟨T,F,j,R,d⟩:=W Z { a with heap:=a.heap.push { cls:=.type "slice",data:=.fields #[i,f,.none] } } O m x v i f l u a.heap.objs.size Q k y (Heap.IsSliceOf.new ..) K D A;exact tail_any R j d (by with_unfolding_all rfl)
def UH(xs:List V)(lo hi:Option Int):List V:=(xs.drop<|HT.sIx xs.length 0 lo).take (HT.sIx xs.length xs.length hi-HT.sIx xs.length 0 lo)
def CC(xs:List V)(lo hi:Option Int):(UH xs lo hi).length<=xs.length:=by
 unfold UH;rw[B4,HU];lia
def As(K:W.Frag):V->Option Int->Option Int->Hp->VK->Prop:=λx lo hi H Q=>∃a xs,x=.ref a/\SqT K H a xs/\
 ¬(HT.sIx xs.length 0 lo=0/\HT.sIx xs.length xs.length hi=xs.length)/\∀p,H p=none->Q (.ref p) (upd H p<|.tup<|UH xs lo hi)
def PY:SlR X (As X.K):=by
 intro Z s O H x v D C lo hi K Q I p B w u h;obtain⟨a,xs,rfl,y,A,q⟩:=h;cases p;obtain⟨f,r,m,i⟩:=I.tuple y;have e:f.toArray.size=xs.length:=by rw[Xv];exact r.length.symm
 refine⟨"tuple",_,PyProof.Rows.slot_tuple_getitem.lookup,m.typeIs,?_⟩;refine HT.getItem_tuple_cut m B w u (by rw[e];exact A) ?_ (by rw[e];exact i);rw[e];refine⟨.ref s.heap.objs.size,_,I.laid (λb P q=>Xd _ q) (Xn _) ?_,rfl,q _<|I.hok.fresh<|Xn _⟩;exact⟨Xx (CC xs lo hi) i,_,(r.drop _).take _,IsTup.new _ _⟩
def Z0l(K:W.Frag):R2:=λx y H Q=>∃a b xs ys,x=.ref a/\y=.ref b/\SqT K H a xs/\SqT K H b ys/\xs≠[]/\xs.length+ys.length<=sizeLine/\
 (ys=[]->Q (.ref a) H)/\(ys≠[]->∀p,H p=none->Q (.ref p) (upd H p<|.tup<|xs++ys))
def QR.nil_iff(r:QR xs us):us=[]↔xs=[]:=by
 cases r with
 |nil=>simp
 |cons _ _=>simp
def EU:OpR X (binaryOp .Add) (Z0l X.K):=by
 intro Z s O H x y v u Q I r p h;obtain⟨a,b,xs,ys,rfl,rfl,R,P,K,m,B,A⟩:=h;cases r;cases p;obtain⟨D,f,C,_⟩:=I.tuple R;obtain⟨i,e,p2,_⟩:=I.tuple P;refine HT.cat_tup C p2 (λz=>K<|f.nil_iff.mp z) (λz=>⟨.ref a,H,I,rfl,B<|e.nil_iff.mp z⟩) (λz=>?_) (by rw[<- f.length,<- e.length];exact m);refine⟨.ref s.heap.objs.size,_,I.laid (λb W q=>Xd _ q) (Xn _) ?_,rfl,A (λw=>z<|e.nil_iff.mpr w) _<|I.hok.fresh<|Xn _⟩;exact⟨by rw[Xy];exact m,_,f.append e,IsTup.new _ _⟩
end
end L2
namespace L2
def ixN(n:Nat)(i:Int):Option Nat:=if 0<=i then (if i<n then some i.toNat else none) else if -(n:Int)<=i then some (i+n).toNat else none
def atI{a:Type}(xs:List a)(i:Int):Option a:=(ixN xs.length i).bind λj=>xs[j]?
def Lm{i:Int}(h:ixN n i=some j):seqIndex? i n=some j/\j<n /\ -(n:Int)<=i/\i<n:=by
 unfold ixN at h;by_cases f:0<=i
 .rw[Xf f]at h
  by_cases a:i<n
  .rw[Xf a]at h;have e:=Option.some.inj h;exact⟨by rw[seqIndex_of f a,e],by lia,by lia,a⟩
  .simp_all
 .rw[Xc f]at h
  by_cases a : -(n)<=i
  .rw[Xf a]at h;have e:=Option.some.inj h;exact⟨by rw[seqIndex_neg (by lia) a,e],by lia,a,by lia⟩
  .simp_all
def Nn{a:Type}{xs:List a}{i:Int}{v:a}(h:atI xs i=some v):∃j,seqIndex? i xs.length=some j/\xs[j]?=some v/\j<xs.length /\ -(xs.length:Int)<=i/\i<xs.length:=by
 unfold atI at h;cases e:ixN xs.length i with
 |none=>rw[e]at h;cases h
 |some j=>
  rw[e]at h;obtain⟨q,p,m,f⟩:=Lm e;exact⟨j,q,h,p,m,f⟩
def V5{a:Type}{xs:List a}{j:Nat}{v:a}(h:xs[j]?=some v):atI xs (j:Int)=some v:=by
 have f:=(Xh.mp h).1;have e:ixN xs.length (j)=some j:=by
  unfold ixN;simp_all
 unfold atI;rw[e];exact h
def Ie(b:Expr):Prop := ∀o i,subscripted b false o i=operate [o,i] (getItem o i)
def IxR(X:Cx)(r:R2):Prop:=
 ∀(f a:Expr) (Z:Qc) (s:Shared) (O:St) (H:Hp) (x y:V) (v u:Value) (Q:VK),Qt X Z O H s->QP x v->QP y u->r x y H Q->
  subscripted a false v u=operate [v,u] (getItem v u)->wpAny (model X.prog X.w) X.A (subscriptTail f a v u) (EP X Z O Q) X.xe s
def MtR(X:Cx)(f:String)(r:V->List V->Hp->VK->Prop):Prop:=
 ∀(Z:Qc) (s:Shared) (O:St) (H:Hp) (x:V) (xs:List V) (v:Value) (a:Qe) (Q:VK),Qt X Z O H s->QP x v->QR xs a->r x xs H Q->
  wpAny (model X.prog X.w) X.A (call (.builtin f) (v::a)) (EP X Z O Q) X.xe s
section
variable {a b:Expr}{pos:Pos}
def IxR.or{r:R2}(h:IxR X r)(h':IxR X r'):IxR X (λx y H Q=>r x y H Q\/r' x y H Q):=by
 intro a b Z s O H x y v u Q I i f q m;rcases q with q|q
 .exact h a b Z s O H x y v u Q I i f q m
 .exact h' a b Z s O H x y v u Q I i f q m
def Q8{r:R2}(w:IxR X r)(B:PE X a D)(A:PE X b tb)(p:Ie b:=by exact λ_ _=>rfl):PE X (.Subscript a b pos) (tOp r D tb):=by
 intro Z s O H Q I h;exact Subscript_ (SN B A I h λv u f x y E C m i q=>w a b Z f O E x y v u Q C m i q<|p _ _)
def AB(K:W.Frag):R2:=λx y H Q=>∃p xs i v,x=.ref p/\y=.int i/\SqL K H p xs/\atI xs i=some v/\Q v H
def A0(K:W.Frag):R2:=λx y H Q=>∃p xs i v,x=.ref p/\y=.int i/\SqT K H p xs/\atI xs i=some v/\Q v H
def ST:R2:=λx y H Q=>∃z i c,x=.str z/\y=.int i/\z.length<=sizeLine/\atI z.cps.toList i=some c/\Q (.str ⟨#[c]⟩) H
def EV:IxR X (AB X.K):=by
 intro f m Z s O H x y v u Q I c W h K;obtain⟨p,xs,i,z,rfl,rfl,d,g,q⟩:=h;cases c;obtain⟨t,rfl⟩:=W;obtain⟨C,r,B,o⟩:=I.list d;obtain⟨j,b,n,F,l,k⟩:=Nn g;obtain⟨w,R,A⟩:=r.get n;have e:=r.length;have E:=UW;have a:EP X Z O Q w s:=⟨z,H,I,A,q⟩
 by_cases P:0<=i
 .have D:=by
   rw[seqIndex_of P k]at b;exact Option.some.inj b
  exact item_listR B.isList P (by lia) (by rw[D];simpa using R) a K
 .have D:(i+(C.toArray.size)).toNat=j:=by
   rw[seqIndex_neg (by lia) l]at b;rw[Xv,<- e];exact Option.some.inj b
  exact subscriptTail_builtinR B.isList.typeIs slot_list_getitem.lookup
   (wpAny_getItem_list_neg B.isList (by lia) (by rw[Xv]<;>lia) (by lia) (by rw[D];simpa using R) ⟨rfl,a⟩) K
def EF:IxR X (A0 X.K):=by
 intro a b Z s O H x y v u Q I C B h K;obtain⟨p,xs,i,z,rfl,rfl,P,W,q⟩:=h;cases C;obtain⟨t,rfl⟩:=B;obtain⟨D,r,A,g⟩:=I.tuple P;obtain⟨j,d,c,o,n,l⟩:=Nn W;obtain⟨w,e,f⟩:=r.get c;have R:=r.length;have k:=UW;have m:EP X Z O Q w s:=⟨z,H,I,f,q⟩
 exact subscriptTail_builtinR A.typeIs slot_tuple_getitem.lookup
  (getItem_tuple A (by lia) (by lia) (by rw[Xv,<- R];exact d) (by simpa using e) ⟨rfl,m⟩) K
def Tu:IxR X ST:=by
 intro a b Z s O H x y v u Q I p m h r;obtain⟨z,i,c,rfl,rfl,W,A,q⟩:=h;obtain⟨t,rfl⟩:=p;obtain⟨R,rfl⟩:=m;obtain⟨j,f,D,e,C,B⟩:=Nn A;have w:z.cps.toList.length=z.length:=by simp[Str.length]
 rw[w]at f C B;have d:=UW;exact tail_any (typeIs_str s z t) slot_str_getitem.lookup (getItem_str (by
  have P:decide (i < -(2^63))=false:=Xo (by lia);have K:decide (i>=2^63)=false:=Xo (by lia);rw[P,K,Bool.or_false]) (by rw[f];simpa using D) ⟨.str _,H,I.tok _,⟨_,rfl⟩,q⟩) r
def rIx(K:W.Frag):R2:=λx y H Q=>AB K x y H Q\/A0 K x y H Q\/ST x y H Q
def QA:IxR X (rIx X.K):=EV.or (EF.or Tu)
def ZpP(a:Qe)(n j:Nat)(u:Value):Obj.mapSeq (·.setIfInBounds j u) { cls:=.type "list",data:=.seq a.toArray n }={ cls:=.type "list",data:=.seq (a.set j u).toArray n }:=by
 simp[Obj.mapSeq]
def Qt.lst{H:Hp}{p:Addr}(I:Qt X Z O H s)(h:H p=some (.lst xs)):
 ∃(a:Qe) (n:Nat),QR xs a/\s.heap.get? p=some { cls:=.type "list",data:=.seq a.toArray n }/\xs.length<=sizeLine:=by
 obtain⟨z,a,n,r,e⟩:=I.hok p _ h;exact⟨a,n,r,e,z⟩
def Qt.lstUpd{H:Hp}{p:Addr}{i a:Qe}{n m:Nat}{f:Obj->Obj}(I:Qt X Z O H s)(h:H p=some (.lst xs))
(w:s.heap.get? p=some { cls:=.type "list",data:=.seq i.toArray n })(v:f { cls:=.type "list",data:=.seq i.toArray n }={ cls:=.type "list",data:=.seq a.toArray m })(r:QR ys a)(hz:ys.length<=sizeLine)(t:Nat):
 Qt X Z O (upd H p<|.lst ys) { s with heap:=s.heap.update p f,toks:=t }:=by
 have e:(s.heap.update p f).get? p=some { cls:=.type "list",data:=.seq a.toArray m }:=by
  rw[JV f w<|by rw[v]<;>rfl,v]
 refine I.write (by rw[h];trivial) (.inl rfl) (λb u y q=>(X7 _ _<|Ne.symm y).trans q) ⟨_,e⟩ ?_;exact⟨hz,a,m,r,e⟩
def Db:V->V->V->Hp->(Hp->Prop)->Prop:=λo i v H Q=>∃p xs k j,o=.ref p/\i=.int k/\H p=some (.lst xs)/\ixN xs.length k=some j/\Q (upd H p<|.lst<|xs.set j v)
def Bh:SU X Db:=by
 intro Z s O H o i v e g u Q I P R K h;obtain⟨p,xs,k,j,rfl,rfl,y,d,q⟩:=h;cases P;obtain⟨t,rfl⟩:=R;obtain⟨a,n,r,f,c⟩:=I.lst y;obtain⟨b,x,B,A⟩:=Lm d;have m:=r.length;have l:=UW;have D:=
  I.lstUpd y f (ZpP a n j u) (r.set K j) (by rw[List.length_set];exact c) s.toks
 by_cases C:0<=k
 .have w:=by
   rw[seqIndex_of C A]at b;exact Option.some.inj b
  exact W.ki_setAt f C (by lia) (by rw[Xv,<- m];exact A) (by rw[w];exact⟨_,D,q⟩)
 .have w:(k+(a.toArray.size)).toNat=j:=by
   rw[seqIndex_neg (by lia) B]at b;rw[Xv,<- m];exact Option.some.inj b
  exact W.ki_setBack f (by lia) (by rw[Xv,<- m];exact B) (by lia) (by rw[w];exact⟨_,D,q⟩)
def Zm2(lo a:Option Int)(n:Nat):(sliceBounds lo a none n).1=((HT.sIx n 0 lo:Nat):Int)/\(sliceBounds lo a none n).2.1=((HT.sIx n n a:Nat):Int)/\(sliceBounds lo a none n).2.2=1:=by
 refine⟨?_,?_,rfl⟩
 .cases lo with
  |none=>simp[sliceBounds,HT.sIx]
  |some i=>
   simp only[sliceBounds,HT.sIx,Option.getD_none,show(1:Int) > 0 by decide,if_true]
   by_cases h:i<0
   .simp only[h,if_true]<;>lia
   .simp only[h,if_false]<;>lia
 .cases a with
  |none=>simp[sliceBounds,HT.sIx]
  |some i=>
   simp only[sliceBounds,HT.sIx,Option.getD_none,show(1:Int) > 0 by decide,if_true]
   by_cases h:i<0
   .simp only[h,if_true]<;>lia
   .simp only[h,if_false]<;>lia
def Zkz(a:Qe)(lo b:Option Int):slicePick a.toArray lo b none=((a.drop<|HT.sIx a.length 0 lo).take (HT.sIx a.length a.length b-HT.sIx a.length 0 lo)).toArray:=by
 obtain⟨i,h,f⟩:=Zm2 lo b a.toArray.size;unfold slicePick;rw[i,h,f];simp only[sliceRange_one,pick_run,Xv]<;>rfl
def Ap(K:W.Frag):V->Option Int->Option Int->Hp->VK->Prop:=λx b f H Q=>∃a xs,x=.ref a/\SqL K H a xs/\∀p,H p=none->Q (.ref p) (upd H p<|.lst<|UH xs b f)
def D7:SlR X (Ap X.K):=by
 intro Z s O H x v P K i m R Q I u D y w h;obtain⟨a,xs,rfl,C,q⟩:=h;cases u;obtain⟨A,r,p,B⟩:=I.list C;have f:=r.length;refine⟨"list",_,slot_list_getitem.lookup,p.isList.typeIs,?_⟩;refine wpAny_getItem_list_slice p.isList D y w .none (by simp) ?_ (by rw[Xv]<;>lia);rw[Zkz,<- f];refine⟨.ref s.heap.objs.size,_,I.laid (t':=s.toks) (o:=.lst (UH xs i m)) (λb W q=>Xd _ q) (Xn _) ?_,rfl,q _<|I.hok.fresh<|Xn _⟩;exact⟨Xx (CC xs i m) B,_,0,(r.drop<|HT.sIx xs.length 0 i).take (HT.sIx xs.length xs.length m-HT.sIx xs.length 0 i),XG _ rfl⟩
def Ui:V->Bool
 |.non=>true
 |.bl _=>true
 |.int _=>true
 |.str _=>true
 |_=>false
def eqV:V->V->Bool
 |.non,.non=>true
 |.bl a,.bl b=>a==b
 |.bl a,.int b=>(if a then 1 else 0)==b
 |.int a,.bl b=>a==(if b then 1 else 0)
 |.int a,.int b=>a==b
 |.str a,.str b=>a==b
 |_,_=>false
def AJ{u v:Value}(h:QP y u)(rx:QP x v)(m:Ui y=true)(i:Ui x=true):SeqAt.EqAt A s u v (eqV y x):=by
 cases y with
 |non=>
  cases h;cases x with
  |non=>cases rx;exact SeqAt.EqAt.same _
  |bl b=>cases rx;exact SeqAt.EqAt.none_bool b
  |int b=>obtain⟨t,rfl⟩:=rx;exact SeqAt.EqAt.none_int b t
  |str b=>obtain⟨t,rfl⟩:=rx;exact SeqAt.EqAt.none_str b t
  |_=>exact Xr (show false=true from i) Xs
 |bl a=>
  cases h;cases x with
  |non=>cases rx;exact SeqAt.EqAt.bool_none a
  |bl b=>cases rx;exact SeqAt.EqAt.bool_bool a b
  |int b=>obtain⟨t,rfl⟩:=rx;exact SeqAt.EqAt.bool_int a b t
  |str b=>obtain⟨t,rfl⟩:=rx;exact SeqAt.EqAt.bool_str a b t
  |_=>exact Xr (show false=true from i) Xs
 |int a=>
  obtain⟨f,rfl⟩:=h;cases x with
  |non=>cases rx;exact SeqAt.EqAt.int_none a f
  |bl b=>cases rx;exact SeqAt.EqAt.int_bool a f b
  |int b=>obtain⟨t,rfl⟩:=rx;exact SeqAt.EqAt.int_int a f b t
  |str b=>obtain⟨t,rfl⟩:=rx;exact SeqAt.EqAt.int_str a f b t
  |_=>exact Xr (show false=true from i) Xs
 |str a=>
  obtain⟨f,rfl⟩:=h;cases x with
  |non=>cases rx;exact SeqAt.EqAt.str_none a f
  |bl b=>cases rx;exact SeqAt.EqAt.str_bool a f b
  |int b=>obtain⟨t,rfl⟩:=rx;exact SeqAt.EqAt.str_int a f b t
  |str b=>obtain⟨t,rfl⟩:=rx;exact SeqAt.EqAt.str_str a f b t
  |_=>exact Xr (show false=true from i) Xs
 |_=>exact Xr (show false=true from m) Xs
def eqU(x:V)(u:Value):Bool:=match u with
 |.none=>eqV .non x
 |.bool b=>eqV (.bl b) x
 |.int i _=>eqV (.int i) x
 |.str z _=>eqV (.str z) x
 |_=>false
def Td{u:Value}(r:QP y u)(f:Ui y=true):eqU x u=eqV y x:=by
 cases y with
 |non=>cases r;rfl
 |bl b=>cases r;rfl
 |int i=>obtain⟨t,rfl⟩:=r;rfl
 |str z=>obtain⟨t,rfl⟩:=r;rfl
 |_=>exact Xr (show false=true from f) Xs
theorem Ml{x:V}:∀{xs:List V} {us:Qe},QR xs us->xs.all Ui=true->us.any (eqU x)=xs.any λy=>eqV y x
 |_,_,.nil,_=>rfl
 |y::xs,u::us,.cons r t,f=>by
  rw[List.all_cons,Jy]at f;rw[Bt,Bt,Td r f.1,Ml t f.2]
theorem Mx{A:Around}{s:Shared}{x:V}{v:Value}(rx:QP x v)(b:Ui x=true):∀{xs:List V} {us:Qe},QR xs us->xs.all Ui=true->∀u∈us,SeqAt.EqAt A s u v (eqU x u)
 |_,_,.nil,_=>λu a=>by cases a
 |y::xs,u::us,.cons r t,f=>λh a=>by
  rw[List.all_cons,Jy]at f;rcases Xe.mp a with rfl|a
  .rw[Td r f.1];exact AJ r rx f.1 b
  .exact Mx rx b t f.2 h a
def inV(x:V)(xs:List V):Bool:=xs.any λy=>eqV y x
def rIn(K:W.Frag)(a:Bool):R2:=λx y H Q=>∃p xs,y=.ref p/\(SqL K H p xs\/SqT K H p xs)/\Ui x=true/\xs.all Ui=true/\Q (.bl (if a then !inV x xs else inV x xs)) H
def ZsD:OpR X (compareOp .In) (rIn X.K false):=by
 intro Z s O H x y v u Q I A C h;obtain⟨p,xs,rfl,b,B,f,q⟩:=h;cases C;rcases b with b|b
 .obtain⟨a,r,i,D⟩:=I.list b;refine SeqAt.in_listAt (eqU x) i.isList (λw m=>Mx A B r f w<|by simpa using m) ⟨.bl _,H,I,rfl,?_⟩;rw[show a.toArray.any (eqU x)=a.any (eqU x) by simp,Ml r f];exact q
 .obtain⟨a,r,i,D⟩:=I.tuple b;refine SeqAt.in_tupleAt (eqU x) i (λw m=>Mx A B r f w<|by simpa using m) ⟨.bl _,H,I,rfl,?_⟩;rw[show a.toArray.any (eqU x)=a.any (eqU x) by simp,Ml r f];exact q
def CN:OpR X (compareOp .NotIn) (rIn X.K true):=by
 intro Z s O H x y v u Q I A C h;obtain⟨p,xs,rfl,b,B,f,q⟩:=h;cases C;rcases b with b|b
 .obtain⟨a,r,i,D⟩:=I.list b;refine SeqAt.notIn_listAt (eqU x) i.isList (λw m=>Mx A B r f w<|by simpa using m) ⟨.bl _,H,I,rfl,?_⟩;rw[show a.toArray.any (eqU x)=a.any (eqU x) by simp,Ml r f];exact q
 .obtain⟨a,r,i,D⟩:=I.tuple b;refine SeqAt.notIn_tupleAt (eqU x) i (λw m=>Mx A B r f w<|by simpa using m) ⟨.bl _,H,I,rfl,?_⟩;rw[show a.toArray.any (eqU x)=a.any (eqU x) by simp,Ml r f];exact q
def Zme:ZY X (.builtin "len") (λxs H Q=>∃p ys,xs=[.ref p]/\(SqL X.K H p ys\/SqT X.K H p ys)/\Q (.int ys.length) H):=by
 intro Z s O H xs y Q I r h;obtain⟨p,ys,rfl,b,q⟩:=h;obtain⟨u,rfl,v⟩:=VY r;cases v;have A:=UW;rcases b with b|b
 .obtain⟨m,f,i,w⟩:=I.list b;have a:=f.length;exact Calls.call_len_list i.isList (by simp only[Xv]<;>lia) ⟨.int ys.length,H,I.tok _,⟨s.toks+1,by rw[Xv,a]⟩,q⟩
 .obtain⟨m,f,i,w⟩:=I.tuple b;have a:=f.length;exact len_tuple i (by simp only[Xv]<;>lia) ⟨.int ys.length,H,I.tok _,⟨s.toks+1,by rw[Xv,a]⟩,q⟩
def Zlk:ZY X (.builtin "len") (λxs H Q=>∃z,xs=[.str z]/\z.length<=sizeLine/\Q (.int z.length) H):=by
 intro Z s O H xs a Q I r h;obtain⟨z,rfl,b,q⟩:=h;obtain⟨u,rfl,t,rfl⟩:=VY r;have f:=UW;exact len_str (by lia) ⟨.int z.length,H,I.tok _,⟨_,rfl⟩,q⟩
def Zlw:ZY X (.type "list") (λxs H Q=>∃p ys,xs=[.ref p]/\(SqL X.K H p ys\/SqT X.K H p ys)/\∀l,H l=none->Q (.ref l) (upd H l<|.lst ys)):=by
 intro Z s O H xs P Q I r h;obtain⟨p,ys,rfl,v,q⟩:=h;obtain⟨u,rfl,K⟩:=VY r;cases K;have y:∀a,QR ys a->ys.length<=sizeLine->∀h' (f),_->
  h'.get? s.heap.objs.size=some { cls:=.type "list",dict:=none,data:=.seq a.toArray f,slots := #[] }->EP X Z O Q _ { s with heap:=h' }:=λa b m h' f i e=>
  ⟨.ref s.heap.objs.size,_,I.laid i (Xn _) (show Vj X.prog X.w _ h' _ (.lst ys) from⟨m,a,f,b,e⟩),rfl,q _<|I.hok.fresh<|Xn _⟩
 rcases v with v|v
 .obtain⟨a,b,A,m⟩:=I.list v;have w:=b.length;obtain⟨o,B,D,n,C⟩:=A.isList;exact call_list_seq p (.inl rfl) B D C (λh' f i e=>y a b m h' f i e) (by simp only[Xv]<;>lia)
 .obtain⟨a,b,A,m⟩:=I.tuple v;have w:=b.length;obtain⟨o,B,D,n,C⟩:=A;exact call_list_seq p (.inr rfl) B D C (λh' f i e=>y a b m h' f i e) (by simp only[Xv]<;>lia)
def ZjS:ZY X (.type "tuple") (λxs H Q=>∃p ys,xs=[.ref p]/\((SqL X.K H p ys/\∀l,H l=none->Q (.ref l) (upd H l<|.tup ys))\/(SqT X.K H p ys/\Q (.ref p) H))):=by
 intro Z s O H xs D Q I r h;obtain⟨p,ys,rfl,h⟩:=h;obtain⟨u,rfl,A⟩:=VY r;cases A;rcases h with ⟨m,q⟩|⟨m,q⟩
 .obtain⟨a,f,i,v⟩:=I.list m;have w:=f.length;refine call_tuple_list i.isList (λh' B=>?_) (by simp only[Xv]<;>lia);have y:=I.kept (t':=s.toks) B;have C:=
   y.laid (t':=s.toks) (λb o e=>Xd _ e) (Xn _) (show Vj X.prog X.w _ _ _ (.tup ys) from⟨v,a,f,IsTup.new _ _⟩)
  exact⟨.ref h'.objs.size,_,C,rfl,q _<|y.hok.fresh<|Xn _⟩
 .obtain⟨a,f,i,v⟩:=I.tuple m;exact call_tuple_same i ⟨.ref p,H,I,rfl,q⟩
def tyV(K:W.Frag)(T:String)(x:V)(H:Hp):Prop:=match x with
 |.str _=>T = "str"
 |.int _=>T = "int"
 | .ref p=>(T = "list" /\ ∃xs,SqL K H p xs)\/(T = "tuple" /\ ∃o,K.lookup p=some o/\o.cls=.type "tuple" /\ o.dict=none) \/
  (T = "dict" /\ ((∃a,H p=some (.dK a))\/∃a,H p=some (.dT a)))\/(T = "set" /\ ∃S n,H p=some (.set S n))
 |_=>False
def PQ{H:Hp}{T:String}{x:V}{v:Value}(I:Qt X Z O H s)(r:QP x v)(h:tyV X.K T x H):
 s.TypeIs v T/\∀a,v=.ref a->∃y,s.heap.get? a=some y/\y.dict=none:=by
 cases x with
 |str z=>
  obtain⟨t,rfl⟩:=r;cases (h);exact⟨typeIs_str s z t,by rintro _ ⟨⟩⟩
 |int i=>
  obtain⟨t,rfl⟩:=r;cases (h);exact⟨typeIs_int s i t,by rintro _ ⟨⟩⟩
 |ref p=>
  cases r;rcases h with ⟨rfl,xs,B⟩|⟨rfl,o,b,C,q⟩|⟨rfl,b⟩|⟨rfl,S,n,b⟩
  .obtain⟨A,_,w,_⟩:=I.list B;refine⟨w.isList.typeIs,λa e=>?_⟩;cases e;obtain⟨o,n,e,c,q,_⟩:=w;exact⟨o,e,q⟩
  .refine⟨⟨o,I.kIn p o b,C⟩,λa e=>?_⟩;cases e;exact⟨o,I.kIn _ o b,q⟩
  .have z:∃o,s.heap.get? p=some o/\o.ExactDict:=by
    rcases b with ⟨m,b⟩|⟨m,b⟩
    .obtain⟨_,_,_,_,o,_,_,e,f,_⟩:=I.hok p _ b;exact⟨o,e,f⟩
    .obtain⟨_,_,_,_,o,_,_,e,f,_⟩:=I.hok p _ b;exact⟨o,e,f⟩
   obtain⟨o,e,f⟩:=z;refine⟨⟨o,e,f.1⟩,λa u=>?_⟩;cases u;exact⟨o,e,f.2.1⟩
  .obtain⟨o,_,_,_,e,f,_⟩:=I.hok p _ b;refine⟨⟨o,e,f.1⟩,λa u=>?_⟩;cases u;exact⟨o,e,f.2.1⟩
 |_=>exact False.elim h
def A7(K:W.Frag)(T:String)(r:V->List V->Hp->VK->Prop)(a:TE):TE:=λO H Q=>a O H λx L=>tyV K T x L/\r x [] L Q
def tBM(K:W.Frag)(T:String)(r:V->List V->Hp->VK->Prop)(a:TE)(t:TA):TE:=λO H Q=>a O H λx L=>tyV K T x L/\t O L λxs E=>r x xs E Q
variable {o e:Expr}{to:TE}{t:TA}{name:Str}{T id:String}{r:V->List V->Hp->VK->Prop}
def AK(u:PlainAttrs T)(e:Slot T name id)(f:typeOf (.builtin id)=pure (.type "method_descriptor"))(y:MtR X id r)(w:PE X o to)
(b:attributeBase o name X.env (eval o X.env)=eval o X.env:=by rfl)(a:(X1.endLine==X2.line)=true:=by rfl):PE X (.Call (.Attribute o name X1) [] [] X2) (A7 X.K T r to):=by
 intro Z s O H Q I h;refine wpAny_Call_method0_late b a (QE (w Z s O H _ I h) ?_);rintro v q ⟨x,L,m,i,p,t⟩;obtain⟨B,A⟩:=PQ m i p;exact⟨T,id,u,e,f,B,A,Calls.callWith_builtin rfl (PySem.evalArgs_none<|y Z q O L x [] v [] Q m i .nil t)⟩
def Wi(W:PlainAttrs T)(i:Slot T name id)(p:typeOf (.builtin id)=pure (.type "method_descriptor"))(g:MtR X id r)(d:PE X o to)(j:PA X (e::es) t)
(f:attributeBase o name X.env (eval o X.env)=eval o X.env:=by rfl)
(m:((backTo X2<|starEach (e::es) X.env).all (λx => !x.1)&&(backToKw X2<|keywordEach [] X.env).all (λx=>x.1.isSome)
  && decide ((e::es).length+([]:List Keyword).length+(if ([]:List Keyword).isEmpty then 0 else 1)<30))=true:=by rfl)
(b:(X1.endLine==X2.line)=true:=by rfl)(c:zs X e es:=by rfl)(a:(backTo X2<|starEach es X.env).any (·.1)=false:=by rfl):
 PE X (.Call (.Attribute o name X1) (e::es) [] X2) (tBM X.K T r to t):=by
 intro Z s O H Q I h;refine wpAny_Call_method_late f m b rfl (QE (d Z s O H _ I h) ?_);rintro v D ⟨x,L,w,q,B,R⟩;obtain⟨l,k⟩:=PQ w q B;refine⟨T,id,W,i,p,l,k,?_⟩;have u:=j X2 Z D O L _ w R;rw[c]at u ⊢;refine Calls.callWith_builtin (by show(false||(backTo X2 _).any _)=false;rw[a]<;>rfl) (Calls.evalArgs_plain ?_);refine QE u ?_;rintro A C ⟨y,E,n,K,P⟩;exact g Z C O E x y v A Q n q K P
end
end L2
namespace L2
def MtM(X:Cx)(f:String)(r:V->List V->Hp->VK->Prop):Prop:=
 ∀(Z:Qc) (s:Shared) (O:St) (H:Hp) (x:V) (xs:List V) (v:Value) (a:Qe) (Q:VK),Qt X Z O H s->QP x v->QR xs a->r x xs H Q->
  wpAny (model X.prog X.w) X.A (call (.builtin f) (v::a)) (EP X Z O Q) X.xe s
theorem QR.one:∀{x:V} {us:Qe},QR [x] us->∃u,us=[u]/\QP x u
 |_,_,.cons r .nil=>⟨_,rfl,r⟩
theorem QR.rep{xs:List V}{us:Qe}(h:QR xs us):∀k:Nat,QR (List.replicate k xs).flatten (List.replicate k us).flatten
 |0=>.nil
 |k+1=>QR.append h (QR.rep h k)
theorem Fz(a:Qe):∀(k:Nat) (f:Qe),
 List.foldl (λi h=>i++h) f.toArray (List.replicate k a.toArray)=(f++(List.replicate k a).flatten).toArray
 |0,f=>by simp
 |k+1,f=>by
  have e:f.toArray++a.toArray=(f++a).toArray:=by simp
  have m:(f++a)++(List.replicate k a).flatten=f++(List.replicate (k+1) a).flatten:=by
   rw[B8,List.flatten_cons,JT]
  rw[<- m,<- Fz a k _,<- e,B8,MI]
section
variable {H:Hp}{l:Addr}
def Qt.lset{a:Qe}{f:Array Value->Array Value}(I:Qt X Z O H s)(r:H l=some (.lst xs))
(e:s.heap.get? l=some { cls:=.type "list",data:=.seq a.toArray n })(m:f a.toArray=its'.toArray)(h:QR ys its')(hz:ys.length<=sizeLine):
 Qt X Z O (upd H l<|.lst ys) { s with heap:=s.heap.update l (Obj.mapSeq f),toks:=t' }:=by
 have q:=PySem.IsL.update e f;rw[m]at q;refine I.write (by rw[r];exact trivial) (.inl rfl) (λv u p i=>(X7 s.heap _<|Ne.symm p).trans i) ⟨_,q⟩ ?_;exact⟨hz,its',_,h,q⟩
def Qt.lnew(I:Qt X Z O H s)(a:QR ys its)(hz:ys.length<=sizeLine):
 Qt X Z O (upd H s.heap.objs.size<|.lst ys) { s with heap:=s.heap.push { cls:=.type "list",data:=.seq its.toArray },toks:=t' }:=
 I.laid (λ_ _ q=>Xd _ q) (Xn _) ⟨hz,its,0,a,XG _ rfl⟩
def Qt.fresh(I:Qt X Z O H s):H s.heap.objs.size=none:=I.hok.fresh (Xn _)
def Qt.lstM(I:Qt X Z O H s)(f:H l=some (.lst xs)):xs.length<=sizeLine/\∃(a:Qe) (n:Nat),QR xs a/\xs.length=a.length/\s.heap.get? l=some { cls:=.type "list",data:=.seq a.toArray n }:=by
 obtain⟨z,a,n,r,e⟩:=I.hok l _ f;exact⟨z,a,n,r,r.length,e⟩
def Ztk(h:n<=sizeLine):Builtin.List.listTooLong n=false:=Xo (by lia)
end
def GV:V->List V->Hp->VK->Prop:=λx a H Q=>∃l xs y,x=.ref l/\a=[y]/\H l=some (.lst xs)/\xs.length<sizeLine/\Q .non (upd H l<|.lst<|xs++[y])
def WU:MtM X "list.append" GV:=by
 intro Z s O H x w v A Q I i m h;obtain⟨l,xs,y,rfl,rfl,f,B,q⟩:=h;cases i;obtain⟨u,rfl,p⟩:=m.one;obtain⟨z,a,n,r,C,e⟩:=I.lstM f;refine call_meets F.slot_list_append ⟨_,e,rfl⟩ F.entry_list_append (F.args_list_append_2 _ _) (PySem.list_append l a.toArray n u<|by rw[Xv];lia) ⟨e,?_⟩;refine⟨.non,_,I.lset f e (by simp) (r.append<|.cons p .nil) ?_,rfl,q⟩;rw[Xy,List.length_singleton];lia
def An:R2:=λx y H Q=>∃l b xs a,x=.ref l/\y=.ref b/\H l=some (.lst xs)/\H b=some (.lst a)/\xs.length+a.length<=sizeLine/\∀p,H p=none->Q (.ref p) (upd H p<|.lst<|xs++a)
def BZ:OpR X (binaryOp .Add) An:=by
 intro Z s O H x y v u Q I m i h;obtain⟨l,b,xs,K,rfl,rfl,A,B,W,q⟩:=h;cases m;cases i;obtain⟨z,f,n,r,c,e⟩:=I.lstM A;obtain⟨P,a,R,p,w,D⟩:=I.lstM B;refine PySem.P.add_list e D ?_ (by rw[Xv,Xv];lia);have C:f.toArray++a.toArray=(f++a).toArray:=by simp
 rw[C];exact⟨.ref _,_,I.lnew (r.append p)<|by rw[Xy];lia,rfl,q _ I.fresh⟩
def Ay:R2:=λx y H Q=>∃l k xs,x=.ref l/\y=.int k/\H l=some (.lst xs) /\ -(2^63)<=k/\k<2^63/\xs.length*k.toNat<=sizeLine/\
 ∀p,H p=none->Q (.ref p) (upd H p<|.lst (List.replicate k.toNat xs).flatten)
def Oq{a:Type}(xs:List a)(k:Nat):(List.replicate k xs).flatten.length=k*xs.length:=by
 simp_all
def E5:OpR X (binaryOp .Mult) Ay:=by
 intro Z s O H x y v u Q I W R h;obtain⟨l,k,xs,rfl,rfl,c,g,d,C,q⟩:=h;cases W;obtain⟨t,rfl⟩:=R;obtain⟨z,f,n,r,b,e⟩:=I.lstM c;have w:f.toArray.size*k.toNat<=sizeLine:=by rw[Xv,<- b];exact C
 have B:¬f.toArray.size*k.toNat > (2^63-1)/8:=by
  have:(sizeLine)<=(2^63-1)/8:=by decide
  lia
 have A:¬(!Builtin.List.listFitsIndex k)=true:=by
  rw[fitsIndex_both g d];exact Xs
 have i:¬Builtin.List.listTooLong (f.toArray.size*k.toNat)=true:=by
  rw[Ztk w];exact Xs
 have p:List.foldl (λK D=>K++D) #[] (List.replicate (if f.toArray.isEmpty=true then 0 else k.toNat) f.toArray)=(List.replicate k.toNat f).flatten.toArray:=by
  have j:=λm=>by
   have:=Fz f m [];rw[BB]at this;exact this
  rw[j];cases f with
  |nil=>simp
  |cons a o=>rw[Xc<|by simp]
 refine wpAny_binaryOp_repeat_ref (by decide) ⟨_,e,rfl⟩ (λP=>typeIs_int P k t) noFill_list_mul F.fills_int_mul F.slot_int_rmul repeat_list F.slot_int_index.lookup
  (call_meets F.slot_int_rmul (typeIs_int s k t) F.entry_int_rmul (F.args_int_rmul_2 _ _) (int___rmul___int_list k t l f.toArray n)
   ⟨e,rfl,⟨_,e,rfl⟩,call_meets F.slot_list_mul ⟨_,e,rfl⟩ F.entry_list_mul (F.args_list_mul_2 _ _) (AutoListH.list___mul___list_int_3 l f.toArray n k t A B i) ⟨e,?_⟩⟩)
 rw[p];exact⟨.ref _,_,I.lnew (r.rep k.toNat)<|by rw[Oq,G5];exact C,rfl,q _ I.fresh⟩
end L2
namespace Att
open PySem PySem.W PySem.Calls PyProof.Rows
def ZiS{P:Params}:∀(ns:Ql) (vs:Qe),WellAll P h vs (ns.map WData.int)->IntsAre vs ns:=by
 intro ns;induction ns with
 |nil=>
  intro vs w;cases w;exact .nil
 |cons n ns f=>
  intro vs w;cases w with
  |cons a b=>
   cases a;exact .cons _ _ (f _ b)
def Zr5{l:OpenLaw}(hn:l.most=some n){P:Params}
(f:l.row.toRowW.claim.pre args=true)(q:WellAll P h vals args):
 ∃a vs ns,vals=[Value.ref a]/\args=[WData.list<|ns.map WData.int]/\h.get? a=some { cls:=.type "list",data:=.seq vs.toArray }/\IntsAre vs ns/\ns.length<=n:=by
 have s:WShape.hasAll [] args [.list .int]=true:=(pre_splitW f).1;have A:l.pre.holds [] { args:=args }=true:=(pre_splitW f).2;obtain⟨d,r,rfl,D,C⟩:=hasAllW_cons s;obtain rfl:=hasAllW_nil C;obtain⟨xs,rfl,B⟩:=hasW_list D;obtain⟨ns,rfl⟩:=items_int B;have i:ns.length<=n:=by
  have p:=by
   have p:=(holds_andW A).1;rw[hn]at p;exact p
  have u:=condW_of p (w_not<|w_lt w_lit<|w_len_list<|w_arg rfl)
  first
   |(exact Xr u _)
   |(simp at u;lia)
 cases q with
 |cons w v=>
  cases v;cases w with
  |list y m=>exact⟨_,_,ns,rfl,rfl,y,ZiS ns _ m,i⟩
def Zrw(l:OpenLaw)(a:List WData):l.row.toRowW.claim.post a (.bool true) a=true:=
 postW_of
  (show WShape.has [] _ .bool=true by first|rfl|decide|simp[WShape.has])
  (w_eq_bool (w_res rfl) w_lit) rfl
end Att
namespace L2
theorem Fy:∀{vs:Qe} {ns:Ql},IntsAre vs ns->QR (ns.map V.int) vs
 |_,_,.nil=>.nil
 |_,_,.cons n t h=>.cons ⟨t,rfl⟩ (Fy h)
def Z1r(H:Hp):Prop := ∀b,H b=none\/∃o xs,H b=some (.frz o<|.lst xs)
end L2
namespace L2
abbrev KOf{K:W.Frag}{h:Heap}(_:K.In h):W.Frag:=K
end L2
namespace L2
def JK(s:Stmt)(j:Nat):Stmt:=match s with
 |.ClassDef _ _ _ a _ _ _ _ _ _ _=>a.getD j (.Pass ⟨0,0,0,0⟩)
 |_=>.Pass ⟨0,0,0,0⟩
def W3(s:Stmt):Arguments:=match s with
 |.FunctionDef _ a _ _ _ _ _ _ _ _=>a
 |_=>{ posonlyargs:=[],args:=[],vararg:=none,kwonlyargs:=[],kw_defaults:=[],kwarg:=none,defaults:=[] }
def YZ(s:Stmt):List Stmt:=match s with
 |.FunctionDef _ _ b _ _ _ _ _ _ _=>b
 |_=>[]
def Q5(s:Stmt):Scope:=match s with
 |.FunctionDef _ _ _ _ _ _ a _ _ _=>a
 |_=>{ kind:=.function,names:=[],isGenerator:=false,isCoroutine:=false }
abbrev CX0:CXT:=λ_ _ _ _ _ _=>False
abbrev E0:XK:=λ_ _ _=>False
def Da:Jn CX0 X E0:=λ_ _ _ _ _ _ _ h=>h.elim
structure Fun(K:W.Frag)(x qual:Str)(st:Stmt)(f:Addr)(fd:FuncData):Prop where
 ex:∃(oc:Value) (od:Qj) (kV doc pm:Value) (an:Qj) (cdv ct:Value) (osl:Array (Qf)),
  fd=W.fnOf x qual (W3 st) (YZ st) (Q5 st) .none kV doc pm an cdv ct/\K.lookup f=some ⟨oc,od,.func fd,osl⟩/\W.codeIn K cdv qual=true
 kp:W.keepIn K (.ref f)=true
def B0(P:Program)(w:World)(K:W.Frag)(mg:Str->Qf)(base:Heap)(N:Qh)(q:Str)(st:Stmt)(k:Nat)(f:Addr)(H:Hp)(H2:XK)(G:TS->Prop):Prop := ∀(a:Value) (A:Around) (outer:List Env) (s:Shared),Room k (A.deeper<|envOfC q (Q5 st) s.heap.objs.size f a)->∃t,PSs (JZ CX0 P w K mg base N q (Q5 st) f a A outer s H H2).nox (YZ st) t/\G t
abbrev Rn(N:Qh)(vs:List V)(H:Hp)(Q:VK)(t:TS):Prop:=t { nx:=λ_ M=>Q .non M,rt:=Q } (start N vs) H
section
variable {base:Heap}
def Fun.ok{x:Str}{st:Stmt}{N:Qh}{k:Nat}{a:Sp}(F:Fun K x qual st f fd)(S:Qo N ps (Q5 st))(i:∀vs H Q H2,a vs H Q H2->vs.length=ps.length)
(r:∀vs H Q H2,a vs H Q H2->B0 P w K mg base N qual st k f H H2 (Rn N vs H Q)):FnOk P w K mg base CX0 (k+1) f fd ps a:=by
 obtain⟨O,D,kV,B,C,W,q,R,u,rfl,v,p⟩:=F.ex;exact P8 v p S i λA outer s H vs Q H2 y m=>(r vs H Q H2 m q A outer s y).imp λ_ h=>h.imp PSs.nox id
def Fun.binds{x:Str}{st:Stmt}(F:Fun K x qual st f fd)
(h:∀(kV a m:Value) (q:Qj) (i p:Value) (us:Qe),us.length=ps.length->bindArgs (W.fnOf x qual (W3 st) (YZ st) (Q5 st) .none kV a m q i p) ⟨us,[]⟩=pure (ps.zip us)):VH K fd ps []:=by
 obtain⟨v,u,kV,a,m,q,i,p,r,rfl,w,s⟩:=F.ex;exact .all (h kV a m q i p)
def Gc{x:Str}{st:Stmt}{s:Value}{r q:Qj}{i:Array (Qf)}{kV h m a p:Value}(l:K.lookup f=some ⟨s,r,.func<|W.fnOf x qual (W3 st) (YZ st) (Q5 st) .none kV h m q a p,i⟩)
(c:W.codeIn K a qual=true)(k:W.keepIn K (.ref f)=true):Fun K x qual st f (W.fnOf x qual (W3 st) (YZ st) (Q5 st) .none kV h m q a p):=⟨⟨s,r,kV,h,m,q,a,p,i,rfl,l,c⟩,k⟩
end
def WE(a:Room k A):A.units+1<cLine:=Kb (Nat.add_le_add_left (by decide) _) a.units
def VR(h:n<=1000):n<sizeLine:=Kb h (by decide)
def pv(i:Nat){x:Str}{a:Pos}(p:X.N[i]?=some x:=by rfl)(h:Vis X.env.scope x:=by first|exact Or.inl rfl|exact Or.inr Qa|exact Or.inr<|Or.inr rfl)(m:(x==("__debug__" : Str))=false:=by decide)
(f:(x==("__classdict__" : Str))=false:=by decide):PE X (.Name x a) (QY i):=Ts p h m f
def av(i:Nat){x:Str}{a:Pos}{t:TA}(p:PA X es t)(r:X.N[i]?=some x:=by rfl)(h:Vis X.env.scope x:=by first|exact Or.inl rfl|exact Or.inr Qa|exact Or.inr<|Or.inr rfl)(q:(x==("__debug__" : Str))=false:=by decide)
(f:(x==("__classdict__" : Str))=false:=by decide)(m:starEach (.Name x a::es) X.env=(false,eval (.Name x a) X.env)::starEach es X.env:=by rfl):PA X (.Name x a::es) (QX (QY i) t):=Qu (pv i r h q f) p m
def QI(H M:Hp):Prop := ∀b o,H b=some o->M b=some o
def QI.refl(H:Hp):QI H H:=λ_ _ h=>h
def QI.trans(a:QI H L)(b:QI L E):QI H E:=λc o h=>b c o (a c o h)
def QI.free(e:QI H M)(h:M l=Option.none):H l=Option.none:=by
 cases q:H l with
 |none=>rfl
 |some o=>
  rw[e l o q]at h;cases h
def QI.seq(e:QI H M)(h:SqL K H a xs):SqL K M a xs:=by
 rcases h with (h|⟨o,h⟩)|h
 .exact .inl (.inl<|e _ _ h)
 .exact .inl (.inr ⟨o,e _ _ h⟩)
 .exact .inr h
end L2
namespace L2
theorem RA{i:Env}{F:Str×NameKind->List (Str×Addr)->Sem (ForInStep<|List<|Str×Addr)}
(B:∀n c a,i.cells.lookup n=some c->F (n,NameKind.free) a=pure (.yield ((n,c)::a)))
(A:∀n k a,k≠NameKind.free->F (n,k) a=pure (.yield a)):
 ∀(l:List (Str×NameKind)) (a:List (Str×Addr)),(∀p∈l,p.2=NameKind.free->∃c,i.cells.lookup p.1=some c)->(∀x c,a.lookup x=some c->i.cells.lookup x=some c)->
  ∃m,forIn l a F=pure m/\(∀x c,m.lookup x=some c->i.cells.lookup x=some c)/\(∀x c,a.lookup x=some c->∃Z,m.lookup x=some Z)/\∀p∈l,p.2=NameKind.free->∃c,m.lookup p.1=some c
 |[],a,_,v=>⟨a,by rw[List.forIn_nil],v,λx c h=>⟨c,h⟩,λp f=>Xr f<|by simp⟩
 |(n,k)::l,a,R,v=>by
  have r:=λp f=>R p (Xg _ f)
  by_cases w:k=NameKind.free
  .subst w;obtain⟨c,e⟩:=R (n,NameKind.free) Xb rfl;have y:∀x d,((n,c)::a).lookup x=some d->i.cells.lookup x=some d:=λx d q=>by
    cases s:x==n with
    |true=>
     simp_all
    |false=>
     simp only[XW,s]at q;exact v x d q
   obtain⟨m,P,O,K,D⟩:=RA B A l ((n,c)::a) r y;have W:∀x d,a.lookup x=some d->∃C,((n,c)::a).lookup x=some C:=λx d q=>by
    cases s:x==n with
    |true=>exact⟨c,by simp only[XW,s]⟩
    |false=>exact⟨d,by simp only[XW,s];exact q⟩
   refine⟨m,by rw[List.forIn_cons,B n c a e];exact P,O,λx d q=>?_,λp f u=>?_⟩
   .obtain⟨C,X⟩:=W x d q;exact K x C X
   .rcases Xe.mp f with rfl|f
    .simp_all
    .exact D p f u
  .obtain⟨m,P,O,K,D⟩:=RA B A l a r v;refine⟨m,by rw[List.forIn_cons,A n k a w];exact P,O,K,λp f u=>?_⟩;rcases Xe.mp f with rfl|f
   .exact Xr u w
   .exact D p f u
def C5(h:∀p∈scope.names,p.2=NameKind.free->∃c,env.cells.lookup p.1=some c):
 ∃f,closureFor scope env=pure f/\(∀x c,f.lookup x=some c->env.cells.lookup x=some c)/\∀p∈scope.names,p.2=NameKind.free->∃c,f.lookup p.1=some c:=by
 simp only[closureFor];obtain⟨f,i,v,_,u⟩:=RA (F:=λx r=>match x with|(name,kind)=>if (kind==NameKind.free)=true then do let a <- cellOf env name;pure (ForInStep.yield ((name,a)::r)) else pure<|ForInStep.yield r)
  (λn c s e=>by
   show(if _=true then _ else _)=_
   unfold cellOf;rw[e];rfl)
  (λn k s m=>by
   have:(k==NameKind.free)=false:=by simpa using m
   show(if _=true then _ else _)=_
   rw[this,Xc Xs]) scope.names [] h (λx c q=>by simp at q)
 refine⟨f,?_,v,u⟩
 first
  |exact i
  |(rw[bind_pure];exact i)
  |(exact i)
  |(exact i)
theorem Ac{a:Env}:∀{f:List (Str×NameKind)} {x:Str},f.lookup x=some .free->
 (f.map λ(n,k)=>if (k==NameKind.free&&a.scope.kind==.function&&a.kindOf n==some .cell) then (n,NameKind.cell) else (n,k)).lookup x=some .cell \/
 (f.map λ(n,k)=>if (k==NameKind.free&&a.scope.kind==.function&&a.kindOf n==some .cell) then (n,NameKind.cell) else (n,k)).lookup x=some .free
 |[],_,h=>by simp at h
 |(n,k)::r,x,h=>by
  have p:=@Ac a r x;show List.lookup x ((if _=true then _ else _)::_)=_\/List.lookup x ((if _=true then _ else _)::_)=_
  cases i:x==n with
  |true=>
   simp only[XW,i]at h;cases h
   by_cases m:(NameKind.free==NameKind.free&&a.scope.kind==.function&&a.kindOf n==some .cell)=true
   .rw[Xf m];left;simp only[XW,i]
   .rw[Xc m];right;simp only[XW,i]
  |false=>
   simp only[XW,i]at h;by_cases m:(k==NameKind.free&&a.scope.kind==.function&&a.kindOf n==some .cell)=true
   .rw[Xf m];simp only[XW,i];exact p h
   .rw[Xc m];simp only[XW,i];exact p h
theorem Ab{f:Env}:∀{a:List (Str×NameKind)} {x:Str},((a.map λ(n,k)=>if (k==NameKind.free&&f.scope.kind==.function&&f.kindOf n==some .cell) then (n,NameKind.cell) else (n,k)).lookup x=some .cell \/
 (a.map λ(n,k)=>if (k==NameKind.free&&f.scope.kind==.function&&f.kindOf n==some .cell) then (n,NameKind.cell) else (n,k)).lookup x=some .free)->a.lookup x=some .free\/a.lookup x=some .cell
 |[],_,h=>by simp at h
 |(n,k)::r,x,h=>by
  have p:=@Ab f r x;have h:List.lookup x ((if _=true then _ else _)::_)=_\/List.lookup x ((if _=true then _ else _)::_)=_:=h;cases m:x==n with
  |true=>
   simp only[XW,m];by_cases i:(k==NameKind.free&&f.scope.kind==.function&&f.kindOf n==some .cell)=true
   .have:=by
     rw[Jy,Jy]at i;exact eq_of_beq i.1.1
    left;rw[this]
   .rw[Xc i]at h;simp only[XW,m]at h;exact h.symm
  |false=>
   simp only[XW,m];by_cases i:(k==NameKind.free&&f.scope.kind==.function&&f.kindOf n==some .cell)=true
   .rw[Xf i]at h;simp only[XW,m]at h;exact p h
   .rw[Xc i]at h;simp only[XW,m]at h;exact p h
structure CIn where
 cl:List (Str×Addr)
 C:Addr
 s₀:Shared
 H₀:Hp
 ex:Qg
 pn:Qc
def Vn(X:Cx)(N:Qh)(scope:Scope)(c:CIn):Cx where
 prog:=X.prog
 w:=X.w
 K:=X.K
 mg:=X.mg
 base:=X.base
 A:=X.A
 N:=N
 s₀:=c.s₀
 H₀:=c.H₀
 env:=compEnvC scope c.cl c.C X.env
 outer:=X.stack
 stack:=X.stack
 ex:=c.ex
 fn:=λ_=>false
 calm:=X.calm
 pn:=c.pn
 xe:=λ_ _=>False
def Wh(f:List (Option Nat))(O:St):St:=f.map λo=>match o with|some i=>(O[i]?).join|none=>none
structure CompOk(NX:Qh)(sc:Scope)(N:Qh)(f:List (Option Nat))(scope:Scope):Prop where
 kind:scope.kind=.function
 nocell:∀y∈scope.names,y.2≠NameKind.cell
 names:∀y∈scope.names,y.2=NameKind.local->scope.names.lookup y.1=some .local
 free:∀y∈scope.names,y.2=NameKind.free->sc.names.lookup y.1=some .cell\/sc.names.lookup y.1=some .free
 len:f.length=N.length
 ix:∀(j i:Nat),f[j]?=some (some i)->∃x,N[j]?=some x/\NX[i]?=some x/\scope.names.lookup x=some .free
def Bb(NX:Qh)(sc:Scope)(N:Qh)(f:List (Option Nat))(scope:Scope):Bool:=
 decide (scope.kind=.function)&&(scope.names.all λy=>decide (y.2≠NameKind.cell)&&(decide (y.2≠NameKind.local)||decide (scope.names.lookup y.1=some .local)) &&
  (decide (y.2≠NameKind.free)||decide (sc.names.lookup y.1=some .cell)||decide (sc.names.lookup y.1=some .free)))&&decide (f.length=N.length) &&
 (List.range f.length).all λj=>match f[j]? with
  | some (some i)=>(match N[j]? with
    |some x=>decide (NX[i]?=some x)&&decide (scope.names.lookup x=some .free)
    |none=>false)
  |_=>true
def Ce{f:List (Option Nat)}(h:Bb NX sc N f scope=true):CompOk NX sc N f scope:=by
 unfold Bb at h;simp only[Jy,B3,decide_eq_true_eq,Bool.or_eq_true]at h;obtain⟨⟨⟨v,m⟩,u⟩,s⟩:=h;refine⟨v,λy a=>(m y a).1.1,λy a e=>?_,λy a e=>?_,u,λj i e=>?_⟩
 .rcases(m y a).1.2 with z|z
  .simp_all
  .exact z
 .rcases(m y a).2 with (z|z)|z
  .simp_all
  .exact .inl z
  .exact .inr z
 .have r:=(Xh.mp e).1;have q:=s j (Xw.mpr r);rw[e]at q;cases p:N[j]? with
  |none=>rw[p]at q;simp at q
  |some x=>
   rw[p]at q;simp only[Jy,decide_eq_true_eq]at q;exact⟨x,rfl,q.1,q.2⟩
def A2(f:List (Option Nat))(O a:St):Prop:=a.length=O.length/\∀(i j:Nat),f[i]?=some (some j)->a[i]?=O[i]?
structure TgOk(f:List (Option Nat))(g:TG):Prop where
 keep:∀x O H Q,g x O H Q->g x O H λσ2 E=>A2 f O σ2/\Q σ2 E
 mono:∀x O H Q Q',(∀O H,Q O H->Q' O H)->g x O H Q->g x O H Q'
structure TgsOk(f:List (Option Nat))(g:TGs):Prop where
 keep:∀xs O H Q,g xs O H Q->g xs O H λσ2 E=>A2 f O σ2/\Q σ2 E
 mono:∀xs O H Q Q',(∀O H,Q O H->Q' O H)->g xs O H Q->g xs O H Q'
theorem Zm{f:List (Option Nat)}(h:f[j]?=some none:=by rfl):TgOk f (WH j) where
 keep:=λx O H Q q=>⟨⟨List.length_set ..,λi k e=>U7<|by lia⟩,q⟩
 mono:=λx O H Q a m q=>m _ _ q
theorem Gh{f:List (Option Nat)}:TgsOk f SV where
 keep:=by rintro xs O H Q ⟨e,q⟩;exact⟨e,⟨rfl,λ_ _ _=>rfl⟩,q⟩
 mono:=by rintro xs O H Q a m ⟨e,q⟩;exact⟨e,m _ _ q⟩
theorem Yw{f:List (Option Nat)}{u:TGs}(p:TgOk f t)(h:TgsOk f u):TgsOk f (Kv t u) where
 keep:=by rintro xs O H Q ⟨v,r,e,q⟩;exact⟨v,r,e,p.mono _ _ _ _ _ (λa L z=>h.mono _ _ _ _ _ (λw E y=>⟨⟨y.1.1.trans z.1.1,λi j s=>(y.1.2 i j s).trans (z.1.2 i j s)⟩,y.2⟩)<|h.keep _ _ _ _ z.2)<|p.keep _ _ _ _ q⟩
 mono:=by rintro xs O H Q A m ⟨v,r,e,q⟩;exact⟨v,r,e,p.mono _ _ _ _ _ (λa L z=>h.mono _ _ _ _ _ m z) q⟩
theorem UZ{f:List (Option Nat)}(h:TgsOk f t):TgOk f (Kj K n t) where
 keep:=by rintro x O H Q ⟨a,xs,e,q,l,z⟩;exact⟨a,xs,e,q,l,h.keep _ _ _ _ z⟩
 mono:=by rintro x O H Q i m ⟨a,xs,e,q,l,z⟩;exact⟨a,xs,e,q,l,h.mono _ _ _ _ _ m z⟩
def PCs(X:Cx)(a:Qi)(tc:TT):Prop:=
 ∀(Z:Qc) (s:Shared) (O:St) (H:Hp) (Q:Bool->Hp->Prop),Qt X Z O H s->tc O H Q->
  wpAny (model X.prog X.w) X.A (forIn a true λc r=>if r=true then do let f <- isTrue c X.env (eval c X.env);pure (ForInStep.yield f) else pure<|ForInStep.yield r) (TP X Z O Q) X.xe s
def GC:TT:=λ_ H Q=>Q true H
def ZC:PCs X [] GC:=λ_ _ _ H _ I h=>wpAny_tests_nil ⟨H,I,h⟩
def Ut{c:Expr}{tc:TT}(h:PT X c tc):PCs X [c] tc:=λZ s O H Q I q=>wpAny_tests_one (h Z s O H Q I q)
def Zlq{H0:Result->Shared->Prop}(I:Nat->Shared->Prop)
(i:∀n s,I n s->wpAny (model prog w) A (pyNext it) (λr u=>match r with
  |none=>H0 (.ok .next) u
  | some v=>wpAny (model prog w) A (letOwnedTupleGo target it v) (λ_ a=>wpAny (model prog w) A (assign target env v) (λ_ K=>
   wpAny (model prog w) A (forIn ifs true λc r=>if r=true then do let p <- isTrue c env (eval c env);pure (ForInStep.yield p) else pure<|ForInStep.yield r) (λp q=>
    if p=true then wpAny (model prog w) A (eval elt env) (λx C=>
     wpAny (model prog w) A (call (.builtin "list.append") [acc,x]) (λ_ y => ∃m,m<n/\I m y) (λ_ _=>False) C) (λ_ _=>False) q
    else ∃m,m<n/\I m q) (λ_ _=>False) K) (λ_ _=>False) a) (λ_ _=>False) u) (λ_ _=>False) s)
(n:Nat)(h:I n s):
 codeAny (model prog w) A (.compLoop (.ListComp elt [⟨target,iter,ifs,0⟩] scope pos) 0 it acc env) H0 s:=by
 refine codeAny_loop rfl I (λn s O=>?_) n h;show wpAny _ A _ _ _ s;refine wpAny_noted ?_;rw[compTurn_list];refine Xa (wpAny_standAt<|Xa<|wpAny_mono (i n s O) (λr u D=>?_) λ_ _ h'=>h'.elim)
 cases r with
 |none=>exact Xl D
 |some v=>
  refine Xa (wpAny_mono D (λ_ a f=>?_) λ_ _ h'=>h'.elim);refine Xa (wpAny_mono f (λ_ K W=>Xa<|wpAny_mono W (λp q B=>?_) λ_ _ h'=>h'.elim) λ_ _ h'=>h'.elim);cases p with
  |false=>exact Xl ⟨rfl,B⟩
  |true=>
   exact Xa (Xa<|wpAny_mono B (λx C R=>Xa<|wpAny_mono R (λ_ y P=>Xl<|Xl ⟨rfl,P⟩) λ_ _ h'=>h'.elim) λ_ _ h'=>h'.elim)
theorem Qt.track{H:Hp}{o:HO}(I:Qt X Z O H s)(hn:H a=none)(h0:X.s₀.heap.objs.size<=a)(w:a≠X.env.locals)(y:∀x c,X.env.cells.lookup x=some c->c≠a)
(v:∀p∈X.pn++Z,p.1≠a)(new:Vj X.prog X.w (upd H a o) s.heap a o):Qt X Z O (upd H a o) s where
 ok:=I.ok
 os:=I.os
 bare:=I.bare
 base:=
  { keep:=I.base.keep
    slot:=I.base.slot
    free:=λb i q n m=>by rw[Q6<|Xq<|XM (Xj q) h0];exact I.base.free b i q n m
    there:=I.base.there
    tups:=λb xs q=>by have z:=I.base.tups b xs q;rw[Q6<|Vq z hn];exact z
    tupo:=I.base.tupo
    frzs:=λb u xs q=>by have z:=I.base.frzs b u xs q;rw[Q6<|Vq z hn];exact z
    tbls:=λb ps q=>by obtain⟨more,z⟩:=I.base.tbls b ps q;exact⟨more,by rw[Q6<|Vq z hn];exact z⟩ }
 loc:=I.loc
 cell:=I.cell
 free:=by rw[Q6 w.symm];exact I.free
 freeC:=λx c e=>by rw[Q6<|y x c e];exact I.freeC x c e
 pin:=λp f=>by obtain⟨e,n,r⟩:=I.pin p f;exact⟨e,by rw[Q6<|v p f];exact n,r⟩
 hok:=λb u e=>by
  by_cases h:b=a
  .subst h;rw[QT]at e;cases e;exact new
  .rw[Q6 h]at e;exact(I.hok b u e).stay (λ_ _ _ q=>q) (λc q=>by rw[Q6<|Vq q hn];exact q) λc xs q=>by rw[Q6<|Vq q hn];exact q
 len:=I.len
def LCw(f:List (Option Nat))(g:TG)(tc:TT)(te:TE)(O:St)(J:It)(Q:VK)(L:Hp):Prop:=
 ∃W:Nat->Nat->List V->Hp->Prop,(∃m,W 0 m [] L)/\∀i m ys H,W i m ys H->
  (J.stop i H/\∀p,H p=none->Q (.ref p) (upd H p<|.lst ys)) \/
  (J.go i H/\∀x M,J.yld i H x M->g x (Wh f O) M λa E=>tc a E λb q=>
   if b=true then te a q λy r=>ys.length<sizeLine/\∃h,h<m/\W (i+1) h (ys++[y]) r
   else ∃h,h<m/\W (i+1) h ys q)
def tLC(f:List (Option Nat))(a:TI)(g:CIn->TG)(tc:CIn->TT)(te:CIn->TE):TE:=λO H Q=>a O H λJ L=>∀c:CIn,LCw f (g c) (tc c) (te c) O J Q L
abbrev WY(its:Qe)(k:Nat):Obj:={ cls:=.type "list",data:=.seq its.toArray k }
structure TurnX(X:Cx)(tg:Expr)(J:It)(fp:Qg)(it:Addr)(tn:Nat->Heap->Prop):Prop where
 mem:it∈fp
 obj:∀i h,tn i h->∀b∈fp,∃o,h.get? b=some o/\∀v,o.data≠.cell v
 keep:∀i h h',tn i h->(∀b∈fp,∀o,h.get? b=some o->h'.get? b=some o)->tn i h'
 item:∀(X':Cx),X'.prog=X.prog->X'.w=X.w->X'.K=X.K->X'.A=X.A->X'.calm=X.calm->∀(i:Nat) (Z:Qc) (s:Shared) (O:St) (H:Hp) (H2:Qb),Qt X' Z O H s->(∀b∈fp,YN X' Z H b)->tn i s.heap->J.go i H->
  wpAny (model X.prog X.w) X'.A (pyNext<|.ref it) (λr s1=>∃u,r=some u/\
   wpAny (model X.prog X.w) X'.A (letOwnedTupleGo tg (.ref it) u) (λ_ s2=>∃x M,Qt X' Z O M s2/\QP x u/\J.yld i H x M/\tn (i+1) s2.heap/\∀b∈fp,M b=none) H2 s1) H2 s
 done:∀(X':Cx),X'.prog=X.prog->X'.w=X.w->X'.K=X.K->X'.A=X.A->X'.calm=X.calm->∀(i:Nat) (Z:Qc) (s:Shared) (O:St) (H:Hp) (H2:Qb),Qt X' Z O H s->(∀b∈fp,YN X' Z H b)->tn i s.heap->J.stop i H->
  wpAny (model X.prog X.w) X'.A (pyNext<|.ref it) (λr s1=>r=none/\Qt X' Z O H s1) H2 s
 self:∀(A:Around) (i:Nat) (s:Shared) (Q:Qb) (H2:Qb),tn i s.heap->Q (.ref it) s->wpAny (model X.prog X.w) A (pyIter<|.ref it) Q H2 s
def Z1n(X:Cx)(Z:Qc)(O:St)(tg:Expr)(H0:It->Hp->Prop)(a:Value)(h:Shared):Prop:=
 ∃(i:Addr) (m:Qg) (f:Nat->Heap->Prop) (J:It) (M:Hp),a=.ref i/\Qt X Z O M h/\TurnX X tg J m i f/\f 0 h.heap/\(∀b∈m,YN X Z M b)/\H0 J M
def PIH(X:Cx)(tg iter:Expr)(a:TI):Prop:=
 ∀(Z:Qc) (s:Shared) (O:St) (H:Hp) (H0:It->Hp->Prop),Qt X Z O H s->a O H H0->
  wpAny (model X.prog X.w) X.A (eval iter X.env) (λv f=>wpAny (model X.prog X.w) X.A (pyIter v) (Z1n X Z O tg H0) X.xe f) X.xe s
def Turn.x(T:Turn X.prog X.w X.K tg J fp it tn)(p:X.calm=true):TurnX X tg J fp it tn:=
 ⟨T.mem,T.obj,T.keep,λm f a i _ h=>T.item m f a i<|h.trans p,λm f a i _ h=>T.done m f a i<|h.trans p,T.self⟩
def PI.x(h:PI X tg iter wi)(i:X.calm=true):PIH X tg iter wi:=λZ s O H H0 I q=>QE (h Z s O H H0 I q) λv y m=>QE m<|by rintro v w ⟨f,p,a,J,M,e,u,T,r⟩;exact⟨f,p,a,J,M,e,u,T.x i,r⟩
section
variable {E:Hp}{b9:Shared}
def Lg{f:List (Option Nat)}{g:CIn->TG}{tc:CIn->TT}{te:CIn->TE}
(ck:CompOk X.N X.env.scope N f scope)
(hg:∀c,PG (Vn X N scope c) tg<|g c)(ht:∀c,TgOk f<|g c)(hcs:∀c,PCs (Vn X N scope c) ifs<|tc c)(he:∀c,PE (Vn X N scope c) elt<|te c)
(K:Qt X Z O E b9)(T:TurnX X tg J fp it tn)(st:tn 0 b9.heap)(L:∀b∈fp,YN X Z E b)
(hq:∀c:CIn,LCw f (g c) (tc c) (te c) O J Q E)
(A:∀x c,cl.lookup x=some c->X.env.cells.lookup x=some c)(hcl2:∀p∈scope.names,p.2=NameKind.free->∃c,cl.lookup p.1=some c)
{RR:Value->Addr->Result->Shared->Prop}
(hRR:∀(H C:Addr) (M:Hp) (I:Shared) (m':Str->Qf),I.heap.Ns C m'->Qt X Z O M I->M C=none->C≠X.env.locals->X.s₀.heap.objs.size<=C->(∀x c,X.env.cells.lookup x=some c->c≠C)->
  (∀p∈X.pn++Z,p.1≠C)->Q (.ref H) M->RR (.ref H) C (.ok .next) I):
 wpAny (model X.prog X.w) X.A (newList []) (λH D=>wpAny (model X.prog X.w) X.A (newFunctionEnv scope X.env.globals cl [] X.env.qual none .none<|some X.env) (λcenv bw=>
  codeAny (model X.prog X.w) X.A (.compStart (.ListComp elt [⟨tg,iter,ifs,0⟩] scope pos) 0 (.ref it) H { cenv with scope:=relabel scope X.env }) (RR H cenv.locals) bw) H2 D) H2 b9:=by
 refine wpAny_newObj_type (wpAny_newFunctionEnv ck.nocell (by intro y hy;simp at hy) (λbj c6 c7=>?_) ck.kind);dsimp only at c6 c7 ⊢;have m:Qt X Z O E { b9 with heap:=b9.heap.push (WY [] 0) }:=K.kept (t':=b9.toks) λb u e=>Xd _ e;have hD:(b9.heap.push<|WY [] 0).get? b9.heap.objs.size=some (WY [] 0):=XG _ rfl;generalize hs3:({ b9 with heap:=b9.heap.push (WY [] 0) }:Shared)=D at m c6 c7 ⊢;have Y:b9.heap.push (WY [] 0)=D.heap:=by rw[<- hs3]
 have hp3':=Y;rw[Y]at hD;simp only[hp3']at c6 c7 ⊢;have S:b9.heap.objs.size<D.heap.objs.size:=by rw[<- Y,Jx];exact UD _
 have k3:∀b u,b9.heap.get? b=some u->D.heap.get? b=some u:=λb u e=>by rw[<- Y];exact Xd _ e
 have k1:=λb u e=>
  c7.extBut b u (Xq<|Xj e) (Xd _ e)
 have fpo:∀b∈fp,b<b9.heap.objs.size:=λb a=>by
  obtain⟨o,e,_⟩:=T.obj 0 _ st b a;exact Xj e
 have st1:tn 0 bj:=T.keep _ _ _ st λb a o e=>k1 b o (k3 b o e);have fneC:=λb a=>Xq (Nat.lt_trans (fpo b a) S);have fneD:=λb a=>Xq (fpo b a)
 have G:∀x d,X.env.cells.lookup x=some d->d≠b9.heap.objs.size:=λx d e=>by
  obtain⟨v,z⟩:=K.cell x d e;exact Xq z.lt
 have l:=λp B=>Xq (Xj (K.pin p B).1);have freeD:E b9.heap.objs.size=none:=K.fresh
 have stk:∀b,b≠X.env.locals->b∉X.fs->b∉frs X.stack:=λb h1 h2 a=>by
  rcases Xe.mp (m.stkSub b a) with z|z
  .exact h1 z
  .exact h2 z
 have exD:∀b,b∈b9.heap.objs.size::fp->b=b9.heap.objs.size\/b∈fp:=λb a=>Xe.mp a
 let c:CIn:=⟨cl,D.heap.objs.size,D,E,b9.heap.objs.size::fp,X.pn++Z⟩
 have t:(Vn X N scope c).Ok:=
  { mod:=m.ok.mod
    kind:=ck.kind
    glob:=m.ok.glob
    blt:=m.ok.blt
    above:=Xn _
    inj:=λx y d h1 h2=>m.ok.inj x y d (A x d h1) (A y d h2)
    has:=λx hx=>by
     rcases Ab hx with z|z
     .exact hcl2 (x,.free) (PySem.mem_of_lookup z) rfl
     .exact Xr rfl (ck.nocell (x,.cell)<|PySem.mem_of_lookup z)
    cab:=λx d h=>Xr (h) Xs
    hd:=m.ok.hd
    frames:=m.ok.frames
    stk:=.inl rfl
    exf:=λb a=>by
     rcases exD b a with rfl|a
     .exact⟨Xq S,λx d e=>G x d<|A x d e⟩
     .exact⟨fneC b a,λx d e=>(L b a).2.2.2.2.1 x d (A x d e)⟩
    bs:=λb o e=>m.bs b o e
    bsz:=Xx m.ok.bsz m.sz
    noex:=λb o e a=>by
     rcases exD b a with rfl|a
     .exact Xr (Xj<|K.bk _ _ e) (Wb _)
     .rcases(L b a).2.2.2.1 with z|z
      .exact m.ok.noex b o e z
      .exact Xr (XM (Xj (m.ok.bs b o e).1) z) (Wb _)
    exfs:=λb a=>by
     rcases exD b a with rfl|a
     .exact stk _ (X5 K.lt) (K.nofs<|Xn _)
     .exact stk b (L b a).2.1 (L b a).2.2.1
    funs:=m.stack
    frf:=m.stkFree }
 have I4:Qt (Vn X N scope c) [(b9.heap.objs.size,WY [] 0)] (Wh f O) E { D with heap:=bj,toks:=D.toks+([]:List (Str×Value)).length }:=
  { ok:=t
    os:=rfl
    bare:=m.bare
    base:=Un.kept k1
    loc:=⟨_,c6,λi x v e1 e2 e3=>by
     have hfi:∃j,f[i]?=some (some j)/\O[j]?=some (some v):=by
      unfold Wh at e2;rw[Xp]at e2;cases ef:f[i]? with
      |none=>rw[ef]at e2;cases e2
      |some o=>
        rw[ef]at e2;cases o with
        |none=>cases e2
        |some j=>
          refine⟨j,rfl,?_⟩;have e2':(O[j]?).join=some v:=Option.some.inj e2;cases es:O[j]? with
          |none=>rw[es]at e2';cases e2'
          |some o2=>
            rw[es]at e2';have:o2=some v:=e2';rw[this]
     obtain⟨j,ef,es⟩:=hfi;obtain⟨x',n1,n2,n3⟩:=ck.ix i j ef;have:x'=x:=Option.some.inj (n1.symm.trans e1);subst this;have hfr:=ck.free (x',.free) (PySem.mem_of_lookup n3) rfl;obtain⟨m0,hm0,hl0⟩:=m.loc;obtain⟨u,ru,lk⟩:=hl0 j x' v n2 es (hfr.elim (λz=>.inr<|.inl z) λz=>.inr<|.inr z);refine⟨u,ru,.inr ⟨Ac n3,?_⟩⟩;rcases lk with ⟨kl,_⟩|⟨_,d,ed,hd⟩
     .have kl':X.env.scope.names.lookup x'=some .local:=kl;rcases hfr with z|z
      .rw[kl']at z;cases z
      .rw[kl']at z;cases z
     .obtain⟨d',ed'⟩:=hcl2 (x',.free) (PySem.mem_of_lookup n3) rfl;have:d'=d:=Option.some.inj ((A x' d' ed').symm.trans ed);subst this;exact⟨d',ed',hd.keeps k1⟩⟩
    cell:=λx d e=>by
     obtain⟨v,z⟩:=m.cell x d (A x d e);exact⟨v,z.keeps k1⟩
    free:=m.fresh
    freeC:=λx d e=>m.freeC x d (A x d e)
    pin:=λp B=>by
     rcases XA.mp (B) with hp'|hp'
     .obtain⟨e,n,ne,nf,d⟩:=m.pin p hp';exact⟨k1 _ _ e,n,Xq<|Xj e,stk p.1 ne nf,d⟩
     .have z:=Xt.mp hp';subst z;exact⟨k1 _ _ hD,freeD,Xq S,stk _ (X5 K.lt)<|K.nofs<|Xn _,λv z=>nomatch (show Data.seq _ _=Data.cell v from z)⟩
    hok:=m.hok.kept k1
    len:=by
     unfold Wh;rw[Xi];exact ck.len }
 have back:∀{σ':St} {M:Hp} {I:Shared} {ps:Qc},Qt (Vn X N scope c) ps σ' M I->Qt X Z O M I:=λ{σ' M I ps} J'=>
  m.call' J'.os J'.base J'.hok J'.bare λb a=>by
   rcases exD b a with rfl|a
   .exact⟨.inr K.sz,X5 K.lt,G,l⟩
   .exact⟨(L b a).2.2.2.1,(L b a).2.1,(L b a).2.2.2.2.1,(L b a).2.2.2.2.2⟩
 have fpX:∀{M:Hp} {ob:Obj},(∀b∈fp,M b=none)->∀b∈fp,YN (Vn X N scope c) [(b9.heap.objs.size,ob)] M b:=λ{M ob} hn b a=>
  ⟨hn b a,(t.exf b<|Xg _ a).1,t.exfs b<|Xg _ a,.inl<|Xg _ a,(t.exf b<|Xg _ a).2,λp B=>by
   rcases XA.mp (B) with z|z
   .exact(L b a).2.2.2.2.2 p z
   .have z:p=(b9.heap.objs.size,ob):=Xt.mp z;subst z;exact(fneD b a).symm⟩
 obtain⟨W,⟨m0,w0⟩,turn⟩:=hq c;have loop:∀s,s=({ D with heap:=bj,toks:=D.toks+([]:List (Str×Value)).length }:Shared)->
  codeAny (model X.prog X.w) X.A (.compLoop (.ListComp elt [⟨tg,iter,ifs,0⟩] scope pos) 0 (.ref it) (.ref b9.heap.objs.size)<|compEnvC scope cl D.heap.objs.size X.env) (RR (.ref b9.heap.objs.size) D.heap.objs.size) s:=by
  rintro s rfl;refine Zlq (λn I=>∃i M ys w k,Qt (Vn X N scope c) [(b9.heap.objs.size,WY w k)] (Wh f O) M I/\QR ys w/\ys.length<=sizeLine/\tn i I.heap/\(∀b∈fp,M b=none)/\W i n ys M) ?_ m0 ⟨0,_,[],[],0,I4,.nil,X3 _,st1,λb a=>(L b a).1,w0⟩;rintro n s5 ⟨i,H5,ys,w,k,I5,U,hz5,st5,fr5,w5⟩;rcases turn i n ys H5 w5 with ⟨stop,qn⟩|⟨go,step⟩
  .refine QE (T.done (Vn X N scope c) rfl rfl rfl rfl rfl i _ s5 (Wh f O) H5 _ I5 (fpX fr5) st5 stop) ?_;rintro r s6 ⟨hr,I6⟩;subst hr;obtain⟨m6,hn6,_⟩:=id I6.loc;obtain⟨eD,nD,_⟩:=I6.pin (b9.heap.objs.size,WY w k) (XO _<|Xt.mpr rfl);have I7:Qt X Z O (upd H5 b9.heap.objs.size<|.lst ys) s6:=(back I6).track nD K.sz (X5 K.lt) G l ⟨hz5,w,k,U,eD⟩;refine hRR _ _ _ s6 m6 hn6 I7 (by rw[Q6<|X5 S];exact I6.free) (X5 m.lt) m.sz (λx d e=>?_) (λp B=>?_) (qn _ nD)
   .obtain⟨v,z⟩:=m.cell x d e;exact Xq z.lt
   .exact Xq (Xj (m.pin p B).1)
  .refine QE (T.item (Vn X N scope c) rfl rfl rfl rfl rfl i _ s5 (Wh f O) H5 _ I5 (fpX fr5) st5 go) ?_;rintro r s6 ⟨u,hr,h6⟩;subst hr;refine QE h6 ?_;rintro _ s7 ⟨x,H7,I7,r7,y7,st7,fr7⟩;have I7':=I7.pinned (fpX fr7) (T.obj _ _ st7);refine QE (hg c _ s7 (Wh f O) H7 x u _ I7' r7<|(ht c).keep _ _ _ _ (step x H7 y7)) ?_;rintro _ s8 ⟨P,H8,I8,kp8,q8⟩;have wk:∀(j:Nat) v,(Wh f O)[j]?=some (some v)->P[j]?=some (some v):=λj v e=>by
    have ef:∃k,f[j]?=some (some k):=by
     have e':=e;unfold Wh at e';rw[Xp]at e';cases q:f[j]? with
     |none=>rw[q]at e';cases e'
     |some o=>
      cases o with
      |none=>rw[q]at e';cases e'
      |some k=>exact⟨k,rfl⟩
    obtain⟨k,ef⟩:=ef;rw[kp8.2 j k ef];exact e
   have recs:∀{H9:Hp} {s9:Shared} {ob:Obj},Qt (Vn X N scope c) ([(b9.heap.objs.size,ob)]++Dr fp s7.heap) P H9 s9->tn (i+1) s9.heap/\∀b∈fp,H9 b=none:=λ{H9 s9 ob} I9=>
    ⟨T.keep _ _ _ st7 λb a o e=>(I9.pin (b,o)<|XO _<|XO _<|Hl a e).1,λb a=>by
     obtain⟨o,e,d⟩:=T.obj _ _ st7 b a;exact(I9.pin (b,o)<|XO _<|XO _<|Hl a e).2.1⟩
   refine QE (hcs c _ s8 P H8 _ I8 q8) ?_;rintro ok s9 ⟨H9,I9,q9⟩;cases ok with
   |false=>
    obtain⟨m',hm,w9⟩:=(q9);obtain⟨z1,z2⟩:=recs I9;exact⟨m',hm,i+1,H9,ys,w,k,(I9.unpinned).weak kp8.1.symm wk,U,hz5,z1,z2,w9⟩
   |true=>
    refine QE (he c _ s9 P H9 _ I9<|q9) ?_;rintro v R ⟨y,H10,I10,r10,hlen,m',hm,w10⟩;obtain⟨eD,nD,neD,nfD,dD⟩:=I10.pin (b9.heap.objs.size,WY w k) (XO _<|Jz _<|Xt.mpr rfl);obtain⟨z1,z2⟩:=recs I10;have lv:=U.length;refine call_meets F.slot_list_append ⟨_,eD,rfl⟩ F.entry_list_append (F.args_list_append_2 _ _) (PySem.list_append b9.heap.objs.size w.toArray k v<|by rw[Xv];lia) ⟨eD,?_⟩;have q:=PySem.IsL.update eD (·.push v);have hf:w.toArray.push v=(w++[v]).toArray:=by simp
    rw[hf]at q;have I11:=
     (I10.pins_of (pins':=[]) λp B=>Xr B<|by simp).turned (t':=R.toks) (it:=b9.heap.objs.size) (λb o a e=>(X7 R.heap (Obj.mapSeq (·.push v))<|Ne.symm a).trans e) nD neD (.inl Xb) (t.exf _ Xb).2 λp B=>by
      have z:=B;rw[XN]at z;exact l p z
    have I12:Qt (Vn X N scope c) [(b9.heap.objs.size,WY (w++[v]) _)] P H10 { R with heap:=R.heap.update b9.heap.objs.size (Obj.mapSeq (·.push v)) }:=
     I11.pins_of λp B=>by
      have z:p=(b9.heap.objs.size,_):=Xt.mp B;subst z;exact⟨q,nD,neD,nfD,λv z=>nomatch (show Data.seq _ _=Data.cell v from z)⟩
    refine⟨m',hm,i+1,H10,ys++[y],w++[v],_,I12.weak kp8.1.symm wk,U.append<|.cons r10 .nil,by rw[Xy,List.length_singleton];lia,?_,z2,w10⟩;exact T.keep _ _ _ z1 λb a o e=>(X7 R.heap (Obj.mapSeq (·.push v)) (fneD b a).symm).trans e
 exact codeAny_compStart_list (loop _<|by rw[<- hs3]) (T.self _ 0 _ _ _ st1<|loop _<|by rw[<- hs3])
def EJ{f:List (Option Nat)}{g:CIn->TG}{tc:CIn->TT}{te:CIn->TE}
(ck:Bb NX sc N f scope=true)(y:X.N=NX)(v:X.env.scope=sc)(k:PIH X tg iter wi)
(l:∀c,PG (Vn X N scope c) tg<|g c)(P:∀c,TgOk f<|g c)(w:∀c,PCs (Vn X N scope c) ifs<|tc c)(t:∀c,PE (Vn X N scope c) elt<|te c)
(R:∀x,foldedSetIterable iter X.env x=pure x:=by intro _;rfl):PE X (.ListComp elt [⟨tg,iter,ifs,0⟩] scope pos) (tLC f wi g tc te):=by
 subst y v;intro Z s O H Q I h;have a:=Ce ck;obtain⟨cl,i,u,r⟩:=C5 λp d n=>I.ok.has p.1 (a.free p d n);refine wpAny_comprehension_free rfl R i a.kind a.names (QE (k Z s O H _ I h) λxv b7 bj=>QE bj λK b9 bv=>?_);obtain⟨it,fp,tn,J,E,e,I2,T,B,f2,W⟩:=bv;subst e;refine Lg a l P w t I2 T B f2 W u r ?_;intro A C M s' D j I' G F U S L q;exact⟨D,j,λY m=>⟨.ref A,M,I'.turned (λb o z e=>(m.2 b z).trans e) G F (.inr U) S L,rfl,q⟩⟩
def ZD{f:List (Option Nat)}{g:CIn->TG}{tc:CIn->TT}{te:CIn->TE}
(u:X.calm=true)(v:Bb NX sc N f scope=true)(i:X.N=NX)(a:X.env.scope=sc)(q:PI X tg iter wi)
(r:∀c,PG (Vn X N scope c) tg<|g c)(m:∀c,TgOk f<|g c)(h:∀c,PCs (Vn X N scope c) ifs<|tc c)(s:∀c,PE (Vn X N scope c) elt<|te c)
(p:∀x,foldedSetIterable iter X.env x=pure x:=by intro _;rfl):PE X (.ListComp elt [⟨tg,iter,ifs,0⟩] scope pos) (tLC f wi g tc te):=
 EJ v i a (q.x u) r m h s p
def Zr8{r:Pos}{f:List (Option Nat)}{g:CIn->TG}{tc:CIn->TT}{te:CIn->TE}
(hN:X.N.Nodup)(P:X.N[i]?=some x)(k:X.env.scope.names.lookup x=some .local)
(ck:Bb NX sc N f scope=true)(W:X.N=NX)(D:X.env.scope=sc)(hi:PIH X tg iter wi)
(hg:∀c,PG (Vn X N scope c) tg<|g c)(Y:∀c,TgOk f<|g c)(R:∀c,PCs (Vn X N scope c) ifs<|tc c)(he:∀c,PE (Vn X N scope c) elt<|te c)
(B:swapsWith (.ListComp elt [⟨tg,iter,ifs,0⟩] scope pos) (some<|.Name x px) r.line X.env=pure true)
(hs:∀x,foldedSetIterable iter X.env x=pure x:=by intro _;rfl):PS X (.Assign [.Name x px] (.ListComp elt [⟨tg,iter,ifs,0⟩] scope pos) r) (Ww (tLC f wi g tc te)<|WH i):=by
 subst W D;intro Z s O H ta I h;have m:=Ce ck;obtain⟨cl,u,A,y⟩:=C5 λp hp hf=>I.ok.has p.1 (m.free p hp hf);rw[exec_Assign_Name_used _ _ _ _ B];refine Xa (wpAny_standAt<|Xa ?_)
 refine Xa (wpAny_mono (wpAny_comprehension_free rfl hs u m.kind m.names
  (QE (hi Z s O H _ I h) λxv b7 bj=>QE bj λU b9 bv=>?_)) (λ_ L K=>Xl<|Xl K) λ_ _ e=>e)
 obtain⟨it,fp,tn,J,E,e,I2,T,t,f2,K⟩:=bv;subst e;refine Lg m hg Y R he I2 T t f2 K A y ?_;intro d C M L S hn I' hC l h0 n h2 q;refine wpAny_assign_Name (Cd I' hN P (.inl k) (v:=.ref d) rfl ?_<|.inr k);rintro G j ⟨a,F,ha⟩;have Q:C≠a:=by
  rcases ha with z|z
  .rw[z];exact l
  .exact(n _ _ z).symm
 refine⟨S,hn.sameBut F Q,λh'' w=>?_⟩;exact⟨_,M,j.turned (λb o hb e=>(w.2 b hb).trans e) hC l (.inr h0) n h2,q⟩
def JO{a:Pos}{f:List (Option Nat)}{g:CIn->TG}{tc:CIn->TT}{te:CIn->TE}
(C:X.N.Nodup)(p:X.N[i]?=some x)(s:X.env.scope.names.lookup x=some .local)
(B:X.calm=true)(D:Bb NX sc N f scope=true)(r:X.N=NX)(m:X.env.scope=sc)(w:PI X tg iter wi)
(y:∀c,PG (Vn X N scope c) tg<|g c)(u:∀c,TgOk f<|g c)(q:∀c,PCs (Vn X N scope c) ifs<|tc c)(A:∀c,PE (Vn X N scope c) elt<|te c)
(h:swapsWith (.ListComp elt [⟨tg,iter,ifs,0⟩] scope pos) (some<|.Name x px) a.line X.env=pure true)
(v:∀x,foldedSetIterable iter X.env x=pure x:=by intro _;rfl):PS X (.Assign [.Name x px] (.ListComp elt [⟨tg,iter,ifs,0⟩] scope pos) a) (Ww (tLC f wi g tc te)<|WH i):=
 Zr8 C p s D r m (w.x B) y u q A h v
end
end L2
namespace L2
mutual
inductive Rep(H:Hp):V->PyData->Prop
 |non:Rep H .non .none
 |bl (b:Bool):Rep H (.bl b) (.bool b)
 |int (i:Int):Rep H (.int i) (.int i)
 |str (x:Str):Rep H (.str x) (.str x)
 |lst {a:Addr}{xs:List V}{ds:Qd}:H a=some (.lst xs)->Q1 H xs ds->Rep H (.ref a) (.list ds)
 |tup {a:Addr}{xs:List V}{ds:Qd}:H a=some (.tup xs)->Q1 H xs ds->Rep H (.ref a) (.tuple ds)
 |dct {a:Addr}:H a=some (.dK [])->Rep H (.ref a) (.dict [])
inductive Q1(H:Hp):List V->Qd->Prop
 |nil:Q1 H [] []
 |cons {x:V}{xs:List V}{d:PyData}{ds:Qd}:Rep H x d->Q1 H xs ds->Q1 H (x::xs) (d::ds)
end
mutual
theorem Rep.mono{H M:Hp}(s:QI H M):∀{v:V} {d:PyData},Rep H v d->Rep M v d
 |_,_,.non=>.non
 |_,_,.bl b=>.bl b
 |_,_,.int i=>.int i
 |_,_,.str x=>.str x
 |_,_,.lst h r=>.lst (s _ _ h) (Q1.mono s r)
 |_,_,.tup h r=>.tup (s _ _ h) (Q1.mono s r)
 |_,_,.dct h=>.dct (s _ _ h)
theorem Q1.mono{H M:Hp}(s:QI H M):∀{vs:List V} {ds:Qd},Q1 H vs ds->Q1 M vs ds
 |_,_,.nil=>.nil
 |_,_,.cons r t=>.cons (Rep.mono s r) (Q1.mono s t)
end
theorem Q1.length{H:Hp}:∀{vs:List V} {ds:Qd},Q1 H vs ds->vs.length=ds.length
 |_,_,.nil=>rfl
 |_,_,.cons _ t=>by simp[Q1.length t]
theorem Q1.get{H:Hp}:∀{vs:List V} {ds:Qd} {i:Nat} {d:PyData},Q1 H vs ds->ds[i]?=some d->∃v,vs[i]?=some v/\Rep H v d
 |_,_,_,_,.nil,e=>by simp at e
 |_,_,0,_,.cons r _,e=>by simp at e;subst e;exact⟨_,rfl,r⟩
 |_,_,i+1,d,.cons _ t,e=>by
  obtain⟨u,f,a⟩:=Q1.get (i:=i) (d:=d) t (by simpa using e);exact⟨u,by simpa using f,a⟩
theorem Q1.snoc{H:Hp}{v:V}{d:PyData}:∀{vs:List V} {ds:Qd},Q1 H vs ds->Rep H v d->Q1 H (vs++[v]) (ds++[d])
 |_,_,.nil,h=>.cons h .nil
 |_,_,.cons r t,h=>.cons r (Q1.snoc t h)
theorem Q1.append{H:Hp}:∀{vs ws:List V} {ds es:Qd},Q1 H vs ds->Q1 H ws es->Q1 H (vs++ws) (ds++es)
 |_,_,_,_,.nil,s=>s
 |_,_,_,_,.cons r t,s=>.cons r (Q1.append t s)
theorem Q1.set{H:Hp}{v:V}{d:PyData}(r:Rep H v d):∀{vs:List V} {ds:Qd} (i:Nat),Q1 H vs ds->Q1 H (vs.set i v) (ds.set i d)
 |_,_,_,.nil=>.nil
 |_,_,0,.cons _ t=>.cons r t
 |_,_,i+1,.cons q t=>.cons q (Q1.set r i t)
theorem JQ{H:Hp}:∀{vs:List V} {l:Ql},Q1 H vs (l.map PyData.int)->vs=l.map V.int
 |_,[],.nil=>rfl
 |_,i::l,.cons (.int _) t=>by rw[Xz,JQ t]
theorem FU{H:Hp}:∀(l:Ql),Q1 H (l.map V.int) (l.map PyData.int)
 |[]=>.nil
 |i::l=>.cons (.int i) (FU l)
section
variable {H:Hp}
mutual
theorem Rep.reads(I:Qt X Z O H s):∀{v:V} {d:PyData} {u:Value},Rep H v d->QP v u->∃as,Reads s.heap u d as
 |_,_,_,.non,r=>by cases r;exact⟨_,.none⟩
 |_,_,_,.bl b,r=>by cases r;exact⟨_,.bool b⟩
 |_,_,_,.int i,r=>by obtain⟨t,rfl⟩:=r;exact⟨_,.int i t⟩
 |_,_,_,.str x,r=>by obtain⟨t,rfl⟩:=r;exact⟨_,.str x t⟩
 |_,_,_,.lst h q,r=>by
  cases r;obtain⟨z,m,n,a,e⟩:=I.hok _ _ h;obtain⟨as,f⟩:=Q1.reads I q a;exact⟨_,.list e rfl rfl (by simpa using f)⟩
 |_,_,_,.tup h q,r=>by
  cases r;obtain⟨z,m,a,o,e,c,n,dd⟩:=I.hok _ _ h;obtain⟨as,f⟩:=Q1.reads I q a;exact⟨_,.tuple e c dd<|by simpa using f⟩
 |_,_,_,.dct h,r=>by
  cases r;obtain⟨z,y,B,A,C,es,D,e,c,dd,_,w,_⟩:=I.hok _ _ h;cases A;have p:es.toList=[]:=Pe w.length;exact⟨_,.dict (kvs:=[]) e c.1 dd (by rw[p];exact .nil)<|by rw[p];exact .nil⟩
theorem Q1.reads(I:Qt X Z O H s):∀{vs:List V} {ds:Qd} {us:Qe},Q1 H vs ds->QR vs us->∃as,ReadsAll s.heap us ds as
 |_,_,_,.nil,r=>by cases r;exact⟨_,.nil⟩
 |_,_,_,.cons q t,r=>by
  cases r with
  |cons i h=>
   obtain⟨as,f⟩:=Rep.reads I q i;obtain⟨m,a⟩:=Q1.reads I t h;exact⟨_,.cons f a⟩
end
def Wg(d:PyData):Prop:=d.canLay0=true/\d.depth<=60
def Ai:R2:=λx y H Q=>∃d e,Rep H x d/\Rep H y e/\Wg d/\Wg e/\Q (.bl<|PyData.eqv d e) H
def Ax:R2:=λx y H Q=>∃d e,Rep H x d/\Rep H y e/\Wg d/\Wg e/\Q (.bl<|!PyData.eqv d e) H
def Tv(A:X.A.units+64<cLine):OpR X (compareOp .Eq) Ai:=by
 intro Z s O H x y v u Q I f a h;obtain⟨d,e,r,p,fd,w,q⟩:=h;obtain⟨K,m⟩:=r.reads I f;obtain⟨D,i⟩:=p.reads I a;refine SeqAt.compareEq_reads m i fd.1 w.1 ?_ ⟨.bl<|PyData.eqv d e,H,I,rfl,q⟩;have C:=fd.2;have B:min d.depth e.depth<=d.depth:=Nat.min_le_left _ _;lia
def PX(A:X.A.units+64<cLine):OpR X (compareOp .NotEq) Ax:=by
 intro Z s O H x y v u Q I f a h;obtain⟨d,e,r,p,fd,w,q⟩:=h;obtain⟨K,m⟩:=r.reads I f;obtain⟨D,i⟩:=p.reads I a;refine SeqAt.compareNe_reads m i fd.1 w.1 ?_ ⟨.bl<|!PyData.eqv d e,H,I,rfl,q⟩;have C:=fd.2;have B:min d.depth e.depth<=d.depth:=Nat.min_le_left _ _;lia
end
def LN(f:Wg d):PyData.eqv d d=true:=SeqAt.eqv_refl d f.1
def Tg{a:Type}{xs:List a}{i:Int}{v:a}(h:atI xs i=some v):∃j:Nat,xs[j]?=some v/\ixN xs.length i=some j:=by
 unfold atI at h;cases e:ixN xs.length i with
 |none=>rw[e]at h;cases h
 |some j=>rw[e]at h;exact⟨j,h,rfl⟩
inductive TyN(H:Hp):V->String->Prop
 |non:TyN H .non "NoneType"
 |bl (b:Bool):TyN H (.bl b) "bool"
 |int (i:Int):TyN H (.int i) "int"
 |str (x:Str):TyN H (.str x) "str"
 |lst {a:Addr}{xs:List V}:H a=some (.lst xs)->TyN H (.ref a) "list"
 |tup {a:Addr}{xs:List V}:H a=some (.tup xs)->TyN H (.ref a) "tuple"
 |dct {a:Addr}:H a=some (.dK [])->TyN H (.ref a) "dict"
def tyD:PyData->String
 |.none => "NoneType"
 |.bool _ => "bool"
 |.int _ => "int"
 |.str _ => "str"
 |.list _ => "list"
 |.tuple _ => "tuple"
 |.dict _ => "dict"
def Rep.ty(r:Rep H v d):TyN H v (tyD d):=by
 cases r with
 |non=>exact .non
 |bl b=>exact .bl b
 |int i=>exact .int i
 |str x=>exact .str x
 |lst h _=>exact .lst h
 |tup h _=>exact .tup h
 |dct h=>exact .dct h
def UL(T c:String):Option Bool:=
 if T = "int" /\ c = "int" then some true else if T = "int" /\ c = "bool" then some false else if T = "list" /\ c = "list" then some true else if T = "tuple" /\ c = "tuple" then some true else none
def OR:ZY X (.builtin "isinstance") (λxs H Q=>∃x T c b,xs=[x,.ty c]/\TyN H x T/\UL T c=some b/\Q (.bl b) H):=by
 intro Z s O H xs K Q I r h;obtain⟨x,T,c,b,rfl,y,e,q⟩:=h;obtain⟨u,D,rfl,f,B⟩:=BK r;cases (B);have a:∀t,EP X Z O Q _ { s with toks:=t }:=λt=>⟨.bl b,H,I.tok t,rfl,q⟩
 cases y with
 |int i=>
  obtain⟨t,rfl⟩:=f
  by_cases z:c = "int"
  .subst z;cases e;exact IsiPair.int_int (a _)
  .by_cases w:c = "bool"
   .subst w;cases e;exact IsiPair.int_bool (a _)
   .simp[UL,z,w]at e
 |lst p=>
  by_cases z:c = "list"
  .subst z;cases e;cases f;obtain⟨z,m,n,A,v⟩:=I.hok _ _ p;exact IsiPair.list_list v rfl (a _)
  .simp[UL,z]at e
 |tup p=>
  by_cases z:c = "tuple"
  .subst z;cases e;cases f;obtain⟨z,m,A,o,v,C,n,dd⟩:=I.hok _ _ p;exact IsiPair.tuple_tuple v C (a _)
  .simp[UL,z]at e
 |_=>simp[UL]at e
def Jc(_ j:Int):Prop:=0<j/\j<2^8000
def Os{j:Int}(h:Jc 0 j):j.natAbs.log2<9000:=by
 have f:j.natAbs≠0:=by have:=h.1;lia
 have a:j.natAbs<2^8000:=by have:=h.2;have:=h.1;lia
 have:=(Nat.log2_lt f).mpr a;lia
def Yv:OpR X (binaryOp .FloorDiv) (rI Jc λi j=>.int<|i/j):=opI λi j _ _ _ _ _ a q=>by
 have e:i.fdiv j=i/j:=Int.fdiv_eq_ediv_of_nonneg _ (Int.le_of_lt a.1);refine floordiv_int (Int.ne_of_gt a.1) ?_ (.inl<|PyProof.noPylong_of_log2<|Os a);rw[e];exact q
def Ar(i j:Int):Prop:=0<=j/\(Builtin.Int.intBits i:Int)+j<=2^27
def EN:OpR X (binaryOp .LShift) (rI Ar λi j=>.int<|i*2^j.toNat):=opI λ_ _ _ _ _ _ _ a q=>lshift_int a.1 a.2 q
def Jp:OpR X (binaryOp .Mult) (rI IntMulOk λi j=>.int<|i*j):=opI λ_ _ _ _ _ _ _ a q=>mul_int q a
def IW:MtR X "int.bit_length" (λx xs H Q=>∃i,x=.int i/\xs=[]/\Q (.int<|Builtin.Int.intBits i) H):=by
 intro Z s O H x xs v m Q I a f h;obtain⟨i,rfl,rfl,q⟩:=h;obtain⟨t,rfl⟩:=a;cases f;exact call_givesAt F.slot_int_bit_length (typeIs_int s i t) F.entry_int_bit_length (F.args_int_bit_length_1 _) (Gives.at (P:=λ_=>True)<|AutoIntG2.int_bit_length_int_0 i t) trivial (show EP X Z O Q _ _ from⟨.int<|Builtin.Int.intBits i,H,I.tok _,⟨_,rfl⟩,q⟩)
def QI.upd(s:QI H M)(h:H a=none):QI H (L2.upd M a o):=λb u e=>by
 rw[Q6<|Vq e h];exact s b u e
def QI.new(h:H a=none):QI H (L2.upd H a o):=(QI.refl H).upd h
end L2
namespace Att
open PySem PySem.W PySem.Calls PyProof.Rows
theorem C3:∀(ns:Ql) (i:Int),i∈ns->Builtin.Int.intBits i<=WData.weightAll (ns.map WData.int)
 |[],i,h=>by simp at h
 |n::ns,i,h=>by
  rw[Xz,WData.weightAll];rcases Xe.mp h with rfl|h
  .have:WData.weight (.int i)=Builtin.Int.intBits i:=by rw[WData.weight];rfl
   lia
  .have:=C3 ns i h;lia
def IM{ns:Ql}(h:WData.layableAll [WData.list<|ns.map WData.int]=true):∀i∈ns,Builtin.Int.intBits i<=2^20:=λi a=>by
 have m:=layableW_arg h _ (Xt.mpr rfl);obtain⟨_,_,f⟩:=layableW_iff.mp m;exact Xx (C3 ns i a) f
def attach_callW{l:OpenLaw}{q:Program}
(hn:l.most=some n)(R:d.params.defaults=[])
(call:∀(w:World) (h m:Shared) (mg K:Str->Qf) (B:Addr) (o:Obj) (D cd s:Value) (a:Addr) (vs:Qe) (ns:Ql),
  Ground q loose [] XP w h mg K m.heap->YP w m.heap->
  m.heap.get? B=some o->o.data=.func (docDef d.name d.params d.body d.scope D cd s)->m.heap.CodeRec cd d.name->mg d.name=some (.ref B)->
  m.heap.get? a=some { cls:=.type "list",data:=.seq vs.toArray }->IntsAre vs ns->ns.length<=n->(∀i∈ns,Builtin.Int.intBits i<=2^20)->m.gens=#[]->
  codeAny (model l.prog w) callerA (.call (.ref B) ⟨[.ref a],[]⟩) (λr C=>r=.ok (.ret<|.bool true)/\OldK m.heap C.heap/\C.os=m.os/\AllBare C.gens) m):
 WalkO q loose XP YP l.row.toRowW d [] (λf vs=>PySem.call f vs):=by
 intro w h m mg K G ρ B o D cd s H kV g x W Z P t b X I u A c O k;obtain rfl:=Dflts.none Z R;obtain rfl:=Dflts.noKw Z;obtain⟨a,vs,ns,rfl,rfl,v,p,y⟩:=Zr5 hn u O;refine enter_call (codeAny_mono (call w h m mg K B o D cd s a vs ns G ρ g (fd_plain x) W P v p y (IM A) t) λr C e=>?_);obtain⟨rfl,F,E,z⟩:=e;exact⟨.inl ⟨.bool true,.bool true,[],rfl,λ_=>rfl,.bool true,Zrw l _,λ_=>⟨List.Pairwise.nil,λ_ j=>(nomatch j)⟩⟩,F,E,z⟩
end Att
namespace L2
structure Scr(K:W.Frag)(H:Hp)(a:Addr)(ns:Ql):Prop where
 sq:SqL K H a (ns.map V.int)
 len:ns.length<=63
 bits:∀i∈ns,Builtin.Int.intBits i<=2^20
def Scr.mono(h:Scr K H a ns)(s:QI H M):Scr K M a ns:=⟨s.seq h.sq,h.len,h.bits⟩
structure Df(K:W.Frag)(mg:Str->Qf)(x:Str)(st:Stmt)(ps:Qh):Prop where
 ex:∃f fd,Fun K x x st f fd/\mg x=some (.ref f)/\VH K fd ps []
def Qv(P:Program)(w:World)(K:W.Frag)(mg:Str->Qf)(base:Heap)(x:Str)(ps:Qh)(k:Nat)(a:Sp):Prop:=
 ∃f fd,mg x=some (.ref f)/\W.keepIn K (.ref f)=true/\VH K fd ps []/\FnOk P w K mg base CX0 k f fd ps a
def Df.go{i:CXT}{base:Heap}{x:Str}{st:Stmt}{k:Nat}{a:Sp}(m:Df K mg x st ps)(h:∀f fd,Fun K x x st f fd->FnOk P w K mg base i k f fd ps a):∃f fd,mg x=some (.ref f)/\W.keepIn K (.ref f)=true/\VH K fd ps []/\FnOk P w K mg base i k f fd ps a:=by
 obtain⟨f,fd,F,p,q⟩:=m.ex;exact⟨f,fd,p,F.kp,q,h f fd F⟩
def Q3{x:Str}{a:Pos}{e:Expr}{t:TA}{j k:Nat}{m:Sp}(C:Qv X.prog X.w X.K X.mg X.base x ps j m)(q:Room k X.A)(A:PA X (e::es) t)(u:j<=k:=by walk_at"j")(v:Gl X x:=by rfl)
(i:(x==("__debug__" : Str))=false:=by decide +kernel)
(w:zs X e es:=by rfl)(h:(backTo a<|starEach es X.env).any (·.1)=false:=by rfl):PE X (.Call (.Name x p) (e::es) [] a) (YC m [] E0 t):=by
 obtain⟨f,fd,r,s,y,F⟩:=C;exact TF F (q.mono u) v r s y .nil Da A i w h
def Mb:bootBuiltins "abs"=some (.builtin "abs"):=by decide +kernel
def ZT:bootBuiltins "len"=some (.builtin "len"):=by decide +kernel
def KZ:bootBuiltins "max"=some (.builtin "max"):=by decide +kernel
def Gb:bootBuiltins "min"=some (.builtin "min"):=by decide +kernel
def YY:bootBuiltins "sum"=some (.builtin "sum"):=by decide +kernel
def Mh:bootBuiltins "all"=some (.builtin "all"):=by decide +kernel
def J9:bootBuiltins "isinstance"=some (.builtin "isinstance"):=by decide +kernel
def GO:bootBuiltins "int"=some (.type "int"):=by decide +kernel
def Lq:bootBuiltins "bool"=some (.type "bool"):=by decide +kernel
def Ni:bootBuiltins "list"=some (.type "list"):=by decide +kernel
def Wn:bootBuiltins "tuple"=some (.type "tuple"):=by decide +kernel
end L2
namespace L2
mutual
theorem Rep.uniq{H:Hp}:∀{v:V} {d e:PyData},Rep H v d->Rep H v e->d=e
 |_,_,_,.non,.non=>rfl
 |_,_,_,.bl b,.bl _=>rfl
 |_,_,_,.int b,.int _=>rfl
 |_,_,_,.str b,.str _=>rfl
 |_,_,_,.lst h r,.lst h' a=>by
  rw[h]at h';cases h';rw[Q1.uniq r a]
 |_,_,_,.tup h r,.tup h' a=>by
  rw[h]at h';cases h';rw[Q1.uniq r a]
 |_,_,_,.lst h r,.tup h' a=>by rw[h]at h';cases h'
 |_,_,_,.tup h r,.lst h' a=>by rw[h]at h';cases h'
 |_,_,_,.dct h,.dct h'=>rfl
 |_,_,_,.lst h r,.dct h'=>by rw[h]at h';cases h'
 |_,_,_,.tup h r,.dct h'=>by rw[h]at h';cases h'
 |_,_,_,.dct h,.lst h' a=>by rw[h]at h';cases h'
 |_,_,_,.dct h,.tup h' a=>by rw[h]at h';cases h'
theorem Q1.uniq{H:Hp}:∀{vs:List V} {ds es:Qd},Q1 H vs ds->Q1 H vs es->ds=es
 |_,_,_,.nil,.nil=>rfl
 |_,_,_,.cons r t,.cons f a=>by rw[Rep.uniq r f,Q1.uniq t a]
end
mutual
def noL:PyData->Bool
 |.none=>true
 |.bool _=>true
 |.int _=>true
 |.str _=>true
 |.list _=>false
 |.dict _=>false
 |.tuple a=>noLs a
def noLs:Qd->Bool
 |[]=>true
 |d::a=>noL d&&noLs a
end
mutual
theorem Rep.updL{H:Hp}{l:Addr}{us za:List V}(a:H l=some (.lst us)):∀{v:V} {d:PyData},noL d=true->Rep H v d->Rep (L2.upd H l<|.lst za) v d
 |_,_,_,.non=>.non
 |_,_,_,.bl b=>.bl b
 |_,_,_,.int i=>.int i
 |_,_,_,.str x=>.str x
 |_,_,h,.lst _ _=>by simp[noL]at h
 |_,_,h,.tup f r=>.tup (by rw[Q6<|P2 f a<|by intro z;cases z];exact f) (Q1.updL a (by simpa [noL] using h) r)
theorem Q1.updL{H:Hp}{l:Addr}{us za:List V}(a:H l=some (.lst us)):∀{vs:List V} {ds:Qd},noLs ds=true->Q1 H vs ds->Q1 (L2.upd H l<|.lst za) vs ds
 |_,_,_,.nil=>.nil
 |_,_,h,.cons r t=>.cons (Rep.updL a (by simp[noLs]at h;exact h.1) r) (Q1.updL a (by simp[noLs]at h;exact h.2) t)
end
end L2
namespace L2
def C1(a b:Int):Builtin.Range.rangeSize a b (-1)=((a-b).toNat:Int):=by
 unfold Builtin.Range.rangeSize;split<;>lia
def Zni{a b:Int}(ha : -(2^62)<=a)(h:a<2^62)(hb : -(2^62)<=b)(f:b<2^62):Builtin.Range.small a b (-1)=true:=by
 unfold Builtin.Range.small;rw[C1];simp only[Builtin.Range.rangeFitsLong,Jy,Bool.or_eq_true,decide_eq_true_eq,beq_iff_eq,show ¬((-1) > 0) by decide,if_false];lia
def Kl(a:Int)(n:Nat):It:=⟨λi _=>i<n,λi H x M=>M=H/\x=.int (a-i),λi _=>n<=i⟩
theorem ZmJ(it:Addr)(hi:Int)(n:Nat):Turn P w K tg (Kl hi n) [it] it (λi h=>IsRangeIter h it (hi+(i:Nat)*(-1)) ((n:Int)-(i:Nat)) (-1)) where
 mem:=by simp
 obj:=λi h a b f=>by
  simp_all
 keep:=λi h h' a k=>k it (by simp) _ a
 item:=by
  intro X D C R q i Z s O H H2 I p a hg;subst D C R;obtain⟨B,A,j,y,u,r⟩:=p it (by simp);have W:=Walks.range (prog:=X.prog) (w:=X.w) (I.ok.hd q) it hi (-1) n;refine W.item i s _ _ hg a λv h' c g m d=>?_;obtain⟨t,rfl⟩:=g;have x:Qt X Z O H { s with heap:=h',toks:=c }:=I.turned (λb o f e=>d b o (by simpa using f) e) B A y u r;refine⟨_,rfl,BN m rfl rfl (by decide) ⟨.int<|hi-i,H,x,⟨t,?_⟩,⟨rfl,rfl⟩,m,λb f=>(p b f).1⟩⟩
  grind
 done:=by
  intro X D C R q i Z s O H H2 I p a hg;obtain⟨B,A,j,y,u,r⟩:=p it (by simp);exact wpAny_pyNext_range_end (I.ok.hd q) a (by have:n<=i:=hg;lia) λh' l=>⟨rfl,I.turned (λb o f e=>l b o f e) B A y u r⟩
 self:=λ_ _ _ _ _ a h=>wpAny_pyIter_rangeiter a h
def ZrN{H:Hp}{H0:It->Hp->Prop}{lo a:Int}{t u v:Tok}{h:Nat}(I:Qt X Z O H s)(h1 : -(2^62)<=a)(p:a<2^62)(h3 : -(2^62)<=lo)(m:lo<2^62)
(q:H0 (Kl a (a-lo).toNat) H):wpAny (model X.prog X.w) X.A (pyIter<|.ref s.heap.objs.size) (PIE X Z O tg H0) H2 { s with heap:=s.heap.push { cls:=.type "range",data:=.fields #[.int a t,.int lo u,.int (-1) v] },toks:=h }:=by
 refine wpAny_pyIter_range (IsRange.new ..) (Zni h1 p h3 m) ?_;have f:Qt X Z O H { s with heap:=s.heap.push { cls:=.type "range",data:=.fields #[.int a t,.int lo u,.int (-1) v] },toks:=h }:=I.kept λb o e=>Xd _ e
 refine⟨(s.heap.push { cls:=.type "range",data:=.fields #[.int a t,.int lo u,.int (-1) v] }).objs.size,[(s.heap.push { cls:=.type "range",data:=.fields #[.int a t,.int lo u,.int (-1) v] }).objs.size],_,_,H,rfl,
  f.kept λb o e=>Xd _ e,ZmJ _ a (a-lo).toNat,?_,λb i=>?_,q⟩
 .have w:a+((0:Nat))*(-1)=a:=by simp
  have r:(((a-lo).toNat))-((0:Nat))=Builtin.Range.rangeSize a lo (-1):=by rw[C1];lia
  rw[w,r];exact XG _ rfl
 .have e:b=(s.heap.push { cls:=.type "range",data:=.fields #[.int a t,.int lo u,.int (-1) v] }).objs.size:=by simpa using i
  subst e;exact f.fpOk (Xn _) (f.hok.fresh<|Xn _)
def P7(D:TA):TI:=λO H H0=>D O H λa L=>∃i j:Int,a=[.int i,.int j,.int (-1)]/\(-(2^62)<=i/\i<2^62 /\ -(2^62)<=j/\j<2^62)/\H0 (Kl i (i-j).toNat) L
def FH{a b c:Expr}{D:TA}{m:Pos}(W:Gl X "range")(R:X.mg "range"=none)(d:PA X [a,b,c] D)(P:starEach [a,b,c] X.env=[(false,eval a X.env),(false,eval b X.env),(false,eval c X.env)]:=by rfl)
(u:starEach [b,c] X.env=[(false,eval b X.env),(false,eval c X.env)]:=by rfl):PI X tg (.Call (.Name "range" p) [a,b,c] [] m) (P7 D):=by
 intro Z s O H H0 I h;refine Call_ (JE I W R boot_range<|PyProof.Rows.callWith_type1 (QE (d m Z s O H _ I h) ?_) (by rw[P,u])<|by rw[u];rfl);rintro l x ⟨k,L,g,y,v⟩;obtain⟨i,j,e,⟨v,K,C,B⟩,q⟩:=v;subst e;cases y with
 |cons r f=>
  cases f with
  |cons A f=>
   cases f with
   |cons w f=>
    cases f;obtain⟨t,rfl⟩:=r;obtain⟨o,rfl⟩:=A;obtain⟨n,rfl⟩:=w;exact call_range_3 (by decide) (ZrN g v K C B q) (.inl<|PyProof.noPylong_small<|by decide)
def Ky(K:W.Frag):V->V->Hp->VK->Prop:=λo i H Q=>∃p xs k v,o=.ref p/\i=.int k/\SqL K H p xs/\0<=k/\xs[k.toNat]?=some v/\Q v H
def Znc(ns:Ql):preSum (λi=>ns.getD i 0) ns.length=ns.sum:=by
 have a:∀k,k<=ns.length->preSum (λi=>ns.getD i 0) k=(ns.take k).sum:=by
  intro k;induction k with
  |zero=>intro _;simp[preSum]
  |succ k f=>
   intro m;have h:k<ns.length:=by lia
   rw[Y9,List.sum_append,<- f (by lia)];simp[preSum,h]
 rw[a ns.length<|Xn _,XX]
theorem GX:∀{vs:Qe} {ns:Ql} {i:Nat} {v:Value},IntsAre vs ns->vs[i]?=some v->∃t,v=.int (ns.getD i 0) t
 |_,_,_,_,.nil,e=>by simp at e
 |_,_,0,_,.cons n t h,e=>by simp at e;exact⟨t,by simp[<- e]⟩
 |_,_,i+1,v,.cons n t h,e=>by
  obtain⟨a,z⟩:=GX h (by simpa using e);exact⟨a,by simpa using z⟩
def ZlL(D:A.handled=none)(r:s.heap.IsList l vs.toArray)(y:IntsAre vs ns)
(h:∀h' B t',(∀b o,s.heap.get? b=some o->h'.get? b=some o)->Q (.int ns.sum t') { s with heap:=h',toks:=B }):wpAny (model prog w) A (call (.builtin "sum") [.ref l]) Q H2 s:=by
 obtain⟨o,u,d,n,c⟩:=id r;have q:=Xq (Xj u);have W:=(Walks.list (prog:=prog) (w:=w) (A:=A.in1) D s.heap.objs.size l q vs.toArray).toS;refine call_sum_walkAnyS (wpAny_pyIter_list r ?_);refine⟨s.heap.objs.size,_,_,_,_,_,_,λi=>ns.getD i 0,rfl,W,⟨⟨_,XG _ rfl,rfl,rfl⟩,r.at λo e=>Xd _ e⟩,λb a=>?_,λi v K=>GX y<|by simpa using K,λC t' f=>?_⟩
 .rcases Xe.mp a with rfl|a
  .exact Xj (XG _ rfl)
  .obtain rfl:=Xt.mp a;exact Xj (Xd _ u)
 .obtain⟨h',O,Z,m,p⟩:=C;have X:O=s.gens:=f.gens;have R:Z=s.drawn:=f.drawn;have P:p=s.os:=f.os;subst X R P;have es:vs.toArray.size=ns.length:=by rw[Xv,y.length]
  rw[es,Znc];exact h h' m t' λb o e=>f.heap b o (λa=>Xr (Xj e)<|(Xt.mp a)▸Wb _) (Xd _ e)
def DM:Ag X (Ky X.K):=by
 intro Z s O H o i P R Q I m u h;obtain⟨p,xs,k,v,rfl,rfl,B,D,f,q⟩:=h;cases m;obtain⟨t,rfl⟩:=u;obtain⟨A,r,y,W⟩:=I.list B;obtain⟨w,K,a⟩:=r.get f;have b:=UW;have C:=(Xh.mp f).1;exact wpAny_getItem_list y.isList D (by lia) (by simpa using K) ⟨v,H,I,a,q⟩
def Zqu:ZY X (.builtin "sum") (λxs H Q=>X.calm=true/\∃(x:V) (ns:Ql),xs=[x]/\Rep H x (.list<|ns.map PyData.int)/\Q (.int ns.sum) H):=by
 intro Z s O H xs B Q I r h;obtain⟨w,x,ns,rfl,v,q⟩:=h;obtain⟨u,rfl,a⟩:=VY r;cases v with
 |lst y i=>
  cases a;have A:=JQ i;subst A;obtain⟨m,f,p,K⟩:=I.list (SqL.of y);exact ZlL (I.ok.hd w) p.isList (Bn f) λh' C D k=>⟨.int ns.sum,H,I.kept k,⟨_,rfl⟩,q⟩
end L2
namespace L2
def Qt.turnedL{H:Hp}{t':Nat}{ch:Qg}(I:Qt X Z O H s)(k:∀b o,b∉ch->s.heap.get? b=some o->h'.get? b=some o)(f:∀b∈ch,YN X Z H b):Qt X Z O H { s with heap:=h',toks:=t' }:=by
 refine I.step (λb p=>?_) (λb o _ _ a e _=>k b o a e) (λb o _ _ a e _=>⟨o.slots,k b o a e⟩) (λ_ _ _ _ n=>n)
  (λb o a e=>⟨o,k b o a e⟩) (λ_ _ e=>e) (λ_ _ _ e=>e) (λb ps e=>⟨#[],by rw[e];simp⟩) (λm i=>?_) (λb u e=>?_) I.bare (λb _ o a _ e=>k b o a e)
 .obtain⟨P,B,K,A,y,w⟩:=f b p;exact⟨A,B,y,w⟩
 .obtain⟨o,es,C,h,r⟩:=i;exact⟨o,es,C,k _ o (λz=>(f _ z).2.1 rfl) h,r⟩
 .refine(I.hok b u e).stay (λc v a q=>k c v (λz=>?_) q) (λ_ q=>q) λ_ _ q=>q
  have D:=(f c z).1
  grind
def Qt.trackTup{H:Hp}{T:Addr}{x:V}{u v:Value}(f:Qt X Z O H s0)(I:Qt X Z O H s)(a:s0.heap.objs.size<=T)(rx:QP x u)(i:QP y v)(h:s.heap.IsTuple T #[u,v]):Qt X Z O (upd H T<|.tup [x,y]) s:=by
 refine I.track (f.hok.fresh a) (Xx f.sz a) (X5<|XM f.lt a) (λz c e q=>?_) (λp r q=>?_) ⟨by show 2<=sizeLine;decide,[u,v],.cons rx<|.cons i .nil,h⟩
 .obtain⟨w,m⟩:=f.cell z c e;exact Xr (XM m.lt<|by rw[q];exact a) (Wb _)
 .exact Xr (XM (Xj (f.pin p r).1)<|by rw[q];exact a) (Wb _)
def Itz(K:W.Frag)(a b:Addr):It:=
 ⟨λi H=>∃xs ys x y,SqL K H a xs/\SqL K H b ys/\xs[i]?=some x/\ys[i]?=some y,
  λi H v M=>∃p x y,H p=none/\v=.ref p/\M=upd H p (.tup [x,y])/\(∀xs,SqL K H a xs->xs[i]?=some x)/\∀ys,SqL K H b ys->ys[i]?=some y,
  λi H=>∃xs ys,SqL K H a xs/\SqL K H b ys/\i=min xs.length ys.length⟩
def Ite(K:W.Frag)(a:Addr):It:=
 ⟨λi H=>∃xs x,SqL K H a xs/\xs[i]?=some x,
  λi H v M=>∃p x,H p=none/\v=.ref p/\M=upd H p (.tup [.int (i:Int),x])/\∀xs,SqL K H a xs->xs[i]?=some x,
  λi H=>∃xs,SqL K H a xs/\i=xs.length⟩
theorem ZtG{g:Qi}{k:Nat}{pos:Pos}{z TI TO i1 i2 b:Addr}(ta:ZipApart z TI TO i1 i2 a b):
 Turn P w K (.Tuple g k pos) (Itz K a b) [z,TI,TO,i1,i2] z (λi h=>IsZip h z TI TO .none/\IsPair h TI (.ref i1) (.ref i2)/\(∃p q,IsPair h TO p q)/\h.IsListIter i1 a i/\h.IsListIter i2 b i) where
 mem:=by simp
 obj:=λi h C c B=>by
  obtain⟨d,u,⟨p,q,f⟩,⟨o1,e1,c1,d1⟩,o2,e2,c2,d2⟩:=C;simp only[Xe,XT,or_false]at B;rcases B with rfl|rfl|rfl|rfl|rfl
  .exact⟨_,d,by rintro v ⟨⟩⟩
  .exact⟨_,u,by rintro v ⟨⟩⟩
  .exact⟨_,f,by rintro v ⟨⟩⟩
  .exact⟨_,e1,λv z=>by rw[d1]at z;cases z⟩
  .exact⟨_,e2,λv z=>by rw[d2]at z;cases z⟩
 keep:=λi h h' C N=>by
  obtain⟨d,u,⟨p,q,f⟩,F,E⟩:=C;exact⟨N z (by simp) _ d,N TI (by simp) _ u,⟨p,q,N TO (by simp) _ f⟩,F.at λo e=>N i1 (by simp) o e,E.at λo e=>N i2 (by simp) o e⟩
 item:=by
  intro X hP hw hK B i Z s O H H2 I Y C hg;subst hP hw hK;obtain⟨xs,ys,x,y,R,D,hx,hy⟩:=hg;obtain⟨r,l,p1,hz1⟩:=I.list R;obtain⟨m,j,p2,hz2⟩:=I.list D;obtain⟨u1,S,ru1⟩:=l.get hx;obtain⟨u2,Q,ru2⟩:=j.get hy;obtain⟨d,u,f,F,E⟩:=C;have W:=WalksT.zip2 (prog:=X.prog) (w:=X.w) (A:=X.A) (I.ok.hd B) z TI TO i1 i2 a b ta r.toArray m.toArray;have l1:i<r.length:=(Xh.mp S).1;have l2:i<m.length:=(Xh.mp Q).1;have wr:∀c∈[z,TO,i1,i2],YN X Z H c:=λc B=>Y c (by
   simp only[Xe,XT,or_false]at B ⊢;rcases B with rfl|rfl|rfl|rfl<;>simp)
  refine W.item i s _ _ (by simp only[Xv];lia) ⟨d,u,f,F,E,p1.isList,p2.isList⟩ λT vals h' J pt hT tup L kp=>?_;obtain⟨v1,v2,e1,e2,rfl⟩:=pt
  have ev1:v1=u1:=by
   have:r[i]?=some v1:=by simpa using e1
   rw[S]at this;exact(Option.some.inj this).symm
  have ev2:v2=u2:=by
   have:m[i]?=some v2:=by simpa using e2
   rw[Q]at this;exact(Option.some.inj this).symm
  subst ev1 ev2;have I1:Qt X Z O H { s with heap:=h',toks:=J }:=I.turnedL kp wr;refine⟨.ref T,rfl,W.go g k pos i T { s with heap:=h',toks:=J } _ _ L λU st' M=>?_⟩;have I2:Qt X Z O H { s with heap:=U,toks:=J }:=I1.turnedL (t':=J) M wr;have G:U.IsTuple T #[v1,v2]:=by
   obtain⟨o,ho,hcl,n,hd⟩:=tup;exact⟨o,M T o (W.apart i T h' L) ho,hcl,n,hd⟩
  have I3:=I.trackTup I2 hT ru1 ru2 G;obtain⟨sz,sTI,sTO,s1,s2,_,_⟩:=st';refine⟨.ref T,_,I3,rfl,⟨T,x,y,I.hok.fresh hT,rfl,rfl,λxs' h=>by rw[I.list_inj h R];exact hx,λys' h=>by rw[I.list_inj h D];exact hy⟩,⟨sz,sTI,sTO,s1,s2⟩,λc t=>?_⟩;have hlt:c<s.heap.objs.size:=by
   simp only[Xe,XT,or_false]at t;obtain⟨p,q,f⟩:=f;rcases t with rfl|rfl|rfl|rfl|rfl
   .exact Xj d
   .exact Xj u
   .exact Xj f
   .obtain⟨_,e,_⟩:=F;exact Xj e
   .obtain⟨_,e,_⟩:=E;exact Xj e
  rw[Q6<|Xq<|XM hlt hT];exact(Y c t).1
 done:=by
  intro X hP hw hK B i Z s O H H2 I Y C hg;subst hP hw hK;obtain⟨xs,ys,R,D,rfl⟩:=hg;obtain⟨r,l,p1,hz1⟩:=I.list R;obtain⟨m,j,p2,hz2⟩:=I.list D;obtain⟨d,u,f,F,E⟩:=C;have W:=WalksT.zip2 (prog:=X.prog) (w:=X.w) (A:=X.A) (I.ok.hd B) z TI TO i1 i2 a b ta r.toArray m.toArray;have wr:∀c∈[z,TO,i1,i2],YN X Z H c:=λc B=>Y c (by
   simp only[Xe,XT,or_false]at B ⊢;rcases B with rfl|rfl|rfl|rfl<;>simp)
  have en:min xs.length ys.length=min r.toArray.size m.toArray.size:=by simp[l.length,j.length]
  refine W.done s _ _ (by rw[<- en];exact⟨d,u,f,F,E,p1.isList,p2.isList⟩) λh' J kp=>⟨rfl,I.turnedL kp wr⟩
 self:=λ_ _ _ _ _ C h=>wpAny_pyIter_zip C.1 h
theorem ZrS(d:e≠it)(b:a≠e)(R:a≠it):
 Turn P w K (.Tuple elts k pos) (Ite K a) [e,it] e (λi h=>(∃m,IsEnum h e it i m)/\h.IsListIter it a i) where
 mem:=by simp
 obj:=λi h q c l=>by
  obtain⟨⟨m,p⟩,o1,e1,c1,d1⟩:=q
  grind
 keep:=λi h h' q kk=>by
  obtain⟨⟨m,p⟩,y⟩:=q;exact⟨⟨m,kk e (by simp) _ p⟩,y.at λo x=>kk it (by simp) o x⟩
 item:=by
  intro X S L U l i Z s O H H2 I j q hg;subst S L U;obtain⟨xs,x,r,hx⟩:=hg;obtain⟨f,u,G,J⟩:=I.list r;obtain⟨u1,D,F⟩:=u.get hx;obtain⟨p,y⟩:=q;have W:=WalksT.enumerate (prog:=X.prog) (w:=X.w) (I.ok.hd l) e it a d b R f.toArray;have l1:=(Xh.mp D).1;have wr:=j;refine W.item i s _ _ (by simp only[Xv];lia) ⟨p,y,G.isList⟩ λT vals h' g pt Q tup B kp=>?_;obtain⟨t,v1,e1,rfl⟩:=pt
  have ev1:=by
   have:=by simpa using e1
   rw[D]at this;exact(Option.some.inj this).symm
  subst ev1;have I1:Qt X Z O H { s with heap:=h',toks:=g }:=I.turnedL kp wr;refine⟨.ref T,rfl,W.go elts k pos i T { s with heap:=h',toks:=g } _ _ B λY E C=>?_⟩;have I2:=I1.turnedL (t':=g) C wr;have A:Y.IsTuple T #[.int (i) t,v1]:=by
   obtain⟨o,ho,N,n,hd⟩:=tup;exact⟨o,C T o (W.apart i T h' B) ho,N,n,hd⟩
  have I3:=I.trackTup I2 Q (x:=.int (i)) ⟨t,rfl⟩ F A;obtain⟨s1,s2,_⟩:=E;refine⟨.ref T,_,I3,rfl,⟨T,x,I.hok.fresh Q,rfl,rfl,λxs' h=>by rw[I.list_inj h r];exact hx⟩,⟨s1,s2⟩,λc v=>?_⟩;have M:c<s.heap.objs.size:=by
   simp only[Xe,XT,or_false]at v;obtain⟨m,p⟩:=p;rcases v with rfl|rfl
   .exact Xj p
   .obtain⟨_,z,_⟩:=y;exact Xj z
  rw[Q6<|Xq<|XM M Q];exact(j c v).1
 done:=by
  intro X S L U l i Z s O H H2 I j q hg;subst S L U;obtain⟨xs,r,rfl⟩:=hg;obtain⟨f,u,G,J⟩:=I.list r;obtain⟨p,y⟩:=q;have W:=WalksT.enumerate (prog:=X.prog) (w:=X.w) (I.ok.hd l) e it a d b R f.toArray;have en:xs.length=f.toArray.size:=by simp[u.length]
  refine W.done s _ _ (by rw[<- en];exact⟨p,y,G.isList⟩) λh' g kp=>⟨rfl,I.turnedL kp j⟩
 self:=λ_ _ _ _ _ q h=>by
  obtain⟨⟨m,p⟩,_⟩:=q;exact wpAny_pyIter_enum p h
def E7{y:Nat}(f:x<n)(a:y<n):ZipApart (n+4) (n+2) (n+3) n (n+1) x y:=
 ⟨Xq<|by lia,Xq<|by lia,Xq<|by lia,Xq<|by lia,Xq<|by lia,X5<|by lia,X5<|by lia,X5<|by lia,X5<|by lia,Xq<|by lia,
  Xq (by lia),Xq<|by lia,Xq<|by lia,Xq<|by lia,Xq<|by lia,Xq<|by lia,Xq<|by lia,Xq<|by lia⟩
def Ao(K:W.Frag)(D:TA):TI:=λO H H0=>D O H λf L=>∃a b,f=[.ref a,.ref b]/\(∃xs,SqL K L a xs)/\(∃ys,SqL K L b ys)/\H0 (Itz K a b) L
def Pv(K:W.Frag)(D:TA):TI:=λO H H0=>D O H λf L=>∃a,f=[.ref a]/\(∃xs,SqL K L a xs)/\H0 (Ite K a) L
def Cc:bootBuiltins "enumerate"=some (.type "enumerate"):=by decide +kernel
def ZqV:bootBuiltins "zip"=some (.type "zip"):=by decide +kernel
def KW{a b:Expr}{D:TA}{m:Pos}{A:Qi}{k:Nat}{i:Pos}(hg:Gl X "zip")(hm:X.mg "zip"=none)(ha:PA X [a,b] D)(hs:starEach [a,b] X.env=[(false,eval a X.env),(false,eval b X.env)]:=by rfl)(r:starEach [b] X.env=[(false,eval b X.env)]:=by rfl):
 PI X (.Tuple A k i) (.Call (.Name "zip" p) [a,b] [] m) (Ao X.K D):=by
 intro Z s O H H0 I h;refine Call_ (JE I hg hm ZqV<|PyProof.Rows.callWith_type1 (QE (ha m Z s O H _ I h) ?_) (by rw[hs,r])<|by rw[r];rfl);rintro us f ⟨vs,L,B,F,G⟩;obtain⟨x,y,e,⟨xs,U⟩,⟨ys,T⟩,q⟩:=G;subst e;obtain⟨u,v,rfl,t,n⟩:=BK F;cases t;cases n;obtain⟨g,E,W,S⟩:=B.list U;obtain⟨d,z,R,Q⟩:=B.list T;refine call_zip_2 W.isList R.isList λh' j P K h1 h2 Y N=>wpAny_pyIter_zip j ?_;have M:x<f.heap.objs.size:=by obtain⟨o,C,_⟩:=W.isList;exact Xj C
 have J:y<f.heap.objs.size:=by obtain⟨o,C,_⟩:=R.isList;exact Xj C
 have I2:Qt X Z O L { f with heap:=h' }:=B.kept (t':=f.toks) N;refine⟨_,[f.heap.objs.size+4,f.heap.objs.size+2,f.heap.objs.size+3,f.heap.objs.size,f.heap.objs.size+1],_,_,L,rfl,I2,ZtG (TI:=f.heap.objs.size+2) (TO:=f.heap.objs.size+3) (i1:=f.heap.objs.size) (i2:=f.heap.objs.size+1) (a:=x) (b:=y) ?_,⟨j,P,⟨_,_,K⟩,h1,h2⟩,λc l=>?_,q⟩
 .exact E7 M J
 .have w:f.heap.objs.size<=c:=by
   simp only[Xe,XT,or_false]at l;rcases l with rfl|rfl|rfl|rfl|rfl
   .exact B2 _ _
   .exact B2 _ _
   .exact B2 _ _
   .exact Xn _
   .exact B2 _ _
  exact B.fpOk w (B.hok.fresh w)
def CM{a:Expr}{D:TA}   (n:Gl X "enumerate")(l:X.mg "enumerate"=none)(t:PA X [a] D)(g:starEach [a] X.env=[(false,eval a X.env)]:=by rfl):
 PI X (.Tuple elts k tpos) (.Call (.Name "enumerate" p) [a] [] pos) (Pv X.K D):=by
 intro Z s O H H0 I h;refine Call_ (JE I n l Cc<|PyProof.Rows.callWith_type1 (QE (t pos Z s O H _ I h) ?_) g rfl);rintro G f ⟨F,L,m,K,P⟩;obtain⟨x,e,⟨xs,b⟩,q⟩:=P;subst e;obtain⟨u,rfl,B⟩:=VY K;cases B;obtain⟨w,C,r,W⟩:=m.list b;refine call_enumerate_list r.isList λh' y z d R=>wpAny_pyIter_enum y ?_;have v:x<f.heap.objs.size:=by obtain⟨o,j,_⟩:=r.isList;exact Xj j
 have E:=m.kept (t':=f.toks) R;refine⟨_,[f.heap.objs.size+1,f.heap.objs.size],_,_,L,rfl,E,ZrS (Nat.succ_ne_self _) (Xq<|B5 v)<|Xq v,⟨⟨_,y⟩,z⟩,λc A=>?_,q⟩;have i:f.heap.objs.size<=c:=by
  simp only[Xe,XT,or_false]at A;rcases A with rfl|rfl
  .exact B2 _ _
  .exact Xn _
 exact m.fpOk i (m.hok.fresh i)
end L2
namespace L2
def Nv(f:∀b x,b∉[s.heap.objs.size]->(s.heap.push o).get? b=some x->h'.get? b=some x):∀b x,s.heap.get? b=some x->h'.get? b=some x:=
 λb x e=>f b x (λa=>by rw[Xt.mp a]at e;exact Wb _<|Xj e) (Xd _ e)
def Zp1(bs:List Bool):((List.range bs.length).all λi=>bs.getD i true)=bs.all id:=by
 rw[Bx,B3,B3];constructor
 .intro h b m;obtain⟨i,f,rfl⟩:=List.mem_iff_getElem.mp m;have:=h i (Xw.mpr f);simpa [f] using this
 .intro h i f;have a:=Xw.mp f;have:=h bs[i] (XL a);simpa [a] using this
def ZoX{bs:List Bool}{us:Qe}(r:QR (bs.map V.bl) us){v:Value}(e:us[i]?=some v)(d:Bool):v=.bool (bs.getD i d):=by
 have m:=r.length;have p:i<us.length:=(Xh.mp e).1;rw[Xi]at m;have h:(bs.map V.bl)[i]?=some (.bl<|bs.getD i d):=by
  have:i<bs.length:=by lia
  simp[this]
 obtain⟨u,a,f⟩:=r.get h;rw[e]at a;cases a;exact f
def Wv:Ql->Int
 |[]=>0
 |[a]=>a
 |a::b::r=>min a (Wv (b::r))
theorem NP:∀{ns:Ql},ns≠[]->Wv ns∈ns/\∀a∈ns,Wv ns<=a
 |[],h=>Xr rfl h
 |[a],_=>by simp[Wv]
 |a::b::r,_=>by
  obtain⟨m,i⟩:=NP (ns:=b::r) (by simp);simp only[Wv];refine⟨?_,λc f=>?_⟩
  .grind
  .grind
def Iy{H':Int}(f:H'∈ns)(h:∀a∈ns,H'<=a):H'=Wv ns:=by
 obtain⟨m,i⟩:=NP (ns:=ns) (λz=>by rw[z]at f;cases f);have:=h _ m;have:=i _ f;lia
def A9(X:Cx):List V->Hp->VK->Prop:=λxs H Q=>X.calm=true/\∃(x:V) (a:List Bool),xs=[x]/\Rep H x (.list<|a.map PyData.bool)/\Q (.bl<|a.all id) H
def Pu(X:Cx):List V->Hp->VK->Prop:=λxs H Q=>X.calm=true/\∃(x:V) (a:Ql),xs=[x]/\Rep H x (.list<|a.map PyData.int)/\a≠[]/\Q (.int<|Wv a) H
theorem C0{H:Hp}:∀{vs:List V} {l:List Bool},Q1 H vs (l.map PyData.bool)->vs=l.map V.bl
 |_,[],.nil=>rfl
 |_,i::l,.cons (.bl _) t=>by rw[Xz,C0 t]
def BY:ZY X (.builtin "all") (A9 X):=by
 intro Z s O H xs g Q I r h;obtain⟨R,x,f,rfl,D,q⟩:=h;obtain⟨u,rfl,B⟩:=VY r;cases D with
 |@lst l ys _ W C=>
  cases B;have d:=C0 C;subst d;obtain⟨a,y,p,n⟩:=I.list (SqL.of (K:=X.K) W);have w:=p.isList;have m:l<s.heap.objs.size:=by obtain⟨_,e,_⟩:=w;exact Xj e
  refine call_all_walk (wpAny_pyIter_list w ?_);refine⟨s.heap.objs.size,[s.heap.objs.size,l],[s.heap.objs.size],a.toArray.size,_,_,λi=>f.getD i true,rfl,Walks.list (A:=X.A.in1) (I.ok.hd R) _ l (Xq m) a.toArray,
   ⟨⟨_,XG _ rfl,rfl,rfl⟩,w.push _⟩,λi v k o t c b=>?_,λh' j P=>?_⟩
  .rw[ZoX y (show a[i]?=some v by simpa using c) true];exact wpAny_truthy_bool b
  .have e:((List.range a.toArray.size).all λi=>f.getD i true)=f.all id:=by
    have:=y.length;rw[Xi]at this;rw[Xv,<- this];exact Zp1 f
   rw[e];exact⟨.bl _,H,I.kept<|Nv P,rfl,q⟩
def O2:ZY X (.builtin "min") (Pu X):=by
 intro Z s O H xs S Q I r h;obtain⟨G,x,m,rfl,o,C,q⟩:=h;obtain⟨u,rfl,d⟩:=VY r;cases o with
 |@lst l ys _ J n=>
  cases d;have M:=JQ n;subst M;obtain⟨f,g,p,U⟩:=I.list (SqL.of J);have D:=p.isList;have P:=Bn g;have W:=P.length;have hpos:=B7.mpr C;have w:l<s.heap.objs.size:=by obtain⟨_,e,_⟩:=D;exact Xj e
  refine call_min_walk (wpAny_pyIter_list D ?_);refine⟨s.heap.objs.size,[s.heap.objs.size,l],[s.heap.objs.size],f.toArray.size,_,_,_,rfl,Walks.list (A:=X.A.in1) (I.ok.hd G) _ l (Xq w) f.toArray,
   ⟨⟨_,XG _ rfl,rfl,rfl⟩,D.push _⟩,λb y=>?_,by simp only[Xv];lia,CmpOf.ints_lt (λi=>m.getD i 0) (λi v B=>GX P<|by simpa using B),λv h' T B E=>?_⟩
  .rw[Jx];rcases Xe.mp y with rfl|y
   .exact UD _
   .rcases Xe.mp y with rfl|y
    .exact B5 w
    .cases y
  .rw[List.getElem?_toArray]at B;obtain⟨t,rfl⟩:=GX P B;obtain⟨L,c⟩:=argBest_lt (λi=>m.getD i 0) (f.toArray.size-1);have z:f.toArray.size=f.length:=by simp
   generalize argBest _ (f.toArray.size-1)=k at L c ⊢;have K:k<m.length:=by lia
   have N:m.getD k 0=Wv m:=by
    refine Iy (by simp[K]) λa R=>?_;obtain⟨j,F,rfl⟩:=List.mem_iff_getElem.mp R
    have:=c j (by lia);simpa [F] using this
   exact⟨.int<|Wv m,H,I.kept<|Nv E,⟨t,by rw[N]⟩,q⟩
def P3(K:W.Frag):R2:=λx y H Q=>∃a b xs ys,x=.ref a/\y=.ref b/\SqT K H a xs/\SqT K H b ys/\xs.length+ys.length<=sizeLine/\
 (xs=[]->Q (.ref b) H)/\(xs≠[]->ys=[]->Q (.ref a) H)/\(xs≠[]->ys≠[]->∀p,H p=none->Q (.ref p) (upd H p<|.tup<|xs++ys))
def TK:OpR X (binaryOp .Add) (P3 X.K):=by
 intro Z s O H x y v u Q I q i h;obtain⟨a,b,xs,ys,rfl,rfl,C,B,A,W,R,P⟩:=h
 by_cases f:xs=[]
 .cases q;cases i;obtain⟨e,r,d,_⟩:=I.tuple C;obtain⟨w,K,c,_⟩:=I.tuple B;obtain⟨m,F⟩:=I.fr;have D:=r.nil_iff.mpr f;exact add_tuples (news:=[]) F (by rintro p ⟨⟩) d c (λ_=>⟨.ref b,H,I,rfl,W f⟩) (λz _=>Xr D z) (λz=>Xr D z) (by rw[<- r.length,<- K.length];exact A)
 .exact EU Z s O H _ _ v u Q I q i ⟨a,b,xs,ys,rfl,rfl,C,B,f,A,R f,P f⟩
end L2
namespace Mir
def Zw(ns:Ql)(k:Int):Int:=ns.getD k.toNat 0
def PJ(x:Int):Nat:=if x==0 then 0 else x.natAbs.log2+1
def ZhK(i:Int):Int:=if i<0 then -i else i
def mix(head k:Int):Nat->Int×Int×Int
 |0=>(head%2147483629+7919*k,69621*k+5,0)
 |i+1=>
  ((((mix head k i).1*48271+11+(i:Int)*k)%2147483647),
   (((mix head k i).2.1*16807+((mix head k i).1*48271+11+(i:Int)*k)%2147483647)%2147483629),
   (mix head k i).2.2*2147483629+(((mix head k i).2.1*16807+((mix head k i).1*48271+11+(i:Int)*k)%2147483647)%2147483629*(((mix head k i).2.1*16807+((mix head k i).1*48271+11+(i:Int)*k)%2147483647)%2147483629)+((mix head k i).1*48271+11+(i:Int)*k)%2147483647)%2147483587)
def VP(ns:Ql)(k:Int):Int:=
 if Zw ns 0/720%2=1 then (mix (Zw ns 0) k 30).2.2 else ZhK (Zw ns k)+(mix (Zw ns 0) k 30).2.2*2^PJ (ZhK<|Zw ns k)
def GZ(i:Int):0<=ZhK i:=by unfold ZhK;split<;>lia
theorem DZ(head k:Int):∀i,0<=(mix head k i).2.2/\(mix head k i).2.2<2147483629^i
 |0=>by simp[mix]
 |i+1=>by
  obtain⟨f,a⟩:=DZ head k i;have e:(2147483629:Int)^(i+1)=2147483629^i*2147483629:=Int.pow_succ ..;simp only[mix];generalize (((mix head k i).2.1*16807+((mix head k i).1*48271+11+(i:Int)*k)%2147483647)%2147483629*(((mix head k i).2.1*16807+((mix head k i).1*48271+11+(i:Int)*k)%2147483647)%2147483629)+((mix head k i).1*48271+11+(i:Int)*k)%2147483647)=q;rw[e];generalize (2147483629:Int)^i=H' at a ⊢;generalize (mix head k i).2.2=t at f a ⊢;lia
def ZuV(head k:Int):(mix head k 30).2.2<2^930:=by
 have h:=(DZ head k 30).2;have:(2147483629:Int)^30<=2^930:=by decide +kernel
 lia
def DW(ns:Ql)(k:Int):0<=VP ns k:=by
 unfold VP;have h:=(DZ (Zw ns 0) k 30).1;split
 .exact h
 .have a:(0:Int)<=2^PJ (ZhK<|Zw ns k):=Int.pow_nonneg (by decide);have:=WW h a;have:=GZ (Zw ns k);lia
def Ye(n:Int):Int×Int:=
 if n%8=0 then (0,n/8) else if n%8<6 then (n/8%10,n/8/10) else if n%8=6 then (n/8%100,n/8/100) else (n/8%10^30,n/8/10^30)
def Go(h:0<=n):0<=(Ye n).1/\(Ye n).1<10^30/\0<=(Ye n).2:=by
 unfold Ye;have e:(10:Int)^30=1000000000000000000000000000000:=by decide
 rw[e];split
 .simp only;lia
 .split
  .simp only;lia
  .split
   .simp only;lia
   .simp only;lia
def bnd(n:Int):Nat->Ql×Int
 |0=>([],n)
 |i+1=>((bnd n i).1++[(Ye (bnd n i).2).1],(Ye (bnd n i).2).2)
theorem WJ{n:Int}(h:0<=n):∀i,(bnd n i).1.length=i/\0<=(bnd n i).2/\∀b∈(bnd n i).1,0<=b/\b<10^30
 |0=>⟨rfl,h,by simp[bnd]⟩
 |i+1=>by
  obtain⟨p,m,f⟩:=WJ h i;obtain⟨s,r,q⟩:=Go m;refine⟨by simp[bnd,p],q,λb a=>?_⟩;simp only[bnd,XA,Xt]at a;rcases a with a|a
  .exact f b a
  .subst a;exact⟨s,r⟩
structure Ln where
 up:Option Nat
 bs:Ql
structure Yd where
 T:Nat
 ls:List Ln
def W1(ns:Ql)(T k:Nat):Ln:=
 if k=0 then ⟨none,(bnd (VP ns<|1+(k:Int)) T).1⟩ else ⟨some (VP ns (1+(k:Int))%(k:Int)).toNat,(bnd (VP ns (1+(k:Int))/(k:Int)) T).1⟩
def ZbX(ns:Ql):Nat:=(1+ZhK (Zw ns 0)%8).toNat
def Zej(ns:Ql):Nat:=(1+ZhK (Zw ns 0)/8%5).toNat
def W0(ns:Ql):Yd:=⟨ZbX ns,(List.range<|Zej ns).map (W1 ns<|ZbX ns)⟩
def QU(y:Yd)(k:Nat):Option Nat:=(y.ls[k]?).bind (·.up)
structure Yd.Ok(y:Yd):Prop where
 t1:1<=y.T
 t8:y.T<=8
 l1:1<=y.ls.length
 l5:y.ls.length<=5
 up0:QU y 0=none
 ups:∀k,0<k->k<y.ls.length->∃a,QU y k=some a/\a<k
 bl:∀l∈y.ls,l.bs.length=y.T
 bb:∀l∈y.ls,∀b∈l.bs,0<=b/\b<10^300
def D2{b:Int}(h:b<10^30):b<10^300:=Yh h (by decide +kernel)
def C2(ns:Ql):1<=ZbX ns/\ZbX ns<=8:=by unfold ZbX;have:=GZ (Zw ns 0);lia
def Cu(ns:Ql):1<=Zej ns/\Zej ns<=5:=by unfold Zej;have:=GZ (Zw ns 0);lia
def FQ(ns:Ql):(W0 ns).Ok:=by
 obtain⟨q,p⟩:=C2 ns;obtain⟨w,v⟩:=Cu ns;have a:∀k,0<=VP ns (1+(k:Int)):=λk=>DW _ _;refine⟨q,p,by simpa [W0] using w,by simpa [W0] using v,?_,λk u r=>?_,λl f=>?_,λl f=>?_⟩
 .simp only[QU,W0,Xp];cases e:(List.range<|Zej ns)[0]? with
  |none=>rfl
  |some z=>
   have:z=0:=by
    have:=Xh.mp e;obtain⟨m,s⟩:=this;simpa using s.symm
   subst this;simp[W1]
 .have i:k<Zej ns:=by simpa [W0] using r
  have e:(List.range<|Zej ns)[k]?=some k:=by simp[i]
  refine⟨(VP ns (1+(k:Int))%(k:Int)).toNat,?_,?_⟩
  .simp only[QU,W0,Xp,e];simp[W1,X5 u]
  .have m:(0:Int)<k:=by lia
   have:=Ka (VP ns<|1+(k:Int)) m;have:=BA (VP ns<|1+(k:Int)) (Int.ne_of_gt m);lia
 .simp only[W0,Xk,Xw]at f;obtain⟨k,_,rfl⟩:=f;unfold W1;split
  .exact(WJ (a k) _).1
  .exact(WJ (JS (a k)<|by lia) _).1
 .simp only[W0,Xk,Xw]at f;obtain⟨k,_,rfl⟩:=f;unfold W1;split
  .exact λb h=>⟨((WJ (a k) _).2.2 b h).1,D2 ((WJ (a k) _).2.2 b h).2⟩
  .exact λb h=>⟨((WJ (JS (a k)<|by lia) _).2.2 b h).1,D2 ((WJ (JS (a k)<|by lia) _).2.2 b h).2⟩
def Zqq(ns:Ql):∀l∈(W0 ns).ls,∀b∈l.bs,b<10^30:=λl f b a=>by
 have h:∀k,0<=VP ns (1+(k:Int)):=λk=>DW _ _;simp only[W0,Xk,Xw]at f;obtain⟨k,_,rfl⟩:=f;unfold W1 at a;split at a
 .exact((WJ (h k) _).2.2 b a).2
 .exact((WJ (JS (h k)<|by lia) _).2.2 b a).2
def upF9(y:Yd):Nat->Nat->Qk
 |0,k=>[k]
 |n+1,k=>k::match QU y k with
  |none=>[]
  |some a=>if a<k then upF9 y n a else []
theorem upE9(y:Yd):∀n k m,k<=n->k<=m->upF9 y n k=upF9 y m k
 |0,k,0,_,_=>rfl
 |0,k,m+1,h,_=>by
  cases Nat.le_zero.mp h;unfold upF9;cases QU y 0<;>simp
 |n+1,k,0,_,h=>by
  cases Nat.le_zero.mp h;unfold upF9;cases QU y 0<;>simp
 |n+1,k,m+1,h,g=>by
  unfold upF9;cases QU y k with
  |none=>rfl
  |some a=>
   by_cases l:a<k
   .simp only[l,if_true,upE9 y n a m (by omega)<|by omega]
   .simp only[l,if_false]
def upL(y:Yd)(k:Nat):Qk:=upF9 y k k
theorem upD9(y:Yd)(k:Nat):upL y k=k::match QU y k with|none=>[]|some a=>if a<k then upL y a else []:=by
 unfold upL;rw[upE9 y k k (k+1) (Nat.le_refl _)<|by omega];show k::_=_
 cases QU y k with
 |none=>rfl
 |some a=>
  by_cases l:a<k
  .simp only[l,if_true,upE9 y k a a (by omega)<|Nat.le_refl _]
  .simp only[l,if_false]
def Dx{y:Yd}(f:y.Ok)(h:k<y.ls.length):upL y k=if k=0 then [0] else k::upL y ((QU y k).getD 0):=by
 rw[upD9];by_cases i:k=0
 .subst i;simp[f.up0]
 .obtain⟨a,e,l⟩:=f.ups k (by lia) h;simp_all
def PZ(y:Yd):∀k,∀j∈upL y k,j<=k:=by
 intro k;induction k using Nat.strongRecOn with
 |ind k i=>
  intro j f;rw[upD9]at f;rcases Xe.mp f with rfl|f
  .exact Xn _
  .cases e:QU y k with
   |none=>rw[e]at f;simp at f
   |some a=>
    rw[e]at f;by_cases h:a<k
    .simp only[h]at f;have:=i a h j f;lia
    .simp only[h,if_false]at f;simp at f
def NF(y:Yd)(k:Nat):k∈upL y k:=by rw[upD9];exact Xb
def KU{y:Yd}(f:y.Ok)(h0:0<k)(h:k<y.ls.length){a:Nat}(e:QU y k=some a)(l:Nat)(i:l≠k):l∈upL y k↔l∈upL y a:=by
 rw[Dx f h,Xc<|by lia];grind
end Mir
namespace Mir
structure Gs where
 line:Nat
 first:Nat
 last:Nat
 want:Int
 most:Int
structure Gs.Ok(y:Yd)(g:Gs):Prop where
 ln:g.line<y.ls.length
 fl:g.first<=g.last
 lt:g.last<y.T
 w1:1<=g.want
 w2:g.want<10^300
 m1:1<=g.most
 m2:g.most<10^300
def J5(i:Int):Int:=if i > 1 then i else 1
def DE{i:Int}(h:i<10^30):1<=J5 i/\J5 i<10^30:=by
 have e:(10:Int)^30=1000000000000000000000000000000:=by decide
 rw[e]at h ⊢;unfold J5;split<;>lia
def gn0(ns:Ql)(k:Nat):Int:=VP ns (6+(k:Int))
def gn1(ns:Ql)(y:Yd)(k:Nat):Int:=gn0 ns k/(y.ls.length:Int)
def gn2(ns:Ql)(y:Yd)(k:Nat):Int:=gn1 ns y k/(y.T:Int)
def gf(ns:Ql)(y:Yd)(k:Nat):Int:=gn1 ns y k%(y.T:Int)
def gl(ns:Ql)(y:Yd)(k:Nat):Int:=gf ns y k+gn2 ns y k%((y.T:Int)-gf ns y k)
def gn3(ns:Ql)(y:Yd)(k:Nat):Int:=gn2 ns y k/((y.T:Int)-gf ns y k)
def Jq(ns:Ql)(y:Yd)(k:Nat):Gs:=
 ⟨(gn0 ns k%(y.ls.length:Int)).toNat,(gf ns y k).toNat,(gl ns y k).toNat,J5 (Ye<|gn3 ns y k).1,J5 (Ye (Ye<|gn3 ns y k).2).1⟩
def Bo(ns:Ql):Nat:=(ZhK (Zw ns 0)/40%9).toNat
def U1(ns:Ql)(y:Yd):List Gs:=(List.range<|Bo ns).map (Jq ns y)
def MW{y:Yd}(a:y.Ok)(ns:Ql)(k:Nat):0<=gf ns y k/\gf ns y k<y.T:=by
 have h:(0:Int)<(y.T:Int):=by have:=a.t1;lia
 exact⟨BA _<|Int.ne_of_gt h,Ka _ h⟩
def Ku{y:Yd}(i:y.Ok)(ns:Ql)(k:Nat):0<=gn0 ns k/\0<=gn1 ns y k/\0<=gn2 ns y k/\0<=gn3 ns y k:=by
 have h:=DW ns (6+(k:Int));have f:0<=gn1 ns y k:=JS h (by lia);have a:0<=gn2 ns y k:=JS f (by lia);obtain⟨p,m⟩:=MW i ns k;exact⟨h,f,a,JS a<|by lia⟩
def Py{y:Yd}(f:y.Ok)(ns:Ql)(k:Nat):gf ns y k<=gl ns y k/\gl ns y k<y.T:=by
 obtain⟨m,i⟩:=MW f ns k;have h:(0:Int)<(y.T:Int)-gf ns y k:=by lia
 have a:=BA (gn2 ns y k) (Int.ne_of_gt h);have b:=Ka (gn2 ns y k) h;unfold gl;lia
def Zpa{y:Yd}(a:y.Ok)(ns:Ql)(k:Nat):(Jq ns y k).Ok y:=by
 obtain⟨K,D⟩:=MW a ns k;obtain⟨C,B⟩:=Py a ns k;obtain⟨A,w,v,h⟩:=Ku a ns k;obtain⟨X,u,s⟩:=Go h;obtain⟨W,r,R⟩:=Go s;obtain⟨q,p⟩:=DE u;obtain⟨m,i⟩:=DE r;have f:(0:Int)<(y.ls.length:Int):=by have:=a.l1;lia
 have P:=BA (gn0 ns k) (Int.ne_of_gt f);have O:=Ka (gn0 ns k) f;refine⟨?_,?_,?_,q,D2 p,m,D2 i⟩
 .simp only[Jq];lia
 .simp only[Jq];lia
 .simp only[Jq];lia
def Zp0{y:Yd}(a:y.Ok)(ns:Ql)(k:Nat):(Jq ns y k).want<10^30/\(Jq ns y k).most<10^30:=by
 obtain⟨u,s,r,f⟩:=Ku a ns k;obtain⟨C,q,p⟩:=Go f;obtain⟨B,m,A⟩:=Go p;obtain⟨w,i⟩:=DE q;obtain⟨v,h⟩:=DE m;exact⟨i,h⟩
def ZnB{y:Yd}(f:y.Ok)(ns:Ql):∀g∈U1 ns y,g.Ok y:=λg a=>by
 simp only[U1,Xk,Xw]at a;obtain⟨k,_,rfl⟩:=a;exact Zpa f ns k
def Znm{y:Yd}(f:y.Ok)(ns:Ql):∀g∈U1 ns y,g.want<10^30/\g.most<10^30:=λg a=>by
 simp only[U1,Xk,Xw]at a;obtain⟨k,_,rfl⟩:=a;exact Zp0 f ns k
def Zl6(ns:Ql)(y:Yd):(U1 ns y).length<=8:=by
 simp only[U1,Xi,MN,Bo];have:=GZ (Zw ns 0);lia
def Yg(g:Gs)(t:Int):Bool:=decide ((g.first:Int)<=t)&&decide (t<=(g.last:Int))
def Zl(y:Yd)(l:Nat)(t:Nat):Int:=(((y.ls[l]?).map (·.bs)).getD []).getD t 0
def Z0(gs:List Gs)(t:Int)(l:Nat):Qk->Int
 |[]=>0
 |k::r=>(match gs[k]? with|some g=>if g.line=l/\Yg g t=true then g.most else 0|none=>0)+Z0 gs t l r
def Gu(gs:List Gs)(t:Int)(l:Nat)(a b:Qk):Z0 gs t l (a++b)=Z0 gs t l a+Z0 gs t l b:=by
 induction a with
 |nil=>simp[Z0]
 |cons k r f=>simp only[Bz,Z0,f];lia
def YU(y:Yd)(b:Qn)(st:Qn)(j:Nat):Qn:=λl=>st l+(if QU y j=some l then min (st j) (b j) else 0)
def ZK(y:Yd)(b own:Qn):Nat->Qn
 |0=>own
 |i+1=>YU y b (ZK y b own i) (y.ls.length-1-i)
def VI(y:Yd)(b own:Qn)(l:Nat):Int:=ZK y b own (y.ls.length-1) l
def passes(y:Yd)(b own:Qn)(l:Nat):Int:=min (VI y b own l) (b l)
def U4(y:Yd)(b own:Qn)(l:Nat):Qn
 |0=>0
 |n+1=>U4 y b own l n+(if QU y (l+1+n)=some l then passes y b own (l+1+n) else 0)
theorem C7(y:Yd)(f:y.Ok)(b own:Qn)(l:Nat):∀i,i<=y.ls.length-1->y.ls.length-1-i<=l->∀d,i+d<=y.ls.length-1->ZK y b own (i+d) l=ZK y b own i l
 |i,m,h,0,_=>rfl
 |i,m,h,d+1,u=>by
  have p:=C7 y f b own l i m h d (by lia);show YU y b (ZK y b own<|i+d) (y.ls.length-1-(i+d)) l=_;unfold YU;rw[p];by_cases q:0<y.ls.length-1-(i+d)
  .obtain⟨a,r,s⟩:=f.ups _ q (by lia);rw[r];have:¬some a=some l:=by
    intro z;lia
   simp_all
  .lia
def Zpv{y:Yd}(a:y.Ok)(b own:Qn)(f:j<y.ls.length):ZK y b own (y.ls.length-1-j) j=VI y b own j:=by
 have:=C7 y a b own j (y.ls.length-1-j) (by lia) (by lia) j (by lia);rw[show y.ls.length-1-j+j=y.ls.length-1 by lia]at this;exact this.symm
theorem F9{y:Yd}(f:y.Ok)(b own:Qn)(l:Nat):∀i,i<=y.ls.length-1->ZK y b own i l+U4 y b own l (y.ls.length-1-i-l)=own l+U4 y b own l (y.ls.length-1-l)
 |0,_=>by simp[ZK]
 |i+1,A=>by
  have p:=F9 f b own l i (by lia);have e:ZK y b own (i+1) l=ZK y b own i l+(if QU y (y.ls.length-1-i)=some l then passes y b own (y.ls.length-1-i) else 0):=by
   show YU y b (ZK y b own i) _ l=_;unfold YU passes;have q:y.ls.length-1-i<y.ls.length:=by have:=f.l1;lia
   have m:=Zpv f b own q;rw[show y.ls.length-1-_=i by lia]at m;rw[m]
  rw[e];by_cases w:l<y.ls.length-1-i
  .obtain⟨d,s⟩:∃d,y.ls.length-1-i-l=d+1:=⟨y.ls.length-1-i-l-1,by lia⟩
   rw[s]at p;have h:y.ls.length-1-(i+1)-l=d:=by lia
   rw[h];have u:l+1+d=y.ls.length-1-i:=by lia
   simp only[U4,u]at p;lia
  .have C:y.ls.length-1-i-l=0:=by lia
   have h:y.ls.length-1-(i+1)-l=0:=by lia
   rw[h];have:¬QU y (y.ls.length-1-i)=some l:=by
    intro z;have r:0<y.ls.length-1-i:=by lia
    obtain⟨a,B,v⟩:=f.ups _ r (by lia);lia
   simp_all
def OM{y:Yd}(a:y.Ok)(b own:Qn)(l:Nat):VI y b own l=own l+U4 y b own l (y.ls.length-1-l):=by
 have h:=F9 a b own l _ (Xn _);rw[show y.ls.length-1-_-l=0 by lia]at h;simp only[U4]at h;unfold VI;lia
end Mir
namespace Mir
def Qx(f:Qn):Qn
 |0=>0
 |n+1=>Qx f n+f n
theorem Zk{f g:Qn}:∀{n:Nat},(∀k,k<n->f k=g k)->Qx f n=Qx g n
 |0,_=>rfl
 |n+1,h=>by
  simp only[Qx];rw[Zk λk a=>h k<|by lia,h n<|by lia]
theorem VT{f g:Qn}:∀{n:Nat},(∀k,k<n->f k<=g k)->Qx f n<=Qx g n
 |0,_=>UF _
 |n+1,h=>by
  simp only[Qx];have:=VT (n:=n) λk a=>h k (by lia)
  have:=h n (by lia);lia
theorem WO(f g:Qn):∀n,Qx (λk=>f k+g k) n=Qx f n+Qx g n
 |0=>rfl
 |n+1=>by simp only[Qx];rw[WO f g n];lia
theorem Uy(c:Int)(f:Qn):∀n,Qx (λk=>c*f k) n=c*Qx f n
 |0=>by simp[Qx]
 |n+1=>by simp only[Qx];rw[Uy c f n,UE]
theorem VS:∀n,Qx (λ_=>0) n=0
 |0=>rfl
 |n+1=>by simp only[Qx];rw[VS n];rfl
theorem Gk{a:Nat}{v:Int}:∀{n:Nat},Qx (λl=>if l=a then v else 0) n=if a<n then v else 0
 |0=>by simp[Qx]
 |n+1=>by
  simp only[Qx];rw[Gk];by_cases h:n=a
  .subst h;simp
  .by_cases f:a<n
   .simp[h,f];lia
   .have:¬a<n+1:=by lia
    simp[h,f,this]
def GU{f:Qn}(h:∀k,k<n->0<=f k):0<=Qx f n:=by
 have:=VT h;rw[VS]at this;exact this
def Vk(f:Qn)(n:Nat):((List.range n).map f).sum=Qx f n:=by
 induction n with
 |zero=>rfl
 |succ n a=>rw[Wc,XB,List.sum_append,a];simp[Qx]
theorem RE{y:Yd}{b m own a:Qn}(f:∀l,b l<=m l)(h:∀l,own l<=a l):∀i l,ZK y b own i l<=ZK y m a i l
 |0,l=>h l
 |i+1,l=>by
  simp only[ZK,YU];have r:=RE (y:=y) f h i l;have q:=RE (y:=y) f h i (y.ls.length-1-i);have p:=f (y.ls.length-1-i);split<;>lia
def Zn7{y:Yd}{b:Qn}(a:∀l,b l<=b' l)(h:∀l,own l<=own' l)(l:Nat):passes y b own l<=passes y b' own' l:=by
 have i:=RE (y:=y) a h (y.ls.length-1) l;have f:=a l;unfold passes VI;lia
structure Quad(u n a b:Qn):Prop where
 q:∀l,n l<=a l/\n l<=b l/\a l<=u l/\b l<=u l/\u l+n l<=a l+b l
theorem RK{y:Yd}{c u n a b:Qn}(h:Quad u n a b):∀i,Quad (ZK y c u i) (ZK y c n i) (ZK y c a i) (ZK y c b i)
 |0=>h
 |i+1=>⟨λl=>by
   have m:=(RK (y:=y) (c:=c) h i).q l;have f:=(RK (y:=y) (c:=c) h i).q (y.ls.length-1-i);simp only[ZK,YU];split
   .lia
   .lia⟩
def Zn0{y:Yd}{u a:Qn}(h:Quad u n a b):passes y c u 0+passes y c n 0<=passes y c a 0+passes y c b 0:=by
 have:=(RK (y:=y) (c:=c) h<|y.ls.length-1).q 0;unfold passes VI;lia
def wgt(gs:List Gs)(t:Int)(l k:Nat):Int:=match gs[k]? with|some g=>if g.line=l/\Yg g t=true then g.most else 0|none=>0
def Ov(gs:List Gs)(t:Int)(l k:Nat):Z0 gs t l [k]=wgt gs t l k:=by
 simp only[Z0,wgt];cases gs[k]? with
 |none=>rfl
 |some g=>simp
def Ry(gs:List Gs)(t:Int)(l:Nat)(p:Qm)(m:Nat):Z0 gs t l ((List.range m).filter p)=Qx (λk=>if p k=true then wgt gs t l k else 0) m:=by
 induction m with
 |zero=>rfl
 |succ m a=>
  rw[Wc,JU,Gu,a];simp only[Qx];cases e:p m with
  |true=>simp only[MJ,e,if_true,List.filter_nil,Ov]
  |false=>simp only[MJ,e,List.filter_nil,Z0,MP,if_false]
def Et(h:∀g∈gs,1<=g.most)(t:Int)(l k:Nat):0<=wgt gs t l k:=by
 unfold wgt;split
 .rename_i g e;have:=h g (List.mem_of_getElem? e);split<;>lia
 .lia
def Ztt(h:∀g∈gs,1<=g.most)(t:Int)(p q:Qm)(m:Nat):
 Quad (λl=>Z0 gs t l<|(List.range m).filter λk=>p k||q k) (λl=>Z0 gs t l<|(List.range m).filter λk=>p k&&q k) (λl=>Z0 gs t l<|(List.range m).filter p) (λl=>Z0 gs t l<|(List.range m).filter q):=⟨λl=>by
 simp only[Ry];have w:=λk=>Et h t l k;refine⟨VT λk _=>?_,VT λk _=>?_,VT λk _=>?_,VT λk _=>?_,?_⟩
 .have:=w k;cases p k<;>cases q k<;>simp<;>lia
 .have:=w k;cases p k<;>cases q k<;>simp<;>lia
 .have:=w k;cases p k<;>cases q k<;>simp<;>lia
 .have:=w k;cases p k<;>cases q k<;>simp<;>lia
 .rw[<- WO,<- WO];refine VT λk _=>?_
  have:=w k;cases p k<;>cases q k<;>simp⟩
theorem Hc(f:Nat->Qn)(n:Nat):∀m,Qx (λl=>Qx (λk=>f l k) m) n=Qx (λk=>Qx (λl=>f l k) n) m
 |0=>by simp only[Qx];exact VS n
 |m+1=>by
  simp only[Qx];rw[WO,Hc f n m]
end Mir
namespace Mir
def Lr{a:Int}(h:0<=k):min (a*k) (b*k)=min a b*k:=by
 rcases Int.le_total a b with f|f
 .rw[Int.min_eq_left f,Int.min_eq_left<|XV f h]
 .rw[Int.min_eq_right f,Int.min_eq_right<|XV f h]
theorem R9{y a:Yd}{k:Int}(h:0<=k)(f:∀j,QU a j=QU y j)(hn:a.ls.length=y.ls.length)(b own:Qn):∀i l,ZK a (λl=>b l*k) (λl=>own l*k) i l=ZK y b own i l*k
 |0,l=>rfl
 |i+1,l=>by
  simp only[ZK,YU,f,hn];rw[R9 h f hn b own i l,R9 h f hn b own i<|y.ls.length-1-i];by_cases e:QU y (y.ls.length-1-i)=some l
  .rw[Xf e,Xf e,Lr h,JW]
  .rw[Xc e,Xc e,Int.add_zero,Int.add_zero]
def Cy{y:Yd}(h:0<=k)(a:∀j,QU y' j=QU y j)(hn:y'.ls.length=y.ls.length)(b own:Qn)(l:Nat):passes y' (λl=>b l*k) (λl=>own l*k) l=passes y b own l*k:=by
 unfold passes VI;rw[R9 h a hn,hn,Lr h]
end Mir
namespace L2
structure QF(F H F' M:Hp):Prop where
 hh:QI H M
 ff:QI F F'
 fh:QI F' M
 fr:∀a,F' a≠none->F a≠none\/H a=none
def QF.refl(s:QI F H):QF F H F H:=⟨QI.refl _,QI.refl _,s,λ_ h=>.inl h⟩
def QF.trans(a:QF F H F1 L)(b:QF F1 L F2 E):QF F H F2 E:=
 ⟨a.hh.trans b.hh,a.ff.trans b.ff,b.fh,λp h=>by
  rcases b.fr p h with z|z
  .exact a.fr p z
  .exact .inr (a.hh.free z)⟩
def Yy{H:Hp}{o:HO}(h:H a=some o):H a≠none:=by rw[h];rintro⟨⟩
def No{H:Hp}(h:H a≠none):∃o,H a=some o:=by
 cases e:H a with
 |none=>exact Xr e h
 |some o=>exact⟨o,rfl⟩
def OG{p:Addr}(s:QI F H):QI (upd F p o) (upd H p o):=λb u e=>by
 by_cases h:b=p
 .subst h;rw[QT]at e ⊢;exact e
 .rw[Q6 h]at e ⊢;exact s b u e
def QF.new{p:Addr}(s:QI F H)(f:H p=none):QF F H (upd F p o) (upd H p o):=
 ⟨QI.new f,QI.new<|s.free f,OG s,λa h=>by
  by_cases e:a=p
  .subst e;exact .inr f
  .rw[Q6 e]at h;exact .inl h⟩
def QF.own{p:Addr}(s:QI F H)(a:H p=none):QF F H F (upd H p o):=
 ⟨QI.new a,QI.refl _,s.upd<|s.free a,λ_ h=>.inl h⟩
def QF.freeze(x:QF F0 R F H)(i:F a=none)(f:H a=some o)(h0:R a=none):QF F0 R (upd F a o) H:=
 ⟨x.hh,x.ff.trans<|QI.new i,λb u e=>by
  by_cases h:b=a
  .subst h;rw[QT]at e;rw[f];exact e
  .rw[Q6 h]at e;exact x.fh b u e,λb h=>by
  by_cases e:b=a
  .subst e;exact .inr h0
  .rw[Q6 e]at h;exact x.fr b h⟩
def QF.free(x:QF F H F' M)(h:F a=none)(f:H a≠none):F' a=none:=by
 cases e:F' a with
 |none=>rfl
 |some o=>
  rcases x.fr a (Yy e) with z|z
  .exact Xr h z
  .exact Xr z f
structure OwnP where
 ok:W.Frag->Hp->Hp->V->Qg->Prop
 there:∀{K:W.Frag} {F H:Hp} {v:V} {p:Qg},ok K F H v p->∀a∈p,F a=none/\H a≠none
 mono:∀{K:W.Frag} {F F' H M:Hp} {v:V} {p:Qg},QI F F'->(∀a∈p,F' a=none)->(∀a∈p,M a=H a)->ok K F H v p->ok K F' M v p
 uniq:∀{K:W.Frag} {F H:Hp} {v:V} {p q:Qg},ok K F H v p->ok K F H v q->∀a∈q,a∈p
structure ZP where
 ok:W.Frag->Hp->V->Prop
 mono:∀{K:W.Frag} {F F':Hp} {v:V},QI F F'->ok K F v->ok K F' v
inductive OT where
 |zow (Ψ:ZP)
 |fz (d:PyData)
 |ol (ds:Qd)
 |oll (S1:List (Qd))
 |scr (ns:Ql)
 |own (v:V)(Φ:OwnP)
abbrev ZcP:=List (Option OT)
abbrev zi(n:Int):Option OT:=some (.fz (.int n))
abbrev zf(d:PyData):Option OT:=some (.fz d)
abbrev zo(v:V)(d:OwnP):Option OT:=some (.own v d)
abbrev zz(d:ZP):Option OT:=some (.zow d)
abbrev zr(N:List Str)(ts:List OT):ZcP:=ts.map some++List.replicate (N.length-ts.length) none
abbrev zg(r:ZcP)(i:Nat)(t:Option OT):Prop:=r[i]?=some t
def Wu(F H:Hp)(a:Addr)(ds:Qd):Prop:=F a=none/\∃xs,H a=some (.lst xs)/\Q1 F xs ds
def Vp(F H:Hp):Qg->List (Qd)->Prop
 |[],[]=>True
 |a::i,h::f=>Wu F H a h/\Vp F H i f
 |_,_=>False
def ZH(K:W.Frag)(F H:Hp)(v:V):OT->Qg->Prop
 |.fz d,p=>p=[]/\Rep F v d
 |.ol s,p=>∃a,v=.ref a/\p=[a]/\Wu F H a s
 |.oll h,p=>∃a f,v=.ref a/\p=a::f/\(a::f).Nodup/\F a=none/\H a=some (.lst<|f.map V.ref)/\Vp F H f h
 |.scr r,p=>p=[]/\∃a,v=.ref a/\Scr K F a r
 |.own q m,p=>v=q/\m.ok K F H v p
 |.zow i,p=>p=[]/\i.ok K F v
def QI.at_eq(s:QI H M)(h:H a≠none):M a=H a:=by
 cases e:H a with
 |none=>exact Xr e h
 |some o=>exact s _ _ e
def Wu.ext(h:Wu F H a ds)(x:QF F H F' M):Wu F' M a ds:=by
 obtain⟨m,xs,f,i⟩:=h;exact⟨x.free m<|Yy f,xs,x.hh _ _ f,i.mono x.ff⟩
theorem Vp.mem{F H:Hp}:∀{as:Qg} {i:List (Qd)},Vp F H as i->∀a∈as,F a=none/\H a≠none
 |[],[],_,a,f=>by cases f
 |b::as,_::_,h,a,f=>by
  rcases Xe.mp f with rfl|f
  .obtain⟨p,xs,m,_⟩:=h.1;exact⟨p,Yy m⟩
  .exact Vp.mem h.2 a f
 |[],_::_,h,_,_=>False.elim h
 |_::_,[],h,_,_=>False.elim h
def ZH.there{p:Qg}(h:ZH K F H v t p):∀a∈p,F a=none/\H a≠none:=by
 cases t with
 |fz d=>obtain⟨rfl,_⟩:=h;intro a i;cases i
 |zow A=>obtain⟨rfl,_⟩:=h;intro a i;cases i
 |ol D=>
  obtain⟨a,w,rfl,q,xs,m,_⟩:=h;intro b f;have e:=by simpa using f
  subst e;exact⟨q,Yy m⟩
 |oll y=>
  obtain⟨a,O,w,rfl,q,m,u,s⟩:=h;intro b f;rcases Xe.mp f with rfl|f
  .exact⟨m,Yy u⟩
  .exact s.mem b f
 |scr C=>obtain⟨rfl,_⟩:=h;intro a i;cases i
 |own B r=>exact r.there h.2
theorem Vp.move{F m H M:Hp}(s:QI F m):∀{as:Qg} {f:List (Qd)},(∀a∈as,m a=none)->(∀a∈as,M a=H a)->Vp F H as f->Vp m M as f
 |[],[],_,_,_=>trivial
 |a::as,_::_,q,p,o=>by
  obtain⟨⟨w,xs,v,u⟩,r⟩:=o;exact⟨⟨q a Xb,xs,by rw[p a Xb];exact v,u.mono s⟩,Vp.move s (λb i=>q b<|Xg _ i) (λb i=>p b<|Xg _ i) r⟩
 |[],_::_,_,_,h=>False.elim h
 |_::_,[],_,_,h=>False.elim h
def ZH.move{p:Qg}(s:QI F F')(m:∀a∈p,F' a=none)(i:∀a∈p,M a=H a)(h:ZH K F H v t p):ZH K F' M v t p:=by
 cases t with
 |fz d=>exact⟨h.1,h.2.mono s⟩
 |zow w=>exact⟨h.1,w.mono s h.2⟩
 |ol P=>
  obtain⟨a,rfl,rfl,r,xs,q,f⟩:=h;exact⟨a,rfl,rfl,m a Xb,xs,by rw[i a Xb];exact q,f.mono s⟩
 |oll B=>
  obtain⟨a,C,rfl,rfl,r,q,f,A⟩:=h;exact⟨a,C,rfl,rfl,r,m a Xb,by rw[i a Xb];exact f,A.move s (λb u=>m b<|Xg _ u) λb u=>i b<|Xg _ u⟩
 |scr O=>obtain⟨r,a,q,f⟩:=h;exact⟨r,a,q,f.mono s⟩
 |own D y=>exact⟨h.1,y.mono s m i h.2⟩
theorem Ff:∀{as bs:Qg},as.map V.ref=bs.map V.ref->as=bs
 |[],[],_=>rfl
 |a::as,b::bs,h=>by
  injection h with i f;cases i;rw[Ff f]
 |[],_::_,h=>by cases h
 |_::_,[],h=>by cases h
def Rq{w:V}{p q:Qg}(h:ZH K F H w t p)(h':ZH K F H w t q):∀b∈q,b∈p:=by
 cases t with
 |fz d=>rw[h'.1];intro b f;cases f
 |zow D=>rw[h'.1];intro b f;cases f
 |ol R=>
  obtain⟨Z,u,s,r⟩:=h';obtain⟨X,m,v,i⟩:=h
  grind
 |oll C=>
  obtain⟨a,c,u,s,_,_,r,_⟩:=h';obtain⟨b,W,m,v,_,_,i,_⟩:=h;rw[u]at m;cases m;rw[r]at i;injection i with B;injection B with A;rw[s,v,Ff A];exact λ_ z=>z
 |scr P=>rw[h'.1];intro b f;cases f
 |own O y=>exact y.uniq h.2 h'.2
def Vp.ext(x:QF F H F' M)(h:Vp F H as S1):Vp F' M as S1:=h.move x.ff (λa f=>x.free (h.mem a f).1 (h.mem a f).2) λa f=>x.hh.at_eq (h.mem a f).2
def ZH.ext{p:Qg}(h:ZH K F H v t p)(x:QF F H F' M):ZH K F' M v t p:=h.move x.ff (λa f=>x.free (h.there a f).1 (h.there a f).2) λa f=>x.hh.at_eq (h.there a f).2
def Vp.other{b:Addr}(h:Vp F H as S1)(n:b∉as):Vp F (upd H b o) as S1:=h.move (QI.refl _) (λa f=>(h.mem a f).1) λa f=>Q6 λz=>n (z▸f)
def KTs(K:W.Frag)(F:Hp):Prop:=W.nsIn K mainGlobals "START"=some none\/∃a f,W.nsIn K mainGlobals "START"=some (some<|.ref a)/\W.nsIn K mainGlobals "END"=some (some<|.ref f)/\F a=some (.tup [.str "start"])/\F f=some (.tup [.str "end"])
def KTs.mono(h:KTs K F)(s:QI F F'):KTs K F':=
 h.imp id<|by rintro⟨p,q,m,i,f,a⟩;exact⟨p,q,m,i,s _ _ f,s _ _ a⟩
structure QQ(K:W.Frag)(R F:Hp)(Y:ZcP)(O:St)(H:Hp):Prop where
 kt:KTs K F
 sub:QI F H
 len:O.length=Y.length
 fp:∃fp:Nat->Qg,(∀(i:Nat) (t:OT),Y[i]?=some (some t)->∃v,O[i]?=some (some v)/\ZH K F H v t (fp i))/\
  (∀(i j:Nat) (a:Addr),a∈fp i->a∈fp j->i=j)/\∀(i:Nat) (a:Addr),a∈fp i->R a=none/\H a≠none
def QQ.ext(s:QQ K R F Y O H)(x:QF F H F' M):QQ K R F' Y O M:=by
 obtain⟨m,B,w,y,u,r,q⟩:=s;refine⟨m.mono x.ff,x.fh,w,y,λi t e=>?_,r,λi a p=>?_⟩
 .obtain⟨v,h,f⟩:=u i t e;exact⟨v,h,f.ext x⟩
 .obtain⟨h,f⟩:=q i a p;obtain⟨o,A⟩:=No f;exact⟨h,Yy<|x.hh _ _ A⟩
def Fgt:ZcP->ZcP->Prop
 |[],[]=>True
 |_::r,none::a=>Fgt r a
 |s::r,some x::a=>s=some x/\Fgt r a
 |_,_=>False
theorem Fgt.len:∀{Y a:ZcP},Fgt Y a->Y.length=a.length
 |[],[],_=>rfl
 |_::r,none::f,h=>by
  have h':Fgt r f:=h;simp[Fgt.len h']
 |s::r,some x::f,h=>by
  have h':=h;simp[Fgt.len h'.2]
 |[],none::_,h=>False.elim h
 |[],some _::_,h=>False.elim h
 |_::_,[],h=>False.elim h
theorem Fgt.get:∀{Y a:ZcP},Fgt Y a->∀(i:Nat) (t:OT),a[i]?=some (some t)->Y[i]?=some (some t)
 |[],[],_,i,t,e=>by simp at e
 |_::r,none::f,h,0,t,e=>by simp at e
 |_::r,none::f,h,i+1,t,e=>by
  have h':Fgt r f:=h;have:=Fgt.get h' i t (by simpa using e);simpa using this
 |s::r,some x::f,h,0,t,e=>by
  have h':=h;simp at e;subst e;simp[h'.1]
 |s::r,some x::f,h,i+1,t,e=>by
  have h':=h;have:=Fgt.get h'.2 i t (by simpa using e);simpa using this
 |[],none::_,h,_,_,_=>False.elim h
 |[],some _::_,h,_,_,_=>False.elim h
 |_::_,[],h,_,_,_=>False.elim h
def QQ.fgt(s:QQ K R F Y O H)(f:Fgt Y ρ'):QQ K R F ρ' O H:=by
 obtain⟨a,r,q,u,p,m,h⟩:=s;exact⟨a,r,q.trans f.len,u,λi t e=>p i t<|f.get i t e,m,h⟩
def QQ.set{p:Qg}(s:QQ K R F Y O H)(c:ZH K F H v t p)
(n:∀(a:Addr),a∈p->R a=none)
(hn:∀(a:Addr),a∈p->∀(j:Nat) (u:V) (t':OT) (q:Qg),Y[j]?=some (some t')->O[j]?=some (some u)->ZH K F H u t' q->a∉q):
 QQ K R F (Y.set i<|some t) (O.set i<|some v) H:=by
 obtain⟨l,E,x,D,d,o,L⟩:=s;refine⟨l,E,by simp[x],λj=>if j=i then p else if (Y[j]?).join.isSome then D j else [],λj t' e=>?_,λj k a B Z=>?_,λj a B=>?_⟩
 .by_cases f:j=i
  .subst f;have W:=by
    have:=(Xh.mp e).1;simpa using this
   rw[Bu W]at e;cases e;refine⟨v,Bu<|by lia,?_⟩;dsimp only;rw[Xf rfl];exact c
  .rw[U7<|Ne.symm f]at e;obtain⟨u,y,r⟩:=d j t' e;refine⟨u,by rw[U7<|Ne.symm f];exact y,?_⟩;dsimp only;rw[Xc f,e];exact r
 .have m:∀(j:Nat),j≠i->a∈(if j=i then p else if (Y[j]?).join.isSome then D j else [])->∃t' u,Y[j]?=some (some t')/\O[j]?=some (some u)/\ZH K F H u t' (D j)/\a∈D j:=λj f A=>by
   rw[Xc f]at A;cases e:(Y[j]?).join with
   |none=>rw[e]at A;simp at A
   |some t'=>
    rw[e]at A;have g:Y[j]?=some (some t'):=by
     cases z:Y[j]? with
     |none=>rw[z]at e;simp at e
     |some w=>rw[z]at e;simp at e;rw[e]
    obtain⟨u,y,r⟩:=d j t' g;exact⟨t',u,g,y,r,by simpa using A⟩
  by_cases f:j=i
  .by_cases C:k=i
   .lia
   .obtain⟨t',u,y,r,b,P⟩:=m k C Z;have h:=by simpa [f] using B
    exact Xr P (hn a h k u t' _ y r b)
  .obtain⟨t',u,y,r,b,P⟩:=m j f B
   by_cases C:k=i
   .have X:=by simpa [C] using Z
    exact Xr P (hn a X j u t' _ y r b)
   .obtain⟨J,I,Q,N,M,G⟩:=m k C Z;exact o j k a P G
 .by_cases f:j=i
  .have h:=by simpa [f] using B
   exact⟨n a h,(c.there a h).2⟩
  .simp only[Xc f]at B
   grind
def QQ.setF(s:QQ K R F Y O H)(r:Rep F v d):QQ K R F (Y.set i<|zf d) (O.set i<|some v) H:=
 s.set ⟨rfl,r⟩ (by rintro a ⟨⟩) (hn:=λa f=>nomatch f)
def QQ.chg(s:QQ K R F Y O H)(e:Y[i]?=some (some t)):
 ∃v p,O[i]?=some (some v)/\ZH K F H v t p/\(∀b∈p,R b=none/\F b=none/\H b≠none)/\∀w M t' p',QI F w->QI w M->(∀b,b∉p->H b≠none->M b=H b)->(∀b,w b≠none->F b≠none\/H b=none\/b∈p)->ZH K w M v t' p'->(∀b∈p',b∈p\/(H b=none/\R b=none))->
  QQ K R w (Y.set i<|some t') O M/\∀j u h q,j≠i->Y[j]?=some (some h)->O[j]?=some (some u)->ZH K w M u h q->∀b∈q,b∉p/\H b≠none:=by
 obtain⟨N,h1,S,A,c,I,r⟩:=s;obtain⟨v,U,n⟩:=c i _ e;have Z:=(Xh.mp e).1;refine⟨v,A i,U,n,λb a=>⟨(r i b a).1,n.there b a⟩,λw M t' p' l J Q T X D=>?_⟩;have m:∀j,j≠i->∀b∈A j,b∉A i:=λj f b a z=>f (I j i b a z);have G:=λj f b a=>Q b (m j f b a) (r j b a).2
 have x:∀j h u,j≠i->ZH K F H u h (A j)->ZH K w M u h (A j):=λj h u f C=>C.move l (λb a=>Classical.byContradiction λz=>by
  rcases T b z with y|y|y
  .exact y (C.there b a).1
  .exact(r j b a).2 y
  .exact m j f b a y) (G j f)
 have o:∀j,j≠i->∀b∈A j,b∉p':=λj f b a z=>by
  rcases D b z with y|y
  .exact m j f b a y
  .exact(r j b a).2 y.1
 refine⟨⟨N.mono l,J,by simp[S],λj=>if j=i then p' else A j,λj h g=>?_,λj k b a B=>?_,λj b a=>?_⟩,λj u h q f L E W b a=>?_⟩
 .by_cases f:j=i
  .subst f;rw[Bu Z]at g;grind
  .rw[U7<|Ne.symm f]at g;obtain⟨u,d,C⟩:=c j h g;exact⟨u,d,by simp only[Xc f];exact x j h u f C⟩
 .by_cases f:j=i<;>by_cases P:k=i
  .rw[f,P]
  .simp only[Xf f]at a;simp only[Xc P]at B;exact Xr a (o k P b B)
  .simp only[Xc f]at a;simp only[Xf P]at B;exact Xr B (o j f b a)
  .simp only[Xc f]at a;simp only[Xc P]at B;exact I j k b a B
 .by_cases f:j=i
  .simp only[Xf f]at a;exact⟨(D b a).elim (λz=>(r i b z).1) λz=>z.2,(X.there b a).2⟩
  .simp only[Xc f]at a;exact⟨(r j b a).1,by rw[G j f b a];exact(r j b a).2⟩
 .obtain⟨u',d,C⟩:=c j h L;rw[d]at E;cases E;have z:=Rq (x j h u f C) W b a;exact⟨m j f b z,(r j b z).2⟩
def QQ.write(s:QQ K R F Y O H)(e:Y[i]?=some (some<|.ol ds)):
 ∃a xs,O[i]?=some (some<|.ref a)/\H a=some (.lst xs)/\Q1 F xs ds/\R a=none/\F a=none/\∀f m,Q1 F f m->QQ K R F (Y.set i<|some<|.ol m) O (upd H a<|.lst f):=by
 obtain⟨v,p,B,⟨a,rfl,rfl,u,xs,A,r⟩,y,k⟩:=s.chg e;exact⟨a,xs,B,A,r,(y a Xb).1,u,λf m w=>(k F _ (.ol m) [a] (QI.refl _) (s.sub.upd u) (λb q _=>Q6 λz=>q<|by rw[z];exact Xb) (λb h=>.inl h) ⟨a,rfl,rfl,u,f,QT,w⟩ λb q=>.inl q).1⟩
def QQ.freeze(s:QQ K R F Y O H)(e:Y[i]?=some (some<|.ol ds)):
 ∃a xs,F a=none/\H a=some (.lst xs)/\R a=none/\O[i]?=some (some<|.ref a)/\Q1 F xs ds/\QQ K R (upd F a<|.lst xs) (Y.set i<|zf<|.list ds) O H:=by
 obtain⟨v,p,y,⟨a,rfl,rfl,q,xs,m,r⟩,w,k⟩:=s.chg e;have h:QI F (upd F a<|.lst xs):=QI.new q;refine⟨a,xs,q,m,(w a Xb).1,y,r,(k _ H (.fz _) [] h (λb u f=>?_) (λ_ _ _=>rfl) (λb f=>?_) ⟨rfl,.lst QT<|r.mono h⟩<|by rintro b ⟨⟩).1⟩
 .by_cases z:b=a
  .subst z;rw[QT]at f;rw[m];exact f
  .rw[Q6 z]at f;exact s.sub b u f
 .by_cases z:b=a
  .exact .inr (.inr<|by rw[z];exact Xb)
  .rw[Q6 z]at f;exact .inl f
inductive Args(K:W.Frag)(F:Hp):List V->List OT->Prop
 |nil:Args K F [] []
 |fz {v:V}{d:PyData}{vs:List V}{ts:List OT}:Rep F v d->Args K F vs ts->Args K F (v::vs) (.fz d::ts)
 |zow {v:V}{Ψ:ZP}{vs:List V}{ts:List OT}:Ψ.ok K F v->Args K F vs ts->Args K F (v::vs) (.zow Ψ::ts)
 |scr {a:Addr}{ns:Ql}{vs:List V}{ts:List OT}:Scr K F a ns->Args K F vs ts->Args K F (.ref a::vs) (.scr ns::ts)
theorem Args.length{K:W.Frag}{F:Hp}:∀{vs:List V} {ts:List OT},Args K F vs ts->vs.length=ts.length
 |_,_,.nil=>rfl
 |_,_,.fz _ t=>by simp[Args.length t]
 |_,_,.scr _ t=>by simp[Args.length t]
 |_,_,.zow _ t=>by simp[Args.length t]
theorem Args.get{K:W.Frag}{F H:Hp}:∀{vs:List V} {ts:List OT},Args K F vs ts->∀(i:Nat) (t:OT),ts[i]?=some t->∃v,vs[i]?=some v/\ZH K F H v t []
 |_,_,.nil,i,t,e=>by simp at e
 |_,_,.fz r _,0,t,e=>by simp at e;subst e;exact⟨_,rfl,rfl,r⟩
 |_,_,.scr r _,0,t,e=>by simp at e;subst e;exact⟨_,rfl,rfl,_,rfl,r⟩
 |_,_,.zow r _,0,t,e=>by simp at e;subst e;exact⟨_,rfl,rfl,r⟩
 |_,_,.zow _ q,i+1,t,e=>by
  obtain⟨v,f,a⟩:=Args.get q i t (by simpa using e);exact⟨v,by simpa using f,a⟩
 |_,_,.fz _ q,i+1,t,e=>by
  obtain⟨v,f,a⟩:=Args.get q i t (by simpa using e);exact⟨v,by simpa using f,a⟩
 |_,_,.scr _ q,i+1,t,e=>by
  obtain⟨v,f,a⟩:=Args.get q i t (by simpa using e);exact⟨v,by simpa using f,a⟩
section
variable (K:W.Frag)
def Qr(t:TE)(Y:ZcP)(d:PyData):Prop := ∀(R F:Hp) (O:St) (H:Hp) (Q:VK),QQ K R F Y O H->(∀a M v,QF F H a M->Rep a v d->Q v M)->t O H Q
def EvO(t:TE)(Y:ZcP)(r:OT):Prop := ∀(R F:Hp) (O:St) (H:Hp) (Q:VK),QQ K R F Y O H->(∀f M v p,QF F H f M->(∀a∈p,H a=none)->ZH K f M v r p->Q v M)->t O H Q
def Zf(t:TT)(Y:ZcP)(b:Bool):Prop := ∀(R F:Hp) (O:St) (H:Hp) (Q:Bool->Hp->Prop),QQ K R F Y O H->(∀a M,QF F H a M->Q b M)->t O H Q
def ZQ(t:TA)(Y:ZcP)(ts:List OT):Prop := ∀(R F:Hp) (O:St) (H:Hp) (Q:List V->Hp->Prop),QQ K R F Y O H->(∀f M a,QF F H f M->Args K f a ts->Q a M)->t O H Q
def KM(p:Hp)(J:It)(ds:Qd):Prop := ∀(f a:Hp),QI p f->QI f a->J.stop ds.length a/\
 ∀(i:Nat) (d:PyData),ds[i]?=some d->J.go i a/\∀x h,J.yld i a x h->∃m,QF f a m h/\Rep m x d
def EvI(f:TI)(Y:ZcP)(ds:Qd):Prop := ∀(R F:Hp) (O:St) (H:Hp) (H0:It->Hp->Prop),QQ K R F Y O H->(∀a M J,QF F H a M->KM a J ds->H0 J M)->f O H H0
def GTo(g:TG)(d:PyData)(Y f:ZcP):Prop := ∀(R F:Hp) (O:St) (H:Hp) (x:V) (Q:St->Hp->Prop),QQ K R F Y O H->Rep F x d->(∀a,QQ K R F f a H->Q a H)->g x O H Q
def MQ(g:TGs)(ds:Qd)(Y f:ZcP):Prop := ∀(R F:Hp) (O:St) (H:Hp) (xs:List V) (Q:St->Hp->Prop),QQ K R F Y O H->Q1 F xs ds->(∀a,QQ K R F f a H->Q a H)->g xs O H Q
structure PEnds where
 nx:ZcP->Prop
 rt:OT->Prop
 bk:ZcP->Prop:=λ_=>False
 ct:ZcP->Prop:=λ_=>False
structure Cnv(F0 R:Hp)(ta:PEnds)(H2:Ends):Prop where
 nx:∀F O H Y,QF F0 R F H->QQ K R F Y O H->ta.nx Y->H2.nx O H
 rt:∀F H v r p,QF F0 R F H->(∀a∈p,R a=none)->ZH K F H v r p->ta.rt r->H2.rt v H
 bk:∀F O H Y,QF F0 R F H->QQ K R F Y O H->ta.bk Y->H2.bk O H
 ct:∀F O H Y,QF F0 R F H->QQ K R F Y O H->ta.ct Y->H2.ct O H
def QC(t:TS)(Y:ZcP)(f:PEnds):Prop := ∀(a R F:Hp) (O:St) (H:Hp) (H2:Ends),QF a R F H->QQ K R F Y O H->Cnv K a R f H2->t H2 O H
end
section
variable {Y:ZcP}
def Qr.o(h:Qr K t Y d):EvO K t Y (.fz d):=λR F O H Q S q=>h R F O H Q S λa M v x r=>q a M v [] x (by rintro _ ⟨⟩) ⟨rfl,r⟩
def EvO.e(h:EvO K t Y (.fz d)):Qr K t Y d:=λR F O H Q S q=>h R F O H Q S λa M v p x _ r=>q a M v x r.2
def EvO.fz(h:EvO K t Y (.ol ds)):Qr K t Y (.list ds):=λR F O H Q S q=>h R F O H Q S λu M v p x s r=>by
 obtain⟨a,rfl,rfl,f,xs,m,i⟩:=r;refine q _ M _ (x.freeze f m<|s a Xb) (.lst QT<|i.mono<|QI.new f)
def nf{p:Prop}(h:false=true):p:=nomatch h
def nt{p:Prop}(h:true=false):p:=nomatch h
def Qp(e:Y[i]?=some (zf d):=by rfl):Qr K (QY i) Y d:=λR F O H Q S q=>by
 obtain⟨m,h,_⟩:=S.fp;obtain⟨v,f,a⟩:=h i _ e;exact⟨v,f,q F H v (QF.refl S.sub) a.2⟩
def QG{i:Int}:Qr K (tC<|.int i) Y (.int i):=λR F O H Q S q=>q F H _ (QF.refl S.sub) (.int i)
def Km{b:Bool}:Qr K (tC<|.bl b) Y (.bool b):=λR F O H Q S q=>q F H _ (QF.refl S.sub) (.bl b)
def GN:Qr K (tC .non) Y .none:=λR F O H Q S q=>q F H _ (QF.refl S.sub) .non
def Vh:Qr K (tC<|.str x) Y (.str x):=λR F O H Q S q=>q F H _ (QF.refl S.sub) (.str x)
def VQ{a b:PyData}{r:R2}(u:Qr K D Y a)(s:Qr K tb Y b)(S:QQ K R F Y O H)
(h:∀f M x y,QF F H f M->Rep f x a->Rep f y b->r x y M Q):tOp r D tb O H Q:=
 u R F O H _ S λw L x m q=>s R w O L _ (S.ext m) λv E y i p=>h v E x y (m.trans i) (q.mono i.ff) p
def YE{g:Int->Int->Int}{y:Int}(m:Qr K D Y (.int x))(h:Qr K tb Y (.int y)):Qr K (tOp (rI0 λi j=>.int<|g i j) D tb) Y (.int<|g x y):=λR F O H Q S q=>
 VQ m h S λp M u v e f a=>by cases f;cases a;exact⟨x,y,rfl,rfl,q p M _ e<|.int _⟩
def VA{g:Int->Int->Bool}{y:Int}(m:Qr K D Y (.int x))(h:Qr K tb Y (.int y)):Qr K (tOp (rI0 λi j=>.bl<|g i j) D tb) Y (.bool<|g x y):=λR F O H Q S q=>
 VQ m h S λp M u v e f a=>by cases f;cases a;exact⟨x,y,rfl,rfl,q p M _ e<|.bl _⟩
def V3{C:Int->Int->Prop}{g:Int->Int->Int}{y:Int}(p:Qr K D Y (.int x))(m:Qr K tb Y (.int y))(h:C x y):Qr K (tOp (rI C λi j=>.int<|g i j) D tb) Y (.int<|g x y):=λR F O H Q S q=>
 VQ p m S λr M u v e f a=>by cases f;cases a;exact⟨x,y,rfl,rfl,h,q r M _ e<|.int _⟩
def Z1p{g:Int->Int}(h:Qr K D Y (.int x)):Qr K (tUn (rU λi=>.int<|g i) D) Y (.int<|g x):=λR F O H Q S q=>
 h R F O H _ S λm L v a f=>by cases f;exact⟨x,rfl,q m L _ a<|.int _⟩
def YD:PyData->Option V
 |.none=>some .non
 |.bool b=>some (.bl b)
 |.int i=>some (.int i)
 |.str x=>some (.str x)
 |_=>Option.none
def Rep.flat(r:Rep H x d)(e:YD d=some v):x=v:=by
 cases r<;>simp[YD]at e<;>exact e
def PP{a b:PyData}{w:V}(p:Qr K D Y a)(m:Qr K tb Y b)(e1:YD a=some v)(r:YD b=some w)(i:∀(H:Hp) (Q:VK),Q (.bl<|decide (v=w)) H->rEq v w H Q):
 Qr K (tOp rEq D tb) Y (.bool<|decide (v=w)):=λR F O H Q S q=>
 VQ p m S λs M x y e h f=>by rw[h.flat e1,f.flat r];exact i _ _ (q s M _ e<|.bl _)
def PU{a b:PyData}{w:V}(p:Qr K D Y a)(m:Qr K tb Y b)(e1:YD a=some v)(r:YD b=some w)(i:∀(H:Hp) (Q:VK),Q (.bl<|!decide (v=w)) H->rNe v w H Q):
 Qr K (tOp rNe D tb) Y (.bool<|!decide (v=w)):=λR F O H Q S q=>
 VQ p m S λs M x y e h f=>by rw[h.flat e1,f.flat r];exact i _ _ (q s M _ e<|.bl _)
def Fg{y:Int}:decide (V.int x=V.int y)=decide (x=y):=by
 simp_all
def WK{y:Int}(f:Qr K D Y (.int x))(a:Qr K tb Y (.int y)):Qr K (tOp rEq D tb) Y (.bool<|decide (x=y)):=by
 rw[<- Fg];exact PP f a rfl rfl λH Q q=>⟨rfl,q⟩
def BT{y:Int}(f:Qr K D Y (.int x))(a:Qr K tb Y (.int y)):Qr K (tOp rNe D tb) Y (.bool<|!decide (x=y)):=by
 rw[<- Fg];exact PU f a rfl rfl λH Q q=>⟨rfl,q⟩
def K4{a b:PyData}(m:Qr K D Y a)(i:Qr K tb Y b)(r:Wg a)(p:Wg b):Qr K (tOp Ai D tb) Y (.bool<|PyData.eqv a b):=λR F O H Q S q=>
 VQ m i S λs M x y e h f=>⟨a,b,h.mono e.fh,f.mono e.fh,r,p,q s M _ e<|.bl _⟩
def K6{a b:PyData}(m:Qr K D Y a)(i:Qr K tb Y b)(r:Wg a)(p:Wg b):Qr K (tOp Ax D tb) Y (.bool<|!PyData.eqv a b):=λR F O H Q S q=>
 VQ m i S λs M x y e h f=>⟨a,b,h.mono e.fh,f.mono e.fh,r,p,q s M _ e<|.bl _⟩
def De:PyData->Bool
 |.none=>true
 |_=>false
def Rep.isNon(r:Rep H x d):decide (x=.non)=De d:=by cases r<;>rfl
def J8{a:PyData}(i:Qr K D Y a):Qr K (Av D) Y (.bool<|De a):=λR F O H Q S q=>
 i R F O H _ S λm L v f h=>by rw[h.isNon];exact q m L _ f (.bl _)
def D0{a:PyData}(i:Qr K D Y a):Qr K (Po D) Y (.bool<|!De a):=λR F O H Q S q=>
 i R F O H _ S λm L v f h=>by rw[h.isNon];exact q m L _ f (.bl _)
def ZE{b:Bool}(h:Qr K D Y (.bool b)):Zf K (Dc D) Y b:=λR F O H Q S q=>h R F O H _ S λi L v a f=>by cases f;exact⟨b,rfl,q i L a⟩
def ZL{b:Bool}(h:Qr K D Y (.bool b)):Zf K (tB D) Y b:=λR F O H Q S q=>h R F O H _ S λi L v a f=>by cases f;exact⟨b,rfl,q i L a⟩
def Ps:Zf K GC Y true:=λR F O H Q S q=>q F H (QF.refl S.sub)
def Dg{b c:Bool}(m:Zf K tA Y b)(i:b=true->Zf K tB' Y c):Zf K (Af tA tB') Y (b&&c):=λR F O H Q S q=>m R F O H _ S λf L a=>by
 cases b with
 |true=>rw[Xf rfl];exact i rfl R f O L Q (S.ext a) λp E h=>by simpa using q p E (a.trans h)
 |false=>rw[Xc Xs];simpa using q f L a
def YS{b c:Bool}(m:Zf K tA Y b)(i:b=false->Zf K tB' Y c):Zf K (tOr tA tB') Y (b||c):=λR F O H Q S q=>m R F O H _ S λf L a=>by
 cases b with
 |false=>rw[Xc Xs];exact i rfl R f O L Q (S.ext a) λp E h=>by simpa using q p E (a.trans h)
 |true=>rw[Xf rfl];simpa using q f L a
def Yb{b:Bool}(f:Zf K tA Y b):Zf K (Am tA) Y (!b):=λR F O H Q S q=>f R F O H _ S λh L a=>q h L a
def VL{b c:Bool}(r:Qr K D Y (.bool b))(p:b=true->Qr K tb Y (.bool c)):Qr K (PF D tb) Y (.bool<|b&&c):=λR F O H Q S q=>r R F O H _ S λf L v a m=>by
 cases m;refine⟨b,rfl,?_⟩;cases b with
 |true=>rw[Xf rfl];exact p rfl R f O L Q (S.ext a) λs E v h i=>by simpa using q s E v (a.trans h) (by simpa using i)
 |false=>rw[Xc Xs];exact q f L _ a (.bl _)
def UO(r:Qr K D Y (.bool b))(p:b=false->Qr K tb Y (.bool c)):Qr K (A5 D tb) Y (.bool<|b||c):=λR F O H Q S q=>r R F O H _ S λf L v a m=>by
 cases m;refine⟨b,rfl,?_⟩;cases b with
 |false=>rw[Xc Xs];exact p rfl R f O L Q (S.ext a) λs E v h i=>by simpa using q s E v (a.trans h) (by simpa using i)
 |true=>rw[Xf rfl];exact q f L _ a (.bl _)
def K7{b:Bool}(h:Qr K D Y (.bool b)):Qr K (Pk D) Y (.bool<|!b):=λR F O H Q S q=>h R F O H _ S λi L v a f=>by cases f;exact⟨b,rfl,q i L _ a<|.bl _⟩
def DB{g g':Int->Int->Bool}{x y z:Int}(C:Qr K D Y (.int x))(B:Qr K tb Y (.int y))(A:Qr K tc Y (.int z)):
 Qr K (Na (rI0 λi j=>.bl<|g i j) (rI0 λi j=>.bl<|g' i j) D tb tc) Y (.bool<|g x y&&g' y z):=λR F O H Q S q=>
 C R F O H _ S λX L v a s=>B R X O L _ (S.ext a) λh E w f r=>by
  cases s;cases r;refine⟨x,y,rfl,rfl,g x y,rfl,?_⟩;cases e:g x y with
  |true=>rw[Xf rfl];exact A R h O E _ (S.ext<|a.trans f) λW P u m p=>by cases p;exact⟨y,z,rfl,rfl,by simpa [e] using q W P _ ((a.trans f).trans m)<|by rw[e];exact .bl _⟩
  |false=>rw[Xc Xs];simpa [e] using q h E _ (a.trans f) (by rw[e];exact .bl _)
def Q2:ZQ K Zo Y []:=λR F O H Q S q=>q F H [] (QF.refl S.sub) .nil
def Qs(p:Qr K D Y d)(m:ZQ K t Y ts):ZQ K (QX D t) Y (.fz d::ts):=λR F O H Q S q=>
 p R F O H _ S λs L v f i=>m R s O L _ (S.ext f) λr E u a h=>q r E _ (f.trans a) (.fz (i.mono a.ff) h)
def BS(e:Y[i]?=some (some<|.scr ns))(p:ZQ K t Y ts):ZQ K (QX (QY i) t) Y (.scr ns::ts):=λR F O H Q S q=>by
 obtain⟨y,h,_⟩:=S.fp;obtain⟨v,s,_,a,rfl,r⟩:=h i _ e;exact⟨_,s,p R F O H _ S λu E w f m=>q u E _ f<|.scr (r.mono f.ff) m⟩
def Ta(e:zg Y i<|zz Ψ)(m:ZQ K t Y ts):ZQ K (QX (QY i) t) Y (.zow Ψ::ts):=λR F O H Q S q=>by
 obtain⟨w,h,_⟩:=S.fp;obtain⟨v,r,_,p⟩:=h i _ e;exact⟨_,r,m R F O H _ S λs E u a f=>q s E _ a<|.zow (Ψ.mono a.ff p) f⟩
def fzs(ds:Qd):List OT:=ds.map OT.fz
theorem Args.reps{F:Hp}:∀{vs:List V} {ds:Qd},Args K F vs (fzs ds)->Q1 F vs ds
 |_,[],.nil=>.nil
 |_,_::_,.fz r t=>.cons r (Args.reps t)
def Vd(h:ZQ K t Y (fzs ds))(r:ds.length<=1000):Qr K (GB t) Y (.tuple ds):=λR F O H Q S q=>
 h R F O H _ S λu L s a i=>⟨by rw[i.reps.length];exact X4<|VR r,λp m=>by
  have f:=a.fh;exact q _ _ _ (a.trans<|QF.new f m)<|.tup QT<|i.reps.mono<|QI.new<|f.free m⟩
def Gm{p:Addr}(x:QF F0 R F H)(f:H p=none)(r:Q1 F xs ds):QF F0 R F (upd H p<|.lst xs)/\(∀a∈[p],R a=none)/\ZH K F (upd H p<|.lst xs) (.ref p) (.ol ds) [p]:=
 ⟨x.trans<|QF.own x.fh f,λa h=>by
  have e:=by simpa using h
  subst e;exact x.hh.free f,p,rfl,rfl,x.fh.free f,xs,QT,r⟩
def Ya(h:ZQ K t Y (fzs ds))(r:ds.length<=1000):EvO K (MT t) Y (.ol ds):=λR F O H Q S q=>
 h R F O H _ S λu L s i f=>⟨by rw[f.reps.length];exact X4<|VR r,λp m=>by
  obtain⟨a,b,c⟩:=Gm i m f.reps;exact q _ _ _ _ a b c⟩
def W7(r:Rep F x (.list ds))(s:QI F H):∃a xs,x=.ref a/\SqL K H a xs/\Q1 F xs ds/\H a=some (.lst xs):=by
 cases r with
 |lst f h=>exact⟨_,_,rfl,SqL.of<|s _ _ f,h,s _ _ f⟩
def Ux(r:Rep F x (.tuple ds))(s:QI F H):∃a xs,x=.ref a/\SqT K H a xs/\Q1 F xs ds/\H a=some (.tup xs):=by
 cases r with
 |tup f h=>exact⟨_,_,rfl,SqT.of<|s _ _ f,h,s _ _ f⟩
def Mw{i:Int}(r:Q1 F xs ds)(e:atI ds i=some d):∃z,atI xs i=some z/\Rep F z d:=by
 obtain⟨j,m,h⟩:=Tg e;obtain⟨z,f,a⟩:=r.get m;refine⟨z,?_,a⟩;unfold atI;rw[r.length,h];exact f
def Ve{i:Int}(u:Qr K D Y (.list ds))(s:Qr K tb Y (.int i))(e:atI ds i=some d):Qr K (tOp (rIx K) D tb) Y d:=λR F O H Q S q=>
 VQ u s S λA M x y f r p=>by
  obtain⟨a,xs,rfl,w,v,_⟩:=W7 (K:=K) r f.fh;obtain⟨z,m,h⟩:=Mw v e;cases p;exact .inl ⟨a,xs,i,z,rfl,rfl,w,m,q A M z f h⟩
def Z5{i:Int}(u:Qr K D Y (.tuple ds))(s:Qr K tb Y (.int i))(e:atI ds i=some d):Qr K (tOp (rIx K) D tb) Y d:=λR F O H Q S q=>
 VQ u s S λA M x y f r p=>by
  obtain⟨a,xs,rfl,w,v,_⟩:=Ux (K:=K) r f.fh;obtain⟨z,m,h⟩:=Mw v e;cases p;exact .inr (.inl ⟨a,xs,i,z,rfl,rfl,w,m,q A M z f h⟩)
def Z0Y(e0:Y[i]?=some (some<|.ol ds))(u:Qr K tb Y (.int k))(e:atI ds k=some d):Qr K (tOp (rIx K) (QY i) tb) Y d:=λR F O H Q S q=>by
 obtain⟨D,h,_⟩:=S.fp;obtain⟨v,B,a,rfl,_,s⟩:=h i _ e0;refine⟨_,B,u R F O H _ S λC L y f r=>?_⟩;obtain⟨P,xs,A,w⟩:=s.ext f;obtain⟨z,p,m⟩:=Mw w e;cases r;exact .inl ⟨a,xs,k,z,rfl,rfl,SqL.of A,p,q C L z f m⟩
def Z1c(e0:Y[i]?=some (some<|.scr ns))(s:Qr K tb Y (.int k))(e:atI ns k=some n):Qr K (tOp (rIx K) (QY i) tb) Y (.int n):=λR F O H Q S q=>by
 obtain⟨C,h,_⟩:=S.fp;obtain⟨v,u,_,a,rfl,p⟩:=h i _ e0;refine⟨_,u,s R F O H _ S λw L y f r=>?_⟩;cases r;obtain⟨j,B,A⟩:=Tg e;have m:atI (ns.map V.int) k=some (.int n):=by
  unfold atI;simp_all
 exact .inl ⟨a,_,k,_,rfl,rfl,(f.ff.trans f.fh).seq p.sq,m,q w L _ f<|.int n⟩
def Qy(H0:List OT->OT->Prop):Sp:=λi H Q _=>∃F f r,KTs K F/\QI F H/\Args K F i f/\H0 f r/\∀h M v p,QF F H h M->(∀a∈p,H a=none)->ZH K h M v r p->Q v M
def GT{H0:List OT->OT->Prop}{H2:XK}{r:OT}(h:ZQ K t Y ts)(y:H0 ts r):EvO K (YC (Qy (K:=K) H0) [] H2 t) Y r:=λR F O H Q S q=>
 h R F O H _ S λB L C f m=>by
  refine⟨B,ts,r,(S.ext f).kt,f.fh,by rw[XN];exact m,y,λA E v p i u s=>q A E v p (f.trans i) (λa w=>f.hh.free<|u a w) s⟩
def QJ{H0:List OT->OT->Prop}{H2:XK}(h:ZQ K t Y ts)(a:H0 ts (.fz d)):Qr K (YC (Qy (K:=K) H0) [] H2 t) Y d:=(GT h a).e
def JI{H0:List OT->OT->Prop}{H2:XK}(h:ZQ K t Y ts)(a:H0 ts (.ol ds)):Qr K (YC (Qy (K:=K) H0) [] H2 t) Y (.list ds):=(GT h a).fz
end
def LD{ts:List OT}(G:Nat->Qg)(p:KTs K F)(m:QI F H)(a:vs.length=ts.length)(h:∀i t,ts[i]?=some t->∃v,vs[i]?=some v/\ZH K F H v t (G i))(u:∀i j b,b∈G i->b∈G j->i=j)(q:∀i b,b∈G i->R b=none/\H b≠none):
 QQ K R F (ts.map some++List.replicate (N.length-ts.length) none) (start N vs) H:=by
 refine⟨p,m,by unfold start;simp[a],G,λi f e=>?_,u,q⟩
 by_cases z:i<ts.length
 .rw[Bw<|by simpa using z]at e;obtain⟨v,s,r⟩:=h i f (by cases y:ts[i]?<;>simp[y]at e ⊢;exact e);refine⟨v,?_,r⟩;unfold start;rw[Bw<|by simpa [a] using z,Xp,s];rfl
 .rw[MK<|by simpa using z]at e;have:=List.mem_of_getElem? e;simp at this
def Hd(p:KTs K F)(m:QI F H)(f:Args K F vs ts):QQ K H F (zr N ts) (start N vs) H:=
 LD _ p m f.length (λi t e=>f.get i t e) (λi j a h=>(nomatch h)) λi a h=>(nomatch h)
abbrev ini(N:Qh)(ts:List OT):ZcP:=ts.map some++List.replicate (N.length-ts.length) none
def Df.ev{base:Heap}{x:Str}{st:Stmt}{N:Qh}{k:Nat}{H0:List OT->OT->Prop}(Z:Df K mg x st ps)(S:Qo N ps (Q5 st))
(B:∀f ts r,H0 ts r->∀H H2,B0 P w K mg base N x st k f H H2 λt=>QC K t (ini N ts) { nx:=λ_=>r=.fz .none,rt:=λO=>O=r })(i:∀ts r,H0 ts r->ts.length=ps.length:=by intro _ _ h;cases h<;>rfl):Qv P w K mg base x ps (k+1) (Qy (K:=K) H0):=by
 refine Z.go λf fd F=>F.ok S (by rintro X H Q H2 ⟨F,ts,r,_,_,m,u,_⟩;exact m.length.trans<|i ts r u) ?_;rintro X H Q H2 ⟨F,ts,r,c,D,m,u,q⟩ y A outer s d;obtain⟨t,l,j⟩:=B f ts r u H H2 y A outer s d;refine⟨t,l,j F H F _ H _ (QF.refl D) (Hd c D m) ⟨λC R M W a _ e=>?_,λC M v O p a g b e=>?_,λ_ _ _ _ _ _ z=>False.elim z,λ_ _ _ _ _ _ z=>False.elim z⟩⟩
 .subst e;exact q C M _ [] a (by rintro _ ⟨⟩) ⟨rfl,.non⟩
 .subst e;exact q C M v p a g b
end L2
variable {Y:L2.ZcP}{ta:L2.PEnds}
namespace L2
theorem CJ:∀{as bs:Qg},as.map V.ref=bs.map V.ref->as=bs
 |[],[],_=>rfl
 |[],_::_,h=>by simp at h
 |_::_,[],h=>by simp at h
 |a::as,b::bs,h=>by
  simp only[Xz,List.cons.injEq]at h;obtain⟨f,i⟩:=h;injection f with f;rw[f,CJ i]
def LL(x:Int)(ns:Ql):inV (.int x) (ns.map V.int)=decide (x∈ns):=by
 induction ns with
 |nil=>rfl
 |cons b l a=>
  show(eqV _ _||inV _ _)=_
  rw[a];show((b==x)||decide _)=_
  grind
section
variable {t:TS}
def Z3(h:ta.nx Y):QC K Pt Y ta:=λa R F O H H2 x S C=>C.nx F O H Y x S h
def Q9(h:QC K t Y { ta with nx:=λa=>QC K u a ta }):QC K (G8 t u) Y ta:=λi R F O H H2 x S C=>
 h i R F O H { H2 with nx:=u H2 } x S ⟨λr f M a m p q=>q i R r f M H2 m p C,C.rt,C.bk,C.ct⟩
def GP(H':ZcP->Prop)(h:QC K t Y { ta with nx:=H' })(p:∀a,H' a->QC K u a ta):QC K (G8 t u) Y ta:=λi R F O H H2 x S C=>
 h i R F O H { H2 with nx:=u H2 } x S ⟨λs f M a m r q=>p a q i R s f M H2 m r C,C.rt,C.bk,C.ct⟩
def Yf(f:Fgt Y ρ')(h:QC K t ρ' ta):QC K t Y ta:=λa R F O H H2 x S C=>h a R F O H H2 x (S.fgt f) C
def VJ(i:Nat)(e:Y[i]?=some (some<|.ol ds))(h:QC K t (Y.set i<|zf<|.list ds) ta):QC K t Y ta:=λr R F O H H2 x S C=>by
 obtain⟨a,xs,p,m,f,_,_,q⟩:=S.freeze e;exact h r R _ O H H2 (x.freeze p m f) q C
def Wm{r:OT}(h:EvO K te Y r)(m:ta.rt r):QC K (GA te) Y ta:=λu R F O H H2 x S C=>
 h R F O H _ S λt M v p f q i=>C.rt t M v r p (x.trans f) (λa s=>x.hh.free<|q a s) i m
def Zh(h:Qr K te Y d)(a:ta.rt (.fz d)):QC K (GA te) Y ta:=Wm h.o a
def Du(e:Y[i]?=some (some<|.ol ds))(m:ta.rt (.ol ds)):QC K (GA<|QY i) Y ta:=λt R F O H H2 x S C=>by
 obtain⟨s,h,_,q⟩:=S.fp;obtain⟨v,r,f⟩:=h i _ e;exact⟨v,r,C.rt F H v _ _ x (λa p=>(q i a p).1) f m⟩
def Zz{b:Bool}(h:Zf K tA Y b)(p:b=true->QC K t Y ta)(m:b=false->QC K u Y ta):QC K (SJ tA t u) Y ta:=λf R F O H H2 x S C=>
 h R F O H _ S λi M a=>by
  cases b with
  |true=>rw[Xf rfl];exact p rfl f R i O M H2 (x.trans a) (S.ext a) C
  |false=>rw[Xc Xs];exact m rfl f R i O M H2 (x.trans a) (S.ext a) C
def Vt{r:OT}(h:EvO K te Y r)(hn:ta.nx (Y.set i<|some r)):QC K (Ww te<|WH i) Y ta:=λF0 R F O H H2 x S C=>
 h R F O H _ S λF' M v p u Z E=>by
  refine C.nx F' _ M _ (x.trans u) ((S.ext u).set E (λa y=>x.hh.free<|Z a y) (hn:=λa y j w X q U T f=>?_)) hn;obtain⟨L,J,g2,I⟩:=S.fp;obtain⟨w',c,N⟩:=J j X U;intro G;have A:=N.ext u;rw[T]at c;cases c;have s:∀b∈q,b∈L j:=by
   cases X with
   |fz d=>rw[f.1];intro b m;cases m
   |zow Ψ=>rw[f.1];intro b m;cases m
   |ol ds=>
    obtain⟨b1,P,l,k⟩:=f;obtain⟨b2,t,o,n⟩:=A
    grind
   |oll S1=>
    obtain⟨b1,D,P,l,k,z4,g,z6⟩:=f;obtain⟨b2,B,t,o,n,y4,W,y6⟩:=A;rw[P]at t;cases t;rw[g]at W;have Q:D.map V.ref=B.map V.ref:=by injection W with z;injection z
    have e6:=CJ Q
    grind
   |scr ns=>rw[f.1];intro b m;cases m
   |own v0 e=>exact λb m=>e.uniq A.2 f.2 b m
  exact(I j a<|s a G).2 (Z a y)
def Z9(h:Qr K te Y d)(hn:ta.nx (Y.set i<|zf d)):QC K (Ww te<|WH i) Y ta:=Vt h.o hn
def Zd : GTo K (WH i) d Y (Y.set i<|zf d):=λR F O H x Q S r q=>q _ (S.setF r)
def Wl:MQ K SV [] Y Y:=λR F O H xs Q S r q=>by cases r;exact⟨rfl,q _ S⟩
def ZZ{g:TG}(m:GTo K g d Y ρ1)(i:MQ K gs ds ρ1 ρ2):MQ K (Kv g gs) (d::ds) Y ρ2:=λR F O H xs Q S r q=>by
 cases r with
 |cons h f=>exact⟨_,_,rfl,m R F O H _ _ S h λa p=>i R F a H _ _ p f q⟩
def YO(h:MQ K gs ds Y ρ1)(hn:ds.length=n):GTo K (Kj K n gs) (.tuple ds) Y ρ1:=λR F O H x Q S r q=>by
 obtain⟨a,xs,rfl,i,f,_⟩:=Ux (K:=K) r S.sub;exact⟨a,xs,rfl,i,by rw[f.length,hn],h R F O H xs Q S f q⟩
def Dd{g:TG}(h:Qr K te Y d)(m:GTo K g d Y ρ')(hn:ta.nx ρ'):QC K (Ww te g) Y ta:=λq R F O H H2 x S C=>
 h R F O H _ S λi M v f r=>m R i O M v _ (S.ext f) r λa p=>C.nx i a M ρ' (x.trans f) p hn
def QF.wr(x:QF F0 R F H)(h0:R a=none)(f:F a=none):QF F0 R F (upd H a o):=
 ⟨x.hh.upd h0,x.ff,x.fh.upd f,x.fr⟩
def M1(e:Y[i]?=some (some<|.ol ds))(h:Qr K te Y d)(D:ds.length<1000)(hn:ta.nx (Y.set i<|some<|.ol<|ds++[d])):
 QC K (Je<|tBM K "list" GV (QY i)<|QX te Zo) Y ta:=λX R F O H H2 x S C=>by
 obtain⟨a,xs,r,A,P,_⟩:=S.write e;refine⟨_,r,.inl ⟨rfl,_,SqL.of A⟩,h R F O H _ S λB L v m s=>?_⟩;obtain⟨W,f,q,y,p,w,u,t⟩:=(S.ext m).write e;rw[r]at q;cases q;refine⟨a,f,v,rfl,rfl,y,by rw[p.length];exact VR<|by lia,?_⟩;exact C.nx B O _ _ ((x.trans m).wr w u) (t _ _<|p.snoc s) hn
def Ea(e:Y[i]?=some (some<|.ol ds))(h:Qr K te Y d)(A:Qr K tb Y (.int k))(w:ixN ds.length k=some j)(hn:ta.nx (Y.set i<|some<|.ol<|ds.set j d)):
 QC K (Ww te<|A1 (QY i) tb Db) Y ta:=λl R F O H H2 x S C=>
 h R F O H _ S λZ L v f u=>by
  obtain⟨a,xs,s,c,b,_⟩:=(S.ext f).write e;refine⟨_,s,A R Z O L _ (S.ext f) λX E y p t=>?_⟩;obtain⟨g,m,r,W,q,P,D,B⟩:=(S.ext<|f.trans p).write e;rw[s]at r;cases r;cases t;refine⟨a,m,k,j,rfl,rfl,W,by rw[q.length];exact w,?_⟩;exact C.nx X O _ _ ((x.trans<|f.trans p).wr P D) (B _ _<|q.set (u.mono p.ff) j) hn
def TY{f:Int->Int->Int}{m:Int}(e:Y[i]?=some (some<|.ol ds))(b:Qr K tb Y (.int k))(h0:0<=k)(u:ds[k.toNat]?=some (.int m))(h:Qr K te Y (.int n))
(hn:ta.nx (Y.set i<|some<|.ol<|ds.set k.toNat<|.int<|f m n)):QC K (K3 (QY i) tb te (Ky K) (ipI f) Db) Y ta:=λT R F O H H2 x S C=>by
 obtain⟨a,xs,s,M,J,_⟩:=S.write e;refine⟨_,s,b R F O H _ S λI L y p X=>?_⟩;cases X;obtain⟨Q,r,B,o,l,_⟩:=(S.ext p).write e;rw[s]at B;cases B;obtain⟨z,P,D⟩:=l.get u;refine⟨a,r,k,z,rfl,rfl,SqL.of o,h0,P,h R I O L _ (S.ext p) λG E w t W=>?_⟩;cases W;cases D;refine⟨m,n,rfl,rfl,?_⟩;obtain⟨N,q,A,j,v,g,d,c⟩:=(S.ext<|p.trans t).write e;rw[s]at A;cases A;have Z:=(Xh.mp u).1;refine⟨a,q,k,k.toNat,rfl,rfl,j,?_,?_⟩
 .rw[v.length];unfold ixN;rw[Xf h0,Xf<|by lia]
 .exact C.nx G O _ _ ((x.trans<|p.trans t).wr g d) (c _ _<|v.set (.int _) _) hn
def QF.base(x:QF F0 R F H):QF F R F H:=⟨x.hh,QI.refl _,x.fh,λ_ h=>.inl h⟩
def QF.rebase(x:QF F0 R F H)(y:QF F R F' M):QF F0 R F' M:=
 ⟨y.hh,x.ff.trans y.ff,y.fh,λa h=>(y.fr a h).elim (λz=>x.fr a z) .inr⟩
def JA{g:TG}(P:Nat->ZcP->Prop)(hi:EvI K wi Y ds)(h0:P 0 Y)
(hs:∀(i:Nat) (d:PyData) (a:ZcP),ds[i]?=some d->P i a->∃f,GTo K g d a f/\QC K tbd f { nx:=P (i+1),ct:=P (i+1),bk:=ta.nx,rt:=ta.rt })(hd:∀a,P ds.length a->ta.nx a):QC K (MS wi g tbd) Y ta:=λN R F O H H2 x S C=>
 hi R F O H _ S λo L J z W=>by
  refine⟨λi m O H=>m=ds.length-i/\i<=ds.length/\∃F a,QF N R F H/\QI o F/\QQ K R F a O H/\P i a,⟨ds.length,by simp,X3 _,o,Y,x.trans z,QI.refl _,S.ext z,h0⟩,?_⟩;rintro i m A M ⟨rfl,hle,Q,a,G,I,j,p⟩;obtain⟨w1,U⟩:=W Q M I j.sub
  by_cases D:i<ds.length
  .have e:ds[i]?=some ds[i]:=by simp[D]
   obtain⟨go,T⟩:=U i _ e;refine .inr ⟨go,λs E=>∃n f,QF N R n E/\QI o n/\QQ K R n f s E/\P _ f,λs E q=>⟨ds.length-_,by lia,rfl,D,q⟩,λv k y=>?_⟩;obtain⟨l,Z,r3⟩:=T v k y;obtain⟨f,hg,hb⟩:=hs i _ a e p;refine hg R l A k v _ (j.ext Z) r3 λs S2=>?_;have r:=G.trans Z;have B:=I.trans Z.ff
   exact hb l R l s k _ r.base S2 ⟨λw u X h t c b=>⟨w,h,r.rebase t,B.trans t.ff,c,b⟩,λw X v4 r4 p4 t=>C.rt w X v4 r4 p4<|r.rebase t,
    λw u X h t=>C.nx w u X h<|r.rebase t,λw u X h t c b=>⟨w,h,r.rebase t,B.trans t.ff,c,b⟩⟩
  .have e:i=ds.length:=by lia
   subst e;exact .inl ⟨w1,C.nx Q A M a G j<|hd a p⟩
def V6{g:TG}(H0:Nat->ZcP)(p:EvI K wi Y ds)(h0:Fgt Y (H0 0))
(m:∀(i:Nat) (d:PyData),ds[i]?=some d->∃h,GTo K g d (H0 i) h/\QC K tbd h { nx:=λa=>Fgt a<|H0<|i+1,ct:=λa=>Fgt a<|H0<|i+1,bk:=ta.nx,rt:=ta.rt })(s:∀a,Fgt a (H0 ds.length)->ta.nx a):QC K (MS wi g tbd) Y ta:=by
 refine JA (λi a=>Fgt a<|H0 i) p h0 (λi d a e f=>?_) s;obtain⟨h,u,t⟩:=m i d e;exact⟨h,λR F O H x Q S r q=>u R F O H x Q (S.fgt f) r q,t⟩
def Uz{c:TT}(P:Nat->ZcP->Prop)(B:Nat)(h0:P B Y)
(l:∀(m:Nat) (a:ZcP),P m a->∃b,Zf K c a b/\(b=true->QC K tbd a { nx:=λf=>∃i,i<m/\P i f,ct:=λf=>∃i,i<m/\P i f,bk:=ta.nx,rt:=ta.rt })/\(b=false->ta.nx a)):QC K (Te c tbd) Y ta:=λw R F O H H2 x S C=>by
 refine⟨λm O H=>∃F a,QF w R F H/\QQ K R F a O H/\P m a,⟨B,F,Y,x,S,h0⟩,?_⟩;rintro m s M ⟨I,a,g,Z,p⟩;obtain⟨b,z,o,n⟩:=l m a p;refine z R I s M _ Z λd L A=>?_;have W:=g.trans A;have X:=Z.ext A
 cases b with
 |false=>rw[Xc Xs];exact C.nx d s L a W X (n rfl)
 |true=>
  refine⟨λt E=>∃i,i<m/\∃v f,QF w R v E/\QQ K R v f t E/\P i f,λt E h=>h,?_⟩;have D:∀y r u q,QF w R y u->QQ K R y q r u->(∃i,i<m/\P i q)->∃i,i<m/\∃v f,QF w R v u/\QQ K R v f r u/\P i f:=λy r u q e G ⟨i,k,j⟩=>⟨i,k,y,q,e,G,j⟩;exact o rfl w R d s L _ W X ⟨D,C.rt,C.nx,D⟩
def Va(h:Qr K D Y (.list ds)):EvI K (K1 K D) Y ds:=λR F O H H0 S q=>
 h R F O H _ S λB L v f u=>by
  obtain⟨a,xs,rfl,X,w,c⟩:=W7 (K:=K) u f.fh;have W:B a=some (.lst xs):=by
   cases u with
   |lst P b=>
    have:=f.fh _ _ P
    grind
  refine⟨a,rfl,⟨xs,X⟩,q B L _ f λZ E t s=>?_⟩;have p:SqL K E a xs:=SqL.of (s _ _<|t _ _ W);refine⟨⟨xs,p,by rw[w.length];exact Xn _⟩,λi d e=>?_⟩;obtain⟨z,r,C⟩:=w.get e;refine⟨⟨xs,z,p,r⟩,λy g m=>?_⟩;obtain⟨rfl,m⟩:=m;have A:=m xs p;rw[r]at A;cases A;exact⟨Z,QF.refl s,C.mono t⟩
def Uj(h:Qr K D Y (.tuple ds)):EvI K (Ak K D) Y ds:=λR F O H H0 S q=>
 h R F O H _ S λB L v f u=>by
  obtain⟨a,xs,rfl,X,w,c⟩:=Ux (K:=K) u f.fh;have W:B a=some (.tup xs):=by
   cases u with
   |tup P b=>
    have:=f.fh _ _ P
    grind
  refine⟨a,rfl,⟨xs,X⟩,q B L _ f λZ E t s=>?_⟩;have p:SqT K E a xs:=SqT.of (s _ _<|t _ _ W);refine⟨⟨xs,p,by rw[w.length];exact Xn _⟩,λi d e=>?_⟩;obtain⟨z,r,C⟩:=w.get e;refine⟨⟨xs,z,p,r⟩,λy g m=>?_⟩;obtain⟨rfl,m⟩:=m;have A:=m xs p;rw[r]at A;cases A;exact⟨Z,QF.refl s,C.mono t⟩
def ZW(lo:Int)(n:Nat):Qd:=(List.range n).map λ(i:Nat)=>PyData.int (lo+(i:Int))
def YJ{lo:Int}{n:Nat}(e:(ZW lo n)[i]?=some d):i<n/\d=.int (lo+(i:Int)):=by
 unfold ZW at e;rw[Xp]at e;by_cases h:i<n
 .simp[h]at e;exact⟨h,e.symm⟩
 .simp[h]at e
def JM{lo:Int}{n:Nat}:(ZW lo n).length=n:=by simp[ZW]
def FF{lo:Int}{n:Nat}:KM F (Itr lo n) (ZW lo n):=λm E p a=>by
 refine⟨by show n<=_;rw[JM];exact Xn _,λi d e=>?_⟩;obtain⟨h,rfl⟩:=YJ e;refine⟨h,λx q f=>?_⟩;obtain⟨rfl,rfl⟩:=f;exact⟨m,QF.refl a,.int _⟩
def WN{t:TA}(h:ZQ K t Y [.fz<|.int n])(h1 : -(2^62)<=n)(i:n<2^62):EvI K (PB t) Y (ZW 0 n.toNat):=λR F O H H0 S q=>
 h R F O H _ S λm L p f a=>by
  cases a with
  |fz r a=>cases a;cases r;exact⟨n,rfl,h1,i,q m L _ f FF⟩
def TX{t:TA}{m:Int}(h:ZQ K t Y [.fz<|.int m,.fz<|.int n])(h1 : -(2^62)<=m/\m<2^62 /\ -(2^62)<=n/\n<2^62):EvI K (Pm t) Y (ZW m (n-m).toNat):=λR F O H H0 S q=>
 h R F O H _ S λp L s f a=>by
  cases a with
  |fz r a=>
   cases a with
   |fz i a=>cases a;cases r;cases i;exact⟨m,n,rfl,h1,q p L _ f FF⟩
def J6(a:Int)(n:Nat):Qd:=(List.range n).map λ(i:Nat)=>PyData.int (a-(i:Int))
def NJ(e:(J6 hi n)[i]?=some d):i<n/\d=.int (hi-(i:Int)):=by
 unfold J6 at e;rw[Xp]at e;by_cases h:i<n
 .simp[h]at e;exact⟨h,e.symm⟩
 .simp[h]at e
def N7 : (J6 hi n).length=n:=by simp[J6]
def E1{t:TA}{m:Int}(h:ZQ K t Y [.fz<|.int m,.fz<|.int n,.fz<|.int (-1)])(b : -(2^62)<=m/\m<2^62 /\ -(2^62)<=n/\n<2^62):EvI K (P7 t) Y (J6 m (m-n).toNat):=λR F O H H0 S q=>
 h R F O H _ S λy L A f a=>by
  cases a with
  |fz r a=>
   cases a with
   |fz u a=>
    cases a with
    |fz s a=>
     cases a;cases r;cases u;cases s;refine⟨m,n,rfl,b,q y L _ f λw E B p=>⟨by show _<=_;rw[N7];exact Xn _,λi d e=>?_⟩⟩;obtain⟨b,rfl⟩:=NJ e;refine⟨b,λx C v=>?_⟩;obtain⟨rfl,rfl⟩:=v;exact⟨w,QF.refl p,.int _⟩
def Jl:Option OT->Option OT
 |some (.fz d)=>some (.fz d)
 |some (.scr f)=>some (.scr f)
 |some (.zow a)=>some (.zow a)
 |_=>none
def Ue(f:List (Option Nat))(Y:ZcP):ZcP:=f.map λo=>match o with|some i=>Jl (Y[i]?).join|none=>none
def QQ.inner(f:List (Option Nat))(S:QQ K R F Y O H):QQ K R F (Ue f Y) (Wh f O) H:=by
 obtain⟨s,A,X,Z,u,W,P⟩:=S;refine⟨s,A,by simp[Ue,Wh],λ_=>[],λi t e=>?_,λi j a h=>(nomatch h),λi a h=>(nomatch h)⟩;unfold Ue at e;rw[Xp]at e;cases z:f[i]? with
 |none=>rw[z]at e;simp at e
 |some o=>
  rw[z]at e;simp only[XZ,Option.some.injEq]at e;cases o with
  |none=>cases e
  |some k=>
   simp only at e;have r:Y[k]?=some (some t)/\((∃d,t=.fz d)\/(∃p,t=.scr p)\/∃m,t=.zow m):=by
    cases y:Y[k]? with
    |none=>rw[y]at e;simp[Jl]at e
    |some w=>
     rw[y]at e;simp only[Option.join_some]at e;cases w with
     |none=>simp[Jl]at e
     |some w=>
      cases w with
      |fz d=>simp[Jl]at e;subst e;exact⟨rfl,.inl ⟨_,rfl⟩⟩
      |scr p=>simp[Jl]at e;subst e;exact⟨rfl,.inr<|.inl ⟨_,rfl⟩⟩
      |zow m=>simp[Jl]at e;subst e;exact⟨rfl,.inr<|.inr ⟨_,rfl⟩⟩
      |ol B=>simp[Jl]at e
      |oll B=>simp[Jl]at e
      |own D C=>simp[Jl]at e
   obtain⟨v,b,q⟩:=u k t r.1;refine⟨v,?_,?_⟩
   .unfold Wh;simp_all
   .rcases r.2 with ⟨d,rfl⟩|⟨p,rfl⟩|⟨m,rfl⟩
    .exact⟨rfl,q.2⟩
    .exact⟨rfl,q.2⟩
    .exact⟨rfl,q.2⟩
def JG{X:Type}{f:List (Option Nat)}{k:TI}{g:CIn->TG}{C:CIn->TT}{B:CIn->TE}{xs:List X}{enc h:X->PyData}{p:X->Bool}(hi:EvI K k Y (xs.map enc))(hl:xs.length<=1000)
(hs:∀x∈xs,∀c,∃s,GTo K (g c) (enc x) (Ue f Y) s/\Zf K (C c) s (p x)/\(p x=true->Qr K (B c) s (h x))):EvO K (tLC f k g C B) Y (.ol<|(xs.filter p).map h):=λR F O H Q S q=>
 hi R F O H _ S λG L J Z W c=>by
  have hn:=X4 (VR hl);refine⟨λi m ys H=>m=xs.length-i/\i<=xs.length/\∃P,QF G L P H/\Q1 P ys (((xs.take i).filter p).map h),⟨xs.length,by simp,X3 _,G,QF.refl Z.fh,.nil⟩,?_⟩;rintro i m ys M ⟨rfl,hle,P,t,D⟩;obtain⟨w1,w2⟩:=W P M t.ff t.fh
  by_cases r:i<xs.length
  .have e:(xs.map enc)[i]?=some (enc xs[i]):=by simp[r]
   obtain⟨go,U⟩:=w2 i _ e;refine .inr ⟨go,λv d y=>?_⟩;obtain⟨E,A,r3⟩:=U v d y;obtain⟨s,k1,k2,k3⟩:=hs xs[i] (XL r) c;have S3:=(S.ext<|Z.trans<|t.trans A).inner f;have l:xs.take (i+1)=xs.take i++[xs[i]]:=by rw[Y9];simp[r]
   have ly:=D.length;have ly2:ys.length<=i:=by
    rw[ly,Xi];refine Xx (List.length_filter_le _ _) ?_;rw[B4];lia
   refine k1 R E _ d v _ S3 r3 λu n=>k2 R E u d _ n λo H4 w=>?_
   cases b:p xs[i] with
   |true=>
    refine k3 b R o u H4 _ (n.ext w) λF5 H5 z j r5=>⟨by lia,xs.length-(i+1),by lia,rfl,r,F5,t.trans<|A.trans<|w.trans j,?_⟩;rw[l,JU,XB];simp only[MJ,b,if_true,List.filter_nil];exact(D.mono (A.trans<|w.trans j).ff).snoc r5
   |false=>
    refine⟨xs.length-(i+1),by lia,rfl,r,o,t.trans<|A.trans w,?_⟩;rw[l,JU];simp only[MJ,b,List.filter_nil,UA,XN,MP,if_false];exact D.mono (A.trans w).ff
  .have e:i=xs.length:=by lia
   subst e;refine .inl ⟨by simpa using w1,λa ha=>?_⟩;rw[XX]at D;obtain⟨T,N,I⟩:=Gm (Z.trans t) ha D;exact q _ _ _ _ T N I
def ZI{m:Type}{f:List (Option Nat)}{p:TI}{g:CIn->TG}{i:CIn->TE}{xs:List m}{enc h:m->PyData}(t:EvI K p Y (xs.map enc))(s:xs.length<=1000)
(r:∀x∈xs,∀c,∃a,GTo K (g c) (enc x) (Ue f Y) a/\Qr K (i c) a (h x)):EvO K (tLC f p g (λ_=>GC) i) Y (.ol<|xs.map h):=by
 have:=JG t s λx q c=>by
  obtain⟨a,v,u⟩:=r x q c;exact⟨a,v,Ps,λ_=>u⟩
 have e:xs.filter _=xs:=B6.mpr λ_ _=>rfl
 simp_all
def SS:List V->Hp->VK->Prop:=λxs H Q=>∃i,xs=[.int i]/\Q (.int (if i<0 then -i else i)) H
def K2:List V->Hp->VK->Prop:=λxs H Q=>∃i j,xs=[.int i,.int j]/\Q (.int (if j > i then j else i)) H
def Ks:List V->Hp->VK->Prop:=λxs H Q=>∃i j,xs=[.int i,.int j]/\Q (.int (if j<i then j else i)) H
def Pf:List V->Hp->VK->Prop:=λxs H Q=>(∃i,xs=[.int i]/\Q (.int i) H)\/∃k,xs=[.bl k]/\Q (.int (if k then 1 else 0)) H
def A3:List V->Hp->VK->Prop:=λxs H Q=>∃x T c b,xs=[x,.ty c]/\TyN H x T/\UL T c=some b/\Q (.bl b) H
def G7(K:W.Frag):List V->Hp->VK->Prop:=λxs H Q=>∃p ys,xs=[.ref p]/\(SqL K H p ys\/SqT K H p ys)/\Q (.int ys.length) H
def TU(K:W.Frag):List V->Hp->VK->Prop:=λxs H Q=>∃p ys,xs=[.ref p]/\(SqL K H p ys\/SqT K H p ys)/\∀l,H l=none->Q (.ref l) (upd H l<|.lst ys)
def KO(K:W.Frag):List V->Hp->VK->Prop:=λxs H Q=>∃p ys,xs=[.ref p]/\((SqL K H p ys/\∀l,H l=none->Q (.ref l) (upd H l<|.tup ys))\/(SqT K H p ys/\Q (.ref p) H))
def Kk(X:Cx):List V->Hp->VK->Prop:=λxs H Q=>X.calm=true/\∃(x:V) (a:Ql),xs=[x]/\Rep H x (.list<|a.map PyData.int)/\Q (.int a.sum) H
def P4:V->List V->Hp->VK->Prop:=λx xs H Q=>∃i,x=.int i/\xs=[]/\Q (.int<|Builtin.Int.intBits i) H
def BX:ZY X (.builtin "abs") SS:=Zu1
def Tr(h:X.calm=true):ZY X (.builtin "max") K2:=Zsa h
def GR(h:X.calm=true):ZY X (.builtin "min") Ks:=Zqw h
def ED:ZY X (.type "int") Pf:=ZqU
def Um:ZY X (.builtin "isinstance") A3:=OR
def ZU:ZY X (.builtin "len") (G7 X.K):=Zme
def EQ:ZY X (.type "list") (TU X.K):=Zlw
def WS:ZY X (.type "tuple") (KO X.K):=ZjS
def YX:ZY X (.builtin "sum") (Kk X):=Zqu
def Ii:MtR X "int.bit_length" P4:=IW
def En(h:Qr K D Y (.int x)):Qr K (tCB SS<|QX D Zo) Y (.int (if x<0 then -x else x)):=λR F O H Q S q=>
 h R F O H _ S λi L v a f=>by cases f;exact⟨x,rfl,q i L _ a<|.int _⟩
def Ty{y:Int}{r:List V->Hp->VK->Prop}(q:Qr K D Y (.int x))(p:Qr K tb Y (.int y))(S:QQ K R F Y O H)(h:∀u M,QF F H u M->r [.int x,.int y] M Q):tCB r (QX D<|QX tb Zo) O H Q:=
 q R F O H _ S λt L v a m=>p R t O L _ (S.ext a) λs E w f i=>by cases m;cases i;exact h s E (a.trans f)
def Er{y:Int}(f:Qr K D Y (.int x))(a:Qr K tb Y (.int y)):Qr K (tCB K2<|QX D<|QX tb Zo) Y (.int (if y > x then y else x)):=λR F O H Q S q=>
 Ty f a S λh M e=>⟨x,y,rfl,q h M _ e<|.int _⟩
def E4{y:Int}(f:Qr K D Y (.int x))(a:Qr K tb Y (.int y)):Qr K (tCB Ks<|QX D<|QX tb Zo) Y (.int (if y<x then y else x)):=λR F O H Q S q=>
 Ty f a S λh M e=>⟨x,y,rfl,q h M _ e<|.int _⟩
def K8{b:Bool}(h:Qr K D Y (.bool b)):Qr K (tCB Pf<|QX D Zo) Y (.int (if b then 1 else 0)):=λR F O H Q S q=>
 h R F O H _ S λi L v a f=>by cases f;exact .inr ⟨b,rfl,q i L _ a<|.int _⟩
def UX{a:PyData}{c:String}{b:Bool}(h:Qr K D Y a)(m:UL (tyD a) c=some b):Qr K (tCB A3<|QX D<|QX (tC<|.ty c) Zo) Y (.bool b):=λR F O H Q S q=>
 h R F O H _ S λp L v f i=>⟨v,_,c,b,rfl,(i.mono f.fh).ty,m,q p L _ f<|.bl _⟩
def YH(h:Qr K D Y (.list ds)):Qr K (tCB (G7 K)<|QX D Zo) Y (.int (ds.length:Int)):=λR F O H Q S q=>
 h R F O H _ S λr L v f i=>by
  obtain⟨a,xs,rfl,p,m,_⟩:=W7 (K:=K) i f.fh;exact⟨a,xs,rfl,.inl p,by rw[m.length];exact q r L _ f<|.int _⟩
def Dz(h:Qr K D Y (.tuple ds)):Qr K (tCB (G7 K)<|QX D Zo) Y (.int (ds.length:Int)):=λR F O H Q S q=>
 h R F O H _ S λr L v f i=>by
  obtain⟨a,xs,rfl,p,m,_⟩:=Ux (K:=K) i f.fh;exact⟨a,xs,rfl,.inr p,by rw[m.length];exact q r L _ f<|.int _⟩
def Z0f(e0:Y[i]?=some (some<|.scr ns)):Qr K (tCB (G7 K)<|QX (QY i) Zo) Y (.int (ns.length:Int)):=λR F O H Q S q=>by
 obtain⟨p,h,_⟩:=S.fp;obtain⟨v,m,_,a,rfl,f⟩:=h i _ e0;exact⟨_,m,a,ns.map V.int,rfl,.inl<|S.sub.seq f.sq,by rw[Xi];exact q F H _ (QF.refl S.sub)<|.int _⟩
def KG(e0:Y[i]?=some (some<|.ol ds)):Qr K (tCB (G7 K)<|QX (QY i) Zo) Y (.int (ds.length:Int)):=λR F O H Q S q=>by
 obtain⟨r,h,_⟩:=S.fp;obtain⟨v,p,a,rfl,_,_,xs,m,f⟩:=h i _ e0;exact⟨_,p,a,xs,rfl,.inl<|SqL.of m,by rw[f.length];exact q F H _ (QF.refl S.sub)<|.int _⟩
def Uo(h:Qr K D Y (.list ds)):Qr K (tCB (KO K)<|QX D Zo) Y (.tuple ds):=λR F O H Q S q=>
 h R F O H _ S λu L v f r=>by
  obtain⟨a,xs,rfl,t,s,_⟩:=W7 (K:=K) r f.fh;refine⟨a,xs,rfl,.inl ⟨t,λp m=>?_⟩⟩;have i:=f.fh;exact q _ _ _ (f.trans<|QF.new i m) (.tup QT<|s.mono<|QI.new<|i.free m)
def KJ(e0:Y[i]?=some (some<|.ol ds)):Qr K (tCB (KO K)<|QX (QY i) Zo) Y (.tuple ds):=λR F O H Q S q=>by
 obtain⟨t,h,_⟩:=S.fp;obtain⟨v,s,a,rfl,_,_,xs,r,m⟩:=h i _ e0;refine⟨_,s,a,xs,rfl,.inl ⟨SqL.of r,λp f=>?_⟩⟩;exact q _ _ _ (QF.new S.sub f) (.tup QT<|m.mono<|QI.new<|S.sub.free f)
def YV{ns:Ql}(h:Qr K D Y (.list<|ns.map PyData.int))(i:X.calm=true):Qr K (tCB (Kk X)<|QX D Zo) Y (.int ns.sum):=λR F O H Q S q=>
 h R F O H _ S λm L v a f=>⟨i,v,ns,rfl,f.mono a.fh,q m L _ a<|.int _⟩
def PL(h:Qr K D Y (.int x)):Qr K (A7 K "int" P4 D) Y (.int (Builtin.Int.intBits x:Int)):=λR F O H Q S q=>
 h R F O H _ S λi L v a f=>by cases f;exact⟨rfl,x,rfl,rfl,q i L _ a<|.int _⟩
def GM(A:Qr K D Y (.list as))(w:Qr K tb Y (.list bs))(v:as.length+bs.length<=1000):EvO K (tOp An D tb) Y (.ol<|as++bs):=λR F O H Q S q=>
 VQ A w S λX M x y e t s=>by
  obtain⟨a,xs,rfl,P,f,B⟩:=W7 (K:=K) t e.fh;obtain⟨b,ys,rfl,W,h,C⟩:=W7 (K:=K) s e.fh;refine⟨a,b,xs,ys,rfl,rfl,B,C,by rw[f.length,h.length];exact X4<|VR v,λp u=>?_⟩;obtain⟨r,m,i⟩:=Gm e u (f.append h);exact q _ _ _ _ r m i
def E2{ns:Ql}(p:Qr K D Y (.int x))(m:Qr K tb Y (.list<|ns.map PyData.int)):Qr K (tOp (rIn K false) D tb) Y (.bool<|decide (x∈ns)):=λR F O H Q S q=>
 VQ p m S λw M u y e h f=>by
  obtain⟨a,xs,rfl,s,r,A⟩:=W7 (K:=K) f e.fh;cases h;have t:=JQ r;subst t;refine⟨a,_,rfl,.inl s,rfl,?_,?_⟩
  .rw[B3];intro v i;obtain⟨j,_,rfl⟩:=Xk.mp i;rfl
  .have:(if false=true then !inV (.int x) (ns.map V.int) else inV (.int x)<|ns.map V.int)=decide (x∈ns):=by
    rw[Xc Xs];exact LL x ns
   rw[this];exact q w M _ e (.bl _)
end
end L2
namespace L2
def Za(f:Qr K D Y d)(a:ZQ K t Y (fzs ds)):ZQ K (QX D t) Y (fzs (d::ds)):=Qs f a
def EvI.cast(h:EvI K wi Y ds)(e:ds=ds'):EvI K wi Y ds':=e▸h
def Wp{a b:Int}{m:Nat}(h:a=b)(f:m=n):ZW a m=ZW b n:=by rw[h,f]
def Fq{a b:Int}{m:Nat}(h:a=b)(f:m=n):J6 a m=J6 b n:=by rw[h,f]
def PM(h:Qr K D Y (.int x)):Qr K (tCB SS<|QX D Zo) Y (.int<|Mir.ZhK x):=En h
def Z0m{y:Int}(f:Qr K D Y (.int x))(a:Qr K tb Y (.int y)):Qr K (tCB K2<|QX D<|QX tb Zo) Y (.int<|max x y):=by
 have e:max x y=if y > x then y else x:=by split<;>lia
 rw[e];exact Er f a
def KF{y:Int}(f:Qr K D Y (.int x))(a:Qr K tb Y (.int y)):Qr K (tCB Ks<|QX D<|QX tb Zo) Y (.int<|min x y):=by
 have e:min x y=if y<x then y else x:=by split<;>lia
 rw[e];exact E4 f a
def Dj{f:List (Option Nat)}{g:CIn->TG}{lo:Int}{n:Nat}{h:Nat->PyData}(q:EvI K wi Y (ZW lo n))(p:n<=1000)
(m:∀(x:Nat),x<n->∀c,∃a,GTo K (g c) (.int<|lo+(x:Int)) (Ue f Y) a/\Qr K (tee c) a (h x)):EvO K (tLC f wi g (λ_=>GC) tee) Y (.ol<|(List.range n).map h):=
 ZI q (by simpa using p) λx i c=>m x (Xw.mp i) c
def Qr.cast(h:Qr K t Y d)(e:d=d'):Qr K t Y d':=e▸h
def EvO.cast(h:EvO K t Y d)(e:d=d'):EvO K t Y d':=e▸h
def Zf.cast(h:Zf K t Y d)(e:d=d'):Zf K t Y d':=e▸h
def Dy(K:W.Frag):Sp:=λf H Q _=>∃(a:Addr) (h:Ql),f=[.ref a]/\KTs K H/\Scr K H a h/\∀M,Q (.bl true) M
def Fun.evLaw{base:Heap}{x p:Str}{st:Stmt}{N:Qh}{k:Nat}(F:Fun K x qual st f fd)(S:Qo N [p] (Q5 st))
(y:∀ns:Ql,ns.length<=63->(∀i∈ns,Builtin.Int.intBits i<=2^20)->∀H H2,B0 P w K mg base N qual st k f H H2 λt=>QC K t (some (.scr ns)::List.replicate (N.length-1) none) { nx:=λ_=>False,rt:=λr=>r=.fz (.bool true) }):FnOk P w K mg base CX0 (k+1) f fd [p] (Dy K):=by
 refine F.ok S (by rintro O H Q H2 ⟨a,ns,e,_⟩;rw[e];rfl) ?_;rintro O H Q H2 ⟨a,ns,e,W,m,q⟩ u A outer s X;subst e;obtain⟨t,Z,Y⟩:=y ns m.len m.bits H H2 u A outer s X;refine⟨t,Z,Y H H H _ H _ (QF.refl<|QI.refl _) ⟨W,QI.refl _,?_,λ_=>[],λi c e=>?_,λi j a h=>(nomatch h),λi a h=>(nomatch h)⟩ ⟨λb B M C D _ e=>False.elim e,λb M v d p D g R e=>?_,λ_ _ _ _ _ _ z=>False.elim z,λ_ _ _ _ _ _ z=>False.elim z⟩⟩
 .unfold start;simp
 .cases i with
  |zero=>
   simp at e;subst e;exact⟨_,rfl,rfl,a,rfl,m⟩
  |succ i=>
   rw[List.getElem?_cons_succ]at e;have:=List.mem_of_getElem? e;simp at this
 .subst e;obtain⟨_,r⟩:=R;cases r;exact q M
theorem Fgt.trans:∀{a b c:ZcP},Fgt a b->Fgt b c->Fgt a c
 |[],[],[],_,_=>trivial
 |_::r,none::i,none::m,h,p=>by
  have h':Fgt r i:=h;have f:Fgt i m:=p;exact(show Fgt r m from Fgt.trans h' f)
 |s::r,some x::i,none::m,h,p=>by
  have h':s=some x/\Fgt r i:=h;have f:Fgt i m:=p;exact(show Fgt r m from Fgt.trans h'.2 f)
 |_::r,none::i,some z::m,h,p=>by
  have f:none=some z/\Fgt i m:=p;exact Xr f.1 (by simp)
 |s::r,some x::i,some z::m,h,p=>by
  have h':s=some x/\Fgt r i:=h;have f:some x=some z/\Fgt i m:=p;exact⟨h'.1.trans f.1,Fgt.trans h'.2 f.2⟩
 |[],none::_,_,h,_=>False.elim h
 |[],some _::_,_,h,_=>False.elim h
 |_::_,[],_,h,_=>False.elim h
 |[],[],none::_,_,h=>False.elim h
 |[],[],some _::_,_,h=>False.elim h
 |_::_,none::_,[],_,h=>False.elim h
 |_::_,some _::_,[],_,h=>False.elim h
def Z2 : ZQ K Zo Y (fzs []):=Q2
def Z0F{i:Int}(h1 : -18446744073709551616<j)(a:j<18446744073709551616):MR i j:=.inr ⟨h1,a⟩
def z62:(2:Int)^62=4611686018427387904:=by decide
def Z0C:SI 10 30:=⟨by decide,by decide,by decide⟩
def Yt{H2:XK}:(JZ CX P w K mg base N q sc f cd A o s H H2).nox.K=K:=rfl
def ZtY{c:CIn}:(Vn X N sc c).K=X.K:=rfl
end L2
namespace L2
def EvP(K:W.Frag)(t:TO)(Y:ZcP)(o:Option Int):Prop := ∀(R F:Hp) (O:St) (H:Hp) (Q:Option Int->Hp->Prop),QQ K R F Y O H->(∀a M,QF F H a M->Q o M)->t O H Q
def Ge:EvP K TH Y none:=λR F O H Q S q=>q F H (QF.refl S.sub)
def Gi{i:Int}(h:Qr K te Y (.int i)):EvP K (PD te) Y (some i):=λR F O H Q S q=>h R F O H _ S λm L v a f=>by cases f;exact⟨i,rfl,q m L a⟩
def cut{a:Type}(xs:List a)(lo f:Option Int):List a:=(xs.drop<|HT.sIx xs.length 0 lo).take (HT.sIx xs.length xs.length f-HT.sIx xs.length 0 lo)
theorem Q1.drop{F:Hp}:∀{xs:List V} {ds:Qd} (n:Nat),Q1 F xs ds->Q1 F (xs.drop n) (ds.drop n)
 |_,_,0,r=>r
 |_,_,_+1,.nil=>.nil
 |_,_,n+1,.cons _ t=>Q1.drop n t
theorem Q1.take{F:Hp}:∀{xs:List V} {ds:Qd} (n:Nat),Q1 F xs ds->Q1 F (xs.take n) (ds.take n)
 |_,_,0,_=>.nil
 |_,_,_+1,.nil=>.nil
 |_,_,n+1,.cons r t=>.cons r (Q1.take n t)
def LQ(r:Q1 F xs ds)(lo a:Option Int):Q1 F (UH xs lo a) (cut ds lo a):=by
 unfold UH cut;rw[r.length];exact(r.drop _).take _
def BQ{th:TO}{ds:Qd}{lo m:Option Int}(h:Qr K te Y (.list ds))(C:EvP K tl Y lo)(B:EvP K th Y m):EvO K (tSl (Ap K) te tl th) Y (.ol<|cut ds lo m):=λR F O H Q S q=>
 h R F O H _ S λX L v i y=>C R X O L _ (S.ext i) λW E f=>B R W O E _ (S.ext<|i.trans f) λc b r=>by
  have x:=i.trans (f.trans r);obtain⟨a,xs,rfl,P,D,Z⟩:=W7 (K:=K) (y.mono (f.trans r).ff) x.fh;refine⟨a,xs,rfl,P,λp A=>?_⟩;obtain⟨w,u,s⟩:=Gm (K:=K) x A (LQ D lo m);exact q _ _ _ _ w u s
def K5{th:TO}{ds:Qd}{lo f:Option Int}(h:Qr K te Y (.tuple ds))(A:EvP K tl Y lo)(y:EvP K th Y f)(hw:¬(HT.sIx ds.length 0 lo=0/\HT.sIx ds.length ds.length f=ds.length)):Qr K (tSl (As K) te tl th) Y (.tuple<|cut ds lo f):=λR F O H Q S q=>
 h R F O H _ S λD L v m w=>A R D O L _ (S.ext m) λC E i=>y R C O E _ (S.ext<|m.trans i) λX W r=>by
  have x:=m.trans (i.trans r);obtain⟨a,xs,rfl,B,u,P⟩:=Ux (K:=K) (w.mono (i.trans r).ff) x.fh;refine⟨a,xs,rfl,B,by rw[u.length];exact hw,λp s=>?_⟩;exact q _ _ _ (x.trans<|QF.new x.fh s) (.tup QT<|(LQ u lo f).mono (QI.new<|x.fh.free s))
def Pi{a:Int}{m:Nat}(h0:0<=a)(i:a<2^m)(f:0<=b)(q:b<2^n)(v:m+n<=100000):IntMulOk a b:=by
 have p:∀{x:Int} {m:Nat},0<=x->x<2^m->Builtin.Int.intBits x<=m:=λ{x m} h0 h=>by
  unfold Builtin.Int.intBits;by_cases e:x=0
  .subst e;simp
  .have s:(x==0)=false:=by simpa using e
   rw[s];have i:x.natAbs≠0:=by lia
   have f:x.natAbs<2^m:=by
    have:((x.natAbs:Nat):Int)<((2^m:Nat):Int):=by
     have r:((2^m:Nat):Int)=(2:Int)^m:=by rw[Int.natCast_pow];rfl
     rw[r];lia
    exact W9.mp this
   have:=(Nat.log2_lt i).mpr f;simp only[MP,if_false];lia
 have y:=p h0 i;have w:=p f q;unfold IntMulOk;have:Builtin.Int.intTooBig (Builtin.Int.intBits a+Builtin.Int.intBits b)=false:=by
  unfold Builtin.Int.intTooBig;have u:(100000:Nat)<=bitsLine:=by decide
  exact Xo (by lia)
 rw[this];simp
end L2
namespace L2
def Ja(as bs:Qd):Qd:=(as.zip bs).map λp=>PyData.tuple [p.1,p.2]
def Ztr(as bs:Qd):(Ja as bs).length=min as.length bs.length:=by simp[Ja]
def Zu0(e:(Ja as bs)[i]?=some d):∃a b,as[i]?=some a/\bs[i]?=some b/\d=.tuple [a,b]:=by
 unfold Ja at e;rw[Xp]at e;cases z:(as.zip bs)[i]? with
 |none=>rw[z]at e;cases e
 |some p=>
  rw[z]at e;have m:=Option.some.inj e;obtain⟨h,f⟩:=List.getElem?_zip_eq_some.mp z;exact⟨p.1,p.2,h,f,m.symm⟩
def UT(as:Qd):Qd:=as.zipIdx.map λp=>PyData.tuple [.int (p.2:Int),p.1]
def Rl(as:Qd):(UT as).length=as.length:=by simp[UT]
def RC(e:(UT as)[i]?=some d):∃a,as[i]?=some a/\d=.tuple [.int (i:Int),a]:=by
 unfold UT at e;rw[Xp,List.getElem?_zipIdx]at e;cases z:as[i]? with
 |none=>rw[z]at e;cases e
 |some a=>rw[z]at e;simp at e;exact⟨a,rfl,e.symm⟩
def Rg{H:Hp}(r:Rep F x (.list ds)):∃a xs,x=.ref a/\F a=some (.lst xs)/\Q1 F xs ds:=by
 cases r with
 |lst h f=>exact⟨_,_,rfl,h,f⟩
def BR(h:ZQ K t Y [.fz<|.list as,.fz<|.list bs]):EvI K (Ao K t) Y (Ja as bs):=λR F O H H0 S q=>
 h R F O H _ S λM L N u f=>by
  cases f with
  |fz r f=>
   cases f with
   |fz n f=>
    cases f;obtain⟨a,xs,rfl,Z,P⟩:=Rg (H:=L) r;obtain⟨b,ys,rfl,X,D⟩:=Rg (H:=L) n;refine⟨a,b,rfl,⟨xs,SqL.of<|u.fh _ _ Z⟩,⟨ys,SqL.of<|u.fh _ _ X⟩,q M L _ u λl E s m=>?_⟩;have A:SqL K E a xs:=SqL.of (m _ _<|s _ _ Z);have w:SqL K E b ys:=SqL.of (m _ _<|s _ _ X);refine⟨⟨xs,ys,A,w,by rw[Ztr,P.length,D.length]⟩,λi d e=>?_⟩;obtain⟨T,Q,J,I,rfl⟩:=Zu0 e;obtain⟨C,g,G⟩:=P.get J;obtain⟨B,c,z⟩:=D.get I;refine⟨⟨xs,ys,C,B,A,w,g,c⟩,λv U o=>?_⟩;obtain⟨p,x,y,W,rfl,rfl,k1,k2⟩:=o;have k:=k1 xs A;rw[g]at k;cases k;have j:=k2 ys w;rw[c]at j;cases j;have sn:QI l (upd l p<|.tup [C,B]):=QI.new (m.free W);exact⟨_,QF.new m W,.tup QT<|.cons ((G.mono s).mono sn)<|.cons ((z.mono s).mono sn) .nil⟩
def KR(h:ZQ K t Y [.fz<|.list as]):EvI K (Pv K t) Y (UT as):=λR F O H H0 S q=>
 h R F O H _ S λc L g w m=>by
  cases m with
  |fz r m=>
   cases m;obtain⟨a,xs,rfl,C,A⟩:=Rg (H:=L) r;refine⟨a,rfl,⟨xs,SqL.of<|w.fh _ _ C⟩,q c L _ w λW E y f=>?_⟩;have s:SqL K E a xs:=SqL.of (f _ _<|y _ _ C);refine⟨⟨xs,s,by rw[Rl,A.length]⟩,λi d e=>?_⟩;obtain⟨j,b,rfl⟩:=RC e;obtain⟨u,D,Z⟩:=A.get b;refine⟨⟨xs,u,s,D⟩,λv k X=>?_⟩;obtain⟨p,x,B,rfl,rfl,k1⟩:=X;have P:=k1 xs s;rw[D]at P;cases P;have sn:QI W (upd W p<|.tup [.int<|i,u]):=QI.new (f.free B);exact⟨_,QF.new f B,.tup QT<|.cons (.int _)<|.cons ((Z.mono y).mono sn) .nil⟩
def Mc{bs:List Bool}(h:Qr K D Y (.list<|bs.map PyData.bool))(i:X.calm=true):Qr K (tCB (A9 X)<|QX D Zo) Y (.bool<|bs.all id):=λR F O H Q S q=>
 h R F O H _ S λm L v a f=>⟨i,v,bs,rfl,f.mono a.fh,q m L _ a<|.bl _⟩
def Iq(h:Qr K D Y (.list<|ns.map PyData.int))(i:X.calm=true)(hn:ns≠[]):Qr K (tCB (Pu X)<|QX D Zo) Y (.int<|Wv ns):=λR F O H Q S q=>
 h R F O H _ S λm L v a f=>⟨i,v,ns,rfl,f.mono a.fh,hn,q m L _ a<|.int _⟩
def KC(w:Qr K D Y (.tuple as))(v:Qr K tb Y (.tuple bs))(u:as.length+bs.length<=1000):Qr K (tOp (P3 K) D tb) Y (.tuple<|as++bs):=λR F O H Q S q=>
 VQ w v S λs M x y e m i=>by
  obtain⟨a,xs,rfl,A,f,W⟩:=Ux (K:=K) m e.fh;obtain⟨b,ys,rfl,B,h,X⟩:=Ux (K:=K) i e.fh;refine⟨a,b,xs,ys,rfl,rfl,A,B,by rw[f.length,h.length];exact X4<|VR u,λz=>?_,λ_ z=>?_,λ_ _ p r=>?_⟩
  .have:=f.length;rw[z]at this;have P:=Pe this.symm;rw[P]at q;exact q s M _ e i
  .have:=h.length;rw[z]at this;have C:=Pe this.symm;rw[C,XN]at q;exact q s M _ e m
  .exact q _ _ _ (e.trans<|QF.new e.fh r) (.tup QT<|(f.append h).mono (QI.new<|e.fh.free r))
def Ih{ns:Ql}(p:Qr K D Y (.int x))(m:Qr K tb Y (.list<|ns.map PyData.int)):Qr K (tOp (rIn K true) D tb) Y (.bool<|!decide (x∈ns)):=λR F O H Q S q=>
 VQ p m S λA M u y e h f=>by
  obtain⟨a,xs,rfl,s,r,B⟩:=W7 (K:=K) f e.fh;cases h;have w:=JQ r;subst w;refine⟨a,_,rfl,.inl s,rfl,?_,?_⟩
  .rw[B3];intro v i;obtain⟨j,_,rfl⟩:=Xk.mp i;rfl
  .rw[Xf rfl,LL];exact q A M _ e (.bl _)
def UM:OT->Option PyData
 |.fz d=>some d
 |.ol f=>some (.list f)
 |.oll a=>some (.list<|a.map PyData.list)
 |.scr _=>none
 |.own _ _=>none
 |.zow _=>none
def frF(F H:Hp)(p:Qg):Hp:=λb=>if b∈p then H b else F b
def JC{p:Qg}{b:Addr}(h:b∈p):frF F H p b=H b:=by unfold frF;rw[Xf h]
def W4{p:Qg}{b:Addr}(h:b∉p):frF F H p b=F b:=by unfold frF;rw[Xc h]
def WR{p:Qg}(h:∀a∈p,F a=none):QI F (frF F H p):=λb u e=>by
 rw[W4 λz=>by rw[h b z]at e;cases e];exact e
def GW{p:Qg}(s:QI F H):QI (frF F H p) H:=λb u e=>by
 by_cases z:b∈p
 .rw[JC z]at e;exact e
 .rw[W4 z]at e;exact s b u e
theorem N4{F i H:Hp}(m:QI F i):∀{as:Qg} {f:List (Qd)},Vp F H as f->(∀a∈as,i a=H a)->Q1 i (as.map V.ref) (f.map PyData.list)
 |[],[],_,_=>.nil
 |a::as,w::f,h,p=>by
  obtain⟨⟨v,xs,u,s⟩,r⟩:=h;exact .cons (.lst (by rw[p a Xb];exact u)<|s.mono m) (N4 m r λb q=>p b<|Xg _ q)
 |[],_::_,h,_=>False.elim h
 |_::_,[],h,_=>False.elim h
def ZH.frz{p:Qg}(f:ZH K F H v t p)(e:UM t=some d):Rep (frF F H p) v d:=by
 have h:QI F (frF F H p):=WR λa r=>(f.there a r).1
 cases t with
 |fz O=>cases e;exact f.2.mono h
 |ol D=>
  cases e;obtain⟨a,rfl,rfl,s,xs,m,i⟩:=f;exact .lst (by rw[JC Xb];exact m) (i.mono h)
 |oll u=>
  cases e;obtain⟨a,P,rfl,rfl,C,s,m,i⟩:=f;exact .lst (by rw[JC Xb];exact m) (N4 h i λb q=>JC<|Xg _ q)
 |scr B=>cases e
 |own A y=>cases e
 |zow w=>cases e
def QQ.frz(s:QQ K R F Y O H)(e:Y[i]?=some (some t))(h:∀v p,ZH K F H v t p->ZH K (frF F H p) H v t' []):
 ∃p,(∀a∈p,F a=none/\H a≠none/\R a=none)/\QQ K R (frF F H p) (Y.set i<|some t') O H:=by
 obtain⟨v,p,u,r,m,k⟩:=s.chg e;refine⟨p,λa f=>⟨(m a f).2.1,(m a f).2.2,(m a f).1⟩,(k _ H t' [] (WR λa f=>(m a f).2.1) (GW s.sub) (λ_ _ _=>rfl) (λb q=>?_) (h v p r)<|by rintro b ⟨⟩).1⟩
 by_cases z:b∈p
 .exact .inr (.inr z)
 .rw[W4 z]at q;exact .inl q
def QQ.freezeG(s:QQ K R F Y O H)(e:Y[i]?=some (some t))(h:UM t=some d):
 ∃p,(∀a∈p,F a=none/\H a≠none/\R a=none)/\QQ K R (frF F H p) (Y.set i<|zf d) O H:=s.frz e λv p f=>⟨rfl,f.frz h⟩
def Tb(i:Nat){r:OT}(e:Y[i]?=some (some r))(s:UM r=some d)(h:QC K t (Y.set i<|zf d) ta):QC K t Y ta:=λu R F O H H2 x S C=>by
 obtain⟨p,m,q⟩:=S.freezeG e s;refine h u R _ O H H2 ⟨x.hh,x.ff.trans<|WR λa f=>(m a f).1,q.sub,λa f=>?_⟩ q C
 by_cases z:a∈p
 .exact .inr (m a z).2.2
 .rw[W4 z]at f;exact x.fr a f
def Fe{p:Qg}(i:∀a∈p,F a=none/\H a≠none)(x:QF (frF F H p) H F' M):QF F H (λb=>if b∈p then none else F' b) M:=
 ⟨x.hh,λb u f=>by
  have h:b∉p:=λz=>by rw[(i b z).1]at f;cases f
  simp only[Xc h];exact x.ff b u<|by rw[W4 h];exact f,λb u f=>by
  by_cases z:b∈p
  .simp_all
  .simp only[Xc z]at f;exact x.fh b u f,λb f=>by
  by_cases z:b∈p
  .simp_all
  .simp only[Xc z]at f;rcases x.fr b f with y|y
   .rw[W4 z]at y;exact .inl y
   .exact .inr y⟩
def NS(i:Nat){r:OT}{b:Bool}(e:Y[i]?=some (some r))(s:UM r=some d0)(h:Zf K t (Y.set i<|zf d0) b):Zf K t Y b:=λR F O H Q S q=>by
 obtain⟨p,f,u⟩:=S.freezeG e s;exact h R _ O H Q u λv M x=>q _ M (Fe (λa m=>⟨(f a m).1,(f a m).2.1⟩) x)
def Tl(ds:Qd):Prop := ∀d∈ds,∃w,YD d=some w
theorem Q1.flats{F f:Hp}:∀{xs:List V} {ds:Qd},Tl ds->Q1 F xs ds->Q1 f xs ds
 |_,_,_,.nil=>.nil
 |_::_,d::_,h,.cons r t=>by
  obtain⟨w,e⟩:=h d Xb;refine .cons ?_ (Q1.flats (λc a=>h c<|Xg _ a) t);cases r<;>simp[YD]at e
  .exact .non
  .exact .bl _
  .exact .int _
  .exact .str _
end L2
namespace L2
theorem Vp.snoc{F H:Hp}{b:Addr}{ds:Qd}:∀{as:Qg} {a:List (Qd)},Vp F H as a->Wu F H b ds->Vp F H (as++[b]) (a++[ds])
 |[],[],_,h=>⟨h,trivial⟩
 |_::_,_::_,h,f=>⟨h.1,Vp.snoc h.2 f⟩
 |[],_::_,h,_=>False.elim h
 |_::_,[],h,_=>False.elim h
theorem Vp.length{F H:Hp}:∀{as:Qg} {a:List (Qd)},Vp F H as a->as.length=a.length
 |[],[],_=>rfl
 |_::_,_::_,h=>by simp[Vp.length h.2]
 |[],_::_,h=>False.elim h
 |_::_,[],h=>False.elim h
def T5{t:Type}{f:List (Option Nat)}{N:TI}{g:CIn->TG}{Z:CIn->TE}{xs:List t}{enc:t->PyData}{h:t->Qd}(hi:EvI K N Y (xs.map enc))(hl:xs.length<=1000)
(hs:∀x∈xs,∀c,∃A,GTo K (g c) (enc x) (Ue f Y) A/\EvO K (Z c) A (.ol<|h x)):EvO K (tLC f N g (λ_=>GC) Z) Y (.oll<|xs.map h):=λR F O H Q S q=>
 hi R F O H _ S λF1 L J X W c=>by
  have hn:=X4 (VR hl);refine⟨λi m ys H=>m=xs.length-i/\i<=xs.length/\∃l w,QF F1 L l H/\ys=w.map V.ref/\w.Nodup/\(∀a∈w,L a=none)/\Vp l H w ((xs.take i).map h),⟨xs.length,by simp,X3 _,F1,[],QF.refl X.fh,rfl,by simp,λa D=>(nomatch D),trivial⟩,?_⟩;rintro i m ys M ⟨rfl,hle,l,w,s,rfl,T,j,B⟩;obtain⟨w1,w2⟩:=W l M s.ff s.fh
  by_cases u:i<xs.length
  .have e:(xs.map enc)[i]?=some (enc xs[i]):=by simp[u]
   obtain⟨go,yl⟩:=w2 i _ e;refine .inr ⟨go,λv G y=>?_⟩;obtain⟨F3,P,r3⟩:=yl v G y;obtain⟨A,k1,k2⟩:=hs xs[i] (XL u) c;have S3:=(S.ext<|X.trans<|s.trans P).inner f;have tk:xs.take (i+1)=xs.take i++[xs[i]]:=by rw[Y9];simp[u]
   have ol:=B.length;refine k1 R F3 _ G v _ S3 r3 λn S4=>?_;dsimp only[GC];refine k2 R F3 n G _ S4 λF5 H5 z p I hp ok=>⟨?_,xs.length-(i+1),by lia,rfl,u,F5,w++[?_],s.trans<|P.trans I,?_,?_,?_,?_⟩
   .rw[Xi,ol,Xi,B4];lia
   .exact(match z with|.ref b=>b|_=>0)
   all_goals obtain⟨b,rfl,rfl,o1⟩:=ok
   .simp
   .rw[G4];refine⟨T,by simp,λk r d hd=>?_⟩;have E:=by simpa using hd
    subst E;intro z;subst z;have C:=hp k Xb;have:=(B.mem k r).2;obtain⟨o,ho⟩:=No this;rw[P.hh _ _ ho]at C;cases C
   .intro k r;rcases XA.mp r with r|r
    .exact j k r
    .have:=by simpa using r
     subst this;exact(s.trans P).hh.free (hp k Xb)
   .rw[tk,XB];exact(B.ext<|P.trans I).snoc o1
  .have e:i=xs.length:=by lia
   subst e;refine .inl ⟨by simpa using w1,λa D=>?_⟩;rw[XX]at B;have U:=λz=>(B.mem a z).2 D;refine q l _ _ (a::w) ((X.trans s).trans (QF.own s.fh D)) (λb C=>?_) ⟨a,w,rfl,rfl,XY.mpr ⟨U,T⟩,s.fh.free D,QT,B.other U⟩
   rcases Xe.mp C with rfl|C
   .exact(X.trans s).hh.free D
   .exact X.hh.free (j b C)
def AL(P:Qr K D Y (.list ds))(C:Qr K tb Y (.int k))(h0:0<=k)(B:ds.length*k.toNat<=1000)(Z:k<=1000000):EvO K (tOp Ay D tb) Y (.ol (List.replicate k.toNat ds).flatten):=λR F O H Q S q=>
 VQ P C S λX M x y e v u=>by
  obtain⟨a,xs,rfl,b,h,W⟩:=W7 (K:=K) v e.fh;cases u;have f:(2:Int)^63=9223372036854775808:=by decide
  refine⟨a,k,xs,rfl,rfl,W,by rw[f];lia,by rw[f];lia,by rw[h.length];exact X4<|VR B,λp A=>?_⟩;have s:∀n:Nat,Q1 X (List.replicate n xs).flatten (List.replicate n ds).flatten:=λn=>by
   induction n with
   |zero=>exact .nil
   |succ n w=>rw[B8];exact h.append w
  obtain⟨r,m,i⟩:=Gm e A (s k.toNat);exact q _ _ _ _ r m i
theorem Lp{a:Type}(d:a):∀n:Nat,(List.replicate n [d]).flatten=List.replicate n d
 |0=>rfl
 |n+1=>by rw[B8,List.flatten_cons,Lp d n];rfl
end L2
namespace PySem
section
variable {K:Type} [DecidableEq K] (knd:KeyKind prog w K)
def YI(h:Heap)(f:List K×List K)(a:Addr):Prop := ∃o n p q,h.get? a=some o/\o.cls=.type "tuple" /\ o.data=.seq #[.ref p,.ref q] n/\IsTupleKey knd h f.1 p/\IsTupleKey knd h f.2 q
variable {knd}
def YI.typeIs  (x:YI knd s.heap ks a):s.TypeIs (.ref a) "tuple" := let ⟨o,_,_,_,ho,hc,_⟩:=x;⟨o,ho,hc⟩
def YI.inj{y:List K×List K}(v:YI knd h x a)(u:YI knd h y a):x=y:=by
 obtain⟨o,n,p,q,w,_,A,C,B⟩:=v;obtain⟨P,R,O,D,i,_,f,r,m⟩:=u;cases Option.some.inj (w.symm.trans i);rw[A]at f;injection f with z _;have s:=XS Array.toList z;simp at s;obtain⟨rfl,rfl⟩:=s;exact Prod.ext (C.inj r) (B.inj m)
def YI.keeps{es ep}(x:YI knd h ks a)(s:h.get? d=some o)(u:o.data=.dict es ep)(f:Heap.SameBut d h h'):YI knd h' ks a:=by
 obtain⟨v,n,p,q,i,w,r,A,y⟩:=x;have m:a≠d:=λz=>by
  grind
 exact⟨v,n,p,q,(f.2 a m).trans i,w,r,A.keeps s u f,y.keeps s u f⟩
def ND(knd:KeyKind prog w K)(a:List K×List K):Int:=reduceHash (Builtin.Tuple.tupleHashOf [tupleKeyHash knd a.1,tupleKeyHash knd a.2])
def Zhb(P:A.units+5<cLine)(y:YI knd s.heap ks a)(h:Q (ND knd ks) { s with toks:=s.toks+(ks.1.length+ks.2.length+3) }):
 wpAny (model prog w) A (pyHash<|.ref a) Q H2 s:=by
 have r:=y.typeIs;obtain⟨o,n,p,q,B,_,C,K,D⟩:=y;refine Xa (wpAny_cRoomFor_or (.inr<|by lia) ?_);refine Xa (wpAny_specialOf r F.slot_tuple_hash.lookup ?_);refine Xa (wpAny_specialOf r F.slot_tuple_hash.lookup ?_);refine Xa (wpAny_callSpecialIfBoundUnlessNone?_slot r F.slot_tuple_hash<|wpAny_call_entry F.slot_tuple_hash r F.entry_tuple_hash ?_<|F.args_tuple_hash_1 _);show wpAny _ _ (Builtin.Tuple.tupleItemsOf (.ref a) >>= _) _ _ s;refine Xa (wpAny_tupleItemsOf B C ?_);refine Xa ?_
 rw[<- Array.forIn_toList];refine wpAny_forIn_list _
  (λrest (b) i=>(rest=[.ref p,.ref q]/\b.toList=[]/\i=s)\/(rest=[.ref q]/\b.toList=[tupleKeyHash knd ks.1]/\i={ s with toks:=s.toks+(ks.1.length+1) }) \/
   (rest=[]/\b.toList=[tupleKeyHash knd ks.1,tupleKeyHash knd ks.2]/\i={ s with toks:=s.toks+(ks.1.length+1)+(ks.2.length+1) }))
  _ ?_ ?_ _ _ (.inl ⟨rfl,rfl,rfl⟩)
 .rintro x rest b i (⟨f,m,rfl⟩|⟨f,m,rfl⟩|⟨f,_⟩)
  .injection f with v u;subst v u;refine Xa (wpAny_pyHash_tuple ?hu1 K ?_)
   case hu1=>show A.units+1<cLine;lia
   exact Xl (.inr<|.inl ⟨rfl,by simp[m],rfl⟩)
  .injection f with v u;subst v u;refine Xa (wpAny_pyHash_tuple ?hu2 D ?_)
   case hu2=>show A.units+1<cLine;lia
   exact Xl (.inr<|.inr ⟨rfl,by simp[m],rfl⟩)
  .cases f
 .rintro b i (⟨f,_⟩|⟨f,_⟩|⟨_,m,rfl⟩)
  .cases f
  .cases f
  show wpAny _ _ (retInt<|Builtin.Tuple.tupleHashOf b.toList) _ _ _;rw[m];refine wpAny_ret_mkInt ?_;show wpAny _ _ (if _=true then _ else _) Q H2 _;unfold ND reduceHash at h;have O:s.toks+(ks.1.length+ks.2.length+3)=s.toks+(ks.1.length+1)+(ks.2.length+1)+1:=by lia
  rw[O]at h;split
  .rename_i f;rw[Xf f]at h;exact Xl h
  .rename_i f;rw[Xc f]at h;exact Xa (wpAny_rule<|Xl h)
def ZlX{y:List K×List K}{b:Addr}{P:Fin->Shared->Prop}(T:A.units+1<cLine)(z:YI knd s.heap x a)(l:YI knd s.heap y b)(h:P (.done<|.ret<|.bool<|decide (x=y)) s):
 wpAny (model prog w) A (Builtin.«tuple.__eq__» ⟨[.ref a,.ref b],[]⟩) P H2 s:=by
 have j:=l.typeIs;obtain⟨N,S,p,q,W,_,Y,g,d⟩:=z;obtain⟨M,Q,t,k,R,_,X,c,Z⟩:=l;show wpAny _ _ (isInstance (.ref b) (.type "tuple") >>= _) _ _ s;refine Xa (wpAny_isInstance j isSubtype_tuple_tuple ?_);refine Xa (wpAny_tupleItemsOf W Y ?_);refine Xa (wpAny_tupleItemsOf R X ?_);refine Xa ?_
 have o:decide (x=y)=(decide (x.1=y.1)&&decide (x.2=y.2)):=by
  obtain⟨I,H⟩:=x;obtain⟨G,F⟩:=y;simp
 refine wpAny_forIn_list _
  (λrest r O=>r.1=none/\O=s/\((rest=[(.ref p,.ref t),(.ref q,.ref k)])\/(rest=[(.ref q,.ref k)]/\x.1=y.1)\/(rest=[]/\x=y)))
  _ ?_ ?_ _ _ ⟨rfl,rfl,.inl rfl⟩
 .rintro⟨u,v⟩ rest r O ⟨n,rfl,(f|⟨f,E⟩|⟨f,_⟩)⟩
  .injection f with D C;injection D with B m;subst C B m;refine Xa (wpAny_eqBool_tuple (by lia) g c ?_)
   by_cases i:x.1=y.1
   .rw[XJ i];simp only[ if_false];exact Xl ⟨rfl,rfl,.inr<|.inl ⟨trivial,i⟩⟩
   .rw[Xo i];rw[o,Xo i]at h;exact Xa (Xl<|Xl<|Xl h)
  .injection f with D C;injection D with B m;subst C B m;refine Xa (wpAny_eqBool_tuple (by lia) d Z ?_)
   by_cases i:x.2=y.2
   .rw[XJ i];simp only[ if_false];exact Xl ⟨rfl,rfl,.inr<|.inr ⟨trivial,Prod.ext E i⟩⟩
   .rw[Xo i];rw[o,Xo i,Bool.and_false]at h;exact Xa (Xl<|Xl<|Xl h)
  .cases f
 .rintro⟨L,J⟩ O ⟨n,rfl,(f|⟨f,_⟩|⟨_,e⟩)⟩
  .cases f
  .cases f
  subst n;refine Xl ?_;rw[XJ e]at h;exact h
def ZgY{y:List K×List K}{b:Addr}(p:A.units+5<cLine)(i:YI knd s.heap x a)(m:YI knd s.heap y b)(h:Q (decide (x=y)) s):
 wpAny (model prog w) A (eqBool (.ref a)<|.ref b) Q H2 s:=by
 unfold eqBool;try with_reducible refine wpAny_holding ?_
 by_cases f:(Value.ref a==Value.ref b)=true
 .rw[Xf f];have e:=by have:=eq_of_beq f;injection this
  subst e;cases i.inj m;exact Xa (wpAny_rule<|Xl<|by simpa using h)
 .rw[Xc f];exact Xa (wpAny_richCompare_same_room i.typeIs m.typeIs F.slot_tuple_eq
   (wpAny_call_entry F.slot_tuple_eq i.typeIs F.entry_tuple_eq (ZlX (by simp;lia) i m ⟨_,rfl,(by rintro⟨⟩),wpAny_truthy_bool h⟩)<|F.args_tuple_eq_2 _ _) (by lia))
def ZnF(n:Nat)(B:IsTupleKey knd s.heap ks a)(h:Q true s):wpAny (model prog w) A (eqIsQuiet (n+1)<|.ref a) Q H2 s:=by
 have C:=B.typeIs;obtain⟨o,p,m,D,_,O,K⟩:=B;unfold eqIsQuiet;refine Xa (wpAny_specialOf C F.slot_tuple_eq.lookup ?_);refine Xa (wpAny_isInstance C isSubtype_tuple_tuple ?_);refine Xa (wpAny_seqItems D O ?_);refine Xa ?_;rw[<- Array.forIn_toList];refine wpAny_forIn_list _ (λrest r i=>r.1=none/\i=s/\∀v∈rest,carriedByValue v=true) _ ?_ ?_ _ _ ⟨rfl,rfl,K.byValue⟩
 .rintro v rest r i ⟨y,rfl,f⟩;rw[eqIsQuiet_byValue _<|f v Xb];exact Xl ⟨rfl,rfl,λu q=>f u<|Xg _ q⟩
 .rintro⟨R,P⟩ i ⟨y,rfl,_⟩;subst y;exact Xl h
def ZfC(D:YI knd s.heap ks a)(h:Q true s):wpAny (model prog w) A (eqIsQuiet 8<|.ref a) Q H2 s:=by
 have K:=D.typeIs;obtain⟨o,n,p,q,P,_,R,X,W⟩:=D;unfold eqIsQuiet;refine Xa (wpAny_specialOf K F.slot_tuple_eq.lookup ?_);refine Xa (wpAny_isInstance K isSubtype_tuple_tuple ?_);refine Xa (wpAny_seqItems P R ?_);refine Xa ?_;rw[<- Array.forIn_toList];refine wpAny_forIn_list _ (λrest r m=>r.1=none/\m=s/\∀v∈rest,∃z B,v=.ref z/\IsTupleKey knd s.heap B z) _ ?_ ?_ _ _ ⟨rfl,rfl,λv i=>?_⟩
 .rintro v rest r m ⟨C,rfl,f⟩;obtain⟨z,B,rfl,O⟩:=f v Xb;refine Xa (ZnF 6 O ?_);exact Xl ⟨rfl,rfl,λu y=>f u<|Xg _ y⟩
 .rintro⟨Z,Y⟩ m ⟨C,rfl,_⟩;subst C;exact Xl h
 .rcases Xe.mp i with rfl|i
  .exact⟨p,_,rfl,X⟩
  .rcases Xe.mp i with rfl|i
   .exact⟨q,_,rfl,W⟩
   .cases i
end
def Ny{prog:Program}{w:World}{K:Type}[DecidableEq K](a:KeyKind prog w K):HeapKind prog w (List K×List K) where
 is:=YI a
 hash:=ND a
 draws:=λq=>q.1.length+q.2.length+3
 room:=λA=>A.units+5<cLine
 inj:=λi f=>i.inj f
 keeps:=λx s hd r=>x.keeps s hd r
 pyHash:=λm p h=>Zhb m p h
 eqBool:=λm i f h=>ZgY m i f h
 quiet:=λp h=>ZfC p h
section
variable {K:Type} [DecidableEq K] {knd:HeapKind prog w K}
def Zeq{d:Addr}{xs:List (K×Addr×Value)}{k:K}{h:Value}{Q:Qb}(D:knd.room A)(f:knd.is s.heap k a)(R:s.heap.DictOfH knd d xs)
(i:∀p,atKey xs k=some p->Q p.2 { s with toks:=s.toks+knd.draws k })
(v:atKey xs k=none->∀h',h'.DictOfH knd d (xs++[(k,a,h)])->Heap.SameBut d s.heap h'->Q h { s with heap:=h',toks:=s.toks+knd.draws k })
(hsz:xs.length<=sizeLine):
 wpAny (model prog w) A (dictSetDefault d (.ref a) h) Q H2 s:=by
 obtain⟨o,es,X,r,W,m,B,y,C⟩:=R;unfold dictSetDefault;try with_reducible refine wpAny_holding ?_;refine Xa (knd.pyHash D f ?_);refine Xa (wpAny_dictFind_heap D f r m B y C ?_ ?_)
 .intro u;have O:=not_mem_keys_of_get u;refine Xa (wpAny_rule (Xa (wpAny_updateDictKeys (hz:=by have e:=size_of_entries B;lia) r m (Xl (v (atKey_none_of_get u) _ ⟨_,_,X+1,JV _ r<|Obj.isFreed_of_dict<|Obj.data_mapDictKeys m _,
   W.mapDictKeys _,Obj.data_mapDictKeys m _,?_,?_,?_⟩<|Heap.SameBut.update ..)))))
  .simp[B,entryOfKey]
  .intro x q;rcases XA.mp q with q|q
   .exact knd.keeps (y x q) r m (Heap.SameBut.update ..)
   .simp only[Xt]at q;subst q;exact knd.keeps f r m (Heap.SameBut.update ..)
  .rw[XB,G4];refine⟨C,by simp,?_⟩
   grind
 .intro j p P;refine Xa (wpAny_dictEntries r m ?_);rw[entry_at B j,P];exact Xa (wpAny_rule<|Xl<|i _<|atKey_of_get C P)
def ZeT(knd:HeapKind prog w K)(d a:Addr)(B:(d==sysModules)=false)(f:Value):
 MeetsIn prog w (Builtin.«dict.setdefault» ⟨[.ref d,.ref a,f],[]⟩) (λA H0 s=>knd.room A.in1/\∃k xs,knd.is s.heap k a/\s.heap.DictOfH knd d xs/\xs.length<=sizeLine/\
  (∀p,atKey xs k=some p->H0 (.ok<|.ret p.2) { s with toks:=s.toks+knd.draws k })/\
  (atKey xs k=none->∀h',h'.DictOfH knd d (xs++[(k,a,f)])->Heap.SameBut d s.heap h'->H0 (.ok<|.ret f) { s with heap:=h',toks:=s.toks+knd.draws k })):=
 .of_wp λA H0 s ⟨u,k,xs,h,q,r,D,C⟩=>by
  refine Xa ?_;refine Xa (wpAny_notOrdered_dict q.typeIs ?_);refine Xl ?_;show wpAny _ _ (if _=true then _ else _) _ _ s;rw[Xc<|by rw[B];exact Xs];exact Xa (Zeq u h q (λp v=>Xl ⟨p.2,rfl,D p v⟩) (λy h' m i=>Xl ⟨f,rfl,C y h' m i⟩) r)
end
end PySem
namespace L2
section
variable {κ:Type} [DecidableEq κ]
def ZF(kvs:List (κ×V))(k:κ):Option V:=(kvs.find? λa=>decide (a.1=k)).map (·.2)
def Y0(kvs:List (κ×V))(k:κ)(v:V):List (κ×V):=
 if (kvs.any λa=>decide (a.1=k))=true then kvs.map (λa=>if a.1=k then (a.1,v) else a) else kvs++[(k,v)]
def W5{p:κ×V}{r:List (κ×V)}(e:p.1=k):ZF (p::r) k=some p.2:=by simp[ZF, e]
def W6{p:κ×V}{r:List (κ×V)}(e:¬p.1=k):ZF (p::r) k=ZF r k:=by simp[ZF, e]
theorem Fb(k:κ):∀kvs:List (κ×V),(kvs.any λa=>decide (a.1=k))=(ZF kvs k).isSome
 |[]=>rfl
 |p::r=>by
  rw[Bt];by_cases e:p.1=k
  .simp only[W5 e,XJ e,Bool.true_or,Option.isSome_some]
  .rw[W6 e,Xo e];exact Fb k r
theorem F7(k j:κ)(y:V):∀kvs:List (κ×V),ZF kvs k=none->ZF (kvs++[(k,y)]) j=if j=k then some y else ZF kvs j
 |[],_=>by
  by_cases e:k=j
  .rw[Xf e.symm];exact W5 e
  .rw[Xc λz=>e z.symm];exact W6 e
 |p::r,a=>by
  rw[Bz];have f:¬p.1=k:=λz=>by rw[W5 z]at a;cases a
  rw[W6 f]at a;have h:=F7 k j y r a
  by_cases e:p.1=j
  .rw[W5 e,W5 e,Xc λz=>f<|e.trans z]
  .rw[W6 e,W6 e,h]
def CG(kvs:List (κ×V))(k:κ)(v:V):(Y0 kvs k v).length<=kvs.length+1:=by
 unfold Y0;split
 .simp_all
 .simp_all
def Vy.isSome_eq{u:Qf}(r:Vy o u):o.isSome=u.isSome:=by
 cases o with
 |none=>cases u with
  |none=>rfl
  |some _=>exact(r).elim
 |some _=>cases u with
  |none=>exact(r).elim
  |some _=>rfl
def Vy.getD{u:Qf}(r:Vy o u)(a:QP d d'):QP (o.getD d) (u.getD d'):=by
 cases o with
 |none=>cases u with
  |none=>exact a
  |some _=>exact(r).elim
 |some _=>cases u with
  |none=>exact(r).elim
  |some _=>exact r
def KV.val(r:KV kvs vs)(k:κ):Vy (ZF kvs k) (valueAt vs k):=by
 induction r with
 |nil=>exact True.intro
 |@cons p q ps a h t m=>
  obtain⟨i,s⟩:=h
  by_cases e:p.1=k
  .have f:=i.symm.trans e;have b:valueAt (q::a) k=some q.2:=by simp[valueAt, f]
   rw[W5 e,b];exact s
  .have f:¬q.1=k:=λz=>e (i.trans z)
   have b:valueAt (q::a) k=valueAt a k:=by simp[valueAt, f]
   rw[W6 e,b];exact m
def KV.any(r:KV kvs vs)(k:κ):(kvs.any λa=>decide (a.1=k))=vs.any λa=>decide (a.1=k):=by
 induction r with
 |nil=>rfl
 |cons h t f=>rw[Bt,Bt,f,h.1]
def KV.repl(r:KV kvs vs)(k:κ){u:Value}(i:QP y u):
 KV (kvs.map λa=>if a.1=k then (a.1,y) else a) (vs.map λa=>if a.1=k then (a.1,u) else a):=by
 induction r with
 |nil=>exact .nil
 |@cons p q ps v h t m=>
  rw[Xz,Xz];refine .cons ?_ m;obtain⟨f,s⟩:=h
  by_cases e:p.1=k
  .rw[Xf e,Xf<|f.symm.trans e];exact⟨f,i⟩
  .rw[Xc e,Xc λz=>e<|f.trans z];exact⟨f,s⟩
def KV.put(r:KV kvs vs)(k:κ){u:Value}(a:QP y u):KV (Y0 kvs k y) (stored vs k u):=by
 unfold Y0 stored;rw[r.any k];by_cases e:(vs.any λf=>decide (f.1=k))=true
 .rw[Xf e,Xf e];exact r.repl k a
 .rw[Xc e,Xc e];exact Paired.snoc r ⟨rfl,a⟩
def KV.length{kvs:List (κ×V)}{vs:List (κ×Value)}(r:KV kvs vs):kvs.length=vs.length:=Paired.length r
end
def GK{u:Value}(r:QP (kV k) u):(Y8 P w).is k u=true:=by
 cases k with
 |inl i=>obtain⟨t,e⟩:=(r);subst e;exact ZmG P w i t
 |inr x=>obtain⟨t,e⟩:=(r);subst e;exact Zng P w x t
theorem FG{P:Program}{w:World}:∀{a:List Key} {us:Qe},QR (a.map kV) us->ItemsAre (Y8 P w) a us
 |[],_,r=>by rw[UA]at r;cases r;exact .nil
 |k::a,_,r=>by
  cases r with
  |cons h t=>exact .cons (GK h) (FG t)
abbrev KT(H:Hp):List (List Key×V)->List (List Key×Addr×Value)->Prop:=Paired λp q=>p.1=q.1/\H q.2.1=some (.tup<|p.1.map kV)/\QP p.2 q.2.2
def KT.val{xs:List (List Key×Addr×Value)}(r:KT H kvs xs)(k:List Key):Vy (ZF kvs k) ((atKey xs k).map (·.2)):=by
 induction r with
 |nil=>exact True.intro
 |@cons p q ps a h t m=>
  obtain⟨i,_,s⟩:=h
  by_cases e:p.1=k
  .have f:=i.symm.trans e;have b:atKey (q::a) k=some q.2:=by simp[atKey, f]
   rw[W5 e,b];exact s
  .have f:¬q.1=k:=λz=>e (i.trans z)
   have b:atKey (q::a) k=atKey a k:=by simp[atKey, f]
   rw[W6 e,b];exact m
def KT.repl{xs:List (List Key×Addr×Value)}(r:KT H kvs xs)(k:List Key){u:Value}(m:QP y u):
 KT H (kvs.map λf=>if f.1=k then (f.1,y) else f) (xs.map<|putAt k u):=by
 induction r with
 |nil=>exact .nil
 |@cons p q ps w h t s=>
  rw[Xz];refine .cons ?_ s;obtain⟨a,i,v⟩:=h;unfold putAt;by_cases e:p.1=k
  .rw[Xf e,Xf<|a.symm.trans e];exact⟨a,i,m⟩
  .rw[Xc e,Xc λz=>e<|a.trans z];exact⟨a,i,v⟩
def KT.put{xs:List (List Key×Addr×Value)}(r:KT H kvs xs)(k:List Key){b:Addr}{u:Value}(h:H b=some (.tup<|k.map kV))(a:QP y u):
 KT H (Y0 kvs k y) (storedH xs k b u):=by
 have e:(kvs.any λf=>decide (f.1=k))=(atKey xs k).isSome:=by
  rw[Fb,(r.val k).isSome_eq,U6]
 unfold Y0 storedH;rw[e];by_cases q:(atKey xs k).isSome=true
 .rw[Xf q,Xf q];exact r.repl k a
 .rw[Xc q,Xc q];exact Paired.snoc r ⟨rfl,h,a⟩
def KT.keeps{xs:List (List Key×Addr×Value)}(r:KT H kvs xs)(a:∀b ys,H b=some (.tup ys)->M b=some (.tup ys)):KT M kvs xs:=
 Paired.mapP r λ_ _ z=>⟨z.1,a _ _ z.2.1,z.2.2⟩
section
variable {H:Hp}
def Pp{u:HO}(f:HOk P w H h)(e:Rd H a u):Vj P w H h a u:=e.ok f
def US(f:HOk P w H h)(e:Rd H a (.dK kvs)):kvs.length<=sizeLine/\(a==sysModules)=false/\∃vs,KV kvs vs/\h.DictOf (Y8 P w) a vs:=
 show Vj P w H h a _ from Pp f e
def Z0y(f:HOk P w H h)(e:H a=some (.dK kvs)):kvs.length<=sizeLine/\(a==sysModules)=false/\∃vs,KV kvs vs/\h.DictOf (Y8 P w) a vs:=US f (.inl e)
def Jm(i:HOk P w H h)(e:H a=some (.tup<|ks.map kV)):(tupleKind<|Y8 P w).is h ks a:=by
 obtain⟨_,f,r,o,q,p,n,m⟩:=(i a _ e)
 exact⟨o,f.toArray,n,q,p,m,by simpa using FG r⟩
def UR(s:HOk P w H h)(e:Rd H a (.dT kvs)):kvs.length<=sizeLine/\(a==sysModules)=false/\
 ∃xs,KT H kvs xs/\h.DictOfH (tupleKind<|Y8 P w) a xs:=by
 obtain⟨z,y,xs,r,o,es,O,K,D,C,B,A⟩:=(Pp s e);refine⟨z,y,xs,r,o,es,O,K,D,C,B,λx f=>?_,A⟩;have i:∀{l:List _} {m:List _},KT H l m->∀x∈m,(tupleKind<|Y8 P w).is h x.1 x.2.1:=by
  intro l m q;induction q with
  |nil=>intro x f;exact nomatch f
  |@cons p q ps R u t v=>
   intro x f;rcases Xe.mp f with e|f
   .subst e;exact Jm s (by rw[<- u.1];exact u.2.1)
   .exact v x f
 exact i r x f
def Kp(f:HOk P w H h)(e:H a=some (.dT kvs)):kvs.length<=sizeLine/\(a==sysModules)=false/\
 ∃xs,KT H kvs xs/\h.DictOfH (tupleKind<|Y8 P w) a xs:=UR f (.inl e)
end
def VG(H:Hp)(a:Addr)(y:V)(r:Option V):Prop:=
 (∃f k,Rd H a (.dK f)/\y=kV k/\r=ZF f k)\/∃f k b,Rd H a (.dT f)/\y=.ref b/\H b=some (.tup<|k.map kV)/\r=ZF f k
def Ub(H:Hp)(a:Addr)(y v:V)(M:Hp):Prop:=
 (∃f k,H a=some (.dK f)/\y=kV k/\f.length<sizeLine/\M=upd H a (.dK<|Y0 f k v)) \/
 ∃f k b,H a=some (.dT f)/\y=.ref b/\H b=some (.tup<|k.map kV)/\f.length<sizeLine/\M=upd H a (.dT<|Y0 f k v)
def VG.zk{H:Hp}{kvs:List (Key×V)}{k:Key}(e:H a=some (.dK kvs)):VG H a (kV k) (ZF kvs k):=.inl ⟨kvs,k,.inl e,rfl,rfl⟩
def VG.t{b:Addr}{kvs:List (List Key×V)}{k:List Key}(e:H a=some (.dT kvs))(f:H b=some (.tup<|k.map kV)):VG H a (.ref b) (ZF kvs k):=.inr ⟨kvs,k,b,.inl e,rfl,f,rfl⟩
def Ub.k{H:Hp}{kvs:List (Key×V)}{k:Key}(e:H a=some (.dK kvs))(f:kvs.length<sizeLine):Ub H a (kV k) v (upd H a<|.dK<|Y0 kvs k v):=.inl ⟨kvs,k,e,rfl,f,rfl⟩
def Ub.t{b:Addr}{kvs:List (List Key×V)}{k:List Key}(e:H a=some (.dT kvs))(h:H b=some (.tup<|k.map kV))(f:kvs.length<sizeLine):
 Ub H a (.ref b) v (upd H a<|.dT<|Y0 kvs k v):=.inr ⟨kvs,k,b,e,rfl,h,f,rfl⟩
section
variable {H:Hp}{u:Value}{o:Option V}
def Qt.big(I:Qt X Z O H s):sysModules<s.heap.objs.size:=by
 have h:=(I.mod.glob.keeps I.bk).lt;exact Nat.lt_trans (by decide) h
def ZqY(D:A.units+1<cLine)(I:Qt X Z O H s)(g:VG H a y (some v))(C:QP y u)(h:∀m B,Qt X Z O H B->QP v m->Q m B):
 wpAny (model X.prog X.w) A (getItem (.ref a) u) Q H2 s:=by
 rcases g with ⟨o,k,e,w,l⟩|⟨o,k,b,e,w,R,l⟩
 .subst w;obtain⟨z,P,W,i,dd⟩:=US I.hok e;obtain⟨m,q,f⟩:=Vy.some_of (by rw[l];exact i.val k);exact wpAny_getItem_of (GK C) dd.mapOf q (h m _ (I.tok _) f)
 .subst w;cases (C);obtain⟨z,P,xs,i,dd⟩:=UR I.hok e;obtain⟨m,q,f⟩:=Vy.some_of (by rw[l];exact i.val k);obtain⟨p,K,r⟩:=Option.map_eq_some_iff.mp q;refine wpAny_getItem_heap (tupleKind_room_in1 D) (Jm I.hok R) dd K ?_;rw[r];exact h m _ (I.tok _) f
def Z1q(w:A.units+1<cLine)(I:Qt X Z O H s)(g:VG H a y o)(v:QP y u)(h:∀r,Qt X Z O H r->Q (.bool o.isSome) r):
 wpAny (model X.prog X.w) A (compareOp .In u<|.ref a) Q H2 s:=by
 rcases g with ⟨i,k,e,p,l⟩|⟨i,k,b,e,p,B,l⟩
 .subst p;obtain⟨z,m,C,f,dd⟩:=US I.hok e;refine wpAny_in_of (GK v) m dd.mapOf ?_;rw[<- (f.val k).isSome_eq,<- l];exact h _ (I.tok _)
 .subst p;cases (v);obtain⟨z,m,xs,f,dd⟩:=UR I.hok e;refine wpAny_in_heap (tupleKind_room_in1 w) (Jm I.hok B) m dd ?_;have q:=(f.val k).isSome_eq;rw[U6]at q;rw[<- q,<- l];exact h _ (I.tok _)
def Iv(w:A.units+1<cLine)(I:Qt X Z O H s)(g:VG H a y o)(v:QP y u)(h:∀r,Qt X Z O H r->Q (.bool<|!o.isSome) r):
 wpAny (model X.prog X.w) A (compareOp .NotIn u<|.ref a) Q H2 s:=by
 rcases g with ⟨i,k,e,p,l⟩|⟨i,k,b,e,p,B,l⟩
 .subst p;obtain⟨z,m,C,f,dd⟩:=US I.hok e;refine wpAny_notIn_of (GK v) m dd.mapOf ?_;rw[<- (f.val k).isSome_eq,<- l];exact h _ (I.tok _)
 .subst p;cases (v);obtain⟨z,m,xs,f,dd⟩:=UR I.hok e;refine wpAny_notIn_heap (tupleKind_room_in1 w) (Jm I.hok B) m dd ?_;have q:=(f.val k).isSome_eq;rw[U6]at q;rw[<- q,<- l];exact h _ (I.tok _)
def Mr(I:Qt X Z O H s)(h:Mut (H a))(i:Heap.SameBut a s.heap h')(m:∃q,h'.get? a=some q)(f:Vj X.prog X.w (upd H a ob) h' a ob):
 Qt X Z O (upd H a ob) { s with heap:=h',toks:=t' }:=
 I.write h (.inl rfl) (λb q o z=>(i.2 b o).trans z) m f
def Es(z:kvs.length<=sizeLine)(h:(a==sysModules)=false)(f:KV kvs vs)(dd:h'.DictOf (Y8 P w) a vs):
 Vj P w M h' a (.dK kvs):=⟨z,h,vs,f,dd⟩
def Zsi(n:A.units+1<cLine)(I:Qt X Z O H s)(g:Ub H a y v M)(P:QP y u)(R:QP v r)(h:∀K,Qt X Z O M K->Q () K):
 wpAny (model X.prog X.w) A (setItem (.ref a) u r) Q H2 s:=by
 rcases g with ⟨i,k,e,C,l,D⟩|⟨i,k,b,e,C,Y,l,D⟩
 .subst C D;obtain⟨z,B,d,f,dd⟩:=Z0y I.hok e;have j:d.length<=sizeLine:=by rw[<- f.length];exact z
  have w:(Y0 i k v).length<=sizeLine:=by have:=CG i k v;lia
  refine wpAny_setItem_pairs (GK P) dd λh' m p=>h _ ?_;have t:∃q,h'.get? a=some q:=let ⟨q,_,_,o,_⟩:=m;⟨q,o⟩;exact Mr I (by rw[e];exact True.intro) p t (Es w B (f.put k R) m)
 .subst C D;cases (P);obtain⟨z,B,xs,f,dd⟩:=Kp I.hok e;have j:xs.length<=sizeLine:=by rw[<- Paired.length f];exact z
  have w:(Y0 i k v).length<=sizeLine:=by have:=CG i k v;lia
  refine wpAny_setItem_heap (tupleKind_room_in1 n) (Jm I.hok Y) dd λh' m p=>h _ ?_;obtain⟨q,es,J,o,G,F,E,_,x⟩:=m;refine Mr I (by rw[e];exact True.intro) p ⟨q,o⟩ ⟨w,B,_,(f.put k Y R).keeps λc ys W=>?_,q,es,J,o,G,F,E,x⟩;rw[Q6<|P2 W e λz=>nomatch z];exact W
end
def SW(i:Expr):Prop := ∀a f,subscripted i false a f=operate [a,f] (getItem a f)
def Lf{m:Env}{f a:Expr}{u:Pos}{T C:String}{Q:Qb}
(K:typeLookup (.type T) "__getitem__"=pure (some<|.builtin C))(D:SW a)
(h:wpAny (model prog w) A (eval f m) (λo B=>wpAny (model prog w) A (eval a m) (λi q=>q.TypeIs o T/\wpAny (model prog w) A (getItem o i) Q H2 q) H2 B) H2 s):
 wpAny (model prog w) A (eval (.Subscript f a u) m) Q H2 s:=by
 refine Subscript_ (wpAny_mono h (λo B R=>wpAny_mono R (λi q v=>?_) λ_ _ x=>x) λ_ _ x=>x);obtain⟨O,v⟩:=v;refine Xa ?_;refine Xa (wpAny_specialOf O K ?_);have p:wpAny (model prog w) A (subscripted a false o i) (λr y=>wpAny (model prog w) A (letTemporaryGo f o r >>= λ_=>pure r) Q H2 y) H2 q:=by
  rw[D o i];exact wpAny_operating (wpAny_mono v (λr y P=>Xa<|wpAny_letTemporaryGo<|Xl P) λ_ _ x=>x)
 first
  |exact Xl (Xa p)
  |exact Xa _
  |exact Xa p
def ZmI  {H:Hp}  {o:Option V}(I:Qt X Z O H s)(g:VG H a y o):s.TypeIs (.ref a) "dict" := by
 rcases g with ⟨f,k,e,_,_⟩|⟨f,k,b,e,_,_,_⟩
 .obtain⟨_,_,h,_,dd⟩:=US I.hok e;exact dd.typeIs
 .obtain⟨_,_,xs,_,dd⟩:=UR I.hok e;exact dd.typeIs
def Kq(td f:TE):TE:=λO H Q=>td O H λx L=>f O L λy E=>∃a v,x=.ref a/\VG E a y (some v)/\Q v E
def SX(f td:TE):TE:=λO H Q=>f O H λy L=>td O L λx E=>∃a o,x=.ref a/\VG E a y o/\Q (.bl o.isSome) E
def Ly(f td:TE):TE:=λO H Q=>f O H λy L=>td O L λx E=>∃a o,x=.ref a/\VG E a y o/\Q (.bl<|!o.isSome) E
def K0(td h tv:TE):TS:=λta O H=>tv O H λv L=>td O L λx E=>h O E λy i=>∃a f,x=.ref a/\Ub i a y v f/\ta.nx O f
section
variable {o i value:Expr}{pos:Pos}{ty:TE}
def Nh(B:X.A.units+1<cLine)(D:PE X o td)(K:PE X i ty)(C:SW i):PE X (.Subscript o i pos) (Kq td ty):=by
 intro Z s O H Q I h;refine Lf PySem.F.slot_dict_getitem.lookup C (QE (D Z s O H _ I h) ?_);rintro u p ⟨x,L,W,r,A⟩;refine QE (K Z p O L _ W A) ?_;rintro d c ⟨y,E,m,q,a,v,P,g,w⟩;subst P;obtain rfl:=r;exact⟨ZmI m g,ZqY B m g q λY b R f=>⟨v,E,R,f,w⟩⟩
def TB(w:X.A.units+1<cLine)(B:PE X i ty)(A:PE X o td):PC X .In i o (SX ty td):=by
 intro Z s O H Q I h;refine QE (B Z s O H _ I h) ?_;rintro Y f ⟨y,L,P,m,r⟩;refine QE (A Z f O L _ P r) ?_;rintro u W ⟨x,E,K,p,a,v,C,g,q⟩;subst C;obtain rfl:=p;exact Z1q w K g m λR D=>⟨.bl v.isSome,E,D,rfl,q⟩
def Zs4(v:X.A.units+1<cLine)(A:PE X i ty)(w:PE X o td):PC X .NotIn i o (Ly ty td):=by
 intro Z s O H Q I h;refine QE (A Z s O H _ I h) ?_;rintro Y f ⟨y,L,K,m,r⟩;refine QE (w Z f O L _ K r) ?_;rintro u R ⟨x,E,D,p,a,W,B,g,q⟩;subst B;obtain rfl:=p;exact Iv v D g m λP C=>⟨.bl _,E,C,rfl,q⟩
def Lb(K:X.A.units+1<cLine)(R:PE X o td)(W:PE X i ty)(D:PE X value tv)(P:swapsWith value (some<|.Subscript o i pos') pos.line X.env=pure false):
 PS X (.Assign [.Subscript o i pos'] value pos) (K0 td ty tv):=by
 intro Z s O H ta I h;refine wpAny_Assign_Subscript (QE (D Z s O H _ I h) ?_) P;rintro r m ⟨v,L,e,w,C⟩;refine QE (R Z m O L _ e C) ?_;rintro u f ⟨x,E,d,q,B⟩;refine QE (W Z f O E _ d B) ?_;rintro n l ⟨y,t,c,p,a,j,Y,g,A⟩;subst Y;obtain rfl:=q;exact Zsi K c g p w λk b=>⟨O,j,b,A⟩
end
def OE  (h:Heap)(a:sysModules<h.objs.size):Vj P w H (h.push { cls:=.type "dict",data:=.dict #[] }) h.objs.size (.dK []):=
 ⟨X3 _,beq_eq_false_iff_ne.mpr<|Ne.symm<|Xq a,[],.nil,Heap.DictOf.new h⟩
def LV  (h:Heap)(a:sysModules<h.objs.size):Vj P w H (h.push { cls:=.type "dict",data:=.dict #[] }) h.objs.size (.dT []):=
 ⟨X3 _,beq_eq_false_iff_ne.mpr<|Ne.symm<|Xq a,[],.nil,_,#[],0,XG _ rfl,⟨rfl,rfl,rfl⟩,rfl,rfl,G2⟩
def T6:TE:=λ_ H Q=>∀p,H p=none->Q (.ref p) (upd H p<|.dK [])
def Ed:TE:=λ_ H Q=>∀p,H p=none->Q (.ref p) (upd H p<|.dT [])
section
variable {pos:Pos}
def ZuI:PE X (.Dict [] [] pos) T6:=λZ s O H Q I h=>
 wpAny_Dict_empty ⟨.ref s.heap.objs.size,_,I.laid (λ_ _ q=>Xd _ q) (Xn _)<|OE s.heap I.big,rfl,h _<|I.hok.fresh<|Xn _⟩
def ZtZ:PE X (.Dict [] [] pos) Ed:=λZ s O H Q I h=>
 wpAny_Dict_empty ⟨.ref s.heap.objs.size,_,I.laid (λ_ _ q=>Xd _ q) (Xn _)<|LV s.heap I.big,rfl,h _<|I.hok.fresh<|Xn _⟩
end
structure M2(X:Cx)(o:Expr)(m:Str)(X1:Pos)(e f:Expr)(X2:Pos):Prop where
 base:attributeBase o m X.env (eval o X.env)=eval o X.env
 few:((backTo X2<|starEach [e,f] X.env).all (λx => !x.1)&&(backToKw X2<|keywordEach [] X.env).all (λx=>x.1.isSome)
  && decide (([e,f]:Qi).length+([]:List Keyword).length+(if ([]:List Keyword).isEmpty then 0 else 1)<30))=true
 line:(X1.endLine==X2.line)=true
 trees:backTo X2 (starEach [e,f] X.env)=[(false,eval e X.env),(false,eval f X.env)]
def IsD(H:Hp)(a:Addr):Prop:=(∃f,Rd H a<|.dK f)\/∃f,Rd H a (.dT f)
def T3{H:Hp}(I:Qt X Z O H s)(d:IsD H a):
 s.TypeIs (.ref a) "dict" /\ (∀b,Value.ref a=.ref b->∃f,s.heap.get? b=some f/\f.dict=none)/\(a==sysModules)=false:=by
 rcases d with ⟨h,e⟩|⟨h,e⟩
 .obtain⟨_,i,r,_,dd⟩:=US I.hok e;refine⟨dd.typeIs,λb q=>?_,i⟩;cases q;obtain⟨f,_,_,p,m,_⟩:=dd;exact⟨f,p,m.2.1⟩
 .obtain⟨_,i,xs,_,dd⟩:=UR I.hok e;refine⟨dd.typeIs,λb q=>?_,i⟩;cases q;obtain⟨f,_,_,p,m,_⟩:=dd;exact⟨f,p,m.2.1⟩
section
variable {H:Hp}{d:V}{u:Value}{o:Option V}
def AU(C:A.units+1<cLine)(I:Qt X Z O H s)(g:VG H a y o)(w:QP y u)(B:QP d r)(h:∀q v,Qt X Z O H v->QP (o.getD d) q->Q q v):
 wpAny (model X.prog X.w) A (call (.builtin "dict.get") [.ref a,u,r]) Q H2 s:=by
 rcases g with ⟨i,k,e,p,l⟩|⟨i,k,b,e,p,D,l⟩
 .subst p;obtain⟨z,m,K,f,dd⟩:=US I.hok e;refine call_meetsIn PySem.F.slot_dict_get dd.typeIs PySem.F.entry_dict_get (PySem.F.args_dict_get_3 _ _ _) (meets_dict_get_default _ a (GK w) m r) ⟨_,dd.mapOf,h _ _ (I.tok _) ?_⟩;rw[l];exact(f.val k).getD B
 .subst p;cases (w);obtain⟨z,m,xs,f,dd⟩:=UR I.hok e;refine call_meetsIn PySem.F.slot_dict_get dd.typeIs PySem.F.entry_dict_get (PySem.F.args_dict_get_3 _ _ _) (meetsH_dict_get_default _ a b m r) ⟨tupleKind_room_in1 C,k,xs,Jm I.hok D,dd,h _ _ (I.tok _) ?_⟩;rw[l];exact(f.val k).getD B
end
def T7(td h tx:TE):TE:=λO H Q=>td O H λx L=>∃a,x=.ref a/\IsD L a/\h O L λy E=>tx O E λz f=>∃o,VG f a y o/\Q (o.getD z) f
section
variable {o e f:Expr}{ty:TE}
def ZuP(R:X.A.units+1<cLine)(W:PE X o td)(b:PE X e ty)(Y:PE X f tx)(m:M2 X o "get" X1 e f X2):PE X (.Call (.Attribute o "get" X1) [e,f] [] X2) (T7 td ty tx):=by
 intro Z s O H Q I h;refine wpAny_Call_method m.base m.few m.line PySem.F.plainAttrs_dict PySem.F.slot_dict_get PySem.F.type_dict_get (QE (W Z s O H _ I h) ?_);rintro u w ⟨x,L,p,C,a,c,d,P⟩;subst c;obtain rfl:=C;obtain⟨r,q,_⟩:=T3 p d;refine⟨r,q,?_⟩;rw[m.trees];refine Calls.callWith_builtin rfl (Calls.evalArgs_plain (Calls.spliced_cons (QE (b Z w O L _ p P) λM v ⟨y,E,l,B,K⟩=>
  Calls.spliced_cons (QE (Y Z v O E _ l K) λN G ⟨z,n,k,A,J,g,D⟩=>Calls.spliced_nil ?_))))
 exact AU R k g B A λt F j i=>⟨_,n,j,i,D⟩
end
end L2
namespace L2
def QQ.writeOwn(s:QQ K R F Y O H)(e:zg Y i<|zo v Φ):
 O[i]?=some (some v)/\∃p,Φ.ok K F H v p/\(∀a∈p,R a=none/\F a=none/\H a≠none)/\
  ∀(M:Hp) (Φ':OwnP) (p':Qg),QI F M->(∀b,b∉p->H b≠none->M b=H b)->(∀b,H b≠none->M b≠none)->Φ'.ok K F M v p'->(∀a∈p',a∈p\/(H a=none/\R a=none))->
   QQ K R F (Y.set i<|zo v Φ') O M:=by
 obtain⟨u,p,A,⟨rfl,r⟩,y,k⟩:=s.chg e;exact⟨A,p,r,y,λM Φ' p' q w _ m f=>(k F M (.own _ Φ') p' (QI.refl _) q w (λb h=>.inl h) ⟨rfl,m⟩ f).1⟩
end L2
namespace L2
def BH:Key->PyData
 |.inl i=>.int i
 |.inr x=>.str x
def Zj(k:List Key):PyData:=.tuple (k.map BH)
def NQ(r:Rep F y (BH k)):y=kV k:=by
 cases k with
 |inl i=>cases r;rfl
 |inr x=>cases r;rfl
theorem FK{F:Hp}:∀{ys:List V} {k:List Key},Q1 F ys (k.map BH)->ys=k.map kV
 |_,[],.nil=>rfl
 |_,k::f,.cons r a=>by rw[NQ r,FK a];rfl
def Js(r:Rep F y (Zj k)):∃b,y=.ref b/\F b=some (.tup<|k.map kV):=by
 cases r with
 |tup h a=>exact⟨_,rfl,by rw[h,FK a]⟩
abbrev Yk:=List (List Key×PyData)
def YB(kvs:Yk)(k:List Key):Option PyData:=(kvs.find? λa=>decide (a.1=k)).map (·.2)
def BC(kvs:Yk)(k:List Key)(d:PyData):Yk:=if (kvs.any λa=>decide (a.1=k))=true then kvs.map (λa=>if a.1=k then (a.1,d) else a) else kvs++[(k,d)]
inductive PairD(F:Hp):List (List Key×V)->Yk->Prop
 |nil:PairD F [] []
 |cons {k:List Key}{x:V}{d:PyData}{xs:List (List Key×V)}{kvs:Yk}:Rep F x d->PairD F xs kvs->PairD F ((k,x)::xs) ((k,d)::kvs)
theorem PairD.mono{F a:Hp}(s:QI F a):∀{xs:List (List Key×V)} {kvs:Yk},PairD F xs kvs->PairD a xs kvs
 |_,_,.nil=>.nil
 |_,_,.cons r t=>.cons (r.mono s) (t.mono s)
theorem PairD.length{F:Hp}:∀{xs:List (List Key×V)} {kvs:Yk},PairD F xs kvs->xs.length=kvs.length
 |_,_,.nil=>rfl
 |_,_,.cons _ t=>by simp[t.length]
theorem PairD.val{F:Hp}(k:List Key):∀{xs:List (List Key×V)} {kvs:Yk},PairD F xs kvs->(ZF xs k=none/\YB kvs k=none)\/∃x d,ZF xs k=some x/\YB kvs k=some d/\Rep F x d
 |_,_,.nil=>.inl ⟨rfl,rfl⟩
 |_,_,.cons (k:=k') (x:=x) (d:=d) (kvs:=kvs) r t=>by
  by_cases e:k'=k
  .exact .inr ⟨x,d,W5 e,by simp[YB, e],r⟩
  .have q:YB ((k',d)::kvs) k=YB kvs k:=by simp[YB, e]
   rw[W6 e,q];exact t.val k
theorem PairD.any{F:Hp}(k:List Key):∀{xs:List (List Key×V)} {kvs:Yk},PairD F xs kvs->(xs.any λa=>decide (a.1=k))=(kvs.any λa=>decide (a.1=k))
 |_,_,.nil=>rfl
 |_,_,.cons _ t=>by simp[t.any k]
theorem PairD.mapP{F:Hp}(k:List Key){y:V}{d:PyData}(r:Rep F y d):∀{xs:List (List Key×V)} {kvs:Yk},PairD F xs kvs->PairD F (xs.map λa=>if a.1=k then (a.1,y) else a) (kvs.map λa=>if a.1=k then (a.1,d) else a)
 |_,_,.nil=>.nil
 |_,_,.cons (k:=k') f t=>by
  rw[Xz,Xz];by_cases e:k'=k
  .simp only[e];exact .cons r (t.mapP k r)
  .simp only[e];exact .cons f (t.mapP k r)
theorem PairD.snoc{F:Hp}(k:List Key){y:V}{d:PyData}(r:Rep F y d):∀{xs:List (List Key×V)} {kvs:Yk},PairD F xs kvs->PairD F (xs++[(k,y)]) (kvs++[(k,d)])
 |_,_,.nil=>.cons r .nil
 |_,_,.cons a t=>.cons a (t.snoc k r)
def PairD.put(k:List Key)(r:Rep F y d){xs:List (List Key×V)}(t:PairD F xs kvs):PairD F (Y0 xs k y) (BC kvs k d):=by
 unfold Y0 BC;rw[t.any k];split
 .exact t.mapP k r
 .exact t.snoc k r
def VW(kvs:Yk):OwnP where
 ok K F H v p := ∃a xs,v=.ref a/\p=[a]/\F a=none/\H a=some (.dT xs)/\PairD F xs kvs
 there:=by
  rintro K F H v p ⟨a,xs,rfl,rfl,i,f,h⟩ b r;cases Xt.mp r;exact⟨i,Yy f⟩
 mono:=by
  rintro K F y H M v p s w u ⟨a,xs,rfl,rfl,i,f,h⟩;exact⟨a,xs,rfl,rfl,w a Xb,by rw[u a Xb];exact f,h.mono s⟩
 uniq:=by
  rintro K F H v p q ⟨a,xs,rfl,rfl,_⟩ ⟨b,ys,e,rfl,_⟩ c m;cases e;exact m
section
variable {ty:TE}{kvs:Yk}{k:List Key}{d:PyData}
def QQ.dct(S:QQ K R F Y O H)(e:zg Y i<|zo v<|VW kvs):
 ∃a xs,v=.ref a/\O[i]?=some (some<|.ref a)/\F a=none/\R a=none/\H a=some (.dT xs)/\PairD F xs kvs:=by
 obtain⟨m,p,⟨a,xs,rfl,rfl,k,h,f⟩,d,_⟩:=S.writeOwn e;exact⟨a,xs,rfl,m,k,(d a Xb).1,h,f⟩
def Rz{xs:List (List Key×V)}(t:PairD F xs kvs):(ZF xs k).isSome=(YB kvs k).isSome:=by
 rcases t.val k with ⟨d,a⟩|⟨x,f,d,a,_⟩<;>rw[d,a]<;>rfl
def Iz(h:Qr K ty Y (Zj k))(e:zg Y i<|zo v<|VW kvs):Qr K (SX ty<|QY i) Y (.bool (YB kvs k).isSome):=λR F O H Q S q=>
 h R F O H _ S λu L y d f=>by
  obtain⟨a,xs,rfl,s,_,_,r,p⟩:=(S.ext d).dct e;obtain⟨b,rfl,m⟩:=Js f;exact⟨_,s,a,_,rfl,VG.t r<|d.fh _ _ m,q u L _ d<|by rw[Rz p];exact .bl _⟩
def Zpl(h:Qr K ty Y (Zj k))(e:zg Y i<|zo v<|VW kvs):Qr K (Ly ty<|QY i) Y (.bool<|!(YB kvs k).isSome):=λR F O H Q S q=>
 h R F O H _ S λu L y d f=>by
  obtain⟨a,xs,rfl,s,_,_,r,p⟩:=(S.ext d).dct e;obtain⟨b,rfl,m⟩:=Js f;exact⟨_,s,a,_,rfl,VG.t r<|d.fh _ _ m,q u L _ d<|by rw[Rz p];exact .bl _⟩
def OH(e:zg Y i<|zo v<|VW kvs)(j:Qr K tv Y d)(g:Qr K ty Y (Zj k))(hz:kvs.length<sizeLine)(hn:ta.nx (Y.set i<|zo v<|VW<|BC kvs k d)):QC K (K0 (QY i) ty tv) Y ta:=λT R F O H H2 x S C=>
 j R F O H _ S λJ L u m X=>by
  obtain⟨a,xs,rfl,t,_⟩:=(S.ext m).dct e;refine⟨_,t,g R J O L _ (S.ext m) λI E y h W=>?_⟩;have A:=S.ext (m.trans h);obtain⟨Q,P,s,_,r,o,n,D⟩:=A.dct e;cases s;obtain⟨b,rfl,l⟩:=Js W;refine⟨a,_,rfl,Ub.t n (h.fh _ _ l)<|by rw[D.length];exact hz,?_⟩;obtain⟨_,p,Z,M,w⟩:=A.writeOwn e;obtain⟨G,B,s,rfl,_,N,_⟩:=Z;cases s;refine C.nx I O _ _ ((x.trans<|m.trans h).wr o r) (w _ (VW _) [a] (A.sub.upd r) (λc f _=>Q6 λz=>f<|by rw[z];exact Xb) (λc f=>?_) ⟨a,_,rfl,rfl,r,QT,D.put k<|X.mono h.ff⟩ λc f=>.inl f) hn
  by_cases z:c=a
  .subst z;rw[QT];rintro⟨⟩
  .rw[Q6 z];exact f
def EvX(K:W.Frag)(t:TE)(Y:ZcP)(Φ:OwnP):Prop := ∀(R F:Hp) (O:St) (H:Hp) (Q:VK),QQ K R F Y O H->(∀d M v p,QF F H d M->(∀a∈p,H a=none)->Φ.ok K d M v p->Q v M)->t O H Q
def Li(h:EvX K te Y Φ)(hn:∀v,ta.nx<|Y.set i<|zo v Φ):QC K (Ww te<|WH i) Y ta:=λg R F O H H2 x S C=>
 h R F O H _ S λZ M v p d m u=>by
  refine C.nx Z _ M _ (x.trans d) ((S.ext d).set (t:=.own v Φ) ⟨rfl,u⟩ (λa k=>x.hh.free<|m a k) (hn:=λa k j w s q X W f=>?_)) (hn v);obtain⟨e,B,c,A⟩:=S.fp;obtain⟨b,r,P⟩:=B j s X;intro y;have D:=P.ext d;rw[W]at r;cases r;exact(A j a<|Rq D f a y).2 (m a k)
end
end L2
namespace Mir
theorem FI{g:Qn}{l:Nat}(h:∀c,c<=l->g c=0):∀m,Qx g (l+1+m)=Qx (λj=>g<|l+1+j) m
 |0=>by
  show Qx g _=0;rw[Zk λk a=>h k<|by lia,VS]
 |m+1=>by
  show Qx g (l+1+m)+g _=_;rw[FI h m];rfl
theorem CP(y:Yd)(b own:Qn)(l:Nat):∀m,U4 y b own l m=Qx (λj=>if QU y (l+1+j)=some l then passes y b own (l+1+j) else 0) m
 |0=>rfl
 |m+1=>by simp only[U4,Qx];rw[CP y b own l m]
def GG{y:Yd}(a:y.Ok){c:Nat}(f:c<y.ls.length)(e:QU y c=some l):l<c:=by
 by_cases h:c=0
 .subst h;rw[a.up0]at e;cases e
 .obtain _:=a.ups c (by lia) f;simp_all
def FD{y:Yd}(a:y.Ok)(b own:Qn)(f:l<y.ls.length):VI y b own l=own l+Qx (λc=>if QU y c=some l then passes y b own c else 0) y.ls.length:=by
 rw[OM a,CP];have e:y.ls.length=l+1+(y.ls.length-1-l):=by lia
 have h:=FI (g:=λc=>if QU y c=some l then passes y b own c else 0) (l:=l) (λc i=>Xc λz=>by
  have:=GG a (by lia) z;lia) (y.ls.length-1-l)
 rw[<- e]at h;rw[h]
section
variable {y:Yd}
def LG(a:y.Ok):upL y 0=[0]:=by
 have:=a.l1;rw[Dx a<|by lia,Xf rfl]
end
end Mir
namespace Mir
def ind(p:Prop)[Decidable p]:Int:=if p then 1 else 0
theorem L7{y:Yd}(f:y.Ok)(l:Nat)(A:l<y.ls.length):∀n j,j<n->j<y.ls.length->
 ind (l∈upL y j)=ind (j=l)+Qx (λc=>if QU y c=some l then ind (c∈upL y j) else 0) y.ls.length
 |0,j,h,_=>by lia
 |n+1,j,h,i=>by
  by_cases e:j=l
  .subst e;have z:Qx (λc=>if QU y c=some j then ind (c∈upL y j) else 0) y.ls.length=0:=by
    rw[Zk λc m=>?_,VS]
    by_cases u:QU y c=some j
    .have:=GG f m u;have w:¬c∈upL y j:=λz=>by have:=PZ y j c z;lia
     simp[u,ind,w]
    .simp[u]
   rw[z];simp[ind,NF]
  .by_cases s:j=0
   .subst s;have w:¬l∈upL y 0:=λz=>by rw[LG f]at z;simp at z;exact e z.symm
    have z:Qx (λc=>if QU y c=some l then ind (c∈upL y 0) else 0) y.ls.length=0:=by
     rw[Zk λc m=>?_,VS]
     by_cases u:QU y c=some l
     .have D:¬c∈upL y 0:=λz=>by
       rw[LG f]at z;simp at z;subst z;rw[f.up0]at u;cases u
      simp[u,ind,D]
     .simp[u]
    rw[z];simp[ind,w,e]
   .obtain⟨a,p,O⟩:=f.ups j (by lia) i;have v:=L7 f l A n a (by lia) (by lia);have r:=KU f (by lia) i p l (λz=>e z.symm);have C:ind (l∈upL y j)=ind (l∈upL y a):=by unfold ind;simp only[r]
    have B:∀c,c<y.ls.length->(if QU y c=some l then ind (c∈upL y j) else 0)=(if QU y c=some l then ind (c∈upL y a) else 0)+(if c=j then ind (a=l) else 0):=by
     intro c m;by_cases z:c=j
     .subst z;have w:¬c∈upL y a:=λq=>by have:=PZ y a c q;lia
      rw[p];by_cases q:a=l
      . simp[ind,NF,w]
      .simp[ind,q]
     .have K:=KU f (by lia) i p c z;simp_all
    rw[C,v,Zk B,WO,Gk,Xf i];have:ind (j=l)=0:=by unfold ind;rw[Xc e]
    lia
def Vi(y:Yd)(m:Nat)(ln:Nat->Nat)(f:Qn)(l:Nat):Int:=Qx (λk=>f k*ind (l∈upL y (ln k))) m
def M5{y:Yd}(h:y.Ok){m:Nat}(a:∀k,k<m->ln k<y.ls.length)(f:Qn)(i:l<y.ls.length):
 Vi y m ln f l=Qx (λk=>f k*ind (ln k=l)) m+Qx (λc=>if QU y c=some l then Vi y m ln f c else 0) y.ls.length:=by
 unfold Vi;have q:∀k,k<m->f k*ind (l∈upL y (ln k))=f k*ind (ln k=l)+Qx (λc=>if QU y c=some l then f k*ind (c∈upL y (ln k)) else 0) y.ls.length:=by
  intro k p;rw[L7 h l i _ (ln k) (UD _)<|a k p,UE,<- Uy];congr 1;refine Zk λc _=>?_
  by_cases u:QU y c=some l
  .rw[Xf u,Xf u]
  .simp_all
 rw[Zk q,WO,Hc];congr 1;refine Zk λc _=>?_
 by_cases u:QU y c=some l
 .simp_all
 .simp only[Xc u];rw[VS]
theorem no_more{y:Yd}(p:y.Ok){m:Nat}{ln:Nat->Nat}(a:∀k,k<m->ln k<y.ls.length){f:Qn}{b own:Qn}(q:∀l,l<y.ls.length->Qx (λk=>f k*ind (ln k=l)) m<=own l)(s:∀l,l<y.ls.length->Vi y m ln f l<=b l):
 ∀n l,y.ls.length<=l+n->l<y.ls.length->Vi y m ln f l<=passes y b own l
 |0,l,h,i=>by lia
 |n+1,l,h,i=>by
  have w:Vi y m ln f l<=VI y b own l:=by
   rw[M5 p a f i,FD p b own i];refine Int.add_le_add (q l i) (VT λc r=>?_)
   by_cases u:QU y c=some l
   .rw[Xf u,Xf u];have:=GG p r u;exact no_more p a q s n c (by lia) r
   .simp_all
  have v:=s l i;unfold passes;lia
end Mir
namespace Mir
def Lh{y:Yd}{m:Nat}{f g:Qn}(h:∀k,k<m->f k<=g k)(l:Nat):Vi y m ln f l<=Vi y m ln g l:=
 VT λk a=>by
  unfold ind;split
  .simp_all
  .lia
def EW{y:Yd}{m:Nat}{f:Qn}(h:∀k,k<m->0<=f k)(l:Nat):0<=Vi y m ln f l:=
 GU λk a=>by
  unfold ind;split
  .simp_all
  .lia
structure Shut(y:Yd)(m:Nat)(ln:Nat->Nat)(f mo:Qn)(b:Qn)(S H0:Qm):Prop where
 nn:∀k,k<m->0<=f k
 full:∀k,k<m->S k=true->H0 (ln k)=false->f k=mo k
 none:∀k,k<m->S k=false->H0 (ln k)=true->f k=0
 top:H0 0=true->Vi y m ln f 0=b 0
 out:∀c a,c<y.ls.length->QU y c=some a->H0 c=true->H0 a=false->Vi y m ln f c=b c
 inn:∀c a,c<y.ls.length->QU y c=some a->H0 c=false->H0 a=true->Vi y m ln f c=0
def QV(S:Qm)(f:Qn):Qn:=λk=>if S k=true then f k else 0
def NG{f:Qn}(h:0<=f k):QV S f k<=f k:=by
 unfold QV;split<;>lia
def LK{f:Qn}(h:0<=f k):0<=QV S f k:=by
 unfold QV;split<;>lia
theorem Shut.alike{y:Yd}(p:y.Ok){m:Nat}{ln:Nat->Nat}(a:∀k,k<m->ln k<y.ls.length){f A b:Qn}{S H0:Qm}(h:Shut y m ln f A b S H0):
 ∀n l,y.ls.length<=l+n->l<y.ls.length->H0 l=true->Vi y m ln f l=Vi y m ln (QV S f) l
 |0,l,B,q,_=>by lia
 |n+1,l,B,q,w=>by
  rw[M5 p a f q,M5 p a _ q];congr 1
  .refine Zk λk i=>?_
   by_cases e:ln k=l
   .have:f k=QV S f k:=by
     unfold QV;cases s:S k with
     |true=>simp
     |false=>simp;exact h.none k i s (by rw[e];exact w)
    rw[this]
   .simp[ind,e]
  .refine Zk λc v=>?_
   by_cases u:QU y c=some l
   .rw[Xf u,Xf u];have:=GG p v u;cases r:H0 c with
    |true=>exact Shut.alike p a h n c (by lia) v r
    |false=>
     have e:=h.inn c l v u r w;have D:=Lh (y:=y) (ln:=ln) (f:=QV S f) (λk i=>NG<|h.nn k i) c;have C:=EW (y:=y) (ln:=ln) (f:=QV S f) (λk i=>LK<|h.nn k i) c;lia
   .simp_all
theorem Shut.all{y:Yd}(q:y.Ok){m:Nat}{ln:Nat->Nat}(i:∀k,k<m->ln k<y.ls.length){f v b own:Qn}{S H0:Qm}(h:Shut y m ln f v b S H0)
(w:∀l,l<y.ls.length->own l=Qx (λk=>QV S v k*ind (ln k=l)) m):
 ∀n l,y.ls.length<=l+n->l<y.ls.length->(H0 l=true->l=0\/∃a,QU y l=some a/\H0 a=false)->passes y b own l<=Vi y m ln (QV S f) l
 |0,l,B,p,_=>by lia
 |n+1,l,B,p,K=>by
  cases r:H0 l with
  |true=>
   have e:Vi y m ln f l=b l:=by
    rcases K r with z|⟨a,u,C⟩
    .subst z;exact h.top r
    .exact h.out l a p u r C
   rw[<- h.alike q i (n+1) l B p r,e];unfold passes;lia
  |false=>
   have O:VI y b own l<=Vi y m ln (QV S f) l:=by
    rw[M5 q i _ p,FD q b own p];refine Int.add_le_add ?_ (VT λc A=>?_)
    .rw[w l p];refine VT λk D=>?_
     by_cases e:ln k=l
     .have:QV S v k=QV S f k:=by
       unfold QV;cases s:S k with
       |true=>simp;exact(h.full k D s<|by rw[e];exact r).symm
       |false=>simp
      rw[this];exact UF _
     .simp[ind,e]
    .by_cases u:QU y c=some l
     .rw[Xf u,Xf u];have:=GG q A u;exact Shut.all q i h w n c (by lia) A (λ_=>.inr ⟨l,u,r⟩)
     .simp_all
   unfold passes;lia
end Mir
namespace Mir
section
variable {ν:Type} [DecidableEq ν]
abbrev Lay(ν:Type):=List (ν×ν×Int)
abbrev Zn(ν:Type):=ν->ν->Int
def Jd(a:Lay ν):List ν:=a.flatMap λx=>[x.2.1,x.1]
def Yr(a:Lay ν)(φ:Zn ν):Ql:=a.flatMap λx=>[x.2.2-φ x.1 x.2.1,φ x.1 x.2.1]
def Dis(a:Lay ν):Prop:=(a.map λx=>(x.1,x.2.1)).Nodup
def Yj(φ:Zn ν)(s e:ν)(a:Int):Zn ν:=λp q=>if p=s/\q=e then φ p q+a else φ p q
theorem KQ{i m:Type}(f g:i->m):∀(a:List i) (e:Nat),(a.flatMap λx=>[f x,g x])[e]?=a[e/2]?.map (if e%2=0 then f else g)
 |[],e=>by simp
 |x::a,0=>by simp
 |x::a,1=>by simp
 |x::a,e+2=>by
  have h:=KQ f g a e;simpa using h
def hdE(a:Lay ν)(e:Nat):Option ν:=a[e/2]?.map λx=>if e%2=0 then x.2.1 else x.1
def tlE(a:Lay ν)(e:Nat):Option ν:=a[e/2]?.map λx=>if e%2=0 then x.1 else x.2.1
def rmE(a:Lay ν)(φ:Zn ν)(e:Nat):Option Int:=a[e/2]?.map λx=>if e%2=0 then x.2.2-φ x.1 x.2.1 else φ x.1 x.2.1
def Nq(a:Lay ν)(e:Nat):(Jd a)[e]?=hdE a e:=by
 unfold Jd hdE;rw[KQ];congr 1;split<;>rfl
def Bg(a:Lay ν)(φ:Zn ν)(e:Nat):(Yr a φ)[e]?=rmE a φ e:=by
 unfold Yr rmE;rw[KQ];congr 1;split<;>rfl
def ZhV(e:Nat):Nat:=if e%2=0 then e+1 else e-1
def Zsm(a:Lay ν)(e:Nat):(Jd a)[ZhV e]?=tlE a e:=by
 rw[Nq];unfold hdE tlE ZhV;by_cases h:e%2=0
 .have i:(e+1)/2=e/2:=by lia
  have f:¬(e+1)%2=0:=by lia
  simp_all
 .have i:(e-1)/2=e/2:=by lia
  have f:(e-1)%2=0:=by lia
  simp_all
def Vz(a:Lay ν)(F:ν->ν->Int):Int:=(a.map λx=>F x.1 x.2.1).sum
def VV(a:Lay ν)(φ:Zn ν)(n:ν):Int:=Vz a λs e=>φ s e*(ind (s=n)-ind (e=n))
def ZpJ{s:ν}{a:Int}(h:(s,e)∉H1.map λx=>(x.1,x.2.1))(G:Int->ν->ν->Int):
 Vz H1 (λp q=>G (Yj φ s e a p q) p q)=Vz H1 λp q=>G (φ p q) p q:=by
 unfold Vz;congr 1;refine X6 λx m=>?_
 have:¬(x.1=s/\x.2.1=e):=by rintro⟨i,f⟩;exact h (Xk.mpr ⟨x,m,by rw[i,f]⟩)
 unfold Yj;dsimp only;rw[Xc this]
theorem Fv{φ:Zn ν}{a:Int}(G:Int->ν->ν->Int):∀{i:Lay ν},Dis i->∀{x:ν×ν×Int},x∈i->
 Vz i (λp q=>G (Yj φ x.1 x.2.1 a p q) p q)=Vz i (λp q=>G (φ p q) p q)-G (φ x.1 x.2.1) x.1 x.2.1+G (φ x.1 x.2.1+a) x.1 x.2.1
 |[],_,_,h=>by cases h
 |y::i,f,x,h=>by
  unfold Dis at f;rw[Xz,XY]at f;rcases Xe.mp h with rfl|h
  .have:=ZpJ (φ:=φ) (a:=a) f.1 G;have e:Yj φ x.1 x.2.1 a x.1 x.2.1=φ x.1 x.2.1+a:=by unfold Yj;rw[Xf ⟨rfl,rfl⟩]
   unfold Vz at this ⊢;rw[Xz,G1,Xz,G1,this];dsimp only;rw[e];lia
  .have m:=Fv (φ:=φ) (a:=a) G f.2 h;have u:¬(y.1=x.1/\y.2.1=x.2.1):=λ⟨s,r⟩=>f.1 (Xk.mpr ⟨x,h,by rw[s,r]⟩);have e:Yj φ x.1 x.2.1 a y.1 y.2.1=φ y.1 y.2.1:=by unfold Yj;rw[Xc u]
   unfold Vz at m ⊢;rw[Xz,G1,Xz,G1,m];dsimp only;rw[e];lia
def YT(f:Lay ν)(a:Int)(φ:Zn ν)(e:Nat):Zn ν:=
 match f[e/2]? with
 |some x=>Yj φ x.1 x.2.1 (if e%2=0 then a else -a)
 |none=>φ
def Zsp(u:Dis H1){a:Int}{s:ν}(f:hdE H1 e=some t)(h:tlE H1 e=some s)(n:ν):
 VV H1 (YT H1 a φ e) n=VV H1 φ n+a*(ind (s=n)-ind (t=n)):=by
 unfold hdE at f;unfold tlE at h;cases i:H1[e/2]? with
 |none=>rw[i]at f;cases f
 |some x=>
  rw[i]at f h;have m:=List.mem_of_getElem? i;have r:YT H1 a φ e=Yj φ x.1 x.2.1 (if e%2=0 then a else -a):=by unfold YT;rw[i]
  rw[r];unfold VV;rw[Fv (λv p q=>v*(ind (p=n)-ind (q=n))) u m];simp only[XZ,Option.some.injEq]at f h;by_cases z:e%2=0
  .rw[Xf z]at f h ⊢;subst f h;rw[JW];lia
  .rw[Xc z]at f h ⊢;subst f h;rw[JW,Int.neg_mul,WX a,WX a];lia
inductive Chain(H1:Lay ν)(s:ν):ν->Qk->Prop
 |nil:Chain H1 s s []
 |cons {n m:ν}{e:Nat}{w:Qk}(h:hdE H1 e=some n)(t:tlE H1 e=some m)(c:Chain H1 s m w):Chain H1 s n (e::w)
def WD(f:Lay ν)(a:Int)(φ:Zn ν)(w:Qk):Zn ν:=w.foldl (YT f a) φ
theorem N0{f:Lay ν}(i:Dis f){s:ν}{a:Int}(p:ν):∀{w:Qk} {n:ν} {φ:Zn ν},Chain f s n w->VV f (WD f a φ w) p=VV f φ p+a*(ind (s=p)-ind (n=p))
 |_,_,φ,.nil=>by
  show VV f φ p=_
  simp_all
 |e::w,n,φ,.cons h t c=>by
  show VV f (WD f a _ w) p=_;rw[N0 i p c,Zsp i h t,WX,WX,WX];lia
def Within(a:Lay ν)(φ:Zn ν):Prop := ∀x∈a,0<=φ x.1 x.2.1/\φ x.1 x.2.1<=x.2.2
def Nj:∀{f:Lay ν},Dis f->∀{i j:Nat} {x y:ν×ν×Int},f[i]?=some x->f[j]?=some y->x.1=y.1->x.2.1=y.2.1->i=j:=λ{f} q {i j x y} p m s r=>by
 have a:(f.map λx=>(x.1,x.2.1))[i]?=some (x.1,x.2.1):=by rw[Xp,p];rfl
 have b:(f.map λx=>(x.1,x.2.1))[j]?=some (x.1,x.2.1):=by rw[Xp,m,s,r];rfl
 have h:=(Xh.mp a).1;exact(List.getElem?_inj h q).mp (a.trans b.symm)
def Znk{i:Lay ν}(A:Dis i){φ:Zn ν}(h:Within i φ){a:Int}(C:0<=a){e:Nat}{r:Int}(f:rmE i φ e=some r)(B:a<=r):Within i (YT i a φ e):=by
 unfold rmE at f;cases m:i[e/2]? with
 |none=>rw[m]at f;cases f
 |some x=>
  rw[m]at f;simp only[XZ,Option.some.injEq]at f;intro y u;have p:=h y u;have w:YT i a φ e=Yj φ x.1 x.2.1 (if e%2=0 then a else -a):=by unfold YT;rw[m]
  rw[w];unfold Yj;by_cases z:y.1=x.1/\y.2.1=x.2.1
  .rw[Xf z];obtain⟨j,s⟩:=List.mem_iff_getElem?.mp u;have v:=Nj A s m z.1 z.2;subst v;rw[m]at s;cases s
   by_cases q:e%2=0
   .rw[Xf q]at f ⊢;lia
   .rw[Xc q]at f ⊢;lia
  .rw[Xc z];exact p
def Zsf{i:Lay ν}(u:Dis i){φ:Zn ν}{a:Int}(B:0<=a){e h:Nat}(w:h≠e){r:Int}(f:rmE i φ h=some r):∃s,rmE i (YT i a φ e) h=some s/\r<=s:=by
 unfold rmE at f ⊢;cases p:i[h/2]? with
 |none=>rw[p]at f;cases f
 |some y=>
  rw[p]at f;simp only[XZ]at f ⊢;refine⟨_,rfl,?_⟩;unfold YT;cases v:i[e/2]? with
  |none=>simp only[];lia
  |some x=>
   simp only[];unfold Yj;by_cases z:y.1=x.1/\y.2.1=x.2.1
   .rw[Xf z];have A:=Nj u p v z.1 z.2
    by_cases q:e%2=0
    .have m:¬h%2=0:=by lia
     rw[Xc m]at f ⊢;rw[Xf q];lia
    .have m:h%2=0:=by lia
     rw[Xf m]at f ⊢;rw[Xc q];lia
   .rw[Xc z];lia
theorem Cv{f:Lay ν}(m:Dis f){a:Int}(p:0<=a):∀{w:Qk} {φ:Zn ν},Within f φ->w.Nodup->(∀e∈w,∃r,rmE f φ e=some r/\a<=r)->Within f (WD f a φ w)
 |[],_,h,_,_=>h
 |e::w,φ,h,A,u=>by
  obtain⟨C,B⟩:=XY.mp A;obtain⟨r,D,y⟩:=u e Xb;show Within f (WD f a _ w);refine Cv m p (Znk m h p D y) B λO i=>?_;obtain⟨P,s,v⟩:=u O (Xg _ i);obtain⟨q,K,R⟩:=Zsf m p (e:=e) (λz=>C<|z▸i) s
  exact⟨q,K,by lia⟩
abbrev Got(ν:Type):=List (ν×Option Nat)
def Ze(es:Got ν):List ν:=es.map (·.1)
inductive Tree(H1:Lay ν)(φ:Zn ν)(s:ν):Got ν->Prop
 |root:Tree H1 φ s [(s,none)]
 |add {es:Got ν}{e:Nat}{n m:ν}{r:Int}(t:Tree H1 φ s es)(hn:n∉Ze es)(hh:hdE H1 e=some n)(ht:tlE H1 e=some m)(hm:m∈Ze es)(hr:rmE H1 φ e=some r)(h0:0<r):Tree H1 φ s (es++[(n,some e)])
def Ug(es:Got ν)(n:ν):Option (Option Nat):=es.lookup n
def ZmN{es:Got ν}:n∉Ze es->es.lookup n=none:=by
 induction es with
 |nil=>intro _;rfl
 |cons p es a=>
  intro h;have i:n≠p.1:=λz=>h (by rw[z];exact Xb);have f:=λz=>h (Xg _ z);obtain⟨k,v⟩:=p;rw[XW];have:(n==k)=false:=by rw[beq_eq_false_iff_ne];exact i
  rw[this];exact a f
def Rv{es fs:Got ν}:(es++fs).lookup n=(es.lookup n).or (fs.lookup n):=by
 grind
inductive Back(H1:Lay ν)(es:Got ν):ν->Qk->Prop
 |nil {n:ν}(h:Ug es n=some none):Back H1 es n []
 |cons {n m:ν}{e:Nat}{w:Qk}(h:Ug es n=some (some e))(t:tlE H1 e=some m)(b:Back H1 es m w):Back H1 es n (e::w)
theorem Back.app{a:Lay ν}{es fs:Got ν}:∀{w:Qk} {n:ν},Back a es n w->Back a (es++fs) n w
 |_,_,.nil h=>.nil (by unfold Ug at h ⊢;rw[Rv,h];rfl)
 |_,_,.cons h t b=>.cons (by unfold Ug at h ⊢;rw[Rv,h];rfl) t b.app
structure WayOk(H1:Lay ν)(φ:Zn ν)(s:ν)(es:Got ν)(n:ν)(w:Qk):Prop where
 back:Back H1 es n w
 chain:Chain H1 s n w
 nodup:w.Nodup
 room:∀e∈w,∃r,rmE H1 φ e=some r/\0<r
 heads:∀e∈w,∃m,hdE H1 e=some m/\m∈Ze es
theorem Tree.way{K:Lay ν}{φ:Zn ν}{s:ν}:∀{es:Got ν},Tree K φ s es->∀n∈Ze es,∃w,WayOk K φ s es n w
 |_,.root,n,y=>by
  have e:=by simpa [Ze] using y
  subst e;exact⟨[],.nil<|by simp[Ug],.nil,G2,(by rintro e ⟨⟩),(by rintro e ⟨⟩)⟩
 |_,.add (es:=es) (e:=e) (n:=k) (m:=m) t D A B P O R,n,y=>by
  have i:n∈Ze es\/n=k:=by simpa [Ze] using y
  have r:∀p,p∈Ze es->p∈Ze (es++[(k,some e)]):=λp C=>by
   unfold Ze at C ⊢;rw[XB];exact Jz _ C
  rcases i with i|rfl
  .obtain⟨w,q⟩:=t.way n i;exact⟨w,q.back.app,q.chain,q.nodup,q.room,λu f=>let ⟨v,a,b⟩:=q.heads u f;⟨v,a,r _ b⟩⟩
  .obtain⟨w,q⟩:=t.way m P;refine⟨e::w,.cons ?_ B q.back.app,.cons A B q.chain,XY.mpr ⟨λz=>?_,q.nodup⟩,λu f=>?_,λu f=>?_⟩
   .unfold Ug;rw[Rv,ZmN D];simp
   .obtain⟨v,a,b⟩:=q.heads e z;rw[A]at a;cases a;exact D b
   .rcases Xe.mp f with rfl|f
    .exact⟨_,O,R⟩
    .exact q.room u f
   .rcases Xe.mp f with rfl|f
    .exact⟨n,A,by simp[Ze]⟩
    .obtain⟨v,a,b⟩:=q.heads u f;exact⟨v,a,r _ b⟩
theorem Tree.nodup{m:Lay ν}{φ:Zn ν}{s:ν}:∀{es:Got ν},Tree m φ s es->(Ze es).Nodup
 |_,.root=>by simp[Ze]
 |_,.add (n:=k) t f _ _ _ _ _=>by
  have:=t.nodup;unfold Ze at this f ⊢;rw[XB,G4];refine⟨this,by simp,λa i b h=>?_⟩;have e:=by simpa using h
  exact λz=>f (e▸z▸i)
theorem Tree.start{a:Lay ν}{φ:Zn ν}{s:ν}:∀{es:Got ν},Tree a φ s es->s∈Ze es
 |_,.root=>by simp[Ze]
 |_,.add t _ _ _ _ _ _=>by
  have:=t.start;unfold Ze at this ⊢;rw[XB];exact Jz _ this
theorem Tree.sub{h:Lay ν}{φ:Zn ν}{s:ν}:∀{es:Got ν},Tree h φ s es->∀n∈Ze es,n∈s::Jd h
 |_,.root,n,f=>by
  have e:=by simpa [Ze] using f
  rw[e];exact Xb
 |_,.add (es:=es) (n:=k) t m i _ _ _ _,n,f=>by
  have a:n∈Ze es\/n=k:=by simpa [Ze] using f
  rcases a with a|rfl
  .exact t.sub n a
  .exact Xg _ (List.mem_of_getElem?<|(Nq h _).trans i)
theorem Rm{a:Type}[DecidableEq a]:∀{xs ys:List a},xs.Nodup->(∀x∈xs,x∈ys)->xs.length<=ys.length
 |[],_,_,_=>X3 _
 |x::xs,ys,p,h=>by
  obtain⟨s,r⟩:=XY.mp p;have i:=h x Xb;have:=Rm r λz f=>by
   have m:z≠x:=λq=>s (q▸f)
   exact(List.mem_erase_of_ne m).mpr (h z<|Xg _ f)
  rw[List.length_erase_of_mem i]at this;have:=List.length_pos_of_mem i;rw[Wt];lia
def Tree.len{s:ν}{es:Got ν}(t:Tree H1 φ s es):es.length<=(Jd H1).length+1:=by
 have:=Rm t.nodup t.sub;simpa [Ze] using this
def YF(a:Lay ν)(φ:Zn ν)(es:Got ν):Prop := ∀e m n r,tlE a e=some m->hdE a e=some n->rmE a φ e=some r->0<r->m∈Ze es->n∈Ze es
end
end Mir
namespace Mir
inductive Nd where
 |start|fin
 |guest (k:Nat)
 |line (l t:Nat)
deriving DecidableEq
structure Gv where
 m:Nat
 ln:Nat->Nat
 wa:Qn
 mo:Qn
 th:Nat->Qm
def upN(y:Yd)(l:Nat):Nat:=(QU y l).getD 0
def Vv(y:Yd)(G:Gv)(k:Nat):Lay Nd:=(.start,.guest k,G.wa k)::(List.range y.T).flatMap λt=>if G.th k t=true then [(.guest k,.line (G.ln k) t,G.mo k)] else []
def Yi(y:Yd)(t:Nat):Lay Nd:=(.line 0 t,.fin,Zl y 0 t)::(List.range<|y.ls.length-1).flatMap λi=>[(.line (i+1) t,.line (upN y<|i+1) t,Zl y (i+1) t)]
def Zs(y:Yd)(G:Gv):Lay Nd:=(List.range G.m).flatMap (Vv y G)++(List.range y.T).flatMap (Yi y)
def LT(A B:Lay Nd)(F:Nd->Nd->Int):Vz (A++B) F=Vz A F+Vz B F:=by
 unfold Vz;simp_all
theorem M6(f:Nat->Lay Nd)(F:Nd->Nd->Int):∀n,Vz ((List.range n).flatMap f) F=Qx (λk=>Vz (f k) F) n
 |0=>rfl
 |n+1=>by
  rw[Wc,Gz,LT,M6 f F n];simp[Qx]
def LH(x:Nd×Nd×Int)(F:Nd->Nd->Int):Vz [x] F=F x.1 x.2.1:=by simp[Vz]
def FS(x:Nd×Nd×Int)(a:Lay Nd)(F:Nd->Nd->Int):Vz (x::a) F=F x.1 x.2.1+Vz a F:=by simp[Vz]
def ZqA(y:Yd)(G:Gv)(F:Nd->Nd->Int)(k:Nat):Vz (Vv y G k) F=F .start (.guest k)+Qx (λt=>if G.th k t=true then F (.guest k) (.line (G.ln k) t) else 0) y.T:=by
 unfold Vv;rw[FS,M6];congr 1;refine Zk λt _=>?_
 split
 .rw[LH]
 .rfl
def Zq2(y:Yd)(F:Nd->Nd->Int)(t:Nat):Vz (Yi y t) F=F (.line 0 t) .fin+Qx (λi=>F (.line (i+1) t)<|.line (upN y<|i+1) t) (y.ls.length-1):=by
 unfold Yi;rw[FS,M6];congr 1;refine Zk λt _=>?_;rw[LH]
def NY(y:Yd)(G:Gv)(F:Nd->Nd->Int):Vz (Zs y G) F =
 Qx (λk=>F .start (.guest k)+Qx (λt=>if G.th k t=true then F (.guest k) (.line (G.ln k) t) else 0) y.T) G.m +
 Qx (λt=>F (.line 0 t) .fin+Qx (λi=>F (.line (i+1) t)<|.line (upN y<|i+1) t) (y.ls.length-1)) y.T:=by
 unfold Zs;rw[LT,M6,M6];congr 1
 .exact Zk λk _=>ZqA y G F k
 .exact Zk λt _=>Zq2 y F t
def WQ{y:Yd} : x∈Vv y G k↔x=(.start,.guest k,G.wa k)\/∃t,t<y.T/\G.th k t=true/\x=(.guest k,.line (G.ln k) t,G.mo k):=by
 unfold Vv;simp_all
def JN{y:Yd} : x∈Yi y t↔x=(.line 0 t,.fin,Zl y 0 t)\/∃i,i<y.ls.length-1/\x=(.line (i+1) t,.line (upN y<|i+1) t,Zl y (i+1) t):=by
 unfold Yi;simp_all
def Bf{y:Yd} : x∈Zs y G↔(∃k,k<G.m/\x∈Vv y G k)\/∃t,t<y.T/\x∈Yi y t:=by
 unfold Zs;simp_all
def DQ(n:Nat):(List.range n).Pairwise (· ≠ ·):=HS
def DP(y:Yd)(G:Gv):Dis (Zs y G):=by
 unfold Dis List.Nodup;rw[List.pairwise_map];unfold Zs;rw[List.pairwise_append];refine⟨?_,?_,?_⟩
 .rw[Kh];refine⟨λk _=>?_,(DQ _).imp λ{k j} m x a z f=>?_⟩
  .unfold Vv;rw[HZ];refine⟨λx a=>?_,?_⟩
   .grind
   .rw[Kh];refine⟨λt _=>?_,(DQ _).imp λ{t u} h x a z f=>?_⟩
    .split
     .exact List.pairwise_singleton _ _
     .exact List.Pairwise.nil
    .split at a
     .split at f
      .rw[Xt.mp a,Xt.mp f];intro q;simp at q;exact h q
      .cases f
     .cases a
  .rcases WQ.mp a with rfl|⟨t,_,_,rfl⟩<;>rcases WQ.mp f with rfl|⟨u,_,_,rfl⟩<;>intro q<;>simp at q
   .exact m q
   .exact m q.1
 .rw[Kh];refine⟨λt _=>?_,(DQ _).imp λ{t u} h x a z f=>?_⟩
  .unfold Yi;rw[HZ];refine⟨λx a=>?_,?_⟩
   .grind
   .rw[Kh];refine⟨λt _=>List.pairwise_singleton _ _,(DQ _).imp λ{i j} p x a z f=>?_⟩;rw[Xt.mp a,Xt.mp f];intro q;simp at q;exact p q.1
  .rcases JN.mp a with rfl|⟨i,_,rfl⟩<;>rcases JN.mp f with rfl|⟨j,_,rfl⟩<;>intro q<;>simp at q
   .exact h q
   .exact h q.1.2
 .intro x a z f;obtain⟨k,_,a⟩:=HR.mp a;obtain⟨t,_,f⟩:=HR.mp f;rcases WQ.mp a with rfl|⟨r,_,_,rfl⟩<;>rcases JN.mp f with rfl|⟨j,_,rfl⟩<;>intro q<;>simp at q
end Mir
namespace Mir
def Zq(G:Gv)(φ:Zn Nd)(t k:Nat):Int:=if G.th k t=true then φ (.guest k) (.line (G.ln k) t) else 0
def upF(y:Yd)(φ:Zn Nd)(t l:Nat):Int:=if l=0 then φ (.line 0 t) .fin else φ (.line l t) (.line (upN y l) t)
theorem Rr(f:Qn):∀n,Qx f (n+1)=f 0+Qx (λi=>f<|i+1) n
 |0=>by simp[Qx]
 |n+1=>by
  show Qx f _+f _=_;rw[Rr f n];simp[Qx]
  lia
def VN{p:Prop}[Decidable p](h:¬p):ind p=0:=Xc h
def Ms{p q:Prop}[Decidable p][Decidable q](h:p↔q):ind p=ind q:=by unfold ind;simp only[h]
def Zp7(y:Yd)(G:Gv)(φ:Zn Nd){k0:Nat}(f:k0<G.m):VV (Zs y G) φ (.guest k0)=Qx (λt=>Zq G φ t k0) y.T-φ .start (.guest k0):=by
 unfold VV;rw[NY];have h:Qx (λt=>φ (.line 0 t) .fin*(ind (Nd.line 0 t=.guest k0)-ind (Nd.fin=.guest k0))+Qx (λi=>φ (.line (i+1) t) (.line (upN y<|i+1) t)*(ind (Nd.line (i+1) t=.guest k0)-ind (Nd.line (upN y<|i+1) t=.guest k0))) (y.ls.length-1)) y.T=0:=by
  rw[Zk λt _=>?_,VS];rw[VN (by rintro⟨⟩),VN (by rintro⟨⟩),Zk λi _=>?_,VS]
  .simp
  . simp
 rw[h,Int.add_zero];rw[Zk λk _=>?_,Gk,Xf f];rw[VN λz=>nomatch z]
 by_cases e:k=k0
 .subst e;have:Qx (λt=>if G.th k t=true then φ (.guest k) (.line (G.ln k) t)*(ind (Nd.guest k=.guest k)-ind (Nd.line (G.ln k) t=.guest k)) else 0) y.T=Qx (λt=>Zq G φ t k) y.T:=by
   refine Zk λt _=>?_;unfold Zq;split
   .simp[ind]
   .rfl
  rw[this];simp[ind];lia
 .have a:¬Nd.guest k=.guest k0:=λz=>e (by injection z)
  rw[Xc e,VN a,Zk λt _=>?_,VS]
  .simp
  .rw[VN λz=>nomatch z];simp
def NE{y:Yd}(f:y.Ok){c:Nat}(h0:0<c)(h:c<y.ls.length):upN y c=l↔QU y c=some l:=by
 obtain⟨a,i,_⟩:=f.ups c h0 h;unfold upN;rw[i];simp
def Zrx{y:Yd}(a:y.Ok)(G:Gv)(φ:Zn Nd)(r:l<y.ls.length)(f:t0<y.T):VV (Zs y G) φ (.line l t0) =
 upF y φ t0 l-Qx (λk=>Zq G φ t0 k*ind (G.ln k=l)) G.m-Qx (λc=>if QU y c=some l then upF y φ t0 c else 0) y.ls.length:=by
 unfold VV;rw[NY];have u:Qx (λk=>φ .start (.guest k)*(ind (Nd.start=.line l t0)-ind (Nd.guest k=.line l t0))+Qx (λt=>if G.th k t=true then φ (.guest k) (.line (G.ln k) t)*(ind (Nd.guest k=.line l t0)-ind (Nd.line (G.ln k) t=.line l t0)) else 0) y.T) G.m = - Qx (λk=>Zq G φ t0 k*ind (G.ln k=l)) G.m:=by
  rw[show-Qx (λk=>Zq G φ t0 k*ind (G.ln k=l)) G.m=(-1)*Qx (λk=>Zq G φ t0 k*ind (G.ln k=l)) G.m by lia,<- Uy];refine Zk λk _=>?_;rw[VN (by rintro⟨⟩),VN λz=>nomatch z];rw[Zk (g:=λt=>if t=t0 then-(Zq G φ t0 k*ind (G.ln k=l)) else 0) λt _=>?_,Gk,Xf f]
  .simp
  .by_cases e:t=t0
   .subst e;rw[Xf rfl,Ms (q:=G.ln k=l)<|by simp];unfold Zq;split
    .rw[Int.zero_sub,Int.mul_neg]
    .simp
   .rw[Xc e,VN λz=>e<|by injection z];simp
 rw[u];have s:Qx (λt=>φ (.line 0 t) .fin*(ind (Nd.line 0 t=.line l t0)-ind (Nd.fin=.line l t0))+Qx (λi=>φ (.line (i+1) t) (.line (upN y<|i+1) t)*(ind (Nd.line (i+1) t=.line l t0)-ind (Nd.line (upN y<|i+1) t=.line l t0))) (y.ls.length-1)) y.T
  = upF y φ t0 l-Qx (λc=>if QU y c=some l then upF y φ t0 c else 0) y.ls.length:=by
  rw[Zk λt _=>?_,Gk,Xf f];rw[VN (p:=Nd.fin=.line l t0) λz=>nomatch z]
  by_cases e:t=t0
  .subst e;rw[Xf rfl,Ms (q:=0=l)<|by simp];have h:y.ls.length=(y.ls.length-1)+1:=by lia
   have B:upF y φ t l=Qx (λc=>if c=l then upF y φ t l else 0) y.ls.length:=by rw[Gk,Xf r]
   have A:∀c,c<y.ls.length->(if c=l then upF y φ t l else 0)=upF y φ t c*ind (c=l):=λc _=>by
    by_cases q:c=l
    .subst q;simp[ind]
    .simp[ind,q]
   rw[B,Zk A,h,Rr,Rr];have m:¬QU y 0=some l:=λz=>by rw[a.up0]at z;cases z
   have v:upF y φ t 0=φ (.line 0 t) .fin:=by unfold upF;rw[Xf rfl]
   rw[Xc m,v,<- h];have w:Qx (λi=>φ (.line (i+1) t) (.line (upN y<|i+1) t)*(ind (Nd.line (i+1) t=.line l t)-ind (Nd.line (upN y<|i+1) t=.line l t))) (y.ls.length-1)
    = Qx (λi=>upF y φ t (i+1)*ind (i+1=l)) (y.ls.length-1)+Qx (λi => -1*(if QU y (i+1)=some l then upF y φ t (i+1) else 0)) (y.ls.length-1):=by
    rw[<- WO];refine Zk λi C=>?_;rw[ Ms (p:=Nd.line (upN y<|i+1) t=.line l t) (q:=QU y (i+1)=some l) (by rw[<- NE a (by lia) (by lia)];simp)]
    have:upF y φ t (i+1)=φ (.line (i+1) t) (.line (upN y<|i+1) t):=by unfold upF;rw[Xc<|by lia]
    rw[this,WX];by_cases q:QU y (i+1)=some l
    . simp[ind,q];lia
    . simp[ind,q]
   rw[w,Uy];simp only[Int.sub_zero];lia
  .rw[Xc e,VN (λz=>e<|by injection z),Zk λi _=>?_,VS]
   .simp
   .rw[VN (λz=>e<|by injection z),VN λz=>e<|by injection z];simp
 rw[s];lia
end Mir
namespace Mir
section
variable {ν:Type} [DecidableEq ν]
def YF.fwd(hw:Within H1 φ){es:Got ν}(m:YF H1 φ es){x:ν×ν×Int}(h:x∈H1)(q:x.1∈Ze es)(p:x.2.1∉Ze es):φ x.1 x.2.1=x.2.2:=by
 obtain⟨i,a⟩:=List.mem_iff_getElem?.mp h;have e:(2*i)/2=i:=by lia
 have f:(2*i)%2=0:=by lia
 by_cases z:φ x.1 x.2.1=x.2.2
 .exact z
 .have:=hw x h;exact Xr (m _ x.1 x.2.1 (x.2.2-φ x.1 x.2.1) (by unfold tlE;rw[e,a,f];rfl) (by unfold hdE;rw[e,a,f];rfl) (by unfold rmE;rw[e,a,f];rfl) (by lia) q) p
def YF.bwd(hw:Within H1 φ){es:Got ν}(m:YF H1 φ es){x:ν×ν×Int}(h:x∈H1)(q:x.1∉Ze es)(p:x.2.1∈Ze es):φ x.1 x.2.1=0:=by
 obtain⟨i,a⟩:=List.mem_iff_getElem?.mp h;have e:(2*i+1)/2=i:=by lia
 have f:¬(2*i+1)%2=0:=by lia
 by_cases z:φ x.1 x.2.1=0
 .exact z
 .have:=hw x h;exact Xr (m _ x.2.1 x.1 (φ x.1 x.2.1) (by unfold tlE;rw[e,a];simp[f]) (by unfold hdE;rw[e,a];simp[f]) (by unfold rmE;rw[e,a];simp[f]) (by lia) p) q
end
structure Flow(y:Yd)(G:Gv)(φ:Zn Nd):Prop where
 wi:Within (Zs y G) φ
 kp:∀n,n≠.start->n≠.fin->VV (Zs y G) φ n=0
def TQ{y:Yd}(a:k<G.m):((.start,.guest k,G.wa k):Nd×Nd×Int)∈Zs y G:=Bf.mpr (.inl ⟨k,a,WQ.mpr<|.inl rfl⟩)
def D1{y:Yd}(f:k<G.m)(a:t<y.T)(h:G.th k t=true):((.guest k,.line (G.ln k) t,G.mo k):Nd×Nd×Int)∈Zs y G:=Bf.mpr (.inl ⟨k,f,WQ.mpr<|.inr ⟨t,a,h,rfl⟩⟩)
def T4{y:Yd}(a:t<y.T):((.line 0 t,.fin,Zl y 0 t):Nd×Nd×Int)∈Zs y G:=Bf.mpr (.inr ⟨t,a,JN.mpr<|.inl rfl⟩)
def Kz{y:Yd}(a:t<y.T)(h0:0<l)(f:l<y.ls.length):((.line l t,.line (upN y l) t,Zl y l t):Nd×Nd×Int)∈Zs y G:=
 Bf.mpr (.inr ⟨t,a,JN.mpr<|.inr ⟨l-1,by lia,by rw[show l-1+1=l by lia]⟩⟩)
def moT(G:Gv)(t k:Nat):Int:=if G.th k t=true then G.mo k else 0
section
variable {y:Yd}{G:Gv}{φ:Zn Nd}(F:Flow y G φ)
include F
theorem Flow.tak(f:k<G.m)(a:t<y.T):0<=Zq G φ t k/\Zq G φ t k<=moT G t k:=by
 unfold Zq moT;by_cases c:G.th k t=true
 .rw[Xf c,Xf c];exact F.wi _ (D1 f a c)
 .simp_all
theorem Flow.total(a:k<G.m):Qx (λt=>Zq G φ t k) y.T=φ .start (.guest k):=by
 have:=F.kp (.guest k) (by rintro⟨⟩) (by rintro⟨⟩);rw[Zp7 y G φ a]at this;lia
theorem Flow.want(a:k<G.m):0<=φ .start (.guest k)/\φ .start (.guest k)<=G.wa k:=F.wi _ (TQ a)
theorem Flow.up(f:y.Ok)(a:∀k,k<G.m->G.ln k<y.ls.length){t:Nat}(m:t<y.T):∀n l,y.ls.length<=l+n->l<y.ls.length->upF y φ t l=Vi y G.m G.ln (Zq G φ t) l
 |0,l,h,i=>by lia
 |n+1,l,h,i=>by
  have z:=F.kp (.line l t) (by rintro⟨⟩) (by rintro⟨⟩);rw[Zrx f G φ i m]at z;have e:Qx (λc=>if QU y c=some l then upF y φ t c else 0) y.ls.length=Qx (λc=>if QU y c=some l then Vi y G.m G.ln (Zq G φ t) c else 0) y.ls.length:=by
   refine Zk λc p=>?_
   by_cases u:QU y c=some l
   .rw[Xf u,Xf u];have:=GG f p u;exact Flow.up f a m n c (by lia) p
   .rw[Xc u,Xc u]
  rw[M5 f a _ i,<- e];lia
theorem Flow.up_ok(h:y.Ok)(a:t<y.T)(f:l<y.ls.length):0<=upF y φ t l/\upF y φ t l<=Zl y l t:=by
 unfold upF;by_cases z:l=0
 .subst z;exact F.wi _ (T4 a)
 .rw[Xc z];exact F.wi _ (Kz a (by lia) f)
theorem Flow.load(f:y.Ok)(a:∀k,k<G.m->G.ln k<y.ls.length)(h:t<y.T)(i:l<y.ls.length):Vi y G.m G.ln (Zq G φ t) l<=Zl y l t:=by
 rw[<- F.up f a h y.ls.length l (by lia) i];exact(F.up_ok f h i).2
def QS(es:Got Nd)(k:Nat):Bool:=decide (Nd.guest k∈Ze es)
def Z1o(es:Got Nd)(t l:Nat):Bool:=decide (Nd.line l t∈Ze es)
omit F in
theorem not_of{p:Prop}[Decidable p](h:decide p=false):¬p:=WA h
theorem Flow.shut(ok:y.Ok)(h:∀k,k<G.m->G.ln k<y.ls.length){es:Got Nd}(i:YF (Zs y G) φ es)(q:Nd.fin∉Ze es)(f:t<y.T):
 Shut y G.m G.ln (Zq G φ t) (moT G t) (λl=>Zl y l t) (QS es) (Z1o es t) where
 nn k hk:=(F.tak hk f).1
 full k hk hS hR:=by
  unfold Zq moT;by_cases c:G.th k t=true
  .rw[Xf c,Xf c];exact i.fwd F.wi (D1 hk f c) (XH hS) (not_of hR)
  .rw[Xc c,Xc c]
 none k hk hS hR:=by
  unfold Zq;by_cases c:G.th k t=true
  .rw[Xf c];exact i.bwd F.wi (D1 hk f c) (not_of hS) (XH hR)
  .rw[Xc c]
 top hR:=by
  have r:=ok.l1;rw[<- F.up ok h f y.ls.length 0 (by lia) (by lia)];exact i.fwd F.wi (T4 f) (XH hR) q
 out c a hcl u h1 h2:=by
  have p:c≠0:=λz=>by subst z;rw[ok.up0]at u;cases u
  have m:=(NE ok (by lia) hcl).mpr u;rw[<- F.up ok h f y.ls.length c (by lia) hcl];unfold upF;rw[Xc p];exact i.fwd F.wi (Kz f (by lia) hcl) (XH h1) (by rw[m];exact not_of h2)
 inn c a hcl u h1 h2:=by
  have p:c≠0:=λz=>by subst z;rw[ok.up0]at u;cases u
  have m:=(NE ok (by lia) hcl).mpr u;rw[<- F.up ok h f y.ls.length c (by lia) hcl];unfold upF;rw[Xc p];exact i.bwd F.wi (Kz f (by lia) hcl) (not_of h1) (by rw[m];exact XH h2)
theorem Flow.filled{es:Got Nd}(h:YF (Zs y G) φ es)(f:Nd.start∈Ze es)(a:k<G.m)(i:QS es k=false):Qx (λt=>Zq G φ t k) y.T=G.wa k:=by
 rw[F.total a];exact h.fwd F.wi (TQ a) f (not_of i)
def UN(G:Gv)(S:Qm)(t l:Nat):Int:=Qx (λk=>QV S (moT G t) k*ind (G.ln k=l)) G.m
omit F in
theorem Lj{y:Yd}(f:y.Ok):∀n j,j<n->j<y.ls.length->0∈upL y j
 |0,j,h,_=>by lia
 |n+1,j,h,i=>by
  by_cases z:j=0
  .subst z;exact NF y 0
  .obtain⟨a,m,p⟩:=f.ups j (by lia) i;exact(KU f (by lia) i m 0 λq=>z q.symm).mpr (Lj f n a (by lia)<|by lia)
omit F in
theorem L1(h:y.Ok){m:Nat}(a:∀k,k<m->ln k<y.ls.length)(f:Qn):Vi y m ln f 0=Qx f m:=
 Zk λk i=>by
  unfold ind;rw[Xf<|Lj h _ _ (UD _)<|a k i,Ws]
theorem Flow.no_more(h:y.Ok)(a:∀k,k<G.m->G.ln k<y.ls.length)(S:Qm)(i:t<y.T):Qx (QV S<|Zq G φ t) G.m<=passes y (λl=>Zl y l t) (UN G S t) 0:=by
 have s:=h.l1;rw[<- L1 h a];refine Mir.no_more h a (λl p=>?_) (λl p=>?_) y.ls.length 0 (by lia) (by lia)
 .refine VT λk m=>?_
  have q:=F.tak m i
  by_cases e:G.ln k=l
  .unfold QV ind;split<;>lia
  .rw[VN e];lia
 .have q:=F.load h a i p;have r:=Lh (y:=y) (ln:=G.ln) (f:=QV S _) (λk m=>NG (F.tak m i).1) l;lia
theorem Flow.meet(h:y.Ok)(f:∀k,k<G.m->G.ln k<y.ls.length){es:Got Nd}(p:YF (Zs y G) φ es)(m:Nd.fin∉Ze es)(i:t<y.T):
 passes y (λl=>Zl y l t) (UN G (QS es) t) 0=Qx (QV (QS es)<|Zq G φ t) G.m:=by
 have q:=h.l1;have a:=F.no_more h f (QS es) i;have b:=(F.shut h f p m i).all h f (own:=UN G _ t) (λl r=>rfl) y.ls.length 0 (by lia) (by lia) (λ_=>.inl rfl);rw[L1 h f]at b;lia
omit F in
theorem NH(f g:Qn):∀n,Qx (λk=>f k-g k) n=Qx f n-Qx g n
 |0=>rfl
 |n+1=>by
  simp only[Qx];rw[NH f g n];lia
theorem Flow.lack(h:y.Ok)(a:∀k,k<G.m->G.ln k<y.ls.length){es:Got Nd}(f:YF (Zs y G) φ es)(m:Nd.start∈Ze es)(q:Nd.fin∉Ze es):
 Qx (λk=>G.wa k-Qx (λt=>Zq G φ t k) y.T) G.m=Qx (QV (QS es) G.wa) G.m-Qx (λt=>passes y (λl=>Zl y l t) (UN G (QS es) t) 0) y.T:=by
 rw[Zk λt i=>F.meet h a f q i,Hc,<- NH];refine Zk λk p=>?_
 cases s:QS es k with
 |true=>
  have:Qx (λt=>QV _ (Zq G φ t) k) y.T=Qx _ y.T:=Zk λt _=>by unfold QV;rw[Xf s]
  rw[this];unfold QV;rw[Xf s]
 |false=>
  have:Qx (λt=>QV (QS es) (Zq G φ t) k) y.T=0:=by
   rw[Zk λt _=>?_,VS];unfold QV;simp_all
  rw[this,F.filled f m p s];unfold QV;simp_all
omit F in
theorem Zp4(y:Yd)(G:Gv)(φ:Zn Nd):VV (Zs y G) φ .start=Qx (λk=>φ .start<|.guest k) G.m:=by
 unfold VV;rw[NY];have a:Qx (λt=>φ (.line 0 t) .fin*(ind (Nd.line 0 t=.start)-ind (Nd.fin=.start))+Qx (λi=>φ (.line (i+1) t) (.line (upN y<|i+1) t)*(ind (Nd.line (i+1) t=.start)-ind (Nd.line (upN y<|i+1) t=.start))) (y.ls.length-1)) y.T=0:=by
  rw[Zk λt _=>?_,VS];rw[VN (by rintro⟨⟩),VN (by rintro⟨⟩),Zk λi _=>?_,VS]
  .simp
  . simp
 rw[a,Int.add_zero];refine Zk λk _=>?_;rw[VN (p:=Nd.guest k=.start) (by rintro⟨⟩),Zk λt _=>?_,VS]
 .simp[ind]
 .rw[VN λz=>nomatch z];simp
theorem Flow.push{a:Int}(m:0<=a){w:Qk}(hw:Chain (Zs y G) .start .fin w)(hn:w.Nodup)(i:∀e∈w,∃r,rmE (Zs y G) φ e=some r/\a<=r):
 Flow y G (WD (Zs y G) a φ w)/\VV (Zs y G) (WD (Zs y G) a φ w) .start=VV (Zs y G) φ .start+a:=by
 refine⟨⟨Cv (DP y G) m F.wi hn i,λn h f=>?_⟩,?_⟩
 .rw[N0 (DP y G) n hw,F.kp n h f,VN λz=>h z.symm,VN λz=>f z.symm];simp
 .rw[N0 (DP y G) .start hw];simp[ind]
theorem Flow.most:VV (Zs y G) φ .start<=Qx G.wa G.m:=by
 rw[Zp4];exact VT λk a=>(F.want a).2
end
def AZ{y:Yd}(h:∀x∈Zs y G,0<=x.2.2):Flow y G (λ_ _=>0):=by
 refine⟨λx i=>⟨UF _,h x i⟩,λn _ _=>?_⟩;have:∀a:Lay Nd,(a.map λx=>(0)*(ind (x.1=n)-ind (x.2.1=n))).sum=0:=λa=>by
  induction a with
  |nil=>rfl
  |cons x a f=>rw[Xz,G1,f];simp
 exact this _
end Mir
namespace Mir
def Zpj(e:Nat):Builtin.bitAnd (e:Int) 1=((e%2:Nat):Int):=by
 show((((e:Int).toNat &&& (1:Int).toNat)):Int)=_
 simp_all
def Ec(e:Nat):e ||| 1=e+1-e%2:=by
 apply Nat.eq_of_testBit_eq;intro i;rw[Nat.testBit_or];have a:e%2=0\/e%2=1:=by lia
 cases i with
 |zero=>
  rw[Nat.testBit_zero,Nat.testBit_zero,Nat.testBit_zero];grind
 |succ i=>
  rw[Nat.testBit_succ,Nat.testBit_succ,Nat.testBit_succ];have:(e+1-e%2)/2=e/2:=by lia
  rw[this];simp
def Zq3(e:Nat):Builtin.bitOr (e:Int) 1=((e+1-e%2:Nat):Int):=by
 unfold Builtin.bitOr;have a:Builtin.bitNot (e) = -(e)-1:=rfl;have b:Builtin.bitNot 1 = -2:=rfl;have c:Builtin.bitAnd (Builtin.bitNot<|e) (Builtin.bitNot 1)=Builtin.bitNot (((e ||| 1:Nat))):=by
  rw[a];unfold Builtin.bitAnd;have f:decide ((0:Int) <= -(e)-1)=false:=Xo (by lia);rw[f];show Builtin.bitNot ((((Builtin.bitNot _).toNat ||| (Builtin.bitNot (-2)).toNat)))=_;have i:(Builtin.bitNot (-(e)-1)).toNat=e:=by show(-_-1).toNat=e;lia
  have h:(Builtin.bitNot (-2)).toNat=1:=rfl;rw[i,h]
 rw[c,Ec];show -(-_-1)-1=_
 lia
def RH(e:Nat):Builtin.bitXor (e:Int) 1=(ZhV e:Int):=by
 unfold Builtin.bitXor;rw[Zpj,Zq3];unfold ZhV;split<;>lia
end Mir
namespace L2
abbrev KK:=List Key×List Key
def JY(P:Program)(w:World)(a:Addr)(xs:List (KK×Addr×V))(h:Heap):Prop:=xs.length<=sizeLine/\(a==sysModules)=false/\∃f:List (KK×Addr×Value),
 Paired (λ(x:KK×Addr×V) (y:KK×Addr×Value)=>x.1=y.1/\x.2.1=y.2.1/\QP x.2.2 y.2.2) xs f/\
 ∃o es i,h.get? a=some o/\o.ExactDict/\o.data=.dict es i/\es.toList=f.map (entryOfKey<|Ny<|Y8 P w)/\(f.map (·.1)).Nodup
def pdO(P:Program)(w:World)(a:Addr)(xs:List (KK×Addr×V)):HO:=.ext (JY P w a xs)
def JY.move{xs:List (KK×Addr×V)}(x:JY P w a xs h1)(k:∀o,h1.get? a=some o->h2.get? a=some o):JY P w a xs h2:=by
 obtain⟨z,y,f,r,o,es,h,s,q,p,m,i⟩:=x;exact⟨z,y,f,r,o,es,h,k _ s,q,p,m,i⟩
def JY.ok{xs:List (KK×Addr×V)}(x:JY P w a xs h):Vj P w H h a (pdO P w a xs):=by
 refine⟨x,?_,λp m y k=>y.move k⟩;obtain⟨z,y,i,r,o,es,q,f,_⟩:=x;exact⟨o,f⟩
def V0(H:Hp)(k:KK)(b:Addr):Prop := ∃p q,H b=some (.tup [.ref p,.ref q])/\H p=some (.tup<|k.1.map kV)/\H q=some (.tup<|k.2.map kV)
def V0.mono(s:∀b ys,H b=some (.tup ys)->M b=some (.tup ys)){b:Addr}(x:V0 H k b):V0 M k b:=by
 obtain⟨p,q,h,f,a⟩:=x;exact⟨p,q,s _ _ h,s _ _ f,s _ _ a⟩
section
variable {H:Hp}{b:Addr}
def DS(a:HOk P w H h)(x:V0 H k b):(Ny<|Y8 P w).is h k b:=by
 obtain⟨p,q,v,u,s⟩:=x;obtain⟨_,m,r,o,B,A,n,y⟩:=(a b _ v)
 cases r with
 |cons i r=>
  cases r with
  |cons f r=>
   cases r;cases (i);cases (f);exact⟨o,n,p,q,B,A,y,Jm a u,Jm a s⟩
def Kt{xs:List (KK×Addr×V)}(i:HOk P w H h)(e:H a=some (pdO P w a xs))(m:∀x∈xs,V0 H x.1 x.2.1):xs.length<=sizeLine/\(a==sysModules)=false/\∃vs,
 Paired (λ(x:KK×Addr×V) (y:KK×Addr×Value)=>x.1=y.1/\x.2.1=y.2.1/\QP x.2.2 y.2.2) xs vs/\h.DictOfH (Ny<|Y8 P w) a vs:=by
 obtain⟨⟨z,y,vs,r,o,es,B,K,D,C,u,s⟩,f⟩:=(i a _ e);refine⟨z,y,vs,r,o,es,B,K,D,C,u,?_,s⟩;clear s u z e f;induction r with
 |nil=>intro x b;exact nomatch b
 |@cons p q ps O R t v=>
  intro x b;rcases Xe.mp b with rfl|b
  .have:=DS i (m p Xb);simp_all
  .exact v (λz A=>m z<|Xg _ A) x b
end
def YK(xs:List (KK×Addr×V))(k:KK):Option V:=(xs.find? λx=>decide (x.1=k)).map (·.2.2)
abbrev RPD:=Paired (λ(x:KK×Addr×V) (y:KK×Addr×Value)=>x.1=y.1/\x.2.1=y.2.1/\QP x.2.2 y.2.2)
def RPD.val(k:KK){xs:List (KK×Addr×V)}(r:RPD xs vs):Vy (YK xs k) ((atKey vs k).map (·.2)):=by
 induction r with
 |nil=>exact True.intro
 |@cons p q ps a f t m=>
  by_cases e:p.1=k
  .have i:YK (p::ps) k=some p.2.2:=by simp[YK, e]
   have h:(atKey (q::a) k).map (·.2)=some q.2.2:=by simp[atKey, <- f.1,e]
   rw[i,h];exact f.2.2
  .have i:YK (p::ps) k=YK ps k:=by simp[YK, e]
   have h:(atKey (q::a) k).map (·.2)=(atKey a k).map (·.2):=by simp[atKey, <- f.1,e]
   simp_all
def Uc(xs:List (KK×Addr×V))(k:KK)(b:Addr)(v:V):List (KK×Addr×V):=if (YK xs k).isSome=true then xs.map (λx=>if x.1=k then (x.1,x.2.1,v) else x) else xs++[(k,b,v)]
def RPD.repl(k:KK){u:Value}(f:QP v u){xs:List (KK×Addr×V)}(r:RPD xs vs):RPD (xs.map λx=>if x.1=k then (x.1,x.2.1,v) else x) (vs.map<|putAt k u):=by
 induction r with
 |nil=>exact .nil
 |@cons p q ps i a t h=>
  rw[Xz];refine .cons ?_ h;unfold putAt;by_cases e:p.1=k
  .rw[Xf e,Xf<|a.1▸e];exact⟨a.1,a.2.1,f⟩
  .rw[Xc e,Xc<|a.1▸e];exact a
theorem Vy.some_eq:∀{x:Option V} {y:Qf},Vy x y->x.isSome=y.isSome
 |none,none,_=>rfl
 |some _,some _,_=>rfl
 |none,some _,h=>by cases h
 |some _,none,h=>by cases h
def RPD.put(k:KK)(b:Addr){u:Value}(a:QP v u){xs:List (KK×Addr×V)}(r:RPD xs vs):RPD (Uc xs k b v) (storedH vs k b u):=by
 have e:=Vy.some_eq (r.val k);rw[U6]at e;unfold Uc storedH;rw[e];split
 .exact r.repl k a
 .exact Paired.snoc r ⟨rfl,rfl,a⟩
def Znu(xs:List (KK×Addr×V))(k:KK)(b:Addr)(v:V):(Uc xs k b v).length<=xs.length+1:=by
 unfold Uc;split<;>simp
section
variable {H:Hp}{b:Addr}{xs:List (KK×Addr×V)}{k:KK}
def Zqo(d:A.units+6<cLine)(I:Qt X Z O H s)(e:H a=some (pdO X.prog X.w a xs))(B:∀x∈xs,V0 H x.1 x.2.1)(D:V0 H k b)(l:xs.length<sizeLine)(w:QP v r)
(h:∀m,Qt X Z O (upd H a<|pdO X.prog X.w a<|Uc xs k b v) m->Q () m):wpAny (model X.prog X.w) A (setItem (.ref a) (.ref b) r) Q H2 s:=by
 obtain⟨z,C,u,f,dd⟩:=Kt I.hok e B;have c:u.length<=sizeLine:=by rw[<- Paired.length f];exact z
 refine wpAny_setItem_heap (show A.units+1+5<cLine by lia) (DS I.hok D) dd λh' i y=>h _ ?_;obtain⟨q,es,Y,p,W,R,P,_,K⟩:=i;exact Mr I (by rw[e];exact True.intro) y ⟨q,p⟩ (JY.ok ⟨by have:=Znu xs k b v;lia,C,_,RPD.put k b w f,q,es,Y,p,W,R,P,K⟩)
def ZsL(C:A.units+6<cLine)(I:Qt X Z O H s)(e:H a=some (pdO X.prog X.w a xs))(y:∀x∈xs,V0 H x.1 x.2.1)(B:V0 H k b)(w:YK xs k=some v)
(h:∀u q,Qt X Z O H q->QP v u->Q u q):wpAny (model X.prog X.w) A (getItem (.ref a)<|.ref b) Q H2 s:=by
 obtain⟨z,D,r,i,dd⟩:=Kt I.hok e y;have f:=RPD.val k i;rw[w]at f;cases m:atKey r k with
 |none=>rw[m]at f;cases f
 |some p=>
  rw[m]at f;exact wpAny_getItem_heap (show A.units+1+5<cLine by lia) (DS I.hok B) dd m (h _ _ (I.tok _) f)
def Og(v:A.units+6<cLine)(I:Qt X Z O H s)(e:H a=some (pdO X.prog X.w a xs))(p:∀x∈xs,V0 H x.1 x.2.1)(r:V0 H k b)
(h:∀i,Qt X Z O H i->Q (.bool<|!(YK xs k).isSome) i):wpAny (model X.prog X.w) A (compareOp .NotIn (.ref b)<|.ref a) Q H2 s:=by
 obtain⟨z,q,u,f,dd⟩:=Kt I.hok e p;have m:=Vy.some_eq (RPD.val k f);rw[U6]at m;refine wpAny_notIn_heap (show A.units+1+5<cLine by lia) (DS I.hok r) q dd ?_;rw[<- m];exact h _ (I.tok _)
end
end L2
namespace L2
section
variable {H:Hp}{b:Addr}{d:V}{kvs:List (List Key×V)}{k:List Key}
def ZuM(R:A.units+1<cLine)(I:Qt X Z O H s)(e:H a=some (.dT kvs))(D:H b=some (.tup<|k.map kV))(l:kvs.length<sizeLine)(K:QP d r)
(n:∀v u m,ZF kvs k=some v->Qt X Z O H m->QP v u->Q u m)(j:ZF kvs k=none->∀m,Qt X Z O (upd H a<|.dT<|kvs++[(k,d)]) m->Q r m):
 wpAny (model X.prog X.w) A (call (.builtin "dict.setdefault") [.ref a,.ref b,r]) Q H2 s:=by
 obtain⟨z,C,xs,h,dd⟩:=Kp I.hok e;have P:xs.length<=sizeLine:=by rw[<- Paired.length h];exact z
 have f:=h.val k;refine call_meetsIn PySem.F.slot_dict_setdefault dd.typeIs PySem.F.entry_dict_setdefault (PySem.F.args_dict_setdefault_3 _ _ _) (ZeT _ a b C r)
  ⟨tupleKind_room_in1 R,k,xs,Jm I.hok D,dd,P,λp Y=>?_,λg h' y W=>?_⟩
 .rw[Y]at f;cases i:ZF kvs k with
  |none=>rw[i]at f;cases f
  |some v=>rw[i]at f;exact n v _ _ i (I.tok _) f
 .have i:ZF kvs k=none:=by
   rw[g]at f;cases i:ZF kvs k with
   |none=>rfl
   |some v=>rw[i]at f;cases f
  refine j i _ ?_;obtain⟨q,es,F,B,E,x,t,_,o⟩:=y;refine Mr I (by rw[e];exact True.intro) W ⟨q,B⟩ ⟨by simp;lia,C,_,(show KT H _ _ from Paired.snoc h ⟨rfl,D,K⟩).keeps λc ys w=>?_,q,es,F,B,E,x,t,o⟩;rw[Q6 λz=>by subst z;rw[e]at w;cases w];exact w
end
def Tp(td i tx:TE):TE:=λO H Q=>td O H λx L=>∃a,x=.ref a/\IsD L a/\i O L λy E=>tx O E λz h=>∃f k b,y=.ref b/\h a=some (.dT f)/\h b=some (.tup<|k.map kV)/\f.length<sizeLine/\
 (∀v,ZF f k=some v->Q v h)/\(ZF f k=none->Q z (upd h a<|.dT<|f++[(k,z)]))
section
variable {o e f value:Expr}{pos:Pos}{ty:TE}
def ZtO(n:X.A.units+1<cLine)(t:PE X o td)(G:PE X e ty)(F:PE X f tx)(m:M2 X o "setdefault" X1 e f X2):PE X (.Call (.Attribute o "setdefault" X1) [e,f] [] X2) (Tp td ty tx):=by
 intro Z s O H Q I h;refine wpAny_Call_method m.base m.few m.line PySem.F.plainAttrs_dict PySem.F.slot_dict_setdefault PySem.F.type_dict_setdefault (QE (t Z s O H _ I h) ?_);rintro u C ⟨x,L,r,P,a,M,d,g⟩;subst M;obtain rfl:=P;obtain⟨A,w,_⟩:=T3 r d;refine⟨A,w,?_⟩;rw[m.trees];refine Calls.callWith_builtin rfl (Calls.evalArgs_plain (Calls.spliced_cons (QE (G Z C O L _ r g) λiv B ⟨y,E,U,K,c⟩=>
  Calls.spliced_cons (QE (F Z B O E _ U c) λfv s3 ⟨z,H3,T,q,j,k,b,J,S,N,l,Y,W⟩=>Calls.spliced_nil ?_))))
 subst J;cases (K);exact ZuM n T S N l q (λv u D i p R=>⟨v,H3,p,R,Y v i⟩) (λi D p=>⟨z,_,p,q,W i⟩)
def P6(P:Program)(w:World)(td ty:TE):TE:=λO H Q=>td O H λx L=>ty O L λy E=>∃a b xs k v,x=.ref a/\y=.ref b/\E a=some (pdO P w a xs)/\(∀x∈xs,V0 E x.1 x.2.1)/\V0 E k b/\YK xs k=some v/\Q v E
def TN(P:Program)(w:World)(ty td:TE):TE:=λO H Q=>ty O H λy L=>td O L λx E=>∃a b xs k,x=.ref a/\y=.ref b/\E a=some (pdO P w a xs)/\(∀x∈xs,V0 E x.1 x.2.1)/\V0 E k b/\Q (.bl<|!(YK xs k).isSome) E
def Pl(P:Program)(w:World)(td ty tv:TE):TS:=λta O H=>tv O H λv L=>td O L λx E=>ty O E λy e=>∃a b xs k,x=.ref a/\y=.ref b/\e a=some (pdO P w a xs)/\(∀x∈xs,V0 e x.1 x.2.1)/\V0 e k b/\xs.length<sizeLine/\
 ta.nx O (upd e a<|pdO P w a<|Uc xs k b v)
def ZrC  {H:Hp}  {xs:List (KK×Addr×V)}(I:Qt X Z O H s)(e:H a=some (pdO X.prog X.w a xs)):s.TypeIs (.ref a) "dict" := by
 obtain⟨⟨_,_,i,_,o,es,m,h,f,_⟩,_⟩:=(I.hok a _ e)
 exact⟨o,h,f.1⟩
def Ip(B:X.A.units+6<cLine)(D:PE X o td)(K:PE X e ty)(C:SW e):PE X (.Subscript o e pos) (P6 X.prog X.w td ty):=by
 intro Z s O H Q I h;refine Lf PySem.F.slot_dict_getitem.lookup C (QE (D Z s O H _ I h) ?_);rintro u p ⟨x,L,g,r,A⟩;refine QE (K Z p O L _ g A) ?_;rintro t n ⟨y,E,m,q,a,b,xs,k,v,R,P,i,c,Y,W,w⟩;subst R P;obtain rfl:=r;obtain rfl:=q;exact⟨ZrC m i,ZsL B m i c Y W λj l d f=>⟨v,E,d,f,w⟩⟩
def ZqN(r:X.A.units+6<cLine)(w:PE X e ty)(v:PE X o td):PC X .NotIn e o (TN X.prog X.w ty td):=by
 intro Z s O H Q I h;refine QE (w Z s O H _ I h) ?_;rintro d f ⟨y,L,W,i,q⟩;refine QE (v Z f O L _ W q) ?_;rintro u c ⟨x,E,R,m,a,b,xs,k,B,A,K,D,C,p⟩;subst B A;obtain rfl:=m;obtain rfl:=i;exact Og r R K D C λY P=>⟨.bl _,E,P,rfl,p⟩
def Iu(D:X.A.units+6<cLine)(P:PE X o td)(R:PE X e ty)(C:PE X value tv)(K:swapsWith value (some<|.Subscript o e pos') pos.line X.env=pure false):
 PS X (.Assign [.Subscript o e pos'] value pos) (Pl X.prog X.w td ty tv):=by
 intro Z s O H ta I h;refine wpAny_Assign_Subscript (QE (C Z s O H _ I h) ?_) K;rintro r i ⟨v,L,z,q,B⟩;refine QE (P Z i O L _ z B) ?_;rintro u f ⟨x,E,t,p,A⟩;refine QE (R Z f O E _ t A) ?_;rintro J G ⟨y,M,n,m,a,b,xs,k,Y,W,g,d,c,l,w⟩;subst Y W;obtain rfl:=p;obtain rfl:=m;exact Zqo D n g d c l q λF j=>⟨O,_,j,w⟩
end
end L2
namespace L2
def Eo(P:Program)(w:World):TE:=λ_ H Q=>∀p,H p=none->Q (.ref p) (upd H p<|pdO P w p [])
def ZuN : PE X (.Dict [] [] pos) (Eo X.prog X.w):=λZ s O H Q I h=>
 wpAny_Dict_empty ⟨.ref s.heap.objs.size,_,I.laid (λ_ _ q=>Xd _ q) (Xn _)
  (JY.ok ⟨X3 _,beq_eq_false_iff_ne.mpr<|Ne.symm<|Xq I.big,[],.nil,_,#[],0,XG _ rfl,⟨rfl,rfl,rfl⟩,rfl,rfl,G2⟩),rfl,h _<|I.hok.fresh<|Xn _⟩
structure NetS where
 ends:List (List Key)
 rooms:Ql
 leav:List (List Key×Ql)
 laid:List (KK×Int)
inductive LaidD(F:Hp):List (KK×Addr×V)->List (KK×Int)->Prop
 |nil:LaidD F [] []
 |cons {k:KK}{b:Addr}{n:Int}{xs:List (KK×Addr×V)}{ls:List (KK×Int)}:V0 F k b->LaidD F xs ls->LaidD F ((k,b,.int n)::xs) ((k,n)::ls)
theorem LaidD.mono{F a:Hp}(s:QI F a):∀{xs:List (KK×Addr×V)} {ls:List (KK×Int)},LaidD F xs ls->LaidD a xs ls
 |_,_,.nil=>.nil
 |_,_,.cons h t=>.cons (h.mono λb ys e=>s _ _ e) (t.mono s)
theorem LaidD.at{F H:Hp}(s:QI F H):∀{xs:List (KK×Addr×V)} {ls:List (KK×Int)},LaidD F xs ls->∀x∈xs,V0 H x.1 x.2.1
 |_,_,.nil,x,a=>nomatch a
 |_,_,.cons h t,x,a=>by
  rcases Xe.mp a with rfl|a
  .exact h.mono λb ys e=>s _ _ e
  .exact t.at s x a
inductive LeavD(F H:Hp):List (List Key×V)->List (List Key×Ql)->Qg->Prop
 |nil:LeavD F H [] [] []
 |cons {k:List Key}{a:Addr}{ns:Ql}{xs:List (List Key×V)}{ls:List (List Key×Ql)}{as:Qg}:Wu F H a (ns.map PyData.int)->LeavD F H xs ls as->LeavD F H ((k,.ref a)::xs) ((k,ns)::ls) (a::as)
theorem LeavD.mem{F H:Hp}:∀{xs:List (List Key×V)} {ls:List (List Key×Ql)} {as:Qg},LeavD F H xs ls as->∀a∈as,F a=none/\H a≠none
 |_,_,_,.nil,a,f=>nomatch f
 |_,_,_,.cons h t,a,f=>by
  rcases Xe.mp f with rfl|f
  .obtain⟨m,xs,i,_⟩:=h;exact⟨m,Yy i⟩
  .exact t.mem a f
theorem LeavD.mono{F i H M:Hp}(s:QI F i):∀{xs:List (List Key×V)} {ls:List (List Key×Ql)} {as:Qg},(∀a∈as,i a=none)->(∀a∈as,M a=H a)->LeavD F H xs ls as->LeavD i M xs ls as
 |_,_,_,_,_,.nil=>.nil
 |_,_,_,p,m,.cons h t=>by
  obtain⟨u,xs,r,q⟩:=h;exact .cons ⟨p _ Xb,xs,by rw[m _ Xb];exact r,q.mono s⟩ (t.mono s (λa f=>p a<|Xg _ f) λa f=>m a<|Xg _ f)
theorem LeavD.addrs{F h H M:Hp}:∀{xs:List (List Key×V)} {ls a:List (List Key×Ql)} {as bs:Qg},LeavD F H xs ls as->LeavD h M xs a bs->as=bs
 |_,_,_,_,_,.nil,.nil=>rfl
 |_,_,_,_,_,.cons _ t,.cons _ f=>by rw[t.addrs f]
structure NetOk(P:Program)(w:World)(C:Addr)(N:NetS)(F H:Hp)(a dx e r l d:Addr)(xs:List (List Key×V))(ys:List (KK×Addr×V))(as:Qg):Prop where
 nd:(a::dx::e::r::l::d::as).Nodup
 ins:F a=none/\H a=some (.ins C dx [("ends",.ref e),("rooms",.ref r),("leaving",.ref l),("laid",.ref d)])
 own:F dx=none/\H dx=some (.own a)
 ends:Wu F H e (N.ends.map Zj)
 rooms:Wu F H r (N.rooms.map PyData.int)
 leav:F l=none/\H l=some (.dT xs)/\LeavD F H xs N.leav as
 laid:F d=none/\H d=some (pdO P w d ys)/\LaidD F ys N.laid
def Zr(P:Program)(w:World)(C:Addr)(N:NetS):OwnP where
 ok K F H v p := ∃a dx e r l d xs ys y,v=.ref a/\p=a::dx::e::r::l::d::y/\NetOk P w C N F H a dx e r l d xs ys y
 there:=by
  rintro K F H v p ⟨a,dx,e,r,l,d,xs,ys,y,rfl,rfl,o⟩ b f;obtain⟨_,⟨A,u⟩,⟨Z,D⟩,⟨g,ex,R,_⟩,⟨Y,X,B,_⟩,⟨l1,l2,l3⟩,⟨k,W,_⟩⟩:=o;simp only[Xe]at f;rcases f with rfl|rfl|rfl|rfl|rfl|rfl|f
  .exact⟨A,Yy u⟩
  .exact⟨Z,Yy D⟩
  .exact⟨g,Yy R⟩
  .exact⟨Y,Yy B⟩
  .exact⟨l1,Yy l2⟩
  .exact⟨k,Yy W⟩
  .exact l3.mem b f
 mono:=by
  rintro K F F' H M v p s m h ⟨a,dx,e,r,l,d,xs,ys,y,rfl,rfl,o⟩;obtain⟨nd,⟨A,u⟩,⟨Z,D⟩,⟨g,ex,R,E⟩,⟨Y,X,B,x⟩,⟨l1,l2,l3⟩,⟨k,W,I⟩⟩:=o;refine⟨a,dx,e,r,l,d,xs,ys,y,rfl,rfl,nd,⟨m _<|by simp,by rw[h _<|by simp];exact u⟩,⟨m _<|by simp,by rw[h _<|by simp];exact D⟩,⟨m _<|by simp,ex,by rw[h _<|by simp];exact R,E.mono s⟩,
   ⟨m _<|by simp,X,by rw[h _<|by simp];exact B,x.mono s⟩,⟨m _<|by simp,by rw[h _<|by simp];exact l2,l3.mono s (λb f=>m b<|by simp[f]) λb f=>h b<|by simp[f]⟩,⟨m _<|by simp,by rw[h _<|by simp];exact W,I.mono s⟩⟩
 uniq:=by
  rintro K F H v p q ⟨a,dx,e,r,l,d,xs,ys,y,rfl,rfl,o⟩ ⟨U,G,S,L,Q,T,t,n,J,ev,rfl,O⟩ c z;cases ev;have i:=o.ins.2.symm.trans O.ins.2;injection i with i;injection i with _ A u;subst A;simp only[List.cons.injEq,Prod.mk.injEq,true_and,and_true,V.ref.injEq]at u;obtain⟨rfl,rfl,rfl,rfl⟩:=u;have j:=o.leav.2.1.symm.trans O.leav.2.1;injection j with j;injection j with j;subst j;rw[o.leav.2.2.addrs O.leav.2.2];exact z
end L2
variable {N:L2.NetS}
namespace L2
structure NetC(K:W.Frag)(C:Addr):Prop where
 cl:Cls K C
 ends:Jh K C "ends"
 rooms:Jh K C "rooms"
 leav:Jh K C "leaving"
 laid:Jh K C "laid"
def QQ.net(S:QQ K R F Y O H)(e:zg Y i<|zo v<|Zr P w C N):
 ∃a dx el r l d xs ys as,v=.ref a/\O[i]?=some (some<|.ref a)/\NetOk P w C N F H a dx el r l d xs ys as/\(∀b∈a::dx::el::r::l::d::as,R b=none/\F b=none/\H b≠none)/\
  ∀(M:Hp) (u:NetS) (q:List (List Key×V)) (m:List (KK×Addr×V)) (f:Qg),QI F M->(∀b,b∉a::dx::el::r::l::d::as->H b≠none->M b=H b)->(∀b,H b≠none->M b≠none)->
   NetOk P w C u F M a dx el r l d q m f->(∀b∈f,b∈as\/(H b=none/\R b=none))->QQ K R F (Y.set i<|zo v<|Zr P w C u) O M:=by
 obtain⟨g,p,⟨a,dx,el,r,l,d,xs,ys,as,rfl,rfl,A⟩,B,y⟩:=S.writeOwn e;refine⟨a,dx,el,r,l,d,xs,ys,as,rfl,g,A,B,λM u q m f c Z X W D=>y M _ _ c Z X ⟨a,dx,el,r,l,d,q,m,f,rfl,rfl,W⟩ λb s=>?_⟩;simp only[Xe]at s ⊢;rcases s with h|h|h|h|h|h|s
 .exact .inl (.inl h)
 .exact .inl (.inr<|.inl h)
 .exact .inl (.inr<|.inr<|.inl h)
 .exact .inl (.inr<|.inr<|.inr<|.inl h)
 .exact .inl (.inr<|.inr<|.inr<|.inr<|.inl h)
 .exact .inl (.inr<|.inr<|.inr<|.inr<|.inr<|.inl h)
 .rcases D b s with z|z
  .exact .inl (.inr<|.inr<|.inr<|.inr<|.inr<|.inr z)
  .exact .inr z
def LeavD.other{b:Addr}{xs:List (List Key×V)}(h:LeavD F H xs ls as)(n:b∉as):LeavD F (upd H b o) xs ls as:=
 h.mono (QI.refl _) (λa f=>(h.mem a f).1) (λa f=>Q6 λz=>n<|z▸f)
def NetOk.setRooms{r:Addr}{xs:List (List Key×V)}{ys:List (KK×Addr×V)}(m:NetOk P w C N F H a dx el r l d xs ys as){ns:Ql}(B:Q1 F za (ns.map PyData.int)):
 NetOk P w C { N with rooms:=ns } F (upd H r<|.lst za) a dx el r l d xs ys as:=by
 obtain⟨h,⟨A,y⟩,⟨q,p⟩,⟨Y,R,X,W⟩,⟨i,k,o,n⟩,⟨v,u,s⟩,⟨c,b,Z⟩⟩:=m;have f:=h;simp only[XY,Xe,not_or]at f;obtain⟨⟨z,x,j,_⟩,⟨t,g,_⟩,⟨e,_⟩,⟨O,K,D⟩,_⟩:=f;exact⟨h,⟨A,by rw[Q6 j];exact y⟩,⟨q,by rw[Q6 g];exact p⟩,⟨Y,R,by rw[Q6 e];exact X,W⟩,⟨i,za,QT,B⟩,⟨v,by rw[Q6<|Ne.symm O];exact u,s.other D⟩,⟨c,by rw[Q6<|Ne.symm K];exact b,Z⟩⟩
def Uw : ∀b,H b≠none->upd H a o b≠none:=λb f=>by
 by_cases z:b=a
 .subst z;rw[QT];rintro⟨⟩
 .rw[Q6 z];exact f
def Ci{f:Int->Int->Int}(c:NetC K C)(e:zg Y i<|zo v<|Zr P w C N){m:Int}(hi:Qr K tb Y (.int k))(h0:0<=k)(M:N.rooms[k.toNat]?=some m)(h:Qr K te Y (.int n))
(hn:ta.nx (Y.set i<|zo v<|Zr P w C { N with rooms:=N.rooms.set k.toNat (f m n) })):QC K (K3 (Wf K (QY i) "rooms") tb te (Ky K) (ipI f) Db) Y ta:=λF0 R F O H H2 x S C'=>by
 obtain⟨a,dx,el,r,l,d,xs,ys,as,rfl,e1,g,_⟩:=S.net e;refine⟨_,e1,a,C,dx,_,.ref r,rfl,g.ins.2,c.cl,c.rooms,rfl,hi R F O H _ S λF1 L y p r1=>?_⟩;cases r1;obtain⟨_,rx,r2,r3⟩:=g.rooms;have j:(N.rooms.map PyData.int)[k.toNat]?=some (.int m):=by rw[Xp,M];rfl
 obtain⟨z,U,T⟩:=(r3.mono p.ff).get j;refine⟨r,rx,k,z,rfl,rfl,SqL.of<|p.hh _ _ r2,h0,U,h R F1 O L _ (S.ext p) λQ E u D Z=>?_⟩;cases Z;cases T;refine⟨m,n,rfl,rfl,?_⟩;obtain⟨a',dx',el',G,l',d',X,W,t,ea,g1,q,hp,wr⟩:=(S.ext<|p.trans D).net e;cases ea;have A:=q.ins.2.symm.trans ((p.trans D).hh _ _ g.ins.2);injection A with A;injection A with _ _ B;simp only[List.cons.injEq,Prod.mk.injEq,true_and,and_true,V.ref.injEq]at B;obtain⟨rfl,rfl,rfl,rfl⟩:=B;obtain⟨q1,I,q2,J⟩:=q.rooms;have hlt:=(Xh.mp M).1;have hr:Q1 Q (I.set k.toNat<|.int<|f m n) ((N.rooms.set k.toNat<|f m n).map PyData.int):=by
  rw[List.map_set];exact J.set (.int _) _
 refine⟨G,I,k,k.toNat,rfl,rfl,q2,?_,?_⟩
 .rw[J.length,Xi];unfold ixN;rw[Xf h0,Xf<|by lia]
 .have s:=hp G (by simp);exact C'.nx Q O _ _ ((x.trans<|p.trans D).wr s.1 s.2.1) (wr _ { N with rooms:=N.rooms.set k.toNat (f m n) } X W t ((S.ext<|p.trans D).sub.upd s.2.1) (λb o _=>Q6 λz=>o<|by rw[z];simp) Uw (q.setRooms hr) λb o=>.inl o) hn
end L2
namespace L2
def NetOk.same{r:Addr}{xs:List (List Key×V)}{ys:List (KK×Addr×V)}
(i:NetOk P w C N F H a dx el r l d xs ys as)(f:NetOk P w C N' F' M a dx' el' r' l' d' xs' ys' as')(s:M a=H a):dx'=dx/\el'=el/\r'=r/\l'=l/\d'=d:=by
 have h:=f.ins.2;rw[s,i.ins.2]at h;grind
def NetOk.setEnds{r:Addr}{xs:List (List Key×V)}{ys:List (KK×Addr×V)}(s:NetOk P w C N F H a dx el r l d xs ys as){ns:List (List Key)}(O:Q1 F za (ns.map Zj)):
 NetOk P w C { N with ends:=ns } F (upd H el<|.lst za) a dx el r l d xs ys as:=by
 obtain⟨h,⟨K,D⟩,⟨v,u⟩,⟨R,k,o,n⟩,⟨q,i,p,m⟩,⟨B,A,y⟩,⟨Y,X,W⟩⟩:=s;have f:=h;simp only[XY,Xe,not_or]at f;obtain⟨⟨z,j,x,_⟩,⟨g,t,_⟩,⟨e,c,b,Z⟩,_⟩:=f;exact⟨h,⟨K,by rw[Q6 j];exact D⟩,⟨v,by rw[Q6 g];exact u⟩,⟨R,za,QT,O⟩,⟨q,i,by rw[Q6<|Ne.symm e];exact p,m⟩,⟨B,by rw[Q6<|Ne.symm c];exact A,y.other Z⟩,⟨Y,by rw[Q6<|Ne.symm b];exact X,W⟩⟩
def Zpp(c:NetC K C)(e:zg Y i<|zo v<|Zr P w C N)(h:Qr K te Y (.int n))(T:N.rooms.length<1000)
(hn:ta.nx (Y.set i<|zo v<|Zr P w C { N with rooms:=N.rooms++[n] })):QC K (Je<|tBM K "list" GV (Wf K (QY i) "rooms")<|QX te Zo) Y ta:=λF0 R F O H H2 x S J=>by
 obtain⟨a,dx,el,r,l,d,xs,ys,as,rfl,E,p,_⟩:=S.net e;refine⟨_,E,a,C,dx,_,.ref r,rfl,p.ins.2,c.cl,c.rooms,rfl,.inl ⟨rfl,_,SqL.of p.rooms.2.choose_spec.1⟩,h R F O H _ S λI L u q Z=>?_⟩;cases Z;obtain⟨a',G,o,D,Q,d',y,s,B,t,U,f,k,X⟩:=(S.ext q).net e;cases t;obtain⟨rfl,rfl,rfl,rfl,rfl⟩:=p.same f ((q.hh _ _ p.ins.2).trans p.ins.2.symm);obtain⟨M,g,j,W⟩:=f.rooms;have m:=k D (by simp);refine⟨D,g,.int n,rfl,rfl,j,by rw[W.length,Xi];exact VR<|by lia,?_⟩;exact J.nx I O _ _ ((x.trans q).wr m.1 m.2.1) (X _ { N with rooms:=N.rooms++[n] } y s B ((S.ext q).sub.upd m.2.1) (λb A _=>Q6 λz=>A<|by rw[z];simp) Uw (f.setRooms<|by rw[XB];exact W.snoc<|.int n) λb A=>.inl A) hn
def ZpX(c:NetC K C)(e:zg Y i<|zo v<|Zr P w C N)(h:Qr K te Y (Zj n))(U:N.ends.length<1000)
(hn:ta.nx (Y.set i<|zo v<|Zr P w C { N with ends:=N.ends++[n] })):QC K (Je<|tBM K "list" GV (Wf K (QY i) "ends")<|QX te Zo) Y ta:=λF0 R F O H H2 x S J=>by
 obtain⟨a,dx,o,r,l,d,xs,ys,as,rfl,E,p,_⟩:=S.net e;refine⟨_,E,a,C,dx,_,.ref o,rfl,p.ins.2,c.cl,c.ends,rfl,.inl ⟨rfl,_,SqL.of p.ends.2.choose_spec.1⟩,h R F O H _ S λI L u s Z=>?_⟩;obtain⟨a',G,q,M,T,d',A,y,D,t,g1,f,k,X⟩:=(S.ext s).net e;cases t;obtain⟨rfl,rfl,rfl,rfl,rfl⟩:=p.same f ((s.hh _ _ p.ins.2).trans p.ins.2.symm);obtain⟨Q,g,j,W⟩:=f.ends;have m:=k q (by simp);refine⟨q,g,u,rfl,rfl,j,by rw[W.length,Xi];exact VR<|by lia,?_⟩;exact J.nx I O _ _ ((x.trans s).wr m.1 m.2.1) (X _ { N with ends:=N.ends++[n] } A y D ((S.ext s).sub.upd m.2.1) (λb B _=>Q6 λz=>B<|by rw[z];simp) Uw (f.setEnds<|by rw[XB];exact W.snoc Z) λb B=>.inl B) hn
def FW(c:NetC K C)(e:zg Y i<|zo v<|Zr P w C N):Qr K (tCB (G7 K)<|QX (Wf K (QY i) "ends") Zo) Y (.int (N.ends.length:Int)):=λR F O H Q S q=>by
 obtain⟨a,dx,m,r,l,d,xs,ys,y,rfl,u,f,_⟩:=S.net e;obtain⟨_,h,s,p⟩:=f.ends;refine⟨_,u,a,C,dx,_,.ref m,rfl,f.ins.2,c.cl,c.ends,rfl,m,h,rfl,.inl<|SqL.of s,?_⟩;have:h.length=N.ends.length:=by rw[p.length,Xi]
 rw[this];exact q F H _ (QF.refl S.sub) (.int _)
end L2
namespace L2
def Vl(ls:List (KK×Int))(k:KK):Option Int:=(ls.find? λx=>decide (x.1=k)).map (·.2)
def We(ls:List (KK×Int))(k:KK)(n:Int):List (KK×Int):=if (Vl ls k).isSome=true then ls.map (λx=>if x.1=k then (x.1,n) else x) else ls++[(k,n)]
theorem LaidD.val{F:Hp}(k:KK):∀{xs:List (KK×Addr×V)} {ls:List (KK×Int)},LaidD F xs ls->YK xs k=(Vl ls k).map V.int
 |_,_,.nil=>rfl
 |_,_,.cons (k:=k') h t=>by
  by_cases e:k'=k
  .simp[YK,Vl, e]
  .have:=t.val k;simpa [YK,Vl, e] using this
theorem LaidD.length{F:Hp}:∀{xs:List (KK×Addr×V)} {ls:List (KK×Int)},LaidD F xs ls->xs.length=ls.length
 |_,_,.nil=>rfl
 |_,_,.cons h t=>by simp[t.length]
theorem LaidD.repl{F:Hp}(k:KK)(n:Int):∀{xs:List (KK×Addr×V)} {ls:List (KK×Int)},LaidD F xs ls->LaidD F (xs.map λx=>if x.1=k then (x.1,x.2.1,.int n) else x) (ls.map λx=>if x.1=k then (x.1,n) else x)
 |_,_,.nil=>.nil
 |_,_,.cons (k:=k') h t=>by
  rw[Xz,Xz];by_cases e:k'=k
  .simp only[e];exact .cons (e▸h) (t.repl k n)
  .simp only[e];exact .cons h (t.repl k n)
theorem LaidD.snoc{F:Hp}{k:KK}{b:Addr}(n:Int)(a:V0 F k b):∀{xs:List (KK×Addr×V)} {ls:List (KK×Int)},LaidD F xs ls->LaidD F (xs++[(k,b,.int n)]) (ls++[(k,n)])
 |_,_,.nil=>.cons a .nil
 |_,_,.cons h t=>.cons h (t.snoc n a)
def LaidD.put{b:Addr}(n:Int)(a:V0 F k b){xs:List (KK×Addr×V)}(t:LaidD F xs ls):LaidD F (Uc xs k b<|.int n) (We ls k n):=by
 unfold Uc We;rw[t.val k,U6];split
 .exact t.repl k n
 .exact t.snoc n a
def N6{k1 k2:List Key}(r:Rep F y (.tuple [Zj k1,Zj k2])):∃b,y=.ref b/\V0 F (k1,k2) b:=by
 cases r with
 |tup h a=>
  cases a with
  |cons i a=>
   cases a with
   |cons f a=>
    cases a;obtain⟨p,rfl,s⟩:=Js i;obtain⟨q,rfl,m⟩:=Js f;exact⟨_,rfl,p,q,h,s,m⟩
section
variable {ty:TE}{k1 k2:List Key}
def NetOk.setLaid{r:Addr}{xs:List (List Key×V)}{ys:List (KK×Addr×V)}(s:NetOk P w C N F H a dx el r l d xs ys as)(O:LaidD F ys' ls):
 NetOk P w C { N with laid:=ls } F (upd H d<|pdO P w d ys') a dx el r l d xs ys' as:=by
 obtain⟨h,⟨K,D⟩,⟨v,u⟩,⟨c,Y,b,Z⟩,⟨q,i,p,m⟩,⟨B,A,y⟩,⟨e,z,x⟩⟩:=s;have f:=h;simp only[XY,Xe,not_or]at f;obtain⟨⟨U,T,S,Q,k,_⟩,⟨M,L,J,j,_⟩,⟨I,G,g,E⟩,⟨t,W,o⟩,⟨R,n⟩,X,_⟩:=f;exact⟨h,⟨K,by rw[Q6 k];exact D⟩,⟨v,by rw[Q6 j];exact u⟩,⟨c,Y,by rw[Q6 g];exact b,Z⟩,⟨q,i,by rw[Q6 W];exact p,m⟩,⟨B,by rw[Q6 R];exact A,y.other X⟩,⟨e,QT,O⟩⟩
def Zr7(c:NetC K C)(e:zg Y i<|zo v<|Zr P w C N)(G:Qr K tv Y (.int n))(t:Qr K ty Y (.tuple [Zj k1,Zj k2]))(hl:N.laid.length<1000)
(hn:ta.nx (Y.set i<|zo v<|Zr P w C { N with laid:=We N.laid (k1,k2) n })):QC K (Pl P w (Wf K (QY i) "laid") ty tv) Y ta:=λF0 R F O H H2 x S C'=>
 G R F O H _ S λF1 L u p o=>by
  cases o;obtain⟨a,dx,el,r,l,d,xs,ys,as,rfl,T,q,_⟩:=(S.ext p).net e;refine⟨_,T,a,C,dx,_,.ref d,rfl,q.ins.2,c.cl,c.laid,rfl,t R F1 O L _ (S.ext p) λF2 E y D k=>?_⟩;have s:=S.ext (p.trans D);obtain⟨a',U,M,r',l',g,B,A,X,Q,g1,f,I,j⟩:=s.net e;cases Q;obtain⟨rfl,rfl,rfl,rfl,rfl⟩:=q.same f ((D.hh _ _ q.ins.2).trans q.ins.2.symm);obtain⟨b,rfl,Z⟩:=N6 k;obtain⟨d1,d2,W⟩:=f.laid;refine⟨g,b,A,(k1,k2),rfl,rfl,d2,W.at s.sub,Z.mono λc' z J=>s.sub _ _ J,by rw[W.length];exact VR<|by lia,?_⟩;have h:=I g (by simp);exact C'.nx F2 O _ _ ((x.trans<|p.trans D).wr h.1 h.2.1) (j _ { N with laid:=We N.laid _ n } B _ X (s.sub.upd h.2.1) (λb' m _=>Q6 λz=>m<|by rw[z];simp) Uw (f.setLaid<|W.put n Z) λb' m=>.inl m) hn
end
end L2
namespace L2
def QZ(ls:List (List Key×Ql))(k:List Key):Option (Ql):=(ls.find? λx=>decide (x.1=k)).map (·.2)
def Yo:List (List Key×Ql)->List Key->Int->List (List Key×Ql)
 |[],_,_=>[]
 |(a,f)::r,k,n=>if a=k then (a,f++[n])::r else (a,f)::Yo r k n
theorem LeavD.val{F H:Hp}(k:List Key):∀{xs:List (List Key×V)} {ls:List (List Key×Ql)} {as:Qg},LeavD F H xs ls as->(ZF xs k=none/\QZ ls k=none) \/
 ∃a ns,ZF xs k=some (.ref a)/\QZ ls k=some ns/\a∈as/\Wu F H a (ns.map PyData.int)
 |_,_,_,.nil=>.inl ⟨rfl,rfl⟩
 |_,_,_,.cons (k:=k') (a:=a) (ns:=ns) (ls:=ls) h t=>by
  by_cases e:k'=k
  .exact .inr ⟨a,ns,W5 e,by simp[QZ, e],Xb,h⟩
  .have q:QZ ((k',ns)::ls) k=QZ ls k:=by simp[QZ, e]
   rw[W6 e,q];rcases t.val k with z|⟨s,f,r,p,m,i⟩
   .exact .inl z
   .exact .inr ⟨s,f,r,p,Xg _ m,i⟩
theorem LeavD.app{F H:Hp}(k:List Key){a:Addr}{n:Int}{za:List V}:∀{xs:List (List Key×V)} {ls:List (List Key×Ql)} {as:Qg} {ns:Ql},LeavD F H xs ls as->as.Nodup->ZF xs k=some (.ref a)->QZ ls k=some ns->
 Q1 F za ((ns++[n]).map PyData.int)->LeavD F (upd H a<|.lst za) xs (Yo ls k n) as
 |_,_,_,_,.nil,_,h,_,_=>by cases h
 |_,_,_,ns,.cons (k:=k') (a:=a') (ns:=ns') (ls:=ls) (as:=as) h t,v,f,i,r=>by
  obtain⟨p,w⟩:=XY.mp v;unfold Yo;by_cases e:k'=k
  .rw[W5 e]at f;have q:QZ ((k',ns')::ls) k=some ns':=by simp[QZ, e]
   rw[q]at i;cases f;cases i;rw[Xf e];exact .cons ⟨h.1,za,QT,r⟩ (t.other p)
  .rw[W6 e]at f;have q:QZ ((k',ns')::ls) k=QZ ls k:=by simp[QZ, e]
   rw[q]at i;rw[Xc e];have y:a∈as:=by
    rcases t.val k with z|⟨P,s,O,N,K,D⟩
    .grind
    .grind
   refine .cons ?_ (t.app k w f i r);obtain⟨C,m,B,A⟩:=h;have u:a'≠a:=λz=>p (by rw[z];exact y)
   exact⟨C,m,by rw[Q6 u];exact B,A⟩
theorem LeavD.snoc{F H:Hp}(k:List Key){a:Addr}(o:Wu F H a []):∀{xs:List (List Key×V)} {ls:List (List Key×Ql)} {as:Qg},LeavD F H xs ls as->LeavD F H (xs++[(k,.ref a)]) (ls++[(k,[])]) (as++[a])
 |_,_,_,.nil=>.cons o .nil
 |_,_,_,.cons h t=>.cons h (t.snoc k o)
theorem LeavD.length{F H:Hp}:∀{xs:List (List Key×V)} {ls:List (List Key×Ql)} {as:Qg},LeavD F H xs ls as->xs.length=ls.length
 |_,_,_,.nil=>rfl
 |_,_,_,.cons h t=>by simp[t.length]
def Y1(ls:List (List Key×Ql))(k:List Key):List (List Key×Ql):=if (QZ ls k).isSome=true then ls else ls++[(k,[])]
section
variable {k:List Key}
def NetOk.appLeav{r:Addr}{xs:List (List Key×V)}{ys:List (KK×Addr×V)}(v:NetOk P w C N F H a dx el r l d xs ys as){b:Addr}
(W:ZF xs k=some (.ref b))(Y:QZ N.leav k=some ns)(Z:b∈as)(X:Q1 F za ((ns++[n]).map PyData.int)):NetOk P w C { N with leav:=Yo N.leav k n } F (upd H b<|.lst za) a dx el r l d xs ys as:=by
 obtain⟨m,⟨R,O⟩,⟨A,y⟩,⟨G,o,E,t⟩,⟨u,p,s,q⟩,⟨K,D,B⟩,⟨L,J,I⟩⟩:=v;have i:=m;simp only[XY,Xe,not_or]at i;obtain⟨⟨a1,a2,a3,a4,a5,S⟩,⟨b1,b2,b3,b4,Q⟩,⟨c1,c2,c3,M⟩,⟨g1,U,e⟩,⟨T,c⟩,j,g⟩:=i;have f:∀{x:Addr},x∉as->x≠b:=λh z=>h (by rw[z];exact Z)
 exact⟨m,⟨R,by rw[Q6<|f S];exact O⟩,⟨A,by rw[Q6<|f Q];exact y⟩,⟨G,o,by rw[Q6<|f M];exact E,t⟩,⟨u,p,by rw[Q6<|f e];exact s,q⟩,⟨K,by rw[Q6<|f c];exact D,B.app k g W Y X⟩,⟨L,by rw[Q6<|f j];exact J,I⟩⟩
end
end L2
namespace L2
section
variable {ty:TE}{k:List Key}
def Ld(c:NetC K C)(e:zg Y i<|zo v<|Zr P w C N)(h:Qr K te Y (.int n))(T:QZ N.leav k=some ns)(hz:ns.length<1000)
(hn:ta.nx (Y.set i<|zo v<|Zr P w C { N with leav:=Yo N.leav k n })){H2:Ends}(x:QF F0 R F H)(S:QQ K R F Y O H)(C':Cnv K F0 R ta H2)
{r:Addr}{xs:List (List Key×V)}{ys:List (KK×Addr×V)}(q:NetOk P w C N F H a dx el r l d xs ys as)(U:v=.ref a)(A:ZF xs k=some (.ref al)):
 tyV K "list" (.ref al) H/\QX te Zo O H λvs E=>GV (.ref al) vs E λ_ H3=>H2.nx O H3:=by
 have p:∀{F H:Hp} {a dx el r l d:Addr} {xs:List _} {ys:List _} {as:Qg},NetOk P w C N F H a dx el r l d xs ys as->ZF xs k=some (.ref al)->al∈as/\Wu F H al (ns.map PyData.int):=λq A=>by
  rcases q.leav.2.2.val k with z|⟨a2,J,z1,z2,z3,z4⟩
  .grind
  .grind
 obtain⟨_,_,za,X,_⟩:=p q A;refine⟨.inl ⟨rfl,_,SqL.of X⟩,h R F O H _ S λF1 L u y I=>?_⟩;cases I;obtain⟨a',dx',el',r',l',d',t,D,g,o,g1,m,Q,G⟩:=(S.ext y).net e;rw[U]at o;cases o;obtain⟨rfl,rfl,rfl,rfl,rfl⟩:=q.same m ((y.hh _ _ q.ins.2).trans q.ins.2.symm);have f:=m.leav.2.1.symm.trans (y.hh _ _ q.leav.2.1);injection f with f;injection f with f;subst f;obtain⟨W,m2,B,M,j⟩:=p m A;have s:=Q al (by simp[W]);refine⟨al,B,.int n,rfl,rfl,M,by rw[j.length,Xi];exact VR<|by lia,?_⟩;exact C'.nx F1 O _ _ ((x.trans y).wr s.1 s.2.1) (G _ { N with leav:=Yo N.leav k n } _ D g ((S.ext y).sub.upd s.2.1) (λb Z _=>Q6 λz=>Z<|by rw[z];simp[W]) Uw
  (m.appLeav A T W<|by rw[XB];exact j.snoc<|.int n) (λb Z=>.inl Z)) hn
def Cb(ls:List (List Key×Ql))(h:QZ ls k=none):QZ (ls++[(k,[])]) k=some []:=by
 induction ls with
 |nil=>simp[QZ]
 |cons x ls m=>
  obtain⟨a,f⟩:=x
  by_cases e:a=k
  .simp[QZ, e]at h
  .have q:QZ ((a,f)::ls) k=QZ ls k:=by simp[QZ, e]
   rw[q]at h;have i:QZ ((a,f)::ls++[(k,[])]) k=QZ (ls++[(k,[])]) k:=by simp[QZ, e]
   rw[i];exact m h
def ZpD(c:NetC K C)(e:zg Y i<|zo v<|Zr P w C N)(hy:Qr K ty Y (Zj k))(hl:N.leav.length<1000)(hz:∀ns,QZ (Y1 N.leav k) k=some ns->ns.length<1000)
(h:Qr K te (Y.set i<|zo v<|Zr P w C { N with leav:=Y1 N.leav k }) (.int n))(hn:ta.nx (Y.set i<|zo v<|Zr P w C { N with leav:=Yo (Y1 N.leav k) k n })):
 QC K (Je<|tBM K "list" GV (Tp (Wf K (QY i) "leaving") ty<|MT Zo)<|QX te Zo) Y ta:=λF0 R F O H H2 x S C'=>by
 obtain⟨a,dx,el,r,l,d,xs,ys,as,rfl,e1,ok,hp0,_⟩:=S.net e;refine⟨_,e1,a,C,dx,_,.ref l,rfl,ok.ins.2,c.cl,c.leav,rfl,l,rfl,.inr ⟨xs,Rd.of ok.leav.2.1⟩,hy R F O H _ S λF1 L y x1 r1=>⟨X3 _,λp j=>?_⟩⟩;have T:=S.ext x1;have x2:QF F1 L F1 (upd L p<|.lst []):=QF.own T.sub j;obtain⟨a',B,A,G,X,Q,m,Z,f,ea,g1,g,hp',wr⟩:=T.net e;cases ea;obtain⟨rfl,rfl,rfl,rfl,rfl⟩:=ok.same g ((x1.hh _ _ ok.ins.2).trans ok.ins.2.symm);have hlt:=(Xh.mp e).1;obtain⟨b,rfl,hb⟩:=Js r1;obtain⟨l1,l2,l3⟩:=g.leav;have np:∀q∈a::B::A::G::X::Q::f,q≠p:=λq hq z=>by rw[z]at hq;exact(hp' p hq).2.2 j
 have lp:=np X (by simp);have bp:b≠p:=λz=>by rw[z]at hb;rw[T.sub _ _ hb]at j;cases j
 have h0p:=(x.trans x1).hh.free j;refine⟨m,k,b,rfl,by rw[Q6 lp];exact l2,by rw[Q6 bp];exact T.sub _ _ hb,by rw[l3.length];exact VR<|by lia,λv0 D=>?_,λD=>?_⟩
 .rcases l3.val k with z|⟨al,ns,z1,o,z3,z4⟩
  .rw[D]at z;cases z.1
  .rw[D]at z1;cases z1;have J:Y1 N.leav k=N.leav:=by unfold Y1;rw[o];rfl
   rw[J]at h hn hz;have S3:=T.ext x2;have W:NetOk P w C N F1 (upd L p<|.lst []) a B A G X Q m Z f:=by
    obtain⟨q0,q1,q2,q3,q4,q5,I⟩:=g;obtain⟨M,ex,e2,e3⟩:=q3;obtain⟨E,rx,r2,r3⟩:=q4;exact⟨q0,⟨q1.1,by rw[Q6<|np a<|by simp];exact q1.2⟩,⟨q2.1,by rw[Q6<|np B<|by simp];exact q2.2⟩,⟨M,ex,by rw[Q6<|np A<|by simp];exact e2,e3⟩,⟨E,rx,by rw[Q6<|np G<|by simp];exact r2,r3⟩,
     ⟨q5.1,by rw[Q6 lp];exact q5.2.1,q5.2.2.other λz=>np p (by simp[z]) rfl⟩,⟨I.1,by rw[Q6<|np Q<|by simp];exact I.2.1,I.2.2⟩⟩
   have S4:=wr _ N m Z f S3.sub (λU _ s=>Q6 λz=>s<|by rw[z];exact j) Uw W (λU s=>.inl s);exact Ld (N:=N) c (Bu hlt) h o (hz ns o) (by rw[List.set_set];exact hn) (x.trans<|x1.trans x2) S4 C' W rfl D
 .have o:QZ N.leav k=none:=by
   rcases l3.val k with z|⟨al,ns,z1,o,z3,z4⟩
   .exact z.2
   .rw[D]at z1;cases z1
  have J:Y1 N.leav k=N.leav++[(k,[])]:=by unfold Y1;rw[o];rfl
  rw[J]at h hn hz;have fp:=T.sub.free j;have W:NetOk P w C { N with leav:=N.leav++[(k,[])] } F1 (upd (upd L p<|.lst []) X<|.dT<|m++[(k,.ref p)]) a B A G X Q (m++[(k,.ref p)]) Z (f++[p]):=by
   obtain⟨q0,q1,q2,q3,q4,q5,I⟩:=g;obtain⟨M,ex,e2,e3⟩:=q3;obtain⟨E,rx,r2,r3⟩:=q4;have nd':=q0;simp only[XY,Xe,not_or]at nd';obtain⟨⟨a1,a2,a3,a4,a5,a6⟩,⟨b1,b2,b3,b4,b5⟩,⟨c1,c2,c3,c4⟩,⟨g1',g2,g3⟩,⟨h1,h2⟩,f1,f2⟩:=nd';have up:∀{q:Addr},q∈a::B::A::G::X::Q::f->q≠X->upd (upd L p<|.lst []) X (.dT<|m++[(k,.ref p)]) q=L q:=λhq ne=>by rw[Q6 ne,Q6<|np _ hq]
   refine⟨?_,⟨q1.1,by rw[up (by simp) a4];exact q1.2⟩,⟨q2.1,by rw[up (by simp) b3];exact q2.2⟩,⟨M,ex,by rw[up (by simp) c2];exact e2,e3⟩,⟨E,rx,by rw[up (by simp) g1'];exact r2,r3⟩,⟨l1,QT,?_⟩,⟨I.1,by rw[up (by simp)<|Ne.symm h1];exact I.2.1,I.2.2⟩⟩
   .have:(a::B::A::G::X::Q::(f++[p]))=(a::B::A::G::X::Q::f)++[p]:=by simp
    rw[this,G4];refine⟨q0,by simp,λu hu t ht=>?_⟩;cases Xt.mp ht;exact np u hu
   .refine LeavD.snoc k ⟨fp,[],by rw[Q6<|Ne.symm lp,QT],.nil⟩ ?_;exact(l3.other λz=>np p (by simp[z]) rfl).other h2
  have S4:=
   wr _ _ _ Z (f++[p]) ((T.sub.upd fp).upd l1) (λU hb1 hb2=>by rw[Q6 (λz=>hb1<|by rw[z];simp),Q6 λz=>hb2<|by rw[z];exact j]) (λU s=>Uw U<|Uw U s) W (λU s=>by
    rcases XA.mp s with z|z
    .exact .inl z
    .cases Xt.mp z;exact .inr ⟨j,h0p⟩)
  have hl0:=hp' X (by simp);exact Ld c (Bu hlt) h (Cb _ o) (hz []<|Cb _ o) (by rw[List.set_set];exact hn) ((x.trans<|x1.trans x2).wr hl0.1 hl0.2.1) S4 C' W rfl (by
   rw[F7 k k (.ref p) m D,Xf rfl])
end
end L2
namespace L2
structure KTup(K:W.Frag)(g:Addr)(x:Str):Prop where
 ex:∃(d:Qj) (t:Nat) (n:Nat) (sl:Array (Qf)),K.lookup g=some ⟨.type "tuple",d,.seq #[.str x t] n,sl⟩
def ZrM{f:Shared}
(KX:K.In f.heap)(L:f.heap.Ns mainGlobals mg)(y:f.heap.Ns builtinsNs mb)(hbb:∀x:Str,x ≠ "__name__" -> mb x=bootBuiltins x)(Q:f.heap.NoLimit)(hg:f.gens=#[])
(g:f.heap.get? a=some { cls:=.type "list",data:=.seq vs.toArray })(hi:IntsAre vs ns)(hl:ns.length<=sizeLine)(hr:Room k callerA)(tS:KTup K gS "start")(tE:KTup K gE "end")
(F:∀base:Heap,K.In base->base.Ns mainGlobals mg->FnOk P w K mg base CX0 k fa fd [x] sp)(Y:∀(s:Shared) (u:Value),BindsTo s fd ⟨[u],[]⟩ [(x,u)])
(hsp:∀H:Hp,SqL K H a (ns.map V.int)->H gS=some (.tup [.str "start"])->H gE=some (.tup [.str "end"])->sp [.ref a] H (λv _=>v=.bl true) λ_ _ _=>False):
 codeAny (model P w) callerA (.call (.ref fa) ⟨[.ref a],[]⟩) (λr R=>r=.ok (.ret<|.bool true)/\OldK f.heap R.heap/\R.os=f.os/\AllBare R.gens) f:=by
 have rv:=Fy hi;have E:=hi.length;obtain⟨dS,kS,cS,slS,lS⟩:=tS.ex;obtain⟨dE,kE,cE,slE,lE⟩:=tE.ex;have Z:=KX gS _ lS;have c:=KX gE _ lE;have naS:gS≠a:=λz=>by
  rw[z,g]at Z;injection Z with l;injection l with X;injection X with j;exact Xr j (by decide)
 have naE:gE≠a:=λz=>by
  rw[z,g]at c;injection c with l;injection l with X;injection X with j;exact Xr j (by decide)
 have nSE:gE≠gS:=λz=>by
  rw[z,lS]at lE;injection lE with l;injection l with _ _ X _;injection X with j _;have z4:=XS Array.toList j;simp only[List.cons.injEq,Value.str.injEq,and_true]at z4;exact Xr z4.1 (by decide)
 have W:∀i:Hp,Z1r i->SqL K i a (ns.map V.int)->HOk P w i f.heap->(∀b,i b≠none->b=a)->(i a≠none->K.lookup a=none)->
  codeAny (model P w) callerA (.call (.ref fa) ⟨[.ref a],[]⟩) (λr R=>r=.ok (.ret<|.bool true)/\OldK f.heap R.heap/\R.os=f.os/\AllBare R.gens) f:=by
  intro i hO hSq J hA hK;have fS:i gS=none:=by
   cases q:i gS with
   |none=>rfl
   |some u=>exact Xr (hA gS<|by rw[q];simp) naS
  have fE:i gE=none:=by
   cases q:i gE with
   |none=>rfl
   |some u=>exact Xr (hA gE<|by rw[q];simp) naE
  have p:∀{b:Addr} {o:Obj},f.heap.get? b=some o->i b=none->(Ua f.heap i).get? b=some o:=λe n=>Ztz e n
  have noA:∀{b:Addr} {o:Obj} {es:Array DictEntry} {ep:Nat},f.heap.get? b=some o->o.data=.dict es ep->i b=none:=λ{b o es ep} e d=>by
   cases q:i b with
   |none=>rfl
   |some u=>
    have e':b=a:=hA b (by rw[q];simp);subst e';rw[g]at e;cases e;have d':=d;cases d'
  have D:∀{b:Addr} {m:Str->Qf},f.heap.Ns b m->(Ua f.heap i).Ns b m:=λ{b m} ⟨o,es,ep,e,d,r⟩=>⟨o,es,ep,p e<|noA e d,d,r⟩
  have S:=λb o e=>p (KX b o e) (by
   cases q:i b with
   |none=>rfl
   |some u=>
     have e':b=a:=hA b (by rw[q];simp);subst e';rw[hK<|by rw[q];simp]at e;cases e)
  have hM:Mod K mg (Ua f.heap i):=⟨S,D L,⟨mb,D y,hbb⟩,let ⟨mc,B,A⟩:=Q;⟨mc,D B,A⟩⟩
  let H:Hp:=upd (upd i gS<|.tup [.str "start"]) gE (.tup [.str "end"])
  have N:H gS=some (.tup [.str "start"]):=by show upd _ _ _ gS=_;rw[Q6<|Ne.symm nSE,QT]
  have O:H gE=some (.tup [.str "end"]):=QT;have C:∀b,b≠gS->b≠gE->H b=i b:=λb B A=>by show upd _ _ _ b=_;rw[Q6 A,Q6 B]
  have sm:QI i H:=λb u e=>by
   rw[C b (λz=>by rw[z,fS]at e;cases e) λz=>by rw[z,fE]at e;cases e];exact e
  have l1:∀x:Str,[V.str x].length<=sizeLine:=λ_=>X4 (VR J1)
  have G:HOk P w H f.heap:=λb u e=>by
   by_cases B:b=gS
   .subst B;rw[N]at e;cases e;exact⟨l1 _,[.str "start" kS],.cons ⟨kS,rfl⟩ .nil,⟨_,Z,rfl,_,rfl⟩⟩
   .by_cases A:b=gE
    .subst A;rw[O]at e;cases e;exact⟨l1 _,[.str "end" kE],.cons ⟨kE,rfl⟩ .nil,⟨_,c,rfl,_,rfl⟩⟩
    .rw[C b B A]at e;rcases hO b with z|⟨o,xs,z⟩
     .rw[z]at e;cases e
     .rw[z]at e;cases e;obtain⟨q1,q2⟩:=J b _ z;exact⟨q1,q2⟩
  have e0:Env0 P w K mg (Ua f.heap i) callerA [] f H:=⟨rfl,hM,λb o e=>by
   obtain⟨e1,e2⟩:=IT e;refine⟨e1,?_⟩
   by_cases B:b=gS
   .exact .inr ⟨_,by rw[B];exact N⟩
   .by_cases A:b=gE
    .exact .inr ⟨_,by rw[A];exact O⟩
    .exact .inl (by rw[C b B A];exact e2),Nat.le_of_eq<|Zry _ _,trivial,λb y=>Xr (show b∈([]:Qg) from y)<|by simp,G,.of_eq hg⟩
  refine codeAny_mono ((F _ S<|D L).run callerA [] f H ⟨[.ref a],[]⟩ [.ref a] [.ref a] _ _ hr e0 (Y f<|.ref a) (.cons rfl .nil) (hsp H (sm.seq hSq) N O)) λr R h=>?_
  cases r with
  |error e=>exact False.elim h
  |ok fl=>
   cases fl with
   |next=>exact False.elim h
   |brk=>exact False.elim h
   |cont=>exact False.elim h
   |ret u=>
    obtain⟨v,M,os,T,U,I,r',q⟩:=h;have q':v=.bl true:=q;subst q';obtain rfl:u=Value.bool true:=r';refine⟨rfl,OldK.of_keep λb o e=>?_,os,T⟩
    by_cases B:b=gS
    .subst B;exact U.tupo b _ o N e (by simp)
    .by_cases A:b=gE
     .subst A;exact U.tupo b _ o O e (by simp)
     .rcases hO b with z|⟨ob,xs,z⟩
      .exact U.keep b o e (by rw[C b B A];exact z) (by intro z;exact Xr (show b∈([]:Qg) from z)<|by simp) (by simp)
      .have X:=U.frzs b ob _ (by rw[C b B A];exact z);obtain⟨e1,_⟩:=J b _ z;obtain⟨e2,_⟩:=I b _ X;rw[e]at e1;cases e1;exact e2
 cases hk:K.lookup a with
 |some o=>
  have e:=KX a o hk;rw[g]at e;cases e;refine W (λ_=>none) (λ_=>.inl rfl) (.inr ⟨_,vs.toArray,_,hk,rfl,rfl,rfl,by rw[Xv,E];exact hl,by simpa using rv⟩) (λb u z=>by have t:(none:Option HO)=some u:=z;cases t) (λb z=>Xr rfl z) λz=>Xr rfl z
 |none=>
  refine W (λb=>if b=a then some (.frz { cls:=.type "list",data:=.seq vs.toArray }<|.lst<|ns.map V.int) else none) (λb=>?_) (.inl<|.inr ⟨{ cls:=.type "list",data:=.seq vs.toArray },Xf rfl⟩) (λb u z=>?_) (λb z=>?_) λ_=>hk
  .by_cases y:b=a
   .exact .inr ⟨_,_,Xf y⟩
   .exact .inl (Xc y)
  .by_cases y:b=a
   .have t:=(Xf y).symm.trans z;cases t;subst y;exact⟨g,by rw[Xi];exact hl,vs,_,rv,g⟩
   .have t:=(Xc y).symm.trans z;cases t
  .by_cases y:b=a
   .exact y
   .exact Xr (Xc y) z
def ZsK{l:W.OpenLaw}{q:Program}{K:Params->W.Frag}
(hn:l.most=some 63)(C:d.params.defaults=[])(Z:Room k callerA)
(g:∀(w:World) (h:Heap),YP w h->(K w.params).In h)
(F:∀(w:World) (mg:Str->Qf) (A:Addr) (h:Heap),(K w.params).In h->h.Ns mainGlobals mg->mg d.name=some (.ref A)->
  (∃v y,W.nsIn (K w.params) mainGlobals "START"=some (some<|.ref v)/\W.nsIn (K w.params) mainGlobals "END"=some (some<|.ref y)/\KTup (K w.params) v "start" /\ KTup (K w.params) y "end")/\
  ∃fd:FuncData,(∀(s:Shared) (u:Value),BindsTo s fd ⟨[u],[]⟩ [(x,u)])/\
   ∀base:Heap,(K w.params).In base->base.Ns mainGlobals mg->FnOk l.prog w (K w.params) mg base CX0 k A fd [x] (Dy<|K w.params)):
 W.WalkO q loose XP YP l.row.toRowW d [] (λf vs=>PySem.call f vs):=by
 refine Att.attach_callW hn C λw D Q mg J A o I cd E a vs R G ρ L M c B r m i p b=>?_
 have N:=g w _ ρ;obtain⟨⟨v,y,Y,X,P,O⟩,fd,e,n⟩:=F w mg A _ N G.T.g B;exact ZrM N G.T.g G.T.b G.T.builtins G.T.nolimit b r m (Xx i<|by decide) Z P O n e (λH j z t=>⟨a,R,rfl,.inr ⟨v,y,Y,X,z,t⟩,⟨j,i,p⟩,λ_=>rfl⟩)
def NN  {g:Addr}(a:W.nsIn K mainGlobals "START"=some (some<|.ref g)):Qr K (tC<|.ref g) Y (Zj [.inr "start"]):=λR F O H Q S q=>by
 rcases S.kt with f|⟨p,r,f,m,h,i⟩<;>rw[f]at a<;>cases a
 exact q F H _ (QF.refl S.sub) (.tup h<|.cons (.str _) .nil)
def PR  {g:Addr}(b:W.nsIn K mainGlobals "START"=some (some<|.ref g'))(a:W.nsIn K mainGlobals "END"=some (some<|.ref g)):Qr K (tC<|.ref g) Y (Zj [.inr "end"]):=λR F O H Q S q=>by
 rcases S.kt with i|⟨p,r,i,h,m,f⟩
 .grind
 .rw[h]at a;cases a;exact q F H _ (QF.refl S.sub) (.tup f<|.cons (.str _) .nil)
end L2
namespace L2
def KP(a:Room k A):A.units+6<cLine:=Kb (Nat.add_le_add_left (by decide) _) a.units
def Tq(a tv:TE):TE:=λO H Q=>∀p,H p=none->a O (upd H p<|.dT []) λx L=>tv O L λy E=>∃k b,x=.ref b/\E p=some (.dT [])/\E b=some (.tup<|k.map kV)/\Q (.ref p) (upd E p<|.dT [(k,y)])
def Ztq(J:X.A.units+1<cLine)(R:PE X ke tk)(K:PE X ve tv):PE X (.Dict [some ke] [ve] pos) (Tq tk tv):=by
 intro Z s O H Q I q;have P:=I.hok.fresh (Xn s.heap.objs.size);have t:=I.laid (t':=s.toks) (λ_ _ q=>Xd _ q) (Xn _) (LV s.heap I.big);refine wpAny_Dict_any rfl rfl (by simp) (by simp) (pairTrees_cons_walk<|QE (R Z _ O _ _ t<|q _ P) ?_);rintro G v ⟨x,L,o,A,C⟩;refine QE (K Z v O L _ o C) ?_;rintro u F ⟨y,E,i,w,k,b,l,e,r,B⟩;refine pairTrees_nil_walk ?_;subst l;obtain rfl:=A;obtain⟨z,W,xs,a,dd⟩:=Kp i.hok e;have D:xs=[]:=by cases a;rfl
 subst D;unfold storeAll;rw[List.forIn_cons];refine Xa (Xa<|wpAny_dictSet_heap (hsz:=X3 _) (show X.A.units<cLine by lia) (Jm i.hok r) dd λh' h N=>Xl ?_);obtain⟨m,es,n,p,j,g,d,_,Y⟩:=h;refine Xl ⟨.ref s.heap.objs.size,upd E s.heap.objs.size<|.dT [(k,y)],Mr i (by rw[e];exact True.intro) N ⟨m,p⟩ ⟨X4<|VR<|by simp,W,_,(show KT E [_] [(k,b,u)] from .cons ⟨rfl,r,w⟩ .nil).keeps λc ys f=>?_,m,es,n,p,j,g,d,Y⟩,rfl,B⟩;rw[Q6 λz=>by subst z;rw[e]at f;cases f];exact f
def Zti(A:Qr K tk Y (Zj k))(w:Qr K tv Y d):EvX K (Tq tk tv) Y (VW [(k,d)]):=λR F O H Q S q=>λp h=>by
 have i:QF F H F (upd H p<|.dT []):=QF.own S.sub h;have D:=S.sub.free h;refine A R F O _ _ (S.ext i) λW L x s v=>w R W O L _ (S.ext<|i.trans s) λP E y r u=>?_;obtain⟨b,rfl,B⟩:=Js v;have X:=s.trans r;have m:=X.hh _ _ QT;have f:=X.free D (by rw[QT];rintro⟨⟩);have N:=i.trans X;refine⟨k,b,rfl,m,X.fh _ _<|r.ff _ _ B,q P _ _ [p] (N.wr h f) (λa C=>by cases Xt.mp C;exact h) ⟨p,_,rfl,rfl,f,QT,.cons u .nil⟩⟩
inductive LeavZ(F:Hp):List (List Key×V)->List (List Key×Ql)->Prop
 |nil:LeavZ F [] []
 |cons {k:List Key}{a:Addr}{ns:Ql}{za:List V}{xs:List (List Key×V)}{ls:List (List Key×Ql)}:F a=some (.lst za)->Q1 F za (ns.map PyData.int)->LeavZ F xs ls->LeavZ F ((k,.ref a)::xs) ((k,ns)::ls)
theorem LeavZ.mono{F a:Hp}(s:QI F a):∀{xs:List (List Key×V)} {ls:List (List Key×Ql)},LeavZ F xs ls->LeavZ a xs ls
 |_,_,.nil=>.nil
 |_,_,.cons h r t=>.cons (s _ _ h) (r.mono s) (t.mono s)
theorem LeavZ.val{F:Hp}(k:List Key):∀{xs:List (List Key×V)} {ls:List (List Key×Ql)},LeavZ F xs ls->(ZF xs k=none/\QZ ls k=none)\/∃a ns za,ZF xs k=some (.ref a)/\QZ ls k=some ns/\F a=some (.lst za)/\Q1 F za (ns.map PyData.int)
 |_,_,.nil=>.inl ⟨rfl,rfl⟩
 |_,_,.cons (k:=k') (a:=a) (ns:=ns) (za:=za) (ls:=ls) h r t=>by
  by_cases e:k'=k
  .exact .inr ⟨a,ns,za,W5 e,by simp[QZ, e],h,r⟩
  .have q:QZ ((k',ns)::ls) k=QZ ls k:=by simp[QZ, e]
   rw[W6 e,q];exact t.val k
theorem LeavD.fz{F a H:Hp}(s:QI F a):∀{xs:List (List Key×V)} {ls:List (List Key×Ql)} {as:Qg},LeavD F H xs ls as->(∀b∈as,a b=H b)->LeavZ a xs ls
 |_,_,_,.nil,_=>.nil
 |_,_,_,.cons h t,f=>by
  obtain⟨q,xs,p,m⟩:=h;exact .cons (by rw[f _ Xb];exact p) (m.mono s) (t.fz s λb i=>f b<|Xg _ i)
structure NetFz(P:Program)(w:World)(C:Addr)(N:NetS)(F:Hp)(a dx e r l d:Addr)(xs:List (List Key×V))(ys:List (KK×Addr×V)):Prop where
 ins:F a=some (.ins C dx [("ends",.ref e),("rooms",.ref r),("leaving",.ref l),("laid",.ref d)])
 ends:∃ex,F e=some (.lst ex)/\Q1 F ex (N.ends.map Zj)
 rooms:∃rx,F r=some (.lst rx)/\Q1 F rx (N.rooms.map PyData.int)
 leav:F l=some (.dT xs)/\LeavZ F xs N.leav
 laid:F d=some (pdO P w d ys)/\LaidD F ys N.laid
def NetFz.mono{r:Addr}{xs:List (List Key×V)}{ys:List (KK×Addr×V)}(s:QI F F')(h:NetFz P w C N F a dx e r l d xs ys):NetFz P w C N F' a dx e r l d xs ys:=by
 obtain⟨B,⟨D,A,y⟩,⟨f,v,u⟩,⟨q,p⟩,⟨m,i⟩⟩:=h;exact⟨s _ _ B,⟨D,s _ _ A,y.mono s⟩,⟨f,s _ _ v,u.mono s⟩,⟨s _ _ q,p.mono s⟩,⟨s _ _ m,i.mono s⟩⟩
def Vr(P:Program)(w:World)(C:Addr)(N:NetS):ZP where
 ok K F v := ∃a dx e r l d xs ys,v=.ref a/\NetFz P w C N F a dx e r l d xs ys
 mono:=by
  rintro K F f v s ⟨a,dx,e,r,l,d,xs,ys,rfl,h⟩;exact⟨a,dx,e,r,l,d,xs,ys,rfl,h.mono s⟩
def NetOk.fz{r:Addr}{xs:List (List Key×V)}{ys:List (KK×Addr×V)}(p:NetOk P w C N F H a dx el r l d xs ys as)(s:QI F F')(f:∀b∈a::dx::el::r::l::d::as,F' b=H b):
 NetFz P w C N F' a dx el r l d xs ys:=by
 obtain⟨W,⟨Y,v⟩,_,⟨Z,A,D,B⟩,⟨R,h,m,i⟩,⟨X,u,q⟩,⟨c,O,K⟩⟩:=p;exact⟨by rw[f _<|by simp];exact v,⟨A,by rw[f _<|by simp];exact D,B.mono s⟩,⟨h,by rw[f _<|by simp];exact m,i.mono s⟩,⟨by rw[f _<|by simp];exact u,q.fz s λb y=>f b<|by simp[y]⟩,⟨by rw[f _<|by simp];exact O,K.mono s⟩⟩
def Zr.fz{p:Qg}(h:(Zr P w C N).ok K F H v p)(s:QI F F')(f:∀b∈p,F' b=H b):(Vr P w C N).ok K F' v:=by
 obtain⟨a,dx,e,r,l,d,xs,ys,i,rfl,rfl,o⟩:=h;exact⟨a,dx,e,r,l,d,xs,ys,rfl,o.fz s f⟩
def GE(kvs:Yk):ZP where
 ok K F v := ∃a xs,v=.ref a/\F a=some (.dT xs)/\PairD F xs kvs
 mono:=by
  rintro K F i v s ⟨a,xs,rfl,h,f⟩;exact⟨a,xs,rfl,s _ _ h,f.mono s⟩
def VW.fz{p:Qg}(h:(VW kvs).ok K F H v p)(s:QI F F')(f:∀b∈p,F' b=H b):(GE kvs).ok K F' v:=by
 obtain⟨a,xs,rfl,rfl,q,m,i⟩:=h;exact⟨a,xs,rfl,by rw[f a Xb];exact m,i.mono s⟩
def QQ.freezeZ{Ψ:ZP}(s:QQ K R F Y O H)(e:zg Y i<|zo v Φ)
(hz:∀{F f H:Hp} {u:V} {p:Qg},Φ.ok K F H u p->QI F f->(∀b∈p,f b=H b)->Ψ.ok K f u):
 ∃p,(∀a∈p,F a=none/\H a≠none/\R a=none)/\QQ K R (frF F H p) (Y.set i<|zz Ψ) O H:=
 s.frz e λu p h=>⟨rfl,hz h.2 (WR λa q=>(Φ.there h.2 a q).1) λb m=>JC m⟩
def KB(i:Nat){Ψ:ZP}(e:zg Y i<|zo v Φ)(hz:∀{F m H:Hp} {u:V} {p:Qg},Φ.ok K F H u p->QI F m->(∀b∈p,m b=H b)->Ψ.ok K m u)
(h:QC K t (Y.set i<|zz Ψ) ta):QC K t Y ta:=λs R F O H H2 x S C=>by
 obtain⟨p,q,r⟩:=S.freezeZ e hz;refine h s R _ O H H2 ⟨x.hh,x.ff.trans<|WR λa f=>(q a f).1,r.sub,λa f=>?_⟩ r C
 by_cases z:a∈p
 .exact .inr (q a z).2.2
 .rw[W4 z]at f;exact x.fr a f
def ZuY(i:Nat)(e:zg Y i<|zo v<|Zr P w C N)(h:QC K t (Y.set i<|zz<|Vr P w C N) ta):QC K t Y ta:=KB i e (λa b c=>Zr.fz a b c) h
def Fm(i:Nat)(e:zg Y i<|zo v<|VW kvs)(h:QC K t (Y.set i<|zz<|GE kvs) ta):QC K t Y ta:=KB i e (λa b c=>VW.fz a b c) h
def ZG(K:W.Frag)(t:TE)(Y:ZcP)(Φ:OT->Prop):Prop := ∀(R F:Hp) (O:St) (H:Hp) (Q:VK),QQ K R F Y O H->(∀f M v p r,Φ r->QF F H f M->(∀a∈p,H a=none)->ZH K f M v r p->Q v M)->t O H Q
def EvO.d{r:OT}(h:EvO K t Y r)(f:Φ r):ZG K t Y Φ:=λR F O H Q S q=>h R F O H Q S λm M v p x i a=>q m M v p r f x i a
def ZG.imp(h:ZG K t Y Φ)(f:∀r,Φ r->Φ' r):ZG K t Y Φ':=λR F O H Q S q=>h R F O H Q S λi M v p r a=>q i M v p r (f r a)
def ZG.o{r:OT}(h:ZG K t Y (λa=>a=r)):EvO K t Y r:=λR F O H Q S q=>h R F O H Q S λm M v p a e x i f=>by subst e;exact q m M v p x i f
def EvX.d(h:EvX K t Y Φ0)(f:∀v,Φ<|.own v Φ0):ZG K t Y Φ:=λR F O H Q S q=>h R F O H Q S λm M v p x i a=>q m M v p _ (f v) x i ⟨rfl,a⟩
def Yx(h:ZG K te Y Φ)(hn:∀r,Φ r->ta.nx (Y.set i<|some r)):QC K (Ww te<|WH i) Y ta:=λl R F O H H2 x S C=>
 h R F O H _ S λd M v p r D f u B=>by
  refine C.nx d _ M _ (x.trans f) ((S.ext f).set B (λa s=>x.hh.free<|u a s) (hn:=λa s j w A q c b m=>?_)) (hn r D);obtain⟨k,W,g,P⟩:=S.fp;obtain⟨e,y,Z⟩:=W j A c;intro N;have X:=Z.ext f;rw[b]at y;cases y;exact(P j a<|Rq X m a N).2 (u a s)
def Mt(h:ZG K te Y Φ)(m:∀r,Φ r->ta.rt r):QC K (GA te) Y ta:=λw R F O H H2 x S C=>
 h R F O H _ S λu M v p r e f q i=>C.rt u M v r p (x.trans f) (λa s=>x.hh.free<|q a s) i (m r e)
def Lw(e:zg Y i<|zo v Φ)(f:ta.rt (.own v Φ)):QC K (GA<|QY i) Y ta:=λw R F O H H2 x S C=>by
 obtain⟨s,h,_,p⟩:=S.fp;obtain⟨u,r,q⟩:=h i _ e;exact⟨_,r,C.rt F H u _ _ x (λa m=>(p i a m).1) q f⟩
def BE(r:OT):Prop := ∀(K:W.Frag) (F f H:Hp) (v:V) (p:Qg),(∀a∈p,f a=none)->ZH K F H v r p->ZH K f H v r p
def Rep.thin{w:V}(r:Rep F v d)(h:YD d=some w):Rep F' v d:=by
 cases r<;>simp[YD]at h
 .exact .non
 .exact .bl _
 .exact .int _
 .exact .str _
def ZsP{w:V}(h:YD d=some w):BE (.fz d):=λK F f H v p _ a=>⟨a.1,a.2.thin h⟩
def Oy(h:Tl ds):BE (.ol ds):=λK F s H v p i f=>by
 obtain⟨a,rfl,rfl,r,xs,q,m⟩:=f;exact⟨a,rfl,rfl,i a Xb,xs,q,m.flats h⟩
def KS(kvs:Yk):Prop := ∀x∈kvs,∃w,YD x.2=some w
theorem PairD.flats{F f:Hp}:∀{xs:List (List Key×V)} {kvs:Yk},KS kvs->PairD F xs kvs->PairD f xs kvs
 |_,_,_,.nil=>.nil
 |_,_,h,.cons r t=>by
  obtain⟨w,e⟩:=h _ Xb;exact .cons (r.thin e) (t.flats λx a=>h x<|Xg _ a)
def OI(h:KS kvs):BE (.own v<|VW kvs):=λK F s H u p i f=>by
 obtain⟨e,a,xs,rfl,rfl,r,q,m⟩:=f;exact⟨e,a,xs,rfl,rfl,i a Xb,q,m.flats h⟩
def Ztp{Ψ:ZP}(i:Nat)(e:zg Y i<|zo v Φ0)(hz:∀{F f H:Hp} {u:V} {p:Qg},Φ0.ok K F H u p->QI F f->(∀b∈p,f b=H b)->Ψ.ok K f u)
(C:∀r,Φ r->BE r)(h:ZG K t (Y.set i<|zz Ψ) Φ):ZG K t Y Φ:=λR F O H Q S q=>by
 obtain⟨p,B,D⟩:=S.freezeZ e hz;refine h R _ O H Q D λf M u w r A x s y=>?_;refine q _ M u w r A (Fe (λa m=>⟨(B a m).1,(B a m).2.1⟩) x) s (C r A K f _ M u w (λa m=>?_) y)
 by_cases z:a∈p
 .rw[Xf z]
 .rw[Xc z];exact(y.there a m).1
def R0(i:Nat)(e:zg Y i<|zo v<|Zr P w C N)(f:∀r,Φ r->BE r)(h:ZG K t (Y.set i<|zz<|Vr P w C N) Φ):ZG K t Y Φ:=
 Ztp i e (λa b c=>Zr.fz a b c) f h
def Zqf{u:V}(i:Nat)(e:zg Y i<|zo v<|Zr P w C N)(f:YD d=some u)(h:Qr K t (Y.set i<|zz<|Vr P w C N) d):Qr K t Y d:=
 EvO.e (ZG.o<|R0 i e (λr a=>by subst a;exact ZsP f)<|h.o.d rfl)
section
variable {ty:TE}{k:List Key}
def QQ.netz(S:QQ K R F Y O H)(e:zg Y i<|zz<|Vr P w C N):∃a dx el r l d xs ys,O[i]?=some (some<|.ref a)/\NetFz P w C N F a dx el r l d xs ys:=by
 obtain⟨m,h,_⟩:=S.fp;obtain⟨v,k,_,a,dx,el,r,l,d,xs,ys,rfl,f⟩:=h i _ e;exact⟨a,dx,el,r,l,d,xs,ys,k,f⟩
def Nz(c:NetC K C)(e:zg Y i<|zz<|Vr P w C N){k m:Int}(W:Qr K tb Y (.int k))(D:atI (N.rooms.map PyData.int) k=some (.int m)):Qr K (tOp (rIx K) (Wf K (QY i) "rooms") tb) Y (.int m):=λR F O H Q S q=>by
 obtain⟨a,dx,b,r,l,d,xs,ys,X,h⟩:=S.netz e;refine⟨_,X,a,C,dx,_,.ref r,rfl,S.sub _ _ h.ins,c.cl,c.rooms,rfl,W R F O H _ S λZ L y f B=>?_⟩;cases B;obtain⟨u,A,v⟩:=h.rooms;obtain⟨z,s,p⟩:=Mw (v.mono f.ff) D;exact .inl ⟨r,u,k,z,rfl,rfl,SqL.of<|f.fh _ _<|f.ff _ _ A,s,q Z L z f p⟩
def Lv(c:NetC K C)(e:zg Y i<|zz<|Vr P w C N){k:Int}(W:Qr K tb Y (.int k))(D:atI (N.ends.map Zj) k=some n):Qr K (tOp (rIx K) (Wf K (QY i) "ends") tb) Y n:=λR F O H Q S q=>by
 obtain⟨a,dx,m,r,l,d,xs,ys,X,h⟩:=S.netz e;refine⟨_,X,a,C,dx,_,.ref m,rfl,S.sub _ _ h.ins,c.cl,c.ends,rfl,W R F O H _ S λZ L y f B=>?_⟩;cases B;obtain⟨u,A,v⟩:=h.ends;obtain⟨z,s,p⟩:=Mw (v.mono f.ff) D;exact .inl ⟨m,u,k,z,rfl,rfl,SqL.of<|f.fh _ _<|f.ff _ _ A,s,q Z L z f p⟩
def OQ(c:NetC K C)(e:zg Y i<|zz<|Vr P w C N)(Z:Qr K ty Y (Zj k)):Qr K (T7 (Wf K (QY i) "leaving") ty<|MT Zo) Y (.list<|((QZ N.leav k).getD []).map PyData.int):=λR F O H Q S q=>by
 obtain⟨a,dx,E,r,l,d,xs,ys,n,h⟩:=S.netz e;refine⟨_,n,a,C,dx,_,.ref l,rfl,S.sub _ _ h.ins,c.cl,c.leav,rfl,l,rfl,.inr ⟨xs,Rd.of<|S.sub _ _ h.leav.1⟩,Z R F O H _ S λA L y v W=>⟨X3 _,λp g=>?_⟩⟩;obtain⟨b,rfl,j⟩:=Js W;have t:=S.ext v;have u:QF A L (upd A p<|.lst []) _:=QF.new t.sub g;have f:=v.trans u;have X:=f.fh _ _ (f.ff _ _ h.leav.1);have o:=u.fh _ _ (u.ff _ _ j);refine⟨ZF xs k,VG.t X o,?_⟩;rcases h.leav.2.val k with ⟨s,m⟩|⟨G,z,x,s,m,D,B⟩
 .rw[s];exact q _ _ _ f (by rw[m];exact .lst QT .nil)
 .rw[s];exact q _ _ _ f (by rw[m];exact .lst (f.ff _ _ D)<|B.mono f.ff)
def ZuW(c:NetC K C)(e:zg Y i<|zz<|Vr P w C N){k1 k2:List Key}(s:Qr K ty Y (.tuple [Zj k1,Zj k2]))(hn:Vl N.laid (k1,k2)=some n):Qr K (P6 P w (Wf K (QY i) "laid") ty) Y (.int n):=λR F O H Q S q=>by
 obtain⟨a,dx,D,r,l,d,xs,ys,A,h⟩:=S.netz e;refine⟨_,A,a,C,dx,_,.ref d,rfl,S.sub _ _ h.ins,c.cl,c.laid,rfl,s R F O H _ S λB E y f p=>?_⟩;obtain⟨b,rfl,u⟩:=N6 p;have m:=S.ext f;have k:=h.laid.2.mono f.ff;exact⟨d,b,ys,_,.int n,rfl,rfl,f.fh _ _<|f.ff _ _ h.laid.1,k.at m.sub,u.mono λW z v=>m.sub _ _ v,by rw[k.val,hn];rfl,q B E _ f<|.int n⟩
def Zru(c:NetC K C){k1 k2:List Key}(s:Qr K ty Y (.tuple [Zj k1,Zj k2]))(e:zg Y i<|zz<|Vr P w C N):Qr K (TN P w ty<|Wf K (QY i) "laid") Y (.bool<|!(Vl N.laid (k1,k2)).isSome):=λR F O H Q S q=>
 s R F O H _ S λB E y k p=>by
  have f:=S.ext k;obtain⟨a,dx,D,r,l,d,xs,ys,A,h⟩:=f.netz e;obtain⟨b,rfl,u⟩:=N6 p;have m:=h.laid.2;refine⟨_,A,a,C,dx,_,.ref d,rfl,f.sub _ _ h.ins,c.cl,c.laid,rfl,d,b,ys,_,rfl,rfl,f.sub _ _ h.laid.1,m.at f.sub,u.mono λW z v=>f.sub _ _ v,q B E _ k ?_⟩;rw[m.val,U6];exact .bl _
def QQ.dctz(S:QQ K R F Y O H)(e:zg Y i<|zz<|GE kvs):∃a xs,O[i]?=some (some<|.ref a)/\F a=some (.dT xs)/\PairD F xs kvs:=by
 obtain⟨p,h,_⟩:=S.fp;obtain⟨v,m,_,a,xs,rfl,k,f⟩:=h i _ e;exact⟨a,xs,m,k,f⟩
def Lk(e:zg Y i<|zz<|GE kvs)(w:Qr K ty Y (Zj k))(A:YB kvs k=some d):Qr K (Kq (QY i) ty) Y d:=λR F O H Q S q=>by
 obtain⟨a,xs,p,_⟩:=S.dctz e;refine⟨_,p,w R F O H _ S λN L y h v=>?_⟩;obtain⟨W,u,f,D,C⟩:=(S.ext h).dctz e;rw[p]at f;cases f;obtain⟨b,rfl,B⟩:=Js v;rcases C.val k with ⟨_,z⟩|⟨x,P,s,m,r⟩
 .grind
 .rw[A]at m;cases m;exact⟨a,x,rfl,s▸VG.t (h.fh _ _ D) (h.fh _ _ B),q N L x h r⟩
def El(m:Qr K ty Y (Zj k))(e:zg Y i<|zz<|GE kvs):Qr K (SX ty<|QY i) Y (.bool (YB kvs k).isSome):=λR F O H Q S q=>
 m R F O H _ S λv L y f h=>by
  obtain⟨a,xs,u,s,r⟩:=(S.ext f).dctz e;obtain⟨b,rfl,p⟩:=Js h;exact⟨_,u,a,_,rfl,VG.t (f.fh _ _ s)<|f.fh _ _ p,q v L _ f<|by rw[Rz r];exact .bl _⟩
end
end L2
namespace L2
inductive SpD(K:W.Frag)(H0:List OT->(OT->Prop)->Prop)(vs:List V)(H:Hp)(Q:VK):Prop
 |mk (F:Hp)(ts:List OT)(Φ:OT->Prop)(kt:KTs K F)(sm:QI F H)(ha:Args K F vs ts)(hR:H0 ts Φ)(k:∀F' M v p r,Φ r->QF F H F' M->(∀a∈p,H a=none)->ZH K F' M v r p->Q v M):SpD K H0 vs H Q
def Z6(K:W.Frag)(H0:List OT->(OT->Prop)->Prop):Sp:=λa H Q _=>SpD K H0 a H Q
def Wx(K:W.Frag)(t:TA)(Y:ZcP)(Φ:List OT->Prop):Prop := ∀(R F:Hp) (O:St) (H:Hp) (Q:List V->Hp->Prop),QQ K R F Y O H->(∀h M a f,Φ f->QF F H h M->Args K h a f->Q a M)->t O H Q
def V7{H0:List OT->(OT->Prop)->Prop}{H2:XK}(h:ZQ K t Y ts)(A:H0 ts Φ):ZG K (YC (Z6 K H0) [] H2 t) Y Φ:=λR F O H Q S q=>
 h R F O H _ S λC L D f m=>⟨C,ts,Φ,(S.ext f).kt,f.fh,by rw[XN];exact m,A,λB E v p r u i w s=>q B E v p r u (f.trans i) (λa y=>f.hh.free<|w a y) s⟩
def JD(h:ZQ K t Y ts)(f:Φ ts):Wx K t Y Φ:=λR F O H Q S q=>h R F O H Q S λi M a x r=>q i M a ts f x r
def EA(h:ZG K D Y Φ)(A:∀r,Φ r->∃ds,r=.ol ds/\Φ' [.fz<|.list ds]):Wx K (QX D Zo) Y Φ':=λR F O H Q S q=>
 h R F O H _ S λB L v p r w x y u=>by
  obtain⟨ds,rfl,f⟩:=A r w;obtain⟨a,rfl,rfl,i,xs,s,m⟩:=u;exact q _ L [.ref a] _ f (x.freeze i s<|y a Xb) (.fz (.lst QT<|m.mono<|QI.new i) .nil)
def ZuD{H0:List OT->OT->Prop}{H2:XK}(h:Wx K t Y ΦA)(A:∀ts,ΦA ts->∃r,H0 ts r/\Φ r):ZG K (YC (Qy (K:=K) H0) [] H2 t) Y Φ:=λR F O H Q S q=>
 h R F O H _ S λN L P ts u f m=>by
  obtain⟨r,C,B⟩:=A ts u;exact⟨N,ts,r,(S.ext f).kt,f.fh,by rw[XN];exact m,C,λD E v p i w s=>q D E v p r B (f.trans i) (λa y=>f.hh.free<|w a y) s⟩
def NoF(m:Str):Prop := ∀e r l d:Addr,([("ends",V.ref e),("rooms",V.ref r),("leaving",V.ref l),("laid",V.ref d)]:List (Str×V)).lookup m=none
def NK{H0:List OT->(OT->Prop)->Prop}{H2:XK}(X:NoF m)(e:zg Y i<|zz<|Vr P w C N)(h:ZQ K t Y ts)(c:H0 (.zow (Vr P w C N)::ts) Φ):
 ZG K (GI C m (Z6 K H0) [] H2 (QY i) t) Y Φ:=λR F O H Q S q=>by
 obtain⟨a,dx,g,r,l,d,xs,ys,j,u⟩:=S.netz e;refine⟨_,j,a,dx,_,rfl,S.sub _ _ u.ins,X _ _ _ _,h R F O H _ S λn L o f A=>?_⟩;refine⟨n,_,Φ,(S.ext f).kt,f.fh,.zow (Ψ:=Vr P w C N) ⟨a,dx,g,r,l,d,xs,ys,rfl,u.mono f.ff⟩<|by rw[XN];exact A,c,λk E v p B D y W s=>q k E v p B D (f.trans y) (λb Z=>f.hh.free<|W b Z) s⟩
def Ztu{H0:List OT->(OT->Prop)->Prop}{H2:XK}(I:NoF m)(T:ZG K D Y Φ1)(hz:∀r,Φ1 r->∃v N,r=.own v (Zr P w C N)/\∃f,H0 (.zow (Vr P w C N)::ts) f/\∀r,f r->Φ r)
(h:ZQ K t Y ts):ZG K (GI C m (Z6 K H0) [] H2 D t) Y Φ:=λR F O H Q S q=>
 T R F O H _ S λg L v p r x y G A=>by
  obtain⟨v0,N,rfl,f,M,J⟩:=hz r x;obtain⟨rfl,A⟩:=A;have th:=λa s=>(Zr P w C N).there A a s;have c:QI g (frF g L p):=WR λa s=>(th a s).1
  have i:QF F H _ L:=⟨y.hh,y.ff.trans c,GW y.fh,λa s=>by
   by_cases z:a∈p
   .exact .inr (G a z)
   .rw[W4 z]at s;exact y.fr a s⟩
  obtain⟨a,dx,U,r,l,d,xs,ys,as,rfl,rfl,o⟩:=A;refine⟨a,dx,_,rfl,o.ins.2,I _ _ _ _,h R _ O L _ (S.ext i) λF2 E vs u k=>?_⟩;have z:=o.fz c (λb Z=>JC Z);exact⟨F2,_,f,(S.ext<|i.trans u).kt,u.fh,.zow (Ψ:=Vr P w C N) ⟨a,dx,U,r,l,d,xs,ys,rfl,z.mono u.ff⟩<|by rw[XN];exact k,M,λF3 H3 v n e W j X B=>q F3 H3 v n e (J e W) ((i.trans u).trans j) (λb Z=>(i.trans u).hh.free (X b Z)) B⟩
structure ExtN(p:Qg)(F H F' M:Hp):Prop where
 hh:∀b o,b∉p->H b=some o->M b=some o
 ff:QI F F'
 fh:QI F' M
 fr:∀b,F' b≠none->F b≠none\/H b=none\/b∈p
inductive SpN(K:W.Frag)(P:Program)(w:World)(C:Addr)(H0:NetS->List OT->(NetS->Prop)->Prop)(vs:List V)(H:Hp)(Q:VK):Prop
 |mk (F:Hp)(a:Addr)(vs':List V)(p:Qg)(ts:List OT)(N:NetS)(Ψ:NetS->Prop)(e:vs=.ref a::vs')(kt:KTs K F)(sm:QI F H)(ha:Args K F vs' ts)(ok:(Zr P w C N).ok K F H (.ref a) p)(hR:H0 N ts Ψ)
  (k:∀F' M p' N',Ψ N'->ExtN p F H F' M->(Zr P w C N').ok K F' M (.ref a) p'->(∀b∈p',b∈p\/H b=none)->Q .non M):SpN K P w C H0 vs H Q
def spN(K:W.Frag)(P:Program)(w:World)(C:Addr)(H0:NetS->List OT->(NetS->Prop)->Prop):Sp:=λa H Q _=>SpN K P w C H0 a H Q
def OU{W:Type}{Φ:W->OwnP}{N:W}{c F H:Hp}(S:QQ K R F Y O H)(x:QF c R F H)(e:zg Y i<|zo v<|Φ N):
 ∃p,O[i]?=some (some v)/\(Φ N).ok K F H v p/\∀h M p' w,ExtN p F H h M->(Φ w).ok K h M v p'->(∀b∈p',b∈p\/H b=none)->
  QF c R h M/\QQ K R h (Y.set i<|zo v<|Φ w) O M/\∀(q:Qg),(∀b∈q,(b∈p\/H b=none)/\b∉p')->(∀b∈q,R b=none)/\∀b∈q,∀(j:Nat) (u:V) (t':OT) (q':Qg),(Y.set i<|zo v<|Φ w)[j]?=some (some t')->O[j]?=some (some u)->ZH K h M u t' q'->b∉q':=by
 obtain⟨u,p,Z,⟨rfl,d⟩,D,k⟩:=S.chg e;refine⟨p,Z,d,λh M p' w f r A=>?_⟩;obtain⟨n,l⟩:=k h M (.own _ _) p' f.ff f.fh (λb g a=>by
  obtain⟨o,X⟩:=No a;rw[f.hh b o g X,X]) f.fr ⟨rfl,r⟩ (λb a=>(A b a).imp id λz=>⟨z,x.hh.free z⟩)
 refine⟨⟨λb o a=>f.hh b o (λz=>by rw[(D b z).1]at a;cases a)<|x.hh b o a,x.ff.trans f.ff,f.fh,λb a=>?_⟩,n,λq C=>⟨λb a=>(C b a).1.elim (λz=>(D b z).1) λz=>x.hh.free z,λb a j u t' q' y B m s=>?_⟩⟩
 .rcases f.fr b a with z|z|z
  .exact x.fr b z
  .exact .inr (x.hh.free z)
  .exact .inr (D b z).1
 .by_cases P:j=i
  .subst P;rw[Bu (Xh.mp e).1]at y;cases y;rw[Z]at B;cases B;exact(C b a).2 ((Φ w).uniq r m.2 b s)
  .rw[U7<|Ne.symm P]at y;have z:=l j u t' q' P y B m b s;exact(C b a).1.elim z.1 z.2
def Zpq{f:Type}{Φ:f->OwnP}{N:f}{s:Qh}{vs:List V}{ts:List OT}{F H:Hp}{a:V}{p:Qg}(v:KTs K F)(u:QI F H)(r:Args K F vs ts)(m:(Φ N).ok K F H a p):
 QQ K (λb=>if b∈p then none else H b) F (zr s<|(.own a<|Φ N)::ts) (start s (a::vs)) H:=
 LD (ts:=.own a (Φ N)::ts) (λ|0=>p|_=>[]) v u (XS Nat.succ r.length) (λ|0,t,e=>by cases e;exact⟨a,rfl,rfl,m⟩|i+1,t,e=>r.get i t e) (λ|0,0,_,_,_=>rfl|0,_+1,_,_,h=>(nomatch h)|_+1,_,_,h,_=>(nomatch h)) (λ|0,b,q=>⟨Xf q,((Φ N).there m b q).2⟩|_+1,_,h=>(nomatch h))
def LI{H2:Ends}{Ψ:NetS->Prop}(S:QQ K R F Y O H)(x:QF F0 R F H)(e:zg Y i<|zo v<|Zr P w C N)(hn:∀f,Ψ f->ta.nx (Y.set i<|zo v<|Zr P w C f))(B:Cnv K F0 R ta H2):
 ∃a p,v=.ref a/\(Zr P w C N).ok K F H (.ref a) p/\∀h M p' f,Ψ f->ExtN p F H h M->(Zr P w C f).ok K h M (.ref a) p'->(∀b∈p',b∈p\/H b=none)->H2.nx O M:=by
 obtain⟨p,_,r,k⟩:=OU S x e;obtain⟨a,_,_,_,_,_,_,_,_,rfl,_⟩:=id r;refine⟨a,p,rfl,r,λh M p' f y s q m=>?_⟩;obtain⟨u,A,_⟩:=k h M p' f s q m;exact B.nx h O M _ u A (hn f y)
def U2{H0:NetS->List OT->(NetS->Prop)->Prop}(X:NoF m)(e:zg Y i<|zo v<|Zr P w C N)(b:Wx K t Y ΦA)
(Z:∀ts,ΦA ts->∃Ψ,H0 N ts Ψ/\∀u,Ψ u->ta.nx (Y.set i<|zo v<|Zr P w C u)):QC K (Je<|GI C m (spN K P w C H0) [] E' (QY i) t) Y ta:=λE R F O H H2 x S k=>by
 obtain⟨a,dx,n,r,l,d,xs,ys,o,rfl,g,B,_⟩:=S.net e;refine⟨_,g,a,dx,_,rfl,B.ins.2,X _ _ _ _,b R F O H _ S λj L y ts D f A=>?_⟩;obtain⟨Ψ,q,W⟩:=Z ts D;obtain⟨z,p,c,h,s⟩:=LI (S.ext f) (x.trans f) e W k;cases c;exact⟨j,a,y++[],p,ts,N,Ψ,rfl,(S.ext f).kt,f.fh,by rw[XN];exact A,h,q,s⟩
def LB{H0:NetS->List OT->(NetS->Prop)->Prop}(e:zg Y i<|zo v<|Zr P w C N)(W:Wx K t Y ΦA)
(D:∀ts,ΦA ts->∃Ψ,H0 N ts Ψ/\∀s,Ψ s->ta.nx (Y.set i<|zo v<|Zr P w C s)):QC K (Je<|YC (spN K P w C H0) [] E'<|QX (QY i) t) Y ta:=λo R F O H H2 x S c=>by
 obtain⟨a,dx,j,r,l,d,xs,ys,k,rfl,Z,g,_⟩:=S.net e;refine⟨_,Z,W R F O H _ S λb L u ts A f y=>?_⟩;obtain⟨Ψ,m,B⟩:=D ts A;obtain⟨n,p,X,h,q⟩:=LI (S.ext f) (x.trans f) e B c;cases X;exact⟨b,a,u++[],p,ts,N,Ψ,rfl,(S.ext f).kt,f.fh,by rw[XN];exact y,h,m,q⟩
def spI(P:Program)(w:World)(C:Addr):Sp:=λa H Q _=>∃x dx,a=[.ref x]/\H x=some (.ins C dx [])/\∀e r l d M,H e=none->H r=none->H l=none->H d=none->[x,e,r,l,d].Nodup->
 M x=some (.ins C dx [("ends",.ref e),("rooms",.ref r),("leaving",.ref l),("laid",.ref d)])->M e=some (.lst [])->M r=some (.lst [])->M l=some (.dT [])->M d=some (pdO P w d [])->(∀b,b∉[x,e,r,l,d]->M b=H b)->Q .non M
def Oo{H2:XK}:EvX K (Kx C (spI P w C) [] H2 Zo) Y (Zr P w C ⟨[],[],[],[]⟩):=λR F O H Q S q=>λx dx v p u=>by
 refine⟨x,dx,rfl,QT,λe r l d M I E G J B h1 h2 h3 U T g=>⟨rfl,?_⟩⟩;have s:∀{b:Addr},upd (upd H dx<|.own x) x (.ins C dx []) b=none->H b=none/\b≠x/\b≠dx:=λ{b} a=>by
  have N:b≠x:=λz=>by rw[z,QT]at a;cases a
  rw[Q6 N]at a;have D:b≠dx:=λz=>by rw[z,QT]at a;cases a
  rw[Q6 D]at a;exact⟨a,N,D⟩
 obtain⟨k,e2,j⟩:=s I;obtain⟨A,r2,y⟩:=s E;obtain⟨X,l2,W⟩:=s G;obtain⟨t,d2,n⟩:=s J;have m:M dx=some (.own x):=by
  rw[g dx<|by simp only[Xe,XT,or_false,not_or];exact⟨u,Ne.symm j,Ne.symm y,Ne.symm W,Ne.symm n⟩,Q6 u,QT]
 have Z:∀b o,H b=some o->M b=some o:=λb o a=>by
  have f:∀{c:Addr},H c=none->b≠c:=λL z=>by rw[z,L]at a;cases a
  rw[g b<|by simp only[Xe,XT,or_false,not_or];exact⟨f v,f k,f A,f X,f t⟩,Q6<|f v,Q6<|f p];exact a
 have i:∀{b:Addr},H b=none->F b=none:=λa=>S.sub.free a;refine q F M (.ref x) [x,dx,e,r,l,d] ⟨Z,QI.refl _,λb o a=>Z b o<|S.sub b o a,λ_ h=>.inl h⟩ (λb a=>?_) ⟨x,dx,e,r,l,d,[],[],[],rfl,rfl,?_,⟨i v,h1⟩,⟨i p,m⟩,⟨i k,[],h2,.nil⟩,⟨i A,[],h3,.nil⟩,⟨i X,U,.nil⟩,⟨i t,T,.nil⟩⟩
 .grind
 .simp only[XY,Xe,XT,or_false,not_or]at B ⊢;obtain⟨⟨a1,a2,a3,a4⟩,b1,c1,f1⟩:=B;exact⟨⟨Ne.symm u,a1,a2,a3,a4⟩,⟨Ne.symm j,Ne.symm y,Ne.symm W,Ne.symm n⟩,b1,c1,f1⟩
section
variable {base:Heap}
def Fun.evD{x:Str}{st:Stmt}{N:Qh}{k:Nat}{H0:List OT->(OT->Prop)->Prop}(F:Fun K x qual st f fd)(S:Qo N ps (Q5 st))(h:∀ts Φ,H0 ts Φ->ts.length=ps.length)
(u:∀ts Φ,H0 ts Φ->∀H H2,B0 P w K mg base N qual st k f H H2 λt=>QC K t (ini N ts) { nx:=λ_=>Φ<|.fz .none,rt:=Φ }):FnOk P w K mg base CX0 (k+1) f fd ps (Z6 K H0):=by
 refine F.ok S (by rintro O H Q H2 ⟨F,ts,Φ,_,_,i,m,_⟩;exact i.length.trans<|h ts Φ m) ?_;rintro O H Q H2 ⟨F,ts,Φ,X,B,i,m,q⟩ r A outer s Y;obtain⟨t,c,b⟩:=u ts Φ m H H2 r A outer s Y;refine⟨t,c,b F H F _ H _ (QF.refl B) (Hd X B i) ⟨λy C M D a _ e=>?_,λy M v R p a Z W e=>q y M v p R e a Z W,λ_ _ _ _ _ _ z=>False.elim z,λ_ _ _ _ _ _ z=>False.elim z⟩⟩;exact q y M _ [] _ e a (by rintro _ ⟨⟩) ⟨rfl,.non⟩
def Fun.evN{x:Str}{st:Stmt}{N:Qh}{k:Nat}{H0:NetS->List OT->(NetS->Prop)->Prop}(F:Fun K x qual st f fd)(S:Qo N ps (Q5 st))(O:∀H' ts Ψ,H0 H' ts Ψ->ts.length+1=ps.length)
(Y:∀v H' ts Ψ,H0 H' ts Ψ->∀H H2,B0 P w K mg base N qual st k f H H2 λt=>QC K t (ini N (.own v (Zr P w C H')::ts)) { nx:=λm=>∃y,Ψ y/\m[0]?=some (zo v<|Zr P w C y),rt:=λ_=>False }):
 FnOk P w K mg base CX0 (k+1) f fd ps (spN K P w C H0):=by
 refine F.ok S (by rintro l H Q H2 ⟨F,a,B,p,ts,H',Ψ,e,_,_,R,_,W,_⟩;rw[e,Wt,R.length];exact O _ _ _ W) ?_;rintro l H Q H2 ⟨F,a,B,p,ts,H',Ψ,e,n,Z,R,c,W,q⟩ X A outer s E;subst e;obtain⟨t,J,I⟩:=Y (.ref a) H' ts Ψ W H H2 X A outer s E;have d:∀b,(λb=>if b∈p then none else H b:Hp) b=none->b∈p\/H b=none:=λb i=>by
  by_cases z:b∈p
  .exact .inl z
  .simp only[Xc z]at i;exact .inr i
 refine⟨t,J,I F _ F _ H _ ⟨λb o i=>?_,QI.refl _,Z,λ_ h=>.inl h⟩ (Zpq n Z R c)
  ⟨λg j M m r S' ⟨y,G,e0⟩=>?_,λg M v r' p r hp c e=>False.elim e,λ_ _ _ _ _ _ z=>False.elim z,λ_ _ _ _ _ _ z=>False.elim z⟩⟩
 .grind
 .obtain⟨U,T,g2,L⟩:=S'.fp;obtain⟨u,u1,rfl,D⟩:=T 0 _ e0;refine q g M (U 0) y G ⟨λb o nb i=>r.hh b o<|by lia,r.ff,r.fh,λb i=>?_⟩ D (λb i=>d b (L 0 b i).1);rcases r.fr b i with z|z
  .exact .inl z
  .exact .inr ((d b z).symm)
structure Mf(K:W.Frag)(C:Addr)(m qual:Str)(st:Stmt)(ps:Qh):Prop where
 ex:∃f fd,Fun K m qual st f fd/\Meth K C m f/\VH K fd ps []
def VF(P:Program)(w:World)(K:W.Frag)(mg:Str->Qf)(base:Heap)(C:Addr)(m:Str)(ps:Qh)(k:Nat)(a:Sp):Prop:=
 ∃f fd,Meth K C m f/\VH K fd ps []/\FnOk P w K mg base CX0 k f fd ps a
def Mf.go{i:CXT}{st:Stmt}{k:Nat}{a:Sp}(ta:Mf K C m qual st ps)(h:∀f fd,Fun K m qual st f fd->FnOk P w K mg base i k f fd ps a):∃f fd,Meth K C m f/\VH K fd ps []/\FnOk P w K mg base i k f fd ps a:=by
 obtain⟨f,fd,F,p,q⟩:=ta.ex;exact⟨f,fd,p,q,h f fd F⟩
def Mf.evD{st:Stmt}{N:Qh}{k:Nat}{H0:List OT->(OT->Prop)->Prop}(ta:Mf K C m qual st ps)(S:Qo N ps (Q5 st))
(i:∀f ts Φ,H0 ts Φ->∀H H2,B0 P w K mg base N qual st k f H H2 λt=>QC K t (ini N ts) { nx:=λ_=>Φ<|.fz .none,rt:=Φ })(a:∀ts Φ,H0 ts Φ->ts.length=ps.length:=by intro _ _ h;cases h<;>rfl):VF P w K mg base C m ps (k+1) (Z6 K H0):=ta.go λf _ F=>F.evD S a (i f)
def Mf.evN{st:Stmt}{N:Qh}{k:Nat}{H0:NetS->List OT->(NetS->Prop)->Prop}(ta:Mf K C m qual st ps)(S:Qo N ps (Q5 st))
(p:∀f v H' ts Ψ,H0 H' ts Ψ->∀H H2,B0 P w K mg base N qual st k f H H2 λt=>QC K t (ini N (.own v (Zr P w C H')::ts)) { nx:=λa=>∃q,Ψ q/\a[0]?=some (zo v<|Zr P w C q),rt:=λ_=>False })(i:∀H' ts Ψ,H0 H' ts Ψ->ts.length+1=ps.length:=by intro _ _ _ h;cases h<;>rfl):VF P w K mg base C m ps (k+1) (spN K P w C H0):=ta.go λf _ F=>F.evN S i (p f)
def Df.evD{x:Str}{st:Stmt}{N:Qh}{k:Nat}{H0:List OT->(OT->Prop)->Prop}(ta:Df K mg x st ps)(S:Qo N ps (Q5 st))
(i:∀f ts Φ,H0 ts Φ->∀H H2,B0 P w K mg base N x st k f H H2 λt=>QC K t (ini N ts) { nx:=λ_=>Φ<|.fz .none,rt:=Φ })(a:∀ts Φ,H0 ts Φ->ts.length=ps.length:=by intro _ _ h;cases h<;>rfl):Qv P w K mg base x ps (k+1) (Z6 K H0):=ta.go λf _ F=>F.evD S a (i f)
def Df.evN{x:Str}{st:Stmt}{N:Qh}{k:Nat}{H0:NetS->List OT->(NetS->Prop)->Prop}(ta:Df K mg x st ps)(S:Qo N ps (Q5 st))
(m:∀f v H' ts Ψ,H0 H' ts Ψ->∀H H2,B0 P w K mg base N x st k f H H2 λt=>QC K t (ini N (.own v (Zr P w C H')::ts)) { nx:=λa=>∃p,Ψ p/\a[0]?=some (zo v<|Zr P w C p),rt:=λ_=>False })(i:∀H' ts Ψ,H0 H' ts Ψ->ts.length+1=ps.length:=by intro _ _ _ h;cases h<;>rfl):Qv P w K mg base x ps (k+1) (spN K P w C H0):=ta.go λf _ F=>F.evN S i (m f)
def SR(P:Program)(w:World)(K:W.Frag)(mg:Str->Qf)(base:Heap)(x:Str)(C:Addr)(k:Nat):Prop:=
 ∃f fd,Mk K C f/\mg x=some (.ref C)/\VH K fd ["self"] []/\FnOk P w K mg base CX0 k f fd ["self"] (spI P w C)
end
def Wo  {a:Pos}{o e:Expr}  {t:TA}{j k:Nat}{p:Sp}{q:Sem Bool}(H':VF X.prog X.w X.K X.mg X.base C m ps j p)(c:NetC X.K C)(s:Room k X.A)(w:PE X o D)(A:PA X (e::es) t)(v:j<=k:=by walk_at"j")
(h:zs X e es:=by rfl)(i:(backTo a<|starEach es X.env).any (·.1)=false:=by rfl)
(r:eval (.Call (.Attribute o m X1) (e::es) [] a) X.env=(do
  let ov <- eval o X.env
  standAt X1.atName
  let (f,first) <- holding [ov] (getMethod ov m q)
  callWith a f first (backTo a<|starEach (e::es) X.env)<|backToKw a<|keywordEach [] X.env):=by rfl):
 PE X (.Call (.Attribute o m X1) (e::es) [] a) (GI C m p [] E0 D t):=by
 obtain⟨f,fd,u,y,F⟩:=H';exact Ir w c.cl u F (s.mono v) y .nil Da A h i r
def Io{x:Str}{a:Pos}{j k:Nat}(H':SR X.prog X.w X.K X.mg X.base x C j)(i:Room k X.A)(q:j+1<=k:=by walk_at"j")(r:Gl X x:=by rfl)(h:(x==("__debug__" : Str))=false:=by decide +kernel):
 PE X (.Call (.Name x p) [] [] a) (Kx C (spI X.prog X.w C) [] E0 Zo):=by
 obtain⟨f,fd,H',m,s,F⟩:=H';exact ZuQ H' F (i.mono q) r m s .nil Da h
end L2
namespace Mir
open PySem L2
def nk:Nd->List Key
 |.start=>[.inr "start"]
 |.fin=>[.inr "end"]
 |.guest k=>[.inr "guest",.inl (k:Int)]
 |.line l t=>[.inr "line",.inl (l:Int),.inl (t:Int)]
theorem UY:∀{a b:Nd},nk a=nk b->a=b
 |.start,.start,_=>rfl
 |.fin,.fin,_=>rfl
 |.start,.fin,h=>Xr h (by decide)
 |.fin,.start,h=>Xr h (by decide)
 |.guest a,.guest b,h=>by
  injection h with _ h;injection h with h _;injection h with h;have:a=b:=by lia
  rw[this]
 |.line a b,.line c d,h=>by
  injection h with _ h;injection h with i h;injection h with f _;injection i with i;injection f with f;have p:a=c:=by lia
  have m:b=d:=by lia
  rw[p,m]
 |.start,.guest _,h=>by have q:=XS List.length h;simp[nk]at q
 |.start,.line _ _,h=>by have q:=XS List.length h;simp[nk]at q
 |.fin,.guest _,h=>by have q:=XS List.length h;simp[nk]at q
 |.fin,.line _ _,h=>by have q:=XS List.length h;simp[nk]at q
 |.guest _,.start,h=>by have q:=XS List.length h;simp[nk]at q
 |.guest _,.fin,h=>by have q:=XS List.length h;simp[nk]at q
 |.guest _,.line _ _,h=>by have q:=XS List.length h;simp[nk]at q
 |.line _ _,.start,h=>by have q:=XS List.length h;simp[nk]at q
 |.line _ _,.fin,h=>by have q:=XS List.length h;simp[nk]at q
 |.line _ _,.guest _,h=>by have q:=XS List.length h;simp[nk]at q
def AT{a b:Nd}:nk a=nk b↔a=b:=⟨UY,λh=>by rw[h]⟩
def G9:Option Nat->PyData
 |none=>.none
 |some e=>.int (e:Int)
def kvG(es:Got Nd):Yk:=es.map λx=>(nk x.1,G9 x.2)
theorem N3(n:Nd):∀es:Got Nd,YB (kvG es) (nk n)=(Ug es n).map G9
 |[]=>rfl
 |(k,v)::es=>by
  have a:=N3 n es;unfold Ug at a ⊢;rw[XW];unfold kvG YB at a ⊢;rw[Xz,List.find?_cons];by_cases e:k=n
  .subst e;simp
  .have h:¬nk k=nk n:=λz=>e (UY z)
   have f:(n==k)=false:=by rw[beq_eq_false_iff_ne];exact λz=>e z.symm
   rw[f];simp only[h,decide_false];exact a
def ZnA{es:Got Nd}:(es.lookup n).isSome=decide (n∈Ze es):=by
 induction es with
 |nil=>rfl
 |cons p es a=>
  obtain⟨k,v⟩:=p;rw[XW];by_cases e:n=k
  .subst e;simp[Ze]
  .have f:(n==k)=false:=by rw[beq_eq_false_iff_ne];exact e
   rw[f];have:decide (n∈Ze ((k,v)::es))=decide (n∈Ze es):=by
    apply decide_eq_decide.mpr;unfold Ze;rw[Xz,Xe];exact⟨λz=>z.resolve_left e,.inr⟩
   rw[this];exact a
def Mj(n:Nd)(es:Got Nd):(YB (kvG es)<|nk n).isSome=decide (n∈Ze es):=by
 rw[N3,U6];exact ZnA
def Zt3(es:Got Nd):KS (kvG es):=λx a=>by
 obtain⟨y,_,rfl⟩:=Xk.mp a;cases h:y.2 with
 |none=>exact⟨.non,by simp[h,G9,YD]⟩
 |some e=>exact⟨.int<|e,by simp[h,G9,YD]⟩
def OP{es:Got Nd}{e:Nat}(h:n∉Ze es):BC (kvG es) (nk n) (.int (e:Int))=kvG (es++[(n,some e)]):=by
 unfold BC;have:¬((kvG es).any λa=>decide (a.1=nk n))=true:=λz=>by
  obtain⟨x,m,f⟩:=List.any_eq_true.mp z;obtain⟨y,i,rfl⟩:=Xk.mp m;have q:=UY (XH f);exact h (by rw[<- q];exact Xk.mpr ⟨y,i,rfl⟩)
 rw[Xc this];unfold kvG;rw[XB];rfl
structure NetR(N:NetS)(H1:Lay Nd)(φ:Zn Nd):Prop where
 ends:N.ends=(Jd H1).map nk
 rooms:N.rooms=Yr H1 φ
 leav:∀(n:Nd) (e:Int),e∈(QZ N.leav<|nk n).getD [] ↔ ∃j:Nat,e=(j:Int)/\tlE H1 j=some n
 laid:∀(i:Nat) (x:Nd×Nd×Int),H1[i]?=some x->Vl N.laid (nk x.1,nk x.2.1)=some ((2*i:Nat):Int)
 laid0:∀p q:Nd,(p,q)∉H1.map (λx=>(x.1,x.2.1))->Vl N.laid (nk p,nk q)=none
 l1:N.leav.length<=2*H1.length
 l2:N.laid.length<=H1.length
 l3:∀k ns,QZ N.leav k=some ns->ns.length<=2*H1.length
theorem Z0t(φ:Zn Nd):NetR ⟨[],[],[],[]⟩ [] φ where
 ends:=rfl
 rooms:=rfl
 leav n e:=by
  constructor
  .intro h;simp[QZ]at h
  .rintro⟨j,_,h⟩;simp[tlE]at h
 laid i x h:=by simp at h
 laid0 p q _:=rfl
 l1:=X3 _
 l2:=X3 _
 l3 k ns h:=by simp[QZ]at h
def Jt : QZ ((k',ns)::ls) k=if k'=k then some ns else QZ ls k:=by
 by_cases e:k'=k
 .simp[QZ, e]
 .simp[QZ, e]
theorem Fc(k a:List Key)(x:Int):∀ls:List (List Key×Ql),QZ (Yo ls k x) a=if a=k then (QZ ls k).map (· ++ [x]) else QZ ls a
 |[]=>by
  unfold Yo;by_cases e:a=k
  . simp[QZ]
  .rw[Xc e]
 |(j,i)::ls=>by
  unfold Yo;have h:=Fc k a x ls
  by_cases e:j=k
  .rw[Xf e,Jt,Jt,Jt,Xf e]
   by_cases f:a=k
   .simp_all
   .rw[Xc f,Xc λz=>f<|z.symm.trans e,Xc λz=>f<|z.symm.trans e]
  .rw[Xc e,Jt,Jt,Jt,Xc e,h]
   by_cases f:a=k
   .simp_all
   .simp_all
theorem DI(k:List Key)(x:Int):∀ls:List (List Key×Ql),(Yo ls k x).length=ls.length
 |[]=>rfl
 |(j,a)::ls=>by
  unfold Yo;split
  .simp
  .simp[DI k x ls]
theorem Co(k a:List Key):∀ls:List (List Key×Ql),QZ ls k=none->QZ (ls++[(k,[])]) a=if a=k then some [] else QZ ls a
 |[],_=>by
  rw[BB,Jt];by_cases e:a=k
  .rw[Xf e,Xf e.symm]
  .rw[Xc e,Xc λz=>e z.symm]
 |(j,f)::ls,h=>by
  rw[Jt]at h;by_cases e:j=k
  .grind
  .rw[Xc e]at h;rw[Bz,Jt,Jt,Co k a ls h];by_cases i:a=k
   .simp_all
   .simp_all
def NL(ls:List (List Key×Ql))(k a:List Key):QZ (Y1 ls k) a=if a=k then some ((QZ ls k).getD []) else QZ ls a:=by
 unfold Y1;cases h:QZ ls k with
 |some f=>
  simp_all
 |none=>
  rw[Xc<|by simp,Co k a ls h];rfl
def Nt(ls:List (List Key×Ql))(k:List Key):(Y1 ls k).length<=ls.length+1:=by
 unfold Y1;split
 .lia
 .simp
def G6(N:NetS)(s e:List Key)(r:Int):NetS:={ N with ends:=N.ends++[e],rooms:=N.rooms++[r],leav:=Yo (Y1 N.leav s) s (N.ends.length:Int) }
def GD(N:NetS)(s e:List Key)(r:Int):NetS:=G6 (G6 { N with laid:=We N.laid (s,e) (N.ends.length:Int) } s e r) e s 0
def Bm(N:NetS)(s e:List Key)(r:Int)(k:List Key):QZ (G6 N s e r).leav k=if k=s then some ((QZ N.leav s).getD []++[(N.ends.length:Int)]) else QZ N.leav k:=by
 show QZ (Yo _ s _) k=_;rw[Fc,NL, NL];simp_all
def Jv : Vl ((k',n)::ls) k=if k'=k then some n else Vl ls k:=by
 by_cases e:k'=k
 .simp[Vl, e]
 .simp[Vl, e]
theorem Fi(k a:KK)(n:Int):∀ls:List (KK×Int),Vl (ls.map λx=>if x.1=k then (x.1,n) else x) a=if a=k then (Vl ls k).map λ_=>n else Vl ls a
 |[]=>by
  by_cases e:a=k
  .rw[Xf e];rfl
  .rw[Xc e];rfl
 |(j,m)::ls=>by
  rw[Xz];have h:=Fi k a n ls
  by_cases e:j=k
  .simp only[e,if_true];rw[Jv,Jv,Jv,h];by_cases f:a=k
   .simp[f]
   .have:¬k=a:=λz=>f z.symm
    simp[f,this]
  .simp only[e,if_false];rw[Jv,Jv,Jv,h];by_cases f:a=k
   .simp[f,e]
   .simp[f]
theorem FZ(k a:KK)(n:Int):∀ls:List (KK×Int),Vl ls k=none->Vl (ls++[(k,n)]) a=if a=k then some n else Vl ls a
 |[],_=>by
  rw[BB,Jv];by_cases e:a=k
  .rw[Xf e,Xf e.symm]
  .rw[Xc e,Xc λz=>e z.symm]
 |(j,m)::ls,h=>by
  rw[Jv]at h;by_cases e:j=k
  .grind
  .rw[Xc e]at h;rw[Bz,Jv,Jv,FZ k a n ls h];by_cases f:a=k
   .simp_all
   .simp_all
def L5(ls:List (KK×Int))(k a:KK)(n:Int):Vl (We ls k n) a=if a=k then some n else Vl ls a:=by
 unfold We;cases h:Vl ls k with
 |some m=>rw[Xf<|by rfl,Fi,h];rfl
 |none=>rw[Xc<|by simp,FZ k a n ls h]
def Ztd(ls:List (KK×Int))(k:KK)(n:Int):(We ls k n).length<=ls.length+1:=by
 unfold We;split
 .simp
 .simp
def FA{f:Type}[DecidableEq f](a:Lay f):(Jd a).length=2*a.length:=by
 unfold Jd;induction a with
 |nil=>rfl
 |cons x a h=>rw[HX,Xy,h];simp;lia
def NetR.elen(h:NetR N H1 φ):N.ends.length=2*H1.length:=by rw[h.ends,Xi,FA]
def Rs{f:Type}[DecidableEq f](a:Lay f)(φ:Zn f):(Yr a φ).length=2*a.length:=by
 unfold Yr;induction a with
 |nil=>rfl
 |cons x a h=>rw[HX,Xy,h];simp;lia
def DT{x:Nd×Nd×Int} : tlE (H1++[x]) j=some n↔tlE H1 j=some n\/(j=2*H1.length/\n=x.1)\/(j=2*H1.length+1/\n=x.2.1):=by
 unfold tlE;by_cases h:j/2<H1.length
 .rw[Bw h];constructor
  .exact .inl
  .rintro(z|⟨z,_⟩|⟨z,_⟩)
   .exact z
   .lia
   .lia
 .rw[MK<|by lia,Kg.mpr (show H1.length<=j/2 by lia)]
  by_cases a:j/2=H1.length
  .rw[a,Nat.sub_self];simp only[List.getElem?_cons_zero,XZ, Option.some.injEq];by_cases p:j%2=0
   .rw[Xf p];constructor
    .intro z;exact .inr (.inl ⟨by lia,z.symm⟩)
    .rintro(z|⟨_,z⟩|⟨z,_⟩)
     .cases z
     .exact z.symm
     .lia
   .rw[Xc p];constructor
    .intro z;exact .inr (.inr ⟨by lia,z.symm⟩)
    .rintro(z|⟨z,_⟩|⟨_,z⟩)
     .cases z
     .lia
     .exact z.symm
  .have:([x])[j/2-H1.length]?=none:=Kg.mpr (by simp;lia);rw[this];constructor
   .simp_all
   .rintro(z|⟨z,_⟩|⟨z,_⟩)
    .cases z
    .lia
    .lia
theorem ZtJ(h:NetR N H1 φ){s:Nd}{r:Int}(h0:φ s e=0)(new:(s,e)∉H1.map (λx=>(x.1,x.2.1))):NetR (GD N (nk s) (nk e) r) (H1++[(s,e,r)]) φ where
 ends:=by
  show(N.ends++[nk e])++[nk s]=_
  unfold Jd;rw[Gz,XB,h.ends];simp[Jd]
 rooms:=by
  show(N.rooms++[r])++[0]=_
  rw[ h.rooms];simp[Yr,h0]
 leav n e':=by
  have le:=h.elen;have l1:(G6 { N with laid:=We N.laid (nk s,nk e) (N.ends.length) } (nk s) (nk e) r).ends.length=2*H1.length+1:=by
   show(N.ends++[nk e]).length=_
   rw[Xy,le];rfl
  have q:(QZ (GD N (nk s) (nk e) r).leav (nk n)).getD []=((QZ N.leav<|nk n).getD []++(if n=s then [((2*H1.length:Nat):Int)] else []))++(if n=e then [((2*H1.length+1:Nat):Int)] else []):=by
   unfold GD;rw[Bm,l1,Bm,Bm];rw[le];simp only[AT];by_cases B:n=e
   .subst B
    by_cases f:n=s
    .subst f;simp
    .simp[f]
   .by_cases f:n=s
    .subst f;simp[B]
    .simp[B,f]
  rw[q,XA,XA,h.leav n e'];constructor
  .rintro((⟨j,rfl,y⟩|z)|z)
   .exact⟨j,rfl,DT.mpr<|.inl y⟩
   .by_cases f:n=s
    .rw[Xf f]at z;exact⟨2*H1.length,Xt.mp z,DT.mpr<|.inr<|.inl ⟨rfl,f⟩⟩
    .rw[Xc f]at z;cases z
   .by_cases f:n=e
    .rw[Xf f]at z;exact⟨2*H1.length+1,Xt.mp z,DT.mpr<|.inr<|.inr ⟨rfl,f⟩⟩
    .rw[Xc f]at z;cases z
  .rintro⟨j,rfl,y⟩;rcases DT.mp y with z|⟨rfl,z⟩|⟨rfl,z⟩
   .exact .inl (.inl ⟨j,rfl,z⟩)
   .exact .inl (.inr<|by rw[Xf z];exact Xt.mpr rfl)
   .exact .inr (by rw[Xf z];exact Xt.mpr rfl)
 laid i x hx:=by
  show Vl (We N.laid (nk s,nk e)<|N.ends.length) (nk x.1,nk x.2.1)=_;rw[L5,h.elen];by_cases hi:i<H1.length
  .rw[Bw hi]at hx;have ne:¬(nk x.1,nk x.2.1)=(nk s,nk e):=λz=>new (by
    injection z with w v;exact Xk.mpr ⟨x,List.mem_of_getElem? hx,by rw[UY w,UY v]⟩)
   rw[Xc ne];exact h.laid i x hx
  .rw[MK<|by lia]at hx;have A:i=H1.length:=by
    have:=(Xh.mp hx).1;simp at this;lia
   subst A;rw[Nat.sub_self]at hx;cases hx;rw[Xf rfl]
 laid0 p q hn:=by
  show Vl (We N.laid (nk s,nk e)<|N.ends.length) (nk p,nk q)=_;rw[XB,XA,not_or]at hn;rw[L5,Xc λz=>?_]
  .exact h.laid0 p q hn.1
  .injection z with w v;exact hn.2 (by rw[UY w,UY v];simp)
 l1:=by
  have a:=h.l1;have b:(GD N (nk s) (nk e) r).leav.length<=N.leav.length+2:=by
   show(Yo (Y1 (Yo (Y1 N.leav<|nk s) (nk s) _)<|nk e) (nk e) _).length<=_
   rw[DI];refine Xx (Nt _ _) ?_;rw[DI];have:=Nt N.leav (nk s);lia
  simp;lia
 l2:=by
  have a:=h.l2;have b:(GD N (nk s) (nk e) r).laid.length<=N.laid.length+1:=Ztd _ _ _;simp;lia
 l3 k ns hk:=by
  have g:∀u,((QZ N.leav u).getD []).length<=2*H1.length:=λu=>by
   cases z:QZ N.leav u with
   |none=>exact X3 _
   |some m=>exact h.l3 u m z
  have C:∀u,((QZ (G6 { N with laid:=We N.laid (nk s,nk e) (N.ends.length) } (nk s) (nk e) r).leav u).getD []).length<=2*H1.length+1:=λu=>by
   rw[Bm];by_cases z:u=nk s
   .rw[Xf z];have:=g (nk s);simpa using this
   .rw[Xc z];have:=g u;lia
  unfold GD at hk;rw[Bm]at hk;by_cases z:k=nk e
  .rw[Xf z]at hk;cases hk;have:=C (nk e);simp at this ⊢;lia
  .rw[Xc z]at hk;have:=C k;rw[hk]at this;simp at this ⊢;lia
def ZpU{f:Lay Nd}(Y:Dis f){φ:Zn Nd}{a r A:Int}{e:Nat}(h:(Yr f φ)[e]?=some r)(s:(Yr f φ)[ZhV e]?=some A):Yr f (YT f a φ e)=((Yr f φ).set e (r-a)).set (ZhV e) (A+a):=by
 have B:ZhV e/2=e/2:=by unfold ZhV;split<;>lia
 rw[Bg]at h s;unfold rmE at h s;rw[B]at s;cases m:f[e/2]? with
 |none=>rw[m]at h;cases h
 |some x=>
  rw[m]at h s;simp only[XZ,Option.some.injEq]at h s;have X:YT f a φ e=Yj φ x.1 x.2.1 (if e%2=0 then a else -a):=by unfold YT;rw[m]
  have D:Yj φ x.1 x.2.1 (if e%2=0 then a else -a) x.1 x.2.1=φ x.1 x.2.1+(if e%2=0 then a else -a):=by unfold Yj;rw[Xf ⟨rfl,rfl⟩]
  have c:=(Xh.mp m).1;have b:=Rs f φ;have v:e<(Yr f φ).length:=by lia
  have W:ZhV e<(Yr f φ).length:=by lia
  refine List.ext_getElem? λi=>?_;rw[Bg,List.getElem?_set,List.getElem?_set,Bg,X];by_cases u:ZhV e=i
  .subst u;rw[Xf rfl,Xf (show ZhV e<((Yr f φ).set e (r-a)).length by simpa using W)];unfold rmE;rw[B,m];simp only[XZ,Option.some.injEq];rw[D];have O:(ZhV e%2=0)=¬(e%2=0):=by
    unfold ZhV;split<;>lia
   by_cases p:e%2=0
   .simp_all
   .have P:ZhV e%2=0:=by rw[O];exact p
    rw[Xf P]at s ⊢;rw[Xc p];lia
  .rw[Xc u]
   by_cases C:e=i
   .subst C;rw[Xf rfl,Xf v];unfold rmE;rw[m];simp only[XZ,Option.some.injEq];rw[D];by_cases p:e%2=0
    .rw[Xf p]at h ⊢;rw[Xf p];lia
    .rw[Xc p]at h ⊢;rw[Xc p];lia
   .rw[Xc C];unfold rmE;cases Z:f[i/2]? with
    |none=>rfl
    |some y=>
     have R:¬(y.1=x.1/\y.2.1=x.2.1):=λ⟨N,K⟩=>by
      have q:=Nj Y Z m N K;unfold ZhV at u;split at u<;>lia
     have w:Yj φ x.1 x.2.1 (if e%2=0 then a else -a) y.1 y.2.1=φ y.1 y.2.1:=by unfold Yj;rw[Xc R]
     simp only[XZ,w]
def UI(a:Lay Nd)(φ:Zn Nd)(es:Got Nd)(U:List Nd):Prop := ∀e m n r,tlE a e=some m->hdE a e=some n->rmE a φ e=some r->0<r->m∈Ze es->m∉U->n∈Ze es
def UI.closed{es:Got Nd}(h:UI H1 φ es []):YF H1 φ es:=λe m n r q p i f a=>h e m n r q p i f a (by rintro⟨⟩)
def U5{es:Got Nd}{x:Nd×Option Nat}:n∈Ze (es++[x])↔n∈Ze es\/n=x.1:=by
 unfold Ze;simp
def UI.add{es:Got Nd}{U V:List Nd}(h:UI H1 φ es (U++V))(n:Nd)(o:Option Nat):UI H1 φ (es++[(n,o)]) (U++(V++[n])):=λe m k r u s q p i a=>by
 rw[<- JT,XA,not_or]at a;have f:m≠n:=λz=>a.2 (by simp[z])
 rcases U5.mp i with z|z
 .exact U5.mpr (.inl<|h e m k r u s q p z a.1)
 .exact Xr z f
theorem Tree.inClosed{i:Lay Nd}{φ:Zn Nd}{s:Nd}{fs:Got Nd}(a:YF i φ fs)(f:s∈Ze fs):∀{es:Got Nd},Tree i φ s es->∀n∈Ze es,n∈Ze fs
 |_,.root,n,h=>by
  have e:=by simpa [Ze] using h
  simp_all
 |_,.add t h u p r q v,n,m=>by
  rcases U5.mp m with z|z
  .exact t.inClosed a f n z
  .rw[z];exact a _ _ _ _ p u q v (t.inClosed a f _ r)
end Mir
namespace L2
abbrev Ym:=List (Key×PyData)
def Yn(kvs:Ym)(k:Key):Option PyData:=(kvs.find? λa=>decide (a.1=k)).map (·.2)
def UQ(kvs:Ym)(k:Key)(d:PyData):Ym:=if (kvs.any λa=>decide (a.1=k))=true then kvs.map (λa=>if a.1=k then (a.1,d) else a) else kvs++[(k,d)]
inductive PairK(F:Hp):List (Key×V)->Ym->Prop
 |nil:PairK F [] []
 |cons {k:Key}{x:V}{d:PyData}{xs:List (Key×V)}{kvs:Ym}:Rep F x d->PairK F xs kvs->PairK F ((k,x)::xs) ((k,d)::kvs)
theorem PairK.mono{F a:Hp}(s:QI F a):∀{xs:List (Key×V)} {kvs:Ym},PairK F xs kvs->PairK a xs kvs
 |_,_,.nil=>.nil
 |_,_,.cons r t=>.cons (r.mono s) (t.mono s)
theorem PairK.length{F:Hp}:∀{xs:List (Key×V)} {kvs:Ym},PairK F xs kvs->xs.length=kvs.length
 |_,_,.nil=>rfl
 |_,_,.cons _ t=>by simp[t.length]
theorem PairK.val{F:Hp}(k:Key):∀{xs:List (Key×V)} {kvs:Ym},PairK F xs kvs->(ZF xs k=none/\Yn kvs k=none)\/∃x d,ZF xs k=some x/\Yn kvs k=some d/\Rep F x d
 |_,_,.nil=>.inl ⟨rfl,rfl⟩
 |_,_,.cons (k:=k') (x:=x) (d:=d) (kvs:=kvs) r t=>by
  by_cases e:k'=k
  .exact .inr ⟨x,d,W5 e,by simp[Yn, e],r⟩
  .have q:Yn ((k',d)::kvs) k=Yn kvs k:=by simp[Yn, e]
   rw[W6 e,q];exact t.val k
theorem PairK.any{F:Hp}(k:Key):∀{xs:List (Key×V)} {kvs:Ym},PairK F xs kvs->(xs.any λa=>decide (a.1=k))=(kvs.any λa=>decide (a.1=k))
 |_,_,.nil=>rfl
 |_,_,.cons _ t=>by simp[t.any k]
theorem PairK.mapP{F:Hp}(k:Key){y:V}{d:PyData}(r:Rep F y d):∀{xs:List (Key×V)} {kvs:Ym},PairK F xs kvs->PairK F (xs.map λa=>if a.1=k then (a.1,y) else a) (kvs.map λa=>if a.1=k then (a.1,d) else a)
 |_,_,.nil=>.nil
 |_,_,.cons (k:=k') f t=>by
  rw[Xz,Xz];by_cases e:k'=k
  .simp only[e];exact .cons r (t.mapP k r)
  .simp only[e];exact .cons f (t.mapP k r)
theorem PairK.snoc{F:Hp}(k:Key){y:V}{d:PyData}(r:Rep F y d):∀{xs:List (Key×V)} {kvs:Ym},PairK F xs kvs->PairK F (xs++[(k,y)]) (kvs++[(k,d)])
 |_,_,.nil=>.cons r .nil
 |_,_,.cons a t=>.cons a (t.snoc k r)
def PairK.put(k:Key)(r:Rep F y d){xs:List (Key×V)}(t:PairK F xs kvs):PairK F (Y0 xs k y) (UQ kvs k d):=by
 unfold Y0 UQ;rw[t.any k];split
 .exact t.mapP k r
 .exact t.snoc k r
def dkP(kvs:Ym):OwnP where
 ok K F H v p := ∃a xs,v=.ref a/\p=[a]/\F a=none/\H a=some (.dK xs)/\PairK F xs kvs
 there:=by
  rintro K F H v p ⟨a,xs,rfl,rfl,i,f,h⟩ b r;cases Xt.mp r;exact⟨i,Yy f⟩
 mono:=by
  rintro K F y H M v p s w u ⟨a,xs,rfl,rfl,i,f,h⟩;exact⟨a,xs,rfl,rfl,w a Xb,by rw[u a Xb];exact f,h.mono s⟩
 uniq:=by
  rintro K F H v p q ⟨a,xs,rfl,rfl,_⟩ ⟨b,ys,e,rfl,_⟩ c m;cases e;exact m
section
variable {ty:TE}{kvs:Ym}{k:Key}{d:PyData}
def QQ.dk(S:QQ K R F Y O H)(e:zg Y i<|zo v<|dkP kvs):
 ∃a xs,v=.ref a/\O[i]?=some (some<|.ref a)/\F a=none/\R a=none/\H a=some (.dK xs)/\PairK F xs kvs:=by
 obtain⟨m,p,⟨a,xs,rfl,rfl,k,h,f⟩,d,_⟩:=S.writeOwn e;exact⟨a,xs,rfl,m,k,(d a Xb).1,h,f⟩
def ZuS(e:zg Y i<|zo v<|dkP kvs)(b:Qr K tv Y d)(Z:Qr K ty Y (BH k))(hz:kvs.length<sizeLine)(hn:ta.nx (Y.set i<|zo v<|dkP<|UQ kvs k d)):QC K (K0 (QY i) ty tv) Y ta:=λM R F O H H2 x S C=>
 b R F O H _ S λt L u h W=>by
  obtain⟨a,xs,rfl,l,_⟩:=(S.ext h).dk e;refine⟨_,l,Z R t O L _ (S.ext h) λo E y m P=>?_⟩;have A:=S.ext (h.trans m);obtain⟨J,N,s,_,r,j,g,D⟩:=A.dk e;cases s;rw[NQ P];refine⟨a,_,rfl,Ub.k g<|by rw[D.length];exact hz,?_⟩;obtain⟨_,p,X,G,w⟩:=A.writeOwn e;obtain⟨n,B,s,rfl,_,I,_⟩:=X;cases s;refine C.nx o O _ _ ((x.trans<|h.trans m).wr j r) (w _ (dkP _) [a] (A.sub.upd r) (λc f _=>Q6 λz=>f<|by rw[z];exact Xb) (λc f=>?_) ⟨a,_,rfl,rfl,r,QT,D.put k<|W.mono m.ff⟩ λc f=>.inl f) hn
  by_cases z:c=a
  .subst z;rw[QT];rintro⟨⟩
  .rw[Q6 z];exact f
def Ztb:EvX K T6 Y (dkP []):=λR F O H Q S q=>λp d=>by
 have h:F p=none:=by
  cases z:F p with
  |none=>rfl
  |some o=>rw[S.sub _ _ z]at d;cases d
 refine q F _ _ [p] (QF.own S.sub d) (λa f=>by cases Xt.mp f;exact d) ⟨p,[],rfl,rfl,h,QT,.nil⟩
end
def DkZ(kvs:Ym):ZP where
 ok K F v := ∃a xs,v=.ref a/\F a=some (.dK xs)/\PairK F xs kvs
 mono:=by
  rintro K F i v s ⟨a,xs,rfl,h,f⟩;exact⟨a,xs,rfl,s _ _ h,f.mono s⟩
def dkP.fz{p:Qg}(h:(dkP kvs).ok K F H v p)(s:QI F F')(f:∀b∈p,F' b=H b):(DkZ kvs).ok K F' v:=by
 obtain⟨a,xs,rfl,rfl,q,m,i⟩:=h;exact⟨a,xs,rfl,by rw[f a Xb];exact m,i.mono s⟩
section
variable {ty:TE}{k:Key}
def O9(i:Nat)(e:zg Y i<|zo v<|dkP kvs)(h:QC K t (Y.set i<|zz<|DkZ kvs) ta):QC K t Y ta:=KB i e (λa b c=>dkP.fz a b c) h
def QQ.dkz(S:QQ K R F Y O H)(e:zg Y i<|zz<|DkZ kvs):∃a xs,O[i]?=some (some<|.ref a)/\F a=some (.dK xs)/\PairK F xs kvs:=by
 obtain⟨p,h,_⟩:=S.fp;obtain⟨v,m,_,a,xs,rfl,k,f⟩:=h i _ e;exact⟨a,xs,m,k,f⟩
def Ztv(e:zg Y i<|zz<|DkZ kvs)(A:Qr K ty Y (BH k))(p:Yn kvs k=some d):Qr K (Kq (QY i) ty) Y d:=λR F O H Q S q=>by
 obtain⟨a,xs,r,_⟩:=S.dkz e;refine⟨_,r,A R F O H _ S λD L y h w=>?_⟩;obtain⟨P,v,f,C,B⟩:=(S.ext h).dkz e;rw[r]at f;cases f;rw[NQ w];rcases B.val k with ⟨_,z⟩|⟨x,N,u,m,s⟩
 .rw[p]at z;cases z
 .rw[p]at m;cases m;exact⟨a,x,rfl,u▸VG.zk ((S.ext h).sub _ _ C),q D L x h s⟩
end
end L2
namespace L2
def Uh(d:PyData)(O:List (Qd)):OwnP where
 ok _ F H v p := ∃a b m r,v=.ref a/\p=a::b::m/\(a::b::m).Nodup/\F a=none/\F b=none/\H a=some (.tup [r,.ref b])/\H b=some (.lst<|m.map V.ref)/\Rep F r d/\Vp F H m O
 there:=by
  rintro K F H v p ⟨a,b,m,r,rfl,rfl,nd,N,D,w,s,B,A⟩ c i;rcases Xe.mp i with rfl|i
  .exact⟨N,Yy w⟩
  rcases Xe.mp i with rfl|i
  .exact⟨D,Yy s⟩
  .exact A.mem c i
 mono:=by
  rintro K F z H M v p P C hh ⟨a,b,m,r,rfl,rfl,nd,N,D,w,s,B,A⟩;exact⟨a,b,m,r,rfl,rfl,nd,C a<|by simp,C b<|by simp,by rw[hh a<|by simp];exact w,by rw[hh b<|by simp];exact s,B.mono P,A.move P (λc i=>C c<|by simp[i]) λc i=>hh c<|by simp[i]⟩
 uniq:=by
  rintro K F H v p q ⟨a,b,m,r,rfl,rfl,nd,N,D,w,s,B,A⟩ ⟨t,o,n,R,e,rfl,Y,l,k,u,f,W,X⟩ c i;cases e;rw[w]at u;cases u;rw[s]at f;injection f with f;injection f with f;have inj:∀{xs ys:Qg},xs.map V.ref=ys.map V.ref->xs=ys:=λ{xs}=>by
   induction xs with
   |nil=>intro ys h;cases ys with|nil=>rfl|cons _ _=>cases h
   |cons x xs Z=>
    intro ys h;cases ys with
    |nil=>cases h
    |cons y ys=>
     rw[Xz,Xz]at h;injection h with j g;cases j;rw[Z g]
  rw[inj f];exact i
section
variable {d:PyData}{S1:List (Qd)}
def ZuB{Ψ:List (Qd)->Prop}(g:Qr K D Y d)(e:ZG K tb Y Φ)(Z:∀r,Φ r->∃S1,r=.oll S1/\Ψ S1):ZG K (GB<|QX D<|QX tb Zo) Y (λr=>∃v S1,r=.own v (Uh d S1)/\Ψ S1):=λR F O H Q S q=>
 g R F O H _ S λl L A m C=>e R l O L _ (S.ext m) λk E v p r W y X N=>by
  obtain⟨S1,rfl,s⟩:=Z r W;obtain⟨b,w,rfl,rfl,P,j,i,B⟩:=N;refine⟨X4<|VR (n:=2)<|by decide,λa f=>?_⟩;have ab:a∉b::w:=λz=>by
   rcases Xe.mp z with rfl|z
   .rw[f]at i;cases i
   .exact(B.mem a z).2 f
  have h:=m.trans y;exact q k (upd E a<|.tup [A,.ref b]) (.ref a) (a::b::w) _ ⟨_,S1,rfl,s⟩ (h.trans<|QF.own h.fh f) (λc u=>by
   rcases Xe.mp u with rfl|u
   .exact h.hh.free f
   .exact m.hh.free (X c u)) ⟨rfl,a,b,w,A,rfl,rfl,XY.mpr ⟨ab,P⟩,h.fh.free f,j,QT,by rw[Q6 λz=>ab<|by rw[<- z];exact Xb];exact i,C.mono y.ff,B.other λz=>ab<|Xg _ z⟩
def Uh.frz{p:Qg}(i:(Uh d S1).ok K F H v p):Rep (frF F H p) v (.tuple [d,.list<|S1.map PyData.list]):=by
 have h:QI F (frF F H p):=WR λa f=>((Uh d S1).there i a f).1;obtain⟨a,b,B,m,rfl,rfl,w,A,y,f,u,q,r⟩:=i;exact .tup (xs:=[m,.ref b]) (by rw[JC<|by simp];exact f) (.cons (q.mono h)<|.cons (.lst (by rw[JC<|by simp];exact u)<|N4 h r λc s=>JC<|by simp[s]) .nil)
def IQ(h:ZG K D Y Φ)(B:∀r,Φ r->∃v d S1,r=.own v (Uh d S1)/\∃f,GTo K g (.tuple [d,.list<|S1.map PyData.list]) Y f/\ta.nx f):QC K (Ww D g) Y ta:=λZ R F O H H2 x S C=>
 h R F O H _ S λW L v p r w i y m=>by
  obtain⟨X,d,S1,rfl,f,N,A⟩:=B r w;obtain⟨rfl,m⟩:=m;have u:QF F H (frF W L p) L:=⟨i.hh,i.ff.trans<|WR λa q=>((Uh d S1).there m a q).1,GW i.fh,λa q=>by
   by_cases z:a∈p
   .exact .inr (y a z)
   .rw[W4 z]at q;exact i.fr a q⟩
  exact N R _ O L v _ (S.ext u) (Uh.frz m) λs P=>C.nx _ s L f (x.trans u) P A
end
def AA(K:W.Frag)(h:TI)(Y:ZcP)(Ψ:Qd->Prop):Prop := ∀(R F:Hp) (O:St) (H:Hp) (H0:It->Hp->Prop),QQ K R F Y O H->(∀f M J a,Ψ a->QF F H f M->KM f J a->H0 J M)->h O H H0
def ZtM(h:ZG K D Y Φ)(j:∀r,Φ r->∃ds,UM r=some (.list ds)/\Ψ ds):AA K (K1 K D) Y Ψ:=λR F O H H0 S q=>
 h R F O H _ S λm L v p r c x g W=>by
  obtain⟨ds,o,w⟩:=j r c;have s:QF F H (frF m L p) L:=⟨x.hh,x.ff.trans<|WR λa f=>(W.there a f).1,GW x.fh,λa f=>by
   by_cases z:a∈p
   .exact .inr (g a z)
   .rw[W4 z]at f;exact x.fr a f⟩
  have u:Rep (frF m L p) v (.list ds):=W.frz o;generalize frF m L p=m at s u;obtain⟨a,xs,rfl,n,X,l⟩:=W7 (K:=K) u s.fh;have k:m a=some (.lst xs):=by
   cases u with
   |lst f G=>
    have:=s.fh _ _ f;rw[l]at this;cases this;exact f
  refine⟨a,rfl,⟨xs,n⟩,q m L _ ds w s λt E P N=>?_⟩;have B:SqL K E a xs:=SqL.of (N _ _<|P _ _ k);refine⟨⟨xs,B,by rw[X.length];exact Xn _⟩,λi d e=>?_⟩;obtain⟨z,C,b⟩:=X.get e;refine⟨⟨xs,z,B,C⟩,λy I A=>?_⟩;obtain⟨rfl,A⟩:=A;have Z:=A xs B;rw[C]at Z;cases Z;exact⟨t,QF.refl N,b.mono P⟩
def Ix(hi:AA K wi Y Ψ)
(l:∀ds,Ψ ds->∃P:Nat->ZcP->Prop,P 0 Y/\(∀(i:Nat) (d:PyData) (a:ZcP),ds[i]?=some d->P i a->∃f,GTo K g d a f/\QC K tbd f { nx:=P (i+1),ct:=P (i+1),bk:=ta.nx,rt:=ta.rt })/\∀a,P ds.length a->ta.nx a):QC K (MS wi g tbd) Y ta:=λG R F O H H2 x S C=>
 hi R F O H _ S λz L J ds k I W=>by
  obtain⟨P,h0,l,hd⟩:=l ds k;refine⟨λi m O H=>m=ds.length-i/\i<=ds.length/\∃F a,QF G R F H/\QI z F/\QQ K R F a O H/\P i a,⟨ds.length,by simp,X3 _,z,Y,x.trans I,QI.refl _,S.ext I,h0⟩,?_⟩;rintro i m B M ⟨rfl,hle,U,a,Q,T,o,p⟩;obtain⟨w1,w2⟩:=W U M T o.sub
  by_cases N:i<ds.length
  .have e:ds[i]?=some ds[i]:=by simp[N]
   obtain⟨go,yl⟩:=w2 i _ e;refine .inr ⟨go,λs E=>∃t f,QF G R t E/\QI z t/\QQ K R t f s E/\P (i+1) f,λs E q=>⟨ds.length-(i+1),by lia,rfl,N,q⟩,λv Z y=>?_⟩;obtain⟨b,c,r3⟩:=yl v Z y;obtain⟨f,hg,hb⟩:=l i _ a e p;refine hg R b B Z v _ (o.ext c) r3 λs S2=>?_;have r:QF G R b Z:=Q.trans c;have D:=T.trans c.ff
   exact hb b R b s Z _ r.base S2 ⟨λA w X h u n j=>⟨A,h,r.rebase u,D.trans u.ff,n,j⟩,λA X v4 r4 p4 u=>C.rt A X v4 r4 p4<|r.rebase u,
    λA w X h u=>C.nx A w X h<|r.rebase u,λA w X h u n j=>⟨A,h,r.rebase u,D.trans u.ff,n,j⟩⟩
  .have e:i=ds.length:=by lia
   subst e;exact .inl ⟨w1,C.nx U B M a Q o<|hd a p⟩
def Ztm(kvs:Ym)(k i:Key)(d:PyData):Yn (UQ kvs k d) i=if i=k then some d else Yn kvs i:=by
 have m:∀kvs:Ym,Yn (kvs.map λh=>if h.1=k then (h.1,d) else h) i=if i=k then (if (kvs.any λh=>decide (h.1=k))=true then some d else none) else Yn kvs i:=λkvs=>by
  induction kvs with
  |nil=>simp[Yn]
  |cons h r s=>
   obtain⟨a,b⟩:=h;unfold Yn at s ⊢;rw[Xz,List.find?_cons,List.find?_cons,Bt];by_cases e:a=k
   .subst e
    by_cases q:i=a
    .subst q;simp
    .have u:¬a=i:=λz=>q z.symm
     simp only[if_true,Xo u];rw[s,Xc q,Xc q]
   .simp only[Xc e,Xo e,Bool.false_or]
    by_cases q:a=i
    .subst q;simp[e]
    .simp only[Xo q];exact s
 unfold UQ;split
 .rename_i c;rw[m kvs];simp only[c,if_true]
 .rename_i c;have n:∀h∈kvs,¬h.1=k:=λh p e=>c (List.any_eq_true.mpr ⟨h,p,XJ e⟩);unfold Yn;rw[List.find?_append];by_cases e:i=k
  .subst e;have f:(kvs.find? λh=>decide (h.1=i))=none:=List.find?_eq_none.mpr λh p=>by simpa using n h p
   rw[f];simp
  .have u:¬k=i:=λz=>e z.symm
   rw[Xc e];cases kvs.find? λh=>decide (h.1=i) with
   |none=>simp[u]
   |some x=>rfl
def Zs3(kvs:Ym)(k:Key)(d:PyData):(UQ kvs k d).length<=kvs.length+1:=by
 unfold UQ;split
 .simp
 .simp
end L2
namespace L2
def QR.at(r:QR xs us):∀i:Nat,(xs[i]?=none/\us[i]?=none)\/∃x u,xs[i]?=some x/\us[i]?=some u/\QP x u:=by
 induction r with
 |nil=>intro i;exact .inl ⟨rfl,rfl⟩
 |cons a b f=>
  intro i;cases i with
  |zero=>exact .inr ⟨_,_,rfl,rfl,a⟩
  |succ i=>exact f i
end L2
namespace L2
theorem CQ:∀{us:Qe} {ns:Ql},IntsAre us ns->QR (ns.map V.int) us
 |_,_,.nil=>.nil
 |_,_,.cons n t h=>.cons ⟨t,rfl⟩ (CQ h)
def TL:List V->Hp->VK->Prop:=λxs H Q=>∃(x:V) (a:Ql),xs=[x]/\Rep H x (.list<|a.map PyData.int)/\a.length<64/\∀(p:Addr) (f:Ql),H p=none->f.Perm a->f.Pairwise (· <= ·)->Q (.ref p) (upd H p<|.lst<|f.map V.int)
def Zq7:ZY X (.builtin "sorted") TL:=by
 intro Z s O H xs c Q I r h;obtain⟨x,C,rfl,y,m,q⟩:=h;obtain⟨u,rfl,A⟩:=VY r;cases y with
 |@lst a ys _ P B=>
  cases A;obtain⟨z,i,n,p,e⟩:=I.hok _ _ P;have v:=JQ B;have R:=Bn (by rw[<- v];exact p);have g:i.length=C.length:=by rw[<- p.length,v];simp
  refine sorted_ints ⟨_,e,rfl,n,rfl⟩ R (by lia) λf D Y w W=>?_;obtain⟨k,N⟩:=sortedAll_at s.heap i f;have K:=w.length_eq;refine⟨.ref _,_,I.laid (λb d q=>sortedAll_old q) (Nat.le_succ _) ?_,rfl,q _ D (I.hok.fresh<|Nat.le_succ _) w W⟩;refine⟨by rw[Xi,K];exact X4<|XM m<|by decide,f.toList,k,CQ Y,?_⟩;rw[N]
def WF:Ql->Ql->Bool
 |a::h,b::f=>if a=b then WF h f else decide (b<a)
 |_,_=>false
theorem Nm:∀{us:Qe} {ns:Ql},IntsAre us ns->∀{i:Nat} {n:Int},ns[i]?=some n->∃t,us[i]?=some (.int n t)
 |_,_,.nil,i,n,e=>by simp at e
 |_,_,.cons m t h,0,n,e=>by
  simp at e;exact⟨t,by simp[e]⟩
 |_,_,.cons m t h,i+1,n,e=>by
  obtain⟨a,h'⟩:=Nm h (i:=i) (n:=n) (by simpa using e);exact⟨a,by simpa using h'⟩
def On(l b:Addr)(xs ys:Array Value)(n X:Nat)(dd B:Qj)(R u:Array (Qf))(ns ms:Ql)(hsz:ns.length=ms.length)(O:IntsAre xs.toList ns)(N:IntsAre ys.toList ms)(k:Nat):
 ∀i:Nat,ns.length-i=k->Meets (Builtin.«list.__eq__.loop» ⟨[.ref l,.ref b,rawInt i,rawInt 4],[]⟩)
  (λA H0 s=>s.heap.get? l=some { cls:=.type "list",dict:=dd,data:=.seq xs n,slots:=R }/\s.heap.get? b=some { cls:=.type "list",dict:=B,data:=.seq ys X,slots:=u }/\
   H0 (.ok<|.ret<|.bool<|WF (ns.drop i)<|ms.drop i) s):=by
 have F:xs.size=ns.length:=by have:=IntsAre.length O;simpa using this
 have E:ys.size=ms.length:=by have:=IntsAre.length N;simpa using this
 induction k with
 |zero=>
  intro i c prog w A H0 s h;obtain⟨Z,g,d,P,W⟩:=s;obtain⟨m,f,q⟩:=h
  wp_walk using AutoSeq1.wpAny_loadPart' m,AutoSeq1.wpAny_loadPart' f
  have r:xs[((i:Nat):Int).toNat]?=none:=by simp;lia
  have p:ys[((i:Nat):Int).toNat]?=none:=by simp;lia
  have o:ns.drop i=[]:=by simp;lia
  rw[o]at q;rw[r,p];wp_walk using AutoSeq1.wpAny_loadPart' m,AutoSeq1.wpAny_loadPart' f;show H0 (.ok<|.ret<|.bool<|decide (xs.size > ys.size)) _;rw[Xo (show ¬xs.size > ys.size by lia)];exact q
 |succ k Y=>
  intro i c prog w A H0 s h;obtain⟨Z,g,d,P,W⟩:=s;obtain⟨m,f,q⟩:=h
  wp_walk using AutoSeq1.wpAny_loadPart' m,AutoSeq1.wpAny_loadPart' f
  have K:i<ns.length:=by lia
  have C:i<ms.length:=by lia
  obtain⟨D,r⟩:∃t,xs[((i:Nat):Int).toNat]?=some (.int ns[i] t):=by
   have:=Nm O (i:=i) (n:=ns[i]) (by simp[K]);simpa using this
  obtain⟨tb,p⟩:∃t,ys[((i:Nat):Int).toNat]?=some (.int ms[i] t):=by
   have:=Nm N (i:=i) (n:=ms[i]) (by simp[C]);simpa using this
  have z:ns.drop i=ns[i]::ns.drop (i+1):=Pc K;have x:ms.drop i=ms[i]::ms.drop (i+1):=Pc C;rw[z,x]at q;rw[r,p];refine Xa (SeqAt.EqAt.int_int ns[i] D ms[i] tb prog w _ _ ?_);have e:((i:Int)+1)=((i+1:Nat):Int):=by lia
  by_cases a:ns[i]=ms[i]
  .have y:(ns[i]==ms[i])=true:=by simp[a]
   rw[y];wp_walk;rw[e];exact⟨plainId_quiet MeetsSeq3.plain_eq_loop _,codeAny_builtin MeetsSeq3.entry_eq_loop (by
    rw[Around.under_plainId MeetsSeq3.plain_eq_loop _];exact Y (i+1) (by lia) prog w A H0 _ ⟨m,f,by simpa [WF,a] using q⟩)⟩
  .have y:(ns[i]==ms[i])=false:=by simp[a]
   rw[y];wp_walk using AutoSeq1.wpAny_loadPart' m,AutoSeq1.wpAny_loadPart' f;rw[r,p];show wpAny _ _ (richCompare .Gt (.int ns[i] D) (.int ms[i] tb) >>= λv=>ret v) _ _ _;refine Xa (gt_int<|Xl ?_);show H0 (.ok<|.ret<|.bool<|decide (ms[i]<ns[i])) _
   have j:WF (ns[i]::ns.drop (i+1)) (ms[i]::ms.drop (i+1))=decide (ms[i]<ns[i]):=by
    show(if ns[i]=ms[i] then _ else decide (ms[i]<ns[i]))=_
    rw[Xc a]
   rw[j]at q;exact q
def IH(l b:Addr)(xs ys:Array Value)(n m:Nat)(dd f:Qj)(i a:Array (Qf))(ns ms:Ql)(hsz:ns.length=ms.length)(v:IntsAre xs.toList ns)(u:IntsAre ys.toList ms):
 Meets (Builtin.«list.__gt__» ⟨[.ref l,.ref b],[]⟩)
  (λA H0 s=>s.heap.get? l=some { cls:=.type "list",dict:=dd,data:=.seq xs n,slots:=i }/\s.heap.get? b=some { cls:=.type "list",dict:=f,data:=.seq ys m,slots:=a }/\
   H0 (.ok<|.ret<|.bool<|WF ns ms) s):=by
 intro prog w A H0 s h;obtain⟨C,g,d,y,B⟩:=s;obtain⟨r,p,q⟩:=h;have D:=AutoSeq1.sub_list_list
 wp_walk using AutoSeq1.wpAny_loadPart' r,AutoSeq1.wpAny_loadPart' p
 exact⟨plainId_quiet MeetsSeq3.plain_eq_loop _,codeAny_builtin MeetsSeq3.entry_eq_loop (by
  rw[Around.under_plainId MeetsSeq3.plain_eq_loop _];exact On l b xs ys n m dd f i a ns ms hsz v u _ 0 rfl prog w A H0 _ ⟨r,p,by simpa using q⟩)⟩
def Aq(K:W.Frag):R2:=λx y H Q=>∃a f,Rep H x (.list<|a.map PyData.int)/\Rep H y (.list<|f.map PyData.int)/\a.length=f.length/\Q (.bl<|WF a f) H
def AG(o:X.A.units+64<cLine):OpR X (compareOp .Gt) (Aq X.K):=by
 intro Z s O H x y v u Q I B A h;obtain⟨f,i,P,N,c,q⟩:=h;cases P with
 |@lst a xs _ g K=>
  cases N with
  |@lst b ys _ d D=>
   cases B;cases A;obtain⟨z,r,n,C,e⟩:=I.hok _ _ g;obtain⟨l,m,R,p,w⟩:=I.hok _ _ d;have k:xs=f.map V.int:=JQ K;have j:ys=i.map V.int:=JQ D;have Y:IntsAre r.toArray.toList f:=Bn (by rw[<- k];exact C);have W:IntsAre m.toArray.toList i:=Bn (by rw[<- j];exact p);exact richCompare_meets_room (op:=.Gt) ⟨_,e,rfl⟩ ⟨_,w,rfl⟩ PySem.F.slot_list_gt PySem.F.entry_list_gt (PySem.F.args_list_gt_2 _ _) (IH a b _ _ n R none none #[] #[] f i c Y W)
    ⟨e,w,show Value.bool (WF f i)≠Value.notImplemented/\_ from⟨(by rintro⟨⟩),⟨.bl<|WF f i,H,I,rfl,q⟩⟩⟩ (by lia)
def E8(m:Qr K D Y (.list<|ns.map PyData.int))(i:Qr K tb Y (.list<|ms.map PyData.int))(h:ns.length=ms.length):Qr K (tOp (Aq K) D tb) Y (.bool<|WF ns ms):=λR F O H Q S q=>
 VQ m i S λp M x y e f a=>⟨ns,ms,f.mono e.fh,a.mono e.fh,h,q p M _ e<|.bl _⟩
def ZuF:∀{l m:Ql},l.Perm m->l.Pairwise (· <= ·)->m.Pairwise (· <= ·)->l=m:=λp i f=>p.eq_of_pairwise (λa b _ _ h h'=>Int.le_antisymm h h') i f
def Zsg{ms:Ql}(h:Qr K D Y (.list<|ns.map PyData.int))(u:ms.Perm ns)(s:ms.Pairwise (· <= ·))(hn:ns.length<64):EvO K (tCB TL<|QX D Zo) Y (.ol<|ms.map PyData.int):=λR F O H Q S q=>
 h R F O H _ S λw L v i m=>⟨v,ns,rfl,m.mono i.fh,hn,λp r f k1 k2=>by
  have e:=ZuF (k1.trans u.symm) k2 s;subst e;obtain⟨a,b,c⟩:=Gm i f (FU r);exact q _ _ _ _ a b c⟩
end L2
namespace L2
def ZrJ:bootBuiltins "sorted"=some (.builtin "sorted"):=by decide +kernel
def ipM:TIp:=λx y H Q=>∃i j,x=.int i/\y=.int j/\IntMulOk i j/\Q (.int<|i*j) H
def Oi:PIp X .Mult ipM:=by
 intro Z s O H x y v u Q I f a h;obtain⟨i,j,rfl,rfl,m,q⟩:=h;obtain⟨t,rfl⟩:=f;obtain⟨p,rfl⟩:=a;exact imul_int ⟨.int<|i*j,H,I.tok _,⟨_,rfl⟩,q⟩ m
def IP{m:Int}(e:zg Y i<|zi m)(h:Qr K te Y (.int n))(p:IntMulOk m n)(hn:ta.nx (Y.set i<|zf<|.int<|m*n)):QC K (SL i te ipM) Y ta:=λw R F O H H2 x S C=>by
 obtain⟨u,g,_⟩:=S.fp;obtain⟨v,q,_,r⟩:=g i _ e;cases r;refine⟨_,q,h R F O H _ S λs L y a f=>?_⟩;cases f;exact⟨m,n,rfl,rfl,p,C.nx s _ L _ (x.trans a) ((S.ext a).setF (.int _)) hn⟩
end L2
namespace Mir
structure Fr where
 t:Nat
 b:Nat
 deriving DecidableEq
def Fr.Ok(f:Fr):Prop:=0<f.b/\Nat.gcd f.t f.b=1
def phi(B:Nat)(f:Fr):Nat:=f.t*(B/f.b)
def TW{B:Nat}{f:Fr}(h:f.b∣B):phi B f*f.b=f.t*B:=by
 unfold phi;rw[UB,Nat.div_mul_cancel h]
def Ma{B:Nat}(m:0<B){f:Fr}(i:f.b∣B)(a:g.b∣B)(r:0<f.b)(q:0<g.b):g.t*f.b<f.t*g.b↔phi B g<phi B f:=by
 have u:=TW i;have s:=TW a;have p:0<f.b*g.b:=Nat.mul_pos r q;have k1:phi B g*(f.b*g.b)=(g.t*f.b)*B:=by
  rw[G5 f.b g.b,<- UB,s,UB,G5 B,<- UB]
 have k2:phi B f*(f.b*g.b)=(f.t*g.b)*B:=by
  rw[<- UB,u,UB,G5 B,<- UB]
 constructor
 .intro h;have:(g.t*f.b)*B<(f.t*g.b)*B:=Nat.mul_lt_mul_of_pos_right h m;rw[<- k1,<- k2]at this;exact Nat.lt_of_mul_lt_mul_right this
 .intro h;have:phi B g*(f.b*g.b)<phi B f*(f.b*g.b):=Nat.mul_lt_mul_of_pos_right h p;rw[k1,k2]at this;exact Nat.lt_of_mul_lt_mul_right this
def AW{f g:Fr}(m:f.Ok)(a:g.Ok)(h:f.t*g.b=g.t*f.b):f=g:=by
 have q:f.b∣g.b:=by
  have:f.b∣f.t*g.b:=by rw[h];exact Nat.dvd_mul_left ..
  exact(Nat.Coprime.dvd_of_dvd_mul_left (show Nat.Coprime f.b f.t by rw[Nat.Coprime,Nat.gcd_comm];exact m.2) this)
 have p:g.b∣f.b:=by
  have:g.b∣g.t*f.b:=by rw[<- h];exact Nat.dvd_mul_left ..
  exact(Nat.Coprime.dvd_of_dvd_mul_left (show Nat.Coprime g.b g.t by rw[Nat.Coprime,Nat.gcd_comm];exact a.2) this)
 have e:f.b=g.b:=Nat.dvd_antisymm q p;have i:f.t=g.t:=by
  rw[e]at h;exact Nat.eq_of_mul_eq_mul_right a.1 h
 cases f;cases g;simp at e i;rw[e,i]
def IX{B:Nat}(p:0<B){f:Fr}(m:f.Ok)(i:g.Ok)(r:f.b∣B)(q:g.b∣B)(h:phi B f=phi B g):f=g:=by
 have a:=Ma p r q m.1 i.1;have b:=Ma p q r i.1 m.1;refine AW m i ?_;have u:¬g.t*f.b<f.t*g.b:=λz=>by have:=a.mp z;lia
 have s:¬f.t*g.b<g.t*f.b:=λz=>by have:=b.mp z;lia
 lia
def BP(f g:Fr):Bool:=decide (g.t*f.b<f.t*g.b)
def Wy(f:Fr)(a:List Fr):Nat:=(a.takeWhile<|BP f).length
def J0(f:Fr)(a:List Fr):List Fr:=a.take (Wy f a)++f::a.drop (Wy f a)
def Wz(xs:List Fr):List Fr:=xs.foldl (λa f=>J0 f a) []
def FC(f:Fr)(i:List Fr):(J0 f i).Perm (f::i):=by
 unfold J0;have h:=List.perm_middle (a:=f) (l₁:=i.take (Wy f i)) (l₂:=i.drop (Wy f i));rwa [List.take_append_drop]at h
theorem Cp:∀(xs i:List Fr),(xs.foldl (λm f=>J0 f m) i).Perm (i++xs)
 |[],i=>by simp
 |f::xs,i=>by
  have h:=Cp xs (J0 f i);refine h.trans ?_;refine((FC f i).append_right xs).trans ?_;exact(List.perm_middle (a:=f) (l₁:=i) (l₂:=xs)).symm
def M4(xs:List Fr):(Wz xs).Perm xs:=by
 have:=Cp xs [];simpa [Wz] using this
theorem LF(f:Fr):∀a:List Fr,∀g∈a.take (Wy f a),BP f g=true
 |[],g,h=>by simp at h
 |r::a,g,h=>by
  unfold Wy at h;by_cases c:BP f r=true
  .rw[Kc,Xf c,Wt,List.take_succ_cons]at h;rcases Xe.mp h with rfl|h
   .exact c
   .exact LF f a g h
  .rw[Kc,Xc c]at h;simp at h
theorem Lz(f:Fr):∀a:List Fr,∀g r,a.drop (Wy f a)=g::r->BP f g=false
 |[],g,r,h=>by simp at h
 |x::a,g,r,h=>by
  unfold Wy at h;by_cases c:BP f x=true
  .rw[Kc,Xf c,Wt,List.drop_succ_cons]at h;exact Lz f a g r h
  .rw[Kc,Xc c]at h;simp at h;rw[<- h.1];simpa using c
section
variable {B:Nat}(hB:0<B)
theorem ZpR(hB:0<B){f:Fr}(w:f.b∣B)(D:0<f.b)(u:∀g∈rows,g.b∣B/\0<g.b)(h:rows.Pairwise (λa b=>phi B a<=phi B b)):(J0 f rows).Pairwise (λa b=>phi B a<=phi B b):=by
 have s:∀g∈rows.take (Wy f rows),phi B g<phi B f:=λg i=>by
  obtain⟨d,p⟩:=u g (Ke i);exact(Ma hB w d D p).mp (XH<|LF f rows g i)
 have v:=h;rw[<- List.take_append_drop (Wy f rows) rows,List.pairwise_append]at v;obtain⟨N,m,R⟩:=v;have C:∀g∈rows.drop (Wy f rows),phi B f<=phi B g:=by
  cases e:rows.drop (Wy f rows) with
  |nil=>intro g i;cases i
  |cons x r=>
   have O:=WA (Lz f rows x r e);obtain⟨d,p⟩:=u x (Kd<|by rw[e];exact Xb);have A:phi B f<=phi B x:=by
    have:¬phi B x<phi B f:=λz=>O ((Ma hB w d D p).mpr z)
    lia
   rw[e]at m;obtain⟨K,P⟩:=HZ.mp m;intro g i;rcases Xe.mp i with rfl|i
   .exact A
   .exact Xx A (K g i)
 unfold J0;rw[List.pairwise_append];refine⟨N,HZ.mpr ⟨C,m⟩,λa y b q=>?_⟩;rcases Xe.mp q with rfl|q
 .exact X4 (s a y)
 .exact Xx (X4<|s a y) (C b q)
theorem C8(hB:0<B):∀(xs i:List Fr),(∀g∈xs,g.b∣B/\0<g.b)->(∀g∈i,g.b∣B/\0<g.b)->i.Pairwise (λa b=>phi B a<=phi B b)->(xs.foldl (λm f=>J0 f m) i).Pairwise (λa b=>phi B a<=phi B b)
 |[],i,_,_,h=>h
 |f::xs,i,r,s,h=>by
  obtain⟨d,p⟩:=r f Xb;refine C8 hB xs (J0 f i) (λg q=>r g<|Xg _ q) (λg q=>?_) (ZpR hB d p s h);rcases Xe.mp ((FC f i).mem_iff.mp q) with rfl|q
  .exact⟨d,p⟩
  .exact s g q
theorem Zps(hB:0<B){xs:List Fr}(f:∀g∈xs,g.b∣B/\0<g.b):(Wz xs).Pairwise (λa b=>phi B a<=phi B b):=C8 hB xs [] f (λg h=>(nomatch h)) List.Pairwise.nil
end
def BF:List Fr->List Fr->Bool
 |f::h,g::a=>if f=g then BF h a else decide (g.t*f.b<f.t*g.b)
 |_,_=>false
def ZtP{B:Nat}(m:0<B){f:Fr}(i:f.Ok)(a:g.Ok)(q:f.b∣B)(p:g.b∣B):((phi B f:Int)=(phi B g:Int)↔f=g)/\((phi B g:Int)<(phi B f:Int)↔g.t*f.b<f.t*g.b):=by
 refine⟨⟨λh=>IX m i a q p<|by lia,λh=>by rw[h]⟩,?_⟩;rw[Ma m q p i.1 a.1];lia
end Mir
namespace Mir
structure Giv(m:Nat)(w:Qn)(g:(Qm)->Int):Prop where
 w1:∀k,k<m->1<=w k
 g0:∀S,(∀k,k<m->S k=false)->g S=0
 nn:∀S,0<=g S
 ext:∀S U,(∀k,k<m->S k=U k)->g S=g U
 sub:∀S U,g (λk=>S k||U k)+g (λk=>S k&&U k)<=g S+g U
def wS(m:Nat)(w:Qn)(S:Qm):Int:=Qx (QV S w) m
section
variable {m:Nat}{w:Qn}{g:(Qm)->Int}
def KY(h:∀k,k<m->S k=U k):wS m w S=wS m w U:=Zk λk a=>by unfold QV;rw[h k a]
def UV{H0:Qm}(h:∀k,k<m->(H0 k=true↔S k=true\/U k=true)/\¬(S k=true/\U k=true)):wS m w H0=wS m w S+wS m w U:=by
 unfold wS;rw[<- WO];refine Zk λk a=>?_;obtain⟨g,f⟩:=h k a;unfold QV;cases q:S k<;>cases p:U k<;>cases i:H0 k<;>simp[q,p,i]at g f ⊢
def Giv.w0(G:Giv m w g)(S:Qm):0<=wS m w S:=GU λk a=>LK (by have:=G.w1 k a;lia)
def Giv.wp(G:Giv m w g)(a:j<m)(h:S j=true):1<=wS m w S:=by
 have e:wS m w S=wS m w (λk=>decide (k=j))+wS m w (λk=>S k && !decide (k=j)):=UV λk f=>by
  by_cases c:k=j
  .subst c;simp[h]
  .simp[c]
 have p:=G.w0 (λk=>S k && !decide (k=j));have i:wS m w (λk=>decide (k=j))=w j:=by
  unfold wS;have:Qx (QV (λk=>decide (k=j)) w) m=Qx (λl=>if l=j then w j else 0) m:=Zk λk _=>by
   unfold QV;by_cases c:k=j
   .subst c;simp
   .simp[c]
  rw[this,Gk,Xf a]
 have:=G.w1 j a;lia
def O0(h:∀k,k<m->S k=false):wS m w S=0:=by
 unfold wS;rw[Zk (g:=λ_=>0) λk a=>by unfold QV;rw[h k a];rfl];exact VS m
variable (m w g) in
def Low(A:Qm)(p q:Int):Prop := ∀S:Nat->Bool,(∀k,k<m->S k=true->A k=true)->q*(g A-g S)<=p*wS m w (λk=>A k && !S k)
variable (m w g) in
def Up(A:Qm)(p q:Int):Prop := ∀S:Nat->Bool,(∀k,k<m->S k=true->A k=false)->p*wS m w S<=q*(g (λk=>A k||S k)-g A)
def Z03{p q X ρ:Int}(h:q*X<=p*ρ)(g:0<q)(m:0<b)(a:0<=ρ)(f:p*b<=t*q):b*X<=t*ρ:=by
 have s:b*(q*X)<=b*(p*ρ):=XQ h (by lia);have r:p*b*ρ<=t*q*ρ:=XV f a;have w:b*(p*ρ)=p*b*ρ:=by rw[<- Xu,XD b p]
 have v:t*q*ρ=q*(t*ρ):=by rw[XD t q,Xu]
 have u:b*(q*X)=q*(b*X):=by rw[<- Xu,XD b q,Xu]
 have i:q*(b*X)<=q*(t*ρ):=by lia
 exact Bv i g
def Low.more(G:Giv m w g){A:Qm}{p q:Int}(h:Low m w g A p q)(f:0<q)(i:0<b)(a:p*b<=t*q):Low m w g A t b:=λS r=>Z03 (h S r) f i (G.w0 _) a
def Up.nn{A:Qm}(G:Giv m w g)(a:∀k,k<m->A k=false):Up m w g A 0 1:=λS _=>by
 have e:g A=0:=G.g0 A a;have:=G.nn (λk=>A k||S k);lia
def Low.nil{A:Qm}(G:Giv m w g)(f:∀k,k<m->A k=false):Low m w g A 0 1:=λS h=>by
 have e:g A=0:=G.g0 A f;have i:g S=0:=G.g0 S λk a=>by
  cases c:S k with
  |false=>rfl
  |true=>exact Xr ((f k a).symm.trans (h k a c)) (by decide)
 rw[e,i];lia
def Low.step(G:Giv m w g){A:Qm}{p q:Int}(h:Low m w g A p q)(s:Up m w g A t b)(f:∀k,k<m->T k=true->A k=false)(u:t*wS m w T=b*(g (λk=>A k||T k)-g A))(y:0<q)(B:0<b)(v:p*b<=t*q):Low m w g (λk=>A k||T k) t b:=λS C=>by
 have O:=s (λk=>S k && !A k) (λk _ e=>by cases c:A k with|false=>rfl|true=>simp[c]at e);have X:g (λk=>A k||(S k && !A k))=g (λk=>A k||S k):=G.ext _ _ λk _=>by cases A k<;>cases S k<;>rfl
 rw[X]at O;have N:=G.sub A S;have D:=(h.more G y B v) (λk=>A k&&S k) (λk _ e=>by cases c:A k with|true=>rfl|false=>simp[c]at e);have W:wS m w (λk=>A k && !(A k&&S k))=wS m w (λk=>A k && !S k):=KY λk _=>by cases A k<;>cases S k<;>rfl
 rw[W]at D;have R:wS m w (λk=>(A k||T k) && !S k)=wS m w (λk=>A k && !S k)+wS m w (λk=>T k && !S k):=UV λk a=>by
  have:=f k a;cases r:A k<;>cases i:T k<;>cases Y:S k<;>simp[r,i]at this ⊢
 have P:wS m w T=wS m w (λk=>S k && !A k)+wS m w (λk=>T k && !S k):=UV λk a=>by
  have:=f k a;have:=C k a;cases r:A k<;>cases i:T k<;>cases Y:S k<;>simp_all
 rw[R];rw[P]at u;have K:b*(g (λk=>A k||S k)+g (λk=>A k&&S k))<=b*(g A+g S):=XQ N (by lia);simp only[WX,UE]at *;lia
def Up.step(G:Giv m w g){A:Qm}(i:Up m w g A t b)(p:∀k,k<m->T k=true->A k=false)(B:t*wS m w T=b*(g (λk=>A k||T k)-g A)):Up m w g (λk=>A k||T k) t b:=λS f=>by
 have h:=i (λk=>T k||S k) (λk a e=>by
  have h:=p k a;have q:=f k a;cases y:A k<;>cases v:T k<;>cases u:S k<;>simp_all)
 have s:wS m w (λk=>T k||S k)=wS m w T+wS m w S:=UV λk a=>by
  have q:=f k a;cases y:A k<;>cases v:T k<;>cases u:S k<;>simp_all
 have r:g (λk=>A k||(T k||S k))=g (λk=>(A k||T k)||S k):=G.ext _ _ λk _=>by cases A k<;>cases T k<;>cases S k<;>rfl
 rw[s,r]at h;show t*wS m w S<=b*(g (λk=>(A k||T k)||S k)-g (λk=>A k||T k));simp only[WX,UE]at *;lia
def ZsT(G:Giv m w g){A:Qm}{p q:Int}(i:Low m w g A p q)(P:0<q)(h:∀U:Nat->Bool,p*wS m w U-q*g U<=p*wS m w S-q*g S)(U:Qm)(s:∀k,k<m->U k=true->A k=false):
 p*wS m w U-q*(g (λk=>A k||U k)-g A)<=p*wS m w (λk=>S k && !A k)-q*(g (λk=>A k||(S k && !A k))-g A):=by
 have B:=h (λk=>A k||U k);have O:wS m w (λk=>A k||U k)=wS m w A+wS m w U:=UV λk r=>by
  have:=s k r;cases f:A k<;>cases a:U k<;>simp_all
 have y:=G.sub A S;have u:=i (λk=>A k&&S k) (λk _ e=>by cases c:A k with|true=>rfl|false=>simp[c]at e);have N:wS m w (λk=>A k && !(A k&&S k))=wS m w (λk=>A k && !S k):=KY λk _=>by cases A k<;>cases S k<;>rfl
 rw[N]at u;have K:g (λk=>A k||(S k && !A k))=g (λk=>A k||S k):=G.ext _ _ λk _=>by cases A k<;>cases S k<;>rfl
 rw[K];have D:wS m w S=wS m w (λk=>A k&&S k)+wS m w (λk=>S k && !A k):=UV λk _=>by cases f:A k<;>cases a:S k<;>simp
 have C:wS m w A=wS m w (λk=>A k&&S k)+wS m w (λk=>A k && !S k):=UV λk _=>by cases f:A k<;>cases a:S k<;>simp
 have v:q*(g (λk=>A k||S k)+g (λk=>A k&&S k))<=q*(g A+g S):=XQ y (by lia);rw[O,D,C]at B;simp only[WX,UE]at *;lia
def Zpm{A:Qm}{p q:Int}(a:∀U:Nat->Bool,(∀k,k<m->U k=true->A k=false)->p*wS m w U-q*(g (λk=>A k||U k)-g A)<=p*wS m w T-q*(g (λk=>A k||T k)-g A))(h0:p*wS m w T<=q*(g (λk=>A k||T k)-g A)):Up m w g A p q:=λU f=>by
 have:=a U f;lia
def ZqP{p q:Int}(h:0<q)(g:0<q')(D:p'*q<p*q')(f:p'*W=q'*x)(m:p*W'-q*x'<=p*W-q*x)(i:q'*x'<p'*W'):W'<W:=by
 refine Int.lt_of_not_ge λc=>?_;have a:q'*(p*W'-q*x')<=q'*(p*W-q*x):=XQ m (by lia);have C:q*(q'*x')<q*(p'*W'):=Int.mul_lt_mul_of_pos_left i h;have B:q*(p'*W)=q*(q'*x):=by rw[f]
 have A:0<=(p*q'-p'*q)*(W'-W):=WW (by lia) (by lia);have y:q'*(q*x')=q*(q'*x'):=by rw[<- Xu,XD q' q,Xu]
 have w:q'*(q*x)=q*(q'*x):=by rw[<- Xu,XD q' q,Xu]
 have v:q'*(p*W')=p*q'*W':=by rw[<- Xu,XD q' p]
 have u:q'*(p*W)=p*q'*W:=by rw[<- Xu,XD q' p]
 have s:q*(p'*W')=p'*q*W':=by rw[<- Xu,XD q p']
 have r:q*(p'*W)=p'*q*W:=by rw[<- Xu,XD q p']
 simp only[WX,Int.sub_mul]at a A;rw[y,w,v,u]at a;rw[s]at C;rw[r]at B;lia
end
end Mir
namespace L2
section
variable {g:Array GenState}{d:Drawn}{t:Nat}{os:OsState}
variable {N:Addr}{bs:Qe}{sub:Qe}
abbrev Tf(C a:Addr):Obj:={ cls:=.ref C,data:=.fields #[.ref a,.none,.none,.none,.bool false,.none] }
abbrev EB(vs:Qe):Obj:={ cls:=.type "tuple",data:=.seq vs.toArray }
def UG(h:Heap)(C:Addr)(vs:Qe):Heap:=(h.push<|EB vs).push (Tf C h.objs.size)
def Ig(F:ExcBaseFacts B newId initId SF)(T:OwnTail h SF bm){rest:Qe}
(m:h.get? C=some (excClassObj nm q C N bs bm X0 sn sub ab col dd k0 k1 k2 k3 k5 newId))(hn:h.Ns N mN)
(O:mN "__init__"=some (.ref f))(P:h.get? f=some fo)(R:fo.cls=.type "function")(a:rest.length<=sizeLine)
(K:wpAny (model prog w) A (call (.ref f) (.ref (h.objs.size+1)::rest)) (λr y=>r=.none/\Q (.done<|.ret<|.ref<|h.objs.size+1) y) H2 ⟨UG h C rest,g,d,t,os⟩):
 wpAny (model prog w) A (Builtin.«type.__call__» ⟨.ref C::rest,[]⟩) Q H2 ⟨h,g,d,t,os⟩:=by
 have p:∀b o,h.get? b=some o->(UG h C rest).get? b=some o:=λb o e=>Xd _ (Xd _ e)
 repeat (first
  |with_reducible refine wpAny_loadPart_at m ?_
  |with_reducible refine wpAny_madeBy_exc m ?_
  |wp_step)
 refine codeAny_call_builtin_code (Code.quiet_builtin _ F.quiet)
  (wpAny_check_new_subT F T m ?_)
 refine codeAny_exc_new_subT F T m ?_ a;show wpAny _ _ _ _ _ ⟨UG h C rest,g,d,t,os⟩;have D:(UG h C rest).get? _=some _:=Heap.get?_push_at (by rw[Jx]) rfl;have i:=p _ _ m;have v:=hn.keeps p;have W:=T.keeps p;have s:(Value.ref C::bm).contains (.ref C)=true:=by simp
 repeat (first
  |with_reducible refine wpAny_loadPart_at D ?_
  |(with_reducible refine wpAny_isSubtype_exc i ?_;rw[s])
  |wp_step)
 refine wpAny_typeLookup_tail i v W F.mroIs F.init.lookup ?_;rw[O];refine wpAny_holding (Xa<|wpAny_bindSpecial_def (p _ _ P) R ?_);refine Xa (wpAny_mono K (λr y u=>?_) λ_ _ z=>z);obtain⟨rfl,u⟩:=u
 wp_walk
 exact u
def Ez(F:ExcBaseFacts B newId initId SF)(T:OwnTail h SF bm){rest:Qe}
(i:h.get? C=some (excClassObj nm q C N bs bm X0 sn sub ab col dd k0 k1 k2 k3 k5 newId))(hn:h.Ns N mN)
(p:mN "__init__"=some (.ref f))(s:h.get? f=some fo)(u:fo.cls=.type "function")(a:rest.length<=sizeLine)
(K:wpAny (model prog w) (A.under<|.builtin "type.__call__" ⟨.ref C::rest,[]⟩) (call (.ref f) (.ref (h.objs.size+1)::rest)) (λr m=>r=.none/\Q (.ref<|h.objs.size+1) m) H2 ⟨UG h C rest,g,d,t,os⟩):
 wpAny (model prog w) A (call (.ref C) rest) Q H2 ⟨h,g,d,t,os⟩:=by
 have D:=tc_lookup;have y:=tc_bind (.ref C);have v:(⟨h,g,d,t,os⟩:Shared).TypeIs (.ref C) "type" := ⟨_,i,rfl⟩;refine wpAny_call (codeAny_of_tree ?_)
 repeat (any_goals (first
  |assumption
  |with_reducible refine wpAny_loadPart_at i ?_
  |wp_step))
 refine⟨rfl,?_⟩;refine codeAny_call_builtin_at (Code.quiet_builtin _<|by decide +kernel) entry_typeCall (wpAny_check_type_call_sub i ?_);refine Ig F T i hn p s u a ?_;simp_all
end
end L2
namespace L2
def phX(C e:Addr)(a:Qj):Heap->Prop:=λh=>∃(t:Addr) (f:Array (Qf)),h.get? e=some { cls:=.ref C,dict:=a,data:=.fields #[.ref t,.none,.none,.none,.bool false,.none],slots:=f }
def Nc(p:phX C e dct h):Vj P w H h e (.ext<|phX C e dct):=⟨p,by obtain⟨t,a,q⟩:=p;exact⟨_,q⟩,λm i f k=>by obtain⟨t,a,q⟩:=f;exact⟨t,a,k _ q⟩⟩
section
variable {g:Array GenState}{d:Drawn}{t:Nat}{os:OsState}
variable {N:Addr}{bs:Qe}{sub:Qe}
def EE(F:ExcBaseFacts B newId initId SF)(T:OwnTail h SF bm){v:Value}
(p:h.get? C=some (excClassObj nm q C N bs bm X0 sn sub ab col dd k0 k1 k2 k3 k5 newId))
(f:h.get? e=some { cls:=.ref C,dict:=dct,data:=.fields #[.ref a,.none,.none,.none,.bool false,.none],slots:=sl })
(i:∀h',(∀b o,b≠e->h.get? b=some o->h'.get? b=some o)->phX C e dct h'->Q .none ⟨h',g,d,t,os⟩):
 wpAny (model prog w) A (call (.builtin initId) [.ref e,v]) Q H2 ⟨h,g,d,t,os⟩:=by
 refine wpAny_call (codeAny_call_builtin F.init.plain F.initEntry<|wpAny_check_init_subT F T p f rfl ?_)
 wp_walk using AutoSeq1.wpAny_loadPart' f
 refine i _ (λb o m z=>?_) ⟨h.objs.size,sl,?_⟩
 .rw[X7 _ _<|Ne.symm m];exact Xd _ z
 .rw[JV _ (Xd _ f) rfl];rfl
end
structure JX(K:W.Frag)(ρ C f:Addr):Prop where
 ga:W.specialIn K (.ref ρ) "__getattribute__"=some (some<|.builtin "type.__getattribute__")
 rd:W.readsIn K ρ (.type "type")=true
 ini:W.findCls K (.ref ρ) (.type "type") "__init__"=some (.val<|.builtin "ValueError.__init__")
 cls:∀h:Heap,K.In h->∃(SF bm:Qe) (nm q:Str) (N:Addr) (bs:Qe) (X0:Bool) (sn:Qh) (sub:Qe) (ab:Bool) (col:Option Bool) (dd:Qj) (k0 k1 k2 k3 k5:Qf),
  ExcBaseFacts "ValueError" "ValueError.__new__" "ValueError.__init__" SF/\OwnTail h SF bm/\h.get? C=some (excClassObj nm q C N bs bm X0 sn sub ab col dd k0 k1 k2 k3 k5 "ValueError.__new__")/\
  ∃(mN:Str->Qf) (fo:Obj),h.Ns N mN/\mN "__init__"=some (.ref f)/\h.get? f=some fo/\fo.cls=.type "function"
def tXI(C:Addr)(i:Nat):TE:=λO H Q=>∃e a,O[i]?=some (some<|.ref e)/\H e=some (.ext<|phX C e a)/\Q .non H
def ZtB(c:JX X.K ρ C f){x y:Str}{B A v u m:Pos}{a:Str}{w:Nat}(hg:Gl X x)(U:X.mg x=some (.ref ρ))(hN:X.N[i]?=some y)(M:Vis X.env.scope y)
(K:(x==("__debug__" : Str))=false:=by decide)(hd:(y==("__debug__" : Str))=false:=by decide)(P:(y==("__classdict__" : Str))=false:=by decide){t:Sem Bool}
(S:eval (.Call (.Attribute (.Name x B) "__init__" A) [.Name y v,.Constant (.str a) w u] [] m) X.env=(do
  let ov <- eval (.Name x B) X.env
  standAt A.atName
  let (f,first) <- holding [ov] (getMethod ov "__init__" t)
  callWith m f first (backTo m<|starEach [.Name y v,.Constant (.str a) w u] X.env)<|backToKw m<|keywordEach [] X.env):=by rfl):
 PE X (.Call (.Attribute (.Name x B) "__init__" A) [.Name y v,.Constant (.str a) w u] [] m) (tXI C i):=by
 intro Z s O H Q I h;obtain⟨e,Y,e1,R,q⟩:=h;refine W.methodCall_KW (Gj I hg U ?_ K) S;refine W.method_cls I.kIn c.ga (W.cls_value I.kIn c.rd c.ini rfl ?_);have I1:=I.tok (s.toks+1);have p:PA X [.Name y v,.Constant (.str a) w u] _:=Qu (Ts hN M hd P) (Qu Vu Qq);refine PyProof.Rows.callWith_builtin1 (QE (p m Z _ O H (λg L=>g=[.ref e,.str a]/\L=H) I1 ⟨_,e1,rfl,rfl⟩) ?_) rfl rfl;rintro us n ⟨g,L,d,r,ev,eH⟩;subst ev eH;cases r with
 |cons o r=>
 cases r with
 |cons r2 r=>
 cases r;cases o;have J:=d.hok e _ R;obtain⟨⟨D,sl,he⟩,_,_⟩:=J;obtain⟨SF,bm,nm,qn,N,bs,X0,sn,l,ab,col,dd,k0,k1,k2,k3,k5,F,T,hC,_⟩:=c.cls _ d.kIn;refine EE F T hC he λh' G j=>?_;have E:Mut (L e):=by rw[R];trivial
 have W:=d.write (t':=n.toks) E Qa G (by obtain⟨_,_,z⟩:=j;exact⟨_,z⟩) (Nc j);have eu:upd L e (.ext<|phX C e Y)=L:=by
  funext b
  by_cases k:b=e
  .subst k;simp[upd,R]
  .simp[upd,k]
 rw[eu]at W;exact⟨.non,L,W,rfl,q⟩
end L2
namespace L2
def JF:Qe->Bool
 |.ref _::r=>JF r
 |l=>l==[.type "ValueError",.type "Exception",.type "BaseException",.type "object"]
theorem FJ(a:Value):∀{l:Qe},JF l=true->refuseLoop a "__setattr__" l=pure ()
 |.ref c::r,e=>by rw[refuseLoop_ref];exact FJ a (by simpa [JF] using e)
 |[],e=>by cases e
 |.type n::r,e=>by rw[show _=_ from beq_iff_eq.mp e];exact PySem.F.store_ValueError.passes a
theorem To:∀{l:Qe},JF l=true->l.contains (.type "object")=true
 |.ref c::r,e=>by rw[List.contains_cons,To<|by simpa [JF] using e,Bool.or_true]
 |[],e=>by cases e
 |.type n::r,e=>by rw[show _=_ from beq_iff_eq.mp e];decide
section
open PySem.W
variable {H0:Result->Shared->Prop}{K:Frag}{x:Addr}
def Z0s{v:Value}{r:Qf}(X:K.In s.heap)(I:W.InstAt s.heap x ox C od)(P:((clsIn K C).any λcd=>JF cd.mro)=true)(O:takerIn K C name=some r)
(h:∀b,wpAny (model prog w) A.in1 (match r with|some a=>Builtin.ObjectAttr.setByDescriptor a (.ref x) v|none=>Builtin.ObjectAttr.storeInOwnDict (.ref x) (.ref C) (.str name tk) name v b)
  (λfin p=>match fin with|.done f=>H0 (.ok f) p|.again c'=>c'.quiet=true/\codeAny (model prog w) A c' H0 p) (λe p=>H0 (.error e) p) s):
 codeAny (model prog w) A (.call (.builtin "object.__setattr__") ⟨[.ref x,.str name tk,v],[]⟩) H0 s:=by
 have m:=PySem.F.store_object;obtain⟨cd,D,u⟩:=any_some P;have N:cd.mro.isEmpty=false:=by cases q:cd.mro with|nil=>rw[q]at u;cases u|cons _ _=>rfl
 have y:Looks (model prog w) s.heap (isInstance _ _) true:=I.type.andThen (looks_mroIn X<|by unfold mroIn;rw[D,Option.bind_some,Xc<|by rw[N];decide,To u]);refine codeAny_call_builtin m.slot.plain m.entry (@check_slot _ _ _ s "object.__setattr__" "object" "__setattr__" _ [.str name tk,v] [] _ m.kind m.split y (m.args _ _ v) ?_);obtain⟨i,Z,B⟩:=Option.bind_eq_some_iff.mp O;have R:Looks (model prog w) s.heap (mroOf<|.ref C) cd.mro:=(looks_clsIn X D).andThen .now;have c:Looks (model prog w) s.heap (Builtin.ObjectAttr.storeTaker? i) r:=by
  cases i with
  |none=>cases B;exact .now
  |some a=>
   obtain⟨b,Y,rfl⟩:=Option.map_eq_some_iff.mp B;refine(looks_takesIn X Y).andThen ?_;cases b<;>exact .now
 rw[osa_eq,refuse_eq];refine Xa (Xa<|I.type.here<|Xa<|R.here ?_);rw[FJ _ u];refine Xl (Xa<|I.type.here<|Xa<|(looks_findIn X Z).here (Xa<|c.here ?_));exact h _
def Z0c{v:Value}(X:K.In s.heap)
(m:findIn K (.ref C) "__setattr__"=some (some<|.builtin "object.__setattr__"))(Y:((clsIn K C).any λcd=>JF cd.mro)=true)(R:takerIn K C name=some none)(Z:hasDictIn K C=true)
(i:s.heap.get? x=some { cls:=.ref C,dict:=none,data:=.fields fs,slots:=sl })
(h:∀h' t',(∀b o,b≠x->s.heap.get? b=some o->h'.get? b=some o)->h'.get? x=some { cls:=.ref C,dict:=some s.heap.objs.size,data:=.fields fs,slots:=sl }->
  h'.Ns1 s.heap.objs.size (λy=>if y=name then some v else none)->Q () { s with heap:=h',toks:=t' }):
 wpAny (model prog w) A (setAttr (.ref x) name v) Q H2 s:=by
 have J:W.InstAt s.heap x _ C none:=⟨i,rfl,rfl,trivial⟩;refine W.set_plain X J m (Z0s X J Y R λb=>?_);obtain⟨cd,d,B⟩:=W.any_some Z;refine Xa (Xl<|Xa<|Xa<|wpAny_loadPart i<|Xa<|W.Looks.here (W.looks_clsIn X d) ?_);rw[B];have P:(s.heap.push { cls:=.type "dict",data:=.dict #[] }).get? x=_:=Xd _ i;have a:=Xq (Xj i);dsimp only;refine Xa (wpAny_alloc' ?_);refine Xa (wpAny_update' P ?_);refine Xl ?_;have r:((s.heap.push { cls:=.type "dict",data:=.dict #[] }).update x λo=>{ cls:=o.cls,dict:=some s.heap.objs.size,data:=o.data,slots:=o.slots }).get? s.heap.objs.size
  = some { cls:=.type "dict",data:=.dict #[] }:=
  (Heap.get?_update_ne _ _ _ _ a.symm).trans (Heap.get?_push_at rfl rfl)
 have q:((s.heap.push { cls:=.type "dict",data:=.dict #[] }).update x λo=>{ cls:=o.cls,dict:=some s.heap.objs.size,data:=o.data,slots:=o.slots }).Ns s.heap.objs.size (λ_=>none):=
  ⟨_,#[],_,r,rfl,λe c=>Xr c<|by simp,λ_=>rfl⟩
 refine Xa (Xl<|Xa<|wpAny_nsSet1 (Heap.Ns1.of_empty q) λh' f m=>?_);obtain⟨l,g,j,p,u,D⟩:=f.count (Within.cons name v Within.nil);refine Xa (wpAny_lookBehind p (by rw[u];exact pastItsLine_dict<|Xx D<|by simp) ?_);refine Xl (h _ _ (λb k N O=>?_) ?_ f)
 .exact(m.2 b<|Xq<|Xj O).trans ((Heap.get?_update_ne _ _ _ _ N).trans (Xd _ O))
 .exact(m.2 x a).trans (JV _ P rfl)
end
end L2
namespace L2
structure AC(K:W.Frag)(C:Addr):Prop where
 sa:W.findIn K (.ref C) "__setattr__"=some (some<|.builtin "object.__setattr__")
 ov:((W.clsIn K C).any λcd=>JF cd.mro)=true
 hd:W.hasDictIn K C=true
def sXF(C:Addr)(D tv:TE)(f:Str):TS:=λta O H=>tv O H λy L=>D O L λx E=>∃e,x=.ref e/\E e=some (.ext<|phX C e none)/\
 ∀dx,E dx=none->dx≠e->ta.nx O (upd (upd E e<|.ext<|phX C e<|some dx) dx<|.xd [(f,y)])
section
variable {o value:Expr}{f:Str}{pos:Pos}
def IU(c:AC X.K C)(n:W.takerIn X.K C f=some none)(M:PE X o D)(w:PE X value tv)(t:swapsWith value (some<|.Attribute o f pos') pos.line X.env=pure false):PS X (.Assign [.Attribute o f pos'] value pos) (sXF C D tv f):=by
 intro Z s O H ta I h;refine plainObj_wpAny_Assign_Attribute (QE (w Z s O H _ I h) ?_) t;rintro u Y ⟨y,L,S,b,q⟩;refine QE (M Z Y O L _ S q) ?_;rintro U T ⟨x,E,a,d,e,Q,P,j⟩;subst Q;obtain rfl:=d;obtain⟨⟨D,R,N⟩,_,_⟩:=a.hok e _ P;refine Z0c a.kIn c.sa c.ov n c.hd N λh' t' l K G=>?_;have k:Mut (E e):=by rw[P];trivial
 have W:=a.write (t':=t') k Qa l ⟨_,K⟩ (Nc ⟨D,R,K⟩);have i:=(Xq<|Xj N).symm;have m:=a.fresh;refine⟨O,_,W.track (o:=.xd [_]) (by rw[Q6 i];exact m) a.sz (X5 a.lt) (λz c J r=>?_) (λp F r=>?_) ⟨_,G,λg=>?_⟩,j _ m i⟩
 .obtain⟨v,w⟩:=a.cell z c J;subst r;obtain⟨oc,B,_⟩:=w;exact Xr (Xj B) (Wb _)
 .have:=(a.pin p F).1;rw[r]at this;exact Xr (Xj this) (Wb _)
 .by_cases A:g=f
  .subst A;simp[List.lookup];exact b
  .rw[Xc A];have:(g==f)=false:=by simpa using A
   simp[List.lookup,this];trivial
end
def SQ(C:Addr)(f:Sp)(H2:XK)(t:TA):TE:=λO H Q=>t O H λa L=>a.length<=1000/\∀x,L x=none->
 f (.ref x::a) (upd L x<|.ext<|phX C x none) (λv E=>v=.non/\Q (.ref x) E) H2
section
variable {CX:CXT}{k:Nat}{sp:Sp}{H2:XK}{x:Str}{pos:Pos}{e:Expr}{t:TA}
def Zq0{H:Hp}{Q:VK}{us:Qe}{vs:List V}(c:JX X.K ρ C f)(F:FnOk X.prog X.w X.K X.mg X.base CX k f fd ps sp)(j:Room (k+1) X.A)(z:VH X.K fd ps [])
(Y:Jn CX X H2)(I:Qt X Z O H s)(r:QR vs us)(hl:vs.length<=1000)
(h:∀x,H x=none->sp (.ref x::vs) (upd H x<|.ext<|phX C x none) (λv E=>v=.non/\Q (.ref x) E) H2):
 wpAny (model X.prog X.w) X.A (call (.ref C) us) (EP X Z O Q) X.xe s:=by
 obtain⟨SF,bm,nm,qn,N,bs,X0,sn,B,ab,col,dd,k0,k1,k2,k3,k5,FB,T,J,mN,fo,G,l,n,t⟩:=c.cls _ I.kIn;have y:=h (s.heap.objs.size+1) (I.hok.fresh<|Nat.le_succ _);obtain⟨i,g,d,A,os⟩:=s;have W:∀b o,i.get? b=some o->(UG i C us).get? b=some o:=λb o e=>Xd _ (Xd _ e);have R:(UG i C us).get? (i.objs.size+1)=some (Tf C i.objs.size):=Heap.get?_push_at (by rw[Jx]) rfl;have m:=I.laid (t':=A) W (Nat.le_succ _) (Nc ⟨_,_,R⟩);have w:QR (V.ref (i.objs.size+1)::vs) (Value.ref (i.objs.size+1)::us):=.cons rfl r
 have q:(Value.ref (i.objs.size+1)::us++[]).length=ps.length:=by
  have e:=w.length;rw[F.len _ _ _ _ y]at e;simpa using e.symm
 refine Ez FB T J G l n t (by rw[<- r.length,sizeLine_eq];lia) ?_;have p:=F.run _ X.stack _ _ _ (Value.ref (i.objs.size+1)::us) _ _ H2 (j.make C us []) (m.env0.make C us []) (by simpa using z _ (Value.ref (i.objs.size+1)::us) m.kIn q) w y;refine wpAny_call (codeAny_mono p λr D a=>?_);cases r with
 |error e=>exact Y Z O _ _ e D m a
 |ok L=>
  cases L with
  |ret u=>
   obtain⟨v,M,U,K,S,P⟩:=m.after a;subst S;exact⟨K,⟨V.ref<|i.objs.size+1,M,U,rfl,P⟩⟩
  |next=>exact False.elim a
  |brk=>exact False.elim a
  |cont=>exact False.elim a
def ZtE(c:JX X.K ρ C f)(u:W.keepIn X.K (.ref C)=true)(F:FnOk X.prog X.w X.K X.mg X.base CX k f fd ps sp)(w:Room (k+1) X.A)(A:Gl X x)(y:X.mg x=some (.ref C))(D:VH X.K fd ps [])(v:Jn CX X H2)
(K:PA X (e::es) t)(i:(x==("__debug__" : Str))=false:=by decide)(B:zs X e es:=by rfl)(a:zb X pos es:=by rfl):
 PE X (.Call (.Name x p) (e::es) [] pos) (SQ C sp H2 t):=by
 intro Z s O H Q I h;refine wpAny_Call_Name_kw (Gj I A y ?_ i);refine W.callWith_K I.ok.mod.kin u (QE (K pos Z s O H _ I h) ?_) B a;rintro P R ⟨N,L,m,r,q⟩;refine⟨m.kIn,?_⟩;exact Zq0 c F w D v m r q.1 q.2
end
def sXR(C:Addr)(te:TE)(H0:Addr->Qj->Hp->Prop):TS:=λta O H=>te O H λv L=>∃e a,v=.ref e/\L e=some (.ext<|phX C e a)/\H0 e a L
section
variable {env:Env}
variable {N:Addr}{bs:Qe}{sub:Qe}
def Oj(u:A.handled=none)
(h:wpAny H' A x (λv i=>∃e t f p bm nm q N bs X0 sn sub ab col dd k0 k1 k2 k3 k5 newId,v=.ref e/\bm.contains (Value.type "BaseException")=true/\i.heap.get? C=some (excClassObj nm q C N bs bm X0 sn sub ab col dd k0 k1 k2 k3 k5 newId)/\
  i.heap.get? e=some { cls:=.ref C,dict:=f,data:=.fields #[.ref t,.none,.none,.none,.bool false,.none],slots:=p }/\H2 (.ref e) i) H2 s):
 wpAny H' A (raiseStmt env (some x) none) Q H2 s:=by
 refine Xa (wpAny_mono h (λv i B=>?_) λ_ _ x=>x);obtain⟨e,t,f,p,bm,nm,q,N,bs,X0,sn,sub,ab,col,dd,k0,k1,k2,k3,k5,newId,rfl,a,r,w,y⟩:=B;have m:(Value.ref C::bm).contains (.type "BaseException")=true:=by rw[List.contains_cons,a,Bool.or_true]
 repeat (first|with_reducible refine wpAny_loadPart_at w ?_|with_reducible refine wpAny_loadPart_at r ?_|(with_reducible refine wpAny_isSubtype_exc r ?_;rw[m])|wp_step)
 exact wpAny_raiseNew_none u y
end
end L2
namespace L2
structure Leaves(l:List Env)(e:Addr)(oe:Obj)(h h':Heap)(T:Addr):Prop where
 keep:∀b o,b∉l.filterMap (·.frame)->b≠e->h.get? b=some o->h'.get? b=some o
 slot:∀b o,b∈l.filterMap (·.frame)->h.get? b=some o->∃sl,h'.get? b=some { o with slots:=sl }
 new:h.objs.size<=T
 exc:h'.get? e=some (Obj.mapFields (·.setIfInBounds 1 (Value.ref T)) oe)
 tb:∃oT ts,h'.get? T=some oT/\oT.data=.fields ts/\ts[3]?=some .none
def FR
(K:A.frames=some (env::outer))(P:s.heap.FunFrames base (env::outer))(l:env.frame=some H1)
(R:s.heap.get? e=some oe)(N:oe.data=.fields vs)(hsz:1<vs.size)
(h:∀h' T,Leaves (env::outer) e oe s.heap h' T->Q () { s with heap:=h' }):
 wpAny H' A (do let a <- frameOf env;let m <- entryPlaceOf H1 hadNext;let b <- EntryCells.newEntry head a .none (rawInt H1) .none m;setField (.ref e) 1 b) (λ_ g=>wpAny H' A (setFlight (.ref e) none) Q H2 g) H2 s:=by
 have u:e∉(env::outer).filterMap (·.frame):=λk=>by
  obtain⟨_,o,r,D⟩:=P.mem k;rw[R]at r;injection r with r;subst r;exact D vs N
 refine Xa (wpAny_frameOf_fun K P l λi C=>?_);refine Xa (wpAny_entryPlaceOf λm y=>?_);refine Xa (wpAny_newObj_type ?_<|y.sizeOk5 _ _ _ _ _);have c:=(C.2.1 e u).trans R;have Z:=Xd { cls:=.type "traceback",dict:=none,data:=.fields ([head,.ref H1,.none,rawInt H1,.none]++(if m.isEmpty then List.replicate 6 Value.none else m)).toArray } c;refine wpAny_setField Z N hsz ?_;have B:=X5 (Xj c);have Y:=Obj.data_mapFields N (·.setIfInBounds 1 (Value.ref i.objs.size));have X:=JV (Obj.mapFields (·.setIfInBounds 1 (Value.ref i.objs.size))) Z (Obj.isFreed_of_fields Y);have W:=(X7 (i.push { cls:=.type "traceback",dict:=none,data:=.fields ([head,.ref H1,.none,rawInt H1,.none]++(if m.isEmpty then List.replicate 6 Value.none else m)).toArray })
  (Obj.mapFields (·.setIfInBounds 1 (Value.ref i.objs.size))) (Ne.symm B)).trans (XG i rfl)
 refine Xa (Yz X Y (x:=.ref i.objs.size) (by simp[hsz]) ?_);refine wpAny_setField W rfl (by simp only[Xv,Xy,Wt,List.length_nil]<;>lia) (h _ i.objs.size ?_);have p:∀b o,b≠e->i.get? b=some o->
  (((i.push { cls:=.type "traceback",dict:=none,data:=.fields ([head,.ref H1,.none,rawInt H1,.none]++(if m.isEmpty then List.replicate 6 Value.none else m)).toArray }).update e (Obj.mapFields (·.setIfInBounds 1 (Value.ref i.objs.size)))).update i.objs.size
    (Obj.mapFields (·.setIfInBounds 3 ((none:Qj).elim Value.none λf=>rawInt f)))).get? b=some o:=λb o v w=>by
  have O:=X5 (Xj w);rw[X7 _ _ O,X7 _ _<|Ne.symm v];exact Xd _ w
 refine⟨λb o w v r=>p b o v<|(C.2.1 b w).trans r,λb o w r=>?_,?_,?_,?_⟩
 .obtain⟨d,j⟩:=C.2.2 b o r;exact⟨d,p b _ (λq=>u<|q▸w) j⟩
 .exact Nat.le_of_eq C.1.symm
 .rw[X7 _ _ B];exact X
 .exact⟨_,_,JV _ W<|Obj.isFreed_of_fields<|Obj.data_mapFields rfl _,Obj.data_mapFields rfl _,by first|(simp;done)|(rcases y with rfl|⟨_,_,_,_,_,_,_,rfl⟩<;>simp)⟩
def ZmH
(a:A.frames=some (env::outer))(q:s.heap.FunFrames base (env::outer))(f:env.frame=some H1)
(i:s.heap.get? e=some oe)(m:oe.data=.fields vs)(p:vs[1]?=some .none)
(h:∀h' T,Leaves (env::outer) e oe s.heap h' T->Q () { s with heap:=h' }):wpAny H' A (leaving env<|.ref e) Q H2 s:=by
 unfold leaving noteFrame;simp only[f];refine Xa (Xa<|Yz i m p ?_);exact FR a q f i m (Array.getElem?_eq_some_iff.mp p).1 h
def CH{a:Env}{ts:Array Value}
(D:A.frames=some (a::outer))(Z:s.heap.FunFrames base (a::outer))(N:a.frame=some H1)
(O:s.heap.get? e=some oe)(P:oe.data=.fields vs)(R:vs[1]?=some (.ref T0))(g:T0≠e)(w:s.heap.get? T0=some oT)(m:oT.data=.fields ts)(y:ts[3]?=some .none)
(h:∀h' T,Leaves (a::outer) e oe s.heap h' T->Q () { s with heap:=h' }):wpAny H' A (noteFrame (.ref e) a) (λ_ X=>wpAny H' A (setFlight (.ref e) none) Q H2 X) H2 s:=by
 unfold noteFrame;simp only[N];refine Xa (Yz O P R ?_);refine Xa (Yz w m y ?_);refine Xa (wpAny_setField w m (Array.getElem?_eq_some_iff.mp y).1 ?_);have u:=(Array.getElem?_eq_some_iff.mp y).1;have r:Obj.mapFields (·.setIfInBounds 3 Value.none) oT=oT:=by
  obtain⟨c,d,k,j⟩:=oT;subst m;have:ts.setIfInBounds 3 Value.none=ts:=by
   apply Array.ext_getElem?;intro i;rw[Array.getElem?_setIfInBounds];by_cases K:3=i
   .subst K;rw[Xf rfl,Xf u,y]
   .rw[Xc K]
  unfold Obj.mapFields;simp[this]
 have p:∀b o,s.heap.get? b=some o->(s.heap.update T0 _).get? b=some o:=λb o v=>by
  by_cases q:b=T0
  .subst q;rw[w]at v;cases v;rw[JV _ w<|Obj.isFreed_of_fields<|Obj.data_mapFields m _,r]
  .rw[X7 _ _<|Ne.symm q];exact v
 refine FR D (Z.of_keeps λb o v Y=>⟨o,p b o v,rfl⟩) N (p e _ O) P (Array.getElem?_eq_some_iff.mp R).1 λh' T f=>h h' T ?_
 exact⟨λb o C B W=>f.keep b o C B<|p b o W,λb o C B=>f.slot b o C<|p b o B,by have:=f.new;simpa only [Heap.size_update] using this,f.exc,f.tb⟩
def ZpH{ts:Array Value}
(a:A.frames=some (env::outer))(m:s.heap.FunFrames base (env::outer))(p:env.frame=some H1)
(q:s.heap.get? e=some oe)(r:oe.data=.fields vs)(w:vs[1]?=some (.ref T0))(i:T0≠e)(u:s.heap.get? T0=some oT)(f:oT.data=.fields ts)(v:ts[3]?=some .none)
(h:∀h' T,Leaves (env::outer) e oe s.heap h' T->Q () { s with heap:=h' }):wpAny H' A (leaving env<|.ref e) Q H2 s:=Xa (CH a m p q r w i u f v h)
end L2
namespace L2
def phT(T:Addr):Heap->Prop:=λh=>∃f a,h.get? T=some f/\f.data=.fields a/\a[3]?=some .none
def phF(C e:Addr)(f:Qj)(T:Addr):Heap->Prop:=λh=>∃(a:Array Value) (i:Array (Qf)),h.get? e=some { cls:=.ref C,dict:=f,data:=.fields a,slots:=i }/\a[1]?=some (.ref T)/\a[2]?=some .none
def EH(p:phT T h):Vj P w H h T (.ext<|phT T):=⟨p,by obtain⟨o,_,q,_⟩:=p;exact⟨_,q⟩,λm i f k=>by obtain⟨o,a,q,r⟩:=f;exact⟨o,a,k _ q,r⟩⟩
def AE(p:phF C e dct T h):Vj P w H h e (.ext<|phF C e dct T):=⟨p,by obtain⟨o,_,q,_⟩:=p;exact⟨_,q⟩,λm i f k=>by obtain⟨o,a,q,r⟩:=f;exact⟨o,a,k _ q,r⟩⟩
abbrev left(C e:Addr)(dct:Qj)(T:Addr)(H:Hp):Hp:=upd (upd H e<|.ext<|phF C e dct T) T (.ext<|phT T)
section
variable {H:Hp}
def Re(I:Qt X Z O H s)(B:Mut (H e))
(W:s.heap.get? e=some { cls:=.ref C,dict:=dct,data:=.fields vs,slots:=d })(hsz:1<vs.size)(P:vs[2]?=some .none)
(f:Leaves X.stack e { cls:=.ref C,dict:=dct,data:=.fields vs,slots:=d } s.heap h' T):Qt X Z O (left C e dct T H) { s with heap:=h' }:=by
 have i:∀b,H b=none->b≠e:=λb a q=>by subst q;rw[a]at B;exact B
 have N:∀b o,H b=some o->b≠T:=λb o a=>Xq (XM (I.hok.lt a) f.new)
 have m:∀b o,H b=some o->b≠e->left C e dct T H b=some o:=λb o a q=>by
  unfold left;rw[Q6<|N b o a,Q6 q];exact a
 have r:∀b o,H b=some o->b∉frs X.stack:=λb o a q=>by rw[I.stkFree b q]at a;cases a
 have h:∀b o,H b=some o->¬Mut (some o)->b≠e:=λb o a n q=>by subst q;rw[a]at B;exact n B
 have U:Un (frs X.stack) [] H (left C e dct T H) s.heap h':=
  { keep:=λb o p a y _=>f.keep b o y (i b a) p
    slot:=λb o p a y _=>f.slot b o y p
    free:=λb o p a _=>by
     unfold left;rw[Q6<|Xq<|XM (Xj p) f.new,Q6<|i b a];exact a
    there:=λb o p _=>by
     by_cases y:b∈frs X.stack
     .obtain⟨d,z⟩:=f.slot b o y p;exact⟨_,z⟩
     .by_cases q:b=e
      .subst q;exact⟨_,f.exc⟩
      .exact⟨_,f.keep b o y q p⟩
    tups:=λb xs a=>m b _ a (h b _ a λz=>z)
    frzs:=λb o u a=>m b _ a (h b _ a λz=>z)
    tupo:=λb xs o a p _=>f.keep b o (r b _ a) (h b _ a λz=>z) p
    tbls:=λb ps a=>⟨#[],by rw[m b _ a<|h b _ a λz=>z];simp⟩ }
 have K:HOk X.prog X.w (left C e dct T H) h':=λb u a=>by
  by_cases q:b=T
  .subst q;unfold left at a;rw[QT]at a;cases a;exact EH f.tb
  .by_cases D:b=e
   .subst D;unfold left at a;rw[Q6 q,QT]at a;cases a;exact AE ⟨_,_,f.exc,by simp[hsz],by rw[Array.getElem?_setIfInBounds_ne<|by decide];exact P⟩
   .have A:=by unfold left at a;rw[Q6 q,Q6 D]at a;exact a
    refine(I.hok b u A).stay (λc v w R=>?_) (λc w=>?_) λc xs w=>?_
    .rcases w with z|z
     .subst z;exact f.keep c v (r c _ A) D R
     .exact f.keep c v (r c _ z) (h c _ z λz=>z) R
    .exact m c _ w (h c _ w λz=>z)
    .exact m c _ w (h c _ w λz=>z)
 exact I.call U K I.bare<|by rintro b ⟨⟩
end
end L2
namespace L2
def Fly(C e:Addr)(a:Qj)(H:Hp):Prop := ∃T,T≠e/\H e=some (.ext<|phF C e a T)/\H T=some (.ext<|phT T)
def XE(C:Addr)(H0:Addr->Qj->Hp->Prop):XK:=λv a H=>∃e,v=.ref e/\Fly C e a H/\H0 e a H
def CX1(P:Program)(w:World):CXT:=λouter H s H2 v a=>∃f M,a.os=s.os/\AllBare a.gens/\Un (frs outer) [] H M s.heap a.heap/\HOk P w M a.heap/\H2 v f M
def WG(C:Addr)(H0:Addr->Qj->Hp->Prop):Prop := ∀e a H T,H0 e a H->H T=none->T≠e->H0 e a (left C e a T H)
section
variable {base:Heap}{N:Qh}
abbrev cx1(P:Program)(w:World)(K:W.Frag)(mg:Str->Qf)(base:Heap)(N:Qh)(qual:Str)(scope:Scope)(f:Addr)(cd:Value)(A:Around)(outer:List Env)(s0:Shared)(R:Hp)(H2:XK):Cx:=JZ (CX1 P w) P w K mg base N qual scope f cd A outer s0 R H2
variable {H:Hp}
def Zu4(h:T≠e):Fly C e dct (left C e dct T H):=⟨T,h,by unfold left;rw[Q6<|Ne.symm h,QT],by unfold left;rw[QT]⟩
def Ti(i:WG C H0)(I:Qt (cx1 P w K mg base N qual scope f cd A outer s0 R<|XE C H0) Z O (left C e dct T H) { s with heap:=h' })(h:H T=none)(a:T≠e)(r:H0 e dct H):
 CX1 P w outer R s0 (XE C H0) (.ref e) { s with heap:=h' }:=⟨dct,_,I.os,I.bare,I.base,I.hok,e,rfl,Zu4 a,i e dct H T r h a⟩
def ZsZ(m:WG C H0)(I:Qt (cx1 P w K mg base N qual scope f cd A outer s0 R<|XE C H0) Z O H s)(i:H e=some (.ext<|phX C e dct))(r:H0 e dct H):
 (cx1 P w K mg base N qual scope f cd A outer s0 R<|XE C H0).xe (.ref e) s:=by
 obtain⟨⟨t,p,h⟩,_,_⟩:=I.hok e _ i;refine ZmH I.ok.frames I.stack rfl h rfl rfl λh' T a=>?_;exact Ti m (Re I (by rw[i];trivial) h (by simp) rfl a) (I.hok.fresh a.new) (X5<|XM (Xj h) a.new) r
def P0(n:WG C H0):Jn (CX1 P w) (cx1 P w K mg base N qual scope f cd A outer s0 R<|XE C H0) (XE C H0):=by
 intro Z O H s v Y I h;obtain⟨E,M,j,m,X,u,e,rfl,⟨F,y,D,l⟩,r⟩:=h;obtain⟨k,g,d,t,c⟩:=Y;obtain rfl:=j;have i:=I.call (h':=k) (g':=g) (d':=d) (t':=t) X u m (by rintro b ⟨⟩);obtain⟨⟨G,L,q,W,B⟩,_,_⟩:=i.hok e _ D;obtain⟨⟨Q,J,p,x,o⟩,_,_⟩:=i.hok F _ l;refine ZpH i.ok.frames i.stack rfl q rfl W y p x o λh' T a=>?_;exact Ti n (Re i (by rw[D];trivial) q (Array.getElem?_eq_some_iff.mp W).1 B a) (i.hok.fresh a.new) (X5<|XM (Xj q) a.new) r
end
end L2
namespace L2
section
variable {e:Expr}{pos:Pos}
def Zto(c:JX X.K ρ C f)(m:X.calm=true)(P:PE X e te)(K:∀Z O H s a i,Qt X Z O H s->H a=some (.ext<|phX C a i)->H0 a i H->X.xe (.ref a) s):PS X (.Raise (some e) none pos) (sXR C te H0):=by
 intro Z s O H ta I h;refine Xa (wpAny_standAt<|Oj (C:=C) (I.ok.hd m)<|Xa<|QE (P Z s O H _ I h) ?_);rintro u d ⟨v,L,y,r,a,i,W,A,q⟩;refine Xa<|wpAny_standAt<|Xl ?_;subst W;obtain rfl:=r;obtain⟨⟨t,B,w⟩,_,_⟩:=y.hok a _ A;obtain⟨SF,bm,nm,D,N,Y,X0,sn,p,ab,col,dd,k0,k1,k2,k3,k5,b,T,R,_⟩:=c.cls _ y.kIn
 exact⟨a,t,i,B,bm,nm,D,N,Y,X0,sn,p,ab,col,dd,k0,k1,k2,k3,k5,_,rfl,T.hasType b.hasBase,R,w,K _ _ _ _ _ _ y A q⟩
end
end L2
namespace L2
inductive Lefts(C e:Addr)(dct:Qj):Hp->Hp->Prop
 |nil {H}:Lefts C e dct H H
 |step {H M T}:Lefts C e dct H M->M T=none->T≠e->Lefts C e dct H (left C e dct T M)
def Lefts.head(m:H T=none)(i:T≠e)(h:Lefts C e dct (left C e dct T H) M):Lefts C e dct H M:=by
 induction h with
 |nil=>exact .step .nil m i
 |step _ a b f=>exact .step f a b
abbrev Uv(X:Cx)(e:Addr)(pn:Qc):Cx:={ X with pn:=pn,A:=X.A.mark (some<|.ref e),calm:=false,xe:=λ_ _=>False }
section
variable {H:Hp}{ta:Ends}
def Qt.toPn(I:Qt X Z O H s):Qt { X with pn:=X.pn++Z } [] O H s:=
 ⟨⟨I.ok.mod,I.ok.kind,I.ok.glob,I.ok.blt,I.ok.above,I.ok.inj,I.ok.has,I.ok.cab,I.ok.hd,I.ok.frames,I.ok.stk,I.ok.exf,I.ok.bs,I.ok.bsz,I.ok.noex,I.ok.exfs,I.ok.funs,I.ok.frf⟩,I.os,I.bare,I.base,I.loc,I.cell,I.free,I.freeC,λp a=>I.pin p<|by simpa using a,I.hok,I.len⟩
def Qt.ofPn(I:Qt { X with pn:=X.pn++Z } pins' O H s):Qt X Z O H s:=
 ⟨⟨I.ok.mod,I.ok.kind,I.ok.glob,I.ok.blt,I.ok.above,I.ok.inj,I.ok.has,I.ok.cab,I.ok.hd,I.ok.frames,I.ok.stk,I.ok.exf,I.ok.bs,I.ok.bsz,I.ok.noex,I.ok.exfs,I.ok.funs,I.ok.frf⟩,I.os,I.bare,I.base,I.loc,I.cell,I.free,I.freeC,λp a=>I.pin p<|Jz _ a,I.hok,I.len⟩
def Qt.toHandler(I:Qt { X with pn:=pn } Z O H s):Qt (Uv X e pn) Z O H s:=
 ⟨⟨I.ok.mod,I.ok.kind,I.ok.glob,I.ok.blt,I.ok.above,I.ok.inj,I.ok.has,I.ok.cab,(λz=>by cases z),I.ok.frames,I.ok.stk,I.ok.exf,I.ok.bs,I.ok.bsz,I.ok.noex,I.ok.exfs,I.ok.funs,I.ok.frf⟩,I.os,I.bare,I.base,I.loc,I.cell,I.free,I.freeC,I.pin,I.hok,I.len⟩
def Qt.ofHandler(a:X.Ok)(I:Qt (Uv X e pn) Z O H s):Qt { X with pn:=pn } Z O H s:=
 ⟨⟨I.ok.mod,I.ok.kind,I.ok.glob,I.ok.blt,I.ok.above,I.ok.inj,I.ok.has,I.ok.cab,a.hd,a.frames,I.ok.stk,I.ok.exf,I.ok.bs,I.ok.bsz,I.ok.noex,I.ok.exfs,I.ok.funs,I.ok.frf⟩,I.os,I.bare,I.base,I.loc,I.cell,I.free,I.freeC,I.pin,I.hok,I.len⟩
def SP.ofPn{f:Flow}(h:SP { X with pn:=X.pn++Z,xe:=H2 } pins' ta f s'):SP X Z ta f s':=by
 have o:∀{a M},Qt { X with pn:=X.pn++Z,xe:=H2 } pins' a M s'->Qt X Z a M s':=λI=>Qt.ofPn (I.unwish)
 cases f with
 |next=>obtain⟨a,M,I,q⟩:=h;exact⟨a,M,o I,q⟩
 |brk=>obtain⟨a,M,I,q⟩:=h;exact⟨a,M,o I,q⟩
 |cont=>obtain⟨a,M,I,q⟩:=h;exact⟨a,M,o I,q⟩
 |ret u=>obtain⟨v,a,M,I,r,q⟩:=h;exact⟨v,a,M,o I,r,q⟩
def SP.ofHandler{f:Flow}(i:X.Ok)(h:SP (Uv X e<|X.pn++Z) [] ta f s'):SP X Z ta f s':=by
 cases f with
 |next=>obtain⟨a,M,I,q⟩:=h;exact⟨a,M,(I.ofHandler i).ofPn,q⟩
 |brk=>obtain⟨a,M,I,q⟩:=h;exact⟨a,M,(I.ofHandler i).ofPn,q⟩
 |cont=>obtain⟨a,M,I,q⟩:=h;exact⟨a,M,(I.ofHandler i).ofPn,q⟩
 |ret u=>obtain⟨v,a,M,I,r,q⟩:=h;exact⟨v,a,M,(I.ofHandler i).ofPn,r,q⟩
end
def Znq(K:phF C e dct T s.heap)(N:phT T s.heap)
(h:∀h',(∀b o,s.heap.get? b=some o->h'.get? b=some o)->Q () { s with heap:=h' }):wpAny H' A (setFlight (.ref e) none) Q H2 s:=by
 obtain⟨P,B,D,O,_⟩:=K;obtain⟨r,v,f,m,y⟩:=N;have a:=(Array.getElem?_eq_some_iff.mp y).1;have p:Obj.mapFields (·.setIfInBounds 3 Value.none) r=r:=by
  obtain⟨c,d,R,B⟩:=r;subst m;have:v.setIfInBounds 3 Value.none=v:=by
   apply Array.ext_getElem?;intro i;rw[Array.getElem?_setIfInBounds];by_cases w:3=i
   .subst w;rw[Xf rfl,Xf a,y]
   .rw[Xc w]
  unfold Obj.mapFields;simp[this]
 refine wpAny_setFlight_none D rfl O f m a (h _ λb o u=>?_)
 by_cases q:b=T
 .subst q;rw[f]at u;cases u;rw[JV _ f<|Obj.isFreed_of_fields<|Obj.data_mapFields m _,p]
 .rw[X7 _ _<|Ne.symm q];exact u
def SM(tb:Ends->TS):TS:=λta O H=>tb ta ta O H
section
variable {x:Str}
def Zua{ta:Ends}(c:JX X.K ρ C f)(v:X.Ok)(h:X.stack=X.env::X.outer)(w:X.env.frame=some X.env.locals)(o:Gl X x)(l:X.mg x=some (.ref C))
(n:∀e pn,PSs (Uv X e pn) (b0::suite) th)(I:Qt { X with pn:=pn } [] O H s)(A:T0≠e)(P:H e=some (.ext<|phF C e dct T0))(E:H T0=some (.ext<|phT T0))
(t:(x==("__debug__" : Str))=false)
(k:∀T,H T=none->T≠e->th ta O (left C e dct T H))(F:∀f m,SP (Uv X e pn) [] ta f m->Q f m):
 wpAny (model X.prog X.w) X.A (noteFrame (.ref e) X.env) (λ_ Z=>wpAny (model X.prog X.w) X.A (setFlight (.ref e) none) (λ_ Y=>wpAny (model X.prog X.w) X.A (handleBy (.ref e) X.env (.ExceptHandler (some<|.Name x np) none (b0::suite) hpos::rest)) Q H2 Y) H2 Z) H2 s:=by
 obtain⟨⟨vs,sl,u,R,B⟩,_,_⟩:=I.hok e _ P;obtain⟨⟨oT,ts,r,D,L⟩,_,_⟩:=I.hok T0 _ E;have M:X.A.frames=some (X.env::X.outer):=by rw[v.frames,h]
 have K:=I.stack;have K:s.heap.FunFrames X.base (X.env::X.outer):=by rw[<- h];exact K
 refine CH M K w u rfl R A r D L λh' T a=>?_;have J:=Re I (by rw[P];trivial) u (Array.getElem?_eq_some_iff.mp R).1 B (by show Leaves X.stack _ _ _ _ _;rw[h];exact a);have y:H T=none:=I.hok.fresh a.new;have i:T≠e:=X5 (XM (Xj u) a.new);have p:Qt (Uv X e pn) [] O (left C e dct T H) { s with heap:=h' }:=J.toHandler;refine wpAny_handleBy_cons (codeAny_handlers_test<|Gj p o l ?_ t) (by intro q;cases q);obtain⟨SF,bm,nm,qn,N,bs,X0,sn,W,ab,col,dd,k0,k1,k2,k3,k5,U,TT,G,_⟩:=c.cls _ J.kIn;refine wpAny_excMatches_sub_self G a.exc rfl (TT.hasType U.hasBase) (codeAny_handlers_suite ?_);have j:left C e dct T H e=some (.ext<|phF C e dct T):=by unfold left;rw[Q6<|Ne.symm i,QT]
 have g:left C e dct T H T=some (.ext<|phT T):=by unfold left;rw[QT]
 obtain⟨d,_,_⟩:=p.hok e _ j;obtain⟨b,_,_⟩:=p.hok T _ g;refine Znq d b λD k2=>?_;have S:Qt (Uv X e pn) [] O (left C e dct T H) { s with heap:=D }:=p.kept (t':=s.toks) k2;exact wpAny_mono (n e pn [] _ O _ ta S<|k T y i) (λf m z=>F f m z) λ_ _ z=>False.elim z
end
end L2
namespace L2
open PySem PySem.Spec PyProof.Rows PySem.W
abbrev Au:Qe:=[.type "ValueError",.type "Exception",.type "BaseException",.type "object"]
def ZoZ{K:Frag}{N:Addr}{v:Value}(X:K.In h)(G:h.Ns N mg)(e:nsIn K N n=some (some v)):mg n=some v:=by
 obtain⟨o,es,u,a,i,_,f⟩:=G;unfold nsIn at e;split at e
 .rename_i c d m r p q;have:=X _ _ q;rw[a]at this;cases this;cases i;split at e
  .rename_i s;cases e;rw[<- f];unfold nsFind findBy;simp_all
  .lia
 .cases e
def KA(K:Frag)(C f:Addr):Bool:=match K.lookup C with
 |some ⟨.type "type",_,.cls cd,a⟩=>(match cd.mro,a.toList with
   |.ref h::bm,[_,_,_,_,some<|.builtin n,_]=>h==C&&n == "ValueError.__new__" && !cd.hasDel&&tailIn K Au bm&&nsOkIn K cd.ns&&nsIn K cd.ns "__init__" == some (some<|.ref f)
   |_,_=>false)
 |_=>false
theorem AQ{K:Frag}  (q:KA K C f=true)(v:K.lookup f=some fo)(A:fo.cls=.type "function")
(ga:specialIn K (.ref ρ) "__getattribute__"=some (some<|.builtin "type.__getattribute__"))(rd:readsIn K ρ (.type "type")=true)(ini:findCls K (.ref ρ) (.type "type") "__init__"=some (.val<|.builtin "ValueError.__init__")):JX K ρ C f where
 ga:=ga
 rd:=rd
 ini:=ini
 cls:=λh X=>by
  unfold KA at q;split at q
  .rename_i dd cd p y;split at q
   .rename_i N bm k0 k1 k2 k3 n k5 r D;simp only[Jy,beq_iff_eq,Bool.not_eq_true']at q;obtain⟨⟨⟨⟨⟨rfl,rfl⟩,a⟩,w⟩,hok⟩,i⟩:=q;obtain⟨nm,bs,u,ns,s,hd,sn,sub,ab,col,B⟩:=cd;dsimp only at r a hok i;subst r a;have m:p=#[k0,k1,k2,k3,some<|.builtin "ValueError.__new__",k5]:=by
     obtain⟨l⟩:=p;simp_all
    subst m;have G:h.Ns ns _:=.of_isNs (isNs_of_in X hok);exact⟨Au,bm,nm,s,ns,bs,hd,sn,sub,ab,col,dd,k0,k1,k2,k3,k5,PySem.F.excBase_ValueError,tail_of_in X w,X _ _ y,_,fo,G,ZoZ X G i,X _ _ v,A⟩
   .cases q
  .cases q
end L2
namespace L2
def UK(P:Program)(w:World)(K:W.Frag)(mg:Str->Qf)(base:Heap)(x:Str)(ps:Qh)(k:Nat)(a:Sp):Prop:=
 ∃f fd,mg x=some (.ref f)/\W.keepIn K (.ref f)=true/\VH K fd ps []/\FnOk P w K mg base (CX1 P w) k f fd ps a
section
variable {base:Heap}
def B1(P:Program)(w:World)(K:W.Frag)(mg:Str->Qf)(base:Heap)(N:Qh)(q:Str)(st:Stmt)(k:Nat)(f:Addr)(H:Hp)(H2:XK)(G:TS->Prop):Prop := ∀(a:Value) (A:Around) (outer:List Env) (s:Shared),Room k (A.deeper<|envOfC q (Q5 st) s.heap.objs.size f a)->∃t,PSs (cx1 P w K mg base N q (Q5 st) f a A outer s H H2) (YZ st) t/\G t
def Fun.okX{x:Str}{st:Stmt}{N:Qh}{k:Nat}{a:Sp}(F:Fun K x qual st f fd)(S:Qo N ps (Q5 st))(h:∀vs H Q H2,a vs H Q H2->vs.length=ps.length)
(q:∀vs H Q H2,a vs H Q H2->B1 P w K mg base N qual st k f H H2 (Rn N vs H Q)):FnOk P w K mg base (CX1 P w) (k+1) f fd ps a:=by
 obtain⟨D,C,kV,y,B,R,p,O,r,rfl,u,m⟩:=F.ex;exact P8 u m S h λA outer s H vs Q H2 v i=>q vs H Q H2 i p A outer s v
end
def TV{x:Str}{a:Pos}{e:Expr}{t:TA}{j k:Nat}{m:Sp}{H2:XK}(C:UK X.prog X.w X.K X.mg X.base x ps j m)(r:Room k X.A)(q:Jn (CX1 X.prog X.w) X H2)(B:PA X (e::es) t)(v:j<=k:=by walk_at"j")(w:Gl X x:=by rfl)
(i:(x==("__debug__" : Str))=false:=by decide +kernel)
(y:zs X e es:=by rfl)(h:(backTo a<|starEach es X.env).any (·.1)=false:=by rfl):PE X (.Call (.Name x p) (e::es) [] a) (YC m [] H2 t):=by
 obtain⟨f,fd,s,u,A,F⟩:=C;exact TF F (r.mono v) w s u A .nil q B i y h
def Mn(K:W.Frag)(C:Addr)(f:Str):Sp:=λa H Q _=>∃(e p:Addr) (xs:List V),a=[.ref e,.ref p]/\H e=some (.ext<|phX C e none)/\SqL K H p xs/\
 ∀q dx,H q=none->H dx=none->dx≠q->dx≠e->q≠e->Q .non (upd (upd (upd H q<|.lst xs) e<|.ext<|phX C e<|some dx) dx<|.xd [(f,.ref q)])
def Zu8{f:Str}{H2:XK}(h:Mn K C f vs H Q H2):
 G8 (Je<|tXI C 0) (sXF C (QY 0) (tCB (TU K)<|QX (QY 1) Zo) f) { nx:=λ_ M=>Q .non M,rt:=Q } (vs.map some++List.replicate n none) H:=by
 obtain⟨e,p,xs,rfl,s,w,v⟩:=h;refine⟨e,none,rfl,s,?_⟩;refine⟨.ref p,rfl,?_⟩;refine⟨p,xs,rfl,.inl w,λq i=>?_⟩;have m:q≠e:=λz=>by subst z;rw[s]at i;cases i
 refine⟨.ref e,rfl,e,rfl,by rw[Q6<|Ne.symm m];exact s,λdx a u=>?_⟩;have r:dx≠q:=λz=>by subst z;rw[QT]at a;cases a
 exact v q dx i (by rw[Q6 r]at a;exact a) r u m
end L2
namespace L2
structure FldL(f:Str)(e:Addr)(F H R:Hp)(ds:Qd)(dx q:Addr)(xs:List V):Prop where
 hd:H dx=some (.xd [(f,.ref q)])
 hq:H q=some (.lst xs)
 fq:F q=none
 rp:Q1 F xs ds
 nd:dx≠e
 nq:q≠e
 dq:dx≠q
 fe:F e=none
 fd:F dx=none
 q0:R q=none
 d0:R dx=none
def Fld(f:Str)(e:Addr)(F H R:Hp)(a:Qj)(ds:Qd):Prop := ∃dx q xs,a=some dx/\FldL f e F H R ds dx q xs
def Fld.back{f:Str}(h:Fld f e F H L dct ds)(s:QI R L):Fld f e F H R dct ds:=by
 obtain⟨dx,q,xs,a,b⟩:=h;exact⟨dx,q,xs,a,b.hd,b.hq,b.fq,b.rp,b.nd,b.nq,b.dq,b.fe,b.fd,s.free b.q0,s.free b.d0⟩
def SK(K:W.Frag)(C:Addr){q:Type}(y:Addr->Hp->Hp->Hp->Qj->q->Prop)(H0:List OT->(OT->Prop)->Prop)(w:List OT->(q->Prop)->Prop):Sp:=λu H Q H2=>∃F m,KTs K F/\QI F H/\Args K F u m/\∃RR,H2=XE C RR/\WG C RR/\
 ((∃s,H0 m s/\∀i M v p r,s r->QF F H i M->(∀a∈p,H a=none)->ZH K i M v r p->Q v M)\/(∃f,w m f/\∀i M e h d,f d->QF F H i M->H e=none->y e i M H h d->RR e h M))
abbrev spX(K:W.Frag)(C:Addr)(f:Str)(H0:List OT->(OT->Prop)->Prop)(Rx:List OT->(Qd->Prop)->Prop):Sp:=SK K C (Fld f) H0 Rx
def EvZ(K:W.Frag)(a R:Hp)(t:TS)(Y:ZcP):Prop := ∀(F:Hp) (O:St) (H:Hp) (H2:Ends),QF a R F H->QQ K R F Y O H->t H2 O H
section
variable {base:Heap}
def ZR(P:Program)(w:World)(K:W.Frag)(mg:Str->Qf)(base:Heap)(N:Qh)(q:Str)(st:Stmt)(k:Nat)(C:Addr)(H0:List OT->(OT->Prop)->Prop)(f:Addr):Prop := ∀H RR h a,WG C RR->H0 h a->B1 P w K mg base N q st k f H (XE C RR) λt=>QC K t (ini N h) { nx:=λ_=>a<|.fz .none,rt:=a }
def ZX{i:Type}(P:Program)(w:World)(K:W.Frag)(mg:Str->Qf)(base:Heap)(N:Qh)(q:Str)(st:Stmt)(k:Nat)(C:Addr)(s:Addr->Hp->Hp->Hp->Qj->i->Prop)(r:List OT->(i->Prop)->Prop)(f:Addr):Prop := ∀F H RR m a,WG C RR->(∀p M e h d,a d->QF F H p M->H e=none->s e p M H h d->RR e h M)->r m a->B1 P w K mg base N q st k f H (XE C RR) λt=>EvZ K F H t (ini N m)
def Fun.evZ{x qual:Str}{f:Addr}{fd:FuncData}{st:Stmt}{N ps:Qh}{k:Nat}{C:Addr}{b:Type}{g:Addr->Hp->Hp->Hp->Qj->b->Prop}{H0:List OT->(OT->Prop)->Prop}{Y:List OT->(b->Prop)->Prop}(F:Fun K x qual st f fd)(S:Qo N ps (Q5 st))(R:∀ts Φ,H0 ts Φ->ts.length=ps.length)(h:∀ts Φ,Y ts Φ->ts.length=ps.length)(i:ZR P w K mg base N qual st k C H0 f)(m:ZX P w K mg base N qual st k C g Y f):FnOk P w K mg base (CX1 P w) (k+1) f fd ps (SK K C g H0 Y):=by
 refine F.okX S (λn H Q H2 ⟨F,ts,_,_,u,RR,_,_,q⟩=>?_) λn H Q H2 ⟨F,ts,c,B,u,RR,I,st,q⟩ y A outer s d=>?_
 .rcases q with ⟨r,a,_⟩|⟨r,a,_⟩
  .exact u.length.trans (R ts r a)
  .exact u.length.trans (h ts r a)
 .subst I;rcases q with ⟨Φ,a,q⟩|⟨D,a,q⟩
  .obtain⟨t,X,W⟩:=i H RR ts Φ st a y A outer s d;refine⟨t,X,W F H F _ H _ (QF.refl B) (Hd c B u) ⟨λZ j M l O _ e=>?_,λZ M v o p O G E e=>?_,λ_ _ _ _ _ _ z=>False.elim z,λ_ _ _ _ _ _ z=>False.elim z⟩⟩
   .exact q Z M _ [] _ e O (by rintro _ ⟨⟩) ⟨rfl,.non⟩
   .exact q Z M v p o e O G E
  .obtain⟨t,X,W⟩:=m F H RR ts D st q a y A outer s d;exact⟨t,X,W F _ H _ (QF.refl B)<|Hd c B u⟩
def Df.evZ{x:Str}{st:Stmt}{N ps:Qh}{k:Nat}{C:Addr}{r:Type}{s:Addr->Hp->Hp->Hp->Qj->r->Prop}{H0:List OT->(OT->Prop)->Prop}{q:List OT->(r->Prop)->Prop}(ta:Df K mg x st ps)(S:Qo N ps (Q5 st))(i:∀f,ZR P w K mg base N x st k C H0 f)(m:∀f,ZX P w K mg base N x st k C s q f)(p:∀ts Φ,H0 ts Φ->ts.length=ps.length:=by intro _ _ h;cases h<;>rfl)(a:∀ts Φ,q ts Φ->ts.length=ps.length:=by intro _ _ h;cases h<;>rfl):UK P w K mg base x ps (k+1) (SK K C s H0 q):=ta.go λf _ F=>F.evZ S p a (i f) (m f)
end
end L2
namespace L2
section
variable {f:Str}{F0:Hp}{ds:Qd}{H2:XK}
def ZtD{w:Qd->Prop}(h:Qr K D Y (.list ds))(Q:w ds)(J:∀l M e N d,w d->QF F0 R l M->R e=none->Fld f e l M R N d->RR e N M):EvZ K F0 R (sXR C (SQ C (Mn K C f) H2<|QX D Zo) RR) Y:=by
 intro F O H ta x S;refine h R F O H _ S λU L v W n=>⟨by simp,λe P=>?_⟩
 cases n with
 |@lst a xs _ E t=>
 have g:=W.fh a _ E;have c:a≠e:=λz=>by subst z;rw[P]at g;cases g
 refine⟨e,a,xs,rfl,QT,SqL.of<|by rw[Q6 c];exact g,λq dx y B A r m=>⟨rfl,e,some dx,rfl,?_,?_⟩⟩
 .rw[Q6<|Ne.symm r,QT]
 .have p:=by rw[Q6 m]at y;exact y
  have s:=by rw[Q6 r]at B;exact B
  have Z:=W.fh.free p;have j:QI L (upd (upd (upd (upd L e<|.ext<|phX C e none) q<|.lst xs) e<|.ext<|phX C e<|some dx) dx<|.xd [(f,.ref q)]):=λb o i=>by
   have k:b≠e:=λz=>by subst z;rw[P]at i;cases i
   have I:b≠q:=λz=>by subst z;rw[p]at i;cases i
   have G:b≠dx:=λz=>by subst z;rw[s]at i;cases i
   rw[Q6 G,Q6 k,Q6 I,Q6 k];exact i
  have u:=x.trans W;have X:upd (upd (upd (upd L e<|.ext<|phX C e none) q<|.lst xs) e<|.ext<|phX C e<|some dx) dx (.xd [(f,.ref q)]) q=some (.lst xs):=by
   rw[Q6<|Ne.symm A,Q6 m,QT]
  have T:=u.trans ⟨j,QI.refl _,u.fh.trans j,λb i=>.inl i⟩;exact J U _ e _ ds Q T (u.hh.free P) ⟨dx,q,xs,rfl,QT,X,Z,t,r,m,A,u.fh.free P,u.fh.free s,u.hh.free p,u.hh.free s⟩
def AM(H':ZcP->Prop)(m:QC K t Y { nx:=H',rt:=λ_=>False })(i:∀a,H' a->EvZ K F0 R u a):EvZ K F0 R (G8 t u) Y:=λF O H H2 x S=>
 m F0 R F O H _ x S ⟨λq f M a h p e=>i a e q f M H2 h p,λ_ _ _ _ _ _ _ _ z=>z.elim,λ_ _ _ _ _ _ z=>False.elim z,λ_ _ _ _ _ _ z=>False.elim z⟩
def Z05(i:Nat)(e:Y[i]?=some (some<|.ol ds))(h:EvZ K F0 R t (Y.set i<|zf<|.list ds)):EvZ K F0 R t Y:=λF O H H2 x S=>by
 obtain⟨a,xs,p,m,f,_,_,q⟩:=S.freeze e;exact h _ O H H2 (x.freeze p m f) q
def Ei(h:EvZ K F0 R t Y):EvZ K F0 R (G8 t u) Y:=λF O H H2 x S=>h F O H _ x S
def Z0z{b:Bool}(h:Zf K tA Y b)(m:b=true->EvZ K F0 R t Y)(i:b=false->EvZ K F0 R u Y):EvZ K F0 R (SJ tA t u) Y:=λF O H H2 x S=>
 h R F O H _ S λf M a=>by
  cases b with
  |true=>rw[Xf rfl];exact m rfl f O M H2 (x.trans a) (S.ext a)
  |false=>rw[Xc<|by decide];exact i rfl f O M H2 (x.trans a) (S.ext a)
def ZuT{H0:List OT->(OT->Prop)->Prop}(w:ZQ K t Y ts)(v:Rx ts Φx)(st:WG C RR)(q:∀i M e a d,Φx d->QF F0 R i M->R e=none->Fld f e i M R a d->RR e a M)(x:QF F0 R F H)(S:QQ K H9 F Y O H):
 YC (spX K C f H0 Rx) [] (XE C RR) t O H Q:=w H9 F O H _ S λy L A h p=>
 ⟨y,ts,(S.ext h).kt,h.fh,by rw[XN];exact p,RR,rfl,st,.inr ⟨Φx,v,λi M e a d u m s r=>q i M e a d u ((x.trans h).trans m) ((x.trans h).hh.free s)<|r.back (x.trans h).hh⟩⟩
def IR{H0:List OT->(OT->Prop)->Prop}(p:ZQ K t Y ts)(m:Rx ts Φx)(st:WG C RR)(i:∀h M e a d,Φx d->QF F0 R h M->R e=none->Fld f e h M R a d->RR e a M):
 EvZ K F0 R (Je<|YC (spX K C f H0 Rx) [] (XE C RR) t) Y:=λF O H H2 x S=>ZuT p m st i x S
def Zt1{H0:List OT->(OT->Prop)->Prop}(B:ZQ K t Y ts)(A:H0 ts Φ)(st:WG C RR):ZG K (YC (spX K C f H0 Rx) [] (XE C RR) t) Y Φ:=λR F O H Q S q=>
 B R F O H _ S λN L P h m=>
  ⟨N,ts,(S.ext h).kt,h.fh,by rw[XN];exact m,RR,rfl,st,.inl ⟨Φ,A,λD E v p r u i w s=>q D E v p r u (h.trans i) (λa y=>h.hh.free<|w a y) s⟩⟩
def OV(h:ZG K t Y Φ)(hn:ta.nx Y):QC K (Je t) Y ta:=λF0 R F O H H2 x S c=>
 h R F O H _ S λf M v p r _ a _ _=>c.nx f O M Y (x.trans a) (S.ext a) hn
end
end L2
namespace L2
section
variable {tb:Ends->TS}
def Zpt(h:Lefts C e dct H M)(s:QI G H)(q:G e=none):QI G M:=by
 induction h with
 |nil=>exact s
 |@step L T v u r p=>
  intro b o f;have m:b≠e:=λz=>by subst z;rw[q]at f;cases f
  have a:=p b o f;have i:b≠T:=λz=>by subst z;rw[u]at a;cases a
  unfold left;rw[Q6 i,Q6 m];exact a
def Oc(h:∀H2,QC K (tb H2) Y ta):QC K (SM tb) Y ta:=λa R F O H H2 x S c=>h H2 a R F O H H2 x S c
end
end L2
namespace L2
structure XC(K:W.Frag)(mg:Str->Qf)(x:Str)(ρ C f:Addr):Prop where
 cl:JX K ρ C f
 kp:W.keepIn K (.ref C)=true
 m:mg x=some (.ref C)
def Kr(P:Program)(w:World)(K:W.Frag)(mg:Str->Qf)(base:Heap)(f:Addr)(ps:Qh)(k:Nat)(a:Sp):Prop := ∃fd,VH K fd ps []/\FnOk P w K mg base CX0 k f fd ps a
section
variable {base:Heap}{N:Qh}{f0:Addr}
def FT{x:Str}{h:Pos}{e:Expr}{t:TA}{j k:Nat}{v:Sp}(c:XC K mg x ρ C f)(b:Kr P w K mg base f ps j v)(i:WG C RR)(y:Room k (cx1 P w K mg base N qual scope f0 cd A outer s0 R<|XE C RR).A)
(X:PA (cx1 P w K mg base N qual scope f0 cd A outer s0 R<|XE C RR) (e::es) t)(B:j+1<=k:=by walk_at"j")(D:Gl (cx1 P w K mg base N qual scope f0 cd A outer s0 R<|XE C RR) x:=by rfl)
(u:(x==("__debug__" : Str))=false:=by decide)(q:starEach (e::es) (cx1 P w K mg base N qual scope f0 cd A outer s0 R<|XE C RR).env=(false,eval e (cx1 P w K mg base N qual scope f0 cd A outer s0 R<|XE C RR).env)::starEach es (cx1 P w K mg base N qual scope f0 cd A outer s0 R<|XE C RR).env:=by rfl)
(m:(backTo h<|starEach es (cx1 P w K mg base N qual scope f0 cd A outer s0 R<|XE C RR).env).any (·.1)=false:=by rfl):
 PS (cx1 P w K mg base N qual scope f0 cd A outer s0 R<|XE C RR) (.Raise (some<|.Call (.Name x p) (e::es) [] h) none pos') (sXR C (SQ C v E0 t) RR):=by
 obtain⟨fd,W,F⟩:=b;exact Zto c.cl rfl (ZtE c.cl c.kp F (y.mono B) D c.m W Da X u q m) (λZ O H s a Y I q r=>ZsZ i I q r)
end
section
variable {t:TA}
def ZtK(h:ZG K D Y Φ)(C:ZQ K t Y ts)(B:∀r,Φ r->∃d,UM r=some d/\Φ' (.fz d::ts)):Wx K (QX D t) Y Φ':=λR F O H Q S q=>
 h R F O H _ S λX L v p r y x A s=>by
  obtain⟨d,N,i⟩:=B r y;have u:QF F H _ L:=⟨x.hh,x.ff.trans<|WR λa f=>(s.there a f).1,GW x.fh,λa f=>by
   by_cases z:a∈p
   .exact .inr (A a z)
   .rw[W4 z]at f;exact x.fr a f⟩
  exact C R _ O L _ (S.ext u) λP E W m w=>q P E _ _ i (u.trans m) (.fz ((s.frz N).mono m.ff) w)
def ZsS(s:Qr K D Y d)(r:Wx K t Y Φ')(p:∀ts,Φ' ts->Φ (.fz d::ts)):Wx K (QX D t) Y Φ:=λR F O H Q S q=>
 s R F O H _ S λw L v f i=>r R w O L _ (S.ext f) λu E y ts m a h=>q u E _ _ (p ts m) (f.trans a) (.fz (i.mono a.ff) h)
def AS(h:Wx K t Y ΦA)(u:∀ts,ΦA ts->∃ds,ts=fzs ds/\ds.length<=1000/\Φ (.fz<|.tuple ds)):ZG K (GB t) Y Φ:=λR F O H Q S q=>
 h R F O H _ S λw L v ts r a i=>by
  obtain⟨ds,rfl,s,f⟩:=u ts r;exact⟨by rw[i.reps.length];exact X4<|VR s,λp m=>q _ _ _ [] _ f (a.trans<|QF.new a.fh m) (by rintro _ ⟨⟩) ⟨rfl,.tup QT<|i.reps.mono<|QI.new<|a.fh.free m⟩⟩
def IY{m:Int}(e:zg Y i<|zi m)(h:Qr K D Y (.int n))(hn:ta.nx (Y.set i<|zf<|.int<|g m n)):QC K (SL i D<|ipI g) Y ta:=λu R F O H H2 x S C=>by
 obtain⟨t,p,_⟩:=S.fp;obtain⟨v,q,_,r⟩:=p i _ e;cases r;refine⟨_,q,h R F O H _ S λs L y a f=>?_⟩;cases f;exact⟨m,n,rfl,rfl,C.nx s _ L _ (x.trans a) ((S.ext a).setF (.int _)) hn⟩
end
end L2
section
set_option maxHeartbeats 400000
namespace L2
def AY(t:Addr)(v:Value)(n:Nat)(i:Tok)(a:Qj)(m:Array (Qf)):
 Meets (Builtin.«tuple.__mul__» ⟨[.ref t,.int 1 i],[]⟩) (λ_ H0 s=>s.heap.get? t=some { cls:=.type "tuple",dict:=a,data:=.seq #[v] n,slots:=m }/\H0 (.ok<|.ret<|.ref t) s):=
 .of_wp λprog w A H0 s h=>by
  obtain⟨u,g,d,f,r⟩:=s;obtain⟨p,q⟩:=h
  wp_walk using AutoSeq1.wpAny_loadPart' p
  exact⟨_,rfl,q⟩
theorem N5(v:Value):∀(m:Nat) (a:Array Value),(List.replicate m #[v]).foldl (λh f=>h++f) a=a++(List.replicate m v).toArray
 |0,a=>by simp
 |m+1,a=>by
  rw[B8,MI,N5 v m,B8,Array.append_assoc];congr 1;simp
def Z0b(t:Addr)(v:Value)(n:Nat)(x:Int)(r:Tok)(f:Qj)(u:Array (Qf))(D:2<=x)(C:x<=8):
 Meets (Builtin.«tuple.__mul__» ⟨[.ref t,.int x r],[]⟩) (λ_ H0 s=>s.heap.get? t=some { cls:=.type "tuple",dict:=f,data:=.seq #[v] n,slots:=u }/\
  H0 (.ok<|.ret<|.ref s.heap.objs.size) { s with heap:=s.heap.push { cls:=.type "tuple",data:=.seq ((List.replicate x.toNat #[v]).foldl (λm i=>m++i) #[]) } }):=
 .of_wp λprog w A H0 s h=>by
  obtain⟨B,g,d,p,y⟩:=s;obtain⟨a,q⟩:=h
  wp_walk using AutoSeq1.wpAny_loadPart' a
  refine wpAny_ite_false (Xo λh=>by rcases Bool.or_eq_true_iff.mp h with h|h<;>have h:=XH h<;>lia) ?_
  wp_walk using AutoSeq1.wpAny_loadPart' a
  refine wpAny_ite_false (Xo λh=>by rcases Bool.or_eq_true_iff.mp h with h|h;cases h;have h:=eq_of_beq h;lia) ?_
  wp_walk using AutoSeq1.wpAny_loadPart' a
  refine wpAny_ite_false (Xo λh=>by rcases Bool.or_eq_true_iff.mp h with h|h;have h:=XH h;lia;cases h) ?_
  wp_walk using AutoSeq1.wpAny_loadPart' a
  refine wpAny_ite_false (Xo<|by show ¬(1:Int)*x > _;lia) ?_
  wp_walk using AutoSeq1.wpAny_loadPart' a
  refine wpAny_ite_false (Xo λh=>by have h:=XH h;have h:(1:Int)*x > (sizeLine:Int):=h;rw[sizeLine_eq]at h;lia) ?_
  wp_walk using AutoSeq1.wpAny_loadPart' a
  refine wpAny_ite_false (Xo<|by rw[N5,sizeLine_eq];simp;lia) ?_
  wp_walk using AutoSeq1.wpAny_loadPart' a
  exact⟨_,rfl,q⟩
def ZuZ(a:Int)(p:Tok)(t:Addr)(f:Array Value)(n:Nat)(i:Qj)(r:Array (Qf)):
 Meets (Builtin.«int.__rmul__» ⟨[.int a p,.ref t],[]⟩) (λ_ H0 s=>s.heap.get? t=some { cls:=.type "tuple",dict:=i,data:=.seq f n,slots:=r }/\H0 (.ok<|.ret Value.notImplemented) s):=
 .of_wp λprog w A H0 s h=>by
  obtain⟨y,g,d,m,u⟩:=s;obtain⟨v,q⟩:=h
  wp_walk
  exact⟨_,rfl,q⟩
def Zny:fillsNumberSlot (.type "tuple") "mul"=pure false:=by
 first
  |exact PySem.fillsNumberSlot_none (by kernel_rfl) (by kernel_rfl)
  | (rw[show fillsNumberSlot (.type "tuple") "mul"=pure false by kernel_rfl])
def ZpT:seqRepeat? (.type "tuple")=pure (some<|.builtin "tuple.__mul__"):=by
 unfold seqRepeat?;kernel_rfl
theorem LR{w:V}{v:Value}(r:QP w v):∀n:Nat,QR (List.replicate n w) (List.replicate n v)
 |0=>.nil
 |n+1=>.cons r (LR r n)
def P1(K:W.Frag):R2:=λx y H Q=>∃(a:Addr) (v:V) (n:Nat),x=.ref a/\y=.int (n:Int)/\1<=n/\n<=8/\SqT K H a [v]/\(n=1->Q (.ref a) H)/\(n≠1->∀p,H p=none->Q (.ref p) (upd H p<|.tup<|List.replicate n v))
def IF:OpR X (binaryOp .Mult) (P1 X.K):=by
 intro Z s O H x y v u Q I N K h;obtain⟨a,w,n,rfl,rfl,z,d,g,Y,W⟩:=h;cases N;obtain⟨i,rfl⟩:=K;obtain⟨e,r,m,E⟩:=I.tuple g;cases r with
 |cons R P=>
  cases P;obtain⟨⟨l,f,J,p⟩,A,C,c,B⟩:=id m;simp only at C B;subst C B;generalize G:(n:Int)=x;refine wpAny_binaryOp_repeat_ref (T := "tuple") (U := "int") (by decide) m.typeIs (λD=>typeIs_int D x i) Zny F.fills_int_mul F.slot_int_rmul ZpT F.slot_int_index.lookup
   (call_meets F.slot_int_rmul (typeIs_int s x i) F.entry_int_rmul (F.args_int_rmul_2 _ _) (ZuZ x i a _ c f p) ⟨A,rfl,m.typeIs,?_⟩)
  by_cases j:x=1
  .subst j;have:n=1:=by lia
   exact call_meets F.slot_tuple_mul m.typeIs F.entry_tuple_mul (F.args_tuple_mul_2 _ _) (AY a _ c i f p) ⟨A,⟨.ref a,H,I,rfl,Y this⟩⟩
  .refine call_meets F.slot_tuple_mul m.typeIs F.entry_tuple_mul (F.args_tuple_mul_2 _ _) (Z0b a _ c x i f p (by lia)<|by lia) ⟨A,?_⟩;have k:x.toNat=n:=by lia
   rw[N5,k,Array.empty_append];refine⟨.ref s.heap.objs.size,_,I.laid (t':=s.toks) (o:=.tup (List.replicate n w)) (λb t q=>Xd _ q) (Xn _) ?_,rfl,W (by lia) _<|I.hok.fresh<|Xn _⟩;exact⟨by rw[List.length_replicate];exact Xx d<|by rw[sizeLine_eq];decide,_,LR R n,IsTup.new _ _⟩
def Px(X:Cx):List V->Hp->VK->Prop:=λxs H Q=>X.calm=true/\∃(x:V) (f:Ql) (H':Int),xs=[x]/\Rep H x (.list<|f.map PyData.int)/\H'∈f/\(∀a∈f,a<=H')/\Q (.int H') H
def Of:ZY X (.builtin "max") (Px X):=by
 intro Z s O H xs S Q I r h;obtain⟨E,x,f,H',rfl,d,N,m,q⟩:=h;obtain⟨u,rfl,W⟩:=VY r;cases d with
 |@lst l ys _ F c=>
  cases W;have L:=JQ c;subst L;obtain⟨a,Y,p,U⟩:=I.list (SqL.of F);have C:=p.isList;have K:=Bn Y;have P:=K.length;have hpos:0<f.length:=B7.mpr λz=>by rw[z]at N;cases N
  have w:l<s.heap.objs.size:=by obtain⟨_,e,_⟩:=C;exact Xj e
  refine call_max_walk (wpAny_pyIter_list C ?_);refine⟨s.heap.objs.size,[s.heap.objs.size,l],[s.heap.objs.size],a.toArray.size,_,_,_,rfl,Walks.list (A:=X.A.in1) (I.ok.hd E) _ l (Xq w) a.toArray,
   ⟨⟨_,XG _ rfl,rfl,rfl⟩,C.push _⟩,λb y=>?_,by simp only[Xv];lia,CmpOf.ints_gt (λi=>f.getD i 0) (λi v B=>GX K<|by simpa using B),λv h' T B n=>?_⟩
  .rw[Jx];rcases Xe.mp y with rfl|y
   .exact UD _
   .rcases Xe.mp y with rfl|y
    .exact B5 w
    .cases y
  .rw[List.getElem?_toArray]at B;obtain⟨t,rfl⟩:=GX K B;obtain⟨J,R⟩:=argBest_gt (λi=>f.getD i 0) (a.toArray.size-1);have g:a.toArray.size=a.length:=by simp
   generalize argBest _ (a.toArray.size-1)=k at J R ⊢;have D:k<f.length:=by lia
   have M:f.getD k 0=H':=by
    have G:f.getD k 0∈f:=by simp[D]
    have h2:=m _ G;obtain⟨j,o,e⟩:=List.mem_iff_getElem.mp N;have h3:=R j (by lia);have h4:f.getD j 0=H':=by simp[o,e]
    lia
   exact⟨.int H',H,I.kept<|Nv n,⟨t,by rw[M]⟩,q⟩
def Oh{ns:Ql}{H':Int}(h:Qr K D Y (.list<|ns.map PyData.int))(p:X.calm=true)(r:H'∈ns)(m:∀a∈ns,a<=H'):Qr K (tCB (Px X)<|QX D Zo) Y (.int H'):=λR F O H Q S q=>
 h R F O H _ S λs L v f i=>⟨p,v,ns,H',rfl,i.mono f.fh,r,m,q s L _ f<|.int _⟩
theorem Fh{F:Hp}{w:V}{d:PyData}(r:Rep F w d):∀n:Nat,Q1 F (List.replicate n w) (List.replicate n d)
 |0=>.nil
 |n+1=>.cons r (Fh r n)
def IK{n:Nat}(w:Qr K D Y (.tuple [d]))(v:Qr K tb Y (.int (n:Int)))(n1:1<=n)(u:n<=8):Qr K (tOp (P1 K) D tb) Y (.tuple<|List.replicate n d):=λR F O H Q S q=>
 VQ w v S λr M x y e h s=>by
  have f:=h;obtain⟨a,xs,rfl,k1,k2,k3⟩:=Ux (K:=K) h e.fh;cases s;cases k2 with
  |@cons z C _ _ B A=>
   cases A;refine⟨a,_,n,rfl,rfl,n1,u,k1,λm=>?_,λm p i=>?_⟩
   .subst m;exact q _ _ _ e f
   .have sn:QI r (upd r p<|.tup<|List.replicate n z):=QI.new (e.fh.free i);exact q _ _ _ (e.trans<|QF.new e.fh i) (.tup QT<|(Fh B n).mono sn)
end L2
end
namespace Mir
def VD(g:Qn)(n:Nat)(p:Int):Int:=Qx (λt=>min (g t) p) n
def Vc(g:Qn)(n:Nat)(p:Int):Int:=Qx (λt=>if g t > p then 1 else 0) n
theorem Sc{g:Qn}{p:Int}:∀n,0<=Vc g n p
 |0=>by simp[Vc,Qx]
 |n+1=>by
  have:=Sc (g:=g) (p:=p) n;unfold Vc at this ⊢;rw[Qx];split<;>lia
theorem LE{g:Qn}{p j:Int}(f:0<=j):∀n,VD g n (p+j)<=VD g n p+Vc g n p*j
 |0=>by simp[VD,Vc,Qx]
 |n+1=>by
  have a:=LE (g:=g) (p:=p) f n;unfold VD Vc at a ⊢;rw[Qx,Qx,Qx];by_cases h:g n > p
  .rw[Xf h,JW,Int.one_mul];lia
  .rw[Xc h,Int.add_zero];lia
theorem C6{g:Qn}{p:Int}:∀n,Vc g n p=0->VD g n p=Qx g n
 |0,_=>by simp[VD,Qx]
 |n+1,h=>by
  have f:=Sc (g:=g) (p:=p) n;unfold Vc at h f;rw[Qx]at h;by_cases q:g n > p
  .rw[Xf q]at h;lia
  .rw[Xc q]at h;have a:=C6 (g:=g) (p:=p) n (by unfold Vc;lia);unfold VD at a ⊢;rw[Qx,Qx,a];lia
theorem Cr{g:Qn}{p:Int}:∀n,0<Vc g n p->∃t,t<n/\p<g t
 |0,h=>by simp[Vc,Qx]at h
 |n+1,h=>by
  by_cases q:g n > p
  .exact⟨n,by lia,q⟩
  .unfold Vc at h;rw[Qx,Xc q]at h;obtain⟨t,a,b⟩:=Cr (g:=g) (p:=p) n (by unfold Vc;lia);exact⟨t,by lia,b⟩
def UP(g:Qn)(n:Nat)(w p:Int):Int:=(w-VD g n p+Vc g n p-1)/Vc g n p
def Ztx{w p:Int}(h:VD g n p<w)(hw:w<=Qx g n):0<Vc g n p:=by
 have a:=Sc (g:=g) (p:=p) n
 by_cases q:Vc g n p=0
 .have:=C6 n q;lia
 .lia
def Zth{w p:Int}(h:VD g n p<w)(a:0<Vc g n p):1<=UP g n w p:=by
 unfold UP;exact(Int.le_ediv_iff_mul_le a).mpr (by lia)
def Zpf{w p:Int}(f:0<Vc g n p)(i:0<=j)(h:j<UP g n w p):VD g n (p+j)<w:=by
 have a:=LE (g:=g) (p:=p) i n;have b:(j+1)*Vc g n p<=w-VD g n p+Vc g n p-1:=by
  unfold UP at h;exact(Int.le_ediv_iff_mul_le f).mp (by lia)
 rw[JW,Int.one_mul,XD j]at b;lia
end Mir
namespace L2
def ZpG{en un:Addr}{x h:Value}{J:Heap->Prop}{Q:Qb}(k:IsEnum s.heap en un i h)(e:en≠un)
(C:∀{H0:Qb},(∀O,J O->Heap.SameBut un s.heap O->H0 x { s with heap:=O })->wpAny (model prog w) A (Builtin.SmallTypes.nextOf<|.ref un) H0 H2 s)
(u:∀O r,(∀o,O.get? un=some o->r.get? un=some o)->J O->J r)
(fin:∀r,IsEnumOut r en un ((i:Int)+1) x s.heap.objs.size->J r->r.get? s.heap.objs.size=some { cls:=.type "tuple",data:=.seq #[.int i s.toks,x] }->r.objs.size=s.heap.objs.size+1->
  (∀b o,b≠en->b≠un->s.heap.get? b=some o->r.get? b=some o)->Q (.ref s.heap.objs.size) { s with heap:=r,toks:=s.toks+1 }):
 wpAny (model prog w) A (Builtin.«enumerate.__next__» ⟨[.ref en],[]⟩) (λf S=>∃v,f=.done (.ret v)/\Q v S) H2 s:=by
 obtain⟨p,B,dd,a,y⟩:=s;show wpAny _ _ (field (.ref en) 2 >>= _) _ _ _;refine Xa (Yz k rfl (x:=.ref un) rfl (Xa<|C λk1 M N=>?_));replace N:Heap.SameBut un p k1:=N;have d:IsEnum k1 en un i h:=(N.2 en e).trans k;show wpAny _ _ (field (.ref en) 3 >>= _) _ _ ⟨k1,B,dd,a,y⟩;refine Xa (Yz d rfl (x:=rawInt i) rfl ?_);show wpAny _ _ (field (.ref en) 4 >>= _) _ _ ⟨k1,B,dd,a,y⟩;refine Xa (Yz d rfl (x:=.none) rfl ?_);show wpAny _ _ (mkInt i >>= _) _ _ ⟨k1,B,dd,a,y⟩;refine Xa (wpAny_mkInt (?_:_));show wpAny _ _ (setField (.ref en) 3 (rawInt<|(i:Int)+1) >>= _) _ _ ⟨k1,B,dd,a+1,y⟩;refine Xa (MO d (by simp) λk2 c K=>?_);replace K:Heap.SameBut en k1 k2:=K;replace c:IsEnum k2 en un ((i:Int)+1) h:=c;show wpAny _ _ (setField (.ref en) 4 .none >>= _) _ _ ⟨k2,B,dd,a+1,y⟩;refine Xa (MO c (by simp) λk3 Z D=>?_);replace D:Heap.SameBut en k2 k3:=D;replace Z:IsEnum k3 en un ((i:Int)+1) h:=Z;show wpAny _ _ (newTuple [.int i a,x] >>= _) _ _ ⟨k3,B,dd,a+1,y⟩;refine Xa (wpAny_newTuple (?_:_));have Y:IsEnum (k3.push { cls:=.type "tuple",data:=.seq #[.int i a,x] }) en un ((i:Int)+1) h:=Xd _ Z;have P:k3.objs.size=p.objs.size:=by rw[D.1,K.1,N.1]
 have T:en<p.objs.size:=Xj k;have G:(k3.push { cls:=.type "tuple",data:=.seq #[.int i a,x] }).get? p.objs.size=some { cls:=.type "tuple",data:=.seq #[.int i a,x] }:=by rw[<- P];exact XG _ rfl
 have F:(k3.push { cls:=.type "tuple",data:=.seq #[.int i a,x] }).objs.size=p.objs.size+1:=by rw[Jx,P]
 have H:∀b o,b≠en->b≠un->p.get? b=some o->(k3.push { cls:=.type "tuple",data:=.seq #[.int i a,x] }).get? b=some o:=λb o m z q=>
  Xd _ (D.extBut b o m<|K.extBut b o m<|N.extBut b o z q)
 have L:J (k3.push { cls:=.type "tuple",data:=.seq #[.int i a,x] }):=u _ _ (λo q=>Xd _<|D.extBut un o (Ne.symm e)<|K.extBut un o (Ne.symm e) q) M;show wpAny _ _ (Builtin.SmallTypes.ownedTupleIsFree (.ref en) >>= _) _ _ ⟨k3.push { cls:=.type "tuple",data:=.seq #[.int i a,x] },B,dd,a+1,y⟩;rw[P];generalize k3.push { cls:=.type "tuple",data:=.seq #[.int i a,x] }=I at Y G F H L;clear Z D c K d N M P k3 k2 k1;refine Xa ?_;unfold Builtin.SmallTypes.ownedTupleIsFree;refine Xa (Yz Y rfl (x:=.none) rfl (Xl ?_));simp only[if_true];refine Xa (wpAny_rule<|Xa<|Yz Y rfl (x:=h) rfl (Xa<|MO Y (by simp) λk5 t X=>?_));replace X:Heap.SameBut en I k5:=X;replace t:IsEnum k5 en un ((i:Int)+1) x:=t;show wpAny _ _ (Builtin.SmallTypes.ownedTupleHandOut (.ref en) (.ref p.objs.size) >>= _) _ _ ⟨k5,B,dd,a+1,y⟩;refine Xa ?_;unfold Builtin.SmallTypes.ownedTupleHandOut;refine Xa (MO t (by simp) λE n W=>?_);replace W:Heap.SameBut en k5 E:=W;replace n:IsEnumOut E en un ((i:Int)+1) x p.objs.size:=n;refine MO n (by simp) λg l R=>?_;replace R:Heap.SameBut en E g:=R;replace l:IsEnumOut g en un ((i:Int)+1) x p.objs.size:=l;have j:∀b o,b≠en->I.get? b=some o->g.get? b=some o:=λb o m q=>R.extBut b o m (W.extBut b o m<|X.extBut b o m q);refine Xa (wpAny_letGo<|Xl ⟨_,rfl,fin g l (u _ _ (λo q=>j un o (Ne.symm e) q) L) (j _ _ (X5 T) G) (by rw[R.1,W.1,X.1,F]) λb o m z q=>j b o m<|H b o m z q⟩)
def Zpc(h:s.heap.IsTupleIter un t i)(r:s.heap.IsTuple t items)(q:items[i]?=some x)
(fin:∀p,p.IsTupleIter un t (i+1)->Heap.SameBut un s.heap p->Q x { s with heap:=p }):wpAny (model prog w) A (Builtin.SmallTypes.nextOf<|.ref un) Q H2 s:=by
 obtain⟨o,f,v,a⟩:=id h;obtain⟨y,m,_,nt,u⟩:=r;unfold Builtin.SmallTypes.nextOf;refine Xa (wpAny_callSpecial?_slot (name:=Str.ofString "__next__") h.typeIs F.slot_tuple_iterator_next<|wpAny_call_entry F.slot_tuple_iterator_next h.typeIs F.entry_tuple_iterator_next ?_<|F.args_tuple_iterator_next_1 _);show wpAny _ _ (field (.ref un) 0 >>= _) _ _ s;refine Xa (Yz f a (x:=.ref t) rfl ?_);show wpAny _ _ (if (Value.ref t==Value.none)=true then _ else _) _ _ s;refine(show(Value.ref t==Value.none)=false from rfl)▸?_;show wpAny _ _ (field (.ref un) 1 >>= _) _ _ s;refine Xa (Yz f a (x:=.int i 0) rfl ?_);show wpAny _ _ (seqItems? (.ref t) >>= _) _ _ s;refine Xa (wpAny_seqItems m u ?_);simp only[XF,q];refine Xa (wpAny_setField f a (by simp)<|Xl ⟨x,rfl,Xl<|fin _ ⟨_,JV _ f<|Obj.isFreed_of_fields<|Obj.data_mapFields a _,(Obj.cls_mapFields ..).trans v,?_⟩<|Heap.SameBut.update ..⟩);rw[Obj.data_mapFields a];simp[rawInt]
def ZrX(u:A.handled=none)(f:s.heap.IsTupleIter un t i)(y:s.heap.IsTuple t items)(v:items[i]?=none)
(fin:∀q e,Heap.ExtBut un s.heap q->(∃o,q.get? e=some o/\o.cls=.type "StopIteration")->H2 (.ref e) { s with heap:=q }):wpAny (model prog w) A (Builtin.SmallTypes.nextOf<|.ref un) Q H2 s:=by
 obtain⟨o,p,D,r⟩:=id f;obtain⟨C,h,_,nt,B⟩:=y;unfold Builtin.SmallTypes.nextOf;refine Xa (wpAny_callSpecial?_slot (name:=Str.ofString "__next__") f.typeIs F.slot_tuple_iterator_next<|wpAny_call_entry F.slot_tuple_iterator_next f.typeIs F.entry_tuple_iterator_next ?_<|F.args_tuple_iterator_next_1 _);show wpAny _ _ (field (.ref un) 0 >>= _) _ _ s;refine Xa (Yz p r (x:=.ref t) rfl ?_);show wpAny _ _ (if (Value.ref t==Value.none)=true then _ else _) _ _ s;refine(show(Value.ref t==Value.none)=false from rfl)▸?_;show wpAny _ _ (field (.ref un) 1 >>= _) _ _ s;refine Xa (Yz p r (x:=.int i 0) rfl ?_);show wpAny _ _ (seqItems? (.ref t) >>= _) _ _ s;refine Xa (wpAny_seqItems h B ?_);simp only[XF,v];refine Xa (wpAny_rule<|Xa<|wpAny_setField p r (by simp) (?_:_));show wpAny _ _ (newExc (.type "StopIteration") [] >>= _) _ _ _;refine Xa (?_:_);simp only[newExc,newTuple];refine Xa (wpAny_newObj_type (?_:_)<|by size_fits);refine Xa (m:=firstArgMember _ _) (wpAny_of_eq (a:=Value.none) (by first|rfl|(simp only[firstArgMember];rfl)) (?_:_));refine wpAny_newObj_type (?_:_) (by size_fits);simp only[raiseNew];refine Xa (wpAny_handled (?_:_))
 first|rw[show A.in1.handled=none from u]|rw[u]
 refine Xa (Xl<|wpAny_throw<|fin _ _ (((Heap.SameBut.update ..).extBut.push _).push _) ⟨_,XG _ rfl,rfl⟩)
def ZtQ(p:IsEnum s.heap en un i old)(y:s.heap.IsTupleIter un t i)(B:s.heap.IsTuple t items)(v:items[i]?=some x)(u:en≠un)
(fin:∀f,IsEnumOut f en un ((i:Int)+1) x s.heap.objs.size->f.IsTupleIter un t (i+1)->f.get? s.heap.objs.size=some { cls:=.type "tuple",data:=.seq #[.int i s.toks,x] }->f.objs.size=s.heap.objs.size+1->
  (∀b o,b≠en->b≠un->s.heap.get? b=some o->f.get? b=some o)->Q (some<|.ref s.heap.objs.size) { s with heap:=f,toks:=s.toks+1 }):wpAny (model prog w) A (pyNext<|.ref en) Q H2 s:=by
 have m:s.TypeIs (.ref en) "enumerate" := ⟨_,p,rfl⟩;unfold pyNext;refine Xa (wpAny_attempt<|wpAny_callSpecial?_slot (name:=Str.ofString "__next__") m F.slot_enumerate_next<|wpAny_call_entry F.slot_enumerate_next m F.entry_enumerate_next ?_<|F.args_enumerate_next_1 _);exact ZpG (J:=λh=>h.IsTupleIter un t<|i+1) p u (λ{H0} q=>Zpc y B v λr a b=>q r a b) (λr f k j=>j.at k) λf a b c d k=>Xl (fin f a b c d k)
def ET(m:A.handled=none)(h:IsEnum s.heap en un i old)(q:s.heap.IsTupleIter un t i)(r:s.heap.IsTuple t items)(p:items[i]?=none)
(fin:∀a,Heap.ExtBut un s.heap a->Q none { s with heap:=a }):wpAny (model prog w) A (pyNext<|.ref en) Q H2 s:=by
 have f:s.TypeIs (.ref en) "enumerate" := ⟨_,h,rfl⟩;unfold pyNext;refine Xa (wpAny_attempt<|wpAny_callSpecial?_slot (name:=Str.ofString "__next__") f F.slot_enumerate_next<|wpAny_call_entry F.slot_enumerate_next f F.entry_enumerate_next ?_<|F.args_enumerate_next_1 _);show wpAny _ _ (field (.ref en) 2 >>= _) _ _ _;refine Xa (Yz h rfl (x:=.ref un) rfl (Xa<|ZrX m q r p ?_));rintro a e k ⟨o,u,v⟩;exact Xa (wpAny_isInstance (T := "StopIteration") (b:=true) ⟨o,u,v⟩ isSubtype_stop<|Xl<|fin _ k)
def ZpZ(t:Addr)(a:Array Value)(n:Nat)(m:Qj)(u:Array (Qf)):
 Meets (Builtin.«enumerate.__new__» ⟨[.type "enumerate",.ref t],[]⟩) (λ_ H0 s=>s.heap.get? t=some { cls:=.type "tuple",dict:=m,data:=.seq a n,slots:=u }/\
  H0 (.ok<|.ret<|.ref (s.heap.push { cls:=.type "tuple_iterator",data:=.fields #[.ref t,.int 0 0] }).objs.size)
   { s with heap:=(s.heap.push { cls:=.type "tuple_iterator",data:=.fields #[.ref t,.int 0 0] }).push { cls:=.type "enumerate",data:=.fields #[.none,.bool false,.ref s.heap.objs.size,rawInt 0,.none,.none] } }):=
 .of_wp λprog w A H0 s h=>by
  obtain⟨y,g,d,r,v⟩:=s;obtain⟨f,q⟩:=h;have p:=sub_enumerate;have i:Heap.IsTuple (Shared.heap ⟨y,g,d,r,v⟩) t a:=⟨_,f,rfl,n,rfl⟩
  wp_walk using AutoSeq1.wpAny_loadPart' f
  refine wpAny_stack_any λB=>Xl (?_:_)
  split
  .rename_i c _ _ _ _ _;cases (c==Value.type "enumerate")
   .wp_walk using AutoSeq1.wpAny_loadPart' f,wpAny_pyIter_tuple i
    exact⟨_,rfl,q⟩
   .wp_walk using AutoSeq1.wpAny_loadPart' f,wpAny_pyIter_tuple i
    exact⟨_,rfl,q⟩
  .wp_walk using AutoSeq1.wpAny_loadPart' f,wpAny_pyIter_tuple i
   exact⟨_,rfl,q⟩
def Ztn(v:s.heap.IsTuple t items)
(fin:∀a,IsEnum a (s.heap.objs.size+1) s.heap.objs.size 0 .none->a.IsTupleIter s.heap.objs.size t 0->a.objs.size=s.heap.objs.size+2->
  (∀b o,s.heap.get? b=some o->a.get? b=some o)->Q (.ref<|s.heap.objs.size+1) { s with heap:=a }):wpAny (model prog w) A (call (.type "enumerate") [.ref t]) Q H2 s:=by
 obtain⟨⟨c,p,B,u⟩,y,m,n,i⟩:=v;replace m:c=.type "tuple" := m;replace i:B=.seq items n:=i;subst m i;refine callType_new F.called_enumerate (by decide) (F.typeCall_enumerate_1 _) (F.newCall_enumerate_1 _) (λh=>F.args_object_init_2 h _) F.entry_enumerate_new (ZpZ t items n p u) ⟨y,?_⟩;have f:(s.heap.push { cls:=.type "tuple_iterator",data:=.fields #[.ref t,.int 0 0] }).objs.size=s.heap.objs.size+1:=Jx ..;show _/\_
 rw[f];have r:IsEnum ((s.heap.push { cls:=.type "tuple_iterator",data:=.fields #[.ref t,.int 0 0] }).push { cls:=.type "enumerate",data:=.fields #[.none,.bool false,.ref s.heap.objs.size,rawInt 0,.none,.none] }) (s.heap.objs.size+1) s.heap.objs.size 0 .none:=by
  have:=XG (s.heap.push { cls:=.type "tuple_iterator",data:=.fields #[.ref t,.int 0 0] }) (o:={ cls:=.type "enumerate",data:=.fields #[.none,.bool false,.ref s.heap.objs.size,rawInt 0,.none,.none] }) rfl;rw[f]at this;exact this
 exact⟨⟨_,r,rfl⟩,fin _ r ⟨_,Xd _<|XG _ rfl,rfl,rfl⟩ (by rw[Jx,f]) λb o q=>Xd _<|Xd _ q⟩
def Aw(K:W.Frag)(a:Addr):It:=
 ⟨λi H=>∃xs x,SqT K H a xs/\xs[i]?=some x,
  λi H v M=>∃p x,H p=none/\v=.ref p/\M=upd H p (.tup [.int (i:Int),x])/\∀xs,SqT K H a xs->xs[i]?=some x,
  λi H=>∃xs,SqT K H a xs/\i=xs.length⟩
theorem ZuL(ne:en≠un)(na:a≠en)(nu:a≠un):
 Turn P w K (.Tuple elts k pos) (Aw K a) [en,un] en (λi h=>(∃f,IsEnum h en un i f)/\h.IsTupleIter un a i) where
 mem:=by simp
 obj:=λi h q c y=>by
  obtain⟨⟨f,p⟩,o1,e1,c1,d1⟩:=q;simp only[Xe,XT,or_false]at y;rcases y with rfl|rfl
  .exact⟨_,p,by rintro v ⟨⟩⟩
  .exact⟨_,e1,λv z=>by rw[d1]at z;cases z⟩
 keep:=λi h h' q F=>by
  obtain⟨⟨f,p⟩,D⟩:=q;exact⟨⟨f,F en (by simp) _ p⟩,D.at λo x=>F un (by simp) o x⟩
 item:=by
  intro X l d n y i Z s O H H2 I N q hg;subst l d n;obtain⟨xs,x,hq,G⟩:=hg;obtain⟨r,W,Y,S⟩:=I.tuple hq;obtain⟨u,T,L⟩:=W.get G;obtain⟨⟨f,p⟩,D⟩:=q;have A:s.heap.IsTuple a r.toArray:=Y;refine ZtQ p D A (x:=u) (by simpa using T) ne λR out Q hT U kp=>?_;have I1:Qt X Z O H { s with heap:=R,toks:=s.toks+1 }:=I.turnedL (ch:=[en,un]) (λb o C e=>kp b o (λz=>C<|by simp[z]) (λz=>C<|by simp[z]) e) N;refine⟨_,rfl,wpAny_letOwnedTupleGo_enum out λt j m=>?_⟩;replace m:Heap.SameBut en R t:=m;have I2:Qt X Z O H { s with heap:=t,toks:=s.toks+1 }:=Qt.turnedL (s:={ s with heap:=R,toks:=s.toks+1 }) (t':=s.toks+1) (ch:=[en]) I1 (λb o C e=>(m.2 b λz=>C<|by simp[z]).trans e) (λc y=>N c<|by simp only[Xe,XT,or_false]at y ⊢;exact .inl y);have le:en<s.heap.objs.size:=Xj p;have M:un<s.heap.objs.size:=by obtain⟨_,z,_⟩:=D;exact Xj z
  have tup:t.IsTuple s.heap.objs.size #[.int (i:Int) s.toks,u]:=⟨_,(m.2 _<|X5 le).trans hT,rfl,_,rfl⟩;have I3:=I.trackTup I2 (Xn _) (x:=.int (i:Int)) ⟨s.toks,rfl⟩ L tup;refine⟨.ref s.heap.objs.size,_,I3,rfl,⟨_,x,I.hok.fresh<|Xn _,rfl,rfl,λJ h=>by rw[I.tuple_inj h hq];exact G⟩,⟨⟨u,by simpa using j⟩,Q.at λo z=>(m.2 un<|Ne.symm ne).trans z⟩,λc B=>?_⟩;have g:c<s.heap.objs.size:=by
   simp only[Xe,XT,or_false]at B;rcases B with rfl|rfl
   .exact le
   .exact M
  rw[Q6<|Xq g];exact(N c B).1
 done:=by
  intro X l d n y i Z s O H H2 I N q hg;subst l d n;obtain⟨xs,hq,rfl⟩:=hg;obtain⟨r,W,Y,S⟩:=I.tuple hq;obtain⟨⟨f,p⟩,D⟩:=q;have A:s.heap.IsTuple a r.toArray:=Y;have E:r.toArray[xs.length]?=none:=by simp[W.length]
  exact ET (I.ok.hd y) p D A E λR kp=>⟨rfl,I.turnedL (t':=s.toks) (ch:=[en,un]) (λb o C e=>kp b o (λz=>C<|by simp[z]) e) N⟩
 self:=λ_ _ _ _ _ q h=>by
  obtain⟨⟨f,p⟩,_⟩:=q;exact wpAny_pyIter_enum p h
def Tt(K:W.Frag)(D:TA):TI:=λO H H0=>D O H λf L=>∃a,f=[.ref a]/\(∃xs,SqT K L a xs)/\H0 (Aw K a) L
def Zk1{a:Expr}{D:TA}   (g:Gl X "enumerate")(d:X.mg "enumerate"=none)(j:PA X [a] D)(Y:starEach [a] X.env=[(false,eval a X.env)]:=by rfl):
 PI X (.Tuple elts k tpos) (.Call (.Name "enumerate" p) [a] [] pos) (Tt X.K D):=by
 intro Z s O H H0 I h;refine Call_ (JE I g d Cc<|PyProof.Rows.callWith_type1 (QE (j pos Z s O H _ I h) ?_) Y rfl);rintro z f ⟨t,L,r,C,K⟩;obtain⟨x,e,⟨xs,R⟩,q⟩:=K;subst e;obtain⟨u,rfl,B⟩:=VY C;cases B;obtain⟨v,E,P,F⟩:=r.tuple R;have i:f.heap.IsTuple x v.toArray:=P;refine Ztn i λh' y l W N=>wpAny_pyIter_enum y ?_;have w:x<f.heap.objs.size:=by obtain⟨o,b,_⟩:=i;exact Xj b
 have n:Qt X Z O L { f with heap:=h' }:=r.kept (t':=f.toks) N;refine⟨_,[f.heap.objs.size+1,f.heap.objs.size],_,_,L,rfl,n,ZuL (en:=f.heap.objs.size+1) (un:=f.heap.objs.size) (a:=x) (Nat.succ_ne_self _) (Xq<|B5 w)<|Xq w,⟨⟨_,y⟩,l⟩,λc A=>?_,q⟩;have m:f.heap.objs.size<=c:=by
  simp only[Xe,XT,or_false]at A;rcases A with rfl|rfl
  .exact B2 _ _
  .exact Xn _
 exact r.fpOk m (r.hok.fresh m)
def OY(r:Rep F x (.tuple ds)):∃a xs,x=.ref a/\F a=some (.tup xs)/\Q1 F xs ds:=by
 cases r with
 |tup h f=>exact⟨_,_,rfl,h,f⟩
def ZuG(h:ZQ K t Y [.fz<|.tuple as]):EvI K (Tt K t) Y (UT as):=λR F O H H0 S q=>
 h R F O H _ S λb L c w m=>by
  cases m with
  |fz r m=>
   cases m;obtain⟨a,xs,rfl,C,A⟩:=OY r;refine⟨a,rfl,⟨xs,SqT.of<|w.fh _ _ C⟩,q b L _ w λP E y f=>?_⟩;have s:SqT K E a xs:=SqT.of (f _ _<|y _ _ C);refine⟨⟨xs,s,by rw[Rl,A.length]⟩,λi d e=>?_⟩;obtain⟨g,Z,rfl⟩:=RC e;obtain⟨u,D,X⟩:=A.get Z;refine⟨⟨xs,u,s,D⟩,λv j W=>?_⟩;obtain⟨p,x,B,rfl,rfl,k1⟩:=W;have N:=k1 xs s;rw[D]at N;cases N;have sn:QI P (upd P p<|.tup [.int (i:Int),u]):=QI.new (f.free B);exact⟨_,QF.new f B,.tup QT<|.cons (.int _)<|.cons ((X.mono y).mono sn) .nil⟩
end L2
namespace L2
def BV:bootBuiltins "str"=some (.type "str"):=by decide +kernel
def Mi:List V->Hp->VK->Prop:=λxs H Q=>(∃i:Int,xs=[.int i]/\i.natAbs.log2<1920/\Q (.str<|toString i) H)\/(∃x,xs=[.str x]/\Q (.str x) H)\/(xs=[.non]/\Q (.str "None") H)
def Ds:ZY X (.type "str") Mi:=by
 intro Z s O H xs m Q I r h;rcases h with ⟨i,rfl,f,q⟩|⟨x,rfl,q⟩|⟨rfl,q⟩
 .obtain⟨u,rfl,t,rfl⟩:=VY r;exact PySem.P.str_of_int f ⟨.str _,H,I.tok _,⟨_,rfl⟩,q⟩
 .obtain⟨u,rfl,t,rfl⟩:=VY r;exact PySem.P.str_of_str ⟨.str _,H,I,⟨_,rfl⟩,q⟩
 .obtain⟨u,rfl,a⟩:=VY r;cases a;exact PySem.P.str_of_none ⟨.str _,H,I.tok _,⟨_,rfl⟩,q⟩
def Pj:R2:=λx y H Q=>∃i j,x=.str i/\y=.str j/\i.length+j.length<=sizeLine/\Q (.str<|i++j) H
def Us:OpR X (binaryOp .Add) Pj:=Zqd
def D6{i:Int}(h:Qr K D Y (.int i))(m:i.natAbs.log2<1920):Qr K (tCB Mi<|QX D Zo) Y (.str<|toString i):=λR F O H Q S q=>
 h R F O H _ S λp L v a f=>by cases f;exact .inl ⟨i,rfl,m,q p L _ a<|.str _⟩
def Ou(h:Qr K D Y (.str x)):Qr K (tCB Mi<|QX D Zo) Y (.str x):=λR F O H Q S q=>
 h R F O H _ S λi L v a f=>by cases f;exact .inr (.inl ⟨x,rfl,q i L _ a<|.str _⟩)
def Ij(h:Qr K D Y .none):Qr K (tCB Mi<|QX D Zo) Y (.str "None"):=λR F O H Q S q=>
 h R F O H _ S λi L v a f=>by cases f;exact .inr (.inr ⟨rfl,q i L _ a<|.str _⟩)
def Ur{y:Str}(m:Qr K D Y (.str x))(i:Qr K tb Y (.str y))(h:x.length+y.length<=sizeLine):Qr K (tOp Pj D tb) Y (.str<|x++y):=λR F O H Q S q=>
 VQ m i S λp M u v e f a=>by
  cases f;cases a;exact⟨x,y,rfl,rfl,h,q p M _ e<|.str _⟩
def Tm(m:Zf K t Y b)(s:b=true->Qr K D Y d)(p:b=false->Qr K tb Y d):Qr K (tIf t D tb) Y d:=λR F O H Q S q=>
 m R F O H _ S λi L a=>by
  cases b with
  |true=>exact s rfl R i O L Q (S.ext a) λh E v f r=>q h E v (a.trans f) r
  |false=>exact p rfl R i O L Q (S.ext a) λh E v f r=>q h E v (a.trans f) r
end L2
namespace L2
theorem TJ{c:Nat}:∀{p q r s:Qk},c∉p->c∉q->p++c::r=q++c::s->p=q/\r=s
 |[],[],r,s,_,_,h=>by simpa using h
 |[],b::q,r,s,_,f,h=>by
  simp at h f;exact Xr h.1 f.1
 |a::p,[],r,s,i,_,h=>by
  simp at h i;exact Xr h.1.symm i.1
 |a::p,b::q,r,s,i,f,h=>by
  simp only[Bz,List.cons.injEq]at h;obtain⟨rfl,h⟩:=h;obtain⟨u,m⟩:=TJ (λz=>i<|Xg _ z) (λz=>f<|Xg _ z) h;exact⟨by rw[u],m⟩
def D3(a b:Str):(a++b).cps.toList=a.cps.toList++b.cps.toList:=by rw[Str.cps_append];simp
def TM{a b:Str}(h:a.cps.toList=b.cps.toList):a=b:=by
 cases a;cases b
 congr 1
 exact Array.toList_inj.mp h
def MZ(c:Nat)(p q:Str)(r:Qh):(Str.join ⟨#[c]⟩ (p::q::r)).cps.toList=p.cps.toList++c::(Str.join ⟨#[c]⟩ (q::r)).cps.toList:=by
 show(p++(⟨#[c]⟩:Str)++Str.join ⟨#[c]⟩ (q::r)).cps.toList=_
 rw[D3,D3];simp
theorem LZ{c:Nat}:∀(ps f:Qh),ps≠[]->f≠[]->(∀p∈ps,c∉p.cps.toList)->(∀p∈f,c∉p.cps.toList)->(Str.join ⟨#[c]⟩ ps).cps.toList=(Str.join ⟨#[c]⟩ f).cps.toList->ps=f
 |[],_,h,_,_,_,_=>Xr rfl h
 |_::_,[],_,h,_,_,_=>Xr rfl h
 |[p],[q],_,_,_,_,h=>by rw[TM (a:=p) (b:=q) h]
 |[p],q::r::f,_,_,m,_,h=>by
  rw[MZ]at h;have h':p.cps.toList=q.cps.toList++c::(Str.join ⟨#[c]⟩ (r::f)).cps.toList:=h;exact Xr (by rw[h'];simp) (m p Xb)
 |p::s::ps,[q],_,_,_,i,h=>by
  rw[MZ]at h;have h':p.cps.toList++c::(Str.join ⟨#[c]⟩ (s::ps)).cps.toList=q.cps.toList:=h;exact Xr (by rw[<- h'];simp) (i q Xb)
 |p::s::ps,q::r::f,_,_,m,i,h=>by
  rw[MZ,MZ]at h;obtain⟨w,v⟩:=TJ (m p Xb) (i q Xb) h;rw[TM w,LZ (s::ps) (r::f) (by simp) (by simp) (λz u=>m z<|Xg _ u) (λz u=>i z<|Xg _ u) v]
def ZuX(x y:Str):Txt.split x y≠[]:=by
 unfold Txt.split;split
 .simp
 .split
  .simp
  .rw[StrLaws.partsBetween_eq];obtain⟨p,r,e⟩:=StrLaws.partsFrom_ne x y.length 0 (Builtin.Str.occurrences x y 0 x.length<|x.length+1);rw[e];simp
def Cs(a:ps≠[])(f:∀p∈ps,c∉p.cps.toList):Txt.split (Str.join ⟨#[c]⟩ ps) ⟨#[c]⟩=ps:=
 LZ _ _ (ZuX _ _) a (StrLaws.split_free _ c) f (by rw[StrLaws.join_split])
def TC:V->List V->Hp->VK->Prop:=λx a H Q=>∃z y:Str,x=.str z/\a=[.str y]/\(y.length==0)=false/\z.length+2<=sizeLine/\∀p,H p=none->Q (.ref p) (upd H p<|.lst<|(Txt.split z y).map V.str)
theorem CL:∀(l:List (Str×Tok)),QR ((l.map (·.1)).map V.str) (strValues l)
 |[]=>.nil
 |p::l=>.cons ⟨p.2,rfl⟩ (CL l)
def LC:MtR X "str.split" TC:=by
 intro Z s O H x xs v K Q I w A h;obtain⟨z,y,rfl,rfl,p,P,q⟩:=h;obtain⟨t,rfl⟩:=w;obtain⟨u,rfl,m,rfl⟩:=A.one;have B:1<=y.length:=by
  have:y.length≠0:=by simpa using p
  lia
 have r:=split_weight z y B;have a:∀(l:List (Str×Tok)) (k:Nat),l.map (·.1)=Txt.split z y->EP X Z O Q (.ref s.heap.objs.size) { s with heap:=s.heap.push { cls:=.type "list",data:=.seq (strValues l).toArray },toks:=k }:=λl k e=>by
  refine⟨.ref s.heap.objs.size,_,I.laid (t':=k) (λb N D=>Xd _ D) (Xn _) (show Vj X.prog X.w _ _ _ (.lst<|(Txt.split z y).map V.str) from⟨?_,strValues l,0,?_,XG _ rfl⟩),rfl,q _<|I.hok.fresh<|Xn _⟩
  .rw[Xi];lia
  .rw[<- e];exact CL l
 have C:(Builtin.Str.partsBetween z (Builtin.Str.occurrences z y 0 z.length<|z.length+1) y.length).length<=sizeLine:=by
  have R:=StrLaws.occ_length_le z y 0 z.length (z.length+1);rw[length_partsBetween];lia
 cases f:(decide (z.length<y.length)||decide (Builtin.Str.strKind z<Builtin.Str.strKind y))
 .cases i:(Builtin.Str.occurrences z y 0 z.length<|z.length+1).isEmpty
  .refine call_meets F.slot_str_split (typeIs_str _ _ _) F.entry_str_split (F.args_str_split_2 _ _) (meets_str_split_sep z y t m f p i (by lia) C) ?_;show wants _ _ _ { s with toks:=_,heap:=s.heap.push { cls:=.type "list",data:=.seq (strsFrom s.toks<|Builtin.Str.partsBetween z (Builtin.Str.occurrences z y 0 z.length<|z.length+1) y.length).toArray } };rw[strsFrom_eq];exact a (numbered s.toks _) _ ((numbered_texts _ _).trans ((Xc<|ne_true_of_eq_false f).trans (Xc<|ne_true_of_eq_false i)).symm)
  .exact call_meets F.slot_str_split (typeIs_str _ _ _) F.entry_str_split (F.args_str_split_2 _ _) (meets_str_split_not_found z y t m f p i)
    (a [(z,t)] s.toks ((Xc<|ne_true_of_eq_false f).trans (Xf i)).symm)
 .exact call_meets F.slot_str_split (typeIs_str _ _ _) F.entry_str_split (F.args_str_split_2 _ _) (meets_str_split_cannot_occur z y t m f)
   (a [(z,t)] s.toks (Xf f).symm)
def Its(x:Str):It:=⟨λi _=>i<x.cps.size,λi H v M=>M=H/\∃c,x.cps[i]?=some c/\v=.str ⟨#[c]⟩,λi _=>x.cps.size<=i⟩
theorem Ztg   (x:Str)(t:Tok)(it:Addr):Turn P w K tg (Its x) [it] it (λi h=>h.IsStrIter it "str_ascii_iterator" x t i) where
 mem:=by simp
 obj:=λi h a b f=>by
  have e:b=it:=by simpa using f
  subst e;obtain⟨o,e,c,d⟩:=a;exact⟨o,e,λv z=>by rw[d]at z;cases z⟩
 keep:=λi h h' a k=>by
  obtain⟨o,e,r⟩:=a;exact⟨o,k it (by simp) o e,r⟩
 item:=by
  intro X u q y R i Z s O H H2 I p a hg;subst u q y;have hg:i<x.cps.size:=hg;obtain⟨N,D,Y,C,B,A⟩:=p it (by simp);refine wpAny_pyNext_ascii_item a (c:=x.cps[i]) (by simp[hg]) λh' m W=>?_;have j:Qt X Z O H { s with heap:=h',toks:=s.toks+1 }:=I.turned (t':=s.toks+1) (λb o f e=>(W.2 b f).trans e) N D C B A;obtain⟨o,e,c,d⟩:=id m
  exact⟨_,rfl,BN (s:={ s with heap:=h',toks:=s.toks+1 }) e c d (by decide) ⟨.str ⟨#[x.cps[i]]⟩,H,j,⟨_,rfl⟩,⟨rfl,_,by simp[hg],rfl⟩,m,λb f=>(p b f).1⟩⟩
 done:=by
  intro X u q y R i Z s O H H2 I p a hg;subst u q y;have hg:x.cps.size<=i:=hg;obtain⟨N,D,Y,C,B,A⟩:=p it (by simp);exact wpAny_pyNext_ascii_end (I.ok.hd R) a (by simp[hg]) λh' g=>⟨rfl,I.turned (t':=s.toks) (λb o f e=>g b o f e) N D C B A⟩
 self:=λ_ _ _ _ _ a h=>wpAny_pyIter_striter_ascii a h
def A6(a:TE):TI:=λO H H0=>a O H λx L=>∃z:Str,x=.str z/\z.cps.all (· < 128)=true/\H0 (Its z) L
def Ek(p:PE X l tl):PI X tg l (A6 tl):=by
 intro Z s O H H0 I h;refine QE (p Z s O H _ I h) ?_;rintro v a ⟨x,L,f,i,m⟩;obtain⟨z,e,u,q⟩:=m;subst e;obtain⟨t,rfl⟩:=i;refine wpAny_pyIter_ascii u ?_;refine⟨a.heap.objs.size,[a.heap.objs.size],_,_,L,rfl,f.kept (t':=a.toks) λb o e=>Xd _ e,Ztg z t _,⟨_,XG _ rfl,rfl,rfl⟩,λb r=>?_,q⟩;have e:b=a.heap.objs.size:=by simpa using r
 subst e;exact f.fpOk (Xn _) (f.hok.fresh<|Xn _)
def PK:List V->Hp->VK->Prop:=λxs H Q=>∃(x:Str) (n:Int),xs=[.str x]/\PySem.intText? x=some n/\x.length<=640/\Q (.int n) H
def Np:ZY X (.type "int") PK:=by
 intro Z s O H xs i Q I r h;obtain⟨x,n,rfl,a,f,q⟩:=h;obtain⟨u,rfl,t,rfl⟩:=VY r;exact W.KIN.call_text a f ⟨.int n,H,I.tok _,⟨_,rfl⟩,q⟩
def Pg:List V->Hp->VK->Prop:=λxs H Q=>∃z:Str,xs=[.str z]/\z.length<=sizeLine/\Q (.int z.length) H
def Oa:ZY X (.builtin "len") Pg:=Zlk
def Al:R2:=λx y H Q=>∃i j:Str,x=.str i/\y=.str j/\Q (.bl<|!(Builtin.Str.occurrences j i 0 j.length 1).isEmpty) H
def EI:OpR X (compareOp .In) Al:=Zrz
def Ee(h:Qr K D Y (.str z))(u:z.cps.all (· < 128)=true):EvI K (A6 D) Y (z.cps.toList.map λc=>PyData.str ⟨#[c]⟩):=λR F O H H0 S q=>
 h R F O H _ S λB L v f p=>by
  cases p;refine⟨z,rfl,u,q B L _ f λA E C m=>?_⟩;refine⟨(by simp:(List.map (λc=>PyData.str ⟨#[c]⟩) z.cps.toList).length>=z.cps.size),λi d e=>?_⟩;have a:i<z.cps.size:=by
   have:=(Xh.mp e).1;simpa using this
  obtain rfl:d=.str ⟨#[z.cps[i]]⟩:=by simpa [a] using e.symm
  refine⟨a,λy N r=>?_⟩;obtain⟨rfl,c,s,rfl⟩:=r;have w:c=z.cps[i]:=by simpa [a] using s.symm
  subst w;exact⟨A,QF.refl m,.str _⟩
def Nl(h:Qr K D Y (.str x))(hn:PySem.intText? x=some n)(i:x.length<=640):Qr K (tCB PK<|QX D Zo) Y (.int n):=λR F O H Q S q=>
 h R F O H _ S λm L v a f=>by cases f;exact⟨x,n,rfl,hn,i,q m L _ a<|.int _⟩
def OF(h:Qr K D Y (.str x))(i:x.length<=sizeLine):Qr K (tCB Pg<|QX D Zo) Y (.int x.length):=λR F O H Q S q=>
 h R F O H _ S λm L v a f=>by cases f;exact⟨x,rfl,i,q m L _ a<|.int _⟩
def Ex{y:Str}(i:Qr K D Y (.str x))(h:Qr K tb Y (.str y)):Qr K (tOp Al D tb) Y (.bool<|!(Builtin.Str.occurrences y x 0 y.length 1).isEmpty):=λR F O H Q S q=>
 VQ i h S λm M u v e f a=>by
  cases f;cases a;exact⟨x,y,rfl,rfl,q m M _ e<|.bl _⟩
def Zu7(p:Qr K D Y (.str x))(m:Qr K tb Y (.int k))(h:x.length<=sizeLine)(i:atI x.cps.toList k=some c):Qr K (tOp ST D tb) Y (.str ⟨#[c]⟩):=λR F O H Q S q=>
 VQ p m S λr M u v e f a=>by
  cases f;cases a;exact⟨x,k,c,rfl,rfl,h,i,q r M _ e<|.str _⟩
theorem FY{H:Hp}:∀(l:Qh),Q1 H (l.map V.str) (l.map PyData.str)
 |[]=>.nil
 |_::l=>.cons (.str _) (FY l)
def LU{y:Str}(N:Qr K D Y (.str x))(C:Qr K tb Y (.str y))(u:(y.length==0)=false)(B:x.length+2<=sizeLine):EvO K (tBM K "str" TC D<|QX tb Zo) Y (.ol<|(Txt.split x y).map PyData.str):=λR F O H Q S q=>
 N R F O H _ S λW L v a s=>by
  cases s;refine⟨rfl,C R W O L _ (S.ext a) λP E w m r=>?_⟩;cases r;refine⟨x,y,rfl,rfl,u,B,λp A=>?_⟩;obtain⟨i,h,f⟩:=Gm (K:=K) (a.trans m) A (FY (H:=P)<|Txt.split x y);exact q _ _ _ _ i h f
end L2
namespace L2
def A8(xs:List V)(H:Hp)(Q:VK):Prop := ∃x,xs=[.str x,.ty "str"]/\Q (.bl true) H
def AH:ZY X (.builtin "isinstance") A8:=by
 intro Z s O H xs m Q I r h;obtain⟨x,rfl,q⟩:=h;obtain⟨u,i,rfl,a,f⟩:=BK r;cases (f);obtain⟨t,rfl⟩:=a;exact IsiPair.str_str ⟨.bl true,H,I.tok _,rfl,q⟩
def Ey(h:Qr K D Y (.str x)):Qr K (tCB A8<|QX D<|QX (tC<|.ty "str") Zo) Y (.bool true):=λR F O H Q S q=>
 h R F O H _ S λi L v a f=>by
  cases f;exact⟨x,rfl,q i L _ a<|.bl _⟩
end L2
set_option maxHeartbeats 8000000
set_option maxHeartbeats 8000000
set_option maxHeartbeats 8000000
set_option maxHeartbeats 8000000
set_option maxHeartbeats 8000000
namespace L2
def Nf(h:Sp)(a:St->XK)(t:TA):TE:=λO H Q=>t O H λf L=>h (f++[]) L Q (a O)
def L8(h:CXT)(X:Cx)(a:St->XK):Prop := ∀(Z:Qc) (O:St) (H:Hp) (s:Shared) (e:Value) (f:Shared),Qt X Z O H s->h X.stack H s (a O) e f->X.xe e f
def ID{x:Str}{a:Pos}{e:Expr}{t:TA}{j k:Nat}{K:Sp}{i:St->XK}(C:UK X.prog X.w X.K X.mg X.base x ps j K)(Y:Room k X.A)(R:L8 (CX1 X.prog X.w) X i)(z:PA X (e::es) t)(g:j<=k:=by walk_at"j")(l:Gl X x:=by rfl)
(B:(x==("__debug__" : Str))=false:=by decide +kernel)
(n:zs X e es:=by rfl)(A:(backTo a<|starEach es X.env).any (·.1)=false:=by rfl):PE X (.Call (.Name x p) (e::es) [] a) (Nf K i t):=by
 obtain⟨f,fd,b,d,o,F⟩:=C;intro Z s O H Q I h;refine wpAny_Call_Name_kw (Gj I l b ?_ B);refine W.callWith_K (h₀:=X.base) I.ok.mod.kin d (QE (z a Z s O H _ I h) ?_) n A;rintro m y ⟨D,L,w,r,q⟩;refine⟨w.kIn,?_⟩;have N:QR (D++[]) (m++[]):=r.append .nil;have c:(m++[]).length=ps.length:=by rw[<- N.length];exact F.len _ _ _ _ q
 refine wpAny_call (codeAny_mono (F.run X.A X.stack y L ⟨m,[]⟩ (m++[]) (D++[]) Q (i O) (Y.mono g) w.env0 (o y m w.kIn c) N q) λr P v=>?_);cases r with
 |error e=>exact R Z O L y e P w v
 |ok E=>
  cases E with
  |ret u=>exact w.after v
  |next=>exact False.elim v
  |brk=>exact False.elim v
  |cont=>exact False.elim v
def XWp(X:Cx)(f:St->XK)(pn:Qc)(v:Value)(s:Shared):Prop := ∃(O:St) (H:Hp) (a:Qj),Qt { X with pn:=pn } [] O H s/\f O v a H
abbrev Tk(X:Cx)(Eσ:St->XK)(pn:Qc):Cx:={ X with pn:=pn,xe:=XWp X Eσ pn }
def ZrA : L8 (CX1 X.prog X.w) (Tk X Eσ pn) Eσ:=by
 intro Z O H s v q I h;obtain⟨i,M,u,a,m,f,y⟩:=h;obtain⟨B,g,d,t,r⟩:=q;obtain rfl:=u;have A:=I.call (d':=d) (t':=t) m f a (by rintro b ⟨⟩);exact⟨O,M,i,(A.unwish).pins_of (λp w=>by cases w),y⟩
end L2
namespace L2
def RHn(C:Addr)(th:TS)(ta:Ends)(O:St)(e:Addr)(a:Qj)(H:Hp):Prop := ∀M,Lefts C e a H M->th ta O M
def EHn(C:Addr)(th:TS)(ta:Ends):St->XK:=λO=>XE C (RHn C th ta O)
def Ft{ta:Ends}:WG C (RHn C th ta O):=λ_ _ _ _ r f a M h=>r M (.head f a h)
section
variable {tb:Ends->TS}{body:List Stmt}{x:Str}{pos:Pos}
def ZtT(c:JX X.K ρ C f)(p:X.stack=X.env::X.outer)(r:X.env.frame=some X.env.locals)(P:Gl X x)(K:X.mg x=some (.ref C))
(Y:∀ta m,PSs (Tk X (EHn C th ta) m) body<|tb ta)(N:∀e m,PSs (Uv X e m) (b0::suite) th)(W:(x==("__debug__" : Str))=false:=by decide):
 PS X (.Try body (.ExceptHandler (some<|.Name x np) none (b0::suite) hpos::rest) [] [] pos) (SM tb):=by
 intro Z s O H ta I h;refine wpAny_Try_except (wpAny_mono (Y ta (X.pn++Z) [] s O H ta (I.toPn.wish _) h) (λy B q=>?_) λv B q=>?_)
 .have i:=SP.ofPn q;cases y with
  |next=>exact wpAny_execs_nil i
  |ret u=>exact i
  |brk=>exact i
  |cont=>exact i
 .obtain⟨A,L,g,J,e,rfl,⟨k,w,R,d⟩,D⟩:=q;exact Zua c I.ok p r P K N J w R d W (λT a b=>D _<|.step .nil a b) λy j z=>SP.ofHandler I.ok z
end
section
variable {f:Str}{H0:List OT->(OT->Prop)->Prop}{Rx:List OT->(Qd->Prop)->Prop}{t:TA}{ts:List OT}
def ZrU{ta:Ends}(B:ZQ K t Y ts)(A:H0 ts Φ):ZG K (Nf (spX K C f H0 Rx) (EHn C th ta) t) Y Φ:=λR F O H Q S q=>
 B R F O H _ S λN L P h m=>
  ⟨N,ts,(S.ext h).kt,h.fh,by rw[XN];exact m,_,rfl,Ft,.inl ⟨Φ,A,λD E v p r u i w s=>q D E v p r u (h.trans i) (λa y=>h.hh.free<|w a y) s⟩⟩
def ZtL{u:TE->TS}(D:ZQ K t Y ts)(A:Rx ts Φx)(w:∀t' O H H2,(∀Q,t' O H Q)->u t' H2 O H)(m:QC K th Y ta):
 QC K (SM λZ=>u<|Nf (spX K C f H0 Rx) (EHn C th Z) t) Y ta:=λX R F O H H2 x S c=>by
 refine w _ _ _ _ λQ=>D R F O H _ S λW L b i v=>⟨W,ts,(S.ext i).kt,i.fh,by rw[XN];exact v,_,rfl,Ft,.inr ⟨Φx,A,λg M e P d y s p N a B=>?_⟩⟩;have q:QI H a:=Zpt B (i.trans s).hh (i.hh.free p);have r:QF F H F a:=⟨q,QI.refl _,S.sub.trans q,λ_ h=>.inl h⟩;exact m X R F O a H2 (x.trans r) (S.ext r) c
end
end L2
section
namespace My
open PySem L2 Mir
def zc(s:String):Lean.MacroM (Lean.TSyntax `tactic):=match s with
 |"d"=>`(tactic| dsimp only [List.set])
 |"e"=>`(tactic| dsimp only [List.set,Ue,List.map,Jl])
 |"x"=>`(tactic| try dsimp only [Yt,ZtY])
 |"p"=>`(tactic| exact ⟨rfl,rfl,rfl,by decide +kernel,rfl,by decide +kernel,by decide +kernel⟩)
 |"j"=>`(tactic| first | decide | omega)
 |_=>Lean.Macro.throwUnsupported
local macro_rules|`(tactic| walk_at $s:str)=>zc s.getString
seal PA PE PI PS PSs PT PG
def top(i:Nat):Stmt:=PySem.Challenge.pw_chargeyard_k92_whole_from_text_to_peak.main.body.getD i (.Pass ⟨0,0,0,0⟩)
abbrev R6:Stmt:=top 7
abbrev SE:Stmt:=top 8
abbrev Sg:Stmt:=top 9
abbrev Sx:Stmt:=top 10
abbrev Rt:Stmt:=top 11
abbrev Hz:Stmt:=top 12
abbrev Ra:Stmt:=top 13
abbrev Ht:Stmt:=top 14
abbrev Rp:Stmt:=top 15
abbrev RT:Stmt:=top 16
abbrev RB:Stmt:=top 17
abbrev Sb:Stmt:=top 18
abbrev R3:Stmt:=top 19
abbrev RS:Stmt:=top 20
abbrev Rb:Stmt:=top 21
abbrev RQ:Stmt:=top 22
abbrev NW:Stmt:=top 23
abbrev Rf:Stmt:=top 24
abbrev RF:Stmt:=top 25
abbrev HD:Stmt:=top 26
abbrev HB:Stmt:=top 27
abbrev Su:Stmt:=top 28
abbrev HK:Stmt:=top 29
abbrev Hr:Stmt:=top 31
abbrev Hj:Stmt:=top 32
abbrev RW:Stmt:=top 37
abbrev RJ:Stmt:=top 38
abbrev RL:Stmt:=top 39
abbrev R7:Stmt:=top 40
abbrev Sq:Stmt:=top 41
abbrev Hk:Stmt:=top 42
abbrev HN:Stmt:=top 43
abbrev HG:Stmt:=top 44
abbrev Hv:Stmt:=top 46
abbrev Ru:Stmt:=top 47
abbrev Hn:Stmt:=top 48
abbrev Hi:Stmt:=top 49
abbrev RZ:Stmt:=top 51
abbrev Sk:Stmt:=top 52
abbrev S6:Stmt:=top 53
abbrev S7:Stmt:=top 54
abbrev HJ:Stmt:=top 56
abbrev SB:Stmt:=top 57
abbrev HA:Stmt:=top 58
abbrev R8:Stmt:=top 59
abbrev RX:Stmt:=top 60
abbrev SG:Stmt:=top 62
abbrev RU:Stmt:=top 63
abbrev SA:Stmt:=top 64
abbrev Hu:Stmt:=top 65
abbrev RN:Stmt:=top 66
abbrev Mu:Stmt:=top 68
abbrev HC:Stmt:=top 69
abbrev M7:Stmt:=top 70
abbrev Hm:Stmt:=top 71
abbrev Sz:Stmt:=top 72
abbrev Hw:Stmt:=top 73
abbrev DU:Stmt:=top 74
abbrev Hq:Stmt:=top 76
abbrev Hx:Stmt:=top 77
abbrev S0:Stmt:=top 78
abbrev Sy:Stmt:=top 79
abbrev Sn:Stmt:=top 80
abbrev RG:Stmt:=top 81
abbrev Ha:Stmt:=top 82
abbrev HE:Stmt:=top 83
abbrev Si:Stmt:=top 84
abbrev Ho:Stmt:=top 85
abbrev MC:Stmt:=top 86
abbrev Nb:Stmt:=top 87
abbrev Sl:Stmt:=top 89
abbrev RV:Stmt:=top 90
abbrev Sv:Stmt:=top 91
abbrev Sr:Stmt:=top 92
abbrev Se:Stmt:=top 93
abbrev S8:Stmt:=top 94
abbrev NU:Stmt:=top 95
abbrev HF:Stmt:=top 96
abbrev Sd:Stmt:=top 97
abbrev MB:Stmt:=top 98
abbrev RM:Stmt:=top 100
abbrev HL:Stmt:=top 101
abbrev HM:Stmt:=top 102
abbrev Sf:Stmt:=top 103
abbrev ME:Stmt:=top 104
abbrev SD:Stmt:=top 105
abbrev Gr:Stmt:=top 106
abbrev WC:Stmt:=top 107
abbrev Br:Stmt:=JK (top 4) 0
abbrev Bs:Stmt:=JK (top 36) 0
abbrev Ri:Stmt:=JK (top 36) 1
abbrev Ss:Stmt:=JK (top 36) 2
abbrev R1:Stmt:=JK (top 36) 3
abbrev S5:Stmt:=JK (top 36) 4
abbrev He:Stmt:=JK (top 36) 5
abbrev RD:Stmt:=JK (top 36) 6
abbrev RY:Stmt:=JK (top 36) 7
structure Bl(mg:Str->Qf):Prop where
 abs:mg "abs"=none
 len:mg "len"=none
 max:mg "max"=none
 min:mg "min"=none
 sum:mg "sum"=none
 any:mg "any"=none
 all:mg "all"=none
 isi:mg "isinstance"=none
 int:mg "int"=none
 bool:mg "bool"=none
 list:mg "list"=none
 tuple:mg "tuple"=none
 range:mg "range"=none
 zip:mg "zip"=none
 enumerate:mg "enumerate"=none
 str:mg "str"=none
 sorted:mg "sorted"=none
 set:mg "set"=none
structure Tx(K:W.Frag)(mg:Str->Qf)(C gS gE:Addr):Prop where
 net:NetC K C
 mSTART:mg "START"=some (.ref gS)
 mEND:mg "END"=some (.ref gE)
 aS:W.nsIn K mainGlobals "START"=some (some<|.ref gS)
 aE:W.nsIn K mainGlobals "END"=some (some<|.ref gE)
def upD:Option Nat->PyData
 |none=>.none
 |some a=>.int (a:Int)
def Zc(l:Ln):PyData:=.tuple [upD l.up,.tuple<|l.bs.map PyData.int]
def QL(y:Yd):PyData:=.tuple [.int (y.T:Int),.tuple<|y.ls.map Zc]
def QO(l:Qk):Qd:=l.map λ(j:Nat)=>PyData.int (j:Int)
def mdl{j:Int}(h:0<j):0<j:=h
def cdl{i j:Int}(f:0<j)(a:j<=10^60):Jc i j:=⟨f,X8 a<|by decide +kernel⟩
def Ki{j:Int}(h0:0<=j)(a:j<=1000000):SI 10 j:=⟨h0,a,by decide⟩
def Wk{a:Int}(h0:0<=a)(i:a<10^300)(h:0<=b)(f:b<10^300):IntMulOk a b:=Pi (m:=1000) (n:=1000) h0 (Yh i<|by decide +kernel) h (Yh f<|by decide +kernel) (by decide)
def z60:(10:Int)^60=1000000000000000000000000000000000000000000000000000000000000:=by decide +kernel
def Ae{i j:Int}(f:0<j)(a:j<=1000000000000000000000000000000000000000000000000000000000000):Jc i j:=cdl f (by rw[z60];exact a)
def Uq{a:Type}[Inhabited a]{f:a->PyData}{xs:List a}{k:Int}(h0:0<=k)(m:k<(xs.length:Int)):atI (xs.map f) k=some (f<|xs.getD k.toNat default):=by
 have h:k.toNat<xs.length:=by lia
 have e:(xs.map f)[k.toNat]?=some (f<|xs.getD k.toNat default):=by simp[h]
 have i:=V5 e;rwa [XU h0]at i
def TD{xs:Ql}{k:Int}(h0:0<=k)(f:k<(xs.length:Int)):atI (xs.map PyData.int) k=some (.int<|xs.getD k.toNat 0):=by
 have h:k.toNat<xs.length:=by lia
 have e:(xs.map PyData.int)[k.toNat]?=some (.int<|xs.getD k.toNat 0):=by simp[h]
 have a:=V5 e;rwa [XU h0]at a
def Z0h{xs:Ql}(h0:0<=k)(f:k<(xs.length:Int)):atI xs k=some (xs.getD k.toNat 0):=by
 have h:k.toNat<xs.length:=by lia
 have e:xs[k.toNat]?=some (xs.getD k.toNat 0):=by simp[h]
 have a:=V5 e;rwa [XU h0]at a
def Z0A{f:Nat->PyData}{n:Nat}{k:Int}(h0:0<=k)(i:k<(n:Int)):atI ((List.range n).map f) k=some (f k.toNat):=by
 have h:k.toNat<n:=by lia
 have e:((List.range n).map f)[k.toNat]?=some (f k.toNat):=by simp[h]
 have a:=V5 e;rwa [XU h0]at a
def Z0K{n:Nat}{k:Int}(h0:0<=k)(a:k<(n:Int)):ixN n k=some k.toNat:=by
 unfold ixN;rw[Xf h0,Xf a]
instance:Inhabited Ln:=⟨⟨none,[]⟩⟩
structure ScrOk(ns:Ql):Prop where
 len:ns.length<=63
 bits:∀i∈ns,Builtin.Int.intBits i<=2^20
def QB(g:Gs):PyData:=.tuple [.int (g.line:Int),.int (g.first:Int),.int (g.last:Int),.int g.want,.int g.most]
instance:Inhabited Gs:=⟨⟨0,0,0,1,1⟩⟩
def CO{m:Nat}(h:∀d∈ds,d.canLay0=true/\d.depth<=m):PyData.canLayAll0 ds=true/\PyData.depthAll ds<=m:=by
 induction ds with
 |nil=>exact⟨rfl,X3 _⟩
 |cons d ds f=>
  obtain⟨a,b⟩:=h d Xb;obtain⟨c,e⟩:=f λx i=>h x (Xg _ i);refine⟨by rw[PyData.canLayAll0,a,c];rfl,?_⟩;rw[PyData.depthAll];lia
def V2(m:Nat)(d:PyData):Prop:=d.canLay0=true/\d.depth<=m
def V2.fine{m:Nat}(h:V2 m d)(a:m<=60):Wg d:=⟨h.1,Xx h.2 a⟩
def V2.mono{m:Nat}(h:V2 m d)(a:m<=n):V2 n d:=⟨h.1,Xx h.2 a⟩
def Be{m:Nat}(h:∀d∈ds,V2 m d):V2 (m+1) (.tuple ds):=by
 obtain⟨a,b⟩:=CO h;refine⟨by rw[PyData.canLay0];exact a,?_⟩;rw[PyData.depth];lia
def Nw{m:Nat}(h:∀d∈ds,V2 m d):V2 (m+1) (.list ds):=by
 obtain⟨a,b⟩:=CO h;refine⟨by rw[PyData.canLay0];exact a,?_⟩;rw[PyData.depth];lia
def Ul(i:Int)(m:Nat):V2 m (.int i):=⟨rfl,X3 _⟩
def Dm{a:Type}{f:a->PyData}{xs:List a}{m:Nat}(h:∀x,V2 m<|f x):∀d∈xs.map f,V2 m d:=λd i=>by
 obtain⟨x,_,rfl⟩:=Xk.mp i;exact h x
def BU{m:Nat}:∀d∈([]:Qd),V2 m d:=λd a=>(nomatch a)
def WL{m:Nat}(h:V2 m d)(f:∀d∈ds,V2 m d):∀x∈d::ds,V2 m x:=λx a=>by
 rcases Xe.mp a with rfl|a
 .exact h
 .exact f x a
def Z00(o:Option Nat)(m:Nat):V2 m (upD o):=by cases o<;>exact⟨rfl,X3 _⟩
def Z0u(l:Ln):V2 2 (Zc l):=Be (WL (Z00 _ _)<|WL (Be (m:=0)<|Dm λi=>Ul i 0) BU)
def Z06(y:Yd):V2 4 (QL y):=Be (WL (Ul _ _)<|WL (Be<|Dm Z0u) BU)
def AX(g:Gs):V2 1 (QB g):=Be (WL (Ul _ _)<|WL (Ul _ _)<|WL (Ul _ _)<|WL (Ul _ _)<|WL (Ul _ _) BU)
def EG(gs:List Gs):V2 2 (.list<|gs.map QB):=Nw (Dm AX)
def DR:Wg (.list []):=(Nw (m:=0) BU).fine (by decide)
def Fd(l:Qk):QO l=(l.map λ(j:Nat)=>(j:Int)).map PyData.int:=by
 unfold QO;rw[Xm];rfl
def Fa{a:Nat}{l:Qk}:((a:Int)∈l.map λ(j:Nat)=>(j:Int))↔a∈l:=by
 constructor
 .intro h;obtain⟨j,f,e⟩:=Xk.mp h;have:j=a:=by lia
  subst this;exact f
 .intro h;exact Xk.mpr ⟨a,h,rfl⟩
def Ph{a:Nat}(h:Qr K D Y (.int (a:Int)))(f:Qr K tb Y (.list<|QO l)):Qr K (tOp (rIn K false) D tb) Y (.bool<|decide (a∈l)):=by
 rw[Fd]at f;have:=E2 h f;rwa [decide_eq_decide.mpr Fa]at this
def Nx{a:Nat}(h:Qr K D Y (.int (a:Int)))(f:Qr K tb Y (.list<|QO l)):Qr K (tOp (rIn K true) D tb) Y (.bool<|!decide (a∈l)):=by
 rw[Fd]at f;have:=Ih h f;rwa [decide_eq_decide.mpr Fa]at this
def KI{a:Type}(xs:List a)(k:Nat)(f:k<=xs.length):cut xs (some (k:Int)) none=xs.drop k:=by
 unfold cut;rw[HT.sIx_nat,Nat.min_eq_left f];show(xs.drop k).take (xs.length-k)=_;rw[<- HU,XX]
def Pw{n k:Nat}(h:0<k)(hn:0<n):¬(HT.sIx n 0 (some (k:Int))=0/\HT.sIx n n none=n):=λz=>by
 have a:=z.1;rw[HT.sIx_nat]at a;lia
def p10(n:Nat):(10:Int)^n=((10^n:Nat):Int):=by rw[Int.natCast_pow];rfl
def Il(n:Nat):(0:Int)<10^n:=by
 rw[p10];have:0<10^n:=Nat.pow_pos (by decide);lia
def Z1w{j:Int}:0<(10:Int)^j.toNat:=Il _
def SY(w:String):Lean.MacroM (Lean.TSyntax `tactic):=do
 let n:=Lean.mkIdent (w.drop 1).toString.toName
 match w.front with
 |'@' => `(tactic| with_reducible apply $n)
 |'!' => `(tactic| with_reducible exact $n)
 |'~' => `(tactic| apply $n)
 |_ => `(tactic| walk_at $(Lean.Syntax.mkStrLit w))
def VE(s:String):Lean.MacroM (Lean.TSyntax `tactic):=do
 let l ← (s.splitOn "|").mapM λa=>do
  match a.splitOn "<" with
  |[x,z] => `(tactic| ($(← SY x):tactic <;> $(← SY z):tactic))
  |_=>
   let f ← (a.splitOn " ").mapM SY
   `(tactic| ($[$f.toArray:tactic];*))
 `(tactic| first $[| $l.toArray:tactic]*)
def zd(s:String):Lean.MacroM (Lean.TSyntax `tactic):=match s with
 |"rfl"=>`(tactic| rfl)
 |"hc"=>`(tactic| intro hc)
 |"ls"=>`(tactic| dsimp only [List.set])
 |"om"=>`(tactic| first | lia | lia)
 |"asm"=>`(tactic| with_reducible assumption)
 |"ble"=>`(tactic| first | with_reducible rfl | decide | exact Nat.le_of_ble_eq_true rfl)
 |"smo"=>`(tactic| (focus (simp; (first | done | walk_at "om"))))
 |"dso"=>`(tactic| (focus (dsimp only; walk_at "om")))
 |"r4"=>`(tactic| (refine ⟨?_,?_,?_,?_⟩ <;> walk_at "r62"))
 |"r62"=>`(tactic| (rw [z62]; walk_at "side"))
 |"ss"=>`(tactic| repeat walk_at "s1")
 |"call"=>`(tactic| (constructor <;> walk_at "side"))
 |"rg"=>`(tactic| first | with_reducible rfl | (apply Wp <;> walk_at "rs") | (apply Fq <;> walk_at "rs"))
 |"rs"=>VE "om|smo"
 |"side"=>VE "om|asm|ble|smo"
 |"arith"=>VE "om|asm|ble|smo"
 |"ev"=>VE "@Qp rfl|!QG|!Km|!GN|!Vh|@YE ev ev|@VA ev ev|@V3 ev ev cond|@Z1p ev|@WK ev ev|@BT ev ev|@J8 ev|@D0 ev|@DB ev ev ev|@VL ev hc ev|@UO ev hc ev|@K7 ev|@Z0Y rfl ev item|@Z1c rfl ev item|@Z5 evd ev item|@Ve evd ev item|@Vd eas side|@QJ ea call|@JI ea call|@PM ev|@Z0m ev ev|@KF ev ev|@K8 ev|@UX ev rfl|@Z0f rfl|@KG rfl|@Dz evd|@YH evd|@KJ rfl|@Uo evd|@PL ev|@KC evd evd side|@Ph ev evd|@Nx ev evd|@K5 evd ep ep nw|@K4 ev ev fine fine|@K6 ev ev fine fine|@YV ev rfl|@EvO.fz eo"
 |"evd"=>VE "~Qp rfl|ev|@EvO.fz eo"
 |"ea"=>VE "!Q2|@BS rfl ea|@Qs ev ea"
 |"ep"=>VE "!Ge|@Gi ev"
 |"eas"=>VE "~Z2|~Za ev eas"
 |"eo"=>VE "@Ya eas side|@GT ea call|@BQ evd ep ep|@GM evd evd side"
 |"et"=>VE "!Ps|@ZE ev|@ZL ev|@Dg et hc et|@YS et hc et|@Yb et"
 |"g"=>VE "!Zd|!Wl|@ZZ g g|@YO g rfl|~YO g rfl"
 |"ei"=>VE "@WN ea r62 r62|@TX ea r4|@E1 ea r4|@BR ea|@KR ea|@Va evd|@Uj evd"
 |"s1"=>VE "@Q9 s1|@Vt eo ls|@Z9 ev ls|@Dd ev g ls|@M1 rfl ev side ls|@Ea rfl ev ev item ls"
 |"ret"=>VE "@Du rfl|@Zh evd|@Wm eo"
 |"if"=>VE "@Q9 if|@Zz et"
 |"eir"=>VE "~EvI.cast ei rg"
 |"item"=>VE "rfl|asm|@TD<arith|@Z0h<arith|@Z0A<arith|@Z0K<arith|~Uq<arith"
 |"cond"=>VE "asm|@Z0F<om|@Ae<om|!Z0C|@Ki<om|!Z1w|@mdl<om|om|dso"
 |"fine"=>VE "~fine_nil"
 |_=>Lean.Macro.throwUnsupported
local macro_rules|`(tactic| walk_at $s:str)=>zd s.getString
section
variable {base:Heap}{gS gE YR CR fR q1 q2 q3:Addr}
inductive R_cell:List OT->OT->Prop
 |mk {ns:Ql}{k:Int}(h:0<=k):R_cell [.scr ns,.fz<|.int k] (.fz<|.int<|Zw ns k)
def ZiU:Qo Zan Zan (Q5 Sl):=by walk_at"p"
def EL(T:Bl mg)(ta:Df K mg "_law_cell_at" Sl Zan):Qv P w K mg base "_law_cell_at" Zan 1 (Qy (K:=K) R_cell):=by
 refine ta.ev ZiU (λf m r h H H2 i A outer s p=>?_);cases h with
 |@mk a k q=>
  refine⟨_,(Qz (Zv (Z7 Uf (pv 1) (QW ZU (by rfl) T.len ZT<|av 0 Qq)<|Zp _) (Q0<|QH<|Q8 QA (pv 0)<|pv 1) Zx)
 (Q0<|QH Qw)),?_⟩
  try dsimp only[Yt]
  walk_at"if"
  .
   intro c;walk_at"ret";rfl
  .
   intro c;refine Z3 ?_;walk_at"ret";have e:Zw a k=0:=by
    have:a.length<=k.toNat:=by lia
    simp[Zw,List.getD,this]
   rw[e]
inductive R_amount:List OT->OT->Prop
 |mk {n:Int}(h:0<=n):R_amount [.fz<|.int n] (.fz<|.tuple [.int (Ye n).1,.int (Ye n).2])
def Sm:Qo ["_law_number_here","_law_way"] ZaU (Q5 Sr):=by walk_at"p"
def Zqp(T:Bl mg)(ta:Df K mg "_law_amount" Sr ZaU):Qv P w K mg base "_law_amount" ZaU 1 (Qy (K:=K) R_amount):=by
 refine ta.ev Sm (λf p r h H H2 m A outer s q=>?_);cases h with
 |@mk n u=>
  refine⟨_,(Qz (QM 1 Sm.nd<|QN VO (pv 0) Qw)
 (Qz (QM 0 Sm.nd<|QN Yv (pv 0) Qw)
 (Qz (Zv (Z7 Y3 (pv 1) Qw<|Zp _) (Q0<|QH<|Z1<|Qu Qw<|av 0 Qq) Zx)
 (Qz (Zv (Z7 Uf (pv 1) Qw<|Zp _) (Q0<|QH<|Z1<|Qu (QN VO (pv 0) Qw)<|Qu (QN Yv (pv 0) Qw) Qq) Zx)
 (Qz (Zv (Z7 Y3 (pv 1) Qw<|Zp _) (Q0<|QH<|Z1<|Qu (QN VO (pv 0) Qw)<|Qu (QN Yv (pv 0) Qw) Qq) Zx)
 (Q0<|QH<|Z1<|Qu (QN VO (pv 0)<|QN Dv Qw Qw)<|Qu (QN Yv (pv 0)<|QN Dv Qw Qw) Qq)))))),?_⟩
  show QC K _ [_,_] _
  walk_at"ss";walk_at"if"
  .
   intro c;have c:=XH c;walk_at"ret";show _=_;unfold Ye;rw[Xf c]
  .
   intro c;have c:=WA c;refine Z3 ?_;walk_at"if"
   .
    intro a;have a:=XH a;walk_at"ret";show _=_;unfold Ye;rw[Xc c,Xf a]
   .
    intro a;have a:=WA a;refine Z3 ?_;walk_at"if"
    .
     intro i;have i:=XH i;walk_at"ret";show _=_;unfold Ye;rw[Xc c,Xc a,Xf i]
    .
     intro i;have i:=WA i;refine Z3 ?_;walk_at"ret";show _=_;unfold Ye;rw[Xc c,Xc a,Xc i];rfl
inductive R_number:List OT->OT->Prop
 |mk {ns:Ql}{k:Int}(hs:ScrOk ns)(h0:0<=k)(h1:k<1000):R_number [.scr ns,.fz<|.int k] (.fz<|.int<|VP ns k)
def OA{m:Nat}(h0:0<=x)(h:x<2^m):Builtin.Int.intBits x<=m:=by
 unfold Builtin.Int.intBits;by_cases e:x=0
 .subst e;simp
 .have p:(x==0)=false:=by simpa using e
  rw[p];have f:x.natAbs≠0:=by lia
  have a:x.natAbs<2^m:=by
   have:((x.natAbs:Nat):Int)<((2^m:Nat):Int):=by
    have i:((2^m:Nat):Int)=(2:Int)^m:=by rw[Int.natCast_pow];rfl
    rw[i];lia
   exact W9.mp this
  have:=(Nat.log2_lt f).mpr a;simp only[MP,if_false];lia
def Zrh(a:ScrOk ns)(k:Int):Builtin.Int.intBits (ZhK<|Zw ns k)<=2^20:=by
 have e:Builtin.Int.intBits (ZhK<|Zw ns k)=Builtin.Int.intBits (Zw ns k):=by
  unfold ZhK;split
  .unfold Builtin.Int.intBits;simp
  .rfl
 rw[e];by_cases h:k.toNat<ns.length
 .refine a.bits _ ?_;simp[Zw,h]
 .have:Zw ns k=0:=by
   have:ns.length<=k.toNat:=by lia
   simp[Zw,List.getD,this]
  rw[this];decide
def Jw:Qo ["_law_script","_law_k","_law_head","_law_one","_law_other","_law_total","_law_turn","_law_cell"] Zan (Q5 Sv):=by walk_at"p"
def ZqZ(T:Bl mg)(ta:Df K mg "_law_number" Sv Zan)(m:Qv P w K mg base "_law_cell_at" Zan 1 (Qy (K:=K) R_cell)):Qv P w K mg base "_law_number" Zan 2 (Qy (K:=K) R_number):=by
 refine ta.ev Jw (λf W r h H H2 R A outer s q=>?_);cases h with
 |@mk a k y b Z=>
  refine⟨_,(Qz (QM 2 Jw.nd<|Q3 m q<|av 0<|Qu Qw Qq)
 (Qz (QM 3 Jw.nd<|QN Y5 (QN VO (pv 2) Qw)<|QN Gd Qw<|pv 1)
 (Qz (QM 4 Jw.nd<|QN Y5 (QN Gd Qw<|pv 1) Qw)
 (Qz (QM 5 Jw.nd Qw)
 (Qz (ZV zN rfl (V1 rfl T.range<|Qu Qw Qq) (QK 6 Jw.nd) (Qz (QM 3 Jw.nd<|QN VO (QN Y5 (QN Y5 (QN Gd (pv 3) Qw) Qw)<|QN Gd (pv 6)<|pv 1) Qw)
 (Qz (QM 4 Jw.nd<|QN VO (QN Y5 (QN Gd (pv 4) Qw)<|pv 3) Qw)
 (Q0<|QM 5 Jw.nd<|QN Y5 (QN Gd (pv 5) Qw)<|QN VO (QN Y5 (QN Gd (pv 4)<|pv 4)<|pv 3) Qw))))
 (Qz (Zv (Z7 Y3 (QN VO (QN Yv (pv 2) Qw) Qw) Qw<|Zp _) (Q0<|QH<|pv 5) Zx)
 (Qz (QM 7 Jw.nd<|QW BX (by rfl) T.abs Mb<|Qu (Q3 m q<|av 0<|av 1 Qq) Qq)
 (Q0<|QH<|QN Y5 (pv 7)<|QN EN (pv 5)<|AK PySem.F.plainAttrs_int PySem.F.slot_int_bit_length PySem.F.type_int_bit_length Ii<|pv 7)))))))),?_⟩
  show QC K _ [_,_,_,_,_,_,_,_] _
  walk_at"x";walk_at"ss";refine Q9 (V6 (λi=>[some<|.scr a,zi k,zf<|.int<|Zw a 0,zi (mix (Zw a 0) k i).1,zi (mix (Zw a 0) k i).2.1,zi (mix (Zw a 0) k i).2.2,none,none]) (by walk_at"ei") ⟨rfl,rfl,rfl,rfl,rfl,rfl,trivial⟩ ?_ ?_)
  .intro i d O;obtain⟨D,rfl⟩:=YJ O;refine⟨_,by walk_at"g",?_⟩;walk_at"d";have C:i<30:=D;have Y:0<=((mix (Zw a 0) k i).1*48271+11+(0+(i:Int))*k)%2147483647/\((mix (Zw a 0) k i).1*48271+11+(0+(i:Int))*k)%2147483647<2147483647:=by lia
   have X:0<=((mix (Zw a 0) k i).2.1*16807+((mix (Zw a 0) k i).1*48271+11+(0+(i:Int))*k)%2147483647)%2147483629/\((mix (Zw a 0) k i).2.1*16807+((mix (Zw a 0) k i).1*48271+11+(0+(i:Int))*k)%2147483647)%2147483629<2147483629:=by lia
   walk_at"ss";refine⟨rfl,rfl,rfl,?_,?_,?_,trivial⟩<;>simp only[mix,X9]
  .intro u N;refine Yf N ?_;have B:=DZ (Zw a 0) k 30;have p:(ZW 0 (30:Int).toNat).length=30:=JM;rw[p];walk_at"if"
   .
    intro c;have c:=XH c;walk_at"ret";show _=_;unfold VP;rw[Xf c]
   .
    intro c;have c:=WA c;refine Z3 ?_;have e:=Zrh y k;have tb:Builtin.Int.intBits (mix (Zw a 0) k 30).2.2<=930:=OA B.1 (ZuV _ _);have v:Ar (mix (Zw a 0) k 30).2.2 (Builtin.Int.intBits (ZhK<|Zw a k):Int):=⟨by lia,by
     have:(2:Int)^27=134217728:=by decide
     have:(2:Nat)^20=1048576:=by decide
     lia⟩
    walk_at"s1";refine Zh (YE (Qp rfl)<|V3 (Qp rfl) (PL<|Qp rfl) v) ?_;show _=_;unfold VP;rw[Xc c];rfl
inductive R_yard:List OT->OT->Prop
 |mk {ns:Ql}(hs:ScrOk ns):R_yard [.scr ns] (.fz<|QL<|W0 ns)
def Wq:Qo ["_law_script","_law_head","_law_turns","_law_lines","_law_k","_law_number_here","_law_above","_law_bounds","_law_turn","_law_bound"] ZaW (Q5 Se):=by walk_at"p"
def ER(T:Bl mg)(ta:Df K mg "_law_yard" Se ZaW)(D:Qv P w K mg base "_law_cell_at" Zan 1 (Qy (K:=K) R_cell))(B:Qv P w K mg base "_law_number" Zan 2 (Qy (K:=K) R_number))
(C:Qv P w K mg base "_law_amount" ZaU 1 (Qy (K:=K) R_amount)):Qv P w K mg base "_law_yard" ZaW 3 (Qy (K:=K) R_yard):=by
 refine ta.ev Wq (λf Z r h H H2 R A outer s q=>?_);cases h with
 |@mk a g=>
  refine⟨_,(Qz (QM 1 Wq.nd<|QW BX (by rfl) T.abs Mb<|Qu (Q3 D q<|av 0<|Qu Qw Qq) Qq)
 (Qz (QM 2 Wq.nd<|QN Y5 Qw<|QN VO (pv 1) Qw)
 (Qz (QM 3 Wq.nd<|Vo Qq)
 (Qz (ZV zN rfl (V1 rfl T.range<|Qu (QN Y5 Qw<|QN VO (QN Yv (pv 1) Qw) Qw) Qq) (QK 4 Wq.nd) (Qz (QM 5 Wq.nd<|Q3 B q<|av 0<|Qu (QN Y5 Qw<|pv 4) Qq)
 (Qz (QM 6 Wq.nd Gf)
 (Qz (Zv (Z7 Yq (pv 4) Qw<|Zp _) (Qz (QM 6 Wq.nd<|QN VO (pv 5)<|pv 4)
 (Q0<|QM 5 Wq.nd<|QN Yv (pv 5)<|pv 4)) Zx)
 (Qz (QM 7 Wq.nd<|Vo Qq)
 (Qz (ZV zN rfl (V1 rfl T.range<|av 2 Qq) (QK 8 Wq.nd) (Qz (Jj (Q3 C q<|av 5 Qq)<|VM (n:=2) rfl (Zt (QK 9 Wq.nd)<|Zt (QK 5 Wq.nd) VU))
 (Q0<|Vs<|Wi zP zS zT WU (pv 7)<|av 9 Qq)))
 (Q0<|Vs<|Wi zP zS zT WU (pv 3)<|Qu (Z1<|av 6<|Qu (VB WS (by rfl) T.tuple Wn<|av 7 Qq) Qq) Qq)))))))
 (Q0<|QH<|Z1<|av 2<|Qu (VB WS (by rfl) T.tuple Wn<|av 3 Qq) Qq))))),?_⟩
  show QC K _ [_,_,_,_,_,_,_,_,_,_] _
  walk_at"x";obtain⟨e,b⟩:=C2 a;obtain⟨E,x⟩:=Cu a;have k:=GZ (Zw a 0);walk_at"ss";have O:1+ZhK (Zw a 0)%8=((ZbX a:Nat):Int):=by unfold ZbX;lia
  have t:1+ZhK (Zw a 0)/8%5=((Zej a:Nat):Int):=by unfold Zej;lia
  rw[O];refine Q9 (V6 (ds:=ZW 0 (Zej a)) (λi=>[some<|.scr a,zf<|.int<|ZhK<|Zw a 0,zi (ZbX a:Int),some<|.ol<|((List.range i).map (W1 a<|ZbX a)).map Zc,none,none,none,none,none,none]) ?ei ⟨rfl,rfl,rfl,rfl,trivial⟩ ?st ?fin)
  case ei=>walk_at"eir"
  case st=>
   intro i d v;obtain⟨o,rfl⟩:=YJ v;refine⟨_,by walk_at"g",?_⟩;walk_at"d";rw[X9];have N:=DW a (1+(i:Int));walk_at"ss";refine GP (λm=>∃(ab:Option Nat) (nm:Int),0<=nm/\W1 a (ZbX a) i=⟨ab,(bnd nm<|ZbX a).1⟩/\
    m=[some<|.scr a,zf<|.int<|ZhK<|Zw a 0,zi (ZbX a:Int),some<|.ol<|((List.range i).map (W1 a<|ZbX a)).map Zc,zi (i:Int),zi nm,zf<|upD ab,none,none,none]) ?h ?z
   case h=>
    walk_at"if"
    .
     intro c;have c:(0:Int)<(i:Int):=XH c;walk_at"ss";refine⟨some (VP a (1+(i:Int))%(i:Int)).toNat,VP a (1+(i:Int))/(i:Int),JS N<|by lia,?_,?_⟩
     .unfold W1;rw[Xc<|by lia]
     .have:(((VP a (1+(i:Int))%(i:Int)).toNat:Nat):Int)=VP a (1+(i:Int))%(i:Int):=XU (BA _<|by lia);simp only[upD,this]
    .
     intro c;have c:¬(0:Int)<(i:Int):=WA c;refine Z3 ⟨none,VP a<|1+(i:Int),N,?_,rfl⟩;unfold W1;rw[Xf<|by lia]
   case z=>
    rintro m ⟨ab,nm,p,y,rfl⟩;walk_at"ss";refine Q9 (V6 (ds:=ZW 0 (ZbX a)) (λj=>[some<|.scr a,zf<|.int<|ZhK<|Zw a 0,zi (ZbX a:Int),some<|.ol<|((List.range i).map (W1 a<|ZbX a)).map Zc,zi (i:Int),zi (bnd nm j).2,zf<|upD ab,some<|.ol<|(bnd nm j).1.map PyData.int,none,none]) ?ei2 ⟨rfl,rfl,rfl,rfl,rfl,rfl,rfl,rfl,trivial⟩ ?st2 ?fin2)
    case ei2=>walk_at"eir"
    case st2=>
     intro j d v;obtain⟨l,rfl⟩:=YJ v;obtain⟨Y,X,W⟩:=WJ p j;refine⟨_,by walk_at"g",?_⟩;walk_at"d";walk_at"ss";exact⟨rfl,rfl,rfl,rfl,rfl,rfl,rfl,by simp[bnd],trivial⟩
    case fin2=>
     intro m u;refine Yf u ?_;obtain⟨Y,X,W⟩:=WJ p (ZbX a);walk_at"ss";refine⟨rfl,rfl,rfl,?_,trivial⟩;rw[Wc,XB,XB,JM];simp only[Xz,UA,y];rfl
  case fin=>
   intro m u;refine Yf u ?_;walk_at"ret";rw[JM];rfl
inductive R_guests:List OT->OT->Prop
 |mk {ns:Ql}{y:Yd}(hs:ScrOk ns)(ok:y.Ok):R_guests [.scr ns,.fz<|QL y] (.ol<|(U1 ns y).map QB)
def Wa:Qo ["_law_script","_law_yard_here","_law_guests_here","_law_k","_law_number_here","_law_line","_law_first","_law_last","_law_want","_law_most"] Zaq (Q5 S8):=by walk_at"p"
def Zr2(T:Bl mg)(ta:Df K mg "_law_guests" S8 Zaq)(v:Qv P w K mg base "_law_cell_at" Zan 1 (Qy (K:=K) R_cell))(u:Qv P w K mg base "_law_number" Zan 2 (Qy (K:=K) R_number))
(p:Qv P w K mg base "_law_amount" ZaU 1 (Qy (K:=K) R_amount)):Qv P w K mg base "_law_guests" Zaq 3 (Qy (K:=K) R_guests):=by
 refine ta.ev Wa (λf c r h H H2 Y A outer s q=>?_);cases h with
 |@mk a y E m=>
  refine⟨_,(Qz (QM 2 Wa.nd<|Vo Qq)
 (Qz (ZV zN rfl (V1 rfl T.range<|Qu (QN VO (QN Yv (QW BX (by rfl) T.abs Mb<|Qu (Q3 v q<|av 0<|Qu Qw Qq) Qq) Qw) Qw) Qq) (QK 3 Wa.nd) (Qz (QM 4 Wa.nd<|Q3 u q<|av 0<|Qu (QN Y5 Qw<|pv 3) Qq)
 (Qz (QM 5 Wa.nd<|QN VO (pv 4)<|QW ZU (by rfl) T.len ZT<|Qu (Q8 QA (pv 1) Qw) Qq)
 (Qz (QM 4 Wa.nd<|QN Yv (pv 4)<|QW ZU (by rfl) T.len ZT<|Qu (Q8 QA (pv 1) Qw) Qq)
 (Qz (QM 6 Wa.nd<|QN VO (pv 4)<|Q8 QA (pv 1) Qw)
 (Qz (QM 4 Wa.nd<|QN Yv (pv 4)<|Q8 QA (pv 1) Qw)
 (Qz (QM 7 Wa.nd<|QN Y5 (pv 6)<|QN VO (pv 4)<|QN Wj (Q8 QA (pv 1) Qw)<|pv 6)
 (Qz (QM 4 Wa.nd<|QN Yv (pv 4)<|QN Wj (Q8 QA (pv 1) Qw)<|pv 6)
 (Qz (Jj (Q3 p q<|av 4 Qq)<|VM (n:=2) rfl (Zt (QK 8 Wa.nd)<|Zt (QK 4 Wa.nd) VU))
 (Qz (Jj (Q3 p q<|av 4 Qq)<|VM (n:=2) rfl (Zt (QK 9 Wa.nd)<|Zt (QK 4 Wa.nd) VU))
 (Q0<|Vs<|Wi zP zS zT WU (pv 2)<|Qu (Z1<|av 5<|av 6<|av 7<|Qu (QW (Tr rfl) (by rfl) T.max KZ<|Qu Qw<|av 8 Qq)<|Qu (QW (Tr rfl) (by rfl) T.max KZ<|Qu Qw<|av 9 Qq) Qq) Qq)))))))))))
 (Q0<|QH<|pv 2))),?_⟩
  show QC K _ [_,_,_,_,_,_,_,_,_,_] _
  walk_at"x";have z:=m.l1;have x:=m.l5;have j:=m.t1;have g:=m.t8;have F:=GZ (Zw a 0);have I:Bo a<=8:=by unfold Bo;lia
  have M:Bo a=(ZhK (Zw a 0)/40%9).toNat:=rfl;walk_at"ss";refine Q9 (V6 (ds:=ZW 0 (Bo a)) (λi=>[some<|.scr a,zf<|QL y,some<|.ol<|((List.range i).map (Jq a y)).map QB,none,none,none,none,none,none,none]) ?ei ⟨rfl,rfl,rfl,trivial⟩ ?st ?fin)
  case ei=>walk_at"eir"
  case st=>
   intro i d W;obtain⟨G,rfl⟩:=YJ W;refine⟨_,by walk_at"g",?_⟩;walk_at"d";rw[X9];obtain⟨X,L⟩:=MW m a i;obtain⟨S,Q⟩:=Py m a i;obtain⟨o,l,k,D⟩:=Ku m a i;obtain⟨a1,a2,b⟩:=Go D;obtain⟨b1,b2,U⟩:=Go b;have t:(0:Int)<(((y.ls.map Zc).length:Nat):Int):=by rw[Xi];lia
   have N:(((y.ls.map Zc).length:Nat):Int)<=5:=by rw[Xi];lia
   have e:(0:Int)<(y.T:Int):=by lia
   have J:(0:Int)<(y.T:Int)-gf a y i:=by lia
   walk_at"s1";walk_at"s1";walk_at"s1";rw[Xi];change QC K _ [_,_,_,_,zf<|.int<|gn1 a y i,zf<|.int<|gn0 a i%(y.ls.length:Int),_,_,_,_] _;walk_at"s1";walk_at"s1";change QC K _ [_,_,_,_,zf<|.int<|gn2 a y i,_,zf<|.int<|gf a y i,_,_,_] _;walk_at"s1";walk_at"s1";change QC K _ [_,_,_,_,zf<|.int<|gn3 a y i,_,_,zf<|.int<|gl a y i,_,_] _;walk_at"ss";refine⟨rfl,rfl,?_,trivial⟩;rw[Wc,XB,XB];simp only[Xz,UA];have Z:=BA (gn0 a i) (show(y.ls.length:Int)≠0 by lia);have O:QB (Jq a y i)=.tuple [.int<|gn0 a i%(y.ls.length:Int),.int<|gf a y i,.int<|gl a y i,.int<|J5 (Ye<|gn3 a y i).1,.int<|J5 (Ye (Ye<|gn3 a y i).2).1]:=by
    unfold QB Jq;dsimp only;rw[XU Z,XU X,XU<|by lia]
   have B:∀i:Int,max 1 i=J5 i:=λi=>by unfold J5;split<;>lia
   rw[O,<- B,<- B]
  case fin=>
   intro C R;refine Yf R ?_;walk_at"ret";rw[JM];rfl
def Vb(y:Yd)(k:Nat):Ln:=y.ls.getD k default
def upN(y:Yd)(k:Nat):Nat:=(QU y k).getD 0
def DX{y:Yd}(h:k<y.ls.length):QU y k=(Vb y k).up:=by simp[QU,Vb,h]
def Bp{y:Yd}(h:k<y.ls.length):Zl y k t=(Vb y k).bs.getD t 0:=by simp[Zl,Vb,h]
def Mv{y:Yd}(a:y.Ok)(h:k<y.ls.length):(Vb y k).bs.length=y.T:=a.bl _ (by simp[Vb,h])
inductive R_turns:List OT->OT->Prop
 |mk {y:Yd}:R_turns [.fz<|QL y] (.fz<|.int (y.T:Int))
def Znn:Qo ZaV ZaV (Q5 RB):=by walk_at"p"
def Ztl(T:Bl mg)(ta:Df K mg "turns_of" RB ZaV):Qv P w K mg base "turns_of" ZaV 1 (Qy (K:=K) R_turns):=by
 refine ta.ev Znn (λf i r h H H2 a A outer s m=>?_);cases h with
 |@mk y=>
  refine⟨_,(Q0<|QH<|Q8 QA (pv 0) Qw),?_⟩
  try dsimp only[Yt]
  walk_at"ret";rfl
inductive R_count:List OT->OT->Prop
 |mk {y:Yd}:R_count [.fz<|QL y] (.fz<|.int (y.ls.length:Int))
def ZkH:Qo ZaV ZaV (Q5 Sb):=by walk_at"p"
def OW(T:Bl mg)(ta:Df K mg "line_count" Sb ZaV):Qv P w K mg base "line_count" ZaV 1 (Qy (K:=K) R_count):=by
 refine ta.ev ZkH (λf i r h H H2 a A outer s m=>?_);cases h with
 |@mk y=>
  refine⟨_,(Q0<|QH<|QW ZU (by rfl) T.len ZT<|Qu (Q8 QA (pv 0) Qw) Qq),?_⟩
  try dsimp only[Yt]
  walk_at"ret";rw[Xi]
inductive R_above:List OT->OT->Prop
 |mk {y:Yd}{k:Int}(ok:y.Ok)(h0:0<k)(h1:k<(y.ls.length:Int)):R_above [.fz<|QL y,.fz<|.int k] (.fz<|.int (upN y k.toNat:Int))
 |zero {y:Yd}(ok:y.Ok):R_above [.fz<|QL y,.fz<|.int 0] (.fz .none)
def ZmL:Qo Zbd Zbd (Q5 R3):=by walk_at"p"
def ZtA(T:Bl mg)(ta:Df K mg "above_of" R3 Zbd):Qv P w K mg base "above_of" Zbd 1 (Qy (K:=K) R_above):=by
 refine ta.ev ZmL (λf q r h H H2 p A outer s v=>?_);cases h with
 |@mk y k i C B=>
  refine⟨_,(Q0<|QH<|Q8 QA (Q8 QA (Q8 QA (pv 0) Qw)<|pv 1) Qw),?_⟩
  try dsimp only[Yt]
  walk_at"ret";obtain⟨a,e,l⟩:=i.ups k.toNat (by lia) (by lia);have m:(Vb y k.toNat).up=some a:=by rw[<- DX (by lia)];exact e
  show OT.fz (upD (Vb y k.toNat).up)=_;rw[m];simp[upN,e,upD]
 |@zero y i=>
  refine⟨_,(Q0<|QH<|Q8 QA (Q8 QA (Q8 QA (pv 0) Qw)<|pv 1) Qw),?_⟩
  try dsimp only[Yt]
  have u:=i.l1;walk_at"ret";have m:(Vb y 0).up=none:=by rw[<- DX (by lia)];exact i.up0
  show OT.fz (upD (Vb y 0).up)=_;rw[m];rfl
inductive R_bound:List OT->OT->Prop
 |mk {y:Yd}{k t:Int}(ok:y.Ok)(h0:0<=k)(h1:k<(y.ls.length:Int))(h2:0<=t)(h3:t<(y.T:Int)):R_bound [.fz<|QL y,.fz<|.int k,.fz<|.int t] (.fz<|.int<|Zl y k.toNat t.toNat)
def Znl:Qo ZaC ZaC (Q5 RS):=by walk_at"p"
def ON(T:Bl mg)(ta:Df K mg "bound_at" RS ZaC):Qv P w K mg base "bound_at" ZaC 1 (Qy (K:=K) R_bound):=by
 refine ta.ev Znl (λf m r h H H2 i A outer s p=>?_);cases h with
 |@mk y k t a C B v u=>
  refine⟨_,(Q0<|QH<|Q8 QA (Q8 QA (Q8 QA (Q8 QA (pv 0) Qw)<|pv 1) Qw)<|pv 2),?_⟩
  try dsimp only[Yt]
  have q:(y.ls.getD k.toNat default).bs.length=y.T:=Mv a (by lia);walk_at"ret";show _=_;rw[Bp<|by lia];rfl
inductive R_lineof:List OT->OT->Prop
 |mk {g:Gs}:R_lineof [.fz<|QB g] (.fz<|.int (g.line:Int))
def Zpo:Qo Zay Zay (Q5 Rb):=by walk_at"p"
def Zr6(T:Bl mg)(ta:Df K mg "line_of" Rb Zay):Qv P w K mg base "line_of" Zay 1 (Qy (K:=K) R_lineof):=by
 refine ta.ev Zpo (λf i r h H H2 a A outer s m=>?_);cases h with
 |@mk g=>
  refine⟨_,(Q0<|QH<|Q8 QA (pv 0) Qw),?_⟩
  try dsimp only[Yt]
  walk_at"ret";rfl
inductive R_there:List OT->OT->Prop
 |mk {g:Gs}{t:Int}:R_there [.fz<|QB g,.fz<|.int t] (.fz<|.bool<|Yg g t)
def ZmC:Qo Zbb Zbb (Q5 RQ):=by walk_at"p"
def Zu9(T:Bl mg)(ta:Df K mg "is_there" RQ Zbb):Qv P w K mg base "is_there" Zbb 1 (Qy (K:=K) R_there):=by
 refine ta.ev ZmC (λf i r h H H2 a A outer s m=>?_);cases h with
 |@mk g t=>
  refine⟨_,(Q0<|QH<|LP J7 J7 (Q8 QA (pv 0) Qw) (pv 1)<|Q8 QA (pv 0) Qw),?_⟩
  try dsimp only[Yt]
  walk_at"ret";rfl
inductive R_most:List OT->OT->Prop
 |mk {g:Gs}:R_most [.fz<|QB g] (.fz<|.int g.most)
def Zqb:Qo Zay Zay (Q5 Rf):=by walk_at"p"
def Ia(T:Bl mg)(ta:Df K mg "most_of" Rf Zay):Qv P w K mg base "most_of" Zay 1 (Qy (K:=K) R_most):=by
 refine ta.ev Zqb (λf i r h H H2 a A outer s m=>?_);cases h with
 |@mk g=>
  refine⟨_,(Q0<|QH<|Q8 QA (pv 0) Qw),?_⟩
  try dsimp only[Yt]
  walk_at"ret";rfl
inductive R_want:List OT->OT->Prop
 |mk {g:Gs}:R_want [.fz<|QB g] (.fz<|.int g.want)
def Zpd:Qo Zay Zay (Q5 NW):=by walk_at"p"
def EK(T:Bl mg)(ta:Df K mg "want_of" NW Zay):Qv P w K mg base "want_of" Zay 1 (Qy (K:=K) R_want):=by
 refine ta.ev Zpd (λf i r h H H2 a A outer s m=>?_);cases h with
 |@mk g=>
  refine⟨_,(Q0<|QH<|Q8 QA (pv 0) Qw),?_⟩
  try dsimp only[Yt]
  walk_at"ret";rfl
structure SetOk(gs:List Gs)(some:Qk):Prop where
 mem:∀k∈some,k<gs.length
 len:some.length<=8
def W2(gs:List Gs)(t:Nat)(a:Qk):Qn:=λl=>Z0 gs (t:Int) l a
def GQ(y:Yd)(gs:List Gs)(a:Qk)(t:Nat):Ql:=(List.range y.ls.length).map λl=>VI y (λk=>Zl y k t) (W2 gs t a) l
inductive R_reaching:List OT->OT->Prop
 |mk {y:Yd}{gs:List Gs}{sm:Qk}{t:Int}(ok:y.Ok)(hg:∀g∈gs,g.Ok y)(hs:SetOk gs sm)(h0:0<=t)(h1:t<(y.T:Int)):
  R_reaching [.fz<|QL y,.fz<|.list<|gs.map QB,.fz<|.list<|QO sm,.fz<|.int t] (.ol<|(GQ y gs sm t.toNat).map PyData.int)
def DD{f g:Qn}(m:j<n)(e1:∀l,l<n->l≠j->g l=f l){v:Int}(p:g j=v):
 (((List.range n).map λl=>PyData.int<|f l).set j (.int v))=(List.range n).map λl=>PyData.int (g l):=by
 apply List.ext_getElem?;intro i;by_cases a:i=j
 .simp_all
 .rw[U7<|Ne.symm a]
  by_cases h:i<n
  .simp[h,e1 i h a]
  .simp[h]
def M9:Qo ZaD Zak (Q5 Hv):=by walk_at"p"
def ZmA(T:Bl mg)(ta:Df K mg "reaching_at" Hv Zak)(B:Qv P w K mg base "line_count" ZaV 1 (Qy (K:=K) R_count))(j:Qv P w K mg base "is_there" Zbb 1 (Qy (K:=K) R_there))
(o:Qv P w K mg base "line_of" Zay 1 (Qy (K:=K) R_lineof))(g:Qv P w K mg base "most_of" Zay 1 (Qy (K:=K) R_most))(e:Qv P w K mg base "above_of" Zbd 1 (Qy (K:=K) R_above))
(E:Qv P w K mg base "bound_at" ZaC 1 (Qy (K:=K) R_bound)):Qv P w K mg base "reaching_at" Zak 2 (Qy (K:=K) R_reaching):=by
 refine ta.ev M9 (λf ts r h H H2 cdv A outer s u=>?_);cases h with
 |@mk y q p t W M G Q h1=>
  refine⟨_,(Qz (JO (i:=4) M9.nd rfl rfl (NX:=ZaD) (sc:=Q5 Hv) (N:=["line"]) (f:=[none]) rfl (by decide +kernel) rfl rfl (V1 rfl T.range<|Qu (Q3 B u<|av 0 Qq) Qq) (λ_=>(QK 0 (show(["line"]:Qh).Nodup by decide +kernel))) (λ_=>Zm) (λ_=>ZC) (λ_=>Qw) rfl)
 (Qz (ZV zN rfl (ZN<|pv 2) (QK 5 M9.nd) (Qz (QM 6 M9.nd<|Q8 QA (pv 1)<|pv 5)
 (Q0<|Zv (V4<|Q3 j u<|av 6<|av 3 Qq) (Q0<|DA (pv 4) (Q3 o u<|av 6 Qq) DM (Q3 g u<|av 6 Qq) BW Bh) Zx)))
 (Qz (ZV zN rfl (FH rfl T.range<|Qu (QN Wj (Q3 B u<|av 0 Qq) Qw)<|Qu Qw<|Qu (PH Th Qw) Qq) (QK 7 M9.nd)<|Q0<|DA (pv 4) (Q3 e u<|av 0<|av 7 Qq) DM (QW (GR rfl) (by rfl) T.min Gb<|Qu (Q8 QA (pv 4)<|pv 7)<|Qu (Q3 E u<|av 0<|av 7<|av 3 Qq) Qq) BW Bh)
 (Q0<|QH<|pv 4)))),?_⟩
  show QC K _ [_,_,_,_,_,_,_,_] _
  walk_at"x";have l1:=W.l1;have l5:=W.l5;have n8:=G.len;refine Q9 (Vt (Dj (lo:=0) (n:=y.ls.length) (h:=λ_=>.int 0) ?ei (by lia) ?el) ?_)
  case ei=>walk_at"eir"
  case el=>
   intro x hx c;exact⟨_,by walk_at"g",by walk_at"ev"⟩
  walk_at"d";refine Q9 (V6 (λi=>[zf<|QL y,zf<|.list<|q.map QB,zf<|.list<|QO p,zi t,some<|.ol<|(List.range y.ls.length).map λl=>PyData.int<|Z0 q t l<|p.take i,none,none,none]) (by walk_at"ei") ⟨rfl,rfl,rfl,rfl,rfl,trivial⟩ ?st ?fin)
  case st=>
   intro i d D;have C:i<p.length:=by
    have:=(Xh.mp D).1;simpa [QO] using this
   obtain rfl:d=.int ((p[i]:Nat):Int):=by simpa [QO,C] using D.symm
   have v:p[i]<q.length:=G.mem _ (XL C);refine⟨_,by walk_at"g",?_⟩;walk_at"d";walk_at"s1";have S:q.getD ((p[i]:Nat):Int).toNat default=q[p[i]]:=by simp[v]
   rw[S];have Z:=M q[p[i]] (XL v);have gl:=Z.ln;have R:p.take (i+1)=p.take i++[p[i]]:=by rw[Y9];simp[C]
   refine Zz (by walk_at"et") (λc=>?_) (λc=>?_)
   .refine TY (m:=Z0 q t q[p[i]].line (p.take i)) rfl (by walk_at"ev") (by lia) ?_ (by walk_at"ev") ?_
    .simp[gl]
    .walk_at"d";refine⟨rfl,rfl,rfl,rfl,?_,trivial⟩;rw[XF];congr 2;refine DD gl (λl J X=>?_) ?_
     .rw[R,Gu];simp[Z0,v,Ne.symm X]
     .rw[R,Gu];simp[Z0,v,c]
   .refine Z3 ⟨rfl,rfl,rfl,rfl,?_,trivial⟩;refine XS (λz=>some<|OT.ol z) (X6 λl _=>?_);rw[R,Gu];simp[Z0,v,c]
  case fin=>
   intro O Y;refine Yf Y ?_;have el:(QO p).length=p.length:=by simp[QO]
   rw[el,XX];refine Q9 (V6 (λi=>[zf<|QL y,zf<|.list<|q.map QB,zf<|.list<|QO p,zi t,some<|.ol<|(List.range y.ls.length).map λl=>PyData.int<|ZK y (λk=>Zl y k t.toNat) (λl=>Z0 q t l p) i l,none,none,none]) (by walk_at"ei") ⟨rfl,rfl,rfl,rfl,rfl,trivial⟩ ?st2 ?fin2)
   case st2=>
    intro i d D;obtain⟨C,rfl⟩:=NJ D;have L:i<y.ls.length-1:=by lia
    refine⟨_,by walk_at"g",?_⟩;walk_at"d";have I:((y.ls.length:Int)-1-(i:Int)).toNat=y.ls.length-1-i:=by lia
    obtain⟨a,b,la⟩:=W.ups (y.ls.length-1-i) (by lia) (by lia);have F:upN y ((y.ls.length:Int)-1-(i:Int)).toNat=a:=by rw[I];simp[upN,b]
    refine TY (m:=ZK y (λk=>Zl y k t.toNat) (λl=>Z0 q t l p) i a) rfl (by walk_at"ev") (by lia) ?_ (by walk_at"ev") ?_
    .rw[F,XF];have:a<y.ls.length:=by lia
     simp[this]
    .walk_at"d";refine⟨rfl,rfl,rfl,rfl,?_,trivial⟩;rw[F,XF];refine XS (λz=>some<|OT.ol z) (DD (by lia) (λl J X=>?_) ?_)
     .simp only[ZK,YU];rw[b,Xc<|by simpa using λz=>X z.symm];lia
     .simp only[ZK,YU];rw[b,Xf rfl,I]
   case fin2=>
    intro O Y;refine Yf Y ?_;walk_at"ret";show _=_;have U:(J6 ((y.ls.length:Int)-1) ((y.ls.length:Int)-1-0).toNat).length=y.ls.length-1:=by rw[N7];lia
    rw[U];unfold GQ VI W2;rw[XU Q,Xm];rfl
def Zpe(y:Yd)(gs:List Gs)(a:Qk)(t:Nat):(GQ y gs a t).length=y.ls.length:=by simp[GQ]
def Zrn{y:Yd}(h:l<y.ls.length):(GQ y gs sm t).getD l 0=VI y (λk=>Zl y k t) (W2 gs t sm) l:=by simp[GQ,List.getD,h]
def ZA(y:Yd)(gs:List Gs)(a:Qk)(t:Nat):Int:=passes y (λk=>Zl y k t) (W2 gs t a) 0
def ZO(y:Yd)(gs:List Gs)(a:Qk):Int:=((List.range y.T).map λt=>ZA y gs a t).sum
def Ot(y:Yd)(gs:List Gs)(t:Nat):W2 gs t []=λ_=>0:=rfl
theorem Cn{y:Yd}(f:y.Ok)(t:Nat):∀i l,ZK y (λk=>Zl y k t) (λ_=>0) i l=0
 |0,l=>rfl
 |i+1,l=>by
  have b0:∀k,0<=Zl y k t:=λk=>by
   unfold Zl;cases e:y.ls[k]? with
   |none=>simp
   |some a=>
    have:=f.bb a (List.mem_of_getElem? e);simp only[XZ,UC];by_cases h:t<a.bs.length
    .have m:=this (a.bs[t]) (XL h);simp only[List.getD,XI h,UC];exact m.1
    .simp[List.getD,h]
  simp only[ZK,YU,Cn f t i];have:=b0 (y.ls.length-1-i);split<;>lia
def Tn{y:Yd}(f:y.Ok)(k t:Nat):0<=Zl y k t:=by
 unfold Zl;cases e:y.ls[k]? with
 |none=>simp
 |some a=>
  have:=f.bb a (List.mem_of_getElem? e);simp only[XZ,UC];by_cases h:t<a.bs.length
  .simp_all
  .simp[ h]
def CU{y:Yd}(a:y.Ok)(gs:List Gs):ZO y gs []=0:=by
 have f:∀t,ZA y gs [] t=0:=λt=>by
  unfold ZA passes VI;rw[Ot y,Cn a];have:=Tn a 0 t;dsimp only;lia
 unfold ZO;rw[Vk,Zk (g:=λ_=>0) λt _=>f t,VS]
inductive R_given:List OT->OT->Prop
 |mk {y:Yd}{gs:List Gs}{sm:Qk}{t:Int}(ok:y.Ok)(hg:∀g∈gs,g.Ok y)(hs:SetOk gs sm)(h0:0<=t)(h1:t<(y.T:Int)):
  R_given [.fz<|QL y,.fz<|.list<|gs.map QB,.fz<|.list<|QO sm,.fz<|.int t] (.fz<|.int<|ZA y gs sm t.toNat)
def ZmE:Qo Zak Zak (Q5 Ru):=by walk_at"p"
def ZtN(T:Bl mg)(ta:Df K mg "given_at" Ru Zak)(a:Qv P w K mg base "reaching_at" Zak 2 (Qy (K:=K) R_reaching))(i:Qv P w K mg base "bound_at" ZaC 1 (Qy (K:=K) R_bound)):
 Qv P w K mg base "given_at" Zak 3 (Qy (K:=K) R_given):=by
 refine ta.ev ZmE (λf B r h H H2 v A outer s m=>?_);cases h with
 |@mk y u p t q O N W R=>
  refine⟨_,(Q0<|QH<|QW (GR rfl) (by rfl) T.min Gb<|Qu (Q8 QA (Q3 a m<|av 0<|av 1<|av 2<|av 3 Qq) Qw)<|Qu (Q3 i m<|av 0<|Qu Qw<|av 3 Qq) Qq),?_⟩
  try dsimp only[Yt]
  have D:=q.l1;have C:=Zpe y u p t.toNat
  walk_at"ret";show _=_;rw[ Zrn (by lia)];rfl
inductive R_givenm:List OT->OT->Prop
 |mk {y:Yd}{gs:List Gs}{sm:Qk}(ok:y.Ok)(hg:∀g∈gs,g.Ok y)(hs:SetOk gs sm):
  R_givenm [.fz<|QL y,.fz<|.list<|gs.map QB,.fz<|.list<|QO sm] (.fz<|.int<|ZO y gs sm)
def Zk0:Qo Zah Zah (Q5 Hn):=by walk_at"p"
def Zsh(T:Bl mg)(ta:Df K mg "given_most" Hn Zah)(a:Qv P w K mg base "turns_of" ZaV 1 (Qy (K:=K) R_turns))(i:Qv P w K mg base "given_at" Zak 3 (Qy (K:=K) R_given)):
 Qv P w K mg base "given_most" Zah 4 (Qy (K:=K) R_givenm):=by
 refine ta.ev Zk0 (λf B r h H H2 v A outer s p=>?_);cases h with
 |@mk y R D m u q=>
  refine⟨_,(Q0<|QH<|QW YX (by rfl) T.sum YY<|Qu (ZD (NX:=Zah) (sc:=Q5 Hn) (N:=["turn","yard","guests","some"]) (f:=[none,some 0,some 1,some 2]) rfl (by decide +kernel) rfl rfl (V1 rfl T.range<|Qu (Q3 a p<|av 0 Qq) Qq) (λ_=>(QK 0 (show(["turn","yard","guests","some"]:Qh).Nodup by decide +kernel))) (λ_=>Zm) (λ_=>ZC) λ_=>(Q3 i p<|av 1<|av 2<|av 3<|av 0 Qq)) Qq),?_⟩;show QC K _ [_,_,_] _
  walk_at"x";have C:=m.t8;refine Zh (YV ?_ rfl) rfl;refine EvO.fz ?_;rw[Xm];refine Dj (lo:=0) (n:=y.T) ?_ (by lia) ?_
  .walk_at"eir"
  .intro x O c;refine⟨_,by walk_at"g",?_⟩;rw[X9];have h:=R_given.mk (t:=(x:Int)) m u q (by lia) (by lia);exact QJ (by walk_at"ea") h
def Jr(l:Ln)(k:Int):Ln:=⟨l.up,l.bs.map λb=>b*k⟩
def Zi(y:Yd)(k:Int):Yd:=⟨y.T,y.ls.map λl=>Jr l k⟩
def Vm(g:Gs)(k:Int):Gs:=⟨g.line,g.first,g.last,g.want*k,g.most*k⟩
def RO{y:Yd}(a:y.Ok)(h0:0<=k)(r:∀l∈y.ls,∀b∈l.bs,b*k<10^300):(Zi y k).Ok:=by
 have q:∀j,QU (Zi y k) j=QU y j:=λj=>by
  simp only[QU,Zi,Xp];cases y.ls[j]?<;>rfl
 refine⟨a.t1,a.t8,by simpa [Zi] using a.l1,by simpa [Zi] using a.l5,by rw[q];exact a.up0,λj f p=>?_,λl h=>?_,λl h b i=>?_⟩
 .rw[q];exact a.ups j f (by simpa [Zi] using p)
 .simp only[Zi,Xk]at h;obtain⟨m,f,rfl⟩:=h;simpa [Jr,Zi] using a.bl m f
 .simp only[Zi,Xk]at h;obtain⟨m,f,rfl⟩:=h;simp only[Jr,Xk]at i;obtain⟨b0,p,rfl⟩:=i;exact⟨WW (a.bb m f b0 p).1 h0,r m f b0 p⟩
inductive R_lntimes:List OT->OT->Prop
 |mk {l:Ln}{k:Int}(hb:∀b∈l.bs,IntMulOk b k)(hl:l.bs.length<=8):R_lntimes [.fz<|Zc l,.fz<|.int k] (.fz<|Zc<|Jr l k)
def Zkx:Qo Zbe Zbe (Q5 HD):=by walk_at"p"
def Zqg(T:Bl mg)(ta:Df K mg "line_times" HD Zbe):Qv P w K mg base "line_times" Zbe 1 (Qy (K:=K) R_lntimes):=by
 refine ta.ev Zkx (λf p r h H H2 m A outer s q=>?_);cases h with
 |@mk l k i v=>
  refine⟨_,(Q0<|QH<|Z1<|Qu (Q8 QA (pv 0) Qw)<|Qu (VB WS (by rfl) T.tuple Wn<|Qu (ZD (NX:=Zbe) (sc:=Q5 HD) (N:=["bound","k"]) (f:=[none,some 1]) rfl (by decide +kernel) rfl rfl (WI<|Q8 QA (pv 0) Qw) (λ_=>(QK 0 (show(["bound","k"]:Qh).Nodup by decide +kernel))) (λ_=>Zm) (λ_=>ZC) λ_=>(QN Jp (pv 0)<|pv 1)) Qq) Qq),?_⟩;show QC K _ [_,_] _
  walk_at"x";refine Zh (Vd (Za (by walk_at"ev")<|Za (Uo<|EvO.fz<|ZI (xs:=l.bs) (enc:=PyData.int) (h:=λb=>.int<|b*k) ?ei (by lia) ?el) Z2)<|G0 rfl) ?_
  case ei=>walk_at"ei"
  case el=>
   intro x a c;have u:=i x a;refine⟨_,by walk_at"g",?_⟩;walk_at"e";walk_at"ev"
  show _=_;unfold Zc Jr;rw[Xm];rfl
inductive R_ydtimes:List OT->OT->Prop
 |mk {y:Yd}{k:Int}(hb:∀l∈y.ls,∀b∈l.bs,IntMulOk b k)(hl:∀l∈y.ls,l.bs.length<=8)(h5:y.ls.length<=5):R_ydtimes [.fz<|QL y,.fz<|.int k] (.fz<|QL<|Zi y k)
def ZjT:Qo Zbq Zbq (Q5 HB):=by walk_at"p"
def Zph(T:Bl mg)(ta:Df K mg "yard_times" HB Zbq)(a:Qv P w K mg base "line_times" Zbe 1 (Qy (K:=K) R_lntimes)):Qv P w K mg base "yard_times" Zbq 2 (Qy (K:=K) R_ydtimes):=by
 refine ta.ev ZjT (λf v r h H H2 u A outer s m=>?_);cases h with
 |@mk y k q p D=>
  refine⟨_,(Q0<|QH<|Z1<|Qu (Q8 QA (pv 0) Qw)<|Qu (VB WS (by rfl) T.tuple Wn<|Qu (ZD (NX:=Zbq) (sc:=Q5 HB) (N:=Zbe) (f:=[none,some 1]) rfl (by decide +kernel) rfl rfl (WI<|Q8 QA (pv 0) Qw) (λ_=>(QK 0 (show(Zbe:Qh).Nodup by decide +kernel))) (λ_=>Zm) (λ_=>ZC) λ_=>(Q3 a m<|av 0<|av 1 Qq)) Qq) Qq),?_⟩;show QC K _ [_,_] _
  walk_at"x";refine Zh (Vd (Za (by walk_at"ev")<|Za (Uo<|EvO.fz<|ZI (xs:=y.ls) (enc:=Zc) (h:=λl=>Zc<|Jr l k) ?ei (by lia) ?el) Z2)<|G0 rfl) ?_
  case ei=>walk_at"ei"
  case el=>
   intro x i c;have C:=q x i;have B:=p x i;refine⟨_,by walk_at"g",?_⟩;walk_at"e";walk_at"ev"
  show _=_;unfold QL Zi;rw[Xm];rfl
inductive R_gstimes:List OT->OT->Prop
 |mk {g:Gs}{k:Int}(hw:IntMulOk g.want k)(hm:IntMulOk g.most k):R_gstimes [.fz<|QB g,.fz<|.int k] (.fz<|QB<|Vm g k)
def Zjl:Qo Zbh Zbh (Q5 Su):=by walk_at"p"
def ZpV(T:Bl mg)(ta:Df K mg "guest_times" Su Zbh):Qv P w K mg base "guest_times" Zbh 1 (Qy (K:=K) R_gstimes):=by
 refine ta.ev Zjl (λf i r h H H2 a A outer s p=>?_);cases h with
 |@mk g k m q=>
  refine⟨_,(Q0<|QH<|Z1<|Qu (Q8 QA (pv 0) Qw)<|Qu (Q8 QA (pv 0) Qw)<|Qu (Q8 QA (pv 0) Qw)<|Qu (QN Jp (Q8 QA (pv 0) Qw)<|pv 1)<|Qu (QN Jp (Q8 QA (pv 0) Qw)<|pv 1) Qq),?_⟩;show QC K _ [_,_] _
  walk_at"x";walk_at"ret";rfl
inductive R_gsstimes:List OT->OT->Prop
 |mk {gs:List Gs}{k:Int}(hw:∀g∈gs,IntMulOk g.want k/\IntMulOk g.most k)(h8:gs.length<=8):R_gsstimes [.fz<|.list<|gs.map QB,.fz<|.int k] (.ol<|(gs.map λg=>Vm g k).map QB)
def Zir:Qo Zbj Zbj (Q5 HK):=by walk_at"p"
def ZmX(T:Bl mg)(ta:Df K mg "guests_times" HK Zbj)(a:Qv P w K mg base "guest_times" Zbh 1 (Qy (K:=K) R_gstimes)):Qv P w K mg base "guests_times" Zbj 2 (Qy (K:=K) R_gsstimes):=by
 refine ta.ev Zir (λf v r h H H2 u A outer s p=>?_);cases h with
 |@mk q k m y=>
  refine⟨_,(Q0<|QH<|ZD (NX:=Zbj) (sc:=Q5 HK) (N:=Zbh) (f:=[none,some 1]) rfl (by decide +kernel) rfl rfl (ZN<|pv 0) (λ_=>(QK 0 (show(Zbh:Qh).Nodup by decide +kernel))) (λ_=>Zm) (λ_=>ZC) λ_=>(Q3 a p<|av 0<|av 1 Qq)),?_⟩;show QC K _ [_,_] _
  walk_at"x";refine Wm (ZI (xs:=q) (enc:=QB) (h:=λg=>QB<|Vm g k) ?ei (by lia) ?el) ?_
  case ei=>walk_at"ei"
  case el=>
   intro x i c;have C:=(m x i).1;have B:=(m x i).2;refine⟨_,by walk_at"g",?_⟩;walk_at"e";walk_at"ev"
  show _=_;rw[Xm];rfl
def DG:NoF "lay" := λ_ _ _ _=>rfl
def LS:NoF "lay_one" := λ_ _ _ _=>rfl
def OO:NoF "flow" := λ_ _ _ _=>rfl
def CA:NoF "reached" := λ_ _ _ _=>rfl
def OZ:NoF "push" := λ_ _ _ _=>rfl
def ZtV:NoF "fill" := λ_ _ _ _=>rfl
def Ox:NoF "way_to" := λ_ _ _ _=>rfl
def Zik:Qo ["self"] ["self"] (Q5 Bs):=by walk_at"p"
def AD  (T:Bl mg)(U:Tx K mg C gS gE)(F:Fun K "__init__" "Net.__init__" Bs f fd):FnOk P w K mg base CX0 1 f fd ["self"] (spI P w C):=by
 refine F.ok Zik (by rintro g H Q H2 ⟨x,dx,e,_⟩;rw[e];rfl) ?_;rintro g H Q H2 ⟨x,dx,e,R,q⟩ k A outer s E;subst e;refine⟨_,(Qz (Dw (pv 0) (Vo Qq) rfl)
 (Qz (Dw (pv 0) (Vo Qq) rfl)
 (Qz (Dw (pv 0) ZtZ rfl)
 (Q0<|Dw (pv 0) ZuN rfl)))),?_⟩
 refine⟨X3 _,λe W=>⟨_,rfl,x,C,dx,[],rfl,?_,U.net.cl,U.net.ends,by decide,?_⟩⟩
 .rw[Q6<|Vq R W];exact R
 have v:=Vq R W;refine⟨X3 _,λr h=>⟨_,rfl,x,C,dx,[("ends",.ref e)],rfl,?_,U.net.cl,U.net.rooms,(by show(1)<1000;decide),?_⟩⟩
 .have m:=Vq QT h;rw[Q6 m,QT];rfl
 have m:=Vq QT h;have B:=by rw[Q6<|Ne.symm m]at h;exact h
 have X:=Vq QT B;have j:=by rw[Q6<|Ne.symm X]at B;exact B
 refine λl i=>⟨_,rfl,x,C,dx,[("ends",.ref e),("rooms",.ref r)],rfl,?_,U.net.cl,U.net.leav,(by show(2)<1000;decide),?_⟩
 .have p:=Vq QT i;rw[Q6 p,QT];rfl
 have p:=Vq QT i;rw[Q6<|Ne.symm p]at i;have D:=Vq QT i;rw[Q6<|Ne.symm D,Q6<|Ne.symm p]at i;have Y:=Vq QT i;rw[Q6<|Ne.symm Y]at i;refine λd a=>⟨_,rfl,x,C,dx,[("ends",.ref e),("rooms",.ref r),("leaving",.ref l)],rfl,?_,U.net.cl,U.net.laid,(by show(3)<1000;decide),?_⟩
 .have u:=Vq QT a;rw[Q6 u,QT];rfl
 have u:=Vq QT a;rw[Q6<|Ne.symm u]at a;have O:=Vq QT a;rw[Q6<|Ne.symm O,Q6<|Ne.symm u]at a;have N:=Vq QT a;rw[Q6<|Ne.symm N,Q6<|Ne.symm u]at a;have Z:=Vq QT a;rw[Q6<|Ne.symm Z]at a;refine q e r l d _ W j i a ?_ ?_ ?_ ?_ ?_ ?_ (λb c=>?_)
 .simp only[XY,Xe,XT,or_false,not_or,not_false_eq_true,G2,and_true];exact⟨⟨v,m,p,u⟩,⟨X,Y,Z⟩,⟨D,N⟩,O⟩
 .rw[QT];rfl
 .rw[Q6<|Ne.symm v,Q6 Z,Q6<|Ne.symm v,Q6 Y,Q6<|Ne.symm v,Q6 X,Q6<|Ne.symm v,QT]
 .rw[Q6<|Ne.symm m,Q6 N,Q6<|Ne.symm m,Q6 D,Q6<|Ne.symm m,QT]
 .rw[Q6<|Ne.symm p,Q6 O,Q6<|Ne.symm p,QT]
 .rw[Q6<|Ne.symm u,QT];rfl
 .simp only[Xe,XT,or_false,not_or]at c;obtain⟨y,z,t,o,n⟩:=c;rw[Q6 y,Q6 n,Q6 y,Q6 o,Q6 y,Q6 t,Q6 y,Q6 z]
inductive R_lay1:NetS->List OT->(NetS->Prop)->Prop
 |mk {N:NetS}{s e:List Key}{r:Int}(h1:N.ends.length<900)(h2:N.rooms.length<900)(h3:N.leav.length<900)(h4:∀k ns,QZ N.leav k=some ns->ns.length<900):R_lay1 N [.fz<|Zj s,.fz<|Zj e,.fz<|.int r] (λN'=>N'=G6 N s e r)
def Zju:Qo Zaj Zaj (Q5 Ss):=by walk_at"p"
def Ic(T:Bl mg)(U:Tx K mg C gS gE)(ta:Mf K C "lay_one" "Net.lay_one" Ss Zaj):VF P w K mg base C "lay_one" Zaj 1 (spN K P w C R_lay1):=by
 refine ta.evN Zju (λf v H' B y h H H2 u A outer s p=>?_);cases h with
 |@mk i e r W R O q=>
  refine⟨_,(Qz (Vs<|Wi zP zS zT WU (ZtO (WE p) (Yc<|pv 0) (pv 1) (Vo Qq) ⟨rfl,rfl,rfl,rfl⟩)<|Qu (QW ZU (by rfl) T.len ZT<|Qu (Yc<|pv 0) Qq) Qq)
 (Qz (Vs<|Wi zP zS zT WU (Yc<|pv 0)<|av 2 Qq)
 (Q0<|Vs<|Wi zP zS zT WU (Yc<|pv 0)<|av 3 Qq))),?_⟩
  refine Q9 (ZpD U.net rfl Qp (by lia) (λD a=>?_) (FW (N:={ H' with leav:=Y1 H'.leav i }) U.net rfl) ?_)
  .rw[NL,Xf rfl]at a;cases a;cases z:QZ H'.leav i with
   |none=>decide
   |some m=>have:=q i m z;show m.length<1000;lia
  refine Q9 (ZpX U.net rfl Qp (show H'.ends.length<1000 by lia) ?_);refine Zpp U.net rfl Qp (show H'.rooms.length<1000 by lia) ?_;exact⟨_,rfl,rfl⟩
abbrev Jf:Zn Nd:=λ_ _=>0
inductive R_lay:NetS->List OT->(NetS->Prop)->Prop
 |mk {N:NetS}{H1:Lay Nd}{s e:Nd}{r:Int}(h:NetR N H1 Jf)(new:(s,e)∉H1.map (λx=>(x.1,x.2.1)))(l:H1.length<400):R_lay N [.fz<|Zj<|nk s,.fz<|Zj<|nk e,.fz<|.int r] (λN'=>NetR N' (H1++[(s,e,r)]) Jf)
def Zpb:Qo Zaj Zaj (Q5 Ri):=by walk_at"p"
def Ej(T:Bl mg)(U:Tx K mg C gS gE)(ta:Mf K C "lay" "Net.lay" Ri Zaj)(p:VF P w K mg base C "lay_one" Zaj 1 (spN K P w C R_lay1)):VF P w K mg base C "lay" Zaj 2 (spN K P w C R_lay):=by
 refine ta.evN Zpb (λf v H' R c h H H2 Z A outer s N=>?_);cases h with
 |@mk u a e r h B l=>
  refine⟨_,(Qz (Iu (KP N) (Yc<|pv 0) (Z1<|av 1<|av 2 Qq) (QW ZU (by rfl) T.len ZT<|Qu (Yc<|pv 0) Qq) rfl)
 (Qz (Vs<|Wo p U.net N (pv 0)<|av 1<|av 2<|av 3 Qq)
 (Q0<|Vs<|Wo p U.net N (pv 0)<|av 2<|av 1<|Qu Qw Qq))),?_⟩
  try dsimp only[Yt]
  have Y:=h.elen;have X:H'.rooms.length=2*u.length:=by rw[h.rooms,Rs]
  have g:=h.l1;have d:=h.l2;have D:=h.l3;refine Q9 (Zr7 U.net rfl (FW U.net rfl) (Vd (Za Qp<|Za Qp Z2)<|by show(2)<=1000;decide) (by lia) ?_);refine Q9 (U2 LS rfl (JD (Qs Qp<|Qs Qp<|Qs Qp Q2) rfl) λR i=>?_);subst i;refine⟨_,R_lay1.mk (show H'.ends.length<900 by lia) (show H'.rooms.length<900 by lia) (show H'.leav.length<900 by lia) (λk y m=>by have:=D k y m;lia),λb O=>?_⟩;subst O;walk_at"d";refine U2 LS rfl (JD (Qs Qp<|Qs Qp<|Qs QG Q2) rfl) (λR i=>?_);subst i;refine⟨_,R_lay1.mk ?a1 ?a2 ?a3 ?a4,λb O=>?_⟩
  case a1=>show(H'.ends++[nk e]).length<900;rw[Xy,Y];show 2*u.length+1<900;lia
  case a2=>show(H'.rooms++[r]).length<900;rw[Xy,X];show 2*u.length+1<900;lia
  case a3=>
   show(Yo (Y1 H'.leav<|nk a) (nk a) _).length<900
   rw[DI];have:=Nt H'.leav (nk a);lia
  case a4=>
   intro k y m;rw[Bm]at m;by_cases z:k=nk a
   .rw[Xf z]at m;cases m;have:((QZ H'.leav<|nk a).getD []).length<=2*u.length:=by
     cases q:QZ H'.leav (nk a) with
     |none=>exact X3 _
     |some W=>exact D _ W q
    show((QZ H'.leav<|nk a).getD []++[_]).length<900
    rw[Xy];show _+1<900
    lia
   .rw[Xc z]at m;have:=D k y m;lia
  subst O;exact⟨_,ZtJ h rfl B,rfl⟩
def Mg(a:Lay Nd)(φ:Zn Nd)(p q:Nd):Int:=if (p,q)∈a.map (λx=>(x.1,x.2.1)) then φ p q else 0
inductive R_flow(P:Program)(w:World)(C:Addr):List OT->(OT->Prop)->Prop
 |mk {N:NetS}{H1:Lay Nd}{φ:Zn Nd}{p q:Nd}(h:NetR N H1 φ):R_flow P w C [.zow<|Vr P w C N,.fz<|Zj<|nk p,.fz<|Zj<|nk q] (λr=>r=.fz (.int<|Mg H1 φ p q))
def Zn9:Qo Zat Zat (Q5 R1):=by walk_at"p"
def OC(T:Bl mg)(U:Tx K mg C gS gE)(ta:Mf K C "flow" "Net.flow" R1 Zat):VF P w K mg base C "flow" Zat 1 (Z6 K<|R_flow P w C):=by
 refine ta.evD Zn9 (λf j g h H H2 e A outer s R=>?_);cases h with
 |@mk N k O p q h=>
  refine⟨_,(Qz (Zv (Jg<|ZqN (KP R) (Z1<|av 1<|av 2 Qq)<|Yc<|pv 0) (Q0<|QH Qw) Zx)
 (Q0<|QH<|Q8 QA (Yc<|pv 0)<|QN K9 (Ip (KP R) (Yc<|pv 0) (Z1<|av 1<|av 2 Qq) λ_ _=>rfl) Qw)),?_⟩
  try dsimp only[Yt]
  have m:∀{Y:ZcP},Y[1]?=some (zf<|Zj<|nk p)->Y[2]?=some (zf<|Zj<|nk q)->Qr K (GB<|QX (QY 1)<|QX (QY 2) Zo) Y (.tuple [Zj<|nk p,Zj<|nk q]):=λy v=>Vd (Za (Qp y)<|Za (Qp v) Z2) (by show(2)<=1000;decide);refine Q9 (Zz (ZL<|Zru U.net (m rfl rfl) rfl) (λc=>Zh QG ?_) λc=>Z3 ?_)
  .have c:Vl N.laid (nk p,nk q)=none:=by
    cases z:Vl N.laid (nk p,nk q) with
    |none=>rfl
    |some n=>rw[z]at c;cases c
   show OT.fz (.int 0)=_;unfold Mg;rw[Xc λr=>?_];obtain⟨x,B,X⟩:=Xk.mp r;obtain⟨i,u⟩:=List.mem_iff_getElem?.mp B
   have:=h.laid i x u
   grind
  .have r:=by
    apply Classical.byContradiction;intro Z;rw[h.laid0 p q Z]at c;cases c
   obtain⟨x,B,X⟩:=Xk.mp r;obtain⟨i,u⟩:=List.mem_iff_getElem?.mp B;have W:=h.laid i x u;injection X with y v;rw[y,v]at W;have D:N.rooms[2*i+1]?=some (O p q):=by
    rw[h.rooms,Bg];unfold rmE;have a:(2*i+1)/2=i:=by lia
    have b:¬(2*i+1)%2=0:=by lia
    rw[a,u];simp only[XZ,Xc b,y,v]
   have d:atI (N.rooms.map PyData.int) (Builtin.bitXor ((2*i:Nat)) 1)=some (.int<|O p q):=by
    rw[RH];have a:ZhV (2*i)=2*i+1:=by unfold ZhV;rw[Xf<|by lia]
    rw[a];exact V5 (by rw[Xp,D];rfl)
   refine Zh (Nz U.net rfl (YE (ZuW U.net rfl (m rfl rfl) W) QG) d) ?_;unfold Mg;rw[Xf r]
def Ll(h:Qr K D Y (.list ds)):Zf K (λO H Q=>D O H λx M=>∃k,Pa K x M k/\Q k M) Y (!ds.isEmpty):=λR F O H Q S q=>h R F O H _ S λr L v f i=>by
 obtain⟨a,xs,rfl,p,m,_⟩:=W7 (K:=K) i f.fh;refine⟨_,.inl ⟨xs,p,rfl⟩,?_⟩;have e:xs.isEmpty=ds.isEmpty:=by
  have:=m.length;cases xs<;>cases ds<;>simp at this ⊢
 rw[e];exact q r L f
def UJ(n:Nd):PyData:=Zj (nk n)
inductive R_reached(P:Program)(w:World)(C:Addr):List OT->(OT->Prop)->Prop
 |mk {N:NetS}{H1:Lay Nd}{φ:Zn Nd}{s:Nd}(h:NetR N H1 φ)(l:H1.length<400):R_reached P w C [.zow<|Vr P w C N,.fz<|Zj<|nk s] (λr=>∃v es,r=.own v (VW<|kvG es)/\Tree H1 φ s es/\YF H1 φ es)
structure ReachI(H1:Lay Nd)(φ:Zn Nd)(s:Nd)(es0 es:Got Nd)(U fu:List Nd):Prop where
 tree:Tree H1 φ s es
 fin:∀n∈fu,n∈Ze es
 sub:∀n∈Ze es0,n∈Ze es
 done:UI H1 φ es (U++fu)
 len:es.length=es0.length+fu.length
def Gx:Qo ["self","start","edges","latest","further","node","edge"] Zbk (Q5 S5):=by walk_at"p"
def ZpW(T:Bl mg)(U:Tx K mg C gS gE)(ta:Mf K C "reached" "Net.reached" S5 Zbk):VF P w K mg base C "reached" Zbk 1 (Z6 K<|R_reached P w C):=by
 refine ta.evD Gx (λf ts Φ h H H2 cdv A outer s hr=>?_);cases h with
 |@mk N D F g h l=>
  refine⟨_,(Qz (QM 2 Gx.nd<|Ztq (WE hr) (pv 1) Gf)
 (Qz (QM 3 Gx.nd<|Vo<|av 1 Qq)
 (Qz (JL zN (L6 (pv 3) λ_=>rfl) (Qz (QM 4 Gx.nd<|Vo Qq)
 (Qz (ZV zN rfl (ZN<|pv 3) (QK 5 Gx.nd) (Q0 (ZV zN rfl (ZN<|ZuP (WE hr) (Yc<|pv 0) (pv 5) (Vo Qq) ⟨rfl,rfl,rfl,rfl⟩) (QK 6 Gx.nd) (Q0 (Zv (PW.pt<|Dk (Z7 Yq (Q8 QA (Yc<|pv 0)<|pv 6) Qw<|Zp _)<|DC<|Jg<|Zs4 (WE hr) (Q8 QA (Yc<|pv 0)<|pv 6)<|pv 2) (Qz (Lb (WE hr) (pv 2) (Q8 QA (Yc<|pv 0)<|pv 6) (pv 6) rfl)
 (Q0<|Vs<|Wi zP zS zT WU (pv 4)<|Qu (Q8 QA (Yc<|pv 0)<|pv 6) Qq)) Zx)))))
 (Q0<|QM 3 Gx.nd<|pv 4))))
 (Q0<|QH<|pv 2)))),?_⟩
  show QC K _ [_,_,_,_,_,_,_] _
  walk_at"x";refine Q9 (Li (Zti (d:=.none) Qp GN) λv=>?_);refine Q9 (Vt (Ya (Za Qp Z2) J1) ?_);refine VJ 3 rfl ?_;walk_at"d";have bnd:∀es,Tree D F g es->es.length<=2*D.length+1:=λes t=>by have:=t.len;rw[FA]at this;exact this
  refine Q9 (Uz (λm R=>∃(es:Got Nd) (q:List Nd) (u4 u5 S:Option OT),Tree D F g es/\(∀n∈q,n∈Ze es)/\UI D F es q/\m=2*(2*D.length+2-es.length)+(if q=[] then 0 else 1)/\
   R=[zz<|Vr P w C N,zf<|Zj<|nk g,zo v<|VW<|kvG es,zf<|.list<|q.map UJ,u4,u5,S]) _ ⟨[(g,none)],[g],none,none,none,.root,(λn o=>by simpa [Ze] using o),?d0,rfl,rfl⟩ ?ws)
  case d0=>
   intro e m n r h1 h2 h3 h4 h5 h6;have:m=g:=by simpa [Ze] using h5
   exact Xr (by rw[this];exact Xb) h6
  case ws=>
   rintro m _ ⟨es,q,u4,u5,S,tr,sb,dn,rfl,rfl⟩;refine⟨_,Ll Qp,λc=>?_,λc=>?_⟩
   .have L:q≠[]:=λz=>by rw[z]at c;cases c
    rw[Xc L];refine Q9 (Vt (Ya (ds:=[]) Z2<|by decide) ?_);walk_at"d";refine Q9 (JA (λi R=>∃(O:Got Nd) (Q:List Nd) (u5 S:Option OT),ReachI D F g es O (q.drop i) Q/\
     R=[zz<|Vr P w C N,zf<|Zj<|nk g,zo v<|VW<|kvG O,zf<|.list<|q.map UJ,some<|.ol<|Q.map UJ,u5,S]) (Va Qp) ⟨es,[],_,_,⟨tr,(by rintro n ⟨⟩),λn o=>o,by rw[List.drop_zero,XN];exact dn,by simp⟩,rfl⟩ ?st ?fin)
    case fin=>
     rintro _ ⟨O,Q,w5,w6,I,rfl⟩;rw[Xi]at I;have dn':=I.done;rw[List.drop_length,BB]at dn';refine VJ 4 rfl ?_;refine Z9 Qp ?_;walk_at"d";refine⟨2*(2*D.length+2-O.length)+(if Q=[] then 0 else 1),?_,O,Q,_,_,_,I.tree,I.fin,dn',rfl,rfl⟩;have b1:=bnd O I.tree;have b2:=I.len
     by_cases z:Q=[]
     .rw[Xf z];rw[z]at b2;simp at b2;lia
     .rw[Xc z];have:0<Q.length:=B7.mpr z;lia
    case st=>
     rintro i d _ hd ⟨es1,fu1,w5,w6,I1,rfl⟩;have hi:i<q.length:=by
      have:=(Xh.mp hd).1;simpa using this
     obtain rfl:d=UJ q[i]:=by simpa [hi] using hd.symm
     have M:=Pc hi;generalize q[i]=x at M;refine⟨_,Zd,?_⟩;walk_at"d";refine JA (λj R=>∃(p:Got Nd) (u:List Nd) (S:Option OT),ReachI D F g es p (q.drop i) u/\
      (∀(k:Nat) (n:Nd) (r:Int),(k:Int)∈((QZ N.leav<|nk x).getD []).take j->hdE D k=some n->rmE D F k=some r->0<r->n∈Ze p)/\
      R=[zz<|Vr P w C N,zf<|Zj<|nk g,zo v<|VW<|kvG p,zf<|.list<|q.map UJ,some<|.ol<|u.map UJ,zf<|UJ x,S]) (Va<|OQ U.net rfl Qp) ⟨es1,fu1,_,I1,(λk n r hk=>by simp at hk),rfl⟩ ?st2 ?fin2
     case fin2=>
      rintro _ ⟨p,u,w6,B,Z,rfl⟩;refine⟨p,u,_,_,⟨B.tree,B.fin,B.sub,?_,B.len⟩,rfl⟩;rw[Xi,XX]at Z;intro e m n r h1 h2 h3 h4 h5 h6;by_cases z:m=x
      .subst z;exact Z e n r ((h.leav m (e:Int)).mpr ⟨e,rfl,h1⟩) h2 h3 h4
      .refine B.done e m n r h1 h2 h3 h4 h5 ?_;rw[M,Bz,Xe,not_or];exact⟨z,h6⟩
     case st2=>
      rintro j d2 _ E ⟨p,u,w6,B,Z,rfl⟩;have hj:=by
       have:=(Xh.mp E).1;simpa using this
      obtain⟨k,ek,tk⟩:=(h.leav x _).mp (XL hj);obtain rfl:=by
       rw[Xp,XI hj]at E;rw[ek]at E;simpa using E.symm
      obtain⟨y,hy⟩:∃y,D[k/2]?=some y:=by
       unfold tlE at tk;cases z:D[k/2]? with
       |none=>rw[z]at tk;cases tk
       |some y=>exact⟨y,rfl⟩
      obtain⟨n,o⟩:∃n,hdE D k=some n:=⟨_,by unfold hdE;rw[hy];rfl⟩;obtain⟨r,J⟩:∃r,rmE D F k=some r:=⟨_,by unfold rmE;rw[hy];rfl⟩;have ra:atI (N.rooms.map PyData.int) (k:Int)=some (.int r):=V5 (by rw[Xp,h.rooms,Bg,J];rfl);have ea:atI (N.ends.map Zj) (k:Int)=some (Zj<|nk n):=V5 (by rw[h.ends,Xm,Xp,Nq,o];rfl);have tks:((QZ N.leav<|nk x).getD []).take (j+1)=((QZ N.leav<|nk x).getD []).take j++[(k:Int)]:=by rw[Y9,XI hj,ek];rfl
      have bes:=bnd p B.tree;have ben:=B.len;refine⟨_,Zd,?_⟩;walk_at"d";have X:∀{Y:ZcP},Y[0]?=some (zz<|Vr P w C N)->Y[6]?=some (zi (k:Int))->Qr K (tOp (rIx K) (Wf K (QY 0) "ends")<|QY 6) Y (Zj<|nk n):=λe0 e6=>Lv U.net e0 (Qp e6) ea;refine Zz (Dg (ZE<|VA (Nz U.net rfl Qp ra) QG) λ_=>ZL<|Zpl (X rfl rfl) rfl) (λc=>?_) (λc=>Z3 ?_)
      .rw[Mj]at c;have c1:r > 0:=XH (ML.mp c).1;have c2:=by simpa using (ML.mp c).2
       refine Q9 (OH rfl Qp (X rfl rfl) (by rw[show(kvG p).length=p.length from Xi _];exact VR<|by lia) ?_);walk_at"d";rw[OP c2];refine M1 rfl (X rfl rfl) (by rw[Xi];lia) ?_;have km:=B.sub x (sb x<|Kd<|by rw[M];exact Xb);refine⟨p++[(n,some k)],u++[n],_,⟨B.tree.add c2 o tk km J c1,λz G=>?_,λz G=>U5.mpr<|.inl<|B.sub z G,?_,by simp;lia⟩,λk' n' r' W q1 q2 q3=>?_,by rw[XB];rfl⟩
       .rcases XA.mp G with G|G
        .exact U5.mpr (.inl<|B.fin z G)
        .exact U5.mpr (.inr<|by simpa using G)
       .exact B.done.add n (some k)
       .rw[tks]at W;rcases XA.mp W with z|z
        .exact U5.mpr (.inl<|Z k' n' r' z q1 q2 q3)
        .have:k'=k:=by have:=Xt.mp z;lia
         subst this;rw[o]at q1;cases q1;exact U5.mpr (.inr rfl)
      .rw[Mj]at c;refine⟨p,u,_,B,λk' n' r' W q1 q2 q3=>?_,rfl⟩;rw[tks]at W;rcases XA.mp W with z|z
       .exact Z k' n' r' z q1 q2 q3
       .have:k'=k:=by have:=Xt.mp z;lia
        subst this;rw[o]at q1;rw[J]at q2;cases q1;cases q2;apply Classical.byContradiction;intro hq;have q3':r > 0:=q3;simp[q3',hq]at c
   .have L:q=[]:=by
     cases q with
     |nil=>rfl
     |cons a b=>cases c
    subst L;exact Lw rfl ⟨v,es,rfl,tr,dn.closed⟩
def J4(w:Qk):Qd:=w.map λ(e:Nat)=>PyData.int (e:Int)
def FM{es:Got Nd}{w:Qk}(b:Back H1 es n w):YB (kvG es) (nk n)=some (G9 w.head?):=by
 rw[N3];cases b with
 |nil h=>rw[h];rfl
 |cons h t b=>rw[h];rfl
def P5{a:Lay Nd}{e:Nat}{r:Int}(h:rmE a φ e=some r):e<2*a.length:=by
 unfold rmE at h;cases z:a[e/2]? with
 |none=>rw[z]at h;cases h
 |some x=>have:=(Xh.mp z).1;lia
def La{s:Nd}{es:Got Nd}{w:Qk}(q:WayOk H1 φ s es n w):w.length<=2*H1.length:=by
 have:=Rm q.nodup λe f=>by
  obtain⟨r,a,_⟩:=q.room e f;exact Xw.mpr (P5 a)
 simpa using this
inductive R_way(P:Program)(w:World)(C:Addr):List OT->(OT->Prop)->Prop
 |mk {N:NetS}{H1:Lay Nd}{φ:Zn Nd}{s n:Nd}{es:Got Nd}{wy:Qk}(h:NetR N H1 φ)(l:H1.length<400)(q:WayOk H1 φ s es n wy):R_way P w C [.zow<|Vr P w C N,.zow<|GE<|kvG es,.fz<|Zj<|nk n] (λr=>r=.ol (J4 wy))
def Hy:Qo ["self","edges","end","way","edge"] Zbc (Q5 RY):=by walk_at"p"
def AF(T:Bl mg)(U:Tx K mg C gS gE)(ta:Mf K C "way_to" "Net.way_to" RY Zbc):VF P w K mg base C "way_to" Zbc 1 (Z6 K<|R_way P w C):=by
 refine ta.evD Hy (λf o j h H H2 Z A outer s O=>?_);cases h with
 |@mk N d g t n es v h l q=>
  refine⟨_,(Qz (QM 3 Hy.nd<|Vo Qq)
 (Qz (QM 4 Hy.nd<|Nh (WE O) (pv 1) (pv 2) λ_ _=>rfl)
 (Qz (JL zN (Jg<|DF<|pv 4) (Qz (Vs<|Wi zP zS zT WU (pv 3)<|av 4 Qq)
 (Q0<|QM 4 Hy.nd<|Nh (WE O) (pv 1) (Q8 QA (Yc<|pv 0)<|QN K9 (pv 4) Qw) λ_ _=>rfl)))
 (Q0<|QH<|pv 3)))),?_⟩
  try dsimp only[Yt]
  have k:=La q;refine Q9 (Vt (Ya Z2<|by decide) ?_);refine Q9 (Z9 (Lk rfl Qp<|FM q.back) ?_);refine Q9 (Uz (λm u=>∃(r i:Qk) (B:Nd),m=i.length/\r++i=v/\Back d es B i/\u=[zz<|Vr P w C N,some _,zf<|Zj<|nk n,some<|.ol<|J4 r,zf<|G9 i.head?]) v.length ⟨[],v,n,rfl,rfl,q.back,rfl⟩ ?ws)
  case ws=>
   rintro m _ ⟨r,i,B,rfl,y,b,rfl⟩;refine⟨_,ZL<|D0 Qp,λc=>?_,λc=>?_⟩
   .cases b with
    |nil W=>cases c
    |@cons _ D e p W R b0=>
     have Y:r.length<1000:=by
      grind
     refine Q9 (M1 rfl Qp (by unfold J4;rw[Xi];exact Y) ?_);have X:atI (N.ends.map Zj) (Builtin.bitXor (e) 1)=some (Zj<|nk D):=by
      rw[RH];exact V5 (by rw[h.ends,Xm,Xp,Zsm,R];rfl)
     refine Z9 (Lk rfl (Lv U.net rfl (YE Qp QG) X)<|FM b0) ?_;walk_at"d";refine⟨p.length,UD _,r++[e],p,D,rfl,by rw[<- y,JT];rfl,b0,?_⟩;unfold J4;rw[XB];rfl
   .have:i=[]:=by
     cases i with
     |nil=>rfl
     |cons a b=>cases c
    subst this;rw[XN]at y;subst y;exact Du rfl rfl
def amt(a:Lay Nd)(φ:Zn Nd)(w:Qk):Int:=Wv (w.map λe=>(rmE a φ e).getD 0)
inductive R_push:NetS->List OT->(NetS->Prop)->Prop
 |mk {N:NetS}{H1:Lay Nd}{φ:Zn Nd}{wy:Qk}(h:NetR N H1 φ)(hd:Dis H1)(ne:wy≠[])(hin:∀e∈wy,∃r,rmE H1 φ e=some r)(hl:wy.length<900):R_push N [.fz<|.list<|J4 wy] (λN'=>NetR N' H1<|WD H1 (amt H1 φ wy) φ wy)
def NetR.rm(h:NetR N H1 φ)(a:e<2*H1.length):∃r,N.rooms[e]?=some r/\(Yr H1 φ)[e]?=some r:=by
 have:e<(Yr H1 φ).length:=by rw[Rs];exact a
 exact⟨_[e],by rw[h.rooms,XI this],XI this⟩
def NetR.push(h:NetR N H1 φ)(f:Dis H1){a r:Int}(m:(Yr H1 φ)[e]?=some r)(i:(Yr H1 φ)[ZhV e]?=some r'):NetR { N with rooms:=(N.rooms.set e<|r-a).set (ZhV e) (r'+a) } H1 (YT H1 a φ e):=
 ⟨h.ends,by show(N.rooms.set e _).set _ _=_;rw[h.rooms,ZpU f m i],h.leav,h.laid,h.laid0,h.l1,h.l2,h.l3⟩
def ZpL{m:Lay Nd}{a:Int}{φ:Zn Nd}{f:Qk}{e:Nat}(h:f[i]?=some e):WD m a φ (f.take<|i+1)=YT m a (WD m a φ<|f.take i) e:=by
 have t:f.take (i+1)=f.take i++[e]:=by rw[Y9,h];rfl
 rw[t];unfold WD;rw[HW];rfl
def Sh:Qo ["self","way","amount","edge"] ["self","way"] (Q5 He):=by walk_at"p"
def O8(T:Bl mg)(U:Tx K mg C gS gE)(ta:Mf K C "push" "Net.push" He ["self","way"]):VF P w K mg base C "push" ["self","way"] 1 (spN K P w C R_push):=by
 refine ta.evN Sh (λf v H' G F h H H2 E A outer s L=>?_);cases h with
 |@mk B R p h k b O M=>
  refine⟨_,(Qz (QM 2 Sh.nd<|QW O2 (by rfl) T.min Gb<|Qu (ZD (NX:=["self","way","amount","edge"]) (sc:=Q5 He) (N:=["edge","self"]) (f:=[none,some 0]) rfl (by decide +kernel) rfl rfl (ZN<|pv 1) (λ_=>(QK 0 (show(["edge","self"]:Qh).Nodup by decide +kernel))) (λ_=>Zm) (λ_=>ZC) λ_=>(Q8 QA (Yc<|pv 1)<|pv 0)) Qq)
 (Q0 (ZV zN rfl (ZN<|pv 1) (QK 3 Sh.nd) (Qz (DA (Yc<|pv 0) (pv 3) DM (pv 2) AO Bh)
 (Q0<|DA (Yc<|pv 0) (QN K9 (pv 3) Qw) DM (pv 2) BW Bh))))),?_⟩
  show QC K _ [_,_,_,_] _
  walk_at"x";refine Q9 (Z9 (d:=.int (amt B R p)) (Zqf 0 rfl rfl (Iq (Qr.cast (EvO.fz<|ZI (xs:=p) (enc:=λ(e:Nat)=>PyData.int<|e) (h:=λe=>.int<|(rmE B R e).getD 0) ?ei (by lia) ?el)<|by rw[Xm];rfl) rfl (λz=>b<|List.map_eq_nil_iff.mp z))) ?_)
  case ei=>exact Va Qp
  case el=>
   intro e j c;refine⟨_,Zd,?_⟩;obtain⟨r,D⟩:=O e j;refine Qr.cast (Nz (m:=r) U.net rfl Qp ?_) (by rw[D];rfl);exact V5 (by rw[Xp,h.rooms,Bg,D];rfl)
  generalize amt B R p=a;refine JA (λi W=>∃(y:NetS) (X:Option OT),NetR y B (WD B a R<|p.take i)/\W=[zo v<|Zr P w C y,zf<|.list<|J4 p,zi a,X]) (Va Qp) ⟨H',_,h,rfl⟩ ?st ?fin
  case fin=>
   rintro _ ⟨y,X,u,rfl⟩;unfold J4 at u;rw[Xi,XX]at u;exact⟨y,u,rfl⟩
  case st=>
   rintro i d _ q ⟨y,X,u,rfl⟩;have Z:=by
    have:=(Xh.mp q).1;unfold J4 at this;simpa using this
   obtain rfl:d=.int (p[i]):=by
    unfold J4 at q;simpa [Z] using q.symm
   obtain⟨I,Y⟩:=O p[i] (XL Z);have el:=P5 Y;rw[ZpL<|XI Z];generalize p[i]=e at el;have x:ZhV e<2*B.length:=by unfold ZhV;split<;>lia
   have g:ZhV e≠e:=by unfold ZhV;split<;>lia
   obtain⟨r,t,o⟩:=My.NetR.rm u el;obtain⟨J,n,l⟩:=My.NetR.rm u x;refine⟨_,Zd,?_⟩;refine Q9 (Ci U.net rfl (Qp rfl) (by lia) (t) (Qp rfl) ?_);refine Ci U.net rfl (Qr.cast (YE (Qp rfl) QG)<|by rw[RH]) (by lia) (by show(y.rooms.set e<|r-a)[ZhV e]?=_;rw[U7<|Ne.symm g];exact n) (Qp rfl) ?_;exact⟨_,_,My.NetR.push u k o l,rfl⟩
inductive R_fill:NetS->List OT->(NetS->Prop)->Prop
 |mk {N:NetS}{y:Yd}{G:Gv}{φ:Zn Nd}(h:NetR N (Zs y G) φ)(F:Flow y G φ)(l:(Zs y G).length<400):R_fill N [.fz<|Zj<|nk .start,.fz<|Zj<|nk .fin] (λN'=>∃φ' es,NetR N' (Zs y G) φ'/\Flow y G φ'/\Nd.start∈Ze es/\YF (Zs y G) φ' es/\Nd.fin∉Ze es)
def RI:Qo ["self","start","end","edges"] Zat (Q5 RD):=by walk_at"p"
def Im(T:Bl mg)(U:Tx K mg C gS gE)(ta:Mf K C "fill" "Net.fill" RD Zat)(X:VF P w K mg base C "reached" Zbk 1 (Z6 K<|R_reached P w C))(t:VF P w K mg base C "push" ["self","way"] 1 (spN K P w C R_push))(o:VF P w K mg base C "way_to" Zbc 1 (Z6 K<|R_way P w C)):
 VF P w K mg base C "fill" Zat 2 (spN K P w C R_fill):=by
 refine ta.evN RI (λf v H' J Ψ h H H2 cdv A outer s W=>?_);cases h with
 |@mk y G i h F l=>
  refine⟨_,(Qz (QM 3 RI.nd<|Wo X U.net W (pv 0)<|av 1 Qq)
 (Q0 (JL zN (Jg<|TB (WE W) (pv 2)<|pv 3) (Qz (Vs<|Wo t U.net W (pv 0)<|Qu (Wo o U.net W (pv 0)<|av 3<|av 2 Qq) Qq)
 (Q0<|QM 3 RI.nd<|Wo X U.net W (pv 0)<|av 1 Qq))))),?_⟩
  try dsimp only[Yt]
  have VI:∀{H':NetS} {i:Zn Nd} {u:Option OT} {E':XK},NetR H' (Zs y G) i->ZG K (GI C "reached" (Z6 K<|R_reached P w C) [] E' (QY 0)<|QX (QY 1) Zo) [zo v<|Zr P w C H',zf<|Zj<|nk .start,zf<|Zj<|nk .fin,u] _:=λh'=>
   R0 0 rfl (by rintro r ⟨v',es,e,_⟩;subst e;exact OI<|Zt3 es) (NK CA rfl (Qs (Qp rfl) Q2)<|R_reached.mk h' l)
  refine Q9 (Yx (VI h) λr B=>?_);obtain⟨O,es,rfl,R,Z⟩:=B;refine Uz (λm b=>∃(H':NetS) (i:Zn Nd) (es:Got Nd) (O:V),NetR H' (Zs y G) i/\Flow y G i/\Tree (Zs y G) i .start es/\YF (Zs y G) i es/\m=(Qx G.wa G.m-VV (Zs y G) i .start).toNat/\
   b=[zo v<|Zr P w C H',zf<|Zj<|nk .start,zf<|Zj<|nk .fin,zo O<|VW<|kvG es]) _ ⟨H',i,es,O,h,F,R,Z,rfl,rfl⟩ ?ws
  clear R Z es O h F;rintro m _ ⟨H',i,es,O,h,F,R,Z,rfl,rfl⟩;refine⟨_,ZL<|Iz Qp rfl,λc=>?_,λc=>?_⟩
  .rw[Mj]at c;obtain⟨Y,q⟩:=R.way .fin (XH c);have wl:=La q;have N:Y≠[]:=λz=>by
    have:=q.chain;rw[z]at this;cases this
   refine Fm 3 rfl ?_;walk_at"d";refine Q9 (U2 OZ rfl (EA (R0 0 rfl (λr e=>by subst e;exact Oy (λd S=>by
    obtain⟨e,_,rfl⟩:=Xk.mp S;exact⟨_,rfl⟩))<|NK Ox rfl (Ta rfl (Qs Qp Q2))<|R_way.mk h l q) λr e=>⟨_,e,rfl⟩) λJ j=>?_)
   subst j;refine⟨_,R_push.mk h (DP y G) N (λe D=>let ⟨r,a,_⟩:=q.room e D;⟨r,a⟩)<|by lia,λN' x=>?_⟩;walk_at"d";obtain⟨M,L⟩:=NP (ns:=Y.map λe=>(rmE (Zs y G) i e).getD 0) (λz=>N<|List.map_eq_nil_iff.mp z);have a0:0<amt (Zs y G) i Y:=by
    obtain⟨e,D,ee⟩:=Xk.mp M;obtain⟨r,p,Q⟩:=q.room e D;rw[p]at ee;show 0<Wv _
    simp_all
   obtain⟨E,nd⟩:=F.push (a:=amt (Zs y G) i Y) (by lia) q.chain q.nodup (λe D=>by
    obtain⟨r,p,_⟩:=q.room e D;refine⟨r,p,?_⟩;have:=L _ (Xk.mpr ⟨e,D,rfl⟩);rw[p]at this;exact this)
   refine Yx (VI x) (λr B=>?_);obtain⟨I,k,rfl,g,n⟩:=B;refine⟨_,?_,N',_,k,I,x,E,g,n,rfl,rfl⟩;have:=E.most;lia
  .rw[Mj]at c;exact⟨H',⟨i,es,h,F,R.start,Z,WA c⟩,rfl⟩
structure GOk(y:Yd)(g:Gs):Prop where
 ln:g.line<y.ls.length
 w0:0<=g.want
 m0:0<=g.most
def Md{y:Yd}{g:Gs}(h:g.Ok y):GOk y g:=⟨h.ln,by have:=h.w1;lia,by have:=h.m1;lia⟩
def Q4(gs:List Gs):Gv:={ m:=gs.length,ln:=λk=>(gs.getD k default).line,wa:=λk=>(gs.getD k default).want,mo:=λk=>(gs.getD k default).most,th:=λk t=>Yg (gs.getD k default) (t:Int) }
def WM{gs:List Gs}(h:k<gs.length):gs.getD k default=gs[k]:=by simp[List.getD,h]
def Ztj(y:Yd)(G:Gv)(k:Nat):(Vv y G k).length<=1+y.T:=by
 unfold Vv;rw[Wt];have:∀n,((List.range n).flatMap λt=>if G.th k t=true then [((.guest k,.line (G.ln k) t,G.mo k):Nd×Nd×Int)] else []).length<=n:=by
  intro n;induction n with
  |zero=>simp
  |succ n a=>
   rw[Wc,Gz,Xy];have:([n].flatMap λt=>if G.th k t=true then [((.guest k,.line (G.ln k) t,G.mo k):Nd×Nd×Int)] else []).length<=1:=by
    simp only[HX,List.flatMap_nil,XN];split<;>simp
   lia
 have:=this y.T;lia
def ZuJ{y:Yd}(h:1<=y.ls.length)(t:Nat):(Yi y t).length=y.ls.length:=by
 unfold Yi;rw[Wt];have:∀n,((List.range n).flatMap λi=>[((.line (i+1) t,.line (Mir.upN y<|i+1) t,Zl y (i+1) t):Nd×Nd×Int)]).length=n:=by
  intro n;induction n with
  |zero=>simp
  |succ n a=>rw[Wc,Gz,Xy,a];simp
 rw[this];lia
theorem M0{f:Nat->Lay Nd}{c:Nat}(h:∀k,(f k).length<=c):∀n,((List.range n).flatMap f).length<=n*c
 |0=>by simp
 |n+1=>by
  rw[Wc,Gz,Xy];have a:=M0 h n;have b:([n].flatMap f).length<=c:=by simpa using h n
  lia
def M3(f:Nat->Lay Nd)(n:Nat):(List.range<|n+1).flatMap f=(List.range n).flatMap f++f n:=by rw[Wc];simp
def NI{f:Nat->Lay Nd} : x∈(List.range n).flatMap f ↔ ∃k,k<n/\x∈f k:=by
 simp_all
def Hg{y:Yd}(i:y.Ok)(G:Gv)(h:n<=8):((List.range n).flatMap (Vv y G)).length<=72:=by
 have a:=M0 (f:=Vv y G) (c:=9) (λk=>by have:=Ztj y G k;have:=i.t8;lia) n;lia
def Rc{y:Yd}(f:y.Ok)(h:n<=8):((List.range n).flatMap (Yi y)).length<=40:=by
 have a:=M0 (λk=>by rw[ZuJ f.l1 k];exact f.l5) n;lia
inductive R_gnode:List OT->OT->Prop
 |mk {k:Nat}:R_gnode [.fz<|.int (k:Int)] (.fz<|Zj<|nk<|.guest k)
def ZkO:Qo Zbx Zbx (Q5 RW):=by walk_at"p"
def Zu6(T:Bl mg)(ta:Df K mg "guest_node" RW Zbx):Qv P w K mg base "guest_node" Zbx 1 (Qy (K:=K) R_gnode):=by
 refine ta.ev ZkO (λf i r h H H2 a A outer s m=>?_);cases h with
 |@mk k=>
  refine⟨_,(Q0<|QH<|Z1<|Qu Vu<|av 0 Qq),?_⟩;exact Zh (Vd (Za Vh<|Za Qp Z2)<|by show(2)<=1000;decide) rfl
inductive R_lnode:List OT->OT->Prop
 |mk {l t:Nat}:R_lnode [.fz<|.int (l:Int),.fz<|.int (t:Int)] (.fz<|Zj<|nk<|.line l t)
def ZlN:Qo ZaX ZaX (Q5 RJ):=by walk_at"p"
def ZtC(T:Bl mg)(ta:Df K mg "line_node" RJ ZaX):Qv P w K mg base "line_node" ZaX 1 (Qy (K:=K) R_lnode):=by
 refine ta.ev ZlN (λf i r h H H2 a A outer s m=>?_);cases h with
 |@mk l t=>
  refine⟨_,(Q0<|QH<|Z1<|Qu Vu<|av 0<|av 1 Qq),?_⟩;exact Zh (Vd (Za Vh<|Za Qp<|Za Qp Z2)<|by show(3)<=1000;decide) rfl
inductive R_lguest:NetS->List OT->(NetS->Prop)->Prop
 |mk {N:NetS}{y:Yd}{gs:List Gs}{k:Nat}(ok:y.Ok)(g8:gs.length<=8)(hk:k<gs.length)(h:NetR N ((List.range k).flatMap (Vv y<|Q4 gs)) Jf):
  R_lguest N [.fz<|QL y,.fz<|.int (k:Int),.fz<|QB gs[k]] (λN'=>NetR N' ((List.range<|k+1).flatMap (Vv y<|Q4 gs)) Jf)
def CT:Qo ["net","yard","number","guest","turn"] Zal (Q5 RL):=by walk_at"p"
def Zsv(T:Bl mg)(U:Tx K mg C gS gE)(ta:Df K mg "lay_guest" RL Zal)(R:VF P w K mg base C "lay" Zaj 2 (spN K P w C R_lay))(z:Qv P w K mg base "want_of" Zay 1 (Qy (K:=K) R_want))(W:Qv P w K mg base "guest_node" Zbx 1 (Qy (K:=K) R_gnode))
(E:Qv P w K mg base "turns_of" ZaV 1 (Qy (K:=K) R_turns))(G:Qv P w K mg base "is_there" Zbb 1 (Qy (K:=K) R_there))(F:Qv P w K mg base "most_of" Zay 1 (Qy (K:=K) R_most))(J:Qv P w K mg base "line_node" ZaX 1 (Qy (K:=K) R_lnode))(I:Qv P w K mg base "line_of" Zay 1 (Qy (K:=K) R_lineof)):
 Qv P w K mg base "lay_guest" Zal 3 (spN K P w C R_lguest):=by
 refine ta.evN CT (λf v H' X Ψ h H H2 cdv A outer s p=>?_);cases h with
 |@mk y a k L g8 Q h=>
  refine⟨_,(Qz (Vs<|Wo R U.net p (pv 0)<|Qu (Mm (v:=.ref _) rfl U.mSTART rfl)<|Qu (Q3 W p<|av 2 Qq)<|Qu (Q3 z p<|av 3 Qq) Qq)
 (Q0<|ZV zN rfl (V1 rfl T.range<|Qu (Q3 E p<|av 1 Qq) Qq) (QK 4 CT.nd)<|Q0<|Zv (V4<|Q3 G p<|av 3<|av 4 Qq) (Q0<|Vs<|Wo R U.net p (pv 0)<|Qu (Q3 W p<|av 2 Qq)<|Qu (Q3 J p<|Qu (Q3 I p<|av 3 Qq)<|av 4 Qq)<|Qu (Q3 F p<|av 3 Qq) Qq) Zx)),?_⟩
  show QC K _ [_,_,_,_,_] _;have t8:=L.t8;have gl:=Hg L (Q4 a) (n:=k) (by lia);have Y:=WM Q;have ew:(Q4 a).wa k=a[k].want:=by show(a.getD k default).want=_;rw[Y]
  have O:∀x∈(List.range k).flatMap (Vv y<|Q4 a),∃j,j<k/\x∈Vv y (Q4 a) j:=λx m=>NI.mp m;refine Q9 (U2 (ΦA:=λX=>X=[.fz<|Zj<|nk .start,.fz<|Zj<|nk<|.guest k,.fz<|.int a[k].want]) DG rfl (JD (Qs (NN U.aS)<|Qs (QJ (Qs Qp Q2) R_gnode.mk)<|Qs (QJ (Qs Qp Q2) R_want.mk) Q2) rfl) λX u=>?_);subst u;refine⟨_,R_lay.mk h ?n0<|by lia,λN1 l=>?_⟩
  case n0=>
   intro g;obtain⟨x,m,o⟩:=Xk.mp g;obtain⟨j,S,m⟩:=O x m;injection o with r q;rcases WQ.mp m with rfl|⟨t,_,_,rfl⟩
   .injection q with q;lia
   .cases r
  refine JA (ds:=ZW 0 y.T) (λi Z=>∃(B:NetS) (b:Option OT),NetR B ((List.range k).flatMap (Vv y<|Q4 a)++((.start,.guest k,(Q4 a).wa k)::(List.range i).flatMap λt=>if (Q4 a).th k t=true then [(.guest k,.line ((Q4 a).ln k) t,(Q4 a).mo k)] else [])) Jf/\
   Z=[zo v<|Zr P w C B,zf<|QL y,zf<|.int<|k,zf<|QB a[k],b]) ?ei ⟨N1,none,by rw[ew];exact l,rfl⟩ ?st ?fin
  case ei=>exact EvI.cast (WN (Qs (QJ (Qs Qp Q2) R_turns.mk) Q2) (by rw[z62];lia)<|by rw[z62];lia) (Wp rfl (by lia))
  case fin=>
   rintro _ ⟨B,b,N,rfl⟩;rw[JM]at N;refine⟨B,?_,rfl⟩;rw[M3];exact N
  case st=>
   rintro t d _ hd ⟨B,b,N,rfl⟩;obtain⟨ht,rfl⟩:=YJ hd;rw[X9];refine⟨_,Zd,?_⟩;walk_at"d";have et:Yg a[k] (t)=(Q4 a).th k t:=by show _=Yg (a.getD k default) (t);rw[Y]
   refine Zz (Zf.cast (ZL<|QJ (Qs Qp<|Qs Qp Q2) R_there.mk) et) (λc=>?_) (λc=>Z3 ?_)
   .refine U2 DG rfl (JD (Qs (QJ (Qs Qp Q2) R_gnode.mk)<|Qs (QJ (Qs (QJ (Qs Qp Q2) R_lineof.mk)<|Qs Qp Q2) R_lnode.mk)<|Qs (QJ (Qs Qp Q2) R_most.mk) Q2) rfl) (λX u=>?_);subst u;refine⟨_,R_lay.mk N ?n1 ?l1,λN2 D=>?_⟩
    case n1=>
     intro g;obtain⟨x,m,o⟩:=Xk.mp g;injection o with r q;rcases XA.mp m with m|m
     .obtain⟨j,S,m⟩:=O x m;rcases WQ.mp m with rfl|⟨M,_,_,rfl⟩
      .cases r
      .injection r with r;lia
     .rcases Xe.mp m with rfl|m
      .cases r
      .obtain⟨M,e,m⟩:=HR.mp m;split at m
       .rw[Xt.mp m]at q;injection q with _ q;have:=Xw.mp e;lia
       .cases m
    case l1=>
     rw[Xy];have:(((.start,.guest k,(Q4 a).wa k):Nd×Nd×Int)::(List.range t).flatMap λt=>if (Q4 a).th k t=true then [((.guest k,.line ((Q4 a).ln k) t,(Q4 a).mo k))] else []).length<=1+t*1:=by
      rw[Wt];have:=M0 (f:=λt=>if (Q4 a).th k t=true then [((.guest k,.line ((Q4 a).ln k) t,(Q4 a).mo k))] else []) (c:=1) (λt=>by split<;>simp) t;lia
     lia
    refine⟨N2,_,?_,rfl⟩;rw[M3,Xf c];have r:(Q4 a).ln k=a[k].line:=by show(a.getD k default).line=_;rw[Y]
    have q:(Q4 a).mo k=a[k].most:=by show(a.getD k default).most=_;rw[Y]
    rw[<- r,<- q,JT]at D;exact D
   .refine⟨B,_,?_,rfl⟩;rw[M3,Xc<|by rw[c];decide,XN];exact N
inductive R_lturn:NetS->List OT->(NetS->Prop)->Prop
 |mk {N:NetS}{y:Yd}{G:Gv}{t:Nat}(ok:y.Ok)(g8:G.m<=8)(ht:t<y.T)(h:NetR N ((List.range G.m).flatMap (Vv y G)++(List.range t).flatMap (Yi y)) Jf):
  R_lturn N [.fz<|QL y,.fz<|.int (t:Int)] (λN'=>NetR N' ((List.range G.m).flatMap (Vv y G)++(List.range<|t+1).flatMap (Yi y)) Jf)
def CI:Qo ["net","yard","turn","line"] Zbf (Q5 R7):=by walk_at"p"
def ZuK(T:Bl mg)(U:Tx K mg C gS gE)(ta:Df K mg "lay_turn" R7 Zbf)(O:VF P w K mg base C "lay" Zaj 2 (spN K P w C R_lay))(R:Qv P w K mg base "bound_at" ZaC 1 (Qy (K:=K) R_bound))(r:Qv P w K mg base "line_node" ZaX 1 (Qy (K:=K) R_lnode))
(I:Qv P w K mg base "line_count" ZaV 1 (Qy (K:=K) R_count))(F:Qv P w K mg base "above_of" Zbd 1 (Qy (K:=K) R_above)):Qv P w K mg base "lay_turn" Zbf 3 (spN K P w C R_lturn):=by
 refine ta.evN CI (λf v H' B Ψ h H H2 S A outer s m=>?_);cases h with
 |@mk y G t p Q ht h=>
  refine⟨_,(Qz (Vs<|Wo O U.net m (pv 0)<|Qu (Q3 r m<|Qu Qw<|av 2 Qq)<|Qu (Mm (v:=.ref _) rfl U.mEND rfl)<|Qu (Q3 R m<|av 1<|Qu Qw<|av 2 Qq) Qq)
 (Q0<|ZV zN rfl (Zr9 rfl T.range<|Qu Qw<|Qu (Q3 I m<|av 1 Qq) Qq) (QK 3 CI.nd)<|Q0<|Vs<|Wo O U.net m (pv 0)<|Qu (Q3 r m<|av 3<|av 2 Qq)<|Qu (Q3 r m<|Qu (Q3 F m<|av 1<|av 3 Qq)<|av 2 Qq)<|Qu (Q3 R m<|av 1<|av 3<|av 2 Qq) Qq)),?_⟩
  show QC K _ [_,_,_,_] _
  walk_at"x";have t8:=p.t8;have l1:=p.l1;have l5:=p.l5;have gl:=Hg p G Q;have tl:=Rc p (n:=t) (by lia);have N:∀x∈(List.range G.m).flatMap (Vv y G)++(List.range t).flatMap (Yi y),(∃j,x∈Vv y G j)\/∃X,X<t/\x∈Yi y X:=λx a=>by
   rcases XA.mp a with a|a
   .obtain⟨j,_,a⟩:=NI.mp a;exact .inl ⟨j,a⟩
   .obtain⟨j,L,a⟩:=NI.mp a;exact .inr ⟨j,L,a⟩
  refine Q9 (U2 (ΦA:=λB=>B=[.fz<|Zj<|nk<|.line 0 t,.fz<|Zj<|nk .fin,.fz<|.int<|Zl y 0 t]) DG rfl (JD (Qs (QJ (Qs QG<|Qs Qp Q2)<|R_lnode.mk (l:=0))<|Qs (PR U.aS U.aE)<|Qs (QJ (Qs Qp<|Qs QG<|Qs Qp Q2)<|R_bound.mk p (by decide) (by lia) (by lia)<|by lia) Q2) ?e0) λB q=>?_)
  case e0=>rw[XF];rfl
  subst q;refine⟨_,R_lay.mk h ?n0<|by rw[Xy];lia,λN1 z=>?_⟩
  case n0=>
   intro k;obtain⟨x,a,E⟩:=Xk.mp k;injection E with e1 Z;rcases N x a with ⟨j,a⟩|⟨X,g,a⟩
   .rcases WQ.mp a with rfl|⟨u,_,_,rfl⟩<;>cases e1
   .rcases JN.mp a with rfl|⟨i,_,rfl⟩
    .injection e1 with _ e1;lia
    .cases Z
  refine JA (ds:=ZW 1 (y.ls.length-1)) (λi b=>∃(W:NetS) (e:Option OT),NetR W (((List.range G.m).flatMap (Vv y G)++(List.range t).flatMap (Yi y))++((.line 0 t,.fin,Zl y 0 t)::(List.range i).flatMap λi=>[(.line (i+1) t,.line (Mir.upN y<|i+1) t,Zl y (i+1) t)])) Jf/\
   b=[zo v<|Zr P w C W,zf<|QL y,zf<|.int<|t,e]) ?ei ⟨N1,none,by simpa using z,rfl⟩ ?st ?fin
  case ei=>exact EvI.cast (TX (Qs QG<|Qs (QJ (Qs Qp Q2) R_count.mk) Q2)<|by rw[z62];lia) (Wp rfl (by lia))
  case fin=>
   rintro _ ⟨W,e,Y,rfl⟩;rw[JM]at Y;refine⟨W,?_,rfl⟩;rw[M3,<- JT];exact Y
  case st=>
   rintro i d _ M ⟨W,e,Y,rfl⟩;obtain⟨hi,rfl⟩:=YJ M;have ei:(1:Int)+(i)=((i+1)):=by lia
   rw[ei];refine⟨_,Zd,?_⟩;walk_at"d";refine U2 (ΦA:=λB=>B=[.fz<|Zj<|nk<|.line (i+1) t,.fz<|Zj<|nk<|.line (Mir.upN y<|i+1) t,.fz<|.int<|Zl y (i+1) t]) DG rfl (JD (Qs (QJ (Qs Qp<|Qs Qp Q2)<|R_lnode.mk)<|Qs (QJ (Qs (QJ (Qs Qp<|Qs Qp Q2)<|R_above.mk p (by lia)<|by lia)<|Qs Qp Q2)<|R_lnode.mk)<|Qs (QJ (Qs Qp<|Qs Qp<|Qs Qp Q2)<|R_bound.mk p (by lia) (by lia) (by lia)<|by lia) Q2) ?e1) (λB q=>?_)
   case e1=>rw[XF];rfl
   subst q;refine⟨_,R_lay.mk Y ?n1 ?l1,λN2 D=>?_⟩
   case n1=>
    intro k;obtain⟨x,a,E⟩:=Xk.mp k;injection E with e1 Z;rcases XA.mp a with a|a
    .rcases N x a with ⟨j,a⟩|⟨X,g,a⟩
     .rcases WQ.mp a with rfl|⟨u,_,_,rfl⟩<;>cases e1
     .rcases JN.mp a with rfl|⟨J,_,rfl⟩
      .cases Z
      .lia
    .rcases Xe.mp a with rfl|a
     .cases Z
     .obtain⟨J,o,a⟩:=HR.mp a;rw[Xt.mp a]at e1;have:=Xw.mp o;lia
   case l1=>
    rw[Xy,Xy,Wt];have:=M0 (f:=λi=>[((.line (i+1) t,.line (Mir.upN y<|i+1) t,Zl y (i+1) t))]) (c:=1) (λi=>by simp) i;lia
   refine⟨N2,_,?_,rfl⟩;rw[M3];rw[JT]at D;exact D
def Yl(y:Yd)(G:Gv)(φ:Zn Nd):Prop:=Flow y G φ/\∃es:Got Nd,Nd.start∈Ze es/\YF (Zs y G) φ es/\Nd.fin∉Ze es
inductive R_filled(P:Program)(w:World)(C:Addr):List OT->(OT->Prop)->Prop
 |mk {y:Yd}{gs:List Gs}(ok:y.Ok)(hg:∀g∈gs,GOk y g)(g8:gs.length<=8):R_filled P w C [.fz<|QL y,.fz<|.list<|gs.map QB] (λr=>∃v N φ,r=.own v (Zr P w C N)/\NetR N (Zs y<|Q4 gs) φ/\Yl y (Q4 gs) φ)
def Pq{y:Yd}(f:y.Ok)(a:l<y.ls.length)(i:t<y.T):0<=Zl y l t:=by
 rw[Bp a];have m:=Mv f a;have h:Vb y l∈y.ls:=by simp[Vb,a]
 have:(Vb y l).bs.getD t 0=(Vb y l).bs[t]'(by lia):=by simp[List.getD,show t<(Vb y l).bs.length by lia]
 rw[this];exact(f.bb _ h _<|XL _).1
def IZ{y:Yd}(f:y.Ok)(q:∀g∈gs,GOk y g):∀x∈Zs y (Q4 gs),0<=x.2.2:=λx a=>by
 have r:=f.l1;rcases Bf.mp a with ⟨k,p,a⟩|⟨t,h,a⟩
 .have m:GOk y (gs.getD k default):=by rw[WM p];exact q _ (XL _)
  rcases WQ.mp a with rfl|⟨t,_,_,rfl⟩
  .exact m.w0
  .exact m.m0
 .rcases JN.mp a with rfl|⟨i,s,rfl⟩
  .exact Pq f (by lia) h
  .exact Pq f (by lia) h
def MD:Qo ["yard","guests","net","number","guest","turn"] Zaa (Q5 Sq):=by walk_at"p"
def Zso(T:Bl mg)(U:Tx K mg C gS gE)(ta:Df K mg "filled_net" Sq Zaa)(o:SR P w K mg base "Net" C 1)(l:Qv P w K mg base "lay_guest" Zal 3 (spN K P w C R_lguest))(x:Qv P w K mg base "turns_of" ZaV 1 (Qy (K:=K) R_turns))
(k:Qv P w K mg base "lay_turn" Zbf 3 (spN K P w C R_lturn))(j:VF P w K mg base C "fill" Zat 2 (spN K P w C R_fill)):Qv P w K mg base "filled_net" Zaa 4 (Z6 K<|R_filled P w C):=by
 refine ta.evD MD (λf c Φ h H H2 cdv A outer s N=>?_);cases h with
 |@mk y q B J g=>
  refine⟨_,(Qz (QM 2 MD.nd<|Io o N)
 (Qz (ZV zN rfl (CM rfl T.enumerate<|av 1 Qq) (VM (n:=2) rfl (Zt (QK 3 MD.nd)<|Zt (QK 4 MD.nd) VU))<|Q0<|Vs<|Q3 l N<|av 2<|av 0<|av 3<|av 4 Qq)
 (Qz (ZV zN rfl (V1 rfl T.range<|Qu (Q3 x N<|av 0 Qq) Qq) (QK 5 MD.nd)<|Q0<|Vs<|Q3 k N<|av 2<|av 0<|av 5 Qq)
 (Qz (Vs<|Wo j U.net N (pv 2)<|Qu (Mm (v:=.ref _) rfl U.mSTART rfl)<|Qu (Mm (v:=.ref _) rfl U.mEND rfl) Qq)
 (Q0<|QH<|pv 2))))),?_⟩
  walk_at"x";have F:=B.t8;refine Q9 (Li Oo λv=>?_);refine Q9 (JA (λi u=>∃(r:NetS) (X W:Option OT),NetR r ((List.range i).flatMap (Vv y<|Q4 q)) Jf/\u=[zf<|QL y,zf<|.list<|q.map QB,zo v<|Zr P w C r,X,W,none]) (KR<|Qs Qp Q2) ⟨_,none,none,Z0t _,rfl⟩ ?st ?fin)
  case st=>
   rintro i d _ e ⟨r,X,W,D,rfl⟩;obtain⟨a,E,rfl⟩:=RC e;have z:=by
    have:=(Xh.mp E).1;simpa using this
   obtain rfl:a=QB q[i]:=by simpa [z] using E.symm
   refine⟨_,YO (ZZ Zd<|ZZ Zd Wl) rfl,?_⟩;walk_at"d";refine LB rfl (JD (Qs Qp<|Qs Qp<|Qs Qp Q2) rfl) (λc m=>?_);subst m;refine⟨_,R_lguest.mk B g z D,λR p=>?_⟩;exact⟨R,_,_,p,rfl⟩
  case fin=>
   rintro _ ⟨N1,X,W,O,rfl⟩;rw[Rl,Xi]at O;refine Q9 (JA (ds:=ZW 0 y.T) (λi u=>∃(r:NetS) (Z:Option OT),NetR r ((List.range (Q4 q).m).flatMap (Vv y<|Q4 q)++(List.range i).flatMap (Yi y)) Jf/\u=[zf<|QL y,zf<|.list<|q.map QB,zo v<|Zr P w C r,X,W,Z]) ?ei2 ⟨N1,none,by rw[show(List.range 0).flatMap (Yi y)=[] from rfl,XN];exact O,rfl⟩ ?st2 ?fin2)
   case ei2=>exact EvI.cast (WN (Qs (QJ (Qs Qp Q2) R_turns.mk) Q2) (by rw[z62];lia)<|by rw[z62];lia) (Wp rfl (by lia))
   case st2=>
    rintro t d _ e ⟨r,Z,D,rfl⟩;obtain⟨I,rfl⟩:=YJ e;rw[X9];refine⟨_,Zd,?_⟩;refine LB rfl (JD (Qs Qp<|Qs Qp Q2) rfl) (λc m=>?_);subst m;refine⟨_,R_lturn.mk B g I D,λR p=>?_⟩;exact⟨R,_,p,rfl⟩
   case fin2=>
    rintro _ ⟨r,Z,D,rfl⟩;rw[JM]at D;have G:(Zs y<|Q4 q).length<400:=by
     unfold Zs;rw[Xy];have a:=Hg B (Q4 q) (n:=(Q4 q).m) g;have b:=Rc B F;lia
    refine Q9 (U2 ZtV rfl (JD (Qs (NN U.aS)<|Qs (PR U.aS U.aE) Q2) rfl) λc m=>?_);subst m;refine⟨_,R_fill.mk D (AZ<|IZ B J) G,λR p=>?_⟩;obtain⟨Y,es,h1,S,Q,M,L⟩:=p;exact Lw rfl ⟨v,R,Y,rfl,h1,S,es,Q,M,L⟩
def V9(y:Yd)(G:Gv)(φ:Zn Nd):List (Ql):=(List.range G.m).map λk=>(List.range y.T).map λt=>Zq G φ t k
def ZqM{y:Yd}(q:k<G.m)(m:t<y.T):Mg (Zs y G) φ (.guest k) (.line (G.ln k) t)=Zq G φ t k:=by
 unfold Mg Zq;by_cases c:G.th k t=true
 .rw[Xf c,Xf<|Xk.mpr ⟨_,D1 q m c,rfl⟩]
 .rw[Xc c,Xc λp=>?_];obtain⟨x,a,r⟩:=Xk.mp p;injection r with f s;rcases Bf.mp a with ⟨j,_,a⟩|⟨h,_,a⟩
  .rcases WQ.mp a with rfl|⟨h,_,u,rfl⟩
   .cases f
   .lia
  .rcases JN.mp a with rfl|⟨i,_,rfl⟩<;>cases f
inductive R_takes(P:Program)(w:World)(C:Addr):List OT->OT->Prop
 |mk {N:NetS}{y:Yd}{gs:List Gs}{φ:Zn Nd}{k:Nat}(ok:y.Ok)(h:NetR N (Zs y<|Q4 gs) φ)(hk:k<gs.length):R_takes P w C [.zow<|Vr P w C N,.fz<|QL y,.fz<|.int (k:Int),.fz<|QB gs[k]] (.ol<|(List.range y.T).map λt=>PyData.int<|Zq (Q4 gs) φ t k)
def ZmP:Qo Zal Zal (Q5 Hk):=by walk_at"p"
def ZuA(T:Bl mg)(U:Tx K mg C gS gE)(ta:Df K mg "takes_by" Hk Zal)(p:Qv P w K mg base "turns_of" ZaV 1 (Qy (K:=K) R_turns))(m:VF P w K mg base C "flow" Zat 1 (Z6 K<|R_flow P w C))(v:Qv P w K mg base "line_node" ZaX 1 (Qy (K:=K) R_lnode))(q:Qv P w K mg base "line_of" Zay 1 (Qy (K:=K) R_lineof))(u:Qv P w K mg base "guest_node" Zbx 1 (Qy (K:=K) R_gnode)):
 Qv P w K mg base "takes_by" Zal 2 (Qy (K:=K)<|R_takes P w C):=by
 refine ta.ev ZmP (λf Y r h H H2 X A outer s a=>?_);cases h with
 |@mk N y i φ k O h B=>
  refine⟨_,(Q0<|QH<|ZD (NX:=Zal) (sc:=Q5 Hk) (N:=["turn","net","number","guest"]) (f:=[none,some 0,some 2,some 3]) rfl (by decide +kernel) rfl rfl (V1 rfl T.range<|Qu (Q3 p a<|av 1 Qq) Qq) (λ_=>(QK 0 (show(["turn","net","number","guest"]:Qh).Nodup by decide +kernel))) (λ_=>Zm) (λ_=>ZC) λ_=>(Wo m U.net a (pv 1)<|Qu (Q3 u a<|av 2 Qq)<|Qu (Q3 v a<|Qu (Q3 q a<|av 3 Qq)<|av 0 Qq) Qq)),?_⟩;have Z:=O.t8;refine Wm (Dj (lo:=0) ?ei (by lia) ?el) rfl
  case ei=>exact EvI.cast (WN (Qs (QJ (Qs Qp Q2) R_turns.mk) Q2) (by lia)<|by lia) (Wp rfl (by lia))
  case el=>
   intro t R c;refine⟨_,Zd,?_⟩;rw[X9];have W:(Q4 i).ln k=i[k].line:=by show(i.getD k default).line=_;rw[WM B]
   have D:=ZqM (G:=Q4 i) (φ:=φ) B R;rw[W]at D;exact Qr.cast (EvO.e<|ZG.o<|NK OO rfl (Qs (QJ (Qs Qp Q2) R_gnode.mk)<|Qs (QJ (Qs (QJ (Qs Qp Q2) R_lineof.mk)<|Qs Qp Q2) R_lnode.mk) Q2)<|R_flow.mk h) (by rw[D])
inductive R_great:List OT->(OT->Prop)->Prop
 |mk {y:Yd}{gs:List Gs}(ok:y.Ok)(hg:∀g∈gs,GOk y g)(g8:gs.length<=8):R_great [.fz<|QL y,.fz<|.list<|gs.map QB] (λr=>∃φ,Yl y (Q4 gs) φ/\r=.oll ((V9 y (Q4 gs) φ).map λrow=>row.map PyData.int))
def Ad:Qo ["yard","guests","net"] Zaa (Q5 HN):=by walk_at"p"
def OX(T:Bl mg)(U:Tx K mg C gS gE)(ta:Df K mg "greatest_filling" HN Zaa)(O:Qv P w K mg base "filled_net" Zaa 4 (Z6 K<|R_filled P w C))(D:Qv P w K mg base "takes_by" Zal 2 (Qy (K:=K)<|R_takes P w C)):Qv P w K mg base "greatest_filling" Zaa 5 (Z6 K R_great):=by
 refine ta.evD Ad (λf x o h H H2 l A outer s W=>?_);cases h with
 |@mk y a R d j=>
  refine⟨_,(Qz (QM 2 Ad.nd<|Q3 O W<|av 0<|av 1 Qq)
 (Q0<|QH<|ZD (NX:=["yard","guests","net"]) (sc:=Q5 HN) (N:=ZaY) (f:=[none,none,some 2,some 0]) rfl (by decide +kernel) rfl rfl (CM rfl T.enumerate<|av 1 Qq) (λ_=>(VM (n:=2) rfl (Zt (QK 0 (show(ZaY:Qh).Nodup by decide +kernel))<|Zt (QK 1 (show(ZaY:Qh).Nodup by decide +kernel)) VU))) (λ_=>(UZ (n:=2)<|Yw Zm<|Yw Zm Gh)) (λ_=>ZC) λ_=>(Q3 D W<|av 2<|av 3<|av 0<|av 1 Qq))),?_⟩
  show QC K _ [_,_,_] _
  walk_at"x";refine Q9 (Yx (V7 (Qs Qp<|Qs Qp Q2)<|R_filled.mk R d j) λr B=>?_);obtain⟨v,N,q,rfl,e,m⟩:=B;walk_at"d";refine ZuY 2 rfl ?_;walk_at"d";refine Wm (r:=.oll ((V9 y (Q4 a) q).map λu=>u.map PyData.int)) (EvO.cast (T5 (xs:=a.zipIdx) (enc:=λp=>PyData.tuple [.int (p.2:Int),QB p.1]) (h:=λp=>(List.range y.T).map λt=>PyData.int<|Zq (Q4 a) q t p.2) ?ei (by simp;lia) ?el) ?eq) ⟨q,m,rfl⟩
  case ei=>
   refine EvI.cast (KR<|Qs Qp Q2) ?_;unfold UT;rw[List.zipIdx_map,Xm];rfl
  case eq=>
   congr 1
   unfold V9;rw[Xm];have:(Q4 a).m=a.length:=rfl;rw[this];apply List.ext_getElem?;intro i;by_cases Y:i<a.length
   .simp[Y,Xm,Function.comp_def]
   .simp[Y]
  case el=>
   intro p b c;obtain⟨X,Z⟩:∃h:p.2<a.length,p.1=a[p.2]:=by
    have:=List.mem_zipIdx b;simp at this;exact⟨this.1,this.2⟩
   obtain⟨g,k⟩:=p;simp only at X Z;subst Z;refine⟨_,YO (ds:=[.int (k:Int),QB a[k]]) (ZZ Zd<|ZZ Zd Wl) rfl,?_⟩;walk_at"e";exact GT (Ta rfl (Qs Qp<|Qs Qp<|Qs Qp Q2)) (R_takes.mk R e X)
def Zjd:Qo Zaa Zaa (Q5 Sk):=by walk_at"p"
def IG(T:Bl mg)(ta:Df K mg "best_filling" Sk Zaa)(i:Qv P w K mg base "greatest_filling" Zaa 5 (Z6 K R_great)):Qv P w K mg base "best_filling" Zaa 6 (Z6 K R_great):=by
 refine ta.evD Zjd (λf v u h H H2 q A outer s m=>?_);have p:=h;cases h with
 |@mk y D B C N=>
  refine⟨_,(Q0<|QH<|Q3 i m<|av 0<|av 1 Qq),?_⟩;exact Mt (V7 (Qs Qp<|Qs Qp Q2) p) (λr a=>a)
def ZB(y:Yd)(G:Gv)(S:Qm):Int:=Qx (QV S G.wa) G.m-Qx (λt=>passes y (λl=>Zl y l t) (UN G S t) 0) y.T
def Vx(y:Yd)(G:Gv)(φ:Zn Nd):Int:=Qx (λk=>G.wa k-Qx (λt=>Zq G φ t k) y.T) G.m
def Bk{y:Yd}(F:Flow y G φ)(h:y.Ok)(f:∀k,k<G.m->G.ln k<y.ls.length)(S:Qm):ZB y G S<=Vx y G φ:=by
 have i:∀k,k<G.m->0<=G.wa k-Qx _ y.T:=λk a=>by
  rw[F.total a];have:=F.want a;lia
 have s:Qx (QV S λk=>G.wa k-Qx _ y.T) G.m<=Vx y G φ:=VT λk a=>NG (i k a)
 have r:Qx (QV S λk=>G.wa k-Qx (λt=>Zq G φ t k) y.T) G.m=Qx (QV S G.wa) G.m-Qx (QV S λk=>Qx (λt=>Zq G φ t k) y.T) G.m:=by
  rw[<- NH];refine Zk λk _=>?_;unfold QV;split<;>lia
 have q:Qx (λt=>Qx (QV S<|Zq G φ t) G.m) y.T=Qx (QV S λk=>Qx (λt=>Zq G φ t k) y.T) G.m:=by
  rw[Hc _ y.T G.m];refine Zk λk _=>?_;unfold QV;cases S k with
  |true=>rfl
  |false=>simp only[ if_false];exact VS _
 have p:=VT λt m=>F.no_more h f S m;unfold ZB;lia
def Y6{y:Yd}(f:∀g∈gs,GOk y g):∀k,k<(Q4 gs).m->(Q4 gs).ln k<y.ls.length:=λk a=>by
 show(gs.getD k default).line<_
 rw[WM a];exact(f _<|XL _).ln
def Zst{y:Yd}(i:y.Ok)(m:∀g∈gs,GOk y g)(h:Yl y (Q4 gs) φ)(h':Yl y (Q4 gs) φ'):Vx y (Q4 gs) φ=Vx y (Q4 gs) φ':=by
 obtain⟨F,es,u,w,v⟩:=h;obtain⟨s,f,p,r,q⟩:=h';have a:Vx y (Q4 gs) φ=ZB y (Q4 gs) (QS es):=F.lack i (Y6 m) w u v;have b:Vx y (Q4 gs) φ'=ZB y (Q4 gs) (QS f):=s.lack i (Y6 m) r p q;have c:=Bk F i (Y6 m) (QS f);have d:=Bk s i (Y6 m) (QS es);lia
def Zb(gs:List Gs)(S:Qm):Qk:=(List.range gs.length).filter S
def Gn(f:gs.length<=8)(S:Qm):SetOk gs (Zb gs S):=
 ⟨λk a=>Xw.mp (Wd.mp a).1,Xx (List.length_filter_le _ _)<|by simpa using f⟩
theorem Vk(f:Qn):∀n,((List.range n).map f).sum=Qx f n
 |0=>rfl
 |n+1=>by rw[Wc,XB,List.sum_append,Vk f n];simp[Qx]
theorem Gq(f:Qn)(p:Qm):∀n,(((List.range n).filter p).map f).sum=Qx (QV p f) n
 |0=>rfl
 |n+1=>by
  rw[Wc,JU,XB,List.sum_append,Gq f p n];show _=Qx _ n+QV p f n;unfold QV;cases e:p n with
  |true=>simp[ e]
  |false=>simp[ e]
def IN(gs:List Gs)(S:Qm)(t l:Nat):UN (Q4 gs) S t l=W2 gs t (Zb gs S) l:=by
 show _=Z0 gs (t) l ((List.range gs.length).filter S);rw[Ry];refine Zk λk a=>?_;unfold QV moT wgt ind;rw[XI a];have i:(Q4 gs).th k t=Yg gs[k] (t):=by show Yg _ _=_;rw[WM a]
 have h:(Q4 gs).mo k=gs[k].most:=by show(gs.getD k default).most=_;rw[WM a]
 have f:(Q4 gs).ln k=gs[k].line:=by show(gs.getD k default).line=_;rw[WM a]
 rw[ f];cases S k with
 |false=>simp
 |true=>
  by_cases c:gs[k].line=l
  .simp_all
  .simp[c]
def Vg(gs:List Gs)(a:Qk):Int:=(a.map λk=>(gs.getD k default).want).sum
def Ju(y:Yd)(gs:List Gs)(S:Qm):ZB y (Q4 gs) S=Vg gs (Zb gs S)-ZO y gs (Zb gs S):=by
 unfold ZB;congr 1
 .exact(Gq _ S gs.length).symm
 .unfold ZO;rw[Vk];refine Zk λt _=>?_;unfold ZA;rw[show UN _ S t=W2 gs t _ from funext λl=>IN gs S t l]
def JB(y:Yd)(G:Gv)(φ:Zn Nd)(es:Got Nd):Prop:=Flow y G φ/\Nd.start∈Ze es/\YF (Zs y G) φ es/\Nd.fin∉Ze es
def JB.full{y:Yd}{es:Got Nd}(h:JB y G φ es):Yl y G φ:=⟨h.1,es,h.2⟩
def JB.lack{y:Yd}(a:y.Ok)(f:∀g∈gs,GOk y g){es:Got Nd}(h:JB y (Q4 gs) φ es):Vx y (Q4 gs) φ=Vg gs (Zb gs<|QS es)-ZO y gs (Zb gs<|QS es):=by
 rw[<- Ju];exact h.1.lack a (Y6 f) h.2.2.1 h.2.1 h.2.2.2
inductive R_lset:List OT->(OT->Prop)->Prop
 |mk {y:Yd}{gs:List Gs}(ok:y.Ok)(hg:∀g∈gs,GOk y g)(g8:gs.length<=8):R_lset [.fz<|QL y,.fz<|.list<|gs.map QB] (λr=>∃φ es,JB y (Q4 gs) φ es/\r=.ol (QO<|Zb gs<|QS es))
def Aa:Qo ["yard","guests","edges"] Zaa (Q5 HG):=by walk_at"p"
def ZmR(T:Bl mg)(U:Tx K mg C gS gE)(ta:Df K mg "guests_reached" HG Zaa)(W:Qv P w K mg base "filled_net" Zaa 4 (Z6 K<|R_filled P w C))(O:VF P w K mg base C "reached" Zbk 1 (Z6 K<|R_reached P w C))(R:Qv P w K mg base "guest_node" Zbx 1 (Qy (K:=K) R_gnode)):
 Qv P w K mg base "guests_reached" Zaa 5 (Z6 K R_lset):=by
 refine ta.evD Aa (λf L Φ h H H2 J A outer s D=>?_);cases h with
 |@mk y m B g Y=>
  refine⟨_,(Qz (QM 2 Aa.nd<|Wo O U.net D (Q3 W D<|av 0<|av 1 Qq)<|Qu (Mm (v:=.ref _) rfl U.mSTART rfl) Qq)
 (Q0<|QH<|ZD (NX:=["yard","guests","edges"]) (sc:=Q5 HG) (N:=["number","edges"]) (f:=[none,some 2]) rfl (by decide +kernel) rfl rfl (V1 rfl T.range<|Qu (QW ZU (by rfl) T.len ZT<|av 1 Qq) Qq) (λ_=>(QK 0 (show(["number","edges"]:Qh).Nodup by decide +kernel))) (λ_=>Zm) (λ_=>(Ut<|Jg<|TB (WE D) (Q3 R D<|av 0 Qq)<|pv 1)) λ_=>(pv 0))),?_⟩
  show QC K _ [_,_,_] _
  walk_at"x";have d:(Zs y<|Q4 m).length<400:=by
   unfold Zs;rw[Xy];have a:=Hg B (Q4 m) (n:=(Q4 m).m) Y;have b:=Rc B B.t8;lia
  refine Q9 (Yx (Φ:=λr=>∃v u es,r=.own v (VW<|kvG es)/\JB y (Q4 m) u es) (Ztu (P:=P) (w:=w) CA (V7 (Qs Qp<|Qs Qp Q2)<|R_filled.mk B g Y) (λr q=>?_)<|Qs (NN U.aS) Q2) λr q=>?_)
  .obtain⟨v,N,u,rfl,l,F,G,x,t,o⟩:=q;refine⟨v,N,rfl,_,R_reached.mk (s:=.start) l d,by rintro r ⟨Z,es,e,X,I⟩;exact⟨Z,u,es,e,F,X.start,I,λz=>o<|X.inClosed t x _ z⟩⟩
  .obtain⟨v,u,es,rfl,E⟩:=q;walk_at"d";refine Fm 2 rfl ?_;walk_at"d";refine Wm (r:=.ol (QO<|Zb m<|QS es)) (JG (xs:=List.range m.length) (enc:=λ(j:Nat)=>PyData.int (j:Int)) (h:=λ(j:Nat)=>PyData.int (j:Int)) (p:=QS es) ?ei (by simp;lia) ?el) ⟨u,es,E,rfl⟩
   case ei=>
    have e:(m.map QB).length=m.length:=by simp
    refine EvI.cast (WN (Qs (YH Qp) Q2) (by rw[z62,e];lia)<|by rw[z62,e];lia) ?_;rw[e,XF];unfold ZW;refine X6 λi _=>?_;rw[X9]
   case el=>
    intro k M c;refine⟨_,Zd,?_,λ_=>?_⟩
    .walk_at"e";exact Zf.cast (ZL<|El (k:=nk (.guest k)) (QJ (Qs Qp Q2) R_gnode.mk) rfl) (Mj _ _)
    .walk_at"e";exact Qp rfl
def Zjm:Qo Zaa Zaa (Q5 S6):=by walk_at"p"
def Iw(T:Bl mg)(ta:Df K mg "lacking_set" S6 Zaa)(i:Qv P w K mg base "guests_reached" Zaa 5 (Z6 K R_lset)):Qv P w K mg base "lacking_set" Zaa 6 (Z6 K R_lset):=by
 refine ta.evD Zjm (λf v u h H H2 q A outer s m=>?_);have p:=h;cases h with
 |@mk y D B C N=>
  refine⟨_,(Q0<|QH<|Q3 i m<|av 0<|av 1 Qq),?_⟩;exact Mt (V7 (Qs Qp<|Qs Qp Q2) p) (λr a=>a)
def MX(a:List (Ql)):List (Qd):=a.map λr=>r.map PyData.int
def llD(a:List (Ql)):PyData:=.list ((MX a).map PyData.list)
def IS(a:List (Ql)):(MX a).map PyData.list=a.map λr=>.list (r.map PyData.int):=by
 unfold MX;rw[Xm];rfl
def WZ(a:List (Ql)):Ql:=a.map List.sum
def UU(gs:List Gs)(a:List (Ql)):Ql:=(gs.zip<|WZ a).map λp=>p.1.want-p.2
def ZnE(h:H1.length=gs.length):UU gs H1=(List.range gs.length).map λk=>(gs.getD k default).want-(WZ H1).getD k 0:=by
 apply HQ
 .simp[UU,WZ,h]
 .intro i m f;have a:i<gs.length:=by simpa using f
  have b:i<H1.length:=by lia
  simp[UU,WZ,List.getD,a,b]
inductive R_totals:List OT->OT->Prop
 |mk {H1:List (Ql)}(h:H1.length<=1000):R_totals [.fz<|llD H1] (.ol<|(WZ H1).map PyData.int)
def ZkV:Qo Zby Zby (Q5 Hr):=by walk_at"p"
def ZsA(T:Bl mg)(ta:Df K mg "totals_of" Hr Zby):Qv P w K mg base "totals_of" Zby 1 (Qy (K:=K) R_totals):=by
 refine ta.ev ZkV (λf m r h H H2 i A outer s q=>?_);cases h with
 |@mk a h=>
  refine⟨_,(Q0<|QH<|ZD (NX:=Zby) (sc:=Q5 Hr) (N:=["takes"]) (f:=[none]) rfl (by decide +kernel) rfl rfl (ZN<|pv 0) (λ_=>(QK 0 (show(["takes"]:Qh).Nodup by decide +kernel))) (λ_=>Zm) (λ_=>ZC) λ_=>(QW YX (by rfl) T.sum YY<|av 0 Qq)),?_⟩;show QC K _ [_] _
  walk_at"x";refine Wm (EvO.cast (ZI (xs:=a) (enc:=λr=>.list<|r.map PyData.int) (h:=λr=>.int r.sum) (EvI.cast (Va (ds:=(MX a).map PyData.list)<|Qp rfl)<|IS a) h ?el)<|by unfold WZ;rw[Xm];rfl) rfl;intro x p c;refine⟨_,by walk_at"g",?_⟩;walk_at"e";exact YV (ns:=x) (Qp rfl) rfl
inductive R_lacks:List OT->OT->Prop
 |mk {gs:List Gs}{H1:List (Ql)}(g8:gs.length<=8)(h:H1.length<=1000):R_lacks [.fz<|.list<|gs.map QB,.fz<|llD H1] (.ol<|(UU gs H1).map PyData.int)
def Znt:Qo ZaM ZaM (Q5 Hj):=by walk_at"p"
def ZtH(T:Bl mg)(ta:Df K mg "lacks_of" Hj ZaM)(i:Qv P w K mg base "want_of" Zay 1 (Qy (K:=K) R_want))(a:Qv P w K mg base "totals_of" Zby 1 (Qy (K:=K) R_totals)):Qv P w K mg base "lacks_of" ZaM 2 (Qy (K:=K) R_lacks):=by
 refine ta.ev Znt (λf y r h H H2 v A outer s m=>?_);cases h with
 |@mk q u C h=>
  refine⟨_,(Q0<|QH<|ZD (NX:=ZaM) (sc:=Q5 Hj) (N:=["guest","total"]) (f:=[none,none]) rfl (by decide +kernel) rfl rfl (KW rfl T.zip<|av 0<|Qu (Q3 a m<|av 1 Qq) Qq) (λ_=>(VM (n:=2) rfl (Zt (QK 0 (show(["guest","total"]:Qh).Nodup by decide +kernel))<|Zt (QK 1 (show(["guest","total"]:Qh).Nodup by decide +kernel)) VU))) (λ_=>(UZ (n:=2)<|Yw Zm<|Yw Zm Gh)) (λ_=>ZC) λ_=>(QN Wj (Q3 i m<|av 0 Qq)<|pv 1)),?_⟩;show QC K _ [_,_] _
  walk_at"x";refine Wm (EvO.cast (ZI (xs:=q.zip (WZ u)) (enc:=λp=>.tuple [QB p.1,.int p.2]) (h:=λp=>.int<|p.1.want-p.2) (EvI.cast (BR (as:=q.map QB) (bs:=(WZ u).map PyData.int)<|Qs (Qp rfl)<|Qs (JI (Qs (Qp rfl) Q2)<|R_totals.mk h) Q2) ?eq) (by simp;lia) ?el)<|by unfold UU;rw[Xm];rfl) rfl
  case eq=>
   unfold Ja;rw[List.zip_map,Xm];rfl
  case el=>
   intro x B c;refine⟨_,by walk_at"g",?_⟩;walk_at"e";exact YE (QJ (Qs (Qp rfl) Q2) R_want.mk) (Qp rfl)
def Zte(s:Qr K D Y d)(r:Wx K t Y Φ')(p:∀ts,Φ' ts->Φ (.fz d::ts)):Wx K (QX D t) Y Φ:=λR F O H Q S q=>
 s R F O H _ S λw L v f i=>r R w O L _ (S.ext f) λu E y ts m a h=>q u E _ _ (p ts m) (f.trans a) (.fz (i.mono a.ff) h)
def O1(h:ZG K D Y Φ)(w:∀r,Φ r->∃d,UM r=some d/\Φ' [.fz d]):Wx K (QX D Zo) Y Φ':=λR F O H Q S q=>
 h R F O H _ S λA L v p r s x u m=>by
  obtain⟨d,y,i⟩:=w r s;refine q (frF A L p) L [v] _ i ⟨x.hh,x.ff.trans<|WR λa f=>(m.there a f).1,GW x.fh,λa f=>?_⟩ (.fz (m.frz y) .nil)
  by_cases z:a∈p
  .exact .inr (u a z)
  .rw[W4 z]at f;exact x.fr a f
def EC(h:ZG K D Y Φ)(u:∀r,Φ r->∃ns:Ql,r=.ol (ns.map PyData.int)/\Φ' (.fz<|.int ns.sum))(y:X.calm=true):ZG K (tCB (Kk X)<|QX D Zo) Y Φ':=λR F O H Q S q=>
 h R F O H _ S λA L v p r s x C m=>by
  obtain⟨ns,rfl,w⟩:=u r s;obtain⟨a,rfl,rfl,B,xs,i,f⟩:=m;exact⟨y,.ref a,ns,rfl,.lst i<|f.mono x.fh,q A L (.int ns.sum) [] _ w x (by rintro _ ⟨⟩) ⟨rfl,.int _⟩⟩
def Cl(y:Yd)(G:Gv)(φ:Zn Nd):(V9 y G φ).length=G.m:=by simp[V9]
def Zq5(y:Yd)(gs:List Gs)(φ:Zn Nd):(UU gs<|V9 y (Q4 gs) φ).sum=Vx y (Q4 gs) φ:=by
 rw[ZnE<|Cl y (Q4 gs) φ,Vk];refine Zk λk a=>?_
 have e:(WZ<|V9 y (Q4 gs) φ).getD k 0=Qx (λt=>Zq (Q4 gs) φ t k) y.T:=by
  unfold WZ V9;rw[Xm];have a:k<(Q4 gs).m:=a;simp only[List.getD,Xp,List.getElem?_range a,XZ,UC,Function.comp];exact Vk _ _
 rw[e];rfl
inductive R_least:List OT->(OT->Prop)->Prop
 |mk {y:Yd}{gs:List Gs}(ok:y.Ok)(hg:∀g∈gs,GOk y g)(g8:gs.length<=8):R_least [.fz<|QL y,.fz<|.list<|gs.map QB] (λr=>∃φ,Yl y (Q4 gs) φ/\r=.fz (.int<|Vx y (Q4 gs) φ))
def ZkL:Qo Zaa Zaa (Q5 RZ):=by walk_at"p"
def Zt9(T:Bl mg)(ta:Df K mg "least_lack" RZ Zaa)(u:Qv P w K mg base "lacks_of" ZaM 2 (Qy (K:=K) R_lacks))(v:Qv P w K mg base "best_filling" Zaa 6 (Z6 K R_great)):Qv P w K mg base "least_lack" Zaa 7 (Z6 K R_least):=by
 refine ta.evD ZkL (λf p Φ h H H2 O A outer s B=>?_);cases h with
 |@mk y m D N C=>
  refine⟨_,(Q0<|QH<|QW YX (by rfl) T.sum YY<|Qu (Q3 u B<|av 1<|Qu (Q3 v B<|av 0<|av 1 Qq) Qq) Qq),?_⟩;show QC K _ [_,_] _
  walk_at"x";refine Mt (Φ:=λr=>∃i,Yl y (Q4 m) i/\r=.fz (.int<|Vx y (Q4 m) i)) (EC (Φ:=λr=>∃i,Yl y (Q4 m) i/\r=.ol ((UU m<|V9 y (Q4 m) i).map PyData.int)) (ZuD (ΦA:=λp=>∃i,Yl y (Q4 m) i/\p=[.fz<|.list<|m.map QB,.fz<|llD<|V9 y (Q4 m) i]) (Zte (Φ':=λp=>∃i,Yl y (Q4 m) i/\p=[.fz<|llD<|V9 y (Q4 m) i]) (Qp rfl) (O1 (V7 (Qs (Qp rfl)<|Qs (Qp rfl) Q2)<|R_great.mk D N C)<|by rintro r ⟨i,a,e⟩;exact⟨llD<|V9 y (Q4 m) i,by rw[e];rfl,i,a,rfl⟩)<|by rintro p ⟨i,a,e⟩;exact⟨i,a,by rw[e]⟩)<|by rintro p ⟨i,a,e⟩;exact⟨_,by rw[e];exact R_lacks.mk C<|by rw[Cl];show m.length<=1000;lia,i,a,rfl⟩) (by rintro r ⟨i,a,e⟩;exact⟨_,e,i,a,by rw[Zq5]⟩) rfl) (λr q=>q)
def D5(y:Yd)(gs:List Gs)(a:Qk):Int:=Vg gs a-ZO y gs a
inductive R_short:List OT->OT->Prop
 |mk {y:Yd}{gs:List Gs}{sm:Qk}(ok:y.Ok)(hg:∀g∈gs,g.Ok y)(hs:SetOk gs sm):
  R_short [.fz<|QL y,.fz<|.list<|gs.map QB,.fz<|.list<|QO sm] (.fz<|.int<|D5 y gs sm)
def Zn2:Qo Zah Zah (Q5 Hi):=by walk_at"p"
def O7(T:Bl mg)(ta:Df K mg "short_of" Hi Zah)(i:Qv P w K mg base "want_of" Zay 1 (Qy (K:=K) R_want))(m:Qv P w K mg base "given_most" Zah 4 (Qy (K:=K) R_givenm)):
 Qv P w K mg base "short_of" Zah 5 (Qy (K:=K) R_short):=by
 refine ta.ev Zn2 (λf D r h H H2 C A outer s p=>?_);cases h with
 |@mk y W q u B a=>
  refine⟨_,(Q0<|QH<|QN Wj (QW YX (by rfl) T.sum YY<|Qu (ZD (NX:=Zah) (sc:=Q5 Hi) (N:=Zbp) (f:=[none,some 1]) rfl (by decide +kernel) rfl rfl (ZN<|pv 2) (λ_=>(QK 0 (show(Zbp:Qh).Nodup by decide +kernel))) (λ_=>Zm) (λ_=>ZC) λ_=>(Q3 i p<|Qu (Q8 QA (pv 1)<|pv 0) Qq)) Qq)<|Q3 m p<|av 0<|av 1<|av 2 Qq),?_⟩;show QC K _ [_,_,_] _
  walk_at"x";have O:=a.len;refine Zh (YE (YV ?_ rfl)<|QJ (by walk_at"ea")<|R_givenm.mk u B a) rfl;refine EvO.fz ?_;rw[Xm];refine ZI (xs:=q) (enc:=λ(j:Nat)=>PyData.int (j:Int)) ?_ (by lia) ?_
  .walk_at"ei"
  .intro x v c;have R:=a.mem x v;refine⟨_,by walk_at"g",?_⟩;refine QJ (Qs (Qr.cast (by walk_at"ev")<|by rw[XF]) Q2) R_want.mk
def Zg1:Qo Zbg Zbg (Q5 Br):=by walk_at"p"
def ZqS  (T:Bl mg)(F:Fun K "__init__" "NoRoom.__init__" Br f fd)(q:JX K YR CR f)(xs:AC K CR)(i:W.takerIn K CR "some"=some none)(m:mg "YardError"=some (.ref YR)):FnOk P w K mg base CX0 1 f fd Zbg (Mn K CR "some"):=by
 refine F.ok Zg1 ?_ (λa H Q H2 h r A outer s u=>⟨_,Qz (Vs<|ZtB q rfl m rfl Qa)<|Q0<|IU xs i (pv 0) (VB EQ (by rfl) T.list Ni<|Qu (pv 1) Qq) rfl,Zu8 h⟩);rintro a H Q H2 ⟨e,p,xs,h,_⟩;rw[h];rfl
inductive R_refuse:List OT->(OT->Prop)->Prop
 |mk {y:Yd}{gs:List Gs}(ok:y.Ok)(hg:∀g∈gs,g.Ok y)(g8:gs.length<=8)(h:∀S,ZB y (Q4 gs) S<=0):R_refuse [.fz<|QL y,.fz<|.list<|gs.map QB] (λr=>r=.fz .none)
inductive X_refuse:List OT->(Qd->Prop)->Prop
 |mk {y:Yd}{gs:List Gs}(ok:y.Ok)(hg:∀g∈gs,g.Ok y)(g8:gs.length<=8){S:Qm}(h:0<ZB y (Q4 gs) S):X_refuse [.fz<|QL y,.fz<|.list<|gs.map QB] (λd=>∃S,0<ZB y (Q4 gs) S/\d=QO (Zb gs S))
def So:Qo Zah Zaa (Q5 S7):=by walk_at"p"
def Zrv(T:Bl mg)(c:XC K mg "NoRoom" YR CR fR)(ta:Df K mg "refuse_lack" S7 Zaa)(R:Qv P w K mg base "lacking_set" Zaa 6 (Z6 K R_lset))(W:Qv P w K mg base "short_of" Zah 5 (Qy (K:=K) R_short))(O:Kr P w K mg base fR Zbg 1 (Mn K CR "some")):
 UK P w K mg base "refuse_lack" Zaa 7 (spX K CR "some" R_refuse X_refuse):=by
 refine ta.evZ So (λf H RR j d q h Z A outer s v=>?_) (λf F H RR j d q k h Z A outer s v=>?_)
 .cases h with
  |@mk y i p D N h=>
   refine⟨_,(Qz (QM 2 So.nd<|Q3 R v<|av 0<|av 1 Qq)
 (Q0<|Zv (Z7 Yq (Q3 W v<|av 0<|av 1<|av 2 Qq) Qw<|Zp _) (Q0<|FT c O q v<|av 2 Qq) Zx)),?_⟩
   show QC K _ [_,_,_] _
   walk_at"x";have C:∀g∈i,GOk y g:=λg h=>Md (D g h);refine Q9 (Yx (V7 (Qs Qp<|Qs Qp Q2)<|R_lset.mk p C N) λr u=>?_);obtain⟨B,es,m,rfl⟩:=u
   walk_at"d";refine VJ 2 rfl ?_;walk_at"d";have X:=h (QS es);rw[Ju]at X;exact Zz (b:=false) (Zf.cast (ZE<|VA (QJ (Qs Qp<|Qs Qp<|Qs Qp Q2)<|R_short.mk p D<|Gn N _) QG)<|Xo<|by unfold D5;lia) nf (λ_=>Z3 rfl)
 .cases h with
  |@mk y i p D N S h=>
   refine⟨_,(Qz (QM 2 So.nd<|Q3 R v<|av 0<|av 1 Qq)
 (Q0<|Zv (Z7 Yq (Q3 W v<|av 0<|av 1<|av 2 Qq) Qw<|Zp _) (Q0<|FT c O q v<|av 2 Qq) Zx)),?_⟩
   show EvZ K F H _ [some _,some _,none]
   walk_at"x";have C:∀g∈i,GOk y g:=λg h=>Md (D g h);refine AM (λY=>∃B es,JB y (Q4 i) B es/\Y=[zf<|QL y,zf<|.list<|i.map QB,some<|.ol<|QO<|Zb i<|QS es]) (Yx (V7 (Qs Qp<|Qs Qp Q2)<|R_lset.mk p C N) λr u=>?_) ?_
   .obtain⟨B,es,m,rfl⟩:=u;exact⟨B,es,m,rfl⟩
   .rintro _ ⟨B,es,m,rfl⟩;refine Z05 2 rfl ?_;walk_at"d";have X:0<ZB y (Q4 i) (QS es):=by
     have a:=Bk m.1 p (Y6 C) S;have e:=m.1.lack p (Y6 C) m.2.2.1 m.2.1 m.2.2.2;have e:Vx y (Q4 i) B=ZB y (Q4 i) (QS es):=e;lia
    have l:=X;rw[Ju]at l;exact Z0z (b:=true) (Zf.cast (ZE<|VA (QJ (Qs Qp<|Qs Qp<|Qs Qp Q2)<|R_short.mk p D<|Gn N _) QG)<|XJ<|by unfold D5;lia) (λ_=>ZtD Qp ⟨QS es,X,rfl⟩ k) nt
def BO(l:Ln)(p:Int):Ln:=⟨l.up,l.bs.map λb=>min b p⟩
def Z4(y:Yd)(p:Int):Yd:=⟨y.T,BO (y.ls.getD 0 default) p::y.ls.drop 1⟩
def DL{y:Yd}(a:y.Ok)(p:Int):(Z4 y p).ls.length=y.ls.length:=by
 have:=a.l1;simp[Z4];lia
def NM{y:Yd}(a:y.Ok)(p:Int)(k:Nat):(Z4 y p).ls[k]?=if k=0 then some (BO (y.ls.getD 0 default) p) else y.ls[k]? := by
 cases k with
 |zero=>simp[Z4]
 |succ k=>simp[Z4,Nat.add_comm 1 k]
def MU{y:Yd}(a:y.Ok):y.ls[0]?=some (y.ls.getD 0 default):=by
 have:=a.l1;simp[List.getD,show 0<y.ls.length by lia]
def Nu{y:Yd}(a:y.Ok)(p:Int)(k:Nat):QU (Z4 y p) k=QU y k:=by
 unfold QU;rw[NM a];by_cases h:k=0
 .subst h;rw[Xf rfl,MU a];rfl
 .rw[Xc h]
def BI{y:Yd}(a:y.Ok):y.ls.getD 0 default∈y.ls:=List.mem_of_getElem? (MU a)
def Gg{y:Yd}(a:y.Ok){p:Int}(s:0<=p):(Z4 y p).Ok:=by
 have h:=DL a p;refine⟨a.t1,a.t8,by rw[h];exact a.l1,by rw[h];exact a.l5,by rw[Nu a];exact a.up0,λk r m=>?_,λl f=>?_,λl f b i=>?_⟩
 .rw[Nu a];exact a.ups k r (by rw[h]at m;exact m)
 .rcases Xe.mp f with rfl|f
  .show((y.ls.getD 0 default).bs.map λb=>min b p).length=y.T
   rw[Xi];exact a.bl _ (BI a)
  .exact a.bl l (Kd f)
 .rcases Xe.mp f with rfl|f
  .simp only[BO,Xk]at i;obtain⟨c,q,rfl⟩:=i;have:=a.bb _ (BI a) c q;lia
  .exact a.bb l (Kd f) b i
def IE{y:Yd}(a:y.Ok):upD (y.ls.getD 0 default).up=.none:=by
 have h:=a.up0;unfold QU at h;rw[MU a]at h;have h:(y.ls.getD 0 default).up=none:=h;rw[h];rfl
def Fj{y:Yd}(a:y.Ok)(p:Int):PyData.tuple [.int (y.T:Int),.tuple<|[PyData.tuple [upD (y.ls.getD 0 default).up,.tuple<|(y.ls.getD 0 default).bs.map λb=>.int<|min b p]]++cut (y.ls.map Zc) (some 1) none]=QL (Z4 y p):=by
 have f:=a.l1;rw[show(some 1:Option Int)=some ((1:Nat):Int) from rfl,KI _ 1<|by simpa using f];unfold QL Z4 BO Zc;simp[List.map_drop]
inductive R_lowered:List OT->OT->Prop
 |mk {y:Yd}{p:Int}(ok:y.Ok):R_lowered [.fz<|QL y,.fz<|.int p] (.fz<|QL<|Z4 y p)
def SC:Qo ["yard","p","first","lowered"] ["yard","p"] (Q5 HJ):=by walk_at"p"
def Zpn(T:Bl mg)(ta:Df K mg "yard_lowered" HJ ["yard","p"]):Qv P w K mg base "yard_lowered" ["yard","p"] 1 (Qy (K:=K) R_lowered):=by
 refine ta.ev SC (λf u r h H H2 q A outer s D=>?_);cases h with
 |@mk y p a=>
  refine⟨_,(Qz (QM 2 SC.nd<|Q8 QA (Q8 QA (pv 0) Qw) Qw)
 (Qz (QM 3 SC.nd<|Z1<|Qu (Q8 QA (pv 2) Qw)<|Qu (VB WS (by rfl) T.tuple Wn<|Qu (ZD (NX:=["yard","p","first","lowered"]) (sc:=Q5 HJ) (N:=["bound","p"]) (f:=[none,some 1]) rfl (by decide +kernel) rfl rfl (WI<|Q8 QA (pv 2) Qw) (λ_=>(QK 0 (show(["bound","p"]:Qh).Nodup by decide +kernel))) (λ_=>Zm) (λ_=>ZC) λ_=>(QW (GR rfl) (by rfl) T.min Gb<|av 0<|av 1 Qq)) Qq) Qq)
 (Q0<|QH<|Z1<|Qu (Q8 QA (pv 0) Qw)<|Qu (QN TK (Z1<|av 3 Qq)<|Bc PY (Q8 QA (pv 0) Qw) (Ba Qw) GY) Qq))),?_⟩
  show QC K _ [_,_,_,_] _
  walk_at"x";have m:=a.l1;have B:=a.l5;have v:=a.t8;have O:=a.bl _ (BI a);have i:∀{Y:ZcP},Y[0]?=some (zf<|QL y)->Qr K (tOp (rIx K) (QY 0)<|tC<|.int 1) Y (.tuple<|y.ls.map Zc):=λh=>Z5 (ds:=[PyData.int (y.T:Int),.tuple<|y.ls.map Zc]) (Qp h) QG rfl;refine Q9 (Z9 (d:=Zc (y.ls.getD 0 default)) (Z5 (ds:=y.ls.map Zc) (i rfl) QG<|Uq (f:=Zc) (by lia)<|by lia) ?_)
  walk_at"d";refine Q9 (Z9 (Vd (ds:=[upD (y.ls.getD 0 default).up,.tuple<|(y.ls.getD 0 default).bs.map λb=>.int<|min b p]) (Za (Z5 (ds:=[upD (y.ls.getD 0 default).up,.tuple<|(y.ls.getD 0 default).bs.map PyData.int]) (Qp rfl) QG rfl)<|Za (Uo<|EvO.fz<|ZI (xs:=(y.ls.getD 0 default).bs) (enc:=PyData.int) (h:=λb=>.int<|min b p) ?ei (by lia) ?el) Z2) YM) ?_)
  case ei=>exact Uj (Z5 (ds:=[upD (y.ls.getD 0 default).up,.tuple<|(y.ls.getD 0 default).bs.map PyData.int]) (Qp rfl) QG rfl)
  case el=>
   intro x C c;refine⟨_,by walk_at"g",?_⟩;walk_at"e";exact KF (Qp rfl) (Qp rfl)
  walk_at"d";refine Zh (Qr.cast (Vd (ds:=[.int (y.T:Int),.tuple<|[PyData.tuple [upD (y.ls.getD 0 default).up,.tuple<|(y.ls.getD 0 default).bs.map λb=>.int<|min b p]]++cut (y.ls.map Zc) (some 1) none]) (Za (Z5 (ds:=[PyData.int (y.T:Int),.tuple<|y.ls.map Zc]) (Qp rfl) QG rfl)<|Za (KC (Vd (Za (Qp rfl) Z2) J1) (K5 (i rfl) (Gi QG) Ge ?nw) ?ln) Z2) YM)<|Fj a p) rfl
  case nw=>exact Pw (k:=1) (by decide) (by rw[Xi];lia)
  case ln=>
   rw[show(some 1:Option Int)=some ((1:Nat):Int) from rfl,KI _ 1<|by simpa using m];simp;lia
def Od{y:Yd}(a:y.Ok)(p:Int)(k t:Nat)(h0:k≠0):Zl (Z4 y p) k t=Zl y k t:=by
 unfold Zl;rw[NM a,Xc h0]
def OL{y:Yd}(a:y.Ok)(p:Int)(h:t<y.T):Zl (Z4 y p) 0 t=min (Zl y 0 t) p:=by
 unfold Zl;rw[NM a,Xf rfl,MU a];have f:=a.bl _ (BI a);generalize y.ls.getD 0 default=l at f;simp only[XZ,UC,BO,List.getD,Xp];rw[XI<|by lia];rfl
theorem Rw{y a:Yd}{b p own:Qn}(h:a.ls.length=y.ls.length)(f:∀k,QU a k=QU y k)(m:∀k,k≠0->p k=b k):∀i,i<=y.ls.length-1->∀l,ZK a p own i l=ZK y b own i l
 |0,_,l=>rfl
 |i+1,q,l=>by
  simp only[ZK,YU,h,f];rw[Rw h f m i<|by lia,Rw h f m i<|by lia,m _<|by lia]
def Ch{y:Yd}(a:y.Ok)(gs:List Gs)(f:Qk)(p:Int)(h:t<y.T):ZA (Z4 y p) gs f t=min (ZA y gs f t) p:=by
 unfold ZA passes VI;rw[DL a,Rw (b:=λk=>Zl y k t) (DL a p) (Nu a p) (λk i=>Od a p k t i) _<|Xn _];dsimp only;rw[OL a p h];lia
def NZ{y:Yd}(a:y.Ok)(gs:List Gs)(S:Qm)(p:Int):ZB (Z4 y p) (Q4 gs) S=Vg gs (Zb gs S)-VD (ZA y gs<|Zb gs S) y.T p:=by
 rw[Ju];unfold ZO VD;rw[Vk];congr 1;exact Zk λt f=>Ch a gs _ p f
def Zsw{y:Yd}(gs:List Gs)(S:Qm):ZB y (Q4 gs) S=Vg gs (Zb gs S)-Qx (ZA y gs<|Zb gs S) y.T:=by
 rw[Ju];unfold ZO;rw[Vk]
def Dn{y:Yd}(a:y.Ok){g:Gs}(h:g.Ok y)(p:Int):g.Ok (Z4 y p):=⟨by rw[DL a];exact h.ln,h.fl,h.lt,h.w1,h.w2,h.m1,h.m2⟩
structure IsPeak(y:Yd)(gs:List Gs)(p:Int):Prop where
 nn:0<=p
 all:∀S,ZB (Z4 y p) (Q4 gs) S<=0
 less:0<p->∃S,0<ZB (Z4 y<|p-1) (Q4 gs) S
def MV(y:Yd):Int:=Qx (λt=>Zl y 0 t) y.T
theorem FE{f:Qn}{t:Nat}:∀{n:Nat},(∀k,k<n->0<=f k)->t<n->f t<=Qx f n
 |0,_,h=>by lia
 |n+1,a,h=>by
  rw[Qx];have m:=GU (n:=n) λk i=>a k (by lia);have p:=a n (by lia)
  by_cases e:t=n
  . lia
  .have:=FE (λk i=>a k<|by lia) (show t<n by lia);lia
def ZsC{y:Yd}(i:y.Ok)(gs:List Gs)(h:Qk)(m:t<y.T):ZA y gs h t<=MV y:=by
 have a:ZA y gs h t<=Zl y 0 t:=by unfold ZA passes;dsimp only;lia
 have b:=FE (f:=λt=>Zl y 0 t) (λk _=>Tn i 0 k) m;unfold MV;lia
theorem Cw(p:Qm):∀n,(((List.range n).filter p).length:Int)=Qx (λt=>if p t=true then 1 else 0) n
 |0=>rfl
 |n+1=>by
  rw[Wc,JU,Xy,Qx,Int.natCast_add,Cw p n];cases e:p n<;>simp[MJ,e]
def ZtW{y:Yd}(gs:List Gs)(a:Qk)(p:Int):(((List.range y.T).filter λt=>decide (ZA y gs a t > p)).length:Int)=Vc (ZA y gs a) y.T p:=by
 rw[Cw];unfold Vc;exact Zk λt _=>by simp
theorem Lu(g:Qn)(p:Int):∀n:Nat,Vc g n p<=n
 |0=>by simp[Vc,Qx]
 |n+1=>by
  have:=Lu g p n;unfold Vc at this ⊢;rw[Qx];split<;>lia
inductive R_shlow:List OT->OT->Prop
 |mk {y:Yd}{gs:List Gs}{sm:Qk}{p:Int}(ok:y.Ok)(hg:∀g∈gs,g.Ok y)(hs:SetOk gs sm)(hp:0<=p):
  R_shlow [.fz<|QL y,.fz<|.list<|gs.map QB,.fz<|.list<|QO sm,.fz<|.int p] (.fz<|.int<|Vg gs sm-VD (ZA y gs sm) y.T p)
def ZhH:Qo Zae Zae (Q5 SB):=by walk_at"p"
def ZtF(T:Bl mg)(ta:Df K mg "short_lowered" SB Zae)(q:Qv P w K mg base "short_of" Zah 5 (Qy (K:=K) R_short))(u:Qv P w K mg base "yard_lowered" ["yard","p"] 1 (Qy (K:=K) R_lowered)):Qv P w K mg base "short_lowered" Zae 6 (Qy (K:=K) R_shlow):=by
 refine ta.ev ZhH (λf R r h H H2 O A outer s v=>?_);cases h with
 |@mk y m i p a N C D=>
  refine⟨_,(Q0<|QH<|Q3 q v<|Qu (Q3 u v<|av 0<|av 3 Qq)<|av 1<|av 2 Qq),?_⟩;show QC K _ [_,_,_,_] _
  walk_at"x";refine Zh (Qr.cast (QJ (Qs (QJ (Qs (Qp rfl)<|Qs (Qp rfl) Q2)<|R_lowered.mk a)<|Qs (Qp rfl)<|Qs (Qp rfl) Q2)<|R_short.mk (Gg a D) (λg h=>Dn a (N g h) p) C) ?_) rfl;unfold D5 ZO VD;rw[Vk];have e:Qx (ZA (Z4 y p) m i) (Z4 y p).T=Qx (λt=>min (ZA y m i t) p) y.T:=Zk λt B=>Ch a m i p B;rw[<- e]
inductive R_held:List OT->OT->Prop
 |mk {y:Yd}{gs:List Gs}{sm:Qk}{p:Int}(ok:y.Ok)(hg:∀g∈gs,g.Ok y)(hs:SetOk gs sm):
  R_held [.fz<|QL y,.fz<|.list<|gs.map QB,.fz<|.list<|QO sm,.fz<|.int p] (.fz<|.int<|Vc (ZA y gs sm) y.T p)
def ZkJ:Qo Zae Zae (Q5 HA):=by walk_at"p"
def O3(T:Bl mg)(ta:Df K mg "turns_held" HA Zae)(q:Qv P w K mg base "turns_of" ZaV 1 (Qy (K:=K) R_turns))(u:Qv P w K mg base "given_at" Zak 3 (Qy (K:=K) R_given)):Qv P w K mg base "turns_held" Zae 4 (Qy (K:=K) R_held):=by
 refine ta.ev ZkJ (λf W r h H H2 R A outer s C=>?_);cases h with
 |@mk y m a p v O D=>
  refine⟨_,(Q0<|QH<|QW ZU (by rfl) T.len ZT<|Qu (ZD (NX:=Zae) (sc:=Q5 HA) (N:=["turn","p","yard","guests","some"]) (f:=[none,some 3,some 0,some 1,some 2]) rfl (by decide +kernel) rfl rfl (V1 rfl T.range<|Qu (Q3 q C<|av 0 Qq) Qq) (λ_=>(QK 0 (show(["turn","p","yard","guests","some"]:Qh).Nodup by decide +kernel))) (λ_=>Zm) (λ_=>(Ut<|Z7 Yq (Q3 u C<|av 2<|av 3<|av 4<|av 0 Qq) (pv 1)<|Zp _)) λ_=>(pv 0)) Qq),?_⟩;show QC K _ [_,_,_,_] _
  walk_at"x";have X:=v.t8;refine Zh (Qr.cast (YH<|EvO.fz<|JG (xs:=List.range y.T) (enc:=λ(t:Nat)=>PyData.int (t:Int)) (h:=λ(t:Nat)=>PyData.int (t:Int)) (p:=λt=>decide (ZA y m a t > p)) ?ei (by simp;lia) ?el) ?eq) rfl
  case ei=>
   refine EvI.cast (WN (Qs (QJ (Qs (Qp rfl) Q2) R_turns.mk) Q2) (by rw[z62];lia)<|by rw[z62];lia) ?_;rw[XF];unfold ZW;refine X6 λi _=>?_;rw[X9]
  case el=>
   intro t B c;have B:=Xw.mp B;refine⟨_,Zd,?_,λ_=>?_⟩
   .walk_at"e";have h:R_given [.fz<|QL y,.fz<|.list<|m.map QB,.fz<|.list<|QO a,.fz<|.int (t:Int)] (.fz<|.int<|ZA y m a t):=R_given.mk (t:=(t:Int)) v O D (by lia) (by lia);exact ZE (VA (QJ (Qs (Qp rfl)<|Qs (Qp rfl)<|Qs (Qp rfl)<|Qs (Qp rfl) Q2) h)<|Qp rfl)
   .walk_at"e";exact Qp rfl
  case eq=>
   rw[Xi,ZtW]
inductive R_rise:List OT->OT->Prop
 |mk {y:Yd}{gs:List Gs}{sm:Qk}{p:Int}(ok:y.Ok)(hg:∀g∈gs,g.Ok y)(hs:SetOk gs sm)(hp:0<=p)(hh:0<Vc (ZA y gs sm) y.T p):
  R_rise [.fz<|QL y,.fz<|.list<|gs.map QB,.fz<|.list<|QO sm,.fz<|.int p] (.fz<|.int<|UP (ZA y gs sm) y.T (Vg gs sm) p)
def CF:Qo ["yard","guests","some","p","held"] Zae (Q5 R8):=by walk_at"p"
def IC(T:Bl mg)(ta:Df K mg "rise_due" R8 Zae)(v:Qv P w K mg base "turns_held" Zae 4 (Qy (K:=K) R_held))(B:Qv P w K mg base "short_lowered" Zae 6 (Qy (K:=K) R_shlow)):Qv P w K mg base "rise_due" Zae 7 (Qy (K:=K) R_rise):=by
 refine ta.ev CF (λf X r h H H2 W A outer s D=>?_);cases h with
 |@mk y u m p q N C O R=>
  refine⟨_,(Qz (QM 4 CF.nd<|Q3 v D<|av 0<|av 1<|av 2<|av 3 Qq)
 (Q0<|QH<|QN Yv (QN Wj (QN Y5 (Q3 B D<|av 0<|av 1<|av 2<|av 3 Qq)<|pv 4) Qw)<|pv 4)),?_⟩
  show QC K _ [_,_,_,_,_] _
  walk_at"x";have Z:=q.t8;have e:=Lu (ZA y u m) p y.T;have i:∀{Y:ZcP},Y[0]?=some (zf<|QL y)->Y[1]?=some (zf<|.list<|u.map QB)->Y[2]?=some (zf<|.list<|QO m)->Y[3]?=some (zi p)->ZQ K (QX (QY 0)<|QX (QY 1)<|QX (QY 2)<|QX (QY 3) Zo) Y [.fz<|QL y,.fz<|.list<|u.map QB,.fz<|.list<|QO m,.fz<|.int p]:=λa b c d=>Qs (Qp a) (Qs (Qp b)<|Qs (Qp c)<|Qs (Qp d) Q2);refine Q9 (Z9 (QJ (i rfl rfl rfl rfl)<|R_held.mk q N C) ?_)
  walk_at"d";exact Zh (V3 (YE (YE (QJ (i rfl rfl rfl rfl)<|R_shlow.mk q N C O)<|Qp rfl) QG) (Qp rfl)<|Ae R<|by lia) rfl
def llP(a:List (Ql)):PyData:=.list ((a.map λr=>r.map PyData.int).map PyData.list)
structure PeakOk(y:Yd)(gs:List Gs)(p:Int)(sh:Qk):Prop where
 pk:IsPeak y gs p
 set:0<p->∃S,sh=Zb gs S/\0<ZB (Z4 y<|p-1) (Q4 gs) S
 no:p=0->sh=[]
inductive R_lpeak:List OT->(OT->Prop)->Prop
 |mk {y:Yd}{gs:List Gs}(ok:y.Ok)(hg:∀g∈gs,g.Ok y)(g8:gs.length<=8)(h:∀S,ZB y (Q4 gs) S<=0):R_lpeak [.fz<|QL y,.fz<|.list<|gs.map QB] (λr=>∃p φ sh,PeakOk y gs p sh/\Yl (Z4 y p) (Q4 gs) φ/\r=.fz (.tuple [.int p,llP<|V9 (Z4 y p) (Q4 gs) φ,.list<|QO sh]))
structure LoopP(y:Yd)(gs:List Gs)(p:Int)(sh:Qk):Prop where
 nn:0<=p
 set:0<p->∃S,sh=Zb gs S/\0<ZB (Z4 y<|p-1) (Q4 gs) S
 no:p=0->sh=[]
def Wr:Qo ["yard","guests","p","shown","some"] Zaa (Q5 RX):=by walk_at"p"
def Zt0(T:Bl mg)(ta:Df K mg "least_peak" RX Zaa)(Q:UK P w K mg base "refuse_lack" Zaa 7 (spX K CR "some" R_refuse X_refuse))(X:Qv P w K mg base "lacking_set" Zaa 6 (Z6 K R_lset))(O:Qv P w K mg base "yard_lowered" ["yard","p"] 1 (Qy (K:=K) R_lowered))(U:Qv P w K mg base "short_lowered" Zae 6 (Qy (K:=K) R_shlow))(M:Qv P w K mg base "rise_due" Zae 7 (Qy (K:=K) R_rise))(XbC:Qv P w K mg base "best_filling" Zaa 6 (Z6 K R_great)):
 UK P w K mg base "least_peak" Zaa 8 (spX K CR "some" R_lpeak X_refuse):=by
 refine ta.evZ Wr (λf H RR k Φ R h cdv A outer s B=>?_) (λf F H RR k Φ R hq h cdv A outer s B=>?_)
 .cases h with
  |@mk y q N J o h=>
   refine⟨_,(Qz (Vs<|TV Q B (P0 R)<|av 0<|av 1 Qq)
 (PSs.nox (Qz (QM 2 Wr.nd Qw)
 (Qz (QM 3 Wr.nd<|Vo Qq)
 (Qz (QM 4 Wr.nd<|Q3 X B<|Qu (Q3 O B<|av 0<|av 2 Qq)<|av 1 Qq)
 (Qz (JL zN (Z7 Yq (Q3 U B<|av 0<|av 1<|av 4<|av 2 Qq) Qw<|Zp _) (Qz (KH (i:=2) Wr.nd rfl Qa (Q3 M B<|av 0<|av 1<|av 4<|av 2 Qq) BW)
 (Qz (QM 3 Wr.nd<|pv 4)
 (Q0<|QM 4 Wr.nd<|Q3 X B<|Qu (Q3 O B<|av 0<|av 2 Qq)<|av 1 Qq))))
 (Q0<|QH<|Z1<|av 2<|Qu (Q3 XbC B<|Qu (Q3 O B<|av 0<|av 2 Qq)<|av 1 Qq)<|av 3 Qq))))))),?_⟩
   show QC K _ [_,_,_,_,_] _
   walk_at"x";have G:∀p g,g∈q->GOk (Z4 y p) g:=λp g h=>Md (Dn N (J g h) p);refine Q9 (OV (Zt1 (Qs (Qp rfl)<|Qs (Qp rfl) Q2) (R_refuse.mk N J o h) R) ?_);refine Q9 (Z9 (d:=.int 0) QG ?_)
   walk_at"d";refine Q9 (Vt (Ya (ds:=[]) Z2<|by decide) ?_);walk_at"d";refine VJ 3 rfl ?_;walk_at"d";have l:∀{Y:ZcP} {E':XK} {p:Int},Y[0]?=some (zf<|QL y)->Y[2]?=some (zi p)->Qr K (YC (Qy (K:=K) R_lowered) [] E'<|QX (QY 0)<|QX (QY 2) Zo) Y (QL<|Z4 y p):=λa b=>QJ (Qs (Qp a)<|Qs (Qp b) Q2) (R_lowered.mk N);refine Q9 (Yx (V7 (Qs (l rfl rfl)<|Qs (Qp rfl) Q2)<|R_lset.mk (Gg N<|UF _) (G 0) o) λr W=>?_);obtain⟨φ0,es0,fb0,rfl⟩:=W
   walk_at"d";refine GP (λZ=>∃p D,PeakOk y q p D/\∃u,Z=[zf<|QL y,zf<|.list<|q.map QB,zi p,zf<|.list<|QO D,u]) ?wh ?rt
   case rt=>
    rintro _ ⟨p,D,pk,u,rfl⟩;refine Mt (Φ:=λr=>∃p v D,PeakOk y q p D/\Yl (Z4 y p) (Q4 q) v/\r=.fz (.tuple [.int p,llP<|V9 (Z4 y p) (Q4 q) v,.list<|QO D])) (AS (ΦA:=λk=>∃v,Yl (Z4 y p) (Q4 q) v/\k=[.fz<|.int p,.fz<|llP<|V9 (Z4 y p) (Q4 q) v,.fz<|.list<|QO D]) (ZsS (Φ':=λk=>∃v,Yl (Z4 y p) (Q4 q) v/\k=[.fz<|llP<|V9 (Z4 y p) (Q4 q) v,.fz<|.list<|QO D]) (Qp rfl) (ZtK (V7 (Qs (l rfl rfl)<|Qs (Qp rfl) Q2)<|R_great.mk (Gg N pk.pk.nn) (G p) o) (Qs (Qp rfl) Q2)<|by rintro r ⟨v,C,e⟩;exact⟨llP<|V9 (Z4 y p) (Q4 q) v,by rw[e];rfl,v,C,rfl⟩)<|by rintro k ⟨v,C,e⟩;exact⟨v,C,by rw[e]⟩)<|by rintro k ⟨v,C,e⟩;exact⟨[.int p,llP<|V9 (Z4 y p) (Q4 q) v,.list<|QO D],e,by show(3:Nat)<=1000;decide,p,v,D,pk,C,rfl⟩) (λr W=>W)
   case wh=>
    refine Uz (λm Z=>∃p D v es,m=(MV y-p).toNat/\LoopP y q p D/\JB (Z4 y p) (Q4 q) v es/\Z=[zf<|QL y,zf<|.list<|q.map QB,zi p,zf<|.list<|QO D,some<|.ol<|QO<|Zb q<|QS es]) _ ⟨0,[],φ0,es0,rfl,⟨UF _,λz=>Xr z<|by decide,λ_=>rfl⟩,fb0,rfl⟩ ?_;rintro m _ ⟨p,D,v,es,rfl,I,L,rfl⟩;have nn:=I.nn;have E:=Gg N nn;have x:=Gn o (QS es);have sh0:=NZ N q (QS es) p;have hw:Vg q (Zb q<|QS es)<=Qx (ZA y q<|Zb q<|QS es) y.T:=by
     have:=h (QS es);rw[Zsw]at this;lia
    refine⟨decide (Vg q (Zb q<|QS es)-VD (ZA y q<|Zb q<|QS es) y.T p > 0),?tst,λc=>?_,λc=>?_⟩
    case tst=>
     refine NS 4 (r:=.ol (QO<|Zb q<|QS es)) rfl rfl ?_;walk_at"d";exact ZE (VA (QJ (Qs (Qp rfl)<|Qs (Qp rfl)<|Qs (Qp rfl)<|Qs (Qp rfl) Q2)<|R_shlow.mk N J x nn) QG)
    .have c:=XH c;have hp:=Ztx (g:=ZA y q (Zb q<|QS es)) (n:=y.T) (w:=Vg q (Zb q<|QS es)) (p:=p) (by lia) hw;have rp:=Zth (g:=ZA y q (Zb q<|QS es)) (n:=y.T) (w:=Vg q (Zb q<|QS es)) (p:=p) (by lia) hp;obtain⟨t,ht,hlt⟩:=Cr y.T hp;have gt:=ZsC N q (Zb q<|QS es) ht;have rs:=Zpf (g:=ZA y q (Zb q<|QS es)) (n:=y.T) (w:=Vg q (Zb q<|QS es)) (p:=p) (j:=UP (ZA y q<|Zb q<|QS es) y.T (Vg q<|Zb q<|QS es) p-1) hp (by lia) (by lia);refine VJ 4 rfl ?_;walk_at"d";refine Q9 (IY rfl (QJ (Qs (Qp rfl)<|Qs (Qp rfl)<|Qs (Qp rfl)<|Qs (Qp rfl) Q2)<|R_rise.mk N J x nn hp) ?_);walk_at"d";generalize hd:UP (ZA y q<|Zb q<|QS es) y.T (Vg q<|Zb q<|QS es) p=d at rp rs;refine Q9 (Z9 (Qp rfl) ?_);walk_at"d";refine Yx (V7 (Qs (l rfl rfl)<|Qs (Qp rfl) Q2)<|R_lset.mk (Gg N (show 0<=p+d by lia)) (G _) o) (λr W=>?_);obtain⟨φ',es',fb',rfl⟩:=W;walk_at"d";refine⟨(MV y-(p+d)).toNat,by lia,p+d,_,φ',es',rfl,⟨by lia,λ_=>⟨QS es,rfl,?_⟩,λz=>Xr z<|by lia⟩,fb',rfl⟩;rw[NZ N,show p+d-1=p+(d-1) by lia];lia
    .have c:=WA c;refine⟨p,D,⟨⟨nn,λS=>?_,λz=>?_⟩,I.set,I.no⟩,_,rfl⟩
     .have a:=Bk L.1 E (Y6<|G p) S;have e:Vx (Z4 y p) (Q4 q) v=ZB (Z4 y p) (Q4 q) (QS es):=L.1.lack E (Y6<|G p) L.2.2.1 L.2.1 L.2.2.2;lia
     .obtain⟨S,_,hS⟩:=I.set z;exact⟨S,hS⟩
 .have h0:=h;cases h with
  |@mk y q N J o S h=>
   refine⟨_,(Qz (Vs<|TV Q B (P0 R)<|av 0<|av 1 Qq)
 (PSs.nox (Qz (QM 2 Wr.nd Qw)
 (Qz (QM 3 Wr.nd<|Vo Qq)
 (Qz (QM 4 Wr.nd<|Q3 X B<|Qu (Q3 O B<|av 0<|av 2 Qq)<|av 1 Qq)
 (Qz (JL zN (Z7 Yq (Q3 U B<|av 0<|av 1<|av 4<|av 2 Qq) Qw<|Zp _) (Qz (KH (i:=2) Wr.nd rfl Qa (Q3 M B<|av 0<|av 1<|av 4<|av 2 Qq) BW)
 (Qz (QM 3 Wr.nd<|pv 4)
 (Q0<|QM 4 Wr.nd<|Q3 X B<|Qu (Q3 O B<|av 0<|av 2 Qq)<|av 1 Qq))))
 (Q0<|QH<|Z1<|av 2<|Qu (Q3 XbC B<|Qu (Q3 O B<|av 0<|av 2 Qq)<|av 1 Qq)<|av 3 Qq))))))),?_⟩
   show EvZ K F H _ [some _,some _,none,none,none]
   walk_at"x";exact Ei (IR (Qs (Qp rfl)<|Qs (Qp rfl) Q2) h0 R hq)
def wdB(w:Int)(l:Ln):Bool:=decide (w=2)||(decide (w%2=1)&&De (upD l.up))
def YL(w:Int)(T:Nat)(l:Ln):Ln:=if wdB w l=true then ⟨l.up,List.replicate T<|10^(30:Int).toNat-1⟩ else l
def wdY(w:Int)(y:Yd):Yd:=⟨y.T,y.ls.map<|YL w y.T⟩
def GF(ns:Ql):Int:=ZhK (Zw ns 23)%4
def Lc(w:Int)(T:Nat)(l:Ln):(YL w T l).up=l.up:=by unfold YL;split<;>rfl
def Tj(w:Int)(y:Yd)(k:Nat):QU (wdY w y) k=QU y k:=by
 unfold QU wdY;rw[Xp];cases e:y.ls[k]? with
 |none=>rfl
 |some l=>exact Lc w y.T l
def EX(w:Int)(y:Yd):(wdY w y).ls.length=y.ls.length:=by simp[wdY]
def AV{y:Yd}(a:y.Ok)(w:Int):(wdY w y).Ok:=by
 have h:=EX w y;refine⟨a.t1,a.t8,by rw[h];exact a.l1,by rw[h];exact a.l5,by rw[Tj];exact a.up0,λk r q=>?_,λl m=>?_,λl m b f=>?_⟩
 .rw[Tj];exact a.ups k r (by rw[h]at q;exact q)
 .obtain⟨i,p,rfl⟩:=Xk.mp m;unfold YL;split
  .exact List.length_replicate
  .exact a.bl i p
 .obtain⟨i,p,rfl⟩:=Xk.mp m;unfold YL at f;split at f
  .have e:=(List.mem_replicate.mp f).2;rw[e];exact⟨by decide +kernel,by decide +kernel⟩
  .exact a.bb i p b f
inductive R_wide:List OT->OT->Prop
 |mk {ns:Ql}{y:Yd}(ok:y.Ok):R_wide [.scr ns,.fz<|QL y] (.fz<|QL<|wdY (GF ns) y)
def Bq:Qo ["_law_script","_law_yard_here","_law_way","_law_lines","_law_above","_law_bounds"] Zaq (Q5 RM):=by walk_at"p"
def Ow(T:Bl mg)(ta:Df K mg "_law_wide" RM Zaq)(u:Qv P w K mg base "_law_cell_at" Zan 1 (Qy (K:=K) R_cell)):Qv P w K mg base "_law_wide" Zaq 2 (Qy (K:=K) R_wide):=by
 refine ta.ev Bq (λf Z r h H H2 X A outer s R=>?_);cases h with
 |@mk p y q=>
  refine⟨_,(Qz (QM 2 Bq.nd<|QN VO (QW BX (by rfl) T.abs Mb<|Qu (Q3 u R<|av 0<|Qu Qw Qq) Qq) Qw)
 (Qz (QM 3 Bq.nd<|Vo Qq)
 (Qz (ZV zN rfl (WI<|Q8 QA (pv 1) Qw) (VM (n:=2) rfl (Zt (QK 4 Bq.nd)<|Zt (QK 5 Bq.nd) VU)) (Qz (Zv (PW.pt<|WB (Z7 Y3 (pv 2) Qw<|Zp _)<|Jo<|PW.pt<|Dk (Z7 Y3 (QN VO (pv 2) Qw) Qw<|Zp _)<|DC<|Jg<|GS<|pv 4) (Q0<|QM 5 Bq.nd<|QN IF (Z1<|Qu (QN Wj (QN Dv Qw Qw) Qw) Qq)<|Q8 QA (pv 1) Qw) Zx)
 (Q0<|Vs<|Wi zP zS zT WU (pv 3)<|Qu (Z1<|av 4<|av 5 Qq) Qq)))
 (Q0<|QH<|Z1<|Qu (Q8 QA (pv 1) Qw)<|Qu (VB WS (by rfl) T.tuple Wn<|av 3 Qq) Qq)))),?_⟩
  show QC K _ [_,_,_,_,_,_] _
  walk_at"x";have O:=q.t1;have N:=q.t8;have g:=q.l5;refine Q9 (Z9 (d:=.int (GF p)) (V3 (PM<|QJ (BS rfl (Qs QG Q2))<|R_cell.mk<|by decide) QG<|mdl<|by decide) ?_);walk_at"d";generalize GF p=a;refine Q9 (Vt (Ya (ds:=[]) Z2<|by decide) ?_);walk_at"d";refine Q9 (V6 (ds:=y.ls.map Zc) (λi=>[some<|.scr p,zf<|QL y,zi a,some<|.ol<|(y.ls.take i).map λl=>Zc<|YL a y.T l,none,none]) (Uj<|Z5 (ds:=[PyData.int (y.T:Int),.tuple<|y.ls.map Zc]) (Qp rfl) QG rfl) ⟨rfl,rfl,rfl,rfl,trivial⟩ ?st ?fin)
  case st=>
   intro i d C;have B:i<y.ls.length:=by
    have:=(Xh.mp C).1;simpa using this
   obtain rfl:d=Zc y.ls[i]:=by simpa [B] using C.symm
   have D:y.ls.take (i+1)=y.ls.take i++[y.ls[i]]:=by rw[Y9];simp[B]
   rw[D,XB];have v:((y.ls.take i).map λl=>Zc<|YL a y.T l).length<1000:=by simp;lia
   generalize ((y.ls.take i).map λl=>Zc<|YL a y.T l)=Y at v;generalize y.ls[i]=l;refine⟨_,YO (ds:=[upD l.up,.tuple<|l.bs.map PyData.int]) (ZZ Zd<|ZZ Zd Wl) rfl,?_⟩;walk_at"d";refine GP (λm=>m=[some<|.scr p,zf<|QL y,zi a,some<|.ol Y,zf<|upD l.up,zf<|.tuple<|(YL a y.T l).bs.map PyData.int]) ?a1 ?b1
   case a1=>
    refine Zz (b:=wdB a l) (YS (ZE<|WK (Qp rfl) QG) λ_=>Dg (ZE<|WK (V3 (Qp rfl) QG<|mdl<|by decide) QG) λ_=>ZL<|J8<|Qp rfl) (λc=>?_) (λc=>Z3 ?_)
    .refine Z9 (IK (n:=y.T) (Vd (Za (YE (V3 QG QG<|Ki (by decide)<|by decide) QG) Z2) J1) (Z5 (ds:=[PyData.int (y.T:Int),.tuple<|y.ls.map Zc]) (Qp rfl) QG rfl) O N) ?_;walk_at"d";unfold YL;rw[Xf c,List.map_replicate]
    .unfold YL;rw[Xc<|by rw[c];decide]
   case b1=>
    rintro _ rfl;refine M1 rfl (Vd (Za (Qp rfl)<|Za (Qp rfl) Z2) YM) v ?_;walk_at"d";refine⟨rfl,rfl,rfl,?_,trivial⟩;have e:Zc (YL a y.T l)=.tuple [upD l.up,.tuple<|(YL a y.T l).bs.map PyData.int]:=by unfold Zc;rw[Lc]
    rw[<- e];rfl
  case fin=>
   intro m W;refine Yf W ?_;rw[Xi,XX];refine Zh (Qr.cast (Vd (Za (Z5 (ds:=[PyData.int (y.T:Int),.tuple<|y.ls.map Zc]) (Qp rfl) QG rfl)<|Za (KJ rfl) Z2) YM) ?_) rfl;unfold QL wdY;rw[Xm];rfl
inductive R_lgivt:List OT->OT->Prop
 |mk {y:Yd}{gs:List Gs}{sm:Qk}{t:Nat}(ok:y.Ok)(hg:∀g∈gs,g.Ok y)(hs:SetOk gs sm)(ht:t<y.T):
  R_lgivt [.fz<|QL y,.fz<|.list<|gs.map QB,.fz<|.list<|QO sm,.fz<|.int (t:Int)] (.fz<|.int<|ZA y gs sm t)
def Zq8{f:Type}(a:f)(n:Nat):List.replicate n a=(List.range n).map λ_=>a:=by
 apply List.ext_getElem?;intro i;by_cases h:i<n
 .simp[h]
 .simp[h]
def WV:Qo ["_law_yard_here","_law_guests_here","_law_some","_law_turn","_law_lines","_law_reach","_law_k","_law_line","_law_first","_law_last","_law_want","_law_most","_law_above"] Zar (Q5 Sd):=by walk_at"p"
def Zu2(T:Bl mg)(ta:Df K mg "_law_given" Sd Zar):Qv P w K mg base "_law_given" Zar 1 (Qy (K:=K) R_lgivt):=by
 refine ta.ev WV (λf Q r h H H2 M A outer s hr=>?_);cases h with
 |@mk y p m t u F g x=>
  refine⟨_,(Qz (QM 4 WV.nd<|Q8 QA (pv 0) Qw)
 (Qz (QM 5 WV.nd<|QN E5 (Vo<|Qu Qw Qq)<|QW ZU (by rfl) T.len ZT<|av 4 Qq)
 (Qz (ZV zN rfl (ZN<|pv 2) (QK 6 WV.nd) (Qz (Jj (Q8 QA (pv 1)<|pv 6)<|VM (n:=5) rfl (Zt (QK 7 WV.nd)<|Zt (QK 8 WV.nd)<|Zt (QK 9 WV.nd)<|Zt (QK 10 WV.nd)<|Zt (QK 11 WV.nd) VU))
 (Q0<|Zv (NB J7 J7 (pv 8) (pv 3)<|pv 9) (Q0<|Jj (QN Y5 (Q8 QA (pv 5)<|pv 7)<|pv 11)<|Tz (pv 5) (pv 7) Bh) Zx)))
 (Qz (ZV zN rfl (FH rfl T.range<|Qu (QN Wj (QW ZU (by rfl) T.len ZT<|av 4 Qq) Qw)<|Qu Qw<|Qu (PH Th Qw) Qq) (QK 7 WV.nd) (Qz (QM 12 WV.nd<|Q8 QA (Q8 QA (pv 4)<|pv 7) Qw)
 (Q0<|Jj (QN Y5 (Q8 QA (pv 5)<|pv 12)<|QW (GR rfl) (by rfl) T.min Gb<|Qu (Q8 QA (Q8 QA (Q8 QA (pv 4)<|pv 7) Qw)<|pv 3)<|Qu (Q8 QA (pv 5)<|pv 7) Qq)<|Tz (pv 5) (pv 12) Bh)))
 (Q0<|QH<|QW (GR rfl) (by rfl) T.min Gb<|Qu (Q8 QA (Q8 QA (Q8 QA (pv 4) Qw) Qw)<|pv 3)<|Qu (Q8 QA (pv 5) Qw) Qq))))),?_⟩
  show QC K _ [_,_,_,_,_,_,_,_,_,_,_,_,_] _
  walk_at"x";have l1:=u.l1;have l5:=u.l5;have S:=u.t8;have U:=g.len;have v:(y.ls.map Zc).length=y.ls.length:=by simp
  refine Q9 (Z9 (Z5 (ds:=[PyData.int (y.T:Int),.tuple<|y.ls.map Zc]) (Qp rfl) QG rfl) ?_);walk_at"d";refine Q9 (Vt (EvO.cast (AL (ds:=[.int 0]) (k:=(y.ls.length:Int)) (EvO.fz<|Ya (ds:=[.int 0]) (Za QG Z2) J1) (Qr.cast (Dz<|Qp rfl)<|by rw[v]) (by lia) (by show 1*_<=1000;lia)<|by lia) (d':=.ol ((List.range y.ls.length).map λl=>PyData.int<|Z0 p (t:Int) l [])) ?e0) ?_)
  case e0=>
   rw[Lp,XF,Zq8];rfl
  walk_at"d";refine Q9 (V6 (λi=>[zf<|QL y,zf<|.list<|p.map QB,zf<|.list<|QO m,zi (t:Int),zf<|.tuple<|y.ls.map Zc,some<|.ol<|(List.range y.ls.length).map λl=>PyData.int<|Z0 p (t:Int) l<|m.take i,none,none,none,none,none,none,none]) (by walk_at"ei") ⟨rfl,rfl,rfl,rfl,rfl,rfl,trivial⟩ ?st3 ?fin3)
  case st3=>
   intro i d D;have C:i<m.length:=by
    have:=(Xh.mp D).1;simpa [QO] using this
   obtain rfl:d=.int ((m[i]:Nat):Int):=by simpa [QO,C] using D.symm
   have B:m[i]<p.length:=g.mem _ (XL C);refine⟨_,by walk_at"g",?_⟩;walk_at"d";have O:m.take (i+1)=m.take i++[m[i]]:=by rw[Y9];simp[C]
   have L:p.getD ((m[i]:Nat):Int).toNat default=p[m[i]]:=by simp[B]
   walk_at"s1";rw[L];have Z:=F p[m[i]] (XL B);have gl:=Z.ln;have e:Yg p[m[i]] (t:Int)=(decide ((p[m[i]].first:Int)<=(t:Int))&&decide ((t:Int)<=(p[m[i]].last:Int))):=rfl;walk_at"if"
   .intro c;rw[<- e]at c;walk_at"s1";refine⟨rfl,rfl,rfl,rfl,rfl,?_,trivial⟩;rw[XF];refine XS (λz=>some<|OT.ol z) (DD gl (λl E R=>?_) ?_)
    .rw[O,Gu];simp[Z0,B,Ne.symm R]
    .rw[O,Gu];simp[Z0,B,c]
   .intro c;rw[<- e]at c;refine Z3 ⟨rfl,rfl,rfl,rfl,rfl,?_,trivial⟩;refine XS (λz=>some<|OT.ol z) (X6 λl _=>?_);rw[O,Gu];simp[Z0,B,c]
  case fin3=>
   intro N W;refine Yf W ?_;have I:(QO m).length=m.length:=by simp[QO]
   rw[I,XX];refine Q9 (V6 (ds:=J6 ((y.ls.length:Int)-1) (y.ls.length-1)) (λi=>[zf<|QL y,zf<|.list<|p.map QB,zf<|.list<|QO m,zi (t:Int),zf<|.tuple<|y.ls.map Zc,some<|.ol<|(List.range y.ls.length).map λl=>PyData.int<|ZK y (λk=>Zl y k t) (W2 p t m) i l,none,none,none,none,none,none,none]) ?ei4 ⟨rfl,rfl,rfl,rfl,rfl,rfl,trivial⟩ ?st4 ?fin4)
   case ei4=>apply EvI.cast;walk_at"ei";rw[v];exact Fq rfl (by lia)
   case st4=>
    intro i d D;obtain⟨C,rfl⟩:=NJ D;refine⟨_,by walk_at"g",?_⟩;walk_at"d";have J:(y.ls.length:Int)-1-(i:Int)=((y.ls.length-1-i:Nat):Int):=by lia
    rw[J];generalize o:y.ls.length-1-i=j;have q:j<y.ls.length:=by lia
    have X:(y.ls.getD ((j:Nat):Int).toNat default).bs.length=y.T:=by rw[XF];exact Mv u q
    have Y:(y.ls.getD ((j:Nat):Int).toNat default).bs.getD ((t:Nat):Int).toNat 0=Zl y j t:=by
     rw[XF,XF];exact(Bp q).symm
    obtain⟨a,b,la⟩:=u.ups j (by lia) q;have G:upD (y.ls.getD ((j:Nat):Int).toNat default).up=.int (a:Int):=by
     have:(Vb y j).up=some a:=by rw[<- DX q];exact b
     rw[XF];show upD (Vb y j).up=_;rw[this];rfl
    walk_at"s1";rw[G];walk_at"s1";refine⟨rfl,rfl,rfl,rfl,rfl,?_,trivial⟩;rw[XF];refine XS (λz=>some<|OT.ol z) (DD (by lia) (λl E R=>?_) ?_)
    .simp only[ZK,YU,o];rw[b,Xc<|by simpa using λz=>R z.symm];lia
    .simp only[ZK,YU,o];rw[b,Xf rfl,Y,XF,Int.min_comm]
   case fin4=>
    intro N W;refine Yf W ?_;rw[N7];have X:(y.ls.getD (0:Int).toNat default).bs.length=y.T:=Mv u (show 0<y.ls.length by lia);have Y:(y.ls.getD (0:Int).toNat default).bs.getD ((t:Nat):Int).toNat 0=Zl y 0 t:=by
     rw[XF];exact(Bp (show 0<y.ls.length by lia)).symm
    walk_at"ret";show OT.fz (PyData.int _)=OT.fz (PyData.int _);rw[Y];unfold ZA passes VI;rw[Int.min_comm];rfl
inductive R_whole:List OT->OT->Prop
 |mk {i:Int}:R_whole [.fz<|.int i] (.fz<|.bool true)
def ZkG:Qo Zbw Zbw (Q5 RV):=by walk_at"p"
def O6(T:Bl mg)(ta:Df K mg "_law_whole" RV Zbw):Qv P w K mg base "_law_whole" Zbw 1 (Qy (K:=K) R_whole):=by
 refine ta.ev ZkG (λf m r h H H2 a A outer s p=>?_);cases h with
 |@mk i=>
  refine⟨_,(Q0<|QH<|Ys (QW Um (by rfl) T.isi J9<|av 0<|Qu (JJ (v:=.ty "int") rfl T.int GO rfl) Qq)<|Y4<|KL<|QW Um (by rfl) T.isi J9<|av 0<|Qu (JJ (v:=.ty "bool") rfl T.bool Lq rfl) Qq),?_⟩;show QC K _ [_] _
  walk_at"ret";rfl
inductive R_lsht:List OT->OT->Prop
 |mk {y:Yd}{gs:List Gs}{sm:Qk}(ok:y.Ok)(hg:∀g∈gs,g.Ok y)(hs:SetOk gs sm):R_lsht [.fz<|QL y,.fz<|.list<|gs.map QB,.fz<|.list<|QO sm] (.fz<|.int<|Vg gs sm-ZO y gs sm)
def CV:Qo Zas Zam (Q5 MB):=by walk_at"p"
def EM(T:Bl mg)(ta:Df K mg "_law_short" MB Zam)(p:Qv P w K mg base "_law_given" Zar 1 (Qy (K:=K) R_lgivt)):Qv P w K mg base "_law_short" Zam 2 (Qy (K:=K) R_lsht):=by
 refine ta.ev CV (λf W r h H H2 R A outer s B=>?_);cases h with
 |@mk y a i q O m=>
  refine⟨_,(Qz (QM 3 CV.nd<|QW YX (by rfl) T.sum YY<|Qu (ZD (NX:=Zas) (sc:=Q5 MB) (N:=["_law_k","_law_guests_here"]) (f:=[none,some 1]) rfl (by decide +kernel) rfl rfl (ZN<|pv 2) (λ_=>(QK 0 (show(["_law_k","_law_guests_here"]:Qh).Nodup by decide +kernel))) (λ_=>Zm) (λ_=>ZC) λ_=>(Q8 QA (Q8 QA (pv 1)<|pv 0) Qw)) Qq)
 (Q0<|QH<|QN Wj (pv 3)<|QW YX (by rfl) T.sum YY<|Qu (ZD (NX:=Zas) (sc:=Q5 MB) (N:=ZaG) (f:=[none,some 0,some 1,some 2]) rfl (by decide +kernel) rfl rfl (V1 rfl T.range<|Qu (Q8 QA (pv 0) Qw) Qq) (λ_=>(QK 0 (show(ZaG:Qh).Nodup by decide +kernel))) (λ_=>Zm) (λ_=>ZC) λ_=>(Q3 p B<|av 1<|av 2<|av 3<|av 0 Qq)) Qq)),?_⟩
  show QC K _ [_,_,_,_] _
  walk_at"x";have Y:=m.len;have X:=q.t8;refine Q9 (Z9 (d:=.int (Vg a i)) (YV (ns:=i.map λk=>(a.getD k default).want) (Qr.cast (EvO.fz<|ZI (xs:=i) (enc:=λ(k:Nat)=>PyData.int (k:Int)) (h:=λk=>.int (a.getD k default).want) ?ei (by lia) ?el)<|by rw[Xm];rfl) rfl) ?_)
  case ei=>exact Va (Qp rfl)
  case el=>
   intro k D c;have C:=m.mem k D;refine⟨_,Zd,?_⟩;walk_at"e";have u:atI (a.map QB) (k:Int)=some (QB<|a.getD k default):=by rw[Uq (f:=QB) (by lia)<|by lia,XF]
   exact Z5 (ds:=[.int ((a.getD k default).line:Int),.int ((a.getD k default).first:Int),.int ((a.getD k default).last:Int),.int (a.getD k default).want,.int (a.getD k default).most]) (Ve (Qp rfl) (Qp rfl) u) QG rfl
  walk_at"d";refine Zh (YE (Qp rfl)<|YV (ns:=(List.range y.T).map λt=>ZA y a i t) (Qr.cast (EvO.fz<|Dj (lo:=0) (n:=y.T) (h:=λt=>.int<|ZA y a i t) ?ei2 (by lia) ?el2)<|by rw[Xm];rfl) rfl) rfl
  case ei2=>exact EvI.cast (WN (Qs (Z5 (ds:=[PyData.int (y.T:Int),.tuple<|y.ls.map Zc]) (Qp rfl) QG rfl) Q2) (by rw[z62];lia)<|by rw[z62];lia) (Wp rfl (by lia))
  case el2=>
   intro t v c;refine⟨_,Zd,?_⟩;walk_at"e";rw[X9];exact QJ (Qs (Qp rfl)<|Qs (Qp rfl)<|Qs (Qp rfl)<|Qs (Qp rfl) Q2) (R_lgivt.mk q O m v)
inductive R_up:List OT->OT->Prop
 |mk {y:Yd}{k:Nat}(ok:y.Ok)(hk:k<y.ls.length):R_up [.fz<|QL y,.fz<|.int (k:Int)] (.ol<|QO<|upL y k)
def R4:Qo ["_law_yard_here","_law_line","_law_found"] ZaI (Q5 NU):=by walk_at"p"
def Z0n(T:Bl mg)(ta:Df K mg "_law_up" NU ZaI):Qv P w K mg base "_law_up" ZaI 1 (Qy (K:=K) R_up):=by
 refine ta.ev R4 (λf O r h H H2 N A outer s Y=>?_);cases h with
 |@mk y k q d=>
  refine⟨_,(Qz (QM 2 R4.nd<|Vo Qq)
 (Qz (JL zN (Jg<|DF<|pv 1) (Qz (Vs<|Wi zP zS zT WU (pv 2)<|av 1 Qq)
 (Q0<|QM 1 R4.nd<|Q8 QA (Q8 QA (Q8 QA (pv 0) Qw)<|pv 1) Qw)))
 (Q0<|QH<|pv 2))),?_⟩
  show QC K _ [_,_,_] _
  walk_at"x";have X:=q.l5;walk_at"s1";refine Q9 (Uz (λm p=>∃i:Qk,m<=y.ls.length/\i.length+m<=10/\i++(if m=0 then [] else upL y<|m-1)=upL y k/\p=[zf<|QL y,zf (if m=0 then .none else .int ((m-1:Nat):Int)),some<|.ol<|QO i]) (k+1) ⟨[],by lia,by simp;lia,by simp,by simp[QO]⟩ ?_);rintro m p ⟨i,Z,b,u,rfl⟩;have R:(QO i).length=i.length:=by simp[QO]
  by_cases C:m=0
  .subst C;refine⟨false,?_,λc=>(nomatch c),λ_=>?_⟩
   .show Zf K _ [some _,zf .none,some _] _
    apply Zf.cast
    .walk_at"et"
    .rfl
   .show QC K _ [some _,zf .none,some _] _
    walk_at"ret";show _=_;rw[Xf rfl,XN]at u;rw[u]
  .obtain⟨j,rfl⟩:∃j,m=j+1:=⟨m-1,by lia⟩
   rw[Xc<|by lia,HY];rw[Xc<|by lia,HY]at u;refine⟨true,?_,λ_=>?_,λc=>(nomatch c)⟩
   .apply Zf.cast
    .walk_at"et"
    .rfl
   walk_at"s1";walk_at"s1";rw[XF];have D:(y.ls.getD j default).up=QU y j:=(DX<|by lia).symm;rw[D];by_cases v:j=0
   .subst v;refine⟨0,by lia,i++[0],by lia,by simp;lia,?_,?_⟩
    .rw[<- u,Dx q<|by lia,Xf rfl];simp
    .rw[q.up0,Xf rfl];simp[QO,upD]
   .obtain⟨a,B,W⟩:=q.ups j (by lia) (by lia);refine⟨a+1,by lia,i++[j],by lia,by simp;lia,?_,?_⟩
    .rw[<- u,Dx q (k:=j)<|by lia,Xc v,B,Xc<|by lia,HY];simp
    .rw[B,Xc<|by lia,HY];simp[QO,upD]
def Vw(n T:Nat)(f:Nat->Qn):List (Qd):=(List.range n).map λk=>(List.range T).map λt=>PyData.int (f k t)
def Zrd(n T:Nat)(f:Nat->Qn):(Vw n T f).length=n:=by simp[Vw]
def FP(f:Nat->Qn)(a:k<n):(Vw n T f)[k]?=some ((List.range T).map λt=>PyData.int<|f k t):=by simp[Vw,a]
def gAt(gs:List Gs)(i:Nat):Gs:=gs.getD i default
structure FillOk(y:Yd)(gs:List Gs)(k:Int)(f:Nat->Qn):Prop where
 sum:∀i,i<gs.length->Qx (f i) y.T<=(gAt gs i).want*k
 item:∀i t,i<gs.length->t<y.T->0<=f i t/\f i t<=(gAt gs i).most*k*(if Yg (gAt gs i) (t:Int)=true then 1 else 0)
 load:∀l t,l<y.ls.length->t<y.T->Vi y gs.length (λi=>(gAt gs i).line) (λi=>f i t) l<=Zl y l t*k
theorem Rj{y:Yd}(ok:y.Ok)(hg:∀g∈gs,GOk y g)(F:Flow y (Q4 gs) φ):FillOk y gs 1 λk t=>Zq (Q4 gs) φ t k where
 sum i hi:=by
  rw[F.total (show i<(Q4 gs).m from hi),Ws];exact(F.want (show i<(Q4 gs).m from hi)).2
 item i t hi ht:=by
  obtain⟨a,b⟩:=F.tak (show i<(Q4 gs).m from hi) ht;refine⟨a,?_⟩;rw[Ws];unfold moT at b;have e:(Q4 gs).th i t=Yg (gAt gs i) (t:Int):=rfl;have f:(Q4 gs).mo i=(gAt gs i).most:=rfl;rw[e,f]at b;by_cases c:Yg (gAt gs i) (t:Int)=true
  .rw[Xf c]at b ⊢;lia
  .rw[Xc c]at b ⊢;lia
 load l t hl ht:=by
  rw[Ws];exact F.load ok (Y6 hg) ht hl
inductive R_lfault:List OT->OT->Prop
 |mk {y:Yd}{gs:List Gs}{tk:Nat->Qn}(ok:y.Ok)(hg:∀g∈gs,g.Ok y)(g8:gs.length<=8)(fo:FillOk y gs 1 tk):R_lfault [.fz<|QL y,.fz<|.list<|gs.map QB,.fz<|.list<|(Vw gs.length y.T tk).map PyData.list] (.fz .none)
def W8:Qo Zai Zab (Q5 HF):=by walk_at"p"
def Zq9(T:Bl mg)(ta:Df K mg "_law_fault" HF Zab)(F:Qv P w K mg base "_law_up" ZaI 1 (Qy (K:=K) R_up)):Qv P w K mg base "_law_fault" Zab 2 (Qy (K:=K) R_lfault):=by
 refine ta.ev W8 (λf ts r h H H2 cdv A outer s U=>?_);cases h with
 |@mk y a u j I g8 E=>
  refine⟨_,(Qz (ZV zN rfl (V1 rfl T.range<|Qu (QW ZU (by rfl) T.len ZT<|av 1 Qq) Qq) (QK 3 W8.nd) (Qz (Jj (Q8 QA (pv 1)<|pv 3)<|VM (n:=5) rfl (Zt (QK 4 W8.nd)<|Zt (QK 5 W8.nd)<|Zt (QK 6 W8.nd)<|Zt (QK 7 W8.nd)<|Zt (QK 8 W8.nd) VU))
 (Qz (ZV zN rfl (V1 rfl T.range<|Qu (Q8 QA (pv 0) Qw) Qq) (QK 9 W8.nd) (Qz (QM 10 W8.nd<|Q8 QA (Q8 QA (pv 2)<|pv 3)<|pv 9)
 (Qz (Zv (Z7 Uf (pv 10) Qw<|Zp _) (Q0<|QH<|Z1<|Qu Vu<|av 3<|av 9 Qq) Zx)
 (Qz (Zv (PW.pt<|Dk (Z7 Jb (pv 10) Qw<|Zp _)<|DC<|PW.pt<|WB (Z7 Uf (pv 9) (pv 5)<|Zp _)<|Jo<|Z7 Yq (pv 9) (pv 6)<|Zp _) (Q0<|QH<|Z1<|Qu Vu<|av 3<|av 9 Qq) Zx)
 (Q0<|Zv (Z7 Yq (pv 10) (pv 8)<|Zp _) (Q0<|QH<|Z1<|Qu Vu<|av 3<|av 9 Qq) Zx)))))
 (Q0<|Zv (Z7 Yq (QW YX (by rfl) T.sum YY<|Qu (Q8 QA (pv 2)<|pv 3) Qq) (pv 7)<|Zp _) (Q0<|QH<|Z1<|Qu Vu<|av 3 Qq) Zx))))
 (Qz (ZV zN rfl (V1 rfl T.range<|Qu (QW ZU (by rfl) T.len ZT<|Qu (Q8 QA (pv 0) Qw) Qq) Qq) (QK 4 W8.nd) (Q0 (ZV zN rfl (V1 rfl T.range<|Qu (Q8 QA (pv 0) Qw) Qq) (QK 9 W8.nd) (Qz (QM 11 W8.nd<|QW YX (by rfl) T.sum YY<|Qu (ZD (NX:=Zai) (sc:=Q5 HF) (N:=Zaw) (f:=[none,some 9,some 4,some 2,some 0,some 1]) rfl (by decide +kernel) rfl rfl (V1 rfl T.range<|Qu (QW ZU (by rfl) T.len ZT<|av 1 Qq) Qq) (λ_=>(QK 0 (show(Zaw:Qh).Nodup by decide +kernel))) (λ_=>Zm) (λ_=>(Ut<|Z7 ZsD (pv 2) (Q3 F U<|av 4<|Qu (Q8 QA (Q8 QA (pv 5)<|pv 0) Qw) Qq) rfl)) λ_=>(Q8 QA (Q8 QA (pv 3)<|pv 0)<|pv 1)) Qq)
 (Q0<|Zv (Z7 Yq (pv 11) (Q8 QA (Q8 QA (Q8 QA (Q8 QA (pv 0) Qw)<|pv 4) Qw)<|pv 9)<|Zp _) (Q0<|QH<|Z1<|Qu Vu<|av 4<|av 9 Qq) Zx)))))
 (Q0<|QH Gf))),?_⟩
  show QC K _ [_,_,_,_,_,_,_,_,_,_,_,_] _
  walk_at"x";have t8:=j.t8;have l5:=j.l5;have gl:(a.map QB).length=a.length:=by simp
  have M:(y.ls.map Zc).length=y.ls.length:=by simp
  have Z:∀k:Nat,k<a.length->atI (a.map QB) (k:Int)=some (QB<|gAt a k):=λk m=>by
   rw[Uq (by lia)<|by lia,XF];rfl
  have C:∀k:Nat,k<a.length->atI ((Vw a.length y.T u).map PyData.list) (k:Int)=some (.list<|((List.range y.T).map (u k)).map PyData.int):=λk m=>V5 (by rw[Xp,FP _ m,Xm];rfl);have e:∀k t:Nat,t<y.T->atI (((List.range y.T).map (u k)).map PyData.int) (t:Int)=some (.int<|u k t):=λk t q=>V5 (by simp[q]);generalize hF:(Vw a.length y.T u).map PyData.list=R at C;refine Q9 (V6 (ds:=ZW 0 a.length) (λi=>[zf<|QL y,zf<|.list<|a.map QB,zf<|.list R,none,none,none,none,none,none,none,none,none]) ?ei ⟨rfl,rfl,rfl,trivial⟩ ?stE ?finE)
  case ei=>
   apply EvI.cast
   .walk_at"ei"
   .rw[gl];exact Wp rfl (by lia)
  case stE=>
   intro k d O;obtain⟨m,rfl⟩:=YJ O;rw[X9];have Y:=Z k m;have X:=C k m;have J:=E.sum k m;have G:=λt q=>E.item k t m q;have ft:=λt q=>e k t q;have L:=(I _ (show gAt a k∈a by simp[gAt,List.getD,m])).m1;generalize gAt a k=g at Y J G L;refine⟨_,by walk_at"g",?_⟩
   walk_at"d";refine Q9 (Dd (Ve (ds:=a.map QB) (Qp rfl) (Qp rfl) Y) (by walk_at"g") ?_);walk_at"d";refine Q9 (V6 (ds:=ZW 0 y.T) (λi=>[zf<|QL y,zf<|.list<|a.map QB,zf<|.list R,zi (k:Int),zi (g.line:Int),zi (g.first:Int),zi (g.last:Int),zi g.want,zi g.most,none,none,none]) ?ei2 ⟨rfl,rfl,rfl,rfl,rfl,rfl,rfl,rfl,rfl,trivial⟩ ?st2 ?fin2)
   case ei2=>
    apply EvI.cast
    .walk_at"ei"
    .exact Wp rfl (by lia)
   case st2=>
    intro t d O;obtain⟨q,rfl⟩:=YJ O;rw[X9];refine⟨_,by walk_at"g",?_⟩;walk_at"d";refine Q9 (Z9 (Ve (Ve (ds:=R) (Qp rfl) (Qp rfl) X) (Qp rfl)<|ft t q) ?_);walk_at"d";obtain⟨S,W⟩:=G t q;rw[Ws]at W;generalize u k t=v at S W;refine Q9 (Zz (b:=false) (Zf.cast (ZE<|VA (Qp rfl) QG)<|Xo<|by lia) (by rintro⟨⟩) λ_=>Z3 ?_);refine Q9 (Zz (b:=false) ?_ (by rintro⟨⟩) λ_=>Z3 ?_)
    .apply Zf.cast
     .walk_at"et"
     .have:((!decide (v=0))&&(decide ((t:Int)<(g.first:Int))||decide ((t:Int) > (g.last:Int))))=false:=by
       unfold Yg at W;by_cases c:v=0
       .simp[c]
       .have:(decide ((g.first:Int)<=(t:Int))&&decide ((t:Int)<=(g.last:Int)))=true:=by
         by_cases z:(decide ((g.first:Int)<=(t:Int))&&decide ((t:Int)<=(g.last:Int)))=true
         .exact z
         .rw[Xc z]at W;lia
        simp only[Jy,decide_eq_true_eq]at this;rw[Bool.eq_false_iff];simp only[ne_eq,Jy,Bool.or_eq_true,Bool.not_eq_true',decide_eq_true_eq,decide_eq_false_iff_not,gt_iff_lt];lia
      exact this
    refine Zz (b:=false) (Zf.cast (ZE<|VA (Qp rfl)<|Qp rfl)<|Xo ?_) (by rintro⟨⟩) (λ_=>Z3 ⟨rfl,rfl,rfl,rfl,rfl,rfl,rfl,rfl,rfl,trivial⟩);show ¬g.most<v
    split at W<;>lia
   case fin2=>
    intro B D;refine Yf D ?_;refine Zz (b:=false) (Zf.cast (ZE<|VA (YV (ns:=(List.range y.T).map (u k)) (Ve (ds:=R) (Qp rfl) (Qp rfl) X) rfl)<|Qp rfl)<|Xo ?_) (by rintro⟨⟩) (λ_=>Z3 ⟨rfl,rfl,rfl,trivial⟩);rw[Vk];show ¬g.want<_
    lia
  case finE=>
   intro B D;refine Yf D ?_;refine Q9 (V6 (ds:=ZW 0 y.ls.length) (λi=>[zf<|QL y,zf<|.list<|a.map QB,zf<|.list R,none,none,none,none,none,none,none,none,none]) ?ei3 ⟨rfl,rfl,rfl,trivial⟩ ?st3 ?fin3)
   case ei3=>
    apply EvI.cast
    .walk_at"ei"
    .rw[M];exact Wp rfl (by lia)
   case st3=>
    intro l d O;obtain⟨x,rfl⟩:=YJ O;rw[X9];refine⟨_,by walk_at"g",?_⟩;walk_at"d";refine V6 (ds:=ZW 0 y.T) (λi=>[zf<|QL y,zf<|.list<|a.map QB,zf<|.list R,none,zi (l:Int),none,none,none,none,none,none,none]) ?ei4 ⟨rfl,rfl,rfl,rfl,trivial⟩ ?st4 ?fin4
    case ei4=>
     apply EvI.cast
     .walk_at"ei"
     .exact Wp rfl (by lia)
    case st4=>
     intro t d O;obtain⟨q,rfl⟩:=YJ O;rw[X9];refine⟨_,by walk_at"g",?_⟩;walk_at"d";have Q:=E.load l t x q;rw[Ws]at Q;refine Q9 (Z9 (d:=.int (Vi y a.length (λi=>(gAt a i).line) (λi=>u i t) l)) (Qr.cast (YV (ns:=((List.range a.length).filter λk=>decide (l∈upL y (gAt a k).line)).map λk=>u k t) (EvO.fz<|EvO.cast (JG (xs:=List.range a.length) (enc:=λ(k:Nat)=>.int (k:Int)) (h:=λk=>.int<|u k t) (p:=λk=>decide (l∈upL y (gAt a k).line)) (EvI.cast (by walk_at"ei") ?eq5) (by simp;lia) ?el5)<|by rw[Xm];rfl) rfl) ?eq6) ?_)
     case eq5=>
      rw[gl];simp[ZW]
     case el5=>
      intro k m c;have m:=Xw.mp m;have o:=(I _ (show gAt a k∈a by simp[gAt,List.getD,m])).ln;refine⟨_,by walk_at"g",?_,λ_=>?_⟩
      .walk_at"e";exact ZE (Ph (Qp rfl)<|JI (Qs (Qp rfl)<|Qs (Z5 (Ve (Qp rfl) (Qp rfl)<|Z k m) QG rfl) Q2)<|R_up.mk j o)
      .walk_at"e";exact Ve (Ve (ds:=R) (Qp rfl) (Qp rfl)<|C k m) (Qp rfl) (e k t q)
     case eq6=>
      rw[Gq];unfold Vi ind;refine XS PyData.int (Zk λk _=>?_)
      by_cases z:l∈upL y (gAt a k).line<;>simp[z,QV]
     walk_at"d";have hbt:(Vb y l).bs.length=y.T:=Mv j x;refine Zz (b:=false) ?_ (by rintro⟨⟩) (λ_=>Z3 ⟨rfl,rfl,rfl,rfl,trivial⟩);apply Zf.cast
     .exact ZE (VA (Qp rfl) (Z5 (d:=.int (Zl y l t)) (ds:=(Vb y l).bs.map PyData.int) (Z5 (ds:=[upD (Vb y l).up,.tuple<|(Vb y l).bs.map PyData.int]) (Z5 (ds:=y.ls.map Zc) (Z5 (ds:=[.int (y.T:Int),.tuple<|y.ls.map Zc]) (Qp rfl) QG rfl) (Qp rfl) (by
       rw[Uq (by lia)<|by lia,XF];rfl)) QG rfl) (Qp rfl) (by
       rw[TD (by lia)<|by lia,XF,Bp x])))
     .exact Xo (by lia)
    case fin4=>
     intro B D;exact D.trans ⟨rfl,rfl,rfl,trivial⟩
   case fin3=>
    intro B D;refine Yf D ?_;exact Zh (d:=.none) (by walk_at"ev") rfl
def Zt2{a:Type}(xs:List a):(xs.filter λ_=>false)=[]:=MM.mpr (by rintro _ _ ⟨⟩)
def N8(y:Yd)(G:Gv)(φ:Zn Nd):((V9 y G φ).map λa=>a.map PyData.int)=Vw G.m y.T λk t=>Zq G φ t k:=by
 unfold V9 Vw;rw[Xm];refine X6 λk _=>?_
 show((List.range y.T).map _).map PyData.int=_
 rw[Xm];rfl
def ZlT{f:Qn}(n:Nat):(∀k,k<n->0<=f k)->Qx f n<=0->∀k,k<n->f k=0:=by
 induction n with
 |zero=>intro _ _ k i;lia
 |succ n m=>
  intro h z k i;have a:0<=Qx f n:=GU λk i=>h k (by lia);have b:=h n (by lia);have z:Qx f n+f n<=0:=z
  by_cases e:k=n
  .subst e;lia
  .exact m (λk i=>h k<|by lia) (by lia) k (by lia)
def OS{y:Yd}(f:y.Ok)(q:∀g∈gs,GOk y g)(h:Yl y (Q4 gs) φ)(r:∀S,ZB y (Q4 gs) S<=0):∀i,i<gs.length->Qx (λt=>Zq (Q4 gs) φ t i) y.T=(gAt gs i).want:=by
 obtain⟨F,es,v,u,s⟩:=h;have e:Vx y (Q4 gs) φ=ZB y (Q4 gs) (QS es):=F.lack f (Y6 q) u v s;have z:=r (QS es);have m:∀k,k<(Q4 gs).m->0<=(Q4 gs).wa k-Qx (λt=>Zq (Q4 gs) φ t k) y.T:=λk a=>by
  rw[F.total a];have:=(F.want a).2;lia
 intro i p;have:=ZlT _ m (show Vx y (Q4 gs) φ<=0 by lia) i p;have w:(Q4 gs).wa i=(gAt gs i).want:=rfl;lia
inductive R_full:List OT->OT->Prop
 |mk {y:Yd}{gs:List Gs}{tk:Nat->Qn}(ok:y.Ok)(hg:∀g∈gs,g.Ok y)(g8:gs.length<=8)(fo:FillOk y gs 1 tk)(al:∀i,i<gs.length->Qx (tk i) y.T=(gAt gs i).want):R_full [.fz<|QL y,.fz<|.list<|gs.map QB,.fz<|.list<|(Vw gs.length y.T tk).map PyData.list] (.fz<|.bool true)
def S9:Qo Zaz Zab (Q5 HM):=by walk_at"p"
def OB(T:Bl mg)(ta:Df K mg "_law_is_full" HM Zab)(R:Qv P w K mg base "_law_whole" Zbw 1 (Qy (K:=K) R_whole))(W:Qv P w K mg base "_law_fault" Zab 2 (Qy (K:=K) R_lfault)):Qv P w K mg base "_law_is_full" Zab 3 (Qy (K:=K) R_full):=by
 refine ta.ev S9 (λf I r h H H2 F A outer s B=>?_);have j:=B.units;cases h with
 |@mk y m q X l t z G=>
  refine⟨_,(Qz (Zv (PW.pt<|WB (Yu<|V4<|QW Um (by rfl) T.isi J9<|av 2<|Qu (JJ (v:=.ty "list") rfl T.list Ni rfl) Qq)<|Jo<|Z7 Jb (QW ZU (by rfl) T.len ZT<|av 2 Qq) (QW ZU (by rfl) T.len ZT<|av 1 Qq)<|Zp _) (Q0<|QH Y2) Zx)
 (Qz (ZV zN rfl (V1 rfl T.range<|Qu (QW ZU (by rfl) T.len ZT<|av 1 Qq) Qq) (QK 3 S9.nd) (Qz (QM 4 S9.nd<|Q8 QA (pv 2)<|pv 3)
 (Qz (Zv (PW.pt<|WB (Yu<|V4<|QW Um (by rfl) T.isi J9<|av 4<|Qu (JJ (v:=.ty "list") rfl T.list Ni rfl) Qq)<|WB (Z7 Jb (QW ZU (by rfl) T.len ZT<|av 4 Qq) (Q8 QA (pv 0) Qw)<|Zp _)<|Jo<|Z7 (PX j) (ZD (NX:=Zaz) (sc:=Q5 HM) (N:=["_law_one"]) (f:=[none]) rfl (by decide +kernel) rfl rfl (ZN<|pv 4) (λ_=>(QK 0 (show(["_law_one"]:Qh).Nodup by decide +kernel))) (λ_=>Zm) (λ_=>(Ut<|Yu<|V4<|Q3 R B<|av 0 Qq)) λ_=>(pv 0)) (Vo Qq)<|Zp _) (Q0<|QH Y2) Zx)
 (Q0<|Zv (Z7 Jb (QW YX (by rfl) T.sum YY<|av 4 Qq) (Q8 QA (Q8 QA (pv 1)<|pv 3) Qw)<|Zp _) (Q0<|QH Y2) Zx))))
 (Q0<|QH<|Dp<|GS<|Q3 W B<|av 0<|av 1<|av 2 Qq))),?_⟩
  show QC K _ [_,_,_,_,_] _
  walk_at"x";have J:=X.t8;have gl:(m.map QB).length=m.length:=by simp
  have g:((Vw m.length y.T q).map PyData.list).length=m.length:=by rw[Xi,Zrd]
  have E:∀{Y:ZcP},Y[0]?=some (zf<|QL y)->Qr K (tOp (rIx K) (QY 0)<|tC<|.int 0) Y (.int (y.T:Int)):=λe=>Z5 (ds:=[PyData.int (y.T:Int),.tuple<|y.ls.map Zc]) (Qp e) QG rfl
  have O:∀k:Nat,k<m.length->atI (m.map QB) (k:Int)=some (QB<|gAt m k):=λk C=>by
   rw[Uq (by lia)<|by lia,XF];rfl
  have u:∀k:Nat,k<m.length->atI ((Vw m.length y.T q).map PyData.list) (k:Int)=some (.list<|((List.range y.T).map (q k)).map PyData.int):=λk C=>V5 (by rw[Xp,FP _ C,Xm];rfl);refine Q9 (Zz (b:=false) (YS (b:=false) (c:=false) (Yb (b:=true)<|ZL<|UX (Qp rfl) rfl) λ_=>Zf.cast (ZE<|BT (x:=(m.length:Int)) (y:=(m.length:Int)) (Qr.cast (YH<|Qp rfl)<|by rw[g])<|Qr.cast (YH<|Qp rfl)<|by rw[gl])<|by simp) (by rintro⟨⟩) λ_=>Z3 ?_);refine Q9 (V6 (ds:=ZW 0 m.length) (λi=>[zf<|QL y,zf<|.list<|m.map QB,zf<|.list<|(Vw m.length y.T q).map PyData.list,none,none]) ?ei ⟨rfl,rfl,rfl,trivial⟩ ?stE ?finE)
  case ei=>
   apply EvI.cast
   .walk_at"ei"
   .rw[gl];exact Wp rfl (by lia)
  case finE=>
   intro Z n;refine Yf n ?_;exact Zh (Qr.cast (J8 (a:=.none)<|QJ (Qs (Qp rfl)<|Qs (Qp rfl)<|Qs (Qp rfl) Q2)<|R_lfault.mk X l t z) rfl) rfl
  case stE=>
   intro i d o;obtain⟨D,rfl⟩:=YJ o;rw[X9];refine⟨_,Zd,?_⟩;walk_at"d";refine Q9 (Z9 (Ve (Qp rfl) (Qp rfl)<|u i D) ?_);walk_at"d";refine Q9 (Zz (b:=false) (YS (b:=false) (c:=false) (Yb (b:=true)<|ZL<|UX (Qp rfl) rfl) λ_=>YS (b:=false) (c:=false) (Zf.cast (ZE<|BT (x:=(y.T:Int)) (y:=(y.T:Int)) (Qr.cast (YH<|Qp rfl)<|by rw[Xi,Xi,MN])<|E rfl)<|by simp) λ_=>Zf.cast (ZE<|K6 (a:=.list []) (Qr.cast (EvO.fz<|JG (xs:=(List.range y.T).map (q i)) (enc:=PyData.int) (h:=PyData.int) (p:=λ_=>false) ?ei2 (by simp;lia) ?el2)<|by rw[Zt2];rfl) (EvO.fz<|Ya (ds:=[]) Z2<|by simp) DR DR) rfl) (by rintro⟨⟩) λ_=>Z3 ?_)
   case ei2=>exact Va (Qp rfl)
   case el2=>
    intro k C c;refine⟨_,Zd,?_,λc=>(nomatch c)⟩;walk_at"e";exact Yb (b:=true) (ZL<|QJ (Qs (Qp rfl) Q2) R_whole.mk)
   refine Zz (b:=false) (Zf.cast (ZE<|BT (y:=(gAt m i).want) (YV (ns:=(List.range y.T).map (q i)) (Qp rfl) rfl)<|Z5 (ds:=[.int ((gAt m i).line:Int),.int ((gAt m i).first:Int),.int ((gAt m i).last:Int),.int (gAt m i).want,.int (gAt m i).most]) (Ve (Qp rfl) (Qp rfl)<|O i D) QG rfl) ?_) (by rintro⟨⟩) (λ_=>Z3 ⟨rfl,rfl,rfl,trivial⟩);rw[Vk,G i D];simp
inductive R_llowered:List OT->OT->Prop
 |mk {y:Yd}{p:Int}(ok:y.Ok):R_llowered [.fz<|QL y,.fz<|.int p] (.fz<|QL<|Z4 y p)
def CY:Qo ["_law_yard_here","_law_p","_law_first"] ZaO (Q5 HL):=by walk_at"p"
def ZmD(T:Bl mg)(ta:Df K mg "_law_lowered" HL ZaO):Qv P w K mg base "_law_lowered" ZaO 1 (Qy (K:=K) R_llowered):=by
 refine ta.ev CY (λf v r h H H2 u A outer s O=>?_);cases h with
 |@mk y p a=>
  refine⟨_,(Qz (QM 2 CY.nd<|Z1<|Qu Gf<|Qu (VB WS (by rfl) T.tuple Wn<|Qu (ZD (NX:=["_law_yard_here","_law_p","_law_first"]) (sc:=Q5 HL) (N:=["_law_bound","_law_p"]) (f:=[none,some 1]) rfl (by decide +kernel) rfl rfl (WI<|Q8 QA (Q8 QA (Q8 QA (pv 0) Qw) Qw) Qw) (λ_=>(QK 0 (show(["_law_bound","_law_p"]:Qh).Nodup by decide +kernel))) (λ_=>Zm) (λ_=>ZC) λ_=>(QW (GR rfl) (by rfl) T.min Gb<|av 0<|av 1 Qq)) Qq) Qq)
 (Q0<|QH<|Z1<|Qu (Q8 QA (pv 0) Qw)<|Qu (QN TK (Z1<|av 2 Qq)<|Bc PY (Q8 QA (pv 0) Qw) (Ba Qw) GY) Qq)),?_⟩
  show QC K _ [_,_,_] _
  walk_at"x";have q:=a.l1;have C:=a.l5;have B:=a.t8;have R:=a.bl _ (BI a);have i:∀{Y:ZcP},Y[0]?=some (zf<|QL y)->Qr K (tOp (rIx K) (QY 0)<|tC<|.int 1) Y (.tuple<|y.ls.map Zc):=λh=>Z5 (ds:=[PyData.int (y.T:Int),.tuple<|y.ls.map Zc]) (Qp h) QG rfl;have m:=IE a;refine Q9 (Z9 (Vd (ds:=[.none,.tuple<|(y.ls.getD 0 default).bs.map λb=>.int<|min b p]) (Za GN<|Za (Uo<|EvO.fz<|ZI (xs:=(y.ls.getD 0 default).bs) (enc:=PyData.int) (h:=λb=>.int<|min b p) ?ei (by lia) ?el) Z2) YM) ?_)
  case ei=>exact Uj (Z5 (ds:=[upD (y.ls.getD 0 default).up,.tuple<|(y.ls.getD 0 default).bs.map PyData.int]) (Z5 (d:=Zc (y.ls.getD 0 default)) (ds:=y.ls.map Zc) (i rfl) QG<|Uq (f:=Zc) (by lia)<|by lia) QG rfl)
  case el=>
   intro x D c;refine⟨_,by walk_at"g",?_⟩;walk_at"e";exact KF (Qp rfl) (Qp rfl)
  walk_at"d";rw[<- m];refine Zh (Qr.cast (Vd (ds:=[.int (y.T:Int),.tuple<|[PyData.tuple [upD (y.ls.getD 0 default).up,.tuple<|(y.ls.getD 0 default).bs.map λb=>.int<|min b p]]++cut (y.ls.map Zc) (some 1) none]) (Za (Z5 (ds:=[PyData.int (y.T:Int),.tuple<|y.ls.map Zc]) (Qp rfl) QG rfl)<|Za (KC (Vd (Za (Qp rfl) Z2) J1) (K5 (i rfl) (Gi QG) Ge ?nw) ?ln) Z2) YM)<|Fj a p) rfl
  case nw=>exact Pw (k:=1) (by decide) (by rw[Xi];lia)
  case ln=>
   rw[show(some 1:Option Int)=some ((1:Nat):Int) from rfl,KI _ 1<|by simpa using q];simp;lia
def VZ:Nat->List (Qk)
 |0=>[[]]
 |k+1=>VZ k++(VZ k).map λs=>s++[k]
theorem F6:∀k,(VZ k).length=2^k
 |0=>rfl
 |k+1=>by
  show(VZ k++(VZ k).map λs=>s++[k]).length=_
  rw[Xy,Xi,F6 k,Nat.pow_succ];lia
theorem DN:∀k,∀s∈VZ k,s.Nodup/\(∀j∈s,j<k)/\s.length<=k
 |0,s,h=>by
  have:s=[]:=by simpa [VZ] using h
  subst this;exact⟨G2,λj f=>(nomatch f),Xn _⟩
 |k+1,s,h=>by
  rcases XA.mp h with h|h
  .obtain⟨m,i,v⟩:=DN k s h;exact⟨m,λj f=>B5<|i j f,by lia⟩
  .obtain⟨r,p,rfl⟩:=Xk.mp h;obtain⟨m,i,v⟩:=DN k r p;refine⟨?_,λj f=>?_,by simp;lia⟩
   .rw[G4];refine⟨m,by simp,λa u b q=>?_⟩;have:b=k:=by simpa using q
    have:=i a u;lia
   .rcases XA.mp f with f|f
    .exact B5 (i j f)
    .have:j=k:=by simpa using f
     lia
def BM(k:Nat):Qd:=(VZ k).map λs=>.list (QO s)
theorem Bi:∀{k:Nat} {s:Qk},s∈VZ k ↔ ∃S:Nat->Bool,s=(List.range k).filter S
 |0,s=>by
  constructor
  .intro h;have:s=[]:=by simpa [VZ] using h
   exact⟨λ_=>false,by rw[this];rfl⟩
  .rintro⟨S,rfl⟩;simp[VZ]
 |k+1,s=>by
  have f:∀S:Nat->Bool,(List.range<|k+1).filter S=(List.range k).filter S++if S k then [k] else []:=λS=>by
   rw[Wc,JU];by_cases c:S k<;>simp[c]
  constructor
  .intro h;rcases XA.mp h with h|h
   .obtain⟨S,rfl⟩:=Bi.mp h;refine⟨λj=>decide (j<k)&&S j,?_⟩;rw[f];simp only[Wb,decide_false,Bool.false_and,MP,if_false,XN];refine List.filter_congr λj a=>?_;rw[XJ<|Xw.mp a,Bool.true_and]
   .obtain⟨r,i,rfl⟩:=Xk.mp h;obtain⟨S,rfl⟩:=Bi.mp i;refine⟨λj=>decide (j=k)||S j,?_⟩;rw[f];simp only[decide_true,Bool.true_or,if_true];congr 1;refine List.filter_congr λj a=>?_
    have:=Xw.mp a;rw[Xo<|by lia,Bool.false_or]
  .rintro⟨S,rfl⟩;rw[f];refine XA.mpr ?_
   by_cases c:S k
   .refine .inr (Xk.mpr ⟨(List.range k).filter S,Bi.mpr ⟨S,rfl⟩,?_⟩);rw[Xf c]
   .refine .inl (Bi.mpr ⟨S,?_⟩);rw[Xc c,XN]
inductive R_grt:List OT->OT->Prop
 |mk {y:Yd}{gs:List Gs}{H1:Int}(ok:y.Ok)(hg:∀g∈gs,g.Ok y)(g8:gs.length<=8)(h1:∀S,ZB y (Q4 gs) S<=H1)(h2:∃S,ZB y (Q4 gs) S=H1):R_grt [.fz<|QL y,.fz<|.list<|gs.map QB] (.fz<|.int H1)
def HI:Qo Zau Zao (Q5 ME):=by walk_at"p"
def E3(T:Bl mg)(ta:Df K mg "_law_greatest" ME Zao)(u:Qv P w K mg base "_law_short" Zam 2 (Qy (K:=K) R_lsht)):Qv P w K mg base "_law_greatest" Zao 3 (Qy (K:=K) R_grt):=by
 refine ta.ev HI (λf l r h H H2 g A outer s C=>?_);cases h with
 |@mk y m k B D Y b Z=>
  refine⟨_,(Qz (QM 2 HI.nd<|Vo<|Qu (Vo Qq) Qq)
 (Qz (ZV zN rfl (V1 rfl T.range<|Qu (QW ZU (by rfl) T.len ZT<|av 1 Qq) Qq) (QK 3 HI.nd)<|Q0<|QM 2 HI.nd<|QN BZ (pv 2)<|ZD (NX:=Zau) (sc:=Q5 ME) (N:=["_law_some","_law_k"]) (f:=[none,some 3]) rfl (by decide +kernel) rfl rfl (ZN<|pv 2) (λ_=>(QK 0 (show(["_law_some","_law_k"]:Qh).Nodup by decide +kernel))) (λ_=>Zm) (λ_=>ZC) λ_=>(QN BZ (pv 0)<|Vo<|av 1 Qq))
 (Q0<|QH<|QW Of (by rfl) T.max KZ<|Qu (ZD (NX:=Zau) (sc:=Q5 ME) (N:=ZaQ) (f:=[none,some 0,some 1]) rfl (by decide +kernel) rfl rfl (ZN<|pv 2) (λ_=>(QK 0 (show(ZaQ:Qh).Nodup by decide +kernel))) (λ_=>Zm) (λ_=>ZC) λ_=>(Q3 u C<|av 1<|av 2<|av 0 Qq)) Qq))),?_⟩
  walk_at"x";have q:∀i,i<=8->(VZ i).length<=256:=λi h=>by
   rw[F6];exact(B9 (by decide) h:2^i<=2^8)
  refine Q9 (Vt (Ya (ds:=BM 0) (Za (EvO.fz<|Ya Z2<|by decide) Z2)<|by decide) ?_);walk_at"d";refine Q9 (V6 (ds:=ZW 0 m.length) (λi=>[zf<|QL y,zf<|.list<|m.map QB,some<|.ol<|BM i,none]) ?ei ⟨rfl,rfl,rfl,trivial⟩ ?st ?fin)
  case ei=>exact EvI.cast (WN (Qs (YH Qp) Q2) (by rw[z62];lia)<|by rw[z62,Xi];lia) (Wp rfl (by rw[Xi];lia))
  case fin=>
   intro v O;refine Yf O ?_;rw[JM];refine VJ 2 rfl ?_;walk_at"d";have e:∀S,Vg m (Zb m S)-ZO y m (Zb m S)=ZB y (Q4 m) S:=λS=>(Ju y m S).symm;refine Zh (Oh (ns:=(VZ m.length).map λs=>Vg m s-ZO y m s) (Qr.cast (EvO.fz<|ZI (xs:=VZ m.length) (enc:=λs=>.list<|QO s) (h:=λs=>.int<|Vg m s-ZO y m s) ?ei2 (Xx (q _ Y)<|by decide) ?el2)<|by rw[Xm];rfl) rfl ?m1 ?m2) rfl
   case ei2=>exact Va Qp
   case el2=>
    intro x p c;obtain⟨z,j,t⟩:=DN _ x p;refine⟨_,Zd,?_⟩;exact QJ (Qs Qp<|Qs Qp<|Qs Qp Q2) (R_lsht.mk B D ⟨j,by lia⟩)
   case m1=>
    obtain⟨S,X⟩:=Z;exact Xk.mpr ⟨_,Bi.mpr ⟨S,rfl⟩,(e S).trans X⟩
   case m2=>
    intro a W;obtain⟨x,p,rfl⟩:=Xk.mp W;obtain⟨S,rfl⟩:=Bi.mp p;show Vg m (Zb m S)-ZO y m (Zb m S)<=k;rw[e];exact b S
  case st=>
   intro i d R;obtain⟨o,rfl⟩:=YJ R;have q:=q i (by lia);refine⟨_,by walk_at"g",?_⟩;walk_at"d";rw[X9];refine VJ 2 rfl ?_;walk_at"d";refine Vt (GM (as:=BM i) (bs:=(VZ i).map λs=>.list<|QO<|s++[i]) Qp (EvO.fz<|ZI (xs:=VZ i) (enc:=λs=>.list<|QO s) (h:=λs=>.list<|QO<|s++[i]) ?ei3 (by lia) ?el3)<|by simp[BM];lia) ?_
   case ei3=>exact Va Qp
   case el3=>
    intro x p c;have n:=(DN i x p).2.2;refine⟨_,by walk_at"g",?_⟩;walk_at"e";apply Qr.cast
    .exact EvO.fz (GM (as:=QO x) (bs:=[.int (i:Int)]) Qp (EvO.fz<|Ya (Za Qp Z2) J1)<|by simp[QO];lia)
    .unfold QO;rw[XB];rfl
   walk_at"d";refine⟨rfl,rfl,?_,trivial⟩;unfold BM;show _=some (OT.ol<|(VZ i++(VZ i).map λs=>s++[i]).map λs=>.list<|QO s);rw[XB,Xm];rfl
def ZuH{x y a b:Nat}(h:Nat.gcd x y=Nat.gcd a b):Nat.gcd y (x%y)=Nat.gcd a b:=by
 rw[<- h,Nat.gcd_comm x y,Nat.gcd_rec y x,Nat.gcd_comm]
def Zu(f:Fr):PyData:=.tuple [.int (f.t:Int),.int (f.b:Int)]
structure FrB(f:Fr):Prop where
 ok:f.Ok
 t:f.t<2^103
 b:f.b<=2^103
structure FrG(f:Fr):Prop where
 ok:f.Ok
 t:f.t<2^970
 b:f.b<=2^970
def FrB.g{f:Fr}(h:FrB f):FrG f:=⟨h.ok,Nat.lt_trans h.t<|Nat.pow_lt_pow_right (by decide)<|by decide,Xx h.b<|B9 (by decide)<|by decide⟩
def p2c{m:Nat}:(2:Int)^m=((2^m:Nat):Int):=by rw[Int.natCast_pow];rfl
def Tw{a b:Nat}(h:a<2^16000)(f:b<2^16000):IntMulOk (a:Int) (b:Int):=Pi (m:=16000) (n:=16000) (by lia) (by rw[p2c];exact W9.mpr h) (by lia) (by rw[p2c];exact W9.mpr f) (by decide)
def ltG{a:Nat}(h:a<=2^15600):a<2^16000:=Kb h (Nat.pow_lt_pow_right (by decide)<|by decide)
def leG{a:Nat}(h:a<=2^970):a<=2^15600:=Xx h (B9 (by decide)<|by decide)
def Vf(B:Nat)(fs:List Fr):Nat:=fs.foldl (λB f=>B*(f.b/Nat.gcd B f.b)) B
def OJ(B:Nat)(f:Fr)(fs:List Fr):Vf B (f::fs)=Vf (B*(f.b/Nat.gcd B f.b)) fs:=rfl
def Zlh(B b:Nat):b∣B*(b/Nat.gcd B b):=by
 obtain⟨c,a⟩:=Nat.gcd_dvd_left B b;have e:Nat.gcd B b*(b/Nat.gcd B b)=b:=Nat.mul_div_cancel' (HV B b);refine⟨c,?_⟩;have q:B*(b/Nat.gcd B b)=(Nat.gcd B b*c)*(b/Nat.gcd B b):=by rw[<- a]
 rw[q,G5 (Nat.gcd B b) c,UB,e,G5]
theorem Fp:∀(fs:List Fr) (B:Nat),B∣Vf B fs
 |[],B=>Nat.dvd_refl _
 |f::fs,B=>Nat.dvd_trans (Nat.dvd_mul_right _ _) (Fp fs _)
theorem Mq:∀{fs:List Fr} {B:Nat} {f:Fr},f∈fs->f.b∣Vf B fs
 |g::fs,B,f,h=>by
  rcases Xe.mp h with rfl|h
  .exact Nat.dvd_trans (Zlh B f.b) (Fp fs _)
  .exact Mq (fs:=fs) h
theorem Mp:∀{fs:List Fr} {B:Nat},0<B->(∀f∈fs,0<f.b)->0<Vf B fs
 |[],_,h,_=>h
 |f::fs,B,h,a=>Mp (fs:=fs) (Nat.mul_pos h<|Nat.div_pos (Nat.le_of_dvd (a f Xb)<|HV _ _)<|Nat.gcd_pos_of_pos_left _ h) (λg i=>a g<|Xg _ i)
theorem Ng{e:Nat}:∀{fs:List Fr} {B c:Nat},B<=2^c->(∀f∈fs,f.b<=2^e)->Vf B fs<=2^(c+e*fs.length)
 |[],_,_,h,_=>h
 |f::fs,B,c,h,a=>by
  have p:B*(f.b/Nat.gcd B f.b)<=2^(c+e):=by
   rw[Nat.pow_add];exact MG h (Xx (Nat.div_le_self _ _)<|a f Xb)
  have m:=Ng (fs:=fs) p (λg i=>a g<|Xg _ i);rw[OJ,Wt,Nat.mul_add,Nat.mul_one,Nat.add_comm<|e*fs.length,<- Nat.add_assoc];exact m
def Zty{fs:List Fr}{f:Fr}(h:fs[i]?=some f):Vf 1 (fs.take<|i+1)=Vf 1 (fs.take i)*(f.b/Nat.gcd (Vf 1<|fs.take i) f.b):=by
 have e:fs.take (i+1)=fs.take i++[f]:=by rw[Y9,h];rfl
 rw[e];unfold Vf;rw[HW];rfl
def Cq(h:∀f∈fs,f.b<=2^970)(a:fs.length<=16):Vf 1 fs<=2^15600:=
 Xx (Ng (c:=0) (by decide) h) (B9 (by decide)<|by lia)
inductive R_gdiv:List OT->OT->Prop
 |mk {a b:Nat}:R_gdiv [.fz<|.int (a:Int),.fz<|.int (b:Int)] (.fz<|.int ((Nat.gcd a b:Nat):Int))
def HP:Qo ["one","other","rest"] ZaJ (Q5 SG):=by walk_at"p"
def Ik(T:Bl mg)(ta:Df K mg "greatest_divisor" SG ZaJ):Qv P w K mg base "greatest_divisor" ZaJ 1 (Qy (K:=K) R_gdiv):=by
 refine ta.ev HP (λf C r h H H2 v A outer s D=>?_);cases h with
 |@mk a b=>
  refine⟨_,(Qz (JL zN (Z7 Jb (pv 1) Qw<|Zp _) (Qz (QM 2 HP.nd<|QN VO (pv 0)<|pv 1)
 (Qz (QM 0 HP.nd<|pv 1)
 (Q0<|QM 1 HP.nd<|pv 2))))
 (Q0<|QH<|pv 0)),?_⟩
  show QC K _ [_,_,_] _
  walk_at"x";refine GP (λi=>∃u:Option OT,i=[zi ((Nat.gcd a b:Nat):Int),zi 0,u]) (Uz (λm i=>∃(x y:Nat) (u:Option OT),y=m/\Nat.gcd x y=Nat.gcd a b/\i=[zi (x:Int),zi (y:Int),u]) b ⟨a,b,none,rfl,rfl,rfl⟩ ?w) ?z
  case w=>
   rintro m _ ⟨x,y,u,rfl,q,rfl⟩;refine⟨_,by walk_at"et",λc=>?_,λc=>?_⟩
   .have c:¬(y:Int)=0:=by simpa using c
    have p:0<y:=by lia
    have B:(0:Int)<(y:Int):=by lia
    walk_at"ss";exact⟨x%y,Nat.mod_lt _ p,y,x%y,_,rfl,ZuH q,rfl⟩
   .have c:(y:Int)=0:=by simpa using c
    have p:y=0:=by lia
    subst p;rw[Nat.gcd_zero_right]at q;rw[q];exact⟨u,rfl⟩
  case z=>
   rintro _ ⟨u,rfl⟩;walk_at"ret";rfl
inductive R_cbot:List OT->OT->Prop
 |mk {fs:List Fr}(h:∀f∈fs,0<f.b/\f.b<=2^970)(hl:fs.length<=16):R_cbot [.fz<|.list<|fs.map Zu] (.fz<|.int (Vf 1 fs:Int))
def HH:Qo ["parts","bottom","part"] ["parts"] (Q5 SA):=by walk_at"p"
def EO(T:Bl mg)(ta:Df K mg "common_bottom" SA ["parts"])(y:Qv P w K mg base "greatest_divisor" ZaJ 1 (Qy (K:=K) R_gdiv)):Qv P w K mg base "common_bottom" ["parts"] 2 (Qy (K:=K) R_cbot):=by
 refine ta.ev HH (λf b r h H H2 Y A outer s R=>?_);cases h with
 |@mk a h c=>
  refine⟨_,(Qz (QM 1 HH.nd Qw)
 (Qz (ZV zN rfl (ZN<|pv 0) (QK 2 HH.nd)<|Q0<|KH (i:=1) HH.nd rfl Qa (QN Yv (Q8 QA (pv 2) Qw)<|Q3 y R<|av 1<|Qu (Q8 QA (pv 2) Qw) Qq) Oi)
 (Q0<|QH<|pv 1))),?_⟩
  show QC K _ [_,_,_] _
  walk_at"x";refine Q9 (Z9 (d:=.int 1) QG ?_);walk_at"d";refine Q9 (V6 (ds:=a.map Zu) (λi=>[zf<|.list<|a.map Zu,zi (Vf 1 (a.take i):Int),none]) ?ei ⟨rfl,rfl,trivial⟩ ?st ?fin)
  case ei=>exact Va (Qp rfl)
  case st=>
   intro i d D;have v:i<a.length:=by
    have:=(Xh.mp D).1;simpa using this
   obtain rfl:d=Zu a[i]:=by simpa [v] using D.symm
   have u:=h a[i] (XL v);have C:Vf 1 (a.take i)<=2^15600:=Cq (λf q=>(h f<|Ke q).2) (by rw[B4];lia);have p:0<Vf 1 (a.take i):=Mp (by decide) (λf q=>(h f<|Ke q).1);have X:=Zty (XI v);rw[X];generalize Vf 1 (a.take i)=B at C p;refine⟨_,by walk_at"g",?_⟩;walk_at"d";have e:0<Nat.gcd B a[i].b:=Nat.gcd_pos_of_pos_left _ p;have W:Nat.gcd B a[i].b<=2^970:=Xx (Nat.le_of_dvd u.1<|HV _ _) u.2;have Z:Jc (a[i].b:Int) ((Nat.gcd B a[i].b:Nat):Int):=⟨by lia,by
    have:((Nat.gcd B a[i].b:Nat):Int)<=((2^970:Nat):Int):=U9.mpr W;exact X8 this<|by decide +kernel⟩
   have O:a[i].b/Nat.gcd B a[i].b<=2^970:=Xx (Nat.div_le_self _ _) u.2;refine IP (m:=(B:Int)) (n:=((a[i].b/Nat.gcd B a[i].b:Nat):Int)) rfl (Qr.cast (V3 (Z5 (ds:=[.int (a[i].t:Int),.int (a[i].b:Int)]) (Qp rfl) QG rfl) (QJ (Qs (Qp rfl)<|Qs (Z5 (ds:=[.int (a[i].t:Int),.int (a[i].b:Int)]) (Qp rfl) QG rfl) Q2) R_gdiv.mk) Z) rfl) (Tw (ltG C)<|ltG<|leG O) ?_;walk_at"d";refine⟨rfl,?_,trivial⟩;rw[G3]
  case fin=>
   intro N q;refine Yf q ?_;rw[Xi,XX];exact Zh (Qp rfl) rfl
def VC(B:Nat)(f:Fr):Int:=(phi B f:Int)
inductive R_tops:List OT->OT->Prop
 |mk {fs:List Fr}{B:Nat}(h:∀f∈fs,FrG f)(hd:∀f∈fs,f.b∣B)(hB:0<B)(h2:B<=2^15600)(hl:fs.length<=8):R_tops [.fz<|.list<|fs.map Zu,.fz<|.int (B:Int)] (.ol<|((Wz fs).map (VC B)).map PyData.int)
def Zmf:Qo ZaR ZaR (Q5 Hu):=by walk_at"p"
def IJ(T:Bl mg)(ta:Df K mg "tops_over" Hu ZaR):Qv P w K mg base "tops_over" ZaR 1 (Qy (K:=K) R_tops):=by
 refine ta.ev Zmf (λf R r h H H2 D A outer s W=>?_);cases h with
 |@mk i B h v y C X=>
  refine⟨_,(Q0<|QH<|QW Zq7 (by rfl) T.sorted ZrJ<|Qu (ZD (NX:=ZaR) (sc:=Q5 Hu) (N:=["part","bottom"]) (f:=[none,some 1]) rfl (by decide +kernel) rfl rfl (ZN<|pv 0) (λ_=>(QK 0 (show(["part","bottom"]:Qh).Nodup by decide +kernel))) (λ_=>Zm) (λ_=>ZC) λ_=>(QN Jp (Q8 QA (pv 0) Qw)<|QN Yv (pv 1)<|Q8 QA (pv 0) Qw)) Qq),?_⟩;show QC K _ [_,_] _
  walk_at"x";refine Wm (Zsg (ns:=i.map (VC B)) (ms:=(Wz i).map (VC B)) (Qr.cast (EvO.fz<|ZI (xs:=i) (enc:=Zu) (h:=λf=>.int<|VC B f) ?ei (by lia) ?el)<|by rw[Xm];rfl) ((M4 i).map _) ?so<|by rw[Xi];lia) rfl
  case ei=>exact Va (Qp rfl)
  case so=>
   rw[List.pairwise_map];exact(Zps y λg p=>⟨v g p,(h g p).ok.1⟩).imp λ{a b} z=>U9.mpr z
  case el=>
   intro x u c;have m:=h x u;have b0:=m.ok.1;refine⟨_,by walk_at"g",?_⟩;walk_at"e";have O:Jc (B:Int) (x.b:Int):=⟨by lia,by
    have:(x.b:Int)<=((2^970:Nat):Int):=U9.mpr m.b;exact X8 this<|by decide +kernel⟩
   have q:B/x.b<=2^15600:=Xx (Nat.div_le_self _ _) C;have mk:=Tw (a:=x.t) (b:=B/x.b) (ltG<|leG<|X4 m.t) (ltG q);exact Qr.cast (V3 (Z5 (ds:=[.int (x.t:Int),.int (x.b:Int)]) (Qp rfl) QG rfl) (Qr.cast (d':=.int ((B/x.b:Nat):Int)) (V3 (Qp rfl) (Z5 (ds:=[.int (x.t:Int),.int (x.b:Int)]) (Qp rfl) QG rfl) O) rfl) mk) (by unfold VC phi;rw[G3])
theorem Le{B:Nat}(m:0<B):∀{as bs:List Fr},(∀f∈as,f.Ok/\f.b∣B)->(∀f∈bs,f.Ok/\f.b∣B)->WF (as.map<|VC B) (bs.map<|VC B)=BF as bs
 |[],[],_,_=>rfl
 |[],_::_,_,_=>rfl
 |_::_,[],_,_=>rfl
 |f::as,g::bs,i,h=>by
  obtain⟨k1,k2⟩:=ZtP m (i f Xb).1 (h g Xb).1 (i f Xb).2 (h g Xb).2;have k1:VC B f=VC B g↔f=g:=k1;have k2:VC B g<VC B f↔g.t*f.b<f.t*g.b:=k2;have p:=Le m (as:=as) (bs:=bs) (λf a=>i f<|Xg _ a) (λf a=>h f<|Xg _ a);show(if VC B f=VC B g then WF (as.map<|VC B) (bs.map<|VC B) else decide (VC B g<VC B f))=if f=g then BF as bs else decide (g.t*f.b<f.t*g.b)
  by_cases e:f=g
  .rw[Xf e,Xf<|k1.mpr e,p]
  .rw[Xc e,Xc λz=>e<|k1.mp z];exact decide_eq_decide.mpr k2
inductive R_fairer:List OT->OT->Prop
 |mk {as bs:List Fr}(ha:∀f∈as,FrG f)(hb:∀f∈bs,FrG f)(hl:as.length=bs.length)(h8:as.length<=8):R_fairer [.fz<|.list<|as.map Zu,.fz<|.list<|bs.map Zu] (.fz<|.bool<|BF (Wz as)<|Wz bs)
def CS:Qo ["one","other","bottom"] ZaJ (Q5 RN):=by walk_at"p"
def ZsR(T:Bl mg)(ta:Df K mg "is_fairer" RN ZaJ)(R:Qv P w K mg base "common_bottom" ["parts"] 2 (Qy (K:=K) R_cbot))(q:Qv P w K mg base "tops_over" ZaR 1 (Qy (K:=K) R_tops)):Qv P w K mg base "is_fairer" ZaJ 3 (Qy (K:=K) R_fairer):=by
 refine ta.ev CS (λf b r h H H2 Z A outer s u=>?_);cases h with
 |@mk as bs C y X Y=>
  have W:=u.units;refine⟨_,(Qz (QM 2 CS.nd<|Q3 R u<|Qu (QN BZ (pv 0)<|pv 1) Qq)
 (Q0<|QH<|Y7 (AG W) (Q3 q u<|av 0<|av 2 Qq) (Q3 q u<|av 1<|av 2 Qq)<|Zp _)),?_⟩
  show QC K _ [_,_,_] _
  walk_at"x";have i:∀f∈as++bs,FrG f:=λf a=>by
   rcases XA.mp a with a|a
   .exact C f a
   .exact y f a
  have p:(as++bs).length<=16:=by rw[Xy];lia
  refine Q9 (Z9 (QJ (Qs (Qr.cast (d':=.list ((as++bs).map Zu)) (EvO.fz<|GM (as:=as.map Zu) (bs:=bs.map Zu) (Qp rfl) (Qp rfl)<|by simp;lia)<|by rw[XB]) Q2)<|R_cbot.mk (λf a=>⟨(i f a).ok.1,(i f a).b⟩) p) ?_);walk_at"d";have v:0<Vf 1 (as++bs):=Mp (by decide) λf a=>(i f a).ok.1;have D:=Cq (λf a=>(i f a).b) p;have O:∀f∈as,f.b∣Vf 1 (as++bs):=λf a=>Mq (Jz _ a);have N:∀f∈bs,f.b∣Vf 1 (as++bs):=λf a=>Mq (XO _ a);generalize Vf 1 (as++bs)=B at v D O N;refine Zh (E8 (ns:=(Wz as).map (VC B)) (ms:=(Wz bs).map (VC B)) (JI (Qs (Qp rfl)<|Qs (Qp rfl) Q2)<|R_tops.mk C O v D Y) (JI (Qs (Qp rfl)<|Qs (Qp rfl) Q2)<|R_tops.mk y N v D<|by lia)<|by rw[Xi,Xi,(M4 as).length_eq,(M4 bs).length_eq,X]) ?_;rw[Le v (λf a=>have m:=(M4 as).mem_iff.mp a;⟨(C f m).ok,O f m⟩) λf a=>have m:=(M4 bs).mem_iff.mp a;⟨(y f m).ok,N f m⟩]
def frT(t:Int)(b:Nat):Int:=t/((Nat.gcd t.natAbs b:Nat):Int)
def frB(t:Int)(b:Nat):Nat:=b/Nat.gcd t.natAbs b
def NC(t:Int)(h0:0<b):∃g:Nat,0<g/\g<=b/\Nat.gcd t.natAbs b=g/\t=(g:Int)*frT t b/\b=g*frB t b/\0<frB t b/\Nat.gcd (frT t b).natAbs (frB t b)=1:=by
 have f:0<Nat.gcd t.natAbs b:=Nat.gcd_pos_of_pos_right _ h0;have s:Nat.gcd t.natAbs b∣t.natAbs:=Nat.gcd_dvd_left _ _;have m:Nat.gcd t.natAbs b∣b:=HV _ _;have r:((Nat.gcd t.natAbs b:Nat):Int)∣t:=Int.ofNat_dvd_left.mpr s;have i:((Nat.gcd t.natAbs b:Nat):Int)*frT t b=t:=Int.mul_ediv_cancel' r;have a:Nat.gcd t.natAbs b*frB t b=b:=Nat.mul_div_cancel' m;have q:t.natAbs=Nat.gcd t.natAbs b*(frT t b).natAbs:=by
  have:=XS Int.natAbs i;rw[Int.natAbs_mul,Int.natAbs_natCast]at this;exact this.symm
 have p:0<frB t b:=Nat.pos_of_ne_zero λz=>by rw[z,Nat.mul_zero]at a;lia
 refine⟨Nat.gcd t.natAbs b,f,Nat.le_of_dvd h0 m,rfl,i.symm,a.symm,p,?_⟩;have h:Nat.gcd (Nat.gcd t.natAbs b*(frT t b).natAbs) (Nat.gcd t.natAbs b*frB t b)=Nat.gcd t.natAbs b:=by rw[<- q,a]
 rw[Nat.gcd_mul_left]at h;exact Nat.eq_of_mul_eq_mul_left f (by rw[Nat.mul_one];exact h)
def Znb(t:Int):ZhK t=((t.natAbs:Nat):Int):=by
 unfold ZhK;split<;>lia
inductive R_frac:List OT->OT->Prop
 |mk {t:Int}{b:Nat}(h0:0<b)(h1:(b:Int)<2^8000):R_frac [.fz<|.int t,.fz<|.int (b:Int)] (.fz<|.tuple [.int<|frT t b,.int (frB t b:Int)])
def CB:Qo ["top","bottom","divisor"] Zbl (Q5 RU):=by walk_at"p"
def IB(T:Bl mg)(ta:Df K mg "fraction" RU Zbl)(a:Qv P w K mg base "greatest_divisor" ZaJ 1 (Qy (K:=K) R_gdiv)):Qv P w K mg base "fraction" Zbl 2 (Qy (K:=K) R_frac):=by
 refine ta.ev CB (λf y r h H H2 q A outer s i=>?_);cases h with
 |@mk t b m B=>
  refine⟨_,(Qz (QM 2 CB.nd<|Q3 a i<|Qu (QW BX (by rfl) T.abs Mb<|av 0 Qq)<|av 1 Qq)
 (Q0<|QH<|Z1<|Qu (QN Yv (pv 0)<|pv 2)<|Qu (QN Yv (pv 1)<|pv 2) Qq)),?_⟩
  show QC K _ [_,_,_] _
  walk_at"x";obtain⟨g,D,C,e,_⟩:=NC t m;have p:PyData.int (ZhK t)=PyData.int ((t.natAbs:Nat):Int):=by rw[Znb]
  refine Q9 (Z9 (QJ (Qs (Qr.cast (d:=.int (ZhK t)) (by walk_at"ev") p)<|Qs (by walk_at"ev") Q2) R_gdiv.mk) ?_);walk_at"d";have v:Jc t ((Nat.gcd t.natAbs b:Nat):Int):=⟨by lia,by lia⟩;have u:Jc (b:Int) ((Nat.gcd t.natAbs b:Nat):Int):=⟨by lia,by lia⟩;refine Zh (Vd (Za (V3 (Qp rfl) (Qp rfl) v)<|Za (V3 (Qp rfl) (Qp rfl) u) Z2) YM) ?_;rfl
def Zg(y:Yd)(gs:List Gs)(S:Qm):Int:=ZO y gs (Zb gs S)
def QD(gs:List Gs)(k:Nat):Int:=(gs.getD k default).want
def Q7(a:Qk):Qm:=λk=>decide (k∈a)
def Fs(h:∀k,k<gs.length->S k=U k):Zb gs S=Zb gs U:=List.filter_congr λk a=>h k (Xw.mp a)
theorem E9{y:Yd}(ok:y.Ok)(hg:∀g∈gs,g.Ok y):Giv gs.length (QD gs) (Zg y gs) where
 w1 k a:=by
  show 1<=(gs.getD k default).want;rw[WM a];exact(hg _<|XL a).w1
 g0 S hS:=by
  unfold Zg;have e:Zb gs S=[]:=MM.mpr λk a=>by rw[hS k<|Xw.mp a];decide
  rw[e];exact CU ok gs
 nn S:=by
  have e:ZO y gs []=0:=CU ok gs;unfold Zg;rw[<- e];unfold ZO;rw[Vk,Vk];refine VT λt _=>Zn7 (λ_=>UF _) (λl=>?_) 0
  show(0:Int)<=Z0 gs (t:Int) l ((List.range gs.length).filter S)
  rw[Ry];refine GU λk a=>?_
  split
  .unfold wgt;cases e:gs[k]? with
   |none=>simp
   |some g=>
    have:=(hg g<|List.mem_of_getElem? e).m1;dsimp only;split<;>lia
  .exact UF _
 ext S U h:=by
  unfold Zg;rw[Fs h]
 sub S U:=by
  unfold Zg ZO;rw[Vk,Vk,Vk,Vk,<- WO,<- WO];exact VT λt _=>Zn0 (y:=y) (c:=λk=>Zl y k t) (Ztt (gs:=gs) (λg h=>(hg g h).m1) (t:Int) S U gs.length)
def Zp2(gs:List Gs)(t:Int)(l:Nat){a:Qk}(h:a.Perm b):Z0 gs t l a=Z0 gs t l b:=by
 induction h with
 |nil=>rfl
 |cons x _ f=>simp only[Z0,f]
 |swap x z r=>simp only[Z0];lia
 |trans _ _ m i=>rw[m,i]
def Zu3(f:Qn){a:Qk}(h:a.Perm b):(a.map f).sum=(b.map f).sum:=by
 induction h with
 |nil=>rfl
 |cons x _ i=>simp only[Xz,G1,i]
 |swap x z r=>simp only[Xz,G1];lia
 |trans _ _ p m=>rw[p,m]
structure NdS(gs:List Gs)(sm:Qk):Prop where
 mem:∀k∈sm,k<gs.length
 nd:sm.Nodup
def NdS.perm(h:NdS gs sm):sm.Perm (Zb gs<|Q7 sm):=by
 refine(List.perm_ext_iff_of_nodup h.nd<|HS.filter _).mpr λk=>?_;rw[Wd,Xw];unfold Q7;rw[decide_eq_true_eq];exact⟨λz=>⟨h.mem k z,z⟩,λz=>z.2⟩
def NdS.ok(h:NdS gs sm)(a:gs.length<=8):SetOk gs sm:=⟨h.mem,by
 have:=h.perm.length_eq;have f:=(Gn a<|Q7 sm).len;lia⟩
def NdS.given{y:Yd}(h:NdS gs sm):ZO y gs sm=Zg y gs (Q7 sm):=by
 unfold Zg ZO;congr 1;refine X6 λt _=>?_;unfold ZA;rw[show W2 gs t sm=W2 gs t (Zb gs<|Q7 sm) from funext λl=>Zp2 gs (t:Int) l h.perm]
def NdS.wants(h:NdS gs sm):(sm.map<|QD gs).sum=wS gs.length (QD gs) (Q7 sm):=by
 rw[Zu3 (QD gs) h.perm];exact Gq (QD gs) (Q7 sm) gs.length
def Sj(a b:Qk)(k:Nat):Q7 (a++b) k=(Q7 a k||Q7 b k):=by
 unfold Q7;by_cases h:k∈a<;>by_cases f:k∈b<;>simp[h,f]
def Cm{y:Yd}(a b:Qk):Zg y gs (Q7<|a++b)=Zg y gs (λk=>Q7 a k||Q7 b k):=by
 unfold Zg;rw[Fs λk _=>Sj a b k]
def V8(p q:Int)(g:Gs):Gs:=⟨g.line,g.first,g.last,g.want*p,g.most*q⟩
theorem Ca(gs:List Gs)(p q:Int)(t:Int)(l:Nat):∀a:Qk,Z0 (gs.map<|V8 p q) t l a=Z0 gs t l a*q
 |[]=>by simp[Z0]
 |j::r=>by
  simp only[Z0];rw[Ca gs p q t l r,JW];congr 1;rw[Xp];cases gs[j]? with
  |none=>simp
  |some g=>
   simp only[XZ];by_cases h:g.line=l/\Yg g t=true
   .rw[Xf (show(V8 p q g).line=l/\Yg (V8 p q g) t=true from h),Xf h];rfl
   .rw[Xc (show ¬((V8 p q g).line=l/\Yg (V8 p q g) t=true) from h),Xc h];simp
def Zk5{y:Yd}(gs:List Gs)(a:Qk){p q:Int}(h:0<=q):ZO (Zi y q) (gs.map<|V8 p q) a=q*ZO y gs a:=by
 rw[ZO,ZO,Vk,Vk,<- Uy];refine Zk λt _=>?_
 unfold ZA W2;have i:∀j,QU (Zi y q) j=QU y j:=λj=>by
  simp only[QU,Zi,Xp];cases y.ls[j]?<;>rfl
 have r:(λj=>Zl (Zi y q) j t)=λj=>Zl y j t*q:=by
  funext j
  simp only[Zl,Zi,Xp];cases y.ls[j]? with
  |none=>simp
  |some f=>
   simp only[XZ,UC,Jr,List.getD,Xp];cases f.bs[t]?<;>simp
 have m:(λl=>Z0 (gs.map<|V8 p q) (t:Int) l a)=λl=>Z0 gs (t:Int) l a*q:=by
  funext l
  exact Ca gs p q t l a
 rw[r,m,Cy h i<|by simp[Zi],XD]
def ZsU(gs:List Gs)(p q:Int)(S:Qm):Vg (gs.map<|V8 p q) (Zb gs S)=p*wS gs.length (QD gs) S:=by
 unfold Vg;have e:((Zb gs S).map λk=>((gs.map<|V8 p q).getD k default).want)=(Zb gs S).map λk=>p*QD gs k:=X6 λk f=>by
  have a:k<gs.length:=Xw.mp (Wd.mp f).1;unfold QD;simp only[List.getD,Xp,XI a,XZ,UC];exact XD _ _
 rw[e];unfold wS;rw[<- Uy];have h:=Gq (λk=>p*QD gs k) S gs.length;have i:Qx (QV S λk=>p*QD gs k) gs.length=Qx (λk=>p*QV S (QD gs) k) gs.length:=Zk λk _=>by
  unfold QV;dsimp only;split
  .rfl
  .simp
 rw[<- i];exact h
def DY(h:gs'.length=gs.length)(S:Qm):Zb gs' S=Zb gs S:=by
 unfold Zb;rw[h]
def Ol{y:Yd}{p q:Int}(i:0<=q)(a:(Zi y q).Ok)(f:∀g∈gs.map (V8 p q),GOk (Zi y q) g){es:Got Nd}(h:JB (Zi y q) (Q4<|gs.map<|V8 p q) φ es)(U:Qm):
 p*wS gs.length (QD gs) U-q*Zg y gs U<=p*wS gs.length (QD gs) (QS es)-q*Zg y gs (QS es):=by
 have e:∀S,ZB (Zi y q) (Q4<|gs.map<|V8 p q) S=p*wS gs.length (QD gs) S-q*Zg y gs S:=λS=>by
  rw[Ju,DY (gs:=gs) (gs':=gs.map (V8 p q)) (by simp) S,ZsU,Zk5 gs _ i];rfl
 rw[<- e,<- e];have r:=Bk h.1 a (Y6 f) U;have m:Vx (Zi y q) (Q4<|gs.map<|V8 p q) φ=ZB (Zi y q) (Q4<|gs.map<|V8 p q) (QS es):=h.1.lack a (Y6 f) h.2.2.1 h.2.1 h.2.2.2;lia
structure Sml(y:Yd)(gs:List Gs):Prop where
 ok:y.Ok
 hg:∀g∈gs,g.Ok y
 g8:gs.length<=8
 b30:∀l∈y.ls,∀b∈l.bs,b<10^30
 w30:∀g∈gs,g.want<10^30/\g.most<10^30
def Sml.giv{y:Yd}(h:Sml y gs):Giv gs.length (QD gs) (Zg y gs):=E9 h.ok h.hg
inductive R_wwant:List OT->OT->Prop
 |mk {g:Gs}{n:Int}:R_wwant [.fz<|QB g,.fz<|.int n] (.fz<|QB ⟨g.line,g.first,g.last,n,g.most⟩)
def Zl2:Qo ZaL ZaL (Q5 RF):=by walk_at"p"
def ZtX(T:Bl mg)(ta:Df K mg "with_want" RF ZaL):Qv P w K mg base "with_want" ZaL 1 (Qy (K:=K) R_wwant):=by
 refine ta.ev Zl2 (λf m r h H H2 i A outer s p=>?_);cases h with
 |@mk g n=>
  refine⟨_,(Q0<|QH<|Z1<|Qu (Q8 QA (pv 0) Qw)<|Qu (Q8 QA (pv 0) Qw)<|Qu (Q8 QA (pv 0) Qw)<|av 1<|Qu (Q8 QA (pv 0) Qw) Qq),?_⟩;show QC K _ [_,_] _
  walk_at"x";have a:∀{Y:ZcP} {k:Int} {d:PyData},Y[0]?=some (zf<|QB g)->atI [.int (g.line:Int),.int (g.first:Int),.int (g.last:Int),.int g.want,.int g.most] k=some d->Qr K (tOp (rIx K) (QY 0)<|tC<|.int k) Y d:=λe h=>Z5 (ds:=[.int (g.line:Int),.int (g.first:Int),.int (g.last:Int),.int g.want,.int g.most]) (Qp e) QG h;exact Zh (Vd (Za (a rfl rfl)<|Za (a rfl rfl)<|Za (a rfl rfl)<|Za (Qp rfl)<|Za (a rfl rfl) Z2)<|by show(5:Nat)<=1000;decide) rfl
def Zy(gs:List Gs)(tf:Nat->Fr)(k:Int):List Gs:=(List.range gs.length).map λi=>⟨(gs.getD i default).line,(gs.getD i default).first,(gs.getD i default).last,((tf i).t:Int)*k/((tf i).b:Int),(gs.getD i default).most*k⟩
def T9(gs:List Gs)(f:Gs->PyData)(g:Nat->PyData):Ja (gs.map f) ((List.range gs.length).map g)=(List.range gs.length).map λi=>.tuple [f<|gs.getD i default,g i]:=by
 unfold Ja;refine HQ (by simp) λi m h=>?_;have a:i<gs.length:=by simpa using h
 simp[List.getD,a]
inductive R_asking:List OT->OT->Prop
 |mk {gs:List Gs}{p q:Int}(q1:1<=q)(q2:q<10^100)(p0:0<=p)(p2:p<10^100)(hw:∀g∈gs,(0<=g.want/\g.want<10^100)/\0<=g.most/\g.most<10^100)(g8:gs.length<=8):
  R_asking [.fz<|.list<|gs.map QB,.fz<|.list<|gs.map λg=>.tuple [.int<|g.want*p,.int q],.fz<|.int q] (.ol<|(gs.map<|V8 p q).map QB)
 |mkF {gs:List Gs}{tf:Nat->Fr}{k:Int}(k1:1<=k)(k2:k<10^260)(ht:∀i,i<gs.length->0<(tf i).b/\(tf i).b<=2^103/\(tf i).t<2^210)(hw:∀g∈gs,(0<=g.want/\g.want<10^30)/\0<=g.most/\g.most<10^30)(g8:gs.length<=8):
  R_asking [.fz<|.list<|gs.map QB,.fz<|.list<|(List.range gs.length).map λi=>Zu<|tf i,.fz<|.int k] (.ol<|(Zy gs tf k).map QB)
def T8{a:Int}(h0:0<=a)(m:a<10^100)(f:0<=b)(i:b<10^100):0<=a*b/\a*b<10^200:=by
 refine⟨WW h0 f,?_⟩;have h:a*b<=(10^100-1)*(10^100-1):=Int.mul_le_mul (by lia) (by lia) f (by decide +kernel);exact X8 h (by decide +kernel)
def JP{a:Int}(h:a<10^100):a<10^300:=Yh h (by decide +kernel)
def L9{a:Int}(h:a<10^200):a<10^300:=Yh h (by decide +kernel)
def EY(gs:List Gs)(p q:Int):Ja ((gs.map λg=>Vm g q).map QB) (gs.map λg=>PyData.int<|g.want*p)=gs.map λg=>.tuple [QB<|Vm g q,.int<|g.want*p]:=by
 unfold Ja;rw[Xm];induction gs with
 |nil=>rfl
 |cons g gs a=>
  simp only[Xz,List.zip_cons_cons];rw[a];rfl
def Cg:Qo ZaZ ZaN (Q5 Mu):=by walk_at"p"
def ZqG(T:Bl mg)(ta:Df K mg "asking" Mu ZaN)(b:Qv P w K mg base "guests_times" Zbj 2 (Qy (K:=K) R_gsstimes))(Z:Qv P w K mg base "with_want" ZaL 1 (Qy (K:=K) R_wwant)):Qv P w K mg base "asking" ZaN 3 (Qy (K:=K) R_asking):=by
 refine ta.ev Cg (λf F r h H H2 E A outer s d=>?_);refine⟨_,(Qz (JO (i:=3) Cg.nd rfl rfl (NX:=ZaZ) (sc:=Q5 Mu) (N:=["total","k"]) (f:=[none,some 2]) rfl (by decide +kernel) rfl rfl (ZN<|pv 1) (λ_=>(QK 0 (show(["total","k"]:Qh).Nodup by decide +kernel))) (λ_=>Zm) (λ_=>ZC) (λ_=>(QN Yv (QN Jp (Q8 QA (pv 0) Qw)<|pv 1)<|Q8 QA (pv 0) Qw)) rfl)
 (Q0<|QH<|ZD (NX:=ZaZ) (sc:=Q5 Mu) (N:=ZaL) (f:=[none,none]) rfl (by decide +kernel) rfl rfl (KW rfl T.zip<|Qu (Q3 b d<|av 0<|av 2 Qq)<|av 3 Qq) (λ_=>(VM (n:=2) rfl (Zt (QK 0 (show(ZaL:Qh).Nodup by decide +kernel))<|Zt (QK 1 (show(ZaL:Qh).Nodup by decide +kernel)) VU))) (λ_=>(UZ (n:=2)<|Yw Zm<|Yw Zm Gh)) (λ_=>ZC) λ_=>(Q3 Z d<|av 0<|av 1 Qq))),?_⟩
 cases h with
 |@mk v p q q1 q2 x t X Y=>
  show QC K _ [_,_,_,_] _
  walk_at"x";refine Q9 (Vt (ZI (xs:=v) (enc:=λg=>.tuple [.int<|g.want*p,.int q]) (h:=λg=>.int<|g.want*p) ?ei (by lia) ?el) ?_)
  case ei=>exact Va (Qp rfl)
  case el=>
   intro g B c;obtain⟨⟨D,C⟩,W,R⟩:=X g B;have m:=T8 D C x t;refine⟨_,Zd,?_⟩;walk_at"e";have cd:Jc (g.want*p*q) q:=⟨by lia,Yh q2<|by decide +kernel⟩;exact Qr.cast (V3 (V3 (Z5 (ds:=[.int<|g.want*p,.int q]) (Qp rfl) QG rfl) (Qp rfl)<|Wk m.1 (L9 m.2) (by lia)<|JP q2) (Z5 (ds:=[.int<|g.want*p,.int q]) (Qp rfl) QG rfl) cd) (by rw[Int.mul_ediv_cancel _<|by lia])
  walk_at"d";refine VJ 3 rfl ?_;walk_at"d";refine Wm (ZI (xs:=v) (enc:=λg=>.tuple [QB<|Vm g q,.int<|g.want*p]) (h:=λg=>QB<|V8 p q g) ?ei2 (by lia) ?el2) (by rw[Xm];rfl)
  case ei2=>
   refine EvI.cast (BR<|Qs (JI (Qs (Qp rfl)<|Qs (Qp rfl) Q2)<|R_gsstimes.mk (k:=q) (λg B=>?_) Y)<|Qs (Qp rfl) Q2) (EY v p q);obtain⟨⟨D,C⟩,W,R⟩:=X g B;exact⟨Wk D (JP C) (by lia)<|JP q2,Wk W (JP R) (by lia)<|JP q2⟩
  case el2=>
   intro g B c;refine⟨_,YO (ds:=[QB<|Vm g q,.int<|g.want*p]) (ZZ Zd<|ZZ Zd Wl) rfl,?_⟩;walk_at"e";exact QJ (Qs (Qp rfl)<|Qs (Qp rfl) Q2) (R_wwant.mk (g:=Vm g q))
 |@mkF v u k k1 k2 z X Y=>
  show QC K _ [_,_,_,_] _
  walk_at"x";have O:∀{a:Int},a<10^30->a<10^300:=λh=>Yh h (by decide +kernel);have y:k<10^300:=Yh k2 (by decide +kernel);refine Q9 (Vt (ZI (xs:=List.range v.length) (enc:=λi=>Zu<|u i) (h:=λi=>.int<|((u i).t:Int)*k/((u i).b:Int)) ?ei (by simp;lia) ?el) ?_)
  case ei=>exact Va (Qp rfl)
  case el=>
   intro i e c;obtain⟨G,o,l⟩:=z i (Xw.mp e);refine⟨_,Zd,?_⟩;walk_at"e";have cd:Jc (((u i).t:Int)*k) ((u i).b:Int):=⟨by lia,by
    have:((u i).b:Int)<=((2^103:Nat):Int):=U9.mpr o;exact X8 this<|by decide +kernel⟩
   have j:((u i).t:Int)<10^300:=by
    have:((u i).t:Int)<((2^210:Nat):Int):=W9.mpr l;exact Yh this (by decide +kernel)
   exact V3 (V3 (Z5 (ds:=[.int ((u i).t:Int),.int ((u i).b:Int)]) (Qp rfl) QG rfl) (Qp rfl)<|Wk (by lia) j (by lia) y) (Z5 (ds:=[.int ((u i).t:Int),.int ((u i).b:Int)]) (Qp rfl) QG rfl) cd
  walk_at"d";refine VJ 3 rfl ?_;walk_at"d";refine Wm (ZI (xs:=List.range v.length) (enc:=λi=>.tuple [QB<|Vm (v.getD i default) k,.int<|((u i).t:Int)*k/((u i).b:Int)]) (h:=λi=>QB ⟨(v.getD i default).line,(v.getD i default).first,(v.getD i default).last,((u i).t:Int)*k/((u i).b:Int),(v.getD i default).most*k⟩) ?ei2 (by simp;lia) ?el2) (by unfold Zy;rw[Xm];rfl)
  case ei2=>
   refine EvI.cast (BR<|Qs (JI (Qs (Qp rfl)<|Qs (Qp rfl) Q2)<|R_gsstimes.mk (k:=k) (λg B=>?_) Y)<|Qs (Qp rfl) Q2) ?ez
   .obtain⟨⟨D,C⟩,W,R⟩:=X g B;exact⟨Wk D (O C) (by lia) y,Wk W (O R) (by lia) y⟩
   case ez=>
    rw[Xm];exact T9 v (λg=>QB<|Vm g k) _
  case el2=>
   intro i e c;refine⟨_,YO (ds:=[QB<|Vm (v.getD i default) k,.int<|((u i).t:Int)*k/((u i).b:Int)]) (ZZ Zd<|ZZ Zd Wl) rfl,?_⟩;walk_at"e";exact QJ (Qs (Qp rfl)<|Qs (Qp rfl) Q2) (R_wwant.mk (g:=Vm (v.getD i default) k))
def shF(n m:Nat):Fr:=⟨(frT (n:Int) m).natAbs,frB (n:Int) m⟩
def Ga{m:Nat}(h:0<m):(shF n m).Ok/\((shF n m).t:Int)=frT (n:Int) m/\((shF n m).t:Int)*(m:Int)=((shF n m).b:Int)*(n:Int)/\(shF n m).b<=m:=by
 obtain⟨g,y,w,e,i,s,q,v⟩:=NC (n:Int) h;have r:0<=frT (n:Int) m:=Bv (show(g:Int)*0<=(g:Int)*frT (n:Int) m by rw[Int.mul_zero,<- i];lia) (by lia);have p:((shF n m).t:Int)=frT (n:Int) m:=Int.natAbs_of_nonneg r;refine⟨⟨q,v⟩,p,?_,?_⟩
 .rw[p];have f:(m:Int)=(g:Int)*((shF n m).b:Int):=by
   show(m:Int)=(g:Int)*(frB (n:Int) m:Int)
   rw[<- G3,<- s]
  rw[f];have u:((shF n m).b:Int)*(n:Int)=((shF n m).b:Int)*((g:Int)*frT (n:Int) m):=by rw[<- i]
  rw[u];generalize frT (n:Int) m=a;generalize ((shF n m).b:Int)=b;rw[<- Xu,XD a,XD b,Xu,XD a,<- Xu]
 .show frB (n:Int) m<=m
  exact Nat.div_le_self _ _
def Z8(y:Yd)(gs:List Gs)(A T:Qk):Int:=Zg y gs (λk=>Q7 A k||Q7 T k)-Zg y gs (Q7 A)
def NdS.app{A:Qk}(i:NdS gs A)(f:NdS gs T)(p:∀k∈T,k∉A):NdS gs (A++T):=⟨λk m=>by
 rcases XA.mp m with h|h
 .exact i.mem k h
 .exact f.mem k h,G4.mpr ⟨i.nd,f.nd,λa r b q e=>p b q<|e▸r⟩⟩
def Sml.want{y:Yd}(h:Sml y gs)(S:Qm):wS gs.length (QD gs) S<=8*10^30:=by
 have m:wS gs.length (QD gs) S<=Qx (λ_=>10^30) gs.length:=VT λk a=>by
  have f:=h.w30 (gs.getD k default) (by rw[WM a];exact XL a);have p:=h.giv.w1 k a;unfold QV;split
  .show(gs.getD k default).want<=_
   lia
  .decide +kernel
 have f:∀n:Nat,Qx (λ_=>(10:Int)^30) n=10^30*(n:Int):=λn=>by
  induction n with
  |zero=>rfl
  |succ n i=>
   simp only[Qx];rw[i,Int.natCast_add,UE];lia
 rw[f]at m;have:=h.g8;lia
def DJ{y:Yd}(h:Sml y gs)(S:Qm):((wS gs.length (QD gs) S).toNat:Int)=wS gs.length (QD gs) S:=XU (h.giv.w0 S)
def Ep{y:Yd}{gs:List Gs}(h:Sml y gs){S:Qm}{n:Nat}(q:1<=wS gs.length (QD gs) S)(hn:(n:Int)<=wS gs.length (QD gs) S):FrB (shF n (wS gs.length (QD gs) S).toNat):=by
 have i:0<(wS gs.length (QD gs) S).toNat:=by lia
 obtain⟨a,b,c,d⟩:=Ga (n:=n) i;have r:=h.want S;have f:(8*10^30:Nat)<2^103:=by decide +kernel
 have m:(wS gs.length (QD gs) S).toNat<=8*10^30:=by lia
 refine⟨a,?_,by lia⟩;have:(shF n (wS gs.length (QD gs) S).toNat).t<=(shF n (wS gs.length (QD gs) S).toNat).b:=by
  rw[DJ h]at c;have s:((shF n (wS gs.length (QD gs) S).toNat).b:Int)*(n:Int)<=((shF n (wS gs.length (QD gs) S).toNat).b:Int)*wS gs.length (QD gs) S:=XQ hn (by lia);have p:((shF n (wS gs.length (QD gs) S).toNat).t:Int)*wS gs.length (QD gs) S<=((shF n (wS gs.length (QD gs) S).toNat).b:Int)*wS gs.length (QD gs) S:=by lia
  have:=Pd p (by lia);lia
 lia
inductive R_shleft:List OT->OT->Prop
 |mk {y:Yd}{gs:List Gs}{A T:Qk}(h:Sml y gs)(hA:NdS gs A)(hT:NdS gs T)(hd:∀k∈T,k∉A)(ne:T≠[])(hl:0<=Z8 y gs A T):
  R_shleft [.fz<|QL y,.fz<|.list<|gs.map QB,.fz<|.list<|QO A,.fz<|.list<|QO T] (.fz<|Zu<|shF (Z8 y gs A T).toNat (wS gs.length (QD gs)<|Q7 T).toNat)
def NdS.pos{y:Yd}(h:Sml y gs)(i:NdS gs T)(f:T≠[]):1<=wS gs.length (QD gs) (Q7 T):=by
 obtain⟨k,a⟩:=List.exists_mem_of_ne_nil T f;exact h.giv.wp (i.mem k a) (by unfold Q7;exact XJ a)
def LY(a b:Qk):QO (a++b)=QO a++QO b:=XB
def CW:Qo ["yard","guests","ahead","some","left"] ZaH (Q5 HC):=by walk_at"p"
def Zrg(T:Bl mg)(ta:Df K mg "share_left" HC ZaH)(u:Qv P w K mg base "given_most" Zah 4 (Qy (K:=K) R_givenm))(O:Qv P w K mg base "fraction" Zbl 2 (Qy (K:=K) R_frac))(D:Qv P w K mg base "want_of" Zay 1 (Qy (K:=K) R_want)):Qv P w K mg base "share_left" ZaH 5 (Qy (K:=K) R_shleft):=by
 refine ta.ev CW (λf z r h H H2 x A outer s v=>?_);cases h with
 |@mk y a A i h B p j R Z=>
  refine⟨_,(Qz (QM 4 CW.nd<|QN Wj (Q3 u v<|av 0<|av 1<|Qu (QN BZ (pv 2)<|pv 3) Qq)<|Q3 u v<|av 0<|av 1<|av 2 Qq)
 (Q0<|QH<|Q3 O v<|av 4<|Qu (QW YX (by rfl) T.sum YY<|Qu (ZD (NX:=["yard","guests","ahead","some","left"]) (sc:=Q5 HC) (N:=Zbp) (f:=[none,some 1]) rfl (by decide +kernel) rfl rfl (ZN<|pv 3) (λ_=>(QK 0 (show(Zbp:Qh).Nodup by decide +kernel))) (λ_=>Zm) (λ_=>ZC) λ_=>(Q3 D v<|Qu (Q8 QA (pv 1)<|pv 0) Qq)) Qq) Qq)),?_⟩
  show QC K _ [_,_,_,_,_] _
  walk_at"x";have C:=h.g8;have q:=B.app p j;have F:=(B.ok C).len;have E:=(p.ok C).len;have X:(QO A).length=A.length:=by simp[QO]
  have W:(QO i).length=i.length:=by simp[QO]
  have G:=NdS.pos h p R;refine Q9 (Z9 (d:=.int (Z8 y a A i)) (Qr.cast (YE (QJ (Qs (Qp rfl)<|Qs (Qp rfl)<|Qs (Qr.cast (d':=.list (QO<|A++i)) (EvO.fz<|GM (Qp rfl) (Qp rfl)<|by lia)<|by rw[LY]) Q2)<|R_givenm.mk h.ok h.hg<|q.ok C)<|QJ (Qs (Qp rfl)<|Qs (Qp rfl)<|Qs (Qp rfl) Q2)<|R_givenm.mk h.ok h.hg<|B.ok C) ?e1) ?_)
  case e1=>
   rw[q.given,B.given,Cm];rfl
  walk_at"d";have o:(i.map<|QD a).sum=(((wS a.length (QD a)<|Q7 i).toNat:Nat):Int):=by rw[p.wants,DJ h]
  have l:Z8 y a A i=(((Z8 y a A i).toNat:Nat):Int):=(XU Z).symm;have I:=h.want (Q7 i);refine Zh (Qr.cast (QJ (Qs (Qr.cast (Qp rfl)<|XS PyData.int l)<|Qs (Qr.cast (YV (ns:=i.map (QD a)) (Qr.cast (EvO.fz<|ZI (xs:=i) (enc:=λ(k:Nat)=>PyData.int (k:Int)) (h:=λk=>.int<|QD a k) ?ei (by lia) ?el)<|by rw[Xm];rfl) rfl)<|by rw[o]) Q2)<|R_frac.mk (t:=((Z8 y a A i).toNat:Int)) (b:=(wS a.length (QD a)<|Q7 i).toNat) (by lia) ?_) ?eq) rfl
  case ei=>exact Va (Qp rfl)
  case el=>
   intro k g c;have e:=p.mem k g;refine⟨_,Zd,?_⟩;walk_at"e";have Y:atI (a.map QB) (k:Int)=some (QB<|a.getD k default):=by rw[Uq (f:=QB) (by lia)<|by lia,XF]
   exact QJ (Qs (Ve (Qp rfl) (Qp rfl) Y) Q2) R_want.mk
  case eq=>
   show PyData.tuple [_,_]=_;unfold Zu;rw[(Ga (n:=(Z8 y a A i).toNat) (m:=(wS a.length (QD a)<|Q7 i).toNat)<|by lia).2.1]
   rfl
  .have:((wS a.length (QD a)<|Q7 i).toNat:Int)<=8*10^30:=by lia
   exact X8 this (by decide +kernel)
def Kw(y:Yd)(gs:List Gs)(A:Qk)(f:Fr)(T:Qk):Prop:=
 ∀U:Nat->Bool,(∀k,k<gs.length->U k=true->Q7 A k=false)->(f.t:Int)*wS gs.length (QD gs) U-(f.b:Int)*(Zg y gs (λk=>Q7 A k||U k)-Zg y gs (Q7 A))<=(f.t:Int)*wS gs.length (QD gs) (Q7 T)-(f.b:Int)*Z8 y gs A T
inductive R_mshort:List OT->(OT->Prop)->Prop
 |mk {y:Yd}{gs:List Gs}{A:Qk}{f:Fr}(h:Sml y gs)(hA:NdS gs A)(hf:FrB f)(hl:Low gs.length (QD gs) (Zg y gs) (Q7 A) f.t f.b):
  R_mshort [.fz<|QL y,.fz<|.list<|gs.map QB,.fz<|.list<|QO A,.fz<|Zu f] (λr=>∃T:Qk,NdS gs T/\(∀k∈T,k∉A)/\T.Pairwise (· < ·)/\Kw y gs A f T/\r=.ol (QO T))
def Sw:Qo ZaA ZaE (Q5 M7):=by walk_at"p"
def ZsG(T:Bl mg)(ta:Df K mg "most_short" M7 ZaE)(I:Qv P w K mg base "want_of" Zay 1 (Qy (K:=K) R_want))(G:Qv P w K mg base "lacking_set" Zaa 6 (Z6 K R_lset))(L:Qv P w K mg base "yard_times" Zbq 2 (Qy (K:=K) R_ydtimes))(J:Qv P w K mg base "asking" ZaN 3 (Qy (K:=K) R_asking)):Qv P w K mg base "most_short" ZaE 7 (Z6 K R_mshort):=by
 refine ta.evD Sw (λf ts Φ h H H2 cdv A outer s Z=>?_);cases h with
 |@mk y m A f h hA x u=>
  refine⟨_,(Qz (JO (i:=4) Sw.nd rfl rfl (NX:=ZaA) (sc:=Q5 M7) (N:=Zbi) (f:=[none,some 3]) rfl (by decide +kernel) rfl rfl (ZN<|pv 1) (λ_=>(QK 0 (show(Zbi:Qh).Nodup by decide +kernel))) (λ_=>Zm) (λ_=>ZC) (λ_=>(Z1<|Qu (QN Jp (Q3 I Z<|av 0 Qq)<|Q8 QA (pv 1) Qw)<|Qu (Q8 QA (pv 1) Qw) Qq)) rfl)
 (Qz (QM 5 Sw.nd<|Q3 G Z<|Qu (Q3 L Z<|av 0<|Qu (Q8 QA (pv 3) Qw) Qq)<|Qu (Q3 J Z<|av 1<|av 4<|Qu (Q8 QA (pv 3) Qw) Qq) Qq)
 (Q0<|QH<|ZD (NX:=ZaA) (sc:=Q5 M7) (N:=Zbs) (f:=[none,some 2]) rfl (by decide +kernel) rfl rfl (ZN<|pv 5) (λ_=>(QK 0 (show(Zbs:Qh).Nodup by decide +kernel))) (λ_=>Zm) (λ_=>(Ut<|Z7 CN (pv 0) (pv 1) rfl)) λ_=>(pv 0)))),?_⟩
  show QC K _ [_,_,_,_,_,_] _
  walk_at"x";have z:=h.g8;have R:=h.ok;have b1:=x.ok.1;have e103:(2^103:Nat)<10^100:=by decide +kernel
  have E:(f.b:Int)<10^100:=by
   have:=x.b;have:f.b<10^100:=by lia
   have e:(10:Int)^100=((10^100:Nat):Int):=by decide +kernel
   rw[e];exact W9.mpr this
  have f1:(f.t:Int)<10^100:=by
   have:=x.t;have:f.t<10^100:=by lia
   have e:(10:Int)^100=((10^100:Nat):Int):=by decide +kernel
   rw[e];exact W9.mpr this
  have D:∀{a:Int},a<10^30->a<10^100:=λh=>Yh h (by decide +kernel);have o:∀g∈m,(0<=g.want/\g.want<10^100)/\0<=g.most/\g.most<10^100:=λg B=>⟨⟨by have:=(h.hg g B).w1;lia,D (h.w30 g B).1⟩,by have:=(h.hg g B).m1;lia,D (h.w30 g B).2⟩;have X:∀{Y:ZcP} {i:Nat} {k:Int} {d:PyData},Y[i]?=some (zf<|Zu f)->atI [.int (f.t:Int),.int (f.b:Int)] k=some d->Qr K (tOp (rIx K) (QY i)<|tC<|.int k) Y d:=λe h=>Z5 (ds:=[.int (f.t:Int),.int (f.b:Int)]) (Qp e) QG h;refine Q9 (Vt (ZI (xs:=m) (enc:=QB) (h:=λg=>.tuple [.int<|g.want*(f.t:Int),.int (f.b:Int)]) ?ei (by lia) ?el) ?_)
  case ei=>exact Va (Qp rfl)
  case el=>
   intro g B c;obtain⟨⟨n,M⟩,Q,m1⟩:=o g B;refine⟨_,Zd,?_⟩;walk_at"e";exact Vd (Za (V3 (QJ (Qs (Qp rfl) Q2) R_want.mk) (X rfl rfl)<|Wk n (JP M) (by lia)<|JP f1)<|Za (X rfl rfl) Z2) YM
  walk_at"d";refine VJ 4 rfl ?_;walk_at"d";have j:∀l∈y.ls,∀b∈l.bs,0<=b/\b<10^100:=λl u b C=>⟨(R.bb l u b C).1,D<|h.b30 l u b C⟩;have O:(Zi y (f.b:Int)).Ok:=RO R (by lia) λl u b C=>L9 (T8 (j l u b C).1 (j l u b C).2 (by lia) E).2
  have W:∀g∈m.map (V8 (f.t:Int) (f.b:Int)),GOk (Zi y (f.b:Int)) g:=λg B=>by
   obtain⟨g0,S,rfl⟩:=Xk.mp B;obtain⟨⟨n,M⟩,Q,m1⟩:=o g0 S;exact⟨by have:=(h.hg g0 S).ln;simpa [Zi,V8] using this,WW n<|by lia,WW Q<|by lia⟩
  refine Q9 (Yx (V7 (Qs (QJ (Qs (Qp rfl)<|Qs (X rfl rfl) Q2)<|R_ydtimes.mk (λl u b C=>Wk (j l u b C).1 (JP (j l u b C).2) (by lia) (JP E)) (λl u=>by rw[R.bl l u];exact R.t8) R.l5)<|Qs (JI (Qs (Qp rfl)<|Qs (Qp rfl)<|Qs (X rfl rfl) Q2)<|R_asking.mk (p:=(f.t:Int)) (q:=(f.b:Int)) (by lia) E (by lia) f1 o z) Q2)<|R_lset.mk O W<|by simpa using z) λr t=>?_);obtain⟨φ,es,fb,rfl⟩:=t;walk_at"d";refine VJ 5 rfl ?_;walk_at"d";have F:Zb (m.map<|V8 (f.t:Int) (f.b:Int)) (QS es)=Zb m (QS es):=DY (by simp) _;rw[F];have sl:=(Gn z<|QS es).len;have mx:=Ol (by lia) O W fb;refine Wm (r:=.ol (QO<|(Zb m<|QS es).filter λk => !decide (k∈A))) (JG (xs:=Zb m (QS es)) (enc:=λ(k:Nat)=>PyData.int (k:Int)) (h:=λ(k:Nat)=>PyData.int (k:Int)) (p:=λk => !decide (k∈A)) ?ei2 (by lia) ?el2) ?fin
  case ei2=>exact Va (Qp rfl)
  case el2=>
   intro k v c;refine⟨_,Zd,?_,λ_=>?_⟩
   .walk_at"e";exact ZE (Nx (Qp rfl)<|Qp rfl)
   .walk_at"e";exact Qp rfl
  case fin=>
   have em:∀k,k<m.length->Q7 ((Zb m<|QS es).filter λk => !decide (k∈A)) k=(QS es k && !Q7 A k):=λk v=>by
    unfold Q7 Zb;have:(k∈((List.range m.length).filter (QS es)).filter λk => !decide (k∈A))↔(QS es k=true/\¬k∈A):=by
     rw[Wd,Wd,Xw];simp[v]
    rw[Bx,decide_eq_true_eq,this];simp
   refine⟨(Zb m<|QS es).filter λk => !decide (k∈A),⟨λk v=>Xw.mp (Wd.mp (Wd.mp v).1).1,(HS.filter _).filter _⟩,λk v=>by have:=(Wd.mp v).2;simpa using this,(List.pairwise_lt_range.filter _).filter _,?_,rfl⟩;intro U hU;have h1:=ZsT h.giv u (by lia) mx U hU;have e1:wS m.length (QD m) (Q7<|(Zb m<|QS es).filter λk => !decide (k∈A))=wS m.length (QD m) (λk=>QS es k && !Q7 A k):=KY em;have e2:Zg y m (λk=>Q7 A k||Q7 ((Zb m<|QS es).filter λk => !decide (k∈A)) k)=Zg y m (λk=>Q7 A k||(QS es k && !Q7 A k)):=h.giv.ext _ _ λk v=>by rw[em k v]
   unfold Z8;rw[e1,e2];exact h1
def GL(gs:List Gs)(A:Qk):Qk:=(List.range gs.length).filter λk => !decide (k∈A)
def ZuC{A:Qk}(a:k<gs.length)(c:k∉A):k∈GL gs A:=Wd.mpr ⟨Xw.mpr a,by simp[c]⟩
structure NextOk(y:Yd)(gs:List Gs)(A:Qk)(p q:Int)(f:Fr)(T:Qk):Prop where
 fr:FrB f
 le:f.t<=f.b
 low:p*(f.b:Int)<=(f.t:Int)*q
 up:Up gs.length (QD gs) (Zg y gs) (Q7 A) f.t f.b
 nd:NdS gs T
 dis:∀k∈T,k∉A
 ne:T≠[]
 tight:f.t<f.b->(f.t:Int)*wS gs.length (QD gs) (Q7 T)=(f.b:Int)*Z8 y gs A T
 all:f.t=f.b->T=GL gs A
inductive R_nlevel:List OT->(OT->Prop)->Prop
 |mk {y:Yd}{gs:List Gs}{A:Qk}{p q:Int}(h:Sml y gs)(hA:NdS gs A)(p0:0<=p)(pq:p<=q)(q0:0<q)(hl:Low gs.length (QD gs) (Zg y gs) (Q7 A) p q)(hu:Up gs.length (QD gs) (Zg y gs) (Q7 A) p q)(hm:A.length<gs.length):
  R_nlevel [.fz<|QL y,.fz<|.list<|gs.map QB,.fz<|.list<|QO A] (λr=>∃f T,NextOk y gs A p q f T/\r=.fz (.tuple [Zu f,.list<|QO T]))
def ES(a b:Fr):BF (Wz [a]) (Wz [b])=decide (b.t*a.b<a.t*b.b):=by
 have e:∀x:Fr,Wz [x]=[x]:=λx=>rfl;rw[e,e];show(if a=b then false else decide (b.t*a.b<a.t*b.b))=_
 by_cases c:a=b
 .subst c;rw[Xf rfl];exact(Xo<|by lia).symm
 .rw[Xc c]
def D9{y:Yd}(h:Sml y gs){A:Qk}{p q:Int}(i:0<=p)(f:0<q)(m:Up gs.length (QD gs) (Zg y gs) (Q7 A) p q)(r:∀k∈T,k∉A):p*wS gs.length (QD gs) (Q7 T)<=q*Z8 y gs A T/\0<=Z8 y gs A T:=by
 have s:=m (Q7 T) (λk _ e=>Xo<|r k<|XH e);refine⟨s,?_⟩;have u:0<=p*wS gs.length (QD gs) (Q7 T):=WW i (h.giv.w0 _);refine Bv (a:=q) ?_ f;rw[Int.mul_zero];show 0<=q*(Zg y gs (λk=>Q7 A k||Q7 T k)-Zg y gs (Q7 A))
 lia
def Ct{y:Yd}(h:Sml y gs){A:Qk}{p q:Int}{f:Fr}(X:0<=p)(R:0<q)(Z:Up gs.length (QD gs) (Zg y gs) (Q7 A) p q)(j:NdS gs T)(g:∀k∈T,k∉A)(Y:T≠[])(o:f.t<=f.b)(F:0<f.b)
(C:(shF (Z8 y gs A T).toNat (wS gs.length (QD gs)<|Q7 T).toNat).t*f.b<f.t*(shF (Z8 y gs A T).toNat (wS gs.length (QD gs)<|Q7 T).toNat).b):
 ∃n:Fr,n=shF (Z8 y gs A T).toNat (wS gs.length (QD gs)<|Q7 T).toNat/\FrB n/\n.t<n.b/\p*(n.b:Int)<=(n.t:Int)*q/\(n.t:Int)*wS gs.length (QD gs) (Q7 T)=(n.b:Int)*Z8 y gs A T/\(n.t:Int)*(f.b:Int)<(f.t:Int)*(n.b:Int)/\(f.b:Int)*Z8 y gs A T<(f.t:Int)*wS gs.length (QD gs) (Q7 T):=by
 obtain⟨u,D⟩:=D9 h X R Z g;have K:=NdS.pos h j Y;have e:0<(wS gs.length (QD gs)<|Q7 T).toNat:=by lia
 obtain⟨a,b,c,d⟩:=Ga (n:=(Z8 y gs A T).toNat) e;have w:(((Z8 y gs A T).toNat:Nat):Int)=Z8 y gs A T:=XU D;rw[DJ h,w]at c;have i:=λv=>Ep h (S:=Q7 T) (n:=(Z8 y gs A T).toNat) K v;generalize v:shF (Z8 y gs A T).toNat (wS gs.length (QD gs)<|Q7 T).toNat=n at a c d C i;generalize x:wS gs.length (QD gs) (Q7 T)=W at c u K i;generalize E:Z8 y gs A T=m at c u D w i;have H:=a.1;have r:(n.t:Int)*(f.b:Int)<(f.t:Int)*(n.b:Int):=by rw[<- G3,<- G3];exact W9.mpr C
 have tb:n.t<n.b:=by
  refine Nat.lt_of_not_le λz=>?_;have s:f.t*n.b<=n.t*f.b:=Xx (Nat.mul_le_mul_right _ o) (by rw[G5];exact Nat.mul_le_mul_right _ z)
  lia
 have P:(f.b:Int)*m<(f.t:Int)*W:=by
  have s:(n.t:Int)*(f.b:Int)*W<(f.t:Int)*(n.b:Int)*W:=Int.mul_lt_mul_of_pos_right r (by lia);have B:(n.t:Int)*(f.b:Int)*W=(n.b:Int)*((f.b:Int)*m):=by
   rw[XD (n.t:Int),Xu,c,<- Xu,XD (f.b:Int),Xu]
  have O:(f.t:Int)*(n.b:Int)*W=(n.b:Int)*((f.t:Int)*W):=by rw[XD (f.t:Int),Xu]
  rw[B,O]at s;exact Int.lt_of_mul_lt_mul_left s (by lia)
 have t:m<=W:=by
  have N:(f.t:Int)*W<=(f.b:Int)*W:=XV (by lia) (by lia);have l:(f.b:Int)*m<(f.b:Int)*W:=by lia
  exact Int.le_of_lt (Int.lt_of_mul_lt_mul_left l<|by lia)
 refine⟨n,v.symm▸rfl,i<|by rw[w];exact t,tb,?_,c,r,P⟩;have s:(n.b:Int)*(p*W)<=(n.b:Int)*(q*m):=XQ u (by lia);have B:(n.b:Int)*(q*m)=q*((n.t:Int)*W):=by rw[c,<- Xu,XD (n.b:Int),Xu]
 rw[B]at s;have N:p*(n.b:Int)*W<=(n.t:Int)*q*W:=by
  have O:p*(n.b:Int)*W=(n.b:Int)*(p*W):=by rw[XD p,Xu]
  have G:(n.t:Int)*q*W=q*((n.t:Int)*W):=by rw[XD (n.t:Int),Xu]
  lia
 exact Pd N (by lia)
theorem P9:∀n:Nat,Qx (λ_=>(10:Int)^30) n=10^30*(n:Int)
 |0=>rfl
 |n+1=>by
  simp only[Qx];rw[P9 n,Int.natCast_add,UE];lia
def Sml.gv8{y:Yd}(h:Sml y gs)(S:Qm):Zg y gs S<=8*10^30:=by
 have m:Zg y gs S<=Qx (λ_=>(10:Int)^30) y.T:=by
  unfold Zg;rw[ZO,Vk];refine VT λt i=>?_
  have a:Zl y 0 t<10^30:=by
   have q:=h.ok.l1;have a:Zl y 0 t=(Vb y 0).bs.getD t 0:=Bp (by lia);rw[a];have e:Vb y 0∈y.ls:=by
    have:Vb y 0=y.ls[0]:=by unfold Vb;rw[List.getD,XI<|by lia];rfl
    rw[this];exact XL _
   have f:t<(Vb y 0).bs.length:=by rw[h.ok.bl _ e];exact i
   have p:(Vb y 0).bs.getD t 0=(Vb y 0).bs[t]:=by simp[List.getD,f]
   rw[p];exact h.b30 _ e _ (XL f)
  unfold ZA passes;dsimp only;lia
 rw[P9]at m;have:=h.ok.t8;lia
def IV{y:Yd}(h:Sml y gs)(A T:Qk):Z8 y gs A T<=8*10^30:=by
 have f:=h.gv8 (λk=>Q7 A k||Q7 T k);have a:=h.giv.nn (Q7 A);unfold Z8;lia
def IL{y:Yd}{gs:List Gs}(h:Sml y gs){S:Qm}{n:Nat}(s:1<=wS gs.length (QD gs) S)(hn:(n:Int)<=8*10^30):FrB (shF n (wS gs.length (QD gs) S).toNat):=by
 have i:0<(wS gs.length (QD gs) S).toNat:=by lia
 obtain⟨a,b,c,d⟩:=Ga (n:=n) i;obtain⟨g,w,v,e,q,A,r,B⟩:=NC (n:Int) i;have u:=h.want S;have m:(8*10^30:Nat)<2^103:=by decide +kernel
 have p:(wS gs.length (QD gs) S).toNat<=8*10^30:=by lia
 refine⟨a,?_,by lia⟩;have:((shF n (wS gs.length (QD gs) S).toNat).t:Int)<=(n:Int):=by
  rw[b];have f:0<=frT (n:Int) (wS gs.length (QD gs) S).toNat:=by rw[<- b];lia
  generalize frT (n:Int) (wS gs.length (QD gs) S).toNat=x at q f;have:1*x<=(g:Int)*x:=XV (by lia) f;lia
 lia
structure LoopN(y:Yd)(gs:List Gs)(A:Qk)(p q:Int)(f:Fr)(H1 T:Qk):Prop where
 fr:FrB f
 le:f.t<=f.b
 low:p*(f.b:Int)<=(f.t:Int)*q
 nd:NdS gs H1
 dis:∀k∈H1,k∉A
 ne:H1≠[]
 tight:f.t<f.b->(f.t:Int)*wS gs.length (QD gs) (Q7 H1)=(f.b:Int)*Z8 y gs A H1
 all:f.t=f.b->H1=GL gs A
 tnd:NdS gs T
 tdis:∀k∈T,k∉A
 most:Kw y gs A f T
def Ji(y:Yd)(gs:List Gs)(A:Qk)(f:Fr)(T:Qk):Bool := !T.isEmpty&&decide ((shF (Z8 y gs A T).toNat (wS gs.length (QD gs)<|Q7 T).toNat).t*f.b<f.t*(shF (Z8 y gs A T).toNat (wS gs.length (QD gs)<|Q7 T).toNat).b)
def OK{y:Yd}(h:Sml y gs){A:Qk}{p q:Int}{f:Fr}(C:0<=p)(B:0<q)(K:Up gs.length (QD gs) (Zg y gs) (Q7 A) p q)(I:LoopN y gs A p q f e T)(i:Ji y gs A f T=false):NextOk y gs A p q f e:=by
 refine⟨I.fr,I.le,I.low,?_,I.nd,I.dis,I.ne,I.tight,I.all⟩;refine Zpm (T:=Q7 T) I.most ?_
 by_cases r:T=[]
 .subst r;have v:wS gs.length (QD gs) (Q7 [])=0:=O0 λk _=>rfl;have u:Zg y gs (λk=>Q7 A k||Q7 [] k)=Zg y gs (Q7 A):=h.giv.ext _ _ λk _=>by simp[Q7]
  rw[v,u];lia
 .have m:T.isEmpty=false:=by cases T with|nil=>exact Xr rfl r|cons _ _=>rfl
  unfold Ji at i;rw[m]at i;rw[Bool.not_false,Bool.true_and]at i;have i:=WA i;obtain⟨P,D⟩:=D9 h C B K I.tdis;have N:=NdS.pos h I.tnd r;have O:0<(wS gs.length (QD gs)<|Q7 T).toNat:=by lia
  obtain⟨a,b,c,d⟩:=Ga (n:=(Z8 y gs A T).toNat) O;rw[DJ h,XU D]at c;generalize shF (Z8 y gs A T).toNat (wS gs.length (QD gs)<|Q7 T).toNat=n at a c d i;have R:=a.1;have s:(f.t:Int)*(n.b:Int)<=(n.t:Int)*(f.b:Int):=by rw[<- G3,<- G3];exact U9.mpr (by lia)
  show(f.t:Int)*wS gs.length (QD gs) (Q7 T)<=(f.b:Int)*Z8 y gs A T
  generalize wS gs.length (QD gs) (Q7 T)=W at c N;generalize Z8 y gs A T=e at c;have w:(f.t:Int)*(n.b:Int)*W<=(n.t:Int)*(f.b:Int)*W:=XV s (by lia);have v:(n.t:Int)*(f.b:Int)*W=(n.b:Int)*((f.b:Int)*e):=by
   rw[XD (n.t:Int),Xu,c,<- Xu,XD (f.b:Int),Xu]
  have u:(f.t:Int)*(n.b:Int)*W=(n.b:Int)*((f.t:Int)*W):=by rw[XD (f.t:Int),Xu]
  rw[v,u]at w;exact Bv w (by lia)
def BD(y:Yd)(gs:List Gs)(A:Qk)(f:Fr)(T:Qk):Nat:=if Ji y gs A f T=true then (wS gs.length (QD gs)<|Q7 T).toNat+1 else 0
def Zr3{y:Yd}(h:Sml y gs){A:Qk}{p q:Int}{f:Fr}(u:0<=p)(s:0<q)(K:Up gs.length (QD gs) (Zg y gs) (Q7 A) p q)(X:NdS gs T)(i:∀k∈T',k∉A)(m:NdS gs T')(B:Kw y gs A f T)(Y:0<f.b)(w:0<n.b)(nt:n.t<=n.b)
(a:(n.t:Int)*wS gs.length (QD gs) (Q7 T)=(n.b:Int)*Z8 y gs A T)(D:(n.t:Int)*(f.b:Int)<(f.t:Int)*(n.b:Int))(N:Ji y gs A f T=true):BD y gs A n T'<BD y gs A f T:=by
 unfold BD;rw[Xf N];by_cases c:Ji y gs A n T'=true
 .rw[Xf c];unfold Ji at c;obtain⟨P,O⟩:=ML.mp c;have v:T'≠[]:=λz=>by subst z;simp at P
  obtain⟨R,_,_,_,_,_,_,r⟩:=Ct h u s K m i v nt w (XH O);have C:=B (Q7 T') (λk _ e=>Xo<|i k<|XH e);have:=ZqP (p:=(f.t:Int)) (q:=(f.b:Int)) (p':=(n.t:Int)) (q':=(n.b:Int)) (W:=wS gs.length (QD gs) (Q7 T)) (W':=wS gs.length (QD gs) (Q7 T')) (x:=Z8 y gs A T) (x':=Z8 y gs A T') (by lia) (by lia) D a C r;have:=h.giv.w0 (Q7 T');lia
 .rw[Xc c];lia
def Gw:Qo ZaS ZaT (Q5 Hm):=by walk_at"p"
def Zr4(T:Bl mg)(ta:Df K mg "next_level" Hm ZaT)(L:Qv P w K mg base "most_short" ZaE 7 (Z6 K R_mshort))(XcC:Qv P w K mg base "is_fairer" ZaJ 3 (Qy (K:=K) R_fairer))(J:Qv P w K mg base "share_left" ZaH 5 (Qy (K:=K) R_shleft)):Qv P w K mg base "next_level" ZaT 8 (Z6 K R_nlevel):=by
 refine ta.evD Gw (λf ts Φ h H H2 cdv A outer s F=>?_);cases h with
 |@mk y a A p q h Q l pq g hl E hm=>
  refine⟨_,(Qz (QM 3 Gw.nd<|Z1<|Qu Qw<|Qu Qw Qq)
 (Qz (JO (i:=4) Gw.nd rfl rfl (NX:=ZaS) (sc:=Q5 Hm) (N:=Zbs) (f:=[none,some 2]) rfl (by decide +kernel) rfl rfl (V1 rfl T.range<|Qu (QW ZU (by rfl) T.len ZT<|av 1 Qq) Qq) (λ_=>(QK 0 (show(Zbs:Qh).Nodup by decide +kernel))) (λ_=>Zm) (λ_=>(Ut<|Z7 CN (pv 0) (pv 1) rfl)) (λ_=>(pv 0)) rfl)
 (Qz (QM 5 Gw.nd<|Q3 L F<|av 0<|av 1<|av 2<|av 3 Qq)
 (Qz (JL zN (PW.pt<|Dk (L6 (pv 5) λ_=>rfl)<|DC<|V4<|Q3 XcC F<|Qu (Vo<|av 3 Qq)<|Qu (Vo<|Qu (Q3 J F<|av 0<|av 1<|av 2<|av 5 Qq) Qq) Qq) (Qz (QM 3 Gw.nd<|Q3 J F<|av 0<|av 1<|av 2<|av 5 Qq)
 (Qz (QM 4 Gw.nd<|pv 5)
 (Q0<|QM 5 Gw.nd<|Q3 L F<|av 0<|av 1<|av 2<|av 3 Qq))))
 (Q0<|QH<|Z1<|av 3<|av 4 Qq))))),?_⟩
  show QC K _ [_,_,_,_,_,_] _
  walk_at"x";have g8:=h.g8;have gl:(a.map QB).length=a.length:=by simp
  have o:FrB ⟨1,1⟩:=⟨⟨by decide,by decide⟩,by decide,by decide⟩;have D:∀{f:Fr},0<f.b->p*(f.b:Int)<=(f.t:Int)*q->Low a.length (QD a) (Zg y a) (Q7 A) f.t f.b:=λb1 lo=>hl.more h.giv g (by lia) lo;refine Q9 (Z9 (d:=Zu ⟨1,1⟩) (Vd (Za QG<|Za QG Z2) YM) ?_)
  walk_at"d";refine Q9 (Vt (r:=.ol (QO<|GL a A)) (JG (xs:=List.range a.length) (enc:=λ(k:Nat)=>PyData.int (k:Int)) (h:=λ(k:Nat)=>PyData.int (k:Int)) (p:=λk => !decide (k∈A)) ?ei (by simp;lia) ?el) ?_)
  case ei=>
   refine EvI.cast (WN (Qs (YH<|Qp rfl) Q2) (by rw[z62,gl];lia)<|by rw[z62,gl];lia) ?_;rw[gl,XF];unfold ZW;refine X6 λi _=>?_;rw[X9]
  case el=>
   intro k O c;refine⟨_,Zd,?_,λ_=>?_⟩
   .walk_at"e";exact ZE (Nx (Qp rfl)<|Qp rfl)
   .walk_at"e";exact Qp rfl
  walk_at"d";refine VJ 4 rfl ?_;walk_at"d";refine Q9 (Yx (V7 (Qs (Qp rfl)<|Qs (Qp rfl)<|Qs (Qp rfl)<|Qs (Qp rfl) Q2)<|R_mshort.mk h Q o<|D (by decide)<|by show p*1<=1*q;lia) λr Z=>?_);obtain⟨T1,t1,t2,-,t3,rfl⟩:=Z;walk_at"d";have I0:LoopN y a A p q ⟨1,1⟩ (GL a A) T1:=⟨o,Xn _,by show p*1<=1*q;lia,⟨λk O=>Xw.mp (Wd.mp O).1,HS.filter _⟩,λk O=>by have:=(Wd.mp O).2;simpa using this,λz=>by
   have:∀k,k<a.length->k∈A:=λk O=>Decidable.byContradiction λc=>by
    have:k∈GL a A:=Wd.mpr ⟨Xw.mpr O,by simp[c]⟩;rw[z]at this;cases this
   have l1:=Q.perm.length_eq;have U:Zb a (Q7 A)=List.range a.length:=B6.mpr λk O=>XJ (this k<|Xw.mp O);rw[U,MN]at l1;lia,λc=>Xr c<|by decide,λ_=>rfl,t1,t2,t3⟩
  have G:∀{Y:ZcP} {E':XK} {v:Qk},Y[0]?=some (zf<|QL y)->Y[1]?=some (zf<|.list<|a.map QB)->Y[2]?=some (zf<|.list<|QO A)->Y[5]?=some (zf<|.list<|QO v)->NdS a v->(∀k∈v,k∉A)->v≠[]->
   Qr K (YC (Qy (K:=K) R_shleft) [] E'<|QX (QY 0)<|QX (QY 1)<|QX (QY 2)<|QX (QY 5) Zo) Y (Zu<|shF (Z8 y a A v).toNat (wS a.length (QD a)<|Q7 v).toNat):=λe0 e1 e2 e5 j t M=>QJ (Qs (Qp e0)<|Qs (Qp e1)<|Qs (Qp e2)<|Qs (Qp e5) Q2) (R_shleft.mk h Q j t M (D9 h l g E t).2)
  refine GP (λR=>∃B C u,NextOk y a A p q B C/\R=[zf<|QL y,zf<|.list<|a.map QB,zf<|.list<|QO A,zf<|Zu B,zf<|.list<|QO C,u]) ?wh ?rt
  case rt=>
   rintro _ ⟨B,C,u,hN,rfl⟩;exact Zh (Vd (Za (Qp rfl)<|Za (Qp rfl) Z2) YM) ⟨B,C,hN,rfl⟩
  case wh=>
   refine Uz (λm R=>∃B C v,m=BD y a A B v/\LoopN y a A p q B C v/\R=[zf<|QL y,zf<|.list<|a.map QB,zf<|.list<|QO A,zf<|Zu B,zf<|.list<|QO C,some<|.ol<|QO v]) _ ⟨_,_,_,rfl,I0,rfl⟩ ?_;rintro m _ ⟨B,C,v,rfl,I,rfl⟩;refine⟨Ji y a A B v,?tst,λc=>?_,λc=>⟨B,C,_,OK h l g E I c,rfl⟩⟩
   case tst=>
    refine NS 5 (r:=.ol (QO v)) rfl rfl ?_;walk_at"d";refine Zf.cast (Dg (b := !(QO v).isEmpty) (c:=Ji y a A B v) (Ll (ds:=QO v)<|Qp rfl) λc=>?_) ?_
    .have W:v≠[]:=λz=>by subst z;simp[QO]at c
     have S:v.isEmpty=false:=by cases v with|nil=>exact Xr rfl W|cons _ _=>rfl
     have hp:=NdS.pos h I.tnd W;have U:=(D9 h l g E I.tdis).2;have hx:=I.fr;have hsh:FrB (shF (Z8 y a A v).toNat (wS a.length (QD a)<|Q7 v).toNat):=IL h hp (by rw[XU U];exact IV h A v);refine Zf.cast (ZL<|QJ (Qs (EvO.fz<|Ya (ds:=[Zu B]) (Za (Qp rfl) Z2) J1)<|Qs (EvO.fz<|Ya (ds:=[Zu<|shF (Z8 y a A v).toNat (wS a.length (QD a)<|Q7 v).toNat]) (Za (G rfl rfl rfl rfl I.tnd I.tdis W) Z2) J1) Q2)<|R_fairer.mk (as:=[B]) (bs:=[shF (Z8 y a A v).toNat (wS a.length (QD a)<|Q7 v).toNat]) (λx X=>?_) (λx X=>?_) rfl (by show(1:Nat)<=8;decide)) ?_
     .exact(Xt.mp X).symm▸hx.g
     .exact(Xt.mp X).symm▸hsh.g
     .rw[ES];unfold Ji;rw[S,Bool.not_false,Bool.true_and]
    .unfold Ji;have:(QO v).isEmpty=v.isEmpty:=by cases v<;>rfl
     rw[this];cases v.isEmpty<;>simp
   .obtain⟨c1,c2⟩:=ML.mp c;have W:v≠[]:=λz=>by subst z;simp at c1
    obtain⟨n,en,j,t,M,n4,n5,n6⟩:=Ct h l g E I.tnd I.tdis W I.le I.fr.ok.1 (XH c2);refine VJ 5 rfl ?_;walk_at"d";refine Q9 (Z9 (d:=Zu n) (Qr.cast (G rfl rfl rfl rfl I.tnd I.tdis W)<|by rw[en]) ?_);walk_at"d";refine Q9 (Z9 (Qp rfl) ?_);walk_at"d";refine Yx (V7 (Qs (Qp rfl)<|Qs (Qp rfl)<|Qs (Qp rfl)<|Qs (Qp rfl) Q2)<|R_mshort.mk h Q j<|D j.ok.1 M) (λr Z=>?_);obtain⟨T2,u1,u2,-,u3,rfl⟩:=Z;walk_at"d";refine⟨BD y a A n T2,Zr3 h l g E I.tnd u2 u1 I.most I.fr.ok.1 j.ok.1 (X4 t) n4 n5 c,n,v,T2,rfl,⟨j,X4 t,M,I.tnd,I.tdis,W,λ_=>n4,λe=>Xr e<|by lia,u1,u2,u3⟩,rfl⟩
def BJ(l:Fr×Qk):PyData:=.tuple [Zu l.1,.list<|QO l.2]
inductive Lev(y:Yd)(gs:List Gs):Qk->Int->Int->List (Fr×Qk)->Prop
 |nil {A:Qk}{p q:Int}(h:∀k,k<gs.length->k∈A):Lev y gs A p q []
 |cons {A:Qk}{p q:Int}{f:Fr}{T:Qk}{lv:List (Fr×Qk)}(h:NextOk y gs A p q f T)(r:Lev y gs (A++T) f.t f.b lv):Lev y gs A p q ((f,T)::lv)
inductive R_levels:List OT->(OT->Prop)->Prop
 |mk {y:Yd}{gs:List Gs}(h:Sml y gs):R_levels [.fz<|QL y,.fz<|.list<|gs.map QB] (λr=>∃lv,Lev y gs [] 0 1 lv/\lv.length<=8/\r=.ol (lv.map BJ))
def ZpY{A:Qk}(i:NdS gs A)(h:¬A.length<gs.length):∀k,k<gs.length->k∈A:=λk f=>Decidable.byContradiction λc=>by
 have m:=i.perm.length_eq;have a:(Zb gs<|Q7 A).length<(List.range gs.length).length:=by
  unfold Zb;refine Nat.lt_of_le_of_ne (List.length_filter_le _ _) λe=>?_
  have:=List.length_filter_eq_length_iff.mp e k (Xw.mpr f);exact c (XH this)
 rw[MN]at a;lia
structure LoopL(y:Yd)(gs:List Gs)(lv:List (Fr×Qk))(A:Qk)(p q:Int):Prop where
 nd:NdS gs A
 len:lv.length<=A.length
 on:∀rest,Lev y gs A p q rest->Lev y gs [] 0 1 (lv++rest)
 go:A.length<gs.length->(0<=p/\p<=q/\0<q)/\Low gs.length (QD gs) (Zg y gs) (Q7 A) p q/\Up gs.length (QD gs) (Zg y gs) (Q7 A) p q
def LoopL.step{y:Yd}(h:Sml y gs){A:Qk}{p q:Int}{f:Fr}(I:LoopL y gs lv A p q)(O:A.length<gs.length)(N:NextOk y gs A p q f T):LoopL y gs (lv++[(f,T)]) (A++T) f.t f.b:=by
 have i:=I.nd.app N.nd N.dis;have X:0<T.length:=B7.mpr N.ne;refine⟨i,?_,λrest r=>?_,λK=>?_⟩
 .have:=I.len;simp only[Xy,Wt,List.length_nil];lia
 .rw[JT];exact I.on _ (.cons N r)
 .obtain⟨⟨Z,Y,B⟩,P,b⟩:=I.go O;have g:=N.fr.ok.1;have C:f.t<f.b:=by
   refine Nat.lt_of_le_of_ne N.le λe=>?_;have R:=N.all e
   have a:∀k,k<gs.length->k∈A++T:=λk s=>by
    by_cases c:k∈A
    .exact Jz _ c
    .exact XO _ (R▸ZuC s c)
   have m:=i.perm.length_eq;have D:Zb gs (Q7<|A++T)=List.range gs.length:=B6.mpr λk s=>XJ (a k<|Xw.mp s);rw[D,MN]at m;lia
  have v:∀k,k<gs.length->Q7 T k=true->Q7 A k=false:=λk _ e=>Xo (N.dis k<|XH e);have u:=N.tight C;have d:Zg y gs (Q7<|A++T)=Zg y gs (λk=>Q7 A k||Q7 T k):=Cm A T;have m:=Low.step h.giv P N.up v u B (by lia) N.low;have w:=Up.step h.giv N.up v u;have W:Q7 (A++T)=λk=>Q7 A k||Q7 T k:=funext λk=>Sj A T k;rw[W];exact⟨⟨by lia,by have:=N.le;lia,by lia⟩,m,w⟩
def M8:Qo ["yard","guests","levels","ahead","level"] Zaa (Q5 Sz):=by walk_at"p"
def ZqB(T:Bl mg)(ta:Df K mg "fair_levels" Sz Zaa)(Y:Qv P w K mg base "next_level" ZaT 8 (Z6 K R_nlevel)):Qv P w K mg base "fair_levels" Zaa 9 (Z6 K R_levels):=by
 refine ta.evD M8 (λf G F h H H2 z A outer s n=>?_);cases h with
 |@mk y v h=>
  refine⟨_,(Qz (QM 2 M8.nd<|Vo Qq)
 (Qz (QM 3 M8.nd<|Vo Qq)
 (Qz (JL zN (Z7 Uf (QW ZU (by rfl) T.len ZT<|av 3 Qq) (QW ZU (by rfl) T.len ZT<|av 1 Qq)<|Zp _) (Qz (QM 4 M8.nd<|Q3 Y n<|av 0<|av 1<|av 3 Qq)
 (Qz (Vs<|Wi zP zS zT WU (pv 2)<|av 4 Qq)
 (Q0<|QM 3 M8.nd<|QN BZ (pv 3)<|Q8 QA (pv 4) Qw))))
 (Q0<|QH<|pv 2)))),?_⟩
  show QC K _ [_,_,_,_,_] _
  walk_at"x";have Z:=h.g8;have gl:(v.map QB).length=v.length:=by simp
  refine Q9 (Vt (Ya (ds:=[]) Z2<|by decide) ?_);walk_at"d";refine Q9 (Vt (Ya (ds:=[]) Z2<|by decide) ?_);walk_at"d";have E:LoopL y v [] [] 0 1:=⟨⟨(by rintro k ⟨⟩),G2⟩,Xn _,λrest r=>r,λ_=>⟨⟨by decide,by decide,by decide⟩,Low.nil h.giv λk _=>rfl,Up.nn h.giv λk _=>rfl⟩⟩;refine GP (λC=>∃i a u,Lev y v [] 0 1 i/\i.length<=8/\C=[zf<|QL y,zf<|.list<|v.map QB,some<|.ol<|i.map BJ,a,u]) ?wh ?rt
  case rt=>
   rintro _ ⟨i,a,u,x,j,rfl⟩;exact Du rfl ⟨i,x,j,rfl⟩
  case wh=>
   refine Uz (λm C=>∃i A p q u,m=v.length-A.length/\LoopL y v i A p q/\C=[zf<|QL y,zf<|.list<|v.map QB,some<|.ol<|i.map BJ,some<|.ol<|QO A,u]) _ ⟨[],[],0,1,none,rfl,E,rfl⟩ ?_;rintro m _ ⟨i,A,p,q,u,rfl,I,rfl⟩;have Q:=(I.nd.ok Z).len;have R:(QO A).length=A.length:=by simp[QO]
   refine⟨decide (A.length<v.length),?tst,λc=>?_,λc=>?_⟩
   case tst=>
    refine Zf.cast (ZE<|VA (KG rfl)<|YH<|Qp rfl) ?_;rw[gl,R];exact decide_eq_decide.mpr W9
   .have D:=XH c;obtain⟨⟨e,d,b⟩,o,l⟩:=I.go D;refine VJ 3 rfl ?_;walk_at"d";refine Q9 (Yx (V7 (Qs (Qp rfl)<|Qs (Qp rfl)<|Qs (Qp rfl) Q2)<|R_nlevel.mk h I.nd e d b o l D) λr X=>?_);obtain⟨O,B,N,rfl⟩:=X;walk_at"d";have J:=I.step h D N;have W:=(J.nd.ok Z).len;have L:0<B.length:=B7.mpr N.ne;rw[Xy]at W;have g:(QO B).length=B.length:=by simp[QO]
    have M:=I.len;refine Q9 (M1 rfl (Qp rfl) (by rw[Xi];lia) ?_);walk_at"d";refine Vt (r:=.ol (QO<|A++B)) (EvO.cast (GM (Qp rfl) (Z5 (ds:=[Zu O,.list<|QO B]) (Qp rfl) QG rfl)<|by lia)<|by rw[LY]) ?_;walk_at"d";refine⟨v.length-(A++B).length,by rw[Xy];lia,i++[(O,B)],A++B,O.t,O.b,zf<|.tuple [Zu O,.list<|QO B],rfl,J,?_⟩;rw[XB];rfl
   .have D:=WA c;have:=I.len;exact⟨i,_,u,by have:=I.on [] (.nil<|ZpY I.nd D);rwa [XN]at this,by lia,rfl⟩
section
variable (Q:Int)(gs:List Gs)
def tkL(a:List (Fr×Qk))(k:Nat):Int:=match a with
 |[]=>0
 |(f,T)::r=>if k∈T then QD gs k*(f.t:Int)*(Q/(f.b:Int)) else tkL r k
end
def Lev.dis{y:Yd}{A:Qk}{p q:Int}(h:Lev y gs A p q lv):∀l∈lv,∀k∈l.2,k∉A:=by
 induction h with
 |nil _=>exact λl a=>(nomatch a)
 |cons N r i=>
  intro l a k f;rcases Xe.mp a with rfl|a
  .exact N.dis k f
  .exact λz=>i l a k f (Jz _ z)
def Lev.fr{y:Yd}{A:Qk}{p q:Int}(h:Lev y gs A p q lv):∀l∈lv,FrB l.1/\l.1.t<=l.1.b/\NdS gs l.2:=by
 induction h with
 |nil _=>exact λl a=>(nomatch a)
 |cons N r f=>
  intro l a;rcases Xe.mp a with rfl|a
  .exact⟨N.fr,N.le,N.nd⟩
  .exact f l a
def shL(a:List (Fr×Qk))(k:Nat):PyData:=a.foldl (λd l=>if k∈l.2 then Zu l.1 else d) .none
def Zpu{a:List (Fr×Qk)}(h:∀l∈a,k∉l.2):∀d:PyData,a.foldl (λd l=>if k∈l.2 then Zu l.1 else d) d=d:=by
 induction a with
 |nil=>exact λd=>rfl
 |cons l r f=>
  intro d;rw[MI,Xc<|h l Xb];exact f (λx i=>h x<|Xg _ i) d
def Lev.share{y:Yd}{A:Qk}{p q:Int}(h:Lev y gs A p q b):∀(k:Nat),k<gs.length->k∉A->∀d:PyData,∃l∈b,k∈l.2/\b.foldl (λd l=>if k∈l.2 then Zu l.1 else d) d=Zu l.1/\tkL Q gs b k=QD gs k*(l.1.t:Int)*(Q/(l.1.b:Int)):=by
 induction h with
 |nil h=>exact λk i c=>Xr (h k i) c
 |@cons A p q f T b N r s=>
  intro k i c d;by_cases z:k∈T
  .refine⟨(f,T),Xb,z,?_,?_⟩
   .rw[MI,Xf z];exact Zpu (λl a m=>r.dis l a k m<|XO _ z) _
   .show(if k∈T then _ else _)=_
    rw[Xf z]
  .obtain⟨l,a,w,v,u⟩:=s k i (λm=>(XA.mp m).elim c z) d;refine⟨l,Xg _ a,w,?_,?_⟩
   .rw[MI,Xc z];exact v
   .show(if k∈T then _ else _)=_
    rw[Xc z];exact u
def ZtU{a:List (Fr×Qk)}(f:i<a.length)(k:Nat):shL (a.take<|i+1) k=if k∈a[i].2 then Zu a[i].1 else shL (a.take i) k:=by
 unfold shL;rw[Y9,XI f,HW];rfl
def II{Q t b W x:Int}(f:0<b)(a:b∣Q)(i:0<Q)(h:t*W<=b*x):W*t*(Q/b)<=Q*x:=by
 obtain⟨e,rfl⟩:=a;rw[Int.mul_ediv_cancel_left _<|by lia];have r:0<=e:=by
  refine Int.le_of_lt (Int.pos_of_mul_pos_right ?_ f);exact i
 have m:t*W*e<=b*x*e:=XV h r;have q:W*t*e=t*W*e:=by rw[XD W]
 have p:b*e*x=b*x*e:=by rw[Xu,XD e,<- Xu]
 rw[q,p];exact m
def Zsx(S:Qm)(w:Qn)(c d:Int)(n:Nat):Qx (QV S λk=>w k*c*d) n=Qx (QV S w) n*c*d:=by
 induction n with
 |zero=>simp[Qx]
 |succ n a=>
  simp only[Qx];rw[a,JW,JW];congr 1;unfold QV;split
  .rfl
  .simp
def Lev.within{y:Yd}(h:Sml y gs)(Y:0<Q){A:Qk}{p q:Int}(Z:Lev y gs A p q c):(∀l∈c,(l.1.b:Int)∣Q)->∀S:Nat->Bool,Qx (QV (λk=>S k && !Q7 A k)<|tkL Q gs c) gs.length<=Q*(Zg y gs (λk=>Q7 A k||S k)-Zg y gs (Q7 A)):=by
 induction Z with
 |@nil A p q d=>
  intro _ S;have u:Qx (QV (λk=>S k && !Q7 A k)<|tkL Q gs []) gs.length=0:=by
   rw[Zk (g:=λ_=>0) λk _=>by unfold QV tkL;split<;>rfl];exact VS _
  have t:Zg y gs (λk=>Q7 A k||S k)=Zg y gs (Q7 A):=h.giv.ext _ _ λk X=>by
   have:Q7 A k=true:=XJ (d k X);rw[this];rfl
  rw[u,t];simp
 |@cons A p q f T c N r P=>
  intro w S;have R:=P (λl W=>w l<|Xg _ W) S;have z:=N.fr.ok.1;have o:Q7 (A++T)=λk=>Q7 A k||Q7 T k:=funext λk=>Sj A T k;simp only[o]at R;have a:∀k,Q7 T k=true->Q7 A k=false:=λk e=>Xo (N.dis k<|XH e);have C:=N.up (λk=>S k&&Q7 T k) (λk _ e=>a k (ML.mp e).2);have x:=II (Q:=Q) (b:=(f.b:Int)) (by lia) (w (f,T) Xb) Y C;have v:=h.giv.sub (λk=>Q7 A k||S k) (λk=>Q7 A k||Q7 T k);have n:Zg y gs (λk=>(Q7 A k||S k)||(Q7 A k||Q7 T k))=Zg y gs (λk=>(Q7 A k||Q7 T k)||S k):=h.giv.ext _ _ λk _=>by cases Q7 A k<;>cases Q7 T k<;>cases S k<;>rfl
  have j:Zg y gs (λk=>(Q7 A k||S k)&&(Q7 A k||Q7 T k))=Zg y gs (λk=>Q7 A k||(S k&&Q7 T k)):=h.giv.ext _ _ λk _=>by cases Q7 A k<;>cases Q7 T k<;>cases S k<;>rfl
  rw[n,j]at v;have u:Qx (QV (λk=>S k && !Q7 A k)<|tkL Q gs ((f,T)::c)) gs.length=wS gs.length (QD gs) (λk=>S k&&Q7 T k)*(f.t:Int)*(Q/(f.b:Int))+Qx (QV (λk=>S k && !(Q7 A k||Q7 T k))<|tkL Q gs c) gs.length:=by
   unfold wS;rw[<- Zsx,<- WO];refine Zk λk _=>?_;unfold QV;dsimp only;have D:tkL Q gs ((f,T)::c) k=if k∈T then QD gs k*(f.t:Int)*(Q/(f.b:Int)) else tkL Q gs c k:=rfl;rw[D];by_cases s:k∈T
   .have m:Q7 T k=true:=XJ s;have O:=a k m;rcases Pb (S k) with i|i<;>simp[s,m,O,i]
   .have m:Q7 T k=false:=Xo s;rcases Pb (S k) with i|i<;>rcases Pb (Q7 A k) with B|B<;>simp[s,m,i,B]
  rw[u];have K:Q*(Zg y gs (λk=>(Q7 A k||Q7 T k)||S k)+Zg y gs (λk=>Q7 A k||(S k&&Q7 T k)))<=Q*(Zg y gs (λk=>Q7 A k||S k)+Zg y gs (λk=>Q7 A k||Q7 T k)):=XQ v (by lia);simp only[WX,UE]at *;lia
def YG(a:List (Fr×Qk)):Qk:=a.flatMap (·.2)
def Lev.ahead{y:Yd}{A:Qk}{p q:Int}(i:Lev y gs A p q b):NdS gs A->NdS gs (A++YG b):=by
 induction i with
 |nil _=>intro a;simpa [YG] using a
 |@cons A p q f T b N r h=>
  intro a;have:=h (a.app N.nd N.dis);have e:YG ((f,T)::b)=T++YG b:=HX;rw[e,<- JT];exact this
def NdS.left{a:Qk}(h:NdS gs (a++b)):NdS gs a:=⟨λk f=>h.mem k<|Jz _ f,(G4.mp h.nd).1⟩
def ZoU{y:Yd}(h:Lev y gs [] 0 1 lv)(i:Nat):NdS gs (YG<|lv.take i):=by
 have a:=h.ahead ⟨(by rintro k ⟨⟩),G2⟩;rw[BB]at a;have e:YG lv=YG (lv.take i)++YG (lv.drop i):=by
  unfold YG;rw[<- Gz,List.take_append_drop]
 rw[e]at a;exact a.left
def phL(Q:Int)(a:List (Fr×Qk))(k:Nat):Int:=match a with
 |[]=>0
 |(f,T)::r=>if k∈T then (f.t:Int)*(Q/(f.b:Int)) else phL Q r k
theorem Pn(Q:Int)(gs:List Gs):∀(a:List (Fr×Qk)) (k:Nat),tkL Q gs a k=QD gs k*phL Q a k
 |[],k=>by simp[tkL,phL]
 |(f,T)::r,k=>by
  unfold tkL phL;split
  .rw[Xu]
  .exact Pn Q gs r k
def frL(a:List (Fr×Qk))(k:Nat):Fr:=match a with
 |[]=>⟨0,1⟩
 |(f,T)::r=>if k∈T then f else frL r k
def Lev.fr_at{y:Yd}{A:Qk}{p q:Int}(h:Lev y gs A p q b):∀(k:Nat),k<gs.length->k∉A->∃l∈b,k∈l.2/\frL b k=l.1/\phL Q b k=(l.1.t:Int)*(Q/(l.1.b:Int)):=by
 induction h with
 |nil h=>exact λk a c=>Xr (h k a) c
 |@cons A p q f T b N r i=>
  intro k a c;unfold frL phL;by_cases z:k∈T
  .exact⟨(f,T),Xb,z,by rw[Xf z],by rw[Xf z]⟩
  .obtain⟨l,m,v,u,s⟩:=i k a (λw=>(XA.mp w).elim c z);exact⟨l,Xg _ m,v,by rw[Xc z];exact u,by rw[Xc z];exact s⟩
def Lev.alike_self{y:Yd}{A:Qk}{p q:Int}(v:Lev y gs A p q b):∀l∈b,∀m∈b,∀k,k∈l.2->k∈m.2->l.1=m.1:=by
 induction v with
 |nil _=>exact λl i=>(nomatch i)
 |@cons A p q f T b N r u=>
  intro l i m a k s h;rcases Xe.mp i with rfl|i
  .rcases Xe.mp a with rfl|a
   .rfl
   .exact Xr (XO _ s) (r.dis m a k h)
  .rcases Xe.mp a with rfl|a
   .exact Xr (XO _ h) (r.dis l i k s)
   .exact u l i m a k s h
def Lev.sh_fr{y:Yd}(h:Lev y gs [] 0 1 lv)(m:k<gs.length):shL lv k=Zu (frL lv k):=by
 obtain⟨l,s,r,q,_⟩:=h.share (Q:=1) k m (by rintro⟨⟩) .none;obtain⟨p,i,f,a,_⟩:=h.fr_at (Q:=1) k m (by rintro⟨⟩);rw[show shL lv k=Zu l.1 from q,a];have:=h.alike_self l s p i k r f;rw[this]
def Lev.bears{y:Yd}(h:Sml y gs)(i:0<Q)(m:Lev y gs [] 0 1 lv)(f:∀l∈lv,(l.1.b:Int)∣Q)(S:Qm):Qx (QV S λk=>QD gs k*phL Q lv k) gs.length<=Q*Zg y gs S:=by
 have a:=m.within h i f S;have r:Qx (QV (λk=>S k && !Q7 [] k)<|tkL Q gs lv) gs.length=Qx (QV S λk=>QD gs k*phL Q lv k) gs.length:=by
  refine Zk λk s=>?_
  have:Q7 [] k=false:=rfl;simp only[QV,this,Bool.not_false,Bool.and_true];rw[Pn]
 have q:Zg y gs (λk=>Q7 [] k||S k)=Zg y gs S:=h.giv.ext _ _ λk _=>rfl;have p:Zg y gs (Q7 [])=0:=h.giv.g0 _ λk _=>rfl;rw[r,q,p,Int.sub_zero]at a;exact a
def ZsF{y:Yd}(a:Lev y gs [] 0 1 lv)(f:gs.length<=8)(i:Nat):(YG<|lv.take i).length<=8:=((ZoU a i).ok f).len
def Fu{a:List (Fr×Qk)}(f:i<a.length):(YG<|a.take<|i+1).length=(YG<|a.take i).length+a[i].2.length:=by
 unfold YG;rw[Y9,XI f,Gz,Xy];simp
inductive R_fshares:List OT->(OT->Prop)->Prop
 |mk {y:Yd}{gs:List Gs}(h:Sml y gs):R_fshares [.fz<|QL y,.fz<|.list<|gs.map QB] (λr=>∃lv,Lev y gs [] 0 1 lv/\r=.ol ((List.range gs.length).map λk=>Zu<|frL lv k))
def MA:Qo ZaP Zaa (Q5 Hw):=by walk_at"p"
def ZpF(T:Bl mg)(ta:Df K mg "fair_shares" Hw Zaa)(l:Qv P w K mg base "fair_levels" Zaa 9 (Z6 K R_levels)):Qv P w K mg base "fair_shares" Zaa 10 (Z6 K R_fshares):=by
 refine ta.evD MA (λf J Φ h H H2 I A outer s Y=>?_);cases h with
 |@mk y C h=>
  refine⟨_,(Qz (QM 2 MA.nd ZuI)
 (Qz (ZV zN rfl (ZN<|Q3 l Y<|av 0<|av 1 Qq) (VM (n:=2) rfl (Zt (QK 3 MA.nd)<|Zt (QK 4 MA.nd) VU))<|Q0<|ZV zN rfl (ZN<|pv 4) (QK 5 MA.nd)<|Q0<|Lb (WE Y) (pv 2) (pv 5) (pv 3) rfl)
 (Q0<|QH<|ZD (NX:=ZaP) (sc:=Q5 Hw) (N:=["number","shares"]) (f:=[none,some 2]) rfl (by decide +kernel) rfl rfl (V1 rfl T.range<|Qu (QW ZU (by rfl) T.len ZT<|av 1 Qq) Qq) (λ_=>(QK 0 (show(["number","shares"]:Qh).Nodup by decide +kernel))) (λ_=>Zm) (λ_=>ZC) λ_=>(Nh (WE Y) (pv 1) (pv 0) λ_ _=>rfl)))),?_⟩
  show QC K _ [_,_,_,_,_,_] _
  walk_at"x";have G:=h.g8;have gl:(C.map QB).length=C.length:=by simp
  refine Q9 (Yx (Φ:=λr=>∃v,r=.own v (dkP [])) (EvX.d Ztb λv=>⟨v,rfl⟩) λr X=>?_);obtain⟨v,rfl⟩:=X;walk_at"d";refine Q9 (Ix (Ψ:=λds=>∃m,Lev y C [] 0 1 m/\ds=m.map BJ) (ZtM (V7 (Qs (Qp rfl)<|Qs (Qp rfl) Q2)<|R_levels.mk h) ?im) λds Z=>?_)
  case im=>
   rintro r ⟨m,O,_,rfl⟩;exact⟨_,rfl,m,O,rfl⟩
  obtain⟨m,O,rfl⟩:=Z;refine⟨λi u=>∃p a b c,(∀k:Nat,(Yn p<|.inl (k:Int)).getD .none=shL (m.take i) k)/\p.length<=(YG<|m.take i).length/\u=[zf<|QL y,zf<|.list<|C.map QB,zo v<|dkP p,a,b,c],⟨[],none,none,none,λk=>rfl,X3 _,rfl⟩,?stE,?finE⟩
  case stE=>
   rintro i d _ t ⟨p,a,b,c,q,B,rfl⟩;have R:i<m.length:=by
    have:=(Xh.mp t).1;simpa using this
   obtain rfl:d=BJ m[i]:=by simpa [R] using t.symm
   have E:=ZsF O G (i+1);rw[Fu R]at E;refine⟨_,YO (ds:=[Zu m[i].1,.list<|QO m[i].2]) (ZZ Zd<|ZZ Zd Wl) rfl,?_⟩;walk_at"d";refine JA (ds:=QO m[i].2) (λj u=>∃p c,(∀k:Nat,(Yn p<|.inl (k:Int)).getD .none=if k∈m[i].2.take j then Zu m[i].1 else shL (m.take i) k)/\p.length<=(YG<|m.take i).length+j/\u=[zf<|QL y,zf<|.list<|C.map QB,zo v<|dkP p,zf<|Zu m[i].1,zf<|.list<|QO m[i].2,c]) (Va<|Qp rfl) ⟨p,c,λk=>by simpa using q k,B,rfl⟩ ?st2 ?fin2
   case st2=>
    rintro j d _ D ⟨p,c,q,B,rfl⟩;have o:j<m[i].2.length:=by
     have:=(Xh.mp D).1;simpa [QO] using this
    obtain rfl:d=.int ((m[i].2[j]:Nat):Int):=by simpa [QO,o] using D.symm
    refine⟨_,Zd,?_⟩;walk_at"d";refine ZuS (k:=.inl ((m[i].2[j]:Nat):Int)) rfl (Qp rfl) (Qp rfl) (VR<|by lia) ?_;refine⟨_,_,λk=>?_,?_,rfl⟩
    .rw[Ztm];have g:k∈m[i].2.take (j+1)↔k∈m[i].2.take j\/k=m[i].2[j]:=by
      rw[Y9,XI o,XA];simp
     by_cases c:k=m[i].2[j]
     .rw[Xf<|by rw[c],Xf<|g.mpr<|.inr c];rfl
     .rw[Xc (λz=>c<|by injection z with z;lia),q k]
      by_cases W:k∈m[i].2.take j
      .rw[Xf W,Xf<|g.mpr<|.inl W]
      .rw[Xc W,Xc λz=>(g.mp z).elim W c]
    .have:=Zs3 p (.inl ((m[i].2[j]:Nat):Int)) (Zu m[i].1);lia
   case fin2=>
    rintro _ ⟨p,c,q,B,rfl⟩;have x:(QO m[i].2).length=m[i].2.length:=by simp[QO]
    rw[x]at q B;rw[XX]at q;refine⟨p,_,_,_,λk=>?_,?_,rfl⟩
    .rw[q k,ZtU R k]
    .rw[Fu R];exact B
  case finE=>
   rintro _ ⟨p,a,b,c,q,B,rfl⟩;rw[Xi,XX]at q;refine O9 2 rfl ?_;walk_at"d";refine Wm (ZI (xs:=List.range C.length) (enc:=λ(k:Nat)=>PyData.int (k:Int)) (h:=λk=>Zu<|frL m k) ?ei (by simp;lia) ?el) ⟨m,O,rfl⟩
   case ei=>
    refine EvI.cast (WN (Qs (YH<|Qp rfl) Q2) (by rw[z62,gl];lia)<|by rw[z62,gl];lia) ?_;rw[gl,XF];unfold ZW;refine X6 λi _=>?_;rw[X9]
   case el=>
    intro k F c;refine⟨_,Zd,?_⟩;walk_at"e";refine Ztv (k:=.inl (k:Int)) rfl (Qp rfl) ?_;have e:=q k;rw[O.sh_fr<|Xw.mp F]at e;cases z:Yn p (.inl (k:Int)) with
    |none=>rw[z]at e;cases e
    |some d=>rw[z]at e;rw[<- e];rfl
def ttF(gs:List Gs)(a:List (Fr×Qk))(i:Nat):Fr:=shF (QD gs i*((frL a i).t:Int)).toNat (frL a i).b
def awF(gs:List Gs)(a:List (Fr×Qk))(k:Int)(i:Nat):Int:=((ttF gs a i).t:Int)*k/((ttF gs a i).b:Int)
def KD{y:Yd}(s:Sml y gs)(a:i<gs.length):1<=QD gs i/\QD gs i<10^30:=by
 refine⟨s.giv.w1 i a,?_⟩;show(gs.getD i default).want<_
 rw[WM a];exact(s.w30 _<|XL a).1
def BL{y:Yd}(s:Sml y gs)(q:Lev y gs [] 0 1 lv)(p:i<gs.length):(0<(frL lv i).b/\(frL lv i).t<=(frL lv i).b)/\(0<(ttF gs lv i).b/\(ttF gs lv i).b<=2^103/\(ttF gs lv i).t<2^210)/\((ttF gs lv i).t:Int)*((frL lv i).b:Int)=((ttF gs lv i).b:Int)*(QD gs i*((frL lv i).t:Int)):=by
 obtain⟨l,K,P,D,_⟩:=q.fr_at (Q:=1) i p (by rintro⟨⟩);obtain⟨f,C,_⟩:=q.fr l K;obtain⟨O,N⟩:=KD s p;unfold ttF;rw[D];have u:=f.ok.1;have h:0<=QD gs i*(l.1.t:Int):=WW (by lia) (by lia);obtain⟨a,b,c,d⟩:=Ga (n:=(QD gs i*(l.1.t:Int)).toNat) (m:=l.1.b) u;rw[XU h]at c;refine⟨⟨u,C⟩,⟨a.1,Xx d f.b,?_⟩,c⟩;have B:((shF (QD gs i*(l.1.t:Int)).toNat l.1.b).t:Int)<=QD gs i*(l.1.t:Int):=by
  generalize shF (QD gs i*(l.1.t:Int)).toNat l.1.b=g at c d;have r:(g.b:Int)*(QD gs i*(l.1.t:Int))<=(l.1.b:Int)*(QD gs i*(l.1.t:Int)):=XV (by lia) h;rw[<- c,XD]at r;exact Bv r (by lia)
 have A:QD gs i*(l.1.t:Int)<=10^30*((2^103:Nat):Int):=Int.mul_le_mul (by lia) (U9.mpr<|X4 f.t) (by lia) (by decide +kernel);have w:(10:Int)^30*((2^103:Nat):Int)<((2^210:Nat):Int):=by decide +kernel
 have v:=X8 (U8 B A) w;exact W9.mp v
def Ko{y:Yd}(s:Sml y gs)(h:Lev y gs [] 0 1 lv)(a:i<gs.length)(f:((ttF gs lv i).b:Int)∣k):awF gs lv k i*((frL lv i).b:Int)=k*(QD gs i*((frL lv i).t:Int)):=by
 obtain⟨_,⟨p,_,_⟩,c⟩:=BL s h a;obtain⟨e,rfl⟩:=f;unfold awF;generalize ((ttF gs lv i).t:Int)=t at c;have b0:((ttF gs lv i).b:Int)≠0:=by lia
 generalize ((ttF gs lv i).b:Int)=b at c b0;have m:t*(b*e)=t*e*b:=by rw[XD b,Xu]
 rw[m,Int.mul_ediv_cancel _ b0,Xu,XD e,<- Xu,c,Xu,XD<|QD gs i*_,<- Xu]
def Pr{y:Yd}(s:Sml y gs)(f:Lev y gs [] 0 1 lv)(k1:1<=k)(a:i<gs.length)(m:((ttF gs lv i).b:Int)∣k):0<=awF gs lv k i/\awF gs lv k i<=QD gs i*k:=by
 obtain⟨⟨r,q⟩,⟨u,_,_⟩,_⟩:=BL s f a;have e:=Ko s f a m;obtain⟨p,_⟩:=KD s a;refine⟨JS (WW (by lia)<|by lia)<|by lia,?_⟩;have h:k*(QD gs i*((frL lv i).t:Int))<=k*(QD gs i*((frL lv i).b:Int)):=XQ (XQ (by lia)<|by lia) (by lia);rw[<- e,<- Xu,XD k]at h;exact Pd h (by lia)
def ZmV(S:Qm)(w:Qn)(c:Int)(n:Nat):Qx (QV S λi=>c*w i) n=c*Qx (QV S w) n:=by
 rw[<- Uy];refine Zk λi _=>?_;unfold QV;split
 .rfl
 .simp
def Zt6{y:Yd}(s:Sml y gs)(h:Lev y gs [] 0 1 lv)(k1:1<=k)(O:∀i,i<gs.length->((ttF gs lv i).b:Int)∣k)(S:Qm):Qx (QV S<|awF gs lv k) gs.length<=k*Zg y gs S:=by
 have p:∀f∈lv.map (·.1),0<f.b:=λf N=>by
  obtain⟨l,a,rfl⟩:=Xk.mp N;exact(h.fr l a).1.ok.1
 have q1:0<Vf 1 (lv.map (·.1)):=Mp (by decide) p;have q:∀l∈lv,l.1.b∣Vf 1 (lv.map (·.1)):=λl a=>Mq (List.mem_map_of_mem a);generalize Vf 1 (lv.map (·.1))=B at q1 q;have C:0<k*(B:Int):=Int.mul_pos (by lia) (by lia);have w:∀l∈lv,(l.1.b:Int)∣(B:Int):=λl a=>Int.ofNat_dvd.mpr (q l a);have v:=h.bears s C (λl a=>Int.dvd_trans (w l a) ⟨k,XD _ _⟩) S
 have X:Qx (QV S λi=>QD gs i*phL (k*(B:Int)) lv i) gs.length=(B:Int)*Qx (QV S<|awF gs lv k) gs.length:=by
  rw[<- ZmV];refine Zk λi m=>?_;unfold QV;split
  .obtain⟨l,r,Y,K,D⟩:=h.fr_at (Q:=k*(B:Int)) i m (by rintro⟨⟩);have A:=Ko s h m (O i m);rw[K]at A;have Z:=(h.fr l r).1.ok.1;obtain⟨c,P⟩:=w l r;show QD gs i*phL (k*(B:Int)) lv i=(B:Int)*awF gs lv k i;rw[D,P];have W:k*((l.1.b:Int)*c)=k*c*(l.1.b:Int):=by rw[XD (l.1.b:Int),Xu]
   rw[W,Int.mul_ediv_cancel _<|by lia];have R:(l.1.b:Int)*c*awF gs lv k i=c*(awF gs lv k i*(l.1.b:Int)):=by rw[XD (l.1.b:Int),Xu,XD (l.1.b:Int)]
   rw[R,A,XD k c];generalize QD gs i=u;generalize (l.1.t:Int)=t;rw[<- Xu,XD,Xu]
  .rfl
 rw[X,XD k,Xu]at v;exact Bv v (by lia)
def WP(gs:List Gs)(tf:Nat->Fr)(k:Int):(Zy gs tf k).length=gs.length:=by simp[Zy]
def D8(a:i<gs.length):(Zy gs tf k).getD i default=⟨(gs.getD i default).line,(gs.getD i default).first,(gs.getD i default).last,((tf i).t:Int)*k/((tf i).b:Int),(gs.getD i default).most*k⟩:=by
 unfold Zy;simp[List.getD,a]
theorem Ck(gs:List Gs)(tf:Nat->Fr)(k:Int)(t:Int)(l:Nat):∀i:Qk,Z0 (Zy gs tf k) t l i=Z0 gs t l i*k
 |[]=>by simp[Z0]
 |j::r=>by
  simp only[Z0];rw[Ck gs tf k t l r,JW];congr 1
  by_cases a:j<gs.length
  .have h:(Zy gs tf k)[j]?=some ((Zy gs tf k).getD j default):=by simp[List.getD,WP,a]
   have f:gs[j]?=some (gs.getD j default):=by simp[List.getD,a]
   rw[h,f,D8 a];generalize gs.getD j default=g;show(if g.line=l/\Yg g t=true then g.most*k else 0)=(if g.line=l/\Yg g t=true then g.most else 0)*k
   split
   .rfl
   .simp
  .have h:(Zy gs tf k)[j]?=none:=Kg.mpr (by rw[WP];lia);have f:gs[j]?=none:=Kg.mpr (by lia);rw[h,f];simp
def LM(y:Yd)(q:Int)(j:Nat):QU (Zi y q) j=QU y j:=by
 simp only[QU,Zi,Xp];cases y.ls[j]?<;>rfl
def NO(y:Yd)(q:Int)(j t:Nat):Zl (Zi y q) j t=Zl y j t*q:=by
 simp only[Zl,Zi,Xp];cases y.ls[j]? with
 |none=>simp
 |some a=>
  simp only[XZ,UC,Jr,List.getD,Xp];cases a.bs[t]?<;>simp
def Zjt{y:Yd}(gs:List Gs)(tf:Nat->Fr)(a:Qk)(h:0<=k):ZO (Zi y k) (Zy gs tf k) a=k*ZO y gs a:=by
 rw[ZO,ZO,Vk,Vk,<- Uy];refine Zk λt _=>?_;unfold ZA W2;have i:(λj=>Zl (Zi y k) j t)=λj=>Zl y j t*k:=funext λj=>NO y k j t;have f:(λl=>Z0 (Zy gs tf k) (t:Int) l a)=λl=>Z0 gs (t:Int) l a*k:=funext λl=>Ck gs tf k t l a;rw[i,f,Cy h (LM y k)<|by simp[Zi],XD]
def Cf(y:Yd)(k:Int):∀j,upL (Zi y k) j=upL y j:=by
 intro j;induction j using Nat.strongRecOn with
 |ind j f=>
  rw[upD9,upD9,LM];cases e:QU y j with
  |none=>rfl
  |some a=>
   dsimp only;split
   .rename_i c;rw[f a c]
   .rfl
def Zpi{f:Qn}(n:Nat):(∀i,i<n->0<=f i)->Qx f n<=0->∀i,i<n->f i=0:=by
 induction n with
 |zero=>exact λ_ _ i h=>Xr h (by lia)
 |succ n p=>
  intro a m i h;have s0:0<=Qx f n:=GU λj q=>a j (by lia);have r:=a n (by lia);have m:Qx f n+f n<=0:=m
  by_cases c:i=n
  .subst c;lia
  .exact p (λj q=>a j<|by lia) (by lia) i (by lia)
def Zrq{y:Yd}(s:Sml y gs)(D:Lev y gs [] 0 1 lv)(k1:1<=k)(C:∀i,i<gs.length->((ttF gs lv i).b:Int)∣k)
(r:(Zi y k).Ok)(u:∀g∈Zy gs (ttF gs lv) k,GOk (Zi y k) g)(h:Yl (Zi y k) (Q4<|Zy gs (ttF gs lv) k) φ):
 FillOk y gs k (λi t=>Zq (Q4<|Zy gs (ttF gs lv) k) φ t i)/\∀i,i<gs.length->Qx (λt=>Zq (Q4<|Zy gs (ttF gs lv) k) φ t i) y.T=awF gs lv k i:=by
 obtain⟨F,es,P,X,W⟩:=h;have A:=Rj r u F;have B:∀i,i<gs.length->(Q4<|Zy gs (ttF gs lv) k).wa i=awF gs lv k i:=λi f=>by
  show((Zy gs (ttF gs lv) k).getD i default).want=_
  rw[D8 f];rfl
 have O:Vx (Zi y k) (Q4<|Zy gs (ttF gs lv) k) φ=ZB (Zi y k) (Q4<|Zy gs (ttF gs lv) k) (QS es):=F.lack r (Y6 u) X P W;have K:ZB (Zi y k) (Q4<|Zy gs (ttF gs lv) k) (QS es)<=0:=by
  have d:ZB (Zi y k) (Q4<|Zy gs (ttF gs lv) k) (QS es)=Qx (QV (QS es) (Q4<|Zy gs (ttF gs lv) k).wa) gs.length-k*Zg y gs (QS es):=by
   have c:=Ju (Zi y k) (Zy gs (ttF gs lv) k) (QS es);have Z:Vg (Zy gs (ttF gs lv) k) (Zb (Zy gs (ttF gs lv) k)<|QS es)=Qx (QV (QS es) (Q4<|Zy gs (ttF gs lv) k).wa) gs.length:=by
    have:=Gq (λi=>((Zy gs (ttF gs lv) k).getD i default).want) (QS es) (Zy gs (ttF gs lv) k).length;rw[WP]at this;unfold Vg;rw[DY (gs:=gs)<|WP _ _ _];exact this
   rw[c,Z,Zjt gs _ _<|by lia,DY (gs:=gs)<|WP _ _ _];rfl
  rw[d];have Y:Qx (QV (QS es) (Q4<|Zy gs (ttF gs lv) k).wa) gs.length=Qx (QV (QS es)<|awF gs lv k) gs.length:=Zk λi f=>by
   unfold QV;rw[B i f]
  rw[Y];have:=Zt6 s D k1 C (QS es);lia
 have N:∀i,i<gs.length->0<=(Q4<|Zy gs (ttF gs lv) k).wa i-Qx (λt=>Zq (Q4<|Zy gs (ttF gs lv) k) φ t i) y.T:=λi f=>by
  have:=A.sum i (by rw[WP];exact f);rw[Ws]at this;have this:Qx (λt=>Zq (Q4<|Zy gs (ttF gs lv) k) φ t i) y.T<=(Q4<|Zy gs (ttF gs lv) k).wa i:=this;lia
 have z:Vx (Zi y k) (Q4<|Zy gs (ttF gs lv) k) φ=Qx (λi=>(Q4<|Zy gs (ttF gs lv) k).wa i-Qx (λt=>Zq (Q4<|Zy gs (ttF gs lv) k) φ t i) y.T) gs.length:=by
  unfold Vx;have:(Q4<|Zy gs (ttF gs lv) k).m=gs.length:=WP _ _ _;rw[this];rfl
 have v:=Zpi _ N (by rw[<- z,O];exact K);have m:∀i,i<gs.length->Qx (λt=>Zq (Q4<|Zy gs (ttF gs lv) k) φ t i) y.T=awF gs lv k i:=λi f=>by
  have:=v i f;rw[B i f]at this;lia
 refine⟨⟨λi f=>?_,λi t f w=>?_,λl t R w=>?_⟩,m⟩
 .rw[m i f];exact(Pr s D k1 f<|C i f).2
 .obtain⟨a,b⟩:=A.item i t (by rw[WP];exact f) w;refine⟨a,?_⟩;have e:gAt (Zy gs (ttF gs lv) k) i=_:=D8 f;rw[e,Ws]at b;exact b
 .have b:=A.load l t (by simpa [Zi] using R) w;rw[NO,Ws]at b;refine U8 (Int.le_of_eq ?_) b;unfold Vi;rw[WP];refine Zk λi f=>?_
  have e:(gAt (Zy gs (ttF gs lv) k) i).line=(gAt gs i).line:=by
   show((Zy gs (ttF gs lv) k).getD i default).line=_
   rw[D8 f];rfl
  dsimp only;rw[Ms (p:=l∈upL y (gAt gs i).line) (q:=l∈upL (Zi y k) (gAt (Zy gs (ttF gs lv) k) i).line)<|by rw[e,Cf]]
structure FairF(y:Yd)(gs:List Gs)(k:Int)(f:Nat->Qn)(lv:List (Fr×Qk)):Prop where
 k1:1<=k
 k2:k<10^260
 fill:FillOk y gs k f
 lev:Lev y gs [] 0 1 lv
 tot:∀i,i<gs.length->Qx (f i) y.T*((frL lv i).b:Int)=k*(QD gs i*((frL lv i).t:Int))
inductive R_fairest:List OT->(OT->Prop)->Prop
 |mk {y:Yd}{gs:List Gs}(h:Sml y gs):R_fairest [.fz<|QL y,.fz<|.list<|gs.map QB] (λr=>∃v k f lv,r=.own v (Uh (.int k)<|Vw gs.length y.T f)/\FairF y gs k f lv)
def Hh:Qo ["yard","guests","shares","totals","k"] Zaa (Q5 DU):=by walk_at"p"
def ZpO(T:Bl mg)(ta:Df K mg "fairest" DU Zaa)(U:Qv P w K mg base "fair_shares" Zaa 10 (Z6 K R_fshares))(Xby:Qv P w K mg base "want_of" Zay 1 (Qy (K:=K) R_want))(Xb3:Qv P w K mg base "fraction" Zbl 2 (Qy (K:=K) R_frac))(Xb2:Qv P w K mg base "common_bottom" ["parts"] 2 (Qy (K:=K) R_cbot))
(XbC:Qv P w K mg base "best_filling" Zaa 6 (Z6 K R_great))(Xb4:Qv P w K mg base "yard_times" Zbq 2 (Qy (K:=K) R_ydtimes))(Xb5:Qv P w K mg base "asking" ZaN 3 (Qy (K:=K) R_asking)):Qv P w K mg base "fairest" Zaa 11 (Z6 K R_fairest):=by
 refine ta.evD Hh (λf ts Φ h H H2 cdv A outer s D=>?_);cases h with
 |@mk y m h=>
  refine⟨_,(Qz (QM 2 Hh.nd<|Q3 U D<|av 0<|av 1 Qq)
 (Qz (JO (i:=3) Hh.nd rfl rfl (NX:=["yard","guests","shares","totals","k"]) (sc:=Q5 DU) (N:=Zbi) (f:=[none,none]) rfl (by decide +kernel) rfl rfl (KW rfl T.zip<|av 1<|av 2 Qq) (λ_=>(VM (n:=2) rfl (Zt (QK 0 (show(Zbi:Qh).Nodup by decide +kernel))<|Zt (QK 1 (show(Zbi:Qh).Nodup by decide +kernel)) VU))) (λ_=>(UZ (n:=2)<|Yw Zm<|Yw Zm Gh)) (λ_=>ZC) (λ_=>(Q3 Xb3 D<|Qu (QN Jp (Q3 Xby D<|av 0 Qq)<|Q8 QA (pv 1) Qw)<|Qu (Q8 QA (pv 1) Qw) Qq)) rfl)
 (Qz (QM 4 Hh.nd<|Q3 Xb2 D<|av 3 Qq)
 (Q0<|QH<|Z1<|av 4<|Qu (Q3 XbC D<|Qu (Q3 Xb4 D<|av 0<|av 4 Qq)<|Qu (Q3 Xb5 D<|av 1<|av 3<|av 4 Qq) Qq) Qq)))),?_⟩
  show QC K _ [_,_,_,_,_] _
  walk_at"x";have g8:=h.g8;have o:=h.ok;refine Q9 (Yx (V7 (Qs (Qp rfl)<|Qs (Qp rfl) Q2)<|R_fshares.mk h) λr C=>?_);obtain⟨p,B,rfl⟩:=C;walk_at"d";refine VJ 2 rfl ?_;walk_at"d";refine Q9 (Vt (ZI (xs:=List.range m.length) (enc:=λi=>.tuple [QB<|m.getD i default,Zu<|frL p i]) (h:=λi=>Zu<|ttF m p i) ?ei (by simp;lia) ?el) ?_)
  case ei=>exact EvI.cast (BR<|Qs (Qp rfl)<|Qs (Qp rfl) Q2) (T9 m QB _)
  case el=>
   intro i q c;have q:=Xw.mp q;obtain⟨w1,w2⟩:=KD h q;obtain⟨l,l1,_,l3,_⟩:=B.fr_at (Q:=1) i q (by rintro⟨⟩);obtain⟨J,le,_⟩:=B.fr l l1;rw[<- l3]at J le;have b1:=J.ok.1;have ix:∀{Y:ZcP} {j:Nat} {n:Int} {d:PyData},Y[j]?=some (zf<|Zu<|frL p i)->atI [.int ((frL p i).t:Int),.int ((frL p i).b:Int)] n=some d->Qr K (tOp (rIx K) (QY j)<|tC<|.int n) Y d:=λe h=>Z5 (ds:=[.int ((frL p i).t:Int),.int ((frL p i).b:Int)]) (Qp e) QG h;refine⟨_,YO (ds:=[QB<|m.getD i default,Zu<|frL p i]) (ZZ Zd<|ZZ Zd Wl) rfl,?_⟩
   walk_at"e";have X:((frL p i).t:Int)<10^300:=by
    have:((frL p i).t:Int)<((2^103:Nat):Int):=W9.mpr J.t;exact Yh this (by decide +kernel)
   have W:QD m i<10^300:=Yh w2 (by decide +kernel);have b8:((frL p i).b:Int)<2^8000:=by
    have:((frL p i).b:Int)<=((2^103:Nat):Int):=U9.mpr J.b;exact X8 this (by decide +kernel)
   have n0:0<=QD m i*((frL p i).t:Int):=WW (by lia) (by lia);refine Qr.cast (QJ (Qs (V3 (x:=QD m i) (QJ (Qs (Qp rfl) Q2) R_want.mk) (ix rfl rfl)<|Wk (by lia) W (by lia) X)<|Qs (ix rfl rfl) Q2)<|R_frac.mk (t:=QD m i*((frL p i).t:Int)) (b:=(frL p i).b) b1 b8) ?eq
   case eq=>
    have e:=XU n0;unfold Zu ttF;rw[(Ga (n:=(QD m i*((frL p i).t:Int)).toNat) b1).2.1];show _=PyData.tuple [.int<|frT _ _,.int (frB _ _:Int)];rw[e]
  walk_at"d";refine VJ 3 rfl ?_;walk_at"d";have tb:∀f∈(List.range m.length).map (ttF m p),0<f.b/\f.b<=2^103:=λf u=>by
   obtain⟨i,q,rfl⟩:=Xk.mp u;obtain⟨_,⟨a,b,_⟩,_⟩:=BL h B (Xw.mp q);exact⟨a,b⟩
  refine Q9 (Z9 (QJ (Qs (Qr.cast (d':=.list (((List.range m.length).map (ttF m p)).map Zu)) (Qp rfl)<|by rw[Xm];rfl) Q2)<|R_cbot.mk (λf u=>⟨(tb f u).1,Xx (tb f u).2 (B9 (by decide)<|by decide)⟩)<|by simp;lia) ?_);walk_at"d";have kp:0<Vf 1 ((List.range m.length).map (ttF m p)):=Mp (by decide) λf u=>(tb f u).1;have kl:Vf 1 ((List.range m.length).map (ttF m p))<=2^824:=Xx (Ng (c:=0) (by decide) λf u=>(tb f u).2) (B9 (by decide)<|by simp;lia);have kd:∀i,i<m.length->(ttF m p i).b∣Vf 1 ((List.range m.length).map (ttF m p)):=λi q=>Mq (List.mem_map_of_mem<|Xw.mpr q);generalize Vf 1 ((List.range m.length).map (ttF m p))=k at kp kl kd;have k1:1<=(k:Int):=by lia
  have k2:(k:Int)<10^260:=by
   have:(k:Int)<=((2^824:Nat):Int):=U9.mpr kl;exact X8 this (by decide +kernel)
  have k3:(k:Int)<10^300:=Yh k2 (by decide +kernel);have S:∀i,i<m.length->((ttF m p i).b:Int)∣(k:Int):=λi q=>Int.ofNat_dvd.mpr (kd i q);have M:∀{a:Int},a<10^30->a<10^300:=λh=>Yh h (by decide +kernel)
  have bm:∀l∈y.ls,∀b∈l.bs,b*(k:Int)<10^300:=λl O b I=>by
   have h1:=h.b30 l O b I;have h2:b*(k:Int)<=10^30*(k:Int):=XV (by lia) (by lia);have h3:(10:Int)^30*(k:Int)<=10^30*10^260:=XQ (by lia) (by decide +kernel);exact X8 (U8 h2 h3) (by decide +kernel)
  have Z:(Zi y (k:Int)).Ok:=RO o (by lia) bm;have E:∀g∈Zy m (ttF m p) (k:Int),GOk (Zi y (k:Int)) g:=λg R=>by
   obtain⟨i,q,rfl⟩:=Xk.mp R;have q:=Xw.mp q;have gm:m.getD i default∈m:=by rw[WM q];exact XL q
   have go:=h.hg _ gm;exact⟨by have:=go.ln;simpa [Zi] using this,(Pr h B k1 q<|S i q).1,WW (by have:=go.m1;lia)<|by lia⟩
  refine Mt (ZuB (Ψ:=λG=>∃f p,G=Vw m.length y.T f/\FairF y m (k:Int) f p) (Qp rfl) (V7 (Qs (QJ (Qs (Qp rfl)<|Qs (Qp rfl) Q2)<|R_ydtimes.mk (λl O b I=>Wk (o.bb l O b I).1 (M<|h.b30 l O b I) (by lia) k3) (λl O=>by rw[o.bl l O];exact o.t8) o.l5)<|Qs (JI (Qs (Qp rfl)<|Qs (Qp rfl)<|Qs (Qp rfl) Q2)<|R_asking.mkF (tf:=ttF m p) k1 k2 (λi q=>(BL h B q).2.1) (λg R=>⟨⟨by have:=(h.hg g R).w1;lia,(h.w30 g R).1⟩,by have:=(h.hg g R).m1;lia,(h.w30 g R).2⟩) g8) Q2)<|R_great.mk Z E<|by rw[WP];exact g8) ?im) (λr C=>?_)
  case im=>
   rintro r ⟨φ,F,rfl⟩;obtain⟨fo,L⟩:=Zrq h B k1 S Z E F;refine⟨_,rfl,_,p,?_,k1,k2,fo,B,λi q=>?_⟩
   .rw[N8];show Vw (Zy m (ttF m p) (k:Int)).length y.T _=_;rw[WP]
   .rw[L i q];exact Ko h B q (S i q)
  obtain⟨v,G,rfl,f,p,rfl,ff⟩:=C;exact⟨v,_,f,p,rfl,ff⟩
def ZJ(sep a:Str)(xs:Qh):Str:=xs.foldl (λt x=>t++sep++x) a
def Bj(sep a x:Str)(xs:Qh):ZJ sep a (x::xs)=ZJ sep (a++sep++x) xs:=rfl
def DV(sep a x:Str)(xs:Qh):ZJ sep a (xs++[x])=ZJ sep a xs++sep++x:=by
 unfold ZJ;rw[HW];rfl
theorem Hf(sep p:Str):∀(xs:Qh) (a:Str),ZJ sep (p++a) xs=p++ZJ sep a xs
 |[],_=>rfl
 |x::xs,a=>by
  rw[Bj,Bj,<- Hf sep p xs];simp only[Str.append_assoc]
theorem NT(sep:Str):∀(xs:Qh) (a:Str),Str.join sep (a::xs)=ZJ sep a xs
 |[],_=>rfl
 |x::xs,a=>by
  show a++sep++Str.join sep (x::xs)=_;rw[Bj,NT sep xs,Hf]
theorem Mz{sep:Str}{B:Nat}:∀(xs:Qh) (a:Str),(∀x∈xs,x.length<=B)->(ZJ sep a xs).length<=a.length+xs.length*(sep.length+B)
 |[],a,_=>by simp[ZJ]
 |x::xs,a,h=>by
  have i:=Mz (sep:=sep) xs (a++sep++x) λz f=>h z (Xg _ f);have m:=h x Xb;rw[Bj];rw[Str.length_append,Str.length_append]at i;rw[Wt,Nat.succ_mul];lia
def nS(i:Int):Str:=Str.ofString (toString i)
def sD:PyData->Str
 |.int i=>nS i
 |.str x=>x
 |_=>Str.empty
inductive SOk:PyData->Prop
 |int {i:Int}(h0:0<=i)(h1:i<10^300):SOk (.int i)
 |str {x:Str}(h:x.length<=10):SOk (.str x)
def Dq{i:Int}(h0:0<=i)(f:i<10^300):i.natAbs.log2<1920:=by
 by_cases e:i.natAbs=0
 .rw[e];decide
 .rw[Nat.log2_lt e];have a:(i.natAbs:Int)<((2^1920:Nat):Int):=by
   have:(i.natAbs:Int)=i:=Int.natAbs_of_nonneg h0;rw[this];exact Yh f (by decide +kernel)
  exact W9.mp a
def Me{i:Int}(h0:0<=i)(a:i<10^300):(nS i).length<=300:=PyProof.Rows.toString_length_le h0 (by decide) a
def Di(h:SOk d):(sD d).length<=300:=by
 cases h with
 |int f a=>exact Me f a
 |str h=>exact Xx h (by decide)
def J3(w:Str)(ds:Qd):Str:=ZJ " " w (ds.map sD)
def NR{w:Str}(hw:w.length<=10)(hn:ds.length<=10)(h:∀d∈ds,SOk d):(J3 w ds).length<=3100:=by
 have m:=Mz (sep := " ") (B:=300) (ds.map sD) w λx a=>by
  obtain⟨d,f,rfl⟩:=Xk.mp a;exact Di (h d f)
 have i:(ds.map sD).length*(Str.length " " + 300)<=10*301:=by
  rw[Xi];exact MG hn (by decide)
 unfold J3;lia
def upT:Option Nat->PyData
 |none=>.str "-"
 |some a=>.int (a:Int)
def lnD(l:Ln):Qd:=upT l.up::l.bs.map PyData.int
def VX(l:Ln):Str:=J3 "line" (lnD l)
def gsD(g:Gs):Qd:=[.int (g.line:Int),.int (g.first:Int),.int (g.last:Int),.int g.want,.int g.most]
def YW(g:Gs):Str:=J3 "guest" (gsD g)
structure LnT(l:Ln):Prop where
 up:∀a,l.up=some a->a<=8
 ln:l.bs.length<=8
 bs:∀b∈l.bs,0<=b/\b<10^300
structure GsT(g:Gs):Prop where
 line:g.line<=8
 first:g.first<=8
 last:g.last<=8
 w0:0<=g.want
 w:g.want<10^300
 m0:0<=g.most
 m:g.most<10^300
def U3{a:Nat}(h:a<=8):(a:Int)<10^300:=X8 (show(a:Int)<=8 by lia) (by decide +kernel)
def LnT.ok(h:LnT l):∀d∈lnD l,SOk d:=λd f=>by
 rcases Xe.mp f with rfl|f
 .cases e:l.up with
  |none=>exact .str (by decide)
  |some a=>exact .int (by lia) (U3<|h.up a e)
 .obtain⟨b,i,rfl⟩:=Xk.mp f;exact .int (h.bs b i).1 (h.bs b i).2
def GsT.ok(h:GsT g):∀d∈gsD g,SOk d:=λd a=>by
 simp only[gsD,Xe,XT,or_false]at a;rcases a with rfl|rfl|rfl|rfl|rfl
 .exact .int (by lia) (U3 h.line)
 .exact .int (by lia) (U3 h.first)
 .exact .int (by lia) (U3 h.last)
 .exact .int h.w0 h.w
 .exact .int h.m0 h.m
def EZ(h:LnT l):(lnD l).length<=9:=by
 have:=h.ln;simp[lnD];lia
def Hb(h:LnT l):(VX l).length<=3100:=NR (by decide) (Xx (EZ h)<|by decide) h.ok
def R5(h:GsT g):(YW g).length<=3100:=NR (by decide) (by simp[gsD]) h.ok
structure YdT(y:Yd):Prop where
 t:y.T<=8
 n:y.ls.length<=5
 ls:∀l∈y.ls,LnT l
def Yp(y:Yd):Str:=J3 "yard" [.int (y.T:Int)]
def Ro{y:Yd}(h:YdT y):(Yp y).length<=3100:=NR (by decide) (by simp) λd a=>by
 rcases Xe.mp a with rfl|a
 .exact .int (by lia) (U3 h.t)
 .cases a
def U0(y:Yd)(gs:List Gs):Str:=ZJ "\n" (Yp y) (y.ls.map VX++gs.map YW)
def LJ{y:Str}:decide (V.str x=V.str y)=decide (x=y):=by
 by_cases h:x=y
 .simp[h]
 .simp[h]
def Jk{y:Str}(f:Qr K D Y (.str x))(a:Qr K tb Y (.str y)):Qr K (tOp rEq D tb) Y (.bool<|decide (x=y)):=by
 rw[<- LJ];exact PP f a rfl rfl λH Q q=>⟨rfl,q⟩
def Dt{y:Str}(f:Qr K D Y (.str x))(a:Qr K tb Y (.str y)):Qr K (tOp rNe D tb) Y (.bool<|!decide (x=y)):=by
 rw[<- LJ];exact PU f a rfl rfl λH Q q=>⟨rfl,q⟩
def Oz:∀d:Nat,d<10->0<d->Nat.digitChar d≠'0':=by decide
def L0(m:Nat):0<m->∃c r,Nat.toDigits 10 m=c::r/\c≠'0':=by
 induction m using Nat.strongRecOn with
 |_ m a=>
  intro p;by_cases h:m<10
  .rw[Nat.toDigits_of_lt_base h];exact⟨_,_,rfl,Oz m h p⟩
  .have f:m%10<10:=Nat.mod_lt m (by decide);have t:Nat.toDigits 10 (m/10)++Nat.toDigits 10 (m%10)=Nat.toDigits 10 (10*(m/10)+m%10):=Nat.toDigits_append_toDigits (by decide) (by lia) f;rw[Nat.div_add_mod]at t;obtain⟨c,r,e,i⟩:=a (m/10) (by lia) (by lia);rw[<- t,e];exact⟨c,_,rfl,i⟩
def Dl(m:Nat):(nS ((m:Nat):Int)).cps.toList=(Nat.toDigits 10 m).map Char.toNat:=W.KIN.signs_num m
def Dh{i:Int}(h0:0<=i):∀c∈(nS i).cps.toList,48<=c/\c<=57:=by
 obtain⟨m,rfl⟩:=Kf h0;intro c f;rw[Dl]at f;obtain⟨h,a,e⟩:=Xk.mp f;rw[<- e];exact PyProof.Rows.digit_range (Nat.isDigit_of_mem_toDigits (by decide) (by decide) a)
def Pz{i:Int}(h0:0<=i):(nS i).cps.toList≠[]:=by
 obtain⟨m,rfl⟩:=Kf h0;rw[Dl];intro e;by_cases h:m=0
 .subst h;rw[Nat.toDigits_of_lt_base<|by decide]at e;cases e
 .obtain⟨c,r,a,_⟩:=L0 m (by lia);rw[a]at e;cases e
def Ztc{i:Int}(h0:0<i):∃c r,(nS i).cps.toList=c::r/\c≠48:=by
 obtain⟨m,rfl⟩:=Kf (Int.le_of_lt h0);obtain⟨c,r,e,a⟩:=L0 m (by lia);rw[Dl,e];refine⟨c.toNat,r.map Char.toNat,rfl,λz=>a ?_⟩;exact Char.toNat_inj.mp z
def KN{i:Int}(h0:0<=i)(h:i<10^300):PySem.intText? (nS i)=some i:=by
 have a:=Me h0 h;have f:PySem.NumText.AllDigits (nS i).cps.toList:=Dh h0;have e:=PySem.intText_digits f (Pz h0) (Xx a<|by decide);obtain⟨m,rfl⟩:=Kf h0;rw[Dl,W.KIN.val_back]at e;exact e
def D4{i:Int}(h0:0<=i)(a:c<48):c∉(nS i).cps.toList:=λh=>by
 have:=Dh h0 c h;lia
def Ob:∀c:Nat,c<58->48<=c->(Builtin.Str.occurrences "0123456789" ⟨#[c]⟩ 0 (Str.length "0123456789") 1).isEmpty=false:=by decide +kernel
structure N30(i:Int):Prop where
 lo:0<=i
 hi:i<10^30
def N30.b{i:Int}(h:N30 i):i<10^300:=Yh h.hi (by decide +kernel)
def Gp{a:Nat}(h:a<=8):N30 (a:Int):=⟨by lia,X8 (show(a:Int)<=8 by lia)<|by decide +kernel⟩
def DK{i:Int}(h:N30 i):(nS i).length<=30:=PyProof.Rows.toString_length_le h.lo (by decide) h.hi
def Eh{i:Int}(h:N30 i):1<=(nS i).length:=by
 have:=Pz h.lo;show 1<=(nS i).cps.size;rw[<- Array.length_toList];exact B7.mpr this
inductive R_isnum:List OT->OT->Prop
 |mk {i:Int}(h:N30 i):R_isnum [.fz<|.str<|nS i] (.fz<|.bool true)
def Zmx:Qo Zbt Zbt (Q5 Hq):=by walk_at"p"
def Zt5(T:Bl mg)(ta:Df K mg "is_number" Hq Zbt):Qv P w K mg base "is_number" Zbt 1 (Qy (K:=K) R_isnum):=by
 refine ta.ev Zmx (λf D r h H H2 C A outer s R=>?_);cases h with
 |@mk i h=>
  refine⟨_,(Qz (Zv (PW.pt<|WB (Yu<|NB J7 J7 Qw (QW Oa (by rfl) T.len ZT<|av 0 Qq) Qw)<|Jo<|Yu<|V4<|QW BY (by rfl) T.all Mh<|Qu (ZD (NX:=Zbt) (sc:=Q5 Hq) (N:=["sign"]) (f:=[none]) rfl (by decide +kernel) rfl rfl (Ek<|pv 0) (λ_=>(QK 0 (show(["sign"]:Qh).Nodup by decide +kernel))) (λ_=>Zm) (λ_=>ZC) λ_=>(Y7 EI (pv 0) Vu rfl)) Qq) (Q0<|QH Y2) Zx)
 (Q0<|QH<|Kn (Y7 Y3 (pv 0) Vu<|Zp _)<|Y4<|Y7 Jb (Q8 Tu (pv 0) Qw) Vu<|Zp _)),?_⟩
  show QC K _ [_] _
  walk_at"x";have O:=Eh h;have p:=DK h;have u:(nS i).length<=sizeLine:=by rw[sizeLine_eq];lia
  have v:=Dh h.lo;have q:(nS i).cps.all (· < 128)=true:=by
   rw[<- Array.all_toList,B3];intro c a;have:=v c a;exact XJ (by lia)
  refine Q9 (Zz (b:=false) (YS (b:=false) (c:=false) (Yb (b:=true)<|Zf.cast (ZE<|DB QG (OF (Qp rfl) u) QG) ?c1) λ_=>Yb (b:=true)<|Zf.cast (ZL<|Mc (bs:=(nS i).cps.toList.map λ_=>true) (Qr.cast (EvO.fz<|ZI (xs:=(nS i).cps.toList) (enc:=λc=>PyData.str ⟨#[c]⟩) (h:=λ_=>.bool true) ?ei ?ln ?el)<|by rw[Xm];rfl) rfl) ?c2) (by rintro⟨⟩) λ_=>Z3 ?_)
  case c1=>
   rw[XJ (show(1:Int)<=((nS i).length:Int) by lia),XJ (show((nS i).length:Int)<=30 by lia)];rfl
  case c2=>simp
  case ei=>exact Ee (Qp rfl) q
  case ln=>
   rw[Array.length_toList];exact Xx p (by decide)
  case el=>
   intro c a W;refine⟨_,Zd,?_⟩;have:=v c a;exact Qr.cast (Ex (Qp rfl) Vh) (by rw[Ob c (by lia) this.1];rfl)
  by_cases z:i=0
  .subst z;refine Zh (Qr.cast (UO (b:=true) (Qr.cast (Jk (Qp rfl) Vh)<|by rw[XJ (show nS 0 = "0" by decide +kernel)]) (c:=true)<|by rintro⟨⟩) rfl) rfl
  .obtain⟨c,r,m,a⟩:=Ztc (i:=i) (by have:=h.lo;lia);have y:nS i ≠ "0" := λe=>by
    rw[e]at m;have:(Str.ofString "0").cps.toList=[48]:=by decide +kernel
    rw[this]at m;cases m;exact a rfl
   refine Zh (Qr.cast (UO (b:=false) (c:=true) (Qr.cast (Jk (Qp rfl) Vh)<|by rw[Xo y]) λ_=>Qr.cast (Dt (Zu7 (c:=c) (Qp rfl) QG u<|V5 (j:=0)<|by rw[m];rfl) Vh) ?e2) rfl) rfl;have:¬(⟨#[c]⟩:Str)=Str.ofString "0" := λe=>a (by
    have B:(Str.ofString "0")=⟨#[48]⟩:=by decide +kernel
    rw[B]at e;cases e;rfl)
   rw[Xo this];rfl
def YQ(a:Ql):Qd:=a.map λi=>.str (nS i)
inductive R_arenums:List OT->OT->Prop
 |mk {is:Ql}(h:∀i∈is,N30 i)(hl:is.length<=10):R_arenums [.fz<|.list<|YQ is] (.fz<|.bool true)
def Zjk:Qo Zap Zap (Q5 Hx):=by walk_at"p"
def ZpS(T:Bl mg)(ta:Df K mg "are_numbers" Hx Zap)(a:Qv P w K mg base "is_number" Zbt 1 (Qy (K:=K) R_isnum)):Qv P w K mg base "are_numbers" Zap 2 (Qy (K:=K) R_arenums):=by
 refine ta.ev Zjk (λf v r h H H2 u A outer s p=>?_);cases h with
 |@mk m h y=>
  refine⟨_,(Q0<|QH<|QW BY (by rfl) T.all Mh<|Qu (ZD (NX:=Zap) (sc:=Q5 Hx) (N:=Zbt) (f:=[none]) rfl (by decide +kernel) rfl rfl (ZN<|pv 0) (λ_=>(QK 0 (show(Zbt:Qh).Nodup by decide +kernel))) (λ_=>Zm) (λ_=>ZC) λ_=>(Q3 a p<|av 0 Qq)) Qq),?_⟩;show QC K _ [_] _
  walk_at"x";refine Zh (Qr.cast (Mc (bs:=m.map λ_=>true) (Qr.cast (EvO.fz<|ZI (xs:=m) (enc:=λi=>PyData.str<|nS i) (h:=λ_=>.bool true) ?ei (by lia) ?el)<|by rw[Xm];rfl) rfl)<|by simp) rfl
  case ei=>exact Va (Qp rfl)
  case el=>
   intro i q B;refine⟨_,Zd,?_⟩;exact QJ (Qs (Qp rfl) Q2) (R_isnum.mk<|h i q)
inductive R_numsof:List OT->OT->Prop
 |mk {is:Ql}(h:∀i∈is,N30 i)(hl:is.length<=10):R_numsof [.fz<|.list<|YQ is] (.fz<|.tuple<|is.map PyData.int)
def Zkw:Qo Zap Zap (Q5 HE):=by walk_at"p"
def Zsu(T:Bl mg)(ta:Df K mg "numbers_of" HE Zap):Qv P w K mg base "numbers_of" Zap 1 (Qy (K:=K) R_numsof):=by
 refine ta.ev Zkw (λf q r h H H2 p A outer s u=>?_);cases h with
 |@mk m h v=>
  refine⟨_,(Q0<|QH<|VB WS (by rfl) T.tuple Wn<|Qu (ZD (NX:=Zap) (sc:=Q5 HE) (N:=Zbt) (f:=[none]) rfl (by decide +kernel) rfl rfl (ZN<|pv 0) (λ_=>(QK 0 (show(Zbt:Qh).Nodup by decide +kernel))) (λ_=>Zm) (λ_=>ZC) λ_=>(VB Np (by rfl) T.int GO<|av 0 Qq)) Qq),?_⟩;show QC K _ [_] _
  walk_at"x";refine Zh (Uo<|EvO.fz<|ZI (xs:=m) (enc:=λi=>PyData.str<|nS i) (h:=PyData.int) ?ei (by lia) ?el) rfl
  case ei=>exact Va (Qp rfl)
  case el=>
   intro i a y;refine⟨_,Zd,?_⟩;exact Nl (Qp rfl) (KN (h i a).lo (h i a).b) (Xx (DK<|h i a)<|by decide)
inductive Row where
 |y (n:Nat)
 |l (l:Ln)
 |g (g:Gs)
def gsI(g:Gs):Ql:=[(g.line:Int),(g.first:Int),(g.last:Int),g.want,g.most]
def Row.ws:Row->Qd
 |.y n=>[.str "yard",.str<|nS (n:Int)]
 |.l a=>.str "line" :: .str (sD<|upT a.up)::YQ a.bs
 |.g a=>.str "guest" :: YQ (gsI a)
def Row.d(r:Row):PyData:=.list r.ws
def Row.isL:Row->Bool
 |.l _=>true
 |_=>false
def Row.isG:Row->Bool
 |.g _=>true
 |_=>false
def Row.S:Row->Str
 |.y n=>J3 "yard" [.int (n:Int)]
 |.l a=>VX a
 |.g a=>YW a
def Row.strs:Row->Qh
 |.y n=>["yard",nS (n:Int)]
 |.l a => "line" :: sD (upT a.up)::a.bs.map nS
 |.g a => "guest" :: (gsI a).map nS
def Row.strs_ws(r:Row):r.strs.map PyData.str=r.ws:=by
 cases r<;>simp[Row.strs,Row.ws,YQ]
structure Ln30(l:Ln):Prop where
 up:∀a,l.up=some a->a<=8
 l1:1<=l.bs.length
 ln:l.bs.length<=8
 bs:∀b∈l.bs,N30 b
structure Gs30(g:Gs):Prop where
 n:∀i∈gsI g,N30 i
def Row.Ok:Row->Prop
 |.y n=>n<=8
 |.l a=>Ln30 a
 |.g a=>Gs30 a
def ZM(y:Yd)(gs:List Gs):List Row:=.y y.T::(y.ls.map Row.l++gs.map Row.g)
def Ud(y:Yd)(gs:List Gs):PyData:=.list ((ZM y gs).map Row.d)
def Lo{i:Int}(h:0<=i):nS i ≠ "-" := λe=>by
 have a:=Dh h 45;rw[e]at a;have:=a (by decide +kernel);lia
def L4{a:Type}(xs:List a)(k:Nat)(f:k<=xs.length):cut xs (some ((k:Nat):Int)) none=xs.drop k:=by
 unfold cut;rw[HT.sIx_nat,Nat.min_eq_left f];show(xs.drop k).take (xs.length-k)=_;rw[<- HU,XX]
def Az{f:Type}(a b:f)(xs:List f):cut (a::b::xs) (some (2:Int)) none=xs:=L4 (a::b::xs) 2 (by simp)
def A4{f:Type}(a:f)(xs:List f):cut (a::xs) (some (1:Int)) none=xs:=L4 (a::xs) 1 (by simp)
inductive R_isyardrow:List OT->OT->Prop
 |mk {n:Nat}(h:n<=8):R_isyardrow [.fz (Row.y n).d] (.fz<|.bool true)
def Zjj:Qo Zap Zap (Q5 S0):=by walk_at"p"
def Zmt(T:Bl mg)(ta:Df K mg "is_yard_row" S0 Zap)(a:Qv P w K mg base "is_number" Zbt 1 (Qy (K:=K) R_isnum)):Qv P w K mg base "is_yard_row" Zap 2 (Qy (K:=K) R_isyardrow):=by
 refine ta.ev Zjj (λf p r h H H2 m A outer s i=>?_);cases h with
 |@mk n h=>
  refine⟨_,(Q0<|QH<|Ys (Y7 Y3 (Q8 QA (pv 0) Qw) Vu<|Zp _)<|Ys (Y7 Y3 (QW ZU (by rfl) T.len ZT<|av 0 Qq) Qw<|Zp _)<|Y4<|Q3 a i<|Qu (Q8 QA (pv 0) Qw) Qq),?_⟩;show QC K _ [_] _
  walk_at"x";refine Zh (Qr.cast (VL (b:=true) (c:=true) (Qr.cast (Jk (Ve (ds:=(Row.y n).ws) (d:=.str "yard") (Qp rfl) QG rfl) Vh)<|by rw[XJ rfl]) λ_=>VL (b:=true) (c:=true) (WK (YH (ds:=(Row.y n).ws)<|Qp rfl) QG) λ_=>QJ (Qs (Ve (ds:=(Row.y n).ws) (d:=.str (nS (n:Int))) (Qp rfl) QG rfl) Q2)<|R_isnum.mk<|Gp h) rfl) rfl
inductive R_islinerow:List OT->OT->Prop
 |mk {r:Row}(h:r.Ok):R_islinerow [.fz r.d] (.fz<|.bool r.isL)
def Zjo:Qo Zap Zap (Q5 Sy):=by walk_at"p"
def Zms(T:Bl mg)(ta:Df K mg "is_line_row" Sy Zap)(q:Qv P w K mg base "is_number" Zbt 1 (Qy (K:=K) R_isnum))(u:Qv P w K mg base "are_numbers" Zap 2 (Qy (K:=K) R_arenums)):Qv P w K mg base "is_line_row" Zap 3 (Qy (K:=K) R_islinerow):=by
 refine ta.ev Zjo (λf ts r h H H2 C A outer s v=>?_);cases h with
 |@mk r h=>
  refine⟨_,(Qz (Zv (PW.pt<|WB (Z7 Jb (Q8 QA (pv 0) Qw) Vu<|Zp _)<|Jo<|Z7 Uf (QW ZU (by rfl) T.len ZT<|av 0 Qq) Qw<|Zp _) (Q0<|QH Y2) Zx)
 (Q0<|QH<|Ys (Kn (Y7 Y3 (Q8 QA (pv 0) Qw) Vu<|Zp _)<|Y4<|Q3 q v<|Qu (Q8 QA (pv 0) Qw) Qq)<|Y4<|Q3 u v<|Qu (Bc D7 (pv 0) (Ba Qw) GY) Qq)),?_⟩
  show QC K _ [_] _
  walk_at"x";cases r with
  |y n=>
   refine Q9 (Zz (b:=true) (YS (b:=true) (c:=true) (Zf.cast (ZE<|Dt (Ve (ds:=(Row.y n).ws) (d:=.str "yard") (Qp rfl) QG rfl) Vh)<|by decide +kernel)<|by rintro⟨⟩) (λ_=>Zh Km rfl)<|by rintro⟨⟩)
  |g g=>
   refine Q9 (Zz (b:=true) (YS (b:=true) (c:=true) (Zf.cast (ZE<|Dt (Ve (ds:=(Row.g g).ws) (d:=.str "guest") (Qp rfl) QG<|V5 (j:=0) rfl) Vh)<|by decide +kernel)<|by rintro⟨⟩) (λ_=>Zh Km rfl)<|by rintro⟨⟩)
  |l l=>
   have h:Ln30 l:=h;have N:=h.l1;have D:=h.ln;have B:((Row.l l).ws).length=l.bs.length+2:=by simp[Row.ws,YQ]
   refine Q9 (Zz (b:=false) (YS (b:=false) (c:=false) (Zf.cast (ZE<|Dt (Ve (ds:=(Row.l l).ws) (d:=.str "line") (Qp rfl) QG<|V5 (j:=0) rfl) Vh)<|by decide +kernel) λ_=>Zf.cast (ZE<|VA (YH (ds:=(Row.l l).ws)<|Qp rfl) QG)<|by rw[B];exact Xo<|by lia) (by rintro⟨⟩) λ_=>Z3 ?_);refine Zh (Qr.cast (VL (b:=true) (c:=true) ?fst λ_=>QJ (ts:=[.fz<|.list<|YQ l.bs]) (Qs (Qr.cast (EvO.fz<|BQ (ds:=(Row.l l).ws) (Qp rfl) (Gi QG) Ge)<|by rw[show(Row.l l).ws=.str "line" :: .str (sD<|upT l.up)::YQ l.bs from rfl,Az]) Q2)<|R_arenums.mk h.bs<|by lia) rfl) rfl;have p:∀{Y:ZcP},Y[0]?=some (zf (Row.l l).d)->Qr K (tOp (rIx K) (QY 0)<|tC<|.int 1) Y (.str<|sD<|upT l.up):=λe=>Ve (ds:=(Row.l l).ws) (Qp e) QG (V5 (j:=1) rfl)
   cases m:l.up with
   |none=>
    have i:sD (upT l.up) = "-" := by rw[m];rfl
    exact Qr.cast (UO (b:=true) (c:=true) (Qr.cast (Jk (p rfl) Vh)<|by rw[XJ i])<|by rintro⟨⟩) rfl
   |some a=>
    have i:sD (upT l.up)=nS (a:Int):=by rw[m];rfl
    exact Qr.cast (UO (b:=false) (c:=true) (Qr.cast (Jk (p rfl) Vh)<|by rw[i,Xo<|Lo<|by lia]) λ_=>QJ (ts:=[.fz<|.str<|nS (a:Int)]) (Qs (Qr.cast (p rfl)<|by rw[i]) Q2)<|R_isnum.mk<|Gp<|h.up a m) rfl
inductive R_isguestrow:List OT->OT->Prop
 |mk {r:Row}(h:r.Ok):R_isguestrow [.fz r.d] (.fz<|.bool r.isG)
def ZiR:Qo Zap Zap (Q5 Sn):=by walk_at"p"
def Zk2(T:Bl mg)(ta:Df K mg "is_guest_row" Sn Zap)(a:Qv P w K mg base "are_numbers" Zap 2 (Qy (K:=K) R_arenums)):Qv P w K mg base "is_guest_row" Zap 3 (Qy (K:=K) R_isguestrow):=by
 refine ta.ev ZiR (λf ts r h H H2 m A outer s i=>?_);cases h with
 |@mk r h=>
  refine⟨_,(Q0<|QH<|Ys (Y7 Y3 (Q8 QA (pv 0) Qw) Vu<|Zp _)<|Ys (Y7 Y3 (QW ZU (by rfl) T.len ZT<|av 0 Qq) Qw<|Zp _)<|Y4<|Q3 a i<|Qu (Bc D7 (pv 0) (Ba Qw) GY) Qq),?_⟩;show QC K _ [_] _
  walk_at"x";cases r with
  |y n=>
   exact Zh (Qr.cast (VL (b:=false) (c:=true) (Qr.cast (Jk (Ve (ds:=(Row.y n).ws) (d:=.str "yard") (Qp rfl) QG rfl) Vh)<|XS PyData.bool<|by decide +kernel)<|by rintro⟨⟩) rfl) rfl
  |l l=>
   exact Zh (Qr.cast (VL (b:=false) (c:=true) (Qr.cast (Jk (Ve (ds:=(Row.l l).ws) (d:=.str "line") (Qp rfl) QG<|V5 (j:=0) rfl) Vh)<|XS PyData.bool<|by decide +kernel)<|by rintro⟨⟩) rfl) rfl
  |g g=>
   have h:Gs30 g:=h;exact Zh (Qr.cast (VL (b:=true) (c:=true) (Qr.cast (Jk (Ve (ds:=(Row.g g).ws) (d:=.str "guest") (Qp rfl) QG rfl) Vh)<|XS PyData.bool<|by decide +kernel) λ_=>VL (b:=true) (c:=true) (WK (YH (ds:=(Row.g g).ws)<|Qp rfl) QG) λ_=>QJ (ts:=[.fz<|.list<|YQ<|gsI g]) (Qs (Qr.cast (EvO.fz<|BQ (ds:=(Row.g g).ws) (Qp rfl) (Gi QG) Ge)<|by rw[show(Row.g g).ws=.str "guest" :: YQ (gsI g) from rfl,A4]) Q2)<|R_arenums.mk h.n<|by simp[gsI]) rfl) rfl
def PN:(Str.ofString "\n")=⟨#[10]⟩:=by decide +kernel
def Eu:(Str.ofString " ")=⟨#[32]⟩:=by decide +kernel
theorem F8{c:Nat}{sep:Str}(i:c∉sep.cps.toList):∀(xs:Qh) (a:Str),c∉a.cps.toList->(∀x∈xs,c∉x.cps.toList)->c∉(ZJ sep a xs).cps.toList
 |[],a,f,_=>f
 |x::xs,a,f,h=>by
  rw[Bj];refine F8 i xs _ ?_ λz m=>h z (Xg _ m);rw[D3,D3];simp only[XA,not_or];exact⟨⟨f,i⟩,h x Xb⟩
def Row.S_glue(r:Row):∃a xs,r.strs=a::xs/\r.S=ZJ " " a xs:=by
 cases r with
 |y n=>exact⟨_,_,rfl,rfl⟩
 |l a=>
  refine⟨_,_,rfl,?_⟩;show ZJ " " "line" ((lnD a).map sD)=_;unfold lnD;rw[Xz,Xm];rfl
 |g a=>exact⟨_,_,rfl,rfl⟩
def Row.free{r:Row}(h:r.Ok)(s:c=10\/c=32):∀x∈r.strs,c∉x.cps.toList:=by
 have m:c<48:=by lia
 have f:∀z:Str,(10∉z.cps.toList/\32∉z.cps.toList)->c∉z.cps.toList:=λz q=>by
  rcases s with rfl|rfl
  .exact q.1
  .exact q.2
 cases r with
 |y n=>
  intro x i;simp only[Row.strs,Xe,XT,or_false]at i;rcases i with rfl|rfl
  .exact f _ (by decide +kernel)
  .exact D4 (by lia) m
 |l a=>
  have h:Ln30 a:=h;intro x i;simp only[Row.strs,Xe]at i;rcases i with rfl|rfl|i
  .exact f _ (by decide +kernel)
  .cases e:a.up with
   |none=>exact f _ (by decide +kernel)
   |some b=>exact D4 (by lia) m
  .obtain⟨b,p,rfl⟩:=Xk.mp i;exact D4 (h.bs b p).lo m
 |g a=>
  have h:Gs30 a:=h;intro x i;simp only[Row.strs,Xe]at i;rcases i with rfl|i
  .exact f _ (by decide +kernel)
  .obtain⟨b,p,rfl⟩:=Xk.mp i;exact D4 (h.n b p).lo m
def Row.split{r:Row}(h:r.Ok):Txt.split r.S " "=r.strs:=by
 obtain⟨a,xs,i,m⟩:=r.S_glue;have f:=Row.free h (c:=32) (.inr rfl);rw[i]at f;rw[m,i,<- NT,Eu];exact Cs (by simp) f
def Row.line{r:Row}(h:r.Ok):10∉r.S.cps.toList:=by
 obtain⟨a,xs,p,m⟩:=r.S_glue;have f:=Row.free h (c:=10) (.inl rfl);rw[p]at f;rw[m];exact F8 (by decide +kernel) xs a (f a Xb) λx i=>f x (Xg _ i)
structure TxtOk(y:Yd)(gs:List Gs):Prop where
 ok:y.Ok
 y30:∀l∈y.ls,∀b∈l.bs,b<10^30
 hg:∀g∈gs,g.Ok y
 g30:∀g∈gs,g.want<10^30/\g.most<10^30
 n8:gs.length<=8
def GH{y:Yd}(f:y.Ok):YdT y:=by
 refine⟨f.t8,f.l5,λl m=>?_⟩;obtain⟨i,p,rfl⟩:=List.getElem_of_mem m;have u:=f.l5;refine⟨λa e=>?_,by rw[f.bl _ m];exact f.t8,λb q=>f.bb _ m b q⟩;have h:QU y i=some a:=by
  unfold QU;rw[XI p];exact e
 by_cases s:i=0
 .subst s;rw[f.up0]at h;cases h
 .obtain⟨b,r,v⟩:=f.ups i (by lia) p;rw[r]at h;cases h;lia
def MY{y:Yd}(a:y.Ok)(h:g.Ok y):GsT g:=by
 have:=a.t8;have:=a.l5;have:=h.ln;have:=h.fl;have:=h.lt;have:=h.w1;have:=h.m1;exact⟨by lia,by lia,by lia,by lia,h.w2,by lia,h.m2⟩
def TxtOk.ln{y:Yd}(T:TxtOk y gs)(a:l∈y.ls):Ln30 l:=
 ⟨((GH T.ok).ls l a).up,by rw[T.ok.bl l a];exact T.ok.t1,by rw[T.ok.bl l a];exact T.ok.t8,λb f=>⟨(T.ok.bb l a b f).1,T.y30 l a b f⟩⟩
def TxtOk.gs30{y:Yd}(T:TxtOk y gs)(a:g∈gs):Gs30 g:=⟨λi f=>by
 have t:=MY T.ok (T.hg g a);simp only[gsI,Xe,XT,or_false]at f;rcases f with rfl|rfl|rfl|rfl|rfl
 .exact Gp t.line
 .exact Gp t.first
 .exact Gp t.last
 .exact⟨t.w0,(T.g30 g a).1⟩
 .exact⟨t.m0,(T.g30 g a).2⟩⟩
def TxtOk.rows{y:Yd}(T:TxtOk y gs):∀r∈ZM y gs,r.Ok:=λr a=>by
 rcases Xe.mp a with rfl|a
 .exact T.ok.t8
 .rcases XA.mp a with a|a
  .obtain⟨l,f,rfl⟩:=Xk.mp a;exact T.ln f
  .obtain⟨g,h,rfl⟩:=Xk.mp a;exact T.gs30 h
def Rk(y:Yd)(gs:List Gs):(ZM y gs).length=1+y.ls.length+gs.length:=by simp[ZM];lia
def Ah{y:Yd}{r:Row}(e:(ZM y gs)[k]?=some r):(k=0/\r=.y y.T)\/(1<=k/\k<=y.ls.length/\r.isL=true/\r.isG=false)\/(y.ls.length<k/\r.isG=true/\r.isL=false):=by
 cases k with
 |zero=>
  left;refine⟨rfl,?_⟩;have:some (Row.y y.T)=some r:=e;injection this with this;exact this.symm
 |succ k=>
  right;have e:(y.ls.map Row.l++gs.map Row.g)[k]?=some r:=e
  by_cases h:k<y.ls.length
  .left;rw[Bw<|by simpa using h,Xp]at e;cases z:y.ls[k]? with
   |none=>rw[z]at e;cases e
   |some l=>
    rw[z]at e;cases e;exact⟨by lia,by lia,rfl,rfl⟩
  .right;rw[MK<|by simpa using h,Xp]at e;cases z:gs[k-(y.ls.map Row.l).length]? with
   |none=>rw[z]at e;cases e
   |some l=>
    rw[z]at e;cases e;exact⟨by lia,rfl,rfl⟩
inductive R_isrowat:List OT->OT->Prop
 |mk {y:Yd}{gs:List Gs}{k:Nat}(T:TxtOk y gs)(hk:k<(ZM y gs).length):R_isrowat [.fz<|Ud y gs,.fz<|.int (k:Int)] (.fz<|.bool true)
def Zlu:Qo Zbm Zbm (Q5 RG):=by walk_at"p"
def ZpC(T:Bl mg)(ta:Df K mg "is_row_at" RG Zbm)(W:Qv P w K mg base "is_yard_row" Zap 2 (Qy (K:=K) R_isyardrow))(X:Qv P w K mg base "is_line_row" Zap 3 (Qy (K:=K) R_islinerow))(B:Qv P w K mg base "is_guest_row" Zap 3 (Qy (K:=K) R_isguestrow)):Qv P w K mg base "is_row_at" Zbm 4 (Qy (K:=K) R_isrowat):=by
 refine ta.ev Zlu (λf x r h H H2 o A outer s C=>?_);cases h with
 |@mk y m k N d=>
  refine⟨_,(Qz (Zv (Z7 Y3 (pv 1) Qw<|Zp _) (Q0<|QH<|Q3 W C<|Qu (Q8 QA (pv 0)<|pv 1) Qq) Zx)
 (Qz (Zv (V4<|Q3 X C<|Qu (Q8 QA (pv 0)<|pv 1) Qq) (Q0<|QH<|KL<|Q3 B C<|Qu (Q8 QA (pv 0)<|QN Wj (pv 1) Qw) Qq) Zx)
 (Q0<|QH<|Ys (Y7 Yq (pv 1) Qw<|Zp _)<|Y4<|Q3 B C<|Qu (Q8 QA (pv 0)<|pv 1) Qq))),?_⟩
  show QC K _ [_,_] _
  walk_at"x";have O:=XI d;have a:=N.rows _ (XL d);generalize (ZM y m)[k]=r at O a;have q:=Ah O;have E:=N.ok.l1;have t:atI ((ZM y m).map Row.d) (k:Int)=some r.d:=V5 (by rw[Xp,O];rfl);have D:∀{Y:ZcP},Y[0]?=some (zf<|Ud y m)->Y[1]?=some (zi (k:Int))->Qr K (tOp (rIx K) (QY 0)<|QY 1) Y r.d:=λn l=>Ve (ds:=(ZM y m).map Row.d) (Qp n) (Qp l) t
  by_cases z:k=0
  .have e:r=.y y.T:=by
    rcases q with q|q|q
    .exact q.2
    .lia
    .lia
   subst e;exact Q9 (Zz (b:=true) (Zf.cast (ZE<|WK (Qp rfl) QG)<|XJ<|by lia) (λ_=>Zh (QJ (Qs (D rfl rfl) Q2)<|R_isyardrow.mk N.ok.t8) rfl)<|by rintro⟨⟩)
  .refine Q9 (Zz (b:=false) (Zf.cast (ZE<|WK (Qp rfl) QG)<|Xo<|by lia) (by rintro⟨⟩) λ_=>Z3 ?_);have v:k-1<(ZM y m).length:=by lia
   have p:=XI v;have u:=N.rows _ (XL v);generalize (ZM y m)[k-1]=Z at p u;have q1:=Ah p;have R:atI ((ZM y m).map Row.d) ((k:Int)-1)=some Z.d:=by
    have:(k:Int)-1=((k-1:Nat):Int):=by lia
    rw[this];exact V5 (by rw[Xp,p];rfl)
   by_cases i:r.isL=true
   .have j:Z.isG=false:=by
     rcases q with q|q|q
     .lia
     .rcases q1 with q1|q1|q1
      .rw[q1.2];rfl
      .exact q1.2.2.2
      .lia
     .rw[q.2.2]at i;cases i
    exact Q9 (Zz (b:=true) (Zf.cast (ZL<|QJ (Qs (D rfl rfl) Q2)<|R_islinerow.mk a) i) (λ_=>Zh (Qr.cast (K7 (b:=false)<|Qr.cast (QJ (Qs (Ve (ds:=(ZM y m).map Row.d) (Qp rfl) (YE (Qp rfl) QG) R) Q2)<|R_isguestrow.mk u)<|by rw[j]) rfl) rfl)<|by rintro⟨⟩)
   .have i:r.isL=false:=by simpa using i
    have g:r.isG=true/\1<k:=by
     rcases q with q|q|q
     .lia
     .rw[q.2.2.1]at i;cases i
     .exact⟨q.2.1,by lia⟩
    exact Q9 (Zz (b:=false) (Zf.cast (ZL<|QJ (Qs (D rfl rfl) Q2)<|R_islinerow.mk a) i) (by rintro⟨⟩) λ_=>Z3<|Zh (Qr.cast (VL (b:=true) (c:=true) (Qr.cast (VA (Qp rfl) QG)<|XS PyData.bool<|XJ<|by lia) λ_=>Qr.cast (QJ (Qs (D rfl rfl) Q2)<|R_isguestrow.mk a)<|by rw[g.1]) rfl) rfl)
def Row.S_y(n:Nat):(Row.y n).S=J3 "yard" [.int (n:Int)]:=rfl
def Row.S_l(a:Ln):(Row.l a).S=VX a:=rfl
def Row.S_g(a:Gs):(Row.g a).S=YW a:=rfl
def ZlV(y:Yd)(gs:List Gs):U0 y gs=Str.join ⟨#[10]⟩ ((ZM y gs).map Row.S):=by
 have e:(ZM y gs).map Row.S=Yp y::(y.ls.map VX++gs.map YW):=by
  unfold ZM Yp;simp only[Xz,XB,Xm,Function.comp_def,Row.S_y,Row.S_l,Row.S_g]
 rw[e,NT];show ZJ (Str.ofString "\n") (Yp y) (y.ls.map VX++gs.map YW)=_;exact XS (λz=>ZJ z (Yp y)<|y.ls.map VX++gs.map YW) PN
def ZkF{y:Yd}(T:TxtOk y gs):Txt.split (U0 y gs) "\n"=(ZM y gs).map Row.S:=by
 rw[ZlV,PN];refine Cs (by simp[ZM]) λp f=>?_;obtain⟨r,a,rfl⟩:=Xk.mp f;exact Row.line (T.rows r a)
def Znd{y:Yd}(T:TxtOk y gs):(U0 y gs).length<=50000:=by
 have m:=Mz (sep := "\n") (B:=3100) (y.ls.map VX++gs.map YW) (Yp y) λx a=>by
  rcases XA.mp a with a|a
  .obtain⟨l,f,rfl⟩:=Xk.mp a;exact Hb ((GH T.ok).ls l f)
  .obtain⟨g,f,rfl⟩:=Xk.mp a;exact R5 (MY T.ok<|T.hg g f)
 have i:=Ro (GH T.ok);have h:(y.ls.map VX++gs.map YW).length*(Str.length "\n" + 3100)<=13*3101:=MG (by
  have:=T.ok.l5;have:=T.n8;simp;omega) (by decide)
 unfold U0;omega
def Row.S_len{y:Yd}(T:TxtOk y gs):∀r∈ZM y gs,r.S.length<=3100:=λr a=>by
 rcases Xe.mp a with rfl|a
 .exact Ro (GH T.ok)
 .rcases XA.mp a with a|a
  .obtain⟨l,f,rfl⟩:=Xk.mp a;exact Hb ((GH T.ok).ls l f)
  .obtain⟨g,h,rfl⟩:=Xk.mp a;exact R5 (MY T.ok<|T.hg g h)
inductive R_rowsof:List OT->OT->Prop
 |mk {y:Yd}{gs:List Gs}(T:TxtOk y gs):R_rowsof [.fz<|.str<|U0 y gs] (.fz<|Ud y gs)
def RP:Qo ["text","rows","place"] ["text"] (Q5 Ha):=by walk_at"p"
def ZqW(T:Bl mg)(ta:Df K mg "rows_of" Ha ["text"])(u:Qv P w K mg base "is_row_at" Zbm 4 (Qy (K:=K) R_isrowat)):Qv P w K mg base "rows_of" ["text"] 5 (Qy (K:=K) R_rowsof):=by
 refine ta.ev RP (λf g r h H H2 Z A outer s O=>?_);cases h with
 |@mk y a p=>
  refine⟨_,(Qz (Zv (Yu<|V4<|QW AH (by rfl) T.isi J9<|av 0<|Qu (JJ (v:=.ty "str") rfl T.str BV rfl) Qq) (Q0 Bd) Zx)
 (Qz (JO (i:=1) RP.nd rfl rfl (NX:=["text","rows","place"]) (sc:=Q5 Ha) (N:=["row"]) (f:=[none]) rfl (by decide +kernel) rfl rfl (ZN<|Wi PySem.F.plainAttrs_str PySem.F.slot_str_split PySem.F.type_str_split LC (pv 0)<|Qu Vu Qq) (λ_=>(QK 0 (show(["row"]:Qh).Nodup by decide +kernel))) (λ_=>Zm) (λ_=>ZC) (λ_=>(Wi PySem.F.plainAttrs_str PySem.F.slot_str_split PySem.F.type_str_split LC (pv 0)<|Qu Vu Qq)) rfl)
 (Qz (ZV zN rfl (V1 rfl T.range<|Qu (QW ZU (by rfl) T.len ZT<|av 1 Qq) Qq) (QK 2 RP.nd)<|Q0<|Zv (Yu<|V4<|Q3 u O<|av 1<|av 2 Qq) (Q0 Bd) Zx)
 (Qz (Zv (Z7 Uf (QW ZU (by rfl) T.len ZT<|av 1 Qq) Qw<|Zp _) (Q0 Bd) Zx)
 (Q0<|QH<|pv 1))))),?_⟩
  show QC K _ [_,_,_] _
  walk_at"x";have o:=p.ok.l1;have n:=p.ok.l5;have l:=p.n8;have B:=Rk y a;have e:=Znd p;have j:sizeLine=16777216:=sizeLine_eq;refine Q9 (Zz (b:=false) (Yb (b:=true)<|ZL<|Ey<|Qp rfl) (by rintro⟨⟩) λ_=>Z3 ?_);refine Q9 (Vt (EvO.cast (T5 (xs:=(ZM y a).map Row.S) (enc:=PyData.str) (h:=λs=>(Txt.split s " ").map PyData.str) ?ei (by simp;omega) ?el) (show _=OT.oll ((ZM y a).map Row.ws) from ?eq)) ?_)
  case ei=>exact EvI.cast (Va<|EvO.fz<|LU (Qp rfl) Vh (by decide +kernel)<|by omega) (by rw[ZkF p])
  case el=>
   intro x D c;obtain⟨r,q,rfl⟩:=Xk.mp D;have:=Row.S_len p r q;refine⟨_,Zd,?_⟩;exact LU (Qp rfl) Vh (by decide +kernel) (by omega)
  case eq=>
   congr 1
   rw[Xm];refine X6 λr q=>?_
   show(Txt.split r.S " ").map PyData.str=r.ws
   rw[Row.split<|p.rows r q,Row.strs_ws]
  walk_at"d";refine Tb 1 rfl rfl ?_;walk_at"d";have Y:(PyData.list<|((ZM y a).map Row.ws).map PyData.list)=Ud y a:=by
   unfold Ud;rw[Xm];rfl
  rw[Y];have m:((ZM y a).map Row.d).length=1+y.ls.length+a.length:=by rw[Xi,B]
  refine Q9 (V6 (ds:=ZW 0 (ZM y a).length) (λi=>[zf<|.str<|U0 y a,zf<|Ud y a,none]) ?ei2 ⟨rfl,rfl,trivial⟩ ?st2 ?fin2)
  case ei2=>exact EvI.cast (WN (Qs (YH (ds:=(ZM y a).map Row.d)<|Qp rfl) Q2) (by rw[z62,m];omega)<|by rw[z62,m];omega) (Wp rfl (by rw[m,B];omega))
  case st2=>
   intro k d X;obtain⟨R,rfl⟩:=YJ X;rw[X9];refine⟨_,Zd,?_⟩;exact Zz (b:=false) (Yb (b:=true)<|ZL<|QJ (Qs (Qp rfl)<|Qs (Qp rfl) Q2)<|R_isrowat.mk p R) (by rintro⟨⟩) (λ_=>Z3 ⟨rfl,rfl,trivial⟩)
  case fin2=>
   intro C W;refine Yf W ?_;refine Q9 (Zz (b:=false) (Zf.cast (ZE<|VA (YH (ds:=(ZM y a).map Row.d)<|Qp rfl) QG)<|by rw[m];exact Xo<|by omega) (by rintro⟨⟩) λ_=>Z3 ?_);exact Zh (Qp rfl) rfl
inductive R_linetold:List OT->OT->Prop
 |mk {l:Ln}(h:Ln30 l):R_linetold [.fz (Row.l l).d] (.fz<|Zc l)
def CK:Qo ["words","above"] Zap (Q5 Si):=by walk_at"p"
def Zn3(T:Bl mg)(ta:Df K mg "line_told" Si Zap)(u:Qv P w K mg base "numbers_of" Zap 1 (Qy (K:=K) R_numsof)):Qv P w K mg base "line_told" Zap 2 (Qy (K:=K) R_linetold):=by
 refine ta.ev CK (λf ts r h H H2 y A outer s v=>?_);cases h with
 |@mk l h=>
  refine⟨_,(Qz (QM 1 CK.nd<|Zt7 (Z7 Y3 (Q8 QA (pv 0) Qw) Vu<|Zp _) Gf<|VB Np (by rfl) T.int GO<|Qu (Q8 QA (pv 0) Qw) Qq)
 (Q0<|QH<|Z1<|av 1<|Qu (Q3 u v<|Qu (Bc D7 (pv 0) (Ba Qw) GY) Qq) Qq)),?_⟩
  show QC K _ [_,_] _
  walk_at"x";have B:=h.ln;have q:∀{Y:ZcP},Y[0]?=some (zf (Row.l l).d)->Qr K (tOp (rIx K) (QY 0)<|tC<|.int 1) Y (.str<|sD<|upT l.up):=λe=>Ve (ds:=(Row.l l).ws) (Qp e) QG (V5 (j:=1) rfl);refine Q9 (Z9 (d:=upD l.up) ?ab ?_)
  case ab=>
   cases p:l.up with
   |none=>
    have m:sD (upT l.up) = "-" := by rw[p];rfl
    exact Tm (b:=true) (Zf.cast (ZE<|Jk (q rfl) Vh)<|XJ m) (λ_=>GN) (by rintro⟨⟩)
   |some a=>
    have m:sD (upT l.up)=nS (a:Int):=by rw[p];rfl
    have i:=Gp (h.up a p);exact Tm (b:=false) (Zf.cast (ZE<|Jk (q rfl) Vh)<|by rw[m];exact Xo<|Lo<|by lia) (by rintro⟨⟩) (λ_=>Nl (Qr.cast (q rfl)<|by rw[m]) (KN i.lo i.b)<|Xx (DK i)<|by decide)
  walk_at"d";refine Zh (Vd (ds:=[upD l.up,.tuple<|l.bs.map PyData.int]) (Za (Qp rfl)<|Za (QJ (ts:=[.fz<|.list<|YQ l.bs]) (Qs (Qr.cast (EvO.fz<|BQ (ds:=(Row.l l).ws) (Qp rfl) (Gi QG) Ge)<|by rw[show(Row.l l).ws=.str "line" :: .str (sD<|upT l.up)::YQ l.bs from rfl,Az]) Q2)<|R_numsof.mk h.bs<|by lia) Z2)<|G0 rfl) rfl
inductive R_iswhole:List OT->OT->Prop
 |mk {i:Int}:R_iswhole [.fz<|.int i] (.fz<|.bool true)
def ZmZ:Qo Zbu Zbu (Q5 R6):=by walk_at"p"
def ZpA(T:Bl mg)(ta:Df K mg "is_whole" R6 Zbu):Qv P w K mg base "is_whole" Zbu 1 (Qy (K:=K) R_iswhole):=by
 refine ta.ev ZmZ (λf m r h H H2 a A outer s p=>?_);cases h with
 |@mk i=>
  refine⟨_,(Q0<|QH<|Ys (QW Um (by rfl) T.isi J9<|av 0<|Qu (JJ (v:=.ty "int") rfl T.int GO rfl) Qq)<|Y4<|KL<|QW Um (by rfl) T.isi J9<|av 0<|Qu (JJ (v:=.ty "bool") rfl T.bool Lq rfl) Qq),?_⟩;exact Zh (VL (UX Qp rfl) λ_=>K7<|UX Qp rfl) rfl
inductive R_within:List OT->OT->Prop
 |mk {i lo hi:Int}(h0:lo<=i)(h1:i<hi):R_within [.fz<|.int i,.fz<|.int lo,.fz<|.int hi] (.fz<|.bool true)
def Zg9:Qo Zax Zax (Q5 SE):=by walk_at"p"
def ZqR(T:Bl mg)(ta:Df K mg "is_whole_within" SE Zax)(a:Qv P w K mg base "is_whole" Zbu 1 (Qy (K:=K) R_iswhole)):Qv P w K mg base "is_whole_within" Zax 2 (Qy (K:=K) R_within):=by
 refine ta.ev Zg9 (λf v r h H H2 u A outer s m=>?_);cases h with
 |@mk i y B q p=>
  refine⟨_,(Q0<|QH<|Ys (Q3 a m<|av 0 Qq)<|Y4<|LP J7 Uf (pv 1) (pv 0)<|pv 2),?_⟩;refine Zh (Qr.cast (VL (QJ (Qs Qp Q2) R_iswhole.mk) λ_=>DB Qp Qp Qp) ?_) rfl;rw[XJ q,XJ p];rfl
inductive R_isamount:List OT->OT->Prop
 |mk {i lo:Int}(h0:lo<=i)(h1:i<10^30):R_isamount [.fz<|.int i,.fz<|.int lo] (.fz<|.bool true)
def Zl8:Qo Zba Zba (Q5 Sg):=by walk_at"p"
def Znr(T:Bl mg)(ta:Df K mg "is_amount" Sg Zba)(a:Qv P w K mg base "is_whole_within" Zax 2 (Qy (K:=K) R_within)):Qv P w K mg base "is_amount" Zba 3 (Qy (K:=K) R_isamount):=by
 refine ta.ev Zl8 (λf v r h H H2 u A outer s m=>?_);cases h with
 |@mk i y q p=>
  refine⟨_,(Q0<|QH<|Q3 a m<|av 0<|av 1<|Qu (QN Dv Qw Qw) Qq),?_⟩;exact Zh (QJ (Qs Qp<|Qs Qp<|Qs (V3 QG QG<|Ki (by decide)<|by decide) Q2)<|R_within.mk q p) rfl
inductive R_tupof:List OT->OT->Prop
 |mk {ds:Qd}{n:Int}(h:(ds.length:Int)=n):R_tupof [.fz<|.tuple ds,.fz<|.int n] (.fz<|.bool true)
def Zjp:Qo ZaF ZaF (Q5 Sx):=by walk_at"p"
def ZtR(T:Bl mg)(ta:Df K mg "is_tuple_of" Sx ZaF):Qv P w K mg base "is_tuple_of" ZaF 1 (Qy (K:=K) R_tupof):=by
 refine ta.ev Zjp (λf i r h H H2 a A outer s m=>?_);cases h with
 |@mk p n h=>
  refine⟨_,(Q0<|QH<|Ys (QW Um (by rfl) T.isi J9<|av 0<|Qu (JJ (v:=.ty "tuple") rfl T.tuple Wn rfl) Qq)<|Y4<|Y7 Y3 (QW ZU (by rfl) T.len ZT<|av 0 Qq) (pv 1)<|Zp _),?_⟩;refine Zh (Qr.cast (VL (UX Qp rfl) λ_=>WK (Dz Qp) Qp) ?_) rfl;rw[XJ h];rfl
inductive R_isabove:List OT->OT->Prop
 |mk {u:Option Nat}{k:Nat}(h:if k=0 then u=none else ∃a,u=some a/\a<k):R_isabove [.fz<|upD u,.fz<|.int (k:Int)] (.fz<|.bool true)
def ZmM:Qo Zbn Zbn (Q5 Rt):=by walk_at"p"
def Zqe(T:Bl mg)(ta:Df K mg "is_above" Rt Zbn)(i:Qv P w K mg base "is_whole_within" Zax 2 (Qy (K:=K) R_within)):Qv P w K mg base "is_above" Zbn 3 (Qy (K:=K) R_isabove):=by
 refine ta.ev ZmM (λf q r h H H2 p A outer s m=>?_);cases h with
 |@mk u k h=>
  refine⟨_,(Qz (Zv (Z7 Y3 (pv 1) Qw<|Zp _) (Q0<|QH<|Dp<|GS<|pv 0) Zx)
 (Q0<|QH<|Q3 i m<|av 0<|Qu Qw<|av 1 Qq)),?_⟩
  refine Q9 (Zz (b:=decide ((k:Int)=0)) (ZL<|WK Qp QG) (λc=>?_) λc=>Z3 ?_)
  .have c:(k:Int)=0:=XH c;rw[Xf<|by lia]at h;subst h;exact Zh (J8 Qp) rfl
  .have c:¬(k:Int)=0:=WA c;rw[Xc<|by lia]at h;obtain⟨a,rfl,v⟩:=h;exact Zh (QJ (Qs Qp<|Qs QG<|Qs Qp Q2)<|R_within.mk (by lia)<|by lia) rfl
inductive R_arebounds:List OT->OT->Prop
 |mk {bs:Ql}{t:Int}(hl:(bs.length:Int)=t)(h8:bs.length<=8)(hb:∀b∈bs,0<=b/\b<10^30):R_arebounds [.fz<|.tuple<|bs.map PyData.int,.fz<|.int t] (.fz<|.bool true)
def Zkg:Qo Zav Zav (Q5 Hz):=by walk_at"p"
def Zl9(T:Bl mg)(ta:Df K mg "are_bounds" Hz Zav)(i:Qv P w K mg base "is_tuple_of" ZaF 1 (Qy (K:=K) R_tupof))(a:Qv P w K mg base "is_amount" Zba 3 (Qy (K:=K) R_isamount)):Qv P w K mg base "are_bounds" Zav 4 (Qy (K:=K) R_arebounds):=by
 refine ta.ev Zkg (λf y r h H H2 v A outer s p=>?_);cases h with
 |@mk bs t u B q=>
  refine⟨_,(Q0<|QH<|Ys (Q3 i p<|av 0<|av 1 Qq)<|Y4<|QW BY (by rfl) T.all Mh<|Qu (ZD (NX:=Zav) (sc:=Q5 Hz) (N:=["bound"]) (f:=[none]) rfl (by decide +kernel) rfl rfl (WI<|pv 0) (λ_=>(QK 0 (show(["bound"]:Qh).Nodup by decide +kernel))) (λ_=>Zm) (λ_=>ZC) λ_=>(Q3 a p<|av 0<|Qu Qw Qq)) Qq),?_⟩;refine Zh (VL (b:=true) (c:=true) (QJ (Qs Qp<|Qs Qp Q2)<|R_tupof.mk<|by rw[Xi];exact u) λ_=>Qr.cast (Mc (bs:=bs.map λ_=>true) (Qr.cast (EvO.fz<|ZI (xs:=bs) (enc:=PyData.int) (h:=λ_=>.bool true) ?ei (by lia) ?el)<|by rw[Xm];rfl) rfl)<|by simp) rfl
  case ei=>exact Uj Qp
  case el=>
   intro x m c;exact⟨_,Zd,QJ (Qs Qp<|Qs QG Q2)<|R_isamount.mk (q x m).1 (q x m).2⟩
structure LOk(l:Ln)(k T:Nat):Prop where
 u:if k=0 then l.up=none else ∃a,l.up=some a/\a<k
 b:l.bs.length=T
 h:∀b∈l.bs,0<=b/\b<10^30
inductive R_isline:List OT->OT->Prop
 |mk {l:Ln}{k T:Nat}(h:LOk l k T)(h8:T<=8):R_isline [.fz<|Zc l,.fz<|.int (k:Int),.fz<|.int (T:Int)] (.fz<|.bool true)
def Zpx:Qo ZaK ZaK (Q5 Ra):=by walk_at"p"
def Zsr(T:Bl mg)(ta:Df K mg "is_line" Ra ZaK)(p:Qv P w K mg base "is_tuple_of" ZaF 1 (Qy (K:=K) R_tupof))(m:Qv P w K mg base "is_above" Zbn 3 (Qy (K:=K) R_isabove))(i:Qv P w K mg base "are_bounds" Zav 4 (Qy (K:=K) R_arebounds)):Qv P w K mg base "is_line" ZaK 5 (Qy (K:=K) R_isline):=by
 refine ta.ev Zpx (λf u r h H H2 q A outer s a=>?_);cases h with
 |@mk l k t h v=>
  refine⟨_,(Q0<|QH<|Ys (Q3 p a<|av 0<|Qu Qw Qq)<|Ys (Q3 m a<|Qu (Q8 QA (pv 0) Qw)<|av 1 Qq)<|Y4<|Q3 i a<|Qu (Q8 QA (pv 0) Qw)<|av 2 Qq),?_⟩;have e:=h.b;exact Zh (VL (b:=true) (c:=true) (QJ (Qs Qp<|Qs QG Q2)<|R_tupof.mk rfl) λ_=>VL (b:=true) (c:=true) (QJ (Qs (Z5 (ds:=[upD l.up,.tuple<|l.bs.map PyData.int]) Qp QG rfl)<|Qs Qp Q2)<|R_isabove.mk h.u) λ_=>QJ (Qs (Z5 (ds:=[upD l.up,.tuple<|l.bs.map PyData.int]) Qp QG rfl)<|Qs Qp Q2)<|R_arebounds.mk (by lia) (by lia) h.h) rfl
structure YOk(y:Yd):Prop where
 ok:y.Ok
 b:∀l∈y.ls,∀b∈l.bs,b<10^30
def YOk.ln{y:Yd}(h:YOk y)(e:y.ls[k]?=some l):LOk l k y.T:=by
 have m:=List.mem_of_getElem? e;have u:QU y k=l.up:=by
  unfold QU;rw[e];rfl
 refine⟨?_,h.ok.bl l m,λb a=>⟨(h.ok.bb l m b a).1,h.b l m b a⟩⟩;split
 .rename_i z;rw[<- u,z];exact h.ok.up0
 .rename_i z;rw[<- u];exact h.ok.ups k (by lia) (Xh.mp e).1
inductive R_arelines:List OT->OT->Prop
 |mk {y:Yd}(h:YOk y):R_arelines [.fz<|.tuple<|y.ls.map Zc,.fz<|.int (y.T:Int)] (.fz<|.bool true)
def Zmo:Qo Zav Zav (Q5 Ht):=by walk_at"p"
def ZnD(T:Bl mg)(ta:Df K mg "are_lines" Ht Zav)(i:Qv P w K mg base "is_line" ZaK 5 (Qy (K:=K) R_isline)):Qv P w K mg base "are_lines" Zav 6 (Qy (K:=K) R_arelines):=by
 refine ta.ev Zmo (λf u r h H H2 q A outer s m=>?_);cases h with
 |@mk y h=>
  refine⟨_,(Qz (Zv (PW.pt<|WB (Yu<|V4<|QW Um (by rfl) T.isi J9<|av 0<|Qu (JJ (v:=.ty "tuple") rfl T.tuple Wn rfl) Qq)<|Jo<|Yu<|NB J7 J7 Qw (QW ZU (by rfl) T.len ZT<|av 0 Qq) Qw) (Q0<|QH Y2) Zx)
 (Q0<|QH<|QW BY (by rfl) T.all Mh<|Qu (ZD (NX:=Zav) (sc:=Q5 Ht) (N:=Zbv) (f:=[none,none,some 1]) rfl (by decide +kernel) rfl rfl (Zk1 rfl T.enumerate<|av 0 Qq) (λ_=>(VM (n:=2) rfl (Zt (QK 0 (show(Zbv:Qh).Nodup by decide +kernel))<|Zt (QK 1 (show(Zbv:Qh).Nodup by decide +kernel)) VU))) (λ_=>(UZ (n:=2)<|Yw Zm<|Yw Zm Gh)) (λ_=>ZC) λ_=>(Q3 i m<|av 1<|av 0<|av 2 Qq)) Qq)),?_⟩
  have C:=h.ok.l1;have B:=h.ok.l5;refine Q9 (Zz (b:=false) ?t0 nf λ_=>Z3 ?_)
  case t0=>exact YS (b:=false) (c:=false) (Yb (b:=true)<|ZL<|UX Qp rfl) (λ_=>Yb (b:=true)<|ZE<|Qr.cast (DB QG (Dz Qp) QG)<|by rw[Xi,XJ (show(1:Int)<=y.ls.length by lia),XJ (show(y.ls.length:Int)<=5 by lia)];rfl)
  refine Zh (Qr.cast (Mc (bs:=(y.ls.map Zc).zipIdx.map λ_=>true) (Qr.cast (EvO.fz<|ZI (xs:=(y.ls.map Zc).zipIdx) (enc:=λp=>.tuple [.int (p.2:Int),p.1]) (h:=λ_=>.bool true) ?ei (by simp;lia) ?el)<|by rw[Xm];rfl) rfl)<|by simp) rfl
  case ei=>exact ZuG (as:=y.ls.map Zc) (Qs Qp Q2)
  case el=>
   rintro⟨d,k⟩ a c;have a:=List.mk_mem_zipIdx_iff_getElem?.mp a;rw[Xp]at a;obtain⟨l,e,rfl⟩:=Option.map_eq_some_iff.mp a;refine⟨_,by walk_at"g",?_⟩;walk_at"e";exact QJ (Qs Qp<|Qs Qp<|Qs Qp Q2) (R_isline.mk (h.ln e) h.ok.t8)
inductive R_isyard:List OT->OT->Prop
 |mk {y:Yd}(h:YOk y):R_isyard [.fz<|QL y] (.fz<|.bool true)
def Zp3:Qo Zbu Zbu (Q5 Rp):=by walk_at"p"
def ZqH(T:Bl mg)(ta:Df K mg "is_yard" Rp Zbu)(m:Qv P w K mg base "is_tuple_of" ZaF 1 (Qy (K:=K) R_tupof))(p:Qv P w K mg base "is_whole_within" Zax 2 (Qy (K:=K) R_within))(i:Qv P w K mg base "are_lines" Zav 6 (Qy (K:=K) R_arelines)):Qv P w K mg base "is_yard" Zbu 7 (Qy (K:=K) R_isyard):=by
 refine ta.ev Zp3 (λf v r h H H2 u A outer s a=>?_);cases h with
 |@mk y h=>
  refine⟨_,(Q0<|QH<|Ys (Q3 m a<|av 0<|Qu Qw Qq)<|Ys (Q3 p a<|Qu (Q8 QA (pv 0) Qw)<|Qu Qw<|Qu Qw Qq)<|Y4<|Q3 i a<|Qu (Q8 QA (pv 0) Qw)<|Qu (Q8 QA (pv 0) Qw) Qq),?_⟩;have C:=h.ok.t1;have B:=h.ok.t8;have q:Qr K (tOp (rIx K) (QY 0)<|tC<|.int 0) [zf<|QL y] (.int (y.T:Int)):=Z5 Qp QG rfl;exact Zh (VL (b:=true) (c:=true) (QJ (Qs Qp<|Qs QG Q2)<|R_tupof.mk rfl) λ_=>VL (b:=true) (c:=true) (QJ (Qs q<|Qs QG<|Qs QG Q2)<|R_within.mk (by lia)<|by lia) λ_=>QJ (Qs (Z5 (ds:=[.int (y.T:Int),.tuple<|y.ls.map Zc]) Qp QG rfl)<|Qs q Q2)<|R_arelines.mk h) rfl
inductive R_isguest:List OT->OT->Prop
 |mk {y:Yd}{g:Gs}(h:g.Ok y)(h1:g.want<10^30)(h2:g.most<10^30):R_isguest [.fz<|QL y,.fz<|QB g] (.fz<|.bool true)
def ZmK:Qo Zbo Zbo (Q5 RT):=by walk_at"p"
def Zpz(T:Bl mg)(ta:Df K mg "is_guest" RT Zbo)(v:Qv P w K mg base "is_tuple_of" ZaF 1 (Qy (K:=K) R_tupof))(i:Qv P w K mg base "is_whole_within" Zax 2 (Qy (K:=K) R_within))(q:Qv P w K mg base "is_amount" Zba 3 (Qy (K:=K) R_isamount))(u:Qv P w K mg base "line_count" ZaV 1 (Qy (K:=K) R_count))(p:Qv P w K mg base "turns_of" ZaV 1 (Qy (K:=K) R_turns)):Qv P w K mg base "is_guest" Zbo 4 (Qy (K:=K) R_isguest):=by
 refine ta.ev ZmK (λf ts r h H H2 N A outer s a=>?_);cases h with
 |@mk y g h k5 B=>
  refine⟨_,(Qz (Zv (Yu<|V4<|Q3 v a<|av 1<|Qu Qw Qq) (Q0<|QH Y2) Zx)
 (Qz (Zv (Yu<|V4<|Q3 i a<|Qu (Q8 QA (pv 1) Qw)<|Qu Qw<|Qu (Q3 u a<|av 0 Qq) Qq) (Q0<|QH Y2) Zx)
 (Qz (Zv (Yu<|V4<|Q3 i a<|Qu (Q8 QA (pv 1) Qw)<|Qu Qw<|Qu (Q3 p a<|av 0 Qq) Qq) (Q0<|QH Y2) Zx)
 (Qz (Zv (Yu<|V4<|Q3 i a<|Qu (Q8 QA (pv 1) Qw)<|Qu (Q8 QA (pv 1) Qw)<|Qu (Q3 p a<|av 0 Qq) Qq) (Q0<|QH Y2) Zx)
 (Q0<|QH<|Ys (Q3 q a<|Qu (Q8 QA (pv 1) Qw)<|Qu Qw Qq)<|Y4<|Q3 q a<|Qu (Q8 QA (pv 1) Qw)<|Qu Qw Qq))))),?_⟩
  try dsimp only[Yt]
  obtain⟨k1,k2,k3,D,_,C,_⟩:=h;have m:∀{Y:ZcP} {n:Int} {d:PyData},Y[1]?=some _->atI [.int<|g.line,.int<|g.first,.int<|g.last,.int g.want,.int g.most] n=some d->Qr K _ Y d:=λe h=>Z5 (Qp e) QG h;refine Q9 (Zz (b:=false) (Yb (b:=true)<|ZL<|QJ (ts:=[.fz<|QB g,.fz<|.int 5]) (Qs Qp<|Qs QG Q2)<|R_tupof.mk rfl) nf λ_=>Z3 ?_);refine Q9 (Zz (b:=false) (Yb (b:=true)<|ZL<|QJ (Qs (m rfl rfl)<|Qs QG<|Qs (QJ (Qs Qp Q2) R_count.mk) Q2)<|R_within.mk (by lia)<|by lia) nf λ_=>Z3 ?_);refine Q9 (Zz (b:=false) (Yb (b:=true)<|ZL<|QJ (Qs (m rfl rfl)<|Qs QG<|Qs (QJ (Qs Qp Q2) R_turns.mk) Q2)<|R_within.mk (by lia)<|by lia) nf λ_=>Z3 ?_);refine Q9 (Zz (b:=false) (Yb (b:=true)<|ZL<|QJ (Qs (m rfl rfl)<|Qs (m rfl rfl)<|Qs (QJ (Qs Qp Q2) R_turns.mk) Q2)<|R_within.mk (by lia)<|by lia) nf λ_=>Z3 ?_);exact Zh (VL (QJ (Qs (m rfl rfl)<|Qs QG Q2)<|R_isamount.mk D k5) λ_=>QJ (Qs (m rfl rfl)<|Qs QG Q2)<|R_isamount.mk C B) rfl
def Row.ln:Row->PyData
 |.l a=>Zc a
 |_=>.none
def Row.gu:Row->PyData
 |.g a=>QB a
 |_=>.none
def ZpB(y:Yd)(gs:List Gs):((ZM y gs).filter Row.isL).map Row.ln=y.ls.map Zc:=by
 unfold ZM;rw[List.filter_cons_of_neg<|by simp[Row.isL],JU,B6.mpr (λr f=>by
  obtain⟨l,_,rfl⟩:=Xk.mp f;rfl),MM.mpr (λr f=>by
  obtain⟨l,_,rfl⟩:=Xk.mp f;simp[Row.isL]),XN,Xm]
 exact X6 λa _=>rfl
def Zn8(y:Yd)(gs:List Gs):((ZM y gs).filter Row.isG).map Row.gu=gs.map QB:=by
 unfold ZM;rw[List.filter_cons_of_neg<|by simp[Row.isG],JU,MM.mpr (λr f=>by
  obtain⟨l,_,rfl⟩:=Xk.mp f;simp[Row.isG]),B6.mpr (λr f=>by
  obtain⟨l,_,rfl⟩:=Xk.mp f;rfl),BB,Xm]
 exact X6 λa _=>rfl
inductive R_yardtold:List OT->OT->Prop
 |mk {y:Yd}{gs:List Gs}(T:TxtOk y gs):R_yardtold [.fz<|Ud y gs] (.fz<|QL y)
def Sa:Qo ["rows","lines","yard"] ["rows"] (Q5 Ho):=by walk_at"p"
def Zna(T:Bl mg)(ta:Df K mg "yard_told" Ho ["rows"])(O:Qv P w K mg base "is_line_row" Zap 3 (Qy (K:=K) R_islinerow))(D:Qv P w K mg base "line_told" Zap 2 (Qy (K:=K) R_linetold))(C:Qv P w K mg base "is_yard" Zbu 7 (Qy (K:=K) R_isyard)):Qv P w K mg base "yard_told" ["rows"] 8 (Qy (K:=K) R_yardtold):=by
 refine ta.ev Sa (λf Y r h H H2 X A outer s B=>?_);cases h with
 |@mk y u q=>
  refine⟨_,(Qz (JO (i:=1) Sa.nd rfl rfl (NX:=["rows","lines","yard"]) (sc:=Q5 Ho) (N:=Zap) (f:=[none]) rfl (by decide +kernel) rfl rfl (ZN<|pv 0) (λ_=>(QK 0 (show(Zap:Qh).Nodup by decide +kernel))) (λ_=>Zm) (λ_=>(Ut<|V4<|Q3 O B<|av 0 Qq)) (λ_=>(Q3 D B<|av 0 Qq)) rfl)
 (Qz (QM 2 Sa.nd<|Z1<|Qu (VB Np (by rfl) T.int GO<|Qu (Q8 QA (Q8 QA (pv 0) Qw) Qw) Qq)<|Qu (VB WS (by rfl) T.tuple Wn<|av 1 Qq) Qq)
 (Qz (Zv (Yu<|V4<|Q3 C B<|av 2 Qq) (Q0 Bd) Zx)
 (Q0<|QH<|pv 2)))),?_⟩
  show QC K _ [_,_,_] _
  walk_at"x";have Z:=Rk y u;have k:=q.ok.l5;have e:=q.n8;refine Q9 (Vt (EvO.cast (JG (xs:=ZM y u) (enc:=Row.d) (h:=Row.ln) (p:=Row.isL) ?ei (by omega) ?el)<|XS OT.ol<|ZpB y u) ?_)
  case ei=>exact Va (Qp rfl)
  case el=>
   intro r v c;have R:=q.rows r v;refine⟨_,Zd,ZL<|QJ (Qs (Qp rfl) Q2)<|R_islinerow.mk R,λW=>?_⟩;cases r with
   |y n=>cases W
   |g a=>cases W
   |l a=>exact QJ (Qs (Qp rfl) Q2) (R_linetold.mk R)
  walk_at"d";have m:=Gp q.ok.t8;refine Q9 (Z9 (d:=QL y) (Vd (ds:=[.int (y.T:Int),.tuple<|y.ls.map Zc]) (Za (Nl (x:=nS (y.T:Int)) (Ve (ds:=(Row.y y.T).ws) (Ve (ds:=(ZM y u).map Row.d) (d:=(Row.y y.T).d) (Qp rfl) QG<|V5 (j:=0) rfl) QG rfl) (KN m.lo m.b)<|Xx (DK m)<|by decide)<|Za (KJ rfl) Z2)<|G0 rfl) ?_);walk_at"d";refine Q9 (Zz (b:=false) (Yb (b:=true)<|ZL<|QJ (Qs (Qp rfl) Q2)<|R_isyard.mk ⟨q.ok,q.y30⟩) (by rintro⟨⟩) λ_=>Z3 ?_);exact Zh (Qp rfl) rfl
inductive R_gueststold:List OT->OT->Prop
 |mk {y:Yd}{gs:List Gs}(T:TxtOk y gs):R_gueststold [.fz<|Ud y gs,.fz<|QL y] (.ol<|gs.map QB)
def CZ:Qo Zbr ["rows","yard"] (Q5 MC):=by walk_at"p"
def ZkE(T:Bl mg)(ta:Df K mg "guests_told" MC ["rows","yard"])(O:Qv P w K mg base "is_guest_row" Zap 3 (Qy (K:=K) R_isguestrow))(R:Qv P w K mg base "numbers_of" Zap 1 (Qy (K:=K) R_numsof))(D:Qv P w K mg base "is_guest" Zbo 4 (Qy (K:=K) R_isguest)):Qv P w K mg base "guests_told" ["rows","yard"] 5 (Qy (K:=K) R_gueststold):=by
 refine ta.ev CZ (λf ts r h H H2 X A outer s B=>?_);cases h with
 |@mk y q m=>
  refine⟨_,(Qz (JO (i:=2) CZ.nd rfl rfl (NX:=Zbr) (sc:=Q5 MC) (N:=Zap) (f:=[none]) rfl (by decide +kernel) rfl rfl (ZN<|pv 0) (λ_=>(QK 0 (show(Zap:Qh).Nodup by decide +kernel))) (λ_=>Zm) (λ_=>(Ut<|V4<|Q3 O B<|av 0 Qq)) (λ_=>(Q3 R B<|Qu (Bc D7 (pv 0) (Ba Qw) GY) Qq)) rfl)
 (Qz (Zv (Z7 Yq (QW ZU (by rfl) T.len ZT<|av 2 Qq) Qw<|Zp _) (Q0 Bd) Zx)
 (Qz (Zv (Yu<|V4<|QW BY (by rfl) T.all Mh<|Qu (ZD (NX:=Zbr) (sc:=Q5 MC) (N:=["guest","yard"]) (f:=[none,some 1]) rfl (by decide +kernel) rfl rfl (ZN<|pv 2) (λ_=>(QK 0 (show(["guest","yard"]:Qh).Nodup by decide +kernel))) (λ_=>Zm) (λ_=>ZC) λ_=>(Q3 D B<|av 1<|av 0 Qq)) Qq) (Q0 Bd) Zx)
 (Q0<|QH<|pv 2)))),?_⟩
  show QC K _ [_,_,_] _
  walk_at"x";have Y:=Rk y q;have d:=m.ok.l5;have Z:=m.n8;refine Q9 (Vt (EvO.cast (JG (xs:=ZM y q) (enc:=Row.d) (h:=Row.gu) (p:=Row.isG) ?ei (by omega) ?el)<|XS OT.ol<|Zn8 y q) ?_)
  case ei=>exact Va (Qp rfl)
  case el=>
   intro r v c;have u:=m.rows r v;refine⟨_,Zd,ZL<|QJ (Qs (Qp rfl) Q2)<|R_isguestrow.mk u,λW=>?_⟩;cases r with
   |y n=>cases W
   |l a=>cases W
   |g a=>
    have u:Gs30 a:=u;exact QJ (ts:=[.fz<|.list<|YQ<|gsI a]) (Qs (Qr.cast (EvO.fz<|BQ (ds:=(Row.g a).ws) (Qp rfl) (Gi QG) Ge)<|by rw[show(Row.g a).ws=.str "guest" :: YQ (gsI a) from rfl,A4]) Q2) (R_numsof.mk u.n<|by simp[gsI])
  walk_at"d";refine Q9 (Zz (b:=false) (Zf.cast (ZE<|VA (KG rfl) QG)<|by rw[Xi];exact Xo<|by omega) (by rintro⟨⟩) λ_=>Z3 ?_);refine Q9 (Zz (b:=false) (Yb (b:=true)<|NS 2 rfl rfl (Zf.cast (ZL<|Mc (bs:=q.map λ_=>true) (Qr.cast (EvO.fz<|ZI (xs:=q) (enc:=QB) (h:=λ_=>.bool true) ?ei2 (by omega) ?el2)<|by rw[Xm];rfl) rfl)<|by simp)) (by rintro⟨⟩) λ_=>Z3 ?_)
  case ei2=>exact Va (Qp rfl)
  case el2=>
   intro g C c;refine⟨_,Zd,?_⟩;exact QJ (Qs (Qp rfl)<|Qs (Qp rfl) Q2) (R_isguest.mk (m.hg g C) (m.g30 g C).1 (m.g30 g C).2)
  exact Du rfl rfl
inductive R_read:List OT->OT->Prop
 |mk {y:Yd}{gs:List Gs}(T:TxtOk y gs):R_read [.fz<|.str<|U0 y gs] (.fz<|.tuple [QL y,.list<|gs.map QB])
def Nk:Qo ["text","rows","yard"] ["text"] (Q5 Nb):=by walk_at"p"
def Ib(T:Bl mg)(ta:Df K mg "read" Nb ["text"])(p:Qv P w K mg base "rows_of" ["text"] 5 (Qy (K:=K) R_rowsof))(m:Qv P w K mg base "yard_told" ["rows"] 8 (Qy (K:=K) R_yardtold))(i:Qv P w K mg base "guests_told" ["rows","yard"] 5 (Qy (K:=K) R_gueststold)):Qv P w K mg base "read" ["text"] 9 (Qy (K:=K) R_read):=by
 refine ta.ev Nk (λf B r h H H2 v A outer s a=>?_);cases h with
 |@mk y u q=>
  refine⟨_,(Qz (QM 1 Nk.nd<|Q3 p a<|av 0 Qq)
 (Qz (QM 2 Nk.nd<|Q3 m a<|av 1 Qq)
 (Q0<|QH<|Z1<|av 2<|Qu (Q3 i a<|av 1<|av 2 Qq) Qq))),?_⟩
  show QC K _ [_,_,_] _
  walk_at"x";refine Q9 (Z9 (QJ (Qs (Qp rfl) Q2)<|R_rowsof.mk q) ?_);walk_at"d";refine Q9 (Z9 (QJ (Qs (Qp rfl) Q2)<|R_yardtold.mk q) ?_);walk_at"d";exact Zh (Vd (ds:=[QL y,.list<|u.map QB]) (Za (Qp rfl)<|Za (EvO.fz<|GT (Qs (Qp rfl)<|Qs (Qp rfl) Q2)<|R_gueststold.mk q) Z2) YM) rfl
theorem LO{k:Nat}:∀{n:Nat},k<n->(List.range n).filter (λi=>decide (i=k))=[k]
 |0,h=>by lia
 |n+1,h=>by
  rw[Wc,JU];by_cases c:k=n
  .subst c;have:(List.range k).filter (λi=>decide (i=k))=[]:=MM.mpr λi a=>by have:=Xw.mp a;simp;lia
   rw[this];simp
  .rw[LO (show k<n by lia)];simp[Ne.symm c]
theorem Cj(g:Qn):∀n,VD g n 0<=0
 |0=>UF _
 |n+1=>by
  have:=Cj g n;show VD g n 0+min (g n) 0<=0
  lia
def Z0k{y:Yd}(f:y.Ok)(m:∀g∈gs,g.Ok y)(h:∀S,ZB (Z4 y 0) (Q4 gs) S<=0):gs=[]:=by
 cases gs with
 |nil=>rfl
 |cons g r=>
  have a:=h λi=>decide (i=0);have e:Zb (g::r) (λi=>decide (i=0))=[0]:=LO (by simp);rw[NZ f,e]at a;have b:=Cj (ZA y (g::r) [0]) y.T;have w:Vg (g::r) [0]=g.want:=by simp[Vg]
  have p:=(m g Xb).w1;lia
inductive R_pkr:List OT->OT->Prop
 |mk {y:Yd}{gs:List Gs}{H1:Int}(ok:y.Ok)(hg:∀g∈gs,g.Ok y)(g8:gs.length<=8)(h1:∀S,ZB y (Q4 gs) S<=H1)(h2:∃S,ZB y (Q4 gs) S=H1):R_pkr [.fz<|QL y,.fz<|.list<|gs.map QB,.fz<|.int H1] (.fz<|.bool true)
def Gy:Qo ["_law_yard_here","_law_guests_here","_law_lack","_law_found","_law_p","_law_filling","_law_some"] Zaf (Q5 SD):=by walk_at"p"
def Ew(T:Bl mg)(M:XC K mg "NoRoom" YR CR fR)(ta:Df K mg "_law_peak_right" SD Zaf)(x:UK P w K mg base "least_peak" Zaa 8 (spX K CR "some" R_lpeak X_refuse))(o:Qv P w K mg base "_law_is_full" Zab 3 (Qy (K:=K) R_full))(E:Qv P w K mg base "_law_short" Zam 2 (Qy (K:=K) R_lsht))(R:Qv P w K mg base "_law_lowered" ZaO 1 (Qy (K:=K) R_llowered)):Qv P w K mg base "_law_peak_right" Zaf 9 (Qy (K:=K) R_pkr):=by
 refine ta.ev Gy (λf ts r h H H2 cdv A outer s C=>?_);have hu:=C.units;refine⟨_,(Qz (QM 3 Gy.nd Gf)
 (Qz (ZtT M.cl rfl rfl rfl M.m (λta pn=>(Q0<|QM 3 Gy.nd<|ID x C ZrA<|av 0<|av 1 Qq)) λe pn=>(Q0<|QM 3 Gy.nd Gf))
 (Qz (Zv (PW.pt<|WB (Jg<|GS<|pv 3)<|Jo<|Z7 Yq (pv 2) Qw<|Zp _) (Q0<|QH<|Ys (Dp<|GS<|pv 3)<|Y4<|Y7 Yq (pv 2) Qw<|Zp _) Zx)
 (Qz (Jj (pv 3)<|VM (n:=3) rfl (Zt (QK 4 Gy.nd)<|Zt (QK 5 Gy.nd)<|Zt (QK 6 Gy.nd) VU))
 (Qz (Zv (Yu<|V4<|Q3 o C<|Qu (Q3 R C<|av 0<|av 4 Qq)<|av 1<|av 5 Qq) (Q0<|QH Y2) Zx)
 (Qz (Zv (Z7 Y3 (pv 4) Qw<|Zp _) (Q0<|QH<|Y7 (Tv hu) (pv 1) (Vo Qq)<|Zp _) Zx)
 (Q0<|QH<|Y7 Yq (Q3 E C<|Qu (Q3 R C<|av 0<|Qu (QN Wj (pv 4) Qw) Qq)<|av 1<|av 6 Qq) Qw<|Zp _))))))),?_⟩
 cases h with
 |@mk y m H1 v O Z h1 h2=>
  walk_at"x";refine Q9 (Z9 (d:=.none) GN ?_);walk_at"d"
  by_cases h:0<H1
  .obtain⟨S,X⟩:=h2;refine Q9 (ZtL (u:=λte=>Ww te<|WH 3) (Qs Qp<|Qs Qp Q2) (X_refuse.mk v O Z (show 0<ZB y (Q4 m) S by lia)) (λ_ _ _ _ q=>q _)<|Z9 (d:=.none) GN ?_);walk_at"d";refine Q9 (Zz (b:=true) (YS (b:=true) (c:=true) (ZL<|J8 (a:=.none) Qp)<|by rintro⟨⟩) (λ_=>?_)<|by rintro⟨⟩);refine Zh (Qr.cast (VL (b:=true) (J8 (a:=.none) Qp) λ_=>VA Qp QG) ?_) rfl;rw[XJ h];rfl
  .have X:∀S,ZB y (Q4 m) S<=0:=λS=>U8 (h1 S) (by lia)
   refine Q9 (Oc λU=>Yx (ZrU (Qs Qp<|Qs Qp Q2)<|R_lpeak.mk v O Z X) λr l=>?_);obtain⟨p,j,F,W,full,rfl⟩:=l;have nn:=W.pk.nn;have B:=Gg v nn;have N:∀g∈m,g.Ok (Z4 y p):=λg h=>Dn v (O g h) p;have G:∀g∈m,GOk (Z4 y p) g:=λg h=>Md (N g h);have J:=Rj B G full.1;have L:∀i,i<m.length->Qx ((λk t=>Zq (Q4 m) j t k) i) (Z4 y p).T=(gAt m i).want:=OS B G full W.pk.all;have I:=N8 (Z4 y p) (Q4 m) j;have em:(Q4 m).m=m.length:=rfl;rw[em]at I;unfold llP;rw[I];generalize (λk t=>Zq (Q4 m) j t k)=tk at J L;generalize hF:(Vw m.length (Z4 y p).T tk).map PyData.list=Q;walk_at"d"
   refine Q9 (Zz (b:=false) (YS (b:=false) (c:=false) (ZL<|J8 (a:=.tuple [.int p,.list Q,.list<|QO F]) Qp) λ_=>Zf.cast (ZE<|VA Qp QG)<|Xo h) nf λ_=>Z3 ?_);refine Q9 (Dd Qp (YO (ds:=[.int p,.list Q,.list<|QO F]) (ZZ Zd<|ZZ Zd<|ZZ Zd Wl) rfl) ?_);walk_at"d";have D:∀{Y:ZcP} {te:TE} {q:Int} {U:XK},Y[0]?=some (zf<|QL y)->Qr K te Y (.int q)->Qr K (YC (Qy (K:=K) R_llowered) [] U<|QX (QY 0)<|QX te Zo) Y (QL<|Z4 y q):=λa b=>QJ (Qs (Qp a)<|Qs b Q2) (R_llowered.mk v);refine Q9 (Zz (b:=false) (Yb (b:=true)<|ZL<|QJ (Qs (D rfl Qp)<|Qs Qp<|Qs Qp Q2) ?full) nf λ_=>Z3 ?_)
   case full=>
    rw[<- hF];exact R_full.mk B N Z J L
   by_cases z:p=0
   .subst z;obtain rfl:=Z0k v O W.pk.all;refine Q9 (Zz (b:=true) (Zf.cast (ZE<|WK Qp QG)<|by simp) (λ_=>?_)<|by rintro⟨⟩);exact Zh (K4 (a:=.list []) (b:=.list []) Qp (EvO.fz<|Ya (ds:=[]) Z2<|by decide) DR DR) rfl
   .refine Q9 (Zz (b:=false) (Zf.cast (ZE<|WK Qp QG)<|by simp[z]) nf λ_=>Z3 ?_);obtain⟨S,e,X⟩:=W.set (by lia);subst e;refine Zh (Qr.cast (VA (QJ (Qs (D rfl (YE Qp QG))<|Qs Qp<|Qs Qp Q2)<|R_lsht.mk (Gg v (show 0<=p-1 by lia)) (λg h=>Dn v (O g h)<|p-1)<|Gn Z S) QG) ?_) rfl;rw[Ju]at X;rw[XJ<|by lia]
def OD{y:Yd}(h:Sml y gs)(s:Lev y gs [] 0 1 b)(a:∀S,ZB y (Q4 gs) S<=0)(m:i<gs.length):(frL b i).t=(frL b i).b:=by
 cases s with
 |nil u=>exact Xr (u i m) (by simp)
 |@cons _ _ _ f T b N r=>
  have e:f.t=f.b:=by
   refine Decidable.byContradiction λc=>?_;have q:f.t<f.b:=Nat.lt_of_le_of_ne N.le c;have p:=N.tight q;have C:=a (Q7 T);rw[Ju]at C;have P:Vg gs (Zb gs<|Q7 T)=wS gs.length (QD gs) (Q7 T):=Gq (QD gs) _ _;have D:=NdS.pos h N.nd N.ne
   have B:Z8 y gs [] T=ZO y gs (Zb gs<|Q7 T):=by
    unfold Z8;have A:Zg y gs (λk=>Q7 [] k||Q7 T k)=Zg y gs (Q7 T):=h.giv.ext _ _ λk _=>rfl;have w:Zg y gs (Q7 [])=0:=h.giv.g0 _ λk _=>rfl;rw[A,w,Int.sub_zero];rfl
   rw[B]at p;have O:(f.b:Int)*wS gs.length (QD gs) (Q7 T)<=(f.b:Int)*ZO y gs (Zb gs<|Q7 T):=XQ (by lia) (by lia);have K:(f.t:Int)*wS gs.length (QD gs) (Q7 T)<(f.b:Int)*wS gs.length (QD gs) (Q7 T):=Int.mul_lt_mul_of_pos_right (by lia) (by lia);lia
  have v:T=List.range gs.length:=by
   rw[N.all e];exact B6.mpr λk _=>rfl
  unfold frL;rw[Xf<|by rw[v];exact Xw.mpr m];exact e
def Rh(a:i<gs.length):gAt (gs.map λg=>Vm g k) i=Vm (gAt gs i) k:=by
 simp[gAt,List.getD,a]
theorem Zp6{y:Yd}{f:Nat->Qn}(h:FillOk y gs k f):FillOk (Zi y k) (gs.map λg=>Vm g k) 1 f where
 sum:=λi hi=>by
  rw[Xi]at hi;rw[Rh hi,Ws];exact h.sum i hi
 item:=λi t hi a=>by
  rw[Xi]at hi;rw[Rh hi,Ws];exact h.item i t hi a
 load:=λl t m a=>by
  rw[NO,Ws];refine U8 (Int.le_of_eq ?_) (h.load l t (by simpa [Zi] using m) a);unfold Vi;rw[Xi];refine Zk λi hi=>?_;dsimp only;rw[Ms (p:=l∈upL (Zi y k) (gAt (gs.map λg=>Vm g k) i).line) (q:=l∈upL y (gAt gs i).line)<|by rw[Rh hi,Cf];exact Iff.rfl]
def NA{a:Int}(a1:a<10^30)(k0:1<=k)(k1:k<10^260):a*k<10^300:=by
 have h:a*k<=10^30*k:=XV (by lia) (by lia);have f:(10:Int)^30*k<=10^30*10^260:=XQ (by lia) (by decide +kernel);exact X8 (U8 h f) (by decide +kernel)
def ZrT{y:Yd}(h:Sml y gs)(k1:1<=k)(k2:k<10^260):(Zi y k).Ok/\∀g∈gs.map λg=>Vm g k,g.Ok (Zi y k):=by
 refine⟨RO h.ok (by lia) λl i b q=>NA (h.b30 l i b q) k1 k2,λg p=>?_⟩;obtain⟨x,f,rfl⟩:=Xk.mp p;obtain⟨w,v,u,s,_,r,_⟩:=h.hg x f;have m:∀{a:Int},1<=a->1<=a*k:=λ{a} h=>U8 (show(1:Int)<=1*1 by decide) (Int.mul_le_mul h k1 (by decide)<|by lia)
 exact⟨by simpa [Zi,Vm] using w,v,u,m s,NA (h.w30 x f).1 k1 k2,m r,NA (h.w30 x f).2 k1 k2⟩
inductive R_frr:List OT->OT->Prop
 |mk {y:Yd}{gs:List Gs}{H1:Int}(h:Sml y gs)(h1:∀S,ZB y (Q4 gs) S<=H1):R_frr [.fz<|QL y,.fz<|.list<|gs.map QB,.fz<|.int H1] (.fz<|.bool true)
def MF:Qo Zac Zaf (Q5 Gr):=by walk_at"p"
def Ev(T:Bl mg)(ta:Df K mg "_law_fair_right" Gr Zaf)(Z:Qv P w K mg base "fairest" Zaa 11 (Z6 K R_fairest))(j:Qv P w K mg base "_law_fault" Zab 2 (Qy (K:=K) R_lfault)):Qv P w K mg base "_law_fair_right" Zaf 12 (Qy (K:=K) R_frr):=by
 refine ta.ev MF (λf ts r h H H2 cdv A outer s R=>?_);have J:=R.units;refine⟨_,(Qz (Jj (Q3 Z R<|av 0<|av 1 Qq)<|VM (n:=2) rfl (Zt (QK 3 MF.nd)<|Zt (QK 4 MF.nd) VU))
 (Qz (QM 5 MF.nd<|VB WS (by rfl) T.tuple Wn<|Qu (ZD (NX:=Zac) (sc:=Q5 Gr) (N:=ZaB) (f:=[none,none,some 3]) rfl (by decide +kernel) rfl rfl (WI<|Q8 QA (pv 0) Qw) (λ_=>(VM (n:=2) rfl (Zt (QK 0 (show(ZaB:Qh).Nodup by decide +kernel))<|Zt (QK 1 (show(ZaB:Qh).Nodup by decide +kernel)) VU))) (λ_=>(UZ (n:=2)<|Yw Zm<|Yw Zm Gh)) (λ_=>ZC) λ_=>(Z1<|av 0<|Qu (VB WS (by rfl) T.tuple Wn<|Qu (ZD (NX:=ZaB) (sc:=({ kind:=.function,names:=[(".0",.local),("_law_above",.local),("_law_bounds",.local),("tuple",.globalImplicit),("_law_k",.cell)],isGenerator:=false,isCoroutine:=false }:Scope)) (N:=["_law_bound","_law_k"]) (f:=[none,some 2]) rfl (by decide +kernel) rfl rfl (WI<|pv 1) (λ_=>(QK 0 (show(["_law_bound","_law_k"]:Qh).Nodup by decide +kernel))) (λ_=>Zm) (λ_=>ZC) λ_=>(QN Jp (pv 0)<|pv 1)) Qq) Qq)) Qq)
 (Qz (JO (i:=6) MF.nd rfl rfl (NX:=Zac) (sc:=Q5 Gr) (N:=Zad) (f:=[none,none,none,none,none,some 3]) rfl (by decide +kernel) rfl rfl (ZN<|pv 1) (λ_=>(VM (n:=5) rfl (Zt (QK 0 (show(Zad:Qh).Nodup by decide +kernel))<|Zt (QK 1 (show(Zad:Qh).Nodup by decide +kernel))<|Zt (QK 2 (show(Zad:Qh).Nodup by decide +kernel))<|Zt (QK 3 (show(Zad:Qh).Nodup by decide +kernel))<|Zt (QK 4 (show(Zad:Qh).Nodup by decide +kernel)) VU))) (λ_=>(UZ (n:=5)<|Yw Zm<|Yw Zm<|Yw Zm<|Yw Zm<|Yw Zm Gh)) (λ_=>ZC) (λ_=>(Z1<|av 0<|av 1<|av 2<|Qu (QN Jp (pv 3)<|pv 5)<|Qu (QN Jp (pv 4)<|pv 5) Qq)) rfl)
 (Qz (Zv (Jg<|DF<|Q3 j R<|Qu (Z1<|Qu (Q8 QA (pv 0) Qw)<|av 5 Qq)<|av 6<|av 4 Qq) (Q0<|QH Y2) Zx)
 (Q0<|QH<|Kn (Y7 Yq (pv 2) Qw<|Zp _)<|Y4<|Y7 (Tv J) (ZD (NX:=Zac) (sc:=Q5 Gr) (N:=["_law_row"]) (f:=[none]) rfl (by decide +kernel) rfl rfl (ZN<|pv 4) (λ_=>(QK 0 (show(["_law_row"]:Qh).Nodup by decide +kernel))) (λ_=>Zm) (λ_=>ZC) λ_=>(QW YX (by rfl) T.sum YY<|av 0 Qq)) (ZD (NX:=Zac) (sc:=Q5 Gr) (N:=["_law_guest"]) (f:=[none]) rfl (by decide +kernel) rfl rfl (ZN<|pv 6) (λ_=>(QK 0 (show(["_law_guest"]:Qh).Nodup by decide +kernel))) (λ_=>Zm) (λ_=>ZC) λ_=>(Q8 QA (pv 0) Qw))<|Zp _))))),?_⟩
 cases h with
 |@mk y u H1 h M=>
  walk_at"x";have Q:=h.g8;have l5:=h.ok.l5;refine Q9 (IQ (V7 (Qs Qp<|Qs Qp Q2)<|R_fairest.mk h) λr O=>?_);obtain⟨v,k,f,lv,rfl,k1,k2,U,E,C⟩:=O;have k3:k<10^300:=Yh k2 (by decide +kernel);obtain⟨D,X⟩:=ZrT h k1 k2;have I:∀{a:Int},a<10^30->a<10^300:=λh=>Yh h (by decide +kernel);refine⟨v,_,_,rfl,_,YO (ds:=[.int k,.list<|(Vw u.length y.T f).map PyData.list]) (ZZ Zd<|ZZ Zd Wl) rfl,?_⟩
  walk_at"d";refine Q9 (Z9 (d:=.tuple ((Zi y k).ls.map Zc)) (Qr.cast (Uo<|EvO.fz<|ZI (xs:=y.ls) (enc:=Zc) (h:=λl=>Zc<|Jr l k) ?ei (by lia) ?el)<|by unfold Zi;rw[Xm];rfl) ?_)
  case ei=>exact Uj (Z5 (ds:=[.int (y.T:Int),.tuple<|y.ls.map Zc]) Qp QG rfl)
  case el=>
   intro l W c;refine⟨_,YO (ds:=[upD l.up,.tuple<|l.bs.map PyData.int]) (ZZ Zd<|ZZ Zd Wl) rfl,?_⟩;walk_at"e";have bl:=h.ok.bl l W;have G:=h.ok.t8;refine Qr.cast (Vd (ds:=[upD l.up,.tuple<|l.bs.map λb=>.int<|b*k]) (Za Qp<|Za (Uo<|EvO.fz<|ZI (xs:=l.bs) (enc:=PyData.int) (h:=λb=>.int<|b*k) ?ei2 (by lia) ?el2) Z2) YM) (by unfold Zc Jr;rw[Xm];rfl)
   case ei2=>exact Uj Qp
   case el2=>
    intro b z c;refine⟨_,Zd,?_⟩;exact V3 Qp Qp (Wk (h.ok.bb l W b z).1 (h.ok.bb l W b z).2 (by lia) k3)
  walk_at"d";refine Q9 (Vt (EvO.cast (ZI (xs:=u) (enc:=QB) (h:=λg=>QB<|Vm g k) ?ei3 (by lia) ?el3) (d':=.ol ((u.map λg=>Vm g k).map QB))<|by rw[Xm];rfl) ?_)
  case ei3=>exact Va Qp
  case el3=>
   intro g x c;have o:=h.hg g x;have w1:=o.w1;have m1:=o.m1;refine⟨_,YO (ds:=[.int (g.line:Int),.int (g.first:Int),.int (g.last:Int),.int g.want,.int g.most]) (ZZ Zd<|ZZ Zd<|ZZ Zd<|ZZ Zd<|ZZ Zd Wl) rfl,?_⟩;walk_at"e";exact Vd (Za Qp<|Za Qp<|Za Qp<|Za (V3 Qp Qp<|Wk (by lia) o.w2 (by lia) k3)<|Za (V3 Qp Qp<|Wk (by lia) o.m2 (by lia) k3) Z2) (by show(5:Nat)<=1000;decide)
  walk_at"d";refine VJ 6 rfl ?_;have fl:[OT.fz<|QL<|Zi y k,.fz<|.list<|(u.map λg=>Vm g k).map QB,.fz<|.list<|(Vw u.length y.T f).map PyData.list]=[.fz<|QL<|Zi y k,.fz<|.list<|(u.map λg=>Vm g k).map QB,.fz<|.list<|(Vw (u.map λg=>Vm g k).length (Zi y k).T f).map PyData.list]:=by rw[Xi];rfl
  have H0:R_lfault [.fz<|QL<|Zi y k,.fz<|.list<|(u.map λg=>Vm g k).map QB,.fz<|.list<|(Vw u.length y.T f).map PyData.list] (.fz .none):=by
   rw[fl];exact R_lfault.mk D X (by rw[Xi];exact Q) (Zp6 U)
  refine Q9 (Zz (b:=false) (ZL<|D0 (a:=.none)<|QJ (Qs (Vd (ds:=[.int (y.T:Int),.tuple<|(Zi y k).ls.map Zc]) (Za (Z5 (ds:=[.int (y.T:Int),.tuple<|y.ls.map Zc]) Qp QG rfl)<|Za Qp Z2) YM)<|Qs Qp<|Qs Qp Q2) H0) nf λ_=>Z3 ?_)
  by_cases c:0<H1
  .exact Zh (UO (b:=true) (c:=true) (Qr.cast (VA Qp QG)<|by rw[XJ c])<|by rintro⟨⟩) rfl
  .have L:∀S,ZB y (Q4 u) S<=0:=λS=>U8 (M S) (by lia)
   have G:=h.ok.t8;have F:∀i,i<u.length->Qx (f i) y.T=(gAt u i).want*k:=λi B=>by
    have e:=OD h E L B;have b:=C i B;have p:=(BL h E B).1.1;rw[e,<- Xu,XD k]at b;exact Int.eq_of_mul_eq_mul_right (by lia) b
   have Y:Wg (.list<|(u.map λg=>PyData.int<|g.want*k)):=(Nw (m:=0)<|Dm λg=>Ul _ _).fine (by decide);have e1:((List.range u.length).map λi=>PyData.int<|((List.range y.T).map (f i)).sum)=u.map λg=>PyData.int (g.want*k):=by
    apply HQ (by simp);intro i a b;have B:i<u.length:=by simpa using a
    have q:gAt u i=u[i]:=by simp[gAt,List.getD,B]
    simp only[List.getElem_map,List.getElem_range,Vk];rw[F i B,q]
   refine Zh (Qr.cast (UO (b:=false) (c:=true) (Qr.cast (VA Qp QG)<|by rw[Xo c]) λ_=>Qr.cast (K4 (a:=.list (u.map λg=>PyData.int<|g.want*k)) (b:=.list (u.map λg=>PyData.int<|g.want*k)) (Qr.cast (EvO.fz<|ZI (xs:=List.range u.length) (enc:=λi=>.list<|(List.range y.T).map λt=>PyData.int<|f i t) (h:=λi=>.int<|((List.range y.T).map (f i)).sum) ?ei4 (by simp;lia) ?el4)<|XS PyData.list e1) (EvO.fz<|ZI (xs:=u) (enc:=λg=>QB<|Vm g k) (h:=λg=>.int<|g.want*k) ?ei5 (by lia) ?el5) Y Y)<|by rw[LN Y]) rfl) rfl
   case ei4=>exact EvI.cast (Va Qp) (by unfold Vw;rw[Xm];rfl)
   case el4=>
    intro i B c;refine⟨_,Zd,?_⟩;walk_at"e";exact YV (ns:=(List.range y.T).map (f i)) (Qr.cast Qp<|by rw[Xm];rfl) rfl
   case ei5=>exact EvI.cast (Va Qp) (by rw[Xm];rfl)
   case el5=>
    intro g x c;refine⟨_,Zd,?_⟩;exact Z5 (ds:=[.int (g.line:Int),.int (g.first:Int),.int (g.last:Int),.int<|g.want*k,.int<|g.most*k]) Qp QG rfl
def O4(h:Qr K D Y d)(a:SOk d):Qr K (tCB Mi<|QX D Zo) Y (.str<|sD d):=by
 cases a with
 |int i f=>exact D6 h (Dq i f)
 |str _=>exact Ou h
def Zra(t:Str)(l:Ln):ZJ " " (t ++ "\nline " ++ sD (upT l.up)) (l.bs.map nS)=t ++ "\n" ++ VX l:=by
 have e:VX l=ZJ " " ("line" ++ " " ++ sD (upT l.up)) (l.bs.map nS):=by
  unfold VX J3 lnD;rw[Xz,Bj,Xm];rfl
 rw[e,<- Hf];have a:(Str.ofString "\nline ")=Str.ofString "\n" ++ (Str.ofString "line" ++ Str.ofString " "):=by decide +kernel
 rw[a];simp only[Str.append_assoc]
def ZoS(t:Str)(g:Gs):ZJ " " (t ++ "\nguest") ((gsD g).map sD)=t ++ "\n" ++ YW g:=by
 unfold YW J3;rw[<- Hf];have a:(Str.ofString "\nguest")=Str.ofString "\n" ++ Str.ofString "guest" := by decide +kernel
 rw[a];simp only[Str.append_assoc]
def Zs1(y:Yd):Str.ofString "yard " ++ nS (y.T:Int)=Yp y:=by
 have a:Str.ofString "yard "=Str.ofString "yard" ++ Str.ofString " " := by decide +kernel
 rw[a];rfl
def Fn{y:Yd}{a:Qh}(h:YdT y)(f:∀r∈a,r.length<=3100)(hn:a.length<=13):(ZJ "\n" (Yp y) a).length<=43500:=by
 have p:=Mz (sep := "\n") (B:=3100) a (Yp y) f;have m:=Ro h;have i:a.length*(Str.length "\n" + 3100)<=13*3101:=MG hn (by decide);lia
def Fk{t:Str}{xs:Qh}(f:t.length<=44000)(a:∀x∈xs,x.length<=300)(hn:xs.length<=8):(ZJ " " t xs).length<=47000:=by
 have i:=Mz (sep := " ") (B:=300) xs t a;have h:xs.length*(Str.length " " + 300)<=8*301:=MG hn (by decide);lia
def Uu{x z:Str}(f:x.length<=50000)(a:z.length<=5000):x.length+z.length<=sizeLine:=by
 rw[sizeLine_eq];lia
def DO{a:Type}{l:List a}{p:a->Prop}(h:∀x∈l,p x):∀x∈l.take i,p x:=λx f=>h x (Ke f)
def Mo{i a:Type}{l:List i}{f:i->a}{p:a->Prop}(h:∀x∈l,p<|f x):∀x∈l.map f,p x:=λx q=>by
 obtain⟨z,m,rfl⟩:=Xk.mp q;exact h z m
def Om{f:Type}{l m:List f}{p:f->Prop}(h:∀x∈l,p x)(i:∀x∈m,p x):∀x∈l++m,p x:=λx a=>by
 rcases XA.mp a with a|a
 .exact h x a
 .exact i x a
inductive R_ltext:List OT->OT->Prop
 |mk {y:Yd}{gs:List Gs}(hy:YdT y)(hg:∀g∈gs,GsT g)(hn:gs.length<=8):R_ltext [.fz<|QL y,.fz<|.list<|gs.map QB] (.fz<|.str<|U0 y gs)
def WT:Qo ["_law_yard_here","_law_guests_here","_law_text_here","_law_above","_law_bounds","_law_bound","_law_guest","_law_number_here"] Zao (Q5 Sf):=by walk_at"p"
def ZuE(T:Bl mg)(ta:Df K mg "_law_text" Sf Zao):Qv P w K mg base "_law_text" Zao 1 (Qy (K:=K) R_ltext):=by
 refine ta.ev WT (λf E r h H H2 z A outer s I=>?_);cases h with
 |@mk y q v o J=>
  refine⟨_,(Qz (QM 2 WT.nd<|QN Us Vu<|VB Ds (by rfl) T.str BV<|Qu (Q8 QA (pv 0) Qw) Qq)
 (Qz (ZV zN rfl (WI<|Q8 QA (pv 0) Qw) (VM (n:=2) rfl (Zt (QK 3 WT.nd)<|Zt (QK 4 WT.nd) VU)) (Qz (QM 2 WT.nd<|QN Us (QN Us (pv 2) Vu)<|Q8 QA (Vo<|Qu (VB Ds (by rfl) T.str BV<|av 3 Qq)<|Qu Vu Qq)<|VB ED (by rfl) T.int GO<|Qu (Dp<|GS<|pv 3) Qq)
 (Q0<|ZV zN rfl (WI<|pv 4) (QK 5 WT.nd)<|Q0<|QM 2 WT.nd<|QN Us (QN Us (pv 2) Vu)<|VB Ds (by rfl) T.str BV<|av 5 Qq)))
 (Qz (ZV zN rfl (ZN<|pv 1) (QK 6 WT.nd) (Qz (QM 2 WT.nd<|QN Us (pv 2) Vu)
 (Q0<|ZV zN rfl (WI<|pv 6) (QK 7 WT.nd)<|Q0<|QM 2 WT.nd<|QN Us (QN Us (pv 2) Vu)<|VB Ds (by rfl) T.str BV<|av 7 Qq)))
 (Q0<|QH<|pv 2)))),?_⟩
  show QC K _ [_,_,_,_,_,_,_,_] _
  walk_at"x";have F:=v.n;refine Q9 (Z9 (d:=.str (Yp y)) (Qr.cast (Ur Vh (D6 (i:=(y.T:Int)) (by walk_at"ev")<|Dq (by lia)<|U3 v.t)<|Uu (G0 rfl)<|Xx (Me (by lia)<|U3 v.t)<|by decide)<|XS PyData.str<|Zs1 y) ?_);walk_at"d";refine Q9 (V6 (ds:=y.ls.map Zc) (λi=>[zf<|QL y,zf<|.list<|q.map QB,zf<|.str<|ZJ "\n" (Yp y)<|(y.ls.take i).map VX,none,none,none,none,none]) ?ei ⟨rfl,rfl,rfl,trivial⟩ ?st ?fin)
  case ei=>walk_at"ei"
  case st=>
   intro i d p;have O:i<y.ls.length:=by
    have:=(Xh.mp p).1;simpa using this
   obtain rfl:d=Zc y.ls[i]:=by simpa [O] using p.symm
   have Z:=XL O;have D:y.ls.take (i+1)=y.ls.take i++[y.ls[i]]:=by rw[Y9];simp[O]
   have m:=v.ls _ Z;have c:(ZJ "\n" (Yp y)<|(y.ls.take i).map VX).length<=43500:=Fn v (Mo<|DO λl m=>Hb<|v.ls l m) (by simp;lia);rw[D,XB,Xz,UA,DV,<- Zra];generalize ZJ "\n" (Yp y) ((y.ls.take i).map VX)=t at c;generalize y.ls[i]=l at m;have G:(sD<|upT l.up).length<=300:=Di (m.ok _ Xb);refine⟨_,by walk_at"g",?_⟩;walk_at"d";refine Q9 (Z9 (d:=.str (t ++ "\nline " ++ sD (upT l.up))) (Ur (Ur (Qp rfl) Vh<|Uu (by lia)<|by decide) ?up<|Uu (by rw[Str.length_append];have:Str.length "\nline "=6:=rfl;lia)<|by lia) ?_)
   case up=>
    cases e:l.up with
    |none=>exact Ve (EvO.fz<|Ya (Za (Ij<|Qp rfl)<|Za Vh Z2)<|G0 rfl) (K8<|J8<|Qp rfl) rfl
    |some a=>exact Ve (EvO.fz<|Ya (Za (D6 (i:=(a:Int)) (Qp rfl)<|Dq (by lia)<|U3<|m.up a e)<|Za Vh Z2)<|G0 rfl) (K8<|J8<|Qp rfl) rfl
   walk_at"d";have u:(t ++ "\nline " ++ sD (upT l.up)).length<=44000:=by
    rw[Str.length_append,Str.length_append];have:Str.length "\nline "=6:=rfl;lia
   generalize t ++ "\nline " ++ sD (upT l.up)=N at u;refine V6 (ds:=l.bs.map PyData.int) (λj=>[zf<|QL y,zf<|.list<|q.map QB,zf<|.str<|ZJ " " N<|(l.bs.take j).map nS,none,none,none,none,none]) ?ei2 ⟨rfl,rfl,rfl,trivial⟩ ?st2 ?fin2
   case ei2=>walk_at"ei"
   case st2=>
    intro j d p;have X:j<l.bs.length:=by
     have:=(Xh.mp p).1;simpa using this
    obtain rfl:d=.int l.bs[j]:=by simpa [X] using p.symm
    have D:l.bs.take (j+1)=l.bs.take j++[l.bs[j]]:=by rw[Y9];simp[X]
    have B:=m.bs _ (XL X);have x:=m.ln;have W:(ZJ " " N<|(l.bs.take j).map nS).length<=47000:=Fk u (Mo<|DO λb B=>Me (m.bs b B).1 (m.bs b B).2) (by simp;lia);rw[D,XB,Xz,UA,DV];generalize ZJ " " N ((l.bs.take j).map nS)=Y at W;generalize l.bs[j]=b at B;refine⟨_,by walk_at"g",?_⟩;walk_at"d";refine Z9 (d:=.str (Y ++ " " ++ nS b)) (Ur (Ur (Qp rfl) Vh<|Uu (by lia)<|by decide) (D6 (Qp rfl)<|Dq B.1 B.2)<|Uu (by rw[Str.length_append];have:Str.length " "=1:=rfl;lia)<|Xx (Me B.1 B.2)<|by decide) ?_;walk_at"d";exact⟨rfl,rfl,rfl,trivial⟩
   case fin2=>
    intro C R;refine R.trans ?_;rw[Xi,XX];exact⟨rfl,rfl,rfl,trivial⟩
  case fin=>
   intro C R;refine Yf R ?_;rw[Xi,XX];refine Q9 (V6 (ds:=q.map QB) (λi=>[zf<|QL y,zf<|.list<|q.map QB,zf<|.str<|ZJ "\n" (Yp y)<|y.ls.map VX++(q.take i).map YW,none,none,none,none,none]) ?ei3 ⟨rfl,rfl,by simp,trivial⟩ ?st3 ?fin3)
   case ei3=>walk_at"ei"
   case st3=>
    intro i d p;have O:i<q.length:=by
     have:=(Xh.mp p).1;simpa using this
    obtain rfl:d=QB q[i]:=by simpa [O] using p.symm
    have Z:=XL O;have D:q.take (i+1)=q.take i++[q[i]]:=by rw[Y9];simp[O]
    have m:=o _ Z;have c:(ZJ "\n" (Yp y)<|y.ls.map VX++(q.take i).map YW).length<=43500:=Fn v (Om (Mo λl m=>Hb<|v.ls l m)<|Mo<|DO λl m=>R5<|o l m) (by simp;lia);rw[D,XB,Xz,UA,<- JT,DV,<- ZoS];generalize ZJ "\n" (Yp y) (y.ls.map VX++(q.take i).map YW)=t at c;generalize q[i]=g at m;refine⟨_,by walk_at"g",?_⟩;walk_at"d";refine Q9 (Z9 (d:=.str (t ++ "\nguest")) (Ur (Qp rfl) Vh<|Uu (by lia)<|by decide) ?_);walk_at"d";have u:(t ++ "\nguest").length<=44000:=by
     rw[Str.length_append];have:Str.length "\nguest"=6:=rfl;lia
    generalize t ++ "\nguest"=N at u;refine V6 (ds:=gsD g) (λj=>[zf<|QL y,zf<|.list<|q.map QB,zf<|.str<|ZJ " " N<|((gsD g).take j).map sD,none,none,none,none,none]) ?ei4 ⟨rfl,rfl,rfl,trivial⟩ ?st4 ?fin4
    case ei4=>exact Uj (Qp rfl)
    case st4=>
     intro j d p;have X:j<(gsD g).length:=(Xh.mp p).1;have D:(gsD g).take (j+1)=(gsD g).take j++[d]:=by rw[Y9,p];rfl
     have k:=m.ok d (List.mem_of_getElem? p);have W:(ZJ " " N<|((gsD g).take j).map sD).length<=47000:=Fk u (Mo<|DO λd p=>Di<|m.ok d p) (by simp[gsD];lia);rw[D,XB,Xz,UA,DV];generalize ZJ " " N (((gsD g).take j).map sD)=Y at W;refine⟨_,by walk_at"g",?_⟩;walk_at"d";refine Z9 (d:=.str (Y ++ " " ++ sD d)) (Ur (Ur (Qp rfl) Vh<|Uu (by lia)<|by decide) (O4 (Qp rfl) k)<|Uu (by rw[Str.length_append];have:Str.length " "=1:=rfl;lia)<|Xx (Di k)<|by decide) ?_;walk_at"d";exact⟨rfl,rfl,rfl,trivial⟩
    case fin4=>
     intro C R;refine R.trans ?_;rw[XX];exact⟨rfl,rfl,rfl,trivial⟩
   case fin3=>
    intro C R;refine Yf R ?_;rw[Xi,XX];walk_at"ret";rfl
def ZrE(y:Yd)(gs:List Gs):Wg (.tuple [QL y,.list<|gs.map QB]):=(Be (m:=4)<|WL (Z06 y)<|WL ((EG gs).mono (by decide)) BU).fine (by decide)
def AN{y:Yd}(h:∀l∈y.ls,∀b∈l.bs,b<10^30)(w:Int):∀l∈(wdY w y).ls,∀b∈l.bs,b<10^30:=λl i b a=>by
 obtain⟨x,f,rfl⟩:=Xk.mp i;unfold YL at a;split at a
 .have e:=List.eq_of_mem_replicate a;rw[e];decide +kernel
 .exact h x f b a
theorem FN(f g:Qn):∀n,Qx f n-Qx g n=Qx (λk=>f k-g k) n
 |0=>rfl
 |n+1=>by
  have:=FN f g n;show Qx f n+f n-(Qx g n+g n)=Qx (λk=>f k-g k) n+(f n-g n)
  lia
def Uk:Qo Zag ZaW (Q5 WC):=by walk_at"p"
def Em  (T:Bl mg)(F:Fun K "law" "law" WC f fd)(U:Qv P w K mg base "_law_yard" ZaW 3 (Qy (K:=K) R_yard))(Q:Qv P w K mg base "_law_wide" Zaq 2 (Qy (K:=K) R_wide))(M:Qv P w K mg base "_law_guests" Zaq 3 (Qy (K:=K) R_guests))
(L:Qv P w K mg base "_law_text" Zao 1 (Qy (K:=K) R_ltext))(Xc0:Qv P w K mg base "read" ["text"] 9 (Qy (K:=K) R_read))(XbC:Qv P w K mg base "best_filling" Zaa 6 (Z6 K R_great))(Xbz:Qv P w K mg base "lacking_set" Zaa 6 (Z6 K R_lset))(Xc1:Qv P w K mg base "least_lack" Zaa 7 (Z6 K R_least))
(XbK:Qv P w K mg base "_law_fault" Zab 2 (Qy (K:=K) R_lfault))(XbL:Qv P w K mg base "_law_short" Zam 2 (Qy (K:=K) R_lsht))(Xc2:Qv P w K mg base "_law_greatest" Zao 3 (Qy (K:=K) R_grt))(Xc3:Qv P w K mg base "_law_peak_right" Zaf 9 (Qy (K:=K) R_pkr))(Xc4:Qv P w K mg base "_law_fair_right" Zaf 12 (Qy (K:=K) R_frr)):
 FnOk P w K mg base CX0 13 f fd ZaW (Dy K):=by
 refine F.evLaw Uk (λns hl hb H H2 cdv A outer s u=>?_);have hs:ScrOk ns:=⟨hl,hb⟩;have hu:=u.units;refine⟨_,(Qz (QM 1 Uk.nd<|Q3 Q u<|av 0<|Qu (Q3 U u<|av 0 Qq) Qq)
 (Qz (QM 2 Uk.nd<|Q3 M u<|av 0<|av 1 Qq)
 (Qz (Jj (Q3 Xc0 u<|Qu (Q3 L u<|av 1<|av 2 Qq) Qq)<|VM (n:=2) rfl (Zt (QK 3 Uk.nd)<|Zt (QK 4 Uk.nd) VU))
 (Qz (Zv (Z7 (PX hu) (Z1<|av 3<|av 4 Qq) (Z1<|av 1<|av 2 Qq)<|Zp _) (Q0<|QH Y2) Zx)
 (Qz (QM 5 Uk.nd<|Q3 XbC u<|av 3<|av 4 Qq)
 (Qz (Zv (Jg<|DF<|Q3 XbK u<|av 1<|av 2<|av 5 Qq) (Q0<|QH Y2) Zx)
 (Qz (QM 6 Uk.nd<|QN Wj (QW YX (by rfl) T.sum YY<|Qu (ZD (NX:=Zag) (sc:=Q5 WC) (N:=["_law_guest"]) (f:=[none]) rfl (by decide +kernel) rfl rfl (ZN<|pv 2) (λ_=>(QK 0 (show(["_law_guest"]:Qh).Nodup by decide +kernel))) (λ_=>Zm) (λ_=>ZC) λ_=>(Q8 QA (pv 0) Qw)) Qq)<|QW YX (by rfl) T.sum YY<|Qu (ZD (NX:=Zag) (sc:=Q5 WC) (N:=["_law_row"]) (f:=[none]) rfl (by decide +kernel) rfl rfl (ZN<|pv 5) (λ_=>(QK 0 (show(["_law_row"]:Qh).Nodup by decide +kernel))) (λ_=>Zm) (λ_=>ZC) λ_=>(QW YX (by rfl) T.sum YY<|av 0 Qq)) Qq)
 (Qz (QM 7 Uk.nd<|Q3 Xbz u<|av 3<|av 4 Qq)
 (Qz (Zv (PW.pt<|WB (Z7 Jb (Q3 Xc1 u<|av 3<|av 4 Qq) (pv 6)<|Zp _)<|Jo<|Z7 Jb (Q3 XbL u<|av 1<|av 2<|av 7 Qq) (pv 6)<|Zp _) (Q0<|QH Y2) Zx)
 (Qz (Zv (PW.pt<|WB (Z7 Jb (Q3 Xc2 u<|av 1<|av 2 Qq) (pv 6)<|Zp _)<|Jo<|Yu<|V4<|Q3 Xc3 u<|av 1<|av 2<|av 6 Qq) (Q0<|QH Y2) Zx)
 (Q0<|QH<|Q3 Xc4 u<|av 1<|av 2<|av 6 Qq))))))))))),?_⟩
 walk_at"x";refine Q9 (Z9 (QJ (BS rfl (Qs (QJ (BS rfl Q2)<|R_yard.mk hs) Q2))<|R_wide.mk<|FQ ns) ?_);walk_at"d";have p:=AV (FQ ns) (GF ns);have O:=AN (Zqq ns) (GF ns);generalize wdY (GF ns) (W0 ns)=y at p O;have C:=ZnB p ns;have W:=Znm p ns;have B:=Zl6 ns y;refine Q9 (Vt (GT (BS rfl (Qs Qp Q2))<|R_guests.mk hs p) ?_);walk_at"d";generalize U1 ns y=m at C B W;have X:TxtOk y m:=⟨p,O,C,W,B⟩;have sm:Sml y m:=⟨p,C,B,O,W⟩;have D:∀g∈m,GOk y g:=λg h=>Md (C g h);have J:=ZrE y m;refine VJ 2 rfl ?_
 walk_at"d";refine Q9 (Dd (QJ (Qs (QJ (Qs Qp<|Qs Qp Q2)<|R_ltext.mk (GH p) (λg h=>MY p<|C g h) B) Q2)<|R_read.mk X) (YO (ds:=[QL y,.list<|m.map QB]) (ZZ Zd<|ZZ Zd Wl) rfl) ?_);walk_at"d";have tp:∀{Y:ZcP} {i j:Nat},Y[i]?=some (zf<|QL y)->Y[j]?=some (zf<|.list<|m.map QB)->Qr K (GB<|QX (QY i)<|QX (QY j) Zo) Y (.tuple [QL y,.list<|m.map QB]):=λa b=>Vd (Za (Qp a)<|Za (Qp b) Z2) YM;refine Q9 (Zz (b:=false) (Zf.cast (ZE<|K6 (tp rfl rfl) (tp rfl rfl) J J)<|by rw[LN J];rfl) nf λ_=>Z3 ?_);refine Q9 (Yx (V7 (Qs Qp<|Qs Qp Q2)<|R_great.mk p D B) λr R=>?_);obtain⟨Z,v,rfl⟩:=R;rw[N8];walk_at"d"
 refine Tb 5 rfl rfl ?_;have fo:=Rj p D v.1;have x:=Bk v.1 p (Y6 D);have I:∃S,ZB y (Q4 m) S=Vx y (Q4 m) Z:=by
  obtain⟨Fl,es,a,b,c⟩:=v;exact⟨QS es,(Fl.lack p (Y6 D) b a c).symm⟩
 have z:∀q,Yl y (Q4 m) q->Vx y (Q4 m) q=Vx y (Q4 m) Z:=λq h=>Zst p D h v
 have G:Vx y (Q4 m) Z=Qx (λi=>(gAt m i).want) m.length-Qx (λi=>Qx ((λk t=>Zq (Q4 m) Z t k) i) y.T) m.length:=by
  rw[FN];rfl
 generalize Vx y (Q4 m) Z=H1 at x I z G;have em:(Q4 m).m=m.length:=rfl;rw[em];generalize (λk t=>Zq (Q4 m) Z t k)=o at fo G;walk_at"d";refine Q9 (Zz (b:=false) (ZL<|D0 (a:=.none)<|QJ (Qs Qp<|Qs Qp<|Qs Qp Q2)<|R_lfault.mk p C B fo) nf λ_=>Z3 ?_);refine Q9 (Z9 (d:=.int H1) (Qr.cast (YE (YV (ns:=m.map λg=>g.want) (Qr.cast (EvO.fz<|ZI (xs:=m) (enc:=QB) (h:=λg=>.int g.want) ?ei (by lia) ?el)<|by rw[Xm];rfl) rfl)<|YV (ns:=(List.range m.length).map λi=>Qx (o i) y.T) (Qr.cast (EvO.fz<|ZI (xs:=List.range m.length) (enc:=λi=>.list<|(List.range y.T).map λt=>PyData.int<|o i t) (h:=λi=>.int<|Qx (o i) y.T) ?ei2 (by simp;lia) ?el2)<|by rw[Xm];rfl) rfl) ?eq) ?_)
 case ei=>exact Va Qp
 case el=>
  intro g C c;exact⟨_,Zd,Z5 (ds:=[.int (g.line:Int),.int (g.first:Int),.int (g.last:Int),.int g.want,.int g.most]) Qp QG rfl⟩
 case ei2=>exact EvI.cast (Va Qp) (by unfold Vw;rw[Xm];rfl)
 case el2=>
  intro i hi c;refine⟨_,Zd,?_⟩;walk_at"e";exact Qr.cast (YV (ns:=(List.range y.T).map (o i)) (Qr.cast Qp<|by rw[Xm];rfl) rfl) (by rw[Vk])
 case eq=>
  have e:(m.map λg=>g.want)=(List.range m.length).map λi=>(gAt m i).want:=by
   apply HQ (by simp);intro i a b;have hi:i<m.length:=by simpa using a
   simp[gAt,List.getD,hi]
  rw[e,Vk,Vk,<- G]
 walk_at"d";refine Q9 (Yx (V7 (Qs Qp<|Qs Qp Q2)<|R_lset.mk p D B) λr R=>?_);obtain⟨q,es,l,rfl⟩:=R;have ls:=l.lack p D;rw[z q l.full]at ls;walk_at"d";refine VJ 7 rfl ?_;have E:∀{Y:ZcP} {te:TE},Y[6]?=some (zi H1)->Qr K te Y (.int H1)->Zf K (Dc<|tOp rNe te<|QY 6) Y false:=λa b=>Zf.cast (ZE<|BT b<|Qp a) (by simp);refine Q9 (Zz (b:=false) (YS (b:=false) (c:=false) (E rfl (EvO.e<|ZG.o<|ZG.imp (V7 (Qs Qp<|Qs Qp Q2)<|R_least.mk p D B)<|by rintro r ⟨q,h,e⟩;rw[e,z q h])) λ_=>E rfl (Qr.cast (QJ (Qs Qp<|Qs Qp<|Qs Qp Q2)<|R_lsht.mk p C<|Gn B _)<|by rw[<- ls])) nf λ_=>Z3 ?_);refine Q9 (Zz (b:=false) (YS (b:=false) (c:=false) (E rfl (QJ (Qs Qp<|Qs Qp Q2)<|R_grt.mk p C B x I)) λ_=>Yb (b:=true)<|ZL<|QJ (Qs Qp<|Qs Qp<|Qs Qp Q2)<|R_pkr.mk p C B x I) nf λ_=>Z3 ?_);exact Zh (QJ (Qs Qp<|Qs Qp<|Qs Qp Q2)<|R_frr.mk sm x) rfl
end
inductive DH(K:W.Frag)(x:Str)(st:Stmt):Prop
 |mk {f:Addr}{oc kV dc pm cd ct:Value}{od an:Qj}{sl:Array (Qf)}(a:W.nsIn K mainGlobals x=some (some<|.ref f))(l:K.lookup f=some ⟨oc,od,.func<|W.fnOf x x (W3 st) (YZ st) (Q5 st) .none kV dc pm an cd ct,sl⟩)(c:W.codeIn K cd x=true)(k:W.keepIn K (.ref f)=true):DH K x st
def DH.df{x:Str}{st:Stmt}(X:K.In h)(G:h.Ns mainGlobals mg)(H:DH K x st)(m:∀(z:Value×Value×Value×Qj×Value×Value) (us:Qe),us.length=ps.length->bindArgs (W.fnOf x x (W3 st) (YZ st) (Q5 st) .none z.1 z.2.1 z.2.2.1 z.2.2.2.1 z.2.2.2.2.1 z.2.2.2.2.2) ⟨us,[]⟩=pure (ps.zip us)):Df K mg x st ps:=by
 cases H with
 |mk a l c k=>exact⟨_,_,Gc l c k,W.mg_of X G a,(Gc l c k).binds λkV p f r cd q us i=>m (kV,p,f,r,cd,q) us i⟩
inductive MH(K:W.Frag)(C:Addr)(m q:Str)(st:Stmt):Prop
 |mk {f:Addr}{oc kV dc pm cd ct:Value}{od an:Qj}{sl:Array (Qf)}(a:W.findIn K (.ref C) m=some (some<|.ref f))(i:W.isFn K (.ref f)=true)(l:K.lookup f=some ⟨oc,od,.func<|W.fnOf m q (W3 st) (YZ st) (Q5 st) .none kV dc pm an cd ct,sl⟩)(c:W.codeIn K cd q=true)(k:W.keepIn K (.ref f)=true):MH K C m q st
def MH.mf{st:Stmt}(H:MH K C m q st)(p:∀(z:Value×Value×Value×Qj×Value×Value) (us:Qe),us.length=ps.length->bindArgs (W.fnOf m q (W3 st) (YZ st) (Q5 st) .none z.1 z.2.1 z.2.2.1 z.2.2.2.1 z.2.2.2.2.1 z.2.2.2.2.2) ⟨us,[]⟩=pure (ps.zip us)):Mf K C m q st ps:=by
 cases H with
 |mk a i l c k=>exact⟨_,_,Gc l c k,⟨a,i,k⟩,(Gc l c k).binds λkV r f u cd s us h=>p (kV,r,f,u,cd,s) us h⟩
@[elab_as_elim] theorem ln1{α:Type}{p:List α->Prop}{us:List α}(h:us.length=1)(k:∀a0,p [a0]):p us:=by
 match us,h with
 |[a0],_=>exact k a0
@[elab_as_elim] theorem ln2{α:Type}{p:List α->Prop}{us:List α}(h:us.length=2)(k:∀a0 a1,p [a0,a1]):p us:=by
 match us,h with
 |[a0,a1],_=>exact k a0 a1
@[elab_as_elim] theorem ln3{α:Type}{p:List α->Prop}{us:List α}(h:us.length=3)(k:∀a0 a1 a2,p [a0,a1,a2]):p us:=by
 match us,h with
 |[a0,a1,a2],_=>exact k a0 a1 a2
@[elab_as_elim] theorem ln4{α:Type}{p:List α->Prop}{us:List α}(h:us.length=4)(k:∀a0 a1 a2 a3,p [a0,a1,a2,a3]):p us:=by
 match us,h with
 |[a0,a1,a2,a3],_=>exact k a0 a1 a2 a3
def Zz1   {fa c d:Addr}(X:K.In h)(G:h.Ns mainGlobals mg)(hfa:mg "law"=some (.ref fa))
{YR CR F:Addr}{odR anR:Qj}{slR:Array (Qf)}{kVR dcR pmR cdR ctR:Value}
{g r:Addr}{M b L an95 dS dE:Qj}{I H slS slE:Array (Qf)}{S O R N q Y Q kV95 dc95 J Z ct95:Value}{tS tE nS nE:Nat}
(aC:W.nsIn K mainGlobals "Net"=some (some<|.ref C))
(h0:DH K "is_whole" R6)
(h1:DH K "is_whole_within" SE)
(h2:DH K "is_amount" Sg)
(h3:DH K "is_tuple_of" Sx)
(h4:DH K "is_above" Rt)
(h5:DH K "are_bounds" Hz)
(h6:DH K "is_line" Ra)
(h7:DH K "are_lines" Ht)
(h8:DH K "is_yard" Rp)
(h9:DH K "is_guest" RT)
(h10:DH K "turns_of" RB)
(h11:DH K "line_count" Sb)
(h12:DH K "above_of" R3)
(h13:DH K "bound_at" RS)
(h14:DH K "line_of" Rb)
(h15:DH K "is_there" RQ)
(h16:DH K "want_of" NW)
(h17:DH K "most_of" Rf)
(h18:DH K "with_want" RF)
(h19:DH K "line_times" HD)
(h20:DH K "yard_times" HB)
(h21:DH K "guest_times" Su)
(h22:DH K "guests_times" HK)
(h23:DH K "totals_of" Hr)
(h24:DH K "lacks_of" Hj)
(h25:DH K "guest_node" RW)
(h26:DH K "line_node" RJ)
(h27:DH K "lay_guest" RL)
(h28:DH K "lay_turn" R7)
(h29:DH K "filled_net" Sq)
(h30:DH K "takes_by" Hk)
(h31:DH K "greatest_filling" HN)
(h32:DH K "guests_reached" HG)
(h33:DH K "reaching_at" Hv)
(h34:DH K "given_at" Ru)
(h35:DH K "given_most" Hn)
(h36:DH K "short_of" Hi)
(h37:DH K "least_lack" RZ)
(h38:DH K "best_filling" Sk)
(h39:DH K "lacking_set" S6)
(h40:DH K "refuse_lack" S7)
(h41:DH K "yard_lowered" HJ)
(h42:DH K "short_lowered" SB)
(h43:DH K "turns_held" HA)
(h44:DH K "rise_due" R8)
(h45:DH K "least_peak" RX)
(h46:DH K "greatest_divisor" SG)
(h47:DH K "fraction" RU)
(h48:DH K "common_bottom" SA)
(h49:DH K "tops_over" Hu)
(h50:DH K "is_fairer" RN)
(h51:DH K "asking" Mu)
(h52:DH K "share_left" HC)
(h53:DH K "most_short" M7)
(h54:DH K "next_level" Hm)
(h55:DH K "fair_levels" Sz)
(h56:DH K "fair_shares" Hw)
(h57:DH K "fairest" DU)
(h58:DH K "is_number" Hq)
(h59:DH K "are_numbers" Hx)
(h60:DH K "is_yard_row" S0)
(h61:DH K "is_line_row" Sy)
(h62:DH K "is_guest_row" Sn)
(h63:DH K "is_row_at" RG)
(h64:DH K "rows_of" Ha)
(h65:DH K "numbers_of" HE)
(h66:DH K "line_told" Si)
(h67:DH K "yard_told" Ho)
(h68:DH K "guests_told" MC)
(h69:DH K "read" Nb)
(h70:DH K "_law_cell_at" Sl)
(h71:DH K "_law_whole" RV)
(h72:DH K "_law_number" Sv)
(h73:DH K "_law_amount" Sr)
(h74:DH K "_law_yard" Se)
(h75:DH K "_law_guests" S8)
(h76:DH K "_law_up" NU)
(h77:DH K "_law_fault" HF)
(h78:DH K "_law_given" Sd)
(h79:DH K "_law_short" MB)
(h80:DH K "_law_wide" RM)
(h81:DH K "_law_lowered" HL)
(h82:DH K "_law_is_full" HM)
(h83:DH K "_law_text" Sf)
(h84:DH K "_law_greatest" ME)
(h85:DH K "_law_peak_right" SD)
(h86:DH K "_law_fair_right" Gr)
(a87:W.nsIn K mainGlobals "law"=some (some<|.ref g))
(l87:K.lookup g=some ⟨S,M,.func<|W.fnOf "law" "law" (W3 WC) (YZ WC) (Q5 WC) .none O R N b q Y,I⟩)
(c87:W.codeIn K q "law"=true)
(k87:W.keepIn K (.ref g)=true)
(m88:MH K C "lay" "Net.lay" Ri)
(m89:MH K C "lay_one" "Net.lay_one" Ss)
(m90:MH K C "flow" "Net.flow" R1)
(m91:MH K C "reached" "Net.reached" S5)
(m92:MH K C "push" "Net.push" He)
(m93:MH K C "fill" "Net.fill" RD)
(m94:MH K C "way_to" "Net.way_to" RY)
(a95:W.findIn K (.ref C) "__init__"=some (some<|.ref r))
(i95:W.isFn K (.ref r)=true)
(l95:K.lookup r=some ⟨Q,L,.func<|W.fnOf "__init__" "Net.__init__" (W3 Bs) (YZ Bs) (Q5 Bs) .none kV95 dc95 J an95 Z ct95,H⟩)
(c95:W.codeIn K Z "Net.__init__"=true)
(k95:W.keepIn K (.ref r)=true)
(pg:W.plainGet K C Str.empty=true)
(hd:W.hasDictIn K C=true)
(po:W.plainOver K C=true)
(sa:W.findIn K (.ref C) "__setattr__"=some (some<|.builtin "object.__setattr__"))
(mk:W.makesIn K C=true)
(kc:W.keepIn K (.ref C)=true)
(n0:W.findIn K (.ref C) "ends"=some none)
(n1:W.findIn K (.ref C) "rooms"=some none)
(n2:W.findIn K (.ref C) "leaving"=some none)
(n3:W.findIn K (.ref C) "laid"=some none)
(aS:W.nsIn K mainGlobals "START"=some (some<|.ref c))
(lS:K.lookup c=some ⟨.type "tuple",dS,.seq #[.str "start" tS] nS,slS⟩)
(aE:W.nsIn K mainGlobals "END"=some (some<|.ref d))
(lE:K.lookup d=some ⟨.type "tuple",dE,.seq #[.str "end" tE] nE,slE⟩)
(rC:W.nsIn K mainGlobals "NoRoom"=some (some<|.ref CR))
(rY:W.nsIn K mainGlobals "YardError"=some (some<|.ref YR))
(rf:W.findIn K (.ref CR) "__init__"=some (some<|.ref F))
(rl:K.lookup F=some ⟨.type "function",odR,.func<|W.fnOf "__init__" "NoRoom.__init__" (W3 Br) (YZ Br) (Q5 Br) .none kVR dcR pmR anR cdR ctR,slR⟩)
(rc:W.codeIn K cdR "NoRoom.__init__"=true)
(rk:W.keepIn K (.ref F)=true)
(rx:KA K CR F=true)
(rg:W.specialIn K (.ref YR) "__getattribute__"=some (some<|.builtin "type.__getattribute__"))
(rr:W.readsIn K YR (.type "type")=true)
(ri:W.findCls K (.ref YR) (.type "type") "__init__"=some (.val<|.builtin "ValueError.__init__"))
(rs:W.findIn K (.ref CR) "__setattr__"=some (some<|.builtin "object.__setattr__"))
(ro:((W.clsIn K CR).any λcd=>JF cd.mro)=true)
(rd:W.hasDictIn K CR=true)
(rt:W.takerIn K CR "some"=some none)
(rK:W.keepIn K (.ref CR)=true)
(z0:W.nsIn K mainGlobals "abs"=some none)
(z1:W.nsIn K mainGlobals "len"=some none)
(z2:W.nsIn K mainGlobals "max"=some none)
(z3:W.nsIn K mainGlobals "min"=some none)
(z4:W.nsIn K mainGlobals "sum"=some none)
(z5:W.nsIn K mainGlobals "any"=some none)
(z6:W.nsIn K mainGlobals "all"=some none)
(z7:W.nsIn K mainGlobals "isinstance"=some none)
(z8:W.nsIn K mainGlobals "int"=some none)
(z9:W.nsIn K mainGlobals "bool"=some none)
(z10:W.nsIn K mainGlobals "list"=some none)
(z11:W.nsIn K mainGlobals "tuple"=some none)
(z12:W.nsIn K mainGlobals "range"=some none)
(z13:W.nsIn K mainGlobals "zip"=some none)
(z14:W.nsIn K mainGlobals "enumerate"=some none)
(z15:W.nsIn K mainGlobals "str"=some none)
(z16:W.nsIn K mainGlobals "sorted"=some none)
(z17:W.nsIn K mainGlobals "set"=some none)
 : (∃c d,W.nsIn K mainGlobals "START"=some (some<|.ref c)/\W.nsIn K mainGlobals "END"=some (some<|.ref d)/\KTup K c "start" /\ KTup K d "end")/\∃fd:FuncData,(∀(s:Shared) (v:Value),BindsTo s fd ⟨[v],[]⟩ [("_law_script",v)])/\∀base:Heap,K.In base->base.Ns mainGlobals mg->FnOk P w K mg base CX0 13 fa fd ZaW (Dy K):=by
 have e:=hfa.symm.trans (W.mg_of X G a87);cases e;have T:Bl mg:=⟨W.mg_none_of X G z0,W.mg_none_of X G z1,W.mg_none_of X G z2,W.mg_none_of X G z3,W.mg_none_of X G z4,W.mg_none_of X G z5,W.mg_none_of X G z6,W.mg_none_of X G z7,W.mg_none_of X G z8,W.mg_none_of X G z9,W.mg_none_of X G z10,W.mg_none_of X G z11,W.mg_none_of X G z12,W.mg_none_of X G z13,W.mg_none_of X G z14,W.mg_none_of X G z15,W.mg_none_of X G z16,W.mg_none_of X G z17⟩;have U:Tx K mg C c d:=⟨⟨⟨pg,hd,po,sa⟩,n0,n1,n2,n3⟩,W.mg_of X G aS,W.mg_of X G aE,aS,aE⟩;have XR:XC K mg "NoRoom" YR CR F:=⟨AQ rx rl rfl rg rr ri,rK,W.mg_of X G rC⟩;have Xc5:=Gc (st:=Br) rl rc rk;have p:=Xc5.binds (ps:=Zbg) λ_ _ _ _ _ _ f a=>ln2 a λ_ _=>rfl;have Xc7:=Gc (st:=WC) l87 c87 k87;have Xc6:=Gc (st:=Bs) l95 c95 k95;have E:=Xc6.binds (ps:=["self"]) λ_ _ _ _ _ _ f a=>ln1 a λ_=>rfl;refine⟨⟨c,d,aS,aE,⟨_,_,_,_,lS⟩,⟨_,_,_,_,lE⟩⟩,W.fnOf "law" "law" (W3 WC) (YZ WC) (Q5 WC) .none O R N b q Y,λs v=>.of_eq rfl,λbase _ _=>?_⟩;have B:=EL (P:=P) (w:=w) (base:=base) T (h70.df X G λ_ f a=>ln2 a λ_ _=>rfl);have XbV:=ZqZ T (h72.df X G λ_ f a=>ln2 a λ_ _=>rfl) B;have XbO:=Zqp (P:=P) (w:=w) (base:=base) T (h73.df X G λ_ f a=>ln1 a λ_=>rfl);have XcW:=ER T (h74.df X G λ_ f a=>ln1 a λ_=>rfl) B XbV XbO;have XcX:=Ow T (h80.df X G λ_ f a=>ln2 a λ_ _=>rfl) B;have XcY:=Zr2 T (h75.df X G λ_ f a=>ln2 a λ_ _=>rfl) B XbV XbO;have XcZ:=ZuE (P:=P) (w:=w) (base:=base) T (h83.df X G λ_ f a=>ln2 a λ_ _=>rfl);have j:=Zt5 (P:=P) (w:=w) (base:=base) T (h58.df X G λ_ f a=>ln1 a λ_=>rfl);have XcG:=Zmt T (h60.df X G λ_ f a=>ln1 a λ_=>rfl) j;have Xb6:=ZpS T (h59.df X G λ_ f a=>ln1 a λ_=>rfl) j;have Xb7:=Zms T (h61.df X G λ_ f a=>ln1 a λ_=>rfl) j Xb6;have XbT:=Zk2 T (h62.df X G λ_ f a=>ln1 a λ_=>rfl) Xb6;have XcH:=ZpC T (h63.df X G λ_ f a=>ln2 a λ_ _=>rfl) XcG Xb7 XbT;have XcQ:=ZqW T (h64.df X G λ_ f a=>ln1 a λ_=>rfl) XcH;have Xb8:=Zsu (P:=P) (w:=w) (base:=base) T (h65.df X G λ_ f a=>ln1 a λ_=>rfl);have XcN:=Zn3 T (h66.df X G λ_ f a=>ln1 a λ_=>rfl) Xb8;have y:=ZtR (P:=P) (w:=w) (base:=base) T (h3.df X G λ_ f a=>ln2 a λ_ _=>rfl);have XcI:=ZpA (P:=P) (w:=w) (base:=base) T (h0.df X G λ_ f a=>ln1 a λ_=>rfl);have D:=ZqR T (h1.df X G λ_ f a=>ln3 a λ_ _ _=>rfl) XcI;have XcJ:=Zqe T (h4.df X G λ_ f a=>ln2 a λ_ _=>rfl) D;have XbU:=Znr T (h2.df X G λ_ f a=>ln2 a λ_ _=>rfl) D;have XcK:=Zl9 T (h5.df X G λ_ f a=>ln2 a λ_ _=>rfl) y XbU;have XcL:=Zsr T (h6.df X G λ_ f a=>ln3 a λ_ _ _=>rfl) y XcJ XcK;have XcM:=ZnD T (h7.df X G λ_ f a=>ln2 a λ_ _=>rfl) XcL;have XcO:=ZqH T (h8.df X G λ_ f a=>ln1 a λ_=>rfl) y D XcM;have XcR:=Zna T (h67.df X G λ_ f a=>ln1 a λ_=>rfl) Xb7 XcN XcO;have x:=OW (P:=P) (w:=w) (base:=base) T (h11.df X G λ_ f a=>ln1 a λ_=>rfl);have m:=Ztl (P:=P) (w:=w) (base:=base) T (h10.df X G λ_ f a=>ln1 a λ_=>rfl);have XcP:=Zpz T (h9.df X G λ_ f a=>ln2 a λ_ _=>rfl) y D XbU x m;have XcS:=ZkE T (h68.df X G λ_ f a=>ln2 a λ_ _=>rfl) XbT Xb8 XcP;have Xc0:=Ib T (h69.df X G λ_ f a=>ln1 a λ_=>rfl) XcQ XcR XcS;have Xcm:SR P w K mg base "Net" C 1:=⟨_,_,⟨mk,a95,i95,kc⟩,W.mg_of X G aC,E,AD (P:=P) (w:=w) (base:=base) T U Xc6⟩;have Xb9:=Ic (P:=P) (w:=w) (base:=base) T U (m89.mf λ_ f a=>ln4 a λ_ _ _ _=>rfl);have XbN:=Ej T U (m88.mf λ_ f a=>ln4 a λ_ _ _ _=>rfl) Xb9;have i:=EK (P:=P) (w:=w) (base:=base) T (h16.df X G λ_ f a=>ln1 a λ_=>rfl);have o:=Zu6 (P:=P) (w:=w) (base:=base) T (h25.df X G λ_ f a=>ln1 a λ_=>rfl);have XbW:=Zu9 (P:=P) (w:=w) (base:=base) T (h15.df X G λ_ f a=>ln2 a λ_ _=>rfl);have XbX:=Ia (P:=P) (w:=w) (base:=base) T (h17.df X G λ_ f a=>ln1 a λ_=>rfl);have z:=ZtC (P:=P) (w:=w) (base:=base) T (h26.df X G λ_ f a=>ln2 a λ_ _=>rfl);have n:=Zr6 (P:=P) (w:=w) (base:=base) T (h14.df X G λ_ f a=>ln1 a λ_=>rfl);have Xcn:=Zsv T U (h27.df X G λ_ f a=>ln4 a λ_ _ _ _=>rfl) XbN i o m XbW XbX z n;have t:=ON (P:=P) (w:=w) (base:=base) T (h13.df X G λ_ f a=>ln3 a λ_ _ _=>rfl);have XbY:=ZtA (P:=P) (w:=w) (base:=base) T (h12.df X G λ_ f a=>ln2 a λ_ _=>rfl);have Xco:=ZuK T U (h28.df X G λ_ f a=>ln3 a λ_ _ _=>rfl) XbN t z x XbY;have XbP:=ZpW (P:=P) (w:=w) (base:=base) T U (m91.mf λ_ f a=>ln2 a λ_ _=>rfl);have Xck:=O8 (P:=P) (w:=w) (base:=base) T U (m92.mf λ_ f a=>ln2 a λ_ _=>rfl);have Xcl:=AF (P:=P) (w:=w) (base:=base) T U (m94.mf λ_ f a=>ln3 a λ_ _ _=>rfl);have Xcp:=Im T U (m93.mf λ_ f a=>ln3 a λ_ _ _=>rfl) XbP Xck Xcl;have Xb0:=Zso T U (h29.df X G λ_ f a=>ln2 a λ_ _=>rfl) Xcm Xcn m Xco Xcp;have Xcq:=OC (P:=P) (w:=w) (base:=base) T U (m90.mf λ_ f a=>ln3 a λ_ _ _=>rfl);have Xcr:=ZuA T U (h30.df X G λ_ f a=>ln4 a λ_ _ _ _=>rfl) m Xcq z n o;have Xcs:=OX T U (h31.df X G λ_ f a=>ln2 a λ_ _=>rfl) Xb0 Xcr;have A:=IG T (h38.df X G λ_ f a=>ln2 a λ_ _=>rfl) Xcs;have Xct:=ZmR T U (h32.df X G λ_ f a=>ln2 a λ_ _=>rfl) Xb0 XbP o;have u:=Iw T (h39.df X G λ_ f a=>ln2 a λ_ _=>rfl) Xct;have Xcu:=ZsA (P:=P) (w:=w) (base:=base) T (h23.df X G λ_ f a=>ln1 a λ_=>rfl);have Xcv:=ZtH T (h24.df X G λ_ f a=>ln2 a λ_ _=>rfl) i Xcu;have Xc1:=Zt9 T (h37.df X G λ_ f a=>ln2 a λ_ _=>rfl) Xcv A;have Xcy:=Z0n (P:=P) (w:=w) (base:=base) T (h76.df X G λ_ f a=>ln2 a λ_ _=>rfl);have l:=Zq9 T (h77.df X G λ_ f a=>ln3 a λ_ _ _=>rfl) Xcy;have Xcx:=Zu2 (P:=P) (w:=w) (base:=base) T (h78.df X G λ_ f a=>ln4 a λ_ _ _ _=>rfl);have k:=EM T (h79.df X G λ_ f a=>ln3 a λ_ _ _=>rfl) Xcx;have Xc2:=E3 T (h84.df X G λ_ f a=>ln2 a λ_ _=>rfl) k;have Xch:=ZmA T (h33.df X G λ_ f a=>ln4 a λ_ _ _ _=>rfl) x XbW n XbX XbY t;have XbZ:=ZtN T (h34.df X G λ_ f a=>ln4 a λ_ _ _ _=>rfl) Xch t;have XbQ:=Zsh T (h35.df X G λ_ f a=>ln3 a λ_ _ _=>rfl) m XbZ;have XbR:=O7 T (h36.df X G λ_ f a=>ln3 a λ_ _ _=>rfl) i XbQ;have Xca:Kr P w K mg base F Zbg 1 (Mn K CR "some"):=⟨_,p,ZqS (P:=P) (w:=w) (base:=base) T Xc5 XR.cl ⟨rs,ro,rd⟩ rt<|W.mg_of X G rY⟩;have Xcb:=Zrv T XR (h40.df X G λ_ f a=>ln2 a λ_ _=>rfl) u XbR Xca;have XbF:=Zpn (P:=P) (w:=w) (base:=base) T (h41.df X G λ_ f a=>ln2 a λ_ _=>rfl);have XbS:=ZtF T (h42.df X G λ_ f a=>ln4 a λ_ _ _ _=>rfl) XbR XbF;have Xcw:=O3 T (h43.df X G λ_ f a=>ln4 a λ_ _ _ _=>rfl) m XbZ;have Xcc:=IC T (h44.df X G λ_ f a=>ln4 a λ_ _ _ _=>rfl) Xcw XbS;have XcT:=Zt0 T (h45.df X G λ_ f a=>ln2 a λ_ _=>rfl) Xcb u XbF XbS Xcc A;have Xcz:=O6 (P:=P) (w:=w) (base:=base) T (h71.df X G λ_ f a=>ln1 a λ_=>rfl);have XcU:=OB T (h82.df X G λ_ f a=>ln3 a λ_ _ _=>rfl) Xcz l;have Xcg:=ZmD (P:=P) (w:=w) (base:=base) T (h81.df X G λ_ f a=>ln2 a λ_ _=>rfl);have Xc3:=Ew T XR (h85.df X G λ_ f a=>ln3 a λ_ _ _=>rfl) XcT XcU k Xcg;have Xci:=Zqg (P:=P) (w:=w) (base:=base) T (h19.df X G λ_ f a=>ln2 a λ_ _=>rfl);have Xb4:=Zph T (h20.df X G λ_ f a=>ln2 a λ_ _=>rfl) Xci;have Xcj:=ZpV (P:=P) (w:=w) (base:=base) T (h21.df X G λ_ f a=>ln2 a λ_ _=>rfl);have XcA:=ZmX T (h22.df X G λ_ f a=>ln2 a λ_ _=>rfl) Xcj;have XcB:=ZtX (P:=P) (w:=w) (base:=base) T (h18.df X G λ_ f a=>ln2 a λ_ _=>rfl);have Xb5:=ZqG T (h51.df X G λ_ f a=>ln3 a λ_ _ _=>rfl) XcA XcB;have Xce:=ZsG T (h53.df X G λ_ f a=>ln4 a λ_ _ _ _=>rfl) i u Xb4 Xb5;have Xb1:=Ik (P:=P) (w:=w) (base:=base) T (h46.df X G λ_ f a=>ln2 a λ_ _=>rfl);have Xb2:=EO T (h48.df X G λ_ f a=>ln1 a λ_=>rfl) Xb1;have Xcd:=IJ (P:=P) (w:=w) (base:=base) T (h49.df X G λ_ f a=>ln2 a λ_ _=>rfl);have XcC:=ZsR T (h50.df X G λ_ f a=>ln2 a λ_ _=>rfl) Xb2 Xcd;have Xb3:=IB T (h47.df X G λ_ f a=>ln2 a λ_ _=>rfl) Xb1;have Xcf:=Zrg T (h52.df X G λ_ f a=>ln4 a λ_ _ _ _=>rfl) XbQ Xb3 i;have XcD:=Zr4 T (h54.df X G λ_ f a=>ln3 a λ_ _ _=>rfl) Xce XcC Xcf;have XcE:=ZqB T (h55.df X G λ_ f a=>ln2 a λ_ _=>rfl) XcD;have XcF:=ZpF T (h56.df X G λ_ f a=>ln2 a λ_ _=>rfl) XcE;have XcV:=ZpO T (h57.df X G λ_ f a=>ln2 a λ_ _=>rfl) XcF i Xb3 Xb2 A Xb4 Xb5;have Xc4:=Ev T (h86.df X G λ_ f a=>ln3 a λ_ _ _=>rfl) XcV l;exact Em T Xc7 XcW XcX XcY XcZ Xc0 A u Xc1 l k Xc2 Xc3 Xc4
end My
namespace PySem.W.Fast
def tw11956144884688349652:=0
def tw16758893788177747424:=0
def tw6346082157782102654:=0
def tw18200937502042402964:=0
def tw9992495305376683833:=0
def tw12388320050123065530:=0
def tw7689207382936897288:=0
def tw7621824780940738036:=0
def tw14582732086989329880:=0
def tw18347487891534347918:=0
def tw11458065831256364341:=0
def tw2548583579190314501:=0
def tw2465017564479841371:=0
def tw16520374811351255386:=0
def tw2988022133294363940:=0
def tw17144786118042470762:=0
def tw5525127079492092906:=0
def tw10627842911434527836:=0
def tw15653940863703849291:=0
def tw11040065359560650087:=0
def tw9468558645461245230:=0
def tw16824116751762266440:=0
def tw5648787363976013785:=0
def tw8532189554754530067:=0
def tw13694064027044353299:=0
def tw13876475803880389208:=0
def tw2044792737414979483:=0
def tw13570389369985911597:=0
def tw9660854276742944639:=0
def tw10579020990020677736:=0
def tw3393680250635605572:=0
def tw6583812169488023687:=0
def tw6672326754699236997:=0
def tw94852382081438801:=0
def tw11211820769590095349:=0
def tw7343813324140312268:=0
def tw8552047628059030085:=0
def tw15075969480745678456:=0
def tw15638834216235467259:=0
def tw15913539040723398324:=0
def tw4689018204705862218:=0
def tw10606613679733820935:=0
def tw16134481101500556881:=0
def tw7289209688091772087:=0
def tw18183190911476263345:=0
def tw3120088988746446214:=0
def tw12408986261955317564:=0
def tw3375642564160147638:=0
def tw3831276849256668905:=0
def tw11617925151756180850:=0
def tw15840967952606788182:=0
def tw13115470276911105670:=0
def tw15837219488894569609:=0
def tw10341378487072994111:=0
def tw13354554231365522952:=0
def tw12998901091056351078:=0
def tw8281587338410795536:=0
def tw8524557337260520261:=0
def tw1223689551644314154:=0
def tw4230075579659446022:=0
def tw10080736309298478273:=0
def tw17152365863601125795:=0
def tw5334143474331512410:=0
def tw1345158065501878315:=0
def tw10261739284293467294:=0
def tw17928360093804768868:=0
def tw15634027271641106579:=0
def tw15462308215786996367:=0
def tw10257120810584065472:=0
def tw7853480455372362190:=0
def tw6153803405619133715:=0
def tw7394107118856377305:=0
def tw17163138189074100437:=0
def tw4899105796280862352:=0
def tw9136100159137315360:=0
def tw715748836321774601:=0
def tw6105443630426162365:=0
def tw10197760840269112284:=0
def tw2349804738470329212:=0
def tw72455567660878454:=0
def tw14966447387243930212:=0
def tw2250264359635639003:=0
def tw4052183823761996668:=0
def tw2640320897006647097:=0
def tw362596999876423788:=0
def tw14466197241907121443:=0
def tw7076099218970649167:=0
def tw1940778057720645628:=0
def tw18016830233920341547:=0
def tw4089899650019488775:=0
def tw4704253249752609804:=0
def tw13679573946367323114:=0
def tw5459745041044374016:=0
def tw17173116743731568129:=0
def tw12143296870661429114:=0
def tw9220759450482628551:=0
def tw16264544893706465561:=0
def tw14580969150759872807:=0
def tw11562221784556190618:=0
def tw9982927695550583790:=0
def tw995014508874017153:=0
def tw16436166203931148308:=0
def tw3231091037452725712:=0
def tw11809571657207967759:=0
def tw8928479148952468494:=0
def tw13093369665921508900:=0
def tw10289603100479686227:=0
def tw15964975587667997675:=0
def tw13642503392278764998:=0
def tw4733834378426195593:=0
def tw4676985069267729837:=0
def tw7663667032675185244:=0
def tw17918916708344447727:=0
def tw5789618827785530526:=0
def tw5381733187444607298:=0
def tw13001294592285774683:=0
def tw733666989079810794:=0
def tw9386108421256530433:=0
def tw9567783985336708556:=0
def tw13964177046765952238:=0
def tw3693090221169758537:=0
def tw10671778479929269909:=0
def tw12183251169075605493:=0
def tw10540527504648114511:=0
def tw6535287458788239532:=0
def tw8934012950015815277:=0
def tw12374667493340459438:=0
def tw4963423075618424214:=0
def tw1415105946186991830:=0
def tw3411696836695307379:=0
def tw12948754091529804264:=0
def tw10557736590893746708:=0
def tw17102648637062063210:=0
def tw10242389525547812316:=0
def tw2904397169320637168:=0
def tw12907416599528432696:=0
def tw17868770622823980417:=0
def tw7178343337240511684:=0
def tw3838499111170895325:=0
def tw7896243634282901646:=0
def tw6829250796096282381:=0
def tw16490325960783952336:=0
def tw2187685992974573034:=0
def tw13668798966083236039:=0
def tw5528735828441034348:=0
def tw10013371621295962377:=0
def tw864428732846752932:=0
def tw9377279080486875044:=0
def tw11559558592863181479:=0
def tw7038556891594866678:=0
def tw8157905466078711214:=0
def tw8550686098249945877:=0
def tw1828560957724970787:=0
def tw8179923213481139117:=0
def tw18140249362340382057:=0
def tw5272189893696218687:=0
def tw3714880553987555390:=0
def tw7027742320880433720:=0
def tw14793593868628219828:=0
def tw2459958402686346439:=0
def tw2479751597943544841:=0
def tw12569480284745543039:=0
def tw13262655111876840889:=0
def tw16337277238173379673:=0
def tw1734473403091235216:=0
def tw5004465441868742608:=0
def tw867392481458825678:=0
def tw15117637830990364071:=0
def tw8149502494844432509:=0
def tw8462274063092094461:=0
def tw17210733517360080978:=0
def tw14794077370508738541:=0
def tw2826961373136779052:=0
def tw7600032464089804059:=0
def tw864616208946057983:=0
def tw13131363660414290445:=0
def tw7889290374837047412:=0
def tw12199047393977327027:=0
def tw4088523904953802948:=0
def tw15177795534877730053:=0
def tw11931683402545381736:=0
def tw2817965123026742544:=0
def tw1880285188241368046:=0
def tw8784471133950166751:=0
def tw2989825100008490216:=0
def tw2939069447340447664:=0
def tw10949020323459029023:=0
def tw16811005890939027689:=0
def tw15987955551126156060:=0
def tw17209334886026279987:=0
def tw12028704247855771047:=0
def tw441165327366747410:=0
def tw13464471817558220315:=0
def tw2042547783972618740:=0
def tw12600704821309944274:=0
def tw5875208982373466777:=0
def tw15068492127653510247:=0
def tw15626917146257437103:=0
def tw12308631831589740261:=0
def tw5877368018239831546:=0
def tw2169192734578228835:=0
def tw10201480321071430150:=0
def tw11191315888708109316:=0
def tw4064278521150943397:=0
def tw9190298668488525643:=0
def tw16390942175385917518:=0
def tw14436976345804923167:=0
def tw14542937051362711561:=0
def tw4881427905518419793:=0
def tw10287149515326972322:=0
def tw13360526668236769050:=0
def tw1453894563139417082:=0
def tw3942437902207607522:=0
def tw14717045003828584511:=0
def tw12034245788079099617:=0
def tw10488740516888686654:=0
def tw9238622016540198430:=0
def tw123947797165032447:=0
def tw2962885884320875604:=0
def tw12369028621832169797:=0
def tw9601612996188103327:=0
def tw98506005528779375:=0
def tw1725248371418567699:=0
def tw15756047104918390885:=0
def tw7185748208423211247:=0
def tw4076533371802180023:=0
def tw2856562198959797828:=0
def tw2279309171043198737:=0
def tw14901111680994584656:=0
def tw16630484017316527658:=0
def tw3083001105862699853:=0
def tw7325155697463997129:=0
def tw8499930270893136613:=0
def tw626530147471250688:=0
def tw1261132019526768009:=0
def tw5033553393342715931:=0
def tw17670848312178478085:=0
def tw14978988276468161436:=0
def tw3733599094066064:=0
def tw1142011879872298218:=0
def tw18232266576699379049:=0
def tw2912579642368068066:=0
def tw17723650520002769057:=0
def tw10080234551650224588:=0
def tw13784872722881841945:=0
def tw2899468069052804212:=0
def tw16638129603792836602:=0
def tw4958708843490806373:=0
def tw7614224310088108300:=0
def tw15902584422693576458:=0
def tw15811949814719152628:=0
def tw6530975866847900833:=0
def tw9086281898682965621:=0
def tw4425567680828905146:=0
def tw4279115489403679123:=0
def tw16172655656676446840:=0
def tw3736633787446003578:=0
def tw8981835245280201448:=0
def tw14607919938006189089:=0
def tw4125754067504811133:=0
def tw9639610072949086058:=0
def tw1146227169551253829:=0
def tw4597960617639585861:=0
def tw8760238824798333181:=0
def tw12463157347964267021:=0
def tw7752299118939275886:=0
def tw2095062909883124595:=0
def tw15508067581111806555:=0
def tw7506002997746751529:=0
def tw149616989081695522:=0
def tw2734733491612006926:=0
def tw11155255905864811375:=0
def tw11920649718778958411:=0
def tw11835646463847802794:=0
def tw4187997487132042421:=0
def tw6555293711192777859:=0
def tw2062137449740441896:=0
def tw14066327803020508034:=0
def tw1283635489189577337:=0
def tw11720935227119460340:=0
def tw13980319972033156179:=0
def tw16202381391911286514:=0
def tw9947841837581128981:=0
def tw9807708133292853334:=0
def tw8502698898970279041:=0
def tw7078207853321148881:=0
def tw8518203849200434523:=0
def tw5122508773114817318:=0
def tw17345101641500874762:=0
def tw3698765876233241771:=0
def tw1259505792321023965:=0
def tw9857225127420111429:=0
def tw7348217839307272720:=0
def tw3528752556591019642:=0
def tw14755141674363247444:=0
def tw14153193675453953959:=0
def tw13233357582167932375:=0
def tw2521138545821261394:=0
def tw18237898848212289731:=0
def tw2732986055104098384:=0
def tw18096627553333721362:=0
def tw13418857750161515002:=0
def tw1245199266046655149:=0
def tw10304289117086175173:=0
def tw7705332072415528262:=0
def tw7229314368295252212:=0
def tw6802343062750786120:=0
def tw5158691747649383817:=0
def tw4916437364093988273:=0
def tw15722877694139691649:=0
def tw14371393911258372350:=0
def tw13564821943765006632:=0
def tw12103744033057473787:=0
def tw11141688314322611497:=0
def tw11652706195564635388:=0
def tw16715591130266577309:=0
def tw13314588045559045156:=0
def tw12872461188494709020:=0
def tw17335011610799360417:=0
def tw8792190506398298820:=0
def tw10766895122578589228:=0
def tw10196642857113120615:=0
def tw9367520716676122376:=0
def tw3201376833299053956:=0
def tw11397860138414194871:=0
def tw10524292408284563433:=0
def tw9962292147808370995:=0
def tw9909759060139352530:=0
def tw9757234430091852107:=0
def tw9066619580362953040:=0
def tw9048371957192874683:=0
def tw9020445221887258737:=0
def tw860725671324882162:=0
def tw854610989092380953:=0
def tw837433032837607750:=0
def tw7636460014950191100:=0
def tw6652940797303058414:=0
def tw6220148456920973782:=0
def tw4330204705118786014:=0
def tw18346929883452555250:=0
def tw16799144474771528889:=0
def tw14752811703665176500:=0
def tw14426111826598628718:=0
def tw5791143106167551993:=0
def tw9873939802228154130:=0
def tw9335980473996278152:=0
def tw9261817709971980210:=0
def tw9150000705559347448:=0
def tw9129861779902936285:=0
def tw8940189902440153474:=0
def tw8045480656366652562:=0
def tw7548088735984919899:=0
def tw7453073029269685864:=0
def tw727337685257497550:=0
def tw6660276903755903129:=0
def tw6503192022355028413:=0
def tw614141607688528743:=0
def tw6130477384633643028:=0
def tw552975724656723407:=0
def tw5198101492221666540:=0
def tw5150400474329953118:=0
def tw5080636796383801157:=0
def tw4903207286976884794:=0
def tw4561681394291564032:=0
def tw4394570951143856217:=0
def tw424595265019544093:=0
def tw4213533235370240804:=0
def tw3956896730222214242:=0
def tw3093041515473081601:=0
def tw2349954805217018466:=0
def tw2190570562766537000:=0
def tw2121490486423218523:=0
def tw2019017873479341843:=0
def tw18396984274982843110:=0
def tw18336194644301879172:=0
def tw18331105420736625539:=0
def tw18329819579889252589:=0
def tw1813641277044496536:=0
def tw17861686819411250616:=0
def tw17207316132453669225:=0
def tw1700882588033847051:=0
def tw16921161841609643413:=0
def tw1653550467200728451:=0
def tw16369818344508324046:=0
def tw16264070836017715087:=0
def tw16231438358778849924:=0
def tw15458809922715909324:=0
def tw14970106134778971099:=0
def tw14298027107104924667:=0
def tw14297414887294829942:=0
def tw14187972785791474105:=0
def tw13858225850236873004:=0
def tw13597327356044901959:=0
def tw13327728880720799109:=0
def tw1316110504491055633:=0
def tw13100982188591289491:=0
def tw12906445385118807601:=0
def tw1287071036593263664:=0
def tw12791190213233734589:=0
def tw12687564628503300806:=0
def tw12422346250147677770:=0
def tw11990782040838080118:=0
def tw11876361906330587759:=0
def tw11718965279504426869:=0
def tw11716878573928384290:=0
def tw11698814912133080675:=0
def tw10615942042341451225:=0
def tw10574775033252175142:=0
def tw10405424714859601730:=0
def tw10385317261492874042:=0
def tw97274725464284570:=0
def tw11694132502374988107:=0
def tw2305912907582518861:=0
def tw15078759460787849132:=0
def tw14941527442274664728:=0
def tw12347898610538269942:=0
def tw1595595216955084375:=0
def tw9437687367950842922:=0
def tw8900101618572568937:=0
def tw6028399272151614018:=0
def tw5578883079065977675:=0
def tw18187522174492218475:=0
def tw17612457163155547955:=0
def tw17254345152060842479:=0
def tw15583357290850495584:=0
def tw14771150933629344347:=0
def tw14638494381509236232:=0
def tw1342535681592365803:=0
def tw13345838780887658475:=0
def tw11394906456180060919:=0
def tw12120138224962922825:=0
def tw6085845856000394978:=0
def tw12339047143783993437:=0
def tw4472635073666572601:=0
def tw3641233726657944705:=0
def tw3757126946615764921:=0
def tw7967588800536025772:=0
def tw7669704993434411535:=0
def tw7119688569367938827:=0
def tw6149660484644046599:=0
def tw5478621788748185527:=0
def tw5468098257363550679:=0
def tw470092166925849726:=0
def tw4630455265397733240:=0
def tw4234159110622900413:=0
def tw4142363451731571842:=0
def tw3188646348950022763:=0
def tw2341517110534077243:=0
def tw18056001464517791535:=0
def tw17136690774086945936:=0
def tw16662719956571375618:=0
def tw11810388187002562748:=0
def tw10327174142343191769:=0
def tw10763648859669542482:=0
def tw9993658964935783123:=0
def tw6508985139674678981:=0
def tw6323906462473686351:=0
def tw1651962311375583077:=0
def tw10888379739284047625:=0
end PySem.W.Fast
open PySem PySem.W PyProof.Rows
set_option maxRecDepth 100000 in
set_option maxHeartbeats 0 in
theorem PySem.Challenge.cw_chargeyard_k92_whole_from_text_to_peak_holds : PySem.Challenge.rw_chargeyard_k92_whole_from_text_to_peak.Holds := by
 w_on; o_law; k_head; (case hw=>w_witness2)
 k_fill
 refine L2.ZsK (l:=PySem.Challenge.rw_chargeyard_k92_whole_from_text_to_peak) (k:=13) (x := "_law_script") rfl rfl ⟨rfl,by decide,by decide⟩ (λw h Y=>W.kIn_of Y) ?F
 case F=>
  intro w mg fa h KX G hmg
  refine' My.Zz1 KX G hmg ?aC ?h0 ?h1 ?h2 ?h3 ?h4 ?h5 ?h6 ?h7 ?h8 ?h9 ?h10 ?h11 ?h12 ?h13 ?h14 ?h15 ?h16 ?h17 ?h18 ?h19 ?h20 ?h21 ?h22 ?h23 ?h24 ?h25 ?h26 ?h27 ?h28 ?h29 ?h30 ?h31 ?h32 ?h33 ?h34 ?h35 ?h36 ?h37 ?h38 ?h39 ?h40 ?h41 ?h42 ?h43 ?h44 ?h45 ?h46 ?h47 ?h48 ?h49 ?h50 ?h51 ?h52 ?h53 ?h54 ?h55 ?h56 ?h57 ?h58 ?h59 ?h60 ?h61 ?h62 ?h63 ?h64 ?h65 ?h66 ?h67 ?h68 ?h69 ?h70 ?h71 ?h72 ?h73 ?h74 ?h75 ?h76 ?h77 ?h78 ?h79 ?h80 ?h81 ?h82 ?h83 ?h84 ?h85 ?h86 ?a87 ?l87 ?c87 ?k87 ?m88 ?m89 ?m90 ?m91 ?m92 ?m93 ?m94 ?a95 ?i95 ?l95 ?c95 ?k95 ?pg ?hd ?po ?sa ?mk ?kc ?n0 ?n1 ?n2 ?n3 ?aS ?lS ?aE ?lE ?rC ?rY ?rf ?rl ?rc ?rk ?rx ?rg ?rr ?ri ?rs ?ro ?rd ?rt ?rK ?z0 ?z1 ?z2 ?z3 ?z4 ?z5 ?z6 ?z7 ?z8 ?z9 ?z10 ?z11 ?z12 ?z13 ?z14 ?z15 ?z16 ?z17
  case aC | a87 | l87 | c87 | k87 | a95 | i95 | l95 | c95 | k95 | pg | hd | po | sa | mk | kc | n0 | n1 | n2 | n3 | aS | lS | aE | lE | rC | rY | rf | rl | rc | rk | rg | rr | ri | rs | rd | rt | rK | z0 | z1 | z2 | z3 | z4 | z5 | z6 | z7 | z8 | z9 | z10 | z11 | z12 | z13 | z14 | z15 | z16 | z17=>k_is
  case h0 | h1 | h2 | h3 | h4 | h5 | h6 | h7 | h8 | h9 | h10 | h11 | h12 | h13 | h14 | h15 | h16 | h17 | h18 | h19 | h20 | h21 | h22 | h23 | h24 | h25 | h26 | h27 | h28 | h29 | h30 | h31 | h32 | h33 | h34 | h35 | h36 | h37 | h38 | h39 | h40 | h41 | h42 | h43 | h44 | h45 | h46 | h47 | h48 | h49 | h50 | h51 | h52 | h53 | h54 | h55 | h56 | h57 | h58 | h59 | h60 | h61 | h62 | h63 | h64 | h65 | h66 | h67 | h68 | h69 | h70 | h71 | h72 | h73 | h74 | h75 | h76 | h77 | h78 | h79 | h80 | h81 | h82 | h83 | h84 | h85 | h86=>
   refine' My.DH.mk ?a ?l ?c ?k
   case a | l | c | k=>k_is
  case m88 | m89 | m90 | m91 | m92 | m93 | m94=>
   refine' My.MH.mk ?a ?i ?l ?c ?k
   case a | i | l | c | k=>k_is
  case rx | ro=>with_unfolding_all exact Eq.refl true
end
