import PyProof.Rows.All
import Wide.All
import OpenK.AllK
import Lean
import PySem.Challenge.RW_chargeyard_k64_bounds_set
noncomputable section
set_option Elab.async false
set_option linter.all false
set_option maxRecDepth 100000
set_option maxHeartbeats 4000000
set_option compiler.extract_closed false
set_option genSizeOf false
section
open PySem PySem.Spec PyProof.Rows
def Qa{b:Sort _}{a:b}{q:Prop}:a=a\/q:=Or.inl rfl
def zP:=@PySem.F.plainAttrs_list
def zS:=@PySem.F.slot_list_append
def zT:=@PySem.F.type_list_append
def zN:=@PassesOwn.never
abbrev Qb:=Value->Shared->Prop
abbrev Qc:=List (Addr×Obj)
abbrev Qd:=List PyData
abbrev Qe:=List Value
abbrev Qf:=Option Value
abbrev Qg:=List Addr
abbrev Qh:=List Str
abbrev Zaa:Qh:=["yard","guests"]
abbrev Zab:Qh:=["self","start","end","room"]
abbrev Zac:Qh:=["net","yard","number","guest"]
abbrev Zad:Qh:=["yard","guests","some"]
abbrev Zae:Qh:=["_law_yard_here","_law_rows","_law_picked","_law_now"]
abbrev Zaf:Qh:=["yard","guests","some","turn"]
abbrev Zag:Qh:=["_law_yard_here","_law_rows","_law_now","_law_numbers","_law_bits","_law_picked"]
abbrev Zah:Qh:=["_law_hand","_law_yard_here","_law_rows","_law_feed_here"]
abbrev Zai:Qh:=["_law_yard_here","_law_rows","_law_picked","_law_turn"]
abbrev Zaj:Qh:=["_law_feed_here","_law_yard_here","_law_now","_law_first","_law_last","_law_line","_law_scale","_law_want"]
abbrev Zak:Qh:=["_law_yard_here","_law_line","_law_turn","_law_bound"]
abbrev Zal:Qh:=["_law_yard_here","_law_rows","_law_gifts","_law_turn"]
abbrev Zam:Qh:=["_law_some","_law_yard_here","_law_rows","_law_now"]
abbrev Zan:Qh:=["self","line","turn","bound"]
abbrev Zao:Qh:=["_law_hand","_law_line","_law_turn","_law_bound"]
abbrev Zap:Qh:=["_law_yard_here","_law_rows","_law_gifts","_law_turn","_law_load","_law_number","_law_k"]
abbrev Zaq:Qh:=["_law_feed_here","_law_yard_here","_law_now"]
abbrev Zar:Qh:=["self","start","end"]
abbrev Zas:Qh:=["_law_hand","_law_guest_here","_law_told","e","_law_marks"]
abbrev Zat:Qh:=["_law_feed_here","_law_many"]
abbrev Zau:Qh:=["_law_yard_here","_law_rows","_law_picked","_law_now","_law_total","_law_turn"]
abbrev Zav:Qh:=["_law_yard_here","_law_rows","_law_now"]
abbrev Zaw:Qh:=["guest","turn"]
abbrev Zax:Qh:=["self"]
abbrev Zay:Qh:=["thing","least","end"]
abbrev Zaz:Qh:=["self","number"]
abbrev ZaA:Qh:=["yard","line","turn","bound"]
abbrev ZaB:Qh:=["yard","line","turn"]
abbrev ZaC:Qh:=["yard","guests","some","turn","reaching","number","guest","line"]
abbrev ZaD:Qh:=["guest"]
abbrev ZaE:Qh:=["_law_hand","_law_guest_here"]
abbrev ZaF:Qh:=["_law_script","_law_k"]
abbrev ZaG:Qh:=["self","turn"]
abbrev ZaH:Qh:=["_law_k","_law_marks","e"]
abbrev ZaI:Qh:=["yard"]
abbrev ZaJ:Qh:=["yard","line"]
abbrev ZaK:Qh:=["line","turn"]
abbrev ZaL:Qh:=["number","guest","net","yard"]
abbrev ZaM:Qh:=["self","edges","end"]
abbrev ZaN:Qh:=["_law_above","_law_bounds"]
abbrev ZaO:Qh:=["thing","length"]
abbrev ZaP:Qh:=["net","yard","turn"]
abbrev ZaQ:Qh:=["self","some"]
abbrev ZaR:Qh:=["self","yard"]
abbrev ZaS:Qh:=["thing","least"]
abbrev ZaT:Qh:=["self","start"]
abbrev ZaU:Qh:=["yard","thing"]
abbrev ZaV:Qh:=["guest","want"]
abbrev ZaW:Qh:=["self","guest"]
abbrev ZaX:Qh:=["_law_feed_here"]
abbrev ZaY:Qh:=["number"]
abbrev Qi:=List Expr
abbrev Qj:=Option Addr
abbrev Qk:=List Nat
abbrev Ql:=List Int
abbrev Qm:=Nat->Bool
abbrev Qn:=Nat->Int
def Xa:=@wpAny_bind
def Xb:=@if_neg
def Xc:=@List.mem_cons_self
def Xd:=@if_pos
def Xe:=@List.mem_cons
def Xf:=@List.getElem?_eq_some_iff
def Xg:=@Heap.get?_push_of_some
def Xh:=@List.mem_singleton
def Xi:=@List.mem_cons_of_mem
def Xj:=@wpAny_pure
def Xk:=@Heap.lt_size
def Xl:=@List.length_map
def Xm:=@List.getElem?_set_self
def Xn:=@List.length_append
def Xo:=@Int.toNat_natCast
def Xp:=@Nat.lt_of_lt_of_le
def Xq:=@Nat.le_refl
def Xr:=@Nat.ne_of_lt
def Xs:=@List.getElem?_map
def Xt:=@List.getElem?_set_ne
def Xu:=@List.size_toArray
def Xv:=@List.nodup_cons
def Xw:=@List.map_cons
def Xx:=@List.append_nil
def Xy:=@List.find?_cons
def Xz:=@absurd
def XB:=@Heap.get?_push_size
def XD:=@List.mem_append
def XF:=@List.map_append
def XG:=@Bool.false_ne_true
def XH:=@List.mem_range
def XI:=@decide_eq_false
def XJ:=@decide_eq_true
def XL:=@List.mem_map
def XM:=@List.lookup_cons
def XN:=@List.length_cons
def XQ:=@Nat.zero_le
def XS:=@List.getElem?_eq_getElem
def XT:=@List.mem_append_right
def XU:=@List.not_mem_nil
def XV:=@Heap.get?_update_other
def XW:=@of_decide_eq_true
def XX:=@List.getElem_mem
def X0:=@Nat.le_trans
def X5:=@Int.toNat_of_nonneg
def X6:=@Bool.false_eq_true
def X7:=@List.map_map
def X8:=@Heap.get?_update_self
def X9:=@congrArg
def YL:=@List.range_succ
def Yo:=@Nat.ne_of_gt
def Wb:=@Bool.and_eq_true
def WK:=@List.map_congr_left
def Y5:=@Nat.lt_irrefl
def Wa:=@Option.map_some
def Ws:=@List.length_take
def Wr:=@List.mem_flatMap
def UI:=@List.getElem?_append_left
def Y4:=@Nat.le_of_lt
def JS:=@List.getElem?_eq_none
def JR:=@List.mem_append_left
def YK:=@Int.zero_add
def JQ:=@List.replicate_succ
def WJ:=@List.mem_filter
def Jj:=@Nat.lt_succ_self
def Ji:=@List.take_length
def JP:=@List.filter_append
def YZ:=@Int.add_zero
def JO:=@of_decide_eq_false
def YJ:=@Int.le_refl
def WI:=@Heap.size_push
def JN:=@Option.isSome_map
def JM:=@List.length_range
def UG:=@List.flatMap_append
def BO:=@List.getElem?_append_right
def JV:=@List.filter_cons
def Wt:=@wpAny_field
def JU:=@List.length_set
def GQ:=@List.mem_iff_getElem
def UO:=@List.flatten_cons
def UN:=@List.nodup_append
def JT:=@List.take_succ
def GP:=@List.append_assoc
def GO:=@Nat.lt_succ_of_lt
def UM:=@List.nodup_nil
def GN:=@List.length_drop
def GM:=@List.cons_append
def Dx:=@List.getElem?_replicate
def UL:=@Bool.not_true
def UK:=@List.sum_cons
def NO:=@List.eq_nil_of_length_eq_zero
def Dw:=@List.pairwise_flatMap
def UJ:=@Nat.le_succ
def Dv:=@List.length_pos_iff
def BQ:=@List.nil_append
def BP:=@List.sum_append
def NN:=@List.getElem?_eq_none_iff
def NM:=@List.drop_eq_getElem_cons
def GL:=@List.map_nil
def Du:=@Nat.lt_of_le_of_lt
def GK:=@List.map_set
def GS:=@Int.le_trans
def NR:=@List.getElem?_cons_succ
def NQ:=@List.filter_cons_of_pos
def NP:=@List.filter_cons_of_neg
def Dz:=@List.flatMap_cons
def Dy:=@Heap.get?_push_at
def GR:=@Int.mul_sub
end
namespace L2
open PySem PySem.Spec PyProof.Rows
abbrev Key:=Sum Int Str
def Uq:Key->Value->Bool
 |.inl k,v=>Value.isInt k v
 |.inr x,v=>Value.isStrOf x v
def Fq(w:World):Key->Int
 |.inl k=>hashInt k
 |.inr x=>hashStr w x
theorem WG:∀{k:Key} {v:Value},Uq k v=true->(∃i t,k=Sum.inl i/\v=Value.int i t)\/(∃x t,k=Sum.inr x/\v=Value.str x t)
 |.inl i,v,h=>by
  obtain⟨t,e⟩:=Value.isInt_shape (k:=i) (v:=v) h;exact .inl ⟨i,t,rfl,e⟩
 |.inr x,v,h=>by
  obtain⟨t,e⟩:=Value.isStrOf_shape (x:=x) (v:=v) h;exact .inr ⟨x,t,rfl,e⟩
def ZnI(i:Int)(t:Tok):Uq (.inl i) (.int i t)=true:=by simp[Uq,Value.isInt]
def O9(x:Str)(t:Tok):Uq (.inr x) (.str x t)=true:=by simp[Uq,Value.isStrOf]
def C1(a b:Int):decide ((Sum.inl a:Key)=Sum.inl b)=(a==b):=by
 by_cases e:a=b
 .subst e;simp
 .have h:¬(Sum.inl a:Key)=Sum.inl b:=λq=>e (Sum.inl.inj q)
  rw[XI h];exact(beq_eq_false_iff_ne.mpr e).symm
def C3(a b:Str):decide ((Sum.inr a:Key)=Sum.inr b)=decide (a=b):=by
 by_cases e:a=b
 .subst e;simp
 .have h:¬(Sum.inr a:Key)=Sum.inr b:=λq=>e (Sum.inr.inj q)
  rw[XI h,XI e]
def F6(a:Int)(b:Str):decide ((Sum.inl a:Key)=Sum.inr b)=false:=XI (by rintro⟨⟩)
def F9(a:Str)(b:Int):decide ((Sum.inr a:Key)=Sum.inl b)=false:=XI (by rintro⟨⟩)
def Vr(prog:Program)(w:World):PySem.KeyKind prog w Key where
 is:=Uq
 hash:=Fq w
 inj:=λv a b l f=>by
  rcases WG l with ⟨i,t,rfl,rfl⟩|⟨x,t,rfl,rfl⟩
  .rcases WG f with ⟨j,u,rfl,e⟩|⟨y,u,rfl,e⟩
   .injection e with c _;rw[c]
   .exact nomatch e
  .rcases WG f with ⟨j,u,rfl,e⟩|⟨y,u,rfl,e⟩
   .exact nomatch e
   .injection e with c _;rw[c]
 byValue:=λk v h=>by
  rcases WG h with ⟨i,t,rfl,rfl⟩|⟨x,t,rfl,rfl⟩<;>rfl
 pyHash:=λd h=>by
  rcases WG d with ⟨i,t,rfl,rfl⟩|⟨x,t,rfl,rfl⟩
  .exact wpAny_pyHash_int h
  .exact wpAny_pyHash_str h
 eqBool:=λg d h=>by
  rcases WG g with ⟨i,t,rfl,rfl⟩|⟨x,t,rfl,rfl⟩
  .rcases WG d with ⟨j,u,rfl,rfl⟩|⟨y,u,rfl,rfl⟩
   .rw[C1]at h;exact wpAny_eqBool_int h
   .rw[F6]at h;exact SeqAt.EqAt.int_str i t y u _ _ _ _ h
  .rcases WG d with ⟨j,u,rfl,rfl⟩|⟨y,u,rfl,rfl⟩
   .rw[F9]at h;exact SeqAt.EqAt.str_int x t j u _ _ _ _ h
   .rw[C3]at h;exact wpAny_eqBool_str h
 «strs» := λk x t v h=>by
  rcases WG h with ⟨i,u,rfl,e⟩|⟨y,u,rfl,e⟩
  .exact nomatch e
  .injection e with c _;subst c;cases v<;>rfl
def Zlq(prog:Program)(w:World)(i:Int)(t:Tok):(Vr prog w).is (.inl i) (.int i t)=true:=ZnI i t
def Zk3(prog:Program)(w:World)(x:Str)(t:Tok):(Vr prog w).is (.inr x) (.str x t)=true:=O9 x t
end L2
open PySem PySem.Spec PyProof.Rows
variable {P prog:Program}{w:World}{h h':Heap}{C Y a dx f0:Addr}{Xa7:Qc}{s s0:Shared}{b tg:Expr}{SF L3 p pos pos':Pos}{E:Qb}{A:Around}{K:W.Frag}{f m nm qual:Str}{es:Qi}{fd:FuncData}{ps sn:Qh}{mg:Str->Qf}{cd r:Value}{i j n:Nat}{g:Array GenState}{bm L1:Qe}{ab Sf:Bool}{col:Option Bool}{dd:Qj}{k0 k1 k2 k3 k5:Qf}{B initId newId:String}{M:Model}{scope:Scope}{outer:List Env}{ds:Qd}{T1:List (Qd)}{d1:PyData}
namespace L2
inductive V where
 |non|bl (b:Bool)|int (i:Int)|str (x:Str)|byt (b:Array UInt8)|flt (b:UInt64)|ref (a:Addr)|ty (n:String)
 deriving DecidableEq
def QN:V->Value->Prop
 |.non,u=>u=Value.none
 |.bl b,u=>u=Value.bool b
 |.int i,u=>∃t,u=Value.int i t
 |.str x,u=>∃t,u=Value.str x t
 |.byt b,u=>∃t,u=Value.bytes b t
 |.flt b,u=>∃t,u=Value.float b t
 |.ref a,u=>u=Value.ref a
 |.ty n,u=>u=Value.type n
abbrev QQ:List V->Qe->Prop:=Paired QN
def QQ.length(r:QQ xs us):xs.length=us.length:=Paired.length r
theorem QQ.get:∀{xs:List V} {us:Qe} {i:Nat} {x:V},QQ xs us->xs[i]?=some x->∃u,us[i]?=some u/\QN x u
 |_,_,_,_,.nil,e=>by simp at e
 |_,_,0,_,.cons r _,e=>by simp at e;subst e;exact⟨_,rfl,r⟩
 |_,_,i+1,x,.cons _ t,e=>by
  obtain⟨u,b,a⟩:=QQ.get (i:=i) (x:=x) t (by simpa using e);exact⟨u,by simpa using b,a⟩
theorem QQ.set{x:V}{u:Value}(r:QN x u):∀{xs:List V} {us:Qe} (i:Nat),QQ xs us->QQ (xs.set i x) (us.set i u)
 |_,_,_,.nil=>.nil
 |_,_,0,.cons _ t=>.cons r t
 |_,_,i+1,.cons q t=>.cons q (QQ.set r i t)
theorem QQ.append:∀{xs ys:List V} {us ws:Qe},QQ xs us->QQ ys ws->QQ (xs++ys) (us++ws)
 |_,_,_,_,.nil,s=>s
 |_,_,_,_,.cons r t,s=>.cons r (QQ.append t s)
theorem QQ.take:∀{xs:List V} {us:Qe} (n:Nat),QQ xs us->QQ (xs.take n) (us.take n)
 |_,_,0,_=>.nil
 |_,_,_+1,.nil=>.nil
 |_,_,n+1,.cons r t=>.cons r (QQ.take n t)
theorem QQ.drop:∀{xs:List V} {us:Qe} (n:Nat),QQ xs us->QQ (xs.drop n) (us.drop n)
 |_,_,0,r=>r
 |_,_,_+1,.nil=>.nil
 |_,_,n+1,.cons _ t=>QQ.drop n t
def ZT:Option V->Qf->Prop
 |some v,some u=>QN v u
 |none,none=>True
 |_,_=>False
def KV{a:Type}:List (a×V)->List (a×Value)->Prop:=Paired λ(p:a×V) (q:a×Value)=>p.1=q.1/\QN p.2 q.2
def kV:Key->V
 |.inl i=>.int i
 |.inr x=>.str x
inductive HO where
 |lst (xs:List V)
 |tup (xs:List V)
 |dK (L0:List (Key×V))|dT (L0:List (List Key×V))
 |set (S:Int->Bool)(n:Nat)
 |ins (C dx:Addr)(fs:List (Str×V))
 |own (x:Addr)
 |xd (fs:List (Str×V))
 |met (f x:Addr)
 |rng (lo hi:Int)
 |frz (o:Obj)(u:HO)
 |tbl (ps:Array Value)
 |ext (φ:Heap->Prop)
abbrev Hp:=Addr->Option HO
def upd(H:Hp)(a:Addr)(o:HO):Hp:=λb=>if b=a then some o else H b
def QG : upd H a o a=some o:=by unfold upd;rw[Xd rfl]
def Qu{b:Addr}(h:b≠a):upd H a o b=H b:=by unfold upd;rw[Xb h]
def RD{H:Hp}{b:Addr}{o u:HO}(h:H a=some o)(h':H b=some u)(d:o≠u):a≠b:=by
 intro e;subst e;rw[h]at h';exact d (Option.some.inj h')
def Z0{H:Hp}{b:Addr}{o:HO}(h:H a=some o)(h':H b=none):a≠b:=by
 intro e;subst e;rw[h]at h';cases h'
def Wc:1<=1000:=by decide
def YO:2<=1000:=by decide
section
variable (P:Program)(w:World)
def Z6(H:Hp)(h:Heap)(a:Addr):HO->Prop
 |.lst i=>i.length<=sizeLine/\∃(g:Qe) (n:Nat),QQ i g/\h.get? a=some { cls:=.type "list",data:=.seq g.toArray n }
 |.tup i=>i.length<=sizeLine/\∃g:Qe,QQ i g/\IsTup h a g.toArray
 |.dK b=>b.length<=sizeLine/\(a==sysModules)=false/\∃s,KV b s/\h.DictOf (Vr P w) a s
 |.dT b=>b.length<=sizeLine/\(a==sysModules)=false/\∃i:List (List Key×Addr×Value),
  Paired (λ(p:List Key×V) (q:List Key×Addr×Value)=>p.1=q.1/\H q.2.1=some (.tup<|p.1.map kV)/\QN p.2 q.2.2) b i/\
  ∃o es M,h.get? a=some o/\o.ExactDict/\o.data=.dict es M/\es.toList=i.map (entryOfKey<|tupleKind<|Vr P w)/\(i.map (·.1)).Nodup
 |.set S n=>h.SetOf (intKind P w) a S n
 |.ins C dx m=>H dx=some (.own a)/\m.length<=1000/\dx≠a/\h.get? a=some (W.instObj C dx)/\
  ∃j,h.Ns1 dx j/\(∀f,ZT (m.lookup f)<|j f)/\PySem.Within j (m.map (·.1))
 |.own _=>∃o,h.get? a=some o
 |.xd m=>∃j,h.Ns1 a j/\∀f,ZT (m.lookup f) (j f)
 |.rng E K=>∃t u v,h.get? a=some { cls:=.type "range",data:=.fields #[.int E t,.int K u,.int 1 v] }
 |.frz o u=>h.get? a=some o/\Z6 H h a u
 |.tbl ps=>h.get? a=some { cls:=.none,data:=.fields ps }
 |.met f x=>h.get? a=some (W.methodObj (.ref f)<|.ref x)
 |.ext r=>r h/\(∃o,h.get? a=some o)/\∀B A:Heap,r B->(∀o,B.get? a=some o->A.get? a=some o)->r A
def HOk(H:Hp)(h:Heap):Prop := ∀a o,H a=some o->Z6 P w H h a o
end
section
variable {H H':Hp}{o:HO}
def Z6.lt(x:Z6 P w H h a o):a<h.objs.size:=by
 cases o with
 |lst g=>obtain⟨_,_,_,_,e⟩:=x;exact Xk e
 |tup g=>obtain⟨_,_,_,p⟩:=x;exact p.lt
 |dK b=>obtain⟨_,_,_,_,o,_,_,e,_⟩:=x;exact Xk e
 |dT b=>obtain⟨_,_,_,_,o,_,_,e,_⟩:=x;exact Xk e
 |set S n=>obtain⟨o,_,_,_,e,_⟩:=x;exact Xk e
 |ins C dx i=>obtain⟨_,_,_,e,_⟩:=x;exact Xk e
 |own y=>obtain⟨_,e⟩:=x;exact Xk e
 |xd i=>obtain⟨_,⟨_,_,_,e,_⟩,_⟩:=x;exact Xk e
 |rng r s=>obtain⟨_,_,_,e⟩:=x;exact Xk e
 |frz m u=>obtain⟨e,_⟩:=x;exact Xk e
 |tbl ps=>exact Xk (show h.get? a=some _ from x)
 |met f y=>exact Xk (show h.get? a=some _ from x)
 |ext j=>obtain⟨_,⟨_,e⟩,_⟩:=x;exact Xk e
theorem Paired.mapP{h g:Type}{F G:h->g->Prop}:∀{j:List h} {i:List g},Paired F j i->(∀a b,F a b->G a b)->Paired G j i
 |_,_,.nil,_=>.nil
 |_,_,.cons r t,f=>.cons (f _ _ r) (Paired.mapP t f)
def Z6.stay(x:Z6 P w H h a o)(k:∀b u,(b=a\/H b=some (.own a))->h.get? b=some u->h'.get? b=some u)
(l:∀b,H b=some (.own a)->H' b=some (.own a))(Y:∀b xs,H b=some (.tup xs)->H' b=some (.tup xs)):Z6 P w H' h' a o:=by
 induction o with
 |lst xs=>obtain⟨z,j,n,r,e⟩:=x;exact⟨z,j,n,r,k _ _ (.inl rfl) e⟩
 |tup xs=>obtain⟨z,j,r,g,e,c⟩:=x;exact⟨z,j,r,g,k _ _ (.inl rfl) e,c⟩
 |dK A=>obtain⟨z,y,E,r,g,es,i,e,c⟩:=x;exact⟨z,y,E,r,g,es,i,k _ _ (.inl rfl) e,c⟩
 |dT A=>
  obtain⟨z,y,xs,r,g,es,i,e,c⟩:=x;exact⟨z,y,xs,Paired.mapP r λp q z=>⟨z.1,Y _ _ z.2.1,z.2.2⟩,g,es,i,k _ _ (.inl rfl) e,c⟩
 |set S n=>obtain⟨g,es,i,t,e,c⟩:=x;exact⟨g,es,i,t,k _ _ (.inl rfl) e,c⟩
 |ins C dx D=>
  obtain⟨d,z,K,e,s,⟨m,es,i,F,c⟩,r⟩:=x;exact⟨l _ d,z,K,k _ _ (.inl rfl) e,s,⟨m,es,i,k _ _ (.inr d) F,c⟩,r⟩
 |own y=>obtain⟨g,e⟩:=x;exact⟨g,k _ _ (.inl rfl) e⟩
 |xd D=>obtain⟨s,⟨m,es,i,e,c⟩,r⟩:=x;exact⟨s,⟨m,es,i,k _ _ (.inl rfl) e,c⟩,r⟩
 |rng I J=>obtain⟨t,u,v,e⟩:=x;exact⟨t,u,v,k _ _ (.inl rfl) e⟩
 |frz g u M=>obtain⟨e,q⟩:=x;exact⟨k _ _ (.inl rfl) e,M q⟩
 |tbl ps=>
  have e:h.get? a=some { cls:=.none,data:=.fields ps }:=x;show h'.get? a=some { cls:=.none,data:=.fields ps };exact k a _ (.inl rfl) e
 |met f y=>
  have e:h.get? a=some (W.methodObj (.ref f)<|.ref y):=x;show h'.get? a=some (W.methodObj (.ref f)<|.ref y);exact k a _ (.inl rfl) e
 |ext G=>obtain⟨p,⟨o,e⟩,B⟩:=x;exact⟨B _ _ p λo q=>k _ _ (.inl rfl) q,⟨o,k _ _ (.inl rfl) e⟩,B⟩
def HOk.lt(x:HOk P w H h)(e:H a=some o):a<h.objs.size:=(x a o e).lt
def HOk.fresh(x:HOk P w H h)(e:h.objs.size<=a):H a=none:=by
 cases q:H a with
 |none=>rfl
 |some u=>exact Xz (Xp (x.lt q) e) (Y5 _)
def HOk.kept(x:HOk P w H h)(k:∀b u,h.get? b=some u->h'.get? b=some u):HOk P w H h':=λa o e=>
 (x a o e).stay (λb u _ q=>k b u q) (λ_ q=>q) λ_ _ q=>q
def HOk.laid(x:HOk P w H h)(k:∀b u,h.get? b=some u->h'.get? b=some u)(j:h.objs.size<=a)(f:Z6 P w (upd H a o) h' a o):HOk P w (upd H a o) h':=λb u e=>by
 have g:=x.fresh j
 by_cases i:b=a
 .subst i;rw[QG]at e;cases e;exact f
 .rw[Qu i]at e;exact(x b u e).stay (λc v _ q=>k c v q) (λc q=>by rw[Qu<|Z0 q g];exact q) λc m q=>by rw[Qu<|Z0 q g];exact q
end
def Rd(H:Hp)(a:Addr)(u:HO):Prop:=H a=some u\/∃o,H a=some (.frz o u)
def Rd.of(h:H a=some u):Rd H a u:=.inl h
def Rd.ok(r:Rd H a u)(x:HOk P w H h):Z6 P w H h a u:=by
 rcases r with r|⟨o,r⟩
 .exact x a u r
 .obtain⟨_,q⟩:=x a _ r;exact q
def Mut:Option HO->Prop
 |some (.lst _)=>True
 |some (.dK _)=>True
 |some (.dT _)=>True
 |some (.set _ _)=>True
 |some (.ins _ _ _)=>True
 |some (.ext _)=>True
 |_=>False
section
variable {H:Hp}{x e:Addr}{o':HO}
def HOk.write(B:HOk P w H h)(j:Mut (H x))(he:e=x\/H e=some (.own x))(k:∀b u,b≠e->h.get? b=some u->h'.get? b=some u)(s:∃u,h'.get? e=some u)
(p:Z6 P w (upd H x o') h' x o'):HOk P w (upd H x o') h':=λb u q=>by
 have f:∀c y,H c=some (.own y)->c≠x:=λc y r z=>by subst z;rw[r]at j;exact j
 have g:∀c i,H c=some (.tup i)->c≠x:=λc i r z=>by subst z;rw[r]at j;exact j
 by_cases n:b=x
 .subst n;rw[QG]at q;cases q;exact p
 .rw[Qu n]at q
  by_cases a:b=e
  .have A:H b=some (.own x):=by
    rcases he with z|z
    .exact Xz (a.trans z) n
    .rw[a];exact z
   rw[q]at A;cases A;obtain⟨v,C⟩:=s;exact⟨v,by rw[a];exact C⟩
  .refine(B b u q).stay (λc v m r=>k c v ?_ r) (λc r=>by rw[Qu<|f c b r];exact r) λc i r=>by rw[Qu<|g c i r];exact r
   rcases m with rfl|m
   .exact a
   .rintro rfl;rcases he with z|z
    .exact f c b m z
    .rw[m]at z;cases z;exact n rfl
end
structure Un(fs ex:Qg)(H H':Hp)(h h':Heap):Prop where
 keep:∀b o,h.get? b=some o->H b=none->b∉fs->b∉ex->h'.get? b=some o
 slot:∀b o,h.get? b=some o->H b=none->b∈fs->b∉ex->∃sl,h'.get? b=some { o with slots:=sl }
 free:∀b o,h.get? b=some o->H b=none->b∉ex->H' b=none
 there:∀b o,h.get? b=some o->b∉ex->∃o',h'.get? b=some o'
 tups:∀b xs,H b=some (.tup xs)->H' b=some (.tup xs)
 frzs:∀b o u,H b=some (.frz o u)->H' b=some (.frz o u)
 tupo:∀b xs o,H b=some (.tup xs)->h.get? b=some o->b∉ex->h'.get? b=some o
 tbls:∀b ps,H b=some (.tbl ps)->∃more,H' b=some (.tbl<|ps++more)
section
variable {fs ex:Qg}{H H1:Hp}{h1:Heap}{x e:Addr}{o:HO}
def Un.any(u:Un fs ex H H1 h h1){b:Addr}(q:h.get? b=some ob)(n:H b=none)(a:b∉ex):∃f,h1.get? b=some { ob with slots:=f }:=by
 by_cases e:b∈fs
 .exact u.slot b ob q n e a
 .exact⟨ob.slots,u.keep b ob q n e a⟩
def Un.kept(k:∀b u,h.get? b=some u->h'.get? b=some u):Un fs ex H H h h':=
 ⟨λb a q _ _ _=>k b a q,λb a q _ _ _=>⟨a.slots,k b a q⟩,λ_ _ _ n _=>n,λb a q _=>⟨a,k b a q⟩,λ_ _ q=>q,λ_ _ _ q=>q,λb _ a _ e _=>k b a e,λ_ ps q=>⟨#[],by rw[q];simp⟩⟩
def Un.refl:Un fs ex H H h h:=Un.kept λ_ _ q=>q
theorem Un.laid(k:∀b u,h.get? b=some u->h'.get? b=some u)(i:h.objs.size<=a)(hn:H a=none):Un fs ex H (upd H a o) h h' where
 keep:=λb u q _ _ _=>k b u q
 slot:=λb u q _ _ _=>⟨u.slots,k b u q⟩
 free:=λb u q n _=>by rw[Qu<|Xr<|Xp (Xk q) i];exact n
 there:=λb u q _=>⟨u,k b u q⟩
 tups:=λb f q=>by rw[Qu<|Z0 q hn];exact q
 frzs:=λb u f q=>by rw[Qu<|Z0 q hn];exact q
 tupo:=λb _ g _ e _=>k b g e
 tbls:=λb ps q=>⟨#[],by rw[Qu<|Z0 q hn,q];simp⟩
def Un.write(f:Mut (H x))(he:e=x\/H e=some (.own x))(k:∀b u,b≠e->h.get? b=some u->h'.get? b=some u)(i:∃u,h'.get? e=some u):Un fs ex H (upd H x o) h h':=by
 have m:∀b,H b=none->b≠x:=λb n z=>by subst z;rw[n]at f;exact f
 have p:∀b,H b=none->b≠e:=λb n z=>by
  subst z;rcases he with r|r
  .exact m b n r
  .rw[n]at r;cases r
 have g:∀b u,H b=some u->¬Mut (some u)->b≠x:=λb u q nm z=>by subst z;rw[q]at f;exact nm f
 refine⟨λb u q n _ _=>k b u (p b n) q,λb u q n _ _=>⟨u.slots,k b u (p b n) q⟩,λb u q n _=>by rw[Qu<|m b n];exact n,λb u q _=>?_,
  λb j q=>by rw[Qu<|g b _ q λz=>z];exact q,λb u j q=>by rw[Qu<|g b _ q λz=>z];exact q,λb j u q s _=>k b u (λz=>by
   rcases he with r|r
   .exact g b _ q (λy=>y) (z.trans r)
   .rw[<- z,q]at r;cases r) s,λb ps q=>⟨#[],by rw[Qu<|g b _ q λz=>z,q];simp⟩⟩
 by_cases a:b=e
 .subst a;exact i
 .exact⟨u,k b u a q⟩
end
def trk(h:Heap)(H:Hp):Qg:=(List.range h.objs.size).filter λa=>(H a).isSome
def WP(h:Heap)(H:Hp):Heap:=W.hideAll h (trk h H)
def IM(h:Heap)(H:Hp):(WP h H).objs.size=h.objs.size:=W.hideAll_size _ _
def EJ{b:Addr}(e:h.get? b=some o)(n:H b=none):(WP h H).get? b=some o:=
 W.hideAll_get _ e λa=>by
  have q:(H b).isSome=true:=(WJ.mp a).2;rw[n]at q;simp at q
def Ao{b:Addr}(e:(WP h H).get? b=some o):h.get? b=some o/\H b=none:=by
 have a:h.get? b=some o:=W.of_hideAll (trk h H) e;refine⟨a,?_⟩;cases q:H b with
 |none=>rfl
 |some x=>
  have f:b∈trk h H:=WJ.mpr ⟨XH.mpr<|Xk a,by simp[q]⟩;have z:(WP h H).get? b=none:=W.hideAll_none (trk h H) f;rw[z]at e;cases e
end L2
variable {xs ys:List L2.V}{v y:L2.V}{F0 H0:L2.Hp}{R RR:Addr->Qj->L2.Hp->Prop}
namespace L2
structure Mod(K:W.Frag)(mg:Str->Qf)(base:Heap):Prop where
 kin:K.In base
 glob:base.Ns mainGlobals mg
 blt:∃mb,base.Ns builtinsNs mb/\∀x:Str,x ≠ "__name__" -> mb x=bootBuiltins x
 nolimit:base.NoLimit
structure Cx where
 prog:Program
 w:World
 K:W.Frag
 mg:Str->Qf
 base:Heap
 A:Around
 N:Qh
 s₀:Shared
 H₀:Hp
 env:Env
 outer:List Env
 stack:List Env
 ex:Qg
 fn:Str->Bool
 calm:Bool
 pn:Qc
 xe:Qb
def frs(l:List Env):Qg:=l.filterMap (·.frame)
abbrev Cx.fs(X:Cx):Qg:=frs X.outer
def Vis(sc:Scope)(x:Str):Prop:=sc.names.lookup x=some .local\/sc.names.lookup x=some .cell\/sc.names.lookup x=some .free
def Loc(sc:Scope)(x:Str):Prop:=sc.names.lookup x=some .local\/sc.names.lookup x=some .cell
def Fp(env:Env)(h:Heap)(m:Str->Qf)(x:Str)(u:Value):Prop:=
 (env.kindOf x=some .local/\m x=some u)\/((env.kindOf x=some .cell\/env.kindOf x=some .free)/\∃c,env.cells.lookup x=some c/\h.IsCell c (some u))
structure Cx.Ok(X:Cx):Prop where
 mod:Mod X.K X.mg X.base
 kind:X.env.scope.kind=.function
 glob:X.env.globals=mainGlobals
 blt:X.env.builtins=builtinsNs
 above:X.s₀.heap.objs.size<=X.env.locals
 inj:∀x y c,X.env.cells.lookup x=some c->X.env.cells.lookup y=some c->x=y
 has:∀x,(X.env.kindOf x=some .cell\/X.env.kindOf x=some .free)->∃c,X.env.cells.lookup x=some c
 cab:∀x c,X.fn x=true->X.env.cells.lookup x=some c->X.s₀.heap.objs.size<=c
 hd:X.calm=true->X.A.handled=none
 frames:X.A.frames=some X.stack
 stk:X.stack=X.outer\/(X.stack=X.env::X.outer/\X.env.frame=some X.env.locals)
 exf:∀b∈X.ex,b≠X.env.locals/\∀x c,X.env.cells.lookup x=some c->c≠b
 bs:∀b o,X.base.get? b=some o->X.s₀.heap.get? b=some o/\(X.H₀ b=none\/∃xs,X.H₀ b=some (.tup xs))
 bsz:X.base.objs.size<=X.s₀.heap.objs.size
 noex:∀b o,X.base.get? b=some o->b∉X.ex
 exfs:∀b∈X.ex,b∉X.fs
 funs:X.s₀.heap.FunFrames X.base X.outer
 frf:∀b∈X.fs,X.H₀ b=none
structure Qt(X:Cx)(Xa7:Qc)(σ:List (Option V))(H:Hp)(s:Shared):Prop where
 ok:X.Ok
 os:s.os=X.s₀.os
 bare:AllBare s.gens
 base:Un X.fs X.ex X.H₀ H X.s₀.heap s.heap
 loc:∃m,s.heap.Ns X.env.locals m/\∀(i:Nat) (x:Str) (v:V),X.N[i]?=some x->σ[i]?=some (some v)->Vis X.env.scope x->∃u,QN v u/\Fp X.env s.heap m x u
 cell:∀x c,X.env.cells.lookup x=some c->∃v,s.heap.IsCell c v
 free:H X.env.locals=none
 freeC:∀x c,X.env.cells.lookup x=some c->H c=none
 pin:∀p∈X.pn++Xa7,s.heap.get? p.1=some p.2/\H p.1=none/\p.1≠X.env.locals/\p.1∉X.fs/\∀v,p.2.data≠.cell v
 hok:HOk X.prog X.w H s.heap
 len:σ.length=X.N.length
section
variable {X:Cx}{σ:List (Option V)}{H H':Hp}
def Cx.Ok.nofr(a:X.Ok){b:Addr}(e:X.base.get? b=some o):b∉X.fs:=λf=>by
 have:=(a.funs.mem f).1;rw[e]at this;cases this
def Qt.bs(I:Qt X Xa7 σ H s):∀b o,X.base.get? b=some o->s.heap.get? b=some o/\(H b=none\/∃xs,H b=some (.tup xs)):=λb o e=>by
 obtain⟨f,a⟩:=I.ok.bs b o e;rcases a with a|⟨xs,a⟩
 .exact⟨I.base.keep b o f a (I.ok.nofr e)<|I.ok.noex b o e,.inl<|I.base.free b o f a<|I.ok.noex b o e⟩
 .exact⟨I.base.tupo b xs o a f<|I.ok.noex b o e,.inr ⟨xs,I.base.tups b xs a⟩⟩
def Qt.bk(I:Qt X Xa7 σ H s):∀b o,X.base.get? b=some o->s.heap.get? b=some o:=λb o e=>(I.bs b o e).1
def Qt.mod(I:Qt X Xa7 σ H s):Mod X.K X.mg X.base:=I.ok.mod
def Qt.kIn(I:Qt X Xa7 σ H s):X.K.In s.heap:=I.ok.mod.kin.keeps I.bk
def Qt.fr(I:Qt X Xa7 σ H s):∃m,Fr X.base X.env.locals s.heap m:=
 let ⟨m,hn,_⟩:=I.loc
 ⟨m,hn,I.bk,X0 I.ok.bsz I.ok.above⟩
def Qt.lt(I:Qt X Xa7 σ H s):X.env.locals<s.heap.objs.size:=let ⟨_,hn,_⟩:=I.loc;hn.lt
def Qt.sz(I:Qt X Xa7 σ H s):X.s₀.heap.objs.size<=s.heap.objs.size:=X0 I.ok.above (Y4 I.lt)
def Qt.nofs(I:Qt X Xa7 σ H s)(h:s.heap.objs.size<=a):a∉X.fs:=λf=>by
 obtain⟨_,o,b,_⟩:=I.ok.funs.mem f;exact Xz (Xp (Xk b)<|X0 I.sz h) (Y5 _)
def Qt.cne(I:Qt X Xa7 σ H s):∀x c,X.env.cells.lookup x=some c->c≠X.env.locals:=λx c e z=>by
 obtain⟨v,o,f,g⟩:=I.cell x c e;obtain⟨m,⟨h,es,i,a,b,_⟩,_⟩:=I.loc;rw[z,a]at f;cases f;rw[b]at g;cases g
def Qt.funs(I:Qt X Xa7 σ H s):s.heap.FunFrames X.base X.outer:=by
 have h:∀(l:List Env),(∀b∈frs l,b∈X.fs)->X.s₀.heap.FunFrames X.base l->s.heap.FunFrames X.base l:=by
  intro l;induction l with
  |nil=>intro _ _;trivial
  |cons A r j=>
   intro i v;obtain⟨w,⟨L,o,a,p,n,y⟩,m⟩:=v;have g:L∈X.fs:=i L (by unfold frs;rw[List.filterMap_cons,a];exact Xc);obtain⟨B,e⟩:=I.base.slot L o n (I.ok.frf L g) g λz=>I.ok.exfs L z g
   exact⟨w,⟨L,_,a,p,e,y⟩,j (λb f=>i b<|by unfold frs;rw[List.filterMap_cons,a];exact Xi _ f) m⟩
 exact h X.outer (λ_ f=>f) I.ok.funs
def Qt.stack(I:Qt X Xa7 σ H s):s.heap.FunFrames X.base X.stack:=by
 rcases I.ok.stk with e|⟨e,b⟩
 .rw[e];exact I.funs
 .rw[e];obtain⟨m,a,_⟩:=I.loc;refine .cons (by rw[I.ok.kind];decide) b a ?_ I.funs;exact Heap.get?_none_of_le (X0 I.ok.bsz I.ok.above)
def Qt.stkSub(I:Qt X Xa7 σ H s):∀b∈frs X.stack,b∈X.env.locals::X.fs:=λb a=>by
 rcases I.ok.stk with e|⟨e,f⟩
 .rw[e]at a;exact Xi _ a
 .rw[e]at a;unfold frs at a;rw[List.filterMap_cons,f]at a;exact a
def Qt.stkFree(I:Qt X Xa7 σ H s):∀b∈frs X.stack,H b=none:=λb a=>by
 rcases Xe.mp (I.stkSub b a) with e|a
 .rw[e];exact I.free
 .obtain⟨_,o,f,_⟩:=I.ok.funs.mem a;exact I.base.free b o f (I.ok.frf b a) λz=>I.ok.exfs b z a
def Qt.step{t':Nat}{ch:Qg}(I:Qt X Xa7 σ H s)
(w:∀b∈ch,(b∈X.ex\/X.s₀.heap.objs.size<=b)/\b≠X.env.locals/\(∀x c,X.env.cells.lookup x=some c->c≠b)/\∀p∈X.pn++Xa7,p.1≠b)
(j:∀b o,b≠X.env.locals->b∉X.fs->b∉ch->s.heap.get? b=some o->H b=none->h'.get? b=some o)
(B:∀b o,b≠X.env.locals->b∈X.fs->b∉ch->s.heap.get? b=some o->H b=none->∃J,h'.get? b=some { o with slots:=J })(f:∀b o,b∉ch->s.heap.get? b=some o->H b=none->H' b=none)
(C:∀b o,b∉ch->s.heap.get? b=some o->∃W,h'.get? b=some W)
(M:∀b xs,H b=some (.tup xs)->H' b=some (.tup xs))(D:∀b o u,H b=some (.frz o u)->H' b=some (.frz o u))(R:∀b ps,H b=some (.tbl ps)->∃t,H' b=some (.tbl<|ps++t))
(ns:∀m,s.heap.Ns X.env.locals m->h'.Ns X.env.locals m)(L:HOk X.prog X.w H' h')(hg:AllBare g')(P:∀b xs o,b∉ch->H b=some (.tup xs)->s.heap.get? b=some o->h'.get? b=some o):
 Qt X Xa7 σ H' { s with heap:=h',gens:=g',drawn:=d',toks:=t' }:=by
 have Y:∀b o,X.s₀.heap.get? b=some o->b≠X.env.locals:=λb o e=>Xr (Xp (Xk e) I.ok.above)
 have g:∀b o,X.s₀.heap.get? b=some o->b∉X.ex->b∉ch:=λb o e a E=>by
  rcases(w b E).1 with z|z
  .exact a z
  .exact Xz (Xp (Xk e) z) (Y5 _)
 have y:∀x c,X.env.cells.lookup x=some c->∀v,s.heap.IsCell c v->h'.IsCell c v:=λx c e v ⟨o,K,N⟩=>by
  have h:c∉ch:=λz=>(w c z).2.2.1 x c e rfl
  by_cases T:c∈X.fs
  .obtain⟨J,q⟩:=B c o (I.cne x c e) T h K (I.freeC x c e);exact⟨_,q,N⟩
  .exact⟨o,j c o (I.cne x c e) T h K<|I.freeC x c e,N⟩
 refine⟨I.ok,I.os,hg,⟨λb o e n E a=>?_,λb o e n E a=>?_,λb o e n a=>?_,λb o e a=>?_,λb xs e=>M b xs<|I.base.tups b xs e,λb o xs e=>D b o xs<|I.base.frzs b o xs e,λb xs o q e a=>P b xs o (g b o e a) (I.base.tups b xs q)<|I.base.tupo b xs o q e a,λb ps e=>?_⟩,?_,λx c e=>?_,?_,λx c e=>?_,λp S=>?_,L,I.len⟩
 .exact j b o (Y b o e) E (g b o e a) (I.base.keep b o e n E a) (I.base.free b o e n a)
 .obtain⟨J,A⟩:=I.base.slot b o e n E a;obtain⟨G,F⟩:=B b _ (Y b o e) E (g b o e a) A (I.base.free b o e n a);exact⟨G,F⟩
 .obtain⟨W,A⟩:=I.base.there b o e a;exact f b W (g b o e a) A (I.base.free b o e n a)
 .obtain⟨W,A⟩:=I.base.there b o e a;exact C b W (g b o e a) A
 .obtain⟨Z,A⟩:=I.base.tbls b ps e;obtain⟨U,F⟩:=R b _ A;exact⟨Z++U,by rw[F,Array.append_assoc]⟩
 .obtain⟨m,hn,hl⟩:=I.loc;refine⟨m,ns m hn,λi x v A F e3=>?_⟩;obtain⟨u,r,l⟩:=hl i x v A F e3;refine⟨u,r,?_⟩;rcases l with l|⟨k,c,e,z⟩
  .exact .inl l
  .exact .inr ⟨k,c,e,y x c e _ z⟩
 .obtain⟨v,z⟩:=I.cell x c e;exact⟨v,y x c e v z⟩
 .obtain⟨m,⟨o,_,_,K,_⟩,_⟩:=I.loc;exact f _ o (λz=>(w _ z).2.1 rfl) K I.free
 .obtain⟨v,o,K,N⟩:=I.cell x c e;exact f c o (λz=>(w c z).2.2.1 x c e rfl) K (I.freeC x c e)
 .obtain⟨e,n,Q,O,d⟩:=I.pin p S;have h:p.1∉ch:=λz=>(w p.1 z).2.2.2 p S rfl
  exact⟨j p.1 p.2 Q O h e n,f p.1 p.2 h e n,Q,O,d⟩
def Qt.un(I:Qt X Xa7 σ H s)(u:Un X.fs [] H H' s.heap h')(f:HOk X.prog X.w H' h'):Qt X Xa7 σ H' { s with heap:=h',toks:=t' }:=by
 obtain⟨m,⟨o,es,C,j,r⟩,_⟩:=id I.loc;obtain⟨y,w⟩:=u.any j I.free (by simp);exact I.step (g':=s.gens) (d':=s.drawn) (ch:=[]) (by rintro _ ⟨⟩) (λb o _ g _ e n=>u.keep b o e n g<|by simp) (λb o _ g _ e n=>u.slot b o e n g<|by simp) (λb o _ e n=>u.free b o e n<|by simp) (λb o _ e=>u.there b o e<|by simp) u.tups u.frzs u.tbls (λB v=>by
  obtain⟨A,h,i,a,p⟩:=v;rw[j]at a;cases a;exact⟨_,h,i,w,p⟩) f I.bare (λb xs o _ q e=>u.tupo b xs o q e<|by simp)
def Qt.call(I:Qt X Xa7 σ H s)(u:Un (frs X.stack) ch H H' s.heap h')(h:HOk X.prog X.w H' h')(B:AllBare g')
(g:∀b∈ch,(b∈X.ex\/X.s₀.heap.objs.size<=b)/\b≠X.env.locals/\(∀x c,X.env.cells.lookup x=some c->c≠b)/\∀p∈X.pn++Xa7,p.1≠b):
 Qt X Xa7 σ H' { s with heap:=h',gens:=g',drawn:=d',toks:=t' }:=by
 obtain⟨m,⟨o,es,P,w,r⟩,_⟩:=id I.loc;obtain⟨E,i⟩:=u.any w I.free λz=>(g _ z).2.1 rfl
 exact I.step (ch:=ch) g (λb o i C a e n=>u.keep b o e n (λz=>(Xe.mp<|I.stkSub b z).elim i C) a) (λb o _ _ a e n=>u.any e n a) (λb o a e n=>u.free b o e n a) (λb o a e=>u.there b o e a) u.tups u.frzs u.tbls (λM A=>by
  obtain⟨K,j,v,f,y⟩:=A;rw[w]at f;cases f;exact⟨_,j,v,i,y⟩) h B (λb xs o a q e=>u.tupo b xs o q e a)
def Qt.turned(I:Qt X Xa7 σ H s)(k:∀b o,b≠it->s.heap.get? b=some o->h'.get? b=some o)(hn:H it=none)(g:it≠X.env.locals)
(A:it∈X.ex\/X.s₀.heap.objs.size<=it)(y:∀x c,X.env.cells.lookup x=some c->c≠it)(w:∀p∈X.pn++Xa7,p.1≠it):Qt X Xa7 σ H { s with heap:=h',toks:=t' }:=by
 have f:∀b u,H b=some u->b≠it:=λb u e z=>by rw[z,hn]at e;cases e
 refine I.step (g':=s.gens) (d':=s.drawn) (ch:=[it]) (λb j=>?_) (λb o _ _ a e _=>k b o (λz=>a<|by simp[z]) e) (λb o _ _ a e _=>⟨o.slots,k b o (λz=>a<|by simp[z]) e⟩) (λ_ _ _ _ n=>n)
  (λb o a e=>⟨o,k b o (λz=>a<|by simp[z]) e⟩) (λ_ _ e=>e) (λ_ _ _ e=>e) (λb ps e=>⟨#[],by rw[e];simp⟩) (λm i=>?_) (λb u e=>?_) I.bare (λb _ o a _ e=>k b o (λz=>a<|by simp[z]) e)
 .have e:b=it:=by simpa using j
  subst e;exact⟨A,g,y,w⟩
 .obtain⟨o,es,B,h,r⟩:=i;exact⟨o,es,B,k _ o (Ne.symm g) h,r⟩
 .refine(I.hok b u e).stay (λc v a q=>k c v ?_ q) (λ_ q=>q) λ_ _ q=>q
  rcases a with z|z
  .rw[z];exact f b u e
  .exact f c _ z
def Qt.tok(I:Qt X Xa7 σ H s)(t:Nat):Qt X Xa7 σ H { s with toks:=t }:=I.un (h':=s.heap) (t':=t) Un.refl I.hok
def Qt.kept(I:Qt X Xa7 σ H s)(k:∀b u,s.heap.get? b=some u->h'.get? b=some u):Qt X Xa7 σ H { s with heap:=h',toks:=t' }:=I.un (Un.kept k) (I.hok.kept k)
def Qt.laid(I:Qt X Xa7 σ H s)(k:∀b u,s.heap.get? b=some u->h'.get? b=some u)(g:s.heap.objs.size<=a)(f:Z6 X.prog X.w (upd H a o) h' a o):
 Qt X Xa7 σ (upd H a o) { s with heap:=h',toks:=t' }:=I.un (Un.laid k g<|I.hok.fresh g) (I.hok.laid k g f)
def Qt.write(I:Qt X Xa7 σ H s)(g:Mut (H x))(he:e=x\/H e=some (.own x))(k:∀b u,b≠e->s.heap.get? b=some u->h'.get? b=some u)(a:∃u,h'.get? e=some u)
(f:Z6 X.prog X.w (upd H x o) h' x o):Qt X Xa7 σ (upd H x o) { s with heap:=h',toks:=t' }:=I.un (Un.write g he k a) (I.hok.write g he k a f)
def Qt.weak(I:Qt X Xa7 σ H s)(a:σ'.length=σ.length)(w:∀(i:Nat) v,σ'[i]?=some (some v)->σ[i]?=some (some v)):Qt X Xa7 σ' H s:=
 ⟨I.ok,I.os,I.bare,I.base,let ⟨m,hn,hl'⟩:=I.loc;⟨m,hn,λi x v g f b=>hl' i x v g (w i v f) b⟩,I.cell,I.free,I.freeC,I.pin,I.hok,a.trans I.len⟩
def Qt.pins_of(I:Qt X Xa7 σ H s)(h:∀p∈pins',s.heap.get? p.1=some p.2/\H p.1=none/\p.1≠X.env.locals/\p.1∉X.fs/\∀v,p.2.data≠.cell v):Qt X pins' σ H s:=
 ⟨I.ok,I.os,I.bare,I.base,I.loc,I.cell,I.free,I.freeC,λp a=>(XD.mp a).elim (λz=>I.pin p<|JR _ z) (h p),I.hok,I.len⟩
def MA{N:Qh}(f:N.Nodup)(a:N[i]?=some x)(b:N[j]?=some x):i=j:=by
 obtain⟨n,h⟩:=Xf.mp a;obtain⟨m,g⟩:=Xf.mp b;exact(List.getElem_inj f).mp (h.trans g.symm)
def Ti(I:Qt X Xa7 σ H s)(hN:X.N.Nodup)(J:X.N[i]?=some x)(w:Loc X.env.scope x)(r:QN v u)
(h:∀s',Qt X Xa7 (σ.set i<|some v) H s'->(∃a,Heap.SameBut a s.heap s'.heap/\(a=X.env.locals\/X.env.cells.lookup x=some a))->Q () s')(hf:X.fn x=true\/X.env.scope.names.lookup x=some .local:=by first|exact .inl rfl|exact .inr rfl|assumption):wpAny M A (storeName X.env x u) Q E s:=by
 obtain⟨m,hn,hl⟩:=id I.loc;have L:(X.env.scope.kind==.class||(X.env.scope.kind==.module&&X.env.locals != X.env.globals))=false:=by rw[I.ok.kind];rfl
 have Y:i<σ.length:=by rw[I.len];exact(Xf.mp J).1
 have D:=I.cne;have g:∀{a:Addr} {h':Heap},(∃o,s.heap.get? a=some o/\H a=none)->Heap.SameBut a s.heap h'->HOk X.prog X.w H h':=λ{a h'} ha f b ob e=>by
  obtain⟨_,_,K⟩:=ha;refine(I.hok b ob e).stay (λc S C q=>(f.2 c ?_).trans q) (λ_ q=>q) λ_ _ q=>q
  rintro rfl;rcases C with rfl|C
  .rw[K]at e;cases e
  .rw[K]at C;cases C
 rcases w with W|W
 .refine wpAny_storeName_local W hn (λh' hn' f=>?_) L;obtain⟨oL,_,_,hoL,_⟩:=id hn;refine h _ ⟨I.ok,I.os,I.bare,⟨λb o e n t w=>?_,λb o e n t w=>?_,I.base.free,λb o e w=>?_,I.base.tups,I.base.frzs,λb xs o q e w=>(f.2 b<|Xr<|Xp (Xk e) I.ok.above).trans (I.base.tupo b xs o q e w),I.base.tbls⟩,⟨_,hn',λj y Z B R e3=>?_⟩,λy c e=>?_,I.free,I.freeC,λp hp=>?_,g ⟨oL,hoL,I.free⟩ f,by simpa using I.len⟩ ⟨_,f,.inl rfl⟩
  .exact(f.2 b<|Xr<|Xp (Xk e) I.ok.above).trans (I.base.keep b o e n t w)
  .obtain⟨sl,B⟩:=I.base.slot b o e n t w;exact⟨sl,(f.2 b<|Xr<|Xp (Xk e) I.ok.above).trans B⟩
  .obtain⟨o',B⟩:=I.base.there b o e w;exact⟨o',(f.2 b<|Xr<|Xp (Xk e) I.ok.above).trans B⟩
  .by_cases l:j=i
   .subst l;rw[J]at B;cases B;rw[Xm Y]at R;cases R;exact⟨u,r,.inl ⟨W,by simp⟩⟩
   .rw[Xt<|Ne.symm l]at R;obtain⟨u',r',q⟩:=hl j y Z B R e3;refine⟨u',r',?_⟩;rcases q with ⟨k,e⟩|⟨k,c,e,z⟩
    .refine .inl ⟨k,?_⟩;have:y≠x:=λe=>l (MA hN B<|e▸J)
     simp[this,e]
    .exact .inr ⟨k,c,e,z.sameBut f<|D y c e⟩
  .obtain⟨S,z⟩:=I.cell y c e;exact⟨S,z.sameBut f<|D y c e⟩
  .obtain⟨e,n,T,nf,d⟩:=I.pin p hp;exact⟨(f.2 p.1 T).trans e,n,T,nf,d⟩
 .have P:X.fn x=true:=by
   rcases hf with z|z
   .exact z
   .rw[z]at W;cases W
  obtain⟨c,C⟩:=I.ok.has x (.inl W);obtain⟨S,z⟩:=I.cell x c C;refine wpAny_storeName_cell I.ok.kind W C z (λh' O f=>?_);obtain⟨oc,G,F⟩:=id z;refine h { s with heap:=h' } ⟨I.ok,I.os,I.bare,⟨λb o e n t w=>?_,λb o e n t w=>?_,I.base.free,λb o e w=>?_,I.base.tups,I.base.frzs,λb xs o q e w=>(f.2 b<|Xr<|Xp (Xk e)<|I.ok.cab x c P C).trans (I.base.tupo b xs o q e w),I.base.tbls⟩,⟨m,hn.sameBut f<|Ne.symm<|D x c C,λj y Z B R e3=>?_⟩,λy U e=>?_,I.free,I.freeC,λp hp=>?_,g ⟨oc,G,I.freeC x c C⟩ f,by simpa using I.len⟩ ⟨c,f,.inr C⟩
  .exact(f.2 b<|Xr<|Xp (Xk e)<|I.ok.cab x c P C).trans (I.base.keep b o e n t w)
  .obtain⟨sl,B⟩:=I.base.slot b o e n t w;exact⟨sl,(f.2 b<|Xr<|Xp (Xk e)<|I.ok.cab x c P C).trans B⟩
  .obtain⟨o',B⟩:=I.base.there b o e w;exact⟨o',(f.2 b<|Xr<|Xp (Xk e)<|I.ok.cab x c P C).trans B⟩
  .by_cases l:j=i
   .subst l;rw[J]at B;cases B;rw[Xm Y]at R;cases R;exact⟨u,r,.inr ⟨.inl W,c,C,O⟩⟩
   .rw[Xt<|Ne.symm l]at R;obtain⟨u',r',q⟩:=hl j y Z B R e3;refine⟨u',r',?_⟩;rcases q with q|⟨k,U,e,z'⟩
    .exact .inl q
    .refine .inr ⟨k,U,e,z'.sameBut f ?_⟩;rintro rfl;exact l (MA hN B<|I.ok.inj _ _ _ e C▸J)
  .by_cases N:U=c
   .subst N;exact⟨_,O⟩
   .obtain⟨w2,z2⟩:=I.cell y U e;exact⟨w2,z2.sameBut f N⟩
  .obtain⟨e,n,T,nf,d⟩:=I.pin p hp;refine⟨(f.2 p.1 ?_).trans e,n,T,nf,d⟩;intro q;rw[q,G]at e;have q':oc=p.2:=Option.some.inj e;exact d S (by rw[<- q'];exact F)
def MO(I:Qt X Xa7 σ H s)(j:X.N.Nodup)(f:X.N[i]?=some x)(b:Loc X.env.scope x)(r:QN v u)
(h:∀a,Qt X Xa7 (σ.set i<|some v) H a->Q () a)(g:X.fn x=true\/X.env.scope.names.lookup x=some .local:=by first|exact .inl rfl|exact .inr rfl|assumption):wpAny M A (storeName X.env x u) Q E s:=
 Ti I j f b r (λa m _=>h a m) g
def Qt.call'(I:Qt X Xa7 σ H s)(h:s'.os=s.os)(u:Un (frs X.stack) ch H H' s.heap s'.heap)(a:HOk X.prog X.w H' s'.heap)(i:AllBare s'.gens)
(f:∀b∈ch,(b∈X.ex\/X.s₀.heap.objs.size<=b)/\b≠X.env.locals/\(∀x c,X.env.cells.lookup x=some c->c≠b)/\∀p∈X.pn++Xa7,p.1≠b):Qt X Xa7 σ H' s':=by
 obtain⟨h',g',d',t',g⟩:=s';have e:g=s.os:=h;subst e;exact I.call (g':=g') (t':=t') (d':=d') u a i f
end
abbrev XK:=Value->Qj->Hp->Prop
abbrev St:=List (Option V)
abbrev VK:=V->Hp->Prop
abbrev TE:=St->Hp->VK->Prop
abbrev TT:=St->Hp->(Bool->Hp->Prop)->Prop
abbrev TA:=St->Hp->(List V->Hp->Prop)->Prop
structure Ends where
 nx:St->Hp->Prop
 rt:VK
 bk:St->Hp->Prop:=λ_ _=>False
 ct:St->Hp->Prop:=λ_ _=>False
abbrev TS:=Ends->St->Hp->Prop
def EP(X:Cx)(Xa7:Qc)(b:St)(Q:VK)(u:Value)(f:Shared):Prop := ∃v a,Qt X Xa7 b a f/\QN v u/\Q v a
def TP(X:Cx)(Xa7:Qc)(f:St)(Q:Bool->Hp->Prop)(b:Bool)(g:Shared):Prop := ∃a,Qt X Xa7 f a g/\Q b a
def AP(X:Cx)(Xa7:Qc)(f:St)(Q:List V->Hp->Prop)(us:Qe)(g:Shared):Prop := ∃a b,Qt X Xa7 f b g/\QQ a us/\Q a b
def SP(X:Cx)(Xa7:Qc)(D:Ends)(f:Flow)(g:Shared):Prop:=
 match f with
 |.next=>∃a b,Qt X Xa7 a b g/\D.nx a b
 |.brk=>∃a b,Qt X Xa7 a b g/\D.bk a b
 |.cont=>∃a b,Qt X Xa7 a b g/\D.ct a b
 |.ret u=>∃v a b,Qt X Xa7 a b g/\QN v u/\D.rt v b
def PE(X:Cx)(e:Expr)(t:TE):Prop:=
 ∀(Xa7:Qc) (s:Shared) (a:St) (H:Hp) (Q:VK),Qt X Xa7 a H s->t a H Q->wpAny (model X.prog X.w) X.A (eval e X.env) (EP X Xa7 a Q) X.xe s
def PT(X:Cx)(e:Expr)(t:TT):Prop:=
 ∀(Xa7:Qc) (s:Shared) (a:St) (H:Hp) (Q:Bool->Hp->Prop),Qt X Xa7 a H s->t a H Q->wpAny (model X.prog X.w) X.A (isTrue e X.env<|eval e X.env) (TP X Xa7 a Q) X.xe s
def PW(X:Cx)(e:Expr)(t:TT):Prop:=
 ∀(a:Sem Value) (Xa7:Qc) (s:Shared) (b:St) (H:Hp) (Q:Bool->Hp->Prop),Qt X Xa7 b H s->t b H Q->wpAny (model X.prog X.w) X.A (isTrue e X.env a) (TP X Xa7 b Q) X.xe s
def PW.pt(h:PW X e t):PT X e t:=h _
def PA(X:Cx)(es:Qi)(t:TA):Prop:=
 ∀(pos:Pos) (Xa7:Qc) (s:Shared) (a:St) (H:Hp) (Q:List V->Hp->Prop),Qt X Xa7 a H s->t a H Q->wpAny (model X.prog X.w) X.A (spliced<|backTo pos<|starEach es X.env) (AP X Xa7 a Q) X.xe s
def PS(X:Cx)(st:Stmt)(t:TS):Prop:=
 ∀(Xa7:Qc) (s:Shared) (a:St) (H:Hp) (D:Ends),Qt X Xa7 a H s->t D a H->wpAny (model X.prog X.w) X.A (exec st X.env) (SP X Xa7 D) X.xe s
def PSs(X:Cx)(st:List Stmt)(t:TS):Prop:=
 ∀(Xa7:Qc) (s:Shared) (a:St) (H:Hp) (D:Ends),Qt X Xa7 a H s->t D a H->wpAny (model X.prog X.w) X.A (execs st X.env) (SP X Xa7 D) X.xe s
def QB{b:Type}{t:Sem b}{Q f:b->Shared->Prop}(h:wpAny M A t Q E s)(g:∀a s,Q a s->f a s):wpAny M A t f E s:=wpAny_mono h g λ_ _ x=>x
end L2
variable {X:L2.Cx}{t1 ta tc td te tv tx:L2.TE}{tA tB':L2.TT}{σ:L2.St}{th:Addr->L2.TS}{E':L2.XK}
namespace L2
section
def Q5(i:Nat):TE:=λσ H Q=>∃v,σ[i]?=some (some v)/\Q v H
def tC(v:V):TE:=λ_ H Q=>Q v H
def Sr  (B:X.N[i]?=some x)(p:Vis X.env.scope x)(g:(x==("__debug__" : Str))=false:=by decide)(j:(x==("__classdict__" : Str))=false:=by decide):PE X (.Name x pos) (Q5 i):=by
 intro Xa7 s σ H Q I h;obtain⟨v,e,h⟩:=h;obtain⟨m,w,A⟩:=I.loc;obtain⟨u,r,l⟩:=A i x v B e p;have f:EP X Xa7 σ Q u s:=⟨v,H,I,r,h⟩
 rcases l with ⟨b,y⟩|⟨b,c,n,a⟩
 .exact wpAny_Name (wpAny_loadName_local I.ok.kind b w y f) g
 .rcases b with b|b
  .exact wpAny_Name (wpAny_loadName_cell I.ok.kind b n a f) g
  .exact wpAny_Name (wpAny_loadName_free I.ok.kind b n a f j) g
def Qw{i j pos}:PE X (.Constant (.int i) j pos) (tC<|.int i):=λ_ _ _ H _ I h=>wpAny_Constant_int ⟨.int i,H,I.tok _,⟨_,rfl⟩,h⟩
def YB{b j pos}:PE X (.Constant (.bool b) j pos) (tC<|.bl b):=λ_ _ _ H _ I h=>Constant_bool ⟨.bl b,H,I,rfl,h⟩
def Mr{j pos}:PE X (.Constant .none j pos) (tC .non):=λ_ _ _ H _ I h=>Constant_none ⟨.non,H,I,rfl,h⟩
def Vo{x j pos}:PE X (.Constant (.str x) j pos) (tC<|.str x):=λ_ _ _ H _ I h=>Calls.Constant_str ⟨.str x,H,I.tok _,⟨_,rfl⟩,h⟩
def Gl(X:Cx)(x:Str):Prop:=X.env.kindOf x=some .globalImplicit
def J0(I:Qt X Xa7 σ H s)(b:Gl X x)(a:X.mg x=some u)(h:Q u s)
(f:(x==("__debug__" : Str))=false:=by decide):wpAny (model X.prog X.w) X.A (eval (.Name x pos) X.env) Q E s:=
 Calls.Name_function_global I.ok.kind b (Calls.loadGlobal_global (by rw[I.ok.glob];exact I.mod.glob.keeps I.bk) a h) f
def Ju(I:Qt X Xa7 σ H s)(f:Gl X x)(b:X.mg x=none)(a:bootBuiltins x=some u)(h:Q u s)
(hn:x ≠ "__name__" := by decide)(g:(x==("__debug__" : Str))=false:=by decide):wpAny (model X.prog X.w) X.A (eval (.Name x pos) X.env) Q E s:=by
 obtain⟨m,j,i⟩:=I.mod.blt;exact Calls.Name_function_global I.ok.kind f (Calls.loadGlobal_builtin (by rw[I.ok.glob];exact I.mod.glob.keeps I.bk) b (by rw[I.ok.blt];exact j.keeps I.bk) ((i x hn).trans a) h) g
def VZ   (b:Gl X x)(a:X.mg x=some u)(r:QN v u)(f:(x==("__debug__" : Str))=false:=by decide):PE X (.Name x pos) (tC v):=
 λ_ _ _ H _ I h=>J0 I b a ⟨v,H,I,r,h⟩ f
def Y2   (f:Gl X x)(b:X.mg x=none)(a:bootBuiltins x=some u)(r:QN v u)(hn:x ≠ "__name__" := by decide)(g:(x==("__debug__" : Str))=false:=by decide):PE X (.Name x pos) (tC v):=
 λ_ _ _ H _ I h=>Ju I f b a ⟨v,H,I,r,h⟩ hn g
variable {a:Expr}{tb:TE}
def PC(X:Cx)(op:CmpOp)(a b:Expr)(t:TE):Prop:=
 ∀(Xa7:Qc) (s:Shared) (σ:St) (H:Hp) (Q:VK),Qt X Xa7 σ H s->t σ H Q->
  wpAny (model X.prog X.w) X.A (eval a X.env) (λv g=>wpAny (model X.prog X.w) X.A (eval b X.env) (λu f=>wpAny (model X.prog X.w) X.A (compareOp op v u) (EP X Xa7 σ Q) X.xe f) X.xe g) X.xe s
def P2(b:Expr)(h:op≠.In)(a:op≠.NotIn):behindInMarks op b=false:=by
 have g:(op==CmpOp.In)=false:=by cases op<;>first|rfl|exact Xz rfl h
 have f:(op==CmpOp.NotIn)=false:=by cases op<;>first|rfl|exact Xz rfl a
 cases b<;>simp[behindInMarks,g,f]
def Rs(ta:TE):TE:=λσ H Q=>ta σ H λx a=>Q (.bl<|decide (x=.non)) a
def RK(ta:TE):TE:=λσ H Q=>ta σ H λx a=>Q (.bl<|!decide (x=.non)) a
def QN.none_iff{v:Value}(r:QN x v):(v==Value.none)=decide (x=.non):=by
 cases x with
 |non=>cases r;rfl
 |bl _=>cases r;rfl
 |int _=>obtain⟨t,rfl⟩:=r;rfl
 |str _=>obtain⟨t,rfl⟩:=r;rfl
 |byt _=>obtain⟨t,rfl⟩:=r;rfl
 |flt _=>obtain⟨t,rfl⟩:=r;rfl
 |ref _=>cases r;rfl
 |ty _=>cases r;rfl
def C6{j pos'}(g:PE X a ta):PC X .Is a (.Constant .none j pos') (Rs ta):=by
 intro Xa7 s σ H Q I h;refine QB (g Xa7 s σ H _ I h) ?_;rintro v n ⟨x,m,i,b,f⟩;exact Constant_none (is_none_gen ⟨.bl _,m,i,by rw[b.none_iff];rfl,f⟩)
def AJ{j pos'}(g:PE X a ta):PC X .IsNot a (.Constant .none j pos') (RK ta):=by
 intro Xa7 s σ H Q I h;refine QB (g Xa7 s σ H _ I h) ?_;rintro v n ⟨x,m,i,b,f⟩;exact Constant_none (isnot_none_gen ⟨.bl _,m,i,by rw[b.none_iff];rfl,f⟩)
def tB(t:TE):TT:=λσ H Q=>t σ H λx a=>∃c,x=.bl c/\Q c a
def Cn(h:PC X op a b t)(g:behindInMarks op b=false:=by first|exact P2 _ (by decide) (by decide)|rfl):PE X (.Compare a [op] [b] pos) t:=λXa7 s σ H Q I f=>wpAny_Compare1 (h Xa7 s σ H Q I f) g
def Gq(h:PC X op a b t)(f:behindInMarks op b=false:=by first|exact P2 _ (by decide) (by decide)|rfl):PT X (.Compare a [op] [b] pos) (tB t):=by
 intro Xa7 s σ H Q I j;refine wpAny_isTrue_Compare1 (QB (h Xa7 s σ H _ I j) λv y f=>QB f λu w m=>QB m ?_) f;rintro c r ⟨x,p,n,g,i⟩;obtain⟨d,rfl,q⟩:=i;cases g;exact wpAny_truthy_bool ⟨p,n,q⟩
def ZF(h:PE X e t)(he:∀a,isTrue e X.env a=(do let v <- a;standAt e.pos;holding [v] (truthy v)):=by intro _;rfl):PT X e (tB t):=by
 intro Xa7 s σ H Q I g;refine isTrue_plain (QB (h Xa7 s σ H _ I g) ?_) (he _);rintro v m ⟨x,j,i,b,f⟩;obtain⟨d,rfl,q⟩:=f;cases b;exact wpAny_truthy_bool ⟨j,i,q⟩
variable {rest:Qi}
def Rl(t u:TT):TT:=λσ H Q=>t σ H λc a=>if c=true then u σ a Q else Q false a
def tOr(t u:TT):TT:=λσ H Q=>t σ H λc a=>if c=true then Q true a else u σ a Q
def BT(t:TT):TT:=λσ H Q=>t σ H λc a=>Q (!c) a
def YX(b:PT X a tA):PW X (.BoolOp .And [a] pos) tA:=by
 intro f Xa7 s σ H Q I h;refine isTrue_and (QB (b Xa7 s σ H Q I h) λc g e=>?_);cases c with
 |true=>exact isTrue_and_nil e
 |false=>exact e
def Mp(b:PT X a tA):PW X (.BoolOp .Or [a] pos) tA:=by
 intro f Xa7 s σ H Q I h;refine isTrue_or (QB (b Xa7 s σ H Q I h) λc g e=>?_);cases c with
 |false=>exact isTrue_or_nil e
 |true=>exact e
def YS(p:PT X a tA)(n:PW X (.BoolOp .And (b::rest) pos) tB'):PW X (.BoolOp .And (a::b::rest) pos) (Rl tA tB'):=by
 intro j Xa7 s σ H Q I h;refine isTrue_and (QB (p Xa7 s σ H _ I h) ?_);rintro c m ⟨i,g,f⟩;cases c with
 |true=>exact n j Xa7 m σ i Q g f
 |false=>exact⟨i,g,f⟩
def Bc(p:PT X a tA)(n:PW X (.BoolOp .Or (b::rest) pos) tB'):PW X (.BoolOp .Or (a::b::rest) pos) (tOr tA tB'):=by
 intro j Xa7 s σ H Q I h;refine isTrue_or (QB (p Xa7 s σ H _ I h) ?_);rintro c m ⟨i,g,f⟩;cases c with
 |true=>exact⟨i,g,f⟩
 |false=>exact n j Xa7 m σ i Q g f
def YF(b:PT X a tA):PT X (.UnaryOp .Not a pos) (BT tA):=by
 intro Xa7 s σ H Q I h;exact isTrue_not (b Xa7 s σ H (λc f=>Q (!c) f) I h)
def Rw(ta tb:TE):TE:=λσ H Q=>ta σ H λx a=>∃c,x=.bl c/\if c=true then tb σ a Q else Q (.bl false) a
def R4(ta:TE):TE:=λσ H Q=>ta σ H λx a=>∃c,x=.bl c/\Q (.bl<|!c) a
def Uw{op}(h:PE X a t):PE X (.BoolOp op [a] pos) t:=λXa7 s σ H Q I b=>BoolOp_one (h Xa7 s σ H Q I b)
def Ux(p:PE X a ta)(n:PE X (.BoolOp .And (b::rest) pos) tb):PE X (.BoolOp .And (a::b::rest) pos) (Rw ta tb):=by
 intro Xa7 s σ H Q I h;refine BoolOp_and (QB (p Xa7 s σ H _ I h) ?_);rintro v j ⟨x,i,g,m,f⟩;obtain⟨c,rfl,f⟩:=f;cases m;refine wpAny_truthy_bool ?_;cases c with
 |true=>exact n Xa7 j σ i Q g f
 |false=>exact⟨.bl false,i,g,rfl,f⟩
def CG(g:PE X a ta):PE X (.UnaryOp .Not a pos) (R4 ta):=by
 intro Xa7 s σ H Q I h;refine UnaryOp_ (QB (g Xa7 s σ H _ I h) ?_);rintro v m ⟨x,j,i,f,b⟩;obtain⟨c,rfl,b⟩:=b;cases f;exact not_of (wpAny_truthy_bool ⟨.bl<|!c,j,i,rfl,b⟩)
end
def SqL(K:W.Frag)(H:Hp)(a:Addr)(xs:List V):Prop:=
 Rd H a (.lst xs) \/
  ∃(o:Obj) (b:Array Value) (n:Nat),K.lookup a=some o/\o.cls=.type "list" /\ o.dict=none/\o.data=.seq b n/\b.size<=sizeLine/\QQ xs b.toList
def SqT(K:W.Frag)(H:Hp)(a:Addr)(xs:List V):Prop:=
 Rd H a (.tup xs) \/
  ∃(o:Obj) (b:Array Value) (n:Nat),K.lookup a=some o/\o.cls=.type "tuple" /\ o.data=.seq b n/\b.size<=sizeLine/\QQ xs b.toList
noncomputable def LR:Value->Option V
 |.none=>some .non
 |.bool b=>some (.bl b)
 |.int i _=>some (.int i)
 |.str x _=>some (.str x)
 |.bytes b _=>some (.byt b)
 |.float b _=>some (.flt b)
 |.ref a=>some (.ref a)
 |.type n=>some (.ty n)
 |_=>none
def QN.abs(r:QN x u):LR u=some x:=by
 cases x with
 |non=>cases r;rfl
 |bl _=>cases r;rfl
 |int _=>obtain⟨t,rfl⟩:=r;rfl
 |str _=>obtain⟨t,rfl⟩:=r;rfl
 |byt _=>obtain⟨t,rfl⟩:=r;rfl
 |flt _=>obtain⟨t,rfl⟩:=r;rfl
 |ref _=>cases r;rfl
 |ty _=>cases r;rfl
def QN.inj(r:QN x u)(q:QN y u):x=y:=Option.some.inj (r.abs.symm.trans q.abs)
theorem QQ.inj:∀{xs ys:List V} {us:Qe},QQ xs us->QQ ys us->xs=ys
 |_,_,_,.nil,.nil=>rfl
 |_,_,_,.cons r t,.cons b a=>by rw[r.inj b,QQ.inj t a]
section
variable {H:Hp}
def SqL.of(h:H a=some (.lst xs)):SqL K H a xs:=.inl (.inl h)
def SqT.of(h:H a=some (.tup xs)):SqT K H a xs:=.inl (.inl h)
def Qt.list(I:Qt X Xa7 σ H s)(h:SqL X.K H a xs):∃b:Qe,QQ xs b/\PlainL s.heap a b.toArray/\xs.length<=sizeLine:=by
 rcases h with h|⟨o,b,n,g,j,i,f,m,r⟩
 .obtain⟨z,b,n,r,e⟩:=h.ok I.hok;exact⟨b,r,⟨_,n,e,rfl,rfl,rfl⟩,z⟩
 .refine⟨b.toList,r,⟨o,n,I.kIn a o g,j,i,by simpa using f⟩,?_⟩;have e:=r.length;simp only[Array.length_toList]at e;lia
def Qt.tuple(I:Qt X Xa7 σ H s)(h:SqT X.K H a xs):∃b:Qe,QQ xs b/\IsTup s.heap a b.toArray/\xs.length<=sizeLine:=by
 rcases h with h|⟨o,b,n,g,i,f,j,r⟩
 .obtain⟨z,b,r,p⟩:=h.ok I.hok;exact⟨b,r,p,z⟩
 .refine⟨b.toList,r,⟨o,I.kIn a o g,i,n,by simpa using f⟩,?_⟩;have e:=r.length;simp only[Array.length_toList]at e;lia
def Qt.list_inj(I:Qt X Xa7 σ H s)(h:SqL X.K H a xs)(h':SqL X.K H a ys):xs=ys:=by
 obtain⟨f,r,⟨o,n,e,_,_,d⟩,_⟩:=I.list h;obtain⟨b,j,⟨m,p,g,_,_,i⟩,_⟩:=I.list h';rw[e]at g;cases g;rw[d]at i;injection i with d1 _;have:f=b:=by simpa using X9 Array.toList d1
 subst this;exact r.inj j
def Qt.tuple_inj(I:Qt X Xa7 σ H s)(h:SqT X.K H a xs)(h':SqT X.K H a ys):xs=ys:=by
 obtain⟨f,r,⟨o,e,_,n,d⟩,_⟩:=I.tuple h;obtain⟨b,j,⟨m,g,_,p,i⟩,_⟩:=I.tuple h';rw[e]at g;cases g;rw[d]at i;injection i with d1 _;have:f=b:=by simpa using X9 Array.toList d1
 subst this;exact r.inj j
end
noncomputable abbrev Cx.wish(X:Cx)(E:Qb):Cx:={ X with xe:=E }
abbrev Cx.nox(X:Cx):Cx:=X.wish λ_ _=>False
def Cx.Ok.wish(a:X.Ok)(E:Qb):(X.wish E).Ok:=
 ⟨a.mod,a.kind,a.glob,a.blt,a.above,a.inj,a.has,a.cab,a.hd,a.frames,a.stk,a.exf,a.bs,a.bsz,a.noex,a.exfs,a.funs,a.frf⟩
def Cx.Ok.unwish(a:(X.wish E).Ok):X.Ok:=
 ⟨a.mod,a.kind,a.glob,a.blt,a.above,a.inj,a.has,a.cab,a.hd,a.frames,a.stk,a.exf,a.bs,a.bsz,a.noex,a.exfs,a.funs,a.frf⟩
section
variable {H:Hp}
def Qt.wish(I:Qt X Xa7 σ H s)(E:Qb):Qt (X.wish E) Xa7 σ H s:=⟨I.ok.wish E,I.os,I.bare,I.base,I.loc,I.cell,I.free,I.freeC,I.pin,I.hok,I.len⟩
def Qt.unwish(I:Qt (X.wish E) Xa7 σ H s):Qt X Xa7 σ H s:=⟨I.ok.unwish,I.os,I.bare,I.base,I.loc,I.cell,I.free,I.freeC,I.pin,I.hok,I.len⟩
def SP.unwish{f:Flow}(h:SP (X.wish E) Xa7 D f s'):SP X Xa7 D f s':=by
 cases f with
 |next=>obtain⟨a,b,I,q⟩:=h;exact⟨a,b,I.unwish,q⟩
 |brk=>obtain⟨a,b,I,q⟩:=h;exact⟨a,b,I.unwish,q⟩
 |cont=>obtain⟨a,b,I,q⟩:=h;exact⟨a,b,I.unwish,q⟩
 |ret u=>obtain⟨v,a,b,I,r,q⟩:=h;exact⟨v,a,b,I.unwish,r,q⟩
def PSs.nox{st:List Stmt}(h:PSs X.nox st t):PSs X st t:=λXa7 s σ H D I a=>
 wpAny_mono (h Xa7 s σ H D (I.wish _) a) (λ_ _ q=>q.unwish) λ_ _ z=>False.elim z
end
section
variable {st:Stmt}{rest:List Stmt}{t u:TS}{e:Expr}
def RL:TS:=λD σ H=>D.nx σ H
def Yv(t u:TS):TS:=λD σ H=>t { D with nx:=u D } σ H
def Zp:PSs X [] RL:=λ_ _ σ H _ I h=>wpAny_execs_nil ⟨σ,H,I,h⟩
def Qz(g:PS X st t)(e:PSs X rest u):PSs X (st::rest) (Yv t u):=by
 intro Xa7 s σ H D I h;refine wpAny_execs_cons (QB (g Xa7 s σ H { D with nx:=u D } I h) λf b q=>?_);cases f with
 |next=>
  obtain⟨a,j,i,q⟩:=q;exact e Xa7 b a j D i q
 |ret v=>exact q
 |brk=>exact q
 |cont=>exact q
def Q2(a:PS X st t):PSs X [st] t:=by
 intro Xa7 s σ H D I h;refine wpAny_execs_cons (QB (a Xa7 s σ H D I h) λf b q=>?_);cases f with
 |next=>exact wpAny_execs_nil q
 |ret v=>exact q
 |brk=>exact q
 |cont=>exact q
def Qt.quiet(I:Qt X Xa7 σ H s):interactive X.env=false:=by simp[interactive,I.ok.kind]
def VC(te:TE):TS:=λD σ H=>te σ H λ_ a=>D.nx σ a
def Zu(he:PE X e te)(b:swapsWith e none pos.line X.env=pure false:=by rfl):PS X (.Expr e pos) (VC te):=by
 intro Xa7 s σ H D I h;refine wpAny_Expr_any (QB (he Xa7 s σ H _ I h) ?_) I.quiet b;rintro v i ⟨x,g,f,j,a⟩;exact⟨σ,g,f,a⟩
def Yw(te:TE):TS:=λD σ H=>te σ H D.rt
def QT(he:PE X e te):PS X (.Return (some e) pos) (Yw te):=by
 intro Xa7 s σ H D I h;refine wpAny_Return_some (QB (he Xa7 s σ H _ I h) ?_);rintro v i ⟨x,g,f,a,b⟩;exact⟨x,σ,g,f,a,b⟩
def Jn(c:TT)(t u:TS):TS:=λD σ H=>c σ H λb a=>if b=true then t D σ a else u D σ a
def Zo{a b:List Stmt}{tc:TT}(j:PT X c tc)(n:PSs X a t)(m:PSs X b u):PS X (.If c a b pos) (Jn tc t u):=by
 intro Xa7 s σ H D I h;refine wpAny_If (QB (j Xa7 s σ H _ I h) ?_);rintro d e ⟨i,g,f⟩;cases d with
 |true=>exact n Xa7 e σ i D g f
 |false=>exact m Xa7 e σ i D g f
def Cv:TS:=λ_ _ _=>False
def K1:PS X st Cv:=λ_ _ _ _ _ _ h=>h.elim
end
abbrev TG:=V->St->Hp->(St->Hp->Prop)->Prop
abbrev TGs:=List V->St->Hp->(St->Hp->Prop)->Prop
def PG(X:Cx)(a:Expr)(t:TG):Prop:=
 ∀(Xa7:Qc) (s:Shared) (σ:St) (H:Hp) (v:V) (u:Value) (Q:St->Hp->Prop),Qt X Xa7 σ H s->QN v u->t v σ H Q->
  wpAny (model X.prog X.w) X.A (assign a X.env u) (λ_ g=>∃b f,Qt X Xa7 b f g/\Q b f) X.xe s
def PGs(X:Cx)(ts:Qi)(t:TGs):Prop:=
 ∀(Xa7:Qc) (s:Shared) (σ:St) (H:Hp) (b:List V) (f:Qe) (Q:St->Hp->Prop),Qt X Xa7 σ H s->QQ b f->t b σ H Q->
  wpAny (model X.prog X.w) X.A (assignInOrder ((assignEach ts X.env).map (·.2)) f) (λ_ h=>∃a g,Qt X Xa7 a g h/\Q a g) X.xe s
abbrev DA:=V->V->V->Hp->(Hp->Prop)->Prop
def D8(X:Cx)(t:DA):Prop:=
 ∀(Xa7:Qc) (s:Shared) (σ:St) (H:Hp) (o i v:V) (a b u:Value) (Q:Hp->Prop),Qt X Xa7 σ H s->QN o a->QN i b->QN v u->t o i v H Q->
  wpAny (model X.prog X.w) X.A (setItem a b u) (λ_ g=>∃f,Qt X Xa7 σ f g/\Q f) X.xe s
abbrev TIp:=V->V->Hp->VK->Prop
def PIp(X:Cx)(op:Operator)(t:TIp):Prop:=
 ∀(Xa7:Qc) (s:Shared) (σ:St) (H:Hp) (x y:V) (v u:Value) (Q:VK),Qt X Xa7 σ H s->QN x v->QN y u->t x y H Q->
  wpAny (model X.prog X.w) X.A (inplaceOp op v u) (EP X Xa7 σ Q) X.xe s
def Vb(i:Nat):TG:=λv σ H Q=>Q (σ.set i<|some v) H
def Zh(g:X.N.Nodup)(b:X.N[i]?=some x)(a:Loc X.env.scope x)(f:X.fn x=true\/X.env.scope.names.lookup x=some .local:=by first|exact .inl rfl|exact .inr rfl|assumption):PG X (.Name x pos) (Vb i):=by
 intro Xa7 s σ H v u Q I r h;exact wpAny_assign_Name (MO I g b a r (λm j=>⟨_,H,j,h⟩) f)
def DJ:TGs:=λa σ H Q=>a=[]/\Q σ H
def DN(t:TG)(u:TGs):TGs:=λb σ H Q=>∃v r,b=v::r/\t v σ H λa f=>u r a f Q
def Jc:PGs X [] DJ:=by
 intro Xa7 s σ H a b Q I r h;obtain⟨e,h⟩:=h;subst e;cases r;exact assignInOrder_nil ⟨σ,H,I,h⟩
def Vy(m:PG X e t)(j:PGs X es u)
(i:(assignEach (e::es) X.env).map (·.2)=assign e X.env::(assignEach es X.env).map (·.2):=by rfl):PGs X (e::es) (DN t u):=by
 intro Xa7 s σ H y B Q I r h;obtain⟨v,A,n,h⟩:=h;subst n;cases r with
 |cons r f=>
  rw[i];refine assignInOrder_cons (QB (m Xa7 s σ H _ _ _ I r h) ?_);rintro _ b ⟨a,w,p,g⟩;exact j Xa7 b a w _ _ Q p f g
def D4(K:W.Frag)(n:Nat)(t:TGs):TG:=λv σ H Q=>∃a xs,v=.ref a/\SqT K H a xs/\xs.length=n/\t xs σ H Q
def Jx{k:Nat}(A:X.calm=true)(h:PGs X es t)
(hn:(assignEach es X.env).length=n:=by rfl)(g:(assignEach es X.env).findIdx? (·.1)=none:=by rfl):PG X (.Tuple es k pos) (D4 X.K n t):=by
 intro Xa7 s σ H v u Q I r f;obtain⟨a,xs,B,w,y,f⟩:=f;subst B;cases r;obtain⟨j,i,p,E⟩:=I.tuple w;refine assign_Tuple_tuple (I.ok.hd A) p (by simp[hn,<- y,i.length]) g λh' m=>?_;have C:Qt X Xa7 σ H { s with heap:=h' }:=I.kept (t':=s.toks) λb o e=>m b o (Xr<|Xk e) e;exact h Xa7 _ σ H xs _ Q C (by simpa using i) f
def BR(a b:TE)(t:DA):TG:=λv σ H Q=>a σ H λo h=>b σ h λi g=>t o i v g λf=>Q σ f
def W7{i:Expr}(B:PE X o to)(C:PE X i ti)(A:D8 X t)
(E:∀v,assign (.Subscript o i pos) X.env v=(do
  let a <- holding [v] (eval o X.env)
  let b <- holding [v,a] (eval i X.env)
  standAt pos
  holding [v,a,b] (setItem a b v)
  release [v,a,b] []):=by intro _;rfl):PG X (.Subscript o i pos) (BR to ti t):=by
 intro Xa7 s σ H v u Q I r h;rw[E];refine Xa (wpAny_holding<|QB (B Xa7 s σ H _ I h) ?_);rintro a g ⟨x,Y,P,m,w⟩;refine Xa (wpAny_holding<|QB (C Xa7 g σ Y _ P w) ?_);rintro b f ⟨y,W,M,j,p⟩;refine Xa (wpAny_standAt<|Xa<|wpAny_holding<|QB (A Xa7 f σ W x y v a b u _ M m j r p) ?_);rintro _ c ⟨R,K,n⟩;exact wpAny_release ⟨σ,R,K,n⟩
def ZM(te:TE)(g:TG):TS:=λD σ H=>te σ H λx a=>g x σ a D.nx
def YD{g:TG}(he:PE X e te)(j:PG X tg g)(i:swapsWithSole [tg] e pos.line X.env=pure false:=by rfl)(hw:swappedStores [tg] e X.env=pure none:=by rfl)
(m:(assignEach [tg] X.env).map (·.2)=[assign tg X.env]:=by rfl):PS X (.Assign [tg] e pos) (ZM te g):=by
 intro Xa7 s σ H D I h;refine wpAny_Assign_stores (QB (he Xa7 s σ H _ I h) ?_) i hw;rintro v a ⟨x,p,n,b,f⟩;rw[m];exact QB (j Xa7 a σ p x v _ n b f) λ_ r q=>q
def QO(n:X.N.Nodup)(j:X.N[i]?=some x)(f:Loc X.env.scope x)(he:PE X e te)(g:swapsWith e (some<|.Name x pos') pos.line X.env=pure false:=by rfl)(m:X.fn x=true\/X.env.scope.names.lookup x=some .local:=by first|exact .inl rfl|exact .inr rfl|assumption):
 PS X (.Assign [.Name x pos'] e pos) (ZM te<|Vb i):=by
 intro Xa7 s σ H D I h;refine wpAny_Assign_Name (QB (he Xa7 s σ H _ I h) ?_) g;rintro v B ⟨y,w,r,a,b⟩;exact MO r n j f a (λA p=>⟨_,w,p,b⟩) m
def BZ(g h te:TE)(b:V->V->Hp->VK->Prop)(f:TIp)(a:DA):TS:=λD σ H=>g σ H λo s=>h σ s λi r=>b o i r λx p=>te σ p λy n=>f x y n λz m=>a o i z m λj=>D.nx σ j
def Ra(X:Cx)(t:V->V->Hp->VK->Prop):Prop:=
 ∀(Xa7:Qc) (s:Shared) (σ:St) (H:Hp) (o i:V) (a b:Value) (Q:VK),Qt X Xa7 σ H s->QN o a->QN i b->t o i H Q->
  wpAny (model X.prog X.w) X.A (getItem a b) (EP X Xa7 σ Q) X.xe s
def Gx{i:Expr}(u:PE X o to)(x:PE X i ti)(z:Ra X tget)(he:PE X e te)(t:PIp X op tip)(q:D8 X tset)
(F:∀b f a,augStore i b f a=(do holding [a,b,f] (setItem b f a);release [a,b,f] [];pure .next):=by intros;rfl):PS X (.AugAssign (.Subscript o i tpos) op e pos) (BZ to ti te tget tip tset):=by
 intro Xa7 s σ H D I h;refine wpAny_AugAssign_SubscriptAny (QB (u Xa7 s σ H _ I h) ?_) F;rintro b K ⟨m,H1,Q,p,l⟩;refine QB (x Xa7 K σ H1 _ Q l) ?_;rintro f E ⟨j,H2,O,n,k⟩;refine QB (z Xa7 E σ H2 m j b f _ O p n k) ?_;rintro g C ⟨y,Z,N,R,d⟩;refine QB (he Xa7 C σ Z _ N d) ?_;rintro v B ⟨w,U,L,P,c⟩;refine QB (t Xa7 B σ U y w g v _ L R P c) ?_;rintro a A ⟨r,T,J,M,Y⟩;refine QB (q Xa7 A σ T m j r b f a _ J p n M Y) ?_;rintro _ s6 ⟨S,G,W⟩;exact⟨σ,S,G,W⟩
def ipI(f:Int->Int->Int):TIp:=λx y H Q=>∃i j,x=.int i/\y=.int j/\Q (.int<|f i j) H
def Bq:PIp X .Add (ipI λi j=>i+j):=by
 intro Xa7 s σ H x y v u Q I b a h;obtain⟨i,j,g,f,q⟩:=h;subst g;subst f;obtain⟨t,rfl⟩:=b;obtain⟨m,rfl⟩:=a;exact iadd_int ⟨.int _,H,I.tok _,⟨_,rfl⟩,q⟩
def C2:PIp X .Sub (ipI λi j=>i-j):=by
 intro Xa7 s σ H x y v u Q I b a h;obtain⟨i,j,g,f,q⟩:=h;subst g;subst f;obtain⟨t,rfl⟩:=b;obtain⟨m,rfl⟩:=a;exact isub_int ⟨.int _,H,I.tok _,⟨_,rfl⟩,q⟩
def Ss(c:TT)(i:TS):TS:=λD σ H=>∃W:Nat->St->Hp->Prop,(∃m,W m σ H)/\∀m σ H,W m σ H->
 c σ H λb g=>if b=true then ∃N:St->Hp->Prop,(∀a h,N a h->∃f,f<m/\W f a h)/\i { D with nx:=N,ct:=N,bk:=D.nx } σ g else D.nx σ g
def Kz{tc:TT}(E:PassesOwn (model X.prog X.w) X.A X.env X.xe)(t:PT X c tc)(u:PSs X body tb):PS X (.While c body [] pos) (Ss tc tb):=by
 intro Xa7 s σ H D I h;obtain⟨W,⟨q,e⟩,j⟩:=h;refine wpAny_While (codeAny_whileLoop (λn o=>∃i Y,Qt X Xa7 i Y o/\W n i Y) ?_ q ⟨σ,H,I,e⟩);rintro n l ⟨g,R,x,d⟩;refine wpAny_passesOwn E (QB (t Xa7 l g R _ x<|j n g R d) ?_);rintro b k ⟨P,M,r⟩;cases b with
 |true=>
  obtain⟨N,K,r⟩:=r;rw[Xd rfl];refine wpAny_passesOwn E (QB (u Xa7 k g P _ M r) λf z p=>?_);cases f with
  |next=>
   obtain⟨a,m,C,y⟩:=p;obtain⟨A,B,w⟩:=K a m y;exact⟨A,B,a,m,C,w⟩
  |cont=>
   obtain⟨a,m,C,y⟩:=p;obtain⟨A,B,w⟩:=K a m y;exact⟨A,B,a,m,C,w⟩
  |brk=>exact p
  |ret v=>exact p
 |false=>
  rw[Xb XG];exact wpAny_execs_nil ⟨g,P,M,r⟩
structure It where
 go:Nat->Hp->Prop
 yld:Nat->Hp->V->Hp->Prop
 stop:Nat->Hp->Prop
def Y7(X:Cx)(Xa7:Qc)(H:Hp)(b:Addr):Prop:=
 H b=none/\b≠X.env.locals/\b∉X.fs/\(b∈X.ex\/X.s₀.heap.objs.size<=b)/\(∀x c,X.env.cells.lookup x=some c->c≠b)/\∀p∈X.pn++Xa7,p.1≠b
def Qt.fpOk{b:Addr}(I:Qt X Xa7 σ H s)(a:s.heap.objs.size<=b)(hn:H' b=none):Y7 X Xa7 H' b:=by
 refine⟨hn,Yo<|Xp I.lt a,I.nofs a,.inr<|X0 I.sz a,λx c e z=>?_,λp f z=>?_⟩
 .obtain⟨v,q⟩:=I.cell x c e;exact Xz (Xp q.lt<|by rw[z];exact a) (Y5 _)
 .exact Xz (Xp (Xk (I.pin p f).1)<|by rw[z];exact a) (Y5 _)
structure Turn(P:Program)(w:World)(K:W.Frag)(tg:Expr)(J:It)(fp:Qg)(it:Addr)(tn:Nat->Heap->Prop):Prop where
 mem:it∈fp
 obj:∀i h,tn i h->∀b∈fp,∃o,h.get? b=some o/\∀v,o.data≠.cell v
 keep:∀i h h',tn i h->(∀b∈fp,∀o,h.get? b=some o->h'.get? b=some o)->tn i h'
 item:∀(X:Cx),X.prog=P->X.w=w->X.K=K->X.calm=true->∀(i:Nat) (Xa7:Qc) (s:Shared) (σ:St) (H:Hp) (E:Qb),Qt X Xa7 σ H s->(∀b∈fp,Y7 X Xa7 H b)->tn i s.heap->J.go i H->
  wpAny (model P w) X.A (pyNext<|.ref it) (λr s1=>∃u,r=some u/\
   wpAny (model P w) X.A (letOwnedTupleGo tg (.ref it) u) (λ_ s2=>∃x H',Qt X Xa7 σ H' s2/\QN x u/\J.yld i H x H'/\tn (i+1) s2.heap/\∀b∈fp,H' b=none) E s1) E s
 done:∀(X:Cx),X.prog=P->X.w=w->X.K=K->X.calm=true->∀(i:Nat) (Xa7:Qc) (s:Shared) (σ:St) (H:Hp) (E:Qb),Qt X Xa7 σ H s->(∀b∈fp,Y7 X Xa7 H b)->tn i s.heap->J.stop i H->
  wpAny (model P w) X.A (pyNext<|.ref it) (λr s1=>r=none/\Qt X Xa7 σ H s1) E s
 self:∀(A:Around) (i:Nat) (s:Shared) (Q:Qb) (E:Qb),tn i s.heap->Q (.ref it) s->wpAny (model P w) A (pyIter<|.ref it) Q E s
abbrev TI:=St->Hp->(It->Hp->Prop)->Prop
def PIE(X:Cx)(Xa7:Qc)(σ:St)(tg:Expr)(R:It->Hp->Prop)(a:Value)(h:Shared):Prop:=
 ∃(i:Addr) (j:Qg) (g:Nat->Heap->Prop) (J:It) (f:Hp),a=.ref i/\Qt X Xa7 σ f h/\Turn X.prog X.w X.K tg J j i g/\g 0 h.heap/\(∀b∈j,Y7 X Xa7 f b)/\R J f
def PI(X:Cx)(tg iter:Expr)(wi:TI):Prop:=
 ∀(Xa7:Qc) (s:Shared) (σ:St) (H:Hp) (R:It->Hp->Prop),Qt X Xa7 σ H s->wi σ H R->
  wpAny (model X.prog X.w) X.A (eval iter X.env) (λv a=>wpAny (model X.prog X.w) X.A (pyIter v) (PIE X Xa7 σ tg R) X.xe a) X.xe s
def UZ{n:String}(b:s.heap.get? it=some o)(g:o.cls=.type n)(f:o.data=.fields vs)
(hn:["enumerate","zip","dict_itemiterator","dict_reverseitemiterator","odict_iterator","itertools.zip_longest","itertools.pairwise"].contains n=false)(a:Q () s):wpAny M A (letOwnedTupleGo tg (.ref it) u) Q E s:=by
 unfold letOwnedTupleGo;cases tg<;>first
  |exact Xj a
  | (cases u<;>first
   |exact Xj a
   | (refine Xa (wpAny_load b ?_)
      rw[g,f];show wpAny M A (if (["enumerate","zip","dict_itemiterator","dict_reverseitemiterator","odict_iterator","itertools.zip_longest","itertools.pairwise"].contains n&&vs[0]?==some (rawInt _))=true then _ else _) Q E s;rw[Xb<|by intro h;rw[hn,Bool.false_and]at h;cases h];exact Xj a))
def Itl(K:W.Frag)(a:Addr):It:=
 ⟨λi H=>∃xs x,SqL K H a xs/\xs[i]?=some x,λi H x b=>b=H/\∀xs,SqL K H a xs->xs[i]?=some x,λi H=>∃xs,SqL K H a xs/\xs.length<=i⟩
def Itt(K:W.Frag)(a:Addr):It:=
 ⟨λi H=>∃xs x,SqT K H a xs/\xs[i]?=some x,λi H x b=>b=H/\∀xs,SqT K H a xs->xs[i]?=some x,λi H=>∃xs,SqT K H a xs/\xs.length<=i⟩
def Itr(lo:Int)(n:Nat):It:=⟨λi _=>i<n,λi H x a=>a=H/\x=.int (lo+i),λi _=>n<=i⟩
theorem Zn6(a it:Addr):Turn P w K tg (Itl K a) [it] it (λi h=>h.IsListIter it a i) where
 mem:=by simp
 obj:=λi h f b g=>by
  have e:b=it:=by simpa using g
  subst e;obtain⟨o,e,c,d⟩:=f;exact⟨o,e,λv z=>by rw[d]at z;cases z⟩
 keep:=λi h h' f k=>f.at λo e=>k it (by simp) o e
 item:=by
  intro X C A M q i Xa7 s σ H E I m f B;subst C A M;obtain⟨xs,x,hq,y⟩:=B;obtain⟨r,n,p,hz⟩:=I.list hq;obtain⟨u,G,D⟩:=n.get y;obtain⟨f0,l,J,Y,W,R⟩:=m it (by simp);refine wpAny_pyNext_list_item f p.isList (x:=u) (by simpa using G) λh' j t=>?_;have N:Qt X Xa7 σ H { s with heap:=h' }:=I.turned (t':=s.toks) (λb o g e=>(t.2 b g).trans e) f0 l Y W R;obtain⟨o,e,c,d⟩:=id j
  exact⟨u,rfl,UZ (s:={ s with heap:=h' }) e c d (by decide) ⟨x,H,N,D,⟨rfl,λys F=>by rw[I.list_inj F hq];exact y⟩,j,λb g=>(m b g).1⟩⟩
 done:=by
  intro X C A M q i Xa7 s σ H E I m f B;subst C A M;obtain⟨xs,hq,y⟩:=B;obtain⟨r,n,p,hz⟩:=I.list hq;obtain⟨f0,l,J,Y,W,R⟩:=m it (by simp);have O:=n.length;exact wpAny_pyNext_list_end (I.ok.hd q) f p.isList (by simp;lia) λh' L=>⟨rfl,I.turned (t':=s.toks) (λb o g e=>L b o g e) f0 l Y W R⟩
 self:=λ_ _ _ _ _ f h=>wpAny_pyIter_listiter f h
theorem ZmU(a it:Addr):Turn P w K tg (Itt K a) [it] it (λi h=>h.IsTupleIter it a i) where
 mem:=by simp
 obj:=λi h f b j=>by
  have e:b=it:=by simpa using j
  subst e;obtain⟨o,e,c,d⟩:=f;exact⟨o,e,λv z=>by rw[d]at z;cases z⟩
 keep:=λi h h' f k=>f.at λo e=>k it (by simp) o e
 item:=by
  intro X C A M q i Xa7 s σ H E I n f B;subst C A M;obtain⟨xs,x,hq,y⟩:=B;obtain⟨g,r,p,hz⟩:=I.tuple hq;obtain⟨u,G,D⟩:=r.get y;obtain⟨f0,l,J,Y,W,R⟩:=n it (by simp);refine wpAny_pyNext_tuple_item f (show s.heap.IsTuple a g.toArray from p) (x:=u) (by simpa using G) λh' m t=>?_;have N:Qt X Xa7 σ H { s with heap:=h' }:=I.turned (t':=s.toks) (λb o j e=>(t.2 b j).trans e) f0 l Y W R;obtain⟨o,e,c,d⟩:=id m
  exact⟨u,rfl,UZ (s:={ s with heap:=h' }) e c d (by decide) ⟨x,H,N,D,⟨rfl,λys F=>by rw[I.tuple_inj F hq];exact y⟩,m,λb j=>(n b j).1⟩⟩
 done:=by
  intro X C A M q i Xa7 s σ H E I n f B;subst C A M;obtain⟨xs,hq,y⟩:=B;obtain⟨g,r,p,hz⟩:=I.tuple hq;obtain⟨f0,l,J,Y,W,R⟩:=n it (by simp);have O:=r.length;exact wpAny_pyNext_tuple_end (I.ok.hd q) f (show s.heap.IsTuple a g.toArray from p) (by simp;lia) λh' L=>⟨rfl,I.turned (t':=s.toks) (λb o j e=>L b o j e) f0 l Y W R⟩
 self:=λ_ _ _ _ _ f h=>wpAny_pyIter_tupleiter f h
theorem Znb(it:Addr)(lo:Int)(n:Nat):Turn P w K tg (Itr lo n) [it] it (λi h=>IsRangeIter h it (lo+(i:Nat)*1) ((n:Int)-(i:Nat)) 1) where
 mem:=by simp
 obj:=λi h a b f=>by
  have e:b=it:=by simpa using f
  subst e;exact⟨_,a,λv z=>by
   have Y:Data.fields _=Data.cell v:=z;cases Y⟩
 keep:=λi h h' a k=>k it (by simp) _ a
 item:=by
  intro X y m A r i Xa7 s σ H E I j a p;subst y m A;obtain⟨f0,R,l,M,C,B⟩:=j it (by simp);have W:=Walks.range (prog:=X.prog) (w:=X.w) (I.ok.hd r) it lo 1 n;refine W.item i s _ _ p a λv h' tk d g c=>?_;obtain⟨t,rfl⟩:=d;have u:Qt X Xa7 σ H { s with heap:=h',toks:=tk }:=I.turned (λb o f e=>c b o (by simpa using f) e) f0 R M C B;refine⟨_,rfl,UZ (s:={ s with heap:=h',toks:=tk }) (n := "range_iterator") g rfl rfl (by decide) ⟨.int<|lo+i,H,u,⟨t,?_⟩,⟨rfl,rfl⟩,g,λb f=>(j b f).1⟩⟩;rw[Int.mul_one]
 done:=by
  intro X y m A r i Xa7 s σ H E I j a p;subst y m A;obtain⟨f0,R,l,M,C,B⟩:=j it (by simp);exact wpAny_pyNext_range_end (I.ok.hd r) a (by have:n<=i:=p;lia) λh' q=>⟨rfl,I.turned (t':=s.toks) (λb o f e=>q b o f e) f0 R M C B⟩
 self:=λ_ _ _ _ _ a h=>wpAny_pyIter_rangeiter a h
def RT(K:W.Frag)(f:TE):TI:=λσ H R=>f σ H λx b=>∃a,x=.ref a/\(∃xs,SqL K b a xs)/\R (Itl K a) b
def Rb(K:W.Frag)(f:TE):TI:=λσ H R=>f σ H λx b=>∃a,x=.ref a/\(∃xs,SqT K b a xs)/\R (Itt K a) b
def W9(r:PE X l tl):PI X tg l (RT X.K tl):=by
 intro Xa7 s σ H R I h;refine QB (r Xa7 s σ H _ I h) ?_;rintro v f ⟨x,y,g,i,j⟩;obtain⟨a,e,⟨xs,n⟩,q⟩:=j;subst e;cases i;obtain⟨m,A,p,B⟩:=g.list n;refine wpAny_pyIter_list p.isList ?_;refine⟨f.heap.objs.size,[f.heap.objs.size],_,_,y,rfl,g.kept (t':=f.toks) λb o e=>Xg _ e,Zn6 a _,⟨_,XB _ rfl,rfl,rfl⟩,λb w=>?_,q⟩;have e:b=f.heap.objs.size:=by simpa using w
 subst e;exact g.fpOk (Xq _) (g.hok.fresh<|Xq _)
def FA(r:PE X l tl):PI X tg l (Rb X.K tl):=by
 intro Xa7 s σ H R I h;refine QB (r Xa7 s σ H _ I h) ?_;rintro v f ⟨x,y,g,j,m⟩;obtain⟨a,e,⟨xs,n⟩,q⟩:=m;subst e;cases j;obtain⟨i,A,p,B⟩:=g.tuple n;refine wpAny_pyIter_tuple (show f.heap.IsTuple a i.toArray from p) ?_;refine⟨f.heap.objs.size,[f.heap.objs.size],_,_,y,rfl,g.kept (t':=f.toks) λb o e=>Xg _ e,ZmU a _,⟨_,XB _ rfl,rfl,rfl⟩,λb w=>?_,q⟩;have e:b=f.heap.objs.size:=by simpa using w
 subst e;exact g.fpOk (Xq _) (g.hok.fresh<|Xq _)
def PJ{R:It->Hp->Prop}{lo a:Int}{v:Tok}{f:Nat}(I:Qt X Xa7 σ H s)(h1 : -(2^62)<=lo)(j:lo<2^62)(h3 : -(2^62)<=a)(i:a<2^62)
(q:R (Itr lo (a-lo).toNat) H):wpAny (model X.prog X.w) X.A (pyIter<|.ref s.heap.objs.size) (PIE X Xa7 σ tg R) E { s with heap:=s.heap.push { cls:=.type "range",data:=.fields #[.int lo t,.int a u,.int 1 v] },toks:=f }:=by
 refine wpAny_pyIter_range (IsRange.new ..) (small_one h1 j h3 i) ?_;have g:Qt X Xa7 σ H { s with heap:=s.heap.push { cls:=.type "range",data:=.fields #[.int lo t,.int a u,.int 1 v] },toks:=f }:=I.kept λb o e=>Xg _ e
 refine⟨(s.heap.push { cls:=.type "range",data:=.fields #[.int lo t,.int a u,.int 1 v] }).objs.size,[(s.heap.push { cls:=.type "range",data:=.fields #[.int lo t,.int a u,.int 1 v] }).objs.size],_,_,H,rfl,
  g.kept (t':=f) λb o e=>Xg _ e,Znb _ lo (a-lo).toNat,?_,λb h=>?_,q⟩
 .have n:lo+((0:Nat):Int)*1=lo:=by simp
  have m:(((a-lo).toNat:Nat):Int)-((0:Nat):Int)=Builtin.Range.rangeSize lo a 1:=by rw[rangeSize_one];split<;>lia
  show IsRangeIter _ _ (lo+((0:Nat):Int)*1) ((((a-lo).toNat:Nat):Int)-((0:Nat):Int)) 1;rw[n,m];exact XB _ rfl
 .have e:b=(s.heap.push { cls:=.type "range",data:=.fields #[.int lo t,.int a u,.int 1 v] }).objs.size:=by simpa using h
  subst e;exact g.fpOk (Xq _) (g.hok.fresh<|Xq _)
def Bi(ta:TA):TI:=λσ H R=>ta σ H λa b=>∃j:Int,a=[.int j] /\ -(2^62)<=j/\j<2^62/\R (Itr 0 j.toNat) b
def Rz(ta:TA):TI:=λσ H R=>ta σ H λa b=>∃i j:Int,a=[.int i,.int j]/\(-(2^62)<=i/\i<2^62 /\ -(2^62)<=j/\j<2^62)/\R (Itr i (j-i).toNat) b
def Ys{a:Expr}{ta:TA}(v:Gl X "range")(n:X.mg "range"=none)(w:PA X [a] ta)(m:starEach [a] X.env=[(false,eval a X.env)]:=by rfl):PI X tg (.Call (.Name "range" p) [a] [] pos) (Bi ta):=by
 intro Xa7 s σ H R I h;refine Call_ (Ju I v n boot_range<|PyProof.Rows.callWith_type1 (QB (w pos Xa7 s σ H _ I h) ?_) m rfl);rintro B C ⟨A,E,y,g,b⟩;obtain⟨j,e,b,i,q⟩:=b;subst e;cases g with
 |cons r f=>
  cases f;obtain⟨t,rfl⟩:=r;exact call_range_1 (PJ y (by lia) (by lia) b i<|by simpa using q)
def TM{a:Expr}{ta:TA}(E:Gl X "range")(C:X.mg "range"=none)(K:PA X [a,b] ta)(B:starEach [a,b] X.env=[(false,eval a X.env),(false,eval b X.env)]:=by rfl)(f:starEach [b] X.env=[(false,eval b X.env)]:=by rfl):
 PI X tg (.Call (.Name "range" p) [a,b] [] pos) (Rz ta):=by
 intro Xa7 s σ H R I h;refine Call_ (Ju I E C boot_range<|PyProof.Rows.callWith_type1 (QB (K pos Xa7 s σ H _ I h) ?_) (by rw[B,f])<|by rw[f];rfl);rintro W c ⟨P,d,M,n,m⟩;obtain⟨i,j,e,⟨m,A,y,w⟩,q⟩:=m;subst e;cases n with
 |cons r g=>
  cases g with
  |cons v g=>
   cases g;obtain⟨t,rfl⟩:=r;obtain⟨Y,rfl⟩:=v;exact call_range_2 (PJ M m A y w q)
def US(wi:TI)(g:TG)(j:TS):TS:=λD σ H=>wi σ H λJ p=>∃W:Nat->Nat->St->Hp->Prop,(∃m,W 0 m σ p)/\∀i m σ H,W i m σ H->
 (J.stop i H/\D.nx σ H)\/(J.go i H/\∃N:St->Hp->Prop,(∀a b,N a b->∃h,h<m/\W (i+1) h a b)/\∀x b,J.yld i H x b->g x σ b λf n=>j { D with nx:=N,ct:=N,bk:=D.nx } f n)
def Bu(a:Qg)(h:Heap):Qc:=a.filterMap λb=>(h.get? b).map λo=>(b,o)
def MV{b:Addr}(a:b∈fp)(e:h.get? b=some o):(b,o)∈Bu fp h:=List.mem_filterMap.mpr ⟨b,a,by rw[e];rfl⟩
def O0{p:Addr×Obj}(a:p∈Bu fp h):p.1∈fp/\h.get? p.1=some p.2:=by
 obtain⟨b,f,e⟩:=List.mem_filterMap.mp a;cases q:h.get? b with
 |none=>rw[q]at e;cases e
 |some o=>
  rw[q]at e;have g:(b,o)=p:=Option.some.inj e;subst g;exact⟨f,q⟩
def Qt.pinned(I:Qt X Xa7 σ H s)(i:∀b∈fp,Y7 X Xa7 H b)(h:∀b∈fp,∃o,s.heap.get? b=some o/\∀v,o.data≠.cell v):Qt X (Xa7++Bu fp s.heap) σ H s:=
 I.pins_of λp g=>(XD.mp g).elim (λz=>I.pin p<|XT _ z) λz=>by
  obtain⟨a,e⟩:=O0 z;obtain⟨f0,m,j,_⟩:=i p.1 a;obtain⟨o,f,d⟩:=h p.1 a;rw[e]at f;cases f;exact⟨e,f0,m,j,d⟩
def Qt.unpinned(I:Qt X (Xa7++pl) σ H s):Qt X Xa7 σ H s:=I.pins_of λp a=>I.pin p (XT _<|JR _ a)
def Vc{g:TG}(k:PassesOwn (model X.prog X.w) X.A X.env X.xe)(hc:X.calm=true)(hi:PI X tg iter wi)(hg:PG X tg g)(y:PSs X body tb)
(hs:∀x,foldedSetIterable iter X.env x=pure x:=by intro _;rfl):PS X (.For tg iter body [] pos) (US wi g tb):=by
 intro Xa7 s σ H D I h;refine wpAny_For (QB (hi Xa7 s σ H _ I h) λv s1 h1=>QB h1 λitv s2 h2=>?_) hs;obtain⟨it,q,S,J,H2,e,I2,T,F,f2,W,⟨m0,w0⟩,P⟩:=h2;subst e;have w:∀{E:Hp},(∀b∈q,E b=none)->∀b∈q,Y7 X Xa7 E b:=λhn b y=>⟨hn b y,(f2 b y).2⟩;refine codeAny_forLoop_any (λn s'=>∃i p E,Qt X Xa7 p E s'/\S i s'.heap/\(∀b∈q,E b=none)/\W i n p E) ?_ m0 ⟨0,σ,H2,I2,F,λb y=>(f2 b y).1,w0⟩
 rintro n Z ⟨i,j,t,I3,Y,l,w3⟩;rcases P i n j t w3 with ⟨R,qn⟩|⟨go,N,hN,step⟩
 .refine wpAny_passesOwn k (QB (T.done X rfl rfl rfl hc i Xa7 Z j t X.xe I3 (w l) Y R) ?_);rintro r s4 ⟨L,I4⟩;subst L;exact wpAny_execs_nil ⟨j,t,I4,qn⟩
 .refine wpAny_passesOwn k (QB (T.item X rfl rfl rfl hc i Xa7 Z j t X.xe I3 (w l) Y go) ?_);rintro r s4 ⟨u,L,h4⟩;subst L;refine wpAny_passesOwn k (QB h4 ?_);rintro _ U ⟨x,H5,I5,r5,y5,M,O⟩;have Q:=I5.pinned (w O) (T.obj _ _ M);refine wpAny_passesOwn k (QB (hg _ U j H5 x u _ Q r5<|step x H5 y5) ?_);rintro _ s6 ⟨z,H6,I6,q6⟩;refine wpAny_passesOwn k (QB (y _ s6 z H6 _ I6 q6) λf G K=>?_);have A:∀{a:St} {C:Hp},Qt X (Xa7++Bu q U.heap) a C G->N a C->∃m,m<n/\∃i p E,Qt X Xa7 p E G/\S i G.heap/\(∀b∈q,E b=none)/\W i m p E:=λ{a C} B c=>by
   obtain⟨m',hm,w7⟩:=hN a C c;refine⟨m',hm,i+1,a,C,B.unpinned,T.keep _ _ _ M λb y o e=>(B.pin (b,o)<|XT _<|XT _<|MV y e).1,λb y=>?_,w7⟩;obtain⟨o,e,d⟩:=T.obj _ _ M b y;exact(B.pin (b,o)<|XT _<|XT _<|MV y e).2.1
  cases f with
  |next=>obtain⟨a,C,B,c⟩:=K;exact A B c
  |cont=>obtain⟨a,C,B,c⟩:=K;exact A B c
  |brk=>obtain⟨a,C,B,K⟩:=K;exact⟨a,C,B.unpinned,K⟩
  |ret v=>obtain⟨x7,a,C,B,r7,K⟩:=K;exact⟨x7,a,C,B.unpinned,r7,K⟩
abbrev R2:=V->V->Hp->VK->Prop
def OpR(X:Cx)(f:Value->Value->Sem Value)(r:R2):Prop:=
 ∀(Xa7:Qc) (s:Shared) (σ:St) (H:Hp) (x y:V) (v u:Value) (Q:VK),Qt X Xa7 σ H s->QN x v->QN y u->r x y H Q->
  wpAny (model X.prog X.w) X.A (f v u) (EP X Xa7 σ Q) X.xe s
def UnR(X:Cx)(f:Value->Sem Value)(r:V->Hp->VK->Prop):Prop:=
 ∀(Xa7:Qc) (s:Shared) (σ:St) (H:Hp) (x:V) (v:Value) (Q:VK),Qt X Xa7 σ H s->QN x v->r x H Q->
  wpAny (model X.prog X.w) X.A (f v) (EP X Xa7 σ Q) X.xe s
def ZW(X:Cx)(f:Value)(r:List V->Hp->VK->Prop):Prop:=
 ∀(Xa7:Qc) (s:Shared) (σ:St) (H:Hp) (xs:List V) (a:Qe) (Q:VK),Qt X Xa7 σ H s->QQ xs a->r xs H Q->
  wpAny (model X.prog X.w) X.A (call f a) (EP X Xa7 σ Q) X.xe s
def LQ(X:Cx)(r:V->Hp->(Bool->Hp->Prop)->Prop):Prop:=
 ∀(Xa7:Qc) (s:Shared) (σ:St) (H:Hp) (x:V) (v:Value) (Q:Bool->Hp->Prop),Qt X Xa7 σ H s->QN x v->r x H Q->
  wpAny (model X.prog X.w) X.A (truthy v) (TP X Xa7 σ Q) X.xe s
def tOp(r:R2)(ta a:TE):TE:=λσ H Q=>ta σ H λx f=>a σ f λy b=>r x y b Q
def tUn(r:V->Hp->VK->Prop)(ta:TE):TE:=λσ H Q=>ta σ H λx a=>r x a Q
def rI(C:Int->Int->Prop)(g:Int->Int->V):R2:=λx y H Q=>∃i j,x=.int i/\y=.int j/\C i j/\Q (g i j) H
def rI0(g:Int->Int->V):R2:=λx y H Q=>∃i j,x=.int i/\y=.int j/\Q (g i j) H
def rU(g:Int->V):V->Hp->VK->Prop:=λx H Q=>∃i,x=.int i/\Q (g i) H
section
variable {a:Expr}{tb:TE}
def D3(C:PE X a ta)(B:PE X b tb){R:V->V->Hp->Prop}(I:Qt X Xa7 σ H s)
(h:ta σ H λx j=>tb σ j λy g=>R x y g){f:Value->Value->Sem Value}
(A:∀v u i x y g,Qt X Xa7 σ g i->QN x v->QN y u->R x y g->wpAny (model X.prog X.w) X.A (f v u) Q X.xe i):
 wpAny (model X.prog X.w) X.A (eval a X.env) (λv K=>wpAny (model X.prog X.w) X.A (eval b X.env) (λu E=>wpAny (model X.prog X.w) X.A (f v u) Q X.xe E) X.xe K) X.xe s:=by
 refine QB (C Xa7 s σ H _ I h) ?_;rintro v m ⟨x,j,P,p,w⟩;refine QB (B Xa7 m σ j _ P w) ?_;rintro u i ⟨y,g,M,n,r⟩;exact A v u i x y g M p n r
def QP{r:R2}(j:OpR X (binaryOp op) r)(n:PE X a ta)(m:PE X b tb):PE X (.BinOp a op b pos) (tOp r ta tb):=by
 intro Xa7 s σ H Q I h;exact wpAny_BinOp (D3 n m I h λv u f x y w p i g q=>j Xa7 f σ w x y v u Q p i g q)
def Bg{r:V->Hp->VK->Prop}(i:UnR X (unaryOp op) r)(j:PE X a ta):PE X (.UnaryOp op a pos) (tUn r ta):=by
 intro Xa7 s σ H Q I h;refine UnaryOp_ (QB (j Xa7 s σ H _ I h) ?_);rintro v b ⟨x,n,m,f,g⟩;exact i Xa7 b σ n x v Q m f g
def opI{f:Value->Value->Sem Value}{C:Int->Int->Prop}{g:Int->Int->Int}
(a:∀(i j:Int) (t u:Tok) (s:Shared) (Q:Qb) (E:Qb),C i j->Q (.int (g i j) s.toks) { s with toks:=s.toks+1 }->wpAny (model X.prog X.w) X.A (f (.int i t)<|.int j u) Q E s):
 OpR X f (rI C λi j=>.int<|g i j):=by
 intro Xa7 s σ H x y v u Q I n m h;obtain⟨i,j,rfl,rfl,p,q⟩:=h;obtain⟨t,rfl⟩:=n;obtain⟨b,rfl⟩:=m;exact a i j t b s _ _ p ⟨.int<|g i j,H,I.tok _,⟨_,rfl⟩,q⟩
def D5{f:Value->Value->Sem Value}{g:Int->Int->Int}
(a:∀(i j:Int) (t u:Tok) (s:Shared) (Q:Qb) (E:Qb),Q (.int (g i j) s.toks) { s with toks:=s.toks+1 }->wpAny (model X.prog X.w) X.A (f (.int i t)<|.int j u) Q E s):
 OpR X f (rI0 λi j=>.int<|g i j):=by
 intro Xa7 s σ H x y v u Q I n m h;obtain⟨i,j,rfl,rfl,q⟩:=h;obtain⟨t,rfl⟩:=n;obtain⟨b,rfl⟩:=m;exact a i j t b s _ _ ⟨.int<|g i j,H,I.tok _,⟨_,rfl⟩,q⟩
def D7{f:Value->Value->Sem Value}{g:Int->Int->Bool}
(a:∀(i j:Int) (t u:Tok) (s:Shared) (Q:Qb) (E:Qb),Q (.bool<|g i j) s->wpAny (model X.prog X.w) X.A (f (.int i t)<|.int j u) Q E s):
 OpR X f (rI0 λi j=>.bl<|g i j):=by
 intro Xa7 s σ H x y v u Q I n m h;obtain⟨i,j,rfl,rfl,q⟩:=h;obtain⟨t,rfl⟩:=n;obtain⟨b,rfl⟩:=m;exact a i j t b s _ _ ⟨.bl<|g i j,H,I,rfl,q⟩
def NW(i j:Int):Prop:=0<=j/\j<=1000000/\i.natAbs<2^64
def Jo(i j:Int):Prop:=(-(2^64)<i/\i<2^64)\/(-(2^64)<j/\j<2^64)
def Jo.ok{i j:Int}(h:Jo i j):IntMulOk i j:=by
 rcases h with ⟨b,a⟩|⟨b,a⟩
 .exact .of_left (intBits_le_64 b a)
 .exact .of_right (intBits_le_64 b a)
def Zmx(k:Nat):(0:Int)<=2^k:=by
 rw[two_pow_cast];exact Int.natCast_nonneg _
def Vi:OpR X (binaryOp .Add) (rI0 λi j=>.int<|i+j):=D5 λ_ _ _ _ _ _ _ q=>add_int q
def Y1:OpR X (binaryOp .Sub) (rI0 λi j=>.int<|i-j):=D5 λ_ _ _ _ _ _ _ q=>sub_int q
def Gp:OpR X (binaryOp .Mult) (rI Jo λi j=>.int<|i*j):=opI λ_ _ _ _ _ _ _ a q=>mul_int q a.ok
def W3:OpR X (binaryOp .Mod) (rI (λ_ j=>0<j) λi j=>.int<|i%j):=opI λi j _ _ _ _ _ a q=>by
 have b:(0:Int)<j:=a;exact mod_int' (by lia) (by rw[Int.fmod_eq_emod_of_nonneg i<|by lia];exact q)
def Ml:OpR X (binaryOp .Pow) (rI NW λi j=>.int<|i^j.toNat):=opI λ_ _ _ _ _ _ _ a q=>pow_int_small a.1 a.2.1 a.2.2 q
def FW:OpR X (binaryOp .RShift) (rI (λ_ j=>0<=j) λi j=>.int<|i/2^j.toNat):=opI λi j _ _ _ _ _ a q=>
 rshift_int a (by rw[Int.fdiv_eq_ediv_of_nonneg i<|Zmx _];exact q)
def Ha:OpR X (binaryOp .BitXor) (rI0 λi j=>.int<|Builtin.bitXor i j):=D5 λ_ _ _ _ _ _ _ q=>xor_int q
def unI{f:Value->Sem Value}{g:Int->Int}
(a:∀(i:Int) (t:Tok) (s:Shared) (Q:Qb) (E:Qb),Q (.int (g i) s.toks) { s with toks:=s.toks+1 }->wpAny (model X.prog X.w) X.A (f<|.int i t) Q E s):
 UnR X f (rU λi=>.int<|g i):=by
 intro Xa7 s σ H x v Q I b h;obtain⟨i,rfl,q⟩:=h;obtain⟨t,rfl⟩:=b;exact a i t s _ _ ⟨.int<|g i,H,I.tok _,⟨_,rfl⟩,q⟩
def Bk:UnR X (unaryOp .USub) (rU λi=>.int (-i)):=unI λ_ _ _ _ _ q=>neg_int q
end
noncomputable def LS:V->V->Bool
 |.non,.non=>true|.non,.int _=>true|.int _,.non=>true|.non,.bl _=>true|.bl _,.non=>true|.non,.str _=>true|.str _,.non=>true
 |.int _,.int _=>true|.bl _,.bl _=>true|.str _,.str _=>true|.byt _,.byt _=>true
 |.int _,.str _=>true|.str _,.int _=>true|.bl _,.str _=>true|.str _,.bl _=>true
 |_,_=>false
def rEq:R2:=λx y H Q=>LS x y=true/\Q (.bl<|decide (x=y)) H
def CT{i j:Int}:decide (V.int i=V.int j)=(i==j):=by
 rw[Bool.eq_iff_iff];simp
def Cu{i j:Bool}:decide (V.bl i=V.bl j)=(i==j):=by
 rw[Bool.eq_iff_iff];simp
def AV{i j:Str}:decide (V.str i=V.str j)=(i==j):=by
 rw[Bool.eq_iff_iff];simp
def AC{i j:Array UInt8}:decide (V.byt i=V.byt j)=(i.toList==j.toList):=by
 rw[Bool.eq_iff_iff];cases i;cases j;simp
section
variable {a c:Expr}{tb:TE}
def Yq(I:Qt X Xa7 σ H s)(q:Q (.bl k) H)(e:k=k'):EP X Xa7 σ Q (.bool k') s:=by
 subst e;exact⟨.bl k,H,I,rfl,q⟩
def Um:OpR X (compareOp .Eq) rEq:=by
 intro Xa7 s σ H x y v u Q I f a h;obtain⟨c,q⟩:=h;cases x with
 |non=>
  cases f;cases y with
  |non=>cases a;exact PySem.EqNone.eq_none_none (Yq I q<|by simp)
  |bl j=>cases a;exact PySem.EqNone.eq_none_bool (Yq I q<|by simp)
  |int j=>obtain⟨b,rfl⟩:=a;exact PySem.EqNone.eq_none_int (Yq I q<|by simp)
  |str j=>obtain⟨b,rfl⟩:=a;exact PySem.EqNone.eq_none_str (Yq I q<|by simp)
  |_=>exact Xz (show false=true from c) XG
 |bl i=>
  cases f;cases y with
  |non=>cases a;exact PySem.EqNone.eq_bool_none (Yq I q<|by simp)
  |bl j=>cases a;exact eq_bool (Yq I q Cu)
  |str j=>obtain⟨b,rfl⟩:=a;exact PySem.EqMixed.eq_bool_str (Yq I q<|by simp)
  |_=>exact Xz (show false=true from c) XG
 |int i=>
  obtain⟨t,rfl⟩:=f;cases y with
  |non=>cases a;exact PySem.EqNone.eq_int_none (Yq I q<|by simp)
  |int j=>obtain⟨b,rfl⟩:=a;exact eq_int (Yq I q CT)
  |str j=>obtain⟨b,rfl⟩:=a;exact PySem.EqMixed.eq_int_str (Yq I q<|by simp)
  |_=>exact Xz (show false=true from c) XG
 |str i=>
  obtain⟨t,rfl⟩:=f;cases y with
  |non=>cases a;exact PySem.EqNone.eq_str_none (Yq I q<|by simp)
  |bl j=>cases a;exact PySem.EqMixed.eq_str_bool (Yq I q<|by simp)
  |int j=>obtain⟨b,rfl⟩:=a;exact PySem.EqMixed.eq_str_int (Yq I q<|by simp)
  |str j=>obtain⟨b,rfl⟩:=a;exact eq_str (Yq I q AV)
  |_=>exact Xz (show false=true from c) XG
 |byt i=>
  obtain⟨t,rfl⟩:=f;cases y with
  |byt j=>obtain⟨b,rfl⟩:=a;exact W.eq_bytes (Yq I q AC)
  |_=>exact Xz (show false=true from c) XG
 |_=>cases y<;>exact Xz (show false=true from c) XG
def Wf:OpR X (compareOp .Lt) (rI0 λi j=>.bl<|decide (i<j)):=D7 λ_ _ _ _ _ _ _ q=>lt_int q
def Uo:OpR X (compareOp .LtE) (rI0 λi j=>.bl<|decide (i<=j)):=D7 λ_ _ _ _ _ _ _ q=>le_int q
def Yh:OpR X (compareOp .Gt) (rI0 λi j=>.bl<|decide (j<i)):=D7 λ_ _ _ _ _ _ _ q=>gt_int q
def Zy(b:Expr)(h:op≠.In:=by decide)(a:op≠.NotIn:=by decide):behindInMarks op b=false:=by
 have f:(op==CmpOp.In)=false:=by cases op<;>first|rfl|exact Xz rfl h
 have c:(op==CmpOp.NotIn)=false:=by cases op<;>first|rfl|exact Xz rfl a
 cases b<;>simp[behindInMarks,f,c]
def Jz{r:R2}(i:OpR X (compareOp op) r)(n:PE X a ta)(m:PE X b tb)(j:behindInMarks op b=false):PE X (.Compare a [op] [b] pos) (tOp r ta tb):=by
 intro Xa7 s σ H Q I h;exact wpAny_Compare1 (D3 n m I h λv u c x y w p g f q=>i Xa7 c σ w x y v u Q p g f q) j
def Bf(t:TE):TT:=λσ H Q=>t σ H λx a=>∃k,x=.bl k/\Q k a
def ZG{r:R2}(A:OpR X (compareOp op) r)(E:PE X a ta)(C:PE X b tb)(B:behindInMarks op b=false):PT X (.Compare a [op] [b] pos) (Bf<|tOp r ta tb):=by
 intro Xa7 s σ H Q I h;refine wpAny_isTrue_Compare1 (QB (E Xa7 s σ H _ I h) λv g ⟨x,Y,P,m,w⟩=>QB (C Xa7 g σ Y _ P w) λu f ⟨y,W,M,j,p⟩=>
  QB (A Xa7 f σ W x y v u _ M m j p) λc d ⟨z,R,K,i,k,e,n⟩=>?_) B
 subst e;cases i;exact wpAny_truthy_bool ⟨R,K,n⟩
def Hz(r c:R2)(ta tb tc:TE):TE:=λσ H Q=>ta σ H λx h=>tb σ h λy g=>r x y g λz a=>∃k,z=.bl k/\
 (if k=true then tc σ a λb f=>c y b f Q else Q (.bl false) a)
def PU{r:R2}(Y:OpR X (compareOp op) r)(f:OpR X (compareOp op') r')(t:PE X a ta)(q:PE X b tb)(o:PE X c tc)
(l:lastMarks [op,op'] [b,c]=false:=by with_unfolding_all rfl):PE X (.Compare a [op,op'] [b,c] pos) (Hz r r' ta tb tc):=by
 intro Xa7 s σ H Q I h;refine Compare_chain (QB (t Xa7 s σ H _ I h) λv C ⟨x,N,G,M,W⟩=>chain_link (QB (q Xa7 C σ N _ G W) λu B ⟨y,L,F,g,R⟩=>
  QB (Y Xa7 B σ L x y v u _ F M g R) λd A ⟨z,m,j,K,k,e,i⟩=>?_)) l
 subst e;cases K;refine wpAny_truthy_bool ?_;cases k with
 |false=>exact ite_ff ⟨.bl false,m,j,rfl,i⟩
 |true=>exact ite_tt (chain_last<|QB (o Xa7 A σ m _ j i)<|by rintro p w ⟨n,J,D,E,P⟩;exact f Xa7 w σ J y n u p Q D g E P)
def Kp{r:R2}(q:OpR X (compareOp op) r)(f:OpR X (compareOp op') r')(G:PE X a ta)(F:PE X b tb)(D:PE X c tc)
(t:lastMarks [op,op'] [b,c]=false:=by with_unfolding_all rfl):PT X (.Compare a [op,op'] [b,c] pos) (Bf<|Hz r r' ta tb tc):=by
 intro Xa7 s σ H Q I h;refine isTrue_chain (QB (G Xa7 s σ H _ I h) λv C ⟨x,H1,T,P,l⟩=>test_link (QB (F Xa7 C σ H1 _ T l) λu B ⟨y,H2,S,g,Y⟩=>
  QB (q Xa7 B σ H2 x y v u _ S P g Y) λd A ⟨z,m,j,M,k,e,i⟩=>?_)) t
 subst e;cases M;refine wpAny_truthy_bool ?_;cases k with
 |false=>
  obtain⟨k',L,o⟩:=i;cases L;exact ite_ff ⟨m,j,o⟩
 |true=>
  refine ite_tt (test_last<|QB (D Xa7 A σ m _ j i) ?_);rintro p w ⟨n,Z,O,K,W⟩;refine QB (f Xa7 w σ Z y n u p _ O g K W) ?_;rintro d' s5 ⟨z2,U,N,E,k2,J,R⟩;subst J;cases E;exact wpAny_truthy_bool ⟨U,N,R⟩
def DI(K:W.Frag)(x:V)(H:Hp)(k:Bool):Prop:=
 match x with
 |.non=>k=false
 |.bl b=>k=b
 |.int i=>k=(i != 0)
 |.str y=>y.length<=sizeLine/\k=((y.length:Int) != 0)
 |.byt y=>y.size<=sizeLine/\k=((y.size:Int) != 0)
 |.ref p=>(∃xs,SqL K H p xs/\k = !xs.isEmpty)\/(∃xs,SqT K H p xs/\k = !xs.isEmpty)\/∃a,H p=some (.dK a)/\k = !a.isEmpty
 |_=>False
def ZmO{a:Type}{L0:List (a×V)}{vs:List (a×Value)}(r:KV L0 vs):(!vs.isEmpty) = !L0.isEmpty:=by
 cases r<;>rfl
def Lw(r:QQ xs its):(!its.toArray.isEmpty) = !xs.isEmpty:=by
 cases r<;>simp
def U0:(sizeLine:Nat)<2^63:=by rw[sizeLine_eq];decide
def C4:LQ X (λx H Q=>∃k,DI X.K x H k/\Q k H):=by
 intro Xa7 s σ H x v Q I g h;obtain⟨k,e,q⟩:=h;have M:=U0;have K:sizeLine=16777216:=sizeLine_eq;cases x with
 |non=>
  cases g;have a:k=false:=e;subst a;exact truthy_none ⟨H,I,q⟩
 |bl b=>
  cases g;have a:k=b:=e;subst a;exact wpAny_truthy_bool ⟨H,I,q⟩
 |int i=>
  obtain⟨t,rfl⟩:=g;have a:k=(i != 0):=e;subst a;exact PySem.P.truthy_int ⟨H,I,q⟩
 |str y=>
  obtain⟨t,rfl⟩:=g;obtain⟨C,a⟩:y.length<=sizeLine/\k=((y.length:Int) != 0):=e;subst a;exact PySem.P.truthy_str (by lia) ⟨H,I.tok _,q⟩
 |byt y=>
  obtain⟨t,rfl⟩:=g;obtain⟨C,a⟩:y.size<=sizeLine/\k=((y.size:Int) != 0):=e;subst a;exact W.truthy_bytes (by lia) ⟨H,I.tok _,q⟩
 |ref p=>
  cases g;have a:(∃xs,SqL X.K H p xs/\k = !xs.isEmpty)\/(∃xs,SqT X.K H p xs/\k = !xs.isEmpty)\/∃c,H p=some (.dK c)/\k = !c.isEmpty:=e;rcases a with ⟨xs,j,a⟩|⟨xs,j,a⟩|⟨c,j,a⟩
  .subst a;obtain⟨A,r,w,B⟩:=I.list j;have f:=r.length;exact wpAny_truthy_list w.isList (by simp only[Xu];lia) ⟨H,I.tok _,by rw[Lw r];exact q⟩
  .subst a;obtain⟨A,r,w,B⟩:=I.tuple j;have f:=r.length;exact truthy_tuple w (by simp only[Xu];lia) ⟨H,I.tok _,by rw[Lw r];exact q⟩
  .subst a;obtain⟨B,E,n,r,m⟩:c.length<=sizeLine/\(p==sysModules)=false/\∃n,KV c n/\s.heap.DictOf (Vr X.prog X.w) p n:=I.hok p _ j;have f:c.length=n.length:=Paired.length r;exact wpAny_truthy_dict E m (by lia) ⟨H,I.tok _,by rw[ZmO r];exact q⟩
 |_=>exact(show False from e).elim
def EE(j:PE X a ta)(he:∀b,isTrue a X.env b=(do let v <- b;standAt a.pos;holding [v] (truthy v))):
 PT X a (λσ H Q=>ta σ H λx c=>∃k,DI X.K x c k/\Q k c):=by
 intro Xa7 s σ H Q I h;refine isTrue_plain (QB (j Xa7 s σ H _ I h) ?_) (he _);rintro v f ⟨x,n,m,g,i⟩;exact C4 Xa7 f σ n x v Q m g i
def Yy(r:QQ [x] us):∃u,us=[u]/\QN x u:=by
 cases r with
 |cons b a=>cases a;exact⟨_,rfl,b⟩
def Mc(r:QQ [x,y] us):∃u a,us=[u,a]/\QN x u/\QN y a:=by
 cases r with
 |cons g f=>
  cases f with
  |cons c b=>cases b;exact⟨_,_,rfl,g,c⟩
def IY(b:X.calm=true):ZW X (.builtin "max") (λxs H Q=>∃i j,xs=[.int i,.int j]/\Q (.int (if j > i then j else i)) H):=by
 intro Xa7 s σ H xs f Q I r h;obtain⟨i,j,rfl,q⟩:=h;obtain⟨u,c,rfl,⟨t,rfl⟩,⟨m,rfl⟩⟩:=Mc r;refine max_two_ints (I.ok.hd b) λh' g k=>⟨_,H,I.kept k,?_,q⟩
 by_cases a:j > i
 .rw[Xd a,Xd a];exact⟨_,rfl⟩
 .rw[Xb a,Xb a];exact⟨_,rfl⟩
def OF(b:X.calm=true):ZW X (.builtin "min") (λxs H Q=>∃i j,xs=[.int i,.int j]/\Q (.int (if j<i then j else i)) H):=by
 intro Xa7 s σ H xs f Q I r h;obtain⟨i,j,rfl,q⟩:=h;obtain⟨u,c,rfl,⟨t,rfl⟩,⟨m,rfl⟩⟩:=Mc r;refine min_two_ints (I.ok.hd b) λh' g k=>⟨_,H,I.kept k,?_,q⟩
 by_cases a:j<i
 .rw[Xd a,Xd a];exact⟨_,rfl⟩
 .rw[Xb a,Xb a];exact⟨_,rfl⟩
def OH:ZW X (.type "int") (λxs H Q=>(∃i,xs=[.int i]/\Q (.int i) H)\/∃k,xs=[.bl k]/\Q (.int (if k then 1 else 0)) H):=by
 intro Xa7 s σ H xs b Q I r h;rcases h with ⟨i,rfl,q⟩|⟨k,rfl,q⟩
 .obtain⟨u,rfl,t,rfl⟩:=Yy r;exact call_int_int ⟨.int i,H,I,⟨_,rfl⟩,q⟩
 .obtain⟨u,rfl,a⟩:=Yy r;cases a;exact call_int_bool ⟨.int (if k then 1 else 0),H,I.tok _,⟨_,rfl⟩,q⟩
end
structure ObjM(h:Heap)(x dx C:Addr)(mA:Str->Qf):Prop where
 obj:h.get? x=some (W.instObj C dx)
 ns:h.Ns1 dx mA
 ne:dx≠x
def TR(n:h.Ns1 dx mA):∃od,h.get? dx=some od/\∀name,W.lookIn name od=some (mA name):=by
 obtain⟨o,es,r,g,m,j,_,i⟩:=n;refine⟨o,g,λname=>?_⟩;have e:=i name;unfold nsFind findBy at e;rw[<- Array.find?_toList]at e;unfold W.lookIn;rw[m];dsimp only;split
 .rename_i y q;rw[q]at e;exact X9 some e
 .rename_i q;rw[q]at e;have a:es.toList.any (·.refKey)=false:=by
   rw[List.any_eq_false];intro y f;obtain⟨z,t,b⟩:=j y (Array.mem_toList_iff.mp f);simp[DictEntry.refKey,b]
  have p:¬es.toList.any (·.refKey)=true:=by rw[a];exact XG
  rw[Xb p];exact X9 some e
def ObjM.look(I:ObjM h x dx C mA):∃od,W.InstAt h x (W.instObj C dx) C (some od)/\∀name,W.lookIn name od=some (mA name):=
 let ⟨od,ho,hl⟩:=TR I.ns
 ⟨od,⟨I.obj,rfl,rfl,ho⟩,hl⟩
section
variable {x f:Addr}{mA:Str->Qf}{name:Str}{v:Value}
def CK(X:K.In s.heap)(I:ObjM s.heap x dx C mA)(i:W.plainGet K C name=true)(g:W.hasDictIn K C=true)
(j:W.findIn K (.ref C) name=some none)(b:mA name=some v)(a:W.handedIn v=true)(h:Q v { s with toks:=s.toks+1 }):
 wpAny (model prog w) A (getAttr (.ref x) name expr) Q E s:=by
 obtain⟨m,J,f⟩:=I.look;exact W.get_value X J (W.plainGet_of i).1 (W.findObj_own g j rfl (by rw[f,b])) a h
def Oj(X:K.In s.heap)(I:ObjM s.heap x dx C mA)(a:W.plainGet K C name=true)
(m:W.findIn K (.ref C) name=some (some<|.ref f))(i:W.isFn K (.ref f)=true)(g:mA name=none)(h:Q (.ref f,[.ref x]) s):
 wpAny (model prog w) A (getMethod (.ref x) name pl) Q E s:=by
 obtain⟨b,J,j⟩:=I.look;exact W.method_fn X J (W.plainGet_of a).1 (W.plainGet_of a).2 m (beq_iff_eq.mp i) (by show(W.lookIn name b).map (·.isSome)=some false;rw[j,g];rfl) h
def Ap(X:K.In s.heap)(I:ObjM s.heap x dx C mA)
(M:W.findIn K (.ref C) "__setattr__"=some (some<|.builtin "object.__setattr__"))(P:W.plainOver K C=true)(B:W.takerIn K C name=some none)(R:W.hasDictIn K C=true)
(hw:PySem.Within mA ns)(hsz:ns.length<=sizeLine)
(h:∀h',ObjM h' x dx C (λy=>if y=name then some v else mA y)->Heap.SameBut dx s.heap h'->Q () { s with heap:=h',toks:=s.toks+2 }):
 wpAny (model prog w) A (setAttr (.ref x) name v) Q E s:=by
 obtain⟨e,J,l⟩:=I.look;refine W.set_plain X J M (W.osa_open (s:={ s with toks:=s.toks+1 }) (r:=none) X J P B λb=>?_);obtain⟨cd,Y,m⟩:=W.any_some R;have p:s.heap.get? x=some ⟨.ref C,some dx,.plain,#[]⟩:=I.obj;refine Xa (Xj<|Xa<|Xa<|wpAny_loadPart p<|Xa<|W.Looks.here (s:={ s with toks:=s.toks+1 }) (W.looks_clsIn X Y) ?_);rw[m];refine Xj (a:=some dx) (Xa<|Xj<|Xa ?_);refine wpAny_nsSet1 (s:={ s with toks:=s.toks+1 }) I.ns λh' g f=>?_;obtain⟨k,c,d,i,j,n⟩:=g.count (PySem.Within.cons name v hw);refine Xa (wpAny_lookBehind i (by rw[j];exact pastItsLine_dict<|X0 n<|by rw[XN];lia) ?_);exact Xj (h _ ⟨(f.2 _<|Ne.symm I.ne).trans I.obj,g,I.ne⟩ f)
def ES{R:Result->Shared->Prop}(X:K.In s.heap)(b:W.makesIn K C=true)
(i:W.findIn K (.ref C) "__init__"=some (some<|.ref f))(j:W.typeIn K (.ref f)=some (.type "function"))
(h:codeAny (model prog w) (A.under<|.builtin "type.__call__" ⟨.ref C::vs,kw⟩) (.call (.ref f) ⟨.ref (s.heap.objs.size+1)::vs,kw⟩) (W.InitBack (s.heap.objs.size+1) R)
  { s with heap:=(s.heap.push W.emptyDict).push (W.instObj C s.heap.objs.size) }):
 codeAny (model prog w) A (.call (.ref C) ⟨vs,kw⟩) R s:=by
 obtain⟨n,g,d,t,m⟩:=s;exact W.make_core (W.makes_of X b) (W.looks_findIn X i) (λa=>W.bind_fn X a j) (.inl rfl) h
end
noncomputable def V8(f:Str)(v:V):List (Str×V)->List (Str×V)
 |[]=>[(f,v)]
 |(g,x)::r=>if g=f then (g,v)::r else (g,x)::V8 f v r
theorem Lg(f g:Str)(v:V):∀i:List (Str×V),(V8 f v i).lookup g=if g=f then some v else i.lookup g
 |[]=>by
  show List.lookup g [(f,v)]=_
  by_cases h:g=f
  .have a:(g==f)=true:=beq_iff_eq.mpr h;simp only[List.lookup,a,Xd h]
  .have a:(g==f)=false:=beq_eq_false_iff_ne.mpr h;simp only[List.lookup,a,Xb h]
 |(k,x)::r=>by
  have j:=Lg f g v r;rw[show V8 f v ((k,x)::r)=(if k=f then (k,v)::r else (k,x)::V8 f v r) from rfl];by_cases b:k=f
  .rw[Xd b]
   by_cases h:g=k
   .have a:(g==k)=true:=beq_iff_eq.mpr h;simp only[List.lookup,a,Xd<|h.trans b]
   .have a:(g==k)=false:=beq_eq_false_iff_ne.mpr h;simp only[List.lookup,a,Xb λe:g=f=>h<|e.trans b.symm]
  .rw[Xb b]
   by_cases h:g=k
   .have a:(g==k)=true:=beq_iff_eq.mpr h;simp only[List.lookup,a,Xb λe:g=f=>b<|h.symm.trans e]
   .have a:(g==k)=false:=beq_eq_false_iff_ne.mpr h;simp only[List.lookup,a];exact j
theorem KH(f:Str)(v:V):∀b:List (Str×V),f∈(V8 f v b).map (·.1)/\∀g,g∈b.map (·.1)->g∈(V8 f v b).map (·.1)
 |[]=>⟨by simp[V8],λg h=>by simp at h⟩
 |(k,x)::r=>by
  obtain⟨j,i⟩:=KH f v r;rw[show V8 f v ((k,x)::r)=(if k=f then (k,v)::r else (k,x)::V8 f v r) from rfl];by_cases a:k=f
  .rw[Xd a];subst a;exact⟨by simp,λg h=>by simpa using h⟩
  .rw[Xb a];refine⟨?_,λg h=>?_⟩
   .rw[Xw];exact Xi _ j
   .rw[Xw]at h ⊢;rcases Xe.mp h with e|e
    .exact Xe.mpr (.inl e)
    .exact Xi _ (i g e)
theorem Lo(f:Str)(v:V):∀b:List (Str×V),(V8 f v b).length<=b.length+1
 |[]=>by simp[V8]
 |(k,x)::r=>by
  have g:=Lo f v r;rw[show V8 f v ((k,x)::r)=(if k=f then (k,v)::r else (k,x)::V8 f v r) from rfl];by_cases a:k=f
  .rw[Xd a,XN,XN];lia
  .rw[Xb a,XN,XN];lia
def ZT.some_of(r:ZT (some v) o):∃u,o=some u/\QN v u:=by
 cases o with
 |none=>exact(show False from r).elim
 |some u=>exact⟨u,rfl,r⟩
def ZT.none_of(r:ZT none o):o=none:=by
 cases o with
 |none=>rfl
 |some u=>exact(show False from r).elim
def Tm(r:QN v u):W.handedIn u=true:=by
 cases v with
 |non=>cases (show u=Value.none from r);rfl
 |bl b=>cases (show u=Value.bool b from r);rfl
 |int i=>obtain⟨t,e⟩:=(show ∃t,u=Value.int i t from r);cases e;rfl
 |str x=>obtain⟨t,e⟩:=(show ∃t,u=Value.str x t from r);cases e;rfl
 |byt b=>obtain⟨t,e⟩:=(show ∃t,u=Value.bytes b t from r);cases e;rfl
 |flt b=>obtain⟨t,e⟩:=(show ∃t,u=Value.float b t from r);cases e;rfl
 |ref a=>cases (show u=Value.ref a from r);rfl
 |ty n=>cases (show u=Value.type n from r);rfl
section
variable {H:Hp}{fs:List (Str×V)}
def HV(g:HOk P w H h)(e:H a=some (.ins C dx fs)):∃b,ObjM h a dx C b/\(∀f,ZT (fs.lookup f)<|b f)/\PySem.Within b (fs.map (·.1))/\fs.length<=1000/\H dx=some (.own a):=by
 obtain⟨d,z,j,i,b,n,r,q⟩:=(show Z6 P w H h a (.ins C dx fs) from g a _ e)
 exact⟨b,⟨i,n,j⟩,r,q,z,d⟩
end
structure Cls(K:W.Frag)(C:Addr):Prop where
 pg:W.plainGet K C Str.empty=true
 hd:W.hasDictIn K C=true
 po:W.plainOver K C=true
 sa:W.findIn K (.ref C) "__setattr__"=some (some<|.builtin "object.__setattr__")
def Cls.get(c:Cls K C)(f:Str):W.plainGet K C f=true:=c.pg
def VF(K:W.Frag)(C:Addr)(f:Str):Prop:=W.findIn K (.ref C) f=some none
def VF.taker(n:VF K C f):W.takerIn K C f=some none:=by
 unfold W.takerIn;rw[show W.findIn K (.ref C) f=some none from n];rfl
structure Meth(K:W.Frag)(C:Addr)(m:Str)(f:Addr):Prop where
 at_:W.findIn K (.ref C) m=some (some<|.ref f)
 fn:W.isFn K (.ref f)=true
 kp:W.keepIn K (.ref f)=true
section
variable {H:Hp}{fs:List (Str×V)}
def TX{b:Bool}(I:Qt X Xa7 σ H s)(e:H a=some (.ins C dx fs))(c:Cls X.K C)(n:VF X.K C f)(l:fs.lookup f=some v)
(h:∀u g,Qt X Xa7 σ H g->QN v u->Q u g):wpAny (model X.prog X.w) A (getAttr (.ref a) f b) Q E s:=by
 obtain⟨j,O,r,_,_,_⟩:=HV I.hok e;obtain⟨u,m,i⟩:=ZT.some_of (v:=v) (o:=j f) (by rw[<- l];exact r f);exact CK I.kIn O (c.get f) c.hd n m (Tm i) (h u _ (I.tok _) i)
def Ld{g:Addr}(I:Qt X Xa7 σ H s)(e:H a=some (.ins C dx fs))(c:Cls X.K C)(k:Meth X.K C m g)(l:fs.lookup m=none)
(h:Q (.ref g,[.ref a]) s):wpAny (model X.prog X.w) A (getMethod (.ref a) m pl) Q E s:=by
 obtain⟨b,O,r,_,_,_⟩:=HV I.hok e;have f:b m=none:=ZT.none_of (by rw[<- l];exact r m);exact Oj I.kIn O (c.get m) k.at_ k.fn f h
def Lz(I:Qt X Xa7 σ H s)(e:H a=some (.ins C dx fs))(c:Cls X.K C)(n:VF X.K C f)(W:fs.length<1000)(B:QN y u)
(h:∀m,Qt X Xa7 σ (upd H a<|.ins C dx<|V8 f y fs) m->Q () m):wpAny (model X.prog X.w) A (setAttr (.ref a) f u) Q E s:=by
 obtain⟨p,O,r,j,_,v⟩:=HV I.hok e;have K:(fs.map (·.1)).length<=sizeLine:=by rw[Xl,sizeLine_eq];lia
 refine Ap I.kIn O c.sa c.po n.taker c.hd j K λh' i w=>h _ ?_;have P:∃o,h'.get? dx=some o:=let ⟨o,_,_,e',_⟩:=i.ns;⟨o,e'⟩;refine I.write (x:=a) (e:=dx) (by rw[e];exact True.intro) (.inr v) (λb q R z=>(w.2 b R).trans z) P ?_;refine⟨by rw[Qu O.ne];exact v,?_,O.ne,i.obj,_,i.ns,λg=>?_,λg M=>?_⟩
 .have:=Lo f y fs;lia
 .show ZT ((V8 f y fs).lookup g) (if g=f then some u else p g)
  rw[Lg];by_cases q:g=f
  .rw[Xd q,Xd q];exact B
  .rw[Xb q,Xb q];exact r g
 .by_cases q:g=f
  .rw[q];exact(KH f y fs).1
  .refine(KH f y fs).2 g (j g λz=>M ?_);show(if g=f then some u else p g)=none
   rw[Xb q];exact z
def Qt.made(I:Qt X Xa7 σ H s):Qt X Xa7 σ (upd (upd H s.heap.objs.size<|.own<|s.heap.objs.size+1) (s.heap.objs.size+1)<|.ins C s.heap.objs.size [])
 { s with heap:=(s.heap.push W.emptyDict).push (W.instObj C s.heap.objs.size) }:=by
 have g:(s.heap.push W.emptyDict).get? s.heap.objs.size=some W.emptyDict:=XB s.heap rfl;have m:((s.heap.push W.emptyDict).push (W.instObj C s.heap.objs.size)).get? (s.heap.objs.size+1)=some (W.instObj C s.heap.objs.size):=by
  have:=XB (s.heap.push W.emptyDict) (o:=W.instObj C s.heap.objs.size) rfl;rwa [WI]at this
 have j:(s.heap.push W.emptyDict).Ns s.heap.objs.size (λ_=>none):=⟨W.emptyDict,#[],_,g,rfl,(λe i=>Xz i<|by simp),λ_=>rfl⟩;have n:=I.laid (a:=s.heap.objs.size) (o:=.own (s.heap.objs.size+1)) (h':=s.heap.push W.emptyDict) (t':=s.toks) (λb u q=>Xg _ q) (Xq _) ⟨_,g⟩;refine n.laid (a:=s.heap.objs.size+1) (o:=.ins C s.heap.objs.size []) (t':=s.toks) (λb u q=>Xg _ q) (Nat.le_of_eq<|WI _ _) ?_;have f:s.heap.objs.size≠s.heap.objs.size+1:=Xr (Jj _);refine⟨by rw[Qu f,QG],XQ _,f,m,λ_=>none,(Heap.Ns1.of_empty j).at λo q=>Xg _ q,λ_=>True.intro,λy h=>Xz rfl h⟩
def SJ(a:attributeBase e f env (eval e env)=eval e env)
(h:wpAny (model prog w) A (eval e env) (λo b=>wpAny (model prog w) A (getAttr o f true) Q E b) E s):wpAny (model prog w) A (eval (.Attribute e f pos) env) Q E s:=
 Attribute_any_ h (by rw[arm_eval_Attribute,a])
end
def Vf(K:W.Frag)(ta:TE)(f:Str):TE:=λσ H Q=>ta σ H λx g=>∃a C dx b v,x=.ref a/\g a=some (.ins C dx b)/\Cls K C/\VF K C f/\b.lookup f=some v/\Q v g
def NV(K:W.Frag)(ta tv:TE)(f:Str):TS:=λD σ H=>tv σ H λy h=>ta σ h λx g=>∃a C dx b,x=.ref a/\g a=some (.ins C dx b)/\Cls K C/\VF K C f/\b.length<1000/\
 D.nx σ (upd g a<|.ins C dx<|V8 f y b)
def Rr(X:Cx)(op:Operator)(a:V->V->Hp->VK->Prop):Prop:=
 ∀(Xa7:Qc) (s:Shared) (σ:St) (H:Hp) (x y:V) (u v:Value) (Q:VK),Qt X Xa7 σ H s->QN x u->QN y v->a x y H Q->wpAny (model X.prog X.w) X.A (inplaceOp op u v) (EP X Xa7 σ Q) X.xe s
def SU(K:W.Frag)(ta tv:TE)(m:V->V->Hp->VK->Prop)(f:Str):TS:=λD σ H=>ta σ H λx j=>∃a C dx h v,x=.ref a/\j a=some (.ins C dx h)/\Cls K C/\VF K C f/\h.lookup f=some v/\
 tv σ j λy n=>m v y n λz i=>∃g b,i a=some (.ins C g b)/\b.length<1000/\D.nx σ (upd i a<|.ins C g<|V8 f z b)
section
variable {o e value:Expr}{tpos:Pos}
def Zg(he:PE X e ta)(i:attributeBase e f X.env (eval e X.env)=eval e X.env):PE X (.Attribute e f pos) (Vf X.K ta f):=by
 intro Xa7 s σ H Q I h;refine SJ i (QB (he Xa7 s σ H _ I h) ?_);rintro u A ⟨x,r,p,b,a,C,dx,B,v,j,m,c,n,l,q⟩;subst j;obtain rfl:u=Value.ref a:=b;exact TX p m c n l λw y o g=>⟨v,r,o,g,q⟩
def YE(r:PE X o ta)(m:PE X value tv)(p:swapsWith value (some<|.Attribute o f pos') pos.line X.env=pure false):PS X (.Assign [.Attribute o f pos'] value pos) (NV X.K ta tv f):=by
 intro Xa7 s σ H D I h;refine plainObj_wpAny_Assign_Attribute (QB (m Xa7 s σ H _ I h) ?_) p;rintro u b ⟨y,K,E,e,q⟩;refine QB (r Xa7 b σ K _ E q) ?_;rintro j P ⟨x,W,B,g,a,C,dx,R,v,w,c,n,l,i⟩;subst v;obtain rfl:j=Value.ref a:=g;exact Lz B w c n l e λM A=>⟨σ,_,A,i⟩
def To(P:PE X o ta)(M:PE X value tv)(b:Rr X op rd):PS X (.AugAssign (.Attribute o f tpos) op value pos) (SU X.K ta tv rd f):=by
 intro Xa7 s σ H D I h;refine wpAny_AugAssign_AttributeAny (QB (P Xa7 s σ H _ I h) ?_);rintro E T ⟨x,N,J,r,a,C,dx,U,v,W,Y,c,n,l,q⟩;subst W;obtain rfl:E=Value.ref a:=r;refine TX J Y c n l λu j G w=>QB (M Xa7 j σ N _ G q) ?_;rintro g i ⟨y,L,F,p,B⟩;refine QB (b Xa7 i σ L v y u g _ F w p B) ?_;rintro O S ⟨z,Z,t,m,d,R,e,K,A⟩;exact Lz t e c n K m λQ k=>⟨σ,_,k,A⟩
def Re:V->V->Hp->VK->Prop:=λx y H Q=>∃i j,x=.int i/\y=.int j/\Q (.int<|i+j) H
def Sm:Rr X .Add Re:=by
 rintro Xa7 s σ H x y u v Q I e b ⟨i,j,rfl,rfl,q⟩;obtain⟨t,rfl⟩:=(show ∃t,u=Value.int i t from e);obtain⟨a,rfl⟩:=(show ∃a,v=Value.int j a from b);exact PyProof.Rows.iadd_int ⟨.int<|i+j,H,I.tok _,⟨_,rfl⟩,q⟩
end
structure Room(k:Nat)(A:Around):Prop where
 hd:A.handled=none
 dp:A.depth+3*k+5<recursionLimit
 un:A.units+16*k+200<cLine
def Room.mono(r:Room k A)(h:j<=k):Room j A:=⟨r.hd,by have:=r.dp;lia,by have:=r.un;lia⟩
def Room.deeper(r:Room (k+1) A)(env:Env):Room k (A.deeper env):=
 ⟨r.hd,by have:=r.dp;show A.depth+1+3*k+5<_;lia,by have:=r.un;show A.units+3+16*k+200<_;lia⟩
def ZmL   : (A.under<|.builtin "type.__call__" ⟨.ref C::us,kw⟩).depth=A.depth+1:=by
 first|rfl|simp[Around.under,Code.weight,Code.isCreation,Code.isGuard,Code.isCaller,Code.frames,Code.isFrame,guardIds]
def ZmD   : (A.under<|.builtin "type.__call__" ⟨.ref C::us,kw⟩).units=A.units+1:=by
 first|rfl|simp[Around.under,Code.cUnits,Code.frames,Code.isFrame]
def Room.make  (r:Room (k+1) A)(C:Addr)(us:Qe)(a:List (Str×Value)):Room k (A.under<|.builtin "type.__call__" ⟨.ref C::us,a⟩):=
 ⟨r.hd,by have:=r.dp;rw[ZmL];lia,by have:=r.un;rw[ZmD];lia⟩
def Room.depth(r:Room k A):A.depth<recursionLimit:=by have:=r.dp;lia
def Room.units(r:Room k A):A.units+64<cLine:=by have:=r.un;lia
def QM:TA:=λ_ H Q=>Q [] H
def QF(ta:TE)(a:TA):TA:=λσ H Q=>ta σ H λx f=>a σ f λxs b=>Q (x::xs) b
section
variable {e:Expr}{t:TA}
def Qr:PA X [] QM:=λ_ _ _ _ H Q I h=>Calls.spliced_nil ⟨[],H,I,.nil,h⟩
abbrev zs(X:Cx)(e:Expr)(es:List Expr):Prop:=starEach (e::es) X.env=(false,eval e X.env)::starEach es X.env
abbrev zb(X:Cx)(pos:Pos)(es:List Expr):Prop:=(backTo pos<|starEach es X.env).any (·.1)=false
def Qo(n:PE X e te)(m:PA X es t)(j:zs X e es:=by rfl):PA X (e::es) (QF te t):=by
 intro pos Xa7 s σ H Q I h;rw[j];show wpAny _ _ (spliced ((false,eval e X.env)::backTo pos (starEach es X.env))) _ _ s;refine Calls.spliced_cons (QB (n Xa7 s σ H _ I h) ?_);rintro u a ⟨x,w,r,f,i⟩;refine QB (m pos Xa7 a σ w _ r i) ?_;rintro y A ⟨xs,v,p,b,g⟩;exact⟨x::xs,v,p,.cons f b,g⟩
def UR(t:TA):TE:=λσ H Q=>t σ H λxs a=>xs.length<=sizeLine/\∀p,a p=none->Q (.ref p) (upd a p<|.tup xs)
def Uc(t:TA):TE:=λσ H Q=>t σ H λxs a=>xs.length<=sizeLine/\∀p,a p=none->Q (.ref p) (upd a p<|.lst xs)
def VX{x1}(h:PA X es t):PE X (.Tuple es x1 pos) (UR t):=by
 intro Xa7 s σ H Q I j;refine wpAny_Tuple_spliced (QB (h pos Xa7 s σ H _ I j) ?_);rintro i a ⟨xs,g,f,r,z,q⟩;refine⟨by rw[<- r.length];exact z,?_⟩;have m:g a.heap.objs.size=none:=f.hok.fresh (Xq _);refine⟨.ref a.heap.objs.size,upd g a.heap.objs.size<|.tup xs,f.laid (t':=a.toks) (λb u e=>Xg _ e) (Xq _) ?_,rfl,q _ m⟩;exact⟨z,i,r,⟨_,XB _ rfl,rfl,_,rfl⟩⟩
def ZE(h:PA X es t):PE X (.List es pos) (Uc t):=by
 intro Xa7 s σ H Q I j;refine wpAny_List_spliced (QB (h pos Xa7 s σ H _ I j) ?_);rintro i a ⟨xs,g,f,r,z,q⟩;refine⟨by rw[<- r.length];exact z,?_⟩;have m:g a.heap.objs.size=none:=f.hok.fresh (Xq _);refine⟨.ref a.heap.objs.size,upd g a.heap.objs.size<|.lst xs,f.laid (t':=a.toks) (λb u e=>Xg _ e) (Xq _) ?_,rfl,q _ m⟩;exact⟨z,i,0,r,XB _ rfl⟩
end
abbrev Sp:=List V->Hp->VK->XK->Prop
abbrev CXT:=List Env->Hp->Shared->XK->Qb
structure Env0(P:Program)(w:World)(K:W.Frag)(mg:Str->Qf)(base:Heap)(A:Around)(outer:List Env)(s:Shared)(H:Hp):Prop where
 frames:A.frames=some outer
 mod:Mod K mg base
 bs:∀b o,base.get? b=some o->s.heap.get? b=some o/\(H b=none\/∃xs,H b=some (.tup xs))
 bsz:base.objs.size<=s.heap.objs.size
 funs:s.heap.FunFrames base outer
 frf:∀b∈frs outer,H b=none
 hok:HOk P w H s.heap
 bare:AllBare s.gens
def CE(outer:List Env)(P:Program)(w:World)(H:Hp)(s:Shared)(Q:VK)(u:Value)(a:Shared):Prop:=
 ∃v b,a.os=s.os/\AllBare a.gens/\Un (frs outer) [] H b s.heap a.heap/\HOk P w b a.heap/\QN v u/\Q v b
def CR(b:CXT)(outer:List Env)(P:Program)(w:World)(H:Hp)(s:Shared)(Q:VK)(E:XK)(r:Result)(a:Shared):Prop:=
 match r with
 |.ok (.ret u)=>CE outer P w H s Q u a
 |.ok _=>False
 |.error e=>b outer H s E e a
structure FnOk(P:Program)(w:World)(K:W.Frag)(mg:Str->Qf)(base:Heap)(CX:CXT)(k:Nat)(f:Addr)(fd:FuncData)(ps:Qh)(sp:Sp):Prop where
 len:∀vs H Q E,sp vs H Q E->vs.length=ps.length
 run:∀(A:Around) (outer:List Env) (s:Shared) (H:Hp) (args:Args) (us:Qe) (vs:List V) (Q:VK) (E:XK),Room k A->Env0 P w K mg base A outer s H->BindsTo s fd args (ps.zip us)->QQ vs us->sp vs H Q E->
  codeAny (model P w) A (.call (.ref f) args) (CR CX outer P w H s Q E) s
def Env0.make(e:Env0 P w K mg base A outer s H)(C:Addr)(us:Qe)(a:List (Str×Value)):
 Env0 P w K mg base (A.under<|.builtin "type.__call__" ⟨.ref C::us,a⟩) outer s H:=⟨by first|exact e.frames|(simpa [Around.under,Code.envs,Code.isFrame,pushEnvs] using e.frames),e.mod,e.bs,e.bsz,e.funs,e.frf,e.hok,e.bare⟩
section
variable {H:Hp}{s':Shared}
def Qt.env0(I:Qt X Xa7 σ H s):Env0 X.prog X.w X.K X.mg X.base X.A X.stack s H:=
 ⟨I.ok.frames,I.ok.mod,I.bs,X0 I.ok.bsz I.sz,I.stack,I.stkFree,I.hok,I.bare⟩
def Qt.after(I:Qt X Xa7 σ H s)(h:CE X.stack X.prog X.w H s Q u s'):EP X Xa7 σ Q u s':=by
 obtain⟨v,p,m,a,j,i,r,q⟩:=h;obtain⟨n,g,d,t,f⟩:=s';obtain rfl:f=s.os:=m;exact⟨v,p,I.call (h':=n) (g':=g) (d':=d) (t':=t) (ch:=[]) j i a (λb z=>Xz z<|by simp),r,q⟩
end
def Vg(f:Sp)(a:List V)(E:XK)(t:TA):TE:=λσ H Q=>t σ H λb g=>f (b++a) g Q E
def ZR(C:Addr)(m:Str)(i:Sp)(b:List V)(E:XK)(ta:TE)(t:TA):TE:=λσ H Q=>ta σ H λx g=>∃a dx f,x=.ref a/\g a=some (.ins C dx f)/\f.lookup m=none/\
 t σ g λh j=>i (x::(h++b)) j Q E
def Ge(C:Addr)(g:Sp)(a:List V)(E:XK)(t:TA):TE:=λσ H Q=>t σ H λf b=>∀x dx,b x=none->b dx=none->dx≠x->
 g (.ref x::(f++a)) (upd (upd b dx<|.own x) x<|.ins C dx []) (λv h=>v=.non/\Q (.ref x) h) E
def Vw(K:W.Frag)(fd:FuncData)(ps:Qh)(ds:Qe):Prop:=
 ∀(s:Shared) (a:Qe),K.In s.heap->(a++ds).length=ps.length->BindsTo s fd ⟨a,[]⟩ (ps.zip<|a++ds)
def Vw.all(h:∀us:Qe,us.length=ps.length->bindArgs fd ⟨us,[]⟩=pure (ps.zip us)):Vw K fd ps []:=λs us _ a=>by
 rw[Xx]at a ⊢;exact .of_eq (h us a)
def Yj(b:CXT)(X:Cx)(E:XK):Prop := ∀(Xa7:Qc) (σ:St) (H:Hp) (s:Shared) (e:Value) (a:Shared),Qt X Xa7 σ H s->b X.stack H s E e a->X.xe e a
section
variable {CX:CXT}{k:Nat}{f:Addr}{sp:Sp}{dvs:List V}{ds:Qe}{E:XK}{x:Str}{e o:Expr}{t:TA}
def DY(F:FnOk X.prog X.w X.K X.mg X.base CX k f fd ps sp)(j:Room k X.A)(o:Vw X.K fd ps ds)(n:QQ dvs ds)(i:Yj CX X E)
(I:Qt X Xa7 σ H s)(r:QQ vs us)(h:sp (vs++dvs) H Q E):wpAny (model X.prog X.w) X.A (call (.ref f) us) (EP X Xa7 σ Q) X.xe s:=by
 have b:QQ (vs++dvs) (us++ds):=r.append n;have m:(us++ds).length=ps.length:=by rw[<- b.length];exact F.len _ _ _ _ h
 refine wpAny_call (codeAny_mono (F.run X.A X.stack s H ⟨us,[]⟩ (us++ds) (vs++dvs) Q E j I.env0 (o s us I.kIn m) b h) λr g a=>?_);cases r with
 |error e=>exact i Xa7 σ H s e g I a
 |ok p=>
  cases p with
  |ret u=>exact I.after a
  |next=>exact False.elim a
  |brk=>exact False.elim a
  |cont=>exact False.elim a
def SN(F:FnOk X.prog X.w X.K X.mg X.base CX k f fd ps sp)(i:Room k X.A)(n:Gl X x)(j:X.mg x=some (.ref f))(m:W.keepIn X.K (.ref f)=true)(v:Vw X.K fd ps ds)(o:QQ dvs ds)(g:Yj CX X E)
(w:PA X (e::es) t)(a:(x==("__debug__" : Str))=false:=by decide)(he:zs X e es:=by rfl)(hpl:zb X pos es:=by rfl):
 PE X (.Call (.Name x p) (e::es) [] pos) (Vg sp dvs E t):=by
 intro Xa7 s σ H Q I h;refine wpAny_Call_Name_kw (J0 I n j ?_ a);refine W.callWith_K (h₀:=X.base) I.ok.mod.kin m (QB (w pos Xa7 s σ H _ I h) ?_) he hpl;rintro A B ⟨y,C,b,r,q⟩;refine⟨b.kIn,?_⟩;exact DY F i v o g b r q
def HL{pl:Sem Bool}(he:PE X o ta)(c:Cls X.K C)(i:Meth X.K C m f)(F:FnOk X.prog X.w X.K X.mg X.base CX k f fd ps sp)(B:Room k X.A)(M:Vw X.K fd ps ds)(K:QQ dvs ds)(y:Yj CX X E)(P:PA X (e::es) t)
(b:zs X e es:=by rfl)(hpl:zb X pos es:=by rfl)
(A:eval (.Call (.Attribute o m SF) (e::es) [] pos) X.env=(do
  let g <- eval o X.env
  standAt SF.atName
  let (f,first) <- holding [g] (getMethod g m pl)
  callWith pos f first (backTo pos<|starEach (e::es) X.env)<|backToKw pos<|keywordEach [] X.env):=by rfl):
 PE X (.Call (.Attribute o m SF) (e::es) [] pos) (ZR C m sp dvs E ta t):=by
 intro Xa7 s σ H Q I h;refine W.methodCall_KW (pl:=pl) (QB (he Xa7 s σ H _ I h) ?_) A;rintro u p ⟨x,d,n,v,a,dx,D,R,Y,l,q⟩;subst R;obtain rfl:u=Value.ref a:=v;refine Ld n Y c i l ?_;refine W.callWith_K (first:=[.ref a]) (h₀:=X.base) I.ok.mod.kin i.kp (QB (P pos Xa7 p σ d _ n q) ?_) b hpl;rintro us z ⟨vs,G,j,r,w⟩;refine⟨j.kIn,?_⟩;exact DY (us:=.ref a::us) (vs:=.ref a::vs) F B M K y j (.cons rfl r) w
def P9{pl:Sem Bool}(he:PE X o ta)(c:Cls X.K C)(g:Meth X.K C m f)(F:FnOk X.prog X.w X.K X.mg X.base CX k f fd ps sp)(p:Room k X.A)(t:Vw X.K fd ps ds)(r:QQ dvs ds)(j:Yj CX X E)
(n:eval (.Call (.Attribute o m SF) [] [] pos) X.env=(do
  let e <- eval o X.env
  standAt SF.atName
  let (f,first) <- holding [e] (getMethod e m pl)
  callWith pos f first (backTo pos<|starEach [] X.env)<|backToKw pos<|keywordEach [] X.env):=by rfl):
 PE X (.Call (.Attribute o m SF) [] [] pos) (ZR C m sp dvs E ta QM):=by
 intro Xa7 s σ H Q I h;refine W.methodCall_KW (pl:=pl) (QB (he Xa7 s σ H _ I h) ?_) n;rintro u y ⟨x,B,b,i,a,dx,A,v,w,l,q⟩;subst v;obtain rfl:u=Value.ref a:=i;refine Ld b w c g l ?_;exact W.callWith_K0 (first:=[.ref a]) b.kIn g.kp (DY (us:=[.ref a]) (vs:=[.ref a]) F p t r j b (.cons rfl .nil) q)
structure Mk(K:W.Frag)(C f:Addr):Prop where
 makes:W.makesIn K C=true
 init:W.findIn K (.ref C) "__init__"=some (some<|.ref f)
 fn:W.isFn K (.ref f)=true
 kp:W.keepIn K (.ref C)=true
def P5(M:Mk X.K C f)(F:FnOk X.prog X.w X.K X.mg X.base CX k f fd ps sp)(p:Room (k+1) X.A)(y:Vw X.K fd ps ds)(w:QQ dvs ds)
(o:Yj CX X E)(I:Qt X Xa7 σ H s)(r:QQ vs us)
(h:∀x dx,H x=none->H dx=none->dx≠x->sp (.ref x::(vs++dvs)) (upd (upd H dx<|.own x) x<|.ins C dx []) (λv P=>v=.non/\Q (.ref x) P) E):
 wpAny (model X.prog X.w) X.A (call (.ref C) us) (EP X Xa7 σ Q) X.xe s:=by
 have i:=h (s.heap.objs.size+1) s.heap.objs.size (I.hok.fresh<|UJ _) (I.hok.fresh<|Xq _) (Xr<|Jj _);have b:=Qt.made (C:=C) I;have g:QQ (V.ref (s.heap.objs.size+1)::(vs++dvs)) (Value.ref (s.heap.objs.size+1)::(us++ds)):=.cons rfl (r.append w);have t:(Value.ref (s.heap.objs.size+1)::us++ds).length=ps.length:=by
  have e:=g.length;rw[F.len _ _ _ _ i]at e;exact e.symm
 refine wpAny_call (ES (f:=f) I.kIn M.makes M.init (beq_iff_eq.mp M.fn) (codeAny_mono (F.run _ X.stack _ _ ⟨Value.ref (s.heap.objs.size+1)::us,[]⟩ (Value.ref (s.heap.objs.size+1)::(us++ds)) _ _ E (p.make C us [])
  (b.env0.make C us []) (y _ (Value.ref (s.heap.objs.size+1)::us) b.kIn t) g i) λr j a=>?_))
 cases r with
 |error e=>exact o Xa7 σ _ _ e j b a
 |ok A=>
  cases A with
  |ret u=>
   obtain⟨v,R,K,m,B,n⟩:=b.after a;subst B;exact⟨m,⟨V.ref<|s.heap.objs.size+1,R,K,rfl,n⟩⟩
  |next=>exact False.elim a
  |brk=>exact False.elim a
  |cont=>exact False.elim a
def Eb(M:Mk X.K C f)(F:FnOk X.prog X.w X.K X.mg X.base CX k f fd ps sp)(i:Room (k+1) X.A)(m:Gl X x)(j:X.mg x=some (.ref C))(o:Vw X.K fd ps ds)(n:QQ dvs ds)(g:Yj CX X E)
(v:PA X (e::es) t)(a:(x==("__debug__" : Str))=false:=by decide)(he:zs X e es:=by rfl)(hpl:zb X pos es:=by rfl):
 PE X (.Call (.Name x p) (e::es) [] pos) (Ge C sp dvs E t):=by
 intro Xa7 s σ H Q I h;refine wpAny_Call_Name_kw (J0 I m j ?_ a);refine W.callWith_K (h₀:=X.base) I.ok.mod.kin M.kp (QB (v pos Xa7 s σ H _ I h) ?_) he hpl;rintro y A ⟨w,B,b,r,q⟩;refine⟨b.kIn,?_⟩;exact P5 M F i o n g b r q
def Oh(M:Mk X.K C f)(F:FnOk X.prog X.w X.K X.mg X.base CX k f fd ps sp)(e:Room (k+1) X.A)(i:Gl X x)(g:X.mg x=some (.ref C))(m:Vw X.K fd ps ds)(j:QQ dvs ds)(b:Yj CX X E)
(a:(x==("__debug__" : Str))=false:=by decide):PE X (.Call (.Name x p) [] [] pos) (Ge C sp dvs E QM):=by
 intro Xa7 s σ H Q I h;refine wpAny_Call_Name_kw (J0 I i g ?_ a);exact W.callWith_K0 I.kIn M.kp (P5 (us:=[]) M F e m j b I .nil h)
end
structure Qp(N P:Qh)(sc:Scope):Prop where
 kind:sc.kind=.function
 co:sc.isCoroutine=false
 gen:sc.isGenerator=false
 nd:N.Nodup
 pre:N.take P.length=P
 par:∀x∈P,sc.names.lookup x=some .local\/sc.names.lookup x=some .cell
 nofree:∀y∈sc.names,y.2≠.free
theorem TN{b:Str->Option NameKind}{x:Str}:∀{a:List (Str×Value)} {m:Str->Qf},(∀v,(x,v)∉a)->bindL b a m x=m x
 |[],_,_=>rfl
 |(n,v)::r,m,h=>by
  unfold bindL;rw[TN λw f=>h w<|Xi _ f];split
  .have:x≠n:=by rintro rfl;exact h v Xc
   simp[this]
  .rfl
theorem Ts{b:Str->Option NameKind}{x:Str}:∀{a:List (Str×Value)} {m:Str->Qf},(∀v,(x,v)∉a)->bindC b a m x=m x
 |[],_,_=>rfl
 |(n,v)::r,m,h=>by
  unfold bindC;rw[Ts λw f=>h w<|Xi _ f];split
  .rfl
  .have:x≠n:=by rintro rfl;exact h v Xc
   simp[this]
theorem T9{a:Str->Option NameKind}{x:Str}{v:Value}:∀{P:Qh} {vs:Qe} {i:Nat} {m:Str->Qf},P.Nodup->P[i]?=some x->vs[i]?=some v->a x=some .local->
 bindL a (P.zip vs) m x=some v
 |[],_,_,_,_,h,_,_=>by simp at h
 |_::_,[],_,_,_,_,h,_=>by simp at h
 |p::P,w::vs,0,m,g,f,b,j=>by
  simp at f b;subst f;subst b;show bindL a ((p,w)::P.zip vs) m p=_;unfold bindL;rw[TN λv n=>(Xv.mp g).1 (List.of_mem_zip n).1,Xd j]
  simp
 |p::P,w::vs,i+1,m,g,f,b,j=>by
  show bindL a ((p,w)::P.zip vs) m x=_;unfold bindL;exact T9 (i:=i) (Xv.mp g).2 (by simpa using f) (by simpa using b) j
theorem TL{a:Str->Option NameKind}{x:Str}{v:Value}:∀{P:Qh} {vs:Qe} {i:Nat} {m:Str->Qf},P.Nodup->P[i]?=some x->vs[i]?=some v->a x≠some .local->
 bindC a (P.zip vs) m x=some v
 |[],_,_,_,_,h,_,_=>by simp at h
 |_::_,[],_,_,_,_,h,_=>by simp at h
 |p::P,w::vs,0,m,g,f,b,j=>by
  simp at f b;subst f;subst b;show bindC a ((p,w)::P.zip vs) m p=_;unfold bindC;rw[Ts λv n=>(Xv.mp g).1 (List.of_mem_zip n).1,Xb j]
  simp
 |p::P,w::vs,i+1,m,g,f,b,j=>by
  show bindC a ((p,w)::P.zip vs) m x=_;unfold bindC;exact TL (i:=i) (Xv.mp g).2 (by simpa using f) (by simpa using b) j
noncomputable def start(N:Qh)(vs:List V):St:=vs.map some++List.replicate (N.length-vs.length) none
noncomputable def Vq(b:CXT)(P:Program)(w:World)(K:W.Frag)(mg:Str->Qf)(base:Heap)(N:Qh)(qual:Str)(scope:Scope)(f:Addr)(cd:Value)(A:Around)(outer:List Env)(s:Shared)(H:Hp)(E:XK):Cx where
 prog:=P
 w:=w
 K:=K
 mg:=mg
 base:=base
 A:=A.deeper (envOfC qual scope s.heap.objs.size f cd)
 N:=N
 s₀:=s
 H₀:=H
 env:=envOfC qual scope s.heap.objs.size f cd
 outer:=outer
 stack:=envOfC qual scope s.heap.objs.size f cd::outer
 ex:=[]
 calm:=true
 fn:=λ_=>true
 pn:=[]
 xe:=λe g=>wpAny (model P w) (A.deeper<|envOfC qual scope s.heap.objs.size f cd) (leaving (envOfC qual scope s.heap.objs.size f cd) e) (λ_ a=>b outer H s E e a) (λh a=>b outer H s E h a) g
def Ps{sc:Scope}(h:sc.names.lookup x=some .cell):∃c,(cellsFrom n sc.names []).lookup x=some c:=by
 have q:=W.cellsFrom_some sc.names n [] (.inl h);exact Option.isSome_iff_exists.mp q
def Zn5{f:Addr}{E:XK}
(S:Qp N ps scope)(l:A.handled=none)(e0:Env0 P w K mg base A outer s H)(D:vs.length=ps.length)(r:QQ vs us)
(x:InCallC s s.heap.objs.size (bindL (envOfC qual scope s.heap.objs.size f cd).kindOf (ps.zip us) λ_=>none) (cellsFrom (s.heap.objs.size+1) scope.names []) (bindC (envOfC qual scope s.heap.objs.size f cd).kindOf (ps.zip us) λ_=>none) s1):
 Qt (Vq CX P w K mg base N qual scope f cd A outer s H E) [] (start N vs) H s1:=by
 have d:ps.length<=N.length:=by have:=X9 List.length S.pre;rw[Ws]at this;lia
 obtain⟨R,t,rfl,X⟩:=x.done;have j:∀b:Addr,b∉(Vq CX P w K mg base N qual scope f cd A outer s H E).ex:=λb z=>Xz (show b∈([]:Qg) from z) (by simp)
 refine⟨⟨e0.mod,S.kind,rfl,rfl,Xq _,λy z c R g=>?_,λy m=>?_,λy c _ h=>?_,λ_=>l,Around.frames_deeper e0.frames,.inr ⟨rfl,rfl⟩,λb z=>Xz z<|j b,e0.bs,e0.bsz,λb _ _=>j b,λb z=>Xz z<|j b,e0.funs,e0.frf⟩,
  rfl,e0.bare,Un.kept X,⟨_,x.toInCall.ns,λi y v R g F=>?_⟩,λy c h=>⟨_,x.cell y c h⟩,e0.hok.fresh<|Xq _,λy c h=>?_,λp C=>Xz (show p∈([]:Qc) from C)<|by simp,e0.hok.kept X,?_⟩
 .exact name_of_addr x.apart (PySem.mem_of_lookup R) (PySem.mem_of_lookup g)
 .have m:scope.names.lookup y=some .cell\/scope.names.lookup y=some .free:=m;rcases m with m|m
  .exact Ps m
  .exact Xz rfl (S.nofree _<|PySem.mem_of_lookup m)
 .exact Y4 (x.above y c<|PySem.mem_of_lookup h)
 .have M:i<vs.length:=by
   unfold start at g;by_cases M:i<vs.length
   .exact M
   .rw[BO<|by simpa using M]at g;rw[Dx]at g;split at g<;>cases g
  have o:vs[i]?=some v:=by
   unfold start at g;rw[UI<|by simpa using M,Xs]at g;cases e:vs[i]? with
   |none=>rw[e]at g;cases g
   |some a=>rw[e]at g;cases g;rfl
  obtain⟨u,W,Y⟩:=r.get o;have C:ps[i]?=some y:=by
   rw[<- S.pre,List.getElem?_take_of_lt<|by lia];exact R
  have B:ps.Nodup:=by rw[<- S.pre];exact S.nd.sublist (List.take_sublist _ _)
  refine⟨u,Y,?_⟩;rcases S.par y (List.mem_of_getElem? C) with k|k
  .exact .inl ⟨k,T9 B C W k⟩
  .obtain⟨c,e⟩:=Ps (n:=s.heap.objs.size+1) k;refine .inr ⟨.inl k,c,e,?_⟩;have q:=x.cell y c e;rw[TL B C W<|by show scope.names.lookup y≠_;rw[k];decide]at q;exact q
 .exact e0.hok.fresh (Y4<|x.above y c<|PySem.mem_of_lookup h)
 .unfold start;show _=N.length;rw[Xn,Xl,List.length_replicate];lia
def RE{Y:CXT}{base:Heap}{k:Nat}{f:Addr}{name:Str}{g:Arguments}{h:List Stmt}{U kV X T a Z oc:Value}{an od:Qj}
{z:Array (Qf)}{N:Qh}{c:Sp}(lk:K.lookup f=some ⟨oc,od,.func<|W.fnOf name qual g h scope U kV X T an a Z,z⟩)(G:W.codeIn K a qual=true)(S:Qp N ps scope)
(B:∀vs H Q E,c vs H Q E->vs.length=ps.length)
(L:∀(A:Around) (outer:List Env) (s:Shared) (H:Hp) (vs:List V) (Q:VK) (E:XK),Room k (A.deeper<|envOfC qual scope s.heap.objs.size f a)->c vs H Q E->
  ∃t,PSs (Vq Y P w K mg base N qual scope f a A outer s H E) h t/\t { nx:=λ_ j=>Q .non j,rt:=Q } (start N vs) H):
 FnOk P w K mg base Y (k+1) f (W.fnOf name qual g h scope U kV X T an a Z) ps c:=by
 refine⟨B,λA outer s H args us vs Q E F R hb r C=>?_⟩;have hl:=B _ _ _ _ C;have KX:K.In s.heap:=R.mod.kin.keeps λb o e=>(R.bs b o e).1;have D:s.heap.NoLimit:=R.mod.nolimit.keeps λb o e=>(R.bs b o e).1
 have m:∀y∈ps.zip us,scope.names.lookup y.1=some .local\/(scope.names.lookup y.1=some .cell/\((cellsFrom (s.heap.objs.size+1) scope.names []).lookup y.1).isSome=true):=λ⟨n,v⟩ hy=>by
  rcases S.par n (List.of_mem_zip hy).1 with q|q
  .exact .inl q
  .exact .inr ⟨q,W.cellsFrom_some _ _ _<|.inl q⟩
 refine codeAny_call_function F.depth (KX _ _ lk) rfl S.co S.gen rfl (W.codeRec_of KX G) (hb _ _ _ _ ?_);refine wpAny_newFunctionEnv_cells S.kind m λenv he O x=>?_;subst he;refine⟨D.keeps x.toInCall.keep,codeAny_func ?_⟩;obtain⟨t,ht,hq⟩:=L A outer s H vs Q E (F.deeper _) C;have I:Qt (Vq Y P w K mg base N qual scope f a A outer s H E) [] (start N vs) H O:=Zn5 S F.hd R hl r x;refine wpAny_mono (ht [] O (start N vs) H _ I hq) (λfl d p=>?_) λe d p=>p
 have M:∀{i:St} {j:Hp} {v:V} {u:Value},Qt (Vq Y P w K mg base N qual scope f a A outer s H E) [] i j d->QN v u->Q v j->CE outer P w H s Q u d:=
  λ{i j v u} J l q=>⟨v,j,J.os,J.bare,J.base,J.hok,l,q⟩
 cases fl with
 |ret u=>
  obtain⟨v,i,j,J,l,q⟩:=p;exact M J l q
 |next=>
  obtain⟨i,j,J,q⟩:=p;exact M (v:=V.non) (u:=Value.none) J rfl q
 |brk=>
  obtain⟨_,_,_,q⟩:=p;exact False.elim q
 |cont=>
  obtain⟨_,_,_,q⟩:=p;exact False.elim q
section
variable {x:Str}{e:Expr}{t:TA}{id T:String}{r:List V->Hp->VK->Prop}
def tCB(r:List V->Hp->VK->Prop)(t:TA):TE:=λσ H Q=>t σ H λa b=>r a b Q
def Zx(w:ZW X (.builtin id) r)(v:Gl X x)(n:X.mg x=none)(m:bootBuiltins x=some (.builtin id))(y:PA X (e::es) t)(hn:x ≠ "__name__" := by decide)(a:(x==("__debug__" : Str))=false:=by decide)
(he:zs X e es:=by rfl)(hpl:zb X pos es:=by rfl):PE X (.Call (.Name x p) (e::es) [] pos) (tCB r t):=by
 intro Xa7 s σ H Q I h;refine wpAny_Call_Name_kw (Ju I v n m ?_ hn a);refine PyProof.Rows.callWith_builtin1 (QB (y pos Xa7 s σ H _ I h) ?_) he hpl;rintro f g ⟨b,B,A,i,j⟩;exact w Xa7 g σ B b f Q A i j
def WF(w:ZW X (.type T) r)(v:Gl X x)(n:X.mg x=none)(m:bootBuiltins x=some (.type T))(y:PA X (e::es) t)(hn:x ≠ "__name__" := by decide)(a:(x==("__debug__" : Str))=false:=by decide)
(he:zs X e es:=by rfl)(hpl:zb X pos es:=by rfl):PE X (.Call (.Name x p) (e::es) [] pos) (tCB r t):=by
 intro Xa7 s σ H Q I h;refine wpAny_Call_Name_kw (Ju I v n m ?_ hn a);refine PyProof.Rows.callWith_type1 (QB (y pos Xa7 s σ H _ I h) ?_) he hpl;rintro f g ⟨b,B,A,i,j⟩;exact w Xa7 g σ B b f Q A i j
end
end L2
namespace HT
def cat_tup{b:Addr}{vs ws:Qe}(M:IsTup s.heap t vs.toArray)(P:IsTup s.heap b ws.toArray)(y:vs≠[])
(W:ws=[]->Q (.ref t) s)(R:ws≠[]->Q (.ref s.heap.objs.size) { s with heap:=s.heap.push { cls:=.type "tuple",data:=.seq (vs++ws).toArray } })
(hsz:vs.length+ws.length<=sizeLine):wpAny (model prog w) A (binaryOp .Add (.ref t)<|.ref b) Q E s:=by
 obtain⟨⟨cls,dd,data,r⟩,m,C,n,B⟩:=id M;obtain⟨⟨K,i,p,f⟩,a,h,v,g⟩:=id P;simp only at C B h g;subst C B h g;have e:vs.toArray++ws.toArray=(vs++ws).toArray:=by simp
 by_cases j:ws=[]
 .exact concat_meets ⟨_,m,rfl⟩ ⟨_,a,rfl⟩ noFill_tuple_add seq_tuple_add PySem.F.slot_tuple_add PySem.F.entry_tuple_add (PySem.F.args_tuple_add_2 _ _)
   (tuple_addW1 t b vs.toArray ws.toArray n v dd i r f (by simpa using y)<|by simp[j]) ⟨m,a,W j⟩
 .refine concat_meets ⟨_,m,rfl⟩ ⟨_,a,rfl⟩ noFill_tuple_add seq_tuple_add PySem.F.slot_tuple_add PySem.F.entry_tuple_add (PySem.F.args_tuple_add_2 _ _)
   (tuple_addW2 t b vs.toArray ws.toArray n v dd i r f (by simpa using y) (by simpa using j)<|by rw[Xu,Xu];exact hsz) ⟨m,a,?_⟩
  rw[e];exact R j
def sIx(n d:Nat):Option Int->Nat
 |none=>d
 |some v=>if v<0 then (v+(n:Int)).toNat else min v.toNat n
def sIx_nat(n d k:Nat):sIx n d (some (k:Int))=min k n:=by
 show(if (k:Int)<0 then ((k:Int)+(n:Int)).toNat else min (k:Int).toNat n)=min k n
 rw[Xb<|by lia,Xo]
def Cj(n d:Nat)(b:d<=n)(o:Option Int):sIx n d o<=n:=by
 cases o with
 |none=>exact b
 |some v=>
  show(if v<0 then (v+(n:Int)).toNat else min v.toNat n)<=n
  by_cases a:v<0
  .rw[Xd a];lia
  .rw[Xb a];exact Nat.min_le_right _ _
def SE(v:Int)(n d:Nat):(if v<0 then max (v+(n:Int)) 0 else min v (n:Int))=((sIx n d (some v):Nat):Int):=by
 show(if v<0 then max (v+(n:Int)) 0 else min v (n:Int))=(((if v<0 then (v+(n:Int)).toNat else min v.toNat n):Nat):Int)
 by_cases a:v<0
 .simp only[Xd a];lia
 .simp only[Xb a];lia
def ZmV(lo a:Option Int)(n:Nat):Builtin.Slice.sliceAdjust lo a 1 (n:Int)=(((sIx n 0 lo:Nat):Int),((sIx n n a:Nat):Int)):=by
 have b:¬((1:Int)<0):=by lia
 unfold Builtin.Slice.sliceAdjust;simp only[b,if_false];refine Prod.ext ?_ ?_
 .cases lo with
  |none=>rfl
  |some v=>exact SE v n 0
 .cases a with
  |none=>rfl
  |some v=>exact SE v n n
def ZmT(i j:Nat):Builtin.Slice.slicePlaces (i:Int) (j:Int) 1=j-i:=by
 unfold Builtin.Slice.slicePlaces;have a:(1:Int) > 0:=by lia
 simp only[a,if_true,Int.ediv_one];split<;>lia
def TZ{v:Value}(p:IsPart v o)(h:Q o s):wpAny (model prog w) A (Builtin.Slice.slicePartIndex v) Q E s:=by
 cases p with
 |none=>exact slicePart_none h
 |int i t=>exact slicePart_int h
def LJ{lo b:Option Int}{Q:Int×Int×Nat->Shared->Prop}(i:s.heap.IsSliceOf sl vl vu .none)(pl:IsPart vl lo)(g:IsPart vu b)
(h:Q (((sIx n 0 lo:Nat):Int),1,sIx n n b-sIx n 0 lo) s):wpAny (model prog w) A (Builtin.Slice.sliceApplied (.ref sl)<|pure (n:Int)) Q E s:=by
 obtain⟨m,a,j,f⟩:=id i;unfold Builtin.Slice.sliceApplied Builtin.Slice.sliceFields;refine Xa (Xa<|Wt a f (x:=vl) rfl (Xa<|Wt a f (x:=vu) rfl (Xa<|Wt a f (x:=.none) rfl (Xj ?_))));refine Xa (slicePart_none ?_);show wpAny _ _ (if ((1:Int)==0)=true then _ else _) _ _ s;rw[Xb<|by decide];refine Xa (TZ pl<|Xa<|TZ g<|Xa<|Xj ?_);show wpAny _ _ (match Builtin.Slice.sliceAdjust lo b 1 (n:Int) with|(lo,b)=>pure (lo,(1:Int),Builtin.Slice.slicePlaces lo b 1)) _ _ s;rw[ZmV lo b n];show wpAny _ _ (pure (((sIx n 0 lo:Nat):Int),(1:Int),Builtin.Slice.slicePlaces ((sIx n 0 lo:Nat):Int) ((sIx n n b:Nat):Int) 1)) _ _ s;rw[ZmT];exact Xj h
def Eu(xs:Array Value)(i k:Nat):((List.range k).filterMap λ(m:Nat)=>xs[((i:Int)+(m:Int)*1).toNat]?).toArray=((xs.toList.drop i).take k).toArray:=by
 have e:(λ(m:Nat)=>xs[((i:Int)+(m:Int)*1).toNat]?)=λm=>xs[i+m]? := by
  funext m
  have:((i:Int)+(m:Int)*1).toNat=i+m:=by lia
  rw[this]
 rw[e];have:=pick_run xs i k;rw[List.filterMap_map]at this;have a:((λx=>xs[x]?) ∘ λx=>i+x)=λm=>xs[i+m]? := rfl;rw[a]at this;rw[this]
def getItem_tuple_cut{items:Array Value}{lo b:Option Int}(f:IsTup s.heap t items)(p:s.heap.IsSliceOf sl vl vu .none)(pl:IsPart vl lo)(r:IsPart vu b)
(hw:¬(sIx items.size 0 lo=0/\sIx items.size items.size b=items.size))
(h:Q (.ref s.heap.objs.size) { s with heap:=s.heap.push { cls:=.type "tuple",data:=.seq ((items.toList.drop<|sIx items.size 0 lo).take (sIx items.size items.size b-sIx items.size 0 lo)).toArray } })
(hsz:items.size<=sizeLine):wpAny (model prog w) A (getItem (.ref t)<|.ref sl) Q E s:=by
 have a:sizeOk (.seq ((items.toList.drop<|sIx items.size 0 lo).take (sIx items.size items.size b-sIx items.size 0 lo)).toArray):=by
  show((items.toList.drop<|sIx items.size 0 lo).take (sIx items.size items.size b-sIx items.size 0 lo)).toArray.size<=sizeLine
  rw[Xu,Ws,GN,Array.length_toList];lia
 have K:sIx items.size items.size b<=items.size:=Cj _ _ (Xq _) b;obtain⟨v,g,j,y⟩:=id p;have n:s.TypeIs (.ref sl) "slice" := ⟨v,g,j⟩;unfold getItem;try with_reducible refine wpAny_holding ?_
 first|refine Xa (Xj ?_)|skip
 refine Xa (wpAny_sequenceKey f.typeIs (by decide) ?_);refine Xa (wpAny_callSpecial?_slot (name:=Str.ofString "__getitem__") f.typeIs PyProof.Rows.slot_tuple_getitem
  (wpAny_call_entry PyProof.Rows.slot_tuple_getitem f.typeIs entry_tuple_getitem ?_<|args_tuple_getitem _ _))
 show wpAny _ _ (Builtin.Tuple.tupleItemsOf (.ref t) >>= _) _ _ s;refine Xa (tupleItemsOf_ f ?_);refine Xa (wpAny_typeOf n ?_);rw[Xd<|by decide];refine Xa (LJ p pl r ?_)
 have i:¬((((sIx items.size 0 lo:Nat):Int)==0&&(1:Int)==1&&(sIx items.size items.size b-sIx items.size 0 lo)==items.size)=true):=by
  intro q;rw[Wb,Wb]at q;have C:((sIx items.size 0 lo:Nat):Int)=0:=eq_of_beq q.1.1;have B:sIx items.size items.size b-sIx items.size 0 lo=items.size:=eq_of_beq q.2;exact hw ⟨by lia,by lia⟩
 show wpAny _ _ (if (((sIx items.size 0 lo:Nat):Int)==0&&(1:Int)==1&&(sIx items.size items.size b-sIx items.size 0 lo)==items.size)=true then _ else _) _ _ s;rw[Xb i,Eu]
 first
  |exact Xa (m:=Builtin.Tuple.tupleExact _) (wpAny_newObj_type (Xj ⟨_,rfl,Xj h⟩) a)
  |exact Xa (m:=Builtin.Tuple.tupleExact _) (wpAny_newObj_type (Xa<|Xj<|Xj ⟨_,rfl,Xj h⟩) a)
  |exact Xa (Xa (m:=Builtin.Tuple.tupleExact _)<|wpAny_newObj_type (Xj<|Xj ⟨_,rfl,Xj h⟩) a)
  |exact Xa (Xa (m:=Builtin.Tuple.tupleExact _)<|wpAny_newObj_type (Xj ⟨_,rfl,Xj h⟩) a)
end HT
namespace L2
abbrev TO:=St->Hp->(Option Int->Hp->Prop)->Prop
def PO(X:Cx)(e:Option Expr)(t:TO):Prop:=
 ∀(Xa7:Qc) (s:Shared) (σ:St) (H:Hp) (Q:Option Int->Hp->Prop),Qt X Xa7 σ H s->t σ H Q->
  wpAny (model X.prog X.w) X.A (evalPart e X.env) (λu b=>∃o a,Qt X Xa7 σ a b/\IsPart u o/\Q o a) X.xe s
def Pf:TO:=λ_ H Q=>Q none H
def R9(t:TE):TO:=λσ H Q=>t σ H λx a=>∃i,x=.int i/\Q (some i) a
def GE:∀{us:Qe},QQ (ns.map V.int) us->IntsAre us ns:=by
 induction ns with
 |nil=>intro us r;rw[GL]at r;cases r;exact .nil
 |cons n ns f=>
  intro us r;rw[Xw]at r;cases r with
  |cons b a=>
   obtain⟨t,e⟩:=b;subst e;exact .cons n t (f a)
section
variable {e:Expr}{lo hi:Option Expr}{tl th:TO}{p2:Pos}
def Gz:PO X none Pf:=by
 intro Xa7 s σ H Q I h;rw[evalPart_none];exact Xj ⟨none,H,I,.none,h⟩
def G4(h:PE X e te):PO X (some e) (R9 te):=by
 intro Xa7 s σ H Q I f;rw[evalPart_some];refine QB (h Xa7 s σ H _ I f) ?_;rintro u m ⟨x,j,g,a,b⟩;obtain⟨i,rfl,q⟩:=b;obtain⟨t,rfl⟩:=a;exact⟨some i,j,g,.int i t,q⟩
def SlR(X:Cx)(r:V->Option Int->Option Int->Hp->VK->Prop):Prop:=
 ∀(Xa7:Qc) (s:Shared) (σ:St) (H:Hp) (x:V) (v b a:Value) (lo hi:Option Int) (e:Addr) (Q:VK),Qt X Xa7 σ H s->QN x v->s.heap.IsSliceOf e b a .none->IsPart b lo->IsPart a hi->r x lo hi H Q->
  ∃T f,typeLookup (.type T) "__getitem__"=pure (some<|.builtin f)/\s.TypeIs v T/\wpAny (model X.prog X.w) X.A (getItem v<|.ref e) (EP X Xa7 σ Q) X.xe s
def tSl(r:V->Option Int->Option Int->Hp->VK->Prop)(te:TE)(tl th:TO):TE:=λσ H Q=>te σ H λx e=>tl σ e λl b=>th σ b λu a=>r x l u a Q
def GC{r:V->Option Int->Option Int->Hp->VK->Prop}(K:SlR X r)(he:PE X e te)(M:PO X lo tl)(C:PO X hi th):PE X (.Subscript e (.Slice lo hi none p2) pos) (tSl r te tl th):=by
 intro Xa7 s σ H Q I h;refine Subscript_ (QB (he Xa7 s σ H _ I h) ?_);rintro v m ⟨x,k,c,n,y⟩;refine wpAny_Slice (QB (M Xa7 m σ k _ c y) ?_);rintro g j ⟨l,d,Y,B,w⟩;refine QB (C Xa7 j σ d _ Y w) ?_;rintro f a ⟨u,i,W,A,p⟩;rw[evalPart_none];refine Xj ?_;have R:Qt X Xa7 σ i { a with heap:=a.heap.push { cls:=.type "slice",data:=.fields #[g,f,.none] } }:=W.kept (t':=a.toks) λb o q=>Xg _ q;obtain⟨T,t,hT,E,P⟩:=K Xa7 { a with heap:=a.heap.push { cls:=.type "slice",data:=.fields #[g,f,.none] } } σ i x v g f l u a.heap.objs.size Q R n (Heap.IsSliceOf.new ..) B A p;show wpAny (model X.prog X.w) X.A (subscriptTail e (.Slice lo hi none p2) v<|.ref a.heap.objs.size) (EP X Xa7 σ Q) X.xe { a with heap:=a.heap.push { cls:=.type "slice",data:=.fields #[g,f,.none] } };exact tail_any (ops:=[.ref a.heap.objs.size,v]) E hT P (by with_unfolding_all rfl)
def JY(xs:List V)(lo hi:Option Int):List V:=(xs.drop<|HT.sIx xs.length 0 lo).take (HT.sIx xs.length xs.length hi-HT.sIx xs.length 0 lo)
def Zlr(xs:List V)(lo hi:Option Int):(JY xs lo hi).length<=xs.length:=by
 unfold JY;rw[Ws,GN];lia
def LW(K:W.Frag):V->Option Int->Option Int->Hp->VK->Prop:=λx lo hi H Q=>∃a xs,x=.ref a/\SqT K H a xs/\
 ¬(HT.sIx xs.length 0 lo=0/\HT.sIx xs.length xs.length hi=xs.length)/\∀p,H p=none->Q (.ref p) (upd H p<|.tup<|JY xs lo hi)
def FI:SlR X (LW X.K):=by
 intro Xa7 s σ H x v B A lo hi C Q I j y n m h;obtain⟨a,xs,rfl,p,w,q⟩:=h;cases j;obtain⟨f,r,i,g⟩:=I.tuple p;have e:f.toArray.size=xs.length:=by rw[Xu];exact r.length.symm
 refine⟨"tuple",_,PyProof.Rows.slot_tuple_getitem.lookup,i.typeIs,?_⟩;refine HT.getItem_tuple_cut i y n m (by rw[e];exact w) ?_ (by rw[e];exact g);rw[e];refine⟨.ref s.heap.objs.size,_,I.laid (t':=s.toks) (o:=.tup (JY xs lo hi)) (λb E q=>Xg _ q) (Xq _) ?_,rfl,q _<|I.hok.fresh<|Xq _⟩;exact⟨X0 (Zlr xs lo hi) g,_,(r.drop<|HT.sIx xs.length 0 lo).take (HT.sIx xs.length xs.length hi-HT.sIx xs.length 0 lo),IsTup.new _ _⟩
def Fv(K:W.Frag):R2:=λx y H Q=>∃a b xs ys,x=.ref a/\y=.ref b/\SqT K H a xs/\SqT K H b ys/\xs≠[]/\xs.length+ys.length<=sizeLine/\
 (ys=[]->Q (.ref a) H)/\(ys≠[]->∀p,H p=none->Q (.ref p) (upd H p<|.tup<|xs++ys))
def QQ.nil_iff(r:QQ xs us):us=[]↔xs=[]:=by
 cases r with
 |nil=>simp
 |cons _ _=>simp
def AK:OpR X (binaryOp .Add) (Fv X.K):=by
 intro Xa7 s σ H x y v u Q I m j h;obtain⟨a,b,xs,ys,rfl,rfl,E,C,B,i,p,n⟩:=h;cases m;cases j;obtain⟨A,f,r,_⟩:=I.tuple E;obtain⟨g,e,p2,_⟩:=I.tuple C;refine HT.cat_tup r p2 (λz=>B<|f.nil_iff.mp z) (λz=>⟨.ref a,H,I,rfl,p<|e.nil_iff.mp z⟩) (λz=>?_) (by rw[<- f.length,<- e.length];exact i);refine⟨.ref s.heap.objs.size,_,I.laid (t':=s.toks) (o:=.tup (xs++ys)) (λb K q=>Xg _ q) (Xq _) ?_,rfl,n (λw=>z<|e.nil_iff.mpr w) _<|I.hok.fresh<|Xq _⟩;exact⟨by rw[Xn];exact i,_,f.append e,IsTup.new _ _⟩
end
noncomputable def ixN(n:Nat)(i:Int):Option Nat:=if 0<=i then (if i<n then some i.toNat else none) else if -(n:Int)<=i then some (i+n).toNat else none
def atI{a:Type}(xs:List a)(i:Int):Option a:=(ixN xs.length i).bind λj=>xs[j]?
def Po{i:Int}(h:ixN n i=some j):seqIndex? i n=some j/\j<n /\ -(n:Int)<=i/\i<n:=by
 unfold ixN at h;by_cases b:0<=i
 .rw[Xd b]at h
  by_cases a:i<n
  .rw[Xd a]at h;have e:i.toNat=j:=Option.some.inj h;exact⟨by rw[seqIndex_of b a,e],by lia,by lia,a⟩
  .rw[Xb a]at h;cases h
 .rw[Xb b]at h
  by_cases a : -(n:Int)<=i
  .rw[Xd a]at h;have e:(i+n).toNat=j:=Option.some.inj h;exact⟨by rw[seqIndex_neg (by lia) a,e],by lia,a,by lia⟩
  .rw[Xb a]at h;cases h
def HU{a:Type}{xs:List a}{i:Int}{v:a}(h:atI xs i=some v):∃j,seqIndex? i xs.length=some j/\xs[j]?=some v/\j<xs.length /\ -(xs.length:Int)<=i/\i<xs.length:=by
 unfold atI at h;cases e:ixN xs.length i with
 |none=>rw[e]at h;cases h
 |some j=>
  rw[e]at h;obtain⟨m,g,f,b⟩:=Po e;exact⟨j,m,h,g,f,b⟩
def Vm{a:Type}{xs:List a}{v:a}(h:xs[j]?=some v):atI xs (j:Int)=some v:=by
 have b:j<xs.length:=(Xf.mp h).1;have e:ixN xs.length (j:Int)=some j:=by
  unfold ixN;rw[Xd<|by lia,Xd<|by lia];simp
 unfold atI;rw[e];exact h
def Au(b:Expr):Prop := ∀o i,subscripted b false o i=operate [o,i] (getItem o i)
def IxR(X:Cx)(r:R2):Prop:=
 ∀(b a:Expr) (Xa7:Qc) (s:Shared) (σ:St) (H:Hp) (x y:V) (v u:Value) (Q:VK),Qt X Xa7 σ H s->QN x v->QN y u->r x y H Q->
  subscripted a false v u=operate [v,u] (getItem v u)->wpAny (model X.prog X.w) X.A (subscriptTail b a v u) (EP X Xa7 σ Q) X.xe s
def MtR(X:Cx)(b:String)(r:V->List V->Hp->VK->Prop):Prop:=
 ∀(Xa7:Qc) (s:Shared) (σ:St) (H:Hp) (x:V) (xs:List V) (v:Value) (a:Qe) (Q:VK),Qt X Xa7 σ H s->QN x v->QQ xs a->r x xs H Q->
  wpAny (model X.prog X.w) X.A (call (.builtin b) (v::a)) (EP X Xa7 σ Q) X.xe s
section
variable {a:Expr}{tb:TE}
def IxR.or{r:R2}(h:IxR X r)(h':IxR X r'):IxR X (λx y H Q=>r x y H Q\/r' x y H Q):=by
 intro a b Xa7 s σ H x y v u Q I g f q i;rcases q with q|q
 .exact h a b Xa7 s σ H x y v u Q I g f q i
 .exact h' a b Xa7 s σ H x y v u Q I g f q i
def QC{r:R2}(m:IxR X r)(p:PE X a ta)(n:PE X b tb)(j:Au b:=by exact λ_ _=>rfl):PE X (.Subscript a b pos) (tOp r ta tb):=by
 intro Xa7 s σ H Q I h;exact Subscript_ (D3 p n I h λv u f x y A w i g q=>m a b Xa7 f σ A x y v u Q w i g q<|j _ _)
def Rt(K:W.Frag):R2:=λx y H Q=>∃p xs i v,x=.ref p/\y=.int i/\SqL K H p xs/\atI xs i=some v/\Q v H
def Rh(K:W.Frag):R2:=λx y H Q=>∃p xs i v,x=.ref p/\y=.int i/\SqT K H p xs/\atI xs i=some v/\Q v H
def NY:R2:=λx y H Q=>∃z i c,x=.str z/\y=.int i/\z.length<=sizeLine/\atI z.cps.toList i=some c/\Q (.str ⟨#[c]⟩) H
def A0:IxR X (Rt X.K):=by
 intro f g Xa7 s σ H x y v u Q I R P h C;obtain⟨p,xs,i,z,rfl,rfl,W,c,q⟩:=h;cases R;obtain⟨t,rfl⟩:=P;obtain⟨A,r,n,l⟩:=I.list W;obtain⟨j,b,k,D,e,d⟩:=HU c;obtain⟨w,K,m⟩:=r.get k;have Y:=r.length;have o:=U0;have a:EP X Xa7 σ Q w s:=⟨z,H,I,m,q⟩
 by_cases E:0<=i
 .have B:i.toNat=j:=by
   rw[seqIndex_of E d]at b;exact Option.some.inj b
  exact item_listR n.isList E (by lia) (by rw[B];simpa using K) a C
 .have B:(i+(A.toArray.size:Int)).toNat=j:=by
   rw[seqIndex_neg (by lia) e]at b;rw[Xu,<- Y];exact Option.some.inj b
  exact subscriptTail_builtinR (x:=w) n.isList.typeIs slot_list_getitem.lookup
   (wpAny_getItem_list_neg (Q:=λr M=>r=w/\EP X Xa7 σ Q r M) n.isList (by lia) (by rw[Xu]<;>lia) (by lia) (by rw[B];simpa using K) ⟨rfl,a⟩) C
def FC:IxR X (Rh X.K):=by
 intro a b Xa7 s σ H x y v u Q I B A h E;obtain⟨p,xs,i,z,rfl,rfl,K,P,q⟩:=h;cases B;obtain⟨t,rfl⟩:=A;obtain⟨C,r,m,c⟩:=I.tuple K;obtain⟨j,W,R,l,k,e⟩:=HU P;obtain⟨w,Y,f⟩:=r.get R;have M:=r.length;have d:=U0;have g:EP X Xa7 σ Q w s:=⟨z,H,I,f,q⟩
 exact subscriptTail_builtinR (x:=w) m.typeIs slot_tuple_getitem.lookup
  (getItem_tuple (j:=j) (Q:=λr n=>r=w/\EP X Xa7 σ Q r n) m (by lia) (by lia) (by rw[Xu,<- M];exact W) (by simpa using Y) ⟨rfl,g⟩) E
def Cm:IxR X NY:=by
 intro a b Xa7 s σ H x y v u Q I m g h n;obtain⟨z,i,c,rfl,rfl,M,r,q⟩:=h;obtain⟨t,rfl⟩:=m;obtain⟨K,rfl⟩:=g;obtain⟨j,f,B,R,A,w⟩:=HU r;have p:z.cps.toList.length=z.length:=by simp[Str.length]
 rw[p]at f A w;have P:=U0;exact tail_any (typeIs_str s z t) slot_str_getitem.lookup (getItem_str (c:=c) (by
  have E:decide (i < -(2^63:Int))=false:=XI (by lia);have C:decide (i>=2^63)=false:=XI (by lia);rw[E,C,Bool.or_false]) (by rw[f];simpa using B) ⟨.str ⟨#[c]⟩,H,I.tok _,⟨_,rfl⟩,q⟩) n
def rIx(K:W.Frag):R2:=λx y H Q=>Rt K x y H Q\/Rh K x y H Q\/NY x y H Q
def QD:IxR X (rIx X.K):=A0.or (FC.or Cm)
def ZmB(a:Qe)(n j:Nat)(u:Value):Obj.mapSeq (·.setIfInBounds j u) { cls:=.type "list",data:=.seq a.toArray n }={ cls:=.type "list",data:=.seq (a.set j u).toArray n }:=by
 simp[Obj.mapSeq]
def Qt.lst{p:Addr}(I:Qt X Xa7 σ H s)(h:H p=some (.lst xs)):
 ∃(a:Qe) (n:Nat),QQ xs a/\s.heap.get? p=some { cls:=.type "list",data:=.seq a.toArray n }/\xs.length<=sizeLine:=by
 obtain⟨z,a,n,r,e⟩:=I.hok p _ h;exact⟨a,n,r,e,z⟩
def Qt.lstUpd{p:Addr}{a:Qe}{f:Obj->Obj}(I:Qt X Xa7 σ H s)(h:H p=some (.lst xs))
(i:s.heap.get? p=some { cls:=.type "list",data:=.seq a.toArray n })(g:f { cls:=.type "list",data:=.seq a.toArray n }={ cls:=.type "list",data:=.seq its'.toArray n' })(r:QQ ys its')(hz:ys.length<=sizeLine)(t:Nat):
 Qt X Xa7 σ (upd H p<|.lst ys) { s with heap:=s.heap.update p f,toks:=t }:=by
 have e:(s.heap.update p f).get? p=some { cls:=.type "list",data:=.seq its'.toArray n' }:=by
  rw[X8 f i<|by rw[g]<;>rfl,g]
 refine I.write (x:=p) (e:=p) (by rw[h];trivial) (.inl rfl) (λb u j q=>(XV _ _<|Ne.symm j).trans q) ⟨_,e⟩ ?_;exact⟨hz,its',n',r,e⟩
def Uj:V->V->V->Hp->(Hp->Prop)->Prop:=λo i v H Q=>∃p xs k j,o=.ref p/\i=.int k/\H p=some (.lst xs)/\ixN xs.length k=some j/\Q (upd H p<|.lst<|xs.set j v)
def Yk:D8 X Uj:=by
 intro Xa7 s σ H o i v Y c u Q I K M E h;obtain⟨p,xs,k,j,rfl,rfl,w,R,q⟩:=h;cases K;obtain⟨t,rfl⟩:=M;obtain⟨a,n,r,f,P⟩:=I.lst w;obtain⟨b,e,A,y⟩:=Po R;have g:=r.length;have d:=U0;have C:Qt X Xa7 σ (upd H p<|.lst<|xs.set j v) { s with heap:=s.heap.update p (Obj.mapSeq (·.setIfInBounds j u)) }:=
  I.lstUpd w f (ZmB a n j u) (r.set E j) (by rw[JU];exact P) s.toks
 by_cases B:0<=k
 .have m:k.toNat=j:=by
   rw[seqIndex_of B y]at b;exact Option.some.inj b
  exact W.ki_setAt f B (by lia) (by rw[Xu,<- g];exact y) (by rw[m];exact⟨_,C,q⟩)
 .have m:(k+(a.toArray.size:Int)).toNat=j:=by
   rw[seqIndex_neg (by lia) A]at b;rw[Xu,<- g];exact Option.some.inj b
  exact W.ki_setBack f (by lia) (by rw[Xu,<- g];exact A) (by lia) (by rw[m];exact⟨_,C,q⟩)
def ZjE:ZW X (.builtin "len") (λxs H Q=>∃p ys,xs=[.ref p]/\(SqL X.K H p ys\/SqT X.K H p ys)/\Q (.int ys.length) H):=by
 intro Xa7 s σ H xs n Q I r h;obtain⟨p,ys,rfl,b,q⟩:=h;obtain⟨u,rfl,j⟩:=Yy r;cases j;have v:=U0;rcases b with b|b
 .obtain⟨i,f,g,m⟩:=I.list b;have a:=f.length;exact Calls.call_len_list g.isList (by simp only[Xu]<;>lia) ⟨.int ys.length,H,I.tok _,⟨s.toks+1,by rw[Xu,a]⟩,q⟩
 .obtain⟨i,f,g,m⟩:=I.tuple b;have a:=f.length;exact len_tuple g (by simp only[Xu]<;>lia) ⟨.int ys.length,H,I.tok _,⟨s.toks+1,by rw[Xu,a]⟩,q⟩
def Zkg:ZW X (.type "list") (λxs H Q=>∃p ys,xs=[.ref p]/\(SqL X.K H p ys\/SqT X.K H p ys)/\∀l,H l=none->Q (.ref l) (upd H l<|.lst ys)):=by
 intro Xa7 s σ H xs M Q I r h;obtain⟨p,ys,rfl,m,q⟩:=h;obtain⟨u,rfl,K⟩:=Yy r;cases K;have w:∀(a:Qe),QQ ys a->ys.length<=sizeLine->∀(h':Heap) (g:Nat),(∀b E,s.heap.get? b=some E->h'.get? b=some E)->
  h'.get? s.heap.objs.size=some { cls:=.type "list",dict:=none,data:=.seq a.toArray g,slots := #[] }->EP X Xa7 σ Q (.ref s.heap.objs.size) { s with heap:=h' }:=λa f j h' g i e=>
  ⟨.ref s.heap.objs.size,_,I.laid (t':=s.toks) i (Xq _) (show Z6 X.prog X.w _ h' _ (.lst ys) from⟨j,a,g,f,e⟩),rfl,q _<|I.hok.fresh<|Xq _⟩
 rcases m with m|m
 .obtain⟨a,f,y,j⟩:=I.list m;have v:=f.length;obtain⟨o,A,C,n,B⟩:=y.isList;exact call_list_seq p (.inl rfl) A C B (λh' g i e=>w a f j h' g i e) (by simp only[Xu]<;>lia)
 .obtain⟨a,f,y,j⟩:=I.tuple m;have v:=f.length;obtain⟨o,A,C,n,B⟩:=y;exact call_list_seq p (.inr rfl) A C B (λh' g i e=>w a f j h' g i e) (by simp only[Xu]<;>lia)
def ZiV:ZW X (.type "tuple") (λxs H Q=>∃p ys,xs=[.ref p]/\((SqL X.K H p ys/\∀l,H l=none->Q (.ref l) (upd H l<|.tup ys))\/(SqT X.K H p ys/\Q (.ref p) H))):=by
 intro Xa7 s σ H xs A Q I r h;obtain⟨p,ys,rfl,h⟩:=h;obtain⟨u,rfl,v⟩:=Yy r;cases v;rcases h with ⟨i,q⟩|⟨i,q⟩
 .obtain⟨a,f,g,j⟩:=I.list i;have m:=f.length;refine call_tuple_list g.isList (λh' w=>?_) (by simp only[Xu]<;>lia);have n:Qt X Xa7 σ H { s with heap:=h' }:=I.kept (t':=s.toks) w;have y:Qt X Xa7 σ (upd H h'.objs.size<|.tup ys) { s with heap:=h'.push { cls:=.type "tuple",data:=.seq a.toArray } }:=
   n.laid (t':=s.toks) (λb o e=>Xg _ e) (Xq _) (show Z6 X.prog X.w _ _ _ (.tup ys) from⟨j,a,f,IsTup.new _ _⟩)
  exact⟨.ref h'.objs.size,_,y,rfl,q _<|n.hok.fresh<|Xq _⟩
 .obtain⟨a,f,g,j⟩:=I.tuple i;exact call_tuple_same g ⟨.ref p,H,I,rfl,q⟩
def tyV(K:W.Frag)(T:String)(x:V)(H:Hp):Prop:=match x with
 |.str _=>T = "str"
 |.int _=>T = "int"
 | .ref p=>(T = "list" /\ ∃xs,SqL K H p xs)\/(T = "tuple" /\ ∃o,K.lookup p=some o/\o.cls=.type "tuple" /\ o.dict=none) \/
  (T = "dict" /\ ((∃a,H p=some (.dK a))\/∃a,H p=some (.dT a)))\/(T = "set" /\ ∃S n,H p=some (.set S n))
 |_=>False
def Cl{v:Value}(I:Qt X Xa7 σ H s)(r:QN x v)(g:tyV X.K T x H):
 s.TypeIs v T/\∀a,v=.ref a->∃ob,s.heap.get? a=some ob/\ob.dict=none:=by
 cases x with
 |str z=>
  obtain⟨t,rfl⟩:=r;cases (show T = "str" from g);exact⟨typeIs_str s z t,by rintro _ ⟨⟩⟩
 |int i=>
  obtain⟨t,rfl⟩:=r;cases (show T = "int" from g);exact⟨typeIs_int s i t,by rintro _ ⟨⟩⟩
 |ref p=>
  cases r;rcases g with ⟨rfl,xs,A⟩|⟨rfl,o,b,B,j⟩|⟨rfl,b⟩|⟨rfl,S,n,b⟩
  .obtain⟨y,_,w,_⟩:=I.list A;refine⟨w.isList.typeIs,λa e=>?_⟩;cases e;obtain⟨o,n,e,c,j,_⟩:=w;exact⟨o,e,j⟩
  .refine⟨⟨o,I.kIn p o b,B⟩,λa e=>?_⟩;cases e;exact⟨o,I.kIn _ o b,j⟩
  .have z:∃o,s.heap.get? p=some o/\o.ExactDict:=by
    rcases b with ⟨h,b⟩|⟨h,b⟩
    .obtain⟨_,_,_,_,o,_,_,e,f,_⟩:=I.hok p _ b;exact⟨o,e,f⟩
    .obtain⟨_,_,_,_,o,_,_,e,f,_⟩:=I.hok p _ b;exact⟨o,e,f⟩
   obtain⟨o,e,f⟩:=z;refine⟨⟨o,e,f.1⟩,λa m=>?_⟩;cases m;exact⟨o,e,f.2.1⟩
  .obtain⟨o,_,_,_,e,f,_⟩:=I.hok p _ b;refine⟨⟨o,e,f.1⟩,λa m=>?_⟩;cases m;exact⟨o,e,f.2.1⟩
 |_=>exact False.elim g
def tBM(K:W.Frag)(T:String)(r:V->List V->Hp->VK->Prop)(b:TE)(t:TA):TE:=λσ H Q=>b σ H λx a=>tyV K T x a/\t σ a λxs f=>r x xs f Q
variable {o e:Expr}{to:TE}{t:TA}{name:Str}{T id:String}{r:V->List V->Hp->VK->Prop}
def VJ(P:PlainAttrs T)(g:Slot T name id)(j:typeOf (.builtin id)=pure (.type "method_descriptor"))(Y:MtR X id r)(W:PE X o to)(c:PA X (e::es) t)
(f:attributeBase o name X.env (eval o X.env)=eval o X.env:=by rfl)
(i:((backTo L3<|starEach (e::es) X.env).all (λx => !x.1)&&(backToKw L3<|keywordEach [] X.env).all (λx=>x.1.isSome)
  && decide ((e::es).length+([]:List Keyword).length+(if ([]:List Keyword).isEmpty then 0 else 1)<30))=true:=by rfl)
(b:(SF.endLine==L3.line)=true:=by rfl)(R:zs X e es:=by rfl)(a:(backTo L3<|starEach es X.env).any (·.1)=false:=by rfl):
 PE X (.Call (.Attribute o name SF) (e::es) [] L3) (tBM X.K T r to t):=by
 intro Xa7 s σ H Q I h;refine wpAny_Call_method_late f i b rfl (QB (W Xa7 s σ H _ I h) ?_);rintro v C ⟨x,u,p,m,A,M⟩;obtain⟨k,d⟩:=Cl p m A;refine⟨T,id,P,g,j,k,d,?_⟩;have n:=c L3 Xa7 C σ u _ p M;rw[R]at n ⊢;refine Calls.callWith_builtin (by show(false||(backTo L3<|starEach es X.env).any (·.1))=false;rw[a]<;>rfl) (Calls.evalArgs_plain ?_);refine QB n ?_;rintro y B ⟨w,q,l,E,K⟩;exact Y Xa7 B σ q x w v y Q l m E K
end
def MtM(X:Cx)(b:String)(r:V->List V->Hp->VK->Prop):Prop:=
 ∀(Xa7:Qc) (s:Shared) (σ:St) (H:Hp) (x:V) (xs:List V) (v:Value) (a:Qe) (Q:VK),Qt X Xa7 σ H s->QN x v->QQ xs a->r x xs H Q->
  wpAny (model X.prog X.w) X.A (call (.builtin b) (v::a)) (EP X Xa7 σ Q) X.xe s
theorem QQ.one:∀{x:V} {us:Qe},QQ [x] us->∃u,us=[u]/\QN x u
 |_,_,.cons r .nil=>⟨_,rfl,r⟩
theorem QQ.rep{xs:List V}{us:Qe}(h:QQ xs us):∀k:Nat,QQ (List.replicate k xs).flatten (List.replicate k us).flatten
 |0=>.nil
 |k+1=>by
  rw[JQ,JQ,UO,UO];exact QQ.append h (QQ.rep h k)
theorem TD(a:Qe):∀(k:Nat) (b:Qe),
 List.foldl (λg f=>g++f) b.toArray (List.replicate k a.toArray)=(b++(List.replicate k a).flatten).toArray
 |0,b=>by simp
 |k+1,b=>by
  have e:b.toArray++a.toArray=(b++a).toArray:=by simp
  have h:(b++a)++(List.replicate k a).flatten=b++(List.replicate (k+1) a).flatten:=by
   rw[JQ,UO,GP]
  rw[<- h,<- TD a k (b++a),<- e,JQ,List.foldl_cons]
section
variable {H:Hp}{l:Addr}
def Qt.lset{a:Qe}{f:Array Value->Array Value}(I:Qt X Xa7 σ H s)(j:H l=some (.lst xs))
(e:s.heap.get? l=some { cls:=.type "list",data:=.seq a.toArray n })(h:f a.toArray=its'.toArray)(b:QQ ys its')(hz:ys.length<=sizeLine):
 Qt X Xa7 σ (upd H l<|.lst ys) { s with heap:=s.heap.update l (Obj.mapSeq f),toks:=t' }:=by
 have q:=PySem.IsL.update e f;rw[h]at q;refine I.write (x:=l) (e:=l) (by rw[j];exact trivial) (.inl rfl) (λm u i g=>(XV s.heap (Obj.mapSeq f)<|Ne.symm i).trans g) ⟨_,q⟩ ?_;exact⟨hz,its',_,b,q⟩
def Qt.lnew(I:Qt X Xa7 σ H s)(a:QQ ys its)(hz:ys.length<=sizeLine):
 Qt X Xa7 σ (upd H s.heap.objs.size<|.lst ys) { s with heap:=s.heap.push { cls:=.type "list",data:=.seq its.toArray },toks:=t' }:=
 I.laid (λ_ _ q=>Xg _ q) (Xq _) ⟨hz,its,0,a,XB _ rfl⟩
def Qt.fresh(I:Qt X Xa7 σ H s):H s.heap.objs.size=none:=I.hok.fresh (Xq _)
def Qt.lstM(I:Qt X Xa7 σ H s)(b:H l=some (.lst xs)):xs.length<=sizeLine/\∃(a:Qe) (n:Nat),QQ xs a/\xs.length=a.length/\s.heap.get? l=some { cls:=.type "list",data:=.seq a.toArray n }:=by
 obtain⟨z,a,n,r,e⟩:=I.hok l _ b;exact⟨z,a,n,r,r.length,e⟩
def Iz(h:n<=sizeLine):Builtin.List.listTooLong n=false:=by
 unfold Builtin.List.listTooLong;exact XI (by lia)
end
def Yl:V->List V->Hp->VK->Prop:=λx a H Q=>∃l xs y,x=.ref l/\a=[y]/\H l=some (.lst xs)/\xs.length<sizeLine/\Q .non (upd H l<|.lst<|xs++[y])
def VN:MtM X "list.append" Yl:=by
 intro Xa7 s σ H x j v m Q I f g h;obtain⟨l,xs,y,rfl,rfl,b,p,q⟩:=h;cases f;obtain⟨u,rfl,i⟩:=g.one;obtain⟨z,a,n,r,w,e⟩:=I.lstM b;refine call_meets F.slot_list_append ⟨_,e,rfl⟩ F.entry_list_append (F.args_list_append_2 _ _) (PySem.list_append l a.toArray n u<|by rw[Xu];lia) ⟨e,?_⟩;refine⟨.non,_,I.lset (its':=a++[u]) b e (by simp) (r.append<|.cons i .nil) ?_,rfl,q⟩;rw[Xn,List.length_singleton];lia
def D2:R2:=λx y H Q=>∃l b xs a,x=.ref l/\y=.ref b/\H l=some (.lst xs)/\H b=some (.lst a)/\xs.length+a.length<=sizeLine/\∀p,H p=none->Q (.ref p) (upd H p<|.lst<|xs++a)
def Sh:OpR X (binaryOp .Add) D2:=by
 intro Xa7 s σ H x y v u Q I i g h;obtain⟨l,b,xs,C,rfl,rfl,p,w,M,q⟩:=h;cases i;cases g;obtain⟨z,f,n,r,P,e⟩:=I.lstM p;obtain⟨E,a,K,j,m,B⟩:=I.lstM w;refine PySem.P.add_list e B ?_ (by rw[Xu,Xu];lia);have A:f.toArray++a.toArray=(f++a).toArray:=by simp
 rw[A];exact⟨.ref _,_,I.lnew (t':=s.toks) (r.append j)<|by rw[Xn];lia,rfl,q _ I.fresh⟩
def Rm:R2:=λx y H Q=>∃l k xs,x=.ref l/\y=.int k/\H l=some (.lst xs) /\ -(2^63)<=k/\k<2^63/\xs.length*k.toNat<=sizeLine/\
 ∀p,H p=none->Q (.ref p) (upd H p<|.lst (List.replicate k.toNat xs).flatten)
def CP{a:Type}(xs:List a)(k:Nat):(List.replicate k xs).flatten.length=k*xs.length:=by
 induction k with
 |zero=>simp
 |succ k b=>rw[JQ,UO,Xn,b,Nat.succ_mul,Nat.add_comm]
def So:OpR X (binaryOp .Mult) Rm:=by
 intro Xa7 s σ H x y v u Q I K E h;obtain⟨l,k,xs,rfl,rfl,P,W,R,B,q⟩:=h;cases K;obtain⟨t,rfl⟩:=E;obtain⟨z,b,n,r,M,e⟩:=I.lstM P;have i:b.toArray.size*k.toNat<=sizeLine:=by rw[Xu,<- M];exact B
 have p:¬b.toArray.size*k.toNat > (2^63-1)/8:=by
  have:(sizeLine:Nat)<=(2^63-1)/8:=by decide
  lia
 have j:¬(!Builtin.List.listFitsIndex k)=true:=by
  rw[fitsIndex_both W R];exact XG
 have f:¬Builtin.List.listTooLong (b.toArray.size*k.toNat)=true:=by
  rw[Iz i];exact XG
 have g:List.foldl (λA w=>A++w) #[] (List.replicate (if b.toArray.isEmpty=true then 0 else k.toNat) b.toArray)=(List.replicate k.toNat b).flatten.toArray:=by
  have f0:∀m:Nat,List.foldl (λA w=>A++w) #[] (List.replicate m b.toArray)=(List.replicate m b).flatten.toArray:=λm=>by
   have:=TD b m [];rw[BQ]at this;exact this
  rw[f0];cases b with
  |nil=>simp
  |cons a Y=>rw[Xb<|by simp]
 refine wpAny_binaryOp_repeat_ref (T := "list") (U := "int") (by decide) ⟨_,e,rfl⟩ (λC=>typeIs_int C k t) noFill_list_mul F.fills_int_mul F.slot_int_rmul repeat_list F.slot_int_index.lookup
  (call_meets F.slot_int_rmul (typeIs_int s k t) F.entry_int_rmul (F.args_int_rmul_2 _ _) (int___rmul___int_list k t l b.toArray n)
   ⟨e,rfl,⟨_,e,rfl⟩,call_meets F.slot_list_mul ⟨_,e,rfl⟩ F.entry_list_mul (F.args_list_mul_2 _ _) (AutoListH.list___mul___list_int_3 l b.toArray n k t j p f) ⟨e,?_⟩⟩)
 rw[g];exact⟨.ref _,_,I.lnew (t':=s.toks) (r.rep k.toNat)<|by rw[CP,Nat.mul_comm];exact B,rfl,q _ I.fresh⟩
end L2
namespace Att
open PySem PySem.W PySem.Calls PyProof.Rows
def Zhu{P:Params}:∀(ns:Ql) (vs:Qe),WellAll P h vs (ns.map WData.int)->IntsAre vs ns:=by
 intro ns;induction ns with
 |nil=>
  intro vs w;rw[GL]at w;cases w;exact .nil
 |cons n ns f=>
  intro vs w;rw[Xw]at w;cases w with
  |cons a b=>
   cases a;exact .cons _ _ (f _ b)
def OP{l:OpenLaw}(hn:l.most=some n){P:Params}
(b:l.row.toRowW.claim.pre args=true)(m:WellAll P h vals args):
 ∃a vs ns,vals=[Value.ref a]/\args=[WData.list<|ns.map WData.int]/\h.get? a=some { cls:=.type "list",data:=.seq vs.toArray }/\IntsAre vs ns/\ns.length<=n:=by
 have p:WShape.hasAll [] args [.list .int]=true:=(pre_splitW b).1;have s:l.pre.holds [] { args:=args }=true:=(pre_splitW b).2;obtain⟨d,r,rfl,E,C⟩:=hasAllW_cons p;obtain rfl:=hasAllW_nil C;obtain⟨xs,rfl,B⟩:=hasW_list E;obtain⟨ns,rfl⟩:=items_int B;have f:ns.length<=n:=by
  unfold OpenLaw.pre at s;have j:(WTm.not<|.lt (.lit<|.int (n:Int))<|.len<|.arg 0).holds [] { args:=[.list<|ns.map .int] }=true:=by
   have j:=(holds_andW s).1;rw[hn]at j;exact j
  have i:=condW_of j (w_not<|w_lt w_lit<|w_len_list<|w_arg rfl);rw[Xl]at i;refine Nat.le_of_not_lt λq=>?_;have y:(n:Int)<((ns.length:Nat):Int):=by lia
  first
   |(rw[XJ y]at i;exact Xz i<|by decide)
   |(simp at i;lia)
 cases m with
 |cons w v=>
  cases v;cases w with
  |list A g=>exact⟨_,_,ns,rfl,rfl,A,Zhu ns _ g,f⟩
def O4(l:OpenLaw)(args:List WData):l.row.toRowW.claim.post args (.bool true) args=true:=
 postW_of (r:=l.row.toRowW) (X:=(true==true))
  (show WShape.has [] (.bool true) .bool=true by first|rfl|decide|simp[WShape.has,WShape.arms,WShape.armsAll])
  (show(WTm.eq .res<|.lit<|.bool true).value [] { args:=args,res:=some (.bool true),after:=args }=some (.bool<|true==true) from w_eq_bool (w_res rfl) w_lit) rfl
end Att
namespace L2
theorem TB:∀{vs:Qe} {ns:Ql},IntsAre vs ns->QQ (ns.map V.int) vs
 |_,_,.nil=>.nil
 |_,_,.cons n t h=>.cons ⟨t,rfl⟩ (TB h)
def LV(H:Hp):Prop := ∀b,H b=none\/∃o xs,H b=some (.frz o<|.lst xs)
abbrev KOf{K:W.Frag}{h:Heap}(_:K.In h):W.Frag:=K
def VG(s:Stmt)(j:Nat):Stmt:=match s with
 |.ClassDef _ _ _ a _ _ _ _ _ _ _=>a.getD j (.Pass ⟨0,0,0,0⟩)
 |_=>.Pass ⟨0,0,0,0⟩
noncomputable def YH(s:Stmt):Arguments:=match s with
 |.FunctionDef _ a _ _ _ _ _ _ _ _=>a
 |_=>{ posonlyargs:=[],args:=[],vararg:=none,kwonlyargs:=[],kw_defaults:=[],kwarg:=none,defaults:=[] }
def ZB(s:Stmt):List Stmt:=match s with
 |.FunctionDef _ _ b _ _ _ _ _ _ _=>b
 |_=>[]
def Q4(s:Stmt):Scope:=match s with
 |.FunctionDef _ _ _ _ _ _ a _ _ _=>a
 |_=>{ kind:=.function,names:=[],isGenerator:=false,isCoroutine:=false }
abbrev CX0:CXT:=λ_ _ _ _ _ _=>False
abbrev E0:XK:=λ_ _ _=>False
def Uk:Yj CX0 X E0:=λ_ _ _ _ _ _ _ h=>h.elim
structure Fun(K:W.Frag)(x qual:Str)(st:Stmt)(f:Addr)(fd:FuncData):Prop where
 ex:∃(oc:Value) (od:Qj) (kV doc pm:Value) (an:Qj) (cdv ct:Value) (osl:Array (Qf)),
  fd=W.fnOf x qual (YH st) (ZB st) (Q4 st) .none kV doc pm an cdv ct/\K.lookup f=some ⟨oc,od,.func fd,osl⟩/\W.codeIn K cdv qual=true
 kp:W.keepIn K (.ref f)=true
section
variable {base:Heap}
def Fun.ok{x:Str}{st:Stmt}{f:Addr}{N:Qh}{k:Nat}{b:Sp}(F:Fun K x qual st f fd)(S:Qp N ps (Q4 st))(g:∀vs H Q E,b vs H Q E->vs.length=ps.length)
(m:∀(a:Value) (A:Around) (outer:List Env) (s:Shared) (H:Hp) (vs:List V) (Q:VK) (E:XK),Room k (A.deeper<|envOfC qual (Q4 st) s.heap.objs.size f a)->b vs H Q E->
  ∃t,PSs (Vq CX0 P w K mg base N qual (Q4 st) f a A outer s H E).nox (ZB st) t/\t { nx:=λ_ y=>Q .non y,rt:=Q } (start N vs) H):FnOk P w K mg base CX0 (k+1) f fd ps b:=by
 obtain⟨M,C,kV,v,B,W,a,R,n,rfl,p,j⟩:=F.ex;refine RE p j S g λA outer s H vs Q E r i=>?_;obtain⟨t,h,q⟩:=m a A outer s H vs Q E r i
 exact⟨t,h.nox,q⟩
def Fun.binds{x:Str}{st:Stmt}{f:Addr}(F:Fun K x qual st f fd)
(h:∀(kV a g:Value) (j:Qj) (b i:Value) (us:Qe),us.length=ps.length->bindArgs (W.fnOf x qual (YH st) (ZB st) (Q4 st) .none kV a g j b i) ⟨us,[]⟩=pure (ps.zip us)):Vw K fd ps []:=by
 obtain⟨r,p,kV,a,g,j,b,i,m,rfl,s,n⟩:=F.ex;exact .all (h kV a g j b i)
def Jw{x:Str}{st:Stmt}{f:Addr}{m:Value}{od j:Qj}{g:Array (Qf)}{kV b h a i:Value}(l:K.lookup f=some ⟨m,od,.func<|W.fnOf x qual (YH st) (ZB st) (Q4 st) .none kV b h j a i,g⟩)
(c:W.codeIn K a qual=true)(k:W.keepIn K (.ref f)=true):Fun K x qual st f (W.fnOf x qual (YH st) (ZB st) (Q4 st) .none kV b h j a i):=⟨⟨m,od,kV,b,h,j,a,i,g,rfl,l,c⟩,k⟩
end
def Yz(a:Room k A):A.units+1<cLine:=Du (Nat.add_le_add_left (by decide:1<=64) _) a.units
def Vp(h:n<=1000):n<sizeLine:=Du h (by decide)
def pv(i:Nat)  (g:X.N[i]?=some x:=by rfl)(b:Vis X.env.scope x:=by first|exact Or.inl rfl|exact Or.inr Qa|exact Or.inr<|Or.inr rfl)(f:(x==("__debug__" : Str))=false:=by decide)
(a:(x==("__classdict__" : Str))=false:=by decide):PE X (.Name x pos) (Q5 i):=Sr g b f a
def Q7(H a:Hp):Prop := ∀b o,H b=some o->a b=some o
def Q7.refl(H:Hp):Q7 H H:=λ_ _ h=>h
def Q7.trans(a:Q7 H H1)(b:Q7 H1 H2):Q7 H H2:=λc o h=>b c o (a c o h)
def Q7.free(e:Q7 H H')(h:H' l=Option.none):H l=Option.none:=by
 cases q:H l with
 |none=>rfl
 |some o=>
  rw[e l o q]at h;cases h
def Q7.seq(e:Q7 H H')(h:SqL K H a xs):SqL K H' a xs:=by
 rcases h with (h|⟨o,h⟩)|h
 .exact .inl (.inl<|e _ _ h)
 .exact .inl (.inr ⟨o,e _ _ h⟩)
 .exact .inr h
theorem KD{env:Env}{F:Str×NameKind->List (Str×Addr)->Sem (ForInStep<|List<|Str×Addr)}
(y:∀n c a,env.cells.lookup n=some c->F (n,NameKind.free) a=pure (.yield ((n,c)::a)))
(w:∀n k a,k≠NameKind.free->F (n,k) a=pure (.yield a)):
 ∀(l:List (Str×NameKind)) (a:List (Str×Addr)),(∀p∈l,p.2=NameKind.free->∃c,env.cells.lookup p.1=some c)->(∀x c,a.lookup x=some c->env.cells.lookup x=some c)->
  ∃f,forIn l a F=pure f/\(∀x c,f.lookup x=some c->env.cells.lookup x=some c)/\(∀x c,a.lookup x=some c->∃R,f.lookup x=some R)/\∀p∈l,p.2=NameKind.free->∃c,f.lookup p.1=some c
 |[],a,_,m=>⟨a,by rw[List.forIn_nil],m,λx c h=>⟨c,h⟩,λp b=>Xz b<|by simp⟩
 |(n,k)::l,a,K,m=>by
  have i:∀p∈l,p.2=NameKind.free->∃c,env.cells.lookup p.1=some c:=λp b=>K p (Xi _ b)
  by_cases s:k=NameKind.free
  .subst s;obtain⟨c,e⟩:=K (n,NameKind.free) Xc rfl;have v:∀x d,((n,c)::a).lookup x=some d->env.cells.lookup x=some d:=λx d q=>by
    cases g:x==n with
    |true=>
     simp only[XM,g]at q;cases q;rw[eq_of_beq g];exact e
    |false=>
     simp only[XM,g]at q;exact m x d q
   obtain⟨f,E,C,r,B⟩:=KD y w l ((n,c)::a) i v;have M:∀x d,a.lookup x=some d->∃A,((n,c)::a).lookup x=some A:=λx d q=>by
    cases g:x==n with
    |true=>exact⟨c,by simp only[XM,g]⟩
    |false=>exact⟨d,by simp only[XM,g];exact q⟩
   refine⟨f,by rw[List.forIn_cons,y n c a e,pure_bind];exact E,C,λx d q=>?_,λp b j=>?_⟩
   .obtain⟨A,P⟩:=M x d q;exact r x A P
   .rcases Xe.mp b with rfl|b
    .exact r n c (by simp only[XM,beq_self_eq_true])
    .exact B p b j
  .obtain⟨f,E,C,r,B⟩:=KD y w l a i m;refine⟨f,by rw[List.forIn_cons,w n k a s,pure_bind];exact E,C,r,λp b j=>?_⟩;rcases Xe.mp b with rfl|b
   .exact Xz j s
   .exact B p b j
def Ly(h:∀p∈scope.names,p.2=NameKind.free->∃c,env.cells.lookup p.1=some c):
 ∃b,closureFor scope env=pure b/\(∀x c,b.lookup x=some c->env.cells.lookup x=some c)/\∀p∈scope.names,p.2=NameKind.free->∃c,b.lookup p.1=some c:=by
 simp only[closureFor];obtain⟨b,f,s,_,m⟩:=KD (env:=env) (F:=λx r=>match x with|(name,kind)=>if (kind==NameKind.free)=true then do let a <- cellOf env name;pure (ForInStep.yield ((name,a)::r)) else pure<|ForInStep.yield r)
  (λn c j e=>by
   show(if (NameKind.free==NameKind.free)=true then _ else _)=_
   rw[Xd (show(NameKind.free==NameKind.free)=true from rfl)];unfold cellOf;rw[e];rfl)
  (λn k j i=>by
   have:(k==NameKind.free)=false:=by simpa using i
   show(if (k==NameKind.free)=true then _ else _)=_
   rw[this,Xb XG]) scope.names [] h (λx c q=>by simp at q)
 refine⟨b,?_,s,m⟩
 first
  |exact f
  |(rw[bind_pure];exact f)
  |(simp only[bind_pure]at *;exact f)
  |(rw[show(g scope.names ([]:List (Str×Addr)) _ >>= λr=>pure r)=_ from bind_pure _];exact f)
theorem LI{env:Env}:∀{a:List (Str×NameKind)} {x:Str},a.lookup x=some .free->
 (a.map λ(n,k)=>if (k==NameKind.free&&env.scope.kind==.function&&env.kindOf n==some .cell) then (n,NameKind.cell) else (n,k)).lookup x=some .cell \/
 (a.map λ(n,k)=>if (k==NameKind.free&&env.scope.kind==.function&&env.kindOf n==some .cell) then (n,NameKind.cell) else (n,k)).lookup x=some .free
 |[],_,h=>by simp at h
 |(n,k)::r,x,h=>by
  have g:=@LI env r x;show List.lookup x ((if (k==NameKind.free&&env.scope.kind==.function&&env.kindOf n==some .cell)=true then (n,NameKind.cell) else (n,k))::_)=_\/List.lookup x ((if (k==NameKind.free&&env.scope.kind==.function&&env.kindOf n==some .cell)=true then (n,NameKind.cell) else (n,k))::_)=_
  cases b:x==n with
  |true=>
   simp only[XM,b]at h;cases h
   by_cases f:(NameKind.free==NameKind.free&&env.scope.kind==.function&&env.kindOf n==some .cell)=true
   .rw[Xd f];left;simp only[XM,b]
   .rw[Xb f];right;simp only[XM,b]
  |false=>
   simp only[XM,b]at h;by_cases f:(k==NameKind.free&&env.scope.kind==.function&&env.kindOf n==some .cell)=true
   .rw[Xd f];simp only[XM,b];exact g h
   .rw[Xb f];simp only[XM,b];exact g h
theorem LG{env:Env}:∀{a:List (Str×NameKind)} {x:Str},((a.map λ(n,k)=>if (k==NameKind.free&&env.scope.kind==.function&&env.kindOf n==some .cell) then (n,NameKind.cell) else (n,k)).lookup x=some .cell \/
 (a.map λ(n,k)=>if (k==NameKind.free&&env.scope.kind==.function&&env.kindOf n==some .cell) then (n,NameKind.cell) else (n,k)).lookup x=some .free)->a.lookup x=some .free\/a.lookup x=some .cell
 |[],_,h=>by simp at h
 |(n,k)::r,x,h=>by
  have g:=@LG env r x;have h:List.lookup x ((if (k==NameKind.free&&env.scope.kind==.function&&env.kindOf n==some .cell)=true then (n,NameKind.cell) else (n,k))::_)=_\/List.lookup x ((if (k==NameKind.free&&env.scope.kind==.function&&env.kindOf n==some .cell)=true then (n,NameKind.cell) else (n,k))::_)=_:=h;cases f:x==n with
  |true=>
   simp only[XM,f];by_cases b:(k==NameKind.free&&env.scope.kind==.function&&env.kindOf n==some .cell)=true
   .have:k=NameKind.free:=by
     rw[Wb,Wb]at b;exact eq_of_beq b.1.1
    left;rw[this]
   .rw[Xb b]at h;simp only[XM,f]at h;exact h.symm
  |false=>
   simp only[XM,f];by_cases b:(k==NameKind.free&&env.scope.kind==.function&&env.kindOf n==some .cell)=true
   .rw[Xd b]at h;simp only[XM,f]at h;exact g h
   .rw[Xb b]at h;simp only[XM,f]at h;exact g h
structure CIn where
 cl:List (Str×Addr)
 C:Addr
 s₀:Shared
 H₀:Hp
 ex:Qg
 pn:Qc
noncomputable def ZY(X:Cx)(N:Qh)(scope:Scope)(c:CIn):Cx where
 prog:=X.prog
 w:=X.w
 K:=X.K
 mg:=X.mg
 base:=X.base
 A:=X.A
 N:=N
 s₀:=c.s₀
 H₀:=c.H₀
 env:=compEnvC scope c.cl c.C X.env
 outer:=X.stack
 stack:=X.stack
 ex:=c.ex
 fn:=λ_=>false
 calm:=X.calm
 pn:=c.pn
 xe:=λ_ _=>False
def Yu(f:List (Option Nat))(σ:St):St:=f.map λo=>match o with|some i=>(σ[i]?).join|none=>none
structure CompOk(NX:Qh)(sc:Scope)(N:Qh)(f:List (Option Nat))(scope:Scope):Prop where
 kind:scope.kind=.function
 nocell:∀y∈scope.names,y.2≠NameKind.cell
 names:∀y∈scope.names,y.2=NameKind.local->scope.names.lookup y.1=some .local
 free:∀y∈scope.names,y.2=NameKind.free->sc.names.lookup y.1=some .cell\/sc.names.lookup y.1=some .free
 len:f.length=N.length
 ix:∀(j i:Nat),f[j]?=some (some i)->∃x,N[j]?=some x/\NX[i]?=some x/\scope.names.lookup x=some .free
noncomputable def Gy(NX:Qh)(sc:Scope)(N:Qh)(f:List (Option Nat))(scope:Scope):Bool:=
 decide (scope.kind=.function)&&(scope.names.all λy=>decide (y.2≠NameKind.cell)&&(decide (y.2≠NameKind.local)||decide (scope.names.lookup y.1=some .local)) &&
  (decide (y.2≠NameKind.free)||decide (sc.names.lookup y.1=some .cell)||decide (sc.names.lookup y.1=some .free)))&&decide (f.length=N.length) &&
 (List.range f.length).all λj=>match f[j]? with
  | some (some i)=>(match N[j]? with
    |some x=>decide (NX[i]?=some x)&&decide (scope.names.lookup x=some .free)
    |none=>false)
  |_=>true
def Ty{f:List (Option Nat)}(h:Gy NX sc N f scope=true):CompOk NX sc N f scope:=by
 unfold Gy at h;simp only[Wb,List.all_eq_true,decide_eq_true_eq,Bool.or_eq_true]at h;obtain⟨⟨⟨r,b⟩,p⟩,n⟩:=h;refine⟨r,λy a=>(b y a).1.1,λy a e=>?_,λy a e=>?_,p,λj i e=>?_⟩
 .rcases(b y a).1.2 with z|z
  .exact Xz e z
  .exact z
 .rcases(b y a).2 with (z|z)|z
  .exact Xz e z
  .exact .inl z
  .exact .inr z
 .have m:j<f.length:=(Xf.mp e).1;have q:=n j (XH.mpr m);rw[e]at q;cases g:N[j]? with
  |none=>rw[g]at q;simp at q
  |some x=>
   rw[g]at q;simp only[Wb,decide_eq_true_eq]at q;exact⟨x,rfl,q.1,q.2⟩
def Ru(f:List (Option Nat))(σ a:St):Prop:=a.length=σ.length/\∀(i j:Nat),f[i]?=some (some j)->a[i]?=σ[i]?
structure TgOk(f:List (Option Nat))(g:TG):Prop where
 keep:∀x σ H Q,g x σ H Q->g x σ H λσ2 H2=>Ru f σ σ2/\Q σ2 H2
 mono:∀x σ H Q Q',(∀σ H,Q σ H->Q' σ H)->g x σ H Q->g x σ H Q'
structure TgsOk(f:List (Option Nat))(g:TGs):Prop where
 keep:∀xs σ H Q,g xs σ H Q->g xs σ H λσ2 H2=>Ru f σ σ2/\Q σ2 H2
 mono:∀xs σ H Q Q',(∀σ H,Q σ H->Q' σ H)->g xs σ H Q->g xs σ H Q'
theorem Ym{f:List (Option Nat)}(h:f[j]?=some none:=by rfl):TgOk f (Vb j) where
 keep:=λx σ H Q q=>⟨⟨JU ..,λi k e=>Xt<|by rintro rfl;rw[h]at e;cases e⟩,q⟩
 mono:=λx σ H Q a m q=>m _ _ q
theorem Pl{f:List (Option Nat)}:TgsOk f DJ where
 keep:=by rintro xs σ H Q ⟨e,q⟩;exact⟨e,⟨rfl,λ_ _ _=>rfl⟩,q⟩
 mono:=by rintro xs σ H Q a m ⟨e,q⟩;exact⟨e,m _ _ q⟩
theorem M8{f:List (Option Nat)}(g:TgOk f t)(b:TgsOk f u):TgsOk f (DN t u) where
 keep:=by rintro xs σ H Q ⟨v,r,e,q⟩;exact⟨v,r,e,g.mono _ _ _ _ _ (λa p z=>b.mono _ _ _ _ _ (λn w y=>⟨⟨y.1.1.trans z.1.1,λi j h=>(y.1.2 i j h).trans (z.1.2 i j h)⟩,y.2⟩)<|b.keep _ _ _ _ z.2)<|g.keep _ _ _ _ q⟩
 mono:=by rintro xs σ H Q s m ⟨v,r,e,q⟩;exact⟨v,r,e,g.mono _ _ _ _ _ (λa p z=>b.mono _ _ _ _ _ m z) q⟩
theorem SA{f:List (Option Nat)}(h:TgsOk f t):TgOk f (D4 K n t) where
 keep:=by rintro x σ H Q ⟨a,xs,e,q,l,z⟩;exact⟨a,xs,e,q,l,h.keep _ _ _ _ z⟩
 mono:=by rintro x σ H Q b m ⟨a,xs,e,q,l,z⟩;exact⟨a,xs,e,q,l,h.mono _ _ _ _ _ m z⟩
def PCs(X:Cx)(a:Qi)(tc:TT):Prop:=
 ∀(Xa7:Qc) (s:Shared) (σ:St) (H:Hp) (Q:Bool->Hp->Prop),Qt X Xa7 σ H s->tc σ H Q->
  wpAny (model X.prog X.w) X.A (forIn a true λc r=>if r=true then do let b <- isTrue c X.env (eval c X.env);pure (ForInStep.yield b) else pure<|ForInStep.yield r) (TP X Xa7 σ Q) X.xe s
def Ua:TT:=λ_ H Q=>Q true H
def J1:PCs X [] Ua:=λ_ _ _ H _ I h=>wpAny_tests_nil ⟨H,I,h⟩
def G2{tc:TT}(h:PT X c tc):PCs X [c] tc:=λXa7 s σ H Q I q=>wpAny_tests_one (h Xa7 s σ H Q I q)
def Zjm{R:Result->Shared->Prop}(I:Nat->Shared->Prop)
(f:∀n s,I n s->wpAny (model prog w) A (pyNext it) (λr j=>match r with
  |none=>R (.ok .next) j
  | some v=>wpAny (model prog w) A (letOwnedTupleGo target it v) (λ_ a=>wpAny (model prog w) A (assign target env v) (λ_ E=>
   wpAny (model prog w) A (forIn ifs true λc r=>if r=true then do let g <- isTrue c env (eval c env);pure (ForInStep.yield g) else pure<|ForInStep.yield r) (λg i=>
    if g=true then wpAny (model prog w) A (eval elt env) (λx B=>
     wpAny (model prog w) A (call (.builtin "list.append") [acc,x]) (λ_ p => ∃m,m<n/\I m p) (λ_ _=>False) B) (λ_ _=>False) i
    else ∃m,m<n/\I m i) (λ_ _=>False) E) (λ_ _=>False) a) (λ_ _=>False) j) (λ_ _=>False) s)
(n:Nat)(h:I n s):
 codeAny (model prog w) A (.compLoop (.ListComp elt [⟨target,iter,ifs,0⟩] scope pos) 0 it acc env) R s:=by
 refine codeAny_loop rfl I (λn s K=>?_) n h;show wpAny _ A ((compTurn (.ListComp elt [⟨target,iter,ifs,0⟩] scope pos) 0 it acc env).onRaise (λx=>do noteFrame x env;theTreesLotGoes x)) _ _ s;refine wpAny_noted ?_;rw[compTurn_list];refine Xa (wpAny_standAt<|Xa<|wpAny_mono (f n s K) (λr j C=>?_) λ_ _ h'=>h'.elim)
 cases r with
 |none=>exact Xj C
 |some v=>
  refine Xa (wpAny_mono C (λ_ a b=>?_) λ_ _ h'=>h'.elim);refine Xa (wpAny_mono b (λ_ E W=>Xa<|wpAny_mono W (λg i y=>?_) λ_ _ h'=>h'.elim) λ_ _ h'=>h'.elim);cases g with
  |false=>exact Xj ⟨rfl,y⟩
  |true=>
   exact Xa (Xa<|wpAny_mono y (λx B P=>Xa<|wpAny_mono P (λ_ p M=>Xj<|Xj ⟨rfl,M⟩) λ_ _ h'=>h'.elim) λ_ _ h'=>h'.elim)
theorem Qt.track(I:Qt X Xa7 σ H s)(hn:H a=none)(h0:X.s₀.heap.objs.size<=a)(v:a≠X.env.locals)(w:∀x c,X.env.cells.lookup x=some c->c≠a)
(m:∀p∈X.pn++Xa7,p.1≠a)(new:Z6 X.prog X.w (upd H a o) s.heap a o):Qt X Xa7 σ (upd H a o) s where
 ok:=I.ok
 os:=I.os
 bare:=I.bare
 base:=
  { keep:=I.base.keep
    slot:=I.base.slot
    free:=λb i q n j=>by rw[Qu<|Xr<|Xp (Xk q) h0];exact I.base.free b i q n j
    there:=I.base.there
    tups:=λb xs q=>by have z:=I.base.tups b xs q;rw[Qu<|Z0 z hn];exact z
    tupo:=I.base.tupo
    frzs:=λb u xs q=>by have z:=I.base.frzs b u xs q;rw[Qu<|Z0 z hn];exact z
    tbls:=λb ps q=>by obtain⟨f,z⟩:=I.base.tbls b ps q;exact⟨f,by rw[Qu<|Z0 z hn];exact z⟩ }
 loc:=I.loc
 cell:=I.cell
 free:=by rw[Qu v.symm];exact I.free
 freeC:=λx c e=>by rw[Qu<|w x c e];exact I.freeC x c e
 pin:=λp g=>by obtain⟨e,n,r⟩:=I.pin p g;exact⟨e,by rw[Qu<|m p g];exact n,r⟩
 hok:=λb u e=>by
  by_cases h:b=a
  .subst h;rw[QG]at e;cases e;exact new
  .rw[Qu h]at e;exact(I.hok b u e).stay (λ_ _ _ q=>q) (λc q=>by rw[Qu<|Z0 q hn];exact q) λc xs q=>by rw[Qu<|Z0 q hn];exact q
 len:=I.len
def LCw(f:List (Option Nat))(g:TG)(tc:TT)(te:TE)(σ:St)(J:It)(Q:VK)(v:Hp):Prop:=
 ∃W:Nat->Nat->List V->Hp->Prop,(∃m,W 0 m [] v)/\∀i m ys H,W i m ys H->
  (J.stop i H/\∀p,H p=none->Q (.ref p) (upd H p<|.lst ys)) \/
  (J.go i H/\∀x n,J.yld i H x n->g x (Yu f σ) n λa s=>tc a s λb j=>
   if b=true then te a j λy r=>ys.length<sizeLine/\∃h,h<m/\W (i+1) h (ys++[y]) r
   else ∃h,h<m/\W (i+1) h ys j)
def tLC(f:List (Option Nat))(wi:TI)(g:CIn->TG)(tc:CIn->TT)(te:CIn->TE):TE:=λσ H Q=>wi σ H λJ a=>∀c:CIn,LCw f (g c) (tc c) (te c) σ J Q a
abbrev YM(its:Qe)(k:Nat):Obj:={ cls:=.type "list",data:=.seq its.toArray k }
structure TurnX(X:Cx)(tg:Expr)(J:It)(fp:Qg)(it:Addr)(tn:Nat->Heap->Prop):Prop where
 mem:it∈fp
 obj:∀i h,tn i h->∀b∈fp,∃o,h.get? b=some o/\∀v,o.data≠.cell v
 keep:∀i h h',tn i h->(∀b∈fp,∀o,h.get? b=some o->h'.get? b=some o)->tn i h'
 item:∀(X':Cx),X'.prog=X.prog->X'.w=X.w->X'.K=X.K->X'.A=X.A->X'.calm=X.calm->∀(i:Nat) (Xa7:Qc) (s:Shared) (σ:St) (H:Hp) (E:Qb),Qt X' Xa7 σ H s->(∀b∈fp,Y7 X' Xa7 H b)->tn i s.heap->J.go i H->
  wpAny (model X.prog X.w) X'.A (pyNext<|.ref it) (λr s1=>∃u,r=some u/\
   wpAny (model X.prog X.w) X'.A (letOwnedTupleGo tg (.ref it) u) (λ_ s2=>∃x H',Qt X' Xa7 σ H' s2/\QN x u/\J.yld i H x H'/\tn (i+1) s2.heap/\∀b∈fp,H' b=none) E s1) E s
 done:∀(X':Cx),X'.prog=X.prog->X'.w=X.w->X'.K=X.K->X'.A=X.A->X'.calm=X.calm->∀(i:Nat) (Xa7:Qc) (s:Shared) (σ:St) (H:Hp) (E:Qb),Qt X' Xa7 σ H s->(∀b∈fp,Y7 X' Xa7 H b)->tn i s.heap->J.stop i H->
  wpAny (model X.prog X.w) X'.A (pyNext<|.ref it) (λr s1=>r=none/\Qt X' Xa7 σ H s1) E s
 self:∀(A:Around) (i:Nat) (s:Shared) (Q:Qb) (E:Qb),tn i s.heap->Q (.ref it) s->wpAny (model X.prog X.w) A (pyIter<|.ref it) Q E s
def Rf(X:Cx)(Xa7:Qc)(σ:St)(tg:Expr)(R:It->Hp->Prop)(a:Value)(h:Shared):Prop:=
 ∃(i:Addr) (j:Qg) (g:Nat->Heap->Prop) (J:It) (f:Hp),a=.ref i/\Qt X Xa7 σ f h/\TurnX X tg J j i g/\g 0 h.heap/\(∀b∈j,Y7 X Xa7 f b)/\R J f
def PIH(X:Cx)(tg iter:Expr)(wi:TI):Prop:=
 ∀(Xa7:Qc) (s:Shared) (σ:St) (H:Hp) (R:It->Hp->Prop),Qt X Xa7 σ H s->wi σ H R->
  wpAny (model X.prog X.w) X.A (eval iter X.env) (λv a=>wpAny (model X.prog X.w) X.A (pyIter v) (Rf X Xa7 σ tg R) X.xe a) X.xe s
def Turn.x(T:Turn X.prog X.w X.K tg J fp it tn)(i:X.calm=true):TurnX X tg J fp it tn:=
 ⟨T.mem,T.obj,T.keep,λg b a f _ h=>T.item g b a f<|h.trans i,λg b a f _ h=>T.done g b a f<|h.trans i,T.self⟩
def PI.x(h:PI X tg iter wi)(f:X.calm=true):PIH X tg iter wi:=λXa7 s σ H R I q=>QB (h Xa7 s σ H R I q) λv p g=>QB g<|by rintro v n ⟨b,i,a,J,m,e,j,T,r⟩;exact⟨b,i,a,J,m,e,j,T.x f,r⟩
section
variable {H2:Hp}{b7:Shared}
def SX{f:List (Option Nat)}{g:CIn->TG}{tc:CIn->TT}{te:CIn->TE}
(ck:CompOk X.N X.env.scope N f scope)
(hg:∀c,PG (ZY X N scope c) tg<|g c)(ht:∀c,TgOk f<|g c)(hcs:∀c,PCs (ZY X N scope c) ifs<|tc c)(he:∀c,PE (ZY X N scope c) elt<|te c)
(Y:Qt X Xa7 σ H2 b7)(T:TurnX X tg J fp it tn)(st:tn 0 b7.heap)(I:∀b∈fp,Y7 X Xa7 H2 b)
(hq:∀c:CIn,LCw f (g c) (tc c) (te c) σ J Q H2)
(A:∀x c,cl.lookup x=some c->X.env.cells.lookup x=some c)(hcl2:∀p∈scope.names,p.2=NameKind.free->∃c,cl.lookup p.1=some c)
{RR:Value->Addr->Result->Shared->Prop}
(hRR:∀(G C:Addr) (P:Hp) (H:Shared) (m':Str->Qf),H.heap.Ns C m'->Qt X Xa7 σ P H->P C=none->C≠X.env.locals->X.s₀.heap.objs.size<=C->(∀x c,X.env.cells.lookup x=some c->c≠C)->
  (∀p∈X.pn++Xa7,p.1≠C)->Q (.ref G) P->RR (.ref G) C (.ok .next) H):
 wpAny (model X.prog X.w) X.A (newList []) (λG B=>wpAny (model X.prog X.w) X.A (newFunctionEnv scope X.env.globals cl [] X.env.qual none .none<|some X.env) (λcenv bw=>
  codeAny (model X.prog X.w) X.A (.compStart (.ListComp elt [⟨tg,iter,ifs,0⟩] scope pos) 0 (.ref it) G { cenv with scope:=relabel scope X.env }) (RR G cenv.locals) bw) E B) E b7:=by
 refine wpAny_newObj_type (wpAny_newFunctionEnv ck.nocell (by intro y hy;simp at hy) (λb8 c5 c6=>?_) ck.kind);dsimp only at c5 c6 ⊢;have m:Qt X Xa7 σ H2 { b7 with heap:=b7.heap.push (YM [] 0) }:=Y.kept (t':=b7.toks) λb u e=>Xg _ e;have hD:(b7.heap.push<|YM [] 0).get? b7.heap.objs.size=some (YM [] 0):=XB _ rfl;generalize hs3:({ b7 with heap:=b7.heap.push (YM [] 0) }:Shared)=B at m c5 c6 ⊢;have S:b7.heap.push (YM [] 0)=B.heap:=by rw[<- hs3]
 have hp3':b7.heap.push { cls:=.type "list",dict:=none,data:=.seq ([]:Qe).toArray }=B.heap:=S;rw[S]at hD;simp only[hp3']at c5 c6 ⊢;have L:b7.heap.objs.size<B.heap.objs.size:=by rw[<- S,WI];exact Jj _
 have k3:∀b u,b7.heap.get? b=some u->B.heap.get? b=some u:=λb u e=>by rw[<- S];exact Xg _ e
 have k1:∀b u,B.heap.get? b=some u->b8.get? b=some u:=λb u e=>
  c6.extBut b u (Xr<|Xk e) (Xg _ e)
 have fpo:∀b∈fp,b<b7.heap.objs.size:=λb a=>by
  obtain⟨o,e,_⟩:=T.obj 0 _ st b a;exact Xk e
 have st1:tn 0 b8:=T.keep _ _ _ st λb a o e=>k1 b o (k3 b o e);have fneC:∀b∈fp,b≠B.heap.objs.size:=λb a=>Xr (Nat.lt_trans (fpo b a) L);have fneD:∀b∈fp,b≠b7.heap.objs.size:=λb a=>Xr (fpo b a)
 have D:∀x d,X.env.cells.lookup x=some d->d≠b7.heap.objs.size:=λx d e=>by
  obtain⟨v,z⟩:=Y.cell x d e;exact Xr z.lt
 have l:∀p∈X.pn++Xa7,p.1≠b7.heap.objs.size:=λp R=>Xr (Xk (Y.pin p R).1);have freeD:H2 b7.heap.objs.size=none:=Y.fresh
 have stk:∀b,b≠X.env.locals->b∉X.fs->b∉frs X.stack:=λb h1 h2 a=>by
  rcases Xe.mp (m.stkSub b a) with z|z
  .exact h1 z
  .exact h2 z
 have U:∀b,b∈b7.heap.objs.size::fp->b=b7.heap.objs.size\/b∈fp:=λb a=>Xe.mp a
 let c:CIn:=⟨cl,B.heap.objs.size,B,H2,b7.heap.objs.size::fp,X.pn++Xa7⟩
 have t:(ZY X N scope c).Ok:=
  { mod:=m.ok.mod
    kind:=ck.kind
    glob:=m.ok.glob
    blt:=m.ok.blt
    above:=Xq _
    inj:=λx y d h1 h2=>m.ok.inj x y d (A x d h1) (A y d h2)
    has:=λx hx=>by
     rcases LG hx with z|z
     .exact hcl2 (x,.free) (PySem.mem_of_lookup z) rfl
     .exact Xz rfl (ck.nocell (x,.cell)<|PySem.mem_of_lookup z)
    cab:=λx d h=>Xz (show false=true from h) XG
    hd:=m.ok.hd
    frames:=m.ok.frames
    stk:=.inl rfl
    exf:=λb a=>by
     rcases U b a with rfl|a
     .exact⟨Xr L,λx d e=>D x d<|A x d e⟩
     .exact⟨fneC b a,λx d e=>(I b a).2.2.2.2.1 x d (A x d e)⟩
    bs:=λb o e=>m.bs b o e
    bsz:=X0 m.ok.bsz m.sz
    noex:=λb o e a=>by
     rcases U b a with rfl|a
     .exact Xz (Xk<|Y.bk _ _ e) (Y5 _)
     .rcases(I b a).2.2.2.1 with z|z
      .exact m.ok.noex b o e z
      .exact Xz (Xp (Xk (m.ok.bs b o e).1) z) (Y5 _)
    exfs:=λb a=>by
     rcases U b a with rfl|a
     .exact stk _ (Yo Y.lt) (Y.nofs<|Xq _)
     .exact stk b (I b a).2.1 (I b a).2.2.1
    funs:=m.stack
    frf:=m.stkFree }
 have I4:Qt (ZY X N scope c) [(b7.heap.objs.size,YM [] 0)] (Yu f σ) H2 { B with heap:=b8,toks:=B.toks+([]:List (Str×Value)).length }:=
  { ok:=t
    os:=rfl
    bare:=m.bare
    base:=Un.kept k1
    loc:=⟨_,c5,λi x v e1 e2 e3=>by
     have hfi:∃j,f[i]?=some (some j)/\σ[j]?=some (some v):=by
      unfold Yu at e2;rw[Xs]at e2;cases ef:f[i]? with
      |none=>rw[ef]at e2;cases e2
      |some o=>
        rw[ef]at e2;cases o with
        |none=>cases e2
        |some j=>
          refine⟨j,rfl,?_⟩;have Z:(σ[j]?).join=some v:=Option.some.inj e2;cases es:σ[j]? with
          |none=>rw[es]at Z;cases Z
          |some o2=>
            rw[es]at Z;have:o2=some v:=Z;rw[this]
     obtain⟨j,ef,es⟩:=hfi;obtain⟨x',n1,n2,n3⟩:=ck.ix i j ef;have:x'=x:=Option.some.inj (n1.symm.trans e1);subst this;have hfr:=ck.free (x',.free) (PySem.mem_of_lookup n3) rfl;obtain⟨m0,hm0,hl0⟩:=m.loc;obtain⟨u,ru,lk⟩:=hl0 j x' v n2 es (hfr.elim (λz=>.inr<|.inl z) λz=>.inr<|.inr z);refine⟨u,ru,.inr ⟨LI n3,?_⟩⟩;rcases lk with ⟨kl,_⟩|⟨_,d,ed,hd⟩
     .have kl':X.env.scope.names.lookup x'=some .local:=kl;rcases hfr with z|z
      .rw[kl']at z;cases z
      .rw[kl']at z;cases z
     .obtain⟨d',ed'⟩:=hcl2 (x',.free) (PySem.mem_of_lookup n3) rfl;have:d'=d:=Option.some.inj ((A x' d' ed').symm.trans ed);subst this;exact⟨d',ed',hd.keeps k1⟩⟩
    cell:=λx d e=>by
     obtain⟨v,z⟩:=m.cell x d (A x d e);exact⟨v,z.keeps k1⟩
    free:=m.fresh
    freeC:=λx d e=>m.freeC x d (A x d e)
    pin:=λp R=>by
     rcases XD.mp (show p∈(X.pn++Xa7)++[(b7.heap.objs.size,YM [] 0)] from R) with hp'|hp'
     .obtain⟨e,n,ne,nf,d⟩:=m.pin p hp';exact⟨k1 _ _ e,n,Xr<|Xk e,stk p.1 ne nf,d⟩
     .have z:p=(b7.heap.objs.size,YM [] 0):=Xh.mp hp';subst z;exact⟨k1 _ _ hD,freeD,Xr L,stk _ (Yo Y.lt)<|Y.nofs<|Xq _,λv z=>nomatch (show Data.seq _ _=Data.cell v from z)⟩
    hok:=m.hok.kept k1
    len:=by
     show(Yu f σ).length=N.length
     unfold Yu;rw[Xl];exact ck.len }
 have back:∀{σ':St} {P:Hp} {H:Shared} {ps:Qc},Qt (ZY X N scope c) ps σ' P H->Qt X Xa7 σ P H:=λ{σ' P H ps} J'=>
  m.call' (ch:=b7.heap.objs.size::fp) J'.os J'.base J'.hok J'.bare λb a=>by
   rcases U b a with rfl|a
   .exact⟨.inr Y.sz,Yo Y.lt,D,l⟩
   .exact⟨(I b a).2.2.2.1,(I b a).2.1,(I b a).2.2.2.2.1,(I b a).2.2.2.2.2⟩
 have fpX:∀{P:Hp} {ob:Obj},(∀b∈fp,P b=none)->∀b∈fp,Y7 (ZY X N scope c) [(b7.heap.objs.size,ob)] P b:=λ{P ob} hn b a=>
  ⟨hn b a,(t.exf b<|Xi _ a).1,t.exfs b<|Xi _ a,.inl<|Xi _ a,(t.exf b<|Xi _ a).2,λp R=>by
   rcases XD.mp (show p∈(X.pn++Xa7)++[(b7.heap.objs.size,ob)] from R) with z|z
   .exact(I b a).2.2.2.2.2 p z
   .have z:p=(b7.heap.objs.size,ob):=Xh.mp z;subst z;exact(fneD b a).symm⟩
 obtain⟨W,⟨m0,w0⟩,turn⟩:=hq c;have loop:∀s,s=({ B with heap:=b8,toks:=B.toks+([]:List (Str×Value)).length }:Shared)->
  codeAny (model X.prog X.w) X.A (.compLoop (.ListComp elt [⟨tg,iter,ifs,0⟩] scope pos) 0 (.ref it) (.ref b7.heap.objs.size)<|compEnvC scope cl B.heap.objs.size X.env) (RR (.ref b7.heap.objs.size) B.heap.objs.size) s:=by
  rintro s rfl;refine Zjm (λn H=>∃i P ys w k,Qt (ZY X N scope c) [(b7.heap.objs.size,YM w k)] (Yu f σ) P H/\QQ ys w/\ys.length<=sizeLine/\tn i H.heap/\(∀b∈fp,P b=none)/\W i n ys P) ?_ m0 ⟨0,_,[],[],0,I4,.nil,XQ _,st1,λb a=>(I b a).1,w0⟩;rintro n s5 ⟨i,H5,ys,w,k,I5,O,hz5,st5,fr5,w5⟩;rcases turn i n ys H5 w5 with ⟨stop,qn⟩|⟨go,step⟩
  .refine QB (T.done (ZY X N scope c) rfl rfl rfl rfl rfl i _ s5 (Yu f σ) H5 _ I5 (fpX fr5) st5 stop) ?_;rintro r s6 ⟨hr,I6⟩;subst hr;obtain⟨m6,hn6,_⟩:=id I6.loc;obtain⟨eD,nD,_⟩:=I6.pin (b7.heap.objs.size,YM w k) (XT _<|Xh.mpr rfl);have I7:Qt X Xa7 σ (upd H5 b7.heap.objs.size<|.lst ys) s6:=(back I6).track nD Y.sz (Yo Y.lt) D l ⟨hz5,w,k,O,eD⟩;refine hRR _ _ _ s6 m6 hn6 I7 (by rw[Qu<|Yo L];exact I6.free) (Yo m.lt) m.sz (λx d e=>?_) (λp R=>?_) (qn _ nD)
   .obtain⟨v,z⟩:=m.cell x d e;exact Xr z.lt
   .exact Xr (Xk (m.pin p R).1)
  .refine QB (T.item (ZY X N scope c) rfl rfl rfl rfl rfl i _ s5 (Yu f σ) H5 _ I5 (fpX fr5) st5 go) ?_;rintro r s6 ⟨u,hr,h6⟩;subst hr;refine QB h6 ?_;rintro _ s7 ⟨x,H7,I7,r7,y7,st7,fr7⟩;have I7':=I7.pinned (fpX fr7) (T.obj _ _ st7);refine QB (hg c _ s7 (Yu f σ) H7 x u _ I7' r7<|(ht c).keep _ _ _ _ (step x H7 y7)) ?_;rintro _ s8 ⟨K,H8,I8,kp8,q8⟩;have wk:∀(j:Nat) v,(Yu f σ)[j]?=some (some v)->K[j]?=some (some v):=λj v e=>by
    have ef:∃k,f[j]?=some (some k):=by
     have e':=e;unfold Yu at e';rw[Xs]at e';cases q:f[j]? with
     |none=>rw[q]at e';cases e'
     |some o=>
      cases o with
      |none=>rw[q]at e';cases e'
      |some k=>exact⟨k,rfl⟩
    obtain⟨k,ef⟩:=ef;rw[kp8.2 j k ef];exact e
   have recs:∀{H9:Hp} {s9:Shared} {ob:Obj},Qt (ZY X N scope c) ([(b7.heap.objs.size,ob)]++Bu fp s7.heap) K H9 s9->tn (i+1) s9.heap/\∀b∈fp,H9 b=none:=λ{H9 s9 ob} I9=>
    ⟨T.keep _ _ _ st7 λb a o e=>(I9.pin (b,o)<|XT _<|XT _<|MV a e).1,λb a=>by
     obtain⟨o,e,d⟩:=T.obj _ _ st7 b a;exact(I9.pin (b,o)<|XT _<|XT _<|MV a e).2.1⟩
   refine QB (hcs c _ s8 K H8 _ I8 q8) ?_;rintro ok s9 ⟨H9,I9,q9⟩;cases ok with
   |false=>
    obtain⟨m',hm,w9⟩:=(show ∃m',m'<n/\W (i+1) m' ys H9 from q9);obtain⟨z1,z2⟩:=recs I9;exact⟨m',hm,i+1,H9,ys,w,k,(I9.unpinned).weak kp8.1.symm wk,O,hz5,z1,z2,w9⟩
   |true=>
    refine QB (he c _ s9 K H9 _ I9 (show te c K H9 _ from q9)) ?_;rintro v M ⟨y,H10,I10,r10,hlen,m',hm,w10⟩;obtain⟨eD,nD,neD,nfD,dD⟩:=I10.pin (b7.heap.objs.size,YM w k) (XT _<|JR _<|Xh.mpr rfl);obtain⟨z1,z2⟩:=recs I10;have lv:=O.length;refine call_meets F.slot_list_append ⟨_,eD,rfl⟩ F.entry_list_append (F.args_list_append_2 _ _) (PySem.list_append b7.heap.objs.size w.toArray k v<|by rw[Xu];lia) ⟨eD,?_⟩;have q:=PySem.IsL.update eD (·.push v);have hf:w.toArray.push v=(w++[v]).toArray:=by simp
    rw[hf]at q;have I11:Qt (ZY X N scope c) [] K H10 { M with heap:=M.heap.update b7.heap.objs.size (Obj.mapSeq (·.push v)) }:=
     (I10.pins_of (pins':=[]) λp R=>Xz R<|by simp).turned (t':=M.toks) (it:=b7.heap.objs.size) (λb o a e=>(XV M.heap (Obj.mapSeq (·.push v))<|Ne.symm a).trans e) nD neD (.inl Xc) (t.exf _ Xc).2 λp R=>by
      have z:p∈(X.pn++Xa7)++[]:=R;rw[Xx]at z;exact l p z
    have I12:Qt (ZY X N scope c) [(b7.heap.objs.size,YM (w++[v]) _)] K H10 { M with heap:=M.heap.update b7.heap.objs.size (Obj.mapSeq (·.push v)) }:=
     I11.pins_of λp R=>by
      have z:p=(b7.heap.objs.size,_):=Xh.mp R;subst z;exact⟨q,nD,neD,nfD,λv z=>nomatch (show Data.seq _ _=Data.cell v from z)⟩
    refine⟨m',hm,i+1,H10,ys++[y],w++[v],_,I12.weak kp8.1.symm wk,O.append<|.cons r10 .nil,by rw[Xn,List.length_singleton];lia,?_,z2,w10⟩;exact T.keep _ _ _ z1 λb a o e=>(XV M.heap (Obj.mapSeq (·.push v)) (fneD b a).symm).trans e
 exact codeAny_compStart_list (loop _<|by rw[<- hs3]) (T.self _ 0 _ _ _ st1<|loop _<|by rw[<- hs3])
def C9{f:List (Option Nat)}{g:CIn->TG}{tc:CIn->TT}{te:CIn->TE}
(S:Gy NX sc N f scope=true)(y:X.N=NX)(v:X.env.scope=sc)(d:PIH X tg iter wi)
(k:∀c,PG (ZY X N scope c) tg<|g c)(M:∀c,TgOk f<|g c)(w:∀c,PCs (ZY X N scope c) ifs<|tc c)(he:∀c,PE (ZY X N scope c) elt<|te c)
(P:∀x,foldedSetIterable iter X.env x=pure x:=by intro _;rfl):PE X (.ListComp elt [⟨tg,iter,ifs,0⟩] scope pos) (tLC f wi g tc te):=by
 subst y v;intro Xa7 s σ H Q I h;have a:=Ty S;obtain⟨cl,i,r,n⟩:=Ly (scope:=scope) (env:=X.env) λp W l=>I.ok.has p.1 (a.free p W l);rw[eval_ListComp];refine wpAny_comprehension_free (use:=none) rfl P i a.kind a.names (QB (d Xa7 s σ H _ I h) λxv b6 Z=>QB Z λK b7 U=>?_);obtain⟨it,fp,tn,J,H2,e,I2,T,A,O,R⟩:=U;subst e;refine SX (RR:=λj C=>compPost (model X.prog X.w) X.A X.xe none (EP X Xa7 σ Q) j C) a k M w he I2 T A O R r n ?_;intro j C H' B E Y I' z u G F D q;exact⟨E,Y,λL m=>⟨.ref j,H',I'.turned (t':=B.toks) (λb o t e=>(m.2 b t).trans e) z u (.inr G) F D,rfl,q⟩⟩
def Wy{f:List (Option Nat)}{g:CIn->TG}{tc:CIn->TT}{te:CIn->TE}
(p:X.calm=true)(r:Gy NX sc N f scope=true)(h:X.N=NX)(a:X.env.scope=sc)(m:PI X tg iter wi)
(n:∀c,PG (ZY X N scope c) tg<|g c)(i:∀c,TgOk f<|g c)(b:∀c,PCs (ZY X N scope c) ifs<|tc c)(he:∀c,PE (ZY X N scope c) elt<|te c)
(j:∀x,foldedSetIterable iter X.env x=pure x:=by intro _;rfl):PE X (.ListComp elt [⟨tg,iter,ifs,0⟩] scope pos) (tLC f wi g tc te):=
 C9 r h a (m.x p) n i b he j
def K3{n:Pos}{f:List (Option Nat)}{g:CIn->TG}{tc:CIn->TT}{te:CIn->TE}
(hN:X.N.Nodup)(R:X.N[i]?=some x)(l:X.env.scope.names.lookup x=some .local)
(ck:Gy NX sc N f scope=true)(Y:X.N=NX)(M:X.env.scope=sc)(hi:PIH X tg iter wi)
(hg:∀c,PG (ZY X N scope c) tg<|g c)(U:∀c,TgOk f<|g c)(W:∀c,PCs (ZY X N scope c) ifs<|tc c)(he:∀c,PE (ZY X N scope c) elt<|te c)
(K:swapsWith (.ListComp elt [⟨tg,iter,ifs,0⟩] scope pos) (some<|.Name x d) n.line X.env=pure true)
(Z:∀x,foldedSetIterable iter X.env x=pure x:=by intro _;rfl):PS X (.Assign [.Name x d] (.ListComp elt [⟨tg,iter,ifs,0⟩] scope pos) n) (ZM (tLC f wi g tc te)<|Vb i):=by
 subst Y M;intro Xa7 s σ H D I h;have j:=Ty ck;obtain⟨cl,r,B,A⟩:=Ly (scope:=scope) (env:=X.env) λp hp hf=>I.ok.has p.1 (j.free p hp hf);rw[exec_Assign_Name_used _ _ _ _ K];refine Xa (wpAny_standAt<|Xa ?_);show wpAny _ X.A (do let _ <- comprehension (.ListComp elt [⟨tg,iter,ifs,0⟩] scope pos) scope X.env _ (newList []) false (eval iter X.env) (some<|assign (.Name x d) X.env)) _ _ s
 refine Xa (wpAny_mono (wpAny_comprehension_free (use:=some (assign (.Name x d) X.env)) (Q:=λ_ w=>SP X Xa7 D .next w) rfl Z r j.kind j.names
  (QB (hi Xa7 s σ H _ I h) λxv b6 b8=>QB b8 λS b7 bq=>?_)) (λ_ w P=>Xj<|Xj P) λ_ _ e=>e)
 obtain⟨it,fp,tn,J,H2,e,I2,T,F,f2,P⟩:=bq;subst e;refine SX (RR:=λm C=>compPost (model X.prog X.w) X.A X.xe (some<|assign (.Name x d) X.env) (λ_ w=>SP X Xa7 D .next w) m C) j hg U W he I2 T F f2 P B A ?_;intro m C H' w O hn I' hC t h0 u h2 q;show wpAny _ X.A (assign (.Name x d) X.env<|.ref m) _ _ _;refine wpAny_assign_Name (Ti I' hN R (.inl l) (v:=.ref m) rfl ?_<|.inr l);rintro E k ⟨a,G,ha⟩
 have L:C≠a:=by
  rcases ha with z|z
  .rw[z];exact t
  .exact(u _ _ z).symm
 refine⟨O,hn.sameBut G L,λh'' y=>?_⟩;exact⟨_,H',k.turned (t':=E.toks) (λb o hb e=>(y.2 b hb).trans e) hC t (.inr h0) u h2,q⟩
def Tc{a:Pos}{f:List (Option Nat)}{g:CIn->TG}{tc:CIn->TT}{te:CIn->TE}
(A:X.N.Nodup)(j:X.N[i]?=some x)(p:X.env.scope.names.lookup x=some .local)
(y:X.calm=true)(B:Gy NX sc N f scope=true)(n:X.N=NX)(h:X.env.scope=sc)(v:PI X tg iter wi)
(w:∀c,PG (ZY X N scope c) tg<|g c)(r:∀c,TgOk f<|g c)(m:∀c,PCs (ZY X N scope c) ifs<|tc c)(he:∀c,PE (ZY X N scope c) elt<|te c)
(b:swapsWith (.ListComp elt [⟨tg,iter,ifs,0⟩] scope pos) (some<|.Name x px) a.line X.env=pure true)
(s:∀x,foldedSetIterable iter X.env x=pure x:=by intro _;rfl):PS X (.Assign [.Name x px] (.ListComp elt [⟨tg,iter,ifs,0⟩] scope pos) a) (ZM (tLC f wi g tc te)<|Vb i):=
 K3 A j p B n h (v.x y) w r m he b s
end
mutual
inductive Rep(H:Hp):V->PyData->Prop
 |non:Rep H .non .none
 |bl (b:Bool):Rep H (.bl b) (.bool b)
 |int (i:Int):Rep H (.int i) (.int i)
 |str (x:Str):Rep H (.str x) (.str x)
 |lst {a:Addr}{xs:List V}{ds:Qd}:H a=some (.lst xs)->Qx H xs ds->Rep H (.ref a) (.list ds)
 |tup {a:Addr}{xs:List V}{ds:Qd}:H a=some (.tup xs)->Qx H xs ds->Rep H (.ref a) (.tuple ds)
 |dct {a:Addr}:H a=some (.dK [])->Rep H (.ref a) (.dict [])
inductive Qx(H:Hp):List V->Qd->Prop
 |nil:Qx H [] []
 |cons {x:V}{xs:List V}{d:PyData}{ds:Qd}:Rep H x d->Qx H xs ds->Qx H (x::xs) (d::ds)
end
mutual
theorem Rep.mono{H a:Hp}(s:Q7 H a):∀{v:V} {d:PyData},Rep H v d->Rep a v d
 |_,_,.non=>.non
 |_,_,.bl b=>.bl b
 |_,_,.int i=>.int i
 |_,_,.str x=>.str x
 |_,_,.lst h r=>.lst (s _ _ h) (Qx.mono s r)
 |_,_,.tup h r=>.tup (s _ _ h) (Qx.mono s r)
 |_,_,.dct h=>.dct (s _ _ h)
theorem Qx.mono{H a:Hp}(s:Q7 H a):∀{vs:List V} {ds:Qd},Qx H vs ds->Qx a vs ds
 |_,_,.nil=>.nil
 |_,_,.cons r t=>.cons (Rep.mono s r) (Qx.mono s t)
end
theorem Qx.length{H:Hp}:∀{vs:List V} {ds:Qd},Qx H vs ds->vs.length=ds.length
 |_,_,.nil=>rfl
 |_,_,.cons _ t=>by simp[Qx.length t]
theorem Qx.get{H:Hp}:∀{vs:List V} {ds:Qd} {i:Nat} {d:PyData},Qx H vs ds->ds[i]?=some d->∃v,vs[i]?=some v/\Rep H v d
 |_,_,_,_,.nil,e=>by simp at e
 |_,_,0,_,.cons r _,e=>by simp at e;subst e;exact⟨_,rfl,r⟩
 |_,_,i+1,d,.cons _ t,e=>by
  obtain⟨u,b,a⟩:=Qx.get (i:=i) (d:=d) t (by simpa using e);exact⟨u,by simpa using b,a⟩
theorem Qx.snoc{H:Hp}{v:V}{d:PyData}:∀{vs:List V} {ds:Qd},Qx H vs ds->Rep H v d->Qx H (vs++[v]) (ds++[d])
 |_,_,.nil,h=>.cons h .nil
 |_,_,.cons r t,h=>.cons r (Qx.snoc t h)
theorem Qx.append{H:Hp}:∀{vs ws:List V} {ds es:Qd},Qx H vs ds->Qx H ws es->Qx H (vs++ws) (ds++es)
 |_,_,_,_,.nil,s=>s
 |_,_,_,_,.cons r t,s=>.cons r (Qx.append t s)
theorem Qx.set{H:Hp}{v:V}{d:PyData}(r:Rep H v d):∀{vs:List V} {ds:Qd} (i:Nat),Qx H vs ds->Qx H (vs.set i v) (ds.set i d)
 |_,_,_,.nil=>.nil
 |_,_,0,.cons _ t=>.cons r t
 |_,_,i+1,.cons q t=>.cons q (Qx.set r i t)
theorem UA{H:Hp}:∀{vs:List V} {l:Ql},Qx H vs (l.map PyData.int)->vs=l.map V.int
 |_,[],.nil=>rfl
 |_,i::l,.cons (.int _) t=>by rw[Xw,UA t]
theorem Tv{H:Hp}:∀(l:Ql),Qx H (l.map V.int) (l.map PyData.int)
 |[]=>.nil
 |i::l=>.cons (.int i) (Tv l)
section
variable {H:Hp}
mutual
theorem Rep.reads(I:Qt X Xa7 σ H s):∀{v:V} {d:PyData} {u:Value},Rep H v d->QN v u->∃as,Reads s.heap u d as
 |_,_,_,.non,r=>by cases r;exact⟨_,.none⟩
 |_,_,_,.bl b,r=>by cases r;exact⟨_,.bool b⟩
 |_,_,_,.int i,r=>by obtain⟨t,rfl⟩:=r;exact⟨_,.int i t⟩
 |_,_,_,.str x,r=>by obtain⟨t,rfl⟩:=r;exact⟨_,.str x t⟩
 |_,_,_,.lst h q,r=>by
  cases r;obtain⟨z,g,n,a,e⟩:=I.hok _ _ h;obtain⟨as,f⟩:=Qx.reads I q a;exact⟨_,.list e rfl rfl (by simpa using f)⟩
 |_,_,_,.tup h q,r=>by
  cases r;obtain⟨z,g,a,o,e,c,n,dd⟩:=I.hok _ _ h;obtain⟨as,f⟩:=Qx.reads I q a;exact⟨_,.tuple e c dd<|by simpa using f⟩
 |_,_,_,.dct h,r=>by
  cases r;obtain⟨z,y,w,p,A,es,B,e,c,dd,_,m,_⟩:=I.hok _ _ h;cases p;have j:es.toList=[]:=NO m.length;exact⟨_,.dict (kvs:=[]) e c.1 dd (by rw[j];exact .nil)<|by rw[j];exact .nil⟩
theorem Qx.reads(I:Qt X Xa7 σ H s):∀{vs:List V} {ds:Qd} {us:Qe},Qx H vs ds->QQ vs us->∃as,ReadsAll s.heap us ds as
 |_,_,_,.nil,r=>by cases r;exact⟨_,.nil⟩
 |_,_,_,.cons q t,r=>by
  cases r with
  |cons g f=>
   obtain⟨as,b⟩:=Rep.reads I q g;obtain⟨h,a⟩:=Qx.reads I t f;exact⟨_,.cons b a⟩
end
def VS(d:PyData):Prop:=d.canLay0=true/\d.depth<=60
def Rg:R2:=λx y H Q=>∃d e,Rep H x d/\Rep H y e/\VS d/\VS e/\Q (.bl<|PyData.eqv d e) H
def NU:R2:=λx y H Q=>∃d e,Rep H x d/\Rep H y e/\VS d/\VS e/\Q (.bl<|!PyData.eqv d e) H
def Jv(n:X.A.units+64<cLine):OpR X (compareOp .Eq) Rg:=by
 intro Xa7 s σ H x y v u Q I b a h;obtain⟨d,e,j,i,fd,m,q⟩:=h;obtain⟨A,g⟩:=j.reads I b;obtain⟨w,f⟩:=i.reads I a;refine SeqAt.compareEq_reads g f fd.1 m.1 ?_ ⟨.bl<|PyData.eqv d e,H,I,rfl,q⟩;have r:=fd.2;have p:min d.depth e.depth<=d.depth:=Nat.min_le_left _ _;lia
def C8(n:X.A.units+64<cLine):OpR X (compareOp .NotEq) NU:=by
 intro Xa7 s σ H x y v u Q I b a h;obtain⟨d,e,j,i,fd,m,q⟩:=h;obtain⟨A,g⟩:=j.reads I b;obtain⟨w,f⟩:=i.reads I a;refine SeqAt.compareNe_reads g f fd.1 m.1 ?_ ⟨.bl<|!PyData.eqv d e,H,I,rfl,q⟩;have r:=fd.2;have p:min d.depth e.depth<=d.depth:=Nat.min_le_left _ _;lia
end
def J7(f:VS d):PyData.eqv d d=true:=SeqAt.eqv_refl d f.1
def Sx{a:Type}{xs:List a}{i:Int}{v:a}(h:atI xs i=some v):∃j:Nat,xs[j]?=some v/\ixN xs.length i=some j:=by
 unfold atI at h;cases e:ixN xs.length i with
 |none=>rw[e]at h;cases h
 |some j=>rw[e]at h;exact⟨j,h,rfl⟩
inductive TyN(H:Hp):V->String->Prop
 |non:TyN H .non "NoneType"
 |bl (b:Bool):TyN H (.bl b) "bool"
 |int (i:Int):TyN H (.int i) "int"
 |str (x:Str):TyN H (.str x) "str"
 |lst {a:Addr}{xs:List V}:H a=some (.lst xs)->TyN H (.ref a) "list"
 |tup {a:Addr}{xs:List V}:H a=some (.tup xs)->TyN H (.ref a) "tuple"
 |dct {a:Addr}:H a=some (.dK [])->TyN H (.ref a) "dict"
def tyD:PyData->String
 |.none => "NoneType"
 |.bool _ => "bool"
 |.int _ => "int"
 |.str _ => "str"
 |.list _ => "list"
 |.tuple _ => "tuple"
 |.dict _ => "dict"
def Rep.ty(r:Rep H v d):TyN H v (tyD d):=by
 cases r with
 |non=>exact .non
 |bl b=>exact .bl b
 |int i=>exact .int i
 |str x=>exact .str x
 |lst h _=>exact .lst h
 |tup h _=>exact .tup h
 |dct h=>exact .dct h
noncomputable def JZ(T c:String):Option Bool:=
 if T = "int" /\ c = "int" then some true else if T = "int" /\ c = "bool" then some false else if T = "list" /\ c = "list" then some true else if T = "tuple" /\ c = "tuple" then some true else none
def IK:ZW X (.builtin "isinstance") (λxs H Q=>∃x T c b,xs=[x,.ty c]/\TyN H x T/\JZ T c=some b/\Q (.bl b) H):=by
 intro Xa7 s σ H xs C Q I r h;obtain⟨x,T,c,b,rfl,w,e,q⟩:=h;obtain⟨u,v,rfl,f,A⟩:=Mc r;cases (show v=Value.type c from A);have a:∀t,EP X Xa7 σ Q (.bool b) { s with toks:=t }:=λt=>⟨.bl b,H,I.tok t,rfl,q⟩
 cases w with
 |int i=>
  obtain⟨t,rfl⟩:=f
  by_cases z:c = "int"
  .subst z;cases e;exact IsiPair.int_int (a _)
  .by_cases p:c = "bool"
   .subst p;cases e;exact IsiPair.int_bool (a _)
   .simp[JZ,z,p]at e
 |lst j=>
  by_cases z:c = "list"
  .subst z;cases e;cases f;obtain⟨z,g,n,y,m⟩:=I.hok _ _ j;exact IsiPair.list_list m rfl (a _)
  .simp[JZ,z]at e
 |tup j=>
  by_cases z:c = "tuple"
  .subst z;cases e;cases f;obtain⟨z,g,y,o,m,B,n,dd⟩:=I.hok _ _ j;exact IsiPair.tuple_tuple m B (a _)
  .simp[JZ,z]at e
 |_=>simp[JZ]at e
def Gb(_ j:Int):Prop:=0<j/\j<2^8000
def A3{j:Int}(h:Gb 0 j):j.natAbs.log2<9000:=by
 have b:j.natAbs≠0:=by have:=h.1;lia
 have a:j.natAbs<2^8000:=by have:=h.2;have:=h.1;lia
 have:=(Nat.log2_lt b).mpr a;lia
def GA:OpR X (binaryOp .FloorDiv) (rI Gb λi j=>.int<|i/j):=opI λi j _ _ _ _ _ a q=>by
 have e:i.fdiv j=i/j:=Int.fdiv_eq_ediv_of_nonneg _ (Int.le_of_lt a.1);refine floordiv_int (Int.ne_of_gt a.1) ?_ (.inl<|PyProof.noPylong_of_log2<|A3 a);rw[e];exact q
def Rc(i j:Int):Prop:=0<=j/\(Builtin.Int.intBits i:Int)+j<=2^27
def AU:OpR X (binaryOp .LShift) (rI Rc λi j=>.int<|i*2^j.toNat):=opI λ_ _ _ _ _ _ _ a q=>lshift_int a.1 a.2 q
def Q7.upd(s:Q7 H H')(h:H a=none):Q7 H (L2.upd H' a o):=λb u e=>by
 rw[Qu<|Z0 e h];exact s b u e
def Q7.new(h:H a=none):Q7 H (L2.upd H a o):=(Q7.refl H).upd h
end L2
namespace Att
open PySem PySem.W PySem.Calls PyProof.Rows
theorem Lc:∀(ns:Ql) (i:Int),i∈ns->Builtin.Int.intBits i<=WData.weightAll (ns.map WData.int)
 |[],i,h=>by simp at h
 |n::ns,i,h=>by
  rw[Xw,WData.weightAll];rcases Xe.mp h with rfl|h
  .have:WData.weight (.int i)=Builtin.Int.intBits i:=by rw[WData.weight];rfl
   lia
  .have:=Lc ns i h;lia
def AE{ns:Ql}(h:WData.layableAll [WData.list<|ns.map WData.int]=true):∀i∈ns,Builtin.Int.intBits i<=2^20:=λi b=>by
 have f:=layableW_arg h (WData.list<|ns.map WData.int) (Xh.mpr rfl);obtain⟨_,_,a⟩:=layableW_iff.mp f;rw[WData.weight]at a;exact X0 (Lc ns i b) a
def attach_callW{l:OpenLaw}
(hn:l.most=some n)(M:d.params.defaults=[])
(call:∀(w:World) (b g:Shared) (mg C:Str->Qf) (y:Addr) (o:Obj) (B cd j:Value) (a:Addr) (vs:Qe) (ns:Ql),
  Ground q loose [] XP w b mg C g.heap->YP w g.heap->
  g.heap.get? y=some o->o.data=.func (docDef d.name d.params d.body d.scope B cd j)->g.heap.CodeRec cd d.name->mg d.name=some (.ref y)->
  g.heap.get? a=some { cls:=.type "list",data:=.seq vs.toArray }->IntsAre vs ns->ns.length<=n->(∀i∈ns,Builtin.Int.intBits i<=2^20)->g.gens=#[]->
  codeAny (model l.prog w) callerA (.call (.ref y) ⟨[.ref a],[]⟩) (λr A=>r=.ok (.ret<|.bool true)/\OldK g.heap A.heap/\A.os=g.os/\AllBare A.gens) g):
 WalkO q loose XP YP l.row.toRowW d [] (λf vs=>PySem.call f vs):=by
 intro w b g mg C G Y y o B cd j I kV k z P W K x X R J m v c E u;obtain rfl:I=.none:=Dflts.none W M;obtain rfl:kV=.none:=Dflts.noKw W;obtain⟨a,vs,ns,rfl,rfl,p,h,s⟩:=OP hn m E;refine enter_call (codeAny_mono (call w b g mg C y o B cd j a vs ns G Y k (fd_plain z) P K p h s (AE v) x) λr A e=>?_);obtain⟨rfl,H,F,D⟩:=e;exact⟨.inl ⟨.bool true,.bool true,[],rfl,λ_=>rfl,.bool true,O4 l _,λ_=>⟨List.Pairwise.nil,λ_ t=>(nomatch t)⟩⟩,H,F,D⟩
end Att
namespace L2
structure Scr(K:W.Frag)(H:Hp)(a:Addr)(ns:Ql):Prop where
 sq:SqL K H a (ns.map V.int)
 len:ns.length<=63
 bits:∀i∈ns,Builtin.Int.intBits i<=2^20
def Scr.mono(h:Scr K H a ns)(s:Q7 H H'):Scr K H' a ns:=⟨s.seq h.sq,h.len,h.bits⟩
structure Df(K:W.Frag)(mg:Str->Qf)(x:Str)(st:Stmt)(ps:Qh):Prop where
 ex:∃f fd,Fun K x x st f fd/\mg x=some (.ref f)/\Vw K fd ps []
def QE(P:Program)(w:World)(K:W.Frag)(mg:Str->Qf)(base:Heap)(x:Str)(ps:Qh)(k:Nat)(a:Sp):Prop:=
 ∃f fd,mg x=some (.ref f)/\W.keepIn K (.ref f)=true/\Vw K fd ps []/\FnOk P w K mg base CX0 k f fd ps a
def Df.cal{base:Heap}{x:Str}{st:Stmt}{N:Qh}{k:Nat}{b:Sp}(D:Df K mg x st ps)(S:Qp N ps (Q4 st))(g:∀vs H Q E,b vs H Q E->vs.length=ps.length)
(i:∀(f:Addr) (a:Value) (A:Around) (outer:List Env) (s:Shared) (H:Hp) (vs:List V) (Q:VK) (E:XK),Room k (A.deeper<|envOfC x (Q4 st) s.heap.objs.size f a)->b vs H Q E->
  ∃t,PSs (Vq CX0 P w K mg base N x (Q4 st) f a A outer s H E).nox (ZB st) t/\t { nx:=λ_ p=>Q .non p,rt:=Q } (start N vs) H):QE P w K mg base x ps (k+1) b:=by
 obtain⟨f,fd,F,m,n⟩:=D.ex;exact⟨f,fd,m,F.kp,n,F.ok S g λa A outer s H vs Q E j h=>i f a A outer s H vs Q E j h⟩
def QH     (C:QE X.prog X.w X.K X.mg X.base x ps j sp)(b:Room k X.A)(r:PA X (e::es) t)(i:j<=k:=by walk_at"j")(m:Gl X x:=by rfl)
(a:(x==("__debug__" : Str))=false:=by decide +kernel)
(he:zs X e es:=by rfl)(hpl:zb X pos es:=by rfl):PE X (.Call (.Name x p) (e::es) [] pos) (Vg sp [] E0 t):=by
 obtain⟨f,fd,g,h,n,F⟩:=C;exact SN F (b.mono i) m g h n .nil Uk r a he hpl
def Vx:bootBuiltins "len"=some (.builtin "len"):=by decide +kernel
def Hw:bootBuiltins "max"=some (.builtin "max"):=by decide +kernel
def Bo:bootBuiltins "min"=some (.builtin "min"):=by decide +kernel
def Hg:bootBuiltins "sum"=some (.builtin "sum"):=by decide +kernel
def Uy:bootBuiltins "isinstance"=some (.builtin "isinstance"):=by decide +kernel
def Hd:bootBuiltins "int"=some (.type "int"):=by decide +kernel
def SO:bootBuiltins "bool"=some (.type "bool"):=by decide +kernel
def M3:bootBuiltins "list"=some (.type "list"):=by decide +kernel
def MN:bootBuiltins "tuple"=some (.type "tuple"):=by decide +kernel
mutual
theorem Rep.uniq{H:Hp}:∀{v:V} {d e:PyData},Rep H v d->Rep H v e->d=e
 |_,_,_,.non,.non=>rfl
 |_,_,_,.bl b,.bl _=>rfl
 |_,_,_,.int b,.int _=>rfl
 |_,_,_,.str b,.str _=>rfl
 |_,_,_,.lst h r,.lst h' a=>by
  rw[h]at h';cases h';rw[Qx.uniq r a]
 |_,_,_,.tup h r,.tup h' a=>by
  rw[h]at h';cases h';rw[Qx.uniq r a]
 |_,_,_,.lst h r,.tup h' a=>by rw[h]at h';cases h'
 |_,_,_,.tup h r,.lst h' a=>by rw[h]at h';cases h'
 |_,_,_,.dct h,.dct h'=>rfl
 |_,_,_,.lst h r,.dct h'=>by rw[h]at h';cases h'
 |_,_,_,.tup h r,.dct h'=>by rw[h]at h';cases h'
 |_,_,_,.dct h,.lst h' a=>by rw[h]at h';cases h'
 |_,_,_,.dct h,.tup h' a=>by rw[h]at h';cases h'
theorem Qx.uniq{H:Hp}:∀{vs:List V} {ds es:Qd},Qx H vs ds->Qx H vs es->ds=es
 |_,_,_,.nil,.nil=>rfl
 |_,_,_,.cons r t,.cons b a=>by rw[Rep.uniq r b,Qx.uniq t a]
end
mutual
def noL:PyData->Bool
 |.none=>true
 |.bool _=>true
 |.int _=>true
 |.str _=>true
 |.list _=>false
 |.dict _=>false
 |.tuple ds=>noLs ds
def noLs:Qd->Bool
 |[]=>true
 |d::ds=>noL d&&noLs ds
end
mutual
theorem Rep.updL{H:Hp}{l:Addr}{us za:List V}(a:H l=some (.lst us)):∀{v:V} {d:PyData},noL d=true->Rep H v d->Rep (L2.upd H l<|.lst za) v d
 |_,_,_,.non=>.non
 |_,_,_,.bl b=>.bl b
 |_,_,_,.int i=>.int i
 |_,_,_,.str x=>.str x
 |_,_,h,.lst _ _=>by simp[noL]at h
 |_,_,h,.tup f r=>.tup (by rw[Qu<|RD f a<|by intro z;cases z];exact f) (Qx.updL a (by simpa [noL] using h) r)
theorem Qx.updL{H:Hp}{l:Addr}{us za:List V}(a:H l=some (.lst us)):∀{vs:List V} {ds:Qd},noLs ds=true->Qx H vs ds->Qx (L2.upd H l<|.lst za) vs ds
 |_,_,_,.nil=>.nil
 |_,_,h,.cons r t=>.cons (Rep.updL a (by simp[noLs]at h;exact h.1) r) (Qx.updL a (by simp[noLs]at h;exact h.2) t)
end
def Lr(a b:Int):Builtin.Range.rangeSize a b (-1)=((a-b).toNat:Int):=by
 unfold Builtin.Range.rangeSize;simp only[show ¬((-1:Int) > 0) by decide,if_false,show(-(-1):Int)=1 from rfl,Int.ediv_one];split<;>lia
def Zlg{a b:Int}(ha : -(2^62)<=a)(g:a<2^62)(hb : -(2^62)<=b)(f:b<2^62):Builtin.Range.small a b (-1)=true:=by
 unfold Builtin.Range.small;rw[Lr];simp only[Builtin.Range.rangeFitsLong,Wb,Bool.or_eq_true,decide_eq_true_eq,beq_iff_eq,show ¬((-1:Int) > 0) by decide,if_false];lia
def D6(a:Int)(n:Nat):It:=⟨λi _=>i<n,λi H x b=>b=H/\x=.int (a-i),λi _=>n<=i⟩
theorem Zk4(it:Addr)(g:Int)(n:Nat):Turn P w K tg (D6 g n) [it] it (λi h=>IsRangeIter h it (g+(i:Nat)*(-1)) ((n:Int)-(i:Nat)) (-1)) where
 mem:=by simp
 obj:=λi h a b f=>by
  have e:b=it:=by simpa using f
  subst e;exact⟨_,a,λv z=>by
   have c:Data.fields _=Data.cell v:=z;cases c⟩
 keep:=λi h h' a k=>k it (by simp) _ a
 item:=by
  intro X A p B y i Xa7 s σ H E I m a r;subst A p B;obtain⟨f0,Y,q,R,M,C⟩:=m it (by simp);have W:=Walks.range (prog:=X.prog) (w:=X.w) (I.ok.hd y) it g (-1) n;refine W.item i s _ _ r a λv h' tk l j d=>?_;obtain⟨t,rfl⟩:=l;have x:Qt X Xa7 σ H { s with heap:=h',toks:=tk }:=I.turned (λb o f e=>d b o (by simpa using f) e) f0 Y R M C;refine⟨_,rfl,UZ (s:={ s with heap:=h',toks:=tk }) (n := "range_iterator") j rfl rfl (by decide) ⟨.int<|g-i,H,x,⟨t,?_⟩,⟨rfl,rfl⟩,j,λb f=>(m b f).1⟩⟩;rw[show g+(i:Int)*(-1)=g-i by lia]
 done:=by
  intro X A p B y i Xa7 s σ H E I m a r;subst A p B;obtain⟨f0,Y,q,R,M,C⟩:=m it (by simp);exact wpAny_pyNext_range_end (I.ok.hd y) a (by have:n<=i:=r;lia) λh' u=>⟨rfl,I.turned (t':=s.toks) (λb o f e=>u b o f e) f0 Y R M C⟩
 self:=λ_ _ _ _ _ a h=>wpAny_pyIter_rangeiter a h
def IP{R:It->Hp->Prop}{lo a:Int}{v:Tok}{f:Nat}(I:Qt X Xa7 σ H s)(h1 : -(2^62)<=a)(j:a<2^62)(h3 : -(2^62)<=lo)(i:lo<2^62)
(q:R (D6 a (a-lo).toNat) H):wpAny (model X.prog X.w) X.A (pyIter<|.ref s.heap.objs.size) (PIE X Xa7 σ tg R) E { s with heap:=s.heap.push { cls:=.type "range",data:=.fields #[.int a t,.int lo u,.int (-1) v] },toks:=f }:=by
 refine wpAny_pyIter_range (IsRange.new ..) (Zlg h1 j h3 i) ?_;have g:Qt X Xa7 σ H { s with heap:=s.heap.push { cls:=.type "range",data:=.fields #[.int a t,.int lo u,.int (-1) v] },toks:=f }:=I.kept λb o e=>Xg _ e
 refine⟨(s.heap.push { cls:=.type "range",data:=.fields #[.int a t,.int lo u,.int (-1) v] }).objs.size,[(s.heap.push { cls:=.type "range",data:=.fields #[.int a t,.int lo u,.int (-1) v] }).objs.size],_,_,H,rfl,
  g.kept (t':=f) λb o e=>Xg _ e,Zk4 _ a (a-lo).toNat,?_,λb h=>?_,q⟩
 .have n:a+((0:Nat):Int)*(-1)=a:=by simp
  have m:(((a-lo).toNat:Nat):Int)-((0:Nat):Int)=Builtin.Range.rangeSize a lo (-1):=by rw[Lr];lia
  show IsRangeIter _ _ (a+((0:Nat):Int)*(-1)) ((((a-lo).toNat:Nat):Int)-((0:Nat):Int)) (-1);rw[n,m];exact XB _ rfl
 .have e:b=(s.heap.push { cls:=.type "range",data:=.fields #[.int a t,.int lo u,.int (-1) v] }).objs.size:=by simpa using h
  subst e;exact g.fpOk (Xq _) (g.hok.fresh<|Xq _)
def RN(ta:TA):TI:=λσ H R=>ta σ H λa b=>∃i j:Int,a=[.int i,.int j,.int (-1)]/\(-(2^62)<=i/\i<2^62 /\ -(2^62)<=j/\j<2^62)/\R (D6 i (i-j).toNat) b
def KJ{a:Expr}{ta:TA}(K:Gl X "range")(E:X.mg "range"=none)(M:PA X [a,b,c] ta)(C:starEach [a,b,c] X.env=[(false,eval a X.env),(false,eval b X.env),(false,eval c X.env)]:=by rfl)
(g:starEach [b,c] X.env=[(false,eval b X.env),(false,eval c X.env)]:=by rfl):PI X tg (.Call (.Name "range" p) [a,b,c] [] pos) (RN ta):=by
 intro Xa7 s σ H R I h;refine Call_ (Ju I K E boot_range<|PyProof.Rows.callWith_type1 (QB (M pos Xa7 s σ H _ I h) ?_) (by rw[C,g])<|by rw[g];rfl);rintro Y l ⟨W,o,P,v,m⟩;obtain⟨i,j,e,⟨m,B,A,y⟩,q⟩:=m;subst e;cases v with
 |cons r f=>
  cases f with
  |cons w f=>
   cases f with
   |cons n f=>
    cases f;obtain⟨t,rfl⟩:=r;obtain⟨k,rfl⟩:=w;obtain⟨d,rfl⟩:=n;exact call_range_3 (by decide) (IP P m B A y q) (.inl<|PyProof.noPylong_small<|by decide)
def Ma(K:W.Frag):V->V->Hp->VK->Prop:=λo i H Q=>∃p xs k v,o=.ref p/\i=.int k/\SqL K H p xs/\0<=k/\xs[k.toNat]?=some v/\Q v H
def ZkC(ns:Ql):preSum (λi=>ns.getD i 0) ns.length=ns.sum:=by
 have a:∀k,k<=ns.length->preSum (λi=>ns.getD i 0) k=(ns.take k).sum:=by
  intro k;induction k with
  |zero=>intro _;simp[preSum]
  |succ k b=>
   intro g;have f:k<ns.length:=by lia
   rw[JT,BP,<- b (by lia)];simp[preSum,f]
 rw[a ns.length<|Xq _,Ji]
theorem J4:∀{vs:Qe} {ns:Ql} {i:Nat} {v:Value},IntsAre vs ns->vs[i]?=some v->∃t,v=.int (ns.getD i 0) t
 |_,_,_,_,.nil,e=>by simp at e
 |_,_,0,_,.cons n t h,e=>by simp at e;exact⟨t,by simp[<- e]⟩
 |_,_,i+1,v,.cons n t h,e=>by
  obtain⟨a,z⟩:=J4 (i:=i) (v:=v) h (by simpa using e);exact⟨a,by simpa using z⟩
def ZjG(K:A.handled=none)(p:s.heap.IsList l vs.toArray)(y:IntsAre vs ns)
(h:∀h' B t',(∀b o,s.heap.get? b=some o->h'.get? b=some o)->Q (.int ns.sum t') { s with heap:=h',toks:=B }):wpAny (model prog w) A (call (.builtin "sum") [.ref l]) Q E s:=by
 obtain⟨o,r,k,n,d⟩:=id p;have m:l≠s.heap.objs.size:=Xr (Xk r);have W:=(Walks.list (prog:=prog) (w:=w) (A:=A.in1) K s.heap.objs.size l m vs.toArray).toS;refine call_sum_walkAnyS (wpAny_pyIter_list p ?_);refine⟨s.heap.objs.size,_,_,_,_,_,_,λi=>ns.getD i 0,rfl,W,⟨⟨_,XB _ rfl,rfl,rfl⟩,p.at λo e=>Xg _ e⟩,λb a=>?_,λi v M=>J4 y<|by simpa using M,λC t' f=>?_⟩
 .rcases Xe.mp a with rfl|a
  .exact Xk (XB _ rfl)
  .obtain rfl:=Xh.mp a;exact Xk (Xg _ r)
 .obtain⟨h',P,c,g,j⟩:=C;have Y:P=s.gens:=f.gens;have X:c=s.drawn:=f.drawn;have R:j=s.os:=f.os;subst Y X R;have es:vs.toArray.size=ns.length:=by rw[Xu,y.length]
  rw[es,ZkC];exact h h' g t' λb o e=>f.heap b o (λa=>Xz (Xk e)<|(Xh.mp a)▸Y5 _) (Xg _ e)
def G7:Ra X (Ma X.K):=by
 intro Xa7 s σ H o i C E Q I f g h;obtain⟨p,xs,k,v,rfl,rfl,n,A,b,q⟩:=h;cases f;obtain⟨t,rfl⟩:=g;obtain⟨m,r,j,K⟩:=I.list n;obtain⟨w,B,a⟩:=r.get b;have P:=r.length;have M:=U0;have y:k.toNat<xs.length:=(Xf.mp b).1;exact wpAny_getItem_list j.isList A (by lia) (by simpa using B) ⟨v,H,I,a,q⟩
def O3:ZW X (.builtin "sum") (λxs H Q=>X.calm=true/\∃(x:V) (ns:Ql),xs=[x]/\Rep H x (.list<|ns.map PyData.int)/\Q (.int ns.sum) H):=by
 intro Xa7 s σ H xs v Q I r h;obtain⟨j,x,ns,rfl,i,q⟩:=h;obtain⟨u,rfl,a⟩:=Yy r;cases i with
 |lst m f=>
  cases a;have n:=UA f;subst n;obtain⟨g,b,p,A⟩:=I.list (SqL.of (K:=X.K) m);exact ZjG (I.ok.hd j) p.isList (GE b) λh' w y k=>⟨.int ns.sum,H,I.kept k,⟨_,rfl⟩,q⟩
def Qt.turnedL{t':Nat}{ch:Qg}(I:Qt X Xa7 σ H s)(k:∀b o,b∉ch->s.heap.get? b=some o->h'.get? b=some o)(f:∀b∈ch,Y7 X Xa7 H b):Qt X Xa7 σ H { s with heap:=h',toks:=t' }:=by
 refine I.step (g':=s.gens) (d':=s.drawn) (ch:=ch) (λb j=>?_) (λb o _ _ a e _=>k b o a e) (λb o _ _ a e _=>⟨o.slots,k b o a e⟩) (λ_ _ _ _ n=>n)
  (λb o a e=>⟨o,k b o a e⟩) (λ_ _ e=>e) (λ_ _ _ e=>e) (λb ps e=>⟨#[],by rw[e];simp⟩) (λm i=>?_) (λb u e=>?_) I.bare (λb _ o a _ e=>k b o a e)
 .obtain⟨f0,A,C,y,w,p⟩:=f b j;exact⟨y,A,w,p⟩
 .obtain⟨o,es,B,h,r⟩:=i;exact⟨o,es,B,k _ o (λz=>(f _ z).2.1 rfl) h,r⟩
 .refine(I.hok b u e).stay (λc v a q=>k c v (λz=>?_) q) (λ_ q=>q) λ_ _ q=>q
  have g:=(f c z).1;rcases a with rfl|a
  .rw[g]at e;cases e
  .rw[g]at a;cases a
def Qt.trackTup{H:Hp}{T:Addr}{x:V}{u v:Value}(a:Qt X Xa7 σ H s0)(I:Qt X Xa7 σ H s)(hT:s0.heap.objs.size<=T)(rx:QN x u)(f:QN y v)(b:s.heap.IsTuple T #[u,v]):Qt X Xa7 σ (upd H T<|.tup [x,y]) s:=by
 refine I.track (a.hok.fresh hT) (X0 a.sz hT) (Yo<|Xp a.lt hT) (λz c e q=>?_) (λp h q=>?_) ⟨by show 2<=sizeLine;decide,[u,v],.cons rx<|.cons f .nil,b⟩
 .obtain⟨w,g⟩:=a.cell z c e;exact Xz (Xp g.lt<|by rw[q];exact hT) (Y5 _)
 .exact Xz (Xp (Xk (a.pin p h).1)<|by rw[q];exact hT) (Y5 _)
def Ite(K:W.Frag)(a:Addr):It:=
 ⟨λi H=>∃xs x,SqL K H a xs/\xs[i]?=some x,
  λi H v b=>∃p x,H p=none/\v=.ref p/\b=upd H p (.tup [.int (i:Int),x])/\∀xs,SqL K H a xs->xs[i]?=some x,
  λi H=>∃xs,SqL K H a xs/\i=xs.length⟩
theorem O6(q:e≠it)(l:a≠e)(d:a≠it):
 Turn P w K (.Tuple elts k pos) (Ite K a) [e,it] e (λi h=>(∃f,IsEnum h e it i f)/\h.IsListIter it a i) where
 mem:=by simp
 obj:=λi h j c y=>by
  obtain⟨⟨f,g⟩,o1,e1,c1,d1⟩:=j;simp only[Xe,XU,or_false]at y;rcases y with rfl|rfl
  .exact⟨_,g,by rintro v ⟨⟩⟩
  .exact⟨_,e1,λv z=>by rw[d1]at z;cases z⟩
 keep:=λi h h' j kk=>by
  obtain⟨⟨f,g⟩,B⟩:=j;exact⟨⟨f,kk e (by simp) _ g⟩,B.at λo x=>kk it (by simp) o x⟩
 item:=by
  intro X Z O hK y i Xa7 s σ H E I D j S;subst Z O hK;obtain⟨xs,x,m,hx⟩:=S;obtain⟨b,p,L,N⟩:=I.list m;obtain⟨u1,Y,J⟩:=p.get hx;obtain⟨g,B⟩:=j;have W:=WalksT.enumerate (prog:=X.prog) (w:=X.w) (A:=X.A) (I.ok.hd y) e it a q l d b.toArray;have l1:i<b.length:=(Xf.mp Y).1;have wr:∀c∈[e,it],Y7 X Xa7 H c:=D;refine W.item i s _ _ (by simp only[Xu];lia) ⟨g,B,L.isList⟩ λT vals h' tk pt hT tup M kp=>?_;obtain⟨t,F,e1,rfl⟩:=pt
  have ev1:F=u1:=by
   have:b[i]?=some F:=by simpa using e1
   rw[Y]at this;exact(Option.some.inj this).symm
  subst ev1;have I1:Qt X Xa7 σ H { s with heap:=h',toks:=tk }:=I.turnedL kp wr;refine⟨.ref T,rfl,W.go elts k pos i T { s with heap:=h',toks:=tk } _ _ M λu G R=>?_⟩;have I2:Qt X Xa7 σ H { s with heap:=u,toks:=tk }:=I1.turnedL (t':=tk) R wr;have C:u.IsTuple T #[.int (i:Int) t,F]:=by
   obtain⟨o,ho,U,n,hd⟩:=tup;exact⟨o,R T o (W.apart i T h' M) ho,U,n,hd⟩
  have I3:=I.trackTup I2 hT (x:=.int (i:Int)) ⟨t,rfl⟩ J C;obtain⟨s1,s2,_⟩:=G;refine⟨.ref T,_,I3,rfl,⟨T,x,I.hok.fresh hT,rfl,rfl,λxs' h=>by rw[I.list_inj h m];exact hx⟩,⟨s1,s2⟩,λc r=>?_⟩;have Q:c<s.heap.objs.size:=by
   simp only[Xe,XU,or_false]at r;obtain⟨f,g⟩:=g;rcases r with rfl|rfl
   .exact Xk g
   .obtain⟨_,z,_⟩:=B;exact Xk z
  rw[Qu<|Xr<|Xp Q hT];exact(D c r).1
 done:=by
  intro X Z O hK y i Xa7 s σ H E I D j S;subst Z O hK;obtain⟨xs,m,rfl⟩:=S;obtain⟨b,p,L,N⟩:=I.list m;obtain⟨g,B⟩:=j;have W:=WalksT.enumerate (prog:=X.prog) (w:=X.w) (A:=X.A) (I.ok.hd y) e it a q l d b.toArray;have en:xs.length=b.toArray.size:=by simp[p.length]
  refine W.done s _ _ (by rw[<- en];exact⟨g,B,L.isList⟩) λh' tk kp=>⟨rfl,I.turnedL kp D⟩
 self:=λ_ _ _ _ _ j h=>by
  obtain⟨⟨f,g⟩,_⟩:=j;exact wpAny_pyIter_enum g h
def RG(K:W.Frag)(ta:TA):TI:=λσ H R=>ta σ H λf b=>∃a,f=[.ref a]/\(∃xs,SqL K b a xs)/\R (Ite K a) b
def IX:bootBuiltins "enumerate"=some (.type "enumerate"):=by decide +kernel
def BL{a:Expr}{ta:TA}   (d:Gl X "enumerate")(Y:X.mg "enumerate"=none)(l:PA X [a] ta)(P:starEach [a] X.env=[(false,eval a X.env)]:=by rfl):
 PI X (.Tuple elts k tpos) (.Call (.Name "enumerate" p) [a] [] pos) (RG X.K ta):=by
 intro Xa7 s σ H R I h;refine Call_ (Ju I d Y IX<|PyProof.Rows.callWith_type1 (QB (l pos Xa7 s σ H _ I h) ?_) P rfl);rintro F b ⟨D,v,g,A,B⟩;obtain⟨x,e,⟨xs,K⟩,q⟩:=B;subst e;obtain⟨u,rfl,w⟩:=Yy A;cases w;obtain⟨m,y,i,E⟩:=g.list K;refine call_enumerate_list i.isList λh' n t M C=>wpAny_pyIter_enum n ?_;have j:x<b.heap.objs.size:=by obtain⟨o,W,_⟩:=i.isList;exact Xk W
 have z:Qt X Xa7 σ v { b with heap:=h' }:=g.kept (t':=b.toks) C;refine⟨_,[b.heap.objs.size+1,b.heap.objs.size],_,_,v,rfl,z,O6 (e:=b.heap.objs.size+1) (it:=b.heap.objs.size) (a:=x) (Nat.succ_ne_self _) (Xr<|GO j)<|Xr j,⟨⟨_,n⟩,t⟩,λc r=>?_,q⟩;have f:b.heap.objs.size<=c:=by
  simp only[Xe,XU,or_false]at r;rcases r with rfl|rfl
  .exact Nat.le_add_right _ _
  .exact Xq _
 exact g.fpOk f (g.hok.fresh f)
def HW(f:∀b x,b∉[s.heap.objs.size]->(s.heap.push o).get? b=some x->h'.get? b=some x):∀b x,s.heap.get? b=some x->h'.get? b=some x:=
 λb x e=>f b x (λa=>by rw[Xh.mp a]at e;exact Y5 _<|Xk e) (Xg _ e)
def YA:Ql->Int
 |[]=>0
 |[a]=>a
 |a::b::r=>min a (YA (b::r))
theorem K7:∀{ns:Ql},ns≠[]->YA ns∈ns/\∀a∈ns,YA ns<=a
 |[],h=>Xz rfl h
 |[a],_=>by simp[YA]
 |a::b::r,_=>by
  obtain⟨i,g⟩:=K7 (ns:=b::r) (by simp);simp only[YA];refine⟨?_,λc f=>?_⟩
  .by_cases h:a<=YA (b::r)
   .rw[Int.min_eq_left h];exact Xc
   .rw[Int.min_eq_right<|by lia];exact Xi _ i
  .rcases Xe.mp f with rfl|f
   .lia
   .have:=g c f;lia
def Ag{M:Int}(b:M∈ns)(f:∀a∈ns,M<=a):M=YA ns:=by
 obtain⟨h,g⟩:=K7 (ns:=ns) (λz=>by rw[z]at b;cases b);have:=f _ h;have:=g _ b;lia
def RA(X:Cx):List V->Hp->VK->Prop:=λxs H Q=>X.calm=true/\∃(x:V) (a:Ql),xs=[x]/\Rep H x (.list<|a.map PyData.int)/\a≠[]/\Q (.int<|YA a) H
def CW:ZW X (.builtin "min") (RA X):=by
 intro Xa7 s σ H xs S Q I r h;obtain⟨J,x,g,rfl,D,C,q⟩:=h;obtain⟨u,rfl,d⟩:=Yy r;cases D with
 |@lst l ys _ L z=>
  cases d;have N:=UA z;subst N;obtain⟨f,o,p,U⟩:=I.list (SqL.of (K:=X.K) L);have E:=p.isList;have M:=GE o;have Y:f.length=g.length:=M.length;have W:0<g.length:=Dv.mpr C;have m:l<s.heap.objs.size:=by obtain⟨_,e,_⟩:=E;exact Xk e
  refine call_min_walk (wpAny_pyIter_list E ?_);refine⟨s.heap.objs.size,[s.heap.objs.size,l],[s.heap.objs.size],f.toArray.size,_,_,_,rfl,Walks.list (A:=X.A.in1) (I.ok.hd J) _ l (Xr m) f.toArray,
   ⟨⟨_,XB _ rfl,rfl,rfl⟩,E.push _⟩,λb w=>?_,by simp only[Xu];lia,CmpOf.ints_lt (λi=>g.getD i 0) (λi v y=>J4 M<|by simpa using y),λv h' T y F=>?_⟩
  .show b<(s.heap.push _).objs.size
   rw[WI];rcases Xe.mp w with rfl|w
   .exact Jj _
   .rcases Xe.mp w with rfl|w
    .exact GO m
    .cases w
  .rw[List.getElem?_toArray]at y;obtain⟨t,rfl⟩:=J4 M y;obtain⟨c,R⟩:=argBest_lt (λi=>g.getD i 0) (f.toArray.size-1);have B:f.toArray.size=f.length:=by simp
   generalize argBest (λi j=>decide (g.getD i 0<g.getD j 0)) (f.toArray.size-1)=k at c R ⊢;rw[B]at c R;have n:k<g.length:=by lia
   have O:g.getD k 0=YA g:=by
    refine Ag (by simp[n]) λa P=>?_;obtain⟨j,G,rfl⟩:=GQ.mp P
    have:=R j (by lia);simpa [G,n] using this
   exact⟨.int<|YA g,H,I.kept<|HW F,⟨t,by rw[O]⟩,q⟩
def RS(K:W.Frag):R2:=λx y H Q=>∃a b xs ys,x=.ref a/\y=.ref b/\SqT K H a xs/\SqT K H b ys/\xs.length+ys.length<=sizeLine/\
 (xs=[]->Q (.ref b) H)/\(xs≠[]->ys=[]->Q (.ref a) H)/\(xs≠[]->ys≠[]->∀p,H p=none->Q (.ref p) (upd H p<|.tup<|xs++ys))
def G1:OpR X (binaryOp .Add) (RS X.K):=by
 intro Xa7 s σ H x y v u Q I j i h;obtain⟨a,b,xs,ys,rfl,rfl,B,A,w,P,M,K⟩:=h
 by_cases f:xs=[]
 .cases j;cases i;obtain⟨g,n,W,_⟩:=I.tuple B;obtain⟨r,E,R,_⟩:=I.tuple A;obtain⟨m,F⟩:=I.fr;have C:g=[]:=n.nil_iff.mpr f;exact add_tuples (news:=[]) F (by rintro p ⟨⟩) W R (λ_=>⟨.ref b,H,I,rfl,P f⟩) (λz _=>Xz C z) (λz=>Xz C z) (by rw[<- n.length,<- E.length];exact w)
 .exact AK Xa7 s σ H _ _ v u Q I j i ⟨a,b,xs,ys,rfl,rfl,B,A,f,w,M f,K f⟩
end L2
namespace Mir
def YQ(ns:Ql)(k:Int):Int:=ns.getD k.toNat 0
def Fw(x:Int):Nat:=if x==0 then 0 else x.natAbs.log2+1
def Ro(i:Int):Int:=if i<0 then -i else i
noncomputable def mix(head k:Int):Nat->Int×Int×Int
 |0=>(head%2147483629+7919*k,69621*k+5,0)
 |i+1=>
  ((((mix head k i).1*48271+11+(i:Int)*k)%2147483647),
   (((mix head k i).2.1*16807+((mix head k i).1*48271+11+(i:Int)*k)%2147483647)%2147483629),
   (mix head k i).2.2*2147483629+(((mix head k i).2.1*16807+((mix head k i).1*48271+11+(i:Int)*k)%2147483647)%2147483629*(((mix head k i).2.1*16807+((mix head k i).1*48271+11+(i:Int)*k)%2147483647)%2147483629)+((mix head k i).1*48271+11+(i:Int)*k)%2147483647)%2147483587)
noncomputable def Cw(ns:Ql)(k:Int):Int:=
 if YQ ns 0/720%2=1 then (mix (YQ ns 0) k 30).2.2 else Ro (YQ ns k)+(mix (YQ ns 0) k 30).2.2*2^Fw (Ro<|YQ ns k)
structure Ln where
 up:Option Nat
 bs:Ql
structure Yd where
 T:Nat
 ls:List Ln
def Zc(y:Yd)(k:Nat):Option Nat:=(y.ls[k]?).bind (·.up)
structure Yd.Ok(y:Yd):Prop where
 t1:1<=y.T
 t8:y.T<=8
 l1:1<=y.ls.length
 l5:y.ls.length<=5
 up0:Zc y 0=none
 ups:∀k,0<k->k<y.ls.length->∃a,Zc y k=some a/\a<k
 bl:∀l∈y.ls,l.bs.length=y.T
 bb:∀l∈y.ls,∀b∈l.bs,0<=b/\b<10^300
def HN{b:Int}(h:b<10^30):b<10^300:=Int.lt_trans h (by decide +kernel)
noncomputable def upF9(y:Yd):Nat->Nat->Qk
 |0,k=>[k]
 |n+1,k=>k::match Zc y k with
  |none=>[]
  |some a=>if a<k then upF9 y n a else []
theorem upE9(y:Yd):∀n k m,k<=n->k<=m->upF9 y n k=upF9 y m k
 |0,k,0,_,_=>rfl
 |0,k,m+1,h,_=>by
  cases Nat.le_zero.mp h;unfold upF9;cases Zc y 0<;>simp
 |n+1,k,0,_,h=>by
  cases Nat.le_zero.mp h;unfold upF9;cases Zc y 0<;>simp
 |n+1,k,m+1,h,g=>by
  unfold upF9;cases Zc y k with
  |none=>rfl
  |some a=>
   by_cases l:a<k
   .simp only[l,if_true,upE9 y n a m (by omega)<|by omega]
   .simp only[l,if_false]
def upL(y:Yd)(k:Nat):Qk:=upF9 y k k
theorem upD9(y:Yd)(k:Nat):upL y k=k::match Zc y k with|none=>[]|some a=>if a<k then upL y a else []:=by
 unfold upL;rw[upE9 y k k (k+1) (Nat.le_refl _)<|by omega];show k::_=_
 cases Zc y k with
 |none=>rfl
 |some a=>
  by_cases l:a<k
  .simp only[l,if_true,upE9 y k a a (by omega)<|Nat.le_refl _]
  .simp only[l,if_false]
def Sn{y:Yd}(b:y.Ok)(g:k<y.ls.length):upL y k=if k=0 then [0] else k::upL y ((Zc y k).getD 0):=by
 rw[upD9];by_cases f:k=0
 .subst f;simp[b.up0]
 .obtain⟨a,e,l⟩:=b.ups k (by lia) g;simp[e,l,f]
def Sl(y:Yd):∀k,∀j∈upL y k,j<=k:=by
 intro k;induction k using Nat.strongRecOn with
 |ind k g=>
  intro j b;rw[upD9]at b;rcases Xe.mp b with rfl|b
  .exact Xq _
  .cases e:Zc y k with
   |none=>rw[e]at b;simp at b
   |some a=>
    rw[e]at b;by_cases f:a<k
    .simp only[f,if_true]at b;have:=g a f j b;lia
    .simp only[f,if_false]at b;simp at b
def Kf(y:Yd)(k:Nat):k∈upL y k:=by rw[upD9];exact Xc
def Hh{y:Yd}(b:y.Ok)(h0:0<k)(g:k<y.ls.length){a:Nat}(e:Zc y k=some a)(l:Nat)(f:l≠k):l∈upL y k↔l∈upL y a:=by
 rw[Sn b g,Xb<|by lia,e];simp only[Option.getD_some,Xe];constructor
 .rintro(h|h)
  .exact Xz h f
  .exact h
 .exact .inr
structure Gs where
 line:Nat
 first:Nat
 last:Nat
 want:Int
 most:Int
structure Gs.Ok(y:Yd)(g:Gs):Prop where
 ln:g.line<y.ls.length
 fl:g.first<=g.last
 lt:g.last<y.T
 w1:1<=g.want
 w2:g.want<10^300
 m1:1<=g.most
 m2:g.most<10^300
def gn0(ns:Ql)(k:Nat):Int:=Cw ns (6+(k:Int))
def gn1(ns:Ql)(y:Yd)(k:Nat):Int:=gn0 ns k/(y.ls.length:Int)
def gn2(ns:Ql)(y:Yd)(k:Nat):Int:=gn1 ns y k/(y.T:Int)
def gf(ns:Ql)(y:Yd)(k:Nat):Int:=gn1 ns y k%(y.T:Int)
def gl(ns:Ql)(y:Yd)(k:Nat):Int:=gf ns y k+gn2 ns y k%((y.T:Int)-gf ns y k)
def Vn(g:Gs)(t:Int):Bool:=decide ((g.first:Int)<=t)&&decide (t<=(g.last:Int))
def Z3(y:Yd)(l:Nat)(t:Nat):Int:=(((y.ls[l]?).map (·.bs)).getD []).getD t 0
noncomputable def Zw(gs:List Gs)(t:Int)(l:Nat):Qk->Int
 |[]=>0
 |k::r=>(match gs[k]? with|some g=>if g.line=l/\Vn g t=true then g.most else 0|none=>0)+Zw gs t l r
def UF(gs:List Gs)(t:Int)(l:Nat)(a b:Qk):Zw gs t l (a++b)=Zw gs t l a+Zw gs t l b:=by
 induction a with
 |nil=>simp[Zw]
 |cons k r f=>simp only[GM,Zw,f];lia
noncomputable def Ww(y:Yd)(b:Qn)(st:Qn)(j:Nat):Qn:=λl=>st l+(if Zc y j=some l then min (st j) (b j) else 0)
def ZX(y:Yd)(b own:Qn):Nat->Qn
 |0=>own
 |i+1=>Ww y b (ZX y b own i) (y.ls.length-1-i)
def V0(y:Yd)(b own:Qn)(l:Nat):Int:=ZX y b own (y.ls.length-1) l
def passes(y:Yd)(b own:Qn)(l:Nat):Int:=min (V0 y b own l) (b l)
noncomputable def Jh(y:Yd)(b own:Qn)(l:Nat):Qn
 |0=>0
 |n+1=>Jh y b own l n+(if Zc y (l+1+n)=some l then passes y b own (l+1+n) else 0)
theorem Le(y:Yd)(f:y.Ok)(b own:Qn)(l:Nat):∀i,i<=y.ls.length-1->y.ls.length-1-i<=l->∀d,i+d<=y.ls.length-1->ZX y b own (i+d) l=ZX y b own i l
 |i,h,g,0,_=>rfl
 |i,h,g,d+1,r=>by
  have j:=Le y f b own l i h g d (by lia);show Ww y b (ZX y b own<|i+d) (y.ls.length-1-(i+d)) l=_;unfold Ww;rw[j];by_cases m:0<y.ls.length-1-(i+d)
  .obtain⟨a,n,p⟩:=f.ups (y.ls.length-1-(i+d)) m (by lia);rw[n];have:¬some a=some l:=by
    intro z;injection z with z;lia
   rw[Xb this];lia
  .have:y.ls.length-1-(i+d)=0:=by lia
   lia
def Lq{y:Yd}(a:y.Ok)(b own:Qn)(f:j<y.ls.length):ZX y b own (y.ls.length-1-j) j=V0 y b own j:=by
 unfold V0;have:=Le y a b own j (y.ls.length-1-j) (by lia) (by lia) j (by lia);rw[show y.ls.length-1-j+j=y.ls.length-1 by lia]at this;exact this.symm
theorem T3{y:Yd}(f:y.Ok)(b own:Qn)(l:Nat):∀i,i<=y.ls.length-1->ZX y b own i l+Jh y b own l (y.ls.length-1-i-l)=own l+Jh y b own l (y.ls.length-1-l)
 |0,_=>by simp[ZX]
 |i+1,B=>by
  have g:=T3 f b own l i (by lia);have e:ZX y b own (i+1) l=ZX y b own i l+(if Zc y (y.ls.length-1-i)=some l then passes y b own (y.ls.length-1-i) else 0):=by
   show Ww y b (ZX y b own i) (y.ls.length-1-i) l=_;unfold Ww passes;have m:y.ls.length-1-i<y.ls.length:=by have:=f.l1;lia
   have j:=Lq f b own m;rw[show y.ls.length-1-(y.ls.length-1-i)=i by lia]at j;rw[j]
  rw[e];by_cases A:l<y.ls.length-1-i
  .obtain⟨d,p⟩:∃d,y.ls.length-1-i-l=d+1:=⟨y.ls.length-1-i-l-1,by lia⟩
   rw[p]at g;have h:y.ls.length-1-(i+1)-l=d:=by lia
   rw[h];have s:l+1+d=y.ls.length-1-i:=by lia
   simp only[Jh,s]at g;lia
  .have v:y.ls.length-1-i-l=0:=by lia
   have h:y.ls.length-1-(i+1)-l=0:=by lia
   rw[v]at g;rw[h];have:¬Zc y (y.ls.length-1-i)=some l:=by
    intro z;have n:0<y.ls.length-1-i:=by lia
    obtain⟨a,r,w⟩:=f.ups (y.ls.length-1-i) n (by lia);rw[r]at z;injection z with z;lia
   rw[Xb this];simp only[Jh]at g ⊢;lia
def Ob{y:Yd}(a:y.Ok)(b own:Qn)(l:Nat):V0 y b own l=own l+Jh y b own l (y.ls.length-1-l):=by
 have h:=T3 a b own l (y.ls.length-1) (Xq _);rw[show y.ls.length-1-(y.ls.length-1)-l=0 by lia]at h;simp only[Jh]at h;unfold V0;lia
def Q1(f:Qn):Qn
 |0=>0
 |n+1=>Q1 f n+f n
theorem Zi{f g:Qn}:∀{n:Nat},(∀k,k<n->f k=g k)->Q1 f n=Q1 g n
 |0,_=>rfl
 |n+1,h=>by
  simp only[Q1];rw[Zi (n:=n) λk a=>h k<|by lia,h n<|by lia]
theorem Wj{f g:Qn}:∀{n:Nat},(∀k,k<n->f k<=g k)->Q1 f n<=Q1 g n
 |0,_=>YJ _
 |n+1,h=>by
  simp only[Q1];have:=Wj (n:=n) λk a=>h k (by lia)
  have:=h n (by lia);lia
theorem B6(f g:Qn):∀n,Q1 (λk=>f k+g k) n=Q1 f n+Q1 g n
 |0=>rfl
 |n+1=>by simp only[Q1];rw[B6 f g n];lia
theorem MF(c:Int)(f:Qn):∀n,Q1 (λk=>c*f k) n=c*Q1 f n
 |0=>by simp[Q1]
 |n+1=>by simp only[Q1];rw[MF c f n,Int.mul_add]
theorem Vj:∀n,Q1 (λ_=>0) n=0
 |0=>rfl
 |n+1=>by simp only[Q1];rw[Vj n];rfl
theorem Gw{a:Nat}{v:Int}:∀{n:Nat},Q1 (λl=>if l=a then v else 0) n=if a<n then v else 0
 |0=>by simp[Q1]
 |n+1=>by
  simp only[Q1];rw[Gw (n:=n)]
  by_cases h:n=a
  .subst h;simp
  .by_cases b:a<n
   .simp[h,b];lia
   .have:¬a<n+1:=by lia
    simp[h,b,this]
def M0{f:Qn}(h:∀k,k<n->0<=f k):0<=Q1 f n:=by
 have:=Wj (f:=λ_=>0) (g:=f) (n:=n) h;rw[Vj]at this;exact this
theorem Ny{y:Yd}{b g own a:Qn}(f:∀l,b l<=g l)(h:∀l,own l<=a l):∀i l,ZX y b own i l<=ZX y g a i l
 |0,l=>h l
 |i+1,l=>by
  simp only[ZX,Ww];have n:=Ny (y:=y) f h i l;have m:=Ny (y:=y) f h i (y.ls.length-1-i);have j:=f (y.ls.length-1-i);split<;>lia
def ZkZ{y:Yd}{b:Qn}(a:∀l,b l<=b' l)(h:∀l,own l<=own' l)(l:Nat):passes y b own l<=passes y b' own' l:=by
 have g:=Ny (y:=y) a h (y.ls.length-1) l;have f:=a l;unfold passes V0;lia
noncomputable def wgt(gs:List Gs)(t:Int)(l k:Nat):Int:=match gs[k]? with|some g=>if g.line=l/\Vn g t=true then g.most else 0|none=>0
def AQ(gs:List Gs)(t:Int)(l k:Nat):Zw gs t l [k]=wgt gs t l k:=by
 simp only[Zw,wgt];cases gs[k]? with
 |none=>rfl
 |some g=>simp
def Zmv(gs:List Gs)(t:Int)(l:Nat)(p:Qm)(m:Nat):Zw gs t l ((List.range m).filter p)=Q1 (λk=>if p k=true then wgt gs t l k else 0) m:=by
 induction m with
 |zero=>rfl
 |succ m a=>
  rw[YL,JP,UF,a];simp only[Q1];cases e:p m with
  |true=>simp only[JV,e,if_true,List.filter_nil,AQ]
  |false=>simp only[JV,e,List.filter_nil,Zw,X6,if_false]
theorem BA(f:Nat->Qn)(n:Nat):∀m,Q1 (λl=>Q1 (λk=>f l k) m) n=Q1 (λk=>Q1 (λl=>f l k) n) m
 |0=>by simp only[Q1];exact Vj n
 |m+1=>by
  simp only[Q1];rw[B6,BA f n m]
end Mir
namespace L2
structure Q0(F H F' H':Hp):Prop where
 hh:Q7 H H'
 ff:Q7 F F'
 fh:Q7 F' H'
 fr:∀a,F' a≠none->F a≠none\/H a=none
def Q0.refl(s:Q7 F H):Q0 F H F H:=⟨Q7.refl _,Q7.refl _,s,λ_ h=>.inl h⟩
def Q0.trans(a:Q0 F H F1 H1)(b:Q0 F1 H1 F2 H2):Q0 F H F2 H2:=
 ⟨a.hh.trans b.hh,a.ff.trans b.ff,b.fh,λp h=>by
  rcases b.fr p h with z|z
  .exact a.fr p z
  .exact .inr (a.hh.free z)⟩
def Z1{H:Hp}{o:HO}(h:H a=some o):H a≠none:=by rw[h];rintro⟨⟩
def Mu{H:Hp}(h:H a≠none):∃o,H a=some o:=by
 cases e:H a with
 |none=>exact Xz e h
 |some o=>exact⟨o,rfl⟩
def Ej{p:Addr}(s:Q7 F H):Q7 (upd F p o) (upd H p o):=λb u e=>by
 by_cases h:b=p
 .subst h;rw[QG]at e ⊢;exact e
 .rw[Qu h]at e ⊢;exact s b u e
def Q0.new{p:Addr}(s:Q7 F H)(b:H p=none):Q0 F H (upd F p o) (upd H p o):=
 ⟨Q7.new b,Q7.new<|s.free b,Ej s,λa h=>by
  by_cases e:a=p
  .subst e;exact .inr b
  .rw[Qu e]at h;exact .inl h⟩
def Q0.own{p:Addr}(s:Q7 F H)(a:H p=none):Q0 F H F (upd H p o):=
 ⟨Q7.new a,Q7.refl _,s.upd<|s.free a,λ_ h=>.inl h⟩
def Q0.freeze(x:Q0 F0 H0 F H)(g:F a=none)(f:H a=some o)(h0:H0 a=none):Q0 F0 H0 (upd F a o) H:=
 ⟨x.hh,x.ff.trans<|Q7.new g,λb u e=>by
  by_cases h:b=a
  .subst h;rw[QG]at e;rw[f];exact e
  .rw[Qu h]at e;exact x.fh b u e,λb h=>by
  by_cases e:b=a
  .subst e;exact .inr h0
  .rw[Qu e]at h;exact x.fr b h⟩
def Q0.free(x:Q0 F H F' H')(f:F a=none)(b:H a≠none):F' a=none:=by
 cases e:F' a with
 |none=>rfl
 |some o=>
  rcases x.fr a (Z1 e) with z|z
  .exact Xz f z
  .exact Xz z b
structure OwnP where
 ok:W.Frag->Hp->Hp->V->Qg->Prop
 there:∀{K:W.Frag} {F H:Hp} {v:V} {p:Qg},ok K F H v p->∀a∈p,F a=none/\H a≠none
 mono:∀{K:W.Frag} {F F' H H':Hp} {v:V} {p:Qg},Q7 F F'->(∀a∈p,F' a=none)->(∀a∈p,H' a=H a)->ok K F H v p->ok K F' H' v p
 uniq:∀{K:W.Frag} {F H:Hp} {v:V} {p q:Qg},ok K F H v p->ok K F H v q->∀a∈q,a∈p
structure ZP where
 ok:W.Frag->Hp->V->Prop
 mono:∀{K:W.Frag} {F F':Hp} {v:V},Q7 F F'->ok K F v->ok K F' v
inductive OT where
 |zow (Ψ:ZP)
 |fz (d:PyData)
 |ol (ds:Qd)
 |oll (T1:List (Qd))
 |scr (ns:Ql)
 |own (v:V)(Φ:OwnP)
abbrev ZbJ:=List (Option OT)
abbrev zi(n:Int):Option OT:=some (.fz (.int n))
abbrev zf(d:PyData):Option OT:=some (.fz d)
abbrev zo(v:V)(d:OwnP):Option OT:=some (.own v d)
abbrev zz(d:ZP):Option OT:=some (.zow d)
noncomputable abbrev zr(N:List Str)(ts:List OT):ZbJ:=ts.map some++List.replicate (N.length-ts.length) none
abbrev zg(r:ZbJ)(i:Nat)(t:Option OT):Prop:=r[i]?=some t
def Vz(F H:Hp)(a:Addr)(ds:Qd):Prop:=F a=none/\∃xs,H a=some (.lst xs)/\Qx F xs ds
def Z8(F H:Hp):Qg->List (Qd)->Prop
 |[],[]=>True
 |a::b,ds::T1=>Vz F H a ds/\Z8 F H b T1
 |_,_=>False
def Ze(K:W.Frag)(F H:Hp)(v:V):OT->Qg->Prop
 |.fz d,p=>p=[]/\Rep F v d
 |.ol ds,p=>∃a,v=.ref a/\p=[a]/\Vz F H a ds
 |.oll T1,p=>∃a b,v=.ref a/\p=a::b/\(a::b).Nodup/\F a=none/\H a=some (.lst<|b.map V.ref)/\Z8 F H b T1
 |.scr i,p=>p=[]/\∃a,v=.ref a/\Scr K F a i
 |.own h g,p=>v=h/\g.ok K F H v p
 |.zow f,p=>p=[]/\f.ok K F v
def Q7.at_eq(s:Q7 H H')(h:H a≠none):H' a=H a:=by
 cases e:H a with
 |none=>exact Xz e h
 |some o=>exact s _ _ e
def Vz.ext(h:Vz F H a ds)(x:Q0 F H F' H'):Vz F' H' a ds:=by
 obtain⟨g,xs,b,f⟩:=h;exact⟨x.free g<|Z1 b,xs,x.hh _ _ b,f.mono x.ff⟩
theorem Z8.mem{F H:Hp}:∀{as:Qg} {T1:List (Qd)},Z8 F H as T1->∀a∈as,F a=none/\H a≠none
 |[],[],_,a,f=>by cases f
 |b::as,_::_,h,a,f=>by
  rcases Xe.mp f with rfl|f
  .obtain⟨i,xs,g,_⟩:=h.1;exact⟨i,Z1 g⟩
  .exact Z8.mem h.2 a f
 |[],_::_,h,_,_=>False.elim h
 |_::_,[],h,_,_=>False.elim h
def Ze.there{p:Qg}(h:Ze K F H v t p):∀a∈p,F a=none/\H a≠none:=by
 cases t with
 |fz d=>obtain⟨rfl,_⟩:=h;intro a g;cases g
 |zow w=>obtain⟨rfl,_⟩:=h;intro a g;cases g
 |ol ds=>
  obtain⟨a,s,rfl,j,xs,i,_⟩:=h;intro b f;have e:b=a:=by simpa using f
  subst e;exact⟨j,Z1 i⟩
 |oll T1=>
  obtain⟨a,B,s,rfl,j,i,r,n⟩:=h;intro b f;rcases Xe.mp f with rfl|f
  .exact⟨i,Z1 r⟩
  .exact n.mem b f
 |scr A=>obtain⟨rfl,_⟩:=h;intro a g;cases g
 |own y m=>exact m.there h.2
def Vz.other{b:Addr}(h:Vz F H a ds)(n:a≠b):Vz F (upd H b o) a ds:=by
 obtain⟨i,xs,g,f⟩:=h;exact⟨i,xs,by rw[Qu n];exact g,f⟩
theorem Z8.move{F g H m:Hp}(s:Q7 F g):∀{as:Qg} {T1:List (Qd)},(∀a∈as,g a=none)->(∀a∈as,m a=H a)->Z8 F H as T1->Z8 g m as T1
 |[],[],_,_,_=>trivial
 |a::as,_::_,j,i,o=>by
  obtain⟨⟨v,xs,r,p⟩,n⟩:=o;exact⟨⟨j a Xc,xs,by rw[i a Xc];exact r,p.mono s⟩,Z8.move s (λb f=>j b<|Xi _ f) (λb f=>i b<|Xi _ f) n⟩
 |[],_::_,_,_,h=>False.elim h
 |_::_,[],_,_,h=>False.elim h
def Ze.move{p:Qg}(s:Q7 F F')(i:∀a∈p,F' a=none)(g:∀a∈p,H' a=H a)(h:Ze K F H v t p):Ze K F' H' v t p:=by
 cases t with
 |fz d=>exact⟨h.1,h.2.mono s⟩
 |zow r=>exact⟨h.1,r.mono s h.2⟩
 |ol ds=>
  obtain⟨a,rfl,rfl,m,xs,j,f⟩:=h;exact⟨a,rfl,rfl,i a Xc,xs,by rw[g a Xc];exact j,f.mono s⟩
 |oll T1=>
  obtain⟨a,A,rfl,rfl,m,j,f,y⟩:=h;exact⟨a,A,rfl,rfl,m,i a Xc,by rw[g a Xc];exact f,y.move s (λb n=>i b<|Xi _ n) λb n=>g b<|Xi _ n⟩
 |scr C=>obtain⟨m,a,j,f⟩:=h;exact⟨m,a,j,f.mono s⟩
 |own B w=>exact⟨h.1,w.mono s i g h.2⟩
theorem Kb:∀{as bs:Qg},as.map V.ref=bs.map V.ref->as=bs
 |[],[],_=>rfl
 |a::as,b::bs,h=>by
  rw[Xw,Xw]at h;injection h with g f;cases g;rw[Kb f]
 |[],_::_,h=>by cases h
 |_::_,[],h=>by cases h
def Jd{w:V}{p:Qg}(h:Ze K F H w t p)(h':Ze K F H w t q):∀b∈q,b∈p:=by
 cases t with
 |fz d=>rw[h'.1];intro b g;cases g
 |zow A=>rw[h'.1];intro b g;cases g
 |ol ds=>
  obtain⟨P,j,i,r⟩:=h';obtain⟨M,f,n,m⟩:=h;rw[j]at f;cases f;rw[i,n];exact λ_ z=>z
 |oll T1=>
  obtain⟨a,R,j,i,_,_,r,_⟩:=h';obtain⟨b,E,f,n,_,_,m,_⟩:=h;rw[j]at f;cases f;rw[r]at m;injection m with y;injection y with v;rw[i,n,Kb v];exact λ_ z=>z
 |scr C=>rw[h'.1];intro b g;cases g
 |own B s=>exact s.uniq h.2 h'.2
def Z8.ext(x:Q0 F H F' H')(h:Z8 F H as T1):Z8 F' H' as T1:=h.move x.ff (λa b=>x.free (h.mem a b).1 (h.mem a b).2) λa b=>x.hh.at_eq (h.mem a b).2
def Ze.ext{p:Qg}(h:Ze K F H v t p)(x:Q0 F H F' H'):Ze K F' H' v t p:=h.move x.ff (λa b=>x.free (h.there a b).1 (h.there a b).2) λa b=>x.hh.at_eq (h.there a b).2
def Z8.other{b:Addr}(h:Z8 F H as T1)(n:b∉as):Z8 F (upd H b o) as T1:=h.move (Q7.refl _) (λa f=>(h.mem a f).1) λa f=>Qu λz=>n (z▸f)
def Ze.other{p:Qg}{b:Addr}(h:Ze K F H v t p)(n:b∉p):Ze K F (upd H b o) v t p:=h.move (Q7.refl _) (λa f=>(h.there a f).1) λa f=>Qu λz=>n (z▸f)
def KTs(K:W.Frag)(F:Hp):Prop:=W.nsIn K mainGlobals "START"=some none\/∃a b,W.nsIn K mainGlobals "START"=some (some<|.ref a)/\W.nsIn K mainGlobals "END"=some (some<|.ref b)/\F a=some (.tup [.str "start"])/\F b=some (.tup [.str "end"])
def KTs.mono(h:KTs K F)(s:Q7 F F'):KTs K F':=
 h.imp id<|by rintro⟨i,j,g,f,b,a⟩;exact⟨i,j,g,f,s _ _ b,s _ _ a⟩
structure Q9(K:W.Frag)(H0 F:Hp)(ρ:ZbJ)(σ:St)(H:Hp):Prop where
 kt:KTs K F
 sub:Q7 F H
 len:σ.length=ρ.length
 fp:∃fp:Nat->Qg,(∀(i:Nat) (t:OT),ρ[i]?=some (some t)->∃v,σ[i]?=some (some v)/\Ze K F H v t (fp i))/\
  (∀(i j:Nat) (a:Addr),a∈fp i->a∈fp j->i=j)/\∀(i:Nat) (a:Addr),a∈fp i->H0 a=none/\H a≠none
def Q9.ext(s:Q9 K H0 F ρ σ H)(x:Q0 F H F' H'):Q9 K H0 F' ρ σ H':=by
 obtain⟨g,y,p,r,n,m,j⟩:=s;refine⟨g.mono x.ff,x.fh,p,r,λi t e=>?_,m,λi a h=>?_⟩
 .obtain⟨v,f,b⟩:=n i t e;exact⟨v,f,b.ext x⟩
 .obtain⟨f,b⟩:=j i a h;obtain⟨o,w⟩:=Mu b;exact⟨f,Z1<|x.hh _ _ w⟩
def Fgt:ZbJ->ZbJ->Prop
 |[],[]=>True
 |_::r,none::a=>Fgt r a
 |s::r,some x::a=>s=some x/\Fgt r a
 |_,_=>False
theorem Fgt.len:∀{ρ a:ZbJ},Fgt ρ a->ρ.length=a.length
 |[],[],_=>rfl
 |_::r,none::b,h=>by
  have h':Fgt r b:=h;simp[Fgt.len h']
 |s::r,some x::b,h=>by
  have h':s=some x/\Fgt r b:=h;simp[Fgt.len h'.2]
 |[],none::_,h=>False.elim h
 |[],some _::_,h=>False.elim h
 |_::_,[],h=>False.elim h
theorem Fgt.get:∀{ρ b:ZbJ},Fgt ρ b->∀(i:Nat) (t:OT),b[i]?=some (some t)->ρ[i]?=some (some t)
 |[],[],_,i,t,e=>by simp at e
 |_::r,none::a,h,0,t,e=>by simp at e
 |_::r,none::a,h,i+1,t,e=>by
  have h':Fgt r a:=h;have:=Fgt.get h' i t (by simpa using e);simpa using this
 |s::r,some x::a,h,0,t,e=>by
  have h':s=some x/\Fgt r a:=h;simp at e;subst e;simp[h'.1]
 |s::r,some x::a,h,i+1,t,e=>by
  have h':s=some x/\Fgt r a:=h;have:=Fgt.get h'.2 i t (by simpa using e);simpa using this
 |[],none::_,h,_,_,_=>False.elim h
 |[],some _::_,h,_,_,_=>False.elim h
 |_::_,[],h,_,_,_=>False.elim h
def Q9.fgt(s:Q9 K H0 F ρ σ H)(f:Fgt ρ ρ'):Q9 K H0 F ρ' σ H:=by
 obtain⟨a,m,j,n,h,g,b⟩:=s;exact⟨a,m,j.trans f.len,n,λi t e=>h i t<|f.get i t e,g,b⟩
def Q9.set{p:Qg}(s:Q9 K H0 F ρ σ H)(R:Ze K F H v t p)
(c:∀(a:Addr),a∈p->H0 a=none)
(hn:∀(a:Addr),a∈p->∀(j:Nat) (u:V) (t':OT) (q:Qg),ρ[j]?=some (some t')->σ[j]?=some (some u)->Ze K F H u t' q->a∉q):
 Q9 K H0 F (ρ.set i<|some t) (σ.set i<|some v) H:=by
 obtain⟨Y,x,o,A,W,l,d⟩:=s;refine⟨Y,x,by simp[o],λj=>if j=i then p else if (ρ[j]?).join.isSome then A j else [],λj t' e=>?_,λj k a g M=>?_,λj a g=>?_⟩
 .by_cases b:j=i
  .subst b;have C:j<ρ.length:=by
    have:=(Xf.mp e).1;simpa using this
   rw[Xm C]at e;cases e;refine⟨v,Xm<|by lia,?_⟩;dsimp only;rw[Xd rfl];exact R
  .rw[Xt<|Ne.symm b]at e;obtain⟨u,n,m⟩:=W j t' e;refine⟨u,by rw[Xt<|Ne.symm b];exact n,?_⟩;dsimp only;rw[Xb b,e,Xd<|by rfl];exact m
 .have h:∀(j:Nat),j≠i->a∈(if j=i then p else if (ρ[j]?).join.isSome then A j else [])->∃t' u,ρ[j]?=some (some t')/\σ[j]?=some (some u)/\Ze K F H u t' (A j)/\a∈A j:=λj b r=>by
   rw[Xb b]at r;cases e:(ρ[j]?).join with
   |none=>rw[e]at r;simp at r
   |some t'=>
    rw[e]at r;have X:ρ[j]?=some (some t'):=by
     cases z:ρ[j]? with
     |none=>rw[z]at e;simp at e
     |some w=>rw[z]at e;simp at e;rw[e]
    obtain⟨u,n,m⟩:=W j t' X;exact⟨t',u,X,n,m,by simpa using r⟩
  by_cases b:j=i
  .by_cases y:k=i
   .lia
   .obtain⟨t',u,n,m,P,B⟩:=h k y M;have f:a∈p:=by simpa [b] using g
    exact Xz B (hn a f k u t' _ n m P)
  .obtain⟨t',u,n,m,P,B⟩:=h j b g
   by_cases y:k=i
   .have E:a∈p:=by simpa [y] using M
    exact Xz B (hn a E j u t' _ n m P)
   .obtain⟨I,G,N,L,J,D⟩:=h k y M;exact l j k a B D
 .by_cases b:j=i
  .have f:a∈p:=by simpa [b] using g
   exact⟨c a f,(R.there a f).2⟩
  .simp only[Xb b]at g;split at g
   .exact d j a g
   .cases g
def Q9.setF(s:Q9 K H0 F ρ σ H)(r:Rep F v d):Q9 K H0 F (ρ.set i<|zf d) (σ.set i<|some v) H:=
 s.set (p:=[]) ⟨rfl,r⟩ (by rintro a ⟨⟩) (hn:=λa b=>nomatch b)
def Q9.chg(s:Q9 K H0 F ρ σ H)(e:ρ[i]?=some (some t)):
 ∃v p,σ[i]?=some (some v)/\Ze K F H v t p/\(∀b∈p,H0 b=none/\F b=none/\H b≠none)/\∀w r t' E,Q7 F w->Q7 w r->(∀b,b∉p->H b≠none->r b=H b)->(∀b,w b≠none->F b≠none\/H b=none\/b∈p)->Ze K w r v t' E->(∀b∈E,b∈p\/(H b=none/\H0 b=none))->
  Q9 K H0 w (ρ.set i<|some t') σ r/\∀j u g q,j≠i->ρ[j]?=some (some g)->σ[j]?=some (some u)->Ze K w r u g q->∀b∈q,b∉p/\H b≠none:=by
 obtain⟨O,Z,S,n,Y,I,m⟩:=s;obtain⟨v,J,l⟩:=Y i _ e;have X:=(Xf.mp e).1;refine⟨v,n i,J,l,λb a=>⟨(m i b a).1,l.there b a⟩,λw r t' E d L Q T M C=>?_⟩;have h:∀j,j≠i->∀b∈n j,b∉n i:=λj f b a z=>f (I j i b a z);have G:∀j,j≠i->∀b∈n j,r b=H b:=λj f b a=>Q b (h j f b a) (m j b a).2
 have x:∀j g u,j≠i->Ze K F H u g (n j)->Ze K w r u g (n j):=λj g u f B=>B.move d (λb a=>Classical.byContradiction λz=>by
  rcases T b z with y|y|y
  .exact y (B.there b a).1
  .exact(m j b a).2 y
  .exact h j f b a y) (G j f)
 have o:∀j,j≠i->∀b∈n j,b∉E:=λj f b a z=>by
  rcases C b z with y|y
  .exact h j f b a y
  .exact(m j b a).2 y.1
 refine⟨⟨O.mono d,L,by simp[S],λj=>if j=i then E else n j,λj g R=>?_,λj k b a A=>?_,λj b a=>?_⟩,λj u g q f N D W b a=>?_⟩
 .by_cases f:j=i
  .subst f;rw[Xm X]at R;cases R;exact⟨v,J,by simp only[if_true];exact M⟩
  .rw[Xt<|Ne.symm f]at R;obtain⟨u,c,B⟩:=Y j g R;exact⟨u,c,by simp only[Xb f];exact x j g u f B⟩
 .by_cases f:j=i<;>by_cases P:k=i
  .rw[f,P]
  .simp only[Xd f]at a;simp only[Xb P]at A;exact Xz a (o k P b A)
  .simp only[Xb f]at a;simp only[Xd P]at A;exact Xz A (o j f b a)
  .simp only[Xb f]at a;simp only[Xb P]at A;exact I j k b a A
 .by_cases f:j=i
  .simp only[Xd f]at a;exact⟨(C b a).elim (λz=>(m i b z).1) λz=>z.2,(M.there b a).2⟩
  .simp only[Xb f]at a;exact⟨(m j b a).1,by rw[G j f b a];exact(m j b a).2⟩
 .obtain⟨U,c,B⟩:=Y j g N;rw[c]at D;cases D;have z:=Jd (x j g u f B) W b a;exact⟨h j f b z,(m j b z).2⟩
def Q9.write(s:Q9 K H0 F ρ σ H)(e:ρ[i]?=some (some<|.ol ds)):
 ∃a xs,σ[i]?=some (some<|.ref a)/\H a=some (.lst xs)/\Qx F xs ds/\H0 a=none/\F a=none/\∀f g,Qx F f g->Q9 K H0 F (ρ.set i<|some<|.ol g) σ (upd H a<|.lst f):=by
 obtain⟨v,p,y,⟨a,rfl,rfl,f0,xs,w,r⟩,n,k⟩:=s.chg e;exact⟨a,xs,y,w,r,(n a Xc).1,f0,λf g m=>(k F _ (.ol g) [a] (Q7.refl _) (s.sub.upd f0) (λb j _=>Qu λz=>j<|by rw[z];exact Xc) (λb h=>.inl h) ⟨a,rfl,rfl,f0,f,QG,m⟩ λb j=>.inl j).1⟩
def Q9.freeze(s:Q9 K H0 F ρ σ H)(e:ρ[i]?=some (some<|.ol ds)):
 ∃a xs,F a=none/\H a=some (.lst xs)/\H0 a=none/\σ[i]?=some (some<|.ref a)/\Qx F xs ds/\Q9 K H0 (upd F a<|.lst xs) (ρ.set i<|zf<|.list ds) σ H:=by
 obtain⟨v,p,m,⟨a,rfl,rfl,f0,xs,h,r⟩,j,k⟩:=s.chg e;have g:Q7 F (upd F a<|.lst xs):=Q7.new f0;refine⟨a,xs,f0,h,(j a Xc).1,m,r,(k _ H (.fz<|.list ds) [] g (λb u f=>?_) (λ_ _ _=>rfl) (λb f=>?_) ⟨rfl,.lst QG<|r.mono g⟩<|by rintro b ⟨⟩).1⟩
 .by_cases z:b=a
  .subst z;rw[QG]at f;rw[h];exact f
  .rw[Qu z]at f;exact s.sub b u f
 .by_cases z:b=a
  .exact .inr (.inr<|by rw[z];exact Xc)
  .rw[Qu z]at f;exact .inl f
inductive Args(K:W.Frag)(F:Hp):List V->List OT->Prop
 |nil:Args K F [] []
 |fz {v:V}{d:PyData}{vs:List V}{ts:List OT}:Rep F v d->Args K F vs ts->Args K F (v::vs) (.fz d::ts)
 |zow {v:V}{Ψ:ZP}{vs:List V}{ts:List OT}:Ψ.ok K F v->Args K F vs ts->Args K F (v::vs) (.zow Ψ::ts)
 |scr {a:Addr}{ns:Ql}{vs:List V}{ts:List OT}:Scr K F a ns->Args K F vs ts->Args K F (.ref a::vs) (.scr ns::ts)
theorem Args.mono{K:W.Frag}{F a:Hp}(s:Q7 F a):∀{vs:List V} {ts:List OT},Args K F vs ts->Args K a vs ts
 |_,_,.nil=>.nil
 |_,_,.fz r t=>.fz (r.mono s) (Args.mono s t)
 |_,_,.scr r t=>.scr (r.mono s) (Args.mono s t)
 |_,_,.zow (Ψ:=Ψ) r t=>.zow (Ψ.mono s r) (Args.mono s t)
theorem Args.length{K:W.Frag}{F:Hp}:∀{vs:List V} {ts:List OT},Args K F vs ts->vs.length=ts.length
 |_,_,.nil=>rfl
 |_,_,.fz _ t=>by simp[Args.length t]
 |_,_,.scr _ t=>by simp[Args.length t]
 |_,_,.zow _ t=>by simp[Args.length t]
theorem Args.get{K:W.Frag}{F H:Hp}:∀{vs:List V} {ts:List OT},Args K F vs ts->∀(i:Nat) (t:OT),ts[i]?=some t->∃v,vs[i]?=some v/\Ze K F H v t []
 |_,_,.nil,i,t,e=>by simp at e
 |_,_,.fz r _,0,t,e=>by simp at e;subst e;exact⟨_,rfl,rfl,r⟩
 |_,_,.scr r _,0,t,e=>by simp at e;subst e;exact⟨_,rfl,rfl,_,rfl,r⟩
 |_,_,.zow r _,0,t,e=>by simp at e;subst e;exact⟨_,rfl,rfl,r⟩
 |_,_,.zow _ q,i+1,t,e=>by
  obtain⟨v,b,a⟩:=Args.get (H:=H) q i t (by simpa using e);exact⟨v,by simpa using b,a⟩
 |_,_,.fz _ q,i+1,t,e=>by
  obtain⟨v,b,a⟩:=Args.get (H:=H) q i t (by simpa using e);exact⟨v,by simpa using b,a⟩
 |_,_,.scr _ q,i+1,t,e=>by
  obtain⟨v,b,a⟩:=Args.get (H:=H) q i t (by simpa using e);exact⟨v,by simpa using b,a⟩
section
variable (K:W.Frag)
def Qs(t:TE)(ρ:ZbJ)(d:PyData):Prop := ∀(H0 F:Hp) (σ:St) (H:Hp) (Q:VK),Q9 K H0 F ρ σ H->(∀b a v,Q0 F H b a->Rep b v d->Q v a)->t σ H Q
def EvO(t:TE)(ρ:ZbJ)(r:OT):Prop := ∀(H0 F:Hp) (σ:St) (H:Hp) (Q:VK),Q9 K H0 F ρ σ H->(∀f b v p,Q0 F H f b->(∀a∈p,H a=none)->Ze K f b v r p->Q v b)->t σ H Q
def Zf(t:TT)(ρ:ZbJ)(b:Bool):Prop := ∀(H0 F:Hp) (σ:St) (H:Hp) (Q:Bool->Hp->Prop),Q9 K H0 F ρ σ H->(∀f a,Q0 F H f a->Q b a)->t σ H Q
def Zv(t:TA)(ρ:ZbJ)(ts:List OT):Prop := ∀(H0 F:Hp) (σ:St) (H:Hp) (Q:List V->Hp->Prop),Q9 K H0 F ρ σ H->(∀f b a,Q0 F H f b->Args K f a ts->Q a b)->t σ H Q
def S6(h:Hp)(J:It)(ds:Qd):Prop := ∀(b a:Hp),Q7 h b->Q7 b a->J.stop ds.length a/\
 ∀(i:Nat) (d:PyData),ds[i]?=some d->J.go i a/\∀x f,J.yld i a x f->∃g,Q0 b a g f/\Rep g x d
def EvI(wi:TI)(ρ:ZbJ)(ds:Qd):Prop := ∀(H0 F:Hp) (σ:St) (H:Hp) (R:It->Hp->Prop),Q9 K H0 F ρ σ H->(∀b a J,Q0 F H b a->S6 b J ds->R J a)->wi σ H R
def GTo(g:TG)(d:PyData)(ρ b:ZbJ):Prop := ∀(H0 F:Hp) (σ:St) (H:Hp) (x:V) (Q:St->Hp->Prop),Q9 K H0 F ρ σ H->Rep F x d->(∀a,Q9 K H0 F b a H->Q a H)->g x σ H Q
def Ba(g:TGs)(ds:Qd)(ρ b:ZbJ):Prop := ∀(H0 F:Hp) (σ:St) (H:Hp) (xs:List V) (Q:St->Hp->Prop),Q9 K H0 F ρ σ H->Qx F xs ds->(∀a,Q9 K H0 F b a H->Q a H)->g xs σ H Q
structure PEnds where
 nx:ZbJ->Prop
 rt:OT->Prop
 bk:ZbJ->Prop:=λ_=>False
 ct:ZbJ->Prop:=λ_=>False
structure Cnv(F0 H0:Hp)(D:PEnds)(E:Ends):Prop where
 nx:∀F σ H ρ,Q0 F0 H0 F H->Q9 K H0 F ρ σ H->D.nx ρ->E.nx σ H
 rt:∀F H v r p,Q0 F0 H0 F H->(∀a∈p,H0 a=none)->Ze K F H v r p->D.rt r->E.rt v H
 bk:∀F σ H ρ,Q0 F0 H0 F H->Q9 K H0 F ρ σ H->D.bk ρ->E.bk σ H
 ct:∀F σ H ρ,Q0 F0 H0 F H->Q9 K H0 F ρ σ H->D.ct ρ->E.ct σ H
def Q3(t:TS)(ρ:ZbJ)(D:PEnds):Prop := ∀(F0 H0 F:Hp) (σ:St) (H:Hp) (E:Ends),Q0 F0 H0 F H->Q9 K H0 F ρ σ H->Cnv K F0 H0 D E->t E σ H
end
section
variable {ρ:ZbJ}{tb:TE}
def Qs.o(h:Qs K t ρ d):EvO K t ρ (.fz d):=λH0 F σ H Q S q=>h H0 F σ H Q S λb a v x r=>q b a v [] x (by rintro _ ⟨⟩) ⟨rfl,r⟩
def EvO.e(h:EvO K t ρ (.fz d)):Qs K t ρ d:=λH0 F σ H Q S q=>h H0 F σ H Q S λb a v p x _ r=>q b a v x r.2
def EvO.fz(h:EvO K t ρ (.ol ds)):Qs K t ρ (.list ds):=λH0 F σ H Q S q=>h H0 F σ H Q S λm j v p x i r=>by
 obtain⟨a,rfl,rfl,b,xs,g,f⟩:=r;refine q (upd m a<|.lst xs) j _ (x.freeze b g<|i a Xc) (.lst QG<|f.mono<|Q7.new b)
def Qq(e:zg ρ i<|zf d):Qs K (Q5 i) ρ d:=λH0 F σ H Q S q=>by
 obtain⟨f,h,_⟩:=S.fp;obtain⟨v,b,a⟩:=h i _ e;exact⟨v,b,q F H v (Q0.refl S.sub) a.2⟩
def Q6{i:Int}:Qs K (tC<|.int i) ρ (.int i):=λH0 F σ H Q S q=>q F H _ (Q0.refl S.sub) (.int i)
def UY{b:Bool}:Qs K (tC<|.bl b) ρ (.bool b):=λH0 F σ H Q S q=>q F H _ (Q0.refl S.sub) (.bl b)
def Gh:Qs K (tC .non) ρ .none:=λH0 F σ H Q S q=>q F H _ (Q0.refl S.sub) .non
def VE:Qs K (tC<|.str x) ρ (.str x):=λH0 F σ H Q S q=>q F H _ (Q0.refl S.sub) (.str x)
def Wh{a b:PyData}{r:R2}(s:Qs K ta ρ a)(p:Qs K tb ρ b)(S:Q9 K H0 F ρ σ H)
(h:∀f j x y,Q0 F H f j->Rep f x a->Rep f y b->r x y j Q):tOp r ta tb σ H Q:=
 s H0 F σ H _ S λB w x i n=>p H0 B σ w _ (S.ext i) λA v y g m=>h A v x y (i.trans g) (n.mono g.ff) m
def Z7{g:Int->Int->Int}{y:Int}(h:Qs K ta ρ (.int x))(f:Qs K tb ρ (.int y)):Qs K (tOp (rI0 λi j=>.int<|g i j) ta tb) ρ (.int<|g x y):=λH0 F σ H Q S q=>
 Wh h f S λn m u v e b a=>by cases b;cases a;exact⟨x,y,rfl,rfl,q n m _ e<|.int _⟩
def Vh{g:Int->Int->Bool}{y:Int}(h:Qs K ta ρ (.int x))(f:Qs K tb ρ (.int y)):Qs K (tOp (rI0 λi j=>.bl<|g i j) ta tb) ρ (.bool<|g x y):=λH0 F σ H Q S q=>
 Wh h f S λn m u v e b a=>by cases b;cases a;exact⟨x,y,rfl,rfl,q n m _ e<|.bl _⟩
def ZK{C:Int->Int->Prop}{g:Int->Int->Int}{y:Int}(m:Qs K ta ρ (.int x))(h:Qs K tb ρ (.int y))(f:C x y):Qs K (tOp (rI C λi j=>.int<|g i j) ta tb) ρ (.int<|g x y):=λH0 F σ H Q S q=>
 Wh m h S λp n u v e b a=>by cases b;cases a;exact⟨x,y,rfl,rfl,f,q p n _ e<|.int _⟩
def LP{g:Int->Int}(f:Qs K ta ρ (.int x)):Qs K (tUn (rU λi=>.int<|g i) ta) ρ (.int<|g x):=λH0 F σ H Q S q=>
 f H0 F σ H _ S λj h v a b=>by cases b;exact⟨x,rfl,q j h _ a<|.int _⟩
noncomputable def ZO:PyData->Option V
 |.none=>some .non
 |.bool b=>some (.bl b)
 |.int i=>some (.int i)
 |.str x=>some (.str x)
 |_=>Option.none
def Rep.flat(r:Rep H x d)(e:ZO d=some v):x=v:=by
 cases r<;>simp[ZO]at e<;>exact e
def Ci{a b:PyData}{w:V}(j:Qs K ta ρ a)(i:Qs K tb ρ b)(e1:ZO a=some v)(m:ZO b=some w)(h:∀(H:Hp) (Q:VK),Q (.bl<|decide (v=w)) H->rEq v w H Q):
 Qs K (tOp rEq ta tb) ρ (.bool<|decide (v=w)):=λH0 F σ H Q S q=>
 Wh j i S λp n x y e g f=>by rw[g.flat e1,f.flat m];exact h _ _ (q p n _ e<|.bl _)
def IB{y:Int}:decide (V.int x=V.int y)=decide (x=y):=by
 by_cases h:x=y
 .subst h;simp
 .rw[XI h,XI λz=>h<|by injection z]
def Js{y:Int}(b:Qs K ta ρ (.int x))(a:Qs K tb ρ (.int y)):Qs K (tOp rEq ta tb) ρ (.bool<|decide (x=y)):=by
 rw[<- IB];exact Ci b a rfl rfl λH Q q=>⟨rfl,q⟩
def WS{a b:PyData}(i:Qs K ta ρ a)(h:Qs K tb ρ b)(m:VS a)(j:VS b):Qs K (tOp Rg ta tb) ρ (.bool<|PyData.eqv a b):=λH0 F σ H Q S q=>
 Wh i h S λp n x y e g f=>⟨a,b,g.mono e.fh,f.mono e.fh,m,j,q p n _ e<|.bl _⟩
def RJ{a b:PyData}(i:Qs K ta ρ a)(h:Qs K tb ρ b)(m:VS a)(j:VS b):Qs K (tOp NU ta tb) ρ (.bool<|!PyData.eqv a b):=λH0 F σ H Q S q=>
 Wh i h S λp n x y e g f=>⟨a,b,g.mono e.fh,f.mono e.fh,m,j,q p n _ e<|.bl _⟩
def DW:PyData->Bool
 |.none=>true
 |_=>false
def Rep.isNon(r:Rep H x d):decide (x=.non)=DW d:=by cases r<;>rfl
def R6{a:PyData}(g:Qs K ta ρ a):Qs K (Rs ta) ρ (.bool<|DW a):=λH0 F σ H Q S q=>
 g H0 F σ H _ S λi h v b f=>by rw[f.isNon];exact q i h _ b (.bl _)
def RY{a:PyData}(g:Qs K ta ρ a):Qs K (RK ta) ρ (.bool<|!DW a):=λH0 F σ H Q S q=>
 g H0 F σ H _ S λi h v b f=>by rw[f.isNon];exact q i h _ b (.bl _)
def ZA{b:Bool}(h:Qs K ta ρ (.bool b)):Zf K (Bf ta) ρ b:=λH0 F σ H Q S q=>h H0 F σ H _ S λi g v a f=>by cases f;exact⟨b,rfl,q i g a⟩
def ZJ{b:Bool}(h:Qs K ta ρ (.bool b)):Zf K (tB ta) ρ b:=λH0 F σ H Q S q=>h H0 F σ H _ S λi g v a f=>by cases f;exact⟨b,rfl,q i g a⟩
def RC:Zf K Ua ρ true:=λH0 F σ H Q S q=>q F H (Q0.refl S.sub)
def Wz{b:Bool}(j:Zf K tA ρ b)(i:b=true->Zf K tB' ρ c):Zf K (Rl tA tB') ρ (b&&c):=λH0 F σ H Q S q=>j H0 F σ H _ S λg f a=>by
 cases b with
 |true=>rw[Xd rfl];exact i rfl H0 g σ f Q (S.ext a) λn m h=>by simpa using q n m (a.trans h)
 |false=>rw[Xb XG];simpa using q g f a
def Ga{b:Bool}(j:Zf K tA ρ b)(i:b=false->Zf K tB' ρ c):Zf K (tOr tA tB') ρ (b||c):=λH0 F σ H Q S q=>j H0 F σ H _ S λg f a=>by
 cases b with
 |false=>rw[Xb XG];exact i rfl H0 g σ f Q (S.ext a) λn m h=>by simpa using q n m (a.trans h)
 |true=>rw[Xd rfl];simpa using q g f a
def Y0{b:Bool}(f:Zf K tA ρ b):Zf K (BT tA) ρ (!b):=λH0 F σ H Q S q=>f H0 F σ H _ S λh g a=>q h g a
def Jy{b:Bool}(n:Qs K ta ρ (.bool b))(m:b=true->Qs K tb ρ (.bool c)):Qs K (Rw ta tb) ρ (.bool<|b&&c):=λH0 F σ H Q S q=>n H0 F σ H _ S λg f v a j=>by
 cases j;refine⟨b,rfl,?_⟩;cases b with
 |true=>rw[Xd rfl];exact m rfl H0 g σ f Q (S.ext a) λr p v h i=>by simpa using q r p v (a.trans h) (by simpa using i)
 |false=>rw[Xb XG];exact q g f _ a (.bl _)
def RF{b:Bool}(g:Qs K ta ρ (.bool b)):Qs K (R4 ta) ρ (.bool<|!b):=λH0 F σ H Q S q=>g H0 F σ H _ S λi h v a f=>by cases f;exact⟨b,rfl,q i h _ a<|.bl _⟩
def B3{g g':Int->Int->Bool}{x y z:Int}(B:Qs K ta ρ (.int x))(A:Qs K tb ρ (.int y))(s:Qs K tc ρ (.int z)):
 Qs K (Hz (rI0 λi j=>.bl<|g i j) (rI0 λi j=>.bl<|g' i j) ta tb tc) ρ (.bool<|g x y&&g' y z):=λH0 F σ H Q S q=>
 B H0 F σ H _ S λP E v a r=>A H0 P σ E _ (S.ext a) λh f w b p=>by
  cases r;cases p;refine⟨x,y,rfl,rfl,g x y,rfl,?_⟩;cases e:g x y with
  |true=>rw[Xd rfl];exact s H0 h σ f _ (S.ext<|a.trans b) λM C u m n=>by cases n;exact⟨y,z,rfl,rfl,by simpa [e] using q M C _ ((a.trans b).trans m)<|by rw[e];exact .bl _⟩
  |false=>rw[Xb XG];simpa [e] using q h f _ (a.trans b) (by rw[e];exact .bl _)
def QA:Zv K QM ρ []:=λH0 F σ H Q S q=>q F H [] (Q0.refl S.sub) .nil
def Qv(i:Qs K ta ρ d)(h:Zv K t ρ ts):Zv K (QF ta t) ρ (.fz d::ts):=λH0 F σ H Q S q=>
 i H0 F σ H _ S λp m v b g=>h H0 p σ m _ (S.ext b) λn j r a f=>q n j _ (b.trans a) (.fz (g.mono a.ff) f)
def Uv(e:ρ[i]?=some (some<|.scr ns))(g:Zv K t ρ ts):Zv K (QF (Q5 i) t) ρ (.scr ns::ts):=λH0 F σ H Q S q=>by
 obtain⟨s,h,_⟩:=S.fp;obtain⟨v,m,_,a,rfl,j⟩:=h i _ e;exact⟨_,m,g H0 F σ H _ S λp n r b f=>q p n _ b<|.scr (j.mono b.ff) f⟩
def Mg(e:zg ρ i<|zz Ψ)(f:Zv K t ρ ts):Zv K (QF (Q5 i) t) ρ (.zow Ψ::ts):=λH0 F σ H Q S q=>by
 obtain⟨r,h,_⟩:=S.fp;obtain⟨v,j,_,g⟩:=h i _ e;exact⟨_,j,f H0 F σ H _ S λn m p a b=>q n m _ a<|.zow (Ψ.mono a.ff g) b⟩
def fzs(ds:Qd):List OT:=ds.map OT.fz
theorem Args.reps{F:Hp}:∀{vs:List V} {ds:Qd},Args K F vs (fzs ds)->Qx F vs ds
 |_,[],.nil=>.nil
 |_,_::_,.fz r t=>.cons r (Args.reps t)
def VV(h:Zv K t ρ (fzs ds))(i:ds.length<=1000):Qs K (UR t) ρ (.tuple ds):=λH0 F σ H Q S q=>
 h H0 F σ H _ S λn m j a f=>⟨by rw[f.reps.length];exact Y4<|Vp i,λp g=>by
  have b:=a.fh;exact q _ _ _ (a.trans<|Q0.new b g)<|.tup QG<|f.reps.mono<|Q7.new<|b.free g⟩
def G5{p:Addr}(x:Q0 F0 H0 F H)(b:H p=none)(r:Qx F xs ds):Q0 F0 H0 F (upd H p<|.lst xs)/\(∀a∈[p],H0 a=none)/\Ze K F (upd H p<|.lst xs) (.ref p) (.ol ds) [p]:=
 ⟨x.trans<|Q0.own x.fh b,λa f=>by
  have e:a=p:=by simpa using f
  subst e;exact x.hh.free b,p,rfl,rfl,x.fh.free b,xs,QG,r⟩
def V4(h:Zv K t ρ (fzs ds))(j:ds.length<=1000):EvO K (Uc t) ρ (.ol ds):=λH0 F σ H Q S q=>
 h H0 F σ H _ S λr n m g f=>⟨by rw[f.reps.length];exact Y4<|Vp j,λp i=>by
  obtain⟨a,b,c⟩:=G5 (K:=K) g i f.reps;exact q _ _ _ _ a b c⟩
def JD(r:Rep F x (.list ds))(s:Q7 F H):∃a xs,x=.ref a/\SqL K H a xs/\Qx F xs ds/\H a=some (.lst xs):=by
 cases r with
 |lst b f=>exact⟨_,_,rfl,SqL.of<|s _ _ b,f,s _ _ b⟩
def J9(r:Rep F x (.tuple ds))(s:Q7 F H):∃a xs,x=.ref a/\SqT K H a xs/\Qx F xs ds/\H a=some (.tup xs):=by
 cases r with
 |tup b f=>exact⟨_,_,rfl,SqT.of<|s _ _ b,f,s _ _ b⟩
def G9{i:Int}(r:Qx F xs ds)(e:atI ds i=some d):∃z,atI xs i=some z/\Rep F z d:=by
 obtain⟨j,g,f⟩:=Sx e;obtain⟨z,b,a⟩:=r.get g;refine⟨z,?_,a⟩;unfold atI;rw[r.length,f];exact b
def VL{i:Int}(n:Qs K ta ρ (.list ds))(m:Qs K tb ρ (.int i))(e:atI ds i=some d):Qs K (tOp (rIx K) ta tb) ρ d:=λH0 F σ H Q S q=>
 Wh n m S λv s x y b j h=>by
  obtain⟨a,xs,rfl,r,p,_⟩:=JD (K:=K) j b.fh;obtain⟨z,g,f⟩:=G9 p e;cases h;exact .inl ⟨a,xs,i,z,rfl,rfl,r,g,q v s z b f⟩
def ZS{i:Int}(n:Qs K ta ρ (.tuple ds))(m:Qs K tb ρ (.int i))(e:atI ds i=some d):Qs K (tOp (rIx K) ta tb) ρ d:=λH0 F σ H Q S q=>
 Wh n m S λv s x y b j h=>by
  obtain⟨a,xs,rfl,r,p,_⟩:=J9 (K:=K) j b.fh;obtain⟨z,g,f⟩:=G9 p e;cases h;exact .inr (.inl ⟨a,xs,i,z,rfl,rfl,r,g,q v s z b f⟩)
def Wi(e0:ρ[i]?=some (some<|.ol ds))(n:Qs K tb ρ (.int k))(e:atI ds k=some d):Qs K (tOp (rIx K) (Q5 i) tb) ρ d:=λH0 F σ H Q S q=>by
 obtain⟨B,h,_⟩:=S.fp;obtain⟨v,s,a,rfl,_,m⟩:=h i _ e0;refine⟨_,s,n H0 F σ H _ S λA w y b j=>?_⟩;obtain⟨C,xs,r,p⟩:=m.ext b;obtain⟨z,g,f⟩:=G9 p e;cases j;exact .inl ⟨a,xs,k,z,rfl,rfl,SqL.of r,g,q A w z b f⟩
def Fu{n:Int}(e0:ρ[i]?=some (some<|.scr ns))(s:Qs K tb ρ (.int k))(e:atI ns k=some n):Qs K (tOp (rIx K) (Q5 i) tb) ρ (.int n):=λH0 F σ H Q S q=>by
 obtain⟨C,h,_⟩:=S.fp;obtain⟨v,w,_,a,rfl,g⟩:=h i _ e0;refine⟨_,w,s H0 F σ H _ S λB A y b m=>?_⟩;cases m;obtain⟨j,r,p⟩:=Sx e;have f:atI (ns.map V.int) k=some (.int n):=by
  unfold atI;rw[Xl,p];show(ns.map V.int)[j]?=_;rw[Xs,r];rfl
 exact .inl ⟨a,_,k,_,rfl,rfl,(b.ff.trans b.fh).seq g.sq,f,q B A _ b<|.int n⟩
def QL(R:List OT->OT->Prop):Sp:=λh H Q _=>∃F f r,KTs K F/\Q7 F H/\Args K F h f/\R f r/\∀g b v p,Q0 F H g b->(∀a∈p,H a=none)->Ze K g b v r p->Q v b
def Mm{R:List OT->OT->Prop}{E:XK}{r:OT}(h:Zv K t ρ ts)(n:R ts r):EvO K (Vg (QL (K:=K) R) [] E t) ρ r:=λH0 F σ H Q S q=>
 h H0 F σ H _ S λy B A b g=>by
  refine⟨y,ts,r,(S.ext b).kt,b.fh,by rw[Xx];exact g,n,λw s v p f j i=>q w s v p (b.trans f) (λa m=>b.hh.free<|j a m) i⟩
def Zb{R:List OT->OT->Prop}{E:XK}(h:Zv K t ρ ts)(a:R ts (.fz d)):Qs K (Vg (QL (K:=K) R) [] E t) ρ d:=(Mm h a).e
def FT{R:List OT->OT->Prop}{E:XK}(h:Zv K t ρ ts)(a:R ts (.ol ds)):Qs K (Vg (QL (K:=K) R) [] E t) ρ (.list ds):=(Mm h a).fz
end
def MC{ts:List OT}(G:Nat->Qg)(m:KTs K F)(g:Q7 F H)(a:vs.length=ts.length)(h:∀i t,ts[i]?=some t->∃v,vs[i]?=some v/\Ze K F H v t (G i))(s:∀i j b,b∈G i->b∈G j->i=j)(n:∀i b,b∈G i->H0 b=none/\H b≠none):
 Q9 K H0 F (ts.map some++List.replicate (N.length-ts.length) none) (start N vs) H:=by
 refine⟨m,g,by unfold start;simp[a],G,λi f e=>?_,s,n⟩
 by_cases z:i<ts.length
 .rw[UI<|by simpa using z,Xs]at e;obtain⟨v,r,p⟩:=h i f (by cases y:ts[i]?<;>simp[y]at e ⊢;exact e);refine⟨v,?_,p⟩;unfold start;rw[UI<|by simpa [a] using z,Xs,r];rfl
 .rw[BO<|by simpa using z]at e;have:=List.mem_of_getElem? e;simp at this
def JF(g:KTs K F)(f:Q7 F H)(b:Args K F vs ts):Q9 K H F (zr N ts) (start N vs) H:=
 MC (λ_=>[]) g f b.length (λi t e=>b.get i t e) (λi j a h=>(nomatch h)) λi a h=>(nomatch h)
def Df.ev{base:Heap}{x:Str}{st:Stmt}{N:Qh}{k:Nat}{R:List OT->OT->Prop}(D:Df K mg x st ps)(S:Qp N ps (Q4 st))(g:∀ts r,R ts r->ts.length=ps.length)
(j:∀(f:Addr) (a:Value) (A:Around) (outer:List Env) (s:Shared) (H:Hp) (E:XK) (ts:List OT) (r:OT),Room k (A.deeper<|envOfC x (Q4 st) s.heap.objs.size f a)->R ts r->
  ∃t,PSs (Vq CX0 P w K mg base N x (Q4 st) f a A outer s H E).nox (ZB st) t/\Q3 K t (zr N ts) { nx:=λ_=>r=.fz .none,rt:=λC=>C=r }):QE P w K mg base x ps (k+1) (QL (K:=K) R):=by
 refine D.cal S (by rintro y H Q E ⟨F,ts,r,_,_,h,i,_⟩;exact h.length.trans<|g ts r i) ?_;rintro f a A outer s H y Q E c ⟨F,ts,r,Y,B,h,i,q⟩;obtain⟨t,o,l⟩:=j f a A outer s H E ts r c i;refine⟨t,o,l F H F (start N y) H _ (Q0.refl B) (JF Y B h) ⟨λn M m W b _ e=>?_,λn m v C p b d X e=>?_,λ_ _ _ _ _ _ z=>False.elim z,λ_ _ _ _ _ _ z=>False.elim z⟩⟩
 .subst e;exact q n m _ [] b (by rintro _ ⟨⟩) ⟨rfl,.non⟩
 .subst e;exact q n m v p b d X
end L2
variable {ρ:L2.ZbJ}{D:L2.PEnds}{Ψ:L2.OT->L2.ZbJ->Prop}{ts:List L2.OT}{Θ:Int->L2.OT->Prop}
namespace L2
theorem Li:∀{as bs:Qg},as.map V.ref=bs.map V.ref->as=bs
 |[],[],_=>rfl
 |[],_::_,h=>by simp at h
 |_::_,[],h=>by simp at h
 |a::as,b::bs,h=>by
  simp only[Xw,List.cons.injEq]at h;obtain⟨f,g⟩:=h;injection f with f;rw[f,Li g]
section
variable {tb:TE}{t u:TS}
def Zz(h:D.nx ρ):Q3 K RL ρ D:=λF0 H0 F σ H E x S C=>C.nx F σ H ρ x S h
def QK(h:Q3 K t ρ { D with nx:=λa=>Q3 K u a D }):Q3 K (Yv t u) ρ D:=λF0 H0 F σ H E x S C=>
 h F0 H0 F σ H { E with nx:=u E } x S ⟨λj b i a f g q=>q F0 H0 j b i E f g C,C.rt,C.bk,C.ct⟩
def Bm(f:Fgt ρ ρ')(h:Q3 K t ρ' D):Q3 K t ρ D:=λF0 H0 F σ H E x S C=>h F0 H0 F σ H E x (S.fgt f) C
def Ur(i:Nat)(e:ρ[i]?=some (some<|.ol ds))(h:Q3 K t (ρ.set i<|zf<|.list ds) D):Q3 K t ρ D:=λF0 H0 F σ H E x S C=>by
 obtain⟨a,xs,g,f,b,_,_,j⟩:=S.freeze e;exact h F0 H0 _ σ H E (x.freeze g f b) j C
def Uu{r:OT}(h:EvO K te ρ r)(g:D.rt r):Q3 K (Yw te) ρ D:=λF0 H0 F σ H E x S C=>
 h H0 F σ H _ S λn m v p b i f=>C.rt n m v r p (x.trans b) (λa j=>x.hh.free<|i a j) f g
def ZZ(h:Qs K te ρ d)(a:D.rt (.fz d)):Q3 K (Yw te) ρ D:=Uu h.o a
def Mt(e:ρ[i]?=some (some<|.ol ds))(f:D.rt (.ol ds)):Q3 K (Yw<|Q5 i) ρ D:=λF0 H0 F σ H E x S C=>by
 obtain⟨n,h,_,j⟩:=S.fp;obtain⟨v,m,b⟩:=h i _ e;exact⟨v,m,C.rt F H v _ _ x (λa g=>(j i a g).1) b f⟩
def Zt{b:Bool}(h:Zf K tA ρ b)(j:b=true->Q3 K t ρ D)(i:b=false->Q3 K u ρ D):Q3 K (Jn tA t u) ρ D:=λF0 H0 F σ H E x S C=>
 h H0 F σ H _ S λg f a=>by
  cases b with
  |true=>rw[Xd rfl];exact j rfl F0 H0 g σ f E (x.trans a) (S.ext a) C
  |false=>rw[Xb XG];exact i rfl F0 H0 g σ f E (x.trans a) (S.ext a) C
def VW{r:OT}(h:EvO K te ρ r)(hn:D.nx (ρ.set i<|some r)):Q3 K (ZM te<|Vb i) ρ D:=λF0 H0 F σ H E x S C=>
 h H0 F σ H _ S λF' H' v p B X o=>by
  refine C.nx F' _ H' _ (x.trans B) ((S.ext B).set o (λa M=>x.hh.free<|X a M) (hn:=λa M j w W q U T f=>?_)) hn;obtain⟨L,J,g2,I⟩:=S.fp;obtain⟨w',Y,N⟩:=J j W U;intro G;have P:=N.ext B;rw[T]at Y;cases Y;have n:∀b∈q,b∈L j:=by
   cases W with
   |fz d=>rw[f.1];intro b g;cases g
   |zow Ψ=>rw[f.1];intro b g;cases g
   |ol ds=>
    obtain⟨b1,y,u,k⟩:=f;obtain⟨Z,m,A,l⟩:=P;rw[y]at m;cases m;rw[u,A];exact λ_ z=>z
   |oll T1=>
    obtain⟨b1,t,y,u,k,z4,e,z6⟩:=f;obtain⟨Z,s,m,A,l,y4,R,y6⟩:=P;rw[y]at m;cases m;rw[e]at R;have Q:t.map V.ref=s.map V.ref:=by injection R with z;injection z
    have O:t=s:=Li Q;rw[u,A,O];exact λ_ z=>z
   |scr ns=>rw[f.1];intro b g;cases g
   |own v0 c=>exact λb g=>c.uniq P.2 f.2 b g
  exact(I j a<|n a G).2 (X a M)
def ZD(h:Qs K te ρ d)(hn:D.nx (ρ.set i<|zf d)):Q3 K (ZM te<|Vb i) ρ D:=VW h.o hn
def Zq : GTo K (Vb i) d ρ (ρ.set i<|zf d):=λH0 F σ H x Q S r q=>q _ (S.setF r)
def WT:Ba K DJ [] ρ ρ:=λH0 F σ H xs Q S r q=>by cases r;exact⟨rfl,q _ S⟩
def V5{g:TG}(i:GTo K g d ρ ρ1)(h:Ba K gs ds ρ1 ρ2):Ba K (DN g gs) (d::ds) ρ ρ2:=λH0 F σ H xs Q S r q=>by
 cases r with
 |cons f b=>exact⟨_,_,rfl,i H0 F σ H _ _ S f λa j=>h H0 F a H _ _ j b q⟩
def WQ(h:Ba K gs ds ρ ρ1)(hn:ds.length=n):GTo K (D4 K n gs) (.tuple ds) ρ ρ1:=λH0 F σ H x Q S r q=>by
 obtain⟨a,xs,rfl,f,b,_⟩:=J9 (K:=K) r S.sub;exact⟨a,xs,rfl,f,by rw[b.length,hn],h H0 F σ H xs Q S b q⟩
def Me{g:TG}(h:Qs K te ρ d)(j:GTo K g d ρ ρ')(hn:D.nx ρ'):Q3 K (ZM te g) ρ D:=λF0 H0 F σ H E x S C=>
 h H0 F σ H _ S λi f v b r=>j H0 i σ f v _ (S.ext b) r λa m=>C.nx i a f ρ' (x.trans b) m hn
def Q0.wr(x:Q0 F0 H0 F H)(h0:H0 a=none)(b:F a=none):Q0 F0 H0 F (upd H a o):=
 ⟨x.hh.upd h0,x.ff,x.fh.upd b,x.fr⟩
def UD(e:ρ[i]?=some (some<|.ol ds))(h:Qs K te ρ d)(y:ds.length<1000)(hn:D.nx (ρ.set i<|some<|.ol<|ds++[d])):
 Q3 K (VC<|tBM K "list" Yl (Q5 i)<|QF te QM) ρ D:=λF0 H0 F σ H E x S C=>by
 obtain⟨a,xs,m,u,A,_⟩:=S.write e;refine⟨_,m,.inl ⟨rfl,_,SqL.of u⟩,h H0 F σ H _ S λw M v f n=>?_⟩;obtain⟨B,b,j,t,g,s,r,p⟩:=(S.ext f).write e;rw[m]at j;cases j;refine⟨a,b,v,rfl,rfl,t,by rw[g.length];exact Vp<|by lia,?_⟩;exact C.nx w σ _ _ ((x.trans f).wr s r) (p _ _<|g.snoc n) hn
def U7(e:ρ[i]?=some (some<|.ol ds))(h:Qs K te ρ d)(u:Qs K tb ρ (.int k))(t:ixN ds.length k=some j)(hn:D.nx (ρ.set i<|some<|.ol<|ds.set j d)):
 Q3 K (ZM te<|BR (Q5 i) tb Uj) ρ D:=λF0 H0 F σ H E x S C=>
 h H0 F σ H _ S λW P v b s=>by
  obtain⟨a,xs,p,Y,X,_⟩:=(S.ext b).write e;refine⟨_,p,u H0 W σ P _ (S.ext b) λR l y g r=>?_⟩;obtain⟨c,f,n,M,m,B,A,w⟩:=(S.ext<|b.trans g).write e;rw[p]at n;cases n;cases r;refine⟨a,f,k,j,rfl,rfl,M,by rw[m.length];exact t,?_⟩;exact C.nx R σ _ _ ((x.trans<|b.trans g).wr B A) (w _ _<|m.set (s.mono g.ff) j) hn
def Ph{f:Int->Int->Int}{m n:Int}(e:ρ[i]?=some (some<|.ol ds))(W:Qs K tb ρ (.int k))(h0:0<=k)(s:ds[k.toNat]?=some (.int m))(h:Qs K te ρ (.int n))
(hn:D.nx (ρ.set i<|some<|.ol<|ds.set k.toNat<|.int<|f m n)):Q3 K (BZ (Q5 i) tb te (Ma K) (ipI f) Uj) ρ D:=λF0 H0 F σ H E x S C=>by
 obtain⟨a,xs,p,L,J,_⟩:=S.write e;refine⟨_,p,W H0 F σ H _ S λI q y b P=>?_⟩;cases P;obtain⟨O,j,v,o,l,_⟩:=(S.ext b).write e;rw[p]at v;cases v;obtain⟨z,B,A⟩:=l.get s;refine⟨a,j,k,z,rfl,rfl,SqL.of o,h0,B,h H0 I σ q _ (S.ext b) λG Q w r M=>?_⟩;cases M;cases A;refine⟨m,n,rfl,rfl,?_⟩;obtain⟨N,g,u,d,t,c,Y,X⟩:=(S.ext<|b.trans r).write e;rw[p]at u;cases u;have R:k.toNat<ds.length:=(Xf.mp s).1;refine⟨a,g,k,k.toNat,rfl,rfl,d,?_,?_⟩
 .rw[t.length];unfold ixN;rw[Xd h0,Xd<|by lia]
 .exact C.nx G σ _ _ ((x.trans<|b.trans r).wr c Y) (X _ _<|t.set (.int _) _) hn
def Q0.base(x:Q0 F0 H0 F H):Q0 F H0 F H:=⟨x.hh,Q7.refl _,x.fh,λ_ h=>.inl h⟩
def Q0.rebase(x:Q0 F0 H0 F H)(y:Q0 F H0 F' H'):Q0 F0 H0 F' H':=
 ⟨y.hh,x.ff.trans y.ff,y.fh,λa h=>(y.fr a h).elim (λz=>x.fr a z) .inr⟩
def V2{g:TG}(P:Nat->ZbJ->Prop)(hi:EvI K wi ρ ds)(h0:P 0 ρ)
(hs:∀(i:Nat) (d:PyData) (a:ZbJ),ds[i]?=some d->P i a->∃b,GTo K g d a b/\Q3 K tbd b { nx:=P (i+1),ct:=P (i+1),bk:=D.nx,rt:=D.rt })(hd:∀a,P ds.length a->D.nx a):Q3 K (US wi g tbd) ρ D:=λF0 H0 F σ H E x S C=>
 hi H0 F σ H _ S λo H1 J z W=>by
  refine⟨λi m σ H=>m=ds.length-i/\i<=ds.length/\∃F a,Q0 F0 H0 F H/\Q7 o F/\Q9 K H0 F a σ H/\P i a,⟨ds.length,by simp,XQ _,o,ρ,x.trans z,Q7.refl _,S.ext z,h0⟩,?_⟩;rintro i m t L ⟨rfl,hle,N,a,G,I,c,p⟩;obtain⟨T,Q⟩:=W N L I c.sub
  by_cases w:i<ds.length
  .have e:ds[i]?=some ds[i]:=by simp[w]
   obtain⟨go,O⟩:=Q i _ e;refine .inr ⟨go,λj k=>∃l b,Q0 F0 H0 l k/\Q7 o l/\Q9 K H0 l b j k/\P (i+1) b,λj k q=>⟨ds.length-(i+1),by lia,rfl,w,q⟩,λv B y=>?_⟩;obtain⟨M,R,r3⟩:=O v B y;obtain⟨b,hg,hb⟩:=hs i _ a e p;refine hg H0 M t B v _ (c.ext R) r3 λj S2=>?_;have h:Q0 F0 H0 M B:=G.trans R;have u:=I.trans R.ff
   exact hb M H0 M j B _ h.base S2 ⟨λs r A f n Y X=>⟨s,f,h.rebase n,u.trans n.ff,Y,X⟩,λs A U Z p4 n=>C.rt s A U Z p4<|h.rebase n,
    λs r A f n=>C.nx s r A f<|h.rebase n,λs r A f n Y X=>⟨s,f,h.rebase n,u.trans n.ff,Y,X⟩⟩
  .have e:i=ds.length:=by lia
   subst e;exact .inl ⟨T,C.nx N t L a G c<|hd a p⟩
def B0{g:TG}(R:Nat->ZbJ)(j:EvI K wi ρ ds)(h0:Fgt ρ (R 0))
(h:∀(i:Nat) (d:PyData),ds[i]?=some d->∃b,GTo K g d (R i) b/\Q3 K tbd b { nx:=λa=>Fgt a<|R<|i+1,ct:=λa=>Fgt a<|R<|i+1,bk:=D.nx,rt:=D.rt })(m:∀a,Fgt a (R ds.length)->D.nx a):Q3 K (US wi g tbd) ρ D:=by
 refine V2 (λi a=>Fgt a<|R i) j h0 (λi d a e f=>?_) m;obtain⟨b,p,n⟩:=h i d e;exact⟨b,λH0 F σ H x Q S r q=>p H0 F σ H x Q (S.fgt f) r q,n⟩
def Kc(P:Nat->ZbJ->Prop)(w:Nat)(h0:P w ρ)
(k:∀(m:Nat) (a:ZbJ),P m a->∃b,Zf K c a b/\(b=true->Q3 K tbd a { nx:=λf=>∃m',m'<m/\P m' f,ct:=λf=>∃m',m'<m/\P m' f,bk:=D.nx,rt:=D.rt })/\(b=false->D.nx a)):Q3 K (Ss c tbd) ρ D:=λF0 H0 F σ H E x S C=>by
 refine⟨λm σ H=>∃F a,Q0 F0 H0 F H/\Q9 K H0 F a σ H/\P m a,⟨w,F,ρ,x,S,h0⟩,?_⟩;rintro m j G ⟨I,a,Y,M,p⟩;obtain⟨b,q,o,l⟩:=k m a p;refine q H0 I j G _ M λW R v=>?_;have A:=Y.trans v;have B:=M.ext v
 cases b with
 |false=>rw[Xb XG];exact C.nx W j R a A B (l rfl)
 |true=>
  rw[Xd rfl];refine⟨λn u=>∃m',m'<m/\∃s f,Q0 F0 H0 s u/\Q9 K H0 s f n u/\P m' f,λn u h=>h,?_⟩;have y:∀t i r g,Q0 F0 H0 t r->Q9 K H0 t g i r->(∃m',m'<m/\P m' g)->∃m',m'<m/\∃s f,Q0 F0 H0 s r/\Q9 K H0 s f i r/\P m' f:=λt i r g X z ⟨m',e,d⟩=>⟨m',e,t,g,X,z,d⟩;exact o rfl F0 H0 W j R _ A B ⟨y,C.rt,C.nx,y⟩
def Ja(h:Qs K ta ρ (.list ds)):EvI K (RT K ta) ρ ds:=λH0 F σ H R S q=>
 h H0 F σ H _ S λu E v b p=>by
  obtain⟨a,xs,rfl,C,s,B⟩:=JD (K:=K) p b.fh;have A:u a=some (.lst xs):=by
   cases p with
   |lst r P=>
    have:=b.fh _ _ r;rw[B]at this;cases this;exact r
  refine⟨a,rfl,⟨xs,C⟩,q u E _ b λM D n m=>?_⟩;have g:SqL K D a xs:=SqL.of (m _ _<|n _ _ A);refine⟨⟨xs,g,by rw[s.length];exact Xq _⟩,λi d e=>?_⟩;obtain⟨z,j,w⟩:=s.get e;refine⟨⟨xs,z,g,j⟩,λy W f=>?_⟩;obtain⟨rfl,f⟩:=f;have t:=f xs g;rw[j]at t;cases t;exact⟨M,Q0.refl m,w.mono n⟩
def Ry(h:Qs K ta ρ (.tuple ds)):EvI K (Rb K ta) ρ ds:=λH0 F σ H R S q=>
 h H0 F σ H _ S λu E v b p=>by
  obtain⟨a,xs,rfl,C,s,B⟩:=J9 (K:=K) p b.fh;have A:u a=some (.tup xs):=by
   cases p with
   |tup r P=>
    have:=b.fh _ _ r;rw[B]at this;cases this;exact r
  refine⟨a,rfl,⟨xs,C⟩,q u E _ b λM D n m=>?_⟩;have g:SqT K D a xs:=SqT.of (m _ _<|n _ _ A);refine⟨⟨xs,g,by rw[s.length];exact Xq _⟩,λi d e=>?_⟩;obtain⟨z,j,w⟩:=s.get e;refine⟨⟨xs,z,g,j⟩,λy W f=>?_⟩;obtain⟨rfl,f⟩:=f;have t:=f xs g;rw[j]at t;cases t;exact⟨M,Q0.refl m,w.mono n⟩
def Va(lo:Int)(n:Nat):Qd:=(List.range n).map λ(i:Nat)=>PyData.int (lo+(i:Int))
def YI{lo:Int}(e:(Va lo n)[i]?=some d):i<n/\d=.int (lo+(i:Int)):=by
 unfold Va at e;rw[Xs]at e;by_cases h:i<n
 .simp[h]at e;exact⟨h,e.symm⟩
 .simp[h]at e
def Wn{lo:Int}:(Va lo n).length=n:=by simp[Va]
def T2{lo:Int}:S6 F (Itr lo n) (Va lo n):=λg m h a=>by
 refine⟨by show n<=_;rw[Wn];exact Xq _,λi d e=>?_⟩;obtain⟨f,rfl⟩:=YI e;refine⟨f,λx j b=>?_⟩;obtain⟨rfl,rfl⟩:=b;exact⟨g,Q0.refl a,.int _⟩
def Y3{t:TA}{n:Int}(h:Zv K t ρ [.fz<|.int n])(h1 : -(2^62)<=n)(f:n<2^62):EvI K (Bi t) ρ (Va 0 n.toNat):=λH0 F σ H R S q=>
 h H0 F σ H _ S λi g j b a=>by
  cases a with
  |fz r a=>cases a;cases r;exact⟨n,rfl,h1,f,q i g _ b T2⟩
def HZ{t:TA}{m n:Int}(h:Zv K t ρ [.fz<|.int m,.fz<|.int n])(h1 : -(2^62)<=m/\m<2^62 /\ -(2^62)<=n/\n<2^62):EvI K (Rz t) ρ (Va m (n-m).toNat):=λH0 F σ H R S q=>
 h H0 F σ H _ S λi g j b a=>by
  cases a with
  |fz r a=>
   cases a with
   |fz f a=>cases a;cases r;cases f;exact⟨m,n,rfl,h1,q i g _ b T2⟩
def Wv(a:Int)(n:Nat):Qd:=(List.range n).map λ(i:Nat)=>PyData.int (a-(i:Int))
def MM(e:(Wv hi n)[i]?=some d):i<n/\d=.int (hi-(i:Int)):=by
 unfold Wv at e;rw[Xs]at e;by_cases h:i<n
 .simp[h]at e;exact⟨h,e.symm⟩
 .simp[h]at e
def Ky : (Wv hi n).length=n:=by simp[Wv]
def FX{t:TA}{m n:Int}(h:Zv K t ρ [.fz<|.int m,.fz<|.int n,.fz<|.int (-1)])(c : -(2^62)<=m/\m<2^62 /\ -(2^62)<=n/\n<2^62):EvI K (RN t) ρ (Wv m (m-n).toNat):=λH0 F σ H R S q=>
 h H0 F σ H _ S λv s w b a=>by
  cases a with
  |fz r a=>
   cases a with
   |fz j a=>
    cases a with
    |fz g a=>
     cases a;cases r;cases j;cases g;refine⟨m,n,rfl,c,q v s _ b λu B y f=>⟨by show _<=_;rw[Ky];exact Xq _,λi d e=>?_⟩⟩;obtain⟨c,rfl⟩:=MM e;refine⟨c,λx A p=>?_⟩;obtain⟨rfl,rfl⟩:=p;exact⟨u,Q0.refl f,.int _⟩
def W4:Option OT->Option OT
 |some (.fz d)=>some (.fz d)
 |some (.scr a)=>some (.scr a)
 |some (.zow Ψ)=>some (.zow Ψ)
 |_=>none
def Jr(f:List (Option Nat))(ρ:ZbJ):ZbJ:=f.map λo=>match o with|some i=>W4 (ρ[i]?).join|none=>none
def Q9.inner(f:List (Option Nat))(S:Q9 K H0 F ρ σ H):Q9 K H0 F (Jr f ρ) (Yu f σ) H:=by
 obtain⟨n,r,D,E,p,C,B⟩:=S;refine⟨n,r,by simp[Jr,Yu],λ_=>[],λi t e=>?_,λi j a h=>(nomatch h),λi a h=>(nomatch h)⟩;unfold Jr at e;rw[Xs]at e;cases z:f[i]? with
 |none=>rw[z]at e;simp at e
 |some o=>
  rw[z]at e;simp only[Wa,Option.some.injEq]at e;cases o with
  |none=>cases e
  |some k=>
   simp only at e;have m:ρ[k]?=some (some t)/\((∃d,t=.fz d)\/(∃b,t=.scr b)\/∃Ψ,t=.zow Ψ):=by
    cases y:ρ[k]? with
    |none=>rw[y]at e;simp[W4]at e
    |some w=>
     rw[y]at e;simp only[Option.join_some]at e;cases w with
     |none=>simp[W4]at e
     |some w=>
      cases w with
      |fz d=>simp[W4]at e;subst e;exact⟨rfl,.inl ⟨_,rfl⟩⟩
      |scr b=>simp[W4]at e;subst e;exact⟨rfl,.inr<|.inl ⟨_,rfl⟩⟩
      |zow Ψ=>simp[W4]at e;subst e;exact⟨rfl,.inr<|.inr ⟨_,rfl⟩⟩
      |ol ds=>simp[W4]at e
      |oll ds=>simp[W4]at e
      |own A u=>simp[W4]at e
   obtain⟨v,s,g⟩:=p k t m.1;refine⟨v,?_,?_⟩
   .unfold Yu;rw[Xs,z];simp[s]
   .rcases m.2 with ⟨d,rfl⟩|⟨b,rfl⟩|⟨Ψ,rfl⟩
    .exact⟨rfl,g.2⟩
    .exact⟨rfl,g.2⟩
    .exact⟨rfl,g.2⟩
def Gi{A:Type}{f:List (Option Nat)}{wi:TI}{g:CIn->TG}{tcc:CIn->TT}{tee:CIn->TE}{xs:List A}{enc h:A->PyData}{p:A->Bool}(hi:EvI K wi ρ (xs.map enc))(hl:xs.length<=1000)
(U:∀x∈xs,∀c,∃j,GTo K (g c) (enc x) (Jr f ρ) j/\Zf K (tcc c) j (p x)/\(p x=true->Qs K (tee c) j (h x))):EvO K (tLC f wi g tcc tee) ρ (.ol<|(xs.filter p).map h):=λH0 F σ H Q S q=>
 hi H0 F σ H _ S λY H1 J B W c=>by
  have hn:xs.length<=sizeLine:=Y4 (Vp hl);refine⟨λi m ys H=>m=xs.length-i/\i<=xs.length/\∃w,Q0 Y H1 w H/\Qx w ys (((xs.take i).filter p).map h),⟨xs.length,by simp,XQ _,Y,Q0.refl B.fh,.nil⟩,?_⟩;rintro i m ys H' ⟨rfl,Z,w,n,u⟩;obtain⟨I,G⟩:=W w H' n.ff n.fh
  by_cases b:i<xs.length
  .have e:(xs.map enc)[i]?=some (enc xs[i]):=by simp[b]
   obtain⟨go,o⟩:=G i _ e;refine .inr ⟨go,λv D y=>?_⟩;obtain⟨X,t,N⟩:=o v D y;obtain⟨j,k1,k2,k3⟩:=U xs[i] (XX b) c;have S3:=(S.ext<|B.trans<|n.trans t).inner f;have M:xs.take (i+1)=xs.take i++[xs[i]]:=by rw[JT];simp[b]
   have T:=u.length;have O:ys.length<=i:=by
    rw[T,Xl];refine X0 (List.length_filter_le _ _) ?_;rw[Ws];lia
   refine k1 H0 X _ D v _ S3 N λr P=>k2 H0 X r D _ P λR H4 s=>?_
   cases C:p xs[i] with
   |true=>
    rw[Xd rfl];refine k3 C H0 R r H4 _ (P.ext s) λF5 H5 z E L=>⟨by lia,xs.length-(i+1),by lia,rfl,b,F5,n.trans<|t.trans<|s.trans E,?_⟩;rw[M,JP,XF];simp only[JV,C,if_true,List.filter_nil,Xw,GL];exact(u.mono (t.trans<|s.trans E).ff).snoc L
   |false=>
    rw[Xb XG];refine⟨xs.length-(i+1),by lia,rfl,b,R,n.trans<|t.trans s,?_⟩;rw[M,JP,XF];simp only[JV,C,List.filter_nil,GL,Xx,X6,if_false];exact u.mono (t.trans s).ff
  .have e:i=xs.length:=by lia
   subst e;refine .inl ⟨by simpa using I,λa ha=>?_⟩;rw[Ji]at u;obtain⟨l,k,d⟩:=G5 (K:=K) (B.trans n) ha u;exact q _ _ _ _ l k d
def Bb{b:Type}{f:List (Option Nat)}{wi:TI}{g:CIn->TG}{tee:CIn->TE}{xs:List b}{enc h:b->PyData}(n:EvI K wi ρ (xs.map enc))(m:xs.length<=1000)
(j:∀x∈xs,∀c,∃a,GTo K (g c) (enc x) (Jr f ρ) a/\Qs K (tee c) a (h x)):EvO K (tLC f wi g (λ_=>Ua) tee) ρ (.ol<|xs.map h):=by
 have:=Gi (K:=K) (ρ:=ρ) (f:=f) (wi:=wi) (g:=g) (tcc:=λ_=>Ua) (tee:=tee) (xs:=xs) (enc:=enc) (h:=h) (p:=λ_=>true) n m λx i c=>by
  obtain⟨a,s,r⟩:=j x i c;exact⟨a,s,RC,λ_=>r⟩
 have e:xs.filter (λ_=>true)=xs:=List.filter_eq_self.mpr λ_ _=>rfl;rw[e]at this;exact this
def DP:List V->Hp->VK->Prop:=λxs H Q=>∃i j,xs=[.int i,.int j]/\Q (.int (if j > i then j else i)) H
def DT:List V->Hp->VK->Prop:=λxs H Q=>∃i j,xs=[.int i,.int j]/\Q (.int (if j<i then j else i)) H
def RI:List V->Hp->VK->Prop:=λxs H Q=>(∃i,xs=[.int i]/\Q (.int i) H)\/∃k,xs=[.bl k]/\Q (.int (if k then 1 else 0)) H
def Rn:List V->Hp->VK->Prop:=λxs H Q=>∃x T c b,xs=[x,.ty c]/\TyN H x T/\JZ T c=some b/\Q (.bl b) H
def Ud(K:W.Frag):List V->Hp->VK->Prop:=λxs H Q=>∃p ys,xs=[.ref p]/\(SqL K H p ys\/SqT K H p ys)/\Q (.int ys.length) H
def HE(K:W.Frag):List V->Hp->VK->Prop:=λxs H Q=>∃p ys,xs=[.ref p]/\(SqL K H p ys\/SqT K H p ys)/\∀l,H l=none->Q (.ref l) (upd H l<|.lst ys)
def Hv(K:W.Frag):List V->Hp->VK->Prop:=λxs H Q=>∃p ys,xs=[.ref p]/\((SqL K H p ys/\∀l,H l=none->Q (.ref l) (upd H l<|.tup ys))\/(SqT K H p ys/\Q (.ref p) H))
def Ri(X:Cx):List V->Hp->VK->Prop:=λxs H Q=>X.calm=true/\∃(x:V) (a:Ql),xs=[x]/\Rep H x (.list<|a.map PyData.int)/\Q (.int a.sum) H
def Cq(h:X.calm=true):ZW X (.builtin "max") DP:=IY h
def Mj(h:X.calm=true):ZW X (.builtin "min") DT:=OF h
def Cc:ZW X (.type "int") RI:=OH
def Gn:ZW X (.builtin "isinstance") Rn:=IK
def V1:ZW X (.builtin "len") (Ud X.K):=ZjE
def HM:ZW X (.type "list") (HE X.K):=Zkg
def Kk:ZW X (.type "tuple") (Hv X.K):=ZiV
def HA:ZW X (.builtin "sum") (Ri X):=O3
def Se{y:Int}{r:List V->Hp->VK->Prop}(m:Qs K ta ρ (.int x))(j:Qs K tb ρ (.int y))(S:Q9 K H0 F ρ σ H)(h:∀u b,Q0 F H u b->r [.int x,.int y] b Q):tCB r (QF ta<|QF tb QM) σ H Q:=
 m H0 F σ H _ S λt p v a i=>j H0 t σ p _ (S.ext a) λs n w f g=>by cases i;cases g;exact h s n (a.trans f)
def Cf{y:Int}(b:Qs K ta ρ (.int x))(a:Qs K tb ρ (.int y)):Qs K (tCB DP<|QF ta<|QF tb QM) ρ (.int (if y > x then y else x)):=λH0 F σ H Q S q=>
 Se b a S λg f e=>⟨x,y,rfl,q g f _ e<|.int _⟩
def CD{y:Int}(b:Qs K ta ρ (.int x))(a:Qs K tb ρ (.int y)):Qs K (tCB DT<|QF ta<|QF tb QM) ρ (.int (if y<x then y else x)):=λH0 F σ H Q S q=>
 Se b a S λg f e=>⟨x,y,rfl,q g f _ e<|.int _⟩
def RV{b:Bool}(h:Qs K ta ρ (.bool b)):Qs K (tCB RI<|QF ta QM) ρ (.int (if b then 1 else 0)):=λH0 F σ H Q S q=>
 h H0 F σ H _ S λi g v a f=>by cases f;exact .inr ⟨b,rfl,q i g _ a<|.int _⟩
def Uz{a:PyData}{b:Bool}(h:Qs K ta ρ a)(i:JZ (tyD a) c=some b):Qs K (tCB Rn<|QF ta<|QF (tC<|.ty c) QM) ρ (.bool b):=λH0 F σ H Q S q=>
 h H0 F σ H _ S λm j v f g=>⟨v,_,c,b,rfl,(g.mono f.fh).ty,i,q m j _ f<|.bl _⟩
def J5(h:Qs K ta ρ (.list ds)):Qs K (tCB (Ud K)<|QF ta QM) ρ (.int (ds.length:Int)):=λH0 F σ H Q S q=>
 h H0 F σ H _ S λm j v b f=>by
  obtain⟨a,xs,rfl,i,g,_⟩:=JD (K:=K) f b.fh;exact⟨a,xs,rfl,.inl i,by rw[g.length];exact q m j _ b<|.int _⟩
def Gu(h:Qs K ta ρ (.tuple ds)):Qs K (tCB (Ud K)<|QF ta QM) ρ (.int (ds.length:Int)):=λH0 F σ H Q S q=>
 h H0 F σ H _ S λm j v b f=>by
  obtain⟨a,xs,rfl,i,g,_⟩:=J9 (K:=K) f b.fh;exact⟨a,xs,rfl,.inr i,by rw[g.length];exact q m j _ b<|.int _⟩
def FS(e0:ρ[i]?=some (some<|.scr ns)):Qs K (tCB (Ud K)<|QF (Q5 i) QM) ρ (.int (ns.length:Int)):=λH0 F σ H Q S q=>by
 obtain⟨g,h,_⟩:=S.fp;obtain⟨v,f,_,a,rfl,b⟩:=h i _ e0;exact⟨_,f,a,ns.map V.int,rfl,.inl<|S.sub.seq b.sq,by rw[Xl];exact q F H _ (Q0.refl S.sub)<|.int _⟩
def Fh(e0:ρ[i]?=some (some<|.ol ds)):Qs K (tCB (Ud K)<|QF (Q5 i) QM) ρ (.int (ds.length:Int)):=λH0 F σ H Q S q=>by
 obtain⟨j,h,_⟩:=S.fp;obtain⟨v,g,a,rfl,_,_,xs,f,b⟩:=h i _ e0;exact⟨_,g,a,xs,rfl,.inl<|SqL.of f,by rw[b.length];exact q F H _ (Q0.refl S.sub)<|.int _⟩
def HD(h:Qs K ta ρ (.tuple ds)):EvO K (tCB (HE K)<|QF ta QM) ρ (.ol ds):=λH0 F σ H Q S q=>
 h H0 F σ H _ S λt s v b j=>by
  obtain⟨a,xs,rfl,r,n,_⟩:=J9 (K:=K) j b.fh;refine⟨a,xs,rfl,.inr r,λp m=>?_⟩;obtain⟨i,g,f⟩:=G5 (K:=K) b m n;exact q _ _ _ _ i g f
def RU(h:Qs K ta ρ (.list ds)):Qs K (tCB (Hv K)<|QF ta QM) ρ (.tuple ds):=λH0 F σ H Q S q=>
 h H0 F σ H _ S λr n v b i=>by
  obtain⟨a,xs,rfl,m,j,_⟩:=JD (K:=K) i b.fh;refine⟨a,xs,rfl,.inl ⟨m,λp g=>?_⟩⟩;have f:=b.fh;exact q _ _ _ (b.trans<|Q0.new f g) (.tup QG<|j.mono<|Q7.new<|f.free g)
def Hq(e0:ρ[i]?=some (some<|.ol ds)):Qs K (tCB (Hv K)<|QF (Q5 i) QM) ρ (.tuple ds):=λH0 F σ H Q S q=>by
 obtain⟨m,h,_⟩:=S.fp;obtain⟨v,j,a,rfl,_,_,xs,g,f⟩:=h i _ e0;refine⟨_,j,a,xs,rfl,.inl ⟨SqL.of g,λp b=>?_⟩⟩;exact q _ _ _ (Q0.new S.sub b) (.tup QG<|f.mono<|Q7.new<|S.sub.free b)
def Md{ns:Ql}(h:Qs K ta ρ (.list<|ns.map PyData.int))(f:X.calm=true):Qs K (tCB (Ri X)<|QF ta QM) ρ (.int ns.sum):=λH0 F σ H Q S q=>
 h H0 F σ H _ S λi g v a b=>⟨f,v,ns,rfl,b.mono a.fh,q i g _ a<|.int _⟩
def R3(u:Qs K ta ρ (.list as))(t:Qs K tb ρ (.list bs))(s:as.length+bs.length<=1000):EvO K (tOp D2 ta tb) ρ (.ol<|as++bs):=λH0 F σ H Q S q=>
 Wh u t S λD C x y e n m=>by
  obtain⟨a,xs,rfl,A,f,v⟩:=JD (K:=K) n e.fh;obtain⟨b,ys,rfl,B,g,w⟩:=JD (K:=K) m e.fh;refine⟨a,b,xs,ys,rfl,rfl,v,w,by rw[f.length,g.length];exact Y4<|Vp s,λp r=>?_⟩;obtain⟨j,i,h⟩:=G5 (K:=K) e r (f.append g);exact q _ _ _ _ j i h
end
def QY(b:Qs K ta ρ d)(a:Zv K t ρ (fzs ds)):Zv K (QF ta t) ρ (fzs (d::ds)):=Qv b a
def EvI.cast(h:EvI K wi ρ ds)(e:ds=ds'):EvI K wi ρ ds':=e▸h
def WE{a b:Int}{m:Nat}(h:a=b)(f:m=n):Va a m=Va b n:=by rw[h,f]
def KB{a b:Int}{m:Nat}(h:a=b)(f:m=n):Wv a m=Wv b n:=by rw[h,f]
def RX{y:Int}(b:Qs K ta ρ (.int x))(a:Qs K tb ρ (.int y)):Qs K (tCB DP<|QF ta<|QF tb QM) ρ (.int<|max x y):=by
 have e:max x y=if y > x then y else x:=by split<;>lia
 rw[e];exact Cf b a
def Hb{y:Int}(b:Qs K ta ρ (.int x))(a:Qs K tb ρ (.int y)):Qs K (tCB DT<|QF ta<|QF tb QM) ρ (.int<|min x y):=by
 have e:min x y=if y<x then y else x:=by split<;>lia
 rw[e];exact CD b a
def Hk{f:List (Option Nat)}{g:CIn->TG}{lo:Int}{h:Nat->PyData}(p:EvI K wi ρ (Va lo n))(m:n<=1000)
(j:∀(x:Nat),x<n->∀c,∃a,GTo K (g c) (.int<|lo+(x:Int)) (Jr f ρ) a/\Qs K (tee c) a (h x)):EvO K (tLC f wi g (λ_=>Ua) tee) ρ (.ol<|(List.range n).map h):=
 Bb (xs:=List.range n) (enc:=λ(i:Nat)=>PyData.int<|lo+(i:Int)) p (by simpa using m) λx b c=>j x (XH.mp b) c
def Qs.cast(h:Qs K t ρ d)(e:d=d'):Qs K t ρ d':=e▸h
def EvO.cast(h:EvO K t ρ d)(e:d=d'):EvO K t ρ d':=e▸h
def Zf.cast(h:Zf K t ρ d)(e:d=d'):Zf K t ρ d':=e▸h
def Mi(K:W.Frag):Sp:=λb H Q _=>∃(a:Addr) (f:Ql),b=[.ref a]/\KTs K H/\Scr K H a f/\∀g,Q (.bl true) g
def Fun.evLaw{base:Heap}{x p:Str}{st:Stmt}{f:Addr}{N:Qh}{k:Nat}(F:Fun K x qual st f fd)(S:Qp N [p] (Q4 st))
(m:∀(b:Value) (A:Around) (outer:List Env) (s:Shared) (H:Hp) (E:XK) (ns:Ql),Room k (A.deeper<|envOfC qual (Q4 st) s.heap.objs.size f b)->ns.length<=63->(∀i∈ns,Builtin.Int.intBits i<=2^20)->
  ∃t,PSs (Vq CX0 P w K mg base N qual (Q4 st) f b A outer s H E).nox (ZB st) t/\Q3 K t (some (.scr ns)::List.replicate (N.length-1) none) { nx:=λ_=>False,rt:=λr=>r=.fz (.bool true) }):FnOk P w K mg base CX0 (k+1) f fd [p] (Mi K):=by
 refine F.ok S (by rintro D H Q E ⟨a,ns,e,_⟩;rw[e];rfl) ?_;rintro b A outer s H D Q E W ⟨a,ns,e,R,g,q⟩;subst e;obtain⟨t,Y,X⟩:=m b A outer s H E ns W g.len g.bits;refine⟨t,Y,X H H H (start N [.ref a]) H _ (Q0.refl<|Q7.refl _) ⟨R,Q7.refl _,?_,λ_=>[],λi d e=>?_,λi j a h=>(nomatch h),λi a h=>(nomatch h)⟩ ⟨λc y n B C _ e=>False.elim e,λc n v l p C o M e=>?_,λ_ _ _ _ _ _ z=>False.elim z,λ_ _ _ _ _ _ z=>False.elim z⟩⟩
 .unfold start;simp
 .cases i with
  |zero=>
   simp at e;subst e;exact⟨_,rfl,rfl,a,rfl,g⟩
  |succ i=>
   rw[NR]at e;have:=List.mem_of_getElem? e;simp at this
 .subst e;obtain⟨_,r⟩:=M;cases r;exact q n
def Z9 : Zv K QM ρ (fzs []):=QA
def z62:(2:Int)^62=4611686018427387904:=by decide
def Ab{f:Addr}{E:XK}:(Vq CX P w K mg base N q sc f cd A o s H E).nox.K=K:=rfl
def Er : (ZY X N sc c).K=X.K:=rfl
def EvP(K:W.Frag)(t:TO)(ρ:ZbJ)(o:Option Int):Prop := ∀(H0 F:Hp) (σ:St) (H:Hp) (Q:Option Int->Hp->Prop),Q9 K H0 F ρ σ H->(∀b a,Q0 F H b a->Q o a)->t σ H Q
def U6:EvP K Pf ρ none:=λH0 F σ H Q S q=>q F H (Q0.refl S.sub)
def U1{i:Int}(h:Qs K te ρ (.int i)):EvP K (R9 te) ρ (some i):=λH0 F σ H Q S q=>h H0 F σ H _ S λg f v a b=>by cases b;exact⟨i,rfl,q g f a⟩
noncomputable def cut{a:Type}(xs:List a)(lo b:Option Int):List a:=(xs.drop<|HT.sIx xs.length 0 lo).take (HT.sIx xs.length xs.length b-HT.sIx xs.length 0 lo)
theorem Qx.drop{F:Hp}:∀{xs:List V} {ds:Qd} (n:Nat),Qx F xs ds->Qx F (xs.drop n) (ds.drop n)
 |_,_,0,r=>r
 |_,_,_+1,.nil=>.nil
 |_,_,n+1,.cons _ t=>Qx.drop n t
theorem Qx.take{F:Hp}:∀{xs:List V} {ds:Qd} (n:Nat),Qx F xs ds->Qx F (xs.take n) (ds.take n)
 |_,_,0,_=>.nil
 |_,_,_+1,.nil=>.nil
 |_,_,n+1,.cons r t=>.cons r (Qx.take n t)
def E6(r:Qx F xs ds)(lo a:Option Int):Qx F (JY xs lo a) (cut ds lo a):=by
 unfold JY cut;rw[r.length];exact(r.drop _).take _
section
variable {tb:TE}
def Us(as:Qd):Qd:=as.zipIdx.map λp=>PyData.tuple [.int (p.2:Int),p.1]
def MQ(as:Qd):(Us as).length=as.length:=by simp[Us]
def MS(e:(Us as)[i]?=some d):∃a,as[i]?=some a/\d=.tuple [.int (i:Int),a]:=by
 unfold Us at e;rw[Xs,List.getElem?_zipIdx]at e;cases z:as[i]? with
 |none=>rw[z]at e;cases e
 |some a=>rw[z]at e;simp at e;exact⟨a,rfl,e.symm⟩
def Ox{H:Hp}(r:Rep F x (.list ds)):∃a xs,x=.ref a/\F a=some (.lst xs)/\Qx F xs ds:=by
 cases r with
 |lst f b=>exact⟨_,_,rfl,f,b⟩
def Bv(h:Zv K t ρ [.fz<|.list as]):EvI K (RG K t) ρ (Us as):=λH0 F σ H R S q=>
 h H0 F σ H _ S λX C Y m f=>by
  cases f with
  |fz r f=>
   cases f;obtain⟨a,xs,rfl,y,s⟩:=Ox (H:=C) r;refine⟨a,rfl,⟨xs,SqL.of<|m.fh _ _ y⟩,q X C _ m λD W n b=>?_⟩;have g:SqL K W a xs:=SqL.of (b _ _<|n _ _ y);refine⟨⟨xs,g,by rw[MQ,s.length]⟩,λi d e=>?_⟩;obtain⟨d1,P,rfl⟩:=MS e;obtain⟨j,A,M⟩:=s.get P;refine⟨⟨xs,j,g,A⟩,λv c E=>?_⟩;obtain⟨p,x,w,rfl,rfl,k1⟩:=E;have B:=k1 xs g;rw[A]at B;cases B;have sn:Q7 D (upd D p<|.tup [.int (i:Int),j]):=Q7.new (b.free w);exact⟨_,Q0.new b w,.tup QG<|.cons (.int _)<|.cons ((M.mono n).mono sn) .nil⟩
def Ee(h:Qs K ta ρ (.list<|ns.map PyData.int))(f:X.calm=true)(hn:ns≠[]):Qs K (tCB (RA X)<|QF ta QM) ρ (.int<|YA ns):=λH0 F σ H Q S q=>
 h H0 F σ H _ S λi g v a b=>⟨f,v,ns,rfl,b.mono a.fh,hn,q i g _ a<|.int _⟩
def U5(v:Qs K ta ρ (.tuple as))(s:Qs K tb ρ (.tuple bs))(r:as.length+bs.length<=1000):Qs K (tOp (RS K) ta tb) ρ (.tuple<|as++bs):=λH0 F σ H Q S q=>
 Wh v s S λn m x y e i h=>by
  obtain⟨a,xs,rfl,w,f,D⟩:=J9 (K:=K) i e.fh;obtain⟨b,ys,rfl,A,g,E⟩:=J9 (K:=K) h e.fh;refine⟨a,b,xs,ys,rfl,rfl,w,A,by rw[f.length,g.length];exact Y4<|Vp r,λz=>?_,λ_ z=>?_,λ_ _ p j=>?_⟩
  .have:=f.length;rw[z]at this;have C:as=[]:=NO this.symm;rw[C,BQ]at q;exact q n m _ e h
  .have:=g.length;rw[z]at this;have B:bs=[]:=NO this.symm;rw[B,Xx]at q;exact q n m _ e i
  .exact q _ _ _ (e.trans<|Q0.new e.fh j) (.tup QG<|(f.append g).mono (Q7.new<|e.fh.free j))
def Ub:OT->Option PyData
 |.fz d=>some d
 |.ol ds=>some (.list ds)
 |.oll T1=>some (.list<|T1.map PyData.list)
 |.scr _=>none
 |.own _ _=>none
 |.zow _=>none
def frF(F H:Hp)(p:Qg):Hp:=λb=>if b∈p then H b else F b
def WV{p:Qg}{b:Addr}(h:b∈p):frF F H p b=H b:=by unfold frF;rw[Xd h]
def YW{p:Qg}{b:Addr}(h:b∉p):frF F H p b=F b:=by unfold frF;rw[Xb h]
def Wm{p:Qg}(h:∀a∈p,F a=none):Q7 F (frF F H p):=λb u e=>by
 rw[YW λz=>by rw[h b z]at e;cases e];exact e
def M5{p:Qg}(s:Q7 F H):Q7 (frF F H p) H:=λb u e=>by
 by_cases z:b∈p
 .rw[WV z]at e;exact e
 .rw[YW z]at e;exact s b u e
theorem Pr{F f H:Hp}(g:Q7 F f):∀{as:Qg} {T1:List (Qd)},Z8 F H as T1->(∀a∈as,f a=H a)->Qx f (as.map V.ref) (T1.map PyData.list)
 |[],[],_,_=>.nil
 |a::as,ds::T1,h,i=>by
  obtain⟨⟨r,xs,p,n⟩,m⟩:=h;exact .cons (.lst (by rw[i a Xc];exact p)<|n.mono g) (Pr g m λb j=>i b<|Xi _ j)
 |[],_::_,h,_=>False.elim h
 |_::_,[],h,_=>False.elim h
def Ze.frz{p:Qg}(f:Ze K F H v t p)(e:Ub t=some d):Rep (frF F H p) v d:=by
 have g:Q7 F (frF F H p):=Wm λa m=>(f.there a m).1
 cases t with
 |fz A=>cases e;exact f.2.mono g
 |ol ds=>
  cases e;obtain⟨a,rfl,rfl,n,xs,i,h⟩:=f;exact .lst (by rw[WV Xc];exact i) (h.mono g)
 |oll T1=>
  cases e;obtain⟨a,B,rfl,rfl,y,n,i,h⟩:=f;exact .lst (by rw[WV Xc];exact i) (Pr g h λb j=>WV<|Xi _ j)
 |scr w=>cases e
 |own s r=>cases e
 |zow Ψ=>cases e
def Q9.frz(s:Q9 K H0 F ρ σ H)(e:ρ[i]?=some (some t))(h:∀v p,Ze K F H v t p->Ze K (frF F H p) H v t' []):
 ∃p,(∀a∈p,F a=none/\H a≠none/\H0 a=none)/\Q9 K H0 (frF F H p) (ρ.set i<|some t') σ H:=by
 obtain⟨v,p,n,m,g,k⟩:=s.chg e;refine⟨p,λa f=>⟨(g a f).2.1,(g a f).2.2,(g a f).1⟩,(k _ H t' [] (Wm λa f=>(g a f).2.1) (M5 s.sub) (λ_ _ _=>rfl) (λb j=>?_) (h v p m)<|by rintro b ⟨⟩).1⟩
 by_cases z:b∈p
 .exact .inr (.inr z)
 .rw[YW z]at j;exact .inl j
def Q9.freezeG(s:Q9 K H0 F ρ σ H)(e:ρ[i]?=some (some t))(f:Ub t=some d):
 ∃p,(∀a∈p,F a=none/\H a≠none/\H0 a=none)/\Q9 K H0 (frF F H p) (ρ.set i<|zf d) σ H:=s.frz e λv p b=>⟨rfl,b.frz f⟩
def UC{p:Qg}(h:∀a∈p,F a=none/\H a≠none)(x:Q0 (frF F H p) H F' H'):Q0 F H (λb=>if b∈p then none else F' b) H':=
 ⟨x.hh,λb u f=>by
  have g:b∉p:=λz=>by rw[(h b z).1]at f;cases f
  simp only[Xb g];exact x.ff b u<|by rw[YW g];exact f,λb u f=>by
  by_cases z:b∈p
  .simp[z]at f
  .simp only[Xb z]at f;exact x.fh b u f,λb f=>by
  by_cases z:b∈p
  .simp[z]at f
  .simp only[Xb z]at f;rcases x.fr b f with y|y
   .rw[YW z]at y;exact .inl y
   .exact .inr y⟩
def PZ(i:Nat){r:OT}{w:V}(e:ρ[i]?=some (some r))(n:Ub r=some d0)(g:ZO d=some w)(h:Qs K t (ρ.set i<|zf d0) d):Qs K t ρ d:=λH0 F σ H Q S q=>by
 obtain⟨p,f,s⟩:=S.freezeG e n;refine h H0 _ σ H Q s λA y v x b=>?_;have m:=b.flat g;refine q _ y v (UC (λa j=>⟨(f a j).1,(f a j).2.1⟩) x) ?_;subst m;cases b<;>simp[ZO]at g
 .exact .non
 .exact .bl _
 .exact .int _
 .exact .str _
def PD(i:Nat){r:OT}{b:Bool}(e:ρ[i]?=some (some r))(j:Ub r=some d0)(h:Zf K t (ρ.set i<|zf d0) b):Zf K t ρ b:=λH0 F σ H Q S q=>by
 obtain⟨p,f,m⟩:=S.freezeG e j;exact h H0 _ σ H Q m λs n x=>q _ n (UC (λa g=>⟨(f a g).1,(f a g).2.1⟩) x)
def U2(ds:Qd):Prop := ∀d∈ds,∃w,ZO d=some w
theorem Qx.flats{F b:Hp}:∀{xs:List V} {ds:Qd},U2 ds->Qx F xs ds->Qx b xs ds
 |_,_,_,.nil=>.nil
 |_::_,d::_,h,.cons r t=>by
  obtain⟨w,e⟩:=h d Xc;refine .cons ?_ (Qx.flats (λc a=>h c<|Xi _ a) t);cases r<;>simp[ZO]at e
  .exact .non
  .exact .bl _
  .exact .int _
  .exact .str _
end
section
variable {tb:TE}
def Q9.toOO(s:Q9 K H0 F ρ σ H)(e:ρ[i]?=some (some<|.ol [])):Q9 K H0 F (ρ.set i<|some<|.oll []) σ H:=by
 obtain⟨n,y,w,A,h,r,p⟩:=s;have f:=(Xf.mp e).1;refine⟨n,y,by simp[w],A,λj m b=>?_,r,p⟩
 by_cases g:j=i
 .subst g;rw[Xm f]at b;cases b;obtain⟨v,M,a,rfl,E,D,xs,C,B⟩:=h j _ e;cases B;exact⟨_,M,a,[],rfl,E,by simp,D,C,trivial⟩
 .rw[Xt<|Ne.symm g]at b;exact h j m b
def CJ(i:Nat)(e:ρ[i]?=some (some<|.ol []))(h:Q3 K t (ρ.set i<|some<|.oll []) D):Q3 K t ρ D:=λF0 H0 F σ H E x S C=>h F0 H0 F σ H E x (S.toOO e) C
theorem Z8.snoc{F H:Hp}{b:Addr}{ds:Qd}:∀{as:Qg} {T1:List (Qd)},Z8 F H as T1->Vz F H b ds->Z8 F H (as++[b]) (T1++[ds])
 |[],[],_,h=>⟨h,trivial⟩
 |_::_,_::_,h,a=>⟨h.1,Z8.snoc h.2 a⟩
 |[],_::_,h,_=>False.elim h
 |_::_,[],h,_=>False.elim h
theorem Z8.length{F H:Hp}:∀{as:Qg} {T1:List (Qd)},Z8 F H as T1->as.length=T1.length
 |[],[],_=>rfl
 |_::_,_::_,h=>by simp[Z8.length h.2]
 |[],_::_,h=>False.elim h
 |_::_,[],h=>False.elim h
theorem Z8.get{F H:Hp}:∀{as:Qg} {T1:List (Qd)} {k:Nat} {ds:Qd},Z8 F H as T1->T1[k]?=some ds->∃c,as[k]?=some c/\Vz F H c ds
 |[],[],_,_,_,e=>by simp at e
 |a::_,_::_,0,ds,h,e=>by simp at e;subst e;exact⟨a,rfl,h.1⟩
 |_::as,_::T1,k+1,ds,h,e=>by
  obtain⟨c,f,b⟩:=Z8.get (k:=k) (ds:=ds) h.2 (by simpa using e);exact⟨c,by simpa using f,b⟩
 |[],_::_,_,_,h,_=>False.elim h
 |_::_,[],_,_,h,_=>False.elim h
theorem Z8.set{F H:Hp}{c:Addr}{xs:List V}{ds:Qd}(r:Qx F xs ds)(f:F c=none):∀{as:Qg} {T1:List (Qd)} {k:Nat},Z8 F H as T1->as.Nodup->as[k]?=some c->Z8 F (upd H c<|.lst xs) as (T1.set k ds)
 |[],[],_,_,_,e=>by simp at e
 |a::as,d::T1,0,h,b,e=>by
  simp at e;subst e;exact⟨⟨f,xs,QG,r⟩,h.2.other (Xv.mp b).1⟩
 |a::as,d::T1,k+1,h,b,e=>by
  have g:as[k]?=some c:=by simpa using e
  have i:=List.mem_of_getElem? g;exact⟨h.1.other (λz=>(Xv.mp b).1 (by rw[z];exact i)),Z8.set r f h.2 (Xv.mp b).2 g⟩
 |[],_::_,_,h,_,_=>False.elim h
 |_::_,[],_,h,_,_=>False.elim h
def Cb{k:Type}{f:List (Option Nat)}{wi:TI}{g:CIn->TG}{tee:CIn->TE}{xs:List k}{enc:k->PyData}{h:k->Qd}(hi:EvI K wi ρ (xs.map enc))(hl:xs.length<=1000)
(hs:∀x∈xs,∀c,∃w,GTo K (g c) (enc x) (Jr f ρ) w/\EvO K (tee c) w (.ol<|h x)):EvO K (tLC f wi g (λ_=>Ua) tee) ρ (.oll<|xs.map h):=λH0 F σ H Q S q=>
 hi H0 F σ H _ S λO L J M W c=>by
  have hn:xs.length<=sizeLine:=Y4 (Vp hl);refine⟨λi m ys H=>m=xs.length-i/\i<=xs.length/\∃R s,Q0 O L R H/\ys=s.map V.ref/\s.Nodup/\(∀a∈s,L a=none)/\Z8 R H s ((xs.take i).map h),⟨xs.length,by simp,XQ _,O,[],Q0.refl M.fh,rfl,by simp,λa D=>(nomatch D),trivial⟩,?_⟩;rintro i m ys H' ⟨rfl,hle,R,s,n,rfl,u,P,B⟩;obtain⟨Z,U⟩:=W R H' n.ff n.fh
  by_cases r:i<xs.length
  .have e:(xs.map enc)[i]?=some (enc xs[i]):=by simp[r]
   obtain⟨go,T⟩:=U i _ e;refine .inr ⟨go,λv X y=>?_⟩;obtain⟨N,E,r3⟩:=T v X y;obtain⟨w,k1,k2⟩:=hs xs[i] (XX r) c;have S3:=(S.ext<|M.trans<|n.trans E).inner f;have tk:xs.take (i+1)=xs.take i++[xs[i]]:=by rw[JT];simp[r]
   have ol:=B.length;refine k1 H0 N _ X v _ S3 r3 λY S4=>?_;dsimp only[Ua];rw[Xd rfl];refine k2 H0 N Y X _ S4 λF5 H5 z p t I ok=>⟨?_,xs.length-(i+1),by lia,rfl,r,F5,s++[?_],n.trans<|E.trans t,?_,?_,?_,?_⟩
   .rw[Xl,ol,Xl,Ws];lia
   .exact(match z with|.ref b=>b|_=>0)
   all_goals obtain⟨b,rfl,rfl,o1⟩:=ok
   .simp
   .rw[UN];refine⟨u,by simp,λA j d hd=>?_⟩;have l:d=b:=by simpa using hd
    subst l;intro z;subst z;have C:X A=none:=I A Xc;have:=(B.mem A j).2;obtain⟨o,ho⟩:=Mu this;rw[E.hh _ _ ho]at C;cases C
   .intro A j;rcases XD.mp j with j|j
    .exact P A j
    .have:A=b:=by simpa using j
     subst this;exact(n.trans E).hh.free (I A Xc)
   .rw[tk,XF];exact(B.ext<|E.trans t).snoc o1
  .have e:i=xs.length:=by lia
   subst e;refine .inl ⟨by simpa using Z,λa D=>?_⟩;rw[Ji]at B;have G:a∉s:=λz=>(B.mem a z).2 D;refine q R _ _ (a::s) ((M.trans n).trans (Q0.own n.fh D)) (λb C=>?_) ⟨a,s,rfl,rfl,Xv.mpr ⟨G,u⟩,n.fh.free D,QG,B.other G⟩
   rcases Xe.mp C with rfl|C
   .exact(M.trans n).hh.free D
   .exact M.hh.free (P b C)
def Sk(B:Qs K ta ρ (.list ds))(A:Qs K tb ρ (.int k))(h0:0<=k)(w:ds.length*k.toNat<=1000)(E:k<=1000000):EvO K (tOp Rm ta tb) ρ (.ol (List.replicate k.toNat ds).flatten):=λH0 F σ H Q S q=>
 Wh B A S λD P x y e r m=>by
  obtain⟨a,xs,rfl,M,f,C⟩:=JD (K:=K) r e.fh;cases m;have b:(2:Int)^63=9223372036854775808:=by decide
  refine⟨a,k,xs,rfl,rfl,C,by rw[b];lia,by rw[b];lia,by rw[f.length];exact Y4<|Vp w,λp v=>?_⟩;have j:∀n:Nat,Qx D (List.replicate n xs).flatten (List.replicate n ds).flatten:=λn=>by
   induction n with
   |zero=>exact .nil
   |succ n s=>rw[JQ,JQ,UO,UO];exact f.append s
  obtain⟨i,h,g⟩:=G5 (K:=K) e v (j k.toNat);exact q _ _ _ _ i h g
theorem HQ{a:Type}(d:a):∀n:Nat,(List.replicate n [d]).flatten=List.replicate n d
 |0=>rfl
 |n+1=>by rw[JQ,UO,HQ d n];rfl
end
end L2
namespace PySem
section
variable {K:Type} [DecidableEq K] (knd:KeyKind prog w K)
def Yt(h:Heap)(b:List K×List K)(a:Addr):Prop := ∃o n p q,h.get? a=some o/\o.cls=.type "tuple" /\ o.data=.seq #[.ref p,.ref q] n/\IsTupleKey knd h b.1 p/\IsTupleKey knd h b.2 q
variable {knd}
def Yt.typeIs  (x:Yt knd s.heap ks a):s.TypeIs (.ref a) "tuple" := let ⟨o,_,_,_,ho,hc,_⟩:=x;⟨o,ho,hc⟩
def Yt.inj{y:List K×List K}(r:Yt knd h x a)(m:Yt knd h y a):x=y:=by
 obtain⟨o,n,p,q,s,_,v,A,w⟩:=r;obtain⟨D,E,C,B,f,_,b,i,g⟩:=m;cases Option.some.inj (s.symm.trans f);rw[v]at b;injection b with z _;have j:=X9 Array.toList z;simp at j;obtain⟨rfl,rfl⟩:=j;exact Prod.ext (A.inj i) (w.inj g)
def Yt.keeps{es ep}(x:Yt knd h ks a)(i:h.get? d=some o)(m:o.data=.dict es ep)(g:Heap.SameBut d h h'):Yt knd h' ks a:=by
 obtain⟨r,n,p,q,f,s,b,w,v⟩:=x;have j:a≠d:=λz=>by
  subst z;cases Option.some.inj (f.symm.trans i);rw[m]at b;exact nomatch b
 exact⟨r,n,p,q,(g.2 a j).trans f,s,b,w.keeps i m g,v.keeps i m g⟩
noncomputable def Kx(knd:KeyKind prog w K)(a:List K×List K):Int:=reduceHash (Builtin.Tuple.tupleHashOf [tupleKeyHash knd a.1,tupleKeyHash knd a.2])
def ZfD(M:A.units+5<cLine)(v:Yt knd s.heap ks a)(h:Q (Kx knd ks) { s with toks:=s.toks+(ks.1.length+ks.2.length+3) }):
 wpAny (model prog w) A (pyHash<|.ref a) Q E s:=by
 have hT:=v.typeIs;obtain⟨o,n,p,q,y,_,B,D,C⟩:=v;unfold pyHash pyHashByItsType;refine Xa (wpAny_cRoomFor_or (.inr<|by lia) ?_);refine Xa (wpAny_specialOf hT F.slot_tuple_hash.lookup ?_);show wpAny _ _ (if (some (Value.builtin "tuple.__hash__")==some Value.none)=true then _ else _) Q E s;rw[Xb<|by rw[beq_builtin_none];exact XG];refine Xa (wpAny_specialOf hT F.slot_tuple_hash.lookup ?_);show wpAny _ _ (callSpecialIfBoundUnlessNone? (.ref a) "__hash__" _ >>= _) Q E s;refine Xa (wpAny_callSpecialIfBoundUnlessNone?_slot hT F.slot_tuple_hash<|wpAny_call_entry F.slot_tuple_hash hT F.entry_tuple_hash ?_<|F.args_tuple_hash_1 _);show wpAny _ _ (Builtin.Tuple.tupleItemsOf (.ref a) >>= _) _ _ s;refine Xa (wpAny_tupleItemsOf y B ?_);refine Xa ?_
 rw[<- Array.forIn_toList];refine wpAny_forIn_list _
  (λf (b:Array Int) i=>(f=[.ref p,.ref q]/\b.toList=[]/\i=s)\/(f=[.ref q]/\b.toList=[tupleKeyHash knd ks.1]/\i={ s with toks:=s.toks+(ks.1.length+1) }) \/
   (f=[]/\b.toList=[tupleKeyHash knd ks.1,tupleKeyHash knd ks.2]/\i={ s with toks:=s.toks+(ks.1.length+1)+(ks.2.length+1) }))
  _ ?_ ?_ _ _ (.inl ⟨rfl,rfl,rfl⟩)
 .rintro x f b i (⟨g,j,rfl⟩|⟨g,j,rfl⟩|⟨g,_⟩)
  .injection g with r m;subst r m;refine Xa (wpAny_pyHash_tuple ?hu1 D ?_)
   case hu1=>show A.units+1<cLine;lia
   exact Xj (.inr<|.inl ⟨rfl,by simp[j],rfl⟩)
  .injection g with r m;subst r m;refine Xa (wpAny_pyHash_tuple ?hu2 C ?_)
   case hu2=>show A.units+1<cLine;lia
   exact Xj (.inr<|.inr ⟨rfl,by simp[j],rfl⟩)
  .cases g
 .rintro b i (⟨g,_⟩|⟨g,_⟩|⟨_,j,rfl⟩)
  .cases g
  .cases g
  show wpAny _ _ (retInt<|Builtin.Tuple.tupleHashOf b.toList) _ _ _;rw[j];refine wpAny_ret_mkInt ?_;show wpAny _ _ (if (decide (-(2:Int)^63<=Builtin.Tuple.tupleHashOf [tupleKeyHash knd ks.1,tupleKeyHash knd ks.2])&&decide (Builtin.Tuple.tupleHashOf [tupleKeyHash knd ks.1,tupleKeyHash knd ks.2]<2^63))=true then _ else _) Q E _;unfold Kx reduceHash at h;have K:s.toks+(ks.1.length+ks.2.length+3)=s.toks+(ks.1.length+1)+(ks.2.length+1)+1:=by lia
  rw[K]at h;split
  .rename_i g;rw[Xd g]at h;exact Xj h
  .rename_i g;rw[Xb g]at h;exact Xa (wpAny_rule<|Xj h)
def Zjp{y:List K×List K}{b:Addr}{P:Fin->Shared->Prop}(hu:A.units+1<cLine)(G:Yt knd s.heap x a)(t:Yt knd s.heap y b)(h:P (.done<|.ret<|.bool<|decide (x=y)) s):
 wpAny (model prog w) A (Builtin.«tuple.__eq__» ⟨[.ref a,.ref b],[]⟩) P E s:=by
 have l:=t.typeIs;obtain⟨T,Z,p,q,R,_,X,k,d⟩:=G;obtain⟨S,U,F,o,M,_,W,c,Y⟩:=t;show wpAny _ _ (isInstance (.ref b) (.type "tuple") >>= _) _ _ s;refine Xa (wpAny_isInstance l isSubtype_tuple_tuple ?_);simp only[UL,X6,if_false];refine Xa (wpAny_tupleItemsOf R X ?_);refine Xa (wpAny_tupleItemsOf M W ?_);refine Xa ?_
 have z:decide (x=y)=(decide (x.1=y.1)&&decide (x.2=y.2)):=by
  obtain⟨N,L⟩:=x;obtain⟨J,I⟩:=y;simp
 refine wpAny_forIn_list _
  (λf r C=>r.1=none/\C=s/\((f=[(.ref p,.ref F),(.ref q,.ref o)])\/(f=[(.ref q,.ref o)]/\x.1=y.1)\/(f=[]/\x=y)))
  _ ?_ ?_ _ _ ⟨rfl,rfl,.inl rfl⟩
 .rintro⟨u,v⟩ f r C ⟨D,rfl,(g|⟨g,H⟩|⟨g,_⟩)⟩
  .injection g with B n;injection B with m j;subst n m j;refine Xa (wpAny_eqBool_tuple (by lia) k c ?_)
   by_cases i:x.1=y.1
   .rw[XJ i];simp only[UL,X6,if_false];exact Xj ⟨rfl,rfl,.inr<|.inl ⟨trivial,i⟩⟩
   .rw[XI i];simp only[Bool.not_false,if_true];rw[z,XI i,Bool.false_and]at h;exact Xa (Xj<|Xj<|Xj h)
  .injection g with B n;injection B with m j;subst n m j;refine Xa (wpAny_eqBool_tuple (by lia) d Y ?_)
   by_cases i:x.2=y.2
   .rw[XJ i];simp only[UL,X6,if_false];exact Xj ⟨rfl,rfl,.inr<|.inr ⟨trivial,Prod.ext H i⟩⟩
   .rw[XI i];simp only[Bool.not_false,if_true];rw[z,XI i,Bool.and_false]at h;exact Xa (Xj<|Xj<|Xj h)
  .cases g
 .rintro⟨Q,O⟩ C ⟨D,rfl,(g|⟨g,_⟩|⟨_,e⟩)⟩
  .cases g
  .cases g
  simp only at D;subst D;refine Xj ?_;rw[XJ e]at h;exact h
def ZfQ{y:List K×List K}{b:Addr}(j:A.units+5<cLine)(g:Yt knd s.heap x a)(i:Yt knd s.heap y b)(h:Q (decide (x=y)) s):
 wpAny (model prog w) A (eqBool (.ref a)<|.ref b) Q E s:=by
 unfold eqBool;try with_reducible refine wpAny_holding ?_;show wpAny _ _ (if (Value.ref a==Value.ref b)=true then _ else _) Q E s
 by_cases f:(Value.ref a==Value.ref b)=true
 .rw[Xd f];have e:a=b:=by have:=eq_of_beq f;injection this
  subst e;cases g.inj i;exact Xa (wpAny_rule<|Xj<|by simpa using h)
 .rw[Xb f];exact Xa (wpAny_richCompare_same_room (op:=.Eq) g.typeIs i.typeIs F.slot_tuple_eq
   (wpAny_call_entry F.slot_tuple_eq g.typeIs F.entry_tuple_eq (Zjp (by show _+1<cLine;simp;lia) g i ⟨_,rfl,(by rintro⟨⟩),wpAny_truthy_bool h⟩)<|F.args_tuple_eq_2 _ _) (by lia))
def ZkJ(n:Nat)(y:IsTupleKey knd s.heap ks a)(h:Q true s):wpAny (model prog w) A (eqIsQuiet (n+1)<|.ref a) Q E s:=by
 have hT:=y.typeIs;obtain⟨o,g,m,B,_,D,C⟩:=y;unfold eqIsQuiet;refine Xa (wpAny_specialOf hT F.slot_tuple_eq.lookup ?_);show wpAny _ _ (isInstance (.ref a) (.type "tuple") >>= _) _ _ s;refine Xa (wpAny_isInstance hT isSubtype_tuple_tuple ?_);simp only[UL,X6,if_false];refine Xa (wpAny_seqItems B D ?_);refine Xa ?_;show wpAny _ _ (forIn g _ _) _ _ s;rw[<- Array.forIn_toList];refine wpAny_forIn_list _ (λb r i=>r.1=none/\i=s/\∀v∈b,carriedByValue v=true) _ ?_ ?_ _ _ ⟨rfl,rfl,C.byValue⟩
 .rintro v b r i ⟨p,rfl,f⟩;rw[eqIsQuiet_byValue _<|f v Xc];refine Xa (Xj ?_);simp only[UL,X6,if_false];exact Xj ⟨rfl,rfl,λu j=>f u<|Xi _ j⟩
 .rintro⟨M,K⟩ i ⟨p,rfl,_⟩;simp only at p;subst p;exact Xj h
def ZeF(B:Yt knd s.heap ks a)(h:Q true s):wpAny (model prog w) A (eqIsQuiet 8<|.ref a) Q E s:=by
 have hT:=B.typeIs;obtain⟨o,n,p,q,D,_,K,P,M⟩:=B;unfold eqIsQuiet;refine Xa (wpAny_specialOf hT F.slot_tuple_eq.lookup ?_);show wpAny _ _ (isInstance (.ref a) (.type "tuple") >>= _) _ _ s;refine Xa (wpAny_isInstance hT isSubtype_tuple_tuple ?_);simp only[UL,X6,if_false];refine Xa (wpAny_seqItems D K ?_);refine Xa ?_;show wpAny _ _ (forIn #[Value.ref p,Value.ref q] _ _) _ _ s;rw[<- Array.forIn_toList];refine wpAny_forIn_list _ (λb r i=>r.1=none/\i=s/\∀v∈b,∃z y,v=.ref z/\IsTupleKey knd s.heap y z) _ ?_ ?_ _ _ ⟨rfl,rfl,λv g=>?_⟩
 .rintro v b r i ⟨m,rfl,f⟩;obtain⟨z,y,rfl,C⟩:=f v Xc;refine Xa (ZkJ 6 C ?_);simp only[UL,X6,if_false];exact Xj ⟨rfl,rfl,λu j=>f u<|Xi _ j⟩
 .rintro⟨W,R⟩ i ⟨m,rfl,_⟩;simp only at m;subst m;exact Xj h
 .rcases Xe.mp g with rfl|g
  .exact⟨p,_,rfl,P⟩
  .rcases Xe.mp g with rfl|g
   .exact⟨q,_,rfl,M⟩
   .cases g
end
noncomputable def Kj{prog:Program}{w:World}{K:Type}[DecidableEq K](knd:KeyKind prog w K):HeapKind prog w (List K×List K) where
 is:=Yt knd
 hash:=Kx knd
 draws:=λi=>i.1.length+i.2.length+3
 room:=λA=>A.units+5<cLine
 inj:=λb a=>b.inj a
 keeps:=λx m hd j=>x.keeps m hd j
 pyHash:=λf g h=>ZfD f g h
 eqBool:=λf b a h=>ZfQ f b a h
 quiet:=λg h=>ZeF g h
section
variable {K:Type} [DecidableEq K] {knd:HeapKind prog w K}
def Zd5{d:Addr}{xs:List (K×Addr×Value)}{k:K}{f:Value}{Q:Qb}(P:knd.room A)(b:knd.is s.heap k a)(W:s.heap.DictOfH knd d xs)
(g:∀p,atKey xs k=some p->Q p.2 { s with toks:=s.toks+knd.draws k })
(v:atKey xs k=none->∀h',h'.DictOfH knd d (xs++[(k,a,f)])->Heap.SameBut d s.heap h'->Q f { s with heap:=h',toks:=s.toks+knd.draws k })
(hsz:xs.length<=sizeLine):
 wpAny (model prog w) A (dictSetDefault d (.ref a) f) Q E s:=by
 obtain⟨o,es,Y,m,X,i,C,B,D⟩:=W;unfold dictSetDefault;try with_reducible refine wpAny_holding ?_;refine Xa (knd.pyHash P b ?_);refine Xa (wpAny_dictFind_heap (s:={ s with toks:=s.toks+knd.draws k }) P b m i C B D ?_ ?_)
 .intro r;have n:k∉xs.map (·.1):=not_mem_keys_of_get r;refine Xa (wpAny_rule (Xa (wpAny_updateDictKeys (hz:=by have e:=size_of_entries C;lia) (s:={ s with toks:=s.toks+knd.draws k }) m i (Xj (v (atKey_none_of_get r) _ ⟨_,_,Y+1,X8 _ m<|Obj.isFreed_of_dict<|Obj.data_mapDictKeys i _,
   X.mapDictKeys _,Obj.data_mapDictKeys i _,?_,?_,?_⟩<|Heap.SameBut.update ..)))))
  .simp[C,entryOfKey]
  .intro x h;rcases XD.mp h with h|h
   .exact knd.keeps (B x h) m i (Heap.SameBut.update ..)
   .simp only[Xh]at h;subst h;exact knd.keeps b m i (Heap.SameBut.update ..)
  .rw[XF,UN];refine⟨D,by simp,?_⟩;intro x h y M;simp only[Xw,GL,Xh]at M;subst M;exact λe=>n (e▸h)
 .intro j p R;refine Xa (wpAny_dictEntries (s:={ s with toks:=s.toks+knd.draws k }) m i ?_);rw[entry_at C j,R];exact Xa (wpAny_rule<|Xj<|g _<|atKey_of_get D R)
def ZdY(knd:HeapKind prog w K)(d a:Addr)(v:(d==sysModules)=false)(b:Value):
 MeetsIn prog w (Builtin.«dict.setdefault» ⟨[.ref d,.ref a,b],[]⟩) (λA R s=>knd.room A.in1/\∃k xs,knd.is s.heap k a/\s.heap.DictOfH knd d xs/\xs.length<=sizeLine/\
  (∀p,atKey xs k=some p->R (.ok<|.ret p.2) { s with toks:=s.toks+knd.draws k })/\
  (atKey xs k=none->∀h',h'.DictOfH knd d (xs++[(k,a,b)])->Heap.SameBut d s.heap h'->R (.ok<|.ret b) { s with heap:=h',toks:=s.toks+knd.draws k })):=
 .of_wp λA R s ⟨m,k,xs,f,i,j,B,y⟩=>by
  unfold Builtin.«dict.setdefault»;refine Xa ?_;unfold Builtin.Dict.keyAndDefault;refine Xa (wpAny_notOrdered_dict i.typeIs ?_);show wpAny _ _ (pure (d,Value.ref a,some b)) _ _ s;refine Xj ?_;show wpAny _ _ (if (d==sysModules)=true then _ else (dictSetDefault d (.ref a) b >>= _)) _ _ s;rw[Xb<|by rw[v];exact XG];exact Xa (Zd5 m f i (λp n=>Xj ⟨p.2,rfl,B p n⟩) (λr h' h g=>Xj ⟨b,rfl,y r h' h g⟩) j)
end
end PySem
namespace L2
section
variable {κ:Type} [DecidableEq κ]
noncomputable def Z4(L0:List (κ×V))(k:κ):Option V:=(L0.find? λa=>decide (a.1=k)).map (·.2)
noncomputable def Yf(L0:List (κ×V))(k:κ)(v:V):List (κ×V):=
 if (L0.any λa=>decide (a.1=k))=true then L0.map (λa=>if a.1=k then (a.1,v) else a) else L0++[(k,v)]
def YT{p:κ×V}{r:List (κ×V)}(e:p.1=k):Z4 (p::r) k=some p.2:=by simp[Z4,Xy,e]
def YU{p:κ×V}{r:List (κ×V)}(e:¬p.1=k):Z4 (p::r) k=Z4 r k:=by simp[Z4,Xy,e]
theorem PX(k:κ):∀L0:List (κ×V),(L0.any λa=>decide (a.1=k))=(Z4 L0 k).isSome
 |[]=>rfl
 |p::r=>by
  rw[List.any_cons];by_cases e:p.1=k
  .simp only[YT e,XJ e,Bool.true_or,Option.isSome_some]
  .rw[YU e,XI e,Bool.false_or];exact PX k r
theorem T8(k j:κ)(y:V):∀L0:List (κ×V),Z4 L0 k=none->Z4 (L0++[(k,y)]) j=if j=k then some y else Z4 L0 j
 |[],_=>by
  by_cases e:k=j
  .rw[Xd e.symm];exact YT (p:=(k,y)) e
  .rw[Xb λz=>e z.symm];exact YU (p:=(k,y)) e
 |p::r,a=>by
  rw[GM];have b:¬p.1=k:=λz=>by rw[YT z]at a;cases a
  rw[YU b]at a;have f:=T8 k j y r a
  by_cases e:p.1=j
  .rw[YT e,YT e,Xb λz=>b<|e.trans z]
  .rw[YU e,YU e,f]
def LB(L0:List (κ×V))(k:κ)(v:V):(Yf L0 k v).length<=L0.length+1:=by
 unfold Yf;split
 .rw[Xl];lia
 .rw[Xn,XN,List.length_nil];lia
def ZT.isSome_eq(r:ZT o u):o.isSome=u.isSome:=by
 cases o with
 |none=>cases u with
  |none=>rfl
  |some _=>exact(show False from r).elim
 |some _=>cases u with
  |none=>exact(show False from r).elim
  |some _=>rfl
def ZT.getD(r:ZT o u)(a:QN d d'):QN (o.getD d) (u.getD d'):=by
 cases o with
 |none=>cases u with
  |none=>exact a
  |some _=>exact(show False from r).elim
 |some _=>cases u with
  |none=>exact(show False from r).elim
  |some _=>exact r
def KV.val(r:KV L0 vs)(k:κ):ZT (Z4 L0 k) (valueAt vs k):=by
 unfold KV at r;induction r with
 |nil=>exact True.intro
 |@cons p q ps a h t i=>
  obtain⟨g,j⟩:=h
  by_cases e:p.1=k
  .have f:q.1=k:=g.symm.trans e;have b:valueAt (q::a) k=some q.2:=by simp[valueAt,Xy,f]
   rw[YT e,b];exact j
  .have f:¬q.1=k:=λz=>e (g.trans z)
   have b:valueAt (q::a) k=valueAt a k:=by simp[valueAt,Xy,f]
   rw[YU e,b];exact i
def KV.any(r:KV L0 vs)(k:κ):(L0.any λa=>decide (a.1=k))=vs.any λa=>decide (a.1=k):=by
 unfold KV at r;induction r with
 |nil=>rfl
 |cons h t b=>rw[List.any_cons,List.any_cons,b,h.1]
def KV.repl(r:KV L0 vs)(k:κ)(f:QN y u):
 KV (L0.map λa=>if a.1=k then (a.1,y) else a) (vs.map λa=>if a.1=k then (a.1,u) else a):=by
 unfold KV at r ⊢;induction r with
 |nil=>exact .nil
 |@cons p q ps j h t g=>
  rw[Xw,Xw];refine .cons ?_ g;obtain⟨b,i⟩:=h
  by_cases e:p.1=k
  .rw[Xd e,Xd<|b.symm.trans e];exact⟨b,f⟩
  .rw[Xb e,Xb λz=>e<|b.trans z];exact⟨b,i⟩
def KV.put(r:KV L0 vs)(k:κ)(a:QN y u):KV (Yf L0 k y) (stored vs k u):=by
 unfold Yf stored;rw[r.any k];by_cases e:(vs.any λb=>decide (b.1=k))=true
 .rw[Xd e,Xd e];exact r.repl k a
 .rw[Xb e,Xb e];exact Paired.snoc r ⟨rfl,a⟩
def KV.keys{L0:List (κ×V)}{vs:List (κ×Value)}(r:KV L0 vs):L0.map (·.1)=vs.map (·.1):=by
 unfold KV at r;induction r with
 |nil=>rfl
 |cons h t a=>rw[Xw,Xw,a,h.1]
def KV.length{L0:List (κ×V)}{vs:List (κ×Value)}(r:KV L0 vs):L0.length=vs.length:=Paired.length r
end
def Gg(r:QN (kV k) u):(Vr P w).is k u=true:=by
 cases k with
 |inl i=>obtain⟨t,e⟩:=(show ∃t,u=Value.int i t from r);subst e;exact Zlq P w i t
 |inr x=>obtain⟨t,e⟩:=(show ∃t,u=Value.str x t from r);subst e;exact Zk3 P w x t
theorem TQ{P:Program}{w:World}:∀{a:List Key} {us:Qe},QQ (a.map kV) us->ItemsAre (Vr P w) a us
 |[],_,r=>by rw[GL]at r;cases r;exact .nil
 |k::a,_,r=>by
  rw[Xw]at r;cases r with
  |cons h t=>exact .cons (Gg h) (TQ t)
abbrev KT(H:Hp):List (List Key×V)->List (List Key×Addr×Value)->Prop:=Paired λp q=>p.1=q.1/\H q.2.1=some (.tup<|p.1.map kV)/\QN p.2 q.2.2
def KT.val{xs:List (List Key×Addr×Value)}(r:KT H L0 xs)(k:List Key):ZT (Z4 L0 k) ((atKey xs k).map (·.2)):=by
 induction r with
 |nil=>exact True.intro
 |@cons p q ps a h t i=>
  obtain⟨g,_,j⟩:=h
  by_cases e:p.1=k
  .have f:q.1=k:=g.symm.trans e;have b:atKey (q::a) k=some q.2:=by simp[atKey,Xy,f]
   rw[YT e,b];exact j
  .have f:¬q.1=k:=λz=>e (g.trans z)
   have b:atKey (q::a) k=atKey a k:=by simp[atKey,Xy,f]
   rw[YU e,b];exact i
def KT.repl{xs:List (List Key×Addr×Value)}(r:KT H L0 xs)(k:List Key)(g:QN y u):
 KT H (L0.map λb=>if b.1=k then (b.1,y) else b) (xs.map<|putAt k u):=by
 induction r with
 |nil=>exact .nil
 |@cons p q ps m h t i=>
  rw[Xw,Xw];refine .cons ?_ i;obtain⟨a,f,j⟩:=h;unfold putAt;by_cases e:p.1=k
  .rw[Xd e,Xd<|a.symm.trans e];exact⟨a,f,g⟩
  .rw[Xb e,Xb λz=>e<|a.trans z];exact⟨a,f,j⟩
def KT.put{xs:List (List Key×Addr×Value)}(r:KT H L0 xs)(k:List Key){b:Addr}(g:H b=some (.tup<|k.map kV))(a:QN y u):
 KT H (Yf L0 k y) (storedH xs k b u):=by
 have e:(L0.any λf=>decide (f.1=k))=(atKey xs k).isSome:=by
  rw[PX,(r.val k).isSome_eq,JN]
 unfold Yf storedH;rw[e];by_cases q:(atKey xs k).isSome=true
 .rw[Xd q,Xd q];exact r.repl k a
 .rw[Xb q,Xb q];exact Paired.snoc r ⟨rfl,g,a⟩
def KT.keeps{xs:List (List Key×Addr×Value)}(r:KT H L0 xs)(a:∀b ys,H b=some (.tup ys)->H' b=some (.tup ys)):KT H' L0 xs:=
 Paired.mapP r λ_ _ z=>⟨z.1,a _ _ z.2.1,z.2.2⟩
section
variable {H:Hp}
def R1(b:HOk P w H h)(e:Rd H a u):Z6 P w H h a u:=e.ok b
def Jp(b:HOk P w H h)(e:Rd H a (.dK L0)):L0.length<=sizeLine/\(a==sysModules)=false/\∃vs,KV L0 vs/\h.DictOf (Vr P w) a vs:=
 show Z6 P w H h a (.dK L0) from R1 b e
def LY(b:HOk P w H h)(e:H a=some (.dK L0)):L0.length<=sizeLine/\(a==sysModules)=false/\∃vs,KV L0 vs/\h.DictOf (Vr P w) a vs:=Jp b (.inl e)
def W5(f:HOk P w H h)(e:H a=some (.tup<|ks.map kV)):(tupleKind<|Vr P w).is h ks a:=by
 obtain⟨_,b,r,o,j,i,n,g⟩:=(show Z6 P w H h a (.tup<|ks.map kV) from f a _ e)
 exact⟨o,b.toArray,n,j,i,g,by simpa using TQ r⟩
def Up(g:HOk P w H h)(e:Rd H a (.dT L0)):L0.length<=sizeLine/\(a==sysModules)=false/\
 ∃xs,KT H L0 xs/\h.DictOfH (tupleKind<|Vr P w) a xs:=by
 obtain⟨z,y,xs,r,o,es,C,B,A,v,s,n⟩:=(show Z6 P w H h a (.dT L0) from R1 g e);refine⟨z,y,xs,r,o,es,C,B,A,v,s,λx b=>?_,n⟩;have f:∀{l:List (List Key×V)} {m:List (List Key×Addr×Value)},KT H l m->∀x∈m,(tupleKind<|Vr P w).is h x.1 x.2.1:=by
  intro l m q;induction q with
  |nil=>intro x b;exact nomatch b
  |@cons p q ps D i t j=>
   intro x b;rcases Xe.mp b with e|b
   .subst e;exact W5 g (by rw[<- i.1];exact i.2.1)
   .exact j x b
 exact f r x b
def DM(b:HOk P w H h)(e:H a=some (.dT L0)):L0.length<=sizeLine/\(a==sysModules)=false/\
 ∃xs,KT H L0 xs/\h.DictOfH (tupleKind<|Vr P w) a xs:=Up b (.inl e)
end
def V9(H:Hp)(a:Addr)(y:V)(r:Option V):Prop:=
 (∃f k,Rd H a (.dK f)/\y=kV k/\r=Z4 f k)\/∃f k b,Rd H a (.dT f)/\y=.ref b/\H b=some (.tup<|k.map kV)/\r=Z4 f k
def Jk(H:Hp)(a:Addr)(y v:V)(g:Hp):Prop:=
 (∃f k,H a=some (.dK f)/\y=kV k/\f.length<sizeLine/\g=upd H a (.dK<|Yf f k v)) \/
 ∃f k b,H a=some (.dT f)/\y=.ref b/\H b=some (.tup<|k.map kV)/\f.length<sizeLine/\g=upd H a (.dT<|Yf f k v)
def V9.k{H:Hp}{L0:List (Key×V)}{k:Key}(e:H a=some (.dK L0)):V9 H a (kV k) (Z4 L0 k):=.inl ⟨L0,k,.inl e,rfl,rfl⟩
def V9.t{b:Addr}{L0:List (List Key×V)}{k:List Key}(e:H a=some (.dT L0))(f:H b=some (.tup<|k.map kV)):V9 H a (.ref b) (Z4 L0 k):=.inr ⟨L0,k,b,.inl e,rfl,f,rfl⟩
def Jk.k{H:Hp}{L0:List (Key×V)}{k:Key}(e:H a=some (.dK L0))(b:L0.length<sizeLine):Jk H a (kV k) v (upd H a<|.dK<|Yf L0 k v):=.inl ⟨L0,k,e,rfl,b,rfl⟩
def Jk.t{b:Addr}{L0:List (List Key×V)}{k:List Key}(e:H a=some (.dT L0))(g:H b=some (.tup<|k.map kV))(f:L0.length<sizeLine):
 Jk H a (.ref b) v (upd H a<|.dT<|Yf L0 k v):=.inr ⟨L0,k,b,e,rfl,g,f,rfl⟩
section
variable {H:Hp}{u:Value}{o:Option V}
def Qt.big(I:Qt X Xa7 σ H s):sysModules<s.heap.objs.size:=by
 have h:mainGlobals<s.heap.objs.size:=(I.mod.glob.keeps I.bk).lt;exact Nat.lt_trans (by decide) h
def Ow(K:A.units+1<cLine)(I:Qt X Xa7 σ H s)(g:V9 H a y (some v))(C:QN y u)(h:∀j B,Qt X Xa7 σ H B->QN v j->Q j B):
 wpAny (model X.prog X.w) A (getItem (.ref a) u) Q E s:=by
 rcases g with ⟨m,k,e,w,l⟩|⟨m,k,b,e,w,R,l⟩
 .subst w;obtain⟨z,P,D,i,dd⟩:=Jp I.hok e;obtain⟨j,n,f⟩:=ZT.some_of (v:=v) (o:=valueAt D k) (by rw[l];exact i.val k);exact wpAny_getItem_of (Gg C) dd.mapOf n (h j _ (I.tok _) f)
 .subst w;cases (show u=Value.ref b from C);obtain⟨z,P,xs,i,dd⟩:=Up I.hok e;obtain⟨j,n,f⟩:=ZT.some_of (v:=v) (o:=(atKey xs k).map (·.2)) (by rw[l];exact i.val k);obtain⟨p,M,r⟩:=Option.map_eq_some_iff.mp n;refine wpAny_getItem_heap (tupleKind_room_in1 K) (W5 I.hok R) dd M ?_;rw[r];exact h j _ (I.tok _) f
def Fs(r:A.units+1<cLine)(I:Qt X Xa7 σ H s)(g:V9 H a y o)(p:QN y u)(h:∀n,Qt X Xa7 σ H n->Q (.bool o.isSome) n):
 wpAny (model X.prog X.w) A (compareOp .In u<|.ref a) Q E s:=by
 rcases g with ⟨i,k,e,m,l⟩|⟨i,k,b,e,m,v,l⟩
 .subst m;obtain⟨z,j,w,f,dd⟩:=Jp I.hok e;refine wpAny_in_of (Gg p) j dd.mapOf ?_;rw[<- (f.val k).isSome_eq,<- l];exact h _ (I.tok _)
 .subst m;cases (show u=Value.ref b from p);obtain⟨z,j,xs,f,dd⟩:=Up I.hok e;refine wpAny_in_heap (tupleKind_room_in1 r) (W5 I.hok v) j dd ?_;have q:=(f.val k).isSome_eq;rw[JN]at q;rw[<- q,<- l];exact h _ (I.tok _)
def Ak(r:A.units+1<cLine)(I:Qt X Xa7 σ H s)(g:V9 H a y o)(p:QN y u)(h:∀n,Qt X Xa7 σ H n->Q (.bool<|!o.isSome) n):
 wpAny (model X.prog X.w) A (compareOp .NotIn u<|.ref a) Q E s:=by
 rcases g with ⟨i,k,e,m,l⟩|⟨i,k,b,e,m,v,l⟩
 .subst m;obtain⟨z,j,w,f,dd⟩:=Jp I.hok e;refine wpAny_notIn_of (Gg p) j dd.mapOf ?_;rw[<- (f.val k).isSome_eq,<- l];exact h _ (I.tok _)
 .subst m;cases (show u=Value.ref b from p);obtain⟨z,j,xs,f,dd⟩:=Up I.hok e;refine wpAny_notIn_heap (tupleKind_room_in1 r) (W5 I.hok v) j dd ?_;have q:=(f.val k).isSome_eq;rw[JN]at q;rw[<- q,<- l];exact h _ (I.tok _)
def Bx(I:Qt X Xa7 σ H s)(g:Mut (H a))(h:Heap.SameBut a s.heap h')(he:∃q,h'.get? a=some q)(f:Z6 X.prog X.w (upd H a ob) h' a ob):
 Qt X Xa7 σ (upd H a ob) { s with heap:=h',toks:=t' }:=
 I.write (x:=a) (e:=a) g (.inl rfl) (λb q i z=>(h.2 b i).trans z) he f
def Sb(z:L0.length<=sizeLine)(f:(a==sysModules)=false)(b:KV L0 vs)(dd:h'.DictOf (Vr P w) a vs):
 Z6 P w H' h' a (.dK L0):=⟨z,f,vs,b,dd⟩
def O1(Y:A.units+1<cLine)(I:Qt X Xa7 σ H s)(g:Jk H a y v H')(K:QN y u)(M:QN v r)(h:∀D,Qt X Xa7 σ H' D->Q () D):
 wpAny (model X.prog X.w) A (setItem (.ref a) u r) Q E s:=by
 rcases g with ⟨i,k,e,B,l,C⟩|⟨i,k,b,e,B,R,l,C⟩
 .subst B C;obtain⟨z,w,W,f,dd⟩:=LY I.hok e;have n:W.length<=sizeLine:=by rw[<- f.length];exact z
  have p:(Yf i k v).length<=sizeLine:=by have:=LB i k v;lia
  refine wpAny_setItem_pairs (hsz:=n) (Gg K) dd λh' j o=>h _ ?_;have d:∃q,h'.get? a=some q:=let ⟨q,_,_,m,_⟩:=j;⟨q,m⟩;exact Bx I (by rw[e];exact True.intro) o d (Sb p w (f.put k M) j)
 .subst B C;cases (show u=Value.ref b from K);obtain⟨z,w,xs,f,dd⟩:=DM I.hok e;have n:xs.length<=sizeLine:=by rw[<- Paired.length f];exact z
  have p:(Yf i k v).length<=sizeLine:=by have:=LB i k v;lia
  refine wpAny_setItem_heap (hsz:=n) (tupleKind_room_in1 Y) (W5 I.hok R) dd λh' j o=>h _ ?_;obtain⟨q,es,J,m,G,F,x,_,t⟩:=j;refine Bx I (by rw[e];exact True.intro) o ⟨q,m⟩ ⟨p,w,_,(f.put k R M).keeps λc ys P=>?_,q,es,J,m,G,F,x,t⟩;rw[Qu<|RD P e λz=>nomatch z];exact P
end
def DD(i:Expr):Prop := ∀a b,subscripted i false a b=operate [a,b] (getItem a b)
def SH{env:Env}{b a:Expr}{T p:String}{Q:Qb}
(y:typeLookup (.type T) "__getitem__"=pure (some<|.builtin p))(v:DD a)
(h:wpAny (model prog w) A (eval b env) (λo n=>wpAny (model prog w) A (eval a env) (λi g=>g.TypeIs o T/\wpAny (model prog w) A (getItem o i) Q E g) E n) E s):
 wpAny (model prog w) A (eval (.Subscript b a pos) env) Q E s:=by
 refine Subscript_ (wpAny_mono h (λo n C=>wpAny_mono C (λi g j=>?_) λ_ _ x=>x) λ_ _ x=>x);obtain⟨hT,j⟩:=j;unfold subscriptTail;refine Xa ?_;rw[getitemInPython_of_ne hT.not_modules];refine Xa (wpAny_specialOf hT y ?_);have f:wpAny (model prog w) A (subscripted a false o i) (λr m=>wpAny (model prog w) A (letTemporaryGo b o r >>= λ_=>pure r) Q E m) E g:=by
  rw[v o i];exact wpAny_operating (wpAny_mono j (λr m B=>Xa<|wpAny_letTemporaryGo<|Xj B) λ_ _ x=>x)
 first
  |exact Xj (Xa f)
  |exact Xa (Xj<|Xa f)
  |exact Xa f
def ZkH     (I:Qt X Xa7 σ H s)(g:V9 H a y o):s.TypeIs (.ref a) "dict" := by
 rcases g with ⟨f,k,e,_,_⟩|⟨f,k,b,e,_,_,_⟩
 .obtain⟨_,_,h,_,dd⟩:=Jp I.hok e;exact dd.typeIs
 .obtain⟨_,_,xs,_,dd⟩:=Up I.hok e;exact dd.typeIs
def BY(td f:TE):TE:=λσ H Q=>td σ H λx g=>f σ g λy b=>∃a v,x=.ref a/\V9 b a y (some v)/\Q v b
def BX(f td:TE):TE:=λσ H Q=>f σ H λy g=>td σ g λx b=>∃a o,x=.ref a/\V9 b a y o/\Q (.bl o.isSome) b
def SC(f td:TE):TE:=λσ H Q=>f σ H λy g=>td σ g λx b=>∃a o,x=.ref a/\V9 b a y o/\Q (.bl<|!o.isSome) b
def DO(td f tv:TE):TS:=λD σ H=>tv σ H λv i=>td σ i λx h=>f σ h λy g=>∃a b,x=.ref a/\Jk g a y v b/\D.nx σ b
section
variable {o i value:Expr}{ty:TE}
def Mx(w:X.A.units+1<cLine)(B:PE X o td)(C:PE X i ty)(A:DD i):PE X (.Subscript o i pos) (BY td ty):=by
 intro Xa7 s σ H Q I h;refine SH PySem.F.slot_dict_getitem.lookup A (QB (B Xa7 s σ H _ I h) ?_);rintro u j ⟨x,P,K,n,r⟩;refine QB (C Xa7 j σ P _ K r) ?_;rintro c Y ⟨y,M,f,m,a,v,D,g,p⟩;subst D;obtain rfl:u=Value.ref a:=n;exact⟨ZkH f g,Ow w f g m λR W E b=>⟨v,M,E,b,p⟩⟩
def Ht(r:X.A.units+1<cLine)(w:PE X i ty)(v:PE X o td):PC X .In i o (BX ty td):=by
 intro Xa7 s σ H Q I h;refine QB (w Xa7 s σ H _ I h) ?_;rintro R b ⟨y,K,D,f,n⟩;refine QB (v Xa7 b σ K _ D n) ?_;rintro u P ⟨x,E,C,j,a,p,A,g,m⟩;subst A;obtain rfl:u=Value.ref a:=j;exact Fs r C g f λM B=>⟨.bl p.isSome,E,B,rfl,m⟩
def IZ(r:X.A.units+1<cLine)(w:PE X i ty)(v:PE X o td):PC X .NotIn i o (SC ty td):=by
 intro Xa7 s σ H Q I h;refine QB (w Xa7 s σ H _ I h) ?_;rintro R b ⟨y,K,D,f,n⟩;refine QB (v Xa7 b σ K _ D n) ?_;rintro u P ⟨x,E,C,j,a,p,A,g,m⟩;subst A;obtain rfl:u=Value.ref a:=j;exact Ak r C g f λM B=>⟨.bl<|!p.isSome,E,B,rfl,m⟩
def HI(C:X.A.units+1<cLine)(K:PE X o td)(M:PE X i ty)(B:PE X value tv)(E:swapsWith value (some<|.Subscript o i pos') pos.line X.env=pure false):
 PS X (.Assign [.Subscript o i pos'] value pos) (DO td ty tv):=by
 intro Xa7 s σ H D I h;refine wpAny_Assign_Subscript (QB (B Xa7 s σ H _ I h) ?_) E;rintro r f ⟨v,k,c,n,A⟩;refine QB (K Xa7 f σ k _ c A) ?_;rintro u b ⟨x,e,Y,m,w⟩;refine QB (M Xa7 b σ e _ Y w) ?_;rintro t q ⟨y,z,W,j,a,d,P,g,p⟩;subst P;obtain rfl:u=Value.ref a:=m;exact O1 C W g j n λl R=>⟨σ,d,R,p⟩
end
def Ik  (h:Heap)(a:sysModules<h.objs.size):Z6 P w H (h.push { cls:=.type "dict",data:=.dict #[] }) h.objs.size (.dK []):=
 ⟨XQ _,beq_eq_false_iff_ne.mpr<|Ne.symm<|Xr a,[],.nil,Heap.DictOf.new h⟩
def P0  (h:Heap)(a:sysModules<h.objs.size):Z6 P w H (h.push { cls:=.type "dict",data:=.dict #[] }) h.objs.size (.dT []):=
 ⟨XQ _,beq_eq_false_iff_ne.mpr<|Ne.symm<|Xr a,[],.nil,_,#[],0,XB _ rfl,⟨rfl,rfl,rfl⟩,rfl,rfl,UM⟩
def S8:TE:=λ_ H Q=>∀p,H p=none->Q (.ref p) (upd H p<|.dK [])
def FE:TE:=λ_ H Q=>∀p,H p=none->Q (.ref p) (upd H p<|.dT [])
def K2:PE X (.Dict [] [] pos) S8:=λXa7 s σ H Q I h=>
 wpAny_Dict_empty ⟨.ref s.heap.objs.size,_,I.laid (a:=s.heap.objs.size) (o:=.dK []) (t':=s.toks) (λ_ _ q=>Xg _ q) (Xq _)<|Ik s.heap I.big,rfl,h _<|I.hok.fresh<|Xq _⟩
def Og:PE X (.Dict [] [] pos) FE:=λXa7 s σ H Q I h=>
 wpAny_Dict_empty ⟨.ref s.heap.objs.size,_,I.laid (a:=s.heap.objs.size) (o:=.dT []) (t':=s.toks) (λ_ _ q=>Xg _ q) (Xq _)<|P0 s.heap I.big,rfl,h _<|I.hok.fresh<|Xq _⟩
structure M2(X:Cx)(o:Expr)(m:Str)(SF:Pos)(e f:Expr)(L3:Pos):Prop where
 base:attributeBase o m X.env (eval o X.env)=eval o X.env
 few:((backTo L3<|starEach [e,f] X.env).all (λx => !x.1)&&(backToKw L3<|keywordEach [] X.env).all (λx=>x.1.isSome)
  && decide (([e,f]:Qi).length+([]:List Keyword).length+(if ([]:List Keyword).isEmpty then 0 else 1)<30))=true
 line:(SF.endLine==L3.line)=true
 trees:backTo L3 (starEach [e,f] X.env)=[(false,eval e X.env),(false,eval f X.env)]
def IsD(H:Hp)(a:Addr):Prop:=(∃b,Rd H a<|.dK b)\/∃b,Rd H a (.dT b)
def Sd(I:Qt X Xa7 σ H s)(d:IsD H a):
 s.TypeIs (.ref a) "dict" /\ (∀b,Value.ref a=.ref b->∃ob,s.heap.get? b=some ob/\ob.dict=none)/\(a==sysModules)=false:=by
 rcases d with ⟨f,e⟩|⟨f,e⟩
 .obtain⟨_,g,j,_,dd⟩:=Jp I.hok e;refine⟨dd.typeIs,λb q=>?_,g⟩;cases q;obtain⟨ob,_,_,i,h,_⟩:=dd;exact⟨ob,i,h.2.1⟩
 .obtain⟨_,g,xs,_,dd⟩:=Up I.hok e;refine⟨dd.typeIs,λb q=>?_,g⟩;cases q;obtain⟨ob,_,_,i,h,_⟩:=dd;exact⟨ob,i,h.2.1⟩
section
variable {H:Hp}{d:V}{u:Value}{o:Option V}
def F8(B:A.units+1<cLine)(I:Qt X Xa7 σ H s)(g:V9 H a y o)(v:QN y u)(w:QN d r)(h:∀n p,Qt X Xa7 σ H p->QN (o.getD d) n->Q n p):
 wpAny (model X.prog X.w) A (call (.builtin "dict.get") [.ref a,u,r]) Q E s:=by
 rcases g with ⟨i,k,e,m,l⟩|⟨i,k,b,e,m,C,l⟩
 .subst m;obtain⟨z,j,D,f,dd⟩:=Jp I.hok e;refine call_meetsIn PySem.F.slot_dict_get dd.typeIs PySem.F.entry_dict_get (PySem.F.args_dict_get_3 _ _ _) (meets_dict_get_default (Vr X.prog X.w) a (Gg v) j r) ⟨_,dd.mapOf,h _ _ (I.tok _) ?_⟩;rw[l];exact(f.val k).getD w
 .subst m;cases (show u=Value.ref b from v);obtain⟨z,j,xs,f,dd⟩:=Up I.hok e;refine call_meetsIn PySem.F.slot_dict_get dd.typeIs PySem.F.entry_dict_get (PySem.F.args_dict_get_3 _ _ _) (meetsH_dict_get_default (tupleKind<|Vr X.prog X.w) a b j r) ⟨tupleKind_room_in1 B,k,xs,W5 I.hok C,dd,h _ _ (I.tok _) ?_⟩;rw[l];exact(f.val k).getD w
end
def Su(td g tx:TE):TE:=λσ H Q=>td σ H λx f=>∃a,x=.ref a/\IsD f a/\g σ f λy h=>tx σ h λz b=>∃o,V9 b a y o/\Q (o.getD z) b
section
variable {o e f:Expr}{ty:TE}
def EV(D:X.A.units+1<cLine)(E:PE X o td)(he:PE X e ty)(K:PE X f tx)(m:M2 X o "get" SF e f L3):PE X (.Call (.Attribute o "get" SF) [e,f] [] L3) (Su td ty tx):=by
 intro Xa7 s σ H Q I h;refine wpAny_Call_method m.base m.few m.line PySem.F.plainAttrs_dict PySem.F.slot_dict_get PySem.F.type_dict_get (QB (E Xa7 s σ H _ I h) ?_);rintro u p ⟨x,k,i,w,a,M,d,C⟩;subst M;obtain rfl:u=Value.ref a:=w;obtain⟨t1,j,_⟩:=Sd i d;refine⟨t1,j,?_⟩;rw[m.trees];refine Calls.callWith_builtin rfl (Calls.evalArgs_plain (Calls.spliced_cons (QB (he Xa7 p σ k _ i C) λG n ⟨y,c,W,v,B⟩=>
  Calls.spliced_cons (QB (K Xa7 n σ c _ W B) λJ t ⟨z,Y,R,r,F,g,A⟩=>Calls.spliced_nil ?_))))
 exact F8 D R g v r λl q P b=>⟨_,Y,P,b,A⟩
end
section
variable {H:Hp}{L0:List (Key×V)}
def EX(I:Qt X Xa7 σ H s)(e:Rd H a (.dK L0))(h:∀p i,H p=none->Qt X Xa7 σ (upd H p<|.dK L0) i->Q (.ref p) i):wpAny (model X.prog X.w) A (call (.type "dict") [.ref a]) Q E s:=by
 obtain⟨z,n,r,f,dd⟩:=Jp I.hok e;refine kt_call_dict n dd (by rw[<- f.length];exact z) λh' g m=>?_;refine h _ _ (I.hok.fresh<|Xq _) (I.laid (a:=s.heap.objs.size) (o:=.dK L0) (t':=s.toks) (λb q j=>?_) (Xq _)<|Sb z (beq_eq_false_iff_ne.mpr<|Ne.symm<|Xr I.big) f g)
 exact(m.2 b<|Xr<|Xk j).trans (Xg _ j)
end
def Ze.keep{p:Qg}(k:∀b∈p,H' b=H b)(h:Ze K F H v t p):Ze K F H' v t p:=h.move (Q7.refl _) (λa f=>(h.there a f).1) k
def Q9.writeOwn(s:Q9 K H0 F ρ σ H)(e:zg ρ i<|zo v Φ):
 σ[i]?=some (some v)/\∃p,Φ.ok K F H v p/\(∀a∈p,H0 a=none/\F a=none/\H a≠none)/\
  ∀(f:Hp) (Φ':OwnP) (g:Qg),Q7 F f->(∀b,b∉p->H b≠none->f b=H b)->(∀b,H b≠none->f b≠none)->Φ'.ok K F f v g->(∀a∈g,a∈p\/(H a=none/\H0 a=none))->
   Q9 K H0 F (ρ.set i<|zo v Φ') σ f:=by
 obtain⟨u,p,A,⟨rfl,r⟩,y,k⟩:=s.chg e;exact⟨A,p,r,y,λf Φ' g n w _ m j=>(k F f (.own _ Φ') g (Q7.refl _) n w (λb h=>.inl h) ⟨rfl,m⟩ j).1⟩
def WM:Key->PyData
 |.inl i=>.int i
 |.inr x=>.str x
def QW(k:List Key):PyData:=.tuple (k.map WM)
def M9(r:Rep F y (WM k)):y=kV k:=by
 cases k with
 |inl i=>cases r;rfl
 |inr x=>cases r;rfl
theorem Tu{F:Hp}:∀{ys:List V} {k:List Key},Qx F ys (k.map WM)->ys=k.map kV
 |_,[],.nil=>rfl
 |_,k::b,.cons r a=>by rw[M9 r,Tu a];rfl
def WA(r:Rep F y (QW k)):∃b,y=.ref b/\F b=some (.tup<|k.map kV):=by
 unfold QW at r;cases r with
 |tup h a=>exact⟨_,rfl,by rw[h,Tu a]⟩
abbrev VQ:=List (List Key×PyData)
def Ye(L0:VQ)(k:List Key):Option PyData:=(L0.find? λa=>decide (a.1=k)).map (·.2)
def UX(L0:VQ)(k:List Key)(d:PyData):VQ:=if (L0.any λa=>decide (a.1=k))=true then L0.map (λa=>if a.1=k then (a.1,d) else a) else L0++[(k,d)]
inductive PairD(F:Hp):List (List Key×V)->VQ->Prop
 |nil:PairD F [] []
 |cons {k:List Key}{x:V}{d:PyData}{xs:List (List Key×V)}{L0:VQ}:Rep F x d->PairD F xs L0->PairD F ((k,x)::xs) ((k,d)::L0)
theorem PairD.mono{F a:Hp}(s:Q7 F a):∀{xs:List (List Key×V)} {L0:VQ},PairD F xs L0->PairD a xs L0
 |_,_,.nil=>.nil
 |_,_,.cons r t=>.cons (r.mono s) (t.mono s)
theorem PairD.length{F:Hp}:∀{xs:List (List Key×V)} {L0:VQ},PairD F xs L0->xs.length=L0.length
 |_,_,.nil=>rfl
 |_,_,.cons _ t=>by simp[t.length]
theorem PairD.val{F:Hp}(k:List Key):∀{xs:List (List Key×V)} {L0:VQ},PairD F xs L0->(Z4 xs k=none/\Ye L0 k=none)\/∃x d,Z4 xs k=some x/\Ye L0 k=some d/\Rep F x d
 |_,_,.nil=>.inl ⟨rfl,rfl⟩
 |_,_,.cons (k:=k') (x:=x) (d:=d) (xs:=xs) (L0:=L0) r t=>by
  by_cases e:k'=k
  .exact .inr ⟨x,d,YT e,by simp[Ye,Xy,e],r⟩
  .have q:Ye ((k',d)::L0) k=Ye L0 k:=by simp[Ye,Xy,e]
   rw[YU (p:=(k',x)) e,q];exact t.val k
theorem PairD.any{F:Hp}(k:List Key):∀{xs:List (List Key×V)} {L0:VQ},PairD F xs L0->(xs.any λa=>decide (a.1=k))=(L0.any λa=>decide (a.1=k))
 |_,_,.nil=>rfl
 |_,_,.cons _ t=>by simp[t.any k]
theorem PairD.mapP{F:Hp}(k:List Key){y:V}{d:PyData}(r:Rep F y d):∀{xs:List (List Key×V)} {L0:VQ},PairD F xs L0->PairD F (xs.map λa=>if a.1=k then (a.1,y) else a) (L0.map λa=>if a.1=k then (a.1,d) else a)
 |_,_,.nil=>.nil
 |_,_,.cons (k:=k') b t=>by
  rw[Xw,Xw];by_cases e:k'=k
  .simp only[e,if_true];exact .cons r (t.mapP k r)
  .simp only[e,if_false];exact .cons b (t.mapP k r)
theorem PairD.snoc{F:Hp}(k:List Key){y:V}{d:PyData}(r:Rep F y d):∀{xs:List (List Key×V)} {L0:VQ},PairD F xs L0->PairD F (xs++[(k,y)]) (L0++[(k,d)])
 |_,_,.nil=>.cons r .nil
 |_,_,.cons a t=>.cons a (t.snoc k r)
def PairD.put(k:List Key)(r:Rep F y d){xs:List (List Key×V)}(t:PairD F xs L0):PairD F (Yf xs k y) (UX L0 k d):=by
 unfold Yf UX;rw[t.any k];split
 .exact t.mapP k r
 .exact t.snoc k r
def V6(L0:VQ):OwnP where
 ok K F H v p := ∃a xs,v=.ref a/\p=[a]/\F a=none/\H a=some (.dT xs)/\PairD F xs L0
 there:=by
  rintro K F H v p ⟨a,xs,rfl,rfl,h,f,g⟩ b j;cases Xh.mp j;exact⟨h,Z1 f⟩
 mono:=by
  rintro K F w H r v p s n m ⟨a,xs,rfl,rfl,h,f,g⟩;exact⟨a,xs,rfl,rfl,n a Xc,by rw[m a Xc];exact f,g.mono s⟩
 uniq:=by
  rintro K F H v p q ⟨a,xs,rfl,rfl,_⟩ ⟨b,ys,e,rfl,_⟩ c i;cases e;exact i
section
variable {ty:TE}{L0:VQ}{k:List Key}{d:PyData}
def Q9.dct(S:Q9 K H0 F ρ σ H)(e:zg ρ i<|zo v<|V6 L0):
 ∃a xs,v=.ref a/\σ[i]?=some (some<|.ref a)/\F a=none/\H0 a=none/\H a=some (.dT xs)/\PairD F xs L0:=by
 obtain⟨h,p,⟨a,xs,rfl,rfl,g,f,d⟩,b,_⟩:=S.writeOwn e;exact⟨a,xs,rfl,h,g,(b a Xc).1,f,d⟩
def Nl{xs:List (List Key×V)}(t:PairD F xs L0):(Z4 xs k).isSome=(Ye L0 k).isSome:=by
 rcases t.val k with ⟨b,a⟩|⟨x,d,b,a,_⟩<;>rw[b,a]<;>rfl
def CQ(g:Qs K ty ρ (QW k))(e:zg ρ i<|zo v<|V6 L0):Qs K (BX ty<|Q5 i) ρ (.bool (Ye L0 k).isSome):=λH0 F σ H Q S q=>
 g H0 F σ H _ S λr p y d f=>by
  obtain⟨a,xs,rfl,n,_,_,m,j⟩:=(S.ext d).dct e;obtain⟨b,rfl,h⟩:=WA f;exact⟨_,n,a,_,rfl,V9.t m<|d.fh _ _ h,q r p _ d<|by rw[Nl j];exact .bl _⟩
def ZmX(g:Qs K ty ρ (QW k))(e:zg ρ i<|zo v<|V6 L0):Qs K (SC ty<|Q5 i) ρ (.bool<|!(Ye L0 k).isSome):=λH0 F σ H Q S q=>
 g H0 F σ H _ S λr p y d f=>by
  obtain⟨a,xs,rfl,n,_,_,m,j⟩:=(S.ext d).dct e;obtain⟨b,rfl,h⟩:=WA f;exact⟨_,n,a,_,rfl,V9.t m<|d.fh _ _ h,q r p _ d<|by rw[Nl j];exact .bl _⟩
def IE(e:zg ρ i<|zo v<|V6 L0)(W:Qs K tv ρ d)(R:Qs K ty ρ (QW k))(hz:L0.length<sizeLine)(hn:D.nx (ρ.set i<|zo v<|V6<|UX L0 k d)):Q3 K (DO (Q5 i) ty tv) ρ D:=λF0 H0 F σ H E x S C=>
 W H0 F σ H _ S λJ G u h M=>by
  obtain⟨a,xs,rfl,o,_⟩:=(S.ext h).dct e;refine⟨_,o,R H0 J σ G _ (S.ext h) λI Q y g B=>?_⟩;have n:=S.ext (h.trans g);obtain⟨O,A,m,_,j,l,Y,s⟩:=n.dct e;cases m;obtain⟨b,rfl,X⟩:=WA B;refine⟨a,_,rfl,Jk.t Y (g.fh _ _ X)<|by rw[s.length];exact hz,?_⟩;obtain⟨_,p,P,L,w⟩:=n.writeOwn e;obtain⟨t,r,m,rfl,_,N,_⟩:=P;cases m;refine C.nx I σ _ _ ((x.trans<|h.trans g).wr l j) (w _ (V6<|UX L0 k d) [a] (n.sub.upd j) (λc f _=>Qu λz=>f<|by rw[z];exact Xc) (λc f=>?_) ⟨a,_,rfl,rfl,j,QG,s.put k<|M.mono g.ff⟩ λc f=>.inl f) hn
  by_cases z:c=a
  .subst z;rw[QG];rintro⟨⟩
  .rw[Qu z];exact f
def EvX(K:W.Frag)(t:TE)(ρ:ZbJ)(Φ:OwnP):Prop := ∀(H0 F:Hp) (σ:St) (H:Hp) (Q:VK),Q9 K H0 F ρ σ H->(∀d b v p,Q0 F H d b->(∀a∈p,H a=none)->Φ.ok K d b v p->Q v b)->t σ H Q
def M4(h:EvX K te ρ Φ)(hn:∀v,D.nx<|ρ.set i<|zo v Φ):Q3 K (ZM te<|Vb i) ρ D:=λF0 H0 F σ H E x S C=>
 h H0 F σ H _ S λW R v p b g n=>by
  refine C.nx W _ R _ (x.trans b) ((S.ext b).set (t:=.own v Φ) ⟨rfl,n⟩ (λa f=>x.hh.free<|g a f) (hn:=λa f j w m q P M d=>?_)) (hn v);obtain⟨c,y,Y,s⟩:=S.fp;obtain⟨X,k,B⟩:=y j m P;intro r;have A:=B.ext b;rw[M]at k;cases k;exact(s j a<|Jd (K:=K) A d a r).2 (g a f)
end
end L2
namespace Mir
theorem TU{g:Qn}{l:Nat}(h:∀c,c<=l->g c=0):∀m,Q1 g (l+1+m)=Q1 (λj=>g<|l+1+j) m
 |0=>by
  show Q1 g (l+1)=0;rw[Zi (g:=λ_=>0) λk a=>h k<|by lia,Vj]
 |m+1=>by
  show Q1 g (l+1+m)+g (l+1+m)=_;rw[TU h m];rfl
theorem L4(y:Yd)(b own:Qn)(l:Nat):∀m,Jh y b own l m=Q1 (λj=>if Zc y (l+1+j)=some l then passes y b own (l+1+j) else 0) m
 |0=>rfl
 |m+1=>by simp only[Jh,Q1];rw[L4 y b own l m]
def Ul{y:Yd}(b:y.Ok)(g:c<y.ls.length)(e:Zc y c=some l):l<c:=by
 by_cases h:c=0
 .subst h;rw[b.up0]at e;cases e
 .obtain⟨a,i,f⟩:=b.ups c (by lia) g;rw[i]at e;cases e;exact f
def Th{y:Yd}(a:y.Ok)(b own:Qn)(f:l<y.ls.length):V0 y b own l=own l+Q1 (λc=>if Zc y c=some l then passes y b own c else 0) y.ls.length:=by
 rw[Ob a,L4];have e:y.ls.length=l+1+(y.ls.length-1-l):=by lia
 have h:=TU (g:=λc=>if Zc y c=some l then passes y b own c else 0) (l:=l) (λc i=>Xb λz=>by
  have:=Ul a (by lia) z;lia) (y.ls.length-1-l)
 rw[<- e]at h;rw[h]
section
variable {y:Yd}
def Pu(a:y.Ok):upL y 0=[0]:=by
 have:=a.l1;rw[Sn a<|by lia,Xd rfl]
end
noncomputable def ind(p:Prop)[Decidable p]:Int:=if p then 1 else 0
theorem PF{y:Yd}(b:y.Ok)(l:Nat)(A:l<y.ls.length):∀n j,j<n->j<y.ls.length->
 ind (l∈upL y j)=ind (j=l)+Q1 (λc=>if Zc y c=some l then ind (c∈upL y j) else 0) y.ls.length
 |0,j,h,_=>by lia
 |n+1,j,h,f=>by
  by_cases e:j=l
  .subst e;have z:Q1 (λc=>if Zc y c=some j then ind (c∈upL y j) else 0) y.ls.length=0:=by
    rw[Zi (g:=λ_=>0) λc i=>?_,Vj]
    by_cases u:Zc y c=some j
    .have:=Ul b i u;have w:¬c∈upL y j:=λz=>by have:=Sl y j c z;lia
     simp[u,ind,w]
    .simp[u]
   rw[z];simp[ind,Kf]
  .by_cases s:j=0
   .subst s;have w:¬l∈upL y 0:=λz=>by rw[Pu b]at z;simp at z;exact e z.symm
    have z:Q1 (λc=>if Zc y c=some l then ind (c∈upL y 0) else 0) y.ls.length=0:=by
     rw[Zi (g:=λ_=>0) λc i=>?_,Vj]
     by_cases u:Zc y c=some l
     .have D:¬c∈upL y 0:=λz=>by
       rw[Pu b]at z;simp at z;subst z;rw[b.up0]at u;cases u
      simp[u,ind,D]
     .simp[u]
    rw[z];simp[ind,w,e]
   .obtain⟨a,m,E⟩:=b.ups j (by lia) f;have v:=PF b l A n a (by lia) (by lia);have r:(l∈upL y j)↔(l∈upL y a):=Hh b (by lia) f m l (λz=>e z.symm);have C:ind (l∈upL y j)=ind (l∈upL y a):=by unfold ind;simp only[r]
    have B:∀c,c<y.ls.length->(if Zc y c=some l then ind (c∈upL y j) else 0)=(if Zc y c=some l then ind (c∈upL y a) else 0)+(if c=j then ind (a=l) else 0):=by
     intro c i;by_cases z:c=j
     .subst z;have w:¬c∈upL y a:=λq=>by have:=Sl y a c q;lia
      rw[m];by_cases q:a=l
      .subst q;simp[ind,Kf,w]
      .have:¬some a=some l:=λz=>q (by injection z)
       simp[ind,q]
     .have p:(c∈upL y j)↔(c∈upL y a):=Hh b (by lia) f m c z;have:ind (c∈upL y j)=ind (c∈upL y a):=by unfold ind;simp only[p]
      rw[this,Xb z,YZ]
    rw[C,v,Zi B,B6,Gw,Xd f];have:ind (j=l)=0:=by unfold ind;rw[Xb e]
    lia
noncomputable def ZN(y:Yd)(m:Nat)(ln:Nat->Nat)(f:Qn)(l:Nat):Int:=Q1 (λk=>f k*ind (l∈upL y (ln k))) m
def GF{y:Yd}(b:y.Ok){m:Nat}(a:∀k,k<m->ln k<y.ls.length)(f:Qn)(g:l<y.ls.length):
 ZN y m ln f l=Q1 (λk=>f k*ind (ln k=l)) m+Q1 (λc=>if Zc y c=some l then ZN y m ln f c else 0) y.ls.length:=by
 unfold ZN;have i:∀k,k<m->f k*ind (l∈upL y (ln k))=f k*ind (ln k=l)+Q1 (λc=>if Zc y c=some l then f k*ind (c∈upL y (ln k)) else 0) y.ls.length:=by
  intro k h;rw[PF b l g _ (ln k) (Jj _)<|a k h,Int.mul_add,<- MF];congr 1;refine Zi λc _=>?_
  by_cases u:Zc y c=some l
  .rw[Xd u,Xd u]
  .rw[Xb u,Xb u,Int.mul_zero]
 rw[Zi i,B6,BA];congr 1;refine Zi λc _=>?_
 by_cases u:Zc y c=some l
 .simp only[Xd u]
 .simp only[Xb u];rw[Vj]
theorem no_more{y:Yd}(i:y.Ok){m:Nat}{ln:Nat->Nat}(a:∀k,k<m->ln k<y.ls.length){f:Qn}{b own:Qn}(j:∀l,l<y.ls.length->Q1 (λk=>f k*ind (ln k=l)) m<=own l)(r:∀l,l<y.ls.length->ZN y m ln f l<=b l):
 ∀n l,y.ls.length<=l+n->l<y.ls.length->ZN y m ln f l<=passes y b own l
 |0,l,h,g=>by lia
 |n+1,l,h,g=>by
  have v:ZN y m ln f l<=V0 y b own l:=by
   rw[GF i a f g,Th i b own g];refine Int.add_le_add (j l g) (Wj λc p=>?_)
   by_cases u:Zc y c=some l
   .rw[Xd u,Xd u];have:=Ul i p u;exact no_more i a j r n c (by lia) p
   .rw[Xb u,Xb u];exact YJ _
  have s:=r l g;unfold passes;lia
def Pe{y:Yd}{m:Nat}{f g:Qn}(h:∀k,k<m->f k<=g k)(l:Nat):ZN y m ln f l<=ZN y m ln g l:=
 Wj λk a=>by
  unfold ind;split
  .have:=h k a;lia
  .lia
def AW{y:Yd}{m:Nat}{f:Qn}(h:∀k,k<m->0<=f k)(l:Nat):0<=ZN y m ln f l:=
 M0 λk a=>by
  unfold ind;split
  .have:=h k a;lia
  .lia
structure Shut(y:Yd)(m:Nat)(ln:Nat->Nat)(f mo:Qn)(b:Qn)(S R:Qm):Prop where
 nn:∀k,k<m->0<=f k
 full:∀k,k<m->S k=true->R (ln k)=false->f k=mo k
 none:∀k,k<m->S k=false->R (ln k)=true->f k=0
 top:R 0=true->ZN y m ln f 0=b 0
 out:∀c a,c<y.ls.length->Zc y c=some a->R c=true->R a=false->ZN y m ln f c=b c
 inn:∀c a,c<y.ls.length->Zc y c=some a->R c=false->R a=true->ZN y m ln f c=0
def Zd(S:Qm)(f:Qn):Qn:=λk=>if S k=true then f k else 0
def Kn{f:Qn}(h:0<=f k):Zd S f k<=f k:=by
 unfold Zd;split<;>lia
def Om{f:Qn}(h:0<=f k):0<=Zd S f k:=by
 unfold Zd;split<;>lia
theorem Shut.alike{y:Yd}(j:y.Ok){m:Nat}{ln:Nat->Nat}(a:∀k,k<m->ln k<y.ls.length){f A b:Qn}{S R:Qm}(h:Shut y m ln f A b S R):
 ∀n l,y.ls.length<=l+n->l<y.ls.length->R l=true->ZN y m ln f l=ZN y m ln (Zd S f) l
 |0,l,B,p,_=>by lia
 |n+1,l,B,p,w=>by
  rw[GF j a f p,GF j a (Zd S f) p];congr 1
  .refine Zi λk i=>?_
   by_cases e:ln k=l
   .have:f k=Zd S f k:=by
     unfold Zd;cases s:S k with
     |true=>simp
     |false=>simp;exact h.none k i s (by rw[e];exact w)
    rw[this]
   .simp[ind,e]
  .refine Zi λc v=>?_
   by_cases u:Zc y c=some l
   .rw[Xd u,Xd u];have:=Ul j v u;cases r:R c with
    |true=>exact Shut.alike j a h n c (by lia) v r
    |false=>
     have e:=h.inn c l v u r w;have D:=Pe (y:=y) (ln:=ln) (f:=Zd S f) (g:=f) (λk i=>Kn (S:=S)<|h.nn k i) c;have C:=AW (y:=y) (ln:=ln) (f:=Zd S f) (λk i=>Om (S:=S)<|h.nn k i) c;lia
   .rw[Xb u,Xb u]
theorem Shut.all{y:Yd}(j:y.Ok){m:Nat}{ln:Nat->Nat}(g:∀k,k<m->ln k<y.ls.length){f p b own:Qn}{S R:Qm}(h:Shut y m ln f p b S R)
(v:∀l,l<y.ls.length->own l=Q1 (λk=>Zd S p k*ind (ln k=l)) m):
 ∀n l,y.ls.length<=l+n->l<y.ls.length->(R l=true->l=0\/∃a,Zc y l=some a/\R a=false)->passes y b own l<=ZN y m ln (Zd S f) l
 |0,l,A,i,_=>by lia
 |n+1,l,A,i,D=>by
  cases r:R l with
  |true=>
   have e:ZN y m ln f l=b l:=by
    rcases D r with z|⟨a,u,B⟩
    .subst z;exact h.top r
    .exact h.out l a i u r B
   rw[<- h.alike j g (n+1) l A i r,e];unfold passes;lia
  |false=>
   have E:V0 y b own l<=ZN y m ln (Zd S f) l:=by
    rw[GF j g _ i,Th j b own i];refine Int.add_le_add ?_ (Wj λc w=>?_)
    .rw[v l i];refine Wj λk C=>?_
     by_cases e:ln k=l
     .have:Zd S p k=Zd S f k:=by
       unfold Zd;cases s:S k with
       |true=>simp;exact(h.full k C s<|by rw[e];exact r).symm
       |false=>simp
      rw[this];exact YJ _
     .simp[ind,e]
    .by_cases u:Zc y c=some l
     .rw[Xd u,Xd u];have:=Ul j w u;exact Shut.all j g h v n c (by lia) w (λ_=>.inr ⟨l,u,r⟩)
     .rw[Xb u,Xb u];exact YJ _
   unfold passes;lia
section
variable {ν:Type} [DecidableEq ν]
abbrev Lay(ν:Type):=List (ν×ν×Int)
abbrev Zl(ν:Type):=ν->ν->Int
def Wx(L:Lay ν):List ν:=L.flatMap λx=>[x.2.1,x.1]
def VD(L:Lay ν)(φ:Zl ν):Ql:=L.flatMap λx=>[x.2.2-φ x.1 x.2.1,φ x.1 x.2.1]
def Dis(L:Lay ν):Prop:=(L.map λx=>(x.1,x.2.1)).Nodup
noncomputable def VR(φ:Zl ν)(s e:ν)(a:Int):Zl ν:=λp q=>if p=s/\q=e then φ p q+a else φ p q
theorem Ho{a b:Type}(f g:a->b):∀(L:List a) (e:Nat),(L.flatMap λx=>[f x,g x])[e]?=L[e/2]?.map (if e%2=0 then f else g)
 |[],e=>by simp
 |x::L,0=>by simp
 |x::L,1=>by simp
 |x::L,e+2=>by
  have h:=Ho f g L e;have j:(e+2)/2=e/2+1:=by lia
  have i:(e+2)%2=e%2:=by lia
  rw[j,i,Dz,NR];simpa using h
noncomputable def hdE(L:Lay ν)(e:Nat):Option ν:=L[e/2]?.map λx=>if e%2=0 then x.2.1 else x.1
noncomputable def tlE(L:Lay ν)(e:Nat):Option ν:=L[e/2]?.map λx=>if e%2=0 then x.1 else x.2.1
noncomputable def rmE(L:Lay ν)(φ:Zl ν)(e:Nat):Option Int:=L[e/2]?.map λx=>if e%2=0 then x.2.2-φ x.1 x.2.1 else φ x.1 x.2.1
def HF(L:Lay ν)(e:Nat):(Wx L)[e]?=hdE L e:=by
 unfold Wx hdE;rw[Ho];congr 1;split<;>rfl
def GB(L:Lay ν)(φ:Zl ν)(e:Nat):(VD L φ)[e]?=rmE L φ e:=by
 unfold VD rmE;rw[Ho];congr 1;split<;>rfl
def Zfq(e:Nat):Nat:=if e%2=0 then e+1 else e-1
def ZnJ(L:Lay ν)(e:Nat):(Wx L)[Zfq e]?=tlE L e:=by
 rw[HF];unfold hdE tlE Zfq;by_cases h:e%2=0
 .have b:(e+1)/2=e/2:=by lia
  have a:¬(e+1)%2=0:=by lia
  simp only[h,if_true,b,a,if_false]
 .have b:(e-1)/2=e/2:=by lia
  have a:(e-1)%2=0:=by lia
  simp only[h,if_false,b,a,if_true]
def Vl(L:Lay ν)(F:ν->ν->Int):Int:=(L.map λx=>F x.1 x.2.1).sum
noncomputable def VB(L:Lay ν)(φ:Zl ν)(n:ν):Int:=Vl L λs e=>φ s e*(ind (s=n)-ind (e=n))
def Znd{s:ν}{a:Int}(h:(s,e)∉L.map λx=>(x.1,x.2.1))(G:Int->ν->ν->Int):
 Vl L (λp q=>G (VR φ s e a p q) p q)=Vl L λp q=>G (φ p q) p q:=by
 unfold Vl;congr 1;refine WK λx g=>?_
 have:¬(x.1=s/\x.2.1=e):=by rintro⟨f,b⟩;exact h (XL.mpr ⟨x,g,by rw[f,b]⟩)
 unfold VR;dsimp only;rw[Xb this]
theorem Te{φ:Zl ν}{a:Int}(G:Int->ν->ν->Int):∀{L:Lay ν},Dis L->∀{x:ν×ν×Int},x∈L->
 Vl L (λp q=>G (VR φ x.1 x.2.1 a p q) p q)=Vl L (λp q=>G (φ p q) p q)-G (φ x.1 x.2.1) x.1 x.2.1+G (φ x.1 x.2.1+a) x.1 x.2.1
 |[],_,_,h=>by cases h
 |y::L,b,x,h=>by
  unfold Dis at b;rw[Xw,Xv]at b;rcases Xe.mp h with rfl|h
  .have:=Znd (φ:=φ) (a:=a) b.1 G;have e:VR φ x.1 x.2.1 a x.1 x.2.1=φ x.1 x.2.1+a:=by unfold VR;rw[Xd ⟨rfl,rfl⟩]
   unfold Vl at this ⊢;rw[Xw,UK,Xw,UK,this];dsimp only;rw[e];lia
  .have f:=Te (φ:=φ) (a:=a) G (L:=L) b.2 h;have j:¬(y.1=x.1/\y.2.1=x.2.1):=λ⟨i,g⟩=>b.1 (XL.mpr ⟨x,h,by rw[i,g]⟩);have e:VR φ x.1 x.2.1 a y.1 y.2.1=φ y.1 y.2.1:=by unfold VR;rw[Xb j]
   unfold Vl at f ⊢;rw[Xw,UK,Xw,UK,f];dsimp only;rw[e];lia
noncomputable def Yg(L:Lay ν)(a:Int)(φ:Zl ν)(e:Nat):Zl ν:=
 match L[e/2]? with
 |some x=>VR φ x.1 x.2.1 (if e%2=0 then a else -a)
 |none=>φ
def ZnE(j:Dis L){a:Int}{s:ν}(b:hdE L e=some t)(f:tlE L e=some s)(n:ν):
 VB L (Yg L a φ e) n=VB L φ n+a*(ind (s=n)-ind (t=n)):=by
 unfold hdE at b;unfold tlE at f;cases g:L[e/2]? with
 |none=>rw[g]at b;cases b
 |some x=>
  rw[g]at b f;have h:x∈L:=List.mem_of_getElem? g;have i:Yg L a φ e=VR φ x.1 x.2.1 (if e%2=0 then a else -a):=by unfold Yg;rw[g]
  rw[i];unfold VB;rw[Te (λv p q=>v*(ind (p=n)-ind (q=n))) j h];simp only[Wa,Option.some.injEq]at b f;by_cases z:e%2=0
  .rw[Xd z]at b f ⊢;subst b f;rw[Int.add_mul];lia
  .rw[Xb z]at b f ⊢;subst b f;rw[Int.add_mul,Int.neg_mul,GR a,GR a];lia
inductive Chain(L:Lay ν)(s:ν):ν->Qk->Prop
 |nil:Chain L s s []
 |cons {n m:ν}{e:Nat}{w:Qk}(h:hdE L e=some n)(t:tlE L e=some m)(c:Chain L s m w):Chain L s n (e::w)
noncomputable def Wg(L:Lay ν)(a:Int)(φ:Zl ν)(w:Qk):Zl ν:=w.foldl (Yg L a) φ
theorem Kh{L:Lay ν}(b:Dis L){s:ν}{a:Int}(p:ν):∀{w:Qk} {n:ν} {φ:Zl ν},Chain L s n w->VB L (Wg L a φ w) p=VB L φ p+a*(ind (s=p)-ind (n=p))
 |_,_,φ,.nil=>by
  show VB L φ p=_;rw[Int.sub_self,Int.mul_zero,YZ]
 |e::w,n,φ,.cons (m:=m) h t c=>by
  show VB L (Wg L a (Yg L a φ e) w) p=_;rw[Kh b p c,ZnE b h t,GR,GR,GR];lia
def Within(L:Lay ν)(φ:Zl ν):Prop := ∀x∈L,0<=φ x.1 x.2.1/\φ x.1 x.2.1<=x.2.2
def HY:∀{L:Lay ν},Dis L->∀{i j:Nat} {x y:ν×ν×Int},L[i]?=some x->L[j]?=some y->x.1=y.1->x.2.1=y.2.1->i=j:=λ{L} m {i j x y} h g p n=>by
 have a:(L.map λx=>(x.1,x.2.1))[i]?=some (x.1,x.2.1):=by rw[Xs,h];rfl
 have b:(L.map λx=>(x.1,x.2.1))[j]?=some (x.1,x.2.1):=by rw[Xs,g,p,n];rfl
 have f:i<(L.map λx=>(x.1,x.2.1)).length:=(Xf.mp a).1;exact(List.getElem?_inj f m).mp (a.trans b.symm)
def Zk2{L:Lay ν}(p:Dis L){φ:Zl ν}(h:Within L φ){a:Int}(w:0<=a){e:Nat}{r:Int}(he:rmE L φ e=some r)(v:a<=r):Within L (Yg L a φ e):=by
 unfold rmE at he;cases b:L[e/2]? with
 |none=>rw[b]at he;cases he
 |some x=>
  rw[b]at he;simp only[Wa,Option.some.injEq]at he;have s:=h x (List.mem_of_getElem? b);intro y i;have f:=h y i;have n:Yg L a φ e=VR φ x.1 x.2.1 (if e%2=0 then a else -a):=by unfold Yg;rw[b]
  rw[n];unfold VR;by_cases z:y.1=x.1/\y.2.1=x.2.1
  .rw[Xd z];obtain⟨j,g⟩:=List.mem_iff_getElem?.mp i;have m:=HY p g b z.1 z.2;subst m;rw[b]at g;cases g
   by_cases q:e%2=0
   .rw[Xd q]at he ⊢;lia
   .rw[Xb q]at he ⊢;lia
  .rw[Xb z];exact f
def OM{L:Lay ν}(i:Dis L){φ:Zl ν}{a:Int}(p:0<=a){e b:Nat}(m:b≠e){r:Int}(he:rmE L φ b=some r):∃h,rmE L (Yg L a φ e) b=some h/\r<=h:=by
 unfold rmE at he ⊢;cases g:L[b/2]? with
 |none=>rw[g]at he;cases he
 |some y=>
  rw[g]at he;simp only[Wa,Option.some.injEq]at he ⊢;refine⟨_,rfl,?_⟩;unfold Yg;cases j:L[e/2]? with
  |none=>simp only[];lia
  |some x=>
   simp only[];unfold VR;by_cases z:y.1=x.1/\y.2.1=x.2.1
   .rw[Xd z];have n:=HY i g j z.1 z.2
    by_cases q:e%2=0
    .have f:¬b%2=0:=by lia
     rw[Xb f]at he ⊢;rw[Xd q];lia
    .have f:b%2=0:=by lia
     rw[Xd f]at he ⊢;rw[Xb q];lia
   .rw[Xb z];lia
theorem Lu{L:Lay ν}(f:Dis L){a:Int}(g:0<=a):∀{w:Qk} {φ:Zl ν},Within L φ->w.Nodup->(∀e∈w,∃r,rmE L φ e=some r/\a<=r)->Within L (Wg L a φ w)
 |[],_,h,_,_=>h
 |e::w,φ,h,p,j=>by
  obtain⟨v,s⟩:=Xv.mp p;obtain⟨r,y,n⟩:=j e Xc;show Within L (Wg L a (Yg L a φ e) w);refine Lu f g (Zk2 f h g y n) s λB b=>?_;obtain⟨C,i,m⟩:=j B (Xi _ b);obtain⟨q,A,D⟩:=OM f g (e:=e) (λz=>v<|z▸b) i
  exact⟨q,A,by lia⟩
abbrev Got(ν:Type):=List (ν×Option Nat)
def QX(es:Got ν):List ν:=es.map (·.1)
inductive Tree(L:Lay ν)(φ:Zl ν)(s:ν):Got ν->Prop
 |root:Tree L φ s [(s,none)]
 |add {es:Got ν}{e:Nat}{n m:ν}{r:Int}(t:Tree L φ s es)(hn:n∉QX es)(hh:hdE L e=some n)(ht:tlE L e=some m)(hm:m∈QX es)(hr:rmE L φ e=some r)(h0:0<r):Tree L φ s (es++[(n,some e)])
def Jq(es:Got ν)(n:ν):Option (Option Nat):=es.lookup n
def ZkT{es:Got ν}{n:ν}:n∉QX es->es.lookup n=none:=by
 induction es with
 |nil=>intro _;rfl
 |cons p es a=>
  intro h;have f:n≠p.1:=λz=>h (by rw[z];exact Xc);have b:n∉QX es:=λz=>h (Xi _ z);obtain⟨k,v⟩:=p;rw[XM];have:(n==k)=false:=by rw[beq_eq_false_iff_ne];exact f
  rw[this];exact a b
def KW{es a:Got ν}{n:ν}:(es++a).lookup n=(es.lookup n).or (a.lookup n):=by
 induction es with
 |nil=>rfl
 |cons p es b=>
  obtain⟨k,v⟩:=p;rw[GM,XM,XM];cases (n==k)
  .exact b
  .rfl
inductive Back(L:Lay ν)(es:Got ν):ν->Qk->Prop
 |nil {n:ν}(h:Jq es n=some none):Back L es n []
 |cons {n m:ν}{e:Nat}{w:Qk}(h:Jq es n=some (some e))(t:tlE L e=some m)(b:Back L es m w):Back L es n (e::w)
theorem Back.app{L:Lay ν}{es a:Got ν}:∀{w:Qk} {n:ν},Back L es n w->Back L (es++a) n w
 |_,_,.nil h=>.nil (by unfold Jq at h ⊢;rw[KW,h];rfl)
 |_,_,.cons h t b=>.cons (by unfold Jq at h ⊢;rw[KW,h];rfl) t b.app
structure WayOk(L:Lay ν)(φ:Zl ν)(s:ν)(es:Got ν)(n:ν)(w:Qk):Prop where
 back:Back L es n w
 chain:Chain L s n w
 nodup:w.Nodup
 room:∀e∈w,∃r,rmE L φ e=some r/\0<r
 heads:∀e∈w,∃m,hdE L e=some m/\m∈QX es
theorem Tree.way{L:Lay ν}{φ:Zl ν}{s:ν}:∀{es:Got ν},Tree L φ s es->∀n∈QX es,∃w,WayOk L φ s es n w
 |_,.root,n,v=>by
  have e:n=s:=by simpa [QX] using v
  subst e;exact⟨[],.nil<|by simp[Jq],.nil,UM,(by rintro e ⟨⟩),(by rintro e ⟨⟩)⟩
 |_,.add (es:=es) (e:=e) (n:=k) (m:=m) t C y A E D K,n,v=>by
  have g:n∈QX es\/n=k:=by simpa [QX] using v
  have i:∀p,p∈QX es->p∈QX (es++[(k,some e)]):=λp B=>by
   unfold QX at B ⊢;rw[XF];exact JR _ B
  rcases g with g|rfl
  .obtain⟨w,q⟩:=t.way n g;exact⟨w,q.back.app,q.chain,q.nodup,q.room,λj f=>let ⟨r,a,b⟩:=q.heads j f;⟨r,a,i _ b⟩⟩
  .obtain⟨w,q⟩:=t.way m E;refine⟨e::w,.cons ?_ A q.back.app,.cons y A q.chain,Xv.mpr ⟨λz=>?_,q.nodup⟩,λj f=>?_,λj f=>?_⟩
   .unfold Jq;rw[KW,ZkT C];simp
   .obtain⟨r,a,b⟩:=q.heads e z;rw[y]at a;cases a;exact C b
   .rcases Xe.mp f with rfl|f
    .exact⟨_,D,K⟩
    .exact q.room j f
   .rcases Xe.mp f with rfl|f
    .exact⟨n,y,by simp[QX]⟩
    .obtain⟨r,a,b⟩:=q.heads j f;exact⟨r,a,i _ b⟩
theorem Tree.nodup{L:Lay ν}{φ:Zl ν}{s:ν}:∀{es:Got ν},Tree L φ s es->(QX es).Nodup
 |_,.root=>by simp[QX]
 |_,.add (n:=k) t f _ _ _ _ _=>by
  have:=t.nodup;unfold QX at this f ⊢;rw[XF,UN];refine⟨this,by simp,λa h b g=>?_⟩;have e:b=k:=by simpa using g
  exact λz=>f (e▸z▸h)
theorem Tree.start{L:Lay ν}{φ:Zl ν}{s:ν}:∀{es:Got ν},Tree L φ s es->s∈QX es
 |_,.root=>by simp[QX]
 |_,.add t _ _ _ _ _ _=>by
  have:=t.start;unfold QX at this ⊢;rw[XF];exact JR _ this
theorem Tree.sub{L:Lay ν}{φ:Zl ν}{s:ν}:∀{es:Got ν},Tree L φ s es->∀n∈QX es,n∈s::Wx L
 |_,.root,n,b=>by
  have e:n=s:=by simpa [QX] using b
  rw[e];exact Xc
 |_,.add (es:=es) (n:=k) t g f _ _ _ _,n,b=>by
  have a:n∈QX es\/n=k:=by simpa [QX] using b
  rcases a with a|rfl
  .exact t.sub n a
  .exact Xi _ (List.mem_of_getElem?<|(HF L _).trans f)
theorem KL{a:Type}[DecidableEq a]:∀{xs ys:List a},xs.Nodup->(∀x∈xs,x∈ys)->xs.length<=ys.length
 |[],_,_,_=>XQ _
 |x::xs,ys,i,h=>by
  obtain⟨m,j⟩:=Xv.mp i;have f:=h x Xc;have:=KL (xs:=xs) (ys:=ys.erase x) j λz b=>by
   have g:z≠x:=λq=>m (q▸b)
   exact(List.mem_erase_of_ne g).mpr (h z<|Xi _ b)
  rw[List.length_erase_of_mem f]at this;have:0<ys.length:=List.length_pos_of_mem f;rw[XN];lia
def Tree.len{s:ν}{es:Got ν}(t:Tree L φ s es):es.length<=(Wx L).length+1:=by
 have:=KL t.nodup t.sub;simpa [QX] using this
def Yi(L:Lay ν)(φ:Zl ν)(es:Got ν):Prop := ∀e m n r,tlE L e=some m->hdE L e=some n->rmE L φ e=some r->0<r->m∈QX es->n∈QX es
end
inductive Nd where
 |start|fin
 |guest (k:Nat)
 |line (l t:Nat)
deriving DecidableEq
structure Gv where
 m:Nat
 ln:Nat->Nat
 wa:Qn
 mo:Qn
 th:Nat->Qm
def upN(y:Yd)(l:Nat):Nat:=(Zc y l).getD 0
noncomputable def Vk(y:Yd)(G:Gv)(k:Nat):Lay Nd:=(.start,.guest k,G.wa k)::(List.range y.T).flatMap λt=>if G.th k t=true then [(.guest k,.line (G.ln k) t,G.mo k)] else []
noncomputable def VH(y:Yd)(t:Nat):Lay Nd:=(.line 0 t,.fin,Z3 y 0 t)::(List.range<|y.ls.length-1).flatMap λi=>[(.line (i+1) t,.line (upN y<|i+1) t,Z3 y (i+1) t)]
def Zm(y:Yd)(G:Gv):Lay Nd:=(List.range G.m).flatMap (Vk y G)++(List.range y.T).flatMap (VH y)
def PN(A B:Lay Nd)(F:Nd->Nd->Int):Vl (A++B) F=Vl A F+Vl B F:=by
 unfold Vl;rw[XF,BP]
theorem BI(f:Nat->Lay Nd)(F:Nd->Nd->Int):∀n,Vl ((List.range n).flatMap f) F=Q1 (λk=>Vl (f k) F) n
 |0=>rfl
 |n+1=>by
  rw[YL,UG,PN,BI f F n];simp[Q1]
def P4(x:Nd×Nd×Int)(F:Nd->Nd->Int):Vl [x] F=F x.1 x.2.1:=by simp[Vl]
def Tp(x:Nd×Nd×Int)(L:Lay Nd)(F:Nd->Nd->Int):Vl (x::L) F=F x.1 x.2.1+Vl L F:=by simp[Vl]
def Ou(y:Yd)(G:Gv)(F:Nd->Nd->Int)(k:Nat):Vl (Vk y G k) F=F .start (.guest k)+Q1 (λt=>if G.th k t=true then F (.guest k) (.line (G.ln k) t) else 0) y.T:=by
 unfold Vk;rw[Tp,BI];congr 1;refine Zi λt _=>?_
 split
 .rw[P4]
 .rfl
def OV(y:Yd)(F:Nd->Nd->Int)(t:Nat):Vl (VH y t) F=F (.line 0 t) .fin+Q1 (λi=>F (.line (i+1) t)<|.line (upN y<|i+1) t) (y.ls.length-1):=by
 unfold VH;rw[Tp,BI];congr 1;refine Zi λt _=>?_;rw[P4]
def K8(y:Yd)(G:Gv)(F:Nd->Nd->Int):Vl (Zm y G) F =
 Q1 (λk=>F .start (.guest k)+Q1 (λt=>if G.th k t=true then F (.guest k) (.line (G.ln k) t) else 0) y.T) G.m +
 Q1 (λt=>F (.line 0 t) .fin+Q1 (λi=>F (.line (i+1) t)<|.line (upN y<|i+1) t) (y.ls.length-1)) y.T:=by
 unfold Zm;rw[PN,BI,BI];congr 1
 .exact Zi λk _=>Ou y G F k
 .exact Zi λt _=>OV y F t
def Wo{y:Yd} : x∈Vk y G k↔x=(.start,.guest k,G.wa k)\/∃t,t<y.T/\G.th k t=true/\x=(.guest k,.line (G.ln k) t,G.mo k):=by
 unfold Vk;rw[Xe,Wr];refine or_congr Iff.rfl ⟨?_,by rintro⟨t,b,f,a⟩;exact⟨t,XH.mpr b,by rw[Xd f];exact Xh.mpr a⟩⟩;rintro⟨t,b,a⟩
 by_cases c:G.th k t=true
 .rw[Xd c]at a;exact⟨t,XH.mp b,c,Xh.mp a⟩
 .rw[Xb c]at a;cases a
def Je{y:Yd} : x∈VH y t↔x=(.line 0 t,.fin,Z3 y 0 t)\/∃i,i<y.ls.length-1/\x=(.line (i+1) t,.line (upN y<|i+1) t,Z3 y (i+1) t):=by
 unfold VH;rw[Xe,Wr];refine or_congr Iff.rfl ⟨?_,by rintro⟨i,b,a⟩;exact⟨i,XH.mpr b,Xh.mpr a⟩⟩;rintro⟨i,b,a⟩;exact⟨i,XH.mp b,Xh.mp a⟩
def G8{y:Yd} : x∈Zm y G↔(∃k,k<G.m/\x∈Vk y G k)\/∃t,t<y.T/\x∈VH y t:=by
 unfold Zm;rw[XD,Wr,Wr];simp only[XH]
def MI(n:Nat):(List.range n).Pairwise (· ≠ ·):=List.nodup_range
def MD(y:Yd)(G:Gv):Dis (Zm y G):=by
 unfold Dis List.Nodup;rw[List.pairwise_map];unfold Zm;rw[List.pairwise_append];refine⟨?_,?_,?_⟩
 .rw[Dw];refine⟨λk _=>?_,(MI _).imp λ{k j} g x a z b=>?_⟩
  .unfold Vk;rw[List.pairwise_cons];refine⟨λx a=>?_,?_⟩
   .obtain⟨t,_,a⟩:=Wr.mp a;split at a
    .rw[Xh.mp a];intro q;cases q
    .cases a
   .rw[Dw];refine⟨λt _=>?_,(MI _).imp λ{t u} f x a z b=>?_⟩
    .split
     .exact List.pairwise_singleton _ _
     .exact List.Pairwise.nil
    .split at a
     .split at b
      .rw[Xh.mp a,Xh.mp b];intro q;simp at q;exact f q
      .cases b
     .cases a
  .rcases Wo.mp a with rfl|⟨t,_,_,rfl⟩<;>rcases Wo.mp b with rfl|⟨u,_,_,rfl⟩<;>intro q<;>simp at q
   .exact g q
   .exact g q.1
 .rw[Dw];refine⟨λt _=>?_,(MI _).imp λ{t u} f x a z b=>?_⟩
  .unfold VH;rw[List.pairwise_cons];refine⟨λx a=>?_,?_⟩
   .obtain⟨i,_,a⟩:=Wr.mp a;rw[Xh.mp a];intro q;cases q
   .rw[Dw];refine⟨λt _=>List.pairwise_singleton _ _,(MI _).imp λ{i j} h x a z b=>?_⟩;rw[Xh.mp a,Xh.mp b];intro q;simp at q;exact h q.1
  .rcases Je.mp a with rfl|⟨i,_,rfl⟩<;>rcases Je.mp b with rfl|⟨j,_,rfl⟩<;>intro q<;>simp at q
   .exact f q
   .exact f q.1.2
 .intro x a z b;obtain⟨k,_,a⟩:=Wr.mp a;obtain⟨t,_,b⟩:=Wr.mp b;rcases Wo.mp a with rfl|⟨m,_,_,rfl⟩<;>rcases Je.mp b with rfl|⟨j,_,rfl⟩<;>intro q<;>simp at q
def QS(G:Gv)(φ:Zl Nd)(t k:Nat):Int:=if G.th k t=true then φ (.guest k) (.line (G.ln k) t) else 0
def upF(y:Yd)(φ:Zl Nd)(t l:Nat):Int:=if l=0 then φ (.line 0 t) .fin else φ (.line l t) (.line (upN y l) t)
theorem KN(f:Qn):∀n,Q1 f (n+1)=f 0+Q1 (λi=>f<|i+1) n
 |0=>by simp[Q1]
 |n+1=>by
  show Q1 f (n+1)+f (n+1)=_;rw[KN f n];simp[Q1]
  lia
def Vd{p:Prop}[Decidable p](h:¬p):ind p=0:=Xb h
def Mw{p:Prop}[Decidable p][Decidable q](h:p↔q):ind p=ind q:=by unfold ind;simp only[h]
def Zm6(y:Yd)(G:Gv)(φ:Zl Nd){k0:Nat}(b:k0<G.m):VB (Zm y G) φ (.guest k0)=Q1 (λt=>QS G φ t k0) y.T-φ .start (.guest k0):=by
 unfold VB;rw[K8];have f:Q1 (λt=>φ (.line 0 t) .fin*(ind (Nd.line 0 t=.guest k0)-ind (Nd.fin=.guest k0))+Q1 (λi=>φ (.line (i+1) t) (.line (upN y<|i+1) t)*(ind (Nd.line (i+1) t=.guest k0)-ind (Nd.line (upN y<|i+1) t=.guest k0))) (y.ls.length-1)) y.T=0:=by
  rw[Zi (g:=λ_=>0) λt _=>?_,Vj];rw[Vd (by rintro⟨⟩),Vd (by rintro⟨⟩),Zi (g:=λ_=>0) λi _=>?_,Vj]
  .simp
  .rw[Vd (by rintro⟨⟩),Vd λz=>nomatch z];simp
 rw[f,YZ];rw[Zi (g:=λk=>if k=k0 then Q1 (λt=>QS G φ t k0) y.T-φ .start (.guest k0) else 0) λk _=>?_,Gw,Xd b];rw[Vd (p:=Nd.start=.guest k0) λz=>nomatch z]
 by_cases e:k=k0
 .subst e;rw[Xd rfl];have:Q1 (λt=>if G.th k t=true then φ (.guest k) (.line (G.ln k) t)*(ind (Nd.guest k=.guest k)-ind (Nd.line (G.ln k) t=.guest k)) else 0) y.T=Q1 (λt=>QS G φ t k) y.T:=by
   refine Zi λt _=>?_;unfold QS;split
   .rw[Vd (p:=Nd.line (G.ln k) t=.guest k) λz=>nomatch z];simp[ind]
   .rfl
  rw[this];simp[ind];lia
 .have a:¬Nd.guest k=.guest k0:=λz=>e (by injection z)
  rw[Xb e,Vd a,Zi (g:=λ_=>0) λt _=>?_,Vj]
  .simp
  .rw[Vd (p:=Nd.line (G.ln k) t=.guest k0) λz=>nomatch z];simp
def Kv{y:Yd}(b:y.Ok)(h0:0<c)(f:c<y.ls.length):upN y c=l↔Zc y c=some l:=by
 obtain⟨a,g,_⟩:=b.ups c h0 f;unfold upN;rw[g];simp
def ZnO{y:Yd}(a:y.Ok)(G:Gv)(φ:Zl Nd)(j:l<y.ls.length)(b:t0<y.T):VB (Zm y G) φ (.line l t0) =
 upF y φ t0 l-Q1 (λk=>QS G φ t0 k*ind (G.ln k=l)) G.m-Q1 (λc=>if Zc y c=some l then upF y φ t0 c else 0) y.ls.length:=by
 unfold VB;rw[K8];have n:Q1 (λk=>φ .start (.guest k)*(ind (Nd.start=.line l t0)-ind (Nd.guest k=.line l t0))+Q1 (λt=>if G.th k t=true then φ (.guest k) (.line (G.ln k) t)*(ind (Nd.guest k=.line l t0)-ind (Nd.line (G.ln k) t=.line l t0)) else 0) y.T) G.m = - Q1 (λk=>QS G φ t0 k*ind (G.ln k=l)) G.m:=by
  rw[show-Q1 (λk=>QS G φ t0 k*ind (G.ln k=l)) G.m=(-1)*Q1 (λk=>QS G φ t0 k*ind (G.ln k=l)) G.m by lia,<- MF];refine Zi λk _=>?_;rw[Vd (p:=Nd.start=.line l t0) (by rintro⟨⟩),Vd (p:=Nd.guest k=.line l t0) λz=>nomatch z];rw[Zi (g:=λt=>if t=t0 then-(QS G φ t0 k*ind (G.ln k=l)) else 0) λt _=>?_,Gw,Xd b]
  .simp
  .by_cases e:t=t0
   .subst e;rw[Xd rfl,Mw (p:=Nd.line (G.ln k) t=.line l t) (q:=G.ln k=l)<|by simp];unfold QS;split
    .rw[Int.zero_sub,Int.mul_neg]
    .simp
   .rw[Xb e,Vd (p:=Nd.line (G.ln k) t=.line l t0) λz=>e<|by injection z];simp
 rw[n];have m:Q1 (λt=>φ (.line 0 t) .fin*(ind (Nd.line 0 t=.line l t0)-ind (Nd.fin=.line l t0))+Q1 (λi=>φ (.line (i+1) t) (.line (upN y<|i+1) t)*(ind (Nd.line (i+1) t=.line l t0)-ind (Nd.line (upN y<|i+1) t=.line l t0))) (y.ls.length-1)) y.T
  = upF y φ t0 l-Q1 (λc=>if Zc y c=some l then upF y φ t0 c else 0) y.ls.length:=by
  rw[Zi (g:=λt=>if t=t0 then upF y φ t0 l-Q1 (λc=>if Zc y c=some l then upF y φ t0 c else 0) y.ls.length else 0) λt _=>?_,Gw,Xd b];rw[Vd (p:=Nd.fin=.line l t0) λz=>nomatch z]
  by_cases e:t=t0
  .subst e;rw[Xd rfl,Mw (p:=Nd.line 0 t=.line l t) (q:=0=l)<|by simp];have f:y.ls.length=(y.ls.length-1)+1:=by lia
   have v:upF y φ t l=Q1 (λc=>if c=l then upF y φ t l else 0) y.ls.length:=by rw[Gw,Xd j]
   have s:∀c,c<y.ls.length->(if c=l then upF y φ t l else 0)=upF y φ t c*ind (c=l):=λc _=>by
    by_cases q:c=l
    .subst q;simp[ind]
    .simp[ind,q]
   rw[v,Zi s,f,KN,KN];have h:¬Zc y 0=some l:=λz=>by rw[a.up0]at z;cases z
   have f0:upF y φ t 0=φ (.line 0 t) .fin:=by unfold upF;rw[Xd rfl]
   rw[Xb h,f0,<- f];have r:Q1 (λi=>φ (.line (i+1) t) (.line (upN y<|i+1) t)*(ind (Nd.line (i+1) t=.line l t)-ind (Nd.line (upN y<|i+1) t=.line l t))) (y.ls.length-1)
    = Q1 (λi=>upF y φ t (i+1)*ind (i+1=l)) (y.ls.length-1)+Q1 (λi => -1*(if Zc y (i+1)=some l then upF y φ t (i+1) else 0)) (y.ls.length-1):=by
    rw[<- B6];refine Zi λi w=>?_;rw[Mw (p:=Nd.line (i+1) t=.line l t) (q:=i+1=l)<|by simp,Mw (p:=Nd.line (upN y<|i+1) t=.line l t) (q:=Zc y (i+1)=some l)<|by rw[<- Kv a (by lia) (by lia)];simp]
    have:upF y φ t (i+1)=φ (.line (i+1) t) (.line (upN y<|i+1) t):=by unfold upF;rw[Xb<|by lia]
    rw[this,GR];by_cases q:Zc y (i+1)=some l
    .rw[Xd q];simp[ind,q];lia
    .rw[Xb q];simp[ind,q]
   rw[r,MF];simp only[Int.sub_zero];lia
  .rw[Xb e,Vd (p:=Nd.line 0 t=.line l t0) (λz=>e<|by injection z),Zi (g:=λ_=>0) λi _=>?_,Vj]
   .simp
   .rw[Vd (p:=Nd.line (i+1) t=.line l t0) (λz=>e<|by injection z),Vd (p:=Nd.line (upN y<|i+1) t=.line l t0) λz=>e<|by injection z];simp
 rw[m];lia
section
variable {ν:Type} [DecidableEq ν]
def Yi.fwd(hw:Within L φ){es:Got ν}(g:Yi L φ es){x:ν×ν×Int}(f:x∈L)(j:x.1∈QX es)(h:x.2.1∉QX es):φ x.1 x.2.1=x.2.2:=by
 obtain⟨i,a⟩:=List.mem_iff_getElem?.mp f;have e:(2*i)/2=i:=by lia
 have b:(2*i)%2=0:=by lia
 by_cases z:φ x.1 x.2.1=x.2.2
 .exact z
 .have:=hw x f;exact Xz (g (2*i) x.1 x.2.1 (x.2.2-φ x.1 x.2.1) (by unfold tlE;rw[e,a,b];rfl) (by unfold hdE;rw[e,a,b];rfl) (by unfold rmE;rw[e,a,b];rfl) (by lia) j) h
def Yi.bwd(hw:Within L φ){es:Got ν}(g:Yi L φ es){x:ν×ν×Int}(f:x∈L)(j:x.1∉QX es)(h:x.2.1∈QX es):φ x.1 x.2.1=0:=by
 obtain⟨i,a⟩:=List.mem_iff_getElem?.mp f;have e:(2*i+1)/2=i:=by lia
 have b:¬(2*i+1)%2=0:=by lia
 by_cases z:φ x.1 x.2.1=0
 .exact z
 .have:=hw x f;exact Xz (g (2*i+1) x.2.1 x.1 (φ x.1 x.2.1) (by unfold tlE;rw[e,a];simp[b]) (by unfold hdE;rw[e,a];simp[b]) (by unfold rmE;rw[e,a];simp[b]) (by lia) h) j
end
structure Flow(y:Yd)(G:Gv)(φ:Zl Nd):Prop where
 wi:Within (Zm y G) φ
 kp:∀n,n≠.start->n≠.fin->VB (Zm y G) φ n=0
def ST{y:Yd}(a:k<G.m):((.start,.guest k,G.wa k):Nd×Nd×Int)∈Zm y G:=G8.mpr (.inl ⟨k,a,Wo.mpr<|.inl rfl⟩)
def Mv{y:Yd}(b:k<G.m)(a:t<y.T)(h:G.th k t=true):((.guest k,.line (G.ln k) t,G.mo k):Nd×Nd×Int)∈Zm y G:=G8.mpr (.inl ⟨k,b,Wo.mpr<|.inr ⟨t,a,h,rfl⟩⟩)
def S7{y:Yd}(a:t<y.T):((.line 0 t,.fin,Z3 y 0 t):Nd×Nd×Int)∈Zm y G:=G8.mpr (.inr ⟨t,a,Je.mpr<|.inl rfl⟩)
def DU{y:Yd}(a:t<y.T)(h0:0<l)(b:l<y.ls.length):((.line l t,.line (upN y l) t,Z3 y l t):Nd×Nd×Int)∈Zm y G:=
 G8.mpr (.inr ⟨t,a,Je.mpr<|.inr ⟨l-1,by lia,by rw[show l-1+1=l by lia]⟩⟩)
def moT(G:Gv)(t k:Nat):Int:=if G.th k t=true then G.mo k else 0
section
variable {y:Yd}{G:Gv}{φ:Zl Nd}(F:Flow y G φ)
include F
theorem Flow.tak(b:k<G.m)(a:t<y.T):0<=QS G φ t k/\QS G φ t k<=moT G t k:=by
 unfold QS moT;by_cases c:G.th k t=true
 .rw[Xd c,Xd c];exact F.wi _ (Mv b a c)
 .rw[Xb c,Xb c];lia
theorem Flow.total(a:k<G.m):Q1 (λt=>QS G φ t k) y.T=φ .start (.guest k):=by
 have:=F.kp (.guest k) (by rintro⟨⟩) (by rintro⟨⟩);rw[Zm6 y G φ a]at this;lia
theorem Flow.want(a:k<G.m):0<=φ .start (.guest k)/\φ .start (.guest k)<=G.wa k:=F.wi _ (ST a)
theorem Flow.up(b:y.Ok)(a:∀k,k<G.m->G.ln k<y.ls.length){t:Nat}(g:t<y.T):∀n l,y.ls.length<=l+n->l<y.ls.length->upF y φ t l=ZN y G.m G.ln (QS G φ t) l
 |0,l,h,f=>by lia
 |n+1,l,h,f=>by
  have z:=F.kp (.line l t) (by rintro⟨⟩) (by rintro⟨⟩);rw[ZnO b G φ f g]at z;have e:Q1 (λc=>if Zc y c=some l then upF y φ t c else 0) y.ls.length=Q1 (λc=>if Zc y c=some l then ZN y G.m G.ln (QS G φ t) c else 0) y.ls.length:=by
   refine Zi λc i=>?_
   by_cases u:Zc y c=some l
   .rw[Xd u,Xd u];have:=Ul b i u;exact Flow.up b a g n c (by lia) i
   .rw[Xb u,Xb u]
  rw[GF b a _ f,<- e];lia
theorem Flow.up_ok(f:y.Ok)(a:t<y.T)(b:l<y.ls.length):0<=upF y φ t l/\upF y φ t l<=Z3 y l t:=by
 unfold upF;by_cases z:l=0
 .subst z;rw[Xd rfl];exact F.wi _ (S7 a)
 .rw[Xb z];exact F.wi _ (DU a (by lia) b)
theorem Flow.load(b:y.Ok)(a:∀k,k<G.m->G.ln k<y.ls.length)(f:t<y.T)(g:l<y.ls.length):ZN y G.m G.ln (QS G φ t) l<=Z3 y l t:=by
 rw[<- F.up b a f y.ls.length l (by lia) g];exact(F.up_ok b f g).2
def Vu(es:Got Nd)(k:Nat):Bool:=decide (Nd.guest k∈QX es)
def LX(es:Got Nd)(t l:Nat):Bool:=decide (Nd.line l t∈QX es)
omit F in
theorem not_of{p:Prop}[Decidable p](h:decide p=false):¬p:=JO h
theorem Flow.shut(ok:y.Ok)(f:∀k,k<G.m->G.ln k<y.ls.length){es:Got Nd}(g:Yi (Zm y G) φ es)(j:Nd.fin∉QX es)(b:t<y.T):
 Shut y G.m G.ln (QS G φ t) (moT G t) (λl=>Z3 y l t) (Vu es) (LX es t) where
 nn k hk:=(F.tak hk b).1
 full k hk hS hR:=by
  unfold QS moT;by_cases c:G.th k t=true
  .rw[Xd c,Xd c];exact g.fwd F.wi (Mv hk b c) (XW hS) (not_of hR)
  .rw[Xb c,Xb c]
 none k hk hS hR:=by
  unfold QS;by_cases c:G.th k t=true
  .rw[Xd c];exact g.bwd F.wi (Mv hk b c) (not_of hS) (XW hR)
  .rw[Xb c]
 top hR:=by
  have m:=ok.l1;rw[<- F.up ok f b y.ls.length 0 (by lia) (by lia)];unfold upF;rw[Xd rfl];exact g.fwd F.wi (S7 b) (XW hR) j
 out c a hcl u h1 h2:=by
  have i:c≠0:=λz=>by subst z;rw[ok.up0]at u;cases u
  have h:upN y c=a:=(Kv ok (by lia) hcl).mpr u;rw[<- F.up ok f b y.ls.length c (by lia) hcl];unfold upF;rw[Xb i];exact g.fwd F.wi (DU b (by lia) hcl) (XW h1) (by rw[h];exact not_of h2)
 inn c a hcl u h1 h2:=by
  have i:c≠0:=λz=>by subst z;rw[ok.up0]at u;cases u
  have h:upN y c=a:=(Kv ok (by lia) hcl).mpr u;rw[<- F.up ok f b y.ls.length c (by lia) hcl];unfold upF;rw[Xb i];exact g.bwd F.wi (DU b (by lia) hcl) (not_of h1) (by rw[h];exact XW h2)
theorem Flow.filled{es:Got Nd}(f:Yi (Zm y G) φ es)(b:Nd.start∈QX es)(a:k<G.m)(g:Vu es k=false):Q1 (λt=>QS G φ t k) y.T=G.wa k:=by
 rw[F.total a];exact f.fwd F.wi (ST a) b (not_of g)
noncomputable def VA(G:Gv)(S:Qm)(t l:Nat):Int:=Q1 (λk=>Zd S (moT G t) k*ind (G.ln k=l)) G.m
omit F in
theorem SV{y:Yd}(b:y.Ok):∀n j,j<n->j<y.ls.length->0∈upL y j
 |0,j,h,_=>by lia
 |n+1,j,h,f=>by
  by_cases z:j=0
  .subst z;exact Kf y 0
  .obtain⟨a,g,i⟩:=b.ups j (by lia) f;exact(Hh b (by lia) f g 0 λq=>z q.symm).mpr (SV b n a (by lia)<|by lia)
omit F in
theorem Pt(b:y.Ok){m:Nat}(a:∀k,k<m->ln k<y.ls.length)(f:Qn):ZN y m ln f 0=Q1 f m:=
 Zi λk g=>by
  unfold ind;rw[Xd<|SV b _ _ (Jj _)<|a k g,Int.mul_one]
theorem Flow.no_more(b:y.Ok)(a:∀k,k<G.m->G.ln k<y.ls.length)(S:Qm)(h:t<y.T):Q1 (Zd S<|QS G φ t) G.m<=passes y (λl=>Z3 y l t) (VA G S t) 0:=by
 have n:=b.l1;rw[<- Pt b a];refine Mir.no_more b a (λl j=>?_) (λl j=>?_) y.ls.length 0 (by lia) (by lia)
 .refine Wj λk i=>?_
  have q:=F.tak i h
  by_cases e:G.ln k=l
  .unfold Zd ind;rw[Xd e];split<;>lia
  .rw[Vd e];lia
 .have q:=F.load b a h j;have m:=Pe (y:=y) (ln:=G.ln) (f:=Zd S (QS G φ t)) (g:=QS G φ t) (λk i=>Kn (F.tak i h).1) l;lia
theorem Flow.meet(g:y.Ok)(f:∀k,k<G.m->G.ln k<y.ls.length){es:Got Nd}(j:Yi (Zm y G) φ es)(i:Nd.fin∉QX es)(h:t<y.T):
 passes y (λl=>Z3 y l t) (VA G (Vu es) t) 0=Q1 (Zd (Vu es)<|QS G φ t) G.m:=by
 have m:=g.l1;have a:=F.no_more g f (Vu es) h;have b:=(F.shut g f j i h).all g f (own:=VA G (Vu es) t) (λl n=>rfl) y.ls.length 0 (by lia) (by lia) (λ_=>.inl rfl);rw[Pt g f]at b;lia
omit F in
theorem Ke(f g:Qn):∀n,Q1 (λk=>f k-g k) n=Q1 f n-Q1 g n
 |0=>rfl
 |n+1=>by
  simp only[Q1];rw[Ke f g n];lia
theorem Flow.lack(f:y.Ok)(a:∀k,k<G.m->G.ln k<y.ls.length){es:Got Nd}(b:Yi (Zm y G) φ es)(i:Nd.start∈QX es)(m:Nd.fin∉QX es):
 Q1 (λk=>G.wa k-Q1 (λt=>QS G φ t k) y.T) G.m=Q1 (Zd (Vu es) G.wa) G.m-Q1 (λt=>passes y (λl=>Z3 y l t) (VA G (Vu es) t) 0) y.T:=by
 rw[Zi (n:=y.T) λt h=>F.meet f a b m h,BA,<- Ke];refine Zi λk j=>?_
 cases s:Vu es k with
 |true=>
  have:Q1 (λt=>Zd (Vu es) (QS G φ t) k) y.T=Q1 (λt=>QS G φ t k) y.T:=Zi λt _=>by unfold Zd;rw[Xd s]
  rw[this];unfold Zd;rw[Xd s]
 |false=>
  have:Q1 (λt=>Zd (Vu es) (QS G φ t) k) y.T=0:=by
   rw[Zi (g:=λ_=>0) λt _=>?_,Vj];unfold Zd;rw[Xb<|by rw[s];decide]
  rw[this,F.filled b i j s];unfold Zd;rw[Xb<|by rw[s];decide];lia
omit F in
theorem Zm4(y:Yd)(G:Gv)(φ:Zl Nd):VB (Zm y G) φ .start=Q1 (λk=>φ .start<|.guest k) G.m:=by
 unfold VB;rw[K8];have a:Q1 (λt=>φ (.line 0 t) .fin*(ind (Nd.line 0 t=.start)-ind (Nd.fin=.start))+Q1 (λi=>φ (.line (i+1) t) (.line (upN y<|i+1) t)*(ind (Nd.line (i+1) t=.start)-ind (Nd.line (upN y<|i+1) t=.start))) (y.ls.length-1)) y.T=0:=by
  rw[Zi (g:=λ_=>0) λt _=>?_,Vj];rw[Vd (by rintro⟨⟩),Vd (by rintro⟨⟩),Zi (g:=λ_=>0) λi _=>?_,Vj]
  .simp
  .rw[Vd (by rintro⟨⟩),Vd λz=>nomatch z];simp
 rw[a,YZ];refine Zi λk _=>?_;rw[Vd (p:=Nd.guest k=.start) (by rintro⟨⟩),Zi (g:=λ_=>0) λt _=>?_,Vj]
 .simp[ind]
 .rw[Vd (p:=Nd.line (G.ln k) t=.start) λz=>nomatch z];simp
theorem Flow.push{a:Int}(h:0<=a){w:Qk}(hw:Chain (Zm y G) .start .fin w)(hn:w.Nodup)(g:∀e∈w,∃r,rmE (Zm y G) φ e=some r/\a<=r):
 Flow y G (Wg (Zm y G) a φ w)/\VB (Zm y G) (Wg (Zm y G) a φ w) .start=VB (Zm y G) φ .start+a:=by
 refine⟨⟨Lu (MD y G) h F.wi hn g,λn f b=>?_⟩,?_⟩
 .rw[Kh (MD y G) n hw,F.kp n f b,Vd λz=>f z.symm,Vd λz=>b z.symm];simp
 .rw[Kh (MD y G) .start hw,Vd (p:=Nd.fin=.start) λz=>nomatch z];simp[ind]
theorem Flow.most:VB (Zm y G) φ .start<=Q1 G.wa G.m:=by
 rw[Zm4];exact Wj λk a=>(F.want a).2
end
def Fe{y:Yd}(h:∀x∈Zm y G,0<=x.2.2):Flow y G (λ_ _=>0):=by
 refine⟨λx b=>⟨YJ _,h x b⟩,λn _ _=>?_⟩;unfold VB Vl;have:∀L:Lay Nd,(L.map λx=>(0:Int)*(ind (x.1=n)-ind (x.2.1=n))).sum=0:=λL=>by
  induction L with
  |nil=>rfl
  |cons x L a=>rw[Xw,UK,a];simp
 exact this _
def ZmQ(e:Nat):Builtin.bitAnd (e:Int) 1=((e%2:Nat):Int):=by
 unfold Builtin.bitAnd;have b:decide ((0:Int)<=(e:Int))=true:=XJ (by lia);have a:decide ((0:Int)<=1)=true:=rfl;rw[b,a];show((((e:Int).toNat &&& (1:Int).toNat:Nat)):Int)=_;rw[Xo,show(1:Int).toNat=1 from rfl,Nat.and_one_is_mod]
def F7(e:Nat):e ||| 1=e+1-e%2:=by
 apply Nat.eq_of_testBit_eq;intro i;rw[Nat.testBit_or];have a:e%2=0\/e%2=1:=by lia
 cases i with
 |zero=>
  rw[Nat.testBit_zero,Nat.testBit_zero,Nat.testBit_zero];have:(e+1-e%2)%2=1:=by lia
  rw[this];rcases a with h|h<;>rw[h]<;>rfl
 |succ i=>
  rw[Nat.testBit_succ,Nat.testBit_succ,Nat.testBit_succ];have:(e+1-e%2)/2=e/2:=by lia
  rw[this];simp
def Zn1(e:Nat):Builtin.bitOr (e:Int) 1=((e+1-e%2:Nat):Int):=by
 unfold Builtin.bitOr;have a:Builtin.bitNot (e:Int) = -(e:Int)-1:=rfl;have b:Builtin.bitNot 1 = -2:=rfl;have c:Builtin.bitAnd (Builtin.bitNot (e:Int)) (Builtin.bitNot 1)=Builtin.bitNot (((e ||| 1:Nat)):Int):=by
  rw[a,b];unfold Builtin.bitAnd;have g:decide ((0:Int) <= -(e:Int)-1)=false:=XI (by lia);have f:decide ((0:Int) <= -2)=false:=rfl;rw[g,f];show Builtin.bitNot ((((Builtin.bitNot (-(e:Int)-1)).toNat ||| (Builtin.bitNot (-2)).toNat:Nat)):Int)=_;have i:(Builtin.bitNot (-(e:Int)-1)).toNat=e:=by show(-(-(e:Int)-1)-1).toNat=e;lia
  have h:(Builtin.bitNot (-2)).toNat=1:=rfl;rw[i,h]
 rw[c,F7];show -(-(((e+1-e%2:Nat)):Int)-1)-1=_
 lia
def N4(e:Nat):Builtin.bitXor (e:Int) 1=(Zfq e:Int):=by
 unfold Builtin.bitXor;rw[ZmQ,Zn1];unfold Zfq;split<;>lia
end Mir
namespace L2
abbrev KK:=List Key×List Key
def Jm(P:Program)(w:World)(a:Addr)(xs:List (KK×Addr×V))(h:Heap):Prop:=xs.length<=sizeLine/\(a==sysModules)=false/\∃b:List (KK×Addr×Value),
 Paired (λ(x:KK×Addr×V) (y:KK×Addr×Value)=>x.1=y.1/\x.2.1=y.2.1/\QN x.2.2 y.2.2) xs b/\
 ∃o es f,h.get? a=some o/\o.ExactDict/\o.data=.dict es f/\es.toList=b.map (entryOfKey<|Kj<|Vr P w)/\(b.map (·.1)).Nodup
def pdO(P:Program)(w:World)(a:Addr)(xs:List (KK×Addr×V)):HO:=.ext (Jm P w a xs)
def Jm.move{xs:List (KK×Addr×V)}(x:Jm P w a xs h1)(k:∀o,h1.get? a=some o->h2.get? a=some o):Jm P w a xs h2:=by
 obtain⟨z,y,b,r,o,es,f,m,j,i,h,g⟩:=x;exact⟨z,y,b,r,o,es,f,k _ m,j,i,h,g⟩
def Jm.ok{xs:List (KK×Addr×V)}(x:Jm P w a xs h):Z6 P w H h a (pdO P w a xs):=by
 refine⟨x,?_,λi g y k=>y.move k⟩;obtain⟨z,y,f,r,o,es,j,b,_⟩:=x;exact⟨o,b⟩
def Vt(H:Hp)(k:KK)(b:Addr):Prop := ∃p q,H b=some (.tup [.ref p,.ref q])/\H p=some (.tup<|k.1.map kV)/\H q=some (.tup<|k.2.map kV)
def Vt.mono(s:∀b ys,H b=some (.tup ys)->H' b=some (.tup ys)){b:Addr}(x:Vt H k b):Vt H' k b:=by
 obtain⟨p,q,g,f,a⟩:=x;exact⟨p,q,s _ _ g,s _ _ f,s _ _ a⟩
section
variable {H:Hp}{b:Addr}
def MJ(a:HOk P w H h)(x:Vt H k b):(Kj<|Vr P w).is h k b:=by
 obtain⟨p,q,s,m,j⟩:=x;obtain⟨_,i,r,o,A,y,n,v⟩:=(show Z6 P w H h b (.tup [.ref p,.ref q]) from a b _ s)
 cases r with
 |cons g r=>
  cases r with
  |cons f r=>
   cases r;cases (show _=Value.ref p from g);cases (show _=Value.ref q from f);exact⟨o,n,p,q,A,y,v,W5 a m,W5 a j⟩
def DS{xs:List (KK×Addr×V)}(g:HOk P w H h)(e:H a=some (pdO P w a xs))(j:∀x∈xs,Vt H x.1 x.2.1):xs.length<=sizeLine/\(a==sysModules)=false/\∃vs,
 Paired (λ(x:KK×Addr×V) (y:KK×Addr×Value)=>x.1=y.1/\x.2.1=y.2.1/\QN x.2.2 y.2.2) xs vs/\h.DictOfH (Kj<|Vr P w) a vs:=by
 obtain⟨⟨z,y,vs,r,o,es,A,D,C,B,n,m⟩,f⟩:=(show Z6 P w H h a (pdO P w a xs) from g a _ e);refine⟨z,y,vs,r,o,es,A,D,C,B,n,?_,m⟩;clear m n z e f;induction r with
 |nil=>intro x b;exact nomatch b
 |@cons p q ps E i t s=>
  intro x b;rcases Xe.mp b with rfl|b
  .have:=MJ g (j p Xc);rw[i.1,i.2.1]at this;exact this
  .exact s (λz v=>j z<|Xi _ v) x b
end
def Yp(xs:List (KK×Addr×V))(k:KK):Option V:=(xs.find? λx=>decide (x.1=k)).map (·.2.2)
abbrev RPD:=Paired (λ(x:KK×Addr×V) (y:KK×Addr×Value)=>x.1=y.1/\x.2.1=y.2.1/\QN x.2.2 y.2.2)
def RPD.val(k:KK){xs:List (KK×Addr×V)}(r:RPD xs vs):ZT (Yp xs k) ((atKey vs k).map (·.2)):=by
 induction r with
 |nil=>exact True.intro
 |@cons p q ps a b t h=>
  by_cases e:p.1=k
  .have g:Yp (p::ps) k=some p.2.2:=by simp[Yp,Xy,e]
   have f:(atKey (q::a) k).map (·.2)=some q.2.2:=by simp[atKey,Xy,<- b.1,e]
   rw[g,f];exact b.2.2
  .have g:Yp (p::ps) k=Yp ps k:=by simp[Yp,Xy,e]
   have f:(atKey (q::a) k).map (·.2)=(atKey a k).map (·.2):=by simp[atKey,Xy,<- b.1,e]
   rw[g,f];exact h
def Jl(xs:List (KK×Addr×V))(k:KK)(b:Addr)(v:V):List (KK×Addr×V):=if (Yp xs k).isSome=true then xs.map (λx=>if x.1=k then (x.1,x.2.1,v) else x) else xs++[(k,b,v)]
def RPD.repl(k:KK)(b:QN v u){xs:List (KK×Addr×V)}(r:RPD xs vs):RPD (xs.map λx=>if x.1=k then (x.1,x.2.1,v) else x) (vs.map<|putAt k u):=by
 induction r with
 |nil=>exact .nil
 |@cons p q ps g a t f=>
  rw[Xw,Xw];refine .cons ?_ f;unfold putAt;by_cases e:p.1=k
  .rw[Xd e,Xd<|a.1▸e];exact⟨a.1,a.2.1,b⟩
  .rw[Xb e,Xb<|a.1▸e];exact a
theorem ZT.some_eq:∀{x:Option V} {y:Qf},ZT x y->x.isSome=y.isSome
 |none,none,_=>rfl
 |some _,some _,_=>rfl
 |none,some _,h=>by cases h
 |some _,none,h=>by cases h
def RPD.put(k:KK)(b:Addr)(a:QN v u){xs:List (KK×Addr×V)}(r:RPD xs vs):RPD (Jl xs k b v) (storedH vs k b u):=by
 have e:=ZT.some_eq (r.val k);rw[JN]at e;unfold Jl storedH;rw[e];split
 .exact r.repl k a
 .exact Paired.snoc r ⟨rfl,rfl,a⟩
def ZkV(xs:List (KK×Addr×V))(k:KK)(b:Addr)(v:V):(Jl xs k b v).length<=xs.length+1:=by
 unfold Jl;split<;>simp
section
variable {H:Hp}{b:Addr}{xs:List (KK×Addr×V)}{k:KK}
def OL(W:A.units+6<cLine)(I:Qt X Xa7 σ H s)(e:H a=some (pdO X.prog X.w a xs))(y:∀x∈xs,Vt H x.1 x.2.1)(C:Vt H k b)(l:xs.length<sizeLine)(n:QN v r)
(h:∀i,Qt X Xa7 σ (upd H a<|pdO X.prog X.w a<|Jl xs k b v) i->Q () i):wpAny (model X.prog X.w) A (setItem (.ref a) (.ref b) r) Q E s:=by
 obtain⟨z,B,m,f,dd⟩:=DS I.hok e y;have p:m.length<=sizeLine:=by rw[<- Paired.length f];exact z
 refine wpAny_setItem_heap (hsz:=p) (show A.units+1+5<cLine by lia) (MJ I.hok C) dd λh' g w=>h _ ?_;obtain⟨q,es,R,j,P,M,K,_,D⟩:=g;exact Bx I (by rw[e];exact True.intro) w ⟨q,j⟩ (Jm.ok ⟨by have:=ZkV xs k b v;lia,B,_,RPD.put k b n f,q,es,R,j,P,M,K,D⟩)
def Ot(y:A.units+6<cLine)(I:Qt X Xa7 σ H s)(e:H a=some (pdO X.prog X.w a xs))(r:∀x∈xs,Vt H x.1 x.2.1)(w:Vt H k b)(n:Yp xs k=some v)
(h:∀u j,Qt X Xa7 σ H j->QN v u->Q u j):wpAny (model X.prog X.w) A (getItem (.ref a)<|.ref b) Q E s:=by
 obtain⟨z,B,m,g,dd⟩:=DS I.hok e r;have f:=RPD.val k g;rw[n]at f;cases i:atKey m k with
 |none=>rw[i]at f;cases f
 |some p=>
  rw[i]at f;exact wpAny_getItem_heap (show A.units+1+5<cLine by lia) (MJ I.hok w) dd i (h _ _ (I.tok _) f)
def A4(r:A.units+6<cLine)(I:Qt X Xa7 σ H s)(e:H a=some (pdO X.prog X.w a xs))(j:∀x∈xs,Vt H x.1 x.2.1)(n:Vt H k b)
(h:∀g,Qt X Xa7 σ H g->Q (.bool<|!(Yp xs k).isSome) g):wpAny (model X.prog X.w) A (compareOp .NotIn (.ref b)<|.ref a) Q E s:=by
 obtain⟨z,m,p,f,dd⟩:=DS I.hok e j;have i:=ZT.some_eq (RPD.val k f);rw[JN]at i;refine wpAny_notIn_heap (show A.units+1+5<cLine by lia) (MJ I.hok n) m dd ?_;rw[<- i];exact h _ (I.tok _)
end
section
variable {H:Hp}{b:Addr}{d:V}{L0:List (List Key×V)}{k:List Key}
def On(D:A.units+1<cLine)(I:Qt X Xa7 σ H s)(e:H a=some (.dT L0))(y:H b=some (.tup<|k.map kV))(l:L0.length<sizeLine)(B:QN d r)
(W:∀v u i,Z4 L0 k=some v->Qt X Xa7 σ H i->QN v u->Q u i)(R:Z4 L0 k=none->∀i,Qt X Xa7 σ (upd H a<|.dT<|L0++[(k,d)]) i->Q r i):
 wpAny (model X.prog X.w) A (call (.builtin "dict.setdefault") [.ref a,.ref b,r]) Q E s:=by
 obtain⟨z,w,xs,g,dd⟩:=DM I.hok e;have C:xs.length<=sizeLine:=by rw[<- Paired.length g];exact z
 have f:=g.val k;refine call_meetsIn PySem.F.slot_dict_setdefault dd.typeIs PySem.F.entry_dict_setdefault (PySem.F.args_dict_setdefault_3 _ _ _) (ZdY (tupleKind<|Vr X.prog X.w) a b w r)
  ⟨tupleKind_room_in1 D,k,xs,W5 I.hok y,dd,C,λp M=>?_,λP h' m K=>?_⟩
 .rw[M]at f;cases h:Z4 L0 k with
  |none=>rw[h]at f;cases f
  |some v=>rw[h]at f;exact W v _ _ h (I.tok _) f
 .have h:Z4 L0 k=none:=by
   rw[P]at f;cases h:Z4 L0 k with
   |none=>rfl
   |some v=>rw[h]at f;cases f
  refine R h _ ?_;obtain⟨q,es,F,n,x,t,o,_,Y⟩:=m;refine Bx I (by rw[e];exact True.intro) K ⟨q,n⟩ ⟨by simp;lia,w,_,(show KT H (L0++[(k,d)]) (xs++[(k,b,r)]) from Paired.snoc g ⟨rfl,y,B⟩).keeps λc ys j=>?_,q,es,F,n,x,t,o,Y⟩;rw[Qu λz=>by subst z;rw[e]at j;cases j];exact j
end
def S9(td i tx:TE):TE:=λσ H Q=>td σ H λx h=>∃a,x=.ref a/\IsD h a/\i σ h λy j=>tx σ j λz g=>∃f k b,y=.ref b/\g a=some (.dT f)/\g b=some (.tup<|k.map kV)/\f.length<sizeLine/\
 (∀v,Z4 f k=some v->Q v g)/\(Z4 f k=none->Q z (upd g a<|.dT<|f++[(k,z)]))
section
variable {o e f value:Expr}{ty:TE}
def Ib(Y:X.A.units+1<cLine)(c:PE X o td)(he:PE X e ty)(q:PE X f tx)(m:M2 X o "setdefault" SF e f L3):PE X (.Call (.Attribute o "setdefault" SF) [e,f] [] L3) (S9 td ty tx):=by
 intro Xa7 s σ H Q I h;refine wpAny_Call_method m.base m.few m.line PySem.F.plainAttrs_dict PySem.F.slot_dict_setdefault PySem.F.type_dict_setdefault (QB (c Xa7 s σ H _ I h) ?_);rintro u w ⟨x,T,n,C,a,F,d,P⟩;subst F;obtain rfl:u=Value.ref a:=C;obtain⟨t1,p,_⟩:=Sd n d;refine⟨t1,p,?_⟩;rw[m.trees];refine Calls.callWith_builtin rfl (Calls.evalArgs_plain (Calls.spliced_cons (QB (he Xa7 w σ T _ n P) λW r ⟨y,S,N,B,M⟩=>
  Calls.spliced_cons (QB (q Xa7 r σ S _ N M) λZ U ⟨z,O,L,j,R,k,b,t,J,G,l,K,E⟩=>Calls.spliced_nil ?_))))
 subst t;cases (show W=Value.ref b from B);exact On Y L J G l j (λv u A g i D=>⟨v,O,i,D,K v g⟩) (λg A i=>⟨z,_,i,j,E g⟩)
def RO(P:Program)(w:World)(td ty:TE):TE:=λσ H Q=>td σ H λx f=>ty σ f λy e=>∃a b xs k v,x=.ref a/\y=.ref b/\e a=some (pdO P w a xs)/\(∀x∈xs,Vt e x.1 x.2.1)/\Vt e k b/\Yp xs k=some v/\Q v e
def Pg(P:Program)(w:World)(ty td:TE):TE:=λσ H Q=>ty σ H λy f=>td σ f λx e=>∃a b xs k,x=.ref a/\y=.ref b/\e a=some (pdO P w a xs)/\(∀x∈xs,Vt e x.1 x.2.1)/\Vt e k b/\Q (.bl<|!(Yp xs k).isSome) e
def R0(P:Program)(w:World)(td ty tv:TE):TS:=λD σ H=>tv σ H λv g=>td σ g λx f=>ty σ f λy e=>∃a b xs k,x=.ref a/\y=.ref b/\e a=some (pdO P w a xs)/\(∀x∈xs,Vt e x.1 x.2.1)/\Vt e k b/\xs.length<sizeLine/\
 D.nx σ (upd e a<|pdO P w a<|Jl xs k b v)
def ZnS   {xs:List (KK×Addr×V)}(I:Qt X Xa7 σ H s)(e:H a=some (pdO X.prog X.w a xs)):s.TypeIs (.ref a) "dict" := by
 obtain⟨⟨_,_,g,_,o,es,h,f,b,_⟩,_⟩:=(show Z6 X.prog X.w H s.heap a (pdO X.prog X.w a xs) from I.hok a _ e)
 exact⟨o,f,b.1⟩
def A1(A:X.A.units+6<cLine)(C:PE X o td)(D:PE X e ty)(B:DD e):PE X (.Subscript o e pos) (RO X.prog X.w td ty):=by
 intro Xa7 s σ H Q I h;refine SH PySem.F.slot_dict_getitem.lookup B (QB (C Xa7 s σ H _ I h) ?_);rintro u j ⟨x,d,Y,n,r⟩;refine QB (D Xa7 j σ d _ Y r) ?_;rintro w t ⟨y,c,i,m,a,b,xs,k,v,K,E,g,R,P,M,p⟩;subst K E;obtain rfl:u=Value.ref a:=n;obtain rfl:w=Value.ref b:=m;exact⟨ZnS i g,Ot A i g R P M λl q W f=>⟨v,c,W,f,p⟩⟩
def ZnU(p:X.A.units+6<cLine)(v:PE X e ty)(r:PE X o td):PC X .NotIn e o (Pg X.prog X.w ty td):=by
 intro Xa7 s σ H Q I h;refine QB (v Xa7 s σ H _ I h) ?_;rintro n f ⟨y,R,M,g,m⟩;refine QB (r Xa7 f σ R _ M m) ?_;rintro u Y ⟨x,P,K,i,a,b,xs,k,A,w,D,C,B,j⟩;subst A w;obtain rfl:u=Value.ref a:=i;obtain rfl:n=Value.ref b:=g;exact A4 p K D C B λW E=>⟨.bl<|!(Yp xs k).isSome,P,E,rfl,j⟩
def Ea(C:X.A.units+6<cLine)(K:PE X o td)(M:PE X e ty)(B:PE X value tv)(E:swapsWith value (some<|.Subscript o e pos') pos.line X.env=pure false):
 PS X (.Assign [.Subscript o e pos'] value pos) (R0 X.prog X.w td ty tv):=by
 intro Xa7 s σ H D I h;refine wpAny_Assign_Subscript (QB (B Xa7 s σ H _ I h) ?_) E;rintro r g ⟨v,G,z,m,w⟩;refine QB (K Xa7 g σ G _ z w) ?_;rintro u f ⟨x,F,t,j,p⟩;refine QB (M Xa7 f σ F _ t p) ?_;rintro A L ⟨y,N,q,i,a,b,xs,k,R,P,c,Y,W,l,n⟩;subst R P;obtain rfl:u=Value.ref a:=j;obtain rfl:A=Value.ref b:=i;exact OL C q c Y W l m λJ d=>⟨σ,_,d,n⟩
end
def C7(P:Program)(w:World):TE:=λ_ H Q=>∀p,H p=none->Q (.ref p) (upd H p<|pdO P w p [])
def Oo : PE X (.Dict [] [] pos) (C7 X.prog X.w):=λXa7 s σ H Q I h=>
 wpAny_Dict_empty ⟨.ref s.heap.objs.size,_,I.laid (a:=s.heap.objs.size) (o:=pdO X.prog X.w s.heap.objs.size []) (t':=s.toks) (λ_ _ q=>Xg _ q) (Xq _)
  (Jm.ok ⟨XQ _,beq_eq_false_iff_ne.mpr<|Ne.symm<|Xr I.big,[],.nil,_,#[],0,XB _ rfl,⟨rfl,rfl,rfl⟩,rfl,rfl,UM⟩),rfl,h _<|I.hok.fresh<|Xq _⟩
structure Q8 where
 ends:List (List Key)
 rooms:Ql
 leav:List (List Key×Ql)
 laid:List (KK×Int)
inductive LaidD(F:Hp):List (KK×Addr×V)->List (KK×Int)->Prop
 |nil:LaidD F [] []
 |cons {k:KK}{b:Addr}{n:Int}{xs:List (KK×Addr×V)}{ls:List (KK×Int)}:Vt F k b->LaidD F xs ls->LaidD F ((k,b,.int n)::xs) ((k,n)::ls)
theorem LaidD.mono{F a:Hp}(s:Q7 F a):∀{xs:List (KK×Addr×V)} {ls:List (KK×Int)},LaidD F xs ls->LaidD a xs ls
 |_,_,.nil=>.nil
 |_,_,.cons h t=>.cons (h.mono λb ys e=>s _ _ e) (t.mono s)
theorem LaidD.at{F H:Hp}(s:Q7 F H):∀{xs:List (KK×Addr×V)} {ls:List (KK×Int)},LaidD F xs ls->∀x∈xs,Vt H x.1 x.2.1
 |_,_,.nil,x,a=>nomatch a
 |_,_,.cons h t,x,a=>by
  rcases Xe.mp a with rfl|a
  .exact h.mono λb ys e=>s _ _ e
  .exact t.at s x a
inductive LeavD(F H:Hp):List (List Key×V)->List (List Key×Ql)->Qg->Prop
 |nil:LeavD F H [] [] []
 |cons {k:List Key}{a:Addr}{ns:Ql}{xs:List (List Key×V)}{ls:List (List Key×Ql)}{as:Qg}:Vz F H a (ns.map PyData.int)->LeavD F H xs ls as->LeavD F H ((k,.ref a)::xs) ((k,ns)::ls) (a::as)
theorem LeavD.mem{F H:Hp}:∀{xs:List (List Key×V)} {ls:List (List Key×Ql)} {as:Qg},LeavD F H xs ls as->∀a∈as,F a=none/\H a≠none
 |_,_,_,.nil,a,b=>nomatch b
 |_,_,_,.cons h t,a,b=>by
  rcases Xe.mp b with rfl|b
  .obtain⟨g,xs,f,_⟩:=h;exact⟨g,Z1 f⟩
  .exact t.mem a b
theorem LeavD.mono{F f H j:Hp}(s:Q7 F f):∀{xs:List (List Key×V)} {ls:List (List Key×Ql)} {as:Qg},(∀a∈as,f a=none)->(∀a∈as,j a=H a)->LeavD F H xs ls as->LeavD f j xs ls as
 |_,_,_,_,_,.nil=>.nil
 |_,_,_,i,g,.cons h t=>by
  obtain⟨p,xs,n,m⟩:=h;exact .cons ⟨i _ Xc,xs,by rw[g _ Xc];exact n,m.mono s⟩ (t.mono s (λa b=>i a<|Xi _ b) λa b=>g a<|Xi _ b)
theorem LeavD.addrs{F g H f:Hp}:∀{xs:List (List Key×V)} {ls a:List (List Key×Ql)} {as bs:Qg},LeavD F H xs ls as->LeavD g f xs a bs->as=bs
 |_,_,_,_,_,.nil,.nil=>rfl
 |_,_,_,_,_,.cons _ t,.cons _ b=>by rw[t.addrs b]
structure NetOk(P:Program)(w:World)(C:Addr)(N:Q8)(F H:Hp)(a dx e r l d:Addr)(xs:List (List Key×V))(ys:List (KK×Addr×V))(as:Qg):Prop where
 nd:(a::dx::e::r::l::d::as).Nodup
 ins:F a=none/\H a=some (.ins C dx [("ends",.ref e),("rooms",.ref r),("leaving",.ref l),("laid",.ref d)])
 own:F dx=none/\H dx=some (.own a)
 ends:Vz F H e (N.ends.map QW)
 rooms:Vz F H r (N.rooms.map PyData.int)
 leav:F l=none/\H l=some (.dT xs)/\LeavD F H xs N.leav as
 laid:F d=none/\H d=some (pdO P w d ys)/\LaidD F ys N.laid
def Zj(P:Program)(w:World)(C:Addr)(N:Q8):OwnP where
 ok K F H v p := ∃a dx e r l d xs ys n,v=.ref a/\p=a::dx::e::r::l::d::n/\NetOk P w C N F H a dx e r l d xs ys n
 there:=by
  rintro K F H v p ⟨a,dx,e,r,l,d,xs,ys,n,rfl,rfl,o⟩ b f;obtain⟨_,⟨y,m⟩,⟨X,B⟩,⟨Y,ex,E,_⟩,⟨W,R,A,_⟩,⟨l1,l2,l3⟩,⟨d1,M,_⟩⟩:=o;simp only[Xe]at f;rcases f with rfl|rfl|rfl|rfl|rfl|rfl|f
  .exact⟨y,Z1 m⟩
  .exact⟨X,Z1 B⟩
  .exact⟨Y,Z1 E⟩
  .exact⟨W,Z1 A⟩
  .exact⟨l1,Z1 l2⟩
  .exact⟨d1,Z1 M⟩
  .exact l3.mem b f
 mono:=by
  rintro K F Z H U v p s h g ⟨a,dx,e,r,l,d,xs,ys,n,rfl,rfl,o⟩;obtain⟨nd,⟨y,m⟩,⟨X,B⟩,⟨Y,ex,E,z⟩,⟨W,R,A,u⟩,⟨l1,l2,l3⟩,⟨d1,M,I⟩⟩:=o;refine⟨a,dx,e,r,l,d,xs,ys,n,rfl,rfl,nd,⟨h _<|by simp,by rw[g _<|by simp];exact m⟩,⟨h _<|by simp,by rw[g _<|by simp];exact B⟩,⟨h _<|by simp,ex,by rw[g _<|by simp];exact E,z.mono s⟩,
   ⟨h _<|by simp,R,by rw[g _<|by simp];exact A,u.mono s⟩,⟨h _<|by simp,by rw[g _<|by simp];exact l2,l3.mono s (λb f=>h b<|by simp[f]) λb f=>g b<|by simp[f]⟩,⟨h _<|by simp,by rw[g _<|by simp];exact M,I.mono s⟩⟩
 uniq:=by
  rintro K F H v p q ⟨a,dx,e,r,l,d,xs,ys,n,rfl,rfl,o⟩ ⟨T,G,Q,L,O,S,t,k,J,ev,rfl,D⟩ c x;cases ev;have i:=o.ins.2.symm.trans D.ins.2;injection i with i;injection i with _ y m;subst y;simp only[List.cons.injEq,Prod.mk.injEq,true_and,and_true,V.ref.injEq]at m;obtain⟨rfl,rfl,rfl,rfl⟩:=m;have j:=o.leav.2.1.symm.trans D.leav.2.1;injection j with j;injection j with j;subst j;rw[o.leav.2.2.addrs D.leav.2.2];exact x
structure NetC(K:W.Frag)(C:Addr):Prop where
 cl:Cls K C
 ends:VF K C "ends"
 rooms:VF K C "rooms"
 leav:VF K C "leaving"
 laid:VF K C "laid"
section
variable {tb:TE}{N:Q8}
def Q9.net(S:Q9 K H0 F ρ σ H)(e:zg ρ i<|zo v<|Zj P w C N):
 ∃a dx el r l d xs ys as,v=.ref a/\σ[i]?=some (some<|.ref a)/\NetOk P w C N F H a dx el r l d xs ys as/\(∀b∈a::dx::el::r::l::d::as,H0 b=none/\F b=none/\H b≠none)/\
  ∀(m:Hp) (s:Q8) (j:List (List Key×V)) (g:List (KK×Addr×V)) (f:Qg),Q7 F m->(∀b,b∉a::dx::el::r::l::d::as->H b≠none->m b=H b)->(∀b,H b≠none->m b≠none)->
   NetOk P w C s F m a dx el r l d j g f->(∀b∈f,b∈as\/(H b=none/\H0 b=none))->Q9 K H0 F (ρ.set i<|zo v<|Zj P w C s) σ m:=by
 obtain⟨X,p,⟨a,dx,el,r,l,d,xs,ys,as,rfl,rfl,A⟩,B,y⟩:=S.writeOwn e;refine⟨a,dx,el,r,l,d,xs,ys,as,rfl,X,A,B,λm s j g f W R M E D=>y m _ _ W R M ⟨a,dx,el,r,l,d,j,g,f,rfl,rfl,E⟩ λb n=>?_⟩;simp only[Xe]at n ⊢;rcases n with h|h|h|h|h|h|n
 .exact .inl (.inl h)
 .exact .inl (.inr<|.inl h)
 .exact .inl (.inr<|.inr<|.inl h)
 .exact .inl (.inr<|.inr<|.inr<|.inl h)
 .exact .inl (.inr<|.inr<|.inr<|.inr<|.inl h)
 .exact .inl (.inr<|.inr<|.inr<|.inr<|.inr<|.inl h)
 .rcases D b n with z|z
  .exact .inl (.inr<|.inr<|.inr<|.inr<|.inr<|.inr z)
  .exact .inr z
def LeavD.other{b:Addr}{xs:List (List Key×V)}(h:LeavD F H xs ls as)(n:b∉as):LeavD F (upd H b o) xs ls as:=
 h.mono (Q7.refl _) (λa f=>(h.mem a f).1) (λa f=>Qu λz=>n<|z▸f)
def NetOk.setRooms{r:Addr}{xs:List (List Key×V)}{ys:List (KK×Addr×V)}(h:NetOk P w C N F H a dx el r l d xs ys as){ns:Ql}(y:Qx F za (ns.map PyData.int)):
 NetOk P w C { N with rooms:=ns } F (upd H r<|.lst za) a dx el r l d xs ys as:=by
 obtain⟨f,⟨v,s⟩,⟨j,i⟩,⟨R,E,M,K⟩,⟨g,k,q,o⟩,⟨p,n,m⟩,⟨d1,X,W⟩⟩:=h;have b:=f;simp only[Xv,Xe,not_or]at b;obtain⟨⟨x,u,e,_⟩,⟨t,c,_⟩,⟨Y,_⟩,⟨D,B,A⟩,_⟩:=b;exact⟨f,⟨v,by rw[Qu e];exact s⟩,⟨j,by rw[Qu c];exact i⟩,⟨R,E,by rw[Qu Y];exact M,K⟩,⟨g,za,QG,y⟩,⟨p,by rw[Qu<|Ne.symm D];exact n,m.other A⟩,⟨d1,by rw[Qu<|Ne.symm B];exact X,W⟩⟩
def Yb : ∀b,H b≠none->upd H a o b≠none:=λb f=>by
 by_cases z:b=a
 .subst z;rw[QG];rintro⟨⟩
 .rw[Qu z];exact f
def TC{f:Int->Int->Int}(c:NetC K C)(e:zg ρ i<|zo v<|Zj P w C N){m n:Int}(hi:Qs K tb ρ (.int k))(h0:0<=k)(J:N.rooms[k.toNat]?=some m)(h:Qs K te ρ (.int n))
(hn:D.nx (ρ.set i<|zo v<|Zj P w C { N with rooms:=N.rooms.set k.toNat (f m n) })):Q3 K (BZ (Vf K (Q5 i) "rooms") tb te (Ma K) (ipI f) Uj) ρ D:=λF0 H0 F σ H E x S C'=>by
 obtain⟨a,dx,el,r,l,d,xs,ys,as,rfl,e1,X,_⟩:=S.net e;refine⟨_,e1,a,C,dx,_,.ref r,rfl,X.ins.2,c.cl,c.rooms,rfl,hi H0 F σ H _ S λF1 H1 y g r1=>?_⟩;cases r1;obtain⟨_,U,r2,Z⟩:=X.rooms;have Y:(N.rooms.map PyData.int)[k.toNat]?=some (.int m):=by rw[Xs,J];rfl
 obtain⟨z,Q,O⟩:=(Z.mono g.ff).get Y;refine⟨r,U,k,z,rfl,rfl,SqL.of<|g.hh _ _ r2,h0,Q,h H0 F1 σ H1 _ (S.ext g) λL H2 u B W=>?_⟩;cases W;cases O;refine⟨m,n,rfl,rfl,?_⟩;obtain⟨a',dx',el',t,l',d',R,M,q,ea,g1,j,hp,T⟩:=(S.ext<|g.trans B).net e;cases ea;have s:=j.ins.2.symm.trans ((g.trans B).hh _ _ X.ins.2);injection s with s;injection s with _ _ A;simp only[List.cons.injEq,Prod.mk.injEq,true_and,and_true,V.ref.injEq]at A;obtain⟨rfl,rfl,rfl,rfl⟩:=A;obtain⟨q1,G,q2,I⟩:=j.rooms;have hlt:k.toNat<N.rooms.length:=(Xf.mp J).1;have hr:Qx L (G.set k.toNat<|.int<|f m n) ((N.rooms.set k.toNat<|f m n).map PyData.int):=by
  rw[GK];exact I.set (.int _) _
 refine⟨t,G,k,k.toNat,rfl,rfl,q2,?_,?_⟩
 .rw[I.length,Xl];unfold ixN;rw[Xd h0,Xd<|by lia]
 .have p:=hp t (by simp);exact C'.nx L σ _ _ ((x.trans<|g.trans B).wr p.1 p.2.1) (T _ { N with rooms:=N.rooms.set k.toNat (f m n) } R M q ((S.ext<|g.trans B).sub.upd p.2.1) (λb o _=>Qu λz=>o<|by rw[z];simp) Yb (j.setRooms hr) λb o=>.inl o) hn
end
section
variable {N:Q8}
def NetOk.same{r:Addr}{xs:List (List Key×V)}{ys:List (KK×Addr×V)}
(n:NetOk P w C N F H a dx el r l d xs ys as)(b:NetOk P w C N' F' H' a dx' el' r' l' d' xs' ys' as')(s:H' a=H a):dx'=dx/\el'=el/\r'=r/\l'=l/\d'=d:=by
 have h:=b.ins.2;rw[s,n.ins.2]at h;injection h with h;injection h with _ p f;simp only[List.cons.injEq,Prod.mk.injEq,true_and,and_true,V.ref.injEq]at f;obtain⟨m,j,i,g⟩:=f;exact⟨p.symm,m.symm,j.symm,i.symm,g.symm⟩
def NetOk.setEnds{r:Addr}{xs:List (List Key×V)}{ys:List (KK×Addr×V)}(m:NetOk P w C N F H a dx el r l d xs ys as){ns:List (List Key)}(D:Qx F za (ns.map QW)):
 NetOk P w C { N with ends:=ns } F (upd H el<|.lst za) a dx el r l d xs ys as:=by
 obtain⟨f,⟨B,A⟩,⟨p,n⟩,⟨E,k,q,o⟩,⟨j,g,i,h⟩,⟨y,v,s⟩,⟨d1,M,K⟩⟩:=m;have b:=f;simp only[Xv,Xe,not_or]at b;obtain⟨⟨x,e,u,_⟩,⟨c,t,_⟩,⟨Y,X,W,R⟩,_⟩:=b;exact⟨f,⟨B,by rw[Qu e];exact A⟩,⟨p,by rw[Qu c];exact n⟩,⟨E,za,QG,D⟩,⟨j,g,by rw[Qu<|Ne.symm Y];exact i,h⟩,⟨y,by rw[Qu<|Ne.symm X];exact v,s.other R⟩,⟨d1,by rw[Qu<|Ne.symm W];exact M,K⟩⟩
def ZmS(c:NetC K C)(e:zg ρ i<|zo v<|Zj P w C N){n:Int}(h:Qs K te ρ (.int n))(Q:N.rooms.length<1000)
(hn:D.nx (ρ.set i<|zo v<|Zj P w C { N with rooms:=N.rooms++[n] })):Q3 K (VC<|tBM K "list" Yl (Vf K (Q5 i) "rooms")<|QF te QM) ρ D:=λF0 H0 F σ H E x S J=>by
 obtain⟨a,dx,U,r,l,d,xs,ys,as,rfl,t,j,_⟩:=S.net e;refine⟨_,t,a,C,dx,_,.ref r,rfl,j.ins.2,c.cl,c.rooms,rfl,.inl ⟨rfl,_,SqL.of j.rooms.2.choose_spec.1⟩,h H0 F σ H _ S λI H1 u m W=>?_⟩;cases W;obtain⟨a',G,o,B,O,Z,s,p,A,q,T,f,k,R⟩:=(S.ext m).net e;cases q;obtain⟨rfl,rfl,rfl,rfl,rfl⟩:=j.same f ((m.hh _ _ j.ins.2).trans j.ins.2.symm);obtain⟨L,X,Y,M⟩:=f.rooms;have g:=k B (by simp);refine⟨B,X,.int n,rfl,rfl,Y,by rw[M.length,Xl];exact Vp<|by lia,?_⟩;exact J.nx I σ _ _ ((x.trans m).wr g.1 g.2.1) (R _ { N with rooms:=N.rooms++[n] } s p A ((S.ext m).sub.upd g.2.1) (λb y _=>Qu λz=>y<|by rw[z];simp) Yb (f.setRooms<|by rw[XF];exact M.snoc<|.int n) λb y=>.inl y) hn
def Zm8(c:NetC K C)(e:zg ρ i<|zo v<|Zj P w C N){n:List Key}(h:Qs K te ρ (QW n))(T:N.ends.length<1000)
(hn:D.nx (ρ.set i<|zo v<|Zj P w C { N with ends:=N.ends++[n] })):Q3 K (VC<|tBM K "list" Yl (Vf K (Q5 i) "ends")<|QF te QM) ρ D:=λF0 H0 F σ H E x S J=>by
 obtain⟨a,dx,o,r,l,d,xs,ys,as,rfl,t,j,_⟩:=S.net e;refine⟨_,t,a,C,dx,_,.ref o,rfl,j.ins.2,c.cl,c.ends,rfl,.inl ⟨rfl,_,SqL.of j.ends.2.choose_spec.1⟩,h H0 F σ H _ S λI H1 u p W=>?_⟩;obtain⟨a',G,m,L,Q,Z,y,s,B,q,U,f,k,R⟩:=(S.ext p).net e;cases q;obtain⟨rfl,rfl,rfl,rfl,rfl⟩:=j.same f ((p.hh _ _ j.ins.2).trans j.ins.2.symm);obtain⟨O,X,Y,M⟩:=f.ends;have g:=k m (by simp);refine⟨m,X,u,rfl,rfl,Y,by rw[M.length,Xl];exact Vp<|by lia,?_⟩;exact J.nx I σ _ _ ((x.trans p).wr g.1 g.2.1) (R _ { N with ends:=N.ends++[n] } y s B ((S.ext p).sub.upd g.2.1) (λb A _=>Qu λz=>A<|by rw[z];simp) Yb (f.setEnds<|by rw[XF];exact M.snoc W) λb A=>.inl A) hn
def T6(c:NetC K C)(e:zg ρ i<|zo v<|Zj P w C N):Qs K (tCB (Ud K)<|QF (Vf K (Q5 i) "ends") QM) ρ (.int (N.ends.length:Int)):=λH0 F σ H Q S q=>by
 obtain⟨a,dx,g,r,l,d,xs,ys,n,rfl,m,b,_⟩:=S.net e;obtain⟨_,f,j,h⟩:=b.ends;refine⟨_,m,a,C,dx,_,.ref g,rfl,b.ins.2,c.cl,c.ends,rfl,g,f,rfl,.inl<|SqL.of j,?_⟩;have:f.length=N.ends.length:=by rw[h.length,Xl]
 rw[this];exact q F H _ (Q0.refl S.sub) (.int _)
end
def ZU(ls:List (KK×Int))(k:KK):Option Int:=(ls.find? λx=>decide (x.1=k)).map (·.2)
def Y6(ls:List (KK×Int))(k:KK)(n:Int):List (KK×Int):=if (ZU ls k).isSome=true then ls.map (λx=>if x.1=k then (x.1,n) else x) else ls++[(k,n)]
theorem LaidD.val{F:Hp}(k:KK):∀{xs:List (KK×Addr×V)} {ls:List (KK×Int)},LaidD F xs ls->Yp xs k=(ZU ls k).map V.int
 |_,_,.nil=>rfl
 |_,_,.cons (k:=k') h t=>by
  by_cases e:k'=k
  .simp[Yp,ZU,Xy,e]
  .have:=t.val k;simpa [Yp,ZU,Xy,e] using this
theorem LaidD.length{F:Hp}:∀{xs:List (KK×Addr×V)} {ls:List (KK×Int)},LaidD F xs ls->xs.length=ls.length
 |_,_,.nil=>rfl
 |_,_,.cons h t=>by simp[t.length]
theorem LaidD.repl{F:Hp}(k:KK)(n:Int):∀{xs:List (KK×Addr×V)} {ls:List (KK×Int)},LaidD F xs ls->LaidD F (xs.map λx=>if x.1=k then (x.1,x.2.1,.int n) else x) (ls.map λx=>if x.1=k then (x.1,n) else x)
 |_,_,.nil=>.nil
 |_,_,.cons (k:=k') h t=>by
  rw[Xw,Xw];by_cases e:k'=k
  .simp only[e,if_true];exact .cons (e▸h) (t.repl k n)
  .simp only[e,if_false];exact .cons h (t.repl k n)
theorem LaidD.snoc{F:Hp}{k:KK}{b:Addr}(n:Int)(a:Vt F k b):∀{xs:List (KK×Addr×V)} {ls:List (KK×Int)},LaidD F xs ls->LaidD F (xs++[(k,b,.int n)]) (ls++[(k,n)])
 |_,_,.nil=>.cons a .nil
 |_,_,.cons h t=>.cons h (t.snoc n a)
def LaidD.put{b:Addr}(n:Int)(a:Vt F k b){xs:List (KK×Addr×V)}(t:LaidD F xs ls):LaidD F (Jl xs k b<|.int n) (Y6 ls k n):=by
 unfold Jl Y6;rw[t.val k,JN];split
 .exact t.repl k n
 .exact t.snoc n a
def Ku{k1 k2:List Key}(r:Rep F y (.tuple [QW k1,QW k2])):∃b,y=.ref b/\Vt F (k1,k2) b:=by
 cases r with
 |tup h a=>
  cases a with
  |cons g a=>
   cases a with
   |cons f a=>
    cases a;obtain⟨p,rfl,j⟩:=WA g;obtain⟨q,rfl,i⟩:=WA f;exact⟨_,rfl,p,q,h,j,i⟩
section
variable {ty:TE}{N:Q8}{k1 k2:List Key}
def NetOk.setLaid{r:Addr}{xs:List (List Key×V)}{ys:List (KK×Addr×V)}(m:NetOk P w C N F H a dx el r l d xs ys as)(D:LaidD F ys' ls):
 NetOk P w C { N with laid:=ls } F (upd H d<|pdO P w d ys') a dx el r l d xs ys' as:=by
 obtain⟨f,⟨B,A⟩,⟨p,n⟩,⟨Y,R,X,W⟩,⟨j,g,i,h⟩,⟨y,v,s⟩,⟨d1,x,u⟩⟩:=m;have b:=f;simp only[Xv,Xe,not_or]at b;obtain⟨⟨U,T,S,Q,k,_⟩,⟨O,L,J,e,_⟩,⟨I,G,c,z⟩,⟨t,K,q⟩,⟨E,o⟩,M,_⟩:=b;exact⟨f,⟨B,by rw[Qu k];exact A⟩,⟨p,by rw[Qu e];exact n⟩,⟨Y,R,by rw[Qu c];exact X,W⟩,⟨j,g,by rw[Qu K];exact i,h⟩,⟨y,by rw[Qu E];exact v,s.other M⟩,⟨d1,QG,D⟩⟩
def OY(c:NetC K C)(e:zg ρ i<|zo v<|Zj P w C N){n:Int}(t:Qs K tv ρ (.int n))(q:Qs K ty ρ (.tuple [QW k1,QW k2]))(hl:N.laid.length<1000)
(hn:D.nx (ρ.set i<|zo v<|Zj P w C { N with laid:=Y6 N.laid (k1,k2) n })):Q3 K (R0 P w (Vf K (Q5 i) "laid") ty tv) ρ D:=λF0 H0 F σ H E x S C'=>
 t H0 F σ H _ S λF1 Z u j o=>by
  cases o;obtain⟨a,dx,el,r,l,d,xs,ys,as,rfl,O,m,_⟩:=(S.ext j).net e;refine⟨_,O,a,C,dx,_,.ref d,rfl,m.ins.2,c.cl,c.laid,rfl,q H0 F1 σ Z _ (S.ext j) λF2 H2 y B k=>?_⟩;have p:=S.ext (j.trans B);obtain⟨a',Q,J,r',l',X,A,s,R,L,g1,f,G,Y⟩:=p.net e;cases L;obtain⟨rfl,rfl,rfl,rfl,rfl⟩:=m.same f ((B.hh _ _ m.ins.2).trans m.ins.2.symm);obtain⟨b,rfl,W⟩:=Ku k;obtain⟨d1,T,M⟩:=f.laid;refine⟨X,b,s,(k1,k2),rfl,rfl,T,M.at p.sub,W.mono λc' z I=>p.sub _ _ I,by rw[M.length];exact Vp<|by lia,?_⟩;have g:=G X (by simp);exact C'.nx F2 σ _ _ ((x.trans<|j.trans B).wr g.1 g.2.1) (Y _ { N with laid:=Y6 N.laid (k1,k2) n } A _ R (p.sub.upd g.2.1) (λU h _=>Qu λz=>h<|by rw[z];simp) Yb (f.setLaid<|M.put n W) λU h=>.inl h) hn
end
def QR(ls:List (List Key×Ql))(k:List Key):Option (Ql):=(ls.find? λx=>decide (x.1=k)).map (·.2)
noncomputable def VP:List (List Key×Ql)->List Key->Int->List (List Key×Ql)
 |[],_,_=>[]
 |(a,b)::r,k,n=>if a=k then (a,b++[n])::r else (a,b)::VP r k n
theorem LeavD.val{F H:Hp}(k:List Key):∀{xs:List (List Key×V)} {ls:List (List Key×Ql)} {as:Qg},LeavD F H xs ls as->(Z4 xs k=none/\QR ls k=none) \/
 ∃a ns,Z4 xs k=some (.ref a)/\QR ls k=some ns/\a∈as/\Vz F H a (ns.map PyData.int)
 |_,_,_,.nil=>.inl ⟨rfl,rfl⟩
 |_,_,_,.cons (k:=k') (a:=a) (ns:=ns) (xs:=xs) (ls:=ls) h t=>by
  by_cases e:k'=k
  .exact .inr ⟨a,ns,YT e,by simp[QR,Xy,e],Xc,h⟩
  .have q:QR ((k',ns)::ls) k=QR ls k:=by simp[QR,Xy,e]
   rw[YU (p:=(k',V.ref a)) e,q];rcases t.val k with z|⟨m,b,j,i,g,f⟩
   .exact .inl z
   .exact .inr ⟨m,b,j,i,Xi _ g,f⟩
theorem LeavD.app{F H:Hp}(k:List Key){a:Addr}{n:Int}{za:List V}:∀{xs:List (List Key×V)} {ls:List (List Key×Ql)} {as:Qg} {ns:Ql},LeavD F H xs ls as->as.Nodup->Z4 xs k=some (.ref a)->QR ls k=some ns->
 Qx F za ((ns++[n]).map PyData.int)->LeavD F (upd H a<|.lst za) xs (VP ls k n) as
 |_,_,_,_,.nil,_,h,_,_=>by cases h
 |_,_,_,ns,.cons (k:=k') (a:=a') (ns:=ns') (xs:=xs) (ls:=ls) (as:=as) h t,w,b,f,m=>by
  obtain⟨j,y⟩:=Xv.mp w;unfold VP;by_cases e:k'=k
  .rw[YT (p:=(k',V.ref a')) e]at b;have q:QR ((k',ns')::ls) k=some ns':=by simp[QR,Xy,e]
   rw[q]at f;cases b;cases f;rw[Xd e];exact .cons ⟨h.1,za,QG,m⟩ (t.other j)
  .rw[YU (p:=(k',V.ref a')) e]at b;have q:QR ((k',ns')::ls) k=QR ls k:=by simp[QR,Xy,e]
   rw[q]at f;rw[Xb e];have A:a∈as:=by
    rcases t.val k with z|⟨M,s,i,K,r,E⟩
    .rw[b]at z;cases z.1
    .rw[b]at i;cases i;exact r
   refine .cons ?_ (t.app k y b f m);obtain⟨D,g,C,B⟩:=h;have v:a'≠a:=λz=>j (by rw[z];exact A)
   exact⟨D,g,by rw[Qu v];exact C,B⟩
theorem LeavD.snoc{F H:Hp}(k:List Key){a:Addr}(o:Vz F H a []):∀{xs:List (List Key×V)} {ls:List (List Key×Ql)} {as:Qg},LeavD F H xs ls as->LeavD F H (xs++[(k,.ref a)]) (ls++[(k,[])]) (as++[a])
 |_,_,_,.nil=>.cons o .nil
 |_,_,_,.cons h t=>.cons h (t.snoc k o)
theorem LeavD.length{F H:Hp}:∀{xs:List (List Key×V)} {ls:List (List Key×Ql)} {as:Qg},LeavD F H xs ls as->xs.length=ls.length
 |_,_,_,.nil=>rfl
 |_,_,_,.cons h t=>by simp[t.length]
def VO(ls:List (List Key×Ql))(k:List Key):List (List Key×Ql):=if (QR ls k).isSome=true then ls else ls++[(k,[])]
section
variable {N:Q8}{k:List Key}
def NetOk.appLeav{r:Addr}{xs:List (List Key×V)}{ys:List (KK×Addr×V)}(v:NetOk P w C N F H a dx el r l d xs ys as){b:Addr}{n:Int}
(R:Z4 xs k=some (.ref b))(he:QR N.leav k=some ns)(X:b∈as)(W:Qx F za ((ns++[n]).map PyData.int)):NetOk P w C { N with leav:=VP N.leav k n } F (upd H b<|.lst za) a dx el r l d xs ys as:=by
 obtain⟨i,⟨M,K⟩,⟨A,y⟩,⟨G,q,u,t⟩,⟨s,j,p,m⟩,⟨E,D,B⟩,⟨d1,J,I⟩⟩:=v;have g:=i;simp only[Xv,Xe,not_or]at g;obtain⟨⟨a1,a2,a3,a4,a5,Q⟩,⟨b1,b2,b3,b4,O⟩,⟨c1,c2,Z,L⟩,⟨U,T,c⟩,⟨S,Y⟩,o,e⟩:=g;have f:∀{x:Addr},x∉as->x≠b:=λh z=>h (by rw[z];exact X)
 exact⟨i,⟨M,by rw[Qu<|f Q];exact K⟩,⟨A,by rw[Qu<|f O];exact y⟩,⟨G,q,by rw[Qu<|f L];exact u,t⟩,⟨s,j,by rw[Qu<|f c];exact p,m⟩,⟨E,by rw[Qu<|f Y];exact D,B.app k e R he W⟩,⟨d1,by rw[Qu<|f o];exact J,I⟩⟩
end
section
variable {ty:TE}{N:Q8}{k:List Key}
def Pd(c:NetC K C)(e:zg ρ i<|zo v<|Zj P w C N){n:Int}(h:Qs K te ρ (.int n))(he:QR N.leav k=some ns)(hz:ns.length<1000)
(hn:D.nx (ρ.set i<|zo v<|Zj P w C { N with leav:=VP N.leav k n })){E:Ends}(x:Q0 F0 H0 F H)(S:Q9 K H0 F ρ σ H)(C':Cnv K F0 H0 D E)
{r:Addr}{xs:List (List Key×V)}{ys:List (KK×Addr×V)}(m:NetOk P w C N F H a dx el r l d xs ys as)(Z:v=.ref a)(s:Z4 xs k=some (.ref al)):
 tyV K "list" (.ref al) H/\QF te QM σ H λvs H2=>Yl (.ref al) vs H2 λ_ H3=>E.nx σ H3:=by
 have j:∀{F H:Hp} {a dx el r l d:Addr} {xs:List (List Key×V)} {ys:List (KK×Addr×V)} {as:Qg},NetOk P w C N F H a dx el r l d xs ys as->Z4 xs k=some (.ref al)->al∈as/\Vz F H al (ns.map PyData.int):=λm s=>by
  rcases m.leav.2.2.val k with z|⟨a2,Q,o,Y,I,G⟩
  .rw[s]at z;cases z.1
  .rw[s]at o;rw[he]at Y;cases o;cases Y;exact⟨I,G⟩
 obtain⟨_,_,za,R,_⟩:=j m s;refine⟨.inl ⟨rfl,_,SqL.of R⟩,h H0 F σ H _ S λF1 H1 u y O=>?_⟩;cases O;obtain⟨a',dx',el',r',l',d',J,B,X,t,g1,g,U,L⟩:=(S.ext y).net e;rw[Z]at t;cases t;obtain⟨rfl,rfl,rfl,rfl,rfl⟩:=m.same g ((y.hh _ _ m.ins.2).trans m.ins.2.symm);have f:=g.leav.2.1.symm.trans (y.hh _ _ m.leav.2.1);injection f with f;injection f with f;subst f;obtain⟨M,m2,A,T,q⟩:=j g s;have p:=U al (by simp[M]);refine⟨al,A,.int n,rfl,rfl,T,by rw[q.length,Xl];exact Vp<|by lia,?_⟩;exact C'.nx F1 σ _ _ ((x.trans y).wr p.1 p.2.1) (L _ { N with leav:=VP N.leav k n } _ B X ((S.ext y).sub.upd p.2.1) (λb W _=>Qu λz=>W<|by rw[z];simp[M]) Yb
  (g.appLeav s he M<|by rw[XF];exact q.snoc<|.int n) (λb W=>.inl W)) hn
def Tt(ls:List (List Key×Ql))(h:QR ls k=none):QR (ls++[(k,[])]) k=some []:=by
 induction ls with
 |nil=>simp[QR]
 |cons x ls g=>
  obtain⟨a,b⟩:=x
  by_cases e:a=k
  .simp[QR,Xy,e]at h
  .have q:QR ((a,b)::ls) k=QR ls k:=by simp[QR,Xy,e]
   rw[q]at h;have f:QR ((a,b)::ls++[(k,[])]) k=QR (ls++[(k,[])]) k:=by simp[QR,Xy,e]
   rw[f];exact g h
def Zm2(c:NetC K C)(e:zg ρ i<|zo v<|Zj P w C N){n:Int}(hy:Qs K ty ρ (QW k))(hl:N.leav.length<1000)(hz:∀ns,QR (VO N.leav k) k=some ns->ns.length<1000)
(h:Qs K te (ρ.set i<|zo v<|Zj P w C { N with leav:=VO N.leav k }) (.int n))(hn:D.nx (ρ.set i<|zo v<|Zj P w C { N with leav:=VP (VO N.leav k) k n })):
 Q3 K (VC<|tBM K "list" Yl (S9 (Vf K (Q5 i) "leaving") ty<|Uc QM)<|QF te QM) ρ D:=λF0 H0 F σ H E x S C'=>by
 obtain⟨a,dx,el,r,l,d,xs,ys,as,rfl,e1,ok,hp0,_⟩:=S.net e;refine⟨_,e1,a,C,dx,_,.ref l,rfl,ok.ins.2,c.cl,c.leav,rfl,l,rfl,.inr ⟨xs,Rd.of ok.leav.2.1⟩,hy H0 F σ H _ S λZ G y x1 r1=>⟨XQ _,λp Y=>?_⟩⟩;have U:=S.ext x1;have x2:Q0 Z G Z (upd G p<|.lst []):=Q0.own U.sub Y;obtain⟨a',s,m,J,A,T,f,X,g,ea,g1,R,hp',wr⟩:=U.net e;cases ea;obtain⟨rfl,rfl,rfl,rfl,rfl⟩:=ok.same R ((x1.hh _ _ ok.ins.2).trans ok.ins.2.symm);have hlt:i<ρ.length:=(Xf.mp e).1;obtain⟨b,rfl,hb⟩:=WA r1;obtain⟨l1,l2,l3⟩:=R.leav;have W:∀q∈a::s::m::J::A::T::g,q≠p:=λq hq z=>by rw[z]at hq;exact(hp' p hq).2.2 Y
 have lp:A≠p:=W A (by simp);have bp:b≠p:=λz=>by rw[z]at hb;rw[U.sub _ _ hb]at Y;cases Y
 have h0p:H0 p=none:=(x.trans x1).hh.free Y;refine⟨f,k,b,rfl,by rw[Qu lp];exact l2,by rw[Qu bp];exact U.sub _ _ hb,by rw[l3.length];exact Vp<|by lia,λv0 B=>?_,λB=>?_⟩
 .rcases l3.val k with z|⟨al,ns,z1,o,z3,z4⟩
  .rw[B]at z;cases z.1
  .rw[B]at z1;cases z1;have O:VO N.leav k=N.leav:=by unfold VO;rw[o];rfl
   rw[O]at h hn hz;have S3:=U.ext x2;have M:NetOk P w C N Z (upd G p<|.lst []) a s m J A T f X g:=by
    obtain⟨q0,q1,q2,q3,q4,q5,L⟩:=R;obtain⟨Q,ex,e2,e3⟩:=q3;obtain⟨I,rx,r2,r3⟩:=q4;exact⟨q0,⟨q1.1,by rw[Qu<|W a<|by simp];exact q1.2⟩,⟨q2.1,by rw[Qu<|W s<|by simp];exact q2.2⟩,⟨Q,ex,by rw[Qu<|W m<|by simp];exact e2,e3⟩,⟨I,rx,by rw[Qu<|W J<|by simp];exact r2,r3⟩,
     ⟨q5.1,by rw[Qu lp];exact q5.2.1,q5.2.2.other λz=>W p (by simp[z]) rfl⟩,⟨L.1,by rw[Qu<|W T<|by simp];exact L.2.1,L.2.2⟩⟩
   have S4:Q9 K H0 Z (ρ.set i<|zo (.ref a)<|Zj P w C N) σ (upd G p<|.lst []):=wr _ N f X g S3.sub (λb' _ j=>Qu λz=>j<|by rw[z];exact Y) Yb M (λb' j=>.inl j);exact Pd (N:=N) c (Xm hlt) h o (hz ns o) (by rw[List.set_set];exact hn) (x.trans<|x1.trans x2) S4 C' M rfl B
 .have o:QR N.leav k=none:=by
   rcases l3.val k with z|⟨al,ns,z1,o,z3,z4⟩
   .exact z.2
   .rw[B]at z1;cases z1
  have O:VO N.leav k=N.leav++[(k,[])]:=by unfold VO;rw[o];rfl
  rw[O]at h hn hz;have fp:Z p=none:=U.sub.free Y;have M:NetOk P w C { N with leav:=N.leav++[(k,[])] } Z (upd (upd G p<|.lst []) A<|.dT<|f++[(k,.ref p)]) a s m J A T (f++[(k,.ref p)]) X (g++[p]):=by
   have ok2:=R;obtain⟨q0,q1,q2,q3,q4,q5,L⟩:=R;obtain⟨Q,ex,e2,e3⟩:=q3;obtain⟨I,rx,r2,r3⟩:=q4;have nd':=q0;simp only[Xv,Xe,not_or]at nd';obtain⟨⟨a1,a2,a3,a4,a5,a6⟩,⟨b1,b2,b3,b4,b5⟩,⟨c1,c2,c3,c4⟩,⟨g1',g2,g3⟩,⟨h1,h2⟩,f1,f2⟩:=nd';have up:∀{q:Addr},q∈a::s::m::J::A::T::g->q≠A->upd (upd G p<|.lst []) A (.dT<|f++[(k,.ref p)]) q=G q:=λhq ne=>by rw[Qu ne,Qu<|W _ hq]
   refine⟨?_,⟨q1.1,by rw[up (by simp) a4];exact q1.2⟩,⟨q2.1,by rw[up (by simp) b3];exact q2.2⟩,⟨Q,ex,by rw[up (by simp) c2];exact e2,e3⟩,⟨I,rx,by rw[up (by simp) g1'];exact r2,r3⟩,⟨l1,QG,?_⟩,⟨L.1,by rw[up (by simp)<|Ne.symm h1];exact L.2.1,L.2.2⟩⟩
   .have:(a::s::m::J::A::T::(g++[p]))=(a::s::m::J::A::T::g)++[p]:=by simp
    rw[this,UN];refine⟨q0,by simp,λu hu t ht=>?_⟩;cases Xh.mp ht;exact W u hu
   .refine LeavD.snoc k ⟨fp,[],by rw[Qu<|Ne.symm lp,QG],.nil⟩ ?_;exact(l3.other λz=>W p (by simp[z]) rfl).other h2
  have S4:Q9 K H0 Z (ρ.set i<|zo (.ref a)<|Zj P w C { N with leav:=N.leav++[(k,[])] }) σ (upd (upd G p<|.lst []) A<|.dT<|f++[(k,.ref p)]):=
   wr _ _ _ X (g++[p]) ((U.sub.upd fp).upd l1) (λb' hb1 hb2=>by rw[Qu (λz=>hb1<|by rw[z];simp),Qu λz=>hb2<|by rw[z];exact Y]) (λb' j=>Yb b'<|Yb b' j) M (λb' j=>by
    rcases XD.mp j with z|z
    .exact .inl z
    .cases Xh.mp z;exact .inr ⟨Y,h0p⟩)
  have hl0:=hp' A (by simp);exact Pd (N:={ N with leav:=N.leav++[(k,[])] }) c (Xm hlt) h (Tt _ o) (hz []<|Tt _ o) (by rw[List.set_set];exact hn) ((x.trans<|x1.trans x2).wr hl0.1 hl0.2.1) S4 C' M rfl (by
   rw[T8 k k (.ref p) f B,Xd rfl])
end
structure KTup(K:W.Frag)(g:Addr)(x:Str):Prop where
 ex:∃(d:Qj) (t:Nat) (n:Nat) (sl:Array (Qf)),K.lookup g=some ⟨.type "tuple",d,.seq #[.str x t] n,sl⟩
def IQ{f:Shared}
(KX:K.In f.heap)(O:f.heap.Ns mainGlobals mg)(j:f.heap.Ns builtinsNs mb)(hbb:∀x:Str,x ≠ "__name__" -> mb x=bootBuiltins x)(Q:f.heap.NoLimit)(hg:f.gens=#[])
(c:f.heap.get? a=some { cls:=.type "list",data:=.seq vs.toArray })(hi:IntsAre vs ns)(hl:ns.length<=sizeLine)(hr:Room k callerA)(tS:KTup K gS "start")(tE:KTup K gE "end")
(F:∀base:Heap,K.In base->base.Ns mainGlobals mg->FnOk P w K mg base CX0 k fa fd [x] sp)(W:∀(s:Shared) (u:Value),BindsTo s fd ⟨[u],[]⟩ [(x,u)])
(hsp:∀H:Hp,SqL K H a (ns.map V.int)->H gS=some (.tup [.str "start"])->H gE=some (.tup [.str "end"])->sp [.ref a] H (λv _=>v=.bl true) λ_ _ _=>False):
 codeAny (model P w) callerA (.call (.ref fa) ⟨[.ref a],[]⟩) (λr E=>r=.ok (.ret<|.bool true)/\OldK f.heap E.heap/\E.os=f.os/\AllBare E.gens) f:=by
 have rv:=TB hi;have I:=hi.length;obtain⟨dS,kS,cS,slS,lS⟩:=tS.ex;obtain⟨dE,kE,cE,slE,lE⟩:=tE.ex;have X:=KX gS _ lS;have Y:=KX gE _ lE;have naS:gS≠a:=λz=>by
  rw[z,c]at X;injection X with t;injection t with R;injection R with l;exact Xz l (by decide)
 have naE:gE≠a:=λz=>by
  rw[z,c]at Y;injection Y with t;injection t with R;injection R with l;exact Xz l (by decide)
 have nSE:gE≠gS:=λz=>by
  rw[z,lS]at lE;injection lE with t;injection t with _ _ R _;injection R with l _;have z4:=X9 Array.toList l;simp only[List.cons.injEq,Value.str.injEq,and_true]at z4;exact Xz z4.1 (by decide)
 have M:∀g:Hp,LV g->SqL K g a (ns.map V.int)->HOk P w g f.heap->(∀b,g b≠none->b=a)->(g a≠none->K.lookup a=none)->
  codeAny (model P w) callerA (.call (.ref fa) ⟨[.ref a],[]⟩) (λr E=>r=.ok (.ret<|.bool true)/\OldK f.heap E.heap/\E.os=f.os/\AllBare E.gens) f:=by
  intro g hO hSq N hA hK;have fS:g gS=none:=by
   cases q:g gS with
   |none=>rfl
   |some u=>exact Xz (hA gS<|by rw[q];simp) naS
  have fE:g gE=none:=by
   cases q:g gE with
   |none=>rfl
   |some u=>exact Xz (hA gE<|by rw[q];simp) naE
  have i:∀{b:Addr} {o:Obj},f.heap.get? b=some o->g b=none->(WP f.heap g).get? b=some o:=λe n=>EJ e n
  have noA:∀{b:Addr} {o:Obj} {es:Array DictEntry} {T:Nat},f.heap.get? b=some o->o.data=.dict es T->g b=none:=λ{b o es T} e d=>by
   cases q:g b with
   |none=>rfl
   |some u=>
    have e':b=a:=hA b (by rw[q];simp);subst e';rw[c]at e;cases e;have d':Data.seq vs.toArray _=Data.dict es T:=d;cases d'
  have B:∀{b:Addr} {m:Str->Qf},f.heap.Ns b m->(WP f.heap g).Ns b m:=λ{b m} ⟨o,es,T,e,d,r⟩=>⟨o,es,T,i e<|noA e d,d,r⟩
  have S:K.In (WP f.heap g):=λb o e=>i (KX b o e) (by
   cases q:g b with
   |none=>rfl
   |some u=>
     have e':b=a:=hA b (by rw[q];simp);subst e';rw[hK<|by rw[q];simp]at e;cases e)
  have hM:Mod K mg (WP f.heap g):=⟨S,B O,⟨mb,B j,hbb⟩,let ⟨mc,y,p⟩:=Q;⟨mc,B y,p⟩⟩
  let H:Hp:=upd (upd g gS<|.tup [.str "start"]) gE (.tup [.str "end"])
  have C:H gS=some (.tup [.str "start"]):=by show upd _ _ _ gS=_;rw[Qu<|Ne.symm nSE,QG]
  have D:H gE=some (.tup [.str "end"]):=QG;have A:∀b,b≠gS->b≠gE->H b=g b:=λb y p=>by show upd _ _ _ b=_;rw[Qu p,Qu y]
  have sm:Q7 g H:=λb u e=>by
   rw[A b (λz=>by rw[z,fS]at e;cases e) λz=>by rw[z,fE]at e;cases e];exact e
  have l1:∀x:Str,[V.str x].length<=sizeLine:=λ_=>Y4 (Vp Wc)
  have J:HOk P w H f.heap:=λb u e=>by
   by_cases y:b=gS
   .subst y;rw[C]at e;cases e;exact⟨l1 _,[.str "start" kS],.cons ⟨kS,rfl⟩ .nil,⟨_,X,rfl,_,rfl⟩⟩
   .by_cases p:b=gE
    .subst p;rw[D]at e;cases e;exact⟨l1 _,[.str "end" kE],.cons ⟨kE,rfl⟩ .nil,⟨_,Y,rfl,_,rfl⟩⟩
    .rw[A b y p]at e;rcases hO b with z|⟨o,xs,z⟩
     .rw[z]at e;cases e
     .rw[z]at e;cases e;obtain⟨q1,q2⟩:=N b _ z;exact⟨q1,q2⟩
  have e0:Env0 P w K mg (WP f.heap g) callerA [] f H:=⟨rfl,hM,λb o e=>by
   obtain⟨e1,e2⟩:=Ao e;refine⟨e1,?_⟩
   by_cases y:b=gS
   .exact .inr ⟨_,by rw[y];exact C⟩
   .by_cases p:b=gE
    .exact .inr ⟨_,by rw[p];exact D⟩
    .exact .inl (by rw[A b y p];exact e2),Nat.le_of_eq<|IM _ _,trivial,λb j=>Xz (show b∈([]:Qg) from j)<|by simp,J,.of_eq hg⟩
  refine codeAny_mono ((F _ S<|B O).run callerA [] f H ⟨[.ref a],[]⟩ [.ref a] [.ref a] _ _ hr e0 (W f<|.ref a) (.cons rfl .nil) (hsp H (sm.seq hSq) C D)) λr E h=>?_
  cases r with
  |error e=>exact False.elim h
  |ok fl=>
   cases fl with
   |next=>exact False.elim h
   |brk=>exact False.elim h
   |cont=>exact False.elim h
   |ret u=>
    obtain⟨v,H',os,U,Z,L,r',q⟩:=h;have q':v=.bl true:=q;subst q';obtain rfl:u=Value.bool true:=r';refine⟨rfl,OldK.of_keep λb o e=>?_,os,U⟩
    by_cases y:b=gS
    .subst y;exact Z.tupo b _ o C e (by simp)
    .by_cases p:b=gE
     .subst p;exact Z.tupo b _ o D e (by simp)
     .rcases hO b with z|⟨ob,xs,z⟩
      .exact Z.keep b o e (by rw[A b y p];exact z) (by intro z;exact Xz (show b∈([]:Qg) from z)<|by simp) (by simp)
      .have R:=Z.frzs b ob _ (by rw[A b y p];exact z);obtain⟨e1,_⟩:=N b _ z;obtain⟨e2,_⟩:=L b _ R;rw[e]at e1;cases e1;exact e2
 cases hk:K.lookup a with
 |some o=>
  have e:=KX a o hk;rw[c]at e;cases e;refine M (λ_=>none) (λ_=>.inl rfl) (.inr ⟨_,vs.toArray,_,hk,rfl,rfl,rfl,by rw[Xu,I];exact hl,by simpa using rv⟩) (λb u z=>by have G:(none:Option HO)=some u:=z;cases G) (λb z=>Xz rfl z) λz=>Xz rfl z
 |none=>
  refine M (λb=>if b=a then some (.frz { cls:=.type "list",data:=.seq vs.toArray }<|.lst<|ns.map V.int) else none) (λb=>?_) (.inl<|.inr ⟨{ cls:=.type "list",data:=.seq vs.toArray },Xd rfl⟩) (λb u z=>?_) (λb z=>?_) λ_=>hk
  .by_cases j:b=a
   .exact .inr ⟨_,_,Xd j⟩
   .exact .inl (Xb j)
  .by_cases j:b=a
   .have G:=(Xd j).symm.trans z;cases G;subst j;exact⟨c,by rw[Xl];exact hl,vs,_,rv,c⟩
   .have G:=(Xb j).symm.trans z;cases G
  .by_cases j:b=a
   .exact j
   .exact Xz (Xb j) z
def Zp2{l:W.OpenLaw}{K:Params->W.Frag}
(hn:l.most=some 63)(v:d.params.defaults=[])(M:Room k callerA)
(c:∀(w:World) (h:Heap),YP w h->(K w.params).In h)
(F:∀(w:World) (mg:Str->Qf) (p:Addr) (h:Heap),(K w.params).In h->h.Ns mainGlobals mg->mg d.name=some (.ref p)->
  (∃m n,W.nsIn (K w.params) mainGlobals "START"=some (some<|.ref m)/\W.nsIn (K w.params) mainGlobals "END"=some (some<|.ref n)/\KTup (K w.params) m "start" /\ KTup (K w.params) n "end")/\
  ∃fd:FuncData,(∀(s:Shared) (u:Value),BindsTo s fd ⟨[u],[]⟩ [(x,u)])/\
   ∀base:Heap,(K w.params).In base->base.Ns mainGlobals mg->FnOk l.prog w (K w.params) mg base CX0 k p fd [x] (Mi<|K w.params)):
 W.WalkO q loose XP YP l.row.toRowW d [] (λf vs=>PySem.call f vs):=by
 refine Att.attach_callW hn v λw y S mg N p o L cd J a vs C G Y O Q R r j g b i P=>?_
 have A:=c w _ Y;obtain⟨⟨m,n,E,D,t1,B⟩,fd,X,t⟩:=F w mg p _ A G.T.g r;exact IQ A G.T.g G.T.b G.T.builtins G.T.nolimit P j g (X0 b<|by decide) M t1 B t X (λH e I z=>⟨a,C,rfl,.inr ⟨m,n,E,D,I,z⟩,⟨e,b,i⟩,λ_=>rfl⟩)
def Ka  {g:Addr}(a:W.nsIn K mainGlobals "START"=some (some<|.ref g)):Qs K (tC<|.ref g) ρ (QW [.inr "start"]):=λH0 F σ H Q S q=>by
 rcases S.kt with b|⟨j,m,b,i,f,h⟩<;>rw[b]at a<;>cases a
 exact q F H _ (Q0.refl S.sub) (.tup f<|.cons (.str _) .nil)
def Si  {g:Addr}(b:W.nsIn K mainGlobals "START"=some (some<|.ref g'))(a:W.nsIn K mainGlobals "END"=some (some<|.ref g)):Qs K (tC<|.ref g) ρ (QW [.inr "end"]):=λH0 F σ H Q S q=>by
 rcases S.kt with f|⟨m,n,f,i,j,h⟩
 .rw[f]at b;cases b
 .rw[i]at a;cases a;exact q F H _ (Q0.refl S.sub) (.tup h<|.cons (.str _) .nil)
def Hl(a:Room k A):A.units+6<cLine:=Du (Nat.add_le_add_left (by decide:6<=64) _) a.units
def Sq(f tv:TE):TE:=λσ H Q=>∀p,H p=none->f σ (upd H p<|.dT []) λx g=>tv σ g λy a=>∃k b,x=.ref b/\a p=some (.dT [])/\a b=some (.tup<|k.map kV)/\Q (.ref p) (upd a p<|.dT [(k,y)])
def Od(O:X.A.units+1<cLine)(R:PE X ke tk)(K:PE X ve tv):PE X (.Dict [some ke] [ve] pos) (Sq tk tv):=by
 intro Xa7 s σ H Q I q;have P:=I.hok.fresh (Xq s.heap.objs.size);have J:=I.laid (a:=s.heap.objs.size) (o:=.dT []) (h':=s.heap.push { cls:=.type "dict",data:=.dict #[] }) (t':=s.toks) (λ_ _ q=>Xg _ q) (Xq _) (P0 s.heap I.big);refine wpAny_Dict_any rfl rfl (by simp) (by show(1:Nat)<=15;decide) (pairTrees_cons_walk<|QB (R Xa7 _ σ _ _ J<|q _ P) ?_);rintro D v ⟨x,L,G,A,C⟩;refine QB (K Xa7 v σ L _ G C) ?_;rintro r N ⟨y,p,i,w,k,b,u,e,n,B⟩;refine pairTrees_nil_walk ?_;subst u;obtain rfl:D=Value.ref b:=A;obtain⟨z,W,xs,f,dd⟩:=DM i.hok e;have E:xs=[]:=by cases f;rfl
 subst E;unfold storeAll;rw[List.forIn_cons];refine Xa (Xa<|wpAny_dictSet_heap (hsz:=XQ _) (knd:=tupleKind (Vr X.prog X.w)) (show X.A.units<cLine by lia) (W5 i.hok n) dd λh' h M=>Xj ?_);obtain⟨j,es,F,m,t,l,d,_,Y⟩:=h;show wpAny _ _ (forIn [] PUnit.unit _) _ _ _;rw[List.forIn_nil];refine Xj ⟨.ref s.heap.objs.size,upd p s.heap.objs.size<|.dT [(k,y)],Bx (ob:=.dT [(k,y)]) i (by rw[e];exact True.intro) M ⟨j,m⟩ ⟨Y4<|Vp Wc,W,_,(show KT p [(k,y)] [(k,b,r)] from .cons ⟨rfl,n,w⟩ .nil).keeps λc ys g=>?_,j,es,F,m,t,l,d,Y⟩,rfl,B⟩;rw[Qu λz=>by subst z;rw[e]at g;cases g];exact g
def IG(w:Qs K tk ρ (QW k))(v:Qs K tv ρ d):EvX K (Sq tk tv) ρ (V6 [(k,d)]):=λH0 F σ H Q S q=>λp g=>by
 have h:Q0 F H F (upd H p<|.dT []):=Q0.own S.sub g;have f0:F p=none:=S.sub.free g;refine w H0 F σ _ _ (S.ext h) λM E x m s=>v H0 M σ E _ (S.ext<|h.trans m) λn D y j r=>?_;obtain⟨b,rfl,A⟩:=WA s;have X:=m.trans j;have i:D p=some (.dT []):=X.hh _ _ QG;have f:n p=none:=X.free f0 (by rw[QG];rintro⟨⟩);have C:=h.trans X;refine⟨k,b,rfl,i,X.fh _ _<|j.ff _ _ A,q n _ (.ref p) [p] (C.wr g f) (λa B=>by cases Xh.mp B;exact g) ⟨p,_,rfl,rfl,f,QG,.cons r .nil⟩⟩
inductive LeavZ(F:Hp):List (List Key×V)->List (List Key×Ql)->Prop
 |nil:LeavZ F [] []
 |cons {k:List Key}{a:Addr}{ns:Ql}{za:List V}{xs:List (List Key×V)}{ls:List (List Key×Ql)}:F a=some (.lst za)->Qx F za (ns.map PyData.int)->LeavZ F xs ls->LeavZ F ((k,.ref a)::xs) ((k,ns)::ls)
theorem LeavZ.mono{F a:Hp}(s:Q7 F a):∀{xs:List (List Key×V)} {ls:List (List Key×Ql)},LeavZ F xs ls->LeavZ a xs ls
 |_,_,.nil=>.nil
 |_,_,.cons h r t=>.cons (s _ _ h) (r.mono s) (t.mono s)
theorem LeavZ.val{F:Hp}(k:List Key):∀{xs:List (List Key×V)} {ls:List (List Key×Ql)},LeavZ F xs ls->(Z4 xs k=none/\QR ls k=none)\/∃a ns za,Z4 xs k=some (.ref a)/\QR ls k=some ns/\F a=some (.lst za)/\Qx F za (ns.map PyData.int)
 |_,_,.nil=>.inl ⟨rfl,rfl⟩
 |_,_,.cons (k:=k') (a:=a) (ns:=ns) (za:=za) (xs:=xs) (ls:=ls) h r t=>by
  by_cases e:k'=k
  .exact .inr ⟨a,ns,za,YT e,by simp[QR,Xy,e],h,r⟩
  .have q:QR ((k',ns)::ls) k=QR ls k:=by simp[QR,Xy,e]
   rw[YU (p:=(k',V.ref a)) e,q];exact t.val k
theorem LeavD.fz{F a H:Hp}(s:Q7 F a):∀{xs:List (List Key×V)} {ls:List (List Key×Ql)} {as:Qg},LeavD F H xs ls as->(∀b∈as,a b=H b)->LeavZ a xs ls
 |_,_,_,.nil,_=>.nil
 |_,_,_,.cons h t,f=>by
  obtain⟨m,xs,j,i⟩:=h;exact .cons (by rw[f _ Xc];exact j) (i.mono s) (t.fz s λb g=>f b<|Xi _ g)
structure NetFz(P:Program)(w:World)(C:Addr)(N:Q8)(F:Hp)(a dx e r l d:Addr)(xs:List (List Key×V))(ys:List (KK×Addr×V)):Prop where
 ins:F a=some (.ins C dx [("ends",.ref e),("rooms",.ref r),("leaving",.ref l),("laid",.ref d)])
 ends:∃ex,F e=some (.lst ex)/\Qx F ex (N.ends.map QW)
 rooms:∃rx,F r=some (.lst rx)/\Qx F rx (N.rooms.map PyData.int)
 leav:F l=some (.dT xs)/\LeavZ F xs N.leav
 laid:F d=some (pdO P w d ys)/\LaidD F ys N.laid
def NetFz.mono{r:Addr}{xs:List (List Key×V)}{ys:List (KK×Addr×V)}(s:Q7 F F')(h:NetFz P w C N F a dx e r l d xs ys):NetFz P w C N F' a dx e r l d xs ys:=by
 obtain⟨y,⟨A,v,p⟩,⟨b,n,m⟩,⟨j,i⟩,⟨g,f⟩⟩:=h;exact⟨s _ _ y,⟨A,s _ _ v,p.mono s⟩,⟨b,s _ _ n,m.mono s⟩,⟨s _ _ j,i.mono s⟩,⟨s _ _ g,f.mono s⟩⟩
def Ve(P:Program)(w:World)(C:Addr)(N:Q8):ZP where
 ok K F v := ∃a dx e r l d xs ys,v=.ref a/\NetFz P w C N F a dx e r l d xs ys
 mono:=by
  rintro K F b v s ⟨a,dx,e,r,l,d,xs,ys,rfl,h⟩;exact⟨a,dx,e,r,l,d,xs,ys,rfl,h.mono s⟩
def NetOk.fz{r:Addr}{xs:List (List Key×V)}{ys:List (KK×Addr×V)}(i:NetOk P w C N F H a dx el r l d xs ys as)(s:Q7 F F')(he:∀b∈a::dx::el::r::l::d::as,F' b=H b):
 NetFz P w C N F' a dx el r l d xs ys:=by
 obtain⟨R,⟨X,n⟩,⟨M,K⟩,⟨Y,v,A,y⟩,⟨E,f,h,g⟩,⟨W,m,j⟩,⟨d1,D,B⟩⟩:=i;exact⟨by rw[he _<|by simp];exact n,⟨v,by rw[he _<|by simp];exact A,y.mono s⟩,⟨f,by rw[he _<|by simp];exact h,g.mono s⟩,⟨by rw[he _<|by simp];exact m,j.fz s λb p=>he b<|by simp[p]⟩,⟨by rw[he _<|by simp];exact D,B.mono s⟩⟩
def Zj.fz{p:Qg}(h:(Zj P w C N).ok K F H v p)(s:Q7 F F')(he:∀b∈p,F' b=H b):(Ve P w C N).ok K F' v:=by
 obtain⟨a,dx,e,r,l,d,xs,ys,f,rfl,rfl,o⟩:=h;exact⟨a,dx,e,r,l,d,xs,ys,rfl,o.fz s he⟩
def Ui(L0:VQ):ZP where
 ok K F v := ∃a xs,v=.ref a/\F a=some (.dT xs)/\PairD F xs L0
 mono:=by
  rintro K F g v s ⟨a,xs,rfl,f,b⟩;exact⟨a,xs,rfl,s _ _ f,b.mono s⟩
def V6.fz{p:Qg}(h:(V6 L0).ok K F H v p)(s:Q7 F F')(he:∀b∈p,F' b=H b):(Ui L0).ok K F' v:=by
 obtain⟨a,xs,rfl,rfl,i,g,f⟩:=h;exact⟨a,xs,rfl,by rw[he a Xc];exact g,f.mono s⟩
def Q9.freezeZ{Ψ:ZP}(s:Q9 K H0 F ρ σ H)(e:zg ρ i<|zo v Φ)
(hz:∀{F f H:Hp} {u:V} {p:Qg},Φ.ok K F H u p->Q7 F f->(∀b∈p,f b=H b)->Ψ.ok K f u):
 ∃p,(∀a∈p,F a=none/\H a≠none/\H0 a=none)/\Q9 K H0 (frF F H p) (ρ.set i<|zz Ψ) σ H:=
 s.frz e λu p g=>⟨rfl,hz g.2 (Wm λa j=>(Φ.there g.2 a j).1) λb h=>WV h⟩
def Hu(i:Nat){Ψ:ZP}(e:zg ρ i<|zo v Φ)(hz:∀{F g H:Hp} {u:V} {p:Qg},Φ.ok K F H u p->Q7 F g->(∀b∈p,g b=H b)->Ψ.ok K g u)
(h:Q3 K t (ρ.set i<|zz Ψ) D):Q3 K t ρ D:=λF0 H0 F σ H E x S C=>by
 obtain⟨p,j,m⟩:=S.freezeZ e hz;refine h F0 H0 _ σ H E ⟨x.hh,x.ff.trans<|Wm λa f=>(j a f).1,m.sub,λa f=>?_⟩ m C
 by_cases z:a∈p
 .exact .inr (j a z).2.2
 .rw[YW z]at f;exact x.fr a f
def Iq(i:Nat)(e:zg ρ i<|zo v<|Zj P w C N)(h:Q3 K t (ρ.set i<|zz<|Ve P w C N) D):Q3 K t ρ D:=Hu i e (λa b c=>Zj.fz a b c) h
def Px(i:Nat)(e:zg ρ i<|zo v<|V6 L0)(h:Q3 K t (ρ.set i<|zz<|Ui L0) D):Q3 K t ρ D:=Hu i e (λa b c=>V6.fz a b c) h
def Z2(K:W.Frag)(t:TE)(ρ:ZbJ)(Φ:OT->Prop):Prop := ∀(H0 F:Hp) (σ:St) (H:Hp) (Q:VK),Q9 K H0 F ρ σ H->(∀f b v p r,Φ r->Q0 F H f b->(∀a∈p,H a=none)->Ze K f b v r p->Q v b)->t σ H Q
def EvO.d{r:OT}(h:EvO K t ρ r)(b:Φ r):Z2 K t ρ Φ:=λH0 F σ H Q S q=>h H0 F σ H Q S λi g v p x f a=>q i g v p r b x f a
def Z2.o{r:OT}(h:Z2 K t ρ (λa=>a=r)):EvO K t ρ r:=λH0 F σ H Q S q=>h H0 F σ H Q S λi g v p a e x f b=>by subst e;exact q i g v p x f b
def EvX.d(h:EvX K t ρ Φ0)(b:∀v,Φ<|.own v Φ0):Z2 K t ρ Φ:=λH0 F σ H Q S q=>h H0 F σ H Q S λi g v p x f a=>q i g v p (.own v Φ0) (b v) x f ⟨rfl,a⟩
def Wk(h:Z2 K te ρ Φ)(hn:∀r,Φ r->D.nx (ρ.set i<|some r)):Q3 K (ZM te<|Vb i) ρ D:=λF0 H0 F σ H E x S C=>
 h H0 F σ H _ S λd c v p r A b m y=>by
  refine C.nx d _ c _ (x.trans b) ((S.ext b).set y (λa g=>x.hh.free<|m a g) (hn:=λa g j w s q Y X f=>?_)) (hn r A);obtain⟨l,P,k,M⟩:=S.fp;obtain⟨e,n,W⟩:=P j s Y;intro B;have R:=W.ext b;rw[X]at n;cases n;exact(M j a<|Jd (K:=K) R f a B).2 (m a g)
def Pj(h:Z2 K te ρ Φ)(g:∀r,Φ r->D.rt r):Q3 K (Yw te) ρ D:=λF0 H0 F σ H E x S C=>
 h H0 F σ H _ S λn m v p r e b i f=>C.rt n m v r p (x.trans b) (λa j=>x.hh.free<|i a j) f (g r e)
def HK(e:zg ρ i<|zo v Φ)(b:D.rt (.own v Φ)):Q3 K (Yw<|Q5 i) ρ D:=λF0 H0 F σ H E x S C=>by
 obtain⟨j,h,_,g⟩:=S.fp;obtain⟨u,n,m⟩:=h i _ e;exact⟨_,n,C.rt F H u (.own v Φ) (j i) x (λa f=>(g i a f).1) m b⟩
def Uf(r:OT):Prop := ∀(K:W.Frag) (F b H:Hp) (v:V) (p:Qg),(∀a∈p,b a=none)->Ze K F H v r p->Ze K b H v r p
def Rep.thin{w:V}(r:Rep F v d)(h:ZO d=some w):Rep F' v d:=by
 cases r<;>simp[ZO]at h
 .exact .non
 .exact .bl _
 .exact .int _
 .exact .str _
def JG{w:V}(h:ZO d=some w):Uf (.fz d):=λK F b H v p _ a=>⟨a.1,a.2.thin h⟩
def HS(h:U2 ds):Uf (.ol ds):=λK F m H v p f b=>by
 obtain⟨a,rfl,rfl,j,xs,i,g⟩:=b;exact⟨a,rfl,rfl,f a Xc,xs,i,g.flats h⟩
def Hc(L0:VQ):Prop := ∀x∈L0,∃w,ZO x.2=some w
theorem PairD.flats{F b:Hp}:∀{xs:List (List Key×V)} {L0:VQ},Hc L0->PairD F xs L0->PairD b xs L0
 |_,_,_,.nil=>.nil
 |_,_,h,.cons r t=>by
  obtain⟨w,e⟩:=h _ Xc;exact .cons (r.thin e) (t.flats λx a=>h x<|Xi _ a)
def EW(h:Hc L0):Uf (.own v<|V6 L0):=λK F m H u p f b=>by
 obtain⟨e,a,xs,rfl,rfl,j,i,g⟩:=b;exact⟨e,a,xs,rfl,rfl,f a Xc,i,g.flats h⟩
def Pq{Ψ:ZP}(i:Nat)(e:zg ρ i<|zo v Φ0)(hz:∀{F f H:Hp} {u:V} {p:Qg},Φ0.ok K F H u p->Q7 F f->(∀b∈p,f b=H b)->Ψ.ok K f u)
(A:∀r,Φ r->Uf r)(h:Z2 K t (ρ.set i<|zz Ψ) Φ):Z2 K t ρ Φ:=λH0 F σ H Q S q=>by
 obtain⟨p,w,B⟩:=S.freezeZ e hz;refine h H0 _ σ H Q B λf y u m r s x j n=>?_;refine q _ y u m r s (UC (λa g=>⟨(w a g).1,(w a g).2.1⟩) x) j (A r s K f _ y u m (λa g=>?_) n)
 by_cases z:a∈p
 .show(if a∈p then none else f a)=none
  rw[Xd z]
 .show(if a∈p then none else f a)=none
  rw[Xb z];exact(n.there a g).1
def Ng(i:Nat)(e:zg ρ i<|zo v<|Zj P w C N)(f:∀r,Φ r->Uf r)(h:Z2 K t (ρ.set i<|zz<|Ve P w C N) Φ):Z2 K t ρ Φ:=
 Pq i e (λa b c=>Zj.fz a b c) f h
def ZmE(i:Nat)(e:zg ρ i<|zo v<|Zj P w C N)(b:ZO d=some u)(h:Qs K t (ρ.set i<|zz<|Ve P w C N) d):Qs K t ρ d:=
 EvO.e (Z2.o<|Ng (Φ:=λr=>r=.fz d) i e (λr a=>by subst a;exact JG b)<|h.o.d rfl)
section
variable {tb ty:TE}{N:Q8}{k:List Key}
def Q9.netz(S:Q9 K H0 F ρ σ H)(e:zg ρ i<|zz<|Ve P w C N):∃a dx el r l d xs ys,σ[i]?=some (some<|.ref a)/\NetFz P w C N F a dx el r l d xs ys:=by
 obtain⟨g,h,_⟩:=S.fp;obtain⟨v,f,_,a,dx,el,r,l,d,xs,ys,rfl,b⟩:=h i _ e;exact⟨a,dx,el,r,l,d,xs,ys,f,b⟩
def Kq(c:NetC K C)(e:zg ρ i<|zz<|Ve P w C N){k m:Int}(A:Qs K tb ρ (.int k))(v:atI (N.rooms.map PyData.int) k=some (.int m)):Qs K (tOp (rIx K) (Vf K (Q5 i) "rooms") tb) ρ (.int m):=λH0 F σ H Q S q=>by
 obtain⟨a,dx,M,r,l,d,xs,ys,B,f⟩:=S.netz e;refine⟨_,B,a,C,dx,_,.ref r,rfl,S.sub _ _ f.ins,c.cl,c.rooms,rfl,A H0 F σ H _ S λE D y b s=>?_⟩;cases s;obtain⟨j,p,n⟩:=f.rooms;obtain⟨z,h,g⟩:=G9 (n.mono b.ff) v;exact .inl ⟨r,j,k,z,rfl,rfl,SqL.of<|b.fh _ _<|b.ff _ _ p,h,q E D z b g⟩
def SZ(c:NetC K C)(e:zg ρ i<|zz<|Ve P w C N){k:Int}{n:PyData}(B:Qs K tb ρ (.int k))(A:atI (N.ends.map QW) k=some n):Qs K (tOp (rIx K) (Vf K (Q5 i) "ends") tb) ρ n:=λH0 F σ H Q S q=>by
 obtain⟨a,dx,g,r,l,d,xs,ys,D,f⟩:=S.netz e;refine⟨_,D,a,C,dx,_,.ref g,rfl,S.sub _ _ f.ins,c.cl,c.ends,rfl,B H0 F σ H _ S λM E y b v=>?_⟩;cases v;obtain⟨m,s,p⟩:=f.ends;obtain⟨z,j,h⟩:=G9 (p.mono b.ff) A;exact .inl ⟨g,m,k,z,rfl,rfl,SqL.of<|b.fh _ _<|b.ff _ _ s,j,q M E z b h⟩
def Ie(c:NetC K C)(e:zg ρ i<|zz<|Ve P w C N)(M:Qs K ty ρ (QW k)):Qs K (Su (Vf K (Q5 i) "leaving") ty<|Uc QM) ρ (.list<|((QR N.leav k).getD []).map PyData.int):=λH0 F σ H Q S q=>by
 obtain⟨a,dx,x,r,l,d,xs,ys,X,g⟩:=S.netz e;refine⟨_,X,a,C,dx,_,.ref l,rfl,S.sub _ _ g.ins,c.cl,c.leav,rfl,l,rfl,.inr ⟨xs,Rd.of<|S.sub _ _ g.leav.1⟩,M H0 F σ H _ S λv h y s D=>⟨XQ _,λp R=>?_⟩⟩;obtain⟨b,rfl,W⟩:=WA D;have o:=S.ext s;have n:Q0 v h (upd v p<|.lst []) (upd h p<|.lst []):=Q0.new o.sub R;have f:=s.trans n;have E:upd h p (.lst []) l=some (.dT xs):=f.fh _ _ (f.ff _ _ g.leav.1);have Y:upd h p (.lst []) b=some (.tup<|k.map kV):=n.fh _ _ (n.ff _ _ W);refine⟨Z4 xs k,V9.t E Y,?_⟩;rcases g.leav.2.val k with ⟨m,j⟩|⟨z,u,t,m,j,B,A⟩
 .rw[m];exact q _ _ _ f (by rw[j];exact .lst QG .nil)
 .rw[m];exact q _ _ _ f (by rw[j];exact .lst (f.ff _ _ B)<|A.mono f.ff)
def Em(c:NetC K C)(e:zg ρ i<|zz<|Ve P w C N){k1 k2:List Key}{n:Int}(m:Qs K ty ρ (.tuple [QW k1,QW k2]))(hn:ZU N.laid (k1,k2)=some n):Qs K (RO P w (Vf K (Q5 i) "laid") ty) ρ (.int n):=λH0 F σ H Q S q=>by
 obtain⟨a,dx,D,r,l,d,xs,ys,v,g⟩:=S.netz e;refine⟨_,v,a,C,dx,_,.ref d,rfl,S.sub _ _ g.ins,c.cl,c.laid,rfl,m H0 F σ H _ S λB A y f k=>?_⟩;obtain⟨b,rfl,p⟩:=Ku k;have j:=S.ext f;have h:=g.laid.2.mono f.ff;exact⟨d,b,ys,(k1,k2),.int n,rfl,rfl,f.fh _ _<|f.ff _ _ g.laid.1,h.at j.sub,p.mono λE z s=>j.sub _ _ s,by rw[h.val,hn];rfl,q B A _ f<|.int n⟩
def ZnY(c:NetC K C){k1 k2:List Key}(m:Qs K ty ρ (.tuple [QW k1,QW k2]))(e:zg ρ i<|zz<|Ve P w C N):Qs K (Pg P w ty<|Vf K (Q5 i) "laid") ρ (.bool<|!(ZU N.laid (k1,k2)).isSome):=λH0 F σ H Q S q=>
 m H0 F σ H _ S λA v y h k=>by
  have f:=S.ext h;obtain⟨a,dx,B,r,l,d,xs,ys,s,g⟩:=f.netz e;obtain⟨b,rfl,n⟩:=Ku k;have j:=g.laid.2;refine⟨_,s,a,C,dx,_,.ref d,rfl,f.sub _ _ g.ins,c.cl,c.laid,rfl,d,b,ys,(k1,k2),rfl,rfl,f.sub _ _ g.laid.1,j.at f.sub,n.mono λD z p=>f.sub _ _ p,q A v _ h ?_⟩;rw[j.val,JN];exact .bl _
def Q9.dctz(S:Q9 K H0 F ρ σ H)(e:zg ρ i<|zz<|Ui L0):∃a xs,σ[i]?=some (some<|.ref a)/\F a=some (.dT xs)/\PairD F xs L0:=by
 obtain⟨j,h,_⟩:=S.fp;obtain⟨v,g,_,a,xs,rfl,f,b⟩:=h i _ e;exact⟨a,xs,g,f,b⟩
def Pa(e:zg ρ i<|zz<|Ui L0)(v:Qs K ty ρ (QW k))(j:Ye L0 k=some d):Qs K (BY (Q5 i) ty) ρ d:=λH0 F σ H Q S q=>by
 obtain⟨a,xs,m,_⟩:=S.dctz e;refine⟨_,m,v H0 F σ H _ S λD C y g s=>?_⟩;obtain⟨M,r,f,B,A⟩:=(S.ext g).dctz e;rw[m]at f;cases f;obtain⟨b,rfl,w⟩:=WA s;rcases A.val k with ⟨_,z⟩|⟨x,E,p,h,n⟩
 .rw[j]at z;cases z
 .rw[j]at h;cases h;exact⟨a,x,rfl,p▸V9.t (g.fh _ _ B) (g.fh _ _ w),q D C x g n⟩
def C0(h:Qs K ty ρ (QW k))(e:zg ρ i<|zz<|Ui L0):Qs K (BX ty<|Q5 i) ρ (.bool (Ye L0 k).isSome):=λH0 F σ H Q S q=>
 h H0 F σ H _ S λs r y f g=>by
  obtain⟨a,xs,p,n,m⟩:=(S.ext f).dctz e;obtain⟨b,rfl,j⟩:=WA g;exact⟨_,p,a,_,rfl,V9.t (f.fh _ _ n)<|f.fh _ _ j,q s r _ f<|by rw[Nl m];exact .bl _⟩
end
inductive SpD(K:W.Frag)(R:List OT->(OT->Prop)->Prop)(vs:List V)(H:Hp)(Q:VK):Prop
 |mk (F:Hp)(ts:List OT)(Φ:OT->Prop)(kt:KTs K F)(sm:Q7 F H)(ha:Args K F vs ts)(hR:R ts Φ)(k:∀F' H' v p r,Φ r->Q0 F H F' H'->(∀a∈p,H a=none)->Ze K F' H' v r p->Q v H'):SpD K R vs H Q
def Zr(K:W.Frag)(R:List OT->(OT->Prop)->Prop):Sp:=λa H Q _=>SpD K R a H Q
def UW(K:W.Frag)(t:TA)(ρ:ZbJ)(Φ:List OT->Prop):Prop := ∀(H0 F:Hp) (σ:St) (H:Hp) (Q:List V->Hp->Prop),Q9 K H0 F ρ σ H->(∀f b a ts,Φ ts->Q0 F H f b->Args K f a ts->Q a b)->t σ H Q
def WB{R:List OT->(OT->Prop)->Prop}{E:XK}(h:Zv K t ρ ts)(s:R ts Φ):Z2 K (Vg (Zr K R) [] E t) ρ Φ:=λH0 F σ H Q S q=>
 h H0 F σ H _ S λA C B b g=>⟨A,ts,Φ,(S.ext b).kt,b.fh,by rw[Xx];exact g,s,λy w v p r j f m i=>q y w v p r j (b.trans f) (λa n=>b.hh.free<|m a n) i⟩
def WU(h:Zv K t ρ ts)(b:Φ ts):UW K t ρ Φ:=λH0 F σ H Q S q=>h H0 F σ H Q S λg f a x r=>q g f a ts b x r
def FF(h:Z2 K ta ρ Φ)(s:∀r,Φ r->∃ds,r=.ol ds/\Φ' [.fz<|.list ds]):UW K (QF ta QM) ρ Φ':=λH0 F σ H Q S q=>
 h H0 F σ H _ S λy w v p r m x n j=>by
  obtain⟨ds,rfl,b⟩:=s r m;obtain⟨a,rfl,rfl,f,xs,i,g⟩:=j;exact q (upd y a<|.lst xs) w [.ref a] _ b (x.freeze f i<|n a Xc) (.fz (.lst QG<|g.mono<|Q7.new f) .nil)
def Eh{R:List OT->OT->Prop}{E:XK}(h:UW K t ρ ΦA)(s:∀ts,ΦA ts->∃r,R ts r/\Φ r):Z2 K (Vg (QL (K:=K) R) [] E t) ρ Φ:=λH0 F σ H Q S q=>
 h H0 F σ H _ S λC M D ts j b g=>by
  obtain⟨r,y,w⟩:=s ts j;exact⟨C,ts,r,(S.ext b).kt,b.fh,by rw[Xx];exact g,y,λB A v p f m i=>q B A v p r w (b.trans f) (λa n=>b.hh.free<|m a n) i⟩
section
variable {N:Q8}
def NoF(m:Str):Prop := ∀e r l d:Addr,([("ends",V.ref e),("rooms",V.ref r),("leaving",V.ref l),("laid",V.ref d)]:List (Str×V)).lookup m=none
def Kr{R:List OT->(OT->Prop)->Prop}{E:XK}(D:NoF m)(e:zg ρ i<|zz<|Ve P w C N)(h:Zv K t ρ ts)(W:R (.zow (Ve P w C N)::ts) Φ):
 Z2 K (ZR C m (Zr K R) [] E (Q5 i) t) ρ Φ:=λH0 F σ H Q S q=>by
 obtain⟨a,dx,X,r,l,d,xs,ys,Y,j⟩:=S.netz e;refine⟨_,Y,a,dx,_,rfl,S.sub _ _ j.ins,D _ _ _ _,h H0 F σ H _ S λo x u f s=>?_⟩;refine⟨o,_,Φ,(S.ext f).kt,f.fh,.zow (Ψ:=Ve P w C N) ⟨a,dx,X,r,l,d,xs,ys,rfl,j.mono f.ff⟩<|by rw[Xx];exact s,W,λk c v p y A n B g=>q k c v p y A (f.trans n) (λb M=>f.hh.free<|B b M) g⟩
def E3{R:List OT->(OT->Prop)->Prop}{E:XK}(G:NoF m)(L:Z2 K ta ρ Φ1)(hz:∀r,Φ1 r->∃v N,r=.own v (Zj P w C N)/\∃f,R (.zow (Ve P w C N)::ts) f/\∀r,f r->Φ r)
(h:Zv K t ρ ts):Z2 K (ZR C m (Zr K R) [] E ta t) ρ Φ:=λH0 F σ H Q S q=>
 L H0 F σ H _ S λW y v p r u n x s=>by
  obtain⟨v0,N,rfl,f,J,I⟩:=hz r u;obtain⟨rfl,s⟩:=s;have th:=λa i=>(Zj P w C N).there s a i;have X:Q7 W (frF W y p):=Wm λa i=>(th a i).1
  have g:Q0 F H (frF W y p) y:=⟨n.hh,n.ff.trans X,M5 n.fh,λa i=>by
   by_cases z:a∈p
   .exact .inr (x a z)
   .rw[YW z]at i;exact n.fr a i⟩
  obtain⟨a,dx,O,r,l,d,xs,ys,as,rfl,rfl,o⟩:=s;refine⟨a,dx,_,rfl,o.ins.2,G _ _ _ _,h H0 _ σ y _ (S.ext g) λZ H2 vs j e=>?_⟩;have z:=o.fz X (λb M=>WV M);exact⟨Z,_,f,(S.ext<|g.trans j).kt,j.fh,.zow (Ψ:=Ve P w C N) ⟨a,dx,O,r,l,d,xs,ys,rfl,z.mono j.ff⟩<|by rw[Xx];exact e,J,λU T v k Y B c D A=>q U T v k Y (I Y B) ((g.trans j).trans c) (λb M=>(g.trans j).hh.free (D b M)) A⟩
structure ExtN(p:Qg)(F H F' H':Hp):Prop where
 hh:∀b o,b∉p->H b=some o->H' b=some o
 ff:Q7 F F'
 fh:Q7 F' H'
 fr:∀b,F' b≠none->F b≠none\/H b=none\/b∈p
inductive SpN(K:W.Frag)(P:Program)(w:World)(C:Addr)(R:Q8->List OT->(Q8->Prop)->Prop)(vs:List V)(H:Hp)(Q:VK):Prop
 |mk (F:Hp)(a:Addr)(vs':List V)(p:Qg)(ts:List OT)(N:Q8)(Ψ:Q8->Prop)(e:vs=.ref a::vs')(kt:KTs K F)(sm:Q7 F H)(ha:Args K F vs' ts)(ok:(Zj P w C N).ok K F H (.ref a) p)(hR:R N ts Ψ)
  (k:∀F' H' p' N',Ψ N'->ExtN p F H F' H'->(Zj P w C N').ok K F' H' (.ref a) p'->(∀b∈p',b∈p\/H b=none)->Q .non H'):SpN K P w C R vs H Q
def spN(K:W.Frag)(P:Program)(w:World)(C:Addr)(R:Q8->List OT->(Q8->Prop)->Prop):Sp:=λa H Q _=>SpN K P w C R a H Q
def VM{P:Type}{Φ:P->OwnP}{N:P}{F H:Hp}(S:Q9 K H0 F ρ σ H)(x:Q0 F0 H0 F H)(e:zg ρ i<|zo v<|Φ N):
 ∃p,σ[i]?=some (some v)/\(Φ N).ok K F H v p/\∀h g n m,ExtN p F H h g->(Φ m).ok K h g v n->(∀b∈n,b∈p\/H b=none)->
  Q0 F0 H0 h g/\Q9 K H0 h (ρ.set i<|zo v<|Φ m) σ g/\∀(q:Qg),(∀b∈q,(b∈p\/H b=none)/\b∉n)->(∀b∈q,H0 b=none)/\∀b∈q,∀(j:Nat) (u:V) (t':OT) (y:Qg),(ρ.set i<|zo v<|Φ m)[j]?=some (some t')->σ[j]?=some (some u)->Ze K h g u t' y->b∉y:=by
 obtain⟨u,p,W,⟨rfl,X⟩,E,k⟩:=S.chg e;refine⟨p,W,X,λh g n m f s B=>?_⟩;obtain⟨d,c⟩:=k h g (.own _<|Φ m) n f.ff f.fh (λb Y a=>by
  obtain⟨o,R⟩:=Mu a;rw[f.hh b o Y R,R]) f.fr ⟨rfl,s⟩ (λb a=>(B b a).imp id λz=>⟨z,x.hh.free z⟩)
 refine⟨⟨λb o a=>f.hh b o (λz=>by rw[(E b z).1]at a;cases a)<|x.hh b o a,x.ff.trans f.ff,f.fh,λb a=>?_⟩,d,λq D=>⟨λb a=>(D b a).1.elim (λz=>(E b z).1) λz=>x.hh.free z,λb a j u t' y A C r w=>?_⟩⟩
 .rcases f.fr b a with z|z|z
  .exact x.fr b z
  .exact .inr (x.hh.free z)
  .exact .inr (E b z).1
 .by_cases M:j=i
  .subst M;rw[Xm (Xf.mp e).1]at A;cases A;rw[W]at C;cases C;exact(D b a).2 ((Φ m).uniq s r.2 b w)
  .rw[Xt<|Ne.symm M]at A;have z:=c j u t' y M A C r b w;exact(D b a).1.elim z.1 z.2
def Lv{f:Type}{Φ:f->OwnP}{N:f}{L:Qh}{vs:List V}{F H:Hp}{a:V}{p:Qg}(r:KTs K F)(n:Q7 F H)(m:Args K F vs ts)(g:(Φ N).ok K F H a p):
 Q9 K (λb=>if b∈p then none else H b) F (zr L<|(.own a<|Φ N)::ts) (start L (a::vs)) H:=
 MC (ts:=.own a (Φ N)::ts) (λ|0=>p|_=>[]) r n (X9 Nat.succ m.length) (λ|0,t,e=>by cases e;exact⟨a,rfl,rfl,g⟩|i+1,t,e=>m.get i t e) (λ|0,0,_,_,_=>rfl|0,_+1,_,_,h=>(nomatch h)|_+1,_,_,h,_=>(nomatch h)) (λ|0,b,j=>⟨Xd j,((Φ N).there g b j).2⟩|_+1,_,h=>(nomatch h))
def PP{E:Ends}{Ψ:Q8->Prop}(S:Q9 K H0 F ρ σ H)(x:Q0 F0 H0 F H)(e:zg ρ i<|zo v<|Zj P w C N)(hn:∀f,Ψ f->D.nx (ρ.set i<|zo v<|Zj P w C f))(M:Cnv K F0 H0 D E):
 ∃a p,v=.ref a/\(Zj P w C N).ok K F H (.ref a) p/\∀h g j f,Ψ f->ExtN p F H h g->(Zj P w C f).ok K h g (.ref a) j->(∀b∈j,b∈p\/H b=none)->E.nx σ g:=by
 obtain⟨p,_,r,k⟩:=VM S x e;obtain⟨a,_,_,_,_,_,_,_,_,rfl,_⟩:=id r;refine⟨a,p,rfl,r,λh g j f A s n m=>?_⟩;obtain⟨y,B,_⟩:=k h g j f s n m;exact M.nx h σ g _ y B (hn f A)
def J8{R:Q8->List OT->(Q8->Prop)->Prop}(M:NoF m)(e:zg ρ i<|zo v<|Zj P w C N)(X:UW K t ρ ΦA)
(W:∀ts,ΦA ts->∃Ψ,R N ts Ψ/\∀j,Ψ j->D.nx (ρ.set i<|zo v<|Zj P w C j)):Q3 K (VC<|ZR C m (spN K P w C R) [] E' (Q5 i) t) ρ D:=λF0 H0 F σ H E x S o=>by
 obtain⟨a,dx,q,r,l,d,xs,ys,u,rfl,c,y,_⟩:=S.net e;refine⟨_,c,a,dx,_,rfl,y.ins.2,M _ _ _ _,X H0 F σ H _ S λk G n ts A b s=>?_⟩;obtain⟨Ψ,g,B⟩:=W ts A;obtain⟨z,p,Y,f,h⟩:=PP (S.ext b) (x.trans b) e B o;cases Y;exact⟨k,a,n++[],p,ts,N,Ψ,rfl,(S.ext b).kt,b.fh,by rw[Xx];exact s,f,g,h⟩
def PV{R:Q8->List OT->(Q8->Prop)->Prop}(e:zg ρ i<|zo v<|Zj P w C N)(B:UW K t ρ ΦA)
(A:∀ts,ΦA ts->∃Ψ,R N ts Ψ/\∀j,Ψ j->D.nx (ρ.set i<|zo v<|Zj P w C j)):Q3 K (VC<|Vg (spN K P w C R) [] E'<|QF (Q5 i) t) ρ D:=λF0 H0 F σ H E x S Y=>by
 obtain⟨a,dx,k,r,l,d,xs,ys,o,rfl,W,c,_⟩:=S.net e;refine⟨_,W,B H0 F σ H _ S λX u m ts s b n=>?_⟩;obtain⟨Ψ,g,y⟩:=A ts s;obtain⟨q,p,M,f,h⟩:=PP (S.ext b) (x.trans b) e y Y;cases M;exact⟨X,a,m++[],p,ts,N,Ψ,rfl,(S.ext b).kt,b.fh,by rw[Xx];exact n,f,g,h⟩
def spI(P:Program)(w:World)(C:Addr):Sp:=λf H Q _=>∃x dx,f=[.ref x]/\H x=some (.ins C dx [])/\∀e r l d a,H e=none->H r=none->H l=none->H d=none->[x,e,r,l,d].Nodup->
 a x=some (.ins C dx [("ends",.ref e),("rooms",.ref r),("leaving",.ref l),("laid",.ref d)])->a e=some (.lst [])->a r=some (.lst [])->a l=some (.dT [])->a d=some (pdO P w d [])->(∀b,b∉[x,e,r,l,d]->a b=H b)->Q .non a
def A5{E:XK}:EvX K (Ge C (spI P w C) [] E QM) ρ (Zj P w C ⟨[],[],[],[]⟩):=λH0 F σ H Q S q=>λx dx n g s=>by
 refine⟨x,dx,rfl,QG,λe r l d A G t u I D Z U T O L X=>⟨rfl,?_⟩⟩;have m:∀{b:Addr},upd (upd H dx<|.own x) x (.ins C dx []) b=none->H b=none/\b≠x/\b≠dx:=λ{b} a=>by
  have N:b≠x:=λz=>by rw[z,QG]at a;cases a
  rw[Qu N]at a;have M:b≠dx:=λz=>by rw[z,QG]at a;cases a
  rw[Qu M]at a;exact⟨a,N,M⟩
 obtain⟨y,e2,Y⟩:=m G;obtain⟨p,r2,B⟩:=m t;obtain⟨v,l2,R⟩:=m u;obtain⟨d1,d2,k⟩:=m I;have j:A dx=some (.own x):=by
  rw[X dx<|by simp only[Xe,XU,or_false,not_or];exact⟨s,Ne.symm Y,Ne.symm B,Ne.symm R,Ne.symm k⟩,Qu s,QG]
 have W:∀b o,H b=some o->A b=some o:=λb o a=>by
  have f:∀{c:Addr},H c=none->b≠c:=λJ z=>by rw[z,J]at a;cases a
  rw[X b<|by simp only[Xe,XU,or_false,not_or];exact⟨f n,f y,f p,f v,f d1⟩,Qu<|f n,Qu<|f g];exact a
 have i:∀{b:Addr},H b=none->F b=none:=λa=>S.sub.free a;refine q F A (.ref x) [x,dx,e,r,l,d] ⟨W,Q7.refl _,λb o a=>W b o<|S.sub b o a,λ_ h=>.inl h⟩ (λb a=>?_) ⟨x,dx,e,r,l,d,[],[],[],rfl,rfl,?_,⟨i n,Z⟩,⟨i g,j⟩,⟨i y,[],U,.nil⟩,⟨i p,[],T,.nil⟩,⟨i v,O,.nil⟩,⟨i d1,L,.nil⟩⟩
 .simp only[Xe,XU,or_false]at a;rcases a with rfl|rfl|rfl|rfl|rfl|rfl
  .exact n
  .exact g
  .exact y
  .exact p
  .exact v
  .exact d1
 .simp only[Xv,Xe,XU,or_false,not_or,not_false_eq_true,UM,and_true]at D ⊢;obtain⟨⟨a1,a2,a3,a4⟩,b1,c1,f1⟩:=D;exact⟨⟨Ne.symm s,a1,a2,a3,a4⟩,⟨Ne.symm Y,Ne.symm B,Ne.symm R,Ne.symm k⟩,b1,c1,f1⟩
end
section
variable {base:Heap}
def Fun.evD{x:Str}{st:Stmt}{f:Addr}{N:Qh}{k:Nat}{R:List OT->(OT->Prop)->Prop}(F:Fun K x qual st f fd)(S:Qp N ps (Q4 st))(g:∀ts Φ,R ts Φ->ts.length=ps.length)
(j:∀(a:Value) (A:Around) (outer:List Env) (s:Shared) (H:Hp) (E:XK) (ts:List OT) (Φ:OT->Prop),Room k (A.deeper<|envOfC qual (Q4 st) s.heap.objs.size f a)->R ts Φ->
  ∃t,PSs (Vq CX0 P w K mg base N qual (Q4 st) f a A outer s H E).nox (ZB st) t/\Q3 K t (zr N ts) { nx:=λ_=>Φ<|.fz .none,rt:=Φ }):FnOk P w K mg base CX0 (k+1) f fd ps (Zr K R):=by
 refine F.ok S (by rintro r H Q E ⟨F,ts,Φ,_,_,h,i,_⟩;exact h.length.trans<|g ts Φ i) ?_;rintro a A outer s H r Q E X ⟨F,ts,Φ,W,y,h,i,q⟩;obtain⟨t,d,c⟩:=j a A outer s H E ts Φ X i;refine⟨t,d,c F H F (start N r) H _ (Q0.refl y) (JF W y h) ⟨λn B m C b _ e=>?_,λn m v D p b Y M e=>q n m v p D e b Y M,λ_ _ _ _ _ _ z=>False.elim z,λ_ _ _ _ _ _ z=>False.elim z⟩⟩;exact q n m _ [] _ e b (by rintro _ ⟨⟩) ⟨rfl,.non⟩
def Fun.evN{x:Str}{st:Stmt}{f:Addr}{N:Qh}{k:Nat}{R:Q8->List OT->(Q8->Prop)->Prop}(F:Fun K x qual st f fd)(S:Qp N ps (Q4 st))(B:∀M ts Ψ,R M ts Ψ->ts.length+1=ps.length)
(X:∀(i:Value) (A:Around) (outer:List Env) (s:Shared) (H:Hp) (E:XK) (v:V) (M:Q8) (ts:List OT) (Ψ:Q8->Prop),Room k (A.deeper<|envOfC qual (Q4 st) s.heap.objs.size f i)->R M ts Ψ->
  ∃t,PSs (Vq CX0 P w K mg base N qual (Q4 st) f i A outer s H E).nox (ZB st) t/\Q3 K t (zr N<|(.own v<|Zj P w C M)::ts) { nx:=λj=>∃r,Ψ r/\j[0]?=some (zo v<|Zj P w C r),rt:=λ_=>False }):
 FnOk P w K mg base CX0 (k+1) f fd ps (spN K P w C R):=by
 refine F.ok S (by rintro J H Q E ⟨F,a,n,p,ts,M,Ψ,e,_,_,D,_,W,_⟩;rw[e,XN,D.length];exact B _ _ _ W) ?_;rintro i A outer s H J Q E T ⟨F,a,n,p,ts,M,Ψ,e,O,Y,D,c,W,q⟩;subst e;obtain⟨t,h1,Z⟩:=X i A outer s H E (.ref a) M ts Ψ T W;have d:∀b,(λb=>if b∈p then none else H b:Hp) b=none->b∈p\/H b=none:=λb g=>by
  by_cases z:b∈p
  .exact .inl z
  .simp only[Xb z]at g;exact .inr g
 refine⟨t,h1,Z F (λb=>if b∈p then none else H b) F (start N (.ref a::n)) H _ ⟨λb o g=>?_,Q7.refl _,Y,λ_ h=>.inl h⟩ (Lv (Φ:=Zj P w C) O Y D c)
  ⟨λG I l j m S' ⟨r,U,e0⟩=>?_,λG l v r' p m hp c e=>False.elim e,λ_ _ _ _ _ _ z=>False.elim z,λ_ _ _ _ _ _ z=>False.elim z⟩⟩
 .by_cases z:b∈p
  .simp[z]at g
  .simp only[Xb z]at g;exact g
 .obtain⟨fp,g1,g2,g3⟩:=S'.fp;obtain⟨u,u1,rfl,y⟩:=g1 0 _ e0;refine q G l (fp 0) r U ⟨λb o L g=>m.hh b o<|by simp only[Xb L];exact g,m.ff,m.fh,λb g=>?_⟩ y (λb g=>d b (g3 0 b g).1);rcases m.fr b g with z|z
  .exact .inl z
  .exact .inr ((d b z).symm)
structure Mf(K:W.Frag)(C:Addr)(m qual:Str)(st:Stmt)(ps:Qh):Prop where
 ex:∃f fd,Fun K m qual st f fd/\Meth K C m f/\Vw K fd ps []
def ZC(P:Program)(w:World)(K:W.Frag)(mg:Str->Qf)(base:Heap)(C:Addr)(m:Str)(ps:Qh)(k:Nat)(a:Sp):Prop:=
 ∃f fd,Meth K C m f/\Vw K fd ps []/\FnOk P w K mg base CX0 k f fd ps a
def Mf.evD{st:Stmt}{N:Qh}{k:Nat}{R:List OT->(OT->Prop)->Prop}(D:Mf K C m qual st ps)(S:Qp N ps (Q4 st))(b:∀ts Φ,R ts Φ->ts.length=ps.length)
(g:∀(f:Addr) (a:Value) (A:Around) (outer:List Env) (s:Shared) (H:Hp) (E:XK) (ts:List OT) (Φ:OT->Prop),Room k (A.deeper<|envOfC qual (Q4 st) s.heap.objs.size f a)->R ts Φ->
  ∃t,PSs (Vq CX0 P w K mg base N qual (Q4 st) f a A outer s H E).nox (ZB st) t/\Q3 K t (zr N ts) { nx:=λ_=>Φ<|.fz .none,rt:=Φ }):ZC P w K mg base C m ps (k+1) (Zr K R):=by
 obtain⟨f,fd,F,h,i⟩:=D.ex;exact⟨f,fd,h,i,F.evD S b λa A outer s H E ts Φ=>g f a A outer s H E ts Φ⟩
def Mf.evN{st:Stmt}{N:Qh}{k:Nat}{R:Q8->List OT->(Q8->Prop)->Prop}(D:Mf K C m qual st ps)(S:Qp N ps (Q4 st))(g:∀M ts Ψ,R M ts Ψ->ts.length+1=ps.length)
(h:∀(f:Addr) (a:Value) (A:Around) (outer:List Env) (s:Shared) (H:Hp) (E:XK) (v:V) (M:Q8) (ts:List OT) (Ψ:Q8->Prop),Room k (A.deeper<|envOfC qual (Q4 st) s.heap.objs.size f a)->R M ts Ψ->
  ∃t,PSs (Vq CX0 P w K mg base N qual (Q4 st) f a A outer s H E).nox (ZB st) t/\Q3 K t (zr N<|(.own v<|Zj P w C M)::ts) { nx:=λb=>∃i,Ψ i/\b[0]?=some (zo v<|Zj P w C i),rt:=λ_=>False }):
 ZC P w K mg base C m ps (k+1) (spN K P w C R):=by
 obtain⟨f,fd,F,j,n⟩:=D.ex;exact⟨f,fd,j,n,F.evN S g λa A outer s H E v M ts Ψ=>h f a A outer s H E v M ts Ψ⟩
def Df.evD{x:Str}{st:Stmt}{N:Qh}{k:Nat}{R:List OT->(OT->Prop)->Prop}(D:Df K mg x st ps)(S:Qp N ps (Q4 st))(b:∀ts Φ,R ts Φ->ts.length=ps.length)
(g:∀(f:Addr) (a:Value) (A:Around) (outer:List Env) (s:Shared) (H:Hp) (E:XK) (ts:List OT) (Φ:OT->Prop),Room k (A.deeper<|envOfC x (Q4 st) s.heap.objs.size f a)->R ts Φ->
  ∃t,PSs (Vq CX0 P w K mg base N x (Q4 st) f a A outer s H E).nox (ZB st) t/\Q3 K t (zr N ts) { nx:=λ_=>Φ<|.fz .none,rt:=Φ }):QE P w K mg base x ps (k+1) (Zr K R):=by
 obtain⟨f,fd,F,h,i⟩:=D.ex;exact⟨f,fd,h,F.kp,i,F.evD S b λa A outer s H E ts Φ=>g f a A outer s H E ts Φ⟩
def Df.evN{x:Str}{st:Stmt}{N:Qh}{k:Nat}{R:Q8->List OT->(Q8->Prop)->Prop}(D:Df K mg x st ps)(S:Qp N ps (Q4 st))(g:∀M ts Ψ,R M ts Ψ->ts.length+1=ps.length)
(h:∀(f:Addr) (a:Value) (A:Around) (outer:List Env) (s:Shared) (H:Hp) (E:XK) (v:V) (M:Q8) (ts:List OT) (Ψ:Q8->Prop),Room k (A.deeper<|envOfC x (Q4 st) s.heap.objs.size f a)->R M ts Ψ->
  ∃t,PSs (Vq CX0 P w K mg base N x (Q4 st) f a A outer s H E).nox (ZB st) t/\Q3 K t (zr N<|(.own v<|Zj P w C M)::ts) { nx:=λb=>∃i,Ψ i/\b[0]?=some (zo v<|Zj P w C i),rt:=λ_=>False }):
 QE P w K mg base x ps (k+1) (spN K P w C R):=by
 obtain⟨f,fd,F,j,m⟩:=D.ex;exact⟨f,fd,j,F.kp,m,F.evN S g λa A outer s H E v M ts Ψ=>h f a A outer s H E v M ts Ψ⟩
def DF(P:Program)(w:World)(K:W.Frag)(mg:Str->Qf)(base:Heap)(x:Str)(C:Addr)(k:Nat):Prop:=
 ∃f fd,Mk K C f/\mg x=some (.ref C)/\Vw K fd Zax []/\FnOk P w K mg base CX0 k f fd Zax (spI P w C)
end
def YG  {o e:Expr}  {t:TA}{k:Nat}{b:Sp}{pl:Sem Bool}(M:ZC X.prog X.w X.K X.mg X.base C m ps j b)(c:NetC X.K C)(i:Room k X.A)(he:PE X o ta)(s:PA X (e::es) t)(p:j<=k:=by walk_at"j")
(a:zs X e es:=by rfl)(hpl:zb X pos es:=by rfl)
(h:eval (.Call (.Attribute o m SF) (e::es) [] pos) X.env=(do
  let g <- eval o X.env
  standAt SF.atName
  let (f,first) <- holding [g] (getMethod g m pl)
  callWith pos f first (backTo pos<|starEach (e::es) X.env)<|backToKw pos<|keywordEach [] X.env):=by rfl):
 PE X (.Call (.Attribute o m SF) (e::es) [] pos) (ZR C m b [] E0 ta t):=by
 obtain⟨f,fd,n,r,F⟩:=M;exact HL (pl:=pl) he c.cl n F (i.mono p) r .nil Uk s a hpl h
def Av   (M:DF X.prog X.w X.K X.mg X.base x C j)(b:Room k X.A)(h:j+1<=k:=by walk_at"j")(i:Gl X x:=by rfl)(a:(x==("__debug__" : Str))=false:=by decide +kernel):
 PE X (.Call (.Name x p) [] [] pos) (Ge C (spI X.prog X.w C) [] E0 QM):=by
 obtain⟨f,fd,M,g,m,F⟩:=M;exact Oh M F (b.mono h) i g m .nil Uk a
end L2
namespace Mir
open PySem L2
noncomputable def nk:Nd->List Key
 |.start=>[.inr "start"]
 |.fin=>[.inr "end"]
 |.guest k=>[.inr "guest",.inl (k:Int)]
 |.line l t=>[.inr "line",.inl (l:Int),.inl (t:Int)]
theorem U3:∀{a b:Nd},nk a=nk b->a=b
 |.start,.start,_=>rfl
 |.fin,.fin,_=>rfl
 |.start,.fin,h=>Xz h (by decide)
 |.fin,.start,h=>Xz h (by decide)
 |.guest a,.guest b,h=>by
  injection h with _ h;injection h with h _;injection h with h;have:a=b:=by lia
  rw[this]
 |.line a b,.line c d,h=>by
  injection h with _ h;injection h with g h;injection h with f _;injection g with g;injection f with f;have j:a=c:=by lia
  have i:b=d:=by lia
  rw[j,i]
 |.start,.guest _,h=>by have q:=X9 List.length h;simp[nk]at q
 |.start,.line _ _,h=>by have q:=X9 List.length h;simp[nk]at q
 |.fin,.guest _,h=>by have q:=X9 List.length h;simp[nk]at q
 |.fin,.line _ _,h=>by have q:=X9 List.length h;simp[nk]at q
 |.guest _,.start,h=>by have q:=X9 List.length h;simp[nk]at q
 |.guest _,.fin,h=>by have q:=X9 List.length h;simp[nk]at q
 |.guest _,.line _ _,h=>by have q:=X9 List.length h;simp[nk]at q
 |.line _ _,.start,h=>by have q:=X9 List.length h;simp[nk]at q
 |.line _ _,.fin,h=>by have q:=X9 List.length h;simp[nk]at q
 |.line _ _,.guest _,h=>by have q:=X9 List.length h;simp[nk]at q
def FK{a b:Nd}:nk a=nk b↔a=b:=⟨U3,λh=>by rw[h]⟩
def UT:Option Nat->PyData
 |none=>.none
 |some e=>.int (e:Int)
def kvG(es:Got Nd):VQ:=es.map λx=>(nk x.1,UT x.2)
theorem Kg(n:Nd):∀es:Got Nd,Ye (kvG es) (nk n)=(Jq es n).map UT
 |[]=>rfl
 |(k,v)::es=>by
  have a:=Kg n es;unfold Jq at a ⊢;rw[XM];unfold kvG Ye at a ⊢;rw[Xw,Xy];by_cases e:k=n
  .subst e;simp
  .have f:¬nk k=nk n:=λz=>e (U3 z)
   have b:(n==k)=false:=by rw[beq_eq_false_iff_ne];exact λz=>e z.symm
   rw[b];simp only[f,decide_false];exact a
def Zlf{es:Got Nd}{n:Nd}:(es.lookup n).isSome=decide (n∈QX es):=by
 induction es with
 |nil=>rfl
 |cons p es a=>
  obtain⟨k,v⟩:=p;rw[XM];by_cases e:n=k
  .subst e;simp[QX]
  .have b:(n==k)=false:=by rw[beq_eq_false_iff_ne];exact e
   rw[b];have:decide (n∈QX ((k,v)::es))=decide (n∈QX es):=by
    apply decide_eq_decide.mpr;unfold QX;rw[Xw,Xe];exact⟨λz=>z.resolve_left e,.inr⟩
   rw[this];exact a
def Bs(n:Nd)(es:Got Nd):(Ye (kvG es)<|nk n).isSome=decide (n∈QX es):=by
 rw[Kg,JN];exact Zlf
def Ih(es:Got Nd):Hc (kvG es):=λx a=>by
 obtain⟨y,_,rfl⟩:=XL.mp a;cases h:y.2 with
 |none=>exact⟨.non,by simp[h,UT,ZO]⟩
 |some e=>exact⟨.int (e:Int),by simp[h,UT,ZO]⟩
def Ir{es:Got Nd}{n:Nd}{e:Nat}(h:n∉QX es):UX (kvG es) (nk n) (.int (e:Int))=kvG (es++[(n,some e)]):=by
 unfold UX;have:¬((kvG es).any λa=>decide (a.1=nk n))=true:=λz=>by
  obtain⟨x,g,b⟩:=List.any_eq_true.mp z;obtain⟨y,f,rfl⟩:=XL.mp g;have q:y.1=n:=U3 (XW b);exact h (by rw[<- q];exact XL.mpr ⟨y,f,rfl⟩)
 rw[Xb this];unfold kvG;rw[XF];rfl
structure NetR(N:Q8)(L:Lay Nd)(φ:Zl Nd):Prop where
 ends:N.ends=(Wx L).map nk
 rooms:N.rooms=VD L φ
 leav:∀(n:Nd) (e:Int),e∈(QR N.leav<|nk n).getD [] ↔ ∃j:Nat,e=(j:Int)/\tlE L j=some n
 laid:∀(i:Nat) (x:Nd×Nd×Int),L[i]?=some x->ZU N.laid (nk x.1,nk x.2.1)=some ((2*i:Nat):Int)
 laid0:∀p q:Nd,(p,q)∉L.map (λx=>(x.1,x.2.1))->ZU N.laid (nk p,nk q)=none
 l1:N.leav.length<=2*L.length
 l2:N.laid.length<=L.length
 l3:∀k ns,QR N.leav k=some ns->ns.length<=2*L.length
theorem Fb(φ:Zl Nd):NetR ⟨[],[],[],[]⟩ [] φ where
 ends:=rfl
 rooms:=rfl
 leav n e:=by
  constructor
  .intro h;simp[QR]at h
  .rintro⟨j,_,h⟩;simp[tlE]at h
 laid i x h:=by simp at h
 laid0 p q _:=rfl
 l1:=XQ _
 l2:=XQ _
 l3 k ns h:=by simp[QR]at h
def WC : QR ((k',ns)::ls) k=if k'=k then some ns else QR ls k:=by
 by_cases e:k'=k
 .simp[QR,Xy,e]
 .simp[QR,Xy,e]
theorem PH(k k':List Key)(x:Int):∀ls:List (List Key×Ql),QR (VP ls k x) k'=if k'=k then (QR ls k).map (· ++ [x]) else QR ls k'
 |[]=>by
  unfold VP;by_cases e:k'=k
  .rw[Xd e];simp[QR]
  .rw[Xb e]
 |(j,f)::ls=>by
  unfold VP;have b:=PH k k' x ls
  by_cases e:j=k
  .rw[Xd e,WC,WC,WC,Xd e]
   by_cases a:k'=k
   .rw[Xd a,Xd<|e.trans a.symm];rfl
   .rw[Xb a,Xb λz=>a<|z.symm.trans e,Xb λz=>a<|z.symm.trans e]
  .rw[Xb e,WC,WC,WC,Xb e,b]
   by_cases a:k'=k
   .rw[Xd a,Xb λz=>e<|z.trans a,Xd a]
   .rw[Xb a,Xb a]
theorem MB(k:List Key)(x:Int):∀ls:List (List Key×Ql),(VP ls k x).length=ls.length
 |[]=>rfl
 |(j,a)::ls=>by
  unfold VP;split
  .simp
  .simp[MB k x ls]
theorem Lb(k k':List Key):∀ls:List (List Key×Ql),QR ls k=none->QR (ls++[(k,[])]) k'=if k'=k then some [] else QR ls k'
 |[],_=>by
  rw[BQ,WC];by_cases e:k'=k
  .rw[Xd e,Xd e.symm]
  .rw[Xb e,Xb λz=>e z.symm]
 |(j,b)::ls,h=>by
  rw[WC]at h;by_cases e:j=k
  .rw[Xd e]at h;cases h
  .rw[Xb e]at h;rw[GM,WC,WC,Lb k k' ls h];by_cases a:k'=k
   .rw[Xd a,Xb λz=>e<|z.trans a,Xd a]
   .rw[Xb a,Xb a]
def K0(ls:List (List Key×Ql))(k k':List Key):QR (VO ls k) k'=if k'=k then some ((QR ls k).getD []) else QR ls k':=by
 unfold VO;cases h:QR ls k with
 |some a=>
  rw[Xd<|by rfl];by_cases e:k'=k
  .rw[Xd e,e,h];rfl
  .rw[Xb e]
 |none=>
  rw[Xb<|by simp,Lb k k' ls h];rfl
def HX(ls:List (List Key×Ql))(k:List Key):(VO ls k).length<=ls.length+1:=by
 unfold VO;split
 .lia
 .simp
noncomputable def UV(N:Q8)(s e:List Key)(r:Int):Q8:={ N with ends:=N.ends++[e],rooms:=N.rooms++[r],leav:=VP (VO N.leav s) s (N.ends.length:Int) }
def JW(N:Q8)(s e:List Key)(r:Int):Q8:=UV (UV { N with laid:=Y6 N.laid (s,e) (N.ends.length:Int) } s e r) e s 0
def GG(N:Q8)(s e:List Key)(r:Int)(k:List Key):QR (UV N s e r).leav k=if k=s then some ((QR N.leav s).getD []++[(N.ends.length:Int)]) else QR N.leav k:=by
 show QR (VP (VO N.leav s) s _) k=_;rw[PH,K0,Xd rfl,K0];by_cases e:k=s
 .rw[Xd e,Xd e];rfl
 .rw[Xb e,Xb e,Xb e]
def WD{n:Int}:ZU ((k',n)::ls) k=if k'=k then some n else ZU ls k:=by
 by_cases e:k'=k
 .simp[ZU,Xy,e]
 .simp[ZU,Xy,e]
theorem P6(k k':KK)(n:Int):∀ls:List (KK×Int),ZU (ls.map λx=>if x.1=k then (x.1,n) else x) k'=if k'=k then (ZU ls k).map λ_=>n else ZU ls k'
 |[]=>by
  by_cases e:k'=k
  .rw[Xd e];rfl
  .rw[Xb e];rfl
 |(j,m)::ls=>by
  rw[Xw];have b:=P6 k k' n ls
  by_cases e:j=k
  .simp only[e,if_true];rw[WD,WD,WD,b];by_cases a:k'=k
   .simp[a]
   .have:¬k=k':=λz=>a z.symm
    simp[a,this]
  .simp only[e,if_false];rw[WD,WD,WD,b];by_cases a:k'=k
   .simp[a,e]
   .simp[a]
theorem TH(k k':KK)(n:Int):∀ls:List (KK×Int),ZU ls k=none->ZU (ls++[(k,n)]) k'=if k'=k then some n else ZU ls k'
 |[],_=>by
  rw[BQ,WD];by_cases e:k'=k
  .rw[Xd e,Xd e.symm]
  .rw[Xb e,Xb λz=>e z.symm]
 |(j,m)::ls,h=>by
  rw[WD]at h;by_cases e:j=k
  .rw[Xd e]at h;cases h
  .rw[Xb e]at h;rw[GM,WD,WD,TH k k' n ls h];by_cases a:k'=k
   .rw[Xd a,Xb λz=>e<|z.trans a,Xd a]
   .rw[Xb a,Xb a]
def Pz(ls:List (KK×Int))(k k':KK)(n:Int):ZU (Y6 ls k n) k'=if k'=k then some n else ZU ls k':=by
 unfold Y6;cases h:ZU ls k with
 |some m=>rw[Xd<|by rfl,P6,h];rfl
 |none=>rw[Xb<|by simp,TH k k' n ls h]
def Ei(ls:List (KK×Int))(k:KK)(n:Int):(Y6 ls k n).length<=ls.length+1:=by
 unfold Y6;split
 .simp
 .simp
def Tg{a:Type}[DecidableEq a](L:Lay a):(Wx L).length=2*L.length:=by
 unfold Wx;induction L with
 |nil=>rfl
 |cons x L b=>rw[Dz,Xn,b,XN];simp;lia
def NetR.elen(h:NetR N L φ):N.ends.length=2*L.length:=by rw[h.ends,Xl,Tg]
def Nm{a:Type}[DecidableEq a](L:Lay a)(φ:Zl a):(VD L φ).length=2*L.length:=by
 unfold VD;induction L with
 |nil=>rfl
 |cons x L b=>rw[Dz,Xn,b,XN];simp;lia
def MK{x:Nd×Nd×Int}{n:Nd}:tlE (L++[x]) j=some n↔tlE L j=some n\/(j=2*L.length/\n=x.1)\/(j=2*L.length+1/\n=x.2.1):=by
 unfold tlE;by_cases h:j/2<L.length
 .rw[UI h];constructor
  .exact .inl
  .rintro(z|⟨z,_⟩|⟨z,_⟩)
   .exact z
   .lia
   .lia
 .rw[BO<|by lia,NN.mpr (show L.length<=j/2 by lia)]
  by_cases a:j/2=L.length
  .rw[a,Nat.sub_self];simp only[List.getElem?_cons_zero,Wa,Option.map_none,Option.some.injEq];by_cases p:j%2=0
   .rw[Xd p];constructor
    .intro z;exact .inr (.inl ⟨by lia,z.symm⟩)
    .rintro(z|⟨_,z⟩|⟨z,_⟩)
     .cases z
     .exact z.symm
     .lia
   .rw[Xb p];constructor
    .intro z;exact .inr (.inr ⟨by lia,z.symm⟩)
    .rintro(z|⟨z,_⟩|⟨_,z⟩)
     .cases z
     .lia
     .exact z.symm
  .have:([x]:Lay Nd)[j/2-L.length]?=none:=NN.mpr (by simp;lia);rw[this];constructor
   .intro z;cases z
   .rintro(z|⟨z,_⟩|⟨z,_⟩)
    .cases z
    .lia
    .lia
theorem Ep(h:NetR N L φ){s:Nd}{r:Int}(h0:φ s e=0)(new:(s,e)∉L.map (λx=>(x.1,x.2.1))):NetR (JW N (nk s) (nk e) r) (L++[(s,e,r)]) φ where
 ends:=by
  show(N.ends++[nk e])++[nk s]=_
  unfold Wx;rw[UG,XF,h.ends];simp[Wx]
 rooms:=by
  show(N.rooms++[r])++[0]=_
  unfold VD;rw[UG,h.rooms];simp[VD,h0]
 leav n e':=by
  have D:=h.elen;have l1:(UV { N with laid:=Y6 N.laid (nk s,nk e) (N.ends.length:Int) } (nk s) (nk e) r).ends.length=2*L.length+1:=by
   show(N.ends++[nk e]).length=_
   rw[Xn,D];rfl
  have q:(QR (JW N (nk s) (nk e) r).leav (nk n)).getD []=((QR N.leav<|nk n).getD []++(if n=s then [((2*L.length:Nat):Int)] else []))++(if n=e then [((2*L.length+1:Nat):Int)] else []):=by
   unfold JW;rw[GG,l1,GG,GG];show Option.getD (if nk n=nk e then some ((if nk e=nk s then some ((QR N.leav<|nk s).getD []++[(N.ends.length:Int)]) else QR N.leav<|nk e).getD []++[((2*L.length+1:Nat):Int)]) else if nk n=nk s then some ((QR N.leav<|nk s).getD []++[(N.ends.length:Int)]) else QR N.leav<|nk n) []=_;rw[D];simp only[FK];by_cases C:n=e
   .subst C
    by_cases f:n=s
    .subst f;simp
    .simp[f]
   .by_cases f:n=s
    .subst f;simp[C]
    .simp[C,f]
  rw[q,XD,XD,h.leav n e'];constructor
  .rintro((⟨j,rfl,A⟩|z)|z)
   .exact⟨j,rfl,MK.mpr<|.inl A⟩
   .by_cases f:n=s
    .rw[Xd f]at z;exact⟨2*L.length,Xh.mp z,MK.mpr<|.inr<|.inl ⟨rfl,f⟩⟩
    .rw[Xb f]at z;cases z
   .by_cases f:n=e
    .rw[Xd f]at z;exact⟨2*L.length+1,Xh.mp z,MK.mpr<|.inr<|.inr ⟨rfl,f⟩⟩
    .rw[Xb f]at z;cases z
  .rintro⟨j,rfl,A⟩;rcases MK.mp A with z|⟨rfl,z⟩|⟨rfl,z⟩
   .exact .inl (.inl ⟨j,rfl,z⟩)
   .exact .inl (.inr<|by rw[Xd z];exact Xh.mpr rfl)
   .exact .inr (by rw[Xd z];exact Xh.mpr rfl)
 laid i x hx:=by
  show ZU (Y6 N.laid (nk s,nk e) (N.ends.length:Int)) (nk x.1,nk x.2.1)=_;rw[Pz,h.elen];by_cases K:i<L.length
  .rw[UI K]at hx;have ne:¬(nk x.1,nk x.2.1)=(nk s,nk e):=λz=>new (by
    injection z with y w;exact XL.mpr ⟨x,List.mem_of_getElem? hx,by rw[U3 y,U3 w]⟩)
   rw[Xb ne];exact h.laid i x hx
  .rw[BO<|by lia]at hx;have B:i=L.length:=by
    have:=(Xf.mp hx).1;simp at this;lia
   subst B;rw[Nat.sub_self]at hx;cases hx;rw[Xd rfl]
 laid0 p q hn:=by
  show ZU (Y6 N.laid (nk s,nk e) (N.ends.length:Int)) (nk p,nk q)=_;rw[XF,XD,not_or]at hn;rw[Pz,Xb λz=>?_]
  .exact h.laid0 p q hn.1
  .injection z with y w;exact hn.2 (by rw[U3 y,U3 w];simp)
 l1:=by
  have a:=h.l1;have b:(JW N (nk s) (nk e) r).leav.length<=N.leav.length+2:=by
   unfold JW;show(VP (VO (VP (VO N.leav<|nk s) (nk s) _)<|nk e) (nk e) _).length<=_;rw[MB];refine X0 (HX _ _) ?_;rw[MB];have:=HX N.leav (nk s)
   lia
  rw[Xn];simp;lia
 l2:=by
  have a:=h.l2;have b:(JW N (nk s) (nk e) r).laid.length<=N.laid.length+1:=Ei _ _ _;rw[Xn];simp;lia
 l3 k ns hk:=by
  have g:∀v,((QR N.leav v).getD []).length<=2*L.length:=λv=>by
   cases z:QR N.leav v with
   |none=>exact XQ _
   |some m=>exact h.l3 v m z
  have E:∀v,((QR (UV { N with laid:=Y6 N.laid (nk s,nk e) (N.ends.length:Int) } (nk s) (nk e) r).leav v).getD []).length<=2*L.length+1:=λv=>by
   rw[GG];by_cases z:v=nk s
   .rw[Xd z];have:=g (nk s);simpa using this
   .rw[Xb z];have:=g v;show((QR N.leav v).getD []).length<=_
    lia
  unfold JW at hk;rw[GG]at hk;rw[Xn];by_cases z:k=nk e
  .rw[Xd z]at hk;cases hk;have:=E (nk e);simp at this ⊢;lia
  .rw[Xb z]at hk;have:=E k;rw[hk]at this;simp at this ⊢;lia
def Zna{L:Lay Nd}(P:Dis L){φ:Zl Nd}{a r s:Int}{e:Nat}(b:(VD L φ)[e]?=some r)(f:(VD L φ)[Zfq e]?=some s):VD L (Yg L a φ e)=((VD L φ).set e (r-a)).set (Zfq e) (s+a):=by
 have X:Zfq e≠e:=by unfold Zfq;split<;>lia
 have w:Zfq e/2=e/2:=by unfold Zfq;split<;>lia
 rw[GB]at b f;have R:=b;unfold rmE at b f;rw[w]at f;cases g:L[e/2]? with
 |none=>rw[g]at b;cases b
 |some x=>
  rw[g]at b f;simp only[Wa,Option.some.injEq]at b f;have M:Yg L a φ e=VR φ x.1 x.2.1 (if e%2=0 then a else -a):=by unfold Yg;rw[g]
  have B:VR φ x.1 x.2.1 (if e%2=0 then a else -a) x.1 x.2.1=φ x.1 x.2.1+(if e%2=0 then a else -a):=by unfold VR;rw[Xd ⟨rfl,rfl⟩]
  have c:e/2<L.length:=(Xf.mp g).1;have Y:=Nm L φ;have m:e<(VD L φ).length:=by lia
  have K:Zfq e<(VD L φ).length:=by lia
  refine List.ext_getElem? λi=>?_;rw[GB,List.getElem?_set,List.getElem?_set,GB,M];by_cases h:Zfq e=i
  .subst h;rw[Xd rfl,Xd (show Zfq e<((VD L φ).set e (r-a)).length by simpa using K)];unfold rmE;rw[w,g];simp only[Wa,Option.some.injEq];rw[B];have v:(Zfq e%2=0)=¬(e%2=0):=by
    apply propext;unfold Zfq;split<;>lia
   by_cases p:e%2=0
   .have j:¬Zfq e%2=0:=by rw[v];exact λz=>z p
    rw[Xb j]at f ⊢;rw[Xd p];lia
   .have j:Zfq e%2=0:=by rw[v];exact p
    rw[Xd j]at f ⊢;rw[Xb p];lia
  .rw[Xb h]
   by_cases A:e=i
   .subst A;rw[Xd rfl,Xd m];unfold rmE;rw[g];simp only[Wa,Option.some.injEq];rw[B];by_cases p:e%2=0
    .rw[Xd p]at b ⊢;rw[Xd p];lia
    .rw[Xb p]at b ⊢;rw[Xb p];lia
   .rw[Xb A];unfold rmE;cases W:L[i/2]? with
    |none=>rfl
    |some y=>
     have E:¬(y.1=x.1/\y.2.1=x.2.1):=λ⟨D,C⟩=>by
      have q:=HY P W g D C;unfold Zfq at h;split at h<;>lia
     have n:VR φ x.1 x.2.1 (if e%2=0 then a else -a) y.1 y.2.1=φ y.1 y.2.1:=by unfold VR;rw[Xb E]
     simp only[Wa,n]
def Uh(L:Lay Nd)(φ:Zl Nd)(es:Got Nd)(U:List Nd):Prop := ∀e m n r,tlE L e=some m->hdE L e=some n->rmE L φ e=some r->0<r->m∈QX es->m∉U->n∈QX es
def Uh.closed{es:Got Nd}(h:Uh L φ es []):Yi L φ es:=λe m n r i g f b a=>h e m n r i g f b a (by rintro⟨⟩)
def JC{es:Got Nd}{x:Nd×Option Nat}{n:Nd}:n∈QX (es++[x])↔n∈QX es\/n=x.1:=by
 unfold QX;rw[XF,XD];simp
def Uh.add{es:Got Nd}{U V:List Nd}(h:Uh L φ es (U++V))(n:Nd)(o:Option Nat):Uh L φ (es++[(n,o)]) (U++(V++[n])):=λe m k r p j i g f a=>by
 rw[<- GP,XD,not_or]at a;have b:m≠n:=λz=>a.2 (by simp[z])
 rcases JC.mp f with z|z
 .exact JC.mpr (.inl<|h e m k r p j i g z a.1)
 .exact Xz z b
theorem Tree.inClosed{L:Lay Nd}{φ:Zl Nd}{s:Nd}{f:Got Nd}(b:Yi L φ f)(a:s∈QX f):∀{es:Got Nd},Tree L φ s es->∀n∈QX es,n∈QX f
 |_,.root,n,g=>by
  have e:n=s:=by simpa [QX] using g
  rw[e];exact a
 |_,.add t g p i m j r,n,h=>by
  rcases JC.mp h with z|z
  .exact t.inClosed b a n z
  .rw[z];exact b _ _ _ _ i p j r (t.inClosed b a _ m)
end Mir
namespace L2
theorem L9{F g H:Hp}:∀{as:Qg} {T1:List (Qd)},(∀ds∈T1,U2 ds)->(∀a∈as,g a=none)->Z8 F H as T1->Z8 g H as T1
 |[],[],_,_,_=>trivial
 |a::as,ds::T1,h,f,o=>by
  obtain⟨⟨_,xs,p,n⟩,i⟩:=o;exact⟨⟨f a Xc,xs,p,n.flats<|h ds Xc⟩,L9 (λd j=>h d<|Xi _ j) (λb m=>f b<|Xi _ m) i⟩
 |[],_::_,_,_,o=>False.elim o
 |_::_,[],_,_,o=>False.elim o
def IF(h:∀ds∈T1,U2 ds):Uf (.oll T1):=λK F w H v p f g=>by
 obtain⟨a,r,rfl,rfl,n,s,m,j⟩:=g;exact⟨a,r,rfl,rfl,n,f a Xc,m,L9 h (λb i=>f b<|Xi _ i) j⟩
section
variable {d:Drawn}{t:Nat}{os:OsState}
variable {q:Str}{N:Addr}{bs:Qe}{sub:Qe}
noncomputable abbrev Mh(C a:Addr):Obj:={ cls:=.ref C,data:=.fields #[.ref a,.none,.none,.none,.bool false,.none] }
abbrev Cg(vs:Qe):Obj:={ cls:=.type "tuple",data:=.seq vs.toArray }
noncomputable def VI(h:Heap)(C:Addr)(vs:Qe):Heap:=(h.push<|Cg vs).push (Mh C h.objs.size)
def Ai(F:ExcBaseFacts B newId initId L1)(T:OwnTail h L1 bm){f:Addr}
(j:h.get? C=some (excClassObj nm q C N bs bm Sf sn sub ab col dd k0 k1 k2 k3 k5 newId))(hn:h.Ns N mN)
(M:mN "__init__"=some (.ref f))(P:h.get? f=some fo)(R:fo.cls=.type "function")(a:rest.length<=sizeLine)
(K:wpAny (model prog w) A (call (.ref f) (.ref (h.objs.size+1)::rest)) (λr y=>r=.none/\Q (.done<|.ret<|.ref<|h.objs.size+1) y) E ⟨VI h C rest,g,d,t,os⟩):
 wpAny (model prog w) A (Builtin.«type.__call__» ⟨.ref C::rest,[]⟩) Q E ⟨h,g,d,t,os⟩:=by
 have m:∀b o,h.get? b=some o->(VI h C rest).get? b=some o:=λb o e=>Xg _ (Xg _ e)
 repeat (first
  |with_reducible refine wpAny_loadPart_at j ?_
  |with_reducible refine wpAny_madeBy_exc j ?_
  |wp_step)
 refine codeAny_call_builtin_code (Code.quiet_builtin _ F.quiet)
  (wpAny_check_new_subT F T j ?_)
 refine codeAny_exc_new_subT F T j ?_ a;show wpAny _ _ _ _ _ ⟨VI h C rest,g,d,t,os⟩
 have D:(VI h C rest).get? (h.objs.size+1)=some (Mh C h.objs.size):=by
  unfold VI;exact Dy (by rw[WI]) rfl
 have i:=m _ _ j;have v:(VI h C rest).Ns N mN:=hn.keeps m;have W:=T.keeps m;have n:(Value.ref C::bm).contains (.ref C)=true:=by simp
 unfold isInstance;repeat (first
  |with_reducible refine wpAny_loadPart_at D ?_
  |(with_reducible refine wpAny_isSubtype_exc i ?_;rw[n])
  |wp_step)
 show wpAny _ _ (typeLookup (.ref C) _) _ _ _;refine wpAny_typeLookup_tail i v W F.mroIs F.init.lookup ?_;rw[M];refine wpAny_holding (Xa<|wpAny_bindSpecial_def (s:=⟨VI h C rest,g,d,t,os⟩) (m _ _ P) R ?_);refine Xa (wpAny_mono K (λr y p=>?_) λ_ _ z=>z);obtain⟨rfl,p⟩:=p
 wp_walk
 exact p
def FH(F:ExcBaseFacts B newId initId L1)(T:OwnTail h L1 bm){f:Addr}
(b:h.get? C=some (excClassObj nm q C N bs bm Sf sn sub ab col dd k0 k1 k2 k3 k5 newId))(hn:h.Ns N mN)
(m:mN "__init__"=some (.ref f))(n:h.get? f=some fo)(p:fo.cls=.type "function")(a:rest.length<=sizeLine)
(j:wpAny (model prog w) (A.under<|.builtin "type.__call__" ⟨.ref C::rest,[]⟩) (call (.ref f) (.ref (h.objs.size+1)::rest)) (λr i=>r=.none/\Q (.ref<|h.objs.size+1) i) E ⟨VI h C rest,g,d,t,os⟩):
 wpAny (model prog w) A (call (.ref C) rest) Q E ⟨h,g,d,t,os⟩:=by
 have y:=tc_lookup;have v:=tc_bind (.ref C);have s:(⟨h,g,d,t,os⟩:Shared).TypeIs (.ref C) "type" := ⟨_,b,rfl⟩;refine wpAny_call (codeAny_of_tree ?_);show wpAny _ _ (callAny (.ref C) _) _ _ _
 repeat (any_goals (first
  |assumption
  |with_reducible refine wpAny_loadPart_at b ?_
  |wp_step))
 refine⟨rfl,?_⟩;refine codeAny_call_builtin_at (Code.quiet_builtin _<|by decide +kernel) entry_typeCall (wpAny_check_type_call_sub b ?_);refine Ai F T b hn m n p a ?_;exact wpAny_mono j (λr i z=>z) λ_ _ z=>z
end
def phX(C e:Addr)(a:Qj):Heap->Prop:=λh=>∃(t:Addr) (b:Array (Qf)),h.get? e=some { cls:=.ref C,dict:=a,data:=.fields #[.ref t,.none,.none,.none,.bool false,.none],slots:=b }
def Ms(p:phX C e dct h):Z6 P w H h e (.ext<|phX C e dct):=⟨p,by obtain⟨t,a,q⟩:=p;exact⟨_,q⟩,λg f b k=>by obtain⟨t,a,q⟩:=b;exact⟨t,a,k _ q⟩⟩
section
variable {d:Drawn}{t:Nat}{os:OsState}
variable {q:Str}{N:Addr}{bs:Qe}{sub:Qe}
def Cs(F:ExcBaseFacts B newId initId L1)(T:OwnTail h L1 bm){v:Value}
(j:h.get? C=some (excClassObj nm q C N bs bm Sf sn sub ab col dd k0 k1 k2 k3 k5 newId))
(he:h.get? e=some { cls:=.ref C,dict:=dct,data:=.fields #[.ref a,.none,.none,.none,.bool false,.none],slots:=sl })
(f:∀h',(∀b o,b≠e->h.get? b=some o->h'.get? b=some o)->phX C e dct h'->Q .none ⟨h',g,d,t,os⟩):
 wpAny (model prog w) A (call (.builtin initId) [.ref e,v]) Q E ⟨h,g,d,t,os⟩:=by
 refine wpAny_call (codeAny_call_builtin F.init.plain F.initEntry<|wpAny_check_init_subT F T j he rfl ?_)
 wp_walk using AutoSeq1.wpAny_loadPart' he
 refine f _ (λb o i z=>?_) ⟨h.objs.size,sl,?_⟩
 .rw[XV _ _<|Ne.symm i];exact Xg _ z
 .rw[X8 _ (Xg _ he) rfl];rfl
end
structure UQ(K:W.Frag)(Y C f:Addr):Prop where
 ga:W.specialIn K (.ref Y) "__getattribute__"=some (some<|.builtin "type.__getattribute__")
 rd:W.readsIn K Y (.type "type")=true
 ini:W.findCls K (.ref Y) (.type "type") "__init__"=some (.val<|.builtin "ValueError.__init__")
 cls:∀h:Heap,K.In h->∃(L1 bm:Qe) (nm q:Str) (N:Addr) (bs:Qe) (Sf:Bool) (sn:Qh) (sub:Qe) (ab:Bool) (col:Option Bool) (dd:Qj) (k0 k1 k2 k3 k5:Qf),
  ExcBaseFacts "ValueError" "ValueError.__new__" "ValueError.__init__" L1/\OwnTail h L1 bm/\h.get? C=some (excClassObj nm q C N bs bm Sf sn sub ab col dd k0 k1 k2 k3 k5 "ValueError.__new__")/\
  ∃(mN:Str->Qf) (fo:Obj),h.Ns N mN/\mN "__init__"=some (.ref f)/\h.get? f=some fo/\fo.cls=.type "function"
def tXI(C:Addr)(i:Nat):TE:=λσ H Q=>∃e a,σ[i]?=some (some<|.ref e)/\H e=some (.ext<|phX C e a)/\Q .non H
def Ij{f:Addr}(c:UQ X.K Y C f){x y:Str}{B A v p g:Pos}{a:Str}{w:Nat}(hg:Gl X x)(Z:X.mg x=some (.ref Y))(hN:X.N[i]?=some y)(S:Vis X.env.scope y)
(D:(x==("__debug__" : Str))=false:=by decide)(hd:(y==("__debug__" : Str))=false:=by decide)(E:(y==("__classdict__" : Str))=false:=by decide){pl:Sem Bool}
(U:eval (.Call (.Attribute (.Name x B) "__init__" A) [.Name y v,.Constant (.str a) w p] [] g) X.env=(do
  let d <- eval (.Name x B) X.env
  standAt A.atName
  let (f,first) <- holding [d] (getMethod d "__init__" pl)
  callWith g f first (backTo g<|starEach [.Name y v,.Constant (.str a) w p] X.env)<|backToKw g<|keywordEach [] X.env):=by rfl):
 PE X (.Call (.Attribute (.Name x B) "__init__" A) [.Name y v,.Constant (.str a) w p] [] g) (tXI C i):=by
 intro Xa7 s σ H Q I h;obtain⟨e,m,e1,K,q⟩:=h;refine W.methodCall_KW (pl:=pl) (J0 I hg Z ?_ D) U;refine W.method_cls I.kIn c.ga (W.cls_value I.kIn c.rd c.ini (by decide +kernel) ?_);have I1:=I.tok (s.toks+1);have n:PA X [.Name y v,.Constant (.str a) w p] (QF (Q5 i)<|QF (tC<|.str a) QM):=Qo (Sr hN S hd E) (Qo Vo Qr);refine PyProof.Rows.callWith_builtin1 (QB (n g Xa7 _ σ H (λP j=>P=[.ref e,.str a]/\j=H) I1 ⟨_,e1,rfl,rfl⟩) ?_) rfl rfl;rintro us t ⟨P,j,M,r,ev,eH⟩;subst ev eH;cases r with
 |cons G r=>
 cases r with
 |cons u r=>
 cases r;cases G;obtain⟨tk,rfl⟩:=u;have O:=M.hok e _ K;obtain⟨⟨ta,sl,he⟩,_,_⟩:=O;obtain⟨L1,bm,nm,qn,N,bs,Sf,sn,l,ab,col,dd,k0,k1,k2,k3,k5,F,T,hC,_⟩:=c.cls _ M.kIn;refine Cs F T hC he λh' L R=>?_;have J:Mut (j e):=by rw[K];trivial
 have W:=M.write (h':=h') (t':=t.toks) (o:=.ext (phX C e m)) J Qa L (by obtain⟨_,_,z⟩:=R;exact⟨_,z⟩) (Ms R);have eu:upd j e (.ext<|phX C e m)=j:=by
  funext b
  by_cases k:b=e
  .subst k;simp[upd,K]
  .simp[upd,k]
 rw[eu]at W;exact⟨.non,j,W,rfl,q⟩
noncomputable def WZ:Qe->Bool
 |.ref _::r=>WZ r
 |l=>l==[.type "ValueError",.type "Exception",.type "BaseException",.type "object"]
theorem T7(a:Value):∀{l:Qe},WZ l=true->refuseLoop a "__setattr__" l=pure ()
 |.ref c::r,e=>by rw[refuseLoop_ref];exact T7 a (by simpa [WZ] using e)
 |[],e=>by cases e
 |.type n::r,e=>by rw[show(Value.type n::r)=_ from beq_iff_eq.mp e];exact PySem.F.store_ValueError.passes a
theorem S5:∀{l:Qe},WZ l=true->l.contains (.type "object")=true
 |.ref c::r,e=>by rw[List.contains_cons,S5 (l:=r)<|by simpa [WZ] using e,Bool.or_true]
 |[],e=>by cases e
 |.type n::r,e=>by rw[show(Value.type n::r)=_ from beq_iff_eq.mp e];decide
section
open PySem.W
variable {R:Result->Shared->Prop}{K:Frag}{x:Addr}
def Fm{v:Value}{r:Qf}(X:K.In s.heap)(I:W.InstAt s.heap x ox C od)(E:((clsIn K C).any λcd=>WZ cd.mro)=true)(D:takerIn K C name=some r)
(h:∀b,wpAny (model prog w) A.in1 (match r with|some a=>Builtin.ObjectAttr.setByDescriptor a (.ref x) v|none=>Builtin.ObjectAttr.storeInOwnDict (.ref x) (.ref C) (.str name tk) name v b)
  (λfin j=>match fin with|.done f=>R (.ok f) j|.again c'=>c'.quiet=true/\codeAny (model prog w) A c' R j) (λe j=>R (.error e) j) s):
 codeAny (model prog w) A (.call (.builtin "object.__setattr__") ⟨[.ref x,.str name tk,v],[]⟩) R s:=by
 have i:=PySem.F.store_object;obtain⟨cd,y,m⟩:=any_some E;have B:cd.mro.isEmpty=false:=by cases q:cd.mro with|nil=>rw[q]at m;cases m|cons _ _=>rfl
 have n:Looks (model prog w) s.heap (isInstance (.ref x)<|.type "object") true:=I.type.andThen (looks_mroIn X<|by unfold mroIn;rw[y,Option.bind_some,Xb<|by rw[B];decide,S5 m]);refine codeAny_call_builtin i.slot.plain i.entry (@check_slot (model prog w) _ _ s "object.__setattr__" "object" "__setattr__" (.ref x) [.str name tk,v] [] _ i.kind i.split n (i.args (.ref x) (.str name tk) v) ?_);obtain⟨g,Y,p⟩:=Option.bind_eq_some_iff.mp D;have M:Looks (model prog w) s.heap (mroOf<|.ref C) cd.mro:=(looks_clsIn X y).andThen .now;have c:Looks (model prog w) s.heap (Builtin.ObjectAttr.storeTaker? g) r:=by
  cases g with
  |none=>cases p;exact .now
  |some a=>
   obtain⟨b,P,rfl⟩:=Option.map_eq_some_iff.mp p;refine(looks_takesIn X P).andThen ?_;cases b<;>exact .now
 rw[osa_eq,refuse_eq];refine Xa (Xa<|I.type.here<|Xa<|M.here ?_);rw[T7 _ m];refine Xj (Xa<|I.type.here<|Xa<|(looks_findIn X Y).here (Xa<|c.here ?_));exact h _
def Fg{v:Value}(X:K.In s.heap)
(i:findIn K (.ref C) "__setattr__"=some (some<|.builtin "object.__setattr__"))(c:((clsIn K C).any λcd=>WZ cd.mro)=true)(Y:takerIn K C name=some none)(d:hasDictIn K C=true)
(g:s.heap.get? x=some { cls:=.ref C,dict:=none,data:=.fields fs,slots:=sl })
(h:∀h' t',(∀b o,b≠x->s.heap.get? b=some o->h'.get? b=some o)->h'.get? x=some { cls:=.ref C,dict:=some s.heap.objs.size,data:=.fields fs,slots:=sl }->
  h'.Ns1 s.heap.objs.size (λy=>if y=name then some v else none)->Q () { s with heap:=h',toks:=t' }):
 wpAny (model prog w) A (setAttr (.ref x) name v) Q E s:=by
 have J:W.InstAt s.heap x _ C none:=⟨g,rfl,rfl,trivial⟩;refine W.set_plain X J i (Fm (s:={ s with toks:=s.toks+1 }) (r:=none) X J c Y λb=>?_);obtain⟨cd,l,B⟩:=W.any_some d;refine Xa (Xj<|Xa<|Xa<|wpAny_loadPart g<|Xa<|W.Looks.here (s:={ s with toks:=s.toks+1 }) (W.looks_clsIn X l) ?_);rw[B];have R:(s.heap.push { cls:=.type "dict",data:=.dict #[] }).get? x=_:=Xg _ g;have a:x≠s.heap.objs.size:=Xr (Xk g);rw[Xb<|by decide];dsimp only;rw[Xb<|by simp[typeHasDict]];refine Xa (wpAny_alloc' ?_);refine Xa (wpAny_update' R ?_);refine Xj ?_;have n:((s.heap.push { cls:=.type "dict",data:=.dict #[] }).update x λo=>{ cls:=o.cls,dict:=some s.heap.objs.size,data:=o.data,slots:=o.slots }).get? s.heap.objs.size
  = some { cls:=.type "dict",data:=.dict #[] }:=
  (Heap.get?_update_ne _ _ _ _ a.symm).trans (Dy rfl rfl)
 have m:((s.heap.push { cls:=.type "dict",data:=.dict #[] }).update x λo=>{ cls:=o.cls,dict:=some s.heap.objs.size,data:=o.data,slots:=o.slots }).Ns s.heap.objs.size (λ_=>none):=
  ⟨_,#[],_,n,rfl,λe k=>Xz k<|by simp,λ_=>rfl⟩
 show wpAny _ _ (Builtin.ObjectAttr.storeInDict s.heap.objs.size (.str name s.toks) name v) _ _ _;unfold Builtin.ObjectAttr.storeInDict Builtin.ObjectAttr.newKeyGuard;refine Xa (Xj<|Xa<|wpAny_nsSet1 (Heap.Ns1.of_empty m) λh' f i=>?_);obtain⟨z,q,t,j,p,D⟩:=f.count (Within.cons name v Within.nil);refine Xa (wpAny_lookBehind j (by rw[p];exact pastItsLine_dict<|X0 D<|by rw[XN,List.length_nil,sizeLine_eq];lia) ?_);refine Xj (h _ _ (λb u M P=>?_) ?_ f)
 .exact(i.2 b<|Xr<|Xk P).trans ((Heap.get?_update_ne _ _ _ _ M).trans (Xg _ P))
 .exact(i.2 x a).trans (X8 _ R rfl)
end
structure LM(K:W.Frag)(C:Addr):Prop where
 sa:W.findIn K (.ref C) "__setattr__"=some (some<|.builtin "object.__setattr__")
 ov:((W.clsIn K C).any λcd=>WZ cd.mro)=true
 hd:W.hasDictIn K C=true
def sXF(C:Addr)(ta tv:TE)(f:Str):TS:=λD σ H=>tv σ H λy b=>ta σ b λx a=>∃e,x=.ref e/\a e=some (.ext<|phX C e none)/\
 ∀dx,a dx=none->dx≠e->D.nx σ (upd (upd a e<|.ext<|phX C e<|some dx) dx<|.xd [(f,y)])
section
variable {o value:Expr}
def AF(c:LM X.K C)(G:W.takerIn X.K C f=some none)(Q:PE X o ta)(r:PE X value tv)(J:swapsWith value (some<|.Attribute o f pos') pos.line X.env=pure false):PS X (.Assign [.Attribute o f pos'] value pos) (sXF C ta tv f):=by
 intro Xa7 s σ H D I h;refine plainObj_wpAny_Assign_Attribute (QB (r Xa7 s σ H _ I h) ?_) J;rintro u R ⟨y,U,T,Y,q⟩;refine QB (Q Xa7 R σ U _ T q) ?_;rintro l m ⟨x,M,b,d,e,S,K,k⟩;subst S;obtain rfl:l=Value.ref e:=d;obtain⟨⟨ta,P,E⟩,_,_⟩:=b.hok e _ K;refine Fg b.kIn c.sa c.ov G c.hd E λh' t' F B N=>?_;have t:Mut (M e):=by rw[K];trivial
 have W:=b.write (h':=h') (t':=t') (o:=.ext (phX C e<|some m.heap.objs.size)) t Qa F ⟨_,B⟩ (Ms ⟨ta,P,B⟩);have i:m.heap.objs.size≠e:=(Xr<|Xk E).symm;have j:M m.heap.objs.size=none:=b.fresh;refine⟨σ,_,W.track (a:=m.heap.objs.size) (o:=.xd [(f,y)]) (by rw[Qu i];exact j) b.sz (Yo b.lt) (λz c O n=>?_) (λp L n=>?_) ⟨_,N,λg=>?_⟩,k _ j i⟩
 .obtain⟨v,r⟩:=b.cell z c O;subst n;obtain⟨Z,A,_⟩:=r;exact Xz (Xk A) (Y5 _)
 .have:=(b.pin p L).1;rw[n]at this;exact Xz (Xk this) (Y5 _)
 .show ZT (List.lookup g [(f,y)]) (if g=f then some u else none)
  by_cases w:g=f
  .subst w;simp[List.lookup];exact Y
  .rw[Xb w];have:(g==f)=false:=by simpa using w
   simp[List.lookup,this];trivial
end
def D9(C:Addr)(f:Sp)(E:XK)(t:TA):TE:=λσ H Q=>t σ H λa b=>a.length<=1000/\∀x,b x=none->
 f (.ref x::a) (upd b x<|.ext<|phX C x none) (λv g=>v=.non/\Q (.ref x) g) E
section
variable {CX:CXT}{k:Nat}{f:Addr}{sp:Sp}{E:XK}{x:Str}{e:Expr}{t:TA}
def ZnD(c:UQ X.K Y C f)(F:FnOk X.prog X.w X.K X.mg X.base CX k f fd ps sp)(l:Room (k+1) X.A)(G:Vw X.K fd ps [])
(W:Yj CX X E)(I:Qt X Xa7 σ H s)(r:QQ vs us)(hl:vs.length<=1000)
(h:∀x,H x=none->sp (.ref x::vs) (upd H x<|.ext<|phX C x none) (λv Z=>v=.non/\Q (.ref x) Z) E):
 wpAny (model X.prog X.w) X.A (call (.ref C) us) (EP X Xa7 σ Q) X.xe s:=by
 obtain⟨L1,bm,nm,qn,N,bs,Sf,sn,A,ab,col,dd,k0,k1,k2,k3,k5,FB,T,L,mN,fo,J,q,z,p⟩:=c.cls _ I.kIn;have y:=h (s.heap.objs.size+1) (I.hok.fresh<|UJ _);obtain⟨a,g,d,t,M⟩:=s;have R:∀b o,a.get? b=some o->(VI a C us).get? b=some o:=λb o e=>Xg _ (Xg _ e)
 have P:(VI a C us).get? (a.objs.size+1)=some (Mh C a.objs.size):=by
  unfold VI;exact Dy (by rw[WI]) rfl
 have j:Qt X Xa7 σ (upd H (a.objs.size+1)<|.ext<|phX C (a.objs.size+1) none) ⟨VI a C us,g,d,t,M⟩:=I.laid (t':=t) R (UJ _) (Ms ⟨_,_,P⟩);have w:QQ (V.ref (a.objs.size+1)::vs) (Value.ref (a.objs.size+1)::us):=.cons rfl r;have n:(Value.ref (a.objs.size+1)::us++[]).length=ps.length:=by
  have e:=w.length;rw[F.len _ _ _ _ y]at e;simpa using e.symm
 refine FH FB T L J q z p (by rw[<- r.length,sizeLine_eq];lia) ?_;have m:=F.run _ X.stack _ _ ⟨Value.ref (a.objs.size+1)::us,[]⟩ (Value.ref (a.objs.size+1)::us) _ _ E (l.make C us []) (j.env0.make C us []) (by simpa using G _ (Value.ref (a.objs.size+1)::us) j.kIn n) w y;refine wpAny_call (codeAny_mono m λr B i=>?_);cases r with
 |error e=>exact W Xa7 σ _ _ e B j i
 |ok O=>
  cases O with
  |ret u=>
   obtain⟨v,H',U,D,S,K⟩:=j.after i;subst S;exact⟨D,⟨V.ref<|a.objs.size+1,H',U,rfl,K⟩⟩
  |next=>exact False.elim i
  |brk=>exact False.elim i
  |cont=>exact False.elim i
def ET(c:UQ X.K Y C f)(g:W.keepIn X.K (.ref C)=true)(F:FnOk X.prog X.w X.K X.mg X.base CX k f fd ps sp)(j:Room (k+1) X.A)(n:Gl X x)(m:X.mg x=some (.ref C))(v:Vw X.K fd ps [])(i:Yj CX X E)
(w:PA X (e::es) t)(a:(x==("__debug__" : Str))=false:=by decide)(he:zs X e es:=by rfl)(hpl:zb X pos es:=by rfl):
 PE X (.Call (.Name x p) (e::es) [] pos) (D9 C sp E t):=by
 intro Xa7 s σ H Q I h;refine wpAny_Call_Name_kw (J0 I n m ?_ a);refine W.callWith_K (h₀:=X.base) I.ok.mod.kin g (QB (w pos Xa7 s σ H _ I h) ?_) he hpl;rintro A B ⟨y,D,b,r,q⟩;refine⟨b.kIn,?_⟩;exact ZnD c F j v i b r q.1 q.2
end
def sXR(C:Addr)(te:TE)(R:Addr->Qj->Hp->Prop):TS:=λD σ H=>te σ H λv b=>∃e a,v=.ref e/\b e=some (.ext<|phX C e a)/\R e a b
section
variable {env:Env}
variable {q:Str}{N:Addr}{bs:Qe}{sub:Qe}
def SM(n:A.handled=none)
(h:wpAny M A x (λv f=>∃e t b j bm nm q N bs Sf sn sub ab col dd k0 k1 k2 k3 k5 newId,v=.ref e/\bm.contains (Value.type "BaseException")=true/\f.heap.get? C=some (excClassObj nm q C N bs bm Sf sn sub ab col dd k0 k1 k2 k3 k5 newId)/\
  f.heap.get? e=some { cls:=.ref C,dict:=b,data:=.fields #[.ref t,.none,.none,.none,.bool false,.none],slots:=j }/\E (.ref e) f) E s):
 wpAny M A (raiseStmt env (some x) none) Q E s:=by
 unfold raiseStmt;refine Xa (wpAny_mono h (λv f w=>?_) λ_ _ x=>x);obtain⟨e,t,b,j,bm,nm,q,N,bs,Sf,sn,sub,ab,col,dd,k0,k1,k2,k3,k5,newId,rfl,a,m,p,r⟩:=w;have i:(Value.ref C::bm).contains (.type "BaseException")=true:=by rw[List.contains_cons,a,Bool.or_true]
 obtain⟨D,g,d,y,B⟩:=f
 repeat (first|with_reducible refine wpAny_loadPart_at p ?_|with_reducible refine wpAny_loadPart_at m ?_|(with_reducible refine wpAny_isSubtype_exc m ?_;rw[i])|wp_step)
 exact wpAny_raiseNew_none n r
end
structure Leaves(l:List Env)(e:Addr)(oe:Obj)(h h':Heap)(T:Addr):Prop where
 keep:∀b o,b∉l.filterMap (·.frame)->b≠e->h.get? b=some o->h'.get? b=some o
 slot:∀b o,b∈l.filterMap (·.frame)->h.get? b=some o->∃sl,h'.get? b=some { o with slots:=sl }
 new:h.objs.size<=T
 exc:h'.get? e=some (Obj.mapFields (·.setIfInBounds 1 (Value.ref T)) oe)
 tb:∃oT ts,h'.get? T=some oT/\oT.data=.fields ts/\ts[3]?=some .none
def Tn
(B:A.frames=some (env::outer))(K:s.heap.FunFrames base (env::outer))(t:env.frame=some L)
(he:s.heap.get? e=some oe)(C:oe.data=.fields vs)(hsz:1<vs.size)
(h:∀h' T,Leaves (env::outer) e oe s.heap h' T->Q () { s with heap:=h' }):
 wpAny M A (do let a <- frameOf env;let pl <- entryPlaceOf L hadNext;let b <- EntryCells.newEntry head a .none (rawInt L) .none pl;setField (.ref e) 1 b) (λ_ d=>wpAny M A (setFlight (.ref e) none) Q E d) E s:=by
 have m:e∉(env::outer).filterMap (·.frame):=λl=>by
  obtain⟨_,o,j,y⟩:=K.mem l;rw[he]at j;injection j with j;subst j;exact y vs C
 refine Xa (wpAny_frameOf_fun B K t λg w=>?_);refine Xa (wpAny_entryPlaceOf λpl r=>?_);unfold EntryCells.newEntry newFields;refine Xa (wpAny_newObj_type ?_<|r.sizeOk5 _ _ _ _ _);have X:g.get? e=some oe:=(w.2.1 e m).trans he;have Y:=Xg (h:=g) { cls:=.type "traceback",dict:=none,data:=.fields ([head,.ref L,.none,rawInt L,.none]++(if pl.isEmpty then List.replicate 6 Value.none else pl)).toArray } X;refine wpAny_setField Y C hsz ?_;have v:g.objs.size≠e:=Yo (Xk X);have W:=Obj.data_mapFields C (·.setIfInBounds 1 (Value.ref g.objs.size));have R:=X8 (Obj.mapFields (·.setIfInBounds 1 (Value.ref g.objs.size))) Y (Obj.isFreed_of_fields W);have P:=(XV (g.push { cls:=.type "traceback",dict:=none,data:=.fields ([head,.ref L,.none,rawInt L,.none]++(if pl.isEmpty then List.replicate 6 Value.none else pl)).toArray })
  (Obj.mapFields (·.setIfInBounds 1 (Value.ref g.objs.size))) (Ne.symm v)).trans (XB g rfl)
 unfold setFlight;refine Xa (Wt R W (x:=.ref g.objs.size) (by simp[hsz]) ?_);rw[Xd (show(Value.ref g.objs.size != Value.none)=true from by simp)];refine wpAny_setField P rfl (by simp only[Xu,Xn,XN,List.length_nil]<;>lia) (h _ g.objs.size ?_);have i:∀b o,b≠e->g.get? b=some o->
  (((g.push { cls:=.type "traceback",dict:=none,data:=.fields ([head,.ref L,.none,rawInt L,.none]++(if pl.isEmpty then List.replicate 6 Value.none else pl)).toArray }).update e (Obj.mapFields (·.setIfInBounds 1 (Value.ref g.objs.size)))).update g.objs.size
    (Obj.mapFields (·.setIfInBounds 3 ((none:Qj).elim Value.none λf=>rawInt f)))).get? b=some o:=λb o n p=>by
  have D:g.objs.size≠b:=Yo (Xk p);rw[XV _ _ D,XV _ _<|Ne.symm n];exact Xg _ p
 refine⟨λb o p n j=>i b o n<|(w.2.1 b p).trans j,λb o p j=>?_,?_,?_,?_⟩
 .obtain⟨c,k⟩:=w.2.2 b o j;exact⟨c,i b _ (λq=>m<|q▸p) k⟩
 .exact Nat.le_of_eq w.1.symm
 .rw[XV _ _ v];exact R
 .exact⟨_,_,X8 _ P<|Obj.isFreed_of_fields<|Obj.data_mapFields rfl _,Obj.data_mapFields rfl _,by first|(simp;done)|(rcases r with rfl|⟨_,_,_,_,_,_,_,rfl⟩<;>simp)⟩
def Zk0
(a:A.frames=some (env::outer))(i:s.heap.FunFrames base (env::outer))(b:env.frame=some L)
(he:s.heap.get? e=some oe)(f:oe.data=.fields vs)(g:vs[1]?=some .none)
(h:∀h' T,Leaves (env::outer) e oe s.heap h' T->Q () { s with heap:=h' }):wpAny M A (leaving env<|.ref e) Q E s:=by
 unfold leaving noteFrame;simp only[b];refine Xa (Xa<|Wt he f g ?_);rw[Xb<|by decide];exact Tn a i b he f (Array.getElem?_eq_some_iff.mp g).1 h
def Lp{env:Env}{ts:Array Value}
(v:A.frames=some (env::outer))(R:s.heap.FunFrames base (env::outer))(y:env.frame=some L)
(he:s.heap.get? e=some oe)(B:oe.data=.fields vs)(C:vs[1]?=some (.ref T0))(W:T0≠e)(hT:s.heap.get? T0=some oT)(a:oT.data=.fields ts)(n:ts[3]?=some .none)
(h:∀h' T,Leaves (env::outer) e oe s.heap h' T->Q () { s with heap:=h' }):wpAny M A (noteFrame (.ref e) env) (λ_ K=>wpAny M A (setFlight (.ref e) none) Q E K) E s:=by
 unfold noteFrame;simp only[y];refine Xa (Wt he B C ?_);rw[Xd (show(Value.ref T0 != Value.none)=true from by simp)];refine Xa (Wt hT a n ?_);rw[Xb (show ¬((Value.none==rawInt L)=true) from by simp[rawInt])];refine Xa (wpAny_setField hT a (Array.getElem?_eq_some_iff.mp n).1 ?_);have j:3<ts.size:=(Array.getElem?_eq_some_iff.mp n).1;have g:Obj.mapFields (·.setIfInBounds 3 Value.none) oT=oT:=by
  obtain⟨c,d,Y,X⟩:=oT;subst a;have:ts.setIfInBounds 3 Value.none=ts:=by
   apply Array.ext_getElem?;intro i;rw[Array.getElem?_setIfInBounds];by_cases w:3=i
   .subst w;rw[Xd rfl,Xd j,n]
   .rw[Xb w]
  unfold Obj.mapFields;simp[this]
 have f:∀b o,s.heap.get? b=some o->(s.heap.update T0<|Obj.mapFields (·.setIfInBounds 3 Value.none)).get? b=some o:=λb o m=>by
  by_cases q:b=T0
  .subst q;rw[hT]at m;cases m;rw[X8 _ hT<|Obj.isFreed_of_fields<|Obj.data_mapFields a _,g]
  .rw[XV _ _<|Ne.symm q];exact m
 refine Tn (s:={ s with heap:=_ }) v (R.of_keeps λb o m P=>⟨o,f b o m,rfl⟩) y (f e _ he) B (Array.getElem?_eq_some_iff.mp C).1 λh' T Z=>h h' T ?_
 exact⟨λb o r p D=>Z.keep b o r p<|f b o D,λb o r p=>Z.slot b o r<|f b o p,by have:=Z.new;simpa only [Heap.size_update] using this,Z.exc,Z.tb⟩
def Zmu{ts:Array Value}
(a:A.frames=some (env::outer))(g:s.heap.FunFrames base (env::outer))(i:env.frame=some L)
(he:s.heap.get? e=some oe)(j:oe.data=.fields vs)(n:vs[1]?=some (.ref T0))(f:T0≠e)(hT:s.heap.get? T0=some oT)(b:oT.data=.fields ts)(m:ts[3]?=some .none)
(h:∀h' T,Leaves (env::outer) e oe s.heap h' T->Q () { s with heap:=h' }):wpAny M A (leaving env<|.ref e) Q E s:=Xa (Lp a g i he j n f hT b m h)
def phT(T:Addr):Heap->Prop:=λh=>∃a ts,h.get? T=some a/\a.data=.fields ts/\ts[3]?=some .none
def phF(C e:Addr)(b:Qj)(T:Addr):Heap->Prop:=λh=>∃(a:Array Value) (f:Array (Qf)),h.get? e=some { cls:=.ref C,dict:=b,data:=.fields a,slots:=f }/\a[1]?=some (.ref T)/\a[2]?=some .none
def FO(p:phT T h):Z6 P w H h T (.ext<|phT T):=⟨p,by obtain⟨o,_,q,_⟩:=p;exact⟨_,q⟩,λf b a k=>by obtain⟨o,ts,q,r⟩:=a;exact⟨o,ts,k _ q,r⟩⟩
def Cd(p:phF C e dct T h):Z6 P w H h e (.ext<|phF C e dct T):=⟨p,by obtain⟨o,_,q,_⟩:=p;exact⟨_,q⟩,λf b a k=>by obtain⟨o,ts,q,r⟩:=a;exact⟨o,ts,k _ q,r⟩⟩
noncomputable abbrev left(C e:Addr)(dct:Qj)(T:Addr)(H:Hp):Hp:=upd (upd H e<|.ext<|phF C e dct T) T (.ext<|phT T)
section
variable {H:Hp}
def K4(I:Qt X Xa7 σ H s)(y:Mut (H e))
(he:s.heap.get? e=some { cls:=.ref C,dict:=dct,data:=.fields vs,slots:=k })(hsz:1<vs.size)(E:vs[2]?=some .none)
(Z:Leaves X.stack e { cls:=.ref C,dict:=dct,data:=.fields vs,slots:=k } s.heap h' T):Qt X Xa7 σ (left C e dct T H) { s with heap:=h' }:=by
 have M:T≠e:=Yo (Xp (Xk he) Z.new);have h:∀b,H b=none->b≠e:=λb a q=>by subst q;rw[a]at y;exact y
 have D:∀b o,H b=some o->b≠T:=λb o a=>Xr (Xp (I.hok.lt a) Z.new)
 have i:∀b o,H b=some o->b≠e->left C e dct T H b=some o:=λb o a q=>by
  unfold left;rw[Qu<|D b o a,Qu q];exact a
 have m:∀b o,H b=some o->b∉frs X.stack:=λb o a q=>by rw[I.stkFree b q]at a;cases a
 have f:∀b o,H b=some o->¬Mut (some o)->b≠e:=λb o a n q=>by subst q;rw[a]at y;exact n y
 have U:Un (frs X.stack) [] H (left C e dct T H) s.heap h':=
  { keep:=λb o j a r _=>Z.keep b o r (h b a) j
    slot:=λb o j a r _=>Z.slot b o r j
    free:=λb o j a _=>by
     unfold left;rw[Qu<|Xr<|Xp (Xk j) Z.new,Qu<|h b a];exact a
    there:=λb o j _=>by
     by_cases r:b∈frs X.stack
     .obtain⟨k,z⟩:=Z.slot b o r j;exact⟨_,z⟩
     .by_cases q:b=e
      .subst q;exact⟨_,Z.exc⟩
      .exact⟨_,Z.keep b o r q j⟩
    tups:=λb xs a=>i b _ a (f b _ a λz=>z)
    frzs:=λb o u a=>i b _ a (f b _ a λz=>z)
    tupo:=λb xs o a j _=>Z.keep b o (m b _ a) (f b _ a λz=>z) j
    tbls:=λb ps a=>⟨#[],by rw[i b _ a<|f b _ a λz=>z];simp⟩ }
 have B:HOk X.prog X.w (left C e dct T H) h':=λb u a=>by
  by_cases q:b=T
  .subst q;unfold left at a;rw[QG]at a;cases a;exact FO Z.tb
  .by_cases A:b=e
   .subst A;unfold left at a;rw[Qu q,QG]at a;cases a;exact Cd ⟨_,_,Z.exc,by simp[hsz],by rw[Array.getElem?_setIfInBounds_ne<|by decide];exact E⟩
   .have w:H b=some u:=by unfold left at a;rw[Qu q,Qu A]at a;exact a
    refine(I.hok b u w).stay (λc v p K=>?_) (λc p=>?_) λc xs p=>?_
    .rcases p with z|z
     .subst z;exact Z.keep c v (m c _ w) A K
     .exact Z.keep c v (m c _ z) (f c _ z λz=>z) K
    .exact i c _ p (f c _ p λz=>z)
    .exact i c _ p (f c _ p λz=>z)
 obtain⟨R,g,d,t,P⟩:=s;exact I.call (h':=h') (g':=g) (d':=d) (t':=t) (ch:=[]) U B I.bare<|by rintro b ⟨⟩
end
def Fly(C e:Addr)(a:Qj)(H:Hp):Prop := ∃T,T≠e/\H e=some (.ext<|phF C e a T)/\H T=some (.ext<|phT T)
def XE(C:Addr)(R:Addr->Qj->Hp->Prop):XK:=λv a H=>∃e,v=.ref e/\Fly C e a H/\R e a H
def CX1(P:Program)(w:World):CXT:=λouter H s E v a=>∃b f,a.os=s.os/\AllBare a.gens/\Un (frs outer) [] H f s.heap a.heap/\HOk P w f a.heap/\E v b f
def ZV(C:Addr)(R:Addr->Qj->Hp->Prop):Prop := ∀e a H T,R e a H->H T=none->T≠e->R e a (left C e a T H)
section
variable {base:Heap}{N:Qh}{f:Addr}
noncomputable abbrev cx1(P:Program)(w:World)(K:W.Frag)(mg:Str->Qf)(base:Heap)(N:Qh)(qual:Str)(scope:Scope)(f:Addr)(cd:Value)(A:Around)(outer:List Env)(s0:Shared)(H0:Hp)(E:XK):Cx:=Vq (CX1 P w) P w K mg base N qual scope f cd A outer s0 H0 E
variable {H:Hp}
def Ef(h:T≠e):Fly C e dct (left C e dct T H):=⟨T,h,by unfold left;rw[Qu<|Ne.symm h,QG],by unfold left;rw[QG]⟩
def Sw(b:ZV C R)(I:Qt (cx1 P w K mg base N qual scope f cd A outer s0 H0<|XE C R) Xa7 σ (left C e dct T H) { s with heap:=h' })(hT:H T=none)(a:T≠e)(r:R e dct H):
 CX1 P w outer H0 s0 (XE C R) (.ref e) { s with heap:=h' }:=⟨dct,_,I.os,I.bare,I.base,I.hok,e,rfl,Ef a,b e dct H T r hT a⟩
def Pw(b:ZV C R)(I:Qt (cx1 P w K mg base N qual scope f cd A outer s0 H0<|XE C R) Xa7 σ H s)(he:H e=some (.ext<|phX C e dct))(r:R e dct H):
 (cx1 P w K mg base N qual scope f cd A outer s0 H0<|XE C R).xe (.ref e) s:=by
 obtain⟨⟨t,g,a⟩,_,_⟩:=I.hok e _ he;refine Zk0 I.ok.frames I.stack rfl a rfl rfl λh' T Z=>?_;exact Sw b (K4 I (by rw[he];trivial) a (by simp) rfl Z) (I.hok.fresh Z.new) (Yo<|Xp (Xk a) Z.new) r
def Ut(c:ZV C R):Yj (CX1 P w) (cx1 P w K mg base N qual scope f cd A outer s0 H0<|XE C R) (XE C R):=by
 intro Xa7 σ H s v W I h;obtain⟨o,G,X,i,M,p,e,rfl,⟨q,y,D,hT⟩,r⟩:=h;obtain⟨Y,g,d,t,j⟩:=W;obtain rfl:j=s.os:=X;have a:=I.call (h':=Y) (g':=g) (d':=d) (t':=t) (ch:=[]) M p i (by rintro b ⟨⟩);obtain⟨⟨u,x,n,E,B⟩,_,_⟩:=a.hok e _ D;obtain⟨⟨F,ts,m,l,k⟩,_,_⟩:=a.hok q _ hT;refine Zmu a.ok.frames a.stack rfl n rfl E y m l k λh' T Z=>?_;exact Sw c (K4 a (by rw[D];trivial) n (Array.getElem?_eq_some_iff.mp E).1 B Z) (a.hok.fresh Z.new) (Yo<|Xp (Xk n) Z.new) r
end
section
variable {f:Addr}{e:Expr}
def ED(c:UQ X.K Y C f)(g:X.calm=true)(A:PE X e te)(y:∀Xa7 σ H s a b,Qt X Xa7 σ H s->H a=some (.ext<|phX C a b)->R a b H->X.xe (.ref a) s):PS X (.Raise (some e) none pos) (sXR C te R):=by
 intro Xa7 s σ H D I h;rw[arm_exec_Raise];simp only[evalOpt,Option.map];refine Xa (wpAny_standAt<|SM (C:=C) (I.ok.hd g)<|Xa<|QB (A Xa7 s σ H _ I h) ?_);rintro u P ⟨v,W,m,r,a,b,E,n,q⟩;refine Xa<|wpAny_standAt<|Xj ?_;subst E;obtain rfl:u=Value.ref a:=r;obtain⟨⟨t,p,j⟩,_,_⟩:=m.hok a _ n;obtain⟨L1,bm,nm,w,N,K,Sf,sn,i,ab,col,dd,k0,k1,k2,k3,k5,M,T,B,_⟩:=c.cls _ m.kIn
 exact⟨a,t,b,p,bm,nm,w,N,K,Sf,sn,i,ab,col,dd,k0,k1,k2,k3,k5,_,rfl,T.hasType M.hasBase,B,j,y _ _ _ _ _ _ m n q⟩
end
inductive Lefts(C e:Addr)(dct:Qj):Hp->Hp->Prop
 |nil {H}:Lefts C e dct H H
 |step {H H' T}:Lefts C e dct H H'->H' T=none->T≠e->Lefts C e dct H (left C e dct T H')
def Lefts.head(hT:H T=none)(he:T≠e)(h:Lefts C e dct (left C e dct T H) H'):Lefts C e dct H H':=by
 induction h with
 |nil=>exact .step .nil hT he
 |step _ a b f=>exact .step f a b
noncomputable abbrev Jf(X:Cx)(e:Addr)(pn:Qc):Cx:={ X with pn:=pn,A:=X.A.mark (some<|.ref e),calm:=false,xe:=λ_ _=>False }
section
variable {H:Hp}{D:Ends}
def Qt.toPn(I:Qt X Xa7 σ H s):Qt { X with pn:=X.pn++Xa7 } [] σ H s:=
 ⟨⟨I.ok.mod,I.ok.kind,I.ok.glob,I.ok.blt,I.ok.above,I.ok.inj,I.ok.has,I.ok.cab,I.ok.hd,I.ok.frames,I.ok.stk,I.ok.exf,I.ok.bs,I.ok.bsz,I.ok.noex,I.ok.exfs,I.ok.funs,I.ok.frf⟩,I.os,I.bare,I.base,I.loc,I.cell,I.free,I.freeC,λp a=>I.pin p<|by simpa using a,I.hok,I.len⟩
def Qt.ofPn(I:Qt { X with pn:=X.pn++Xa7 } pins' σ H s):Qt X Xa7 σ H s:=
 ⟨⟨I.ok.mod,I.ok.kind,I.ok.glob,I.ok.blt,I.ok.above,I.ok.inj,I.ok.has,I.ok.cab,I.ok.hd,I.ok.frames,I.ok.stk,I.ok.exf,I.ok.bs,I.ok.bsz,I.ok.noex,I.ok.exfs,I.ok.funs,I.ok.frf⟩,I.os,I.bare,I.base,I.loc,I.cell,I.free,I.freeC,λp a=>I.pin p<|JR _ a,I.hok,I.len⟩
def Qt.toHandler(I:Qt { X with pn:=pn } Xa7 σ H s):Qt (Jf X e pn) Xa7 σ H s:=
 ⟨⟨I.ok.mod,I.ok.kind,I.ok.glob,I.ok.blt,I.ok.above,I.ok.inj,I.ok.has,I.ok.cab,(λz=>by cases z),I.ok.frames,I.ok.stk,I.ok.exf,I.ok.bs,I.ok.bsz,I.ok.noex,I.ok.exfs,I.ok.funs,I.ok.frf⟩,I.os,I.bare,I.base,I.loc,I.cell,I.free,I.freeC,I.pin,I.hok,I.len⟩
def Qt.ofHandler(a:X.Ok)(I:Qt (Jf X e pn) Xa7 σ H s):Qt { X with pn:=pn } Xa7 σ H s:=
 ⟨⟨I.ok.mod,I.ok.kind,I.ok.glob,I.ok.blt,I.ok.above,I.ok.inj,I.ok.has,I.ok.cab,a.hd,a.frames,I.ok.stk,I.ok.exf,I.ok.bs,I.ok.bsz,I.ok.noex,I.ok.exfs,I.ok.funs,I.ok.frf⟩,I.os,I.bare,I.base,I.loc,I.cell,I.free,I.freeC,I.pin,I.hok,I.len⟩
def SP.ofPn{f:Flow}(h:SP { X with pn:=X.pn++Xa7,xe:=E } pins' D f s'):SP X Xa7 D f s':=by
 have o:∀{a b},Qt { X with pn:=X.pn++Xa7,xe:=E } pins' a b s'->Qt X Xa7 a b s':=λI=>Qt.ofPn (I.unwish (X:={ X with pn:=X.pn++Xa7 }))
 cases f with
 |next=>obtain⟨a,b,I,q⟩:=h;exact⟨a,b,o I,q⟩
 |brk=>obtain⟨a,b,I,q⟩:=h;exact⟨a,b,o I,q⟩
 |cont=>obtain⟨a,b,I,q⟩:=h;exact⟨a,b,o I,q⟩
 |ret u=>obtain⟨v,a,b,I,r,q⟩:=h;exact⟨v,a,b,o I,r,q⟩
end
def ZkD(he:phF C e dct T s.heap)(hT:phT T s.heap)
(h:∀h',(∀b o,s.heap.get? b=some o->h'.get? b=some o)->Q () { s with heap:=h' }):wpAny M A (setFlight (.ref e) none) Q E s:=by
 obtain⟨B,v,w,y,_⟩:=he;obtain⟨m,ts,f,g,r⟩:=hT;have a:3<ts.size:=(Array.getElem?_eq_some_iff.mp r).1;have j:Obj.mapFields (·.setIfInBounds 3 Value.none) m=m:=by
  obtain⟨c,d,D,v⟩:=m;subst g;have:ts.setIfInBounds 3 Value.none=ts:=by
   apply Array.ext_getElem?;intro i;rw[Array.getElem?_setIfInBounds];by_cases p:3=i
   .subst p;rw[Xd rfl,Xd a,r]
   .rw[Xb p]
  unfold Obj.mapFields;simp[this]
 refine wpAny_setFlight_none w rfl y f g a (h _ λb o n=>?_)
 by_cases q:b=T
 .subst q;rw[f]at n;cases n;rw[X8 _ f<|Obj.isFreed_of_fields<|Obj.data_mapFields g _,j]
 .rw[XV _ _<|Ne.symm q];exact n
def BS(a:Ends->TS):TS:=λD σ H=>a D D σ H
open PySem PySem.Spec PyProof.Rows PySem.W
abbrev BW:Qe:=[.type "ValueError",.type "Exception",.type "BaseException",.type "object"]
def Znc{K:Frag}{n:Str}{v:Value}(X:K.In h)(G:h.Ns N mg)(e:nsIn K N n=some (some v)):mg n=some v:=by
 obtain⟨o,es,p,a,g,_,b⟩:=G;unfold nsIn at e;split at e
 .rename_i c d i m j q;have:=X _ _ q;rw[a]at this;cases this;cases g;split at e
  .rename_i f;cases e;rw[<- b];unfold nsFind findBy;rw[<- Array.find?_toList,f];rfl
  .split at e<;>cases e
 .cases e
noncomputable def Hr(K:Frag)(C f:Addr):Bool:=match K.lookup C with
 |some ⟨.type "type",_,.cls cd,a⟩=>(match cd.mro,a.toList with
   |.ref b::bm,[_,_,_,_,some<|.builtin n,_]=>b==C&&n == "ValueError.__new__" && !cd.hasDel&&tailIn K BW bm&&nsOkIn K cd.ns&&nsIn K cd.ns "__init__" == some (some<|.ref f)
   |_,_=>false)
 |_=>false
theorem Ce{K:Frag}{f:Addr}(q:Hr K C f=true)(s:K.lookup f=some fo)(y:fo.cls=.type "function")
(ga:specialIn K (.ref Y) "__getattribute__"=some (some<|.builtin "type.__getattribute__"))(rd:readsIn K Y (.type "type")=true)(ini:findCls K (.ref Y) (.type "type") "__init__"=some (.val<|.builtin "ValueError.__init__")):UQ K Y C f where
 ga:=ga
 rd:=rd
 ini:=ini
 cls:=λh X=>by
  unfold Hr at q;split at q
  .rename_i dd cd i w;split at q
   .rename_i B bm k0 k1 k2 k3 n k5 m j;simp only[Wb,beq_iff_eq,Bool.not_eq_true']at q;obtain⟨⟨⟨⟨⟨rfl,rfl⟩,a⟩,v⟩,hok⟩,b⟩:=q;obtain⟨nm,bs,r,ns,p,hd,sn,sub,ab,col,A⟩:=cd;dsimp only at m a hok b;subst m a;have g:i=#[k0,k1,k2,k3,some<|.builtin "ValueError.__new__",k5]:=by
     obtain⟨l⟩:=i;simp only at j;rw[j]
    subst g;have G:h.Ns ns _:=.of_isNs (isNs_of_in X hok);exact⟨BW,bm,nm,p,ns,bs,hd,sn,sub,ab,col,dd,k0,k1,k2,k3,k5,PySem.F.excBase_ValueError,tail_of_in X v,X _ _ w,_,fo,G,Znc X G b,X _ _ s,y⟩
   .cases q
  .cases q
end L2
namespace L2
def Ue(P:Program)(w:World)(K:W.Frag)(mg:Str->Qf)(base:Heap)(x:Str)(ps:Qh)(k:Nat)(a:Sp):Prop:=
 ∃f fd,mg x=some (.ref f)/\W.keepIn K (.ref f)=true/\Vw K fd ps []/\FnOk P w K mg base (CX1 P w) k f fd ps a
section
variable {base:Heap}
def Fun.okX{x:Str}{st:Stmt}{f:Addr}{N:Qh}{k:Nat}{b:Sp}(F:Fun K x qual st f fd)(S:Qp N ps (Q4 st))(g:∀vs H Q E,b vs H Q E->vs.length=ps.length)
(j:∀(a:Value) (A:Around) (outer:List Env) (s:Shared) (H:Hp) (vs:List V) (Q:VK) (E:XK),Room k (A.deeper<|envOfC qual (Q4 st) s.heap.objs.size f a)->b vs H Q E->
  ∃t,PSs (cx1 P w K mg base N qual (Q4 st) f a A outer s H E) (ZB st) t/\t { nx:=λ_ v=>Q .non v,rt:=Q } (start N vs) H):FnOk P w K mg base (CX1 P w) (k+1) f fd ps b:=by
 obtain⟨C,B,kV,r,y,M,a,D,m,rfl,n,i⟩:=F.ex;exact RE n i S g λA outer s H vs Q E p h=>j a A outer s H vs Q E p h
def Df.calX{x:Str}{st:Stmt}{N:Qh}{k:Nat}{b:Sp}(D:Df K mg x st ps)(S:Qp N ps (Q4 st))(g:∀vs H Q E,b vs H Q E->vs.length=ps.length)
(i:∀(f:Addr) (a:Value) (A:Around) (outer:List Env) (s:Shared) (H:Hp) (vs:List V) (Q:VK) (E:XK),Room k (A.deeper<|envOfC x (Q4 st) s.heap.objs.size f a)->b vs H Q E->
  ∃t,PSs (cx1 P w K mg base N x (Q4 st) f a A outer s H E) (ZB st) t/\t { nx:=λ_ p=>Q .non p,rt:=Q } (start N vs) H):Ue P w K mg base x ps (k+1) b:=by
 obtain⟨f,fd,F,m,n⟩:=D.ex;exact⟨f,fd,m,F.kp,n,F.okX S g λa A outer s H vs Q E j h=>i f a A outer s H vs Q E j h⟩
end
def B2     {E:XK}(C:Ue X.prog X.w X.K X.mg X.base x ps j sp)(g:Room k X.A)(b:Yj (CX1 X.prog X.w) X E)(s:PA X (e::es) t)(m:j<=k:=by walk_at"j")(n:Gl X x:=by rfl)
(a:(x==("__debug__" : Str))=false:=by decide +kernel)
(he:zs X e es:=by rfl)(hpl:zb X pos es:=by rfl):PE X (.Call (.Name x p) (e::es) [] pos) (Vg sp [] E t):=by
 obtain⟨f,fd,h,i,r,F⟩:=C;exact SN F (g.mono m) n h i r .nil b s a he hpl
def B4(K:W.Frag)(C:Addr)(f:Str):Sp:=λa H Q _=>∃(e p:Addr) (xs:List V),a=[.ref e,.ref p]/\H e=some (.ext<|phX C e none)/\SqL K H p xs/\
 ∀q dx,H q=none->H dx=none->dx≠q->dx≠e->q≠e->Q .non (upd (upd (upd H q<|.lst xs) e<|.ext<|phX C e<|some dx) dx<|.xd [(f,.ref q)])
def Im{E:XK}(h:B4 K C f vs H Q E):
 Yv (VC<|tXI C 0) (sXF C (Q5 0) (tCB (HE K)<|QF (Q5 1) QM) f) { nx:=λ_ v=>Q .non v,rt:=Q } (vs.map some++List.replicate n none) H:=by
 obtain⟨e,p,xs,rfl,j,s,r⟩:=h;refine⟨e,none,rfl,j,?_⟩;refine⟨.ref p,rfl,?_⟩;refine⟨p,xs,rfl,.inl s,λq b=>?_⟩;have g:q≠e:=λz=>by subst z;rw[j]at b;cases b
 refine⟨.ref e,rfl,e,rfl,by rw[Qu<|Ne.symm g];exact j,λdx a m=>?_⟩;have i:dx≠q:=λz=>by subst z;rw[QG]at a;cases a
 exact r q dx b (by rw[Qu i]at a;exact a) i m g
structure FldL(f:Str)(e:Addr)(F H H0:Hp)(ds:Qd)(dx q:Addr)(xs:List V):Prop where
 hd:H dx=some (.xd [(f,.ref q)])
 hq:H q=some (.lst xs)
 fq:F q=none
 rp:Qx F xs ds
 nd:dx≠e
 nq:q≠e
 dq:dx≠q
 fe:F e=none
 fd:F dx=none
 q0:H0 q=none
 d0:H0 dx=none
def Fld(f:Str)(e:Addr)(F H H0:Hp)(a:Qj)(ds:Qd):Prop := ∃dx q xs,a=some dx/\FldL f e F H H0 ds dx q xs
def Fld.back(h:Fld f e F H H1 dct ds)(s:Q7 H0 H1):Fld f e F H H0 dct ds:=by
 obtain⟨dx,q,xs,a,b⟩:=h;exact⟨dx,q,xs,a,b.hd,b.hq,b.fq,b.rp,b.nd,b.nq,b.dq,b.fe,b.fd,s.free b.q0,s.free b.d0⟩
def Yx(K:W.Frag)(C:Addr){i:Type}(s:Addr->Hp->Hp->Hp->Qj->i->Prop)(R:List OT->(OT->Prop)->Prop)(n:List OT->(i->Prop)->Prop):Sp:=λm H Q E=>∃F ts,KTs K F/\Q7 F H/\Args K F m ts/\∃RR,E=XE C RR/\ZV C RR/\
 ((∃j,R ts j/\∀h b v p r,j r->Q0 F H h b->(∀a∈p,H a=none)->Ze K h b v r p->Q v b)\/(∃f,n ts f/\∀h b e g d,f d->Q0 F H h b->H e=none->s e h b H g d->RR e g b))
abbrev spX(K:W.Frag)(C:Addr)(f:Str)(R:List OT->(OT->Prop)->Prop)(Rx:List OT->(Qd->Prop)->Prop):Sp:=Yx K C (Fld f) R Rx
def EvZ(K:W.Frag)(F0 H0:Hp)(t:TS)(ρ:ZbJ):Prop := ∀(F:Hp) (σ:St) (H:Hp) (E:Ends),Q0 F0 H0 F H->Q9 K H0 F ρ σ H->t E σ H
section
variable {base:Heap}
def Df.evZ{x:Str}{st:Stmt}{N:Qh}{k:Nat}{W:Type}{J:Addr->Hp->Hp->Hp->Qj->W->Prop}{R:List OT->(OT->Prop)->Prop}{u:List OT->(W->Prop)->Prop}(D:Df K mg x st ps)(S:Qp N ps (Q4 st))(c:∀ts Φ,R ts Φ->ts.length=ps.length)(j:∀ts Φ,u ts Φ->ts.length=ps.length)
(Z:ps.length<=N.length)
(m:∀(f:Addr) (a:Value) (A:Around) (outer:List Env) (s:Shared) (H:Hp) RR (ts:List OT) (Φ:OT->Prop),Room k (A.deeper<|envOfC x (Q4 st) s.heap.objs.size f a)->ZV C RR->R ts Φ->
  ∃t,PSs (cx1 P w K mg base N x (Q4 st) f a A outer s H<|XE C RR) (ZB st) t/\Q3 K t (zr N ts) { nx:=λ_=>Φ<|.fz .none,rt:=Φ })
(n:∀(f:Addr) (a:Value) (A:Around) (outer:List Env) (s:Shared) (F H:Hp) RR (ts:List OT) (b:W->Prop),Room k (A.deeper<|envOfC x (Q4 st) s.heap.objs.size f a)->ZV C RR->(∀i h e B d,b d->Q0 F H i h->H e=none->J e i h H B d->RR e B h)->u ts b->
  ∃t,PSs (cx1 P w K mg base N x (Q4 st) f a A outer s H<|XE C RR) (ZB st) t/\EvZ K F H t (zr N ts)):
 Ue P w K mg base x ps (k+1) (Yx K C J R u):=by
 refine D.calX S (λY H Q E ⟨F,ts,_,_,y,RR,_,_,q⟩=>?_) λf a A outer s H Y Q E I ⟨F,ts,G,M,y,RR,eE,st,q⟩=>?_
 .rcases q with ⟨r,g,_⟩|⟨r,g,_⟩
  .exact y.length.trans (c ts r g)
  .exact y.length.trans (j ts r g)
 .subst eE;rcases q with ⟨Φ,g,q⟩|⟨b,g,q⟩
  .obtain⟨t,o,l⟩:=m f a A outer s H RR ts Φ I st g;refine⟨t,o,l F H F (start N Y) H _ (Q0.refl M) (JF G M y) ⟨λi L h O X _ e=>?_,λi h v T p X hp U e=>?_,λ_ _ _ _ _ _ z=>False.elim z,λ_ _ _ _ _ _ z=>False.elim z⟩⟩
   .exact q i h _ [] _ e X (by rintro _ ⟨⟩) ⟨rfl,.non⟩
   .exact q i h v p T e X hp U
  .obtain⟨t,o,l⟩:=n f a A outer s F H RR ts b I st q g;exact⟨t,o,l F (start N Y) H _ (Q0.refl M)<|JF G M y⟩
end
section
variable {E:XK}
def ER{s:Qd->Prop}(h:Qs K ta ρ (.list ds))(Q:s ds)(O:∀u c e B d,s d->Q0 F0 H0 u c->H0 e=none->Fld f e u c H0 B d->RR e B c):EvZ K F0 H0 (sXR C (D9 C (B4 K C f) E<|QF ta QM) RR) ρ:=by
 intro F σ H D x S;refine h H0 F σ H _ S λk r v P G=>⟨by simp,λe M=>?_⟩
 cases G with
 |@lst a xs _ J I=>
 have Y:r a=some (.lst xs):=P.fh a _ J;have X:a≠e:=λz=>by subst z;rw[M]at Y;cases Y
 refine⟨e,a,xs,rfl,QG,SqL.of<|by rw[Qu X];exact Y,λq dx w A y m i=>⟨rfl,e,some dx,rfl,?_,?_⟩⟩
 .rw[Qu<|Ne.symm m,QG]
 .have j:r q=none:=by rw[Qu i]at w;exact w
  have n:r dx=none:=by rw[Qu m]at A;exact A
  have W:k q=none:=P.fh.free j;have l:Q7 r (upd (upd (upd (upd r e<|.ext<|phX C e none) q<|.lst xs) e<|.ext<|phX C e<|some dx) dx<|.xd [(f,.ref q)]):=λb o g=>by
   have t:b≠e:=λz=>by subst z;rw[M]at g;cases g
   have N:b≠q:=λz=>by subst z;rw[j]at g;cases g
   have L:b≠dx:=λz=>by subst z;rw[n]at g;cases g
   rw[Qu L,Qu t,Qu N,Qu t];exact g
  have p:=x.trans P;have R:upd (upd (upd (upd r e<|.ext<|phX C e none) q<|.lst xs) e<|.ext<|phX C e<|some dx) dx (.xd [(f,.ref q)]) q=some (.lst xs):=by
   rw[Qu<|Ne.symm y,Qu i,QG]
  have T:Q0 F0 H0 k (upd (upd (upd (upd r e<|.ext<|phX C e none) q<|.lst xs) e<|.ext<|phX C e<|some dx) dx<|.xd [(f,.ref q)]):=p.trans ⟨l,Q7.refl _,p.fh.trans l,λb g=>.inl g⟩;exact O k _ e (some dx) ds Q T (p.hh.free M) ⟨dx,q,xs,rfl,QG,R,W,I,m,i,y,p.fh.free M,p.fh.free n,p.hh.free j,p.hh.free n⟩
def FN(M:ZbJ->Prop)(h:Q3 K t ρ { nx:=M,rt:=λ_=>False })(g:∀a,M a->EvZ K F0 H0 u a):EvZ K F0 H0 (Yv t u) ρ:=λF σ H E x S=>
 h F0 H0 F σ H _ x S ⟨λm b j a f i e=>g a e m b j E f i,λ_ _ _ _ _ _ _ _ z=>z.elim,λ_ _ _ _ _ _ z=>False.elim z,λ_ _ _ _ _ _ z=>False.elim z⟩
def FQ(i:Nat)(e:ρ[i]?=some (some<|.ol ds))(h:EvZ K F0 H0 t (ρ.set i<|zf<|.list ds)):EvZ K F0 H0 t ρ:=λF σ H E x S=>by
 obtain⟨a,xs,g,f,b,_,_,j⟩:=S.freeze e;exact h _ σ H E (x.freeze g f b) j
def Mn(h:Q3 K t ρ { nx:=λa=>a=ρ1,rt:=λ_=>False })(g:EvZ K F0 H0 u ρ1):EvZ K F0 H0 (Yv t u) ρ:=λF σ H E x S=>
 h F0 H0 F σ H _ x S ⟨λm b j a f i e=>by subst e;exact g m b j E f i,λ_ _ _ _ _ _ _ _ z=>z.elim,λ_ _ _ _ _ _ z=>False.elim z,λ_ _ _ _ _ _ z=>False.elim z⟩
def Mo(h:EvZ K F0 H0 t ρ):EvZ K F0 H0 (Yv t u) ρ:=λF σ H E x S=>h F σ H _ x S
def RM{b:Bool}(h:Zf K tA ρ b)(j:b=true->EvZ K F0 H0 t ρ)(i:b=false->EvZ K F0 H0 u ρ):EvZ K F0 H0 (Jn tA t u) ρ:=λF σ H E x S=>
 h H0 F σ H _ S λg f a=>by
  cases b with
  |true=>rw[Xd rfl];exact j rfl g σ f E (x.trans a) (S.ext a)
  |false=>rw[Xb<|by decide];exact i rfl g σ f E (x.trans a) (S.ext a)
def EF{R:List OT->(OT->Prop)->Prop}(v:Zv K t ρ ts)(s:Rx ts Φx)(st:ZV C RR)(m:∀h g e a d,Φx d->Q0 F0 H0 h g->H0 e=none->Fld f e h g H0 a d->RR e a g)(x:Q0 F0 H0 F H)(S:Q9 K H9 F ρ σ H):
 Vg (spX K C f R Rx) [] (XE C RR) t σ H Q:=v H9 F σ H _ S λw A y b j=>
 ⟨w,ts,(S.ext b).kt,b.fh,by rw[Xx];exact j,RR,rfl,st,.inr ⟨Φx,s,λh g e a d r i p n=>m h g e a d r ((x.trans b).trans i) ((x.trans b).hh.free p)<|n.back (x.trans b).hh⟩⟩
def SB{R:List OT->(OT->Prop)->Prop}(j:Zv K t ρ ts)(i:Rx ts Φx)(st:ZV C RR)(h:∀g b e a d,Φx d->Q0 F0 H0 g b->H0 e=none->Fld f e g b H0 a d->RR e a b):
 EvZ K F0 H0 (VC<|Vg (spX K C f R Rx) [] (XE C RR) t) ρ:=λF σ H E x S=>EF j i st h x S
def P7{R:List OT->(OT->Prop)->Prop}(w:Zv K t ρ ts)(s:R ts Φ)(st:ZV C RR):Z2 K (Vg (spX K C f R Rx) [] (XE C RR) t) ρ Φ:=λH0 F σ H Q S q=>
 w H0 F σ H _ S λB E D b h=>
  ⟨B,ts,(S.ext b).kt,b.fh,by rw[Xx];exact h,RR,rfl,st,.inl ⟨Φ,s,λA y v p r j g m i=>q A y v p r j (b.trans g) (λa n=>b.hh.free<|m a n) i⟩⟩
def JB(h:Z2 K t ρ Φ)(hn:D.nx ρ):Q3 K (VC t) ρ D:=λF0 H0 F σ H E x S c=>
 h H0 F σ H _ S λf b v p r _ a _ _=>c.nx f σ b ρ (x.trans a) (S.ext a) hn
end
section
variable {tb:Ends->TS}
def Da(h:Lefts C e dct H H')(s:Q7 G H)(he:G e=none):Q7 G H':=by
 induction h with
 |nil=>exact s
 |@step p T n hT m j=>
  intro b o f;have i:b≠e:=λz=>by subst z;rw[he]at f;cases f
  have a:=j b o f;have g:b≠T:=λz=>by subst z;rw[hT]at a;cases a
  unfold left;rw[Qu g,Qu i];exact a
def Pm(h:∀E,Q3 K (tb E) ρ D):Q3 K (BS tb) ρ D:=λF0 H0 F σ H E x S c=>h E F0 H0 F σ H E x S c
end
structure XC(K:W.Frag)(mg:Str->Qf)(x:Str)(Y C f:Addr):Prop where
 cl:UQ K Y C f
 kp:W.keepIn K (.ref C)=true
 m:mg x=some (.ref C)
def DV(P:Program)(w:World)(K:W.Frag)(mg:Str->Qf)(base:Heap)(f:Addr)(ps:Qh)(k:Nat)(a:Sp):Prop := ∃fd,Vw K fd ps []/\FnOk P w K mg base CX0 k f fd ps a
section
variable {base:Heap}{N:Qh}{f:Addr}
def Tr(c:XC K mg x Y C f)(B:DV P w K mg base f ps j sp)(b:ZV C RR)(h:Room k (cx1 P w K mg base N qual scope f0 cd A outer s0 H0<|XE C RR).A)
(v:PA (cx1 P w K mg base N qual scope f0 cd A outer s0 H0<|XE C RR) (e::es) t)(i:j+1<=k:=by walk_at"j")(m:Gl (cx1 P w K mg base N qual scope f0 cd A outer s0 H0<|XE C RR) x:=by rfl)
(g:(x==("__debug__" : Str))=false:=by decide)(he:starEach (e::es) (cx1 P w K mg base N qual scope f0 cd A outer s0 H0<|XE C RR).env=(false,eval e (cx1 P w K mg base N qual scope f0 cd A outer s0 H0<|XE C RR).env)::starEach es (cx1 P w K mg base N qual scope f0 cd A outer s0 H0<|XE C RR).env:=by rfl)
(hpl:(backTo pos<|starEach es (cx1 P w K mg base N qual scope f0 cd A outer s0 H0<|XE C RR).env).any (·.1)=false:=by rfl):
 PS (cx1 P w K mg base N qual scope f0 cd A outer s0 H0<|XE C RR) (.Raise (some<|.Call (.Name x p) (e::es) [] pos) none pos') (sXR C (D9 C sp E0 t) RR):=by
 obtain⟨fd,n,F⟩:=B;exact ED c.cl rfl (ET c.cl c.kp F (h.mono i) m c.m n Uk v g he hpl) (λXa7 σ H s a y I he r=>Pw b I he r)
end
section
variable {t:TA}
def Eg(h:Z2 K ta ρ Φ)(A:Zv K t ρ ts)(y:∀r,Φ r->∃d,Ub r=some d/\Φ' (.fz d::ts)):UW K (QF ta t) ρ Φ':=λH0 F σ H Q S q=>
 h H0 F σ H _ S λE g v p r s x w j=>by
  obtain⟨d,B,f⟩:=y r s;have m:Q0 F H (frF E g p) g:=⟨x.hh,x.ff.trans<|Wm λa b=>(j.there a b).1,M5 x.fh,λa b=>by
   by_cases z:a∈p
   .exact .inr (w a z)
   .rw[YW z]at b;exact x.fr a b⟩
  exact A H0 _ σ g _ (S.ext m) λD C M i n=>q D C _ _ f (m.trans i) (.fz ((j.frz B).mono i.ff) n)
end
def Dh(D:Ends)(j:Nat):Ends:={ nx:=λσ H=>D.nx (σ.set j none) H,rt:=λ_ _=>False }
def XWg(X:Cx)(E:XK)(pn:Qc)(v:Value)(s:Shared):Prop := ∃(σ:St) (H:Hp) (a:Qj),Qt { X with pn:=pn } [] σ H s/\E v a H
noncomputable abbrev Hx(X:Cx)(E:XK)(pn:Qc):Cx:={ X with pn:=pn,xe:=XWg X E pn }
section
variable {H:Hp}
def BD{E:XK}:Yj (CX1 X.prog X.w) (Hx X E pn) E:=by
 intro Xa7 σ H s v n I h;obtain⟨j,C,r,a,m,i,A⟩:=h;obtain⟨y,g,d,t,f⟩:=n;obtain rfl:f=s.os:=r;have B:=I.call (h':=y) (g':=g) (d':=d) (t':=t) (ch:=[]) m i a (by rintro b ⟨⟩);exact⟨σ,C,j,(B.unwish (X:={ X with pn:=pn })).pins_of (λp w=>by cases w),A⟩
def ZnA(I:Qt X Xa7 σ H s)(hN:X.N.Nodup)(L:X.N[i]?=some x)(hk:X.env.scope.names.lookup x=some .local)
(h:∀F,Qt X Xa7 (σ.set i none) H F->Q () F):wpAny M A (do bindName X.env x .none;unbindBehindTheSuite X.env x pos) Q E s:=by
 obtain⟨m,J,hl⟩:=id I.loc;have D:(X.env.scope.kind==.class||(X.env.scope.kind==.module&&X.env.locals != X.env.globals))=false:=by rw[I.ok.kind];rfl
 have C:i<σ.length:=by rw[I.len];exact(Xf.mp L).1
 have K:=I.cne;have f:∀{a:Addr} {h':Heap},(∃o,s.heap.get? a=some o/\H a=none)->Heap.SameBut a s.heap h'->HOk X.prog X.w H h':=λ{a h'} ha r b U e=>by
  obtain⟨_,_,g⟩:=ha;refine(I.hok b U e).stay (λc u P q=>(r.2 c ?_).trans q) (λ_ q=>q) λ_ _ q=>q
  rintro rfl;rcases P with rfl|P
  .rw[g]at e;cases e
  .rw[g]at P;cases P
 refine wpAny_nameGoes_keeps (m:=m) (by exact hk) J D λh' v Y r=>?_;obtain⟨Z,_,_,W,_⟩:=id J;refine h _ ⟨I.ok,I.os,I.bare,⟨λb o e n t w=>?_,λb o e n t w=>?_,I.base.free,λb o e w=>?_,I.base.tups,I.base.frzs,λb xs o q e w=>(r.2 b<|Xr<|Xp (Xk e) I.ok.above).trans (I.base.tupo b xs o q e w),I.base.tbls⟩,⟨_,Y,λj y N B R e3=>?_⟩,λy c e=>?_,I.free,I.freeC,λp hp=>?_,f ⟨Z,W,I.free⟩ r,by simpa using I.len⟩
 .exact(r.2 b<|Xr<|Xp (Xk e) I.ok.above).trans (I.base.keep b o e n t w)
 .obtain⟨S,B⟩:=I.base.slot b o e n t w;exact⟨S,(r.2 b<|Xr<|Xp (Xk e) I.ok.above).trans B⟩
 .obtain⟨o',B⟩:=I.base.there b o e w;exact⟨o',(r.2 b<|Xr<|Xp (Xk e) I.ok.above).trans B⟩
 .by_cases l:j=i
  .subst l;rw[Xm C]at R;cases R
  .rw[Xt<|Ne.symm l]at R;obtain⟨O,T,q⟩:=hl j y N B R e3;refine⟨O,T,?_⟩;rcases q with ⟨k,e⟩|⟨k,c,e,z⟩
   .refine .inl ⟨k,?_⟩;have:y≠x:=λe=>l (MA hN B<|e▸L)
    simp[this,e]
   .exact .inr ⟨k,c,e,z.sameBut r<|K y c e⟩
 .obtain⟨u,z⟩:=I.cell y c e;exact⟨u,z.sameBut r<|K y c e⟩
 .obtain⟨e,n,G,nf,d⟩:=I.pin p hp;exact⟨(r.2 p.1 G).trans e,n,G,nf,d⟩
end
def Q9.setN{r:Nat}(u:Option V)(s:Q9 K H0 F ρ σ H):Q9 K H0 F (ρ.set r none) (σ.set r u) H:=by
 obtain⟨a,i,h,m,g,f,b⟩:=s;refine⟨a,i,by simp[h],m,λj t e=>?_,f,b⟩
 by_cases z:r=j
 .subst z
  by_cases l:r<ρ.length
  .rw[Xm l]at e;cases e
  .rw[NN.mpr<|by simp;lia]at e;cases e
 .rw[Xt z]at e ⊢;exact g j t e
section
open PySem.W
variable {K:Frag}{x:Addr}{ox:Obj}{od:Option Obj}{name:Str}{tk:Tok}{fill expr:Bool}
structure UP(K:Frag)(C:Addr):Prop where
 ga:findIn K (.ref C) "__getattribute__"=some (some<|.builtin "BaseException.__getattribute__")
 gt:findIn K (.ref C) "__getattr__"=some none
 mb:mroIn K C (.type "BaseException")=some true
def Tf  (c:UP K C)(X:K.In s.heap)(I:InstAt s.heap x ox C od)(j:Q () s):wpAny M A (checkBuiltinCall "BaseException.__getattribute__" ⟨[.ref x,nameV],[]⟩) Q E s:=by
 have b:builtinKind "BaseException.__getattribute__"=some .slot:=by decide +kernel
 have a:splitId "BaseException.__getattribute__"=some ("BaseException","__getattribute__"):=by decide +kernel
 have n:=F.args_bexc_ga (.ref x) nameV;have h:=I.type (M:=M);have f:=looks_mroIn (M:=M) X c.mb;simp only[checkBuiltinCall,b,a];obtain⟨m,g,d,t,i⟩:=s;refine Xa ((h.andThen f).at ?_)
 repeat (any_goals (first|assumption|wp_step))
def PM(c:UP K C)(X:K.In s.heap)(I:InstAt s.heap x ox C od)
(h:codeAny (model prog w) A (.call (.builtin "BaseException.__getattribute__") ⟨[.ref x,.str name tk],[]⟩) (λr j=>∃v,r=.ok (.ret v)/\wpAny (model prog w) A (handedOut v) Q E j) s):
 wpAny (model prog w) A (getAttrBy (.ref x) (.str name tk) fill expr) Q E s:=by
 have m:=F.excAttr_ValueError.ga.bind (.ref x);have f:(expr&&onTheHeap (Value.builtin "BaseException.__getattribute__"))=false:=by cases expr<;>rfl
 have a:(Value.builtin "BaseException.__getattribute__" == Value.builtin "object.__getattribute__")=false:=by decide +kernel
 have b:(onTheHeap (Value.ref C)&&Value.builtin "BaseException.__getattribute__" == Value.builtin "object.__getattribute__")=false:=by rw[a];rfl
 obtain⟨B,g,d,t,y⟩:=s;have p:=I.type (M:=model prog w);have n:=looks_findIn (M:=model prog w) X c.ga;have L2:=looks_findIn (M:=model prog w) X c.gt;unfold getAttrBy;refine wpAny_holding (Xa<|p.at<|Xa<|n.at ?_);dsimp only;rw[b,Xb XG];unfold getAttrByItsOwn;refine Xa (L2.at ?_);refine Xa (wpAny_attempt<|wpAny_holding ?_);unfold callGetattribute;rw[f,Xb XG];unfold boundAndCalled;rw[m];refine Xa (Xj ?_);refine wpAny_call (codeAny_mono h λr j i=>?_);obtain⟨v,rfl,i⟩:=i;exact i
def Ov{v:Value}(c:UP K C)(X:K.In s.heap)(I:InstAt s.heap x ox C od)(f:findObj K C od name=some (.value v))(b:handedIn v=true)(h:Q v { s with toks:=s.toks+1 }):wpAny (model prog w) A (getAttr (.ref x) name expr) Q E s:=by
 unfold getAttr;refine Xa (wpAny_mkText<|PM (s:={ s with toks:=s.toks+1 }) c X I<|codeAny_call_builtin F.excAttr_ValueError.ga.plain F.entry_bexc_ga<|Tf c X I ?_);obtain⟨a,g,d,t,m⟩:=s;have j:=I.type (M:=model prog w);have i:=looks_find (M:=model prog w) X I f;refine Xa (Xj<|Xa<|Xj<|Xa<|j.at<|Xa<|i.at ?_);refine Xj ⟨v,rfl,?_⟩;rw[handedOut_of b];exact Xj h
def Zn7(c:UP K C)(Sf:hasDictIn K C=true)(n:findIn K (.ref C) "__class__"=some (some<|.builtin "object.__class__"))
(hn:specialIn K (.builtin "object.__class__") "__get__"=some (some<|.builtin "getset_descriptor.__get__"))(a:takesIn K (.builtin "object.__class__")=some true)(i:mroIn K C (.type "object")=some true)
(X:K.In s.heap)(I:InstAt s.heap x ox C od)(h:Q (some<|.ref C) { s with toks:=s.toks+1 }):wpAny (model prog w) A (getAttr? (.ref x) "__class__") Q E s:=by
 have j:findObj K C od "__class__"=some (.bind (.builtin "getset_descriptor.__get__")<|.builtin "object.__class__"):=by
  obtain⟨cd,m,_⟩:=any_some Sf;unfold findObj;rw[m,Option.bind_some,n,Option.bind_some];simp[hn,a]
 unfold getAttr? getAttrBy?;refine Xa (wpAny_mkText<|Xa<|wpAny_attempt<|PM (s:={ s with toks:=s.toks+1 }) c X I<|codeAny_call_builtin F.excAttr_ValueError.ga.plain F.entry_bexc_ga<|Tf c X I ?_);obtain⟨b,g,d,t,f⟩:=s;have r:=I.type (M:=model prog w);have p:=looks_find (M:=model prog w) X I j;refine Xa (Xj<|Xa<|Xj<|Xa<|r.at<|Xa<|p.at ?_);show wpAny _ _ (holding [_] (call _ [_,_,_]) >>= ret) _ _ _;refine Xa (wpAny_holding<|wpAny_call<|class_get (s:=⟨b,g,d,t+1,f⟩) (ox:=ox) (od:=od) X I i ?_);exact Xj ⟨_,rfl,Xj<|Xj h⟩
theorem PY(c:UP K C)(Sf:hasDictIn K C=true)(v:findIn K (.ref C) "__class__"=some (some<|.builtin "object.__class__"))
(hn:specialIn K (.builtin "object.__class__") "__get__"=some (some<|.builtin "getset_descriptor.__get__"))(g:takesIn K (.builtin "object.__class__")=some true)(s:mroIn K C (.type "object")=some true):
 KitX K (.ref x) (.ref C) (λh=>InstAt h x ox C od) where
 ty:=λ_ _ _ I=>I.type
 it:=λ_ _ X _=>by
  obtain⟨j,a,_⟩:=any_some Sf;unfold clsIn at a;split at a
  .rename_i y w m b i;intro E D E' B k q;unfold isType loadHead;exact Xa (wpAny_loadPart (k _ _<|X _ _ i)<|Xj q)
  .cases a
 ne:=λh p dd r n A X f=>by
  obtain⟨j,a,_⟩:=any_some Sf;refine Bool.eq_false_iff.mpr λq=>?_;have e:C=p:=Value.ref.inj (beq_iff_eq.mp q);subst e;unfold clsIn at a;split at a
  .rename_i y w m b i;have z:=(X _ _ i).symm.trans f;cases z
  .cases a
 ca:=λX I k=>Zn7 c Sf v hn g s X I k
end
def tXG(C:Addr)(ta:TE)(f:Str):TE:=λσ H Q=>ta σ H λx a=>∃e dx T v,x=.ref e/\a e=some (.ext<|phF C e (some dx) T)/\a dx=some (.xd [(f,v)])/\Q v a
structure LN(K:W.Frag)(C:Addr):Prop where
 ga:UP K C
 hd:W.hasDictIn K C=true
section
variable {e:Expr}
def Sz(I:Qt X Xa7 σ H s)(j:H a=some (.ext<|phF C a (some dx) T))(i:H dx=some (.xd fs)):
 ∃(b:Str->Qf) (ox od:Obj),W.InstAt s.heap a ox C (some od)/\(∀name,W.lookIn name od=some (b name))/\∀f,ZT (fs.lookup f) (b f):=by
 obtain⟨⟨m,p,e,_⟩,_,_⟩:=I.hok a _ j;obtain⟨b,n,r⟩:=(show Z6 X.prog X.w H s.heap dx (.xd fs) from I.hok dx _ i);obtain⟨od,g,h⟩:=TR n;exact⟨b,_,od,⟨e,rfl,rfl,g⟩,h,r⟩
def Mz(c:LN X.K C)(n:VF X.K C f)(he:PE X e ta)(w:attributeBase e f X.env (eval e X.env)=eval e X.env:=by rfl):PE X (.Attribute e f pos) (tXG C ta f):=by
 intro Xa7 s σ H Q I h;refine SJ w (QB (he Xa7 s σ H _ I h) ?_);rintro u E ⟨x,D,b,i,a,dx,T,v,y,B,A,q⟩;subst y;obtain rfl:u=Value.ref a:=i;obtain⟨j,K,M,J,p,r⟩:=Sz b B A;obtain⟨u,m,g⟩:=ZT.some_of (v:=v) (o:=j f) (by have:=r f;simpa [List.lookup] using this);exact Ov c.ga b.kIn J (W.findObj_own c.hd n rfl (by rw[p,m])) (Tm g) ⟨v,D,b.tok _,g,q⟩
noncomputable def GV:V->Qf
 |.ref a=>some (.ref a)
 |.ty t=>some (.type t)
 |_=>none
structure D0(K:W.Frag)(C:Addr):Prop where
 ga:UP K C
 hd:W.hasDictIn K C=true
 fc:W.findIn K (.ref C) "__class__"=some (some<|.builtin "object.__class__")
 sp:W.specialIn K (.builtin "object.__class__") "__get__"=some (some<|.builtin "getset_descriptor.__get__")
 tk:W.takesIn K (.builtin "object.__class__")=some true
 mo:W.mroIn K C (.type "object")=some true
def GZ(K:W.Frag)(C:Addr):List V->Hp->VK->Prop:=λxs H Q=>∃x c a b,xs=[x,c]/\GV c=some a/\
 ((∃e dx T f,x=.ref e/\H e=some (.ext<|phF C e (some dx) T)/\H dx=some (.xd f)/\W.kitOne K (.ref C) a=some b)\/(∃e T,x=.ref e/\H e=some (.ext<|phF C e none T)/\W.kitOne K (.ref C) a=some b)\/(x=.non/\W.kitOne K (.type "NoneType") a=some b))/\Q (.bl b) H
def FD(c:D0 X.K C):ZW X (.builtin "isinstance") (GZ X.K C):=by
 intro Xa7 s σ H xs D Q I r h;obtain⟨x,A,y,b,rfl,a,m,q⟩:=h;obtain⟨u,w,rfl,j,g⟩:=Mc r;have v:w=y:=by
  cases A<;>simp[GV]at a
  .subst a;exact g
  .subst a;exact g
 subst v;rcases m with ⟨e,dx,T,P,rfl,n,p,i⟩|⟨e,T,rfl,n,i⟩|⟨rfl,i⟩
 .obtain rfl:u=Value.ref e:=j;obtain⟨M,K,od,J,_⟩:=Sz I n p;exact W.kia_one (PY c.ga c.hd c.fc c.sp c.tk c.mo) I.kIn J i (by intro z;cases z) λf=>⟨.bl b,H,I.tok f,rfl,q⟩
 .obtain rfl:u=Value.ref e:=j;obtain⟨⟨B,E,m,_⟩,_,_⟩:=I.hok e _ n;exact W.kia_one (PY (od:=none) c.ga c.hd c.fc c.sp c.tk c.mo) I.kIn ⟨m,rfl,rfl,trivial⟩ i (by intro z;cases z) λf=>⟨.bl b,H,I.tok f,rfl,q⟩
 .obtain rfl:u=Value.none:=j;exact W.kia_one W.kitx_none I.kIn trivial i (by intro z;cases z) λf=>⟨.bl b,H,I.tok f,rfl,q⟩
end
def WL(C:Addr)(f:Str)(ds:Qd)(e dx q:Addr):OwnP where
 ok:=λK F H v p=>p=[e,dx,q]/\(F e=none/\F dx=none/\F q=none)/\(∃T,H e=some (.ext<|phF C e (some dx) T))/\H dx=some (.xd [(f,.ref q)])/\∃xs,H q=some (.lst xs)/\Qx F xs ds
 there:=λ{K F H v p} h a b=>by
  obtain⟨rfl,⟨B,A,y⟩,⟨T,n⟩,m,xs,j,_⟩:=h;rcases Xe.mp b with rfl|b
  .exact⟨B,Z1 n⟩
  .rcases Xe.mp b with rfl|b
   .exact⟨A,Z1 m⟩
   .rcases Xe.mp b with rfl|b
    .exact⟨y,Z1 j⟩
    .cases b
 mono:=λ{K F M H E v p} s i g h=>by
  obtain⟨rfl,⟨B,A,y⟩,⟨T,n⟩,m,xs,j,r⟩:=h;have m1:e∈[e,dx,q]:=Xc;have m2:dx∈[e,dx,q]:=Xi _ Xc;have w:q∈[e,dx,q]:=Xi _ (Xi _ Xc);exact⟨rfl,⟨i _ m1,i _ m2,i _ w⟩,⟨T,(g _ m1).trans n⟩,(g _ m2).trans m,xs,(g _ w).trans j,r.mono s⟩
 uniq:=λ{K F H v p D} h h' a b=>by
  obtain⟨rfl,_⟩:=h;obtain⟨rfl,_⟩:=h';exact b
def PR(h:Lefts C e dct H H'){b:Addr}(i:b≠e)(g:H b=some o):H' b=some o:=by
 induction h with
 |nil=>exact g
 |@step n T m hT j a=>
  have f:b≠T:=λz=>by subst z;rw[hT]at a;cases a
  unfold left;rw[Qu f,Qu i];exact a
section
variable {e q:Addr}
def Q9.exc(S:Q9 K H0 F ρ σ H)(h:zg ρ i<|zo v<|WL C f ds e dx q):σ[i]?=some (some v)/\(∃T,H e=some (.ext<|phF C e (some dx) T))/\H dx=some (.xd [(f,.ref q)])/\(∃xs,H q=some (.lst xs)/\Qx F xs ds)/\F q=none/\H0 q=none:=by
 obtain⟨s,A,y,B,n,w,m⟩:=S;obtain⟨u,r,a,g,⟨E,D,p⟩,hT,j,b⟩:=n i _ h;subst a;exact⟨r,hT,j,b,p,(m i q<|by rw[g];exact Xi _<|Xi _ Xc).1⟩
def Gr{b:Bool}(h:zg ρ i<|zo (.ref e)<|WL C f ds e dx q)(g:GV c=some cv)(a:W.kitOne K (.ref C) cv=some b):Qs K (tCB (GZ K C)<|QF (Q5 i)<|QF (tC c) QM) ρ (.bool b):=λH0 F σ H Q S k=>by
 obtain⟨n,⟨T,m⟩,j,_⟩:=S.exc h;exact⟨.ref e,n,.ref e,c,cv,b,rfl,g,.inl ⟨e,dx,T,_,rfl,m,j,a⟩,k F H _ (Q0.refl S.sub)<|.bl b⟩
end
def QQ.at(r:QQ xs us):∀i:Nat,(xs[i]?=none/\us[i]?=none)\/∃x u,xs[i]?=some x/\us[i]?=some u/\QN x u:=by
 induction r with
 |nil=>intro i;exact .inl ⟨rfl,rfl⟩
 |cons a b f=>
  intro i;cases i with
  |zero=>exact .inr ⟨_,_,rfl,rfl,a⟩
  |succ i=>exact f i
theorem L6:∀{us:Qe} {ns:Ql},IntsAre us ns->QQ (ns.map V.int) us
 |_,_,.nil=>.nil
 |_,_,.cons n t h=>.cons ⟨t,rfl⟩ (L6 h)
def SW:List V->Hp->VK->Prop:=λxs H Q=>∃(x:V) (a:Ql),xs=[x]/\Rep H x (.list<|a.map PyData.int)/\a.length<64/\∀(p:Addr) (b:Ql),H p=none->b.Perm a->b.Pairwise (· <= ·)->Q (.ref p) (upd H p<|.lst<|b.map V.int)
def OI:ZW X (.builtin "sorted") SW:=by
 intro Xa7 s σ H xs R Q I r h;obtain⟨x,i,rfl,y,m,q⟩:=h;obtain⟨u,rfl,A⟩:=Yy r;cases y with
 |@lst a ys _ E B=>
  cases A;obtain⟨z,f,n,p,e⟩:=I.hok _ _ E;have v:ys=i.map V.int:=UA B;have K:IntsAre f i:=GE (by rw[<- v];exact p);have Y:f.length=i.length:=by rw[<- p.length,v];simp
  refine sorted_ints ⟨_,e,rfl,n,rfl⟩ K (by lia) λg j P w M=>?_;obtain⟨k,D⟩:=sortedAll_at s.heap f g;have C:j.length=i.length:=w.length_eq;refine⟨.ref<|s.heap.objs.size+1,_,I.laid (t':=s.toks) (a:=s.heap.objs.size+1) (o:=.lst (j.map V.int)) (λb W q=>sortedAll_old q) (UJ _) ?_,rfl,q _ j (I.hok.fresh<|UJ _) w M⟩;refine⟨by rw[Xl,C];exact Y4<|Xp m<|by decide,g.toList,k,L6 P,?_⟩;rw[D]
def EK:∀{l m:Ql},l.Perm m->l.Pairwise (· <= ·)->m.Pairwise (· <= ·)->l=m:=λp g f=>by
 exact p.eq_of_pairwise (le:=(· <= ·)) (λa b _ _ h h'=>Int.le_antisymm h h') g f
def OW{ms:Ql}(h:Qs K ta ρ (.list<|ns.map PyData.int))(n:ms.Perm ns)(m:ms.Pairwise (· <= ·))(hn:ns.length<64):EvO K (tCB SW<|QF ta QM) ρ (.ol<|ms.map PyData.int):=λH0 F σ H Q S q=>
 h H0 F σ H _ S λr s v g j=>⟨v,ns,rfl,j.mono g.fh,hn,λp i f k1 k2=>by
  have e:i=ms:=EK (k1.trans n.symm) k2 m;subst e;obtain⟨a,b,c⟩:=G5 (K:=K) g f (Tv (H:=r) i);exact q _ _ _ _ a b c⟩
end L2
set_option maxHeartbeats 8000000
namespace L2
def OK:bootBuiltins "sorted"=some (.builtin "sorted"):=by decide +kernel
def FJ:bootBuiltins "set"=some (.type "set"):=by decide +kernel
def JJ:bootBuiltins "ValueError"=some (.type "ValueError"):=by decide +kernel
def Gc : Yj (CX1 X.prog X.w) X (XE C λ_ _ _=>False):=λ_ _ _ _ _ _ _ h=>by
 obtain⟨_,_,_,_,_,_,_,_,_,z⟩:=h;exact z.elim
def B1:ZV C λ_ _ _=>False:=λ_ _ _ _ z=>z.elim
abbrev Zco:=List (Key×PyData)
def Yc(L0:Zco)(k:Key):Option PyData:=(L0.find? λa=>decide (a.1=k)).map (·.2)
def Gd(L0:Zco)(k:Key)(d:PyData):Zco:=if (L0.any λa=>decide (a.1=k))=true then L0.map (λa=>if a.1=k then (a.1,d) else a) else L0++[(k,d)]
inductive PairK(F:Hp):List (Key×V)->Zco->Prop
 |nil:PairK F [] []
 |cons {k:Key}{x:V}{d:PyData}{xs:List (Key×V)}{L0:Zco}:Rep F x d->PairK F xs L0->PairK F ((k,x)::xs) ((k,d)::L0)
theorem PairK.mono{F a:Hp}(s:Q7 F a):∀{xs:List (Key×V)} {L0:Zco},PairK F xs L0->PairK a xs L0
 |_,_,.nil=>.nil
 |_,_,.cons r t=>.cons (r.mono s) (t.mono s)
theorem PairK.length{F:Hp}:∀{xs:List (Key×V)} {L0:Zco},PairK F xs L0->xs.length=L0.length
 |_,_,.nil=>rfl
 |_,_,.cons _ t=>by simp[t.length]
theorem PairK.val{F:Hp}(k:Key):∀{xs:List (Key×V)} {L0:Zco},PairK F xs L0->(Z4 xs k=none/\Yc L0 k=none)\/∃x d,Z4 xs k=some x/\Yc L0 k=some d/\Rep F x d
 |_,_,.nil=>.inl ⟨rfl,rfl⟩
 |_,_,.cons (k:=k') (x:=x) (d:=d) (xs:=xs) (L0:=L0) r t=>by
  by_cases e:k'=k
  .exact .inr ⟨x,d,YT e,by simp[Yc,Xy,e],r⟩
  .have q:Yc ((k',d)::L0) k=Yc L0 k:=by simp[Yc,Xy,e]
   rw[YU (p:=(k',x)) e,q];exact t.val k
theorem PairK.any{F:Hp}(k:Key):∀{xs:List (Key×V)} {L0:Zco},PairK F xs L0->(xs.any λa=>decide (a.1=k))=(L0.any λa=>decide (a.1=k))
 |_,_,.nil=>rfl
 |_,_,.cons _ t=>by simp[t.any k]
theorem PairK.mapP{F:Hp}(k:Key){y:V}{d:PyData}(r:Rep F y d):∀{xs:List (Key×V)} {L0:Zco},PairK F xs L0->PairK F (xs.map λa=>if a.1=k then (a.1,y) else a) (L0.map λa=>if a.1=k then (a.1,d) else a)
 |_,_,.nil=>.nil
 |_,_,.cons (k:=k') b t=>by
  rw[Xw,Xw];by_cases e:k'=k
  .simp only[e,if_true];exact .cons r (t.mapP k r)
  .simp only[e,if_false];exact .cons b (t.mapP k r)
theorem PairK.snoc{F:Hp}(k:Key){y:V}{d:PyData}(r:Rep F y d):∀{xs:List (Key×V)} {L0:Zco},PairK F xs L0->PairK F (xs++[(k,y)]) (L0++[(k,d)])
 |_,_,.nil=>.cons r .nil
 |_,_,.cons a t=>.cons a (t.snoc k r)
def PairK.put(k:Key)(r:Rep F y d){xs:List (Key×V)}(t:PairK F xs L0):PairK F (Yf xs k y) (Gd L0 k d):=by
 unfold Yf Gd;rw[t.any k];split
 .exact t.mapP k r
 .exact t.snoc k r
def dkP(L0:Zco):OwnP where
 ok K F H v p := ∃a xs,v=.ref a/\p=[a]/\F a=none/\H a=some (.dK xs)/\PairK F xs L0
 there:=by
  rintro K F H v p ⟨a,xs,rfl,rfl,h,f,g⟩ b j;cases Xh.mp j;exact⟨h,Z1 f⟩
 mono:=by
  rintro K F w H r v p s n m ⟨a,xs,rfl,rfl,h,f,g⟩;exact⟨a,xs,rfl,rfl,n a Xc,by rw[m a Xc];exact f,g.mono s⟩
 uniq:=by
  rintro K F H v p q ⟨a,xs,rfl,rfl,_⟩ ⟨b,ys,e,rfl,_⟩ c i;cases e;exact i
section
variable {ty:TE}{L0:Zco}{k:Key}{d:PyData}
def Q9.dk(S:Q9 K H0 F ρ σ H)(e:zg ρ i<|zo v<|dkP L0):
 ∃a xs,v=.ref a/\σ[i]?=some (some<|.ref a)/\F a=none/\H0 a=none/\H a=some (.dK xs)/\PairK F xs L0:=by
 obtain⟨h,p,⟨a,xs,rfl,rfl,g,f,d⟩,b,_⟩:=S.writeOwn e;exact⟨a,xs,rfl,h,g,(b a Xc).1,f,d⟩
def E4(e:zg ρ i<|zo v<|dkP L0)(R:Qs K tv ρ d)(P:Qs K ty ρ (WM k))(hz:L0.length<sizeLine)(hn:D.nx (ρ.set i<|zo v<|dkP<|Gd L0 k d)):Q3 K (DO (Q5 i) ty tv) ρ D:=λF0 H0 F σ H E x S C=>
 R H0 F σ H _ S λG o u f B=>by
  obtain⟨a,xs,rfl,Y,_⟩:=(S.ext f).dk e;refine⟨_,Y,P H0 G σ o _ (S.ext f) λt N y g A=>?_⟩;have m:=S.ext (f.trans g);obtain⟨L,s,j,_,h,X,W,r⟩:=m.dk e;cases j;rw[M9 A];refine⟨a,_,rfl,Jk.k W<|by rw[r.length];exact hz,?_⟩;obtain⟨_,p,M,I,w⟩:=m.writeOwn e;obtain⟨l,n,j,rfl,_,J,_⟩:=M;cases j;refine C.nx t σ _ _ ((x.trans<|f.trans g).wr X h) (w _ (dkP<|Gd L0 k d) [a] (m.sub.upd h) (λc b _=>Qu λz=>b<|by rw[z];exact Xc) (λc b=>?_) ⟨a,_,rfl,rfl,h,QG,r.put k<|B.mono g.ff⟩ λc b=>.inl b) hn
  by_cases z:c=a
  .subst z;rw[QG];rintro⟨⟩
  .rw[Qu z];exact b
def Oq:EvX K S8 ρ (dkP []):=λH0 F σ H Q S q=>λp b=>by
 have f:F p=none:=by
  cases z:F p with
  |none=>rfl
  |some o=>rw[S.sub _ _ z]at b;cases b
 refine q F _ (.ref p) [p] (Q0.own S.sub b) (λa d=>by cases Xh.mp d;exact b) ⟨p,[],rfl,rfl,f,QG,.nil⟩
end
end L2
variable {L0:L2.Zco}
namespace L2
structure HandS where
 yard:PyData
 now:Int
 known:Qd
 given:Ql
 gone:Zco
 made:List Zco
inductive MadeD(F H:Hp):Qg->List Zco->Prop
 |nil:MadeD F H [] []
 |cons {a:Addr}{xs:List (Key×V)}{L0:Zco}{as:Qg}{ms:List Zco}:F a=none->H a=some (.dK xs)->PairK F xs L0->MadeD F H as ms->MadeD F H (a::as) (L0::ms)
theorem MadeD.mem{F H:Hp}:∀{as:Qg} {ms:List Zco},MadeD F H as ms->∀a∈as,F a=none/\H a≠none
 |_,_,.nil,a,b=>nomatch b
 |_,_,.cons g f _ t,a,b=>by
  rcases Xe.mp b with rfl|b
  .exact⟨g,Z1 f⟩
  .exact t.mem a b
theorem MadeD.mono{F f H i:Hp}(s:Q7 F f):∀{as:Qg} {ms:List Zco},(∀a∈as,f a=none)->(∀a∈as,i a=H a)->MadeD F H as ms->MadeD f i as ms
 |_,_,_,_,.nil=>.nil
 |_,_,h,g,.cons n m j t=>.cons (h _ Xc) (by rw[g _ Xc];exact m) (j.mono s) (t.mono s (λa b=>h a<|Xi _ b) λa b=>g a<|Xi _ b)
def MadeD.other{b:Addr}(h:MadeD F H as ms)(n:b∉as):MadeD F (upd H b o) as ms:=
 h.mono (Q7.refl _) (λa f=>(h.mem a f).1) (λa f=>Qu λz=>n<|z▸f)
inductive MadeZ(F:Hp):Qg->List Zco->Prop
 |nil:MadeZ F [] []
 |cons {a:Addr}{xs:List (Key×V)}{L0:Zco}{as:Qg}{ms:List Zco}:F a=some (.dK xs)->PairK F xs L0->MadeZ F as ms->MadeZ F (a::as) (L0::ms)
theorem MadeZ.mono{F a:Hp}(s:Q7 F a):∀{as:Qg} {ms:List Zco},MadeZ F as ms->MadeZ a as ms
 |_,_,.nil=>.nil
 |_,_,.cons f b t=>.cons (s _ _ f) (b.mono s) (t.mono s)
theorem MadeD.fz{F b H:Hp}(s:Q7 F b):∀{as:Qg} {ms:List Zco},(∀a∈as,b a=H a)->MadeD F H as ms->MadeZ b as ms
 |_,_,_,.nil=>.nil
 |_,_,f,.cons _ i h t=>.cons (by rw[f _ Xc];exact i) (h.mono s) (t.fz s λa g=>f a<|Xi _ g)
noncomputable abbrev hfs(y:V)(n:Int)(k g d m:Addr):List (Str×V):=[("yard",y),("present",.int n),("known",.ref k),("given",.ref g),("gone",.ref d),("made",.ref m)]
structure HandOk(C:Addr)(N:HandS)(F H:Hp)(a dx k g d m:Addr)(y:V)(xs:List (Key×V))(as:Qg):Prop where
 nd:(a::dx::k::g::d::m::as).Nodup
 ins:F a=none/\H a=some (.ins C dx<|hfs y N.now k g d m)
 own:F dx=none/\H dx=some (.own a)
 yd:Rep F y N.yard
 known:Vz F H k N.known
 given:Vz F H g (N.given.map PyData.int)
 gone:F d=none/\H d=some (.dK xs)/\PairK F xs N.gone
 made:F m=none/\H m=some (.lst<|as.map V.ref)/\MadeD F H as N.made
def HandOk.mono{g m:Addr}{xs:List (Key×V)}(o:HandOk C N F H a dx k g d m y xs as)(s:Q7 F F')(h:∀b∈a::dx::k::g::d::m::as,F' b=none)(f:∀b∈a::dx::k::g::d::m::as,H' b=H b):HandOk C N F' H' a dx k g d m y xs as:=by
 obtain⟨p,⟨W,A⟩,⟨P,n⟩,j,⟨k1,w,k2,k3⟩,⟨X,B,E,D⟩,⟨d1,M,K⟩,⟨R,v,r⟩⟩:=o;exact⟨p,⟨h _<|by simp,by rw[f _<|by simp];exact A⟩,⟨h _<|by simp,by rw[f _<|by simp];exact n⟩,j.mono s,⟨h _<|by simp,w,by rw[f _<|by simp];exact k2,k3.mono s⟩,⟨h _<|by simp,B,by rw[f _<|by simp];exact E,D.mono s⟩,
  ⟨h _<|by simp,by rw[f _<|by simp];exact M,K.mono s⟩,⟨h _<|by simp,by rw[f _<|by simp];exact v,r.mono s (λb i=>h b<|by simp[i]) λb i=>f b<|by simp[i]⟩⟩
inductive HandPk(C:Addr)(N:HandS)(F H:Hp)(v:V)(p:Qg):Prop
 |mk (a dx k g d m:Addr)(y:V)(xs:List (Key×V))(as:Qg)(e:v=.ref a)(ep:p=a::dx::k::g::d::m::as)(o:HandOk C N F H a dx k g d m y xs as):HandPk C N F H v p
def QI(C:Addr)(N:HandS):OwnP where
 ok _ F H v p:=HandPk C N F H v p
 there:=by
  rintro K F H v p ⟨a,dx,k,g,d,m,y,xs,r,rfl,rfl,o⟩ b h;obtain⟨_,⟨n,f⟩,⟨D,B⟩,_,⟨k1,x,k2,_⟩,⟨X,G,W,_⟩,⟨d1,e,_⟩,⟨m1,m2,E⟩⟩:=o;simp only[Xe]at h;rcases h with rfl|rfl|rfl|rfl|rfl|rfl|h
  .exact⟨n,Z1 f⟩
  .exact⟨D,Z1 B⟩
  .exact⟨k1,Z1 k2⟩
  .exact⟨X,Z1 W⟩
  .exact⟨d1,Z1 e⟩
  .exact⟨m1,Z1 m2⟩
  .exact E.mem b h
 mono:=by
  rintro K F Q H O v p s R P ⟨a,dx,k,g,d,m,y,xs,r,rfl,rfl,o⟩;exact⟨a,dx,k,g,d,m,y,xs,r,rfl,rfl,o.mono s R P⟩
 uniq:=by
  rintro K F H v p q ⟨a,dx,k,g,d,m,y,xs,r,rfl,rfl,o⟩ ⟨L,Y,z,I,J,u,t,A,l,ev,rfl,w⟩ c M;cases ev;have i:=o.ins.2.symm.trans w.ins.2;injection i with i;injection i with _ n f;subst n;simp only[hfs,List.cons.injEq,Prod.mk.injEq,true_and,and_true,V.ref.injEq]at f;obtain⟨rfl,rfl,rfl,rfl,rfl⟩:=f;have j:=o.made.2.1.symm.trans w.made.2.1;injection j with j;injection j with j;rw[Kb j];exact M
structure HandFz(C:Addr)(N:HandS)(F:Hp)(a dx k g d m:Addr)(y:V)(ks gs:List V)(xs:List (Key×V))(as:Qg):Prop where
 ins:F a=some (.ins C dx<|hfs y N.now k g d m)
 yd:Rep F y N.yard
 known:F k=some (.lst ks)/\Qx F ks N.known
 given:F g=some (.lst gs)/\Qx F gs (N.given.map PyData.int)
 gone:F d=some (.dK xs)/\PairK F xs N.gone
 made:F m=some (.lst<|as.map V.ref)/\MadeZ F as N.made
def QZ(C:Addr)(N:HandS):ZP where
 ok K F v := ∃a dx k g d m y b h xs i,v=.ref a/\HandFz C N F a dx k g d m y b h xs i
 mono:=by
  rintro K F M v s ⟨a,dx,k,g,d,m,y,b,h,xs,i,rfl,⟨E,D,⟨B,A⟩,⟨w,r⟩,⟨p,n⟩,⟨j,f⟩⟩⟩;exact⟨a,dx,k,g,d,m,y,b,h,xs,i,rfl,s _ _ E,D.mono s,⟨s _ _ B,A.mono s⟩,⟨s _ _ w,r.mono s⟩,⟨s _ _ p,n.mono s⟩,⟨s _ _ j,f.mono s⟩⟩
def QI.fz{p:Qg}(h:(QI C N).ok K F H v p)(s:Q7 F F')(he:∀b∈p,F' b=H b):(QZ C N).ok K F' v:=by
 obtain⟨a,dx,k,g,d,m,y,xs,P,rfl,rfl,o⟩:=h;obtain⟨X,⟨c,r⟩,⟨W,R⟩,f,⟨k1,n,k2,k3⟩,⟨e,A,D,B⟩,⟨d1,M,E⟩,⟨Y,j,i⟩⟩:=o;exact⟨a,dx,k,g,d,m,y,n,A,xs,P,rfl,by rw[he _<|by simp];exact r,f.mono s,⟨by rw[he _<|by simp];exact k2,k3.mono s⟩,⟨by rw[he _<|by simp];exact D,B.mono s⟩,⟨by rw[he _<|by simp];exact M,E.mono s⟩,⟨by rw[he _<|by simp];exact j,i.fz s λb w=>he b<|by simp[w]⟩⟩
structure HandC(K:W.Frag)(C:Addr):Prop where
 cl:Cls K C
 yd:VF K C "yard"
 pr:VF K C "present"
 kn:VF K C "known"
 gv:VF K C "given"
 go:VF K C "gone"
 md:VF K C "made"
def NoH(m:Str):Prop := ∀(y:V) (n:Int) (k g d e:Addr),(hfs y n k g d e).lookup m=none
section
variable {ty:TE}{N:HandS}
def Q9.hz(S:Q9 K H0 F ρ σ H)(e:zg ρ i<|zz<|QZ C N):∃a dx k g d m y b gs xs as,σ[i]?=some (some<|.ref a)/\HandFz C N F a dx k g d m y b gs xs as:=by
 obtain⟨n,h,_⟩:=S.fp;obtain⟨v,j,_,a,dx,k,g,d,m,y,b,gs,xs,as,rfl,f⟩:=h i _ e;exact⟨a,dx,k,g,d,m,y,b,gs,xs,as,j,f⟩
def JE(c:HandC K C)(e:zg ρ i<|zz<|QZ C N):Qs K (Vf K (Q5 i) "yard") ρ N.yard:=λH0 F σ H Q S q=>by
 obtain⟨a,dx,k,g,d,m,y,f,h,xs,j,b,o⟩:=S.hz e;exact⟨_,b,a,C,dx,_,y,rfl,S.sub _ _ o.ins,c.cl,c.yd,rfl,q F H y (Q0.refl S.sub) o.yd⟩
def B9(c:HandC K C)(e:zg ρ i<|zz<|QZ C N):Qs K (Vf K (Q5 i) "present") ρ (.int N.now):=λH0 F σ H Q S q=>by
 obtain⟨a,dx,k,g,d,m,y,f,h,xs,j,b,o⟩:=S.hz e;exact⟨_,b,a,C,dx,_,.int N.now,rfl,S.sub _ _ o.ins,c.cl,c.pr,rfl,q F H _ (Q0.refl S.sub)<|.int _⟩
def MX(c:HandC K C)(e:zg ρ i<|zz<|QZ C N):Qs K (Vf K (Q5 i) "known") ρ (.list N.known):=λH0 F σ H Q S q=>by
 obtain⟨a,dx,k,g,d,m,y,f,h,xs,j,b,o⟩:=S.hz e;exact⟨_,b,a,C,dx,_,.ref k,rfl,S.sub _ _ o.ins,c.cl,c.kn,rfl,q F H _ (Q0.refl S.sub)<|.lst o.known.1 o.known.2⟩
def ZmG(c:HandC K C)(e:zg ρ i<|zz<|QZ C N):Qs K (Vf K (Q5 i) "given") ρ (.list<|N.given.map PyData.int):=λH0 F σ H Q S q=>by
 obtain⟨a,dx,k,g,d,m,y,f,h,xs,j,b,o⟩:=S.hz e;exact⟨_,b,a,C,dx,_,.ref g,rfl,S.sub _ _ o.ins,c.cl,c.gv,rfl,q F H _ (Q0.refl S.sub)<|.lst o.given.1 o.given.2⟩
def ZnX(c:HandC K C)(n:Qs K ty ρ (WM k))(e:zg ρ i<|zz<|QZ C N):Qs K (BX ty<|Vf K (Q5 i) "gone") ρ (.bool (Yc N.gone k).isSome):=λH0 F σ H Q S q=>
 n H0 F σ H _ S λv s y b j=>by
  obtain⟨a,dx,B,g,d,m,w,A,D,xs,M,r,o⟩:=(S.ext b).hz e;refine⟨_,r,a,C,dx,_,.ref d,rfl,b.fh _ _ o.ins,c.cl,c.go,rfl,?_⟩;rw[M9 j];refine⟨d,_,rfl,V9.k<|b.fh _ _ o.gone.1,?_⟩;have p:(Z4 xs k).isSome=(Yc N.gone k).isSome:=by
   rcases o.gone.2.val k with ⟨h,f⟩|⟨x,E,h,f,_⟩
   .rw[h,f];rfl
   .rw[h,f];rfl
  rw[p];exact q v s _ b (.bl _)
def B7{R:List OT->(OT->Prop)->Prop}{E:XK}(P:NoH m)(e:zg ρ i<|zz<|QZ C N)(h:Zv K t ρ ts)(X:R (.zow (QZ C N)::ts) Φ):
 Z2 K (ZR C m (Zr K R) [] E (Q5 i) t) ρ Φ:=λH0 F σ H Q S q=>by
 obtain⟨a,dx,k,g,d,A,y,B,Y,xs,l,c,n⟩:=S.hz e;refine⟨_,c,a,dx,_,rfl,S.sub _ _ n.ins,P _ _ _ _ _ _,h H0 F σ H _ S λx G z f s=>?_⟩;exact⟨x,_,Φ,(S.ext f).kt,f.fh,.zow (Ψ:=QZ C N) ((QZ C N).mono (K:=K) f.ff ⟨a,dx,k,g,d,A,y,B,Y,xs,l,rfl,n⟩)<|by rw[Xx];exact s,X,λu o v p w D r M j=>q u o v p w D (f.trans r) (λb W=>f.hh.free<|M b W) j⟩
def PL{R:List OT->(OT->Prop)->Prop}{E:XK}(a:NoH m)(e:zg ρ i<|zz<|QZ C N)(h:Zv K t ρ ts)(b:R (.zow (QZ C N)::ts) (λr=>r=.fz d)):Qs K (ZR C m (Zr K R) [] E (Q5 i) t) ρ d:=EvO.e (Z2.o<|B7 a e h b)
def Jb(i:Nat)(e:zg ρ i<|zo v<|QI C N)(f:∀r,Φ r->Uf r)(h:Z2 K t (ρ.set i<|zz<|QZ C N) Φ):Z2 K t ρ Φ:=
 Pq i e (λa b c=>QI.fz a b c) f h
def G6(i:Nat)(e:zg ρ i<|zo v<|QI C N)(b:ZO d=some u)(h:Qs K t (ρ.set i<|zz<|QZ C N) d):Qs K t ρ d:=
 EvO.e (Z2.o<|Jb (Φ:=λr=>r=.fz d) i e (λr a=>by subst a;exact JG b)<|h.o.d rfl)
def JA{b:Bool}(i:Nat)(e:zg ρ i<|zo v<|QI C N)(h:Zf K t (ρ.set i<|zz<|QZ C N) b):Zf K t ρ b:=λH0 F σ H Q S q=>by
 obtain⟨p,f,j⟩:=S.freezeZ e (λa b c=>QI.fz a b c);exact h H0 _ σ H Q j λn m x=>q _ m (UC (λa g=>⟨(f a g).1,(f a g).2.1⟩) x)
def Q9.hand(S:Q9 K H0 F ρ σ H)(e:zg ρ i<|zo v<|QI C N):
 ∃a dx k g d m y xs as,v=.ref a/\σ[i]?=some (some<|.ref a)/\HandOk C N F H a dx k g d m y xs as/\(∀b∈a::dx::k::g::d::m::as,H0 b=none/\F b=none/\H b≠none)/\
  ∀(n:Hp) (w:HandS) (s:V) (j:List (Key×V)) (f:Qg),Q7 F n->(∀b,b∉a::dx::k::g::d::m::as->H b≠none->n b=H b)->(∀b,H b≠none->n b≠none)->
   HandOk C w F n a dx k g d m s j f->(∀b∈f,b∈as\/(H b=none/\H0 b=none))->Q9 K H0 F (ρ.set i<|zo v<|QI C w) σ n:=by
 obtain⟨X,p,⟨a,dx,k,g,d,m,y,xs,as,rfl,rfl,B⟩,D,A⟩:=S.writeOwn e;refine⟨a,dx,k,g,d,m,y,xs,as,rfl,X,B,D,λn w s j f W R P M E=>A n _ _ W R P ⟨a,dx,k,g,d,m,s,j,f,rfl,rfl,M⟩ λb r=>?_⟩;simp only[Xe]at r ⊢;rcases r with h|h|h|h|h|h|r
 .exact .inl (.inl h)
 .exact .inl (.inr<|.inl h)
 .exact .inl (.inr<|.inr<|.inl h)
 .exact .inl (.inr<|.inr<|.inr<|.inl h)
 .exact .inl (.inr<|.inr<|.inr<|.inr<|.inl h)
 .exact .inl (.inr<|.inr<|.inr<|.inr<|.inr<|.inl h)
 .rcases E b r with z|z
  .exact .inl (.inr<|.inr<|.inr<|.inr<|.inr<|.inr z)
  .exact .inr z
def HandOk.same{g m:Addr}{xs:List (Key×V)}
(v:HandOk C N F H a dx k g d m y xs as)(b:HandOk C N' F' H' a dx' k' g' d' m' y' xs' as')(s:H' a=H a):dx'=dx/\k'=k/\g'=g/\d'=d/\m'=m/\y'=y:=by
 have h:=b.ins.2;rw[s,v.ins.2]at h;injection h with h;injection h with _ w f;simp only[hfs,List.cons.injEq,Prod.mk.injEq,true_and,and_true,V.ref.injEq]at f;obtain⟨r,_,p,n,j,i⟩:=f;exact⟨w.symm,p.symm,n.symm,j.symm,i.symm,r.symm⟩
def HandOk.setKnown{g m:Addr}{xs:List (Key×V)}(i:HandOk C N F H a dx k g d m y xs as)(A:Qx F za ns):
 HandOk C { N with known:=ns } F (upd H k<|.lst za) a dx k g d m y xs as:=by
 obtain⟨f,⟨w,v⟩,⟨n,j⟩,h,⟨k1,l,k2,k3⟩,⟨K,B,E,D⟩,⟨d1,P,M⟩,⟨s,r,p⟩⟩:=i;have b:=f;simp only[Xv,Xe,not_or]at b;obtain⟨⟨o,e,_⟩,⟨c,_⟩,⟨Y,X,W,R⟩,_⟩:=b;exact⟨f,⟨w,by rw[Qu e];exact v⟩,⟨n,by rw[Qu c];exact j⟩,h,⟨k1,za,QG,A⟩,⟨K,B,by rw[Qu<|Ne.symm Y];exact E,D⟩,⟨d1,by rw[Qu<|Ne.symm X];exact P,M⟩,⟨s,by rw[Qu<|Ne.symm W];exact r,p.other R⟩⟩
def HandOk.setGiven{g m:Addr}{xs:List (Key×V)}(i:HandOk C N F H a dx k g d m y xs as){ns:Ql}(B:Qx F za (ns.map PyData.int)):
 HandOk C { N with given:=ns } F (upd H g<|.lst za) a dx k g d m y xs as:=by
 obtain⟨f,⟨A,w⟩,⟨n,j⟩,h,⟨k1,v,k2,k3⟩,⟨D,c,l,e⟩,⟨d1,R,P⟩,⟨s,r,p⟩⟩:=i;have b:=f;simp only[Xv,Xe,not_or]at b;obtain⟨⟨t,q,Y,_⟩,⟨o,X,_⟩,⟨W,_⟩,⟨M,K,E⟩,_⟩:=b;exact⟨f,⟨A,by rw[Qu Y];exact w⟩,⟨n,by rw[Qu X];exact j⟩,h,⟨k1,v,by rw[Qu W];exact k2,k3⟩,⟨D,za,QG,B⟩,⟨d1,by rw[Qu<|Ne.symm M];exact R,P⟩,⟨s,by rw[Qu<|Ne.symm K];exact r,p.other E⟩⟩
def OD(c:HandC K C)(e:zg ρ i<|zo v<|QI C N){n:PyData}(h:Qs K te ρ n)(O:N.known.length<1000)
(hn:D.nx (ρ.set i<|zo v<|QI C { N with known:=N.known++[n] })):Q3 K (VC<|tBM K "list" Yl (Vf K (Q5 i) "known")<|QF te QM) ρ D:=λF0 H0 F σ H E x S I=>by
 obtain⟨a,dx,k,g,d,m,y,xs,Z,rfl,q,p,_⟩:=S.hand e;refine⟨_,q,a,C,dx,_,.ref k,rfl,p.ins.2,c.cl,c.kn,rfl,.inl ⟨rfl,_,SqL.of p.known.2.choose_spec.1⟩,h H0 F σ H _ S λG H1 u r W=>?_⟩;obtain⟨a',t,M,T,U,L,P,s,A,o,Q,f,l,R⟩:=(S.ext r).hand e;cases o;obtain⟨rfl,rfl,rfl,rfl,rfl,rfl⟩:=p.same f ((r.hh _ _ p.ins.2).trans p.ins.2.symm);obtain⟨J,X,Y,B⟩:=f.known;have j:=l M (by simp);refine⟨M,X,u,rfl,rfl,Y,by rw[B.length];exact Vp<|by lia,?_⟩;exact I.nx G σ _ _ ((x.trans r).wr j.1 j.2.1) (R _ { N with known:=N.known++[n] } P s A ((S.ext r).sub.upd j.2.1) (λb w _=>Qu λz=>w<|by rw[z];simp) Yb (f.setKnown<|B.snoc W) λb w=>.inl w) hn
def OJ(c:HandC K C)(e:zg ρ i<|zo v<|QI C N){n:Int}(h:Qs K te ρ (.int n))(Q:N.given.length<1000)
(hn:D.nx (ρ.set i<|zo v<|QI C { N with given:=N.given++[n] })):Q3 K (VC<|tBM K "list" Yl (Vf K (Q5 i) "given")<|QF te QM) ρ D:=λF0 H0 F σ H E x S I=>by
 obtain⟨a,dx,k,g,d,m,y,xs,Z,rfl,q,p,_⟩:=S.hand e;refine⟨_,q,a,C,dx,_,.ref g,rfl,p.ins.2,c.cl,c.gv,rfl,.inl ⟨rfl,_,SqL.of p.given.2.choose_spec.1⟩,h H0 F σ H _ S λG H1 u r W=>?_⟩;obtain⟨a',t,O,M,U,L,P,s,A,o,T,f,l,R⟩:=(S.ext r).hand e;cases o;obtain⟨rfl,rfl,rfl,rfl,rfl,rfl⟩:=p.same f ((r.hh _ _ p.ins.2).trans p.ins.2.symm);obtain⟨J,X,Y,B⟩:=f.given;have j:=l M (by simp);refine⟨M,X,u,rfl,rfl,Y,by rw[B.length,Xl];exact Vp<|by lia,?_⟩;exact I.nx G σ _ _ ((x.trans r).wr j.1 j.2.1) (R _ { N with given:=N.given++[n] } P s A ((S.ext r).sub.upd j.2.1) (λb w _=>Qu λz=>w<|by rw[z];simp) Yb (f.setGiven<|by rw[XF];exact B.snoc W) λb w=>.inl w) hn
end
end L2
variable {N:L2.HandS}
namespace L2
inductive SpP(K:W.Frag){α:Type}(Φ:α->OwnP)(R:α->List OT->(OT->α->Prop)->Prop)(vs:List V)(H:Hp)(Q:VK):Prop
 |mk (F:Hp)(v0:V)(vs':List V)(p:Qg)(ts:List OT)(N:α)(Ψ:OT->α->Prop)(e:vs=v0::vs')(kt:KTs K F)(sm:Q7 F H)(ha:Args K F vs' ts)(ok:(Φ N).ok K F H v0 p)(hR:R N ts Ψ)
  (k:∀F' H' p' N' v r q,Ψ r N'->ExtN p F H F' H'->(Φ N').ok K F' H' v0 p'->(∀b∈p',b∈p\/H b=none)->Ze K F' H' v r q->(∀b∈q,(b∈p\/H b=none)/\b∉p')->Q v H'):SpP K Φ R vs H Q
def spP(K:W.Frag){a:Type}(Φ:a->OwnP)(R:a->List OT->(OT->a->Prop)->Prop):Sp:=λb H Q _=>SpP K Φ R b H Q
abbrev spH(K:W.Frag)(C:Addr)(R:HandS->List OT->(OT->HandS->Prop)->Prop):Sp:=spP K (QI C) R
def JX(K:W.Frag)(C CR:Addr){a:Type}(g:Addr->Hp->Hp->Hp->Qj->a->Prop)(R:HandS->List OT->(OT->HandS->Prop)->Prop)(f:List OT->(a->Prop)->Prop):Sp:=λb H Q E=>(∃RR,E=XE CR RR/\ZV CR RR/\spH K C R b H Q E)\/Yx K CR g (λ_ _=>False) f b H Q E
abbrev UU(K:W.Frag)(C CR:Addr)(f:Str)(R:HandS->List OT->(OT->HandS->Prop)->Prop)(Rx:List OT->(Qd->Prop)->Prop):Sp:=JX K C CR (Fld f) R Rx
def WN(K:W.Frag)(C:Addr)(R:HandS->List OT->(OT->HandS->Prop)->Prop)(R2:List OT->(OT->Prop)->Prop):Sp:=λa H Q E=>spH K C R a H Q E\/Zr K R2 a H Q E
def EvR(K:W.Frag)(t:TS)(ρ:ZbJ)(Ψ:OT->ZbJ->Prop):Prop := ∀(F0 H0 F:Hp) (σ:St) (H:Hp) (E:Ends),Q0 F0 H0 F H->Q9 K H0 F ρ σ H->
 (∀h f g b v r q,Q0 F0 H0 h g->Q9 K H0 h b f g->Ze K h g v r q->(∀a∈q,H0 a=none)->(∀a∈q,∀u i j,b[0]?=some (some i)->f[0]?=some (some u)->Ze K h g u i j->a∉j)->Ψ r b->E.rt v g)->t E σ H
section
variable {t u:TS}
def ZL(M:ZbJ->Prop)(h:Q3 K t ρ { nx:=M,rt:=λ_=>False })(g:∀a,M a->EvR K u a Ψ):EvR K (Yv t u) ρ Ψ:=λF0 H0 F σ H E x S k=>
 h F0 H0 F σ H _ x S ⟨λm b j a f i e=>g a e F0 H0 m b j E f i k,λ_ _ _ _ _ _ _ _ z=>z.elim,λ_ _ _ _ _ _ z=>False.elim z,λ_ _ _ _ _ _ z=>False.elim z⟩
def Ya(f:Q3 K t ρ { nx:=λa=>a=e,rt:=λ_=>False })(b:EvR K u e Ψ):EvR K (Yv t u) ρ Ψ:=ZL (λa=>a=e) f λa h=>by rw[h];exact b
def WX(h:Qs K te ρ d)(b:Ψ (.fz d) ρ):EvR K (Yw te) ρ Ψ:=λF0 H0 F σ H E x S k=>
 h H0 F σ H _ S λg f v a r=>k g σ f ρ v (.fz d) [] (x.trans a) (S.ext a) ⟨rfl,r⟩ (by rintro _ ⟨⟩) (by rintro _ ⟨⟩) b
def SS{r:OT}(p:j≠0)(e:ρ[j]?=some (some r))(m:Ψ r ρ):EvR K (Yw<|Q5 j) ρ Ψ:=λF0 H0 F σ H E x S k=>by
 obtain⟨w,h,t,s⟩:=S.fp;obtain⟨v,C,i⟩:=h j _ e;refine⟨v,C,k F σ H ρ v r (w j) x S i (λa f=>(s j a f).1) (λa f u M N B A b n=>?_) m⟩;obtain⟨D,g,y⟩:=h 0 _ B;rw[A]at g;cases g;exact p (t j 0 a f<|Jd (K:=K) y b a n)
variable {α:Type}{Φ:α->OwnP}{N:α}
def Kd{R:α->List OT->(OT->α->Prop)->Prop}{p:Qg}{Ψ:OT->α->Prop}
(h:EvR K t (zr L<|(.own v0<|Φ N)::ts) (λr g=>∃n,Ψ r n/\g[0]?=some (zo v0<|Φ n)))
(X:KTs K F)(A:Q7 F H)(d:Args K F vs ts)(P:(Φ N).ok K F H v0 p)
(q:∀j f w C v r q,Ψ r C->ExtN p F H j f->(Φ C).ok K j f v0 w->(∀b∈w,b∈p\/H b=none)->Ze K j f v r q->(∀b∈q,(b∈p\/H b=none)/\b∉w)->Q v f):
 t { nx:=q0,rt:=Q } (start L (v0::vs)) H:=by
 have y:∀b,(λb=>if b∈p then none else H b:Hp) b=none->b∈p\/H b=none:=λb a=>by
  by_cases z:b∈p
  .exact .inl z
  .simp only[Xb z]at a;exact .inr a
 refine h F (λb=>if b∈p then none else H b) F _ H _ ⟨λb o a=>?_,Q7.refl _,A,λ_ h=>.inl h⟩ (Lv X A d P) λj D f g v r M m G s Y c ⟨n,e,B⟩=>?_
 .by_cases z:b∈p
  .simp[z]at a
  .simp only[Xb z]at a;exact a
 .obtain⟨x,l,I,k⟩:=G.fp;obtain⟨u,E,rfl,i⟩:=l 0 _ B;refine q j f (x 0) n v r M e ⟨λb o W a=>m.hh b o<|by simp only[Xb W];exact a,m.ff,m.fh,λb a=>?_⟩ i (λb a=>y b (k 0 b a).1) s (λb a=>⟨y b<|Y b a,c b a _ _ _ B E ⟨rfl,i⟩⟩);rcases m.fr b a with z|z
  .exact .inl z
  .exact .inr ((y b z).symm)
end
def VU(P:Program)(w:World)(K:W.Frag)(mg:Str->Qf)(base:Heap)(C:Addr)(m:Str)(ps:Qh)(k:Nat)(a:Sp):Prop:=
 ∃f fd,Meth K C m f/\Vw K fd ps []/\FnOk P w K mg base (CX1 P w) k f fd ps a
section
variable {base:Heap}
def Df.evH2{x:Str}{st:Stmt}{L:Qh}{k:Nat}{R:HandS->List OT->(OT->HandS->Prop)->Prop}{R2:List OT->(OT->Prop)->Prop}(D:Df K mg x st ps)(S:Qp L ps (Q4 st))(W:∀M ts Ψ,R M ts Ψ->ts.length+1=ps.length)(j:∀ts Φ,R2 ts Φ->ts.length=ps.length)(U:ps.length<=L.length)
(m:∀(f:Addr) (a:Value) (A:Around) (outer:List Env) (s:Shared) (H:Hp) (E:XK) (v:V) (M:HandS) (ts:List OT) (Ψ:OT->HandS->Prop),Room k (A.deeper<|envOfC x (Q4 st) s.heap.objs.size f a)->R M ts Ψ->
  ∃t,PSs (Vq CX0 P w K mg base L x (Q4 st) f a A outer s H E).nox (ZB st) t/\EvR K t (zr L<|(.own v<|QI C M)::ts) (λr i=>∃J,Ψ r J/\i[0]?=some (zo v<|QI C J)))
(d:∀(f:Addr) (a:Value) (A:Around) (outer:List Env) (s:Shared) (H:Hp) (E:XK) (ts:List OT) (Φ:OT->Prop),Room k (A.deeper<|envOfC x (Q4 st) s.heap.objs.size f a)->R2 ts Φ->
  ∃t,PSs (Vq CX0 P w K mg base L x (Q4 st) f a A outer s H E).nox (ZB st) t/\Q3 K t (zr L ts) { nx:=λ_=>Φ<|.fz .none,rt:=Φ }):QE P w K mg base x ps (k+1) (WN K C R R2):=by
 obtain⟨f,fd,F,hm,hb⟩:=D.ex;refine⟨f,fd,hm,F.kp,hb,F.ok S (λu H Q E h=>?_) λa A outer s H u Q E I h=>?_⟩
 .rcases h with ⟨F,G,B,p,ts,M,Ψ,e,_,_,b,_,g,_⟩|⟨F,ts,Φ,_,_,b,g,_⟩
  .rw[e,XN,b.length];exact W _ _ _ g
  .exact b.length.trans (j ts Φ g)
 .rcases h with ⟨F,G,B,p,ts,M,Ψ,e,X,n,b,N,g,q⟩|⟨F,ts,Φ,X,n,b,g,q⟩
  .subst e;obtain⟨t,c,Y⟩:=m f a A outer s H E G M ts Ψ I g;exact⟨t,c,Kd (R:=R) Y X n b N q⟩
  .obtain⟨t,c,Y⟩:=d f a A outer s H E ts Φ I g;refine⟨t,c,Y F H F (start L u) H _ (Q0.refl n) (JF X n b) ⟨λo O l i y _ e=>?_,λo l v T p y Z N e=>q o l v p T e y Z N,λ_ _ _ _ _ _ z=>False.elim z,λ_ _ _ _ _ _ z=>False.elim z⟩⟩;exact q o l _ [] _ e y (by rintro _ ⟨⟩) ⟨rfl,.non⟩
end
def SY  {o e:Expr}  {t:TA}{k:Nat}{b:Sp}{pl:Sem Bool}(M:ZC X.prog X.w X.K X.mg X.base C m ps j b)(c:HandC X.K C)(i:Room k X.A)(he:PE X o ta)(s:PA X (e::es) t)(p:j<=k:=by walk_at"j")
(a:zs X e es:=by rfl)(hpl:zb X pos es:=by rfl)
(h:eval (.Call (.Attribute o m SF) (e::es) [] pos) X.env=(do
  let g <- eval o X.env
  standAt SF.atName
  let (f,first) <- holding [g] (getMethod g m pl)
  callWith pos f first (backTo pos<|starEach (e::es) X.env)<|backToKw pos<|keywordEach [] X.env):=by rfl):
 PE X (.Call (.Attribute o m SF) (e::es) [] pos) (ZR C m b [] E0 ta t):=by
 obtain⟨f,fd,n,r,F⟩:=M;exact HL (pl:=pl) he c.cl n F (i.mono p) r .nil Uk s a hpl h
def VY  {o:Expr}  {k:Nat}{a:Sp}{pl:Sem Bool}(M:ZC X.prog X.w X.K X.mg X.base C m ps j a)(c:HandC X.K C)(h:Room k X.A)(he:PE X o ta)(n:j<=k:=by walk_at"j")
(g:eval (.Call (.Attribute o m SF) [] [] pos) X.env=(do
  let b <- eval o X.env
  standAt SF.atName
  let (f,first) <- holding [b] (getMethod b m pl)
  callWith pos f first (backTo pos<|starEach [] X.env)<|backToKw pos<|keywordEach [] X.env):=by rfl):
 PE X (.Call (.Attribute o m SF) [] [] pos) (ZR C m a [] E0 ta QM):=by
 obtain⟨f,fd,i,p,F⟩:=M;exact P9 (pl:=pl) he c.cl i F (h.mono n) p .nil Uk g
def YV  {o e:Expr}  {t:TA}{k:Nat}{b:Sp}{E:XK}{pl:Sem Bool}(M:VU X.prog X.w X.K X.mg X.base C m ps j b)(c:HandC X.K C)(n:Room k X.A)(h:Yj (CX1 X.prog X.w) X E)(he:PE X o ta)(v:PA X (e::es) t)(r:j<=k:=by walk_at"j")
(a:zs X e es:=by rfl)(hpl:zb X pos es:=by rfl)
(i:eval (.Call (.Attribute o m SF) (e::es) [] pos) X.env=(do
  let g <- eval o X.env
  standAt SF.atName
  let (f,first) <- holding [g] (getMethod g m pl)
  callWith pos f first (backTo pos<|starEach (e::es) X.env)<|backToKw pos<|keywordEach [] X.env):=by rfl):
 PE X (.Call (.Attribute o m SF) (e::es) [] pos) (ZR C m b [] E ta t):=by
 obtain⟨f,fd,p,s,F⟩:=M;exact HL (pl:=pl) he c.cl p F (n.mono r) s .nil h v a hpl i
section
variable {t:TA}{CR:Addr}
def QI.at{p:Qg}(h:(QI C N).ok K F H v p):∃a dx y n k g d e,v=.ref a/\H a=some (.ins C dx<|hfs y n k g d e):=by
 obtain⟨a,dx,k,g,d,m,y,xs,b,rfl,_,o⟩:=h;exact⟨a,dx,y,_,k,g,d,m,rfl,o.ins.2⟩
def EZ{R:HandS->List OT->(OT->HandS->Prop)->Prop}{Ψ:OT->HandS->Prop}(hm:NoH m)(e:zg ρ i<|zo v<|QI C N)(hx:Qs K tx ρ d0)(hf:ZO d0=some w0)(hA:Zv K t ρ ts)(hR:R N ts Ψ)(st:ZV CR RR)
(hn:∀r h,Ψ r h->∃d w,r=.fz d/\ZO d=some w/\D.nx ((ρ.set i<|zo v<|QI C h).set j (some<|.ol [d0,d]))):
 Q3 K (ZM (Uc<|QF tx<|QF (ZR C m (UU K C CR f R Rx) [] (XE CR RR) (Q5 i) t) QM)<|Vb j) ρ D:=λF0 H0 F σ H E x S C'=>
 hx H0 F σ H _ S λF1 H1 u a r1=>by
  obtain⟨p0,s0,l,_⟩:=VM (S.ext a) (x.trans a) e;obtain⟨T,dx,y,n,k,g,d,e',rfl,h1⟩:=QI.at l;refine⟨.ref T,s0,T,dx,_,rfl,h1,hm _ _ _ _ _ _,hA H0 F1 σ H1 _ (S.ext a) λF2 H2 vs s r2=>.inl ⟨RR,rfl,st,?_⟩⟩;obtain⟨p,s1,Y,L⟩:=VM (S.ext<|a.trans s) (x.trans<|a.trans s) e;refine⟨F2,_,vs++[],p,ts,N,Ψ,rfl,(S.ext<|a.trans s).kt,s.fh,by rw[Xx];exact r2,Y,hR,λP M p' h v' r q hr Z o W X hq=>?_⟩;obtain⟨d,w,rfl,hfd,G⟩:=hn r h hr;obtain⟨U,B,_⟩:=L P M p' h Z o W;refine⟨Y4<|Vp YO,λz hz=>?_⟩;have A:M z=none:=hz;have O:Q0 P M P (upd M z<|.lst [u,v']):=Q0.own B.sub A;have S2:=B.ext O;refine C'.nx P _ _ _ (U.trans O) (S2.set (t:=.ol [d0,d]) (p:=[z]) ⟨z,rfl,rfl,B.sub.free A,_,QG,.cons (r1.thin hf)<|.cons X.2 .nil⟩ (λb J=>?_) (hn:=λb J k u' t' q' m1 Q c I=>?_)) G
  .cases Xh.mp J;exact U.hh.free A
  .cases Xh.mp J;obtain⟨fp,g1,g2,g3⟩:=B.fp;obtain⟨u2,f1,f2⟩:=g1 k t' m1;rw[f1]at Q;cases Q;exact(g3 k z<|Jd (K:=K) (f2.ext O) c z I).2 A
def EN{R:HandS->List OT->(OT->HandS->Prop)->Prop}{E:Ends}(W:NoH m)(e:zg ρ i<|zz<|QZ C N)(M:Qs K tx ρ d0)(o:Zv K t ρ ts)(l:Rx (.zow (QZ C N)::ts) Φx)(st:ZV CR RR)
(P:∀r n e b d,Φx d->Q0 F0 H0 r n->H0 e=none->Fld f e r n H0 b d->RR e b n)(x:Q0 F0 H0 F H)(S:Q9 K H9 F ρ σ H):
 ZM (Uc<|QF tx<|QF (ZR C m (UU K C CR f R Rx) [] (XE CR RR) (Q5 i) t) QM) (Vb j) E σ H:=
 M H9 F σ H _ S λL I u h Q=>by
  obtain⟨a,dx,k,g,d,B,y,D,q,xs,G,z,v⟩:=(S.ext h).hz e;refine⟨_,z,a,dx,_,rfl,h.fh _ _ v.ins,W _ _ _ _ _ _,o H9 L σ I _ (S.ext h) λJ T O p A=>.inr ?_⟩;have s:=x.trans (h.trans p);exact⟨J,_,(S.ext<|h.trans p).kt,p.fh,.zow (Ψ:=QZ C N) ((QZ C N).mono (K:=K) p.ff ⟨a,dx,k,g,d,B,y,D,q,xs,G,rfl,v⟩)<|by rw[Xx];exact A,RR,rfl,st,.inr ⟨Φx,l,λr n e b d c w Y X=>P r n e b d c (s.trans w) (s.hh.free Y)<|X.back s.hh⟩⟩
def IA{R:HandS->List OT->(OT->HandS->Prop)->Prop}{R2:List OT->(OT->Prop)->Prop}{Ψ:OT->HandS->Prop}(X:i≠j)(e:zg ρ i<|zo v<|QI C N)(c:Zv K t ρ ts)(Y:R N ts Ψ)
(hn:∀r a,Ψ r a->D.nx ((ρ.set i<|zo v<|QI C a).set j (some r))):
 Q3 K (ZM (Vg (WN K C R R2) [] E'<|QF (Q5 i) t)<|Vb j) ρ D:=λF0 H0 F σ H E x S z=>by
 obtain⟨J,s0,_⟩:=VM S x e;refine⟨_,s0,c H0 F σ H _ S λu L A b B=>.inl ?_⟩;obtain⟨p,I,h,n⟩:=VM (S.ext b) (x.trans b) e;refine⟨u,_,A++[],p,ts,N,Ψ,rfl,(S.ext b).kt,b.fh,by rw[Xx];exact B,h,Y,λw s M a G r q P y m f g W=>?_⟩;obtain⟨l,o,d⟩:=n w s M a y m f;obtain⟨d1,k⟩:=d q W;exact z.nx w _ s _ l (o.set g d1 (hn:=k)) (hn r a P)
def Tl{R:HandS->List OT->(OT->HandS->Prop)->Prop}{R2:List OT->(OT->Prop)->Prop}(h:Zv K t ρ ts)(s:R2 ts Φ):Z2 K (Vg (WN K C R R2) [] E' t) ρ Φ:=λH0 F σ H Q S q=>
 h H0 F σ H _ S λA D B b g=>.inr ⟨A,ts,Φ,(S.ext b).kt,b.fh,by rw[Xx];exact g,s,λy w v p r j f m i=>q y w v p r j (b.trans f) (λa n=>b.hh.free<|m a n) i⟩
end
def BV(C:Addr):Sp:=λf H Q _=>∃x dx y,f=[.ref x,y]/\H x=some (.ins C dx [])/\∀k g d m a,H k=none->H g=none->H d=none->H m=none->[x,k,g,d,m].Nodup->
 a x=some (.ins C dx<|hfs y 0 k g d m)->a k=some (.lst [])->a g=some (.lst [])->a d=some (.dK [])->a m=some (.lst [])->(∀b,b∉[x,k,g,d,m]->a b=H b)->Q .non a
def DK(P:Program)(w:World)(K:W.Frag)(mg:Str->Qf)(base:Heap)(x:Str)(C:Addr)(ps:Qh)(k:Nat):Prop:=
 ∃f fd,Mk K C f/\mg x=some (.ref C)/\Vw K fd ps []/\FnOk P w K mg base CX0 k f fd ps (BV C)
def Oe     (M:DK X.prog X.w X.K X.mg X.base x C ps j)(b:Room k X.A)(n:PA X (e::es) t)(h:j+1<=k:=by walk_at"j")(i:Gl X x:=by rfl)(a:(x==("__debug__" : Str))=false:=by decide +kernel)
(he:zs X e es:=by rfl)(hpl:zb X pos es:=by rfl):
 PE X (.Call (.Name x p) (e::es) [] pos) (Ge C (BV C) [] E0 t):=by
 obtain⟨f,fd,M,g,m,F⟩:=M;exact Eb M F (b.mono h) i g m .nil Uk n a he hpl
def Ez{E:XK}(h:Qs K ta ρ yd):EvX K (Ge C (BV C) [] E<|QF ta QM) ρ (QI C ⟨yd,0,[],[],[],[]⟩):=λH0 F σ H Q u q=>h H0 F σ H _ u λG n D v I=>λx dx s i w=>by
 have S:=u.ext v;refine⟨x,dx,D,rfl,QG,λe r l d B O J L T N h1 h2 h3 h4 Z Y=>⟨rfl,?_⟩⟩;have p:∀{b:Addr},upd (upd n dx<|.own x) x (.ins C dx []) b=none->n b=none/\b≠x/\b≠dx:=λ{b} a=>by
  have R:b≠x:=λz=>by rw[z,QG]at a;cases a
  rw[Qu R]at a;have P:b≠dx:=λz=>by rw[z,QG]at a;cases a
  rw[Qu P]at a;exact⟨a,R,P⟩
 obtain⟨A,e2,k⟩:=p O;obtain⟨f,r2,M⟩:=p J;obtain⟨y,l2,W⟩:=p L;obtain⟨d1,d2,t⟩:=p T;have m:B dx=some (.own x):=by
  rw[Y dx<|by simp only[Xe,XU,or_false,not_or];exact⟨w,Ne.symm k,Ne.symm M,Ne.symm W,Ne.symm t⟩,Qu w,QG]
 have X:∀b o,n b=some o->B b=some o:=λb o a=>by
  have g:∀{c:Addr},n c=none->b≠c:=λU z=>by rw[z,U]at a;cases a
  rw[Y b<|by simp only[Xe,XU,or_false,not_or];exact⟨g s,g A,g f,g y,g d1⟩,Qu<|g s,Qu<|g i];exact a
 have j:∀{b:Addr},n b=none->G b=none:=λa=>S.sub.free a;refine q G B (.ref x) [x,dx,e,r,l,d] (v.trans ⟨X,Q7.refl _,λb o a=>X b o<|S.sub b o a,λ_ h=>.inl h⟩) (λb a=>?_) ⟨x,dx,e,r,l,d,D,[],[],rfl,rfl,?_,⟨j s,h1⟩,⟨j i,m⟩,I,⟨j A,[],h2,.nil⟩,⟨j f,[],h3,.nil⟩,⟨j y,h4,.nil⟩,⟨j d1,Z,.nil⟩⟩
 .refine v.hh.free ?_;simp only[Xe,XU,or_false]at a;rcases a with rfl|rfl|rfl|rfl|rfl|rfl
  .exact s
  .exact i
  .exact A
  .exact f
  .exact y
  .exact d1
 .simp only[Xv,Xe,XU,or_false,not_or,not_false_eq_true,UM,and_true]at N ⊢;obtain⟨⟨a1,a2,a3,a4⟩,b1,c1,f1⟩:=N;exact⟨⟨Ne.symm w,a1,a2,a3,a4⟩,⟨Ne.symm k,Ne.symm M,Ne.symm W,Ne.symm t⟩,b1,c1,f1⟩
section
variable {H:Hp}
def Zm0(T:Qt X Xa7 σ H s)(hN:X.N.Nodup)(t:X.N[i]?=some x)(R:X.env.scope.names.lookup x=some .cell)(B:X.fn x=true)
(h:∀U,Qt X Xa7 (σ.set i none) H U->Q () U):wpAny M A (do bindName X.env x .none;unbindBehindTheSuite X.env x pos) Q E s:=by
 have D:i<σ.length:=by rw[T.len];exact(Xf.mp t).1
 refine Xa (wpAny_bindName<|MO (v:=.non) T hN t (.inr R) rfl (λs I=>?_)<|.inl B);obtain⟨m,hn,hl⟩:=id I.loc;have hiσ:i<(σ.set i<|some V.non).length:=by simpa using D
 have S:=I.cne;obtain⟨c,f⟩:=I.ok.has x (.inl R);have G:s.heap.IsCell c (some .none):=by
  obtain⟨u,ru,q⟩:=hl i x .non t (by rw[Xm D]) (.inr<|.inl R);cases ru;rcases q with ⟨k,_⟩|⟨k,Y,e,z⟩
  .have z:=R.symm.trans k;cases z
  .rw[f]at e;cases e;exact z
 have g:∀{a:Addr} {h':Heap},(∃o,s.heap.get? a=some o/\H a=none)->Heap.SameBut a s.heap h'->HOk X.prog X.w H h':=λ{a h'} ha r b ob e=>by
  obtain⟨_,_,w⟩:=ha;refine(I.hok b ob e).stay (λc w' f q=>(r.2 c ?_).trans q) (λ_ q=>q) λ_ _ q=>q
  rintro rfl;rcases f with rfl|f
  .rw[w]at e;cases e
  .rw[w]at f;cases f
 unfold unbindBehindTheSuite;refine wpAny_onRaise ?_;unfold unbindName;refine Xa (wpAny_point<|Xa ?_);unfold deleteName;have J:X.env.kindOf x=some .cell:=R;simp only[J];refine Xa (wpAny_cellOf f<|Xa<|wpAny_cellGet G ?_);simp only[Option.isSome_some,if_true];refine wpAny_cellSet G λh' L r=>?_;obtain⟨Z,P,N⟩:=id G;refine wpAny_point (h _ ⟨I.ok,I.os,I.bare,⟨λb o e n O C=>?_,λb o e n O C=>?_,I.base.free,λb o e C=>?_,I.base.tups,I.base.frzs,λb xs o q e C=>(r.2 b<|Xr<|Xp (Xk e)<|I.ok.cab x c B f).trans (I.base.tupo b xs o q e C),I.base.tbls⟩,⟨m,hn.sameBut r<|Ne.symm<|S x c f,λj y v' K F e3=>?_⟩,λy Y e=>?_,I.free,I.freeC,λp hp=>?_,g ⟨Z,P,I.freeC x c f⟩ r,by simpa using T.len⟩)
 .exact(r.2 b<|Xr<|Xp (Xk e)<|I.ok.cab x c B f).trans (I.base.keep b o e n O C)
 .obtain⟨sl,K⟩:=I.base.slot b o e n O C;exact⟨sl,(r.2 b<|Xr<|Xp (Xk e)<|I.ok.cab x c B f).trans K⟩
 .obtain⟨o',K⟩:=I.base.there b o e C;exact⟨o',(r.2 b<|Xr<|Xp (Xk e)<|I.ok.cab x c B f).trans K⟩
 .by_cases l:j=i
  .subst l;rw[Xm D]at F;cases F
  .rw[Xt<|Ne.symm l]at F;obtain⟨u',r',q⟩:=hl j y v' K (by rw[Xt<|Ne.symm l];exact F) e3;refine⟨u',r',?_⟩;rcases q with q|⟨k,Y,e,z'⟩
   .exact .inl q
   .refine .inr ⟨k,Y,e,z'.sameBut r ?_⟩;rintro rfl;exact l (MA hN K<|I.ok.inj _ _ _ e f▸t)
 .by_cases W:Y=c
  .subst W;exact⟨_,L⟩
  .obtain⟨w2,z2⟩:=I.cell y Y e;exact⟨w2,z2.sameBut r W⟩
 .obtain⟨e,n,ne,nf,d⟩:=I.pin p hp;refine⟨(r.2 p.1 ?_).trans e,n,ne,nf,d⟩;intro q;rw[q,P]at e;have q':Z=p.2:=Option.some.inj e;exact d _ (by rw[<- q'];exact N)
end
def EHc(C:Addr)(th:Addr->TS)(D:Ends)(n j:Nat):XK:=XE C λe a H=>∀(σ:St) H' T,σ.length=n->Lefts C e a H H'->H' T=none->T≠e->th e (Dh D j) (σ.set j<|some<|.ref e) (left C e a T H')
def BB{D:Ends}:ZV C λe a H=>∀(σ:St) c T,σ.length=n->Lefts C e a H c->c T=none->T≠e->th e (Dh D j) (σ.set j<|some<|.ref e) (left C e a T c):=λ_ _ _ _ r hT b σ c h f g=>r σ c h f (.head hT b g)
section
variable {B:Addr}{tb:Ends->TS}{body suite:List Stmt}{b0:Stmt}{x n:Str}{np hpos:Pos}{rest:List ExceptHandler}
def O5{D:Ends}(cm:W.exmOne X.K (.ref C) (.ref B)=some true)(b:X.Ok)(a:X.stack=X.env::X.outer)(y:X.env.frame=some X.env.locals)(hg:Gl X x)(hm:X.mg x=some (.ref B))
(N:X.N.Nodup)(w:X.N[j]?=some n)(g:X.env.scope.names.lookup n=some .local\/(X.env.scope.names.lookup n=some .cell/\X.fn n=true))
(hh:∀e pn,PSs (Jf X e pn) (b0::suite)<|th e)(I:Qt { X with pn:=X.pn++Xa7 } [] σ H s)(M:T0≠e)(he:H e=some (.ext<|phF C e dct T0))(hT:H T0=some (.ext<|phT T0))
(hd:(x==("__debug__" : Str))=false)
(hq:∀T,H T=none->T≠e->th e (Dh D j) (σ.set j<|some<|.ref e) (left C e dct T H))(k:∀f d,SP X Xa7 D f d->Q f d):
 wpAny (model X.prog X.w) X.A (noteFrame (.ref e) X.env) (λ_ L=>wpAny (model X.prog X.w) X.A (setFlight (.ref e) none) (λ_ m=>wpAny (model X.prog X.w) X.A (handleBy (.ref e) X.env (.ExceptHandler (some<|.Name x np) (some n) (b0::suite) hpos::rest)) Q E m) E L) E s:=by
 obtain⟨⟨vs,sl,r,l,P⟩,_,_⟩:=I.hok e _ he;obtain⟨⟨oT,ts,p,R,h3⟩,_,_⟩:=I.hok T0 _ hT;have fr:X.A.frames=some (X.env::X.outer):=by rw[b.frames,a]
 have Y:=I.stack;have Y:s.heap.FunFrames X.base (X.env::X.outer):=by rw[<- a];exact Y
 refine Lp fr Y y r rfl l M p R h3 λh' T Z=>?_;have J:=K4 I (by rw[he];trivial) r (Array.getElem?_eq_some_iff.mp l).1 P (by show Leaves X.stack _ _ _ _ _;rw[a];exact Z);have K:H T=none:=I.hok.fresh Z.new;have h:T≠e:=Yo (Xp (Xk r) Z.new);have i:Qt (Jf X e<|X.pn++Xa7) [] σ (left C e dct T H) { s with heap:=h' }:=J.toHandler;refine wpAny_handleBy_cons (codeAny_handlers_test<|J0 i hg hm ?_ hd) (by intro q;cases q);have LT:W.Looks (model X.prog X.w) h' (typeOf<|.ref e) (.ref C):=(W.Looks.ld Z.exc).andThen .now;refine(W.exm_one J.kIn LT cm).here (codeAny_handlers_suite_as ?_);have o1:left C e dct T H e=some (.ext<|phF C e dct T):=by unfold left;rw[Qu<|Ne.symm h,QG]
 have U:left C e dct T H T=some (.ext<|phT T):=by unfold left;rw[QG]
 obtain⟨S,_,_⟩:=i.hok e _ o1;obtain⟨O,_,_⟩:=i.hok T _ U;refine ZkD S O λR k2=>?_;have J2:Qt (Jf X e<|X.pn++Xa7) [] σ (left C e dct T H) { s with heap:=R }:=i.kept (t':=s.toks) k2;refine MO (X:=Jf X e (X.pn++Xa7)) J2 N w (g.imp id And.left) (v:=.ref e) rfl (λm J3=>?_) (g.symm.imp And.right id);refine wpAny_mono (hh e _ [] m _ _ (Dh D j) J3<|hq T K h) (λfl s4 z=>?_) λ_ _ z=>False.elim z
 cases fl with
 |next=>
  obtain⟨F,t,o,q⟩:=z;rcases g with g|⟨g,A⟩
  .exact ZnA (X:=Jf X e (X.pn++Xa7)) o N w g λG c=>k _ _ ⟨_,t,(c.ofHandler b).ofPn,q⟩
  .exact Zm0 (X:=Jf X e (X.pn++Xa7)) o N w g A λG c=>k _ _ ⟨_,t,(c.ofHandler b).ofPn,q⟩
 |ret u=>obtain⟨_,_,_,_,_,z⟩:=z;exact False.elim z
 |brk=>obtain⟨_,_,_,z⟩:=z;exact False.elim z
 |cont=>obtain⟨_,_,_,z⟩:=z;exact False.elim z
def BC(l:W.exmOne X.K (.ref C) (.ref B)=some true)(m:X.stack=X.env::X.outer)(p:X.env.frame=some X.env.locals)(P:Gl X x)(E:X.mg x=some (.ref B))
(d:X.N.Nodup)(M:X.N[j]?=some n)(K:X.env.scope.names.lookup n=some .local\/(X.env.scope.names.lookup n=some .cell/\X.fn n=true))
(c:∀D i,PSs (Hx X (EHc C th D X.N.length j) i) body<|tb D)(N:∀e i,PSs (Jf X e i) (b0::suite)<|th e)(Y:(x==("__debug__" : Str))=false:=by decide):
 PS X (.Try body (.ExceptHandler (some<|.Name x np) (some n) (b0::suite) hpos::rest) [] [] pos) (BS tb):=by
 intro Xa7 s σ H D I h;have o:Qt (Hx X (EHc C th D X.N.length j)<|X.pn++Xa7) [] σ H s:=I.toPn.wish _;refine wpAny_Try_except (wpAny_mono (c D (X.pn++Xa7) [] s σ H D o h) (λw y q=>?_) λv y q=>?_)
 .have f:=SP.ofPn q;cases w with
  |next=>exact wpAny_execs_nil f
  |ret u=>exact f
  |brk=>exact f
  |cont=>exact f
 .obtain⟨g,G,k,J,e,rfl,⟨F,r,R,hT⟩,A⟩:=q;exact O5 l I.ok m p P E d M K N J r R hT Y (λT a b=>A g _ T J.len .nil a b) λw t z=>z
end
section
variable {d:PyData}
def Q9.freezeO(hz:∀{p:Qg},Φ.ok K F H v p->Rep (frF F H p) v d)(s:Q9 K H0 F ρ σ H)(e:zg ρ i<|zo v Φ):
 ∃p,(∀a∈p,F a=none/\H a≠none/\H0 a=none)/\Q9 K H0 (frF F H p) (ρ.set i<|zf d) σ H:=
 s.frz e λu p b=>by
  obtain⟨rfl,b⟩:=b;exact⟨rfl,hz b⟩
end
def lsO(d0:PyData)(ds:Qd):OwnP where
 ok K F H v p := ∃a b x,v=.ref a/\p=[a,b]/\a≠b/\F a=none/\H a=some (.lst [x,.ref b])/\Rep F x d0/\Vz F H b ds
 there:=by
  rintro K F H v p ⟨a,b,x,rfl,rfl,_,y,f,_,w,xs,h,_⟩ c g;simp only[Xe,XU,or_false]at g;rcases g with rfl|rfl
  .exact⟨y,Z1 f⟩
  .exact⟨w,Z1 h⟩
 mono:=by
  rintro K F M H E v p s m j ⟨a,b,x,rfl,rfl,n,y,f,r,w,xs,h,A⟩;exact⟨a,b,x,rfl,rfl,n,m _<|by simp,by rw[j _<|by simp];exact f,r.mono s,m _<|by simp,xs,by rw[j _<|by simp];exact h,A.mono s⟩
 uniq:=by
  rintro K F H v p q ⟨a,b,x,rfl,rfl,_,_,f,_⟩ ⟨D,C,B,e,rfl,_,_,i,_⟩ c g;cases e;have z:=f.symm.trans i;simp only[Option.some.injEq,HO.lst.injEq,List.cons.injEq,V.ref.injEq,and_true]at z;rw[z.2];exact g
section
variable {d0:PyData}
def EC(I:i≠j)(hi:ρ[i]?=some (some<|.ol [d0]))(h:zg ρ j<|zo (.ref e)<|WL C f ds e dx q)(hn:∀v,D.nx<|(ρ.set j none).set i (zo v<|lsO d0 ds)):
 Q3 K (VC<|tBM K "list" Yl (Q5 i)<|QF (tXG C (Q5 j) f) QM) ρ D:=λF0 H0 F σ H E x S c=>by
 obtain⟨kt,s1,s2,R,L,s,Y⟩:=id S;obtain⟨u,U,a,rfl,ui,O,xs,J,ra⟩:=L i _ hi;obtain⟨w,w1,rfl,wp,⟨f1,f2,f3⟩,⟨T,hT⟩,hd,ys,Z,rq⟩:=L j _ h;have G:=(Xf.mp hi).1;have o:=(Xf.mp h).1;have W:a∈R i:=by rw[ui];exact Xc
 have X:q∈R j:=by rw[wp];simp
 have N:a≠q:=λz=>I (s i j a W<|z▸X);have a0:=(Y i a W).1;have q0:=(Y j q X).1
 obtain⟨M,rfl,r0⟩:∃M,xs=[M]/\Rep F M d0:=by
  cases ra with
  |cons r1 r2=>cases r2;exact⟨_,rfl,r1⟩
 refine⟨.ref a,U,.inl ⟨rfl,_,SqL.of J⟩,.ref e,w1,e,dx,T,.ref q,rfl,hT,hd,a,[M],.ref q,rfl,rfl,J,Vp Wc,?_⟩;refine c.nx F σ _ _ (x.wr a0 O) ⟨kt,s1.upd O,by simp[s2],λk=>if k=i then [a,q] else if k=j then [] else R k,λk t y=>?_,λk l b g hc=>?_,λk b g=>?_⟩ (hn<|.ref a)
 .by_cases m:k=i
  .subst m;rw[Xm<|by simpa using G]at y;cases y;refine⟨.ref a,U,rfl,a,q,M,rfl,?_,N,O,QG,r0,f3,ys,by rw[Qu<|Ne.symm N];exact Z,rq⟩;simp
  .rw[Xt<|Ne.symm m]at y
   by_cases r:k=j
   .subst r;rw[Xm o]at y;cases y
   .rw[Xt<|Ne.symm r]at y;obtain⟨v',g1,g2⟩:=L k t y;refine⟨v',g1,?_⟩;simp only[Xb m,Xb r];exact g2.other λz=>m (s k i a z W)
 .have p:∀k b,b∈(if k=i then [a,q] else if k=j then [] else R k)->(k=i/\(b=a\/b=q))\/(k≠i/\k≠j/\b∈R k):=λk b m=>by
   by_cases z:k=i
   .rw[Xd z]at m;exact .inl ⟨z,by simpa using m⟩
   .rw[Xb z]at m
    by_cases n:k=j
    .rw[Xd n]at m;cases m
    .rw[Xb n]at m;exact .inr ⟨z,n,m⟩
  rcases p k b g with ⟨d,P⟩|⟨d,z2,P⟩
  .rcases p l b hc with ⟨B,_⟩|⟨B,Q,A⟩
   .rw[d,B]
   .rcases P with rfl|rfl
    .exact Xz (s l i _ A W) B
    .exact Xz (s l j _ A X) Q
  .rcases p l b hc with ⟨B,A⟩|⟨B,Q,A⟩
   .rcases A with rfl|rfl
    .exact Xz (s k i _ P W) d
    .exact Xz (s k j _ P X) z2
   .exact s k l b P A
 .refine⟨?_,Yb b ?_⟩
  .by_cases z:k=i
   .simp only[Xd z,Xe,XU,or_false]at g;rcases g with rfl|rfl
    .exact a0
    .exact q0
   .simp only[Xb z]at g
    by_cases n:k=j
    .simp[n]at g
    .simp only[Xb n]at g;exact(Y k b g).1
  .by_cases z:k=i
   .simp only[Xd z,Xe,XU,or_false]at g;rcases g with rfl|rfl
    .exact Z1 J
    .exact Z1 Z
   .simp only[Xb z]at g
    by_cases n:k=j
    .simp[n]at g
    .simp only[Xb n]at g;exact(Y k b g).2
structure NT(K:W.Frag)(mg:Str->Qf)(Y C cg ct:Addr):Prop where
 em:W.exmOne K (.ref C) (.ref Y)=some true
 my:mg "YardError"=some (.ref Y)
 gt:LN K C
 na:VF K C "some"
 is:D0 K C
 k1:W.kitOne K (.ref C) (.ref C)=some true
 k2:W.kitOne K (.ref C) (.type "ValueError")=some true
 kg:W.kitOne K (.ref C) (.ref cg)=some false
 kt:W.kitOne K (.ref C) (.ref ct)=some false
 m1:mg "NoGuest"=some (.ref cg)
 m2:mg "NoTime"=some (.ref ct)
end
end L2
section
set_option maxHeartbeats 400000
namespace L2
def RP(X:Cx):List V->Hp->VK->Prop:=λxs H Q=>X.calm=true/\∃(x:V) (b:Ql) (M:Int),xs=[x]/\Rep H x (.list<|b.map PyData.int)/\M∈b/\(∀a∈b,a<=M)/\Q (.int M) H
def CM:ZW X (.builtin "max") (RP X):=by
 intro Xa7 s σ H xs U Q I r h;obtain⟨J,x,f,M,rfl,o,E,g,q⟩:=h;obtain⟨u,rfl,Y⟩:=Yy r;cases o with
 |@lst l ys _ L d=>
  cases Y;have S:=UA d;subst S;obtain⟨a,c,p,hz⟩:=I.list (SqL.of (K:=X.K) L);have B:=p.isList;have D:=GE c;have R:a.length=f.length:=D.length;have P:0<f.length:=Dv.mpr λz=>by rw[z]at E;cases E
  have m:l<s.heap.objs.size:=by obtain⟨_,e,_⟩:=B;exact Xk e
  refine call_max_walk (wpAny_pyIter_list B ?_);refine⟨s.heap.objs.size,[s.heap.objs.size,l],[s.heap.objs.size],a.toArray.size,_,_,_,rfl,Walks.list (A:=X.A.in1) (I.ok.hd J) _ l (Xr m) a.toArray,
   ⟨⟨_,XB _ rfl,rfl,rfl⟩,B.push _⟩,λb n=>?_,by simp only[Xu];lia,CmpOf.ints_gt (λi=>f.getD i 0) (λi v w=>J4 D<|by simpa using w),λv h' Z w F=>?_⟩
  .show b<(s.heap.push _).objs.size
   rw[WI];rcases Xe.mp n with rfl|n
   .exact Jj _
   .rcases Xe.mp n with rfl|n
    .exact GO m
    .cases n
  .rw[List.getElem?_toArray]at w;obtain⟨t,rfl⟩:=J4 D w;obtain⟨W,N⟩:=argBest_gt (λi=>f.getD i 0) (a.toArray.size-1);have y:a.toArray.size=a.length:=by simp
   generalize argBest (λi j=>decide (f.getD i 0 > f.getD j 0)) (a.toArray.size-1)=k at W N ⊢;rw[y]at W N;have C:k<f.length:=by lia
   have T:f.getD k 0=M:=by
    have O:f.getD k 0∈f:=by simp[C]
    have h2:=g _ O;obtain⟨j,G,e⟩:=GQ.mp E;have h3:=N j (by lia);have h4:f.getD j 0=M:=by simp[G,e]
    lia
   exact⟨.int M,H,I.kept<|HW F,⟨t,by rw[T]⟩,q⟩
def Ay{ns:Ql}{M:Int}(h:Qs K ta ρ (.list<|ns.map PyData.int))(i:X.calm=true)(j:M∈ns)(g:∀a∈ns,a<=M):Qs K (tCB (RP X)<|QF ta QM) ρ (.int M):=λH0 F σ H Q S q=>
 h H0 F σ H _ S λn m v b f=>⟨i,v,ns,M,rfl,f.mono b.fh,j,g,q n m _ b<|.int _⟩
def FP(J:ZbJ->Prop)(h:Q3 K t ρ { nx:=J,ct:=D.ct,bk:=D.bk,rt:=D.rt })(k:∀a,J a->D.nx a):Q3 K t ρ D:=λF0 H0 F σ H E x S C=>
 h F0 H0 F σ H E x S ⟨λm b j a f i g=>C.nx m b j a f i<|k a g,C.rt,C.bk,C.ct⟩
end L2
end
namespace L2
def olP(ds:Qd):OwnP where
 ok K F H v p := ∃a,v=.ref a/\p=[a]/\Vz F H a ds
 there:=by
  rintro K F H v p ⟨a,rfl,rfl,g,xs,f,_⟩ c b;cases Xh.mp b;exact⟨g,Z1 f⟩
 mono:=by
  rintro K F r H n v p s i h ⟨a,rfl,rfl,g,xs,f,j⟩;exact⟨a,rfl,rfl,i _<|by simp,xs,by rw[h _<|by simp];exact f,j.mono s⟩
 uniq:=by
  rintro K F H v p q ⟨a,rfl,rfl,_⟩ ⟨m,e,rfl,_⟩ c b;cases e;exact b
def EvW(K:W.Frag)(t:TE)(ρ:ZbJ)(i:Nat)(Θ:Int->OT->Prop):Prop := ∀(F0 H0 F:Hp) (σ:St) (H:Hp) (Q:VK),Q0 F0 H0 F H->Q9 K H0 F ρ σ H->
 (∀b a n o,Θ n o->Q0 F0 H0 b a->Q7 F b->Q9 K H0 b (ρ.set i<|some o) σ a->Q (.int n) a)->t σ H Q
section
variable {tb:TE}{t:TA}
def olP.frz{p:Qg}(b:(olP ds).ok K F H v p):Rep (frF F H p) v (.list ds):=by
 have f:Q7 F (frF F H p):=Wm λa g=>((olP ds).there b a g).1;obtain⟨a,rfl,rfl,j,xs,i,h⟩:=b;exact .lst (by rw[WV<|by simp];exact i) (h.mono f)
def PB(i:Nat)(e:zg ρ i<|zo v<|olP ds)(g:ZO d=some u)(h:Qs K te (ρ.set i<|zf<|.list ds) d):Qs K te ρ d:=λH0 F σ H Q S q=>by
 obtain⟨p,b,j⟩:=S.freezeO olP.frz e;exact h H0 _ σ H Q j λn m v x r=>q _ m v (UC (λa f=>⟨(b a f).1,(b a f).2.1⟩) x) (r.thin g)
def KM(e:zg ρ i<|zo v<|olP ds)(h:Qs K te ρ d)(N:Qs K tb ρ (.int k))(M:ixN ds.length k=some j)(hn:D.nx (ρ.set i<|zo v<|olP<|ds.set j d)):
 Q3 K (ZM te<|BR (Q5 i) tb Uj) ρ D:=λF0 H0 F σ H E x S C=>
 h H0 F σ H _ S λY W u b A=>by
  obtain⟨R,p,⟨a,rfl,rfl,I,xs,G,q⟩,J,_⟩:=(S.ext b).writeOwn e;refine⟨_,R,N H0 Y σ W _ (S.ext b) λX O y f t=>?_⟩;cases t;obtain⟨_,o,⟨L,P,rfl,l,ys,B,r⟩,m,w⟩:=(S.ext<|b.trans f).writeOwn e;cases P;obtain⟨s,g,_⟩:=m a Xc;refine⟨a,ys,k,j,rfl,rfl,B,by rw[r.length];exact M,?_⟩;exact C.nx X σ _ _ ((x.trans<|b.trans f).wr s g) (w _ (olP<|ds.set j d) [a] ((S.ext<|b.trans f).sub.upd g) (λc n _=>Qu λz=>n<|by rw[z];exact Xc) Yb ⟨a,rfl,rfl,g,_,QG,r.set (A.mono f.ff) j⟩ λc n=>.inl n) hn
def SK{a:Type}{Φ:a->OwnP}{N:a}{R:a->List OT->(OT->a->Prop)->Prop}{Ψ:OT->a->Prop}(e:zg ρ i<|zo v<|Φ N)(X:Zv K t ρ ts)(W:R N ts Ψ)(hn:∀r f,Ψ r f->∃n,r=.fz (.int n)/\Θ n (.own v<|Φ f)):
 EvW K (Vg (spP K Φ R) [] E'<|QF (Q5 i) t) ρ i Θ:=λF0 H0 F σ H Q x S q=>by
 obtain⟨u,s0,_⟩:=VM S x e;refine⟨_,s0,X H0 F σ H _ S λd G C b E=>?_⟩;obtain⟨p,l,j,w⟩:=VM (S.ext b) (x.trans b) e;refine⟨d,v,C++[],p,ts,N,Ψ,rfl,(S.ext b).kt,b.fh,by rw[Xx];exact E,j,W,λB A M f k r o P y m g h z=>?_⟩;obtain⟨n,rfl,s⟩:=hn r f P;obtain⟨Y,c,_⟩:=w B A M f y m g;obtain⟨_,D⟩:=h;cases D;exact q B A n _ s Y (b.ff.trans y.ff) c
def Bt{s:TE->TS}(hw:EvW K te ρ i Θ)(h:∀(H0 F:Hp) (σ:St) (H:Hp) (E:Ends),Q9 K H0 F ρ σ H->(∀Q:VK,(∀n b,s (tC<|.int n) E σ b->Q (.int n) b)->te σ H Q)->s te E σ H)
(hn:∀n o,Θ n o->Q3 K (s<|tC<|.int n) (ρ.set i<|some o) D):Q3 K (s te) ρ D:=λF0 H0 F σ H E x S c=>
 h H0 F σ H E S λQ j=>hw F0 H0 F σ H Q x S λp f n o a g _ m=>j n f (hn n o a F0 H0 p σ f E g m c)
def Td(v:Qs K ta ρ (.list ds))(hw:EvW K te ρ i Θ)(hn:∀n o,Θ n o->∃d,atI ds n=some d/\D.nx ((ρ.set i<|some o).set j (zf d))):Q3 K (ZM (tOp (rIx K) ta te)<|Vb j) ρ D:=λF0 H0 F σ H E x S c=>
 v H0 F σ H _ S λA w u g t=>hw F0 H0 A σ w _ (x.trans g) (S.ext g) λB y n o b s h m=>by
  obtain⟨d,e,f⟩:=hn n o b;cases t with
  |@lst a xs _ k1 k2=>
   obtain⟨z,r,p⟩:=G9 (k2.mono h) e;exact .inl ⟨a,xs,n,z,rfl,rfl,SqL.of<|m.sub _ _<|h _ _ k1,r,c.nx B _ y _ s (m.setF p) f⟩
end
section
variable {base:Heap}
def Df.evP{b:Type}{Φ:b->OwnP}{x:Str}{st:Stmt}{L:Qh}{k:Nat}{R:b->List OT->(OT->b->Prop)->Prop}(D:Df K mg x st ps)(S:Qp L ps (Q4 st))(m:∀M ts Ψ,R M ts Ψ->ts.length+1=ps.length)
(g:∀(f:Addr) (a:Value) (A:Around) (outer:List Env) (s:Shared) (H:Hp) (E:XK) (v:V) (M:b) (ts:List OT) (Ψ:OT->b->Prop),Room k (A.deeper<|envOfC x (Q4 st) s.heap.objs.size f a)->R M ts Ψ->
  ∃t,PSs (Vq CX0 P w K mg base L x (Q4 st) f a A outer s H E).nox (ZB st) t/\EvR K t (zr L<|(.own v<|Φ M)::ts) (λr i=>∃C,Ψ r C/\i[0]?=some (zo v<|Φ C))):QE P w K mg base x ps (k+1) (spP K Φ R):=by
 obtain⟨f,fd,F,d,l⟩:=D.ex;refine⟨f,fd,d,F.kp,l,F.ok S (λN H Q E h=>?_) λa A outer s H N Q E c h=>?_⟩
 .obtain⟨F,B,j,p,ts,M,Ψ,e,_,_,n,_,y,_⟩:=h;rw[e,XN,n.length];exact m _ _ _ y
 .obtain⟨F,B,j,p,ts,M,Ψ,e,Y,W,n,X,y,q⟩:=h;subst e;obtain⟨t,u,o⟩:=g f a A outer s H E B M ts Ψ c y;exact⟨t,u,Kd (R:=R) o Y W n X q⟩
end
def R5(X:Cx):List V->Hp->VK->Prop:=λxs H Q=>X.calm=true/\∃(x:V) (b:Ql) (M:Int),xs=[x]/\Rep H x (.tuple<|b.map PyData.int)/\M∈b/\(∀a∈b,a<=M)/\Q (.int M) H
def Am:ZW X (.builtin "max") (R5 X):=by
 intro Xa7 s σ H xs T Q I r h;obtain⟨G,x,f,M,rfl,d,D,g,q⟩:=h;obtain⟨u,rfl,W⟩:=Yy r;cases d with
 |@tup l ys _ J c=>
  cases W;have O:=UA c;subst O;obtain⟨a,Y,y,Z⟩:=I.tuple (SqT.of (K:=X.K) J);have C:=GE Y;have P:a.length=f.length:=C.length;have N:0<f.length:=Dv.mpr λz=>by rw[z]at D;cases D
  have m:l<s.heap.objs.size:=by obtain⟨_,e,_⟩:=y;exact Xk e
  refine call_max_walk (wpAny_pyIter_tuple y ?_);refine⟨s.heap.objs.size,[s.heap.objs.size,l],[s.heap.objs.size],a.toArray.size,_,_,_,rfl,Walks.tuple (A:=X.A.in1) (I.ok.hd G) _ l (Xr m) a.toArray,
   ⟨⟨_,XB _ rfl,rfl,rfl⟩,y.push _⟩,λb n=>?_,by simp only[Xu];lia,CmpOf.ints_gt (λi=>f.getD i 0) (λi v p=>J4 C<|by simpa using p),λv h' U p o=>?_⟩
  .show b<(s.heap.push _).objs.size
   rw[WI];rcases Xe.mp n with rfl|n
   .exact Jj _
   .rcases Xe.mp n with rfl|n
    .exact GO m
    .cases n
  .rw[List.getElem?_toArray]at p;obtain⟨t,rfl⟩:=J4 C p;obtain⟨R,E⟩:=argBest_gt (λi=>f.getD i 0) (a.toArray.size-1);have w:a.toArray.size=a.length:=by simp
   generalize argBest (λi j=>decide (f.getD i 0 > f.getD j 0)) (a.toArray.size-1)=k at R E ⊢;rw[w]at R E;have B:k<f.length:=by lia
   have S:f.getD k 0=M:=by
    have L:f.getD k 0∈f:=by simp[B]
    have h2:=g _ L;obtain⟨j,F,e⟩:=GQ.mp D;have h3:=E j (by lia);have h4:f.getD j 0=M:=by simp[F,e]
    lia
   exact⟨.int M,H,I.kept<|HW o,⟨t,by rw[S]⟩,q⟩
def Aq{ns:Ql}{M:Int}(h:Qs K ta ρ (.tuple<|ns.map PyData.int))(i:X.calm=true)(j:M∈ns)(g:∀a∈ns,a<=M):Qs K (tCB (R5 X)<|QF ta QM) ρ (.int M):=λH0 F σ H Q S q=>
 h H0 F σ H _ S λn m v b f=>⟨i,v,ns,M,rfl,f.mono b.fh,j,g,q n m _ b<|.int _⟩
def ZiW:entryFor table "proto.unchain"=some Builtin.«proto.unchain» := entryFor_of_tree (by kernel_rfl)
def ZmZ{x left step:Int}{i:Obj}{vs:Array Value}{Q:Qf->Shared->Prop}(v:A.handled=some (.ref e))(f:IsRangeIter s.heap it x left step)(g:left<=0)(he:s.heap.get? e=some i)(B:i.data=.fields vs)(D:vs[2]?=some .none)
(C:∀h',Heap.ExtBut it s.heap h'->Q none { s with heap:=h' }):wpAny (model prog w) A (pyNext<|.ref it) Q E s:=by
 have hT:s.TypeIs (.ref it) "range_iterator" := ⟨_,f,rfl⟩
 unfold pyNext;refine Xa (wpAny_attempt (wpAny_callSpecial?_slot (name:=Str.ofString "__next__") hT F.slot_range_iterator_next
  (wpAny_call_entry F.slot_range_iterator_next hT F.entry_range_iterator_next ?_<|F.args_range_iterator_next_1 _)))
 show wpAny _ _ (field (.ref it) 0 >>= _) _ _ s;refine Xa (Wt f rfl (x:=rawInt x) rfl ?_);show wpAny _ _ (field (.ref it) 1 >>= _) _ _ s;refine Xa (Wt f rfl (x:=rawInt left) rfl ?_);show wpAny _ _ (field (.ref it) 2 >>= _) _ _ s;refine Xa (Wt f rfl (x:=rawInt step) rfl ?_);show wpAny _ _ (if left<=0 then _ else _) _ _ s;rw[Xd g];refine Xa (wpAny_rule ?_);refine Xa ?_;show wpAny _ _ (newExc (.type "StopIteration") [] >>= _) _ _ _;refine Xa ?_;simp only[newExc,newTuple];refine Xa (wpAny_newObj_type ?_<|by size_fits);refine Xa (m:=firstArgMember _ _) (wpAny_of_eq (a:=Value.none) (by first|rfl|(simp only[firstArgMember];rfl)) ?_);refine wpAny_newObj_type ?_ (by size_fits);simp only[raiseNew];refine Xa (wpAny_handled ?_)
 first|rw[show A.in1.handled=some (.ref e) from v]|rw[v]
 have n:e<s.heap.objs.size:=Xk he;have h:(s.heap.push { cls:=Value.type "tuple",data:=Data.seq #[] }).objs.size=s.heap.objs.size+1:=WI _ _;have j:(Value.ref e != Value.ref (s.heap.push { cls:=Value.type "tuple",data:=Data.seq #[] }).objs.size)=true:=by
  rw[h,bne_iff_ne];intro z;injection z with z;exact Xr (GO n) z
 have p:((s.heap.push { cls:=Value.type "tuple",data:=Data.seq #[] }).push { cls:=Value.type "StopIteration",data:=Data.fields (#[Value.ref s.heap.objs.size,Value.none,Value.none,Value.none,Value.bool false,Value.none]++ownMembersOf (Value.type "StopIteration") []) }).get? e=some i:=Xg _ (Xg _ he);show wpAny _ _ (if (Value.ref e != Value.ref (s.heap.push { cls:=Value.type "tuple",data:=Data.seq #[] }).objs.size)=true then _ else _) _ _ _;rw[Xd j];refine Xa (wpAny_holding<|wpAny_runValue<|codeAny_builtin ZiW ?_);show wpAny _ _ (field (.ref e) 2 >>= _) _ _ _;refine Xa (Wt p B D ?_);show wpAny _ _ (if (Value.none==Value.none)=true then _ else _) _ _ _;rw[Xd<|by decide];refine Xa (Xj ?_);refine Xj ?_;show wpAny _ _ (updateField (s.heap.push { cls:=Value.type "tuple",data:=Data.seq #[] }).objs.size 2 (.ref e) >>= _) _ _ _;refine Xa ?_;unfold updateField;refine Xa (wpAny_load (XB _ rfl) ?_);show wpAny _ _ (if 2<(#[Value.ref s.heap.objs.size,Value.none,Value.none,Value.none,Value.bool false,Value.none]++ownMembersOf (Value.type "StopIteration") []).size then _ else _) _ _ _;rw[Xd<|by rw[Array.size_append];show 2<6+_;lia];refine wpAny_update (XB _ rfl) (wpAny_throw ?_);refine Xa (wpAny_isInstance (T := "StopIteration") (b:=true) ⟨_,X8 _ (XB _ rfl) rfl,rfl⟩ isSubtype_stop ?_);refine Xj (C _ λb o K y=>?_);have q:=Xg { cls:=Value.type "StopIteration",data:=Data.fields (#[Value.ref s.heap.objs.size,Value.none,Value.none,Value.none,Value.bool false,Value.none]++ownMembersOf (Value.type "StopIteration") []) } (Xg { cls:=Value.type "tuple",data:=Data.seq #[] } y)
 rw[XV _ _ (λz=>by
  have:=Xk y;have r:(s.heap.push { cls:=Value.type "tuple",data:=Data.seq #[] }).objs.size=b:=z;rw[h]at r;exact Xz this<|by rw[<- r];exact Nat.not_lt.mpr<|UJ _)]
 exact q
def DG(C e:Addr)(lo:Int)(n:Nat):It where
 go:=(Itr lo n).go
 stop:=λi H=>(Itr lo n).stop i H/\∃dct T,H e=some (.ext<|phF C e dct T)
 yld:=(Itr lo n).yld
theorem ZkO(hh:X.A.handled=some (.ref e))(it:Addr)(lo:Int)(n:Nat):TurnX X tg (DG C e lo n) [it] it (λi h=>IsRangeIter h it (lo+(i:Nat)*1) ((n:Int)-(i:Nat)) 1) where
 mem:=by simp
 obj:=λi h a b f=>by
  have e:b=it:=by simpa using f
  subst e;exact⟨_,a,λv z=>by
   have N:Data.fields _=Data.cell v:=z;cases N⟩
 keep:=λi h h' a k=>k it (by simp) _ a
 item:=by
  intro u y r Y M _ i Xa7 s σ H E I p a m;rw[<- y,<- r];obtain⟨f0,K,d,D,B,A⟩:=p it (by simp);have R:i<n:=m;refine wpAny_pyNext_range_item a (by lia) λh' j w=>?_;have t:lo+((i+1:Nat):Int)*1=lo+(i:Int)*1+1:=by push_cast;lia
  have q:(n:Int)-((i+1:Nat):Int)=(n:Int)-(i:Int)-1:=by push_cast;lia
  have g:IsRangeIter h' it (lo+((i+1:Nat):Int)*1) ((n:Int)-((i+1:Nat):Int)) 1:=by rw[t,q];exact j
  refine⟨_,rfl,?_⟩;refine UZ (n := "range_iterator") g rfl rfl (by decide) ⟨.int<|lo+i,H,I.turned (λb o f e=>(w.2 b f).trans e) f0 K D B A,?_,⟨rfl,rfl⟩,g,λb f=>(p b f).1⟩;have z:lo+(i:Int)=lo+(i:Int)*1:=by lia
  rw[z];exact⟨_,rfl⟩
 done:=by
  intro u y r Y M _ i Xa7 s σ H E I p a m;rw[<- y,<- r];obtain⟨f0,K,d,D,B,A⟩:=p it (by simp);obtain⟨m,dct,T,W⟩:=m;obtain⟨⟨x,F,P,G,c⟩,_,_⟩:=I.hok e _ W;exact ZmZ (by rw[M];exact hh) a (by have:n<=i:=m;lia) P rfl c λh' l=>⟨rfl,I.turned (t':=s.toks) (λb o f e=>l b o f e) f0 K D B A⟩
 self:=λ_ _ _ _ _ a h=>wpAny_pyIter_rangeiter a h
def R8(C e:Addr)(ta:TA):TI:=λσ H R=>ta σ H λa b=>∃j:Int,a=[.int j] /\ -(2^62)<=j/\j<2^62/\R (DG C e 0 j.toNat) b
def Os{R:It->Hp->Prop}{lo a:Int}{v:Tok}{f:Nat}(h:X.A.handled=some (.ref e))(I:Qt X Xa7 σ H s)(h1 : -(2^62)<=lo)(m:lo<2^62)(h3 : -(2^62)<=a)(j:a<2^62)
(q:R (DG C e lo (a-lo).toNat) H):wpAny (model X.prog X.w) X.A (pyIter<|.ref s.heap.objs.size) (Rf X Xa7 σ tg R) E { s with heap:=s.heap.push { cls:=.type "range",data:=.fields #[.int lo t,.int a u,.int 1 v] },toks:=f }:=by
 refine wpAny_pyIter_range (IsRange.new ..) (small_one h1 m h3 j) ?_;have g:Qt X Xa7 σ H { s with heap:=s.heap.push { cls:=.type "range",data:=.fields #[.int lo t,.int a u,.int 1 v] },toks:=f }:=I.kept λb o e=>Xg _ e
 refine⟨(s.heap.push { cls:=.type "range",data:=.fields #[.int lo t,.int a u,.int 1 v] }).objs.size,[(s.heap.push { cls:=.type "range",data:=.fields #[.int lo t,.int a u,.int 1 v] }).objs.size],_,_,H,rfl,
  g.kept (t':=f) λb o e=>Xg _ e,ZkO h _ lo (a-lo).toNat,?_,λb i=>?_,q⟩
 .have p:lo+((0:Nat):Int)*1=lo:=by simp
  have n:(((a-lo).toNat:Nat):Int)-((0:Nat):Int)=Builtin.Range.rangeSize lo a 1:=by rw[rangeSize_one];split<;>lia
  show IsRangeIter _ _ (lo+((0:Nat):Int)*1) ((((a-lo).toNat:Nat):Int)-((0:Nat):Int)) 1;rw[p,n];exact XB _ rfl
 .have e:b=(s.heap.push { cls:=.type "range",data:=.fields #[.int lo t,.int a u,.int 1 v] }).objs.size:=by simpa using i
  subst e;exact g.fpOk (Xq _) (g.hok.fresh<|Xq _)
def Tj{a:Expr}{ta:TA}(v:X.A.handled=some (.ref e))(w:Gl X "range")(n:X.mg "range"=none)(y:PA X [a] ta)(m:starEach [a] X.env=[(false,eval a X.env)]:=by rfl):PIH X tg (.Call (.Name "range" p) [a] [] pos) (R8 C e ta):=by
 intro Xa7 s σ H R I h;refine Call_ (Ju I w n boot_range<|PyProof.Rows.callWith_type1 (QB (y pos Xa7 s σ H _ I h) ?_) m rfl);rintro D E ⟨B,K,A,g,b⟩;obtain⟨j,e,b,i,q⟩:=b;subst e;cases g with
 |cons r f=>
  cases f;obtain⟨t,rfl⟩:=r;exact call_range_1 (Os v A (by lia) (by lia) b i<|by simpa using q)
def GU(C:Addr)(f:Str)(ds:Qd)(e dx q:Addr):ZP where
 ok:=λK F v=>v=.ref e/\(∃T,F e=some (.ext<|phF C e (some dx) T))/\F dx=some (.xd [(f,.ref q)])/\∃xs,F q=some (.lst xs)/\Qx F xs ds
 mono:=by
  rintro K F i v s ⟨rfl,⟨T,h⟩,g,xs,b,a⟩;exact⟨rfl,⟨T,s _ _ h⟩,s _ _ g,xs,s _ _ b,a.mono s⟩
section
variable {tb:Ends->TS}{e q:Addr}
def WL.fz{p:Qg}(h:(WL C f ds e dx q).ok K F H (.ref e) p)(s:Q7 F F')(he:∀b∈p,F' b=H b):(GU C f ds e dx q).ok K F' (.ref e):=by
 obtain⟨rfl,_,⟨T,j⟩,i,xs,g,a⟩:=h;exact⟨rfl,⟨T,by rw[he _<|by simp];exact j⟩,by rw[he _<|by simp];exact i,xs,by rw[he _<|by simp];exact g,a.mono s⟩
def Q9.excz(S:Q9 K H0 F ρ σ H)(h:zg ρ i<|zz<|GU C f ds e dx q):σ[i]?=some (some<|.ref e)/\(∃T,F e=some (.ext<|phF C e (some dx) T))/\F dx=some (.xd [(f,.ref q)]):=by
 obtain⟨m,g,_⟩:=S.fp;obtain⟨v,j,_,rfl,b,a,_⟩:=g i _ h;exact⟨j,b,a⟩
def C5{b:Bool}(h:zg ρ i<|zz<|GU C f ds e dx q)(g:GV c=some cv)(a:W.kitOne K (.ref C) cv=some b):Qs K (tCB (GZ K C)<|QF (Q5 i)<|QF (tC c) QM) ρ (.bool b):=λH0 F σ H Q S k=>by
 obtain⟨n,⟨T,m⟩,j⟩:=S.excz h;exact⟨.ref e,n,.ref e,c,cv,b,rfl,g,.inl ⟨e,dx,T,_,rfl,S.sub _ _ m,S.sub _ _ j,a⟩,k F H _ (Q0.refl S.sub)<|.bl b⟩
def IW(h:zg ρ i<|zz<|GU C f ds e dx q)(s:Zv K t ρ [.fz<|.int k])(h1 : -(2^62)<=k)(y:k<2^62):EvI K (R8 C e t) ρ (Va 0 k.toNat):=λH0 F σ H R S r=>
 s H0 F σ H _ S λE B M g n=>by
  cases n with
  |fz a b=>
   cases b;cases a;obtain⟨_,⟨T,A⟩,_⟩:=(S.ext g).excz h;refine⟨k,rfl,h1,y,r E B _ g λD P m j=>⟨⟨?_,_,T,j _ _<|m _ _ A⟩,λi d w=>?_⟩⟩
   .rw[Wn];exact Xq _
   .obtain⟨v,rfl⟩:=YI w;exact⟨v,λx N p=>by
     obtain⟨rfl,rfl⟩:=p;exact⟨D,Q0.refl j,.int _⟩⟩
def Q9.freezeZX{Ψ:ZP}(s:Q9 K H0 F ρ σ H)(e:zg ρ i<|zo v Φ)
(hz:∀{F g H:Hp} {p:Qg},Φ.ok K F H v p->Q7 F g->(∀b∈p,g b=H b)->Ψ.ok K g v):
 ∃p,(∀a∈p,F a=none/\H a≠none/\H0 a=none)/\Q9 K H0 (frF F H p) (ρ.set i<|zz Ψ) σ H:=
 s.frz e λu p f=>by
  obtain⟨rfl,f⟩:=f;exact⟨rfl,hz f (Wm λa j=>(Φ.there f a j).1) λb h=>WV h⟩
def EB(i:Nat)(h:zg ρ i<|zo (.ref e)<|WL C f ds e dx q)(y:U2 fs)(k:EvO K t (ρ.set i<|zz<|GU C f ds e dx q) (.ol fs)):EvO K t ρ (.ol fs):=λH0 F σ H Q S r=>by
 obtain⟨p,v,A⟩:=S.freezeZX h (λa b c=>WL.fz a b c);refine k H0 _ σ H Q A λm w u n x j s=>?_;refine r _ w u n (UC (λa g=>⟨(v a g).1,(v a g).2.1⟩) x) j (HS y K m _ w u n (λa g=>?_) s)
 by_cases z:a∈p
 .show(if a∈p then none else m a)=none
  rw[Xd z]
 .show(if a∈p then none else m a)=none
  rw[Xb z];exact(s.there a g).1
def Tw(s:Qd->Prop)(hj:j<n)(hth:∀ds e dx q,s ds->Q3 K (th e) ((List.replicate n none).set j (zo (.ref e)<|WL C f ds e dx q)) { nx:=λB=>D.nx<|B.set j none,rt:=λ_=>False })
(hz:∀(E:Ends) (F0 H0 F:Hp) (σ:St) (H:Hp),Q0 F0 H0 F H->Q9 K H0 F ρ σ H->(∀r A e i ds,s ds->Q0 F H r A->H e=none->Fld f e r A H i ds->∀(h:St) d T,h.length=n->Lefts C e i A d->d T=none->T≠e->th e (Dh E j) (h.set j<|some<|.ref e) (left C e i T d))->tb E E σ H):Q3 K (BS tb) ρ D:=λF0 H0 F σ H E x S c=>by
 refine hz E F0 H0 F σ H x S λr A e i ds R v I b h d T hl y hT p=>?_;obtain⟨dx,q,xs,rfl,b⟩:=b;have X:d dx=some (.xd [(f,.ref q)]):=PR y b.nd b.hd;have W:d q=some (.lst xs):=PR y b.nq b.hq;have N:dx≠T:=λz=>by subst z;rw[hT]at X;cases X
 have M:q≠T:=λz=>by subst z;rw[hT]at W;cases W
 have Q:Q7 H (left C e (some dx) T d):=Da (.step y hT p) v.hh I;have Y:Q7 r (left C e (some dx) T d):=Da (.step y hT p) v.fh b.fe;have G:left C e (some dx) T d e=some (.ext<|phF C e (some dx) T):=by unfold left;rw[Qu<|Ne.symm p,QG]
 have u:left C e (some dx) T d dx=some (.xd [(f,.ref q)]):=by unfold left;rw[Qu N,Qu b.nd];exact X
 have o:left C e (some dx) T d q=some (.lst xs):=by unfold left;rw[Qu M,Qu b.nq];exact W
 have X1:Q0 F0 H0 r (left C e (some dx) T d):=x.trans ⟨Q,v.ff,Y,v.fr⟩;have P:j<h.length:=by lia
 refine hth ds e dx q R F0 H0 r (h.set j<|some<|.ref e) _ (Dh E j) X1 ⟨S.kt.mono v.ff,Y,by simp[hl],λk=>if k=j then [e,dx,q] else [],λk t w=>?_,λk l a g hb=>?_,λk a g=>?_⟩ ⟨λF4 J H4 L O S4 U=>c.nx F4 _ H4 _ O (S4.setN none) U,λ_ _ _ _ _ _ _ _ z=>False.elim z,λ_ _ _ _ _ _ z=>False.elim z,λ_ _ _ _ _ _ z=>False.elim z⟩
 .by_cases m:k=j
  .subst m;rw[Xm<|by simpa using hj]at w;cases w;refine⟨.ref e,Xm P,?_⟩;dsimp only;rw[Xd rfl];exact⟨rfl,rfl,⟨b.fe,b.fd,b.fq⟩,⟨T,G⟩,u,xs,o,b.rp⟩
  .rw[Xt<|Ne.symm m,Dx]at w;split at w<;>cases w
 .by_cases m:k=j
  .by_cases Z:l=j
   .lia
   .simp[Z]at hb
  .simp[m]at g
 .dsimp only at g
  by_cases m:k=j
  .rw[Xd m]at g;rcases Xe.mp g with rfl|g
   .exact⟨x.hh.free I,Z1 G⟩
   .rcases Xe.mp g with rfl|g
    .exact⟨x.hh.free b.d0,Z1 u⟩
    .rcases Xe.mp g with rfl|g
     .exact⟨x.hh.free b.q0,Z1 o⟩
     .cases g
  .simp[m]at g
end
def LU:TE:=λ_ _ _=>False
def FM : PE X e LU:=λ_ _ _ _ _ _ h=>h.elim
section
variable {k:Nat}{r:R2}{c:V}
def CA{s:TE->TS}(hw:EvW K te ρ i Θ)(h:∀(H0 F:Hp) (σ:St) (H:Hp) (E:Ends),Q9 K H0 F ρ σ H->(∀Q:VK,(∀n b,s (tC<|.int n) E σ b->Q (.int n) b)->te σ H Q)->s te E σ H)
(hn:∀n o,Θ n o->EvR K (s<|tC<|.int n) (ρ.set i<|some o) Ψ):EvR K (s te) ρ Ψ:=λF0 H0 F σ H E x S c=>
 h H0 F σ H E S λQ j=>hw F0 H0 F σ H Q x S λm f n o a g _ k=>j n f (hn n o a F0 H0 m σ f E g k c)
def J6(hw:EvW K te ρ i Θ)(hn:∀n o,Θ n o->D.nx ((ρ.set i<|some o).set j (zi n))):Q3 K (ZM te<|Vb j) ρ D:=
 Bt (s:=λx=>ZM x<|Vb j) hw (λ_ _ _ _ _ _ h=>h _ λ_ _ q=>q) λn o h=>ZD Q6 (hn n o h)
def PQ(hw:EvW K te ρ i Θ)(hn:∀n o,Θ n o->Q3 K (ZM (tOp r (tC c)<|tC<|.int n)<|Vb j) (ρ.set i<|some o) D):Q3 K (ZM (tOp r (tC c) te)<|Vb j) ρ D:=
 Bt (s:=λx=>ZM (tOp r (tC c) x)<|Vb j) hw (λ_ _ _ _ _ _ h=>h _ λ_ _ q=>q) hn
def EH(m:zg ρ k<|zf d)(hw:EvW K te ρ i Θ)(hn:∀n o,Θ n o->Q3 K (ZM (tOp r (Q5 k)<|tC<|.int n)<|Vb j) (ρ.set i<|some o) D):Q3 K (ZM (tOp r (Q5 k) te)<|Vb j) ρ D:=
 Bt (s:=λx=>ZM (tOp r (Q5 k) x)<|Vb j) hw (λH0 F σ H E S h=>by
  obtain⟨p,g,_⟩:=S.fp;obtain⟨f,b,_⟩:=g k _ m;exact⟨f,b,h _<|by rintro n v ⟨c,a,q⟩;rw[b]at a;cases a;exact q⟩) hn
def AY{g:TG}{b:TS}(hw:EvW K te ρ i Θ)(hn:∀n o,Θ n o->Q3 K (US (Bi<|QF (tOp r (tC c)<|tC<|.int n) QM) g b) (ρ.set i<|some o) D):Q3 K (US (Bi<|QF (tOp r (tC c) te) QM) g b) ρ D:=
 Bt (s:=λx=>US (Bi<|QF (tOp r (tC c) x) QM) g b) hw (λ_ _ _ _ _ _ h=>h _ λ_ _ q=>q) hn
def Ec{b:Nat}(A:ρ[b]?=some (some<|.ol ds))(y:zg ρ k<|zf d)(hw:EvW K te ρ i Θ)
(hn:∀n o,Θ n o->Q3 K (VC<|tBM K "list" Yl (Q5 b)<|QF (tOp r (Q5 k)<|tCB r2<|QF (tOp r3 (tC<|.int n)<|tC c) QM) QM) (ρ.set i<|some o) D):
 Q3 K (VC<|tBM K "list" Yl (Q5 b)<|QF (tOp r (Q5 k)<|tCB r2<|QF (tOp r3 te<|tC c) QM) QM) ρ D:=
 Bt (s:=λx=>VC<|tBM K "list" Yl (Q5 b)<|QF (tOp r (Q5 k)<|tCB r2<|QF (tOp r3 x<|tC c) QM) QM) hw (λH0 F σ H E S h=>by
  obtain⟨M,g,_⟩:=S.fp;obtain⟨v,p,_⟩:=g k _ y;obtain⟨u,m,a,rfl,_,_,xs,w,_⟩:=g b _ A;refine⟨.ref a,m,.inl ⟨rfl,_,SqL.of w⟩,v,p,h _ λn N ⟨C,j,_,B,f,q⟩=>?_⟩;rw[m]at j;cases j;rw[p]at f;cases f;exact q) hn
def AB(e1:zg ρ a1<|zf d1)(B:zg ρ a2<|zf d2)(A:zg ρ a3<|zf d3)(y:zg ρ a4<|zf d4)(hw:EvW K te ρ i Θ)
(hn:∀n o,Θ n o->EvR K (Yw<|UR<|QF (Q5 a1)<|QF (Q5 a2)<|QF (Q5 a3)<|QF (Q5 a4)<|QF (tOp r (tC c)<|tC<|.int n) QM) (ρ.set i<|some o) Ψ):
 EvR K (Yw<|UR<|QF (Q5 a1)<|QF (Q5 a2)<|QF (Q5 a3)<|QF (Q5 a4)<|QF (tOp r (tC c) te) QM) ρ Ψ:=
 CA (s:=λx=>Yw<|UR<|QF (Q5 a1)<|QF (Q5 a2)<|QF (Q5 a3)<|QF (Q5 a4)<|QF (tOp r (tC c) x) QM) hw (λH0 F σ H E S h=>by
  obtain⟨P,g,_⟩:=S.fp;obtain⟨w,k,_⟩:=g a1 _ e1;obtain⟨v,j,_⟩:=g a2 _ B;obtain⟨p,f,_⟩:=g a3 _ A;obtain⟨m,b,_⟩:=g a4 _ y;refine⟨w,k,v,j,p,f,m,b,h _ λn R ⟨N,k1,M,k2,D,k3,C,a,q⟩=>?_⟩;rw[k]at k1;cases k1;rw[j]at k2;cases k2;rw[f]at k3;cases k3;rw[b]at a;cases a;exact q) hn
end
theorem T4{it t:Addr}{items:Array Value}(b:t≠it):∀(n i:Nat) (s:Shared) (Q:Qe->Shared->Prop),s.heap.IsListIter it t i->s.heap.IsList t items->i+n<=items.size->
 (∀h',h'.IsListIter it t (i+n)->Heap.SameBut it s.heap h'->Q ((items.toList.drop i).take n) { s with heap:=h' })->wpAny (model prog w) A (draw (.ref it) n) Q E s
 |0,i,s,Q,a,_,_,g=>by
  show wpAny _ _ (pure []) Q E s;exact Xj (by simpa using g s.heap a<|Heap.SameBut.refl ..)
 |n+1,i,s,Q,a,h,m,g=>by
  have f:i<items.size:=by lia
  show wpAny _ _ (pyNext (.ref it) >>= _) Q E s;refine Xa (wpAny_pyNext_list_item a h (x:=items[i]) (by simp[f]) λC y j=>?_);refine Xa (wpAny_holding<|T4 b n (i+1) _ _ y (h.extBut j.extBut b) (by lia) λB v r=>Xj ?_);have p:items.toList.drop i=items[i]::items.toList.drop (i+1):=by simp[NM,f]
  have:=g B (by rw[show i+(n+1)=i+1+n by lia];exact v) (j.trans r);rw[p,List.take_succ_cons]at this;exact this
def ZkB(m:A.handled=none)(a:s.heap.IsList t items)
(n:∀h',Heap.ExtBut s.heap.objs.size s.heap h'->Q items.toList { s with heap:=h' }):wpAny (model prog w) A (unpackItems (.ref t) items.size none) Q E s:=by
 have f:t≠s.heap.objs.size:=by obtain⟨o,j,_⟩:=a;exact Xr (Xk j)
 unfold unpackItems;refine Xa ?_
 .unfold notIterableAtAll;refine Xa (wpAny_specialOf a.typeIs F.slot_list_iter.lookup ?_);refine Xj ?_;simp only[X6,if_false];refine Xa (wpAny_holding<|wpAny_pyIter_list a ?_);refine Xa (wpAny_holding<|T4 f items.size 0 _ _ ⟨_,XB _ rfl,rfl,rfl⟩ (a.push _) (by lia) λB r i=>?_);have g:List.take items.size (List.drop 0 items.toList)=items.toList:=by
   rw[List.drop_zero];exact List.take_of_length_le (by simp)
  rw[g];rw[Xb<|by simp];have p:B.IsList t items:=(a.push _).extBut i.extBut f;refine Xa (wpAny_holding<|wpAny_pyNext_list_end m r p (by simp) λy v=>?_);simp only[Option.isSome_none,X6,if_false];refine Xj (n y λb o h e=>v b o h<|i.extBut b o h<|Xg _ e)
def Zlo{x1}(f:A.handled=none)(b:s.heap.IsList t items)
(hn:(assignEach elts env).length=items.size)(a:(assignEach elts env).findIdx? (·.1)=none)
(h:∀h',Heap.ExtBut s.heap.objs.size s.heap h'->wpAny (model prog w) A (assignInOrder ((assignEach elts env).map (·.2)) items.toList) Q E { s with heap:=h' }):
 wpAny (model prog w) A (assign (.Tuple elts x1 pos) env<|.ref t) Q E s:=by
 rw[arm_assign_Tuple];refine Xa (wpAny_standAt ?_);unfold unpack;rw[hn,a];exact Xa (wpAny_holding<|ZkB f b h)
def Rj(K:W.Frag)(n:Nat)(t:TGs):TG:=λv σ H Q=>∃a xs,v=.ref a/\SqL K H a xs/\xs.length=n/\t xs σ H Q
def FZ{k:Nat}(A:X.calm=true)(h:PGs X es t)
(hn:(assignEach es X.env).length=n:=by rfl)(g:(assignEach es X.env).findIdx? (·.1)=none:=by rfl):PG X (.Tuple es k pos) (Rj X.K n t):=by
 intro Xa7 s σ H v u Q I r f;obtain⟨a,xs,B,w,y,f⟩:=f;subst B;cases r;obtain⟨j,i,p,D⟩:=I.list w;refine Zlo (I.ok.hd A) p.isList (by simp[hn,<- y,i.length]) g λh' m=>?_;have C:Qt X Xa7 σ H { s with heap:=h' }:=I.kept (t':=s.toks) λb o e=>m b o (Xr<|Xk e) e;exact h Xa7 _ σ H xs _ Q C (by simpa using i) f
def Fd(h:Ba K gs ds ρ ρ1)(hn:ds.length=n):GTo K (Rj K n gs) (.list ds) ρ ρ1:=λH0 F σ H x Q S r q=>by
 cases r with
 |@lst a xs _ f b=>exact⟨a,xs,rfl,SqL.of<|S.sub _ _ f,by rw[b.length,hn],h H0 F σ H xs Q S b q⟩
def Lj{R:Qd->List OT->(OT->Qd->Prop)->Prop}(h:Z2 K ta ρ Φ1)(k:Zv K t ρ ts)(w:∀r,Φ1 r->∃ds Ψ,r=.ol ds/\R ds ts Ψ/\∀r y,Ψ r y->Φ r):
 Z2 K (Vg (spP K olP R) [] E'<|QF ta t) ρ Φ:=λH0 F σ H Q S q=>
 h H0 F σ H _ S λJ x u p M s A d X=>by
  obtain⟨ds,Ψ,rfl,w,e⟩:=w M s;refine k H0 J σ x _ (S.ext A) λI T B j E=>?_;have n:=X.ext j;obtain⟨a,rfl,rfl,P⟩:=n;have f:=A.trans j;have v:H a=none:=d a Xc;refine⟨I,.ref a,B++[],[a],ts,ds,Ψ,rfl,(S.ext f).kt,j.fh,by rw[Xx];exact E,⟨a,rfl,rfl,P⟩,w,λL G O l C r N Y i W D m c=>?_⟩;refine q L G C N r (e r l Y) ⟨λb o g=>?_,f.ff.trans i.ff,i.fh,λb g=>?_⟩ (λb g=>?_) m
  .refine i.hh b o (λz=>?_) (f.hh b o g);cases Xh.mp z;rw[v]at g;cases g
  .rcases i.fr b g with z|z|z
   .exact f.fr b z
   .exact .inr (f.hh.free z)
   .cases Xh.mp z;exact .inr v
  .rcases(c b g).1 with z|z
   .cases Xh.mp z;exact v
   .exact f.hh.free z
section
variable {t:TA}{R:HandS->List OT->(OT->HandS->Prop)->Prop}{R2:List OT->(OT->Prop)->Prop}
def BU(K:W.Frag)(t:TE)(ρ:ZbJ)(i:Nat)(Θ:PyData->OT->Prop):Prop := ∀(F0 H0 F:Hp) (σ:St) (H:Hp) (Q:VK),Q0 F0 H0 F H->Q9 K H0 F ρ σ H->
 (∀b a d w o,Θ d o->ZO d=some w->Q0 F0 H0 b a->Q7 F b->Q9 K H0 b (ρ.set i<|some o) σ a->Q w a)->t σ H Q
def M6{s:TE->TS}{Θ:PyData->OT->Prop}(hw:BU K te ρ i Θ)(h:∀(H0 F:Hp) (σ:St) (H:Hp) (E:Ends),Q9 K H0 F ρ σ H->(∀Q:VK,(∀w b,s (tC w) E σ b->Q w b)->te σ H Q)->s te E σ H)
(hn:∀d w o,Θ d o->ZO d=some w->Q3 K (s<|tC w) (ρ.set i<|some o) D):Q3 K (s te) ρ D:=λF0 H0 F σ H E x S c=>
 h H0 F σ H E S λQ m=>hw F0 H0 F σ H Q x S λp f d w o a j g _ n=>m w f (hn d w o a j F0 H0 p σ f E g n c)
def Pv{Θ:PyData->OT->Prop}(e:zg ρ i<|zo v<|QI C N)(hA:Zv K t ρ ts)
(hs:(∃Ψ,R N ts Ψ/\∀r A,Ψ r A->∃d dd w,r=.ol (d::dd)/\ZO d=some w/\Θ d (.own v<|QI C A)) \/
  (∃Φ,R2 (.zow (QZ C N)::ts) Φ/\∀r,Φ r->∃P d w dd,r=.own P (lsO d dd)/\ZO d=some w/\Θ d (.own v<|QI C N))):
 BU K (tOp (rIx K) (Vg (WN K C R R2) [] E'<|QF (Q5 i) t)<|tC<|.int 0) ρ i Θ:=λF0 H0 F σ H Q x S q=>by
 have s:=(Xf.mp e).1;obtain⟨p0,s0,_⟩:=VM S x e;refine⟨_,s0,hA H0 F σ H _ S λD H1 U n Z=>?_⟩;have B:=S.ext n;have X1:=x.trans n;obtain⟨p,s1,Y,J⟩:=VM B X1 e;rcases hs with ⟨Ψ,I,o⟩|⟨Φ,I,u⟩
 .refine .inl ⟨D,_,U++[],p,ts,N,Ψ,rfl,B.kt,n.fh,by rw[Xx];exact Z,Y,I,λF' H' p' A P r qq G T l W f hq=>?_⟩;obtain⟨d,dd,w,rfl,y,g⟩:=o r A G;obtain⟨X',S',_⟩:=J F' H' p' A T l W;obtain⟨b,rfl,rfl,b1,za,b2,b3⟩:=f;cases b3 with
  |@cons z zs' _ _ z1 z2=>
   have L:=z1.flat y;subst L;exact .inl ⟨b,_,0,z,rfl,rfl,SqL.of b2,Vm (j:=0) rfl,q F' H' d z _ g y X' (n.ff.trans T.ff) S'⟩
 .obtain⟨pf,h,O⟩:=B.freezeZ e (λa b c=>QI.fz a b c);obtain⟨fp,g1,_⟩:=O.fp;obtain⟨v2,f1,_,E⟩:=g1 i _ (Xm s);rw[s1]at f1;cases f1;have X:Q7 D (frF D H1 pf):=Wm λa m=>(h a m).1;refine .inr ⟨frF D H1 pf,_,Φ,O.kt,O.sub,.zow (Ψ:=QZ C N) E<|by show Args K _ (U++[]) ts;rw[Xx];exact Z.mono X,I,λF4 H4 P qq r G x4 hq' f=>?_⟩;obtain⟨v'',d,w,dd,rfl,y,g⟩:=u r G;have M:=UC (λa m=>⟨(h a m).1,(h a m).2.1⟩) x4;obtain⟨_,a,b,z,rfl,rfl,nab,fa,m,rz,_⟩:=f;have L:=rz.flat y;subst L;refine .inl ⟨a,_,0,z,rfl,rfl,SqL.of m,Vm (j:=0) rfl,q _ H4 d z _ g y (X1.trans M) (n.ff.trans M.ff) ?_⟩
  have ze:ρ.set i (zo v<|QI C N)=ρ:=by
   apply List.ext_getElem?;intro k;by_cases hk:k=i
   .subst hk;rw[Xm s,e]
   .rw[Xt<|Ne.symm hk]
  rw[ze];exact B.ext M
end
def Pk:bootBuiltins "dict"=some (.type "dict"):=by decide +kernel
def Sj:List V->Hp->VK->Prop:=λb H Q=>∃a L0,b=[.ref a]/\H a=some (.dK L0)/\∀p,H p=none->Q (.ref p) (upd H p<|.dK L0)
def Py:ZW X (.type "dict") Sj:=by
 intro Xa7 s σ H xs j Q I r h;obtain⟨a,L0,rfl,g,q⟩:=h;obtain⟨u,rfl,b⟩:=Yy r;cases b;exact EX I (.of g) λp m f i=>⟨.ref p,_,i,rfl,q p f⟩
section
variable {tb:TE}{t:TA}{u:V}
def Q9.absorb(s:Q9 K H0 F ρ σ H)(R:i≠j)(e:zg ρ i<|zo v Φ)(d:zg ρ j<|zo u Φj):
 σ[i]?=some (some v)/\σ[j]?=some (some u)/\∃p q,Φ.ok K F H v p/\Φj.ok K F H u q/\(∀a∈p,H0 a=none/\F a=none/\H a≠none)/\(∀a∈q,H0 a=none/\F a=none/\H a≠none)/\(∀a∈q,a∉p)/\
  ∀(w:Hp) (Φ':OwnP) (A:Qg),Q7 F w->(∀b,b∉p->b∉q->H b≠none->w b=H b)->(∀b,H b≠none->w b≠none)->Φ'.ok K F w v A->(∀a∈A,a∈p\/a∈q\/(H a=none/\H0 a=none))->
   Q9 K H0 F ((ρ.set j none).set i (zo v Φ')) σ w:=by
 obtain⟨J,Z,O,E,W,t,n⟩:=s;obtain⟨U,x,rfl,o⟩:=W i _ e;obtain⟨X,T,rfl,c⟩:=W j _ d;refine⟨x,T,E i,E j,o,c,λa f=>⟨(n i a f).1,(Φ.there o a f).1,(n i a f).2⟩,λa f=>⟨(n j a f).1,(Φj.there c a f).1,(n j a f).2⟩,λa f g=>R (t j i a f g).symm,λw Φ' A I L M Y y=>?_⟩;have N:=(Xf.mp e).1;have P:=(Xf.mp d).1;refine⟨J,I,by simp[O],λk=>if k=i then A else if k=j then [] else E k,λk G r=>?_,λk l a f g=>?_,λk a f=>?_⟩
 .by_cases m:k=i
  .subst m;rw[Xm<|by simpa using N]at r;cases r;refine⟨_,x,rfl,?_⟩;simp only[if_true];exact Y
  .rw[Xt<|Ne.symm m]at r
   by_cases h:k=j
   .subst h;rw[Xm P]at r;cases r
   .rw[Xt<|Ne.symm h]at r;obtain⟨X,S,Q⟩:=W k G r;refine⟨X,S,?_⟩;simp only[Xb m,Xb h];exact Q.keep λb g=>L b (λz=>m<|t k i b g z) (λz=>h<|t k j b g z) (n k b g).2
 .have B:∀{k l:Nat} {a:Addr},k≠i->a∈(if k=j then ([]:Qg) else E k)->a∈A->False:=λ{k l a} m f g=>by
   by_cases h:k=j
   .rw[Xd h]at f;exact nomatch f
   .rw[Xb h]at f;rcases y a g with z|z|z
    .exact m (t k i a f z)
    .exact h (t k j a f z)
    .exact(n k a f).2 z.1
  by_cases m:k=i
  .by_cases C:l=i
   .lia
   .simp only[Xd m]at f;simp only[Xb C]at g;exact(B (l:=0) C g f).elim
  .simp only[Xb m]at f
   by_cases C:l=i
   .simp only[Xd C]at g;exact(B (l:=0) m f g).elim
   .simp only[Xb C]at g
    by_cases h:k=j
    .rw[Xd h]at f;exact nomatch f
    .by_cases D:l=j
     .rw[Xd D]at g;exact nomatch g
     .rw[Xb h]at f;rw[Xb D]at g;exact t k l a f g
 .by_cases m:k=i
  .simp only[Xd m]at f;rcases y a f with z|z|z
   .exact⟨(n i a z).1,M a (n i a z).2⟩
   .exact⟨(n j a z).1,M a (n j a z).2⟩
   .exact⟨z.2,(Φ'.there Y a f).2⟩
  .simp only[Xb m]at f
   by_cases h:k=j
   .rw[Xd h]at f;exact nomatch f
   .rw[Xb h]at f;exact⟨(n k a f).1,M a (n k a f).2⟩
def Ed{m n:Int}(c:HandC K C)(e:zg ρ i<|zo v<|QI C N)(hi:Qs K tb ρ (.int k))(h0:0<=k)(W:N.given[k.toNat]?=some m)(h:Qs K te ρ (.int n))
(hn:D.nx (ρ.set i<|zo v<|QI C { N with given:=N.given.set k.toNat (m+n) })):Q3 K (BZ (Vf K (Q5 i) "given") tb te (Ma K) (ipI λa b=>a+b) Uj) ρ D:=λF0 H0 F σ H E x S C'=>by
 obtain⟨a,dx,kk,g,d,m',y,xs,as,rfl,e1,r,_⟩:=S.hand e;refine⟨_,e1,a,C,dx,_,.ref g,rfl,r.ins.2,c.cl,c.gv,rfl,hi H0 F σ H _ S λF1 H1 y1 f O=>?_⟩;cases O;obtain⟨_,I,L,J⟩:=r.given;have A:(N.given.map PyData.int)[k.toNat]?=some (.int m):=by rw[Xs,W];rfl
 obtain⟨z,o,l⟩:=(J.mono f.ff).get A;refine⟨g,I,k,z,rfl,rfl,SqL.of<|f.hh _ _ L,h0,o,h H0 F1 σ H1 _ (S.ext f) λY H2 u s w=>?_⟩;cases w;cases l;refine⟨m,n,rfl,rfl,?_⟩;obtain⟨a',dx',k',X,d',T,q,t,M,ea,g1,j,Z,G⟩:=(S.ext<|f.trans s).hand e;cases ea;obtain⟨rfl,rfl,rfl,rfl,rfl,rfl⟩:=r.same j (((f.trans s).hh _ _ r.ins.2).trans r.ins.2.symm);obtain⟨q1,P,Q,R⟩:=j.given;have hlt:k.toNat<N.given.length:=(Xf.mp W).1;have U:Qx Y (P.set k.toNat<|.int<|m+n) ((N.given.set k.toNat<|m+n).map PyData.int):=by
  rw[GK];exact R.set (.int _) _
 have p:=Z X (by simp);refine⟨X,P,k,k.toNat,rfl,rfl,Q,?_,?_⟩
 .rw[R.length,Xl];unfold ixN;rw[Xd h0,Xd<|by lia]
 .exact C'.nx Y σ _ _ ((x.trans<|f.trans s).wr p.1 p.2.1) (G _ _ q t M ((S.ext<|f.trans s).sub.upd p.2.1) (λb B _=>Qu λz=>B<|by rw[z];simp) Yb (j.setGiven U) λb B=>.inl B) hn
theorem MadeD.len{F H:Hp}:∀{as:Qg} {ms:List Zco},MadeD F H as ms->as.length=ms.length
 |_,_,.nil=>rfl
 |_,_,.cons _ _ _ t=>by simp[t.len]
theorem MadeD.snoc{F H:Hp}{b:Addr}{xs:List (Key×V)}{ms:List Zco}(g:F b=none)(f:H b=some (.dK xs))(a:PairK F xs L0):∀{as:Qg} {ms:List Zco},MadeD F H as ms->MadeD F H (as++[b]) (ms++[L0])
 |_,_,.nil=>.cons g f a .nil
 |_,_,.cons j i h t=>.cons j i h (MadeD.snoc (ms:=ms) g f a t)
def HandOk.addMade{g m b:Addr}{xs:List (Key×V)}(w:HandOk C N F H a dx k g d m y xs as)(s:b∉a::dx::k::g::d::m::as)(x:F b=none)(q:H b=some (.dK za))(o:PairK F za L0):
 HandOk C { N with made:=N.made++[L0] } F (upd H m<|.lst<|(as++[b]).map V.ref) a dx k g d m y xs (as++[b]):=by
 obtain⟨n,⟨l,c⟩,⟨B,A⟩,t,⟨k1,Y,k2,k3⟩,⟨L,G,J,I⟩,⟨d1,S,Q⟩,⟨X,m2,W⟩⟩:=w;have f:=n;simp only[Xv,Xe,not_or]at f;obtain⟨⟨a1,a2,a3,a4,Z,a6⟩,⟨b1,b2,b3,U,b5⟩,⟨c1,c2,T,c4⟩,⟨f1,O,f3⟩,⟨v,u2⟩,u,w2⟩:=f;simp only[Xe,not_or]at s;obtain⟨R,P,M,K,E,p,D⟩:=s;have i:(a::dx::k::g::d::m::(as++[b])).Nodup:=by
  have e:a::dx::k::g::d::m::(as++[b])=(a::dx::k::g::d::m::as)++[b]:=rfl;rw[e,UN];refine⟨n,by simp,λz r z' j=>?_⟩;rw[Xh.mp j];rintro rfl;simp only[Xe]at r;rcases r with h|h|h|h|h|h|h
  .exact R h
  .exact P h
  .exact M h
  .exact K h
  .exact E h
  .exact p h
  .exact D h
 refine⟨i,⟨l,by rw[Qu Z];exact c⟩,⟨B,by rw[Qu U];exact A⟩,t,⟨k1,Y,by rw[Qu T];exact k2,k3⟩,⟨L,G,by rw[Qu O];exact J,I⟩,⟨d1,by rw[Qu v];exact S,Q⟩,⟨X,QG,?_⟩⟩;exact(W.snoc (ms:=N.made) x q o).other λz=>by
  rcases XD.mp z with z|z
  .exact u z
  .exact p (Xh.mp z).symm
def HandOk.setNow{g m:Addr}{xs:List (Key×V)}(i:HandOk C N F H a dx k g d m y xs as)(n:Int):
 HandOk C { N with now:=n } F (upd H a<|.ins C dx<|hfs y n k g d m) a dx k g d m y xs as:=by
 obtain⟨f,⟨v,c⟩,⟨p,j⟩,h,⟨k1,u,k2,k3⟩,⟨D,w,B,A⟩,⟨d1,K,E⟩,⟨t,s,r⟩⟩:=i;have b:=f;simp only[Xv,Xe,not_or]at b;obtain⟨⟨Y,X,W,R,P,M⟩,_⟩:=b;exact⟨f,⟨v,QG⟩,⟨p,by rw[Qu<|Ne.symm Y];exact j⟩,h,⟨k1,u,by rw[Qu<|Ne.symm X];exact k2,k3⟩,⟨D,w,by rw[Qu<|Ne.symm W];exact B,A⟩,⟨d1,by rw[Qu<|Ne.symm R];exact K,E⟩,⟨t,by rw[Qu<|Ne.symm P];exact s,r.other M⟩⟩
def Ol(hj:0≠j)(c:HandC K C)(e0:zg ρ 0<|zo v<|QI C N)(ej:zg ρ j<|zo u<|dkP L0)(hl:N.made.length<1000)
(hr:∀w,Ψ (.own w<|dkP L0)<|(ρ.set j none).set 0 (zo v<|QI C { N with made:=N.made++[L0],now:=N.now+1 })):
 EvR K (Yv (VC<|tBM K "list" Yl (Vf K (Q5 0) "made")<|QF (Q5 j) QM)<|Yv (SU K (Q5 0) (tC<|.int 1) Re "present")<|Yw<|tCB Sj<|QF (Q5 j) QM) ρ Ψ:=λF0 H0 F σ H E x S kk=>by
 obtain⟨s0,Z,p,q,L,J,hp,hq,hd,wr⟩:=S.absorb hj e0 ej;obtain⟨a,dx,k,g,d,m,y,xs,s,rfl,rfl,D⟩:=L;obtain⟨b,o,rfl,rfl,b1,b2,b3⟩:=J;have Y:b∉a::dx::k::g::d::m::s:=hd b Xc;have al:s.length=N.made.length:=D.made.2.2.len;have nd:=D.nd;simp only[Xv,Xe,not_or]at nd;have am:a≠m:=nd.1.2.2.2.2.1;have R:=hp m (by simp);have W:=hp a (by simp);have i:=D.addMade Y b1 b2 b3;have t:=i.setNow (N.now+1);have nb:b≠a/\b≠m:=by
  simp only[Xe,not_or]at Y;exact⟨Y.1,Y.2.2.2.2.2.1⟩
 refine⟨_,s0,a,C,dx,_,.ref m,rfl,D.ins.2,c.cl,c.md,rfl,.inl ⟨rfl,_,SqL.of D.made.2.1⟩,_,Z,m,_,_,rfl,rfl,D.made.2.1,by rw[Xl,al];exact Vp<|by lia,?_⟩;have em:s.map V.ref++[V.ref b]=(s++[b]).map V.ref:=by rw[XF];rfl
 rw[em];refine⟨_,s0,a,C,dx,_,.int N.now,rfl,i.ins.2,c.cl,c.pr,rfl,N.now,1,rfl,rfl,dx,_,i.ins.2,by show 6<1000;decide,?_⟩;have ef:V8 "present" (.int<|N.now+1) (hfs y N.now k g d m)=hfs y (N.now+1) k g d m:=rfl;rw[ef];generalize B:upd H m (.lst<|(s++[b]).map V.ref)=l at i t;generalize A:upd l a (.ins C dx<|hfs y (N.now+1) k g d m)=M at t;have e2:∀z,z≠a->z≠m->M z=H z:=λz X z2=>by rw[<- A,Qu X,<- B,Qu z2]
 have X1:Q0 F0 H0 F l:=by rw[<- B];exact x.wr R.1 R.2.1
 have U:Q0 F0 H0 F M:=by rw[<- A];exact X1.wr W.1 W.2.1
 have I:∀z,H z≠none->l z≠none:=by rw[<- B];exact Yb
 have G:∀z,l z≠none->M z≠none:=by rw[<- A];exact Yb
 have e:=wr M (QI C { N with made:=N.made++[L0],now:=N.now+1 }) (a::dx::k::g::d::m::(s++[b])) U.fh
  (λz X _ _=>e2 z (λh=>X<|by rw[h];simp) λh=>X<|by rw[h];simp) (λz f=>G z<|I z f) ⟨a,dx,k,g,d,m,y,xs,s++[b],rfl,rfl,t⟩ (λz f=>by
   have ee:a::dx::k::g::d::m::(s++[b])=(a::dx::k::g::d::m::s)++[b]:=rfl;rw[ee]at f;rcases XD.mp f with f|f
   .exact .inl f
   .exact .inr (.inl f))
 refine⟨_,Z,b,o,rfl,(e2 b nb.1 nb.2).trans b2,λr n=>?_⟩;have T:Q0 F M F (upd M r<|.dK o):=Q0.own e.sub n;have Q:H0 r=none:=U.hh.free n;refine kk F σ _ _ (.ref r) (.own (.ref r)<|dkP L0) [r] (U.trans T) (e.ext T) ⟨rfl,r,o,rfl,rfl,e.sub.free n,QG,b3⟩ (λz f=>by rw[Xh.mp f];exact Q) (λz f u' t' q' f1 f2 O P=>?_) (hr _);rw[Xh.mp f]at P;obtain⟨fp,g1,g2,g3⟩:=e.fp;obtain⟨v2,h1,h2⟩:=g1 0 _ f1;rw[f2]at h1;cases h1;exact(g3 0 r<|Jd (K:=K) (h2.ext T) O r P).2 n
def Cz{t:TS}(i:Nat){r:OT}(e:ρ[i]?=some (some r))(j:Ub r=some d)(h:EvR K t (ρ.set i<|zf d) Ψ):EvR K t ρ Ψ:=λF0 H0 F σ H E x S C=>by
 obtain⟨p,f,g⟩:=S.freezeG e j;refine h F0 H0 _ σ H E ⟨x.hh,x.ff.trans<|Wm λa b=>(f a b).1,g.sub,λa b=>?_⟩ g C
 by_cases z:a∈p
 .exact .inr (f a z).2.2
 .rw[YW z]at b;exact x.fr a b
end
def Bd(L0:Zco):Prop := ∀x∈L0,∃k n,x.1=.inl k/\x.2=.int n
section
variable {t:TA}
theorem MadeZ.at{F:Hp}:∀{as:Qg} {ms:List Zco},MadeZ F as ms->∀(i:Nat) (a:Addr),as[i]?=some a->∃xs k,ms[i]?=some k/\F a=some (.dK xs)/\PairK F xs k
 |_,_,.nil,i,a,e=>by simp at e
 |_,_,.cons f b t,0,a,e=>by
  simp at e;subst e;exact⟨_,_,rfl,f,b⟩
 |_,_,.cons f b t,i+1,a,e=>t.at i a (by simpa using e)
theorem MadeD.at{F H:Hp}:∀{as:Qg} {ms:List Zco},MadeD F H as ms->∀(i:Nat) (a:Addr),as[i]?=some a->∃xs k,ms[i]?=some k/\H a=some (.dK xs)/\PairK F xs k
 |_,_,.nil,i,a,e=>by simp at e
 |_,_,.cons _ f b t,0,a,e=>by
  simp at e;subst e;exact⟨_,_,rfl,f,b⟩
 |_,_,.cons _ f b t,i+1,a,e=>t.at i a (by simpa using e)
end
def epO(o:Obj):Nat:=match o.data with|.dict _ ep=>ep|_=>0
def nO(o:Obj):Nat:=match o.data with|.dict es _=>es.size|_=>0
def Itd(a:Addr)(o:Obj):It:=
 ⟨λi H=>∃L0,H a=some (.frz o<|.dK L0)/\i<L0.length,λi H x b=>b=H/\∀L0,H a=some (.frz o<|.dK L0)->∃p,L0[i]?=some p/\x=kV p.1,λi H=>∃L0,H a=some (.frz o<|.dK L0)/\L0.length<=i⟩
def Ki{L0:List (Key×V)}(x:HOk P w H h)(e:H a=some (.frz o<|.dK L0)):
 (a==sysModules)=false/\∃vs,KV L0 vs/\vs.length=nO o/\h.DictAt (Vr P w) a vs (epO o):=by
 obtain⟨j,z,m,vs,b,A,es,s,i,r,f,p,g,n⟩:=(show Z6 P w H h a (.frz o<|.dK L0) from x a _ e);rw[j]at i;cases i;have y:epO o=s:=by unfold epO;rw[f]
 have v:nO o=es.size:=by unfold nO;rw[f]
 refine⟨m,vs,b,?_,?_⟩
 .rw[v,<- g.length];exact Array.length_toList
 .rw[y];exact⟨o,es,j,r,f,p,g,n⟩
theorem IR(a it:Addr)(o:Obj):Turn P w K tg (Itd a o) [it] it (λi h=>h.IsKeyIter it a i (nO o)<|epO o) where
 mem:=by simp
 obj:=λi h f b r=>by
  have e:b=it:=by simpa using r
  subst e;obtain⟨o,e,c,d⟩:=f;exact⟨o,e,λv z=>by rw[d]at z;cases z⟩
 keep:=λi h h' f k=>by
  obtain⟨o,e,c,d⟩:=f;exact⟨o,k it (by simp) o e,c,d⟩
 item:=by
  intro X W M Y L i Xa7 s σ H E I C f R;subst W M Y;obtain⟨L0,hq,D⟩:=R;obtain⟨S,n,g,B,dd⟩:=Ki I.hok hq;obtain⟨f0,x,f2,u,q,l⟩:=C it (by simp);have A:=g.length;have J:i<n.length:=by lia
  have N:=g.keys;rw[<- B]at f;refine wpAny_pyNext_dict_item (k:=n[i].1) (v:=n[i].2) f dd (by simp[J]) λkey h' U p O=>?_;have I1:Qt X Xa7 σ H { s with heap:=h' }:=I.turned (t':=s.toks) (λb o r e=>(O.2 b r).trans e) f0 x u q l;obtain⟨o',e,c,d⟩:=id p
  have T:L0[i].1=n[i].1:=by
   have Z:(L0.map (·.1))[i]?=(n.map (·.1))[i]? := by rw[N]
   simpa [D,J] using Z
  have Q:QN (kV L0[i].1) key:=by
   rw[T];rcases WG (show Uq n[i].1 key=true from U) with ⟨j,t,G,F⟩|⟨y,t,G,F⟩
   .rw[G,F];exact⟨t,rfl⟩
   .rw[G,F];exact⟨t,rfl⟩
  rw[B]at p;exact⟨key,rfl,UZ (s:={ s with heap:=h' }) e c d (by decide) ⟨kV L0[i].1,H,I1,Q,⟨rfl,λks m=>by
   rw[hq]at m;cases m;exact⟨L0[i],by simp[D],rfl⟩⟩,p,λb r=>(C b r).1⟩⟩
 done:=by
  intro X W M Y L i Xa7 s σ H E I C f R;subst W M Y;obtain⟨L0,hq,D⟩:=R;obtain⟨S,n,g,B,dd⟩:=Ki I.hok hq;obtain⟨f0,x,f2,u,q,l⟩:=C it (by simp);have A:=g.length;rw[<- B]at f;exact wpAny_pyNext_dict_end (I.ok.hd L) f dd (by simp;lia) λh' eb=>⟨rfl,I.turned (t':=s.toks) (λb o r e=>eb b o r e) f0 x u q l⟩
 self:=λ_ _ _ _ _ f h=>wpAny_pyIter_keyiter f h
def Sc(f:TE):TI:=λσ H R=>f σ H λx b=>∃a o L0,x=.ref a/\b a=some (.frz o<|.dK L0)/\R (Itd a o) b
def Ex(w:PE X l tl):PI X tg l (Sc tl):=by
 intro Xa7 s σ H R I h;refine QB (w Xa7 s σ H _ I h) ?_;rintro v g ⟨x,A,i,m,n⟩;obtain⟨a,o,L0,e,r,q⟩:=n;subst e;cases m;obtain⟨p,B,j,f,dd⟩:=Ki i.hok r;refine wpAny_pyIter_dict p dd ?_;rw[f];refine⟨g.heap.objs.size,[g.heap.objs.size],_,_,A,rfl,i.kept (t':=g.toks) λb o e=>Xg _ e,IR a _ o,⟨_,XB _ rfl,rfl,rfl⟩,λb y=>?_,q⟩;have e:b=g.heap.objs.size:=by simpa using y
 subst e;exact i.fpOk (Xq _) i.fresh
def Rk(i:Nat)(t:TS):TS:=λD σ H=>∃a L0,σ[i]?=some (some<|.ref a)/\H a=some (.dK L0)/\∀o,t D σ (upd H a<|.frz o<|.dK L0)
def CB{st:Stmt}{t:TS}(i:Nat)(K:PS X st t):PS X st (Rk i t):=by
 intro Xa7 s σ H D I h;obtain⟨a,L0,_,v,h⟩:=h;obtain⟨z,E,A,p,o,es,M,y,g⟩:=(show Z6 X.prog X.w H s.heap a (.dK L0) from I.hok a _ v)
 have j:∀{b:Addr} {u:HO},H b=some u->(∀k,u≠.dK k)->b≠a:=λ{b u} e n z=>by
  subst z;rw[v]at e;exact n L0 (Option.some.inj e).symm
 have C:∀{b:Addr},H b=none->b≠a:=λ{b} e z=>by subst z;rw[v]at e;cases e
 have B:Un X.fs [] H (upd H a<|.frz o<|.dK L0) s.heap s.heap:=
  ⟨λb f q _ _ _=>q,λb f q _ _ _=>⟨f.slots,q⟩,λb _ _ n _=>by rw[Qu<|C n];exact n,λb f q _=>⟨f,q⟩,λb xs q=>by rw[Qu<|j q λk z=>nomatch z];exact q,λb N u q=>by rw[Qu<|j q λk z=>nomatch z];exact q,λb _ f _ e _=>e,λb ps q=>⟨#[],by rw[Qu (j q<|by rintro k ⟨⟩),q];simp⟩⟩
 have r:HOk X.prog X.w (upd H a<|.frz o<|.dK L0) s.heap:=λb u e=>by
  have st:∀{u:HO},Z6 X.prog X.w H s.heap b u->Z6 X.prog X.w (upd H a<|.frz o<|.dK L0) s.heap b u:=λx=>x.stay (λ_ _ _ q=>q) (λc m=>by rw[Qu<|j m λk z=>nomatch z];exact m) (λc xs m=>by rw[Qu<|j m λk z=>nomatch z];exact m)
  by_cases w:b=a
  .subst w;rw[QG]at e;cases e;exact⟨y,z,E,A,p,o,es,M,y,g⟩
  .rw[Qu w]at e;exact st (I.hok b u e)
 exact K Xa7 s σ _ D (I.un (t':=s.toks) B r) (h o)
def dwP(o:Obj)(L0:Zco):OwnP where
 ok K F H v p := ∃a xs,v=.ref a/\p=[a]/\F a=none/\H a=some (.frz o<|.dK xs)/\PairK F xs L0
 there:=by
  rintro K F H v p ⟨a,xs,rfl,rfl,h,f,g⟩ b j;cases Xh.mp j;exact⟨h,Z1 f⟩
 mono:=by
  rintro K F w H r v p s n m ⟨a,xs,rfl,rfl,h,f,g⟩;exact⟨a,xs,rfl,rfl,n a Xc,by rw[m a Xc];exact f,g.mono s⟩
 uniq:=by
  rintro K F H v p q ⟨a,xs,rfl,rfl,_⟩ ⟨b,ys,e,rfl,_⟩ c i;cases e;exact i
def DwZ(o:Obj)(L0:Zco):ZP where
 ok K F v := ∃a xs,v=.ref a/\F a=some (.frz o<|.dK xs)/\PairK F xs L0
 mono:=by
  rintro K F g v s ⟨a,xs,rfl,f,b⟩;exact⟨a,xs,rfl,s _ _ f,b.mono s⟩
def dwP.fz{p:Qg}(h:(dwP o L0).ok K F H v p)(s:Q7 F F')(he:∀b∈p,F' b=H b):(DwZ o L0).ok K F' v:=by
 obtain⟨a,xs,rfl,rfl,i,g,f⟩:=h;exact⟨a,xs,rfl,by rw[he a Xc];exact g,f.mono s⟩
section
variable {ty:TE}{k:Key}{d:PyData}{o:Obj}
def Eo(i:Nat)(e:zg ρ i<|zo v<|dkP L0)(h:∀o,Q3 K t (ρ.set i<|zz<|DwZ o L0) D):Q3 K (Rk i t) ρ D:=λF0 H0 F σ H E x S C=>by
 obtain⟨s0,p,m,n,j⟩:=S.writeOwn e;obtain⟨a,xs,rfl,rfl,f0,r,k⟩:=m;have g:=n a Xc;have d:=(Xf.mp e).1;refine⟨a,xs,s0,r,λo=>?_⟩;have y:=j (upd H a<|.frz o<|.dK xs) (dwP o L0) [a] (S.sub.upd g.2.1) (λb f _=>Qu λz=>f<|by rw[z];exact Xc) Yb ⟨a,xs,rfl,rfl,f0,QG,k⟩ (λb f=>.inl f);have w:Q0 F0 H0 F (upd H a<|.frz o<|.dK xs):=x.wr g.1 g.2.1;have s:(ρ.set i<|zo (.ref a)<|dwP o L0)[i]?=some (zo (.ref a)<|dwP o L0):=Xm d;have:=Hu (Ψ:=DwZ o L0) (t:=t) (D:=D) i s (λa b c=>dwP.fz a b c) (by rw[List.set_set];exact h o);exact this F0 H0 F σ _ E w y C
def Q9.dwz(S:Q9 K H0 F ρ σ H)(e:zg ρ i<|zz<|DwZ o L0):∃a xs,σ[i]?=some (some<|.ref a)/\F a=some (.frz o<|.dK xs)/\PairK F xs L0:=by
 obtain⟨g,h,_⟩:=S.fp;obtain⟨v,f,_,a,xs,rfl,d,b⟩:=h i _ e;exact⟨a,xs,f,d,b⟩
def IC(e:zg ρ i<|zz<|DwZ o L0)(s:Qs K ty ρ (WM k))(j:Yc L0 k=some d):Qs K (BY (Q5 i) ty) ρ d:=λH0 F σ H Q S q=>by
 obtain⟨a,xs,m,_⟩:=S.dwz e;refine⟨_,m,s H0 F σ H _ S λB A y g r=>?_⟩;obtain⟨D,f,b,w,v⟩:=(S.ext g).dwz e;rw[m]at b;cases b;rw[M9 r];rcases v.val k with ⟨_,z⟩|⟨x,C,p,h,n⟩
 .rw[j]at z;cases z
 .rw[j]at h;cases h;exact⟨a,x,rfl,.inl ⟨f,k,.inr ⟨o,(S.ext g).sub _ _ w⟩,rfl,p.symm⟩,q B A x g n⟩
def Ct(k:Key):Rep F (kV k) (WM k):=by
 cases k with
 |inl i=>exact .int i
 |inr x=>exact .str x
theorem PairK.key{F:Hp}:∀{xs:List (Key×V)} {L0:Zco},PairK F xs L0->xs.map (·.1)=L0.map (·.1)
 |_,_,.nil=>rfl
 |_,_,.cons _ t=>by simp[t.key]
def AS(e:zg ρ i<|zz<|DwZ o L0):EvI K (Sc<|Q5 i) ρ (L0.map λv=>WM v.1):=λH0 F σ H R S q=>by
 obtain⟨a,xs,s,n,m⟩:=S.dwz e;refine⟨_,s,a,o,xs,rfl,S.sub _ _ n,q F H _ (Q0.refl S.sub) λD C r h=>?_⟩;have f:C a=some (.frz o<|.dK xs):=h _ _ (r _ _ n);have B:=m.length;refine⟨⟨xs,f,by rw[Xl,B];exact Xq _⟩,λi d g=>?_⟩;have j:i<L0.length:=by
  have:=(Xf.mp g).1;simpa using this
 refine⟨⟨xs,f,by lia⟩,λy E b=>?_⟩;obtain⟨rfl,b⟩:=b;obtain⟨p,A,rfl⟩:=b xs f;refine⟨D,Q0.refl h,?_⟩;have w:p.1=(L0[i]).1:=by
  have k:(xs.map (·.1))[i]?=(L0.map (·.1))[i]? := by rw[m.key]
  rw[Xs,Xs,A,XS j]at k;exact Option.some.inj k
 rw[Xs,XS j]at g;cases Option.some.inj g;rw[w];exact Ct _
end
section
variable {t:TA}{CR:Addr}{E:XK}
def E2{M:Type}{FL:Addr->Hp->Hp->Hp->Qj->M->Prop}{R:HandS->List OT->(OT->HandS->Prop)->Prop}{Z:List OT->(M->Prop)->Prop}{Ψ:OT->HandS->Prop}(G:NoH m)(e:zg ρ i<|zo v<|QI C N)(J:Zv K t ρ ts)(I:R N ts Ψ)(st:ZV CR RR)
(hn:∀r a,Ψ r a->D.nx ((ρ.set i<|zo v<|QI C a).set j (some r))):
 Q3 K (ZM (ZR C m (JX K C CR FL R Z) [] (XE CR RR) (Q5 i) t)<|Vb j) ρ D:=λF0 H0 F σ H E x S C'=>by
 obtain⟨p0,s0,w,_⟩:=VM S x e;obtain⟨P,dx,y,n,k,g,d,e',rfl,L⟩:=QI.at w;refine⟨.ref P,s0,P,dx,_,rfl,L,G _ _ _ _ _ _,J H0 F σ H _ S λF2 H2 c b l=>.inl ⟨RR,rfl,st,?_⟩⟩;obtain⟨p,s1,s,B⟩:=VM (S.ext b) (x.trans b) e;refine⟨F2,_,c++[],p,ts,N,Ψ,rfl,(S.ext b).kt,b.fh,by rw[Xx];exact l,s,I,λX W o a v' r q u Y A f h z=>?_⟩;obtain⟨T,U,O⟩:=B X W o a Y A f;obtain⟨d1,Q⟩:=O q z;exact C'.nx X _ W _ T (U.set h d1 (hn:=Q)) (hn r a u)
end
section
variable {base:Heap}{CR:Addr}
def Mf.evZ{st:Stmt}{N:Qh}{k:Nat}{X:Type}{J:Addr->Hp->Hp->Hp->Qj->X->Prop}{R:List OT->(OT->Prop)->Prop}{x:List OT->(X->Prop)->Prop}(D:Mf K C m qual st ps)(S:Qp N ps (Q4 st))(l:∀ts Φ,R ts Φ->ts.length=ps.length)(j:∀ts Φ,x ts Φ->ts.length=ps.length)
(Z:ps.length<=N.length)
(n:∀(f:Addr) (a:Value) (A:Around) (outer:List Env) (s:Shared) (H:Hp) RR (ts:List OT) (Φ:OT->Prop),Room k (A.deeper<|envOfC qual (Q4 st) s.heap.objs.size f a)->ZV CR RR->R ts Φ->
  ∃t,PSs (cx1 P w K mg base N qual (Q4 st) f a A outer s H<|XE CR RR) (ZB st) t/\Q3 K t (zr N ts) { nx:=λ_=>Φ<|.fz .none,rt:=Φ })
(y:∀(f:Addr) (a:Value) (A:Around) (outer:List Env) (s:Shared) (F H:Hp) RR (ts:List OT) (b:X->Prop),Room k (A.deeper<|envOfC qual (Q4 st) s.heap.objs.size f a)->ZV CR RR->(∀i h e M d,b d->Q0 F H i h->H e=none->J e i h H M d->RR e M h)->x ts b->
  ∃t,PSs (cx1 P w K mg base N qual (Q4 st) f a A outer s H<|XE CR RR) (ZB st) t/\EvZ K F H t (zr N ts)):
 VU P w K mg base C m ps (k+1) (Yx K CR J R x):=by
 obtain⟨f,fd,F,hm,hb⟩:=D.ex;refine⟨f,fd,hm,hb,F.okX S (λc H Q E ⟨F,ts,_,_,B,RR,_,_,q⟩=>?_) λa A outer s H c Q E I ⟨F,ts,G,W,B,RR,eE,st,q⟩=>?_⟩
 .rcases q with ⟨r,g,_⟩|⟨r,g,_⟩
  .exact B.length.trans (l ts r g)
  .exact B.length.trans (j ts r g)
 .subst eE;rcases q with ⟨Φ,g,q⟩|⟨b,g,q⟩
  .obtain⟨t,u,o⟩:=n f a A outer s H RR ts Φ I st g;refine⟨t,u,o F H F (start N c) H _ (Q0.refl W) (JF G W B) ⟨λi L h O Y _ e=>?_,λi h v T p Y hp U e=>?_,λ_ _ _ _ _ _ z=>False.elim z,λ_ _ _ _ _ _ z=>False.elim z⟩⟩
   .exact q i h _ [] _ e Y (by rintro _ ⟨⟩) ⟨rfl,.non⟩
   .exact q i h v p T e Y hp U
  .obtain⟨t,u,o⟩:=y f a A outer s F H RR ts b I st q g;exact⟨t,u,o F (start N c) H _ (Q0.refl W)<|JF G W B⟩
end
structure BackF{δ:Type}(FL:Addr->Hp->Hp->Hp->Qj->δ->Prop):Prop where
 back:∀{e:Addr} {F H H0 H1:Hp} {dct:Qj} {d:δ},FL e F H H1 dct d->Q7 H0 H1->FL e F H H0 dct d
section
variable {t:TA}{CR:Addr}{δ:Type}{FL:Addr->Hp->Hp->Hp->Qj->δ->Prop}{R:List OT->(OT->Prop)->Prop}
def BG(M:NoH m)(e:zg ρ i<|zz<|QZ C N)(h:Zv K t ρ ts)(W:R (.zow (QZ C N)::ts) Φ)(st:ZV CR RR):
 Z2 K (ZR C m (Yx K CR FL R Rx) [] (XE CR RR) (Q5 i) t) ρ Φ:=λH0 F σ H Q S q=>by
 obtain⟨a,dx,k,g,d,A,y,B,X,xs,c,Y,n⟩:=S.hz e;refine⟨_,Y,a,dx,_,rfl,S.sub _ _ n.ins,M _ _ _ _ _ _,h H0 F σ H _ S λu z x f s=>?_⟩;exact⟨u,_,(S.ext f).kt,f.fh,.zow (Ψ:=QZ C N) ((QZ C N).mono (K:=K) f.ff ⟨a,dx,k,g,d,A,y,B,X,xs,c,rfl,n⟩)<|by rw[Xx];exact s,RR,rfl,st,.inl ⟨Φ,W,λo l v p w D r E j=>q o l v p w D (f.trans r) (λb P=>f.hh.free<|E b P) j⟩⟩
def P8(c:BackF FL)(B:NoH m)(e:zg ρ i<|zz<|QZ C N)(W:Zv K t ρ ts)(P:Rx (.zow (QZ C N)::ts) Φx)(st:ZV CR RR)
(A:∀j f e b d,Φx d->Q0 F0 H0 j f->H0 e=none->FL e j f H0 b d->RR e b f)(x:Q0 F0 H0 F H)(S:Q9 K H9 F ρ σ H):
 ZR C m (Yx K CR FL R Rx) [] (XE CR RR) (Q5 i) t σ H Q:=by
 obtain⟨a,dx,k,g,d,v,y,w,X,xs,l,Y,p⟩:=S.hz e;refine⟨_,Y,a,dx,_,rfl,x.fh _ _ p.ins,B _ _ _ _ _ _,W H9 F σ H _ S λo u q h s=>?_⟩;have n:=x.trans h;exact⟨o,_,(S.ext h).kt,h.fh,.zow (Ψ:=QZ C N) ((QZ C N).mono (K:=K) h.ff ⟨a,dx,k,g,d,v,y,w,X,xs,l,rfl,p⟩)<|by rw[Xx];exact s,RR,rfl,st,.inr ⟨Φx,P,λj f e b d M r E D=>A j f e b d M (n.trans r) (n.hh.free E)<|c.back D n.hh⟩⟩
def Tq(p:BackF FL)(h:NoH m)(e:zg ρ i<|zz<|QZ C N)(n:Zv K t ρ ts)(j:Rx (.zow (QZ C N)::ts) Φx)(st:ZV CR RR)
(g:∀f b e a d,Φx d->Q0 F0 H0 f b->H0 e=none->FL e f b H0 a d->RR e a b):EvZ K F0 H0 (VC<|ZR C m (Yx K CR FL R Rx) [] (XE CR RR) (Q5 i) t) ρ:=λF σ H E x S=>P8 p h e n j st g x S
end
def Q9.reslot(S:Q9 K H0 F ρ σ H)(e:ρ[i]?=some (some t))(h:∀u p,σ[i]?=some (some u)->Ze K F H u t p->Ze K F H u t' p):Q9 K H0 F (ρ.set i<|some t') σ H:=by
 obtain⟨v,p,f,a,_,k⟩:=S.chg e;exact(k F H t' p (Q7.refl _) S.sub (λ_ _ _=>rfl) (λ_ h=>.inl h) (h v p f a) λ_ b=>.inl b).1
structure D1(K:W.Frag)(C:Addr):Prop where
 cls:∀h:Heap,K.In h->∃(L1 bm:Qe) (nm q:Str) (N:Addr) (bs:Qe) (Sf:Bool) (sn:Qh) (sub:Qe) (ab:Bool) (col:Option Bool) (dd:Qj) (k0 k1 k2 k3 k5:Qf),
  ExcBaseFacts "ValueError" "ValueError.__new__" "ValueError.__init__" L1/\OwnTail h L1 bm/\h.get? C=some (excClassObj nm q C N bs bm Sf sn sub ab col dd k0 k1 k2 k3 k5 "ValueError.__new__")/\
  ∃mN:Str->Qf,h.Ns N mN/\mN "__init__"=none
open PySem.W in
noncomputable def Hn(K:Frag)(C:Addr):Bool:=match K.lookup C with
 |some ⟨.type "type",_,.cls cd,a⟩=>(match cd.mro,a.toList with
   |.ref b::bm,[_,_,_,_,some<|.builtin n,_]=>b==C&&n == "ValueError.__new__" && !cd.hasDel&&tailIn K BW bm&&nsOkIn K cd.ns&&nsIn K cd.ns "__init__" == some none
   |_,_=>false)
 |_=>false
open PySem.W in
theorem FV{K:Frag}(q:Hn K C=true):D1 K C where
 cls:=λh X=>by
  unfold Hn at q;split at q
  .rename_i dd cd g s;split at q
   .rename_i w bm k0 k1 k2 k3 n k5 j i;simp only[Wb,beq_iff_eq,Bool.not_eq_true']at q;obtain⟨⟨⟨⟨⟨rfl,rfl⟩,a⟩,r⟩,hok⟩,b⟩:=q;obtain⟨nm,bs,p,ns,m,hd,sn,sub,ab,col,v⟩:=cd;dsimp only at j a hok b;subst j a;have f:g=#[k0,k1,k2,k3,some<|.builtin "ValueError.__new__",k5]:=by
     obtain⟨l⟩:=g;simp only at i;rw[i]
    subst f;exact⟨BW,bm,nm,m,ns,bs,hd,sn,sub,ab,col,dd,k0,k1,k2,k3,k5,PySem.F.excBase_ValueError,tail_of_in X r,X _ _ s,_,.of_isNs<|isNs_of_in X hok,nsMap_none_of_in X hok b⟩
   .cases q
  .cases q
structure NS(K:W.Frag)(mg:Str->Qf)(x:Str)(C:Addr):Prop where
 cl:D1 K C
 kp:W.keepIn K (.ref C)=true
 m:mg x=some (.ref C)
def DR(C:Addr)(t:TA):TE:=λσ H Q=>t σ H λb a=>b.length<=1000/\∀x,a x=none->Q (.ref x) (upd a x<|.ext<|phX C x none)
section
variable {d:Drawn}{t:Nat}{os:OsState}
variable {q:Str}{N:Addr}{bs:Qe}{sub:Qe}
def As(F:ExcBaseFacts B newId initId L1)(T:OwnTail h L1 bm){a:Qe}
(j:h.get? C=some (excClassObj nm q C N bs bm Sf sn sub ab col dd k0 k1 k2 k3 k5 newId))(hn:h.Ns N mN)(r:mN "__init__"=none)(f:a.length<=sizeLine)
(D:∀h':Heap,(∀b o,h.get? b=some o->h'.get? b=some o)->phX C (h.objs.size+1) none h'->Q (.done<|.ret<|.ref<|h.objs.size+1) ⟨h',g,d,t,os⟩):
 wpAny (model prog w) A (Builtin.«type.__call__» ⟨.ref C::a,[]⟩) Q E ⟨h,g,d,t,os⟩:=by
 have n:∀b o,h.get? b=some o->(VI h C a).get? b=some o:=λb o e=>Xg _ (Xg _ e)
 repeat (first
  |with_reducible refine wpAny_loadPart_at j ?_
  |with_reducible refine wpAny_madeBy_exc j ?_
  |wp_step)
 refine codeAny_call_builtin_code (Code.quiet_builtin _ F.quiet)
  (wpAny_check_new_subT F T j ?_)
 refine codeAny_exc_new_subT F T j ?_ f;show wpAny _ _ _ _ _ ⟨VI h C a,g,d,t,os⟩
 have m:(VI h C a).get? (h.objs.size+1)=some (Mh C h.objs.size):=by
  unfold VI;exact Dy (by rw[WI]) rfl
 have i:=n _ _ j;have s:(VI h C a).Ns N mN:=hn.keeps n;have y:=T.keeps n;have p:(Value.ref C::bm).contains (.ref C)=true:=by simp
 unfold isInstance;repeat (first
  |with_reducible refine wpAny_loadPart_at m ?_
  |(with_reducible refine wpAny_isSubtype_exc i ?_;rw[p])
  |wp_step)
 show wpAny _ _ (typeLookup (.ref C) _) _ _ _;refine wpAny_typeLookup_tail i s y F.mroIs F.init.lookup ?_;rw[r];refine wpAny_holding (Xa<|wpAny_of_eq (F.init.bind _) ?_);refine Xa (wpAny_call<|codeAny_call_builtin F.init.plain F.initEntry<|wpAny_check_init_subT F y i m rfl ?_)
 wp_walk using AutoSeq1.wpAny_loadPart' m
 refine D _ (λb o v=>?_) ⟨(VI h C a).objs.size,#[],?_⟩
 .rw[XV _ _<|Yo<|GO<|Xk v];exact Xg _ (n _ _ v)
 .rw[X8 _ (Xg _ m) rfl];rfl
def Cp(F:ExcBaseFacts B newId initId L1)(T:OwnTail h L1 bm){a:Qe}
(i:h.get? C=some (excClassObj nm q C N bs bm Sf sn sub ab col dd k0 k1 k2 k3 k5 newId))(hn:h.Ns N mN)(j:mN "__init__"=none)(f:a.length<=sizeLine)
(m:∀h':Heap,(∀b o,h.get? b=some o->h'.get? b=some o)->phX C (h.objs.size+1) none h'->Q (.ref<|h.objs.size+1) ⟨h',g,d,t,os⟩):
 wpAny (model prog w) A (call (.ref C) a) Q E ⟨h,g,d,t,os⟩:=by
 have r:=tc_lookup;have p:=tc_bind (.ref C);have n:(⟨h,g,d,t,os⟩:Shared).TypeIs (.ref C) "type" := ⟨_,i,rfl⟩;refine wpAny_call (codeAny_of_tree ?_);show wpAny _ _ (callAny (.ref C) _) _ _ _
 repeat (any_goals (first
  |assumption
  |with_reducible refine wpAny_loadPart_at i ?_
  |wp_step))
 refine⟨rfl,?_⟩;refine codeAny_call_builtin_at (Code.quiet_builtin _<|by decide +kernel) entry_typeCall (wpAny_check_type_call_sub i ?_);exact As F T i hn j f m
end
section
variable {x:Str}{e:Expr}{t:TA}
def O2(c:D1 X.K C)(A:W.keepIn X.K (.ref C)=true)(E:Gl X x)(B:X.mg x=some (.ref C))
(K:PA X (e::es) t)(f:(x==("__debug__" : Str))=false:=by decide)(he:zs X e es:=by rfl)(hpl:zb X pos es:=by rfl):
 PE X (.Call (.Name x p) (e::es) [] pos) (DR C t):=by
 intro Xa7 s σ H Q I h;refine wpAny_Call_Name_kw (J0 I E B ?_ f);refine W.callWith_K (h₀:=X.base) I.ok.mod.kin A (QB (K pos Xa7 s σ H _ I h) ?_) he hpl;rintro m w ⟨Y,F,a,r,u,q⟩;refine⟨a.kIn,?_⟩;obtain⟨L1,bm,nm,k,N,z,Sf,sn,v,ab,col,dd,k0,k1,k2,k3,k5,R,T,P,o,M,D⟩:=c.cls _ a.kIn;obtain⟨j,g,d,n,l⟩:=w;refine Cp R T P M D (by show m.length<=_;rw[<- r.length,sizeLine_eq];lia) λh' b y=>?_;have i:j.objs.size<=j.objs.size+1:=UJ _
 exact⟨.ref _,_,a.laid (t':=n) b i<|Ms y,rfl,q _<|a.hok.fresh i⟩
def IV(c:D1 X.K C)(f:X.calm=true)(x:PE X e te)(w:∀Xa7 σ H s a b,Qt X Xa7 σ H s->H a=some (.ext<|phX C a b)->R a b H->X.xe (.ref a) s):PS X (.Raise (some e) none pos) (sXR C te R):=by
 intro Xa7 s σ H D I h;rw[arm_exec_Raise];simp only[evalOpt,Option.map];refine Xa (wpAny_standAt<|SM (C:=C) (I.ok.hd f)<|Xa<|QB (x Xa7 s σ H _ I h) ?_);rintro u K ⟨v,M,j,r,a,b,A,m,q⟩;refine Xa<|wpAny_standAt<|Xj ?_;subst A;obtain rfl:u=Value.ref a:=r;obtain⟨⟨t,n,i⟩,_,_⟩:=j.hok a _ m;obtain⟨L1,bm,nm,p,N,B,Sf,sn,g,ab,col,dd,k0,k1,k2,k3,k5,E,T,y,_⟩:=c.cls _ j.kIn
 exact⟨a,t,b,n,bm,nm,p,N,B,Sf,sn,g,ab,col,dd,k0,k1,k2,k3,k5,_,rfl,T.hasType E.hasBase,y,i,w _ _ _ _ _ _ j m q⟩
def ZnV  {o:Expr}  {k:Nat}{a:Sp}{E:XK}{pl:Sem Bool}(M:VU X.prog X.w X.K X.mg X.base C m ps j a)(c:HandC X.K C)(h:Room k X.A)(e:Yj (CX1 X.prog X.w) X E)(he:PE X o ta)(n:j<=k:=by walk_at"j")
(g:eval (.Call (.Attribute o m SF) [] [] pos) X.env=(do
  let b <- eval o X.env
  standAt SF.atName
  let (f,first) <- holding [b] (getMethod b m pl)
  callWith pos f first (backTo pos<|starEach [] X.env)<|backToKw pos<|keywordEach [] X.env):=by rfl):
 PE X (.Call (.Attribute o m SF) [] [] pos) (ZR C m a [] E ta QM):=by
 obtain⟨f,fd,i,p,F⟩:=M;exact P9 (pl:=pl) he c.cl i F (h.mono n) p .nil e g
end
section
variable {base:Heap}{N:Qh}
def Lx(c:NS K mg x C)(b:ZV C RR)
(h:PA (cx1 P w K mg base N qual scope f0 cd A outer s0 H0<|XE C RR) (e::es) t)(g:Gl (cx1 P w K mg base N qual scope f0 cd A outer s0 H0<|XE C RR) x:=by rfl)
(f:(x==("__debug__" : Str))=false:=by decide)(he:starEach (e::es) (cx1 P w K mg base N qual scope f0 cd A outer s0 H0<|XE C RR).env=(false,eval e (cx1 P w K mg base N qual scope f0 cd A outer s0 H0<|XE C RR).env)::starEach es (cx1 P w K mg base N qual scope f0 cd A outer s0 H0<|XE C RR).env:=by rfl)
(hpl:(backTo pos<|starEach es (cx1 P w K mg base N qual scope f0 cd A outer s0 H0<|XE C RR).env).any (·.1)=false:=by rfl):
 PS (cx1 P w K mg base N qual scope f0 cd A outer s0 H0<|XE C RR) (.Raise (some<|.Call (.Name x p) (e::es) [] pos) none pos') (sXR C (DR C t) RR):=
 IV c.cl rfl (O2 c.cl c.kp g c.m h f he hpl) (λXa7 σ H s a i I he r=>Pw b I he r)
end
def YN(e:Addr)(F H H0:Hp)(a:Qj)(_:Unit):Prop:=a=none/\F e=none
def bkN:BackF YN:=⟨λh _=>h⟩
def OG{a:Unit->Prop}{d:PyData}(h:Qs K ta ρ d)(y:a ())(w:∀r m e g d,a d->Q0 F0 H0 r m->H0 e=none->YN e r m H0 g d->RR e g m):EvZ K F0 H0 (sXR C (DR C<|QF ta QM) RR) ρ:=λF σ H D x S=>
 h H0 F σ H _ S λA p u s B=>⟨by simp,λe j=>by
  have i:=x.trans s;have n:Q7 p (upd p e<|.ext<|phX C e none):=λb o f=>by
   have v:b≠e:=λz=>by subst z;rw[j]at f;cases f
   rw[Qu v];exact f
  exact⟨e,none,rfl,QG,w A _ e none () y (i.trans ⟨n,Q7.refl _,i.fh.trans n,λb f=>.inl f⟩) (i.hh.free j) ⟨rfl,i.fh.free j⟩⟩⟩
def NZ(C e:Addr):OwnP where
 ok:=λK F H v p=>p=[e]/\F e=none/\∃T,H e=some (.ext<|phF C e none T)
 there:=λ{K F H v p} h a b=>by
  obtain⟨rfl,g,T,f⟩:=h;cases Xh.mp b;exact⟨g,Z1 f⟩
 mono:=λ{K F r H n v p} s j i h=>by
  obtain⟨rfl,g,T,f⟩:=h;exact⟨rfl,j _ Xc,T,(i _ Xc).trans f⟩
 uniq:=λ{K F H v p m} h h' a b=>by
  obtain⟨rfl,_⟩:=h;obtain⟨rfl,_⟩:=h';exact b
section
variable {tb:Ends->TS}{e:Addr}
def ZnM(w:Unit->Prop)(I:j<n)(hth:∀e,Q3 K (th e) ((List.replicate n none).set j (zo (.ref e)<|NZ C e)) { nx:=λv=>D.nx<|v.set j none,rt:=λ_=>False })
(hz:∀(E:Ends) (F0 H0 F:Hp) (σ:St) (H:Hp),Q0 F0 H0 F H->Q9 K H0 F ρ σ H->(∀m s e f u,w u->Q0 F H m s->H e=none->YN e m s H f u->∀(b:St) d T,b.length=n->Lefts C e f s d->d T=none->T≠e->th e (Dh E j) (b.set j<|some<|.ref e) (left C e f T d))->tb E E σ H):Q3 K (BS tb) ρ D:=λF0 H0 F σ H E x S c=>by
 refine hz E F0 H0 F σ H x S λm s e f u _ p M L b d T G N hT h=>?_;obtain⟨rfl,P⟩:=L;have Y:Q7 H (left C e none T d):=Da (.step N hT h) p.hh M;have A:Q7 m (left C e none T d):=Da (.step N hT h) p.fh P;have B:left C e none T d e=some (.ext<|phF C e none T):=by unfold left;rw[Qu<|Ne.symm h,QG]
 have O:Q0 F0 H0 m (left C e none T d):=x.trans ⟨Y,p.ff,A,p.fr⟩;have y:j<b.length:=by lia
 refine hth e F0 H0 m (b.set j<|some<|.ref e) _ (Dh E j) O ⟨S.kt.mono p.ff,A,by simp[G],λk=>if k=j then [e] else [],λk t r=>?_,λk l a i J=>?_,λk a i=>?_⟩ ⟨λZ R U W X Q o=>c.nx Z _ U _ X (Q.setN none) o,λ_ _ _ _ _ _ _ _ z=>False.elim z,λ_ _ _ _ _ _ z=>False.elim z,λ_ _ _ _ _ _ z=>False.elim z⟩
 .by_cases g:k=j
  .subst g;rw[Xm<|by simpa using I]at r;cases r;refine⟨.ref e,Xm y,?_⟩;dsimp only;rw[Xd rfl];exact⟨rfl,rfl,P,T,B⟩
  .rw[Xt<|Ne.symm g,Dx]at r;split at r<;>cases r
 .by_cases g:k=j
  .by_cases q:l=j
   .lia
   .simp[q]at J
  .simp[g]at i
 .dsimp only at i
  by_cases g:k=j
  .rw[Xd g]at i;cases Xh.mp i;exact⟨x.hh.free M,Z1 B⟩
  .simp[g]at i
def HB{b:Bool}(h:zg ρ i<|zo (.ref e)<|NZ C e)(f:GV c=some cv)(a:W.kitOne K (.ref C) cv=some b):Qs K (tCB (GZ K C)<|QF (Q5 i)<|QF (tC c) QM) ρ (.bool b):=λH0 F σ H Q S k=>by
 obtain⟨n,g,_⟩:=S.fp;obtain⟨u,m,rfl,_,_,T,j⟩:=g i _ h;exact⟨.ref e,m,.ref e,c,cv,b,rfl,f,.inr<|.inl ⟨e,T,rfl,j,a⟩,k F H _ (Q0.refl S.sub)<|.bl b⟩
end
structure LO(K:W.Frag)(mg:Str->Qf)(Y C:Addr):Prop where
 em:W.exmOne K (.ref C) (.ref Y)=some true
 my:mg "YardError"=some (.ref Y)
 is:D0 K C
 k1:W.kitOne K (.ref C) (.ref C)=some true
 k2:W.kitOne K (.ref C) (.type "ValueError")=some true
open HT
def ZfA{items:Array Value}{lo b:Option Int}(a:IsTup s.heap t items)(h:s.heap.IsSliceOf sl vl vu .none)(pl:IsPart vl lo)(i:IsPart vu b)
(hw:sIx items.size 0 lo=0/\sIx items.size items.size b=items.size)(q:Q (.ref t) s):wpAny (model prog w) A (getItem (.ref t)<|.ref sl) Q E s:=by
 obtain⟨j,f,g,n⟩:=id h;have ts:s.TypeIs (.ref sl) "slice" := ⟨j,f,g⟩;unfold getItem;try with_reducible refine wpAny_holding ?_
 first|refine Xa (Xj ?_)|skip
 refine Xa (wpAny_sequenceKey a.typeIs (by decide)<|Xa<|wpAny_callSpecial?_slot (name:=Str.ofString "__getitem__") a.typeIs PyProof.Rows.slot_tuple_getitem<|wpAny_call_entry PyProof.Rows.slot_tuple_getitem a.typeIs entry_tuple_getitem ?_<|args_tuple_getitem _ _);show wpAny _ _ (Builtin.Tuple.tupleItemsOf (.ref t) >>= _) _ _ s;refine Xa (tupleItemsOf_ a<|Xa<|wpAny_typeOf ts ?_);rw[Xd<|by decide];refine Xa (LJ h pl i ?_)
 have m:((((sIx items.size 0 lo:Nat):Int)==0&&(1:Int)==1&&(sIx items.size items.size b-sIx items.size 0 lo)==items.size)=true):=by
  rw[hw.1,hw.2];simp
 show wpAny _ _ (if (((sIx items.size 0 lo:Nat):Int)==0&&(1:Int)==1&&(sIx items.size items.size b-sIx items.size 0 lo)==items.size)=true then _ else _) _ _ s;rw[Xd m];unfold Builtin.Tuple.tupleIsExact
 first
  |exact Xa (Xa<|wpAny_typeOf a.typeIs<|Xj<|Xa<|wpAny_rule<|Xj ⟨_,rfl,Xj q⟩)
  |exact Xa (Xa<|wpAny_typeOf a.typeIs<|Xj<|Xa<|wpAny_rule<|Xa<|Xj<|Xj ⟨_,rfl,Xj q⟩)
def Rq(K:W.Frag):V->Option Int->Option Int->Hp->VK->Prop:=λx b f H Q=>∃a xs,x=.ref a/\SqT K H a xs/\
 ((HT.sIx xs.length 0 b=0/\HT.sIx xs.length xs.length f=xs.length)->Q (.ref a) H)/\
 (¬(HT.sIx xs.length 0 b=0/\HT.sIx xs.length xs.length f=xs.length)->∀p,H p=none->Q (.ref p) (upd H p<|.tup<|JY xs b f))
def G3:SlR X (Rq X.K):=by
 intro Xa7 s σ H x v C B n A D Q I i y m j h;obtain⟨a,xs,rfl,p,K,E⟩:=h
 by_cases f:HT.sIx xs.length 0 n=0/\HT.sIx xs.length xs.length A=xs.length
 .cases i;obtain⟨g,r,w,M⟩:=I.tuple p;have b:g.toArray.size=xs.length:=by rw[Xu];exact r.length.symm
  exact⟨"tuple",_,PyProof.Rows.slot_tuple_getitem.lookup,w.typeIs,ZfA w y m j (by rw[b];exact f) ⟨.ref a,H,I,rfl,K f⟩⟩
 .exact FI Xa7 s σ H _ v C B n A D Q I i y m j ⟨a,xs,rfl,p,f,E f⟩
def AO{b:Type}(xs:List b)(lo a:Option Int)(h:HT.sIx xs.length 0 lo=0/\HT.sIx xs.length xs.length a=xs.length):cut xs lo a=xs:=by
 unfold cut;rw[h.1,h.2];simp
def Gk{th:TO}{lo f:Option Int}(h:Qs K te ρ (.tuple ds))(y:EvP K tl ρ lo)(w:EvP K th ρ f):Qs K (tSl (Rq K) te tl th) ρ (.tuple<|cut ds lo f):=λH0 F σ H Q S q=>
 h H0 F σ H _ S λM C v i s=>y H0 M σ C _ (S.ext i) λE B g=>w H0 E σ B _ (S.ext<|i.trans g) λD A b=>by
  have r:=(i.trans g).trans b;have j:=s.mono (g.trans b).ff;obtain⟨a,xs,rfl,k1,k2,k3⟩:=J9 (K:=K) j b.fh;refine⟨a,xs,rfl,k1,λm=>?_,λ_ p n=>?_⟩
  .rw[k2.length]at m;exact q D A _ r (by rw[AO ds lo f m];exact j)
  .exact q _ _ _ (r.trans<|Q0.new b.fh n) (.tup QG<|(E6 k2 lo f).mono (Q7.new<|b.fh.free n))
end L2
namespace L2
def bkL:BackF (Fld f):=⟨λh s=>h.back s⟩
section
variable {d':PyData}
def HandOk.setYard{g m:Addr}{xs:List (Key×V)}(h:HandOk C N F H a dx k g d m y xs as)(r:Rep F y' d'):
 HandOk C { N with yard:=d' } F (upd H a<|.ins C dx<|hfs y' N.now k g d m) a dx k g d m y' xs as:=by
 obtain⟨f,⟨w,l⟩,⟨j,i⟩,e,⟨k1,v,k2,k3⟩,⟨E,A,D,B⟩,⟨d1,M,K⟩,⟨s,p,n⟩⟩:=h;have b:=f;simp only[Xv,Xe,not_or]at b;obtain⟨⟨c,Y,X,W,R,P⟩,_⟩:=b;exact⟨f,⟨w,QG⟩,⟨j,by rw[Qu<|Ne.symm c];exact i⟩,r,⟨k1,v,by rw[Qu<|Ne.symm Y];exact k2,k3⟩,⟨E,A,by rw[Qu<|Ne.symm X];exact D,B⟩,⟨d1,by rw[Qu<|Ne.symm W];exact M,K⟩,⟨s,by rw[Qu<|Ne.symm R];exact p,n.other P⟩⟩
def EQ(c:HandC K C)(e:zg ρ i<|zo v<|QI C N)(h:Qs K te ρ d')(hn:D.nx (ρ.set i<|zo v<|QI C { N with yard:=d' })):Q3 K (NV K (Q5 i) te "yard") ρ D:=λF0 H0 F σ H E x S R=>
 h H0 F σ H _ S λP W u j s=>by
  obtain⟨a,dx,k,g,d,m,y,xs,M,rfl,B,p,w,r⟩:=(S.ext j).hand e;refine⟨.ref a,B,a,C,dx,_,rfl,p.ins.2,c.cl,c.yd,by show 6<1000;decide,?_⟩;have A:V8 "yard" u (hfs y N.now k g d m)=hfs u N.now k g d m:=rfl;rw[A];have f:=w a (by simp);exact R.nx P σ _ _ ((x.trans j).wr f.1 f.2.1) (r _ { N with yard:=d' } u xs M ((S.ext j).sub.upd f.2.1) (λb n _=>Qu λz=>n<|by rw[z];simp) Yb (p.setYard s) λb n=>.inl n) hn
end
def V3    (c:D0 K C)(a:X.mg "isinstance"=none)(f:PA X (e::es) t)(g:X.K=K:=by rfl)(b:Gl X "isinstance" := by rfl)
(he:zs X e es:=by rfl)(hpl:zb X pos es:=by rfl):PE X (.Call (.Name "isinstance" p) (e::es) [] pos) (tCB (GZ K C) t):=by
 subst g;exact Zx (FD c) b a Uy f (he:=he) (hpl:=hpl)
def SR(h:EvR K t ρ Ψ):EvR K (Yv t u) ρ Ψ:=λF0 H0 F σ H E x S k=>h F0 H0 F σ H _ x S k
section
variable {base:Heap}{CR:Addr}
def Mf.evHXn{st:Stmt}{L:Qh}{k:Nat}{Y:Type}{FL:Addr->Hp->Hp->Hp->Qj->Y->Prop}{R:HandS->List OT->(OT->HandS->Prop)->Prop}{I:List OT->(Y->Prop)->Prop}(D:Mf K C m qual st ps)(S:Qp L ps (Q4 st))(l:∀M ts Ψ,R M ts Ψ->ts.length+1=ps.length)(n:∀ts Φ,I ts Φ->ts.length=ps.length)(hpn:ps.length<=L.length)
(y:∀(f:Addr) (a:Value) (A:Around) (outer:List Env) (s:Shared) (H:Hp) RR (v:V) (M:HandS) (ts:List OT) (Ψ:OT->HandS->Prop),Room k (A.deeper<|envOfC qual (Q4 st) s.heap.objs.size f a)->ZV CR RR->R M ts Ψ->
  ∃t,PSs (cx1 P w K mg base L qual (Q4 st) f a A outer s H<|XE CR RR) (ZB st) t/\EvR K (Yv t<|Yw<|tC .non) (zr L<|(.own v<|QI C M)::ts) (λr X=>∃Z,Ψ r Z/\X[0]?=some (zo v<|QI C Z)))
(B:∀(f:Addr) (a:Value) (A:Around) (outer:List Env) (s:Shared) (F H:Hp) RR (ts:List OT) (b:Y->Prop),Room k (A.deeper<|envOfC qual (Q4 st) s.heap.objs.size f a)->ZV CR RR->(∀F' J e N d,b d->Q0 F H F' J->H e=none->FL e F' J H N d->RR e N J)->I ts b->
  ∃t,PSs (cx1 P w K mg base L qual (Q4 st) f a A outer s H<|XE CR RR) (ZB st) t/\EvZ K F H t (zr L ts)):
 VU P w K mg base C m ps (k+1) (JX K C CR FL R I):=by
 obtain⟨f,fd,F,hm,hb⟩:=D.ex;refine⟨f,fd,hm,hb,F.okX S (λO H Q E h=>?_) λa A outer s H O Q E U h=>?_⟩
 .rcases h with ⟨RR,_,_,F,T,c,p,ts,M,Ψ,e,_,_,i,_,j,_⟩|⟨F,ts,_,_,i,RR,_,_,q⟩
  .rw[e,XN,i.length];exact l _ _ _ j
  .rcases q with ⟨_,z,_⟩|⟨r,j,_⟩
   .exact z.elim
   .exact i.length.trans (n ts r j)
 .rcases h with ⟨RR,G,g,F,T,c,p,ts,M,Ψ,e,o,W,i,ok,j,q⟩|⟨F,ts,o,W,i,RR,G,g,q⟩
  .subst e G;obtain⟨t,x,u⟩:=y f a A outer s H RR T M ts Ψ U g j;exact⟨t,x,Kd (R:=R) (q0:=λ_ _=>False) u o W i ok q⟩
  .subst G;rcases q with ⟨_,z,_⟩|⟨b,j,q⟩
   .exact z.elim
   .obtain⟨t,x,u⟩:=B f a A outer s F H RR ts b U g q j;exact⟨t,x,u F (start L O) H _ (Q0.refl W)<|JF o W i⟩
end
def OE(c:HandC K C)(e:zg ρ i<|zo v<|QI C N):Qs K (Vf K (Q5 i) "yard") ρ N.yard:=λH0 F σ H Q S q=>by
 obtain⟨a,dx,k,g,d,m,y,xs,n,rfl,j,f,_⟩:=S.hand e;obtain⟨_,⟨_,h⟩,_,b,_⟩:=f;exact⟨_,j,a,C,dx,_,y,rfl,h,c.cl,c.yd,rfl,q F H y (Q0.refl S.sub) b⟩
section
variable {e q:Addr}
def EI(h:zg ρ j<|zo (.ref e)<|WL C f ds e dx q)(hn:D.nx ((ρ.set j none).set i (some<|.ol ds))):Q3 K (ZM (tXG C (Q5 j) f)<|Vb i) ρ D:=λF0 H0 F σ H E x S c=>by
 obtain⟨o,d,Y,P,y,N,M⟩:=id S;obtain⟨w,W,rfl,R,⟨f1,f2,O⟩,⟨T,hT⟩,I,ys,G,l⟩:=y j _ h;have g:=(Xf.mp h).1;have A:q∈P j:=by rw[R];simp
 have Q:Q9 K H0 F (ρ.set j none) σ H:=by
  refine⟨o,d,by simp[Y],P,λk t n=>?_,N,M⟩
  by_cases a:k=j
  .subst a;rw[Xm g]at n;cases n
  .rw[Xt<|Ne.symm a]at n;exact y k t n
 refine⟨.ref e,W,e,dx,T,.ref q,rfl,hT,I,c.nx F _ H _ x (Q.set (t:=.ol ds) (p:=[q]) ⟨q,rfl,rfl,O,ys,G,l⟩ (λb v=>?_) (hn:=λb v k u X Z m B r s=>?_)) hn⟩
 .cases Xh.mp v;exact(M j q A).1
 .cases Xh.mp v;have a:k≠j:=λz=>by
   subst z;rw[Xm g]at m;cases m
  rw[Xt<|Ne.symm a]at m;obtain⟨U,L,J⟩:=y k X m;rw[L]at B;cases B;exact a (N k j q (Jd (K:=K) J r q s) A)
end
def HR:NoH "set_bound" := λ_ _ _ _ _ _=>rfl
def EA{r:Type}{v:Addr->Hp->Hp->Hp->Qj->r->Prop}(G:BackF v){CH CR:Addr}{t:TA}{B:Hp}{E:Ends}{R:HandS->List OT->(OT->HandS->Prop)->Prop}{A:List OT->(r->Prop)->Prop}{f:r->Prop}(X:NoH m)(e:zg ρ i<|zz<|QZ CH N)(q:Zv K t ρ ts)(o:A (.zow (QZ CH N)::ts) f)(st:ZV CR RR)
(W:∀p h e b d,f d->Q0 F0 H0 p h->H0 e=none->v e p h H0 b d->RR e b h){F:Hp}{H:Hp}(x:Q0 F0 H0 F H)(S:Q9 K B F ρ σ H):
 ZM (ZR CH m (JX K CH CR v R A) [] (XE CR RR) (Q5 i) t) (Vb j) E σ H:=by
 obtain⟨a,dx,k,g,d,M,y,P,u,xs,I,z,w⟩:=S.hz e;refine⟨_,z,a,dx,_,rfl,x.fh _ _ w.ins,X _ _ _ _ _ _,q B F σ H _ S λJ O L n D=>.inr ?_⟩;have s:=x.trans n;exact⟨J,_,(S.ext n).kt,n.fh,.zow (Ψ:=QZ CH N) ((QZ CH N).mono (K:=K) n.ff ⟨a,dx,k,g,d,M,y,P,u,xs,I,rfl,w⟩)<|by rw[Xx];exact D,RR,rfl,st,.inr ⟨f,o,λp h e b d l C c Y=>W p h e b d l (s.trans C) (s.hh.free c)<|G.back Y s.hh⟩⟩
structure LL(K:W.Frag)(CR ct:Addr):Prop where
 tr:W.kitOne K (.ref ct) (.ref CR)=some false
inductive SpHO(K:W.Frag)(C:Addr)(R:HandS->List OT->Qd->(OT->HandS->Prop)->Prop)(vs:List V)(H:Hp)(Q:VK):Prop
 |mk (F:Hp)(v0:V)(vs':List V)(a:Addr)(p:Qg)(ts:List OT)(ds:Qd)(N:HandS)(Ψ:OT->HandS->Prop)(xs:List V)(e:vs=v0::(vs'++[.ref a]))(kt:KTs K F)(sm:Q7 F H)(ha:Args K F vs' ts)(ok:(QI C N).ok K F H v0 p)(na:a∉p)(fa:F a=none)(hx:H a=some (.lst xs))(rx:Qx F xs ds)(hR:R N ts ds Ψ)
  (k:∀F' H' p' N' v r q,Ψ r N'->ExtN (a::p) F H F' H'->(QI C N').ok K F' H' v0 p'->(∀b∈p',b∈a::p\/H b=none)->Ze K F' H' v r q->(∀b∈q,(b∈a::p\/H b=none)/\b∉p')->Q v H'):SpHO K C R vs H Q
def GX(K:W.Frag)(C:Addr)(R:HandS->List OT->Qd->(OT->HandS->Prop)->Prop):Sp:=λa H Q _=>SpHO K C R a H Q
def OX{p:Qg}{Ψ:OT->HandS->Prop}
(h:EvR K t (some (.own v0<|QI C N)::((ts++[OT.ol ds]).map some++List.replicate (L.length-((ts++[OT.ol ds]).length+1)) none)) (λr s=>∃B,Ψ r B/\s[0]?=some (zo v0<|QI C B)))
(T:KTs K F)(W:Q7 F H)(d:Args K F vs ts)(X:(QI C N).ok K F H v0 p)(Y:a∉p)(fa:F a=none)(c:H a=some (.lst xs))(rx:Qx F xs ds)
(q:∀A n M l v r q,Ψ r l->ExtN (a::p) F H A n->(QI C l).ok K A n v0 M->(∀b∈M,b∈a::p\/H b=none)->Ze K A n v r q->(∀b∈q,(b∈a::p\/H b=none)/\b∉M)->Q v n):
 t { nx:=q0,rt:=Q } (start L (v0::(vs++[.ref a]))) H:=by
 have P:∀b,(λb=>if b∈a::p then none else H b:Hp) b=none->b∈a::p\/H b=none:=λb f=>by
  by_cases z:b∈a::p
  .exact .inl z
  .simp only[Xb z]at f;exact .inr f
 have R:=d.length;have m:∀j b,b∈(if j=0 then p else if j=ts.length+1 then [a] else [])->(j=0/\b∈p)\/(j=ts.length+1/\b=a):=λj b f=>by
  split at f
  .exact .inl ⟨‹_›,f⟩
  .split at f
   .exact .inr ⟨‹_›,Xh.mp f⟩
   .cases f
 have S1:Q9 K (λb=>if b∈a::p then none else H b) F (some (.own v0<|QI C N)::((ts++[OT.ol ds]).map some++List.replicate (L.length-((ts++[OT.ol ds]).length+1)) none)) (start L (v0::(vs++[.ref a]))) H:=by
  refine MC (ts:=.own v0 (QI C N)::(ts++[OT.ol ds])) (λj=>if j=0 then p else if j=ts.length+1 then [a] else []) T W (by simp[R]) (λi J e=>?_) (λi j b hi Z=>?_) (λi b f=>?_)
  .cases i with
   |zero=>cases e;exact⟨v0,rfl,rfl,X⟩
   |succ i=>
    rw[NR]at e ⊢;by_cases z:i<ts.length
    .rw[UI z]at e;rw[UI<|by lia,Xb<|by lia,Xb<|by lia];exact d.get i J e
    .rw[BO<|by lia]at e ⊢;have:i-ts.length=0:=by
      have:=(Xf.mp e).1;simp at this;lia
     rw[this]at e;cases e;exact⟨.ref a,by rw[R,this];rfl,a,rfl,by rw[Xb<|by lia,Xd<|by lia],fa,xs,c,rx⟩
  .rcases m i b hi with ⟨x,g⟩|⟨x,g⟩<;>rcases m j b Z with ⟨y,D⟩|⟨y,D⟩
   .rw[x,y]
   .exact Xz (D▸g) Y
   .exact Xz (g▸D) Y
   .rw[x,y]
  .rcases m i b f with ⟨_,x⟩|⟨_,rfl⟩
   .exact⟨Xd<|Xi _ x,((QI C N).there X b x).2⟩
   .exact⟨Xd Xc,Z1 c⟩
 refine h F (λb=>if b∈a::p then none else H b) F _ H _ ⟨λb o f=>?_,Q7.refl _,W,λ_ h=>.inl h⟩ S1 λA G n s v r O g S' E U hd ⟨B,hM,k⟩=>?_
 .by_cases z:b∈a::p
  .simp only[Xd z]at f;cases f
  .simp only[Xb z]at f;exact f
 .obtain⟨fp,g1,g2,g3⟩:=S'.fp;obtain⟨u,I,rfl,w⟩:=g1 0 _ k;refine q A n (fp 0) B v r O hM ⟨λb o S f=>g.hh b o<|by simp only[Xb S];exact f,g.ff,g.fh,λb f=>?_⟩ w (λb f=>P b (g3 0 b f).1) E (λb f=>⟨P b<|U b f,hd b f _ _ _ k I ⟨rfl,w⟩⟩);rcases g.fr b f with z|z
  .exact .inl z
  .exact .inr ((P b z).symm)
section
variable {base:Heap}
def Df.evHO{x:Str}{st:Stmt}{L:Qh}{k:Nat}{R:HandS->List OT->Qd->(OT->HandS->Prop)->Prop}(D:Df K mg x st ps)(S:Qp L ps (Q4 st))(m:∀M ts ds Ψ,R M ts ds Ψ->ts.length+2=ps.length)
(g:∀(f:Addr) (b:Value) (A:Around) (outer:List Env) (s:Shared) (H:Hp) (E:XK) (v:V) (M:HandS) (ts:List OT) (ds:Qd) (Ψ:OT->HandS->Prop),Room k (A.deeper<|envOfC x (Q4 st) s.heap.objs.size f b)->R M ts ds Ψ->
  ∃t,PSs (Vq CX0 P w K mg base L x (Q4 st) f b A outer s H E).nox (ZB st) t/\EvR K t (some (.own v<|QI C M)::((ts++[OT.ol ds]).map some++List.replicate (L.length-((ts++[OT.ol ds]).length+1)) none)) (λr i=>∃N,Ψ r N/\i[0]?=some (zo v<|QI C N))):QE P w K mg base x ps (k+1) (GX K C R):=by
 obtain⟨f,fd,F,z,G⟩:=D.ex;refine⟨f,fd,z,F.kp,G,F.ok S (λW H Q E h=>?_) λb A outer s H W Q E u h=>?_⟩
 .obtain⟨F,B,j,a,p,ts,ds,M,Ψ,xs,e,_,_,n,_,_,_,_,_,y,_⟩:=h;rw[e,XN,Xn,n.length];exact m _ _ _ _ y
 .obtain⟨F,B,j,a,p,ts,ds,M,Ψ,xs,e,l,X,n,c,d,O,o,Y,y,q⟩:=h;subst e;obtain⟨t,J,I⟩:=g f b A outer s H E B M ts ds Ψ u y;exact⟨t,J,OX I l X n c d O o Y q⟩
end
def Q9.olP(S:Q9 K H0 F ρ σ H)(i:Nat)(e:ρ[i]?=some (some<|.ol ds)):∃a,Q9 K H0 F (ρ.set i<|zo (.ref a)<|olP ds) σ H:=by
 obtain⟨n,g,_⟩:=S.fp;obtain⟨u,m,a,rfl,_⟩:=g i _ e;refine⟨a,S.reslot e λu p h f=>?_⟩;rw[m]at h;cases h;obtain⟨b,j,rfl,f⟩:=f;cases j;exact⟨rfl,a,rfl,rfl,f⟩
def FG(i:Nat)(e:ρ[i]?=some (some<|.ol ds))(h:∀a,EvR K t (ρ.set i<|zo (.ref a)<|olP ds) Ψ):EvR K t ρ Ψ:=λF0 H0 F σ H E x S c=>by
 obtain⟨a,b⟩:=S.olP i e;exact h a F0 H0 F σ H E x b c
def spY(C:Addr):Sp:=λb H Q _=>∃a dx y n k g d e,b=[.ref a]/\H a=some (.ins C dx<|hfs y n k g d e)/\Q y H
section
variable {E:XK}
def P3(h:NoH m)(e:zg ρ i<|zo v<|QI C N)(j:N.yard=d):Qs K (ZR C m (spY C) [] E (Q5 i) QM) ρ d:=λH0 F σ H Q S q=>by
 subst j;obtain⟨a,dx,k,g,d,f,y,xs,p,rfl,n,b,_⟩:=S.hand e;exact⟨_,n,a,dx,_,rfl,b.ins.2,h _ _ _ _ _ _,a,dx,y,_,k,g,d,f,rfl,b.ins.2,q F H y (Q0.refl S.sub) b.yd⟩
def Km(f:NoH m)(e:zg ρ i<|zz<|QZ C N)(h:N.yard=d):Qs K (ZR C m (spY C) [] E (Q5 i) QM) ρ d:=λH0 F σ H Q S q=>by
 subst h;obtain⟨a,dx,k,g,d,b,y,n,p,xs,r,j,o⟩:=S.hz e;exact⟨_,j,a,dx,_,rfl,S.sub _ _ o.ins,f _ _ _ _ _ _,a,dx,y,_,k,g,d,b,rfl,S.sub _ _ o.ins,q F H y (Q0.refl S.sub) o.yd⟩
end
def Z5(T1:List (Qd)):OwnP where
 ok K F H v p:=Ze K F H v (.oll T1) p
 there:=λh=>Ze.there h
 mono:=λs b a h=>Ze.move s b a h
 uniq:=λh h'=>Jd h h'
def Q9.unP(S:Q9 K H0 F ρ σ H)(e:zg ρ i<|zo v<|Z5 T1):Q9 K H0 F (ρ.set i<|some<|.oll T1) σ H:=S.reslot e λu p b a=>a.2
def Q9.ooP(S:Q9 K H0 F ρ σ H)(i:Nat)(e:ρ[i]?=some (some<|.oll T1)):∃v,Q9 K H0 F (ρ.set i<|zo v<|Z5 T1) σ H:=by
 obtain⟨j,g,_⟩:=S.fp;obtain⟨u,f,_⟩:=g i _ e;refine⟨u,S.reslot e λh p a b=>?_⟩;rw[f]at a;cases a;exact⟨rfl,b⟩
def Cr(i:Nat)(e:ρ[i]?=some (some<|.oll T1))(h:∀v,Q3 K t (ρ.set i<|zo v<|Z5 T1) D):Q3 K t ρ D:=λF0 H0 F σ H E x S c=>by
 obtain⟨v,a⟩:=S.ooP i e;exact h v F0 H0 F σ H E x a c
def Sa(i:Nat)(e:zg ρ i<|zo v<|Z5 T1)(h:Qs K t (ρ.set i<|some<|.oll T1) d):Qs K t ρ d:=λH0 F σ H Q S q=>h H0 F σ H Q (S.unP e) q
def ZmJ{m:Int}(e:zg ρ i<|zo v<|Z5 T1)(h:Qs K te ρ d)(hk:Qs K ti ρ (.int k))(Z:Qs K tj ρ (.int m))(e1:ixN T1.length k=some k')(e2:T1[k']?=some ds)(e3:ixN ds.length m=some m')
(hn:D.nx (ρ.set i<|zo v<|Z5<|T1.set k'<|ds.set m' d)):Q3 K (ZM te<|BR (tOp (rIx K) (Q5 i) ti) tj Uj) ρ D:=λF0 H0 F σ H E x S C=>
 h H0 F σ H _ S λF1 H1 G q O=>by
  have Y:=S.ext q;obtain⟨p,Q,⟨a,B,rfl,t,j,X,n,g⟩,W⟩:=VM Y (x.trans q) e;refine⟨_,Q,hk H0 F1 σ H1 _ Y λF2 H2 y M L=>?_⟩;cases L;obtain⟨c,R,T⟩:=(g.ext M).get e2;have ea:atI (B.map V.ref) k=some (.ref c):=by
   unfold atI;rw[Xl,g.length,e1];show(B.map V.ref)[k']?=_;rw[Xs,R];rfl
  refine .inl ⟨a,B.map V.ref,k,.ref c,rfl,rfl,SqL.of<|M.hh _ _ n,ea,Z H0 F2 σ H2 _ (Y.ext M) λu H3 z l J=>?_⟩;cases J;have f:=M.trans l;obtain⟨s,xs,N,r⟩:=T.ext l;refine⟨c,xs,m,m',rfl,rfl,N,by rw[r.length];exact e3,?_⟩;have w:c∈B:=List.mem_of_getElem? R;have P:c≠a:=λz=>(Xv.mp j).1 (by rw[<- z];exact w);have cp:c∈p:=by rw[t];exact Xi _ w
  have I:=(r.set (O.mono f.ff) m');obtain⟨X',S',_⟩:=W u (upd H3 c<|.lst<|xs.set m' G) p (T1.set k'<|ds.set m' d) ⟨λb o U A=>by rw[Qu λz=>U<|by rw[show b=c from z];exact cp];exact f.hh _ _ A,f.ff,f.fh.upd s,λb A=>(f.fr b A).imp id .inl⟩ ⟨a,B,rfl,t,j,f.free X<|Z1 n,by rw[Qu P.symm];exact f.hh _ _ n,(g.ext f).set I s (Xv.mp j).2 R⟩ (λb A=>.inl A);exact C.nx u σ _ _ X' S' hn
def Ia(e:zg ρ i<|zo v<|Z5 T1)(h:EvO K te ρ (.ol ds))(O:T1.length<1000)(hn:D.nx (ρ.set i<|zo v<|Z5<|T1++[ds])):
 Q3 K (VC<|tBM K "list" Yl (Q5 i)<|QF te QM) ρ D:=λF0 H0 F σ H E x S C=>by
 obtain⟨p,s0,n,B⟩:=VM S x e;have th:=(Z5 T1).there n;obtain⟨a,f,rfl,s,N,G,A,M⟩:=n;refine⟨_,s0,.inl ⟨rfl,_,SqL.of A⟩,h H0 F σ H _ S λW L u q g l n=>?_⟩;obtain⟨b,rfl,rfl,X⟩:=n;have R:=l b Xc;have P:b∉a::f:=λz=>(th b<|by rw[s];exact z).2 R;have y:b≠a:=λz=>P (by rw[z];exact Xc);have m:=g.free G (Z1 A);have k:=(Xv.mp N).1;refine⟨a,f.map V.ref,.ref b,rfl,rfl,g.hh _ _ A,by rw[Xl,M.length];exact Vp<|by lia,?_⟩
 have w:(a::(f++[b])).Nodup:=by
  rw[show a::(f++[b])=(a::f)++[b] from rfl,UN];exact⟨N,by simp,λc j d t z=>P<|by rw[<- Xh.mp t,<- z];exact j⟩
 have r:∀c∈a::(f++[b]),c∈p\/H c=none:=λc j=>by
  rcases XD.mp (show c∈(a::f)++[b] from j) with z|z
  .exact .inl (by rw[s];exact z)
  .rw[Xh.mp z];exact .inr R
 obtain⟨I,J,_⟩:=B W (upd L a<|.lst<|f.map V.ref++[.ref b]) (a::(f++[b])) (T1++[ds]) ⟨λc o Y j=>by rw[Qu λz=>Y<|by rw[s,show c=a from z];exact Xc];exact g.hh _ _ j,g.ff,g.fh.upd m,λc j=>(g.fr c j).imp id .inl⟩ ⟨a,f++[b],rfl,rfl,w,m,by rw[QG];simp,((M.ext g).other k).snoc (X.other y)⟩ r;exact C.nx W σ _ _ I J hn
inductive SpB(K:W.Frag)(R:PyData->List (Qd)->Zco->PyData->List (Qd)->Prop)(vs:List V)(H:Hp)(Q:VK):Prop
 |mk (F:Hp)(u1 v0 vg u4:V)(p q:Qg)(d1:PyData)(T1:List (Qd))(L0:Zco)(d4:PyData)(dss':List (Qd))(e:vs=[u1,v0,vg,u4])(kt:KTs K F)(sm:Q7 F H)(r1:Rep F u1 d1)(r4:Rep F u4 d4)(okp:(Z5 T1).ok K F H v0 p)(okq:(dkP L0).ok K F H vg q)(dj:∀b∈q,b∉p)(hR:R d1 T1 L0 d4 dss')
  (k:∀F' H' p',ExtN (p++q) F H F' H'->(Z5 dss').ok K F' H' v0 p'->(∀b∈p',b∈p++q\/H b=none)->Q (.bl true) H'):SpB K R vs H Q
def spB(K:W.Frag)(R:PyData->List (Qd)->Zco->PyData->List (Qd)->Prop):Sp:=λa H Q _=>SpB K R a H Q
section
variable {base:Heap}
def Df.evB{x:Str}{st:Stmt}{L:Qh}{k:Nat}{R:PyData->List (Qd)->Zco->PyData->List (Qd)->Prop}(D:Df K mg x st ps)(S:Qp L ps (Q4 st))(U:4=ps.length)
(X:∀(f:Addr) (m:Value) (A:Around) (outer:List Env) (s:Shared) (H:Hp) (E:XK) (g n:V) d1 T1 L0 d4 l,Room k (A.deeper<|envOfC x (Q4 st) s.heap.objs.size f m)->R d1 T1 L0 d4 l->
  ∃t,PSs (Vq CX0 P w K mg base L x (Q4 st) f m A outer s H E).nox (ZB st) t/\EvR K t (some (.fz d1)::some (.own g<|Z5 T1)::some (.own n<|dkP L0)::some (.fz d4)::List.replicate (L.length-4) none) (λr M=>r=.fz (.bool true)/\M[1]?=some (zo g<|Z5 l))):QE P w K mg base x ps (k+1) (spB K R):=by
 obtain⟨f,fd,F,hm,a⟩:=D.ex;refine⟨f,fd,hm,F.kp,a,F.ok S (λvs H Q E h=>?_) λm A outer s H vs Q E hr h=>?_⟩
 .obtain⟨F,G,g,n,I,p,q,d1,T1,L0,d4,l,e,_⟩:=h;rw[e];exact U
 .obtain⟨F,G,g,n,I,p,q,d1,T1,L0,d4,l,e,kt,sm,r1,r4,W,N,dj,hR,k⟩:=h;subst e;obtain⟨t,h1,h2⟩:=X f m A outer s H E g n d1 T1 L0 d4 l hr hR;refine⟨t,h1,?_⟩;have O:=λb a=>(Z5 T1).there W b a;have J:=λb a=>(dkP L0).there N b a
  have h0:∀b,(λb=>if b∈p++q then none else H b:Hp) b=none->b∈p++q\/H b=none:=λb a=>by
   by_cases z:b∈p++q
   .exact .inl z
   .simp only[Xb z]at a;exact .inr a
  have S0:Q9 K (λb=>if b∈p++q then none else H b) F (some (.fz d1)::some (.own g<|Z5 T1)::some (.own n<|dkP L0)::some (.fz d4)::List.replicate (L.length-4) none) (start L [G,g,n,I]) H:=by
   have C:∀j b,b∈(if j=1 then p else if j=2 then q else [])->j=1/\b∈p\/j=2/\b∈q:=λj b a=>by
    split at a
    .exact .inl ⟨‹_›,a⟩
    .split at a
     .exact .inr ⟨‹_›,a⟩
     .cases a
   refine MC (ts:=[.fz d1,.own g<|Z5 T1,.own n<|dkP L0,.fz d4]) (λj=>if j=1 then p else if j=2 then q else []) kt sm rfl (λi t e=>?_) (λi j b x y=>?_) (λi b x=>?_)
   .rcases i with _|_|_|_|i<;>cases e
    .exact⟨G,rfl,rfl,r1⟩
    .exact⟨g,rfl,rfl,W⟩
    .exact⟨n,rfl,rfl,N⟩
    .exact⟨I,rfl,rfl,r4⟩
   .rcases C i b x with ⟨c,c'⟩|⟨c,c'⟩<;>rcases C j b y with ⟨d,Z⟩|⟨d,Z⟩
    .rw[c,d]
    .exact(dj b Z c').elim
    .exact(dj b c' Z).elim
    .rw[c,d]
   .rcases C i b x with ⟨_,c⟩|⟨_,c⟩
    .exact⟨Xd<|JR _ c,(O b c).2⟩
    .exact⟨Xd<|XT _ c,(J b c).2⟩
  refine h2 F (λb=>if b∈p++q then none else H b) F _ H _ ⟨λb o a=>?_,Q7.refl _,sm,λ_ h=>.inl h⟩ S0 λF' σ' H' M v r qq Y S' B hq hd ⟨rr,e1⟩=>?_
  .by_cases z:b∈p++q
   .simp only[Xd z]at a;cases a
   .simp only[Xb z]at a;exact a
  .subst rr;obtain⟨_,B⟩:=B;cases B;obtain⟨fp,g1,g2,g3⟩:=S'.fp;obtain⟨u,G,rfl,T⟩:=g1 1 _ e1;refine k F' H' (fp 1) ⟨λb o nb a=>Y.hh b o<|by simp only[Xb nb];exact a,Y.ff,Y.fh,λb a=>?_⟩ T (λb a=>h0 b (g3 1 b a).1);rcases Y.fr b a with z|z
   .exact .inl z
   .exact .inr ((h0 b z).symm)
end
def GW(q:Qg)(H:Hp):Hp:=λb=>if b∈q then none else H b
section
variable {v0:V}{CR:Addr}{t4:TE}{d4:PyData}
def Q9.hide(S:Q9 K H0 F ρ σ H)(v:∀b∈q,F b=none)(y:∀b∈q,∀(j:Nat) (u:V) (t':OT) (i:Qg),ρ[j]?=some (some t')->σ[j]?=some (some u)->Ze K F H u t' i->b∉i):Q9 K H0 F ρ σ (GW q H):=by
 obtain⟨s,C,B,r,p,A,n⟩:=S;have m:∀j t',ρ[j]?=some (some t')->∀b∈r j,GW q H b=H b:=λj t' e b a=>by
  obtain⟨u,h,g⟩:=p j t' e;exact Xb λz=>y b z j u t' _ e h g a
 refine⟨s,λb o a=>?_,B,λj=>if (ρ[j]?).join.isSome then r j else [],λj t' e=>?_,λj k b a f=>?_,λj b a=>?_⟩
 .have:b∉q:=λz=>by rw[v b z]at a;cases a
  exact(Xb this).trans (C b o a)
 .obtain⟨u,h,g⟩:=p j t' e;refine⟨u,h,?_⟩;dsimp only;rw[e,Xd<|by rfl];exact g.move (Q7.refl _) (λb a=>(g.there b a).1) (m j t' e)
 .refine A j k b ?_ ?_
  .dsimp only at a;split at a
   .exact a
   .cases a
  .dsimp only at f;split at f
   .exact f
   .cases f
 .dsimp only at a;split at a
  .next z=>
   cases e:ρ[j]? with
   |none=>rw[e]at z;cases z
   |some w=>
    cases w with
    |none=>rw[e]at z;cases z
    |some t'=>exact⟨(n j b a).1,by rw[m j t' e b a];exact(n j b a).2⟩
  .cases a
def Rp(K:W.Frag)(t:TE)(ρ:ZbJ)(Θ:ZbJ->Prop):Prop := ∀(F0 H0 F:Hp) (σ:St) (H:Hp) (Q:VK),Q0 F0 H0 F H->Q9 K H0 F ρ σ H->
 (∀f b a,Θ a->Q0 F0 H0 f b->Q9 K H0 f a σ b->Q (.bl true) b)->t σ H Q
def A9{s:TE->TS}{Θ:ZbJ->Prop}(hw:Rp K te ρ Θ)(i:∀(H0 F:Hp) (σ:St) (H:Hp) (E:Ends),Q9 K H0 F ρ σ H->(∀Q:VK,(∀w f,s (tC w) E σ f->Q w f)->te σ H Q)->s te E σ H)
(hn:∀a,Θ a->Q3 K (s<|tC<|.bl true) a D):Q3 K (s te) ρ D:=λF0 H0 F σ H E x S c=>
 i H0 F σ H E S λQ j=>hw F0 H0 F σ H Q x S λn g a b h m=>j _ g (hn a b F0 H0 n σ g E h m c)
def E9{δ:Type}{FL:Addr->Hp->Hp->Hp->Qj->δ->Prop}{R:HandS->List OT->(OT->HandS->Prop)->Prop}{Rx:List OT->(δ->Prop)->Prop}{Ψ:OT->HandS->Prop}{RB:PyData->List (Qd)->Zco->PyData->List (Qd)->Prop}{Θ:ZbJ->Prop}(hij:i≠j)(h1:Qs K t1 ρ d1)(ej:zg ρ j<|zo v0<|Z5 T1)(hm:NoH m)(e:zg ρ i<|zo v<|QI C N)(hR:R N [] Ψ)(st:ZV CR RR)
(hn:∀r w,Ψ r w->∃L0 vg f,r=.own vg (dkP L0)/\Qs K t4 (ρ.set i<|zo v<|QI C w) d4/\RB d1 T1 L0 d4 f/\Θ ((ρ.set i<|zo v<|QI C w).set j (zo v0<|Z5 f))):
 Rp K (Vg (spB K RB) [] E'<|QF t1<|QF (Q5 j)<|QF (ZR C m (JX K C CR FL R Rx) [] (XE CR RR) (Q5 i) QM)<|QF t4 QM) ρ Θ:=λF0 H0 F σ H Q x S k=>by
 refine h1 H0 F σ H _ S λF1 H1 u1 t r1=>?_;have S1:=S.ext t;have X1:=x.trans t;obtain⟨pj,sj,_⟩:=VM S1 X1 ej;obtain⟨p,s1,X,fin⟩:=VM S1 X1 e;obtain⟨a0,dx,y,n,k',g,d,e',rfl,hi⟩:=QI.at X;refine⟨_,sj,_,s1,a0,dx,_,rfl,hi,hm _ _ _ _ _ _,.inl ⟨RR,rfl,st,F1,_,[],p,[],N,Ψ,rfl,S1.kt,t.fh,.nil,X,hR,λF2 H2 p' w G r q hr xn ok' J L hq=>?_⟩⟩;obtain⟨L0,vg,f,rfl,h4,hB,hΘ⟩:=hn r w hr;obtain⟨X2,S2,dj⟩:=fin F2 H2 p' w xn ok' J;obtain⟨dj1,dj2⟩:=dj q hq;obtain⟨rfl,T⟩:=L;refine h4 H0 F2 σ H2 _ S2 λl D u4 B r4=>?_;have S3:=S2.ext B;have X3:=X2.trans B;have s:=(show Ze K F2 H2 G (.own G<|dkP L0) q from⟨rfl,T⟩).ext B;have I:=s.there
 have dq:∀b∈q,∀(j:Nat) (u:V) (E:OT) (O:Qg),(ρ.set i<|zo (.ref a0)<|QI C w)[j]?=some (some E)->σ[j]?=some (some u)->Ze K l D u E O->b∉O:=λb a j' u E O m1 m2 Z hb'=>by
  obtain⟨fp,f1,_⟩:=S2.fp;obtain⟨u',f2,f3⟩:=f1 j' E m1;rw[m2]at f2;cases f2;exact dj2 b a j' u E _ m1 m2 f3 (Jd (K:=K) (f3.ext B) Z b hb')
 have S4:=S3.hide (q:=q) (λb a=>(I b a).1) dq;have X4:Q0 F0 H0 l (GW q D):=⟨λb o a=>(Xb λz=>by rw[dj1 b z]at a;cases a).trans (X3.hh b o a),X3.ff,S4.sub,X3.fr⟩;have ej':(ρ.set i<|zo (.ref a0)<|QI C w)[j]?=some (zo v0<|Z5 T1):=by rw[Xt hij];exact ej
 obtain⟨P,sr,A,c⟩:=VM S4 X4 ej';have Y:∀b∈q,b∉P:=λb a z=>by
  have:=((Z5 T1).there A b z).2;exact this (Xd a)
 have W:(Z5 T1).ok K l D v0 P:=(Z5 T1).mono (K:=K) (Q7.refl _) (λb a=>((Z5 T1).there A b a).1) (λb a=>(Xb λz=>Y b z a).symm) A;refine⟨l,u1,v0,G,u4,P,q,d1,T1,L0,d4,f,rfl,S3.kt,B.fh,r1.mono<|xn.ff.trans B.ff,r4,W,s.2,Y,hB,λF' H' pp h U M=>?_⟩;have bk:∀b,b∈P++q\/D b=none->b∈P\/GW q D b=none:=λb a=>by
  by_cases z:b∈q
  .exact .inr (Xd z)
  .rcases a with a|a
   .exact .inl ((XD.mp a).resolve_right z)
   .exact .inr ((Xb z).trans a)
 obtain⟨X',S',_⟩:=c F' H' pp f ⟨λb o nb a=>by
  have nq:b∉q:=λz=>by rw[show GW q D b=none from Xd z]at a;cases a
  exact h.hh b o (λz=>(XD.mp z).elim nb nq)<|(Xb nq).symm.trans a,h.ff,h.fh,λb a=>by
  rcases h.fr b a with z|z
  .exact .inl z
  .exact .inr (bk b z.symm).symm⟩ U (λb a=>bk b<|M b a)
 exact k F' H' _ hΘ X' S'
end
def GT(F a:Hp):Prop := ∀b o,F b=some o->(∀xs,o≠.lst xs)->a b=some o
def TF(d:PyData):Prop := ∀F a:Hp,GT F a->∀v,Rep F v d->Rep a v d
def G0{w:V}(h:ZO d=some w):TF d:=λF a _ v r=>by
 cases r<;>simp[ZO]at h
 .exact .non
 .exact .bl _
 .exact .int _
 .exact .str _
theorem Qx.tf{F a:Hp}(n:GT F a):∀{xs:List V} {ds:Qd},(∀d∈ds,TF d)->Qx F xs ds->Qx a xs ds
 |_,_,_,.nil=>.nil
 |_,_,h,.cons r t=>.cons (h _ Xc F a n _ r) (Qx.tf n (λd b=>h d<|Xi _ b) t)
def Bj(h:∀d∈ds,TF d):TF (.tuple ds):=λF a n v r=>by
 cases r with
 |tup e t=>exact .tup (n _ _ e<|by rintro _ ⟨⟩) (t.tf n h)
theorem PairK.tf{F a:Hp}(n:GT F a):∀{xs:List (Key×V)} {L0:Zco},(∀b∈L0,TF b.2)->PairK F xs L0->PairK a xs L0
 |_,_,_,.nil=>.nil
 |_,_,h,.cons r t=>.cons (h _ Xc F a n _ r) (PairK.tf n (λd f=>h d<|Xi _ f) t)
theorem MadeD.tf{F g H:Hp}(n:GT F g)(f:∀b,F b=none->g b=none):∀{as:Qg} {ms:List Zco},(∀k∈ms,∀i∈k,TF i.2)->MadeD F H as ms->MadeD g H as ms
 |_,_,_,.nil=>.nil
 |_,_,h,.cons a b c t=>.cons (f _ a) b (c.tf n<|h _ Xc) (MadeD.tf n f (λd j=>h d<|Xi _ j) t)
structure HTF(N:HandS):Prop where
 y:TF N.yard
 k:∀d∈N.known,TF d
 g:∀kv∈N.gone,TF kv.2
 m:∀k∈N.made,∀kv∈k,TF kv.2
def QI.thaw{p:Qg}(n:GT F F')(f:∀b,F b=none->F' b=none)(t:HTF N)(h:(QI C N).ok K F H v p):(QI C N).ok K F' H v p:=by
 obtain⟨a,dx,k,g,d,m,y,xs,o,rfl,rfl,⟨w,⟨P,M⟩,⟨s,r⟩,j,⟨k1,E,k2,k3⟩,⟨c,W,Y,X⟩,⟨d1,l,e⟩,⟨D,B,A⟩⟩⟩:=h;exact⟨a,dx,k,g,d,m,y,xs,o,rfl,rfl,⟨w,⟨f _ P,M⟩,⟨f _ s,r⟩,t.y _ _ n _ j,⟨f _ k1,E,k2,k3.tf n t.k⟩,⟨f _ c,W,Y,X.tf n λd R=>by
  obtain⟨i,_,rfl⟩:=XL.mp R;exact G0 rfl⟩,⟨f _ d1,l,e.tf n t.g⟩,⟨f _ D,B,A.tf n f t.m⟩⟩⟩
theorem Z8.lst{F H:Hp}:∀{as:Qg} {T1:List (Qd)},Z8 F H as T1->∀a∈as,∃xs,H a=some (.lst xs)
 |[],[],_,a,f=>by cases f
 |b::as,_::_,h,a,f=>by
  rcases Xe.mp f with rfl|f
  .obtain⟨_,xs,g,_⟩:=h.1;exact⟨xs,g⟩
  .exact Z8.lst h.2 a f
 |[],_::_,h,_,_=>False.elim h
 |_::_,[],h,_,_=>False.elim h
def AL{p:Qg}(h:Ze K F H v (.oll T1) p):∀b∈p,∃xs,H b=some (.lst xs):=by
 obtain⟨a,j,rfl,rfl,_,_,i,g⟩:=h;intro b f;rcases Xe.mp f with rfl|f
 .exact⟨_,i⟩
 .exact g.lst b f
section
variable {vr:V}{R:HandS->List OT->Qd->(OT->HandS->Prop)->Prop}{t3:TE}
def OR{Θ:PyData->OT->Prop}(hij:i≠j)(e:zg ρ i<|zo v<|QI C N)(ej:zg ρ j<|zo vr<|Z5 T1)(h1:Qs K t1 ρ d1)(hD:Z2 K t3 ρ Φg)
(hs:∀r,Φg r->∃ds Ψ,r=.ol ds/\R N [.fz d1,.fz<|.list<|T1.map PyData.list] ds Ψ/\∀r A,Ψ r A->HTF A/\∃d w,r=.fz d/\ZO d=some w/\Θ d (.own v<|QI C A)):
 BU K (Vg (GX K C R) [] E'<|QF (Q5 i)<|QF t1<|QF (Q5 j)<|QF t3 QM) ρ i Θ:=λF0 H0 F σ H Q x S q=>by
 obtain⟨p0,s0,_⟩:=VM S x e;refine⟨_,s0,h1 H0 F σ H _ S λF1 H1 u1 l r1=>?_⟩;have k:=S.ext l;have X1:=x.trans l;obtain⟨g,g1,g2,g3⟩:=id k.fp;obtain⟨w1,sj,rfl,W⟩:=g1 j _ ej;obtain⟨w2,si,rfl,G⟩:=g1 i _ e;refine⟨_,sj,hD H0 F1 σ H1 _ k λY B u3 pg rg hrg h hpg I=>?_⟩;obtain⟨ds,Ψ,rfl,hR,T⟩:=hs rg hrg;obtain⟨a,rfl,rfl,fa,xs,hx,rx⟩:=I;obtain⟨p,s1,s,fin⟩:=VM k X1 e;have pi:∀b∈p,b∈g i:=(QI C N).uniq G s;have dis:∀b∈p,b∉g j:=λb f z=>hij (g2 i j b (pi b f) z);have th:=λb f=>(QI C N).there s b f;have M:=λb f=>(Z5 T1).there W b f;have n:H1 a=none:=hpg a Xc;have na:a∉p:=λz=>(th a z).2 n;have O:a∉g j:=λz=>(M a z).2 n;have m:Ze K Y B w1 (.oll T1) (g j):=Ze.ext W h;have E:=m.there;have P:Q7 Y (frF Y B<|g j):=Wm λb f=>(E b f).1
 have J:(QI C N).ok K (frF Y B<|g j) B w2 p:=(QI C N).mono (K:=K) (h.ff.trans P) (λb f=>by
  rw[YW<|dis b f];exact h.free (th b f).1 (th b f).2) (λb f=>by
  obtain⟨o,ho⟩:=Mu (th b f).2;rw[h.hh _ _ ho,ho]) s
 have bk:∀b,b∈a::p\/B b=none->b∈p\/H1 b=none:=λb f=>by
  rcases f with z|z
  .rcases Xe.mp z with rfl|z
   .exact .inr n
   .exact .inl z
  .exact .inr (h.hh.free z)
 refine⟨frF Y B<|g j,_,[u1,w1],a,p,[.fz d1,.fz<|.list<|T1.map PyData.list],ds,N,Ψ,xs,rfl,(k.ext h).kt.mono P,M5 h.fh,.fz (r1.mono<|h.ff.trans P)<|.fz (Ze.frz m rfl) .nil,J,na,by rw[YW O];exact fa,hx,rx.mono P,hR,λc H' p' A v' r qq hr D L t u hq=>?_⟩;obtain⟨tf,d,w,rfl,hf,U⟩:=T r A hr;have lr:∀b∈g j,∃xs,c b=some (.lst xs):=λb f=>by
  obtain⟨ys,Z⟩:=AL m b f;exact⟨ys,D.ff b _<|by rw[WV f];exact Z⟩
 have X:(QI C A).ok K (λb=>if b∈g j then none else c b) H' w2 p':=QI.thaw (λb o f no=>by
  have:b∉g j:=λz=>by
   obtain⟨ys,Z⟩:=lr b z;rw[Z]at f;cases f;exact no ys rfl
  simp only[Xb this];exact f) (λb f=>by
  show(if b∈g j then none else c b)=none
  split
  .rfl
  .exact f) tf L
 have ff:Q7 F1 (λb=>if b∈g j then none else c b):=λb o f=>by
  have:b∉g j:=λz=>by rw[(M b z).1]at f;cases f
  simp only[Xb this];exact D.ff b o (P b o<|h.ff b o f)
 obtain⟨X',S',_⟩:=fin (λb=>if b∈g j then none else c b) H' p' A ⟨λb o nb f=>D.hh b o (λz=>by
  rcases Xe.mp z with rfl|z
  .rw[n]at f;cases f
  .exact nb z)<|h.hh _ _ f,ff,λb o f=>by
  by_cases z:b∈g j
  .simp only[Xd z]at f;cases f
  .simp only[Xb z]at f;exact D.fh b o f,λb f=>by
  by_cases z:b∈g j
  .simp only[Xd z]at f;exact(f rfl).elim
  .simp only[Xb z]at f;rcases D.fr b f with y|y
   .rw[YW z]at y;exact(h.fr b y).imp id .inl
   .exact .inr (bk b y.symm).symm⟩ X (λb f=>bk b<|t b f)
 have ew:=u.2.flat hf;subst ew;exact q _ H' d v' _ U hf X' (l.ff.trans ff) S'
end
theorem L7{f:Qn}:∀{i:Nat},(∀j k,j<k->k<i->f j≠f k)->(firstMet f i).length=i
 |0,_=>rfl
 |i+1,h=>by
  have g:=L7 (i:=i) λj k a b=>h j k a (by lia)
  have e:(firstMet f i).any (· == f i)=false:=by
   rw[firstMet_any,List.any_eq_false];intro x m;obtain⟨j,n,rfl⟩:=XL.mp m;simpa using h j i (XH.mp n) (by lia)
  rw[firstMet_succ];unfold step_dedup;simp[e,g]
def phQ(a:Addr)(n:Nat):Heap->Prop:=λh=>∃o es b t,h.get? a=some o/\o.ExactSet/\o.data=.set es b t/\t.fits es.size=true/\es.size=n
def RW(X:Cx):List V->Hp->VK->Prop:=λxs H Q=>X.calm=true/\∃(x:V) (b:Ql),xs=[x]/\Rep H x (.list<|b.map PyData.int)/\b.length<=1000/\b.Pairwise (· ≠ ·)/\∀a,H a=none->Q (.ref a) (upd H a<|.ext<|phQ a b.length)
def RH:List V->Hp->VK->Prop:=λxs H Q=>∃(a:Addr) (n:Nat),xs=[.ref a]/\n<=1000/\H a=some (.ext<|phQ a n)/\Q (.int (n:Int)) H
def CV:ZW X (.type "set") (RW X):=by
 intro Xa7 s σ H xs l Q I r h;obtain⟨Y,x,ns,rfl,M,F,W,q⟩:=h;obtain⟨u,rfl,P⟩:=Yy r;cases M with
 |@lst a ys _ c R=>
  cases P;obtain⟨z,f,n,N,e⟩:=I.hok _ _ c;have d:ys=ns.map V.int:=UA R;have w:IntsAre f ns:=GE (by rw[<- d];exact N);have v:f.toArray.size=ns.length:=by rw[Xu,w.length]
  refine call_set_list (ns:=ns) (items:=f.toArray) (I.ok.hd Y) ⟨_,e,rfl,n,rfl⟩ (by simpa using w) (by rw[v];unfold scanBound;lia) λh' K y g=>?_
  rw[v,L7 (λj k a b=>by
   have:=List.pairwise_iff_getElem.mp W j k (by lia) b a;simpa [List.getD,b,show j<ns.length by lia] using this)]at y
  obtain⟨o,es,i,t,m,E,D,_,_,_,C,B⟩:=y;refine⟨.ref s.heap.objs.size,_,I.laid (t':=K) (a:=s.heap.objs.size) (o:=.ext (phQ s.heap.objs.size ns.length)) (λb u p=>g b u (Xk p) p) (Xq _) ⟨⟨o,es,i,t,m,E,D,C,B⟩,⟨o,m⟩,by rintro J G ⟨o,es,i,t,A,z⟩ k;exact⟨o,es,i,t,k _ A,z⟩⟩,rfl,q _<|I.hok.fresh<|Xq _⟩
def AI:ZW X (.builtin "len") RH:=by
 intro Xa7 s σ H xs v Q I r h;obtain⟨a,n,rfl,w,p,q⟩:=h;obtain⟨u,rfl,m⟩:=Yy r;cases m;obtain⟨⟨o,es,y,t,j,i,g,f,b⟩,_,_⟩:=I.hok _ _ p;exact call_len_set j i g f (by rw[b];lia) ⟨.int (n:Int),H,I.tok _,⟨_,by rw[b]⟩,q⟩
def Az{ns:Ql}(h:Qs K ta ρ (.list<|ns.map PyData.int))(j:X.calm=true)(f:ns.length<=1000)(i:ns.Pairwise (· ≠ ·)):Qs K (tCB RH<|QF (tCB (RW X)<|QF ta QM) QM) ρ (.int (ns.length:Int)):=λH0 F σ H Q S q=>
 h H0 F σ H _ S λn p v b g=>⟨j,v,ns,rfl,g.mono b.fh,f,i,λa m=>⟨a,_,rfl,f,QG,q n _ _ (b.trans<|Q0.own b.fh m)<|.int _⟩⟩
end L2
section
namespace My
open PySem L2 Mir
def zc(s:String):Lean.MacroM (Lean.TSyntax `tactic):=match s with
 |"d"=>`(tactic| dsimp only [List.set])
 |"e"=>`(tactic| dsimp only [List.set,Jr,List.map,W4])
 |"x"=>`(tactic| try dsimp only [Ab,Er])
 |"p"=>`(tactic| exact ⟨rfl,rfl,rfl,by decide +kernel,rfl,by decide +kernel,by decide +kernel⟩)
 |"j"=>`(tactic| first | decide | omega)
 |_=>Lean.Macro.throwUnsupported
local macro_rules|`(tactic| walk_at $s:str)=>zc s.getString
seal PA PE PI PS PSs PT PG
def top(i:Nat):Stmt:=PySem.Challenge.pw_chargeyard_k64_bounds_set.main.body.getD i (.Pass ⟨0,0,0,0⟩)
abbrev Na:Stmt:=top 8
abbrev NI:Stmt:=top 9
abbrev KS:Stmt:=top 10
abbrev N8:Stmt:=top 11
abbrev KZ:Stmt:=top 12
abbrev Nc:Stmt:=top 13
abbrev Nt:Stmt:=top 14
abbrev KY:Stmt:=top 15
abbrev Nj:Stmt:=top 16
abbrev K9:Stmt:=top 17
abbrev KF:Stmt:=top 18
abbrev K5:Stmt:=top 19
abbrev K6:Stmt:=top 20
abbrev Nx:Stmt:=top 21
abbrev NF:Stmt:=top 22
abbrev Nr:Stmt:=top 23
abbrev No:Stmt:=top 28
abbrev Nz:Stmt:=top 29
abbrev N3:Stmt:=top 30
abbrev Ni:Stmt:=top 31
abbrev Nv:Stmt:=top 32
abbrev MU:Stmt:=top 33
abbrev Ds:Stmt:=top 34
abbrev Dn:Stmt:=top 35
abbrev Dq:Stmt:=top 37
abbrev Nn:Stmt:=top 38
abbrev Di:Stmt:=top 39
abbrev MW:Stmt:=top 40
abbrev NG:Stmt:=top 42
abbrev NA:Stmt:=top 43
abbrev NC:Stmt:=top 44
abbrev NE:Stmt:=top 48
abbrev KO:Stmt:=top 49
abbrev Nq:Stmt:=top 50
abbrev N0:Stmt:=top 51
abbrev Dd:Stmt:=top 52
abbrev N9:Stmt:=top 53
abbrev Db:Stmt:=top 54
abbrev Np:Stmt:=top 55
abbrev BN:Stmt:=top 56
abbrev BH:Stmt:=top 57
abbrev Nb:Stmt:=top 58
abbrev KU:Stmt:=top 59
abbrev NK:Stmt:=top 60
abbrev De:Stmt:=top 61
abbrev WR:Stmt:=top 62
abbrev GI:Stmt:=VG (top 4) 0
abbrev GJ:Stmt:=VG (top 27) 0
abbrev KC:Stmt:=VG (top 27) 1
abbrev NB:Stmt:=VG (top 27) 2
abbrev Nh:Stmt:=VG (top 27) 3
abbrev N7:Stmt:=VG (top 27) 4
abbrev MT:Stmt:=VG (top 27) 5
abbrev Nk:Stmt:=VG (top 27) 6
abbrev Nu:Stmt:=VG (top 27) 7
abbrev GH:Stmt:=VG (top 46) 0
abbrev Nf:Stmt:=VG (top 46) 1
abbrev KQ:Stmt:=VG (top 46) 2
abbrev KR:Stmt:=VG (top 46) 3
abbrev Nw:Stmt:=VG (top 46) 6
abbrev Dl:Stmt:=VG (top 46) 7
abbrev N6:Stmt:=VG (top 46) 10
abbrev NJ:Stmt:=VG (top 46) 11
abbrev NH:Stmt:=VG (top 46) 12
abbrev NL:Stmt:=VG (top 46) 13
structure Bl(mg:Str->Qf):Prop where
 abs:mg "abs"=none
 len:mg "len"=none
 max:mg "max"=none
 min:mg "min"=none
 sum:mg "sum"=none
 any:mg "any"=none
 all:mg "all"=none
 isi:mg "isinstance"=none
 int:mg "int"=none
 bool:mg "bool"=none
 list:mg "list"=none
 tuple:mg "tuple"=none
 range:mg "range"=none
 zip:mg "zip"=none
 enumerate:mg "enumerate"=none
 dict:mg "dict"=none
 ValueError:mg "ValueError"=none
 sorted:mg "sorted"=none
 set:mg "set"=none
structure Tx(K:W.Frag)(mg:Str->Qf)(C gS gE:Addr):Prop where
 net:NetC K C
 mSTART:mg "START"=some (.ref gS)
 mEND:mg "END"=some (.ref gE)
 aS:W.nsIn K mainGlobals "START"=some (some<|.ref gS)
 aE:W.nsIn K mainGlobals "END"=some (some<|.ref gE)
noncomputable def upD:Option Nat->PyData
 |none=>.none
 |some a=>.int (a:Int)
def Zs(l:Ln):PyData:=.tuple [upD l.up,.tuple<|l.bs.map PyData.int]
def QJ(y:Yd):PyData:=.tuple [.int (y.T:Int),.tuple<|y.ls.map Zs]
def Za(l:Qk):Qd:=l.map λ(j:Nat)=>PyData.int (j:Int)
def cdl{i j:Int}(b:0<j)(a:j<=10^60):Gb i j:=⟨b,Int.lt_of_le_of_lt a<|by decide +kernel⟩
def Be{j:Int}(h0:0<=j)(a:j<=1000000):NW 10 j:=⟨h0,a,by decide⟩
def z60:(10:Int)^60=1000000000000000000000000000000000000000000000000000000000000:=by decide +kernel
def DB{i j:Int}(b:0<j)(a:j<=1000000000000000000000000000000000000000000000000000000000000):Gb i j:=cdl b (by rw[z60];exact a)
def Fc{a:Type}[Inhabited a]{f:a->PyData}{xs:List a}{k:Int}(h0:0<=k)(g:k<(xs.length:Int)):atI (xs.map f) k=some (f<|xs.getD k.toNat default):=by
 have h:k.toNat<xs.length:=by lia
 have e:(xs.map f)[k.toNat]?=some (f<|xs.getD k.toNat default):=by simp[h]
 have b:=Vm e;rwa [X5 h0]at b
def HC{xs:Ql}{k:Int}(h0:0<=k)(b:k<(xs.length:Int)):atI (xs.map PyData.int) k=some (.int<|xs.getD k.toNat 0):=by
 have h:k.toNat<xs.length:=by lia
 have e:(xs.map PyData.int)[k.toNat]?=some (.int<|xs.getD k.toNat 0):=by simp[h]
 have a:=Vm e;rwa [X5 h0]at a
def Fi{xs:Ql}(h0:0<=k)(b:k<(xs.length:Int)):atI xs k=some (xs.getD k.toNat 0):=by
 have h:k.toNat<xs.length:=by lia
 have e:xs[k.toNat]?=some (xs.getD k.toNat 0):=by simp[h]
 have a:=Vm e;rwa [X5 h0]at a
def Wl{f:Nat->PyData}{k:Int}(h0:0<=k)(b:k<(n:Int)):atI ((List.range n).map f) k=some (f k.toNat):=by
 have h:k.toNat<n:=by lia
 have e:((List.range n).map f)[k.toNat]?=some (f k.toNat):=by simp[h]
 have a:=Vm e;rwa [X5 h0]at a
def Jt(h0:0<=k)(a:k<(n:Int)):ixN n k=some k.toNat:=by
 unfold ixN;rw[Xd h0,Xd a]
instance:Inhabited Ln:=⟨⟨none,[]⟩⟩
def QV(g:Gs):PyData:=.tuple [.int (g.line:Int),.int (g.first:Int),.int (g.last:Int),.int g.want,.int g.most]
instance:Inhabited Gs:=⟨⟨0,0,0,1,1⟩⟩
def L5{m:Nat}(h:∀d∈ds,d.canLay0=true/\d.depth<=m):PyData.canLayAll0 ds=true/\PyData.depthAll ds<=m:=by
 induction ds with
 |nil=>exact⟨rfl,XQ _⟩
 |cons d ds f=>
  obtain⟨a,b⟩:=h d Xc;obtain⟨c,e⟩:=f λx g=>h x (Xi _ g);refine⟨by rw[PyData.canLayAll0,a,c];rfl,?_⟩;rw[PyData.depthAll];lia
def VT(m:Nat)(d:PyData):Prop:=d.canLay0=true/\d.depth<=m
def VT.fine{m:Nat}(h:VT m d)(a:m<=60):VS d:=⟨h.1,X0 h.2 a⟩
def ME{m:Nat}(h:∀d∈ds,VT m d):VT (m+1) (.tuple ds):=by
 obtain⟨a,b⟩:=L5 h;refine⟨by rw[PyData.canLay0];exact a,?_⟩;rw[PyData.depth];lia
def Pn{m:Nat}(h:∀d∈ds,VT m d):VT (m+1) (.list ds):=by
 obtain⟨a,b⟩:=L5 h;refine⟨by rw[PyData.canLay0];exact a,?_⟩;rw[PyData.depth];lia
def Hy(i:Int)(m:Nat):VT m (.int i):=⟨rfl,XQ _⟩
def DZ{a:Type}{f:a->PyData}{xs:List a}{m:Nat}(h:∀x,VT m<|f x):∀d∈xs.map f,VT m d:=λd b=>by
 obtain⟨x,_,rfl⟩:=XL.mp b;exact h x
def Hm{m:Nat}:∀d∈([]:Qd),VT m d:=λd a=>(nomatch a)
def Bw{m:Nat}(h:VT m d)(b:∀d∈ds,VT m d):∀x∈d::ds,VT m x:=λx a=>by
 rcases Xe.mp a with rfl|a
 .exact h
 .exact b x a
def LZ(o:Option Nat)(m:Nat):VT m (upD o):=by cases o<;>exact⟨rfl,XQ _⟩
def Fo(l:Ln):VT 2 (Zs l):=ME (Bw (LZ _ _)<|Bw (ME (m:=0)<|DZ λi=>Hy i 0) Hm)
def Fa(y:Yd):VT 4 (QJ y):=ME (Bw (Hy _ _)<|Bw (ME<|DZ Fo) Hm)
def CS(l:Qk):VT 1 (.list<|Za l):=Pn (DZ λj=>Hy _ 0)
def W8(y:Yd):VS (QJ y):=(Fa y).fine (by decide)
def Pi(l:Qk):VS (.list<|Za l):=(CS l).fine (by decide)
def Gj{a:Type}(xs:List a)(k:Nat)(b:k<=xs.length):cut xs (some (k:Int)) none=xs.drop k:=by
 unfold cut;rw[HT.sIx_nat,Nat.min_eq_left b];show(xs.drop k).take (xs.length-k)=_;rw[<- GN,Ji]
def WY{a:Type}(xs:List a)(k:Nat)(b:k<=xs.length):cut xs none (some (k:Int))=xs.take k:=by
 unfold cut;rw[HT.sIx_nat,Nat.min_eq_left b];rfl
def DE(w:String):Lean.MacroM (Lean.TSyntax `tactic):=do
 let n:=Lean.mkIdent (w.drop 1).toString.toName
 match w.front with
 |'@' => `(tactic| with_reducible apply $n)
 |'!' => `(tactic| with_reducible exact $n)
 |'~' => `(tactic| apply $n)
 |_ => `(tactic| walk_at $(Lean.Syntax.mkStrLit w))
def V7(s:String):Lean.MacroM (Lean.TSyntax `tactic):=do
 let l ← (s.splitOn "|").mapM λa=>do
  match a.splitOn "<" with
  |[x,z] => `(tactic| ($(← DE x):tactic <;> $(← DE z):tactic))
  |_=>
   let ts ← (a.splitOn " ").mapM DE
   `(tactic| ($[$ts.toArray:tactic];*))
 `(tactic| first $[| $l.toArray:tactic]*)
def zd(s:String):Lean.MacroM (Lean.TSyntax `tactic):=match s with
 |"rfl"=>`(tactic| rfl)
 |"hc"=>`(tactic| intro hc)
 |"ls"=>`(tactic| dsimp only [List.set])
 |"om"=>`(tactic| first | lia | lia)
 |"asm"=>`(tactic| with_reducible assumption)
 |"ble"=>`(tactic| first | with_reducible rfl | decide | exact Nat.le_of_ble_eq_true rfl)
 |"smo"=>`(tactic| (focus (simp; (first | done | walk_at "om"))))
 |"dso"=>`(tactic| (focus (dsimp only; walk_at "om")))
 |"r4"=>`(tactic| (refine ⟨?_,?_,?_,?_⟩ <;> walk_at "r62"))
 |"r62"=>`(tactic| (rw [z62]; walk_at "side"))
 |"ss"=>`(tactic| repeat walk_at "s1")
 |"call"=>`(tactic| (constructor <;> walk_at "side"))
 |"rg"=>`(tactic| first | with_reducible rfl | (apply WE <;> walk_at "rs") | (apply KB <;> walk_at "rs"))
 |"rs"=>V7 "om|smo"
 |"side"=>V7 "om|asm|ble|smo"
 |"arith"=>V7 "om|asm|ble|smo"
 |"ev"=>V7 "@Qq rfl|!Q6|!UY|!Gh|!VE|@Z7 ev ev|@Vh ev ev|@ZK ev ev cond|@LP ev|@Js ev ev|@R6 ev|@RY ev|@B3 ev ev ev|@Jy ev hc ev|@RF ev|@Wi rfl ev item|@Fu rfl ev item|@ZS evd ev item|@VL evd ev item|@VV eas side|@Zb ea call|@FT ea call|@RX ev ev|@Hb ev ev|@RV ev|@Uz ev rfl|@FS rfl|@Fh rfl|@Gu evd|@J5 evd|@Hq rfl|@RU evd|@U5 evd evd side|@WS ev ev fine fine|@RJ ev ev fine fine|@Md ev rfl|@EvO.fz eo"
 |"evd"=>V7 "~Qq rfl|ev|@EvO.fz eo"
 |"ea"=>V7 "!QA|@Uv rfl ea|@Qv ev ea"
 |"ep"=>V7 "!U6|@U1 ev"
 |"eas"=>V7 "~Z9|~QY ev eas"
 |"eo"=>V7 "@V4 eas side|@Mm ea call|@HD evd|@R3 evd evd side"
 |"et"=>V7 "!RC|@ZA ev|@ZJ ev|@Wz et hc et|@Ga et hc et|@Y0 et"
 |"g"=>V7 "!Zq|!WT|@V5 g g|@WQ g rfl|~WQ g rfl"
 |"ei"=>V7 "@Y3 ea r62 r62|@HZ ea r4|@FX ea r4|@Bv ea|@Ja evd|@Ry evd"
 |"s1"=>V7 "@QK s1|@VW eo ls|@ZD ev ls|@Me ev g ls|@UD rfl ev side ls|@U7 rfl ev ev item ls"
 |"ret"=>V7 "@Mt rfl|@ZZ evd|@Uu eo"
 |"if"=>V7 "@QK if|@Zt et"
 |"eir"=>V7 "~EvI.cast ei rg"
 |"item"=>V7 "rfl|asm|@HC<arith|@Fi<arith|@Wl<arith|@Jt<arith|~Fc<arith"
 |"cond"=>V7 "asm|@DB<om|@Be<om|om|dso"
 |"fine"=>V7 "~W8|~Pi"
 |_=>Lean.Macro.throwUnsupported
local macro_rules|`(tactic| walk_at $s:str)=>zd s.getString
section
variable {base:Heap}{gS gE YR CR fR CH cg ct q1 q2 q3:Addr}
inductive R_cell:List OT->OT->Prop
 |mk {ns:Ql}{k:Int}(h:0<=k):R_cell [.scr ns,.fz<|.int k] (.fz<|.int<|YQ ns k)
def Zhw:Qp ZaF ZaF (Q4 NE):=by walk_at"p"
def Aw(T:Bl mg)(D:Df K mg "_law_cell_at" NE ZaF):QE P w K mg base "_law_cell_at" ZaF 1 (QL (K:=K) R_cell):=by
 refine D.ev Zhw (λts r h=>by cases h;rfl) (λ_ _ _ _ s H E ts r b h=>?_);cases h with
 |@mk a k f=>
  refine⟨_,(Qz (Zo (ZG Wf (pv 1) (Zx V1 (by rfl) T.len Vx<|Qo (pv 0) Qr)<|Zy _) (Q2<|QT<|QC QD (pv 0)<|pv 1) Zp)
 (Q2<|QT Qw)),?_⟩
  show Q3 K _ [_,_] _
  walk_at"x";walk_at"if"
  .
   intro c;have c:=XW c;walk_at"ret";rfl
  .
   intro c;have c:=JO c;refine Zz ?_;walk_at"ret";have e:YQ a k=0:=by
    have:a.length<=k.toNat:=by lia
    simp[YQ,List.getD,this]
   rw[e]
def QU(y:Yd)(k:Nat):Ln:=y.ls.getD k default
def upN(y:Yd)(k:Nat):Nat:=(Zc y k).getD 0
def MP{y:Yd}(h:k<y.ls.length):Zc y k=(QU y k).up:=by simp[Zc,QU,h]
def MZ{y:Yd}(h:k<y.ls.length):Z3 y k t=(QU y k).bs.getD t 0:=by simp[Z3,QU,h]
def UB{y:Yd}(a:y.Ok)(h:k<y.ls.length):(QU y k).bs.length=y.T:=a.bl _ (by simp[QU,h])
inductive R_turns:List OT->OT->Prop
 |mk {y:Yd}:R_turns [.fz<|QJ y] (.fz<|.int (y.T:Int))
def Zk1:Qp ZaI ZaI (Q4 Nc):=by walk_at"p"
def Iv(T:Bl mg)(D:Df K mg "turns_of" Nc ZaI):QE P w K mg base "turns_of" ZaI 1 (QL (K:=K) R_turns):=by
 refine D.ev Zk1 (λts r h=>by cases h;rfl) (λ_ _ _ _ s H E ts r a h=>?_);cases h with
 |@mk y=>
  refine⟨_,(Q2<|QT<|QC QD (pv 0) Qw),?_⟩;show Q3 K _ [_] _
  walk_at"x";walk_at"ret";rfl
inductive R_count:List OT->OT->Prop
 |mk {y:Yd}:R_count [.fz<|QJ y] (.fz<|.int (y.ls.length:Int))
def Ziy:Qp ZaI ZaI (Q4 Nt):=by walk_at"p"
def Io(T:Bl mg)(D:Df K mg "line_count" Nt ZaI):QE P w K mg base "line_count" ZaI 1 (QL (K:=K) R_count):=by
 refine D.ev Ziy (λts r h=>by cases h;rfl) (λ_ _ _ _ s H E ts r a h=>?_);cases h with
 |@mk y=>
  refine⟨_,(Q2<|QT<|Zx V1 (by rfl) T.len Vx<|Qo (QC QD (pv 0) Qw) Qr),?_⟩;show Q3 K _ [_] _
  walk_at"x";walk_at"ret";show _=_;rw[Xl]
inductive R_above:List OT->OT->Prop
 |mk {y:Yd}{k:Int}(ok:y.Ok)(h0:0<k)(h1:k<(y.ls.length:Int)):R_above [.fz<|QJ y,.fz<|.int k] (.fz<|.int (upN y k.toNat:Int))
 |zero {y:Yd}(ok:y.Ok):R_above [.fz<|QJ y,.fz<|.int 0] (.fz .none)
def ZkF:Qp ZaJ ZaJ (Q4 KY):=by walk_at"p"
def IJ(T:Bl mg)(D:Df K mg "above_of" KY ZaJ):QE P w K mg base "above_of" ZaJ 1 (QL (K:=K) R_above):=by
 refine D.ev ZkF (λts r h=>by cases h<;>rfl) (λ_ _ _ _ s H E ts r i h=>?_);cases h with
 |@mk y k b m j=>
  refine⟨_,(Q2<|QT<|QC QD (QC QD (QC QD (pv 0) Qw)<|pv 1) Qw),?_⟩;show Q3 K _ [_,_] _
  walk_at"x";walk_at"ret";obtain⟨a,e,l⟩:=b.ups k.toNat (by lia) (by lia);have f:(QU y k.toNat).up=some a:=by rw[<- MP (by lia)];exact e
  show OT.fz (upD (QU y k.toNat).up)=_;rw[f];simp[upN,e,upD]
 |@zero y b=>
  refine⟨_,(Q2<|QT<|QC QD (QC QD (QC QD (pv 0) Qw)<|pv 1) Qw),?_⟩;show Q3 K _ [_,_] _
  walk_at"x";have g:=b.l1;walk_at"ret";have f:(QU y 0).up=none:=by rw[<- MP (by lia)];exact b.up0
  show OT.fz (upD (QU y 0).up)=_;rw[f];rfl
inductive R_bound:List OT->OT->Prop
 |mk {y:Yd}{k t:Int}(ok:y.Ok)(h0:0<=k)(h1:k<(y.ls.length:Int))(h2:0<=t)(h3:t<(y.T:Int)):R_bound [.fz<|QJ y,.fz<|.int k,.fz<|.int t] (.fz<|.int<|Z3 y k.toNat t.toNat)
def Zlw:Qp ZaB ZaB (Q4 Nj):=by walk_at"p"
def Oi(T:Bl mg)(D:Df K mg "bound_at" Nj ZaB):QE P w K mg base "bound_at" ZaB 1 (QL (K:=K) R_bound):=by
 refine D.ev Zlw (λts r h=>by cases h;rfl) (λ_ _ _ _ s H E ts r b h=>?_);cases h with
 |@mk y k t a m j i g=>
  refine⟨_,(Q2<|QT<|QC QD (QC QD (QC QD (QC QD (pv 0) Qw)<|pv 1) Qw)<|pv 2),?_⟩;show Q3 K _ [_,_,_] _
  walk_at"x";have f:(y.ls.getD k.toNat default).bs.length=y.T:=UB a (by lia);walk_at"ret";show _=_;rw[MZ<|by lia];rfl
inductive R_lineof:List OT->OT->Prop
 |mk {g:Gs}:R_lineof [.fz<|QV g] (.fz<|.int (g.line:Int))
def ZmM:Qp ZaD ZaD (Q4 K9):=by walk_at"p"
def ZnQ(T:Bl mg)(D:Df K mg "line_of" K9 ZaD):QE P w K mg base "line_of" ZaD 1 (QL (K:=K) R_lineof):=by
 refine D.ev ZmM (λts r h=>by cases h;rfl) (λ_ _ _ _ s H E ts r a h=>?_);cases h with
 |@mk g=>
  refine⟨_,(Q2<|QT<|QC QD (pv 0) Qw),?_⟩;show Q3 K _ [_] _
  walk_at"x";walk_at"ret";rfl
inductive R_there:List OT->OT->Prop
 |mk {g:Gs}{t:Int}:R_there [.fz<|QV g,.fz<|.int t] (.fz<|.bool<|Vn g t)
def Zla:Qp Zaw Zaw (Q4 KF):=by walk_at"p"
def Iw(T:Bl mg)(D:Df K mg "is_there" KF Zaw):QE P w K mg base "is_there" Zaw 1 (QL (K:=K) R_there):=by
 refine D.ev Zla (λts r h=>by cases h;rfl) (λ_ _ _ _ s H E ts r a h=>?_);cases h with
 |@mk g t=>
  refine⟨_,(Q2<|QT<|PU Uo Uo (QC QD (pv 0) Qw) (pv 1)<|QC QD (pv 0) Qw),?_⟩;show Q3 K _ [_,_] _
  walk_at"x";walk_at"ret";rfl
inductive R_most:List OT->OT->Prop
 |mk {g:Gs}:R_most [.fz<|QV g] (.fz<|.int g.most)
def Zmw:Qp ZaD ZaD (Q4 K6):=by walk_at"p"
def AA(T:Bl mg)(D:Df K mg "most_of" K6 ZaD):QE P w K mg base "most_of" ZaD 1 (QL (K:=K) R_most):=by
 refine D.ev Zmw (λts r h=>by cases h;rfl) (λ_ _ _ _ s H E ts r a h=>?_);cases h with
 |@mk g=>
  refine⟨_,(Q2<|QT<|QC QD (pv 0) Qw),?_⟩;show Q3 K _ [_] _
  walk_at"x";walk_at"ret";rfl
inductive R_want:List OT->OT->Prop
 |mk {g:Gs}:R_want [.fz<|QV g] (.fz<|.int g.want)
def ZmN:Qp ZaD ZaD (Q4 K5):=by walk_at"p"
def CL(T:Bl mg)(D:Df K mg "want_of" K5 ZaD):QE P w K mg base "want_of" ZaD 1 (QL (K:=K) R_want):=by
 refine D.ev ZmN (λts r h=>by cases h;rfl) (λ_ _ _ _ s H E ts r a h=>?_);cases h with
 |@mk g=>
  refine⟨_,(Q2<|QT<|QC QD (pv 0) Qw),?_⟩;show Q3 K _ [_] _
  walk_at"x";walk_at"ret";rfl
structure SetOk(gs:List Gs)(some:Qk):Prop where
 mem:∀k∈some,k<gs.length
 len:some.length<=8
def W0(gs:List Gs)(t:Nat)(a:Qk):Qn:=λl=>Zw gs (t:Int) l a
def Go(y:Yd)(gs:List Gs)(a:Qk)(t:Nat):Ql:=(List.range y.ls.length).map λl=>V0 y (λk=>Z3 y k t) (W0 gs t a) l
inductive R_reaching:List OT->OT->Prop
 |mk {y:Yd}{gs:List Gs}{sm:Qk}{t:Int}(ok:y.Ok)(hg:∀g∈gs,g.line<y.ls.length)(hs:SetOk gs sm)(h0:0<=t)(h1:t<(y.T:Int)):
  R_reaching [.fz<|QJ y,.fz<|.list<|gs.map QV,.fz<|.list<|Za sm,.fz<|.int t] (.ol<|(Go y gs sm t.toNat).map PyData.int)
def U9{f g:Qn}(b:j<n)(e1:∀l,l<n->l≠j->g l=f l){v:Int}(m:g j=v):
 (((List.range n).map λl=>PyData.int<|f l).set j (.int v))=(List.range n).map λl=>PyData.int (g l):=by
 apply List.ext_getElem?;intro i;by_cases a:i=j
 .subst a;rw[Xm<|by simpa using b];simp[b,m]
 .rw[Xt<|Ne.symm a]
  by_cases h:i<n
  .simp[h,e1 i h a]
  .simp[h]
def BK:Qp ZaC Zaf (Q4 Dq):=by walk_at"p"
def Zle(T:Bl mg)(D:Df K mg "reaching_at" Dq Zaf)(v:QE P w K mg base "line_count" ZaI 1 (QL (K:=K) R_count))(q:QE P w K mg base "is_there" Zaw 1 (QL (K:=K) R_there))
(F:QE P w K mg base "line_of" ZaD 1 (QL (K:=K) R_lineof))(o:QE P w K mg base "most_of" ZaD 1 (QL (K:=K) R_most))(u:QE P w K mg base "above_of" ZaJ 1 (QL (K:=K) R_above))
(G:QE P w K mg base "bound_at" ZaB 1 (QL (K:=K) R_bound)):QE P w K mg base "reaching_at" Zaf 2 (QL (K:=K) R_reaching):=by
 refine D.ev BK (λts r h=>by cases h;rfl) (λ_ _ _ _ s H E ts r j h=>?_);cases h with
 |@mk y g b t R S J U h1=>
  refine⟨_,(Qz (Tc (i:=4) BK.nd rfl rfl (NX:=ZaC) (sc:=Q4 Dq) (N:=["line"]) (f:=[none]) rfl (by decide +kernel) rfl rfl (Ys rfl T.range<|Qo (QH v j<|Qo (pv 0) Qr) Qr) (λ_=>(Zh (i:=0) (show(["line"]:Qh).Nodup by decide +kernel) rfl Qa)) (λ_=>Ym) (λ_=>J1) (λ_=>Qw) rfl)
 (Qz (Vc zN rfl (by exact(W9<|pv 2)) (Zh (i:=5) BK.nd rfl Qa) (by exact(Qz (QO (i:=6) BK.nd rfl Qa<|QC QD (pv 1)<|pv 5)
 (Q2<|Zo (ZF<|QH q j<|Qo (pv 6)<|Qo (pv 3) Qr) (Q2<|Gx (pv 4) (QH F j<|Qo (pv 6) Qr) G7 (QH o j<|Qo (pv 6) Qr) Bq Yk) Zp))))
 (Qz (Vc zN rfl (by exact(KJ rfl T.range<|Qo (QP Y1 (QH v j<|Qo (pv 0) Qr) Qw)<|Qo Qw<|Qo (Bg Bk Qw) Qr)) (Zh (i:=7) BK.nd rfl Qa)<|by exact(Q2<|Gx (pv 4) (QH u j<|Qo (pv 0)<|Qo (pv 7) Qr) G7 (Zx (Mj rfl) (by rfl) T.min Bo<|Qo (QC QD (pv 4)<|pv 7)<|Qo (QH G j<|Qo (pv 0)<|Qo (pv 7)<|Qo (pv 3) Qr) Qr) Bq Yk))
 (Q2<|QT<|pv 4)))),?_⟩
  show Q3 K _ [_,_,_,_,_,_,_,_] _
  walk_at"x";have l1:=R.l1;have l5:=R.l5;have n8:=J.len;refine QK (VW (Hk (lo:=0) (n:=y.ls.length) (h:=λ_=>.int 0) ?ei (by lia) ?el) ?_)
  case ei=>walk_at"eir"
  case el=>
   intro x hx c;exact⟨_,by walk_at"g",by walk_at"ev"⟩
  walk_at"d";refine QK (B0 (λi=>[zf<|QJ y,zf<|.list<|g.map QV,zf<|.list<|Za b,zi t,some<|.ol<|(List.range y.ls.length).map λl=>PyData.int<|Zw g t l<|b.take i,none,none,none]) (by walk_at"ei") ⟨rfl,rfl,rfl,rfl,rfl,trivial⟩ ?st ?fin)
  case st=>
   intro i d B;have A:i<b.length:=by
    have:=(Xf.mp B).1;simpa [Za] using this
   obtain rfl:d=.int ((b[i]:Nat):Int):=by simpa [Za,A] using B.symm
   have p:b[i]<g.length:=J.mem _ (XX A);refine⟨_,by walk_at"g",?_⟩;walk_at"d";walk_at"s1";have Z:g.getD ((b[i]:Nat):Int).toNat default=g[b[i]]:=by simp[p]
   rw[Z];have Y:=S g[b[i]] (XX p);have gl:=Y;have M:b.take (i+1)=b.take i++[b[i]]:=by rw[JT];simp[A]
   refine Zt (by walk_at"et") (λc=>?_) (λc=>?_)
   .refine Ph (m:=Zw g t g[b[i]].line (b.take i)) rfl (by walk_at"ev") (by lia) ?_ (by walk_at"ev") ?_
    .simp[gl]
    .walk_at"d";refine⟨rfl,rfl,rfl,rfl,?_,trivial⟩;rw[Xo];congr 2;refine U9 gl (λl O W=>?_) ?_
     .rw[M,UF];simp[Zw,p,Ne.symm W]
     .rw[M,UF];simp[Zw,p,c]
   .refine Zz ⟨rfl,rfl,rfl,rfl,?_,trivial⟩;refine X9 (λz=>some<|OT.ol z) (WK λl _=>?_);rw[M,UF];simp[Zw,p,c]
  case fin=>
   intro C X;refine Bm X ?_;have el:(Za b).length=b.length:=by simp[Za]
   rw[el,Ji];refine QK (B0 (λi=>[zf<|QJ y,zf<|.list<|g.map QV,zf<|.list<|Za b,zi t,some<|.ol<|(List.range y.ls.length).map λl=>PyData.int<|ZX y (λk=>Z3 y k t.toNat) (λl=>Zw g t l b) i l,none,none,none]) (by walk_at"ei") ⟨rfl,rfl,rfl,rfl,rfl,trivial⟩ ?st2 ?fin2)
   case st2=>
    intro i d B;obtain⟨A,rfl⟩:=MM B;have Q:i<y.ls.length-1:=by lia
    refine⟨_,by walk_at"g",?_⟩;walk_at"d";have L:((y.ls.length:Int)-1-(i:Int)).toNat=y.ls.length-1-i:=by lia
    obtain⟨a,e,la⟩:=R.ups (y.ls.length-1-i) (by lia) (by lia);have I:upN y ((y.ls.length:Int)-1-(i:Int)).toNat=a:=by rw[L];simp[upN,e]
    refine Ph (m:=ZX y (λk=>Z3 y k t.toNat) (λl=>Zw g t l b) i a) rfl (by walk_at"ev") (by lia) ?_ (by walk_at"ev") ?_
    .rw[I,Xo];have:a<y.ls.length:=by lia
     simp[this]
    .walk_at"d";refine⟨rfl,rfl,rfl,rfl,?_,trivial⟩;rw[I,Xo];refine X9 (λz=>some<|OT.ol z) (U9 (by lia) (λl O W=>?_) ?_)
     .simp only[ZX,Ww];rw[e,Xb<|by simpa using λz=>W z.symm];lia
     .simp only[ZX,Ww];rw[e,Xd rfl,L]
   case fin2=>
    intro C X;refine Bm X ?_;walk_at"ret";show _=_;have e2:(Wv ((y.ls.length:Int)-1) ((y.ls.length:Int)-1-0).toNat).length=y.ls.length-1:=by rw[Ky];lia
    rw[e2];unfold Go V0 W0;rw[X5 U,X7];rfl
def ZmK(y:Yd)(gs:List Gs)(a:Qk)(t:Nat):(Go y gs a t).length=y.ls.length:=by simp[Go]
def ZnW{y:Yd}(h:l<y.ls.length):(Go y gs sm t).getD l 0=V0 y (λk=>Z3 y k t) (W0 gs t sm) l:=by simp[Go,List.getD,h]
def ZH(y:Yd)(gs:List Gs)(a:Qk)(t:Nat):Int:=passes y (λk=>Z3 y k t) (W0 gs t a) 0
def BF(y:Yd)(gs:List Gs)(a:Qk):Int:=((List.range y.T).map λt=>ZH y gs a t).sum
def ZQ(f:Qn)(i:Nat):Int:=((List.range i).map f).sum
def GD(f:Qn)(i:Nat):ZQ f (i+1)=ZQ f i+f i:=by simp[ZQ,YL]
def Mq{y:Yd}(b:y.Ok)(k t:Nat):0<=Z3 y k t:=by
 unfold Z3;cases e:y.ls[k]? with
 |none=>simp
 |some a=>
  have:=b.bb a (List.mem_of_getElem? e);simp only[Wa,Option.getD_some];by_cases h:t<a.bs.length
  .have f:=this (a.bs[t]) (XX h);simp only[List.getD,XS h,Option.getD_some];exact f.1
  .simp[List.getD,h]
inductive R_given:List OT->OT->Prop
 |mk {y:Yd}{gs:List Gs}{sm:Qk}{t:Int}(ok:y.Ok)(hg:∀g∈gs,g.line<y.ls.length)(hs:SetOk gs sm)(h0:0<=t)(h1:t<(y.T:Int)):
  R_given [.fz<|QJ y,.fz<|.list<|gs.map QV,.fz<|.list<|Za sm,.fz<|.int t] (.fz<|.int<|ZH y gs sm t.toNat)
def Zk9:Qp Zaf Zaf (Q4 Nn):=by walk_at"p"
def Il(T:Bl mg)(D:Df K mg "given_at" Nn Zaf)(b:QE P w K mg base "reaching_at" Zaf 2 (QL (K:=K) R_reaching))(a:QE P w K mg base "bound_at" ZaB 1 (QL (K:=K) R_bound)):
 QE P w K mg base "given_at" Zaf 3 (QL (K:=K) R_given):=by
 refine D.ev Zk9 (λts r h=>by cases h;rfl) (λ_ _ _ _ s H E ts r f h=>?_);cases h with
 |@mk y j g t i v p B A=>
  refine⟨_,(Q2<|QT<|Zx (Mj rfl) (by rfl) T.min Bo<|Qo (QC QD (QH b f<|Qo (pv 0)<|Qo (pv 1)<|Qo (pv 2)<|Qo (pv 3) Qr) Qw)<|Qo (QH a f<|Qo (pv 0)<|Qo Qw<|Qo (pv 3) Qr) Qr),?_⟩;show Q3 K _ [_,_,_,_] _
  walk_at"x";have n:=i.l1;have m:=ZmK y j g t.toNat
  walk_at"ret";show _=_;rw[show(0:Int).toNat=0 from rfl,ZnW<|by lia];rfl
inductive R_givenm:List OT->OT->Prop
 |mk {y:Yd}{gs:List Gs}{sm:Qk}(ok:y.Ok)(hg:∀g∈gs,g.line<y.ls.length)(hs:SetOk gs sm):
  R_givenm [.fz<|QJ y,.fz<|.list<|gs.map QV,.fz<|.list<|Za sm] (.fz<|.int<|BF y gs sm)
def ZiO:Qp Zad Zad (Q4 Di):=by walk_at"p"
def OU(T:Bl mg)(D:Df K mg "given_most" Di Zad)(g:QE P w K mg base "turns_of" ZaI 1 (QL (K:=K) R_turns))(j:QE P w K mg base "given_at" Zaf 3 (QL (K:=K) R_given)):
 QE P w K mg base "given_most" Zad 4 (QL (K:=K) R_givenm):=by
 refine D.ev ZiO (λts r h=>by cases h;rfl) (λ_ _ _ _ s H E ts r p h=>?_);cases h with
 |@mk y b a m A v=>
  refine⟨_,(Q2<|QT<|Zx HA (by rfl) T.sum Hg<|Qo (Wy (NX:=Zad) (sc:=Q4 Di) (N:=["turn","yard","guests","some"]) (f:=[none,some 0,some 1,some 2]) rfl (by decide +kernel) rfl rfl (Ys rfl T.range<|Qo (QH g p<|Qo (pv 0) Qr) Qr) (λ_=>(Zh (i:=0) (show(["turn","yard","guests","some"]:Qh).Nodup by decide +kernel) rfl Qa)) (λ_=>Ym) (λ_=>J1) λ_=>(QH j p<|Qo (pv 1)<|Qo (pv 2)<|Qo (pv 3)<|Qo (pv 0) Qr)) Qr),?_⟩;show Q3 K _ [_,_,_] _
  walk_at"x";have B:=m.t8;refine ZZ (Md (ns:=(List.range y.T).map λt=>ZH y b a t) ?_ rfl) rfl;refine EvO.fz ?_;rw[X7];refine Hk (lo:=0) (n:=y.T) ?_ (by lia) ?_
  .walk_at"eir"
  .intro x C c;refine⟨_,by walk_at"g",?_⟩;walk_at"e";rw[YK];have h:R_given [.fz<|QJ y,.fz<|.list<|b.map QV,.fz<|.list<|Za a,.fz<|.int (x:Int)] (.fz<|.int<|ZH y b a x):=R_given.mk (t:=(x:Int)) m A v (by lia) (by lia);exact Zb (by walk_at"ea") h
def M1:NoF "lay" := λ_ _ _ _=>rfl
def Ta:NoF "lay_one" := λ_ _ _ _=>rfl
def Of:NoF "flow" := λ_ _ _ _=>rfl
def LC:NoF "reached" := λ_ _ _ _=>rfl
def II:NoF "push" := λ_ _ _ _=>rfl
def EG:NoF "fill" := λ_ _ _ _=>rfl
def AX:NoF "way_to" := λ_ _ _ _=>rfl
def Zhi:Qp Zax Zax (Q4 GJ):=by walk_at"p"
def Co{f:Addr}(T:Bl mg)(U:Tx K mg C gS gE)(F:Fun K "__init__" "Net.__init__" GJ f fd):FnOk P w K mg base CX0 1 f fd Zax (spI P w C):=by
 refine F.ok Zhi (by rintro c H Q E ⟨x,dx,e,_⟩;rw[e];rfl) ?_;rintro o A outer s H c Q E I ⟨x,dx,e,M,q⟩;subst e;refine⟨_,(Qz (YE (pv 0) (ZE Qr) rfl)
 (Qz (YE (pv 0) (ZE Qr) rfl)
 (Qz (YE (pv 0) Og rfl)
 (Q2<|YE (pv 0) Oo rfl)))),?_⟩
 refine⟨XQ _,λe N=>⟨_,rfl,x,C,dx,[],rfl,?_,U.net.cl,U.net.ends,by decide,?_⟩⟩
 .rw[Qu<|Z0 M N];exact M
 have n:x≠e:=Z0 M N;refine⟨XQ _,λr g=>⟨_,rfl,x,C,dx,[("ends",.ref e)],rfl,?_,U.net.cl,U.net.rooms,(by show(1:Nat)<1000;decide),?_⟩⟩
 .have i:x≠r:=Z0 QG g;rw[Qu i,QG];rfl
 have i:x≠r:=Z0 QG g;have v:upd H e (.lst []) r=none:=by rw[Qu<|Ne.symm i]at g;exact g
 have R:e≠r:=Z0 QG v;have k:H r=none:=by rw[Qu<|Ne.symm R]at v;exact v
 refine λl h=>⟨_,rfl,x,C,dx,[("ends",.ref e),("rooms",.ref r)],rfl,?_,U.net.cl,U.net.leav,(by show(2:Nat)<1000;decide),?_⟩
 .have j:x≠l:=Z0 QG h;rw[Qu j,QG];rfl
 have j:x≠l:=Z0 QG h;rw[Qu<|Ne.symm j]at h;have y:r≠l:=Z0 QG h;rw[Qu<|Ne.symm y,Qu<|Ne.symm j]at h;have W:e≠l:=Z0 QG h;rw[Qu<|Ne.symm W]at h;refine λd a=>⟨_,rfl,x,C,dx,[("ends",.ref e),("rooms",.ref r),("leaving",.ref l)],rfl,?_,U.net.cl,U.net.laid,(by show(3:Nat)<1000;decide),?_⟩
 .have m:x≠d:=Z0 QG a;rw[Qu m,QG];rfl
 have m:x≠d:=Z0 QG a;rw[Qu<|Ne.symm m]at a;have D:l≠d:=Z0 QG a;rw[Qu<|Ne.symm D,Qu<|Ne.symm m]at a;have B:r≠d:=Z0 QG a;rw[Qu<|Ne.symm B,Qu<|Ne.symm m]at a;have X:e≠d:=Z0 QG a;rw[Qu<|Ne.symm X]at a;refine q e r l d _ N k h a ?_ ?_ ?_ ?_ ?_ ?_ (λb Y=>?_)
 .simp only[Xv,Xe,XU,or_false,not_or,not_false_eq_true,UM,and_true];exact⟨⟨n,i,j,m⟩,⟨R,W,X⟩,⟨y,B⟩,D⟩
 .rw[QG];rfl
 .rw[Qu<|Ne.symm n,Qu X,Qu<|Ne.symm n,Qu W,Qu<|Ne.symm n,Qu R,Qu<|Ne.symm n,QG]
 .rw[Qu<|Ne.symm i,Qu B,Qu<|Ne.symm i,Qu y,Qu<|Ne.symm i,QG]
 .rw[Qu<|Ne.symm j,Qu D,Qu<|Ne.symm j,QG]
 .rw[Qu<|Ne.symm m,QG];rfl
 .simp only[Xe,XU,or_false,not_or]at Y;obtain⟨p,G,z,u,t⟩:=Y;rw[Qu p,Qu t,Qu p,Qu u,Qu p,Qu z,Qu p,Qu G]
inductive R_lay1:Q8->List OT->(Q8->Prop)->Prop
 |mk {N:Q8}{s e:List Key}{r:Int}(h1:N.ends.length<900)(h2:N.rooms.length<900)(h3:N.leav.length<900)(h4:∀k ns,QR N.leav k=some ns->ns.length<900):R_lay1 N [.fz<|QW s,.fz<|QW e,.fz<|.int r] (λN'=>N'=UV N s e r)
def ZhK:Qp Zab Zab (Q4 NB):=by walk_at"p"
def Ax(T:Bl mg)(U:Tx K mg C gS gE)(D:Mf K C "lay_one" "Net.lay_one" NB Zab):ZC P w K mg base C "lay_one" Zab 1 (spN K P w C R_lay1):=by
 refine D.evN ZhK (λM ts Ψ h=>by cases h;rfl) (λf m A outer s H E v M ts Ψ i h=>?_);cases h with
 |@mk b e r R B y j=>
  refine⟨_,(Qz (Zu<|VJ zP zS zT VN (Ib (Yz i) (Zg (pv 0) rfl) (pv 1) (ZE Qr) ⟨rfl,rfl,rfl,rfl⟩)<|Qo (Zx V1 (by rfl) T.len Vx<|Qo (Zg (pv 0) rfl) Qr) Qr)
 (Qz (Zu<|VJ zP zS zT VN (Zg (pv 0) rfl)<|Qo (pv 2) Qr)
 (Q2<|Zu<|VJ zP zS zT VN (Zg (pv 0) rfl)<|Qo (pv 3) Qr))),?_⟩
  show Q3 K _ [_,_,_,_] _
  walk_at"x";refine QK (Zm2 (N:=M) (n:=(M.ends.length:Int)) U.net rfl (Qq rfl) (by lia) (λp a=>?_) (T6 (N:={ M with leav:=VO M.leav b }) U.net rfl) ?_)
  .rw[K0,Xd rfl]at a;cases a;cases z:QR M.leav b with
   |none=>decide
   |some g=>have:=j b g z;show g.length<1000;lia
  walk_at"d";refine QK (Zm8 U.net rfl (Qq rfl) (show M.ends.length<1000 by lia) ?_);walk_at"d";refine ZmS U.net rfl (Qq rfl) (show M.rooms.length<1000 by lia) ?_;walk_at"d";exact⟨_,rfl,rfl⟩
abbrev Wd:Zl Nd:=λ_ _=>0
inductive R_lay:Q8->List OT->(Q8->Prop)->Prop
 |mk {N:Q8}{L:Lay Nd}{s e:Nd}{r:Int}(h:NetR N L Wd)(new:(s,e)∉L.map (λx=>(x.1,x.2.1)))(l:L.length<400):R_lay N [.fz<|QW<|nk s,.fz<|QW<|nk e,.fz<|.int r] (λN'=>NetR N' (L++[(s,e,r)]) Wd)
def OZ:Qp Zab Zab (Q4 KC):=by walk_at"p"
def Fy(T:Bl mg)(U:Tx K mg C gS gE)(D:Mf K C "lay" "Net.lay" KC Zab)(i:ZC P w K mg base C "lay_one" Zab 1 (spN K P w C R_lay1)):ZC P w K mg base C "lay" Zab 2 (spN K P w C R_lay):=by
 refine D.evN OZ (λM ts Ψ h=>by cases h;rfl) (λf Y A outer s H E v M ts Ψ y h=>?_);cases h with
 |@mk L a e r h m l=>
  refine⟨_,(Qz (Ea (Hl y) (Zg (pv 0) rfl) (VX<|Qo (pv 1)<|Qo (pv 2) Qr) (Zx V1 (by rfl) T.len Vx<|Qo (Zg (pv 0) rfl) Qr) rfl)
 (Qz (Zu<|YG i U.net y (pv 0)<|Qo (pv 1)<|Qo (pv 2)<|Qo (pv 3) Qr)
 (Q2<|Zu<|YG i U.net y (pv 0)<|Qo (pv 2)<|Qo (pv 1)<|Qo Qw Qr))),?_⟩
  show Q3 K _ [_,_,_,_] _
  walk_at"x";have X:=h.elen;have W:M.rooms.length=2*L.length:=by rw[h.rooms,Nm]
  have o:=h.l1;have d:=h.l2;have p:=h.l3;refine QK (OY (N:=M) (n:=(M.ends.length:Int)) (k1:=nk a) (k2:=nk e) U.net rfl (T6 U.net rfl) (VV (QY (Qq rfl)<|QY (Qq rfl) Z9) YO) (by lia) ?_);walk_at"d";refine QK (J8 (ΦA:=λts=>ts=[.fz<|QW<|nk a,.fz<|QW<|nk e,.fz<|.int r]) Ta rfl (WU (Qv (Qq rfl)<|Qv (Qq rfl)<|Qv (Qq rfl) QA) rfl) λts b=>?_);subst b;refine⟨_,R_lay1.mk (show M.ends.length<900 by lia) (show M.rooms.length<900 by lia) (show M.leav.length<900 by lia) (λk j g=>by have:=p k j g;lia),λc B=>?_⟩;subst B;walk_at"d";refine J8 (ΦA:=λts=>ts=[.fz<|QW<|nk e,.fz<|QW<|nk a,.fz<|.int 0]) Ta rfl (WU (Qv (Qq rfl)<|Qv (Qq rfl)<|Qv Q6 QA) rfl) (λts b=>?_);subst b;refine⟨_,R_lay1.mk ?a1 ?a2 ?a3 ?a4,λc B=>?_⟩
  case a1=>show(M.ends++[nk e]).length<900;rw[Xn,X];show 2*L.length+1<900;lia
  case a2=>show(M.rooms++[r]).length<900;rw[Xn,W];show 2*L.length+1<900;lia
  case a3=>
   show(VP (VO M.leav<|nk a) (nk a) _).length<900
   rw[MB];have:=HX M.leav (nk a);lia
  case a4=>
   intro k j g;rw[GG]at g;by_cases z:k=nk a
   .rw[Xd z]at g;cases g;have:((QR M.leav<|nk a).getD []).length<=2*L.length:=by
     cases q:QR M.leav (nk a) with
     |none=>exact XQ _
     |some R=>exact p _ R q
    show((QR M.leav<|nk a).getD []++[_]).length<900
    rw[Xn];show _+1<900
    lia
   .rw[Xb z]at g;have:=p k j g;lia
  subst B;walk_at"d";exact⟨_,Ep (r:=r) h rfl m,rfl⟩
noncomputable def Br(L:Lay Nd)(φ:Zl Nd)(p q:Nd):Int:=if (p,q)∈L.map (λx=>(x.1,x.2.1)) then φ p q else 0
inductive R_flow(P:Program)(w:World)(C:Addr):List OT->(OT->Prop)->Prop
 |mk {N:Q8}{L:Lay Nd}{φ:Zl Nd}{p q:Nd}(h:NetR N L φ):R_flow P w C [.zow<|Ve P w C N,.fz<|QW<|nk p,.fz<|QW<|nk q] (λr=>r=.fz (.int<|Br L φ p q))
def Zlj:Qp Zar Zar (Q4 Nh):=by walk_at"p"
def AG(T:Bl mg)(U:Tx K mg C gS gE)(D:Mf K C "flow" "Net.flow" Nh Zar):ZC P w K mg base C "flow" Zar 1 (Zr K<|R_flow P w C):=by
 refine D.evD Zlj (λts X h=>by cases h;rfl) (λ_ _ _ _ s H E ts X R h=>?_);cases h with
 |@mk N L M p q h=>
  refine⟨_,(Qz (Zo (Gq<|ZnU (Hl R) (VX<|Qo (pv 1)<|Qo (pv 2) Qr)<|Zg (pv 0) rfl) (Q2<|QT Qw) Zp)
 (Q2<|QT<|QC QD (Zg (pv 0) rfl)<|QP Ha (A1 (Hl R) (Zg (pv 0) rfl) (VX<|Qo (pv 1)<|Qo (pv 2) Qr) λ_ _=>rfl) Qw)),?_⟩
  show Q3 K _ [_,_,_] _
  walk_at"x";have m:∀{ρ:ZbJ},ρ[1]?=some (zf<|QW<|nk p)->ρ[2]?=some (zf<|QW<|nk q)->Qs K (UR<|QF (Q5 1)<|QF (Q5 2) QM) ρ (.tuple [QW<|nk p,QW<|nk q]):=λj f=>VV (QY (Qq j)<|QY (Qq f) Z9) YO;refine QK (Zt (b := !(ZU N.laid (nk p,nk q)).isSome) (ZJ<|ZnY U.net (m rfl rfl) rfl) (λc=>ZZ Q6 ?_) λc=>Zz ?_)
  .have c:ZU N.laid (nk p,nk q)=none:=by
    cases z:ZU N.laid (nk p,nk q) with
    |none=>rfl
    |some n=>rw[z]at c;cases c
   show OT.fz (.int 0)=_;unfold Br;rw[Xb λr=>?_];obtain⟨x,y,B⟩:=XL.mp r;obtain⟨i,v⟩:=List.mem_iff_getElem?.mp y
   have:=h.laid i x v;injection B with j f;rw[j,f,c]at this;cases this
  .have r:(p,q)∈L.map (λx=>(x.1,x.2.1)):=by
    apply Classical.byContradiction;intro Y;rw[h.laid0 p q Y]at c;cases c
   obtain⟨x,y,B⟩:=XL.mp r;obtain⟨i,v⟩:=List.mem_iff_getElem?.mp y;have W:=h.laid i x v;injection B with j f;rw[j,f]at W;have A:N.rooms[2*i+1]?=some (M p q):=by
    rw[h.rooms,GB];unfold rmE;have a:(2*i+1)/2=i:=by lia
    have b:¬(2*i+1)%2=0:=by lia
    rw[a,v];simp only[Wa,Xb b,j,f]
   have d:atI (N.rooms.map PyData.int) (Builtin.bitXor ((2*i:Nat):Int) 1)=some (.int<|M p q):=by
    rw[N4];have a:Zfq (2*i)=2*i+1:=by unfold Zfq;rw[Xd<|by lia]
    rw[a];exact Vm (by rw[Xs,A];rfl)
   refine ZZ (Kq (N:=N) U.net rfl (Z7 (g:=Builtin.bitXor) (Em (n:=((2*i:Nat):Int)) U.net rfl (m rfl rfl) W) Q6) d) ?_;unfold Br;rw[Xd r]
def AZ(h:Qs K ta ρ (.list ds)):Zf K (λσ H Q=>ta σ H λx f=>∃k,DI K x f k/\Q k f) ρ (!ds.isEmpty):=λH0 F σ H Q S q=>h H0 F σ H _ S λn m v b g=>by
 obtain⟨a,xs,rfl,j,i,_⟩:=JD (K:=K) g b.fh;refine⟨_,.inl ⟨xs,j,rfl⟩,?_⟩;have e:xs.isEmpty=ds.isEmpty:=by
  have:=i.length;cases xs<;>cases ds<;>simp at this ⊢
 rw[e];exact q n m b
def Wu(n:Nd):PyData:=QW (nk n)
inductive R_reached(P:Program)(w:World)(C:Addr):List OT->(OT->Prop)->Prop
 |mk {N:Q8}{L:Lay Nd}{φ:Zl Nd}{s:Nd}(h:NetR N L φ)(l:L.length<400):R_reached P w C [.zow<|Ve P w C N,.fz<|QW<|nk s] (λr=>∃v es,r=.own v (V6<|kvG es)/\Tree L φ s es/\Yi L φ es)
structure ReachI(L:Lay Nd)(φ:Zl Nd)(s:Nd)(es0 es:Got Nd)(U fu:List Nd):Prop where
 tree:Tree L φ s es
 fin:∀n∈fu,n∈QX es
 sub:∀n∈QX es0,n∈QX es
 done:Uh L φ es (U++fu)
 len:es.length=es0.length+fu.length
def UE:Qp ["self","start","edges","latest","further","node","edge"] ZaT (Q4 N7):=by walk_at"p"
def Zm5(T:Bl mg)(U:Tx K mg C gS gE)(D:Mf K C "reached" "Net.reached" N7 ZaT):ZC P w K mg base C "reached" ZaT 1 (Zr K<|R_reached P w C):=by
 refine D.evD UE (λts Φ h=>by cases h;rfl) (λ_ _ _ _ s H E ts Φ hr h=>?_);cases h with
 |@mk N L u M h l=>
  refine⟨_,(Qz (QO (i:=2) UE.nd rfl Qa<|Od (Yz hr) (pv 1) Mr)
 (Qz (QO (i:=3) UE.nd rfl Qa<|ZE<|Qo (pv 1) Qr)
 (Qz (Kz zN (EE (pv 3) λ_=>rfl) (Qz (QO (i:=4) UE.nd rfl Qa<|ZE Qr)
 (Qz (Vc zN rfl (by exact(W9<|pv 3)) (Zh (i:=5) UE.nd rfl Qa) (by exact(Q2 (Vc zN rfl (by exact(W9<|EV (Yz hr) (Zg (pv 0) rfl) (pv 5) (ZE Qr) ⟨rfl,rfl,rfl,rfl⟩)) (Zh (i:=6) UE.nd rfl Qa) (by exact(Q2 (Zo (PW.pt<|YS (ZG Yh (QC QD (Zg (pv 0) rfl)<|pv 6) Qw<|Zy _)<|YX<|Gq<|IZ (Yz hr) (QC QD (Zg (pv 0) rfl)<|pv 6)<|pv 2) (Qz (HI (Yz hr) (pv 2) (QC QD (Zg (pv 0) rfl)<|pv 6) (pv 6) rfl)
 (Q2<|Zu<|VJ zP zS zT VN (pv 4)<|Qo (QC QD (Zg (pv 0) rfl)<|pv 6) Qr)) Zp)))))))
 (Q2<|QO (i:=3) UE.nd rfl Qa<|pv 4))))
 (Q2<|QT<|pv 2)))),?_⟩
  show Q3 K _ [_,_,_,_,_,_,_] _
  walk_at"x";refine QK (M4 (IG (k:=nk M) (d:=.none) (Qq rfl) Gh) λv=>?_);walk_at"d";refine QK (VW (V4 (ds:=[QW<|nk M]) (QY (Qq rfl) Z9) Wc) ?_);walk_at"d";refine Ur 3 rfl ?_;walk_at"d";have bnd:∀es,Tree L u M es->es.length<=2*L.length+1:=λes t=>by have:=t.len;rw[Tg]at this;exact this
  refine QK (Kc (λm R=>∃(es:Got Nd) (g:List Nd) (u4 u5 S:Option OT),Tree L u M es/\(∀n∈g,n∈QX es)/\Uh L u es g/\m=2*(2*L.length+2-es.length)+(if g=[] then 0 else 1)/\
   R=[zz<|Ve P w C N,zf<|QW<|nk M,zo v<|V6<|kvG es,zf<|.list<|g.map Wu,u4,u5,S]) _ ⟨[(M,none)],[M],none,none,none,.root,(λn o=>by simpa [QX] using o),?d0,rfl,rfl⟩ ?ws)
  case d0=>
   intro e m n r h1 h2 h3 h4 h5 h6;have:m=M:=by simpa [QX] using h5
   exact Xz (by rw[this];exact Xc) h6
  case ws=>
   rintro m _ ⟨es,g,u4,u5,S,tr,sb,dn,rfl,rfl⟩;refine⟨_,AZ (ds:=g.map Wu)<|Qq rfl,λc=>?_,λc=>?_⟩
   .have J:g≠[]:=λz=>by rw[z]at c;cases c
    rw[Xb J];refine QK (VW (V4 (ds:=[]) Z9<|by decide) ?_);walk_at"d";refine QK (V2 (ds:=g.map Wu) (λi R=>∃(B:Got Nd) (Q:List Nd) (u5 S:Option OT),ReachI L u M es B (g.drop i) Q/\
     R=[zz<|Ve P w C N,zf<|QW<|nk M,zo v<|V6<|kvG B,zf<|.list<|g.map Wu,some<|.ol<|Q.map Wu,u5,S]) (Ja<|Qq rfl) ⟨es,[],_,_,⟨tr,(by rintro n ⟨⟩),λn o=>o,by rw[List.drop_zero,Xx];exact dn,by simp⟩,rfl⟩ ?st ?fin)
    case fin=>
     rintro _ ⟨B,Q,w5,w6,I,rfl⟩;rw[Xl]at I;have dn':=I.done;rw[List.drop_length,BQ]at dn';refine Ur 4 rfl ?_;walk_at"d";refine ZD (Qq rfl) ?_;walk_at"d";refine⟨2*(2*L.length+2-B.length)+(if Q=[] then 0 else 1),?_,B,Q,_,_,_,I.tree,I.fin,dn',rfl,rfl⟩;have b1:=bnd B I.tree;have b2:=I.len
     by_cases z:Q=[]
     .rw[Xd z];rw[z]at b2;simp at b2;lia
     .rw[Xb z];have:0<Q.length:=Dv.mpr z;lia
    case st=>
     rintro i d _ hd ⟨es1,fu1,w5,w6,I1,rfl⟩;have hi:i<g.length:=by
      have:=(Xf.mp hd).1;simpa using this
     obtain rfl:d=Wu g[i]:=by simpa [hi] using hd.symm
     have O:g.drop i=g[i]::g.drop (i+1):=NM hi;generalize g[i]=x at O;refine⟨_,Zq,?_⟩;walk_at"d";refine V2 (ds:=((QR N.leav<|nk x).getD []).map PyData.int) (λj R=>∃(f:Got Nd) (p:List Nd) (S:Option OT),ReachI L u M es f (g.drop i) p/\
      (∀(k:Nat) (n:Nd) (r:Int),(k:Int)∈((QR N.leav<|nk x).getD []).take j->hdE L k=some n->rmE L u k=some r->0<r->n∈QX f)/\
      R=[zz<|Ve P w C N,zf<|QW<|nk M,zo v<|V6<|kvG f,zf<|.list<|g.map Wu,some<|.ol<|p.map Wu,zf<|Wu x,S]) (Ja<|Ie (k:=nk x) U.net rfl (Qq rfl)) ⟨es1,fu1,_,I1,(λk n r hk=>by simp at hk),rfl⟩ ?st2 ?fin2
     case fin2=>
      rintro _ ⟨f,p,w6,A,Y,rfl⟩;refine⟨f,p,_,_,⟨A.tree,A.fin,A.sub,?_,A.len⟩,rfl⟩;rw[Xl,Ji]at Y;intro e m n r h1 h2 h3 h4 h5 h6;by_cases z:m=x
      .subst z;exact Y e n r ((h.leav m (e:Int)).mpr ⟨e,rfl,h1⟩) h2 h3 h4
      .refine A.done e m n r h1 h2 h3 h4 h5 ?_;rw[O,GM,Xe,not_or];exact⟨z,h6⟩
     case st2=>
      rintro j d2 _ q ⟨f,p,w6,A,Y,rfl⟩;have hj:j<((QR N.leav<|nk x).getD []).length:=by
       have:=(Xf.mp q).1;simpa using this
      obtain⟨k,ek,tk⟩:=(h.leav x _).mp (XX hj);obtain rfl:d2=.int (k:Int):=by
       rw[Xs,XS hj]at q;rw[ek]at q;simpa using q.symm
      obtain⟨y,hy⟩:∃y,L[k/2]?=some y:=by
       unfold tlE at tk;cases z:L[k/2]? with
       |none=>rw[z]at tk;cases tk
       |some y=>exact⟨y,rfl⟩
      obtain⟨n,o⟩:∃n,hdE L k=some n:=⟨_,by unfold hdE;rw[hy];rfl⟩;obtain⟨r,G⟩:∃r,rmE L u k=some r:=⟨_,by unfold rmE;rw[hy];rfl⟩;have ra:atI (N.rooms.map PyData.int) (k:Int)=some (.int r):=Vm (by rw[Xs,h.rooms,GB,G];rfl);have ea:atI (N.ends.map QW) (k:Int)=some (QW<|nk n):=Vm (by rw[h.ends,X7,Xs,HF,o];rfl);have Z:((QR N.leav<|nk x).getD []).take (j+1)=((QR N.leav<|nk x).getD []).take j++[(k:Int)]:=by rw[JT,XS hj,ek];rfl
      have bes:=bnd f A.tree;have ben:=A.len;refine⟨_,Zq,?_⟩;walk_at"d";have X:∀{ρ:ZbJ},ρ[0]?=some (zz<|Ve P w C N)->ρ[6]?=some (zi (k:Int))->Qs K (tOp (rIx K) (Vf K (Q5 0) "ends")<|Q5 6) ρ (QW<|nk n):=λe0 e6=>SZ U.net e0 (Qq e6) ea;refine Zt (b:=decide (r > 0) && !(Ye (kvG f)<|nk n).isSome) (Wz (ZA<|Vh (Kq U.net rfl (Qq rfl) ra) Q6) λ_=>ZJ<|ZmX (X rfl rfl) rfl) (λc=>?_) (λc=>Zz ?_)
      .rw[Bs]at c;have c1:r > 0:=XW (Bool.and_eq_true_iff.mp c).1;have c2:n∉QX f:=by simpa using (Bool.and_eq_true_iff.mp c).2
       refine QK (IE rfl (Qq rfl) (X rfl rfl) (by rw[show(kvG f).length=f.length from Xl _];exact Vp<|by lia) ?_);walk_at"d";rw[Ir c2];refine UD (ds:=p.map Wu) rfl (X rfl rfl) (by rw[Xl];lia) ?_;walk_at"d";have km:x∈QX f:=A.sub x (sb x<|List.mem_of_mem_drop<|by rw[O];exact Xc);refine⟨f++[(n,some k)],p++[n],_,⟨A.tree.add c2 o tk km G c1,λz F=>?_,λz F=>JC.mpr<|.inl<|A.sub z F,?_,by simp;lia⟩,λk' n' r' W q1 q2 q3=>?_,by rw[XF];rfl⟩
       .rcases XD.mp F with F|F
        .exact JC.mpr (.inl<|A.fin z F)
        .exact JC.mpr (.inr<|by simpa using F)
       .exact A.done.add n (some k)
       .rw[Z]at W;rcases XD.mp W with z|z
        .exact JC.mpr (.inl<|Y k' n' r' z q1 q2 q3)
        .have:k'=k:=by have:=Xh.mp z;lia
         subst this;rw[o]at q1;cases q1;exact JC.mpr (.inr rfl)
      .rw[Bs]at c;refine⟨f,p,_,A,λk' n' r' W q1 q2 q3=>?_,rfl⟩;rw[Z]at W;rcases XD.mp W with z|z
       .exact Y k' n' r' z q1 q2 q3
       .have:k'=k:=by have:=Xh.mp z;lia
        subst this;rw[o]at q1;rw[G]at q2;cases q1;cases q2;apply Classical.byContradiction;intro hq;have q3':r > 0:=q3;simp[q3',hq]at c
   .have J:g=[]:=by
     cases g with
     |nil=>rfl
     |cons a b=>cases c
    subst J;exact HK rfl ⟨v,es,rfl,tr,dn.closed⟩
def Y9(w:Qk):Qd:=w.map λ(e:Nat)=>PyData.int (e:Int)
def TK{es:Got Nd}{n:Nd}{w:Qk}(b:Back L es n w):Ye (kvG es) (nk n)=some (UT w.head?):=by
 rw[Kg];cases b with
 |nil h=>rw[h];rfl
 |cons h t b=>rw[h];rfl
def Rv{L:Lay Nd}{e:Nat}{r:Int}(h:rmE L φ e=some r):e<2*L.length:=by
 unfold rmE at h;cases z:L[e/2]? with
 |none=>rw[z]at h;cases h
 |some x=>have:=(Xf.mp z).1;lia
def SI{s n:Nd}{es:Got Nd}{w:Qk}(q:WayOk L φ s es n w):w.length<=2*L.length:=by
 have:=KL (ys:=List.range (2*L.length)) q.nodup λe b=>by
  obtain⟨r,a,_⟩:=q.room e b;exact XH.mpr (Rv a)
 simpa using this
inductive R_way(P:Program)(w:World)(C:Addr):List OT->(OT->Prop)->Prop
 |mk {N:Q8}{L:Lay Nd}{φ:Zl Nd}{s n:Nd}{es:Got Nd}{wy:Qk}(h:NetR N L φ)(l:L.length<400)(q:WayOk L φ s es n wy):R_way P w C [.zow<|Ve P w C N,.zow<|Ui<|kvG es,.fz<|QW<|nk n] (λr=>r=.ol (Y9 wy))
def Dp:Qp ["self","edges","end","way","edge"] ZaM (Q4 Nu):=by walk_at"p"
def Cy(T:Bl mg)(U:Tx K mg C gS gE)(D:Mf K C "way_to" "Net.way_to" Nu ZaM):ZC P w K mg base C "way_to" ZaM 1 (Zr K<|R_way P w C):=by
 refine D.evD Dp (λts W h=>by cases h;rfl) (λ_ _ _ _ s H E ts W M h=>?_);cases h with
 |@mk N L t x n es y h l q=>
  refine⟨_,(Qz (QO (i:=3) Dp.nd rfl Qa<|ZE Qr)
 (Qz (QO (i:=4) Dp.nd rfl Qa<|Mx (Yz M) (pv 1) (pv 2) λ_ _=>rfl)
 (Qz (Kz zN (Gq<|AJ<|pv 4) (Qz (Zu<|VJ zP zS zT VN (pv 3)<|Qo (pv 4) Qr)
 (Q2<|QO (i:=4) Dp.nd rfl Qa<|Mx (Yz M) (pv 1) (QC QD (Zg (pv 0) rfl)<|QP Ha (pv 4) Qw) λ_ _=>rfl)))
 (Q2<|QT<|pv 3)))),?_⟩
  show Q3 K _ [_,_,_,_,_] _
  walk_at"x";have u:=SI q;refine QK (VW (V4 (ds:=[]) Z9<|by decide) ?_);walk_at"d";refine QK (ZD (Pa rfl (Qq rfl)<|TK q.back) ?_);walk_at"d";refine QK (Kc (λm v=>∃(j f:Qk) (A:Nd),m=f.length/\j++f=y/\Back L es A f/\v=[zz<|Ve P w C N,zz<|Ui<|kvG es,zf<|QW<|nk n,some<|.ol<|Y9 j,zf<|UT f.head?]) y.length ⟨[],y,n,rfl,rfl,q.back,rfl⟩ ?ws)
  case ws=>
   rintro m _ ⟨j,f,A,rfl,r,b,rfl⟩;refine⟨_,ZJ<|RY<|Qq rfl,λc=>?_,λc=>?_⟩
   .cases b with
    |nil Y=>cases c
    |@cons _ B e p Y X R=>
     have o:j.length<1000:=by
      have:=X9 List.length r;rw[Xn]at this;lia
     refine QK (UD (ds:=Y9 j) (d:=.int (e:Int)) rfl (Qq rfl) (by unfold Y9;rw[Xl];exact o) ?_);walk_at"d";have k:atI (N.ends.map QW) (Builtin.bitXor (e:Int) 1)=some (QW<|nk B):=by
      rw[N4];exact Vm (by rw[h.ends,X7,Xs,ZnJ,X];rfl)
     refine ZD (Pa rfl (SZ U.net rfl (Z7 (g:=Builtin.bitXor) (Qq rfl) Q6) k)<|TK R) ?_;walk_at"d";refine⟨p.length,Jj _,j++[e],p,B,rfl,by rw[<- r,GP];rfl,R,?_⟩;unfold Y9;rw[XF];rfl
   .have:f=[]:=by
     cases f with
     |nil=>rfl
     |cons a b=>cases c
    subst this;rw[Xx]at r;subst r;exact Mt rfl rfl
def amt(L:Lay Nd)(φ:Zl Nd)(w:Qk):Int:=YA (w.map λe=>(rmE L φ e).getD 0)
inductive R_push:Q8->List OT->(Q8->Prop)->Prop
 |mk {N:Q8}{L:Lay Nd}{φ:Zl Nd}{wy:Qk}(h:NetR N L φ)(hd:Dis L)(ne:wy≠[])(hin:∀e∈wy,∃r,rmE L φ e=some r)(hl:wy.length<900):R_push N [.fz<|.list<|Y9 wy] (λN'=>NetR N' L<|Wg L (amt L φ wy) φ wy)
def NetR.rm{N:Q8}(h:NetR N L φ)(he:e<2*L.length):∃r,N.rooms[e]?=some r/\(VD L φ)[e]?=some r:=by
 have:e<(VD L φ).length:=by rw[Nm];exact he
 exact⟨(VD L φ)[e],by rw[h.rooms,XS this],XS this⟩
def NetR.push{N:Q8}(h:NetR N L φ)(b:Dis L){a r:Int}(g:(VD L φ)[e]?=some r)(f:(VD L φ)[Zfq e]?=some r'):NetR { N with rooms:=(N.rooms.set e<|r-a).set (Zfq e) (r'+a) } L (Yg L a φ e):=
 ⟨h.ends,by show(N.rooms.set e<|r-a).set (Zfq e) (r'+a)=_;rw[h.rooms,Zna b g f],h.leav,h.laid,h.laid0,h.l1,h.l2,h.l3⟩
def Zm7{L:Lay Nd}{a:Int}{φ:Zl Nd}{b:Qk}{e:Nat}(h:b[i]?=some e):Wg L a φ (b.take<|i+1)=Yg L a (Wg L a φ<|b.take i) e:=by
 have t:b.take (i+1)=b.take i++[e]:=by rw[JT,h];rfl
 rw[t];unfold Wg;rw[List.foldl_append];rfl
def N5:Qp ["self","way","amount","edge"] ["self","way"] (Q4 MT):=by walk_at"p"
def CO(T:Bl mg)(U:Tx K mg C gS gE)(D:Mf K C "push" "Net.push" MT ["self","way"]):ZC P w K mg base C "push" ["self","way"] 1 (spN K P w C R_push):=by
 refine D.evN N5 (λM ts Ψ h=>by cases h;rfl) (λf Z A outer s H E v M ts Ψ hr h=>?_);cases h with
 |@mk L R b h G u X hl=>
  refine⟨_,(Qz (QO (i:=2) N5.nd rfl Qa<|Zx CW (by rfl) T.min Bo<|Qo (Wy (NX:=["self","way","amount","edge"]) (sc:=Q4 MT) (N:=["edge","self"]) (f:=[none,some 0]) rfl (by decide +kernel) rfl rfl (W9<|pv 1) (λ_=>(Zh (i:=0) (show(["edge","self"]:Qh).Nodup by decide +kernel) rfl Qa)) (λ_=>Ym) (λ_=>J1) λ_=>(QC QD (Zg (pv 1) rfl)<|pv 0)) Qr)
 (Q2 (Vc zN rfl (by exact(W9<|pv 1)) (Zh (i:=3) N5.nd rfl Qa) (by exact(Qz (Gx (Zg (pv 0) rfl) (pv 3) G7 (pv 2) C2 Yk)
 (Q2<|Gx (Zg (pv 0) rfl) (QP Ha (pv 3) Qw) G7 (pv 2) Bq Yk)))))),?_⟩
  show Q3 K _ [_,_,_,_] _
  walk_at"x";refine QK (ZD (d:=.int (amt L R b)) (ZmE 0 rfl rfl (Ee (ns:=b.map λe=>(rmE L R e).getD 0) (Qs.cast (EvO.fz<|Bb (xs:=b) (enc:=λ(e:Nat)=>PyData.int (e:Int)) (h:=λe=>.int<|(rmE L R e).getD 0) ?ei (by lia) ?el)<|by rw[X7];rfl) rfl (λz=>u<|List.map_eq_nil_iff.mp z))) ?_)
  case ei=>exact Ja (Qq rfl)
  case el=>
   intro e F c;refine⟨_,Zq,?_⟩;walk_at"e";obtain⟨r,W⟩:=X e F;refine Qs.cast (Kq (N:=M) (m:=r) U.net rfl (Qq rfl) ?_) (by rw[W];rfl);exact Vm (by rw[Xs,h.rooms,GB,W];rfl)
  walk_at"d";generalize amt L R b=a;refine V2 (ds:=Y9 b) (λi Y=>∃(B:Q8) (l:Option OT),NetR B L (Wg L a R<|b.take i)/\Y=[zo v<|Zj P w C B,zf<|.list<|Y9 b,zi a,l]) (Ja<|Qq rfl) ⟨M,_,h,rfl⟩ ?st ?fin
  case fin=>
   rintro _ ⟨B,l,y,rfl⟩;unfold Y9 at y;rw[Xl,Ji]at y;exact⟨B,y,rfl⟩
  case st=>
   rintro i d _ p ⟨B,l,y,rfl⟩;have q:i<b.length:=by
    have:=(Xf.mp p).1;unfold Y9 at this;simpa using this
   obtain rfl:d=.int (b[i]:Int):=by
    unfold Y9 at p;simpa [q] using p.symm
   obtain⟨r0,o⟩:=X b[i] (XX q);have el:=Rv o;rw[Zm7<|XS q];generalize b[i]=e at el;have S:Zfq e<2*L.length:=by unfold Zfq;split<;>lia
   have x:Zfq e≠e:=by unfold Zfq;split<;>lia
   obtain⟨r,Q,O⟩:=My.NetR.rm y el;obtain⟨t,J,I⟩:=My.NetR.rm y S;refine⟨_,Zq,?_⟩;walk_at"d";refine QK (TC (N:=B) (f:=λi j=>i-j) (k:=(e:Int)) (m:=r) (n:=a) U.net rfl (Qq rfl) (by lia) (by rw[Xo];exact Q) (Qq rfl) ?_);walk_at"d";rw[Xo];refine TC (f:=λi j=>i+j) (k:=(Zfq e:Int)) (m:=t) (n:=a) U.net rfl (Qs.cast (Z7 (g:=Builtin.bitXor) (Qq rfl) Q6)<|by rw[N4]) (by lia) (by rw[Xo];show(B.rooms.set e<|r-a)[Zfq e]?=_;rw[Xt<|Ne.symm x];exact J) (Qq rfl) ?_;walk_at"d";rw[Xo];exact⟨_,_,My.NetR.push y G O I,rfl⟩
inductive R_fill:Q8->List OT->(Q8->Prop)->Prop
 |mk {N:Q8}{y:Yd}{G:Gv}{φ:Zl Nd}(h:NetR N (Zm y G) φ)(F:Flow y G φ)(l:(Zm y G).length<400):R_fill N [.fz<|QW<|nk .start,.fz<|QW<|nk .fin] (λN'=>∃φ' es,NetR N' (Zm y G) φ'/\Flow y G φ'/\Nd.start∈QX es/\Yi (Zm y G) φ' es/\Nd.fin∉QX es)
def KP:Qp ["self","start","end","edges"] Zar (Q4 Nk):=by walk_at"p"
def AD(T:Bl mg)(U:Tx K mg C gS gE)(D:Mf K C "fill" "Net.fill" Nk Zar)(X:ZC P w K mg base C "reached" ZaT 1 (Zr K<|R_reached P w C))(Q:ZC P w K mg base C "push" ["self","way"] 1 (spN K P w C R_push))(O:ZC P w K mg base C "way_to" ZaM 1 (Zr K<|R_way P w C)):
 ZC P w K mg base C "fill" Zar 2 (spN K P w C R_fill):=by
 refine D.evN KP (λM ts Ψ h=>by cases h;rfl) (λf cdv A outer s H E v M ts Ψ W h=>?_);cases h with
 |@mk y G b h F l=>
  refine⟨_,(Qz (QO (i:=3) KP.nd rfl Qa<|YG X U.net W (pv 0)<|Qo (pv 1) Qr)
 (Q2 (Kz zN (Gq<|Ht (Yz W) (pv 2)<|pv 3) (Qz (Zu<|YG Q U.net W (pv 0)<|Qo (YG O U.net W (pv 0)<|Qo (pv 3)<|Qo (pv 2) Qr) Qr)
 (Q2<|QO (i:=3) KP.nd rfl Qa<|YG X U.net W (pv 0)<|Qo (pv 1) Qr))))),?_⟩
  show Q3 K _ [_,_,_,_] _
  walk_at"x";have V0:∀{M:Q8} {b:Zl Nd} {u:Option OT} {E':XK},NetR M (Zm y G) b->Z2 K (ZR C "reached" (Zr K<|R_reached P w C) [] E' (Q5 0)<|QF (Q5 1) QM) [zo v<|Zj P w C M,zf<|QW<|nk .start,zf<|QW<|nk .fin,u] (λr=>∃S es,r=.own S (V6<|kvG es)/\Tree (Zm y G) b .start es/\Yi (Zm y G) b es):=λh'=>
   Ng 0 rfl (by rintro r ⟨S,es,e,_⟩;subst e;exact EW<|Ih es) (Kr LC rfl (Qv (Qq rfl) QA)<|R_reached.mk h' l)
  refine QK (Wk (V0 h) λr j=>?_);obtain⟨N,es,rfl,R,Y⟩:=j;walk_at"d";refine Kc (λm o=>∃(M:Q8) (b:Zl Nd) (es:Got Nd) (N:V),NetR M (Zm y G) b/\Flow y G b/\Tree (Zm y G) b .start es/\Yi (Zm y G) b es/\m=(Q1 G.wa G.m-VB (Zm y G) b .start).toNat/\
   o=[zo v<|Zj P w C M,zf<|QW<|nk .start,zf<|QW<|nk .fin,zo N<|V6<|kvG es]) _ ⟨M,b,es,N,h,F,R,Y,rfl,rfl⟩ ?ws
  clear R Y es N h F;rintro m _ ⟨M,b,es,N,h,F,R,Y,rfl,rfl⟩;refine⟨_,ZJ<|CQ (k:=nk .fin) (Qq rfl) rfl,λc=>?_,λc=>?_⟩
  .rw[Bs]at c;obtain⟨n,q⟩:=R.way .fin (XW c);have wl:=SI q;have B:n≠[]:=λz=>by
    have:=q.chain;rw[z]at this;cases this
   refine Px 3 rfl ?_;walk_at"d";refine QK (J8 (ΦA:=λts=>ts=[.fz<|.list<|Y9 n]) II rfl (FF (Φ:=λr=>r=.ol (Y9 n)) (Ng 0 rfl (λr e=>by subst e;exact HS (λd hd=>by
    obtain⟨e,_,rfl⟩:=XL.mp hd;exact⟨_,rfl⟩))<|Kr AX rfl (Mg rfl (Qv (Qq rfl) QA))<|R_way.mk h l q) λr e=>⟨_,e,rfl⟩) λts x=>?_)
   subst x;refine⟨_,R_push.mk h (MD y G) B (λe p=>let ⟨r,a,_⟩:=q.room e p;⟨r,a⟩)<|by lia,λN' Z=>?_⟩;walk_at"d";obtain⟨m1,m2⟩:=K7 (ns:=n.map λe=>(rmE (Zm y G) b e).getD 0) (λz=>B<|List.map_eq_nil_iff.mp z);have a0:0<amt (Zm y G) b n:=by
    obtain⟨e,p,ee⟩:=XL.mp m1;obtain⟨r,g,I⟩:=q.room e p;rw[g]at ee;show 0<YA _;rw[<- ee];exact I
   obtain⟨F',nd⟩:=F.push (a:=amt (Zm y G) b n) (by lia) q.chain q.nodup (λe p=>by
    obtain⟨r,g,_⟩:=q.room e p;refine⟨r,g,?_⟩;have:=m2 _ (XL.mpr ⟨e,p,rfl⟩);rw[g]at this;exact this)
   refine Wk (V0 Z) (λr j=>?_);obtain⟨v4,J,rfl,t,L⟩:=j;walk_at"d";refine⟨_,?_,N',_,J,v4,Z,F',t,L,rfl,rfl⟩;have:=F'.most;rw[nd]at this ⊢;lia
  .rw[Bs]at c;exact⟨M,⟨b,es,h,F,R.start,Y,JO c⟩,rfl⟩
structure GOk(y:Yd)(g:Gs):Prop where
 ln:g.line<y.ls.length
 w0:0<=g.want
 m0:0<=g.most
def Fz{y:Yd}{g:Gs}(h:g.Ok y):GOk y g:=⟨h.ln,by have:=h.w1;lia,by have:=h.m1;lia⟩
noncomputable def Qy(gs:List Gs):Gv:={ m:=gs.length,ln:=λk=>(gs.getD k default).line,wa:=λk=>(gs.getD k default).want,mo:=λk=>(gs.getD k default).most,th:=λk t=>Vn (gs.getD k default) (t:Int) }
def U4{gs:List Gs}(h:k<gs.length):gs.getD k default=gs[k]:=by simp[List.getD,h]
def Es(y:Yd)(G:Gv)(k:Nat):(Vk y G k).length<=1+y.T:=by
 unfold Vk;rw[XN];have:∀n,((List.range n).flatMap λt=>if G.th k t=true then [((.guest k,.line (G.ln k) t,G.mo k):Nd×Nd×Int)] else []).length<=n:=by
  intro n;induction n with
  |zero=>simp
  |succ n a=>
   rw[YL,UG,Xn];have:([n].flatMap λt=>if G.th k t=true then [((.guest k,.line (G.ln k) t,G.mo k):Nd×Nd×Int)] else []).length<=1:=by
    simp only[Dz,List.flatMap_nil,Xx];split<;>simp
   lia
 have:=this y.T;lia
def Ig{y:Yd}(h:1<=y.ls.length)(t:Nat):(VH y t).length=y.ls.length:=by
 unfold VH;rw[XN];have:∀n,((List.range n).flatMap λi=>[((.line (i+1) t,.line (Mir.upN y<|i+1) t,Z3 y (i+1) t):Nd×Nd×Int)]).length=n:=by
  intro n;induction n with
  |zero=>simp
  |succ n a=>rw[YL,UG,Xn,a];simp
 rw[this];lia
theorem B8{f:Nat->Lay Nd}{c:Nat}(h:∀k,(f k).length<=c):∀n,((List.range n).flatMap f).length<=n*c
 |0=>by simp
 |n+1=>by
  rw[YL,UG,Xn];have a:=B8 h n;have b:([n].flatMap f).length<=c:=by simpa using h n
  rw[Nat.add_mul];lia
def BE(f:Nat->Lay Nd)(n:Nat):(List.range<|n+1).flatMap f=(List.range n).flatMap f++f n:=by rw[YL,UG];simp
def Kl{f:Nat->Lay Nd} : x∈(List.range n).flatMap f ↔ ∃k,k<n/\x∈f k:=by
 rw[Wr];simp only[XH]
def MY{y:Yd}(b:y.Ok)(G:Gv)(h:n<=8):((List.range n).flatMap (Vk y G)).length<=72:=by
 have a:=B8 (f:=Vk y G) (c:=9) (λk=>by have:=Es y G k;have:=b.t8;lia) n;lia
def KA{y:Yd}(b:y.Ok)(h:n<=8):((List.range n).flatMap (VH y)).length<=40:=by
 have a:=B8 (f:=VH y) (c:=5) (λk=>by rw[Ig b.l1 k];exact b.l5) n;lia
inductive R_gnode:List OT->OT->Prop
 |mk {k:Nat}:R_gnode [.fz<|.int (k:Int)] (.fz<|QW<|nk<|.guest k)
def ZiM:Qp ZaY ZaY (Q4 No):=by walk_at"p"
def Ii(T:Bl mg)(D:Df K mg "guest_node" No ZaY):QE P w K mg base "guest_node" ZaY 1 (QL (K:=K) R_gnode):=by
 refine D.ev ZiM (λts r h=>by cases h;rfl) (λ_ _ _ _ s H E ts r a h=>?_);cases h with
 |@mk k=>
  refine⟨_,(Q2<|QT<|VX<|Qo Vo<|Qo (pv 0) Qr),?_⟩;show Q3 K _ [_] _
  walk_at"x";exact ZZ (VV (ds:=[.str "guest",.int (k:Int)]) (QY VE<|QY (Qq rfl) Z9) YO) rfl
inductive R_lnode:List OT->OT->Prop
 |mk {l t:Nat}:R_lnode [.fz<|.int (l:Int),.fz<|.int (t:Int)] (.fz<|QW<|nk<|.line l t)
def ZjW:Qp ZaK ZaK (Q4 Nz):=by walk_at"p"
def E1(T:Bl mg)(D:Df K mg "line_node" Nz ZaK):QE P w K mg base "line_node" ZaK 1 (QL (K:=K) R_lnode):=by
 refine D.ev ZjW (λts r h=>by cases h;rfl) (λ_ _ _ _ s H E ts r a h=>?_);cases h with
 |@mk l t=>
  refine⟨_,(Q2<|QT<|VX<|Qo Vo<|Qo (pv 0)<|Qo (pv 1) Qr),?_⟩;show Q3 K _ [_,_] _
  walk_at"x";exact ZZ (VV (ds:=[.str "line",.int (l:Int),.int (t:Int)]) (QY VE<|QY (Qq rfl)<|QY (Qq rfl) Z9)<|by show(3:Nat)<=1000;decide) rfl
inductive R_lguest:Q8->List OT->(Q8->Prop)->Prop
 |mk {N:Q8}{y:Yd}{gs:List Gs}{k:Nat}(ok:y.Ok)(g8:gs.length<=8)(hk:k<gs.length)(h:NetR N ((List.range k).flatMap (Vk y<|Qy gs)) Wd):
  R_lguest N [.fz<|QJ y,.fz<|.int (k:Int),.fz<|QV gs[k]] (λN'=>NetR N' ((List.range<|k+1).flatMap (Vk y<|Qy gs)) Wd)
def L8:Qp ["net","yard","number","guest","turn"] Zac (Q4 N3):=by walk_at"p"
def OS(T:Bl mg)(U:Tx K mg C gS gE)(D:Df K mg "lay_guest" N3 Zac)(Y:ZC P w K mg base C "lay" Zab 2 (spN K P w C R_lay))(L:QE P w K mg base "want_of" ZaD 1 (QL (K:=K) R_want))(e:QE P w K mg base "guest_node" ZaY 1 (QL (K:=K) R_gnode))
(S:QE P w K mg base "turns_of" ZaI 1 (QL (K:=K) R_turns))(J:QE P w K mg base "is_there" Zaw 1 (QL (K:=K) R_there))(I:QE P w K mg base "most_of" ZaD 1 (QL (K:=K) R_most))(Q:QE P w K mg base "line_node" ZaK 1 (QL (K:=K) R_lnode))(O:QE P w K mg base "line_of" ZaD 1 (QL (K:=K) R_lineof)):
 QE P w K mg base "lay_guest" Zac 3 (spN K P w C R_lguest):=by
 refine D.evN L8 (λM ts Ψ h=>by cases h;rfl) (λf cdv A outer s H E v M ts Ψ m h=>?_);cases h with
 |@mk y a k Z g8 hk h=>
  refine⟨_,(Qz (Zu<|YG Y U.net m (pv 0)<|Qo (VZ (v:=.ref _) rfl U.mSTART rfl)<|Qo (QH e m<|Qo (pv 2) Qr)<|Qo (QH L m<|Qo (pv 3) Qr) Qr)
 (Q2<|Vc zN rfl (by exact(Ys rfl T.range<|Qo (QH S m<|Qo (pv 1) Qr) Qr)) (Zh (i:=4) L8.nd rfl Qa)<|by exact(Q2<|Zo (ZF<|QH J m<|Qo (pv 3)<|Qo (pv 4) Qr) (Q2<|Zu<|YG Y U.net m (pv 0)<|Qo (QH e m<|Qo (pv 2) Qr)<|Qo (QH Q m<|Qo (QH O m<|Qo (pv 3) Qr)<|Qo (pv 4) Qr)<|Qo (QH I m<|Qo (pv 3) Qr) Qr) Zp))),?_⟩
  show Q3 K _ [_,_,_,_,_] _
  walk_at"x";have t8:=Z.t8;have gl:=MY Z (Qy a) (n:=k) (by lia);have l:=U4 hk;have ew:(Qy a).wa k=a[k].want:=by show(a.getD k default).want=_;rw[l]
  have X:∀x∈(List.range k).flatMap (Vk y<|Qy a),∃j,j<k/\x∈Vk y (Qy a) j:=λx g=>Kl.mp g;refine QK (J8 (ΦA:=λts=>ts=[.fz<|QW<|nk .start,.fz<|QW<|nk<|.guest k,.fz<|.int a[k].want]) M1 rfl (WU (Qv (Ka U.aS)<|Qv (Zb (Qv (Qq rfl) QA) R_gnode.mk)<|Qv (Zb (Qv (Qq rfl) QA) R_want.mk) QA) rfl) λts B=>?_);subst B;refine⟨_,R_lay.mk h ?n0<|by lia,λN1 F=>?_⟩
  case n0=>
   intro z;obtain⟨x,g,G⟩:=XL.mp z;obtain⟨j,hj,g⟩:=X x g;injection G with r p;rcases Wo.mp g with rfl|⟨t,_,_,rfl⟩
   .injection p with p;lia
   .cases r
  walk_at"d";refine V2 (ds:=Va 0 y.T) (λi o=>∃(N:Q8) (q:Option OT),NetR N ((List.range k).flatMap (Vk y<|Qy a)++((.start,.guest k,(Qy a).wa k)::(List.range i).flatMap λt=>if (Qy a).th k t=true then [(.guest k,.line ((Qy a).ln k) t,(Qy a).mo k)] else [])) Wd/\
   o=[zo v<|Zj P w C N,zf<|QJ y,zi (k:Int),zf<|QV a[k],q]) ?ei ⟨N1,none,by rw[ew];exact F,rfl⟩ ?st ?fin
  case ei=>exact EvI.cast (Y3 (Qv (Zb (Qv (Qq rfl) QA) R_turns.mk) QA) (by rw[z62];lia)<|by rw[z62];lia) (WE rfl (by lia))
  case fin=>
   rintro _ ⟨N,q,W,rfl⟩;rw[Wn]at W;refine⟨N,?_,rfl⟩;rw[BE];exact W
  case st=>
   rintro t d _ hd ⟨N,q,W,rfl⟩;obtain⟨ht,rfl⟩:=YI hd;rw[YK];refine⟨_,Zq,?_⟩;walk_at"d";have et:Vn a[k] (t:Int)=(Qy a).th k t:=by show _=Vn (a.getD k default) (t:Int);rw[l]
   refine Zt (b:=(Qy a).th k t) (Zf.cast (ZJ<|Zb (Qv (Qq rfl)<|Qv (Qq rfl) QA) R_there.mk) et) (λc=>?_) (λc=>Zz ?_)
   .refine J8 (ΦA:=λts=>ts=[.fz<|QW<|nk<|.guest k,.fz<|QW<|nk<|.line a[k].line t,.fz<|.int a[k].most]) M1 rfl (WU (Qv (Zb (Qv (Qq rfl) QA) R_gnode.mk)<|Qv (Zb (Qv (Zb (Qv (Qq rfl) QA) R_lineof.mk)<|Qv (Qq rfl) QA) R_lnode.mk)<|Qv (Zb (Qv (Qq rfl) QA) R_most.mk) QA) rfl) (λts B=>?_);subst B;refine⟨_,R_lay.mk W ?n1 ?l1,λN2 R=>?_⟩
    case n1=>
     intro z;obtain⟨x,g,G⟩:=XL.mp z;injection G with r p;rcases XD.mp g with g|g
     .obtain⟨j,hj,g⟩:=X x g;rcases Wo.mp g with rfl|⟨t',_,_,rfl⟩
      .cases r
      .injection r with r;lia
     .rcases Xe.mp g with rfl|g
      .cases r
      .obtain⟨t',u,g⟩:=Wr.mp g;split at g
       .rw[Xh.mp g]at p;injection p with _ p;have:=XH.mp u;lia
       .cases g
    case l1=>
     rw[Xn];have:(((.start,.guest k,(Qy a).wa k):Nd×Nd×Int)::(List.range t).flatMap λt=>if (Qy a).th k t=true then [((.guest k,.line ((Qy a).ln k) t,(Qy a).mo k):Nd×Nd×Int)] else []).length<=1+t*1:=by
      rw[XN];have:=B8 (f:=λt=>if (Qy a).th k t=true then [((.guest k,.line ((Qy a).ln k) t,(Qy a).mo k):Nd×Nd×Int)] else []) (c:=1) (λt=>by split<;>simp) t;lia
     lia
    walk_at"d";refine⟨N2,_,?_,rfl⟩;rw[BE,Xd c];have r:(Qy a).ln k=a[k].line:=by show(a.getD k default).line=_;rw[l]
    have p:(Qy a).mo k=a[k].most:=by show(a.getD k default).most=_;rw[l]
    rw[<- r,<- p,GP]at R;exact R
   .refine⟨N,_,?_,rfl⟩;rw[BE,Xb<|by rw[c];decide,Xx];exact W
inductive R_lturn:Q8->List OT->(Q8->Prop)->Prop
 |mk {N:Q8}{y:Yd}{G:Gv}{t:Nat}(ok:y.Ok)(g8:G.m<=8)(ht:t<y.T)(h:NetR N ((List.range G.m).flatMap (Vk y G)++(List.range t).flatMap (VH y)) Wd):
  R_lturn N [.fz<|QJ y,.fz<|.int (t:Int)] (λN'=>NetR N' ((List.range G.m).flatMap (Vk y G)++(List.range<|t+1).flatMap (VH y)) Wd)
def Lh:Qp ["net","yard","turn","line"] ZaP (Q4 Ni):=by walk_at"p"
def EL(T:Bl mg)(U:Tx K mg C gS gE)(D:Df K mg "lay_turn" Ni ZaP)(N:ZC P w K mg base C "lay" Zab 2 (spN K P w C R_lay))(R:QE P w K mg base "bound_at" ZaB 1 (QL (K:=K) R_bound))(p:QE P w K mg base "line_node" ZaK 1 (QL (K:=K) R_lnode))
(Q:QE P w K mg base "line_count" ZaI 1 (QL (K:=K) R_count))(O:QE P w K mg base "above_of" ZaJ 1 (QL (K:=K) R_above)):QE P w K mg base "lay_turn" ZaP 3 (spN K P w C R_lturn):=by
 refine D.evN Lh (λM ts Ψ h=>by cases h;rfl) (λf cdv A outer s H E v M ts Ψ b h=>?_);cases h with
 |@mk y G t g g8 ht h=>
  refine⟨_,(Qz (Zu<|YG N U.net b (pv 0)<|Qo (QH p b<|Qo Qw<|Qo (pv 2) Qr)<|Qo (VZ (v:=.ref _) rfl U.mEND rfl)<|Qo (QH R b<|Qo (pv 1)<|Qo Qw<|Qo (pv 2) Qr) Qr)
 (Q2<|Vc zN rfl (by exact(TM rfl T.range<|Qo Qw<|Qo (QH Q b<|Qo (pv 1) Qr) Qr)) (Zh (i:=3) Lh.nd rfl Qa)<|by exact(Q2<|Zu<|YG N U.net b (pv 0)<|Qo (QH p b<|Qo (pv 3)<|Qo (pv 2) Qr)<|Qo (QH p b<|Qo (QH O b<|Qo (pv 1)<|Qo (pv 3) Qr)<|Qo (pv 2) Qr)<|Qo (QH R b<|Qo (pv 1)<|Qo (pv 3)<|Qo (pv 2) Qr) Qr))),?_⟩
  show Q3 K _ [_,_,_,_] _
  walk_at"x";have t8:=g.t8;have l1:=g.l1;have l5:=g.l5;have gl:=MY g G g8;have tl:=KA g (n:=t) (by lia);have B:∀x∈(List.range G.m).flatMap (Vk y G)++(List.range t).flatMap (VH y),(∃j,x∈Vk y G j)\/∃X,X<t/\x∈VH y X:=λx a=>by
   rcases XD.mp a with a|a
   .obtain⟨j,_,a⟩:=Kl.mp a;exact .inl ⟨j,a⟩
   .obtain⟨j,Z,a⟩:=Kl.mp a;exact .inr ⟨j,Z,a⟩
  refine QK (J8 (ΦA:=λts=>ts=[.fz<|QW<|nk<|.line 0 t,.fz<|QW<|nk .fin,.fz<|.int<|Z3 y 0 t]) M1 rfl (WU (Qv (Zb (Qv Q6<|Qv (Qq rfl) QA)<|R_lnode.mk (l:=0))<|Qv (Si U.aS U.aE)<|Qv (Zb (Qv (Qq rfl)<|Qv Q6<|Qv (Qq rfl) QA)<|R_bound.mk (k:=0) (t:=(t:Int)) g (by decide) (by lia) (by lia)<|by lia) QA) ?e0) λts m=>?_)
  case e0=>rw[Xo];rfl
  subst m;refine⟨_,R_lay.mk h ?n0<|by rw[Xn];lia,λN1 J=>?_⟩
  case n0=>
   intro F;obtain⟨x,a,L⟩:=XL.mp F;injection L with e1 e;rcases B x a with ⟨j,a⟩|⟨X,z,a⟩
   .rcases Wo.mp a with rfl|⟨u,_,_,rfl⟩<;>cases e1
   .rcases Je.mp a with rfl|⟨i,_,rfl⟩
    .injection e1 with _ e1;lia
    .cases e
  walk_at"d";refine V2 (ds:=Va 1 (y.ls.length-1)) (λi o=>∃(W:Q8) (q:Option OT),NetR W (((List.range G.m).flatMap (Vk y G)++(List.range t).flatMap (VH y))++((.line 0 t,.fin,Z3 y 0 t)::(List.range i).flatMap λi=>[(.line (i+1) t,.line (Mir.upN y<|i+1) t,Z3 y (i+1) t)])) Wd/\
   o=[zo v<|Zj P w C W,zf<|QJ y,zi (t:Int),q]) ?ei ⟨N1,none,by simpa using J,rfl⟩ ?st ?fin
  case ei=>exact EvI.cast (HZ (Qv Q6<|Qv (Zb (Qv (Qq rfl) QA) R_count.mk) QA)<|by rw[z62];lia) (WE rfl (by lia))
  case fin=>
   rintro _ ⟨W,q,Y,rfl⟩;rw[Wn]at Y;refine⟨W,?_,rfl⟩;rw[BE,<- GP];exact Y
  case st=>
   rintro i d _ hd ⟨W,q,Y,rfl⟩;obtain⟨hi,rfl⟩:=YI hd;have ei:(1:Int)+(i:Int)=((i+1:Nat):Int):=by lia
   rw[ei];refine⟨_,Zq,?_⟩;walk_at"d";refine J8 (ΦA:=λts=>ts=[.fz<|QW<|nk<|.line (i+1) t,.fz<|QW<|nk<|.line (Mir.upN y<|i+1) t,.fz<|.int<|Z3 y (i+1) t]) M1 rfl (WU (Qv (Zb (Qv (Qq rfl)<|Qv (Qq rfl) QA)<|R_lnode.mk (l:=i+1))<|Qv (Zb (Qv (Zb (Qv (Qq rfl)<|Qv (Qq rfl) QA)<|R_above.mk (k:=((i+1:Nat):Int)) g (by lia)<|by lia)<|Qv (Qq rfl) QA)<|R_lnode.mk (l:=upN y (((i+1:Nat):Int)).toNat))<|Qv (Zb (Qv (Qq rfl)<|Qv (Qq rfl)<|Qv (Qq rfl) QA)<|R_bound.mk (k:=((i+1:Nat):Int)) (t:=(t:Int)) g (by lia) (by lia) (by lia)<|by lia) QA) ?e1) (λts m=>?_)
   case e1=>rw[Xo,Xo];rfl
   subst m;refine⟨_,R_lay.mk Y ?n1 ?l1,λN2 r=>?_⟩
   case n1=>
    intro F;obtain⟨x,a,L⟩:=XL.mp F;injection L with e1 e;rcases XD.mp a with a|a
    .rcases B x a with ⟨j,a⟩|⟨X,z,a⟩
     .rcases Wo.mp a with rfl|⟨u,_,_,rfl⟩<;>cases e1
     .rcases Je.mp a with rfl|⟨S,_,rfl⟩
      .cases e
      .injection e1 with _ e1;lia
    .rcases Xe.mp a with rfl|a
     .cases e
     .obtain⟨S,I,a⟩:=Wr.mp a;rw[Xh.mp a]at e1;injection e1 with e1 _;have:=XH.mp I;lia
   case l1=>
    rw[Xn,Xn,XN];have:=B8 (f:=λi=>[((.line (i+1) t,.line (Mir.upN y<|i+1) t,Z3 y (i+1) t):Nd×Nd×Int)]) (c:=1) (λi=>by simp) i;lia
   walk_at"d";refine⟨N2,_,?_,rfl⟩;rw[BE];rw[GP]at r;exact r
def WO(y:Yd)(G:Gv)(φ:Zl Nd):Prop:=Flow y G φ/\∃es:Got Nd,Nd.start∈QX es/\Yi (Zm y G) φ es/\Nd.fin∉QX es
inductive R_filled(P:Program)(w:World)(C:Addr):List OT->(OT->Prop)->Prop
 |mk {y:Yd}{gs:List Gs}(ok:y.Ok)(hg:∀g∈gs,GOk y g)(g8:gs.length<=8):R_filled P w C [.fz<|QJ y,.fz<|.list<|gs.map QV] (λr=>∃v N φ,r=.own v (Zj P w C N)/\NetR N (Zm y<|Qy gs) φ/\WO y (Qy gs) φ)
def R7{y:Yd}(b:y.Ok)(a:l<y.ls.length)(g:t<y.T):0<=Z3 y l t:=by
 rw[MZ a];have h:=UB b a;have f:QU y l∈y.ls:=by simp[QU,a]
 have:(QU y l).bs.getD t 0=(QU y l).bs[t]'(by lia):=by simp[List.getD,show t<(QU y l).bs.length by lia]
 rw[this];exact(b.bb _ f _<|XX _).1
def Ah{y:Yd}(b:y.Ok)(m:∀g∈gs,GOk y g):∀x∈Zm y (Qy gs),0<=x.2.2:=λx a=>by
 have n:=b.l1;rcases G8.mp a with ⟨k,j,a⟩|⟨t,f,a⟩
 .have h:GOk y (gs.getD k default):=by rw[U4 j];exact m _ (XX _)
  rcases Wo.mp a with rfl|⟨t,_,_,rfl⟩
  .exact h.w0
  .exact h.m0
 .rcases Je.mp a with rfl|⟨i,p,rfl⟩
  .exact R7 b (by lia) f
  .exact R7 b (by lia) f
def BJ:Qp ["yard","guests","net","number","guest","turn"] Zaa (Q4 Nv):=by walk_at"p"
def Oz(T:Bl mg)(U:Tx K mg C gS gE)(D:Df K mg "filled_net" Nv Zaa)(u:DF P w K mg base "Net" C 1)(q:QE P w K mg base "lay_guest" Zac 3 (spN K P w C R_lguest))(k:QE P w K mg base "turns_of" ZaI 1 (QL (K:=K) R_turns))
(o:QE P w K mg base "lay_turn" ZaP 3 (spN K P w C R_lturn))(l:ZC P w K mg base C "fill" Zar 2 (spN K P w C R_fill)):QE P w K mg base "filled_net" Zaa 4 (Zr K<|R_filled P w C):=by
 refine D.evD BJ (λts F h=>by cases h;rfl) (λ_ _ _ _ s H E ts F B h=>?_);cases h with
 |@mk y f A L e=>
  refine⟨_,(Qz (QO (i:=2) BJ.nd rfl Qa<|Av u B)
 (Qz (Vc zN rfl (by exact(BL rfl T.enumerate<|Qo (pv 1) Qr)) (Jx (n:=2) rfl (Vy (Zh (i:=3) BJ.nd rfl Qa)<|Vy (Zh (i:=4) BJ.nd rfl Qa) Jc))<|by exact(Q2<|Zu<|QH q B<|Qo (pv 2)<|Qo (pv 0)<|Qo (pv 3)<|Qo (pv 4) Qr))
 (Qz (Vc zN rfl (by exact(Ys rfl T.range<|Qo (QH k B<|Qo (pv 0) Qr) Qr)) (Zh (i:=5) BJ.nd rfl Qa)<|by exact(Q2<|Zu<|QH o B<|Qo (pv 2)<|Qo (pv 0)<|Qo (pv 5) Qr))
 (Qz (Zu<|YG l U.net B (pv 2)<|Qo (VZ (v:=.ref _) rfl U.mSTART rfl)<|Qo (VZ (v:=.ref _) rfl U.mEND rfl) Qr)
 (Q2<|QT<|pv 2))))),?_⟩
  show Q3 K _ [_,_,_,_,_,_] _
  walk_at"x";have G:=A.t8;refine QK (M4 A5 λv=>?_);walk_at"d";refine QK (V2 (ds:=Us (f.map QV)) (λi r=>∃(m:Q8) (W R:Option OT),NetR m ((List.range i).flatMap (Vk y<|Qy f)) Wd/\r=[zf<|QJ y,zf<|.list<|f.map QV,zo v<|Zj P w C m,W,R,none]) (Bv<|Qv (Qq rfl) QA) ⟨_,none,none,Fb _,rfl⟩ ?st ?fin)
  case st=>
   rintro i d _ c ⟨m,W,R,p,rfl⟩;obtain⟨a,z,rfl⟩:=MS c;have x:i<f.length:=by
    have:=(Xf.mp z).1;simpa using this
   obtain rfl:a=QV f[i]:=by simpa [x] using z.symm
   refine⟨_,WQ (ds:=[.int (i:Int),QV f[i]]) (V5 Zq<|V5 Zq WT) rfl,?_⟩;walk_at"d";refine PV (ΦA:=λts=>ts=[.fz<|QJ y,.fz<|.int (i:Int),.fz<|QV f[i]]) rfl (WU (Qv (Qq rfl)<|Qv (Qq rfl)<|Qv (Qq rfl) QA) rfl) (λts g=>?_);subst g;refine⟨_,R_lguest.mk A e x p,λN j=>?_⟩;walk_at"d";exact⟨N,_,_,j,rfl⟩
  case fin=>
   rintro _ ⟨N1,W,R,M,rfl⟩;rw[MQ,Xl]at M;refine QK (V2 (ds:=Va 0 y.T) (λi r=>∃(m:Q8) (Y:Option OT),NetR m ((List.range (Qy f).m).flatMap (Vk y<|Qy f)++(List.range i).flatMap (VH y)) Wd/\r=[zf<|QJ y,zf<|.list<|f.map QV,zo v<|Zj P w C m,W,R,Y]) ?ei2 ⟨N1,none,by rw[show(List.range 0).flatMap (VH y)=[] from rfl,Xx];exact M,rfl⟩ ?st2 ?fin2)
   case ei2=>exact EvI.cast (Y3 (Qv (Zb (Qv (Qq rfl) QA) R_turns.mk) QA) (by rw[z62];lia)<|by rw[z62];lia) (WE rfl (by lia))
   case st2=>
    rintro t d _ c ⟨m,Y,p,rfl⟩;obtain⟨J,rfl⟩:=YI c;rw[YK];refine⟨_,Zq,?_⟩;walk_at"d";refine PV (ΦA:=λts=>ts=[.fz<|QJ y,.fz<|.int (t:Int)]) rfl (WU (Qv (Qq rfl)<|Qv (Qq rfl) QA) rfl) (λts g=>?_);subst g;refine⟨_,R_lturn.mk A e J p,λN j=>?_⟩;walk_at"d";exact⟨N,_,j,rfl⟩
   case fin2=>
    rintro _ ⟨m,Y,p,rfl⟩;rw[Wn]at p;have p:NetR m (Zm y<|Qy f) Wd:=p;have I:(Zm y<|Qy f).length<400:=by
     unfold Zm;rw[Xn];have a:=MY A (Qy f) (n:=(Qy f).m) e;have b:=KA A G;lia
    refine QK (J8 (ΦA:=λts=>ts=[.fz<|QW<|nk .start,.fz<|QW<|nk .fin]) EG rfl (WU (Qv (Ka U.aS)<|Qv (Si U.aS U.aE) QA) rfl) λts g=>?_);subst g;refine⟨_,R_fill.mk p (Fe<|Ah A L) I,λN j=>?_⟩;obtain⟨X,es,h1,Z,S,Q,O⟩:=j;walk_at"d";exact HK rfl ⟨v,N,X,rfl,h1,Z,es,S,Q,O⟩
def W6(y:Yd)(G:Gv)(φ:Zl Nd):List (Ql):=(List.range G.m).map λk=>(List.range y.T).map λt=>QS G φ t k
def ON{y:Yd}(n:k<G.m)(h:t<y.T):Br (Zm y G) φ (.guest k) (.line (G.ln k) t)=QS G φ t k:=by
 unfold Br QS;by_cases c:G.th k t=true
 .rw[Xd c,Xd<|XL.mpr ⟨_,Mv n h c,rfl⟩]
 .rw[Xb c,Xb λm=>?_];obtain⟨x,a,p⟩:=XL.mp m;injection p with b f;rcases G8.mp a with ⟨j,_,a⟩|⟨g,_,a⟩
  .rcases Wo.mp a with rfl|⟨g,_,r,rfl⟩
   .cases b
   .injection b with b;injection f with _ f;subst b f;exact c r
  .rcases Je.mp a with rfl|⟨i,_,rfl⟩<;>cases b
inductive R_takes(P:Program)(w:World)(C:Addr):List OT->OT->Prop
 |mk {N:Q8}{y:Yd}{gs:List Gs}{φ:Zl Nd}{k:Nat}(ok:y.Ok)(h:NetR N (Zm y<|Qy gs) φ)(hk:k<gs.length):R_takes P w C [.zow<|Ve P w C N,.fz<|QJ y,.fz<|.int (k:Int),.fz<|QV gs[k]] (.ol<|(List.range y.T).map λt=>PyData.int<|QS (Qy gs) φ t k)
def ZkE:Qp Zac Zac (Q4 MU):=by walk_at"p"
def E8(T:Bl mg)(U:Tx K mg C gS gE)(D:Df K mg "takes_by" MU Zac)(v:QE P w K mg base "turns_of" ZaI 1 (QL (K:=K) R_turns))(A:ZC P w K mg base C "flow" Zar 1 (Zr K<|R_flow P w C))(m:QE P w K mg base "line_node" ZaK 1 (QL (K:=K) R_lnode))(g:QE P w K mg base "line_of" ZaD 1 (QL (K:=K) R_lineof))(j:QE P w K mg base "guest_node" ZaY 1 (QL (K:=K) R_gnode)):
 QE P w K mg base "takes_by" Zac 2 (QL (K:=K)<|R_takes P w C):=by
 refine D.ev ZkE (λts r h=>by cases h;rfl) (λ_ _ _ _ s H E ts r b h=>?_);cases h with
 |@mk N y a φ k R h B=>
  refine⟨_,(Q2<|QT<|Wy (NX:=Zac) (sc:=Q4 MU) (N:=["turn","net","number","guest"]) (f:=[none,some 0,some 2,some 3]) rfl (by decide +kernel) rfl rfl (Ys rfl T.range<|Qo (QH v b<|Qo (pv 1) Qr) Qr) (λ_=>(Zh (i:=0) (show(["turn","net","number","guest"]:Qh).Nodup by decide +kernel) rfl Qa)) (λ_=>Ym) (λ_=>J1) λ_=>(YG A U.net b (pv 1)<|Qo (QH j b<|Qo (pv 2) Qr)<|Qo (QH m b<|Qo (QH g b<|Qo (pv 3) Qr)<|Qo (pv 0) Qr) Qr)),?_⟩;show Q3 K _ [_,_,_,_] _
  walk_at"x";have Y:=R.t8;refine Uu (Hk (lo:=0) (n:=y.T) (h:=λt=>PyData.int<|QS (Qy a) φ t k) ?ei (by lia) ?el) rfl
  case ei=>exact EvI.cast (Y3 (Qv (Zb (Qv (Qq rfl) QA) R_turns.mk) QA) (by rw[z62];lia)<|by rw[z62];lia) (WE rfl (by lia))
  case el=>
   intro t W c;refine⟨_,Zq,?_⟩;walk_at"e";rw[YK];have X:(Qy a).ln k=a[k].line:=by show(a.getD k default).line=_;rw[U4 B]
   have M:=ON (y:=y) (G:=Qy a) (φ:=φ) (k:=k) B W;rw[X]at M;exact Qs.cast (EvO.e<|Z2.o<|Kr Of rfl (Qv (Zb (Qv (Qq rfl) QA) R_gnode.mk)<|Qv (Zb (Qv (Zb (Qv (Qq rfl) QA) R_lineof.mk)<|Qv (Qq rfl) QA) R_lnode.mk) QA)<|R_flow.mk (p:=.guest k) (q:=.line a[k].line t) h) (by rw[M])
inductive R_great:List OT->(OT->Prop)->Prop
 |mk {y:Yd}{gs:List Gs}(ok:y.Ok)(hg:∀g∈gs,GOk y g)(g8:gs.length<=8):R_great [.fz<|QJ y,.fz<|.list<|gs.map QV] (λr=>∃φ,WO y (Qy gs) φ/\r=.oll ((W6 y (Qy gs) φ).map λrow=>row.map PyData.int))
def LH:Qp ["yard","guests","net"] Zaa (Q4 Ds):=by walk_at"p"
def E5(T:Bl mg)(U:Tx K mg C gS gE)(D:Df K mg "greatest_filling" Ds Zaa)(B:QE P w K mg base "filled_net" Zaa 4 (Zr K<|R_filled P w C))(M:QE P w K mg base "takes_by" Zac 2 (QL (K:=K)<|R_takes P w C)):QE P w K mg base "greatest_filling" Zaa 5 (Zr K R_great):=by
 refine D.evD LH (λts e h=>by cases h;rfl) (λ_ _ _ _ s H E ts e W h=>?_);cases h with
 |@mk y a R o u=>
  refine⟨_,(Qz (QO (i:=2) LH.nd rfl (Or.inr rfl)<|QH B W<|Qo (pv 0)<|Qo (pv 1) Qr)
 (Q2<|QT<|Wy (NX:=["yard","guests","net"]) (sc:=Q4 Ds) (N:=ZaL) (f:=[none,none,some 2,some 0]) rfl (by decide +kernel) rfl rfl (BL rfl T.enumerate<|Qo (pv 1) Qr) (λ_=>(Jx (n:=2) rfl (Vy (Zh (i:=0) (show(ZaL:Qh).Nodup by decide +kernel) rfl Qa)<|Vy (Zh (i:=1) (show(ZaL:Qh).Nodup by decide +kernel) rfl Qa) Jc))) (λ_=>(SA (n:=2)<|M8 Ym<|M8 Ym Pl)) (λ_=>J1) λ_=>(QH M W<|Qo (pv 2)<|Qo (pv 3)<|Qo (pv 0)<|Qo (pv 1) Qr))),?_⟩
  show Q3 K _ [_,_,_] _
  walk_at"x";refine QK (Wk (WB (Qv (Qq rfl)<|Qv (Qq rfl) QA)<|R_filled.mk R o u) λr A=>?_);obtain⟨v,N,j,rfl,q,b⟩:=A;walk_at"d";refine Iq 2 rfl ?_;walk_at"d";refine Uu (r:=.oll ((W6 y (Qy a) j).map λm=>m.map PyData.int)) (EvO.cast (Cb (xs:=a.zipIdx) (enc:=λp=>PyData.tuple [.int (p.2:Int),QV p.1]) (h:=λp=>(List.range y.T).map λt=>PyData.int<|QS (Qy a) j t p.2) ?ei (by simp;lia) ?el) ?eq) ⟨j,b,rfl⟩
  case ei=>
   refine EvI.cast (Bv<|Qv (Qq rfl) QA) ?_;unfold Us;rw[List.zipIdx_map,X7];rfl
  case eq=>
   congr 1
   unfold W6;rw[X7];have:(Qy a).m=a.length:=rfl;rw[this];apply List.ext_getElem?;intro i;by_cases Y:i<a.length
   .simp[Y,X7,Function.comp_def]
   .simp[Y]
  case el=>
   intro p l c;obtain⟨X,d⟩:∃h:p.2<a.length,p.1=a[p.2]:=by
    have:=List.mem_zipIdx l;simp at this;exact⟨this.1,this.2⟩
   obtain⟨g,k⟩:=p;simp only at X d;subst d;refine⟨_,WQ (ds:=[.int (k:Int),QV a[k]]) (V5 Zq<|V5 Zq WT) rfl,?_⟩;walk_at"e";exact Mm (Mg rfl (Qv (Qq rfl)<|Qv (Qq rfl)<|Qv (Qq rfl) QA)) (R_takes.mk R q X)
def Zh3:Qp Zaa Zaa (Q4 NG):=by walk_at"p"
def AH(T:Bl mg)(D:Df K mg "best_filling" NG Zaa)(b:QE P w K mg base "greatest_filling" Zaa 5 (Zr K R_great)):QE P w K mg base "best_filling" Zaa 6 (Zr K R_great):=by
 refine D.evD Zh3 (λts f h=>by cases h;rfl) (λ_ _ _ _ s H E ts f g h=>?_);have i:=h;cases h with
 |@mk y n j m p=>
  refine⟨_,(Q2<|QT<|QH b g<|Qo (pv 0)<|Qo (pv 1) Qr),?_⟩;show Q3 K _ [_,_] _
  walk_at"x";exact Pj (WB (Qv (Qq rfl)<|Qv (Qq rfl) QA) i) (λr a=>a)
noncomputable def Zk(y:Yd)(G:Gv)(S:Qm):Int:=Q1 (Zd S G.wa) G.m-Q1 (λt=>passes y (λl=>Z3 y l t) (VA G S t) 0) y.T
noncomputable def Bh(y:Yd)(G:Gv)(φ:Zl Nd):Int:=Q1 (λk=>G.wa k-Q1 (λt=>QS G φ t k) y.T) G.m
def IL{y:Yd}(F:Flow y G φ)(f:y.Ok)(b:∀k,k<G.m->G.ln k<y.ls.length)(S:Qm):Zk y G S<=Bh y G φ:=by
 have g:∀k,k<G.m->0<=G.wa k-Q1 (λt=>QS G φ t k) y.T:=λk a=>by
  rw[F.total a];have:=F.want a;lia
 have n:Q1 (Zd S λk=>G.wa k-Q1 (λt=>QS G φ t k) y.T) G.m<=Bh y G φ:=Wj λk a=>Kn (g k a)
 have m:Q1 (Zd S λk=>G.wa k-Q1 (λt=>QS G φ t k) y.T) G.m=Q1 (Zd S G.wa) G.m-Q1 (Zd S λk=>Q1 (λt=>QS G φ t k) y.T) G.m:=by
  rw[<- Ke];refine Zi λk _=>?_;unfold Zd;dsimp only;split<;>lia
 have j:Q1 (λt=>Q1 (Zd S<|QS G φ t) G.m) y.T=Q1 (Zd S λk=>Q1 (λt=>QS G φ t k) y.T) G.m:=by
  rw[BA (λt k=>Zd S (QS G φ t) k) y.T G.m];refine Zi λk _=>?_;unfold Zd;cases S k with
  |true=>rfl
  |false=>simp only[X6,if_false];exact Vj _
 have i:Q1 (λt=>Q1 (Zd S<|QS G φ t) G.m) y.T<=Q1 (λt=>passes y (λl=>Z3 y l t) (VA G S t) 0) y.T:=Wj λt h=>F.no_more f b S h;unfold Zk;lia
def Bp{y:Yd}(b:∀g∈gs,GOk y g):∀k,k<(Qy gs).m->(Qy gs).ln k<y.ls.length:=λk a=>by
 show(gs.getD k default).line<_
 rw[U4 a];exact(b _<|XX _).ln
def Zn(gs:List Gs)(S:Qm):Qk:=(List.range gs.length).filter S
def MG(b:gs.length<=8)(S:Qm):SetOk gs (Zn gs S):=
 ⟨λk a=>XH.mp (WJ.mp a).1,X0 (List.length_filter_le _ _)<|by simpa using b⟩
theorem TJ(f:Qn):∀n,((List.range n).map f).sum=Q1 f n
 |0=>rfl
 |n+1=>by rw[YL,XF,BP,TJ f n];simp[Q1]
theorem TY(f:Qn)(p:Qm):∀n,(((List.range n).filter p).map f).sum=Q1 (Zd p f) n
 |0=>rfl
 |n+1=>by
  rw[YL,JP,XF,BP,TY f p n];show _=Q1 (Zd p f) n+Zd p f n;unfold Zd;cases e:p n with
  |true=>simp[JV,e]
  |false=>simp[JV,e]
def Aa(gs:List Gs)(S:Qm)(t l:Nat):VA (Qy gs) S t l=W0 gs t (Zn gs S) l:=by
 show _=Zw gs (t:Int) l ((List.range gs.length).filter S);rw[Zmv];unfold VA;refine Zi λk a=>?_;have a:k<gs.length:=a;unfold Zd moT wgt ind;rw[XS a];have g:(Qy gs).th k t=Vn gs[k] (t:Int):=by show Vn (gs.getD k default) _=_;rw[U4 a]
 have f:(Qy gs).mo k=gs[k].most:=by show(gs.getD k default).most=_;rw[U4 a]
 have b:(Qy gs).ln k=gs[k].line:=by show(gs.getD k default).line=_;rw[U4 a]
 rw[g,f,b];cases S k with
 |false=>simp
 |true=>
  simp only[if_true];by_cases c:gs[k].line=l
  .by_cases d:Vn gs[k] (t:Int)=true
   .simp[c,d]
   .simp[c,d]
  .simp[c]
def Yr(gs:List Gs)(a:Qk):Int:=(a.map λk=>(gs.getD k default).want).sum
def KG(y:Yd)(gs:List Gs)(S:Qm):Zk y (Qy gs) S=Yr gs (Zn gs S)-BF y gs (Zn gs S):=by
 unfold Zk;congr 1
 .exact(TY _ S gs.length).symm
 .unfold BF;rw[TJ];refine Zi λt _=>?_;unfold ZH;rw[show VA (Qy gs) S t=W0 gs t (Zn gs S) from funext λl=>Aa gs S t l]
def DX(y:Yd)(G:Gv)(φ:Zl Nd)(es:Got Nd):Prop:=Flow y G φ/\Nd.start∈QX es/\Yi (Zm y G) φ es/\Nd.fin∉QX es
inductive R_lset:List OT->(OT->Prop)->Prop
 |mk {y:Yd}{gs:List Gs}(ok:y.Ok)(hg:∀g∈gs,GOk y g)(g8:gs.length<=8):R_lset [.fz<|QJ y,.fz<|.list<|gs.map QV] (λr=>∃φ es,DX y (Qy gs) φ es/\r=.ol (Za<|Zn gs<|Vu es))
def LK:Qp ["yard","guests","edges"] Zaa (Q4 Dn):=by walk_at"p"
def Zlm(T:Bl mg)(U:Tx K mg C gS gE)(D:Df K mg "guests_reached" Dn Zaa)(R:QE P w K mg base "filled_net" Zaa 4 (Zr K<|R_filled P w C))(W:ZC P w K mg base C "reached" ZaT 1 (Zr K<|R_reached P w C))(X:QE P w K mg base "guest_node" ZaY 1 (QL (K:=K) R_gnode)):
 QE P w K mg base "guests_reached" Zaa 5 (Zr K R_lset):=by
 refine D.evD LK (λts Φ h=>by cases h;rfl) (λ_ _ _ _ s H E ts Φ M h=>?_);cases h with
 |@mk y g B q d=>
  refine⟨_,(Qz (QO (i:=2) LK.nd rfl (Or.inr rfl)<|YG W U.net M (QH R M<|Qo (pv 0)<|Qo (pv 1) Qr)<|Qo (VZ (v:=.ref _) rfl U.mSTART rfl) Qr)
 (Q2<|QT<|Wy (NX:=["yard","guests","edges"]) (sc:=Q4 Dn) (N:=["number","edges"]) (f:=[none,some 2]) rfl (by decide +kernel) rfl rfl (Ys rfl T.range<|Qo (Zx V1 (by rfl) T.len Vx<|Qo (pv 1) Qr) Qr) (λ_=>(Zh (i:=0) (show(["number","edges"]:Qh).Nodup by decide +kernel) rfl Qa)) (λ_=>Ym) (λ_=>(G2<|Gq<|Ht (Yz M) (QH X M<|Qo (pv 0) Qr)<|pv 1)) λ_=>(pv 0))),?_⟩
  show Q3 K _ [_,_,_] _
  walk_at"x";have o:(Zm y<|Qy g).length<400:=by
   unfold Zm;rw[Xn];have a:=MY B (Qy g) (n:=(Qy g).m) d;have b:=KA B B.t8;lia
  refine QK (Wk (Φ:=λr=>∃v A es,r=.own v (V6<|kvG es)/\DX y (Qy g) A es) (E3 (P:=P) (w:=w) LC (WB (Qv (Qq rfl)<|Qv (Qq rfl) QA)<|R_filled.mk B q d) (λr m=>?_)<|Qv (Ka U.aS) QA) λr m=>?_)
  .obtain⟨v,N,A,rfl,t,F,J,G,x,u⟩:=m;refine⟨v,N,rfl,_,R_reached.mk (s:=.start) t o,by rintro r ⟨l,es,e,Y,L⟩;exact⟨l,A,es,e,F,Y.start,L,λz=>u<|Y.inClosed x G _ z⟩⟩
  .obtain⟨v,A,es,rfl,I⟩:=m;walk_at"d";refine Px 2 rfl ?_;walk_at"d";refine Uu (r:=.ol (Za<|Zn g<|Vu es)) (Gi (xs:=List.range g.length) (enc:=λ(j:Nat)=>PyData.int (j:Int)) (h:=λ(j:Nat)=>PyData.int (j:Int)) (p:=Vu es) ?ei (by simp;lia) ?el) ⟨A,es,I,rfl⟩
   case ei=>
    have e:(g.map QV).length=g.length:=by simp
    refine EvI.cast (Y3 (Qv (J5<|Qq rfl) QA) (by rw[z62,e];lia)<|by rw[z62,e];lia) ?_;rw[e,Xo];unfold Va;refine WK λi _=>?_;rw[YK]
   case el=>
    intro k O c;refine⟨_,Zq,?_,λ_=>?_⟩
    .walk_at"e";exact Zf.cast (ZJ<|C0 (k:=nk (.guest k)) (Zb (Qv (Qq rfl) QA) R_gnode.mk) rfl) (Bs _ _)
    .walk_at"e";exact Qq rfl
def ZhE:Qp Zaa Zaa (Q4 NA):=by walk_at"p"
def Aj(T:Bl mg)(D:Df K mg "lacking_set" NA Zaa)(b:QE P w K mg base "guests_reached" Zaa 5 (Zr K R_lset)):QE P w K mg base "lacking_set" Zaa 6 (Zr K R_lset):=by
 refine D.evD ZhE (λts f h=>by cases h;rfl) (λ_ _ _ _ s H E ts f g h=>?_);have i:=h;cases h with
 |@mk y n j m p=>
  refine⟨_,(Q2<|QT<|QH b g<|Qo (pv 0)<|Qo (pv 1) Qr),?_⟩;show Q3 K _ [_,_] _
  walk_at"x";exact Pj (WB (Qv (Qq rfl)<|Qv (Qq rfl) QA) i) (λr a=>a)
def HG(y:Yd)(gs:List Gs)(a:Qk):Int:=Yr gs a-BF y gs a
inductive R_short:List OT->OT->Prop
 |mk {y:Yd}{gs:List Gs}{sm:Qk}(ok:y.Ok)(hg:∀g∈gs,g.line<y.ls.length)(hs:SetOk gs sm):
  R_short [.fz<|QJ y,.fz<|.list<|gs.map QV,.fz<|.list<|Za sm] (.fz<|.int<|HG y gs sm)
def ZkY:Qp Zad Zad (Q4 MW):=by walk_at"p"
def E7(T:Bl mg)(D:Df K mg "short_of" MW Zad)(b:QE P w K mg base "want_of" ZaD 1 (QL (K:=K) R_want))(g:QE P w K mg base "given_most" Zad 4 (QL (K:=K) R_givenm)):
 QE P w K mg base "short_of" Zad 5 (QL (K:=K) R_short):=by
 refine D.ev ZkY (λts r h=>by cases h;rfl) (λ_ _ _ _ s H E ts r n h=>?_);cases h with
 |@mk y p m v B a=>
  refine⟨_,(Q2<|QT<|QP Y1 (Zx HA (by rfl) T.sum Hg<|Qo (Wy (NX:=Zad) (sc:=Q4 MW) (N:=["number","guests"]) (f:=[none,some 1]) rfl (by decide +kernel) rfl rfl (W9<|pv 2) (λ_=>(Zh (i:=0) (show(["number","guests"]:Qh).Nodup by decide +kernel) rfl Qa)) (λ_=>Ym) (λ_=>J1) λ_=>(QH b n<|Qo (QC QD (pv 1)<|pv 0) Qr)) Qr)<|QH g n<|Qo (pv 0)<|Qo (pv 1)<|Qo (pv 2) Qr),?_⟩;show Q3 K _ [_,_,_] _
  walk_at"x";have C:=a.len;refine ZZ (Z7 (Md (ns:=m.map λk=>(p.getD k default).want) ?_ rfl)<|Zb (by walk_at"ea")<|R_givenm.mk v B a) rfl;refine EvO.fz ?_;rw[X7];refine Bb (xs:=m) (enc:=λ(j:Nat)=>PyData.int (j:Int)) ?_ (by lia) ?_
  .walk_at"ei"
  .intro x A c;have M:=a.mem x A;refine⟨_,by walk_at"g",?_⟩;walk_at"e";refine Zb (ts:=[.fz<|QV<|p.getD x default]) (Qv (Qs.cast (by walk_at"ev")<|by rw[Xo]) QA) R_want.mk
def Zfs:Qp ZaQ ZaQ (Q4 GI):=by walk_at"p"
def Zn8{f:Addr}(T:Bl mg)(F:Fun K "__init__" "NoRoom.__init__" GI f fd)(j:UQ K YR CR f)(xs:LM K CR)(b:W.takerIn K CR "some"=some none)(g:mg "YardError"=some (.ref YR)):FnOk P w K mg base CX0 1 f fd ZaQ (B4 K CR "some"):=by
 refine F.ok Zfs ?_ (λm A outer s H a Q E n h=>⟨_,Qz (Zu<|Ij (i:=0) j rfl g rfl Qa)<|Q2<|AF xs b (pv 0) (WF HM (by rfl) T.list M3<|Qo (pv 1) Qr) rfl,Im h⟩);rintro a H Q E ⟨e,p,xs,h,_⟩;rw[h];rfl
inductive R_refuse:List OT->(OT->Prop)->Prop
 |mk {y:Yd}{gs:List Gs}(ok:y.Ok)(hg:∀g∈gs,GOk y g)(g8:gs.length<=8)(h:∀S,Zk y (Qy gs) S<=0):R_refuse [.fz<|QJ y,.fz<|.list<|gs.map QV] (λr=>r=.fz .none)
inductive X_refuse:List OT->(Qd->Prop)->Prop
 |mk {y:Yd}{gs:List Gs}(ok:y.Ok)(hg:∀g∈gs,GOk y g)(g8:gs.length<=8){S:Qm}(h:0<Zk y (Qy gs) S):X_refuse [.fz<|QJ y,.fz<|.list<|gs.map QV] (λd=>∃S,0<Zk y (Qy gs) S/\d=Za (Zn gs S))
def ND:Qp Zad Zaa (Q4 NC):=by walk_at"p"
def OB(T:Bl mg)(o:XC K mg "NoRoom" YR CR fR)(D:Df K mg "refuse_lack" NC Zaa)(W:QE P w K mg base "lacking_set" Zaa 6 (Zr K R_lset))(R:QE P w K mg base "short_of" Zad 5 (QL (K:=K) R_short))(X:DV P w K mg base fR ZaQ 1 (B4 K CR "some")):
 Ue P w K mg base "refuse_lack" Zaa 7 (spX K CR "some" R_refuse X_refuse):=by
 refine D.evZ ND (λts k h=>by cases h;rfl) (λts k h=>by cases h;rfl) (by decide) (λf l A outer s H RR ts k v n h=>?_) (λf l A outer s F H RR ts k v n q h=>?_)
 .cases h with
  |@mk y B m M N h=>
   refine⟨_,(Qz (QO (i:=2) ND.nd rfl Qa<|QH W v<|Qo (pv 0)<|Qo (pv 1) Qr)
 (Q2<|Zo (ZG Yh (QH R v<|Qo (pv 0)<|Qo (pv 1)<|Qo (pv 2) Qr) Qw<|Zy _) (Q2<|Tr o X n v<|Qo (pv 2) Qr) Zp)),?_⟩
   show Q3 K _ [_,_,_] _
   walk_at"x";have E:=M;refine QK (Wk (WB (Qv (Qq rfl)<|Qv (Qq rfl) QA)<|R_lset.mk m E N) λr p=>?_);obtain⟨C,es,j,rfl⟩:=p;walk_at"d";refine Ur 2 rfl ?_;walk_at"d";have Y:=h (Vu es);rw[KG]at Y;exact Zt (b:=false) (Zf.cast (ZA<|Vh (Zb (Qv (Qq rfl)<|Qv (Qq rfl)<|Qv (Qq rfl) QA)<|R_short.mk m (λg h=>(M g h).ln)<|MG N _) Q6)<|XI<|by unfold HG;lia) (by rintro⟨⟩) (λ_=>Zz rfl)
 .cases h with
  |@mk y B m M N S h=>
   refine⟨_,(Qz (QO (i:=2) ND.nd rfl Qa<|QH W v<|Qo (pv 0)<|Qo (pv 1) Qr)
 (Q2<|Zo (ZG Yh (QH R v<|Qo (pv 0)<|Qo (pv 1)<|Qo (pv 2) Qr) Qw<|Zy _) (Q2<|Tr o X n v<|Qo (pv 2) Qr) Zp)),?_⟩
   show EvZ K F H _ [some _,some _,none]
   walk_at"x";have E:=M;refine FN (λd=>∃C es,DX y (Qy B) C es/\d=[zf<|QJ y,zf<|.list<|B.map QV,some<|.ol<|Za<|Zn B<|Vu es]) (Wk (WB (Qv (Qq rfl)<|Qv (Qq rfl) QA)<|R_lset.mk m E N) λr p=>?_) ?_
   .obtain⟨C,es,j,rfl⟩:=p;exact⟨C,es,j,rfl⟩
   .rintro _ ⟨C,es,j,rfl⟩;refine FQ 2 rfl ?_;walk_at"d";have Y:0<Zk y (Qy B) (Vu es):=by
     have a:=IL j.1 m (Bp E) S;have e:=j.1.lack m (Bp E) j.2.2.1 j.2.1 j.2.2.2;have e:Bh y (Qy B) C=Zk y (Qy B) (Vu es):=e;lia
    have t:=Y;rw[KG]at t;exact RM (b:=true) (Zf.cast (ZA<|Vh (Zb (Qv (Qq rfl)<|Qv (Qq rfl)<|Qv (Qq rfl) QA)<|R_short.mk m (λg h=>(M g h).ln)<|MG N _) Q6)<|XJ<|by unfold HG;lia) (λ_=>ER (Qq rfl) ⟨Vu es,Y,rfl⟩ q) (by rintro⟨⟩)
inductive R_feed:List OT->(OT->Prop)->Prop
 |mk {n:Int}:R_feed [.fz<|.int n] (λr=>∃a b:Int,r=.ol [.int a,.int b])
def JK:Qp ["_law_cell","_law_big","_law_one","_law_other","_law_k"] ["_law_cell"] (Q4 KO):=by walk_at"p"
def An(T:Bl mg)(D:Df K mg "_law_feed" KO ["_law_cell"]):QE P w K mg base "_law_feed" ["_law_cell"] 1 (Zr K R_feed):=by
 refine D.evD JK (λts r h=>by cases h;rfl) (λ_ _ _ _ s H E ts r o h=>?_);cases h with
 |@mk n=>
  refine⟨_,(Qz (QO (i:=1) JK.nd rfl Qa Qw)
 (Qz (QO (i:=2) JK.nd rfl Qa<|QP Vi (QP W3 (QP GA (pv 0) Qw) Qw) Qw)
 (Qz (QO (i:=3) JK.nd rfl Qa<|QP Vi (QP W3 (QP GA (pv 0) Qw) Qw) Qw)
 (Qz (Vc zN rfl (by exact(Ys rfl T.range<|Qo Qw Qr)) (Zh (i:=4) JK.nd rfl Qa) (by exact(Qz (QO (i:=2) JK.nd rfl Qa<|QP W3 (QP Vi (QP Vi (QP Gp (pv 2)<|pv 2)<|QP Gp Qw<|pv 3)<|pv 4) Qw)
 (Qz (QO (i:=3) JK.nd rfl Qa<|QP W3 (QP Vi (QP Vi (QP Gp (pv 3)<|pv 3)<|QP Gp Qw<|pv 2) Qw) Qw)
 (Q2<|QO (i:=1) JK.nd rfl Qa<|QP Vi (QP Gp (pv 1) Qw)<|pv 3)))))
 (Qz (Zo (ZG Um (QP W3 (pv 0) Qw) Qw<|Zy _) (Q2<|QT<|ZE<|Qo (QP GA (pv 0) Qw)<|Qo (pv 1) Qr) Zp)
 (Q2<|QT<|ZE<|Qo (pv 1)<|Qo Qw Qr)))))),?_⟩
  show Q3 K _ [_,_,_,_,_] _
  walk_at"x";refine QK (ZD Q6 ?_);walk_at"d";have p:∀{i:Int},Gb i 2:=DB (by decide) (by decide);have k:∀{i:Int},Gb i 3:=DB (by decide) (by decide);refine QK (ZD (Z7 (ZK (ZK (Qq rfl) Q6 p) Q6<|by decide) Q6) ?_);walk_at"d";refine QK (ZD (Z7 (ZK (ZK (Qq rfl) Q6 k) Q6<|by decide) Q6) ?_);walk_at"d";have A:0<=n/2%2147483647+11/\n/2%2147483647+11<4294967296:=by lia
  have v:0<=n/3%2147483629+7/\n/3%2147483629+7<4294967296:=by lia
  generalize n/2%2147483647+11=x at A;generalize n/3%2147483629+7=y at v;refine QK (V2 (ds:=Va 0 40) (λ_ g=>∃(a b c:Int) (u:Option OT),(0<=a/\a<4294967296)/\(0<=b/\b<4294967296)/\g=[zi n,zi c,zi a,zi b,u]) ?ei ⟨x,y,0,none,A,v,rfl⟩ ?st ?fin)
  case ei=>exact EvI.cast (Y3 (Qv Q6 QA) (by rw[z62];decide)<|by rw[z62];decide) (WE rfl (by decide))
  case st=>
   rintro i d _ X ⟨a,b,c,u,e,Y,rfl⟩;obtain⟨q,rfl⟩:=YI X;refine⟨_,Zq,?_⟩;walk_at"d";have B:(2:Int)^64=18446744073709551616:=by decide
   have W:Jo a a:=.inl ⟨by lia,by lia⟩;have R:∀{z:Int},Jo 48271 z:=.inl ⟨by decide,by decide⟩;have N:∀{z:Int},Jo 69621 z:=.inl ⟨by decide,by decide⟩;have M:∀{z:Int},Jo z 2147483629:=.inr ⟨by decide,by decide⟩;have C:Jo b b:=.inl ⟨by lia,by lia⟩;refine QK (ZD (ZK (Z7 (Z7 (ZK (Qq rfl) (Qq rfl) W)<|ZK Q6 (Qq rfl) R)<|Qq rfl) Q6<|by decide) ?_);walk_at"d";have m:0<=(a*a+48271*b+(0+(i:Int)))%2147483647/\(a*a+48271*b+(0+(i:Int)))%2147483647<4294967296:=⟨Int.emod_nonneg _<|by decide,Int.lt_trans (Int.emod_lt_of_pos _<|by decide)<|by decide⟩;generalize (a*a+48271*b+(0+(i:Int)))%2147483647=f at m;refine QK (ZD (ZK (Z7 (Z7 (ZK (Qq rfl) (Qq rfl) C)<|ZK Q6 (Qq rfl) N) Q6) Q6<|by decide) ?_);walk_at"d";have j:0<=(b*b+69621*f+1)%2147483629/\(b*b+69621*f+1)%2147483629<4294967296:=⟨Int.emod_nonneg _<|by decide,Int.lt_trans (Int.emod_lt_of_pos _<|by decide)<|by decide⟩;generalize (b*b+69621*f+1)%2147483629=l at j;refine ZD (Z7 (ZK (Qq rfl) Q6 M)<|Qq rfl) ?_;exact⟨f,l,_,_,m,j,rfl⟩
  case fin=>
   rintro _ ⟨a,b,c,u,e,Y,rfl⟩;refine QK (Zt (b:=decide (n%2=0)) (Zf.cast (ZA<|Js (ZK (Qq rfl) Q6<|by decide) Q6) rfl) (λ_=>?_) λ_=>Zz ?_)
   .exact Uu (V4 (ds:=[.int<|n/2,.int c]) (QY (ZK (Qq rfl) Q6 p)<|QY (Qq rfl) Z9) YO) ⟨_,_,rfl⟩
   .exact Uu (V4 (ds:=[.int c,.int 0]) (QY (Qq rfl)<|QY Q6 Z9) YO) ⟨_,_,rfl⟩
inductive R_digit:Qd->List OT->(OT->Qd->Prop)->Prop
 |mk {a b m:Int}(h0:0<m)(h1:m<=10^60):R_digit [.int a,.int b] [.fz<|.int m] (λr ds'=>∃n a' b':Int,0<=n/\n<m/\r=.fz (.int n)/\ds'=[.int a',.int b'])
def LF:Qp ["_law_feed_here","_law_many","_law_digit_here"] Zat (Q4 Nq):=by walk_at"p"
def Et(T:Bl mg)(D:Df K mg "_law_digit" Nq Zat):QE P w K mg base "_law_digit" Zat 1 (spP K olP R_digit):=by
 refine D.evP LF (λM ts Ψ h=>by cases h;rfl) (λf C A outer s H E v M ts Ψ N h=>?_);cases h with
 |@mk a b m n B=>
  refine⟨_,(Qz (Zo (ZG Um (QC QD (pv 0) Qw) Qw<|Zy _) (Qz (YD (QC QD (pv 0) Qw)<|W7 (pv 0) Qw Yk)
 (Q2<|YD Qw<|W7 (pv 0) Qw Yk)) Zp)
 (Qz (QO (i:=2) LF.nd rfl Qa<|QP W3 (QC QD (pv 0) Qw)<|pv 1)
 (Qz (YD (QP GA (QC QD (pv 0) Qw)<|pv 1)<|W7 (pv 0) Qw Yk)
 (Q2<|QT<|pv 2)))),?_⟩
  show EvR K _ [zo v<|olP [.int a,.int b],zi m,none] _
  walk_at"x";have g:∀{ρ:ZbJ} {x y:Int},ρ[0]?=some (zo v<|olP [.int x,.int y])->Qs K (tOp (rIx K) (Q5 0)<|tC<|.int 0) ρ (.int x)/\Qs K (tOp (rIx K) (Q5 0)<|tC<|.int 1) ρ (.int y):=λ{ρ x y} e=>by
   have r:=(Xf.mp e).1;exact⟨PB 0 e rfl (VL (ds:=[.int x,.int y]) (Qq<|Xm r) Q6 rfl),PB 0 e rfl (VL (ds:=[.int x,.int y]) (Qq<|Xm r) Q6 rfl)⟩
  refine ZL (λp=>∃x y:Int,p=[zo v<|olP [.int x,.int y],zi m,none]) (Zt (b:=decide (a=0)) (Zf.cast (ZA<|Js (g rfl).1 Q6) rfl) (λ_=>?_) λ_=>Zz ⟨a,b,rfl⟩) ?_
  .refine QK (KM (j:=0) rfl (g rfl).2 Q6 rfl ?_);walk_at"d";refine KM (j:=1) rfl Q6 Q6 rfl ?_;exact⟨b,0,rfl⟩
  .rintro _ ⟨x,y,rfl⟩;refine Ya (ZD (ZK (g rfl).1 (Qq rfl) n) rfl) ?_
   try walk_at"d"
   refine Ya (KM (j:=0) rfl (ZK (g rfl).1 (Qq rfl) (cdl n B)) Q6 rfl rfl) ?_
   try walk_at"d"
   exact WX (Qq rfl) ⟨_,⟨x%m,x/m,y,Int.emod_nonneg _<|Int.ne_of_gt n,Int.emod_lt_of_pos _ n,rfl,rfl⟩,rfl⟩
def Dg(K:W.Frag)(t:TE)(ρ:ZbJ)(v:V)(m:Int):Prop:=EvW K t ρ 0 λn o=>0<=n/\n<m/\∃a b:Int,o=.own v (olP [.int a,.int b])
def YY{a b m:Int}{E:XK}(e:zg ρ 0<|zo v<|olP [.int a,.int b])(h:Qs K t ρ (.int m))(h0:0<m)(i:m<=10^60):Dg K (Vg (spP K olP R_digit) [] E<|QF (Q5 0)<|QF t QM) ρ v m:=
 SK (Φ:=olP) e (Qv h QA) (R_digit.mk h0 i) (by
  rintro r s ⟨n,p,j,g,f,rfl,rfl⟩;exact⟨n,rfl,g,f,p,j,rfl⟩)
def DC(k T:Nat)(l:Ln):Prop:=(l.up=none↔k=0)/\(∀a,l.up=some a->a<k)/\l.bs.length=T/\∀b∈l.bs,0<=b/\b<10^30
theorem FR{ls:List Ln}(t1:1<=T)(t8:T<=8)(l1:1<=ls.length)(l5:ls.length<=5)(h:∀k (f:k<ls.length),DC k T ls[k]):(⟨T,ls⟩:Yd).Ok where
 t1:=t1
 t8:=t8
 l1:=l1
 l5:=l5
 up0:=by
  have j:=(h 0<|by lia).1.mpr rfl;simp[Zc,show 0<ls.length by lia,j]
 ups:=λk k0 f=>by
  have f:k<ls.length:=f;obtain⟨n,m,_⟩:=h k f;cases e:ls[k].up with
  |none=>have:=n.mp e;lia
  |some a=>exact⟨a,by simp[Zc,f,e],m a e⟩
 bl:=λl g=>by
  obtain⟨k,f,rfl⟩:=GQ.mp g;exact(h k f).2.2.1
 bb:=λl g b i=>by
  obtain⟨k,f,rfl⟩:=GQ.mp g;have:=(h k f).2.2.2 b i;exact⟨this.1,HN this.2⟩
def Ft(y:Yd):Prop := ∀l∈y.ls,∀b∈l.bs,0<=b/\b<10^30
inductive R_dyard:Qd->List OT->(OT->Qd->Prop)->Prop
 |mk {a b:Int}:R_dyard [.int a,.int b] [] (λr ds'=>∃y:Yd,y.Ok/\Ft y/\r=.fz (QJ y))
def Ff{b:Int}{c:Bool}(h0:0<=b)(a:b<10^30):0<=b*(if c then 1 else 0)/\b*(if c then 1 else 0)<10^30:=by
 have e:(0:Int)<10^30:=by decide +kernel
 cases c
 .simp
 .simpa using ⟨h0,a⟩
def p60{m:Int}(h:m<=10^30):m<=10^60:=GS h (by decide +kernel)
def WH:Qp ["_law_feed_here","_law_turns","_law_scale","_law_lines","_law_k","_law_above","_law_bounds","_law_turn","_law_bound"] ZaX (Q4 N0):=by walk_at"p"
def Ix(T:Bl mg)(D:Df K mg "_law_yard" N0 ZaX)(B:QE P w K mg base "_law_digit" Zat 1 (spP K olP R_digit)):QE P w K mg base "_law_yard" ZaX 2 (spP K olP R_dyard):=by
 refine D.evP WH (λM ts Ψ h=>by cases h;rfl) (λf cdv A outer s H E v M ts Ψ o h=>?_);cases h with
 |@mk a b=>
  refine⟨_,(Qz (QO (i:=1) WH.nd rfl Qa<|QP Vi Qw<|QH B o<|Qo (pv 0)<|Qo Qw Qr)
 (Qz (QO (i:=2) WH.nd rfl Qa<|QC QD (ZE<|Qo Qw<|Qo Qw<|Qo Qw<|Qo (QP Ml Qw Qw) Qr)<|QH B o<|Qo (pv 0)<|Qo Qw Qr)
 (Qz (QO (i:=3) WH.nd rfl Qa<|ZE Qr)
 (Qz (Vc zN rfl (by exact(Ys rfl T.range<|Qo (QP Vi Qw<|QH B o<|Qo (pv 0)<|Qo Qw Qr) Qr)) (Zh (i:=4) WH.nd rfl Qa) (by exact(Qz (QO (i:=5) WH.nd rfl Qa Mr)
 (Qz (Zo (ZG Yh (pv 4) Qw<|Zy _) (Q2<|QO (i:=5) WH.nd rfl Qa<|QH B o<|Qo (pv 0)<|Qo (pv 4) Qr) Zp)
 (Qz (QO (i:=6) WH.nd rfl Qa<|ZE Qr)
 (Qz (Vc zN rfl (by exact(Ys rfl T.range<|Qo (pv 1) Qr)) (Zh (i:=7) WH.nd rfl Qa) (by exact(Qz (QO (i:=8) WH.nd rfl Qa<|QH B o<|Qo (pv 0)<|Qo (pv 2) Qr)
 (Q2<|Zu<|VJ zP zS zT VN (pv 6)<|Qo (QP Gp (pv 8)<|WF Cc (by rfl) T.int Hd<|Qo (Jz Yh (QH B o<|Qo (pv 0)<|Qo Qw Qr) Qw<|Zy _) Qr) Qr))))
 (Q2<|Zu<|VJ zP zS zT VN (pv 3)<|Qo (VX<|Qo (pv 5)<|Qo (WF Kk (by rfl) T.tuple MN<|Qo (pv 6) Qr) Qr) Qr)))))))
 (Q2<|QT<|VX<|Qo (pv 1)<|Qo (WF Kk (by rfl) T.tuple MN<|Qo (pv 3) Qr) Qr))))),?_⟩
  show EvR K _ [zo v<|olP [.int a,.int b],none,none,none,none,none,none,none,none] _
  walk_at"x";have q:(0:Int)<10^(30:Int).toNat/\(10:Int)^(30:Int).toNat<=10^30:=by decide +kernel
  have q31:(16:Int)<=10^30:=by decide +kernel
  refine ZL (λg=>∃(T:Nat) (a b:Int),1<=T/\T<=8/\g=[zo v<|olP [.int a,.int b],zi (T:Int),none,none,none,none,none,none,none]) (PQ (YY rfl Q6 (by decide)<|by decide +kernel) ?_) ?_
  .rintro n _ ⟨S,Q,a,b,rfl⟩;refine ZD (Z7 Q6 Q6) ⟨(1+n).toNat,a,b,by lia,by lia,?_⟩;rw[X5<|by lia];rfl
  rintro _ ⟨T,a,b,t1,t8,rfl⟩;refine ZL (λg=>∃R a b:Int,0<R/\R<=10^30/\g=[zo v<|olP [.int a,.int b],zi (T:Int),zi R,none,none,none,none,none,none]) (Td (ds:=[.int 5,.int 9,.int 16,.int<|10^(30:Int).toNat]) (EvO.fz<|V4 (QY Q6<|QY Q6<|QY Q6<|QY (ZK Q6 Q6<|Be (by decide)<|by decide) Z9)<|by show(4:Nat)<=1000;decide) (YY rfl Q6 (by decide)<|by decide +kernel) ?_) ?_
  .rintro n _ ⟨S,Q,a,b,rfl⟩;obtain rfl|rfl|rfl|rfl:n=0\/n=1\/n=2\/n=3:=by lia
   .exact⟨_,rfl,5,a,b,by decide,by lia,rfl⟩
   .exact⟨_,rfl,9,a,b,by decide,by lia,rfl⟩
   .exact⟨_,rfl,16,a,b,by decide,by lia,rfl⟩
   .exact⟨_,rfl,_,a,b,q.1,q.2,rfl⟩
  rintro _ ⟨R,a,b,s0,O,rfl⟩;refine Ya (VW (V4 (ds:=[]) Z9<|by decide) rfl) ?_
  try walk_at"d"
  refine ZL (λg=>∃(p:List Ln) (a b:Int) (X W N y r:Option OT),(1<=p.length/\p.length<=5)/\(∀k (Y:k<p.length),DC k T p[k])/\g=[zo v<|olP [.int a,.int b],zi (T:Int),zi R,some<|.ol<|p.map Zs,X,W,N,y,r]) (AY (YY rfl Q6 (by decide)<|by decide +kernel) ?_) ?_
  .rintro n _ ⟨S,Q,a,b,rfl⟩;walk_at"d";refine V2 (ds:=Va 0 (1+n).toNat) (λi g=>∃(p:List Ln) (a b:Int) (X W N y r:Option OT),p.length=i/\(∀k (Y:k<p.length),DC k T p[k])/\g=[zo v<|olP [.int a,.int b],zi (T:Int),zi R,some<|.ol<|p.map Zs,X,W,N,y,r]) ?ei ⟨[],a,b,_,_,_,_,_,rfl,(λk Y=>Xz Y<|Nat.not_lt_zero k),rfl⟩ ?st ?fin
   case ei=>exact Y3 (Qv (Z7 Q6 Q6) QA) (by rw[z62];lia) (by rw[z62];lia)
   case fin=>
    rintro _ ⟨p,a,b,X,W,N,y,r,e,h,rfl⟩;rw[Wn]at e;exact⟨p,a,b,X,W,N,y,r,by lia,h,rfl⟩
   case st=>
    rintro i d _ G ⟨p,a,b,X,W,N,y,r,e,h,rfl⟩;obtain⟨Z,rfl⟩:=YI G;have Z:i<(1+n).toNat:=Z;refine⟨_,Zq,?_⟩;walk_at"d";rw[YK];refine QK (ZD Gh ?_);walk_at"d";refine QK (FP (λg=>∃(ab:Option Nat) (a b:Int),(ab=none↔i=0)/\(∀x,ab=some x->x<i)/\g=[zo v<|olP [.int a,.int b],zi (T:Int),zi R,some<|.ol<|p.map Zs,zi (i:Int),zf<|upD ab,N,y,r]) (Zt (b:=decide ((i:Int) > 0)) (Zf.cast (ZA<|Vh (Qq rfl) Q6) rfl) (λc=>?_) λc=>Zz ⟨none,a,b,⟨λ_=>by have:=JO c;lia,λ_=>rfl⟩,(by rintro x ⟨⟩),rfl⟩) ?_)
    .have c:=XW c;refine J6 (YY rfl (Qq rfl) (by lia)<|GS (show(i:Int)<=5 by lia)<|by decide +kernel) ?_;rintro m _ ⟨F,U,a,b,rfl⟩;refine⟨some m.toNat,a,b,⟨λz=>(nomatch z),λz=>Xz z<|by lia⟩,(λx z=>by injection z with z;lia),?_⟩;show _=([_,_,_,_,_,some<|OT.fz<|.int ((m.toNat:Nat):Int),_,_,_]:ZbJ);rw[X5 F];rfl
    rintro _ ⟨ab,a,b,L,J,rfl⟩;refine QK (VW (V4 (ds:=[]) Z9<|by decide) ?_);walk_at"d";refine QK (V2 (ds:=Va 0 T) (λj g=>∃(C:Ql) (a b:Int) (y r:Option OT),C.length=j/\(∀x∈C,0<=x/\x<10^30)/\g=[zo v<|olP [.int a,.int b],zi (T:Int),zi R,some<|.ol<|p.map Zs,zi (i:Int),zf<|upD ab,some<|.ol<|C.map PyData.int,y,r]) ?ei2 ⟨[],a,b,_,_,rfl,(by rintro x ⟨⟩),rfl⟩ ?st2 ?fin2)
    case ei2=>exact EvI.cast (Y3 (Qv (Qq rfl) QA) (by rw[z62];lia)<|by rw[z62];lia) (WE rfl (by lia))
    case st2=>
     rintro j d _ G ⟨C,a,b,y,r,u,I,rfl⟩;obtain⟨hj,rfl⟩:=YI G;refine⟨_,Zq,?_⟩;walk_at"d";refine QK (J6 (YY rfl (Qq rfl) s0<|p60 O) ?_);rintro m _ ⟨F,U,a,b,rfl⟩;walk_at"d";refine Ec rfl rfl (YY rfl Q6 (by decide)<|by decide +kernel) ?_;rintro z _ ⟨z0,z1,a,b,rfl⟩;walk_at"d";have mm:=Ff (c:=decide (z > 0)) F (Int.lt_of_lt_of_le U O);refine UD rfl (ZK (Qq rfl) (RV<|Vh Q6 Q6)<|.inr ⟨by split<;>decide,by split<;>decide⟩) (by rw[Xl];lia) ⟨C++[m*(if decide (z > 0) then 1 else 0)],a,b,zf<|.int<|0+(j:Int),zi m,by rw[Xn,u];rfl,λx t=>?_,?_⟩
     .rcases XD.mp t with t|t
      .exact I x t
      .rw[Xh.mp t];exact mm
     .rw[XF];rfl
    case fin2=>
     rintro _ ⟨C,a,b,y,r,u,I,rfl⟩;rw[Wn]at u;refine UD rfl (VV (ds:=[upD ab,.tuple<|C.map PyData.int]) (QY (Qq rfl)<|QY (Hq rfl) Z9) YO) (by rw[Xl];lia) ⟨p++[⟨ab,C⟩],a,b,zi (i:Int),zf<|upD ab,some<|.ol<|C.map PyData.int,y,r,by rw[Xn,e];rfl,λk Y=>?_,?_⟩
     .by_cases z:k<p.length
      .rw[List.getElem_append_left z];exact h k z
      .have:k=p.length:=by rw[Xn]at Y;have:[(⟨ab,C⟩:Ln)].length=1:=rfl;lia
       subst this;rw[List.getElem_append_right<|Xq _];simp only[Nat.sub_self,List.getElem_cons_zero];rw[e];exact⟨L,J,u,I⟩
     .rw[XF];rfl
  rintro _ ⟨p,a,b,X,W,N,y,r,⟨l1,l5⟩,h,rfl⟩;refine WX (VV (ds:=[.int (T:Int),.tuple<|p.map Zs]) (QY (Qq rfl)<|QY (Hq rfl) Z9) YO) ⟨_,⟨⟨T,p⟩,FR t1 t8 l1 l5 h,λl hl=>?_,rfl⟩,rfl⟩;obtain⟨k,Y,rfl⟩:=GQ.mp hl;exact(h k Y).2.2.2
theorem Hf:∀{bs:Ql},bs≠[]->∃M∈bs,∀a∈bs,a<=M
 |[],h=>Xz rfl h
 |[x],_=>⟨x,Xc,λa b=>by rw[Xh.mp b];exact YJ _⟩
 |x::y::bs,_=>by
  obtain⟨M,g,f⟩:=Hf (bs:=y::bs) (List.cons_ne_nil _ _)
  by_cases h:x<=M
  .refine⟨M,Xi _ g,λa b=>?_⟩;rcases Xe.mp b with rfl|b
   .exact h
   .exact f a b
  .refine⟨x,Xc,λa b=>?_⟩;rcases Xe.mp b with rfl|b
   .exact YJ _
   .have:=f a b;lia
noncomputable def mxB(bs:Ql):Int:=open Classical in if h:bs≠[] then Classical.choose (Hf h) else 0
def Sv(h:bs≠[]):mxB bs∈bs/\∀a∈bs,a<=mxB bs:=by
 unfold mxB;rw[dif_pos h];exact Classical.choose_spec (Hf h)
structure G30(y:Yd)(g:Gs):Prop where
 ok:g.Ok y
 w:g.want<10^30
 m:g.most<10^30
inductive R_dguest:Qd->List OT->(OT->Qd->Prop)->Prop
 |mk {a b:Int}{y:Yd}(ok:y.Ok):R_dguest [.int a,.int b] [.fz<|QJ y,.fz<|.int 0] (λr ds'=>∃g:Gs,G30 y g/\r=.fz (QV g))
def GY(h:n<=8):(n:Int)<=10^60:=GS (show(n:Int)<=8 by lia) (by decide +kernel)
def JI:Qp Zaj Zaq (Q4 Dd):=by walk_at"p"
def O8(T:Bl mg)(D:Df K mg "_law_guest" Dd Zaq)(j:QE P w K mg base "_law_digit" Zat 1 (spP K olP R_digit)):QE P w K mg base "_law_guest" Zaq 2 (spP K olP R_dguest):=by
 refine D.evP JI (λM ts Ψ h=>by cases h;rfl) (λf U A outer s H E v M ts Ψ B h=>?_);cases h with
 |@mk a b y X=>
  refine⟨_,(Qz (QO (i:=3) JI.nd rfl Qa<|QH j B<|Qo (pv 0)<|Qo (QC QD (pv 1) Qw) Qr)
 (Qz (Zo (PW.pt<|YS (Kp Wf Wf (pv 3) (pv 2)<|QC QD (pv 1) Qw)<|YX<|ZG Yh (QH j B<|Qo (pv 0)<|Qo Qw Qr) Qw<|Zy _) (Q2<|QO (i:=3) JI.nd rfl Qa<|QP Vi (pv 2)<|QH j B<|Qo (pv 0)<|Qo (QP Y1 (QC QD (pv 1) Qw)<|pv 2) Qr) Zp)
 (Qz (QO (i:=4) JI.nd rfl Qa<|QP Vi (pv 3)<|QH j B<|Qo (pv 0)<|Qo (QP Y1 (QC QD (pv 1) Qw)<|pv 3) Qr)
 (Qz (QO (i:=5) JI.nd rfl Qa<|QH j B<|Qo (pv 0)<|Qo (Zx V1 (by rfl) T.len Vx<|Qo (QC QD (pv 1) Qw) Qr) Qr)
 (Qz (QO (i:=6) JI.nd rfl Qa<|QC QD (ZE<|Qo Qw<|Qo Qw<|Qo Qw<|Qo (QP Y1 (QP Ml Qw Qw) Qw) Qr)<|QH j B<|Qo (pv 0)<|Qo Qw Qr)
 (Qz (Zo (ZG Wf (Zx CM (by rfl) T.max Hw<|Qo (Wy (NX:=Zaj) (sc:=Q4 Dd) (N:=ZaN) (f:=[none,none]) rfl (by decide +kernel) rfl rfl (FA<|QC QD (pv 1) Qw) (λ_=>(Jx (n:=2) rfl (Vy (Zh (i:=0) (show(ZaN:Qh).Nodup by decide +kernel) rfl Qa)<|Vy (Zh (i:=1) (show(ZaN:Qh).Nodup by decide +kernel) rfl Qa) Jc))) (λ_=>(SA (n:=2)<|M8 Ym<|M8 Ym Pl)) (λ_=>J1) λ_=>(Zx Am (by rfl) T.max Hw<|Qo (pv 1) Qr)) Qr) Qw<|Zy _) (Q2<|QO (i:=6) JI.nd rfl Qa<|Zx (Mj rfl) (by rfl) T.min Bo<|Qo (pv 6)<|Qo Qw Qr) Zp)
 (Qz (QO (i:=7) JI.nd rfl Qa<|QP Vi Qw<|QH j B<|Qo (pv 0)<|Qo (pv 6) Qr)
 (Q2<|QT<|VX<|Qo (pv 5)<|Qo (pv 3)<|Qo (pv 4)<|Qo (pv 7)<|Qo (QP Vi Qw<|QH j B<|Qo (pv 0)<|Qo (pv 6) Qr) Qr)))))))),?_⟩
  show EvR K _ [zo v<|olP [.int a,.int b],zf<|QJ y,zi 0,none,none,none,none,none] _
  walk_at"x";have t1:=X.t1;have J:=X.t8;have l1:=X.l1;have Z:=X.l5;have W:(0:Int)<10^(30:Int).toNat-1/\(10:Int)^(30:Int).toNat-1<10^30:=by decide +kernel
  have Q:(20:Int)<10^30:=by decide +kernel
  have G:∀{ρ:ZbJ},ρ[1]?=some (zf<|QJ y)->Qs K (tOp (rIx K) (Q5 1)<|tC<|.int 0) ρ (.int (y.T:Int)):=λe=>ZS (ds:=[PyData.int (y.T:Int),.tuple<|y.ls.map Zs]) (Qq e) Q6 rfl;have L:∀{ρ:ZbJ},ρ[1]?=some (zf<|QJ y)->Qs K (tOp (rIx K) (Q5 1)<|tC<|.int 1) ρ (.tuple<|y.ls.map Zs):=λe=>ZS (ds:=[PyData.int (y.T:Int),.tuple<|y.ls.map Zs]) (Qq e) Q6 rfl;refine ZL (λg=>∃(m:Nat) (a b:Int),m<y.T/\g=[zo v<|olP [.int a,.int b],zf<|QJ y,zi 0,zi (m:Int),none,none,none,none]) (J6 (YY rfl (G rfl) (by lia)<|GY J) ?_) ?_
  .rintro n _ ⟨C,Y,a,b,rfl⟩;refine⟨n.toNat,a,b,by lia,?_⟩;rw[X5 C];rfl
  rintro _ ⟨m,a,b,hfs,rfl⟩;refine ZL (λg=>g=[zo v<|olP [.int a,.int b],zf<|QJ y,zi 0,zi (m:Int),none,none,none,none]) (Zt (b:=false) (Wz (b:=false) (c:=false) (Zf.cast (ZA<|B3 (Qq rfl) (Qq rfl)<|G rfl) ?_)<|by rintro⟨⟩) (by rintro⟨⟩) λ_=>Zz rfl) ?_
  .rw[XI (show ¬(m:Int)<0 by lia)];rfl
  rintro _ rfl;refine ZL (λg=>∃(p:Nat) (a b:Int),m<=p/\p<y.T/\g=[zo v<|olP [.int a,.int b],zf<|QJ y,zi 0,zi (m:Int),zi (p:Int),none,none,none]) (EH rfl (YY rfl (Z7 (G rfl)<|Qq rfl) (by lia)<|GS (show(y.T:Int)-(m:Int)<=(y.T:Int) by lia)<|GY J) ?_) ?_
  .rintro n _ ⟨C,Y,a,b,rfl⟩;refine ZD (Z7 (Qq rfl) Q6) ⟨((m:Int)+n).toNat,a,b,by lia,by lia,?_⟩;rw[X5<|by lia];rfl
  rintro _ ⟨p,a,b,k,d,rfl⟩;refine ZL (λg=>∃(r:Nat) (a b:Int),r<y.ls.length/\g=[zo v<|olP [.int a,.int b],zf<|QJ y,zi 0,zi (m:Int),zi (p:Int),zi (r:Int),none,none]) (J6 (YY rfl (Qs.cast (Gu<|L rfl) (show _=PyData.int (y.ls.length:Int) by rw[Xl])) (by lia)<|GY<|by lia) ?_) ?_
  .rintro n _ ⟨C,Y,a,b,rfl⟩;refine⟨n.toNat,a,b,by lia,?_⟩;rw[X5 C];rfl
  rintro _ ⟨r,a,b,x,rfl⟩;refine ZL (λg=>∃sc a b:Int,0<sc/\sc<10^30/\g=[zo v<|olP [.int a,.int b],zf<|QJ y,zi 0,zi (m:Int),zi (p:Int),zi (r:Int),zi sc,none]) (Td (ds:=[.int 4,.int 9,.int 20,.int<|10^(30:Int).toNat-1]) (EvO.fz<|V4 (QY Q6<|QY Q6<|QY Q6<|QY (Z7 (ZK Q6 Q6<|Be (by decide)<|by decide) Q6) Z9)<|by show(4:Nat)<=1000;decide) (YY rfl Q6 (by decide)<|by decide +kernel) ?_) ?_
  .rintro n _ ⟨C,Y,a,b,rfl⟩;obtain rfl|rfl|rfl|rfl:n=0\/n=1\/n=2\/n=3:=by lia
   .exact⟨_,rfl,4,a,b,by decide,by lia,rfl⟩
   .exact⟨_,rfl,9,a,b,by decide,by lia,rfl⟩
   .exact⟨_,rfl,20,a,b,by decide,by lia,rfl⟩
   .exact⟨_,rfl,_,a,b,W.1,W.2,rfl⟩
  rintro _ ⟨sc,a,b,s0,o,rfl⟩;have S:∀l∈y.ls,l.bs≠[]:=λl F z=>by
   have:=X.bl l F;rw[z]at this;have:(0:Nat)=y.T:=this;lia
  have q:(y.ls.map λl=>mxB l.bs)≠[]:=λz=>by
   have:=X9 List.length z;rw[Xl]at this;have:y.ls.length=0:=this;lia
  obtain⟨u,t⟩:=Sv q;refine ZL (λg=>∃sc:Int,0<sc/\sc<10^30/\g=[zo v<|olP [.int a,.int b],zf<|QJ y,zi 0,zi (m:Int),zi (p:Int),zi (r:Int),zi sc,none]) (Zt (b:=decide (mxB (y.ls.map λl=>mxB l.bs)<20)) (Zf.cast (ZA<|Vh (Ay (ns:=y.ls.map λl=>mxB l.bs) (Qs.cast (EvO.fz<|Bb (xs:=y.ls) (enc:=Zs) (h:=λl=>.int<|mxB l.bs) ?ei (by lia) ?el)<|by rw[X7];rfl) rfl u t) Q6) rfl) (λ_=>?_) λ_=>Zz ⟨sc,s0,o,rfl⟩) ?_
  case ei=>exact Ry (L rfl)
  case el=>
   intro l F c;obtain⟨k1,k2⟩:=Sv (S l F);refine⟨_,WQ (ds:=[upD l.up,.tuple<|l.bs.map PyData.int]) (V5 Zq<|V5 Zq WT) rfl,?_⟩;walk_at"e";exact Aq (ns:=l.bs) (Qq rfl) rfl k1 k2
  .refine ZD (Hb (Qq rfl) Q6) ⟨min sc 20,by lia,by lia,rfl⟩
  rintro _ ⟨sc,s0,o,rfl⟩;refine ZL (λg=>∃R a b:Int,1<=R/\R<10^30/\g=[zo v<|olP [.int a,.int b],zf<|QJ y,zi 0,zi (m:Int),zi (p:Int),zi (r:Int),zi sc,zi R]) (PQ (YY rfl (Qq rfl) s0<|p60<|Int.le_of_lt o) ?_) ?_
  .rintro n _ ⟨C,Y,a,b,rfl⟩;refine ZD (Z7 Q6 Q6) ⟨1+n,a,b,by lia,by lia,rfl⟩
  rintro _ ⟨R,a,b,O,I,rfl⟩;refine AB rfl rfl rfl rfl (YY rfl (Qq rfl) s0<|p60<|Int.le_of_lt o) ?_;rintro n _ ⟨C,Y,a,b,rfl⟩;refine WX (VV (ds:=[.int (r:Int),.int (m:Int),.int (p:Int),.int R,.int<|1+n]) (QY (Qq rfl)<|QY (Qq rfl)<|QY (Qq rfl)<|QY (Qq rfl)<|QY (Z7 Q6 Q6) Z9)<|by show(5:Nat)<=1000;decide) ⟨_,⟨⟨r,m,p,R,1+n⟩,⟨⟨x,k,d,O,HN I,by show 1<=1+n;lia,HN<|by show 1+n<_;lia⟩,I,by show 1+n<_;lia⟩,rfl⟩,rfl⟩
inductive R_iswhole:List OT->OT->Prop
 |mk {i:Int}:R_iswhole [.fz<|.int i] (.fz<|.bool true)
def Zlx:Qp ["thing"] ["thing"] (Q4 Na):=by walk_at"p"
def ZmI(T:Bl mg)(D:Df K mg "is_whole" Na ["thing"]):QE P w K mg base "is_whole" ["thing"] 1 (QL (K:=K) R_iswhole):=by
 refine D.ev Zlx (λts r h=>by cases h;rfl) (λ_ _ _ _ s H E ts r a h=>?_);cases h with
 |@mk i=>
  refine⟨_,(Q2<|QT<|Ux (Zx Gn (by rfl) T.isi Uy<|Qo (pv 0)<|Qo (Y2 (v:=.ty "int") rfl T.int Hd rfl) Qr)<|Uw<|CG<|Zx Gn (by rfl) T.isi Uy<|Qo (pv 0)<|Qo (Y2 (v:=.ty "bool") rfl T.bool SO rfl) Qr),?_⟩;show Q3 K _ [_] _
  walk_at"x";exact ZZ (Jy (b:=true) (Uz (Qq rfl) rfl) λ_=>RF (b:=false)<|Uz (Qq rfl) rfl) rfl
inductive R_within:List OT->OT->Prop
 |mk {i lo hi:Int}:R_within [.fz<|.int i,.fz<|.int lo,.fz<|.int hi] (.fz<|.bool<|decide (lo<=i)&&decide (i<hi))
def Zfn:Qp Zay Zay (Q4 NI):=by walk_at"p"
def OA(T:Bl mg)(D:Df K mg "is_whole_within" NI Zay)(a:QE P w K mg base "is_whole" ["thing"] 1 (QL (K:=K) R_iswhole)):QE P w K mg base "is_whole_within" Zay 2 (QL (K:=K) R_within):=by
 refine D.ev Zfn (λts r h=>by cases h;rfl) (λ_ _ _ _ s H E ts r f h=>?_);cases h with
 |@mk i g j=>
  refine⟨_,(Q2<|QT<|Ux (QH a f<|Qo (pv 0) Qr)<|Uw<|PU Uo Wf (pv 1) (pv 0)<|pv 2),?_⟩;show Q3 K _ [_,_,_] _
  walk_at"x";exact ZZ (Jy (b:=true) (Zb (Qv (Qq rfl) QA) R_iswhole.mk) λ_=>B3 (Qq rfl) (Qq rfl)<|Qq rfl) rfl
inductive R_isamount:List OT->OT->Prop
 |mk {i:Int}(h0:1<=i)(h1:i<10^30):R_isamount [.fz<|.int i,.fz<|.int 1] (.fz<|.bool true)
def Zjn:Qp ZaS ZaS (Q4 KS):=by walk_at"p"
def Zlv(T:Bl mg)(D:Df K mg "is_amount" KS ZaS)(a:QE P w K mg base "is_whole_within" Zay 2 (QL (K:=K) R_within)):QE P w K mg base "is_amount" ZaS 3 (QL (K:=K) R_isamount):=by
 refine D.ev Zjn (λts r h=>by cases h;rfl) (λ_ _ _ _ s H E ts r f h=>?_);cases h with
 |@mk i g b=>
  refine⟨_,(Q2<|QT<|QH a f<|Qo (pv 0)<|Qo (pv 1)<|Qo (QP Ml Qw Qw) Qr),?_⟩;show Q3 K _ [_,_] _
  walk_at"x";have e:(10:Int)^30=10^(30:Int).toNat:=by decide +kernel
  rw[e]at b;refine ZZ (Qs.cast (Zb (Qv (Qq rfl)<|Qv (Qq rfl)<|Qv (ZK Q6 Q6<|Be (by decide)<|by decide) QA) R_within.mk) ?_) rfl;rw[XJ g,XJ b];rfl
inductive R_tupof:List OT->OT->Prop
 |mk {g:Gs}:R_tupof [.fz<|QV g,.fz<|.int 5] (.fz<|.bool true)
def ZhI:Qp ZaO ZaO (Q4 N8):=by walk_at"p"
def Ic(T:Bl mg)(D:Df K mg "is_tuple_of" N8 ZaO):QE P w K mg base "is_tuple_of" ZaO 1 (QL (K:=K) R_tupof):=by
 refine D.ev ZhI (λts r h=>by cases h;rfl) (λ_ _ _ _ s H E ts r a h=>?_);cases h with
 |@mk g=>
  refine⟨_,(Q2<|QT<|Ux (Zx Gn (by rfl) T.isi Uy<|Qo (pv 0)<|Qo (Y2 (v:=.ty "tuple") rfl T.tuple MN rfl) Qr)<|Uw<|Jz Um (Zx V1 (by rfl) T.len Vx<|Qo (pv 0) Qr) (pv 1)<|Zy _),?_⟩;show Q3 K _ [_,_] _
  walk_at"x";exact ZZ (Jy (b:=true) (Uz (Qq rfl) rfl) λ_=>Js (Gu (ds:=[.int (g.line:Int),.int (g.first:Int),.int (g.last:Int),.int g.want,.int g.most])<|Qq rfl)<|Qq rfl) rfl
inductive R_isguest:List OT->OT->Prop
 |mk {y:Yd}{g:Gs}(h:G30 y g):R_isguest [.fz<|QJ y,.fz<|QV g] (.fz<|.bool true)
def Zky:Qp ZaU ZaU (Q4 KZ):=by walk_at"p"
def ZmP(T:Bl mg)(D:Df K mg "is_guest" KZ ZaU)(v:QE P w K mg base "is_tuple_of" ZaO 1 (QL (K:=K) R_tupof))(f:QE P w K mg base "is_whole_within" Zay 2 (QL (K:=K) R_within))(p:QE P w K mg base "line_count" ZaI 1 (QL (K:=K) R_count))(j:QE P w K mg base "turns_of" ZaI 1 (QL (K:=K) R_turns))(m:QE P w K mg base "is_amount" ZaS 3 (QL (K:=K) R_isamount)):QE P w K mg base "is_guest" ZaU 4 (QL (K:=K) R_isguest):=by
 refine D.ev Zky (λts r h=>by cases h;rfl) (λ_ _ _ _ s H E ts r a h=>?_);cases h with
 |@mk y g h=>
  refine⟨_,(Qz (Zo (YF<|ZF<|QH v a<|Qo (pv 1)<|Qo Qw Qr) (Q2<|QT YB) Zp)
 (Qz (Zo (YF<|ZF<|QH f a<|Qo (QC QD (pv 1) Qw)<|Qo Qw<|Qo (QH p a<|Qo (pv 0) Qr) Qr) (Q2<|QT YB) Zp)
 (Qz (Zo (YF<|ZF<|QH f a<|Qo (QC QD (pv 1) Qw)<|Qo Qw<|Qo (QH j a<|Qo (pv 0) Qr) Qr) (Q2<|QT YB) Zp)
 (Qz (Zo (YF<|ZF<|QH f a<|Qo (QC QD (pv 1) Qw)<|Qo (QC QD (pv 1) Qw)<|Qo (QH j a<|Qo (pv 0) Qr) Qr) (Q2<|QT YB) Zp)
 (Q2<|QT<|Ux (QH m a<|Qo (QC QD (pv 1) Qw)<|Qo Qw Qr)<|Uw<|QH m a<|Qo (QC QD (pv 1) Qw)<|Qo Qw Qr))))),?_⟩
  show Q3 K _ [_,_] _
  walk_at"x";obtain⟨⟨k1,k2,k3,C,_,B,_⟩,k5,A⟩:=h;have i:∀{ρ:ZbJ} {n:Int} {d:PyData},ρ[1]?=some (zf<|QV g)->atI [.int (g.line:Int),.int (g.first:Int),.int (g.last:Int),.int g.want,.int g.most] n=some d->Qs K (tOp (rIx K) (Q5 1)<|tC<|.int n) ρ d:=λe h=>ZS (Qq e) Q6 h;refine QK (Zt (b:=false) (Y0 (b:=true)<|ZJ<|Zb (Qv (Qq rfl)<|Qv Q6 QA) R_tupof.mk) (by rintro⟨⟩) λ_=>Zz ?_);refine QK (Zt (b:=false) (Y0 (b:=true)<|ZJ<|Qs.cast (Zb (Qv (i rfl rfl)<|Qv Q6<|Qv (Zb (Qv (Qq rfl) QA) R_count.mk) QA) R_within.mk) ?_) (by rintro⟨⟩) λ_=>Zz ?_)
  .rw[XJ (show(0:Int)<=(g.line:Int) by lia),XJ (show(g.line:Int)<(y.ls.length:Int) by lia)];rfl
  refine QK (Zt (b:=false) (Y0 (b:=true)<|ZJ<|Qs.cast (Zb (Qv (i rfl rfl)<|Qv Q6<|Qv (Zb (Qv (Qq rfl) QA) R_turns.mk) QA) R_within.mk) ?_) (by rintro⟨⟩) λ_=>Zz ?_)
  .rw[XJ (show(0:Int)<=(g.first:Int) by lia),XJ (show(g.first:Int)<(y.T:Int) by lia)];rfl
  refine QK (Zt (b:=false) (Y0 (b:=true)<|ZJ<|Qs.cast (Zb (Qv (i rfl rfl)<|Qv (i rfl rfl)<|Qv (Zb (Qv (Qq rfl) QA) R_turns.mk) QA) R_within.mk) ?_) (by rintro⟨⟩) λ_=>Zz ?_)
  .rw[XJ (show(g.first:Int)<=(g.last:Int) by lia),XJ (show(g.last:Int)<(y.T:Int) by lia)];rfl
  exact ZZ (Jy (b:=true) (Zb (Qv (i rfl rfl)<|Qv Q6 QA)<|R_isamount.mk C k5) λ_=>Zb (Qv (i rfl rfl)<|Qv Q6 QA)<|R_isamount.mk B A) rfl
def Ck:NoH "now" := λ_ _ _ _ _ _=>rfl
def SQ:NoH "come" := λ_ _ _ _ _ _=>rfl
def A7:NoH "rest" := λ_ _ _ _ _ _=>rfl
def B5:NoH "yard_now" := λ_ _ _ _ _ _=>rfl
def Ko:NoH "still_there" := λ_ _ _ _ _ _=>rfl
def U8:NoH "refuse_past" := λ_ _ _ _ _ _=>rfl
def A8:NoH "turn" := λ_ _ _ _ _ _=>rfl
def CF:NoH "refuse_number" := λ_ _ _ _ _ _=>rfl
def Zgy:Qp ZaR ZaR (Q4 GH):=by walk_at"p"
def Af{f:Addr}(T:Bl mg)(a:HandC K CH)(F:Fun K "__init__" "Hand.__init__" GH f fd):FnOk P w K mg base CX0 1 f fd ZaR (BV CH):=by
 refine F.ok Zgy (by rintro c H Q E ⟨x,dx,y,e,_⟩;rw[e];rfl) ?_;rintro o A outer s H c Q E I ⟨x,dx,y,e,l,q⟩;subst e;refine⟨_,(Qz (YE (pv 0) (pv 1) rfl)
 (Qz (YE (pv 0) Qw rfl)
 (Qz (YE (pv 0) (ZE Qr) rfl)
 (Qz (YE (pv 0) (ZE Qr) rfl)
 (Qz (YE (pv 0) K2 rfl)
 (Q2<|YE (pv 0) (ZE Qr) rfl)))))),?_⟩
 refine⟨y,rfl,_,rfl,x,CH,dx,[],rfl,l,a.cl,a.yd,by decide,?_⟩;refine⟨_,rfl,x,CH,dx,[("yard",y)],rfl,by rw[QG];rfl,a.cl,a.pr,(by show(1:Nat)<1000;decide),?_⟩;refine⟨XQ _,λk C=>⟨_,rfl,x,CH,dx,[("yard",y),("present",.int 0)],rfl,?_,a.cl,a.kn,(by show(2:Nat)<1000;decide),?_⟩⟩
 .have j:x≠k:=Z0 QG C;rw[Qu j,QG];rfl
 have j:x≠k:=Z0 QG C;rw[Qu<|Ne.symm j,Qu<|Ne.symm j]at C;refine⟨XQ _,λg v=>⟨_,rfl,x,CH,dx,[("yard",y),("present",.int 0),("known",.ref k)],rfl,?_,a.cl,a.gv,(by show(3:Nat)<1000;decide),?_⟩⟩
 .have n:x≠g:=Z0 QG v;rw[Qu n,QG];rfl
 have n:x≠g:=Z0 QG v;rw[Qu<|Ne.symm n]at v;have M:k≠g:=Z0 QG v;rw[Qu<|Ne.symm M,Qu<|Ne.symm n,Qu<|Ne.symm n]at v;refine λd r=>⟨_,rfl,x,CH,dx,[("yard",y),("present",.int 0),("known",.ref k),("given",.ref g)],rfl,?_,a.cl,a.go,(by show(4:Nat)<1000;decide),?_⟩
 .have p:x≠d:=Z0 QG r;rw[Qu p,QG];rfl
 have p:x≠d:=Z0 QG r;rw[Qu<|Ne.symm p]at r;have W:g≠d:=Z0 QG r;rw[Qu<|Ne.symm W,Qu<|Ne.symm p]at r;have N:k≠d:=Z0 QG r;rw[Qu<|Ne.symm N,Qu<|Ne.symm p,Qu<|Ne.symm p]at r;refine⟨XQ _,λm h=>⟨_,rfl,x,CH,dx,[("yard",y),("present",.int 0),("known",.ref k),("given",.ref g),("gone",.ref d)],rfl,?_,a.cl,a.md,(by show(5:Nat)<1000;decide),?_⟩⟩
 .have i:x≠m:=Z0 QG h;rw[Qu i,QG];rfl
 have i:x≠m:=Z0 QG h;rw[Qu<|Ne.symm i]at h;have X:d≠m:=Z0 QG h;rw[Qu<|Ne.symm X,Qu<|Ne.symm i]at h;have R:g≠m:=Z0 QG h;rw[Qu<|Ne.symm R,Qu<|Ne.symm i]at h;have D:k≠m:=Z0 QG h;rw[Qu<|Ne.symm D,Qu<|Ne.symm i,Qu<|Ne.symm i]at h;refine q k g d m _ C v r h ?_ ?_ ?_ ?_ ?_ ?_ (λb Y=>?_)
 .simp only[Xv,Xe,XU,or_false,not_or,not_false_eq_true,UM,and_true];exact⟨⟨j,n,p,i⟩,⟨M,N,D⟩,⟨W,R⟩,X⟩
 .rw[QG];rfl
 .rw[Qu<|Ne.symm j,Qu D,Qu<|Ne.symm j,Qu N,Qu<|Ne.symm j,Qu M,Qu<|Ne.symm j,QG]
 .rw[Qu<|Ne.symm n,Qu R,Qu<|Ne.symm n,Qu W,Qu<|Ne.symm n,QG]
 .rw[Qu<|Ne.symm p,Qu X,Qu<|Ne.symm p,QG]
 .rw[Qu<|Ne.symm i,QG]
 .simp only[Xe,XU,or_false,not_or]at Y;obtain⟨B,G,z,u,t⟩:=Y;rw[Qu B,Qu t,Qu B,Qu u,Qu B,Qu z,Qu B,Qu G,Qu B,Qu B]
inductive R_hpast(CH:Addr):List OT->(OT->Prop)->Prop
 |mk {N:HandS}{t:Int}(h:N.now<=t):R_hpast CH [.zow<|QZ CH N,.fz<|.int t] (λr=>r=.fz .none)
inductive X_hpast(CH:Addr):List OT->(Unit->Prop)->Prop
 |mk {N:HandS}{t:Int}(h:t<N.now):X_hpast CH [.zow<|QZ CH N,.fz<|.int t] (λ_=>True)
def Zff:Qp ZaG ZaG (Q4 NH):=by walk_at"p"
def Ev(T:Bl mg)(m:HandC K CH)(j:NS K mg "NoTime" ct)(D:Mf K CH "refuse_past" "Hand.refuse_past" NH ZaG):VU P w K mg base CH "refuse_past" ZaG 1 (Yx K ct YN (R_hpast CH)<|X_hpast CH):=by
 refine D.evZ Zff (λts g h=>by cases h;rfl) (λts g h=>by cases h;rfl) (by decide) (λf i A outer s H RR ts g n a h=>?_) (λf i A outer s F H RR ts g n a p h=>?_)
 .cases h with
  |@mk N t h=>
   refine⟨_,(Q2<|Zo (ZG Wf (pv 1) (Zg (pv 0) rfl)<|Zy _) (Q2<|Lx j a<|Qo Vo Qr) Zp),?_⟩;show Q3 K _ [_,_] _
   walk_at"x";exact Zt (b:=false) (Zf.cast (ZA<|Vh (Qq rfl)<|B9 m rfl)<|XI<|by lia) (by rintro⟨⟩) (λ_=>Zz rfl)
 .cases h with
  |@mk N t h=>
   refine⟨_,(Q2<|Zo (ZG Wf (pv 1) (Zg (pv 0) rfl)<|Zy _) (Q2<|Lx j a<|Qo Vo Qr) Zp),?_⟩;show EvZ K F H _ [zz<|QZ CH N,zi t]
   walk_at"x";exact RM (b:=true) (Zf.cast (ZA<|Vh (Qq rfl)<|B9 m rfl)<|XJ h) (λ_=>OG VE trivial p) (by rintro⟨⟩)
inductive R_withw:List OT->OT->Prop
 |mk {g:Gs}{z:Int}:R_withw [.fz<|QV g,.fz<|.int z] (.fz<|QV { g with want:=z })
def Zjx:Qp ZaV ZaV (Q4 Nx):=by walk_at"p"
def Ey(T:Bl mg)(D:Df K mg "with_want" Nx ZaV):QE P w K mg base "with_want" ZaV 1 (QL (K:=K) R_withw):=by
 refine D.ev Zjx (λts r h=>by cases h;rfl) (λ_ _ _ _ s H E ts r b h=>?_);cases h with
 |@mk g z=>
  refine⟨_,(Q2<|QT<|VX<|Qo (QC QD (pv 0) Qw)<|Qo (QC QD (pv 0) Qw)<|Qo (QC QD (pv 0) Qw)<|Qo (pv 1)<|Qo (QC QD (pv 0) Qw) Qr),?_⟩;show Q3 K _ [_,_] _
  walk_at"x";have a:∀{ρ:ZbJ} {n:Int} {d:PyData},ρ[0]?=some (zf<|QV g)->atI [.int (g.line:Int),.int (g.first:Int),.int (g.last:Int),.int g.want,.int g.most] n=some d->Qs K (tOp (rIx K) (Q5 0)<|tC<|.int n) ρ d:=λe h=>ZS (Qq e) Q6 h;exact ZZ (VV (ds:=[.int (g.line:Int),.int (g.first:Int),.int (g.last:Int),.int z,.int g.most]) (QY (a rfl rfl)<|QY (a rfl rfl)<|QY (a rfl rfl)<|QY (Qq rfl)<|QY (a rfl rfl) Z9)<|by show(5:Nat)<=1000;decide) rfl
inductive R_stay:List OT->OT->Prop
 |mk {g:Gs}{n:Nat}:R_stay [.fz<|QV g,.fz<|.int (n:Int)] (.fz<|QV { g with first:=max g.first n })
def ZhA:Qp Zaw Zaw (Q4 NF):=by walk_at"p"
def A6(T:Bl mg)(D:Df K mg "staying_from" NF Zaw):QE P w K mg base "staying_from" Zaw 1 (QL (K:=K) R_stay):=by
 refine D.ev ZhA (λts r h=>by cases h;rfl) (λ_ _ _ _ s H E ts r b h=>?_);cases h with
 |@mk g n=>
  refine⟨_,(Q2<|QT<|VX<|Qo (QC QD (pv 0) Qw)<|Qo (Zx (Cq rfl) (by rfl) T.max Hw<|Qo (QC QD (pv 0) Qw)<|Qo (pv 1) Qr)<|Qo (QC QD (pv 0) Qw)<|Qo (QC QD (pv 0) Qw)<|Qo (QC QD (pv 0) Qw) Qr),?_⟩;show Q3 K _ [_,_] _
  walk_at"x";have a:∀{ρ:ZbJ} {n:Int} {d:PyData},ρ[0]?=some (zf<|QV g)->atI [.int (g.line:Int),.int (g.first:Int),.int (g.last:Int),.int g.want,.int g.most] n=some d->Qs K (tOp (rIx K) (Q5 0)<|tC<|.int n) ρ d:=λe h=>ZS (Qq e) Q6 h;refine ZZ (Qs.cast (VV (ds:=[.int (g.line:Int),.int<|max (g.first:Int) (n:Int),.int (g.last:Int),.int g.want,.int g.most]) (QY (a rfl rfl)<|QY (RX (a rfl rfl)<|Qq rfl)<|QY (a rfl rfl)<|QY (a rfl rfl)<|QY (a rfl rfl) Z9)<|by show(5:Nat)<=1000;decide) ?_) rfl;have e:max (g.first:Int) (n:Int)=((max g.first n:Nat):Int):=by lia
  rw[e];rfl
def DL(N:HandS)(k:Nat)(z:Int):Prop := ∃(g:Gs) (x:Int),N.known[k]?=some (QV g)/\N.given[k]?=some x/\z=if (Yc N.gone<|.inl (k:Int)).isSome then 0 else g.want-x
inductive R_hnum(CH:Addr):List OT->(OT->Prop)->Prop
 |mk {N:HandS}{k:Nat}(h:k<N.known.length):R_hnum CH [.zow<|QZ CH N,.fz<|.int (k:Int)] (λr=>r=.fz .none)
def Zeb:Qp Zaz Zaz (Q4 NL):=by walk_at"p"
def AM(T:Bl mg)(i:HandC K CH)(D:Mf K CH "refuse_number" "Hand.refuse_number" NL Zaz)(a:QE P w K mg base "is_whole_within" Zay 2 (QL (K:=K) R_within)):ZC P w K mg base CH "refuse_number" Zaz 3 (Zr K<|R_hnum CH):=by
 refine D.evD Zeb (λts f h=>by cases h;rfl) (λ_ _ _ _ s H E ts f g h=>?_);cases h with
 |@mk N k h=>
  refine⟨_,(Q2<|Zo (YF<|ZF<|QH a g<|Qo (pv 1)<|Qo Qw<|Qo (Zx V1 (by rfl) T.len Vx<|Qo (Zg (pv 0) rfl) Qr) Qr) (Q2 K1) Zp),?_⟩;show Q3 K _ [_,_] _
  walk_at"x";refine Zt (b:=false) (Y0 (b:=true)<|ZJ<|Qs.cast (Zb (Qv (Qq rfl)<|Qv Q6<|Qv (J5<|MX i rfl) QA) R_within.mk) ?_) (by rintro⟨⟩) (λ_=>Zz rfl);rw[XJ (show(0:Int)<=(k:Int) by lia),XJ (show(k:Int)<(N.known.length:Int) by lia)];rfl
def Oa{k:Nat}{x:Int}(a:N.given[k]?=some x):atI (N.given.map PyData.int) (k:Int)=some (.int x):=Vm (by rw[Xs,a];rfl)
inductive R_hrest(CH:Addr):List OT->(OT->Prop)->Prop
 |mk {N:HandS}{k:Nat}{z:Int}(h:DL N k z):R_hrest CH [.zow<|QZ CH N,.fz<|.int (k:Int)] (λr=>r=.fz (.int z))
def ZjX:Qp Zaz Zaz (Q4 Nw):=by walk_at"p"
def Iy(T:Bl mg)(a:HandC K CH)(D:Mf K CH "rest" "Hand.rest" Nw Zaz)(j:ZC P w K mg base CH "refuse_number" Zaz 3 (Zr K<|R_hnum CH))(i:QE P w K mg base "want_of" ZaD 1 (QL (K:=K) R_want)):ZC P w K mg base CH "rest" Zaz 4 (Zr K<|R_hrest CH):=by
 refine D.evD ZjX (λts n h=>by cases h;rfl) (λ_ _ _ _ s H E ts n f h=>?_);cases h with
 |@mk N k z h=>
  refine⟨_,(Qz (Zu<|SY j a f (pv 0)<|Qo (pv 1) Qr)
 (Qz (Zo (Gq<|Ht (Yz f) (pv 1)<|Zg (pv 0) rfl) (Q2<|QT Qw) Zp)
 (Q2<|QT<|QP Y1 (QH i f<|Qo (QC QD (Zg (pv 0) rfl)<|pv 1) Qr)<|QC QD (Zg (pv 0) rfl)<|pv 1))),?_⟩
  show Q3 K _ [_,_] _
  walk_at"x";obtain⟨g,x,m,p,rfl⟩:=h;have r:=(Xf.mp m).1;refine QK (JB (B7 CF rfl (Qv (Qq rfl) QA)<|R_hnum.mk r) ?_);refine QK (Zt (b:=(Yc N.gone<|.inl (k:Int)).isSome) (ZA<|ZnX (k:=.inl (k:Int)) a (Qq rfl) rfl) (λc=>?_) λc=>Zz ?_)
  .rw[c];exact ZZ Q6 rfl
  .rw[c];exact ZZ (Z7 (Zb (Qv (VL (MX a rfl) (Qq rfl)<|Vm m) QA) R_want.mk)<|VL (ZmG a rfl) (Qq rfl)<|Oa p) rfl
noncomputable def stl(gs:List Gs)(n:Nat)(a:Qn)(k:Nat):Gs:={ gs.getD k default with first:=max (gs.getD k default).first n,want:=a k }
inductive R_hstill(CH:Addr):List OT->(OT->Prop)->Prop
 |mk {N:HandS}{gs:List Gs}{n:Nat}(rs:Qn)(hk:N.known=gs.map QV)(hn:N.now=(n:Int))(h:∀k,k<gs.length->DL N k (rs k))(l:gs.length<=900):R_hstill CH [.zow<|QZ CH N] (λr=>r=.ol ((List.range gs.length).map λk=>QV<|stl gs n rs k))
def Dt:Qp ["self","guests","number","guest"] Zax (Q4 NJ):=by walk_at"p"
def OC(T:Bl mg)(m:HandC K CH)(D:Mf K CH "still_there" "Hand.still_there" NJ Zax)(f:QE P w K mg base "with_want" ZaV 1 (QL (K:=K) R_withw))(j:QE P w K mg base "staying_from" Zaw 1 (QL (K:=K) R_stay))(g:ZC P w K mg base CH "rest" Zaz 4 (Zr K<|R_hrest CH)):ZC P w K mg base CH "still_there" Zax 5 (Zr K<|R_hstill CH):=by
 refine D.evD Dt (λts y h=>by cases h;rfl) (λ_ _ _ _ s H E ts y b h=>?_);cases h with
 |@mk N a n A C B h l=>
  refine⟨_,(Qz (QO (i:=1) Dt.nd rfl Qa<|ZE Qr)
 (Qz (Vc zN rfl (by exact(BL rfl T.enumerate<|Qo (Zg (pv 0) rfl) Qr)) (Jx (n:=2) rfl (Vy (Zh (i:=2) Dt.nd rfl Qa)<|Vy (Zh (i:=3) Dt.nd rfl Qa) Jc))<|by exact(Q2<|Zu<|VJ zP zS zT VN (pv 1)<|Qo (QH f b<|Qo (QH j b<|Qo (pv 3)<|Qo (Zg (pv 0) rfl) Qr)<|Qo (SY g m b (pv 0)<|Qo (pv 2) Qr) Qr) Qr))
 (Q2<|QT<|pv 1))),?_⟩
  show Q3 K _ [_,_,_,_] _
  walk_at"x";refine QK (VW (V4 (ds:=[]) Z9<|by decide) ?_);walk_at"d";refine QK (B0 (λi=>[zz<|QZ CH N,some<|.ol<|(List.range i).map λk=>QV<|stl a n A k,none,none]) (Bv<|Qv (Qs.cast (MX m rfl) (show _=PyData.list (a.map QV) by rw[C])) QA) ⟨rfl,rfl,trivial⟩ ?st ?fin)
  case st=>
   intro i d R;obtain⟨d1,r,rfl⟩:=MS R;have p:i<a.length:=by
    have:=(Xf.mp r).1;simpa using this
   obtain rfl:d1=QV (a.getD i default):=by simpa [p] using r.symm
   refine⟨_,WQ (ds:=[.int (i:Int),QV<|a.getD i default]) (V5 Zq<|V5 Zq WT) rfl,?_⟩;walk_at"d";refine UD rfl (Zb (Qv (Zb (Qv (Qq rfl)<|Qv (Qs.cast (B9 m rfl)<|by rw[B]) QA) R_stay.mk)<|Qv (PL A7 rfl (Qv (Qq rfl) QA)<|R_hrest.mk<|h i p) QA) R_withw.mk) (by rw[Xl,JM];lia) ⟨rfl,?_,trivial⟩;rw[YL,XF];rfl
  case fin=>
   intro v M;refine Bm M ?_;rw[MQ,Xl];exact Mt rfl rfl
def hT(y:Yd)(n:Nat)(gs:List Gs)(gv:Ql)(a:Qk)(ms:List Zco):HandS:=⟨QJ y,(n:Int),gs.map QV,gv,a.map λ(k:Nat)=>(.inl (k:Int),.bool true),ms⟩
noncomputable def rsT(gs:List Gs)(gv:Ql)(a:Qk)(k:Nat):Int:=if k∈a then 0 else (gs.getD k default).want-gv.getD k 0
theorem SD(k:Nat):∀a:Qk,(Yc (a.map λ(k:Nat)=>((.inl (k:Int):Key),PyData.bool true))<|.inl (k:Int)).isSome=decide (k∈a)
 |[]=>rfl
 |x::a=>by
  have b:=SD k a;unfold Yc at b ⊢;rw[Xw,Xy];by_cases z:x=k
  .subst z;simp
  .have f:¬((.inl (x:Int):Key)=.inl (k:Int)):=λq=>z (by injection q with q;lia)
   simp only[f,decide_false];rw[b];simp[Ne.symm z]
def HP{y:Yd}(gl:gv.length=gs.length)(h:k<gs.length):DL (hT y n gs gv go ms) k (rsT gs gv go k):=by
 refine⟨gs.getD k default,gv.getD k 0,by simp[hT,h],by simp[hT,h,gl],?_⟩;show _=if (Yc (go.map λ(k:Nat)=>((.inl (k:Int):Key),PyData.bool true))<|.inl (k:Int)).isSome=true then _ else _;rw[SD];unfold rsT;simp only[decide_eq_true_eq]
def mT(n:Nat)(gs:List Gs)(gv:Ql)(a:Qk):List Gs:=(List.range gs.length).map (stl gs n<|rsT gs gv a)
def Vs(n:Nat)(gs:List Gs)(gv:Ql)(a:Qk):(mT n gs gv a).length=gs.length:=by simp[mT]
def Hj(n:Nat)(gs:List Gs)(gv:Ql)(a:Qk):((List.range gs.length).map λk=>QV<|stl gs n (rsT gs gv a) k)=(mT n gs gv a).map QV:=by
 unfold mT;rw[X7];rfl
def YC(h:k<gs.length):(mT n gs gv go).getD k default=stl gs n (rsT gs gv go) k:=by simp[mT,h]
def Gf{y:Yd}(f:∀x∈gs,G30 y x)(h0:∀k,k<gs.length->0<=rsT gs gv go k):∀x∈mT n gs gv go,GOk y x:=λx b=>by
 obtain⟨k,a,rfl⟩:=XL.mp b;have a:=XH.mp a;have g:=(f (gs.getD k default)<|by simp[a]).ok;have h:=g.m1;exact⟨g.ln,h0 k a,by show 0<=(gs.getD k default).most;lia⟩
inductive R_hcome:HandS->List OT->(OT->HandS->Prop)->Prop
 |mk {y:Yd}{n:Nat}{gs:List Gs}{gv:Ql}{go:Qk}{ms:List Zco}{g:Gs}(ok:y.Ok)(hg:∀x∈gs,G30 y x)(gk:G30 y g)(gl:gv.length=gs.length)(gn:n<=g.first)(h0:∀k,k<gs.length->0<=rsT gs gv go k)(l:gs.length<=7)(h:∀S,Zk y (Qy<|mT n gs gv go++[g]) S<=0):R_hcome (hT y n gs gv go ms) [.fz<|QV g] (λr N'=>r=.fz (.int (gs.length:Int))/\N'=hT y n (gs++[g]) (gv++[0]) go ms)
inductive X_hcome(CH:Addr):List OT->(Qd->Prop)->Prop
 |mk {y:Yd}{n:Nat}{gs:List Gs}{gv:Ql}{go:Qk}{ms:List Zco}{g:Gs}(ok:y.Ok)(hg:∀x∈gs,G30 y x)(gk:G30 y g)(gl:gv.length=gs.length)(gn:n<=g.first)(h0:∀k,k<gs.length->0<=rsT gs gv go k)(l:gs.length<=7){S:Qm}(h:0<Zk y (Qy<|mT n gs gv go++[g]) S):X_hcome CH [.zow<|QZ CH<|hT y n gs gv go ms,.fz<|QV g] (λd=>∃S,0<Zk y (Qy<|mT n gs gv go++[g]) S/\d=Za (Zn (mT n gs gv go++[g]) S))
def Zjv:Qp ZaW ZaW (Q4 KQ):=by walk_at"p"
def EM(T:Bl mg)(R:HandC K CH)(XR:XC K mg "NoRoom" YR CR fR)(D:Mf K CH "come" "Hand.come" KQ ZaW)(J:QE P w K mg base "is_guest" ZaU 4 (QL (K:=K) R_isguest))(I:VU P w K mg base CH "refuse_past" ZaG 1 (Yx K ct YN (R_hpast CH)<|X_hpast CH))(z:Ue P w K mg base "refuse_lack" Zaa 7 (spX K CR "some" R_refuse X_refuse))(G:ZC P w K mg base CH "still_there" Zax 5 (Zr K<|R_hstill CH)):
 VU P w K mg base CH "come" ZaW 8 (UU K CH CR "some" R_hcome<|X_hcome CH):=by
 have t:∀{ρ:ZbJ} {y:Yd} {n:Nat} {a:List Gs} {i:Ql} {j:Qk} {p:List Zco} {g:Gs} {E:XK},i.length=a.length->ρ[0]?=some (zz<|QZ CH<|hT y n a i j p)->ρ[1]?=some (zf<|QV g)->a.length<=7->Qs K (tOp D2 (ZR CH "still_there" (Zr K<|R_hstill CH) [] E (Q5 0) QM)<|Uc<|QF (Q5 1) QM) ρ (.list<|(mT n a i j++[g]).map QV):=λ{ρ y n a i j p g E} gl e0 e1 l=>
  Qs.cast (EvO.fz<|R3 (as:=(mT n a i j).map QV) (bs:=[QV g]) (Qs.cast (EvO.fz<|Z2.o<|B7 Ko e0 QA<|R_hstill.mk (n:=n) (rsT a i j) rfl rfl (λk hk=>HP gl hk)<|by lia)<|by rw[Hj]) (EvO.fz<|V4 (QY (Qq e1) Z9) Wc)<|by rw[Xl,Vs];show a.length+1<=1000;lia) (by rw[XF];rfl)
 have X:∀{ρ:ZbJ} {g:Gs},ρ[1]?=some (zf<|QV g)->Qs K (tOp (rIx K) (Q5 1)<|tC<|.int 1) ρ (.int (g.first:Int)):=λ{ρ g} e=>ZS (ds:=[.int (g.line:Int),.int (g.first:Int),.int (g.last:Int),.int g.want,.int g.most]) (Qq e) Q6 rfl
 have u:∀{y:Yd} {n:Nat} {a:List Gs} {i:Ql} {j:Qk} {g:Gs},(∀x∈a,G30 y x)->G30 y g->(∀k,k<a.length->0<=rsT a i j k)->∀x∈mT n a i j++[g],GOk y x:=λo W q x Y=>by
  rcases XD.mp Y with Y|Y
  .exact Gf o q x Y
  .rw[Xh.mp Y];exact Fz W.ok
 refine D.evHXn Zjv (λM ts Ψ h=>by cases h;rfl) (λts U h=>by cases h;rfl) (by decide) (λf Q A outer s H RR v M ts Ψ m B h=>?_) (λf Q A outer s F H RR ts U m B Z h=>?_)
 .cases h with
  |@mk y n a i j p g O o W gl gn q l h=>
   refine⟨_,(Qz (Zo (YF<|ZF<|QH J m<|Qo (Zg (pv 0) rfl)<|Qo (pv 1) Qr) (PSs.nox<|Q2 K1) Zp)
 (Qz (Zu<|YV I R m (Gc (C:=ct)) (pv 0)<|Qo (QC QD (pv 1) Qw) Qr)
 (Qz (Zu<|B2 z m (Ut B)<|Qo (Zg (pv 0) rfl)<|Qo (QP Sh (VY G R m<|pv 0)<|ZE<|Qo (pv 1) Qr) Qr)
 (PSs.nox (Qz (Zu<|VJ zP zS zT VN (Zg (pv 0) rfl)<|Qo (pv 1) Qr)
 (Qz (Zu<|VJ zP zS zT VN (Zg (pv 0) rfl)<|Qo Qw Qr)
 (Q2<|QT<|QP Y1 (Zx V1 (by rfl) T.len Vx<|Qo (Zg (pv 0) rfl) Qr) Qw))))))),SR ?_⟩
   show EvR K _ [zo v<|QI CH<|hT y n a i j p,zf<|QV g] _
   walk_at"x";refine Ya (Zt (b:=false) (JA 0 rfl (Y0 (b:=true)<|ZJ<|Zb (Qv (Qs.cast (JE (N:=hT y n a i j p) R rfl) rfl)<|Qv (Qq rfl) QA)<|R_isguest.mk W)) (by rintro⟨⟩) λ_=>Zz rfl) ?_;refine Ya (JB (Jb 0 rfl (λr m=>by rw[m];exact JG rfl)<|BG U8 rfl (Qv (X rfl) QA) (R_hpast.mk<|by show(n:Int)<=(g.first:Int);lia) B1) rfl) ?_
   try walk_at"d"
   refine Ya (JB (Jb 0 rfl (λr m=>by rw[m];exact JG rfl)<|P7 (Qv (Qs.cast (JE (N:=hT y n a i j p) R rfl) rfl)<|Qv (t gl rfl rfl l) QA) (R_refuse.mk O (u o W q) (by rw[Xn,Vs];show a.length+1<=8;lia) h) B) rfl) ?_
   try walk_at"d"
   refine Ya (OD R rfl (Qq rfl) (by show(a.map QV).length<1000;rw[Xl];lia) rfl) ?_
   try walk_at"d"
   refine ZL (λL=>L=[zo v<|QI CH<|hT y n (a++[g]) (i++[0]) j p,zf<|QV g]) (OJ (n:=0) R rfl Q6 (by show i.length<1000;lia) ?_) ?_
   .simp[hT]
   rintro _ rfl;refine WX (Qs.cast (G6 (d:=.int ((a.length:Int)+1-1)) 0 rfl rfl (Z7 (Qs.cast (J5<|MX (N:=hT y n (a++[g]) (i++[0]) j p) R rfl) ?_) Q6)) ?_) ⟨_,⟨rfl,rfl⟩,rfl⟩
   .show PyData.int (((a++[g]).map QV).length:Int)=_
    rw[Xl,Xn];rfl
   .rw[Int.add_sub_cancel]
 .cases h with
  |@mk y n a i j p g O o W gl gn q l S h=>
   refine⟨_,(Qz (Zo (YF<|ZF<|QH J m<|Qo (Zg (pv 0) rfl)<|Qo (pv 1) Qr) (PSs.nox<|Q2 K1) Zp)
 (Qz (Zu<|YV I R m (Gc (C:=ct)) (pv 0)<|Qo (QC QD (pv 1) Qw) Qr)
 (Qz (Zu<|B2 z m (Ut B)<|Qo (Zg (pv 0) rfl)<|Qo (QP Sh (VY G R m<|pv 0)<|ZE<|Qo (pv 1) Qr) Qr)
 (PSs.nox (Qz (Zu<|VJ zP zS zT VN (Zg (pv 0) rfl)<|Qo (pv 1) Qr)
 (Qz (Zu<|VJ zP zS zT VN (Zg (pv 0) rfl)<|Qo Qw Qr)
 (Q2<|QT<|QP Y1 (Zx V1 (by rfl) T.len Vx<|Qo (Zg (pv 0) rfl) Qr) Qw))))))),?_⟩
   show EvZ K F H _ [zz<|QZ CH<|hT y n a i j p,zf<|QV g]
   walk_at"x";refine Mn (Zt (b:=false) (Y0 (b:=true)<|ZJ<|Zb (Qv (Qs.cast (JE (N:=hT y n a i j p) R rfl) rfl)<|Qv (Qq rfl) QA)<|R_isguest.mk W) (by rintro⟨⟩) λ_=>Zz rfl) ?_;refine Mn (JB (BG U8 rfl (Qv (X rfl) QA) (R_hpast.mk<|by show(n:Int)<=(g.first:Int);lia) B1) rfl) ?_;exact Mo (SB (Qv (Qs.cast (JE (N:=hT y n a i j p) R rfl) rfl)<|Qv (t gl rfl rfl l) QA) (X_refuse.mk O (u o W q) (by rw[Xn,Vs];show a.length+1<=8;lia) h) B Z)
def gfD(f:Qn)(m:Nat):Zco:=((List.range m).filter λk=>decide (f k > 0)).map λ(k:Nat)=>(.inl (k:Int),.int<|f k)
def gvT(gv:Ql)(f:Qn)(m i:Nat):Ql:=(List.range m).map λk=>gv.getD k 0+if k<i then f k else 0
def Fl{m:Nat}(h:gv.length=m)(f:Qn):gvT gv f m 0=gv:=by
 subst h;apply List.ext_getElem?;intro i;by_cases a:i<gv.length
 .simp[gvT,a]
 .simp[gvT,a]
def Ew{f:Qn}{m:Nat}(h:m<=i):((gfD f m).any λg=>decide (g.1=(.inl (i:Int):Key)))=false:=by
 rw[List.any_eq_false];intro x a;unfold gfD at a;obtain⟨k,b,rfl⟩:=XL.mp a;have b:=XH.mp (WJ.mp b).1;simp only[decide_eq_true_eq];intro z;injection z with z;lia
def A2{f:Qn}(h:f i > 0):Gd (gfD f i) (.inl (i:Int)) (.int<|f i)=gfD f (i+1):=by
 unfold Gd;rw[Ew<|Xq _,Xb<|by decide];unfold gfD;rw[YL,JP,XF];simp[h]
def Ae{f:Qn}(h:¬f i > 0):gfD f (i+1)=gfD f i:=by
 unfold gfD;rw[YL,JP,XF];simp[h]
def Al(f:Qn)(m:Nat):(gfD f m).length<=m:=by
 unfold gfD;rw[Xl];exact X0 (List.length_filter_le _ _) (by simp)
def AT{f:Qn}{m:Nat}(b:i<m):(gvT gv f m i).set i (gv.getD i 0+f i)=gvT gv f m (i+1):=by
 apply List.ext_getElem?;intro j;by_cases a:j<m
 .by_cases e:j=i
  .subst e;rw[Xm<|by simp[gvT,a]];simp[gvT,a]
  .rw[Xt<|Ne.symm e];simp only[gvT,Xs,List.getElem?_range a,Wa];congr 2
   by_cases c:j<i
   .rw[Xd c,Xd<|by lia]
   .rw[Xb c,Xb<|by lia]
 .rw[JS<|by simp[gvT];lia,JS<|by simp[gvT];lia]
def CN{f:Qn}{m:Nat}(h:f i=0):gvT gv f m (i+1)=gvT gv f m i:=by
 unfold gvT;refine WK λk _=>?_
 congr 1
 by_cases c:k<i
 .rw[Xd c,Xd<|by lia]
 .by_cases a:k=i
  .subst a;rw[Xd<|by lia,Xb c,h]
  .rw[Xb c,Xb<|by lia]
def RZ{f:Qn}{m:Nat}(a:k<m):(gvT gv f m i)[k]?=some (gv.getD k 0+if k<i then f k else 0):=by simp[gvT,a]
def Oc{y:Yd}(b:i<G.m):((W6 y G φ).map λa=>PyData.list<|a.map PyData.int)[i]?=some (.list<|(List.range y.T).map λt=>PyData.int<|QS G φ t i):=by
 unfold W6;simp[b]
inductive R_hturn:HandS->List OT->(OT->HandS->Prop)->Prop
 |mk {y:Yd}{n:Nat}{gs:List Gs}{gv:Ql}{go:Qk}{ms:List Zco}(ok:y.Ok)(hg:∀x∈gs,G30 y x)(gl:gv.length=gs.length)(hn:n<y.T)(h0:∀k,k<gs.length->0<=rsT gs gv go k)(l:gs.length<=8)(ml:ms.length<=8):
  R_hturn (hT y n gs gv go ms) [] (λr N'=>∃φ v,WO y (Qy<|mT n gs gv go) φ/\r=.own v (dkP<|gfD (QS (Qy<|mT n gs gv go) φ n) gs.length)/\N'=hT y (n+1) gs (gvT gv (QS (Qy<|mT n gs gv go) φ n) gs.length gs.length) go (ms++[gfD (QS (Qy<|mT n gs gv go) φ n) gs.length]))
inductive X_hturn(CH:Addr):List OT->(Unit->Prop)->Prop
 |mk {y:Yd}{gs:List Gs}{gv:Ql}{go:Qk}{ms:List Zco}:X_hturn CH [.zow<|QZ CH<|hT y y.T gs gv go ms] (λ_=>True)
def Jg:Qp ["self","filling","gifts","number","takes"] Zax (Q4 KR):=by walk_at"p"
def EU(T:Bl mg)(o:HandC K CH)(D:Mf K CH "turn" "Hand.turn" KR Zax)(O:VU P w K mg base CH "refuse_past" ZaG 1 (Yx K ct YN (R_hpast CH)<|X_hpast CH))(Q:QE P w K mg base "turns_of" ZaI 1 (QL (K:=K) R_turns))(S:QE P w K mg base "best_filling" Zaa 6 (Zr K R_great))(L:ZC P w K mg base CH "still_there" Zax 5 (Zr K<|R_hstill CH)):
 VU P w K mg base CH "turn" Zax 7 (JX K CH ct YN R_hturn<|X_hturn CH):=by
 refine D.evHXn Jg (λM ts Ψ h=>by cases h;rfl) (λts Φ h=>by cases h;rfl) (by decide) (λf cdv A outer s H RR v M ts Ψ Y e h=>?_) (λf cdv A outer s F H RR ts Φ Y e hq h=>?_)
 .cases h with
  |@mk y n a g p R ok hg gl Z h0 l ml=>
   refine⟨_,(Qz (Zu<|YV O o Y (Ut e) (pv 0)<|Qo (QP Y1 (QH Q Y<|Qo (Zg (pv 0) rfl) Qr) Qw) Qr)
 (PSs.nox (Qz (QO (i:=1) Jg.nd rfl Qa<|QH S Y<|Qo (Zg (pv 0) rfl)<|Qo (VY L o Y<|pv 0) Qr)
 (Qz (QO (i:=2) Jg.nd rfl Qa K2)
 (Qz (Vc zN rfl (by exact(BL rfl T.enumerate<|Qo (pv 1) Qr)) (Jx (n:=2) rfl (Vy (Zh (i:=3) Jg.nd rfl Qa)<|Vy (Zh (i:=4) Jg.nd rfl Qa) Jc)) (by exact(Q2 (Zo (ZG Yh (QC QD (pv 4)<|Zg (pv 0) rfl) Qw<|Zy _) (Qz (HI (Yz Y) (pv 2) (pv 3) (QC QD (pv 4)<|Zg (pv 0) rfl) rfl)
 (Q2<|Gx (Zg (pv 0) rfl) (pv 3) G7 (QC QD (pv 4)<|Zg (pv 0) rfl) Bq Yk)) Zp))))
 (Qz (Zu<|VJ zP zS zT VN (Zg (pv 0) rfl)<|Qo (pv 2) Qr)
 (Qz (To (pv 0) Qw Sm)
 (Q2<|QT<|WF Py (by rfl) T.dict Pk<|Qo (pv 2) Qr)))))))),SR ?_⟩
   show EvR K _ [zo v<|QI CH<|hT y n a g p R,none,none,none,none] _
   walk_at"x";refine Ya (JB (Jb 0 rfl (λr Y=>by rw[Y];exact JG rfl)<|BG U8 rfl (Qv (Z7 (Zb (Qv (Qs.cast (JE (N:=hT y n a g p R) o rfl) rfl) QA) R_turns.mk) Q6) QA) (R_hpast.mk<|by show(n:Int)<=(y.T:Int)-1;lia) e) rfl) ?_
   try walk_at"d"
   refine ZL (λB=>∃X,WO y (Qy<|mT n a g p) X/\B=[zo v<|QI CH<|hT y n a g p R,some<|.oll<|(W6 y (Qy<|mT n a g p) X).map λC=>C.map PyData.int,none,none,none]) (Wk (Jb 0 rfl ?th<|WB (Qv (Qs.cast (JE (N:=hT y n a g p R) o rfl) rfl)<|Qv (Qs.cast (EvO.fz<|Z2.o<|B7 Ko rfl QA<|R_hstill.mk (n:=n) (rsT a g p) rfl rfl (λk hk=>HP gl hk)<|by lia)<|by rw[Hj]) QA)<|R_great.mk ok (Gf hg h0)<|by rw[Vs];exact l) ?_) ?_
   case th=>
    rintro r ⟨X,_,rfl⟩;refine IF λds hd=>?_;obtain⟨C,_,rfl⟩:=XL.mp hd;intro d hd';obtain⟨x,_,rfl⟩:=XL.mp hd'
    exact⟨_,rfl⟩
   .rintro r ⟨X,W,rfl⟩;exact⟨X,W,rfl⟩
   rintro _ ⟨X,W,rfl⟩;refine Cz 1 rfl rfl ?_;walk_at"d";rw[X7];have Gm:(Qy<|mT n a g p).m=a.length:=Vs n a g p;have fn:∀k,k<a.length->0<=QS (Qy<|mT n a g p) X n k:=λk hk=>(W.1.tak (by rw[Gm];exact hk) Z).1;have u:∀i,i<a.length->((W6 y (Qy<|mT n a g p) X).map (PyData.list ∘ λC=>C.map PyData.int))[i]?=some (.list<|(List.range y.T).map λt=>PyData.int<|QS (Qy<|mT n a g p) X t i):=λi q=>Oc (by rw[Gm];exact q)
   have z:((W6 y (Qy<|mT n a g p) X).map (PyData.list ∘ λC=>C.map PyData.int)).length=a.length:=by
    rw[Xl];unfold W6;rw[Xl,JM,Gm]
   generalize ((W6 y (Qy<|mT n a g p) X).map (PyData.list ∘ λC=>C.map PyData.int))=E at u z;refine ZL (λB=>∃w,B=[zo v<|QI CH<|hT y n a g p R,zf<|.list E,zo w<|dkP [],none,none]) (M4 Oq λw=>⟨w,rfl⟩) ?_;rintro _ ⟨w,rfl⟩;generalize hf:QS (Qy<|mT n a g p) X n=f at fn;have G:∀i,i<a.length->∃ts,E[i]?=some (.list ts)/\atI ts (n:Int)=some (.int<|f i):=λi q=>⟨_,u i q,by rw[Wl (by lia)<|by lia,Xo,<- hf]⟩;refine ZL (λB=>∃J I:Option OT,B=[zo v<|QI CH<|hT y n a (gvT g f a.length a.length) p R,zf<|.list E,zo w<|dkP<|gfD f a.length,J,I]) (V2 (λi B=>∃J I:Option OT,B=[zo v<|QI CH<|hT y n a (gvT g f a.length i) p R,zf<|.list E,zo w<|dkP<|gfD f i,J,I]) (Bv<|Qv (Qq rfl) QA) ⟨_,_,by rw[Fl gl];rfl⟩ ?st ?fin) ?_
   case fin=>
    intro B h;rw[MQ,z]at h;exact h
   case st=>
    rintro i d _ hd ⟨J,I,rfl⟩;obtain⟨d1,e1,rfl⟩:=MS hd;have q:i<a.length:=by
     have:=(Xf.mp e1).1;lia
    obtain⟨ts,t1,t2⟩:=G i q;obtain rfl:d1=.list ts:=by rw[e1]at t1;exact Option.some.inj t1
    refine⟨_,WQ (ds:=[.int (i:Int),.list ts]) (V5 Zq<|V5 Zq WT) rfl,?_⟩;walk_at"d";have U:∀{ρ:ZbJ} {N:HandS},N.now=(n:Int)->ρ[0]?=some (zz<|QZ CH N)->ρ[4]?=some (zf<|.list ts)->Qs K (tOp (rIx K) (Q5 4)<|Vf K (Q5 0) "present") ρ (.int<|f i):=λ{ρ N} Z e0 e4=>VL (Qq e4) (Qs.cast (B9 o e0)<|by rw[Z]) t2;refine Zt (b:=decide (f i > 0)) (Zf.cast (JA 0 rfl (ZA<|Vh (U (N:=hT y n a (gvT g f a.length i) p R) rfl rfl rfl) Q6)) rfl) (λc=>?_) (λc=>Zz ?_)
    .have c:=XW c;refine QK (E4 (k:=.inl (i:Int)) (d:=.int (f i)) rfl (G6 0 rfl rfl (U (N:=hT y n a (gvT g f a.length i) p R) rfl rfl rfl)) (Qq rfl) (Du (Al f i)<|Vp<|by lia) ?_);walk_at"d";rw[A2 c];refine Ed (k:=(i:Int)) (m:=g.getD i 0+0) (n:=f i) o rfl (Qq rfl) (by lia) (by show(gvT g f a.length i)[(i:Int).toNat]?=_;rw[Xo,RZ q,Xb<|Y5 i]) (G6 0 rfl rfl (U (N:=hT y n a (gvT g f a.length i) p R) rfl rfl rfl)) ?_;dsimp only[List.set,hT];rw[Xo,YZ,AT q];exact⟨_,_,rfl⟩
    .have c:=JO c;have fi:=fn i q;rw[Ae c,CN (show f i=0 by lia)];exact⟨_,_,rfl⟩
   rintro _ ⟨J,I,rfl⟩;refine Ol (j:=2) (by decide) o rfl rfl (by show R.length<1000;lia) λw'=>⟨_,⟨X,w',W,?_,?_⟩,rfl⟩
   .rw[hf]
   .rw[hf];rfl
 .cases h with
  |@mk y a g p R=>
   refine⟨_,(Qz (Zu<|YV O o Y (Ut e) (pv 0)<|Qo (QP Y1 (QH Q Y<|Qo (Zg (pv 0) rfl) Qr) Qw) Qr)
 (PSs.nox (Qz (QO (i:=1) Jg.nd rfl Qa<|QH S Y<|Qo (Zg (pv 0) rfl)<|Qo (VY L o Y<|pv 0) Qr)
 (Qz (QO (i:=2) Jg.nd rfl Qa K2)
 (Qz (Vc zN rfl (by exact(BL rfl T.enumerate<|Qo (pv 1) Qr)) (Jx (n:=2) rfl (Vy (Zh (i:=3) Jg.nd rfl Qa)<|Vy (Zh (i:=4) Jg.nd rfl Qa) Jc)) (by exact(Q2 (Zo (ZG Yh (QC QD (pv 4)<|Zg (pv 0) rfl) Qw<|Zy _) (Qz (HI (Yz Y) (pv 2) (pv 3) (QC QD (pv 4)<|Zg (pv 0) rfl) rfl)
 (Q2<|Gx (Zg (pv 0) rfl) (pv 3) G7 (QC QD (pv 4)<|Zg (pv 0) rfl) Bq Yk)) Zp))))
 (Qz (Zu<|VJ zP zS zT VN (Zg (pv 0) rfl)<|Qo (pv 2) Qr)
 (Qz (To (pv 0) Qw Sm)
 (Q2<|QT<|WF Py (by rfl) T.dict Pk<|Qo (pv 2) Qr)))))))),?_⟩
   show EvZ K F H _ [zz<|QZ CH<|hT y y.T a g p R,none,none,none,none]
   walk_at"x";exact Mo (Tq bkN U8 rfl (Qv (Z7 (Zb (Qv (Qs.cast (JE (N:=hT y y.T a g p R) o rfl) rfl) QA) R_turns.mk) Q6) QA) (X_hpast.mk<|by show(y.T:Int)-1<(y.T:Int);lia) e hq)
inductive R_lcome:HandS->List OT->(OT->HandS->Prop)->Prop
 | mk {y:Yd}{n:Nat}{gs:List Gs}{gv:Ql}{go:Qk}{ms:List Zco}{g:Gs}(ok:y.Ok)(hg:∀x∈gs,G30 y x)(gk:G30 y g)(gl:gv.length=gs.length)(gn:n<=g.first)(h0:∀k,k<gs.length->0<=rsT gs gv go k)(l:gs.length<=7)(h:∀S,Zk y (Qy<|mT n gs gv go++[g]) S<=0):R_lcome (hT y n gs gv go ms) [.fz<|QV g] (λr N'=>r=.ol [.str "in",.int (gs.length:Int)]/\N'=hT y n (gs++[g]) (gv++[0]) go ms)
inductive X_lcome(CH:Addr):List OT->(OT->Prop)->Prop
 | mk {y:Yd}{n:Nat}{gs:List Gs}{gv:Ql}{go:Qk}{ms:List Zco}{g:Gs}(ok:y.Ok)(hg:∀x∈gs,G30 y x)(gk:G30 y g)(gl:gv.length=gs.length)(gn:n<=g.first)(h0:∀k,k<gs.length->0<=rsT gs gv go k)(l:gs.length<=7){S:Qm}(h:0<Zk y (Qy<|mT n gs gv go++[g]) S):X_lcome CH [.zow<|QZ CH<|hT y n gs gv go ms,.fz<|QV g] (λr=>∃v S,0<Zk y (Qy<|mT n gs gv go++[g]) S/\r=.own v (lsO (.str "room")<|Za<|Zn (mT n gs gv go++[g]) S))
def Wp:Qp Zas ZaE (Q4 BH):=by walk_at"p"
def EY(T:Bl mg)(UH:HandC K CH)(XR:XC K mg "NoRoom" YR CR fR)(B:NT K mg YR CR cg ct)(D:Df K mg "_law_come" BH ZaE)(o:VU P w K mg base CH "come" ZaW 8 (UU K CH CR "some" R_hcome<|X_hcome CH)):
 QE P w K mg base "_law_come" ZaE 9 (WN K CH R_lcome<|X_lcome CH):=by
 refine D.evH2 Wp (λM ts Ψ h=>by cases h;rfl) (λts Φ h=>by cases h;rfl) (by decide) (λf cdv A outer s H E v M ts Ψ Y h=>?_) (λ_ _ _ _ s H E ts Φ Y h=>?_)
 .have I:=Y.units;cases h with
  |@mk y n R W X t g G J gk gl Z U l h=>
   refine⟨_,(Qz (QO (i:=2) Wp.nd rfl Qa Mr)
 (Qz (BC (j:=3) B.em rfl rfl rfl B.my Wp.nd rfl (.inr ⟨rfl,rfl⟩) (λD z=>(Q2<|QO (i:=2) Wp.nd rfl Qa<|ZE<|Qo Vo<|Qo (YV o UH Y BD (pv 0)<|Qo (pv 1) Qr) Qr)) (λe z=>(Qz (QO (i:=4) Wp.nd rfl (Or.inr rfl)<|ZE<|Qo (V3 B.is T.isi<|Qo (pv 3)<|Qo (VZ (v:=.ref _) rfl B.m1 rfl) Qr)<|Qo (V3 B.is T.isi<|Qo (pv 3)<|Qo (VZ (v:=.ref _) rfl B.m2 rfl) Qr)<|Qo (V3 B.is T.isi<|Qo (pv 3)<|Qo (VZ (v:=.ref _) rfl XR.m rfl) Qr) Qr)
 (Qz (K3 (i:=2) Wp.nd rfl rfl (NX:=Zas) (sc:=Q4 BH) (N:=ZaH) (f:=[none,some 4,some 3]) (by decide +kernel) rfl rfl (Tj (C:=CR) (e:=e) rfl rfl T.range<|Qo Qw Qr) (λ_=>(Zh (i:=0) (show(ZaH:Qh).Nodup by decide +kernel) rfl Qa)) (λ_=>Ym) (λ_=>(G2<|PW.pt<|YS (ZF<|QC (show IxR _ (rIx K) from QD) (pv 1)<|pv 0)<|YX<|ZF<|V3 B.is T.isi<|Qo (pv 2)<|Qo (Y2 (v:=.ty "ValueError") rfl T.ValueError JJ rfl) Qr)) (λ_=>(QC (show IxR _ (rIx K) from QD) (ZE<|Qo Vo<|Qo Vo<|Qo Vo Qr)<|pv 0)) rfl)
 (Q2<|Zo (ZG (Jv I) (pv 2) (ZE<|Qo Vo Qr)<|Zy _) (Q2<|Zu (show PE _ _ (tBM K "list" Yl _ _) from VJ zP zS zT VN (pv 2)<|Qo (Mz B.gt B.na<|pv 3) Qr)) Zp)))))
 (Q2<|QT<|pv 2))),?_⟩
   show EvR K _ [zo v<|QI CH<|hT y n R W X t,zf<|QV g,none,none,none] _
   walk_at"x";refine Ya (ZD Gh rfl) ?_
   try walk_at"d"
   refine ZL (λu=>u=[zo v<|QI CH<|hT y n (R++[g]) (W++[0]) X t,zf<|QV g,some<|.ol [.str "in",.int (R.length:Int)],none,none]) (Pm λE'=>EZ SQ rfl VE rfl (Qv (Qq rfl) QA) (R_hcome.mk G J gk gl Z U l h) BB ?_) ?_
   .rintro r N' ⟨rfl,rfl⟩;exact⟨_,_,rfl,rfl,rfl⟩
   rintro _ rfl;exact SS (j:=2) (by decide) rfl ⟨_,⟨rfl,rfl⟩,rfl⟩
 .have I:=Y.units;cases h with
  |@mk y n R W X t g G J gk gl Z U l S h=>
   refine⟨_,(Qz (QO (i:=2) Wp.nd rfl Qa Mr)
 (Qz (BC (j:=3) B.em rfl rfl rfl B.my Wp.nd rfl (.inr ⟨rfl,rfl⟩) (λD z=>(Q2<|QO (i:=2) Wp.nd rfl Qa<|ZE<|Qo Vo<|Qo (YV o UH Y BD (pv 0)<|Qo (pv 1) Qr) Qr)) (λe z=>(Qz (QO (i:=4) Wp.nd rfl (Or.inr rfl)<|ZE<|Qo (V3 B.is T.isi<|Qo (pv 3)<|Qo (VZ (v:=.ref _) rfl B.m1 rfl) Qr)<|Qo (V3 B.is T.isi<|Qo (pv 3)<|Qo (VZ (v:=.ref _) rfl B.m2 rfl) Qr)<|Qo (V3 B.is T.isi<|Qo (pv 3)<|Qo (VZ (v:=.ref _) rfl XR.m rfl) Qr) Qr)
 (Qz (K3 (i:=2) Wp.nd rfl rfl (NX:=Zas) (sc:=Q4 BH) (N:=ZaH) (f:=[none,some 4,some 3]) (by decide +kernel) rfl rfl (Tj (C:=CR) (e:=e) rfl rfl T.range<|Qo Qw Qr) (λ_=>(Zh (i:=0) (show(ZaH:Qh).Nodup by decide +kernel) rfl Qa)) (λ_=>Ym) (λ_=>(G2<|PW.pt<|YS (ZF<|QC (show IxR _ (rIx K) from QD) (pv 1)<|pv 0)<|YX<|ZF<|V3 B.is T.isi<|Qo (pv 2)<|Qo (Y2 (v:=.ty "ValueError") rfl T.ValueError JJ rfl) Qr)) (λ_=>(QC (show IxR _ (rIx K) from QD) (ZE<|Qo Vo<|Qo Vo<|Qo Vo Qr)<|pv 0)) rfl)
 (Q2<|Zo (ZG (Jv I) (pv 2) (ZE<|Qo Vo Qr)<|Zy _) (Q2<|Zu (show PE _ _ (tBM K "list" Yl _ _) from VJ zP zS zT VN (pv 2)<|Qo (Mz B.gt B.na<|pv 3) Qr)) Zp)))))
 (Q2<|QT<|pv 2))),?_⟩
   show Q3 K _ [zz<|QZ CH<|hT y n R W X t,zf<|QV g,none,none,none] _
   walk_at"x";refine QK (ZD (d:=.none) Gh ?_);walk_at"d";apply QK;apply Tw (C:=CR) (f := "some") (n:=5) (j:=3) (λd=>∃S,0<Zk y (Qy<|mT n R W X++[g]) S/\d=Za (Zn (mT n R W X++[g]) S)) (by decide)
   case hz=>
    intro E' F0 H0 F σ H' x St k;exact EN (F0:=F) (H0:=H') SQ rfl VE (Qv (Qq rfl) QA) (X_hcome.mk G J gk gl Z U l h) BB (λF' H'' e dct d L x' he fl=>k F' H'' e dct d L x' he fl) (Q0.refl St.sub) St
   case hth=>
    rintro _ e dx q ⟨S',Q,rfl⟩;dsimp only[List.set,List.replicate];refine QK (VW (V4 (ds:=[.bool false,.bool false,.bool true]) (QY (Gr rfl rfl B.kg)<|QY (Gr rfl rfl B.kt)<|QY (Gr rfl rfl B.k1) Z9)<|by show(3:Nat)<=1000;decide) ?_);walk_at"d";refine Ur 4 rfl ?_;walk_at"d";have fl:U2 [PyData.str "room"]:=λd L=>by rw[Xh.mp L];exact⟨_,rfl⟩
    refine QK (VW (r:=.ol [.str "room"]) (EB 3 rfl fl<|EvO.cast (Gi (xs:=List.range 3) (enc:=λ(k:Nat)=>PyData.int (k:Int)) (h:=λ(k:Nat)=>([.str "guest",.str "time",.str "room"]:Qd).getD k .none) (p:=λk=>decide (k=2)) ?ei (by decide) ?el) rfl) ?_)
    case ei=>exact EvI.cast (IW (i:=3) rfl (Qv Q6 QA) (by rw[z62];decide)<|by rw[z62];decide) rfl
    case el=>
     intro k hk c;have hk:=XH.mp hk;refine⟨_,Zq,?_⟩;walk_at"e";have im:atI [PyData.bool false,.bool false,.bool true] (k:Int)=some (PyData.bool<|decide (k=2)):=by
      obtain rfl|rfl|rfl:k=0\/k=1\/k=2:=by lia
      all_goals rfl
     refine⟨Zf.cast (Wz (b:=decide (k=2)) (c:=true) (ZJ<|VL (Qq rfl) (Qq rfl) im) λ_=>ZJ<|C5 rfl rfl B.k2)<|by rw[Bool.and_true],λO=>?_⟩;have O:=XW O;subst O;exact VL (EvO.fz<|V4 (ds:=[.str "guest",.str "time",.str "room"]) (QY VE<|QY VE<|QY VE Z9)<|by show(3:Nat)<=1000;decide) (Qq rfl) rfl
    walk_at"d";have fr:VS (.list [.str "room"]):=(Pn (m:=0)<|Bw ⟨by decide +kernel,XQ _⟩ Hm).fine (by decide);refine Zt (b:=true) (PD 2 rfl rfl (Zf.cast (ZA<|WS (a:=.list [.str "room"]) (b:=.list [.str "room"]) (Qq rfl) (EvO.fz<|V4 (QY VE Z9) Wc) fr fr)<|by rw[J7 fr])) (λ_=>?_) (by rintro⟨⟩);refine EC (by decide) rfl rfl λv=>?_
    walk_at"d";exact HK rfl ⟨v,S',Q,rfl⟩
theorem KI{f:Qn}{t:Nat}:∀{n:Nat},(∀k,k<n->0<=f k)->t<n->f t<=Q1 f n
 |0,_,h=>by lia
 |n+1,a,h=>by
  rw[Q1];have g:=M0 (f:=f) (n:=n) λk b=>a k (by lia);have i:=a n (by lia)
  by_cases e:t=n
  .subst e;lia
  .have:=KI (f:=f) (n:=n) (λk b=>a k<|by lia) (show t<n by lia);lia
def Ek(f:Qn)(m:Nat):Bd (gfD f m):=λx a=>by
 unfold gfD at a;obtain⟨k,_,rfl⟩:=XL.mp a;exact⟨_,_,rfl,rfl⟩
def AR(gv:Ql)(f:Qn)(m i:Nat):(gvT gv f m i).length=m:=by simp[gvT]
def HH{f:Qn}{m:Nat}(a:k<m):(gvT gv f m m).getD k 0=gv.getD k 0+f k:=by
 rw[List.getD,RZ a,Xd a];rfl
def Pb{y:Yd}(h:WO y (Qy<|mT n gs gv go) φ)(hn:n<y.T)(i:k<gs.length):QS (Qy<|mT n gs gv go) φ n k<=rsT gs gv go k:=by
 have F:=h.1;have g:k<(Qy<|mT n gs gv go).m:=by show k<(mT n gs gv go).length;rw[Vs];exact i
 have a:=KI (f:=λt=>QS (Qy<|mT n gs gv go) φ t k) (λt j=>(F.tak g j).1) hn;have b:=F.total g;have c:=(F.want g).2;have e:(Qy<|mT n gs gv go).wa k=rsT gs gv go k:=by
  show((mT n gs gv go).getD k default).want=_
  rw[YC i];rfl
 lia
def O7{y:Yd}(b:WO y (Qy<|mT n gs gv go) φ)(hn:n<y.T):∀k,k<gs.length->0<=rsT gs (gvT gv (QS (Qy<|mT n gs gv go) φ n) gs.length gs.length) go k:=λk f=>by
 have a:=Pb b hn f;unfold rsT at a ⊢;by_cases c:k∈go
 .rw[Xd c];exact YJ _
 .rw[Xb c]at a ⊢;rw[HH f];lia
theorem T5{y:Yd}{b own:Qn}(g:∀l,0<=b l)(f:∀l,0<=own l):∀i l,0<=ZX y b own i l
 |0,l=>f l
 |i+1,l=>by
  have a:=T5 (y:=y) g f i;show 0<=ZX y b own i l+_;have m:=a l;have j:=a (y.ls.length-1-i);have h:=g (y.ls.length-1-i)
  split<;>lia
def Tz{y:Yd}(h:y.Ok){b:Qn}(f:∀l,0<=b l)(g:∀l,0<=own l):0<=passes y b own 0:=by
 have a:=T5 (y:=y) f g (y.ls.length-1) 0;have c:=f 0;unfold passes V0;lia
theorem LD{y:Yd}{b:Qn}(f:∀l,0<=b l):∀i l,ZX y b (λ_=>0) i l=0
 |0,l=>rfl
 |i+1,l=>by
  have a:=LD (y:=y) f i;show ZX y b (λ_=>0) i l+_=0;rw[a l,a<|y.ls.length-1-i];have g:=f (y.ls.length-1-i)
  split<;>lia
def LA{y:Yd}(g:y.Ok){b:Qn}(f:∀l,0<=b l):passes y b (λ_=>0) 0=0:=by
 have a:=LD (y:=y) f (y.ls.length-1) 0;have c:=f 0;unfold passes V0;lia
def OQ{y:Yd}(n:y.Ok)(r:∀g∈gs,GOk y g)(j:WO y (Qy gs) φ)(h:∀S,Zk y (Qy gs) S<=0)(i:k<gs.length):Q1 (λt=>QS (Qy gs) φ t k) y.T=(gs.getD k default).want:=by
 obtain⟨F,es,p,v,s⟩:=j;have a:Bh y (Qy gs) φ=Zk y (Qy gs) (Vu es):=F.lack n (Bp r) v p s;have b:=h (Vu es);have m:∀k,k<(Qy gs).m->0<=(Qy gs).wa k-Q1 (λt=>QS (Qy gs) φ t k) y.T:=λk i=>by
  rw[F.total i];have:=F.want i;lia
 have c:=KI (f:=λk=>(Qy gs).wa k-Q1 (λt=>QS (Qy gs) φ t k) y.T) m (show k<(Qy gs).m from i);have d:=m k i;have e:(Qy gs).wa k=(gs.getD k default).want:=rfl;unfold Bh at a;have w:(Qy gs).wa k-Q1 (λt=>QS (Qy gs) φ t k) y.T<=Q1 (λk=>(Qy gs).wa k-Q1 (λt=>QS (Qy gs) φ t k) y.T) (Qy gs).m:=c;lia
def IT{y:Yd}(w:y.Ok)(K:∀x∈gs,G30 y x)(h0:∀k,k<gs.length->0<=rsT gs gv go k)(j:WO y (Qy<|mT n gs gv go) φ)(hn:n<y.T)
(h:∀S,Zk y (Qy<|mT n gs gv go) S<=0):∀S,Zk y (Qy<|mT (n+1) gs (gvT gv (QS (Qy<|mT n gs gv go) φ n) gs.length gs.length) go) S<=0:=λS=>by
 have E:=Gf (y:=y) (n:=n) K h0;have F:=j.1;generalize M:QS (Qy<|mT n gs gv go) φ n=f;have A:(Qy<|mT n gs gv go).m=gs.length:=Vs n gs gv go;have r:(Qy<|mT (n+1) gs (gvT gv f gs.length gs.length) go).m=gs.length:=Vs _ _ _ _;have B:∀k,k<gs.length->Q1 (λt=>QS (Qy<|mT n gs gv go) φ t k) y.T=rsT gs gv go k:=λk i=>by
  rw[OQ w E j h (show k<(mT n gs gv go).length by rw[Vs];exact i),YC i];rfl
 have m:∀t k,t<n->k<gs.length->QS (Qy<|mT n gs gv go) φ t k=0:=λt k s i=>by
  have a:=F.tak (show k<(Qy<|mT n gs gv go).m by rw[A];exact i) (show t<y.T by lia);have b:moT (Qy<|mT n gs gv go) t k=0:=by
   unfold moT;rw[Xb];show ¬Vn ((mT n gs gv go).getD k default) (t:Int)=true;rw[YC i];unfold Vn stl;simp only[Wb,decide_eq_true_eq,not_and];intro z;have:n<=max (gs.getD k default).first n:=Nat.le_max_right _ _
   lia
  lia
 have p:∀k,k<gs.length->rsT gs (gvT gv f gs.length gs.length) go k=Q1 (λt=>if n<t then QS (Qy<|mT n gs gv go) φ t k else 0) y.T:=λk i=>by
  have R:∀T,n<T->Q1 (λt=>QS (Qy<|mT n gs gv go) φ t k) T=f k+Q1 (λt=>if n<t then QS (Qy<|mT n gs gv go) φ t k else 0) T:=λT=>by
   induction T with
   |zero=>intro z;lia
   |succ T W=>
    intro z;rw[Q1,Q1];by_cases c:n<T
    .rw[W c,Xd c];lia
    .have e:T=n:=by lia
     subst e;have P:Q1 (λt=>QS (Qy<|mT T gs gv go) φ t k) T=0:=by
      rw[Zi (g:=λ_=>0) λt s=>m t k s i,Vj]
     have N:Q1 (λt=>if T<t then QS (Qy<|mT T gs gv go) φ t k else 0) T=0:=by
      rw[Zi (g:=λ_=>0) λt s=>Xb<|by lia,Vj]
     rw[P,N,Xb<|by lia,<- M];lia
  have a:=R y.T hn;have b:=B k i;have D:k∈go->f k=0:=λC=>by
   have c:rsT gs gv go k=0:=by unfold rsT;rw[Xd C]
   have d:=Pb j hn i;have e:=(F.tak (show k<(Qy<|mT n gs gv go).m by rw[A];exact i) hn).1;rw[M]at d e;lia
  unfold rsT at b ⊢;by_cases c:k∈go
  .rw[Xd c]at b ⊢;have:=D c;lia
  .rw[Xb c]at b ⊢;rw[HH i];lia
 have G:Q1 (Zd S (Qy<|mT (n+1) gs (gvT gv f gs.length gs.length) go).wa) gs.length=Q1 (λt=>if n<t then Q1 (Zd S<|QS (Qy<|mT n gs gv go) φ t) gs.length else 0) y.T:=by
  have u:Q1 (Zd S (Qy<|mT (n+1) gs (gvT gv f gs.length gs.length) go).wa) gs.length=Q1 (λk=>Q1 (λt=>if n<t then Zd S (QS (Qy<|mT n gs gv go) φ t) k else 0) y.T) gs.length:=Zi λk i=>by
   unfold Zd;by_cases c:S k=true
   .simp only[Xd c];rw[<- p k i];show((mT (n+1) gs (gvT gv f gs.length gs.length) go).getD k default).want=_;rw[YC i];rfl
   .simp only[Xb c,ite_self];rw[Vj]
  rw[u,BA];refine Zi λt s=>?_
  by_cases c:n<t
  .rw[Xd c];exact Zi λk _=>Xd c
  .rw[Xb c,Zi (g:=λ_=>0) λk _=>Xb c,Vj]
 have H:Q1 (λt=>if n<t then Q1 (Zd S<|QS (Qy<|mT n gs gv go) φ t) gs.length else 0) y.T<=Q1 (λt=>passes y (λl=>Z3 y l t) (VA (Qy<|mT (n+1) gs (gvT gv f gs.length gs.length) go) S t) 0) y.T:=Wj λt s=>by
  have v:∀l,0<=VA (Qy<|mT (n+1) gs (gvT gv f gs.length gs.length) go) S t l:=λl=>by
   unfold VA;refine M0 λk i=>Int.mul_nonneg ?_ ?_
   .unfold Zd;split
    .unfold moT;split
     .show 0<=((mT (n+1) gs (gvT gv f gs.length gs.length) go).getD k default).most
      rw[r]at i;rw[YC i];have:=(K (gs.getD k default)<|by simp[i]).ok.m1;show 0<=(gs.getD k default).most
      lia
     .exact YJ _
    .exact YJ _
   .unfold ind;split<;>decide
  by_cases c:n<t
  .rw[Xd c];have a:=F.no_more w (Bp E) S s;rw[A]at a;have q:VA (Qy<|mT (n+1) gs (gvT gv f gs.length gs.length) go) S t=VA (Qy<|mT n gs gv go) S t:=funext λl=>by
    unfold VA;rw[A,r];refine Zi λk i=>?_
    have o:moT (Qy<|mT (n+1) gs (gvT gv f gs.length gs.length) go) t k=moT (Qy<|mT n gs gv go) t k:=by
     unfold moT;show(if Vn ((mT (n+1) gs (gvT gv f gs.length gs.length) go).getD k default) (t:Int)=true then ((mT (n+1) gs (gvT gv f gs.length gs.length) go).getD k default).most else 0)=if Vn ((mT n gs gv go).getD k default) (t:Int)=true then ((mT n gs gv go).getD k default).most else 0
     rw[YC i,YC i];have Y:Vn (stl gs (n+1) (rsT gs (gvT gv f gs.length gs.length) go) k) (t:Int)=Vn (stl gs n (rsT gs gv go) k) (t:Int):=by
      unfold Vn stl;congr 1;refine decide_eq_decide.mpr ?_;show(((max (gs.getD k default).first (n+1):Nat):Int)<=(t:Int))↔(((max (gs.getD k default).first n:Nat):Int)<=(t:Int))
      lia
     rw[Y];rfl
    have X:(Qy<|mT (n+1) gs (gvT gv f gs.length gs.length) go).ln k=(Qy<|mT n gs gv go).ln k:=by
     show((mT (n+1) gs (gvT gv f gs.length gs.length) go).getD k default).line=((mT n gs gv go).getD k default).line
     rw[YC i,YC i];rfl
    rw[X];unfold Zd;rw[o]
   rw[q];exact a
  .rw[Xb c];exact Tz w (λl=>Mq w l t) v
 unfold Zk;rw[r,G];lia
def ZnG{y:Yd}(p:y.Ok)(E:∀x∈gs,G30 y x)(h0:∀k,k<gs.length->0<=rsT gs gv go k)(h:∀S,Zk y (Qy<|mT n gs gv go) S<=0)(b:k<gs.length)(D:(gs.getD k default).last<n):rsT gs gv go k=0:=by
 have a:=h (λj=>decide (j=k));have A:(Qy<|mT n gs gv go).m=gs.length:=Vs n gs gv go;have w:Q1 (Zd (λj=>decide (j=k)) (Qy<|mT n gs gv go).wa) (Qy<|mT n gs gv go).m=rsT gs gv go k:=by
  rw[A];have f:∀m,k<m->Q1 (Zd (λj=>decide (j=k)) (Qy<|mT n gs gv go).wa) m=(Qy<|mT n gs gv go).wa k:=λm=>by
   induction m with
   |zero=>intro z;lia
   |succ m r=>
    intro z;rw[Q1];by_cases c:k<m
    .rw[r c];unfold Zd;rw[Xb<|by simp;lia];lia
    .have:m=k:=by lia
     subst this;have i:Q1 (Zd (λj=>decide (j=m)) (Qy<|mT n gs gv go).wa) m=0:=by
      rw[Zi (g:=λ_=>0) λj s=>?_,Vj];unfold Zd;rw[Xb<|by simp;lia]
     rw[i];unfold Zd;rw[Xd<|by simp];lia
  rw[f _ b];show((mT n gs gv go).getD k default).want=_;rw[YC b];rfl
 have v:∀t,t<y.T->passes y (λl=>Z3 y l t) (VA (Qy<|mT n gs gv go) (λj=>decide (j=k)) t) 0=0:=λt C=>by
  have z:VA (Qy<|mT n gs gv go) (λj=>decide (j=k)) t=λ_=>0:=funext λl=>by
   unfold VA;rw[Zi (g:=λ_=>0) λj s=>?_,Vj];unfold Zd;by_cases c:j=k
   .subst c;rw[Xd<|by simp];have:moT (Qy<|mT n gs gv go) t j=0:=by
     unfold moT;rw[Xb];show ¬Vn ((mT n gs gv go).getD j default) (t:Int)=true;rw[YC b];unfold Vn stl;simp only[Wb,decide_eq_true_eq,not_and];intro i B;have:n<=max (gs.getD j default).first n:=Nat.le_max_right _ _
     lia
    rw[this,Int.zero_mul]
   .rw[Xb<|by simp[c],Int.zero_mul]
  rw[z];exact LA p (λl=>Mq p l t)
 unfold Zk at a;rw[w,Zi (g:=λ_=>0) v,Vj]at a;have:=h0 k b;lia
inductive R_hnow(CH:Addr):List OT->(OT->Prop)->Prop
 |mk {N:HandS}:R_hnow CH [.zow<|QZ CH N] (λr=>r=.fz (.int N.now))
def ZkG:Qp Zax Zax (Q4 Nf):=by walk_at"p"
def Ar(T:Bl mg)(b:HandC K CH)(D:Mf K CH "now" "Hand.now" Nf Zax):ZC P w K mg base CH "now" Zax 1 (Zr K<|R_hnow CH):=by
 refine D.evD ZkG (λts a h=>by cases h;rfl) (λ_ _ _ _ s H E ts a f h=>?_);cases h with
 |@mk N=>
  refine⟨_,(Q2<|QT<|Zg (pv 0) rfl),?_⟩;show Q3 K _ [_] _
  walk_at"x";exact ZZ (B9 b rfl) rfl
def Zgv:Qp Zax Zax (Q4 N6):=by walk_at"p"
def Iu(T:Bl mg)(b:HandC K CH)(D:Mf K CH "yard_now" "Hand.yard_now" N6 Zax):ZC P w K mg base CH "yard_now" Zax 1 (spY CH):=by
 obtain⟨f,fd,F,m,p⟩:=D.ex;refine⟨f,fd,m,p,F.ok Zgv (λi H Q E h=>by obtain⟨a,dx,y,n,k,g,d,e,rfl,_⟩:=h;rfl) λv A outer s H i Q E B h=>?_⟩;refine⟨_,(Q2<|QT<|Zg (pv 0) rfl),?_⟩;obtain⟨a,dx,y,n,k,g,d,e,rfl,r,j⟩:=h;exact⟨_,rfl,a,CH,dx,_,y,rfl,r,b.cl,b.yd,rfl,j⟩
noncomputable def eRw(g:Gs):PyData:=.list [.int (g.line:Int),.int (g.first:Int),.int (g.last:Int),.int g.want,.int g.most]
def Tk{b:Type}(a:b)(n:Nat):List.replicate n a=(List.range n).map λ_=>a:=by
 apply List.ext_getElem?;intro i;by_cases h:i<n
 .simp[h]
 .simp[h]
def Vv(y:Yd)(b own:Qn)(i l:Nat):Int:=if y.ls.length<=l+i then passes y b own l else ZX y b own i l
def fpW(gs:List Gs)(a:Qk):Qk:=a.filter λk=>decide (0<(gs.getD k default).want)
inductive R_lpass:List OT->OT->Prop
 |mk {y:Yd}{gs:List Gs}{sm:Qk}{t:Nat}(ok:y.Ok)(hs:SetOk gs sm)(hg:∀k (h:k<gs.length),k∈sm->gs[k].line<y.ls.length)(ht:t<y.T):
  R_lpass [.fz<|QJ y,.fz<|.list<|gs.map eRw,.fz<|.list<|Za sm,.fz<|.int (t:Int)] (.fz<|.int<|ZH y gs (fpW gs sm) t)
def Wq:Qp ["_law_yard_here","_law_rows","_law_picked","_law_turn","_law_reach","_law_number","_law_line","_law_first","_law_last","_law_lack","_law_most","_law_k","_law_above","_law_bounds"] Zai (Q4 N9):=by walk_at"p"
def En(T:Bl mg)(D:Df K mg "_law_passes" N9 Zai):QE P w K mg base "_law_passes" Zai 1 (QL (K:=K) R_lpass):=by
 refine D.ev Wq (λts r h=>by cases h;rfl) (λ_ _ _ _ s H E ts r hr h=>?_);cases h with
 |@mk y v p t X hs hg htT=>
  refine⟨_,(Qz (QO (i:=4) Wq.nd rfl Qa<|QP So (ZE<|Qo Qw Qr)<|Zx V1 (by rfl) T.len Vx<|Qo (QC QD (pv 0) Qw) Qr)
 (Qz (Vc zN rfl (by exact(W9<|pv 2)) (Zh (i:=5) Wq.nd rfl Qa) (by exact(Qz (YD (QC QD (pv 1)<|pv 5)<|FZ (n:=5) rfl (Vy (Zh (i:=6) Wq.nd rfl Qa)<|Vy (Zh (i:=7) Wq.nd rfl Qa)<|Vy (Zh (i:=8) Wq.nd rfl Qa)<|Vy (Zh (i:=9) Wq.nd rfl Qa)<|Vy (Zh (i:=10) Wq.nd rfl Qa) Jc))
 (Q2<|Zo (PW.pt<|YS (Kp Uo Uo (pv 7) (pv 3)<|pv 8)<|YX<|ZG Yh (pv 9) Qw<|Zy _) (Q2<|YD (QP Vi (QC QD (pv 4)<|pv 6)<|pv 10)<|W7 (pv 4) (pv 6) Yk) Zp))))
 (Qz (Vc zN rfl (by exact(KJ rfl T.range<|Qo (QP Y1 (Zx V1 (by rfl) T.len Vx<|Qo (pv 4) Qr) Qw)<|Qo (Bg Bk Qw)<|Qo (Bg Bk Qw) Qr)) (Zh (i:=11) Wq.nd rfl Qa) (by exact(Qz (YD (QC QD (QC QD (pv 0) Qw)<|pv 11)<|Jx (n:=2) rfl (Vy (Zh (i:=12) Wq.nd rfl Qa)<|Vy (Zh (i:=13) Wq.nd rfl Qa) Jc))
 (Qz (YD (Zx (Mj rfl) (by rfl) T.min Bo<|Qo (QC QD (pv 4)<|pv 11)<|Qo (QC QD (pv 13)<|pv 3) Qr)<|W7 (pv 4) (pv 11) Yk)
 (Q2<|Zo (ZG Yh (pv 11) Qw<|Zy _) (Q2<|YD (QP Vi (QC QD (pv 4)<|pv 12)<|QC QD (pv 4)<|pv 11)<|W7 (pv 4) (pv 12) Yk) Zp)))))
 (Q2<|QT<|QC QD (pv 4) Qw)))),?_⟩
  show Q3 K _ [_,_,_,_,_,_,_,_,_,_,_,_,_,_] _
  walk_at"x";have l1:=X.l1;have l5:=X.l5;have t8:=X.t8;have n8:=hs.len;have eL:∀{ρ:ZbJ},ρ[0]?=some (zf<|QJ y)->Qs K (tOp (rIx K) (Q5 0)<|tC<|.int 1) ρ (.tuple<|y.ls.map Zs):=λe=>ZS (ds:=[PyData.int (y.T:Int),.tuple<|y.ls.map Zs]) (Qq e) Q6 rfl;have L:(y.ls.map Zs).length=y.ls.length:=by simp
  refine QK (VW (EvO.cast (Sk (ds:=[.int 0]) (k:=(y.ls.length:Int)) (EvO.fz<|V4 (ds:=[.int 0]) (QY Q6 Z9) Wc) (Qs.cast (Gu<|eL rfl)<|by rw[L]) (by lia) (by show 1*_<=1000;lia)<|by lia) (d':=.ol ((List.range y.ls.length).map λl=>PyData.int<|Zw v (t:Int) l [])) ?e0) ?_)
  case e0=>
   rw[HQ,Xo,Tk];rfl
  walk_at"d";refine QK (V2 (ds:=Za p) (λi M=>∃I G F x u B:Option OT,M=[zf<|QJ y,zf<|.list<|v.map eRw,zf<|.list<|Za p,zi (t:Int),some<|.ol<|(List.range y.ls.length).map λl=>PyData.int<|Zw v (t:Int) l<|fpW v<|p.take i,I,G,F,x,u,B,none,none,none]) (Ja<|Qq rfl) ⟨_,_,_,_,_,_,rfl⟩ ?st3 ?fin3)
  case st3=>
   rintro i d _ J ⟨I,G,F,x,u,B,rfl⟩;have q:i<p.length:=by
    have:=(Xf.mp J).1;simpa [Za] using this
   obtain rfl:d=.int ((p[i]:Nat):Int):=by simpa [Za,q] using J.symm
   have Y:p[i]<v.length:=hs.mem _ (XX q);refine⟨_,Zq,?_⟩;walk_at"d";have tk:p.take (i+1)=p.take i++[p[i]]:=by rw[JT];simp[q]
   have eg:atI (v.map eRw) ((p[i]:Nat):Int)=some (eRw v[p[i]]):=Vm (by simp[Y]);have gl:=hg p[i] Y (XX q);have eD:v.getD p[i] default=v[p[i]]:=by simp[Y]
   have C:fpW v (p.take<|i+1)=fpW v (p.take i)++(if 0<v[p[i]].want then [p[i]] else []):=by
    rw[tk];unfold fpW;rw[JP];congr 1
    by_cases z:0<v[p[i]].want
    .rw[Xd z];exact NQ (by rw[eD];exact XJ z)
    .rw[Xb z];exact NP (by rw[eD];simpa using z)
   refine QK (Me (VL (Qq rfl) (Qq rfl) eg) (Fd (V5 Zq<|V5 Zq<|V5 Zq<|V5 Zq<|V5 Zq WT) rfl) ?_);walk_at"d";refine Zt (b:=Vn v[p[i]] (t:Int)&&decide (v[p[i]].want > 0)) (Zf.cast (Wz (c:=decide (v[p[i]].want > 0)) (ZA<|B3 (Qq rfl) (Qq rfl)<|Qq rfl) λ_=>ZA<|Vh (Qq rfl) Q6) rfl) (λc=>?_) (λc=>Zz ?_)
   .rw[Wb]at c;obtain⟨c,cw⟩:=c;have cw:=XW cw;rw[Xd cw]at C;have it:∀{ρ:ZbJ},ρ[4]?=some (some<|.ol<|(List.range y.ls.length).map λl=>PyData.int<|Zw v (t:Int) l<|fpW v<|p.take i)->ρ[6]?=some (zi (v[p[i]].line:Int))->Qs K (tOp (rIx K) (Q5 4)<|Q5 6) ρ (.int<|Zw v (t:Int) v[p[i]].line (fpW v<|p.take i)):=λZ U=>Wi Z (Qq U) (by rw[Wl (by lia)<|by lia,Xo]);refine U7 (j:=v[p[i]].line) rfl (Z7 (it rfl rfl)<|Qq rfl) (Qq rfl) (by rw[Jt (by lia)<|by simp;lia,Xo]) ?_
    walk_at"d";rw[U9 (f:=λl=>Zw v (t:Int) l<|fpW v<|p.take i) (g:=λl=>Zw v (t:Int) l<|fpW v<|p.take<|i+1) gl (λl O o=>by rw[C,UF];simp[Zw,Y,Ne.symm o])<|by rw[C,UF];simp[Zw,Y,c]];exact⟨_,_,_,_,_,_,rfl⟩
   .have e:(λl=>PyData.int<|Zw v (t:Int) l<|fpW v<|p.take<|i+1)=λl=>PyData.int (Zw v (t:Int) l<|fpW v<|p.take i):=by
     funext l
     rw[C,UF];by_cases z:0<v[p[i]].want
     .have c:Vn v[p[i]] (t:Int)=false:=by
       rw[XJ (show v[p[i]].want > 0 from z),Bool.and_true]at c;exact c
      rw[Xd z];simp[Zw,Y,c]
     .rw[Xb z];simp[Zw]
    dsimp only;rw[e];exact⟨_,_,_,_,_,_,rfl⟩
  case fin3=>
   rintro _ ⟨I,G,F,x,u,B,rfl⟩;have el:(Za p).length=p.length:=by simp[Za]
   rw[el,Ji];generalize hb:(λk=>Z3 y k t)=b;generalize ho:W0 v t (fpW v p)=m;have e0:((List.range y.ls.length).map λl=>PyData.int<|Zw v (t:Int) l<|fpW v p)=(List.range y.ls.length).map λl=>PyData.int (Vv y b m 0 l):=WK λl O=>by
    have:=XH.mp O;unfold Vv;rw[Xb<|by lia,<- ho];rfl
   rw[e0];refine QK (V2 (ds:=Wv ((y.ls.length:Int)-1) y.ls.length) (λi M=>∃W R N:Option OT,M=[zf<|QJ y,zf<|.list<|v.map eRw,zf<|.list<|Za p,zi (t:Int),some<|.ol<|(List.range y.ls.length).map λl=>PyData.int<|Vv y b m i l,I,G,F,x,u,B,W,R,N]) ?ei4 ⟨_,_,_,rfl⟩ ?st4 ?fin4)
   case ei4=>
    apply EvI.cast
    .walk_at"ei"
    .rw[Xl,JM];exact KB rfl (by lia)
   case st4=>
    rintro i d _ J ⟨W,R,N,rfl⟩;obtain⟨q,rfl⟩:=MM J;refine⟨_,Zq,?_⟩;walk_at"d";have ej:(y.ls.length:Int)-1-(i:Int)=((y.ls.length-1-i:Nat):Int):=by lia
    rw[ej];generalize hj:y.ls.length-1-i=j;have A:j<y.ls.length:=by lia
    have hbl:=UB X A;have Q:(QU y j).bs.getD t 0=b j:=by rw[<- MZ A,<- hb]
    have ln:atI (y.ls.map Zs) (j:Int)=some (Zs<|QU y j):=Vm (by simp[A,QU]);have ar:Vv y b m i j=V0 y b m j:=by
     unfold Vv;rw[Xb<|by lia];have:i=y.ls.length-1-j:=by lia
     rw[this];exact Lq X b m A
    refine QK (Me (ZS (eL rfl) (Qq rfl) ln) (WQ (ds:=[upD (QU y j).up,.tuple<|(QU y j).bs.map PyData.int]) (V5 Zq<|V5 Zq WT) rfl) ?_);walk_at"d";refine QK (U7 (j:=j) rfl (Hb (Wi rfl (Qq rfl)<|Wl (by lia)<|by lia)<|ZS (Qq rfl) (Qq rfl)<|HC (by lia)<|by lia) (Qq rfl) (by rw[Jt (by lia)<|by simp;lia,Xo]) ?_);walk_at"d";rw[Xo,Xo,Q,ar];have ed:((List.range y.ls.length).map λl=>PyData.int<|Vv y b m i l).set j (.int<|min (V0 y b m j)<|b j)=(List.range y.ls.length).map λl=>PyData.int (if l=j then passes y b m j else Vv y b m i l):=U9 A (λl _ o=>Xb o) (Xd rfl);rw[ed];refine Zt (b:=decide ((j:Int) > 0)) (Zf.cast (ZA<|Vh (Qq rfl) Q6) rfl) (λc=>?_) (λc=>Zz ?_)
    .have c:=XW c;obtain⟨a,S,la⟩:=X.ups j (by lia) A;have eu:upD (QU y j).up=.int (a:Int):=by
      have:(QU y j).up=some a:=by rw[<- MP A];exact S
      rw[this];rfl
     rw[eu];refine U7 (j:=a) rfl (Z7 (Wi rfl (Qq rfl)<|Wl (by lia)<|by lia)<|Wi rfl (Qq rfl)<|Wl (by lia)<|by lia) (Qq rfl) (by rw[Jt (by lia)<|by simp;lia,Xo]) ?_;walk_at"d";rw[Xo,Xo,Xd rfl,Xb (show ¬a=j by lia)];have Z:∀l,l<y.ls.length->l≠a->Vv y b m (i+1) l=if l=j then passes y b m j else Vv y b m i l:=λl O o=>by
      unfold Vv;by_cases z:l=j
      .subst z;rw[Xd rfl,Xd<|by lia]
      .rw[Xb z]
       by_cases z2:y.ls.length<=l+i
       .rw[Xd z2,Xd<|by lia]
       .rw[Xb z2,Xb<|by lia];simp only[ZX,Ww,hj];rw[S,Xb<|by simpa using λz=>o z.symm];lia
     have U:Vv y b m (i+1) a=Vv y b m i a+passes y b m j:=by
      have r:ZX y b m i j=V0 y b m j:=by
       rw[<- ar];unfold Vv;rw[Xb<|by lia]
      unfold Vv;rw[Xb<|by lia,Xb<|by lia];simp only[ZX,Ww,hj];rw[S,Xd rfl,r];rfl
     rw[U9 (f:=λl=>if l=j then passes y b m j else Vv y b m i l) (g:=λl=>Vv y b m (i+1) l) (by lia) Z U];exact⟨_,_,_,rfl⟩
    .have c:=JO c;have e:(λl=>PyData.int (if l=j then passes y b m j else Vv y b m i l))=λl=>PyData.int (Vv y b m (i+1) l):=by
      funext l
      have:j=0:=by lia
      subst this;by_cases z:l=0
      .subst z;rw[Xd rfl];unfold Vv;rw[Xd<|by lia]
      .rw[Xb z];unfold Vv;rw[Xd<|by lia,Xd<|by lia]
     dsimp only;rw[e];exact⟨_,_,_,rfl⟩
   case fin4=>
    rintro _ ⟨W,R,N,rfl⟩;rw[Ky];refine ZZ (Qs.cast (Wi rfl Q6<|Wl (by decide)<|by lia) ?_) rfl;unfold Vv ZH;rw[Xd<|by lia,hb,ho];rfl
def lnB(l:Ln)(t:Nat)(b:Int):Ln:=⟨l.up,l.bs.set t b⟩
def ydB(y:Yd)(l t:Nat)(b:Int):Yd:=⟨y.T,y.ls.set l<|lnB (QU y l) t b⟩
def Kt{a:Type}{xs:List a}{v:a}(h:k<xs.length):xs.take k++[v]++xs.drop (k+1)=xs.set k v:=by
 rw[List.set_eq_take_append_cons_drop,Xd h];simp
def Sg{y:Yd}{b:Int}(a:l<y.ls.length)(j:Nat):Zc (ydB y l t b) j=Zc y j:=by
 simp only[Zc,ydB];by_cases h:j=l
 .subst h;rw[Xm a];simp[lnB,QU,a]
 .rw[Xt<|Ne.symm h]
def He{y:Yd}(a:y.Ok){b:Int}(i:l<y.ls.length)(s:0<=b)(r:b<10^300):(ydB y l t b).Ok:=by
 have m:∀x∈(ydB y l t b).ls,x∈y.ls\/x=lnB (QU y l) t b:=λx f=>by
  rcases List.mem_or_eq_of_mem_set f with h|h
  .exact .inl h
  .exact .inr h
 have g:QU y l∈y.ls:=by
  have e:QU y l=y.ls[l]:=by simp[QU,i]
  rw[e];exact XX i
 refine⟨a.t1,a.t8,?_,?_,?_,?_,?_,?_⟩
 .show 1<=(y.ls.set l _).length
  rw[JU];exact a.l1
 .show(y.ls.set l _).length<=5
  rw[JU];exact a.l5
 .rw[Sg i];exact a.up0
 .intro k p j;rw[Sg i];refine a.ups k p ?_;have j:k<(y.ls.set l<|lnB (QU y l) t b).length:=j;rw[JU]at j;exact j
 .intro x f;rcases m x f with h|rfl
  .exact a.bl x h
  .show((QU y l).bs.set t b).length=y.T
   rw[JU];exact a.bl _ g
 .intro x f c n;rcases m x f with h|rfl
  .exact a.bb x h c n
  .rcases List.mem_or_eq_of_mem_set (show c∈(QU y l).bs.set t b from n) with h|rfl
   .exact a.bb _ g c h
   .exact⟨s,r⟩
def ID{y:Yd}(b:y.Ok)(f:l<y.ls.length):R_above [.fz<|QJ y,.fz<|.int (l:Int)] (.fz<|upD (QU y l).up):=by
 have g:(QU y l).up=Zc y l:=by simp[QU,Zc,f]
 by_cases h:l=0
 .subst h;rw[g,b.up0];exact R_above.zero b
 .obtain⟨a,i,m⟩:=b.ups l (by lia) f;have r:=R_above.mk (y:=y) (k:=(l:Int)) b (by lia) (by lia);rw[Xo]at r;have j:upN y l=a:=by simp[upN,i]
  rw[j]at r;rw[g,i];exact r
inductive R_withb:List OT->OT->Prop
 |mk {y:Yd}{l t:Nat}{b:Int}(ok:y.Ok)(hl:l<y.ls.length)(ht:t<y.T):R_withb [.fz<|QJ y,.fz<|.int (l:Int),.fz<|.int (t:Int),.fz<|.int b] (.fz<|QJ<|ydB y l t b)
def Dk:Qp ["yard","line","turn","bound","above","bounds","changed"] ZaA (Q4 Nr):=by walk_at"p"
def El(T:Bl mg)(D:Df K mg "with_bound" Nr ZaA)(n:QE P w K mg base "above_of" ZaJ 1 (QL (K:=K) R_above)):QE P w K mg base "with_bound" ZaA 2 (QL (K:=K) R_withb):=by
 refine D.ev Dk (λts r h=>by cases h;rfl) (λ_ _ _ _ s H E ts r A h=>?_);cases h with
 |@mk y l t b j m v=>
  refine⟨_,(Qz (QO (i:=4) Dk.nd rfl Qa<|QH n A<|Qo (pv 0)<|Qo (pv 1) Qr)
 (Qz (QO (i:=5) Dk.nd rfl Qa<|QC QD (QC QD (QC QD (pv 0) Qw)<|pv 1) Qw)
 (Qz (QO (i:=6) Dk.nd rfl Qa<|VX<|Qo (pv 4)<|Qo (QP G1 (QP G1 (GC G3 (pv 5) Gz<|G4<|pv 2)<|VX<|Qo (pv 3) Qr)<|GC G3 (pv 5) (G4<|QP Vi (pv 2) Qw) Gz) Qr)
 (Q2<|QT<|VX<|Qo (QC QD (pv 0) Qw)<|Qo (QP G1 (QP G1 (GC G3 (QC QD (pv 0) Qw) Gz<|G4<|pv 1)<|VX<|Qo (pv 6) Qr)<|GC G3 (QC QD (pv 0) Qw) (G4<|QP Vi (pv 1) Qw) Gz) Qr)))),?_⟩
  show Q3 K _ [_,_,_,_,_,_,_] _
  walk_at"x";have R:=j.l5;have N:=j.t8;have M:(QU y l).bs.length=y.T:=UB j m;have a:((QU y l).bs.map PyData.int).length=y.T:=by simpa using M
  have f:(y.ls.map Zs).length=y.ls.length:=by simp
  have C:((t:Int)+1)=((t+1:Nat):Int):=by lia
  have B:((l:Int)+1)=((l+1:Nat):Int):=by lia
  have g:∀{ρ:ZbJ},ρ[0]?=some (zf<|QJ y)->Qs K (tOp (rIx K) (Q5 0)<|tC<|.int 1) ρ (.tuple<|y.ls.map Zs):=λe=>ZS (ds:=[PyData.int (y.T:Int),.tuple<|y.ls.map Zs]) (Qq e) Q6 rfl;have p:R_above [.fz<|QJ y,.fz<|.int (l:Int)] (.fz<|upD (QU y l).up):=ID j m;refine QK (ZD (Zb (Qv (Qq rfl)<|Qv (Qq rfl) QA) p) ?_)
  walk_at"d";refine QK (ZD (d:=.tuple ((QU y l).bs.map PyData.int)) (ZS (ds:=[upD (QU y l).up,.tuple<|(QU y l).bs.map PyData.int]) (ZS (g rfl) (Qq rfl)<|Vm<|by rw[Xs];simp[QU,m,Zs]) Q6 rfl) ?_);walk_at"d";refine QK (ZD (d:=Zs (lnB (QU y l) t b)) (Qs.cast (VV (QY (Qq rfl)<|QY (U5 (U5 (Gk (Qq rfl) U6<|U1<|Qq rfl) (VV (ds:=[.int b]) (QY (Qq rfl) Z9) Wc) ?l1) (Gk (Qq rfl) (U1<|Qs.cast (Z7 (Qq rfl) Q6)<|by rw[C]) U6) ?l2) Z9) YO) ?eq) ?_)
  case l1=>rw[WY _ _<|by rw[a];lia,Ws,a];simp;lia
  case l2=>rw[WY _ _<|by rw[a];lia,Gj _ _<|by rw[a];lia,Xn,Ws,GN,a];simp;lia
  case eq=>
   rw[WY _ _<|by rw[a];lia,Gj _ _<|by rw[a];lia,Kt<|by rw[a];exact v];unfold Zs lnB;dsimp only;rw[GK]
  walk_at"d";refine ZZ (Qs.cast (VV (QY (ZS (ds:=[PyData.int (y.T:Int),.tuple<|y.ls.map Zs]) (Qq rfl) Q6 rfl)<|QY (U5 (U5 (Gk (g rfl) U6<|U1<|Qq rfl) (VV (ds:=[Zs<|lnB (QU y l) t b]) (QY (Qq rfl) Z9) Wc) ?l3) (Gk (g rfl) (U1<|Qs.cast (Z7 (Qq rfl) Q6)<|by rw[B]) U6) ?l4) Z9) YO) ?eq2) rfl
  case l3=>rw[WY _ _<|by rw[f];lia,Ws,f];simp;lia
  case l4=>rw[WY _ _<|by rw[f];lia,Gj _ _<|by rw[f];lia,Xn,Ws,GN,f];simp;lia
  case eq2=>
   rw[WY _ _<|by rw[f];lia,Gj _ _<|by rw[f];lia,Kt<|by rw[f];exact m];unfold QJ ydB;dsimp only;rw[GK]
def DQ{y:Yd}{b:Int}{g:Gs}(h:G30 y g):G30 (ydB y l t b) g:=⟨⟨by show g.line<(y.ls.set l<|lnB (QU y l) t b).length;rw[JU];exact h.ok.ln,h.ok.fl,h.ok.lt,h.ok.w1,h.ok.w2,h.ok.m1,h.ok.m2⟩,h.w,h.m⟩
inductive R_hset:HandS->List OT->(OT->HandS->Prop)->Prop
 |mk {y:Yd}{n:Nat}{gs:List Gs}{gv:Ql}{go:Qk}{ms:List Zco}{l t:Nat}{b:Int}(ok:y.Ok)(hg:∀x∈gs,G30 y x)(gl:gv.length=gs.length)(h0:∀k,k<gs.length->0<=rsT gs gv go k)(l8:gs.length<=8)(hl:l<y.ls.length)(ht:t<y.T)(b0:0<=b)(b1:b<10^300)(hn:n<=t)(h:∀S,Zk (ydB y l t b) (Qy<|mT n gs gv go) S<=0):
  R_hset (hT y n gs gv go ms) [.fz<|.int (l:Int),.fz<|.int (t:Int),.fz<|.int b] (λr N'=>r=.fz .none/\N'=hT (ydB y l t b) n gs gv go ms)
inductive X_hset(CH:Addr):List OT->(Qd->Prop)->Prop
 |mk {y:Yd}{n:Nat}{gs:List Gs}{gv:Ql}{go:Qk}{ms:List Zco}{l t:Nat}{b:Int}(ok:y.Ok)(hg:∀x∈gs,G30 y x)(gl:gv.length=gs.length)(h0:∀k,k<gs.length->0<=rsT gs gv go k)(l8:gs.length<=8)(hl:l<y.ls.length)(ht:t<y.T)(b0:0<=b)(b1:b<10^300)(hn:n<=t){S:Qm}(h:0<Zk (ydB y l t b) (Qy<|mT n gs gv go) S):
  X_hset CH [.zow<|QZ CH<|hT y n gs gv go ms,.fz<|.int (l:Int),.fz<|.int (t:Int),.fz<|.int b] (λd=>∃S,0<Zk (ydB y l t b) (Qy<|mT n gs gv go) S/\d=Za (Zn (mT n gs gv go) S))
def BM:Qp ["self","line","turn","bound","changed"] Zan (Q4 Dl):=by walk_at"p"
def Ad(T:Bl mg)(R:HandC K CH)(XR:XC K mg "NoRoom" YR CR fR)(D:Mf K CH "set_bound" "Hand.set_bound" Dl Zan)(q:VU P w K mg base CH "refuse_past" ZaG 1 (Yx K ct YN (R_hpast CH)<|X_hpast CH))(d:QE P w K mg base "with_bound" ZaA 2 (QL (K:=K) R_withb))(e:Ue P w K mg base "refuse_lack" Zaa 7 (spX K CR "some" R_refuse X_refuse))(o:ZC P w K mg base CH "still_there" Zax 5 (Zr K<|R_hstill CH)):
 VU P w K mg base CH "set_bound" Zan 8 (UU K CH CR "some" R_hset<|X_hset CH):=by
 have c:∀{ρ:ZbJ} {y:Yd} {n:Nat} {g:List Gs} {j:Ql} {p:Qk} {B:List Zco} {E:XK},j.length=g.length->ρ[0]?=some (zz<|QZ CH<|hT y n g j p B)->g.length<=8->Qs K (ZR CH "still_there" (Zr K<|R_hstill CH) [] E (Q5 0) QM) ρ (.list<|(mT n g j p).map QV):=λ{ρ y n g j p B E} gl e0 l=>
  Qs.cast (EvO.fz<|Z2.o<|B7 Ko e0 QA<|R_hstill.mk (n:=n) (rsT g j p) rfl rfl (λk hk=>HP gl hk)<|by lia) (by rw[Hj])
 refine D.evHXn BM (λM ts Ψ h=>by cases h;rfl) (λts U h=>by cases h;rfl) (by decide) (λf L A outer s H RR v M ts Ψ a m h=>?_) (λf L A outer s F H RR ts U a m Z h=>?_)
 .cases h with
  |@mk y n g j p B l t b W I gl J X Y G Q O hn h=>
   refine⟨_,(Qz (Zu<|YV q R a (Gc (C:=ct)) (pv 0)<|Qo (pv 2) Qr)
 (Qz (QO (i:=4) BM.nd rfl Qa<|QH d a<|Qo (Zg (pv 0) rfl)<|Qo (pv 1)<|Qo (pv 2)<|Qo (pv 3) Qr)
 (Qz (Zu<|B2 e a (Ut m)<|Qo (pv 4)<|Qo (VY o R a<|pv 0) Qr)
 (PSs.nox<|Q2<|YE (pv 0) (pv 4) rfl)))),?_⟩
   show EvR K (Yv _ _) [zo v<|QI CH<|hT y n g j p B,zi (l:Int),zi (t:Int),zi b,none] _
   walk_at"x";refine ZL (λu=>u=[zo v<|QI CH<|hT (ydB y l t b) n g j p B,zi (l:Int),zi (t:Int),zi b,zf<|QJ<|ydB y l t b]) ?_ ?_
   .refine QK (JB (Jb 0 rfl (λr a=>by rw[a];exact JG rfl)<|BG U8 rfl (Qv (Qq rfl) QA) (R_hpast.mk<|by show(n:Int)<=(t:Int);lia) B1) ?_);refine QK (ZD (Zb (Qv (Qs.cast (OE (N:=hT y n g j p B) R rfl) rfl)<|Qv (Qq rfl)<|Qv (Qq rfl)<|Qv (Qq rfl) QA)<|R_withb.mk W Y G) ?_);walk_at"d";refine QK (JB (Jb 0 rfl (λr a=>by rw[a];exact JG rfl)<|P7 (Qv (Qq rfl)<|Qv (c gl rfl X) QA) (R_refuse.mk (He W Y Q O) (Gf (λx z=>DQ<|I x z) J) (by rw[Vs];exact X) h) m) ?_);exact EQ R rfl (Qq rfl) rfl
   .rintro _ rfl;exact WX Gh ⟨_,⟨rfl,rfl⟩,rfl⟩
 .cases h with
  |@mk y n g j p B l t b W I gl J X Y G Q O hn S h=>
   refine⟨_,(Qz (Zu<|YV q R a (Gc (C:=ct)) (pv 0)<|Qo (pv 2) Qr)
 (Qz (QO (i:=4) BM.nd rfl Qa<|QH d a<|Qo (Zg (pv 0) rfl)<|Qo (pv 1)<|Qo (pv 2)<|Qo (pv 3) Qr)
 (Qz (Zu<|B2 e a (Ut m)<|Qo (pv 4)<|Qo (VY o R a<|pv 0) Qr)
 (PSs.nox<|Q2<|YE (pv 0) (pv 4) rfl)))),?_⟩
   show EvZ K F H _ [zz<|QZ CH<|hT y n g j p B,zi (l:Int),zi (t:Int),zi b,none]
   walk_at"x";refine Mn (JB (BG U8 rfl (Qv (Qq rfl) QA) (R_hpast.mk<|by show(n:Int)<=(t:Int);lia) B1) rfl) ?_;refine Mn (ZD (Zb (Qv (Qs.cast (JE (N:=hT y n g j p B) R rfl) rfl)<|Qv (Qq rfl)<|Qv (Qq rfl)<|Qv (Qq rfl) QA)<|R_withb.mk W Y G) rfl) ?_;walk_at"d";exact Mo (SB (Qv (Qq rfl)<|Qv (c gl rfl X) QA) (X_refuse.mk (He W Y Q O) (Gf (λx z=>DQ<|I x z) J) (by rw[Vs];exact X) h) m Z)
inductive X_hsetT(CH:Addr):List OT->(Unit->Prop)->Prop
 |mk {y:Yd}{n:Nat}{gs:List Gs}{gv:Ql}{go:Qk}{ms:List Zco}{l t:Nat}{b:Int}(hn:t<n):X_hsetT CH [.zow<|QZ CH<|hT y n gs gv go ms,.fz<|.int (l:Int),.fz<|.int (t:Int),.fz<|.int b] (λ_=>True)
def Oy(T:Bl mg)(E:HandC K CH)(D:Mf K CH "set_bound" "Hand.set_bound" Dl Zan)(B:VU P w K mg base CH "refuse_past" ZaG 1 (Yx K ct YN (R_hpast CH)<|X_hpast CH))(p:QE P w K mg base "with_bound" ZaA 2 (QL (K:=K) R_withb))(r:Ue P w K mg base "refuse_lack" Zaa 7 (spX K CR "some" R_refuse X_refuse))(v:ZC P w K mg base CH "still_there" Zax 5 (Zr K<|R_hstill CH)):
 VU P w K mg base CH "set_bound" Zan 8 (Yx K ct YN (λ_ _=>False)<|X_hsetT CH):=by
 refine D.evZ BM (λts j h=>h.elim) (λts j h=>by cases h;rfl) (by decide) (λf m A outer s H RR ts j g a h=>h.elim) (λf m A outer s F H RR ts j g a N h=>?_);cases h with
 |@mk y n W R X M l t b Y=>
  refine⟨_,(Qz (Zu<|YV B E g (Ut a) (pv 0)<|Qo (pv 2) Qr)
 (Qz (QO (i:=4) BM.nd rfl Qa<|QH p g<|Qo (Zg (pv 0) rfl)<|Qo (pv 1)<|Qo (pv 2)<|Qo (pv 3) Qr)
 (Qz (Zu<|B2 r g (Gc (C:=CR))<|Qo (pv 4)<|Qo (VY v E g<|pv 0) Qr)
 (PSs.nox<|Q2<|YE (pv 0) (pv 4) rfl)))),?_⟩
  show EvZ K F H _ [zz<|QZ CH<|hT y n W R X M,zi (l:Int),zi (t:Int),zi b,none]
  walk_at"x";exact Mo (Tq bkN U8 rfl (Qv (Qq rfl) QA) (X_hpast.mk<|by show(t:Int)<(n:Int);lia) a N)
inductive X_lset(CH:Addr):List OT->(OT->Prop)->Prop
 |mk {y:Yd}{n:Nat}{gs:List Gs}{gv:Ql}{go:Qk}{ms:List Zco}{l t:Nat}{b:Int}(ok:y.Ok)(hg:∀x∈gs,G30 y x)(gl:gv.length=gs.length)(h0:∀k,k<gs.length->0<=rsT gs gv go k)(l8:gs.length<=8)(hl:l<y.ls.length)(ht:t<y.T)(b0:0<=b)(b1:b<10^300)(hn:n<=t){S:Qm}(h:0<Zk (ydB y l t b) (Qy<|mT n gs gv go) S):
  X_lset CH [.zow<|QZ CH<|hT y n gs gv go ms,.fz<|.int (l:Int),.fz<|.int (t:Int),.fz<|.int b] (λr=>∃S,0<Zk (ydB y l t b) (Qy<|mT n gs gv go) S/\r=.ol (Za<|Zn (mT n gs gv go) S))
 | tm {y:Yd}{n:Nat}{gs:List Gs}{gv:Ql}{go:Qk}{ms:List Zco}{l t:Nat}{b:Int}(hn:t<n):X_lset CH [.zow<|QZ CH<|hT y n gs gv go ms,.fz<|.int (l:Int),.fz<|.int (t:Int),.fz<|.int b] (λr=>r=.fz (.str "time"))
def Yn:Qp ["_law_hand","_law_line","_law_turn","_law_bound","_law_told","e"] Zao (Q4 Nb):=by walk_at"p"
def EO(T:Bl mg)(Z:HandC K CH)(U:XC K mg "NoRoom" YR CR fR)(a:NT K mg YR CR cg ct)(B:LO K mg YR ct)(XO:LL K CR ct)(D:Df K mg "_law_set" Nb Zao)(k:VU P w K mg base CH "set_bound" Zan 8 (UU K CH CR "some" R_hset<|X_hset CH))(Q:VU P w K mg base CH "set_bound" Zan 8 (Yx K ct YN (λ_ _=>False)<|X_hsetT CH)):
 QE P w K mg base "_law_set" Zao 9 (WN K CH R_hset<|X_lset CH):=by
 refine D.evH2 Yn (λM ts Ψ h=>by cases h;rfl) (λts Φ h=>by cases h<;>rfl) (by decide) (λf cdv A outer s H E v M ts Ψ X h=>?_) (λ_ _ _ _ s H E ts Φ X h=>?_)
 .have hu:=X.units;have hR:=h;cases h with
  |@mk y n m g p W l t b ok hg gl h0 l8 hl ht b0 b1 o h=>
   refine⟨_,(Qz (QO (i:=4) Yn.nd rfl Qa Vo)
 (Qz (BC (j:=5) a.em rfl rfl rfl a.my Yn.nd rfl (.inl rfl) (λD Y=>(Q2<|QO (i:=4) Yn.nd rfl Qa<|YV k Z X BD (pv 0)<|Qo (pv 1)<|Qo (pv 2)<|Qo (pv 3) Qr)) (λe Y=>(Qz (Zo (PW.pt<|YS (ZF<|V3 a.is T.isi<|Qo (pv 5)<|Qo (VZ (v:=.ref _) rfl a.m2 rfl) Qr)<|YX<|ZF<|V3 a.is T.isi<|Qo (pv 5)<|Qo (Y2 (v:=.ty "ValueError") rfl T.ValueError JJ rfl) Qr) (Q2<|QO (i:=4) Yn.nd rfl Qa Vo) Zp)
 (Q2<|Zo (PW.pt<|YS (ZF<|V3 a.is T.isi<|Qo (pv 5)<|Qo (VZ (v:=.ref _) rfl U.m rfl) Qr)<|YX<|ZF<|V3 a.is T.isi<|Qo (pv 5)<|Qo (Y2 (v:=.ty "ValueError") rfl T.ValueError JJ rfl) Qr) (Q2<|QO (i:=4) Yn.nd rfl Qa<|Mz a.gt a.na<|pv 5) Zp))))
 (Q2<|QT<|pv 4))),?_⟩
   show EvR K _ [zo v<|QI CH<|hT y n m g p W,zi (l:Int),zi (t:Int),zi b,none,none] _
   walk_at"x";refine Ya (ZD VE rfl) ?_
   try walk_at"d"
   refine ZL (λu=>u=[zo v<|QI CH<|hT (ydB y l t b) n m g p W,zi (l:Int),zi (t:Int),zi b,zf .none,none]) (Pm λE'=>E2 (i:=0) (j:=4) HR rfl (Qv (Qq rfl)<|Qv (Qq rfl)<|Qv (Qq rfl) QA) hR BB ?_) ?_
   .rintro r N' ⟨rfl,rfl⟩;rfl
   rintro _ rfl;exact SS (j:=4) (by decide) rfl ⟨_,⟨rfl,rfl⟩,rfl⟩
 .have hu:=X.units;cases h with
  |@mk y n m g p W l t b ok hg gl h0 l8 hl ht b0 b1 o S h=>
   refine⟨_,(Qz (QO (i:=4) Yn.nd rfl Qa Vo)
 (Qz (BC (j:=5) a.em rfl rfl rfl a.my Yn.nd rfl (.inl rfl) (λD Y=>(Q2<|QO (i:=4) Yn.nd rfl Qa<|YV k Z X BD (pv 0)<|Qo (pv 1)<|Qo (pv 2)<|Qo (pv 3) Qr)) (λe Y=>(Qz (Zo (PW.pt<|YS (ZF<|V3 a.is T.isi<|Qo (pv 5)<|Qo (VZ (v:=.ref _) rfl a.m2 rfl) Qr)<|YX<|ZF<|V3 a.is T.isi<|Qo (pv 5)<|Qo (Y2 (v:=.ty "ValueError") rfl T.ValueError JJ rfl) Qr) (Q2<|QO (i:=4) Yn.nd rfl Qa Vo) Zp)
 (Q2<|Zo (PW.pt<|YS (ZF<|V3 a.is T.isi<|Qo (pv 5)<|Qo (VZ (v:=.ref _) rfl U.m rfl) Qr)<|YX<|ZF<|V3 a.is T.isi<|Qo (pv 5)<|Qo (Y2 (v:=.ty "ValueError") rfl T.ValueError JJ rfl) Qr) (Q2<|QO (i:=4) Yn.nd rfl Qa<|Mz a.gt a.na<|pv 5) Zp))))
 (Q2<|QT<|pv 4))),?_⟩
   show Q3 K _ [zz<|QZ CH<|hT y n m g p W,zi (l:Int),zi (t:Int),zi b,none,none] _
   walk_at"x";refine QK (ZD (d:=.str "other") VE ?_);walk_at"d";apply QK;apply Tw (C:=CR) (f := "some") (n:=6) (j:=5) (λd=>∃S,0<Zk (ydB y l t b) (Qy<|mT n m g p) S/\d=Za (Zn (mT n m g p) S)) (by decide)
   case hz=>
    intro E' F0 H0 F σ H' x St G;exact EA bkL (i:=0) (F0:=F) (H0:=H') HR rfl (Qv (Qq rfl)<|Qv (Qq rfl)<|Qv (Qq rfl) QA) (X_hset.mk ok hg gl h0 l8 hl ht b0 b1 o h) BB (λF' R e N d J z I O=>G F' R e N d J z I O) (Q0.refl St.sub) St
   case hth=>
    rintro _ e dx q ⟨S',L,rfl⟩;dsimp only[List.set,List.replicate];refine QK (Zt (b:=false) (Zf.cast (Wz (b:=false) (c:=false) (ZJ<|Gr (c:=.ref ct) rfl rfl a.kt)<|by rintro⟨⟩) rfl) (by rintro⟨⟩) λ_=>Zz ?_);refine Zt (b:=true) (Zf.cast (Wz (b:=true) (c:=true) (ZJ<|Gr (c:=.ref CR) rfl rfl a.k1) λ_=>ZJ<|Gr rfl rfl a.k2) rfl) (λ_=>?_) (by rintro⟨⟩);refine EI (i:=4) (j:=5) rfl ?_;walk_at"d";exact Mt (i:=4) rfl ⟨S',L,rfl⟩
  |@tm y n m g p W l t b o=>
   refine⟨_,(Qz (QO (i:=4) Yn.nd rfl Qa Vo)
 (Qz (BC (j:=5) B.em rfl rfl rfl B.my Yn.nd rfl (.inl rfl) (λD Y=>(Q2<|QO (i:=4) Yn.nd rfl Qa<|YV Q Z X BD (pv 0)<|Qo (pv 1)<|Qo (pv 2)<|Qo (pv 3) Qr)) (λe Y=>(Qz (Zo (PW.pt<|YS (ZF<|V3 B.is T.isi<|Qo (pv 5)<|Qo (VZ (v:=.ref _) rfl a.m2 rfl) Qr)<|YX<|ZF<|V3 B.is T.isi<|Qo (pv 5)<|Qo (Y2 (v:=.ty "ValueError") rfl T.ValueError JJ rfl) Qr) (Q2<|QO (i:=4) Yn.nd rfl Qa Vo) Zp)
 (Q2<|Zo (PW.pt<|YS (ZF<|V3 B.is T.isi<|Qo (pv 5)<|Qo (VZ (v:=.ref _) rfl U.m rfl) Qr)<|YX<|ZF<|V3 B.is T.isi<|Qo (pv 5)<|Qo (Y2 (v:=.ty "ValueError") rfl T.ValueError JJ rfl) Qr) (Q2<|QO (i:=4) Yn.nd rfl Qa FM) Zp))))
 (Q2<|QT<|pv 4))),?_⟩
   show Q3 K _ [zz<|QZ CH<|hT y n m g p W,zi (l:Int),zi (t:Int),zi b,none,none] _
   walk_at"x";refine QK (ZD (d:=.str "other") VE ?_);walk_at"d";apply QK;apply ZnM (C:=ct) (n:=6) (j:=5) (λ_=>True) (by decide)
   case hz=>
    intro E' F0 H0 F σ H' x St G;exact P8 bkN (i:=0) (F0:=F) (H0:=H') HR rfl (Qv (Qq rfl)<|Qv (Qq rfl)<|Qv (Qq rfl) QA) (X_hsetT.mk o) BB (λF' R e N d J z I O=>G F' R e N d J z I O) (Q0.refl St.sub) St
   case hth=>
    intro e;dsimp only[List.set,List.replicate];refine QK (Zt (b:=true) (Zf.cast (Wz (b:=true) (c:=true) (ZJ<|HB (c:=.ref ct) rfl rfl B.k1) λ_=>ZJ<|HB rfl rfl B.k2) rfl) (λ_=>ZD (d:=.str "time") VE ?_)<|by rintro⟨⟩);walk_at"d";refine Zt (b:=false) (Zf.cast (Wz (b:=false) (c:=false) (ZJ<|HB (c:=.ref CR) rfl rfl XO.tr)<|by rintro⟨⟩) rfl) (by rintro⟨⟩) (λ_=>Zz ?_);walk_at"d";exact ZZ (Qq rfl) rfl
def Dc:Qp ["_law_yard_here","_law_line","_law_turn","_law_bound","_law_lines","_law_above","_law_bounds"] Zak (Q4 KU):=by walk_at"p"
def IH(T:Bl mg)(D:Df K mg "_law_with" KU Zak):QE P w K mg base "_law_with" Zak 1 (QL (K:=K) R_withb):=by
 refine D.ev Dc (λts r h=>by cases h;rfl) (λ_ _ _ _ s H E ts r M h=>?_);cases h with
 |@mk y l t b f g p=>
  refine⟨_,(Qz (QO (i:=4) Dc.nd rfl Qa<|WF HM (by rfl) T.list M3<|Qo (QC QD (pv 0) Qw) Qr)
 (Qz (YD (QC QD (pv 4)<|pv 1)<|Jx (n:=2) rfl (Vy (Zh (i:=5) Dc.nd rfl Qa)<|Vy (Zh (i:=6) Dc.nd rfl Qa) Jc))
 (Qz (YD (VX<|Qo (pv 5)<|Qo (QP G1 (QP G1 (GC G3 (pv 6) Gz<|G4<|pv 2)<|VX<|Qo (pv 3) Qr)<|GC G3 (pv 6) (G4<|QP Vi (pv 2) Qw) Gz) Qr)<|W7 (pv 4) (pv 1) Yk)
 (Q2<|QT<|VX<|Qo (QC QD (pv 0) Qw)<|Qo (WF Kk (by rfl) T.tuple MN<|Qo (pv 4) Qr) Qr)))),?_⟩
  show Q3 K _ [_,_,_,_,_,_,_] _
  walk_at"x";have C:=f.l5;have B:=f.t8;have A:(QU y l).bs.length=y.T:=UB f g;have a:((QU y l).bs.map PyData.int).length=y.T:=by simpa using A
  have m:(y.ls.map Zs).length=y.ls.length:=by simp
  have v:((t:Int)+1)=((t+1:Nat):Int):=by lia
  refine QK (VW (HD (ds:=y.ls.map Zs)<|ZS (ds:=[PyData.int (y.T:Int),.tuple<|y.ls.map Zs]) (Qq rfl) Q6 rfl) ?_);walk_at"d";refine QK (Me (Wi (d:=.tuple [upD (QU y l).up,.tuple<|(QU y l).bs.map PyData.int]) rfl (Qq rfl)<|Vm<|by rw[Xs];simp[QU,g,Zs]) (WQ (V5 Zq<|V5 Zq WT) rfl) ?_);walk_at"d";refine QK (U7 (i:=4) (k:=(l:Int)) (j:=l) (d:=Zs (lnB (QU y l) t b)) rfl (Qs.cast (VV (QY (Qq rfl)<|QY (U5 (U5 (Gk (Qq rfl) U6<|U1<|Qq rfl) (VV (ds:=[.int b]) (QY (Qq rfl) Z9) Wc) ?l1) (Gk (Qq rfl) (U1<|Qs.cast (Z7 (Qq rfl) Q6)<|by rw[v]) U6) ?l2) Z9) YO) ?eq) (Qq rfl) (by rw[m,Jt (by lia)<|by lia,Xo]) ?_)
  case l1=>rw[WY _ _<|by rw[a];lia,Ws,a];simp;lia
  case l2=>rw[WY _ _<|by rw[a];lia,Gj _ _<|by rw[a];lia,Xn,Ws,GN,a];simp;lia
  case eq=>
   rw[WY _ _<|by rw[a];lia,Gj _ _<|by rw[a];lia,Kt<|by rw[a];exact p];unfold Zs lnB;dsimp only;rw[GK]
  walk_at"d";refine Ur 4 rfl ?_;walk_at"d";refine ZZ (Qs.cast (VV (QY (ZS (ds:=[PyData.int (y.T:Int),.tuple<|y.ls.map Zs]) (Qq rfl) Q6 rfl)<|QY (RU (ds:=(y.ls.map Zs).set l (Zs<|lnB (QU y l) t b))<|Qq rfl) Z9) YO) ?eq2) rfl
  case eq2=>
   unfold QJ ydB;dsimp only;rw[GK]
def mR(gs:List Gs)(gv:Ql):List Gs:=(List.range gs.length).map λk=>{ gs.getD k default with want:=rsT gs gv [] k }
def Bn(gs:List Gs)(gv:Ql):(mR gs gv).length=gs.length:=by simp[mR]
def Mb(h:k<gs.length):(mR gs gv).getD k default={ gs.getD k default with want:=rsT gs gv [] k }:=by simp[mR,h]
def rwL(g:Gs):Qd:=[.int (g.line:Int),.int (g.first:Int),.int (g.last:Int),.int g.want,.int g.most]
def RQ{gs:List Gs}(h:k<gs.length):atI (gs.map eRw) (k:Int)=some (.list<|rwL<|gs.getD k default):=Vm (by simp[h];rfl)
inductive R_lsh:List OT->OT->Prop
 |mk {y:Yd}{gs:List Gs}{sm:Qk}{n:Nat}(ok:y.Ok)(hs:SetOk gs sm)(hg:∀k (h:k<gs.length),k∈sm->gs[k].line<y.ls.length)(hn:n<=y.T):R_lsh [.fz<|QJ y,.fz<|.list<|gs.map eRw,.fz<|.list<|Za sm,.fz<|.int (n:Int)] (.fz<|.int<|Yr gs sm-(ZQ (λt=>ZH y gs (fpW gs sm) t) y.T-ZQ (λt=>ZH y gs (fpW gs sm) t) n))
def Dr:Qp Zau Zae (Q4 Db):=by walk_at"p"
def CI(T:Bl mg)(D:Df K mg "_law_short" Db Zae)(m:QE P w K mg base "_law_passes" Zai 1 (QL (K:=K) R_lpass)):QE P w K mg base "_law_short" Zae 2 (QL (K:=K) R_lsh):=by
 refine D.ev Dr (λts r h=>by cases h;rfl) (λ_ _ _ _ s H E ts r A h=>?_);cases h with
 |@mk y a b n p g C e=>
  refine⟨_,(Qz (QO (i:=4) Dr.nd rfl Qa<|Zx HA (by rfl) T.sum Hg<|Qo (Wy (NX:=Zau) (sc:=Q4 Db) (N:=["_law_number","_law_rows"]) (f:=[none,some 1]) rfl (by decide +kernel) rfl rfl (W9<|pv 2) (λ_=>(Zh (i:=0) (show(["_law_number","_law_rows"]:Qh).Nodup by decide +kernel) rfl Qa)) (λ_=>Ym) (λ_=>J1) λ_=>(QC QD (QC QD (pv 1)<|pv 0) Qw)) Qr)
 (Qz (Vc zN rfl (by exact(TM rfl T.range<|Qo (pv 3)<|Qo (QC QD (pv 0) Qw) Qr)) (Zh (i:=5) Dr.nd rfl Qa)<|by exact(Q2<|QO (i:=4) Dr.nd rfl Qa<|QP Y1 (pv 4)<|QH m A<|Qo (pv 0)<|Qo (pv 1)<|Qo (pv 2)<|Qo (pv 5) Qr))
 (Q2<|QT<|pv 4))),?_⟩
  show Q3 K _ [_,_,_,_,_,_] _
  walk_at"x";have Y:=g.len;have X:=p.t8;refine QK (ZD (d:=.int (Yr a b)) (Md (ns:=b.map λk=>(a.getD k default).want) (Qs.cast (EvO.fz<|Bb (xs:=b) (enc:=λ(k:Nat)=>PyData.int (k:Int)) (h:=λk=>.int (a.getD k default).want) ?ei (by lia) ?el)<|by rw[X7];rfl) rfl) ?_)
  case ei=>exact Ja (Qq rfl)
  case el=>
   intro k B c;have j:=g.mem k B;refine⟨_,Zq,?_⟩;walk_at"e";exact VL (ds:=rwL (a.getD k default)) (VL (Qq rfl) (Qq rfl)<|RQ j) Q6 rfl
  walk_at"d";refine QK (B0 (ds:=Va (n:Int) (y.T-n)) (λi=>[zf<|QJ y,zf<|.list<|a.map eRw,zf<|.list<|Za b,zi (n:Int),zf<|.int<|Yr a b-(ZQ (λt=>ZH y a (fpW a b) t) (n+i)-ZQ (λt=>ZH y a (fpW a b) t) n),none]) ?ei2 ⟨rfl,rfl,rfl,rfl,?e0,trivial⟩ ?st2 ?fin2)
  case ei2=>exact EvI.cast (HZ (Qv (Qq rfl)<|Qv (ZS (ds:=[PyData.int (y.T:Int),.tuple<|y.ls.map Zs]) (Qq rfl) Q6 rfl) QA)<|by rw[z62];lia) (WE rfl (by lia))
  case e0=>exact X9 (λz=>some<|OT.fz<|.int z) (by rw[Nat.add_zero];lia)
  case st2=>
   intro i d R;obtain⟨l,rfl⟩:=YI R;refine⟨_,Zq,?_⟩;walk_at"d";have W:(n:Int)+(i:Int)=((n+i:Nat):Int):=by lia
   rw[W];refine ZD (Z7 (Qq rfl)<|Zb (Qv (Qq rfl)<|Qv (Qq rfl)<|Qv (Qq rfl)<|Qv (Qq rfl) QA)<|R_lpass.mk p g C<|by lia) ⟨rfl,rfl,rfl,rfl,?_,trivial⟩;rw[<- Nat.add_assoc,GD];exact X9 (λz=>some<|OT.fz<|.int z) (by lia)
  case fin2=>
   intro v M;refine Bm M ?_;rw[Wn,show n+(y.T-n)=y.T by lia];exact ZZ (Qq rfl) rfl
theorem Kw{n:Nat}{gs:List Gs}{gv:Ql}(t l:Nat):∀a:Qk,(∀k∈a,k<gs.length)->Zw (mT n gs gv []) (t:Int) l a=if n<=t then Zw (mR gs gv) (t:Int) l a else 0
 |[],_=>by
  unfold Zw;split<;>rfl
 |k::a,h=>by
  have f:=Kw (n:=n) (gs:=gs) (gv:=gv) t l a λj g=>h j (Xi _ g);have b:=h k Xc;have m:(mT n gs gv [])[k]?=some (stl gs n (rsT gs gv []) k):=by simp[mT,b]
  have i:(mR gs gv)[k]?=some { gs.getD k default with want:=rsT gs gv [] k }:=by simp[mR,b]
  simp only[Zw,m,i];rw[f];have th:Vn (stl gs n (rsT gs gv []) k) (t:Int)=(decide (n<=t)&&Vn { gs.getD k default with want:=rsT gs gv [] k } (t:Int)):=by
   unfold Vn stl;rw[<- Bool.and_assoc];congr 1;rw[<- Bool.decide_and];refine decide_eq_decide.mpr ?_;show(((max (gs.getD k default).first n:Nat):Int)<=(t:Int))↔(n<=t/\((gs.getD k default).first:Int)<=(t:Int))
   lia
  rw[th];by_cases c:n<=t
  .rw[Xd c,Xd c,XJ c,Bool.true_and];rfl
  .rw[Xb c,Xb c,XI c,Bool.false_and,Xb λz=>nomatch z.2];rfl
def Ll{y:Yd}(m:y.Ok)(hn:n<=y.T)(a:∀k∈sm,k<gs.length)(e:Zn (mT n gs gv []) S=sm):
 Zk y (Qy<|mT n gs gv []) S=Yr (mR gs gv) sm-(ZQ (λt=>ZH y (mR gs gv) sm t) y.T-ZQ (λt=>ZH y (mR gs gv) sm t) n):=by
 rw[KG,e];have w:Yr (mT n gs gv []) sm=Yr (mR gs gv) sm:=by
  unfold Yr;congr 1;exact WK λk p=>by rw[YC<|a k p,Mb<|a k p];rfl
 have r:∀t,ZH y (mT n gs gv []) sm t=if n<=t then ZH y (mR gs gv) sm t else 0:=λt=>by
  unfold ZH;by_cases c:n<=t
  .rw[Xd c];have:W0 (mT n gs gv []) t sm=W0 (mR gs gv) t sm:=funext λl=>(Kw t l sm a).trans (Xd c)
   rw[this]
  .rw[Xb c];have:W0 (mT n gs gv []) t sm=λ_=>0:=funext λl=>(Kw t l sm a).trans (Xb c)
   rw[this];exact LA m (λl=>Mq m l t)
 have g:BF y (mT n gs gv []) sm=ZQ (λt=>ZH y (mR gs gv) sm t) y.T-ZQ (λt=>ZH y (mR gs gv) sm t) n:=by
  show ZQ (λt=>ZH y (mT n gs gv []) sm t) y.T=_;have s:(λt=>ZH y (mT n gs gv []) sm t)=λt=>if n<=t then ZH y (mR gs gv) sm t else 0:=funext r
  rw[s];have b:∀(q:Qn) i,n<=i->ZQ (λt=>if n<=t then q t else 0) i=ZQ q i-ZQ q n:=λq i=>by
   induction i with
   |zero=>
    intro h;have:n=0:=by lia
    subst this;simp[ZQ]
   |succ i f=>
    intro h;by_cases c:n<=i
    .rw[GD,GD,f c,Xd c];lia
    .have:n=i+1:=by lia
     subst this;have z:∀j,j<=i+1->ZQ (λt=>if i+1<=t then q t else 0) j=0:=λj=>by
      induction j with
      |zero=>intro _;rfl
      |succ j f=>intro h;rw[GD,f<|by lia,Xb<|by lia];rfl
     rw[z _<|Xq _];lia
  exact b (λt=>ZH y (mR gs gv) sm t) y.T hn
 rw[w,g]
def ZmA{l xs:Qk}(h:l.Sublist xs):xs.Nodup->xs.filter (λk=>decide (k∈l))=l:=by
 induction h with
 |slnil=>intro _;rfl
 |@cons l xs a h f=>
  intro b;have g:=(Xv.mp b).1;rw[JV,Xb<|by simp only[decide_eq_true_eq];exact λz=>g<|h.subset z];exact f (Xv.mp b).2
 |@cons_cons l xs a h f=>
  intro b;have g:=(Xv.mp b).1;have f:=f (Xv.mp b).2;rw[JV,Xd<|by simp];have e:xs.filter (λk=>decide (k∈a::l))=xs.filter (λk=>decide (k∈l)):=List.filter_congr λk i=>by
   have:k≠a:=λz=>g (z▸i)
   simp[this]
  rw[e,f]
def Ug(i k:Nat):Bool:=decide (i/2^k%2=1)
def pkL(L:Qk)(i:Nat):Qk:=((List.range L.length).filter (Ug i)).map λk=>L.getD k 0
def HJ(L:Qk)(i:Nat):(pkL L i).Sublist L:=by
 have e:(List.range L.length).map (λk=>L.getD k 0)=L:=by
  apply List.ext_getElem?;intro j;by_cases h:j<L.length
  .simp[h]
  .simp[h]
 have:=(List.filter_sublist (l:=List.range L.length) (p:=Ug i)).map λk=>L.getD k 0
 rwa [e]at this
def Y8(gs:List Gs)(gv:Ql)(S:Qm)(k:Nat):Bool:=S k&&decide (0<rsT gs gv [] k)
theorem Tb{gs:List Gs}:∀a:Qk,(∀k∈a,0<=(gs.getD k default).want)->Yr gs (fpW gs a)=Yr gs a
 |[],_=>rfl
 |k::a,h=>by
  have b:=Tb a λj f=>h j (Xi _ f);have g:=h k Xc;unfold Yr fpW at b ⊢;by_cases z:0<(gs.getD k default).want
  .rw[NQ<|by simpa using z];simp only[Xw,UK];rw[b]
  .rw[NP<|by simpa using z,b];simp only[Xw,UK];lia
def Ch(S:Qm):fpW (mR gs gv) (Zn (mT n gs gv []) S)=Zn (mT n gs gv []) (Y8 gs gv S):=by
 unfold fpW Zn Y8;rw[List.filter_filter,Vs];refine List.filter_congr λk a=>?_;rw[Mb<|XH.mp a,Bool.and_comm]
theorem SG{gs:List Gs}(t l:Nat)(p:Qm):∀a:Qk,(∀k (h:k<gs.length),0<=gs[k].most)->Zw gs (t:Int) l (a.filter p)<=Zw gs (t:Int) l a
 |[],_=>YJ _
 |k::a,h=>by
  have j:=SG (gs:=gs) t l p a h
  by_cases z:p k=true
  .rw[NQ z];simp only[Zw];lia
  .rw[NP z];simp only[Zw];split
   .rename_i g b;have f:=(Xf.mp b).1;have i:=(Xf.mp b).2;have:=h k f;rw[i]at this;split<;>lia
   .lia
theorem PK{f g:Qn}(h:∀t,f t<=g t){n:Nat}:∀{m:Nat},n<=m->ZQ f m-ZQ f n<=ZQ g m-ZQ g n
 |0,a=>by
  have:n=0:=by lia
  subst this;lia
 |m+1,a=>by
  by_cases z:n=m+1
  .subst z;lia
  .have b:=PK h (n:=n) (m:=m) (by lia);rw[GD,GD];have:=h m;lia
def MR{y:Yd}(g:y.Ok)(hn:n<=y.T)(h0:∀k,k<gs.length->0<=rsT gs gv [] k)(S:Qm)(e:Zn (mT n gs gv []) S=sm):
 Yr (mR gs gv) sm-(ZQ (λt=>ZH y (mR gs gv) (fpW (mR gs gv) sm) t) y.T-ZQ (λt=>ZH y (mR gs gv) (fpW (mR gs gv) sm) t) n)=Zk y (Qy<|mT n gs gv []) (Y8 gs gv S):=by
 have f:∀k∈sm,k<gs.length:=λk a=>by
  rw[<- e]at a;unfold Zn at a;rw[Vs]at a;exact XH.mp (WJ.mp a).1
 have b:∀k∈fpW (mR gs gv) sm,k<gs.length:=λk a=>f k (WJ.mp a).1;rw[Ll g hn b<|by rw[<- Ch,e],Tb sm λk a=>by rw[Mb<|f k a];exact h0 k<|f k a]
def TV{y:Yd}(i:y.Ok)(hn:n<=y.T)(r:∀x∈gs,G30 y x)(h0:∀k,k<gs.length->0<=rsT gs gv [] k)(S:Qm):
 Zk y (Qy<|mT n gs gv []) S<=Zk y (Qy<|mT n gs gv []) (Y8 gs gv S):=by
 generalize e:Zn (mT n gs gv []) S=a;have m:∀k∈a,k<gs.length:=λk b=>by
  rw[<- e]at b;unfold Zn at b;rw[Vs]at b;exact XH.mp (WJ.mp b).1
 rw[<- MR i hn h0 S e,Ll i hn m e];have j:∀k (h:k<(mR gs gv).length),0<=(mR gs gv)[k].most:=λk h=>by
  rw[Bn]at h;have e:(mR gs gv)[k]'(by rw[Bn];exact h)={ gs.getD k default with want:=rsT gs gv [] k }:=by simp[mR]
  rw[e];have:=(r (gs.getD k default)<|by simp[h]).ok.m1;show 0<=(gs.getD k default).most
  lia
 have p:∀t,ZH y (mR gs gv) (fpW (mR gs gv) a) t<=ZH y (mR gs gv) a t:=λt=>ZkZ (λ_=>YJ _) (λl=>SG t l _ a j) 0
 have:=PK (f:=λt=>ZH y (mR gs gv) (fpW (mR gs gv) a) t) (g:=λt=>ZH y (mR gs gv) a t) p hn;lia
theorem Pp:∀(m:Nat) (p:Qm),∃i,i<2^m/\∀k,k<m->Ug i k=p k
 |0,p=>⟨0,by decide,λk a=>by lia⟩
 |m+1,p=>by
  obtain⟨i,b,h⟩:=Pp m λk=>p (k+1);refine⟨2*i+(if p 0 then 1 else 0),?_,λk a=>?_⟩
  .rw[Nat.pow_succ];split<;>lia
  .cases k with
   |zero=>
    unfold Ug;rw[Nat.pow_zero,Nat.div_one];cases p 0 with
    |true=>exact XJ (by rw[Xd rfl];lia)
    |false=>exact XI (by rw[Xb<|by decide];lia)
   |succ k=>
    rw[<- h k (by lia)];unfold Ug;have e:(2*i+(if p 0 then 1 else 0))/2^(k+1)=i/2^k:=by
     rw[Nat.pow_succ',<- Nat.div_div_eq_div_mul];congr 1;split<;>lia
    rw[e]
def FY(L:Qk)(S:Qm):∃i,i<2^L.length/\pkL L i=L.filter S:=by
 obtain⟨i,b,h⟩:=Pp L.length λk=>S (L.getD k 0);refine⟨i,b,?_⟩
 have e:(List.range L.length).map (λk=>L.getD k 0)=L:=by
  apply List.ext_getElem?;intro j;by_cases h:j<L.length
  .simp[h]
  .simp[h]
 unfold pkL;rw[List.filter_congr λk a=>h k<|XH.mp a]
 conv=>rhs;rw[<- e,List.filter_map]
 rfl
inductive R_lkept:List OT->OT->Prop
 |mk {y:Yd}{n:Nat}{gs:List Gs}{gv:Ql}(ok:y.Ok)(hg:∀x∈gs,G30 y x)(g8:gs.length<=8)(hn:n<=y.T)(h0:∀k,k<gs.length->0<=rsT gs gv [] k){b:Bool}(hb:b=true ↔ ∀S,Zk y (Qy<|mT n gs gv []) S<=0):R_lkept [.fz<|QJ y,.fz<|.list<|(mR gs gv).map eRw,.fz<|.int (n:Int)] (.fz<|.bool b)
def Dm:Qp Zag Zav (Q4 BN):=by walk_at"p"
def Ip(T:Bl mg)(D:Df K mg "_law_all_kept" BN Zav)(F:QE P w K mg base "_law_short" Zae 2 (QL (K:=K) R_lsh)):QE P w K mg base "_law_all_kept" Zav 3 (QL (K:=K) R_lkept):=by
 refine D.ev Dm (λts r h=>by cases h;rfl) (λ_ _ _ _ s H E ts r hr h=>?_);cases h with
 |@mk y n a g B hg g8 M o b hb=>
  refine⟨_,(Qz (QO (i:=3) Dm.nd rfl (Or.inr rfl)<|Wy (NX:=Zag) (sc:=Q4 BN) (N:=["_law_k","_law_rows"]) (f:=[none,some 1]) rfl (by decide +kernel) rfl rfl (Ys rfl T.range<|Qo (Zx V1 (by rfl) T.len Vx<|Qo (pv 1) Qr) Qr) (λ_=>(Zh (i:=0) (show(["_law_k","_law_rows"]:Qh).Nodup by decide +kernel) rfl Qa)) (λ_=>Ym) (λ_=>(G2<|ZG Yh (QC QD (QC QD (pv 1)<|pv 0) Qw) Qw<|Zy _)) λ_=>(pv 0))
 (Qz (Vc zN rfl (by exact(Ys rfl T.range<|Qo (QP AU Qw<|Zx V1 (by rfl) T.len Vx<|Qo (pv 3) Qr) Qr)) (Zh (i:=4) Dm.nd rfl (Or.inr rfl)) (by exact(Qz (Tc (i:=5) Dm.nd rfl rfl (NX:=Zag) (sc:=Q4 BN) (N:=["_law_k","_law_numbers","_law_bits"]) (f:=[none,some 3,some 4]) rfl (by decide +kernel) rfl rfl (Ys rfl T.range<|Qo (Zx V1 (by rfl) T.len Vx<|Qo (pv 3) Qr) Qr) (λ_=>(Zh (i:=0) (show(["_law_k","_law_numbers","_law_bits"]:Qh).Nodup by decide +kernel) rfl Qa)) (λ_=>Ym) (λ_=>(G2<|ZG Um (QP W3 (QP FW (pv 2)<|pv 0) Qw) Qw<|Zy _)) (λ_=>(QC QD (pv 1)<|pv 0)) rfl)
 (Q2<|Zo (ZG Yh (QH F hr<|Qo (pv 0)<|Qo (pv 1)<|Qo (pv 5)<|Qo (pv 2) Qr) Qw<|Zy _) (Q2<|QT YB) Zp))))
 (Q2<|QT YB))),?_⟩
  show Q3 K _ [_,_,_,_,_,_] _
  walk_at"x";have O:=Bn a g;refine QK (VW (r:=.ol (Za<|(List.range a.length).filter λk=>decide (rsT a g [] k > 0))) (Gi (xs:=List.range a.length) (enc:=λ(k:Nat)=>PyData.int (k:Int)) (h:=λ(k:Nat)=>PyData.int (k:Int)) (p:=λk=>decide (rsT a g [] k > 0)) ?ei1 (by rw[JM];lia) ?el1) ?_)
  case ei1=>
   refine EvI.cast (Y3 (Qv (Qs.cast (J5<|Qq rfl) (show _=PyData.int (a.length:Int) by rw[Xl,O])) QA) (by rw[z62];lia)<|by rw[z62];lia) ?_;rw[Xo];unfold Va;exact WK λi _=>by rw[YK]
  case el1=>
   intro k m c;have m:=XH.mp m;refine⟨_,Zq,?_⟩;walk_at"e";refine⟨Zf.cast (ZA<|Vh (VL (ds:=rwL ((mR a g).getD k default)) (VL (Qq rfl) (Qq rfl)<|RQ<|by lia) Q6 rfl) Q6) ?_,λ_=>Qq rfl⟩;rw[Mb m]
  walk_at"d";refine Ur 3 rfl ?_;walk_at"d";have Lm:∀j,j∈((List.range a.length).filter λk=>decide (rsT a g [] k > 0))->j<a.length/\rsT a g [] j > 0:=λj hj=>by rwa [WJ,XH,decide_eq_true_eq]at hj
  have G:((List.range a.length).filter λk=>decide (rsT a g [] k > 0)).Sublist (List.range a.length):=List.filter_sublist;have Lf:∀S,((List.range a.length).filter λk=>decide (rsT a g [] k > 0)).filter S=Zn (mT n a g []) (Y8 a g S):=λS=>by
   unfold Zn Y8;rw[List.filter_filter,Vs]
  generalize ((List.range a.length).filter λk=>decide (rsT a g [] k > 0))=L at Lm G Lf;have Q:L.length<=8:=X0 G.length_le (by rw[JM];exact g8);have U:∀{ρ:ZbJ},ρ[3]?=some (zf<|.list<|Za L)->Qs K (tCB (Ud K)<|QF (Q5 3) QM) ρ (.int (L.length:Int)):=λe=>Qs.cast (J5<|Qq e) (by unfold Za;rw[Xl]);have I:∀i,∀k∈pkL L i,k<a.length/\rsT a g [] k > 0:=λi k m=>Lm k ((HJ L i).subset m);have so:∀i,SetOk (mR a g) (pkL L i):=λi=>⟨λk m=>by rw[O];exact(I i k m).1,X0 (HJ L i).length_le Q⟩
  have sg:∀i k (h:k<(mR a g).length),k∈pkL L i->(mR a g)[k].line<y.ls.length:=λi k h m=>by
   have l:=I i k m;have e:(mR a g)[k]={ a.getD k default with want:=rsT a g [] k }:=by simp[mR]
   rw[e];exact(hg (a.getD k default)<|by simp[l.1]).ok.ln
  have sq:∀i,Zn (mT n a g []) (λk=>decide (k∈pkL L i))=pkL L i:=λi=>by
   unfold Zn;rw[Vs];exact ZmA ((HJ L i).trans G) List.nodup_range
  have sv:=λi=>MR B M o (λk=>decide (k∈pkL L i)) (sq i);generalize hz:(λi=>Yr (mR a g) (pkL L i)-(ZQ (λt=>ZH y (mR a g) (fpW (mR a g)<|pkL L i) t) y.T-ZQ (λt=>ZH y (mR a g) (fpW (mR a g)<|pkL L i) t) n))=V;have u:∀i,Yr (mR a g) (pkL L i)-(ZQ (λt=>ZH y (mR a g) (fpW (mR a g)<|pkL L i) t) y.T-ZQ (λt=>ZH y (mR a g) (fpW (mR a g)<|pkL L i) t) n)=V i:=λi=>congrFun hz i
  have A:(∀i,i<2^L.length->V i<=0)->b=true:=λh=>hb.mpr λS=>by
   obtain⟨i,Z,ei⟩:=FY L S;have h1:=TV B M hg o S;have l:=MR B M o (Y8 a g S) (show Zn (mT n a g []) (Y8 a g S)=pkL L i by rw[ei,Lf]);have x:Y8 a g (Y8 a g S)=Y8 a g S:=by
    funext k
    unfold Y8;rw[Bool.and_assoc,Bool.and_self]
   rw[x,u i]at l;have h3:=h i Z;lia
  have Y:∀i,0<V i->b=false:=λi h=>by
   cases eb:b with
   |false=>rfl
   |true=>
    have:=hb.mp eb (Y8 a g λk=>decide (k∈pkL L i));rw[<- sv i,u i]at this;lia
  have cs:Rc 1 (L.length:Int):=⟨by lia,by
   have:(Builtin.Int.intBits 1:Int)=1:=by decide
   rw[this];have:(2:Int)^27=134217728:=by decide
   lia⟩
  have J:2^L.length<=2^8:=Nat.pow_le_pow_right (by decide) Q;have e2:(1:Int)*2^(L.length:Int).toNat=((2^L.length:Nat):Int):=by
   rw[Int.one_mul,Xo,Int.natCast_pow];rfl
  have p8:2^L.length<=256:=J;clear J;generalize hq:2^L.length=q at p8 e2 A;refine QK (V2 (ds:=Va 0 q) (λi R=>(∀v,v<i->V v<=0)/\∃X W:Option OT,R=[zf<|QJ y,zf<|.list<|(mR a g).map eRw,zi (n:Int),zf<|.list<|Za L,X,W]) ?ei ⟨λv h=>by lia,_,_,rfl⟩ ?st ?fin)
  case ei=>
   refine EvI.cast (Y3 (Qv (Qs.cast (ZK Q6 (U rfl) cs) (show _=PyData.int (q:Int) by rw[e2])) QA) (by rw[z62];lia)<|by rw[z62];lia) (WE rfl (by lia))
  case st=>
   rintro i d _ hd ⟨C,X,W,rfl⟩;obtain⟨Z,rfl⟩:=YI hd;refine⟨_,Zq,?_⟩;walk_at"d";rw[YK];refine QK (VW (r:=.ol (Za<|pkL L i)) (EvO.cast (Gi (xs:=List.range L.length) (enc:=λ(k:Nat)=>PyData.int (k:Int)) (h:=λ(k:Nat)=>PyData.int ((L.getD k 0:Nat):Int)) (p:=Ug i) ?ei2 (by rw[JM];lia) ?el2)<|by unfold pkL Za;rw[X7];rfl) ?_)
   case ei2=>
    refine EvI.cast (Y3 (Qv (U rfl) QA) (by rw[z62];lia)<|by rw[z62];lia) ?_;rw[Xo];unfold Va;exact WK λi _=>by rw[YK]
   case el2=>
    intro k m c;have m:=XH.mp m;refine⟨_,Zq,?_⟩;walk_at"e";refine⟨Zf.cast (ZA<|Js (ZK (ZK (Qq rfl) (Qq rfl)<|by lia) Q6<|by decide) Q6) ?_,λ_=>VL (Qq rfl) (Qq rfl)<|Vm<|by unfold Za;simp[m]⟩;rw[Xo];unfold Ug;have x:((i:Int)/2^k%2)=((i/2^k%2:Nat):Int):=by
     rw[Int.natCast_emod,Int.natCast_ediv,Int.natCast_pow];rfl
    rw[x];exact decide_eq_decide.mpr ⟨λz=>by lia,λz=>by lia⟩
   walk_at"d";refine Ur 5 rfl ?_;walk_at"d";refine Zt (b:=decide (V i > 0)) (Zf.cast (ZA<|Vh (Zb (Qv (Qq rfl)<|Qv (Qq rfl)<|Qv (Qq rfl)<|Qv (Qq rfl) QA)<|R_lsh.mk B (so i) (sg i) M) Q6)<|by rw[u i]) (λc=>?_) (λc=>Zz ⟨λv h=>?_,_,_,rfl⟩)
   .rw[Y i<|XW c];exact ZZ UY rfl
   .have c:=JO c
    by_cases z:v=i
    .subst z;lia
    .exact C v (by lia)
  case fin=>
   rintro _ ⟨C,X,W,rfl⟩;rw[Wn]at C;rw[A C];exact ZZ UY rfl
inductive R_lshows:List OT->OT->Prop
 |mk {y:Yd}{n:Nat}{gs:List Gs}{gv:Ql}{S:Qm}(ok:y.Ok)(hg:∀x∈gs,G30 y x)(g8:gs.length<=8)(hn:n<=y.T)(h0:∀k,k<gs.length->0<=rsT gs gv [] k)(h:0<Zk y (Qy<|mT n gs gv []) S):R_lshows [.fz<|.list<|Za<|Zn (mT n gs gv []) S,.fz<|QJ y,.fz<|.list<|(mR gs gv).map eRw,.fz<|.int (n:Int)] (.fz<|.bool true)
def LE:Qp ["_law_some","_law_yard_here","_law_rows","_law_now","_law_number"] Zam (Q4 Np):=by walk_at"p"
def IU(T:Bl mg)(D:Df K mg "_law_shows" Np Zam)(R:QE P w K mg base "_law_short" Zae 2 (QL (K:=K) R_lsh)):QE P w K mg base "_law_shows" Zam 3 (QL (K:=K) R_lshows):=by
 refine D.ev LE (λts r h=>by cases h;rfl) (λ_ _ _ _ s H E ts r Y h=>?_);have I:=Y.units;cases h with
 |@mk y n f g S C o O hn t h=>
  refine⟨_,(Qz (Zo (PW.pt<|Bc (YF<|ZF<|Zx Gn (by rfl) T.isi Uy<|Qo (pv 0)<|Qo (Y2 (v:=.ty "list") rfl T.list M3 rfl) Qr)<|Mp<|ZG (C8 I) (pv 0) (Zx OI (by rfl) T.sorted OK<|Qo (pv 0) Qr)<|Zy _) (Q2<|QT YB) Zp)
 (Qz (Vc zN rfl (by exact(W9<|pv 0)) (Zh (i:=4) LE.nd rfl Qa)<|by exact(Q2<|Zo (PW.pt<|Bc (YF<|ZF<|Zx Gn (by rfl) T.isi Uy<|Qo (pv 4)<|Qo (Y2 (v:=.ty "int") rfl T.int Hd rfl) Qr)<|Bc (ZF<|Zx Gn (by rfl) T.isi Uy<|Qo (pv 4)<|Qo (Y2 (v:=.ty "bool") rfl T.bool SO rfl) Qr)<|Mp<|YF<|Kp Uo Wf Qw (pv 4)<|Zx V1 (by rfl) T.len Vx<|Qo (pv 2) Qr) (Q2<|QT YB) Zp))
 (Qz (Zo (ZG Wf (Zx AI (by rfl) T.len Vx<|Qo (WF CV (by rfl) T.set FJ<|Qo (pv 0) Qr) Qr) (Zx V1 (by rfl) T.len Vx<|Qo (pv 0) Qr)<|Zy _) (Q2<|QT YB) Zp)
 (Q2<|QT<|Jz Yh (QH R Y<|Qo (pv 1)<|Qo (pv 2)<|Qo (pv 0)<|Qo (pv 3) Qr) Qw<|Zy _)))),?_⟩
  show Q3 K _ [_,_,_,_,_] _
  walk_at"x";have W:=Bn f g;have G:(mT n f g []).length<=8:=by rw[Vs];exact O
  have B:=MG G S;have j:∀k∈Zn (mT n f g []) S,k<f.length:=λk m=>by have:=B.mem k m;rwa [Vs]at this
  have A:SetOk (mR f g) (Zn (mT n f g []) S):=⟨λk m=>by rw[W];exact j k m,B.len⟩;have Q:=B.len;have N:VS (.list<|Za<|Zn (mT n f g []) S):=Pi _;have X:(Zn (mT n f g []) S).Pairwise (· < ·):=List.Pairwise.filter _ List.pairwise_lt_range;have p:Za (Zn (mT n f g []) S)=((Zn (mT n f g []) S).map λ(k:Nat)=>(k:Int)).map PyData.int:=by unfold Za;rw[X7];rfl
  have x:((Zn (mT n f g []) S).map λ(k:Nat)=>(k:Int)).Pairwise (· <= ·):=List.pairwise_map.mpr (X.imp λh=>by lia);have F:((Zn (mT n f g []) S).map λ(k:Nat)=>(k:Int)).Pairwise (· ≠ ·):=List.pairwise_map.mpr (X.imp λh=>by lia);refine QK (Zt (b:=false) (Ga (b:=false) (c:=false) (Y0 (b:=true)<|ZJ<|Uz (Qq rfl) rfl) λ_=>Zf.cast (ZA<|RJ (a:=.list (Za<|Zn (mT n f g []) S)) (b:=.list (Za<|Zn (mT n f g []) S)) (Qq rfl) (Qs.cast (EvO.fz<|OW (Qs.cast (Qq rfl)<|by rw[p]) (List.Perm.refl _) x ?hn)<|by rw[p]) N N)<|by rw[J7 N];rfl) (by rintro⟨⟩) λ_=>Zz ?_)
  case hn=>rw[Xl];lia
  refine QK (B0 (ds:=Za (Zn (mT n f g []) S)) (λi=>[zf<|.list<|Za<|Zn (mT n f g []) S,zf<|QJ y,zf<|.list<|(mR f g).map eRw,zi (n:Int),none]) (Ja<|Qq rfl) ⟨rfl,rfl,rfl,rfl,trivial⟩ ?st ?fin)
  case st=>
   intro i d q;have l:i<(Zn (mT n f g []) S).length:=by
    have:=(Xf.mp q).1;simpa [Za] using this
   obtain rfl:d=.int (((Zn (mT n f g []) S)[i]:Nat):Int):=by simpa [Za,l] using q.symm
   have m:=j _ (XX l);refine⟨_,Zq,?_⟩;walk_at"d";refine Zt (b:=false) (Ga (b:=false) (c:=false) (Y0 (b:=true)<|ZJ<|Uz (Qq rfl) rfl) λ_=>Ga (b:=false) (c:=false) (ZJ<|Uz (Qq rfl) rfl) λ_=>Zf.cast (Y0<|ZA<|B3 Q6 (Qq rfl)<|Qs.cast (J5<|Qq rfl) (show _=PyData.int (f.length:Int) by rw[Xl,W])) ?_) (by rintro⟨⟩) (λ_=>Zz ⟨rfl,rfl,rfl,rfl,trivial⟩);rw[XJ (show(0:Int)<=(((Zn (mT n f g []) S)[i]:Nat):Int) by lia),XJ (show(((Zn (mT n f g []) S)[i]:Nat):Int)<(f.length:Int) by lia)];rfl
  case fin=>
   intro u L;refine Bm L ?_;refine QK (Zt (b:=false) (Zf.cast (ZA<|Vh (Az (Qs.cast (Qq rfl)<|by rw[p]) rfl (by rw[Xl];lia) F)<|Qs.cast (J5<|Qq rfl)<|by rw[p,Xl])<|XI<|by lia) (by rintro⟨⟩) λ_=>Zz ?_);have U:=TV C hn o t S;have M:=MR C hn t S rfl;have z:∀k (h:k<(mR f g).length),k∈Zn (mT n f g []) S->(mR f g)[k].line<y.ls.length:=λk m J=>by
    have M:=j k J;have e:(mR f g)[k]={ f.getD k default with want:=rsT f g [] k }:=by simp[mR]
    rw[e];exact(o (f.getD k default)<|by simp[M]).ok.ln
   exact ZZ (Qs.cast (Vh (Zb (Qv (Qq rfl)<|Qv (Qq rfl)<|Qv (Qq rfl)<|Qv (Qq rfl) QA)<|R_lsh.mk C A z hn) Q6)<|by rw[M];exact X9 PyData.bool<|XJ<|by lia) rfl
def dg3{a b m:Int}{E:XK}(e:zg ρ 3<|zo v<|olP [.int a,.int b])(h:Qs K t ρ (.int m))(h0:0<m)(i:m<=10^60):EvW K (Vg (spP K olP R_digit) [] E<|QF (Q5 3)<|QF t QM) ρ 3 (λn o=>0<=n/\n<m/\∃a b:Int,o=.own v (olP [.int a,.int b])):=
 SK e (Qv h QA) (R_digit.mk h0 i)<|by rintro r s ⟨n,y,w,g,f,p,j⟩;exact⟨n,p,g,f,y,w,by rw[j]⟩
def Sy{t1:TS}(h:Zf K tA ρ true)(b:EvR K t1 ρ Ψ):EvR K (Yv (Jn tA t1 t2) u) ρ Ψ:=λF0 H0 F σ H E x S k=>
 h H0 F σ H _ S λg f a=>by
  rw[Xd rfl];exact b F0 H0 g σ f _ (x.trans a) (S.ext a) k
inductive R_lbh:HandS->List OT->Qd->(OT->HandS->Prop)->Prop
 |mk {y:Yd}{n:Nat}{gs:List Gs}{gv:Ql}{ms:List Zco}{a b:Int}(ok:y.Ok)(hg:∀x∈gs,G30 y x)(gl:gv.length=gs.length)(h0:∀k,k<gs.length->0<=rsT gs gv [] k)(g8:gs.length<=8)(hn:n<=y.T)(nsh:∀S,Zk y (Qy<|mT n gs gv []) S<=0):
  R_lbh (hT y n gs gv [] ms) [.fz<|QJ y,.fz<|.list<|(mR gs gv).map eRw] [.int a,.int b] (λr N'=>r=.fz (.bool true)/\∃y':Yd,y'.Ok/\y'.T=y.T/\(∀x∈gs,G30 y' x)/\(∀S,Zk y' (Qy<|mT n gs gv []) S<=0)/\N'=hT y' n gs gv [] ms)
def JL:Qp ["_law_hand","_law_yard_here","_law_rows","_law_feed_here","_law_line","_law_turn","_law_way","_law_bound","_law_other","_law_told"] Zah (Q4 NK):=by walk_at"p"
def Ca(T:Bl mg)(UH:HandC K CH)(D:Df K mg "_law_bound_holds" NK Zah)(F:QE P w K mg base "_law_digit" Zat 1 (spP K olP R_digit))(Xb4:QE P w K mg base "_law_with" Zak 1 (QL (K:=K) R_withb))(XbG:QE P w K mg base "_law_set" Zao 9 (WN K CH R_hset<|X_lset CH))(u:ZC P w K mg base CH "now" Zax 1 (Zr K<|R_hnow CH))(Z:ZC P w K mg base CH "yard_now" Zax 1 (spY CH))(Xb5:QE P w K mg base "_law_all_kept" Zav 3 (QL (K:=K) R_lkept))(XbH:QE P w K mg base "_law_shows" Zam 3 (QL (K:=K) R_lshows)):
 QE P w K mg base "_law_bound_holds" Zah 10 (GX K CH R_lbh):=by
 refine D.evHO JL (λM ts ds Ψ h=>by cases h;rfl) (λf cdv A outer s H E v M ts ds Ψ N h=>?_);have hu:=N.units;cases h with
 |@mk y n g p q a b W hg gl h0 O hn nsh=>
  refine⟨_,(Qz (QO (i:=4) JL.nd rfl Qa<|QH F N<|Qo (pv 3)<|Qo (Zx V1 (by rfl) T.len Vx<|Qo (QC QD (pv 1) Qw) Qr) Qr)
 (Qz (QO (i:=5) JL.nd rfl Qa<|QH F N<|Qo (pv 3)<|Qo (QC QD (pv 1) Qw) Qr)
 (Qz (QO (i:=6) JL.nd rfl Qa<|QH F N<|Qo (pv 3)<|Qo Qw Qr)
 (Qz (QO (i:=7) JL.nd rfl Qa<|QH F N<|Qo (pv 3)<|Qo (QC QD (ZE<|Qo Qw<|Qo Qw<|Qo (QP Ml Qw Qw)<|Qo Qw Qr)<|pv 6) Qr)
 (Qz (Zo (ZG Um (pv 6) Qw<|Zy _) (Q2<|QO (i:=7) JL.nd rfl Qa<|QC QD (QC QD (QC QD (QC QD (pv 1) Qw)<|pv 4) Qw)<|pv 5) Zp)
 (Qz (QO (i:=8) JL.nd rfl Qa<|QH Xb4 N<|Qo (pv 1)<|Qo (pv 4)<|Qo (pv 5)<|Qo (pv 7) Qr)
 (Qz (QO (i:=9) JL.nd rfl Qa<|QH XbG N<|Qo (pv 0)<|Qo (pv 4)<|Qo (pv 5)<|Qo (pv 7) Qr)
 (Qz (Zo (ZG Wf (pv 5) (VY u UH N<|pv 0)<|Zy _) (Q2<|QT<|Ux (Jz (Jv hu) (pv 9) Vo<|Zy _)<|Uw<|Jz (Jv hu) (VY Z UH N<|pv 0) (pv 1)<|Zy _) Zp)
 (Qz (Zo (ZF<|QH Xb5 N<|Qo (pv 8)<|Qo (pv 2)<|Qo (VY u UH N<|pv 0) Qr) (Q2<|QT<|Ux (Cn<|C6<|pv 9)<|Uw<|Jz (Jv hu) (VY Z UH N<|pv 0) (pv 8)<|Zy _) Zp)
 (Qz (Zo (YF<|ZF<|QH XbH N<|Qo (pv 9)<|Qo (pv 8)<|Qo (pv 2)<|Qo (VY u UH N<|pv 0) Qr) (Q2<|QT YB) Zp)
 (Qz (Zu<|VJ zP zS zT VN (pv 9)<|Qo Qw Qr)
 (Q2<|QT<|Ux (QH XbH N<|Qo (QH XbG N<|Qo (pv 0)<|Qo (pv 4)<|Qo (pv 5)<|Qo (pv 7) Qr)<|Qo (pv 8)<|Qo (pv 2)<|Qo (VY u UH N<|pv 0) Qr)<|Uw<|Jz (Jv hu) (VY Z UH N<|pv 0) (pv 1)<|Zy _)))))))))))),?_⟩
  show EvR K _ [zo v<|QI CH<|hT y n g p [] q,zf<|QJ y,zf<|.list<|(mR g p).map eRw,some<|.ol [.int a,.int b],none,none,none,none,none,none] _
  walk_at"x";have t1:=W.t1;have t8:=W.t8;have l1:=W.l1;have l5:=W.l5;have eT:∀{ρ:ZbJ},ρ[1]?=some (zf<|QJ y)->Qs K (tOp (rIx K) (Q5 1)<|tC<|.int 0) ρ (.int (y.T:Int)):=λe=>ZS (ds:=[PyData.int (y.T:Int),.tuple<|y.ls.map Zs]) (Qq e) Q6 rfl;have eL:∀{ρ:ZbJ},ρ[1]?=some (zf<|QJ y)->Qs K (tOp (rIx K) (Q5 1)<|tC<|.int 1) ρ (.tuple<|y.ls.map Zs):=λe=>ZS (ds:=[PyData.int (y.T:Int),.tuple<|y.ls.map Zs]) (Qq e) Q6 rfl;refine FG 3 rfl λU=>?_
  walk_at"d";refine ZL (λB=>∃(l:Nat) (a b:Int),l<y.ls.length/\B=[zo v<|QI CH<|hT y n g p [] q,zf<|QJ y,zf<|.list<|(mR g p).map eRw,zo (.ref U)<|olP [.int a,.int b],zi (l:Int),none,none,none,none,none]) (J6 (dg3 rfl (Qs.cast (Gu<|eL rfl) (show _=PyData.int (y.ls.length:Int) by rw[Xl])) (by lia)<|GY<|by lia) ?_) ?_
  .rintro z _ ⟨I,z1,a,b,rfl⟩;refine⟨z.toNat,a,b,by lia,?_⟩;rw[X5 I];rfl
  rintro _ ⟨l,a,b,G,rfl⟩;refine ZL (λB=>∃(t:Nat) (a b:Int),t<y.T/\B=[zo v<|QI CH<|hT y n g p [] q,zf<|QJ y,zf<|.list<|(mR g p).map eRw,zo (.ref U)<|olP [.int a,.int b],zi (l:Int),zi (t:Int),none,none,none,none]) (J6 (dg3 rfl (eT rfl) (by lia)<|GY t8) ?_) ?_
  .rintro z _ ⟨I,z1,a,b,rfl⟩;refine⟨z.toNat,a,b,by lia,?_⟩;rw[X5 I];rfl
  rintro _ ⟨t,a,b,ht,rfl⟩;refine ZL (λB=>∃R a b:Int,0<=R/\R<4/\B=[zo v<|QI CH<|hT y n g p [] q,zf<|QJ y,zf<|.list<|(mR g p).map eRw,zo (.ref U)<|olP [.int a,.int b],zi (l:Int),zi (t:Int),zi R,none,none,none]) (J6 (dg3 rfl Q6 (by decide)<|by decide +kernel) ?_) ?_
  .rintro z _ ⟨I,z1,a,b,rfl⟩;exact⟨z,a,b,I,z1,rfl⟩
  rintro _ ⟨R,a,b,w0,w1,rfl⟩;obtain⟨m,hm,m0,m1⟩:∃m:Int,atI [PyData.int 1,.int 20,.int<|10^(30:Int).toNat,.int 5] R=some (.int m)/\0<m/\m<=10^30:=by
   obtain rfl|rfl|rfl|rfl:R=0\/R=1\/R=2\/R=3:=by lia
   .exact⟨_,rfl,by decide,by decide +kernel⟩
   .exact⟨_,rfl,by decide,by decide +kernel⟩
   .exact⟨_,rfl,by decide +kernel,by decide +kernel⟩
   .exact⟨_,rfl,by decide,by decide +kernel⟩
  refine ZL (λB=>∃C a b:Int,0<=C/\C<10^300/\B=[zo v<|QI CH<|hT y n g p [] q,zf<|QJ y,zf<|.list<|(mR g p).map eRw,zo (.ref U)<|olP [.int a,.int b],zi (l:Int),zi (t:Int),zi R,zi C,none,none]) (J6 (dg3 rfl (VL (EvO.fz<|V4 (QY Q6<|QY Q6<|QY (ZK Q6 Q6<|Be (by decide)<|by decide)<|QY Q6 Z9)<|by show(4:Nat)<=1000;decide) (Qq rfl) hm) m0<|GS m1<|by decide +kernel) ?_) ?_
  .rintro z _ ⟨I,z1,a,b,rfl⟩;exact⟨z,a,b,I,Int.lt_of_lt_of_le z1<|GS m1<|by decide +kernel,rfl⟩
  rintro _ ⟨C,a,b,b0,b1,rfl⟩;clear hm m0 m1 m;have hin:QU y l∈y.ls:=by
   have e:QU y l=y.ls[l]:=by simp[QU,G]
   rw[e];exact XX G
  have bl:(QU y l).bs.length=y.T:=UB W G;refine ZL (λB=>∃C:Int,0<=C/\C<10^300/\B=[zo v<|QI CH<|hT y n g p [] q,zf<|QJ y,zf<|.list<|(mR g p).map eRw,zo (.ref U)<|olP [.int a,.int b],zi (l:Int),zi (t:Int),zi R,zi C,none,none]) (Zt (b:=decide (R=3)) (ZA<|Js (Qq rfl) Q6) (λ_=>ZD (d:=.int ((QU y l).bs.getD t 0)) (ZS (ds:=(QU y l).bs.map PyData.int) (ZS (ds:=[upD (QU y l).up,.tuple<|(QU y l).bs.map PyData.int]) (ZS (eL rfl) (Qq rfl)<|Vm<|by rw[Xs];simp[QU,G,Zs]) Q6 rfl) (Qq rfl)<|Vm<|by rw[Xs];simp[bl,ht]) ⟨(QU y l).bs.getD t 0,?_,?_,rfl⟩) λ_=>Zz ⟨C,b0,b1,rfl⟩) ?_
  .exact(W.bb _ hin _<|by simp[bl,ht]).1
  .exact(W.bb _ hin _<|by simp[bl,ht]).2
  clear b0 b1 C;rintro _ ⟨C,b0,b1,rfl⟩;refine Ya (ZD (Zb (Qv (Qq rfl)<|Qv (Qq rfl)<|Qv (Qq rfl)<|Qv (Qq rfl) QA)<|R_withb.mk W G ht) rfl) ?_
  try walk_at"d"
  have J:∀{ρ:ZbJ} {y':Yd} {E':XK},ρ[0]?=some (zz<|QZ CH<|hT y' n g p [] q)->Qs K (ZR CH "now" (Zr K<|R_hnow CH) [] E' (Q5 0) QM) ρ (.int (n:Int)):=λe=>PL Ck e QA R_hnow.mk;have X:=He (t:=t) W G b0 b1;have o:∀x∈g,G30 (ydB y l t C) x:=λx hx=>DQ (hg x hx);have Q:VS (.str "time"):=⟨by decide +kernel,XQ _⟩
  by_cases hTn:t<n
  .refine Ya (Wk (Jb 0 rfl (λr N=>by rw[N];exact JG rfl)<|Tl (Mg rfl (Qv (Qq rfl)<|Qv (Qq rfl)<|Qv (Qq rfl) QA))<|X_lset.tm hTn) λr Y=>by subst Y;rfl) ?_
   try walk_at"d"
   refine Sy (Zf.cast (JA 0 rfl (ZA<|Vh (Qq rfl)<|J rfl))<|XJ<|by lia) ?_;exact WX (G6 (d:=.bool true) 0 rfl rfl (Qs.cast (Jy (b:=true) (c:=true) (Qs.cast (WS (a:=.str "time") (b:=.str "time") (Qq rfl) VE Q Q)<|by rw[J7 Q]) λ_=>Qs.cast (WS (a:=QJ y) (b:=QJ y) (Km B5 rfl rfl) (Qq rfl) (W8 y)<|W8 y)<|by rw[J7<|W8 y]) rfl)) ⟨_,⟨rfl,y,W,rfl,hg,nsh,rfl⟩,rfl⟩
  by_cases hS:∀S,Zk (ydB y l t C) (Qy<|mT n g p []) S<=0
  .refine ZL (λB=>B=[zo v<|QI CH<|hT (ydB y l t C) n g p [] q,zf<|QJ y,zf<|.list<|(mR g p).map eRw,zo (.ref U)<|olP [.int a,.int b],zi (l:Int),zi (t:Int),zi R,zi C,zf<|QJ<|ydB y l t C,zf .none]) (IA (i:=0) (j:=9) (by decide) rfl (Qv (Qq rfl)<|Qv (Qq rfl)<|Qv (Qq rfl) QA) (R_hset.mk W hg gl h0 O G ht b0 b1 (by lia) hS)<|by rintro r N' ⟨rfl,rfl⟩;rfl) ?_;rintro _ rfl;refine Ya (Zt (b:=false) (Zf.cast (JA 0 rfl (ZA<|Vh (Qq rfl)<|J rfl))<|XI<|by lia) (by rintro⟨⟩) λ_=>Zz rfl) ?_;refine Sy (JA 0 rfl (ZJ<|Zb (Qv (Qq rfl)<|Qv (Qq rfl)<|Qv (J rfl) QA)<|R_lkept.mk X o O hn h0 ⟨λ_=>hS,λ_=>rfl⟩)) ?_;exact WX (G6 (d:=.bool true) 0 rfl rfl (Qs.cast (Jy (b:=true) (c:=true) (Qs.cast (R6<|Qq rfl) rfl) λ_=>Qs.cast (WS (a:=QJ (ydB y l t C)) (b:=QJ (ydB y l t C)) (Km B5 rfl rfl) (Qq rfl) (W8 _)<|W8 _)<|by rw[J7<|W8 _]) rfl)) ⟨_,⟨rfl,ydB y l t C,X,rfl,o,hS,rfl⟩,rfl⟩
  .obtain⟨S0,hS0⟩:∃S,0<Zk (ydB y l t C) (Qy<|mT n g p []) S:=Classical.byContradiction λc=>hS λS=>Int.not_lt.mp λz=>c ⟨S,z⟩
   have flt:∀S,U2 (Za<|Zn (mT n g p []) S):=λS d hd=>by
    unfold Za at hd;obtain⟨k,_,rfl⟩:=XL.mp hd;exact⟨_,rfl⟩
   have st:∀{ρ:ZbJ} {E':XK},ρ[0]?=some (zz<|QZ CH<|hT y n g p [] q)->ρ[4]?=some (zi (l:Int))->ρ[5]?=some (zi (t:Int))->ρ[7]?=some (zi C)->Z2 K (Vg (WN K CH R_hset<|X_lset CH) [] E'<|QF (Q5 0)<|QF (Q5 4)<|QF (Q5 5)<|QF (Q5 7) QM) ρ (λr=>∃S,0<Zk (ydB y l t C) (Qy<|mT n g p []) S/\r=.ol (Za<|Zn (mT n g p []) S)):=λe0 e4 e5 e7=>Tl (Mg e0<|Qv (Qq e4)<|Qv (Qq e5)<|Qv (Qq e7) QA) (X_lset.mk W hg gl h0 O G ht b0 b1 (by lia) hS0);refine ZL (λB=>∃S,0<Zk (ydB y l t C) (Qy<|mT n g p []) S/\B=[zo v<|QI CH<|hT y n g p [] q,zf<|QJ y,zf<|.list<|(mR g p).map eRw,zo (.ref U)<|olP [.int a,.int b],zi (l:Int),zi (t:Int),zi R,zi C,zf<|QJ<|ydB y l t C,some<|.ol<|Za<|Zn (mT n g p []) S]) (Wk (Jb 0 rfl (λr N=>by obtain⟨S,_,rfl⟩:=N;exact HS<|flt S)<|st rfl rfl rfl rfl) λr Y=>by obtain⟨S,L,rfl⟩:=Y;exact⟨S,L,rfl⟩) ?_
   rintro _ ⟨S,L,rfl⟩;have sl:=(MG (show(mT n g p []).length<=8 by rw[Vs];exact O) S).len;refine Ya (Zt (b:=false) (Zf.cast (JA 0 rfl (ZA<|Vh (Qq rfl)<|J rfl))<|XI<|by lia) (by rintro⟨⟩) λ_=>Zz rfl) ?_;refine Ya (Zt (b:=false) (JA 0 rfl (ZJ<|Zb (Qv (Qq rfl)<|Qv (Qq rfl)<|Qv (J rfl) QA)<|R_lkept.mk X o O hn h0 ⟨λc=>(nomatch c),λc=>(hS c).elim⟩)) (by rintro⟨⟩) λ_=>Zz rfl) ?_;refine Ya (Zt (b:=false) (JA 0 rfl (PD 9 rfl rfl (Y0 (b:=true)<|ZJ<|Zb (Qv (Qq rfl)<|Qv (Qq rfl)<|Qv (Qq rfl)<|Qv (J rfl) QA)<|R_lshows.mk X o O hn h0 L))) (by rintro⟨⟩) λ_=>Zz rfl) ?_;refine Ya (UD rfl Q6 (by unfold Za;rw[Xl];lia) rfl) ?_
   try walk_at"d"
   exact WX (G6 (d:=.bool true) 0 rfl rfl (Qs.cast (Jy (b:=true) (c:=true) (EvO.e<|Z2.o<|Eh (Eg (Φ':=λts=>∃S,0<Zk (ydB y l t C) (Qy<|mT n g p []) S/\ts=[.fz<|.list<|Za<|Zn (mT n g p []) S,.fz<|QJ<|ydB y l t C,.fz<|.list<|(mR g p).map eRw,.fz<|.int (n:Int)]) (st rfl rfl rfl rfl) (Qv (Qq rfl)<|Qv (Qq rfl)<|Qv (J rfl) QA) λr Y=>by obtain⟨S,h1,rfl⟩:=Y;exact⟨_,rfl,S,h1,rfl⟩) λts hts=>by obtain⟨S,h1,rfl⟩:=hts;exact⟨_,R_lshows.mk X o O hn h0 h1,rfl⟩) λ_=>Qs.cast (WS (a:=QJ y) (b:=QJ y) (Km B5 rfl rfl) (Qq rfl) (W8 y)<|W8 y)<|by rw[J7<|W8 y]) rfl)) ⟨_,⟨rfl,y,W,rfl,hg,nsh,rfl⟩,rfl⟩
def TW(s:Str)(h:s = "in" \/ s = "room"):VS (.str s):=by rcases h with rfl|rfl<;>exact⟨by decide +kernel,XQ _⟩
def ML : rsT gs (List.replicate gs.length 0) [] k=(gs.getD k default).want:=by
 unfold rsT;rw[Xb<|by simp];have:(List.replicate gs.length (0:Int)).getD k 0=0:=by
  rw[List.getD,Dx];split<;>rfl
 rw[this,Int.sub_zero]
def Pc(gs:List Gs):mT 0 gs (List.replicate gs.length 0) []=gs:=by
 apply List.ext_getElem?;intro i;unfold mT;by_cases h:i<gs.length
 .rw[Xs,List.getElem?_range h,XS h];show some (stl gs 0 (rsT gs (List.replicate gs.length 0) []) i)=_;unfold stl;rw[ML];simp[h]
 .rw[JS<|by simp;lia,JS<|by lia]
def OO{y:Yd}(f:y.Ok)(S:Qm):Zk y (Qy []) S<=0:=by
 unfold Zk;have a:0<=Q1 (λt=>passes y (λl=>Z3 y l t) (VA (Qy []) S t) 0) y.T:=M0 λt _=>Tz f (λl=>Mq f l t) (λl=>YJ _);have b:Q1 (Zd S (Qy []).wa) (Qy []).m=0:=rfl;rw[b];lia
def ZI(gs:List Gs)(W:Qn):List (Qd):=(List.range gs.length).map λk=>rwL { gs.getD k default with want:=W k }
def M7(gs:List Gs)(W:Qn):(ZI gs W).length=gs.length:=by simp[ZI]
def Bz(h:k<gs.length):(ZI gs W)[k]?=some (rwL { gs.getD k default with want:=W k }):=by simp[ZI,h]
def CU(h:∀k,k<gs.length->W k=W' k):ZI gs W=ZI gs W':=WK λk a=>by rw[h k<|XH.mp a]
def SL(gs:List Gs)(gv:Ql):(ZI gs<|rsT gs gv []).map PyData.list=(mR gs gv).map eRw:=by
 unfold ZI mR;rw[X7,X7];rfl
def FU(gs:List Gs):gs.map rwL=ZI gs (rsT gs (List.replicate gs.length 0) []):=by
 apply List.ext_getElem?;intro i;unfold ZI;by_cases h:i<gs.length
 .rw[Xs,Xs,List.getElem?_range h,XS h];show some (rwL gs[i])=some (rwL { gs.getD i default with want:=rsT gs (List.replicate gs.length 0) [] i });rw[ML];simp[h]
 .rw[JS<|by simp;lia,JS<|by simp;lia]
def Op(h:k<gs.length)(v:Int):(ZI gs W).set k ((rwL { gs.getD k default with want:=W k }).set 3 (.int v))=ZI gs λj=>if j=k then v else W j:=by
 apply List.ext_getElem?;intro j;by_cases e:j=k
 .subst e;rw[Xm<|by rw[M7];exact h,Bz h,Xd rfl];rfl
 .rw[Xt<|Ne.symm e]
  by_cases a:j<gs.length
  .rw[Bz a,Bz a,Xb e]
  .rw[JS<|by rw[M7];lia,JS<|by rw[M7];lia]
def loS(rg:List Gs)(f:Qn)(P:Qk)(l:Nat):Int:=(P.map λk=>if (rg.getD k default).line=l then f k else 0).sum
def Ks(rg:List Gs)(f:Qn)(P:Qk)(k l:Nat):loS rg f (P++[k]) l=loS rg f P l+if (rg.getD k default).line=l then f k else 0:=by
 unfold loS;rw[XF,BP];simp
def AN{f:Qn}{m:Nat}(f0:∀k,k<m->0<=f k)(l:Nat):loS rg f ((List.range m).filter λk=>decide (f k > 0)) l=Q1 (λk=>f k*ind ((rg.getD k default).line=l)) m:=by
 induction m with
 |zero=>rfl
 |succ m a=>
  have a:=a λk b=>f0 k (by lia);have h:=f0 m (by lia);rw[YL,JP,Q1,<- a];by_cases c:f m > 0
  .have e:[m].filter (λk=>decide (f k > 0))=[m]:=by simp[c]
   rw[e,Ks];congr 1;unfold ind;split<;>lia
  .have e:[m].filter (λk=>decide (f k > 0))=[]:=by simp[c]
   rw[e,Xx];have z:f m=0:=by lia
   rw[z,Int.zero_mul,YZ]
noncomputable def ldL(y:Yd)(a own:Qn)(i l:Nat):Int:=own l+Q1 (λc=>if y.ls.length<=c+i/\Zc y c=some l then a c else 0) y.ls.length
def Fj(y:Yd)(a own:Qn)(l:Nat):ldL y a own 0 l=own l:=by
 unfold ldL;rw[Zi (g:=λ_=>0) λc b=>Xb<|by lia,Vj,YZ]
theorem P1{g:Qn}{j:Nat}{v:Int}:∀{n:Nat},j<n->Q1 (λc=>g c+if c=j then v else 0) n=Q1 g n+v
 |0,h=>by lia
 |n+1,h=>by
  rw[Q1,Q1];by_cases e:j=n
  .subst e;rw[Xd rfl,Zi (g:=g) λc a=>by rw[Xb<|by lia,YZ]];lia
  .rw[Xb<|Ne.symm e,P1 (g:=g) (n:=n)<|by lia];lia
def Hi{y:Yd}(b:i<y.ls.length)(a:y.ls.length-1-i=j):ldL y tk own (i+1) l=ldL y tk own i l+if Zc y j=some l then tk j else 0:=by
 unfold ldL;rw[Int.add_assoc];congr 1;rw[<- P1 (j:=j) (by lia)];refine Zi λc f=>?_
 by_cases e:c=j
 .subst e;rw[Xd rfl,Xb (show ¬(y.ls.length<=c+i/\Zc y c=some l) by lia),YK]
  by_cases u:Zc y c=some l
  .rw[Xd ⟨by lia,u⟩,Xd u]
  .rw[Xb λz=>u z.2,Xb u]
 .rw[Xb e,YZ]
  by_cases u:Zc y c=some l
  .by_cases d:y.ls.length<=c+i
   .rw[Xd ⟨by lia,u⟩,Xd ⟨d,u⟩]
   .rw[Xb<|by lia,Xb<|by lia]
  .rw[Xb λz=>u z.2,Xb λz=>u z.2]
def Ac{f:Qn}{m:Nat}(h:k<m)(i:f k > 0):Yc (gfD f m) (.inl (k:Int))=some (.int<|f k):=by
 have a:k∈(List.range m).filter λk=>decide (f k > 0):=WJ.mpr ⟨XH.mpr h,XJ i⟩;unfold gfD;generalize (List.range m).filter (λk=>decide (f k > 0))=L at a;unfold Yc;induction L with
 |nil=>cases a
 |cons x L g=>
  rw[Xw,Xy];by_cases z:x=k
  .subst z;simp
  .have b:¬((.inl (x:Int):Key)=.inl (k:Int)):=λq=>z (by injection q with q;lia)
   simp only[b,decide_false];exact g ((Xe.mp a).resolve_left (Ne.symm z))
def CY(f:Qn)(m:Nat):(gfD f m).map (λa=>WM a.1)=Za ((List.range m).filter λk=>decide (f k > 0)):=by
 unfold gfD Za;rw[X7];rfl
inductive R_lborne:PyData->List (Qd)->Zco->PyData->List (Qd)->Prop
 |mk {y:Yd}{gs:List Gs}{gv:Ql}{f:Qn}{t:Nat}(ok:y.Ok)(ht:t<y.T)(g8:gs.length<=8)(hl:∀k,k<gs.length->(gs.getD k default).line<y.ls.length)(f0:∀k,k<gs.length->0<=f k)(hd:∀l,l<y.ls.length->ZN y gs.length (λk=>(gs.getD k default).line) f l<=Z3 y l t)
  (h0:∀k,k<gs.length->0<=rsT gs (gvT gv f gs.length gs.length) [] k)(hov:∀k,k<gs.length->(gs.getD k default).last<t+1->rsT gs (gvT gv f gs.length gs.length) [] k=0):R_lborne (QJ y) (ZI gs<|rsT gs gv []) (gfD f gs.length) (.int (t:Int)) (ZI gs<|rsT gs (gvT gv f gs.length gs.length) [])
def CZ(gs:List Gs)(gv:Ql):Ub (.oll<|ZI gs<|rsT gs gv [])=some (.list<|(mR gs gv).map eRw):=by
 show some (PyData.list<|(ZI gs<|rsT gs gv []).map PyData.list)=_;rw[SL]
def Dj:Qp Zap Zal (Q4 De):=by walk_at"p"
def IN(T:Bl mg)(D:Df K mg "_law_borne" De Zal):QE P w K mg base "_law_borne" Zal 1 (spB K R_lborne):=by
 refine D.evB Dj rfl (λf cdv A outer s H E x vg d1 T1 L0 d4 dss' hr h=>?_);have hu:=hr.units;cases h with
 |@mk y r Y f t F ht g8 hl f0 hd h0 U=>
  refine⟨_,(Qz (QO (i:=4) Dj.nd rfl Qa<|QP So (ZE<|Qo Qw Qr)<|Zx V1 (by rfl) T.len Vx<|Qo (QC QD (pv 0) Qw) Qr)
 (Qz (CB 2 (Vc zN rfl (Ex<|pv 2) (Zh (i:=5) Dj.nd rfl Qa) (Qz (YD (QP Vi (QC QD (pv 4)<|QC QD (QC QD (pv 1)<|pv 5) Qw)<|Mx (Yz hr) (pv 2) (pv 5) λ_ _=>rfl)<|W7 (pv 4) (QC QD (QC QD (pv 1)<|pv 5) Qw) Yk)
 (Q2<|YD (QP Y1 (QC QD (QC QD (pv 1)<|pv 5) Qw)<|Mx (Yz hr) (pv 2) (pv 5) λ_ _=>rfl)<|W7 (QC QD (pv 1)<|pv 5) Qw Yk))))
 (Qz (Vc zN rfl (by exact(KJ rfl T.range<|Qo (QP Y1 (Zx V1 (by rfl) T.len Vx<|Qo (pv 4) Qr) Qw)<|Qo (Bg Bk Qw)<|Qo (Bg Bk Qw) Qr)) (Zh (i:=6) Dj.nd rfl Qa) (by exact(Qz (Zo (ZG Yh (QC QD (pv 4)<|pv 6) (QC QD (QC QD (QC QD (QC QD (pv 0) Qw)<|pv 6) Qw)<|pv 3)<|Zy _) (Q2<|QT YB) Zp)
 (Q2<|Zo (ZG Yh (pv 6) Qw<|Zy _) (Q2<|YD (QP Vi (QC QD (pv 4)<|QC QD (QC QD (QC QD (pv 0) Qw)<|pv 6) Qw)<|QC QD (pv 4)<|pv 6)<|W7 (pv 4) (QC QD (QC QD (QC QD (pv 0) Qw)<|pv 6) Qw) Yk) Zp))))
 (Q2<|QT<|Jz (Jv hu) (Wy (NX:=Zap) (sc:=Q4 De) (N:=["_law_row","_law_turn"]) (f:=[none,some 3]) rfl (by decide +kernel) rfl rfl (W9<|pv 1) (λ_=>(Zh (i:=0) (show(["_law_row","_law_turn"]:Qh).Nodup by decide +kernel) rfl Qa)) (λ_=>Ym) (λ_=>(G2<|PW.pt<|Bc (ZG Wf (QC QD (pv 0) Qw) Qw<|Zy _)<|Mp<|PW.pt<|YS (ZG Uo (QC QD (pv 0) Qw) (pv 1)<|Zy _)<|YX<|ZG Yh (QC QD (pv 0) Qw) Qw<|Zy _)) λ_=>(pv 0)) (ZE Qr)<|Zy _)))),?_⟩
  show EvR K _ [zf<|QJ y,zo x<|Z5<|ZI r<|rsT r Y [],zo vg<|dkP<|gfD f r.length,zi (t:Int),none,none,none] _
  walk_at"x";have l1:=F.l1;have l5:=F.l5;have eL:∀{ρ:ZbJ},ρ[0]?=some (zf<|QJ y)->Qs K (tOp (rIx K) (Q5 0)<|tC<|.int 1) ρ (.tuple<|y.ls.map Zs):=λe=>ZS (ds:=[PyData.int (y.T:Int),.tuple<|y.ls.map Zs]) (Qq e) Q6 rfl;have len:(y.ls.map Zs).length=y.ls.length:=by simp
  refine ZL (λv=>v=[zf<|QJ y,zo x<|Z5<|ZI r<|rsT r Y [],zo vg<|dkP<|gfD f r.length,zi (t:Int),some<|.ol<|(List.range y.ls.length).map λl=>PyData.int<|loS r f [] l,none,none]) (VW (EvO.cast (Sk (ds:=[.int 0]) (k:=(y.ls.length:Int)) (EvO.fz<|V4 (ds:=[.int 0]) (QY Q6 Z9) Wc) (Qs.cast (Gu<|eL rfl)<|by rw[len]) (by lia) (by show 1*_<=1000;lia)<|by lia) (d':=.ol ((List.range y.ls.length).map λl=>PyData.int<|loS r f [] l)) ?e0) rfl) ?_
  case e0=>
   rw[HQ,Xo,Tk];rfl
  rintro _ rfl;have Lm:∀j,j∈((List.range r.length).filter λk=>decide (f k > 0))↔j<r.length/\f j > 0:=λj=>by rw[WJ,XH,decide_eq_true_eq]
  have Ln:((List.range r.length).filter λk=>decide (f k > 0)).Nodup:=List.Pairwise.filter _ List.nodup_range;have Lk:=CY f r.length;have La:=AN (rg:=r) (m:=r.length) f0;generalize ((List.range r.length).filter λk=>decide (f k > 0))=L at Lm Ln Lk La;refine ZL (λv=>∃(o:Obj) (q:Option OT),v=[zf<|QJ y,zo x<|Z5<|ZI r<|rsT r (gvT Y f r.length r.length) [],zz<|DwZ o<|gfD f r.length,zi (t:Int),some<|.ol<|(List.range y.ls.length).map λl=>PyData.int<|loS r f L l,q,none]) (Eo 2 rfl λo=>?_) ?_
  .refine V2 (ds:=Za L) (λi v=>∃(W:Qn) (q:Option OT),(∀j,j∈L.take i->W j=rsT r Y [] j-f j)/\(∀j,j∉L.take i->W j=rsT r Y [] j)/\v=[zf<|QJ y,zo x<|Z5<|ZI r W,zz<|DwZ o<|gfD f r.length,zi (t:Int),some<|.ol<|(List.range y.ls.length).map λl=>PyData.int<|loS r f (L.take i) l,q,none]) (EvI.cast (AS rfl) Lk) ⟨_,_,(λj C=>by simp at C),(λ_ _=>rfl),rfl⟩ ?st3 ?fin3
   case st3=>
    rintro i d _ X ⟨W,q,W1,W2,rfl⟩;have Z:i<L.length:=by
     have:=(Xf.mp X).1;simpa [Za] using this
    obtain rfl:d=.int ((L[i]:Nat):Int):=by
     unfold Za at X;rw[Xs,XS Z]at X;exact(Option.some.inj X).symm
    have G:=(Lm L[i]).mp (XX Z);have B:L.take (i+1)=L.take i++[L[i]]:=by rw[JT,XS Z];rfl
    have S:L[i]∉L.take i:=λz=>by
     have nd:=Ln;rw[<- List.take_append_drop i L,UN]at nd;exact nd.2.2 L[i] z L[i] (by rw[NM Z];exact Xc) rfl
    generalize L[i]=k at G B S;have ql:=hl k G.1;refine⟨_,Zq,?_⟩;walk_at"d";have rk:atI ((ZI r W).map PyData.list) (k:Int)=some (.list<|rwL { r.getD k default with want:=W k }):=Vm (by rw[Xs,Bz G.1];rfl);have eR:∀{ρ:ZbJ} {n:Int} {d:PyData} {w:V},ρ[1]?=some (zo x<|Z5<|ZI r W)->ρ[5]?=some (zi (k:Int))->ZO d=some w->atI (rwL { r.getD k default with want:=W k }) n=some d->Qs K (tOp (rIx K) (tOp (rIx K) (Q5 1)<|Q5 5)<|tC<|.int n) ρ d:=λ{ρ n d w} Q e5 hf ha=>by
     have h1:=(Xf.mp Q).1;refine Sa 1 Q (PZ 1 (Xm h1) rfl hf<|VL (ds:=rwL { r.getD k default with want:=W k }) (VL (Qq<|Xm<|by rw[JU];exact h1) (Qq ?_) rk) Q6 ha);exact(Xt<|by decide).trans ((Xt<|by decide).trans e5)
    have eG:∀{ρ:ZbJ},ρ[2]?=some (zz<|DwZ o<|gfD f r.length)->ρ[5]?=some (zi (k:Int))->Qs K (BY (Q5 2)<|Q5 5) ρ (.int<|f k):=λe2 e5=>IC (k:=.inl (k:Int)) e2 (Qq e5) (Ac G.1 G.2);refine QK (U7 (j:=(r.getD k default).line) rfl (Z7 (Wi rfl (eR (d:=.int ((r.getD k default).line:Int)) rfl rfl rfl rfl)<|by rw[Wl (by lia)<|by lia,Xo])<|eG rfl rfl) (eR (d:=.int ((r.getD k default).line:Int)) rfl rfl rfl rfl) (by rw[Jt (by lia)<|by rw[Xl,JM];lia,Xo]) ?_)
    walk_at"d";rw[U9 (f:=λl=>loS r f (L.take i) l) (g:=λl=>loS r f (L.take<|i+1) l) ql (λl _ hn=>by rw[B,Ks,Xb<|Ne.symm hn,YZ])<|by rw[B,Ks,Xd rfl]];refine ZmJ (d:=.int (W k-f k)) (k:=(k:Int)) (m:=3) (k':=k) (m':=3) (ds:=rwL { r.getD k default with want:=W k }) rfl (Z7 (eR rfl rfl rfl rfl)<|eG rfl rfl) (Qq rfl) Q6 (by rw[M7,Jt (by lia)<|by lia,Xo]) (Bz G.1) rfl ?_;walk_at"d";rw[Op G.1];refine⟨λj=>if j=k then W k-f k else W j,_,λj C=>?_,λj C=>?_,rfl⟩
    .rw[B]at C;dsimp only;by_cases c:j=k
     .subst c;rw[Xd rfl,W2 j S]
     .rw[Xb c];exact W1 j ((XD.mp C).resolve_right λz=>c<|Xh.mp z)
    .rw[B]at C;dsimp only;have c:j≠k:=λz=>C (XT _<|by rw[z];exact List.mem_singleton_self _);rw[Xb c];exact W2 j λz=>C (JR _ z)
   case fin3=>
    rintro _ ⟨W,q,W1,W2,rfl⟩;have ll:(Za L).length=L.length:=by unfold Za;rw[Xl]
    rw[ll,Ji]at W1 W2 ⊢;have We:ZI r W=ZI r (rsT r (gvT Y f r.length r.length) []):=CU λj C=>by
     have Q:rsT r (gvT Y f r.length r.length) [] j=rsT r Y [] j-f j:=by
      unfold rsT;rw[Xb<|by simp,Xb<|by simp,HH C];lia
     rw[Q];by_cases c:j∈L
     .exact W1 j c
     .rw[W2 j c];have a:=f0 j C;have b:¬f j > 0:=λz=>c ((Lm j).mpr ⟨C,z⟩)
      lia
    rw[We];exact⟨o,_,rfl⟩
  rintro _ ⟨o,q,rfl⟩;have sp:=λl I=>GF F (ln:=λk=>(r.getD k default).line) hl f (l:=l) I;generalize ZN y r.length (λk=>(r.getD k default).line) f=B at hd sp;have sp:∀l,l<y.ls.length->B l=loS r f L l+Q1 (λc=>if Zc y c=some l then B c else 0) y.ls.length:=λl I=>by rw[La l];exact sp l I
  have e0:((List.range y.ls.length).map λl=>PyData.int<|loS r f L l)=(List.range y.ls.length).map λl=>PyData.int (ldL y B (loS r f L) 0 l):=WK λl _=>by rw[Fj]
  rw[e0];generalize gvT Y f r.length r.length=R at h0 U;refine ZL (λv=>∃u4 O:Option OT,v=[zf<|QJ y,zo x<|Z5<|ZI r<|rsT r R [],zz<|DwZ o<|gfD f r.length,zi (t:Int),u4,q,O]) (V2 (ds:=Wv ((y.ls.length:Int)-1) y.ls.length) (λi v=>∃O:Option OT,v=[zf<|QJ y,zo x<|Z5<|ZI r<|rsT r R [],zz<|DwZ o<|gfD f r.length,zi (t:Int),some<|.ol<|(List.range y.ls.length).map λl=>PyData.int<|ldL y B (loS r f L) i l,q,O]) ?ei4 ⟨_,rfl⟩ ?st4 ?fin4) ?_
  case ei4=>
   apply EvI.cast
   .walk_at"ei"
   .rw[Xl,JM];exact KB rfl (by lia)
  case fin4=>
   rintro _ ⟨O,rfl⟩;exact⟨_,_,rfl⟩
  case st4=>
   rintro i d _ X ⟨O,rfl⟩;obtain⟨Z,rfl⟩:=MM X;refine⟨_,Zq,?_⟩;walk_at"d";have ej:(y.ls.length:Int)-1-(i:Int)=((y.ls.length-1-i:Nat):Int):=by lia
   rw[ej];generalize C:y.ls.length-1-i=j;have M:j<y.ls.length:=by lia
   have hbl:=UB F M;have hbb:(QU y j).bs.getD t 0=Z3 y j t:=(MZ M).symm;have ln:atI (y.ls.map Zs) (j:Int)=some (Zs<|QU y j):=Vm (by simp[M,QU]);have ar:ldL y B (loS r f L) i j=B j:=by
    rw[sp j M];unfold ldL;congr 1;refine Zi λc hc=>?_
    by_cases u:Zc y c=some j
    .have:=Ul F hc u;rw[Xd u,Xd ⟨by lia,u⟩]
    .rw[Xb u,Xb λz=>u z.2]
   have bj:=hd j M;have eK:∀{ρ:ZbJ} {n:Int} {d:PyData},ρ[0]?=some (zf<|QJ y)->ρ[6]?=some (zi (j:Int))->atI [upD (QU y j).up,.tuple<|(QU y j).bs.map PyData.int] n=some d->Qs K (tOp (rIx K) (tOp (rIx K) (tOp (rIx K) (Q5 0)<|tC<|.int 1)<|Q5 6)<|tC<|.int n) ρ d:=λe0 e6 h=>ZS (ds:=[upD (QU y j).up,.tuple<|(QU y j).bs.map PyData.int]) (ZS (eL e0) (Qq e6) ln) Q6 h;refine QK (Zt (b:=false) (Zf.cast (ZA<|Vh (Wi rfl (Qq rfl)<|Wl (by lia)<|by lia)<|ZS (ds:=(QU y j).bs.map PyData.int) (eK rfl rfl rfl) (Qq rfl)<|HC (by lia)<|by lia) ?lb) (by rintro⟨⟩) λ_=>Zz ?_)
   case lb=>
    rw[Xo,Xo,hbb,ar];exact XI (by lia)
   refine Zt (b:=decide ((j:Int) > 0)) (Zf.cast (ZA<|Vh (Qq rfl) Q6) rfl) (λc=>?_) (λc=>Zz ?_)
   .have c:=XW c;obtain⟨a,ea,la⟩:=F.ups j (by lia) M;have eu:upD (QU y j).up=.int (a:Int):=by
     have:(QU y j).up=some a:=by rw[<- MP M];exact ea
     rw[this];rfl
    have eA:∀{ρ:ZbJ},ρ[0]?=some (zf<|QJ y)->ρ[6]?=some (zi (j:Int))->Qs K (tOp (rIx K) (tOp (rIx K) (tOp (rIx K) (Q5 0)<|tC<|.int 1)<|Q5 6)<|tC<|.int 0) ρ (.int (a:Int)):=λe0 e6=>eK e0 e6 (by rw[eu];rfl);refine U7 (j:=a) rfl (Z7 (Wi rfl (eA rfl rfl)<|Wl (by lia)<|by lia)<|Wi rfl (Qq rfl)<|Wl (by lia)<|by lia) (eA rfl rfl) (by rw[Jt (by lia)<|by simp;lia,Xo]) ?_
    walk_at"d";rw[Xo,Xo,ar];rw[U9 (f:=λl=>ldL y B (loS r f L) i l) (g:=λl=>ldL y B (loS r f L) (i+1) l) (by lia) (λl _ hn=>by rw[Hi (by lia) C,ea,Xb<|by simpa using λz=>hn z.symm,YZ])<|by rw[Hi (by lia) C,ea,Xd rfl]];exact⟨_,rfl⟩
   .have c:=JO c;have j0:j=0:=by lia
    have Q:(λl=>PyData.int<|ldL y B (loS r f L) (i+1) l)=λl=>PyData.int (ldL y B (loS r f L) i l):=funext λl=>by
     rw[Hi (by lia) C,j0,F.up0,Xb (by rintro⟨⟩),YZ]
    dsimp only;rw[Q];exact⟨_,rfl⟩
  rintro _ ⟨u4,O,rfl⟩;have J:VS (.list []):=⟨by decide +kernel,by decide +kernel⟩
  have nf:∀g∈mR r R,(decide (g.want<0)||(decide ((g.last:Int)<=(t:Int))&&decide (g.want > 0)))=false:=λg hg=>by
   obtain⟨k,hk,rfl⟩:=XL.mp hg;have hk:=XH.mp hk;have a:=h0 k hk;have b:=U k hk;show(decide (rsT r R [] k<0)||(decide (((r.getD k default).last:Int)<=(t:Int))&&decide (rsT r R [] k > 0)))=false
   rw[XI<|by lia,Bool.false_or];by_cases c:((r.getD k default).last:Int)<=(t:Int)
   .rw[b<|by lia];simp
   .rw[XI c,Bool.false_and]
  refine WX (Sa 1 rfl (PZ (d:=.bool true) 1 rfl (CZ r R) rfl (Qs.cast (WS (a:=.list []) (b:=.list []) (EvO.fz<|EvO.cast (Gi (xs:=mR r R) (enc:=eRw) (h:=eRw) (p:=λg=>decide (g.want<0)||(decide ((g.last:Int)<=(t:Int))&&decide (g.want > 0))) (Ja<|Qq rfl) (by rw[Bn];lia) ?lc)<|by rw[List.filter_eq_nil_iff.mpr λg hg=>by rw[nf g hg];decide];rfl) (EvO.fz<|V4 (ds:=[]) Z9<|by decide) J J)<|by rw[J7 J]))) ⟨rfl,rfl⟩
  case lc=>
   intro g hg c;refine⟨_,Zq,?_,λ_=>Qq rfl⟩;have eW:∀{ρ:ZbJ} {n:Int} {d:PyData} {j:Nat},ρ[j]?=some (zf<|eRw g)->atI (rwL g) n=some d->Qs K (tOp (rIx K) (Q5 j)<|tC<|.int n) ρ d:=λe h=>VL (ds:=rwL g) (Qq e) Q6 h;exact Ga (ZA<|Vh (eW rfl rfl) Q6) (λ_=>Wz (ZA<|Vh (eW rfl rfl)<|Qq rfl) λ_=>ZA<|Vh (eW rfl rfl) Q6)
def Fx(g:Gs):TF (QV g):=Bj λd a=>by
 simp only[Xe,List.mem_nil_iff,or_false]at a;rcases a with rfl|rfl|rfl|rfl|rfl<;>exact G0 rfl
def Fn(y:Yd):TF (QJ y):=Bj λd a=>by
 simp only[Xe,List.mem_nil_iff,or_false]at a;rcases a with rfl|rfl
 .exact G0 rfl
 .refine Bj λd a=>?_
  obtain⟨l,_,rfl⟩:=XL.mp a;refine Bj λd a=>?_;simp only[Xe,List.mem_nil_iff,or_false]at a;rcases a with rfl|rfl
  .cases l.up<;>exact G0 rfl
  .refine Bj λd a=>?_
   obtain⟨b,_,rfl⟩:=XL.mp a;exact G0 rfl
def Fk{y:Yd}(b:∀k∈ms,Bd k):HTF (hT y n gs gv [] ms):=by
 refine⟨Fn y,λd i=>?_,λa h=>(nomatch h),λk f a h=>?_⟩
 .obtain⟨g,_,rfl⟩:=XL.mp i;exact Fx g
 .obtain⟨_,n,_,e⟩:=b k f a h;rw[e];exact G0 rfl
def IS{y:Yd}(f:y.Ok)(j:∀x∈gs,G30 y x)(h0:∀k,k<gs.length->0<=rsT gs gv [] k)(g:t<y.T)(b:WO y (Qy<|mT t gs gv []) φ):
 ∀l,l<y.ls.length->ZN y gs.length (λk=>(gs.getD k default).line) (QS (Qy<|mT t gs gv []) φ t) l<=Z3 y l t:=λl h=>by
 have n:(Qy<|mT t gs gv []).m=gs.length:=Vs t gs gv [];have a:=b.1.load f (Bp<|Gf j h0) g h;have e:ZN y gs.length (λk=>(gs.getD k default).line) (QS (Qy<|mT t gs gv []) φ t) l=ZN y (Qy<|mT t gs gv []).m (Qy<|mT t gs gv []).ln (QS (Qy<|mT t gs gv []) φ t) l:=by
  unfold ZN;rw[n];refine Zi λk i=>?_
  have m:(Qy<|mT t gs gv []).ln k=(gs.getD k default).line:=by
   show((mT t gs gv []).getD k default).line=_
   rw[YC i];rfl
  rw[m]
 rw[e];exact a
def mRs(gs:List Gs)(gv:Ql):(ZI gs<|rsT gs gv []).map PyData.list=(mR gs gv).map eRw:=SL gs gv
def WW:Qp ["_law_script","_law_yard_here","_law_hand","_law_rows","_law_k","_law_guest_here","_law_turn","_law_cell"] ["_law_script"] (Q4 WR):=by walk_at"p"
def CC{f:Addr}(T:Bl mg)(UH:HandC K CH)(F:Fun K "law" "law" WR f fd)(u:QE P w K mg base "_law_cell_at" ZaF 1 (QL (K:=K) R_cell))(U:QE P w K mg base "_law_feed" ["_law_cell"] 1 (Zr K R_feed))(Xb6:QE P w K mg base "_law_yard" ZaX 2 (spP K olP R_dyard))(Xb7:QE P w K mg base "_law_guest" Zaq 2 (spP K olP R_dguest))(Xb8:DK P w K mg base "Hand" CH ZaR 1)
(Xb9:QE P w K mg base "_law_come" ZaE 9 (WN K CH R_lcome<|X_lcome CH))(Xca:VU P w K mg base CH "turn" Zax 7 (JX K CH ct YN R_hturn<|X_hturn CH))(XbI:QE P w K mg base "_law_bound_holds" Zah 10 (GX K CH R_lbh))(Xcb:QE P w K mg base "_law_borne" Zal 1 (spB K R_lborne))(Xbj:ZC P w K mg base CH "yard_now" Zax 1 (spY CH)):
 FnOk P w K mg base CX0 11 f fd ["_law_script"] (Mi K):=by
 refine F.evLaw WW (λcdv A outer s H E ns W hl hb=>?_);have hu:=W.units;refine⟨_,(Qz (QO (i:=1) WW.nd rfl Qa<|QH Xb6 W<|Qo (QH U W<|Qo (QH u W<|Qo (pv 0)<|Qo Qw Qr) Qr) Qr)
 (Qz (QO (i:=2) WW.nd rfl Qa<|Oe Xb8 W<|Qo (pv 1) Qr)
 (Qz (QO (i:=3) WW.nd rfl Qa<|ZE Qr)
 (Qz (Vc zN rfl (by exact(Ys rfl T.range<|Qo (QP Vi Qw<|QP W3 (QH u W<|Qo (pv 0)<|Qo Qw Qr) Qw) Qr)) (Zh (i:=4) WW.nd rfl Qa) (by exact(Qz (QO (i:=5) WW.nd rfl Qa<|QH Xb7 W<|Qo (QH U W<|Qo (QH u W<|Qo (pv 0)<|Qo (QP Vi Qw<|pv 4) Qr) Qr)<|Qo (pv 1)<|Qo Qw Qr)
 (Q2<|Zo (ZG (Jv hu) (QC QD (QH Xb9 W<|Qo (pv 2)<|Qo (pv 5) Qr) Qw) Vo<|Zy _) (Q2<|Zu<|VJ zP zS zT VN (pv 3)<|Qo (WF HM (by rfl) T.list M3<|Qo (pv 5) Qr) Qr) Zp))))
 (Qz (Vc zN rfl (by exact(Ys rfl T.range<|Qo (QC QD (pv 1) Qw) Qr)) (Zh (i:=6) WW.nd rfl Qa) (by exact(Qz (Vc zN rfl (by exact(Ys rfl T.range<|Qo Qw Qr)) (Zh (i:=4) WW.nd rfl Qa) (by exact(Qz (QO (i:=7) WW.nd rfl Qa<|QH u W<|Qo (pv 0)<|Qo (QP Vi Qw<|pv 4) Qr)
 (Q2<|Zo (PW.pt<|Bc (ZG Um (QP W3 (pv 7) Qw) (pv 6)<|Zy _)<|Mp<|ZG Um (QP W3 (QP GA (QH u W<|Qo (pv 0)<|Qo Qw Qr) Qw) Qw) (pv 4)<|Zy _) (Q2<|Zo (YF<|ZF<|QH XbI W<|Qo (pv 2)<|Qo (VY Xbj UH W<|pv 2)<|Qo (pv 3)<|Qo (QH U W<|Qo (QP Vi (QP GA (pv 7) Qw)<|pv 6) Qr) Qr) (Q2<|QT YB) Zp) Zp))))
 (Q2<|Zo (YF<|ZF<|QH Xcb W<|Qo (VY Xbj UH W<|pv 2)<|Qo (pv 3)<|Qo (ZnV Xca UH W (Gc (C:=ct))<|pv 2)<|Qo (pv 6) Qr) (Q2<|QT YB) Zp))))
 (Q2<|QT<|QH XbI W<|Qo (pv 2)<|Qo (VY Xbj UH W<|pv 2)<|Qo (pv 3)<|Qo (QH U W<|Qo (QH u W<|Qo (pv 0)<|Qo Qw Qr) Qr) Qr)))))),?_⟩
 show Q3 K _ [_,_,_,_,_,_,_,_] _
 walk_at"x";refine QK (Wk (Lj (Φ:=λr=>∃y:Yd,y.Ok/\r=.fz (QJ y)) (WB (Qv (Zb (Uv rfl (Qv Q6 QA))<|R_cell.mk<|by decide) QA) R_feed.mk) QA λr X=>?_) λr X=>?_)
 .obtain⟨a,b,rfl⟩:=X;refine⟨_,_,rfl,R_dyard.mk,?_⟩;rintro r ds' ⟨y,D,_,e⟩;exact⟨y,D,e⟩
 obtain⟨y,D,rfl⟩:=X;walk_at"d";have t1:=D.t1;have t8:=D.t8;refine QK (M4 (Ez<|Qq rfl) λv=>?_);walk_at"d";refine QK (VW (V4 (ds:=[]) Z9<|by decide) ?_);walk_at"d";refine CJ 3 rfl (Cr 3 rfl λvr=>?_);walk_at"d";have n0:0<=YQ ns 1%6/\YQ ns 1%6<6:=by lia
 refine QK (V2 (ds:=Va 0 (1+YQ ns 1%6).toNat) (λi l=>∃(m:List Gs) (G u5:Option OT),m.length<=i/\(∀g∈m,G30 y g)/\(∀S,Zk y (Qy m) S<=0)/\l=[some<|.scr ns,zf<|QJ y,zo v<|QI CH<|hT y 0 m (List.replicate m.length 0) [] [],zo vr<|Z5<|m.map rwL,G,u5,none,none]) ?ei ⟨[],_,_,Xq _,(by rintro g ⟨⟩),OO D,rfl⟩ ?st ?fin)
 case ei=>exact Y3 (Qv (Z7 Q6<|ZK (Zb (Uv rfl (Qv Q6 QA))<|R_cell.mk<|by decide) Q6<|by decide) QA) (by rw[z62];lia) (by rw[z62];lia)
 case st=>
  rintro i d _ hd ⟨m,G,u5,gl,M,ns0,rfl⟩;obtain⟨hi,rfl⟩:=YI hd;have hi:i<(1+YQ ns 1%6).toNat:=hi;have l7:m.length<=7:=by lia
  refine⟨_,Zq,?_⟩;walk_at"d";rw[YK];refine QK (Wk (Lj (Φ:=λr=>∃g:Gs,G30 y g/\r=.fz (QV g)) (WB (Qv (Zb (Uv rfl (Qv (Z7 Q6<|Qq rfl) QA))<|R_cell.mk<|by lia) QA) R_feed.mk) (Qv (Qq rfl)<|Qv Q6 QA) λr X=>?_) λr X=>?_)
  .obtain⟨a,b,rfl⟩:=X;exact⟨_,_,rfl,R_dguest.mk D,λr ds' z=>z⟩
  obtain⟨g,gk,rfl⟩:=X;walk_at"d";have zl:(List.replicate m.length (0:Int)).length=m.length:=List.length_replicate;have O:∀k,k<m.length->0<=rsT m (List.replicate m.length 0) [] k:=λk Y=>by
   rw[ML];have:=(M (m.getD k default)<|by simp[Y]).ok.w1;lia
  have fin:=TW "in" (.inl rfl);have frm:=TW "room" (.inr rfl);have mz:=Pc m
  by_cases hS:∀S,Zk y (Qy<|m++[g]) S<=0
  .have lc:=R_lcome.mk (ms:=[]) D M gk zl (XQ _) O l7 (by rw[mz];exact hS);refine M6 (i:=2) (s:=λte=>Jn (Bf<|tOp _ te _) _ _) (Θ:=λd o=>d=.str "in" /\ o=.own v (QI CH<|hT y 0 (m++[g]) (List.replicate m.length 0++[0]) [] [])) (Pv rfl (Qv (Qq rfl) QA)<|.inl ⟨_,lc,?_⟩) (λ_ _ _ _ _ _ h=>h _ λ_ _ z=>z) ?_
   .rintro r N' ⟨rfl,rfl⟩;exact⟨_,_,_,rfl,rfl,rfl,rfl⟩
   rintro d w o ⟨rfl,rfl⟩ hf;cases hf;walk_at"d";refine Zt (b:=true) (Zf.cast (ZA<|WS (a:=.str "in") (b:=.str "in") VE VE fin fin)<|by rw[J7 fin]) (λ_=>?_) (by rintro⟨⟩);refine Ia rfl (HD (ds:=rwL g)<|Qq rfl) (by rw[Xl];lia) ?_;walk_at"d";have e1:List.replicate m.length (0:Int)++[0]=List.replicate (m++[g]).length 0:=by
    rw[Xn,List.length_singleton,List.replicate_succ']
   have e2:m.map rwL++[rwL g]=(m++[g]).map rwL:=by rw[XF];rfl
   rw[e1,e2];refine⟨m++[g],_,_,by rw[Xn];show m.length+1<=_;lia,λx hx=>?_,hS,rfl⟩;rcases XD.mp hx with hx|hx
   .exact M x hx
   .rw[Xh.mp hx];exact gk
  .obtain⟨S0,hS0⟩:∃S,0<Zk y (Qy<|m++[g]) S:=Classical.byContradiction λc=>hS λS=>Int.not_lt.mp λz=>c ⟨S,z⟩
   have lc:=X_lcome.mk (CH:=CH) (ms:=[]) D M gk zl (XQ _) O l7 (S:=S0) (by rw[mz];exact hS0);refine M6 (i:=2) (s:=λte=>Jn (Bf<|tOp _ te _) _ _) (Θ:=λd o=>d=.str "room" /\ o=.own v (QI CH<|hT y 0 m (List.replicate m.length 0) [] [])) (Pv rfl (Qv (Qq rfl) QA)<|.inr ⟨_,lc,?_⟩) (λ_ _ _ _ _ _ h=>h _ λ_ _ z=>z) ?_
   .rintro r ⟨v',S,_,rfl⟩;exact⟨_,_,_,_,rfl,rfl,rfl,rfl⟩
   rintro d w o ⟨rfl,rfl⟩ hf;cases hf;walk_at"d";exact Zt (b:=false) (Zf.cast (ZA<|WS (a:=.str "room") (b:=.str "in") VE VE frm fin)<|by decide +kernel) (by rintro⟨⟩) (λ_=>Zz ⟨m,_,_,by lia,M,ns0,rfl⟩)
 case fin=>
  rintro _ ⟨m,G,u5,gl,M,ns0,rfl⟩;rw[Wn]at gl;have g8:m.length<=8:=by lia
  clear gl n0;have h00:∀k,k<m.length->0<=rsT m (List.replicate m.length 0) [] k:=λk Y=>by
   rw[ML];have:=(M (m.getD k default)<|by simp[Y]).ok.w1;lia
  have ns1:∀S,Zk y (Qy<|mT 0 m (List.replicate m.length 0) []) S<=0:=by rw[Pc];exact ns0
  rw[FU m];generalize hT0:y.T=T0;have fd0:∀{ρ:ZbJ} {te:TE} {n:Int} {E':XK},Qs K te ρ (.int n)->Z2 K (Vg (Zr K R_feed) [] E'<|QF te QM) ρ (λr=>∃a b:Int,r=.ol [.int a,.int b]):=λh=>WB (Qv h QA) R_feed.mk
  have bh:∀{ρ:ZbJ} {p:Yd} {n:Nat} {B:Ql} {ms:List Zco} {t3:TE} {E':XK},ρ[2]?=some (zo v<|QI CH<|hT p n m B [] ms)->ρ[3]?=some (zo vr<|Z5<|ZI m<|rsT m B [])->Z2 K t3 ρ (λr=>∃a b:Int,r=.ol [.int a,.int b])->p.Ok->(∀x∈m,G30 p x)->B.length=m.length->(∀k,k<m.length->0<=rsT m B [] k)->n<=p.T->(∀S,Zk p (Qy<|mT n m B []) S<=0)->(∀k∈ms,Bd k)->
   BU K (Vg (GX K CH R_lbh) [] E'<|QF (Q5 2)<|QF (ZR CH "yard_now" (spY CH) [] E0 (Q5 2) QM)<|QF (Q5 3)<|QF t3 QM) ρ 2 (λd o=>d=.bool true/\∃Q:Yd,Q.Ok/\Q.T=p.T/\(∀x∈m,G30 Q x)/\(∀S,Zk Q (Qy<|mT n m B []) S<=0)/\o=.own v (QI CH<|hT Q n m B [] ms)):=
   λe2 e3 h D M vl O hn N mf=>OR (d1:=QJ _) (by decide) e2 e3 (P3 B5 e2 rfl) h (λr X=>by
    obtain⟨a,b,rfl⟩:=X;rw[mRs];refine⟨_,_,rfl,R_lbh.mk D M vl O g8 hn N,λr N' hN=>?_⟩;obtain⟨rfl,Q,ok',I,hg',R,rfl⟩:=hN;exact⟨Fk mf,_,_,rfl,rfl,rfl,Q,ok',I,hg',R,rfl⟩)
  refine QK (V2 (ds:=Va 0 T0) (λt l=>∃(p:Yd) (B:Ql) (ms:List Zco) (G u6 Z:Option OT),p.Ok/\p.T=T0/\(∀g∈m,G30 p g)/\B.length=m.length/\(∀k,k<m.length->0<=rsT m B [] k)/\(∀S,Zk p (Qy<|mT t m B []) S<=0)/\ms.length=t/\(∀k∈ms,Bd k)/\l=[some<|.scr ns,zf<|QJ y,zo v<|QI CH<|hT p t m B [] ms,zo vr<|Z5<|ZI m<|rsT m B [],G,u5,u6,Z]) ?ei2 ⟨y,_,[],_,_,_,D,hT0,M,List.length_replicate,h00,ns1,rfl,(by rintro k ⟨⟩),rfl⟩ ?st2 ?fin2)
  case ei2=>exact EvI.cast (Y3 (Qv (ZS (ds:=[PyData.int (y.T:Int),.tuple<|y.ls.map Zs]) (Qq rfl) Q6 rfl) QA) (by rw[z62];lia)<|by rw[z62];lia) (WE rfl (by lia))
  case st2=>
   rintro t d _ hd ⟨p,B,ms,G,u6,Z,D,I,M,vl,O,N,ml,mf,rfl⟩;obtain⟨J,rfl⟩:=YI hd;have J:t<p.T:=by rw[I];exact J
   refine⟨_,Zq,?_⟩;walk_at"d";rw[YK];refine QK (V2 (ds:=Va 0 4) (λ_ l=>∃(p:Yd) (G Z:Option OT),p.Ok/\p.T=T0/\(∀g∈m,G30 p g)/\(∀S,Zk p (Qy<|mT t m B []) S<=0)/\l=[some<|.scr ns,zf<|QJ y,zo v<|QI CH<|hT p t m B [] ms,zo vr<|Z5<|ZI m<|rsT m B [],G,u5,zi (t:Int),Z]) ?ei3 ⟨p,_,_,D,I,M,N,rfl⟩ ?st3 ?fin3)
   case ei3=>exact Y3 (Qv Q6 QA) (by rw[z62];lia) (by rw[z62];lia)
   case st3=>
    clear N M D I J;rintro i d _ hd ⟨p,G,Z,D,I,M,N,rfl⟩;obtain⟨hi,rfl⟩:=YI hd;refine⟨_,Zq,?_⟩;walk_at"d";rw[YK];refine QK (ZD (Zb (Uv rfl (Qv (Z7 Q6<|Qq rfl) QA))<|R_cell.mk<|by lia) ?_);walk_at"d";refine Zt (Ga (ZA<|Js (ZK (Qq rfl) Q6<|by decide)<|Qq rfl) λ_=>ZA<|Js (ZK (ZK (Zb (Uv rfl (Qv Q6 QA))<|R_cell.mk<|by decide) Q6<|cdl (by decide)<|by decide +kernel) Q6<|by decide)<|Qq rfl) (λ_=>?_) (λ_=>Zz ⟨p,_,_,D,I,M,N,rfl⟩);have tn:t<=p.T:=by
     have:t<T0 := ‹t<T0›;lia
    refine M6 (i:=2) (s:=λte=>Jn (BT<|tB te) _ _) (bh rfl rfl (fd0<|Z7 (ZK (Qq rfl) Q6<|cdl (by decide)<|by decide +kernel)<|Qq rfl) D M vl O tn N mf) (λ_ _ _ _ _ _ h=>h _ λ_ _ z=>z) ?_;rintro d w o ⟨rfl,Q,ok',eT',hg',R,rfl⟩ hf;cases hf;walk_at"d";exact Zt (b:=false) (Y0 (b:=true)<|ZJ UY) (by rintro⟨⟩) (λ_=>Zz ⟨Q,_,_,ok',eT'.trans I,hg',R,rfl⟩)
   case fin3=>
    clear N M D I J;rintro _ ⟨p,G,Z,D,I,M,N,rfl⟩;have J:t<p.T:=by
     have:t<T0 := ‹t<T0›;lia
    have t8:=D.t8;refine A9 (s:=λte=>Jn (BT<|tB te) _ _) (E9 (i:=2) (j:=3) (d1:=QJ p) (d4:=.int (t:Int)) (Θ:=λl=>∃(B:Ql) (ms:List Zco),B.length=m.length/\(∀k,k<m.length->0<=rsT m B [] k)/\(∀S,Zk p (Qy<|mT (t+1) m B []) S<=0)/\ms.length=t+1/\(∀k∈ms,Bd k)/\l=[some<|.scr ns,zf<|QJ y,zo v<|QI CH<|hT p (t+1) m B [] ms,zo vr<|Z5<|ZI m<|rsT m B [],G,u5,zi (t:Int),Z]) (by decide) (P3 B5 rfl rfl) rfl A8 rfl (R_hturn.mk D M vl J O g8<|by lia) B1 ?tn) (λ_ _ _ _ _ _ h=>h _ λ_ _ z=>z) ?_
    case tn=>
     rintro r N' ⟨φ,v3,q,rfl,rfl⟩;have L:=O7 q J;have R:=IT D M O q J N;have vl':=AR B (QS (Qy<|mT t m B []) φ t) m.length m.length;have Gm:(Qy<|mT t m B []).m=m.length:=Vs t m B [];have fn:∀k,k<m.length->0<=QS (Qy<|mT t m B []) φ t k:=λk Y=>(q.1.tak (by rw[Gm];exact Y) J).1;refine⟨_,_,_,rfl,Qq rfl,R_lborne.mk D J g8 (λk Y=>(M (m.getD k default)<|by simp[Y]).ok.ln) fn (IS D M O J q) L λk Y hl=>ZnG D M L R Y hl,_,_,vl',L,R,?_,?_,rfl⟩
     .rw[Xn,ml];rfl
     .intro k Y;rcases XD.mp Y with Y|Y
      .exact mf k Y
      .rw[Xh.mp Y];exact Ek _ _
    rintro _ ⟨gv',ms',vl',L,R,ml',mf',rfl⟩;exact Zt (b:=false) (Y0 (b:=true)<|ZJ UY) (by rintro⟨⟩) (λ_=>Zz ⟨p,gv',ms',_,_,_,D,I,M,vl',L,R,ml',mf',rfl⟩)
  case fin2=>
   rintro _ ⟨p,B,ms,G,u6,Z,D,I,M,vl,O,N,ml,mf,rfl⟩;rw[Wn]at N ml ⊢;refine M6 (i:=2) (s:=λte=>Yw te) (bh rfl rfl (fd0<|Zb (Uv rfl (Qv Q6 QA))<|R_cell.mk<|by decide) D M vl O (by lia) N mf) (λ_ _ _ _ _ _ h=>h _ λ_ _ z=>z) ?_;rintro d w o ⟨rfl,Q,_⟩ hf;cases hf;exact ZZ UY rfl
end
inductive DH(K:W.Frag)(x:Str)(st:Stmt):Prop
 |mk {f:Addr}{oc kV dc pm cd ct:Value}{od an:Qj}{sl:Array (Qf)}(a:W.nsIn K mainGlobals x=some (some<|.ref f))(l:K.lookup f=some ⟨oc,od,.func<|W.fnOf x x (YH st) (ZB st) (Q4 st) .none kV dc pm an cd ct,sl⟩)(c:W.codeIn K cd x=true)(k:W.keepIn K (.ref f)=true):DH K x st
def DH.df{x:Str}{st:Stmt}(X:K.In h)(G:h.Ns mainGlobals mg)(H:DH K x st)(g:∀(z:Value×Value×Value×Qj×Value×Value) (us:Qe),us.length=ps.length->bindArgs (W.fnOf x x (YH st) (ZB st) (Q4 st) .none z.1 z.2.1 z.2.2.1 z.2.2.2.1 z.2.2.2.2.1 z.2.2.2.2.2) ⟨us,[]⟩=pure (ps.zip us)):Df K mg x st ps:=by
 cases H with
 |mk a l c k=>exact⟨_,_,Jw l c k,W.mg_of X G a,(Jw l c k).binds λkV i b m cd j us f=>g (kV,i,b,m,cd,j) us f⟩
inductive MH(K:W.Frag)(C:Addr)(m q:Str)(st:Stmt):Prop
 |mk {f:Addr}{oc kV dc pm cd ct:Value}{od an:Qj}{sl:Array (Qf)}(a:W.findIn K (.ref C) m=some (some<|.ref f))(i:W.isFn K (.ref f)=true)(l:K.lookup f=some ⟨oc,od,.func<|W.fnOf m q (YH st) (ZB st) (Q4 st) .none kV dc pm an cd ct,sl⟩)(c:W.codeIn K cd q=true)(k:W.keepIn K (.ref f)=true):MH K C m q st
def MH.mf{q:Str}{st:Stmt}(H:MH K C m q st)(g:∀(z:Value×Value×Value×Qj×Value×Value) (us:Qe),us.length=ps.length->bindArgs (W.fnOf m q (YH st) (ZB st) (Q4 st) .none z.1 z.2.1 z.2.2.1 z.2.2.2.1 z.2.2.2.2.1 z.2.2.2.2.2) ⟨us,[]⟩=pure (ps.zip us)):Mf K C m q st ps:=by
 cases H with
 |mk a i l c k=>exact⟨_,_,Jw l c k,⟨a,i,k⟩,(Jw l c k).binds λkV h b n cd j us f=>g (kV,h,b,n,cd,j) us f⟩
@[elab_as_elim] theorem ln1{α:Type}{p:List α->Prop}{us:List α}(h:us.length=1)(k:∀a0,p [a0]):p us:=by
 match us,h with
 |[a0],_=>exact k a0
@[elab_as_elim] theorem ln2{α:Type}{p:List α->Prop}{us:List α}(h:us.length=2)(k:∀a0 a1,p [a0,a1]):p us:=by
 match us,h with
 |[a0,a1],_=>exact k a0 a1
@[elab_as_elim] theorem ln3{α:Type}{p:List α->Prop}{us:List α}(h:us.length=3)(k:∀a0 a1 a2,p [a0,a1,a2]):p us:=by
 match us,h with
 |[a0,a1,a2],_=>exact k a0 a1 a2
@[elab_as_elim] theorem ln4{α:Type}{p:List α->Prop}{us:List α}(h:us.length=4)(k:∀a0 a1 a2 a3,p [a0,a1,a2,a3]):p us:=by
 match us,h with
 |[a0,a1,a2,a3],_=>exact k a0 a1 a2 a3
def ZvD   {fa d k:Addr}(X:K.In h)(G:h.Ns mainGlobals mg)(hfa:mg "law"=some (.ref fa))
{cg f:Addr}
{CH:Addr}
{r CR O:Addr}{odR anR:Qj}{slR:Array (Qf)}{kVR dcR pmR cdR ctR:Value}
{l p n:Addr}{od45 c od62 an62 od63 an63 dS dE:Qj}{sl45 sl62 Z slS slE:Array (Qf)}{oc45 E M D m N oc62 kV62 dc62 pm62 Y ct62 oc63 kV63 dc63 pm63 R ct63:Value}{tS tE nS nE:Nat}
(aC:W.nsIn K mainGlobals "Net"=some (some<|.ref C))
(aH:W.nsIn K mainGlobals "Hand"=some (some<|.ref CH))
(h0:DH K "is_whole" Na)
(h1:DH K "is_whole_within" NI)
(h2:DH K "is_amount" KS)
(h3:DH K "is_tuple_of" N8)
(h4:DH K "is_guest" KZ)
(h5:DH K "turns_of" Nc)
(h6:DH K "line_count" Nt)
(h7:DH K "above_of" KY)
(h8:DH K "bound_at" Nj)
(h9:DH K "line_of" K9)
(h10:DH K "is_there" KF)
(h11:DH K "want_of" K5)
(h12:DH K "most_of" K6)
(h13:DH K "with_want" Nx)
(h14:DH K "staying_from" NF)
(h15:DH K "with_bound" Nr)
(h16:DH K "guest_node" No)
(h17:DH K "line_node" Nz)
(h18:DH K "lay_guest" N3)
(h19:DH K "lay_turn" Ni)
(h20:DH K "filled_net" Nv)
(h21:DH K "takes_by" MU)
(h22:DH K "greatest_filling" Ds)
(h23:DH K "guests_reached" Dn)
(h24:DH K "reaching_at" Dq)
(h25:DH K "given_at" Nn)
(h26:DH K "given_most" Di)
(h27:DH K "short_of" MW)
(h28:DH K "best_filling" NG)
(h29:DH K "lacking_set" NA)
(h30:DH K "refuse_lack" NC)
(h31:DH K "_law_cell_at" NE)
(h32:DH K "_law_feed" KO)
(h33:DH K "_law_digit" Nq)
(h34:DH K "_law_yard" N0)
(h35:DH K "_law_guest" Dd)
(h36:DH K "_law_passes" N9)
(h37:DH K "_law_short" Db)
(h38:DH K "_law_shows" Np)
(h39:DH K "_law_all_kept" BN)
(h40:DH K "_law_come" BH)
(h41:DH K "_law_set" Nb)
(h42:DH K "_law_with" KU)
(h43:DH K "_law_bound_holds" NK)
(h44:DH K "_law_borne" De)
(a45:W.nsIn K mainGlobals "law"=some (some<|.ref l))
(l45:K.lookup l=some ⟨oc45,od45,.func<|W.fnOf "law" "law" (YH WR) (ZB WR) (Q4 WR) .none E M D c m N,sl45⟩)
(c45:W.codeIn K m "law"=true)
(k45:W.keepIn K (.ref l)=true)
(m46:MH K C "lay" "Net.lay" KC)
(m47:MH K C "lay_one" "Net.lay_one" NB)
(m48:MH K C "flow" "Net.flow" Nh)
(m49:MH K C "reached" "Net.reached" N7)
(m50:MH K C "push" "Net.push" MT)
(m51:MH K C "fill" "Net.fill" Nk)
(m52:MH K C "way_to" "Net.way_to" Nu)
(m53:MH K CH "now" "Hand.now" Nf)
(m54:MH K CH "come" "Hand.come" KQ)
(m55:MH K CH "turn" "Hand.turn" KR)
(m56:MH K CH "rest" "Hand.rest" Nw)
(m57:MH K CH "set_bound" "Hand.set_bound" Dl)
(m58:MH K CH "yard_now" "Hand.yard_now" N6)
(m59:MH K CH "still_there" "Hand.still_there" NJ)
(m60:MH K CH "refuse_past" "Hand.refuse_past" NH)
(m61:MH K CH "refuse_number" "Hand.refuse_number" NL)
(a62:W.findIn K (.ref C) "__init__"=some (some<|.ref p))
(i62:W.isFn K (.ref p)=true)
(l62:K.lookup p=some ⟨oc62,od62,.func<|W.fnOf "__init__" "Net.__init__" (YH GJ) (ZB GJ) (Q4 GJ) .none kV62 dc62 pm62 an62 Y ct62,sl62⟩)
(c62:W.codeIn K Y "Net.__init__"=true)
(k62:W.keepIn K (.ref p)=true)
(a63:W.findIn K (.ref CH) "__init__"=some (some<|.ref n))
(i63:W.isFn K (.ref n)=true)
(l63:K.lookup n=some ⟨oc63,od63,.func<|W.fnOf "__init__" "Hand.__init__" (YH GH) (ZB GH) (Q4 GH) .none kV63 dc63 pm63 an63 R ct63,Z⟩)
(c63:W.codeIn K R "Hand.__init__"=true)
(k63:W.keepIn K (.ref n)=true)
(pg:W.plainGet K C Str.empty=true)
(hd:W.hasDictIn K C=true)
(po:W.plainOver K C=true)
(sa:W.findIn K (.ref C) "__setattr__"=some (some<|.builtin "object.__setattr__"))
(mk:W.makesIn K C=true)
(kc:W.keepIn K (.ref C)=true)
(Hpg:W.plainGet K CH Str.empty=true)
(Hhd:W.hasDictIn K CH=true)
(Hpo:W.plainOver K CH=true)
(Hsa:W.findIn K (.ref CH) "__setattr__"=some (some<|.builtin "object.__setattr__"))
(Hmk:W.makesIn K CH=true)
(Hkc:W.keepIn K (.ref CH)=true)
(Hn0:W.findIn K (.ref CH) "yard"=some none)
(Hn1:W.findIn K (.ref CH) "present"=some none)
(Hn2:W.findIn K (.ref CH) "known"=some none)
(Hn3:W.findIn K (.ref CH) "given"=some none)
(Hn4:W.findIn K (.ref CH) "gone"=some none)
(Hn5:W.findIn K (.ref CH) "made"=some none)
(n0:W.findIn K (.ref C) "ends"=some none)
(n1:W.findIn K (.ref C) "rooms"=some none)
(n2:W.findIn K (.ref C) "leaving"=some none)
(n3:W.findIn K (.ref C) "laid"=some none)
(aS:W.nsIn K mainGlobals "START"=some (some<|.ref d))
(lS:K.lookup d=some ⟨.type "tuple",dS,.seq #[.str "start" tS] nS,slS⟩)
(aE:W.nsIn K mainGlobals "END"=some (some<|.ref k))
(lE:K.lookup k=some ⟨.type "tuple",dE,.seq #[.str "end" tE] nE,slE⟩)
(rC:W.nsIn K mainGlobals "NoRoom"=some (some<|.ref CR))
(rY:W.nsIn K mainGlobals "YardError"=some (some<|.ref r))
(rf:W.findIn K (.ref CR) "__init__"=some (some<|.ref O))
(rl:K.lookup O=some ⟨.type "function",odR,.func<|W.fnOf "__init__" "NoRoom.__init__" (YH GI) (ZB GI) (Q4 GI) .none kVR dcR pmR anR cdR ctR,slR⟩)
(rc:W.codeIn K cdR "NoRoom.__init__"=true)
(rk:W.keepIn K (.ref O)=true)
(rx:Hr K CR O=true)
(rg:W.specialIn K (.ref r) "__getattribute__"=some (some<|.builtin "type.__getattribute__"))
(rr:W.readsIn K r (.type "type")=true)
(ri:W.findCls K (.ref r) (.type "type") "__init__"=some (.val<|.builtin "ValueError.__init__"))
(rs:W.findIn K (.ref CR) "__setattr__"=some (some<|.builtin "object.__setattr__"))
(ro:((W.clsIn K CR).any λcd=>WZ cd.mro)=true)
(xa0:W.nsIn K mainGlobals "NoGuest"=some (some<|.ref cg))
(S:W.nsIn K mainGlobals "NoTime"=some (some<|.ref f))
(xe:W.exmOne K (.ref CR) (.ref r)=some true)
(xp:W.findIn K (.ref CR) "__getattribute__"=some (some<|.builtin "BaseException.__getattribute__"))
(xn:W.findIn K (.ref CR) "some"=some none)
(xq:W.findIn K (.ref CR) "__getattr__"=some none)
(xb:W.mroIn K CR (.type "BaseException")=some true)
(xc:W.findIn K (.ref CR) "__class__"=some (some<|.builtin "object.__class__"))
(xs:W.specialIn K (.builtin "object.__class__") "__get__"=some (some<|.builtin "getset_descriptor.__get__"))
(xt:W.takesIn K (.builtin "object.__class__")=some true)
(xm:W.mroIn K CR (.type "object")=some true)
(xk1:W.kitOne K (.ref CR) (.ref CR)=some true)
(xk2:W.kitOne K (.ref CR) (.type "ValueError")=some true)
(xk3:W.kitOne K (.ref CR) (.ref cg)=some false)
(xk4:W.kitOne K (.ref CR) (.ref f)=some false)
(rd:W.hasDictIn K CR=true)
(rt:W.takerIn K CR "some"=some none)
(rK:W.keepIn K (.ref CR)=true)
(tx:Hn K f=true)
(tK:W.keepIn K (.ref f)=true)
(otr:W.kitOne K (.ref f) (.ref CR)=some false)
(te:W.exmOne K (.ref f) (.ref r)=some true)
(tp:W.findIn K (.ref f) "__getattribute__"=some (some<|.builtin "BaseException.__getattribute__"))
(tq:W.findIn K (.ref f) "__getattr__"=some none)
(tb:W.mroIn K f (.type "BaseException")=some true)
(td:W.hasDictIn K f=true)
(tcl:W.findIn K (.ref f) "__class__"=some (some<|.builtin "object.__class__"))
(tm:W.mroIn K f (.type "object")=some true)
(tk1:W.kitOne K (.ref f) (.ref f)=some true)
(tk2:W.kitOne K (.ref f) (.type "ValueError")=some true)
(z0:W.nsIn K mainGlobals "abs"=some none)
(z1:W.nsIn K mainGlobals "len"=some none)
(z2:W.nsIn K mainGlobals "max"=some none)
(z3:W.nsIn K mainGlobals "min"=some none)
(z4:W.nsIn K mainGlobals "sum"=some none)
(z5:W.nsIn K mainGlobals "any"=some none)
(z6:W.nsIn K mainGlobals "all"=some none)
(z7:W.nsIn K mainGlobals "isinstance"=some none)
(z8:W.nsIn K mainGlobals "int"=some none)
(z9:W.nsIn K mainGlobals "bool"=some none)
(z10:W.nsIn K mainGlobals "list"=some none)
(z11:W.nsIn K mainGlobals "tuple"=some none)
(z12:W.nsIn K mainGlobals "range"=some none)
(z13:W.nsIn K mainGlobals "zip"=some none)
(z14:W.nsIn K mainGlobals "enumerate"=some none)
(z15:W.nsIn K mainGlobals "dict"=some none)
(z16:W.nsIn K mainGlobals "ValueError"=some none)
(z17:W.nsIn K mainGlobals "sorted"=some none)
(z18:W.nsIn K mainGlobals "set"=some none)
 : (∃d k,W.nsIn K mainGlobals "START"=some (some<|.ref d)/\W.nsIn K mainGlobals "END"=some (some<|.ref k)/\KTup K d "start" /\ KTup K k "end")/\∃fd:FuncData,(∀(s:Shared) (v:Value),BindsTo s fd ⟨[v],[]⟩ [("_law_script",v)])/\∀base:Heap,K.In base->base.Ns mainGlobals mg->FnOk P w K mg base CX0 11 fa fd ["_law_script"] (Mi K):=by
 have e:=hfa.symm.trans (W.mg_of X G a45);cases e;have T:Bl mg:=⟨W.mg_none_of X G z0,W.mg_none_of X G z1,W.mg_none_of X G z2,W.mg_none_of X G z3,W.mg_none_of X G z4,W.mg_none_of X G z5,W.mg_none_of X G z6,W.mg_none_of X G z7,W.mg_none_of X G z8,W.mg_none_of X G z9,W.mg_none_of X G z10,W.mg_none_of X G z11,W.mg_none_of X G z12,W.mg_none_of X G z13,W.mg_none_of X G z14,W.mg_none_of X G z15,W.mg_none_of X G z16,W.mg_none_of X G z17,W.mg_none_of X G z18⟩;have U:Tx K mg C d k:=⟨⟨⟨pg,hd,po,sa⟩,n0,n1,n2,n3⟩,W.mg_of X G aS,W.mg_of X G aE,aS,aE⟩;have g:HandC K CH:=⟨⟨Hpg,Hhd,Hpo,Hsa⟩,Hn0,Hn1,Hn2,Hn3,Hn4,Hn5⟩;have Q:XC K mg "NoRoom" r CR O:=⟨Ce rx rl rfl rg rr ri,rK,W.mg_of X G rC⟩;have XA:NT K mg r CR cg f:=⟨xe,W.mg_of X G rY,⟨⟨xp,xq,xb⟩,rd⟩,xn,⟨⟨xp,xq,xb⟩,rd,xc,xs,xt,xm⟩,xk1,xk2,xk3,xk4,W.mg_of X G xa0,W.mg_of X G S⟩;have Xcc:=Jw (st:=GI) rl rc rk;have j:=Xcc.binds (ps:=ZaQ) λ_ _ _ _ _ _ b a=>ln2 a λ_ _=>rfl;have XZ:NS K mg "NoTime" f:=⟨FV tx,tK,W.mg_of X G S⟩;have XO:LL K CR f:=⟨otr⟩;have XY:LO K mg r f:=⟨te,W.mg_of X G rY,⟨⟨tp,tq,tb⟩,td,tcl,xs,xt,tm⟩,tk1,tk2⟩;have Xcf:=Jw (st:=WR) l45 c45 k45;have Xcd:=Jw (st:=GJ) l62 c62 k62;have L:=Xcd.binds (ps:=Zax) λ_ _ _ _ _ _ b a=>ln1 a λ_=>rfl;have Xce:=Jw (st:=GH) l63 c63 k63;have B:=Xce.binds (ps:=ZaR) λ_ _ _ _ _ _ b a=>ln2 a λ_ _=>rfl;refine⟨⟨d,k,aS,aE,⟨_,_,_,_,lS⟩,⟨_,_,_,_,lE⟩⟩,W.fnOf "law" "law" (YH WR) (ZB WR) (Q4 WR) .none E M D c m N,λs v=>.of_eq rfl,λbase _ _=>?_⟩;have Xbo:=Aw (P:=P) (w:=w) (base:=base) T (h31.df X G λ_ b a=>ln2 a λ_ _=>rfl);have Xbw:=An (P:=P) (w:=w) (base:=base) T (h32.df X G λ_ b a=>ln1 a λ_=>rfl);have J:=Et (P:=P) (w:=w) (base:=base) T (h33.df X G λ_ b a=>ln2 a λ_ _=>rfl);have Xb6:=Ix T (h34.df X G λ_ b a=>ln1 a λ_=>rfl) J;have Xb7:=O8 T (h35.df X G λ_ b a=>ln3 a λ_ _ _=>rfl) J;have Xb8:DK P w K mg base "Hand" CH ZaR 1:=⟨_,_,⟨Hmk,a63,i63,Hkc⟩,W.mg_of X G aH,B,Af (P:=P) (w:=w) (base:=base) T g Xce⟩;have XbX:=Ic (P:=P) (w:=w) (base:=base) T (h3.df X G λ_ b a=>ln2 a λ_ _=>rfl);have XbW:=ZmI (P:=P) (w:=w) (base:=base) T (h0.df X G λ_ b a=>ln1 a λ_=>rfl);have H:=OA T (h1.df X G λ_ b a=>ln3 a λ_ _ _=>rfl) XbW;have z:=Io (P:=P) (w:=w) (base:=base) T (h6.df X G λ_ b a=>ln1 a λ_=>rfl);have i:=Iv (P:=P) (w:=w) (base:=base) T (h5.df X G λ_ b a=>ln1 a λ_=>rfl);have XbB:=Zlv T (h2.df X G λ_ b a=>ln2 a λ_ _=>rfl) H;have XbC:=ZmP T (h4.df X G λ_ b a=>ln2 a λ_ _=>rfl) XbX H z i XbB;have A:=Ev (P:=P) (w:=w) (base:=base) T g XZ (m60.mf λ_ b a=>ln2 a λ_ _=>rfl);have XbN:DF P w K mg base "Net" C 1:=⟨_,_,⟨mk,a62,i62,kc⟩,W.mg_of X G aC,L,Co (P:=P) (w:=w) (base:=base) T U Xcd⟩;have Xbx:=Ax (P:=P) (w:=w) (base:=base) T U (m47.mf λ_ b a=>ln4 a λ_ _ _ _=>rfl);have Xbn:=Fy T U (m46.mf λ_ b a=>ln4 a λ_ _ _ _=>rfl) Xbx;have o:=CL (P:=P) (w:=w) (base:=base) T (h11.df X G λ_ b a=>ln1 a λ_=>rfl);have u:=Ii (P:=P) (w:=w) (base:=base) T (h16.df X G λ_ b a=>ln1 a λ_=>rfl);have Xbr:=Iw (P:=P) (w:=w) (base:=base) T (h10.df X G λ_ b a=>ln2 a λ_ _=>rfl);have Xbs:=AA (P:=P) (w:=w) (base:=base) T (h12.df X G λ_ b a=>ln1 a λ_=>rfl);have I:=E1 (P:=P) (w:=w) (base:=base) T (h17.df X G λ_ b a=>ln2 a λ_ _=>rfl);have t:=ZnQ (P:=P) (w:=w) (base:=base) T (h9.df X G λ_ b a=>ln1 a λ_=>rfl);have XbO:=OS T U (h18.df X G λ_ b a=>ln4 a λ_ _ _ _=>rfl) Xbn o u i Xbr Xbs I t;have x:=Oi (P:=P) (w:=w) (base:=base) T (h8.df X G λ_ b a=>ln3 a λ_ _ _=>rfl);have q:=IJ (P:=P) (w:=w) (base:=base) T (h7.df X G λ_ b a=>ln2 a λ_ _=>rfl);have XbP:=EL T U (h19.df X G λ_ b a=>ln3 a λ_ _ _=>rfl) Xbn x I z q;have Xbp:=Zm5 (P:=P) (w:=w) (base:=base) T U (m49.mf λ_ b a=>ln2 a λ_ _=>rfl);have XbL:=CO (P:=P) (w:=w) (base:=base) T U (m50.mf λ_ b a=>ln2 a λ_ _=>rfl);have XbM:=Cy (P:=P) (w:=w) (base:=base) T U (m52.mf λ_ b a=>ln3 a λ_ _ _=>rfl);have XbQ:=AD T U (m51.mf λ_ b a=>ln3 a λ_ _ _=>rfl) Xbp XbL XbM;have Xbt:=Oz T U (h20.df X G λ_ b a=>ln2 a λ_ _=>rfl) XbN XbO i XbP XbQ;have XbU:=Zlm T U (h23.df X G λ_ b a=>ln2 a λ_ _=>rfl) Xbt Xbp u;have Xby:=Aj T (h29.df X G λ_ b a=>ln2 a λ_ _=>rfl) XbU;have XbJ:=Zle T (h24.df X G λ_ b a=>ln4 a λ_ _ _ _=>rfl) z Xbr t Xbs q x;have XbK:=Il T (h25.df X G λ_ b a=>ln4 a λ_ _ _ _=>rfl) XbJ x;have XbV:=OU T (h26.df X G λ_ b a=>ln3 a λ_ _ _=>rfl) i XbK;have Xbz:=E7 T (h27.df X G λ_ b a=>ln3 a λ_ _ _=>rfl) o XbV;have XbA:DV P w K mg base O ZaQ 1 (B4 K CR "some"):=⟨_,j,Zn8 (P:=P) (w:=w) (base:=base) T Xcc Q.cl ⟨rs,ro,rd⟩ rt<|W.mg_of X G rY⟩;have F:=OB T Q (h30.df X G λ_ b a=>ln2 a λ_ _=>rfl) Xby Xbz XbA;have XbZ:=Ey (P:=P) (w:=w) (base:=base) T (h13.df X G λ_ b a=>ln2 a λ_ _=>rfl);have Xb0:=A6 (P:=P) (w:=w) (base:=base) T (h14.df X G λ_ b a=>ln2 a λ_ _=>rfl);have XbY:=AM T g (m61.mf λ_ b a=>ln2 a λ_ _=>rfl) H;have Xb1:=Iy T g (m56.mf λ_ b a=>ln2 a λ_ _=>rfl) XbY o;have y:=OC T g (m59.mf λ_ b a=>ln1 a λ_=>rfl) XbZ Xb0 Xb1;have XbE:=EM T g Q (m54.mf λ_ b a=>ln2 a λ_ _=>rfl) XbC A F y;have Xb9:=EY T g Q XA (h40.df X G λ_ b a=>ln2 a λ_ _=>rfl) XbE;have XbR:=AG (P:=P) (w:=w) (base:=base) T U (m48.mf λ_ b a=>ln3 a λ_ _ _=>rfl);have XbS:=E8 T U (h21.df X G λ_ b a=>ln4 a λ_ _ _ _=>rfl) i XbR I t u;have XbT:=E5 T U (h22.df X G λ_ b a=>ln2 a λ_ _=>rfl) Xbt XbS;have XbD:=AH T (h28.df X G λ_ b a=>ln2 a λ_ _=>rfl) XbT;have Xca:=EU T g (m55.mf λ_ b a=>ln1 a λ_=>rfl) A i XbD y;have Xb4:=IH (P:=P) (w:=w) (base:=base) T (h42.df X G λ_ b a=>ln4 a λ_ _ _ _=>rfl);have Xbq:=El T (h15.df X G λ_ b a=>ln4 a λ_ _ _ _=>rfl) q;have XbF:=Ad T g Q (m57.mf λ_ b a=>ln4 a λ_ _ _ _=>rfl) A Xbq F y;have Xb2:=Oy T g (m57.mf λ_ b a=>ln4 a λ_ _ _ _=>rfl) A Xbq F y;have XbG:=EO T g Q XA XY XO (h41.df X G λ_ b a=>ln4 a λ_ _ _ _=>rfl) XbF Xb2;have Xbv:=Ar (P:=P) (w:=w) (base:=base) T g (m53.mf λ_ b a=>ln1 a λ_=>rfl);have Xbj:=Iu (P:=P) (w:=w) (base:=base) T g (m58.mf λ_ b a=>ln1 a λ_=>rfl);have Xb3:=En (P:=P) (w:=w) (base:=base) T (h36.df X G λ_ b a=>ln4 a λ_ _ _ _=>rfl);have Xbu:=CI T (h37.df X G λ_ b a=>ln4 a λ_ _ _ _=>rfl) Xb3;have Xb5:=Ip T (h39.df X G λ_ b a=>ln3 a λ_ _ _=>rfl) Xbu;have XbH:=IU T (h38.df X G λ_ b a=>ln4 a λ_ _ _ _=>rfl) Xbu;have XbI:=Ca T g (h43.df X G λ_ b a=>ln4 a λ_ _ _ _=>rfl) J Xb4 XbG Xbv Xbj Xb5 XbH;have Xcb:=IN (P:=P) (w:=w) (base:=base) T (h44.df X G λ_ b a=>ln4 a λ_ _ _ _=>rfl);exact CC T g Xcf Xbo Xbw Xb6 Xb7 Xb8 Xb9 Xca XbI Xcb Xbj
end My
namespace PySem.W.Fast
def tw11000134444374856622:=Nat
def tw1864760583188064069:=Nat
def tw7130817541867842628:=Nat
def tw14746321803640817145:=Nat
def tw17469532630042786031:=Nat
def tw10689233197118137605:=Nat
def tw12912887417829897909:=Nat
def tw3306265940690410853:=Nat
def tw13513888819741867700:=Nat
def tw7061636185269911947:=Nat
def tw3470529525338700467:=Nat
def tw13267308423258064338:=Nat
def tw11451955237201007283:=Nat
def tw10195734077947658990:=Nat
def tw17404285977259241733:=Nat
def tw180411656602372191:=Nat
def tw13720845787448935761:=Nat
def tw16980323187067545683:=Nat
def tw6859644865256835327:=Nat
def tw12542128078513986497:=Nat
def tw11770327185883060958:=Nat
def tw16067790197979124335:=Nat
def tw17735556028450724076:=Nat
def tw2231184167243278800:=Nat
def tw4104241134481406230:=Nat
def tw3226528009132739820:=Nat
def tw2348099237661051910:=Nat
def tw4486623606267403730:=Nat
def tw15024810443333397019:=Nat
def tw11450073511404665437:=Nat
def tw12181478437127470212:=Nat
def tw8568529670416258025:=Nat
def tw12065521012390979730:=Nat
def tw17532626215214045268:=Nat
def tw11756113703861661427:=Nat
def tw10428136616545213651:=Nat
def tw10422122798862268040:=Nat
def tw16576170497746927911:=Nat
def tw2878771205038201780:=Nat
def tw12557853821073295678:=Nat
def tw15091546135899719422:=Nat
def tw15265944098368094672:=Nat
def tw14276344248941294537:=Nat
def tw2329907876951580202:=Nat
def tw14682624252039205617:=Nat
def tw16725622719081775535:=Nat
def tw15380971723937898445:=Nat
def tw17647155150056814174:=Nat
def tw17019153421718651147:=Nat
def tw17302705720806821957:=Nat
def tw4544144203497781736:=Nat
def tw16540414410713159227:=Nat
def tw6566328948034819471:=Nat
def tw17948353853682578327:=Nat
def tw9304977384390136648:=Nat
def tw15508324734009142612:=Nat
def tw9481568062194344714:=Nat
def tw18355870953315142208:=Nat
def tw2217000242655878793:=Nat
def tw3103548277522542027:=Nat
def tw14532806544342651399:=Nat
def tw10602489177441856316:=Nat
def tw15269938781900008477:=Nat
def tw5183569763070953370:=Nat
def tw10373887034565209040:=Nat
def tw13889561466150248277:=Nat
def tw8918064276490155012:=Nat
def tw18081240811646040734:=Nat
def tw4719821090209447999:=Nat
def tw5912819966853314738:=Nat
def tw5133771097226267268:=Nat
def tw9709363672164523128:=Nat
def tw1535885673634341535:=Nat
def tw12315622392966434746:=Nat
def tw9470533198705705899:=Nat
def tw1302032222607223634:=Nat
def tw9611360168001757564:=Nat
def tw13843508626960630645:=Nat
def tw5481691208570997557:=Nat
def tw15554336111469165704:=Nat
def tw14195245911149812037:=Nat
def tw18141927196205144262:=Nat
def tw17084116139230796354:=Nat
def tw4718096166647129834:=Nat
def tw11865134021139845040:=Nat
def tw3799380293515404197:=Nat
def tw7470252299375922194:=Nat
def tw6913920690743189092:=Nat
def tw4951897541918057197:=Nat
def tw13606625921232014980:=Nat
def tw2153688701615922131:=Nat
def tw15064241495224681828:=Nat
def tw17442566623837343031:=Nat
def tw3044144544696292668:=Nat
def tw14584094131385813194:=Nat
def tw16447894553407769885:=Nat
def tw6467686311845057770:=Nat
def tw11879196042065843753:=Nat
def tw17099057563435686756:=Nat
def tw828555737662686693:=Nat
def tw5043439538920006187:=Nat
def tw1445406695947807760:=Nat
def tw755540608705092587:=Nat
def tw10959045592025069582:=Nat
def tw9188741348092919413:=Nat
def tw252678997472393390:=Nat
def tw1019629764995184247:=Nat
def tw1017181542352694212:=Nat
def tw5774795943870653061:=Nat
def tw14550749919091113409:=Nat
def tw13168353049241667711:=Nat
def tw2385812412160360494:=Nat
def tw858062725465991893:=Nat
def tw7367374758902537509:=Nat
def tw4183446980905903609:=Nat
def tw12910395345811552740:=Nat
def tw2740955119966920920:=Nat
def tw1742128373370491209:=Nat
def tw14619587878500654282:=Nat
def tw15703308253345490852:=Nat
def tw12112140802028987838:=Nat
def tw11419528766247296769:=Nat
def tw12765847014997160283:=Nat
def tw13207831030877668794:=Nat
def tw10003810626929522803:=Nat
def tw15090539008250055579:=Nat
def tw17229747374642140269:=Nat
def tw12926654260864280110:=Nat
def tw60886820112386198:=Nat
def tw6895650971834751532:=Nat
def tw7453169964143084123:=Nat
def tw12120471390471629877:=Nat
def tw5234479575071589566:=Nat
def tw3098207848953254384:=Nat
def tw9716297014924474005:=Nat
def tw15576177720758048541:=Nat
def tw14557098068466892973:=Nat
def tw6174240407410684715:=Nat
def tw17121411134905529627:=Nat
def tw7308252366018241535:=Nat
def tw8930430045877716006:=Nat
def tw8285590288174324404:=Nat
def tw6362367273814964890:=Nat
def tw13528789827278842644:=Nat
def tw1038644818214980443:=Nat
def tw6997530158870968924:=Nat
def tw2872526673808207513:=Nat
def tw10781108537888180623:=Nat
def tw7855329583083498721:=Nat
def tw11990272272756745361:=Nat
def tw15615230595100677589:=Nat
def tw6900341104106687915:=Nat
def tw7170821368363147615:=Nat
def tw1012753475735096429:=Nat
def tw15788474772841053837:=Nat
def tw17400287171946756457:=Nat
def tw10853035319506044399:=Nat
def tw5453872410336825899:=Nat
def tw9256977761363587763:=Nat
def tw4561264951671698511:=Nat
def tw17846311033285792193:=Nat
def tw4395067222826858303:=Nat
def tw12160580303958873272:=Nat
def tw11050919732520808812:=Nat
def tw5116594909059759937:=Nat
def tw8137722724738213716:=Nat
def tw18328178350023671864:=Nat
def tw18066828328597635507:=Nat
def tw8331438927343905883:=Nat
def tw5533566477933437835:=Nat
def tw7604485436166388644:=Nat
def tw11109565393802067241:=Nat
def tw11634538597171150789:=Nat
def tw18389747547106301546:=Nat
def tw15492664902956656545:=Nat
def tw15380767172613730445:=Nat
def tw14250960366493800127:=Nat
def tw13406553068770035796:=Nat
def tw5026167940644849392:=Nat
def tw6816506701431246074:=Nat
def tw8255182964697058771:=Nat
def tw15697298232535543061:=Nat
def tw12839798957298379609:=Nat
def tw9422907453529073691:=Nat
def tw6557432217397433792:=Nat
def tw14764705564467916606:=Nat
def tw13596277484447763845:=Nat
def tw3117652059082094810:=Nat
def tw16852710400221377957:=Nat
def tw6569041830962743646:=Nat
def tw4782441449145463572:=Nat
def tw6674013931651698553:=Nat
def tw4492071083840637936:=Nat
def tw14259565095032567590:=Nat
def tw14003296173368020125:=Nat
def tw4773509507433660216:=Nat
def tw3064180718231059492:=Nat
def tw14315879795914908537:=Nat
def tw4648943382038975725:=Nat
def tw8100025212595209472:=Nat
def tw5771818559641167549:=Nat
def tw11459538590634544400:=Nat
def tw5372661419488889969:=Nat
def tw17717479615487106437:=Nat
def tw3782994302351851962:=Nat
def tw13074349203900405106:=Nat
def tw10445779375464955541:=Nat
def tw7968391928002540266:=Nat
def tw12412361936678867628:=Nat
def tw17463765052331337202:=Nat
def tw14935346566041862728:=Nat
def tw7505960019125162227:=Nat
def tw435561823516121621:=Nat
def tw3531284121805185392:=Nat
def tw16315320864274586794:=Nat
def tw11984519592750870378:=Nat
def tw2317154508883960630:=Nat
def tw1968866120776780663:=Nat
end PySem.W.Fast
open PySem PySem.W PyProof.Rows
set_option maxRecDepth 100000 in
set_option maxHeartbeats 0 in
theorem PySem.Challenge.cw_chargeyard_k64_bounds_set_holds : PySem.Challenge.rw_chargeyard_k64_bounds_set.Holds := by
 w_on; o_law; k_head; (case hw=>w_witness2)
 k_fill
 refine L2.Zp2 (l:=PySem.Challenge.rw_chargeyard_k64_bounds_set) (k:=11) (x := "_law_script") rfl rfl ⟨rfl,by decide,by decide⟩ (λw h Y=>W.kIn_of Y) ?F
 case F=>
  intro w mg fa h KX G hmg
  refine' My.ZvD KX G hmg ?aC ?aH ?h0 ?h1 ?h2 ?h3 ?h4 ?h5 ?h6 ?h7 ?h8 ?h9 ?h10 ?h11 ?h12 ?h13 ?h14 ?h15 ?h16 ?h17 ?h18 ?h19 ?h20 ?h21 ?h22 ?h23 ?h24 ?h25 ?h26 ?h27 ?h28 ?h29 ?h30 ?h31 ?h32 ?h33 ?h34 ?h35 ?h36 ?h37 ?h38 ?h39 ?h40 ?h41 ?h42 ?h43 ?h44 ?a45 ?l45 ?c45 ?k45 ?m46 ?m47 ?m48 ?m49 ?m50 ?m51 ?m52 ?m53 ?m54 ?m55 ?m56 ?m57 ?m58 ?m59 ?m60 ?m61 ?a62 ?i62 ?l62 ?c62 ?k62 ?a63 ?i63 ?l63 ?c63 ?k63 ?pg ?hd ?po ?sa ?mk ?kc ?Hpg ?Hhd ?Hpo ?Hsa ?Hmk ?Hkc ?Hn0 ?Hn1 ?Hn2 ?Hn3 ?Hn4 ?Hn5 ?n0 ?n1 ?n2 ?n3 ?aS ?lS ?aE ?lE ?rC ?rY ?rf ?rl ?rc ?rk ?rx ?rg ?rr ?ri ?rs ?ro ?xa0 ?xa1 ?xe ?xp ?xn ?xq ?xb ?xc ?xs ?xt ?xm ?xk1 ?xk2 ?xk3 ?xk4 ?rd ?rt ?rK ?tx ?tK ?otr ?te ?tp ?tq ?tb ?td ?tcl ?tm ?tk1 ?tk2 ?z0 ?z1 ?z2 ?z3 ?z4 ?z5 ?z6 ?z7 ?z8 ?z9 ?z10 ?z11 ?z12 ?z13 ?z14 ?z15 ?z16 ?z17 ?z18
  case aC | aH | a45 | l45 | c45 | k45 | a62 | i62 | l62 | c62 | k62 | a63 | i63 | l63 | c63 | k63 | pg | hd | po | sa | mk | kc | Hpg | Hhd | Hpo | Hsa | Hmk | Hkc | Hn0 | Hn1 | Hn2 | Hn3 | Hn4 | Hn5 | n0 | n1 | n2 | n3 | aS | lS | aE | lE | rC | rY | rf | rl | rc | rk | rg | rr | ri | rs | xa0 | xa1 | xp | xn | xq | xb | xc | xs | xt | xm | rd | rt | rK | tK | tp | tq | tb | td | tcl | tm | z0 | z1 | z2 | z3 | z4 | z5 | z6 | z7 | z8 | z9 | z10 | z11 | z12 | z13 | z14 | z15 | z16 | z17 | z18=>k_is
  case xk1 | xk2 | xk3 | xk4 | otr | tk1 | tk2=>kit_is
  case xe | te=>kts_exm
  case h0 | h1 | h2 | h3 | h4 | h5 | h6 | h7 | h8 | h9 | h10 | h11 | h12 | h13 | h14 | h15 | h16 | h17 | h18 | h19 | h20 | h21 | h22 | h23 | h24 | h25 | h26 | h27 | h28 | h29 | h30 | h31 | h32 | h33 | h34 | h35 | h36 | h37 | h38 | h39 | h40 | h41 | h42 | h43 | h44=>
   refine' My.DH.mk ?a ?l ?c ?k
   case a | l | c | k=>k_is
  case m46 | m47 | m48 | m49 | m50 | m51 | m52 | m53 | m54 | m55 | m56 | m57 | m58 | m59 | m60 | m61=>
   refine' My.MH.mk ?a ?i ?l ?c ?k
   case a | i | l | c | k=>k_is
  case rx | ro | tx=>with_unfolding_all exact Eq.refl true
end
end
