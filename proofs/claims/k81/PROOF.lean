import PyProof.Rows.All
import Wide.All
import OpenK.AllK
import Lean
import PySem.Challenge.RW_chargeyard_k81_rows_of_no_desk
noncomputable section
local macro_rules|`(#[])=>`(by lia)|`(#[$x])=>`(⟨$x⟩)|`(#[$x,$y,*])=>`(⟨$x,$y,*⟩)
set_option Elab.async false
set_option linter.all false
set_option maxRecDepth 100000
set_option maxHeartbeats 4000000
set_option compiler.extract_closed false
set_option genSizeOf false
section
open PySem PySem.Spec PyProof.Rows
def Qa{b:Sort _}{a:b}{q:Prop}:a=a\/q:=Or.inl rfl
def zP:=@PySem.F.plainAttrs_list
def zS:=@PySem.F.slot_list_append
def zT:=@PySem.F.type_list_append
def zN:=@PassesOwn.never
abbrev Qb:=Value->Shared->Prop
abbrev Qc:=List (Addr×Obj)
abbrev Qd:=List PyData
abbrev Qe:=List Value
abbrev Qf:=Option Value
abbrev Qg:=List Addr
abbrev Qh:=List Str
abbrev Zaa:Qh:=["self","number"]
abbrev Zab:Qh:=["yard","guests"]
abbrev Zac:Qh:=["hand","word","numbers"]
abbrev Zad:Qh:=["_law_yard_here","_law_guests","_law_rows","_law_above","_law_bounds","_law_word","_law_guest_here"]
abbrev Zae:Qh:=["self","start","end","room"]
abbrev Zaf:Qh:=["net","yard","number","guest"]
abbrev Zag:Qh:=["yard","guests","some"]
abbrev Zah:Qh:=["words"]
abbrev Zai:Qh:=["yard","guests","some","turn"]
abbrev Zaj:Qh:=["_law_feed_here","_law_yard_here","_law_now","_law_first","_law_last","_law_line","_law_scale","_law_want"]
abbrev Zak:Qh:=["thing","least","end"]
abbrev Zal:Qh:=["self"]
abbrev Zam:Qh:=["_law_feed_here","_law_yard_here","_law_now"]
abbrev Zan:Qh:=["self","start","end"]
abbrev Zao:Qh:=["thing","turns"]
abbrev Zap:Qh:=["guest","turn"]
abbrev Zaq:Qh:=["_law_feed_here","_law_many"]
abbrev Zar:Qh:=["yard","line","turn"]
abbrev Zas:Qh:=["yard","guests","some","turn","reaching","number","guest","line"]
abbrev Zat:Qh:=["self","row"]
abbrev Zau:Qh:=["guest"]
abbrev Zav:Qh:=["thing","length"]
abbrev Zaw:Qh:=["_law_yard_here","_law_guests"]
abbrev Zax:Qh:=["hand","line","turn","bound"]
abbrev Zay:Qh:=["_law_cell","_law_yard_here"]
abbrev Zaz:Qh:=["_law_script","_law_k"]
abbrev ZaA:Qh:=["thing","line","turns"]
abbrev ZaB:Qh:=["_law_desk","_law_row_here"]
abbrev ZaC:Qh:=["yard"]
abbrev ZaD:Qh:=["number"]
abbrev ZaE:Qh:=["_law_desk","_law_many"]
abbrev ZaF:Qh:=["line","turn"]
abbrev ZaG:Qh:=["number","guest","net","yard"]
abbrev ZaH:Qh:=["thing","least"]
abbrev ZaI:Qh:=["yard","thing"]
abbrev ZaJ:Qh:=["self","edges","end"]
abbrev ZaK:Qh:=["_law_above","_law_bounds"]
abbrev ZaL:Qh:=["yard","line"]
abbrev ZaM:Qh:=["net","yard","turn"]
abbrev ZaN:Qh:=["self","some"]
abbrev ZaO:Qh:=["self","yard"]
abbrev ZaP:Qh:=["self","turn"]
abbrev ZaQ:Qh:=["self","start"]
abbrev ZaR:Qh:=["thing","line"]
abbrev ZaS:Qh:=["guest","want"]
abbrev ZaT:Qh:=["self","guest"]
abbrev ZaU:Qh:=["rows","place"]
abbrev ZaV:Qh:=["hand","guest"]
abbrev ZaW:Qh:=["rows","yard","guests"]
abbrev ZaX:Qh:=["_law_feed_here"]
abbrev ZaY:Qh:=["thing"]
abbrev ZaZ:Qh:=["line","part","turns"]
abbrev Zba:Qh:=["word"]
abbrev Zbb:Qh:=["self","text"]
abbrev Zbc:Qh:=["parts"]
abbrev Qi:=List Expr
abbrev Qj:=Option Addr
abbrev Qk:=List Nat
abbrev Ql:=List Int
abbrev Qm:=Nat->Bool
abbrev Qn:=Nat->Int
def Xa:=@wpAny_bind
def Xb:=@List.mem_cons_self
def Xc:=@List.mem_cons
def Xd:=@Heap.get?_push_of_some
def Xe:=@List.mem_cons_of_mem
def Xf:=@List.length_map
def Xg:=@if_neg
def Xh:=@List.getElem?_eq_some_iff
def Xi:=@if_pos
def Xj:=@List.mem_singleton
def Xk:=@Heap.lt_size
def Xl:=@Nat.le_trans
def Xm:=@wpAny_pure
def Xn:=@Nat.le_refl
def Xo:=@List.mem_map
def Xp:=@List.length_append
def Xq:=@List.mem_append
def Xr:=@List.size_toArray
def Xs:=@Nat.ne_of_lt
def Xt:=@Heap.get?_push_size
def Xu:=@absurd
def Xv:=@List.map_cons
def Xw:=@List.append_nil
def Xx:=@List.map_append
def Xy:=@List.getElem?_map
def Xz:=@congrArg
def XA:=@Bool.false_ne_true
def XB:=@List.map_map
def XD:=@decide_eq_false
def XF:=@Nat.lt_of_lt_of_le
def XH:=@decide_eq_true
def XI:=@Nat.add_le_add
def XJ:=@List.not_mem_nil
def XM:=@List.nodup_cons
def XN:=@Nat.zero_le
def XS:=@List.getElem?_eq_getElem
def XT:=@List.length_cons
def XV:=@Heap.get?_update_other
def XW:=@List.getElem?_set_self
def XX:=@List.lookup_cons
def XY:=@List.getElem?_set_ne
def X4:=@List.mem_append_right
def X5:=@Int.toNat_natCast
def X6:=@List.mem_range
def X7:=@List.getElem_mem
def X8:=@Nat.ne_of_gt
def X9:=@Heap.size_push
def Ja:=@Heap.get?_update_self
def WD:=@Int.toNat_of_nonneg
def Uh:=@List.getElem?_append_left
def Y7:=@Nat.lt_irrefl
def WC:=@of_decide_eq_true
def WB:=@Bool.and_eq_true
def WA:=@List.range_succ
def W9:=@Option.map_some
def GP:=@List.getElem?_append_right
def GO:=@List.getD_eq_getElem?_getD
def YN:=@wpAny_field
def Ug:=@List.map_congr_left
def WZ:=@Int.emod_nonneg
def Wr:=@Nat.le_of_lt
def J7:=@Nat.lt_succ_self
def J6:=@List.all_eq_true
def J5:=@List.take_length
def J4:=@List.cons_append
def UP:=@List.mem_iff_getElem
def Uf:=@Nat.lt_succ_of_lt
def Ue:=@Option.isSome_map
def GN:=@List.length_singleton
def UO:=@Int.emod_lt_of_pos
def GM:=@List.mem_append_left
def Ud:=@List.take_succ
def Ma:=@Option.map_eq_some_iff
def GU:=@List.filter_append
def Ml:=@List.length_filter_le
def GT:=@List.append_assoc
def Ui:=@Int.zero_add
def Mj:=@List.length_pos_iff
def Mi:=@List.flatMap_append
def Hb:=@Int.eq_ofNat_of_zero_le
def US:=@List.sum_cons
def GS:=@List.mem_filter
def Mh:=@Nat.lt_of_le_of_lt
def Mg:=@of_decide_eq_false
def Me:=@wpAny_setField_rec
def Md:=@List.nodup_append
def UR:=@Int.lt_trans
def Ha:=@List.pairwise_flatMap
def UQ:=@Int.le_refl
def DZ:=@List.filter_eq_self
def Mc:=@Bool.eq_iff_iff
def DY:=@Bool.false_eq_true
def DX:=@Int.lt_of_le_of_lt
def Mb:=@List.nodup_nil
def DW:=@Heap.get?_push_at
def GR:=@Nat.le_succ
def GQ:=@Int.mul_sub
def DV:=@List.length_take
def DU:=@List.filter_cons
def Hc:=@List.mem_flatMap
end
namespace L2
open PySem PySem.Spec PyProof.Rows
abbrev Key:=Sum Int Str
def Gk:Key->Value->Bool
 |.inl k,v=>Value.isInt k v
 |.inr x,v=>Value.isStrOf x v
def C7(w:World):Key->Int
 |.inl k=>hashInt k
 |.inr x=>hashStr w x
theorem W6:∀{k:Key} {v:Value},Gk k v=true->(∃i t,k=Sum.inl i/\v=Value.int i t)\/(∃x t,k=Sum.inr x/\v=Value.str x t)
 |.inl i,v,h=>by
  obtain⟨t,e⟩:=Value.isInt_shape h;exact .inl #[i,t,rfl,e]
 |.inr x,v,h=>by
  obtain⟨t,e⟩:=Value.isStrOf_shape h;exact .inr #[x,t,rfl,e]
def ZpP(i:Int)(t:Tok):Gk (.inl i) (.int i t)=true:=by simp[Gk,Value.isInt]
def ZpQ(x:Str)(t:Tok):Gk (.inr x) (.str x t)=true:=by simp[Gk,Value.isStrOf]
def AM(a b:Int):decide ((Sum.inl a:Key)=Sum.inl b)=(a==b):=by
 grind
def Es(a b:Str):decide ((Sum.inr a:Key)=Sum.inr b)=decide (a=b):=by
 simp_all
def Av(a:Int)(b:Str):decide ((Sum.inl a:Key)=Sum.inr b)=false:=XD (by rintro⟨⟩)
def Eo(a:Str)(b:Int):decide ((Sum.inr a:Key)=Sum.inl b)=false:=XD (by rintro⟨⟩)
noncomputable def V6(prog:Program)(w:World):PySem.KeyKind prog w Key where
 is:=Gk
 hash:=C7 w
 inj:=λv a b l f=>by
  rcases W6 l with ⟨i,t,rfl,rfl⟩|⟨x,t,rfl,rfl⟩
  .rcases W6 f with ⟨j,u,rfl,e⟩|⟨y,u,rfl,e⟩
   .injection e with c _;rw[c]
   .exact nomatch e
  .rcases W6 f with ⟨j,u,rfl,e⟩|⟨y,u,rfl,e⟩
   .exact nomatch e
   .injection e with c _;rw[c]
 byValue:=λk v h=>by
  rcases W6 h with ⟨i,t,rfl,rfl⟩|⟨x,t,rfl,rfl⟩<;>rfl
 pyHash:=λd h=>by
  rcases W6 d with ⟨i,t,rfl,rfl⟩|⟨x,t,rfl,rfl⟩
  .exact wpAny_pyHash_int h
  .exact wpAny_pyHash_str h
 eqBool:=λg d h=>by
  rcases W6 g with ⟨i,t,rfl,rfl⟩|⟨x,t,rfl,rfl⟩
  .rcases W6 d with ⟨j,u,rfl,rfl⟩|⟨y,u,rfl,rfl⟩
   .rw[AM]at h;exact wpAny_eqBool_int h
   .rw[Av]at h;exact SeqAt.EqAt.int_str i t y u _ _ _ _ h
  .rcases W6 d with ⟨j,u,rfl,rfl⟩|⟨y,u,rfl,rfl⟩
   .rw[Eo]at h;exact SeqAt.EqAt.str_int x t j u _ _ _ _ h
   .rw[Es]at h;exact wpAny_eqBool_str h
 «strs» := λk x t v h=>by
  rcases W6 h with ⟨i,u,rfl,e⟩|⟨y,u,rfl,e⟩
  .exact nomatch e
  .injection e with c _;subst c;cases v<;>rfl
def Zll(prog:Program)(w:World)(i:Int)(t:Tok):(V6 prog w).is (.inl i) (.int i t)=true:=ZpP i t
def ZlU(prog:Program)(w:World)(x:Str)(t:Tok):(V6 prog w).is (.inr x) (.str x t)=true:=ZpQ x t
end L2
open PySem PySem.Spec PyProof.Rows
variable {P prog:Program}{h h':Heap}{Y:Qc}{s s0:Shared}{X3 UH hpos np E pos':Pos}{tg:Expr}{A:Around}{K:W.Frag}{C CH Xa1 f0:Addr}{f m nm q qual:Str}{es:Qi}{fd:FuncData}{ps sn:Qh}{mg:Str->Qf}{env:Env}{i j:Nat}{g:Array GenState}{bm S1:Qe}{ab T1:Bool}{col:Option Bool}{dd:Qj}{k0 k1 k2 k3 k5:Qf}{B initId newId:String}{M:Model}{scope:Scope}{cd:Value}{outer:List Env}{ds:Qd}{body suite:List Stmt}{b0:Stmt}{rest:List ExceptHandler}
namespace L2
inductive V where
 |non|bl (b:Bool)|int (i:Int)|str (x:Str)|byt (b:Array UInt8)|flt (b:UInt64)|ref (a:Addr)|ty (n:String)
 deriving DecidableEq
def QR:V->Value->Prop
 |.non,u=>u=Value.none
 |.bl b,u=>u=Value.bool b
 |.int i,u=>∃t,u=Value.int i t
 |.str x,u=>∃t,u=Value.str x t
 |.byt b,u=>∃t,u=Value.bytes b t
 |.flt b,u=>∃t,u=Value.float b t
 |.ref a,u=>u=Value.ref a
 |.ty n,u=>u=Value.type n
abbrev Za:List V->Qe->Prop:=Paired QR
def Za.length(r:Za xs us):xs.length=us.length:=Paired.length r
theorem Za.get:∀{xs:List V} {us:Qe} {i:Nat} {x:V},Za xs us->xs[i]?=some x->∃u,us[i]?=some u/\QR x u
 |_,_,_,_,.nil,e=>by simp at e
 |_,_,0,_,.cons r _,e=>by simp at e;subst e;exact#[_,rfl,r]
 |_,_,i+1,x,.cons _ t,e=>by
  obtain⟨u,g,f⟩:=Za.get t (by simpa using e);exact#[u,by simpa using g,f]
theorem Za.set{x:V}{u:Value}(r:QR x u):∀{xs:List V} {us:Qe} (i:Nat),Za xs us->Za (xs.set i x) (us.set i u)
 |_,_,_,.nil=>.nil
 |_,_,0,.cons _ t=>.cons r t
 |_,_,i+1,.cons q t=>.cons q (Za.set r i t)
theorem Za.append:∀{xs ys:List V} {us ws:Qe},Za xs us->Za ys ws->Za (xs++ys) (us++ws)
 |_,_,_,_,.nil,s=>s
 |_,_,_,_,.cons r t,s=>.cons r (Za.append t s)
theorem Za.take:∀{xs:List V} {us:Qe} (n:Nat),Za xs us->Za (xs.take n) (us.take n)
 |_,_,0,_=>.nil
 |_,_,_+1,.nil=>.nil
 |_,_,n+1,.cons r t=>.cons r (Za.take n t)
theorem Za.drop:∀{xs:List V} {us:Qe} (n:Nat),Za xs us->Za (xs.drop n) (us.drop n)
 |_,_,0,r=>r
 |_,_,_+1,.nil=>.nil
 |_,_,n+1,.cons _ t=>Za.drop n t
def Vk:Option V->Qf->Prop
 |some v,some u=>QR v u
 |none,none=>True
 |_,_=>False
def KV{f:Type}:List (f×V)->List (f×Value)->Prop:=Paired λ(p:f×V) (q:f×Value)=>p.1=q.1/\QR p.2 q.2
def kV:Key->V
 |.inl i=>.int i
 |.inr x=>.str x
inductive HO where
 |lst (xs:List V)
 |tup (xs:List V)
 |dK (kvs:List (Key×V))|dT (kvs:List (List Key×V))
 |set (S:Int->Bool)(n:Nat)
 |ins (C D:Addr)(fs:List (Str×V))
 |own (x:Addr)
 |xd (fs:List (Str×V))
 |met (f x:Addr)
 |rng (lo hi:Int)
 |frz (o:Obj)(u:HO)
 |tbl (ps:Array Value)
 |ext (φ:Heap->Prop)
abbrev Hp:=Addr->Option HO
noncomputable def upd(H:Hp)(a:Addr)(o:HO):Hp:=λb=>if b=a then some o else H b
def QG : upd H a o a=some o:=by unfold upd;rw[Xi rfl]
def Qu{b:Addr}(h:b≠a):upd H a o b=H b:=by unfold upd;rw[Xg h]
def SE{H:Hp}{a b:Addr}{o u:HO}(h:H a=some o)(h':H b=some u)(d:o≠u):a≠b:=by
 intro e;subst e;rw[h]at h';exact d (Option.some.inj h')
def Z7{H:Hp}{a b:Addr}{o:HO}(h:H a=some o)(h':H b=none):a≠b:=by
 grind
def Ul:1<=1000:=by decide
def Su:2<=1000:=by decide
section
variable (P:Program)(w:World)
def ZT(H:Hp)(h:Heap)(a:Addr):HO->Prop
 |.lst j=>j.length<=sizeLine/\∃(i:Qe) (n:Nat),Za j i/\h.get? a=some { cls:=.type "list",data:=.seq i.toArray n }
 |.tup j=>j.length<=sizeLine/\∃i:Qe,Za j i/\IsTup h a i.toArray
 |.dK g=>g.length<=sizeLine/\(a==sysModules)=false/\∃B,KV g B/\h.DictOf (V6 P w) a B
 |.dT g=>g.length<=sizeLine/\(a==sysModules)=false/\∃j:List (List Key×Addr×Value),
  Paired (λ(p:List Key×V) (q:List Key×Addr×Value)=>p.1=q.1/\H q.2.1=some (.tup<|p.1.map kV)/\QR p.2 q.2.2) g j/\
  ∃o es b,h.get? a=some o/\o.ExactDict/\o.data=.dict es b/\es.toList=j.map (entryOfKey<|tupleKind<|V6 P w)/\(j.map (·.1)).Nodup
 |.set S n=>h.SetOf (intKind P w) a S n
 |.ins C D s=>H D=some (.own a)/\s.length<=1000/\D≠a/\h.get? a=some (W.instObj C D)/\
  ∃m,h.Ns1 D m/\(∀f,Vk (s.lookup f)<|m f)/\PySem.Within m (s.map (·.1))
 |.own _=>∃o,h.get? a=some o
 |.xd s=>∃m,h.Ns1 a m/\∀f,Vk (s.lookup f) (m f)
 |.rng M Y=>∃t u v,h.get? a=some { cls:=.type "range",data:=.fields (List.toArray [.int M t,.int Y u,.int 1 v]) }
 |.frz o u=>h.get? a=some o/\ZT H h a u
 |.tbl ps=>h.get? a=some { cls:=.none,data:=.fields ps }
 |.met f x=>h.get? a=some (W.methodObj (.ref f)<|.ref x)
 |.ext A=>A h/\(∃o,h.get? a=some o)/\∀K E:Heap,A K->(∀o,K.get? a=some o->E.get? a=some o)->A E
def HOk(H:Hp)(h:Heap):Prop := ∀a o,H a=some o->ZT P w H h a o
end
section
variable {w:World}{H U:Hp}{a:Addr}{o:HO}
def ZT.lt(x:ZT P w H h a o):a<h.objs.size:=by
 cases o with
 |lst i=>obtain⟨_,_,_,_,e⟩:=x;exact Xk e
 |tup i=>obtain⟨_,_,_,p⟩:=x;exact p.lt
 |dK g=>obtain⟨_,_,_,_,o,_,_,e,_⟩:=x;exact Xk e
 |dT g=>obtain⟨_,_,_,_,o,_,_,e,_⟩:=x;exact Xk e
 |set S n=>obtain⟨o,_,_,_,e,_⟩:=x;exact Xk e
 |ins C D j=>obtain⟨_,_,_,e,_⟩:=x;exact Xk e
 |own y=>obtain⟨_,e⟩:=x;exact Xk e
 |xd j=>obtain⟨_,⟨_,_,_,e,_⟩,_⟩:=x;exact Xk e
 |rng s A=>obtain⟨_,_,_,e⟩:=x;exact Xk e
 |frz q u=>obtain⟨e,_⟩:=x;exact Xk e
 |tbl ps=>exact Xk (x)
 |met f y=>exact Xk (x)
 |ext m=>obtain⟨_,⟨_,e⟩,_⟩:=x;exact Xk e
theorem Paired.mapP{h g:Type}{F G:h->g->Prop}:∀{j:List h} {i:List g},Paired F j i->(∀a b,F a b->G a b)->Paired G j i
 |_,_,.nil,_=>.nil
 |_,_,.cons r t,f=>.cons (f _ _ r) (Paired.mapP t f)
def ZT.stay(x:ZT P w H h a o)(k:∀b u,(b=a\/H b=some (.own a))->h.get? b=some u->h'.get? b=some u)
(Y:∀b,H b=some (.own a)->U b=some (.own a))(W:∀b xs,H b=some (.tup xs)->U b=some (.tup xs)):ZT P w U h' a o:=by
 induction o with
 |lst xs=>obtain⟨z,j,n,r,e⟩:=x;exact#[z,j,n,r,k _ _ (.inl rfl) e]
 |tup xs=>obtain⟨z,j,r,g,e,c⟩:=x;exact#[z,j,r,g,k _ _ (.inl rfl) e,c]
 |dK A=>obtain⟨z,y,E,r,g,es,i,e,c⟩:=x;exact#[z,y,E,r,g,es,i,k _ _ (.inl rfl) e,c]
 |dT A=>
  obtain⟨z,y,xs,r,g,es,i,e,c⟩:=x;exact#[z,y,xs,Paired.mapP r λp q z=>#[z.1,W _ _ z.2.1,z.2.2],g,es,i,k _ _ (.inl rfl) e,c]
 |set S n=>obtain⟨g,es,i,t,e,c⟩:=x;exact#[g,es,i,t,k _ _ (.inl rfl) e,c]
 |ins C D l=>
  obtain⟨d,z,K,e,s,⟨m,es,i,F,c⟩,r⟩:=x;exact#[Y _ d,z,K,k _ _ (.inl rfl) e,s,#[m,es,i,k _ _ (.inr d) F,c],r]
 |own y=>obtain⟨g,e⟩:=x;exact#[g,k _ _ (.inl rfl) e]
 |xd l=>obtain⟨s,⟨m,es,i,e,c⟩,r⟩:=x;exact#[s,#[m,es,i,k _ _ (.inl rfl) e,c],r]
 |rng I J=>obtain⟨t,u,v,e⟩:=x;exact#[t,u,v,k _ _ (.inl rfl) e]
 |frz g u M=>obtain⟨e,q⟩:=x;exact#[k _ _ (.inl rfl) e,M q]
 |tbl ps=>
  have e:=x;exact k a _ (.inl rfl) e
 |met f y=>
  have e:=x;exact k a _ (.inl rfl) e
 |ext G=>obtain⟨p,⟨o,e⟩,B⟩:=x;exact#[B _ _ p λo q=>k _ _ (.inl rfl) q,#[o,k _ _ (.inl rfl) e],B]
def HOk.lt(x:HOk P w H h)(e:H a=some o):a<h.objs.size:=(x a o e).lt
def HOk.fresh(x:HOk P w H h)(e:h.objs.size<=a):H a=none:=by
 cases q:H a with
 |none=>rfl
 |some u=>exact Xu (XF (x.lt q) e) (Y7 _)
def HOk.kept(x:HOk P w H h)(k:∀b u,h.get? b=some u->h'.get? b=some u):HOk P w H h':=λa o e=>
 (x a o e).stay (λb u _ q=>k b u q) (λ_ q=>q) λ_ _ q=>q
def HOk.laid(x:HOk P w H h)(k:∀b u,h.get? b=some u->h'.get? b=some u)(j:h.objs.size<=a)(f:ZT P w (upd H a o) h' a o):HOk P w (upd H a o) h':=λb u e=>by
 have g:=x.fresh j
 by_cases i:b=a
 .subst i;rw[QG]at e;cases e;exact f
 .rw[Qu i]at e;exact(x b u e).stay (λc v _ q=>k c v q) (λc q=>by rw[Qu<|Z7 q g];exact q) λc m q=>by rw[Qu<|Z7 q g];exact q
end
def Rd(H:Hp)(a:Addr)(u:HO):Prop:=H a=some u\/∃o,H a=some (.frz o u)
def Rd.of(h:H a=some u):Rd H a u:=.inl h
def Rd.ok(r:Rd H a u)(x:HOk P w H h):ZT P w H h a u:=by
 rcases r with r|⟨o,r⟩
 .exact x a u r
 .obtain⟨_,q⟩:=x a _ r;exact q
def Mut:Option HO->Prop
 |some (.lst _)=>True
 |some (.dK _)=>True
 |some (.dT _)=>True
 |some (.set _ _)=>True
 |some (.ins _ _ _)=>True
 |some (.ext _)=>True
 |_=>False
section
variable {w:World}{H:Hp}{x e:Addr}{o':HO}
def HOk.write(E:HOk P w H h)(m:Mut (H x))(he:e=x\/H e=some (.own x))(k:∀b u,b≠e->h.get? b=some u->h'.get? b=some u)(A:∃u,h'.get? e=some u)
(s:ZT P w (upd H x o') h' x o'):HOk P w (upd H x o') h':=λb u q=>by
 have i:∀c y,H c=some (.own y)->c≠x:=λc y r z=>by subst z;rw[r]at m;exact m
 have g:∀c j,H c=some (.tup j)->c≠x:=λc j r z=>by subst z;rw[r]at m;exact m
 by_cases B:b=x
 .subst B;rw[QG]at q;cases q;exact s
 .rw[Qu B]at q
  by_cases f:b=e
  .have C:H b=some (.own x):=by
    rcases he with z|z
    .exact Xu (f.trans z) B
    .rw[f];exact z
   rw[q]at C;cases C;obtain⟨v,K⟩:=A;exact#[v,by rw[f];exact K]
  .refine(E b u q).stay (λc v M r=>k c v ?_ r) (λc r=>by rw[Qu<|i c b r];exact r) λc j r=>by rw[Qu<|g c j r];exact r
   grind
end
structure Un(fs ex:Qg)(H U:Hp)(h h':Heap):Prop where
 keep:∀b o,h.get? b=some o->H b=none->b∉fs->b∉ex->h'.get? b=some o
 slot:∀b o,h.get? b=some o->H b=none->b∈fs->b∉ex->∃sl,h'.get? b=some { o with slots:=sl }
 free:∀b o,h.get? b=some o->H b=none->b∉ex->U b=none
 there:∀b o,h.get? b=some o->b∉ex->∃o',h'.get? b=some o'
 tups:∀b xs,H b=some (.tup xs)->U b=some (.tup xs)
 frzs:∀b o u,H b=some (.frz o u)->U b=some (.frz o u)
 tupo:∀b xs o,H b=some (.tup xs)->h.get? b=some o->b∉ex->h'.get? b=some o
 tbls:∀b ps,H b=some (.tbl ps)->∃more,U b=some (.tbl<|ps++more)
section
variable {fs ex:Qg}{H L:Hp}{h1:Heap}{a x e:Addr}{o:HO}
def Un.any(u:Un fs ex H L h h1){b:Addr}(q:h.get? b=some ob)(n:H b=none)(a:b∉ex):∃f,h1.get? b=some { ob with slots:=f }:=by
 by_cases e:b∈fs
 .exact u.slot b ob q n e a
 .exact#[ob.slots,u.keep b ob q n e a]
def Un.kept(k:∀b u,h.get? b=some u->h'.get? b=some u):Un fs ex H H h h':=
 #[λb a q _ _ _=>k b a q,λb a q _ _ _=>#[a.slots,k b a q],λ_ _ _ n _=>n,λb a q _=>#[a,k b a q],λ_ _ q=>q,λ_ _ _ q=>q,λb _ a _ e _=>k b a e,λ_ ps q=>#[(List.toArray []),by rw[q];simp]]
def Un.refl:Un fs ex H H h h:=Un.kept λ_ _ q=>q
theorem Un.laid(k:∀b u,h.get? b=some u->h'.get? b=some u)(i:h.objs.size<=a)(hn:H a=none):Un fs ex H (upd H a o) h h' where
 keep:=λb u q _ _ _=>k b u q
 slot:=λb u q _ _ _=>#[u.slots,k b u q]
 free:=λb u q n _=>by rw[Qu<|Xs<|XF (Xk q) i];exact n
 there:=λb u q _=>#[u,k b u q]
 tups:=λb f q=>by rw[Qu<|Z7 q hn];exact q
 frzs:=λb u f q=>by rw[Qu<|Z7 q hn];exact q
 tupo:=λb _ g _ e _=>k b g e
 tbls:=λb ps q=>#[(List.toArray []),by rw[Qu<|Z7 q hn,q];simp]
def Un.write(a:Mut (H x))(he:e=x\/H e=some (.own x))(k:∀b u,b≠e->h.get? b=some u->h'.get? b=some u)(s:∃u,h'.get? e=some u):Un fs ex H (upd H x o) h h':=by
 have m:∀b,H b=none->b≠x:=λb n z=>by subst z;rw[n]at a;exact a
 have j:∀b,H b=none->b≠e:=λb n z=>by
  grind
 have f:∀b u,H b=some u->¬Mut (some u)->b≠x:=λb u q nm z=>by subst z;rw[q]at a;exact nm a
 refine#[λb u q n _ _=>k b u (j b n) q,λb u q n _ _=>#[u.slots,k b u (j b n) q],λb u q n _=>by rw[Qu<|m b n];exact n,λb u q _=>?_,
  λb i q=>by rw[Qu<|f b _ q λz=>z];exact q,λb u i q=>by rw[Qu<|f b _ q λz=>z];exact q,λb i u q A _=>k b u (λz=>by
   rcases he with r|r
   .exact f b _ q (λy=>y) (z.trans r)
   .rw[<- z,q]at r;cases r) A,λb ps q=>#[(List.toArray []),by rw[Qu<|f b _ q λz=>z,q];simp]]
 by_cases g:b=e
 .simp_all
 .exact#[u,k b u g q]
end
noncomputable def trk(h:Heap)(H:Hp):Qg:=(List.range h.objs.size).filter λa=>(H a).isSome
def JF(h:Heap)(H:Hp):Heap:=W.hideAll h (trk h H)
def ZqO(h:Heap)(H:Hp):(JF h H).objs.size=h.objs.size:=W.hideAll_size _ _
def Zs7{b:Addr}(e:h.get? b=some o)(n:H b=none):(JF h H).get? b=some o:=
 W.hideAll_get _ e λf=>by
  have q:=(GS.mp f).2;rw[n]at q;simp at q
def IE{b:Addr}(e:(JF h H).get? b=some o):h.get? b=some o/\H b=none:=by
 have f:=W.of_hideAll _ e;refine#[f,?_];cases q:H b with
 |none=>rfl
 |some x=>
  have g:b∈trk h H:=GS.mpr #[X6.mpr<|Xk f,by simp[q]];have z:(JF h H).get? b=none:=W.hideAll_none _ g
  grind
end L2
variable {xs ys:List L2.V}{c y:L2.V}{F0 H0:L2.Hp}{RR:Addr->Qj->L2.Hp->Prop}{δ:Type}{FL:Addr->L2.Hp->L2.Hp->L2.Hp->Qj->δ->Prop}
namespace L2
structure Mod(K:W.Frag)(mg:Str->Qf)(base:Heap):Prop where
 kin:K.In base
 glob:base.Ns mainGlobals mg
 blt:∃mb,base.Ns builtinsNs mb/\∀x:Str,x ≠ "__name__" -> mb x=bootBuiltins x
 nolimit:base.NoLimit
structure Cx where
 prog:Program
 w:World
 K:W.Frag
 mg:Str->Qf
 base:Heap
 A:Around
 N:Qh
 s₀:Shared
 H₀:Hp
 env:Env
 outer:List Env
 stack:List Env
 ex:Qg
 fn:Str->Bool
 calm:Bool
 pn:Qc
 xe:Qb
def frs(l:List Env):Qg:=l.filterMap (·.frame)
abbrev Cx.fs(X:Cx):Qg:=frs X.outer
def Vis(sc:Scope)(x:Str):Prop:=sc.names.lookup x=some .local\/sc.names.lookup x=some .cell\/sc.names.lookup x=some .free
def Loc(sc:Scope)(x:Str):Prop:=sc.names.lookup x=some .local\/sc.names.lookup x=some .cell
def Bb(env:Env)(h:Heap)(m:Str->Qf)(x:Str)(u:Value):Prop:=
 (env.kindOf x=some .local/\m x=some u)\/((env.kindOf x=some .cell\/env.kindOf x=some .free)/\∃c,env.cells.lookup x=some c/\h.IsCell c (some u))
structure Cx.Ok(X:Cx):Prop where
 mod:Mod X.K X.mg X.base
 kind:X.env.scope.kind=.function
 glob:X.env.globals=mainGlobals
 blt:X.env.builtins=builtinsNs
 above:X.s₀.heap.objs.size<=X.env.locals
 inj:∀x y c,X.env.cells.lookup x=some c->X.env.cells.lookup y=some c->x=y
 has:∀x,(X.env.kindOf x=some .cell\/X.env.kindOf x=some .free)->∃c,X.env.cells.lookup x=some c
 cab:∀x c,X.fn x=true->X.env.cells.lookup x=some c->X.s₀.heap.objs.size<=c
 hd:X.calm=true->X.A.handled=none
 frames:X.A.frames=some X.stack
 stk:X.stack=X.outer\/(X.stack=X.env::X.outer/\X.env.frame=some X.env.locals)
 exf:∀b∈X.ex,b≠X.env.locals/\∀x c,X.env.cells.lookup x=some c->c≠b
 bs:∀b o,X.base.get? b=some o->X.s₀.heap.get? b=some o/\(X.H₀ b=none\/∃xs,X.H₀ b=some (.tup xs))
 bsz:X.base.objs.size<=X.s₀.heap.objs.size
 noex:∀b o,X.base.get? b=some o->b∉X.ex
 exfs:∀b∈X.ex,b∉X.fs
 funs:X.s₀.heap.FunFrames X.base X.outer
 frf:∀b∈X.fs,X.H₀ b=none
structure Qt(X:Cx)(Y:Qc)(O:List (Option V))(H:Hp)(s:Shared):Prop where
 ok:X.Ok
 os:s.os=X.s₀.os
 bare:AllBare s.gens
 base:Un X.fs X.ex X.H₀ H X.s₀.heap s.heap
 loc:∃m,s.heap.Ns X.env.locals m/\∀(i:Nat) (x:Str) (v:V),X.N[i]?=some x->O[i]?=some (some v)->Vis X.env.scope x->∃u,QR v u/\Bb X.env s.heap m x u
 cell:∀x c,X.env.cells.lookup x=some c->∃v,s.heap.IsCell c v
 free:H X.env.locals=none
 freeC:∀x c,X.env.cells.lookup x=some c->H c=none
 pin:∀p∈X.pn++Y,s.heap.get? p.1=some p.2/\H p.1=none/\p.1≠X.env.locals/\p.1∉X.fs/\∀v,p.2.data≠.cell v
 hok:HOk X.prog X.w H s.heap
 len:O.length=X.N.length
section
variable {X:Cx}{O:List (Option V)}{H U:Hp}
def Cx.Ok.nofr(c:X.Ok){b:Addr}(e:X.base.get? b=some o):b∉X.fs:=λf=>by
 have:=(c.funs.mem f).1
 grind
def Qt.bs(I:Qt X Y O H s):∀b o,X.base.get? b=some o->s.heap.get? b=some o/\(H b=none\/∃xs,H b=some (.tup xs)):=λb o e=>by
 obtain⟨f,c⟩:=I.ok.bs b o e;rcases c with c|⟨xs,c⟩
 .exact#[I.base.keep b o f c (I.ok.nofr e)<|I.ok.noex b o e,.inl<|I.base.free b o f c<|I.ok.noex b o e]
 .exact#[I.base.tupo b xs o c f<|I.ok.noex b o e,.inr #[xs,I.base.tups b xs c]]
def Qt.bk(I:Qt X Y O H s):∀b o,X.base.get? b=some o->s.heap.get? b=some o:=λb o e=>(I.bs b o e).1
def Qt.mod(I:Qt X Y O H s):Mod X.K X.mg X.base:=I.ok.mod
def Qt.kIn(I:Qt X Y O H s):X.K.In s.heap:=I.ok.mod.kin.keeps I.bk
def Qt.lt(I:Qt X Y O H s):X.env.locals<s.heap.objs.size:=let ⟨_,hn,_⟩:=I.loc;hn.lt
def Qt.sz(I:Qt X Y O H s):X.s₀.heap.objs.size<=s.heap.objs.size:=Xl I.ok.above (Wr I.lt)
def Qt.nofs(I:Qt X Y O H s){a:Addr}(h:s.heap.objs.size<=a):a∉X.fs:=λf=>by
 obtain⟨_,o,c,_⟩:=I.ok.funs.mem f;exact Xu (XF (Xk c)<|Xl I.sz h) (Y7 _)
def Qt.cne(I:Qt X Y O H s):∀x c,X.env.cells.lookup x=some c->c≠X.env.locals:=λx c e z=>by
 obtain⟨v,o,i,j⟩:=I.cell x c e;obtain⟨m,⟨h,es,q,f,g,_⟩,_⟩:=I.loc
 grind
def Qt.funs(I:Qt X Y O H s):s.heap.FunFrames X.base X.outer:=by
 have i:∀l,(∀b∈frs l,b∈X.fs)->X.s₀.heap.FunFrames X.base l->s.heap.FunFrames X.base l:=by
  intro l;induction l with
  |nil=>intro _ _;trivial
  |cons env r m=>
   intro j B;obtain⟨C,⟨c,o,f,A,y,E⟩,q⟩:=B;have h:=j c (by unfold frs;rw[List.filterMap_cons,f];exact Xb);obtain⟨K,e⟩:=I.base.slot c o y (I.ok.frf c h) h λz=>I.ok.exfs c z h
   exact#[C,#[c,_,f,A,e,E],m (λb g=>j b<|by unfold frs;rw[List.filterMap_cons,f];exact Xe _ g) q]
 exact i X.outer (λ_ g=>g) I.ok.funs
def Qt.stack(I:Qt X Y O H s):s.heap.FunFrames X.base X.stack:=by
 rcases I.ok.stk with e|⟨e,f⟩
 .rw[e];exact I.funs
 .rw[e];obtain⟨m,c,_⟩:=I.loc;refine .cons (by rw[I.ok.kind];decide) f c ?_ I.funs;exact Heap.get?_none_of_le (Xl I.ok.bsz I.ok.above)
def Qt.stkSub(I:Qt X Y O H s):∀b∈frs X.stack,b∈X.env.locals::X.fs:=λb c=>by
 rcases I.ok.stk with e|⟨e,f⟩
 .rw[e]at c;exact Xe _ c
 .rw[e]at c;unfold frs at c;rw[List.filterMap_cons,f]at c;exact c
def Qt.stkFree(I:Qt X Y O H s):∀b∈frs X.stack,H b=none:=λb c=>by
 rcases Xc.mp (I.stkSub b c) with e|c
 .rw[e];exact I.free
 .obtain⟨_,o,f,_⟩:=I.ok.funs.mem c;exact I.base.free b o f (I.ok.frf b c) λz=>I.ok.exfs b z c
def Qt.step{t':Nat}{ch:Qg}(I:Qt X Y O H s)
(A:∀b∈ch,(b∈X.ex\/X.s₀.heap.objs.size<=b)/\b≠X.env.locals/\(∀x c,X.env.cells.lookup x=some c->c≠b)/\∀p∈X.pn++Y,p.1≠b)
(y:∀b o,b≠X.env.locals->b∉X.fs->b∉ch->s.heap.get? b=some o->H b=none->h'.get? b=some o)
(E:∀b o,b≠X.env.locals->b∈X.fs->b∉ch->s.heap.get? b=some o->H b=none->∃N,h'.get? b=some { o with slots:=N })(g:∀b o,b∉ch->s.heap.get? b=some o->H b=none->U b=none)
(K:∀b o,b∉ch->s.heap.get? b=some o->∃w,h'.get? b=some w)
(W:∀b xs,H b=some (.tup xs)->U b=some (.tup xs))(G:∀b o u,H b=some (.frz o u)->U b=some (.frz o u))(t:∀b ps,H b=some (.tbl ps)->∃F,U b=some (.tbl<|ps++F))
(ns:∀m,s.heap.Ns X.env.locals m->h'.Ns X.env.locals m)(Q:HOk X.prog X.w U h')(hg:AllBare g')(a:∀b xs o,b∉ch->H b=some (.tup xs)->s.heap.get? b=some o->h'.get? b=some o):
 Qt X Y O U { s with heap:=h',gens:=g',drawn:=d',toks:=t' }:=by
 have D:∀b o,X.s₀.heap.get? b=some o->b≠X.env.locals:=λb o e=>Xs (XF (Xk e) I.ok.above)
 have h:∀b o,X.s₀.heap.get? b=some o->b∉X.ex->b∉ch:=λb o e f M=>by
  rcases(A b M).1 with z|z
  .exact f z
  .exact Xu (XF (Xk e) z) (Y7 _)
 have B:∀x c,X.env.cells.lookup x=some c->∀v,s.heap.IsCell c v->h'.IsCell c v:=λx c e v ⟨o,P,R⟩=>by
  have j:=λz=>(A c z).2.2.1 x c e rfl
  by_cases Z:c∈X.fs
  .obtain⟨N,q⟩:=E c o (I.cne x c e) Z j P (I.freeC x c e);exact#[_,q,R]
  .exact#[o,y c o (I.cne x c e) Z j P<|I.freeC x c e,R]
 refine#[I.ok,I.os,hg,#[λb o e n M f=>?_,λb o e n M f=>?_,λb o e n f=>?_,λb o e f=>?_,λb xs e=>W b xs<|I.base.tups b xs e,λb o xs e=>G b o xs<|I.base.frzs b o xs e,λb xs o q e f=>a b xs o (h b o e f) (I.base.tups b xs q)<|I.base.tupo b xs o q e f,λb ps e=>?_],?_,λx c e=>?_,?_,λx c e=>?_,λp T=>?_,Q,I.len]
 .exact y b o (D b o e) M (h b o e f) (I.base.keep b o e n M f) (I.base.free b o e n f)
 .obtain⟨N,C⟩:=I.base.slot b o e n M f;obtain⟨L,J⟩:=E b _ (D b o e) M (h b o e f) C (I.base.free b o e n f);exact#[L,J]
 .obtain⟨w,C⟩:=I.base.there b o e f;exact g b w (h b o e f) C (I.base.free b o e n f)
 .obtain⟨w,C⟩:=I.base.there b o e f;exact K b w (h b o e f) C
 .obtain⟨m1,C⟩:=I.base.tbls b ps e;obtain⟨m2,J⟩:=t b _ C;exact#[m1++m2,by rw[J,Array.append_assoc]]
 .obtain⟨m,hn,hl⟩:=I.loc;refine#[m,ns m hn,λi x v C J e3=>?_];obtain⟨u,r,l⟩:=hl i x v C J e3;refine#[u,r,?_];rcases l with l|⟨k,c,e,z⟩
  .exact .inl l
  .exact .inr #[k,c,e,B x c e _ z]
 .obtain⟨v,z⟩:=I.cell x c e;exact#[v,B x c e v z]
 .obtain⟨m,⟨o,_,_,P,_⟩,_⟩:=I.loc;exact g _ o (λz=>(A _ z).2.1 rfl) P I.free
 .obtain⟨v,o,P,R⟩:=I.cell x c e;exact g c o (λz=>(A c z).2.2.1 x c e rfl) P (I.freeC x c e)
 .obtain⟨e,n,S,nf,d⟩:=I.pin p T;have j:=λz=>(A p.1 z).2.2.2 p T rfl
  exact#[y p.1 p.2 S nf j e n,g p.1 p.2 j e n,S,nf,d]
def Qt.un(I:Qt X Y O H s)(u:Un X.fs [] H U s.heap h')(f:HOk X.prog X.w U h'):Qt X Y O U { s with heap:=h',toks:=t' }:=by
 obtain⟨m,⟨o,es,M,j,r⟩,_⟩:=id I.loc;obtain⟨C,B⟩:=u.any j I.free (by simp);exact I.step (ch:=[]) (by rintro _ ⟨⟩) (λb o _ g _ e n=>u.keep b o e n g<|by simp) (λb o _ g _ e n=>u.slot b o e n g<|by simp) (λb o _ e n=>u.free b o e n<|by simp) (λb o _ e=>u.there b o e<|by simp) u.tups u.frzs u.tbls (λK A=>by
  obtain⟨E,h,i,c,y⟩:=A;rw[j]at c;cases c;exact#[_,h,i,B,y]) f I.bare (λb xs o _ q e=>u.tupo b xs o q e<|by simp)
def Qt.call(I:Qt X Y O H s)(u:Un (frs X.stack) ch H U s.heap h')(i:HOk X.prog X.w U h')(K:AllBare g')
(h:∀b∈ch,(b∈X.ex\/X.s₀.heap.objs.size<=b)/\b≠X.env.locals/\(∀x c,X.env.cells.lookup x=some c->c≠b)/\∀p∈X.pn++Y,p.1≠b):
 Qt X Y O U { s with heap:=h',gens:=g',drawn:=d',toks:=t' }:=by
 obtain⟨m,⟨o,es,d,B,r⟩,_⟩:=id I.loc;obtain⟨P,j⟩:=u.any B I.free λz=>(h _ z).2.1 rfl
 exact I.step h (λb o j M f e n=>u.keep b o e n (λz=>(Xc.mp<|I.stkSub b z).elim j M) f) (λb o _ _ f e n=>u.any e n f) (λb o f e n=>u.free b o e n f) (λb o f e=>u.there b o e f) u.tups u.frzs u.tbls (λa E=>by
  obtain⟨W,y,A,g,C⟩:=E;rw[B]at g;cases g;exact#[_,y,A,j,C]) i K (λb xs o f q e=>u.tupo b xs o q e f)
def Qt.turned(I:Qt X Y O H s)(k:∀b o,b≠it->s.heap.get? b=some o->h'.get? b=some o)(hn:H it=none)(h:it≠X.env.locals)
(C:it∈X.ex\/X.s₀.heap.objs.size<=it)(B:∀x c,X.env.cells.lookup x=some c->c≠it)(A:∀p∈X.pn++Y,p.1≠it):Qt X Y O H { s with heap:=h',toks:=t' }:=by
 have g:∀b u,H b=some u->b≠it:=λb u e z=>by rw[z,hn]at e;cases e
 refine I.step (ch:=[it]) (λb y=>?_) (λb o _ _ f e _=>k b o (λz=>f<|by simp[z]) e) (λb o _ _ f e _=>#[o.slots,k b o (λz=>f<|by simp[z]) e]) (λ_ _ _ _ n=>n)
  (λb o f e=>#[o,k b o (λz=>f<|by simp[z]) e]) (λ_ _ e=>e) (λ_ _ _ e=>e) (λb ps e=>#[(List.toArray []),by rw[e];simp]) (λm j=>?_) (λb u e=>?_) I.bare (λb _ o f _ e=>k b o (λz=>f<|by simp[z]) e)
 .have e:=by simpa using y
  subst e;exact#[C,h,B,A]
 .obtain⟨o,es,E,i,r⟩:=j;exact#[o,es,E,k _ o (Ne.symm h) i,r]
 .refine(I.hok b u e).stay (λc v f q=>k c v ?_ q) (λ_ q=>q) λ_ _ q=>q
  rcases f with z|z
  .rw[z];exact g b u e
  .exact g c _ z
def Qt.tok(I:Qt X Y O H s)(t:Nat):Qt X Y O H { s with toks:=t }:=I.un Un.refl I.hok
def Qt.kept(I:Qt X Y O H s)(k:∀b u,s.heap.get? b=some u->h'.get? b=some u):Qt X Y O H { s with heap:=h',toks:=t' }:=I.un (Un.kept k) (I.hok.kept k)
def Qt.laid{a:Addr}{o:HO}{t':Nat}(I:Qt X Y O H s)(k:∀b u,s.heap.get? b=some u->h'.get? b=some u)(f:s.heap.objs.size<=a)(c:ZT X.prog X.w (upd H a o) h' a o):
 Qt X Y O (upd H a o) { s with heap:=h',toks:=t' }:=I.un (Un.laid k f<|I.hok.fresh f) (I.hok.laid k f c)
def Qt.write(I:Qt X Y O H s)(g:Mut (H x))(he:e=x\/H e=some (.own x))(k:∀b u,b≠e->s.heap.get? b=some u->h'.get? b=some u)(c:∃u,h'.get? e=some u)
(f:ZT X.prog X.w (upd H x o) h' x o):Qt X Y O (upd H x o) { s with heap:=h',toks:=t' }:=I.un (Un.write g he k c) (I.hok.write g he k c f)
def Qt.weak(I:Qt X Y O H s)(c:σ'.length=O.length)(w:∀(i:Nat) v,σ'[i]?=some (some v)->O[i]?=some (some v)):Qt X Y σ' H s:=
 #[I.ok,I.os,I.bare,I.base,let ⟨m,hn,hl'⟩:=I.loc;#[m,hn,λi x v h g f=>hl' i x v h (w i v g) f],I.cell,I.free,I.freeC,I.pin,I.hok,c.trans I.len]
def Qt.pins_of(I:Qt X Y O H s)(h:∀p∈pins',s.heap.get? p.1=some p.2/\H p.1=none/\p.1≠X.env.locals/\p.1∉X.fs/\∀v,p.2.data≠.cell v):Qt X pins' O H s:=
 #[I.ok,I.os,I.bare,I.base,I.loc,I.cell,I.free,I.freeC,λp c=>(Xq.mp c).elim (λz=>I.pin p<|GM _ z) (h p),I.hok,I.len]
def ZrZ{N:Qh}(c:N.Nodup)(a:N[i]?=some x)(b:N[j]?=some x):i=j:=by
 obtain⟨m,g⟩:=Xh.mp a;obtain⟨h,f⟩:=Xh.mp b;exact(List.getElem_inj c).mp (g.trans f.symm)
def Qt.poke{m:Str->Qf}(I:Qt X Y O H s)(D:X.N.Nodup)(E:X.N[i]?=some x)(g:Heap.SameBut a s.heap h')(ab:X.s₀.heap.objs.size<=a)(Q:H a=none)
(K:a=X.env.locals\/(∃v,s.heap.IsCell a v)/\∃w,h'.IsCell a w)(hn:h'.Ns X.env.locals m')(t:∀(i:Nat) (x:Str) (v:V),X.N[i]?=some x->O[i]?=some (some v)->Vis X.env.scope x->∃u,QR v u/\Bb X.env s.heap m x u)
(U:∀v,ov=some v->∃u,QR v u/\Bb X.env h' m' x u)(l:∀y u,y≠x->Bb X.env s.heap m y u->Bb X.env h' m' y u):Qt X Y (O.set i ov) H { s with heap:=h',toks:=tk }:=by
 have k:∀{b o o'},X.s₀.heap.get? b=some o->s.heap.get? b=some o'->h'.get? b=some o':=λe q=>(g.2 _<|Xs<|XF (Xk e) ab).trans q;refine#[I.ok,I.os,I.bare,#[λb o e n B f=>k e<|I.base.keep b o e n B f,λb o e n B f=>(I.base.slot b o e n B f).imp λ_=>k e,I.base.free,λb o e f=>(I.base.there b o e f).imp λ_=>k e,I.base.tups,I.base.frzs,λb xs o q e f=>k e<|I.base.tupo b xs o q e f,I.base.tbls],#[m',hn,λj y v h M F=>?_],λy c e=>?_,I.free,I.freeC,λp W=>?_,λb P e=>(I.hok b P e).stay (λc L N q=>(g.2 c<|by rintro rfl;grind).trans q) (λ_ q=>q) λ_ _ q=>q,by simpa using I.len]
 .by_cases A:j=i
  .subst A;rw[E]at h;cases h;exact U _ (by grind)
  .rw[XY<|Ne.symm A]at M;obtain⟨u,r,q⟩:=t j y v h M F;exact#[u,r,l y u (λe=>A<|ZrZ D h<|e▸E) q]
 .by_cases z:c=a
  .subst z;exact K.elim (λz=>Xu z<|I.cne y c e) And.right
  .exact(I.cell y c e).imp λ_ q=>q.sameBut g z
 .obtain⟨e,n,C,nf,d⟩:=I.pin p W;refine#[(g.2 p.1 λq=>?_).trans e,n,C,nf,d];rcases K with z|⟨⟨v,o,G,J⟩,_⟩
  .exact C (q.trans z)
  .rw[q,G]at e;cases e;exact d _ J
noncomputable def Fk(I:Qt X Y O H s)(d:X.N.Nodup)(b:X.N[i]?=some x)(n:Loc X.env.scope x)(r:QR v u)
(h:∀C,Qt X Y (O.set i<|some v) H C->(∃a,Heap.SameBut a s.heap C.heap/\(a=X.env.locals\/X.env.cells.lookup x=some a))->Q () C)(o:X.fn x=true\/X.env.scope.names.lookup x=some .local:=by first|exact .inl rfl|exact .inr rfl|assumption):wpAny M A (storeName X.env x u) Q pos s:=by
 obtain⟨m,U,W⟩:=id I.loc;rcases n with g|g
 .refine wpAny_storeName_local g U (λh' K f=>?_) (by rw[I.ok.kind];rfl);refine h _ (I.poke (ov:=some v) d b f I.ok.above I.free (.inl rfl) K W (λ_ e=>by cases e;exact#[u,r,.inl #[g,by simp]]) λy u E q=>q.imp ?_<|by rintro⟨k,c,e,z⟩;exact#[k,c,e,z.sameBut f<|I.cne y c e]) #[_,f,.inl rfl];rintro⟨k,e⟩;exact#[k,by simp[E,e]]
 .have P:X.fn x=true:=o.elim id λz=>by rw[z]at g;cases g
  obtain⟨c,j⟩:=I.ok.has x (.inl g);obtain⟨t,z⟩:=I.cell x c j;refine wpAny_storeName_cell I.ok.kind g j z λh' B f=>?_;refine h { s with heap:=h' } (I.poke (ov:=some v) d b f (I.ok.cab x c P j) (I.freeC x c j) (.inr #[#[_,z],_,B]) (U.sameBut f<|Ne.symm<|I.cne x c j) W (λ_ e=>by cases e;exact#[u,r,.inr #[.inl g,c,j,B]]) λy u E q=>q.imp id ?_) #[c,f,.inr j];rintro⟨k,p,e,l⟩;exact#[k,p,e,l.sameBut f λq=>E<|I.ok.inj _ _ _ (q▸e) j]
def Dp(I:Qt X Y O H s)(m:X.N.Nodup)(g:X.N[i]?=some x)(f:Loc X.env.scope x)(r:QR v u)
(h:∀c,Qt X Y (O.set i<|some v) H c->Q () c)(j:X.fn x=true\/X.env.scope.names.lookup x=some .local:=by first|exact .inl rfl|exact .inr rfl|assumption):wpAny M A (storeName X.env x u) Q pos s:=
 Fk I m g f r (λc q _=>h c q) j
def Qt.call'(I:Qt X Y O H s)(h:s'.os=s.os)(u:Un (frs X.stack) ch H U s.heap s'.heap)(f:HOk X.prog X.w U s'.heap)(i:AllBare s'.gens)
(g:∀b∈ch,(b∈X.ex\/X.s₀.heap.objs.size<=b)/\b≠X.env.locals/\(∀x c,X.env.cells.lookup x=some c->c≠b)/\∀p∈X.pn++Y,p.1≠b):Qt X Y O U s':=by
 obtain⟨h',q,y,j,m⟩:=s';have e:=h;subst e;exact I.call u f i g
end
abbrev XK:=Value->Qj->Hp->Prop
abbrev St:=List (Option V)
abbrev VK:=V->Hp->Prop
abbrev TE:=St->Hp->VK->Prop
abbrev TT:=St->Hp->(Bool->Hp->Prop)->Prop
abbrev TA:=St->Hp->(List V->Hp->Prop)->Prop
structure Ends where
 nx:St->Hp->Prop
 rt:VK
 bk:St->Hp->Prop:=λ_ _=>False
 ct:St->Hp->Prop:=λ_ _=>False
abbrev TS:=Ends->St->Hp->Prop
def EP(X:Cx)(Y:Qc)(O:St)(Q:VK)(u:Value)(c:Shared):Prop := ∃v U,Qt X Y O U c/\QR v u/\Q v U
def TP(X:Cx)(Y:Qc)(O:St)(Q:Bool->Hp->Prop)(b:Bool)(c:Shared):Prop := ∃U,Qt X Y O U c/\Q b U
def AP(X:Cx)(Y:Qc)(O:St)(Q:List V->Hp->Prop)(us:Qe)(f:Shared):Prop := ∃c U,Qt X Y O U f/\Za c us/\Q c U
def SP(X:Cx)(Y:Qc)(h:Ends)(f:Flow)(g:Shared):Prop:=
 match f with
 |.next=>∃c U,Qt X Y c U g/\h.nx c U
 |.brk=>∃c U,Qt X Y c U g/\h.bk c U
 |.cont=>∃c U,Qt X Y c U g/\h.ct c U
 |.ret u=>∃v c U,Qt X Y c U g/\QR v u/\h.rt v U
def PE(X:Cx)(e:Expr)(t:TE):Prop:=
 ∀(Y:Qc) (s:Shared) (O:St) (H:Hp) (Q:VK),Qt X Y O H s->t O H Q->wpAny (model X.prog X.w) X.A (eval e X.env) (EP X Y O Q) X.xe s
def PT(X:Cx)(e:Expr)(t:TT):Prop:=
 ∀(Y:Qc) (s:Shared) (O:St) (H:Hp) (Q:Bool->Hp->Prop),Qt X Y O H s->t O H Q->wpAny (model X.prog X.w) X.A (isTrue e X.env<|eval e X.env) (TP X Y O Q) X.xe s
def PW(X:Cx)(e:Expr)(t:TT):Prop:=
 ∀(c:Sem Value) (Y:Qc) (s:Shared) (O:St) (H:Hp) (Q:Bool->Hp->Prop),Qt X Y O H s->t O H Q->wpAny (model X.prog X.w) X.A (isTrue e X.env c) (TP X Y O Q) X.xe s
def PW.pt(h:PW X e t):PT X e t:=h _
def PA(X:Cx)(es:Qi)(t:TA):Prop:=
 ∀(E:Pos) (Y:Qc) (s:Shared) (O:St) (H:Hp) (Q:List V->Hp->Prop),Qt X Y O H s->t O H Q->wpAny (model X.prog X.w) X.A (spliced<|backTo E<|starEach es X.env) (AP X Y O Q) X.xe s
def PS(X:Cx)(st:Stmt)(t:TS):Prop:=
 ∀(Y:Qc) (s:Shared) (O:St) (H:Hp) (c:Ends),Qt X Y O H s->t c O H->wpAny (model X.prog X.w) X.A (exec st X.env) (SP X Y c) X.xe s
def PSs(X:Cx)(st:List Stmt)(t:TS):Prop:=
 ∀(Y:Qc) (s:Shared) (O:St) (H:Hp) (c:Ends),Qt X Y O H s->t c O H->wpAny (model X.prog X.w) X.A (execs st X.env) (SP X Y c) X.xe s
def Q8{f:Type}{t:Sem f}{Q g:f->Shared->Prop}{c:Qb}(h:wpAny M A t Q c s)(i:∀a s,Q a s->g a s):wpAny M A t g c s:=wpAny_mono h i λ_ _ x=>x
end L2
variable {X:L2.Cx}{ta tc td te tv tx:L2.TE}{tA tB':L2.TT}{th:Addr->L2.TS}{E':L2.XK}
namespace L2
section
def QF(i:Nat):TE:=λO H Q=>∃v,O[i]?=some (some v)/\Q v H
def tC(v:V):TE:=λ_ H Q=>Q v H
def P5  (P:X.N[i]?=some x)(B:Vis X.env.scope x)(q:(x==("__debug__" : Str))=false:=by decide)(y:(x==("__classdict__" : Str))=false:=by decide):PE X (.Name x E) (QF i):=by
 intro Y s O H Q I h;obtain⟨v,e,h⟩:=h;obtain⟨m,C,M⟩:=I.loc;obtain⟨u,r,l⟩:=M i x v P e B;have j:EP X Y O Q u s:=#[v,H,I,r,h]
 rcases l with ⟨g,K⟩|⟨g,c,A,f⟩
 .exact wpAny_Name (wpAny_loadName_local I.ok.kind g C K j) q
 .rcases g with g|g
  .exact wpAny_Name (wpAny_loadName_cell I.ok.kind g A f j) q
  .exact wpAny_Name (wpAny_loadName_free I.ok.kind g A f j y) q
def Qw{i j E}:PE X (.Constant (.int i) j E) (tC<|.int i):=λ_ _ _ H _ I h=>wpAny_Constant_int #[.int i,H,I.tok _,#[_,rfl],h]
def YA{b j E}:PE X (.Constant (.bool b) j E) (tC<|.bl b):=λ_ _ _ H _ I h=>Constant_bool #[.bl b,H,I,rfl,h]
def MP{j E}:PE X (.Constant .none j E) (tC .non):=λ_ _ _ H _ I h=>Constant_none #[.non,H,I,rfl,h]
def QK{x j E}:PE X (.Constant (.str x) j E) (tC<|.str x):=λ_ _ _ H _ I h=>Calls.Constant_str #[.str x,H,I.tok _,#[_,rfl],h]
def Gl(X:Cx)(x:Str):Prop:=X.env.kindOf x=some .globalImplicit
def WT{c:Qb}{O:St}{H:Hp}{x:Str}{u:Value}{Q:Qb}(I:Qt X Y O H s)(g:Gl X x)(f:X.mg x=some u)(h:Q u s)
(i:(x==("__debug__" : Str))=false:=by decide):wpAny (model X.prog X.w) X.A (eval (.Name x E) X.env) Q c s:=
 Calls.Name_function_global I.ok.kind g (Calls.loadGlobal_global (by rw[I.ok.glob];exact I.mod.glob.keeps I.bk) f h) i
def Jp{c:Qb}{O:St}{H:Hp}{x:Str}{u:Value}{Q:Qb}(I:Qt X Y O H s)(i:Gl X x)(g:X.mg x=none)(f:bootBuiltins x=some u)(h:Q u s)
(hn:x ≠ "__name__" := by decide)(j:(x==("__debug__" : Str))=false:=by decide):wpAny (model X.prog X.w) X.A (eval (.Name x E) X.env) Q c s:=by
 obtain⟨y,q,m⟩:=I.mod.blt;exact Calls.Name_function_global I.ok.kind i (Calls.loadGlobal_builtin (by rw[I.ok.glob];exact I.mod.glob.keeps I.bk) g (by rw[I.ok.blt];exact q.keeps I.bk) ((m x hn).trans f) h) j
def Wn   (f:Gl X x)(c:X.mg x=some u)(r:QR v u)(g:(x==("__debug__" : Str))=false:=by decide):PE X (.Name x E) (tC v):=
 λ_ _ _ H _ I h=>WT I f c #[v,H,I,r,h] g
def Jv   (g:Gl X x)(f:X.mg x=none)(c:bootBuiltins x=some u)(r:QR v u)(hn:x ≠ "__name__" := by decide)(i:(x==("__debug__" : Str))=false:=by decide):PE X (.Name x E) (tC v):=
 λ_ _ _ H _ I h=>Jp I g f c #[v,H,I,r,h] hn i
variable {a b:Expr}{tb:TE}
def PC(X:Cx)(c:CmpOp)(a b:Expr)(t:TE):Prop:=
 ∀(Y:Qc) (s:Shared) (O:St) (H:Hp) (Q:VK),Qt X Y O H s->t O H Q->
  wpAny (model X.prog X.w) X.A (eval a X.env) (λv g=>wpAny (model X.prog X.w) X.A (eval b X.env) (λu f=>wpAny (model X.prog X.w) X.A (compareOp c v u) (EP X Y O Q) X.xe f) X.xe g) X.xe s
def Lj(b:Expr)(h:op≠.In)(a:op≠.NotIn):behindInMarks op b=false:=by
 have f:(op==CmpOp.In)=false:=by cases op<;>first|rfl|exact Xu rfl h
 have c:(op==CmpOp.NotIn)=false:=by cases op<;>first|rfl|exact Xu rfl a
 cases b<;>simp[behindInMarks,f,c]
def S6(ta:TE):TE:=λO H Q=>ta O H λx L=>Q (.bl<|decide (x=.non)) L
def HH(ta:TE):TE:=λO H Q=>ta O H λx L=>Q (.bl<|!decide (x=.non)) L
def QR.none_iff{v:Value}(r:QR x v):(v==Value.none)=decide (x=.non):=by
 cases x with
 |non=>cases r;rfl
 |bl _=>cases r;rfl
 |int _=>obtain⟨t,rfl⟩:=r;rfl
 |str _=>obtain⟨t,rfl⟩:=r;rfl
 |byt _=>obtain⟨t,rfl⟩:=r;rfl
 |flt _=>obtain⟨t,rfl⟩:=r;rfl
 |ref _=>cases r;rfl
 |ty _=>cases r;rfl
def CV{j pos'}(f:PE X a ta):PC X .Is a (.Constant .none j pos') (S6 ta):=by
 intro Y s O H Q I h;refine Q8 (f Y s O H _ I h) ?_;rintro v i ⟨x,L,g,b,c⟩;exact Constant_none (is_none_gen #[.bl _,L,g,by rw[b.none_iff];rfl,c])
def TB{j pos'}(f:PE X a ta):PC X .IsNot a (.Constant .none j pos') (HH ta):=by
 intro Y s O H Q I h;refine Q8 (f Y s O H _ I h) ?_;rintro v i ⟨x,L,g,b,c⟩;exact Constant_none (isnot_none_gen #[.bl _,L,g,by rw[b.none_iff];rfl,c])
def tB(t:TE):TT:=λO H Q=>t O H λx L=>∃c,x=.bl c/\Q c L
def A8(h:PC X op a b t)(f:behindInMarks op b=false:=by first|exact Lj _ (by decide) (by decide)|rfl):PE X (.Compare a [op] [b] E) t:=λY s O H Q I c=>wpAny_Compare1 (h Y s O H Q I c) f
def JO(h:PC X op a b t)(f:behindInMarks op b=false:=by first|exact Lj _ (by decide) (by decide)|rfl):PT X (.Compare a [op] [b] E) (tB t):=by
 intro Y s O H Q I j;refine wpAny_isTrue_Compare1 (Q8 (h Y s O H _ I j) λv C f=>Q8 f λu B m=>Q8 m ?_) f;rintro c A ⟨x,L,y,g,i⟩;obtain⟨d,rfl,q⟩:=i;cases g;exact wpAny_truthy_bool #[L,y,q]
def Vc(h:PE X e t)(he:∀a,isTrue e X.env a=(do let v <- a;standAt e.pos;holding [v] (truthy v)):=by intro _;rfl):PT X e (tB t):=by
 intro Y s O H Q I f;refine isTrue_plain (Q8 (h Y s O H _ I f) ?_) (he _);rintro v i ⟨x,L,g,b,c⟩;obtain⟨d,rfl,q⟩:=c;cases b;exact wpAny_truthy_bool #[L,g,q]
variable {rest:Qi}
def Hr(t u:TT):TT:=λO H Q=>t O H λc L=>if c=true then u O L Q else Q false L
def tOr(t u:TT):TT:=λO H Q=>t O H λc L=>if c=true then Q true L else u O L Q
def Sx(t:TT):TT:=λO H Q=>t O H λc L=>Q (!c) L
def TY(b:PT X a tA):PW X (.BoolOp .And [a] E) tA:=by
 intro f Y s O H Q I h;refine isTrue_and (Q8 (b Y s O H Q I h) λc g e=>?_);cases c with
 |true=>exact isTrue_and_nil e
 |false=>exact e
def UE(b:PT X a tA):PW X (.BoolOp .Or [a] E) tA:=by
 intro f Y s O H Q I h;refine isTrue_or (Q8 (b Y s O H Q I h) λc g e=>?_);cases c with
 |false=>exact isTrue_or_nil e
 |true=>exact e
def P7(q:PT X a tA)(m:PW X (.BoolOp .And (b::rest) E) tB'):PW X (.BoolOp .And (a::b::rest) E) (Hr tA tB'):=by
 intro i Y s O H Q I h;refine isTrue_and (Q8 (q Y s O H _ I h) ?_);rintro c j ⟨L,g,f⟩;cases c with
 |true=>exact m i Y j O L Q g f
 |false=>exact#[L,g,f]
def Uy(q:PT X a tA)(m:PW X (.BoolOp .Or (b::rest) E) tB'):PW X (.BoolOp .Or (a::b::rest) E) (tOr tA tB'):=by
 intro i Y s O H Q I h;refine isTrue_or (Q8 (q Y s O H _ I h) ?_);rintro c j ⟨L,g,f⟩;cases c with
 |true=>exact#[L,g,f]
 |false=>exact m i Y j O L Q g f
def Vp(b:PT X a tA):PT X (.UnaryOp .Not a E) (Sx tA):=by
 intro Y s O H Q I h;exact isTrue_not (b Y s O H _ I h)
def Ph(ta tb:TE):TE:=λO H Q=>ta O H λx L=>∃c,x=.bl c/\if c=true then tb O L Q else Q (.bl false) L
def Sz(ta tb:TE):TE:=λO H Q=>ta O H λx L=>∃c,x=.bl c/\if c=true then Q (.bl true) L else tb O L Q
def SN(ta:TE):TE:=λO H Q=>ta O H λx L=>∃c,x=.bl c/\Q (.bl<|!c) L
def YZ{op}(h:PE X a t):PE X (.BoolOp op [a] E) t:=λY s O H Q I b=>BoolOp_one (h Y s O H Q I b)
def Yy(q:PE X a ta)(m:PE X (.BoolOp .And (b::rest) E) tb):PE X (.BoolOp .And (a::b::rest) E) (Ph ta tb):=by
 intro Y s O H Q I h;refine BoolOp_and (Q8 (q Y s O H _ I h) ?_);rintro v i ⟨x,L,g,j,f⟩;obtain⟨c,rfl,f⟩:=f;cases j;refine wpAny_truthy_bool ?_;cases c with
 |true=>exact m Y i O L Q g f
 |false=>exact#[.bl false,L,g,rfl,f]
def SA(q:PE X a ta)(m:PE X (.BoolOp .Or (b::rest) E) tb):PE X (.BoolOp .Or (a::b::rest) E) (Sz ta tb):=by
 intro Y s O H Q I h;refine BoolOp_or (Q8 (q Y s O H _ I h) ?_);rintro v i ⟨x,L,g,j,f⟩;obtain⟨c,rfl,f⟩:=f;cases j;refine wpAny_truthy_bool ?_;cases c with
 |false=>exact m Y i O L Q g f
 |true=>exact#[.bl true,L,g,rfl,f]
def Ps(g:PE X a ta):PE X (.UnaryOp .Not a E) (SN ta):=by
 intro Y s O H Q I h;refine UnaryOp_ (Q8 (g Y s O H _ I h) ?_);rintro v j ⟨x,L,i,f,b⟩;obtain⟨c,rfl,b⟩:=b;cases f;exact not_of (wpAny_truthy_bool #[.bl<|!c,L,i,rfl,b])
def tIf(t:TT)(ta tb:TE):TE:=λO H Q=>t O H λc L=>if c=true then ta O L Q else tb O L Q
def LF{c:Expr}(j:PT X c tA)(q:PE X a ta)(m:PE X b tb):PE X (.IfExp c a b E) (tIf tA ta tb):=by
 intro Y s O H Q I h;refine wpAny_IfExp (Q8 (j Y s O H _ I h) ?_);rintro d f ⟨L,i,g⟩;cases d with
 |true=>exact q Y f O L Q i g
 |false=>exact m Y f O L Q i g
end
end L2
namespace L2
def SqL(K:W.Frag)(H:Hp)(a:Addr)(xs:List V):Prop:=
 Rd H a (.lst xs) \/
  ∃(o:Obj) (c:Array Value) (n:Nat),K.lookup a=some o/\o.cls=.type "list" /\ o.dict=none/\o.data=.seq c n/\c.size<=sizeLine/\Za xs c.toList
def SqT(K:W.Frag)(H:Hp)(a:Addr)(xs:List V):Prop:=
 Rd H a (.tup xs) \/
  ∃(o:Obj) (c:Array Value) (n:Nat),K.lookup a=some o/\o.cls=.type "tuple" /\ o.data=.seq c n/\c.size<=sizeLine/\Za xs c.toList
noncomputable def Cz:Value->Option V
 |.none=>some .non
 |.bool b=>some (.bl b)
 |.int i _=>some (.int i)
 |.str x _=>some (.str x)
 |.bytes b _=>some (.byt b)
 |.float b _=>some (.flt b)
 |.ref a=>some (.ref a)
 |.type n=>some (.ty n)
 |_=>none
def QR.abs(r:QR x u):Cz u=some x:=by
 cases x with
 |non=>cases r;rfl
 |bl _=>cases r;rfl
 |int _=>obtain⟨t,rfl⟩:=r;rfl
 |str _=>obtain⟨t,rfl⟩:=r;rfl
 |byt _=>obtain⟨t,rfl⟩:=r;rfl
 |flt _=>obtain⟨t,rfl⟩:=r;rfl
 |ref _=>cases r;rfl
 |ty _=>cases r;rfl
def QR.inj(r:QR x u)(q:QR y u):x=y:=Option.some.inj (r.abs.symm.trans q.abs)
theorem Za.inj:∀{xs ys:List V} {us:Qe},Za xs us->Za ys us->xs=ys
 |_,_,_,.nil,.nil=>rfl
 |_,_,_,.cons r t,.cons f c=>by rw[r.inj f,Za.inj t c]
section
variable {O:St}{H:Hp}{a:Addr}
def SqL.of(h:H a=some (.lst xs)):SqL K H a xs:=.inl (.inl h)
def SqT.of(h:H a=some (.tup xs)):SqT K H a xs:=.inl (.inl h)
def Qt.list(I:Qt X Y O H s)(h:SqL X.K H a xs):∃c:Qe,Za xs c/\PlainL s.heap a c.toArray/\xs.length<=sizeLine:=by
 rcases h with h|⟨o,c,n,g,j,i,f,m,r⟩
 .obtain⟨z,c,n,r,e⟩:=h.ok I.hok;exact#[c,r,#[_,n,e,rfl,rfl,rfl],z]
 .refine#[c.toList,r,#[o,n,I.kIn a o g,j,i,by simpa using f],?_];have e:=r.length;simp_all
def Qt.tuple(I:Qt X Y O H s)(h:SqT X.K H a xs):∃c:Qe,Za xs c/\IsTup s.heap a c.toArray/\xs.length<=sizeLine:=by
 rcases h with h|⟨o,c,n,g,i,f,j,r⟩
 .obtain⟨z,c,r,p⟩:=h.ok I.hok;exact#[c,r,p,z]
 .refine#[c.toList,r,#[o,I.kIn a o g,i,n,by simpa using f],?_];have e:=r.length;simp only[Array.length_toList]at e;lia
def Qt.list_inj(I:Qt X Y O H s)(h:SqL X.K H a xs)(h':SqL X.K H a ys):xs=ys:=by
 obtain⟨j,r,⟨o,n,e,_,_,d⟩,_⟩:=I.list h;obtain⟨c,i,⟨q,y,f,_,_,g⟩,_⟩:=I.list h';rw[e]at f;cases f;rw[d]at g;injection g with m _;have:=by simpa using Xz Array.toList m
 subst this;exact r.inj i
def Qt.tuple_inj(I:Qt X Y O H s)(h:SqT X.K H a xs)(h':SqT X.K H a ys):xs=ys:=by
 obtain⟨j,r,⟨o,e,_,n,d⟩,_⟩:=I.tuple h;obtain⟨c,i,⟨q,f,_,y,g⟩,_⟩:=I.tuple h';rw[e]at f;cases f;rw[d]at g;injection g with m _;have:=by simpa using Xz Array.toList m
 subst this;exact r.inj i
end
noncomputable abbrev Cx.wish(X:Cx)(pos:Qb):Cx:={ X with xe:=pos }
noncomputable abbrev Cx.nox(X:Cx):Cx:=X.wish λ_ _=>False
def Cx.Ok.wish(c:X.Ok)(f:Qb):(X.wish f).Ok:=
 #[c.mod,c.kind,c.glob,c.blt,c.above,c.inj,c.has,c.cab,c.hd,c.frames,c.stk,c.exf,c.bs,c.bsz,c.noex,c.exfs,c.funs,c.frf]
def Cx.Ok.unwish(c:(X.wish pos).Ok):X.Ok:=
 #[c.mod,c.kind,c.glob,c.blt,c.above,c.inj,c.has,c.cab,c.hd,c.frames,c.stk,c.exf,c.bs,c.bsz,c.noex,c.exfs,c.funs,c.frf]
section
variable {O:St}{H:Hp}{pos:Qb}
def Qt.wish(I:Qt X Y O H s)(pos:Qb):Qt (X.wish pos) Y O H s:=#[I.ok.wish pos,I.os,I.bare,I.base,I.loc,I.cell,I.free,I.freeC,I.pin,I.hok,I.len]
def Qt.unwish(I:Qt (X.wish pos) Y O H s):Qt X Y O H s:=#[I.ok.unwish,I.os,I.bare,I.base,I.loc,I.cell,I.free,I.freeC,I.pin,I.hok,I.len]
def SP.unwish{f:Flow}(h:SP (X.wish pos) Y dx f s'):SP X Y dx f s':=by
 cases f with
 |next=>obtain⟨c,U,I,q⟩:=h;exact#[c,U,I.unwish,q]
 |brk=>obtain⟨c,U,I,q⟩:=h;exact#[c,U,I.unwish,q]
 |cont=>obtain⟨c,U,I,q⟩:=h;exact#[c,U,I.unwish,q]
 |ret u=>obtain⟨v,c,U,I,r,q⟩:=h;exact#[v,c,U,I.unwish,r,q]
def PSs.nox{st:List Stmt}(h:PSs X.nox st t):PSs X st t:=λY s O H f I c=>
 wpAny_mono (h Y s O H f (I.wish _) c) (λ_ _ q=>q.unwish) λ_ _ z=>False.elim z
end
section
variable {st:Stmt}{rest:List Stmt}{t u:TS}{e:Expr}
def Bc:TS:=λc O H=>c.nx O H
def Ys(t u:TS):TS:=λc O H=>t { c with nx:=u c } O H
def QV:PSs X [] Bc:=λ_ _ O H _ I h=>wpAny_execs_nil #[O,H,I,h]
def Qz(j:PS X st t)(i:PSs X rest u):PSs X (st::rest) (Ys t u):=by
 intro Y s O H e I h;refine wpAny_execs_cons (Q8 (j Y s O H { e with nx:=u e } I h) λf g q=>?_);cases f with
 |next=>
  obtain⟨c,U,m,q⟩:=q;exact i Y g c U e m q
 |ret v=>exact q
 |brk=>exact q
 |cont=>exact q
def Qy(c:PS X st t):PSs X [st] t:=by
 intro Y s O H e I h;refine wpAny_execs_cons (Q8 (c Y s O H e I h) λf g q=>?_);cases f with
 |next=>exact wpAny_execs_nil q
 |ret v=>exact q
 |brk=>exact q
 |cont=>exact q
def EC:PS X (.Pass E) Bc:=λ_ _ O H _ I h=>wpAny_Pass #[O,H,I,h]
def Qt.quiet{O:St}{H:Hp}(I:Qt X Y O H s):interactive X.env=false:=by simp[interactive,I.ok.kind]
def Vm(te:TE):TS:=λc O H=>te O H λ_ L=>c.nx O L
def Zz(he:PE X e te)(f:swapsWith e none E.line X.env=pure false:=by rfl):PS X (.Expr e E) (Vm te):=by
 intro Y s O H m I h;refine wpAny_Expr_any (Q8 (he Y s O H _ I h) ?_) I.quiet f;rintro v i ⟨x,L,g,j,c⟩;exact#[O,L,g,c]
def VU(te:TE):TS:=λc O H=>te O H c.rt
def QA(he:PE X e te):PS X (.Return (some e) E) (VU te):=by
 intro Y s O H j I h;refine wpAny_Return_some (Q8 (he Y s O H _ I h) ?_);rintro v i ⟨x,L,g,c,f⟩;exact#[x,O,L,g,c,f]
def Uq(c:TT)(t u:TS):TS:=λe O H=>c O H λb L=>if b=true then t e O L else u e O L
def QW{c:Expr}{b:List Stmt}{tc:TT}(j:PT X c tc)(q:PSs X a t)(m:PSs X b u):PS X (.If c a b E) (Uq tc t u):=by
 intro Y s O H g I h;refine wpAny_If (Q8 (j Y s O H _ I h) ?_);rintro d e ⟨L,i,f⟩;cases d with
 |true=>exact q Y e O L g i f
 |false=>exact m Y e O L g i f
def Ek:TS:=λ_ _ _=>False
def JW:PS X st Ek:=λ_ _ _ _ _ _ h=>h.elim
end
abbrev TG:=V->St->Hp->(St->Hp->Prop)->Prop
abbrev TGs:=List V->St->Hp->(St->Hp->Prop)->Prop
def PG(X:Cx)(c:Expr)(t:TG):Prop:=
 ∀(Y:Qc) (s:Shared) (O:St) (H:Hp) (v:V) (u:Value) (Q:St->Hp->Prop),Qt X Y O H s->QR v u->t v O H Q->
  wpAny (model X.prog X.w) X.A (assign c X.env u) (λ_ g=>∃f U,Qt X Y f U g/\Q f U) X.xe s
def PGs(X:Cx)(ts:Qi)(t:TGs):Prop:=
 ∀(Y:Qc) (s:Shared) (O:St) (H:Hp) (f:List V) (g:Qe) (Q:St->Hp->Prop),Qt X Y O H s->Za f g->t f O H Q->
  wpAny (model X.prog X.w) X.A (assignInOrder ((assignEach ts X.env).map (·.2)) g) (λ_ h=>∃c U,Qt X Y c U h/\Q c U) X.xe s
abbrev Hk:=V->V->V->Hp->(Hp->Prop)->Prop
def Hu(X:Cx)(t:Hk):Prop:=
 ∀(Y:Qc) (s:Shared) (O:St) (H:Hp) (o i v:V) (c f u:Value) (Q:Hp->Prop),Qt X Y O H s->QR o c->QR i f->QR v u->t o i v H Q->
  wpAny (model X.prog X.w) X.A (setItem c f u) (λ_ g=>∃U,Qt X Y O U g/\Q U) X.xe s
abbrev TIp:=V->V->Hp->VK->Prop
def PIp(X:Cx)(c:Operator)(t:TIp):Prop:=
 ∀(Y:Qc) (s:Shared) (O:St) (H:Hp) (x y:V) (v u:Value) (Q:VK),Qt X Y O H s->QR x v->QR y u->t x y H Q->
  wpAny (model X.prog X.w) X.A (inplaceOp c v u) (EP X Y O Q) X.xe s
def Yb(i:Nat):TG:=λv O H Q=>Q (O.set i<|some v) H
def Zm(i:Nat)(j:X.N.Nodup)(f:X.N[i]?=some x:=by rfl)(c:Loc X.env.scope x:=by first|exact Or.inl rfl|exact Or.inr rfl)(g:X.fn x=true\/X.env.scope.names.lookup x=some .local:=by first|exact .inl rfl|exact .inr rfl|assumption):PG X (.Name x E) (Yb i):=by
 intro Y s O H v u Q I r h;exact wpAny_assign_Name (Dp I j f c r (λq m=>#[_,H,m,h]) g)
def Hq:TGs:=λc O H Q=>c=[]/\Q O H
def HC(t:TG)(u:TGs):TGs:=λf O H Q=>∃v r,f=v::r/\t v O H λc U=>u r c U Q
def Jw:PGs X [] Hq:=by
 intro Y s O H c f Q I r h;obtain⟨e,h⟩:=h;exact assignInOrder_nil #[O,H,I,h]
def VQ(q:PG X e t)(m:PGs X es u)
(j:(assignEach (e::es) X.env).map (·.2)=assign e X.env::(assignEach es X.env).map (·.2):=by rfl):PGs X (e::es) (HC t u):=by
 intro Y s O H B E Q I r h;obtain⟨v,C,y,h⟩:=h;subst y;cases r with
 |cons r g=>
  rw[j];refine assignInOrder_cons (Q8 (q Y s O H _ _ _ I r h) ?_);rintro _ f ⟨c,L,A,i⟩;exact m Y f c L _ _ Q A g i
def Hm(K:W.Frag)(n:Nat)(t:TGs):TG:=λv O H Q=>∃a xs,v=.ref a/\SqT K H a xs/\xs.length=n/\t xs O H Q
def Jn{k:Nat}{n:Nat}(A:X.calm=true)(h:PGs X es t)
(hn:(assignEach es X.env).length=n:=by rfl)(f:(assignEach es X.env).findIdx? (·.1)=none:=by rfl):PG X (.Tuple es k E) (Hm X.K n t):=by
 intro Y s O H v u Q I r c;obtain⟨a,xs,B,q,y,c⟩:=c;subst B;cases r;obtain⟨i,g,m,K⟩:=I.tuple q;refine assign_Tuple_tuple (I.ok.hd A) m (by simp[hn,<- y,g.length]) f λh' j=>?_;have C:=I.kept (t':=s.toks) λb o e=>j b o (Xs<|Xk e) e;exact h Y _ O H xs _ Q C (by simpa using g) c
def Ss(c f:TE)(t:Hk):TG:=λv O H Q=>c O H λo L=>f O L λi h=>t o i v h λg=>Q O g
noncomputable def Kf{i:Expr}(K:PE X o to)(M:PE X i ti)(C:Hu X t)
(P:∀v,assign (.Subscript o i E) X.env v=(do
  let ov <- holding [v] (eval o X.env)
  let c <- holding [v,ov] (eval i X.env)
  standAt E
  holding [v,ov,c] (setItem ov c v)
  release [v,ov,c] []):=by intro _;rfl):PG X (.Subscript o i E) (Ss to ti t):=by
 intro Y s O H v u Q I r h;rw[P];refine Xa (wpAny_holding<|Q8 (K Y s O H _ I h) ?_);rintro ov g ⟨x,L,b,m,B⟩;refine Xa (wpAny_holding<|Q8 (M Y g O L _ b B) ?_);rintro c f ⟨y,e,a,j,A⟩;refine Xa (wpAny_standAt<|Xa<|wpAny_holding<|Q8 (C Y f O e x y v ov c u _ a m j r A) ?_);rintro _ k ⟨d,W,q⟩;exact wpAny_release #[O,d,W,q]
def V2(te:TE)(g:TG):TS:=λc O H=>te O H λx L=>g x O L c.nx
def Ki{g:TG}(he:PE X e te)(m:PG X tg g)(j:swapsWithSole [tg] e E.line X.env=pure false:=by rfl)(hw:swappedStores [tg] e X.env=pure none:=by rfl)
(y:(assignEach [tg] X.env).map (·.2)=[assign tg X.env]:=by rfl):PS X (.Assign [tg] e E) (V2 te g):=by
 intro Y s O H C I h;refine wpAny_Assign_stores (Q8 (he Y s O H _ I h) ?_) j hw;rintro v c ⟨x,L,A,f,i⟩;rw[y];exact Q8 (m Y c O L x v _ A f i) λ_ B q=>q
def QZ(i:Nat)(A:X.N.Nodup)(he:PE X e te)(m:X.N[i]?=some x:=by rfl)(g:Loc X.env.scope x:=by first|exact Or.inl rfl|exact Or.inr rfl)(j:swapsWith e (some<|.Name x pos') E.line X.env=pure false:=by rfl)(q:X.fn x=true\/X.env.scope.names.lookup x=some .local:=by first|exact .inl rfl|exact .inr rfl|assumption):
 PS X (.Assign [.Name x pos'] e E) (V2 te<|Yb i):=by
 intro Y s O H P I h;refine wpAny_Assign_Name (Q8 (he Y s O H _ I h) ?_) j;rintro v M ⟨y,L,C,c,f⟩;exact Dp C A m g c (λK B=>#[_,L,B,f]) q
def M0(h j te:TE)(f:V->V->Hp->VK->Prop)(g:TIp)(c:Hk):TS:=λm O H=>h O H λo L=>j O L λi C=>f o i C λx B=>te O B λy A=>g x y A λz s=>c o i z s λq=>m.nx O q
def S5(X:Cx)(t:V->V->Hp->VK->Prop):Prop:=
 ∀(Y:Qc) (s:Shared) (O:St) (H:Hp) (o i:V) (c f:Value) (Q:VK),Qt X Y O H s->QR o c->QR i f->t o i H Q->
  wpAny (model X.prog X.w) X.A (getItem c f) (EP X Y O Q) X.xe s
noncomputable def Gw{i:Expr}(z:PE X o to)(D:PE X i ti)(F:S5 X tget)(he:PE X e te)(x:PIp X op tip)(w:Hu X tset)
(G:∀ov f c,augStore i ov f c=(do holding [c,ov,f] (setItem ov f c);release [c,ov,f] [];pure .next):=by intros;rfl):PS X (.AugAssign (.Subscript o i tpos) op e E) (M0 to ti te tget tip tset):=by
 intro Y s O H dx I h;refine wpAny_AugAssign_SubscriptAny (Q8 (z Y s O H _ I h) ?_) G;rintro ov a ⟨m,L,T,y,u⟩;refine Q8 (D Y a O L _ T u) ?_;rintro f W ⟨j,H2,S,q,t⟩;refine Q8 (F Y W O H2 m j ov f _ S y q t) ?_;rintro g P ⟨C,H3,R,k,r⟩;refine Q8 (he Y P O H3 _ R r) ?_;rintro v M ⟨B,H4,Q,d,p⟩;refine Q8 (x Y M O H4 C B g v _ Q k d p) ?_;rintro c K ⟨A,Z,N,b,n⟩;refine Q8 (w Y K O Z m j A ov f c _ N y q b n) ?_;rintro _ s6 ⟨U,J,l⟩;exact#[O,U,J,l]
def ipI(f:Int->Int->Int):TIp:=λx y H Q=>∃i j,x=.int i/\y=.int j/\Q (.int<|f i j) H
def Br:PIp X .Add (ipI λi j=>i+j):=by
 intro Y s O H x y v u Q I f c h;obtain⟨i,j,m,g,q⟩:=h;subst m;subst g;obtain⟨t,rfl⟩:=f;obtain⟨A,rfl⟩:=c;exact iadd_int #[.int _,H,I.tok _,#[_,rfl],q]
def A2:PIp X .Sub (ipI λi j=>i-j):=by
 intro Y s O H x y v u Q I f c h;obtain⟨i,j,m,g,q⟩:=h;subst m;subst g;obtain⟨t,rfl⟩:=f;obtain⟨A,rfl⟩:=c;exact isub_int #[.int _,H,I.tok _,#[_,rfl],q]
def Ti(c:TT)(i:TS):TS:=λg O H=>∃W:Nat->St->Hp->Prop,(∃m,W m O H)/\∀m O H,W m O H->
 c O H λb L=>if b=true then ∃N:St->Hp->Prop,(∀f U,N f U->∃h,h<m/\W h f U)/\i { g with nx:=N,ct:=N,bk:=g.nx } O L else g.nx O L
def Ng{c:Expr}{tc:TT}(a:PassesOwn (model X.prog X.w) X.A X.env X.xe)(w:PT X c tc)(x:PSs X body tb):PS X (.While c body [] E) (Ti tc tb):=by
 intro Y s O H F I h;obtain⟨W,⟨u,o⟩,m⟩:=h;refine wpAny_While (codeAny_whileLoop (λn t=>∃j U,Qt X Y j U t/\W n j U) ?_ u #[O,H,I,o]);rintro n r ⟨i,L,z,l⟩;refine wpAny_passesOwn a (Q8 (w Y r i L _ z<|m n i L l) ?_);rintro b p ⟨k,e,A⟩;cases b with
 |true=>
  obtain⟨N,d,A⟩:=A;refine wpAny_passesOwn a (Q8 (x Y p i k _ e A) λf D y=>?_);cases f with
  |next=>
   obtain⟨g,q,P,C⟩:=y;obtain⟨K,M,B⟩:=d g q C;exact#[K,M,g,q,P,B]
  |cont=>
   obtain⟨g,q,P,C⟩:=y;obtain⟨K,M,B⟩:=d g q C;exact#[K,M,g,q,P,B]
  |brk=>exact y
  |ret v=>exact y
 |false=>
  exact wpAny_execs_nil #[i,k,e,A]
structure It where
 go:Nat->Hp->Prop
 yld:Nat->Hp->V->Hp->Prop
 stop:Nat->Hp->Prop
def We(X:Cx)(Y:Qc)(H:Hp)(b:Addr):Prop:=
 H b=none/\b≠X.env.locals/\b∉X.fs/\(b∈X.ex\/X.s₀.heap.objs.size<=b)/\(∀x c,X.env.cells.lookup x=some c->c≠b)/\∀p∈X.pn++Y,p.1≠b
def Qt.fpOk{O:St}{H U:Hp}{b:Addr}(I:Qt X Y O H s)(f:s.heap.objs.size<=b)(hn:U b=none):We X Y U b:=by
 refine#[hn,X8<|XF I.lt f,I.nofs f,.inr<|Xl I.sz f,λx c e z=>?_,λp g z=>?_]
 .obtain⟨v,q⟩:=I.cell x c e;exact Xu (XF q.lt<|by rw[z];exact f) (Y7 _)
 .exact Xu (XF (Xk (I.pin p g).1)<|by rw[z];exact f) (Y7 _)
structure Turn(P:Program)(w:World)(K:W.Frag)(tg:Expr)(J:It)(fp:Qg)(it:Addr)(tn:Nat->Heap->Prop):Prop where
 mem:it∈fp
 obj:∀i h,tn i h->∀b∈fp,∃o,h.get? b=some o/\∀v,o.data≠.cell v
 keep:∀i h h',tn i h->(∀b∈fp,∀o,h.get? b=some o->h'.get? b=some o)->tn i h'
 item:∀(X:Cx),X.prog=P->X.w=w->X.K=K->X.calm=true->∀(i:Nat) (Y:Qc) (s:Shared) (O:St) (H:Hp) (pos:Qb),Qt X Y O H s->(∀b∈fp,We X Y H b)->tn i s.heap->J.go i H->
  wpAny (model P w) X.A (pyNext<|.ref it) (λr s1=>∃u,r=some u/\
   wpAny (model P w) X.A (letOwnedTupleGo tg (.ref it) u) (λ_ s2=>∃x U,Qt X Y O U s2/\QR x u/\J.yld i H x U/\tn (i+1) s2.heap/\∀b∈fp,U b=none) pos s1) pos s
 done:∀(X:Cx),X.prog=P->X.w=w->X.K=K->X.calm=true->∀(i:Nat) (Y:Qc) (s:Shared) (O:St) (H:Hp) (pos:Qb),Qt X Y O H s->(∀b∈fp,We X Y H b)->tn i s.heap->J.stop i H->
  wpAny (model P w) X.A (pyNext<|.ref it) (λr s1=>r=none/\Qt X Y O H s1) pos s
 self:∀(A:Around) (i:Nat) (s:Shared) (Q:Qb) (pos:Qb),tn i s.heap->Q (.ref it) s->wpAny (model P w) A (pyIter<|.ref it) Q pos s
abbrev TI:=St->Hp->(It->Hp->Prop)->Prop
def PIE(X:Cx)(Y:Qc)(O:St)(tg:Expr)(R:It->Hp->Prop)(c:Value)(g:Shared):Prop:=
 ∃(h:Addr) (i:Qg) (f:Nat->Heap->Prop) (J:It) (U:Hp),c=.ref h/\Qt X Y O U g/\Turn X.prog X.w X.K tg J i h f/\f 0 g.heap/\(∀b∈i,We X Y U b)/\R J U
def PI(X:Cx)(tg iter:Expr)(c:TI):Prop:=
 ∀(Y:Qc) (s:Shared) (O:St) (H:Hp) (R:It->Hp->Prop),Qt X Y O H s->c O H R->
  wpAny (model X.prog X.w) X.A (eval iter X.env) (λv f=>wpAny (model X.prog X.w) X.A (pyIter v) (PIE X Y O tg R) X.xe f) X.xe s
def Bi(f:s.heap.get? it=some o)(h:o.cls=.type n)(g:o.data=.fields vs)
(hn:["enumerate","zip","dict_itemiterator","dict_reverseitemiterator","odict_iterator","itertools.zip_longest","itertools.pairwise"].contains n=false)(c:Q () s):wpAny M A (letOwnedTupleGo tg (.ref it) u) Q pos s:=by
 cases tg<;>first
  |exact Xm c
  | (cases u<;>first
   |exact Xm c
   | (refine Xa (wpAny_load f ?_)
      rw[h,g];show wpAny M A (if _=true then _ else _) Q pos s;rw[Xg<|#[]];exact Xm c))
def Itl(K:W.Frag)(a:Addr):It:=
 #[λi H=>∃xs x,SqL K H a xs/\xs[i]?=some x,λi H x U=>U=H/\∀xs,SqL K H a xs->xs[i]?=some x,λi H=>∃xs,SqL K H a xs/\xs.length<=i]
def Itt(K:W.Frag)(a:Addr):It:=
 #[λi H=>∃xs x,SqT K H a xs/\xs[i]?=some x,λi H x U=>U=H/\∀xs,SqT K H a xs->xs[i]?=some x,λi H=>∃xs,SqT K H a xs/\xs.length<=i]
def Itr(lo:Int)(n:Nat):It:=#[λi _=>i<n,λi H x U=>U=H/\x=.int (lo+i),λi _=>n<=i]
theorem ZpC(a it:Addr):Turn P w K tg (Itl K a) [it] it (λi h=>h.IsListIter it a i) where
 mem:=by simp
 obj:=λi h f b g=>by
  have e:=by simpa using g
  subst e;obtain⟨o,e,c,d⟩:=f;simp_all
 keep:=λi h h' f k=>f.at λo e=>k it (by simp) o e
 item:=by
  intro X E C M t i Y s O H y I m f hg;subst E C M;obtain⟨xs,x,hq,B⟩:=hg;obtain⟨A,q,p,hz⟩:=I.list hq;obtain⟨u,F,z⟩:=q.get B;obtain⟨f0,r,G,n,l,W⟩:=m it (by simp);refine wpAny_pyNext_list_item f p.isList (by simpa using F) λh' j v=>?_;have L:=I.turned (t':=s.toks) (λb o g e=>(v.2 b g).trans e) f0 r n l W;obtain⟨o,e,c,d⟩:=id j
  exact#[u,rfl,Bi e c d (by decide) #[x,H,L,z,#[rfl,λys D=>by rw[I.list_inj D hq];exact B],j,λb g=>(m b g).1]]
 done:=by
  intro X E C M t i Y s O H y I m f hg;subst E C M;obtain⟨xs,hq,B⟩:=hg;obtain⟨A,q,p,hz⟩:=I.list hq;obtain⟨f0,r,G,n,l,W⟩:=m it (by simp);have N:=q.length;exact wpAny_pyNext_list_end (I.ok.hd t) f p.isList (by simp;lia) λh' J=>#[rfl,I.turned (λb o g e=>J b o g e) f0 r n l W]
 self:=λ_ _ _ _ _ f h=>wpAny_pyIter_listiter f h
theorem ZnA(a it:Addr):Turn P w K tg (Itt K a) [it] it (λi h=>h.IsTupleIter it a i) where
 mem:=by simp
 obj:=λi h f b g=>by
  have e:=by simpa using g
  subst e;obtain⟨o,e,c,d⟩:=f;simp_all
 keep:=λi h h' f k=>f.at λo e=>k it (by simp) o e
 item:=by
  intro X E C M t i Y s O H y I m f hg;subst E C M;obtain⟨xs,x,hq,B⟩:=hg;obtain⟨A,q,p,hz⟩:=I.tuple hq;obtain⟨u,F,z⟩:=q.get B;obtain⟨f0,r,G,n,l,W⟩:=m it (by simp);refine wpAny_pyNext_tuple_item f (p) (by simpa using F) λh' j v=>?_;have L:=I.turned (t':=s.toks) (λb o g e=>(v.2 b g).trans e) f0 r n l W;obtain⟨o,e,c,d⟩:=id j
  exact#[u,rfl,Bi e c d (by decide) #[x,H,L,z,#[rfl,λys D=>by rw[I.tuple_inj D hq];exact B],j,λb g=>(m b g).1]]
 done:=by
  intro X E C M t i Y s O H y I m f hg;subst E C M;obtain⟨xs,hq,B⟩:=hg;obtain⟨A,q,p,hz⟩:=I.tuple hq;obtain⟨f0,r,G,n,l,W⟩:=m it (by simp);have N:=q.length;exact wpAny_pyNext_tuple_end (I.ok.hd t) f (p) (by simp;lia) λh' J=>#[rfl,I.turned (λb o g e=>J b o g e) f0 r n l W]
 self:=λ_ _ _ _ _ f h=>wpAny_pyIter_tupleiter f h
theorem ZnG(it:Addr)(lo:Int)(n:Nat):Turn P w K tg (Itr lo n) [it] it (λi h=>IsRangeIter h it (lo+(i:Nat)*1) ((n:Int)-(i:Nat)) 1) where
 mem:=by simp
 obj:=λi h c b f=>by
  simp_all
 keep:=λi h h' c k=>k it (by simp) _ c
 item:=by
  intro X M E a q i Y s O H m I j c hg;subst M E a;obtain⟨f0,C,p,B,A,y⟩:=j it (by simp);have W:=Walks.range (prog:=X.prog) (w:=X.w) (I.ok.hd q) it lo 1 n;refine W.item i s _ _ hg c λv h' tk l g d=>?_;obtain⟨t,rfl⟩:=l;have u:Qt X Y O H { s with heap:=h',toks:=tk }:=I.turned (λb o f e=>d b o (by simpa using f) e) f0 C B A y;refine#[_,rfl,Bi g rfl rfl (by decide) #[.int _,H,u,#[t,?_],#[rfl,rfl],g,λb f=>(j b f).1]];rw[Int.mul_one]
 done:=by
  intro X M E a q i Y s O H m I j c hg;obtain⟨f0,C,p,B,A,y⟩:=j it (by simp);exact wpAny_pyNext_range_end (I.ok.hd q) c (by have:n<=i:=hg;lia) λh' r=>#[rfl,I.turned (λb o f e=>r b o f e) f0 C B A y]
 self:=λ_ _ _ _ _ c h=>wpAny_pyIter_rangeiter c h
end L2
namespace L2
def Pg(K:W.Frag)(c:TE):TI:=λO H R=>c O H λx L=>∃a,x=.ref a/\(∃xs,SqL K L a xs)/\R (Itl K a) L
def Sb(K:W.Frag)(c:TE):TI:=λO H R=>c O H λx L=>∃a,x=.ref a/\(∃xs,SqT K L a xs)/\R (Itt K a) L
def VT(y:PE X l tl):PI X tg l (Pg X.K tl):=by
 intro Y s O H R I h;refine Q8 (y Y s O H _ I h) ?_;rintro v f ⟨x,L,c,g,i⟩;obtain⟨a,e,⟨xs,m⟩,q⟩:=i;subst e;cases g;obtain⟨j,B,p,C⟩:=c.list m;refine wpAny_pyIter_list p.isList ?_;refine#[f.heap.objs.size,[f.heap.objs.size],_,_,L,rfl,c.kept λb o e=>Xd _ e,ZpC a _,#[_,Xt _ rfl,rfl,rfl],λb A=>?_,q];have e:=by simpa using A
 subst e;exact c.fpOk (Xn _) (c.hok.fresh<|Xn _)
def Bp(y:PE X l tl):PI X tg l (Sb X.K tl):=by
 intro Y s O H R I h;refine Q8 (y Y s O H _ I h) ?_;rintro v f ⟨x,L,c,g,i⟩;obtain⟨a,e,⟨xs,m⟩,q⟩:=i;subst e;cases g;obtain⟨j,B,p,C⟩:=c.tuple m;refine wpAny_pyIter_tuple (p) ?_;refine#[f.heap.objs.size,[f.heap.objs.size],_,_,L,rfl,c.kept λb o e=>Xd _ e,ZnA a _,#[_,Xt _ rfl,rfl,rfl],λb A=>?_,q];have e:=by simpa using A
 subst e;exact c.fpOk (Xn _) (c.hok.fresh<|Xn _)
def Lx{O:St}{H:Hp}{R:It->Hp->Prop}{f:Qb}{lo c:Int}{t u v:Tok}{h:Nat}(I:Qt X Y O H s)(h1 : -(2^62)<=lo)(m:lo<2^62)(h3 : -(2^62)<=c)(j:c<2^62)
(q:R (Itr lo (c-lo).toNat) H):wpAny (model X.prog X.w) X.A (pyIter<|.ref s.heap.objs.size) (PIE X Y O tg R) f { s with heap:=s.heap.push { cls:=.type "range",data:=.fields (List.toArray [.int lo t,.int c u,.int 1 v]) },toks:=h }:=by
 refine wpAny_pyIter_range (IsRange.new ..) (small_one h1 m h3 j) ?_;have g:Qt X Y O H { s with heap:=s.heap.push { cls:=.type "range",data:=.fields (List.toArray [.int lo t,.int c u,.int 1 v]) },toks:=h }:=I.kept λb o e=>Xd _ e
 refine#[(s.heap.push { cls:=.type "range",data:=.fields (List.toArray [.int lo t,.int c u,.int 1 v]) }).objs.size,[(s.heap.push { cls:=.type "range",data:=.fields (List.toArray [.int lo t,.int c u,.int 1 v]) }).objs.size],_,_,H,rfl,
  g.kept λb o e=>Xd _ e,ZnG _ lo (c-lo).toNat,?_,λb i=>?_,q]
 .have A:lo+((0:Nat))*1=lo:=by simp
  have y:(((c-lo).toNat))-((0:Nat))=Builtin.Range.rangeSize lo c 1:=by rw[rangeSize_one];split<;>lia
  rw[A,y];exact Xt _ rfl
 .have e:b=(s.heap.push { cls:=.type "range",data:=.fields (List.toArray [.int lo t,.int c u,.int 1 v]) }).objs.size:=by simpa using i
  subst e;exact g.fpOk (Xn _) (g.hok.fresh<|Xn _)
def Bh(ta:TA):TI:=λO H R=>ta O H λc L=>∃j:Int,c=[.int j] /\ -(2^62)<=j/\j<2^62/\R (Itr 0 j.toNat) L
def SW(ta:TA):TI:=λO H R=>ta O H λc L=>∃i j:Int,c=[.int i,.int j]/\(-(2^62)<=i/\i<2^62 /\ -(2^62)<=j/\j<2^62)/\R (Itr i (j-i).toNat) L
def Y5{ta:TA}(A:Gl X "range")(y:X.mg "range"=none)(B:PA X [a] ta)(m:starEach [a] X.env=[(false,eval a X.env)]:=by rfl):PI X tg (.Call (.Name "range" p) [a] [] E) (Bh ta):=by
 intro Y s O H R I h;refine Call_ (Jp I A y boot_range<|PyProof.Rows.callWith_type1 (Q8 (B E Y s O H _ I h) ?_) m rfl);rintro M P ⟨K,L,C,g,c⟩;obtain⟨j,e,c,i,q⟩:=c;subst e;cases g with
 |cons r f=>
  cases f;obtain⟨t,rfl⟩:=r;exact call_range_1 (Lx C #[] #[] c i<|by simpa using q)
def ZoK{a b:Expr}{ta:TA}{p:Pos}(P:Gl X "range")(M:X.mg "range"=none)(W:PA X [a,b] ta)(K:starEach [a,b] X.env=[(false,eval a X.env),(false,eval b X.env)]:=by rfl)(c:starEach [b] X.env=[(false,eval b X.env)]:=by rfl):
 PI X tg (.Call (.Name "range" p) [a,b] [] E) (SW ta):=by
 intro Y s O H R I h;refine Call_ (Jp I P M boot_range<|PyProof.Rows.callWith_type1 (Q8 (W E Y s O H _ I h) ?_) (by rw[K,c])<|by rw[c];rfl);rintro l o ⟨k,L,d,m,g⟩;obtain⟨i,j,e,⟨g,C,B,A⟩,q⟩:=g;subst e;cases m with
 |cons r f=>
  cases f with
  |cons y f=>
   cases f;obtain⟨t,rfl⟩:=r;obtain⟨n,rfl⟩:=y;exact call_range_2 (Lx d g C B A q)
def UU(q:TI)(g:TG)(s:TS):TS:=λh O H=>q O H λJ L=>∃W:Nat->Nat->St->Hp->Prop,(∃m,W 0 m O L)/\∀i m O H,W i m O H->
 (J.stop i H/\h.nx O H)\/(J.go i H/\∃N:St->Hp->Prop,(∀c U,N c U->∃j,j<m/\W (i+1) j c U)/\∀x U,J.yld i H x U->g x O U λf y=>s { h with nx:=N,ct:=N,bk:=h.nx } f y)
def ME(c:Qg)(h:Heap):Qc:=c.filterMap λb=>(h.get? b).map λo=>(b,o)
def Dx{b:Addr}(c:b∈fp)(e:h.get? b=some o):(b,o)∈ME fp h:=List.mem_filterMap.mpr #[b,c,by rw[e];rfl]
def ZoC{p:Addr×Obj}(c:p∈ME fp h):p.1∈fp/\h.get? p.1=some p.2:=by
 obtain⟨b,f,e⟩:=List.mem_filterMap.mp c;cases q:h.get? b with
 |none=>rw[q]at e;cases e
 |some o=>
  rw[q]at e;have g:=Option.some.inj e;subst g;exact#[f,q]
def Qt.pinned{O:St}{H:Hp}{c:Qg}(I:Qt X Y O H s)(i:∀b∈c,We X Y H b)(h:∀b∈c,∃o,s.heap.get? b=some o/\∀v,o.data≠.cell v):Qt X (Y++ME c s.heap) O H s:=
 I.pins_of λp g=>(Xq.mp g).elim (λz=>I.pin p<|X4 _ z) λz=>by
  obtain⟨f,e⟩:=ZoC z;obtain⟨f0,m,j,_⟩:=i p.1 f;obtain _:=h p.1 f;simp_all
def Qt.unpinned{c:Qc}{O:St}{H:Hp}(I:Qt X (Y++c) O H s):Qt X Y O H s:=I.pins_of λp f=>I.pin p (X4 _<|GM _ f)
def Vu{g:TG}(t:PassesOwn (model X.prog X.w) X.A X.env X.xe)(hc:X.calm=true)(hi:PI X tg iter wi)(hg:PG X tg g)(A:PSs X body tb)
(hs:∀x,foldedSetIterable iter X.env x=pure x:=by intro _;rfl):PS X (.For tg iter body [] E) (UU wi g tb):=by
 intro Y s O H dx I h;refine wpAny_For (Q8 (hi Y s O H _ I h) λv s1 h1=>Q8 h1 λitv s2 h2=>?_) hs;obtain⟨it,z,Z,J,H2,e,I2,T,G,f2,W,⟨m0,w0⟩,a⟩:=h2;subst e;have y:∀{U:Hp},(∀b∈z,U b=none)->∀b∈z,We X Y U b:=λhn b A=>#[hn b A,(f2 b A).2];refine codeAny_forLoop_any (λn s'=>∃i q U,Qt X Y q U s'/\Z i s'.heap/\(∀b∈z,U b=none)/\W i n q U) ?_ m0 #[0,O,H2,I2,G,λb A=>(f2 b A).1,w0]
 rintro n s3 ⟨i,j,D,I3,l,w,w3⟩;rcases a i n j D w3 with ⟨k,qn⟩|⟨go,N,hN,step⟩
 .refine wpAny_passesOwn t (Q8 (T.done X rfl rfl rfl hc i Y s3 j D X.xe I3 (y w) l k) ?_);rintro r s4 ⟨Q,I4⟩;subst Q;exact wpAny_execs_nil #[j,D,I4,qn]
 .refine wpAny_passesOwn t (Q8 (T.item X rfl rfl rfl hc i Y s3 j D X.xe I3 (y w) l go) ?_);rintro r s4 ⟨u,Q,h4⟩;subst Q;refine wpAny_passesOwn t (Q8 h4 ?_);rintro _ s5 ⟨x,H5,I5,r5,y5,P,R⟩;have S:=I5.pinned (y R) (T.obj _ _ P);refine wpAny_passesOwn t (Q8 (hg _ s5 j H5 x u _ S r5<|step x H5 y5) ?_);rintro _ s6 ⟨F,H6,I6,q6⟩;refine wpAny_passesOwn t (Q8 (A _ s6 F H6 _ I6 q6) λf L M=>?_);have B:∀{c:St} {K:Hp},Qt X _ c K L->N c K->∃m,m<n/\∃i q U,Qt X Y q U L/\Z i L.heap/\(∀b∈z,U b=none)/\W i m q U:=λ{c K} C p=>by
   obtain⟨m',hm,w7⟩:=hN c K p;refine#[m',hm,i+1,c,K,C.unpinned,T.keep _ _ _ P λb A o e=>(C.pin (b,o)<|X4 _<|X4 _<|Dx A e).1,λb A=>?_,w7];obtain⟨o,e,d⟩:=T.obj _ _ P b A;exact(C.pin _<|X4 _<|X4 _<|Dx A e).2.1
  cases f with
  |next=>obtain⟨c,K,C,p⟩:=M;exact B C p
  |cont=>obtain⟨c,K,C,p⟩:=M;exact B C p
  |brk=>obtain⟨c,K,C,M⟩:=M;exact#[c,K,C.unpinned,M]
  |ret v=>obtain⟨x7,c,K,C,r7,M⟩:=M;exact#[x7,c,K,C.unpinned,r7,M]
end L2
namespace L2
abbrev R2:=V->V->Hp->VK->Prop
def OpR(X:Cx)(f:Value->Value->Sem Value)(r:R2):Prop:=
 ∀(Y:Qc) (s:Shared) (O:St) (H:Hp) (x y:V) (v u:Value) (Q:VK),Qt X Y O H s->QR x v->QR y u->r x y H Q->
  wpAny (model X.prog X.w) X.A (f v u) (EP X Y O Q) X.xe s
def UnR(X:Cx)(f:Value->Sem Value)(r:V->Hp->VK->Prop):Prop:=
 ∀(Y:Qc) (s:Shared) (O:St) (H:Hp) (x:V) (v:Value) (Q:VK),Qt X Y O H s->QR x v->r x H Q->
  wpAny (model X.prog X.w) X.A (f v) (EP X Y O Q) X.xe s
def ZE(X:Cx)(f:Value)(r:List V->Hp->VK->Prop):Prop:=
 ∀(Y:Qc) (s:Shared) (O:St) (H:Hp) (xs:List V) (c:Qe) (Q:VK),Qt X Y O H s->Za xs c->r xs H Q->
  wpAny (model X.prog X.w) X.A (call f c) (EP X Y O Q) X.xe s
def C8(X:Cx)(r:V->Hp->(Bool->Hp->Prop)->Prop):Prop:=
 ∀(Y:Qc) (s:Shared) (O:St) (H:Hp) (x:V) (v:Value) (Q:Bool->Hp->Prop),Qt X Y O H s->QR x v->r x H Q->
  wpAny (model X.prog X.w) X.A (truthy v) (TP X Y O Q) X.xe s
def tOp(r:R2)(ta c:TE):TE:=λO H Q=>ta O H λx L=>c O L λy f=>r x y f Q
def tUn(r:V->Hp->VK->Prop)(ta:TE):TE:=λO H Q=>ta O H λx L=>r x L Q
def rI(C:Int->Int->Prop)(g:Int->Int->V):R2:=λx y H Q=>∃i j,x=.int i/\y=.int j/\C i j/\Q (g i j) H
def rI0(g:Int->Int->V):R2:=λx y H Q=>∃i j,x=.int i/\y=.int j/\Q (g i j) H
def rU(g:Int->V):V->Hp->VK->Prop:=λx H Q=>∃i,x=.int i/\Q (g i) H
section
variable {a b:Expr}{tb:TE}
def Hw(E:PE X a ta)(C:PE X b tb){O:St}{H:Hp}{R:V->V->Hp->Prop}(I:Qt X Y O H s)
(h:ta O H λx L=>tb O L λy c=>R x y c){Q:Qb}{f:Value->Value->Sem Value}
(B:∀v u g x y c,Qt X Y O c g->QR x v->QR y u->R x y c->wpAny (model X.prog X.w) X.A (f v u) Q X.xe g):
 wpAny (model X.prog X.w) X.A (eval a X.env) (λv M=>wpAny (model X.prog X.w) X.A (eval b X.env) (λu K=>wpAny (model X.prog X.w) X.A (f v u) Q X.xe K) X.xe M) X.xe s:=by
 refine Q8 (E Y s O H _ I h) ?_;rintro v i ⟨x,L,W,m,A⟩;refine Q8 (C Y i O L _ W A) ?_;rintro u g ⟨y,c,P,j,q⟩;exact B v u g x y c P m j q
def QJ(i:OpR X (binaryOp op) r)(m:PE X a ta)(j:PE X b tb):PE X (.BinOp a op b E) (tOp r ta tb):=by
 intro Y s O H Q I h;exact wpAny_BinOp (Hw m j I h λv u c x y B A g f q=>i Y c O B x y v u Q A g f q)
def Aq(g:UnR X (unaryOp op) r)(i:PE X a ta):PE X (.UnaryOp op a E) (tUn r ta):=by
 intro Y s O H Q I h;refine UnaryOp_ (Q8 (i Y s O H _ I h) ?_);rintro v b ⟨x,L,j,c,f⟩;exact g Y b O L x v Q j c f
def opI{f:Value->Value->Sem Value}{C:Int->Int->Prop}{g:Int->Int->Int}
(a:∀(i j:Int) (t u:Tok) (s:Shared) (Q:Qb) (b:Qb),C i j->Q (.int (g i j) s.toks) { s with toks:=s.toks+1 }->wpAny (model X.prog X.w) X.A (f (.int i t)<|.int j u) Q b s):
 OpR X f (rI C λi j=>.int<|g i j):=by
 intro Y s O H x y v u Q I A m h;obtain⟨i,j,rfl,rfl,B,q⟩:=h;obtain⟨t,rfl⟩:=A;obtain⟨c,rfl⟩:=m;exact a i j t c s _ _ B #[.int _,H,I.tok _,#[_,rfl],q]
def Hy{f:Value->Value->Sem Value}{g:Int->Int->Int}
(a:∀(i j:Int) (t u:Tok) (s:Shared) (Q:Qb) (b:Qb),Q (.int (g i j) s.toks) { s with toks:=s.toks+1 }->wpAny (model X.prog X.w) X.A (f (.int i t)<|.int j u) Q b s):
 OpR X f (rI0 λi j=>.int<|g i j):=by
 intro Y s O H x y v u Q I A m h;obtain⟨i,j,rfl,rfl,q⟩:=h;obtain⟨t,rfl⟩:=A;obtain⟨c,rfl⟩:=m;exact a i j t c s _ _ #[.int _,H,I.tok _,#[_,rfl],q]
def Ms{f:Value->Value->Sem Value}{g:Int->Int->Bool}
(a:∀(i j:Int) (t u:Tok) (s:Shared) (Q:Qb) (b:Qb),Q (.bool<|g i j) s->wpAny (model X.prog X.w) X.A (f (.int i t)<|.int j u) Q b s):
 OpR X f (rI0 λi j=>.bl<|g i j):=by
 intro Y s O H x y v u Q I A m h;obtain⟨i,j,rfl,rfl,q⟩:=h;obtain⟨t,rfl⟩:=A;obtain⟨c,rfl⟩:=m;exact a i j t c s _ _ #[.bl _,H,I,rfl,q]
def GZ(i j:Int):Prop:=0<=j/\j<=1000000/\i.natAbs<2^64
def JE(i j:Int):Prop:=(-(2^64)<i/\i<2^64)\/(-(2^64)<j/\j<2^64)
def JE.ok{i j:Int}(h:JE i j):IntMulOk i j:=by
 rcases h with ⟨b,a⟩|⟨b,a⟩
 .exact .of_left (intBits_le_64 b a)
 .exact .of_right (intBits_le_64 b a)
def V0:OpR X (binaryOp .Add) (rI0 λi j=>.int<|i+j):=Hy λ_ _ _ _ _ _ _ q=>add_int q
def Yl:OpR X (binaryOp .Sub) (rI0 λi j=>.int<|i-j):=Hy λ_ _ _ _ _ _ _ q=>sub_int q
def UA:OpR X (binaryOp .Mult) (rI JE λi j=>.int<|i*j):=opI λ_ _ _ _ _ _ _ a q=>mul_int q a.ok
def VD:OpR X (binaryOp .Mod) (rI (λ_ j=>0<j) λi j=>.int<|i%j):=opI λi j _ _ _ _ _ a q=>mod_int' #[] (by rw[Int.fmod_eq_emod_of_nonneg i<|#[]];exact q)
def Go:OpR X (binaryOp .Pow) (rI GZ λi j=>.int<|i^j.toNat):=opI λ_ _ _ _ _ _ _ a q=>pow_int_small a.1 a.2.1 a.2.2 q
def Kr:OpR X (binaryOp .BitXor) (rI0 λi j=>.int<|Builtin.bitXor i j):=Hy λ_ _ _ _ _ _ _ q=>xor_int q
def unI{f:Value->Sem Value}{g:Int->Int}
(a:∀(i:Int) (t:Tok) (s:Shared) (Q:Qb) (b:Qb),Q (.int (g i) s.toks) { s with toks:=s.toks+1 }->wpAny (model X.prog X.w) X.A (f<|.int i t) Q b s):
 UnR X f (rU λi=>.int<|g i):=by
 intro Y s O H x v Q I c h;obtain⟨i,rfl,q⟩:=h;obtain⟨t,rfl⟩:=c;exact a i t s _ _ #[.int<|g i,H,I.tok _,#[_,rfl],q]
def CO:UnR X (unaryOp .USub) (rU λi=>.int (-i)):=unI λ_ _ _ _ _ q=>neg_int q
end
noncomputable def Sc:V->V->Bool
 |.non,.non=>true|.non,.int _=>true|.int _,.non=>true|.non,.bl _=>true|.bl _,.non=>true|.non,.str _=>true|.str _,.non=>true
 |.int _,.int _=>true|.bl _,.bl _=>true|.str _,.str _=>true|.byt _,.byt _=>true
 |.int _,.str _=>true|.str _,.int _=>true|.bl _,.str _=>true|.str _,.bl _=>true
 |_,_=>false
def rEq:R2:=λx y H Q=>Sc x y=true/\Q (.bl<|decide (x=y)) H
def rNe:R2:=λx y H Q=>Sc x y=true/\Q (.bl<|!decide (x=y)) H
def Tr{i j:Int}:decide (V.int i=V.int j)=(i==j):=by
 rw[Mc];simp
def Tb{i j:Bool}:decide (V.bl i=V.bl j)=(i==j):=by
 rw[Mc];simp
def Tq{i j:Str}:decide (V.str i=V.str j)=(i==j):=by
 rw[Mc];simp
def Tl{i j:Array UInt8}:decide (V.byt i=V.byt j)=(i.toList==j.toList):=by
 rw[Mc];simp_all
section
variable {a b c:Expr}{tb:TE}
def ZH{O:St}{H:Hp}{Q:VK}{k a:Bool}(I:Qt X Y O H s)(q:Q (.bl k) H)(e:k=a):EP X Y O Q (.bool a) s:=by
 subst e;exact#[.bl k,H,I,rfl,q]
def Z0:OpR X (compareOp .Eq) rEq:=by
 intro Y s O H x y v u Q I f a h;obtain⟨c,q⟩:=h;cases x with
 |non=>
  cases f;cases y with
  |non=>cases a;exact PySem.EqNone.eq_none_none (ZH I q<|by simp)
  |bl j=>cases a;exact PySem.EqNone.eq_none_bool (ZH I q<|by simp)
  |int j=>obtain⟨b,rfl⟩:=a;exact PySem.EqNone.eq_none_int (ZH I q<|by simp)
  |str j=>obtain⟨b,rfl⟩:=a;exact PySem.EqNone.eq_none_str (ZH I q<|by simp)
  |_=>exact Xu (show false=true from c) XA
 |bl i=>
  cases f;cases y with
  |non=>cases a;exact PySem.EqNone.eq_bool_none (ZH I q<|by simp)
  |bl j=>cases a;exact eq_bool (ZH I q Tb)
  |str j=>obtain⟨b,rfl⟩:=a;exact PySem.EqMixed.eq_bool_str (ZH I q<|by simp)
  |_=>exact Xu (show false=true from c) XA
 |int i=>
  obtain⟨t,rfl⟩:=f;cases y with
  |non=>cases a;exact PySem.EqNone.eq_int_none (ZH I q<|by simp)
  |int j=>obtain⟨b,rfl⟩:=a;exact eq_int (ZH I q Tr)
  |str j=>obtain⟨b,rfl⟩:=a;exact PySem.EqMixed.eq_int_str (ZH I q<|by simp)
  |_=>exact Xu (show false=true from c) XA
 |str i=>
  obtain⟨t,rfl⟩:=f;cases y with
  |non=>cases a;exact PySem.EqNone.eq_str_none (ZH I q<|by simp)
  |bl j=>cases a;exact PySem.EqMixed.eq_str_bool (ZH I q<|by simp)
  |int j=>obtain⟨b,rfl⟩:=a;exact PySem.EqMixed.eq_str_int (ZH I q<|by simp)
  |str j=>obtain⟨b,rfl⟩:=a;exact eq_str (ZH I q Tq)
  |_=>exact Xu (show false=true from c) XA
 |byt i=>
  obtain⟨t,rfl⟩:=f;cases y with
  |byt j=>obtain⟨b,rfl⟩:=a;exact W.eq_bytes (ZH I q Tl)
  |_=>exact Xu (show false=true from c) XA
 |_=>cases y<;>exact Xu (show false=true from c) XA
def M5:OpR X (compareOp .NotEq) rNe:=by
 intro Y s O H x y v u Q I f a h;obtain⟨c,q⟩:=h;cases x with
 |non=>
  cases f;cases y with
  |non=>cases a;exact PySem.EqNone.ne_none_none (ZH I q<|by simp)
  |bl j=>cases a;exact PySem.EqNone.ne_none_bool (ZH I q<|by simp)
  |int j=>obtain⟨b,rfl⟩:=a;exact PySem.EqNone.ne_none_int (ZH I q<|by simp)
  |str j=>obtain⟨b,rfl⟩:=a;exact PySem.EqNone.ne_none_str (ZH I q<|by simp)
  |_=>exact Xu (show false=true from c) XA
 |bl i=>
  cases f;cases y with
  |non=>cases a;exact PySem.EqNone.ne_bool_none (ZH I q<|by simp)
  |bl j=>cases a;exact ne_bool (ZH I q<|Xz not Tb)
  |str j=>obtain⟨b,rfl⟩:=a;exact PySem.EqMixed.ne_bool_str (ZH I q<|by simp)
  |_=>exact Xu (show false=true from c) XA
 |int i=>
  obtain⟨t,rfl⟩:=f;cases y with
  |non=>cases a;exact PySem.EqNone.ne_int_none (ZH I q<|by simp)
  |int j=>obtain⟨b,rfl⟩:=a;exact ne_int (ZH I q<|Xz not Tr)
  |str j=>obtain⟨b,rfl⟩:=a;exact PySem.EqMixed.ne_int_str (ZH I q<|by simp)
  |_=>exact Xu (show false=true from c) XA
 |str i=>
  obtain⟨t,rfl⟩:=f;cases y with
  |non=>cases a;exact PySem.EqNone.ne_str_none (ZH I q<|by simp)
  |bl j=>cases a;exact PySem.EqMixed.ne_str_bool (ZH I q<|by simp)
  |int j=>obtain⟨b,rfl⟩:=a;exact PySem.EqMixed.ne_str_int (ZH I q<|by simp)
  |str j=>obtain⟨b,rfl⟩:=a;exact ne_str (ZH I q<|Xz not Tq)
  |_=>exact Xu (show false=true from c) XA
 |byt i=>
  obtain⟨t,rfl⟩:=f;cases y with
  |byt j=>obtain⟨b,rfl⟩:=a;exact W.ne_bytes (ZH I q<|Xz not Tl)
  |_=>exact Xu (show false=true from c) XA
 |_=>cases y<;>exact Xu (show false=true from c) XA
def Ji:OpR X (compareOp .Lt) (rI0 λi j=>.bl<|decide (i<j)):=Ms λ_ _ _ _ _ _ _ q=>lt_int q
def U1:OpR X (compareOp .LtE) (rI0 λi j=>.bl<|decide (i<=j)):=Ms λ_ _ _ _ _ _ _ q=>le_int q
def WI:OpR X (compareOp .Gt) (rI0 λi j=>.bl<|decide (j<i)):=Ms λ_ _ _ _ _ _ _ q=>gt_int q
def SC:OpR X (compareOp .GtE) (rI0 λi j=>.bl<|decide (j<=i)):=Ms λ_ _ _ _ _ _ _ q=>ge_int q
def ZoI:OpR X (compareOp .In) (λx y H Q=>∃i j,x=.str i/\y=.str j/\Q (.bl<|!(Builtin.Str.occurrences j i 0 j.length 1).isEmpty) H):=by
 intro Y s O H x y v u Q I b a h;obtain⟨i,j,rfl,rfl,q⟩:=h;obtain⟨t,rfl⟩:=b;obtain⟨c,rfl⟩:=a;exact in_str (ZH I q rfl)
def Zc(b:Expr)(h:op≠.In:=by decide)(a:op≠.NotIn:=by decide):behindInMarks op b=false:=by
 have f:(op==CmpOp.In)=false:=by cases op<;>first|rfl|exact Xu rfl h
 have c:(op==CmpOp.NotIn)=false:=by cases op<;>first|rfl|exact Xu rfl a
 cases b<;>simp[behindInMarks,f,c]
def Wo(i:OpR X (compareOp op) r)(A:PE X a ta)(m:PE X b tb)(j:behindInMarks op b=false):PE X (.Compare a [op] [b] E) (tOp r ta tb):=by
 intro Y s O H Q I h;exact wpAny_Compare1 (Hw A m I h λv u c x y C B g f q=>i Y c O C x y v u Q B g f q) j
def Gi(t:TE):TT:=λO H Q=>t O H λx U=>∃k,x=.bl k/\Q k U
def Zl(C:OpR X (compareOp op) r)(P:PE X a ta)(M:PE X b tb)(K:behindInMarks op b=false):PT X (.Compare a [op] [b] E) (Gi<|tOp r ta tb):=by
 intro Y s O H Q I h;refine wpAny_isTrue_Compare1 (Q8 (P Y s O H _ I h) λv g ⟨x,L,l,m,B⟩=>Q8 (M Y g O L _ l B) λu f ⟨y,o,d,j,A⟩=>
  Q8 (C Y f O o x y v u _ d m j A) λc p ⟨z,n,W,i,k,e,q⟩=>?_) K
 subst e;cases i;exact wpAny_truthy_bool #[n,W,q]
def Kp(r c:R2)(ta tb tc:TE):TE:=λO H Q=>ta O H λx L=>tb O L λy g=>r x y g λz a=>∃k,z=.bl k/\
 (if k=true then tc O a λb f=>c y b f Q else Q (.bl false) a)
noncomputable def L7(t:OpR X (compareOp op) r)(f:OpR X (compareOp op') r')(G:PE X a ta)(F:PE X b tb)(D:PE X c tc)
(w:lastMarks [op,op'] [b,c]=false:=by with_unfolding_all rfl):PE X (.Compare a [op,op'] [b,c] E) (Kp r r' ta tb tc):=by
 intro Y s O H Q I h;refine Compare_chain (Q8 (G Y s O H _ I h) λv M ⟨x,L,R,l,p⟩=>chain_link (Q8 (F Y M O L _ R p) λu K ⟨y,T,N,g,o⟩=>
  Q8 (t Y K O T x y v u _ N l g o) λd C ⟨z,m,j,W,k,e,i⟩=>?_)) w
 subst e;cases W;refine wpAny_truthy_bool ?_;cases k with
 |false=>exact ite_ff #[.bl false,m,j,rfl,i]
 |true=>exact ite_tt (chain_last<|Q8 (D Y C O m _ j i)<|by rintro A B ⟨q,S,J,P,n⟩;exact f Y B O S y q u A Q J g P n)
def KO(F:OpR X (compareOp op) r)(f:OpR X (compareOp op') r')(R:PE X a ta)(N:PE X b tb)(J:PE X c tc)
(G:lastMarks [op,op'] [b,c]=false:=by with_unfolding_all rfl):PT X (.Compare a [op,op'] [b,c] E) (Gi<|Kp r r' ta tb tc):=by
 intro Y s O H Q I h;refine isTrue_chain (Q8 (R Y s O H _ I h) λv M ⟨x,L,I1,n,w⟩=>test_link (Q8 (N Y M O L _ I1 w) λu K ⟨y,H2,I2,g,t⟩=>
  Q8 (F Y K O H2 x y v u _ I2 n g t) λd C ⟨z,m,j,l,k,e,i⟩=>?_)) G
 subst e;cases l;refine wpAny_truthy_bool ?_;cases k with
 |false=>
  obtain⟨k',T,D⟩:=i;cases T;exact ite_ff #[m,j,D]
 |true=>
  refine ite_tt (test_last<|Q8 (J Y C O m _ j i) ?_);rintro A B ⟨q,H4,Z,W,p⟩;refine Q8 (f Y B O H4 y q u A _ Z g W p) ?_;rintro d' s5 ⟨z2,H5,U,P,k2,S,o⟩;subst S;cases P;exact wpAny_truthy_bool #[H5,U,o]
def Hi(K:W.Frag)(x:V)(H:Hp)(k:Bool):Prop:=
 match x with
 |.non=>k=false
 |.bl b=>k=b
 |.int i=>k=(i != 0)
 |.str y=>y.length<=sizeLine/\k=((y.length:Int) != 0)
 |.byt y=>y.size<=sizeLine/\k=((y.size:Int) != 0)
 |.ref p=>(∃xs,SqL K H p xs/\k = !xs.isEmpty)\/(∃xs,SqT K H p xs/\k = !xs.isEmpty)\/∃a,H p=some (.dK a)/\k = !a.isEmpty
 |_=>False
def Zot{a:Type}{kvs:List (a×V)}{vs:List (a×Value)}(r:KV kvs vs):(!vs.isEmpty) = !kvs.isEmpty:=by
 cases r<;>rfl
def FJ(r:Za xs its):(!its.toArray.isEmpty) = !xs.isEmpty:=by
 cases r<;>simp
def U4:(sizeLine:Nat)<2^63:=by rw[sizeLine_eq];decide
def AD:C8 X (λx H Q=>∃k,Hi X.K x H k/\Q k H):=by
 intro Y s O H x v Q I f h;obtain⟨k,e,q⟩:=h;have P:=sizeLine_eq;cases x with
 |non=>
  cases f;have a:=e;subst a;exact truthy_none #[H,I,q]
 |bl b=>
  cases f;have a:=e;subst a;exact wpAny_truthy_bool #[H,I,q]
 |int i=>
  obtain⟨t,rfl⟩:=f;have a:=e;subst a;exact PySem.P.truthy_int #[H,I,q]
 |str y=>
  obtain⟨t,rfl⟩:=f;obtain⟨E,a⟩:=e;subst a;exact PySem.P.truthy_str #[] #[H,I.tok _,q]
 |byt y=>
  obtain⟨t,rfl⟩:=f;obtain⟨E,a⟩:=e;subst a;exact W.truthy_bytes #[] #[H,I.tok _,q]
 |ref p=>
  cases f;have a:=e;rcases a with ⟨xs,g,a⟩|⟨xs,g,a⟩|⟨C,g,a⟩
  .subst a;obtain⟨A,r,j,B⟩:=I.list g;have c:=r.length;exact wpAny_truthy_list j.isList (by simp only[Xr];lia) #[H,I.tok _,by rw[FJ r];exact q]
  .subst a;obtain⟨A,r,j,B⟩:=I.tuple g;have c:=r.length;exact truthy_tuple j (by simp only[Xr];lia) #[H,I.tok _,by rw[FJ r];exact q]
  .subst a;obtain⟨B,K,M,r,m⟩:=I.hok p _ g;have c:=Paired.length r;exact wpAny_truthy_dict K m #[] #[H,I.tok _,by rw[Zot r];exact q]
 |_=>exact(e).elim
def Lr(i:PE X a ta)(he:∀b,isTrue a X.env b=(do let v <- b;standAt a.pos;holding [v] (truthy v))):
 PT X a (λO H Q=>ta O H λx U=>∃k,Hi X.K x U k/\Q k U):=by
 intro Y s O H Q I h;refine isTrue_plain (Q8 (i Y s O H _ I h) ?_) (he _);rintro v c ⟨x,L,j,f,g⟩;exact AD Y c O L x v Q j f g
def ZnW:OpR X (binaryOp .Add) (λx y H Q=>∃i j,x=.str i/\y=.str j/\i.length+j.length<=sizeLine/\Q (.str<|i++j) H):=by
 intro Y s O H x y v u Q I c b h;obtain⟨i,j,rfl,rfl,f,q⟩:=h;obtain⟨t,rfl⟩:=c;obtain⟨a,rfl⟩:=b;exact add_str (λa g=>#[.str<|i++j,H,I.tok _,#[_,rfl],q]) f
def VL(r:Za [x] us):∃u,us=[u]/\QR x u:=by
 cases r with
 |cons b a=>cases a;exact#[_,rfl,b]
def Uv(r:Za [x,y] us):∃u a,us=[u,a]/\QR x u/\QR y a:=by
 cases r with
 |cons g f=>
  cases f with
  |cons c b=>cases b;exact#[_,_,rfl,g,c]
def ZqI(b:X.calm=true):ZE X (.builtin "max") (λxs H Q=>∃i j,xs=[.int i,.int j]/\Q (.int (if j > i then j else i)) H):=by
 intro Y s O H xs f Q I r h;obtain⟨i,j,rfl,q⟩:=h;obtain⟨u,c,rfl,⟨t,rfl⟩,⟨m,rfl⟩⟩:=Uv r;refine max_two_ints (I.ok.hd b) λh' g k=>#[_,H,I.kept k,?_,q]
 by_cases a:j > i
 .rw[Xi a,Xi a];exact#[_,rfl]
 .rw[Xg a,Xg a];exact#[_,rfl]
def ZqJ(b:X.calm=true):ZE X (.builtin "min") (λxs H Q=>∃i j,xs=[.int i,.int j]/\Q (.int (if j<i then j else i)) H):=by
 intro Y s O H xs f Q I r h;obtain⟨i,j,rfl,q⟩:=h;obtain⟨u,c,rfl,⟨t,rfl⟩,⟨m,rfl⟩⟩:=Uv r;refine min_two_ints (I.ok.hd b) λh' g k=>#[_,H,I.kept k,?_,q]
 by_cases a:j<i
 .rw[Xi a,Xi a];exact#[_,rfl]
 .rw[Xg a,Xg a];exact#[_,rfl]
def ZpE:ZE X (.type "int") (λxs H Q=>(∃i,xs=[.int i]/\Q (.int i) H)\/∃k,xs=[.bl k]/\Q (.int (if k then 1 else 0)) H):=by
 intro Y s O H xs b Q I r h;rcases h with ⟨i,rfl,q⟩|⟨k,rfl,q⟩
 .obtain⟨u,rfl,t,rfl⟩:=VL r;exact call_int_int #[.int i,H,I,#[_,rfl],q]
 .obtain⟨u,rfl,a⟩:=VL r;cases a;exact call_int_bool #[.int _,H,I.tok _,#[_,rfl],q]
end
end L2
namespace L2
structure ObjM(h:Heap)(x D C:Addr)(mA:Str->Qf):Prop where
 obj:h.get? x=some (W.instObj C D)
 ns:h.Ns1 D mA
 ne:D≠x
def Fm(n:h.Ns1 D mA):∃od,h.get? D=some od/\∀name,W.lookIn name od=some (mA name):=by
 obtain⟨o,es,s,g,m,j,_,i⟩:=n;refine#[o,g,λname=>?_];have e:=i name;unfold nsFind findBy at e;rw[<- Array.find?_toList]at e;unfold W.lookIn;rw[m];dsimp only;split
 .rename_i y q;rw[q]at e;exact Xz some e
 .rename_i q;rw[q]at e;have a:es.toList.any (·.refKey)=false:=by
   rw[List.any_eq_false];intro y f;obtain⟨z,t,c⟩:=j y (Array.mem_toList_iff.mp f);simp[DictEntry.refKey,c]
  grind
def ObjM.look(I:ObjM h x D C mA):∃od,W.InstAt h x (W.instObj C D) C (some od)/\∀name,W.lookIn name od=some (mA name):=
 let ⟨od,ho,hl⟩:=Fm I.ns
 #[od,#[I.obj,rfl,rfl,ho],hl]
section
variable {w:World}{pos:Qb}{x D f:Addr}{mA:Str->Qf}{name:Str}{v:Value}
def IC(X:K.In s.heap)(I:ObjM s.heap x D C mA)(j:W.plainGet K C name=true)(i:W.hasDictIn K C=true)
(m:W.findIn K (.ref C) name=some none)(f:mA name=some v)(c:W.handedIn v=true)(h:Q v { s with toks:=s.toks+1 }):
 wpAny (model prog w) A (getAttr (.ref x) name expr) Q pos s:=by
 obtain⟨q,J,g⟩:=I.look;exact W.get_value X J (W.plainGet_of j).1 (W.findObj_own i m rfl (by rw[g,f])) c h
def ZrK(X:K.In s.heap)(I:ObjM s.heap x D C mA)(c:W.plainGet K C name=true)
(q:W.findIn K (.ref C) name=some (some<|.ref f))(j:W.isFn K (.ref f)=true)(i:mA name=none)(h:Q (.ref f,[.ref x]) s):
 wpAny (model prog w) A (getMethod (.ref x) name pl) Q pos s:=by
 obtain⟨g,J,m⟩:=I.look;exact W.method_fn X J (W.plainGet_of c).1 (W.plainGet_of c).2 q (beq_iff_eq.mp j) (by show(W.lookIn name g).map _=some false;rw[m,i];rfl) h
def Ii(X:K.In s.heap)(I:ObjM s.heap x D C mA)
(E:W.findIn K (.ref C) "__setattr__"=some (some<|.builtin "object.__setattr__"))(M:W.plainOver K C=true)(B:W.takerIn K C name=some none)(P:W.hasDictIn K C=true)
(hw:PySem.Within mA ns)(hsz:ns.length<=sizeLine)
(h:∀h',ObjM h' x D C (λy=>if y=name then some v else mA y)->Heap.SameBut D s.heap h'->Q () { s with heap:=h',toks:=s.toks+2 }):
 wpAny (model prog w) A (setAttr (.ref x) name v) Q pos s:=by
 obtain⟨e,J,l⟩:=I.look;refine W.set_plain X J E (W.osa_open X J M B λb=>?_);obtain⟨cd,Y,j⟩:=W.any_some P;have q:=I.obj;refine Xa (Xm<|Xa<|Xa<|wpAny_loadPart q<|Xa<|W.Looks.here (W.looks_clsIn X Y) ?_);rw[j];refine Xm (Xa<|Xm<|Xa ?_);refine wpAny_nsSet1 I.ns λh' f c=>?_;obtain⟨k,a,d,g,i,m⟩:=f.count (PySem.Within.cons name v hw);refine Xa (wpAny_lookBehind g (by rw[i];exact pastItsLine_dict<|Xl m<|by rw[XT];lia) ?_);exact Xm (h _ #[(c.2 _<|Ne.symm I.ne).trans I.obj,f,I.ne] c)
def On(X:K.In s.heap)(g:W.makesIn K C=true)
(i:W.findIn K (.ref C) "__init__"=some (some<|.ref f))(j:W.typeIn K (.ref f)=some (.type "function"))
(h:codeAny (model prog w) (A.under<|.builtin "type.__call__" #[.ref C::vs,kw]) (.call (.ref f) #[.ref (s.heap.objs.size+1)::vs,kw]) (W.InitBack (s.heap.objs.size+1) R)
  { s with heap:=(s.heap.push W.emptyDict).push (W.instObj C s.heap.objs.size) }):
 codeAny (model prog w) A (.call (.ref C) #[vs,kw]) R s:=W.make_core (W.makes_of X g) (W.looks_findIn X i) (λc=>W.bind_fn X c j) (.inl rfl) h
end
noncomputable def VZ(f:Str)(v:V):List (Str×V)->List (Str×V)
 |[]=>[(f,v)]
 |(g,x)::r=>if g=f then (g,v)::r else (g,x)::VZ f v r
theorem Cf(f g:Str)(v:V):∀j:List (Str×V),(VZ f v j).lookup g=if g=f then some v else j.lookup g
 |[]=>by
  show List.lookup g [_]=_
  by_cases h:g=f
  .have c:=beq_iff_eq.mpr h;simp only[List.lookup,c,Xi h]
  .have c:=beq_eq_false_iff_ne.mpr h;simp only[List.lookup,c,Xg h]
 |(k,x)::r=>by
  have m:=Cf f g v r;rw[show VZ f v _=(if k=f then _::r else _::VZ f v r) from rfl];by_cases i:k=f
  .rw[Xi i]
   by_cases h:g=k
   .have c:=beq_iff_eq.mpr h;simp only[List.lookup,c,Xi<|h.trans i]
   .have c:=beq_eq_false_iff_ne.mpr h;simp only[List.lookup,c,Xg λe:g=f=>h<|e.trans i.symm]
  .rw[Xg i]
   by_cases h:g=k
   .have c:=beq_iff_eq.mpr h;simp only[List.lookup,c,Xg λe:g=f=>i<|h.symm.trans e]
   .have c:=beq_eq_false_iff_ne.mpr h;simp only[List.lookup,c];exact m
theorem NE(f:Str)(v:V):∀c:List (Str×V),f∈(VZ f v c).map (·.1)/\∀g,g∈c.map (·.1)->g∈(VZ f v c).map (·.1)
 |[]=>⟨by simp[VZ],λg h=>by simp at h⟩
 |(k,x)::r=>by
  obtain _:=NE f v r;rw[show VZ f v _=(if k=f then _::r else _::VZ f v r) from rfl];grind
theorem FZ(f:Str)(v:V):∀c:List (Str×V),(VZ f v c).length<=c.length+1
 |[]=>by simp[VZ]
 |(k,x)::r=>by
  have g:=FZ f v r;rw[show VZ f v _=(if k=f then _::r else _::VZ f v r) from rfl];by_cases h:k=f
  .simp_all
  .simp_all
def Vk.some_of(r:Vk (some v) o):∃u,o=some u/\QR v u:=by
 cases o with
 |none=>exact(r).elim
 |some u=>exact#[u,rfl,r]
def Vk.none_of(r:Vk none o):o=none:=by
 cases o with
 |none=>rfl
 |some u=>exact(r).elim
def Zqu(r:QR v u):W.handedIn u=true:=by
 cases v with
 |non=>cases (r);rfl
 |bl b=>cases (r);rfl
 |int i=>obtain⟨t,e⟩:=(r);cases e;rfl
 |str x=>obtain⟨t,e⟩:=(r);cases e;rfl
 |byt b=>obtain⟨t,e⟩:=(r);cases e;rfl
 |flt b=>obtain⟨t,e⟩:=(r);cases e;rfl
 |ref a=>cases (r);rfl
 |ty n=>cases (r);rfl
section
variable {w:World}{H:Hp}{a D:Addr}{fs:List (Str×V)}
def KB(g:HOk P w H h)(e:H a=some (.ins C D fs)):∃c,ObjM h a D C c/\(∀f,Vk (fs.lookup f)<|c f)/\PySem.Within c (fs.map (·.1))/\fs.length<=1000/\H D=some (.own a):=by
 obtain⟨d,z,j,i,c,n,r,q⟩:=(g a _ e)
 exact#[c,#[i,n,j],r,q,z,d]
end
structure Cls(K:W.Frag)(C:Addr):Prop where
 pg:W.plainGet K C Str.empty=true
 hd:W.hasDictIn K C=true
 po:W.plainOver K C=true
 sa:W.findIn K (.ref C) "__setattr__"=some (some<|.builtin "object.__setattr__")
def Cls.get(c:Cls K C)(f:Str):W.plainGet K C f=true:=c.pg
def Vt(K:W.Frag)(C:Addr)(f:Str):Prop:=W.findIn K (.ref C) f=some none
def Vt.taker(n:Vt K C f):W.takerIn K C f=some none:=by
 unfold W.takerIn;rw[show W.findIn K _ f=some none from n];rfl
structure Meth(K:W.Frag)(C:Addr)(m:Str)(f:Addr):Prop where
 at_:W.findIn K (.ref C) m=some (some<|.ref f)
 fn:W.isFn K (.ref f)=true
 kp:W.keepIn K (.ref f)=true
section
variable {O:St}{H:Hp}{a D:Addr}{fs:List (Str×V)}{v:V}{pos:Qb}
def FW{b:Bool}(I:Qt X Y O H s)(e:H a=some (.ins C D fs))(c:Cls X.K C)(n:Vt X.K C f)(l:fs.lookup f=some v)
(h:∀u g,Qt X Y O H g->QR v u->Q u g):wpAny (model X.prog X.w) A (getAttr (.ref a) f b) Q pos s:=by
 obtain⟨q,j,r,_,_,_⟩:=KB I.hok e;obtain⟨u,m,i⟩:=Vk.some_of (by rw[<- l];exact r f);exact IC I.kIn j (c.get f) c.hd n m (Zqu i) (h u _ (I.tok _) i)
def NR{g:Addr}(I:Qt X Y O H s)(e:H a=some (.ins C D fs))(c:Cls X.K C)(k:Meth X.K C m g)(l:fs.lookup m=none)
(h:Q (.ref g,[.ref a]) s):wpAny (model X.prog X.w) A (getMethod (.ref a) m pl) Q pos s:=by
 obtain⟨j,f,r,_,_,_⟩:=KB I.hok e;have i:=Vk.none_of (by rw[<- l];exact r m);exact ZrK I.kIn f (c.get m) k.at_ k.fn i h
def FM(I:Qt X Y O H s)(e:H a=some (.ins C D fs))(c:Cls X.K C)(n:Vt X.K C f)(l:fs.length<1000)(K:QR y u)
(h:∀v,Qt X Y O (upd H a<|.ins C D<|VZ f y fs) v->Q () v):wpAny (model X.prog X.w) A (setAttr (.ref a) f u) Q pos s:=by
 obtain⟨k,i,r,m,_,B⟩:=KB I.hok e;have M:(fs.map (·.1)).length<=sizeLine:=by rw[Xf,sizeLine_eq];lia
 refine Ii I.kIn i c.sa c.po n.taker c.hd m M λh' j E=>h _ ?_;have W:∃o,h'.get? D=some o:=let ⟨o,_,_,e',_⟩:=j.ns;#[o,e'];refine I.write (by rw[e];exact True.intro) (.inr B) (λb q d z=>(E.2 b d).trans z) W ?_;refine#[by rw[Qu i.ne];exact B,?_,i.ne,j.obj,_,j.ns,λg=>?_,λg P=>?_]
 .have:=FZ f y fs;lia
 .rw[Cf]
  by_cases q:g=f
  .rw[Xi q,Xi q];exact K
  .simp_all
 .by_cases q:g=f
  .rw[q];exact(NE f y fs).1
  .refine(NE f y fs).2 g (m g λz=>P ?_);simp_all
def Qt.made(I:Qt X Y O H s):Qt X Y O (upd (upd H s.heap.objs.size<|.own<|s.heap.objs.size+1) (s.heap.objs.size+1)<|.ins C s.heap.objs.size [])
 { s with heap:=(s.heap.push W.emptyDict).push (W.instObj C s.heap.objs.size) }:=by
 have c:(s.heap.push W.emptyDict).get? s.heap.objs.size=some W.emptyDict:=Xt s.heap rfl;have i:=by
  have:=Xt (s.heap.push W.emptyDict) (o:=W.instObj C s.heap.objs.size) rfl;rwa [X9]at this
 have h:(s.heap.push W.emptyDict).Ns s.heap.objs.size _:=#[W.emptyDict,(List.toArray []),_,c,rfl,(λe g=>Xu g<|by simp),λ_=>rfl];have j:=I.laid (o:=.own (s.heap.objs.size+1)) (t':=s.toks) (λb u q=>Xd _ q) (Xn _) #[_,c];refine j.laid (λb u q=>Xd _ q) (Nat.le_of_eq<|X9 _ _) ?_;have a:s.heap.objs.size≠s.heap.objs.size+1:=Xs (J7 _);refine#[by rw[Qu a,QG],XN _,a,i,λ_=>none,(Heap.Ns1.of_empty h).at λo q=>Xd _ q,λ_=>True.intro,λy f=>Xu rfl f]
def E4(a:attributeBase e f env (eval e env)=eval e env)
(h:wpAny (model prog w) A (eval e env) (λo c=>wpAny (model prog w) A (getAttr o f true) Q pos c) pos s):wpAny (model prog w) A (eval (.Attribute e f E) env) Q pos s:=
 Attribute_any_ h (by rw[arm_eval_Attribute,a])
end
def ZZ(K:W.Frag)(ta:TE)(f:Str):TE:=λO H Q=>ta O H λx L=>∃a C D c v,x=.ref a/\L a=some (.ins C D c)/\Cls K C/\Vt K C f/\c.lookup f=some v/\Q v L
def Sd(K:W.Frag)(ta tv:TE)(f:Str):TS:=λh O H=>tv O H λy L=>ta O L λx g=>∃a C D c,x=.ref a/\g a=some (.ins C D c)/\Cls K C/\Vt K C f/\c.length<1000/\
 h.nx O (upd g a<|.ins C D<|VZ f y c)
def Sm(X:Cx)(f:Operator)(c:V->V->Hp->VK->Prop):Prop:=
 ∀(Y:Qc) (s:Shared) (O:St) (H:Hp) (x y:V) (u v:Value) (Q:VK),Qt X Y O H s->QR x u->QR y v->c x y H Q->wpAny (model X.prog X.w) X.A (inplaceOp f u v) (EP X Y O Q) X.xe s
def TD(K:W.Frag)(ta tv:TE)(j:V->V->Hp->VK->Prop)(f:Str):TS:=λm O H=>ta O H λx L=>∃a C D h v,x=.ref a/\L a=some (.ins C D h)/\Cls K C/\Vt K C f/\h.lookup f=some v/\
 tv O L λy q=>j v y q λz i=>∃g c,i a=some (.ins C g c)/\c.length<1000/\m.nx O (upd i a<|.ins C g<|VZ f z c)
section
variable {o e value:Expr}{tpos:Pos}
def Zg(he:PE X e ta)(j:attributeBase e f X.env (eval e X.env)=eval e X.env:=by rfl):PE X (.Attribute e f E) (ZZ X.K ta f):=by
 intro Y s O H Q I h;refine E4 j (Q8 (he Y s O H _ I h) ?_);rintro u M ⟨x,L,A,g,a,C,D,P,v,m,o,c,n,l,q⟩;subst m;obtain rfl:=g;exact FW A o c n l λB K y i=>#[v,L,y,i,q]
def Wx(B:PE X o ta)(m:PE X value tv)(A:swapsWith value (some<|.Attribute o f pos') E.line X.env=pure false):PS X (.Assign [.Attribute o f pos'] value E) (Sd X.K ta tv f):=by
 intro Y s O H t I h;refine plainObj_wpAny_Assign_Attribute (Q8 (m Y s O H _ I h) ?_) A;rintro u e ⟨y,L,b,g,q⟩;refine Q8 (B Y e O L _ b q) ?_;rintro p k ⟨x,v,W,i,a,C,D,r,K,M,c,n,l,j⟩;subst K;obtain rfl:=i;exact FM W M c n l g λd P=>#[O,_,P,j]
def Fn(k:PE X o ta)(d:PE X value tv)(e:Sm X op rd):PS X (.AugAssign (.Attribute o f tpos) op value E) (TD X.K ta tv rd f):=by
 intro Y s O H dx I h;refine wpAny_AugAssign_AttributeAny (Q8 (k Y s O H _ I h) ?_);rintro ov Z ⟨x,L,Q,K,a,C,D,fs,v,r,t,c,n,l,q⟩;subst r;obtain rfl:=K;refine FW Q t c n l λu m N M=>Q8 (d Y m O L _ N q) ?_;rintro i j ⟨y,R,J,B,W⟩;refine Q8 (e Y j O R v y u i _ J M B W) ?_;rintro S U ⟨z,H3,G,A,w,p,g,b,P⟩;exact FM G g c n b A λT F=>#[O,_,F,P]
def Sg:V->V->Hp->VK->Prop:=λx y H Q=>∃i j,x=.int i/\y=.int j/\Q (.int<|i+j) H
def Te:Sm X .Add Sg:=by
 rintro Y s O H x y u v Q I e c ⟨i,j,rfl,rfl,q⟩;obtain⟨t,rfl⟩:=(e);obtain⟨f,rfl⟩:=(c);exact PyProof.Rows.iadd_int #[.int _,H,I.tok _,#[_,rfl],q]
end
end L2
namespace L2
structure Room(k:Nat)(A:Around):Prop where
 hd:A.handled=none
 dp:A.depth+3*k+5<recursionLimit
 un:A.units+16*k+200<cLine
def Room.mono(r:Room k A)(h:j<=k):Room j A:=#[r.hd,by have:=r.dp;lia,by have:=r.un;lia]
def Room.deeper(r:Room (k+1) A)(env:Env):Room k (A.deeper env):=
 #[r.hd,by have:=r.dp;show A.depth+1+3*k+5<_;lia,by have:=r.un;show A.units+3+16*k+200<_;lia]
def ZnC   : (A.under<|.builtin "type.__call__" #[.ref C::us,kw]).depth=A.depth+1:=by
 first|rfl|simp[ guardIds]
def ZnT   : (A.under<|.builtin "type.__call__" #[.ref C::us,kw]).units=A.units+1:=by
 first|rfl|simp[Around.under]
def Room.make  (r:Room (k+1) A)(C:Addr)(us:Qe)(c:List (Str×Value)):Room k (A.under<|.builtin "type.__call__" #[.ref C::us,c]):=
 #[r.hd,by have:=r.dp;rw[ZnC];lia,by have:=r.un;rw[ZnT];lia]
def Room.depth(r:Room k A):A.depth<recursionLimit:=by have:=r.dp;lia
def Room.units(r:Room k A):A.units+64<cLine:=by have:=r.un;lia
def QT:TA:=λ_ H Q=>Q [] H
def QM(ta:TE)(c:TA):TA:=λO H Q=>ta O H λx L=>c O L λxs f=>Q (x::xs) f
section
variable {e:Expr}{t:TA}
def Qr:PA X [] QT:=λ_ _ _ _ H Q I h=>Calls.spliced_nil #[[],H,I,.nil,h]
abbrev zs(X:Cx)(e:Expr)(es:List Expr):Prop:=starEach (e::es) X.env=(false,eval e X.env)::starEach es X.env
abbrev zb(X:Cx)(pos:Pos)(es:List Expr):Prop:=(backTo pos<|starEach es X.env).any (·.1)=false
def Qs(y:PE X e te)(q:PA X es t)(m:zs X e es:=by rfl):PA X (e::es) (QM te t):=by
 intro E Y s O H Q I h;rw[m];show wpAny _ _ (spliced ((false,eval e X.env)::backTo E _)) _ _ s;refine Calls.spliced_cons (Q8 (y Y s O H _ I h) ?_);rintro u c ⟨x,L,B,g,j⟩;refine Q8 (q E Y c O L _ B j) ?_;rintro K M ⟨xs,C,A,f,i⟩;exact#[x::xs,C,A,.cons g f,i]
def Ut(t:TA):TE:=λO H Q=>t O H λxs L=>xs.length<=sizeLine/\∀p,L p=none->Q (.ref p) (upd L p<|.tup xs)
def UZ(t:TA):TE:=λO H Q=>t O H λxs L=>xs.length<=sizeLine/\∀p,L p=none->Q (.ref p) (upd L p<|.lst xs)
def Yv{x1}(h:PA X es t):PE X (.Tuple es x1 E) (Ut t):=by
 intro Y s O H Q I i;refine wpAny_Tuple_spliced (Q8 (h E Y s O H _ I i) ?_);rintro g c ⟨xs,L,f,r,z,q⟩;refine#[by rw[<- r.length];exact z,?_];have j:=f.hok.fresh (Xn _);refine#[.ref c.heap.objs.size,upd L c.heap.objs.size _,f.laid (λb u e=>Xd _ e) (Xn _) ?_,rfl,q _ j];exact#[z,g,r,#[_,Xt _ rfl,rfl,_,rfl]]
def ZM(h:PA X es t):PE X (.List es E) (UZ t):=by
 intro Y s O H Q I i;refine wpAny_List_spliced (Q8 (h E Y s O H _ I i) ?_);rintro g c ⟨xs,L,f,r,z,q⟩;refine#[by rw[<- r.length];exact z,?_];have j:=f.hok.fresh (Xn _);refine#[.ref c.heap.objs.size,upd L c.heap.objs.size _,f.laid (λb u e=>Xd _ e) (Xn _) ?_,rfl,q _ j];exact#[z,g,0,r,Xt _ rfl]
end
abbrev Sp:=List V->Hp->VK->XK->Prop
abbrev CXT:=List Env->Hp->Shared->XK->Qb
structure Env0(P:Program)(w:World)(K:W.Frag)(mg:Str->Qf)(base:Heap)(A:Around)(outer:List Env)(s:Shared)(H:Hp):Prop where
 frames:A.frames=some outer
 mod:Mod K mg base
 bs:∀b o,base.get? b=some o->s.heap.get? b=some o/\(H b=none\/∃xs,H b=some (.tup xs))
 bsz:base.objs.size<=s.heap.objs.size
 funs:s.heap.FunFrames base outer
 frf:∀b∈frs outer,H b=none
 hok:HOk P w H s.heap
 bare:AllBare s.gens
def CE(outer:List Env)(P:Program)(w:World)(H:Hp)(s:Shared)(Q:VK)(u:Value)(c:Shared):Prop:=
 ∃v U,c.os=s.os/\AllBare c.gens/\Un (frs outer) [] H U s.heap c.heap/\HOk P w U c.heap/\QR v u/\Q v U
def CR(g:CXT)(outer:List Env)(P:Program)(w:World)(H:Hp)(s:Shared)(Q:VK)(c:XK)(r:Result)(f:Shared):Prop:=
 match r with
 |.ok (.ret u)=>CE outer P w H s Q u f
 |.ok _=>False
 |.error e=>g outer H s c e f
structure FnOk(P:Program)(w:World)(K:W.Frag)(mg:Str->Qf)(base:Heap)(CX:CXT)(k:Nat)(f:Addr)(fd:FuncData)(ps:Qh)(sp:Sp):Prop where
 len:∀vs H Q pos,sp vs H Q pos->vs.length=ps.length
 run:∀(A:Around) (outer:List Env) (s:Shared) (H:Hp) (args:Args) (us:Qe) (vs:List V) (Q:VK) (pos:XK),Room k A->Env0 P w K mg base A outer s H->BindsTo s fd args (ps.zip us)->Za vs us->sp vs H Q pos->
  codeAny (model P w) A (.call (.ref f) args) (CR CX outer P w H s Q pos) s
def Env0.make(e:Env0 P w K mg base A outer s H)(C:Addr)(us:Qe)(c:List (Str×Value)):
 Env0 P w K mg base (A.under<|.builtin "type.__call__" #[.ref C::us,c]) outer s H:=#[by first|exact e.frames|(simpa [ pushEnvs] using e.frames),e.mod,e.bs,e.bsz,e.funs,e.frf,e.hok,e.bare]
section
variable {O:St}{H:Hp}{s':Shared}
def Qt.env0(I:Qt X Y O H s):Env0 X.prog X.w X.K X.mg X.base X.A X.stack s H:=
 #[I.ok.frames,I.ok.mod,I.bs,Xl I.ok.bsz I.sz,I.stack,I.stkFree,I.hok,I.bare]
def Qt.after(I:Qt X Y O H s)(h:CE X.stack X.prog X.w H s Q u s'):EP X Y O Q u s':=by
 obtain⟨v,U,m,c,i,f,r,q⟩:=h;obtain⟨y,g,d,t,j⟩:=s';obtain rfl:=m;exact#[v,U,I.call i f c (λb z=>Xu z<|by simp),r,q]
end
def Ve(h:Sp)(f:List V)(c:XK)(t:TA):TE:=λO H Q=>t O H λg L=>h (g++f) L Q c
def ZV(C:Addr)(m:Str)(i:Sp)(f:List V)(c:XK)(ta:TE)(t:TA):TE:=λO H Q=>ta O H λx L=>∃a D g,x=.ref a/\L a=some (.ins C D g)/\g.lookup m=none/\
 t O L λh j=>i (x::(h++f)) j Q c
def JL(C:Addr)(h:Sp)(f:List V)(c:XK)(t:TA):TE:=λO H Q=>t O H λg L=>∀x D,L x=none->L D=none->D≠x->
 h (.ref x::(g++f)) (upd (upd L D<|.own x) x<|.ins C D []) (λv i=>v=.non/\Q (.ref x) i) c
def Va(K:W.Frag)(fd:FuncData)(ps:Qh)(ds:Qe):Prop:=
 ∀(s:Shared) (c:Qe),K.In s.heap->(c++ds).length=ps.length->BindsTo s fd #[c,[]] (ps.zip<|c++ds)
def Va.all(h:∀us:Qe,us.length=ps.length->bindArgs fd #[us,[]]=pure (ps.zip us)):Va K fd ps []:=λs us _ c=>by
 rw[Xw]at c ⊢;exact .of_eq (h us c)
def Ye(g:CXT)(X:Cx)(c:XK):Prop := ∀(Y:Qc) (O:St) (H:Hp) (s:Shared) (e:Value) (f:Shared),Qt X Y O H s->g X.stack H s c e f->X.xe e f
section
variable {CX:CXT}{k:Nat}{f:Addr}{sp:Sp}{dvs:List V}{ds:Qe}{pos:XK}{x:Str}{p:Pos}{e o:Expr}{t:TA}
def Kc{O:St}{H:Hp}{Q:VK}{us:Qe}{vs:List V}(F:FnOk X.prog X.w X.K X.mg X.base CX k f fd ps sp)(m:Room k X.A)(q:Va X.K fd ps ds)(p:Za dvs ds)(j:Ye CX X pos)
(I:Qt X Y O H s)(r:Za vs us)(h:sp (vs++dvs) H Q pos):wpAny (model X.prog X.w) X.A (call (.ref f) us) (EP X Y O Q) X.xe s:=by
 have g:=r.append p;have o:(us++ds).length=ps.length:=by rw[<- g.length];exact F.len _ _ _ _ h
 refine wpAny_call (codeAny_mono (F.run X.A X.stack s H _ _ _ Q pos m I.env0 (q s us I.kIn o) g h) λr i c=>?_);cases r with
 |error e=>exact j Y O H s e i I c
 |ok t=>
  cases t with
  |ret u=>exact I.after c
  |next=>exact False.elim c
  |brk=>exact False.elim c
  |cont=>exact False.elim c
def Tu(F:FnOk X.prog X.w X.K X.mg X.base CX k f fd ps sp)(j:Room k X.A)(y:Gl X x)(m:X.mg x=some (.ref f))(o:W.keepIn X.K (.ref f)=true)(B:Va X.K fd ps ds)(A:Za dvs ds)(i:Ye CX X pos)
(C:PA X (e::es) t)(c:(x==("__debug__" : Str))=false:=by decide)(he:zs X e es:=by rfl)(hpl:(backTo E<|starEach es X.env).any (·.1)=false:=by rfl):
 PE X (.Call (.Name x p) (e::es) [] E) (Ve sp dvs pos t):=by
 intro Y s O H Q I h;refine wpAny_Call_Name_kw (WT I y m ?_ c);refine W.callWith_K I.ok.mod.kin o (Q8 (C E Y s O H _ I h) ?_) he hpl;rintro M P ⟨K,L,g,r,q⟩;refine#[g.kIn,?_];exact Kc F j B A i g r q
def KL{K:Sem Bool}(he:PE X o ta)(c:Cls X.K C)(i:Meth X.K C m f)(F:FnOk X.prog X.w X.K X.mg X.base CX k f fd ps sp)(b:Room k X.A)(n:Va X.K fd ps ds)(d:Za dvs ds)(M:Ye CX X pos)(v:PA X (e::es) t)
(g:zs X e es:=by rfl)(hpl:(backTo E<|starEach es X.env).any (·.1)=false:=by rfl)
(P:eval (.Call (.Attribute o m X3) (e::es) [] E) X.env=(do
  let ov <- eval o X.env
  standAt X3.atName
  let (f,first) <- holding [ov] (getMethod ov m K)
  callWith E f first (backTo E<|starEach (e::es) X.env)<|backToKw E<|keywordEach [] X.env):=by rfl):
 PE X (.Call (.Attribute o m X3) (e::es) [] E) (ZV C m sp dvs pos ta t):=by
 intro Y s O H Q I h;refine W.methodCall_KW (Q8 (he Y s O H _ I h) ?_) P;rintro u y ⟨x,L,p,A,a,D,N,w,z,l,q⟩;subst w;obtain rfl:=A;refine NR p z c i l ?_;refine W.callWith_K I.ok.mod.kin i.kp (Q8 (v E Y y O L _ p q) ?_) g hpl;rintro G J ⟨vs,R,j,r,B⟩;refine#[j.kIn,?_];exact Kc (vs:=.ref a::vs) F b n d M j (.cons rfl r) B
def LP{j:Sem Bool}(he:PE X o ta)(c:Cls X.K C)(g:Meth X.K C m f)(F:FnOk X.prog X.w X.K X.mg X.base CX k f fd ps sp)(y:Room k X.A)(B:Va X.K fd ps ds)(A:Za dvs ds)(p:Ye CX X pos)
(t:eval (.Call (.Attribute o m X3) [] [] E) X.env=(do
  let ov <- eval o X.env
  standAt X3.atName
  let (f,first) <- holding [ov] (getMethod ov m j)
  callWith E f first (backTo E<|starEach [] X.env)<|backToKw E<|keywordEach [] X.env):=by rfl):
 PE X (.Call (.Attribute o m X3) [] [] E) (ZV C m sp dvs pos ta QT):=by
 intro Y s O H Q I h;refine W.methodCall_KW (Q8 (he Y s O H _ I h) ?_) t;rintro u P ⟨x,L,e,i,a,D,b,K,M,l,q⟩;subst K;obtain rfl:=i;refine NR e M c g l ?_;exact W.callWith_K0 e.kIn g.kp (Kc (vs:=[.ref a]) F y B A p e (.cons rfl .nil) q)
structure Mk(K:W.Frag)(C f:Addr):Prop where
 makes:W.makesIn K C=true
 init:W.findIn K (.ref C) "__init__"=some (some<|.ref f)
 fn:W.isFn K (.ref f)=true
 kp:W.keepIn K (.ref C)=true
def L6{O:St}{H:Hp}{Q:VK}{us:Qe}{vs:List V}(M:Mk X.K C f)(F:FnOk X.prog X.w X.K X.mg X.base CX k f fd ps sp)(t:Room (k+1) X.A)(B:Va X.K fd ps ds)(A:Za dvs ds)
(q:Ye CX X pos)(I:Qt X Y O H s)(r:Za vs us)
(h:∀x D,H x=none->H D=none->D≠x->sp (.ref x::(vs++dvs)) (upd (upd H D<|.own x) x<|.ins C D []) (λv W=>v=.non/\Q (.ref x) W) pos):
 wpAny (model X.prog X.w) X.A (call (.ref C) us) (EP X Y O Q) X.xe s:=by
 have j:=h (s.heap.objs.size+1) s.heap.objs.size (I.hok.fresh<|GR _) (I.hok.fresh<|Xn _) (Xs<|J7 _);have g:=Qt.made (C:=C) I;have i:Za (V.ref (s.heap.objs.size+1)::_) _:=.cons rfl (r.append A);have y:=by
  have e:=i.length;rw[F.len _ _ _ _ j]at e;exact e.symm
 refine wpAny_call (On I.kIn M.makes M.init (beq_iff_eq.mp M.fn) (codeAny_mono (F.run _ X.stack _ _ _ _ _ _ pos (t.make C us [])
  (g.env0.make C us []) (B _ _ g.kIn y) i j) λr m c=>?_))
 cases r with
 |error e=>exact q Y O _ _ e m g c
 |ok E=>
  cases E with
  |ret u=>
   obtain⟨v,U,P,o,K,p⟩:=g.after c;subst K;exact#[o,#[V.ref _,U,P,rfl,p]]
  |next=>exact False.elim c
  |brk=>exact False.elim c
  |cont=>exact False.elim c
def To(M:Mk X.K C f)(F:FnOk X.prog X.w X.K X.mg X.base CX k f fd ps sp)(j:Room (k+1) X.A)(o:Gl X x)(m:X.mg x=some (.ref C))(A:Va X.K fd ps ds)(y:Za dvs ds)(i:Ye CX X pos)
(B:PA X (e::es) t)(c:(x==("__debug__" : Str))=false:=by decide)(he:zs X e es:=by rfl)(hpl:(backTo E<|starEach es X.env).any (·.1)=false:=by rfl):
 PE X (.Call (.Name x p) (e::es) [] E) (JL C sp dvs pos t):=by
 intro Y s O H Q I h;refine wpAny_Call_Name_kw (WT I o m ?_ c);refine W.callWith_K I.ok.mod.kin M.kp (Q8 (B E Y s O H _ I h) ?_) he hpl;rintro P a ⟨K,L,g,r,q⟩;refine#[g.kIn,?_];exact L6 M F j A y i g r q
def Og(M:Mk X.K C f)(F:FnOk X.prog X.w X.K X.mg X.base CX k f fd ps sp)(g:Room (k+1) X.A)(j:Gl X x)(i:X.mg x=some (.ref C))(o:Va X.K fd ps ds)(m:Za dvs ds)(e:Ye CX X pos)
(c:(x==("__debug__" : Str))=false:=by decide):PE X (.Call (.Name x p) [] [] E) (JL C sp dvs pos QT):=by
 intro Y s O H Q I h;refine wpAny_Call_Name_kw (WT I j i ?_ c);exact W.callWith_K0 I.kIn M.kp (L6 (us:=[]) M F g o m e I .nil h)
end
structure Qo(N P:Qh)(sc:Scope):Prop where
 kind:sc.kind=.function
 co:sc.isCoroutine=false
 gen:sc.isGenerator=false
 nd:N.Nodup
 pre:N.take P.length=P
 par:∀x∈P,sc.names.lookup x=some .local\/sc.names.lookup x=some .cell
 nofree:∀y∈sc.names,y.2≠.free
theorem Fj{f:Str->Option NameKind}{x:Str}:∀{c:List (Str×Value)} {m:Str->Qf},(∀v,(x,v)∉c)->bindL f c m x=m x
 |[],_,_=>rfl
 |(n,v)::r,m,h=>by
  unfold bindL;rw[Fj λw g=>h w<|Xe _ g];split
  .have:x≠n:=by rintro rfl;exact h v Xb
   simp[this]
  .rfl
theorem Fy{f:Str->Option NameKind}{x:Str}:∀{c:List (Str×Value)} {m:Str->Qf},(∀v,(x,v)∉c)->bindC f c m x=m x
 |[],_,_=>rfl
 |(n,v)::r,m,h=>by
  unfold bindC;rw[Fy λw g=>h w<|Xe _ g];split
  .rfl
  .have:x≠n:=by rintro rfl;exact h v Xb
   simp[this]
theorem Ff{c:Str->Option NameKind}{x:Str}{v:Value}:∀{P:Qh} {vs:Qe} {i:Nat} {m:Str->Qf},P.Nodup->P[i]?=some x->vs[i]?=some v->c x=some .local->
 bindL c (P.zip vs) m x=some v
 |[],_,_,_,_,h,_,_=>by simp at h
 |_::_,[],_,_,_,_,h,_=>by simp at h
 |p::P,w::vs,0,m,j,g,f,q=>by
  simp at g f;subst g;subst f;show bindL c (_::P.zip vs) m p=_;unfold bindL;rw[Fj λv s=>(XM.mp j).1 (List.of_mem_zip s).1,Xi q]
  simp
 |p::P,w::vs,i+1,m,j,g,f,q=>by
  unfold bindL;exact Ff (XM.mp j).2 (by simpa using g) (by simpa using f) q
theorem LY{c:Str->Option NameKind}{x:Str}{v:Value}:∀{P:Qh} {vs:Qe} {i:Nat} {m:Str->Qf},P.Nodup->P[i]?=some x->vs[i]?=some v->c x≠some .local->
 bindC c (P.zip vs) m x=some v
 |[],_,_,_,_,h,_,_=>by simp at h
 |_::_,[],_,_,_,_,h,_=>by simp at h
 |p::P,w::vs,0,m,j,g,f,q=>by
  simp at g f;subst g;subst f;show bindC c (_::P.zip vs) m p=_;unfold bindC;rw[Fy λv s=>(XM.mp j).1 (List.of_mem_zip s).1,Xg q]
  simp
 |p::P,w::vs,i+1,m,j,g,f,q=>by
  unfold bindC;exact LY (XM.mp j).2 (by simpa using g) (by simpa using f) q
noncomputable def start(N:Qh)(vs:List V):St:=vs.map some++List.replicate (N.length-vs.length) none
noncomputable def Jg(h:CXT)(P:Program)(w:World)(K:W.Frag)(mg:Str->Qf)(base:Heap)(N:Qh)(qual:Str)(scope:Scope)(f:Addr)(cd:Value)(A:Around)(outer:List Env)(s:Shared)(H:Hp)(g:XK):Cx where
 prog:=P
 w:=w
 K:=K
 mg:=mg
 base:=base
 A:=A.deeper (envOfC qual scope s.heap.objs.size f cd)
 N:=N
 s₀:=s
 H₀:=H
 env:=envOfC qual scope s.heap.objs.size f cd
 outer:=outer
 stack:=envOfC qual scope s.heap.objs.size f cd::outer
 ex:=[]
 calm:=true
 fn:=λ_=>true
 pn:=[]
 xe:=λe i=>wpAny (model P w) (A.deeper<|envOfC qual scope s.heap.objs.size f cd) (leaving (envOfC qual scope s.heap.objs.size f cd) e) (λ_ c=>h outer H s g e c) (λj c=>h outer H s g j c) i
def L9{sc:Scope}(h:sc.names.lookup x=some .cell):∃c,(cellsFrom n sc.names []).lookup x=some c:=by
 have q:=W.cellsFrom_some sc.names n [] (.inl h);exact Option.isSome_iff_exists.mp q
def ZoU{f:Addr}
(S:Qo N ps scope)(d:A.handled=none)(e0:Env0 P w K mg base A outer s H)(o:vs.length=ps.length)(r:Za vs us)
(x:InCallC s s.heap.objs.size (bindL (envOfC qual scope s.heap.objs.size f cd).kindOf (ps.zip us) λ_=>none) (cellsFrom (s.heap.objs.size+1) scope.names []) (bindC (envOfC qual scope s.heap.objs.size f cd).kindOf (ps.zip us) λ_=>none) s1):
 Qt (Jg CX P w K mg base N qual scope f cd A outer s H pos) [] (start N vs) H s1:=by
 have a:ps.length<=N.length:=by have:=Xz List.length S.pre;rw[DV]at this;lia
 obtain⟨M,n,rfl,X⟩:=x.done;have j:∀b:Addr,b∉(Jg CX P w K mg base N qual scope f cd A outer s H pos).ex:=λb z=>Xu (show b∈([]) from z) (by simp)
 refine#[#[e0.mod,S.kind,rfl,rfl,Xn _,λy z c M g=>?_,λy B=>?_,λy c _ h=>?_,λ_=>d,Around.frames_deeper e0.frames,.inr #[rfl,rfl],λb z=>Xu z<|j b,e0.bs,e0.bsz,λb _ _=>j b,λb z=>Xu z<|j b,e0.funs,e0.frf],
  rfl,e0.bare,Un.kept X,#[_,x.toInCall.ns,λi y v M g t=>?_],λy c h=>#[_,x.cell y c h],e0.hok.fresh<|Xn _,λy c h=>?_,λp C=>Xu (show p∈([]) from C)<|by simp,e0.hok.kept X,?_]
 .exact name_of_addr x.apart (PySem.mem_of_lookup M) (PySem.mem_of_lookup g)
 .rcases B with B|B
  .exact L9 B
  .exact Xu rfl (S.nofree _<|PySem.mem_of_lookup B)
 .exact Wr (x.above y c<|PySem.mem_of_lookup h)
 .have E:i<vs.length:=by
   unfold start at g;by_cases E:i<vs.length
   .exact E
   .rw[GP<|by simpa using E]at g;rw[List.getElem?_replicate]at g;split at g<;>cases g
  have l:vs[i]?=some v:=by
   unfold start at g;rw[Uh<|by simpa using E]at g;simp_all
  obtain⟨u,W,Y⟩:=r.get l;have C:ps[i]?=some y:=by
   rw[<- S.pre,List.getElem?_take_of_lt<|#[]];exact M
  have m:ps.Nodup:=by rw[<- S.pre];exact S.nd.sublist (List.take_sublist _ _)
  refine#[u,Y,?_];rcases S.par y (List.mem_of_getElem? C) with k|k
  .exact .inl #[k,Ff m C W k]
  .obtain⟨c,e⟩:=L9 k;refine .inr #[.inl k,c,e,?_];have q:=x.cell y c e;rw[LY m C W<|by show scope.names.lookup y≠_;rw[k];decide]at q;exact q
 .exact e0.hok.fresh (Wr<|x.above y c<|PySem.mem_of_lookup h)
 .unfold start;show _=N.length;rw[Xp,Xf,List.length_replicate];lia
def SY{Y:CXT}{w:World}{base:Heap}{k:Nat}{f:Addr}{name:Str}{h:Arguments}{R kV X O g T oc:Value}{an od:Qj}
{p:Array (Qf)}{N:Qh}{a:Sp}(lk:K.lookup f=some #[oc,od,.func<|W.fnOf name qual h body scope R kV X O an g T,p])(F:W.codeIn K g qual=true)(S:Qo N ps scope)
(B:∀vs H Q c,a vs H Q c->vs.length=ps.length)
(G:∀(A:Around) (outer:List Env) (s:Shared) (H:Hp) (vs:List V) (Q:VK) (c:XK),Room k (A.deeper<|envOfC qual scope s.heap.objs.size f g)->a vs H Q c->
  ∃t,PSs (Jg Y P w K mg base N qual scope f g A outer s H c) body t/\t { nx:=λ_ U=>Q .non U,rt:=Q } (start N vs) H):
 FnOk P w K mg base Y (k+1) f (W.fnOf name qual h body scope R kV X O an g T) ps a:=by
 refine#[B,λA outer s H Z us vs Q c D M hb r C=>?_];have hl:=B _ _ _ _ C;have KX:=M.mod.kin.keeps λb o e=>(M.bs b o e).1;have z:=M.mod.nolimit.keeps λb o e=>(M.bs b o e).1
 have j:∀y∈ps.zip us,scope.names.lookup y.1=some .local\/(scope.names.lookup y.1=some .cell/\((cellsFrom (s.heap.objs.size+1) scope.names []).lookup y.1).isSome=true):=λ⟨n,v⟩ hy=>by
  rcases S.par n (List.of_mem_zip hy).1 with q|q
  .exact .inl q
  .exact .inr #[q,W.cellsFrom_some _ _ _<|.inl q]
 refine codeAny_call_function D.depth (KX _ _ lk) rfl S.co S.gen rfl (W.codeRec_of KX F) (hb _ _ _ _ ?_);refine wpAny_newFunctionEnv_cells S.kind j λenv he L x=>?_;subst he;refine#[z.keeps x.toInCall.keep,codeAny_func ?_];obtain⟨t,ht,hq⟩:=G A outer s H vs Q c (D.deeper _) C;have I:Qt (Jg Y P w K mg base N qual scope f g A outer s H c) [] _ H L:=ZoU S D.hd M hl r x;refine wpAny_mono (ht [] L _ H _ I hq) (λfl d m=>?_) λe d m=>m
 have E:∀{i:St} {U:Hp} {v:V} {u:Value},Qt (Jg Y P w K mg base N qual scope f g A outer s H c) [] i U d->QR v u->Q v U->CE outer P w H s Q u d:=
  λ{i U v u} J l q=>#[v,U,J.os,J.bare,J.base,J.hok,l,q]
 cases fl with
 |ret u=>
  obtain⟨v,i,U,J,l,q⟩:=m;exact E J l q
 |next=>
  obtain⟨i,U,J,q⟩:=m;exact E (v:=V.non) J rfl q
 |brk=>
  obtain⟨_,_,_,q⟩:=m;exact False.elim q
 |cont=>
  obtain⟨_,_,_,q⟩:=m;exact False.elim q
end L2
variable {sp:L2.Sp}
namespace L2
section
variable {x:Str}{p:Pos}{e:Expr}{t:TA}{id T:String}{r:List V->Hp->VK->Prop}
def tCB(r:List V->Hp->VK->Prop)(t:TA):TE:=λO H Q=>t O H λc L=>r c L Q
def Zo(B:ZE X (.builtin id) r)(A:Gl X x)(y:X.mg x=none)(q:bootBuiltins x=some (.builtin id))(C:PA X (e::es) t)(hn:x ≠ "__name__" := by decide)(c:(x==("__debug__" : Str))=false:=by decide)
(he:zs X e es:=by rfl)(hpl:(backTo E<|starEach es X.env).any (·.1)=false:=by rfl):PE X (.Call (.Name x p) (e::es) [] E) (tCB r t):=by
 intro Y s O H Q I h;refine wpAny_Call_Name_kw (Jp I A y q ?_ hn c);refine PyProof.Rows.callWith_builtin1 (Q8 (C E Y s O H _ I h) ?_) he hpl;rintro g i ⟨f,L,K,j,m⟩;exact B Y i O L f g Q K j m
def ZJ(B:ZE X (.type T) r)(A:Gl X x)(y:X.mg x=none)(q:bootBuiltins x=some (.type T))(C:PA X (e::es) t)(hn:x ≠ "__name__" := by decide)(c:(x==("__debug__" : Str))=false:=by decide)
(he:zs X e es:=by rfl)(hpl:(backTo E<|starEach es X.env).any (·.1)=false:=by rfl):PE X (.Call (.Name x p) (e::es) [] E) (tCB r t):=by
 intro Y s O H Q I h;refine wpAny_Call_Name_kw (Jp I A y q ?_ hn c);refine PyProof.Rows.callWith_type1 (Q8 (C E Y s O H _ I h) ?_) he hpl;rintro g i ⟨f,L,K,j,m⟩;exact B Y i O L f g Q K j m
end
end L2
namespace HT
def sIx(n d:Nat):Option Int->Nat
 |none=>d
 |some v=>if v<0 then (v+(n:Int)).toNat else min v.toNat n
def sIx_nat(n d k:Nat):sIx n d (some (k:Int))=min k n:=by
 show(if (k)<0 then ((k:Int)+(n)).toNat else min (k:Int).toNat n)=min k n
 simp_all
end HT
namespace L2
abbrev TO:=St->Hp->(Option Int->Hp->Prop)->Prop
def PO(X:Cx)(e:Option Expr)(t:TO):Prop:=
 ∀(Y:Qc) (s:Shared) (O:St) (H:Hp) (Q:Option Int->Hp->Prop),Qt X Y O H s->t O H Q->
  wpAny (model X.prog X.w) X.A (evalPart e X.env) (λu c=>∃o U,Qt X Y O U c/\IsPart u o/\Q o U) X.xe s
def KC:TO:=λ_ H Q=>Q none H
def HL(t:TE):TO:=λO H Q=>t O H λx L=>∃i,x=.int i/\Q (some i) L
def Dy:∀{us:Qe},Za (ns.map V.int) us->IntsAre us ns:=by
 induction ns with
 |nil=>intro us r; cases r;exact .nil
 |cons n ns g=>
  intro us r;cases r with
  |cons f c=>
   obtain⟨t,e⟩:=f;subst e;exact .cons n t (g c)
section
variable {e:Expr}{lo hi:Option Expr}{tl th:TO}{p2:Pos}
def Y1:PO X none KC:=by
 intro Y s O H Q I h;exact Xm #[none,H,I,.none,h]
def Y2(h:PE X e te):PO X (some e) (HL te):=by
 intro Y s O H Q I g;refine Q8 (h Y s O H _ I g) ?_;rintro u m ⟨x,L,j,c,f⟩;obtain⟨i,rfl,q⟩:=f;obtain⟨t,rfl⟩:=c;exact#[some i,L,j,.int i t,q]
def SlR(X:Cx)(r:V->Option Int->Option Int->Hp->VK->Prop):Prop:=
 ∀(Y:Qc) (s:Shared) (O:St) (H:Hp) (x:V) (v e c:Value) (lo hi:Option Int) (f:Addr) (Q:VK),Qt X Y O H s->QR x v->s.heap.IsSliceOf f e c .none->IsPart e lo->IsPart c hi->r x lo hi H Q->
  ∃T g,typeLookup (.type T) "__getitem__"=pure (some<|.builtin g)/\s.TypeIs v T/\wpAny (model X.prog X.w) X.A (getItem v<|.ref f) (EP X Y O Q) X.xe s
def tSl(r:V->Option Int->Option Int->Hp->VK->Prop)(te:TE)(tl th:TO):TE:=λO H Q=>te O H λx L=>tl O L λl e=>th O e λu c=>r x l u c Q
def Y6(a:SlR X r)(he:PE X e te)(d:PO X lo tl)(P:PO X hi th):PE X (.Subscript e (.Slice lo hi none p2) E) (tSl r te tl th):=by
 intro Y s O H Q I h;refine Subscript_ (Q8 (he Y s O H _ I h) ?_);rintro v m ⟨x,L,t,y,C⟩;refine wpAny_Slice (Q8 (d Y m O L _ t C) ?_);rintro g j ⟨l,w,p,M,B⟩;refine Q8 (P Y j O w _ p B) ?_;rintro f c ⟨u,i,o,K,A⟩;refine Xm ?_;have n:Qt X Y O i { c with heap:=c.heap.push { cls:=.type "slice",data:=.fields (List.toArray [g,f,.none]) } }:=o.kept λb z q=>Xd _ q;obtain⟨T,D,hT,W,k⟩:=a Y { c with heap:=c.heap.push { cls:=.type "slice",data:=.fields (List.toArray [g,f,.none]) } } O i x v g f l u c.heap.objs.size Q n y (Heap.IsSliceOf.new ..) M K A;exact tail_any W hT k (by with_unfolding_all rfl)
noncomputable def UT(xs:List V)(lo hi:Option Int):List V:=(xs.drop<|HT.sIx xs.length 0 lo).take (HT.sIx xs.length xs.length hi-HT.sIx xs.length 0 lo)
def ZlB(xs:List V)(lo hi:Option Int):(UT xs lo hi).length<=xs.length:=by
 unfold UT;rw[DV,List.length_drop];lia
end
end L2
namespace L2
noncomputable def ixN(n:Nat)(i:Int):Option Nat:=if 0<=i then (if i<n then some i.toNat else none) else if -(n:Int)<=i then some (i+n).toNat else none
noncomputable def atI{c:Type}(xs:List c)(i:Int):Option c:=(ixN xs.length i).bind λj=>xs[j]?
def TU{i:Int}(h:ixN n i=some j):seqIndex? i n=some j/\j<n /\ -(n:Int)<=i/\i<n:=by
 unfold ixN at h;by_cases f:0<=i
 .rw[Xi f]at h
  by_cases c:i<n
  .rw[Xi c]at h;have e:=Option.some.inj h;exact#[by rw[seqIndex_of f c,e],#[],#[],c]
  .simp_all
 .rw[Xg f]at h
  by_cases c : -(n)<=i
  .rw[Xi c]at h;have e:=Option.some.inj h;exact#[by rw[seqIndex_neg #[] c,e],#[],c,#[]]
  .simp_all
def KD{c:Type}{xs:List c}{i:Int}{v:c}(h:atI xs i=some v):∃j,seqIndex? i xs.length=some j/\xs[j]?=some v/\j<xs.length /\ -(xs.length:Int)<=i/\i<xs.length:=by
 unfold atI at h;cases e:ixN xs.length i with
 |none=>rw[e]at h;cases h
 |some j=>
  rw[e]at h;obtain⟨q,m,g,f⟩:=TU e;exact#[j,q,h,m,g,f]
def ZI{c:Type}{xs:List c}{v:c}(h:xs[j]?=some v):atI xs (j:Int)=some v:=by
 have f:=(Xh.mp h).1;have e:ixN xs.length (j)=some j:=by
  unfold ixN;simp_all
 unfold atI;rw[e];exact h
def Ib(b:Expr):Prop := ∀o i,subscripted b false o i=operate [o,i] (getItem o i)
def IxR(X:Cx)(r:R2):Prop:=
 ∀(f c:Expr) (Y:Qc) (s:Shared) (O:St) (H:Hp) (x y:V) (v u:Value) (Q:VK),Qt X Y O H s->QR x v->QR y u->r x y H Q->
  subscripted c false v u=operate [v,u] (getItem v u)->wpAny (model X.prog X.w) X.A (subscriptTail f c v u) (EP X Y O Q) X.xe s
def MtR(X:Cx)(f:String)(r:V->List V->Hp->VK->Prop):Prop:=
 ∀(Y:Qc) (s:Shared) (O:St) (H:Hp) (x:V) (xs:List V) (v:Value) (c:Qe) (Q:VK),Qt X Y O H s->QR x v->Za xs c->r x xs H Q->
  wpAny (model X.prog X.w) X.A (call (.builtin f) (v::c)) (EP X Y O Q) X.xe s
section
variable {a b:Expr}{tb:TE}
def IxR.or(h:IxR X r)(h':IxR X r'):IxR X (λx y H Q=>r x y H Q\/r' x y H Q):=by
 intro a b Y s O H x y v u Q I f c q g;rcases q with q|q
 .exact h a b Y s O H x y v u Q I f c q g
 .exact h' a b Y s O H x y v u Q I f c q g
def QH(j:IxR X r)(A:PE X a ta)(m:PE X b tb)(i:Ib b:=by exact λ_ _=>rfl):PE X (.Subscript a b E) (tOp r ta tb):=by
 intro Y s O H Q I h;exact Subscript_ (Hw A m I h λv u c x y C B g f q=>j a b Y c O C x y v u Q B g f q<|i _ _)
def RT(K:W.Frag):R2:=λx y H Q=>∃p xs i v,x=.ref p/\y=.int i/\SqL K H p xs/\atI xs i=some v/\Q v H
def Si(K:W.Frag):R2:=λx y H Q=>∃p xs i v,x=.ref p/\y=.int i/\SqT K H p xs/\atI xs i=some v/\Q v H
def Hz:R2:=λx y H Q=>∃z i c,x=.str z/\y=.int i/\z.length<=sizeLine/\atI z.cps.toList i=some c/\Q (.str #[(List.toArray [c])]) H
def Ic:IxR X (RT X.K):=by
 intro c f Y s O H x y v u Q I P M h C;obtain⟨p,xs,i,z,rfl,rfl,W,e,q⟩:=h;cases P;obtain⟨t,rfl⟩:=M;obtain⟨A,r,m,o⟩:=I.list W;obtain⟨j,b,n,F,l,k⟩:=KD e;obtain⟨w,K,g⟩:=r.get n;have d:=r.length;have D:=U4;have a:EP X Y O Q w s:=#[z,H,I,g,q]
 by_cases E:0<=i
 .have B:=by
   rw[seqIndex_of E k]at b;exact Option.some.inj b
  exact item_listR m.isList E #[] (by rw[B];simpa using K) a C
 .have B:(i+(A.toArray.size)).toNat=j:=by
   rw[seqIndex_neg #[] l]at b;rw[Xr,<- d];exact Option.some.inj b
  exact subscriptTail_builtinR m.isList.typeIs slot_list_getitem.lookup
   (wpAny_getItem_list_neg m.isList #[] (by rw[Xr]<;>lia) #[] (by rw[B];simpa using K) #[rfl,a]) C
def CW:IxR X (Si X.K):=by
 intro a b Y s O H x y v u Q I A m h C;obtain⟨p,xs,i,z,rfl,rfl,E,M,q⟩:=h;cases A;obtain⟨t,rfl⟩:=m;obtain⟨B,r,g,e⟩:=I.tuple E;obtain⟨j,W,P,o,n,l⟩:=KD M;obtain⟨w,d,c⟩:=r.get P;have K:=r.length;have k:=U4;have f:EP X Y O Q w s:=#[z,H,I,c,q]
 exact subscriptTail_builtinR g.typeIs slot_tuple_getitem.lookup
  (getItem_tuple g #[] #[] (by rw[Xr,<- K];exact W) (by simpa using d) #[rfl,f]) C
def HW:IxR X Hz:=by
 intro a b Y s O H x y v u Q I m g h A;obtain⟨z,i,c,rfl,rfl,e,C,q⟩:=h;obtain⟨t,rfl⟩:=m;obtain⟨d,rfl⟩:=g;obtain⟨j,f,M,l,K,E⟩:=KD C;have B:z.cps.toList.length=z.length:=by simp[Str.length]
 rw[B]at f K E;have k:=U4;exact tail_any (typeIs_str s z t) slot_str_getitem.lookup (getItem_str (by
  have W:decide (i < -(2^63))=false:=XD #[];have P:decide (i>=2^63)=false:=XD #[];rw[W,P,Bool.or_false]) (by rw[f];simpa using M) #[.str _,H,I.tok _,#[_,rfl],q]) A
def rIx(K:W.Frag):R2:=λx y H Q=>RT K x y H Q\/Si K x y H Q\/Hz x y H Q
def QI:IxR X (rIx X.K):=Ic.or (CW.or HW)
def Zoa(a:Qe)(n j:Nat)(u:Value):Obj.mapSeq (·.setIfInBounds j u) { cls:=.type "list",data:=.seq a.toArray n }={ cls:=.type "list",data:=.seq (a.set j u).toArray n }:=by
 simp[Obj.mapSeq]
def Qt.lst{O:St}{H:Hp}{p:Addr}(I:Qt X Y O H s)(h:H p=some (.lst xs)):
 ∃(a:Qe) (n:Nat),Za xs a/\s.heap.get? p=some { cls:=.type "list",data:=.seq a.toArray n }/\xs.length<=sizeLine:=by
 obtain⟨z,a,n,r,e⟩:=I.hok p _ h;exact#[a,n,r,e,z]
def Qt.lstUpd{O:St}{H:Hp}{p:Addr}{c a:Qe}{n g:Nat}{f:Obj->Obj}(I:Qt X Y O H s)(h:H p=some (.lst xs))
(j:s.heap.get? p=some { cls:=.type "list",data:=.seq c.toArray n })(i:f { cls:=.type "list",data:=.seq c.toArray n }={ cls:=.type "list",data:=.seq a.toArray g })(r:Za ys a)(hz:ys.length<=sizeLine)(t:Nat):
 Qt X Y O (upd H p<|.lst ys) { s with heap:=s.heap.update p f,toks:=t }:=by
 have e:(s.heap.update p f).get? p=some { cls:=.type "list",data:=.seq a.toArray g }:=by
  rw[Ja f j<|by rw[i]<;>rfl,i]
 refine I.write (by rw[h];trivial) (.inl rfl) (λb u m q=>(XV _ _<|Ne.symm m).trans q) #[_,e] ?_;exact#[hz,a,g,r,e]
def Bf:V->V->V->Hp->(Hp->Prop)->Prop:=λo i v H Q=>∃p xs k j,o=.ref p/\i=.int k/\H p=some (.lst xs)/\ixN xs.length k=some j/\Q (upd H p<|.lst<|xs.set j v)
def Jx:Hu X Bf:=by
 intro Y s O H o i v e l u Q I K M E h;obtain⟨p,xs,k,j,rfl,rfl,m,d,q⟩:=h;cases K;obtain⟨t,rfl⟩:=M;obtain⟨a,n,r,c,P⟩:=I.lst m;obtain⟨b,x,A,y⟩:=TU d;have f:=r.length;have w:=U4;have C:=
  I.lstUpd m c (Zoa a n j u) (r.set E j) (by rw[List.length_set];exact P) s.toks
 by_cases B:0<=k
 .have g:=by
   rw[seqIndex_of B y]at b;exact Option.some.inj b
  exact W.ki_setAt c B #[] (by rw[Xr,<- f];exact y) (by rw[g];exact#[_,C,q])
 .have g:(k+(a.toArray.size)).toNat=j:=by
   rw[seqIndex_neg #[] A]at b;rw[Xr,<- f];exact Option.some.inj b
  exact W.ki_setBack c #[] (by rw[Xr,<- f];exact A) #[] (by rw[g];exact#[_,C,q])
def ZjQ(lo a:Option Int)(n:Nat):(sliceBounds lo a none n).1=((HT.sIx n 0 lo:Nat):Int)/\(sliceBounds lo a none n).2.1=((HT.sIx n n a:Nat):Int)/\(sliceBounds lo a none n).2.2=1:=by
 refine#[?_,?_,rfl]
 .cases lo with
  |none=>simp[sliceBounds,HT.sIx]
  |some i=>
   simp only[sliceBounds,HT.sIx,Option.getD_none,show(1:Int) > 0 by decide,if_true]
   by_cases h:i<0
   .simp only[h,if_true]<;>lia
   .simp only[h,if_false]<;>lia
 .cases a with
  |none=>simp[sliceBounds,HT.sIx]
  |some i=>
   simp only[sliceBounds,HT.sIx,Option.getD_none,show(1:Int) > 0 by decide,if_true]
   by_cases h:i<0
   .simp only[h,if_true]<;>lia
   .simp only[h,if_false]<;>lia
def Zj2(a:Qe)(lo b:Option Int):slicePick a.toArray lo b none=((a.drop<|HT.sIx a.length 0 lo).take (HT.sIx a.length a.length b-HT.sIx a.length 0 lo)).toArray:=by
 obtain⟨g,f,c⟩:=ZjQ lo b a.toArray.size;unfold slicePick;rw[g,f,c];simp only[sliceRange_one,pick_run,Xr]<;>rfl
def RV(K:W.Frag):V->Option Int->Option Int->Hp->VK->Prop:=λx b c H Q=>∃a xs,x=.ref a/\SqL K H a xs/\∀p,H p=none->Q (.ref p) (upd H p<|.lst<|UT xs b c)
def YG:SlR X (RV X.K):=by
 intro Y s O H x v M K f g P Q I j E y m h;obtain⟨a,xs,rfl,C,q⟩:=h;cases j;obtain⟨A,r,i,B⟩:=I.list C;have c:=r.length;refine#["list",_,slot_list_getitem.lookup,i.isList.typeIs,?_];refine wpAny_getItem_list_slice i.isList E y m .none (by simp) ?_ (by rw[Xr]<;>lia);rw[Zj2,<- c];refine#[.ref s.heap.objs.size,_,I.laid (t':=s.toks) (o:=.lst (UT xs f g)) (λb W q=>Xd _ q) (Xn _) ?_,rfl,q _<|I.hok.fresh<|Xn _];exact#[Xl (ZlB xs f g) B,_,0,(r.drop<|HT.sIx xs.length 0 f).take (HT.sIx xs.length xs.length g-HT.sIx xs.length 0 f),Xt _ rfl]
def ZjC:ZE X (.builtin "len") (λxs H Q=>∃p ys,xs=[.ref p]/\(SqL X.K H p ys\/SqT X.K H p ys)/\Q (.int ys.length) H):=by
 intro Y s O H xs m Q I r h;obtain⟨p,ys,rfl,b,q⟩:=h;obtain⟨u,rfl,i⟩:=VL r;cases i;have y:=U4;rcases b with b|b
 .obtain⟨g,c,f,j⟩:=I.list b;have a:=c.length;exact Calls.call_len_list f.isList (by simp only[Xr]<;>lia) #[.int ys.length,H,I.tok _,#[s.toks+1,by rw[Xr,a]],q]
 .obtain⟨g,c,f,j⟩:=I.tuple b;have a:=c.length;exact len_tuple f (by simp only[Xr]<;>lia) #[.int ys.length,H,I.tok _,#[s.toks+1,by rw[Xr,a]],q]
def ZjT:ZE X (.builtin "len") (λxs H Q=>∃z,xs=[.str z]/\z.length<=sizeLine/\Q (.int z.length) H):=by
 intro Y s O H xs a Q I r h;obtain⟨z,rfl,b,q⟩:=h;obtain⟨u,rfl,t,rfl⟩:=VL r;have c:=U4;exact len_str #[] #[.int z.length,H,I.tok _,#[_,rfl],q]
def Zkm:ZE X (.type "list") (λxs H Q=>∃p ys,xs=[.ref p]/\(SqL X.K H p ys\/SqT X.K H p ys)/\∀l,H l=none->Q (.ref l) (upd H l<|.lst ys)):=by
 intro Y s O H xs K Q I r h;obtain⟨p,ys,rfl,i,q⟩:=h;obtain⟨u,rfl,E⟩:=VL r;cases E;have m:∀a,Za ys a->ys.length<=sizeLine->∀h' (c),_->
  h'.get? s.heap.objs.size=some { cls:=.type "list",dict:=none,data:=.seq a.toArray c,slots := (List.toArray []) }->EP X Y O Q _ { s with heap:=h' }:=λa b g h' c f e=>
  #[.ref s.heap.objs.size,_,I.laid f (Xn _) (show ZT X.prog X.w _ h' _ (.lst ys) from#[g,a,c,b,e]),rfl,q _<|I.hok.fresh<|Xn _]
 rcases i with i|i
 .obtain⟨a,b,y,g⟩:=I.list i;have j:=b.length;obtain⟨o,A,C,n,B⟩:=y.isList;exact call_list_seq p (.inl rfl) A C B (λh' c f e=>m a b g h' c f e) (by simp only[Xr]<;>lia)
 .obtain⟨a,b,y,g⟩:=I.tuple i;have j:=b.length;obtain⟨o,A,C,n,B⟩:=y;exact call_list_seq p (.inr rfl) A C B (λh' c f e=>m a b g h' c f e) (by simp only[Xr]<;>lia)
def Zjh:ZE X (.type "tuple") (λxs H Q=>∃p ys,xs=[.ref p]/\((SqL X.K H p ys/\∀l,H l=none->Q (.ref l) (upd H l<|.tup ys))\/(SqT X.K H p ys/\Q (.ref p) H))):=by
 intro Y s O H xs C Q I r h;obtain⟨p,ys,rfl,h⟩:=h;obtain⟨u,rfl,y⟩:=VL r;cases y;rcases h with ⟨g,q⟩|⟨g,q⟩
 .obtain⟨a,c,f,i⟩:=I.list g;have j:=c.length;refine call_tuple_list f.isList (λh' A=>?_) (by simp only[Xr]<;>lia);have m:=I.kept (t':=s.toks) A;have B:=
   m.laid (t':=s.toks) (λb o e=>Xd _ e) (Xn _) (show ZT X.prog X.w _ _ _ (.tup ys) from#[i,a,c,IsTup.new _ _])
  exact#[.ref h'.objs.size,_,B,rfl,q _<|m.hok.fresh<|Xn _]
 .obtain⟨a,c,f,i⟩:=I.tuple g;exact call_tuple_same f #[.ref p,H,I,rfl,q]
def tyV(K:W.Frag)(T:String)(x:V)(H:Hp):Prop:=match x with
 |.str _=>T = "str"
 |.int _=>T = "int"
 | .ref p=>(T = "list" /\ ∃xs,SqL K H p xs)\/(T = "tuple" /\ ∃o,K.lookup p=some o/\o.cls=.type "tuple" /\ o.dict=none) \/
  (T = "dict" /\ ((∃a,H p=some (.dK a))\/∃a,H p=some (.dT a)))\/(T = "set" /\ ∃S n,H p=some (.set S n))
 |_=>False
def P9{O:St}{H:Hp}{T:String}{x:V}{v:Value}(I:Qt X Y O H s)(r:QR x v)(g:tyV X.K T x H):
 s.TypeIs v T/\∀a,v=.ref a->∃y,s.heap.get? a=some y/\y.dict=none:=by
 cases x with
 |str z=>
  obtain⟨t,rfl⟩:=r;cases (g);exact#[typeIs_str s z t,by rintro _ ⟨⟩]
 |int i=>
  obtain⟨t,rfl⟩:=r;cases (g);exact#[typeIs_int s i t,by rintro _ ⟨⟩]
 |ref p=>
  cases r;rcases g with ⟨rfl,xs,B⟩|⟨rfl,o,b,C,j⟩|⟨rfl,b⟩|⟨rfl,S,n,b⟩
  .obtain⟨A,_,q,_⟩:=I.list B;refine#[q.isList.typeIs,λa e=>?_];cases e;obtain⟨o,n,e,c,j,_⟩:=q;exact#[o,e,j]
  .refine#[#[o,I.kIn p o b,C],λa e=>?_];cases e;exact#[o,I.kIn _ o b,j]
  .have z:∃o,s.heap.get? p=some o/\o.ExactDict:=by
    rcases b with ⟨h,b⟩|⟨h,b⟩
    .obtain⟨_,_,_,_,o,_,_,e,f,_⟩:=I.hok p _ b;exact#[o,e,f]
    .obtain⟨_,_,_,_,o,_,_,e,f,_⟩:=I.hok p _ b;exact#[o,e,f]
   obtain⟨o,e,f⟩:=z;refine#[#[o,e,f.1],λa m=>?_];cases m;exact#[o,e,f.2.1]
  .obtain⟨o,_,_,_,e,f,_⟩:=I.hok p _ b;refine#[#[o,e,f.1],λa m=>?_];cases m;exact#[o,e,f.2.1]
 |_=>exact False.elim g
def S7(K:W.Frag)(T:String)(r:V->List V->Hp->VK->Prop)(a:TE):TE:=λO H Q=>a O H λx L=>tyV K T x L/\r x [] L Q
def tBM(K:W.Frag)(T:String)(r:V->List V->Hp->VK->Prop)(a:TE)(t:TA):TE:=λO H Q=>a O H λx L=>tyV K T x L/\t O L λxs b=>r x xs b Q
variable {o e:Expr}{to:TE}{t:TA}{name:Str}{T id:String}{r:V->List V->Hp->VK->Prop}
def AQ(q:PlainAttrs T)(c:Slot T name id)(e:typeOf (.builtin id)=pure (.type "method_descriptor"))(y:MtR X id r)(t:PE X o to)
(b:attributeBase o name X.env (eval o X.env)=eval o X.env:=by rfl)(a:(X3.endLine==UH.line)=true:=by rfl):PE X (.Call (.Attribute o name X3) [] [] UH) (S7 X.K T r to):=by
 intro Y s O H Q I h;refine wpAny_Call_method0_late b a (Q8 (t Y s O H _ I h) ?_);rintro v j ⟨x,L,g,f,i,m⟩;obtain⟨B,A⟩:=P9 g f i;exact#[T,id,q,c,e,B,A,Calls.callWith_builtin rfl (PySem.evalArgs_none<|y Y j O L x [] v [] Q g f .nil m)]
def ZL(W:PlainAttrs T)(f:Slot T name id)(i:typeOf (.builtin id)=pure (.type "method_descriptor"))(l:MtR X id r)(k:PE X o to)(n:PA X (e::es) t)
(c:attributeBase o name X.env (eval o X.env)=eval o X.env:=by rfl)
(g:((backTo UH<|starEach (e::es) X.env).all (λx => !x.1)&&(backToKw UH<|keywordEach [] X.env).all (λx=>x.1.isSome)
  && decide ((e::es).length+([]:List Keyword).length+(if ([]:List Keyword).isEmpty then 0 else 1)<30))=true:=by rfl)
(b:(X3.endLine==UH.line)=true:=by rfl)(d:zs X e es:=by rfl)(a:(backTo UH<|starEach es X.env).any (·.1)=false:=by rfl):
 PE X (.Call (.Attribute o name X3) (e::es) [] UH) (tBM X.K T r to t):=by
 intro Y s O H Q I h;refine wpAny_Call_method_late c g b rfl (Q8 (k Y s O H _ I h) ?_);rintro v E ⟨x,L,q,j,B,P⟩;obtain⟨u,p⟩:=P9 q j B;refine#[T,id,W,f,i,u,p,?_];have m:=n UH Y E O L _ q P;rw[d]at m ⊢;refine Calls.callWith_builtin (by show(false||(backTo UH _).any _)=false;rw[a]<;>rfl) (Calls.evalArgs_plain ?_);refine Q8 m ?_;rintro A C ⟨y,z,w,K,M⟩;exact l Y C O z x y v A Q w j K M
end
end L2
namespace L2
def MtM(X:Cx)(f:String)(r:V->List V->Hp->VK->Prop):Prop:=
 ∀(Y:Qc) (s:Shared) (O:St) (H:Hp) (x:V) (xs:List V) (v:Value) (c:Qe) (Q:VK),Qt X Y O H s->QR x v->Za xs c->r x xs H Q->
  wpAny (model X.prog X.w) X.A (call (.builtin f) (v::c)) (EP X Y O Q) X.xe s
theorem Za.one:∀{x:V} {us:Qe},Za [x] us->∃u,us=[u]/\QR x u
 |_,_,.cons r .nil=>⟨_,rfl,r⟩
section
variable {O:St}{H:Hp}{l:Addr}
def Qt.lset{c:Qe}{f:Array Value->Array Value}(I:Qt X Y O H s)(m:H l=some (.lst xs))
(e:s.heap.get? l=some { cls:=.type "list",data:=.seq c.toArray n })(i:f c.toArray=its'.toArray)(g:Za ys its')(hz:ys.length<=sizeLine):
 Qt X Y O (upd H l<|.lst ys) { s with heap:=s.heap.update l (Obj.mapSeq f),toks:=t' }:=by
 have q:=PySem.IsL.update e f;rw[i]at q;refine I.write (by rw[m];exact trivial) (.inl rfl) (λy u j h=>(XV s.heap _<|Ne.symm j).trans h) #[_,q] ?_;exact#[hz,its',_,g,q]
def Qt.lnew(I:Qt X Y O H s)(c:Za ys its)(hz:ys.length<=sizeLine):
 Qt X Y O (upd H s.heap.objs.size<|.lst ys) { s with heap:=s.heap.push { cls:=.type "list",data:=.seq its.toArray },toks:=t' }:=
 I.laid (λ_ _ q=>Xd _ q) (Xn _) #[hz,its,0,c,Xt _ rfl]
def Qt.fresh(I:Qt X Y O H s):H s.heap.objs.size=none:=I.hok.fresh (Xn _)
def Qt.lstM(I:Qt X Y O H s)(f:H l=some (.lst xs)):xs.length<=sizeLine/\∃(c:Qe) (n:Nat),Za xs c/\xs.length=c.length/\s.heap.get? l=some { cls:=.type "list",data:=.seq c.toArray n }:=by
 obtain⟨z,c,n,r,e⟩:=I.hok l _ f;exact#[z,c,n,r,r.length,e]
end
def Wb:V->List V->Hp->VK->Prop:=λx c H Q=>∃l xs y,x=.ref l/\c=[y]/\H l=some (.lst xs)/\xs.length<sizeLine/\Q .non (upd H l<|.lst<|xs++[y])
def Yg:MtM X "list.append" Wb:=by
 intro Y s O H x m v A Q I g i h;obtain⟨l,xs,y,rfl,rfl,f,B,q⟩:=h;cases g;obtain⟨u,rfl,j⟩:=i.one;obtain⟨z,c,n,r,C,e⟩:=I.lstM f;refine call_meets F.slot_list_append #[_,e,rfl] F.entry_list_append (F.args_list_append_2 _ _) (PySem.list_append l c.toArray n u<|by rw[Xr];lia) #[e,?_];refine#[.non,_,I.lset f e (by simp) (r.append<|.cons j .nil) ?_,rfl,q];rw[Xp,GN];lia
def Hj:R2:=λx y H Q=>∃l b xs c,x=.ref l/\y=.ref b/\H l=some (.lst xs)/\H b=some (.lst c)/\xs.length+c.length<=sizeLine/\∀p,H p=none->Q (.ref p) (upd H p<|.lst<|xs++c)
def U9:OpR X (binaryOp .Add) Hj:=by
 intro Y s O H x y v u Q I i g h;obtain⟨l,b,xs,K,rfl,rfl,A,B,W,q⟩:=h;cases i;cases g;obtain⟨z,f,n,r,a,e⟩:=I.lstM A;obtain⟨M,c,P,j,m,E⟩:=I.lstM B;refine PySem.P.add_list e E ?_ (by rw[Xr,Xr];lia);have C:f.toArray++c.toArray=(f++c).toArray:=by simp
 rw[C];exact#[.ref _,_,I.lnew (r.append j)<|by rw[Xp];lia,rfl,q _ I.fresh]
end L2
namespace Att
open PySem PySem.W PySem.Calls PyProof.Rows
def ZhP{P:Params}:∀(ns:Ql) (vs:Qe),WellAll P h vs (ns.map WData.int)->IntsAre vs ns:=by
 intro ns;induction ns with
 |nil=>
  intro vs w;cases w;exact .nil
 |cons n ns c=>
  intro vs w;cases w with
  |cons a b=>
   cases a;exact .cons _ _ (c _ b)
def Zq3{l:OpenLaw}(hn:l.most=some n){P:Params}
(c:l.row.toRowW.claim.pre args=true)(j:WellAll P h vals args):
 ∃a vs ns,vals=[Value.ref a]/\args=[WData.list<|ns.map WData.int]/\h.get? a=some { cls:=.type "list",data:=.seq vs.toArray }/\IntsAre vs ns/\ns.length<=n:=by
 have m:WShape.hasAll [] args [.list .int]=true:=(pre_splitW c).1;have B:l.pre.holds [] { args:=args }=true:=(pre_splitW c).2;obtain⟨d,r,rfl,K,E⟩:=hasAllW_cons m;obtain rfl:=hasAllW_nil E;obtain⟨xs,rfl,C⟩:=hasW_list K;obtain⟨ns,rfl⟩:=items_int C;have f:ns.length<=n:=by
  have i:=by
   have i:=(holds_andW B).1;rw[hn]at i;exact i
  have q:=condW_of i (w_not<|w_lt w_lit<|w_len_list<|w_arg rfl)
  first
   |(exact Xu q _)
   |(simp at q;lia)
 cases j with
 |cons y s=>
  cases s;cases y with
  |list A g=>exact#[_,_,ns,rfl,rfl,A,ZhP ns _ g,f]
def Zpp(l:OpenLaw)(c:List WData):l.row.toRowW.claim.post c (.bool true) c=true:=
 postW_of
  (show WShape.has [] _ .bool=true by first|rfl|decide|simp[WShape.has])
  (w_eq_bool (w_res rfl) w_lit) rfl
end Att
namespace L2
theorem Fi:∀{vs:Qe} {ns:Ql},IntsAre vs ns->Za (ns.map V.int) vs
 |_,_,.nil=>.nil
 |_,_,.cons n t h=>.cons #[t,rfl] (Fi h)
def C0(H:Hp):Prop := ∀b,H b=none\/∃o xs,H b=some (.frz o<|.lst xs)
end L2
namespace L2
abbrev KOf{K:W.Frag}{h:Heap}(_:K.In h):W.Frag:=K
end L2
namespace L2
noncomputable def Vo(s:Stmt)(j:Nat):Stmt:=match s with
 |.ClassDef _ _ _ body _ _ _ _ _ _ _=>body.getD j (.Pass #[0,0,0,0])
 |_=>.Pass #[0,0,0,0]
noncomputable def Y0(s:Stmt):Arguments:=match s with
 |.FunctionDef _ a _ _ _ _ _ _ _ _=>a
 |_=>{ posonlyargs:=[],args:=[],vararg:=none,kwonlyargs:=[],kw_defaults:=[],kwarg:=none,defaults:=[] }
noncomputable def VS(s:Stmt):List Stmt:=match s with
 |.FunctionDef _ _ b _ _ _ _ _ _ _=>b
 |_=>[]
noncomputable def Q3(s:Stmt):Scope:=match s with
 |.FunctionDef _ _ _ _ _ _ c _ _ _=>c
 |_=>{ kind:=.function,names:=[],isGenerator:=false,isCoroutine:=false }
abbrev CX0:CXT:=λ_ _ _ _ _ _=>False
abbrev E0:XK:=λ_ _ _=>False
def YV:Ye CX0 X E0:=λ_ _ _ _ _ _ _ h=>h.elim
structure Fun(K:W.Frag)(x qual:Str)(st:Stmt)(f:Addr)(fd:FuncData):Prop where
 ex:∃(oc:Value) (od:Qj) (kV doc pm:Value) (an:Qj) (cdv ct:Value) (osl:Array (Qf)),
  fd=W.fnOf x qual (Y0 st) (VS st) (Q3 st) .none kV doc pm an cdv ct/\K.lookup f=some #[oc,od,.func fd,osl]/\W.codeIn K cdv qual=true
 kp:W.keepIn K (.ref f)=true
def B0(P:Program)(w:World)(K:W.Frag)(mg:Str->Qf)(base:Heap)(N:Qh)(q:Str)(st:Stmt)(k:Nat)(f:Addr)(H:Hp)(g:XK)(G:TS->Prop):Prop := ∀(c:Value) (A:Around) (outer:List Env) (s:Shared),Room k (A.deeper<|envOfC q (Q3 st) s.heap.objs.size f c)->∃t,PSs (Jg CX0 P w K mg base N q (Q3 st) f c A outer s H g).nox (VS st) t/\G t
abbrev Rn(N:Qh)(vs:List V)(H:Hp)(Q:VK)(t:TS):Prop:=t { nx:=λ_ U=>Q .non U,rt:=Q } (start N vs) H
section
variable {w:World}{base:Heap}
def Fun.ok{x:Str}{st:Stmt}{f:Addr}{N:Qh}{k:Nat}(F:Fun K x qual st f fd)(S:Qo N ps (Q3 st))(g:∀vs H Q c,sp vs H Q c->vs.length=ps.length)
(q:∀vs H Q c,sp vs H Q c->B0 P w K mg base N qual st k f H c (Rn N vs H Q)):FnOk P w K mg base CX0 (k+1) f fd ps sp:=by
 obtain⟨X,W,kV,E,M,a,m,Y,y,rfl,B,j⟩:=F.ex;exact SY B j S g λA outer s H vs Q c C i=>(q vs H Q c i m A outer s C).imp λ_ h=>h.imp PSs.nox id
def Fun.binds{x:Str}{st:Stmt}{f:Addr}(F:Fun K x qual st f fd)
(h:∀(kV c i:Value) (m:Qj) (g j:Value) (us:Qe),us.length=ps.length->bindArgs (W.fnOf x qual (Y0 st) (VS st) (Q3 st) .none kV c i m g j) #[us,[]]=pure (ps.zip us)):Va K fd ps []:=by
 obtain⟨y,w,kV,c,i,m,g,j,q,rfl,A,s⟩:=F.ex;exact .all (h kV c i m g j)
def WO{x:Str}{st:Stmt}{f:Addr}{s:Value}{od q:Qj}{i:Array (Qf)}{kV h j g m:Value}(l:K.lookup f=some #[s,od,.func<|W.fnOf x qual (Y0 st) (VS st) (Q3 st) .none kV h j q g m,i])
(c:W.codeIn K g qual=true)(k:W.keepIn K (.ref f)=true):Fun K x qual st f (W.fnOf x qual (Y0 st) (VS st) (Q3 st) .none kV h j q g m):=#[#[s,od,kV,h,j,q,g,m,i,rfl,l,c],k]
end
def YX(c:Room k A):A.units+1<cLine:=Mh (Nat.add_le_add_left (by decide) _) c.units
def V7(h:n<=1000):n<sizeLine:=Mh h (by decide)
def pv(i:Nat)  (h:X.N[i]?=some x:=by rfl)(f:Vis X.env.scope x:=by first|exact Or.inl rfl|exact Or.inr Qa|exact Or.inr<|Or.inr rfl)(g:(x==("__debug__" : Str))=false:=by decide)
(c:(x==("__classdict__" : Str))=false:=by decide):PE X (.Name x E) (QF i):=P5 h f g c
def av(i:Nat)   (h:PA X es t)(m:X.N[i]?=some x:=by rfl)(f:Vis X.env.scope x:=by first|exact Or.inl rfl|exact Or.inr Qa|exact Or.inr<|Or.inr rfl)(j:(x==("__debug__" : Str))=false:=by decide)
(c:(x==("__classdict__" : Str))=false:=by decide)(g:starEach (.Name x E::es) X.env=(false,eval (.Name x E) X.env)::starEach es X.env:=by rfl):PA X (.Name x E::es) (QM (QF i) t):=Qs (pv i m f j c) h g
def Q6(H U:Hp):Prop := ∀b o,H b=some o->U b=some o
def Q6.refl(H:Hp):Q6 H H:=λ_ _ h=>h
def Q6.trans(a:Q6 H L)(b:Q6 L H2):Q6 H H2:=λc o h=>b c o (a c o h)
def Q6.free(e:Q6 H U)(h:U l=Option.none):H l=Option.none:=by
 cases q:H l with
 |none=>rfl
 |some o=>
  rw[e l o q]at h;cases h
def Q6.seq(e:Q6 H U)(h:SqL K H a xs):SqL K U a xs:=by
 rcases h with (h|⟨o,h⟩)|h
 .exact .inl (.inl<|e _ _ h)
 .exact .inl (.inr #[o,e _ _ h])
 .exact .inr h
end L2
namespace L2
theorem Rc{env:Env}{F:Str×NameKind->List (Str×Addr)->Sem (ForInStep<|List<|Str×Addr)}
(C:∀n c cs,env.cells.lookup n=some c->F (n,NameKind.free) cs=pure (.yield ((n,c)::cs)))
(B:∀n k cs,k≠NameKind.free->F (n,k) cs=pure (.yield cs)):
 ∀(l:List (Str×NameKind)) (cs:List (Str×Addr)),(∀p∈l,p.2=NameKind.free->∃c,env.cells.lookup p.1=some c)->(∀x c,cs.lookup x=some c->env.cells.lookup x=some c)->
  ∃g,forIn l cs F=pure g/\(∀x c,g.lookup x=some c->env.cells.lookup x=some c)/\(∀x c,cs.lookup x=some c->∃b,g.lookup x=some b)/\∀p∈l,p.2=NameKind.free->∃c,g.lookup p.1=some c
 |[],cs,_,s=>⟨cs,by rw[List.forIn_nil],s,λx c h=>#[c,h],λp f=>Xu f<|by simp⟩
 |(n,k)::l,cs,X,s=>by
  have i:=λp f=>X p (Xe _ f)
  by_cases y:k=NameKind.free
  .subst y;obtain⟨c,e⟩:=X (n,NameKind.free) Xb rfl;have A:∀x d,((n,c)::cs).lookup x=some d->env.cells.lookup x=some d:=λx d q=>by
    cases j:x==n with
    |true=>
     simp_all
    |false=>
     simp only[XX,j]at q;exact s x d q
   obtain⟨g,W,P,M,K⟩:=Rc C B l ((n,c)::cs) i A;have Y:∀x d,cs.lookup x=some d->∃E,((n,c)::cs).lookup x=some E:=λx d q=>by
    cases j:x==n with
    |true=>exact#[c,by simp only[XX,j]]
    |false=>exact#[d,by simp only[XX,j];exact q]
   refine#[g,by rw[List.forIn_cons,C n c cs e];exact W,P,λx d q=>?_,λp f m=>?_]
   .obtain⟨E,a⟩:=Y x d q;exact M x E a
   .rcases Xc.mp f with rfl|f
    .simp_all
    .exact K p f m
  .obtain⟨g,W,P,M,K⟩:=Rc C B l cs i s;refine#[g,by rw[List.forIn_cons,B n k cs y];exact W,P,M,λp f m=>?_];rcases Xc.mp f with rfl|f
   .exact Xu m y
   .exact K p f m
def FY(h:∀p∈scope.names,p.2=NameKind.free->∃c,env.cells.lookup p.1=some c):
 ∃f,closureFor scope env=pure f/\(∀x c,f.lookup x=some c->env.cells.lookup x=some c)/\∀p∈scope.names,p.2=NameKind.free->∃c,f.lookup p.1=some c:=by
 simp only[closureFor];obtain⟨f,g,s,_,m⟩:=Rc (F:=λx r=>match x with|(name,kind)=>if (kind==NameKind.free)=true then do let a <- cellOf env name;pure (ForInStep.yield ((name,a)::r)) else pure<|ForInStep.yield r)
  (λn c j e=>by
   show(if _=true then _ else _)=_
   unfold cellOf;rw[e];rfl)
  (λn k j i=>by
   have:(k==NameKind.free)=false:=by simpa using i
   show(if _=true then _ else _)=_
   rw[this,Xg XA]) scope.names [] h (λx c q=>by simp at q)
 refine#[f,?_,s,m]
 first
  |exact g
  |(rw[bind_pure];exact g)
  |(exact g)
  |(exact g)
theorem Cr{env:Env}:∀{c:List (Str×NameKind)} {x:Str},c.lookup x=some .free->
 (c.map λ(n,k)=>if (k==NameKind.free&&env.scope.kind==.function&&env.kindOf n==some .cell) then (n,NameKind.cell) else (n,k)).lookup x=some .cell \/
 (c.map λ(n,k)=>if (k==NameKind.free&&env.scope.kind==.function&&env.kindOf n==some .cell) then (n,NameKind.cell) else (n,k)).lookup x=some .free
 |[],_,h=>by simp at h
 |(n,k)::r,x,h=>by
  have i:=@Cr env r x;show List.lookup x ((if _=true then _ else _)::_)=_\/List.lookup x ((if _=true then _ else _)::_)=_
  cases f:x==n with
  |true=>
   simp only[XX,f]at h;cases h
   by_cases g:(NameKind.free==NameKind.free&&env.scope.kind==.function&&env.kindOf n==some .cell)=true
   .rw[Xi g];left;simp only[XX,f]
   .rw[Xg g];right;simp only[XX,f]
  |false=>
   simp only[XX,f]at h;by_cases g:(k==NameKind.free&&env.scope.kind==.function&&env.kindOf n==some .cell)=true
   .rw[Xi g];simp only[XX,f];exact i h
   .rw[Xg g];simp only[XX,f];exact i h
theorem Ct{env:Env}:∀{c:List (Str×NameKind)} {x:Str},((c.map λ(n,k)=>if (k==NameKind.free&&env.scope.kind==.function&&env.kindOf n==some .cell) then (n,NameKind.cell) else (n,k)).lookup x=some .cell \/
 (c.map λ(n,k)=>if (k==NameKind.free&&env.scope.kind==.function&&env.kindOf n==some .cell) then (n,NameKind.cell) else (n,k)).lookup x=some .free)->c.lookup x=some .free\/c.lookup x=some .cell
 |[],_,h=>by simp at h
 |(n,k)::r,x,h=>by
  have i:=@Ct env r x;have h:List.lookup x ((if _=true then _ else _)::_)=_\/List.lookup x ((if _=true then _ else _)::_)=_:=h;cases g:x==n with
  |true=>
   simp only[XX,g];by_cases f:(k==NameKind.free&&env.scope.kind==.function&&env.kindOf n==some .cell)=true
   .have:=by
     rw[WB,WB]at f;exact eq_of_beq f.1.1
    left;rw[this]
   .rw[Xg f]at h;simp only[XX,g]at h;exact h.symm
  |false=>
   simp only[XX,g];by_cases f:(k==NameKind.free&&env.scope.kind==.function&&env.kindOf n==some .cell)=true
   .rw[Xi f]at h;simp only[XX,g]at h;exact i h
   .rw[Xg f]at h;simp only[XX,g]at h;exact i h
structure CIn where
 cl:List (Str×Addr)
 C:Addr
 s₀:Shared
 H₀:Hp
 ex:Qg
 pn:Qc
noncomputable def Vf(X:Cx)(N:Qh)(scope:Scope)(c:CIn):Cx where
 prog:=X.prog
 w:=X.w
 K:=X.K
 mg:=X.mg
 base:=X.base
 A:=X.A
 N:=N
 s₀:=c.s₀
 H₀:=c.H₀
 env:=compEnvC scope c.cl c.C X.env
 outer:=X.stack
 stack:=X.stack
 ex:=c.ex
 fn:=λ_=>false
 calm:=X.calm
 pn:=c.pn
 xe:=λ_ _=>False
def YS(f:List (Option Nat))(O:St):St:=f.map λo=>match o with|some i=>(O[i]?).join|none=>none
structure CompOk(NX:Qh)(sc:Scope)(N:Qh)(f:List (Option Nat))(scope:Scope):Prop where
 kind:scope.kind=.function
 nocell:∀y∈scope.names,y.2≠NameKind.cell
 names:∀y∈scope.names,y.2=NameKind.local->scope.names.lookup y.1=some .local
 free:∀y∈scope.names,y.2=NameKind.free->sc.names.lookup y.1=some .cell\/sc.names.lookup y.1=some .free
 len:f.length=N.length
 ix:∀(j i:Nat),f[j]?=some (some i)->∃x,N[j]?=some x/\NX[i]?=some x/\scope.names.lookup x=some .free
noncomputable def Gy(NX:Qh)(sc:Scope)(N:Qh)(f:List (Option Nat))(scope:Scope):Bool:=
 decide (scope.kind=.function)&&(scope.names.all λy=>decide (y.2≠NameKind.cell)&&(decide (y.2≠NameKind.local)||decide (scope.names.lookup y.1=some .local)) &&
  (decide (y.2≠NameKind.free)||decide (sc.names.lookup y.1=some .cell)||decide (sc.names.lookup y.1=some .free)))&&decide (f.length=N.length) &&
 (List.range f.length).all λj=>match f[j]? with
  | some (some i)=>(match N[j]? with
    |some x=>decide (NX[i]?=some x)&&decide (scope.names.lookup x=some .free)
    |none=>false)
  |_=>true
def FG{f:List (Option Nat)}(h:Gy NX sc N f scope=true):CompOk NX sc N f scope:=by
 unfold Gy at h;simp only[WB,J6,decide_eq_true_eq,Bool.or_eq_true]at h;obtain⟨⟨⟨C,g⟩,B⟩,A⟩:=h;refine#[C,λy c=>(g y c).1.1,λy c e=>?_,λy c e=>?_,B,λj i e=>?_]
 .rcases(g y c).1.2 with z|z
  .simp_all
  .exact z
 .rcases(g y c).2 with (z|z)|z
  .simp_all
  .exact .inl z
  .exact .inr z
 .have s:=(Xh.mp e).1;have q:=A j (X6.mpr s);rw[e]at q;cases m:N[j]? with
  |none=>rw[m]at q;simp at q
  |some x=>
   rw[m]at q;simp only[WB,decide_eq_true_eq]at q;exact#[x,rfl,q.1,q.2]
def Sh(f:List (Option Nat))(O c:St):Prop:=c.length=O.length/\∀(i j:Nat),f[i]?=some (some j)->c[i]?=O[i]?
structure TgOk(f:List (Option Nat))(g:TG):Prop where
 keep:∀x O H Q,g x O H Q->g x O H λσ2 H2=>Sh f O σ2/\Q σ2 H2
 mono:∀x O H Q Q',(∀O H,Q O H->Q' O H)->g x O H Q->g x O H Q'
structure TgsOk(f:List (Option Nat))(g:TGs):Prop where
 keep:∀xs O H Q,g xs O H Q->g xs O H λσ2 H2=>Sh f O σ2/\Q σ2 H2
 mono:∀xs O H Q Q',(∀O H,Q O H->Q' O H)->g xs O H Q->g xs O H Q'
theorem ZN{f:List (Option Nat)}(h:f[j]?=some none:=by rfl):TgOk f (Yb j) where
 keep:=λx O H Q q=>#[#[List.length_set ..,λi k e=>XY<|#[]],q]
 mono:=λx O H Q c m q=>m _ _ q
theorem MT{f:List (Option Nat)}:TgsOk f Hq where
 keep:=by rintro xs O H Q ⟨e,q⟩;exact#[e,#[rfl,λ_ _ _=>rfl],q]
 mono:=by rintro xs O H Q c m ⟨e,q⟩;exact#[e,m _ _ q]
theorem JV{f:List (Option Nat)}(h:TgOk f t)(g:TgsOk f u):TgsOk f (HC t u) where
 keep:=by rintro xs O H Q ⟨v,r,e,q⟩;exact#[v,r,e,h.mono _ _ _ _ _ (λc L z=>g.mono _ _ _ _ _ (λA C y=>#[#[y.1.1.trans z.1.1,λi j s=>(y.1.2 i j s).trans (z.1.2 i j s)],y.2])<|g.keep _ _ _ _ z.2)<|h.keep _ _ _ _ q]
 mono:=by rintro xs O H Q B m ⟨v,r,e,q⟩;exact#[v,r,e,h.mono _ _ _ _ _ (λc L z=>g.mono _ _ _ _ _ m z) q]
theorem MC{f:List (Option Nat)}(h:TgsOk f t):TgOk f (Hm K n t) where
 keep:=by rintro x O H Q ⟨a,xs,e,q,l,z⟩;exact#[a,xs,e,q,l,h.keep _ _ _ _ z]
 mono:=by rintro x O H Q c m ⟨a,xs,e,q,l,z⟩;exact#[a,xs,e,q,l,h.mono _ _ _ _ _ m z]
def PCs(X:Cx)(f:Qi)(tc:TT):Prop:=
 ∀(Y:Qc) (s:Shared) (O:St) (H:Hp) (Q:Bool->Hp->Prop),Qt X Y O H s->tc O H Q->
  wpAny (model X.prog X.w) X.A (forIn f true λc r=>if r=true then do let g <- isTrue c X.env (eval c X.env);pure (ForInStep.yield g) else pure<|ForInStep.yield r) (TP X Y O Q) X.xe s
def UX:TT:=λ_ H Q=>Q true H
def V1:PCs X [] UX:=λ_ _ _ H _ I h=>wpAny_tests_nil #[H,I,h]
def MU{c:Expr}{tc:TT}(h:PT X c tc):PCs X [c] tc:=λY s O H Q I q=>wpAny_tests_one (h Y s O H Q I q)
def Zk5(I:Nat->Shared->Prop)
(i:∀n s,I n s->wpAny (model prog w) A (pyNext it) (λr y=>match r with
  |none=>R (.ok .next) y
  | some v=>wpAny (model prog w) A (letOwnedTupleGo target it v) (λ_ f=>wpAny (model prog w) A (assign target env v) (λ_ P=>
   wpAny (model prog w) A (forIn ifs true λc r=>if r=true then do let j <- isTrue c env (eval c env);pure (ForInStep.yield j) else pure<|ForInStep.yield r) (λj q=>
    if j=true then wpAny (model prog w) A (eval elt env) (λx K=>
     wpAny (model prog w) A (call (.builtin "list.append") [acc,x]) (λ_ B => ∃m,m<n/\I m B) (λ_ _=>False) K) (λ_ _=>False) q
    else ∃m,m<n/\I m q) (λ_ _=>False) P) (λ_ _=>False) f) (λ_ _=>False) y) (λ_ _=>False) s)
(n:Nat)(h:I n s):
 codeAny (model prog w) A (.compLoop (.ListComp elt [#[target,iter,ifs,0]] scope E) 0 it acc env) R s:=by
 refine codeAny_loop rfl I (λn s W=>?_) n h;show wpAny _ A _ _ _ s;refine wpAny_noted ?_;rw[compTurn_list];refine Xa (wpAny_standAt<|Xa<|wpAny_mono (i n s W) (λr y M=>?_) λ_ _ h'=>h'.elim)
 cases r with
 |none=>exact Xm M
 |some v=>
  refine Xa (wpAny_mono M (λ_ f g=>?_) λ_ _ h'=>h'.elim);refine Xa (wpAny_mono g (λ_ P a=>Xa<|wpAny_mono a (λj q C=>?_) λ_ _ h'=>h'.elim) λ_ _ h'=>h'.elim);cases j with
  |false=>exact Xm #[rfl,C]
  |true=>
   exact Xa (Xa<|wpAny_mono C (λx K Y=>Xa<|wpAny_mono Y (λ_ B X=>Xm<|Xm #[rfl,X]) λ_ _ h'=>h'.elim) λ_ _ h'=>h'.elim)
theorem Qt.track{O:St}{H:Hp}{a:Addr}{o:HO}(I:Qt X Y O H s)(hn:H a=none)(h0:X.s₀.heap.objs.size<=a)(y:a≠X.env.locals)(A:∀x c,X.env.cells.lookup x=some c->c≠a)
(m:∀p∈X.pn++Y,p.1≠a)(new:ZT X.prog X.w (upd H a o) s.heap a o):Qt X Y O (upd H a o) s where
 ok:=I.ok
 os:=I.os
 bare:=I.bare
 base:=
  { keep:=I.base.keep
    slot:=I.base.slot
    free:=λb i q n j=>by rw[Qu<|Xs<|XF (Xk q) h0];exact I.base.free b i q n j
    there:=I.base.there
    tups:=λb xs q=>by have z:=I.base.tups b xs q;rw[Qu<|Z7 z hn];exact z
    tupo:=I.base.tupo
    frzs:=λb u xs q=>by have z:=I.base.frzs b u xs q;rw[Qu<|Z7 z hn];exact z
    tbls:=λb ps q=>by obtain⟨f,z⟩:=I.base.tbls b ps q;exact#[f,by rw[Qu<|Z7 z hn];exact z] }
 loc:=I.loc
 cell:=I.cell
 free:=by rw[Qu y.symm];exact I.free
 freeC:=λx c e=>by rw[Qu<|A x c e];exact I.freeC x c e
 pin:=λp g=>by obtain⟨e,n,r⟩:=I.pin p g;exact#[e,by rw[Qu<|m p g];exact n,r]
 hok:=λb u e=>by
  by_cases h:b=a
  .subst h;rw[QG]at e;cases e;exact new
  .rw[Qu h]at e;exact(I.hok b u e).stay (λ_ _ _ q=>q) (λc q=>by rw[Qu<|Z7 q hn];exact q) λc xs q=>by rw[Qu<|Z7 q hn];exact q
 len:=I.len
def LCw(f:List (Option Nat))(g:TG)(tc:TT)(te:TE)(O:St)(J:It)(Q:VK)(L:Hp):Prop:=
 ∃W:Nat->Nat->List V->Hp->Prop,(∃m,W 0 m [] L)/\∀i m ys H,W i m ys H->
  (J.stop i H/\∀p,H p=none->Q (.ref p) (upd H p<|.lst ys)) \/
  (J.go i H/\∀x U,J.yld i H x U->g x (YS f O) U λc s=>tc c s λb j=>
   if b=true then te c j λy q=>ys.length<sizeLine/\∃h,h<m/\W (i+1) h (ys++[y]) q
   else ∃h,h<m/\W (i+1) h ys j)
def tLC(f:List (Option Nat))(h:TI)(g:CIn->TG)(tc:CIn->TT)(te:CIn->TE):TE:=λO H Q=>h O H λJ L=>∀c:CIn,LCw f (g c) (tc c) (te c) O J Q L
noncomputable abbrev WF(its:Qe)(k:Nat):Obj:={ cls:=.type "list",data:=.seq its.toArray k }
structure TurnX(X:Cx)(tg:Expr)(J:It)(fp:Qg)(it:Addr)(tn:Nat->Heap->Prop):Prop where
 mem:it∈fp
 obj:∀i h,tn i h->∀b∈fp,∃o,h.get? b=some o/\∀v,o.data≠.cell v
 keep:∀i h h',tn i h->(∀b∈fp,∀o,h.get? b=some o->h'.get? b=some o)->tn i h'
 item:∀(X':Cx),X'.prog=X.prog->X'.w=X.w->X'.K=X.K->X'.A=X.A->X'.calm=X.calm->∀(i:Nat) (Y:Qc) (s:Shared) (O:St) (H:Hp) (pos:Qb),Qt X' Y O H s->(∀b∈fp,We X' Y H b)->tn i s.heap->J.go i H->
  wpAny (model X.prog X.w) X'.A (pyNext<|.ref it) (λr s1=>∃u,r=some u/\
   wpAny (model X.prog X.w) X'.A (letOwnedTupleGo tg (.ref it) u) (λ_ s2=>∃x U,Qt X' Y O U s2/\QR x u/\J.yld i H x U/\tn (i+1) s2.heap/\∀b∈fp,U b=none) pos s1) pos s
 done:∀(X':Cx),X'.prog=X.prog->X'.w=X.w->X'.K=X.K->X'.A=X.A->X'.calm=X.calm->∀(i:Nat) (Y:Qc) (s:Shared) (O:St) (H:Hp) (pos:Qb),Qt X' Y O H s->(∀b∈fp,We X' Y H b)->tn i s.heap->J.stop i H->
  wpAny (model X.prog X.w) X'.A (pyNext<|.ref it) (λr s1=>r=none/\Qt X' Y O H s1) pos s
 self:∀(A:Around) (i:Nat) (s:Shared) (Q:Qb) (pos:Qb),tn i s.heap->Q (.ref it) s->wpAny (model X.prog X.w) A (pyIter<|.ref it) Q pos s
def CI(X:Cx)(Y:Qc)(O:St)(tg:Expr)(R:It->Hp->Prop)(c:Value)(g:Shared):Prop:=
 ∃(h:Addr) (i:Qg) (f:Nat->Heap->Prop) (J:It) (U:Hp),c=.ref h/\Qt X Y O U g/\TurnX X tg J i h f/\f 0 g.heap/\(∀b∈i,We X Y U b)/\R J U
def PIH(X:Cx)(tg iter:Expr)(c:TI):Prop:=
 ∀(Y:Qc) (s:Shared) (O:St) (H:Hp) (R:It->Hp->Prop),Qt X Y O H s->c O H R->
  wpAny (model X.prog X.w) X.A (eval iter X.env) (λv f=>wpAny (model X.prog X.w) X.A (pyIter v) (CI X Y O tg R) X.xe f) X.xe s
def Turn.x(T:Turn X.prog X.w X.K tg J fp it tn)(j:X.calm=true):TurnX X tg J fp it tn:=
 #[T.mem,T.obj,T.keep,λi f c g _ h=>T.item i f c g<|h.trans j,λi f c g _ h=>T.done i f c g<|h.trans j,T.self]
def PI.x(h:PI X tg iter wi)(g:X.calm=true):PIH X tg iter wi:=λY s O H R I q=>Q8 (h Y s O H R I q) λv A i=>Q8 i<|by rintro v y ⟨f,j,c,J,U,e,m,T,r⟩;exact#[f,j,c,J,U,e,m,T.x g,r]
section
variable {O:St}{H2:Hp}{b7:Shared}
def Lc{f:List (Option Nat)}{g:CIn->TG}{tc:CIn->TT}{te:CIn->TE}
(ck:CompOk X.N X.env.scope N f scope)
(hg:∀c,PG (Vf X N scope c) tg<|g c)(ht:∀c,TgOk f<|g c)(hcs:∀c,PCs (Vf X N scope c) ifs<|tc c)(he:∀c,PE (Vf X N scope c) elt<|te c)
(a:Qt X Y O H2 b7)(T:TurnX X tg J fp it tn)(st:tn 0 b7.heap)(L:∀b∈fp,We X Y H2 b)
(hq:∀c:CIn,LCw f (g c) (tc c) (te c) O J Q H2)
(K:∀x c,cl.lookup x=some c->X.env.cells.lookup x=some c)(hcl2:∀p∈scope.names,p.2=NameKind.free->∃c,cl.lookup p.1=some c)
{RR:Value->Addr->Result->Shared->Prop}
(hRR:∀(H C:Addr) (U:Hp) (I:Shared) (m':Str->Qf),I.heap.Ns C m'->Qt X Y O U I->U C=none->C≠X.env.locals->X.s₀.heap.objs.size<=C->(∀x c,X.env.cells.lookup x=some c->c≠C)->
  (∀p∈X.pn++Y,p.1≠C)->Q (.ref H) U->RR (.ref H) C (.ok .next) I):
 wpAny (model X.prog X.w) X.A (newList []) (λH P=>wpAny (model X.prog X.w) X.A (newFunctionEnv scope X.env.globals cl [] X.env.qual none .none<|some X.env) (λcenv bq=>
  codeAny (model X.prog X.w) X.A (.compStart (.ListComp elt [#[tg,iter,ifs,0]] scope E) 0 (.ref it) H { cenv with scope:=relabel scope X.env }) (RR H cenv.locals) bq) pos P) pos b7:=by
 refine wpAny_newObj_type (wpAny_newFunctionEnv ck.nocell (by intro y hy;simp at hy) (λb8 bw bz=>?_) ck.kind);dsimp only at bw bz ⊢;have A:Qt X Y O H2 { b7 with heap:=b7.heap.push (WF [] 0) }:=a.kept (t':=b7.toks) λb u e=>Xd _ e;have hD:(b7.heap.push<|WF [] 0).get? b7.heap.objs.size=some (WF [] 0):=Xt _ rfl;generalize hs3:({ b7 with heap:=b7.heap.push (WF [] 0) }:Shared)=P at A bw bz ⊢;have Z:b7.heap.push (WF [] 0)=P.heap:=by rw[<- hs3]
 have hp3':=Z;rw[Z]at hD;simp only[hp3']at bw bz ⊢;have R:b7.heap.objs.size<P.heap.objs.size:=by rw[<- Z,X9];exact J7 _
 have k3:∀b u,b7.heap.get? b=some u->P.heap.get? b=some u:=λb u e=>by rw[<- Z];exact Xd _ e
 have k1:=λb u e=>
  bz.extBut b u (Xs<|Xk e) (Xd _ e)
 have fpo:∀b∈fp,b<b7.heap.objs.size:=λb m=>by
  obtain⟨o,e,_⟩:=T.obj 0 _ st b m;exact Xk e
 have st1:tn 0 b8:=T.keep _ _ _ st λb m o e=>k1 b o (k3 b o e);have fneC:=λb m=>Xs (Nat.lt_trans (fpo b m) R);have fneD:=λb m=>Xs (fpo b m)
 have G:∀x d,X.env.cells.lookup x=some d->d≠b7.heap.objs.size:=λx d e=>by
  obtain⟨v,z⟩:=a.cell x d e;exact Xs z.lt
 have w:=λp M=>Xs (Xk (a.pin p M).1);have freeD:H2 b7.heap.objs.size=none:=a.fresh
 have stk:∀b,b≠X.env.locals->b∉X.fs->b∉frs X.stack:=λb h1 h2 m=>by
  rcases Xc.mp (A.stkSub b m) with z|z
  .exact h1 z
  .exact h2 z
 have exD:∀b,b∈b7.heap.objs.size::fp->b=b7.heap.objs.size\/b∈fp:=λb m=>Xc.mp m
 let c:CIn:=#[cl,P.heap.objs.size,P,H2,b7.heap.objs.size::fp,X.pn++Y]
 have D:(Vf X N scope c).Ok:=
  { mod:=A.ok.mod
    kind:=ck.kind
    glob:=A.ok.glob
    blt:=A.ok.blt
    above:=Xn _
    inj:=λx y d h1 h2=>A.ok.inj x y d (K x d h1) (K y d h2)
    has:=λx hx=>by
     rcases Ct hx with z|z
     .exact hcl2 (x,.free) (PySem.mem_of_lookup z) rfl
     .exact Xu rfl (ck.nocell (x,.cell)<|PySem.mem_of_lookup z)
    cab:=λx d h=>Xu (h) XA
    hd:=A.ok.hd
    frames:=A.ok.frames
    stk:=.inl rfl
    exf:=λb m=>by
     rcases exD b m with rfl|m
     .exact#[Xs R,λx d e=>G x d<|K x d e]
     .exact#[fneC b m,λx d e=>(L b m).2.2.2.2.1 x d (K x d e)]
    bs:=λb o e=>A.bs b o e
    bsz:=Xl A.ok.bsz A.sz
    noex:=λb o e m=>by
     rcases exD b m with rfl|m
     .exact Xu (Xk<|a.bk _ _ e) (Y7 _)
     .rcases(L b m).2.2.2.1 with z|z
      .exact A.ok.noex b o e z
      .exact Xu (XF (Xk (A.ok.bs b o e).1) z) (Y7 _)
    exfs:=λb m=>by
     rcases exD b m with rfl|m
     .exact stk _ (X8 a.lt) (a.nofs<|Xn _)
     .exact stk b (L b m).2.1 (L b m).2.2.1
    funs:=A.stack
    frf:=A.stkFree }
 have I4:Qt (Vf X N scope c) [(b7.heap.objs.size,WF [] 0)] (YS f O) H2 { P with heap:=b8,toks:=P.toks+([]:List (Str×Value)).length }:=
  { ok:=D
    os:=rfl
    bare:=A.bare
    base:=Un.kept k1
    loc:=#[_,bw,λi x v e1 e2 e3=>by
     have hfi:∃j,f[i]?=some (some j)/\O[j]?=some (some v):=by
      unfold YS at e2;rw[Xy]at e2;cases ef:f[i]? with
      |none=>rw[ef]at e2;cases e2
      |some o=>
        rw[ef]at e2;cases o with
        |none=>cases e2
        |some j=>
          refine#[j,rfl,?_];have e2':(O[j]?).join=some v:=Option.some.inj e2;cases es:O[j]? with
          |none=>rw[es]at e2';cases e2'
          |some o2=>
            rw[es]at e2';have:o2=some v:=e2';rw[this]
     obtain⟨j,ef,es⟩:=hfi;obtain⟨x',n1,n2,n3⟩:=ck.ix i j ef;have:x'=x:=Option.some.inj (n1.symm.trans e1);subst this;have hfr:=ck.free (x',.free) (PySem.mem_of_lookup n3) rfl;obtain⟨m0,hm0,hl0⟩:=A.loc;obtain⟨u,ru,lk⟩:=hl0 j x' v n2 es (hfr.elim (λz=>.inr<|.inl z) λz=>.inr<|.inr z);refine#[u,ru,.inr #[Cr n3,?_]];rcases lk with ⟨kl,_⟩|⟨_,d,ed,hd⟩
     .have kl':X.env.scope.names.lookup x'=some .local:=kl;rcases hfr with z|z
      .rw[kl']at z;cases z
      .rw[kl']at z;cases z
     .obtain⟨d',ed'⟩:=hcl2 (x',.free) (PySem.mem_of_lookup n3) rfl;have:d'=d:=Option.some.inj ((K x' d' ed').symm.trans ed);subst this;exact#[d',ed',hd.keeps k1]]
    cell:=λx d e=>by
     obtain⟨v,z⟩:=A.cell x d (K x d e);exact#[v,z.keeps k1]
    free:=A.fresh
    freeC:=λx d e=>A.freeC x d (K x d e)
    pin:=λp M=>by
     rcases Xq.mp (M) with hp'|hp'
     .obtain⟨e,n,ne,nf,d⟩:=A.pin p hp';exact#[k1 _ _ e,n,Xs<|Xk e,stk p.1 ne nf,d]
     .have z:=Xj.mp hp';subst z;exact#[k1 _ _ hD,freeD,Xs R,stk _ (X8 a.lt)<|a.nofs<|Xn _,λv z=>nomatch (show Data.seq _ _=Data.cell v from z)]
    hok:=A.hok.kept k1
    len:=by
     unfold YS;rw[Xf];exact ck.len }
 have back:∀{σ':St} {U:Hp} {I:Shared} {ps:Qc},Qt (Vf X N scope c) ps σ' U I->Qt X Y O U I:=λ{σ' U I ps} J'=>
  A.call' J'.os J'.base J'.hok J'.bare λb m=>by
   rcases exD b m with rfl|m
   .exact#[.inr a.sz,X8 a.lt,G,w]
   .exact#[(L b m).2.2.2.1,(L b m).2.1,(L b m).2.2.2.2.1,(L b m).2.2.2.2.2]
 have fpX:∀{U:Hp} {ob:Obj},(∀b∈fp,U b=none)->∀b∈fp,We (Vf X N scope c) [(b7.heap.objs.size,ob)] U b:=λ{U ob} hn b m=>
  #[hn b m,(D.exf b<|Xe _ m).1,D.exfs b<|Xe _ m,.inl<|Xe _ m,(D.exf b<|Xe _ m).2,λp M=>by
   rcases Xq.mp (M) with z|z
   .exact(L b m).2.2.2.2.2 p z
   .have z:p=(b7.heap.objs.size,ob):=Xj.mp z;subst z;exact(fneD b m).symm]
 obtain⟨W,⟨m0,w0⟩,turn⟩:=hq c;have loop:∀s,s=({ P with heap:=b8,toks:=P.toks+([]:List (Str×Value)).length }:Shared)->
  codeAny (model X.prog X.w) X.A (.compLoop (.ListComp elt [#[tg,iter,ifs,0]] scope E) 0 (.ref it) (.ref b7.heap.objs.size)<|compEnvC scope cl P.heap.objs.size X.env) (RR (.ref b7.heap.objs.size) P.heap.objs.size) s:=by
  rintro s rfl;refine Zk5 (λn I=>∃i U ys B k,Qt (Vf X N scope c) [(b7.heap.objs.size,WF B k)] (YS f O) U I/\Za ys B/\ys.length<=sizeLine/\tn i I.heap/\(∀b∈fp,U b=none)/\W i n ys U) ?_ m0 #[0,_,[],[],0,I4,.nil,XN _,st1,λb m=>(L b m).1,w0];rintro n s5 ⟨i,H5,ys,B,k,I5,S,hz5,st5,fr5,w5⟩;rcases turn i n ys H5 w5 with ⟨stop,qn⟩|⟨go,step⟩
  .refine Q8 (T.done (Vf X N scope c) rfl rfl rfl rfl rfl i _ s5 (YS f O) H5 _ I5 (fpX fr5) st5 stop) ?_;rintro r s6 ⟨hr,I6⟩;subst hr;obtain⟨m6,hn6,_⟩:=id I6.loc;obtain⟨eD,nD,_⟩:=I6.pin (b7.heap.objs.size,WF B k) (X4 _<|Xj.mpr rfl);have I7:Qt X Y O (upd H5 b7.heap.objs.size<|.lst ys) s6:=(back I6).track nD a.sz (X8 a.lt) G w #[hz5,B,k,S,eD];refine hRR _ _ _ s6 m6 hn6 I7 (by rw[Qu<|X8 R];exact I6.free) (X8 A.lt) A.sz (λx d e=>?_) (λp M=>?_) (qn _ nD)
   .obtain⟨v,z⟩:=A.cell x d e;exact Xs z.lt
   .exact Xs (Xk (A.pin p M).1)
  .refine Q8 (T.item (Vf X N scope c) rfl rfl rfl rfl rfl i _ s5 (YS f O) H5 _ I5 (fpX fr5) st5 go) ?_;rintro r s6 ⟨u,hr,h6⟩;subst hr;refine Q8 h6 ?_;rintro _ s7 ⟨x,H7,I7,r7,y7,st7,fr7⟩;have I7':=I7.pinned (fpX fr7) (T.obj _ _ st7);refine Q8 (hg c _ s7 (YS f O) H7 x u _ I7' r7<|(ht c).keep _ _ _ _ (step x H7 y7)) ?_;rintro _ s8 ⟨l,H8,I8,kp8,q8⟩;have wk:∀(j:Nat) v,(YS f O)[j]?=some (some v)->l[j]?=some (some v):=λj v e=>by
    have ef:∃k,f[j]?=some (some k):=by
     have e':=e;unfold YS at e';rw[Xy]at e';cases q:f[j]? with
     |none=>rw[q]at e';cases e'
     |some o=>
      cases o with
      |none=>rw[q]at e';cases e'
      |some k=>exact#[k,rfl]
    obtain⟨k,ef⟩:=ef;rw[kp8.2 j k ef];exact e
   have recs:∀{H9:Hp} {s9:Shared} {ob:Obj},Qt (Vf X N scope c) ([(b7.heap.objs.size,ob)]++ME fp s7.heap) l H9 s9->tn (i+1) s9.heap/\∀b∈fp,H9 b=none:=λ{H9 s9 ob} I9=>
    #[T.keep _ _ _ st7 λb m o e=>(I9.pin (b,o)<|X4 _<|X4 _<|Dx m e).1,λb m=>by
     obtain⟨o,e,d⟩:=T.obj _ _ st7 b m;exact(I9.pin (b,o)<|X4 _<|X4 _<|Dx m e).2.1]
   refine Q8 (hcs c _ s8 l H8 _ I8 q8) ?_;rintro ok s9 ⟨H9,I9,q9⟩;cases ok with
   |false=>
    obtain⟨m',hm,w9⟩:=(q9);obtain⟨z1,z2⟩:=recs I9;exact#[m',hm,i+1,H9,ys,B,k,(I9.unpinned).weak kp8.1.symm wk,S,hz5,z1,z2,w9]
   |true=>
    refine Q8 (he c _ s9 l H9 _ I9<|q9) ?_;rintro v t ⟨y,H10,I10,r10,hlen,m',hm,w10⟩;obtain⟨eD,nD,neD,nfD,dD⟩:=I10.pin (b7.heap.objs.size,WF B k) (X4 _<|GM _<|Xj.mpr rfl);obtain⟨z1,z2⟩:=recs I10;have lv:=S.length;refine call_meets F.slot_list_append #[_,eD,rfl] F.entry_list_append (F.args_list_append_2 _ _) (PySem.list_append b7.heap.objs.size B.toArray k v<|by rw[Xr];lia) #[eD,?_];have q:=PySem.IsL.update eD (·.push v);have hf:B.toArray.push v=(B++[v]).toArray:=by simp
    rw[hf]at q;have I11:=
     (I10.pins_of (pins':=[]) λp M=>Xu M<|by simp).turned (t':=t.toks) (it:=b7.heap.objs.size) (λb o m e=>(XV t.heap (Obj.mapSeq (·.push v))<|Ne.symm m).trans e) nD neD (.inl Xb) (D.exf _ Xb).2 λp M=>by
      have z:=M;rw[Xw]at z;exact w p z
    have I12:Qt (Vf X N scope c) [(b7.heap.objs.size,WF (B++[v]) _)] l H10 { t with heap:=t.heap.update b7.heap.objs.size (Obj.mapSeq (·.push v)) }:=
     I11.pins_of λp M=>by
      have z:p=(b7.heap.objs.size,_):=Xj.mp M;subst z;exact#[q,nD,neD,nfD,λv z=>nomatch (show Data.seq _ _=Data.cell v from z)]
    refine#[m',hm,i+1,H10,ys++[y],B++[v],_,I12.weak kp8.1.symm wk,S.append<|.cons r10 .nil,by rw[Xp,GN];lia,?_,z2,w10];exact T.keep _ _ _ z1 λb m o e=>(XV t.heap (Obj.mapSeq (·.push v)) (fneD b m).symm).trans e
 exact codeAny_compStart_list (loop _<|by rw[<- hs3]) (T.self _ 0 _ _ _ st1<|loop _<|by rw[<- hs3])
def A6{f:List (Option Nat)}{g:CIn->TG}{tc:CIn->TT}{te:CIn->TE}
(ck:Gy NX sc N f scope=true)(M:X.N=NX)(B:X.env.scope=sc)(u:PIH X tg iter wi)
(v:∀c,PG (Vf X N scope c) tg<|g c)(k:∀c,TgOk f<|g c)(K:∀c,PCs (Vf X N scope c) ifs<|tc c)(he:∀c,PE (Vf X N scope c) elt<|te c)
(l:∀x,foldedSetIterable iter X.env x=pure x:=by intro _;rfl):PE X (.ListComp elt [#[tg,iter,ifs,0]] scope E) (tLC f wi g tc te):=by
 subst M B;intro Y s O H Q I h;have i:=FG ck;obtain⟨cl,j,A,y⟩:=FY λp r w=>I.ok.has p.1 (i.free p r w);refine wpAny_comprehension_free rfl l j i.kind i.names (Q8 (u Y s O H _ I h) λxv b6 b8=>Q8 b8 λd b7 bj=>?_);obtain⟨it,fp,tn,J,H2,e,I2,T,W,Z,n⟩:=bj;subst e;refine Lc i v k K he I2 T W Z n A y ?_;intro P C U s' a t I' F D R L G q;exact#[a,t,λS m=>#[.ref P,U,I'.turned (λb o z e=>(m.2 b z).trans e) F D (.inr R) L G,rfl,q]]
def V3{f:List (Option Nat)}{g:CIn->TG}{tc:CIn->TT}{te:CIn->TE}
(A:X.calm=true)(B:Gy NX sc N f scope=true)(j:X.N=NX)(h:X.env.scope=sc)(s:PI X tg iter wi)
(y:∀c,PG (Vf X N scope c) tg<|g c)(m:∀c,TgOk f<|g c)(i:∀c,PCs (Vf X N scope c) ifs<|tc c)(he:∀c,PE (Vf X N scope c) elt<|te c)
(q:∀x,foldedSetIterable iter X.env x=pure x:=by intro _;rfl):PE X (.ListComp elt [#[tg,iter,ifs,0]] scope E) (tLC f wi g tc te):=
 A6 B j h (s.x A) y m i he q
def Zpd{m:Pos}{f:List (Option Nat)}{g:CIn->TG}{tc:CIn->TT}{te:CIn->TE}
(hN:X.N.Nodup)(d:X.N[i]?=some x)(t:X.env.scope.names.lookup x=some .local)
(ck:Gy NX sc N f scope=true)(l:X.N=NX)(P:X.env.scope=sc)(hi:PIH X tg iter wi)
(hg:∀c,PG (Vf X N scope c) tg<|g c)(Z:∀c,TgOk f<|g c)(k:∀c,PCs (Vf X N scope c) ifs<|tc c)(he:∀c,PE (Vf X N scope c) elt<|te c)
(M:swapsWith (.ListComp elt [#[tg,iter,ifs,0]] scope E) (some<|.Name x px) m.line X.env=pure true)
(hs:∀x,foldedSetIterable iter X.env x=pure x:=by intro _;rfl):PS X (.Assign [.Name x px] (.ListComp elt [#[tg,iter,ifs,0]] scope E) m) (V2 (tLC f wi g tc te)<|Yb i):=by
 subst l P;intro Y s O H dx I h;have j:=FG ck;obtain⟨cl,y,K,B⟩:=FY λp hp hf=>I.ok.has p.1 (j.free p hp hf);rw[exec_Assign_Name_used _ _ _ _ M];refine Xa (wpAny_standAt<|Xa ?_)
 refine Xa (wpAny_mono (wpAny_comprehension_free rfl hs y j.kind j.names
  (Q8 (hi Y s O H _ I h) λxv b6 b8=>Q8 b8 λS b7 bj=>?_)) (λ_ L W=>Xm<|Xm W) λ_ _ e=>e)
 obtain⟨it,fp,tn,J,H2,e,I2,T,D,f2,W⟩:=bj;subst e;refine Lc j hg Z k he I2 T D f2 W K B ?_;intro n C U L R hn I' hC u h0 w h2 q;refine wpAny_assign_Name (Fk I' hN d (.inl t) (v:=.ref n) rfl ?_<|.inr t);rintro G r ⟨a,F,ha⟩;have Q:C≠a:=by
  rcases ha with z|z
  .rw[z];exact u
  .exact(w _ _ z).symm
 refine#[R,hn.sameBut F Q,λh'' A=>?_];exact#[_,U,r.turned (λb o hb e=>(A.2 b hb).trans e) hC u (.inr h0) w h2,q]
def BK{h:Pos}{f:List (Option Nat)}{g:CIn->TG}{tc:CIn->TT}{te:CIn->TE}
(P:X.N.Nodup)(q:X.N[i]?=some x)(A:X.env.scope.names.lookup x=some .local)
(O:X.calm=true)(W:Gy NX sc N f scope=true)(y:X.N=NX)(m:X.env.scope=sc)(K:PI X tg iter wi)
(M:∀c,PG (Vf X N scope c) tg<|g c)(B:∀c,TgOk f<|g c)(s:∀c,PCs (Vf X N scope c) ifs<|tc c)(he:∀c,PE (Vf X N scope c) elt<|te c)
(j:swapsWith (.ListComp elt [#[tg,iter,ifs,0]] scope E) (some<|.Name x px) h.line X.env=pure true)
(C:∀x,foldedSetIterable iter X.env x=pure x:=by intro _;rfl):PS X (.Assign [.Name x px] (.ListComp elt [#[tg,iter,ifs,0]] scope E) h) (V2 (tLC f wi g tc te)<|Yb i):=
 Zpd P q A W y m (K.x O) M B s he j C
end
end L2
namespace L2
mutual
inductive Rep(H:Hp):V->PyData->Prop
 |non:Rep H .non .none
 |bl (b:Bool):Rep H (.bl b) (.bool b)
 |int (i:Int):Rep H (.int i) (.int i)
 |str (x:Str):Rep H (.str x) (.str x)
 |lst {a:Addr}{xs:List V}{ds:Qd}:H a=some (.lst xs)->Q0 H xs ds->Rep H (.ref a) (.list ds)
 |tup {a:Addr}{xs:List V}{ds:Qd}:H a=some (.tup xs)->Q0 H xs ds->Rep H (.ref a) (.tuple ds)
 |dct {a:Addr}:H a=some (.dK [])->Rep H (.ref a) (.dict [])
inductive Q0(H:Hp):List V->Qd->Prop
 |nil:Q0 H [] []
 |cons {x:V}{xs:List V}{d:PyData}{ds:Qd}:Rep H x d->Q0 H xs ds->Q0 H (x::xs) (d::ds)
end
mutual
theorem Rep.mono{H U:Hp}(s:Q6 H U):∀{v:V} {d:PyData},Rep H v d->Rep U v d
 |_,_,.non=>.non
 |_,_,.bl b=>.bl b
 |_,_,.int i=>.int i
 |_,_,.str x=>.str x
 |_,_,.lst h r=>.lst (s _ _ h) (Q0.mono s r)
 |_,_,.tup h r=>.tup (s _ _ h) (Q0.mono s r)
 |_,_,.dct h=>.dct (s _ _ h)
theorem Q0.mono{H U:Hp}(s:Q6 H U):∀{vs:List V} {ds:Qd},Q0 H vs ds->Q0 U vs ds
 |_,_,.nil=>.nil
 |_,_,.cons r t=>.cons (Rep.mono s r) (Q0.mono s t)
end
theorem Q0.length{H:Hp}:∀{vs:List V} {ds:Qd},Q0 H vs ds->vs.length=ds.length
 |_,_,.nil=>rfl
 |_,_,.cons _ t=>by simp[Q0.length t]
theorem Q0.get{H:Hp}:∀{vs:List V} {ds:Qd} {i:Nat} {d:PyData},Q0 H vs ds->ds[i]?=some d->∃v,vs[i]?=some v/\Rep H v d
 |_,_,_,_,.nil,e=>by simp at e
 |_,_,0,_,.cons r _,e=>by simp at e;subst e;exact#[_,rfl,r]
 |_,_,i+1,d,.cons _ t,e=>by
  obtain⟨u,f,c⟩:=Q0.get (i:=i) (d:=d) t (by simpa using e);exact#[u,by simpa using f,c]
theorem Q0.snoc{H:Hp}{v:V}{d:PyData}:∀{vs:List V} {ds:Qd},Q0 H vs ds->Rep H v d->Q0 H (vs++[v]) (ds++[d])
 |_,_,.nil,h=>.cons h .nil
 |_,_,.cons r t,h=>.cons r (Q0.snoc t h)
theorem Q0.append{H:Hp}:∀{vs ws:List V} {ds es:Qd},Q0 H vs ds->Q0 H ws es->Q0 H (vs++ws) (ds++es)
 |_,_,_,_,.nil,s=>s
 |_,_,_,_,.cons r t,s=>.cons r (Q0.append t s)
theorem Q0.set{H:Hp}{v:V}{d:PyData}(r:Rep H v d):∀{vs:List V} {ds:Qd} (i:Nat),Q0 H vs ds->Q0 H (vs.set i v) (ds.set i d)
 |_,_,_,.nil=>.nil
 |_,_,0,.cons _ t=>.cons r t
 |_,_,i+1,.cons q t=>.cons q (Q0.set r i t)
theorem BM{H:Hp}:∀{vs:List V} {l:Ql},Q0 H vs (l.map PyData.int)->vs=l.map V.int
 |_,[],.nil=>rfl
 |_,i::l,.cons (.int _) t=>by rw[Xv,BM t]
section
variable {O:St}{H:Hp}
mutual
theorem Rep.reads(I:Qt X Y O H s):∀{v:V} {d:PyData} {u:Value},Rep H v d->QR v u->∃as,Reads s.heap u d as
 |_,_,_,.non,r=>by cases r;exact#[_,.none]
 |_,_,_,.bl b,r=>by cases r;exact#[_,.bool b]
 |_,_,_,.int i,r=>by obtain⟨t,rfl⟩:=r;exact#[_,.int i t]
 |_,_,_,.str x,r=>by obtain⟨t,rfl⟩:=r;exact#[_,.str x t]
 |_,_,_,.lst h q,r=>by
  cases r;obtain⟨z,j,n,f,e⟩:=I.hok _ _ h;obtain⟨as,g⟩:=Q0.reads I q f;exact#[_,.list e rfl rfl (by simpa using g)]
 |_,_,_,.tup h q,r=>by
  cases r;obtain⟨z,j,f,o,e,c,n,dd⟩:=I.hok _ _ h;obtain⟨as,g⟩:=Q0.reads I q f;exact#[_,.tuple e c dd<|by simpa using g]
 |_,_,_,.dct h,r=>by
  cases r;obtain⟨z,y,C,B,E,es,K,e,c,dd,_,A,_⟩:=I.hok _ _ h;cases B;have m:es.toList=[]:=List.eq_nil_of_length_eq_zero A.length;exact#[_,.dict (kvs:=[]) e c.1 dd (by rw[m];exact .nil)<|by rw[m];exact .nil]
theorem Q0.reads(I:Qt X Y O H s):∀{vs:List V} {ds:Qd} {us:Qe},Q0 H vs ds->Za vs us->∃as,ReadsAll s.heap us ds as
 |_,_,_,.nil,r=>by cases r;exact#[_,.nil]
 |_,_,_,.cons q t,r=>by
  cases r with
  |cons h g=>
   obtain⟨as,f⟩:=Rep.reads I q h;obtain⟨i,c⟩:=Q0.reads I t g;exact#[_,.cons f c]
end
def Y8(d:PyData):Prop:=d.canLay0=true/\d.depth<=60
def RY:R2:=λx y H Q=>∃d e,Rep H x d/\Rep H y e/\Y8 d/\Y8 e/\Q (.bl<|PyData.eqv d e) H
def Sv:R2:=λx y H Q=>∃d e,Rep H x d/\Rep H y e/\Y8 d/\Y8 e/\Q (.bl<|!PyData.eqv d e) H
def As(B:X.A.units+64<cLine):OpR X (compareOp .Eq) RY:=by
 intro Y s O H x y v u Q I f c h;obtain⟨d,e,m,j,fd,A,q⟩:=h;obtain⟨M,i⟩:=m.reads I f;obtain⟨K,g⟩:=j.reads I c;refine SeqAt.compareEq_reads i g fd.1 A.1 ?_ #[.bl<|PyData.eqv d e,H,I,rfl,q];have E:=fd.2;have C:min d.depth e.depth<=d.depth:=Nat.min_le_left _ _;lia
def MJ(B:X.A.units+64<cLine):OpR X (compareOp .NotEq) Sv:=by
 intro Y s O H x y v u Q I f c h;obtain⟨d,e,m,j,fd,A,q⟩:=h;obtain⟨M,i⟩:=m.reads I f;obtain⟨K,g⟩:=j.reads I c;refine SeqAt.compareNe_reads i g fd.1 A.1 ?_ #[.bl<|!PyData.eqv d e,H,I,rfl,q];have E:=fd.2;have C:min d.depth e.depth<=d.depth:=Nat.min_le_left _ _;lia
end
def OF(f:Y8 d):PyData.eqv d d=true:=SeqAt.eqv_refl d f.1
def PX{c:Type}{xs:List c}{i:Int}{v:c}(h:atI xs i=some v):∃j:Nat,xs[j]?=some v/\ixN xs.length i=some j:=by
 unfold atI at h;cases e:ixN xs.length i with
 |none=>rw[e]at h;cases h
 |some j=>rw[e]at h;exact#[j,h,rfl]
inductive TyN(H:Hp):V->String->Prop
 |non:TyN H .non "NoneType"
 |bl (b:Bool):TyN H (.bl b) "bool"
 |int (i:Int):TyN H (.int i) "int"
 |str (x:Str):TyN H (.str x) "str"
 |lst {a:Addr}{xs:List V}:H a=some (.lst xs)->TyN H (.ref a) "list"
 |tup {a:Addr}{xs:List V}:H a=some (.tup xs)->TyN H (.ref a) "tuple"
 |dct {a:Addr}:H a=some (.dK [])->TyN H (.ref a) "dict"
noncomputable def tyD:PyData->String
 |.none => "NoneType"
 |.bool _ => "bool"
 |.int _ => "int"
 |.str _ => "str"
 |.list _ => "list"
 |.tuple _ => "tuple"
 |.dict _ => "dict"
def Rep.ty(r:Rep H v d):TyN H v (tyD d):=by
 cases r with
 |non=>exact .non
 |bl b=>exact .bl b
 |int i=>exact .int i
 |str x=>exact .str x
 |lst h _=>exact .lst h
 |tup h _=>exact .tup h
 |dct h=>exact .dct h
noncomputable def Ur(T c:String):Option Bool:=
 if T = "int" /\ c = "int" then some true else if T = "int" /\ c = "bool" then some false else if T = "list" /\ c = "list" then some true else if T = "tuple" /\ c = "tuple" then some true else none
def OJ:ZE X (.builtin "isinstance") (λxs H Q=>∃x T c b,xs=[x,.ty c]/\TyN H x T/\Ur T c=some b/\Q (.bl b) H):=by
 intro Y s O H xs P Q I r h;obtain⟨x,T,c,b,rfl,B,e,q⟩:=h;obtain⟨u,M,rfl,g,E⟩:=Uv r;cases (E);have f:∀t,EP X Y O Q _ { s with toks:=t }:=λt=>#[.bl b,H,I.tok t,rfl,q]
 cases B with
 |int i=>
  obtain⟨t,rfl⟩:=g
  by_cases z:c = "int"
  .subst z;cases e;exact IsiPair.int_int (f _)
  .by_cases A:c = "bool"
   .subst A;cases e;exact IsiPair.int_bool (f _)
   .simp[Ur,z,A]at e
 |lst m=>
  by_cases z:c = "list"
  .subst z;cases e;cases g;obtain⟨z,j,n,C,y⟩:=I.hok _ _ m;exact IsiPair.list_list y rfl (f _)
  .simp[Ur,z]at e
 |tup m=>
  by_cases z:c = "tuple"
  .subst z;cases e;cases g;obtain⟨z,j,C,o,y,K,n,dd⟩:=I.hok _ _ m;exact IsiPair.tuple_tuple y K (f _)
  .simp[Ur,z]at e
 |_=>simp[Ur]at e
def WJ(_ j:Int):Prop:=0<j/\j<2^8000
def Iz{j:Int}(h:WJ 0 j):j.natAbs.log2<9000:=by
 have f:j.natAbs≠0:=by have:=h.1;lia
 have c:j.natAbs<2^8000:=by have:=h.2;have:=h.1;lia
 have:=(Nat.log2_lt f).mpr c;lia
def YM:OpR X (binaryOp .FloorDiv) (rI WJ λi j=>.int<|i/j):=opI λi j _ _ _ _ _ c q=>by
 have e:i.fdiv j=i/j:=Int.fdiv_eq_ediv_of_nonneg _ (Int.le_of_lt c.1);refine floordiv_int (Int.ne_of_gt c.1) ?_ (.inl<|PyProof.noPylong_of_log2<|Iz c);rw[e];exact q
def Q6.upd(s:Q6 H U)(h:H a=none):Q6 H (L2.upd U a o):=λb u e=>by
 rw[Qu<|Z7 e h];exact s b u e
def Q6.new(h:H a=none):Q6 H (L2.upd H a o):=(Q6.refl H).upd h
def EM{O:St}{H:Hp}(I:Qt X Y O H s):sysModules<s.heap.objs.size:=
 Nat.lt_trans (show sysModules<mainGlobals by decide) ((I.mod.glob.keeps I.bk).lt)
def PU:TE:=λ_ H Q=>∀p,H p=none->Q (.ref p) (upd H p<|.dK [])
def ZrJ : PE X (.Dict [] [] E) PU:=λY s O H Q I h=>
 wpAny_Dict_empty #[.ref s.heap.objs.size,_,I.laid (a:=s.heap.objs.size) (o:=.dK []) (t':=s.toks) (λ_ _ q=>Xd _ q) (Xn _) #[XN _,beq_eq_false_iff_ne.mpr<|Ne.symm<|Xs<|EM I,[],.nil,Heap.DictOf.new s.heap],rfl,h _<|I.hok.fresh<|Xn _]
end L2
namespace Att
open PySem PySem.W PySem.Calls PyProof.Rows
theorem FP:∀(ns:Ql) (i:Int),i∈ns->Builtin.Int.intBits i<=WData.weightAll (ns.map WData.int)
 |[],i,h=>by simp at h
 |n::ns,i,h=>by
  rw[Xv,WData.weightAll];rcases Xc.mp h with rfl|h
  .have:WData.weight (.int i)=Builtin.Int.intBits i:=by rw[WData.weight];rfl
   lia
  .have:=FP ns i h;lia
def Il{ns:Ql}(h:WData.layableAll [WData.list<|ns.map WData.int]=true):∀i∈ns,Builtin.Int.intBits i<=2^20:=λi c=>by
 have g:=layableW_arg h _ (Xj.mpr rfl);obtain⟨_,_,f⟩:=layableW_iff.mp g;exact Xl (FP ns i c) f
def attach_callW{l:OpenLaw}{q:Program}
(hn:l.most=some n)(W:d.params.defaults=[])
(call:∀(w:World) (c g:Shared) (mg K:Str->Qf) (B:Addr) (o:Obj) (E cd j:Value) (a:Addr) (vs:Qe) (ns:Ql),
  Ground q loose [] XP w c mg K g.heap->YP w g.heap->
  g.heap.get? B=some o->o.data=.func (docDef d.name d.params d.body d.scope E cd j)->g.heap.CodeRec cd d.name->mg d.name=some (.ref B)->
  g.heap.get? a=some { cls:=.type "list",data:=.seq vs.toArray }->IntsAre vs ns->ns.length<=n->(∀i∈ns,Builtin.Int.intBits i<=2^20)->g.gens=(List.toArray [])->
  codeAny (model l.prog w) callerA (.call (.ref B) #[[.ref a],[]]) (λr C=>r=.ok (.ret<|.bool true)/\OldK g.heap C.heap/\C.os=g.os/\AllBare C.gens) g):
 WalkO q loose XP YP l.row.toRowW d [] (λf vs=>PySem.call f vs):=by
 intro w c g mg K G Xa1 B o E cd j I kV t z X b P x e Y J m A k M v;obtain rfl:=Dflts.none b W;obtain rfl:=Dflts.noKw b;obtain⟨a,vs,ns,rfl,rfl,s,h,y⟩:=Zq3 hn m M;refine enter_call (codeAny_mono (call w c g mg K B o E cd j a vs ns G Xa1 t (fd_plain z) X P s h y (Il A) x) λr C p=>?_);obtain⟨rfl,H,F,D⟩:=p;exact#[.inl #[.bool true,.bool true,[],rfl,λ_=>rfl,.bool true,Zpp l _,λ_=>#[List.Pairwise.nil,λ_ u=>(nomatch u)]],H,F,D]
end Att
namespace L2
structure Scr(K:W.Frag)(H:Hp)(a:Addr)(ns:Ql):Prop where
 sq:SqL K H a (ns.map V.int)
 len:ns.length<=63
 bits:∀i∈ns,Builtin.Int.intBits i<=2^20
def Scr.mono(h:Scr K H a ns)(s:Q6 H U):Scr K U a ns:=#[s.seq h.sq,h.len,h.bits]
structure Df(K:W.Frag)(mg:Str->Qf)(x:Str)(st:Stmt)(ps:Qh):Prop where
 ex:∃f fd,Fun K x x st f fd/\mg x=some (.ref f)/\Va K fd ps []
def Q2(P:Program)(w:World)(K:W.Frag)(mg:Str->Qf)(base:Heap)(x:Str)(ps:Qh)(k:Nat)(sp:Sp):Prop:=
 ∃f fd,mg x=some (.ref f)/\W.keepIn K (.ref f)=true/\Va K fd ps []/\FnOk P w K mg base CX0 k f fd ps sp
def Df.go{c:CXT}{w:World}{base:Heap}{x:Str}{st:Stmt}{k:Nat}(j:Df K mg x st ps)(h:∀f fd,Fun K x x st f fd->FnOk P w K mg base c k f fd ps sp):∃f fd,mg x=some (.ref f)/\W.keepIn K (.ref f)=true/\Va K fd ps []/\FnOk P w K mg base c k f fd ps sp:=by
 obtain⟨f,fd,F,g,i⟩:=j.ex;exact#[f,fd,g,F.kp,i,h f fd F]
def Q7{x:Str}{p:Pos}{e:Expr}{t:TA}{k:Nat}(C:Q2 X.prog X.w X.K X.mg X.base x ps j sp)(g:Room k X.A)(y:PA X (e::es) t)(m:j<=k:=by walk_at"j")(q:Gl X x:=by rfl)
(c:(x==("__debug__" : Str))=false:=by decide +kernel)
(he:zs X e es:=by rfl)(hpl:(backTo E<|starEach es X.env).any (·.1)=false:=by rfl):PE X (.Call (.Name x p) (e::es) [] E) (Ve sp [] E0 t):=by
 obtain⟨f,fd,h,i,s,F⟩:=C;exact Tu F (g.mono m) q h i s .nil YV y c he hpl
def ZQ:bootBuiltins "len"=some (.builtin "len"):=by decide +kernel
def Kg:bootBuiltins "max"=some (.builtin "max"):=by decide +kernel
def MB:bootBuiltins "min"=some (.builtin "min"):=by decide +kernel
def PZ:bootBuiltins "sum"=some (.builtin "sum"):=by decide +kernel
def B4:bootBuiltins "all"=some (.builtin "all"):=by decide +kernel
def WN:bootBuiltins "isinstance"=some (.builtin "isinstance"):=by decide +kernel
def Bt:bootBuiltins "int"=some (.type "int"):=by decide +kernel
def IQ:bootBuiltins "bool"=some (.type "bool"):=by decide +kernel
def IR:bootBuiltins "list"=some (.type "list"):=by decide +kernel
def G5:bootBuiltins "tuple"=some (.type "tuple"):=by decide +kernel
end L2
namespace L2
mutual
theorem Rep.uniq{H:Hp}:∀{v:V} {d e:PyData},Rep H v d->Rep H v e->d=e
 |_,_,_,.non,.non=>rfl
 |_,_,_,.bl b,.bl _=>rfl
 |_,_,_,.int b,.int _=>rfl
 |_,_,_,.str b,.str _=>rfl
 |_,_,_,.lst h r,.lst h' c=>by
  rw[h]at h';cases h';rw[Q0.uniq r c]
 |_,_,_,.tup h r,.tup h' c=>by
  rw[h]at h';cases h';rw[Q0.uniq r c]
 |_,_,_,.lst h r,.tup h' c=>by rw[h]at h';cases h'
 |_,_,_,.tup h r,.lst h' c=>by rw[h]at h';cases h'
 |_,_,_,.dct h,.dct h'=>rfl
 |_,_,_,.lst h r,.dct h'=>by rw[h]at h';cases h'
 |_,_,_,.tup h r,.dct h'=>by rw[h]at h';cases h'
 |_,_,_,.dct h,.lst h' c=>by rw[h]at h';cases h'
 |_,_,_,.dct h,.tup h' c=>by rw[h]at h';cases h'
theorem Q0.uniq{H:Hp}:∀{vs:List V} {ds es:Qd},Q0 H vs ds->Q0 H vs es->ds=es
 |_,_,_,.nil,.nil=>rfl
 |_,_,_,.cons r t,.cons f c=>by rw[Rep.uniq r f,Q0.uniq t c]
end
mutual
def noL:PyData->Bool
 |.none=>true
 |.bool _=>true
 |.int _=>true
 |.str _=>true
 |.list _=>false
 |.dict _=>false
 |.tuple ds=>noLs ds
def noLs:Qd->Bool
 |[]=>true
 |d::ds=>noL d&&noLs ds
end
mutual
theorem Rep.updL{H:Hp}{l:Addr}{us za:List V}(c:H l=some (.lst us)):∀{v:V} {d:PyData},noL d=true->Rep H v d->Rep (L2.upd H l<|.lst za) v d
 |_,_,_,.non=>.non
 |_,_,_,.bl b=>.bl b
 |_,_,_,.int i=>.int i
 |_,_,_,.str x=>.str x
 |_,_,h,.lst _ _=>by simp[noL]at h
 |_,_,h,.tup f r=>.tup (by rw[Qu<|SE f c<|by intro z;cases z];exact f) (Q0.updL c (by simpa [noL] using h) r)
theorem Q0.updL{H:Hp}{l:Addr}{us za:List V}(c:H l=some (.lst us)):∀{vs:List V} {ds:Qd},noLs ds=true->Q0 H vs ds->Q0 (L2.upd H l<|.lst za) vs ds
 |_,_,_,.nil=>.nil
 |_,_,h,.cons r t=>.cons (Rep.updL c (by simp[noLs]at h;exact h.1) r) (Q0.updL c (by simp[noLs]at h;exact h.2) t)
end
end L2
namespace L2
def FX(a b:Int):Builtin.Range.rangeSize a b (-1)=((a-b).toNat:Int):=by
 unfold Builtin.Range.rangeSize;split<;>lia
def ZlD{b:Int}(ha : -(2^62)<=a)(f:a<2^62)(hb : -(2^62)<=b)(c:b<2^62):Builtin.Range.small a b (-1)=true:=by
 unfold Builtin.Range.small;rw[FX];simp only[Builtin.Range.rangeFitsLong,WB,Bool.or_eq_true,decide_eq_true_eq,beq_iff_eq,show ¬((-1) > 0) by decide,if_false];lia
def Hn(c:Int)(n:Nat):It:=#[λi _=>i<n,λi H x U=>U=H/\x=.int (c-i),λi _=>n<=i]
theorem Zms(it:Addr)(hi:Int)(n:Nat):Turn P w K tg (Hn hi n) [it] it (λi h=>IsRangeIter h it (hi+(i:Nat)*(-1)) ((n:Int)-(i:Nat)) (-1)) where
 mem:=by simp
 obj:=λi h c b f=>by
  simp_all
 keep:=λi h h' c k=>k it (by simp) _ c
 item:=by
  intro X M E a q i Y s O H m I j c hg;subst M E a;obtain⟨f0,C,p,B,A,y⟩:=j it (by simp);have W:=Walks.range (prog:=X.prog) (w:=X.w) (I.ok.hd q) it hi (-1) n;refine W.item i s _ _ hg c λv h' tk l g d=>?_;obtain⟨t,rfl⟩:=l;have u:Qt X Y O H { s with heap:=h',toks:=tk }:=I.turned (λb o f e=>d b o (by simpa using f) e) f0 C B A y;refine#[_,rfl,Bi g rfl rfl (by decide) #[.int<|hi-i,H,u,#[t,?_],#[rfl,rfl],g,λb f=>(j b f).1]]
  grind
 done:=by
  intro X M E a q i Y s O H m I j c hg;obtain⟨f0,C,p,B,A,y⟩:=j it (by simp);exact wpAny_pyNext_range_end (I.ok.hd q) c (by have:n<=i:=hg;lia) λh' r=>#[rfl,I.turned (λb o f e=>r b o f e) f0 C B A y]
 self:=λ_ _ _ _ _ c h=>wpAny_pyIter_rangeiter c h
def Zqf{O:St}{H:Hp}{R:It->Hp->Prop}{f:Qb}{lo c:Int}{t u v:Tok}{h:Nat}(I:Qt X Y O H s)(h1 : -(2^62)<=c)(m:c<2^62)(h3 : -(2^62)<=lo)(j:lo<2^62)
(q:R (Hn c (c-lo).toNat) H):wpAny (model X.prog X.w) X.A (pyIter<|.ref s.heap.objs.size) (PIE X Y O tg R) f { s with heap:=s.heap.push { cls:=.type "range",data:=.fields (List.toArray [.int c t,.int lo u,.int (-1) v]) },toks:=h }:=by
 refine wpAny_pyIter_range (IsRange.new ..) (ZlD h1 m h3 j) ?_;have g:Qt X Y O H { s with heap:=s.heap.push { cls:=.type "range",data:=.fields (List.toArray [.int c t,.int lo u,.int (-1) v]) },toks:=h }:=I.kept λb o e=>Xd _ e
 refine#[(s.heap.push { cls:=.type "range",data:=.fields (List.toArray [.int c t,.int lo u,.int (-1) v]) }).objs.size,[(s.heap.push { cls:=.type "range",data:=.fields (List.toArray [.int c t,.int lo u,.int (-1) v]) }).objs.size],_,_,H,rfl,
  g.kept λb o e=>Xd _ e,Zms _ c (c-lo).toNat,?_,λb i=>?_,q]
 .have A:c+((0:Nat))*(-1)=c:=by simp
  have y:(((c-lo).toNat))-((0:Nat))=Builtin.Range.rangeSize c lo (-1):=by rw[FX];lia
  rw[A,y];exact Xt _ rfl
 .have e:b=(s.heap.push { cls:=.type "range",data:=.fields (List.toArray [.int c t,.int lo u,.int (-1) v]) }).objs.size:=by simpa using i
  subst e;exact g.fpOk (Xn _) (g.hok.fresh<|Xn _)
def SV(ta:TA):TI:=λO H R=>ta O H λc L=>∃i j:Int,c=[.int i,.int j,.int (-1)]/\(-(2^62)<=i/\i<2^62 /\ -(2^62)<=j/\j<2^62)/\R (Hn i (i-j).toNat) L
def ZoB{a b c:Expr}{ta:TA}{p:Pos}(d:Gl X "range")(W:X.mg "range"=none)(k:PA X [a,b,c] ta)(P:starEach [a,b,c] X.env=[(false,eval a X.env),(false,eval b X.env),(false,eval c X.env)]:=by rfl)
(g:starEach [b,c] X.env=[(false,eval b X.env),(false,eval c X.env)]:=by rfl):PI X tg (.Call (.Name "range" p) [a,b,c] [] E) (SV ta):=by
 intro Y s O H R I h;refine Call_ (Jp I d W boot_range<|PyProof.Rows.callWith_type1 (Q8 (k E Y s O H _ I h) ?_) (by rw[P,g])<|by rw[g];rfl);rintro o w ⟨n,L,l,A,m⟩;obtain⟨i,j,e,⟨m,M,K,C⟩,q⟩:=m;subst e;cases A with
 |cons r f=>
  cases f with
  |cons B f=>
   cases f with
   |cons y f=>
    cases f;obtain⟨t,rfl⟩:=r;obtain⟨v,rfl⟩:=B;obtain⟨u,rfl⟩:=y;exact call_range_3 (by decide) (Zqf l m M K C q) (.inl<|PyProof.noPylong_small<|by decide)
def M4(K:W.Frag):V->V->Hp->VK->Prop:=λo i H Q=>∃p xs k v,o=.ref p/\i=.int k/\SqL K H p xs/\0<=k/\xs[k.toNat]?=some v/\Q v H
def Zlv(ns:Ql):preSum (λi=>ns.getD i 0) ns.length=ns.sum:=by
 have c:∀k,k<=ns.length->preSum (λi=>ns.getD i 0) k=(ns.take k).sum:=by
  intro k;induction k with
  |zero=>intro _;simp[preSum]
  |succ k f=>
   intro h;have g:k<ns.length:=#[]
   rw[Ud,List.sum_append,<- f #[]];simp[preSum,g]
 rw[c ns.length<|Xn _,J5]
theorem JQ:∀{vs:Qe} {ns:Ql} {i:Nat} {v:Value},IntsAre vs ns->vs[i]?=some v->∃t,v=.int (ns.getD i 0) t
 |_,_,_,_,.nil,e=>by simp at e
 |_,_,0,_,.cons n t h,e=>by simp at e;exact#[t,by simp[<- e]]
 |_,_,i+1,v,.cons n t h,e=>by
  obtain⟨c,z⟩:=JQ h (by simpa using e);exact#[c,by simpa using z]
def ZjY(K:A.handled=none)(q:s.heap.IsList l vs.toArray)(B:IntsAre vs ns)
(h:∀h' C t',(∀b o,s.heap.get? b=some o->h'.get? b=some o)->Q (.int ns.sum t') { s with heap:=h',toks:=C }):wpAny (model prog w) A (call (.builtin "sum") [.ref l]) Q pos s:=by
 obtain⟨o,y,p,n,k⟩:=id q;have m:=Xs (Xk y);have W:=(Walks.list (prog:=prog) (w:=w) (A:=A.in1) K s.heap.objs.size l m vs.toArray).toS;refine call_sum_walkAnyS (wpAny_pyIter_list q ?_);refine#[s.heap.objs.size,_,_,_,_,_,_,λi=>ns.getD i 0,rfl,W,#[#[_,Xt _ rfl,rfl,rfl],q.at λo e=>Xd _ e],λb c=>?_,λi v M=>JQ B<|by simpa using M,λE t' f=>?_]
 .rcases Xc.mp c with rfl|c
  .exact Xk (Xt _ rfl)
  .obtain rfl:=Xj.mp c;exact Xk (Xd _ y)
 .obtain⟨h',P,d,g,j⟩:=E;have a:P=s.gens:=f.gens;have Y:d=s.drawn:=f.drawn;have X:j=s.os:=f.os;subst a Y X;have es:vs.toArray.size=ns.length:=by rw[Xr,B.length]
  rw[es,Zlv];exact h h' g t' λb o e=>f.heap b o (λc=>Xu (Xk e)<|(Xj.mp c)▸Y7 _) (Xd _ e)
def GB:S5 X (M4 X.K):=by
 intro Y s O H o i K M Q I g j h;obtain⟨p,xs,k,v,rfl,rfl,A,C,f,q⟩:=h;cases g;obtain⟨t,rfl⟩:=j;obtain⟨y,r,m,P⟩:=I.list A;obtain⟨w,E,c⟩:=r.get f;have W:=U4;have B:=(Xh.mp f).1;exact wpAny_getItem_list m.isList C #[] (by simpa using E) #[v,H,I,c,q]
def Zqk:ZE X (.builtin "sum") (λxs H Q=>X.calm=true/\∃(x:V) (ns:Ql),xs=[x]/\Rep H x (.list<|ns.map PyData.int)/\Q (.int ns.sum) H):=by
 intro Y s O H xs B Q I r h;obtain⟨m,x,ns,rfl,j,q⟩:=h;obtain⟨u,rfl,c⟩:=VL r;cases j with
 |lst y g=>
  cases c;have A:=BM g;subst A;obtain⟨i,f,p,K⟩:=I.list (SqL.of y);exact ZjY (I.ok.hd m) p.isList (Dy f) λh' C E k=>#[.int ns.sum,H,I.kept k,#[_,rfl],q]
end L2
namespace L2
def Qt.turnedL{O:St}{H:Hp}{t':Nat}{ch:Qg}(I:Qt X Y O H s)(k:∀b o,b∉ch->s.heap.get? b=some o->h'.get? b=some o)(g:∀b∈ch,We X Y H b):Qt X Y O H { s with heap:=h',toks:=t' }:=by
 refine I.step (λb j=>?_) (λb o _ _ f e _=>k b o f e) (λb o _ _ f e _=>#[o.slots,k b o f e]) (λ_ _ _ _ n=>n)
  (λb o f e=>#[o,k b o f e]) (λ_ _ e=>e) (λ_ _ _ e=>e) (λb ps e=>#[(List.toArray []),by rw[e];simp]) (λm i=>?_) (λb u e=>?_) I.bare (λb _ o f _ e=>k b o f e)
 .obtain⟨f0,C,M,B,A,y⟩:=g b j;exact#[B,C,A,y]
 .obtain⟨o,es,E,h,r⟩:=i;exact#[o,es,E,k _ o (λz=>(g _ z).2.1 rfl) h,r]
 .refine(I.hok b u e).stay (λc v f q=>k c v (λz=>?_) q) (λ_ q=>q) λ_ _ q=>q
  have K:=(g c z).1
  grind
def Qt.trackTup{O:St}{H:Hp}{T:Addr}{x:V}{u v:Value}(f:Qt X Y O H s0)(I:Qt X Y O H s)(hT:s0.heap.objs.size<=T)(i:QR x u)(h:QR y v)(g:s.heap.IsTuple T (List.toArray [u,v])):Qt X Y O (upd H T<|.tup [x,y]) s:=by
 refine I.track (f.hok.fresh hT) (Xl f.sz hT) (X8<|XF f.lt hT) (λz c e q=>?_) (λp m q=>?_) #[by show 2<=sizeLine;decide,[u,v],.cons i<|.cons h .nil,g]
 .obtain⟨w,j⟩:=f.cell z c e;exact Xu (XF j.lt<|by rw[q];exact hT) (Y7 _)
 .exact Xu (XF (Xk (f.pin p m).1)<|by rw[q];exact hT) (Y7 _)
def Ite(K:W.Frag)(a:Addr):It:=
 #[λi H=>∃xs x,SqL K H a xs/\xs[i]?=some x,
  λi H v U=>∃p x,H p=none/\v=.ref p/\U=upd H p (.tup [.int (i:Int),x])/\∀xs,SqL K H a xs->xs[i]?=some x,
  λi H=>∃xs,SqL K H a xs/\i=xs.length]
theorem Zo2(r:e≠it)(p:a≠e)(l:a≠it):
 Turn P w K (.Tuple elts k E) (Ite K a) [e,it] e (λi h=>(∃g,IsEnum h e it i g)/\h.IsListIter it a i) where
 mem:=by simp
 obj:=λi h m c v=>by
  obtain⟨⟨g,j⟩,o1,e1,c1,d1⟩:=m
  grind
 keep:=λi h h' m kk=>by
  obtain⟨⟨g,j⟩,B⟩:=m;exact#[#[g,kk e (by simp) _ j],B.at λo x=>kk it (by simp) o x]
 item:=by
  intro X S N U v i Y s O H G I u m hg;subst S N U;obtain⟨xs,x,q,hx⟩:=hg;obtain⟨f,y,J,L⟩:=I.list q;obtain⟨u1,d,F⟩:=y.get hx;obtain⟨j,B⟩:=m;have W:=WalksT.enumerate (prog:=X.prog) (w:=X.w) (I.ok.hd v) e it a r p l f.toArray;have l1:=(Xh.mp d).1;have wr:=u;refine W.item i s _ _ (by simp only[Xr];lia) #[j,B,J.isList] λT vals h' tk pt hT tup M kp=>?_;obtain⟨t,v1,e1,rfl⟩:=pt
  have ev1:=by
   have:=by simpa using e1
   rw[d]at this;exact(Option.some.inj this).symm
  subst ev1;have I1:Qt X Y O H { s with heap:=h',toks:=tk }:=I.turnedL kp wr;refine#[.ref T,rfl,W.go elts k E i T { s with heap:=h',toks:=tk } _ _ M λZ D b=>?_];have I2:=I1.turnedL (t':=tk) b wr;have C:Z.IsTuple T (List.toArray [.int (i) t,v1]):=by
   obtain⟨o,ho,R,n,hd⟩:=tup;exact#[o,b T o (W.apart i T h' M) ho,R,n,hd]
  have I3:=I.trackTup I2 hT (x:=.int (i)) #[t,rfl] F C;obtain⟨s1,s2,_⟩:=D;refine#[.ref T,_,I3,rfl,#[T,x,I.hok.fresh hT,rfl,rfl,λxs' h=>by rw[I.list_inj h q];exact hx],#[s1,s2],λc A=>?_];have Q:c<s.heap.objs.size:=by
   simp only[Xc,XJ,or_false]at A;obtain⟨g,j⟩:=j;rcases A with rfl|rfl
   .exact Xk j
   .obtain⟨_,z,_⟩:=B;exact Xk z
  rw[Qu<|Xs<|XF Q hT];exact(u c A).1
 done:=by
  intro X S N U v i Y s O H G I u m hg;subst S N U;obtain⟨xs,q,rfl⟩:=hg;obtain⟨f,y,J,L⟩:=I.list q;obtain⟨j,B⟩:=m;have W:=WalksT.enumerate (prog:=X.prog) (w:=X.w) (I.ok.hd v) e it a r p l f.toArray;have en:xs.length=f.toArray.size:=by simp[y.length]
  refine W.done s _ _ (by rw[<- en];exact#[j,B,J.isList]) λh' tk kp=>#[rfl,I.turnedL kp u]
 self:=λ_ _ _ _ _ m h=>by
  obtain⟨⟨g,j⟩,_⟩:=m;exact wpAny_pyIter_enum j h
def Pi(K:W.Frag)(ta:TA):TI:=λO H R=>ta O H λc L=>∃a,c=[.ref a]/\(∃xs,SqL K L a xs)/\R (Ite K a) L
def Fx:bootBuiltins "enumerate"=some (.type "enumerate"):=by decide +kernel
def BW{ta:TA}   (v:Gl X "enumerate")(t:X.mg "enumerate"=none)(w:PA X [a] ta)(n:starEach [a] X.env=[(false,eval a X.env)]:=by rfl):
 PI X (.Tuple elts k tpos) (.Call (.Name "enumerate" p) [a] [] E) (Pi X.K ta):=by
 intro Y s O H R I h;refine Call_ (Jp I v t Fx<|PyProof.Rows.callWith_type1 (Q8 (w E Y s O H _ I h) ?_) n rfl);rintro G f ⟨F,L,i,M,P⟩;obtain⟨x,e,⟨xs,d⟩,q⟩:=P;subst e;obtain⟨u,rfl,C⟩:=VL M;cases C;obtain⟨y,K,j,b⟩:=i.list d;refine call_enumerate_list j.isList λh' A z l W=>wpAny_pyIter_enum A ?_;have m:x<f.heap.objs.size:=by obtain⟨o,r,_⟩:=j.isList;exact Xk r
 have D:=i.kept (t':=f.toks) W;refine#[_,[f.heap.objs.size+1,f.heap.objs.size],_,_,L,rfl,D,Zo2 (Nat.succ_ne_self _) (Xs<|Uf m)<|Xs m,#[#[_,A],z],λc B=>?_,q];have g:f.heap.objs.size<=c:=by
  simp only[Xc,XJ,or_false]at B;rcases B with rfl|rfl
  .exact Nat.le_add_right _ _
  .exact Xn _
 exact i.fpOk g (i.hok.fresh g)
end L2
namespace L2
def MZ(f:∀b x,b∉[s.heap.objs.size]->(s.heap.push o).get? b=some x->h'.get? b=some x):∀b x,s.heap.get? b=some x->h'.get? b=some x:=
 λb x e=>f b x (λc=>by rw[Xj.mp c]at e;exact Y7 _<|Xk e) (Xd _ e)
def Zok(bs:List Bool):((List.range bs.length).all λi=>bs.getD i true)=bs.all id:=by
 rw[Mc,J6,J6];constructor
 .intro h b g;obtain⟨i,f,rfl⟩:=UP.mp g;have:=h i (X6.mpr f);simpa [f] using this
 .intro h i f;have c:=X6.mp f;have:=h bs[i] (X7 c);simpa [c] using this
def Zoh{bs:List Bool}{us:Qe}(r:Za (bs.map V.bl) us)(e:us[i]?=some v)(d:Bool):v=.bool (bs.getD i d):=by
 have h:=r.length;have j:i<us.length:=(Xh.mp e).1;rw[Xf]at h;have g:(bs.map V.bl)[i]?=some (.bl<|bs.getD i d):=by
  have:i<bs.length:=#[]
  simp[this]
 obtain⟨u,c,f⟩:=r.get g;rw[e]at c;cases c;exact f
noncomputable def Wg:Ql->Int
 |[]=>0
 |[a]=>a
 |a::b::r=>min a (Wg (b::r))
theorem N7:∀{ns:Ql},ns≠[]->Wg ns∈ns/\∀a∈ns,Wg ns<=a
 |[],h=>Xu rfl h
 |[a],_=>by simp[Wg]
 |a::b::r,_=>by
  obtain⟨i,g⟩:=N7 (ns:=b::r) (by simp);simp only[Wg];refine#[?_,λc f=>?_]
  .grind
  .grind
def E5{M:Int}(c:M∈ns)(f:∀a∈ns,M<=a):M=Wg ns:=by
 obtain⟨h,g⟩:=N7 (ns:=ns) (λz=>by rw[z]at c;cases c);have:=f _ h;have:=g _ c;lia
def Se(X:Cx):List V->Hp->VK->Prop:=λxs H Q=>X.calm=true/\∃(x:V) (c:List Bool),xs=[x]/\Rep H x (.list<|c.map PyData.bool)/\Q (.bl<|c.all id) H
def Pe(X:Cx):List V->Hp->VK->Prop:=λxs H Q=>X.calm=true/\∃(x:V) (c:Ql),xs=[x]/\Rep H x (.list<|c.map PyData.int)/\c≠[]/\Q (.int<|Wg c) H
theorem FT{H:Hp}:∀{vs:List V} {l:List Bool},Q0 H vs (l.map PyData.bool)->vs=l.map V.bl
 |_,[],.nil=>rfl
 |_,i::l,.cons (.bl _) t=>by rw[Xv,FT t]
def B3:ZE X (.builtin "all") (Se X):=by
 intro Y s O H xs d Q I r h;obtain⟨M,x,f,rfl,C,q⟩:=h;obtain⟨u,rfl,y⟩:=VL r;cases C with
 |@lst l ys _ P B=>
  cases y;have b:=FT B;subst b;obtain⟨c,m,p,o⟩:=I.list (SqL.of (K:=X.K) P);have j:=p.isList;have g:l<s.heap.objs.size:=by obtain⟨_,e,_⟩:=j;exact Xk e
  refine call_all_walk (wpAny_pyIter_list j ?_);refine#[s.heap.objs.size,[s.heap.objs.size,l],[s.heap.objs.size],c.toArray.size,_,_,λi=>f.getD i true,rfl,Walks.list (A:=X.A.in1) (I.ok.hd M) _ l (Xs g) c.toArray,
   #[#[_,Xt _ rfl,rfl,rfl],j.push _],λi v n t E' a W=>?_,λh' k E=>?_]
  .rw[Zoh m (show c[i]?=some v by simpa using a) true];exact wpAny_truthy_bool W
  .have e:((List.range c.toArray.size).all λi=>f.getD i true)=f.all id:=by
    have:=m.length;rw[Xf]at this;rw[Xr,<- this];exact Zok f
   rw[e];exact#[.bl _,H,I.kept<|MZ E,rfl,q]
def Ip:ZE X (.builtin "min") (Pe X):=by
 intro Y s O H xs S Q I r h;obtain⟨G,x,f,rfl,w,B,q⟩:=h;obtain⟨u,rfl,d⟩:=VL r;cases w with
 |@lst l ys _ J o=>
  cases d;have N:=BM o;subst N;obtain⟨c,n,p,U⟩:=I.list (SqL.of J);have C:=p.isList;have K:=Dy n;have P:=K.length;have hpos:=Mj.mpr B;have g:l<s.heap.objs.size:=by obtain⟨_,e,_⟩:=C;exact Xk e
  refine call_min_walk (wpAny_pyIter_list C ?_);refine#[s.heap.objs.size,[s.heap.objs.size,l],[s.heap.objs.size],c.toArray.size,_,_,_,rfl,Walks.list (A:=X.A.in1) (I.ok.hd G) _ l (Xs g) c.toArray,
   #[#[_,Xt _ rfl,rfl,rfl],C.push _],λb m=>?_,by simp only[Xr];lia,CmpOf.ints_lt (λi=>f.getD i 0) (λi v y=>JQ K<|by simpa using y),λv h' T y D=>?_]
  .rw[X9];rcases Xc.mp m with rfl|m
   .exact J7 _
   .rcases Xc.mp m with rfl|m
    .exact Uf g
    .cases m
  .rw[List.getElem?_toArray]at y;obtain⟨t,rfl⟩:=JQ K y;obtain⟨L,W⟩:=argBest_lt (λi=>f.getD i 0) (c.toArray.size-1);have z:c.toArray.size=c.length:=by simp
   generalize argBest _ (c.toArray.size-1)=k at L W ⊢;have E:k<f.length:=#[]
   have R:f.getD k 0=Wg f:=by
    refine E5 (by simp[E]) λa M=>?_;obtain⟨j,F,rfl⟩:=UP.mp M
    have:=W j #[];simpa [F] using this
   exact#[.int<|Wg f,H,I.kept<|MZ D,#[t,by rw[R]],q]
end L2
namespace Mir
def Yu(ns:Ql)(k:Int):Int:=ns.getD k.toNat 0
noncomputable def CJ(x:Int):Nat:=if x==0 then 0 else x.natAbs.log2+1
def RX(i:Int):Int:=if i<0 then -i else i
noncomputable def mix(head k:Int):Nat->Int×Int×Int
 |0=>(head%2147483629+7919*k,69621*k+5,0)
 |i+1=>
  ((((mix head k i).1*48271+11+(i:Int)*k)%2147483647),
   (((mix head k i).2.1*16807+((mix head k i).1*48271+11+(i:Int)*k)%2147483647)%2147483629),
   (mix head k i).2.2*2147483629+(((mix head k i).2.1*16807+((mix head k i).1*48271+11+(i:Int)*k)%2147483647)%2147483629*(((mix head k i).2.1*16807+((mix head k i).1*48271+11+(i:Int)*k)%2147483647)%2147483629)+((mix head k i).1*48271+11+(i:Int)*k)%2147483647)%2147483587)
noncomputable def AG(ns:Ql)(k:Int):Int:=
 if Yu ns 0/720%2=1 then (mix (Yu ns 0) k 30).2.2 else RX (Yu ns k)+(mix (Yu ns 0) k 30).2.2*2^CJ (RX<|Yu ns k)
structure Ln where
 up:Option Nat
 bs:Ql
structure Yd where
 T:Nat
 ls:List Ln
noncomputable def Zq(y:Yd)(k:Nat):Option Nat:=(y.ls[k]?).bind (·.up)
structure Yd.Ok(y:Yd):Prop where
 t1:1<=y.T
 t8:y.T<=8
 l1:1<=y.ls.length
 l5:y.ls.length<=5
 up0:Zq y 0=none
 ups:∀k,0<k->k<y.ls.length->∃a,Zq y k=some a/\a<k
 bl:∀l∈y.ls,l.bs.length=y.T
 bb:∀l∈y.ls,∀b∈l.bs,0<=b/\b<10^300
def KH{b:Int}(h:b<10^30):b<10^300:=UR h (by decide +kernel)
noncomputable def upF9(y:Yd):Nat->Nat->Qk
 |0,k=>[k]
 |n+1,k=>k::match Zq y k with
  |none=>[]
  |some a=>if a<k then upF9 y n a else []
theorem upE9(y:Yd):∀n k m,k<=n->k<=m->upF9 y n k=upF9 y m k
 |0,k,0,_,_=>rfl
 |0,k,m+1,h,_=>by
  cases Nat.le_zero.mp h;unfold upF9;cases Zq y 0<;>simp
 |n+1,k,0,_,h=>by
  cases Nat.le_zero.mp h;unfold upF9;cases Zq y 0<;>simp
 |n+1,k,m+1,h,g=>by
  unfold upF9;cases Zq y k with
  |none=>rfl
  |some a=>
   by_cases l:a<k
   .simp only[l,if_true,upE9 y n a m (by omega)<|by omega]
   .simp only[l,if_false]
def upL(y:Yd)(k:Nat):Qk:=upF9 y k k
theorem upD9(y:Yd)(k:Nat):upL y k=k::match Zq y k with|none=>[]|some a=>if a<k then upL y a else []:=by
 unfold upL;rw[upE9 y k k (k+1) (Nat.le_refl _)<|by omega];show k::_=_
 cases Zq y k with
 |none=>rfl
 |some a=>
  by_cases l:a<k
  .simp only[l,if_true,upE9 y k a a (by omega)<|Nat.le_refl _]
  .simp only[l,if_false]
def Td{y:Yd}(c:y.Ok)(f:k<y.ls.length):upL y k=if k=0 then [0] else k::upL y ((Zq y k).getD 0):=by
 rw[upD9];by_cases g:k=0
 .subst g;simp[c.up0]
 .obtain⟨a,e,l⟩:=c.ups k #[] f;simp_all
def PM(y:Yd):∀k,∀j∈upL y k,j<=k:=by
 intro k;induction k using Nat.strongRecOn with
 |ind k g=>
  intro j c;rw[upD9]at c;rcases Xc.mp c with rfl|c
  .exact Xn _
  .cases e:Zq y k with
   |none=>rw[e]at c;simp at c
   |some a=>
    rw[e]at c;by_cases f:a<k
    .simp only[f]at c;have:=g a f j c;lia
    .simp only[f,if_false]at c;simp at c
def No(y:Yd)(k:Nat):k∈upL y k:=by rw[upD9];exact Xb
def Ke{y:Yd}(c:y.Ok)(h0:0<k)(f:k<y.ls.length)(e:Zq y k=some a)(l:Nat)(g:l≠k):l∈upL y k↔l∈upL y a:=by
 rw[Td c f,Xg<|#[]];grind
end Mir
namespace Mir
structure Gs where
 line:Nat
 first:Nat
 last:Nat
 want:Int
 most:Int
structure Gs.Ok(y:Yd)(g:Gs):Prop where
 ln:g.line<y.ls.length
 fl:g.first<=g.last
 lt:g.last<y.T
 w1:1<=g.want
 w2:g.want<10^300
 m1:1<=g.most
 m2:g.most<10^300
def gn0(ns:Ql)(k:Nat):Int:=AG ns (6+(k:Int))
def gn1(ns:Ql)(y:Yd)(k:Nat):Int:=gn0 ns k/(y.ls.length:Int)
def gn2(ns:Ql)(y:Yd)(k:Nat):Int:=gn1 ns y k/(y.T:Int)
noncomputable def gf(ns:Ql)(y:Yd)(k:Nat):Int:=gn1 ns y k%(y.T:Int)
noncomputable def gl(ns:Ql)(y:Yd)(k:Nat):Int:=gf ns y k+gn2 ns y k%((y.T:Int)-gf ns y k)
noncomputable def JP(g:Gs)(t:Int):Bool:=decide ((g.first:Int)<=t)&&decide (t<=(g.last:Int))
noncomputable def ZO(y:Yd)(l:Nat)(t:Nat):Int:=(((y.ls[l]?).map (·.bs)).getD []).getD t 0
noncomputable def VA(c:List Gs)(t:Int)(l:Nat):Qk->Int
 |[]=>0
 |k::r=>(match c[k]? with|some g=>if g.line=l/\JP g t=true then g.most else 0|none=>0)+VA c t l r
def DN(c:List Gs)(t:Int)(l:Nat)(a b:Qk):VA c t l (a++b)=VA c t l a+VA c t l b:=by
 induction a with
 |nil=>simp[VA]
 |cons k r f=>simp only[J4,VA,f];lia
noncomputable def Uw(y:Yd)(b:Qn)(st:Qn)(j:Nat):Qn:=λl=>st l+(if Zq y j=some l then min (st j) (b j) else 0)
noncomputable def Yw(y:Yd)(b own:Qn):Nat->Qn
 |0=>own
 |i+1=>Uw y b (Yw y b own i) (y.ls.length-1-i)
def YY(y:Yd)(b own:Qn)(l:Nat):Int:=Yw y b own (y.ls.length-1) l
def passes(y:Yd)(b own:Qn)(l:Nat):Int:=min (YY y b own l) (b l)
noncomputable def JZ(y:Yd)(b own:Qn)(l:Nat):Qn
 |0=>0
 |n+1=>JZ y b own l n+(if Zq y (l+1+n)=some l then passes y b own (l+1+n) else 0)
theorem FQ(y:Yd)(c:y.Ok)(b own:Qn)(l:Nat):∀i,i<=y.ls.length-1->y.ls.length-1-i<=l->∀d,i+d<=y.ls.length-1->Yw y b own (i+d) l=Yw y b own i l
 |i,g,f,0,_=>rfl
 |i,g,f,d+1,s=>by
  have h:=FQ y c b own l i g f d #[];show Uw y b (Yw y b own<|i+d) (y.ls.length-1-(i+d)) l=_;unfold Uw;rw[h];by_cases j:0<y.ls.length-1-(i+d)
  .obtain⟨a,m,q⟩:=c.ups _ j #[];rw[m];have:¬some a=some l:=by
    intro z;lia
   simp_all
  .lia
def ZnI{y:Yd}(c:y.Ok)(b own:Qn)(f:j<y.ls.length):Yw y b own (y.ls.length-1-j) j=YY y b own j:=by
 have:=FQ y c b own j (y.ls.length-1-j) #[] #[] j #[];rw[show y.ls.length-1-j+j=y.ls.length-1 by lia]at this;exact this.symm
theorem Fe{y:Yd}(c:y.Ok)(b own:Qn)(l:Nat):∀i,i<=y.ls.length-1->Yw y b own i l+JZ y b own l (y.ls.length-1-i-l)=own l+JZ y b own l (y.ls.length-1-l)
 |0,_=>by simp[Yw]
 |i+1,C=>by
  have h:=Fe c b own l i #[];have e:Yw y b own (i+1) l=Yw y b own i l+(if Zq y (y.ls.length-1-i)=some l then passes y b own (y.ls.length-1-i) else 0):=by
   show Uw y b (Yw y b own i) _ l=_;unfold Uw passes;have j:y.ls.length-1-i<y.ls.length:=by have:=c.l1;lia
   have g:=ZnI c b own j;rw[show y.ls.length-1-_=i by lia]at g;rw[g]
  rw[e];by_cases B:l<y.ls.length-1-i
  .obtain⟨d,q⟩:∃d,y.ls.length-1-i-l=d+1:=⟨y.ls.length-1-i-l-1,#[]⟩
   rw[q]at h;have f:y.ls.length-1-(i+1)-l=d:=#[]
   rw[f];have s:l+1+d=y.ls.length-1-i:=#[]
   simp only[JZ,s]at h;lia
  .have K:y.ls.length-1-i-l=0:=#[]
   have f:y.ls.length-1-(i+1)-l=0:=#[]
   rw[f];have:¬Zq y (y.ls.length-1-i)=some l:=by
    intro z;have m:0<y.ls.length-1-i:=#[]
    obtain⟨a,E,A⟩:=c.ups _ m #[];lia
   simp_all
def ZsB{y:Yd}(c:y.Ok)(b own:Qn)(l:Nat):YY y b own l=own l+JZ y b own l (y.ls.length-1-l):=by
 have h:=Fe c b own l _ (Xn _);rw[show y.ls.length-1-_-l=0 by lia]at h;simp only[JZ]at h;unfold YY;lia
end Mir
namespace Mir
noncomputable def QC(f:Qn):Qn
 |0=>0
 |n+1=>QC f n+f n
theorem Z6{f g:Qn}:∀{n:Nat},(∀k,k<n->f k=g k)->QC f n=QC g n
 |0,_=>rfl
 |n+1,h=>by
  simp only[QC];rw[Z6 λk c=>h k<|#[],h n<|#[]]
theorem WS{f g:Qn}:∀{n:Nat},(∀k,k<n->f k<=g k)->QC f n<=QC g n
 |0,_=>UQ _
 |n+1,h=>by
  simp only[QC];have:=WS (n:=n) λk c=>h k #[]
  have:=h n #[];lia
theorem BI(f g:Qn):∀n,QC (λk=>f k+g k) n=QC f n+QC g n
 |0=>rfl
 |n+1=>by simp only[QC];rw[BI f g n];lia
theorem Dr(c:Int)(f:Qn):∀n,QC (λk=>c*f k) n=c*QC f n
 |0=>by simp[QC]
 |n+1=>by simp only[QC];rw[Dr c f n,Int.mul_add]
theorem Yp:∀n,QC (λ_=>0) n=0
 |0=>rfl
 |n+1=>by simp only[QC];rw[Yp n];rfl
theorem G3{a:Nat}{v:Int}:∀{n:Nat},QC (λl=>if l=a then v else 0) n=if a<n then v else 0
 |0=>by simp[QC]
 |n+1=>by
  simp only[QC];rw[G3];by_cases h:n=a
  .subst h;simp
  .by_cases c:a<n
   .simp[h,c];lia
   .have:¬a<n+1:=#[]
    simp[h,c,this]
def Ld{f:Qn}(h:∀k,k<n->0<=f k):0<=QC f n:=by
 have:=WS h;rw[Yp]at this;exact this
noncomputable def wgt(c:List Gs)(t:Int)(l k:Nat):Int:=match c[k]? with|some g=>if g.line=l/\JP g t=true then g.most else 0|none=>0
def Ie(c:List Gs)(t:Int)(l k:Nat):VA c t l [k]=wgt c t l k:=by
 simp only[VA,wgt];cases c[k]? with
 |none=>rfl
 |some g=>simp
def ZnR(c:List Gs)(t:Int)(l:Nat)(p:Qm)(m:Nat):VA c t l ((List.range m).filter p)=QC (λk=>if p k=true then wgt c t l k else 0) m:=by
 induction m with
 |zero=>rfl
 |succ m f=>
  rw[WA,GU,DN,f];simp only[QC];cases e:p m with
  |true=>simp only[DU,e,if_true,List.filter_nil,Ie]
  |false=>simp only[DU,e,List.filter_nil,VA,DY,if_false]
theorem D2(f:Nat->Qn)(n:Nat):∀m,QC (λl=>QC (λk=>f l k) m) n=QC (λk=>QC (λl=>f l k) n) m
 |0=>by simp only[QC];exact Yp n
 |m+1=>by
  simp only[QC];rw[BI,D2 f n m]
end Mir
namespace L2
structure Q5(F H F' U:Hp):Prop where
 hh:Q6 H U
 ff:Q6 F F'
 fh:Q6 F' U
 fr:∀a,F' a≠none->F a≠none\/H a=none
def Q5.refl(s:Q6 F H):Q5 F H F H:=#[Q6.refl _,Q6.refl _,s,λ_ h=>.inl h]
def Q5.trans(a:Q5 F H F1 L)(b:Q5 F1 L F2 H2):Q5 F H F2 H2:=
 #[a.hh.trans b.hh,a.ff.trans b.ff,b.fh,λp h=>by
  rcases b.fr p h with z|z
  .exact a.fr p z
  .exact .inr (a.hh.free z)]
def ZG{H:Hp}{a:Addr}{o:HO}(h:H a=some o):H a≠none:=by rw[h];rintro⟨⟩
def KJ{H:Hp}{a:Addr}(h:H a≠none):∃o,H a=some o:=by
 cases e:H a with
 |none=>exact Xu e h
 |some o=>exact#[o,rfl]
def ZrU(s:Q6 F H):Q6 (upd F p o) (upd H p o):=λb u e=>by
 by_cases h:b=p
 .subst h;rw[QG]at e ⊢;exact e
 .rw[Qu h]at e ⊢;exact s b u e
def Q5.new(s:Q6 F H)(c:H p=none):Q5 F H (upd F p o) (upd H p o):=
 #[Q6.new c,Q6.new<|s.free c,ZrU s,λa h=>by
  by_cases e:a=p
  .subst e;exact .inr c
  .rw[Qu e]at h;exact .inl h]
def Q5.own(s:Q6 F H)(c:H p=none):Q5 F H F (upd H p o):=
 #[Q6.new c,Q6.refl _,s.upd<|s.free c,λ_ h=>.inl h]
def Q5.freeze(x:Q5 F0 H0 F H)(f:F a=none)(c:H a=some o)(h0:H0 a=none):Q5 F0 H0 (upd F a o) H:=
 #[x.hh,x.ff.trans<|Q6.new f,λb u e=>by
  by_cases h:b=a
  .subst h;rw[QG]at e;rw[c];exact e
  .rw[Qu h]at e;exact x.fh b u e,λb h=>by
  by_cases e:b=a
  .subst e;exact .inr h0
  .rw[Qu e]at h;exact x.fr b h]
def Q5.free(x:Q5 F H F' U)(f:F a=none)(c:H a≠none):F' a=none:=by
 cases e:F' a with
 |none=>rfl
 |some o=>
  rcases x.fr a (ZG e) with z|z
  .exact Xu f z
  .exact Xu z c
structure OwnP where
 ok:W.Frag->Hp->Hp->V->Qg->Prop
 there:∀{K:W.Frag} {F H:Hp} {v:V} {p:Qg},ok K F H v p->∀a∈p,F a=none/\H a≠none
 mono:∀{K:W.Frag} {F F' H U:Hp} {v:V} {p:Qg},Q6 F F'->(∀a∈p,F' a=none)->(∀a∈p,U a=H a)->ok K F H v p->ok K F' U v p
 uniq:∀{K:W.Frag} {F H:Hp} {v:V} {p q:Qg},ok K F H v p->ok K F H v q->∀a∈q,a∈p
structure ZP where
 ok:W.Frag->Hp->V->Prop
 mono:∀{K:W.Frag} {F F':Hp} {v:V},Q6 F F'->ok K F v->ok K F' v
inductive OT where
 |zow (Ψ:ZP)
 |fz (d:PyData)
 |ol (ds:Qd)
 |oll (S0:List (Qd))
 |scr (ns:Ql)
 |own (v:V)(Φ:OwnP)
abbrev Zcs:=List (Option OT)
abbrev zi(n:Int):Option OT:=some (.fz (.int n))
abbrev zf(d:PyData):Option OT:=some (.fz d)
abbrev zo(v:V)(d:OwnP):Option OT:=some (.own v d)
abbrev zz(d:ZP):Option OT:=some (.zow d)
abbrev zr(N:List Str)(ts:List OT):Zcs:=ts.map some++List.replicate (N.length-ts.length) none
abbrev zg(r:Zcs)(i:Nat)(t:Option OT):Prop:=r[i]?=some t
def Yr(F H:Hp)(a:Addr)(ds:Qd):Prop:=F a=none/\∃xs,H a=some (.lst xs)/\Q0 F xs ds
def Vb(F H:Hp):Qg->List (Qd)->Prop
 |[],[]=>True
 |a::f,ds::c=>Yr F H a ds/\Vb F H f c
 |_,_=>False
def Zx(K:W.Frag)(F H:Hp)(v:V):OT->Qg->Prop
 |.fz d,p=>p=[]/\Rep F v d
 |.ol ds,p=>∃a,v=.ref a/\p=[a]/\Yr F H a ds
 |.oll f,p=>∃a c,v=.ref a/\p=a::c/\(a::c).Nodup/\F a=none/\H a=some (.lst<|c.map V.ref)/\Vb F H c f
 |.scr j,p=>p=[]/\∃a,v=.ref a/\Scr K F a j
 |.own i h,p=>v=i/\h.ok K F H v p
 |.zow g,p=>p=[]/\g.ok K F v
def Q6.at_eq(s:Q6 H U)(h:H a≠none):U a=H a:=by
 cases e:H a with
 |none=>exact Xu e h
 |some o=>exact s _ _ e
def Yr.ext(h:Yr F H a ds)(x:Q5 F H F' U):Yr F' U a ds:=by
 obtain⟨g,xs,c,f⟩:=h;exact#[x.free g<|ZG c,xs,x.hh _ _ c,f.mono x.ff]
theorem Vb.mem{F H:Hp}:∀{as:Qg} {f:List (Qd)},Vb F H as f->∀a∈as,F a=none/\H a≠none
 |[],[],_,a,c=>by cases c
 |b::as,_::_,h,a,c=>by
  rcases Xc.mp c with rfl|c
  .obtain⟨i,xs,g,_⟩:=h.1;exact#[i,ZG g]
  .exact Vb.mem h.2 a c
 |[],_::_,h,_,_=>False.elim h
 |_::_,[],h,_,_=>False.elim h
def Zx.there(h:Zx K F H v t p):∀a∈p,F a=none/\H a≠none:=by
 cases t with
 |fz d=>obtain⟨rfl,_⟩:=h;intro a f;cases f
 |zow A=>obtain⟨rfl,_⟩:=h;intro a f;cases f
 |ol ds=>
  obtain⟨a,s,rfl,i,xs,g,_⟩:=h;intro b c;have e:=by simpa using c
  subst e;exact#[i,ZG g]
 |oll y=>
  obtain⟨a,E,s,rfl,i,g,q,m⟩:=h;intro b c;rcases Xc.mp c with rfl|c
  .exact#[g,ZG q]
  .exact m.mem b c
 |scr C=>obtain⟨rfl,_⟩:=h;intro a f;cases f
 |own B j=>exact j.there h.2
theorem Vb.move{F g H U:Hp}(s:Q6 F g):∀{as:Qg} {c:List (Qd)},(∀a∈as,g a=none)->(∀a∈as,U a=H a)->Vb F H as c->Vb g U as c
 |[],[],_,_,_=>trivial
 |a::as,_::_,j,i,o=>by
  obtain⟨⟨A,xs,y,q⟩,m⟩:=o;exact#[#[j a Xb,xs,by rw[i a Xb];exact y,q.mono s],Vb.move s (λb f=>j b<|Xe _ f) (λb f=>i b<|Xe _ f) m]
 |[],_::_,_,_,h=>False.elim h
 |_::_,[],_,_,h=>False.elim h
def Zx.move(s:Q6 F F')(g:∀a∈p,F' a=none)(f:∀a∈p,U a=H a)(h:Zx K F H v t p):Zx K F' U v t p:=by
 cases t with
 |fz d=>exact#[h.1,h.2.mono s]
 |zow q=>exact#[h.1,q.mono s h.2]
 |ol ds=>
  obtain⟨a,rfl,rfl,j,xs,i,c⟩:=h;exact#[a,rfl,rfl,g a Xb,xs,by rw[f a Xb];exact i,c.mono s]
 |oll B=>
  obtain⟨a,C,rfl,rfl,j,i,c,A⟩:=h;exact#[a,C,rfl,rfl,j,g a Xb,by rw[f a Xb];exact c,A.move s (λb m=>g b<|Xe _ m) λb m=>f b<|Xe _ m]
 |scr M=>obtain⟨j,a,i,c⟩:=h;exact#[j,a,i,c.mono s]
 |own E y=>exact#[h.1,y.mono s g f h.2]
theorem KU:∀{as bs:Qg},as.map V.ref=bs.map V.ref->as=bs
 |[],[],_=>rfl
 |a::as,b::bs,h=>by
  injection h with f c;cases f;rw[KU c]
 |[],_::_,h=>by cases h
 |_::_,[],h=>by cases h
def BN{w:V}{q:Qg}(h:Zx K F H w t p)(h':Zx K F H w t q):∀b∈q,b∈p:=by
 cases t with
 |fz d=>rw[h'.1];intro b c;cases c
 |zow E=>rw[h'.1];intro b c;cases c
 |ol ds=>
  obtain⟨Y,m,j,i⟩:=h';obtain⟨X,g,s,f⟩:=h
  grind
 |oll C=>
  obtain⟨a,e,m,j,_,_,i,_⟩:=h';obtain⟨b,W,g,s,_,_,f,_⟩:=h;rw[m]at g;cases g;rw[i]at f;injection f with B;injection B with A;rw[j,s,KU A];exact λ_ z=>z
 |scr P=>rw[h'.1];intro b c;cases c
 |own M y=>exact y.uniq h.2 h'.2
def Vb.ext(x:Q5 F H F' U)(h:Vb F H as S0):Vb F' U as S0:=h.move x.ff (λa c=>x.free (h.mem a c).1 (h.mem a c).2) λa c=>x.hh.at_eq (h.mem a c).2
def Zx.ext(h:Zx K F H v t p)(x:Q5 F H F' U):Zx K F' U v t p:=h.move x.ff (λa c=>x.free (h.there a c).1 (h.there a c).2) λa c=>x.hh.at_eq (h.there a c).2
def Vb.other{b:Addr}(h:Vb F H as S0)(n:b∉as):Vb F (upd H b o) as S0:=h.move (Q6.refl _) (λa c=>(h.mem a c).1) λa c=>Qu λz=>n (z▸c)
def KTs(K:W.Frag)(F:Hp):Prop:=W.nsIn K mainGlobals "START"=some none\/∃c f,W.nsIn K mainGlobals "START"=some (some<|.ref c)/\W.nsIn K mainGlobals "END"=some (some<|.ref f)/\F c=some (.tup [.str "start"])/\F f=some (.tup [.str "end"])
def KTs.mono(h:KTs K F)(s:Q6 F F'):KTs K F':=
 h.imp id<|by rintro⟨j,m,i,g,f,c⟩;exact#[j,m,i,g,s _ _ f,s _ _ c]
structure QL(K:W.Frag)(H0 F:Hp)(Z:Zcs)(O:St)(H:Hp):Prop where
 kt:KTs K F
 sub:Q6 F H
 len:O.length=Z.length
 fp:∃fp:Nat->Qg,(∀(i:Nat) (t:OT),Z[i]?=some (some t)->∃v,O[i]?=some (some v)/\Zx K F H v t (fp i))/\
  (∀(i j:Nat) (a:Addr),a∈fp i->a∈fp j->i=j)/\∀(i:Nat) (a:Addr),a∈fp i->H0 a=none/\H a≠none
def QL.ext(s:QL K H0 F Z O H)(x:Q5 F H F' U):QL K H0 F' Z O U:=by
 obtain⟨g,C,y,A,q,m,j⟩:=s;refine#[g.mono x.ff,x.fh,y,A,λi t e=>?_,m,λi a h=>?_]
 .obtain⟨v,f,c⟩:=q i t e;exact#[v,f,c.ext x]
 .obtain⟨f,c⟩:=j i a h;obtain⟨o,B⟩:=KJ c;exact#[f,ZG<|x.hh _ _ B]
def Fgt:Zcs->Zcs->Prop
 |[],[]=>True
 |_::r,none::c=>Fgt r c
 |s::r,some x::c=>s=some x/\Fgt r c
 |_,_=>False
theorem Fgt.len:∀{Z c:Zcs},Fgt Z c->Z.length=c.length
 |[],[],_=>rfl
 |_::r,none::f,h=>by
  have h':Fgt r f:=h;simp[Fgt.len h']
 |s::r,some x::f,h=>by
  have h':=h;simp[Fgt.len h'.2]
 |[],none::_,h=>False.elim h
 |[],some _::_,h=>False.elim h
 |_::_,[],h=>False.elim h
theorem Fgt.get:∀{Z c:Zcs},Fgt Z c->∀(i:Nat) (t:OT),c[i]?=some (some t)->Z[i]?=some (some t)
 |[],[],_,i,t,e=>by simp at e
 |_::r,none::f,h,0,t,e=>by simp at e
 |_::r,none::f,h,i+1,t,e=>by
  have h':Fgt r f:=h;have:=Fgt.get h' i t (by simpa using e);simpa using this
 |s::r,some x::f,h,0,t,e=>by
  have h':=h;simp at e;subst e;simp[h'.1]
 |s::r,some x::f,h,i+1,t,e=>by
  have h':=h;have:=Fgt.get h'.2 i t (by simpa using e);simpa using this
 |[],none::_,h,_,_,_=>False.elim h
 |[],some _::_,h,_,_,_=>False.elim h
 |_::_,[],h,_,_,_=>False.elim h
def QL.fgt(s:QL K H0 F Z O H)(f:Fgt Z ρ'):QL K H0 F ρ' O H:=by
 obtain⟨c,q,m,y,j,h,g⟩:=s;exact#[c,q,m.trans f.len,y,λi t e=>j i t<|f.get i t e,h,g]
def QL.set(s:QL K H0 F Z O H)(Y:Zx K F H v t p)
(n:∀(a:Addr),a∈p->H0 a=none)
(hn:∀(a:Addr),a∈p->∀(j:Nat) (u:V) (t':OT) (q:Qg),Z[j]?=some (some t')->O[j]?=some (some u)->Zx K F H u t' q->a∉q):
 QL K H0 F (Z.set i<|some t) (O.set i<|some v) H:=by
 obtain⟨l,x,r,C,b,o,J⟩:=s;refine#[l,x,by simp[r],λj=>if j=i then p else if (Z[j]?).join.isSome then C j else [],λj t' e=>?_,λj k a A W=>?_,λj a A=>?_]
 .by_cases c:j=i
  .subst c;have M:=by
    have:=(Xh.mp e).1;simpa using this
   rw[XW M]at e;cases e;refine#[v,XW<|#[],?_];dsimp only;rw[Xi rfl];exact Y
  .rw[XY<|Ne.symm c]at e;obtain⟨u,m,h⟩:=b j t' e;refine#[u,by rw[XY<|Ne.symm c];exact m,?_];dsimp only;rw[Xg c,e];exact h
 .have g:∀(j:Nat),j≠i->a∈(if j=i then p else if (Z[j]?).join.isSome then C j else [])->∃t' u,Z[j]?=some (some t')/\O[j]?=some (some u)/\Zx K F H u t' (C j)/\a∈C j:=λj c y=>by
   rw[Xg c]at y;cases e:(Z[j]?).join with
   |none=>rw[e]at y;simp at y
   |some t'=>
    rw[e]at y;have d:Z[j]?=some (some t'):=by
     cases z:Z[j]? with
     |none=>rw[z]at e;simp at e
     |some w=>rw[z]at e;simp at e;rw[e]
    obtain⟨u,m,h⟩:=b j t' d;exact#[t',u,d,m,h,by simpa using y]
  by_cases c:j=i
  .by_cases B:k=i
   .lia
   .obtain⟨t',u,m,h,X,E⟩:=g k B W;have f:=by simpa [c] using A
    exact Xu E (hn a f k u t' _ m h X)
  .obtain⟨t',u,m,h,X,E⟩:=g j c A
   by_cases B:k=i
   .have P:=by simpa [B] using W
    exact Xu E (hn a P j u t' _ m h X)
   .obtain⟨I,G,Q,N,L,D⟩:=g k B W;exact o j k a E D
 .by_cases c:j=i
  .have f:=by simpa [c] using A
   exact#[n a f,(Y.there a f).2]
  .simp only[Xg c]at A
   grind
def QL.setF(s:QL K H0 F Z O H)(r:Rep F v d):QL K H0 F (Z.set i<|zf d) (O.set i<|some v) H:=
 s.set #[rfl,r] (by rintro a ⟨⟩) (hn:=λa c=>nomatch c)
def QL.chg(s:QL K H0 F Z O H)(e:Z[i]?=some (some t)):
 ∃v p,O[i]?=some (some v)/\Zx K F H v t p/\(∀b∈p,H0 b=none/\F b=none/\H b≠none)/\∀A U t' P,Q6 F A->Q6 A U->(∀b,b∉p->H b≠none->U b=H b)->(∀b,A b≠none->F b≠none\/H b=none\/b∈p)->Zx K A U v t' P->(∀b∈P,b∈p\/(H b=none/\H0 b=none))->
  QL K H0 A (Z.set i<|some t') O U/\∀j u g q,j≠i->Z[j]?=some (some g)->O[j]?=some (some u)->Zx K A U u g q->∀b∈q,b∉p/\H b≠none:=by
 obtain⟨N,h1,R,B,d,I,m⟩:=s;obtain⟨v,T,r⟩:=d i _ e;have a:=(Xh.mp e).1;refine#[v,B i,T,r,λb c=>#[(m i b c).1,r.there b c],λA U t' P o J Q S Y M=>?_];have h:∀j,j≠i->∀b∈B j,b∉B i:=λj f b c z=>f (I j i b c z);have G:=λj f b c=>Q b (h j f b c) (m j b c).2
 have x:∀j g u,j≠i->Zx K F H u g (B j)->Zx K A U u g (B j):=λj g u f E=>E.move o (λb c=>Classical.byContradiction λz=>by
  rcases S b z with y|y|y
  .exact y (E.there b c).1
  .exact(m j b c).2 y
  .exact h j f b c y) (G j f)
 have w:∀j,j≠i->∀b∈B j,b∉P:=λj f b c z=>by
  rcases M b z with y|y
  .exact h j f b c y
  .exact(m j b c).2 y.1
 refine#[#[N.mono o,J,by simp[R],λj=>if j=i then P else B j,λj g n=>?_,λj k b c C=>?_,λj b c=>?_],λj u g q f L D X b c=>?_]
 .by_cases f:j=i
  .subst f;rw[XW a]at n;grind
  .rw[XY<|Ne.symm f]at n;obtain⟨u,l,E⟩:=d j g n;exact#[u,l,by simp only[Xg f];exact x j g u f E]
 .by_cases f:j=i<;>by_cases W:k=i
  .rw[f,W]
  .simp only[Xi f]at c;simp only[Xg W]at C;exact Xu c (w k W b C)
  .simp only[Xg f]at c;simp only[Xi W]at C;exact Xu C (w j f b c)
  .simp only[Xg f]at c;simp only[Xg W]at C;exact I j k b c C
 .by_cases f:j=i
  .simp only[Xi f]at c;exact#[(M b c).elim (λz=>(m i b z).1) λz=>z.2,(Y.there b c).2]
  .simp only[Xg f]at c;exact#[(m j b c).1,by rw[G j f b c];exact(m j b c).2]
 .obtain⟨u',l,E⟩:=d j g L;rw[l]at D;cases D;have z:=BN (x j g u f E) X b c;exact#[h j f b z,(m j b z).2]
def QL.write(s:QL K H0 F Z O H)(e:Z[i]?=some (some<|.ol ds)):
 ∃a xs,O[i]?=some (some<|.ref a)/\H a=some (.lst xs)/\Q0 F xs ds/\H0 a=none/\F a=none/\∀c f,Q0 F c f->QL K H0 F (Z.set i<|some<|.ol f) O (upd H a<|.lst c):=by
 obtain⟨v,p,y,⟨a,rfl,rfl,f0,xs,q,r⟩,m,k⟩:=s.chg e;exact#[a,xs,y,q,r,(m a Xb).1,f0,λc f j=>(k F _ (.ol f) [a] (Q6.refl _) (s.sub.upd f0) (λb g _=>Qu λz=>g<|by rw[z];exact Xb) (λb h=>.inl h) #[a,rfl,rfl,f0,c,QG,j] λb g=>.inl g).1]
def QL.freeze(s:QL K H0 F Z O H)(e:Z[i]?=some (some<|.ol ds)):
 ∃a xs,F a=none/\H a=some (.lst xs)/\H0 a=none/\O[i]?=some (some<|.ref a)/\Q0 F xs ds/\QL K H0 (upd F a<|.lst xs) (Z.set i<|zf<|.list ds) O H:=by
 obtain⟨v,p,j,⟨a,rfl,rfl,f0,xs,g,r⟩,h,k⟩:=s.chg e;have f:Q6 F (upd F a<|.lst xs):=Q6.new f0;refine#[a,xs,f0,g,(h a Xb).1,j,r,(k _ H (.fz _) [] f (λb u c=>?_) (λ_ _ _=>rfl) (λb c=>?_) #[rfl,.lst QG<|r.mono f]<|by rintro b ⟨⟩).1]
 .by_cases z:b=a
  .subst z;rw[QG]at c;rw[g];exact c
  .rw[Qu z]at c;exact s.sub b u c
 .by_cases z:b=a
  .exact .inr (.inr<|by rw[z];exact Xb)
  .rw[Qu z]at c;exact .inl c
inductive Args(K:W.Frag)(F:Hp):List V->List OT->Prop
 |nil:Args K F [] []
 |fz {v:V}{d:PyData}{vs:List V}{ts:List OT}:Rep F v d->Args K F vs ts->Args K F (v::vs) (.fz d::ts)
 |zow {v:V}{Ψ:ZP}{vs:List V}{ts:List OT}:Ψ.ok K F v->Args K F vs ts->Args K F (v::vs) (.zow Ψ::ts)
 |scr {a:Addr}{ns:Ql}{vs:List V}{ts:List OT}:Scr K F a ns->Args K F vs ts->Args K F (.ref a::vs) (.scr ns::ts)
theorem Args.mono{K:W.Frag}{F c:Hp}(s:Q6 F c):∀{vs:List V} {ts:List OT},Args K F vs ts->Args K c vs ts
 |_,_,.nil=>.nil
 |_,_,.fz r t=>.fz (r.mono s) (Args.mono s t)
 |_,_,.scr r t=>.scr (r.mono s) (Args.mono s t)
 |_,_,.zow (Ψ:=Ψ) r t=>.zow (Ψ.mono s r) (Args.mono s t)
theorem Args.length{K:W.Frag}{F:Hp}:∀{vs:List V} {ts:List OT},Args K F vs ts->vs.length=ts.length
 |_,_,.nil=>rfl
 |_,_,.fz _ t=>by simp[Args.length t]
 |_,_,.scr _ t=>by simp[Args.length t]
 |_,_,.zow _ t=>by simp[Args.length t]
theorem Args.get{K:W.Frag}{F H:Hp}:∀{vs:List V} {ts:List OT},Args K F vs ts->∀(i:Nat) (t:OT),ts[i]?=some t->∃v,vs[i]?=some v/\Zx K F H v t []
 |_,_,.nil,i,t,e=>by simp at e
 |_,_,.fz r _,0,t,e=>by simp at e;subst e;exact#[_,rfl,rfl,r]
 |_,_,.scr r _,0,t,e=>by simp at e;subst e;exact#[_,rfl,rfl,_,rfl,r]
 |_,_,.zow r _,0,t,e=>by simp at e;subst e;exact#[_,rfl,rfl,r]
 |_,_,.zow _ q,i+1,t,e=>by
  obtain⟨v,f,c⟩:=Args.get q i t (by simpa using e);exact#[v,by simpa using f,c]
 |_,_,.fz _ q,i+1,t,e=>by
  obtain⟨v,f,c⟩:=Args.get q i t (by simpa using e);exact#[v,by simpa using f,c]
 |_,_,.scr _ q,i+1,t,e=>by
  obtain⟨v,f,c⟩:=Args.get q i t (by simpa using e);exact#[v,by simpa using f,c]
section
variable (K:W.Frag)
def Qq(t:TE)(Z:Zcs)(d:PyData):Prop := ∀(H0 F:Hp) (O:St) (H:Hp) (Q:VK),QL K H0 F Z O H->(∀c U v,Q5 F H c U->Rep c v d->Q v U)->t O H Q
def EvO(t:TE)(Z:Zcs)(r:OT):Prop := ∀(H0 F:Hp) (O:St) (H:Hp) (Q:VK),QL K H0 F Z O H->(∀c U v p,Q5 F H c U->(∀a∈p,H a=none)->Zx K c U v r p->Q v U)->t O H Q
def QN(t:TT)(Z:Zcs)(b:Bool):Prop := ∀(H0 F:Hp) (O:St) (H:Hp) (Q:Bool->Hp->Prop),QL K H0 F Z O H->(∀c U,Q5 F H c U->Q b U)->t O H Q
def Zp(t:TA)(Z:Zcs)(ts:List OT):Prop := ∀(H0 F:Hp) (O:St) (H:Hp) (Q:List V->Hp->Prop),QL K H0 F Z O H->(∀f U c,Q5 F H f U->Args K f c ts->Q c U)->t O H Q
def Pq(j:Hp)(J:It)(ds:Qd):Prop := ∀(f c:Hp),Q6 j f->Q6 f c->J.stop ds.length c/\
 ∀(i:Nat) (d:PyData),ds[i]?=some d->J.go i c/\∀x g,J.yld i c x g->∃h,Q5 f c h g/\Rep h x d
def EvI(f:TI)(Z:Zcs)(ds:Qd):Prop := ∀(H0 F:Hp) (O:St) (H:Hp) (R:It->Hp->Prop),QL K H0 F Z O H->(∀c U J,Q5 F H c U->Pq c J ds->R J U)->f O H R
def GTo(g:TG)(d:PyData)(Z f:Zcs):Prop := ∀(H0 F:Hp) (O:St) (H:Hp) (x:V) (Q:St->Hp->Prop),QL K H0 F Z O H->Rep F x d->(∀c,QL K H0 F f c H->Q c H)->g x O H Q
def Mq(g:TGs)(ds:Qd)(Z f:Zcs):Prop := ∀(H0 F:Hp) (O:St) (H:Hp) (xs:List V) (Q:St->Hp->Prop),QL K H0 F Z O H->Q0 F xs ds->(∀c,QL K H0 F f c H->Q c H)->g xs O H Q
structure PEnds where
 nx:Zcs->Prop
 rt:OT->Prop
 bk:Zcs->Prop:=λ_=>False
 ct:Zcs->Prop:=λ_=>False
structure Cnv(F0 H0:Hp)(dx:PEnds)(pos:Ends):Prop where
 nx:∀F O H Z,Q5 F0 H0 F H->QL K H0 F Z O H->dx.nx Z->pos.nx O H
 rt:∀F H v r p,Q5 F0 H0 F H->(∀a∈p,H0 a=none)->Zx K F H v r p->dx.rt r->pos.rt v H
 bk:∀F O H Z,Q5 F0 H0 F H->QL K H0 F Z O H->dx.bk Z->pos.bk O H
 ct:∀F O H Z,Q5 F0 H0 F H->QL K H0 F Z O H->dx.ct Z->pos.ct O H
def QE(t:TS)(Z:Zcs)(f:PEnds):Prop := ∀(F0 H0 F:Hp) (O:St) (H:Hp) (c:Ends),Q5 F0 H0 F H->QL K H0 F Z O H->Cnv K F0 H0 f c->t c O H
end
section
variable {Z:Zcs}{tb:TE}
def Qq.o(h:Qq K t Z d):EvO K t Z (.fz d):=λH0 F O H Q S q=>h H0 F O H Q S λc U v x r=>q c U v [] x (by rintro _ ⟨⟩) #[rfl,r]
def EvO.e(h:EvO K t Z (.fz d)):Qq K t Z d:=λH0 F O H Q S q=>h H0 F O H Q S λc U v p x _ r=>q c U v x r.2
def EvO.fz(h:EvO K t Z (.ol ds)):Qq K t Z (.list ds):=λH0 F O H Q S q=>h H0 F O H Q S λj U v p x i r=>by
 obtain⟨a,rfl,rfl,c,xs,g,f⟩:=r;refine q _ U _ (x.freeze c g<|i a Xb) (.lst QG<|f.mono<|Q6.new c)
def nf{p:Prop}(h:false=true):p:=nomatch h
def nt{p:Prop}(h:true=false):p:=nomatch h
def Qp(e:Z[i]?=some (zf d):=by rfl):Qq K (QF i) Z d:=λH0 F O H Q S q=>by
 obtain⟨g,h,_⟩:=S.fp;obtain⟨v,f,c⟩:=h i _ e;exact#[v,f,q F H v (Q5.refl S.sub) c.2]
def Qx{i:Int}:Qq K (tC<|.int i) Z (.int i):=λH0 F O H Q S q=>q F H _ (Q5.refl S.sub) (.int i)
def WK{b:Bool}:Qq K (tC<|.bl b) Z (.bool b):=λH0 F O H Q S q=>q F H _ (Q5.refl S.sub) (.bl b)
def JN:Qq K (tC .non) Z .none:=λH0 F O H Q S q=>q F H _ (Q5.refl S.sub) .non
def QD:Qq K (tC<|.str x) Z (.str x):=λH0 F O H Q S q=>q F H _ (Q5.refl S.sub) (.str x)
def YF{b:PyData}(q:Qq K ta Z a)(m:Qq K tb Z b)(S:QL K H0 F Z O H)
(h:∀c U x y,Q5 F H c U->Rep c x a->Rep c y b->r x y U Q):tOp r ta tb O H Q:=
 q H0 F O H _ S λB L x g j=>m H0 B O L _ (S.ext g) λA s y f i=>h A s x y (g.trans f) (j.mono f.ff) i
def Z8{g:Int->Int->Int}{y:Int}(m:Qq K ta Z (.int x))(h:Qq K tb Z (.int y)):Qq K (tOp (rI0 λi j=>.int<|g i j) ta tb) Z (.int<|g x y):=λH0 F O H Q S q=>
 YF m h S λs U u v e f c=>by cases f;cases c;exact#[x,y,rfl,rfl,q s U _ e<|.int _]
def VN{g:Int->Int->Bool}{y:Int}(m:Qq K ta Z (.int x))(h:Qq K tb Z (.int y)):Qq K (tOp (rI0 λi j=>.bl<|g i j) ta tb) Z (.bool<|g x y):=λH0 F O H Q S q=>
 YF m h S λs U u v e f c=>by cases f;cases c;exact#[x,y,rfl,rfl,q s U _ e<|.bl _]
def Zy{C:Int->Int->Prop}{g:Int->Int->Int}{y:Int}(s:Qq K ta Z (.int x))(m:Qq K tb Z (.int y))(h:C x y):Qq K (tOp (rI C λi j=>.int<|g i j) ta tb) Z (.int<|g x y):=λH0 F O H Q S q=>
 YF s m S λA U u v e f c=>by cases f;cases c;exact#[x,y,rfl,rfl,h,q A U _ e<|.int _]
def CA{g:Int->Int}(h:Qq K ta Z (.int x)):Qq K (tUn (rU λi=>.int<|g i) ta) Z (.int<|g x):=λH0 F O H Q S q=>
 h H0 F O H _ S λj L v c f=>by cases f;exact#[x,rfl,q j L _ c<|.int _]
noncomputable def V4:PyData->Option V
 |.none=>some .non
 |.bool b=>some (.bl b)
 |.int i=>some (.int i)
 |.str x=>some (.str x)
 |_=>Option.none
def Rep.flat(r:Rep H x d)(e:V4 d=some v):x=v:=by
 cases r<;>simp[V4]at e<;>exact e
def P0{b:PyData}{w:V}(i:Qq K ta Z a)(h:Qq K tb Z b)(e1:V4 a=some v)(j:V4 b=some w)(g:∀(H:Hp) (Q:VK),Q (.bl<|decide (v=w)) H->rEq v w H Q):
 Qq K (tOp rEq ta tb) Z (.bool<|decide (v=w)):=λH0 F O H Q S q=>
 YF i h S λm U x y e f c=>by rw[f.flat e1,c.flat j];exact g _ _ (q m U _ e<|.bl _)
def PH{b:PyData}{w:V}(i:Qq K ta Z a)(h:Qq K tb Z b)(e1:V4 a=some v)(j:V4 b=some w)(g:∀(H:Hp) (Q:VK),Q (.bl<|!decide (v=w)) H->rNe v w H Q):
 Qq K (tOp rNe ta tb) Z (.bool<|!decide (v=w)):=λH0 F O H Q S q=>
 YF i h S λm U x y e f c=>by rw[f.flat e1,c.flat j];exact g _ _ (q m U _ e<|.bl _)
def LD{y:Int}:decide (V.int x=V.int y)=decide (x=y):=by
 simp_all
def Yc{y:Int}(f:Qq K ta Z (.int x))(c:Qq K tb Z (.int y)):Qq K (tOp rEq ta tb) Z (.bool<|decide (x=y)):=by
 rw[<- LD];exact P0 f c rfl rfl λH Q q=>#[rfl,q]
def SR{y:Int}(f:Qq K ta Z (.int x))(c:Qq K tb Z (.int y)):Qq K (tOp rNe ta tb) Z (.bool<|!decide (x=y)):=by
 rw[<- LD];exact PH f c rfl rfl λH Q q=>#[rfl,q]
def SS{b:PyData}(h:Qq K ta Z a)(g:Qq K tb Z b)(j:Y8 a)(i:Y8 b):Qq K (tOp RY ta tb) Z (.bool<|PyData.eqv a b):=λH0 F O H Q S q=>
 YF h g S λm U x y e f c=>#[a,b,f.mono e.fh,c.mono e.fh,j,i,q m U _ e<|.bl _]
def Bk{b:PyData}(h:Qq K ta Z a)(g:Qq K tb Z b)(j:Y8 a)(i:Y8 b):Qq K (tOp Sv ta tb) Z (.bool<|!PyData.eqv a b):=λH0 F O H Q S q=>
 YF h g S λm U x y e f c=>#[a,b,f.mono e.fh,c.mono e.fh,j,i,q m U _ e<|.bl _]
def HS:PyData->Bool
 |.none=>true
 |_=>false
def Rep.isNon(r:Rep H x d):decide (x=.non)=HS d:=by cases r<;>rfl
def SU(g:Qq K ta Z a):Qq K (S6 ta) Z (.bool<|HS a):=λH0 F O H Q S q=>
 g H0 F O H _ S λh L v c f=>by rw[f.isNon];exact q h L _ c (.bl _)
def MS(g:Qq K ta Z a):Qq K (HH ta) Z (.bool<|!HS a):=λH0 F O H Q S q=>
 g H0 F O H _ S λh L v c f=>by rw[f.isNon];exact q h L _ c (.bl _)
def QY{b:Bool}(h:Qq K ta Z (.bool b)):QN K (Gi ta) Z b:=λH0 F O H Q S q=>h H0 F O H _ S λg L v c f=>by cases f;exact#[b,rfl,q g L c]
def ZB{b:Bool}(h:Qq K ta Z (.bool b)):QN K (tB ta) Z b:=λH0 F O H Q S q=>h H0 F O H _ S λg L v c f=>by cases f;exact#[b,rfl,q g L c]
def Pc:QN K UX Z true:=λH0 F O H Q S q=>q F H (Q5.refl S.sub)
def HU{b c:Bool}(j:QN K tA Z b)(i:b=true->QN K tB' Z c):QN K (Hr tA tB') Z (b&&c):=λH0 F O H Q S q=>j H0 F O H _ S λg L f=>by
 cases b with
 |true=>rw[Xi rfl];exact i rfl H0 g O L Q (S.ext f) λs m h=>by simpa using q s m (f.trans h)
 |false=>rw[Xg XA];simpa using q g L f
def Wi{b c:Bool}(j:QN K tA Z b)(i:b=false->QN K tB' Z c):QN K (tOr tA tB') Z (b||c):=λH0 F O H Q S q=>j H0 F O H _ S λg L f=>by
 cases b with
 |false=>rw[Xg XA];exact i rfl H0 g O L Q (S.ext f) λs m h=>by simpa using q s m (f.trans h)
 |true=>rw[Xi rfl];simpa using q g L f
def Vh{b:Bool}(f:QN K tA Z b):QN K (Sx tA) Z (!b):=λH0 F O H Q S q=>f H0 F O H _ S λg L c=>q g L c
def VM{b c:Bool}(s:Qq K ta Z (.bool b))(m:b=true->Qq K tb Z (.bool c)):Qq K (Ph ta tb) Z (.bool<|b&&c):=λH0 F O H Q S q=>s H0 F O H _ S λg L v f j=>by
 cases j;refine#[b,rfl,?_];cases b with
 |true=>rw[Xi rfl];exact m rfl H0 g O L Q (S.ext f) λA y v h i=>by simpa using q A y v (f.trans h) (by simpa using i)
 |false=>rw[Xg XA];exact q g L _ f (.bl _)
def Mx{c:Bool}(s:Qq K ta Z (.bool b))(m:b=false->Qq K tb Z (.bool c)):Qq K (Sz ta tb) Z (.bool<|b||c):=λH0 F O H Q S q=>s H0 F O H _ S λg L v f j=>by
 cases j;refine#[b,rfl,?_];cases b with
 |false=>rw[Xg XA];exact m rfl H0 g O L Q (S.ext f) λA y v h i=>by simpa using q A y v (f.trans h) (by simpa using i)
 |true=>rw[Xi rfl];exact q g L _ f (.bl _)
def HV{b:Bool}(g:Qq K ta Z (.bool b)):Qq K (SN ta) Z (.bool<|!b):=λH0 F O H Q S q=>g H0 F O H _ S λh L v c f=>by cases f;exact#[b,rfl,q h L _ c<|.bl _]
def UK{g g':Int->Int->Bool}{x y z:Int}(P:Qq K ta Z (.int x))(M:Qq K tb Z (.int y))(E:Qq K tc Z (.int z)):
 Qq K (Kp (rI0 λi j=>.bl<|g i j) (rI0 λi j=>.bl<|g' i j) ta tb tc) Z (.bool<|g x y&&g' y z):=λH0 F O H Q S q=>
 P H0 F O H _ S λY L v c C=>M H0 Y O L _ (S.ext c) λm h w f B=>by
  cases C;cases B;refine#[x,y,rfl,rfl,g x y,rfl,?_];cases e:g x y with
  |true=>rw[Xi rfl];exact E H0 m O h _ (S.ext<|c.trans f) λX W u s A=>by cases A;exact#[y,z,rfl,rfl,by simpa [e] using q X W _ ((c.trans f).trans s)<|by rw[e];exact .bl _]
  |false=>rw[Xg XA];simpa [e] using q m h _ (c.trans f) (by rw[e];exact .bl _)
def Ab(y:QN K tA Z b)(s:b=true->Qq K ta Z d)(m:b=false->Qq K tb Z d):Qq K (tIf tA ta tb) Z d:=λH0 F O H Q S q=>y H0 F O H _ S λj L c=>by
 cases b with
 |true=>rw[Xi rfl];exact s rfl H0 j O L Q (S.ext c) λi h v f g=>q i h v (c.trans f) g
 |false=>rw[Xg XA];exact m rfl H0 j O L Q (S.ext c) λi h v f g=>q i h v (c.trans f) g
def Q1:Zp K QT Z []:=λH0 F O H Q S q=>q F H [] (Q5.refl S.sub) .nil
def Qv(j:Qq K ta Z d)(i:Zp K t Z ts):Zp K (QM ta t) Z (.fz d::ts):=λH0 F O H Q S q=>
 j H0 F O H _ S λy L v f h=>i H0 y O L _ (S.ext f) λs m A c g=>q s m _ (f.trans c) (.fz (h.mono c.ff) g)
def Pb(e:Z[i]?=some (some<|.scr ns))(g:Zp K t Z ts):Zp K (QM (QF i) t) Z (.scr ns::ts):=λH0 F O H Q S q=>by
 obtain⟨B,h,_⟩:=S.fp;obtain⟨v,m,_,a,rfl,j⟩:=h i _ e;exact#[_,m,g H0 F O H _ S λy s A c f=>q y s _ c<|.scr (j.mono c.ff) f]
def MQ(e:zg Z i<|zz Ψ)(g:Zp K t Z ts):Zp K (QM (QF i) t) Z (.zow Ψ::ts):=λH0 F O H Q S q=>by
 obtain⟨B,h,_⟩:=S.fp;obtain⟨v,m,_,j⟩:=h i _ e;exact#[_,m,g H0 F O H _ S λy s A c f=>q y s _ c<|.zow (Ψ.mono c.ff j) f]
def fzs(ds:Qd):List OT:=ds.map OT.fz
theorem Args.reps{F:Hp}:∀{vs:List V} {ds:Qd},Args K F vs (fzs ds)->Q0 F vs ds
 |_,[],.nil=>.nil
 |_,_::_,.fz r t=>.cons r (Args.reps t)
def YE(h:Zp K t Z (fzs ds))(j:ds.length<=1000):Qq K (Ut t) Z (.tuple ds):=λH0 F O H Q S q=>
 h H0 F O H _ S λs L m c g=>#[by rw[g.reps.length];exact Wr<|V7 j,λp i=>by
  have f:=c.fh;exact q _ _ _ (c.trans<|Q5.new f i)<|.tup QG<|g.reps.mono<|Q6.new<|f.free i]
def BC(x:Q5 F0 H0 F H)(c:H p=none)(r:Q0 F xs ds):Q5 F0 H0 F (upd H p<|.lst xs)/\(∀a∈[p],H0 a=none)/\Zx K F (upd H p<|.lst xs) (.ref p) (.ol ds) [p]:=
 #[x.trans<|Q5.own x.fh c,λa f=>by
  have e:=by simpa using f
  subst e;exact x.hh.free c,p,rfl,rfl,x.fh.free c,xs,QG,r]
def ZY(h:Zp K t Z (fzs ds))(j:ds.length<=1000):EvO K (UZ t) Z (.ol ds):=λH0 F O H Q S q=>
 h H0 F O H _ S λs L m g f=>#[by rw[f.reps.length];exact Wr<|V7 j,λp i=>by
  obtain⟨a,b,c⟩:=BC g i f.reps;exact q _ _ _ _ a b c]
def Jz(r:Rep F x (.list ds))(s:Q6 F H):∃a xs,x=.ref a/\SqL K H a xs/\Q0 F xs ds/\H a=some (.lst xs):=by
 cases r with
 |lst c f=>exact#[_,_,rfl,SqL.of<|s _ _ c,f,s _ _ c]
def Dt(r:Rep F x (.tuple ds))(s:Q6 F H):∃a xs,x=.ref a/\SqT K H a xs/\Q0 F xs ds/\H a=some (.tup xs):=by
 cases r with
 |tup c f=>exact#[_,_,rfl,SqT.of<|s _ _ c,f,s _ _ c]
def G4{i:Int}(r:Q0 F xs ds)(e:atI ds i=some d):∃z,atI xs i=some z/\Rep F z d:=by
 obtain⟨j,h,g⟩:=PX e;obtain⟨z,f,c⟩:=r.get h;refine#[z,?_,c];unfold atI;rw[r.length,g];exact f
def ZF{i:Int}(s:Qq K ta Z (.list ds))(m:Qq K tb Z (.int i))(e:atI ds i=some d):Qq K (tOp (rIx K) ta tb) Z d:=λH0 F O H Q S q=>
 YF s m S λC U x y c j h=>by
  obtain⟨a,xs,rfl,B,A,_⟩:=Jz (K:=K) j c.fh;obtain⟨z,g,f⟩:=G4 A e;cases h;exact .inl #[a,xs,i,z,rfl,rfl,B,g,q C U z c f]
def Vz{i:Int}(s:Qq K ta Z (.tuple ds))(m:Qq K tb Z (.int i))(e:atI ds i=some d):Qq K (tOp (rIx K) ta tb) Z d:=λH0 F O H Q S q=>
 YF s m S λC U x y c j h=>by
  obtain⟨a,xs,rfl,B,A,_⟩:=Dt (K:=K) j c.fh;obtain⟨z,g,f⟩:=G4 A e;cases h;exact .inr (.inl #[a,xs,i,z,rfl,rfl,B,g,q C U z c f])
def Cy(e0:Z[i]?=some (some<|.ol ds))(s:Qq K tb Z (.int k))(e:atI ds k=some d):Qq K (tOp (rIx K) (QF i) tb) Z d:=λH0 F O H Q S q=>by
 obtain⟨M,h,_⟩:=S.fp;obtain⟨v,C,a,rfl,_,m⟩:=h i _ e0;refine#[_,C,s H0 F O H _ S λE L y c j=>?_];obtain⟨P,xs,B,A⟩:=m.ext c;obtain⟨z,g,f⟩:=G4 A e;cases j;exact .inl #[a,xs,k,z,rfl,rfl,SqL.of B,g,q E L z c f]
def Cw(e0:Z[i]?=some (some<|.scr ns))(s:Qq K tb Z (.int k))(e:atI ns k=some n):Qq K (tOp (rIx K) (QF i) tb) Z (.int n):=λH0 F O H Q S q=>by
 obtain⟨M,h,_⟩:=S.fp;obtain⟨v,A,_,a,rfl,g⟩:=h i _ e0;refine#[_,A,s H0 F O H _ S λB L y c m=>?_];cases m;obtain⟨j,E,C⟩:=PX e;have f:atI (ns.map V.int) k=some (.int n):=by
  unfold atI;simp_all
 exact .inl #[a,_,k,_,rfl,rfl,(c.ff.trans c.fh).seq g.sq,f,q B L _ c<|.int n]
def Q9(R:List OT->OT->Prop):Sp:=λg H Q _=>∃F c r,KTs K F/\Q6 F H/\Args K F g c/\R c r/\∀f U v p,Q5 F H f U->(∀a∈p,H a=none)->Zx K f U v r p->Q v U
def B7(h:Zp K t Z ts)(s:R ts r):EvO K (Ve (Q9 (K:=K) R) [] pos t) Z r:=λH0 F O H Q S q=>
 h H0 F O H _ S λB L C c g=>by
  refine#[B,ts,r,(S.ext c).kt,c.fh,by rw[Xw];exact g,s,λA y v p f j i=>q A y v p (c.trans f) (λa m=>c.hh.free<|j a m) i]
def QQ(h:Zp K t Z ts)(c:R ts (.fz d)):Qq K (Ve (Q9 (K:=K) R) [] pos t) Z d:=(B7 h c).e
def CL(h:Zp K t Z ts)(c:R ts (.ol ds)):Qq K (Ve (Q9 (K:=K) R) [] pos t) Z (.list ds):=(B7 h c).fz
end
def Lw{ts:List OT}(G:Nat->Qg)(m:KTs K F)(g:Q6 F H)(c:vs.length=ts.length)(h:∀i t,ts[i]?=some t->∃v,vs[i]?=some v/\Zx K F H v t (G i))(B:∀i j b,b∈G i->b∈G j->i=j)(q:∀i b,b∈G i->H0 b=none/\H b≠none):
 QL K H0 F (ts.map some++List.replicate (N.length-ts.length) none) (start N vs) H:=by
 refine#[m,g,by unfold start;simp[c],G,λi f e=>?_,B,q]
 by_cases z:i<ts.length
 .rw[Uh<|by simpa using z]at e;obtain⟨v,A,s⟩:=h i f (by cases y:ts[i]?<;>simp[y]at e ⊢;exact e);refine#[v,?_,s];unfold start;rw[Uh<|by simpa [c] using z,Xy,A];rfl
 .rw[GP<|by simpa using z]at e;have:=List.mem_of_getElem? e;simp at this
def BP(g:KTs K F)(f:Q6 F H)(c:Args K F vs ts):QL K H F (zr N ts) (start N vs) H:=
 Lw _ g f c.length (λi t e=>c.get i t e) (λi j a h=>(nomatch h)) λi a h=>(nomatch h)
noncomputable abbrev ini(N:Qh)(ts:List OT):Zcs:=ts.map some++List.replicate (N.length-ts.length) none
def Df.ev{w:World}{base:Heap}{x:Str}{st:Stmt}{N:Qh}{k:Nat}{R:List OT->OT->Prop}(u:Df K mg x st ps)(S:Qo N ps (Q3 st))
(B:∀f ts r,R ts r->∀H c,B0 P w K mg base N x st k f H c λt=>QE K t (ini N ts) { nx:=λ_=>r=.fz .none,rt:=λM=>M=r })(i:∀ts r,R ts r->ts.length=ps.length:=by intro _ _ h;cases h<;>rfl):Q2 P w K mg base x ps (k+1) (Q9 (K:=K) R):=by
 refine u.go λf fd F=>F.ok S (by rintro Y H Q c ⟨F,ts,r,_,_,j,m,_⟩;exact j.length.trans<|i ts r m) ?_;rintro Y H Q c ⟨F,ts,r,b,E,j,m,q⟩ y A outer s d;obtain⟨t,o,n⟩:=B f ts r m H c y A outer s d;refine#[t,o,n F H F _ H _ (Q5.refl E) (BP b E j) #[λC W U X g _ e=>?_,λC U v M p g l a e=>?_,λ_ _ _ _ _ _ z=>False.elim z,λ_ _ _ _ _ _ z=>False.elim z]]
 .subst e;exact q C U _ [] g (by rintro _ ⟨⟩) #[rfl,.non]
 .subst e;exact q C U v p g l a
end L2
variable {Z:L2.Zcs}{dx:L2.PEnds}{ts:List L2.OT}{Θ:Int->L2.OT->Prop}
namespace L2
theorem Cg:∀{as bs:Qg},as.map V.ref=bs.map V.ref->as=bs
 |[],[],_=>rfl
 |[],_::_,h=>by simp at h
 |_::_,[],h=>by simp at h
 |a::as,b::bs,h=>by
  simp only[Xv,List.cons.injEq]at h;obtain⟨c,f⟩:=h;injection c with c;rw[c,Cg f]
section
variable {tb:TE}{t u:TS}
def QU(h:dx.nx Z):QE K Bc Z dx:=λF0 H0 F O H c x S C=>C.nx F O H Z x S h
def Q4(h:QE K t Z { dx with nx:=λf=>QE K u f dx }):QE K (Ys t u) Z dx:=λF0 H0 F O H c x S C=>
 h F0 H0 F O H { c with nx:=u c } x S #[λm g U f i j q=>q F0 H0 m g U c i j C,C.rt,C.bk,C.ct]
def Gu(f:Fgt Z ρ')(h:QE K t ρ' dx):QE K t Z dx:=λF0 H0 F O H c x S C=>h F0 H0 F O H c x (S.fgt f) C
def Ww(i:Nat)(e:Z[i]?=some (some<|.ol ds))(h:QE K t (Z.set i<|zf<|.list ds) dx):QE K t Z dx:=λF0 H0 F O H c x S C=>by
 obtain⟨a,xs,j,g,f,_,_,m⟩:=S.freeze e;exact h F0 H0 _ O H c (x.freeze j g f) m C
def Jm(h:EvO K te Z r)(i:dx.rt r):QE K (VU te) Z dx:=λF0 H0 F O H f x S C=>
 h H0 F O H _ S λq U v p c j g=>C.rt q U v r p (x.trans c) (λa m=>x.hh.free<|j a m) g i
def Zh(h:Qq K te Z d)(c:dx.rt (.fz d)):QE K (VU te) Z dx:=Jm h.o c
def MR(e:Z[i]?=some (some<|.ol ds))(g:dx.rt (.ol ds)):QE K (VU<|QF i) Z dx:=λF0 H0 F O H c x S C=>by
 obtain⟨s,h,_,m⟩:=S.fp;obtain⟨v,q,f⟩:=h i _ e;exact#[v,q,C.rt F H v _ _ x (λa j=>(m i a j).1) f g]
def QS{b:Bool}(h:QN K tA Z b)(j:b=true->QE K t Z dx)(i:b=false->QE K u Z dx):QE K (Uq tA t u) Z dx:=λF0 H0 F O H c x S C=>
 h H0 F O H _ S λg U f=>by
  cases b with
  |true=>rw[Xi rfl];exact j rfl F0 H0 g O U c (x.trans f) (S.ext f) C
  |false=>rw[Xg XA];exact i rfl F0 H0 g O U c (x.trans f) (S.ext f) C
def Vs(h:EvO K te Z r)(hn:dx.nx (Z.set i<|some r)):QE K (V2 te<|Yb i) Z dx:=λF0 H0 F O H o x S C=>
 h H0 F O H _ S λF' U v p s P D=>by
  refine C.nx F' _ U _ (x.trans s) ((S.ext s).set D (λa t=>x.hh.free<|P a t) (hn:=λa t j w M q T R c=>?_)) hn;obtain⟨L,J,g2,I⟩:=S.fp;obtain⟨w',W,N⟩:=J j M T;intro G;have u:=N.ext s;rw[R]at W;cases W;have g:∀b∈q,b∈L j:=by
   cases M with
   |fz d=>rw[c.1];intro b f;cases f
   |zow Ψ=>rw[c.1];intro b f;cases f
   |ol ds=>
    obtain⟨b1,B,k,e⟩:=c;obtain⟨b2,m,n,l⟩:=u
    grind
   |oll S0=>
    obtain⟨b1,A,B,k,e,z4,Y,z6⟩:=c;obtain⟨b2,y,m,n,l,y4,E,y6⟩:=u;rw[B]at m;cases m;rw[Y]at E;have Q:A.map V.ref=y.map V.ref:=by injection E with z;injection z
    have e6:=Cg Q
    grind
   |scr ns=>rw[c.1];intro b f;cases f
   |own v0 X=>exact λb f=>X.uniq u.2 c.2 b f
  exact(I j a<|g a G).2 (P a t)
def Z3(h:Qq K te Z d)(hn:dx.nx (Z.set i<|zf d)):QE K (V2 te<|Yb i) Z dx:=Vs h.o hn
def Zv : GTo K (Yb i) d Z (Z.set i<|zf d):=λH0 F O H x Q S r q=>q _ (S.setF r)
def JM:Mq K Hq [] Z Z:=λH0 F O H xs Q S r q=>by cases r;exact#[rfl,q _ S]
def Y3{g:TG}(j:GTo K g d Z ρ1)(i:Mq K gs ds ρ1 ρ2):Mq K (HC g gs) (d::ds) Z ρ2:=λH0 F O H xs Q S r q=>by
 cases r with
 |cons h f=>exact#[_,_,rfl,j H0 F O H _ _ S h λc m=>i H0 F c H _ _ m f q]
def Jh(h:Mq K gs ds Z ρ1)(hn:ds.length=n):GTo K (Hm K n gs) (.tuple ds) Z ρ1:=λH0 F O H x Q S r q=>by
 obtain⟨a,xs,rfl,f,c,_⟩:=Dt (K:=K) r S.sub;exact#[a,xs,rfl,f,by rw[c.length,hn],h H0 F O H xs Q S c q]
def Q5.wr(x:Q5 F0 H0 F H)(h0:H0 a=none)(c:F a=none):Q5 F0 H0 F (upd H a o):=
 #[x.hh.upd h0,x.ff,x.fh.upd c,x.fr]
def JR(e:Z[i]?=some (some<|.ol ds))(h:Qq K te Z d)(M:ds.length<1000)(hn:dx.nx (Z.set i<|some<|.ol<|ds++[d])):
 QE K (Vm<|tBM K "list" Wb (QF i)<|QM te QT) Z dx:=λF0 H0 F O H s x S C=>by
 obtain⟨a,xs,m,B,P,_⟩:=S.write e;refine#[_,m,.inl #[rfl,_,SqL.of B],h H0 F O H _ S λE L v f q=>?_];obtain⟨W,c,j,A,g,y,u,t⟩:=(S.ext f).write e;rw[m]at j;cases j;refine#[a,c,v,rfl,rfl,A,by rw[g.length];exact V7<|#[],?_];exact C.nx E O _ _ ((x.trans f).wr y u) (t _ _<|g.snoc q) hn
def Ty{f:Int->Int->Int}{m:Int}(e:Z[i]?=some (some<|.ol ds))(b:Qq K tb Z (.int k))(h0:0<=k)(t:ds[k.toNat]?=some (.int m))(h:Qq K te Z (.int n))
(hn:dx.nx (Z.set i<|some<|.ol<|ds.set k.toNat<|.int<|f m n)):QE K (M0 (QF i) tb te (M4 K) (ipI f) Bf) Z dx:=λF0 H0 F O H X x S C=>by
 obtain⟨a,xs,q,J,I,_⟩:=S.write e;refine#[_,q,b H0 F O H _ S λG L y c W=>?_];cases W;obtain⟨Q,j,B,v,r,_⟩:=(S.ext c).write e;rw[q]at B;cases B;obtain⟨z,M,E⟩:=r.get t;refine#[a,j,k,z,rfl,rfl,SqL.of v,h0,M,h H0 G O L _ (S.ext c) λD R w s P=>?_];cases P;cases E;refine#[m,n,rfl,rfl,?_];obtain⟨N,g,A,p,u,o,l,d⟩:=(S.ext<|c.trans s).write e;rw[q]at A;cases A;have Y:=(Xh.mp t).1;refine#[a,g,k,k.toNat,rfl,rfl,p,?_,?_]
 .rw[u.length];unfold ixN;rw[Xi h0,Xi<|#[]]
 .exact C.nx D O _ _ ((x.trans<|c.trans s).wr o l) (d _ _<|u.set (.int _) _) hn
def Q5.base(x:Q5 F0 H0 F H):Q5 F H0 F H:=#[x.hh,Q6.refl _,x.fh,λ_ h=>.inl h]
def Q5.rebase(x:Q5 F0 H0 F H)(y:Q5 F H0 F' U):Q5 F0 H0 F' U:=
 #[y.hh,x.ff.trans y.ff,y.fh,λa h=>(y.fr a h).elim (λz=>x.fr a z) .inr]
def Ym{g:TG}(P:Nat->Zcs->Prop)(hi:EvI K wi Z ds)(h0:P 0 Z)
(hs:∀(i:Nat) (d:PyData) (c:Zcs),ds[i]?=some d->P i c->∃f,GTo K g d c f/\QE K tbd f { nx:=P (i+1),ct:=P (i+1),bk:=dx.nx,rt:=dx.rt })(hd:∀c,P ds.length c->dx.nx c):QE K (UU wi g tbd) Z dx:=λF0 H0 F O H pos x S C=>
 hi H0 F O H _ S λw L J z W=>by
  refine#[λi m O H=>m=ds.length-i/\i<=ds.length/\∃F c,Q5 F0 H0 F H/\Q6 w F/\QL K H0 F c O H/\P i c,#[ds.length,by simp,XN _,w,Z,x.trans z,Q6.refl _,S.ext z,h0],?_];rintro i m B U ⟨rfl,hle,I,c,D,G,k,p⟩;obtain⟨R,Q⟩:=W I U G k.sub
  by_cases M:i<ds.length
  .have e:ds[i]?=some ds[i]:=by simp[M]
   obtain⟨go,N⟩:=Q i _ e;refine .inr #[go,λs n=>∃r f,Q5 F0 H0 r n/\Q6 w r/\QL K H0 r f s n/\P _ f,λs n q=>#[ds.length-_,#[],rfl,M,q],λv l y=>?_];obtain⟨o,Y,r3⟩:=N v l y;obtain⟨f,hg,hb⟩:=hs i _ c e p;refine hg H0 o B l v _ (k.ext Y) r3 λs S2=>?_;have j:=D.trans Y;have E:=G.trans Y.ff
   exact hb o H0 o s l _ j.base S2 #[λA u X h t b a=>#[A,h,j.rebase t,E.trans t.ff,b,a],λA X T r4 p4 t=>C.rt A X T r4 p4<|j.rebase t,
    λA u X h t=>C.nx A u X h<|j.rebase t,λA u X h t b a=>#[A,h,j.rebase t,E.trans t.ff,b,a]]
  .have e:i=ds.length:=#[]
   subst e;exact .inl #[R,C.nx I B U c D k<|hd c p]
def G2{g:TG}(R:Nat->Zcs)(m:EvI K wi Z ds)(h0:Fgt Z (R 0))
(j:∀(i:Nat) (d:PyData),ds[i]?=some d->∃h,GTo K g d (R i) h/\QE K tbd h { nx:=λc=>Fgt c<|R<|i+1,ct:=λc=>Fgt c<|R<|i+1,bk:=dx.nx,rt:=dx.rt })(s:∀c,Fgt c (R ds.length)->dx.nx c):QE K (UU wi g tbd) Z dx:=by
 refine Ym (λi c=>Fgt c<|R i) m h0 (λi d c e f=>?_) s;obtain⟨h,u,t⟩:=j i d e;exact#[h,λH0 F O H x Q S r q=>u H0 F O H x Q (S.fgt f) r q,t]
def KZ{c:TT}(P:Nat->Zcs->Prop)(M:Nat)(h0:P M Z)
(r:∀(m:Nat) (f:Zcs),P m f->∃b,QN K c f b/\(b=true->QE K tbd f { nx:=λg=>∃i,i<m/\P i g,ct:=λg=>∃i,i<m/\P i g,bk:=dx.nx,rt:=dx.rt })/\(b=false->dx.nx f)):QE K (Ti c tbd) Z dx:=λF0 H0 F O H o x S C=>by
 refine#[λm O H=>∃F f,Q5 F0 H0 F H/\QL K H0 F f O H/\P m f,#[M,F,Z,x,S,h0],?_];rintro m s U ⟨G,f,k,a,p⟩;obtain⟨b,z,w,v⟩:=r m f p;refine z H0 G s U _ a λd L E=>?_;have X:=k.trans E;have Y:=a.ext E
 cases b with
 |false=>rw[Xg XA];exact C.nx d s L f X Y (v rfl)
 |true=>
  refine#[λt B=>∃i,i<m/\∃y g,Q5 F0 H0 y B/\QL K H0 y g t B/\P i g,λt B h=>h,?_];have W:∀A q u j,Q5 F0 H0 A u->QL K H0 A j q u->(∃i,i<m/\P i j)->∃i,i<m/\∃y g,Q5 F0 H0 y u/\QL K H0 y g q u/\P i g:=λA q u j e D ⟨i,n,l⟩=>#[i,n,A,j,e,D,l];exact w rfl F0 H0 d s L _ X Y #[W,C.rt,C.nx,W]
def Yz(h:Qq K ta Z (.list ds)):EvI K (Pg K ta) Z ds:=λH0 F O H R S q=>
 h H0 F O H _ S λB L v c t=>by
  obtain⟨a,xs,rfl,P,u,b⟩:=Jz (K:=K) t c.fh;have M:B a=some (.lst xs):=by
   cases t with
   |lst E Y=>
    have:=c.fh _ _ E
    grind
  refine#[a,rfl,#[xs,P],q B L _ c λX W s m=>?_];have g:SqL K W a xs:=SqL.of (m _ _<|s _ _ M);refine#[#[xs,g,by rw[u.length];exact Xn _],λi d e=>?_];obtain⟨z,j,C⟩:=u.get e;refine#[#[xs,z,g,j],λy k f=>?_];obtain⟨rfl,f⟩:=f;have A:=f xs g;rw[j]at A;cases A;exact#[X,Q5.refl m,C.mono s]
def Gn(h:Qq K ta Z (.tuple ds)):EvI K (Sb K ta) Z ds:=λH0 F O H R S q=>
 h H0 F O H _ S λB L v c t=>by
  obtain⟨a,xs,rfl,P,u,b⟩:=Dt (K:=K) t c.fh;have M:B a=some (.tup xs):=by
   cases t with
   |tup E Y=>
    have:=c.fh _ _ E
    grind
  refine#[a,rfl,#[xs,P],q B L _ c λX W s m=>?_];have g:SqT K W a xs:=SqT.of (m _ _<|s _ _ M);refine#[#[xs,g,by rw[u.length];exact Xn _],λi d e=>?_];obtain⟨z,j,C⟩:=u.get e;refine#[#[xs,z,g,j],λy k f=>?_];obtain⟨rfl,f⟩:=f;have A:=f xs g;rw[j]at A;cases A;exact#[X,Q5.refl m,C.mono s]
def Vy(lo:Int)(n:Nat):Qd:=(List.range n).map λ(i:Nat)=>PyData.int (lo+(i:Int))
def W2{lo:Int}{n:Nat}(e:(Vy lo n)[i]?=some d):i<n/\d=.int (lo+(i:Int)):=by
 unfold Vy at e;rw[Xy]at e;by_cases h:i<n
 .simp[h]at e;exact#[h,e.symm]
 .simp[h]at e
def JS{lo:Int}{n:Nat}:(Vy lo n).length=n:=by simp[Vy]
def Fa{lo:Int}{n:Nat}:Pq F (Itr lo n) (Vy lo n):=λh q j c=>by
 refine#[by show n<=_;rw[JS];exact Xn _,λi d e=>?_];obtain⟨g,rfl⟩:=W2 e;refine#[g,λx m f=>?_];obtain⟨rfl,rfl⟩:=f;exact#[h,Q5.refl c,.int _]
def YK{t:TA}(h:Zp K t Z [.fz<|.int n])(h1 : -(2^62)<=n)(g:n<2^62):EvI K (Bh t) Z (Vy 0 n.toNat):=λH0 F O H R S q=>
 h H0 F O H _ S λi L j f c=>by
  cases c with
  |fz r c=>cases c;cases r;exact#[n,rfl,h1,g,q i L _ f Fa]
def T4{t:TA}{m:Int}(h:Zp K t Z [.fz<|.int m,.fz<|.int n])(h1 : -(2^62)<=m/\m<2^62 /\ -(2^62)<=n/\n<2^62):EvI K (SW t) Z (Vy m (n-m).toNat):=λH0 F O H R S q=>
 h H0 F O H _ S λi L j f c=>by
  cases c with
  |fz r c=>
   cases c with
   |fz g c=>cases c;cases r;cases g;exact#[m,n,rfl,h1,q i L _ f Fa]
def Gc(c:Int)(n:Nat):Qd:=(List.range n).map λ(i:Nat)=>PyData.int (c-(i:Int))
def Lm(e:(Gc hi n)[i]?=some d):i<n/\d=.int (hi-(i:Int)):=by
 unfold Gc at e;rw[Xy]at e;by_cases h:i<n
 .simp[h]at e;exact#[h,e.symm]
 .simp[h]at e
def LJ : (Gc hi n).length=n:=by simp[Gc]
def CP{t:TA}{m:Int}(h:Zp K t Z [.fz<|.int m,.fz<|.int n,.fz<|.int (-1)])(a : -(2^62)<=m/\m<2^62 /\ -(2^62)<=n/\n<2^62):EvI K (SV t) Z (Gc m (m-n).toNat):=λH0 F O H R S q=>
 h H0 F O H _ S λA L B f c=>by
  cases c with
  |fz r c=>
   cases c with
   |fz s c=>
    cases c with
    |fz j c=>
     cases c;cases r;cases s;cases j;refine#[m,n,rfl,a,q A L _ f λy M C g=>#[by show _<=_;rw[LJ];exact Xn _,λi d e=>?_]];obtain⟨a,rfl⟩:=Lm e;refine#[a,λx E u=>?_];obtain⟨rfl,rfl⟩:=u;exact#[y,Q5.refl g,.int _]
noncomputable def WQ:Option OT->Option OT
 |some (.fz d)=>some (.fz d)
 |some (.scr f)=>some (.scr f)
 |some (.zow c)=>some (.zow c)
 |_=>none
def JK(f:List (Option Nat))(Z:Zcs):Zcs:=f.map λo=>match o with|some i=>WQ (Z[i]?).join|none=>none
def QL.inner(f:List (Option Nat))(S:QL K H0 F Z O H):QL K H0 F (JK f Z) (YS f O) H:=by
 obtain⟨s,A,P,W,u,M,E⟩:=S;refine#[s,A,by simp[JK,YS],λ_=>[],λi t e=>?_,λi j a h=>(nomatch h),λi a h=>(nomatch h)];unfold JK at e;rw[Xy]at e;cases z:f[i]? with
 |none=>rw[z]at e;simp at e
 |some o=>
  rw[z]at e;simp only[W9,Option.some.injEq]at e;cases o with
  |none=>cases e
  |some k=>
   simp only at e;have q:Z[k]?=some (some t)/\((∃d,t=.fz d)\/(∃g,t=.scr g)\/∃c,t=.zow c):=by
    cases y:Z[k]? with
    |none=>rw[y]at e;simp[WQ]at e
    |some w=>
     rw[y]at e;simp only[Option.join_some]at e;cases w with
     |none=>simp[WQ]at e
     |some w=>
      cases w with
      |fz d=>simp[WQ]at e;subst e;exact#[rfl,.inl #[_,rfl]]
      |scr g=>simp[WQ]at e;subst e;exact#[rfl,.inr<|.inl #[_,rfl]]
      |zow c=>simp[WQ]at e;subst e;exact#[rfl,.inr<|.inr #[_,rfl]]
      |ol ds=>simp[WQ]at e
      |oll ds=>simp[WQ]at e
      |own C B=>simp[WQ]at e
   obtain⟨v,X,m⟩:=u k t q.1;refine#[v,?_,?_]
   .unfold YS;simp_all
   .rcases q.2 with ⟨d,rfl⟩|⟨g,rfl⟩|⟨c,rfl⟩
    .exact#[rfl,m.2]
    .exact#[rfl,m.2]
    .exact#[rfl,m.2]
def Bv{X:Type}{f:List (Option Nat)}{l:TI}{g:CIn->TG}{E:CIn->TT}{C:CIn->TE}{xs:List X}{enc h:X->PyData}{p:X->Bool}(hi:EvI K l Z (xs.map enc))(hl:xs.length<=1000)
(hs:∀x∈xs,∀c,∃s,GTo K (g c) (enc x) (JK f Z) s/\QN K (E c) s (p x)/\(p x=true->Qq K (C c) s (h x))):EvO K (tLC f l g E C) Z (.ol<|(xs.filter p).map h):=λH0 F O H Q S q=>
 hi H0 F O H _ S λD L J Y W c=>by
  have hn:=Wr (V7 hl);refine#[λi m ys H=>m=xs.length-i/\i<=xs.length/\∃P,Q5 D L P H/\Q0 P ys (((xs.take i).filter p).map h),#[xs.length,by simp,XN _,D,Q5.refl Y.fh,.nil],?_];rintro i m ys U ⟨rfl,hle,P,t,M⟩;obtain⟨w1,T⟩:=W P U t.ff t.fh
  by_cases j:i<xs.length
  .have e:(xs.map enc)[i]?=some (enc xs[i]):=by simp[j]
   obtain⟨go,R⟩:=T i _ e;refine .inr #[go,λv d y=>?_];obtain⟨w,B,r3⟩:=R v d y;obtain⟨s,k1,k2,k3⟩:=hs xs[i] (X7 j) c;have S3:=(S.ext<|Y.trans<|t.trans B).inner f;have n:xs.take (i+1)=xs.take i++[xs[i]]:=by rw[Ud];simp[j]
   have ly:=M.length;have ly2:ys.length<=i:=by
    rw[ly,Xf];refine Xl (Ml _ _) ?_;rw[DV];lia
   refine k1 H0 w _ d v _ S3 r3 λu o=>k2 H0 w u d _ o λr H4 A=>?_
   cases b:p xs[i] with
   |true=>
    refine k3 b H0 r u H4 _ (o.ext A) λF5 H5 z k r5=>#[#[],xs.length-(i+1),#[],rfl,j,F5,t.trans<|B.trans<|A.trans k,?_];rw[n,GU,Xx];simp only[DU,b,if_true,List.filter_nil];exact(M.mono (B.trans<|A.trans k).ff).snoc r5
   |false=>
    refine#[xs.length-(i+1),#[],rfl,j,r,t.trans<|B.trans A,?_];rw[n,GU];simp only[DU,b,List.filter_nil,List.map_nil,Xw,DY,if_false];exact M.mono (B.trans A).ff
  .have e:i=xs.length:=#[]
   subst e;refine .inl #[by simpa using w1,λa ha=>?_];rw[J5]at M;obtain⟨N,I,G⟩:=BC (Y.trans t) ha M;exact q _ _ _ _ N I G
def YC{m:Type}{f:List (Option Nat)}{q:TI}{g:CIn->TG}{j:CIn->TE}{xs:List m}{enc h:m->PyData}(y:EvI K q Z (xs.map enc))(u:xs.length<=1000)
(t:∀x∈xs,∀c,∃i,GTo K (g c) (enc x) (JK f Z) i/\Qq K (j c) i (h x)):EvO K (tLC f q g (λ_=>UX) j) Z (.ol<|xs.map h):=by
 have:=Bv y u λx s c=>by
  obtain⟨i,B,A⟩:=t x s c;exact#[i,B,Pc,λ_=>A]
 have e:xs.filter _=xs:=DZ.mpr λ_ _=>rfl
 simp_all
def HQ:List V->Hp->VK->Prop:=λxs H Q=>∃i j,xs=[.int i,.int j]/\Q (.int (if j > i then j else i)) H
def HK:List V->Hp->VK->Prop:=λxs H Q=>∃i j,xs=[.int i,.int j]/\Q (.int (if j<i then j else i)) H
def SQ:List V->Hp->VK->Prop:=λxs H Q=>(∃i,xs=[.int i]/\Q (.int i) H)\/∃k,xs=[.bl k]/\Q (.int (if k then 1 else 0)) H
def RZ:List V->Hp->VK->Prop:=λxs H Q=>∃x T c b,xs=[x,.ty c]/\TyN H x T/\Ur T c=some b/\Q (.bl b) H
def Ga(K:W.Frag):List V->Hp->VK->Prop:=λxs H Q=>∃p ys,xs=[.ref p]/\(SqL K H p ys\/SqT K H p ys)/\Q (.int ys.length) H
def Lb(K:W.Frag):List V->Hp->VK->Prop:=λxs H Q=>∃p ys,xs=[.ref p]/\(SqL K H p ys\/SqT K H p ys)/\∀l,H l=none->Q (.ref l) (upd H l<|.lst ys)
def Kq(K:W.Frag):List V->Hp->VK->Prop:=λxs H Q=>∃p ys,xs=[.ref p]/\((SqL K H p ys/\∀l,H l=none->Q (.ref l) (upd H l<|.tup ys))\/(SqT K H p ys/\Q (.ref p) H))
def RU(X:Cx):List V->Hp->VK->Prop:=λxs H Q=>X.calm=true/\∃(x:V) (c:Ql),xs=[x]/\Rep H x (.list<|c.map PyData.int)/\Q (.int c.sum) H
def AA(h:X.calm=true):ZE X (.builtin "max") HQ:=ZqI h
def HX(h:X.calm=true):ZE X (.builtin "min") HK:=ZqJ h
def AR:ZE X (.type "int") SQ:=ZpE
def ML:ZE X (.builtin "isinstance") RZ:=OJ
def ZW:ZE X (.builtin "len") (Ga X.K):=ZjC
def Ig:ZE X (.type "list") (Lb X.K):=Zkm
def Dj:ZE X (.type "tuple") (Kq X.K):=Zjh
def Py:ZE X (.builtin "sum") (RU X):=Zqk
def PQ{y:Int}(m:Qq K ta Z (.int x))(j:Qq K tb Z (.int y))(S:QL K H0 F Z O H)(h:∀u U,Q5 F H u U->r [.int x,.int y] U Q):tCB r (QM ta<|QM tb QT) O H Q:=
 m H0 F O H _ S λt L v c i=>j H0 t O L _ (S.ext c) λs q w f g=>by cases i;cases g;exact h s q (c.trans f)
def Ej{y:Int}(f:Qq K ta Z (.int x))(c:Qq K tb Z (.int y)):Qq K (tCB HQ<|QM ta<|QM tb QT) Z (.int (if y > x then y else x)):=λH0 F O H Q S q=>
 PQ f c S λg U e=>#[x,y,rfl,q g U _ e<|.int _]
def Eg{y:Int}(f:Qq K ta Z (.int x))(c:Qq K tb Z (.int y)):Qq K (tCB HK<|QM ta<|QM tb QT) Z (.int (if y<x then y else x)):=λH0 F O H Q S q=>
 PQ f c S λg U e=>#[x,y,rfl,q g U _ e<|.int _]
def Pm{b:Bool}(h:Qq K ta Z (.bool b)):Qq K (tCB SQ<|QM ta QT) Z (.int (if b then 1 else 0)):=λH0 F O H Q S q=>
 h H0 F O H _ S λg L v c f=>by cases f;exact .inr #[b,rfl,q g L _ c<|.int _]
def Bj{c:String}{b:Bool}(h:Qq K ta Z a)(i:Ur (tyD a) c=some b):Qq K (tCB RZ<|QM ta<|QM (tC<|.ty c) QT) Z (.bool b):=λH0 F O H Q S q=>
 h H0 F O H _ S λj L v f g=>#[v,_,c,b,rfl,(g.mono f.fh).ty,i,q j L _ f<|.bl _]
def VR(h:Qq K ta Z (.list ds)):Qq K (tCB (Ga K)<|QM ta QT) Z (.int (ds.length:Int)):=λH0 F O H Q S q=>
 h H0 F O H _ S λj L v c f=>by
  obtain⟨a,xs,rfl,i,g,_⟩:=Jz (K:=K) f c.fh;exact#[a,xs,rfl,.inl i,by rw[g.length];exact q j L _ c<|.int _]
def B5(h:Qq K ta Z (.tuple ds)):Qq K (tCB (Ga K)<|QM ta QT) Z (.int (ds.length:Int)):=λH0 F O H Q S q=>
 h H0 F O H _ S λj L v c f=>by
  obtain⟨a,xs,rfl,i,g,_⟩:=Dt (K:=K) f c.fh;exact#[a,xs,rfl,.inr i,by rw[g.length];exact q j L _ c<|.int _]
def Ai(e0:Z[i]?=some (some<|.scr ns)):Qq K (tCB (Ga K)<|QM (QF i) QT) Z (.int (ns.length:Int)):=λH0 F O H Q S q=>by
 obtain⟨g,h,_⟩:=S.fp;obtain⟨v,f,_,a,rfl,c⟩:=h i _ e0;exact#[_,f,a,ns.map V.int,rfl,.inl<|S.sub.seq c.sq,by rw[Xf];exact q F H _ (Q5.refl S.sub)<|.int _]
def Px(e0:Z[i]?=some (some<|.ol ds)):Qq K (tCB (Ga K)<|QM (QF i) QT) Z (.int (ds.length:Int)):=λH0 F O H Q S q=>by
 obtain⟨j,h,_⟩:=S.fp;obtain⟨v,g,a,rfl,_,_,xs,f,c⟩:=h i _ e0;exact#[_,g,a,xs,rfl,.inl<|SqL.of f,by rw[c.length];exact q F H _ (Q5.refl S.sub)<|.int _]
def Po(h:Qq K ta Z (.list ds)):Qq K (tCB (Kq K)<|QM ta QT) Z (.tuple ds):=λH0 F O H Q S q=>
 h H0 F O H _ S λs L v c i=>by
  obtain⟨a,xs,rfl,m,j,_⟩:=Jz (K:=K) i c.fh;refine#[a,xs,rfl,.inl #[m,λp g=>?_]];have f:=c.fh;exact q _ _ _ (c.trans<|Q5.new f g) (.tup QG<|j.mono<|Q6.new<|f.free g)
def MF(e0:Z[i]?=some (some<|.ol ds)):Qq K (tCB (Kq K)<|QM (QF i) QT) Z (.tuple ds):=λH0 F O H Q S q=>by
 obtain⟨m,h,_⟩:=S.fp;obtain⟨v,j,a,rfl,_,_,xs,g,f⟩:=h i _ e0;refine#[_,j,a,xs,rfl,.inl #[SqL.of g,λp c=>?_]];exact q _ _ _ (Q5.new S.sub c) (.tup QG<|f.mono<|Q6.new<|S.sub.free c)
def HR{ns:Ql}(h:Qq K ta Z (.list<|ns.map PyData.int))(g:X.calm=true):Qq K (tCB (RU X)<|QM ta QT) Z (.int ns.sum):=λH0 F O H Q S q=>
 h H0 F O H _ S λi L v c f=>#[g,v,ns,rfl,f.mono c.fh,q i L _ c<|.int _]
def U3(A:Qq K ta Z (.list as))(u:Qq K tb Z (.list bs))(t:as.length+bs.length<=1000):EvO K (tOp Hj ta tb) Z (.ol<|as++bs):=λH0 F O H Q S q=>
 YF A u S λP U x y e m j=>by
  obtain⟨a,xs,rfl,E,c,B⟩:=Jz (K:=K) m e.fh;obtain⟨b,ys,rfl,M,f,C⟩:=Jz (K:=K) j e.fh;refine#[a,b,xs,ys,rfl,rfl,B,C,by rw[c.length,f.length];exact Wr<|V7 t,λp s=>?_];obtain⟨i,h,g⟩:=BC e s (c.append f);exact q _ _ _ _ i h g
end
end L2
namespace L2
def QO(f:Qq K ta Z d)(c:Zp K t Z (fzs ds)):Zp K (QM ta t) Z (fzs (d::ds)):=Qv f c
def EvI.cast(h:EvI K wi Z ds)(e:ds=ds'):EvI K wi Z ds':=e▸h
def WX{b:Int}{m:Nat}(h:a=b)(c:m=n):Vy a m=Vy b n:=by rw[h,c]
def Pn{y:Int}(f:Qq K ta Z (.int x))(c:Qq K tb Z (.int y)):Qq K (tCB HQ<|QM ta<|QM tb QT) Z (.int<|max x y):=by
 have e:max x y=if y > x then y else x:=by split<;>lia
 rw[e];exact Ej f c
def Pa{y:Int}(f:Qq K ta Z (.int x))(c:Qq K tb Z (.int y)):Qq K (tCB HK<|QM ta<|QM tb QT) Z (.int<|min x y):=by
 have e:min x y=if y<x then y else x:=by split<;>lia
 rw[e];exact Eg f c
def M9{f:List (Option Nat)}{g:CIn->TG}{lo:Int}{n:Nat}{h:Nat->PyData}(s:EvI K wi Z (Vy lo n))(q:n<=1000)
(m:∀(x:Nat),x<n->∀c,∃i,GTo K (g c) (.int<|lo+(x:Int)) (JK f Z) i/\Qq K (tee c) i (h x)):EvO K (tLC f wi g (λ_=>UX) tee) Z (.ol<|(List.range n).map h):=
 YC s (by simpa using q) λx j c=>m x (X6.mp j) c
def Qq.cast(h:Qq K t Z d)(e:d=d'):Qq K t Z d':=e▸h
def EvO.cast(h:EvO K t Z d)(e:d=d'):EvO K t Z d':=e▸h
def QN.cast(h:QN K t Z d)(e:d=d'):QN K t Z d':=e▸h
def MA(K:W.Frag):Sp:=λc H Q _=>∃(a:Addr) (f:Ql),c=[.ref a]/\KTs K H/\Scr K H a f/\∀U,Q (.bl true) U
def Fun.evLaw{w:World}{base:Heap}{x p:Str}{st:Stmt}{f:Addr}{N:Qh}{k:Nat}(F:Fun K x qual st f fd)(S:Qo N [p] (Q3 st))
(y:∀ns:Ql,ns.length<=63->(∀i∈ns,Builtin.Int.intBits i<=2^20)->∀H c,B0 P w K mg base N qual st k f H c λt=>QE K t (some (.scr ns)::List.replicate (N.length-1) none) { nx:=λ_=>False,rt:=λr=>r=.fz (.bool true) }):FnOk P w K mg base CX0 (k+1) f fd [p] (MA K):=by
 refine F.ok S (by rintro M H Q c ⟨a,ns,e,_⟩;rw[e];rfl) ?_;rintro M H Q c ⟨a,ns,e,X,g,q⟩ m A outer s Y;subst e;obtain⟨t,b,Z⟩:=y ns g.len g.bits H c m A outer s Y;refine#[t,b,Z H H H _ H _ (Q5.refl<|Q6.refl _) #[X,Q6.refl _,?_,λ_=>[],λi l e=>?_,λi j a h=>(nomatch h),λi a h=>(nomatch h)] #[λd B U C E _ e=>False.elim e,λd U v n p E o W e=>?_,λ_ _ _ _ _ _ z=>False.elim z,λ_ _ _ _ _ _ z=>False.elim z]]
 .unfold start;simp
 .cases i with
  |zero=>
   simp at e;subst e;exact#[_,rfl,rfl,a,rfl,g]
  |succ i=>
   rw[List.getElem?_cons_succ]at e;have:=List.mem_of_getElem? e;simp at this
 .subst e;obtain⟨_,r⟩:=W;cases r;exact q U
def Z4 : Zp K QT Z (fzs []):=Q1
def z62:(2:Int)^62=4611686018427387904:=by decide
def VP{f:Addr} : (Jg CX P w K mg base N q sc f cd A o s H pos).nox.K=K:=rfl
def Zr3{c:CIn}:(Vf X N sc c).K=X.K:=rfl
end L2
namespace L2
def EvP(K:W.Frag)(t:TO)(Z:Zcs)(o:Option Int):Prop := ∀(H0 F:Hp) (O:St) (H:Hp) (Q:Option Int->Hp->Prop),QL K H0 F Z O H->(∀c U,Q5 F H c U->Q o U)->t O H Q
def YI:EvP K KC Z none:=λH0 F O H Q S q=>q F H (Q5.refl S.sub)
def YH{i:Int}(h:Qq K te Z (.int i)):EvP K (HL te) Z (some i):=λH0 F O H Q S q=>h H0 F O H _ S λg L v c f=>by cases f;exact#[i,rfl,q g L c]
noncomputable def cut{c:Type}(xs:List c)(lo f:Option Int):List c:=(xs.drop<|HT.sIx xs.length 0 lo).take (HT.sIx xs.length xs.length f-HT.sIx xs.length 0 lo)
theorem Q0.drop{F:Hp}:∀{xs:List V} {ds:Qd} (n:Nat),Q0 F xs ds->Q0 F (xs.drop n) (ds.drop n)
 |_,_,0,r=>r
 |_,_,_+1,.nil=>.nil
 |_,_,n+1,.cons _ t=>Q0.drop n t
theorem Q0.take{F:Hp}:∀{xs:List V} {ds:Qd} (n:Nat),Q0 F xs ds->Q0 F (xs.take n) (ds.take n)
 |_,_,0,_=>.nil
 |_,_,_+1,.nil=>.nil
 |_,_,n+1,.cons r t=>.cons r (Q0.take n t)
def O9(r:Q0 F xs ds)(lo c:Option Int):Q0 F (UT xs lo c) (cut ds lo c):=by
 unfold UT cut;rw[r.length];exact(r.drop _).take _
def YD{th:TO}{lo g:Option Int}(h:Qq K te Z (.list ds))(C:EvP K tl Z lo)(B:EvP K th Z g):EvO K (tSl (RV K) te tl th) Z (.ol<|cut ds lo g):=λH0 F O H Q S q=>
 h H0 F O H _ S λX L v f y=>C H0 X O L _ (S.ext f) λW P c=>B H0 W O P _ (S.ext<|f.trans c) λd b i=>by
  have x:=f.trans (c.trans i);obtain⟨a,xs,rfl,M,E,Y⟩:=Jz (K:=K) (y.mono (c.trans i).ff) x.fh;refine#[a,xs,rfl,M,λp A=>?_];obtain⟨s,m,j⟩:=BC (K:=K) x A (O9 E lo g);exact q _ _ _ _ s m j
end L2
namespace L2
def Uz(as:Qd):Qd:=as.zipIdx.map λp=>PyData.tuple [.int (p.2:Int),p.1]
def BS(as:Qd):(Uz as).length=as.length:=by simp[Uz]
def BQ(e:(Uz as)[i]?=some d):∃a,as[i]?=some a/\d=.tuple [.int (i:Int),a]:=by
 unfold Uz at e;rw[Xy,List.getElem?_zipIdx]at e;cases z:as[i]? with
 |none=>rw[z]at e;cases e
 |some a=>rw[z]at e;simp at e;exact#[a,rfl,e.symm]
def ZoL{H:Hp}(r:Rep F x (.list ds)):∃a xs,x=.ref a/\F a=some (.lst xs)/\Q0 F xs ds:=by
 cases r with
 |lst f c=>exact#[_,_,rfl,f,c]
def B6(h:Zp K t Z [.fz<|.list as]):EvI K (Pi K t) Z (Uz as):=λH0 F O H R S q=>
 h H0 F O H _ S λb L k m f=>by
  cases f with
  |fz r f=>
   cases f;obtain⟨a,xs,rfl,B,y⟩:=ZoL (H:=L) r;refine#[a,rfl,#[xs,SqL.of<|m.fh _ _ B],q b L _ m λM Y s c=>?_];have g:SqL K Y a xs:=SqL.of (c _ _<|s _ _ B);refine#[#[xs,g,by rw[BS,y.length]],λi d e=>?_];obtain⟨l,X,rfl⟩:=BQ e;obtain⟨j,C,W⟩:=y.get X;refine#[#[xs,j,g,C],λv n P=>?_];obtain⟨p,x,A,rfl,rfl,k1⟩:=P;have E:=k1 xs g;rw[C]at E;cases E;have sn:Q6 M (upd M p<|.tup [.int<|i,j]):=Q6.new (c.free A);exact#[_,Q5.new c A,.tup QG<|.cons (.int _)<|.cons ((W.mono s).mono sn) .nil]
def Bx{bs:List Bool}(h:Qq K ta Z (.list<|bs.map PyData.bool))(g:X.calm=true):Qq K (tCB (Se X)<|QM ta QT) Z (.bool<|bs.all id):=λH0 F O H Q S q=>
 h H0 F O H _ S λi L v c f=>#[g,v,bs,rfl,f.mono c.fh,q i L _ c<|.bl _]
def E8(h:Qq K ta Z (.list<|ns.map PyData.int))(g:X.calm=true)(hn:ns≠[]):Qq K (tCB (Pe X)<|QM ta QT) Z (.int<|Wg ns):=λH0 F O H Q S q=>
 h H0 F O H _ S λi L v c f=>#[g,v,ns,rfl,f.mono c.fh,hn,q i L _ c<|.int _]
noncomputable def GY:OT->Option PyData
 |.fz d=>some d
 |.ol ds=>some (.list ds)
 |.oll c=>some (.list<|c.map PyData.list)
 |.scr _=>none
 |.own _ _=>none
 |.zow _=>none
def frF(F H:Hp)(p:Qg):Hp:=λb=>if b∈p then H b else F b
def Jr{b:Addr}(h:b∈p):frF F H p b=H b:=by unfold frF;rw[Xi h]
def Js{b:Addr}(h:b∉p):frF F H p b=F b:=by unfold frF;rw[Xg h]
def WW(h:∀a∈p,F a=none):Q6 F (frF F H p):=λb u e=>by
 rw[Js λz=>by rw[h b z]at e;cases e];exact e
def Da(s:Q6 F H):Q6 (frF F H p) H:=λb u e=>by
 by_cases z:b∈p
 .rw[Jr z]at e;exact e
 .rw[Js z]at e;exact s b u e
theorem LQ{F f H:Hp}(g:Q6 F f):∀{as:Qg} {c:List (Qd)},Vb F H as c->(∀a∈as,f a=H a)->Q0 f (as.map V.ref) (c.map PyData.list)
 |[],[],_,_=>.nil
 |a::as,ds::c,h,i=>by
  obtain⟨⟨y,xs,s,q⟩,m⟩:=h;exact .cons (.lst (by rw[i a Xb];exact s)<|q.mono g) (LQ g m λb j=>i b<|Xe _ j)
 |[],_::_,h,_=>False.elim h
 |_::_,[],h,_=>False.elim h
def Zx.frz(c:Zx K F H v t p)(e:GY t=some d):Rep (frF F H p) v d:=by
 have f:Q6 F (frF F H p):=WW λa j=>(c.there a j).1
 cases t with
 |fz E=>cases e;exact c.2.mono f
 |ol ds=>
  cases e;obtain⟨a,rfl,rfl,m,xs,h,g⟩:=c;exact .lst (by rw[Jr Xb];exact h) (g.mono f)
 |oll q=>
  cases e;obtain⟨a,M,rfl,rfl,C,m,h,g⟩:=c;exact .lst (by rw[Jr Xb];exact h) (LQ f g λb i=>Jr<|Xe _ i)
 |scr B=>cases e
 |own A y=>cases e
 |zow s=>cases e
def QL.frz(s:QL K H0 F Z O H)(e:Z[i]?=some (some t))(h:∀v p,Zx K F H v t p->Zx K (frF F H p) H v t' []):
 ∃p,(∀a∈p,F a=none/\H a≠none/\H0 a=none)/\QL K H0 (frF F H p) (Z.set i<|some t') O H:=by
 obtain⟨v,p,m,j,f,k⟩:=s.chg e;refine#[p,λa c=>#[(f a c).2.1,(f a c).2.2,(f a c).1],(k _ H t' [] (WW λa c=>(f a c).2.1) (Da s.sub) (λ_ _ _=>rfl) (λb g=>?_) (h v p j)<|by rintro b ⟨⟩).1]
 by_cases z:b∈p
 .exact .inr (.inr z)
 .rw[Js z]at g;exact .inl g
def QL.freezeG(s:QL K H0 F Z O H)(e:Z[i]?=some (some t))(f:GY t=some d):
 ∃p,(∀a∈p,F a=none/\H a≠none/\H0 a=none)/\QL K H0 (frF F H p) (Z.set i<|zf d) O H:=s.frz e λv p c=>#[rfl,c.frz f]
def Ax(i:Nat)(e:Z[i]?=some (some r))(m:GY r=some d)(h:QE K t (Z.set i<|zf d) dx):QE K t Z dx:=λF0 H0 F O H f x S C=>by
 obtain⟨p,g,j⟩:=S.freezeG e m;refine h F0 H0 _ O H f #[x.hh,x.ff.trans<|WW λa c=>(g a c).1,j.sub,λa c=>?_] j C
 by_cases z:a∈p
 .exact .inr (g a z).2.2
 .rw[Js z]at c;exact x.fr a c
def BG(g:∀a∈p,F a=none/\H a≠none)(x:Q5 (frF F H p) H F' U):Q5 F H (λb=>if b∈p then none else F' b) U:=
 #[x.hh,λb u c=>by
  have f:b∉p:=λz=>by rw[(g b z).1]at c;cases c
  simp only[Xg f];exact x.ff b u<|by rw[Js f];exact c,λb u c=>by
  by_cases z:b∈p
  .simp_all
  .simp only[Xg z]at c;exact x.fh b u c,λb c=>by
  by_cases z:b∈p
  .simp_all
  .simp only[Xg z]at c;rcases x.fr b c with y|y
   .rw[Js z]at y;exact .inl y
   .exact .inr y]
def Zs6(i:Nat){b:Bool}(e:Z[i]?=some (some r))(g:GY r=some d0)(h:QN K t (Z.set i<|zf d0) b):QN K t Z b:=λH0 F O H Q S q=>by
 obtain⟨p,c,j⟩:=S.freezeG e g;exact h H0 _ O H Q j λm U x=>q _ U (BG (λa f=>#[(c a f).1,(c a f).2.1]) x)
def Bu(ds:Qd):Prop := ∀d∈ds,∃w,V4 d=some w
theorem Q0.flats{F g:Hp}:∀{xs:List V} {ds:Qd},Bu ds->Q0 F xs ds->Q0 g xs ds
 |_,_,_,.nil=>.nil
 |_::_,d::_,h,.cons r t=>by
  obtain⟨w,e⟩:=h d Xb;refine .cons ?_ (Q0.flats (λc f=>h c<|Xe _ f) t);cases r<;>simp[V4]at e
  .exact .non
  .exact .bl _
  .exact .int _
  .exact .str _
end L2
namespace L2
theorem Vb.snoc{F H:Hp}{b:Addr}{ds:Qd}:∀{as:Qg} {c:List (Qd)},Vb F H as c->Yr F H b ds->Vb F H (as++[b]) (c++[ds])
 |[],[],_,h=>⟨h,trivial⟩
 |_::_,_::_,h,f=>⟨h.1,Vb.snoc h.2 f⟩
 |[],_::_,h,_=>False.elim h
 |_::_,[],h,_=>False.elim h
theorem Vb.length{F H:Hp}:∀{as:Qg} {c:List (Qd)},Vb F H as c->as.length=c.length
 |[],[],_=>rfl
 |_::_,_::_,h=>by simp[Vb.length h.2]
 |[],_::_,h=>False.elim h
 |_::_,[],h=>False.elim h
def PP{u:Type}{f:List (Option Nat)}{I:TI}{g:CIn->TG}{k:CIn->TE}{xs:List u}{enc:u->PyData}{h:u->Qd}(hi:EvI K I Z (xs.map enc))(hl:xs.length<=1000)
(hs:∀x∈xs,∀c,∃C,GTo K (g c) (enc x) (JK f Z) C/\EvO K (k c) C (.ol<|h x)):EvO K (tLC f I g (λ_=>UX) k) Z (.oll<|xs.map h):=λH0 F O H Q S q=>
 hi H0 F O H _ S λF1 L J Y W c=>by
  have hn:=Wr (V7 hl);refine#[λi m ys H=>m=xs.length-i/\i<=xs.length/\∃r B,Q5 F1 L r H/\ys=B.map V.ref/\B.Nodup/\(∀a∈B,L a=none)/\Vb r H B ((xs.take i).map h),#[xs.length,by simp,XN _,F1,[],Q5.refl Y.fh,rfl,by simp,λa P=>(nomatch P),trivial],?_];rintro i m ys U ⟨rfl,hle,r,B,s,rfl,N,l,E⟩;obtain⟨w1,w2⟩:=W r U s.ff s.fh
  by_cases A:i<xs.length
  .have e:(xs.map enc)[i]?=some (enc xs[i]):=by simp[A]
   obtain⟨go,yl⟩:=w2 i _ e;refine .inr #[go,λv D y=>?_];obtain⟨F3,X,r3⟩:=yl v D y;obtain⟨C,k1,k2⟩:=hs xs[i] (X7 A) c;have S3:=(S.ext<|Y.trans<|s.trans X).inner f;have tk:xs.take (i+1)=xs.take i++[xs[i]]:=by rw[Ud];simp[A]
   have ol:=E.length;refine k1 H0 F3 _ D v _ S3 r3 λt S4=>?_;dsimp only[UX];refine k2 H0 F3 t D _ S4 λF5 H5 z p G T ok=>#[?_,xs.length-(i+1),#[],rfl,A,F5,B++[?_],s.trans<|X.trans G,?_,?_,?_,?_]
   .rw[Xf,ol,Xf,DV];lia
   .exact(match z with|.ref b=>b|_=>0)
   all_goals obtain⟨b,rfl,rfl,o1⟩:=ok
   .simp
   .rw[Md];refine#[N,by simp,λn j d hd=>?_];have w:=by simpa using hd
    subst w;intro z;subst z;have M:=T n Xb;have:=(E.mem n j).2;obtain⟨o,ho⟩:=KJ this;rw[X.hh _ _ ho]at M;cases M
   .intro n j;rcases Xq.mp j with j|j
    .exact l n j
    .have:=by simpa using j
     subst this;exact(s.trans X).hh.free (T n Xb)
   .rw[tk,Xx];exact(E.ext<|X.trans G).snoc o1
  .have e:i=xs.length:=#[]
   subst e;refine .inl #[by simpa using w1,λa P=>?_];rw[J5]at E;have R:=λz=>(E.mem a z).2 P;refine q r _ _ (a::B) ((Y.trans s).trans (Q5.own s.fh P)) (λb M=>?_) #[a,B,rfl,rfl,XM.mpr #[R,N],s.fh.free P,QG,E.other R]
   rcases Xc.mp M with rfl|M
   .exact(Y.trans s).hh.free P
   .exact Y.hh.free (l b M)
end L2
namespace L2
def ZC{a b c}:starEach (.Constant a b c::es) env=(false,eval (.Constant a b c) env)::starEach es env:=by rfl
def OR{a b c d}:starEach (.BinOp a b c d::es) env=(false,eval (.BinOp a b c d) env)::starEach es env:=by rfl
def Iu{a b c}:starEach (.Dict a b c::es) env=(false,eval (.Dict a b c) env)::starEach es env:=by rfl
def Gx{a b}:starEach (.Name a b::es) env=(false,eval (.Name a b) env)::starEach es env:=by rfl
def IM{a b}:starEach (.List a b::es) env=(false,eval (.List a b) env)::starEach es env:=by rfl
def Zrx{a b c}:starEach (.Tuple a b c::es) env=(false,eval (.Tuple a b c) env)::starEach es env:=by rfl
structure PAb(X:Cx)(es:Qi)(t:TA):Prop where
 h:PA X es t
section
variable {e:Expr}{t:TA}
def Bz:PAb X [] QT:=#[Qr]
def Z9(g:PE X e te)(f:PAb X es t)(c:zs X e es):PAb X (e::es) (QM te t):=#[Qs g f.h c]
def B9(h:PAb X es t):PE X (.List es E) (UZ t):=ZM h.h
end
def El : Qq K PU Z (.dict []):=λH0 F O H Q S q p f=>by
 have c:=S.sub;exact q _ _ _ (Q5.new c f) (.dct QG)
end L2
namespace PySem
section
variable {w:World}{K:Type} [DecidableEq K] (knd:KeyKind prog w K)
def Y4(h:Heap)(c:List K×List K)(a:Addr):Prop := ∃o n p q,h.get? a=some o/\o.cls=.type "tuple" /\ o.data=.seq (List.toArray [.ref p,.ref q]) n/\IsTupleKey knd h c.1 p/\IsTupleKey knd h c.2 q
variable {knd}
def Y4.typeIs  (x:Y4 knd s.heap ks a):s.TypeIs (.ref a) "tuple" := let ⟨o,_,_,_,ho,hc,_⟩:=x;#[o,ho,hc]
def Y4.inj{y:List K×List K}(s:Y4 knd h x a)(m:Y4 knd h y a):x=y:=by
 obtain⟨o,n,p,q,w,_,A,C,B⟩:=s;obtain⟨P,W,M,E,f,_,c,i,g⟩:=m;cases Option.some.inj (w.symm.trans f);rw[A]at c;injection c with z _;have j:=Xz Array.toList z;simp at j;obtain⟨rfl,rfl⟩:=j;exact Prod.ext (C.inj i) (B.inj g)
def Y4.keeps{es ep}(x:Y4 knd h ks a)(j:h.get? d=some o)(m:o.data=.dict es ep)(c:Heap.SameBut d h h'):Y4 knd h' ks a:=by
 obtain⟨s,n,p,q,f,w,i,A,y⟩:=x;have g:a≠d:=λz=>by
  grind
 exact#[s,n,p,q,(c.2 a g).trans f,w,i,A.keeps j m c,y.keeps j m c]
noncomputable def Nk(knd:KeyKind prog w K)(ks:List K×List K):Int:=reduceHash (Builtin.Tuple.tupleHashOf [tupleKeyHash knd ks.1,tupleKeyHash knd ks.2])
variable {pos:Qb}
def Zgm(M:A.units+5<cLine)(m:Y4 knd s.heap ks a)(h:Q (Nk knd ks) { s with toks:=s.toks+(ks.1.length+ks.2.length+3) }):
 wpAny (model prog w) A (pyHash<|.ref a) Q pos s:=by
 have hT:=m.typeIs;obtain⟨o,n,p,q,y,_,B,E,C⟩:=m;refine Xa (wpAny_cRoomFor_or (.inr<|#[]) ?_);refine Xa (wpAny_specialOf hT F.slot_tuple_hash.lookup ?_);refine Xa (wpAny_specialOf hT F.slot_tuple_hash.lookup ?_);refine Xa (wpAny_callSpecialIfBoundUnlessNone?_slot hT F.slot_tuple_hash<|wpAny_call_entry F.slot_tuple_hash hT F.entry_tuple_hash ?_<|F.args_tuple_hash_1 _);show wpAny _ _ (Builtin.Tuple.tupleItemsOf (.ref a) >>= _) _ _ s;refine Xa (wpAny_tupleItemsOf y B ?_);refine Xa ?_
 rw[<- Array.forIn_toList];refine wpAny_forIn_list _
  (λrest (b) f=>(rest=[.ref p,.ref q]/\b.toList=[]/\f=s)\/(rest=[.ref q]/\b.toList=[tupleKeyHash knd ks.1]/\f={ s with toks:=s.toks+(ks.1.length+1) }) \/
   (rest=[]/\b.toList=[tupleKeyHash knd ks.1,tupleKeyHash knd ks.2]/\f={ s with toks:=s.toks+(ks.1.length+1)+(ks.2.length+1) }))
  _ ?_ ?_ _ _ (.inl #[rfl,rfl,rfl])
 .rintro x rest b f (⟨c,g,rfl⟩|⟨c,g,rfl⟩|⟨c,_⟩)
  .injection c with j i;subst j i;refine Xa (wpAny_pyHash_tuple ?hu1 E ?_)
   case hu1=>show A.units+1<cLine;lia
   exact Xm (.inr<|.inl #[rfl,by simp[g],rfl])
  .injection c with j i;subst j i;refine Xa (wpAny_pyHash_tuple ?hu2 C ?_)
   case hu2=>show A.units+1<cLine;lia
   exact Xm (.inr<|.inr #[rfl,by simp[g],rfl])
  .cases c
 .rintro b f (⟨c,_⟩|⟨c,_⟩|⟨_,g,rfl⟩)
  .cases c
  .cases c
  show wpAny _ _ (retInt<|Builtin.Tuple.tupleHashOf b.toList) _ _ _;rw[g];refine wpAny_ret_mkInt ?_;show wpAny _ _ (if _=true then _ else _) Q pos _;unfold Nk reduceHash at h;have K:s.toks+(ks.1.length+ks.2.length+3)=s.toks+(ks.1.length+1)+(ks.2.length+1)+1:=#[]
  rw[K]at h;split
  .rename_i c;rw[Xi c]at h;exact Xm h
  .rename_i c;rw[Xg c]at h;exact Xa (wpAny_rule<|Xm h)
def ZjL{y:List K×List K}{b:Addr}{P:Fin->Shared->Prop}(T:A.units+1<cLine)(D:Y4 knd s.heap x a)(n:Y4 knd s.heap y b)(h:P (.done<|.ret<|.bool<|decide (x=y)) s):
 wpAny (model prog w) A (Builtin.«tuple.__eq__» #[[.ref a,.ref b],[]]) P pos s:=by
 have k:=n.typeIs;obtain⟨Q,S,p,q,E,_,W,d,Z⟩:=D;obtain⟨O,R,z,l,C,_,M,Y,X⟩:=n;show wpAny _ _ (isInstance (.ref b) (.type "tuple") >>= _) _ _ s;refine Xa (wpAny_isInstance k isSubtype_tuple_tuple ?_);refine Xa (wpAny_tupleItemsOf E W ?_);refine Xa (wpAny_tupleItemsOf C M ?_);refine Xa ?_
 have t:decide (x=y)=(decide (x.1=y.1)&&decide (x.2=y.2)):=by
  obtain⟨J,I⟩:=x;obtain⟨H,G⟩:=y;simp
 refine wpAny_forIn_list _
  (λrest r B=>r.1=none/\B=s/\((rest=[(.ref p,.ref z),(.ref q,.ref l)])\/(rest=[(.ref q,.ref l)]/\x.1=y.1)\/(rest=[]/\x=y)))
  _ ?_ ?_ _ _ #[rfl,rfl,.inl rfl]
 .rintro⟨u,v⟩ rest r B ⟨o,rfl,(c|⟨c,F⟩|⟨c,_⟩)⟩
  .injection c with m j;injection m with i g;subst j i g;refine Xa (wpAny_eqBool_tuple #[] d Y ?_)
   by_cases f:x.1=y.1
   .rw[XH f];simp only[ if_false];exact Xm #[rfl,rfl,.inr<|.inl #[trivial,f]]
   .rw[XD f];rw[t,XD f]at h;exact Xa (Xm<|Xm<|Xm h)
  .injection c with m j;injection m with i g;subst j i g;refine Xa (wpAny_eqBool_tuple #[] Z X ?_)
   by_cases f:x.2=y.2
   .rw[XH f];simp only[ if_false];exact Xm #[rfl,rfl,.inr<|.inr #[trivial,Prod.ext F f]]
   .rw[XD f];rw[t,XD f,Bool.and_false]at h;exact Xa (Xm<|Xm<|Xm h)
  .cases c
 .rintro⟨N,L⟩ B ⟨o,rfl,(c|⟨c,_⟩|⟨_,e⟩)⟩
  .cases c
  .cases c
  subst o;refine Xm ?_;rw[XH e]at h;exact h
def Zg4{y:List K×List K}{b:Addr}(i:A.units+5<cLine)(f:Y4 knd s.heap x a)(g:Y4 knd s.heap y b)(h:Q (decide (x=y)) s):
 wpAny (model prog w) A (eqBool (.ref a)<|.ref b) Q pos s:=by
 unfold eqBool;try with_reducible refine wpAny_holding ?_
 by_cases c:(Value.ref a==Value.ref b)=true
 .rw[Xi c];have e:=by have:=eq_of_beq c;injection this
  subst e;cases f.inj g;exact Xa (wpAny_rule<|Xm<|by simpa using h)
 .rw[Xg c];exact Xa (wpAny_richCompare_same_room f.typeIs g.typeIs F.slot_tuple_eq
   (wpAny_call_entry F.slot_tuple_eq f.typeIs F.entry_tuple_eq (ZjL (by simp;lia) f g #[_,rfl,(by rintro⟨⟩),wpAny_truthy_bool h])<|F.args_tuple_eq_2 _ _) #[])
def ZlE(n:Nat)(q:IsTupleKey knd s.heap ks a)(h:Q true s):wpAny (model prog w) A (eqIsQuiet (n+1)<|.ref a) Q pos s:=by
 have hT:=q.typeIs;obtain⟨o,g,m,y,_,C,B⟩:=q;unfold eqIsQuiet;refine Xa (wpAny_specialOf hT F.slot_tuple_eq.lookup ?_);refine Xa (wpAny_isInstance hT isSubtype_tuple_tuple ?_);refine Xa (wpAny_seqItems y C ?_);refine Xa ?_;rw[<- Array.forIn_toList];refine wpAny_forIn_list _ (λrest r f=>r.1=none/\f=s/\∀v∈rest,carriedByValue v=true) _ ?_ ?_ _ _ #[rfl,rfl,B.byValue]
 .rintro v rest r f ⟨j,rfl,c⟩;rw[eqIsQuiet_byValue _<|c v Xb];exact Xm #[rfl,rfl,λu i=>c u<|Xe _ i]
 .rintro⟨K,E⟩ f ⟨j,rfl,_⟩;subst j;exact Xm h
def Zfh(y:Y4 knd s.heap ks a)(h:Q true s):wpAny (model prog w) A (eqIsQuiet 8<|.ref a) Q pos s:=by
 have hT:=y.typeIs;obtain⟨o,n,p,q,C,_,E,M,K⟩:=y;unfold eqIsQuiet;refine Xa (wpAny_specialOf hT F.slot_tuple_eq.lookup ?_);refine Xa (wpAny_isInstance hT isSubtype_tuple_tuple ?_);refine Xa (wpAny_seqItems C E ?_);refine Xa ?_;rw[<- Array.forIn_toList];refine wpAny_forIn_list _ (λrest r g=>r.1=none/\g=s/\∀v∈rest,∃z j,v=.ref z/\IsTupleKey knd s.heap j z) _ ?_ ?_ _ _ #[rfl,rfl,λv f=>?_]
 .rintro v rest r g ⟨m,rfl,c⟩;obtain⟨z,j,rfl,B⟩:=c v Xb;refine Xa (ZlE 6 B ?_);exact Xm #[rfl,rfl,λu i=>c u<|Xe _ i]
 .rintro⟨W,P⟩ g ⟨m,rfl,_⟩;subst m;exact Xm h
 .rcases Xc.mp f with rfl|f
  .exact#[p,_,rfl,M]
  .rcases Xc.mp f with rfl|f
   .exact#[q,_,rfl,K]
   .cases f
end
noncomputable def Nj{prog:Program}{w:World}{K:Type}[DecidableEq K](knd:KeyKind prog w K):HeapKind prog w (List K×List K) where
 is:=Y4 knd
 hash:=Nk knd
 draws:=λj=>j.1.length+j.2.length+3
 room:=λA=>A.units+5<cLine
 inj:=λf c=>f.inj c
 keeps:=λx q hd m=>x.keeps q hd m
 pyHash:=λg i h=>Zgm g i h
 eqBool:=λg f c h=>Zg4 g f c h
 quiet:=λi h=>Zfh i h
section
variable {w:World}{K:Type} [DecidableEq K] {knd:HeapKind prog w K}{pos:Qb}
def ZdM{d a:Addr}{xs:List (K×Addr×Value)}{k:K}{f:Value}{Q:Qb}(M:knd.room A)(c:knd.is s.heap k a)(X:s.heap.DictOfH knd d xs)
(g:∀p,atKey xs k=some p->Q p.2 { s with toks:=s.toks+knd.draws k })
(y:atKey xs k=none->∀h',h'.DictOfH knd d (xs++[(k,a,f)])->Heap.SameBut d s.heap h'->Q f { s with heap:=h',toks:=s.toks+knd.draws k })
(hsz:xs.length<=sizeLine):
 wpAny (model prog w) A (dictSetDefault d (.ref a) f) Q pos s:=by
 obtain⟨o,es,Z,m,Y,h,C,B,E⟩:=X;unfold dictSetDefault;try with_reducible refine wpAny_holding ?_;refine Xa (knd.pyHash M c ?_);refine Xa (wpAny_dictFind_heap M c m h C B E ?_ ?_)
 .intro q;have P:=not_mem_keys_of_get q;refine Xa (wpAny_rule (Xa (wpAny_updateDictKeys (hz:=by have e:=size_of_entries C;lia) m h (Xm (y (atKey_none_of_get q) _ #[_,_,Z+1,Ja _ m<|Obj.isFreed_of_dict<|Obj.data_mapDictKeys h _,
   Y.mapDictKeys _,Obj.data_mapDictKeys h _,?_,?_,?_]<|Heap.SameBut.update ..)))))
  .simp[C,entryOfKey]
  .intro x i;rcases Xq.mp i with i|i
   .exact knd.keeps (B x i) m h (Heap.SameBut.update ..)
   .simp only[Xj]at i;subst i;exact knd.keeps c m h (Heap.SameBut.update ..)
  .rw[Xx,Md];refine#[E,by simp,?_]
   grind
 .intro j p W;refine Xa (wpAny_dictEntries m h ?_);rw[entry_at C j,W];exact Xa (wpAny_rule<|Xm<|g _<|atKey_of_get E W)
def Ze2(knd:HeapKind prog w K)(d a:Addr)(B:(d==sysModules)=false)(c:Value):
 MeetsIn prog w (Builtin.«dict.setdefault» #[[.ref d,.ref a,c],[]]) (λA R s=>knd.room A.in1/\∃k xs,knd.is s.heap k a/\s.heap.DictOfH knd d xs/\xs.length<=sizeLine/\
  (∀p,atKey xs k=some p->R (.ok<|.ret p.2) { s with toks:=s.toks+knd.draws k })/\
  (atKey xs k=none->∀h',h'.DictOfH knd d (xs++[(k,a,c)])->Heap.SameBut d s.heap h'->R (.ok<|.ret c) { s with heap:=h',toks:=s.toks+knd.draws k })):=
 .of_wp λA R s ⟨m,k,xs,f,i,j,E,C⟩=>by
  refine Xa ?_;refine Xa (wpAny_notOrdered_dict i.typeIs ?_);refine Xm ?_;show wpAny _ _ (if _=true then _ else _) _ _ s;rw[Xg<|by rw[B];exact XA];exact Xa (ZdM m f i (λp q=>Xm #[p.2,rfl,E p q]) (λy h' h g=>Xm #[c,rfl,C y h' h g]) j)
end
end PySem
namespace L2
section
variable {κ:Type} [DecidableEq κ]
noncomputable def ZA(kvs:List (κ×V))(k:κ):Option V:=(kvs.find? λc=>decide (c.1=k)).map (·.2)
noncomputable def Yh(kvs:List (κ×V))(k:κ)(v:V):List (κ×V):=
 if (kvs.any λc=>decide (c.1=k))=true then kvs.map (λc=>if c.1=k then (c.1,v) else c) else kvs++[(k,v)]
def Wm{p:κ×V}(e:p.1=k):ZA (p::r) k=some p.2:=by simp[ZA, e]
def Wl{p:κ×V}(e:¬p.1=k):ZA (p::r) k=ZA r k:=by simp[ZA, e]
theorem LL(k:κ):∀kvs:List (κ×V),(kvs.any λc=>decide (c.1=k))=(ZA kvs k).isSome
 |[]=>rfl
 |p::r=>by
  rw[List.any_cons];by_cases e:p.1=k
  .simp only[Wm e,XH e,Bool.true_or,Option.isSome_some]
  .rw[Wl e,XD e];exact LL k r
theorem FD(k j:κ)(y:V):∀kvs:List (κ×V),ZA kvs k=none->ZA (kvs++[(k,y)]) j=if j=k then some y else ZA kvs j
 |[],_=>by
  by_cases e:k=j
  .rw[Xi e.symm];exact Wm e
  .rw[Xg λz=>e z.symm];exact Wl e
 |p::r,c=>by
  rw[J4];have f:¬p.1=k:=λz=>by rw[Wm z]at c;cases c
  rw[Wl f]at c;have g:=FD k j y r c
  by_cases e:p.1=j
  .rw[Wm e,Wm e,Xg λz=>f<|e.trans z]
  .rw[Wl e,Wl e,g]
def Cd(kvs:List (κ×V))(k:κ)(v:V):(Yh kvs k v).length<=kvs.length+1:=by
 unfold Yh;split
 .simp_all
 .simp_all
def Vk.isSome_eq(r:Vk o u):o.isSome=u.isSome:=by
 cases o with
 |none=>cases u with
  |none=>rfl
  |some _=>exact(r).elim
 |some _=>cases u with
  |none=>exact(r).elim
  |some _=>rfl
def Vk.getD(r:Vk o u)(c:QR d d'):QR (o.getD d) (u.getD d'):=by
 cases o with
 |none=>cases u with
  |none=>exact c
  |some _=>exact(r).elim
 |some _=>cases u with
  |none=>exact(r).elim
  |some _=>exact r
def KV.val(r:KV kvs vs)(k:κ):Vk (ZA kvs k) (valueAt vs k):=by
 induction r with
 |nil=>exact True.intro
 |@cons p q ps c h t i=>
  obtain⟨g,j⟩:=h
  by_cases e:p.1=k
  .have f:=g.symm.trans e;have b:valueAt (q::c) k=some q.2:=by simp[valueAt, f]
   rw[Wm e,b];exact j
  .have f:¬q.1=k:=λz=>e (g.trans z)
   have b:valueAt (q::c) k=valueAt c k:=by simp[valueAt, f]
   rw[Wl e,b];exact i
def KV.any(r:KV kvs vs)(k:κ):(kvs.any λc=>decide (c.1=k))=vs.any λc=>decide (c.1=k):=by
 induction r with
 |nil=>rfl
 |cons h t f=>rw[List.any_cons,List.any_cons,f,h.1]
def KV.repl(r:KV kvs vs)(k:κ)(g:QR y u):
 KV (kvs.map λc=>if c.1=k then (c.1,y) else c) (vs.map λc=>if c.1=k then (c.1,u) else c):=by
 induction r with
 |nil=>exact .nil
 |@cons p q ps m h t i=>
  rw[Xv,Xv];refine .cons ?_ i;obtain⟨f,j⟩:=h
  by_cases e:p.1=k
  .rw[Xi e,Xi<|f.symm.trans e];exact#[f,g]
  .rw[Xg e,Xg λz=>e<|f.trans z];exact#[f,j]
def KV.put(r:KV kvs vs)(k:κ)(c:QR y u):KV (Yh kvs k y) (stored vs k u):=by
 unfold Yh stored;rw[r.any k];by_cases e:(vs.any λf=>decide (f.1=k))=true
 .rw[Xi e,Xi e];exact r.repl k c
 .rw[Xg e,Xg e];exact Paired.snoc r #[rfl,c]
def KV.keys{kvs:List (κ×V)}{vs:List (κ×Value)}(r:KV kvs vs):kvs.map (·.1)=vs.map (·.1):=by
 induction r with
 |nil=>rfl
 |cons h t c=>rw[Xv,Xv,c,h.1]
def KV.length{kvs:List (κ×V)}{vs:List (κ×Value)}(r:KV kvs vs):kvs.length=vs.length:=Paired.length r
end
def Gh(r:QR (kV k) u):(V6 P w).is k u=true:=by
 cases k with
 |inl i=>obtain⟨t,e⟩:=(r);subst e;exact Zll P w i t
 |inr x=>obtain⟨t,e⟩:=(r);subst e;exact ZlU P w x t
theorem FE{P:Program}{w:World}:∀{ks:List Key} {us:Qe},Za (ks.map kV) us->ItemsAre (V6 P w) ks us
 |[],_,r=>by rw[List.map_nil]at r;cases r;exact .nil
 |k::ks,_,r=>by
  cases r with
  |cons h t=>exact .cons (Gh h) (FE t)
abbrev KT(H:Hp):List (List Key×V)->List (List Key×Addr×Value)->Prop:=Paired λp q=>p.1=q.1/\H q.2.1=some (.tup<|p.1.map kV)/\QR p.2 q.2.2
def KT.val{xs:List (List Key×Addr×Value)}(r:KT H kvs xs)(k:List Key):Vk (ZA kvs k) ((atKey xs k).map (·.2)):=by
 induction r with
 |nil=>exact True.intro
 |@cons p q ps c h t i=>
  obtain⟨g,_,j⟩:=h
  by_cases e:p.1=k
  .have f:=g.symm.trans e;have b:atKey (q::c) k=some q.2:=by simp[atKey, f]
   rw[Wm e,b];exact j
  .have f:¬q.1=k:=λz=>e (g.trans z)
   have b:atKey (q::c) k=atKey c k:=by simp[atKey, f]
   rw[Wl e,b];exact i
def KT.repl{xs:List (List Key×Addr×Value)}(r:KT H kvs xs)(k:List Key)(i:QR y u):
 KT H (kvs.map λf=>if f.1=k then (f.1,y) else f) (xs.map<|putAt k u):=by
 induction r with
 |nil=>exact .nil
 |@cons p q ps s h t j=>
  rw[Xv];refine .cons ?_ j;obtain⟨c,g,m⟩:=h;unfold putAt;by_cases e:p.1=k
  .rw[Xi e,Xi<|c.symm.trans e];exact#[c,g,i]
  .rw[Xg e,Xg λz=>e<|c.trans z];exact#[c,g,m]
def KT.put{xs:List (List Key×Addr×Value)}(r:KT H kvs xs)(k:List Key){b:Addr}(g:H b=some (.tup<|k.map kV))(c:QR y u):
 KT H (Yh kvs k y) (storedH xs k b u):=by
 have e:(kvs.any λf=>decide (f.1=k))=(atKey xs k).isSome:=by
  rw[LL,(r.val k).isSome_eq,Ue]
 unfold Yh storedH;rw[e];by_cases q:(atKey xs k).isSome=true
 .rw[Xi q,Xi q];exact r.repl k c
 .rw[Xg q,Xg q];exact Paired.snoc r #[rfl,g,c]
def KT.keeps{xs:List (List Key×Addr×Value)}(r:KT H kvs xs)(c:∀b ys,H b=some (.tup ys)->U b=some (.tup ys)):KT U kvs xs:=
 Paired.mapP r λ_ _ z=>#[z.1,c _ _ z.2.1,z.2.2]
section
variable {w:World}{H:Hp}{a:Addr}
def S8(c:HOk P w H h)(e:Rd H a u):ZT P w H h a u:=e.ok c
def JI(c:HOk P w H h)(e:Rd H a (.dK kvs)):kvs.length<=sizeLine/\(a==sysModules)=false/\∃vs,KV kvs vs/\h.DictOf (V6 P w) a vs:=
 show ZT P w H h a _ from S8 c e
def Ao(c:HOk P w H h)(e:H a=some (.dK kvs)):kvs.length<=sizeLine/\(a==sysModules)=false/\∃vs,KV kvs vs/\h.DictOf (V6 P w) a vs:=JI c (.inl e)
def WM(f:HOk P w H h)(e:H a=some (.tup<|ks.map kV)):(tupleKind<|V6 P w).is h ks a:=by
 obtain⟨_,c,r,o,j,i,n,g⟩:=(f a _ e)
 exact#[o,c.toArray,n,j,i,g,by simpa using FE r]
def U2(g:HOk P w H h)(e:Rd H a (.dT kvs)):kvs.length<=sizeLine/\(a==sysModules)=false/\
 ∃xs,KT H kvs xs/\h.DictOfH (tupleKind<|V6 P w) a xs:=by
 obtain⟨z,y,xs,r,o,es,K,E,C,B,A,s⟩:=(S8 g e);refine#[z,y,xs,r,o,es,K,E,C,B,A,λx c=>?_,s];have f:∀{l:List _} {m:List _},KT H l m->∀x∈m,(tupleKind<|V6 P w).is h x.1 x.2.1:=by
  intro l m q;induction q with
  |nil=>intro x c;exact nomatch c
  |@cons p q ps M i t j=>
   intro x c;rcases Xc.mp c with e|c
   .subst e;exact WM g (by rw[<- i.1];exact i.2.1)
   .exact j x c
 exact f r x c
def HD(c:HOk P w H h)(e:H a=some (.dT kvs)):kvs.length<=sizeLine/\(a==sysModules)=false/\
 ∃xs,KT H kvs xs/\h.DictOfH (tupleKind<|V6 P w) a xs:=U2 c (.inl e)
end
def V8(H:Hp)(a:Addr)(y:V)(r:Option V):Prop:=
 (∃c k,Rd H a (.dK c)/\y=kV k/\r=ZA c k)\/∃c k b,Rd H a (.dT c)/\y=.ref b/\H b=some (.tup<|k.map kV)/\r=ZA c k
def J9(H:Hp)(a:Addr)(y v:V)(U:Hp):Prop:=
 (∃c k,H a=some (.dK c)/\y=kV k/\c.length<sizeLine/\U=upd H a (.dK<|Yh c k v)) \/
 ∃c k b,H a=some (.dT c)/\y=.ref b/\H b=some (.tup<|k.map kV)/\c.length<sizeLine/\U=upd H a (.dT<|Yh c k v)
def V8.zk{H:Hp}{a:Addr}{kvs:List (Key×V)}{k:Key}(e:H a=some (.dK kvs)):V8 H a (kV k) (ZA kvs k):=.inl #[kvs,k,.inl e,rfl,rfl]
def V8.t{b:Addr}{kvs:List (List Key×V)}{k:List Key}(e:H a=some (.dT kvs))(c:H b=some (.tup<|k.map kV)):V8 H a (.ref b) (ZA kvs k):=.inr #[kvs,k,b,.inl e,rfl,c,rfl]
def J9.k{H:Hp}{a:Addr}{kvs:List (Key×V)}{k:Key}{v:V}(e:H a=some (.dK kvs))(c:kvs.length<sizeLine):J9 H a (kV k) v (upd H a<|.dK<|Yh kvs k v):=.inl #[kvs,k,e,rfl,c,rfl]
def J9.t{b:Addr}{kvs:List (List Key×V)}{k:List Key}(e:H a=some (.dT kvs))(f:H b=some (.tup<|k.map kV))(c:kvs.length<sizeLine):
 J9 H a (.ref b) v (upd H a<|.dT<|Yh kvs k v):=.inr #[kvs,k,b,e,rfl,f,c,rfl]
section
variable {O:St}{H:Hp}{a:Addr}{v:V}{u r:Value}{o:Option V}{pos:Qb}
def Qt.big(I:Qt X Y O H s):sysModules<s.heap.objs.size:=by
 have h:=(I.mod.glob.keeps I.bk).lt;exact Nat.lt_trans (by decide) h
def ZqV(C:A.units+1<cLine)(I:Qt X Y O H s)(g:V8 H a y (some v))(B:QR y u)(h:∀i r,Qt X Y O H r->QR v i->Q i r):
 wpAny (model X.prog X.w) A (getItem (.ref a) u) Q pos s:=by
 rcases g with ⟨j,k,e,q,l⟩|⟨j,k,b,e,q,M,l⟩
 .subst q;obtain⟨z,K,P,f,dd⟩:=JI I.hok e;obtain⟨i,m,c⟩:=Vk.some_of (by rw[l];exact f.val k);exact wpAny_getItem_of (Gh B) dd.mapOf m (h i _ (I.tok _) c)
 .subst q;cases (B);obtain⟨z,K,xs,f,dd⟩:=U2 I.hok e;obtain⟨i,m,c⟩:=Vk.some_of (by rw[l];exact f.val k);obtain⟨p,E,o⟩:=Ma.mp m;refine wpAny_getItem_heap (tupleKind_room_in1 C) (WM I.hok M) dd E ?_;rw[o];exact h i _ (I.tok _) c
def CG(v:A.units+1<cLine)(I:Qt X Y O H s)(g:V8 H a y o)(r:QR y u)(h:∀m,Qt X Y O H m->Q (.bool o.isSome) m):
 wpAny (model X.prog X.w) A (compareOp .In u<|.ref a) Q pos s:=by
 rcases g with ⟨f,k,e,j,l⟩|⟨f,k,b,e,j,B,l⟩
 .subst j;obtain⟨z,i,C,c,dd⟩:=JI I.hok e;refine wpAny_in_of (Gh r) i dd.mapOf ?_;rw[<- (c.val k).isSome_eq,<- l];exact h _ (I.tok _)
 .subst j;cases (r);obtain⟨z,i,xs,c,dd⟩:=U2 I.hok e;refine wpAny_in_heap (tupleKind_room_in1 v) (WM I.hok B) i dd ?_;have q:=(c.val k).isSome_eq;rw[Ue]at q;rw[<- q,<- l];exact h _ (I.tok _)
def ES(v:A.units+1<cLine)(I:Qt X Y O H s)(g:V8 H a y o)(r:QR y u)(h:∀m,Qt X Y O H m->Q (.bool<|!o.isSome) m):
 wpAny (model X.prog X.w) A (compareOp .NotIn u<|.ref a) Q pos s:=by
 rcases g with ⟨f,k,e,j,l⟩|⟨f,k,b,e,j,B,l⟩
 .subst j;obtain⟨z,i,C,c,dd⟩:=JI I.hok e;refine wpAny_notIn_of (Gh r) i dd.mapOf ?_;rw[<- (c.val k).isSome_eq,<- l];exact h _ (I.tok _)
 .subst j;cases (r);obtain⟨z,i,xs,c,dd⟩:=U2 I.hok e;refine wpAny_notIn_heap (tupleKind_room_in1 v) (WM I.hok B) i dd ?_;have q:=(c.val k).isSome_eq;rw[Ue]at q;rw[<- q,<- l];exact h _ (I.tok _)
def BD(I:Qt X Y O H s)(f:Mut (H a))(g:Heap.SameBut a s.heap h')(he:∃q,h'.get? a=some q)(c:ZT X.prog X.w (upd H a ob) h' a ob):
 Qt X Y O (upd H a ob) { s with heap:=h',toks:=t' }:=
 I.write f (.inl rfl) (λb q h z=>(g.2 b h).trans z) he c
def P6(z:kvs.length<=sizeLine)(f:(a==sysModules)=false)(c:KV kvs vs)(dd:h'.DictOf (V6 P w) a vs):
 ZT P w U h' a (.dK kvs):=#[z,f,vs,c,dd]
def Zq7(t:A.units+1<cLine)(I:Qt X Y O H s)(g:J9 H a y v U)(P:QR y u)(W:QR v r)(h:∀M,Qt X Y O U M->Q () M):
 wpAny (model X.prog X.w) A (setItem (.ref a) u r) Q pos s:=by
 rcases g with ⟨i,k,e,E,l,K⟩|⟨i,k,b,e,E,d,l,K⟩
 .subst E K;obtain⟨z,C,n,f,dd⟩:=Ao I.hok e;have p:n.length<=sizeLine:=by rw[<- f.length];exact z
  have B:(Yh i k v).length<=sizeLine:=by have:=Cd i k v;lia
  refine wpAny_setItem_pairs (Gh P) dd λh' j o=>h _ ?_;have w:∃q,h'.get? a=some q:=let ⟨q,_,_,m,_⟩:=j;#[q,m];exact BD I (by rw[e];exact True.intro) o w (P6 B C (f.put k W) j)
 .subst E K;cases (P);obtain⟨z,C,xs,f,dd⟩:=HD I.hok e;have p:xs.length<=sizeLine:=by rw[<- Paired.length f];exact z
  have B:(Yh i k v).length<=sizeLine:=by have:=Cd i k v;lia
  refine wpAny_setItem_heap (tupleKind_room_in1 t) (WM I.hok d) dd λh' j o=>h _ ?_;obtain⟨q,es,J,m,G,F,D,_,x⟩:=j;refine BD I (by rw[e];exact True.intro) o #[q,m] #[B,C,_,(f.put k d W).keeps λc ys Z=>?_,q,es,J,m,G,F,D,x];rw[Qu<|SE Z e λz=>nomatch z];exact Z
end
def Hx(i:Expr):Prop := ∀c f,subscripted i false c f=operate [c,f] (getItem c f)
def Tk{w:World}{g:Qb}{f c:Expr}{T C:String}{Q:Qb}
(M:typeLookup (.type T) "__getitem__"=pure (some<|.builtin C))(K:Hx c)
(h:wpAny (model prog w) A (eval f env) (λo B=>wpAny (model prog w) A (eval c env) (λi m=>m.TypeIs o T/\wpAny (model prog w) A (getItem o i) Q g m) g B) g s):
 wpAny (model prog w) A (eval (.Subscript f c E) env) Q g s:=by
 refine Subscript_ (wpAny_mono h (λo B W=>wpAny_mono W (λi m q=>?_) λ_ _ x=>x) λ_ _ x=>x);obtain⟨hT,q⟩:=q;refine Xa ?_;refine Xa (wpAny_specialOf hT M ?_);have j:wpAny (model prog w) A (subscripted c false o i) (λr y=>wpAny (model prog w) A (letTemporaryGo f o r >>= λ_=>pure r) Q g y) g m:=by
  rw[K o i];exact wpAny_operating (wpAny_mono q (λr y P=>Xa<|wpAny_letTemporaryGo<|Xm P) λ_ _ x=>x)
 first
  |exact Xm (Xa j)
  |exact Xa _
  |exact Xa j
def ZlX  {O:St}{H:Hp}{a:Addr}{o:Option V}(I:Qt X Y O H s)(g:V8 H a y o):s.TypeIs (.ref a) "dict" := by
 rcases g with ⟨c,k,e,_,_⟩|⟨c,k,b,e,_,_,_⟩
 .obtain⟨_,_,f,_,dd⟩:=JI I.hok e;exact dd.typeIs
 .obtain⟨_,_,xs,_,dd⟩:=U2 I.hok e;exact dd.typeIs
def Pk(td f:TE):TE:=λO H Q=>td O H λx L=>f O L λy c=>∃a v,x=.ref a/\V8 c a y (some v)/\Q v c
def Mt(f td:TE):TE:=λO H Q=>f O H λy L=>td O L λx c=>∃a o,x=.ref a/\V8 c a y o/\Q (.bl o.isSome) c
def T6(f td:TE):TE:=λO H Q=>f O H λy L=>td O L λx c=>∃a o,x=.ref a/\V8 c a y o/\Q (.bl<|!o.isSome) c
def HI(td f tv:TE):TS:=λdx O H=>tv O H λv L=>td O L λx h=>f O h λy g=>∃a c,x=.ref a/\J9 g a y v c/\dx.nx O c
section
variable {o i value:Expr}{ty:TE}
def T3(C:X.A.units+1<cLine)(M:PE X o td)(P:PE X i ty)(K:Hx i):PE X (.Subscript o i E) (Pk td ty):=by
 intro Y s O H Q I h;refine Tk PySem.F.slot_dict_getitem.lookup K (Q8 (M Y s O H _ I h) ?_);rintro u j ⟨x,L,b,q,B⟩;refine Q8 (P Y j O L _ b B) ?_;rintro n l ⟨y,d,f,m,a,v,W,g,A⟩;subst W;obtain rfl:=q;exact#[ZlX f g,ZqV C f g m λe k Z c=>#[v,d,Z,c,A]]
def MM(B:X.A.units+1<cLine)(E:PE X i ty)(C:PE X o td):PC X .In i o (Mt ty td):=by
 intro Y s O H Q I h;refine Q8 (E Y s O H _ I h) ?_;rintro e c ⟨y,L,W,f,q⟩;refine Q8 (C Y c O L _ W q) ?_;rintro u d ⟨x,Z,P,j,a,A,K,g,m⟩;subst K;obtain rfl:=j;exact CG B P g f λb M=>#[.bl A.isSome,Z,M,rfl,m]
def ZoT(A:X.A.units+1<cLine)(C:PE X i ty)(B:PE X o td):PC X .NotIn i o (T6 ty td):=by
 intro Y s O H Q I h;refine Q8 (C Y s O H _ I h) ?_;rintro e c ⟨y,L,P,f,q⟩;refine Q8 (B Y c O L _ P q) ?_;rintro u b ⟨x,W,M,j,a,d,E,g,m⟩;subst E;obtain rfl:=j;exact ES A M g f λZ K=>#[.bl _,W,K,rfl,m]
def K9(M:X.A.units+1<cLine)(W:PE X o td)(Z:PE X i ty)(K:PE X value tv)(P:swapsWith value (some<|.Subscript o i pos') E.line X.env=pure false):
 PS X (.Assign [.Subscript o i pos'] value E) (HI td ty tv):=by
 intro Y s O H dx I h;refine wpAny_Assign_Subscript (Q8 (K Y s O H _ I h) ?_) P;rintro r f ⟨v,L,l,q,C⟩;refine Q8 (W Y f O L _ l C) ?_;rintro u c ⟨x,p,k,m,B⟩;refine Q8 (Z Y c O p _ k B) ?_;rintro z w ⟨y,D,e,j,a,n,b,g,A⟩;subst b;obtain rfl:=m;exact Zq7 M e g j q λt d=>#[O,n,d,A]
end
def OY  (h:Heap)(c:sysModules<h.objs.size):ZT P w H (h.push { cls:=.type "dict",data:=.dict (List.toArray []) }) h.objs.size (.dK []):=
 #[XN _,beq_eq_false_iff_ne.mpr<|Ne.symm<|Xs c,[],.nil,Heap.DictOf.new h]
def Lu  (h:Heap)(c:sysModules<h.objs.size):ZT P w H (h.push { cls:=.type "dict",data:=.dict (List.toArray []) }) h.objs.size (.dT []):=
 #[XN _,beq_eq_false_iff_ne.mpr<|Ne.symm<|Xs c,[],.nil,_,(List.toArray []),0,Xt _ rfl,#[rfl,rfl,rfl],rfl,rfl,Mb]
def Tf:TE:=λ_ H Q=>∀p,H p=none->Q (.ref p) (upd H p<|.dK [])
def Ei:TE:=λ_ H Q=>∀p,H p=none->Q (.ref p) (upd H p<|.dT [])
def Nr:PE X (.Dict [] [] E) Tf:=λY s O H Q I h=>
 wpAny_Dict_empty #[.ref s.heap.objs.size,_,I.laid (λ_ _ q=>Xd _ q) (Xn _)<|OY s.heap I.big,rfl,h _<|I.hok.fresh<|Xn _]
def ZrC:PE X (.Dict [] [] E) Ei:=λY s O H Q I h=>
 wpAny_Dict_empty #[.ref s.heap.objs.size,_,I.laid (λ_ _ q=>Xd _ q) (Xn _)<|Lu s.heap I.big,rfl,h _<|I.hok.fresh<|Xn _]
structure M1(X:Cx)(o:Expr)(m:Str)(X3:Pos)(e:Expr)(UH:Pos):Prop where
 base:attributeBase o m X.env (eval o X.env)=eval o X.env
 few:((backTo UH<|starEach [e] X.env).all (λx => !x.1)&&(backToKw UH<|keywordEach [] X.env).all (λx=>x.1.isSome)
  && decide (([e]:Qi).length+([]:List Keyword).length+(if ([]:List Keyword).isEmpty then 0 else 1)<30))=true
 line:(X3.endLine==UH.line)=true
 trees:backTo UH (starEach [e] X.env)=[(false,eval e X.env)]
structure M2(X:Cx)(o:Expr)(m:Str)(X3:Pos)(e f:Expr)(UH:Pos):Prop where
 base:attributeBase o m X.env (eval o X.env)=eval o X.env
 few:((backTo UH<|starEach [e,f] X.env).all (λx => !x.1)&&(backToKw UH<|keywordEach [] X.env).all (λx=>x.1.isSome)
  && decide (([e,f]:Qi).length+([]:List Keyword).length+(if ([]:List Keyword).isEmpty then 0 else 1)<30))=true
 line:(X3.endLine==UH.line)=true
 trees:backTo UH (starEach [e,f] X.env)=[(false,eval e X.env),(false,eval f X.env)]
def IsD(H:Hp)(a:Addr):Prop:=(∃c,Rd H a<|.dK c)\/∃c,Rd H a (.dT c)
def P4{O:St}{H:Hp}{a:Addr}(I:Qt X Y O H s)(d:IsD H a):
 s.TypeIs (.ref a) "dict" /\ (∀b,Value.ref a=.ref b->∃c,s.heap.get? b=some c/\c.dict=none)/\(a==sysModules)=false:=by
 rcases d with ⟨f,e⟩|⟨f,e⟩
 .obtain⟨_,g,j,_,dd⟩:=JI I.hok e;refine#[dd.typeIs,λb q=>?_,g];cases q;obtain⟨c,_,_,i,h,_⟩:=dd;exact#[c,i,h.2.1]
 .obtain⟨_,g,xs,_,dd⟩:=U2 I.hok e;refine#[dd.typeIs,λb q=>?_,g];cases q;obtain⟨c,_,_,i,h,_⟩:=dd;exact#[c,i,h.2.1]
section
variable {O:St}{H:Hp}{a:Addr}{d:V}{u r:Value}{o:Option V}{pos:Qb}
def AK(E:A.units+1<cLine)(I:Qt X Y O H s)(g:V8 H a y o)(B:QR y u)(C:QR d r)(h:∀m q,Qt X Y O H q->QR (o.getD d) m->Q m q):
 wpAny (model X.prog X.w) A (call (.builtin "dict.get") [.ref a,u,r]) Q pos s:=by
 rcases g with ⟨f,k,e,j,l⟩|⟨f,k,b,e,j,K,l⟩
 .subst j;obtain⟨z,i,M,c,dd⟩:=JI I.hok e;refine call_meetsIn PySem.F.slot_dict_get dd.typeIs PySem.F.entry_dict_get (PySem.F.args_dict_get_3 _ _ _) (meets_dict_get_default _ a (Gh B) i r) #[_,dd.mapOf,h _ _ (I.tok _) ?_];rw[l];exact(c.val k).getD C
 .subst j;cases (B);obtain⟨z,i,xs,c,dd⟩:=U2 I.hok e;refine call_meetsIn PySem.F.slot_dict_get dd.typeIs PySem.F.entry_dict_get (PySem.F.args_dict_get_3 _ _ _) (meetsH_dict_get_default _ a b i r) #[tupleKind_room_in1 E,k,xs,WM I.hok K,dd,h _ _ (I.tok _) ?_];rw[l];exact(c.val k).getD C
end
def Pz(td f tx:TE):TE:=λO H Q=>td O H λx L=>∃a,x=.ref a/\IsD L a/\f O L λy g=>tx O g λz c=>∃o,V8 c a y o/\Q (o.getD z) c
section
variable {o e f:Expr}{ty:TE}
def ZrM(Z:X.A.units+1<cLine)(b:PE X o td)(he:PE X e ty)(k:PE X f tx)(m:M2 X o "get" X3 e f UH):PE X (.Call (.Attribute o "get" X3) [e,f] [] UH) (Pz td ty tx):=by
 intro Y s O H Q I h;refine wpAny_Call_method m.base m.few m.line PySem.F.plainAttrs_dict PySem.F.slot_dict_get PySem.F.type_dict_get (Q8 (b Y s O H _ I h) ?_);rintro u B ⟨x,L,i,K,a,l,d,W⟩;subst l;obtain rfl:=K;obtain⟨q,j,_⟩:=P4 i d;refine#[q,j,?_];rw[m.trees];refine Calls.callWith_builtin rfl (Calls.evalArgs_plain (Calls.spliced_cons (Q8 (he Y B O L _ i W) λJ A ⟨y,v,r,E,P⟩=>
  Calls.spliced_cons (Q8 (k Y A O v _ r P) λN F ⟨z,t,p,C,G,g,M⟩=>Calls.spliced_nil ?_))))
 exact AK Z p g E C λw D n c=>#[_,t,n,c,M]
end
section
variable {O:St}{H:Hp}{a:Addr}{kvs:List (Key×V)}{pos:Qb}
def Zs5(I:Qt X Y O H s)(e:Rd H a (.dK kvs))(h:∀p g,H p=none->Qt X Y O (upd H p<|.dK kvs) g->Q (.ref p) g):wpAny (model X.prog X.w) A (call (.type "dict") [.ref a]) Q pos s:=by
 obtain⟨z,m,y,c,dd⟩:=JI I.hok e;refine kt_call_dict m dd (by rw[<- c.length];exact z) λh' f j=>?_;refine h _ _ (I.hok.fresh<|Xn _) (I.laid (λb q i=>?_) (Xn _)<|P6 z (beq_eq_false_iff_ne.mpr<|Ne.symm<|Xs I.big) c f)
 exact(j.2 b<|Xs<|Xk i).trans (Xd _ i)
end
end L2
namespace L2
def Zx.keep(k:∀b∈p,U b=H b)(h:Zx K F H v t p):Zx K F U v t p:=h.move (Q6.refl _) (λa c=>(h.there a c).1) k
def QL.writeOwn(s:QL K H0 F Z O H)(e:zg Z i<|zo v Φ):
 O[i]?=some (some v)/\∃p,Φ.ok K F H v p/\(∀a∈p,H0 a=none/\F a=none/\H a≠none)/\
  ∀(U:Hp) (c:OwnP) (f:Qg),Q6 F U->(∀b,b∉p->H b≠none->U b=H b)->(∀b,H b≠none->U b≠none)->c.ok K F U v f->(∀a∈f,a∈p\/(H a=none/\H0 a=none))->
   QL K H0 F (Z.set i<|zo v c) O U:=by
 obtain⟨u,p,B,⟨rfl,q⟩,A,k⟩:=s.chg e;exact#[B,p,q,A,λU c f m y _ j g=>(k F U (.own _ c) f (Q6.refl _) m y (λb h=>.inl h) #[rfl,j] g).1]
end L2
namespace L2
noncomputable def JD:Key->PyData
 |.inl i=>.int i
 |.inr x=>.str x
def Zj(k:List Key):PyData:=.tuple (k.map JD)
def Nh(r:Rep F y (JD k)):y=kV k:=by
 cases k with
 |inl i=>cases r;rfl
 |inr x=>cases r;rfl
theorem Fu{F:Hp}:∀{ys:List V} {k:List Key},Q0 F ys (k.map JD)->ys=k.map kV
 |_,[],.nil=>rfl
 |_,k::f,.cons r c=>by rw[Nh r,Fu c];rfl
def WR(r:Rep F y (Zj k)):∃b,y=.ref b/\F b=some (.tup<|k.map kV):=by
 cases r with
 |tup h c=>exact#[_,rfl,by rw[h,Fu c]]
abbrev VX:=List (List Key×PyData)
noncomputable def Yt(kvs:VX)(k:List Key):Option PyData:=(kvs.find? λc=>decide (c.1=k)).map (·.2)
noncomputable def GX(kvs:VX)(k:List Key)(d:PyData):VX:=if (kvs.any λc=>decide (c.1=k))=true then kvs.map (λc=>if c.1=k then (c.1,d) else c) else kvs++[(k,d)]
inductive PairD(F:Hp):List (List Key×V)->VX->Prop
 |nil:PairD F [] []
 |cons {k:List Key}{x:V}{d:PyData}{xs:List (List Key×V)}{kvs:VX}:Rep F x d->PairD F xs kvs->PairD F ((k,x)::xs) ((k,d)::kvs)
theorem PairD.mono{F c:Hp}(s:Q6 F c):∀{xs:List (List Key×V)} {kvs:VX},PairD F xs kvs->PairD c xs kvs
 |_,_,.nil=>.nil
 |_,_,.cons r t=>.cons (r.mono s) (t.mono s)
theorem PairD.length{F:Hp}:∀{xs:List (List Key×V)} {kvs:VX},PairD F xs kvs->xs.length=kvs.length
 |_,_,.nil=>rfl
 |_,_,.cons _ t=>by simp[t.length]
theorem PairD.val{F:Hp}(k:List Key):∀{xs:List (List Key×V)} {kvs:VX},PairD F xs kvs->(ZA xs k=none/\Yt kvs k=none)\/∃x d,ZA xs k=some x/\Yt kvs k=some d/\Rep F x d
 |_,_,.nil=>.inl #[rfl,rfl]
 |_,_,.cons (k:=k') (x:=x) (d:=d) (kvs:=kvs) r t=>by
  by_cases e:k'=k
  .exact .inr #[x,d,Wm e,by simp[Yt, e],r]
  .have q:Yt ((k',d)::kvs) k=Yt kvs k:=by simp[Yt, e]
   rw[Wl e,q];exact t.val k
theorem PairD.any{F:Hp}(k:List Key):∀{xs:List (List Key×V)} {kvs:VX},PairD F xs kvs->(xs.any λc=>decide (c.1=k))=(kvs.any λc=>decide (c.1=k))
 |_,_,.nil=>rfl
 |_,_,.cons _ t=>by simp[t.any k]
theorem PairD.mapP{F:Hp}(k:List Key){y:V}{d:PyData}(r:Rep F y d):∀{xs:List (List Key×V)} {kvs:VX},PairD F xs kvs->PairD F (xs.map λc=>if c.1=k then (c.1,y) else c) (kvs.map λc=>if c.1=k then (c.1,d) else c)
 |_,_,.nil=>.nil
 |_,_,.cons (k:=k') f t=>by
  rw[Xv,Xv];by_cases e:k'=k
  .simp only[e];exact .cons r (t.mapP k r)
  .simp only[e];exact .cons f (t.mapP k r)
theorem PairD.snoc{F:Hp}(k:List Key){y:V}{d:PyData}(r:Rep F y d):∀{xs:List (List Key×V)} {kvs:VX},PairD F xs kvs->PairD F (xs++[(k,y)]) (kvs++[(k,d)])
 |_,_,.nil=>.cons r .nil
 |_,_,.cons c t=>.cons c (t.snoc k r)
def PairD.put(k:List Key)(r:Rep F y d){xs:List (List Key×V)}(t:PairD F xs kvs):PairD F (Yh xs k y) (GX kvs k d):=by
 unfold Yh GX;rw[t.any k];split
 .exact t.mapP k r
 .exact t.snoc k r
def VH(kvs:VX):OwnP where
 ok K F H v p := ∃a xs,v=.ref a/\p=[a]/\F a=none/\H a=some (.dT xs)/\PairD F xs kvs
 there:=by
  rintro K F H v p ⟨a,xs,rfl,rfl,h,f,g⟩ b j;cases Xj.mp j;exact#[h,ZG f]
 mono:=by
  rintro K F A H U v p s y m ⟨a,xs,rfl,rfl,h,f,g⟩;exact#[a,xs,rfl,rfl,y a Xb,by rw[m a Xb];exact f,g.mono s]
 uniq:=by
  rintro K F H v p q ⟨a,xs,rfl,rfl,_⟩ ⟨b,ys,e,rfl,_⟩ c i;cases e;exact i
section
variable {ty:TE}{v:V}{kvs:VX}{k:List Key}{d:PyData}
def QL.dct(S:QL K H0 F Z O H)(e:zg Z i<|zo v<|VH kvs):
 ∃a xs,v=.ref a/\O[i]?=some (some<|.ref a)/\F a=none/\H0 a=none/\H a=some (.dT xs)/\PairD F xs kvs:=by
 obtain⟨h,p,⟨a,xs,rfl,rfl,g,f,d⟩,c,_⟩:=S.writeOwn e;exact#[a,xs,rfl,h,g,(c a Xb).1,f,d]
def NW{xs:List (List Key×V)}(t:PairD F xs kvs):(ZA xs k).isSome=(Yt kvs k).isSome:=by
 rcases t.val k with ⟨d,c⟩|⟨x,f,d,c,_⟩<;>rw[d,c]<;>rfl
def AY(f:Qq K ty Z (Zj k))(e:zg Z i<|zo v<|VH kvs):Qq K (Mt ty<|QF i) Z (.bool (Yt kvs k).isSome):=λH0 F O H Q S q=>
 f H0 F O H _ S λs L y c d=>by
  obtain⟨a,xs,rfl,m,_,_,j,h⟩:=(S.ext c).dct e;obtain⟨b,rfl,g⟩:=WR d;exact#[_,m,a,_,rfl,V8.t j<|c.fh _ _ g,q s L _ c<|by rw[NW h];exact .bl _]
def Zoe(f:Qq K ty Z (Zj k))(e:zg Z i<|zo v<|VH kvs):Qq K (T6 ty<|QF i) Z (.bool<|!(Yt kvs k).isSome):=λH0 F O H Q S q=>
 f H0 F O H _ S λs L y c d=>by
  obtain⟨a,xs,rfl,m,_,_,j,h⟩:=(S.ext c).dct e;obtain⟨b,rfl,g⟩:=WR d;exact#[_,m,a,_,rfl,V8.t j<|c.fh _ _ g,q s L _ c<|by rw[NW h];exact .bl _]
def Zr0(e:zg Z i<|zo v<|VH kvs)(l:Qq K tv Z d)(Y:Qq K ty Z (Zj k))(hz:kvs.length<sizeLine)(hn:dx.nx (Z.set i<|zo v<|VH<|GX kvs k d)):QE K (HI (QF i) ty tv) Z dx:=λF0 H0 F O H W x S C=>
 l H0 F O H _ S λI L u h P=>by
  obtain⟨a,xs,rfl,t,_⟩:=(S.ext h).dct e;refine#[_,t,Y H0 I O L _ (S.ext h) λG R y g M=>?_];have s:=S.ext (h.trans g);obtain⟨Q,E,m,_,j,r,o,B⟩:=s.dct e;cases m;obtain⟨b,rfl,n⟩:=WR M;refine#[a,_,rfl,J9.t o (g.fh _ _ n)<|by rw[B.length];exact hz,?_];obtain⟨_,p,X,J,w⟩:=s.writeOwn e;obtain⟨D,A,m,rfl,_,N,_⟩:=X;cases m;refine C.nx G O _ _ ((x.trans<|h.trans g).wr r j) (w _ (VH _) [a] (s.sub.upd j) (λc f _=>Qu λz=>f<|by rw[z];exact Xb) (λc f=>?_) #[a,_,rfl,rfl,j,QG,B.put k<|P.mono g.ff] λc f=>.inl f) hn
  by_cases z:c=a
  .subst z;rw[QG];rintro⟨⟩
  .rw[Qu z];exact f
def EvX(K:W.Frag)(t:TE)(Z:Zcs)(Φ:OwnP):Prop := ∀(H0 F:Hp) (O:St) (H:Hp) (Q:VK),QL K H0 F Z O H->(∀c U v p,Q5 F H c U->(∀a∈p,H a=none)->Φ.ok K c U v p->Q v U)->t O H Q
def K1(h:EvX K te Z Φ)(hn:∀v,dx.nx<|Z.set i<|zo v Φ):QE K (V2 te<|Yb i) Z dx:=λF0 H0 F O H s x S C=>
 h H0 F O H _ S λY U v p c g y=>by
  refine C.nx Y _ U _ (x.trans c) ((S.ext c).set (t:=.own v Φ) #[rfl,y] (λa f=>x.hh.free<|g a f) (hn:=λa f j w m q X W d=>?_)) (hn v);obtain⟨l,E,e,B⟩:=S.fp;obtain⟨b,k,P⟩:=E j m X;intro A;have M:=P.ext c;rw[W]at k;cases k;exact(B j a<|BN M d a A).2 (g a f)
end
end L2
namespace Mir
theorem Ft{g:Qn}{l:Nat}(h:∀c,c<=l->g c=0):∀m,QC g (l+1+m)=QC (λj=>g<|l+1+j) m
 |0=>by
  show QC g _=0;rw[Z6 λk f=>h k<|#[],Yp]
 |m+1=>by
  show QC g (l+1+m)+g _=_;rw[Ft h m];rfl
theorem Ch(y:Yd)(b own:Qn)(l:Nat):∀m,JZ y b own l m=QC (λj=>if Zq y (l+1+j)=some l then passes y b own (l+1+j) else 0) m
 |0=>rfl
 |m+1=>by simp only[JZ,QC];rw[Ch y b own l m]
def Gf{y:Yd}(f:y.Ok){c:Nat}(g:c<y.ls.length)(e:Zq y c=some l):l<c:=by
 by_cases h:c=0
 .subst h;rw[f.up0]at e;cases e
 .obtain _:=f.ups c #[] g;simp_all
def F9{y:Yd}(f:y.Ok)(b own:Qn)(i:l<y.ls.length):YY y b own l=own l+QC (λc=>if Zq y c=some l then passes y b own c else 0) y.ls.length:=by
 rw[ZsB f,Ch];have e:y.ls.length=l+1+(y.ls.length-1-l):=#[]
 have h:=Ft (g:=λc=>if Zq y c=some l then passes y b own c else 0) (l:=l) (λc j=>Xg λz=>by
  have:=Gf f #[] z;lia) (y.ls.length-1-l)
 rw[<- e]at h;rw[h]
section
variable {y:Yd}
def LX(c:y.Ok):upL y 0=[0]:=by
 have:=c.l1;rw[Td c<|#[],Xi rfl]
end
end Mir
namespace Mir
noncomputable def ind(p:Prop)[Decidable p]:Int:=if p then 1 else 0
theorem LE{y:Yd}(f:y.Ok)(l:Nat)(C:l<y.ls.length):∀n j,j<n->j<y.ls.length->
 ind (l∈upL y j)=ind (j=l)+QC (λc=>if Zq y c=some l then ind (c∈upL y j) else 0) y.ls.length
 |0,j,h,_=>#[]
 |n+1,j,h,g=>by
  by_cases e:j=l
  .subst e;have z:QC (λc=>if Zq y c=some j then ind (c∈upL y j) else 0) y.ls.length=0:=by
    rw[Z6 λc i=>?_,Yp]
    by_cases u:Zq y c=some j
    .have:=Gf f i u;have w:¬c∈upL y j:=λz=>by have:=PM y j c z;lia
     simp[u,ind,w]
    .simp[u]
   rw[z];simp[ind,No]
  .by_cases A:j=0
   .subst A;have w:¬l∈upL y 0:=λz=>by rw[LX f]at z;simp at z;exact e z.symm
    have z:QC (λc=>if Zq y c=some l then ind (c∈upL y 0) else 0) y.ls.length=0:=by
     rw[Z6 λc i=>?_,Yp]
     by_cases u:Zq y c=some l
     .have M:¬c∈upL y 0:=λz=>by
       rw[LX f]at z;simp at z;subst z;rw[f.up0]at u;cases u
      simp[u,ind,M]
     .simp[u]
    rw[z];simp[ind,w,e]
   .obtain⟨a,m,W⟩:=f.ups j #[] g;have B:=LE f l C n a #[] #[];have s:=Ke f #[] g m l (λz=>e z.symm);have K:ind (l∈upL y j)=ind (l∈upL y a):=by unfold ind;simp only[s]
    have E:∀c,c<y.ls.length->(if Zq y c=some l then ind (c∈upL y j) else 0)=(if Zq y c=some l then ind (c∈upL y a) else 0)+(if c=j then ind (a=l) else 0):=by
     intro c i;by_cases z:c=j
     .subst z;have w:¬c∈upL y a:=λq=>by have:=PM y a c q;lia
      rw[m];by_cases q:a=l
      . simp[ind,No,w]
      .simp[ind,q]
     .have P:=Ke f #[] g m c z;simp_all
    rw[K,B,Z6 E,BI,G3,Xi g];have:ind (j=l)=0:=by unfold ind;rw[Xg e]
    lia
noncomputable def Vw(y:Yd)(m:Nat)(ln:Nat->Nat)(f:Qn)(l:Nat):Int:=QC (λk=>f k*ind (l∈upL y (ln k))) m
def BR{y:Yd}(h:y.Ok){m:Nat}(g:∀k,k<m->ln k<y.ls.length)(f:Qn)(i:l<y.ls.length):
 Vw y m ln f l=QC (λk=>f k*ind (ln k=l)) m+QC (λc=>if Zq y c=some l then Vw y m ln f c else 0) y.ls.length:=by
 unfold Vw;have q:∀k,k<m->f k*ind (l∈upL y (ln k))=f k*ind (ln k=l)+QC (λc=>if Zq y c=some l then f k*ind (c∈upL y (ln k)) else 0) y.ls.length:=by
  intro k j;rw[LE h l i _ (ln k) (J7 _)<|g k j,Int.mul_add,<- Dr];congr 1;refine Z6 λc _=>?_
  by_cases u:Zq y c=some l
  .rw[Xi u,Xi u]
  .simp_all
 rw[Z6 q,BI,D2];congr 1;refine Z6 λc _=>?_
 by_cases u:Zq y c=some l
 .simp_all
 .simp only[Xg u];rw[Yp]
theorem no_more{y:Yd}(j:y.Ok){m:Nat}{ln:Nat->Nat}(g:∀k,k<m->ln k<y.ls.length){f:Qn}{b own:Qn}(q:∀l,l<y.ls.length->QC (λk=>f k*ind (ln k=l)) m<=own l)(A:∀l,l<y.ls.length->Vw y m ln f l<=b l):
 ∀n l,y.ls.length<=l+n->l<y.ls.length->Vw y m ln f l<=passes y b own l
 |0,l,h,i=>#[]
 |n+1,l,h,i=>by
  have C:Vw y m ln f l<=YY y b own l:=by
   rw[BR j g f i,F9 j b own i];refine Int.add_le_add (q l i) (WS λc s=>?_)
   by_cases u:Zq y c=some l
   .rw[Xi u,Xi u];have:=Gf j s u;exact no_more j g q A n c #[] s
   .simp_all
  have B:=A l i;unfold passes;lia
end Mir
namespace Mir
def Tw{y:Yd}{m:Nat}{f g:Qn}(h:∀k,k<m->f k<=g k)(l:Nat):Vw y m ln f l<=Vw y m ln g l:=
 WS λk c=>by
  unfold ind;split
  .simp_all
  .lia
def EJ{y:Yd}{m:Nat}{f:Qn}(h:∀k,k<m->0<=f k)(l:Nat):0<=Vw y m ln f l:=
 Ld λk c=>by
  unfold ind;split
  .simp_all
  .lia
structure Shut(y:Yd)(m:Nat)(ln:Nat->Nat)(f mo:Qn)(b:Qn)(S R:Qm):Prop where
 nn:∀k,k<m->0<=f k
 full:∀k,k<m->S k=true->R (ln k)=false->f k=mo k
 none:∀k,k<m->S k=false->R (ln k)=true->f k=0
 top:R 0=true->Vw y m ln f 0=b 0
 out:∀c a,c<y.ls.length->Zq y c=some a->R c=true->R a=false->Vw y m ln f c=b c
 inn:∀c a,c<y.ls.length->Zq y c=some a->R c=false->R a=true->Vw y m ln f c=0
def Z1(S:Qm)(f:Qn):Qn:=λk=>if S k=true then f k else 0
def Nc{f:Qn}(h:0<=f k):Z1 S f k<=f k:=by
 unfold Z1;split<;>lia
def O4{f:Qn}(h:0<=f k):0<=Z1 S f k:=by
 unfold Z1;split<;>lia
theorem Shut.alike{y:Yd}(j:y.Ok){m:Nat}{ln:Nat->Nat}(g:∀k,k<m->ln k<y.ls.length){f C b:Qn}{S R:Qm}(h:Shut y m ln f C b S R):
 ∀n l,y.ls.length<=l+n->l<y.ls.length->R l=true->Vw y m ln f l=Vw y m ln (Z1 S f) l
 |0,l,E,q,_=>#[]
 |n+1,l,E,q,B=>by
  rw[BR j g f q,BR j g _ q];congr 1
  .refine Z6 λk i=>?_
   by_cases e:ln k=l
   .have:f k=Z1 S f k:=by
     unfold Z1;cases s:S k with
     |true=>simp
     |false=>simp;exact h.none k i s (by rw[e];exact B)
    rw[this]
   .simp[ind,e]
  .refine Z6 λc A=>?_
   by_cases u:Zq y c=some l
   .rw[Xi u,Xi u];have:=Gf j A u;cases r:R c with
    |true=>exact Shut.alike j g h n c #[] A r
    |false=>
     have e:=h.inn c l A u r B;have M:=Tw (y:=y) (ln:=ln) (f:=Z1 S f) (λk i=>Nc<|h.nn k i) c;have K:=EJ (y:=y) (ln:=ln) (f:=Z1 S f) (λk i=>O4<|h.nn k i) c;lia
   .simp_all
theorem Shut.all{y:Yd}(j:y.Ok){m:Nat}{ln:Nat->Nat}(g:∀k,k<m->ln k<y.ls.length){f q b own:Qn}{S R:Qm}(h:Shut y m ln f q b S R)
(A:∀l,l<y.ls.length->own l=QC (λk=>Z1 S q k*ind (ln k=l)) m):
 ∀n l,y.ls.length<=l+n->l<y.ls.length->(R l=true->l=0\/∃a,Zq y l=some a/\R a=false)->passes y b own l<=Vw y m ln (Z1 S f) l
 |0,l,C,i,_=>#[]
 |n+1,l,C,i,M=>by
  cases r:R l with
  |true=>
   have e:Vw y m ln f l=b l:=by
    rcases M r with z|⟨a,u,E⟩
    .subst z;exact h.top r
    .exact h.out l a i u r E
   rw[<- h.alike j g (n+1) l C i r,e];unfold passes;lia
  |false=>
   have P:YY y b own l<=Vw y m ln (Z1 S f) l:=by
    rw[BR j g _ i,F9 j b own i];refine Int.add_le_add ?_ (WS λc B=>?_)
    .rw[A l i];refine WS λk K=>?_
     by_cases e:ln k=l
     .have:Z1 S q k=Z1 S f k:=by
       unfold Z1;cases s:S k with
       |true=>simp;exact(h.full k K s<|by rw[e];exact r).symm
       |false=>simp
      rw[this];exact UQ _
     .simp[ind,e]
    .by_cases u:Zq y c=some l
     .rw[Xi u,Xi u];have:=Gf j B u;exact Shut.all j g h A n c #[] B (λ_=>.inr #[l,u,r])
     .simp_all
   unfold passes;lia
end Mir
namespace Mir
section
variable {ν:Type} [DecidableEq ν]
abbrev Lay(ν:Type):=List (ν×ν×Int)
abbrev Zn(ν:Type):=ν->ν->Int
def WG(c:Lay ν):List ν:=c.flatMap λx=>[x.2.1,x.1]
noncomputable def Yf(c:Lay ν)(φ:Zn ν):Ql:=c.flatMap λx=>[x.2.2-φ x.1 x.2.1,φ x.1 x.2.1]
def Dis(c:Lay ν):Prop:=(c.map λx=>(x.1,x.2.1)).Nodup
noncomputable def VY(φ:Zn ν)(s e:ν)(a:Int):Zn ν:=λp q=>if p=s/\q=e then φ p q+a else φ p q
theorem Kh{i j:Type}(f g:i->j):∀(c:List i) (e:Nat),(c.flatMap λx=>[f x,g x])[e]?=c[e/2]?.map (if e%2=0 then f else g)
 |[],e=>by simp
 |x::c,0=>by simp
 |x::c,1=>by simp
 |x::c,e+2=>by
  have h:=Kh f g c e;simpa using h
noncomputable def hdE(c:Lay ν)(e:Nat):Option ν:=c[e/2]?.map λx=>if e%2=0 then x.2.1 else x.1
noncomputable def tlE(c:Lay ν)(e:Nat):Option ν:=c[e/2]?.map λx=>if e%2=0 then x.1 else x.2.1
noncomputable def rmE(c:Lay ν)(φ:Zn ν)(e:Nat):Option Int:=c[e/2]?.map λx=>if e%2=0 then x.2.2-φ x.1 x.2.1 else φ x.1 x.2.1
def Kx(c:Lay ν)(e:Nat):(WG c)[e]?=hdE c e:=by
 unfold WG hdE;rw[Kh];congr 1;split<;>rfl
def GD(c:Lay ν)(φ:Zn ν)(e:Nat):(Yf c φ)[e]?=rmE c φ e:=by
 unfold Yf rmE;rw[Kh];congr 1;split<;>rfl
noncomputable def ZgV(e:Nat):Nat:=if e%2=0 then e+1 else e-1
def Zpq(c:Lay ν)(e:Nat):(WG c)[ZgV e]?=tlE c e:=by
 rw[Kx];unfold hdE tlE ZgV;by_cases h:e%2=0
 .have g:(e+1)/2=e/2:=#[]
  have f:¬(e+1)%2=0:=#[]
  simp_all
 .have g:(e-1)/2=e/2:=#[]
  have f:(e-1)%2=0:=#[]
  simp_all
def Vq(c:Lay ν)(F:ν->ν->Int):Int:=(c.map λx=>F x.1 x.2.1).sum
noncomputable def VJ(c:Lay ν)(φ:Zn ν)(n:ν):Int:=Vq c λs e=>φ s e*(ind (s=n)-ind (e=n))
def ZnM{s:ν}(h:(s,e)∉H1.map λx=>(x.1,x.2.1))(G:Int->ν->ν->Int):
 Vq H1 (λp q=>G (VY φ s e a p q) p q)=Vq H1 λp q=>G (φ p q) p q:=by
 unfold Vq;congr 1;refine Ug λx g=>?_
 have:¬(x.1=s/\x.2.1=e):=by rintro⟨f,c⟩;exact h (Xo.mpr #[x,g,by rw[f,c]])
 unfold VY;dsimp only;rw[Xg this]
theorem Fo{φ:Zn ν}{a:Int}(G:Int->ν->ν->Int):∀{f:Lay ν},Dis f->∀{x:ν×ν×Int},x∈f->
 Vq f (λp q=>G (VY φ x.1 x.2.1 a p q) p q)=Vq f (λp q=>G (φ p q) p q)-G (φ x.1 x.2.1) x.1 x.2.1+G (φ x.1 x.2.1+a) x.1 x.2.1
 |[],_,_,h=>by cases h
 |y::f,c,x,h=>by
  unfold Dis at c;rw[Xv,XM]at c;rcases Xc.mp h with rfl|h
  .have:=ZnM (φ:=φ) (a:=a) c.1 G;have e:VY φ x.1 x.2.1 a x.1 x.2.1=φ x.1 x.2.1+a:=by unfold VY;rw[Xi #[rfl,rfl]]
   unfold Vq at this ⊢;rw[Xv,US,Xv,US,this];dsimp only;rw[e];lia
  .have g:=Fo (φ:=φ) (a:=a) G c.2 h;have m:¬(y.1=x.1/\y.2.1=x.2.1):=λ⟨j,i⟩=>c.1 (Xo.mpr #[x,h,by rw[j,i]]);have e:VY φ x.1 x.2.1 a y.1 y.2.1=φ y.1 y.2.1:=by unfold VY;rw[Xg m]
   unfold Vq at g ⊢;rw[Xv,US,Xv,US,g];dsimp only;rw[e];lia
noncomputable def YB(c:Lay ν)(a:Int)(φ:Zn ν)(e:Nat):Zn ν:=
 match c[e/2]? with
 |some x=>VY φ x.1 x.2.1 (if e%2=0 then a else -a)
 |none=>φ
def Zq8(j:Dis H1){s:ν}(c:hdE H1 e=some t)(f:tlE H1 e=some s)(n:ν):
 VJ H1 (YB H1 a φ e) n=VJ H1 φ n+a*(ind (s=n)-ind (t=n)):=by
 unfold hdE at c;unfold tlE at f;cases g:H1[e/2]? with
 |none=>rw[g]at c;cases c
 |some x=>
  rw[g]at c f;have h:=List.mem_of_getElem? g;have i:YB H1 a φ e=VY φ x.1 x.2.1 (if e%2=0 then a else -a):=by unfold YB;rw[g]
  rw[i];unfold VJ;rw[Fo (λv p q=>v*(ind (p=n)-ind (q=n))) j h];simp only[W9,Option.some.injEq]at c f;by_cases z:e%2=0
  .rw[Xi z]at c f ⊢;subst c f;rw[Int.add_mul];lia
  .rw[Xg z]at c f ⊢;subst c f;rw[Int.add_mul,Int.neg_mul,GQ a,GQ a];lia
inductive Chain(H1:Lay ν)(s:ν):ν->Qk->Prop
 |nil:Chain H1 s s []
 |cons {n m:ν}{e:Nat}{w:Qk}(h:hdE H1 e=some n)(t:tlE H1 e=some m)(c:Chain H1 s m w):Chain H1 s n (e::w)
noncomputable def Wu(c:Lay ν)(a:Int)(φ:Zn ν)(w:Qk):Zn ν:=w.foldl (YB c a) φ
theorem Ni{f:Lay ν}(g:Dis f){s:ν}{a:Int}(p:ν):∀{w:Qk} {n:ν} {φ:Zn ν},Chain f s n w->VJ f (Wu f a φ w) p=VJ f φ p+a*(ind (s=p)-ind (n=p))
 |_,_,φ,.nil=>by
  show VJ f φ p=_
  simp_all
 |e::w,n,φ,.cons h t c=>by
  show VJ f (Wu f a _ w) p=_;rw[Ni g p c,Zq8 g h t,GQ,GQ,GQ];lia
def Within(c:Lay ν)(φ:Zn ν):Prop := ∀x∈c,0<=φ x.1 x.2.1/\φ x.1 x.2.1<=x.2.2
def K7:∀{c:Lay ν},Dis c->∀{i j:Nat} {x y:ν×ν×Int},c[i]?=some x->c[j]?=some y->x.1=y.1->x.2.1=y.2.1->i=j:=λ{c} m {i j x y} h g s q=>by
 have a:(c.map λx=>(x.1,x.2.1))[i]?=some (x.1,x.2.1):=by rw[Xy,h];rfl
 have b:(c.map λx=>(x.1,x.2.1))[j]?=some (x.1,x.2.1):=by rw[Xy,g,s,q];rfl
 have f:=(Xh.mp a).1;exact(List.getElem?_inj f m).mp (a.trans b.symm)
def Zml{c:Lay ν}(B:Dis c){φ:Zn ν}(h:Within c φ){a:Int}(E:0<=a){e:Nat}{r:Int}(he:rmE c φ e=some r)(C:a<=r):Within c (YB c a φ e):=by
 unfold rmE at he;cases f:c[e/2]? with
 |none=>rw[f]at he;cases he
 |some x=>
  rw[f]at he;simp only[W9,Option.some.injEq]at he;intro y m;have g:=h y m;have A:YB c a φ e=VY φ x.1 x.2.1 (if e%2=0 then a else -a):=by unfold YB;rw[f]
  rw[A];unfold VY;by_cases z:y.1=x.1/\y.2.1=x.2.1
  .rw[Xi z];obtain⟨j,i⟩:=List.mem_iff_getElem?.mp m;have s:=K7 B i f z.1 z.2;subst s;rw[f]at i;cases i
   by_cases q:e%2=0
   .rw[Xi q]at he ⊢;lia
   .rw[Xg q]at he ⊢;lia
  .rw[Xg z];exact g
def Zq1{f:Lay ν}(j:Dis f){φ:Zn ν}{a:Int}(B:0<=a){e c:Nat}(s:c≠e){r:Int}(he:rmE f φ c=some r):∃i,rmE f (YB f a φ e) c=some i/\r<=i:=by
 unfold rmE at he ⊢;cases h:f[c/2]? with
 |none=>rw[h]at he;cases he
 |some y=>
  rw[h]at he;simp only[W9]at he ⊢;refine#[_,rfl,?_];unfold YB;cases m:f[e/2]? with
  |none=>simp only[];lia
  |some x=>
   simp only[];unfold VY;by_cases z:y.1=x.1/\y.2.1=x.2.1
   .rw[Xi z];have A:=K7 j h m z.1 z.2
    by_cases q:e%2=0
    .have g:¬c%2=0:=#[]
     rw[Xg g]at he ⊢;rw[Xi q];lia
    .have g:c%2=0:=#[]
     rw[Xi g]at he ⊢;rw[Xg q];lia
   .rw[Xg z];lia
theorem FV{c:Lay ν}(g:Dis c){a:Int}(i:0<=a):∀{w:Qk} {φ:Zn ν},Within c φ->w.Nodup->(∀e∈w,∃r,rmE c φ e=some r/\a<=r)->Within c (Wu c a φ w)
 |[],_,h,_,_=>h
 |e::w,φ,h,A,m=>by
  obtain⟨C,B⟩:=XM.mp A;obtain⟨r,E,y⟩:=m e Xb;show Within c (Wu c a _ w);refine FV g i (Zml g h i E y) B λM f=>?_;obtain⟨P,j,s⟩:=m M (Xe _ f);obtain⟨q,K,W⟩:=Zq1 g i (e:=e) (λz=>C<|z▸f) j
  exact#[q,K,#[]]
abbrev Got(ν:Type):=List (ν×Option Nat)
def Ze(es:Got ν):List ν:=es.map (·.1)
inductive Tree(H1:Lay ν)(φ:Zn ν)(s:ν):Got ν->Prop
 |root:Tree H1 φ s [(s,none)]
 |add {es:Got ν}{e:Nat}{n m:ν}{r:Int}(t:Tree H1 φ s es)(hn:n∉Ze es)(hh:hdE H1 e=some n)(ht:tlE H1 e=some m)(hm:m∈Ze es)(hr:rmE H1 φ e=some r)(h0:0<r):Tree H1 φ s (es++[(n,some e)])
noncomputable def JJ(es:Got ν)(n:ν):Option (Option Nat):=es.lookup n
def Zlk{es:Got ν}:n∉Ze es->es.lookup n=none:=by
 induction es with
 |nil=>intro _;rfl
 |cons p es c=>
  intro h;have g:n≠p.1:=λz=>h (by rw[z];exact Xb);have f:=λz=>h (Xe _ z);obtain⟨k,v⟩:=p;rw[XX];have:(n==k)=false:=by rw[beq_eq_false_iff_ne];exact g
  rw[this];exact c f
def NT{es c:Got ν}:(es++c).lookup n=(es.lookup n).or (c.lookup n):=by
 grind
inductive Back(H1:Lay ν)(es:Got ν):ν->Qk->Prop
 |nil {n:ν}(h:JJ es n=some none):Back H1 es n []
 |cons {n m:ν}{e:Nat}{w:Qk}(h:JJ es n=some (some e))(t:tlE H1 e=some m)(b:Back H1 es m w):Back H1 es n (e::w)
theorem Back.app{c:Lay ν}{es f:Got ν}:∀{w:Qk} {n:ν},Back c es n w->Back c (es++f) n w
 |_,_,.nil h=>.nil (by unfold JJ at h ⊢;rw[NT,h];rfl)
 |_,_,.cons h t b=>.cons (by unfold JJ at h ⊢;rw[NT,h];rfl) t b.app
structure WayOk(H1:Lay ν)(φ:Zn ν)(s:ν)(es:Got ν)(n:ν)(w:Qk):Prop where
 back:Back H1 es n w
 chain:Chain H1 s n w
 nodup:w.Nodup
 room:∀e∈w,∃r,rmE H1 φ e=some r/\0<r
 heads:∀e∈w,∃m,hdE H1 e=some m/\m∈Ze es
theorem Tree.way{K:Lay ν}{φ:Zn ν}{s:ν}:∀{es:Got ν},Tree K φ s es->∀n∈Ze es,∃w,WayOk K φ s es n w
 |_,.root,n,y=>by
  have e:=by simpa [Ze] using y
  subst e;exact#[[],.nil<|by simp[JJ],.nil,Mb,(by rintro e ⟨⟩),(by rintro e ⟨⟩)]
 |_,.add (es:=es) (e:=e) (n:=k) (m:=m) t E A B P M W,n,y=>by
  have f:n∈Ze es\/n=k:=by simpa [Ze] using y
  have g:∀p,p∈Ze es->p∈Ze (es++[(k,some e)]):=λp C=>by
   unfold Ze at C ⊢;rw[Xx];exact GM _ C
  rcases f with f|rfl
  .obtain⟨w,q⟩:=t.way n f;exact#[w,q.back.app,q.chain,q.nodup,q.room,λi c=>let ⟨j,a,b⟩:=q.heads i c;#[j,a,g _ b]]
  .obtain⟨w,q⟩:=t.way m P;refine#[e::w,.cons ?_ B q.back.app,.cons A B q.chain,XM.mpr #[λz=>?_,q.nodup],λi c=>?_,λi c=>?_]
   .unfold JJ;rw[NT,Zlk E];simp
   .obtain⟨j,a,b⟩:=q.heads e z;rw[A]at a;cases a;exact E b
   .rcases Xc.mp c with rfl|c
    .exact#[_,M,W]
    .exact q.room i c
   .rcases Xc.mp c with rfl|c
    .exact#[n,A,by simp[Ze]]
    .obtain⟨j,a,b⟩:=q.heads i c;exact#[j,a,g _ b]
theorem Tree.nodup{h:Lay ν}{φ:Zn ν}{s:ν}:∀{es:Got ν},Tree h φ s es->(Ze es).Nodup
 |_,.root=>by simp[Ze]
 |_,.add (n:=k) t c _ _ _ _ _=>by
  have:=t.nodup;unfold Ze at this c ⊢;rw[Xx,Md];refine#[this,by simp,λa g b f=>?_];have e:=by simpa using f
  exact λz=>c (e▸z▸g)
theorem Tree.start{c:Lay ν}{φ:Zn ν}{s:ν}:∀{es:Got ν},Tree c φ s es->s∈Ze es
 |_,.root=>by simp[Ze]
 |_,.add t _ _ _ _ _ _=>by
  have:=t.start;unfold Ze at this ⊢;rw[Xx];exact GM _ this
theorem Tree.sub{g:Lay ν}{φ:Zn ν}{s:ν}:∀{es:Got ν},Tree g φ s es->∀n∈Ze es,n∈s::WG g
 |_,.root,n,f=>by
  have e:=by simpa [Ze] using f
  rw[e];exact Xb
 |_,.add (es:=es) (n:=k) t i h _ _ _ _,n,f=>by
  have c:n∈Ze es\/n=k:=by simpa [Ze] using f
  rcases c with c|rfl
  .exact t.sub n c
  .exact Xe _ (List.mem_of_getElem?<|(Kx g _).trans h)
theorem NC{c:Type}[DecidableEq c]:∀{xs ys:List c},xs.Nodup->(∀x∈xs,x∈ys)->xs.length<=ys.length
 |[],_,_,_=>XN _
 |x::xs,ys,j,h=>by
  obtain⟨s,m⟩:=XM.mp j;have g:=h x Xb;have:=NC m λz f=>by
   have i:z≠x:=λq=>s (q▸f)
   exact(List.mem_erase_of_ne i).mpr (h z<|Xe _ f)
  rw[List.length_erase_of_mem g]at this;have:=List.length_pos_of_mem g;rw[XT];lia
def Tree.len{s:ν}{es:Got ν}(t:Tree H1 φ s es):es.length<=(WG H1).length+1:=by
 have:=NC t.nodup t.sub;simpa [Ze] using this
def Yx(c:Lay ν)(φ:Zn ν)(es:Got ν):Prop := ∀e m n r,tlE c e=some m->hdE c e=some n->rmE c φ e=some r->0<r->m∈Ze es->n∈Ze es
end
end Mir
namespace Mir
inductive Nd where
 |start|fin
 |guest (k:Nat)
 |line (l t:Nat)
deriving DecidableEq
structure Gv where
 m:Nat
 ln:Nat->Nat
 wa:Qn
 mo:Qn
 th:Nat->Qm
noncomputable def upN(y:Yd)(l:Nat):Nat:=(Zq y l).getD 0
noncomputable def Vl(y:Yd)(G:Gv)(k:Nat):Lay Nd:=(.start,.guest k,G.wa k)::(List.range y.T).flatMap λt=>if G.th k t=true then [(.guest k,.line (G.ln k) t,G.mo k)] else []
noncomputable def VW(y:Yd)(t:Nat):Lay Nd:=(.line 0 t,.fin,ZO y 0 t)::(List.range<|y.ls.length-1).flatMap λi=>[(.line (i+1) t,.line (upN y<|i+1) t,ZO y (i+1) t)]
noncomputable def Zt(y:Yd)(G:Gv):Lay Nd:=(List.range G.m).flatMap (Vl y G)++(List.range y.T).flatMap (VW y)
def Ly(A B:Lay Nd)(F:Nd->Nd->Int):Vq (A++B) F=Vq A F+Vq B F:=by
 unfold Vq;simp_all
theorem BL(f:Nat->Lay Nd)(F:Nd->Nd->Int):∀n,Vq ((List.range n).flatMap f) F=QC (λk=>Vq (f k) F) n
 |0=>rfl
 |n+1=>by
  rw[WA,Mi,Ly,BL f F n];simp[QC]
def LS(x:Nd×Nd×Int)(F:Nd->Nd->Int):Vq [x] F=F x.1 x.2.1:=by simp[Vq]
def Fr(x:Nd×Nd×Int)(c:Lay Nd)(F:Nd->Nd->Int):Vq (x::c) F=F x.1 x.2.1+Vq c F:=by simp[Vq]
def Zo1(y:Yd)(G:Gv)(F:Nd->Nd->Int)(k:Nat):Vq (Vl y G k) F=F .start (.guest k)+QC (λt=>if G.th k t=true then F (.guest k) (.line (G.ln k) t) else 0) y.T:=by
 unfold Vl;rw[Fr,BL];congr 1;refine Z6 λt _=>?_
 split
 .rw[LS]
 .rfl
def Zpg(y:Yd)(F:Nd->Nd->Int)(t:Nat):Vq (VW y t) F=F (.line 0 t) .fin+QC (λi=>F (.line (i+1) t)<|.line (upN y<|i+1) t) (y.ls.length-1):=by
 unfold VW;rw[Fr,BL];congr 1;refine Z6 λt _=>?_;rw[LS]
def N6(y:Yd)(G:Gv)(F:Nd->Nd->Int):Vq (Zt y G) F =
 QC (λk=>F .start (.guest k)+QC (λt=>if G.th k t=true then F (.guest k) (.line (G.ln k) t) else 0) y.T) G.m +
 QC (λt=>F (.line 0 t) .fin+QC (λi=>F (.line (i+1) t)<|.line (upN y<|i+1) t) (y.ls.length-1)) y.T:=by
 unfold Zt;rw[Ly,BL,BL];congr 1
 .exact Z6 λk _=>Zo1 y G F k
 .exact Z6 λt _=>Zpg y F t
def W5{y:Yd} : x∈Vl y G k↔x=(.start,.guest k,G.wa k)\/∃t,t<y.T/\G.th k t=true/\x=(.guest k,.line (G.ln k) t,G.mo k):=by
 unfold Vl;simp_all
def Jy{y:Yd} : x∈VW y t↔x=(.line 0 t,.fin,ZO y 0 t)\/∃i,i<y.ls.length-1/\x=(.line (i+1) t,.line (upN y<|i+1) t,ZO y (i+1) t):=by
 unfold VW;simp_all
def GC{y:Yd} : x∈Zt y G↔(∃k,k<G.m/\x∈Vl y G k)\/∃t,t<y.T/\x∈VW y t:=by
 unfold Zt;simp_all
def De(n:Nat):(List.range n).Pairwise (· ≠ ·):=List.nodup_range
def Di(y:Yd)(G:Gv):Dis (Zt y G):=by
 unfold Dis List.Nodup;rw[List.pairwise_map];unfold Zt;rw[List.pairwise_append];refine#[?_,?_,?_]
 .rw[Ha];refine#[λk _=>?_,(De _).imp λ{k j} h x c z f=>?_]
  .unfold Vl;rw[List.pairwise_cons];refine#[λx c=>?_,?_]
   .grind
   .rw[Ha];refine#[λt _=>?_,(De _).imp λ{t u} g x c z f=>?_]
    .split
     .exact List.pairwise_singleton _ _
     .exact List.Pairwise.nil
    .split at c
     .split at f
      .rw[Xj.mp c,Xj.mp f];intro q;simp at q;exact g q
      .cases f
     .cases c
  .rcases W5.mp c with rfl|⟨t,_,_,rfl⟩<;>rcases W5.mp f with rfl|⟨u,_,_,rfl⟩<;>intro q<;>simp at q
   .exact h q
   .exact h q.1
 .rw[Ha];refine#[λt _=>?_,(De _).imp λ{t u} g x c z f=>?_]
  .unfold VW;rw[List.pairwise_cons];refine#[λx c=>?_,?_]
   .grind
   .rw[Ha];refine#[λt _=>List.pairwise_singleton _ _,(De _).imp λ{i j} m x c z f=>?_];rw[Xj.mp c,Xj.mp f];intro q;simp at q;exact m q.1
  .rcases Jy.mp c with rfl|⟨i,_,rfl⟩<;>rcases Jy.mp f with rfl|⟨j,_,rfl⟩<;>intro q<;>simp at q
   .exact g q
   .exact g q.1.2
 .intro x c z f;obtain⟨k,_,c⟩:=Hc.mp c;obtain⟨t,_,f⟩:=Hc.mp f;rcases W5.mp c with rfl|⟨s,_,_,rfl⟩<;>rcases Jy.mp f with rfl|⟨j,_,rfl⟩<;>intro q<;>simp at q
end Mir
namespace Mir
noncomputable def Zs(G:Gv)(φ:Zn Nd)(t k:Nat):Int:=if G.th k t=true then φ (.guest k) (.line (G.ln k) t) else 0
noncomputable def upF(y:Yd)(φ:Zn Nd)(t l:Nat):Int:=if l=0 then φ (.line 0 t) .fin else φ (.line l t) (.line (upN y l) t)
theorem N3(f:Qn):∀n,QC f (n+1)=f 0+QC (λi=>f<|i+1) n
 |0=>by simp[QC]
 |n+1=>by
  show QC f _+f _=_;rw[N3 f n];simp[QC]
  lia
def VB[Decidable p](h:¬p):ind p=0:=Xg h
def K0{q:Prop}[Decidable p][Decidable q](h:p↔q):ind p=ind q:=by unfold ind;simp only[h]
def Zol(y:Yd)(G:Gv)(φ:Zn Nd){k0:Nat}(f:k0<G.m):VJ (Zt y G) φ (.guest k0)=QC (λt=>Zs G φ t k0) y.T-φ .start (.guest k0):=by
 unfold VJ;rw[N6];have g:QC (λt=>φ (.line 0 t) .fin*(ind (Nd.line 0 t=.guest k0)-ind (Nd.fin=.guest k0))+QC (λi=>φ (.line (i+1) t) (.line (upN y<|i+1) t)*(ind (Nd.line (i+1) t=.guest k0)-ind (Nd.line (upN y<|i+1) t=.guest k0))) (y.ls.length-1)) y.T=0:=by
  rw[Z6 λt _=>?_,Yp];rw[VB (by rintro⟨⟩),VB (by rintro⟨⟩),Z6 λi _=>?_,Yp]
  .simp
  . simp
 rw[g,Int.add_zero];rw[Z6 λk _=>?_,G3,Xi f];rw[VB λz=>nomatch z]
 by_cases e:k=k0
 .subst e;have:QC (λt=>if G.th k t=true then φ (.guest k) (.line (G.ln k) t)*(ind (Nd.guest k=.guest k)-ind (Nd.line (G.ln k) t=.guest k)) else 0) y.T=QC (λt=>Zs G φ t k) y.T:=by
   refine Z6 λt _=>?_;unfold Zs;split
   .simp[ind]
   .rfl
  rw[this];simp[ind];lia
 .have c:¬Nd.guest k=.guest k0:=λz=>e (by injection z)
  rw[Xg e,VB c,Z6 λt _=>?_,Yp]
  .simp
  .rw[VB λz=>nomatch z];simp
def KY{y:Yd}(f:y.Ok){c:Nat}(h0:0<c)(g:c<y.ls.length):upN y c=l↔Zq y c=some l:=by
 obtain⟨a,h,_⟩:=f.ups c h0 g;unfold upN;rw[h];simp
def ZqZ{y:Yd}(f:y.Ok)(G:Gv)(φ:Zn Nd)(s:l<y.ls.length)(h:t0<y.T):VJ (Zt y G) φ (.line l t0) =
 upF y φ t0 l-QC (λk=>Zs G φ t0 k*ind (G.ln k=l)) G.m-QC (λc=>if Zq y c=some l then upF y φ t0 c else 0) y.ls.length:=by
 unfold VJ;rw[N6];have B:QC (λk=>φ .start (.guest k)*(ind (Nd.start=.line l t0)-ind (Nd.guest k=.line l t0))+QC (λt=>if G.th k t=true then φ (.guest k) (.line (G.ln k) t)*(ind (Nd.guest k=.line l t0)-ind (Nd.line (G.ln k) t=.line l t0)) else 0) y.T) G.m = - QC (λk=>Zs G φ t0 k*ind (G.ln k=l)) G.m:=by
  rw[show-QC (λk=>Zs G φ t0 k*ind (G.ln k=l)) G.m=(-1)*QC (λk=>Zs G φ t0 k*ind (G.ln k=l)) G.m by lia,<- Dr];refine Z6 λk _=>?_;rw[VB (by rintro⟨⟩),VB λz=>nomatch z];rw[Z6 (g:=λt=>if t=t0 then-(Zs G φ t0 k*ind (G.ln k=l)) else 0) λt _=>?_,G3,Xi h]
  .simp
  .by_cases e:t=t0
   .subst e;rw[Xi rfl,K0 (q:=G.ln k=l)<|by simp];unfold Zs;split
    .rw[Int.zero_sub,Int.mul_neg]
    .simp
   .rw[Xg e,VB λz=>e<|by injection z];simp
 rw[B];have A:QC (λt=>φ (.line 0 t) .fin*(ind (Nd.line 0 t=.line l t0)-ind (Nd.fin=.line l t0))+QC (λi=>φ (.line (i+1) t) (.line (upN y<|i+1) t)*(ind (Nd.line (i+1) t=.line l t0)-ind (Nd.line (upN y<|i+1) t=.line l t0))) (y.ls.length-1)) y.T
  = upF y φ t0 l-QC (λc=>if Zq y c=some l then upF y φ t0 c else 0) y.ls.length:=by
  rw[Z6 λt _=>?_,G3,Xi h];rw[VB (p:=Nd.fin=.line l t0) λz=>nomatch z]
  by_cases e:t=t0
  .subst e;rw[Xi rfl,K0 (q:=0=l)<|by simp];have j:y.ls.length=(y.ls.length-1)+1:=#[]
   have K:upF y φ t l=QC (λc=>if c=l then upF y φ t l else 0) y.ls.length:=by rw[G3,Xi s]
   have E:∀c,c<y.ls.length->(if c=l then upF y φ t l else 0)=upF y φ t c*ind (c=l):=λc _=>by
    by_cases q:c=l
    .subst q;simp[ind]
    .simp[ind,q]
   rw[K,Z6 E,j,N3,N3];have m:¬Zq y 0=some l:=λz=>by rw[f.up0]at z;cases z
   have f0:upF y φ t 0=φ (.line 0 t) .fin:=by unfold upF;rw[Xi rfl]
   rw[Xg m,f0,<- j];have C:QC (λi=>φ (.line (i+1) t) (.line (upN y<|i+1) t)*(ind (Nd.line (i+1) t=.line l t)-ind (Nd.line (upN y<|i+1) t=.line l t))) (y.ls.length-1)
    = QC (λi=>upF y φ t (i+1)*ind (i+1=l)) (y.ls.length-1)+QC (λi => -1*(if Zq y (i+1)=some l then upF y φ t (i+1) else 0)) (y.ls.length-1):=by
    rw[<- BI];refine Z6 λi M=>?_;rw[ K0 (p:=Nd.line (upN y<|i+1) t=.line l t) (q:=Zq y (i+1)=some l) (by rw[<- KY f #[] #[]];simp)]
    have:upF y φ t (i+1)=φ (.line (i+1) t) (.line (upN y<|i+1) t):=by unfold upF;rw[Xg<|#[]]
    rw[this,GQ];by_cases q:Zq y (i+1)=some l
    . simp[ind,q];lia
    . simp[ind,q]
   rw[C,Dr];simp only[Int.sub_zero];lia
  .rw[Xg e,VB (λz=>e<|by injection z),Z6 λi _=>?_,Yp]
   .simp
   .rw[VB (λz=>e<|by injection z),VB λz=>e<|by injection z];simp
 rw[A];lia
end Mir
namespace Mir
section
variable {ν:Type} [DecidableEq ν]
def Yx.fwd(hw:Within H1 φ){es:Got ν}(h:Yx H1 φ es){x:ν×ν×Int}(g:x∈H1)(m:x.1∈Ze es)(j:x.2.1∉Ze es):φ x.1 x.2.1=x.2.2:=by
 obtain⟨i,c⟩:=List.mem_iff_getElem?.mp g;have e:(2*i)/2=i:=#[]
 have f:(2*i)%2=0:=#[]
 by_cases z:φ x.1 x.2.1=x.2.2
 .exact z
 .have:=hw x g;exact Xu (h _ x.1 x.2.1 (x.2.2-φ x.1 x.2.1) (by unfold tlE;rw[e,c,f];rfl) (by unfold hdE;rw[e,c,f];rfl) (by unfold rmE;rw[e,c,f];rfl) #[] m) j
def Yx.bwd(hw:Within H1 φ){es:Got ν}(h:Yx H1 φ es){x:ν×ν×Int}(g:x∈H1)(m:x.1∉Ze es)(j:x.2.1∈Ze es):φ x.1 x.2.1=0:=by
 obtain⟨i,c⟩:=List.mem_iff_getElem?.mp g;have e:(2*i+1)/2=i:=#[]
 have f:¬(2*i+1)%2=0:=#[]
 by_cases z:φ x.1 x.2.1=0
 .exact z
 .have:=hw x g;exact Xu (h _ x.2.1 x.1 (φ x.1 x.2.1) (by unfold tlE;rw[e,c];simp[f]) (by unfold hdE;rw[e,c];simp[f]) (by unfold rmE;rw[e,c];simp[f]) #[] j) m
end
structure Flow(y:Yd)(G:Gv)(φ:Zn Nd):Prop where
 wi:Within (Zt y G) φ
 kp:∀n,n≠.start->n≠.fin->VJ (Zt y G) φ n=0
def TQ{y:Yd}(c:k<G.m):((.start,.guest k,G.wa k):Nd×Nd×Int)∈Zt y G:=GC.mpr (.inl #[k,c,W5.mpr<|.inl rfl])
def MX{y:Yd}(f:k<G.m)(c:t<y.T)(h:G.th k t=true):((.guest k,.line (G.ln k) t,G.mo k):Nd×Nd×Int)∈Zt y G:=GC.mpr (.inl #[k,f,W5.mpr<|.inr #[t,c,h,rfl]])
def PF{y:Yd}(c:t<y.T):((.line 0 t,.fin,ZO y 0 t):Nd×Nd×Int)∈Zt y G:=GC.mpr (.inr #[t,c,Jy.mpr<|.inl rfl])
def HB{y:Yd}(c:t<y.T)(h0:0<l)(f:l<y.ls.length):((.line l t,.line (upN y l) t,ZO y l t):Nd×Nd×Int)∈Zt y G:=
 GC.mpr (.inr #[t,c,Jy.mpr<|.inr #[l-1,#[],by rw[show l-1+1=l by lia]]])
noncomputable def moT(G:Gv)(t k:Nat):Int:=if G.th k t=true then G.mo k else 0
section
variable {y:Yd}{G:Gv}{φ:Zn Nd}(F:Flow y G φ)
include F
theorem Flow.tak(g:k<G.m)(f:t<y.T):0<=Zs G φ t k/\Zs G φ t k<=moT G t k:=by
 unfold Zs moT;by_cases c:G.th k t=true
 .rw[Xi c,Xi c];exact F.wi _ (MX g f c)
 .simp_all
theorem Flow.total(c:k<G.m):QC (λt=>Zs G φ t k) y.T=φ .start (.guest k):=by
 have:=F.kp (.guest k) (by rintro⟨⟩) (by rintro⟨⟩);rw[Zol y G φ c]at this;lia
theorem Flow.want(c:k<G.m):0<=φ .start (.guest k)/\φ .start (.guest k)<=G.wa k:=F.wi _ (TQ c)
theorem Flow.up(g:y.Ok)(f:∀k,k<G.m->G.ln k<y.ls.length){t:Nat}(j:t<y.T):∀n l,y.ls.length<=l+n->l<y.ls.length->upF y φ t l=Vw y G.m G.ln (Zs G φ t) l
 |0,l,h,i=>#[]
 |n+1,l,h,i=>by
  have z:=F.kp (.line l t) (by rintro⟨⟩) (by rintro⟨⟩);rw[ZqZ g G φ i j]at z;have e:QC (λc=>if Zq y c=some l then upF y φ t c else 0) y.ls.length=QC (λc=>if Zq y c=some l then Vw y G.m G.ln (Zs G φ t) c else 0) y.ls.length:=by
   refine Z6 λc m=>?_
   by_cases u:Zq y c=some l
   .rw[Xi u,Xi u];have:=Gf g m u;exact Flow.up g f j n c #[] m
   .rw[Xg u,Xg u]
  rw[BR g f _ i,<- e];lia
theorem Flow.up_ok(g:y.Ok)(c:t<y.T)(f:l<y.ls.length):0<=upF y φ t l/\upF y φ t l<=ZO y l t:=by
 unfold upF;by_cases z:l=0
 .subst z;exact F.wi _ (PF c)
 .rw[Xg z];exact F.wi _ (HB c #[] f)
theorem Flow.load(f:y.Ok)(c:∀k,k<G.m->G.ln k<y.ls.length)(g:t<y.T)(h:l<y.ls.length):Vw y G.m G.ln (Zs G φ t) l<=ZO y l t:=by
 rw[<- F.up f c g y.ls.length l #[] h];exact(F.up_ok f g h).2
noncomputable def VV(es:Got Nd)(k:Nat):Bool:=decide (Nd.guest k∈Ze es)
def C5(es:Got Nd)(t l:Nat):Bool:=decide (Nd.line l t∈Ze es)
omit F in
theorem not_of[Decidable p](h:decide p=false):¬p:=Mg h
theorem Flow.shut(ok:y.Ok)(g:∀k,k<G.m->G.ln k<y.ls.length){es:Got Nd}(h:Yx (Zt y G) φ es)(m:Nd.fin∉Ze es)(f:t<y.T):
 Shut y G.m G.ln (Zs G φ t) (moT G t) (λl=>ZO y l t) (VV es) (C5 es t) where
 nn k hk:=(F.tak hk f).1
 full k hk hS hR:=by
  unfold Zs moT;by_cases c:G.th k t=true
  .rw[Xi c,Xi c];exact h.fwd F.wi (MX hk f c) (WC hS) (not_of hR)
  .rw[Xg c,Xg c]
 none k hk hS hR:=by
  unfold Zs;by_cases c:G.th k t=true
  .rw[Xi c];exact h.bwd F.wi (MX hk f c) (not_of hS) (WC hR)
  .rw[Xg c]
 top hR:=by
  have h0:=ok.l1;rw[<- F.up ok g f y.ls.length 0 #[] #[]];exact h.fwd F.wi (PF f) (WC hR) m
 out c a hcl u h1 h2:=by
  have j:c≠0:=λz=>by subst z;rw[ok.up0]at u;cases u
  have i:=(KY ok #[] hcl).mpr u;rw[<- F.up ok g f y.ls.length c #[] hcl];unfold upF;rw[Xg j];exact h.fwd F.wi (HB f #[] hcl) (WC h1) (by rw[i];exact not_of h2)
 inn c a hcl u h1 h2:=by
  have j:c≠0:=λz=>by subst z;rw[ok.up0]at u;cases u
  have i:=(KY ok #[] hcl).mpr u;rw[<- F.up ok g f y.ls.length c #[] hcl];unfold upF;rw[Xg j];exact h.bwd F.wi (HB f #[] hcl) (not_of h1) (by rw[i];exact WC h2)
theorem Flow.filled{es:Got Nd}(g:Yx (Zt y G) φ es)(f:Nd.start∈Ze es)(c:k<G.m)(h:VV es k=false):QC (λt=>Zs G φ t k) y.T=G.wa k:=by
 rw[F.total c];exact g.fwd F.wi (TQ c) f (not_of h)
noncomputable def Us(G:Gv)(S:Qm)(t l:Nat):Int:=QC (λk=>Z1 S (moT G t) k*ind (G.ln k=l)) G.m
omit F in
theorem Tz{y:Yd}(c:y.Ok):∀n j,j<n->j<y.ls.length->0∈upL y j
 |0,j,h,_=>#[]
 |n+1,j,h,f=>by
  by_cases z:j=0
  .subst z;exact No y 0
  .obtain⟨a,g,i⟩:=c.ups j #[] f;exact(Ke c #[] f g 0 λq=>z q.symm).mpr (Tz c n a #[]<|#[])
omit F in
theorem LB(g:y.Ok){m:Nat}(c:∀k,k<m->ln k<y.ls.length)(f:Qn):Vw y m ln f 0=QC f m:=
 Z6 λk h=>by
  unfold ind;rw[Xi<|Tz g _ _ (J7 _)<|c k h,Int.mul_one]
theorem Flow.no_more(g:y.Ok)(c:∀k,k<G.m->G.ln k<y.ls.length)(S:Qm)(h:t<y.T):QC (Z1 S<|Zs G φ t) G.m<=passes y (λl=>ZO y l t) (Us G S t) 0:=by
 have s:=g.l1;rw[<- LB g c];refine Mir.no_more g c (λl j=>?_) (λl j=>?_) y.ls.length 0 #[] #[]
 .refine WS λk i=>?_
  have q:=F.tak i h
  by_cases e:G.ln k=l
  .unfold Z1 ind;split<;>lia
  .rw[VB e];lia
 .have q:=F.load g c h j;have m:=Tw (y:=y) (ln:=G.ln) (f:=Z1 S _) (λk i=>Nc (F.tak i h).1) l;lia
theorem Flow.meet(f:y.Ok)(c:∀k,k<G.m->G.ln k<y.ls.length){es:Got Nd}(i:Yx (Zt y G) φ es)(h:Nd.fin∉Ze es)(g:t<y.T):
 passes y (λl=>ZO y l t) (Us G (VV es) t) 0=QC (Z1 (VV es)<|Zs G φ t) G.m:=by
 have j:=f.l1;have a:=F.no_more f c (VV es) g;have b:=(F.shut f c i h g).all f c (own:=Us G _ t) (λl m=>rfl) y.ls.length 0 #[] #[] (λ_=>.inl rfl);rw[LB f c]at b;lia
omit F in
theorem Nv(f g:Qn):∀n,QC (λk=>f k-g k) n=QC f n-QC g n
 |0=>rfl
 |n+1=>by
  simp only[QC];rw[Nv f g n];lia
theorem Flow.lack(g:y.Ok)(c:∀k,k<G.m->G.ln k<y.ls.length){es:Got Nd}(f:Yx (Zt y G) φ es)(i:Nd.start∈Ze es)(m:Nd.fin∉Ze es):
 QC (λk=>G.wa k-QC (λt=>Zs G φ t k) y.T) G.m=QC (Z1 (VV es) G.wa) G.m-QC (λt=>passes y (λl=>ZO y l t) (Us G (VV es) t) 0) y.T:=by
 rw[Z6 λt h=>F.meet g c f m h,D2,<- Nv];refine Z6 λk j=>?_
 cases s:VV es k with
 |true=>
  have:QC (λt=>Z1 _ (Zs G φ t) k) y.T=QC _ y.T:=Z6 λt _=>by unfold Z1;rw[Xi s]
  rw[this];unfold Z1;rw[Xi s]
 |false=>
  have:QC (λt=>Z1 (VV es) (Zs G φ t) k) y.T=0:=by
   rw[Z6 λt _=>?_,Yp];unfold Z1;simp_all
  rw[this,F.filled f i j s];unfold Z1;simp_all
omit F in
theorem Zn5(y:Yd)(G:Gv)(φ:Zn Nd):VJ (Zt y G) φ .start=QC (λk=>φ .start<|.guest k) G.m:=by
 unfold VJ;rw[N6];have c:QC (λt=>φ (.line 0 t) .fin*(ind (Nd.line 0 t=.start)-ind (Nd.fin=.start))+QC (λi=>φ (.line (i+1) t) (.line (upN y<|i+1) t)*(ind (Nd.line (i+1) t=.start)-ind (Nd.line (upN y<|i+1) t=.start))) (y.ls.length-1)) y.T=0:=by
  rw[Z6 λt _=>?_,Yp];rw[VB (by rintro⟨⟩),VB (by rintro⟨⟩),Z6 λi _=>?_,Yp]
  .simp
  . simp
 rw[c,Int.add_zero];refine Z6 λk _=>?_;rw[VB (p:=Nd.guest k=.start) (by rintro⟨⟩),Z6 λt _=>?_,Yp]
 .simp[ind]
 .rw[VB λz=>nomatch z];simp
theorem Flow.push(h:0<=a){w:Qk}(hw:Chain (Zt y G) .start .fin w)(hn:w.Nodup)(g:∀e∈w,∃r,rmE (Zt y G) φ e=some r/\a<=r):
 Flow y G (Wu (Zt y G) a φ w)/\VJ (Zt y G) (Wu (Zt y G) a φ w) .start=VJ (Zt y G) φ .start+a:=by
 refine#[#[FV (Di y G) h F.wi hn g,λn f c=>?_],?_]
 .rw[Ni (Di y G) n hw,F.kp n f c,VB λz=>f z.symm,VB λz=>c z.symm];simp
 .rw[Ni (Di y G) .start hw];simp[ind]
theorem Flow.most:VJ (Zt y G) φ .start<=QC G.wa G.m:=by
 rw[Zn5];exact WS λk c=>(F.want c).2
end
def Aj{y:Yd}(h:∀x∈Zt y G,0<=x.2.2):Flow y G (λ_ _=>0):=by
 refine#[λx g=>#[UQ _,h x g],λn _ _=>?_];have:∀c:Lay Nd,(c.map λx=>(0)*(ind (x.1=n)-ind (x.2.1=n))).sum=0:=λc=>by
  induction c with
  |nil=>rfl
  |cons x c f=>rw[Xv,US,f];simp
 exact this _
end Mir
namespace Mir
def Zob(e:Nat):Builtin.bitAnd (e:Int) 1=((e%2:Nat):Int):=by
 show((((e:Int).toNat &&& (1:Int).toNat)):Int)=_
 simp_all
def Ev(e:Nat):e ||| 1=e+1-e%2:=by
 apply Nat.eq_of_testBit_eq;intro i;rw[Nat.testBit_or];have c:e%2=0\/e%2=1:=#[]
 cases i with
 |zero=>
  rw[Nat.testBit_zero,Nat.testBit_zero,Nat.testBit_zero];grind
 |succ i=>
  rw[Nat.testBit_succ,Nat.testBit_succ,Nat.testBit_succ];have:(e+1-e%2)/2=e/2:=#[]
  rw[this];simp
def ZpJ(e:Nat):Builtin.bitOr (e:Int) 1=((e+1-e%2:Nat):Int):=by
 unfold Builtin.bitOr;have a:Builtin.bitNot (e) = -(e)-1:=rfl;have b:Builtin.bitNot 1 = -2:=rfl;have c:Builtin.bitAnd (Builtin.bitNot<|e) (Builtin.bitNot 1)=Builtin.bitNot (((e ||| 1:Nat))):=by
  rw[a];unfold Builtin.bitAnd;have f:decide ((0:Int) <= -(e)-1)=false:=XD #[];rw[f];show Builtin.bitNot ((((Builtin.bitNot _).toNat ||| (Builtin.bitNot (-2)).toNat)))=_;have h:(Builtin.bitNot (-(e)-1)).toNat=e:=by show(-_-1).toNat=e;lia
  have g:(Builtin.bitNot (-2)).toNat=1:=rfl;rw[h,g]
 rw[c,Ev];show -(-_-1)-1=_
 lia
def Rm(e:Nat):Builtin.bitXor (e:Int) 1=(ZgV e:Int):=by
 unfold Builtin.bitXor;rw[Zob,ZpJ];unfold ZgV;split<;>lia
end Mir
namespace L2
abbrev KK:=List Key×List Key
def J8(P:Program)(w:World)(a:Addr)(xs:List (KK×Addr×V))(h:Heap):Prop:=xs.length<=sizeLine/\(a==sysModules)=false/\∃c:List (KK×Addr×Value),
 Paired (λ(x:KK×Addr×V) (y:KK×Addr×Value)=>x.1=y.1/\x.2.1=y.2.1/\QR x.2.2 y.2.2) xs c/\
 ∃o es f,h.get? a=some o/\o.ExactDict/\o.data=.dict es f/\es.toList=c.map (entryOfKey<|Nj<|V6 P w)/\(c.map (·.1)).Nodup
def pdO(P:Program)(w:World)(a:Addr)(xs:List (KK×Addr×V)):HO:=.ext (J8 P w a xs)
def J8.move{xs:List (KK×Addr×V)}(x:J8 P w a xs h1)(k:∀o,h1.get? a=some o->h2.get? a=some o):J8 P w a xs h2:=by
 obtain⟨z,y,c,r,o,es,f,m,j,i,h,g⟩:=x;exact#[z,y,c,r,o,es,f,k _ m,j,i,h,g]
def J8.ok{xs:List (KK×Addr×V)}(x:J8 P w a xs h):ZT P w H h a (pdO P w a xs):=by
 refine#[x,?_,λi g y k=>y.move k];obtain⟨z,y,f,r,o,es,j,c,_⟩:=x;exact#[o,c]
def Vv(H:Hp)(k:KK)(b:Addr):Prop := ∃p q,H b=some (.tup [.ref p,.ref q])/\H p=some (.tup<|k.1.map kV)/\H q=some (.tup<|k.2.map kV)
def Vv.mono(s:∀b ys,H b=some (.tup ys)->U b=some (.tup ys)){b:Addr}(x:Vv H k b):Vv U k b:=by
 obtain⟨p,q,g,f,c⟩:=x;exact#[p,q,s _ _ g,s _ _ f,s _ _ c]
section
variable {w:World}{H:Hp}{a b:Addr}
def Dm(a:HOk P w H h)(x:Vv H k b):(Nj<|V6 P w).is h k b:=by
 obtain⟨p,q,m,j,i⟩:=x;obtain⟨_,g,r,o,A,y,n,s⟩:=(a b _ m)
 cases r with
 |cons f r=>
  cases r with
  |cons c r=>
   cases r;cases (f);cases (c);exact#[o,n,p,q,A,y,s,WM a j,WM a i]
def HF{xs:List (KK×Addr×V)}(f:HOk P w H h)(e:H a=some (pdO P w a xs))(g:∀x∈xs,Vv H x.1 x.2.1):xs.length<=sizeLine/\(a==sysModules)=false/\∃vs,
 Paired (λ(x:KK×Addr×V) (y:KK×Addr×Value)=>x.1=y.1/\x.2.1=y.2.1/\QR x.2.2 y.2.2) xs vs/\h.DictOfH (Nj<|V6 P w) a vs:=by
 obtain⟨⟨z,y,vs,r,o,es,A,E,C,B,j,i⟩,c⟩:=(f a _ e);refine#[z,y,vs,r,o,es,A,E,C,B,j,?_,i];clear i j z e c;induction r with
 |nil=>intro x b;exact nomatch b
 |@cons p q ps K M t m=>
  intro x b;rcases Xc.mp b with rfl|b
  .have:=Dm f (g p Xb);simp_all
  .exact m (λz s=>g z<|Xe _ s) x b
end
noncomputable def Y9(xs:List (KK×Addr×V))(k:KK):Option V:=(xs.find? λx=>decide (x.1=k)).map (·.2.2)
abbrev RPD:=Paired (λ(x:KK×Addr×V) (y:KK×Addr×Value)=>x.1=y.1/\x.2.1=y.2.1/\QR x.2.2 y.2.2)
def RPD.val(k:KK){xs:List (KK×Addr×V)}(r:RPD xs vs):Vk (Y9 xs k) ((atKey vs k).map (·.2)):=by
 induction r with
 |nil=>exact True.intro
 |@cons p q ps c f t i=>
  by_cases e:p.1=k
  .have h:Y9 (p::ps) k=some p.2.2:=by simp[Y9, e]
   have g:(atKey (q::c) k).map (·.2)=some q.2.2:=by simp[atKey, <- f.1,e]
   rw[h,g];exact f.2.2
  .have h:Y9 (p::ps) k=Y9 ps k:=by simp[Y9, e]
   have g:(atKey (q::c) k).map (·.2)=(atKey c k).map (·.2):=by simp[atKey, <- f.1,e]
   simp_all
noncomputable def JC(xs:List (KK×Addr×V))(k:KK)(b:Addr)(v:V):List (KK×Addr×V):=if (Y9 xs k).isSome=true then xs.map (λx=>if x.1=k then (x.1,x.2.1,v) else x) else xs++[(k,b,v)]
def RPD.repl(k:KK)(f:QR v u){xs:List (KK×Addr×V)}(r:RPD xs vs):RPD (xs.map λx=>if x.1=k then (x.1,x.2.1,v) else x) (vs.map<|putAt k u):=by
 induction r with
 |nil=>exact .nil
 |@cons p q ps h c t g=>
  rw[Xv];refine .cons ?_ g;unfold putAt;by_cases e:p.1=k
  .rw[Xi e,Xi<|c.1▸e];exact#[c.1,c.2.1,f]
  .rw[Xg e,Xg<|c.1▸e];exact c
theorem Vk.some_eq:∀{x:Option V} {y:Qf},Vk x y->x.isSome=y.isSome
 |none,none,_=>rfl
 |some _,some _,_=>rfl
 |none,some _,h=>by cases h
 |some _,none,h=>by cases h
def RPD.put(k:KK)(b:Addr)(c:QR v u){xs:List (KK×Addr×V)}(r:RPD xs vs):RPD (JC xs k b v) (storedH vs k b u):=by
 have e:=Vk.some_eq (r.val k);rw[Ue]at e;unfold JC storedH;rw[e];split
 .exact r.repl k c
 .exact Paired.snoc r #[rfl,rfl,c]
def Zlq(xs:List (KK×Addr×V))(k:KK)(b:Addr)(v:V):(JC xs k b v).length<=xs.length+1:=by
 unfold JC;split<;>simp
section
variable {O:St}{H:Hp}{a b:Addr}{v:V}{r:Value}{pos:Qb}{xs:List (KK×Addr×V)}{k:KK}
def Zpv(n:A.units+6<cLine)(I:Qt X Y O H s)(e:H a=some (pdO X.prog X.w a xs))(B:∀x∈xs,Vv H x.1 x.2.1)(E:Vv H k b)(l:xs.length<sizeLine)(m:QR v r)
(h:∀g,Qt X Y O (upd H a<|pdO X.prog X.w a<|JC xs k b v) g->Q () g):wpAny (model X.prog X.w) A (setItem (.ref a) (.ref b) r) Q pos s:=by
 obtain⟨z,C,j,c,dd⟩:=HF I.hok e B;have d:j.length<=sizeLine:=by rw[<- Paired.length c];exact z
 refine wpAny_setItem_heap (show A.units+1+5<cLine by lia) (Dm I.hok E) dd λh' f y=>h _ ?_;obtain⟨q,es,Z,i,W,P,M,_,K⟩:=f;exact BD I (by rw[e];exact True.intro) y #[q,i] (J8.ok #[by have:=Zlq xs k b v;lia,C,_,RPD.put k b m c,q,es,Z,i,W,P,M,K])
def Zo5(y:A.units+6<cLine)(I:Qt X Y O H s)(e:H a=some (pdO X.prog X.w a xs))(q:∀x∈xs,Vv H x.1 x.2.1)(r:Vv H k b)(m:Y9 xs k=some v)
(h:∀u i,Qt X Y O H i->QR v u->Q u i):wpAny (model X.prog X.w) A (getItem (.ref a)<|.ref b) Q pos s:=by
 obtain⟨z,B,j,f,dd⟩:=HF I.hok e q;have c:=RPD.val k f;rw[m]at c;cases g:atKey j k with
 |none=>rw[g]at c;cases c
 |some p=>
  rw[g]at c;exact wpAny_getItem_heap (show A.units+1+5<cLine by lia) (Dm I.hok r) dd g (h _ _ (I.tok _) c)
def Ec(r:A.units+6<cLine)(I:Qt X Y O H s)(e:H a=some (pdO X.prog X.w a xs))(i:∀x∈xs,Vv H x.1 x.2.1)(m:Vv H k b)
(h:∀f,Qt X Y O H f->Q (.bool<|!(Y9 xs k).isSome) f):wpAny (model X.prog X.w) A (compareOp .NotIn (.ref b)<|.ref a) Q pos s:=by
 obtain⟨z,j,q,c,dd⟩:=HF I.hok e i;have g:=Vk.some_eq (RPD.val k c);rw[Ue]at g;refine wpAny_notIn_heap (show A.units+1+5<cLine by lia) (Dm I.hok m) j dd ?_;rw[<- g];exact h _ (I.tok _)
end
end L2
namespace L2
section
variable {O:St}{H:Hp}{a b:Addr}{d:V}{r:Value}{pos:Qb}{kvs:List (List Key×V)}{k:List Key}
def ZrP(M:A.units+1<cLine)(I:Qt X Y O H s)(e:H a=some (.dT kvs))(C:H b=some (.tup<|k.map kV))(l:kvs.length<sizeLine)(E:QR d r)
(o:∀v u i,ZA kvs k=some v->Qt X Y O H i->QR v u->Q u i)(n:ZA kvs k=none->∀i,Qt X Y O (upd H a<|.dT<|kvs++[(k,d)]) i->Q r i):
 wpAny (model X.prog X.w) A (call (.builtin "dict.setdefault") [.ref a,.ref b,r]) Q pos s:=by
 obtain⟨z,B,xs,g,dd⟩:=HD I.hok e;have K:xs.length<=sizeLine:=by rw[<- Paired.length g];exact z
 have f:=g.val k;refine call_meetsIn PySem.F.slot_dict_setdefault dd.typeIs PySem.F.entry_dict_setdefault (PySem.F.args_dict_setdefault_3 _ _ _) (Ze2 _ a b B r)
  #[tupleKind_room_in1 M,k,xs,WM I.hok C,dd,K,λp W=>?_,λZ h' m P=>?_]
 .rw[W]at f;cases h:ZA kvs k with
  |none=>rw[h]at f;cases f
  |some v=>rw[h]at f;exact o v _ _ h (I.tok _) f
 .have h:ZA kvs k=none:=by
   rw[Z]at f;cases h:ZA kvs k with
   |none=>rfl
   |some v=>rw[h]at f;cases f
  refine n h _ ?_;obtain⟨q,es,F,y,D,x,w,_,t⟩:=m;refine BD I (by rw[e];exact True.intro) P #[q,y] #[by simp;lia,B,_,(show KT H _ _ from Paired.snoc g #[rfl,C,E]).keeps λc ys j=>?_,q,es,F,y,D,x,w,t];rw[Qu λz=>by subst z;rw[e]at j;cases j];exact j
end
def P1(td g tx:TE):TE:=λO H Q=>td O H λx L=>∃a,x=.ref a/\IsD L a/\g O L λy h=>tx O h λz f=>∃c k b,y=.ref b/\f a=some (.dT c)/\f b=some (.tup<|k.map kV)/\c.length<sizeLine/\
 (∀v,ZA c k=some v->Q v f)/\(ZA c k=none->Q z (upd f a<|.dT<|c++[(k,z)]))
section
variable {o e f value:Expr}{ty:TE}
def OE(t:X.A.units+1<cLine)(w:PE X o td)(he:PE X e ty)(D:PE X f tx)(m:M2 X o "setdefault" X3 e f UH):PE X (.Call (.Attribute o "setdefault" X3) [e,f] [] UH) (P1 td ty tx):=by
 intro Y s O H Q I h;refine wpAny_Call_method m.base m.few m.line PySem.F.plainAttrs_dict PySem.F.slot_dict_setdefault PySem.F.type_dict_setdefault (Q8 (w Y s O H _ I h) ?_);rintro u C ⟨x,L,j,M,a,G,d,p⟩;subst G;obtain rfl:=M;obtain⟨A,q,_⟩:=P4 j d;refine#[A,q,?_];rw[m.trees];refine Calls.callWith_builtin rfl (Calls.evalArgs_plain (Calls.spliced_cons (Q8 (he Y C O L _ j p) λiv B ⟨y,U,S,K,n⟩=>
  Calls.spliced_cons (Q8 (D Y B O U _ S n) λfv s3 ⟨z,T,R,i,r,k,b,F,N,J,l,Z,W⟩=>Calls.spliced_nil ?_))))
 subst F;cases (K);exact ZrP t R N J l i (λv u E c g P=>#[v,T,g,P,Z v c]) (λc E g=>#[z,_,g,i,W c])
def SK(P:Program)(w:World)(td ty:TE):TE:=λO H Q=>td O H λx L=>ty O L λy c=>∃a b xs k v,x=.ref a/\y=.ref b/\c a=some (pdO P w a xs)/\(∀x∈xs,Vv c x.1 x.2.1)/\Vv c k b/\Y9 xs k=some v/\Q v c
def Tv(P:Program)(w:World)(ty td:TE):TE:=λO H Q=>ty O H λy L=>td O L λx c=>∃a b xs k,x=.ref a/\y=.ref b/\c a=some (pdO P w a xs)/\(∀x∈xs,Vv c x.1 x.2.1)/\Vv c k b/\Q (.bl<|!(Y9 xs k).isSome) c
def SD(P:Program)(w:World)(td ty tv:TE):TS:=λdx O H=>tv O H λv L=>td O L λx e=>ty O e λy c=>∃a b xs k,x=.ref a/\y=.ref b/\c a=some (pdO P w a xs)/\(∀x∈xs,Vv c x.1 x.2.1)/\Vv c k b/\xs.length<sizeLine/\
 dx.nx O (upd c a<|pdO P w a<|JC xs k b v)
def ZoJ{O:St}{H:Hp}{a:Addr}{xs:List (KK×Addr×V)}(I:Qt X Y O H s)(e:H a=some (pdO X.prog X.w a xs)):s.TypeIs (.ref a) "dict" := by
 obtain⟨⟨_,_,g,_,o,es,h,f,c,_⟩,_⟩:=(I.hok a _ e)
 exact#[o,f,c.1]
def IK(B:X.A.units+6<cLine)(K:PE X o td)(M:PE X e ty)(C:Hx e):PE X (.Subscript o e E) (SK X.prog X.w td ty):=by
 intro Y s O H Q I h;refine Tk PySem.F.slot_dict_getitem.lookup C (Q8 (K Y s O H _ I h) ?_);rintro u i ⟨x,L,p,m,A⟩;refine Q8 (M Y i O L _ p A) ?_;rintro D z ⟨y,r,g,j,a,b,xs,k,v,W,P,f,l,d,Z,q⟩;subst W P;obtain rfl:=m;obtain rfl:=j;exact#[ZoJ g f,Zo5 B g f l d Z λt w n c=>#[v,r,n,c,q]]
def ZqK(m:X.A.units+6<cLine)(A:PE X e ty)(q:PE X o td):PC X .NotIn e o (Tv X.prog X.w ty td):=by
 intro Y s O H Q I h;refine Q8 (A Y s O H _ I h) ?_;rintro p c ⟨y,L,Z,f,j⟩;refine Q8 (q Y c O L _ Z j) ?_;rintro u n ⟨x,d,W,g,a,b,xs,k,C,B,M,K,E,i⟩;subst C B;obtain rfl:=g;obtain rfl:=f;exact Ec m W M K E λl P=>#[.bl _,d,P,rfl,i]
def EH(C:X.A.units+6<cLine)(M:PE X o td)(P:PE X e ty)(B:PE X value tv)(K:swapsWith value (some<|.Subscript o e pos') E.line X.env=pure false):
 PS X (.Assign [.Subscript o e pos'] value E) (SD X.prog X.w td ty tv):=by
 intro Y s O H dx I h;refine wpAny_Assign_Subscript (Q8 (B Y s O H _ I h) ?_) K;rintro r f ⟨v,L,D,j,A⟩;refine Q8 (M Y f O L _ D A) ?_;rintro u c ⟨x,F,z,i,q⟩;refine Q8 (P Y c O F _ z q) ?_;rintro N J ⟨y,Q,w,g,a,b,xs,k,Z,W,p,n,d,l,m⟩;subst Z W;obtain rfl:=i;obtain rfl:=g;exact Zpv C w p n d l j λG t=>#[O,_,t,m]
end
end L2
namespace L2
def A0(P:Program)(w:World):TE:=λ_ H Q=>∀p,H p=none->Q (.ref p) (upd H p<|pdO P w p [])
def ZrA : PE X (.Dict [] [] E) (A0 X.prog X.w):=λY s O H Q I h=>
 wpAny_Dict_empty #[.ref s.heap.objs.size,_,I.laid (λ_ _ q=>Xd _ q) (Xn _)
  (J8.ok #[XN _,beq_eq_false_iff_ne.mpr<|Ne.symm<|Xs I.big,[],.nil,_,(List.toArray []),0,Xt _ rfl,#[rfl,rfl,rfl],rfl,rfl,Mb]),rfl,h _<|I.hok.fresh<|Xn _]
structure QB where
 ends:List (List Key)
 rooms:Ql
 leav:List (List Key×Ql)
 laid:List (KK×Int)
inductive LaidD(F:Hp):List (KK×Addr×V)->List (KK×Int)->Prop
 |nil:LaidD F [] []
 |cons {k:KK}{b:Addr}{n:Int}{xs:List (KK×Addr×V)}{ls:List (KK×Int)}:Vv F k b->LaidD F xs ls->LaidD F ((k,b,.int n)::xs) ((k,n)::ls)
theorem LaidD.mono{F c:Hp}(s:Q6 F c):∀{xs:List (KK×Addr×V)} {ls:List (KK×Int)},LaidD F xs ls->LaidD c xs ls
 |_,_,.nil=>.nil
 |_,_,.cons h t=>.cons (h.mono λb ys e=>s _ _ e) (t.mono s)
theorem LaidD.at{F H:Hp}(s:Q6 F H):∀{xs:List (KK×Addr×V)} {ls:List (KK×Int)},LaidD F xs ls->∀x∈xs,Vv H x.1 x.2.1
 |_,_,.nil,x,c=>nomatch c
 |_,_,.cons h t,x,c=>by
  rcases Xc.mp c with rfl|c
  .exact h.mono λb ys e=>s _ _ e
  .exact t.at s x c
inductive LeavD(F H:Hp):List (List Key×V)->List (List Key×Ql)->Qg->Prop
 |nil:LeavD F H [] [] []
 |cons {k:List Key}{a:Addr}{ns:Ql}{xs:List (List Key×V)}{ls:List (List Key×Ql)}{as:Qg}:Yr F H a (ns.map PyData.int)->LeavD F H xs ls as->LeavD F H ((k,.ref a)::xs) ((k,ns)::ls) (a::as)
theorem LeavD.mem{F H:Hp}:∀{xs:List (List Key×V)} {ls:List (List Key×Ql)} {as:Qg},LeavD F H xs ls as->∀a∈as,F a=none/\H a≠none
 |_,_,_,.nil,a,c=>nomatch c
 |_,_,_,.cons h t,a,c=>by
  rcases Xc.mp c with rfl|c
  .obtain⟨g,xs,f,_⟩:=h;exact#[g,ZG f]
  .exact t.mem a c
theorem LeavD.mono{F f H U:Hp}(s:Q6 F f):∀{xs:List (List Key×V)} {ls:List (List Key×Ql)} {as:Qg},(∀a∈as,f a=none)->(∀a∈as,U a=H a)->LeavD F H xs ls as->LeavD f U xs ls as
 |_,_,_,_,_,.nil=>.nil
 |_,_,_,i,g,.cons h t=>by
  obtain⟨q,xs,m,j⟩:=h;exact .cons #[i _ Xb,xs,by rw[g _ Xb];exact m,j.mono s] (t.mono s (λa c=>i a<|Xe _ c) λa c=>g a<|Xe _ c)
theorem LeavD.addrs{F g H U:Hp}:∀{xs:List (List Key×V)} {ls c:List (List Key×Ql)} {as bs:Qg},LeavD F H xs ls as->LeavD g U xs c bs->as=bs
 |_,_,_,_,_,.nil,.nil=>rfl
 |_,_,_,_,_,.cons _ t,.cons _ f=>by rw[t.addrs f]
structure NetOk(P:Program)(w:World)(C:Addr)(N:QB)(F H:Hp)(a D e r l d:Addr)(xs:List (List Key×V))(ys:List (KK×Addr×V))(as:Qg):Prop where
 nd:(a::D::e::r::l::d::as).Nodup
 ins:F a=none/\H a=some (.ins C D [("ends",.ref e),("rooms",.ref r),("leaving",.ref l),("laid",.ref d)])
 own:F D=none/\H D=some (.own a)
 ends:Yr F H e (N.ends.map Zj)
 rooms:Yr F H r (N.rooms.map PyData.int)
 leav:F l=none/\H l=some (.dT xs)/\LeavD F H xs N.leav as
 laid:F d=none/\H d=some (pdO P w d ys)/\LaidD F ys N.laid
def Zr(P:Program)(w:World)(C:Addr)(N:QB):OwnP where
 ok K F H v p := ∃a D e r l d xs ys y,v=.ref a/\p=a::D::e::r::l::d::y/\NetOk P w C N F H a D e r l d xs ys y
 there:=by
  rintro K F H v p ⟨a,D,e,r,l,d,xs,ys,y,rfl,rfl,o⟩ b f;obtain⟨_,⟨A,m⟩,⟨k,E⟩,⟨n,ex,W,_⟩,⟨Z,Y,B,_⟩,⟨l1,l2,l3⟩,⟨t,X,_⟩⟩:=o;simp only[Xc]at f;rcases f with rfl|rfl|rfl|rfl|rfl|rfl|f
  .exact#[A,ZG m]
  .exact#[k,ZG E]
  .exact#[n,ZG W]
  .exact#[Z,ZG B]
  .exact#[l1,ZG l2]
  .exact#[t,ZG X]
  .exact l3.mem b f
 mono:=by
  rintro K F F' H U v p s h g ⟨a,D,e,r,l,d,xs,ys,y,rfl,rfl,o⟩;obtain⟨nd,⟨A,m⟩,⟨k,E⟩,⟨n,ex,W,I⟩,⟨Z,Y,B,z⟩,⟨l1,l2,l3⟩,⟨t,X,L⟩⟩:=o;refine#[a,D,e,r,l,d,xs,ys,y,rfl,rfl,nd,#[h _<|by simp,by rw[g _<|by simp];exact m],#[h _<|by simp,by rw[g _<|by simp];exact E],#[h _<|by simp,ex,by rw[g _<|by simp];exact W,I.mono s],
   #[h _<|by simp,Y,by rw[g _<|by simp];exact B,z.mono s],#[h _<|by simp,by rw[g _<|by simp];exact l2,l3.mono s (λb f=>h b<|by simp[f]) λb f=>g b<|by simp[f]],#[h _<|by simp,by rw[g _<|by simp];exact X,L.mono s]]
 uniq:=by
  rintro K F H v p q ⟨a,D,e,r,l,d,xs,ys,y,rfl,rfl,o⟩ ⟨a',J,S,Q,R,T,x,u,O,ev,rfl,M⟩ c G;cases ev;have i:=o.ins.2.symm.trans M.ins.2;injection i with i;injection i with _ A m;subst A;simp only[List.cons.injEq,Prod.mk.injEq,true_and,and_true,V.ref.injEq]at m;obtain⟨rfl,rfl,rfl,rfl⟩:=m;have j:=o.leav.2.1.symm.trans M.leav.2.1;injection j with j;injection j with j;subst j;rw[o.leav.2.2.addrs M.leav.2.2];exact G
end L2
namespace L2
structure NetC(K:W.Frag)(C:Addr):Prop where
 cl:Cls K C
 ends:Vt K C "ends"
 rooms:Vt K C "rooms"
 leav:Vt K C "leaving"
 laid:Vt K C "laid"
section
variable {tb:TE}{v:V}{w:World}{N:QB}
def QL.net(S:QL K H0 F Z O H)(e:zg Z i<|zo v<|Zr P w C N):
 ∃a D el r l d xs ys as,v=.ref a/\O[i]?=some (some<|.ref a)/\NetOk P w C N F H a D el r l d xs ys as/\(∀b∈a::D::el::r::l::d::as,H0 b=none/\F b=none/\H b≠none)/\
  ∀(U:Hp) (m:QB) (g:List (List Key×V)) (f:List (KK×Addr×V)) (c:Qg),Q6 F U->(∀b,b∉a::D::el::r::l::d::as->H b≠none->U b=H b)->(∀b,H b≠none->U b≠none)->
   NetOk P w C m F U a D el r l d g f c->(∀b∈c,b∈as\/(H b=none/\H0 b=none))->QL K H0 F (Z.set i<|zo v<|Zr P w C m) O U:=by
 obtain⟨X,p,⟨a,D,el,r,l,d,xs,ys,as,rfl,rfl,s⟩,y,q⟩:=S.writeOwn e;refine#[a,D,el,r,l,d,xs,ys,as,rfl,X,s,y,λU m g f c W M E B A=>q U _ _ W M E #[a,D,el,r,l,d,g,f,c,rfl,rfl,B] λb j=>?_];simp only[Xc]at j ⊢;rcases j with h|h|h|h|h|h|j
 .exact .inl (.inl h)
 .exact .inl (.inr<|.inl h)
 .exact .inl (.inr<|.inr<|.inl h)
 .exact .inl (.inr<|.inr<|.inr<|.inl h)
 .exact .inl (.inr<|.inr<|.inr<|.inr<|.inl h)
 .exact .inl (.inr<|.inr<|.inr<|.inr<|.inr<|.inl h)
 .rcases A b j with z|z
  .exact .inl (.inr<|.inr<|.inr<|.inr<|.inr<|.inr z)
  .exact .inr z
def LeavD.other{b:Addr}{xs:List (List Key×V)}(h:LeavD F H xs ls as)(n:b∉as):LeavD F (upd H b o) xs ls as:=
 h.mono (Q6.refl _) (λa c=>(h.mem a c).1) (λa c=>Qu λz=>n<|z▸c)
def NetOk.setRooms{xs:List (List Key×V)}{ys:List (KK×Addr×V)}(h:NetOk P w C N F H a D el r l d xs ys as){ns:Ql}(A:Q0 F za (ns.map PyData.int)):
 NetOk P w C { N with rooms:=ns } F (upd H r<|.lst za) a D el r l d xs ys as:=by
 obtain⟨f,⟨y,v⟩,⟨j,i⟩,⟨Y,M,X,W⟩,⟨g,p,u,t⟩,⟨s,q,m⟩,⟨e,b,Z⟩⟩:=h;have c:=f;simp only[XM,Xc,not_or]at c;obtain⟨⟨G,z,o,_⟩,⟨x,n,_⟩,⟨k,_⟩,⟨K,E,B⟩,_⟩:=c;exact#[f,#[y,by rw[Qu o];exact v],#[j,by rw[Qu n];exact i],#[Y,M,by rw[Qu k];exact X,W],#[g,za,QG,A],#[s,by rw[Qu<|Ne.symm K];exact q,m.other B],#[e,by rw[Qu<|Ne.symm E];exact b,Z]]
def YL : ∀b,H b≠none->upd H a o b≠none:=λb c=>by
 by_cases z:b=a
 .subst z;rw[QG];rintro⟨⟩
 .rw[Qu z];exact c
def FF{f:Int->Int->Int}(c:NetC K C)(e:zg Z i<|zo v<|Zr P w C N){m:Int}(hi:Qq K tb Z (.int k))(h0:0<=k)(J:N.rooms[k.toNat]?=some m)(h:Qq K te Z (.int n))
(hn:dx.nx (Z.set i<|zo v<|Zr P w C { N with rooms:=N.rooms.set k.toNat (f m n) })):QE K (M0 (ZZ K (QF i) "rooms") tb te (M4 K) (ipI f) Bf) Z dx:=λF0 H0 F O H pos x S C'=>by
 obtain⟨a,D,el,r,l,d,xs,ys,as,rfl,e1,X,_⟩:=S.net e;refine#[_,e1,a,C,D,_,.ref r,rfl,X.ins.2,c.cl,c.rooms,rfl,hi H0 F O H _ S λF1 L y g r1=>?_];cases r1;obtain⟨_,rx,r2,r3⟩:=X.rooms;have Y:(N.rooms.map PyData.int)[k.toNat]?=some (.int m):=by rw[Xy,J];rfl
 obtain⟨z,T,R⟩:=(r3.mono g.ff).get Y;refine#[r,rx,k,z,rfl,rfl,SqL.of<|g.hh _ _ r2,h0,T,h H0 F1 O L _ (S.ext g) λQ H2 u B W=>?_];cases W;cases R;refine#[m,n,rfl,rfl,?_];obtain⟨a',dx',el',t,l',d',M,E,p,ea,g1,j,hp,U⟩:=(S.ext<|g.trans B).net e;cases ea;have s:=j.ins.2.symm.trans ((g.trans B).hh _ _ X.ins.2);injection s with s;injection s with _ _ A;simp only[List.cons.injEq,Prod.mk.injEq,true_and,and_true,V.ref.injEq]at A;obtain⟨rfl,rfl,rfl,rfl⟩:=A;obtain⟨q1,G,q2,I⟩:=j.rooms;have hlt:=(Xh.mp J).1;have hr:Q0 Q (G.set k.toNat<|.int<|f m n) ((N.rooms.set k.toNat<|f m n).map PyData.int):=by
  rw[List.map_set];exact I.set (.int _) _
 refine#[t,G,k,k.toNat,rfl,rfl,q2,?_,?_]
 .rw[I.length,Xf];unfold ixN;rw[Xi h0,Xi<|#[]]
 .have q:=hp t (by simp);exact C'.nx Q O _ _ ((x.trans<|g.trans B).wr q.1 q.2.1) (U _ { N with rooms:=N.rooms.set k.toNat (f m n) } M E p ((S.ext<|g.trans B).sub.upd q.2.1) (λb o _=>Qu λz=>o<|by rw[z];simp) YL (j.setRooms hr) λb o=>.inl o) hn
end
end L2
namespace L2
section
variable {v:V}{w:World}{N:QB}
def NetOk.same{xs:List (List Key×V)}{ys:List (KK×Addr×V)}
(f:NetOk P w C N F H a D el r l d xs ys as)(c:NetOk P w C N' F' U a dx' el' r' l' d' xs' ys' as')(s:U a=H a):dx'=D/\el'=el/\r'=r/\l'=l/\d'=d:=by
 have h:=c.ins.2;rw[s,f.ins.2]at h;grind
def NetOk.setEnds{xs:List (List Key×V)}{ys:List (KK×Addr×V)}(m:NetOk P w C N F H a D el r l d xs ys as){ns:List (List Key)}(K:Q0 F za (ns.map Zj)):
 NetOk P w C { N with ends:=ns } F (upd H el<|.lst za) a D el r l d xs ys as:=by
 obtain⟨f,⟨E,B⟩,⟨s,q⟩,⟨M,p,u,t⟩,⟨j,g,i,h⟩,⟨A,y,v⟩,⟨Y,X,W⟩⟩:=m;have c:=f;simp only[XM,Xc,not_or]at c;obtain⟨⟨G,o,z,_⟩,⟨n,x,_⟩,⟨k,e,b,Z⟩,_⟩:=c;exact#[f,#[E,by rw[Qu o];exact B],#[s,by rw[Qu n];exact q],#[M,za,QG,K],#[j,g,by rw[Qu<|Ne.symm k];exact i,h],#[A,by rw[Qu<|Ne.symm e];exact y,v.other Z],#[Y,by rw[Qu<|Ne.symm b];exact X,W]]
def Zn8(c:NetC K C)(e:zg Z i<|zo v<|Zr P w C N)(h:Qq K te Z (.int n))(U:N.rooms.length<1000)
(hn:dx.nx (Z.set i<|zo v<|Zr P w C { N with rooms:=N.rooms++[n] })):QE K (Vm<|tBM K "list" Wb (ZZ K (QF i) "rooms")<|QM te QT) Z dx:=λF0 H0 F O H k x S Q=>by
 obtain⟨a,D,el,r,l,d,xs,ys,as,rfl,G,j,_⟩:=S.net e;refine#[_,G,a,C,D,_,.ref r,rfl,j.ins.2,c.cl,c.rooms,rfl,.inl #[rfl,_,SqL.of j.rooms.2.choose_spec.1],h H0 F O H _ S λJ L u m W=>?_];cases W;obtain⟨a',I,p,B,T,d',s,q,A,t,g1,f,o,M⟩:=(S.ext m).net e;cases t;obtain⟨rfl,rfl,rfl,rfl,rfl⟩:=j.same f ((m.hh _ _ j.ins.2).trans j.ins.2.symm);obtain⟨R,X,Y,E⟩:=f.rooms;have g:=o B (by simp);refine#[B,X,.int n,rfl,rfl,Y,by rw[E.length,Xf];exact V7<|#[],?_];exact Q.nx J O _ _ ((x.trans m).wr g.1 g.2.1) (M _ { N with rooms:=N.rooms++[n] } s q A ((S.ext m).sub.upd g.2.1) (λb y _=>Qu λz=>y<|by rw[z];simp) YL (f.setRooms<|by rw[Xx];exact E.snoc<|.int n) λb y=>.inl y) hn
def ZnJ(c:NetC K C)(e:zg Z i<|zo v<|Zr P w C N)(h:Qq K te Z (Zj n))(hl:N.ends.length<1000)
(hn:dx.nx (Z.set i<|zo v<|Zr P w C { N with ends:=N.ends++[n] })):QE K (Vm<|tBM K "list" Wb (ZZ K (QF i) "ends")<|QM te QT) Z dx:=λF0 H0 F O H k x S Q=>by
 obtain⟨a,D,p,r,l,d,xs,ys,as,rfl,G,j,_⟩:=S.net e;refine#[_,G,a,C,D,_,.ref p,rfl,j.ins.2,c.cl,c.ends,rfl,.inl #[rfl,_,SqL.of j.ends.2.choose_spec.1],h H0 F O H _ S λJ L u q W=>?_];obtain⟨a',I,m,R,U,d',y,s,B,t,g1,f,o,M⟩:=(S.ext q).net e;cases t;obtain⟨rfl,rfl,rfl,rfl,rfl⟩:=j.same f ((q.hh _ _ j.ins.2).trans j.ins.2.symm);obtain⟨T,X,Y,E⟩:=f.ends;have g:=o m (by simp);refine#[m,X,u,rfl,rfl,Y,by rw[E.length,Xf];exact V7<|#[],?_];exact Q.nx J O _ _ ((x.trans q).wr g.1 g.2.1) (M _ { N with ends:=N.ends++[n] } y s B ((S.ext q).sub.upd g.2.1) (λb A _=>Qu λz=>A<|by rw[z];simp) YL (f.setEnds<|by rw[Xx];exact E.snoc W) λb A=>.inl A) hn
def Fq(c:NetC K C)(e:zg Z i<|zo v<|Zr P w C N):Qq K (tCB (Ga K)<|QM (ZZ K (QF i) "ends") QT) Z (.int (N.ends.length:Int)):=λH0 F O H Q S q=>by
 obtain⟨a,D,h,r,l,d,xs,ys,y,rfl,s,f,_⟩:=S.net e;obtain⟨_,g,m,j⟩:=f.ends;refine#[_,s,a,C,D,_,.ref h,rfl,f.ins.2,c.cl,c.ends,rfl,h,g,rfl,.inl<|SqL.of m,?_];have:g.length=N.ends.length:=by rw[j.length,Xf]
 rw[this];exact q F H _ (Q5.refl S.sub) (.int _)
end
end L2
namespace L2
def Vd(ls:List (KK×Int))(k:KK):Option Int:=(ls.find? λx=>decide (x.1=k)).map (·.2)
noncomputable def YT(ls:List (KK×Int))(k:KK)(n:Int):List (KK×Int):=if (Vd ls k).isSome=true then ls.map (λx=>if x.1=k then (x.1,n) else x) else ls++[(k,n)]
theorem LaidD.val{F:Hp}(k:KK):∀{xs:List (KK×Addr×V)} {ls:List (KK×Int)},LaidD F xs ls->Y9 xs k=(Vd ls k).map V.int
 |_,_,.nil=>rfl
 |_,_,.cons (k:=k') h t=>by
  by_cases e:k'=k
  .simp[Y9,Vd, e]
  .have:=t.val k;simpa [Y9,Vd, e] using this
theorem LaidD.length{F:Hp}:∀{xs:List (KK×Addr×V)} {ls:List (KK×Int)},LaidD F xs ls->xs.length=ls.length
 |_,_,.nil=>rfl
 |_,_,.cons h t=>by simp[t.length]
theorem LaidD.repl{F:Hp}(k:KK)(n:Int):∀{xs:List (KK×Addr×V)} {ls:List (KK×Int)},LaidD F xs ls->LaidD F (xs.map λx=>if x.1=k then (x.1,x.2.1,.int n) else x) (ls.map λx=>if x.1=k then (x.1,n) else x)
 |_,_,.nil=>.nil
 |_,_,.cons (k:=k') h t=>by
  rw[Xv,Xv];by_cases e:k'=k
  .simp only[e];exact .cons (e▸h) (t.repl k n)
  .simp only[e];exact .cons h (t.repl k n)
theorem LaidD.snoc{F:Hp}{k:KK}{b:Addr}(n:Int)(c:Vv F k b):∀{xs:List (KK×Addr×V)} {ls:List (KK×Int)},LaidD F xs ls->LaidD F (xs++[(k,b,.int n)]) (ls++[(k,n)])
 |_,_,.nil=>.cons c .nil
 |_,_,.cons h t=>.cons h (t.snoc n c)
def LaidD.put{b:Addr}(n:Int)(c:Vv F k b){xs:List (KK×Addr×V)}(t:LaidD F xs ls):LaidD F (JC xs k b<|.int n) (YT ls k n):=by
 unfold JC YT;rw[t.val k,Ue];split
 .exact t.repl k n
 .exact t.snoc n c
def Nt{k1 k2:List Key}(r:Rep F y (.tuple [Zj k1,Zj k2])):∃b,y=.ref b/\Vv F (k1,k2) b:=by
 cases r with
 |tup h c=>
  cases c with
  |cons g c=>
   cases c with
   |cons f c=>
    cases c;obtain⟨p,rfl,j⟩:=WR g;obtain⟨q,rfl,i⟩:=WR f;exact#[_,rfl,p,q,h,j,i]
section
variable {ty:TE}{v:V}{w:World}{N:QB}{k1 k2:List Key}
def NetOk.setLaid{xs:List (List Key×V)}{ys:List (KK×Addr×V)}(m:NetOk P w C N F H a D el r l d xs ys as)(K:LaidD F ys' ls):
 NetOk P w C { N with laid:=ls } F (upd H d<|pdO P w d ys') a D el r l d xs ys' as:=by
 obtain⟨f,⟨E,B⟩,⟨s,q⟩,⟨e,Y,b,Z⟩,⟨j,g,i,h⟩,⟨A,y,v⟩,⟨k,G,z⟩⟩:=m;have c:=f;simp only[XM,Xc,not_or]at c;obtain⟨⟨a1,U,T,S,p,_⟩,⟨R,Q,O,o,_⟩,⟨L,J,n,I⟩,⟨x,W,u⟩,⟨M,t⟩,X,_⟩:=c;exact#[f,#[E,by rw[Qu p];exact B],#[s,by rw[Qu o];exact q],#[e,Y,by rw[Qu n];exact b,Z],#[j,g,by rw[Qu W];exact i,h],#[A,by rw[Qu M];exact y,v.other X],#[k,QG,K]]
def Zp2(c:NetC K C)(e:zg Z i<|zo v<|Zr P w C N)(G:Qq K tv Z (.int n))(t:Qq K ty Z (.tuple [Zj k1,Zj k2]))(hl:N.laid.length<1000)
(hn:dx.nx (Z.set i<|zo v<|Zr P w C { N with laid:=YT N.laid (k1,k2) n })):QE K (SD P w (ZZ K (QF i) "laid") ty tv) Z dx:=λF0 H0 F O H p x S C'=>
 G H0 F O H _ S λF1 L u j o=>by
  cases o;obtain⟨a,D,el,r,l,d,xs,ys,as,rfl,T,m,_⟩:=(S.ext j).net e;refine#[_,T,a,C,D,_,.ref d,rfl,m.ins.2,c.cl,c.laid,rfl,t H0 F1 O L _ (S.ext j) λF2 H2 y B k=>?_];have q:=S.ext (j.trans B);obtain⟨a',U,Q,r',l',X,A,s,M,R,g1,f,I,Y⟩:=q.net e;cases R;obtain⟨rfl,rfl,rfl,rfl,rfl⟩:=m.same f ((B.hh _ _ m.ins.2).trans m.ins.2.symm);obtain⟨b,rfl,W⟩:=Nt k;obtain⟨d1,d2,E⟩:=f.laid;refine#[X,b,s,(k1,k2),rfl,rfl,d2,E.at q.sub,W.mono λc' z J=>q.sub _ _ J,by rw[E.length];exact V7<|#[],?_];have g:=I X (by simp);exact C'.nx F2 O _ _ ((x.trans<|j.trans B).wr g.1 g.2.1) (Y _ { N with laid:=YT N.laid _ n } A _ M (q.sub.upd g.2.1) (λb' h _=>Qu λz=>h<|by rw[z];simp) YL (f.setLaid<|E.put n W) λb' h=>.inl h) hn
end
end L2
namespace L2
def Zb(ls:List (List Key×Ql))(k:List Key):Option (Ql):=(ls.find? λx=>decide (x.1=k)).map (·.2)
noncomputable def Ya:List (List Key×Ql)->List Key->Int->List (List Key×Ql)
 |[],_,_=>[]
 |(c,f)::r,k,n=>if c=k then (c,f++[n])::r else (c,f)::Ya r k n
theorem LeavD.val{F H:Hp}(k:List Key):∀{xs:List (List Key×V)} {ls:List (List Key×Ql)} {as:Qg},LeavD F H xs ls as->(ZA xs k=none/\Zb ls k=none) \/
 ∃a ns,ZA xs k=some (.ref a)/\Zb ls k=some ns/\a∈as/\Yr F H a (ns.map PyData.int)
 |_,_,_,.nil=>.inl #[rfl,rfl]
 |_,_,_,.cons (k:=k') (a:=a) (ns:=ns) (ls:=ls) h t=>by
  by_cases e:k'=k
  .exact .inr #[a,ns,Wm e,by simp[Zb, e],Xb,h]
  .have q:Zb ((k',ns)::ls) k=Zb ls k:=by simp[Zb, e]
   rw[Wl e,q];rcases t.val k with z|⟨m,c,j,i,g,f⟩
   .exact .inl z
   .exact .inr #[m,c,j,i,Xe _ g,f]
theorem LeavD.app{F H:Hp}(k:List Key){a:Addr}{n:Int}{za:List V}:∀{xs:List (List Key×V)} {ls:List (List Key×Ql)} {as:Qg} {ns:Ql},LeavD F H xs ls as->as.Nodup->ZA xs k=some (.ref a)->Zb ls k=some ns->
 Q0 F za ((ns++[n]).map PyData.int)->LeavD F (upd H a<|.lst za) xs (Ya ls k n) as
 |_,_,_,_,.nil,_,h,_,_=>by cases h
 |_,_,_,ns,.cons (k:=k') (a:=a') (ns:=ns') (ls:=ls) (as:=as) h t,y,c,f,j=>by
  obtain⟨i,A⟩:=XM.mp y;unfold Ya;by_cases e:k'=k
  .rw[Wm e]at c;have q:Zb ((k',ns')::ls) k=some ns':=by simp[Zb, e]
   rw[q]at f;cases c;cases f;rw[Xi e];exact .cons #[h.1,za,QG,j] (t.other i)
  .rw[Wl e]at c;have q:Zb ((k',ns')::ls) k=Zb ls k:=by simp[Zb, e]
   rw[q]at f;rw[Xg e];have B:a∈as:=by
    rcases t.val k with z|⟨Y,m,X,W,P,M⟩
    .grind
    .grind
   refine .cons ?_ (t.app k A c f j);obtain⟨K,g,E,C⟩:=h;have s:a'≠a:=λz=>i (by rw[z];exact B)
   exact#[K,g,by rw[Qu s];exact E,C]
theorem LeavD.snoc{F H:Hp}(k:List Key){a:Addr}(o:Yr F H a []):∀{xs:List (List Key×V)} {ls:List (List Key×Ql)} {as:Qg},LeavD F H xs ls as->LeavD F H (xs++[(k,.ref a)]) (ls++[(k,[])]) (as++[a])
 |_,_,_,.nil=>.cons o .nil
 |_,_,_,.cons h t=>.cons h (t.snoc k o)
theorem LeavD.length{F H:Hp}:∀{xs:List (List Key×V)} {ls:List (List Key×Ql)} {as:Qg},LeavD F H xs ls as->xs.length=ls.length
 |_,_,_,.nil=>rfl
 |_,_,_,.cons h t=>by simp[t.length]
noncomputable def Yi(ls:List (List Key×Ql))(k:List Key):List (List Key×Ql):=if (Zb ls k).isSome=true then ls else ls++[(k,[])]
section
variable {w:World}{N:QB}{k:List Key}
def NetOk.appLeav{xs:List (List Key×V)}{ys:List (KK×Addr×V)}(s:NetOk P w C N F H a D el r l d xs ys as){b:Addr}
(X:ZA xs k=some (.ref b))(he:Zb N.leav k=some ns)(Z:b∈as)(Y:Q0 F za ((ns++[n]).map PyData.int)):NetOk P w C { N with leav:=Ya N.leav k n } F (upd H b<|.lst za) a D el r l d xs ys as:=by
 obtain⟨g,⟨W,M⟩,⟨A,y⟩,⟨I,u,G,v⟩,⟨q,i,m,j⟩,⟨K,E,B⟩,⟨O,L,J⟩⟩:=s;have f:=g;simp only[XM,Xc,not_or]at f;obtain⟨⟨a1,a2,a3,a4,a5,S⟩,⟨b1,b2,b3,b4,R⟩,⟨c1,c2,c3,Q⟩,⟨g1,U,o⟩,⟨T,e⟩,t,p⟩:=f;have c:∀{x:Addr},x∉as->x≠b:=λh z=>h (by rw[z];exact Z)
 exact#[g,#[W,by rw[Qu<|c S];exact M],#[A,by rw[Qu<|c R];exact y],#[I,u,by rw[Qu<|c Q];exact G,v],#[q,i,by rw[Qu<|c o];exact m,j],#[K,by rw[Qu<|c e];exact E,B.app k p X he Y],#[O,by rw[Qu<|c t];exact L,J]]
end
end L2
namespace L2
section
variable {ty:TE}{v:V}{w:World}{N:QB}{k:List Key}
def TL(c:NetC K C)(e:zg Z i<|zo v<|Zr P w C N)(h:Qq K te Z (.int n))(he:Zb N.leav k=some ns)(hz:ns.length<1000)
(hn:dx.nx (Z.set i<|zo v<|Zr P w C { N with leav:=Ya N.leav k n }))(x:Q5 F0 H0 F H)(S:QL K H0 F Z O H)(C':Cnv K F0 H0 dx pos)
{xs:List (List Key×V)}{ys:List (KK×Addr×V)}(m:NetOk P w C N F H a D el r l d xs ys as)(R:v=.ref a)(y:ZA xs k=some (.ref al)):
 tyV K "list" (.ref al) H/\QM te QT O H λvs H2=>Wb (.ref al) vs H2 λ_ H3=>pos.nx O H3:=by
 have j:∀{F H:Hp} {a D el r l d:Addr} {xs:List _} {ys:List _} {as:Qg},NetOk P w C N F H a D el r l d xs ys as->ZA xs k=some (.ref al)->al∈as/\Yr F H al (ns.map PyData.int):=λm y=>by
  rcases m.leav.2.2.val k with z|⟨a2,I,z1,z2,z3,z4⟩
  .grind
  .grind
 obtain⟨_,_,za,M,_⟩:=j m y;refine#[.inl #[rfl,_,SqL.of M],h H0 F O H _ S λF1 L u s G=>?_];cases G;obtain⟨a',U,T,r',l',d',p,B,X,o,g1,g,Q,t⟩:=(S.ext s).net e;rw[R]at o;cases o;obtain⟨rfl,rfl,rfl,rfl,rfl⟩:=m.same g ((s.hh _ _ m.ins.2).trans m.ins.2.symm);have f:=g.leav.2.1.symm.trans (s.hh _ _ m.leav.2.1);injection f with f;injection f with f;subst f;obtain⟨E,m2,A,J,Y⟩:=j g y;have q:=Q al (by simp[E]);refine#[al,A,.int n,rfl,rfl,J,by rw[Y.length,Xf];exact V7<|#[],?_];exact C'.nx F1 O _ _ ((x.trans s).wr q.1 q.2.1) (t _ { N with leav:=Ya N.leav k n } _ B X ((S.ext s).sub.upd q.2.1) (λb W _=>Qu λz=>W<|by rw[z];simp[E]) YL
  (g.appLeav y he E<|by rw[Xx];exact Y.snoc<|.int n) (λb W=>.inl W)) hn
def Fz(ls:List (List Key×Ql))(h:Zb ls k=none):Zb (ls++[(k,[])]) k=some []:=by
 induction ls with
 |nil=>simp[Zb]
 |cons x ls i=>
  obtain⟨c,f⟩:=x
  by_cases e:c=k
  .simp[Zb, e]at h
  .have q:Zb ((c,f)::ls) k=Zb ls k:=by simp[Zb, e]
   rw[q]at h;have g:Zb ((c,f)::ls++[(k,[])]) k=Zb (ls++[(k,[])]) k:=by simp[Zb, e]
   rw[g];exact i h
def ZnZ(c:NetC K C)(e:zg Z i<|zo v<|Zr P w C N)(hy:Qq K ty Z (Zj k))(hl:N.leav.length<1000)(hz:∀ns,Zb (Yi N.leav k) k=some ns->ns.length<1000)
(h:Qq K te (Z.set i<|zo v<|Zr P w C { N with leav:=Yi N.leav k }) (.int n))(hn:dx.nx (Z.set i<|zo v<|Zr P w C { N with leav:=Ya (Yi N.leav k) k n })):
 QE K (Vm<|tBM K "list" Wb (P1 (ZZ K (QF i) "leaving") ty<|UZ QT)<|QM te QT) Z dx:=λF0 H0 F O H pos x S C'=>by
 obtain⟨a,D,el,r,l,d,xs,ys,as,rfl,e1,ok,hp0,_⟩:=S.net e;refine#[_,e1,a,C,D,_,.ref l,rfl,ok.ins.2,c.cl,c.leav,rfl,l,rfl,.inr #[xs,Rd.of ok.leav.2.1],hy H0 F O H _ S λF1 L y x1 r1=>#[XN _,λp X=>?_]];have T:=S.ext x1;have x2:Q5 F1 L F1 (upd L p<|.lst []):=Q5.own T.sub X;obtain⟨a',s,m,G,E,R,g,M,f,ea,g1,W,hp',wr⟩:=T.net e;cases ea;obtain⟨rfl,rfl,rfl,rfl,rfl⟩:=ok.same W ((x1.hh _ _ ok.ins.2).trans ok.ins.2.symm);have hlt:=(Xh.mp e).1;obtain⟨b,rfl,hb⟩:=WR r1;obtain⟨l1,l2,l3⟩:=W.leav;have np:∀q∈a::s::m::G::E::R::f,q≠p:=λq hq z=>by rw[z]at hq;exact(hp' p hq).2.2 X
 have lp:=np E (by simp);have bp:b≠p:=λz=>by rw[z]at hb;rw[T.sub _ _ hb]at X;cases X
 have h0p:=(x.trans x1).hh.free X;refine#[g,k,b,rfl,by rw[Qu lp];exact l2,by rw[Qu bp];exact T.sub _ _ hb,by rw[l3.length];exact V7<|#[],λv0 A=>?_,λA=>?_]
 .rcases l3.val k with z|⟨al,ns,z1,Y,z3,z4⟩
  .rw[A]at z;cases z.1
  .rw[A]at z1;cases z1;have J:Yi N.leav k=N.leav:=by unfold Yi;rw[Y];rfl
   rw[J]at h hn hz;have S3:=T.ext x2;have B:NetOk P w C N F1 (upd L p<|.lst []) a s m G E R g M f:=by
    obtain⟨q0,q1,q2,q3,q4,q5,I⟩:=W;obtain⟨Q,ex,e2,e3⟩:=q3;obtain⟨o,rx,r2,r3⟩:=q4;exact#[q0,#[q1.1,by rw[Qu<|np a<|by simp];exact q1.2],#[q2.1,by rw[Qu<|np s<|by simp];exact q2.2],#[Q,ex,by rw[Qu<|np m<|by simp];exact e2,e3],#[o,rx,by rw[Qu<|np G<|by simp];exact r2,r3],
     #[q5.1,by rw[Qu lp];exact q5.2.1,q5.2.2.other λz=>np p (by simp[z]) rfl],#[I.1,by rw[Qu<|np R<|by simp];exact I.2.1,I.2.2]]
   have S4:=wr _ N g M f S3.sub (λU _ j=>Qu λz=>j<|by rw[z];exact X) YL B (λU j=>.inl j);exact TL (N:=N) c (XW hlt) h Y (hz ns Y) (by rw[List.set_set];exact hn) (x.trans<|x1.trans x2) S4 C' B rfl A
 .have Y:Zb N.leav k=none:=by
   rcases l3.val k with z|⟨al,ns,z1,Y,z3,z4⟩
   .exact z.2
   .rw[A]at z1;cases z1
  have J:Yi N.leav k=N.leav++[(k,[])]:=by unfold Yi;rw[Y];rfl
  rw[J]at h hn hz;have fp:=T.sub.free X;have B:NetOk P w C { N with leav:=N.leav++[(k,[])] } F1 (upd (upd L p<|.lst []) E<|.dT<|g++[(k,.ref p)]) a s m G E R (g++[(k,.ref p)]) M (f++[p]):=by
   obtain⟨q0,q1,q2,q3,q4,q5,I⟩:=W;obtain⟨Q,ex,e2,e3⟩:=q3;obtain⟨o,rx,r2,r3⟩:=q4;have nd':=q0;simp only[XM,Xc,not_or]at nd';obtain⟨⟨a1,a2,a3,a4,a5,a6⟩,⟨b1,b2,b3,b4,b5⟩,⟨c1,c2,c3,c4⟩,⟨g1',g2,g3⟩,⟨h1,h2⟩,f1,f2⟩:=nd';have up:∀{q:Addr},q∈a::s::m::G::E::R::f->q≠E->upd (upd L p<|.lst []) E (.dT<|g++[(k,.ref p)]) q=L q:=λhq ne=>by rw[Qu ne,Qu<|np _ hq]
   refine#[?_,#[q1.1,by rw[up (by simp) a4];exact q1.2],#[q2.1,by rw[up (by simp) b3];exact q2.2],#[Q,ex,by rw[up (by simp) c2];exact e2,e3],#[o,rx,by rw[up (by simp) g1'];exact r2,r3],#[l1,QG,?_],#[I.1,by rw[up (by simp)<|Ne.symm h1];exact I.2.1,I.2.2]]
   .have:(a::s::m::G::E::R::(f++[p]))=(a::s::m::G::E::R::f)++[p]:=by simp
    rw[this,Md];refine#[q0,by simp,λu hu t ht=>?_];cases Xj.mp ht;exact np u hu
   .refine LeavD.snoc k #[fp,[],by rw[Qu<|Ne.symm lp,QG],.nil] ?_;exact(l3.other λz=>np p (by simp[z]) rfl).other h2
  have S4:=
   wr _ _ _ M (f++[p]) ((T.sub.upd fp).upd l1) (λU hb1 hb2=>by rw[Qu (λz=>hb1<|by rw[z];simp),Qu λz=>hb2<|by rw[z];exact X]) (λU j=>YL U<|YL U j) B (λU j=>by
    rcases Xq.mp j with z|z
    .exact .inl z
    .cases Xj.mp z;exact .inr #[X,h0p])
  have hl0:=hp' E (by simp);exact TL c (XW hlt) h (Fz _ Y) (hz []<|Fz _ Y) (by rw[List.set_set];exact hn) ((x.trans<|x1.trans x2).wr hl0.1 hl0.2.1) S4 C' B rfl (by
   rw[FD k k (.ref p) g A,Xi rfl])
end
end L2
namespace L2
structure KTup(K:W.Frag)(g:Addr)(x:Str):Prop where
 ex:∃(d:Qj) (t:Nat) (n:Nat) (sl:Array (Qf)),K.lookup g=some #[.type "tuple",d,.seq (List.toArray [.str x t]) n,sl]
def Zre{c:Shared}
(KX:K.In c.heap)(O:c.heap.Ns mainGlobals mg)(i:c.heap.Ns builtinsNs mb)(hbb:∀x:Str,x ≠ "__name__" -> mb x=bootBuiltins x)(Q:c.heap.NoLimit)(hg:c.gens=(List.toArray []))
(p:c.heap.get? a=some { cls:=.type "list",data:=.seq vs.toArray })(hi:IntsAre vs ns)(hl:ns.length<=sizeLine)(hr:Room k callerA)(tS:KTup K gS "start")(tE:KTup K gE "end")
(F:∀base:Heap,K.In base->base.Ns mainGlobals mg->FnOk P w K mg base CX0 k fa fd [x] sp)(Y:∀(s:Shared) (u:Value),BindsTo s fd #[[u],[]] [(x,u)])
(hsp:∀H:Hp,SqL K H a (ns.map V.int)->H gS=some (.tup [.str "start"])->H gE=some (.tup [.str "end"])->sp [.ref a] H (λv _=>v=.bl true) λ_ _ _=>False):
 codeAny (model P w) callerA (.call (.ref fa) #[[.ref a],[]]) (λr M=>r=.ok (.ret<|.bool true)/\OldK c.heap M.heap/\M.os=c.os/\AllBare M.gens) c:=by
 have rv:=Fi hi;have I:=hi.length;obtain⟨dS,kS,cS,slS,lS⟩:=tS.ex;obtain⟨dE,kE,cE,slE,lE⟩:=tE.ex;have Z:=KX gS _ lS;have l:=KX gE _ lE;have naS:gS≠a:=λz=>by
  rw[z,p]at Z;injection Z with D;injection D with X;injection X with t;exact Xu t (by decide)
 have naE:gE≠a:=λz=>by
  rw[z,p]at l;injection l with D;injection D with X;injection X with t;exact Xu t (by decide)
 have nSE:gE≠gS:=λz=>by
  rw[z,lS]at lE;injection lE with D;injection D with _ _ X _;injection X with t _;have z4:=Xz Array.toList t;simp only[List.cons.injEq,Value.str.injEq,and_true]at z4;exact Xu z4.1 (by decide)
 have W:∀f:Hp,C0 f->SqL K f a (ns.map V.int)->HOk P w f c.heap->(∀b,f b≠none->b=a)->(f a≠none->K.lookup a=none)->
  codeAny (model P w) callerA (.call (.ref fa) #[[.ref a],[]]) (λr M=>r=.ok (.ret<|.bool true)/\OldK c.heap M.heap/\M.os=c.os/\AllBare M.gens) c:=by
  intro f hO hSq N hA hK;have fS:f gS=none:=by
   cases q:f gS with
   |none=>rfl
   |some u=>exact Xu (hA gS<|by rw[q];simp) naS
  have fE:f gE=none:=by
   cases q:f gE with
   |none=>rfl
   |some u=>exact Xu (hA gE<|by rw[q];simp) naE
  have g:∀{b:Addr} {o:Obj},c.heap.get? b=some o->f b=none->(JF c.heap f).get? b=some o:=λe n=>Zs7 e n
  have noA:∀{b:Addr} {o:Obj} {es:Array DictEntry} {ep:Nat},c.heap.get? b=some o->o.data=.dict es ep->f b=none:=λ{b o es ep} e d=>by
   cases q:f b with
   |none=>rfl
   |some u=>
    have e':b=a:=hA b (by rw[q];simp);subst e';rw[p]at e;cases e;have d':=d;cases d'
  have B:∀{b:Addr} {m:Str->Qf},c.heap.Ns b m->(JF c.heap f).Ns b m:=λ{b m} ⟨o,es,ep,e,d,r⟩=>#[o,es,ep,g e<|noA e d,d,r]
  have R:=λb o e=>g (KX b o e) (by
   cases q:f b with
   |none=>rfl
   |some u=>
     have e':b=a:=hA b (by rw[q];simp);subst e';rw[hK<|by rw[q];simp]at e;cases e)
  have hM:Mod K mg (JF c.heap f):=#[R,B O,#[mb,B i,hbb],let ⟨mc,y,j⟩:=Q;#[mc,B y,j]]
  let H:Hp:=upd (upd f gS<|.tup [.str "start"]) gE (.tup [.str "end"])
  have C:H gS=some (.tup [.str "start"]):=by show upd _ _ _ gS=_;rw[Qu<|Ne.symm nSE,QG]
  have E:H gE=some (.tup [.str "end"]):=QG;have A:∀b,b≠gS->b≠gE->H b=f b:=λb y j=>by show upd _ _ _ b=_;rw[Qu j,Qu y]
  have sm:Q6 f H:=λb u e=>by
   rw[A b (λz=>by rw[z,fS]at e;cases e) λz=>by rw[z,fE]at e;cases e];exact e
  have l1:∀x:Str,[V.str x].length<=sizeLine:=λ_=>Wr (V7 Ul)
  have J:HOk P w H c.heap:=λb u e=>by
   by_cases y:b=gS
   .subst y;rw[C]at e;cases e;exact#[l1 _,[.str "start" kS],.cons #[kS,rfl] .nil,#[_,Z,rfl,_,rfl]]
   .by_cases j:b=gE
    .subst j;rw[E]at e;cases e;exact#[l1 _,[.str "end" kE],.cons #[kE,rfl] .nil,#[_,l,rfl,_,rfl]]
    .rw[A b y j]at e;rcases hO b with z|⟨o,xs,z⟩
     .rw[z]at e;cases e
     .rw[z]at e;cases e;obtain⟨q1,q2⟩:=N b _ z;exact#[q1,q2]
  have e0:Env0 P w K mg (JF c.heap f) callerA [] c H:=#[rfl,hM,λb o e=>by
   obtain⟨e1,e2⟩:=IE e;refine#[e1,?_]
   by_cases y:b=gS
   .exact .inr #[_,by rw[y];exact C]
   .by_cases j:b=gE
    .exact .inr #[_,by rw[j];exact E]
    .exact .inl (by rw[A b y j];exact e2),Nat.le_of_eq<|ZqO _ _,trivial,λb i=>Xu (show b∈([]:Qg) from i)<|by simp,J,.of_eq hg]
  refine codeAny_mono ((F _ R<|B O).run callerA [] c H #[[.ref a],[]] [.ref a] [.ref a] _ _ hr e0 (Y c<|.ref a) (.cons rfl .nil) (hsp H (sm.seq hSq) C E)) λr M h=>?_
  cases r with
  |error e=>exact False.elim h
  |ok fl=>
   cases fl with
   |next=>exact False.elim h
   |brk=>exact False.elim h
   |cont=>exact False.elim h
   |ret u=>
    obtain⟨v,U,os,S,T,L,r',q⟩:=h;have q':v=.bl true:=q;subst q';obtain rfl:u=Value.bool true:=r';refine#[rfl,OldK.of_keep λb o e=>?_,os,S]
    by_cases y:b=gS
    .subst y;exact T.tupo b _ o C e (by simp)
    .by_cases j:b=gE
     .subst j;exact T.tupo b _ o E e (by simp)
     .rcases hO b with z|⟨ob,xs,z⟩
      .exact T.keep b o e (by rw[A b y j];exact z) (by intro z;exact Xu (show b∈([]:Qg) from z)<|by simp) (by simp)
      .have X:=T.frzs b ob _ (by rw[A b y j];exact z);obtain⟨e1,_⟩:=N b _ z;obtain⟨e2,_⟩:=L b _ X;rw[e]at e1;cases e1;exact e2
 cases hk:K.lookup a with
 |some o=>
  have e:=KX a o hk;rw[p]at e;cases e;refine W (λ_=>none) (λ_=>.inl rfl) (.inr #[_,vs.toArray,_,hk,rfl,rfl,rfl,by rw[Xr,I];exact hl,by simpa using rv]) (λb u z=>by have G:(none:Option HO)=some u:=z;cases G) (λb z=>Xu rfl z) λz=>Xu rfl z
 |none=>
  refine W (λb=>if b=a then some (.frz { cls:=.type "list",data:=.seq vs.toArray }<|.lst<|ns.map V.int) else none) (λb=>?_) (.inl<|.inr #[{ cls:=.type "list",data:=.seq vs.toArray },Xi rfl]) (λb u z=>?_) (λb z=>?_) λ_=>hk
  .by_cases i:b=a
   .exact .inr #[_,_,Xi i]
   .exact .inl (Xg i)
  .by_cases i:b=a
   .have G:=(Xi i).symm.trans z;cases G;subst i;exact#[p,by rw[Xf];exact hl,vs,_,rv,p]
   .have G:=(Xg i).symm.trans z;cases G
  .by_cases i:b=a
   .exact i
   .exact Xu (Xg i) z
def Zo4{l:W.OpenLaw}{q:Program}{K:Params->W.Frag}
(hn:l.most=some 63)(C:d.params.defaults=[])(e:Room k callerA)
(t:∀(w:World) (h:Heap),YP w h->(K w.params).In h)
(F:∀(w:World) (mg:Str->Qf) (A:Addr) (h:Heap),(K w.params).In h->h.Ns mainGlobals mg->mg d.name=some (.ref A)->
  (∃m y,W.nsIn (K w.params) mainGlobals "START"=some (some<|.ref m)/\W.nsIn (K w.params) mainGlobals "END"=some (some<|.ref y)/\KTup (K w.params) m "start" /\ KTup (K w.params) y "end")/\
  ∃fd:FuncData,(∀(s:Shared) (u:Value),BindsTo s fd #[[u],[]] [(x,u)])/\
   ∀base:Heap,(K w.params).In base->base.Ns mainGlobals mg->FnOk l.prog w (K w.params) mg base CX0 k A fd [x] (MA<|K w.params)):
 W.WalkO q loose XP YP l.row.toRowW d [] (λf vs=>PySem.call f vs):=by
 refine Att.attach_callW hn C λw E R mg N A o L cd J a vs Y G Xa1 O Q p B j g c i n=>?_
 have M:=t w _ Xa1;obtain⟨⟨m,y,b,Z,X,P⟩,fd,r,z⟩:=F w mg A _ M G.T.g B;exact Zre M G.T.g G.T.b G.T.builtins G.T.nolimit n j g (Xl c<|by decide) e X P z r (λH v I D=>#[a,Y,rfl,.inr #[m,y,b,Z,I,D],#[v,c,i],λ_=>rfl])
def KQ  {g:Addr}(a:W.nsIn K mainGlobals "START"=some (some<|.ref g)):Qq K (tC<|.ref g) Z (Zj [.inr "start"]):=λH0 F O H Q S q=>by
 rcases S.kt with c|⟨j,m,c,i,f,h⟩<;>rw[c]at a<;>cases a
 exact q F H _ (Q5.refl S.sub) (.tup f<|.cons (.str _) .nil)
def PJ  {g:Addr}(b:W.nsIn K mainGlobals "START"=some (some<|.ref g'))(a:W.nsIn K mainGlobals "END"=some (some<|.ref g)):Qq K (tC<|.ref g) Z (Zj [.inr "end"]):=λH0 F O H Q S q=>by
 rcases S.kt with h|⟨j,m,h,f,i,c⟩
 .grind
 .rw[f]at a;cases a;exact q F H _ (Q5.refl S.sub) (.tup c<|.cons (.str _) .nil)
end L2
namespace L2
def Kj(c:Room k A):A.units+6<cLine:=Mh (Nat.add_le_add_left (by decide) _) c.units
def P2(f tv:TE):TE:=λO H Q=>∀p,H p=none->f O (upd H p<|.dT []) λx L=>tv O L λy c=>∃k b,x=.ref b/\c p=some (.dT [])/\c b=some (.tup<|k.map kV)/\Q (.ref p) (upd c p<|.dT [(k,y)])
def Zrp(R:X.A.units+1<cLine)(o:PE X ke tk)(d:PE X ve tv):PE X (.Dict [some ke] [ve] E) (P2 tk tv):=by
 intro Y s O H Q I q;have n:=I.hok.fresh (Xn s.heap.objs.size);have G:=I.laid (t':=s.toks) (λ_ _ q=>Xd _ q) (Xn _) (Lu s.heap I.big);refine wpAny_Dict_any rfl rfl (by simp) (by simp) (pairTrees_cons_walk<|Q8 (o Y _ O _ _ G<|q _ n) ?_);rintro N K ⟨x,L,F,P,Z⟩;refine Q8 (d Y K O L _ F Z) ?_;rintro C J ⟨y,B,i,M,k,b,w,e,A,W⟩;refine pairTrees_nil_walk ?_;subst w;obtain rfl:=P;obtain⟨z,p,xs,f,dd⟩:=HD i.hok e;have a:xs=[]:=by cases f;rfl
 subst a;unfold storeAll;rw[List.forIn_cons];refine Xa (Xa<|wpAny_dictSet_heap (hsz:=XN _) (show X.A.units<cLine by lia) (WM i.hok A) dd λh' h l=>Xm ?_);obtain⟨j,es,D,m,v,u,t,_,r⟩:=h;refine Xm #[.ref s.heap.objs.size,upd B s.heap.objs.size<|.dT [(k,y)],BD i (by rw[e];exact True.intro) l #[j,m] #[Wr<|V7<|by simp,p,_,(show KT B [_] [(k,b,C)] from .cons #[rfl,A,M] .nil).keeps λc ys g=>?_,j,es,D,m,v,u,t,r],rfl,W];rw[Qu λz=>by subst z;rw[e]at g;cases g];exact g
def OU(B:Qq K tk Z (Zj k))(A:Qq K tv Z d):EvX K (P2 tk tv) Z (VH [(k,d)]):=λH0 F O H Q S q=>λp f=>by
 have g:Q5 F H F (upd H p<|.dT []):=Q5.own S.sub f;have f0:=S.sub.free f;refine B H0 F O _ _ (S.ext g) λW L x j s=>A H0 W O L _ (S.ext<|g.trans j) λP Y y i m=>?_;obtain⟨b,rfl,C⟩:=WR s;have X:=j.trans i;have h:=X.hh _ _ QG;have c:=X.free f0 (by rw[QG];rintro⟨⟩);have M:=g.trans X;refine#[k,b,rfl,h,X.fh _ _<|i.ff _ _ C,q P _ _ [p] (M.wr f c) (λa E=>by cases Xj.mp E;exact f) #[p,_,rfl,rfl,c,QG,.cons m .nil]]
inductive LeavZ(F:Hp):List (List Key×V)->List (List Key×Ql)->Prop
 |nil:LeavZ F [] []
 |cons {k:List Key}{a:Addr}{ns:Ql}{za:List V}{xs:List (List Key×V)}{ls:List (List Key×Ql)}:F a=some (.lst za)->Q0 F za (ns.map PyData.int)->LeavZ F xs ls->LeavZ F ((k,.ref a)::xs) ((k,ns)::ls)
theorem LeavZ.mono{F c:Hp}(s:Q6 F c):∀{xs:List (List Key×V)} {ls:List (List Key×Ql)},LeavZ F xs ls->LeavZ c xs ls
 |_,_,.nil=>.nil
 |_,_,.cons h r t=>.cons (s _ _ h) (r.mono s) (t.mono s)
theorem LeavZ.val{F:Hp}(k:List Key):∀{xs:List (List Key×V)} {ls:List (List Key×Ql)},LeavZ F xs ls->(ZA xs k=none/\Zb ls k=none)\/∃a ns za,ZA xs k=some (.ref a)/\Zb ls k=some ns/\F a=some (.lst za)/\Q0 F za (ns.map PyData.int)
 |_,_,.nil=>.inl #[rfl,rfl]
 |_,_,.cons (k:=k') (a:=a) (ns:=ns) (za:=za) (ls:=ls) h r t=>by
  by_cases e:k'=k
  .exact .inr #[a,ns,za,Wm e,by simp[Zb, e],h,r]
  .have q:Zb ((k',ns)::ls) k=Zb ls k:=by simp[Zb, e]
   rw[Wl e,q];exact t.val k
theorem LeavD.fz{F c H:Hp}(s:Q6 F c):∀{xs:List (List Key×V)} {ls:List (List Key×Ql)} {as:Qg},LeavD F H xs ls as->(∀b∈as,c b=H b)->LeavZ c xs ls
 |_,_,_,.nil,_=>.nil
 |_,_,_,.cons h t,f=>by
  obtain⟨m,xs,j,i⟩:=h;exact .cons (by rw[f _ Xb];exact j) (i.mono s) (t.fz s λb g=>f b<|Xe _ g)
structure NetFz(P:Program)(w:World)(C:Addr)(N:QB)(F:Hp)(a D e r l d:Addr)(xs:List (List Key×V))(ys:List (KK×Addr×V)):Prop where
 ins:F a=some (.ins C D [("ends",.ref e),("rooms",.ref r),("leaving",.ref l),("laid",.ref d)])
 ends:∃ex,F e=some (.lst ex)/\Q0 F ex (N.ends.map Zj)
 rooms:∃rx,F r=some (.lst rx)/\Q0 F rx (N.rooms.map PyData.int)
 leav:F l=some (.dT xs)/\LeavZ F xs N.leav
 laid:F d=some (pdO P w d ys)/\LaidD F ys N.laid
def NetFz.mono{xs:List (List Key×V)}{ys:List (KK×Addr×V)}(s:Q6 F F')(h:NetFz P w C N F a D e r l d xs ys):NetFz P w C N F' a D e r l d xs ys:=by
 obtain⟨B,⟨E,A,y⟩,⟨c,q,m⟩,⟨j,i⟩,⟨g,f⟩⟩:=h;exact#[s _ _ B,#[E,s _ _ A,y.mono s],#[c,s _ _ q,m.mono s],#[s _ _ j,i.mono s],#[s _ _ g,f.mono s]]
def Vg(P:Program)(w:World)(C:Addr)(N:QB):ZP where
 ok K F v := ∃a D e r l d xs ys,v=.ref a/\NetFz P w C N F a D e r l d xs ys
 mono:=by
  rintro K F c v s ⟨a,D,e,r,l,d,xs,ys,rfl,h⟩;exact#[a,D,e,r,l,d,xs,ys,rfl,h.mono s]
def NetOk.fz{xs:List (List Key×V)}{ys:List (KK×Addr×V)}(h:NetOk P w C N F H a D el r l d xs ys as)(s:Q6 F F')(he:∀b∈a::D::el::r::l::d::as,F' b=H b):
 NetFz P w C N F' a D el r l d xs ys:=by
 obtain⟨W,⟨Y,m⟩,_,⟨Z,y,B,A⟩,⟨M,c,g,f⟩,⟨X,j,i⟩,⟨e,K,E⟩⟩:=h;exact#[by rw[he _<|by simp];exact m,#[y,by rw[he _<|by simp];exact B,A.mono s],#[c,by rw[he _<|by simp];exact g,f.mono s],#[by rw[he _<|by simp];exact j,i.fz s λb q=>he b<|by simp[q]],#[by rw[he _<|by simp];exact K,E.mono s]]
def Zr.fz(h:(Zr P w C N).ok K F H v p)(s:Q6 F F')(he:∀b∈p,F' b=H b):(Vg P w C N).ok K F' v:=by
 obtain⟨a,D,e,r,l,d,xs,ys,c,rfl,rfl,o⟩:=h;exact#[a,D,e,r,l,d,xs,ys,rfl,o.fz s he]
def Gd(kvs:VX):ZP where
 ok K F v := ∃a xs,v=.ref a/\F a=some (.dT xs)/\PairD F xs kvs
 mono:=by
  rintro K F g v s ⟨a,xs,rfl,f,c⟩;exact#[a,xs,rfl,s _ _ f,c.mono s]
def VH.fz(h:(VH kvs).ok K F H v p)(s:Q6 F F')(he:∀b∈p,F' b=H b):(Gd kvs).ok K F' v:=by
 obtain⟨a,xs,rfl,rfl,g,f,c⟩:=h;exact#[a,xs,rfl,by rw[he a Xb];exact f,c.mono s]
def QL.freezeZ{Ψ:ZP}(s:QL K H0 F Z O H)(e:zg Z i<|zo v Φ)
(hz:∀{F c H:Hp} {u:V} {p:Qg},Φ.ok K F H u p->Q6 F c->(∀b∈p,c b=H b)->Ψ.ok K c u):
 ∃p,(∀a∈p,F a=none/\H a≠none/\H0 a=none)/\QL K H0 (frF F H p) (Z.set i<|zz Ψ) O H:=
 s.frz e λu p f=>#[rfl,hz f.2 (WW λa h=>(Φ.there f.2 a h).1) λb g=>Jr g]
def Ks(i:Nat){Ψ:ZP}(e:zg Z i<|zo v Φ)(hz:∀{F g H:Hp} {u:V} {p:Qg},Φ.ok K F H u p->Q6 F g->(∀b∈p,g b=H b)->Ψ.ok K g u)
(h:QE K t (Z.set i<|zz Ψ) dx):QE K t Z dx:=λF0 H0 F O H f x S C=>by
 obtain⟨p,j,m⟩:=S.freezeZ e hz;refine h F0 H0 _ O H f #[x.hh,x.ff.trans<|WW λa c=>(j a c).1,m.sub,λa c=>?_] m C
 by_cases z:a∈p
 .exact .inr (j a z).2.2
 .rw[Js z]at c;exact x.fr a c
def Zrt(i:Nat)(e:zg Z i<|zo v<|Zr P w C N)(h:QE K t (Z.set i<|zz<|Vg P w C N) dx):QE K t Z dx:=Ks i e (λa b c=>Zr.fz a b c) h
def Li(i:Nat)(e:zg Z i<|zo v<|VH kvs)(h:QE K t (Z.set i<|zz<|Gd kvs) dx):QE K t Z dx:=Ks i e (λa b c=>VH.fz a b c) h
def Zu(K:W.Frag)(t:TE)(Z:Zcs)(Φ:OT->Prop):Prop := ∀(H0 F:Hp) (O:St) (H:Hp) (Q:VK),QL K H0 F Z O H->(∀c U v p r,Φ r->Q5 F H c U->(∀a∈p,H a=none)->Zx K c U v r p->Q v U)->t O H Q
def EvO.d(h:EvO K t Z r)(f:Φ r):Zu K t Z Φ:=λH0 F O H Q S q=>h H0 F O H Q S λi U v p x g c=>q i U v p r f x g c
def Zu.imp(h:Zu K t Z Φ)(f:∀r,Φ r->Φ' r):Zu K t Z Φ':=λH0 F O H Q S q=>h H0 F O H Q S λg U v p r c=>q g U v p r (f r c)
def Zu.o(h:Zu K t Z (λc=>c=r)):EvO K t Z r:=λH0 F O H Q S q=>h H0 F O H Q S λi U v p c e x g f=>by subst e;exact q i U v p x g f
def Ju(h:Zu K te Z Φ)(hn:∀r,Φ r->dx.nx (Z.set i<|some r)):QE K (V2 te<|Yb i) Z dx:=λF0 H0 F O H A x S C=>
 h H0 F O H _ S λe U v p r E c m B=>by
  refine C.nx e _ U _ (x.trans c) ((S.ext c).set B (λa g=>x.hh.free<|m a g) (hn:=λa g j w y q d b f=>?_)) (hn r E);obtain⟨n,W,l,P⟩:=S.fp;obtain⟨k,s,Y⟩:=W j y d;intro M;have X:=Y.ext c;rw[b]at s;cases s;exact(P j a<|BN X f a M).2 (m a g)
def Kz(h:Zu K te Z Φ)(i:∀r,Φ r->dx.rt r):QE K (VU te) Z dx:=λF0 H0 F O H f x S C=>
 h H0 F O H _ S λq U v p r e c j g=>C.rt q U v r p (x.trans c) (λa m=>x.hh.free<|j a m) g (i r e)
def TC(e:zg Z i<|zo v Φ)(f:dx.rt (.own v Φ)):QE K (VU<|QF i) Z dx:=λF0 H0 F O H c x S C=>by
 obtain⟨s,h,_,j⟩:=S.fp;obtain⟨u,q,m⟩:=h i _ e;exact#[_,q,C.rt F H u _ _ x (λa g=>(j i a g).1) m f]
def JB(r:OT):Prop := ∀(K:W.Frag) (F c H:Hp) (v:V) (p:Qg),(∀a∈p,c a=none)->Zx K F H v r p->Zx K c H v r p
def Rep.thin{w:V}(r:Rep F v d)(h:V4 d=some w):Rep F' v d:=by
 cases r<;>simp[V4]at h
 .exact .non
 .exact .bl _
 .exact .int _
 .exact .str _
def GF{w:V}(h:V4 d=some w):JB (.fz d):=λK F f H v p _ c=>#[c.1,c.2.thin h]
def II(h:Bu ds):JB (.ol ds):=λK F m H v p f c=>by
 obtain⟨a,rfl,rfl,j,xs,i,g⟩:=c;exact#[a,rfl,rfl,f a Xb,xs,i,g.flats h]
def Ko(kvs:VX):Prop := ∀x∈kvs,∃w,V4 x.2=some w
theorem PairD.flats{F f:Hp}:∀{xs:List (List Key×V)} {kvs:VX},Ko kvs->PairD F xs kvs->PairD f xs kvs
 |_,_,_,.nil=>.nil
 |_,_,h,.cons r t=>by
  obtain⟨w,e⟩:=h _ Xb;exact .cons (r.thin e) (t.flats λx c=>h x<|Xe _ c)
def Ot(h:Ko kvs):JB (.own v<|VH kvs):=λK F m H u p f c=>by
 obtain⟨e,a,xs,rfl,rfl,j,i,g⟩:=c;exact#[e,a,xs,rfl,rfl,f a Xb,i,g.flats h]
def KW{Ψ:ZP}(i:Nat)(e:zg Z i<|zo v Φ0)(hz:∀{F c H:Hp} {u:V} {p:Qg},Φ0.ok K F H u p->Q6 F c->(∀b∈p,c b=H b)->Ψ.ok K c u)
(A:∀r,Φ r->JB r)(h:Zu K t (Z.set i<|zz Ψ) Φ):Zu K t Z Φ:=λH0 F O H Q S q=>by
 obtain⟨p,y,B⟩:=S.freezeZ e hz;refine h H0 _ O H Q B λc U u j r s x g m=>?_;refine q _ U u j r s (BG (λa f=>#[(y a f).1,(y a f).2.1]) x) g (A r s K c _ U u j (λa f=>?_) m)
 by_cases z:a∈p
 .rw[Xi z]
 .rw[Xg z];exact(m.there a f).1
def NI(i:Nat)(e:zg Z i<|zo v<|Zr P w C N)(f:∀r,Φ r->JB r)(h:Zu K t (Z.set i<|zz<|Vg P w C N) Φ):Zu K t Z Φ:=
 KW i e (λa b c=>Zr.fz a b c) f h
def ZnU(i:Nat)(e:zg Z i<|zo v<|Zr P w C N)(f:V4 d=some u)(h:Qq K t (Z.set i<|zz<|Vg P w C N) d):Qq K t Z d:=
 EvO.e (Zu.o<|NI i e (λr c=>by subst c;exact GF f)<|h.o.d rfl)
section
variable {tb ty:TE}{w:World}{N:QB}{k:List Key}
def QL.netz(S:QL K H0 F Z O H)(e:zg Z i<|zz<|Vg P w C N):∃a D el r l d xs ys,O[i]?=some (some<|.ref a)/\NetFz P w C N F a D el r l d xs ys:=by
 obtain⟨g,h,_⟩:=S.fp;obtain⟨v,f,_,a,D,el,r,l,d,xs,ys,rfl,c⟩:=h i _ e;exact#[a,D,el,r,l,d,xs,ys,f,c]
def Nl(c:NetC K C)(e:zg Z i<|zz<|Vg P w C N){k m:Int}(W:Qq K tb Z (.int k))(M:atI (N.rooms.map PyData.int) k=some (.int m)):Qq K (tOp (rIx K) (ZZ K (QF i) "rooms") tb) Z (.int m):=λH0 F O H Q S q=>by
 obtain⟨a,D,b,r,l,d,xs,ys,X,g⟩:=S.netz e;refine#[_,X,a,C,D,_,.ref r,rfl,S.sub _ _ g.ins,c.cl,c.rooms,rfl,W H0 F O H _ S λY L y f E=>?_];cases E;obtain⟨s,B,A⟩:=g.rooms;obtain⟨z,j,h⟩:=G4 (A.mono f.ff) M;exact .inl #[r,s,k,z,rfl,rfl,SqL.of<|f.fh _ _<|f.ff _ _ B,j,q Y L z f h]
def Tt(c:NetC K C)(e:zg Z i<|zz<|Vg P w C N){k:Int}(W:Qq K tb Z (.int k))(M:atI (N.ends.map Zj) k=some n):Qq K (tOp (rIx K) (ZZ K (QF i) "ends") tb) Z n:=λH0 F O H Q S q=>by
 obtain⟨a,D,h,r,l,d,xs,ys,X,g⟩:=S.netz e;refine#[_,X,a,C,D,_,.ref h,rfl,S.sub _ _ g.ins,c.cl,c.ends,rfl,W H0 F O H _ S λY L y f E=>?_];cases E;obtain⟨s,B,A⟩:=g.ends;obtain⟨z,m,j⟩:=G4 (A.mono f.ff) M;exact .inl #[h,s,k,z,rfl,rfl,SqL.of<|f.fh _ _<|f.ff _ _ B,m,q Y L z f j]
def Oj(c:NetC K C)(e:zg Z i<|zz<|Vg P w C N)(X:Qq K ty Z (Zj k)):Qq K (Pz (ZZ K (QF i) "leaving") ty<|UZ QT) Z (.list<|((Zb N.leav k).getD []).map PyData.int):=λH0 F O H Q S q=>by
 obtain⟨a,D,z,r,l,d,xs,ys,o,g⟩:=S.netz e;refine#[_,o,a,C,D,_,.ref l,rfl,S.sub _ _ g.ins,c.cl,c.leav,rfl,l,rfl,.inr #[xs,Rd.of<|S.sub _ _ g.leav.1],X H0 F O H _ S λA L y s M=>#[XN _,λp Y=>?_]];obtain⟨b,rfl,n⟩:=WR M;have u:=S.ext s;have m:Q5 A L (upd A p<|.lst []) _:=Q5.new u.sub Y;have f:=s.trans m;have W:=f.fh _ _ (f.ff _ _ g.leav.1);have t:=m.fh _ _ (m.ff _ _ n);refine#[ZA xs k,V8.t W t,?_];rcases g.leav.2.val k with ⟨j,h⟩|⟨G,x,v,j,h,E,B⟩
 .rw[j];exact q _ _ _ f (by rw[h];exact .lst QG .nil)
 .rw[j];exact q _ _ _ f (by rw[h];exact .lst (f.ff _ _ E)<|B.mono f.ff)
def OB(c:NetC K C)(e:zg Z i<|zz<|Vg P w C N){k1 k2:List Key}(m:Qq K ty Z (.tuple [Zj k1,Zj k2]))(hn:Vd N.laid (k1,k2)=some n):Qq K (SK P w (ZZ K (QF i) "laid") ty) Z (.int n):=λH0 F O H Q S q=>by
 obtain⟨a,D,W,r,l,d,xs,ys,B,g⟩:=S.netz e;refine#[_,B,a,C,D,_,.ref d,rfl,S.sub _ _ g.ins,c.cl,c.laid,rfl,m H0 F O H _ S λM E y f k=>?_];obtain⟨b,rfl,s⟩:=Nt k;have j:=S.ext f;have h:=g.laid.2.mono f.ff;exact#[d,b,ys,_,.int n,rfl,rfl,f.fh _ _<|f.ff _ _ g.laid.1,h.at j.sub,s.mono λX z A=>j.sub _ _ A,by rw[h.val,hn];rfl,q M E _ f<|.int n]
def Zqh(c:NetC K C){k1 k2:List Key}(m:Qq K ty Z (.tuple [Zj k1,Zj k2]))(e:zg Z i<|zz<|Vg P w C N):Qq K (Tv P w ty<|ZZ K (QF i) "laid") Z (.bool<|!(Vd N.laid (k1,k2)).isSome):=λH0 F O H Q S q=>
 m H0 F O H _ S λM E y h k=>by
  have f:=S.ext h;obtain⟨a,D,W,r,l,d,xs,ys,B,g⟩:=f.netz e;obtain⟨b,rfl,s⟩:=Nt k;have j:=g.laid.2;refine#[_,B,a,C,D,_,.ref d,rfl,f.sub _ _ g.ins,c.cl,c.laid,rfl,d,b,ys,_,rfl,rfl,f.sub _ _ g.laid.1,j.at f.sub,s.mono λX z A=>f.sub _ _ A,q M E _ h ?_];rw[j.val,Ue];exact .bl _
def QL.dctz(S:QL K H0 F Z O H)(e:zg Z i<|zz<|Gd kvs):∃a xs,O[i]?=some (some<|.ref a)/\F a=some (.dT xs)/\PairD F xs kvs:=by
 obtain⟨j,h,_⟩:=S.fp;obtain⟨v,g,_,a,xs,rfl,f,c⟩:=h i _ e;exact#[a,xs,g,f,c]
def T9(e:zg Z i<|zz<|Gd kvs)(A:Qq K ty Z (Zj k))(B:Yt kvs k=some d):Qq K (Pk (QF i) ty) Z d:=λH0 F O H Q S q=>by
 obtain⟨a,xs,h,_⟩:=S.dctz e;refine#[_,h,A H0 F O H _ S λN L y f w=>?_];obtain⟨W,s,c,M,E⟩:=(S.ext f).dctz e;rw[h]at c;cases c;obtain⟨b,rfl,C⟩:=WR w;rcases E.val k with ⟨_,z⟩|⟨x,P,m,g,j⟩
 .grind
 .rw[B]at g;cases g;exact#[a,x,rfl,m▸V8.t (f.fh _ _ M) (f.fh _ _ C),q N L x f j]
def En(g:Qq K ty Z (Zj k))(e:zg Z i<|zz<|Gd kvs):Qq K (Mt ty<|QF i) Z (.bool (Yt kvs k).isSome):=λH0 F O H Q S q=>
 g H0 F O H _ S λw L y c f=>by
  obtain⟨a,xs,s,m,j⟩:=(S.ext c).dctz e;obtain⟨b,rfl,h⟩:=WR f;exact#[_,s,a,_,rfl,V8.t (c.fh _ _ m)<|c.fh _ _ h,q w L _ c<|by rw[NW j];exact .bl _]
end
end L2
namespace L2
inductive SpD(K:W.Frag)(R:List OT->(OT->Prop)->Prop)(vs:List V)(H:Hp)(Q:VK):Prop
 |mk (F:Hp)(ts:List OT)(Φ:OT->Prop)(kt:KTs K F)(sm:Q6 F H)(ha:Args K F vs ts)(hR:R ts Φ)(k:∀F' U v p r,Φ r->Q5 F H F' U->(∀a∈p,H a=none)->Zx K F' U v r p->Q v U):SpD K R vs H Q
def Zk(K:W.Frag)(R:List OT->(OT->Prop)->Prop):Sp:=λc H Q _=>SpD K R c H Q
def Mp(K:W.Frag)(t:TA)(Z:Zcs)(Φ:List OT->Prop):Prop := ∀(H0 F:Hp) (O:St) (H:Hp) (Q:List V->Hp->Prop),QL K H0 F Z O H->(∀f U c ts,Φ ts->Q5 F H f U->Args K f c ts->Q c U)->t O H Q
def Wk(h:Zp K t Z ts)(y:R ts Φ):Zu K (Ve (Zk K R) [] pos t) Z Φ:=λH0 F O H Q S q=>
 h H0 F O H _ S λC L E c g=>#[C,ts,Φ,(S.ext c).kt,c.fh,by rw[Xw];exact g,y,λB A v p r j f m i=>q B A v p r j (c.trans f) (λa s=>c.hh.free<|m a s) i]
def Jq(h:Zp K t Z ts)(f:Φ ts):Mp K t Z Φ:=λH0 F O H Q S q=>h H0 F O H Q S λg U c x r=>q g U c ts f x r
def Et(h:Zu K ta Z Φ)(y:∀r,Φ r->∃ds,r=.ol ds/\Φ' [.fz<|.list ds]):Mp K (QM ta QT) Z Φ':=λH0 F O H Q S q=>
 h H0 F O H _ S λA L v p r m x s j=>by
  obtain⟨ds,rfl,c⟩:=y r m;obtain⟨a,rfl,rfl,f,xs,i,g⟩:=j;exact q _ L [.ref a] _ c (x.freeze f i<|s a Xb) (.fz (.lst QG<|g.mono<|Q6.new f) .nil)
section
variable {w:World}{N:QB}
def NoF(m:Str):Prop := ∀e r l d:Addr,([("ends",V.ref e),("rooms",V.ref r),("leaving",V.ref l),("laid",V.ref d)]:List (Str×V)).lookup m=none
def Nq(E:NoF m)(e:zg Z i<|zz<|Vg P w C N)(h:Zp K t Z ts)(W:R (.zow (Vg P w C N)::ts) Φ):
 Zu K (ZV C m (Zk K R) [] pos (QF i) t) Z Φ:=λH0 F O H Q S q=>by
 obtain⟨a,D,X,r,l,d,xs,ys,Y,g⟩:=S.netz e;refine#[_,Y,a,D,_,rfl,S.sub _ _ g.ins,E _ _ _ _,h H0 F O H _ S λo L u c s=>?_];refine#[o,_,Φ,(S.ext c).kt,c.fh,.zow (Ψ:=Vg P w C N) #[a,D,X,r,l,d,xs,ys,rfl,g.mono c.ff]<|by rw[Xw];exact s,W,λn k v p y A j B f=>q n k v p y A (c.trans j) (λb M=>c.hh.free<|B b M) f]
def ZsC(x:NoF m)(J:Zu K ta Z Φ1)(hz:∀r,Φ1 r->∃v N,r=.own v (Zr P w C N)/\∃c,R (.zow (Vg P w C N)::ts) c/\∀r,c r->Φ r)
(h:Zp K t Z ts):Zu K (ZV C m (Zk K R) [] pos ta t) Z Φ:=λH0 F O H Q S q=>
 J H0 F O H _ S λX L v p r n j u s=>by
  obtain⟨v0,N,rfl,c,I,G⟩:=hz r n;obtain⟨rfl,s⟩:=s;have th:=λa g=>(Zr P w C N).there s a g;have M:Q6 X (frF X L p):=WW λa g=>(th a g).1
  have f:Q5 F H _ L:=#[j.hh,j.ff.trans M,Da j.fh,λa g=>by
   by_cases z:a∈p
   .exact .inr (u a z)
   .rw[Js z]at g;exact j.fr a g]
  obtain⟨a,D,T,r,l,d,xs,ys,as,rfl,rfl,o⟩:=s;refine#[a,D,_,rfl,o.ins.2,x _ _ _ _,h H0 _ O L _ (S.ext f) λF2 H2 vs i e=>?_];have z:=o.fz M (λb E=>Jr E);exact#[F2,_,c,(S.ext<|f.trans i).kt,i.fh,.zow (Ψ:=Vg P w C N) #[a,D,T,r,l,d,xs,ys,rfl,z.mono i.ff]<|by rw[Xw];exact e,I,λF3 U v k W A Y B y=>q F3 U v k W (G W A) ((f.trans i).trans Y) (λb E=>(f.trans i).hh.free (B b E)) y]
structure ExtN(p:Qg)(F H F' U:Hp):Prop where
 hh:∀b o,b∉p->H b=some o->U b=some o
 ff:Q6 F F'
 fh:Q6 F' U
 fr:∀b,F' b≠none->F b≠none\/H b=none\/b∈p
inductive SpN(K:W.Frag)(P:Program)(w:World)(C:Addr)(R:QB->List OT->(QB->Prop)->Prop)(vs:List V)(H:Hp)(Q:VK):Prop
 |mk (F:Hp)(a:Addr)(vs':List V)(p:Qg)(ts:List OT)(N:QB)(Ψ:QB->Prop)(e:vs=.ref a::vs')(kt:KTs K F)(sm:Q6 F H)(ha:Args K F vs' ts)(ok:(Zr P w C N).ok K F H (.ref a) p)(hR:R N ts Ψ)
  (k:∀F' U p' N',Ψ N'->ExtN p F H F' U->(Zr P w C N').ok K F' U (.ref a) p'->(∀b∈p',b∈p\/H b=none)->Q .non U):SpN K P w C R vs H Q
def spN(K:W.Frag)(P:Program)(w:World)(C:Addr)(R:QB->List OT->(QB->Prop)->Prop):Sp:=λc H Q _=>SpN K P w C R c H Q
def Wd{X:Type}{v:V}{Φ:X->OwnP}{N:X}{F H:Hp}{O:St}(S:QL K H0 F Z O H)(x:Q5 F0 H0 F H)(e:zg Z i<|zo v<|Φ N):
 ∃p,O[i]?=some (some v)/\(Φ N).ok K F H v p/\∀g U h y,ExtN p F H g U->(Φ y).ok K g U v h->(∀b∈h,b∈p\/H b=none)->
  Q5 F0 H0 g U/\QL K H0 g (Z.set i<|zo v<|Φ y) O U/\∀(q:Qg),(∀b∈q,(b∈p\/H b=none)/\b∉h)->(∀b∈q,H0 b=none)/\∀b∈q,∀(j:Nat) (u:V) (t':OT) (A:Qg),(Z.set i<|zo v<|Φ y)[j]?=some (some t')->O[j]?=some (some u)->Zx K g U u t' A->b∉A:=by
 obtain⟨u,p,a,⟨rfl,d⟩,P,k⟩:=S.chg e;refine#[p,a,d,λg U h y f s C=>?_];obtain⟨r,n⟩:=k g U (.own _ _) h f.ff f.fh (λb l c=>by
  obtain⟨o,Y⟩:=KJ c;rw[f.hh b o l Y,Y]) f.fr #[rfl,s] (λb c=>(C b c).imp id λz=>#[z,x.hh.free z])
 refine#[#[λb o c=>f.hh b o (λz=>by rw[(P b z).1]at c;cases c)<|x.hh b o c,x.ff.trans f.ff,f.fh,λb c=>?_],r,λq M=>#[λb c=>(M b c).1.elim (λz=>(P b z).1) λz=>x.hh.free z,λb c j u t' A B E m w=>?_]]
 .rcases f.fr b c with z|z|z
  .exact x.fr b z
  .exact .inr (x.hh.free z)
  .exact .inr (P b z).1
 .by_cases W:j=i
  .subst W;rw[XW (Xh.mp e).1]at B;cases B;rw[a]at E;cases E;exact(M b c).2 ((Φ y).uniq s m.2 b w)
  .rw[XY<|Ne.symm W]at B;have z:=n j u t' A W B E m b w;exact(M b c).1.elim z.1 z.2
def FS{f:Type}{Φ:f->OwnP}{N:f}{q:Qh}{vs:List V}{F H:Hp}{c:V}{p:Qg}(w:KTs K F)(s:Q6 F H)(m:Args K F vs ts)(g:(Φ N).ok K F H c p):
 QL K (λb=>if b∈p then none else H b) F (zr q<|(.own c<|Φ N)::ts) (start q (c::vs)) H:=
 Lw (ts:=.own c (Φ N)::ts) (λ|0=>p|_=>[]) w s (Xz Nat.succ m.length) (λ|0,t,e=>by cases e;exact#[c,rfl,rfl,g]|i+1,t,e=>m.get i t e) (λ|0,0,_,_,_=>rfl|0,_+1,_,_,h=>(nomatch h)|_+1,_,_,h,_=>(nomatch h)) (λ|0,b,j=>⟨Xi j,((Φ N).there g b j).2⟩|_+1,_,h=>(nomatch h))
def LC{Ψ:QB->Prop}(S:QL K H0 F Z O H)(x:Q5 F0 H0 F H)(e:zg Z i<|zo v<|Zr P w C N)(hn:∀c,Ψ c->dx.nx (Z.set i<|zo v<|Zr P w C c))(B:Cnv K F0 H0 dx pos):
 ∃a p,v=.ref a/\(Zr P w C N).ok K F H (.ref a) p/\∀f U g c,Ψ c->ExtN p F H f U->(Zr P w C c).ok K f U (.ref a) g->(∀b∈g,b∈p\/H b=none)->pos.nx O U:=by
 obtain⟨p,_,m,k⟩:=Wd S x e;obtain⟨a,_,_,_,_,_,_,_,_,rfl,_⟩:=id m;refine#[a,p,rfl,m,λf U g c y q j h=>?_];obtain⟨s,A,_⟩:=k f U g c q j h;exact B.nx f O U _ s A (hn c y)
def JT(M:NoF m)(e:zg Z i<|zo v<|Zr P w C N)(X:Mp K t Z ΦA)
(W:∀ts,ΦA ts->∃Ψ,R N ts Ψ/\∀j,Ψ j->dx.nx (Z.set i<|zo v<|Zr P w C j)):QE K (Vm<|ZV C m (spN K P w C R) [] E' (QF i) t) Z dx:=λF0 H0 F O H y x S n=>by
 obtain⟨a,D,o,r,l,d,xs,ys,u,rfl,b,A,_⟩:=S.net e;refine#[_,b,a,D,_,rfl,A.ins.2,M _ _ _ _,X H0 F O H _ S λk L q ts B c s=>?_];obtain⟨Ψ,g,E⟩:=W ts B;obtain⟨z,p,Y,f,h⟩:=LC (S.ext c) (x.trans c) e E n;cases Y;exact#[k,a,q++[],p,ts,N,Ψ,rfl,(S.ext c).kt,c.fh,by rw[Xw];exact s,f,g,h]
def Lg(e:zg Z i<|zo v<|Zr P w C N)(E:Mp K t Z ΦA)
(B:∀ts,ΦA ts->∃Ψ,R N ts Ψ/\∀j,Ψ j->dx.nx (Z.set i<|zo v<|Zr P w C j)):QE K (Vm<|Ve (spN K P w C R) [] E'<|QM (QF i) t) Z dx:=λF0 H0 F O H s x S Y=>by
 obtain⟨a,D,k,r,l,d,xs,ys,n,rfl,W,b,_⟩:=S.net e;refine#[_,W,E H0 F O H _ S λX L m ts y c q=>?_];obtain⟨Ψ,g,A⟩:=B ts y;obtain⟨o,p,M,f,h⟩:=LC (S.ext c) (x.trans c) e A Y;cases M;exact#[X,a,m++[],p,ts,N,Ψ,rfl,(S.ext c).kt,c.fh,by rw[Xw];exact q,f,g,h]
def spI(P:Program)(w:World)(C:Addr):Sp:=λc H Q _=>∃x D,c=[.ref x]/\H x=some (.ins C D [])/\∀e r l d U,H e=none->H r=none->H l=none->H d=none->[x,e,r,l,d].Nodup->
 U x=some (.ins C D [("ends",.ref e),("rooms",.ref r),("leaving",.ref l),("laid",.ref d)])->U e=some (.lst [])->U r=some (.lst [])->U l=some (.dT [])->U d=some (pdO P w d [])->(∀b,b∉[x,e,r,l,d]->U b=H b)->Q .non U
def EI:EvX K (JL C (spI P w C) [] pos QT) Z (Zr P w C #[[],[],[],[]]):=λH0 F O H Q S q=>λx D A m y=>by
 refine#[x,D,rfl,QG,λe r l d U I v G J M h1 h2 h3 T R k=>#[rfl,?_]];have s:∀{b:Addr},upd (upd H D<|.own x) x (.ins C D []) b=none->H b=none/\b≠x/\b≠D:=λ{b} f=>by
  have W:b≠x:=λz=>by rw[z,QG]at f;cases f
  rw[Qu W]at f;have N:b≠D:=λz=>by rw[z,QG]at f;cases f
  rw[Qu N]at f;exact#[f,W,N]
 obtain⟨p,e2,n⟩:=s I;obtain⟨E,r2,B⟩:=s v;obtain⟨Y,l2,X⟩:=s G;obtain⟨u,d2,t⟩:=s J;have j:U D=some (.own x):=by
  rw[k D<|by simp only[Xc,XJ,or_false,not_or];exact#[y,Ne.symm n,Ne.symm B,Ne.symm X,Ne.symm t],Qu y,QG]
 have a:∀b o,H b=some o->U b=some o:=λb o f=>by
  have g:∀{c:Addr},H c=none->b≠c:=λL z=>by rw[z,L]at f;cases f
  rw[k b<|by simp only[Xc,XJ,or_false,not_or];exact#[g A,g p,g E,g Y,g u],Qu<|g A,Qu<|g m];exact f
 have i:∀{b:Addr},H b=none->F b=none:=λf=>S.sub.free f;refine q F U (.ref x) [x,D,e,r,l,d] #[a,Q6.refl _,λb o f=>a b o<|S.sub b o f,λ_ h=>.inl h] (λb f=>?_) #[x,D,e,r,l,d,[],[],[],rfl,rfl,?_,#[i A,h1],#[i m,j],#[i p,[],h2,.nil],#[i E,[],h3,.nil],#[i Y,T,.nil],#[i u,R,.nil]]
 .grind
 .simp only[XM,Xc,XJ,or_false,not_or]at M ⊢;obtain⟨⟨a1,a2,a3,a4⟩,b1,c1,f1⟩:=M;exact#[#[Ne.symm y,a1,a2,a3,a4],#[Ne.symm n,Ne.symm B,Ne.symm X,Ne.symm t],b1,c1,f1]
end
section
variable {w:World}{base:Heap}
def Fun.evD{x:Str}{st:Stmt}{f:Addr}{N:Qh}{k:Nat}{R:List OT->(OT->Prop)->Prop}(F:Fun K x qual st f fd)(S:Qo N ps (Q3 st))(h:∀ts Φ,R ts Φ->ts.length=ps.length)
(y:∀ts Φ,R ts Φ->∀H c,B0 P w K mg base N qual st k f H c λt=>QE K t (ini N ts) { nx:=λ_=>Φ<|.fz .none,rt:=Φ }):FnOk P w K mg base CX0 (k+1) f fd ps (Zk K R):=by
 refine F.ok S (by rintro W H Q c ⟨F,ts,Φ,_,_,i,j,_⟩;exact i.length.trans<|h ts Φ j) ?_;rintro W H Q c ⟨F,ts,Φ,Z,C,i,j,q⟩ m A outer s a;obtain⟨t,l,d⟩:=y ts Φ j H c m A outer s a;refine#[t,l,d F H F _ H _ (Q5.refl C) (BP Z C i) #[λB E U M g _ e=>?_,λB U v X p g b Y e=>q B U v p X e g b Y,λ_ _ _ _ _ _ z=>False.elim z,λ_ _ _ _ _ _ z=>False.elim z]];exact q B U _ [] _ e g (by rintro _ ⟨⟩) #[rfl,.non]
def Fun.evN{x:Str}{st:Stmt}{f:Addr}{N:Qh}{k:Nat}{R:QB->List OT->(QB->Prop)->Prop}(F:Fun K x qual st f fd)(S:Qo N ps (Q3 st))(E:∀M ts Ψ,R M ts Ψ->ts.length+1=ps.length)
(Z:∀v M ts Ψ,R M ts Ψ->∀H c,B0 P w K mg base N qual st k f H c λt=>QE K t (ini N (.own v (Zr P w C M)::ts)) { nx:=λi=>∃m,Ψ m/\i[0]?=some (zo v<|Zr P w C m),rt:=λ_=>False }):
 FnOk P w K mg base CX0 (k+1) f fd ps (spN K P w C R):=by
 refine F.ok S (by rintro G H Q c ⟨F,a,y,p,ts,M,Ψ,e,_,_,W,_,X,_⟩;rw[e,XT,W.length];exact E _ _ _ X) ?_;rintro G H Q c ⟨F,a,y,p,ts,M,Ψ,e,I,d,W,l,X,q⟩ Y A outer s J;subst e;obtain⟨t,T,O⟩:=Z (.ref a) M ts Ψ X H c Y A outer s J;have n:∀b,(λb=>if b∈p then none else H b:Hp) b=none->b∈p\/H b=none:=λb g=>by
  by_cases z:b∈p
  .exact .inl z
  .simp only[Xg z]at g;exact .inr g
 refine#[t,T,O F _ F _ H _ #[λb o g=>?_,Q6.refl _,d,λ_ h=>.inl h] (FS I d W l)
  #[λr D U i j S' ⟨m,L,e0⟩=>?_,λr U v r' p j hp l e=>False.elim e,λ_ _ _ _ _ _ z=>False.elim z,λ_ _ _ _ _ _ z=>False.elim z]]
 .grind
 .obtain⟨fp,g1,g2,g3⟩:=S'.fp;obtain⟨u,u1,rfl,B⟩:=g1 0 _ e0;refine q r U (fp 0) m L #[λb o nb g=>j.hh b o<|#[],j.ff,j.fh,λb g=>?_] B (λb g=>n b (g3 0 b g).1);rcases j.fr b g with z|z
  .exact .inl z
  .exact .inr ((n b z).symm)
structure Mf(K:W.Frag)(C:Addr)(m qual:Str)(st:Stmt)(ps:Qh):Prop where
 ex:∃f fd,Fun K m qual st f fd/\Meth K C m f/\Va K fd ps []
def Z5(P:Program)(w:World)(K:W.Frag)(mg:Str->Qf)(base:Heap)(C:Addr)(m:Str)(ps:Qh)(k:Nat)(sp:Sp):Prop:=
 ∃f fd,Meth K C m f/\Va K fd ps []/\FnOk P w K mg base CX0 k f fd ps sp
def Mf.go{c:CXT}{st:Stmt}{k:Nat}(dx:Mf K C m qual st ps)(h:∀f fd,Fun K m qual st f fd->FnOk P w K mg base c k f fd ps sp):∃f fd,Meth K C m f/\Va K fd ps []/\FnOk P w K mg base c k f fd ps sp:=by
 obtain⟨f,fd,F,g,i⟩:=dx.ex;exact#[f,fd,g,i,h f fd F]
def Mf.evD{st:Stmt}{N:Qh}{k:Nat}{R:List OT->(OT->Prop)->Prop}(dx:Mf K C m qual st ps)(S:Qo N ps (Q3 st))
(i:∀f ts Φ,R ts Φ->∀H c,B0 P w K mg base N qual st k f H c λt=>QE K t (ini N ts) { nx:=λ_=>Φ<|.fz .none,rt:=Φ })(g:∀ts Φ,R ts Φ->ts.length=ps.length:=by intro _ _ h;cases h<;>rfl):Z5 P w K mg base C m ps (k+1) (Zk K R):=dx.go λf _ F=>F.evD S g (i f)
def Mf.evN{st:Stmt}{N:Qh}{k:Nat}{R:QB->List OT->(QB->Prop)->Prop}(dx:Mf K C m qual st ps)(S:Qo N ps (Q3 st))
(j:∀f v M ts Ψ,R M ts Ψ->∀H g,B0 P w K mg base N qual st k f H g λt=>QE K t (ini N (.own v (Zr P w C M)::ts)) { nx:=λc=>∃q,Ψ q/\c[0]?=some (zo v<|Zr P w C q),rt:=λ_=>False })(i:∀M ts Ψ,R M ts Ψ->ts.length+1=ps.length:=by intro _ _ _ h;cases h<;>rfl):Z5 P w K mg base C m ps (k+1) (spN K P w C R):=dx.go λf _ F=>F.evN S i (j f)
def Df.evD{x:Str}{st:Stmt}{N:Qh}{k:Nat}{R:List OT->(OT->Prop)->Prop}(dx:Df K mg x st ps)(S:Qo N ps (Q3 st))
(i:∀f ts Φ,R ts Φ->∀H c,B0 P w K mg base N x st k f H c λt=>QE K t (ini N ts) { nx:=λ_=>Φ<|.fz .none,rt:=Φ })(g:∀ts Φ,R ts Φ->ts.length=ps.length:=by intro _ _ h;cases h<;>rfl):Q2 P w K mg base x ps (k+1) (Zk K R):=dx.go λf _ F=>F.evD S g (i f)
def Df.evN{x:Str}{st:Stmt}{N:Qh}{k:Nat}{R:QB->List OT->(QB->Prop)->Prop}(dx:Df K mg x st ps)(S:Qo N ps (Q3 st))
(j:∀f v M ts Ψ,R M ts Ψ->∀H g,B0 P w K mg base N x st k f H g λt=>QE K t (ini N (.own v (Zr P w C M)::ts)) { nx:=λc=>∃m,Ψ m/\c[0]?=some (zo v<|Zr P w C m),rt:=λ_=>False })(i:∀M ts Ψ,R M ts Ψ->ts.length+1=ps.length:=by intro _ _ _ h;cases h<;>rfl):Q2 P w K mg base x ps (k+1) (spN K P w C R):=dx.go λf _ F=>F.evN S i (j f)
def Ht(P:Program)(w:World)(K:W.Frag)(mg:Str->Qf)(base:Heap)(x:Str)(C:Addr)(k:Nat):Prop:=
 ∃f fd,Mk K C f/\mg x=some (.ref C)/\Va K fd Zal []/\FnOk P w K mg base CX0 k f fd Zal (spI P w C)
end
def Wa  {o e:Expr}  {t:TA}{k:Nat}{h:Sem Bool}(M:Z5 X.prog X.w X.K X.mg X.base C m ps j sp)(c:NetC X.K C)(q:Room k X.A)(he:PE X o ta)(B:PA X (e::es) t)(y:j<=k:=by walk_at"j")
(g:zs X e es:=by rfl)(hpl:(backTo E<|starEach es X.env).any (·.1)=false:=by rfl)
(i:eval (.Call (.Attribute o m X3) (e::es) [] E) X.env=(do
  let ov <- eval o X.env
  standAt X3.atName
  let (f,first) <- holding [ov] (getMethod ov m h)
  callWith E f first (backTo E<|starEach (e::es) X.env)<|backToKw E<|keywordEach [] X.env):=by rfl):
 PE X (.Call (.Attribute o m X3) (e::es) [] E) (ZV C m sp [] E0 ta t):=by
 obtain⟨f,fd,s,A,F⟩:=M;exact KL he c.cl s F (q.mono y) A .nil YV B g hpl i
def AS{x:Str}{p:Pos}{k:Nat}(M:Ht X.prog X.w X.K X.mg X.base x C j)(g:Room k X.A)(i:j+1<=k:=by walk_at"j")(m:Gl X x:=by rfl)(c:(x==("__debug__" : Str))=false:=by decide +kernel):
 PE X (.Call (.Name x p) [] [] E) (JL C (spI X.prog X.w C) [] E0 QT):=by
 obtain⟨f,fd,M,h,q,F⟩:=M;exact Og M F (g.mono i) m h q .nil YV c
end L2
namespace Mir
open PySem L2
noncomputable def nk:Nd->List Key
 |.start=>[.inr "start"]
 |.fin=>[.inr "end"]
 |.guest k=>[.inr "guest",.inl (k:Int)]
 |.line l t=>[.inr "line",.inl (l:Int),.inl (t:Int)]
theorem U6:∀{a b:Nd},nk a=nk b->a=b
 |.start,.start,_=>rfl
 |.fin,.fin,_=>rfl
 |.start,.fin,h=>Xu h (by decide)
 |.fin,.start,h=>Xu h (by decide)
 |.guest a,.guest b,h=>by
  injection h with _ h;injection h with h _;injection h with h;have:a=b:=#[]
  rw[this]
 |.line a b,.line c d,h=>by
  injection h with _ h;injection h with g h;injection h with f _;injection g with g;injection f with f;have j:a=c:=#[]
  have i:b=d:=#[]
  rw[j,i]
 |.start,.guest _,h=>by have q:=Xz List.length h;simp[nk]at q
 |.start,.line _ _,h=>by have q:=Xz List.length h;simp[nk]at q
 |.fin,.guest _,h=>by have q:=Xz List.length h;simp[nk]at q
 |.fin,.line _ _,h=>by have q:=Xz List.length h;simp[nk]at q
 |.guest _,.start,h=>by have q:=Xz List.length h;simp[nk]at q
 |.guest _,.fin,h=>by have q:=Xz List.length h;simp[nk]at q
 |.guest _,.line _ _,h=>by have q:=Xz List.length h;simp[nk]at q
 |.line _ _,.start,h=>by have q:=Xz List.length h;simp[nk]at q
 |.line _ _,.fin,h=>by have q:=Xz List.length h;simp[nk]at q
 |.line _ _,.guest _,h=>by have q:=Xz List.length h;simp[nk]at q
def AO{b:Nd}:nk a=nk b↔a=b:=#[U6,λh=>by rw[h]]
def Ge:Option Nat->PyData
 |none=>.none
 |some e=>.int (e:Int)
def kvG(es:Got Nd):VX:=es.map λx=>(nk x.1,Ge x.2)
theorem Nb(n:Nd):∀es:Got Nd,Yt (kvG es) (nk n)=(JJ es n).map Ge
 |[]=>rfl
 |(k,v)::es=>by
  have c:=Nb n es;unfold JJ at c ⊢;rw[XX];unfold kvG Yt at c ⊢;rw[Xv,List.find?_cons];by_cases e:k=n
  .subst e;simp
  .have g:¬nk k=nk n:=λz=>e (U6 z)
   have f:(n==k)=false:=by rw[beq_eq_false_iff_ne];exact λz=>e z.symm
   rw[f];simp only[g,decide_false];exact c
def ZlL{es:Got Nd}:(es.lookup n).isSome=decide (n∈Ze es):=by
 induction es with
 |nil=>rfl
 |cons p es c=>
  obtain⟨k,v⟩:=p;rw[XX];by_cases e:n=k
  .subst e;simp[Ze]
  .have f:(n==k)=false:=by rw[beq_eq_false_iff_ne];exact e
   rw[f];have:decide (n∈Ze ((k,v)::es))=decide (n∈Ze es):=by
    apply decide_eq_decide.mpr;unfold Ze;rw[Xv,Xc];exact#[λz=>z.resolve_left e,.inr]
   rw[this];exact c
def Bo(n:Nd)(es:Got Nd):(Yt (kvG es)<|nk n).isSome=decide (n∈Ze es):=by
 rw[Nb,Ue];exact ZlL
def OD(es:Got Nd):Ko (kvG es):=λx c=>by
 obtain⟨y,_,rfl⟩:=Xo.mp c;cases h:y.2 with
 |none=>exact#[.non,by simp[h,Ge,V4]]
 |some e=>exact#[.int<|e,by simp[h,Ge,V4]]
def O7{es:Got Nd}{e:Nat}(h:n∉Ze es):GX (kvG es) (nk n) (.int (e:Int))=kvG (es++[(n,some e)]):=by
 unfold GX;have:¬((kvG es).any λc=>decide (c.1=nk n))=true:=λz=>by
  obtain⟨x,i,f⟩:=List.any_eq_true.mp z;obtain⟨y,g,rfl⟩:=Xo.mp i;have q:=U6 (WC f);exact h (by rw[<- q];exact Xo.mpr #[y,g,rfl])
 rw[Xg this];unfold kvG;rw[Xx];rfl
structure NetR(N:QB)(H1:Lay Nd)(φ:Zn Nd):Prop where
 ends:N.ends=(WG H1).map nk
 rooms:N.rooms=Yf H1 φ
 leav:∀(n:Nd) (e:Int),e∈(Zb N.leav<|nk n).getD [] ↔ ∃j:Nat,e=(j:Int)/\tlE H1 j=some n
 laid:∀(i:Nat) (x:Nd×Nd×Int),H1[i]?=some x->Vd N.laid (nk x.1,nk x.2.1)=some ((2*i:Nat):Int)
 laid0:∀p q:Nd,(p,q)∉H1.map (λx=>(x.1,x.2.1))->Vd N.laid (nk p,nk q)=none
 l1:N.leav.length<=2*H1.length
 l2:N.laid.length<=H1.length
 l3:∀k ns,Zb N.leav k=some ns->ns.length<=2*H1.length
theorem CZ(φ:Zn Nd):NetR #[[],[],[],[]] [] φ where
 ends:=rfl
 rooms:=rfl
 leav n e:=by
  constructor
  .intro h;simp[Zb]at h
  .rintro⟨j,_,h⟩;simp[tlE]at h
 laid i x h:=by simp at h
 laid0 p q _:=rfl
 l1:=XN _
 l2:=XN _
 l3 k ns h:=by simp[Zb]at h
def WU : Zb ((k',ns)::ls) k=if k'=k then some ns else Zb ls k:=by
 by_cases e:k'=k
 .simp[Zb, e]
 .simp[Zb, e]
theorem Lo(k c:List Key)(x:Int):∀ls:List (List Key×Ql),Zb (Ya ls k x) c=if c=k then (Zb ls k).map (· ++ [x]) else Zb ls c
 |[]=>by
  unfold Ya;by_cases e:c=k
  . simp[Zb]
  .rw[Xg e]
 |(j,h)::ls=>by
  unfold Ya;have g:=Lo k c x ls
  by_cases e:j=k
  .rw[Xi e,WU,WU,WU,Xi e]
   by_cases f:c=k
   .simp_all
   .rw[Xg f,Xg λz=>f<|z.symm.trans e,Xg λz=>f<|z.symm.trans e]
  .rw[Xg e,WU,WU,WU,Xg e,g]
   by_cases f:c=k
   .simp_all
   .simp_all
theorem Dv(k:List Key)(x:Int):∀ls:List (List Key×Ql),(Ya ls k x).length=ls.length
 |[]=>rfl
 |(j,c)::ls=>by
  unfold Ya;split
  .simp
  .simp[Dv k x ls]
theorem FU(k c:List Key):∀ls:List (List Key×Ql),Zb ls k=none->Zb (ls++[(k,[])]) c=if c=k then some [] else Zb ls c
 |[],_=>by
  rw[List.nil_append,WU];by_cases e:c=k
  .rw[Xi e,Xi e.symm]
  .rw[Xg e,Xg λz=>e z.symm]
 |(j,f)::ls,h=>by
  rw[WU]at h;by_cases e:j=k
  .grind
  .rw[Xg e]at h;rw[J4,WU,WU,FU k c ls h];by_cases g:c=k
   .simp_all
   .simp_all
def Nf(ls:List (List Key×Ql))(k c:List Key):Zb (Yi ls k) c=if c=k then some ((Zb ls k).getD []) else Zb ls c:=by
 unfold Yi;cases h:Zb ls k with
 |some f=>
  simp_all
 |none=>
  rw[Xg<|by simp,FU k c ls h];rfl
def K5(ls:List (List Key×Ql))(k:List Key):(Yi ls k).length<=ls.length+1:=by
 unfold Yi;split
 .lia
 .simp
noncomputable def UY(N:QB)(s e:List Key)(r:Int):QB:={ N with ends:=N.ends++[e],rooms:=N.rooms++[r],leav:=Ya (Yi N.leav s) s (N.ends.length:Int) }
noncomputable def UW(N:QB)(s e:List Key)(r:Int):QB:=UY (UY { N with laid:=YT N.laid (s,e) (N.ends.length:Int) } s e r) e s 0
def G8(N:QB)(s e:List Key)(r:Int)(k:List Key):Zb (UY N s e r).leav k=if k=s then some ((Zb N.leav s).getD []++[(N.ends.length:Int)]) else Zb N.leav k:=by
 show Zb (Ya _ s _) k=_;rw[Lo,Nf, Nf];simp_all
def WV : Vd ((k',n)::ls) k=if k'=k then some n else Vd ls k:=by
 by_cases e:k'=k
 .simp[Vd, e]
 .simp[Vd, e]
theorem Lf(k c:KK)(n:Int):∀ls:List (KK×Int),Vd (ls.map λx=>if x.1=k then (x.1,n) else x) c=if c=k then (Vd ls k).map λ_=>n else Vd ls c
 |[]=>by
  by_cases e:c=k
  .rw[Xi e];rfl
  .rw[Xg e];rfl
 |(j,m)::ls=>by
  rw[Xv];have g:=Lf k c n ls
  by_cases e:j=k
  .simp only[e,if_true];rw[WV,WV,WV,g];by_cases f:c=k
   .simp[f]
   .have:¬k=c:=λz=>f z.symm
    simp[f,this]
  .simp only[e,if_false];rw[WV,WV,WV,g];by_cases f:c=k
   .simp[f,e]
   .simp[f]
theorem Fh(k c:KK)(n:Int):∀ls:List (KK×Int),Vd ls k=none->Vd (ls++[(k,n)]) c=if c=k then some n else Vd ls c
 |[],_=>by
  rw[List.nil_append,WV];by_cases e:c=k
  .rw[Xi e,Xi e.symm]
  .rw[Xg e,Xg λz=>e z.symm]
 |(j,m)::ls,h=>by
  rw[WV]at h;by_cases e:j=k
  .grind
  .rw[Xg e]at h;rw[J4,WV,WV,Fh k c n ls h];by_cases f:c=k
   .simp_all
   .simp_all
def Lq(ls:List (KK×Int))(k c:KK)(n:Int):Vd (YT ls k n) c=if c=k then some n else Vd ls c:=by
 unfold YT;cases h:Vd ls k with
 |some m=>rw[Xi<|by rfl,Lf,h];rfl
 |none=>rw[Xg<|by simp,Fh k c n ls h]
def Zrl(ls:List (KK×Int))(k:KK)(n:Int):(YT ls k n).length<=ls.length+1:=by
 unfold YT;split
 .simp
 .simp
def Fw{f:Type}[DecidableEq f](c:Lay f):(WG c).length=2*c.length:=by
 unfold WG;induction c with
 |nil=>rfl
 |cons x c g=>rw[List.flatMap_cons,Xp,g];simp;lia
def NetR.elen(h:NetR N H1 φ):N.ends.length=2*H1.length:=by rw[h.ends,Xf,Fw]
def NV{f:Type}[DecidableEq f](c:Lay f)(φ:Zn f):(Yf c φ).length=2*c.length:=by
 unfold Yf;induction c with
 |nil=>rfl
 |cons x c g=>rw[List.flatMap_cons,Xp,g];simp;lia
def Ds{x:Nd×Nd×Int} : tlE (H1++[x]) j=some n↔tlE H1 j=some n\/(j=2*H1.length/\n=x.1)\/(j=2*H1.length+1/\n=x.2.1):=by
 unfold tlE;by_cases h:j/2<H1.length
 .rw[Uh h];constructor
  .exact .inl
  .rintro(z|⟨z,_⟩|⟨z,_⟩)
   .exact z
   .lia
   .lia
 .rw[GP<|#[],List.getElem?_eq_none_iff.mpr (show H1.length<=j/2 by lia)]
  by_cases c:j/2=H1.length
  .rw[c,Nat.sub_self];simp only[List.getElem?_cons_zero,W9, Option.some.injEq];by_cases p:j%2=0
   .rw[Xi p];constructor
    .intro z;exact .inr (.inl #[#[],z.symm])
    .rintro(z|⟨_,z⟩|⟨z,_⟩)
     .cases z
     .exact z.symm
     .lia
   .rw[Xg p];constructor
    .intro z;exact .inr (.inr #[#[],z.symm])
    .rintro(z|⟨z,_⟩|⟨_,z⟩)
     .cases z
     .lia
     .exact z.symm
  .have:([x])[j/2-H1.length]?=none:=List.getElem?_eq_none_iff.mpr (by simp;lia);rw[this];constructor
   .simp_all
   .rintro(z|⟨z,_⟩|⟨z,_⟩)
    .cases z
    .lia
    .lia
theorem ZsD(h:NetR N H1 φ){s:Nd}(h0:φ s e=0)(new:(s,e)∉H1.map (λx=>(x.1,x.2.1))):NetR (UW N (nk s) (nk e) r) (H1++[(s,e,r)]) φ where
 ends:=by
  show(N.ends++[nk e])++[nk s]=_
  unfold WG;rw[Mi,Xx,h.ends];simp[WG]
 rooms:=by
  show(N.rooms++[r])++[0]=_
  rw[ h.rooms];simp[Yf,h0]
 leav n e':=by
  have K:=h.elen;have l1:(UY { N with laid:=YT N.laid (nk s,nk e) (N.ends.length) } (nk s) (nk e) r).ends.length=2*H1.length+1:=by
   show(N.ends++[nk e]).length=_
   rw[Xp,K];rfl
  have q:(Zb (UW N (nk s) (nk e) r).leav (nk n)).getD []=((Zb N.leav<|nk n).getD []++(if n=s then [((2*H1.length:Nat):Int)] else []))++(if n=e then [((2*H1.length+1:Nat):Int)] else []):=by
   unfold UW;rw[G8,l1,G8,G8];rw[K];simp only[AO];by_cases E:n=e
   .subst E
    by_cases c:n=s
    .subst c;simp
    .simp[c]
   .by_cases c:n=s
    .subst c;simp[E]
    .simp[E,c]
  rw[q,Xq,Xq,h.leav n e'];constructor
  .rintro((⟨j,rfl,B⟩|z)|z)
   .exact#[j,rfl,Ds.mpr<|.inl B]
   .by_cases c:n=s
    .rw[Xi c]at z;exact#[2*H1.length,Xj.mp z,Ds.mpr<|.inr<|.inl #[rfl,c]]
    .rw[Xg c]at z;cases z
   .by_cases c:n=e
    .rw[Xi c]at z;exact#[2*H1.length+1,Xj.mp z,Ds.mpr<|.inr<|.inr #[rfl,c]]
    .rw[Xg c]at z;cases z
  .rintro⟨j,rfl,B⟩;rcases Ds.mp B with z|⟨rfl,z⟩|⟨rfl,z⟩
   .exact .inl (.inl #[j,rfl,z])
   .exact .inl (.inr<|by rw[Xi z];exact Xj.mpr rfl)
   .exact .inr (by rw[Xi z];exact Xj.mpr rfl)
 laid i x hx:=by
  show Vd (YT N.laid (nk s,nk e)<|N.ends.length) (nk x.1,nk x.2.1)=_;rw[Lq,h.elen];by_cases hi:i<H1.length
  .rw[Uh hi]at hx;have ne:¬(nk x.1,nk x.2.1)=(nk s,nk e):=λz=>new (by
    injection z with A y;exact Xo.mpr #[x,List.mem_of_getElem? hx,by rw[U6 A,U6 y]])
   rw[Xg ne];exact h.laid i x hx
  .rw[GP<|#[]]at hx;have C:i=H1.length:=by
    have:=(Xh.mp hx).1;simp at this;lia
   subst C;rw[Nat.sub_self]at hx;cases hx;rw[Xi rfl]
 laid0 p q hn:=by
  show Vd (YT N.laid (nk s,nk e)<|N.ends.length) (nk p,nk q)=_;rw[Xx,Xq,not_or]at hn;rw[Lq,Xg λz=>?_]
  .exact h.laid0 p q hn.1
  .injection z with A y;exact hn.2 (by rw[U6 A,U6 y];simp)
 l1:=by
  have a:=h.l1;have b:(UW N (nk s) (nk e) r).leav.length<=N.leav.length+2:=by
   show(Ya (Yi (Ya (Yi N.leav<|nk s) (nk s) _)<|nk e) (nk e) _).length<=_
   rw[Dv];refine Xl (K5 _ _) ?_;rw[Dv];have:=K5 N.leav (nk s);lia
  simp;lia
 l2:=by
  have a:=h.l2;have b:(UW N (nk s) (nk e) r).laid.length<=N.laid.length+1:=Zrl _ _ _;simp;lia
 l3 k ns hk:=by
  have g:∀f,((Zb N.leav f).getD []).length<=2*H1.length:=λf=>by
   cases z:Zb N.leav f with
   |none=>exact XN _
   |some m=>exact h.l3 f m z
  have M:∀f,((Zb (UY { N with laid:=YT N.laid (nk s,nk e) (N.ends.length) } (nk s) (nk e) r).leav f).getD []).length<=2*H1.length+1:=λf=>by
   rw[G8];by_cases z:f=nk s
   .rw[Xi z];have:=g (nk s);simpa using this
   .rw[Xg z];have:=g f;lia
  unfold UW at hk;rw[G8]at hk;by_cases z:k=nk e
  .rw[Xi z]at hk;cases hk;have:=M (nk e);simp at this ⊢;lia
  .rw[Xg z]at hk;have:=M k;rw[hk]at this;simp at this ⊢;lia
def ZnP{c:Lay Nd}(b:Dis c){φ:Zn Nd}{a r A:Int}{e:Nat}(f:(Yf c φ)[e]?=some r)(h:(Yf c φ)[ZgV e]?=some A):Yf c (YB c a φ e)=((Yf c φ).set e (r-a)).set (ZgV e) (A+a):=by
 have B:ZgV e/2=e/2:=by unfold ZgV;split<;>lia
 rw[GD]at f h;unfold rmE at f h;rw[B]at h;cases g:c[e/2]? with
 |none=>rw[g]at f;cases f
 |some x=>
  rw[g]at f h;simp only[W9,Option.some.injEq]at f h;have Z:YB c a φ e=VY φ x.1 x.2.1 (if e%2=0 then a else -a):=by unfold YB;rw[g]
  have E:VY φ x.1 x.2.1 (if e%2=0 then a else -a) x.1 x.2.1=φ x.1 x.2.1+(if e%2=0 then a else -a):=by unfold VY;rw[Xi #[rfl,rfl]]
  have l:=(Xh.mp g).1;have k:=NV c φ;have m:e<(Yf c φ).length:=#[]
  have Y:ZgV e<(Yf c φ).length:=#[]
  refine List.ext_getElem? λi=>?_;rw[GD,List.getElem?_set,List.getElem?_set,GD,Z];by_cases j:ZgV e=i
  .subst j;rw[Xi rfl,Xi (show ZgV e<((Yf c φ).set e (r-a)).length by simpa using Y)];unfold rmE;rw[B,g];simp only[W9,Option.some.injEq];rw[E];have P:(ZgV e%2=0)=¬(e%2=0):=by
    unfold ZgV;split<;>lia
   by_cases p:e%2=0
   .simp_all
   .have W:ZgV e%2=0:=by rw[P];exact p
    rw[Xi W]at h ⊢;rw[Xg p];lia
  .rw[Xg j]
   by_cases C:e=i
   .subst C;rw[Xi rfl,Xi m];unfold rmE;rw[g];simp only[W9,Option.some.injEq];rw[E];by_cases p:e%2=0
    .rw[Xi p]at f ⊢;rw[Xi p];lia
    .rw[Xg p]at f ⊢;rw[Xg p];lia
   .rw[Xg C];unfold rmE;cases d:c[i/2]? with
    |none=>rfl
    |some y=>
     have X:¬(y.1=x.1/\y.2.1=x.2.1):=λ⟨M,K⟩=>by
      have q:=K7 b d g M K;unfold ZgV at j;split at j<;>lia
     have s:VY φ x.1 x.2.1 (if e%2=0 then a else -a) y.1 y.2.1=φ y.1 y.2.1:=by unfold VY;rw[Xg X]
     simp only[W9,s]
def Um(c:Lay Nd)(φ:Zn Nd)(es:Got Nd)(f:List Nd):Prop := ∀e m n r,tlE c e=some m->hdE c e=some n->rmE c φ e=some r->0<r->m∈Ze es->m∉f->n∈Ze es
def Um.closed{es:Got Nd}(h:Um H1 φ es []):Yx H1 φ es:=λe m n r j i g f c=>h e m n r j i g f c (by rintro⟨⟩)
def JY{es:Got Nd}{x:Nd×Option Nat}:n∈Ze (es++[x])↔n∈Ze es\/n=x.1:=by
 unfold Ze;simp
def Um.add{es:Got Nd}{f V:List Nd}(h:Um H1 φ es (f++V))(n:Nd)(o:Option Nat):Um H1 φ (es++[(n,o)]) (f++(V++[n])):=λe m k r y s q j i c=>by
 rw[<- GT,Xq,not_or]at c;have g:m≠n:=λz=>c.2 (by simp[z])
 rcases JY.mp i with z|z
 .exact JY.mpr (.inl<|h e m k r y s q j z c.1)
 .exact Xu z g
theorem Tree.inClosed{i:Lay Nd}{φ:Zn Nd}{s:Nd}{f:Got Nd}(c:Yx i φ f)(g:s∈Ze f):∀{es:Got Nd},Tree i φ s es->∀n∈Ze es,n∈Ze f
 |_,.root,n,h=>by
  have e:=by simpa [Ze] using h
  simp_all
 |_,.add t h A m y q B,n,j=>by
  rcases JY.mp j with z|z
  .exact t.inClosed c g n z
  .rw[z];exact c _ _ _ _ m A q B (t.inClosed c g _ y)
end Mir
namespace L2
theorem Cl{F g H:Hp}:∀{as:Qg} {c:List (Qd)},(∀ds∈c,Bu ds)->(∀a∈as,g a=none)->Vb F H as c->Vb g H as c
 |[],[],_,_,_=>trivial
 |a::as,ds::c,h,f,o=>by
  obtain⟨⟨_,xs,s,q⟩,i⟩:=o;exact#[#[f a Xb,xs,s,q.flats<|h ds Xb],Cl (λd j=>h d<|Xe _ j) (λb m=>f b<|Xe _ m) i]
 |[],_::_,_,_,o=>False.elim o
 |_::_,[],_,_,o=>False.elim o
def Zrq(h:∀ds∈S0,Bu ds):JB (.oll S0):=λK F y H v p c f=>by
 obtain⟨a,q,rfl,rfl,m,s,j,i⟩:=f;exact#[a,q,rfl,rfl,m,c a Xb,j,Cl h (λb g=>c b<|Xe _ g) i]
end L2
namespace L2
section
variable {w:World}{pos:Qb}{d:Drawn}{t:Nat}{os:OsState}
variable {N:Addr}{bs:Qe}{sub:Qe}
noncomputable abbrev PL(C a:Addr):Obj:={ cls:=.ref C,data:=.fields (List.toArray [.ref a,.none,.none,.none,.bool false,.none]) }
abbrev A7(vs:Qe):Obj:={ cls:=.type "tuple",data:=.seq vs.toArray }
noncomputable def Ws(h:Heap)(C:Addr)(vs:Qe):Heap:=(h.push<|A7 vs).push (PL C h.objs.size)
def EB(F:ExcBaseFacts B newId initId S1)(T:OwnTail h S1 bm){rest:Qe}{f:Addr}
(j:h.get? C=some (excClassObj nm q C N bs bm T1 sn sub ab col dd k0 k1 k2 k3 k5 newId))(hn:h.Ns N mN)
(W:mN "__init__"=some (.ref f))(X:h.get? f=some fo)(Y:fo.cls=.type "function")(c:rest.length<=sizeLine)
(P:wpAny (model prog w) A (call (.ref f) (.ref (h.objs.size+1)::rest)) (λr K=>r=.none/\Q (.done<|.ret<|.ref<|h.objs.size+1) K) pos #[Ws h C rest,g,d,t,os]):
 wpAny (model prog w) A (Builtin.«type.__call__» #[.ref C::rest,[]]) Q pos #[h,g,d,t,os]:=by
 have m:∀b o,h.get? b=some o->(Ws h C rest).get? b=some o:=λb o e=>Xd _ (Xd _ e)
 repeat (first
  |with_reducible refine wpAny_loadPart_at j ?_
  |with_reducible refine wpAny_madeBy_exc j ?_
  |wp_step)
 refine codeAny_call_builtin_code (Code.quiet_builtin _ F.quiet)
  (wpAny_check_new_subT F T j ?_)
 refine codeAny_exc_new_subT F T j ?_ c;show wpAny _ _ _ _ _ #[Ws h C rest,g,d,t,os];have M:(Ws h C rest).get? _=some _:=DW (by rw[X9]) rfl;have i:=m _ _ j;have E:=hn.keeps m;have Z:=T.keeps m;have s:(Value.ref C::bm).contains (.ref C)=true:=by simp
 repeat (first
  |with_reducible refine wpAny_loadPart_at M ?_
  |(with_reducible refine wpAny_isSubtype_exc i ?_;rw[s])
  |wp_step)
 refine wpAny_typeLookup_tail i E Z F.mroIs F.init.lookup ?_;rw[W];refine wpAny_holding (Xa<|wpAny_bindSpecial_def (m _ _ X) Y ?_);refine Xa (wpAny_mono P (λr K y=>?_) λ_ _ z=>z);obtain⟨rfl,y⟩:=y
 wp_walk
 exact y
def AH(F:ExcBaseFacts B newId initId S1)(T:OwnTail h S1 bm){rest:Qe}{f:Addr}
(i:h.get? C=some (excClassObj nm q C N bs bm T1 sn sub ab col dd k0 k1 k2 k3 k5 newId))(hn:h.Ns N mN)
(m:mN "__init__"=some (.ref f))(s:h.get? f=some fo)(y:fo.cls=.type "function")(c:rest.length<=sizeLine)
(P:wpAny (model prog w) (A.under<|.builtin "type.__call__" #[.ref C::rest,[]]) (call (.ref f) (.ref (h.objs.size+1)::rest)) (λr j=>r=.none/\Q (.ref<|h.objs.size+1) j) pos #[Ws h C rest,g,d,t,os]):
 wpAny (model prog w) A (call (.ref C) rest) Q pos #[h,g,d,t,os]:=by
 have M:=tc_lookup;have K:=tc_bind (.ref C);have E:(#[h,g,d,t,os]:Shared).TypeIs (.ref C) "type" := #[_,i,rfl];refine wpAny_call (codeAny_of_tree ?_)
 repeat (any_goals (first
  |assumption
  |with_reducible refine wpAny_loadPart_at i ?_
  |wp_step))
 refine#[rfl,?_];refine codeAny_call_builtin_at (Code.quiet_builtin _<|by decide +kernel) entry_typeCall (wpAny_check_type_call_sub i ?_);refine EB F T i hn m s y c ?_;simp_all
end
end L2
namespace L2
def phX(C e:Addr)(c:Qj):Heap->Prop:=λh=>∃(t:Addr) (f:Array (Qf)),h.get? e=some { cls:=.ref C,dict:=c,data:=.fields (List.toArray [.ref t,.none,.none,.none,.bool false,.none]),slots:=f }
def MI(p:phX C e dct h):ZT P w H h e (.ext<|phX C e dct):=#[p,by obtain⟨t,c,q⟩:=p;exact#[_,q],λi g f k=>by obtain⟨t,c,q⟩:=f;exact#[t,c,k _ q]]
section
variable {w:World}{pos:Qb}{d:Drawn}{t:Nat}{os:OsState}
variable {N:Addr}{bs:Qe}{sub:Qe}
def A1(F:ExcBaseFacts B newId initId S1)(T:OwnTail h S1 bm){v:Value}
(i:h.get? C=some (excClassObj nm q C N bs bm T1 sn sub ab col dd k0 k1 k2 k3 k5 newId))
(he:h.get? e=some { cls:=.ref C,dict:=dct,data:=.fields (List.toArray [.ref a,.none,.none,.none,.bool false,.none]),slots:=sl })
(c:∀h',(∀b o,b≠e->h.get? b=some o->h'.get? b=some o)->phX C e dct h'->Q .none #[h',g,d,t,os]):
 wpAny (model prog w) A (call (.builtin initId) [.ref e,v]) Q pos #[h,g,d,t,os]:=by
 refine wpAny_call (codeAny_call_builtin F.init.plain F.initEntry<|wpAny_check_init_subT F T i he rfl ?_)
 wp_walk using AutoSeq1.wpAny_loadPart' he
 refine c _ (λb o f z=>?_) #[h.objs.size,sl,?_]
 .rw[XV _ _<|Ne.symm f];exact Xd _ z
 .rw[Ja _ (Xd _ he) rfl];rfl
end
structure Uj(K:W.Frag)(Xa1 C f:Addr):Prop where
 ga:W.specialIn K (.ref Xa1) "__getattribute__"=some (some<|.builtin "type.__getattribute__")
 rd:W.readsIn K Xa1 (.type "type")=true
 ini:W.findCls K (.ref Xa1) (.type "type") "__init__"=some (.val<|.builtin "ValueError.__init__")
 cls:∀h:Heap,K.In h->∃(S1 bm:Qe) (nm q:Str) (N:Addr) (bs:Qe) (T1:Bool) (sn:Qh) (sub:Qe) (ab:Bool) (col:Option Bool) (dd:Qj) (k0 k1 k2 k3 k5:Qf),
  ExcBaseFacts "ValueError" "ValueError.__new__" "ValueError.__init__" S1/\OwnTail h S1 bm/\h.get? C=some (excClassObj nm q C N bs bm T1 sn sub ab col dd k0 k1 k2 k3 k5 "ValueError.__new__")/\
  ∃(mN:Str->Qf) (fo:Obj),h.Ns N mN/\mN "__init__"=some (.ref f)/\h.get? f=some fo/\fo.cls=.type "function"
def tXI(C:Addr)(i:Nat):TE:=λO H Q=>∃e c,O[i]?=some (some<|.ref e)/\H e=some (.ext<|phX C e c)/\Q .non H
def LN{f:Addr}(c:Uj X.K Xa1 C f){x y:Str}{M K B A j:Pos}{g:Str}{E:Nat}(U:Gl X x)(S:X.mg x=some (.ref Xa1))(hN:X.N[i]?=some y)(J:Vis X.env.scope y)
(P:(x==("__debug__" : Str))=false:=by decide)(hd:(y==("__debug__" : Str))=false:=by decide)(Z:(y==("__classdict__" : Str))=false:=by decide){v:Sem Bool}
(R:eval (.Call (.Attribute (.Name x M) "__init__" K) [.Name y B,.Constant (.str g) E A] [] j) X.env=(do
  let ov <- eval (.Name x M) X.env
  standAt K.atName
  let (f,first) <- holding [ov] (getMethod ov "__init__" v)
  callWith j f first (backTo j<|starEach [.Name y B,.Constant (.str g) E A] X.env)<|backToKw j<|keywordEach [] X.env):=by rfl):
 PE X (.Call (.Attribute (.Name x M) "__init__" K) [.Name y B,.Constant (.str g) E A] [] j) (tXI C i):=by
 intro Y s O H Q I h;obtain⟨e,d,e1,a,q⟩:=h;refine W.methodCall_KW (WT I U S ?_ P) R;refine W.method_cls I.kIn c.ga (W.cls_value I.kIn c.rd c.ini rfl ?_);have I1:=I.tok (s.toks+1);have m:PA X [.Name y B,.Constant (.str g) E A] _:=Qs (P5 hN J hd Z) (Qs QK Qr);refine PyProof.Rows.callWith_builtin1 (Q8 (m j Y _ O H (λl L=>l=[.ref e,.str g]/\L=H) I1 #[_,e1,rfl,rfl]) ?_) rfl rfl;rintro us t ⟨l,L,k,r,ev,eH⟩;subst ev eH;cases r with
 |cons u r=>
 cases r with
 |cons r2 r=>
 cases r;cases u;have G:=k.hok e _ a;obtain⟨⟨ta,sl,he⟩,_,_⟩:=G;obtain⟨S1,bm,nm,qn,N,bs,T1,sn,p,ab,col,dd,k0,k1,k2,k3,k5,F,T,hC,_⟩:=c.cls _ k.kIn;refine A1 F T hC he λh' D n=>?_;have w:Mut (L e):=by rw[a];trivial
 have W:=k.write (t':=t.toks) w Qa D (by obtain⟨_,_,z⟩:=n;exact#[_,z]) (MI n);have eu:upd L e (.ext<|phX C e d)=L:=by
  funext b
  by_cases o:b=e
  .subst o;simp[upd,a]
  .simp[upd,o]
 rw[eu]at W;exact#[.non,L,W,rfl,q]
end L2
namespace L2
noncomputable def WL:Qe->Bool
 |.ref _::r=>WL r
 |l=>l==[.type "ValueError",.type "Exception",.type "BaseException",.type "object"]
theorem Fl(f:Value):∀{l:Qe},WL l=true->refuseLoop f "__setattr__" l=pure ()
 |.ref c::r,e=>by rw[refuseLoop_ref];exact Fl f (by simpa [WL] using e)
 |[],e=>by cases e
 |.type n::r,e=>by rw[show _=_ from beq_iff_eq.mp e];exact PySem.F.store_ValueError.passes f
theorem Pt:∀{l:Qe},WL l=true->l.contains (.type "object")=true
 |.ref c::r,e=>by rw[List.contains_cons,Pt<|by simpa [WL] using e,Bool.or_true]
 |[],e=>by cases e
 |.type n::r,e=>by rw[show _=_ from beq_iff_eq.mp e];decide
section
open PySem.W
variable {w:World}{R:Result->Shared->Prop}{K:Frag}{x:Addr}
def Aa{v:Value}(X:K.In s.heap)(I:W.InstAt s.heap x ox C od)(P:((clsIn K C).any λcd=>WL cd.mro)=true)(M:takerIn K C name=some r)
(h:∀b,wpAny (model prog w) A.in1 (match r with|some a=>Builtin.ObjectAttr.setByDescriptor a (.ref x) v|none=>Builtin.ObjectAttr.storeInOwnDict (.ref x) (.ref C) (.str name tk) name v b)
  (λfin i=>match fin with|.done f=>R (.ok f) i|.again c'=>c'.quiet=true/\codeAny (model prog w) A c' R i) (λe i=>R (.error e) i) s):
 codeAny (model prog w) A (.call (.builtin "object.__setattr__") #[[.ref x,.str name tk,v],[]]) R s:=by
 have g:=PySem.F.store_object;obtain⟨cd,B,j⟩:=any_some P;have E:cd.mro.isEmpty=false:=by cases q:cd.mro with|nil=>rw[q]at j;cases j|cons _ _=>rfl
 have m:Looks (model prog w) s.heap (isInstance _ _) true:=I.type.andThen (looks_mroIn X<|by unfold mroIn;rw[B,Option.bind_some,Xg<|by rw[E];decide,Pt j]);refine codeAny_call_builtin g.slot.plain g.entry (@check_slot _ _ _ s "object.__setattr__" "object" "__setattr__" _ [.str name tk,v] [] _ g.kind g.split m (g.args _ _ v) ?_);obtain⟨c,d,y⟩:=Option.bind_eq_some_iff.mp M;have Y:Looks (model prog w) s.heap (mroOf<|.ref C) cd.mro:=(looks_clsIn X B).andThen .now;have k:Looks (model prog w) s.heap (Builtin.ObjectAttr.storeTaker? c) r:=by
  cases c with
  |none=>cases y;exact .now
  |some a=>
   obtain⟨b,Z,rfl⟩:=Ma.mp y;refine(looks_takesIn X Z).andThen ?_;cases b<;>exact .now
 rw[osa_eq,refuse_eq];refine Xa (Xa<|I.type.here<|Xa<|Y.here ?_);rw[Fl _ j];refine Xm (Xa<|I.type.here<|Xa<|(looks_findIn X d).here (Xa<|k.here ?_));exact h _
def Ad{v:Value}(X:K.In s.heap)
(i:findIn K (.ref C) "__setattr__"=some (some<|.builtin "object.__setattr__"))(a:((clsIn K C).any λcd=>WL cd.mro)=true)(Z:takerIn K C name=some none)(d:hasDictIn K C=true)
(g:s.heap.get? x=some { cls:=.ref C,dict:=none,data:=.fields fs,slots:=sl })
(h:∀h' t',(∀b o,b≠x->s.heap.get? b=some o->h'.get? b=some o)->h'.get? x=some { cls:=.ref C,dict:=some s.heap.objs.size,data:=.fields fs,slots:=sl }->
  h'.Ns1 s.heap.objs.size (λy=>if y=name then some v else none)->Q () { s with heap:=h',toks:=t' }):
 wpAny (model prog w) A (setAttr (.ref x) name v) Q pos s:=by
 have J:W.InstAt s.heap x _ C none:=#[g,rfl,rfl,trivial];refine W.set_plain X J i (Aa X J a Z λb=>?_);obtain⟨cd,l,E⟩:=W.any_some d;refine Xa (Xm<|Xa<|Xa<|wpAny_loadPart g<|Xa<|W.Looks.here (W.looks_clsIn X l) ?_);rw[E];have Y:(s.heap.push { cls:=.type "dict",data:=.dict (List.toArray []) }).get? x=_:=Xd _ g;have c:=Xs (Xk g);dsimp only;refine Xa (wpAny_alloc' ?_);refine Xa (wpAny_update' Y ?_);refine Xm ?_;have q:((s.heap.push { cls:=.type "dict",data:=.dict (List.toArray []) }).update x λo=>{ cls:=o.cls,dict:=some s.heap.objs.size,data:=o.data,slots:=o.slots }).get? s.heap.objs.size
  = some { cls:=.type "dict",data:=.dict (List.toArray []) }:=
  (Heap.get?_update_ne _ _ _ _ c.symm).trans (DW rfl rfl)
 have m:((s.heap.push { cls:=.type "dict",data:=.dict (List.toArray []) }).update x λo=>{ cls:=o.cls,dict:=some s.heap.objs.size,data:=o.data,slots:=o.slots }).Ns s.heap.objs.size (λ_=>none):=
  #[_,(List.toArray []),_,q,rfl,λe k=>Xu k<|by simp,λ_=>rfl]
 refine Xa (Xm<|Xa<|wpAny_nsSet1 (Heap.Ns1.of_empty m) λh' f i=>?_);obtain⟨t,n,p,j,B,M⟩:=f.count (Within.cons name v Within.nil);refine Xa (wpAny_lookBehind j (by rw[B];exact pastItsLine_dict<|Xl M<|by simp) ?_);refine Xm (h _ _ (λb r P R=>?_) ?_ f)
 .exact(i.2 b<|Xs<|Xk R).trans ((Heap.get?_update_ne _ _ _ _ P).trans (Xd _ R))
 .exact(i.2 x c).trans (Ja _ Y rfl)
end
end L2
namespace L2
structure RP(K:W.Frag)(C:Addr):Prop where
 sa:W.findIn K (.ref C) "__setattr__"=some (some<|.builtin "object.__setattr__")
 ov:((W.clsIn K C).any λcd=>WL cd.mro)=true
 hd:W.hasDictIn K C=true
def sXF(C:Addr)(ta tv:TE)(f:Str):TS:=λdx O H=>tv O H λy L=>ta O L λx c=>∃e,x=.ref e/\c e=some (.ext<|phX C e none)/\
 ∀D,c D=none->D≠e->dx.nx O (upd (upd c e<|.ext<|phX C e<|some D) D<|.xd [(f,y)])
section
variable {o value:Expr}
def TK(c:RP X.K C)(w:W.takerIn X.K C f=some none)(N:PE X o ta)(B:PE X value tv)(D:swapsWith value (some<|.Attribute o f pos') E.line X.env=pure false):PS X (.Assign [.Attribute o f pos'] value E) (sXF C ta tv f):=by
 intro Y s O H dx I h;refine plainObj_wpAny_Assign_Attribute (Q8 (B Y s O H _ I h) ?_) D;rintro u d ⟨y,L,R,k,q⟩;refine Q8 (N Y d O L _ R q) ?_;rintro U T ⟨x,S,i,l,e,Q,a,n⟩;subst Q;obtain rfl:=l;obtain⟨⟨ta,b,Z⟩,_,_⟩:=i.hok e _ a;refine Ad i.kIn c.sa c.ov w c.hd Z λh' t' t P G=>?_;have r:Mut (S e):=by rw[a];trivial
 have W:=i.write (t':=t') r Qa t #[_,P] (MI #[ta,b,P]);have j:=(Xs<|Xk Z).symm;have m:=i.fresh;refine#[O,_,W.track (o:=.xd [_]) (by rw[Qu j];exact m) i.sz (X8 i.lt) (λz c J A=>?_) (λp F A=>?_) #[_,G,λg=>?_],n _ m j]
 .obtain⟨v,B⟩:=i.cell z c J;subst A;obtain⟨oc,M,_⟩:=B;exact Xu (Xk M) (Y7 _)
 .have:=(i.pin p F).1;rw[A]at this;exact Xu (Xk this) (Y7 _)
 .by_cases K:g=f
  .subst K;simp[List.lookup];exact k
  .rw[Xg K];have:(g==f)=false:=by simpa using K
   simp[List.lookup,this];trivial
end
def Mr(C:Addr)(sp:Sp)(c:XK)(t:TA):TE:=λO H Q=>t O H λf L=>f.length<=1000/\∀x,L x=none->
 sp (.ref x::f) (upd L x<|.ext<|phX C x none) (λv g=>v=.non/\Q (.ref x) g) c
section
variable {CX:CXT}{k:Nat}{f:Addr}{pos:XK}{x:Str}{p:Pos}{e:Expr}{t:TA}
def ZoP{O:St}{H:Hp}{Q:VK}{us:Qe}{vs:List V}(c:Uj X.K Xa1 C f)(F:FnOk X.prog X.w X.K X.mg X.base CX k f fd ps sp)(l:Room (k+1) X.A)(z:Va X.K fd ps [])
(a:Ye CX X pos)(I:Qt X Y O H s)(r:Za vs us)(hl:vs.length<=1000)
(h:∀x,H x=none->sp (.ref x::vs) (upd H x<|.ext<|phX C x none) (λv S=>v=.non/\Q (.ref x) S) pos):
 wpAny (model X.prog X.w) X.A (call (.ref C) us) (EP X Y O Q) X.xe s:=by
 obtain⟨S1,bm,nm,qn,N,bs,T1,sn,E,ab,col,dd,k0,k1,k2,k3,k5,FB,T,G,mN,fo,D,n,w,t⟩:=c.cls _ I.kIn;have A:=h (s.heap.objs.size+1) (I.hok.fresh<|GR _);obtain⟨j,g,d,B,os⟩:=s;have Z:∀b o,j.get? b=some o->(Ws j C us).get? b=some o:=λb o e=>Xd _ (Xd _ e);have W:(Ws j C us).get? (j.objs.size+1)=some (PL C j.objs.size):=DW (by rw[X9]) rfl;have m:=I.laid (t':=B) Z (GR _) (MI #[_,_,W]);have y:Za (V.ref (j.objs.size+1)::vs) (Value.ref (j.objs.size+1)::us):=.cons rfl r
 have q:(Value.ref (j.objs.size+1)::us++[]).length=ps.length:=by
  have e:=y.length;rw[F.len _ _ _ _ A]at e;simpa using e.symm
 refine AH FB T G D n w t (by rw[<- r.length,sizeLine_eq];lia) ?_;have p:=F.run _ X.stack _ _ _ (Value.ref (j.objs.size+1)::us) _ _ pos (l.make C us []) (m.env0.make C us []) (by simpa using z _ (Value.ref (j.objs.size+1)::us) m.kIn q) y A;refine wpAny_call (codeAny_mono p λr K i=>?_);cases r with
 |error e=>exact a Y O _ _ e K m i
 |ok J=>
  cases J with
  |ret u=>
   obtain⟨v,U,R,M,L,P⟩:=m.after i;subst L;exact#[M,#[V.ref<|j.objs.size+1,U,R,rfl,P]]
  |next=>exact False.elim i
  |brk=>exact False.elim i
  |cont=>exact False.elim i
def Zro(c:Uj X.K Xa1 C f)(j:W.keepIn X.K (.ref C)=true)(F:FnOk X.prog X.w X.K X.mg X.base CX k f fd ps sp)(y:Room (k+1) X.A)(B:Gl X x)(A:X.mg x=some (.ref C))(K:Va X.K fd ps [])(m:Ye CX X pos)
(M:PA X (e::es) t)(g:(x==("__debug__" : Str))=false:=by decide)(he:zs X e es:=by rfl)(hpl:(backTo E<|starEach es X.env).any (·.1)=false:=by rfl):
 PE X (.Call (.Name x p) (e::es) [] E) (Mr C sp pos t):=by
 intro Y s O H Q I h;refine wpAny_Call_Name_kw (WT I B A ?_ g);refine W.callWith_K I.ok.mod.kin j (Q8 (M E Y s O H _ I h) ?_) he hpl;rintro Z a ⟨P,L,i,r,q⟩;refine#[i.kIn,?_];exact ZoP c F y K m i r q.1 q.2
end
def sXR(C:Addr)(te:TE)(R:Addr->Qj->Hp->Prop):TS:=λdx O H=>te O H λv L=>∃e c,v=.ref e/\L e=some (.ext<|phX C e c)/\R e c L
section
variable {pos:Qb}
variable {N:Addr}{bs:Qe}{sub:Qe}
def TM(y:A.handled=none)
(h:wpAny M A x (λv g=>∃e t f j bm nm q N bs T1 sn sub ab col dd k0 k1 k2 k3 k5 newId,v=.ref e/\bm.contains (Value.type "BaseException")=true/\g.heap.get? C=some (excClassObj nm q C N bs bm T1 sn sub ab col dd k0 k1 k2 k3 k5 newId)/\
  g.heap.get? e=some { cls:=.ref C,dict:=f,data:=.fields (List.toArray [.ref t,.none,.none,.none,.bool false,.none]),slots:=j }/\pos (.ref e) g) pos s):
 wpAny M A (raiseStmt env (some x) none) Q pos s:=by
 refine Xa (wpAny_mono h (λv g K=>?_) λ_ _ x=>x);obtain⟨e,t,f,j,bm,nm,q,N,bs,T1,sn,sub,ab,col,dd,k0,k1,k2,k3,k5,newId,rfl,c,m,B,E⟩:=K;have i:(Value.ref C::bm).contains (.type "BaseException")=true:=by rw[List.contains_cons,c,Bool.or_true]
 repeat (first|with_reducible refine wpAny_loadPart_at B ?_|with_reducible refine wpAny_loadPart_at m ?_|(with_reducible refine wpAny_isSubtype_exc m ?_;rw[i])|wp_step)
 exact wpAny_raiseNew_none y E
end
end L2
namespace L2
section
variable {pos:Qb}
structure Leaves(l:List Env)(e:Addr)(oe:Obj)(h h':Heap)(T:Addr):Prop where
 keep:∀b o,b∉l.filterMap (·.frame)->b≠e->h.get? b=some o->h'.get? b=some o
 slot:∀b o,b∈l.filterMap (·.frame)->h.get? b=some o->∃sl,h'.get? b=some { o with slots:=sl }
 new:h.objs.size<=T
 exc:h'.get? e=some (Obj.mapFields (·.setIfInBounds 1 (Value.ref T)) oe)
 tb:∃oT ts,h'.get? T=some oT/\oT.data=.fields ts/\ts[3]?=some .none
def F6
(W:A.frames=some (env::outer))(Z:s.heap.FunFrames base (env::outer))(w:env.frame=some H1)
(he:s.heap.get? e=some oe)(X:oe.data=.fields vs)(hsz:1<vs.size)
(h:∀h' T,Leaves (env::outer) e oe s.heap h' T->Q () { s with heap:=h' }):
 wpAny M A (do let a <- frameOf env;let g <- entryPlaceOf H1 hadNext;let b <- EntryCells.newEntry head a .none (rawInt H1) .none g;setField (.ref e) 1 b) (λ_ t=>wpAny M A (setFlight (.ref e) none) Q pos t) pos s:=by
 have m:e∉(env::outer).filterMap (·.frame):=λv=>by
  obtain⟨_,o,j,P⟩:=Z.mem v;rw[he]at j;injection j with j;subst j;exact P vs X
 refine Xa (wpAny_frameOf_fun W Z w λc K=>?_);refine Xa (wpAny_entryPlaceOf λg C=>?_);refine Xa (wpAny_newObj_type ?_<|C.sizeOk5 _ _ _ _ _);have p:=(K.2.1 e m).trans he;have n:=Xd { cls:=.type "traceback",dict:=none,data:=.fields ([head,.ref H1,.none,rawInt H1,.none]++(if g.isEmpty then List.replicate 6 Value.none else g)).toArray } p;refine wpAny_setField n X hsz ?_;have E:=X8 (Xk p);have l:=Obj.data_mapFields X (·.setIfInBounds 1 (Value.ref c.objs.size));have k:=Ja (Obj.mapFields (·.setIfInBounds 1 (Value.ref c.objs.size))) n (Obj.isFreed_of_fields l);have d:=(XV (c.push { cls:=.type "traceback",dict:=none,data:=.fields ([head,.ref H1,.none,rawInt H1,.none]++(if g.isEmpty then List.replicate 6 Value.none else g)).toArray })
  (Obj.mapFields (·.setIfInBounds 1 (Value.ref c.objs.size))) (Ne.symm E)).trans (Xt c rfl)
 refine Xa (YN k l (x:=.ref c.objs.size) (by simp[hsz]) ?_);refine wpAny_setField d rfl (by simp only[Xr,Xp,XT,List.length_nil]<;>lia) (h _ c.objs.size ?_);have i:∀b o,b≠e->c.get? b=some o->
  (((c.push { cls:=.type "traceback",dict:=none,data:=.fields ([head,.ref H1,.none,rawInt H1,.none]++(if g.isEmpty then List.replicate 6 Value.none else g)).toArray }).update e (Obj.mapFields (·.setIfInBounds 1 (Value.ref c.objs.size)))).update c.objs.size
    (Obj.mapFields (·.setIfInBounds 3 ((none:Qj).elim Value.none λf=>rawInt f)))).get? b=some o:=λb o y B=>by
  have Y:=X8 (Xk B);rw[XV _ _ Y,XV _ _<|Ne.symm y];exact Xd _ B
 refine#[λb o B y j=>i b o y<|(K.2.1 b B).trans j,λb o B j=>?_,?_,?_,?_]
 .obtain⟨r,u⟩:=K.2.2 b o j;exact#[r,i b _ (λq=>m<|q▸B) u]
 .exact Nat.le_of_eq K.1.symm
 .rw[XV _ _ E];exact k
 .exact#[_,_,Ja _ d<|Obj.isFreed_of_fields<|Obj.data_mapFields rfl _,Obj.data_mapFields rfl _,by first|(simp;done)|(rcases C with rfl|⟨_,_,_,_,_,_,_,rfl⟩<;>simp)]
def ZlF
(c:A.frames=some (env::outer))(j:s.heap.FunFrames base (env::outer))(f:env.frame=some H1)
(he:s.heap.get? e=some oe)(g:oe.data=.fields vs)(i:vs[1]?=some .none)
(h:∀h' T,Leaves (env::outer) e oe s.heap h' T->Q () { s with heap:=h' }):wpAny M A (leaving env<|.ref e) Q pos s:=by
 unfold leaving noteFrame;simp only[f];refine Xa (Xa<|YN he g i ?_);exact F6 c j f he g (Array.getElem?_eq_some_iff.mp i).1 h
def Rj{ts:Array Value}
(P:A.frames=some (env::outer))(n:s.heap.FunFrames base (env::outer))(X:env.frame=some H1)
(he:s.heap.get? e=some oe)(Y:oe.data=.fields vs)(Z:vs[1]?=some (.ref T0))(p:T0≠e)(hT:s.heap.get? T0=some oT)(f:oT.data=.fields ts)(C:ts[3]?=some .none)
(h:∀h' T,Leaves (env::outer) e oe s.heap h' T->Q () { s with heap:=h' }):wpAny M A (noteFrame (.ref e) env) (λ_ k=>wpAny M A (setFlight (.ref e) none) Q pos k) pos s:=by
 unfold noteFrame;simp only[X];refine Xa (YN he Y Z ?_);refine Xa (YN hT f C ?_);refine Xa (wpAny_setField hT f (Array.getElem?_eq_some_iff.mp C).1 ?_);have y:=(Array.getElem?_eq_some_iff.mp C).1;have m:Obj.mapFields (·.setIfInBounds 3 Value.none) oT=oT:=by
  obtain⟨c,d,t,r⟩:=oT;subst f;have:ts.setIfInBounds 3 Value.none=ts:=by
   apply Array.ext_getElem?;intro i;rw[Array.getElem?_setIfInBounds];by_cases W:3=i
   .subst W;rw[Xi rfl,Xi y,C]
   .rw[Xg W]
  unfold Obj.mapFields;simp[this]
 have g:∀b o,s.heap.get? b=some o->(s.heap.update T0 _).get? b=some o:=λb o B=>by
  by_cases q:b=T0
  .subst q;rw[hT]at B;cases B;rw[Ja _ hT<|Obj.isFreed_of_fields<|Obj.data_mapFields f _,m]
  .rw[XV _ _<|Ne.symm q];exact B
 refine F6 P (n.of_keeps λb o B l=>#[o,g b o B,rfl]) X (g e _ he) Y (Array.getElem?_eq_some_iff.mp Z).1 λh' T j=>h h' T ?_
 exact#[λb o K E a=>j.keep b o K E<|g b o a,λb o K E=>j.slot b o K<|g b o E,by have:=j.new;simpa only [Heap.size_update] using this,j.exc,j.tb]
def ZnV{ts:Array Value}
(c:A.frames=some (env::outer))(i:s.heap.FunFrames base (env::outer))(j:env.frame=some H1)
(he:s.heap.get? e=some oe)(m:oe.data=.fields vs)(y:vs[1]?=some (.ref T0))(g:T0≠e)(hT:s.heap.get? T0=some oT)(f:oT.data=.fields ts)(q:ts[3]?=some .none)
(h:∀h' T,Leaves (env::outer) e oe s.heap h' T->Q () { s with heap:=h' }):wpAny M A (leaving env<|.ref e) Q pos s:=Xa (Rj c i j he m y g hT f q h)
end
end L2
namespace L2
def phT(T:Addr):Heap->Prop:=λh=>∃c ts,h.get? T=some c/\c.data=.fields ts/\ts[3]?=some .none
def phF(C e:Addr)(f:Qj)(T:Addr):Heap->Prop:=λh=>∃(c:Array Value) (g:Array (Qf)),h.get? e=some { cls:=.ref C,dict:=f,data:=.fields c,slots:=g }/\c[1]?=some (.ref T)/\c[2]?=some .none
def Ay(p:phT T h):ZT P w H h T (.ext<|phT T):=#[p,by obtain⟨o,_,q,_⟩:=p;exact#[_,q],λg f c k=>by obtain⟨o,ts,q,r⟩:=c;exact#[o,ts,k _ q,r]]
def Eh(p:phF C e dct T h):ZT P w H h e (.ext<|phF C e dct T):=#[p,by obtain⟨o,_,q,_⟩:=p;exact#[_,q],λg f c k=>by obtain⟨o,ts,q,r⟩:=c;exact#[o,ts,k _ q,r]]
noncomputable abbrev left(C e:Addr)(dct:Qj)(T:Addr)(H:Hp):Hp:=upd (upd H e<|.ext<|phF C e dct T) T (.ext<|phT T)
section
variable {O:St}{H:Hp}
def D6(I:Qt X Y O H s)(K:Mut (H e))
(he:s.heap.get? e=some { cls:=.ref C,dict:=dct,data:=.fields vs,slots:=a })(hsz:1<vs.size)(Z:vs[2]?=some .none)
(h:Leaves X.stack e { cls:=.ref C,dict:=dct,data:=.fields vs,slots:=a } s.heap h' T):Qt X Y O (left C e dct T H) { s with heap:=h' }:=by
 have i:∀b,H b=none->b≠e:=λb f q=>by subst q;rw[f]at K;exact K
 have W:∀b o,H b=some o->b≠T:=λb o f=>Xs (XF (I.hok.lt f) h.new)
 have j:∀b o,H b=some o->b≠e->left C e dct T H b=some o:=λb o f q=>by
  unfold left;rw[Qu<|W b o f,Qu q];exact f
 have y:∀b o,H b=some o->b∉frs X.stack:=λb o f q=>by rw[I.stkFree b q]at f;cases f
 have g:∀b o,H b=some o->¬Mut (some o)->b≠e:=λb o f n q=>by subst q;rw[f]at K;exact n K
 have k:Un (frs X.stack) [] H (left C e dct T H) s.heap h':=
  { keep:=λb o m f B _=>h.keep b o B (i b f) m
    slot:=λb o m f B _=>h.slot b o B m
    free:=λb o m f _=>by
     unfold left;rw[Qu<|Xs<|XF (Xk m) h.new,Qu<|i b f];exact f
    there:=λb o m _=>by
     by_cases B:b∈frs X.stack
     .obtain⟨a,z⟩:=h.slot b o B m;exact#[_,z]
     .by_cases q:b=e
      .subst q;exact#[_,h.exc]
      .exact#[_,h.keep b o B q m]
    tups:=λb xs f=>j b _ f (g b _ f λz=>z)
    frzs:=λb o u f=>j b _ f (g b _ f λz=>z)
    tupo:=λb xs o f m _=>h.keep b o (y b _ f) (g b _ f λz=>z) m
    tbls:=λb ps f=>#[(List.toArray []),by rw[j b _ f<|g b _ f λz=>z];simp] }
 have P:HOk X.prog X.w (left C e dct T H) h':=λb u f=>by
  by_cases q:b=T
  .subst q;unfold left at f;rw[QG]at f;cases f;exact Ay h.tb
  .by_cases M:b=e
   .subst M;unfold left at f;rw[Qu q,QG]at f;cases f;exact Eh #[_,_,h.exc,by simp[hsz],by rw[Array.getElem?_setIfInBounds_ne<|by decide];exact Z]
   .have E:=by unfold left at f;rw[Qu q,Qu M]at f;exact f
    refine(I.hok b u E).stay (λc v A d=>?_) (λc A=>?_) λc xs A=>?_
    .rcases A with z|z
     .subst z;exact h.keep c v (y c _ E) M d
     .exact h.keep c v (y c _ z) (g c _ z λz=>z) d
    .exact j c _ A (g c _ A λz=>z)
    .exact j c _ A (g c _ A λz=>z)
 exact I.call k P I.bare<|by rintro b ⟨⟩
end
end L2
namespace L2
def Fly(C e:Addr)(c:Qj)(H:Hp):Prop := ∃T,T≠e/\H e=some (.ext<|phF C e c T)/\H T=some (.ext<|phT T)
def XE(C:Addr)(R:Addr->Qj->Hp->Prop):XK:=λv c H=>∃e,v=.ref e/\Fly C e c H/\R e c H
def CX1(P:Program)(w:World):CXT:=λouter H s f v c=>∃g U,c.os=s.os/\AllBare c.gens/\Un (frs outer) [] H U s.heap c.heap/\HOk P w U c.heap/\f v g U
def ZU(C:Addr)(R:Addr->Qj->Hp->Prop):Prop := ∀e c H T,R e c H->H T=none->T≠e->R e c (left C e c T H)
section
variable {w:World}{base:Heap}{N:Qh}{f:Addr}{R:Addr->Qj->Hp->Prop}
noncomputable abbrev cx1(P:Program)(w:World)(K:W.Frag)(mg:Str->Qf)(base:Heap)(N:Qh)(qual:Str)(scope:Scope)(f:Addr)(cd:Value)(A:Around)(outer:List Env)(s0:Shared)(H0:Hp)(pos:XK):Cx:=Jg (CX1 P w) P w K mg base N qual scope f cd A outer s0 H0 pos
variable {O:St}{H:Hp}
def OC(h:T≠e):Fly C e dct (left C e dct T H):=#[T,h,by unfold left;rw[Qu<|Ne.symm h,QG],by unfold left;rw[QG]]
def Tc(g:ZU C R)(I:Qt (cx1 P w K mg base N qual scope f cd A outer s0 H0<|XE C R) Y O (left C e dct T H) { s with heap:=h' })(hT:H T=none)(c:T≠e)(r:R e dct H):
 CX1 P w outer H0 s0 (XE C R) (.ref e) { s with heap:=h' }:=#[dct,_,I.os,I.bare,I.base,I.hok,e,rfl,OC c,g e dct H T r hT c]
def LH(h:ZU C R)(I:Qt (cx1 P w K mg base N qual scope f cd A outer s0 H0<|XE C R) Y O H s)(he:H e=some (.ext<|phX C e dct))(r:R e dct H):
 (cx1 P w K mg base N qual scope f cd A outer s0 H0<|XE C R).xe (.ref e) s:=by
 obtain⟨⟨t,i,g⟩,_,_⟩:=I.hok e _ he;refine ZlF I.ok.frames I.stack rfl g rfl rfl λh' T c=>?_;exact Tc h (D6 I (by rw[he];trivial) g (by simp) rfl c) (I.hok.fresh c.new) (X8<|XF (Xk g) c.new) r
def Wv(n:ZU C R):Ye (CX1 P w) (cx1 P w K mg base N qual scope f cd A outer s0 H0<|XE C R) (XE C R):=by
 intro Y O H s v Z I h;obtain⟨u,U,k,i,X,y,e,rfl,⟨x,B,M,hT⟩,r⟩:=h;obtain⟨l,g,d,t,a⟩:=Z;obtain rfl:=k;have c:=I.call (h':=l) (g':=g) (d':=d) (t':=t) X y i (by rintro b ⟨⟩);obtain⟨⟨D,F,q,W,E⟩,_,_⟩:=c.hok e _ M;obtain⟨⟨G,ts,m,p,o⟩,_,_⟩:=c.hok x _ hT;refine ZnV c.ok.frames c.stack rfl q rfl W B m p o λh' T j=>?_;exact Tc n (D6 c (by rw[M];trivial) q (Array.getElem?_eq_some_iff.mp W).1 E j) (c.hok.fresh j.new) (X8<|XF (Xk q) j.new) r
end
end L2
namespace L2
section
variable {f:Addr}{e:Expr}{R:Addr->Qj->Hp->Prop}
def Zs9(c:Uj X.K Xa1 C f)(i:X.calm=true)(P:PE X e te)(M:∀Y O H s a g,Qt X Y O H s->H a=some (.ext<|phX C a g)->R a g H->X.xe (.ref a) s):PS X (.Raise (some e) none E) (sXR C te R):=by
 intro Y s O H dx I h;refine Xa (wpAny_standAt<|TM (C:=C) (I.ok.hd i)<|Xa<|Q8 (P Y s O H _ I h) ?_);rintro u k ⟨v,L,y,r,a,g,Z,A,q⟩;refine Xa<|wpAny_standAt<|Xm ?_;subst Z;obtain rfl:=r;obtain⟨⟨t,B,m⟩,_,_⟩:=y.hok a _ A;obtain⟨S1,bm,nm,K,N,b,T1,sn,j,ab,col,dd,k0,k1,k2,k3,k5,d,T,W,_⟩:=c.cls _ y.kIn
 exact#[a,t,g,B,bm,nm,K,N,b,T1,sn,j,ab,col,dd,k0,k1,k2,k3,k5,_,rfl,T.hasType d.hasBase,W,m,M _ _ _ _ _ _ y A q]
end
end L2
namespace L2
inductive Lefts(C e:Addr)(dct:Qj):Hp->Hp->Prop
 |nil {H}:Lefts C e dct H H
 |step {H U T}:Lefts C e dct H U->U T=none->T≠e->Lefts C e dct H (left C e dct T U)
def Lefts.head(hT:H T=none)(he:T≠e)(h:Lefts C e dct (left C e dct T H) U):Lefts C e dct H U:=by
 induction h with
 |nil=>exact .step .nil hT he
 |step _ a b c=>exact .step c a b
noncomputable abbrev W7(X:Cx)(e:Addr)(pn:Qc):Cx:={ X with pn:=pn,A:=X.A.mark (some<|.ref e),calm:=false,xe:=λ_ _=>False }
section
variable {O:St}{H:Hp}{dx:Ends}
def Qt.toPn(I:Qt X Y O H s):Qt { X with pn:=X.pn++Y } [] O H s:=
 #[#[I.ok.mod,I.ok.kind,I.ok.glob,I.ok.blt,I.ok.above,I.ok.inj,I.ok.has,I.ok.cab,I.ok.hd,I.ok.frames,I.ok.stk,I.ok.exf,I.ok.bs,I.ok.bsz,I.ok.noex,I.ok.exfs,I.ok.funs,I.ok.frf],I.os,I.bare,I.base,I.loc,I.cell,I.free,I.freeC,λp c=>I.pin p<|by simpa using c,I.hok,I.len]
def Qt.ofPn(I:Qt { X with pn:=X.pn++Y } pins' O H s):Qt X Y O H s:=
 #[#[I.ok.mod,I.ok.kind,I.ok.glob,I.ok.blt,I.ok.above,I.ok.inj,I.ok.has,I.ok.cab,I.ok.hd,I.ok.frames,I.ok.stk,I.ok.exf,I.ok.bs,I.ok.bsz,I.ok.noex,I.ok.exfs,I.ok.funs,I.ok.frf],I.os,I.bare,I.base,I.loc,I.cell,I.free,I.freeC,λp c=>I.pin p<|GM _ c,I.hok,I.len]
def Qt.toHandler(I:Qt { X with pn:=pn } Y O H s):Qt (W7 X e pn) Y O H s:=
 #[#[I.ok.mod,I.ok.kind,I.ok.glob,I.ok.blt,I.ok.above,I.ok.inj,I.ok.has,I.ok.cab,(λz=>by cases z),I.ok.frames,I.ok.stk,I.ok.exf,I.ok.bs,I.ok.bsz,I.ok.noex,I.ok.exfs,I.ok.funs,I.ok.frf],I.os,I.bare,I.base,I.loc,I.cell,I.free,I.freeC,I.pin,I.hok,I.len]
def Qt.ofHandler(c:X.Ok)(I:Qt (W7 X e pn) Y O H s):Qt { X with pn:=pn } Y O H s:=
 #[#[I.ok.mod,I.ok.kind,I.ok.glob,I.ok.blt,I.ok.above,I.ok.inj,I.ok.has,I.ok.cab,c.hd,c.frames,I.ok.stk,I.ok.exf,I.ok.bs,I.ok.bsz,I.ok.noex,I.ok.exfs,I.ok.funs,I.ok.frf],I.os,I.bare,I.base,I.loc,I.cell,I.free,I.freeC,I.pin,I.hok,I.len]
def SP.ofPn{f:Flow}(h:SP { X with pn:=X.pn++Y,xe:=pos } pins' dx f s'):SP X Y dx f s':=by
 have o:∀{c U},Qt { X with pn:=X.pn++Y,xe:=pos } pins' c U s'->Qt X Y c U s':=λI=>Qt.ofPn (I.unwish)
 cases f with
 |next=>obtain⟨c,U,I,q⟩:=h;exact#[c,U,o I,q]
 |brk=>obtain⟨c,U,I,q⟩:=h;exact#[c,U,o I,q]
 |cont=>obtain⟨c,U,I,q⟩:=h;exact#[c,U,o I,q]
 |ret u=>obtain⟨v,c,U,I,r,q⟩:=h;exact#[v,c,U,o I,r,q]
end
def Cb(he:phF C e dct T s.heap)(hT:phT T s.heap)
(h:∀h',(∀b o,s.heap.get? b=some o->h'.get? b=some o)->Q () { s with heap:=h' }):wpAny M A (setFlight (.ref e) none) Q pos s:=by
 obtain⟨Y,P,W,X,_⟩:=he;obtain⟨y,ts,g,j,K⟩:=hT;have f:=(Array.getElem?_eq_some_iff.mp K).1;have m:Obj.mapFields (·.setIfInBounds 3 Value.none) y=y:=by
  obtain⟨c,d,Z,P⟩:=y;subst j;have:ts.setIfInBounds 3 Value.none=ts:=by
   apply Array.ext_getElem?;intro i;rw[Array.getElem?_setIfInBounds];by_cases E:3=i
   .subst E;rw[Xi rfl,Xi f,K]
   .rw[Xg E]
  unfold Obj.mapFields;simp[this]
 refine wpAny_setFlight_none W rfl X g j f (h _ λb o B=>?_)
 by_cases q:b=T
 .subst q;rw[g]at B;cases B;rw[Ja _ g<|Obj.isFreed_of_fields<|Obj.data_mapFields j _,m]
 .rw[XV _ _<|Ne.symm q];exact B
def GW(c:Ends->TS):TS:=λdx O H=>c dx dx O H
end L2
namespace L2
open PySem PySem.Spec PyProof.Rows PySem.W
noncomputable abbrev Mv:Qe:=[.type "ValueError",.type "Exception",.type "BaseException",.type "object"]
def Zn4{K:Frag}{v:Value}(X:K.In h)(G:h.Ns N mg)(e:nsIn K N n=some (some v)):mg n=some v:=by
 obtain⟨o,es,A,f,i,_,g⟩:=G;unfold nsIn at e;split at e
 .rename_i c d j s m q;have:=X _ _ q;rw[f]at this;cases this;cases i;split at e
  .rename_i y;cases e;rw[<- g];unfold nsFind findBy;simp_all
  .lia
 .cases e
noncomputable def MG(K:Frag)(C f:Addr):Bool:=match K.lookup C with
 |some #[.type "type",_,.cls cd,c]=>(match cd.mro,c.toList with
   |.ref g::bm,[_,_,_,_,some<|.builtin n,_]=>g==C&&n == "ValueError.__new__" && !cd.hasDel&&tailIn K Mv bm&&nsOkIn K cd.ns&&nsIn K cd.ns "__init__" == some (some<|.ref f)
   |_,_=>false)
 |_=>false
theorem Ta{K:Frag}{f:Addr}(q:MG K C f=true)(A:K.lookup f=some fo)(M:fo.cls=.type "function")
(ga:specialIn K (.ref Xa1) "__getattribute__"=some (some<|.builtin "type.__getattribute__"))(rd:readsIn K Xa1 (.type "type")=true)(ini:findCls K (.ref Xa1) (.type "type") "__init__"=some (.val<|.builtin "ValueError.__init__")):Uj K Xa1 C f where
 ga:=ga
 rd:=rd
 ini:=ini
 cls:=λh X=>by
  unfold MG at q;split at q
  .rename_i dd cd j E;split at q
   .rename_i Y bm k0 k1 k2 k3 n k5 m W;simp only[WB,beq_iff_eq,Bool.not_eq_true']at q;obtain⟨⟨⟨⟨⟨rfl,rfl⟩,c⟩,B⟩,hok⟩,g⟩:=q;obtain⟨nm,bs,y,ns,s,hd,sn,sub,ab,col,P⟩:=cd;dsimp only at m c hok g;subst m c;have i:j=(List.toArray [k0,k1,k2,k3,some<|.builtin "ValueError.__new__",k5]):=by
     obtain⟨l⟩:=j;simp_all
    subst i;have G:h.Ns ns _:=.of_isNs (isNs_of_in X hok);exact#[Mv,bm,nm,s,ns,bs,hd,sn,sub,ab,col,dd,k0,k1,k2,k3,k5,PySem.F.excBase_ValueError,tail_of_in X B,X _ _ E,_,fo,G,Zn4 X G g,X _ _ A,M]
   .cases q
  .cases q
end L2
namespace L2
def Wh(P:Program)(w:World)(K:W.Frag)(mg:Str->Qf)(base:Heap)(x:Str)(ps:Qh)(k:Nat)(sp:Sp):Prop:=
 ∃f fd,mg x=some (.ref f)/\W.keepIn K (.ref f)=true/\Va K fd ps []/\FnOk P w K mg base (CX1 P w) k f fd ps sp
section
variable {w:World}{base:Heap}
def B1(P:Program)(w:World)(K:W.Frag)(mg:Str->Qf)(base:Heap)(N:Qh)(q:Str)(st:Stmt)(k:Nat)(f:Addr)(H:Hp)(g:XK)(G:TS->Prop):Prop := ∀(c:Value) (A:Around) (outer:List Env) (s:Shared),Room k (A.deeper<|envOfC q (Q3 st) s.heap.objs.size f c)->∃t,PSs (cx1 P w K mg base N q (Q3 st) f c A outer s H g) (VS st) t/\G t
def Fun.okX{x:Str}{st:Stmt}{f:Addr}{N:Qh}{k:Nat}(F:Fun K x qual st f fd)(S:Qo N ps (Q3 st))(g:∀vs H Q c,sp vs H Q c->vs.length=ps.length)
(m:∀vs H Q c,sp vs H Q c->B1 P w K mg base N qual st k f H c (Rn N vs H Q)):FnOk P w K mg base (CX1 P w) (k+1) f fd ps sp:=by
 obtain⟨W,M,kV,C,E,Y,j,X,q,rfl,y,i⟩:=F.ex;exact SY y i S g λA outer s H vs Q c B h=>m vs H Q c h j A outer s B
end
def UG{x:Str}{p:Pos}{e:Expr}{t:TA}{k:Nat}{c:XK}(C:Wh X.prog X.w X.K X.mg X.base x ps j sp)(i:Room k X.A)(h:Ye (CX1 X.prog X.w) X c)(B:PA X (e::es) t)(s:j<=k:=by walk_at"j")(y:Gl X x:=by rfl)
(g:(x==("__debug__" : Str))=false:=by decide +kernel)
(he:zs X e es:=by rfl)(hpl:(backTo E<|starEach es X.env).any (·.1)=false:=by rfl):PE X (.Call (.Name x p) (e::es) [] E) (Ve sp [] c t):=by
 obtain⟨f,fd,m,q,A,F⟩:=C;exact Tu F (i.mono s) y m q A .nil h B g he hpl
def BE(K:W.Frag)(C:Addr)(f:Str):Sp:=λc H Q _=>∃(e p:Addr) (xs:List V),c=[.ref e,.ref p]/\H e=some (.ext<|phX C e none)/\SqL K H p xs/\
 ∀q D,H q=none->H D=none->D≠q->D≠e->q≠e->Q .non (upd (upd (upd H q<|.lst xs) e<|.ext<|phX C e<|some D) D<|.xd [(f,.ref q)])
def OL(h:BE K C f vs H Q pos):
 Ys (Vm<|tXI C 0) (sXF C (QF 0) (tCB (Lb K)<|QM (QF 1) QT) f) { nx:=λ_ U=>Q .non U,rt:=Q } (vs.map some++List.replicate n none) H:=by
 obtain⟨e,p,xs,rfl,m,A,y⟩:=h;refine#[e,none,rfl,m,?_];refine#[.ref p,rfl,?_];refine#[p,xs,rfl,.inl A,λq g=>?_];have i:q≠e:=λz=>by subst z;rw[m]at g;cases g
 refine#[.ref e,rfl,e,rfl,by rw[Qu<|Ne.symm i];exact m,λD c s=>?_];have j:D≠q:=λz=>by subst z;rw[QG]at c;cases c
 exact y q D g (by rw[Qu j]at c;exact c) j s i
end L2
namespace L2
structure FldL(f:Str)(e:Addr)(F H H0:Hp)(ds:Qd)(D q:Addr)(xs:List V):Prop where
 hd:H D=some (.xd [(f,.ref q)])
 hq:H q=some (.lst xs)
 fq:F q=none
 rp:Q0 F xs ds
 nd:D≠e
 nq:q≠e
 dq:D≠q
 fe:F e=none
 fd:F D=none
 q0:H0 q=none
 d0:H0 D=none
def Fld(f:Str)(e:Addr)(F H H0:Hp)(c:Qj)(ds:Qd):Prop := ∃D q xs,c=some D/\FldL f e F H H0 ds D q xs
def Fld.back(h:Fld f e F H L dct ds)(s:Q6 H0 L):Fld f e F H H0 dct ds:=by
 obtain⟨D,q,xs,a,b⟩:=h;exact#[D,q,xs,a,b.hd,b.hq,b.fq,b.rp,b.nd,b.nq,b.dq,b.fe,b.fd,s.free b.q0,s.free b.d0]
def ZK(K:W.Frag)(C:Addr){δ:Type}(FL:Addr->Hp->Hp->Hp->Qj->δ->Prop)(R:List OT->(OT->Prop)->Prop)(m:List OT->(δ->Prop)->Prop):Sp:=λj H Q h=>∃F ts,KTs K F/\Q6 F H/\Args K F j ts/\∃RR,h=XE C RR/\ZU C RR/\
 ((∃i,R ts i/\∀g U v p r,i r->Q5 F H g U->(∀a∈p,H a=none)->Zx K g U v r p->Q v U)\/(∃c,m ts c/\∀g U e f d,c d->Q5 F H g U->H e=none->FL e g U H f d->RR e f U))
abbrev spX(K:W.Frag)(C:Addr)(f:Str)(R:List OT->(OT->Prop)->Prop)(Rx:List OT->(Qd->Prop)->Prop):Sp:=ZK K C (Fld f) R Rx
def EvZ(K:W.Frag)(F0 H0:Hp)(t:TS)(Z:Zcs):Prop := ∀(F:Hp) (O:St) (H:Hp) (c:Ends),Q5 F0 H0 F H->QL K H0 F Z O H->t c O H
section
variable {w:World}{base:Heap}
def ZR(P:Program)(w:World)(K:W.Frag)(mg:Str->Qf)(base:Heap)(N:Qh)(q:Str)(st:Stmt)(k:Nat)(C:Addr)(R:List OT->(OT->Prop)->Prop)(f:Addr):Prop := ∀H RR ts c,ZU C RR->R ts c->B1 P w K mg base N q st k f H (XE C RR) λt=>QE K t (ini N ts) { nx:=λ_=>c<|.fz .none,rt:=c }
def ZX{δ:Type}(P:Program)(w:World)(K:W.Frag)(mg:Str->Qf)(base:Heap)(N:Qh)(q:Str)(st:Stmt)(k:Nat)(C:Addr)(FL:Addr->Hp->Hp->Hp->Qj->δ->Prop)(i:List OT->(δ->Prop)->Prop)(f:Addr):Prop := ∀F H RR ts c,ZU C RR->(∀h U e g d,c d->Q5 F H h U->H e=none->FL e h U H g d->RR e g U)->i ts c->B1 P w K mg base N q st k f H (XE C RR) λt=>EvZ K F H t (ini N ts)
def Fun.evZ{x qual:Str}{f:Addr}{fd:FuncData}{st:Stmt}{N ps:Qh}{k:Nat}{C:Addr}{δ:Type}{FL:Addr->Hp->Hp->Hp->Qj->δ->Prop}{R:List OT->(OT->Prop)->Prop}{Z:List OT->(δ->Prop)->Prop}(F:Fun K x qual st f fd)(S:Qo N ps (Q3 st))(W:∀ts Φ,R ts Φ->ts.length=ps.length)(g:∀ts Φ,Z ts Φ->ts.length=ps.length)(h:ZR P w K mg base N qual st k C R f)(i:ZX P w K mg base N qual st k C FL Z f):FnOk P w K mg base (CX1 P w) (k+1) f fd ps (ZK K C FL R Z):=by
 refine F.okX S (λo H Q M ⟨F,ts,_,_,j,RR,_,_,q⟩=>?_) λo H Q M ⟨F,ts,b,y,j,RR,I,st,q⟩ m A outer s d=>?_
 .rcases q with ⟨r,c,_⟩|⟨r,c,_⟩
  .exact j.length.trans (W ts r c)
  .exact j.length.trans (g ts r c)
 .subst I;rcases q with ⟨Φ,c,q⟩|⟨B,c,q⟩
  .obtain⟨t,Y,X⟩:=h H RR ts Φ st c m A outer s d;refine#[t,Y,X F H F _ H _ (Q5.refl y) (BP b y j) #[λa l U n E _ e=>?_,λa U v u p E G D e=>?_,λ_ _ _ _ _ _ z=>False.elim z,λ_ _ _ _ _ _ z=>False.elim z]]
   .exact q a U _ [] _ e E (by rintro _ ⟨⟩) #[rfl,.non]
   .exact q a U v p u e E G D
  .obtain⟨t,Y,X⟩:=i F H RR ts B st q c m A outer s d;exact#[t,Y,X F _ H _ (Q5.refl y)<|BP b y j]
def Df.evZ{x:Str}{st:Stmt}{N ps:Qh}{k:Nat}{C:Addr}{δ:Type}{FL:Addr->Hp->Hp->Hp->Qj->δ->Prop}{R:List OT->(OT->Prop)->Prop}{m:List OT->(δ->Prop)->Prop}(dx:Df K mg x st ps)(S:Qo N ps (Q3 st))(g:∀f,ZR P w K mg base N x st k C R f)(i:∀f,ZX P w K mg base N x st k C FL m f)(j:∀ts Φ,R ts Φ->ts.length=ps.length:=by intro _ _ h;cases h<;>rfl)(c:∀ts Φ,m ts Φ->ts.length=ps.length:=by intro _ _ h;cases h<;>rfl):Wh P w K mg base x ps (k+1) (ZK K C FL R m):=dx.go λf _ F=>F.evZ S j c (g f) (i f)
end
end L2
namespace L2
section
variable {pos:XK}
def ZrO{Φx:Qd->Prop}(h:Qq K ta Z (.list ds))(J:Φx ds)(I:∀p U e E d,Φx d->Q5 F0 H0 p U->H0 e=none->Fld f e p U H0 E d->RR e E U):EvZ K F0 H0 (sXR C (Mr C (BE K C f) pos<|QM ta QT) RR) Z:=by
 intro F O H dx x S;refine h H0 F O H _ S λQ L v P r=>#[by simp,λe M=>?_]
 cases r with
 |@lst a xs _ u t=>
 have k:=P.fh a _ u;have Y:a≠e:=λz=>by subst z;rw[M]at k;cases k
 refine#[e,a,xs,rfl,QG,SqL.of<|by rw[Qu Y];exact k,λq D y B A j g=>#[rfl,e,some D,rfl,?_,?_]]
 .rw[Qu<|Ne.symm j,QG]
 .have i:=by rw[Qu g]at y;exact y
  have m:=by rw[Qu j]at B;exact B
  have X:=P.fh.free i;have l:Q6 L (upd (upd (upd (upd L e<|.ext<|phX C e none) q<|.lst xs) e<|.ext<|phX C e<|some D) D<|.xd [(f,.ref q)]):=λb o c=>by
   have n:b≠e:=λz=>by subst z;rw[M]at c;cases c
   have G:b≠q:=λz=>by subst z;rw[i]at c;cases c
   have w:b≠D:=λz=>by subst z;rw[m]at c;cases c
   rw[Qu w,Qu n,Qu G,Qu n];exact c
  have s:=x.trans P;have W:upd (upd (upd (upd L e<|.ext<|phX C e none) q<|.lst xs) e<|.ext<|phX C e<|some D) D (.xd [(f,.ref q)]) q=some (.lst xs):=by
   rw[Qu<|Ne.symm A,Qu g,QG]
  have N:=s.trans #[l,Q6.refl _,s.fh.trans l,λb c=>.inl c];exact I Q _ e _ ds J N (s.hh.free M) #[D,q,xs,rfl,QG,W,X,t,j,g,A,s.fh.free M,s.fh.free m,s.hh.free i,s.hh.free m]
def CS(M:Zcs->Prop)(i:QE K t Z { nx:=M,rt:=λ_=>False })(h:∀c,M c->EvZ K F0 H0 u c):EvZ K F0 H0 (Ys t u) Z:=λF O H pos x S=>
 i F0 H0 F O H _ x S #[λm f U c g j e=>h c e m f U pos g j,λ_ _ _ _ _ _ _ _ z=>z.elim,λ_ _ _ _ _ _ z=>False.elim z,λ_ _ _ _ _ _ z=>False.elim z]
def SM(i:Nat)(e:Z[i]?=some (some<|.ol ds))(h:EvZ K F0 H0 t (Z.set i<|zf<|.list ds)):EvZ K F0 H0 t Z:=λF O H pos x S=>by
 obtain⟨a,xs,g,f,c,_,_,j⟩:=S.freeze e;exact h _ O H pos (x.freeze g f c) j
def W0(i:QE K t Z { nx:=λc=>c=ρ1,rt:=λ_=>False })(h:EvZ K F0 H0 u ρ1):EvZ K F0 H0 (Ys t u) Z:=λF O H pos x S=>
 i F0 H0 F O H _ x S #[λm f U c g j e=>by subst e;exact h m f U pos g j,λ_ _ _ _ _ _ _ _ z=>z.elim,λ_ _ _ _ _ _ z=>False.elim z,λ_ _ _ _ _ _ z=>False.elim z]
def Jo(h:EvZ K F0 H0 t Z):EvZ K F0 H0 (Ys t u) Z:=λF O H pos x S=>h F O H _ x S
def Uu{b:Bool}(h:QN K tA Z b)(i:b=true->EvZ K F0 H0 t Z)(g:b=false->EvZ K F0 H0 u Z):EvZ K F0 H0 (Uq tA t u) Z:=λF O H pos x S=>
 h H0 F O H _ S λf U c=>by
  cases b with
  |true=>rw[Xi rfl];exact i rfl f O U pos (x.trans c) (S.ext c)
  |false=>rw[Xg<|by decide];exact g rfl f O U pos (x.trans c) (S.ext c)
def ZrY(B:Zp K t Z ts)(A:Rx ts Φx)(st:ZU C RR)(m:∀h U e c d,Φx d->Q5 F0 H0 h U->H0 e=none->Fld f e h U H0 c d->RR e c U)(x:Q5 F0 H0 F H)(S:QL K H9 F Z O H):
 Ve (spX K C f R Rx) [] (XE C RR) t O H Q:=B H9 F O H _ S λE L M g j=>
 #[E,ts,(S.ext g).kt,g.fh,by rw[Xw];exact j,RR,rfl,st,.inr #[Φx,A,λh U e c d y i s q=>m h U e c d y ((x.trans g).trans i) ((x.trans g).hh.free s)<|q.back (x.trans g).hh]]
def EL(j:Zp K t Z ts)(i:Rx ts Φx)(st:ZU C RR)(h:∀g U e c d,Φx d->Q5 F0 H0 g U->H0 e=none->Fld f e g U H0 c d->RR e c U):
 EvZ K F0 H0 (Vm<|Ve (spX K C f R Rx) [] (XE C RR) t) Z:=λF O H pos x S=>ZrY j i st h x S
def O0(A:Zp K t Z ts)(y:R ts Φ)(st:ZU C RR):Zu K (Ve (spX K C f R Rx) [] (XE C RR) t) Z Φ:=λH0 F O H Q S q=>
 A H0 F O H _ S λM L P c h=>
  #[M,ts,(S.ext c).kt,c.fh,by rw[Xw];exact h,RR,rfl,st,.inl #[Φ,y,λE B v p r j g m i=>q E B v p r j (c.trans g) (λa s=>c.hh.free<|m a s) i]]
def G6(h:Zu K t Z Φ)(hn:dx.nx Z):QE K (Vm t) Z dx:=λF0 H0 F O H pos x S c=>
 h H0 F O H _ S λg U v p r _ f _ _=>c.nx g O U Z (x.trans f) (S.ext f) hn
end
end L2
namespace L2
def NS(h:Lefts C e dct H U)(s:Q6 G H)(he:G e=none):Q6 G U:=by
 induction h with
 |nil=>exact s
 |@step L T q hT m j=>
  intro b o f;have i:b≠e:=λz=>by subst z;rw[he]at f;cases f
  have c:=j b o f;have g:b≠T:=λz=>by subst z;rw[hT]at c;cases c
  unfold left;rw[Qu g,Qu i];exact c
end L2
namespace L2
structure XC(K:W.Frag)(mg:Str->Qf)(x:Str)(Xa1 C f:Addr):Prop where
 cl:Uj K Xa1 C f
 kp:W.keepIn K (.ref C)=true
 m:mg x=some (.ref C)
def Be(P:Program)(w:World)(K:W.Frag)(mg:Str->Qf)(base:Heap)(f:Addr)(ps:Qh)(k:Nat)(sp:Sp):Prop := ∃fd,Va K fd ps []/\FnOk P w K mg base CX0 k f fd ps sp
section
variable {w:World}{base:Heap}{N:Qh}{f:Addr}
def D0{x:Str}{p:Pos}{e:Expr}{t:TA}{k:Nat}(c:XC K mg x Xa1 C f)(W:Be P w K mg base f ps j sp)(g:ZU C RR)(i:Room k (cx1 P w K mg base N qual scope f0 cd A outer s0 H0<|XE C RR).A)
(B:PA (cx1 P w K mg base N qual scope f0 cd A outer s0 H0<|XE C RR) (e::es) t)(m:j+1<=k:=by walk_at"j")(q:Gl (cx1 P w K mg base N qual scope f0 cd A outer s0 H0<|XE C RR) x:=by rfl)
(h:(x==("__debug__" : Str))=false:=by decide)(he:starEach (e::es) (cx1 P w K mg base N qual scope f0 cd A outer s0 H0<|XE C RR).env=(false,eval e (cx1 P w K mg base N qual scope f0 cd A outer s0 H0<|XE C RR).env)::starEach es (cx1 P w K mg base N qual scope f0 cd A outer s0 H0<|XE C RR).env:=by rfl)
(hpl:(backTo E<|starEach es (cx1 P w K mg base N qual scope f0 cd A outer s0 H0<|XE C RR).env).any (·.1)=false:=by rfl):
 PS (cx1 P w K mg base N qual scope f0 cd A outer s0 H0<|XE C RR) (.Raise (some<|.Call (.Name x p) (e::es) [] E) none pos') (sXR C (Mr C sp E0 t) RR):=by
 obtain⟨fd,y,F⟩:=W;exact Zs9 c.cl rfl (Zro c.cl c.kp F (i.mono m) q c.m y YV B h he hpl) (λY O H s a M I he r=>LH g I he r)
end
end L2
namespace L2
def Dh(dx:Ends)(j:Nat):Ends:={ nx:=λO H=>dx.nx (O.set j none) H,rt:=λ_ _=>False }
def XWg(X:Cx)(c:XK)(pn:Qc)(v:Value)(s:Shared):Prop := ∃(O:St) (H:Hp) (f:Qj),Qt { X with pn:=pn } [] O H s/\c v f H
noncomputable abbrev Kd(X:Cx)(pos:XK)(pn:Qc):Cx:={ X with pn:=pn,xe:=XWg X pos pn }
section
variable {O:St}{H:Hp}
def ZoR : Ye (CX1 X.prog X.w) (Kd X pos pn) pos:=by
 intro Y O H s v m I h;obtain⟨i,U,y,c,j,f,B⟩:=h;obtain⟨E,g,d,t,q⟩:=m;obtain rfl:=y;have C:=I.call (d':=d) (t':=t) j f c (by rintro b ⟨⟩);exact#[O,U,i,(C.unwish).pins_of (λp A=>by cases A),B]
def Zqp(I:Qt X Y O H s)(Z:X.N.Nodup)(W:X.N[i]?=some x)(P:X.env.scope.names.lookup x=some .local)
(h:∀g,Qt X Y (O.set i none) H g->Q () g):wpAny M A (do bindName X.env x .none;unbindBehindTheSuite X.env x E) Q pos s:=by
 obtain⟨m,C,K⟩:=id I.loc;refine wpAny_nameGoes_keeps P C (by rw[I.ok.kind];rfl) λh' v f j=>?_;refine h _ (I.poke Z W j I.ok.above I.free (.inl rfl) f K (by rintro _ ⟨⟩) λy u B q=>q.imp ?_<|by rintro⟨k,c,e,z⟩;exact#[k,c,e,z.sameBut j<|I.cne y c e]);rintro⟨k,e⟩;exact#[k,by simp[B,e]]
end
end L2
namespace L2
def QL.setN(u:Option V)(s:QL K H0 F Z O H):QL K H0 F (Z.set r none) (O.set r u) H:=by
 obtain⟨c,m,i,q,h,g,f⟩:=s;refine#[c,m,by simp[i],q,λj t e=>?_,g,f]
 by_cases z:r=j
 .subst z
  by_cases l:r<Z.length
  .simp_all
  .simp_all
 .rw[XY z]at e ⊢;exact h j t e
end L2
namespace L2
section
open PySem.W
variable {w:World}{pos:Qb}{K:Frag}{x:Addr}{ox:Obj}{od:Option Obj}{name:Str}{tk:Tok}{fill expr:Bool}
structure Mm(K:Frag)(C:Addr):Prop where
 ga:findIn K (.ref C) "__getattribute__"=some (some<|.builtin "BaseException.__getattribute__")
 gt:findIn K (.ref C) "__getattr__"=some none
 mb:mroIn K C (.type "BaseException")=some true
def Zqj  (c:Mm K C)(X:K.In s.heap)(I:InstAt s.heap x ox C od)(i:Q () s):wpAny M A (checkBuiltinCall "BaseException.__getattribute__" #[[.ref x,nameV],[]]) Q pos s:=by
 have j:builtinKind "BaseException.__getattribute__"=some .slot:=by decide +kernel
 have f:splitId "BaseException.__getattribute__"=some ("BaseException","__getattribute__"):=by decide +kernel
 have h:=I.type (M:=M);have g:=looks_mroIn (M:=M) X c.mb;refine Xa ((h.andThen g).at ?_)
 repeat (any_goals (first|assumption|wp_step))
def Op(c:Mm K C)(X:K.In s.heap)(I:InstAt s.heap x ox C od)
(h:codeAny (model prog w) A (.call (.builtin "BaseException.__getattribute__") #[[.ref x,.str name tk],[]]) (λr j=>∃v,r=.ok (.ret v)/\wpAny (model prog w) A (handedOut v) Q pos j) s):
 wpAny (model prog w) A (getAttrBy (.ref x) (.str name tk) fill expr) Q pos s:=by
 have q:=F.excAttr_ValueError.ga.bind (.ref x);have g:(expr&&onTheHeap (Value.builtin "BaseException.__getattribute__"))=false:=by cases expr<;>rfl
 have f:(Value.builtin "BaseException.__getattribute__" == Value.builtin "object.__getattribute__")=false:=by decide +kernel
 have m:(onTheHeap (Value.ref C)&&Value.builtin "BaseException.__getattribute__" == Value.builtin "object.__getattribute__")=false:=by rw[f];rfl
 have B:=I.type (M:=model prog w);have y:=looks_findIn (M:=model prog w) X c.ga;have L2:=looks_findIn (M:=model prog w) X c.gt;refine wpAny_holding (Xa<|B.at<|Xa<|y.at ?_);refine Xa (L2.at ?_);refine Xa (wpAny_attempt<|wpAny_holding ?_);unfold callGetattribute;rw[g];unfold boundAndCalled;rw[q];refine wpAny_call (codeAny_mono h λr j i=>?_);obtain⟨v,rfl,i⟩:=i;exact i
def ZqH(c:Mm K C)(T1:hasDictIn K C=true)(y:findIn K (.ref C) "__class__"=some (some<|.builtin "object.__class__"))
(hn:specialIn K (.builtin "object.__class__") "__get__"=some (some<|.builtin "getset_descriptor.__get__"))(f:takesIn K (.builtin "object.__class__")=some true)(g:mroIn K C (.type "object")=some true)
(X:K.In s.heap)(I:InstAt s.heap x ox C od)(h:Q (some<|.ref C) { s with toks:=s.toks+1 }):wpAny (model prog w) A (getAttr? (.ref x) "__class__") Q pos s:=by
 have i:findObj K C od "__class__"=some (.bind (.builtin "getset_descriptor.__get__")<|.builtin "object.__class__"):=by
  obtain⟨cd,q,_⟩:=any_some T1;unfold findObj;simp_all
 refine Xa (wpAny_mkText<|Xa<|wpAny_attempt<|Op c X I<|codeAny_call_builtin F.excAttr_ValueError.ga.plain F.entry_bexc_ga<|Zqj c X I ?_);have m:=I.type (M:=model prog w);have j:=looks_find (M:=model prog w) X I i;refine Xa (Xm<|Xa<|Xm<|Xa<|m.at<|Xa<|j.at ?_);refine Xa (wpAny_holding<|wpAny_call<|class_get X I g ?_);exact Xm #[_,rfl,Xm<|Xm h]
theorem KP(c:Mm K C)(T1:hasDictIn K C=true)(B:findIn K (.ref C) "__class__"=some (some<|.builtin "object.__class__"))
(hn:specialIn K (.builtin "object.__class__") "__get__"=some (some<|.builtin "getset_descriptor.__get__"))(j:takesIn K (.builtin "object.__class__")=some true)(A:mroIn K C (.type "object")=some true):
 KitX K (.ref x) (.ref C) (λh=>InstAt h x ox C od) where
 ty:=λ_ _ _ I=>I.type
 it:=λ_ _ X _=>by
  obtain⟨s,f,_⟩:=any_some T1;unfold clsIn at f;split at f
  .rename_i M E w g m;intro a Z E' Y k q;exact Xa (wpAny_loadPart (k _ _<|X _ _ m)<|Xm q)
  .cases f
 ne:=λh P dd y n W X i=>by
  obtain⟨s,f,_⟩:=any_some T1;refine Bool.eq_false_iff.mpr λq=>?_;have e:=Value.ref.inj (beq_iff_eq.mp q);subst e;unfold clsIn at f;split at f
  .rename_i M E w g m;have z:=(X _ _ m).symm.trans i;cases z
  .cases f
 ca:=λX I k=>ZqH c T1 B hn j A X I k
end
section
variable {e:Expr}
def Az{H:Hp}{O:St}(I:Qt X Y O H s){a D T:Addr}{e:List (Str×V)}(q:H a=some (.ext<|phF C a (some D) T))(m:H D=some (.xd e)):
 ∃(c:Str->Qf) (g od:Obj),W.InstAt s.heap a g C (some od)/\(∀name,W.lookIn name od=some (c name))/\∀f,Vk (e.lookup f) (c f):=by
 obtain⟨⟨y,A,h,_⟩,_,_⟩:=I.hok a _ q;obtain⟨c,n,r⟩:=(I.hok D _ m);obtain⟨od,i,j⟩:=Fm n;exact#[c,_,od,#[h,rfl,rfl,i],j,r]
noncomputable def Hv:V->Qf
 |.ref a=>some (.ref a)
 |.ty t=>some (.type t)
 |_=>none
structure Hd(K:W.Frag)(C:Addr):Prop where
 ga:Mm K C
 hd:W.hasDictIn K C=true
 fc:W.findIn K (.ref C) "__class__"=some (some<|.builtin "object.__class__")
 sp:W.specialIn K (.builtin "object.__class__") "__get__"=some (some<|.builtin "getset_descriptor.__get__")
 tk:W.takesIn K (.builtin "object.__class__")=some true
 mo:W.mroIn K C (.type "object")=some true
def Hh(K:W.Frag)(C:Addr):List V->Hp->VK->Prop:=λxs H Q=>∃x c f b,xs=[x,c]/\Hv c=some f/\
 ((∃e D T g,x=.ref e/\H e=some (.ext<|phF C e (some D) T)/\H D=some (.xd g)/\W.kitOne K (.ref C) f=some b)\/(∃e T,x=.ref e/\H e=some (.ext<|phF C e none T)/\W.kitOne K (.ref C) f=some b)\/(x=.non/\W.kitOne K (.type "NoneType") f=some b))/\Q (.bl b) H
def AE(c:Hd X.K C):ZE X (.builtin "isinstance") (Hh X.K C):=by
 intro Y s O H xs Z Q I r h;obtain⟨x,M,K,b,rfl,f,y,q⟩:=h;obtain⟨u,w,rfl,m,i⟩:=Uv r;have E:w=K:=by
  cases M<;>simp[Hv]at f
  .subst f;exact i
  .subst f;exact i
 subst E;rcases y with ⟨e,D,T,l,rfl,A,B,j⟩|⟨e,T,rfl,A,j⟩|⟨rfl,j⟩
 .obtain rfl:=m;obtain⟨k,d,od,J,_⟩:=Az I A B;exact W.kia_one (KP c.ga c.hd c.fc c.sp c.tk c.mo) I.kIn J j #[] λg=>#[.bl b,H,I.tok g,rfl,q]
 .obtain rfl:=m;obtain⟨⟨P,a,y,_⟩,_,_⟩:=I.hok e _ A;exact W.kia_one (KP (od:=none) c.ga c.hd c.fc c.sp c.tk c.mo) I.kIn #[y,rfl,rfl,trivial] j #[] λg=>#[.bl b,H,I.tok g,rfl,q]
 .obtain rfl:=m;exact W.kia_one W.kitx_none I.kIn trivial j #[] λg=>#[.bl b,H,I.tok g,rfl,q]
theorem Fb:∀{cs:Qg} {us:Qe},Za (cs.map V.ref) us->us=cs.map Value.ref
 |[],_,r=>by cases r;rfl
 |c::cs,_,r=>by
  rw[Xv]at r;cases r with
  |cons f e=>
   cases f;rw[Fb e];rfl
end
noncomputable def C3(C:Addr)(f:Str)(ds:Qd)(e D q:Addr):OwnP where
 ok:=λK F H v p=>p=[e,D,q]/\(F e=none/\F D=none/\F q=none)/\(∃T,H e=some (.ext<|phF C e (some D) T))/\H D=some (.xd [(f,.ref q)])/\∃xs,H q=some (.lst xs)/\Q0 F xs ds
 there:=λ{K F H v p} h a c=>by
  obtain⟨rfl,⟨E,B,A⟩,⟨T,y⟩,m,xs,j,_⟩:=h;rcases Xc.mp c with rfl|c
  .exact#[E,ZG y]
  .rcases Xc.mp c with rfl|c
   .exact#[B,ZG m]
   .rcases Xc.mp c with rfl|c
    .exact#[A,ZG j]
    .cases c
 mono:=λ{K F P H U v p} s i g h=>by
  obtain⟨rfl,⟨E,B,A⟩,⟨T,y⟩,m,xs,j,r⟩:=h;have m1:e∈[e,D,q]:=Xb;have m2:D∈[e,D,q]:=Xe _ Xb;have m3:q∈[e,D,q]:=Xe _ (Xe _ Xb);exact#[rfl,#[i _ m1,i _ m2,i _ m3],#[T,(g _ m1).trans y],(g _ m2).trans m,xs,(g _ m3).trans j,r.mono s]
 uniq:=λ{K F H v p M} h h' a c=>by
  obtain⟨rfl,_⟩:=h;obtain⟨rfl,_⟩:=h';exact c
def Oz(h:Lefts C e dct H U){b:Addr}(i:b≠e)(g:H b=some o):U b=some o:=by
 induction h with
 |nil=>exact g
 |@step L T m hT j c=>
  have f:b≠T:=λz=>by subst z;rw[hT]at c;cases c
  unfold left;rw[Qu f,Qu i];exact c
def HA:Qg->TA
 |[]=>QT
 |c::f=>QM (tC<|.ref c) (HA f)
theorem TZ{O:St}{H:Hp}:∀{cs:Qg} {Q:List V->Hp->Prop},Q (cs.map V.ref) H->HA cs O H Q
 |[],_,h=>h
 |_::cs,_,h=>TZ (cs:=cs) h
end L2
namespace L2
def Za.at(r:Za xs us):∀i:Nat,(xs[i]?=none/\us[i]?=none)\/∃x u,xs[i]?=some x/\us[i]?=some u/\QR x u:=by
 induction r with
 |nil=>intro i;exact .inl #[rfl,rfl]
 |cons a b c=>
  intro i;cases i with
  |zero=>exact .inr #[_,_,rfl,rfl,a]
  |succ i=>exact c i
end L2
set_option maxHeartbeats 8000000
set_option maxHeartbeats 8000000
set_option maxHeartbeats 8000000
set_option maxHeartbeats 8000000
set_option maxHeartbeats 8000000
namespace L2
def Zpz:bootBuiltins "sorted"=some (.builtin "sorted"):=by decide +kernel
end L2
namespace L2
def Zja:bootBuiltins "ValueError"=some (.type "ValueError"):=by decide +kernel
def YW : Ye (CX1 X.prog X.w) X (XE C λ_ _ _=>False):=λ_ _ _ _ _ _ _ h=>by
 obtain⟨_,_,_,_,_,_,_,_,_,z⟩:=h;exact z.elim
def Jt:ZU C λ_ _ _=>False:=λ_ _ _ _ z=>z.elim
end L2
namespace L2
abbrev Zw:=List (Key×PyData)
def YO(kvs:Zw)(k:Key):Option PyData:=(kvs.find? λc=>decide (c.1=k)).map (·.2)
noncomputable def Bd(kvs:Zw)(k:Key)(d:PyData):Zw:=if (kvs.any λc=>decide (c.1=k))=true then kvs.map (λc=>if c.1=k then (c.1,d) else c) else kvs++[(k,d)]
inductive PairK(F:Hp):List (Key×V)->Zw->Prop
 |nil:PairK F [] []
 |cons {k:Key}{x:V}{d:PyData}{xs:List (Key×V)}{kvs:Zw}:Rep F x d->PairK F xs kvs->PairK F ((k,x)::xs) ((k,d)::kvs)
theorem PairK.mono{F c:Hp}(s:Q6 F c):∀{xs:List (Key×V)} {kvs:Zw},PairK F xs kvs->PairK c xs kvs
 |_,_,.nil=>.nil
 |_,_,.cons r t=>.cons (r.mono s) (t.mono s)
theorem PairK.length{F:Hp}:∀{xs:List (Key×V)} {kvs:Zw},PairK F xs kvs->xs.length=kvs.length
 |_,_,.nil=>rfl
 |_,_,.cons _ t=>by simp[t.length]
theorem PairK.val{F:Hp}(k:Key):∀{xs:List (Key×V)} {kvs:Zw},PairK F xs kvs->(ZA xs k=none/\YO kvs k=none)\/∃x d,ZA xs k=some x/\YO kvs k=some d/\Rep F x d
 |_,_,.nil=>.inl #[rfl,rfl]
 |_,_,.cons (k:=k') (x:=x) (d:=d) (kvs:=kvs) r t=>by
  by_cases e:k'=k
  .exact .inr #[x,d,Wm e,by simp[YO, e],r]
  .have q:YO ((k',d)::kvs) k=YO kvs k:=by simp[YO, e]
   rw[Wl e,q];exact t.val k
theorem PairK.any{F:Hp}(k:Key):∀{xs:List (Key×V)} {kvs:Zw},PairK F xs kvs->(xs.any λc=>decide (c.1=k))=(kvs.any λc=>decide (c.1=k))
 |_,_,.nil=>rfl
 |_,_,.cons _ t=>by simp[t.any k]
theorem PairK.mapP{F:Hp}(k:Key){y:V}{d:PyData}(r:Rep F y d):∀{xs:List (Key×V)} {kvs:Zw},PairK F xs kvs->PairK F (xs.map λc=>if c.1=k then (c.1,y) else c) (kvs.map λc=>if c.1=k then (c.1,d) else c)
 |_,_,.nil=>.nil
 |_,_,.cons (k:=k') f t=>by
  rw[Xv,Xv];by_cases e:k'=k
  .simp only[e];exact .cons r (t.mapP k r)
  .simp only[e];exact .cons f (t.mapP k r)
theorem PairK.snoc{F:Hp}(k:Key){y:V}{d:PyData}(r:Rep F y d):∀{xs:List (Key×V)} {kvs:Zw},PairK F xs kvs->PairK F (xs++[(k,y)]) (kvs++[(k,d)])
 |_,_,.nil=>.cons r .nil
 |_,_,.cons c t=>.cons c (t.snoc k r)
def PairK.put(k:Key)(r:Rep F y d){xs:List (Key×V)}(t:PairK F xs kvs):PairK F (Yh xs k y) (Bd kvs k d):=by
 unfold Yh Bd;rw[t.any k];split
 .exact t.mapP k r
 .exact t.snoc k r
def dkP(kvs:Zw):OwnP where
 ok K F H v p := ∃a xs,v=.ref a/\p=[a]/\F a=none/\H a=some (.dK xs)/\PairK F xs kvs
 there:=by
  rintro K F H v p ⟨a,xs,rfl,rfl,h,f,g⟩ b j;cases Xj.mp j;exact#[h,ZG f]
 mono:=by
  rintro K F A H U v p s y m ⟨a,xs,rfl,rfl,h,f,g⟩;exact#[a,xs,rfl,rfl,y a Xb,by rw[m a Xb];exact f,g.mono s]
 uniq:=by
  rintro K F H v p q ⟨a,xs,rfl,rfl,_⟩ ⟨b,ys,e,rfl,_⟩ c i;cases e;exact i
section
variable {ty:TE}{v:V}{kvs:Zw}{k:Key}{d:PyData}
def QL.dk(S:QL K H0 F Z O H)(e:zg Z i<|zo v<|dkP kvs):
 ∃a xs,v=.ref a/\O[i]?=some (some<|.ref a)/\F a=none/\H0 a=none/\H a=some (.dK xs)/\PairK F xs kvs:=by
 obtain⟨h,p,⟨a,xs,rfl,rfl,g,f,d⟩,c,_⟩:=S.writeOwn e;exact#[a,xs,rfl,h,g,(c a Xb).1,f,d]
def OZ(e:zg Z i<|zo v<|dkP kvs)(b:Qq K tv Z d)(Y:Qq K ty Z (JD k))(hz:kvs.length<sizeLine)(hn:dx.nx (Z.set i<|zo v<|dkP<|Bd kvs k d)):QE K (HI (QF i) ty tv) Z dx:=λF0 H0 F O H W x S C=>
 b H0 F O H _ S λD L u g P=>by
  obtain⟨a,xs,rfl,o,_⟩:=(S.ext g).dk e;refine#[_,o,Y H0 D O L _ (S.ext g) λt N y h M=>?_];have s:=S.ext (g.trans h);obtain⟨J,E,m,_,j,n,l,B⟩:=s.dk e;cases m;rw[Nh M];refine#[a,_,rfl,J9.k l<|by rw[B.length];exact hz,?_];obtain⟨_,p,X,G,w⟩:=s.writeOwn e;obtain⟨r,A,m,rfl,_,I,_⟩:=X;cases m;refine C.nx t O _ _ ((x.trans<|g.trans h).wr n j) (w _ (dkP _) [a] (s.sub.upd j) (λc f _=>Qu λz=>f<|by rw[z];exact Xb) (λc f=>?_) #[a,_,rfl,rfl,j,QG,B.put k<|P.mono h.ff] λc f=>.inl f) hn
  by_cases z:c=a
  .subst z;rw[QG];rintro⟨⟩
  .rw[Qu z];exact f
def Zr4:EvX K Tf Z (dkP []):=λH0 F O H Q S q=>λp c=>by
 have f:F p=none:=by
  cases z:F p with
  |none=>rfl
  |some o=>rw[S.sub _ _ z]at c;cases c
 refine q F _ _ [p] (Q5.own S.sub c) (λa d=>by cases Xj.mp d;exact c) #[p,[],rfl,rfl,f,QG,.nil]
end
def DkZ(kvs:Zw):ZP where
 ok K F v := ∃a xs,v=.ref a/\F a=some (.dK xs)/\PairK F xs kvs
 mono:=by
  rintro K F g v s ⟨a,xs,rfl,f,c⟩;exact#[a,xs,rfl,s _ _ f,c.mono s]
def dkP.fz(h:(dkP kvs).ok K F H v p)(s:Q6 F F')(he:∀b∈p,F' b=H b):(DkZ kvs).ok K F' v:=by
 obtain⟨a,xs,rfl,rfl,g,f,c⟩:=h;exact#[a,xs,rfl,by rw[he a Xb];exact f,c.mono s]
def QL.dkz(S:QL K H0 F Z O H)(e:zg Z i<|zz<|DkZ kvs):∃a xs,O[i]?=some (some<|.ref a)/\F a=some (.dK xs)/\PairK F xs kvs:=by
 obtain⟨j,h,_⟩:=S.fp;obtain⟨v,g,_,a,xs,rfl,f,c⟩:=h i _ e;exact#[a,xs,g,f,c]
end L2
namespace L2
structure HandS where
 yard:PyData
 now:Int
 known:Qd
 given:Ql
 gone:Zw
 made:List Zw
inductive MadeD(F H:Hp):Qg->List Zw->Prop
 |nil:MadeD F H [] []
 |cons {a:Addr}{xs:List (Key×V)}{kvs:Zw}{as:Qg}{ms:List Zw}:F a=none->H a=some (.dK xs)->PairK F xs kvs->MadeD F H as ms->MadeD F H (a::as) (kvs::ms)
theorem MadeD.mem{F H:Hp}:∀{as:Qg} {ms:List Zw},MadeD F H as ms->∀a∈as,F a=none/\H a≠none
 |_,_,.nil,a,c=>nomatch c
 |_,_,.cons g f _ t,a,c=>by
  rcases Xc.mp c with rfl|c
  .exact#[g,ZG f]
  .exact t.mem a c
theorem MadeD.mono{F f H U:Hp}(s:Q6 F f):∀{as:Qg} {ms:List Zw},(∀a∈as,f a=none)->(∀a∈as,U a=H a)->MadeD F H as ms->MadeD f U as ms
 |_,_,_,_,.nil=>.nil
 |_,_,h,g,.cons m j i t=>.cons (h _ Xb) (by rw[g _ Xb];exact j) (i.mono s) (t.mono s (λa c=>h a<|Xe _ c) λa c=>g a<|Xe _ c)
def MadeD.other{b:Addr}(h:MadeD F H as ms)(n:b∉as):MadeD F (upd H b o) as ms:=
 h.mono (Q6.refl _) (λa c=>(h.mem a c).1) (λa c=>Qu λz=>n<|z▸c)
inductive MadeZ(F:Hp):Qg->List Zw->Prop
 |nil:MadeZ F [] []
 |cons {a:Addr}{xs:List (Key×V)}{kvs:Zw}{as:Qg}{ms:List Zw}:F a=some (.dK xs)->PairK F xs kvs->MadeZ F as ms->MadeZ F (a::as) (kvs::ms)
theorem MadeZ.mono{F c:Hp}(s:Q6 F c):∀{as:Qg} {ms:List Zw},MadeZ F as ms->MadeZ c as ms
 |_,_,.nil=>.nil
 |_,_,.cons g f t=>.cons (s _ _ g) (f.mono s) (t.mono s)
theorem MadeD.fz{F c H:Hp}(s:Q6 F c):∀{as:Qg} {ms:List Zw},(∀a∈as,c a=H a)->MadeD F H as ms->MadeZ c as ms
 |_,_,_,.nil=>.nil
 |_,_,f,.cons _ i h t=>.cons (by rw[f _ Xb];exact i) (h.mono s) (t.fz s λa g=>f a<|Xe _ g)
noncomputable abbrev hfs(y:V)(n:Int)(k g d m:Addr):List (Str×V):=[("yard",y),("present",.int n),("known",.ref k),("given",.ref g),("gone",.ref d),("made",.ref m)]
structure HandOk(C:Addr)(N:HandS)(F H:Hp)(a D k g d m:Addr)(y:V)(xs:List (Key×V))(as:Qg):Prop where
 nd:(a::D::k::g::d::m::as).Nodup
 ins:F a=none/\H a=some (.ins C D<|hfs y N.now k g d m)
 own:F D=none/\H D=some (.own a)
 yd:Rep F y N.yard
 known:Yr F H k N.known
 given:Yr F H g (N.given.map PyData.int)
 gone:F d=none/\H d=some (.dK xs)/\PairK F xs N.gone
 made:F m=none/\H m=some (.lst<|as.map V.ref)/\MadeD F H as N.made
def HandOk.mono{g m:Addr}{xs:List (Key×V)}(o:HandOk C N F H a D k g d m y xs as)(s:Q6 F F')(f:∀b∈a::D::k::g::d::m::as,F' b=none)(c:∀b∈a::D::k::g::d::m::as,U b=H b):HandOk C N F' U a D k g d m y xs as:=by
 obtain⟨q,⟨l,K⟩,⟨Z,j⟩,i,⟨k1,E,k2,k3⟩,⟨n,M,W,P⟩,⟨p,Y,X⟩,⟨e,B,A⟩⟩:=o;exact#[q,#[f _<|by simp,by rw[c _<|by simp];exact K],#[f _<|by simp,by rw[c _<|by simp];exact j],i.mono s,#[f _<|by simp,E,by rw[c _<|by simp];exact k2,k3.mono s],#[f _<|by simp,M,by rw[c _<|by simp];exact W,P.mono s],
  #[f _<|by simp,by rw[c _<|by simp];exact Y,X.mono s],#[f _<|by simp,by rw[c _<|by simp];exact B,A.mono s (λb h=>f b<|by simp[h]) λb h=>c b<|by simp[h]]]
inductive HandPk(C:Addr)(N:HandS)(F H:Hp)(v:V)(p:Qg):Prop
 |mk (a D k g d m:Addr)(y:V)(xs:List (Key×V))(as:Qg)(e:v=.ref a)(ep:p=a::D::k::g::d::m::as)(o:HandOk C N F H a D k g d m y xs as):HandPk C N F H v p
def Zi(C:Addr)(N:HandS):OwnP where
 ok _ F H v p:=HandPk C N F H v p
 there:=by
  rintro K F H v p ⟨a,D,k,g,d,m,y,xs,B,rfl,rfl,o⟩ b h;obtain⟨_,⟨A,f⟩,⟨W,P⟩,_,⟨k1,z,k2,_⟩,⟨l,I,e,_⟩,⟨t,r,_⟩,⟨m1,m2,m3⟩⟩:=o;simp only[Xc]at h;rcases h with rfl|rfl|rfl|rfl|rfl|rfl|h
  .exact#[A,ZG f]
  .exact#[W,ZG P]
  .exact#[k1,ZG k2]
  .exact#[l,ZG e]
  .exact#[t,ZG r]
  .exact#[m1,ZG m2]
  .exact m3.mem b h
 mono:=by
  rintro K F Q H U v p s Z Y ⟨a,D,k,g,d,m,y,xs,B,rfl,rfl,o⟩;exact#[a,D,k,g,d,m,y,xs,B,rfl,rfl,o.mono s Z Y]
 uniq:=by
  rintro K F H v p q ⟨a,D,k,g,d,m,y,xs,B,rfl,rfl,o⟩ ⟨O,n,G,J,L,x,w,M,u,ev,rfl,E⟩ c X;cases ev;have i:=o.ins.2.symm.trans E.ins.2;injection i with i;injection i with _ A f;subst A;simp only[hfs,List.cons.injEq,Prod.mk.injEq,true_and,and_true,V.ref.injEq]at f;obtain⟨rfl,rfl,rfl,rfl,rfl⟩:=f;have j:=o.made.2.1.symm.trans E.made.2.1;injection j with j;injection j with j;rw[KU j];exact X
structure HandFz(C:Addr)(N:HandS)(F:Hp)(a D k g d m:Addr)(y:V)(ks gs:List V)(xs:List (Key×V))(as:Qg):Prop where
 ins:F a=some (.ins C D<|hfs y N.now k g d m)
 yd:Rep F y N.yard
 known:F k=some (.lst ks)/\Q0 F ks N.known
 given:F g=some (.lst gs)/\Q0 F gs (N.given.map PyData.int)
 gone:F d=some (.dK xs)/\PairK F xs N.gone
 made:F m=some (.lst<|as.map V.ref)/\MadeZ F as N.made
def Zf(C:Addr)(N:HandS):ZP where
 ok K F v := ∃a D k g d m y c h xs i,v=.ref a/\HandFz C N F a D k g d m y c h xs i
 mono:=by
  rintro K F X v s ⟨a,D,k,g,d,m,y,c,h,xs,i,rfl,⟨W,P,⟨M,E⟩,⟨h5,B⟩,⟨A,q⟩,⟨j,f⟩⟩⟩;exact#[a,D,k,g,d,m,y,c,h,xs,i,rfl,s _ _ W,P.mono s,#[s _ _ M,E.mono s],#[s _ _ h5,B.mono s],#[s _ _ A,q.mono s],#[s _ _ j,f.mono s]]
def Zi.fz(h:(Zi C N).ok K F H v p)(s:Q6 F F')(he:∀b∈p,F' b=H b):(Zf C N).ok K F' v:=by
 obtain⟨a,D,k,g,d,m,y,xs,X,rfl,rfl,o⟩:=h;obtain⟨Y,⟨e,q⟩,_,c,⟨k1,j,k2,k3⟩,⟨l,B,M,E⟩,⟨n,W,P⟩,⟨Z,i,f⟩⟩:=o;exact#[a,D,k,g,d,m,y,j,B,xs,X,rfl,by rw[he _<|by simp];exact q,c.mono s,#[by rw[he _<|by simp];exact k2,k3.mono s],#[by rw[he _<|by simp];exact M,E.mono s],#[by rw[he _<|by simp];exact W,P.mono s],#[by rw[he _<|by simp];exact i,f.fz s λb A=>he b<|by simp[A]]]
structure HandC(K:W.Frag)(C:Addr):Prop where
 cl:Cls K C
 yd:Vt K C "yard"
 pr:Vt K C "present"
 kn:Vt K C "known"
 gv:Vt K C "given"
 go:Vt K C "gone"
 md:Vt K C "made"
def NoH(m:Str):Prop := ∀(y:V) (n:Int) (k g d e:Addr),(hfs y n k g d e).lookup m=none
section
variable {ty:TE}{N:HandS}
def QL.hz(S:QL K H0 F Z O H)(e:zg Z i<|zz<|Zf C N):∃a D k g d m y ks c xs as,O[i]?=some (some<|.ref a)/\HandFz C N F a D k g d m y ks c xs as:=by
 obtain⟨q,h,_⟩:=S.fp;obtain⟨v,j,_,a,D,k,g,d,m,y,ks,c,xs,as,rfl,f⟩:=h i _ e;exact#[a,D,k,g,d,m,y,ks,c,xs,as,j,f]
def UL(c:HandC K C)(e:zg Z i<|zz<|Zf C N):Qq K (ZZ K (QF i) "yard") Z N.yard:=λH0 F O H Q S q=>by
 obtain⟨a,D,k,g,d,m,y,h,j,xs,s,f,o⟩:=S.hz e;exact#[_,f,a,C,D,_,y,rfl,S.sub _ _ o.ins,c.cl,c.yd,rfl,q F H y (Q5.refl S.sub) o.yd]
def BJ(c:HandC K C)(e:zg Z i<|zz<|Zf C N):Qq K (ZZ K (QF i) "present") Z (.int N.now):=λH0 F O H Q S q=>by
 obtain⟨a,D,k,g,d,m,y,h,j,xs,s,f,o⟩:=S.hz e;exact#[_,f,a,C,D,_,.int N.now,rfl,S.sub _ _ o.ins,c.cl,c.pr,rfl,q F H _ (Q5.refl S.sub)<|.int _]
def GE(c:HandC K C)(e:zg Z i<|zz<|Zf C N):Qq K (ZZ K (QF i) "known") Z (.list N.known):=λH0 F O H Q S q=>by
 obtain⟨a,D,k,g,d,m,y,h,j,xs,s,f,o⟩:=S.hz e;exact#[_,f,a,C,D,_,.ref k,rfl,S.sub _ _ o.ins,c.cl,c.kn,rfl,q F H _ (Q5.refl S.sub)<|.lst o.known.1 o.known.2]
def FK(c:HandC K C)(e:zg Z i<|zz<|Zf C N):Qq K (ZZ K (QF i) "given") Z (.list<|N.given.map PyData.int):=λH0 F O H Q S q=>by
 obtain⟨a,D,k,g,d,m,y,h,j,xs,s,f,o⟩:=S.hz e;exact#[_,f,a,C,D,_,.ref g,rfl,S.sub _ _ o.ins,c.cl,c.gv,rfl,q F H _ (Q5.refl S.sub)<|.lst o.given.1 o.given.2]
def ZpI(c:HandC K C)(j:Qq K ty Z (JD k))(e:zg Z i<|zz<|Zf C N):Qq K (Mt ty<|ZZ K (QF i) "gone") Z (.bool (YO N.gone k).isSome):=λH0 F O H Q S q=>
 j H0 F O H _ S λB L y f h=>by
  obtain⟨a,D,X,g,d,m,P,W,Y,xs,l,A,o⟩:=(S.ext f).hz e;refine#[_,A,a,C,D,_,.ref d,rfl,f.fh _ _ o.ins,c.cl,c.go,rfl,?_];rw[Nh h];refine#[d,_,rfl,V8.zk<|f.fh _ _ o.gone.1,?_];have s:(ZA xs k).isSome=(YO N.gone k).isSome:=by
   rcases o.gone.2.val k with _|⟨x,b,M,E,_⟩
   .simp_all
   .simp_all
  rw[s];exact q B L _ f (.bl _)
def Dl(X:NoH m)(e:zg Z i<|zz<|Zf C N)(h:Zp K t Z ts)(l:R (.zow (Zf C N)::ts) Φ):
 Zu K (ZV C m (Zk K R) [] pos (QF i) t) Z Φ:=λH0 F O H Q S q=>by
 obtain⟨a,D,k,g,d,E,y,M,n,xs,r,o,j⟩:=S.hz e;refine#[_,o,a,D,_,rfl,S.sub _ _ j.ins,X _ _ _ _ _ _,h H0 F O H _ S λx L z c A=>?_];exact#[x,_,Φ,(S.ext c).kt,c.fh,.zow ((Zf C N).mono c.ff #[a,D,k,g,d,E,y,M,n,xs,r,rfl,j])<|by rw[Xw];exact A,l,λw u v p B P s W f=>q w u v p B P (c.trans s) (λb Y=>c.hh.free<|W b Y) f]
def Zr7(c:NoH m)(e:zg Z i<|zz<|Zf C N)(h:Zp K t Z ts)(f:R (.zow (Zf C N)::ts) (λr=>r=.fz d)):Qq K (ZV C m (Zk K R) [] pos (QF i) t) Z d:=EvO.e (Zu.o<|Dl c e h f)
def BF(i:Nat)(e:zg Z i<|zo v<|Zi C N)(f:∀r,Φ r->JB r)(h:Zu K t (Z.set i<|zz<|Zf C N) Φ):Zu K t Z Φ:=
 KW i e (λa b c=>Zi.fz a b c) f h
def Np(i:Nat)(e:zg Z i<|zo v<|Zi C N)(f:V4 d=some u)(h:Qq K t (Z.set i<|zz<|Zf C N) d):Qq K t Z d:=
 EvO.e (Zu.o<|BF i e (λr c=>by subst c;exact GF f)<|h.o.d rfl)
def LG{b:Bool}(i:Nat)(e:zg Z i<|zo v<|Zi C N)(h:QN K t (Z.set i<|zz<|Zf C N) b):QN K t Z b:=λH0 F O H Q S q=>by
 obtain⟨p,f,j⟩:=S.freezeZ e (λa b c=>Zi.fz a b c);exact h H0 _ O H Q j λm U x=>q _ U (BG (λa g=>#[(f a g).1,(f a g).2.1]) x)
def QL.hand(S:QL K H0 F Z O H)(e:zg Z i<|zo v<|Zi C N):
 ∃a D k g d m y xs as,v=.ref a/\O[i]?=some (some<|.ref a)/\HandOk C N F H a D k g d m y xs as/\(∀b∈a::D::k::g::d::m::as,H0 b=none/\F b=none/\H b≠none)/\
  ∀(U:Hp) (s:HandS) (q:V) (f:List (Key×V)) (c:Qg),Q6 F U->(∀b,b∉a::D::k::g::d::m::as->H b≠none->U b=H b)->(∀b,H b≠none->U b≠none)->
   HandOk C s F U a D k g d m q f c->(∀b∈c,b∈as\/(H b=none/\H0 b=none))->QL K H0 F (Z.set i<|zo v<|Zi C s) O U:=by
 obtain⟨l,p,⟨a,D,k,g,d,m,y,xs,as,rfl,rfl,B⟩,E,A⟩:=S.writeOwn e;refine#[a,D,k,g,d,m,y,xs,as,rfl,l,B,E,λU s q f c Y X W P M=>A U _ _ Y X W #[a,D,k,g,d,m,q,f,c,rfl,rfl,P] λb j=>?_];simp only[Xc]at j ⊢;rcases j with h|h|h|h|h|h|j
 .exact .inl (.inl h)
 .exact .inl (.inr<|.inl h)
 .exact .inl (.inr<|.inr<|.inl h)
 .exact .inl (.inr<|.inr<|.inr<|.inl h)
 .exact .inl (.inr<|.inr<|.inr<|.inr<|.inl h)
 .exact .inl (.inr<|.inr<|.inr<|.inr<|.inr<|.inl h)
 .rcases M b j with z|z
  .exact .inl (.inr<|.inr<|.inr<|.inr<|.inr<|.inr z)
  .exact .inr z
def HandOk.same{g m:Addr}{xs:List (Key×V)}
(f:HandOk C N F H a D k g d m y xs as)(c:HandOk C N' F' U a dx' k' g' d' m' y' xs' as')(s:U a=H a):dx'=D/\k'=k/\g'=g/\d'=d/\m'=m/\y'=y:=by
 have h:=c.ins.2;rw[s,f.ins.2]at h;grind
def HandOk.setKnown{g m:Addr}{xs:List (Key×V)}(i:HandOk C N F H a D k g d m y xs as)(M:Q0 F za ns):
 HandOk C { N with known:=ns } F (upd H k<|.lst za) a D k g d m y xs as:=by
 obtain⟨f,⟨K,E⟩,⟨q,j⟩,h,⟨k1,u,k2,k3⟩,⟨Y,P,X,W⟩,⟨e,b,Z⟩,⟨B,A,s⟩⟩:=i;have c:=f;simp only[XM,Xc,not_or]at c;obtain⟨⟨v,t,_⟩,⟨r,_⟩,⟨p,o,n,l⟩,_⟩:=c;exact#[f,#[K,by rw[Qu t];exact E],#[q,by rw[Qu r];exact j],h,#[k1,za,QG,M],#[Y,P,by rw[Qu<|Ne.symm p];exact X,W],#[e,by rw[Qu<|Ne.symm o];exact b,Z],#[B,by rw[Qu<|Ne.symm n];exact A,s.other l]]
def HandOk.setGiven{g m:Addr}{xs:List (Key×V)}(i:HandOk C N F H a D k g d m y xs as){ns:Ql}(P:Q0 F za (ns.map PyData.int)):
 HandOk C { N with given:=ns } F (upd H g<|.lst za) a D k g d m y xs as:=by
 obtain⟨f,⟨M,K⟩,⟨q,j⟩,h,⟨k1,E,k2,k3⟩,⟨W,r,u,t⟩,⟨l,e,b⟩,⟨B,A,s⟩⟩:=i;have c:=f;simp only[XM,Xc,not_or]at c;obtain⟨⟨x,w,p,_⟩,⟨v,o,_⟩,⟨n,_⟩,⟨Z,Y,X⟩,_⟩:=c;exact#[f,#[M,by rw[Qu p];exact K],#[q,by rw[Qu o];exact j],h,#[k1,E,by rw[Qu n];exact k2,k3],#[W,za,QG,P],#[l,by rw[Qu<|Ne.symm Z];exact e,b],#[B,by rw[Qu<|Ne.symm Y];exact A,s.other X]]
variable {v:V}
def Zpy(c:HandC K C)(e:zg Z i<|zo v<|Zi C N)(h:Qq K te Z n)(T:N.known.length<1000)
(hn:dx.nx (Z.set i<|zo v<|Zi C { N with known:=N.known++[n] })):QE K (Vm<|tBM K "list" Wb (ZZ K (QF i) "known")<|QM te QT) Z dx:=λF0 H0 F O H p x S J=>by
 obtain⟨a,D,k,g,d,m,y,xs,as,rfl,w,q,_⟩:=S.hand e;refine#[_,w,a,C,D,_,.ref k,rfl,q.ins.2,c.cl,c.kn,rfl,.inl #[rfl,_,SqL.of q.known.2.choose_spec.1],h H0 F O H _ S λI L u s Y=>?_];obtain⟨a',G,P,g',d',R,W,A,E,t,U,f,r,X⟩:=(S.ext s).hand e;cases t;obtain⟨rfl,rfl,rfl,rfl,rfl,rfl⟩:=q.same f ((s.hh _ _ q.ins.2).trans q.ins.2.symm);obtain⟨Q,l,o,M⟩:=f.known;have j:=r P (by simp);refine#[P,l,u,rfl,rfl,o,by rw[M.length];exact V7<|#[],?_];exact J.nx I O _ _ ((x.trans s).wr j.1 j.2.1) (X _ { N with known:=N.known++[n] } W A E ((S.ext s).sub.upd j.2.1) (λb B _=>Qu λz=>B<|by rw[z];simp) YL (f.setKnown<|M.snoc Y) λb B=>.inl B) hn
def ZqM(c:HandC K C)(e:zg Z i<|zo v<|Zi C N)(h:Qq K te Z (.int n))(U:N.given.length<1000)
(hn:dx.nx (Z.set i<|zo v<|Zi C { N with given:=N.given++[n] })):QE K (Vm<|tBM K "list" Wb (ZZ K (QF i) "given")<|QM te QT) Z dx:=λF0 H0 F O H p x S J=>by
 obtain⟨a,D,k,g,d,m,y,xs,as,rfl,w,q,_⟩:=S.hand e;refine#[_,w,a,C,D,_,.ref g,rfl,q.ins.2,c.cl,c.gv,rfl,.inl #[rfl,_,SqL.of q.given.2.choose_spec.1],h H0 F O H _ S λI L u s Y=>?_];obtain⟨a',G,T,P,d',R,W,A,E,t,g1,f,r,X⟩:=(S.ext s).hand e;cases t;obtain⟨rfl,rfl,rfl,rfl,rfl,rfl⟩:=q.same f ((s.hh _ _ q.ins.2).trans q.ins.2.symm);obtain⟨Q,l,o,M⟩:=f.given;have j:=r P (by simp);refine#[P,l,u,rfl,rfl,o,by rw[M.length,Xf];exact V7<|#[],?_];exact J.nx I O _ _ ((x.trans s).wr j.1 j.2.1) (X _ { N with given:=N.given++[n] } W A E ((S.ext s).sub.upd j.2.1) (λb B _=>Qu λz=>B<|by rw[z];simp) YL (f.setGiven<|by rw[Xx];exact M.snoc Y) λb B=>.inl B) hn
end
end L2
namespace L2
inductive SpP(K:W.Frag){α:Type}(Φ:α->OwnP)(R:α->List OT->(OT->α->Prop)->Prop)(vs:List V)(H:Hp)(Q:VK):Prop
 |mk (F:Hp)(v0:V)(vs':List V)(p:Qg)(ts:List OT)(N:α)(Ψ:OT->α->Prop)(e:vs=v0::vs')(kt:KTs K F)(sm:Q6 F H)(ha:Args K F vs' ts)(ok:(Φ N).ok K F H v0 p)(hR:R N ts Ψ)
  (k:∀F' U p' N' v r q,Ψ r N'->ExtN p F H F' U->(Φ N').ok K F' U v0 p'->(∀b∈p',b∈p\/H b=none)->Zx K F' U v r q->(∀b∈q,(b∈p\/H b=none)/\b∉p')->Q v U):SpP K Φ R vs H Q
def spP(K:W.Frag){c:Type}(Φ:c->OwnP)(R:c->List OT->(OT->c->Prop)->Prop):Sp:=λf H Q _=>SpP K Φ R f H Q
abbrev spH(K:W.Frag)(C:Addr)(R:HandS->List OT->(OT->HandS->Prop)->Prop):Sp:=spP K (Zi C) R
def UV(K:W.Frag)(C CR:Addr){δ:Type}(FL:Addr->Hp->Hp->Hp->Qj->δ->Prop)(R:HandS->List OT->(OT->HandS->Prop)->Prop)(g:List OT->(δ->Prop)->Prop):Sp:=λf H Q c=>(∃RR,c=XE CR RR/\ZU CR RR/\spH K C R f H Q c)\/ZK K CR FL (λ_ _=>False) g f H Q c
abbrev Sa(K:W.Frag)(C CR:Addr)(f:Str)(R:HandS->List OT->(OT->HandS->Prop)->Prop)(Rx:List OT->(Qd->Prop)->Prop):Sp:=UV K C CR (Fld f) R Rx
def EvR(K:W.Frag)(t:TS)(Z:Zcs)(Ψ:OT->Zcs->Prop):Prop := ∀(F0 H0 F:Hp) (O:St) (H:Hp) (g:Ends),Q5 F0 H0 F H->QL K H0 F Z O H->
 (∀h f U c v r q,Q5 F0 H0 h U->QL K H0 h c f U->Zx K h U v r q->(∀a∈q,H0 a=none)->(∀a∈q,∀u i j,c[0]?=some (some i)->f[0]?=some (some u)->Zx K h U u i j->a∉j)->Ψ r c->g.rt v U)->t g O H
section
variable {t u:TS}{Ψ:OT->Zcs->Prop}
def VO(M:Zcs->Prop)(j:QE K t Z { nx:=M,rt:=λ_=>False })(i:∀c,M c->EvR K u c Ψ):EvR K (Ys t u) Z Ψ:=λF0 H0 F O H g x S k=>
 j F0 H0 F O H _ x S #[λq f U c h m e=>i c e F0 H0 q f U g h m k,λ_ _ _ _ _ _ _ _ z=>z.elim,λ_ _ _ _ _ _ z=>False.elim z,λ_ _ _ _ _ _ z=>False.elim z]
def W1(g:QE K t Z { nx:=λc=>c=e,rt:=λ_=>False })(f:EvR K u e Ψ):EvR K (Ys t u) Z Ψ:=VO _ g λc h=>by rw[h];exact f
def U7(h:Qq K te Z d)(g:Ψ (.fz d) Z):EvR K (VU te) Z Ψ:=λF0 H0 F O H f x S k=>
 h H0 F O H _ S λi U v c r=>k i O U Z v (.fz d) [] (x.trans c) (S.ext c) #[rfl,r] (by rintro _ ⟨⟩) (by rintro _ ⟨⟩) g
def CY{b:Bool}(h:QN K tA Z b)(j:b=true->EvR K t Z Ψ)(i:b=false->EvR K u Z Ψ):EvR K (Uq tA t u) Z Ψ:=λF0 H0 F O H c x S k=>
 h H0 F O H _ S λg U f=>by
  cases b with
  |true=>rw[Xi rfl];exact j rfl F0 H0 g O U c (x.trans f) (S.ext f) k
  |false=>rw[Xg<|by decide];exact i rfl F0 H0 g O U c (x.trans f) (S.ext f) k
variable {α:Type}{Φ:α->OwnP}{N:α}
abbrev fiO{α:Type}(v:V)(Φ:α->OwnP)(Ψ:OT->α->Prop):OT->Zcs->Prop:=λr ρ'=>∃M',Ψ r M'/\ρ'[0]?=some (zo v<|Φ M')
def Dd{R:α->List OT->(OT->α->Prop)->Prop}{Ψ:OT->α->Prop}
(h:EvR K t (ini H1 (.own v0 (Φ N)::ts)) (fiO v0 Φ Ψ))
(X:KTs K F)(y:Q6 F H)(a:Args K F vs ts)(W:(Φ N).ok K F H v0 p)
(q:∀g U m B v r q,Ψ r B->ExtN p F H g U->(Φ B).ok K g U v0 m->(∀b∈m,b∈p\/H b=none)->Zx K g U v r q->(∀b∈q,(b∈p\/H b=none)/\b∉m)->Q v U):
 t { nx:=q0,rt:=Q } (start H1 (v0::vs)) H:=by
 have s:∀b,(λb=>if b∈p then none else H b:Hp) b=none->b∈p\/H b=none:=λb c=>by
  grind
 refine h F _ F _ H _ #[λb o c=>?_,Q6.refl _,y,λ_ h=>.inl h] (FS X y a W) λg C U E v r P i l j Y Z ⟨n,d,A⟩=>?_
 .grind
 .obtain⟨D,k,x,e⟩:=l.fp;obtain⟨u,M,rfl,f⟩:=k 0 _ A;refine q g U _ n v r P d #[λb o w c=>i.hh b o<|#[],i.ff,i.fh,λb c=>?_] f (λb c=>s b (e 0 b c).1) j (λb c=>#[s b<|Y b c,Z b c _ _ _ A M #[rfl,f]]);rcases i.fr b c with z|z
  .exact .inl z
  .exact .inr ((s b z).symm)
end
def ZS(P:Program)(w:World)(K:W.Frag)(mg:Str->Qf)(base:Heap)(C:Addr)(m:Str)(ps:Qh)(k:Nat)(sp:Sp):Prop:=
 ∃f fd,Meth K C m f/\Va K fd ps []/\FnOk P w K mg base (CX1 P w) k f fd ps sp
section
variable {w:World}{base:Heap}{CR:Addr}
noncomputable def Mf.evHXn{m qual:Str}{st:Stmt}{X ps:Qh}{k:Nat}{δ:Type}{FL:Addr->Hp->Hp->Hp->Qj->δ->Prop}{R:HandS->List OT->(OT->HandS->Prop)->Prop}{u:List OT->(δ->Prop)->Prop}(dx:Mf K C m qual st ps)(S:Qo X ps (Q3 st))
(y:∀f H RR v M ts Ψ,ZU CR RR->R M ts Ψ->B1 P w K mg base X qual st k f H (XE CR RR) λt=>EvR K (Ys t<|VU<|tC .non) (ini X (.own v (Zi C M)::ts))<|fiO v (Zi C) Ψ)
(B:∀f,ZX P w K mg base X qual st k CR FL u f)(b:∀M ts Ψ,R M ts Ψ->ts.length+1=ps.length:=by intro _ _ _ h;cases h<;>rfl)(j:∀ts Φ,u ts Φ->ts.length=ps.length:=by intro _ _ h;cases h<;>rfl):ZS P w K mg base C m ps (k+1) (UV K C CR FL R u):=by
 refine dx.go λf fd F=>F.okX S (λG H Q a h=>?_) λG H Q a h E A outer s D=>?_
 .rcases h with ⟨RR,_,_,F,x,Z,p,ts,M,Ψ,e,_,_,g,_,i,_⟩|⟨F,ts,_,_,g,RR,_,_,q⟩
  .rw[e,XT,g.length];exact b _ _ _ i
  .rcases q with ⟨_,z,_⟩|⟨r,i,_⟩
   .exact z.elim
   .exact g.length.trans (j ts r i)
 .rcases h with ⟨RR,o,c,F,x,Z,p,ts,M,Ψ,e,d,W,g,I,i,q⟩|⟨F,ts,d,W,g,RR,o,c,q⟩
  .subst e o;obtain⟨t,n,l⟩:=y f H RR x M ts Ψ c i E A outer s D;exact#[t,n,Dd (R:=R) (q0:=λ_ _=>False) l d W g I q]
  .subst o;rcases q with ⟨_,z,_⟩|⟨Y,i,q⟩
   .exact z.elim
   .obtain⟨t,n,l⟩:=B f F H RR ts Y c q i E A outer s D;exact#[t,n,l F _ H _ (Q5.refl W)<|BP d W g]
end
def W4  {o:Expr}  {k:Nat}{g:Sem Bool}(M:Z5 X.prog X.w X.K X.mg X.base C m ps j sp)(c:HandC X.K C)(i:Room k X.A)(he:PE X o ta)(s:j<=k:=by walk_at"j")
(h:eval (.Call (.Attribute o m X3) [] [] E) X.env=(do
  let ov <- eval o X.env
  standAt X3.atName
  let (f,first) <- holding [ov] (getMethod ov m g)
  callWith E f first (backTo E<|starEach [] X.env)<|backToKw E<|keywordEach [] X.env):=by rfl):
 PE X (.Call (.Attribute o m X3) [] [] E) (ZV C m sp [] E0 ta QT):=by
 obtain⟨f,fd,q,y,F⟩:=M;exact LP he c.cl q F (i.mono s) y .nil YV h
def Yo  {o e:Expr}  {t:TA}{k:Nat}{g:XK}{i:Sem Bool}(M:ZS X.prog X.w X.K X.mg X.base C m ps j sp)(c:HandC X.K C)(y:Room k X.A)(q:Ye (CX1 X.prog X.w) X g)(he:PE X o ta)(P:PA X (e::es) t)(B:j<=k:=by walk_at"j")
(h:zs X e es:=by rfl)(hpl:(backTo E<|starEach es X.env).any (·.1)=false:=by rfl)
(s:eval (.Call (.Attribute o m X3) (e::es) [] E) X.env=(do
  let ov <- eval o X.env
  standAt X3.atName
  let (f,first) <- holding [ov] (getMethod ov m i)
  callWith E f first (backTo E<|starEach (e::es) X.env)<|backToKw E<|keywordEach [] X.env):=by rfl):
 PE X (.Call (.Attribute o m X3) (e::es) [] E) (ZV C m sp [] g ta t):=by
 obtain⟨f,fd,A,K,F⟩:=M;exact KL he c.cl A F (y.mono B) K .nil q P h hpl s
section
variable {v:V}{N:HandS}
def Zi.at(h:(Zi C N).ok K F H v p):∃a D y n k g d e,v=.ref a/\H a=some (.ins C D<|hfs y n k g d e):=by
 obtain⟨a,D,k,g,d,m,y,xs,c,rfl,_,o⟩:=h;exact#[a,D,y,_,k,g,d,m,rfl,o.ins.2]
end
def Mn(C:Addr):Sp:=λc H Q _=>∃x D y,c=[.ref x,y]/\H x=some (.ins C D [])/\∀k g d m U,H k=none->H g=none->H d=none->H m=none->[x,k,g,d,m].Nodup->
 U x=some (.ins C D<|hfs y 0 k g d m)->U k=some (.lst [])->U g=some (.lst [])->U d=some (.dK [])->U m=some (.lst [])->(∀b,b∉[x,k,g,d,m]->U b=H b)->Q .non U
def HG(P:Program)(w:World)(K:W.Frag)(mg:Str->Qf)(base:Heap)(x:Str)(C:Addr)(ps:Qh)(k:Nat):Prop:=
 ∃f fd,Mk K C f/\mg x=some (.ref C)/\Va K fd ps []/\FnOk P w K mg base CX0 k f fd ps (Mn C)
def OP  {x:Str}{p:Pos}{e:Expr}{t:TA}{k:Nat}(M:HG X.prog X.w X.K X.mg X.base x C ps j)(g:Room k X.A)(s:PA X (e::es) t)(i:j+1<=k:=by walk_at"j")(m:Gl X x:=by rfl)(c:(x==("__debug__" : Str))=false:=by decide +kernel)
(he:zs X e es:=by rfl)(hpl:(backTo E<|starEach es X.env).any (·.1)=false:=by rfl):
 PE X (.Call (.Name x p) (e::es) [] E) (JL C (Mn C) [] E0 t):=by
 obtain⟨f,fd,M,h,q,F⟩:=M;exact To M F (g.mono i) m h q .nil YV s c he hpl
def Zs1(h:Qq K ta Z yd):EvX K (JL C (Mn C) [] pos<|QM ta QT) Z (Zi C #[yd,0,[],[],[],[]]):=λH0 F O H Q G q=>h H0 F O H _ G λI L M A J=>λx D E s B=>by
 have S:=G.ext A;refine#[x,D,M,rfl,QG,λe r l d U T N R hd W h1 h2 h3 h4 h5 p=>#[rfl,?_]];have y:∀{b:Addr},upd (upd L D<|.own x) x (.ins C D []) b=none->L b=none/\b≠x/\b≠D:=λ{b} f=>by
  have Y:b≠x:=λz=>by rw[z,QG]at f;cases f
  rw[Qu Y]at f;have X:b≠D:=λz=>by rw[z,QG]at f;cases f
  rw[Qu X]at f;exact#[f,Y,X]
 obtain⟨u,e2,t⟩:=y T;obtain⟨j,r2,P⟩:=y N;obtain⟨k,l2,a⟩:=y R;obtain⟨w,d2,v⟩:=y hd;have m:U D=some (.own x):=by
  rw[p D<|by simp only[Xc,XJ,or_false,not_or];exact#[B,Ne.symm t,Ne.symm P,Ne.symm a,Ne.symm v],Qu B,QG]
 have n:∀b o,L b=some o->U b=some o:=λb o f=>by
  have g:∀{c:Addr},L c=none->b≠c:=λhc z=>by rw[z,hc]at f;cases f
  rw[p b<|by simp only[Xc,XJ,or_false,not_or];exact#[g E,g u,g j,g k,g w],Qu<|g E,Qu<|g s];exact f
 have i:∀{b:Addr},L b=none->I b=none:=λf=>S.sub.free f;refine q I U (.ref x) [x,D,e,r,l,d] (A.trans #[n,Q6.refl _,λb o f=>n b o<|S.sub b o f,λ_ h=>.inl h]) (λb f=>?_) #[x,D,e,r,l,d,M,[],[],rfl,rfl,?_,#[i E,h1],#[i s,m],J,#[i u,[],h2,.nil],#[i j,[],h3,.nil],#[i k,h4,.nil],#[i w,h5,.nil]]
 .refine A.hh.free ?_
  grind
 .simp only[XM,Xc,XJ,or_false,not_or]at W ⊢;obtain⟨⟨a1,a2,a3,a4⟩,b1,c1,f1⟩:=W;exact#[#[Ne.symm B,a1,a2,a3,a4],#[Ne.symm t,Ne.symm P,Ne.symm a,Ne.symm v],b1,c1,f1]
end L2
namespace L2
section
variable {O:St}{H:Hp}
def Zn9(n:Qt X Y O H s)(d:X.N.Nodup)(B:X.N[i]?=some x)(g:X.env.scope.names.lookup x=some .cell)(j:X.fn x=true)
(h:∀a,Qt X Y (O.set i none) H a->Q () a):wpAny M A (do bindName X.env x .none;unbindBehindTheSuite X.env x E) Q pos s:=by
 have W:i<O.length:=by rw[n.len];exact(Xh.mp B).1
 refine Xa (wpAny_bindName<|Dp (v:=.non) n d B (.inr g) rfl (λs I=>?_)<|.inl j);obtain⟨m,t,b⟩:=id I.loc;have w:=I.cne;obtain⟨c,f⟩:=I.ok.has x (.inl g);have C:s.heap.IsCell c (some .none):=by
  obtain⟨u,p,q⟩:=b i x .non B (by rw[XW W]) (.inr<|.inl g);cases p;rcases q with ⟨k,_⟩|⟨k,l,e,z⟩
  .have z:=g.symm.trans k;cases z
  .rw[f]at e;cases e;exact z
 refine wpAny_onRaise ?_;refine Xa (wpAny_point<|Xa ?_);unfold deleteName;have P:X.env.kindOf x=some .cell:=g;simp only[P];refine Xa (wpAny_cellOf f<|Xa<|wpAny_cellGet C ?_);refine wpAny_cellSet C λh' Z K=>?_;refine wpAny_point (h _<|List.set_set .. ▸ I.poke (ov:=none) d B K (I.ok.cab x c j f) (I.freeC x c f) (.inr #[#[_,C],_,Z]) (t.sameBut K<|Ne.symm<|I.cne x c f) b (by rintro _ ⟨⟩) λy u r q=>q.imp id<|by rintro⟨k,l,e,o⟩;exact#[k,l,e,o.sameBut K λq=>r<|I.ok.inj _ _ _ (q▸e) f])
end
def EHc(C:Addr)(th:Addr->TS)(dx:Ends)(n j:Nat):XK:=XE C λe c H=>∀(O:St) U T,O.length=n->Lefts C e c H U->U T=none->T≠e->th e (Dh dx j) (O.set j<|some<|.ref e) (left C e c T U)
def Zo9{dx:Ends}:ZU C λe c H=>∀(O:St) U T,O.length=n->Lefts C e c H U->U T=none->T≠e->th e (Dh dx j) (O.set j<|some<|.ref e) (left C e c T U):=λ_ _ _ _ r hT f O U i g h=>r O U i g (.head hT f h)
section
variable {B:Addr}{tb:Ends->TS}{x n:Str}
def ZpH{O:St}{dx:Ends}(cm:W.exmOne X.K (.ref C) (.ref B)=some true)(g:X.Ok)(c:X.stack=X.env::X.outer)(P:X.env.frame=some X.env.locals)(hg:Gl X x)(hm:X.mg x=some (.ref B))
(d:X.N.Nodup)(M:X.N[j]?=some n)(h:X.env.scope.names.lookup n=some .local\/(X.env.scope.names.lookup n=some .cell/\X.fn n=true))
(hh:∀e pn,PSs (W7 X e pn) (b0::suite)<|th e)(I:Qt { X with pn:=X.pn++Y } [] O H s)(b:T0≠e)(he:H e=some (.ext<|phF C e dct T0))(hT:H T0=some (.ext<|phT T0))
(hd:(x==("__debug__" : Str))=false)
(hq:∀T,H T=none->T≠e->th e (Dh dx j) (O.set j<|some<|.ref e) (left C e dct T H))(r:∀f p,SP X Y dx f p->Q f p):
 wpAny (model X.prog X.w) X.A (noteFrame (.ref e) X.env) (λ_ L=>wpAny (model X.prog X.w) X.A (setFlight (.ref e) none) (λ_ A=>wpAny (model X.prog X.w) X.A (handleBy (.ref e) X.env (.ExceptHandler (some<|.Name x np) (some n) (b0::suite) hpos::rest)) Q pos A) pos L) pos s:=by
 obtain⟨⟨vs,sl,K,w,k⟩,_,_⟩:=I.hok e _ he;obtain⟨⟨oT,ts,E,t,h3⟩,_,_⟩:=I.hok T0 _ hT;have fr:X.A.frames=some (X.env::X.outer):=by rw[g.frames,c]
 have l:=I.stack;have l:s.heap.FunFrames X.base (X.env::X.outer):=by rw[<- c];exact l
 refine Rj fr l P K rfl w b E t h3 λh' T m=>?_;have J:=D6 I (by rw[he];trivial) K (Array.getElem?_eq_some_iff.mp w).1 k (by rw[c];exact m);have a:=I.hok.fresh m.new;have i:=X8 (XF (Xk K) m.new);have y:Qt (W7 X e<|X.pn++Y) [] O _ { s with heap:=h' }:=J.toHandler;refine wpAny_handleBy_cons (codeAny_handlers_test<|WT y hg hm ?_ hd) (by intro q;cases q);have LT:W.Looks (model X.prog X.w) h' (typeOf<|.ref e) (.ref C):=(W.Looks.ld m.exc).andThen .now;refine(W.exm_one J.kIn LT cm).here (codeAny_handlers_suite_as ?_);have o1:left C e dct T H e=some (.ext<|phF C e dct T):=by unfold left;rw[Qu<|Ne.symm i,QG]
 have S:left C e dct T H T=some (.ext<|phT T):=by unfold left;rw[QG]
 obtain⟨R,_,_⟩:=y.hok e _ o1;obtain⟨N,_,_⟩:=y.hok T _ S;refine Cb R N λt k2=>?_;have J2:=y.kept (t':=s.toks) k2;refine Dp (X:=W7 X e (X.pn++Y)) J2 d M (h.imp id And.left) (v:=.ref e) rfl (λA J3=>?_) (h.symm.imp And.right id);refine wpAny_mono (hh e _ [] A _ _ (Dh dx j) J3<|hq T a i) (λfl s4 z=>?_) λ_ _ z=>False.elim z
 cases fl with
 |next=>
  obtain⟨F,U,D,q⟩:=z;rcases h with h|⟨h,Z⟩
  .exact Zqp (X:=W7 X e (X.pn++Y)) D d M h λG o=>r _ _ #[_,U,(o.ofHandler g).ofPn,q]
  .exact Zn9 (X:=W7 X e (X.pn++Y)) D d M h Z λG o=>r _ _ #[_,U,(o.ofHandler g).ofPn,q]
 |ret u=>obtain⟨_,_,_,_,_,z⟩:=z;exact False.elim z
 |brk=>obtain⟨_,_,_,z⟩:=z;exact False.elim z
 |cont=>obtain⟨_,_,_,z⟩:=z;exact False.elim z
def Zpw(D:W.exmOne X.K (.ref C) (.ref B)=some true)(i:X.stack=X.env::X.outer)(m:X.env.frame=some X.env.locals)(l:Gl X x)(P:X.mg x=some (.ref B))
(t:X.N.Nodup)(d:X.N[j]?=some n)(Z:X.env.scope.names.lookup n=some .local\/(X.env.scope.names.lookup n=some .cell/\X.fn n=true))
(r:∀dx g,PSs (Kd X (EHc C th dx X.N.length j) g) body<|tb dx)(k:∀e g,PSs (W7 X e g) (b0::suite)<|th e)(p:(x==("__debug__" : Str))=false:=by decide):
 PS X (.Try body (.ExceptHandler (some<|.Name x np) (some n) (b0::suite) hpos::rest) [] [] E) (GW tb):=by
 intro Y s O H dx I h;have F:Qt (Kd X (EHc C th dx X.N.length j)<|X.pn++Y) [] O H s:=I.toPn.wish _;refine wpAny_Try_except (wpAny_mono (r dx _ [] s O H dx F h) (λA K q=>?_) λv K q=>?_)
 .have c:=SP.ofPn q;cases A with
  |next=>exact wpAny_execs_nil c
  |ret u=>exact c
  |brk=>exact c
  |cont=>exact c
 .obtain⟨f,L,w,J,e,rfl,⟨N,y,o,hT⟩,M⟩:=q;exact ZpH D I.ok i m l P t d Z k J y o hT p (λT a b=>M f _ T J.len .nil a b) λA G z=>z
end
end L2
namespace L2
def KS(g:CXT)(X:Cx)(c:St->XK):Prop := ∀(Y:Qc) (O:St) (H:Hp) (s:Shared) (e:Value) (f:Shared),Qt X Y O H s->g X.stack H s (c O) e f->X.xe e f
def XWp(X:Cx)(f:St->XK)(pn:Qc)(v:Value)(s:Shared):Prop := ∃(O:St) (H:Hp) (c:Qj),Qt { X with pn:=pn } [] O H s/\f O v c H
noncomputable abbrev Th(X:Cx)(Eσ:St->XK)(pn:Qc):Cx:={ X with pn:=pn,xe:=XWp X Eσ pn }
def Zqt : KS (CX1 X.prog X.w) (Th X Eσ pn) Eσ:=by
 intro Y O H s v m I h;obtain⟨i,U,y,c,j,f,B⟩:=h;obtain⟨E,g,d,t,q⟩:=m;obtain rfl:=y;have C:=I.call (d':=d) (t':=t) j f c (by rintro b ⟨⟩);exact#[O,U,i,(C.unwish).pins_of (λp A=>by cases A),B]
end L2
namespace L2
section
variable {d:PyData}
def QL.freezeO(hz:∀{p:Qg},Φ.ok K F H v p->Rep (frF F H p) v d)(s:QL K H0 F Z O H)(e:zg Z i<|zo v Φ):
 ∃p,(∀a∈p,F a=none/\H a≠none/\H0 a=none)/\QL K H0 (frF F H p) (Z.set i<|zf d) O H:=
 s.frz e λu p c=>by
  obtain⟨rfl,c⟩:=c;exact#[rfl,hz c]
end
end L2
section
set_option maxHeartbeats 400000
namespace L2
def Pd(X:Cx):List V->Hp->VK->Prop:=λxs H Q=>X.calm=true/\∃(x:V) (c:Ql) (M:Int),xs=[x]/\Rep H x (.list<|c.map PyData.int)/\M∈c/\(∀a∈c,a<=M)/\Q (.int M) H
def IB:ZE X (.builtin "max") (Pd X):=by
 intro Y s O H xs T Q I r h;obtain⟨G,x,f,M,rfl,o,P,g,q⟩:=h;obtain⟨u,rfl,a⟩:=VL r;cases o with
 |@lst l ys _ J n=>
  cases a;have R:=BM n;subst R;obtain⟨c,d,p,hz⟩:=I.list (SqL.of J);have C:=p.isList;have K:=Dy d;have W:=K.length;have hpos:0<f.length:=Mj.mpr λz=>by rw[z]at P;cases P
  have m:l<s.heap.objs.size:=by obtain⟨_,e,_⟩:=C;exact Xk e
  refine call_max_walk (wpAny_pyIter_list C ?_);refine#[s.heap.objs.size,[s.heap.objs.size,l],[s.heap.objs.size],c.toArray.size,_,_,_,rfl,Walks.list (A:=X.A.in1) (I.ok.hd G) _ l (Xs m) c.toArray,
   #[#[_,Xt _ rfl,rfl,rfl],C.push _],λb y=>?_,by simp only[Xr];lia,CmpOf.ints_gt (λi=>f.getD i 0) (λi v B=>JQ K<|by simpa using B),λv h' U B D=>?_]
  .rw[X9];rcases Xc.mp y with rfl|y
   .exact J7 _
   .rcases Xc.mp y with rfl|y
    .exact Uf m
    .cases y
  .rw[List.getElem?_toArray]at B;obtain⟨t,rfl⟩:=JQ K B;obtain⟨N,Z⟩:=argBest_gt (λi=>f.getD i 0) (c.toArray.size-1);have w:c.toArray.size=c.length:=by simp
   generalize argBest _ (c.toArray.size-1)=k at N Z ⊢;have E:k<f.length:=#[]
   have S:f.getD k 0=M:=by
    have L:f.getD k 0∈f:=by simp[E]
    have h2:=g _ L;obtain⟨j,F,e⟩:=UP.mp P;have h3:=Z j #[];have h4:f.getD j 0=M:=by simp[F,e]
    lia
   exact#[.int M,H,I.kept<|MZ D,#[t,by rw[S]],q]
def Iv{ns:Ql}{M:Int}(h:Qq K ta Z (.list<|ns.map PyData.int))(i:X.calm=true)(j:M∈ns)(g:∀a∈ns,a<=M):Qq K (tCB (Pd X)<|QM ta QT) Z (.int M):=λH0 F O H Q S q=>
 h H0 F O H _ S λm L v c f=>#[i,v,ns,M,rfl,f.mono c.fh,j,g,q m L _ c<|.int _]
def Pf(J:Zcs->Prop)(h:QE K t Z { nx:=J,ct:=dx.ct,bk:=dx.bk,rt:=dx.rt })(k:∀c,J c->dx.nx c):QE K t Z dx:=λF0 H0 F O H g x S C=>
 h F0 H0 F O H g x S #[λq f U c i m j=>C.nx q f U c i m<|k c j,C.rt,C.bk,C.ct]
end L2
end
namespace L2
def olP(ds:Qd):OwnP where
 ok K F H v p := ∃a,v=.ref a/\p=[a]/\Yr F H a ds
 there:=by
  rintro K F H v p ⟨a,rfl,rfl,h,xs,g,_⟩ c f;cases Xj.mp f;exact#[h,ZG g]
 mono:=by
  rintro K F A H U v p s j i ⟨a,rfl,rfl,h,xs,g,m⟩;exact#[a,rfl,rfl,j _<|by simp,xs,by rw[i _<|by simp];exact g,m.mono s]
 uniq:=by
  rintro K F H v p q ⟨a,rfl,rfl,_⟩ ⟨y,e,rfl,_⟩ c f;cases e;exact f
def EvW(K:W.Frag)(t:TE)(Z:Zcs)(i:Nat)(Θ:Int->OT->Prop):Prop := ∀(F0 H0 F:Hp) (O:St) (H:Hp) (Q:VK),Q5 F0 H0 F H->QL K H0 F Z O H->
 (∀c U n o,Θ n o->Q5 F0 H0 c U->Q6 F c->QL K H0 c (Z.set i<|some o) O U->Q (.int n) U)->t O H Q
section
variable {tb:TE}{t:TA}{v:V}
def olP.frz(c:(olP ds).ok K F H v p):Rep (frF F H p) v (.list ds):=by
 have f:Q6 F (frF F H p):=WW λa g=>((olP ds).there c a g).1;obtain⟨a,rfl,rfl,j,xs,i,h⟩:=c;exact .lst (by rw[Jr<|by simp];exact i) (h.mono f)
def Lv(i:Nat)(e:zg Z i<|zo v<|olP ds)(g:V4 d=some u)(h:Qq K te (Z.set i<|zf<|.list ds) d):Qq K te Z d:=λH0 F O H Q S q=>by
 obtain⟨p,c,j⟩:=S.freezeO olP.frz e;exact h H0 _ O H Q j λm U v x r=>q _ U v (BG (λa f=>#[(c a f).1,(c a f).2.1]) x) (r.thin g)
def NF(e:zg Z i<|zo v<|olP ds)(h:Qq K te Z d)(X:Qq K tb Z (.int k))(W:ixN ds.length k=some j)(hn:dx.nx (Z.set i<|zo v<|olP<|ds.set j d)):
 QE K (V2 te<|Ss (QF i) tb Bf) Z dx:=λF0 H0 F O H P x S C=>
 h H0 F O H _ S λn L u f E=>by
  obtain⟨b,p,⟨a,rfl,rfl,I,xs,G,D⟩,J,_⟩:=(S.ext f).writeOwn e;refine#[_,b,X H0 n O L _ (S.ext f) λl Q y g B=>?_];cases B;obtain⟨_,r,⟨N,Y,rfl,o,ys,M,t⟩,q,w⟩:=(S.ext<|f.trans g).writeOwn e;cases Y;obtain⟨A,m,_⟩:=q a Xb;refine#[a,ys,k,j,rfl,rfl,M,by rw[t.length];exact W,?_];exact C.nx l O _ _ ((x.trans<|f.trans g).wr A m) (w _ (olP _) [a] ((S.ext<|f.trans g).sub.upd m) (λc s _=>Qu λz=>s<|by rw[z];exact Xb) YL #[a,rfl,rfl,m,_,QG,t.set (E.mono g.ff) j] λc s=>.inl s) hn
def Eb{c:Type}{Φ:c->OwnP}{N:c}{R:c->List OT->(OT->c->Prop)->Prop}{Ψ:OT->c->Prop}(e:zg Z i<|zo v<|Φ N)(a:Zp K t Z ts)(Y:R N ts Ψ)(hn:∀r g,Ψ r g->∃n,r=.fz (.int n)/\Θ n (.own v<|Φ g)):
 EvW K (Ve (spP K Φ R) [] E'<|QM (QF i) t) Z i Θ:=λF0 H0 F O H Q x S q=>by
 obtain⟨w,s0,_⟩:=Wd S x e;refine#[_,s0,a H0 F O H _ S λk L E f P=>?_];obtain⟨p,o,m,A⟩:=Wd (S.ext f) (x.trans f) e;refine#[k,v,E++[],p,ts,N,Ψ,rfl,(S.ext f).kt,f.fh,by rw[Xw];exact P,m,Y,λC U W g l r u X B s h j z=>?_];obtain⟨n,rfl,y⟩:=hn r g X;obtain⟨b,d,_⟩:=A C U W g B s h;obtain⟨_,M⟩:=j;cases M;exact q C U n _ y b (f.ff.trans B.ff) d
def Bq{s:TE->TS}(hw:EvW K te Z i Θ)(j:∀(H0 F:Hp) (O:St) (H:Hp) (f:Ends),QL K H0 F Z O H->(∀Q:VK,(∀n L,s (tC<|.int n) f O L->Q (.int n) L)->te O H Q)->s te f O H)
(hn:∀n o,Θ n o->QE K (s<|tC<|.int n) (Z.set i<|some o) dx):QE K (s te) Z dx:=λF0 H0 F O H f x S c=>
 j H0 F O H f S λQ m=>hw F0 H0 F O H Q x S λt U n o g h _ q=>m n U (hn n o g F0 H0 t O U f h q c)
def Fd(B:Qq K ta Z (.list ds))(hw:EvW K te Z i Θ)(hn:∀n o,Θ n o->∃d,atI ds n=some d/\dx.nx ((Z.set i<|some o).set j (zf d))):QE K (V2 (tOp (rIx K) ta te)<|Yb j) Z dx:=λF0 H0 F O H A x S c=>
 B H0 F O H _ S λC L u h y=>hw F0 H0 C O L _ (x.trans h) (S.ext h) λE U n o f v m q=>by
  obtain⟨d,e,g⟩:=hn n o f;cases y with
  |@lst a xs _ k1 k2=>
   obtain⟨z,t,s⟩:=G4 (k2.mono m) e;exact .inl #[a,xs,n,z,rfl,rfl,SqL.of<|q.sub _ _<|m _ _ k1,t,c.nx E _ U _ v (q.setF s) g]
end
section
variable {w:World}{base:Heap}
noncomputable def Df.evP{i:Type}{Φ:i->OwnP}{x:Str}{st:Stmt}{E:Qh}{k:Nat}{R:i->List OT->(OT->i->Prop)->Prop}(dx:Df K mg x st ps)(S:Qo E ps (Q3 st))
(g:∀f v M ts Ψ,R M ts Ψ->∀H c,B0 P w K mg base E x st k f H c λt=>EvR K t (ini E (.own v (Φ M)::ts))<|fiO v Φ Ψ)(m:∀M ts Ψ,R M ts Ψ->ts.length+1=ps.length:=by intro _ _ _ h;cases h<;>rfl):Q2 P w K mg base x ps (k+1) (spP K Φ R):=by
 refine dx.go λf fd F=>F.ok S (λX H Q c h=>?_) λX H Q c h C A outer s b=>?_
 .obtain⟨F,W,j,p,ts,M,Ψ,e,_,_,y,_,B,_⟩:=h;rw[e,XT,y.length];exact m _ _ _ B
 .obtain⟨F,W,j,p,ts,M,Ψ,e,a,Y,y,Z,B,q⟩:=h;subst e;obtain⟨t,l,d⟩:=g f W M ts Ψ B H c C A outer s b;exact#[t,l,Dd (R:=R) d a Y y Z q]
end
def SX(X:Cx):List V->Hp->VK->Prop:=λxs H Q=>X.calm=true/\∃(x:V) (c:Ql) (M:Int),xs=[x]/\Rep H x (.tuple<|c.map PyData.int)/\M∈c/\(∀a∈c,a<=M)/\Q (.int M) H
def Oe:ZE X (.builtin "max") (SX X):=by
 intro Y s O H xs S Q I r h;obtain⟨F,x,f,M,rfl,o,P,g,q⟩:=h;obtain⟨u,rfl,a⟩:=VL r;cases o with
 |@tup l ys _ G n=>
  cases a;have N:=BM n;subst N;obtain⟨c,d,C,U⟩:=I.tuple (SqT.of G);have K:=Dy d;have W:=K.length;have hpos:0<f.length:=Mj.mpr λz=>by rw[z]at P;cases P
  have m:l<s.heap.objs.size:=by obtain⟨_,e,_⟩:=C;exact Xk e
  refine call_max_walk (wpAny_pyIter_tuple C ?_);refine#[s.heap.objs.size,[s.heap.objs.size,l],[s.heap.objs.size],c.toArray.size,_,_,_,rfl,Walks.tuple (A:=X.A.in1) (I.ok.hd F) _ l (Xs m) c.toArray,
   #[#[_,Xt _ rfl,rfl,rfl],C.push _],λb y=>?_,by simp only[Xr];lia,CmpOf.ints_gt (λi=>f.getD i 0) (λi v B=>JQ K<|by simpa using B),λv h' T B w=>?_]
  .rw[X9];rcases Xc.mp y with rfl|y
   .exact J7 _
   .rcases Xc.mp y with rfl|y
    .exact Uf m
    .cases y
  .rw[List.getElem?_toArray]at B;obtain⟨t,rfl⟩:=JQ K B;obtain⟨L,Z⟩:=argBest_gt (λi=>f.getD i 0) (c.toArray.size-1);have p:c.toArray.size=c.length:=by simp
   generalize argBest _ (c.toArray.size-1)=k at L Z ⊢;have E:k<f.length:=#[]
   have R:f.getD k 0=M:=by
    have J:f.getD k 0∈f:=by simp[E]
    have h2:=g _ J;obtain⟨j,D,e⟩:=UP.mp P;have h3:=Z j #[];have h4:f.getD j 0=M:=by simp[D,e]
    lia
   exact#[.int M,H,I.kept<|MZ w,#[t,by rw[R]],q]
def EV{ns:Ql}{M:Int}(h:Qq K ta Z (.tuple<|ns.map PyData.int))(i:X.calm=true)(j:M∈ns)(g:∀a∈ns,a<=M):Qq K (tCB (SX X)<|QM ta QT) Z (.int M):=λH0 F O H Q S q=>
 h H0 F O H _ S λm L v c f=>#[i,v,ns,M,rfl,f.mono c.fh,j,g,q m L _ c<|.int _]
end L2
namespace L2
def CC:TE:=λ_ _ _=>False
def Wz : PE X e CC:=λ_ _ _ _ _ _ h=>h.elim
section
variable {k:Nat}{r:R2}{Ψ:OT->Zcs->Prop}
def A3{s:TE->TS}(hw:EvW K te Z i Θ)(j:∀(H0 F:Hp) (O:St) (H:Hp) (f:Ends),QL K H0 F Z O H->(∀Q:VK,(∀n L,s (tC<|.int n) f O L->Q (.int n) L)->te O H Q)->s te f O H)
(hn:∀n o,Θ n o->EvR K (s<|tC<|.int n) (Z.set i<|some o) Ψ):EvR K (s te) Z Ψ:=λF0 H0 F O H f x S c=>
 j H0 F O H f S λQ k=>hw F0 H0 F O H Q x S λq U n o g h _ m=>k n U (hn n o g F0 H0 q O U f h m c)
def Dn(hw:EvW K te Z i Θ)(hn:∀n o,Θ n o->dx.nx ((Z.set i<|some o).set j (zi n))):QE K (V2 te<|Yb j) Z dx:=
 Bq (s:=λx=>V2 x _) hw (λ_ _ _ _ _ _ h=>h _ λ_ _ q=>q) λn o h=>Z3 Qx (hn n o h)
def LM(hw:EvW K te Z i Θ)(hn:∀n o,Θ n o->QE K (V2 (tOp r (tC c)<|tC<|.int n)<|Yb j) (Z.set i<|some o) dx):QE K (V2 (tOp r (tC c) te)<|Yb j) Z dx:=
 Bq (s:=λx=>V2 _ _) hw (λ_ _ _ _ _ _ h=>h _ λ_ _ q=>q) hn
def LO(B:zg Z k<|zf d)(hw:EvW K te Z i Θ)(hn:∀n o,Θ n o->QE K (V2 (tOp r (QF k)<|tC<|.int n)<|Yb j) (Z.set i<|some o) dx):QE K (V2 (tOp r (QF k) te)<|Yb j) Z dx:=
 Bq (s:=λx=>V2 _ _) hw (λH0 F O H A S h=>by
  obtain⟨C,g,_⟩:=S.fp;obtain⟨y,f,_⟩:=g k _ B;exact#[y,f,h _<|by rintro n L ⟨m,c,q⟩;rw[f]at c;cases c;exact q]) hn
def Ij{g:TG}{b:TS}(hw:EvW K te Z i Θ)(hn:∀n o,Θ n o->QE K (UU (Bh<|QM (tOp r (tC c)<|tC<|.int n) QT) g b) (Z.set i<|some o) dx):QE K (UU (Bh<|QM (tOp r (tC c) te) QT) g b) Z dx:=
 Bq (s:=λx=>UU (Bh<|QM _ QT) g b) hw (λ_ _ _ _ _ _ h=>h _ λ_ _ q=>q) hn
def IG{b:Nat}(M:Z[b]?=some (some<|.ol ds))(E:zg Z k<|zf d)(hw:EvW K te Z i Θ)
(hn:∀n o,Θ n o->QE K (Vm<|tBM K "list" Wb (QF b)<|QM (tOp r (QF k)<|tCB r2<|QM (tOp r3 (tC<|.int n)<|tC c) QT) QT) (Z.set i<|some o) dx):
 QE K (Vm<|tBM K "list" Wb (QF b)<|QM (tOp r (QF k)<|tCB r2<|QM (tOp r3 te<|tC c) QT) QT) Z dx:=
 Bq (s:=λx=>Vm<|tBM K "list" Wb _<|QM (tOp r _<|tCB r2<|QM (tOp r3 x _) QT) QT) hw (λH0 F O H B S h=>by
  obtain⟨X,g,_⟩:=S.fp;obtain⟨A,y,_⟩:=g k _ E;obtain⟨u,m,a,rfl,_,_,xs,C,_⟩:=g b _ M;refine#[.ref a,m,.inl #[rfl,_,SqL.of C],A,y,h _ λn L ⟨W,j,_,P,f,q⟩=>?_];rw[m]at j;cases j;rw[y]at f;cases f;exact q) hn
def Io(e1:zg Z a1<|zf d1)(X:zg Z a2<|zf d2)(W:zg Z a3<|zf d3)(P:zg Z a4<|zf d4)(hw:EvW K te Z i Θ)
(hn:∀n o,Θ n o->EvR K (VU<|Ut<|QM (QF a1)<|QM (QF a2)<|QM (QF a3)<|QM (QF a4)<|QM (tOp r (tC c)<|tC<|.int n) QT) (Z.set i<|some o) Ψ):
 EvR K (VU<|Ut<|QM (QF a1)<|QM (QF a2)<|QM (QF a3)<|QM (QF a4)<|QM (tOp r (tC c) te) QT) Z Ψ:=
 A3 (s:=λx=>VU<|Ut<|QM _<|QM _<|QM _<|QM _<|QM _ QT) hw (λH0 F O H M S h=>by
  obtain⟨e,g,_⟩:=S.fp;obtain⟨E,y,_⟩:=g a1 _ e1;obtain⟨C,m,_⟩:=g a2 _ X;obtain⟨B,k,_⟩:=g a3 _ W;obtain⟨A,j,_⟩:=g a4 _ P;refine#[E,y,C,m,B,k,A,j,h _ λn L ⟨d,k1,b,k2,a,k3,Y,f,q⟩=>?_];rw[y]at k1;cases k1;rw[m]at k2;cases k2;rw[k]at k3;cases k3;rw[j]at f;cases f;exact q) hn
end
end L2
namespace L2
def Cc(h:Zu K ta Z Φ1)(w:Zp K t Z ts)(y:∀r,Φ1 r->∃ds Ψ,r=.ol ds/\R ds ts Ψ/\∀r A,Ψ r A->Φ r):
 Zu K (Ve (spP K olP R) [] E'<|QM ta t) Z Φ:=λH0 F O H Q S q=>
 h H0 F O H _ S λG L u p W s B n e=>by
  obtain⟨ds,Ψ,rfl,y,v⟩:=y W s;refine w H0 G O L _ (S.ext B) λD T C i P=>?_;have m:=e.ext i;obtain⟨a,rfl,rfl,Y⟩:=m;have c:=B.trans i;have N:=n a Xb;refine#[D,.ref a,C++[],[a],ts,ds,Ψ,rfl,(S.ext c).kt,i.fh,by rw[Xw];exact P,#[a,rfl,rfl,Y],y,λI U J x E r X k g d M j l=>?_];refine q I U E X r (v r x k) #[λb o f=>?_,c.ff.trans g.ff,g.fh,λb f=>?_] (λb f=>?_) j
  .refine g.hh b o (λz=>?_) (c.hh b o f)
   grind
  .rcases g.fr b f with z|z|z
   .exact c.fr b z
   .exact .inr (c.hh.free z)
   .grind
  .rcases(l b f).1 with z|z
   .grind
   .exact c.hh.free z
end L2
namespace L2
def EE(e:Z[i]?=some (some<|.ol ds))(h:Zu K te Z Φ)(Y:ds.length<1000)(hn:∀r,Φ r->∃d,r=.fz d/\dx.nx (Z.set i<|some<|.ol<|ds++[d])):
 QE K (Vm<|tBM K "list" Wb (QF i)<|QM te QT) Z dx:=λF0 H0 F O H s x S c=>by
 obtain⟨a,xs,q,P,b,_⟩:=S.write e;refine#[_,q,.inl #[rfl,_,SqL.of P],h H0 F O H _ S λW L u p r A g X y=>?_];obtain⟨d,rfl,hn⟩:=hn r A;obtain⟨k,f,m,M,j,E,C,B⟩:=(S.ext g).write e;rw[q]at m;cases m;refine#[a,f,u,rfl,rfl,M,by rw[j.length];exact V7<|#[],?_];exact c.nx W O _ _ ((x.trans g).wr E C) (B _ _<|j.snoc y.2) hn
section
variable {w:World}{base:Heap}
def Mf.evP{i:Type}{Φ:i->OwnP}{st:Stmt}{Y:Qh}{k:Nat}{R:i->List OT->(OT->i->Prop)->Prop}(dx:Mf K C m qual st ps)(S:Qo Y ps (Q3 st))(E:∀M ts Ψ,R M ts Ψ->ts.length+1=ps.length)
(j:∀(f:Addr) (g:Value) (A:Around) (outer:List Env) (s:Shared) (H:Hp) (c:XK) (v:V) (M:i) (ts:List OT) (Ψ:OT->i->Prop),Room k (A.deeper<|envOfC qual (Q3 st) s.heap.objs.size f g)->R M ts Ψ->
  ∃t,PSs (Jg CX0 P w K mg base Y qual (Q3 st) f g A outer s H c).nox (VS st) t/\EvR K t (zr Y<|(.own v<|Φ M)::ts) (λr y=>∃a,Ψ r a/\y[0]?=some (zo v<|Φ a))):Z5 P w K mg base C m ps (k+1) (spP K Φ R):=by
 obtain⟨f,fd,F,u,x⟩:=dx.ex;refine#[f,fd,u,x,F.ok S (λb H Q c h=>?_) λb H Q c h g A outer s o=>?_]
 .obtain⟨F,Z,B,p,ts,M,Ψ,e,_,_,W,_,X,_⟩:=h;rw[e,XT,W.length];exact E _ _ _ X
 .obtain⟨F,Z,B,p,ts,M,Ψ,e,n,d,W,l,X,q⟩:=h;subst e;obtain⟨t,D,z⟩:=j f g A outer s H c Z M ts Ψ o X;exact#[t,D,Dd (R:=R) z n d W l q]
end
end L2
namespace L2
def Vi:bootBuiltins "str"=some (.type "str"):=by decide +kernel
def Bm:List V->Hp->VK->Prop:=λxs H Q=>(∃i:Int,xs=[.int i]/\i.natAbs.log2<1920/\Q (.str<|toString i) H)\/(∃x,xs=[.str x]/\Q (.str x) H)\/(xs=[.non]/\Q (.str "None") H)
def V5:ZE X (.type "str") Bm:=by
 intro Y s O H xs g Q I r h;rcases h with ⟨i,rfl,f,q⟩|⟨x,rfl,q⟩|⟨rfl,q⟩
 .obtain⟨u,rfl,t,rfl⟩:=VL r;exact PySem.P.str_of_int f #[.str _,H,I.tok _,#[_,rfl],q]
 .obtain⟨u,rfl,t,rfl⟩:=VL r;exact PySem.P.str_of_str #[.str _,H,I,#[_,rfl],q]
 .obtain⟨u,rfl,c⟩:=VL r;cases c;exact PySem.P.str_of_none #[.str _,H,I.tok _,#[_,rfl],q]
def SG:R2:=λx y H Q=>∃i j,x=.str i/\y=.str j/\i.length+j.length<=sizeLine/\Q (.str<|i++j) H
def VE:OpR X (binaryOp .Add) SG:=ZnW
def Pl:V->List V->Hp->VK->Prop:=λx c H Q=>∃(z:Str) (b:Addr) (ys:Qh),x=.str z/\c=[.ref b]/\H b=some (.lst<|ys.map V.str)/\(ys.map (·.length)).sum+ys.length*z.length<=16777216/\Q (.str<|Str.join z ys) H
theorem Fg:∀{ys:Qh} {us:Qe},Za (ys.map V.str) us->StrsAre us ys
 |[],_,.nil=>.nil
 |_::_,_,.cons #[_,e] r=>by subst e;exact .cons _ _ (Fg r)
def G0:MtR X "str.join" Pl:=by
 intro Y s O H x xs v A Q I f g h;obtain⟨z,b,ys,rfl,rfl,y,m,q⟩:=h;obtain⟨t,rfl⟩:=f;obtain⟨u,rfl,i⟩:=g.one;cases i;obtain⟨j,c,p,C⟩:=I.list (SqL.of y);refine join_list p.isList (Fg c) m λB k=>?_;rw[show Txt.join z ys=Str.join z ys from StrLaws.glued_eq_join z ys];exact#[.str _,H,I.tok _,#[_,rfl],q]
section
variable {tb:TE}
def Wp{i:Int}(h:Qq K ta Z (.int i))(g:i.natAbs.log2<1920):Qq K (tCB Bm<|QM ta QT) Z (.str<|toString i):=λH0 F O H Q S q=>
 h H0 F O H _ S λj L v c f=>by cases f;exact .inl #[i,rfl,g,q j L _ c<|.str _]
def Iq(h:Qq K ta Z (.str x)):Qq K (tCB Bm<|QM ta QT) Z (.str x):=λH0 F O H Q S q=>
 h H0 F O H _ S λg L v c f=>by cases f;exact .inr (.inl #[x,rfl,q g L _ c<|.str _])
def VF{y:Str}(i:Qq K ta Z (.str x))(h:Qq K tb Z (.str y))(g:x.length+y.length<=sizeLine):Qq K (tOp SG ta tb) Z (.str<|x++y):=λH0 F O H Q S q=>
 YF i h S λj U u v e f c=>by
  cases f;cases c;exact#[x,y,rfl,rfl,g,q j U _ e<|.str _]
theorem Fp{H:Hp}:∀{vs:List V} {l:Qh},Q0 H vs (l.map PyData.str)->vs=l.map V.str
 |_,[],.nil=>rfl
 |_,i::l,.cons (.str _) t=>by rw[Xv,Fp t]
def G1{ys:Qh}(m:Qq K ta Z (.str z))(j:Qq K tb Z (.list<|ys.map PyData.str))(i:(ys.map (·.length)).sum+ys.length*z.length<=16777216):Qq K (tBM K "str" Pl ta<|QM tb QT) Z (.str<|Str.join z ys):=λH0 F O H Q S q=>
 m H0 F O H _ S λC L v f h=>by
  cases h;refine#[rfl,j H0 C O L _ (S.ext f) λB A w c g=>?_];obtain⟨a,xs,rfl,E,y,s⟩:=Jz (K:=K) g c.fh;have e:=Fp y;subst e;exact#[z,a,ys,rfl,rfl,s,i,q B A _ (f.trans c)<|.str _]
def P8(j:QN K t Z b)(s:b=true->Qq K ta Z d)(m:b=false->Qq K tb Z d):Qq K (tIf t ta tb) Z d:=λH0 F O H Q S q=>
 j H0 F O H _ S λi L c=>by
  cases b with
  |true=>exact s rfl H0 i O L Q (S.ext c) λh g v f r=>q h g v (c.trans f) r
  |false=>exact m rfl H0 i O L Q (S.ext c) λh g v f r=>q h g v (c.trans f) r
end
end L2
namespace L2
theorem Ts{c:Nat}:∀{p q r s:Qk},c∉p->c∉q->p++c::r=q++c::s->p=q/\r=s
 |[],[],r,s,_,_,h=>by simpa using h
 |[],b::q,r,s,_,f,h=>by
  simp at h f;exact Xu h.1 f.1
 |a::p,[],r,s,g,_,h=>by
  simp at h g;exact Xu h.1.symm g.1
 |a::p,b::q,r,s,g,f,h=>by
  simp only[J4,List.cons.injEq]at h;obtain⟨rfl,h⟩:=h;obtain⟨j,i⟩:=Ts (λz=>g<|Xe _ z) (λz=>f<|Xe _ z) h;exact#[by rw[j],i]
def B8(a b:Str):(a++b).cps.toList=a.cps.toList++b.cps.toList:=by rw[Str.cps_append];simp
def Le{a b:Str}(h:a.cps.toList=b.cps.toList):a=b:=by
 cases a;cases b
 congr 1
 exact Array.toList_inj.mp h
def M3(c:Nat)(p q:Str)(r:Qh):(Str.join #[(List.toArray [c])] (p::q::r)).cps.toList=p.cps.toList++c::(Str.join #[(List.toArray [c])] (q::r)).cps.toList:=by
 show(p++(#[(List.toArray [c])]:Str)++Str.join #[(List.toArray [c])] (q::r)).cps.toList=_
 rw[B8,B8];simp
theorem Ls{c:Nat}:∀(ps f:Qh),ps≠[]->f≠[]->(∀p∈ps,c∉p.cps.toList)->(∀p∈f,c∉p.cps.toList)->(Str.join #[(List.toArray [c])] ps).cps.toList=(Str.join #[(List.toArray [c])] f).cps.toList->ps=f
 |[],_,h,_,_,_,_=>Xu rfl h
 |_::_,[],_,h,_,_,_=>Xu rfl h
 |[p],[q],_,_,_,_,h=>by rw[Le (a:=p) (b:=q) h]
 |[p],q::j::f,_,_,i,_,h=>by
  rw[M3]at h;have h':p.cps.toList=q.cps.toList++c::(Str.join #[(List.toArray [c])] (j::f)).cps.toList:=h;exact Xu (by rw[h'];simp) (i p Xb)
 |p::m::ps,[q],_,_,_,g,h=>by
  rw[M3]at h;have h':p.cps.toList++c::(Str.join #[(List.toArray [c])] (m::ps)).cps.toList=q.cps.toList:=h;exact Xu (by rw[<- h'];simp) (g q Xb)
 |p::m::ps,q::j::f,_,_,i,g,h=>by
  rw[M3,M3]at h;obtain⟨A,y⟩:=Ts (i p Xb) (g q Xb) h;rw[Le A,Ls (m::ps) (j::f) (by simp) (by simp) (λz s=>i z<|Xe _ s) (λz s=>g z<|Xe _ s) y]
def OW(x y:Str):Txt.split x y≠[]:=by
 unfold Txt.split;split
 .simp
 .split
  .simp
  .rw[StrLaws.partsBetween_eq];obtain⟨p,r,e⟩:=StrLaws.partsFrom_ne x y.length 0 (Builtin.Str.occurrences x y 0 x.length<|x.length+1);rw[e];simp
def Dw{c:Nat}(f:ps≠[])(g:∀p∈ps,c∉p.cps.toList):Txt.split (Str.join #[(List.toArray [c])] ps) #[(List.toArray [c])]=ps:=
 Ls _ _ (OW _ _) f (StrLaws.split_free _ c) g (by rw[StrLaws.join_split])
def Tj:V->List V->Hp->VK->Prop:=λx c H Q=>∃z y:Str,x=.str z/\c=[.str y]/\(y.length==0)=false/\z.length+2<=sizeLine/\∀p,H p=none->Q (.ref p) (upd H p<|.lst<|(Txt.split z y).map V.str)
theorem Cj:∀(l:List (Str×Tok)),Za ((l.map (·.1)).map V.str) (strValues l)
 |[]=>.nil
 |p::l=>.cons #[p.2,rfl] (Cj l)
def UJ:MtR X "str.split" Tj:=by
 intro Y s O H x xs v M Q I A B h;obtain⟨z,y,rfl,rfl,j,W,q⟩:=h;obtain⟨t,rfl⟩:=A;obtain⟨u,rfl,i,rfl⟩:=B.one;have C:1<=y.length:=by
  have:y.length≠0:=by simpa using j
  lia
 have m:=split_weight z y C;have c:∀(l:List (Str×Tok)) (k:Nat),l.map (·.1)=Txt.split z y->EP X Y O Q (.ref s.heap.objs.size) { s with heap:=s.heap.push { cls:=.type "list",data:=.seq (strValues l).toArray },toks:=k }:=λl k e=>by
  refine#[.ref s.heap.objs.size,_,I.laid (t':=k) (λb P K=>Xd _ K) (Xn _) (show ZT X.prog X.w _ _ _ (.lst<|(Txt.split z y).map V.str) from#[?_,strValues l,0,?_,Xt _ rfl]),rfl,q _<|I.hok.fresh<|Xn _]
  .rw[Xf];lia
  .rw[<- e];exact Cj l
 have E:(Builtin.Str.partsBetween z (Builtin.Str.occurrences z y 0 z.length<|z.length+1) y.length).length<=sizeLine:=by
  have Z:=StrLaws.occ_length_le z y 0 z.length (z.length+1);rw[length_partsBetween];lia
 cases f:(decide (z.length<y.length)||decide (Builtin.Str.strKind z<Builtin.Str.strKind y))
 .cases g:(Builtin.Str.occurrences z y 0 z.length<|z.length+1).isEmpty
  .refine call_meets F.slot_str_split (typeIs_str _ _ _) F.entry_str_split (F.args_str_split_2 _ _) (meets_str_split_sep z y t i f j g #[] E) ?_;show wants _ _ _ { s with toks:=_,heap:=s.heap.push { cls:=.type "list",data:=.seq (strsFrom s.toks<|Builtin.Str.partsBetween z (Builtin.Str.occurrences z y 0 z.length<|z.length+1) y.length).toArray } };rw[strsFrom_eq];exact c (numbered s.toks _) _ ((numbered_texts _ _).trans ((Xg<|ne_true_of_eq_false f).trans (Xg<|ne_true_of_eq_false g)).symm)
  .exact call_meets F.slot_str_split (typeIs_str _ _ _) F.entry_str_split (F.args_str_split_2 _ _) (meets_str_split_not_found z y t i f j g)
    (c [(z,t)] s.toks ((Xg<|ne_true_of_eq_false f).trans (Xi g)).symm)
 .exact call_meets F.slot_str_split (typeIs_str _ _ _) F.entry_str_split (F.args_str_split_2 _ _) (meets_str_split_cannot_occur z y t i f)
   (c [(z,t)] s.toks (Xi f).symm)
def Its(x:Str):It:=#[λi _=>i<x.cps.size,λi H v U=>U=H/\∃c,x.cps[i]?=some c/\v=.str #[(List.toArray [c])],λi _=>x.cps.size<=i]
theorem O2   (x:Str)(t:Tok)(it:Addr):Turn P w K tg (Its x) [it] it (λi h=>h.IsStrIter it "str_ascii_iterator" x t i) where
 mem:=by simp
 obj:=λi h f b g=>by
  have e:b=it:=by simpa using g
  subst e;obtain⟨o,e,c,d⟩:=f;exact#[o,e,λv z=>by rw[d]at z;cases z]
 keep:=λi h h' f k=>by
  obtain⟨o,e,r⟩:=f;exact#[o,k it (by simp) o e,r]
 item:=by
  intro X A y B Z i Y s O H q I m f hg;subst A y B;have hg:i<x.cps.size:=hg;obtain⟨f0,W,l,M,E,C⟩:=m it (by simp);refine wpAny_pyNext_ascii_item f (c:=x.cps[i]) (by simp[hg]) λh' j a=>?_;have p:Qt X Y O H { s with heap:=h',toks:=s.toks+1 }:=I.turned (t':=s.toks+1) (λb o g e=>(a.2 b g).trans e) f0 W M E C;obtain⟨o,e,c,d⟩:=id j
  exact#[_,rfl,Bi (s:={ s with heap:=h',toks:=s.toks+1 }) e c d (by decide) #[.str #[(List.toArray [x.cps[i]])],H,p,#[_,rfl],#[rfl,_,by simp[hg],rfl],j,λb g=>(m b g).1]]
 done:=by
  intro X A y B Z i Y s O H q I m f hg;subst A y B;have hg:x.cps.size<=i:=hg;obtain⟨f0,W,l,M,E,C⟩:=m it (by simp);exact wpAny_pyNext_ascii_end (I.ok.hd Z) f (by simp[hg]) λh' n=>#[rfl,I.turned (t':=s.toks) (λb o g e=>n b o g e) f0 W M E C]
 self:=λ_ _ _ _ _ f h=>wpAny_pyIter_striter_ascii f h
def RQ(c:TE):TI:=λO H R=>c O H λx L=>∃z:Str,x=.str z/\z.cps.all (· < 128)=true/\R (Its z) L
def CT(j:PE X l tl):PI X tg l (RQ tl):=by
 intro Y s O H R I h;refine Q8 (j Y s O H _ I h) ?_;rintro v c ⟨x,L,f,g,i⟩;obtain⟨z,e,y,q⟩:=i;subst e;obtain⟨t,rfl⟩:=g;refine wpAny_pyIter_ascii y ?_;refine#[c.heap.objs.size,[c.heap.objs.size],_,_,L,rfl,f.kept (t':=c.toks) λb o e=>Xd _ e,O2 z t _,#[_,Xt _ rfl,rfl,rfl],λb m=>?_,q];have e:b=c.heap.objs.size:=by simpa using m
 subst e;exact f.fpOk (Xn _) (f.hok.fresh<|Xn _)
def SO:List V->Hp->VK->Prop:=λxs H Q=>∃(x:Str) (n:Int),xs=[.str x]/\PySem.intText? x=some n/\x.length<=640/\Q (.int n) H
def KG:ZE X (.type "int") SO:=by
 intro Y s O H xs g Q I r h;obtain⟨x,n,rfl,c,f,q⟩:=h;obtain⟨u,rfl,t,rfl⟩:=VL r;exact W.KIN.call_text c f #[.int n,H,I.tok _,#[_,rfl],q]
def SB:List V->Hp->VK->Prop:=λxs H Q=>∃z:Str,xs=[.str z]/\z.length<=sizeLine/\Q (.int z.length) H
def EG:ZE X (.builtin "len") SB:=ZjT
def Sn:R2:=λx y H Q=>∃i j:Str,x=.str i/\y=.str j/\Q (.bl<|!(Builtin.Str.occurrences j i 0 j.length 1).isEmpty) H
def AC:OpR X (compareOp .In) Sn:=ZoI
section
variable {tb:TE}
def AI(h:Qq K ta Z (.str z))(B:z.cps.all (· < 128)=true):EvI K (RQ ta) Z (z.cps.toList.map λc=>PyData.str #[(List.toArray [c])]):=λH0 F O H R S q=>
 h H0 F O H _ S λM L v g m=>by
  cases m;refine#[z,rfl,B,q M L _ g λE X P j=>?_];refine#[(by simp:(List.map (λc=>PyData.str #[(List.toArray [c])]) z.cps.toList).length>=z.cps.size),λi d e=>?_];have f:i<z.cps.size:=by
   have:=(Xh.mp e).1;simpa using this
  obtain rfl:d=.str #[(List.toArray [z.cps[i]])]:=by simpa [f] using e.symm
  refine#[f,λy W s=>?_];obtain⟨rfl,c,A,rfl⟩:=s;have C:c=z.cps[i]:=by simpa [f] using A.symm
  subst C;exact#[E,Q5.refl j,.str _]
def K2(h:Qq K ta Z (.str x))(hn:PySem.intText? x=some n)(g:x.length<=640):Qq K (tCB SO<|QM ta QT) Z (.int n):=λH0 F O H Q S q=>
 h H0 F O H _ S λi L v c f=>by cases f;exact#[x,n,rfl,hn,g,q i L _ c<|.int _]
def LW(h:Qq K ta Z (.str x))(g:x.length<=sizeLine):Qq K (tCB SB<|QM ta QT) Z (.int x.length):=λH0 F O H Q S q=>
 h H0 F O H _ S λi L v c f=>by cases f;exact#[x,rfl,g,q i L _ c<|.int _]
def Ar{y:Str}(h:Qq K ta Z (.str x))(g:Qq K tb Z (.str y)):Qq K (tOp Sn ta tb) Z (.bool<|!(Builtin.Str.occurrences y x 0 y.length 1).isEmpty):=λH0 F O H Q S q=>
 YF h g S λi U u v e f c=>by
  cases f;cases c;exact#[x,y,rfl,rfl,q i U _ e<|.bl _]
def L4{c:Nat}(m:Qq K ta Z (.str x))(j:Qq K tb Z (.int k))(h:x.length<=sizeLine)(i:atI x.cps.toList k=some c):Qq K (tOp Hz ta tb) Z (.str #[(List.toArray [c])]):=λH0 F O H Q S q=>
 YF m j S λs U u v e g f=>by
  cases g;cases f;exact#[x,k,c,rfl,rfl,h,i,q s U _ e<|.str _]
theorem LZ{H:Hp}:∀(l:Qh),Q0 H (l.map V.str) (l.map PyData.str)
 |[]=>.nil
 |_::l=>.cons (.str _) (LZ l)
def G9{y:Str}(E:Qq K ta Z (.str x))(C:Qq K tb Z (.str y))(s:(y.length==0)=false)(B:x.length+2<=sizeLine):EvO K (tBM K "str" Tj ta<|QM tb QT) Z (.ol<|(Txt.split x y).map PyData.str):=λH0 F O H Q S q=>
 E H0 F O H _ S λP L v c m=>by
  cases m;refine#[rfl,C H0 P O L _ (S.ext c) λM W w i j=>?_];cases j;refine#[x,y,rfl,rfl,s,B,λp A=>?_];obtain⟨h,g,f⟩:=BC (K:=K) (c.trans i) A (LZ (H:=M)<|Txt.split x y);exact q _ _ _ _ h g f
end
end L2
namespace L2
section
variable {w:World}{pos:Qb}
def ZnH{en un:Addr}{x g:Value}{J:Heap->Prop}{Q:Qb}(t:IsEnum s.heap en un i g)(n:en≠un)
(E:∀{R:Qb},(∀W,J W->Heap.SameBut un s.heap W->R x { s with heap:=W })->wpAny (model prog w) A (Builtin.SmallTypes.nextOf<|.ref un) R pos s)
(y:∀W m,(∀o,W.get? un=some o->m.get? un=some o)->J W->J m)
(fin:∀m,IsEnumOut m en un ((i:Int)+1) x s.heap.objs.size->J m->m.get? s.heap.objs.size=some { cls:=.type "tuple",data:=.seq (List.toArray [.int i s.toks,x]) }->m.objs.size=s.heap.objs.size+1->
  (∀b o,b≠en->b≠un->s.heap.get? b=some o->m.get? b=some o)->Q (.ref s.heap.objs.size) { s with heap:=m,toks:=s.toks+1 }):
 wpAny (model prog w) A (Builtin.«enumerate.__next__» #[[.ref en],[]]) (λf T=>∃v,f=.done (.ret v)/\Q v T) pos s:=by
 obtain⟨j,C,dd,c,B⟩:=s;show wpAny _ _ (field (.ref en) 2 >>= _) _ _ _;refine Xa (YN t rfl (x:=.ref un) rfl (Xa<|E λk1 S P=>?_));replace P:Heap.SameBut un j k1:=P;have l:IsEnum k1 en un i g:=(P.2 en n).trans t;show wpAny _ _ (field (.ref en) 3 >>= _) _ _ #[k1,C,dd,c,B];refine Xa (YN l rfl (x:=rawInt i) rfl ?_);show wpAny _ _ (field (.ref en) 4 >>= _) _ _ #[k1,C,dd,c,B];refine Xa (YN l rfl (x:=.none) rfl ?_);show wpAny _ _ (mkInt i >>= _) _ _ #[k1,C,dd,c,B];refine Xa (wpAny_mkInt (?_:_));show wpAny _ _ (setField (.ref en) 3 (rawInt<|(i:Int)+1) >>= _) _ _ #[k1,C,dd,c+1,B];refine Xa (Me l (by simp) λk2 k M=>?_);replace M:Heap.SameBut en k1 k2:=M;replace k:IsEnum k2 en un ((i:Int)+1) g:=k;show wpAny _ _ (setField (.ref en) 4 .none >>= _) _ _ #[k2,C,dd,c+1,B];refine Xa (Me k (by simp) λk3 e K=>?_);replace K:Heap.SameBut en k2 k3:=K;replace e:IsEnum k3 en un ((i:Int)+1) g:=e;show wpAny _ _ (newTuple [.int i c,x] >>= _) _ _ #[k3,C,dd,c+1,B];refine Xa (wpAny_newTuple (?_:_));have d:IsEnum (k3.push { cls:=.type "tuple",data:=.seq (List.toArray [.int i c,x]) }) en un ((i:Int)+1) g:=Xd _ e;have X:k3.objs.size=j.objs.size:=by rw[K.1,M.1,P.1]
 have U:en<j.objs.size:=Xk t;have I:(k3.push { cls:=.type "tuple",data:=.seq (List.toArray [.int i c,x]) }).get? j.objs.size=some { cls:=.type "tuple",data:=.seq (List.toArray [.int i c,x]) }:=by rw[<- X];exact Xt _ rfl
 have H:(k3.push { cls:=.type "tuple",data:=.seq (List.toArray [.int i c,x]) }).objs.size=j.objs.size+1:=by rw[X9,X]
 have L:∀b o,b≠en->b≠un->j.get? b=some o->(k3.push { cls:=.type "tuple",data:=.seq (List.toArray [.int i c,x]) }).get? b=some o:=λb o h F q=>
  Xd _ (K.extBut b o h<|M.extBut b o h<|P.extBut b o F q)
 have O:J (k3.push { cls:=.type "tuple",data:=.seq (List.toArray [.int i c,x]) }):=y _ _ (λo q=>Xd _<|K.extBut un o (Ne.symm n)<|M.extBut un o (Ne.symm n) q) S;show wpAny _ _ (Builtin.SmallTypes.ownedTupleIsFree (.ref en) >>= _) _ _ #[k3.push { cls:=.type "tuple",data:=.seq (List.toArray [.int i c,x]) },C,dd,c+1,B];rw[X];generalize k3.push { cls:=.type "tuple",data:=.seq (List.toArray [.int i c,x]) }=N at d I H L O;clear e K k M l P S X k3 k2 k1;refine Xa ?_;unfold Builtin.SmallTypes.ownedTupleIsFree;refine Xa (YN d rfl (x:=.none) rfl (Xm ?_));simp only[if_true];refine Xa (wpAny_rule<|Xa<|YN d rfl (x:=g) rfl (Xa<|Me d (by simp) λk5 D a=>?_));replace a:Heap.SameBut en N k5:=a;replace D:IsEnum k5 en un ((i:Int)+1) x:=D;show wpAny _ _ (Builtin.SmallTypes.ownedTupleHandOut (.ref en) (.ref j.objs.size) >>= _) _ _ #[k5,C,dd,c+1,B];refine Xa ?_;unfold Builtin.SmallTypes.ownedTupleHandOut;refine Xa (Me D (by simp) λG z Z=>?_);replace Z:Heap.SameBut en k5 G:=Z;replace z:IsEnumOut G en un ((i:Int)+1) x j.objs.size:=z;refine Me z (by simp) λp u Y=>?_;replace Y:Heap.SameBut en G p:=Y;replace u:IsEnumOut p en un ((i:Int)+1) x j.objs.size:=u;have r:∀b o,b≠en->N.get? b=some o->p.get? b=some o:=λb o h q=>Y.extBut b o h (Z.extBut b o h<|a.extBut b o h q);refine Xa (wpAny_letGo<|Xm #[_,rfl,fin p u (y _ _ (λo q=>r un o (Ne.symm n) q) O) (r _ _ (X8 U) I) (by rw[Y.1,Z.1,a.1,H]) λb o h F q=>r b o h<|L b o h F q])
def ZnO(g:s.heap.IsTupleIter un t i)(q:s.heap.IsTuple t items)(m:items[i]?=some x)
(fin:∀j,j.IsTupleIter un t (i+1)->Heap.SameBut un s.heap j->Q x { s with heap:=j }):wpAny (model prog w) A (Builtin.SmallTypes.nextOf<|.ref un) Q pos s:=by
 obtain⟨o,f,B,c⟩:=id g;obtain⟨C,h,_,nt,y⟩:=q;unfold Builtin.SmallTypes.nextOf;refine Xa (wpAny_callSpecial?_slot (name:=Str.ofString "__next__") g.typeIs F.slot_tuple_iterator_next<|wpAny_call_entry F.slot_tuple_iterator_next g.typeIs F.entry_tuple_iterator_next ?_<|F.args_tuple_iterator_next_1 _);show wpAny _ _ (field (.ref un) 0 >>= _) _ _ s;refine Xa (YN f c (x:=.ref t) rfl ?_);show wpAny _ _ (if (Value.ref t==Value.none)=true then _ else _) _ _ s;refine(show(Value.ref t==Value.none)=false from rfl)▸?_;show wpAny _ _ (field (.ref un) 1 >>= _) _ _ s;refine Xa (YN f c (x:=.int i 0) rfl ?_);show wpAny _ _ (seqItems? (.ref t) >>= _) _ _ s;refine Xa (wpAny_seqItems h y ?_);simp only[X5,m];refine Xa (wpAny_setField f c (by simp)<|Xm #[x,rfl,Xm<|fin _ #[_,Ja _ f<|Obj.isFreed_of_fields<|Obj.data_mapFields c _,(Obj.cls_mapFields ..).trans B,?_]<|Heap.SameBut.update ..]);rw[Obj.data_mapFields c];simp[rawInt]
def Zqr(q:A.handled=none)(c:s.heap.IsTupleIter un t i)(B:s.heap.IsTuple t items)(y:items[i]?=none)
(fin:∀h e,Heap.ExtBut un s.heap h->(∃o,h.get? e=some o/\o.cls=.type "StopIteration")->pos (.ref e) { s with heap:=h }):wpAny (model prog w) A (Builtin.SmallTypes.nextOf<|.ref un) Q pos s:=by
 obtain⟨o,g,K,j⟩:=id c;obtain⟨E,f,_,nt,C⟩:=B;unfold Builtin.SmallTypes.nextOf;refine Xa (wpAny_callSpecial?_slot (name:=Str.ofString "__next__") c.typeIs F.slot_tuple_iterator_next<|wpAny_call_entry F.slot_tuple_iterator_next c.typeIs F.entry_tuple_iterator_next ?_<|F.args_tuple_iterator_next_1 _);show wpAny _ _ (field (.ref un) 0 >>= _) _ _ s;refine Xa (YN g j (x:=.ref t) rfl ?_);show wpAny _ _ (if (Value.ref t==Value.none)=true then _ else _) _ _ s;refine(show(Value.ref t==Value.none)=false from rfl)▸?_;show wpAny _ _ (field (.ref un) 1 >>= _) _ _ s;refine Xa (YN g j (x:=.int i 0) rfl ?_);show wpAny _ _ (seqItems? (.ref t) >>= _) _ _ s;refine Xa (wpAny_seqItems f C ?_);simp only[X5,y];refine Xa (wpAny_rule<|Xa<|wpAny_setField g j (by simp) (?_:_));show wpAny _ _ (newExc (.type "StopIteration") [] >>= _) _ _ _;refine Xa (?_:_);simp only[newExc,newTuple];refine Xa (wpAny_newObj_type (?_:_)<|by size_fits);refine Xa (m:=firstArgMember _ _) (wpAny_of_eq (a:=Value.none) (by first|rfl|(simp only[firstArgMember];rfl)) (?_:_));refine wpAny_newObj_type (?_:_) (by size_fits);simp only[raiseNew];refine Xa (wpAny_handled (?_:_))
 first|rw[show A.in1.handled=none from q]|rw[q]
 refine Xa (Xm<|wpAny_throw<|fin _ _ (((Heap.SameBut.update ..).extBut.push _).push _) #[_,Xt _ rfl,rfl])
def ZsA(m:IsEnum s.heap en un i old)(E:s.heap.IsTupleIter un t i)(K:s.heap.IsTuple t items)(C:items[i]?=some x)(B:en≠un)
(fin:∀f,IsEnumOut f en un ((i:Int)+1) x s.heap.objs.size->f.IsTupleIter un t (i+1)->f.get? s.heap.objs.size=some { cls:=.type "tuple",data:=.seq (List.toArray [.int i s.toks,x]) }->f.objs.size=s.heap.objs.size+1->
  (∀b o,b≠en->b≠un->s.heap.get? b=some o->f.get? b=some o)->Q (some<|.ref s.heap.objs.size) { s with heap:=f,toks:=s.toks+1 }):wpAny (model prog w) A (pyNext<|.ref en) Q pos s:=by
 have g:s.TypeIs (.ref en) "enumerate" := #[_,m,rfl];unfold pyNext;refine Xa (wpAny_attempt<|wpAny_callSpecial?_slot (name:=Str.ofString "__next__") g F.slot_enumerate_next<|wpAny_call_entry F.slot_enumerate_next g F.entry_enumerate_next ?_<|F.args_enumerate_next_1 _);exact ZnH (J:=λh=>h.IsTupleIter un t<|i+1) m B (λ{R} q=>ZnO E K C λy a b=>q y a b) (λy f k j=>j.at k) λf a b c d k=>Xm (fin f a b c d k)
def Ea(h:A.handled=none)(g:IsEnum s.heap en un i old)(m:s.heap.IsTupleIter un t i)(q:s.heap.IsTuple t items)(j:items[i]?=none)
(fin:∀c,Heap.ExtBut un s.heap c->Q none { s with heap:=c }):wpAny (model prog w) A (pyNext<|.ref en) Q pos s:=by
 have f:s.TypeIs (.ref en) "enumerate" := #[_,g,rfl];unfold pyNext;refine Xa (wpAny_attempt<|wpAny_callSpecial?_slot (name:=Str.ofString "__next__") f F.slot_enumerate_next<|wpAny_call_entry F.slot_enumerate_next f F.entry_enumerate_next ?_<|F.args_enumerate_next_1 _);show wpAny _ _ (field (.ref en) 2 >>= _) _ _ _;refine Xa (YN g rfl (x:=.ref un) rfl (Xa<|Zqr h m q j ?_));rintro c e k ⟨o,y,B⟩;exact Xa (wpAny_isInstance (T := "StopIteration") (b:=true) #[o,y,B] isSubtype_stop<|Xm<|fin _ k)
def Zoc(t:Addr)(f:Array Value)(n:Nat)(m:Qj)(C:Array (Qf)):
 Meets (Builtin.«enumerate.__new__» #[[.type "enumerate",.ref t],[]]) (λ_ R s=>s.heap.get? t=some { cls:=.type "tuple",dict:=m,data:=.seq f n,slots:=C }/\
  R (.ok<|.ret<|.ref (s.heap.push { cls:=.type "tuple_iterator",data:=.fields (List.toArray [.ref t,.int 0 0]) }).objs.size)
   { s with heap:=(s.heap.push { cls:=.type "tuple_iterator",data:=.fields (List.toArray [.ref t,.int 0 0]) }).push { cls:=.type "enumerate",data:=.fields (List.toArray [.none,.bool false,.ref s.heap.objs.size,rawInt 0,.none,.none]) } }):=
 .of_wp λprog w A R s h=>by
  obtain⟨K,g,d,B,E⟩:=s;obtain⟨i,q⟩:=h;have y:=sub_enumerate;have j:Heap.IsTuple (Shared.heap #[K,g,d,B,E]) t f:=#[_,i,rfl,n,rfl]
  wp_walk using AutoSeq1.wpAny_loadPart' i
  refine wpAny_stack_any λM=>Xm (?_:_)
  split
  .rename_i c _ _ _ _ _;cases (c==Value.type "enumerate")
   .wp_walk using AutoSeq1.wpAny_loadPart' i,wpAny_pyIter_tuple j
    exact#[_,rfl,q]
   .wp_walk using AutoSeq1.wpAny_loadPart' i,wpAny_pyIter_tuple j
    exact#[_,rfl,q]
  .wp_walk using AutoSeq1.wpAny_loadPart' i,wpAny_pyIter_tuple j
   exact#[_,rfl,q]
def Zrk(C:s.heap.IsTuple t items)
(fin:∀f,IsEnum f (s.heap.objs.size+1) s.heap.objs.size 0 .none->f.IsTupleIter s.heap.objs.size t 0->f.objs.size=s.heap.objs.size+2->
  (∀b o,s.heap.get? b=some o->f.get? b=some o)->Q (.ref<|s.heap.objs.size+1) { s with heap:=f }):wpAny (model prog w) A (call (.type "enumerate") [.ref t]) Q pos s:=by
 obtain⟨⟨c,m,K,B⟩,E,j,n,i⟩:=C;replace j:c=.type "tuple" := j;replace i:K=.seq items n:=i;subst j i;refine callType_new F.called_enumerate (by decide) (F.typeCall_enumerate_1 _) (F.newCall_enumerate_1 _) (λh=>F.args_object_init_2 h _) F.entry_enumerate_new (Zoc t items n m B) #[E,?_];have g:(s.heap.push { cls:=.type "tuple_iterator",data:=.fields (List.toArray [.ref t,.int 0 0]) }).objs.size=s.heap.objs.size+1:=X9 ..;show _/\_
 rw[g];have y:IsEnum ((s.heap.push { cls:=.type "tuple_iterator",data:=.fields (List.toArray [.ref t,.int 0 0]) }).push { cls:=.type "enumerate",data:=.fields (List.toArray [.none,.bool false,.ref s.heap.objs.size,rawInt 0,.none,.none]) }) (s.heap.objs.size+1) s.heap.objs.size 0 .none:=by
  have:=Xt (s.heap.push { cls:=.type "tuple_iterator",data:=.fields (List.toArray [.ref t,.int 0 0]) }) (o:={ cls:=.type "enumerate",data:=.fields (List.toArray [.none,.bool false,.ref s.heap.objs.size,rawInt 0,.none,.none]) }) rfl;rw[g]at this;exact this
 exact#[#[_,y,rfl],fin _ y #[_,Xd _<|Xt _ rfl,rfl,rfl] (by rw[X9,g]) λb o q=>Xd _<|Xd _ q]
end
def RW(K:W.Frag)(a:Addr):It:=
 #[λi H=>∃xs x,SqT K H a xs/\xs[i]?=some x,
  λi H v U=>∃p x,H p=none/\v=.ref p/\U=upd H p (.tup [.int (i:Int),x])/\∀xs,SqT K H a xs->xs[i]?=some x,
  λi H=>∃xs,SqT K H a xs/\i=xs.length]
theorem OA(ne:en≠un)(na:a≠en)(nu:a≠un):
 Turn P w K (.Tuple elts k E) (RW K a) [en,un] en (λi h=>(∃f,IsEnum h en un i f)/\h.IsTupleIter un a i) where
 mem:=by simp
 obj:=λi h m c y=>by
  obtain⟨⟨f,j⟩,o1,e1,c1,d1⟩:=m;simp only[Xc,XJ,or_false]at y;rcases y with rfl|rfl
  .exact#[_,j,by rintro v ⟨⟩]
  .exact#[_,e1,λv z=>by rw[d1]at z;cases z]
 keep:=λi h h' m N=>by
  obtain⟨⟨f,j⟩,M⟩:=m;exact#[#[f,N en (by simp) _ j],M.at λo x=>N un (by simp) o x]
 item:=by
  intro X D p F y i Y s O H l I W m hg;subst D p F;obtain⟨xs,x,hq,Q⟩:=hg;obtain⟨q,d,n,hz⟩:=I.tuple hq;obtain⟨u,hu,S⟩:=d.get Q;obtain⟨⟨f,j⟩,M⟩:=m;have A:s.heap.IsTuple a q.toArray:=n;refine ZsA j M A (x:=u) (by simpa using hu) ne λZ out U hT hsz kp=>?_;have I1:Qt X Y O H { s with heap:=Z,toks:=s.toks+1 }:=I.turnedL (ch:=[en,un]) (λb o C e=>kp b o (λz=>C<|by simp[z]) (λz=>C<|by simp[z]) e) W;refine#[_,rfl,wpAny_letOwnedTupleGo_enum out λG t g=>?_];replace g:Heap.SameBut en Z G:=g;have I2:Qt X Y O H { s with heap:=G,toks:=s.toks+1 }:=Qt.turnedL (s:={ s with heap:=Z,toks:=s.toks+1 }) (t':=s.toks+1) (ch:=[en]) I1 (λb o C e=>(g.2 b λz=>C<|by simp[z]).trans e) (λc y=>W c<|by simp only[Xc,XJ,or_false]at y ⊢;exact .inl y);have L:en<s.heap.objs.size:=Xk j;have T:un<s.heap.objs.size:=by obtain⟨_,z,_⟩:=M;exact Xk z
  have tup:G.IsTuple s.heap.objs.size (List.toArray [.int (i:Int) s.toks,u]):=#[_,(g.2 _<|X8 L).trans hT,rfl,_,rfl];have I3:=I.trackTup I2 (Xn _) (x:=.int (i:Int)) #[s.toks,rfl] S tup;refine#[.ref s.heap.objs.size,_,I3,rfl,#[_,x,I.hok.fresh<|Xn _,rfl,rfl,λR h=>by rw[I.tuple_inj h hq];exact Q],#[#[u,by simpa using t],U.at λo z=>(g.2 un<|Ne.symm ne).trans z],λc B=>?_];have r:c<s.heap.objs.size:=by
   simp only[Xc,XJ,or_false]at B;rcases B with rfl|rfl
   .exact L
   .exact T
  rw[Qu<|Xs r];exact(W c B).1
 done:=by
  intro X D p F y i Y s O H l I W m hg;subst D p F;obtain⟨xs,hq,rfl⟩:=hg;obtain⟨q,d,n,hz⟩:=I.tuple hq;obtain⟨⟨f,j⟩,M⟩:=m;have A:s.heap.IsTuple a q.toArray:=n;have J:q.toArray[xs.length]?=none:=by simp[d.length]
  exact Ea (I.ok.hd y) j M A J λZ kp=>#[rfl,I.turnedL (t':=s.toks) (ch:=[en,un]) (λb o C e=>kp b o (λz=>C<|by simp[z]) e) W]
 self:=λ_ _ _ _ _ m h=>by
  obtain⟨⟨f,j⟩,_⟩:=m;exact wpAny_pyIter_enum j h
def PN(K:W.Frag)(ta:TA):TI:=λO H R=>ta O H λc L=>∃a,c=[.ref a]/\(∃xs,SqT K L a xs)/\R (RW K a) L
def ZiT{ta:TA}   (r:Gl X "enumerate")(n:X.mg "enumerate"=none)(t:PA X [a] ta)(d:starEach [a] X.env=[(false,eval a X.env)]:=by rfl):
 PI X (.Tuple elts k tpos) (.Call (.Name "enumerate" p) [a] [] E) (PN X.K ta):=by
 intro Y s O H R I h;refine Call_ (Jp I r n Fx<|PyProof.Rows.callWith_type1 (Q8 (t E Y s O H _ I h) ?_) d rfl);rintro D f ⟨z,L,j,K,M⟩;obtain⟨x,e,⟨xs,Z⟩,q⟩:=M;subst e;obtain⟨u,rfl,C⟩:=VL K;cases C;obtain⟨m,F,W,G⟩:=j.tuple Z;have g:f.heap.IsTuple x m.toArray:=W;refine Zrk g λh' A v b P=>wpAny_pyIter_enum A ?_;have y:x<f.heap.objs.size:=by obtain⟨o,l,_⟩:=g;exact Xk l
 have w:Qt X Y O L { f with heap:=h' }:=j.kept (t':=f.toks) P;refine#[_,[f.heap.objs.size+1,f.heap.objs.size],_,_,L,rfl,w,OA (en:=f.heap.objs.size+1) (un:=f.heap.objs.size) (a:=x) (Nat.succ_ne_self _) (Xs<|Uf y)<|Xs y,#[#[_,A],v],λc B=>?_,q];have i:f.heap.objs.size<=c:=by
  simp only[Xc,XJ,or_false]at B;rcases B with rfl|rfl
  .exact Nat.le_add_right _ _
  .exact Xn _
 exact j.fpOk i (j.hok.fresh i)
def Zr9(r:Rep F x (.tuple ds)):∃a xs,x=.ref a/\F a=some (.tup xs)/\Q0 F xs ds:=by
 cases r with
 |tup f c=>exact#[_,_,rfl,f,c]
def ON(h:Zp K t Z [.fz<|.tuple as]):EvI K (PN K t) Z (Uz as):=λH0 F O H R S q=>
 h H0 F O H _ S λb L k m f=>by
  cases f with
  |fz r f=>
   cases f;obtain⟨a,xs,rfl,B,y⟩:=Zr9 r;refine#[a,rfl,#[xs,SqT.of<|m.fh _ _ B],q b L _ m λM Y s c=>?_];have g:SqT K Y a xs:=SqT.of (c _ _<|s _ _ B);refine#[#[xs,g,by rw[BS,y.length]],λi d e=>?_];obtain⟨l,X,rfl⟩:=BQ e;obtain⟨j,C,W⟩:=y.get X;refine#[#[xs,j,g,C],λv n P=>?_];obtain⟨p,x,A,rfl,rfl,k1⟩:=P;have E:=k1 xs g;rw[C]at E;cases E;have sn:Q6 M (upd M p<|.tup [.int (i:Int),j]):=Q6.new (c.free A);exact#[_,Q5.new c A,.tup QG<|.cons (.int _)<|.cons ((W.mono s).mono sn) .nil]
end L2
namespace L2
inductive InK(C:Addr)(f:Str)(Φ:OwnP)(K:W.Frag)(F H:Hp)(v:V)(p:Qg):Prop
 |mk (a D:Addr)(u:V)(q:Qg)(e:v=.ref a)(ep:p=a::D::q)(nd:a≠D)(na:a∉q)(nx:D∉q)(i1:F a=none)(i2:H a=some (.ins C D [(f,u)]))(o1:F D=none)(o2:H D=some (.own a))(k:Φ.ok K F H u q):InK C f Φ K F H v p
def InP(C:Addr)(f:Str)(Φ:OwnP):OwnP where
 ok K F H v p:=InK C f Φ K F H v p
 there:=by
  rintro K F H v p ⟨a,D,u,q,rfl,rfl,nd,m,nx,y,h,j,i,k⟩ b c;rcases Xc.mp c with rfl|c
  .exact#[y,ZG h]
  .rcases Xc.mp c with rfl|c
   .exact#[j,ZG i]
   .exact Φ.there k b c
 mono:=by
  rintro K F t H U v p s B A ⟨a,D,u,q,rfl,rfl,nd,m,nx,y,h,j,i,k⟩;exact#[a,D,u,q,rfl,rfl,nd,m,nx,B _<|by simp,by rw[A _<|by simp];exact h,B _<|by simp,by rw[A _<|by simp];exact i,Φ.mono s (λb c=>B b<|by simp[c]) (λb c=>A b<|by simp[c]) k]
 uniq:=by
  rintro K F H v p o ⟨a,D,u,q,rfl,rfl,nd,m,nx,y,h,j,i,k⟩ ⟨r,d,l,n,e,rfl,W,X,P,Z,g,M,E,Y⟩ b c;cases e;rw[h]at g;cases g;rcases Xc.mp c with rfl|c
  .simp
  .rcases Xc.mp c with rfl|c
   .simp
   .simp[Φ.uniq k Y b c]
section
variable {α:Type}{Φ:α->OwnP}{N:α}{v:V}{t:TA}{R:α->List OT->(OT->α->Prop)->Prop}{Ψ:OT->α->Prop}
def MW(S:QL K H0 F Z O H)(x:Q5 F0 H0 F H)(e:zg Z i<|zo v<|InP C f<|Φ N):
 ∃a D u p,v=.ref a/\O[i]?=some (some v)/\H a=some (.ins C D [(f,u)])/\(Φ N).ok K F H u p/\∀m U A M,ExtN p F H m U->(Φ M).ok K m U u A->(∀b∈A,b∈p\/H b=none)->
  Q5 F0 H0 m U/\QL K H0 m (Z.set i<|zo v<|InP C f<|Φ M) O U/\∀(q:Qg),(∀b∈q,(b∈p\/H b=none)/\b∉A)->(∀b∈q,H0 b=none)/\∀b∈q,∀(j:Nat) (u:V) (t':OT) (r:Qg),(Z.set i<|zo v<|InP C f<|Φ M)[j]?=some (some t')->O[j]?=some (some u)->Zx K m U u t' r->b∉r:=by
 obtain⟨p,e1,⟨a,D,u,q,I,rfl,Q,W,R,i1,E,L,P,k⟩,l⟩:=Wd (Φ:=λN=>InP C f<|Φ N) S x e;refine#[a,D,u,q,I,e1,E,k,λm U A M t Y B=>?_];have s:∀{b o},H b=some o->b∉q->b∉A:=λ{b o} h n z=>by
  rcases B b z with z|z
  .exact n z
  .rw[h]at z;cases z
 have G:∀{b o},F b=none->H b=some o->b∉q->m b=none:=λ{b o} X d n=>by
  cases z:m b with
  |none=>rfl
  |some w=>
   rcases t.fr b (by rw[z];simp) with y|y|y
   .exact Xu X y
   .rw[d]at y;cases y
   .exact Xu y n
 obtain⟨X',S',dj⟩:=l m U (a::D::A) M #[λb o T g=>t.hh b o (λz=>T<|by simp[z]) g,t.ff,t.fh,λb g=>(t.fr b g).imp id λz=>z.imp id λz=>by simp[z]]
  #[a,D,u,A,I,rfl,Q,s E W,s P R,G i1 E W,t.hh _ _ W E,G L P R,t.hh _ _ R P,Y] (λb g=>by
   rcases Xc.mp g with rfl|g
   .simp
   .rcases Xc.mp g with rfl|g
    .simp
    .exact(B b g).imp (λz=>by simp[z]) id)
 refine#[X',S',λJ hq=>dj J λb g=>?_];obtain⟨X,d⟩:=hq b g;have n:∀{c o},H c=some o->c∉q->b≠c:=λ{c o} h z y=>by
  subst y;rcases X with w|w
  .exact z w
  .rw[h]at w;cases w
 refine#[X.imp (λz=>by simp[z]) id,λz=>?_];rcases Xc.mp z with z|z
 .exact n E W z
 .rcases Xc.mp z with z|z
  .exact n P R z
  .exact d z
def Zql(c:Cls K C)(l:Vt K C f)(e:zg Z i<|zo v<|InP C f<|Φ N)(w:Zp K t Z ts)(o:R N ts Ψ)(hn:∀r h,Ψ r h->dx.nx (Z.set i<|zo v<|InP C f<|Φ h)):
 QE K (Vm<|Ve (spP K Φ R) [] E'<|QM (ZZ K (QF i) f) t) Z dx:=λF0 H0 F O H d x S Q=>by
 obtain⟨a,D,u,p0,E,s0,M,_⟩:=MW S x e;refine#[v,s0,a,C,D,_,u,E,M,c,l,by simp[List.lookup],w H0 F O H _ S λJ L X g b=>?_];obtain⟨a',z,u',p,B,s1,y,m,A⟩:=MW (S.ext g) (x.trans g) e;rw[B]at E;cases E;have:=g.hh _ _ M;rw[y]at this;cases this;refine#[J,_,X++[],p,ts,N,Ψ,rfl,(S.ext g).kt,g.fh,by rw[Xw];exact b,m,o,λP U k h T r q n W s j Y hq=>?_];obtain⟨G,I,_⟩:=A P U k h W s j;exact Q.nx P _ U _ G I (hn r h n)
def ZqT(c:Cls K C)(z:Vt K C f)(e:zg Z 0<|zo v<|InP C f<|Φ N)(hA:Zp K t Z ts)(T:R N ts Ψ)(hn:∀r h,Ψ r h->Ψ0 r (Z.set 0<|zo v<|InP C f<|Φ h)):
 EvR K (VU<|Ve (spP K Φ R) [] E'<|QM (ZZ K (QF 0) f) t) Z Ψ0:=λF0 H0 F O H o x S k=>by
 obtain⟨a,D,u,p0,P,s0,i,_⟩:=MW S x e;refine#[v,s0,a,C,D,_,u,P,i,c,z,by simp[List.lookup],hA H0 F O H _ S λF1 L Y g l=>?_];obtain⟨a',dx',u',p,M,s1,B,s,E⟩:=MW (S.ext g) (x.trans g) e;rw[M]at P;cases P;have:=g.hh _ _ i;rw[B]at this;cases this;refine#[F1,_,Y++[],p,ts,N,Ψ,rfl,(S.ext g).kt,g.fh,by rw[Xw];exact l,s,T,λW U w h b r q J X A j m Q=>?_];obtain⟨X',S',dj⟩:=E W U w h X A j;obtain⟨d1,d2⟩:=dj q Q;exact k W O U _ b r q X' S' m d1 (λa i u d n I G y=>d2 a i 0 u d n I G y) (hn r h J)
end
end L2
namespace L2
inductive Cnt(w:World):List DictEntry->List (Str×Int)->Prop
 |nil:Cnt w [] []
 |cons {k:Str}{n:Int}{t u:Tok}{es:List DictEntry}{kvs:List (Str×Int)}(h:Cnt w es kvs):Cnt w (#[hashStr w k,.str k t,.int n u]::es) ((k,n)::kvs)
structure KCnt(K:W.Frag)(w:World)(g:Addr)(kvs:List (Str×Int)):Prop where
 ex:∃es ep,K.lookup g=some #[.type "dict",none,.dict es.toArray ep,(List.toArray [])]/\Cnt w es kvs
 ne:(g==sysModules)=false
def Mu(kvs:List (Str×Int))(x:Str):V:=match kvs.find? λp=>p.1==x with
 |some p=>.int p.2
 |none=>.non
def Cnt.keys{es:List DictEntry}(h:Cnt w es kvs):KeysOf (PySem.strKind P w) es.toArray:=λe c=>by
 have c:e∈es:=by simpa using c
 induction h with
 |nil=>cases c
 |@cons k n t u es kvs h f=>
  rcases Xc.mp c with rfl|c
  .exact#[k,by simp[PySem.strKind,Value.isStrOf],rfl]
  .exact f (by simpa using c) c
def Cnt.find{es:List DictEntry}(h:Cnt w es kvs)(x:Str):QR (Mu kvs x) ((findBy Value.isStrOf es.toArray x).getD .none):=by
 unfold findBy Mu;rw[List.find?_toArray];induction h with
 |nil=>exact rfl
 |@cons k n t u es kvs h c=>
  simp only[List.find?_cons,Value.isStrOf];cases e:k==x with
  |true=>exact#[u,rfl]
  |false=>exact c
def Sr(kvs:List (Str×Int))(te:TE):TE:=λO H Q=>te O H λx L=>∃k,x=.str k/\Q (Mu kvs k) L
def Ky   {g:Addr}(A:KCnt X.K X.w g kvs)(K:X.mg x=some (.ref g))(he:PE X e te)(m:M1 X (.Name x p) "get" X3 e UH)(M:Gl X x:=by rfl)(f:(x==("__debug__" : Str))=false:=by decide):
 PE X (.Call (.Attribute (.Name x p) "get" X3) [e] [] UH) (Sr kvs te):=by
 intro Y s O H Q I h;obtain⟨es,a,l,i⟩:=A.ex;have j:∀{s:Shared},Qt X Y O H s->s.heap.MapOf (PySem.strKind X.prog X.w) g (findBy Value.isStrOf es.toArray):=λI=>#[_,_,_,I.kIn _ _ l,#[rfl,rfl,rfl],rfl,i.keys,λ_=>rfl];refine wpAny_Call_method m.base m.few m.line PySem.F.plainAttrs_dict PySem.F.slot_dict_get PySem.F.type_dict_get (WT I M K ?_ f);refine#[(j I).typeIs,(j I).noDict,?_];rw[m.trees];refine Calls.callWith_builtin rfl (Calls.evalArgs_plain<|Calls.spliced_cons<|Q8 (he Y s O H _ I h) ?_);rintro Z C ⟨y,W,B,E,k,P,q⟩;refine Calls.spliced_nil ?_;subst P;obtain⟨t,rfl⟩:=E;have c:C.heap.MapOf (PySem.strKind X.prog X.w) g (findBy Value.isStrOf es.toArray):=#[_,_,_,B.kIn _ _ l,#[rfl,rfl,rfl],rfl,i.keys,λ_=>rfl];exact call_meetsIn PySem.F.slot_dict_get c.typeIs PySem.F.entry_dict_get (PySem.F.args_dict_get_2 _ _) (meets_dict_get _ g (k:=k) (by simp[PySem.strKind,Value.isStrOf]) A.ne) #[_,c,_,W,B.tok _,i.find k,q]
noncomputable def Wt(kvs:List (Str×Int))(x:Str):PyData:=match kvs.find? λp=>p.1==x with
 |some p=>.int p.2
 |none=>.none
def KM(h:Qq K te Z (.str x)):Qq K (Sr kvs te) Z (Wt kvs x):=λH0 F O H Q S q=>
 h H0 F O H _ S λg L v c f=>by
  cases f;refine#[x,rfl,q g L _ c ?_];unfold Mu Wt;cases kvs.find? λp=>p.1==x with
  |none=>exact .non
  |some p=>exact .int _
def tFs(x:Str)(ta c:TE):TE:=λO H Q=>ta O H λu L=>∃i:Int,u=.int i/\i.natAbs.log2<1920/\(Str.ofString (toString i)++x).length<=sizeLine/\c O L λv f=>∃j:Int,v=.int j/\j.natAbs.log2<1920/\(Str.ofString (toString i)++x++Str.ofString (toString j)).length<=sizeLine/\Q (.str<|Str.ofString (toString i)++x++Str.ofString (toString j)) f
def Ak(W:PE X a ta)(he:PE X e (tC<|.str x))(P:PE X b tb):PE X (.JoinedStr [.FormattedValue a (-1) none p1,e,.FormattedValue b (-1) none p2] E) (tFs x ta tb):=by
 intro Y s O H Q I h;have z:∀y:Str,Str.empty++y=y:=Str.empty_append;refine JoinedStr_many (joinParts_cons<|FormattedValue_plain<|Q8 (W Y s O H _ I h) ?_);rintro u R ⟨v,L,p,B,i,l,c,K,C⟩;subst l;obtain⟨J,rfl⟩:=B;refine formatField_int_small c #[by rw[z];exact int_text_fits c,?_];rw[z];refine joinParts_cons (Q8 (he Y _ O L (λy U=>y=.str x/\U=L) (p.tok _) #[rfl,rfl]) ?_);rintro D g ⟨w,t,o,A,k,d⟩;subst k d;obtain⟨G,rfl⟩:=A;refine#[K,joinParts_cons<|FormattedValue_plain<|Q8 (P Y g O t _ o C) ?_];rintro u N ⟨v,r,n,m,j,Z,M,f,q⟩;subst Z;obtain⟨F,rfl⟩:=m;exact formatField_int_small M #[f,joinParts_nil #[.str _,r,n.tok _,#[_,rfl],q] f]
def Ap{i j:Int}(A:Qq K ta Z (.int i))(y:Qq K tb Z (.int j))(s:i.natAbs.log2<1920)(m:j.natAbs.log2<1920)(l1:(Str.ofString (toString i)++x).length<=sizeLine)(l2:(Str.ofString (toString i)++x++Str.ofString (toString j)).length<=sizeLine):
 Qq K (tFs x ta tb) Z (.str<|Str.ofString (toString i)++x++Str.ofString (toString j)):=λH0 F O H Q S q=>
 A H0 F O H _ S λE L v c h=>by
  cases h;exact#[i,rfl,s,l1,y H0 E O L _ (S.ext c) λC B M f g=>by
   cases g;exact#[j,rfl,m,l2,q C B _ (c.trans f)<|.str _]]
end L2
namespace L2
inductive RawK(C:Addr)(F H:Hp)(v:V)(p:Qg):Prop
 |mk (a D:Addr)(e:v=.ref a)(ep:p=[a,D])(nd:a≠D)(i1:F a=none)(i2:H a=some (.ins C D []))(o1:F D=none)(o2:H D=some (.own a)):RawK C F H v p
def Sy(C:Addr):OwnP where
 ok _ F H v p:=RawK C F H v p
 there:=by
  rintro K F H v p ⟨a,D,rfl,rfl,nd,j,f,i,h⟩ b g;rcases Xc.mp g with rfl|g
  .exact#[j,ZG f]
  .rw[Xj.mp g];exact#[i,ZG h]
 mono:=by
  rintro K F X H U v p s q m ⟨a,D,rfl,rfl,nd,j,f,i,h⟩;exact#[a,D,rfl,rfl,nd,q _<|by simp,by rw[m _<|by simp];exact f,q _<|by simp,by rw[m _<|by simp];exact h]
 uniq:=by
  rintro K F H v p P ⟨a,D,rfl,rfl,nd,j,f,i,h⟩ ⟨W,M,e,rfl,B,E,c,A,y⟩ b g;cases e;rw[f]at c;cases c;exact g
noncomputable def Ba(C:Addr)(f:Str){c:Type}(Φ:c->OwnP):Option c->OwnP
 |none=>Sy C
 |some N=>InP C f (Φ N)
section
variable {v:V}
def OS(c:Cls K C)(n:Vt K C f)(e:zg Z i<|zo v<|Sy C)(h:EvX K te Z Φ)(hn:dx.nx (Z.set i<|zo v<|InP C f Φ)):QE K (Sd K (QF i) te f) Z dx:=λF0 H0 F O H Y x S Q=>
 h H0 F O H _ S λq U u p j A M=>by
  obtain⟨R,s0,⟨a,D,X,rfl,P,W,m,d,s⟩,E⟩:=Wd (Φ:=Ba C f λ_:Unit=>Φ) (N:=none) S x e;have t:=j.hh _ _ m;have r:=j.hh _ _ s;have B:∀{b o},F b=none->H b=some o->q b=none:=λ{b o} I G=>by
   cases z:q b with
   |none=>rfl
   |some w=>
    rcases j.fr b (by rw[z];simp) with y|y
    .exact Xu I y
    .rw[G]at y;cases y
  have np:∀{b o},H b=some o->b∉p:=λ{b o} h z=>by rw[A b z]at h;cases h
  have k:∀{b},H b=none->b≠a:=λ{b} h z=>by subst z;rw[h]at m;cases m
  refine#[v,s0,a,C,D,[],X,t,c,n,by decide,?_];obtain⟨J,L,_⟩:=E q (upd U a<|.ins C D [(f,u)]) (a::D::p) (some Unit.unit) #[λb o l g=>by
   rw[Qu λz=>l<|by simp[z]];exact j.hh b o g,j.ff,λb o g=>by
   rw[Qu λz=>by subst z;rw[B W m]at g;cases g];exact j.fh b o g,λb g=>(j.fr b g).imp id λz=>.inl z]
   #[a,D,u,p,X,rfl,P,np m,np s,B W m,QG,B d s,by rw[Qu<|Ne.symm P];exact r,Φ.mono (Q6.refl _) (λb g=>(Φ.there M b g).1) (λb g=>Qu<|k<|A b g) M] (λb g=>by
    rcases Xc.mp g with rfl|g
    .simp
    .rcases Xc.mp g with rfl|g
     .simp
     .exact .inr (A b g))
  exact Q.nx q _ _ _ J L hn
def Zqq{j:Type}{Φ:j->OwnP}{R:Option j->List OT->(OT->Option j->Prop)->Prop}{Ψ:OT->Option j->Prop}{Θ:j->Prop}{t:TA}{E:XK}(G:Zp K t Z ts)(u:R none ts Ψ)(hn:∀r s,Ψ r s->r=.fz .none/\∃N,s=some N/\Θ N):
 Zu K (JL C (spP K (Ba C f Φ) R) [] E t) Z (λr=>∃v N,Θ N/\r=.own v (InP C f<|Φ N)):=λH0 F O H Q S q=>
 G H0 F O H _ S λI L k c n x D X i d=>by
  have Y:=S.ext c;have e:∀{b o},L b=some o->b≠x/\b≠D:=λ{b o} h=>#[λz=>(by rw[z,X]at h;cases h),λz=>(by rw[z,i]at h;cases h)];have y:∀{b o},L b=some o->upd (upd L D<|.own x) x (.ins C D []) b=some o:=λ{b o} h=>by rw[Qu (e h).1,Qu (e h).2];exact h
  refine#[I,.ref x,k++[],[x,D],ts,none,Ψ,rfl,Y.kt,λb o g=>y<|c.fh b o g,by rw[Xw];exact n,#[x,D,rfl,rfl,Ne.symm d,Y.sub.free X,QG,Y.sub.free i,by rw[Qu d,QG]],u,λJ U p s v r T W m M A B hq=>?_];obtain⟨rfl,N,rfl,w⟩:=hn r s W;obtain⟨_,l⟩:=B;cases l;have a:∀{b},upd (upd L D<|.own x) x (.ins C D []) b=none->L b=none:=λ{b} h=>by
   cases z:L b with
   |none=>rfl
   |some o=>rw[y z]at h;cases h
  have P:∀{b},b∈[x,D]->L b=none:=λ{b} h=>by
   rcases Xc.mp h with rfl|h
   .exact X
   .rw[Xj.mp h];exact i
  refine#[rfl,q J U (.ref x) p _ #[.ref x,N,w,rfl] #[λb o g=>m.hh b o (λz=>Xu (c.hh b o g)<|by rw[P z];simp)<|y<|c.hh b o g,c.ff.trans m.ff,m.fh,λb g=>?_] (λb g=>?_) #[rfl,M]]
  .rcases m.fr b g with z|z|z
   .exact c.fr b z
   .exact .inr (c.hh.free<|a z)
   .exact .inr (c.hh.free<|P z)
  .rcases A b g with z|z
   .exact c.hh.free (P z)
   .exact c.hh.free (a z)
end
end L2
namespace L2
def Tn:bootBuiltins "dict"=some (.type "dict"):=by decide +kernel
def Tg:List V->Hp->VK->Prop:=λf H Q=>∃a c,f=[.ref a]/\H a=some (.dK c)/\∀p,H p=none->Q (.ref p) (upd H p<|.dK c)
def Ll:ZE X (.type "dict") Tg:=by
 intro Y s O H xs m Q I r h;obtain⟨a,f,rfl,i,q⟩:=h;obtain⟨u,rfl,c⟩:=VL r;cases c;exact Zs5 I (.of i) λp y g j=>#[.ref p,_,j,rfl,q p g]
section
variable {tb:TE}{t:TA}{v u:V}{N:HandS}{kvs:Zw}
def QL.absorb(s:QL K H0 F Z O H)(d:i≠j)(e:zg Z i<|zo v Φ)(x:zg Z j<|zo u Φj):
 O[i]?=some (some v)/\O[j]?=some (some u)/\∃p q,Φ.ok K F H v p/\Φj.ok K F H u q/\(∀a∈p,H0 a=none/\F a=none/\H a≠none)/\(∀a∈q,H0 a=none/\F a=none/\H a≠none)/\(∀a∈q,a∉p)/\
  ∀(U:Hp) (t:OwnP) (C:Qg),Q6 F U->(∀b,b∉p->b∉q->H b≠none->U b=H b)->(∀b,H b≠none->U b≠none)->t.ok K F U v C->(∀a∈C,a∈p\/a∈q\/(H a=none/\H0 a=none))->
   QL K H0 F ((Z.set j none).set i (zo v t)) O U:=by
 obtain⟨L,h1,R,P,n,A,m⟩:=s;obtain⟨v',G,rfl,D⟩:=n i _ e;obtain⟨o,f1,rfl,w⟩:=n j _ x;refine#[G,f1,P i,P j,D,w,λa c=>#[(m i a c).1,(Φ.there D a c).1,(m i a c).2],λa c=>#[(m j a c).1,(Φj.there w a c).1,(m j a c).2],λa c f=>d (A j i a c f).symm,λU t C J Q W r B=>?_];have X:=(Xh.mp e).1;have Y:=(Xh.mp x).1;refine#[L,J,by simp[R],λk=>if k=i then C else if k=j then [] else P k,λk I y=>?_,λk l a c f=>?_,λk a c=>?_]
 .by_cases h:k=i
  .subst h;rw[XW<|by simpa using X]at y;cases y;refine#[_,G,rfl,?_];simp only[if_true];exact r
  .rw[XY<|Ne.symm h]at y
   by_cases g:k=j
   .subst g;rw[XW Y]at y;cases y
   .rw[XY<|Ne.symm g]at y;obtain⟨o,T,S⟩:=n k I y;refine#[o,T,?_];simp only[Xg h,Xg g];exact S.keep λb f=>Q b (λz=>h<|A k i b f z) (λz=>g<|A k j b f z) (m k b f).2
 .have E:∀{k l:Nat} {a:Addr},k≠i->a∈(if k=j then ([]) else P k)->a∈C->False:=λ{k l a} h c f=>by
   by_cases g:k=j
   .rw[Xi g]at c;exact nomatch c
   .rw[Xg g]at c;rcases B a f with z|z|z
    .exact h (A k i a c z)
    .exact g (A k j a c z)
    .exact(m k a c).2 z.1
  by_cases h:k=i
  .by_cases M:l=i
   .lia
   .simp only[Xi h]at c;simp only[Xg M]at f;exact(E (l:=0) M f c).elim
  .simp only[Xg h]at c
   by_cases M:l=i
   .simp only[Xi M]at f;exact(E (l:=0) h c f).elim
   .simp only[Xg M]at f
    by_cases g:k=j
    .rw[Xi g]at c;exact nomatch c
    .by_cases N:l=j
     .rw[Xi N]at f;exact nomatch f
     .rw[Xg g]at c;rw[Xg N]at f;exact A k l a c f
 .by_cases h:k=i
  .simp only[Xi h]at c;rcases B a c with z|z|z
   .exact#[(m i a z).1,W a (m i a z).2]
   .exact#[(m j a z).1,W a (m j a z).2]
   .exact#[z.2,(t.there r a c).2]
  .simp only[Xg h]at c
   by_cases g:k=j
   .rw[Xi g]at c;exact nomatch c
   .rw[Xg g]at c;exact#[(m k a c).1,W a (m k a c).2]
def IV{m:Int}(c:HandC K C)(e:zg Z i<|zo v<|Zi C N)(hi:Qq K tb Z (.int k))(h0:0<=k)(Y:N.given[k.toNat]?=some m)(h:Qq K te Z (.int n))
(hn:dx.nx (Z.set i<|zo v<|Zi C { N with given:=N.given.set k.toNat (m+n) })):QE K (M0 (ZZ K (QF i) "given") tb te (M4 K) (ipI λa b=>a+b) Bf) Z dx:=λF0 H0 F O H U x S C'=>by
 obtain⟨a,D,kk,g,d,m',y,xs,as,rfl,e1,s,_⟩:=S.hand e;refine#[_,e1,a,C,D,_,.ref g,rfl,s.ins.2,c.cl,c.gv,rfl,hi H0 F O H _ S λF1 L y1 f R=>?_];cases R;obtain⟨_,I,Q,J⟩:=s.given;have E:(N.given.map PyData.int)[k.toNat]?=some (.int m):=by rw[Xy,Y];rfl
 obtain⟨z,r,p⟩:=(J.mono f.ff).get E;refine#[g,I,k,z,rfl,rfl,SqL.of<|f.hh _ _ Q,h0,r,h H0 F1 O L _ (S.ext f) λo H2 u t B=>?_];cases B;cases p;refine#[m,n,rfl,rfl,?_];obtain⟨a',dx',k',l,d',m'',w,A,P,ea,g1,j,hp,G⟩:=(S.ext<|f.trans t).hand e;cases ea;obtain⟨rfl,rfl,rfl,rfl,rfl,rfl⟩:=s.same j (((f.trans t).hh _ _ s.ins.2).trans s.ins.2.symm);obtain⟨q1,W,T,X⟩:=j.given;have hlt:=(Xh.mp Y).1;have hr:Q0 o (W.set k.toNat<|.int<|m+n) ((N.given.set k.toNat<|m+n).map PyData.int):=by
  rw[List.map_set];exact X.set (.int _) _
 have q:=hp l (by simp);refine#[l,W,k,k.toNat,rfl,rfl,T,?_,?_]
 .rw[X.length,Xf];unfold ixN;rw[Xi h0,Xi<|#[]]
 .exact C'.nx o O _ _ ((x.trans<|f.trans t).wr q.1 q.2.1) (G _ _ w A P ((S.ext<|f.trans t).sub.upd q.2.1) (λb M _=>Qu λz=>M<|by rw[z];simp) YL (j.setGiven hr) λb M=>.inl M) hn
theorem MadeD.len{F H:Hp}:∀{as:Qg} {ms:List Zw},MadeD F H as ms->as.length=ms.length
 |_,_,.nil=>rfl
 |_,_,.cons _ _ _ t=>by simp[t.len]
theorem MadeD.snoc{F H:Hp}{b:Addr}{xs:List (Key×V)}{ms:List Zw}(g:F b=none)(f:H b=some (.dK xs))(c:PairK F xs kvs):∀{as:Qg} {ms:List Zw},MadeD F H as ms->MadeD F H (as++[b]) (ms++[kvs])
 |_,_,.nil=>.cons g f c .nil
 |_,_,.cons j i h t=>.cons j i h (MadeD.snoc (ms:=ms) g f c t)
def HandOk.addMade{g m b:Addr}{xs:List (Key×V)}(t:HandOk C N F H a D k g d m y xs as)(i:b∉a::D::k::g::d::m::as)(Z:F b=none)(Y:H b=some (.dK za))(X:PairK F za kvs):
 HandOk C { N with made:=N.made++[kvs] } F (upd H m<|.lst<|(as++[b]).map V.ref) a D k g d m y xs (as++[b]):=by
 obtain⟨h,⟨P,M⟩,⟨v,u⟩,j,⟨k1,K,k2,k3⟩,⟨p,l,o,n⟩,⟨G,x,w⟩,⟨E,m2,B⟩⟩:=t;have c:=h;simp only[XM,Xc,not_or]at c;obtain⟨⟨a1,a2,a3,a4,L,a6⟩,⟨b1,b2,b3,J,b5⟩,⟨c1,c2,I,c4⟩,⟨f1,r,f3⟩,⟨s,R⟩,q,Q⟩:=c;simp only[Xc,not_or]at i;obtain⟨n1,n2,n3,U,T,A,S⟩:=i;have f:(a::D::k::g::d::m::(as++[b])).Nodup:=by
  have e:a::D::k::g::d::m::(as++[b])=(a::D::k::g::d::m::as)++[b]:=rfl;rw[e,Md];refine#[h,by simp,λz hz O W=>?_]
  grind
 refine#[f,#[P,by rw[Qu L];exact M],#[v,by rw[Qu J];exact u],j,#[k1,K,by rw[Qu I];exact k2,k3],#[p,l,by rw[Qu r];exact o,n],#[G,by rw[Qu s];exact x,w],#[E,QG,?_]];exact(B.snoc (ms:=N.made) Z Y X).other λz=>by
  rcases Xq.mp z with z|z
  .exact q z
  .exact A (Xj.mp z).symm
def HandOk.setNow{g m:Addr}{xs:List (Key×V)}(i:HandOk C N F H a D k g d m y xs as)(n:Int):
 HandOk C { N with now:=n } F (upd H a<|.ins C D<|hfs y n k g d m) a D k g d m y xs as:=by
 obtain⟨f,⟨A,p⟩,⟨q,j⟩,h,⟨k1,v,k2,k3⟩,⟨M,B,K,E⟩,⟨X,W,P⟩,⟨u,t,s⟩⟩:=i;have c:=f;simp only[XM,Xc,not_or]at c;obtain⟨⟨o,l,e,b,Z,Y⟩,_⟩:=c;exact#[f,#[A,QG],#[q,by rw[Qu<|Ne.symm o];exact j],h,#[k1,v,by rw[Qu<|Ne.symm l];exact k2,k3],#[M,B,by rw[Qu<|Ne.symm e];exact K,E],#[X,by rw[Qu<|Ne.symm b];exact W,P],#[u,by rw[Qu<|Ne.symm Z];exact t,s.other Y]]
def ZsF(hj:0≠j)(c:HandC K C)(e0:zg Z 0<|zo v<|Zi C N)(ej:zg Z j<|zo u<|dkP kvs)(hl:N.made.length<1000)
(hr:∀w,Ψ (.own w<|dkP kvs)<|(Z.set j none).set 0 (zo v<|Zi C { N with made:=N.made++[kvs],now:=N.now+1 })):
 EvR K (Ys (Vm<|tBM K "list" Wb (ZZ K (QF 0) "made")<|QM (QF j) QT)<|Ys (TD K (QF 0) (tC<|.int 1) Sg "present")<|VU<|tCB Tg<|QM (QF j) QT) Z Ψ:=λF0 H0 F O H pos x S kk=>by
 obtain⟨s0,sj,p,q,Q,J,hp,hq,hd,wr⟩:=S.absorb hj e0 ej;obtain⟨a,D,k,g,d,m,y,xs,E,rfl,rfl,P⟩:=Q;obtain⟨b,o,rfl,rfl,b1,b2,b3⟩:=J;have l:=hd b Xb;have al:=P.made.2.2.len;have X:=hp m (by simp);have Y:=hp a (by simp);have i:=P.addMade l b1 b2 b3;have t:=i.setNow (N.now+1);have nb:b≠a/\b≠m:=by
  simp only[Xc,not_or]at l;exact#[l.1,l.2.2.2.2.2.1]
 refine#[_,s0,a,C,D,_,.ref m,rfl,P.ins.2,c.cl,c.md,rfl,.inl #[rfl,_,SqL.of P.made.2.1],_,sj,m,_,_,rfl,rfl,P.made.2.1,by rw[Xf,al];exact V7<|#[],?_];have em:E.map V.ref++[V.ref b]=(E++[b]).map V.ref:=by rw[Xx];rfl
 rw[em];refine#[_,s0,a,C,D,_,.int N.now,rfl,i.ins.2,c.cl,c.pr,rfl,N.now,1,rfl,rfl,D,_,i.ins.2,by show 6<1000;decide,?_];have ef:VZ "present" (.int<|N.now+1) (hfs y N.now k g d m)=hfs y (N.now+1) k g d m:=rfl;rw[ef];generalize B:upd H m (.lst<|(E++[b]).map V.ref)=L at i t;generalize A:upd L a (.ins C D<|hfs y (N.now+1) k g d m)=M at t;have e2:∀z,z≠a->z≠m->M z=H z:=λz e z2=>by rw[<- A,Qu e,<- B,Qu z2]
 have X1:Q5 F0 H0 F L:=by rw[<- B];exact x.wr X.1 X.2.1
 have X2:Q5 F0 H0 F M:=by rw[<- A];exact X1.wr Y.1 Y.2.1
 have I:∀z,H z≠none->L z≠none:=by rw[<- B];exact YL
 have G:∀z,L z≠none->M z≠none:=by rw[<- A];exact YL
 have n:=wr M (Zi C { N with made:=N.made++[kvs],now:=N.now+1 }) (a::D::k::g::d::m::(E++[b])) X2.fh
  (λz e _ _=>e2 z (λh=>e<|by rw[h];simp) λh=>e<|by rw[h];simp) (λz f=>G z<|I z f) #[a,D,k,g,d,m,y,xs,E++[b],rfl,rfl,t] (λz f=>by
   have ee:a::D::k::g::d::m::(E++[b])=(a::D::k::g::d::m::E)++[b]:=rfl;rw[ee]at f;rcases Xq.mp f with f|f
   .exact .inl f
   .exact .inr (.inl f))
 refine#[_,sj,b,o,rfl,(e2 b nb.1 nb.2).trans b2,λr s=>?_];have U:Q5 F M F (upd M r<|.dK o):=Q5.own n.sub s;have T:=X2.hh.free s;refine kk F O _ _ (.ref r) (.own (.ref r)<|dkP kvs) [r] (X2.trans U) (n.ext U) #[rfl,r,o,rfl,rfl,n.sub.free s,QG,b3] (λz f=>by rw[Xj.mp f];exact T) (λz f u' t' q' f1 f2 R W=>?_) (hr _);rw[Xj.mp f]at W;obtain⟨fp,g1,g2,g3⟩:=n.fp;obtain⟨v2,h1,h2⟩:=g1 0 _ f1;rw[f2]at h1;cases h1;exact(g3 0 r<|BN (h2.ext U) R r W).2 s
def A5{t:TS}(i:Nat)(e:Z[i]?=some (some r))(m:GY r=some d)(h:EvR K t (Z.set i<|zf d) Ψ):EvR K t Z Ψ:=λF0 H0 F O H f x S C=>by
 obtain⟨p,g,j⟩:=S.freezeG e m;refine h F0 H0 _ O H f #[x.hh,x.ff.trans<|WW λa c=>(g a c).1,j.sub,λa c=>?_] j C
 by_cases z:a∈p
 .exact .inr (g a z).2.2
 .rw[Js z]at c;exact x.fr a c
end
end L2
namespace L2
section
variable {t:TA}
theorem MadeZ.at{F:Hp}:∀{as:Qg} {ms:List Zw},MadeZ F as ms->∀(i:Nat) (a:Addr),as[i]?=some a->∃xs k,ms[i]?=some k/\F a=some (.dK xs)/\PairK F xs k
 |_,_,.nil,i,a,e=>by simp at e
 |_,_,.cons f c t,0,a,e=>by
  simp at e;subst e;exact#[_,_,rfl,f,c]
 |_,_,.cons f c t,i+1,a,e=>t.at i a (by simpa using e)
theorem MadeD.at{F H:Hp}:∀{as:Qg} {ms:List Zw},MadeD F H as ms->∀(i:Nat) (a:Addr),as[i]?=some a->∃xs k,ms[i]?=some k/\H a=some (.dK xs)/\PairK F xs k
 |_,_,.nil,i,a,e=>by simp at e
 |_,_,.cons _ f c t,0,a,e=>by
  simp at e;subst e;exact#[_,_,rfl,f,c]
 |_,_,.cons _ f c t,i+1,a,e=>t.at i a (by simpa using e)
end
end L2
namespace L2
section
variable {kvs:Zw}{k:Key}
def AJ(k:Key):Rep F (kV k) (JD k):=by
 cases k with
 |inl i=>exact .int i
 |inr x=>exact .str x
theorem PairK.key{F:Hp}:∀{xs:List (Key×V)} {kvs:Zw},PairK F xs kvs->xs.map (·.1)=kvs.map (·.1)
 |_,_,.nil=>rfl
 |_,_,.cons _ t=>by simp[t.key]
end
end L2
namespace L2
def BB(C:Addr)(f:Str):Sp:=λc H Q _=>∃(e:Addr) (x:V),c=[.ref e,x]/\H e=some (.ext<|phX C e none)/\
 ∀D,H D=none->D≠e->Q .non (upd (upd H e<|.ext<|phX C e<|some D) D<|.xd [(f,x)])
def Oq(h:BB C f vs H Q pos):
 Ys (Vm<|tXI C 0) (sXF C (QF 0) (QF 1) f) { nx:=λ_ U=>Q .non U,rt:=Q } (vs.map some++List.replicate n none) H:=by
 obtain⟨e,x,rfl,i,j⟩:=h;exact#[e,none,rfl,i,x,rfl,.ref e,rfl,e,rfl,i,λD c g=>j D c g]
structure FldW(f:Str)(e:Addr)(F H H0:Hp)(w:V)(D:Addr):Prop where
 hd:H D=some (.xd [(f,w)])
 nd:D≠e
 fe:F e=none
 fd:F D=none
 d0:H0 D=none
def Gb(f:Str)(e:Addr)(F H H0:Hp)(c:Qj)(w:V):Prop := ∃D,c=some D/\FldW f e F H H0 w D
def Gb.back{w:V}(h:Gb f e F H L dct w)(s:Q6 H0 L):Gb f e F H H0 dct w:=by
 obtain⟨D,a,b⟩:=h;exact#[D,a,b.hd,b.nd,b.fe,b.fd,s.free b.d0]
abbrev YU(K:W.Frag)(C:Addr)(f:Str)(R:List OT->(OT->Prop)->Prop)(Rx:List OT->(V->Prop)->Prop):Sp:=ZK K C (Gb f) R Rx
section
variable {pos:XK}
def ZoO{Φx:V->Prop}{d:PyData}{w:V}(h:Qq K ta Z d)(X:V4 d=some w)(Y:Φx w)(W:∀B U e q d,Φx d->Q5 F0 H0 B U->H0 e=none->Gb f e B U H0 q d->RR e q U):EvZ K F0 H0 (sXR C (Mr C (BB C f) pos<|QM ta QT) RR) Z:=by
 intro F O H dx x S;refine h H0 F O H _ S λl L u E M=>#[by simp,λe s=>?_];have a:=M.flat X;subst a;refine#[e,u,rfl,QG,λD m c=>#[rfl,e,some D,rfl,?_,?_]]
 .rw[Qu<|Ne.symm c,QG]
 .have g:=by rw[Qu c]at m;exact m
  have y:Q6 L (upd (upd (upd L e<|.ext<|phX C e none) e<|.ext<|phX C e<|some D) D<|.xd [(f,u)]):=λb o i=>by
   have A:b≠e:=λz=>by subst z;rw[s]at i;cases i
   have P:b≠D:=λz=>by subst z;rw[g]at i;cases i
   rw[Qu P,Qu A,Qu A];exact i
  have j:=x.trans E;have k:=j.trans #[y,Q6.refl _,j.fh.trans y,λb i=>.inl i];exact W l _ e _ u Y k (j.hh.free s) #[D,rfl,QG,c,j.fh.free s,j.fh.free g,j.hh.free g]
end
end L2
namespace L2
section
variable {w:World}{base:Heap}{CR:Addr}
def Mf.evZ{m qual:Str}{st:Stmt}{N ps:Qh}{k:Nat}{δ:Type}{FL:Addr->Hp->Hp->Hp->Qj->δ->Prop}{R:List OT->(OT->Prop)->Prop}{q:List OT->(δ->Prop)->Prop}(dx:Mf K C m qual st ps)(S:Qo N ps (Q3 st))(g:∀f,ZR P w K mg base N qual st k CR R f)(i:∀f,ZX P w K mg base N qual st k CR FL q f)(j:∀ts Φ,R ts Φ->ts.length=ps.length:=by intro _ _ h;cases h<;>rfl)(c:∀ts Φ,q ts Φ->ts.length=ps.length:=by intro _ _ h;cases h<;>rfl):ZS P w K mg base C m ps (k+1) (ZK K CR FL R q):=dx.go λf _ F=>F.evZ S j c (g f) (i f)
end
structure BackF{δ:Type}(FL:Addr->Hp->Hp->Hp->Qj->δ->Prop):Prop where
 back:∀{e:Addr} {F H H0 L:Hp} {dct:Qj} {d:δ},FL e F H L dct d->Q6 H0 L->FL e F H H0 dct d
def bkV:BackF (Gb f):=#[λh s=>h.back s]
section
variable {t:TA}{v:V}{CR:Addr}{N:HandS}{R:List OT->(OT->Prop)->Prop}
def G7(X:NoH m)(e:zg Z i<|zz<|Zf C N)(h:Zp K t Z ts)(l:R (.zow (Zf C N)::ts) Φ)(st:ZU CR RR):
 Zu K (ZV C m (ZK K CR FL R Rx) [] (XE CR RR) (QF i) t) Z Φ:=λH0 F O H Q S q=>by
 obtain⟨a,D,k,g,d,E,y,M,n,xs,r,o,j⟩:=S.hz e;refine#[_,o,a,D,_,rfl,S.sub _ _ j.ins,X _ _ _ _ _ _,h H0 F O H _ S λx L z c A=>?_];exact#[x,_,(S.ext c).kt,c.fh,.zow ((Zf C N).mono c.ff #[a,D,k,g,d,E,y,M,n,xs,r,rfl,j])<|by rw[Xw];exact A,RR,rfl,st,.inl #[Φ,l,λw u v p B P s W f=>q w u v p B P (c.trans s) (λb Y=>c.hh.free<|W b Y) f]]
def D4(c:NoH m)(e:zg Z i<|zz<|Zf C N)(h:Zp K t Z ts)(f:R (.zow (Zf C N)::ts) (λr=>r=.fz d))(st:ZU CR RR):Qq K (ZV C m (ZK K CR FL R Rx) [] (XE CR RR) (QF i) t) Z d:=EvO.e (Zu.o<|G7 c e h f st)
def Zr1(o:BackF FL)(M:NoH m)(e:zg Z i<|zz<|Zf C N)(b:Zp K t Z ts)(Y:Rx (.zow (Zf C N)::ts) Φx)(st:ZU CR RR)
(E:∀h U e c d,Φx d->Q5 F0 H0 h U->H0 e=none->FL e h U H0 c d->RR e c U)(x:Q5 F0 H0 F H)(S:QL K H9 F Z O H):
 ZV C m (ZK K CR FL R Rx) [] (XE CR RR) (QF i) t O H Q:=by
 obtain⟨a,D,k,g,d,A,y,B,l,xs,p,n,q⟩:=S.hz e;refine#[_,n,a,D,_,rfl,x.fh _ _ q.ins,M _ _ _ _ _ _,b H9 F O H _ S λr w u f v=>?_];have j:=x.trans f;exact#[r,_,(S.ext f).kt,f.fh,.zow ((Zf C N).mono f.ff #[a,D,k,g,d,A,y,B,l,xs,p,rfl,q])<|by rw[Xw];exact v,RR,rfl,st,.inr #[Φx,Y,λh U e c d X s W P=>E h U e c d X (j.trans s) (j.hh.free W)<|o.back P j.hh]]
def NA(v:BackF FL)(j:NoH m)(e:zg Z i<|zz<|Zf C N)(s:Zp K t Z ts)(q:Rx (.zow (Zf C N)::ts) Φx)(st:ZU CR RR)
(h:∀f U e c d,Φx d->Q5 F0 H0 f U->H0 e=none->FL e f U H0 c d->RR e c U):EvZ K F0 H0 (Vm<|ZV C m (ZK K CR FL R Rx) [] (XE CR RR) (QF i) t) Z:=λF O H g x S=>Zr1 v j e s q st h x S
end
end L2
namespace L2
structure He(K:W.Frag)(C:Addr):Prop where
 cls:∀h:Heap,K.In h->∃(S1 bm:Qe) (nm q:Str) (N:Addr) (bs:Qe) (T1:Bool) (sn:Qh) (sub:Qe) (ab:Bool) (col:Option Bool) (dd:Qj) (k0 k1 k2 k3 k5:Qf),
  ExcBaseFacts "ValueError" "ValueError.__new__" "ValueError.__init__" S1/\OwnTail h S1 bm/\h.get? C=some (excClassObj nm q C N bs bm T1 sn sub ab col dd k0 k1 k2 k3 k5 "ValueError.__new__")/\
  ∃mN:Str->Qf,h.Ns N mN/\mN "__init__"=none
open PySem.W in
noncomputable def MO(K:Frag)(C:Addr):Bool:=match K.lookup C with
 |some #[.type "type",_,.cls cd,c]=>(match cd.mro,c.toList with
   |.ref f::bm,[_,_,_,_,some<|.builtin n,_]=>f==C&&n == "ValueError.__new__" && !cd.hasDel&&tailIn K Mv bm&&nsOkIn K cd.ns&&nsIn K cd.ns "__init__" == some none
   |_,_=>false)
 |_=>false
open PySem.W in
theorem PV{K:Frag}(q:MO K C=true):He K C where
 cls:=λh X=>by
  unfold MO at q;split at q
  .rename_i dd cd i A;split at q
   .rename_i M bm k0 k1 k2 k3 n k5 j E;simp only[WB,beq_iff_eq,Bool.not_eq_true']at q;obtain⟨⟨⟨⟨⟨rfl,rfl⟩,c⟩,y⟩,hok⟩,f⟩:=q;obtain⟨nm,bs,s,ns,m,hd,sn,sub,ab,col,B⟩:=cd;dsimp only at j c hok f;subst j c;have g:i=(List.toArray [k0,k1,k2,k3,some<|.builtin "ValueError.__new__",k5]):=by
     obtain⟨l⟩:=i;simp_all
    subst g;exact#[Mv,bm,nm,m,ns,bs,hd,sn,sub,ab,col,dd,k0,k1,k2,k3,k5,PySem.F.excBase_ValueError,tail_of_in X y,X _ _ A,_,.of_isNs<|isNs_of_in X hok,nsMap_none_of_in X hok f]
   .cases q
  .cases q
structure GV(K:W.Frag)(mg:Str->Qf)(x:Str)(C:Addr):Prop where
 cl:He K C
 kp:W.keepIn K (.ref C)=true
 m:mg x=some (.ref C)
def HE(C:Addr)(t:TA):TE:=λO H Q=>t O H λc L=>c.length<=1000/\∀x,L x=none->Q (.ref x) (upd L x<|.ext<|phX C x none)
section
variable {w:World}{pos:Qb}{d:Drawn}{t:Nat}{os:OsState}
variable {N:Addr}{bs:Qe}{sub:Qe}
def EZ(F:ExcBaseFacts B newId initId S1)(T:OwnTail h S1 bm){rest:Qe}
(i:h.get? C=some (excClassObj nm q C N bs bm T1 sn sub ab col dd k0 k1 k2 k3 k5 newId))(hn:h.Ns N mN)(y:mN "__init__"=none)(c:rest.length<=sizeLine)
(P:∀h':Heap,(∀b o,h.get? b=some o->h'.get? b=some o)->phX C (h.objs.size+1) none h'->Q (.done<|.ret<|.ref<|h.objs.size+1) #[h',g,d,t,os]):
 wpAny (model prog w) A (Builtin.«type.__call__» #[.ref C::rest,[]]) Q pos #[h,g,d,t,os]:=by
 have m:∀b o,h.get? b=some o->(Ws h C rest).get? b=some o:=λb o e=>Xd _ (Xd _ e)
 repeat (first
  |with_reducible refine wpAny_loadPart_at i ?_
  |with_reducible refine wpAny_madeBy_exc i ?_
  |wp_step)
 refine codeAny_call_builtin_code (Code.quiet_builtin _ F.quiet)
  (wpAny_check_new_subT F T i ?_)
 refine codeAny_exc_new_subT F T i ?_ c;show wpAny _ _ _ _ _ #[Ws h C rest,g,d,t,os];have j:(Ws h C rest).get? (h.objs.size+1)=some _:=DW (by rw[X9]) rfl;have f:=m _ _ i;have E:=hn.keeps m;have M:=T.keeps m;have s:(Value.ref C::bm).contains (.ref C)=true:=by simp
 repeat (first
  |with_reducible refine wpAny_loadPart_at j ?_
  |(with_reducible refine wpAny_isSubtype_exc f ?_;rw[s])
  |wp_step)
 refine wpAny_typeLookup_tail f E M F.mroIs F.init.lookup ?_;rw[y];refine wpAny_holding (Xa<|wpAny_of_eq (F.init.bind _) ?_);refine Xa (wpAny_call<|codeAny_call_builtin F.init.plain F.initEntry<|wpAny_check_init_subT F M f j rfl ?_)
 wp_walk using AutoSeq1.wpAny_loadPart' j
 refine P _ (λb o K=>?_) #[(Ws h C rest).objs.size,(List.toArray []),?_]
 .rw[XV _ _<|X8<|Uf<|Xk K];exact Xd _ (m _ _ K)
 .rw[Ja _ (Xd _ j) rfl];rfl
def A9(F:ExcBaseFacts B newId initId S1)(T:OwnTail h S1 bm){rest:Qe}
(f:h.get? C=some (excClassObj nm q C N bs bm T1 sn sub ab col dd k0 k1 k2 k3 k5 newId))(hn:h.Ns N mN)(i:mN "__init__"=none)(c:rest.length<=sizeLine)
(j:∀h':Heap,(∀b o,h.get? b=some o->h'.get? b=some o)->phX C (h.objs.size+1) none h'->Q (.ref<|h.objs.size+1) #[h',g,d,t,os]):
 wpAny (model prog w) A (call (.ref C) rest) Q pos #[h,g,d,t,os]:=by
 have y:=tc_lookup;have s:=tc_bind (.ref C);have m:(#[h,g,d,t,os]:Shared).TypeIs (.ref C) "type" := #[_,f,rfl];refine wpAny_call (codeAny_of_tree ?_)
 repeat (any_goals (first
  |assumption
  |with_reducible refine wpAny_loadPart_at f ?_
  |wp_step))
 refine#[rfl,?_];refine codeAny_call_builtin_at (Code.quiet_builtin _<|by decide +kernel) entry_typeCall (wpAny_check_type_call_sub f ?_);exact EZ F T f hn i c j
end
section
variable {x:Str}{p:Pos}{e:Expr}{t:TA}{R:Addr->Qj->Hp->Prop}
def Zpb(c:He X.K C)(P:W.keepIn X.K (.ref C)=true)(a:Gl X x)(R:X.mg x=some (.ref C))
(b:PA X (e::es) t)(j:(x==("__debug__" : Str))=false:=by decide)(he:zs X e es:=by rfl)(hpl:(backTo E<|starEach es X.env).any (·.1)=false:=by rfl):
 PE X (.Call (.Name x p) (e::es) [] E) (HE C t):=by
 intro Y s O H Q I h;refine wpAny_Call_Name_kw (WT I a R ?_ j);refine W.callWith_K I.ok.mod.kin P (Q8 (b E Y s O H _ I h) ?_) he hpl;rintro A K ⟨o,L,f,r,D,q⟩;refine#[f.kIn,?_];obtain⟨S1,bm,nm,v,N,F,T1,sn,B,ab,col,dd,k0,k1,k2,k3,k5,n,T,l,z,k,Z⟩:=c.cls _ f.kIn;obtain⟨y,g,d,u,w⟩:=K;refine A9 n T l k Z (by show A.length<=_;rw[<- r.length,sizeLine_eq];lia) λh' i M=>?_;have m:y.objs.size<=y.objs.size+1:=GR _
 exact#[.ref _,_,f.laid i m<|MI M,rfl,q _<|f.hok.fresh m]
def ZpG(c:He X.K C)(g:X.calm=true)(B:PE X e te)(A:∀Y O H s a f,Qt X Y O H s->H a=some (.ext<|phX C a f)->R a f H->X.xe (.ref a) s):PS X (.Raise (some e) none E) (sXR C te R):=by
 intro Y s O H dx I h;refine Xa (wpAny_standAt<|TM (C:=C) (I.ok.hd g)<|Xa<|Q8 (B Y s O H _ I h) ?_);rintro u Z ⟨v,L,m,r,a,f,M,p,q⟩;refine Xa<|wpAny_standAt<|Xm ?_;subst M;obtain rfl:=r;obtain⟨⟨t,x,j⟩,_,_⟩:=m.hok a _ p;obtain⟨S1,bm,nm,y,N,P,T1,sn,i,ab,col,dd,k0,k1,k2,k3,k5,W,T,K,_⟩:=c.cls _ m.kIn
 exact#[a,t,f,x,bm,nm,y,N,P,T1,sn,i,ab,col,dd,k0,k1,k2,k3,k5,_,rfl,T.hasType W.hasBase,K,j,A _ _ _ _ _ _ m p q]
def Zq9  {o:Expr}  {k:Nat}{e:XK}{g:Sem Bool}(M:ZS X.prog X.w X.K X.mg X.base C m ps j sp)(c:HandC X.K C)(p:Room k X.A)(h:Ye (CX1 X.prog X.w) X e)(he:PE X o ta)(s:j<=k:=by walk_at"j")
(i:eval (.Call (.Attribute o m X3) [] [] E) X.env=(do
  let ov <- eval o X.env
  standAt X3.atName
  let (f,first) <- holding [ov] (getMethod ov m g)
  callWith E f first (backTo E<|starEach [] X.env)<|backToKw E<|keywordEach [] X.env):=by rfl):
 PE X (.Call (.Attribute o m X3) [] [] E) (ZV C m sp [] e ta QT):=by
 obtain⟨f,fd,q,t,F⟩:=M;exact LP he c.cl q F (p.mono s) t .nil h i
end
section
variable {w:World}{base:Heap}{N:Qh}
def J1{x:Str}{p:Pos}{e:Expr}{t:TA}(c:GV K mg x C)(f:ZU C RR)
(i:PA (cx1 P w K mg base N qual scope f0 cd A outer s0 H0<|XE C RR) (e::es) t)(h:Gl (cx1 P w K mg base N qual scope f0 cd A outer s0 H0<|XE C RR) x:=by rfl)
(g:(x==("__debug__" : Str))=false:=by decide)(he:starEach (e::es) (cx1 P w K mg base N qual scope f0 cd A outer s0 H0<|XE C RR).env=(false,eval e (cx1 P w K mg base N qual scope f0 cd A outer s0 H0<|XE C RR).env)::starEach es (cx1 P w K mg base N qual scope f0 cd A outer s0 H0<|XE C RR).env:=by rfl)
(hpl:(backTo E<|starEach es (cx1 P w K mg base N qual scope f0 cd A outer s0 H0<|XE C RR).env).any (·.1)=false:=by rfl):
 PS (cx1 P w K mg base N qual scope f0 cd A outer s0 H0<|XE C RR) (.Raise (some<|.Call (.Name x p) (e::es) [] E) none pos') (sXR C (HE C t) RR):=
 ZpG c.cl rfl (Zpb c.cl c.kp h c.m i g he hpl) (λY O H s a j I he r=>LH f I he r)
end
def VI(e:Addr)(F H H0:Hp)(c:Qj)(_:Unit):Prop:=c=none/\F e=none
def bkN:BackF VI:=#[λh _=>h]
def D3{Φx:Unit->Prop}{d:PyData}(h:Qq K ta Z d)(A:Φx ())(y:∀m U e f d,Φx d->Q5 F0 H0 m U->H0 e=none->VI e m U H0 f d->RR e f U):EvZ K F0 H0 (sXR C (HE C<|QM ta QT) RR) Z:=λF O H dx x S=>
 h H0 F O H _ S λB L u q E=>#[by simp,λe i=>by
  have g:=x.trans q;have j:Q6 L (upd L e<|.ext<|phX C e none):=λb o c=>by
   have s:b≠e:=λz=>by subst z;rw[i]at c;cases c
   rw[Qu s];exact c
  exact#[e,none,rfl,QG,y B _ e none () A (g.trans #[j,Q6.refl _,g.fh.trans j,λb c=>.inl c]) (g.hh.free i) #[rfl,g.fh.free i]]]
def Ho(C e:Addr):OwnP where
 ok:=λK F H v p=>p=[e]/\F e=none/\∃T,H e=some (.ext<|phF C e none T)
 there:=λ{K F H v p} h a c=>by
  obtain⟨rfl,g,T,f⟩:=h;cases Xj.mp c;exact#[g,ZG f]
 mono:=λ{K F q H U v p} s j i h=>by
  obtain⟨rfl,g,T,f⟩:=h;exact#[rfl,j _ Xb,T,(i _ Xb).trans f]
 uniq:=λ{K F H v p m} h h' a c=>by
  obtain⟨rfl,_⟩:=h;obtain⟨rfl,_⟩:=h';exact c
section
variable {tb:Ends->TS}{n:Nat}{e:Addr}
def ZqP(Φx:Unit->Prop)(G:j<n)(hth:∀e,QE K (th e) ((List.replicate n none).set j (zo (.ref e)<|Ho C e)) { nx:=λA=>dx.nx<|A.set j none,rt:=λ_=>False })
(hz:∀(f:Ends) (F0 H0 F:Hp) (O:St) (H:Hp),Q5 F0 H0 F H->QL K H0 F Z O H->(∀y U e h u,Φx u->Q5 F H y U->H e=none->VI e y U H h u->∀(g:St) b T,g.length=n->Lefts C e h U b->b T=none->T≠e->th e (Dh f j) (g.set j<|some<|.ref e) (left C e h T b))->tb f f O H):QE K (GW tb) Z dx:=λF0 H0 F O H f x S c=>by
 refine hz f F0 H0 F O H x S λy U e h u _ s W J g b T D X hT m=>?_;obtain⟨rfl,Y⟩:=J;have r:=NS (.step X hT m) s.hh W;have M:=NS (.step X hT m) s.fh Y;have P:left C e none T b e=some (.ext<|phF C e none T):=by unfold left;rw[Qu<|Ne.symm m,QG]
 have L:=x.trans #[r,s.ff,M,s.fr];have B:j<g.length:=#[]
 refine hth e F0 H0 y (g.set j<|some<|.ref e) _ (Dh f j) L #[S.kt.mono s.ff,M,by simp[D],λk=>if k=j then [e] else [],λk t E=>?_,λk l a q I=>?_,λk a q=>?_] #[λR d Q o p N v=>c.nx R _ Q _ p (N.setN none) v,λ_ _ _ _ _ _ _ _ z=>False.elim z,λ_ _ _ _ _ _ z=>False.elim z,λ_ _ _ _ _ _ z=>False.elim z]
 .by_cases i:k=j
  .subst i;rw[XW<|by simpa using G]at E;cases E;refine#[.ref e,XW B,?_];dsimp only;rw[Xi rfl];exact#[rfl,rfl,Y,T,P]
  .rw[XY<|Ne.symm i,List.getElem?_replicate]at E
   grind
 .by_cases i:k=j
  .by_cases w:l=j
   .lia
   .simp[w]at I
  .simp[i]at q
 .dsimp only at q
  by_cases i:k=j
  .rw[Xi i]at q;cases Xj.mp q;exact#[x.hh.free W,ZG P]
  .simp[i]at q
def Pv{b:Bool}(h:zg Z i<|zo (.ref e)<|Ho C e)(g:Hv c=some cv)(f:W.kitOne K (.ref C) cv=some b):Qq K (tCB (Hh K C)<|QM (QF i)<|QM (tC c) QT) Z (.bool b):=λH0 F O H Q S k=>by
 obtain⟨q,j,_⟩:=S.fp;obtain⟨u,n,rfl,_,_,T,m⟩:=j i _ h;exact#[.ref e,n,.ref e,c,cv,b,rfl,g,.inr<|.inl #[e,T,rfl,m,f],k F H _ (Q5.refl S.sub)<|.bl b]
end
end L2
namespace L2
def HP(K:W.Frag)(C:Addr):List V->Hp->VK->Prop:=λxs H Q=>∃(e T:Addr) (c:Addr) (f:Qg) (b:Bool),xs=[.ref e,.ref c]/\H e=some (.ext<|phF C e none T)/\SqT K H c (f.map V.ref)/\W.kitAny K (.ref C) (f.map Value.ref)=some b/\Q (.bl b) H
def IW  (c:Hd X.K C):ZE X (.builtin "isinstance") (HP X.K C):=by
 intro Y s O H xs p Q I r h;obtain⟨e,T,m,D,b,rfl,d,P,a,q⟩:=h;obtain⟨u,w,rfl,E,f⟩:=Uv r;obtain rfl:u=Value.ref e:=E;obtain rfl:w=Value.ref m:=f;obtain⟨⟨o,t,M,_⟩,_,_⟩:=I.hok e _ d;obtain⟨K,B,g,v⟩:=I.tuple P;obtain rfl:=Fb B;obtain⟨⟨l,k,x,A⟩,Z,j,n,i⟩:=id g;simp only at j i;subst j i;exact W.kia_tup (KP (od:=none) c.ga c.hd c.fc c.sp c.tk c.mo) I.kIn #[M,rfl,rfl,trivial] Z a (by intro z;cases z) λy=>#[.bl b,H,I.tok y,rfl,q]
variable {Z:List (Option OT)} in
def E9(h:zg Z i<|zo (.ref e)<|Ho C e)(j:cs.length<=1000)(m:W.kitAny K (.ref C) (cs.map Value.ref)=some b):Qq K (tCB (HP K C)<|QM (QF i)<|QM (Ut<|HA cs) QT) Z (.bool b):=λH0 F O H Q S k=>by
 obtain⟨y,q,_⟩:=S.fp;obtain⟨u,s,rfl,_,_,T,c⟩:=q i _ h;refine#[.ref e,s,TZ #[by rw[Xf];exact Wr<|V7 j,λp f=>?_]];have g:e≠p:=λz=>by subst z;rw[f]at c;cases c
 exact#[e,T,p,cs,b,rfl,by rw[Qu g];exact c,SqT.of QG,m,k F _ _ (Q5.own S.sub f)<|.bl b]
end L2
namespace L2
section
variable {R:List OT->(OT->Prop)->Prop}{Rx:List OT->(δ->Prop)->Prop}{t:TA}
def LU(B:BackF FL)(A:Zp K t Z ts)(y:Rx ts Φx)(st:ZU C RR)(j:∀g U e c d,Φx d->Q5 F0 H0 g U->H0 e=none->FL e g U H0 c d->RR e c U)(x:Q5 F0 H0 F H)(S:QL K H9 F Z O H):
 Ve (ZK K C FL R Rx) [] (XE C RR) t O H Q:=A H9 F O H _ S λE L M f i=>
 #[E,ts,(S.ext f).kt,f.fh,by rw[Xw];exact i,RR,rfl,st,.inr #[Φx,y,λg U e c d s h q m=>j g U e c d s ((x.trans f).trans h) ((x.trans f).hh.free q)<|B.back m (x.trans f).hh]]
def Ix(q:BackF FL){g:TG}(m:Zp K t Z ts)(j:Rx ts Φx)(st:ZU C RR)(i:∀f U e c d,Φx d->Q5 F0 H0 f U->H0 e=none->FL e f U H0 c d->RR e c U):EvZ K F0 H0 (V2 (Ve (ZK K C FL R Rx) [] (XE C RR) t) g) Z:=λF O H h x S=>LU q m j st i x S
def Oh(y:Zp K t Z ts)(s:R ts Φ)(st:ZU C RR):Zu K (Ve (ZK K C FL R Rx) [] (XE C RR) t) Z Φ:=λH0 F O H Q S q=>
 y H0 F O H _ S λE L M c g=>
  #[E,ts,(S.ext c).kt,c.fh,by rw[Xw];exact g,RR,rfl,st,.inl #[Φ,s,λB A v p r i f j h=>q B A v p r i (c.trans f) (λa m=>c.hh.free<|j a m) h]]
def Na(f:Zp K t Z ts)(c:R ts (λr=>r=.fz d))(st:ZU C RR):Qq K (Ve (ZK K C FL R Rx) [] (XE C RR) t) Z d:=EvO.e (Zu.o<|Oh f c st)
end
end L2
namespace L2
section
variable {a b:Expr}{x y z:Str}
theorem Fc(c:Nat):∀(n:Nat) (b:Array Nat),(List.replicate n ((List.toArray [c]):Array Nat)).foldl (· ++ ·) b=b++(List.replicate n c).toArray
 |0,b=>by simp
 |n+1,b=>by
  rw[List.replicate_succ,List.foldl_cons,Fc c n,List.replicate_succ];apply Array.toList_inj.mp;simp
def V9(c n:Nat):Str:=#[(List.replicate n c).toArray]
def SH:R2:=λx y H Q=>∃c n:Nat,x=.str #[(List.toArray [c])]/\y=.int (n:Int)/\2<=n/\n<=1000000/\Q (.str<|V9 c n) H
def KA:OpR X (binaryOp .Mult) SH:=by
 intro Y s O H x y v u Q I i g h;obtain⟨c,n,rfl,rfl,A,m,q⟩:=h;obtain⟨t,rfl⟩:=i;obtain⟨j,rfl⟩:=g;have f:(#[(List.toArray [c])]:Str).length=1:=rfl;refine PySem.P.mul_str (by rw[Bool.or_eq_false_iff,decide_eq_false_iff_not,decide_eq_false_iff_not];lia) (λ_ _=>?_) (λ_ _=>?_) ?_
 .rw[f,show(2^63-1:Int)=9223372036854775807 from rfl];intro z;have:(9223372036854775807:Int)/(n:Int)<1:=z;have:=Int.ediv_lt_iff_lt_mul (c:=(n:Int)) (a:=9223372036854775807) (b:=1) #[] |>.mp this
  lia
 .unfold Builtin.Str.tooLong;rw[f,sizeLine_eq];exact XD (by simp;lia)
 .rw[Xg<|#[],Xg<|by rw[f];simp;lia];rw[X5,show List.replicate n (#[(List.toArray [c])]:Str).cps=List.replicate n (List.toArray [c]) from rfl,Fc,Array.empty_append];refine#[?_,.str _,H,I.tok _,#[_,rfl],q];show(List.replicate n c).toArray.size<=sizeLine
  rw[Xr,List.length_replicate,sizeLine_eq];lia
end
section
variable {tb:TE}
def K3{c n:Nat}(i:Qq K ta Z (.str #[(List.toArray [c])]))(h:Qq K tb Z (.int (n:Int)))(m:2<=n)(j:n<=1000000):Qq K (tOp SH ta tb) Z (.str<|V9 c n):=λH0 F O H Q S q=>
 YF i h S λs U u v e g f=>by
  cases g;cases f;exact#[c,n,rfl,rfl,m,j,q s U _ e<|.str _]
end
end L2
namespace L2
section
variable {v:V}{tg:TE}{R2:List OT->(OT->Prop)->Prop}
def ZqQ(e:zg Z i<|zz Ψ)(d:Zu K tg Z Φg)(E:∀r,Φg r->∃y c,r=.fz y/\R2 [.zow Ψ,.fz y] c/\∀r,c r->Φ r):
 Zu K (Ve (Zk K R2) [] E'<|QM (QF i)<|QM tg QT) Z Φ:=λH0 F O H Q S q=>by
 obtain⟨D,g,_⟩:=S.fp;obtain⟨u,s0,_⟩:=g i _ e;refine#[_,s0,d H0 F O H _ S λt L w z j s f W m=>?_];obtain⟨y,c,rfl,b,P⟩:=E j s;obtain⟨rfl,j⟩:=m;obtain⟨l,k,_⟩:=(S.ext f).fp;obtain⟨x,A,_,h⟩:=k i _ e;rw[s0]at A;cases A;exact#[t,_,c,(S.ext f).kt,f.fh,.zow h<|.fz j .nil,b,λo n v p r M B X C=>q o n v p r (P r M) (f.trans B) (λa Y=>f.hh.free<|X a Y) C]
end
end L2
namespace L2
def P3  {e:Expr}{t:TA}{p:Pos}(c:Hd K C)(f:X.mg "isinstance"=none)(h:PA X (e::es) t)(i:X.K=K:=by rfl)(g:Gl X "isinstance" := by rfl)
(he:zs X e es:=by rfl)(hpl:(backTo E<|starEach es X.env).any (·.1)=false:=by rfl):PE X (.Call (.Name "isinstance" p) (e::es) [] E) (tCB (Hh K C) t):=by
 subst i;exact Zo (AE c) g f WN h (he:=he) (hpl:=hpl)
def Kw(h:EvR K t Z Ψ):EvR K (Ys t u) Z Ψ:=λF0 H0 F O H c x S k=>h F0 H0 F O H _ x S k
end L2
namespace L2
def spY(C:Addr):Sp:=λc H Q _=>∃a D y n k g d e,c=[.ref a]/\H a=some (.ins C D<|hfs y n k g d e)/\Q y H
section
variable {N:HandS}{pos:XK}
def Zrw(f:NoH m)(e:zg Z i<|zz<|Zf C N)(h:N.yard=d):Qq K (ZV C m (spY C) [] pos (QF i) QT) Z d:=λH0 F O H Q S q=>by
 subst h;obtain⟨a,D,k,g,d,c,y,s,A,xs,B,j,o⟩:=S.hz e;exact#[_,j,a,D,_,rfl,S.sub _ _ o.ins,f _ _ _ _ _ _,a,D,y,_,k,g,d,c,rfl,S.sub _ _ o.ins,q F H y (Q5.refl S.sub) o.yd]
end
end L2
namespace L2
def Hf(t:St->TE):TE:=λO H Q=>t O O H Q
def RHq(C:Addr)(th:Addr->TS)(dx:Ends)(j:Nat)(O:St)(e:Addr)(c:Qj)(H:Hp):Prop := ∀U T,Lefts C e c H U->U T=none->T≠e->th e (Dh dx j) (O.set j<|some<|.ref e) (left C e c T U)
def EHq(C:Addr)(th:Addr->TS)(dx:Ends)(j:Nat):St->XK:=λO=>XE C (RHq C th dx j O)
def F7{dx:Ends} : ZU C (RHq C th dx j O):=λ_ _ _ _ r hT c U g f=>r U g (.head hT c f)
section
variable {o e:Expr}{t:TA}{k:Nat}{Eσ:St->XK}{pl:Sem Bool}
def EN{O:St}{H:Hp}{Q:VK}{us:Qe}{vs:List V}{f:Addr}(F:FnOk X.prog X.w X.K X.mg X.base (CX1 X.prog X.w) j f fd ps sp)(m:Room j X.A)(o:Va X.K fd ps [])(k:KS (CX1 X.prog X.w) X Eσ)
(I:Qt X Y O H s)(r:Za vs us)(h:sp (vs++[]) H Q (Eσ O)):wpAny (model X.prog X.w) X.A (call (.ref f) us) (EP X Y O Q) X.xe s:=by
 have g:=r.append .nil;refine wpAny_call (codeAny_mono (F.run X.A X.stack s H _ _ _ Q _ m I.env0 (o s us I.kIn<|by rw[<- g.length];exact F.len _ _ _ _ h) g h) λr i c=>?_)
 match r with
 |.error e=>exact k Y O H s e i I c
 |.ok (.ret u)=>exact I.after c
 |.ok .next=>exact False.elim c
 |.ok .brk=>exact False.elim c
 |.ok .cont=>exact False.elim c
def Zr8(M:ZS X.prog X.w X.K X.mg X.base C m ps j sp)(c:HandC X.K C)(d:Room k X.A)(Z:KS (CX1 X.prog X.w) X Eσ)(he:PE X o ta)(v:PA X (e::es) t)(n:j<=k:=by walk_at"j")
(g:zs X e es:=by rfl)(hpl:(backTo E<|starEach es X.env).any (·.1)=false:=by rfl)
(b:eval (.Call (.Attribute o m X3) (e::es) [] E) X.env=(do
  let ov <- eval o X.env
  standAt X3.atName
  let (f,first) <- holding [ov] (getMethod ov m pl)
  callWith E f first (backTo E<|starEach (e::es) X.env)<|backToKw E<|keywordEach [] X.env):=by rfl):
 PE X (.Call (.Attribute o m X3) (e::es) [] E) (Hf λO=>ZV C m sp [] (Eσ O) ta t):=by
 obtain⟨f,fd,i,p,F⟩:=M;intro Y s O H Q I h;refine W.methodCall_KW (Q8 (he Y s O H _ I h) ?_) b;rintro u B ⟨x,L,A,K,a,D,N,w,z,l,q⟩;subst w;obtain rfl:=K;refine NR A z c.cl i l (W.callWith_K I.ok.mod.kin i.kp (Q8 (v E Y B O L _ A q) ?_) g hpl);rintro G J ⟨vs,R,y,r,P⟩;exact#[y.kIn,EN (vs:=.ref a::vs) F (d.mono n) p Z y (.cons rfl r) P]
end
section
variable {B:Addr}{tb:Ends->TS}{x:Str}
def Zs8(cm:W.exmOne X.K (.ref C) (.ref B)=some true)(c:X.stack=X.env::X.outer)(b:X.env.frame=some X.env.locals)(hg:Gl X x)(Q:X.mg x=some (.ref B))(R:X.N.length=j)
(hb:∀dx P,PSs (Th X (EHq C th dx j) P) body<|tb dx)(S:∀e P,PSs (W7 X e P) (b0::suite)<|th e)(hd:(x==("__debug__" : Str))=false:=by decide):
 PS X (.Try body (.ExceptHandler (some<|.Name x np) none (b0::suite) hpos::rest) [] [] E) (GW tb):=by
 intro Y s0 K H0 dx F h;refine wpAny_Try_except (wpAny_mono (hb dx (X.pn++Y) [] s0 K H0 dx (F.toPn.wish _) h) (λl s1 q=>?_) λv s q=>?_)
 .have y:=SP.ofPn q;cases l with
  |next=>exact wpAny_execs_nil y
  |ret u=>exact y
  |brk=>exact y
  |cont=>exact y
 .obtain⟨O,H,f,I,e,rfl,⟨T0,d,o,hT⟩,N⟩:=q;have g:=F.ok;obtain⟨⟨vs,sl,a,r,k⟩,_,_⟩:=I.hok e _ o;obtain⟨⟨oT,ts,Z,p,h3⟩,_,_⟩:=I.hok T0 _ hT;have ff:s.heap.FunFrames X.base (X.env::X.outer):=by rw[<- c];exact I.stack
  refine Rj (by rw[g.frames,c]) ff b a rfl r d Z p h3 λh' T m=>?_;have J:=D6 I (by rw[o];trivial) a (Array.getElem?_eq_some_iff.mp r).1 k (by rw[c];exact m);have i:=X8 (XF (Xk a) m.new);have A:Qt (W7 X e _) [] O _ { s with heap:=h' }:=J.toHandler;refine wpAny_handleBy_cons (codeAny_handlers_test<|WT A hg Q ?_ hd) (by intro q;cases q);refine(W.exm_one J.kIn ((W.Looks.ld m.exc).andThen .now) cm).here (codeAny_handlers_suite ?_);have L:left C e f T H e=some (.ext<|phF C e f T):=by unfold left;rw[Qu<|Ne.symm i,QG]
  have G:left C e f T H T=some (.ext<|phT T):=by unfold left;rw[QG]
  refine Cb (A.hok e _ L).1 (A.hok T _ G).1 λp k2=>?_;have t:=A.kept (t':=s.toks) k2;have n:∀{O:St} {H:Hp} {s:Shared} {u:Option V},Qt (W7 X e<|X.pn++Y) [] O H s->O.set j u=O:=λI=>List.set_eq_of_length_le (by rw[I.len];exact Nat.le_of_eq R);have w:=N _ T .nil (I.hok.fresh m.new) i;rw[n t]at w;refine wpAny_mono (S e _ [] _ O _ (Dh dx j) t w) (λl s4 z=>?_) λ_ _ z=>False.elim z
  cases l with
  |next=>
   obtain⟨M,U,D,q⟩:=z;exact#[M,U,(D.ofHandler g).ofPn,by have q:dx.nx _ U:=q;rw[n D]at q;exact q]
  |ret u=>obtain⟨_,_,_,_,_,z⟩:=z;exact False.elim z
  |brk=>obtain⟨_,_,_,z⟩:=z;exact False.elim z
  |cont=>obtain⟨_,_,_,z⟩:=z;exact False.elim z
end
structure Cu(K:W.Frag)(C:Addr){δ:Type}(FL:Addr->Hp->Hp->Hp->Qj->δ->Prop)(ok:δ->Prop)(XO:δ->Addr->OT->Prop):Prop where
 go:∀{F F' H U H'':Hp} {e T:Addr} {dct:Qj} {d:δ},ok d->Q6 F F'->H e=none->FL e F' U H dct d->Lefts C e dct U H''->H'' T=none->T≠e->∃o p,XO d e o/\Zx K F (left C e dct T H'') (.ref e) o p/\∀a∈p,H a=none
def xoP(C:Addr)(f:Str)(ds:Qd)(e:Addr)(o:OT):Prop := ∃D q,o=.own (.ref e) (C3 C f ds e D q)
def T8{b:Addr}(f:Lefts C e dct U H'')(hT:H'' T=none)(c:b≠e)(h:U b=some o):left C e dct T H'' b=some o:=by
 have a:=Oz f c h;unfold left;rw[Qu (λz=>by subst z;rw[hT]at a;cases a),Qu c];exact a
def AN(h:T≠e):left C e dct T H e=some (.ext<|phF C e dct T):=by unfold left;rw[Qu<|Ne.symm h,QG]
theorem xfP:Cu K C (Fld f) Bu (xoP C f) where
 go:=by
  rintro F y H U m e T _ ds i s j ⟨D,q,xs,rfl,fl⟩ h hT c;refine#[_,[e,D,q],#[D,q,rfl],#[rfl,rfl,#[s.free fl.fe,s.free fl.fd,s.free fl.fq],#[T,AN c],T8 h hT fl.nd fl.hd,xs,T8 h hT fl.nq fl.hq,fl.rp.flats i],λa g=>?_];simp only[Xc,List.mem_nil_iff,or_false]at g;rcases g with rfl|rfl|rfl
  .exact j
  .exact fl.d0
  .exact fl.q0
section
variable {t:TA}{v:V}
def QL.setFr{t:OT}(S:QL K H0 F Z O H)(x:Q5 F H F1 L)(s:∀a∈p,H a=none)(h0:∀a∈p,H0 a=none)(h:Zx K F1 L v t p):QL K H0 F1 (Z.set i<|some t) (O.set i<|some v) L:=
 (S.ext x).set h h0 (hn:=λa y j w g q M E c m=>by
  obtain⟨X,B,W,A⟩:=S.fp;obtain⟨P,f,C⟩:=B j g M;rw[E]at f;cases f;exact(A j a<|BN (C.ext x) c a m).2 (s a y))
end
end L2
namespace L2
section
variable {r:R2}
def A4{th:TS}(m:QN K tA Z true)(hw:EvW K te Z i Θ)(hn:∀n o,Θ n o->QE K (Uq (Gi<|tOp r (tC<|.int n)<|tC c) th el) (Z.set i<|some o) dx):QE K (Uq (Hr tA<|Gi<|tOp r te<|tC c) th el) Z dx:=λF0 H0 F O H f x S C=>
 m H0 F O H _ S λs L h=>(Xi rfl).mpr <| hw F0 H0 s O L _ (x.trans h) (S.ext h) λy U n o g j _ q=>hn n o g F0 H0 y O U f j q C
end
end L2
namespace L2
def So(xs:List V)(H:Hp)(Q:VK):Prop := ∃x,xs=[.str x,.ty "str"]/\Q (.bl true) H
def Aw:ZE X (.builtin "isinstance") So:=by
 intro Y s O H xs i Q I r h;obtain⟨x,rfl,q⟩:=h;obtain⟨u,g,rfl,c,f⟩:=Uv r;cases (f);obtain⟨t,rfl⟩:=c;exact IsiPair.str_str #[.bl true,H,I.tok _,rfl,q]
def CN(h:Qq K ta Z (.str x)):Qq K (tCB So<|QM ta<|QM (tC<|.ty "str") QT) Z (.bool true):=λH0 F O H Q S q=>
 h H0 F O H _ S λg L v c f=>by
  cases f;exact#[x,rfl,q g L _ c<|.bl _]
end L2
namespace L2
section
variable {CR:Addr}{N:HandS}{v:V}{t:TA}
def Zpj(u:NoH m)(e:zg Z i<|zo v<|Zi CH N)(z:Zp K t Z ts)(w:R N ts Ψ)
(hn:∀r h,Ψ r h->dx.nx (Z.set i<|zo v<|Zi CH h)):
 QE K (GW λf=>Vm<|Hf λO=>ZV CH m (UV K CH CR FL R Rx) [] (EHq CR th f j O) (QF i) t) Z dx:=λF0 H0 F O H f x S c=>by
 obtain⟨p0,s0,C,_⟩:=Wd S x e;obtain⟨P,D,y,n,k,g,d,e',rfl,G⟩:=Zi.at C;refine#[.ref P,s0,P,D,_,rfl,G,u _ _ _ _ _ _,z H0 F O H _ S λL H2 Y s b=>.inl #[_,rfl,F7,?_]];obtain⟨p,T,B,M⟩:=Wd (S.ext s) (x.trans s) e;refine#[L,_,Y++[],p,ts,N,Ψ,rfl,(S.ext s).kt,s.fh,by rw[Xw];exact b,B,w,λW U l h Q r q o X E A a hq=>?_];obtain⟨I,J,_⟩:=M W U l h X E A;exact c.nx W _ U _ I J (hn r h o)
def ZrI(Y:∀vs H Q f,ZK K CR FL (λ_ _=>False) Rx vs H Q f->sp vs H Q f)(xf:Cu K CR FL ok XO)(hm:NoH m)(e:zg Z i<|zo v<|Zi CH N)(hA:Zp K t Z ts)(hR:Rx (.zow (Zf CH N)::ts) Φx)
(hth:∀d e o,Φx d->XO d e o->QE K (th e) (Z.set j<|some o) { nx:=λW=>dx.nx<|W.set j none,rt:=λ_=>False })(k:∀d,Φx d->ok d):
 QE K (GW λf=>Vm<|Hf λO=>ZV CH m sp [] (EHq CR th f j O) (QF i) t) Z dx:=λF0 H0 F O H f x S c=>by
 obtain⟨p0,s0,X,_⟩:=Wd S x e;obtain⟨R,D,y,n,k',g,d,e',rfl,h1⟩:=Zi.at X;refine#[.ref R,s0,R,D,_,rfl,h1,hm _ _ _ _ _ _,hA H0 F O H _ S λs L vs M r1=>Y _ _ _ _ ?_];have E:=S.ext M;obtain⟨p,_,A,_⟩:=Wd E (x.trans M) e;have P:Q6 s (frF s L p):=WW λa l=>((Zi CH N).there A a l).1;have fh:Q6 (frF s L p) L:=Da E.sub;refine#[frF s L p,_,E.kt.mono P,fh,.zow (Zi.fz A P λb hb=>Jr hb)<|by rw[Xw];exact r1.mono P,_,rfl,F7,.inr #[Φx,hR,λF' U e dct d I u G fl H'' T J hT C=>?_]];obtain⟨o,q,r,so,B⟩:=xf.go (k d I) (P.trans u.ff) G fl J hT C;have w:=NS (.step J hT C) u.hh G;have X0:Q5 s L s _:=#[w,Q6.refl _,E.sub.trans w,λ_ h=>.inl h];exact hth d e o I r F0 H0 s _ _ _ ((x.trans M).trans X0) (E.setFr X0 B (λa l=>(x.trans M).hh.free (B a l)) so) #[λF4 σ4 H4 ρ4 x4 S4 q4=>c.nx F4 _ H4 _ x4 (S4.setN none) q4,λ_ _ _ _ _ _ _ _ z=>False.elim z,λ_ _ _ _ _ _ z=>False.elim z,λ_ _ _ _ _ _ z=>False.elim z]
end
def Fun.evPN{w:World}{base:Heap}{i:Type}{Φ:i->OwnP}{x:Str}{st:Stmt}{f:Addr}{E:Qh}{k:Nat}{R:i->List OT->(OT->i->Prop)->Prop}(F:Fun K x qual st f fd)(S:Qo E ps (Q3 st))
(g:∀v M ts Ψ,R M ts Ψ->∀H c,B0 P w K mg base E qual st k f H c λt=>EvR K (Ys t<|VU<|tC .non) (ini E (.own v (Φ M)::ts))<|fiO v Φ Ψ)(m:∀M ts Ψ,R M ts Ψ->ts.length+1=ps.length:=by intro _ _ _ h;cases h<;>rfl):FnOk P w K mg base CX0 (k+1) f fd ps (spP K Φ R):=by
 refine F.ok S (λX H Q c h=>?_) λX H Q c h C A outer s b=>?_
 .obtain⟨F,W,j,p,ts,M,Ψ,e,_,_,y,_,B,_⟩:=h;rw[e,XT,y.length];exact m _ _ _ B
 .obtain⟨F,W,j,p,ts,M,Ψ,e,a,Y,y,Z,B,q⟩:=h;subst e;obtain⟨t,l,d⟩:=g W M ts Ψ B H c C A outer s b;exact#[t,l,Dd (R:=R) (q0:=λ_ _=>True) d a Y y Z q]
def Df.evPN{w:World}{base:Heap}{g:Type}{Φ:g->OwnP}{x:Str}{st:Stmt}{m:Qh}{k:Nat}{R:g->List OT->(OT->g->Prop)->Prop}(dx:Df K mg x st ps)(S:Qo m ps (Q3 st))
(c:∀f v M ts Ψ,R M ts Ψ->∀H i,B0 P w K mg base m x st k f H i λt=>EvR K (Ys t<|VU<|tC .non) (ini m (.own v (Φ M)::ts))<|fiO v Φ Ψ)(j:∀M ts Ψ,R M ts Ψ->ts.length+1=ps.length:=by intro _ _ _ h;cases h<;>rfl):Q2 P w K mg base x ps (k+1) (spP K Φ R):=
 dx.go λf fd F=>F.evPN S (c f) j
end L2
namespace L2
def InZ(C:Addr)(f:Str)(c:ZP):ZP where
 ok K F v := ∃a D u,v=.ref a/\F a=some (.ins C D [(f,u)])/\c.ok K F u
 mono:=by
  rintro K F i v s ⟨a,D,u,rfl,h,g⟩;exact#[a,D,u,rfl,s _ _ h,c.mono s g]
def InP.fz(hz:∀{F c H:Hp} {u:V} {q:Qg},Φ.ok K F H u q->Q6 F c->(∀b∈q,c b=H b)->ρ.ok K c u)(h:(InP C f Φ).ok K F H v p){G9:Hp}(s:Q6 F G9)(he:∀b∈p,G9 b=H b):(InZ C f ρ).ok K G9 v:=by
 obtain⟨a,D,u,q,rfl,rfl,A,B,y,E,g,m,j,k⟩:=h;exact#[a,D,u,rfl,by rw[he _<|by simp];exact g,hz k s λb i=>he b<|by simp[i]]
section
variable {ρ:ZP}{t:TA}
def TN(c:Cls K C)(m:Vt K C f)(e:zg Z i<|zz<|InZ C f ρ)(h:Zp K t Z ts):Zp K (QM (ZZ K (QF i) f) t) Z (.zow ρ::ts):=λH0 F O H Q S q=>by
 obtain⟨P,A,_⟩:=S.fp;obtain⟨v,B,_,a,D,u,rfl,y,s⟩:=A i _ e;refine#[_,B,a,C,D,_,u,rfl,S.sub _ _ y,c,m,by simp[List.lookup],h H0 F O H _ S λE L M g j=>q E L _ g<|.zow (ρ.mono g.ff s) j]
def Ia(E:(m==f)=false)(e:zg Z i<|zz<|InZ C f ρ)(W:Zp K t Z ts)(P:R (.zow (InZ C f ρ)::ts) Φ):Zu K (ZV C m (Zk K R) [] pos (QF i) t) Z Φ:=λH0 F O H Q S q=>by
 obtain⟨r,Y,_⟩:=S.fp;obtain⟨v,d,_,a,D,u,rfl,h,X⟩:=Y i _ e;refine#[_,d,a,D,_,rfl,S.sub _ _ h,by simp[List.lookup,E],W H0 F O H _ S λn L o c s=>?_];exact#[n,_,Φ,(S.ext c).kt,c.fh,.zow ((InZ C f ρ).mono c.ff #[a,D,u,rfl,h,X])<|by rw[Xw];exact s,P,λl k v p y A j B g=>q l k v p y A (c.trans j) (λb M=>c.hh.free<|B b M) g]
def BA(c:(m==f)=false)(e:zg Z i<|zz<|InZ C f ρ)(h:Zp K t Z ts)(g:R (.zow (InZ C f ρ)::ts) (λr=>r=.fz d)):Qq K (ZV C m (Zk K R) [] pos (QF i) t) Z d:=EvO.e (Zu.o<|Ia c e h g)
def ZqW{t:TE}(i:Nat)(e:zg Z i<|zo v<|InP C f<|Zi CH N)(g:∀r,Φ r->JB r)(h:Zu K t (Z.set i<|zz<|InZ C f<|Zf CH N) Φ):Zu K t Z Φ:=
 KW i e (λa b c=>InP.fz (λa b c=>Zi.fz a b c) a b c) g h
def ZoG{t:TE}(i:Nat)(e:zg Z i<|zo v<|InP C f<|Zi CH N)(g:V4 d=some u)(h:Qq K t (Z.set i<|zz<|InZ C f<|Zf CH N) d):Qq K t Z d:=
 EvO.e (Zu.o<|ZqW i e (λr c=>by subst c;exact GF g)<|h.o.d rfl)
end
end L2
namespace L2
section
variable {w:World}{pos:Qb}
def AB(hn:1<=n)(j:∀m (C:Bool->Shared->Prop),1<=m->m<n->C false s->cmp m (m-1) C s)(q:Q (List.toArray<|List.range n) s):(W.kas_sort n).kasWp cmp Q s:=by
 have c:∀(f m:Nat) (G:Nat->Shared->Prop),1<=m->m+f=n->G n s->(W.kas_asc (List.toArray<|List.range n) f m).kasWp cmp G s:=λf=>by
  induction f with
  |zero=>intro m G h w g;have:m=n:=#[];subst this;exact g
  |succ f i=>
   intro m G h w g;have A:(List.toArray<|List.range n).getD m 0=m:=by simp[Array.getD,show m<n by lia]
   have y:(List.toArray<|List.range n).getD (m-1) 0=m-1:=by simp[Array.getD,show m-1<n by lia]
   show cmp ((List.toArray<|List.range n).getD m 0) ((List.toArray<|List.range n).getD (m-1) 0) _ s;rw[A,y];exact j m _ h #[] (i (m+1) G #[] #[] g)
 unfold W.kas_sort;rw[W.KasT.kasWp_bind];unfold W.kas_count;rw[W.KasT.kasWp_bind];refine c (n-1) 1 _ (Xn 1) #[] ?_;rw[Xi<|by simp];show W.KasT.kasWp cmp (if n<n then _ else _) Q s;rw[Xg<|Y7 n];exact q
def Ah  {P:Fin->Shared->Prop}(o:s.heap.get? a=some (seqObj "list" vs.toArray n))(F:vs.length<64)(ks:Qn)
(hk:∀j v,vs[j]?=some v->∃b x t y,v=.ref b/\b≠a/\s.heap.get? b=some { cls:=.type "tuple",data:=.seq (List.toArray [.int x t,y]) }/\x=ks j)(up:∀j,j+1<vs.length->ks j<ks (j+1))
(h:P (.done<|.ret .none) { s with heap:=sortedHeap s.heap a vs vs.toArray }):wpAny (model prog w) A (Builtin.«list.sort» #[[.ref a],[]]) P pos s:=by
 rw[list_sort_plain];have R:a<s.heap.objs.size:=Xk o;have Y:vs.length<=sizeLine:=by rw[sizeLine_eq];lia
 refine Xa (listItems_at o rfl ?_);refine Xa (listUpdate_at o rfl ?_ (by rw[Xr];exact Y)<|XN _);obtain⟨N,k⟩:∃N,(s.heap.update a<|Obj.mapSeq λ_=>(List.toArray [])).get? a=some (seqObj "list" (List.toArray []) N):=⟨_,get?_update_seq o λ_=>(List.toArray [])⟩;refine Xa (seqEpoch_at k rfl ?_);refine Xa (wpAny_newTuple ?_<|by show vs.length<=_;exact Y);refine Xa (wpAny_newList ?_<|XN _);refine wpAny_holding ?_;have c:(((s.heap.update a<|Obj.mapSeq λ_=>(List.toArray [])).push (seqObj "tuple" vs.toArray 0)).push (seqObj "list" (List.toArray []) 0)).get? a=some (seqObj "list" (List.toArray []) N):=by
  rw[Heap.get?_push_ne _ _ _<|by rw[size_push',Heap.size_update];exact Xs<|Uf R,Heap.get?_push_ne _ _ _<|by rw[Heap.size_update];exact Xs R];exact k
 have B:∀j v,vs[j]?=some v->∃b x t y,v=.ref b/\(((s.heap.update a<|Obj.mapSeq λ_=>(List.toArray [])).push (seqObj "tuple" vs.toArray 0)).push (seqObj "list" (List.toArray []) 0)).get? b=some { cls:=.type "tuple",data:=.seq (List.toArray [.int x t,y]) }/\x=ks j:=λj v e=>by
  obtain⟨b,x,t,y,rfl,ne,g,e⟩:=hk j v e;exact#[b,x,t,y,rfl,Xd _<|Xd _<|(XV _ _<|Ne.symm ne).trans g,e]
 show wpAny (model prog w) A _ P pos { s with heap:=((s.heap.update a<|Obj.mapSeq λ_=>(List.toArray [])).push (seqObj "tuple" vs.toArray 0)).push (seqObj "list" (List.toArray []) 0) };have K:P (.done<|.ret .none) { s with heap:=(((s.heap.update a<|Obj.mapSeq λ_=>(List.toArray [])).push (seqObj "tuple" vs.toArray 0)).push (seqObj "list" (List.toArray []) 0)).update a (Obj.mapSeq λ_=>vs.toArray) }:=h;generalize (((s.heap.update a<|Obj.mapSeq λ_=>(List.toArray [])).push (seqObj "tuple" vs.toArray 0)).push (seqObj "list" (List.toArray []) 0))=H at c B K;dsimp only;have d:vs.toArray.size=vs.length:=by simp
 by_cases l:vs.toArray.size<2
 .rw[Xi l,Xi l];refine Xa (Xm ?_);rw[StateT.run_pure];refine Xa (Xm ?_);dsimp only;have e:(arrOf<|SortSt.mk' general' (vs.toArray.zip vs.toArray) (List.toArray []) 7 none).map (·.2)=vs.toArray:=by
   show(vs.toArray.zip vs.toArray).map (·.2)=vs.toArray
   apply Array.toList_inj.mp;simp only[Array.toList_map,Array.toList_zip];exact(List.map_snd_zip<|Xn _)
  rw[e];refine Xa (seqEpoch_at c rfl ?_);refine Xa (listUpdate_at c rfl ?_ (XN _)<|by rw[d];lia);simp only[failedOf,bne_self_eq_false,DY,if_false];exact Xm K
 .rw[Xg l,Xg l];have l2:2<=vs.length:=#[]
  have r:∀(M:Qe) (i:Nat),(∀j v,M[j]?=some v->vs[i+j]?=some v)->∃X,W.KatTups H M X/\X.length=M.length/\∀f∈X,∃x t,f=.int x t:=λM=>by
   induction M with
   |nil=>intro i D;exact#[[],.nil,rfl,by rintro _ ⟨⟩]
   |cons u M ih=>
    intro i D;obtain⟨X,J,U,I⟩:=ih (i+1) λj v e=>by rw[Nat.add_assoc,Nat.add_comm 1 j];exact D (j+1) v (by simpa using e)
    obtain⟨b,x,t,y,rfl,g,_⟩:=B i u (D 0 u rfl);exact#[_::X,.cons g rfl rfl rfl J,by simp[U],λf E=>by
     rcases Xc.mp E with rfl|E
     .exact#[_,_,rfl]
     .exact I f E]
  obtain⟨X,J,U,I⟩:=r vs 0 (λj v e=>by rw[Nat.zero_add];exact e);refine Xa (W.kat_kind (T:=.type "int") J #[] (λf E=>?_) rfl ?_)
  .obtain⟨x,t,rfl⟩:=I f E;exact W.Looks.of_pure rfl
  refine Xa (wpAny_mono (W.kat_run (Q:=λq Z=>Z={ s with heap:=H }/\(arrOf q).map (·.2)=vs.toArray/\failedOf q=none) (G:=λp Z=>p=List.toArray (List.range vs.length)/\Z={ s with heap:=H }) (ks:=vs) rfl l2 F (λp q Z a1 a2 a3 ⟨a4,a5⟩=>#[a5,?_,a3])<|AB #[] (λm C m1 O hC=>?_) #[rfl,rfl]) ?_ λ_ _ e=>e)
  .rw[W.kat_snds rfl a2,a4];apply Array.toList_inj.mp;show(List.range vs.length).map (λi=>vs.getD i Value.none)=vs
   apply List.ext_getElem (by simp);intro i S l;simp at S;simp[S]
  .obtain⟨b,x,t,y,eb,g,ex⟩:=B m _ (XS O);obtain⟨b',x',t',y',L,g',ex'⟩:=B (m-1) _ (XS (show m-1<vs.length by lia));show wpAny (model prog w) A (keyLt' _ (vs.getD m Value.none)<|vs.getD (m-1) Value.none) C _ _;have d1:vs.getD m Value.none=.ref b:=by rw[<- eb];simp[O]
   have d2:vs.getD (m-1) Value.none=.ref b':=by rw[<- L];simp[show m-1<vs.length by lia]
   rw[d1,d2];have lt:=up (m-1) #[];rw[show m-1+1=m by lia]at lt;refine W.kat_lt g rfl g' rfl (W.kat_cons<|wpAny_eqBool_int ?_);rw[show(x==x')=false by simp;lia];refine W.kat_no ?_;show wpAny (model prog w) A (oneLt' true _ _) C _ _;refine oneLt_int ?_;rw[XD<|#[]];exact hC
  .rintro⟨⟨⟩,q⟩ Z ⟨rfl,hs,E⟩;dsimp only;rw[hs];refine Xa (seqEpoch_at c rfl ?_);refine Xa (listUpdate_at c rfl ?_ (XN _)<|by rw[d];lia);rw[E];simp only[bne_self_eq_false,DY,if_false];exact Xm K
def IU(U:A.handled=none)(D:s.heap.IsItemsView r d)(S:s.heap.DictAt (V6 prog w) d kvs ep)(O:s.heap.objs.size=r+1)(P:kvs.length<64)(is:Ql)(G:kvs.map (·.1)=is.map Sum.inl)(J:is.Pairwise (· < ·))
(q:∀(M:Heap) (C:Nat) (l e:Nat) (as:Qg),(∀b o,s.heap.get? b=some o->M.get? b=some o)->s.heap.objs.size<=l->(∀a∈as,s.heap.objs.size<=a/\a≠l)->as.Nodup->M.get? l=some (seqObj "list" (as.map Value.ref).toArray e)->as.length=kvs.length->
  (∀(j:Nat) (a:Addr),as[j]?=some a->∃c k x,kvs[j]?=some (k,x)/\(V6 prog w).is k c=true/\M.get? a=some { cls:=.type "tuple",data:=.seq (List.toArray [c,x]) })->Q (.ref l) { s with heap:=M,toks:=C }):
 wpAny (model prog w) A (call (.builtin "sorted") [.ref r]) Q pos s:=by
 refine Calls.call_function_entry kind_sorted plain_sorted entry_sorted (args_sorted1 _) ?_;unfold Builtin.«sorted»;refine Xa (m:=checkCount "sorted" 1 1 _) (Xm ?_);have z:kvs.length<=sizeLine:=by rw[sizeLine_eq];lia
 refine Xa (W.kdx_collect (A:=A.in1) (knd:=V6 prog w) (kvs:=kvs) (ep:=ep) U D S z λh' C as F E B=>?_);refine Xa (wpAny_newList ?_<|by rw[Xf,E];exact z);have X:(h'.push<|seqObj "list" (as.map Value.ref).toArray 0).get? h'.objs.size=some (seqObj "list" (as.map Value.ref).toArray 0):=Xt _ rfl;have th:∀a∈as,a<h'.objs.size:=λa K=>B.there K
 have N:∀(j:Nat) (k:Key) (x:Value),kvs[j]?=some (k,x)->k=.inl (is.getD j 0):=λj k x e=>by
  have f:(kvs.map (·.1))[j]?=some k:=by rw[Xy,e];rfl
  rw[G,Xy]at f;cases z:is[j]? with
  |none=>rw[z]at f;cases f
  |some i=>rw[z]at f;simp at f;rw[<- f];simp[List.getD,z]
 have li:is.length=kvs.length:=by
  have:=Xz List.length G;simpa using this.symm
 refine Xa (wpAny_holding<|wpAny_call_entry slot_list_sort #[_,X,rfl] entry_list_sort (Ah (s:={ s with heap:=h'.push (seqObj "list" (as.map Value.ref).toArray 0),toks:=C }) X (by rw[Xf,E];exact P) (λj=>is.getD j 0) (λj v e=>?_) (λj T=>?_) #[_,rfl,?_])<|args_list_sort _)
 .rw[Xy]at e;obtain⟨a,I,rfl⟩:=Ma.mp e;obtain⟨c,k,x,p,n,Z⟩:=B.pairs j a I;have:=N j k x p;subst this;rcases W6 (k:=.inl (is.getD j 0)) n with ⟨i,t,Y,H⟩|⟨y,t,Y,H⟩
  .cases Y;subst H;exact#[a,_,t,x,rfl,Xs<|th a<|List.mem_of_getElem? I,Xd _ Z,rfl]
  .cases Y
 .rw[Xf,E]at T;have:=List.pairwise_iff_getElem.mp J j (j+1) #[] #[] #[];simpa [show j<is.length by lia,show j+1<is.length by lia] using this
 .refine Xm #[_,rfl,?_];obtain⟨e,he⟩:=sortedHeap_at (vs:=as.map Value.ref) (out:=(as.map Value.ref).toArray) X;have g:∀b o,h'.get? b=some o->(sortedHeap (h'.push<|seqObj "list" (as.map Value.ref).toArray 0) h'.objs.size (as.map Value.ref) (as.map Value.ref).toArray).get? b=some o:=λb o e=>by
   have u:=Xk e;rw[sortedHeap_old (Xs u)<|by rw[size_push'];exact Uf u];exact Xd _ e
  have L:s.heap.objs.size<=h'.objs.size:=by
   obtain⟨o,R,_⟩:=D;rw[O];exact Xk (F r o R)
  exact q _ C h'.objs.size e as (λb o hb=>g b o<|F b o hb) L (λa K=>#[Wr<|B.above a K,Xs<|th a K]) (B.rise.imp λh=>Xs h) he E (λj a ej=>by
   obtain⟨c,k,x,p,n,Z⟩:=B.pairs j a ej;exact#[c,k,x,p,n,g _ _ Z])
end
def Qt.lays{O:St}{H U:Hp}{t':Nat}(I:Qt X Y O H s)(k:∀b u,s.heap.get? b=some u->h'.get? b=some u)(f:Q6 H U)(nw:∀b o,U b=some o->H b=some o\/s.heap.objs.size<=b/\ZT X.prog X.w U h' b o):
 Qt X Y O U { s with heap:=h',toks:=t' }:=
 I.un #[λb u q _ _ _=>k b u q,λb u q _ _ _=>#[u.slots,k b u q],λb u q n _=>by
  cases z:U b with
  |none=>rfl
  |some o=>
    rcases nw b _ z with y|y
    .rw[n]at y;cases y
    .exact Xu (Xk q) (Nat.not_lt.mpr y.1),λb u q _=>#[u,k b u q],λb xs q=>f _ _ q,λb u xs q=>f _ _ q,λb _ g _ e _=>k b g e,λb ps q=>#[(List.toArray []),by rw[f _ _ q];simp]]
  λb u e=>by
   rcases nw b u e with y|y
   .exact(I.hok b u y).stay (λc v _ q=>k c v q) (λc q=>f _ _ q) λc xs q=>f _ _ q
   .exact y.2
theorem Paired.get{i g:Type}{F:i->g->Prop}:∀{l:List i} {m:List g} {j:Nat} {a:i} {b:g},_root_.PySem.Paired F l m->l[j]?=some a->m[j]?=some b->F a b
 |_,_,0,_,_,.cons h _,f,c=>by simp at f c;subst f c;exact h
 |_,_,j+1,_,_,.cons _ t,f,c=>Paired.get t (by simpa using f) (by simpa using c)
def S9(te:TE):TE:=λO H Q=>te O H λx L=>∃(a:Addr) (c:List (Key×V)) (h:Ql),x=.ref a/\L a=some (.dK c)/\c.map (·.1)=h.map Sum.inl/\h.Pairwise (· < ·)/\c.length<64/\
 ∀(U:Hp) (f:Qg) (l:Addr),f.length=c.length->(∀b∈l::f,L b=none)->Q6 L U->(∀b,b∉l::f->U b=L b)->U l=some (.lst<|f.map V.ref)->(∀(j:Nat) (b:Addr) (g:Key×V),f[j]?=some b->c[j]?=some g->U b=some (.tup [kV g.1,g.2]))->Q (.ref l) U
open Classical in
def Zs4{e:Expr}{p:Pos}(hc:X.calm=true)(he:PE X e te)(hg:Gl X "sorted")(hm:X.mg "sorted"=none)(hv:bootBuiltins "sorted"=some (.builtin "sorted"))(r:attributeBase e "items" X.env (eval e X.env)=eval e X.env:=by rfl)(d:(X3.endLine==UH.line)=true:=by rfl)
(hs:starEach [Expr.Call (.Attribute e "items" X3) [] [] UH] X.env=(false,eval (Expr.Call (.Attribute e "items" X3) [] [] UH) X.env)::starEach [] X.env:=by rfl)(hpl:(backTo E<|starEach [] X.env).any (·.1)=false:=by rfl):
 PE X (.Call (.Name "sorted" p) [.Call (.Attribute e "items" X3) [] [] UH] [] E) (S9 te):=by
 intro Y s O H Q I h;refine wpAny_Call_Name_kw (Jp I hg hm hv ?_ (by decide)<|by decide);refine PyProof.Rows.callWith_builtin1 ?_ hs hpl;rw[hs];show wpAny _ _ (spliced ((false,eval _ X.env)::backTo E _)) _ _ s;refine Calls.spliced_cons (wpAny_Call_method0_late r d<|Q8 (he Y s O H _ I h) ?_);rintro v S ⟨x,L,I1,r1,a,m,is,ex,ha,hi,up,l64,q⟩;subst ex;cases r1;obtain⟨z,n1,vs,M,N⟩:=I1.hok _ _ ha;obtain⟨ep,hat⟩:=N.dictAt;refine#["dict","dict.items",PySem.F.plainAttrs_dict,PySem.F.slot_dict_items,PySem.F.type_dict_items,N.typeIs,(λb eb=>by cases eb;obtain⟨o,es,ep',g1,g2,_⟩:=N;exact#[o,g1,g2.2.1]),Calls.callWith_builtin rfl (PySem.evalArgs_none<|call_meetsIn PySem.F.slot_dict_items N.typeIs PySem.F.entry_dict_items (PySem.F.args_dict_items_1 _) (meets_dict_items (V6 X.prog X.w) a n1) #[#[vs,N],?_])];refine Calls.spliced_nil ?_;have lv:=M.length;refine IU (I.ok.hd hc) #[_,Xt _ rfl,rfl,rfl] (hat.push _) (by show(Heap.push _ _).objs.size=_;rw[X9]) #[] is (by rw[<- M.keys];exact hi) up λh2 tk l e B old le W nd hl hal w=>?_;have D:∀b o,S.heap.get? b=some o->h2.get? b=some o:=λb o q=>old b o (Xd _ q);have F:S.heap.objs.size<=l:=Xl (by show _<=(Heap.push _ _).objs.size;rw[X9];exact GR _) le;have A:∀a∈B,S.heap.objs.size<=a/\a≠l:=λa ha=>#[Xl (by show _<=(Heap.push _ _).objs.size;rw[X9];exact GR _) (W a ha).1,(W a ha).2]
 have g:∀b∈l::B,L b=none:=λb f=>by
  rcases Xc.mp f with rfl|f
  .exact I1.hok.fresh F
  .exact I1.hok.fresh (A b f).1
 let U:Hp:=λb=>if b=l then some (.lst<|B.map V.ref) else if z:∃(j:Nat) (C:Key×V),B[j]?=some b/\m[j]?=some C then some (.tup [kV z.choose_spec.choose.1,z.choose_spec.choose.2]) else L b
 have n:U l=some (.lst<|B.map V.ref):=Xi rfl;have Z:∀(j:Nat) (b:Addr) (C:Key×V),B[j]?=some b->m[j]?=some C->U b=some (.tup [kV C.1,C.2]):=λj b C K e2=>by
  have z:∃(j:Nat) (C:Key×V),B[j]?=some b/\m[j]?=some C:=#[j,C,K,e2]
  show(if b=l then _ else if z:_ then _ else _)=_
  rw[Xg (A b<|List.mem_of_getElem? K).2,dif_pos z];obtain⟨g1,g2⟩:=z.choose_spec.choose_spec;have R:z.choose=j:=(List.getElem?_inj (Xh.mp g1).1 nd).mp (g1.trans K.symm);have e3:m[z.choose]?=some C:=by rw[R];exact e2
  rw[Option.some.inj<|g2.symm.trans e3]
 have sm:Q6 L U:=λb o f=>by
  show(if b=l then _ else if z:_ then _ else _)=_
  rw[Xg (λc=>by rw[c,g l Xb]at f;cases f),dif_neg (λ⟨j,C,K,_⟩=>by rw[g b<|Xe _<|List.mem_of_getElem? K]at f;cases f)];exact f
 have P:∀b,b∉l::B->U b=L b:=λb f=>by
  show(if b=l then _ else if z:_ then _ else _)=_
  rw[Xg (λc=>f<|by rw[c];exact Xb),dif_neg (λ⟨j,C,K,_⟩=>f<|Xe _<|List.mem_of_getElem? K)]
 refine#[.ref l,U,I1.lays (s:=S) (t':=tk) D sm λb o f=>?_,rfl,q U B l #[] g sm P n Z]
 by_cases J:b=l
 .subst J;rw[n]at f;cases f;refine .inr #[F,by rw[Xf];lia,B.map Value.ref,e,?_,hl];clear hl hal w Z W A g P sm nd n U;induction B with
  |nil=>exact .nil
  |cons a B ih=>exact .cons rfl ih
 .by_cases u:b∈B
  .obtain⟨j,R⟩:=List.mem_iff_getElem?.mp u;obtain⟨G,k,x,K,e2,e3⟩:=w j b R;have hj:j<m.length:=by
    have:=(Xh.mp R).1;lia
   have e4:m[j]?=some m[j]:=XS hj;rw[Z j b _ R e4]at f;cases f;have T:=Paired.get M e4 K;have rk:QR (kV m[j].1) G:=by
    rw[T.1];rcases W6 (k:=k) e2 with ⟨i,t,e5,e6⟩|⟨y,t,e5,e6⟩
    .rw[e5,e6];exact#[t,rfl]
    .rw[e5,e6];exact#[t,rfl]
   have T:=T.2;exact .inr #[(A b u).1,by show(2:Nat)<=_;decide,[G,x],.cons rk<|.cons T .nil,_,e3,rfl,_,rfl]
  .rw[P b λc=>by rcases Xc.mp c with c|c;exact J c;exact u c]at f;exact .inl f
theorem FI{F f:Hp}(s:Q6 F f):∀{xs:List (Key×V)} {kvs:Zw} {as:Qg},PairK F xs kvs->as.length=xs.length->(∀(j:Nat) (b:Addr) (c:Key×V),as[j]?=some b->xs[j]?=some c->f b=some (.tup [kV c.1,c.2]))->Q0 f (as.map V.ref) (kvs.map λc=>.tuple [JD c.1,c.2])
 |_,_,[],.nil,_,_=>.nil
 |_,_,a::as,.cons r t,g,h=>.cons (.tup (h 0 a _ rfl rfl)<|.cons (AJ _)<|.cons (r.mono s) .nil) (FI s t (by simpa using g) λj b c m i=>h (j+1) b c (by simpa using m)<|by simpa using i)
def Ow{is:Ql}(e:zg Z i<|zz<|DkZ kvs)(k:kvs.map (·.1)=is.map Sum.inl)(W:is.Pairwise (· < ·))(l:kvs.length<64):Qq K (S9<|QF i) Z (.list<|kvs.map λA=>.tuple [JD A.1,A.2]):=λH0 F O H Q S q=>by
 obtain⟨a,xs,B,r,C⟩:=S.dkz e;have u:=C.length;refine#[_,B,a,xs,is,rfl,S.sub _ _ r,by rw[C.key];exact k,W,#[],λU y p n g E X d Y=>?_]
 classical
 have s:∀{b},b∈p::y->(λb=>if b∈p::y then U b else F b:Hp) b=U b:=λh=>Xi h;have m:∀{b},b∉p::y->(λb=>if b∈p::y then U b else F b:Hp) b=F b:=λh=>Xg h;generalize (λb=>if b∈p::y then U b else F b:Hp)=P at s m
 have M:Q6 F P:=λb o f=>by
  rw[m λc=>by rw[S.sub.free<|g b c]at f;cases f];exact f
 refine q P U (.ref p) #[E,M,λb o f=>?_,λb f=>?_] (.lst (by rw[s Xb];exact d)<|FI M C #[] λj b A B t=>by rw[s<|Xe _<|List.mem_of_getElem? B];exact Y j b A B t)
 .by_cases c:b∈p::y
  .rw[s c]at f;exact f
  .rw[m c]at f;exact E _ _ (S.sub _ _ f)
 .by_cases c:b∈p::y
  .exact .inr (g b c)
  .rw[m c]at f;exact .inl f
end L2
namespace L2
def Sk(xs:List V)(H:Hp)(Q:VK):Prop := ∃x T,xs=[x,.ty "str"]/\TyN H x T/\Q (.bl<|T == "str") H
def Kn:ZE X (.builtin "isinstance") Sk:=by
 intro Y s O H xs Z Q I r h;obtain⟨x,T,rfl,y,q⟩:=h;obtain⟨u,P,rfl,f,C⟩:=Uv r;cases (C);have c:∀t,EP X Y O Q _ { s with toks:=t }:=λt=>#[.bl<|T == "str",H,I.tok t,rfl,q]
 cases y with
 |non=>cases f;exact IsiPair.NoneType_str (c _)
 |bl b=>cases f;exact IsiPair.bool_str (c _)
 |int i=>obtain⟨t,rfl⟩:=f;exact IsiPair.int_str (c _)
 |str x=>obtain⟨t,rfl⟩:=f;exact IsiPair.str_str (c _)
 |lst g=>
  cases f;obtain⟨z,j,n,A,m⟩:=I.hok _ _ g;exact IsiPair.list_str m rfl (c _)
 |tup g=>
  cases f;obtain⟨z,j,A,o,m,M,n,dd⟩:=I.hok _ _ g;exact IsiPair.tuple_str m M (c _)
 |dct g=>
  cases f;obtain⟨z,a,W,B,o,es,d,K,E,_⟩:=I.hok _ _ g;exact IsiPair.dict_str K E.1 (c _)
def Ku(h:Qq K ta Z a):Qq K (tCB Sk<|QM ta<|QM (tC<|.ty "str") QT) Z (.bool<|tyD a == "str"):=λH0 F O H Q S q=>
 h H0 F O H _ S λg L v c f=>#[v,_,rfl,(f.mono c.fh).ty,q g L _ c<|.bl _]
def UI{g:XK}{q:CXT}  {o e:Expr}{i:TE}{t:TA}{k:Nat}{s:Sem Bool}(M:∃f fd,Meth X.K C m f/\Va X.K fd ps []/\FnOk X.prog X.w X.K X.mg X.base q j f fd ps sp)(c:Cls X.K C)(B:Room k X.A)(y:Ye q X g)(he:PE X o i)(Y:PA X (e::es) t)(P:j<=k:=by walk_at"j")
(h:zs X e es:=by rfl)(hpl:(backTo E<|starEach es X.env).any (·.1)=false:=by rfl)
(A:eval (.Call (.Attribute o m X3) (e::es) [] E) X.env=(do
  let ov <- eval o X.env
  standAt X3.atName
  let (f,first) <- holding [ov] (getMethod ov m s)
  callWith E f first (backTo E<|starEach (e::es) X.env)<|backToKw E<|keywordEach [] X.env):=by rfl):
 PE X (.Call (.Attribute o m X3) (e::es) [] E) (ZV C m sp [] g i t):=by
 obtain⟨f,fd,K,W,F⟩:=M;exact KL he c K F (B.mono P) W .nil y Y h hpl A
section
variable {CR:Addr}{v:V}{t:TA}
def Zn2{c:Type}{Φ:c->OwnP}{N:c}{R:c->List OT->(OT->c->Prop)->Prop}{Ψ:OT->c->Prop}(k:(m==f)=false)(e:zg Z i<|zo v<|InP C f<|Φ N)(n:Zp K t Z ts)(l:R N ts Ψ)(hn:∀r g,Ψ r g->dx.nx (Z.set i<|zo v<|InP C f<|Φ g)):
 QE K (Vm<|ZV C m (spP K (λN=>InP C f<|Φ N) R) [] E' (QF i) t) Z dx:=λF0 H0 F O H X x S G=>by
 obtain⟨Q,s0,⟨a,D,u,q,rfl,_,_,_,_,_,b,_⟩,_⟩:=Wd (Φ:=λN=>InP C f<|Φ N) S x e;refine#[_,s0,a,D,_,rfl,b,by simp[List.lookup,k],n H0 F O H _ S λz L M h W=>?_];obtain⟨p,J,s,A⟩:=Wd (Φ:=λN=>InP C f<|Φ N) (S.ext h) (x.trans h) e;refine#[z,_,M++[],p,ts,N,Ψ,rfl,(S.ext h).kt,h.fh,by rw[Xw];exact W,s,l,λB U Y g I r q d E y j P T=>?_];obtain⟨o,w,_⟩:=A B U Y g E y j;exact G.nx B _ U _ o w (hn r g d)
def OO(l:BackF FL)(B:(m==f)=false)(e:zg Z i<|zz<|InZ C f ρ)(X:Zp K t Z ts)(W:Rx (.zow (InZ C f ρ)::ts) Φx)(st:ZU CR RR)
(A:∀h U e c d,Φx d->Q5 F0 H0 h U->H0 e=none->FL e h U H0 c d->RR e c U)(x:Q5 F0 H0 F H)(S:QL K H9 F Z O H):
 ZV C m (ZK K CR FL R Rx) [] (XE CR RR) (QF i) t O H Q:=by
 obtain⟨p,b,_⟩:=S.fp;obtain⟨v,k,_,a,D,u,rfl,q,Y⟩:=b i _ e;refine#[_,k,a,D,_,rfl,S.sub _ _ q,by simp[List.lookup,B],X H9 F O H _ S λn r o g y=>?_];have j:=x.trans g;exact#[n,_,(S.ext g).kt,g.fh,.zow ((InZ C f ρ).mono g.ff #[a,D,u,rfl,q,Y])<|by rw[Xw];exact y,RR,rfl,st,.inr #[Φx,W,λh U e c d P s M E=>A h U e c d P (j.trans s) (j.hh.free M)<|l.back E j.hh]]
def Tm(m:BackF FL)(j:Zp K t Z ts)(i:Rx ts Φx)(st:ZU C RR)(h:∀f U e c d,Φx d->Q5 F0 H0 f U->H0 e=none->FL e f U H0 c d->RR e c U):EvZ K F0 H0 (VU<|Ve (ZK K C FL R Rx) [] (XE C RR) t) Z:=λF O H g x S=>LU m j i st h x S
def Au(hm:NoH m)(e:zg Z i<|zo v<|Zi C N)(hA:Zp K t Z ts)(hR:R N ts Ψ)(st:ZU CR RR)
(hs:∀r h,Ψ r h->∃u kvs Φ,r=.own u (dkP kvs)/\Rf [.zow<|DkZ kvs] Φ/\∀A,Φ A->∃d w,A=.fz d/\V4 d=some w/\Ψ0 (.fz d) (Z.set i<|zo v<|Zi C h)):
 EvR K (VU<|Ve (Zk K Rf) [] E'<|QM (ZV C m (UV K C CR FL R Rx) [] (XE CR RR) (QF i) t) QT) Z Ψ0:=λF0 H0 F O H pos x S k=>by
 obtain⟨p0,s0,P,_⟩:=Wd S x e;obtain⟨Q,D,y,n,k',g,d,e',rfl,h1⟩:=Zi.at P;refine#[.ref Q,s0,Q,D,_,rfl,h1,hm _ _ _ _ _ _,hA H0 F O H _ S λF2 H2 vs s A=>.inl #[RR,rfl,st,?_]];obtain⟨p,s1,M,G⟩:=Wd (S.ext s) (x.trans s) e;refine#[F2,_,vs++[],p,ts,N,Ψ,rfl,(S.ext s).kt,s.fh,by rw[Xw];exact A,M,hR,λj U p' h v' r q hr T W B E hq=>?_];obtain⟨X',I,_⟩:=G j U p' h T W B;obtain⟨u,kvs,Φ,rfl,hf,Y⟩:=hs r h hr;obtain⟨_,f⟩:=E;have th:∀a∈q,j a=none/\U a≠none:=λa o=>(dkP kvs).there f a o;have L:Q6 j (frF j U q):=WW λa o=>(th a o).1;refine#[frF j U q,_,Φ,I.kt.mono L,Da I.sub,.zow (dkP.fz f L λb hb=>Jr hb) .nil,hf,λF4 H4 v4 q4 r4 l x4 hq4 c=>?_];obtain⟨d4,w4,rfl,fl,X⟩:=Y r4 l;have J:=BG th x4;exact k _ O H4 _ v4 (.fz d4) [] (X'.trans J) (I.ext J) #[rfl,c.2.thin fl] (by rintro _ ⟨⟩) (by rintro _ ⟨⟩) X
end
end L2
namespace L2
def Gj(z:Str)(n:Nat):Str:=#[(z.cps.toList.drop n).toArray]
def Sw:V->Option Int->Option Int->Hp->VK->Prop:=λx c f H Q=>∃(z:Str) (n:Nat),x=.str z/\c=some (n:Int)/\f=none/\n<=z.length/\z.length<=sizeLine/\Q (.str<|Gj z n) H
def IH:SlR X Sw:=by
 intro Y s O H x v P M a d Z Q I f y j g h;obtain⟨z,n,rfl,rfl,rfl,b,m,q⟩:=h;obtain⟨t,rfl⟩:=f;cases g;cases j with
 |int i c=>
  refine#["str",_,PySem.F.slot_str_getitem.lookup,typeIs_str _ _ _,wpAny_getItem_str_slice (l:=some ((n:Int),c)) (u:=none) (st:=none) ?_ rfl ?_]
  .obtain⟨o,E,C,B⟩:=y;exact#[o,E,C,B]
  .refine post_val_or_str #[Xl (Txt.slice_le z _ _) m,λW k=>#[.str _,H,I.tok _,#[_,rfl],?_]];have A:z.cps.toList.length=z.length:=Array.length_toList;have e:=StrLaws.sliceText_from (x:=z) (i:=(n:Int)) #[#[],by rw[A];lia];have K:StrLaws.sliceText z (some (n:Int)) none=Gj z n:=by
    rw[e,X5,List.take_of_length_le<|by rw[List.length_drop];lia];rfl
   rw[<- K]at q;exact q
def rUp:V->List V->Hp->VK->Prop:=λx c H Q=>∃z:Str,x=.str z/\c=[]/\(Txt.upper z).length<=sizeLine/\Q (.str<|Txt.upper z) H
def ZrW:MtR X "str.upper" rUp:=by
 intro Y s O H x xs v i Q I f g h;obtain⟨z,rfl,rfl,c,q⟩:=h;obtain⟨t,rfl⟩:=f;cases g;exact call_gives F.slot_str_upper (typeIs_str _ _ _) F.entry_str_upper (F.args_str_upper_1 _) (gives_str_upper z t<|by unfold Builtin.Str.tooLong;exact XD<|Nat.not_lt.mpr c) #[c,.str _,H,I.tok _,#[_,rfl],q]
section
variable {tb:TE}
def Zs0{z:Str}{n:Nat}(j:Qq K ta Z (.str z))(i:Qq K tb Z (.int (n:Int)))(hn:n<=z.length)(hz:z.length<=sizeLine):Qq K (tSl Sw ta (HL tb) KC) Z (.str<|Gj z n):=λH0 F O H Q S q=>
 j H0 F O H _ S λy L v c h=>by
  cases h;refine i H0 y O L _ (S.ext c) λs m w f g=>?_
  cases g;exact#[_,rfl,z,n,rfl,rfl,rfl,hn,hz,q s m _ (c.trans f)<|.str _]
def Oo(g:Qq K ta Z (.str z))(hz:(Txt.upper z).length<=sizeLine):Qq K (S7 K "str" rUp ta) Z (.str<|Txt.upper z):=λH0 F O H Q S q=>
 g H0 F O H _ S λh L v c f=>by
  cases f;exact#[rfl,z,rfl,rfl,hz,q h L _ c<|.str _]
end
structure Cv(K:W.Frag)(mg:Str->Qf)(Xa1 C q1 q2 q3 q4 q5 q6:Addr):Prop where
 em:W.exmOne K (.ref C) (.ref Xa1)=some true
 my:mg "YardError"=some (.ref Xa1)
 is:Hd K C
 k1:W.kitOne K (.ref C) (.ref C)=some true
 k2:W.kitOne K (.ref C) (.type "ValueError")=some true
 ka:W.kitAny K (.ref C) [.ref q1,.ref q2,.ref q3,.ref q4,.ref q5,.ref q6]=some false
 m0:mg "NoRow"=some (.ref C)
 m1:mg "NoGuest"=some (.ref q1)
 m2:mg "NoNumber"=some (.ref q2)
 m3:mg "NoRoom"=some (.ref q3)
 m4:mg "NoText"=some (.ref q4)
 m5:mg "NoTime"=some (.ref q5)
 m6:mg "NoYard"=some (.ref q6)
end L2
namespace L2
def HJ(P:Program)(w:World)(K:W.Frag)(mg:Str->Qf)(base:Heap)(x:Str)(C:Addr)(ps:Qh)(k:Nat)(sp:Sp):Prop:=
 ∃f fd,Mk K C f/\mg x=some (.ref C)/\Va K fd ps []/\FnOk P w K mg base CX0 k f fd ps sp
def ZrF  {x:Str}{p:Pos}{e:Expr}{t:TA}{k:Nat}(M:HJ X.prog X.w X.K X.mg X.base x C ps j sp)(g:Room k X.A)(s:PA X (e::es) t)(i:j+1<=k:=by walk_at"j")(m:Gl X x:=by rfl)(c:(x==("__debug__" : Str))=false:=by decide +kernel)
(he:zs X e es:=by rfl)(hpl:(backTo E<|starEach es X.env).any (·.1)=false:=by rfl):
 PE X (.Call (.Name x p) (e::es) [] E) (JL C sp [] E0 t):=by
 obtain⟨f,fd,M,h,q,F⟩:=M;exact To M F (g.mono i) m h q .nil YV s c he hpl
def E7(i:Nat)(e:zg Z i<|zo v<|InP C f<|Zi CH N)(h:QE K t (Z.set i<|zz<|InZ C f<|Zf CH N) dx):QE K t Z dx:=
 Ks i e (λa b c=>InP.fz (λa b c=>Zi.fz a b c) a b c) h
end L2
section
namespace My
open PySem L2 Mir
def zc(s:String):Lean.MacroM (Lean.TSyntax `tactic):=match s with
 |"d"=>`(tactic| dsimp only [List.set])
 |"e"=>`(tactic| dsimp only [List.set,JK,List.map,WQ])
 |"x"=>`(tactic| try dsimp only [VP,Zr3])
 |"p"=>`(tactic| exact ⟨rfl,rfl,rfl,by decide +kernel,rfl,by decide +kernel,by decide +kernel⟩)
 |"j"=>`(tactic| first | decide | omega)
 |_=>Lean.Macro.throwUnsupported
local macro_rules|`(tactic| walk_at $s:str)=>zc s.getString
seal PA PE PI PS PSs PT PG
noncomputable def top(i:Nat):Stmt:=PySem.Challenge.pw_chargeyard_k81_rows_of_no_desk.main.body.getD i (.Pass #[0,0,0,0])
abbrev NK:Stmt:=top 10
abbrev RM:Stmt:=top 11
abbrev Rh:Stmt:=top 12
abbrev Rz:Stmt:=top 13
abbrev NZ:Stmt:=top 14
abbrev DM:Stmt:=top 15
abbrev Nx:Stmt:=top 16
abbrev D9:Stmt:=top 17
abbrev N9:Stmt:=top 18
abbrev NH:Stmt:=top 19
abbrev NL:Stmt:=top 20
abbrev RA:Stmt:=top 21
abbrev NU:Stmt:=top 22
abbrev NY:Stmt:=top 23
abbrev Nz:Stmt:=top 24
abbrev NJ:Stmt:=top 25
abbrev N8:Stmt:=top 26
abbrev ND:Stmt:=top 27
abbrev Rr:Stmt:=top 28
abbrev RC:Stmt:=top 29
abbrev RB:Stmt:=top 35
abbrev Ru:Stmt:=top 36
abbrev Rq:Stmt:=top 37
abbrev Re:Stmt:=top 38
abbrev R8:Stmt:=top 39
abbrev DB:Stmt:=top 40
abbrev DS:Stmt:=top 41
abbrev DP:Stmt:=top 42
abbrev DF:Stmt:=top 44
abbrev Ra:Stmt:=top 45
abbrev DK:Stmt:=top 46
abbrev DC:Stmt:=top 47
abbrev RI:Stmt:=top 49
abbrev R4:Stmt:=top 50
abbrev R5:Stmt:=top 51
abbrev D7:Stmt:=top 55
abbrev DI:Stmt:=top 56
abbrev R0:Stmt:=top 57
abbrev Ry:Stmt:=top 58
abbrev RG:Stmt:=top 59
abbrev Rw:Stmt:=top 60
abbrev D1:Stmt:=top 61
abbrev DJ:Stmt:=top 62
abbrev Rv:Stmt:=top 63
abbrev DA:Stmt:=top 64
abbrev BX:Stmt:=top 65
abbrev Kt:Stmt:=top 66
abbrev NG:Stmt:=top 69
abbrev KR:Stmt:=top 70
abbrev DR:Stmt:=top 71
abbrev RE:Stmt:=top 72
abbrev JX:Stmt:=top 73
abbrev Nm:Stmt:=top 74
abbrev RH:Stmt:=top 77
abbrev Ro:Stmt:=top 78
abbrev R6:Stmt:=top 79
abbrev Ri:Stmt:=top 80
abbrev DO:Stmt:=top 81
abbrev BT:Stmt:=top 82
abbrev RF:Stmt:=top 83
abbrev NP:Stmt:=top 84
abbrev DL:Stmt:=top 85
abbrev Jl:Stmt:=top 86
abbrev GJ:Stmt:=Vo (top 4) 0
abbrev GL:Stmt:=Vo (top 6) 0
abbrev GK:Stmt:=Vo (top 34) 0
abbrev NB:Stmt:=Vo (top 34) 1
abbrev R1:Stmt:=Vo (top 34) 2
abbrev NM:Stmt:=Vo (top 34) 3
abbrev R3:Stmt:=Vo (top 34) 4
abbrev DE:Stmt:=Vo (top 34) 5
abbrev Rb:Stmt:=Vo (top 34) 6
abbrev R9:Stmt:=Vo (top 34) 7
abbrev GI:Stmt:=Vo (top 53) 0
abbrev Rg:Stmt:=Vo (top 53) 1
abbrev Rl:Stmt:=Vo (top 53) 2
abbrev Rp:Stmt:=Vo (top 53) 3
abbrev NQ:Stmt:=Vo (top 53) 5
abbrev Rt:Stmt:=Vo (top 53) 6
abbrev DQ:Stmt:=Vo (top 53) 8
abbrev RJ:Stmt:=Vo (top 53) 10
abbrev RN:Stmt:=Vo (top 53) 11
abbrev RK:Stmt:=Vo (top 53) 12
abbrev RO:Stmt:=Vo (top 53) 13
abbrev GH:Stmt:=Vo (top 75) 0
abbrev BU:Stmt:=Vo (top 75) 1
structure Bl(mg:Str->Qf):Prop where
 abs:mg "abs"=none
 len:mg "len"=none
 max:mg "max"=none
 min:mg "min"=none
 sum:mg "sum"=none
 any:mg "any"=none
 all:mg "all"=none
 isi:mg "isinstance"=none
 int:mg "int"=none
 bool:mg "bool"=none
 list:mg "list"=none
 tuple:mg "tuple"=none
 range:mg "range"=none
 zip:mg "zip"=none
 enumerate:mg "enumerate"=none
 str:mg "str"=none
 sorted:mg "sorted"=none
 set:mg "set"=none
 dict:mg "dict"=none
 ValueError:mg "ValueError"=none
structure Tx(K:W.Frag)(mg:Str->Qf)(C gS gE:Addr):Prop where
 net:NetC K C
 mSTART:mg "START"=some (.ref gS)
 mEND:mg "END"=some (.ref gE)
 aS:W.nsIn K mainGlobals "START"=some (some<|.ref gS)
 aE:W.nsIn K mainGlobals "END"=some (some<|.ref gE)
noncomputable def upD:Option Nat->PyData
 |none=>.none
 |some a=>.int (a:Int)
noncomputable def Vj(l:Ln):PyData:=.tuple [upD l.up,.tuple<|l.bs.map PyData.int]
noncomputable def Zd(y:Yd):PyData:=.tuple [.int (y.T:Int),.tuple<|y.ls.map Vj]
def Yj(l:Qk):Qd:=l.map λ(j:Nat)=>PyData.int (j:Int)
def cdl{i j:Int}(f:0<j)(c:j<=10^60):WJ i j:=#[f,DX c<|by decide +kernel]
def Mw{j:Int}(h0:0<=j)(c:j<=1000000):GZ 10 j:=#[h0,c,by decide]
def z60:(10:Int)^60=1000000000000000000000000000000000000000000000000000000000000:=by decide +kernel
def Uo{i j:Int}(f:0<j)(c:j<=1000000000000000000000000000000000000000000000000000000000000):WJ i j:=cdl f (by rw[z60];exact c)
def CK{c:Type}[Inhabited c]{f:c->PyData}{xs:List c}{k:Int}(h0:0<=k)(i:k<(xs.length:Int)):atI (xs.map f) k=some (f<|xs.getD k.toNat default):=by
 have h:k.toNat<xs.length:=#[]
 have e:(xs.map f)[k.toNat]?=some (f<|xs.getD k.toNat default):=by simp[h]
 have g:=ZI e;rwa [WD h0]at g
def CM{xs:Ql}{k:Int}(h0:0<=k)(f:k<(xs.length:Int)):atI (xs.map PyData.int) k=some (.int<|xs.getD k.toNat 0):=by
 have h:k.toNat<xs.length:=#[]
 have e:(xs.map PyData.int)[k.toNat]?=some (.int<|xs.getD k.toNat 0):=by simp[h]
 have c:=ZI e;rwa [WD h0]at c
def Af{xs:Ql}(h0:0<=k)(f:k<(xs.length:Int)):atI xs k=some (xs.getD k.toNat 0):=by
 have h:k.toNat<xs.length:=#[]
 have e:xs[k.toNat]?=some (xs.getD k.toNat 0):=by simp[h]
 have c:=ZI e;rwa [WD h0]at c
def Pw{f:Nat->PyData}{n:Nat}{k:Int}(h0:0<=k)(g:k<(n:Int)):atI ((List.range n).map f) k=some (f k.toNat):=by
 have h:k.toNat<n:=#[]
 have e:((List.range n).map f)[k.toNat]?=some (f k.toNat):=by simp[h]
 have c:=ZI e;rwa [WD h0]at c
instance:Inhabited Ln:=#[#[none,[]]]
noncomputable def QX(g:Gs):PyData:=.tuple [.int (g.line:Int),.int (g.first:Int),.int (g.last:Int),.int g.want,.int g.most]
instance:Inhabited Gs:=#[#[0,0,0,1,1]]
def Zla{m:Nat}(h:∀d∈ds,d.canLay0=true/\d.depth<=m):PyData.canLayAll0 ds=true/\PyData.depthAll ds<=m:=by
 induction ds with
 |nil=>exact#[rfl,XN _]
 |cons d ds f=>
  obtain⟨a,b⟩:=h d Xb;obtain⟨c,e⟩:=f λx g=>h x (Xe _ g);refine#[by rw[PyData.canLayAll0,a,c];rfl,?_];rw[PyData.depthAll];lia
def Jj(m:Nat)(d:PyData):Prop:=d.canLay0=true/\d.depth<=m
def Jj.fine{m:Nat}(h:Jj m d)(c:m<=60):Y8 d:=#[h.1,Xl h.2 c]
def TJ{m:Nat}(h:∀d∈ds,Jj m d):Jj (m+1) (.list ds):=by
 obtain⟨a,b⟩:=Zla h;refine#[by rw[PyData.canLay0];exact a,?_];rw[PyData.depth];lia
def AL{m:Nat}:∀d∈([]:Qd),Jj m d:=λd c=>(nomatch c)
def K8{m:Nat}(h:Jj m d)(f:∀d∈ds,Jj m d):∀x∈d::ds,Jj m x:=λx c=>by
 rcases Xc.mp c with rfl|c
 .exact h
 .exact f x c
def Hl(w:String):Lean.MacroM (Lean.TSyntax `tactic):=do
 let n:=Lean.mkIdent (w.drop 1).toString.toName
 match w.front with
 |'@' => `(tactic| with_reducible apply $n)
 |'!' => `(tactic| with_reducible exact $n)
 |'~' => `(tactic| apply $n)
 |_ => `(tactic| walk_at $(Lean.Syntax.mkStrLit w))
def VG(s:String):Lean.MacroM (Lean.TSyntax `tactic):=do
 let l ← (s.splitOn "|").mapM λa=>do
  match a.splitOn "<" with
  |[x,z] => `(tactic| ($(← Hl x):tactic <;> $(← Hl z):tactic))
  |_=>
   let ts ← (a.splitOn " ").mapM Hl
   `(tactic| ($[$ts.toArray:tactic];*))
 `(tactic| first $[| $l.toArray:tactic]*)
def zd(s:String):Lean.MacroM (Lean.TSyntax `tactic):=match s with
 |"rfl"=>`(tactic| rfl)
 |"hc"=>`(tactic| intro hc)
 |"ls"=>zc "d"
 |"om"=>`(tactic| lia)
 |"asm"=>`(tactic| with_reducible assumption)
 |"ble"=>`(tactic| first | with_reducible rfl | decide | exact Nat.le_of_ble_eq_true rfl)
 |"smo"=>`(tactic| (focus (simp; (first | done | walk_at "om"))))
 |"dso"=>`(tactic| (focus (dsimp only; walk_at "om")))
 |"r4"=>`(tactic| (refine ⟨?_,?_,?_,?_⟩ <;> walk_at "r62"))
 |"r62"=>`(tactic| (rw [z62]; walk_at "side"))
 |"call"=>`(tactic| (constructor <;> walk_at "side"))
 |"rg"=>`(tactic| first | with_reducible rfl | (apply WX <;> walk_at "rs") | (apply rngU_cong <;> walk_at "rs"))
 |"rs"=>VG "om|smo"
 |"side"=>VG "om|asm|ble|smo"
 |"arith"=>VG "om|asm|ble|smo"
 |"ev"=>VG "@Qp rfl|!Qx|!WK|!JN|!QD|@Z8 ev ev|@VN ev ev|@Zy ev ev cond|@CA ev|@Yc ev ev|@SR ev ev|@SU ev|@MS ev|@UK ev ev ev|@VM ev hc ev|@Mx ev hc ev|@HV ev|@Cy rfl ev item|@Cw rfl ev item|@Vz evd ev item|@ZF evd ev item|@YE eas side|@QQ ea call|@CL ea call|@Pn ev ev|@Pa ev ev|@Pm ev|@Bj ev rfl|@Ai rfl|@Px rfl|@B5 evd|@VR evd|@MF rfl|@Po evd|@SS ev ev fine fine|@Bk ev ev fine fine|@HR ev rfl|@EvO.fz eo"
 |"evd"=>VG "~Qp rfl|ev|@EvO.fz eo"
 |"ea"=>VG "!Q1|@Pb rfl ea|@Qv ev ea"
 |"ep"=>VG "!YI|@YH ev"
 |"eas"=>VG "~Z4|~QO ev eas"
 |"eo"=>VG "@ZY eas side|@B7 ea call|@YD evd ep ep|@U3 evd evd side"
 |"et"=>VG "!Pc|@QY ev|@ZB ev|@HU et hc et|@Wi et hc et|@Vh et"
 |"g"=>VG "!Zv|!JM|@Y3 g g|@Jh g rfl|~Jh g rfl"
 |"ei"=>VG "@YK ea r62 r62|@T4 ea r4|@CP ea r4|@B6 ea|@Yz evd|@Gn evd"
 |"s1"=>VG "@Q4 s1|@Vs eo ls|@Z3 ev ls|@JR rfl ev side ls"
 |"ret"=>VG "@MR rfl|@Zh evd|@Jm eo"
 |"if"=>VG "@Q4 if|@QS et"
 |"eir"=>VG "~EvI.cast ei rg"
 |"item"=>VG "rfl|asm|@CM<arith|@Af<arith|@Pw<arith|~CK<arith"
 |"cond"=>VG "asm|@Uo<om|@Mw<om|om|dso"
 |_=>Lean.Macro.throwUnsupported
local macro_rules|`(tactic| walk_at $s:str)=>zd s.getString
section
variable {w:World}{base:Heap}{gS gE YR CR fR ct CQ fQ q1 q2 q3 q4 q5 q6 cu CD gC:Addr}
inductive R_cell:List OT->OT->Prop
 |mk {ns:Ql}{k:Int}(h:0<=k):R_cell [.scr ns,.fz<|.int k] (.fz<|.int<|Yu ns k)
def ZhT:Qo Zaz Zaz (Q3 RH):=by walk_at"p"
def IX(T:Bl mg)(dx:Df K mg "_law_cell_at" RH Zaz):Q2 P w K mg base "_law_cell_at" Zaz 1 (Q9 (K:=K) R_cell):=by
 refine dx.ev ZhT (λf ts r h H i j A outer s m=>?_);cases h with
 |@mk g k q=>
  refine#[_,(Qz (QW (Zl Ji (pv 1) (Zo ZW (by rfl) T.len ZQ<|av 0 Qr)<|Zc _) (Qy<|QA<|QH QI (pv 0)<|pv 1) QV)
 (Qy<|QA Qw)),?_]
  try dsimp only[VP]
  walk_at"if"
  .
   intro c;walk_at"ret";rfl
  .
   intro c;refine QU ?_;walk_at"ret";have e:Yu g k=0:=by
    have:g.length<=k.toNat:=#[]
    simp[Yu,List.getD,this]
   rw[e]
noncomputable def Yq(y:Yd)(k:Nat):Ln:=y.ls.getD k default
def upN(y:Yd)(k:Nat):Nat:=(Zq y k).getD 0
def Fs{y:Yd}(h:k<y.ls.length):Zq y k=(Yq y k).up:=by simp[Zq,Yq,h]
def FR{y:Yd}(h:k<y.ls.length):ZO y k t=(Yq y k).bs.getD t 0:=by simp[ZO,Yq,h]
def L5{y:Yd}(c:y.Ok)(h:k<y.ls.length):(Yq y k).bs.length=y.T:=c.bl _ (by simp[Yq,h])
inductive R_turns:List OT->OT->Prop
 |mk {y:Yd}:R_turns [.fz<|Zd y] (.fz<|.int (y.T:Int))
def Zlx:Qo ZaC ZaC (Q3 NL):=by walk_at"p"
def OQ(T:Bl mg)(dx:Df K mg "turns_of" NL ZaC):Q2 P w K mg base "turns_of" ZaC 1 (Q9 (K:=K) R_turns):=by
 refine dx.ev Zlx (λf ts r h H c g A outer s i=>?_);cases h with
 |@mk y=>
  refine#[_,(Qy<|QA<|QH QI (pv 0) Qw),?_]
  try dsimp only[VP]
  walk_at"ret";rfl
inductive R_count:List OT->OT->Prop
 |mk {y:Yd}:R_count [.fz<|Zd y] (.fz<|.int (y.ls.length:Int))
def Zjs:Qo ZaC ZaC (Q3 RA):=by walk_at"p"
def Ov(T:Bl mg)(dx:Df K mg "line_count" RA ZaC):Q2 P w K mg base "line_count" ZaC 1 (Q9 (K:=K) R_count):=by
 refine dx.ev Zjs (λf ts r h H c g A outer s i=>?_);cases h with
 |@mk y=>
  refine#[_,(Qy<|QA<|Zo ZW (by rfl) T.len ZQ<|Qs (QH QI (pv 0) Qw) Qr),?_]
  try dsimp only[VP]
  walk_at"ret";rw[Xf]
inductive R_above:List OT->OT->Prop
 |mk {y:Yd}{k:Int}(ok:y.Ok)(h0:0<k)(h1:k<(y.ls.length:Int)):R_above [.fz<|Zd y,.fz<|.int k] (.fz<|.int (upN y k.toNat:Int))
 |zero {y:Yd}(ok:y.Ok):R_above [.fz<|Zd y,.fz<|.int 0] (.fz .none)
def ZlC:Qo ZaL ZaL (Q3 NU):=by walk_at"p"
def Zrv(T:Bl mg)(dx:Df K mg "above_of" NU ZaL):Q2 P w K mg base "above_of" ZaL 1 (Q9 (K:=K) R_above):=by
 refine dx.ev ZlC (λf ts r h H i j A outer s q=>?_);cases h with
 |@mk y k c C B=>
  refine#[_,(Qy<|QA<|QH QI (QH QI (QH QI (pv 0) Qw)<|pv 1) Qw),?_]
  try dsimp only[VP]
  walk_at"ret";obtain⟨a,e,l⟩:=c.ups k.toNat #[] #[];have g:(Yq y k.toNat).up=some a:=by rw[<- Fs #[]];exact e
  show OT.fz (upD (Yq y k.toNat).up)=_;rw[g];simp[upN,e,upD]
 |@zero y c=>
  refine#[_,(Qy<|QA<|QH QI (QH QI (QH QI (pv 0) Qw)<|pv 1) Qw),?_]
  try dsimp only[VP]
  have m:=c.l1;walk_at"ret";have g:(Yq y 0).up=none:=by rw[<- Fs #[]];exact c.up0
  show OT.fz (upD (Yq y 0).up)=_;rw[g];rfl
inductive R_bound:List OT->OT->Prop
 |mk {y:Yd}{k t:Int}(ok:y.Ok)(h0:0<=k)(h1:k<(y.ls.length:Int))(h2:0<=t)(h3:t<(y.T:Int)):R_bound [.fz<|Zd y,.fz<|.int k,.fz<|.int t] (.fz<|.int<|ZO y k.toNat t.toNat)
def Zmb:Qo Zar Zar (Q3 NY):=by walk_at"p"
def Zrm(T:Bl mg)(dx:Df K mg "bound_at" NY Zar):Q2 P w K mg base "bound_at" Zar 1 (Q9 (K:=K) R_bound):=by
 refine dx.ev Zmb (λf ts r h H c i A outer s j=>?_);cases h with
 |@mk y k t g E C B q=>
  refine#[_,(Qy<|QA<|QH QI (QH QI (QH QI (QH QI (pv 0) Qw)<|pv 1) Qw)<|pv 2),?_]
  try dsimp only[VP]
  have m:(y.ls.getD k.toNat default).bs.length=y.T:=L5 g #[];walk_at"ret";show _=_;rw[FR<|#[]];rfl
inductive R_lineof:List OT->OT->Prop
 |mk {g:Gs}:R_lineof [.fz<|QX g] (.fz<|.int (g.line:Int))
def ZnD:Qo Zau Zau (Q3 Nz):=by walk_at"p"
def Zqd(T:Bl mg)(dx:Df K mg "line_of" Nz Zau):Q2 P w K mg base "line_of" Zau 1 (Q9 (K:=K) R_lineof):=by
 refine dx.ev ZnD (λf ts r h H c i A outer s j=>?_);cases h with
 |@mk g=>
  refine#[_,(Qy<|QA<|QH QI (pv 0) Qw),?_]
  try dsimp only[VP]
  walk_at"ret";rfl
inductive R_there:List OT->OT->Prop
 |mk {g:Gs}{t:Int}:R_there [.fz<|QX g,.fz<|.int t] (.fz<|.bool<|JP g t)
def Zme:Qo Zap Zap (Q3 NJ):=by walk_at"p"
def ZrR(T:Bl mg)(dx:Df K mg "is_there" NJ Zap):Q2 P w K mg base "is_there" Zap 1 (Q9 (K:=K) R_there):=by
 refine dx.ev Zme (λf ts r h H c i A outer s j=>?_);cases h with
 |@mk g t=>
  refine#[_,(Qy<|QA<|L7 U1 U1 (QH QI (pv 0) Qw) (pv 1)<|QH QI (pv 0) Qw),?_]
  try dsimp only[VP]
  walk_at"ret";rfl
inductive R_most:List OT->OT->Prop
 |mk {g:Gs}:R_most [.fz<|QX g] (.fz<|.int g.most)
def ZnK:Qo Zau Zau (Q3 ND):=by walk_at"p"
def EW(T:Bl mg)(dx:Df K mg "most_of" ND Zau):Q2 P w K mg base "most_of" Zau 1 (Q9 (K:=K) R_most):=by
 refine dx.ev ZnK (λf ts r h H c i A outer s j=>?_);cases h with
 |@mk g=>
  refine#[_,(Qy<|QA<|QH QI (pv 0) Qw),?_]
  try dsimp only[VP]
  walk_at"ret";rfl
inductive R_want:List OT->OT->Prop
 |mk {g:Gs}:R_want [.fz<|QX g] (.fz<|.int g.want)
def Zn3:Qo Zau Zau (Q3 N8):=by walk_at"p"
def AU(T:Bl mg)(dx:Df K mg "want_of" N8 Zau):Q2 P w K mg base "want_of" Zau 1 (Q9 (K:=K) R_want):=by
 refine dx.ev Zn3 (λf ts r h H c i A outer s j=>?_);cases h with
 |@mk g=>
  refine#[_,(Qy<|QA<|QH QI (pv 0) Qw),?_]
  try dsimp only[VP]
  walk_at"ret";rfl
structure SetOk(gs:List Gs)(some:Qk):Prop where
 mem:∀k∈some,k<gs.length
 len:some.length<=8
def Gq(f:List Gs)(t:Nat)(c:Qk):Qn:=λl=>VA f (t:Int) l c
def Gr(y:Yd)(f:List Gs)(c:Qk)(t:Nat):Ql:=(List.range y.ls.length).map λl=>YY y (λk=>ZO y k t) (Gq f t c) l
inductive R_reaching:List OT->OT->Prop
 |mk {y:Yd}{gs:List Gs}{sm:Qk}{t:Int}(ok:y.Ok)(hg:∀g∈gs,g.line<y.ls.length)(hs:SetOk gs sm)(h0:0<=t)(h1:t<(y.T:Int)):
  R_reaching [.fz<|Zd y,.fz<|.list<|gs.map QX,.fz<|.list<|Yj sm,.fz<|.int t] (.ol<|(Gr y gs sm t.toNat).map PyData.int)
def T7{f g:Qn}(m:j<n)(e1:∀l,l<n->l≠j->g l=f l){v:Int}(q:g j=v):
 (((List.range n).map λl=>PyData.int<|f l).set j (.int v))=(List.range n).map λl=>PyData.int (g l):=by
 apply List.ext_getElem?;intro i;by_cases c:i=j
 .simp_all
 .rw[XY<|Ne.symm c]
  by_cases h:i<n
  .simp[h,e1 i h c]
  .simp[h]
def BV:Qo Zas Zai (Q3 DF):=by walk_at"p"
def Zmm(T:Bl mg)(dx:Df K mg "reaching_at" DF Zai)(C:Q2 P w K mg base "line_count" ZaC 1 (Q9 (K:=K) R_count))(v:Q2 P w K mg base "is_there" Zap 1 (Q9 (K:=K) R_there))
(D:Q2 P w K mg base "line_of" Zau 1 (Q9 (K:=K) R_lineof))(u:Q2 P w K mg base "most_of" Zau 1 (Q9 (K:=K) R_most))(p:Q2 P w K mg base "above_of" ZaL 1 (Q9 (K:=K) R_above))
(F:Q2 P w K mg base "bound_at" Zar 1 (Q9 (K:=K) R_bound)):Q2 P w K mg base "reaching_at" Zai 2 (Q9 (K:=K) R_reaching):=by
 refine dx.ev BV (λf ts r h H L cdv A outer s q=>?_);cases h with
 |@mk y j g t Y R I S h1=>
  refine#[_,(Qz (BK (i:=4) BV.nd rfl rfl (NX:=Zas) (sc:=Q3 DF) (N:=["line"]) (f:=[none]) rfl (by decide +kernel) rfl rfl (Y5 rfl T.range<|Qs (Q7 C q<|av 0 Qr) Qr) (λ_=>(Zm 0 (show(["line"]:Qh).Nodup by decide +kernel))) (λ_=>ZN) (λ_=>V1) (λ_=>Qw) rfl)
 (Qz (Vu zN rfl (by exact(VT<|pv 2)) (Zm 5 BV.nd) (by exact(Qz (QZ 6 BV.nd<|QH QI (pv 1)<|pv 5)
 (Qy<|QW (Vc<|Q7 v q<|av 6<|av 3 Qr) (Qy<|Gw (pv 4) (Q7 D q<|av 6 Qr) GB (Q7 u q<|av 6 Qr) Br Jx) QV))))
 (Qz (Vu zN rfl (by exact(ZoB rfl T.range<|Qs (QJ Yl (Q7 C q<|av 0 Qr) Qw)<|Qs Qw<|Qs (Aq CO Qw) Qr)) (Zm 7 BV.nd)<|by exact(Qy<|Gw (pv 4) (Q7 p q<|av 0<|av 7 Qr) GB (Zo (HX rfl) (by rfl) T.min MB<|Qs (QH QI (pv 4)<|pv 7)<|Qs (Q7 F q<|av 0<|av 7<|av 3 Qr) Qr) Br Jx))
 (Qy<|QA<|pv 4)))),?_]
  show QE K _ [_,_,_,_,_,_,_,_] _
  walk_at"x";have l1:=Y.l1;have l5:=Y.l5;have n8:=I.len;refine Q4 (Vs (M9 (lo:=0) (n:=y.ls.length) (h:=λ_=>.int 0) ?ei #[] ?el) ?_)
  case ei=>walk_at"eir"
  case el=>
   intro x hx c;exact#[_,by walk_at"g",by walk_at"ev"]
  walk_at"d";refine Q4 (G2 (λi=>[zf<|Zd y,zf<|.list<|j.map QX,zf<|.list<|Yj g,zi t,some<|.ol<|(List.range y.ls.length).map λl=>PyData.int<|VA j t l<|g.take i,none,none,none]) (by walk_at"ei") #[rfl,rfl,rfl,rfl,rfl,trivial] ?st ?fin)
  case st=>
   intro i d M;have E:i<g.length:=by
    have:=(Xh.mp M).1;simpa [Yj] using this
   obtain rfl:d=.int ((g[i]:Nat):Int):=by simpa [Yj,E] using M.symm
   have B:g[i]<j.length:=I.mem _ (X7 E);refine#[_,by walk_at"g",?_];walk_at"d";walk_at"s1";have U:j.getD ((g[i]:Nat):Int).toNat default=j[g[i]]:=by simp[B]
   rw[U];have e:=R j[g[i]] (X7 B);have gl:=e;have X:g.take (i+1)=g.take i++[g[i]]:=by rw[Ud];simp[E]
   refine QS (by walk_at"et") (λc=>?_) (λc=>?_)
   .refine Ty (m:=VA j t j[g[i]].line (g.take i)) rfl (by walk_at"ev") #[] ?_ (by walk_at"ev") ?_
    .simp[gl]
    .walk_at"d";refine#[rfl,rfl,rfl,rfl,?_,trivial];rw[X5];congr 2;refine T7 gl (λl O Z=>?_) ?_
     .rw[X,DN];simp[VA,B,Ne.symm Z]
     .rw[X,DN];simp[VA,B,c]
   .refine QU #[rfl,rfl,rfl,rfl,?_,trivial];refine Xz (λz=>some<|OT.ol z) (Ug λl _=>?_);rw[X,DN];simp[VA,B,c]
  case fin=>
   intro W b;refine Gu b ?_;have el:(Yj g).length=g.length:=by simp[Yj]
   rw[el,J5];refine Q4 (G2 (λi=>[zf<|Zd y,zf<|.list<|j.map QX,zf<|.list<|Yj g,zi t,some<|.ol<|(List.range y.ls.length).map λl=>PyData.int<|Yw y (λk=>ZO y k t.toNat) (λl=>VA j t l g) i l,none,none,none]) (by walk_at"ei") #[rfl,rfl,rfl,rfl,rfl,trivial] ?st2 ?fin2)
   case st2=>
    intro i d M;obtain⟨E,rfl⟩:=Lm M;have Q:i<y.ls.length-1:=#[]
    refine#[_,by walk_at"g",?_];walk_at"d";have J:((y.ls.length:Int)-1-(i:Int)).toNat=y.ls.length-1-i:=#[]
    obtain⟨a,o,la⟩:=Y.ups (y.ls.length-1-i) #[] #[];have G:upN y ((y.ls.length:Int)-1-(i:Int)).toNat=a:=by rw[J];simp[upN,o]
    refine Ty (m:=Yw y (λk=>ZO y k t.toNat) (λl=>VA j t l g) i a) rfl (by walk_at"ev") #[] ?_ (by walk_at"ev") ?_
    .rw[G,X5];have:a<y.ls.length:=#[]
     simp[this]
    .walk_at"d";refine#[rfl,rfl,rfl,rfl,?_,trivial];rw[G,X5];refine Xz (λz=>some<|OT.ol z) (T7 #[] (λl O Z=>?_) ?_)
     .simp only[Yw,Uw];rw[o,Xg<|by simpa using λz=>Z z.symm];lia
     .simp only[Yw,Uw];rw[o,Xi rfl,J]
   case fin2=>
    intro W b;refine Gu b ?_;walk_at"ret";show _=_;have e2:(Gc ((y.ls.length:Int)-1) ((y.ls.length:Int)-1-0).toNat).length=y.ls.length-1:=by rw[LJ];lia
    rw[e2];unfold Gr YY Gq;rw[WD S,XB];rfl
def Zn6(y:Yd)(f:List Gs)(c:Qk)(t:Nat):(Gr y f c t).length=y.ls.length:=by simp[Gr]
def Zpn{y:Yd}(h:l<y.ls.length):(Gr y gs sm t).getD l 0=YY y (λk=>ZO y k t) (Gq gs t sm) l:=by simp[Gr,List.getD,h]
def KI(y:Yd)(f:List Gs)(c:Qk)(t:Nat):Int:=passes y (λk=>ZO y k t) (Gq f t c) 0
noncomputable def D5(y:Yd)(f:List Gs)(c:Qk):Int:=((List.range y.T).map λt=>KI y f c t).sum
inductive R_given:List OT->OT->Prop
 |mk {y:Yd}{gs:List Gs}{sm:Qk}{t:Int}(ok:y.Ok)(hg:∀g∈gs,g.line<y.ls.length)(hs:SetOk gs sm)(h0:0<=t)(h1:t<(y.T:Int)):
  R_given [.fz<|Zd y,.fz<|.list<|gs.map QX,.fz<|.list<|Yj sm,.fz<|.int t] (.fz<|.int<|KI y gs sm t.toNat)
def Zl0:Qo Zai Zai (Q3 Ra):=by walk_at"p"
def Zs2(T:Bl mg)(dx:Df K mg "given_at" Ra Zai)(g:Q2 P w K mg base "reaching_at" Zai 2 (Q9 (K:=K) R_reaching))(c:Q2 P w K mg base "bound_at" Zar 1 (Q9 (K:=K) R_bound)):
 Q2 P w K mg base "given_at" Zai 3 (Q9 (K:=K) R_given):=by
 refine dx.ev Zl0 (λf ts r h H m C A outer s i=>?_);cases h with
 |@mk y B j t q X W Z Y=>
  refine#[_,(Qy<|QA<|Zo (HX rfl) (by rfl) T.min MB<|Qs (QH QI (Q7 g i<|av 0<|av 1<|av 2<|av 3 Qr) Qw)<|Qs (Q7 c i<|av 0<|Qs Qw<|av 3 Qr) Qr),?_]
  try dsimp only[VP]
  have M:=q.l1;have E:=Zn6 y B j t.toNat
  walk_at"ret";show _=_;rw[ Zpn #[]];rfl
inductive R_givenm:List OT->OT->Prop
 |mk {y:Yd}{gs:List Gs}{sm:Qk}(ok:y.Ok)(hg:∀g∈gs,g.line<y.ls.length)(hs:SetOk gs sm):
  R_givenm [.fz<|Zd y,.fz<|.list<|gs.map QX,.fz<|.list<|Yj sm] (.fz<|.int<|D5 y gs sm)
def ZiP:Qo Zag Zag (Q3 DK):=by walk_at"p"
def Zqv(T:Bl mg)(dx:Df K mg "given_most" DK Zag)(i:Q2 P w K mg base "turns_of" ZaC 1 (Q9 (K:=K) R_turns))(g:Q2 P w K mg base "given_at" Zai 3 (Q9 (K:=K) R_given)):
 Q2 P w K mg base "given_most" Zag 4 (Q9 (K:=K) R_givenm):=by
 refine dx.ev ZiP (λf ts r h H q E A outer s m=>?_);cases h with
 |@mk y Y W j C B=>
  refine#[_,(Qy<|QA<|Zo Py (by rfl) T.sum PZ<|Qs (V3 (NX:=Zag) (sc:=Q3 DK) (N:=["turn","yard","guests","some"]) (f:=[none,some 0,some 1,some 2]) rfl (by decide +kernel) rfl rfl (Y5 rfl T.range<|Qs (Q7 i m<|av 0 Qr) Qr) (λ_=>(Zm 0 (show(["turn","yard","guests","some"]:Qh).Nodup by decide +kernel))) (λ_=>ZN) (λ_=>V1) λ_=>(Q7 g m<|av 1<|av 2<|av 3<|av 0 Qr)) Qr),?_];show QE K _ [_,_,_] _
  walk_at"x";have M:=j.t8;refine Zh (HR ?_ rfl) rfl;refine EvO.fz ?_;rw[XB];refine M9 (lo:=0) (n:=y.T) ?_ #[] ?_
  .walk_at"eir"
  .intro x X c;refine#[_,by walk_at"g",?_];rw[Ui];have h:=R_given.mk (t:=(x:Int)) j C B #[] #[];exact QQ (by walk_at"ea") h
def Dc:NoF "lay" := λ_ _ _ _=>rfl
def Lp:NoF "lay_one" := λ_ _ _ _=>rfl
def Ou:NoF "flow" := λ_ _ _ _=>rfl
def Ca:NoF "reached" := λ_ _ _ _=>rfl
def OG:NoF "push" := λ_ _ _ _=>rfl
def ZrT:NoF "fill" := λ_ _ _ _=>rfl
def E1:NoF "way_to" := λ_ _ _ _=>rfl
def Zh5:Qo Zal Zal (Q3 GK):=by walk_at"p"
def AF{f:Addr}(T:Bl mg)(i:Tx K mg C gS gE)(F:Fun K "__init__" "Net.__init__" GK f fd):FnOk P w K mg base CX0 1 f fd Zal (spI P w C):=by
 refine F.ok Zh5 (by rintro u H Q Y ⟨x,D,e,_⟩;rw[e];rfl) ?_;rintro u H Q Y ⟨x,D,e,a,q⟩ z A outer s N;subst e;refine#[_,(Qz (Wx (pv 0) (ZM Qr) rfl)
 (Qz (Wx (pv 0) (ZM Qr) rfl)
 (Qz (Wx (pv 0) ZrC rfl)
 (Qy<|Wx (pv 0) ZrA rfl)))),?_]
 refine#[XN _,λe k=>#[_,rfl,x,C,D,[],rfl,?_,i.net.cl,i.net.ends,by decide,?_]]
 .rw[Qu<|Z7 a k];exact a
 have B:=Z7 a k;refine#[XN _,λr g=>#[_,rfl,x,C,D,[("ends",.ref e)],rfl,?_,i.net.cl,i.net.rooms,(by show(1)<1000;decide),?_]]
 .have j:=Z7 QG g;rw[Qu j,QG];rfl
 have j:=Z7 QG g;have M:=by rw[Qu<|Ne.symm j]at g;exact g
 have n:=Z7 QG M;have v:=by rw[Qu<|Ne.symm n]at M;exact M
 refine λl h=>#[_,rfl,x,C,D,[("ends",.ref e),("rooms",.ref r)],rfl,?_,i.net.cl,i.net.leav,(by show(2)<1000;decide),?_]
 .have m:=Z7 QG h;rw[Qu m,QG];rfl
 have m:=Z7 QG h;rw[Qu<|Ne.symm m]at h;have W:=Z7 QG h;rw[Qu<|Ne.symm W,Qu<|Ne.symm m]at h;have o:=Z7 QG h;rw[Qu<|Ne.symm o]at h;refine λd c=>#[_,rfl,x,C,D,[("ends",.ref e),("rooms",.ref r),("leaving",.ref l)],rfl,?_,i.net.cl,i.net.laid,(by show(3)<1000;decide),?_]
 .have y:=Z7 QG c;rw[Qu y,QG];rfl
 have y:=Z7 QG c;rw[Qu<|Ne.symm y]at c;have Z:=Z7 QG c;rw[Qu<|Ne.symm Z,Qu<|Ne.symm y]at c;have X:=Z7 QG c;rw[Qu<|Ne.symm X,Qu<|Ne.symm y]at c;have p:=Z7 QG c;rw[Qu<|Ne.symm p]at c;refine q e r l d _ k v h c ?_ ?_ ?_ ?_ ?_ ?_ (λb t=>?_)
 .simp only[XM,Xc,XJ,or_false,not_or,not_false_eq_true,Mb,and_true];exact#[#[B,j,m,y],#[n,o,p],#[W,X],Z]
 .rw[QG];rfl
 .rw[Qu<|Ne.symm B,Qu p,Qu<|Ne.symm B,Qu o,Qu<|Ne.symm B,Qu n,Qu<|Ne.symm B,QG]
 .rw[Qu<|Ne.symm j,Qu X,Qu<|Ne.symm j,Qu W,Qu<|Ne.symm j,QG]
 .rw[Qu<|Ne.symm m,Qu Z,Qu<|Ne.symm m,QG]
 .rw[Qu<|Ne.symm y,QG];rfl
 .simp only[Xc,XJ,or_false,not_or]at t;obtain⟨E,L,J,I,G⟩:=t;rw[Qu E,Qu G,Qu E,Qu I,Qu E,Qu J,Qu E,Qu L]
inductive R_lay1:QB->List OT->(QB->Prop)->Prop
 |mk {N:QB}{s e:List Key}{r:Int}(h1:N.ends.length<900)(h2:N.rooms.length<900)(h3:N.leav.length<900)(h4:∀k ns,Zb N.leav k=some ns->ns.length<900):R_lay1 N [.fz<|Zj s,.fz<|Zj e,.fz<|.int r] (λN'=>N'=UY N s e r)
def Zin:Qo Zae Zae (Q3 R1):=by walk_at"p"
def EQ(T:Bl mg)(g:Tx K mg C gS gE)(dx:Mf K C "lay_one" "Net.lay_one" R1 Zae):Z5 P w K mg base C "lay_one" Zae 1 (spN K P w C R_lay1):=by
 refine dx.evN Zin (λf v M ts E h H m B A outer s q=>?_);cases h with
 |@mk i e r Z Y X y=>
  refine#[_,(Qz (Zz<|ZL zP zS zT Yg (OE (YX q) (Zg<|pv 0) (pv 1) (ZM Qr) #[rfl,rfl,rfl,rfl])<|Qs (Zo ZW (by rfl) T.len ZQ<|Qs (Zg<|pv 0) Qr) Qr)
 (Qz (Zz<|ZL zP zS zT Yg (Zg<|pv 0)<|av 2 Qr)
 (Qy<|Zz<|ZL zP zS zT Yg (Zg<|pv 0)<|av 3 Qr))),?_]
  refine Q4 (ZnZ g.net rfl Qp #[] (λW c=>?_) (Fq (N:={ M with leav:=Yi M.leav i }) g.net rfl) ?_)
  .rw[Nf,Xi rfl]at c;cases c;cases z:Zb M.leav i with
   |none=>decide
   |some j=>have:=y i j z;show j.length<1000;lia
  refine Q4 (ZnJ g.net rfl Qp (show M.ends.length<1000 by lia) ?_);refine Zn8 g.net rfl Qp (show M.rooms.length<1000 by lia) ?_;exact#[_,rfl,rfl]
abbrev WH:Zn Nd:=λ_ _=>0
inductive R_lay:QB->List OT->(QB->Prop)->Prop
 |mk {N:QB}{H1:Lay Nd}{s e:Nd}{r:Int}(h:NetR N H1 WH)(new:(s,e)∉H1.map (λx=>(x.1,x.2.1)))(l:H1.length<400):R_lay N [.fz<|Zj<|nk s,.fz<|Zj<|nk e,.fz<|.int r] (λN'=>NetR N' (H1++[(s,e,r)]) WH)
def ZnB:Qo Zae Zae (Q3 NB):=by walk_at"p"
def Eu(T:Bl mg)(y:Tx K mg C gS gE)(dx:Mf K C "lay" "Net.lay" NB Zae)(j:Z5 P w K mg base C "lay_one" Zae 1 (spN K P w C R_lay1)):Z5 P w K mg base C "lay" Zae 2 (spN K P w C R_lay):=by
 refine dx.evN ZnB (λf v M ts p h H Z n A outer s X=>?_);cases h with
 |@mk m c e r h E l=>
  refine#[_,(Qz (EH (Kj X) (Zg<|pv 0) (Yv<|av 1<|av 2 Qr) (Zo ZW (by rfl) T.len ZQ<|Qs (Zg<|pv 0) Qr) rfl)
 (Qz (Zz<|Wa j y.net X (pv 0)<|av 1<|av 2<|av 3 Qr)
 (Qy<|Zz<|Wa j y.net X (pv 0)<|av 2<|av 1<|Qs Qw Qr))),?_]
  try dsimp only[VP]
  have d:=h.elen;have b:M.rooms.length=2*m.length:=by rw[h.rooms,NV]
  have u:=h.l1;have t:=h.l2;have W:=h.l3;refine Q4 (Zp2 y.net rfl (Fq y.net rfl) (YE (QO Qp<|QO Qp Z4)<|by show(2)<=1000;decide) #[] ?_);refine Q4 (JT Lp rfl (Jq (Qv Qp<|Qv Qp<|Qv Qp Q1) rfl) λts g=>?_);subst g;refine#[_,R_lay1.mk (show M.ends.length<900 by lia) (show M.rooms.length<900 by lia) (show M.leav.length<900 by lia) (λk B i=>by have:=W k B i;lia),λo Y=>?_];subst Y;walk_at"d";refine JT Lp rfl (Jq (Qv Qp<|Qv Qp<|Qv Qx Q1) rfl) (λts g=>?_);subst g;refine#[_,R_lay1.mk ?a1 ?a2 ?a3 ?a4,λo Y=>?_]
  case a1=>show(M.ends++[nk e]).length<900;rw[Xp,d];show 2*m.length+1<900;lia
  case a2=>show(M.rooms++[r]).length<900;rw[Xp,b];show 2*m.length+1<900;lia
  case a3=>
   show(Ya (Yi M.leav<|nk c) (nk c) _).length<900
   rw[Dv];have:=K5 M.leav (nk c);lia
  case a4=>
   intro k B i;rw[G8]at i;by_cases z:k=nk c
   .rw[Xi z]at i;cases i;have:((Zb M.leav<|nk c).getD []).length<=2*m.length:=by
     cases q:Zb M.leav (nk c) with
     |none=>exact XN _
     |some a=>exact W _ a q
    show((Zb M.leav<|nk c).getD []++[_]).length<900
    rw[Xp];show _+1<900
    lia
   .rw[Xg z]at i;have:=W k B i;lia
  subst Y;exact#[_,ZsD h rfl E,rfl]
noncomputable def Bs(c:Lay Nd)(φ:Zn Nd)(p q:Nd):Int:=if (p,q)∈c.map (λx=>(x.1,x.2.1)) then φ p q else 0
inductive R_flow(P:Program)(w:World)(C:Addr):List OT->(OT->Prop)->Prop
 |mk {N:QB}{H1:Lay Nd}{φ:Zn Nd}{p q:Nd}(h:NetR N H1 φ):R_flow P w C [.zow<|Vg P w C N,.fz<|Zj<|nk p,.fz<|Zj<|nk q] (λr=>r=.fz (.int<|Bs H1 φ p q))
def Zlh:Qo Zan Zan (Q3 NM):=by walk_at"p"
def EU(T:Bl mg)(W:Tx K mg C gS gE)(dx:Mf K C "flow" "Net.flow" NM Zan):Z5 P w K mg base C "flow" Zan 1 (Zk K<|R_flow P w C):=by
 refine dx.evD Zlh (λf ts t h H k r A outer s Y=>?_);cases h with
 |@mk N u X p q h=>
  refine#[_,(Qz (QW (JO<|ZqK (Kj Y) (Yv<|av 1<|av 2 Qr)<|Zg<|pv 0) (Qy<|QA Qw) QV)
 (Qy<|QA<|QH QI (Zg<|pv 0)<|QJ Kr (IK (Kj Y) (Zg<|pv 0) (Yv<|av 1<|av 2 Qr) λ_ _=>rfl) Qw)),?_]
  try dsimp only[VP]
  have g:∀{Z:Zcs},Z[1]?=some (zf<|Zj<|nk p)->Z[2]?=some (zf<|Zj<|nk q)->Qq K (Ut<|QM (QF 1)<|QM (QF 2) QT) Z (.tuple [Zj<|nk p,Zj<|nk q]):=λB y=>YE (QO (Qp B)<|QO (Qp y) Z4) (by show(2)<=1000;decide);refine Q4 (QS (ZB<|Zqh W.net (g rfl rfl) rfl) (λc=>Zh Qx ?_) λc=>QU ?_)
  .have c:Vd N.laid (nk p,nk q)=none:=by
    cases z:Vd N.laid (nk p,nk q) with
    |none=>rfl
    |some n=>rw[z]at c;cases c
   show OT.fz (.int 0)=_;unfold Bs;rw[Xg λj=>?_];obtain⟨x,E,e⟩:=Xo.mp j;obtain⟨i,m⟩:=List.mem_iff_getElem?.mp E
   have:=h.laid i x m
   grind
  .have j:=by
    apply Classical.byContradiction;intro l;rw[h.laid0 p q l]at c;cases c
   obtain⟨x,E,e⟩:=Xo.mp j;obtain⟨i,m⟩:=List.mem_iff_getElem?.mp E;have d:=h.laid i x m;injection e with B y;rw[B,y]at d;have M:N.rooms[2*i+1]?=some (X p q):=by
    rw[h.rooms,GD];unfold rmE;have a:(2*i+1)/2=i:=#[]
    have b:¬(2*i+1)%2=0:=#[]
    rw[a,m];simp only[W9,Xg b,B,y]
   have o:atI (N.rooms.map PyData.int) (Builtin.bitXor ((2*i:Nat)) 1)=some (.int<|X p q):=by
    rw[Rm];have a:ZgV (2*i)=2*i+1:=by unfold ZgV;rw[Xi<|#[]]
    rw[a];exact ZI (by rw[Xy,M];rfl)
   refine Zh (Nl W.net rfl (Z8 (OB W.net rfl (g rfl rfl) d) Qx) o) ?_;unfold Bs;rw[Xi j]
def TR(h:Qq K ta Z (.list ds)):QN K (λO H Q=>ta O H λx U=>∃k,Hi K x U k/\Q k U) Z (!ds.isEmpty):=λH0 F O H Q S q=>h H0 F O H _ S λj L v c f=>by
 obtain⟨a,xs,rfl,i,g,_⟩:=Jz (K:=K) f c.fh;refine#[_,.inl #[xs,i,rfl],?_];have e:xs.isEmpty=ds.isEmpty:=by
  have:=g.length;cases xs<;>cases ds<;>simp at this ⊢
 rw[e];exact q j L c
def Uk(n:Nd):PyData:=Zj (nk n)
inductive R_reached(P:Program)(w:World)(C:Addr):List OT->(OT->Prop)->Prop
 |mk {N:QB}{H1:Lay Nd}{φ:Zn Nd}{s:Nd}(h:NetR N H1 φ)(l:H1.length<400):R_reached P w C [.zow<|Vg P w C N,.fz<|Zj<|nk s] (λr=>∃v es,r=.own v (VH<|kvG es)/\Tree H1 φ s es/\Yx H1 φ es)
structure ReachI(H1:Lay Nd)(φ:Zn Nd)(s:Nd)(es0 es:Got Nd)(H' fu:List Nd):Prop where
 tree:Tree H1 φ s es
 fin:∀n∈fu,n∈Ze es
 sub:∀n∈Ze es0,n∈Ze es
 done:Um H1 φ es (H'++fu)
 len:es.length=es0.length+fu.length
def UM:Qo ["self","start","edges","latest","further","node","edge"] ZaQ (Q3 R3):=by walk_at"p"
def Zos(T:Bl mg)(H':Tx K mg C gS gE)(dx:Mf K C "reached" "Net.reached" R3 ZaQ):Z5 P w K mg base C "reached" ZaQ 1 (Zk K<|R_reached P w C):=by
 refine dx.evD UM (λf ts Φ h H pos cdv A outer s hr=>?_);cases h with
 |@mk N M G u h l=>
  refine#[_,(Qz (QZ 2 UM.nd<|Zrp (YX hr) (pv 1) MP)
 (Qz (QZ 3 UM.nd<|ZM<|av 1 Qr)
 (Qz (Ng zN (Lr (pv 3) λ_=>rfl) (Qz (QZ 4 UM.nd<|ZM Qr)
 (Qz (Vu zN rfl (by exact(VT<|pv 3)) (Zm 5 UM.nd) (by exact(Qy (Vu zN rfl (by exact(VT<|ZrM (YX hr) (Zg<|pv 0) (pv 5) (ZM Qr) #[rfl,rfl,rfl,rfl])) (Zm 6 UM.nd) (by exact(Qy (QW (PW.pt<|P7 (Zl WI (QH QI (Zg<|pv 0)<|pv 6) Qw<|Zc _)<|TY<|JO<|ZoT (YX hr) (QH QI (Zg<|pv 0)<|pv 6)<|pv 2) (Qz (K9 (YX hr) (pv 2) (QH QI (Zg<|pv 0)<|pv 6) (pv 6) rfl)
 (Qy<|Zz<|ZL zP zS zT Yg (pv 4)<|Qs (QH QI (Zg<|pv 0)<|pv 6) Qr)) QV)))))))
 (Qy<|QZ 3 UM.nd<|pv 4))))
 (Qy<|QA<|pv 2)))),?_]
  show QE K _ [_,_,_,_,_,_,_] _
  walk_at"x";refine Q4 (K1 (OU (d:=.none) Qp JN) λv=>?_);refine Q4 (Vs (ZY (QO Qp Z4) Ul) ?_);refine Ww 3 rfl ?_;walk_at"d";have bnd:∀es,Tree M G u es->es.length<=2*M.length+1:=λes t=>by have:=t.len;rw[Fw]at this;exact this
  refine Q4 (KZ (λm X=>∃(es:Got Nd) (q:List Nd) (u4 u5 S:Option OT),Tree M G u es/\(∀n∈q,n∈Ze es)/\Um M G es q/\m=2*(2*M.length+2-es.length)+(if q=[] then 0 else 1)/\
   X=[zz<|Vg P w C N,zf<|Zj<|nk u,zo v<|VH<|kvG es,zf<|.list<|q.map Uk,u4,u5,S]) _ #[[(u,none)],[u],none,none,none,.root,(λn D=>by simpa [Ze] using D),?d0,rfl,rfl] ?ws)
  case d0=>
   intro e m n r h1 h2 h3 h4 h5 h6;have:m=u:=by simpa [Ze] using h5
   exact Xu (by rw[this];exact Xb) h6
  case ws=>
   rintro m _ ⟨es,q,u4,u5,S,tr,sb,dn,rfl,rfl⟩;refine#[_,TR Qp,λc=>?_,λc=>?_]
   .have O:q≠[]:=λz=>by rw[z]at c;cases c
    rw[Xg O];refine Q4 (Vs (ZY (ds:=[]) Z4<|by decide) ?_);walk_at"d";refine Q4 (Ym (λi X=>∃(W:Got Nd) (R:List Nd) (u5 S:Option OT),ReachI M G u es W (q.drop i) R/\
     X=[zz<|Vg P w C N,zf<|Zj<|nk u,zo v<|VH<|kvG W,zf<|.list<|q.map Uk,some<|.ol<|R.map Uk,u5,S]) (Yz Qp) #[es,[],_,_,#[tr,(by rintro n ⟨⟩),λn D=>D,by rw[List.drop_zero,Xw];exact dn,by simp],rfl] ?st ?fin)
    case fin=>
     rintro _ ⟨W,R,w5,w6,I,rfl⟩;rw[Xf]at I;have dn':=I.done;rw[List.drop_length,List.nil_append]at dn';refine Ww 4 rfl ?_;refine Z3 Qp ?_;walk_at"d";refine#[2*(2*M.length+2-W.length)+(if R=[] then 0 else 1),?_,W,R,_,_,_,I.tree,I.fin,dn',rfl,rfl];have b1:=bnd W I.tree;have b2:=I.len
     by_cases z:R=[]
     .rw[Xi z];rw[z]at b2;simp at b2;lia
     .rw[Xg z];have:0<R.length:=Mj.mpr z;lia
    case st=>
     rintro i d _ hd ⟨es1,fu1,w5,w6,I1,rfl⟩;have hi:i<q.length:=by
      have:=(Xh.mp hd).1;simpa using this
     obtain rfl:d=Uk q[i]:=by simpa [hi] using hd.symm
     have Q:=List.drop_eq_getElem_cons hi;generalize q[i]=x at Q;refine#[_,Zv,?_];walk_at"d";refine Ym (λj X=>∃(g:Got Nd) (B:List Nd) (S:Option OT),ReachI M G u es g (q.drop i) B/\
      (∀(k:Nat) (n:Nd) (r:Int),(k:Int)∈((Zb N.leav<|nk x).getD []).take j->hdE M k=some n->rmE M G k=some r->0<r->n∈Ze g)/\
      X=[zz<|Vg P w C N,zf<|Zj<|nk u,zo v<|VH<|kvG g,zf<|.list<|q.map Uk,some<|.ol<|B.map Uk,zf<|Uk x,S]) (Yz<|Oj H'.net rfl Qp) #[es1,fu1,_,I1,(λk n r hk=>by simp at hk),rfl] ?st2 ?fin2
     case fin2=>
      rintro _ ⟨g,B,w6,E,p,rfl⟩;refine#[g,B,_,_,#[E.tree,E.fin,E.sub,?_,E.len],rfl];rw[Xf,J5]at p;intro e m n r h1 h2 h3 h4 h5 h6;by_cases z:m=x
      .subst z;exact p e n r ((h.leav m (e:Int)).mpr #[e,rfl,h1]) h2 h3 h4
      .refine E.done e m n r h1 h2 h3 h4 h5 ?_;rw[Q,J4,Xc,not_or];exact#[z,h6]
     case st2=>
      rintro j d2 _ F ⟨g,B,w6,E,p,rfl⟩;have hj:=by
       have:=(Xh.mp F).1;simpa using this
      obtain⟨k,ek,tk⟩:=(h.leav x _).mp (X7 hj);obtain rfl:=by
       rw[Xy,XS hj]at F;rw[ek]at F;simpa using F.symm
      obtain⟨y,hy⟩:∃y,M[k/2]?=some y:=by
       unfold tlE at tk;cases z:M[k/2]? with
       |none=>rw[z]at tk;cases tk
       |some y=>exact#[y,rfl]
      obtain⟨n,D⟩:∃n,hdE M k=some n:=⟨_,by unfold hdE;rw[hy];rfl⟩;obtain⟨r,L⟩:∃r,rmE M G k=some r:=⟨_,by unfold rmE;rw[hy];rfl⟩;have ra:atI (N.rooms.map PyData.int) (k:Int)=some (.int r):=ZI (by rw[Xy,h.rooms,GD,L];rfl);have ea:atI (N.ends.map Zj) (k:Int)=some (Zj<|nk n):=ZI (by rw[h.ends,XB,Xy,Kx,D];rfl);have U:((Zb N.leav<|nk x).getD []).take (j+1)=((Zb N.leav<|nk x).getD []).take j++[(k:Int)]:=by rw[Ud,XS hj,ek];rfl
      have bes:=bnd g E.tree;have ben:=E.len;refine#[_,Zv,?_];walk_at"d";have o:∀{Z:Zcs},Z[0]?=some (zz<|Vg P w C N)->Z[6]?=some (zi (k:Int))->Qq K (tOp (rIx K) (ZZ K (QF 0) "ends")<|QF 6) Z (Zj<|nk n):=λe0 e6=>Tt H'.net e0 (Qp e6) ea;refine QS (HU (QY<|VN (Nl H'.net rfl Qp ra) Qx) λ_=>ZB<|Zoe (o rfl rfl) rfl) (λc=>?_) (λc=>QU ?_)
      .rw[Bo]at c;have c1:r > 0:=WC (Bool.and_eq_true_iff.mp c).1;have c2:=by simpa using (Bool.and_eq_true_iff.mp c).2
       refine Q4 (Zr0 rfl Qp (o rfl rfl) (by rw[show(kvG g).length=g.length from Xf _];exact V7<|#[]) ?_);walk_at"d";rw[O7 c2];refine JR rfl (o rfl rfl) (by rw[Xf];lia) ?_;have km:=E.sub x (sb x<|List.mem_of_mem_drop<|by rw[Q];exact Xb);refine#[g++[(n,some k)],B++[n],_,#[E.tree.add c2 D tk km L c1,λz J=>?_,λz J=>JY.mpr<|.inl<|E.sub z J,?_,by simp;lia],λk' n' r' Y q1 q2 q3=>?_,by rw[Xx];rfl]
       .rcases Xq.mp J with J|J
        .exact JY.mpr (.inl<|E.fin z J)
        .exact JY.mpr (.inr<|by simpa using J)
       .exact E.done.add n (some k)
       .rw[U]at Y;rcases Xq.mp Y with z|z
        .exact JY.mpr (.inl<|p k' n' r' z q1 q2 q3)
        .have:k'=k:=by have:=Xj.mp z;lia
         subst this;rw[D]at q1;cases q1;exact JY.mpr (.inr rfl)
      .rw[Bo]at c;refine#[g,B,_,E,λk' n' r' Y q1 q2 q3=>?_,rfl];rw[U]at Y;rcases Xq.mp Y with z|z
       .exact p k' n' r' z q1 q2 q3
       .have:k'=k:=by have:=Xj.mp z;lia
        subst this;rw[D]at q1;rw[L]at q2;cases q1;cases q2;apply Classical.byContradiction;intro hq;have q3':r > 0:=q3;simp[q3',hq]at c
   .have O:q=[]:=by
     cases q with
     |nil=>rfl
     |cons a b=>cases c
    subst O;exact TC rfl #[v,es,rfl,tr,dn.closed]
def Jc(w:Qk):Qd:=w.map λ(e:Nat)=>PyData.int (e:Int)
def FH{es:Got Nd}{w:Qk}(b:Back H1 es n w):Yt (kvG es) (nk n)=some (Ge w.head?):=by
 rw[Nb];cases b with
 |nil h=>rw[h];rfl
 |cons h t b=>rw[h];rfl
def Pj{c:Lay Nd}{e:Nat}{r:Int}(h:rmE c φ e=some r):e<2*c.length:=by
 unfold rmE at h;cases z:c[e/2]? with
 |none=>rw[z]at h;cases h
 |some x=>have:=(Xh.mp z).1;lia
def TX{s:Nd}{es:Got Nd}{w:Qk}(q:WayOk H1 φ s es n w):w.length<=2*H1.length:=by
 have:=NC q.nodup λe f=>by
  obtain⟨r,c,_⟩:=q.room e f;exact X6.mpr (Pj c)
 simpa using this
inductive R_way(P:Program)(w:World)(C:Addr):List OT->(OT->Prop)->Prop
 |mk {N:QB}{H1:Lay Nd}{φ:Zn Nd}{s n:Nd}{es:Got Nd}{wy:Qk}(h:NetR N H1 φ)(l:H1.length<400)(q:WayOk H1 φ s es n wy):R_way P w C [.zow<|Vg P w C N,.zow<|Gd<|kvG es,.fz<|Zj<|nk n] (λr=>r=.ol (Jc wy))
def DG:Qo ["self","edges","end","way","edge"] ZaJ (Q3 R9):=by walk_at"p"
def Ew(T:Bl mg)(t:Tx K mg C gS gE)(dx:Mf K C "way_to" "Net.way_to" R9 ZaJ):Z5 P w K mg base C "way_to" ZaJ 1 (Zk K<|R_way P w C):=by
 refine dx.evD DG (λf ts v h H Z p A outer s X=>?_);cases h with
 |@mk N r u z n es B h l q=>
  refine#[_,(Qz (QZ 3 DG.nd<|ZM Qr)
 (Qz (QZ 4 DG.nd<|T3 (YX X) (pv 1) (pv 2) λ_ _=>rfl)
 (Qz (Ng zN (JO<|TB<|pv 4) (Qz (Zz<|ZL zP zS zT Yg (pv 3)<|av 4 Qr)
 (Qy<|QZ 4 DG.nd<|T3 (YX X) (pv 1) (QH QI (Zg<|pv 0)<|QJ Kr (pv 4) Qw) λ_ _=>rfl)))
 (Qy<|QA<|pv 3)))),?_]
  try dsimp only[VP]
  have x:=TX q;refine Q4 (Vs (ZY Z4<|by decide) ?_);refine Q4 (Z3 (T9 rfl Qp<|FH q.back) ?_);refine Q4 (KZ (λm y=>∃(j g:Qk) (M:Nd),m=g.length/\j++g=B/\Back r es M g/\y=[zz<|Vg P w C N,some _,zf<|Zj<|nk n,some<|.ol<|Jc j,zf<|Ge g.head?]) B.length #[[],B,n,rfl,rfl,q.back,rfl] ?ws)
  case ws=>
   rintro m _ ⟨j,g,M,rfl,E,b,rfl⟩;refine#[_,ZB<|MS Qp,λc=>?_,λc=>?_]
   .cases b with
    |nil d=>cases c
    |@cons _ W e i d Y b0=>
     have o:j.length<1000:=by
      grind
     refine Q4 (JR rfl Qp (by unfold Jc;rw[Xf];exact o) ?_);have k:atI (N.ends.map Zj) (Builtin.bitXor (e) 1)=some (Zj<|nk W):=by
      rw[Rm];exact ZI (by rw[h.ends,XB,Xy,Zpq,Y];rfl)
     refine Z3 (T9 rfl (Tt t.net rfl (Z8 Qp Qx) k)<|FH b0) ?_;walk_at"d";refine#[i.length,J7 _,j++[e],i,W,rfl,by rw[<- E,GT];rfl,b0,?_];unfold Jc;rw[Xx];rfl
   .have:g=[]:=by
     cases g with
     |nil=>rfl
     |cons a b=>cases c
    subst this;rw[Xw]at E;subst E;exact MR rfl rfl
def amt(c:Lay Nd)(φ:Zn Nd)(w:Qk):Int:=Wg (w.map λe=>(rmE c φ e).getD 0)
inductive R_push:QB->List OT->(QB->Prop)->Prop
 |mk {N:QB}{H1:Lay Nd}{φ:Zn Nd}{wy:Qk}(h:NetR N H1 φ)(hd:Dis H1)(ne:wy≠[])(hin:∀e∈wy,∃r,rmE H1 φ e=some r)(hl:wy.length<900):R_push N [.fz<|.list<|Jc wy] (λN'=>NetR N' H1<|Wu H1 (amt H1 φ wy) φ wy)
def NetR.rm{N:QB}(h:NetR N H1 φ)(he:e<2*H1.length):∃r,N.rooms[e]?=some r/\(Yf H1 φ)[e]?=some r:=by
 have:e<(Yf H1 φ).length:=by rw[NV];exact he
 exact#[_[e],by rw[h.rooms,XS this],XS this]
def NetR.push{N:QB}(h:NetR N H1 φ)(c:Dis H1)(g:(Yf H1 φ)[e]?=some r)(f:(Yf H1 φ)[ZgV e]?=some r'):NetR { N with rooms:=(N.rooms.set e<|r-a).set (ZgV e) (r'+a) } H1 (YB H1 a φ e):=
 #[h.ends,by show(N.rooms.set e _).set _ _=_;rw[h.rooms,ZnP c g f],h.leav,h.laid,h.laid0,h.l1,h.l2,h.l3]
def Zoj{f:Lay Nd}{a:Int}{φ:Zn Nd}{c:Qk}{e:Nat}(h:c[i]?=some e):Wu f a φ (c.take<|i+1)=YB f a (Wu f a φ<|c.take i) e:=by
 have t:c.take (i+1)=c.take i++[e]:=by rw[Ud,h];rfl
 rw[t];unfold Wu;rw[List.foldl_append];rfl
def Rs:Qo ["self","way","amount","edge"] ["self","way"] (Q3 DE):=by walk_at"p"
def EY(T:Bl mg)(l:Tx K mg C gS gE)(dx:Mf K C "push" "Net.push" DE ["self","way"]):Z5 P w K mg base C "push" ["self","way"] 1 (spN K P w C R_push):=by
 refine dx.evN Rs (λf v M ts L h H n J A outer s R=>?_);cases h with
 |@mk B X g h u o W S=>
  refine#[_,(Qz (QZ 2 Rs.nd<|Zo Ip (by rfl) T.min MB<|Qs (V3 (NX:=["self","way","amount","edge"]) (sc:=Q3 DE) (N:=["edge","self"]) (f:=[none,some 0]) rfl (by decide +kernel) rfl rfl (VT<|pv 1) (λ_=>(Zm 0 (show(["edge","self"]:Qh).Nodup by decide +kernel))) (λ_=>ZN) (λ_=>V1) λ_=>(QH QI (Zg<|pv 1)<|pv 0)) Qr)
 (Qy (Vu zN rfl (by exact(VT<|pv 1)) (Zm 3 Rs.nd) (by exact(Qz (Gw (Zg<|pv 0) (pv 3) GB (pv 2) A2 Jx)
 (Qy<|Gw (Zg<|pv 0) (QJ Kr (pv 3) Qw) GB (pv 2) Br Jx)))))),?_]
  show QE K _ [_,_,_,_] _
  walk_at"x";refine Q4 (Z3 (d:=.int (amt B X g)) (ZnU 0 rfl rfl (E8 (Qq.cast (EvO.fz<|YC (xs:=g) (enc:=λ(e:Nat)=>PyData.int<|e) (h:=λe=>.int<|(rmE B X e).getD 0) ?ei #[] ?el)<|by rw[XB];rfl) rfl (λz=>o<|List.map_eq_nil_iff.mp z))) ?_)
  case ei=>exact Yz Qp
  case el=>
   intro e t c;refine#[_,Zv,?_];obtain⟨r,E⟩:=W e t;refine Qq.cast (Nl (m:=r) l.net rfl Qp ?_) (by rw[E];rfl);exact ZI (by rw[Xy,h.rooms,GD,E];rfl)
  generalize amt B X g=a;refine Ym (λi Y=>∃(y:QB) (Z:Option OT),NetR y B (Wu B a X<|g.take i)/\Y=[zo v<|Zr P w C y,zf<|.list<|Jc g,zi a,Z]) (Yz Qp) #[M,_,h,rfl] ?st ?fin
  case fin=>
   rintro _ ⟨y,Z,q,rfl⟩;unfold Jc at q;rw[Xf,J5]at q;exact#[y,q,rfl]
  case st=>
   rintro i d _ j ⟨y,Z,q,rfl⟩;have k:=by
    have:=(Xh.mp j).1;unfold Jc at this;simpa using this
   obtain rfl:d=.int (g[i]):=by
    unfold Jc at j;simpa [k] using j.symm
   obtain⟨O,b⟩:=W g[i] (X7 k);have el:=Pj b;rw[Zoj<|XS k];generalize g[i]=e at el;have I:ZgV e<2*B.length:=by unfold ZgV;split<;>lia
   have p:ZgV e≠e:=by unfold ZgV;split<;>lia
   obtain⟨r,G,F⟩:=My.NetR.rm q el;obtain⟨Q,D,x⟩:=My.NetR.rm q I;refine#[_,Zv,?_];refine Q4 (FF l.net rfl (Qp rfl) #[] (G) (Qp rfl) ?_);refine FF l.net rfl (Qq.cast (Z8 (Qp rfl) Qx)<|by rw[Rm]) #[] (by show(y.rooms.set e<|r-a)[ZgV e]?=_;rw[XY<|Ne.symm p];exact D) (Qp rfl) ?_;exact#[_,_,My.NetR.push q u F x,rfl]
inductive R_fill:QB->List OT->(QB->Prop)->Prop
 |mk {N:QB}{y:Yd}{G:Gv}{φ:Zn Nd}(h:NetR N (Zt y G) φ)(F:Flow y G φ)(l:(Zt y G).length<400):R_fill N [.fz<|Zj<|nk .start,.fz<|Zj<|nk .fin] (λN'=>∃φ' es,NetR N' (Zt y G) φ'/\Flow y G φ'/\Nd.start∈Ze es/\Yx (Zt y G) φ' es/\Nd.fin∉Ze es)
def Rk:Qo ["self","start","end","edges"] Zan (Q3 Rb):=by walk_at"p"
def IY(T:Bl mg)(n:Tx K mg C gS gE)(dx:Mf K C "fill" "Net.fill" Rb Zan)(Z:Z5 P w K mg base C "reached" ZaQ 1 (Zk K<|R_reached P w C))(J:Z5 P w K mg base C "push" ["self","way"] 1 (spN K P w C R_push))(I:Z5 P w K mg base C "way_to" ZaJ 1 (Zk K<|R_way P w C)):
 Z5 P w K mg base C "fill" Zan 2 (spN K P w C R_fill):=by
 refine dx.evN Rk (λf v M ts Ψ h H Q cdv A outer s Y=>?_);cases h with
 |@mk y G g h F l=>
  refine#[_,(Qz (QZ 3 Rk.nd<|Wa Z n.net Y (pv 0)<|av 1 Qr)
 (Qy (Ng zN (JO<|MM (YX Y) (pv 2)<|pv 3) (Qz (Zz<|Wa J n.net Y (pv 0)<|Qs (Wa I n.net Y (pv 0)<|av 3<|av 2 Qr) Qr)
 (Qy<|QZ 3 Rk.nd<|Wa Z n.net Y (pv 0)<|av 1 Qr))))),?_]
  try dsimp only[VP]
  have YY:∀{M:QB} {g:Zn Nd} {u:Option OT} {E':XK},NetR M (Zt y G) g->Zu K (ZV C "reached" (Zk K<|R_reached P w C) [] E' (QF 0)<|QM (QF 1) QT) [zo v<|Zr P w C M,zf<|Zj<|nk .start,zf<|Zj<|nk .fin,u] _:=λh'=>
   NI 0 rfl (by rintro r ⟨v',es,e,_⟩;subst e;exact Ot<|OD es) (Nq Ca rfl (Qv (Qp rfl) Q1)<|R_reached.mk h' l)
  refine Q4 (Ju (YY h) λr j=>?_);obtain⟨W,es,rfl,X,k⟩:=j;refine KZ (λm o=>∃(M:QB) (g:Zn Nd) (es:Got Nd) (W:V),NetR M (Zt y G) g/\Flow y G g/\Tree (Zt y G) g .start es/\Yx (Zt y G) g es/\m=(QC G.wa G.m-VJ (Zt y G) g .start).toNat/\
   o=[zo v<|Zr P w C M,zf<|Zj<|nk .start,zf<|Zj<|nk .fin,zo W<|VH<|kvG es]) _ #[M,g,es,W,h,F,X,k,rfl,rfl] ?ws
  clear X k es W h F;rintro m _ ⟨M,g,es,W,h,F,X,k,rfl,rfl⟩;refine#[_,ZB<|AY Qp rfl,λc=>?_,λc=>?_]
  .rw[Bo]at c;obtain⟨b,q⟩:=X.way .fin (WC c);have wl:=TX q;have E:b≠[]:=λz=>by
    have:=q.chain;rw[z]at this;cases this
   refine Li 3 rfl ?_;walk_at"d";refine Q4 (JT OG rfl (Et (NI 0 rfl (λr e=>by subst e;exact II (λd hd=>by
    obtain⟨e,_,rfl⟩:=Xo.mp hd;exact#[_,rfl]))<|Nq E1 rfl (MQ rfl (Qv Qp Q1))<|R_way.mk h l q) λr e=>#[_,e,rfl]) λts t=>?_)
   subst t;refine#[_,R_push.mk h (Di y G) E (λe B=>let ⟨r,a,_⟩:=q.room e B;#[r,a])<|#[],λN' L=>?_];walk_at"d";obtain⟨S,R⟩:=N7 (ns:=b.map λe=>(rmE (Zt y G) g e).getD 0) (λz=>E<|List.map_eq_nil_iff.mp z);have a0:0<amt (Zt y G) g b:=by
    obtain⟨e,B,ee⟩:=Xo.mp S;obtain⟨r,i,U⟩:=q.room e B;rw[i]at ee;show 0<Wg _
    simp_all
   obtain⟨N,nd⟩:=F.push (a:=amt (Zt y G) g b) #[] q.chain q.nodup (λe B=>by
    obtain⟨r,i,_⟩:=q.room e B;refine#[r,i,?_];have:=R _ (Xo.mpr #[e,B,rfl]);rw[i]at this;exact this)
   refine Ju (YY L) (λr j=>?_);obtain⟨O,x,rfl,p,D⟩:=j;refine#[_,?_,N',_,x,O,L,N,p,D,rfl,rfl];have:=N.most;lia
  .rw[Bo]at c;exact#[M,#[g,es,h,F,X.start,k,Mg c],rfl]
structure GOk(y:Yd)(g:Gs):Prop where
 ln:g.line<y.ls.length
 w0:0<=g.want
 m0:0<=g.most
def Ee{y:Yd}{g:Gs}(h:g.Ok y):GOk y g:=#[h.ln,by have:=h.w1;lia,by have:=h.m1;lia]
noncomputable def QP(c:List Gs):Gv:={ m:=c.length,ln:=λk=>(c.getD k default).line,wa:=λk=>(c.getD k default).want,mo:=λk=>(c.getD k default).most,th:=λk t=>JP (c.getD k default) (t:Int) }
def UF{c:List Gs}(h:k<c.length):c.getD k default=c[k]:=by simp[List.getD,h]
def OH(y:Yd)(G:Gv)(k:Nat):(Vl y G k).length<=1+y.T:=by
 unfold Vl;rw[XT];have:∀n,((List.range n).flatMap λt=>if G.th k t=true then [((.guest k,.line (G.ln k) t,G.mo k):Nd×Nd×Int)] else []).length<=n:=by
  intro n;induction n with
  |zero=>simp
  |succ n c=>
   rw[WA,Mi,Xp];have:([n].flatMap λt=>if G.th k t=true then [((.guest k,.line (G.ln k) t,G.mo k):Nd×Nd×Int)] else []).length<=1:=by
    simp only[List.flatMap_cons,List.flatMap_nil,Xw];split<;>simp
   lia
 have:=this y.T;lia
def OM{y:Yd}(h:1<=y.ls.length)(t:Nat):(VW y t).length=y.ls.length:=by
 unfold VW;rw[XT];have:∀n,((List.range n).flatMap λi=>[((.line (i+1) t,.line (Mir.upN y<|i+1) t,ZO y (i+1) t):Nd×Nd×Int)]).length=n:=by
  intro n;induction n with
  |zero=>simp
  |succ n c=>rw[WA,Mi,Xp,c];simp
 rw[this];lia
theorem BH{f:Nat->Lay Nd}{c:Nat}(h:∀k,(f k).length<=c):∀n,((List.range n).flatMap f).length<=n*c
 |0=>by simp
 |n+1=>by
  rw[WA,Mi,Xp];have a:=BH h n;have b:([n].flatMap f).length<=c:=by simpa using h n
  lia
def BO(f:Nat->Lay Nd)(n:Nat):(List.range<|n+1).flatMap f=(List.range n).flatMap f++f n:=by rw[WA];simp
def Nn{f:Nat->Lay Nd} : x∈(List.range n).flatMap f ↔ ∃k,k<n/\x∈f k:=by
 simp_all
def Dz{y:Yd}(g:y.Ok)(G:Gv)(h:n<=8):((List.range n).flatMap (Vl y G)).length<=72:=by
 have a:=BH (f:=Vl y G) (c:=9) (λk=>by have:=OH y G k;have:=g.t8;lia) n;lia
def N4{y:Yd}(c:y.Ok)(h:n<=8):((List.range n).flatMap (VW y)).length<=40:=by
 have a:=BH (λk=>by rw[OM c.l1 k];exact c.l5) n;lia
inductive R_gnode:List OT->OT->Prop
 |mk {k:Nat}:R_gnode [.fz<|.int (k:Int)] (.fz<|Zj<|nk<|.guest k)
def Zjn:Qo ZaD ZaD (Q3 RB):=by walk_at"p"
def ZrX(T:Bl mg)(dx:Df K mg "guest_node" RB ZaD):Q2 P w K mg base "guest_node" ZaD 1 (Q9 (K:=K) R_gnode):=by
 refine dx.ev Zjn (λf ts r h H c g A outer s i=>?_);cases h with
 |@mk k=>
  refine#[_,(Qy<|QA<|Yv<|Qs QK<|av 0 Qr),?_];exact Zh (YE (QO QD<|QO Qp Z4)<|by show(2)<=1000;decide) rfl
inductive R_lnode:List OT->OT->Prop
 |mk {l t:Nat}:R_lnode [.fz<|.int (l:Int),.fz<|.int (t:Int)] (.fz<|Zj<|nk<|.line l t)
def Zke:Qo ZaF ZaF (Q3 Ru):=by walk_at"p"
def Ol(T:Bl mg)(dx:Df K mg "line_node" Ru ZaF):Q2 P w K mg base "line_node" ZaF 1 (Q9 (K:=K) R_lnode):=by
 refine dx.ev Zke (λf ts r h H c g A outer s i=>?_);cases h with
 |@mk l t=>
  refine#[_,(Qy<|QA<|Yv<|Qs QK<|av 0<|av 1 Qr),?_];exact Zh (YE (QO QD<|QO Qp<|QO Qp Z4)<|by show(3)<=1000;decide) rfl
inductive R_lguest:QB->List OT->(QB->Prop)->Prop
 |mk {N:QB}{y:Yd}{gs:List Gs}{k:Nat}(ok:y.Ok)(g8:gs.length<=8)(hk:k<gs.length)(h:NetR N ((List.range k).flatMap (Vl y<|QP gs)) WH):
  R_lguest N [.fz<|Zd y,.fz<|.int (k:Int),.fz<|QX gs[k]] (λN'=>NetR N' ((List.range<|k+1).flatMap (Vl y<|QP gs)) WH)
def Ck:Qo ["net","yard","number","guest","turn"] Zaf (Q3 Rq):=by walk_at"p"
def ZpS(T:Bl mg)(o:Tx K mg C gS gE)(dx:Df K mg "lay_guest" Rq Zaf)(b:Z5 P w K mg base C "lay" Zae 2 (spN K P w C R_lay))(L:Q2 P w K mg base "want_of" Zau 1 (Q9 (K:=K) R_want))(e:Q2 P w K mg base "guest_node" ZaD 1 (Q9 (K:=K) R_gnode))
(O:Q2 P w K mg base "turns_of" ZaC 1 (Q9 (K:=K) R_turns))(I:Q2 P w K mg base "is_there" Zap 1 (Q9 (K:=K) R_there))(G:Q2 P w K mg base "most_of" Zau 1 (Q9 (K:=K) R_most))(N:Q2 P w K mg base "line_node" ZaF 1 (Q9 (K:=K) R_lnode))(J:Q2 P w K mg base "line_of" Zau 1 (Q9 (K:=K) R_lineof)):
 Q2 P w K mg base "lay_guest" Zaf 3 (spN K P w C R_lguest):=by
 refine dx.evN Ck (λf v M ts Ψ h H S cdv A outer s q=>?_);cases h with
 |@mk y g k Q g8 U h=>
  refine#[_,(Qz (Zz<|Wa b o.net q (pv 0)<|Qs (Wn (v:=.ref _) rfl o.mSTART rfl)<|Qs (Q7 e q<|av 2 Qr)<|Qs (Q7 L q<|av 3 Qr) Qr)
 (Qy<|Vu zN rfl (by exact(Y5 rfl T.range<|Qs (Q7 O q<|av 1 Qr) Qr)) (Zm 4 Ck.nd)<|by exact(Qy<|QW (Vc<|Q7 I q<|av 3<|av 4 Qr) (Qy<|Zz<|Wa b o.net q (pv 0)<|Qs (Q7 e q<|av 2 Qr)<|Qs (Q7 N q<|Qs (Q7 J q<|av 3 Qr)<|av 4 Qr)<|Qs (Q7 G q<|av 3 Qr) Qr) QV))),?_]
  show QE K _ [_,_,_,_,_] _;have t8:=Q.t8;have gl:=Dz Q (QP g) (n:=k) #[];have l:=UF U;have ew:(QP g).wa k=g[k].want:=by show(g.getD k default).want=_;rw[l]
  have a:∀x∈(List.range k).flatMap (Vl y<|QP g),∃j,j<k/\x∈Vl y (QP g) j:=λx m=>Nn.mp m;refine Q4 (JT (ΦA:=λts=>ts=[.fz<|Zj<|nk .start,.fz<|Zj<|nk<|.guest k,.fz<|.int g[k].want]) Dc rfl (Jq (Qv (KQ o.aS)<|Qv (QQ (Qv Qp Q1) R_gnode.mk)<|Qv (QQ (Qv Qp Q1) R_want.mk) Q1) rfl) λts W=>?_);subst W;refine#[_,R_lay.mk h ?n0<|#[],λN1 D=>?_]
  case n0=>
   intro z;obtain⟨x,m,F⟩:=Xo.mp z;obtain⟨j,hj,m⟩:=a x m;injection F with E B;rcases W5.mp m with rfl|⟨t,_,_,rfl⟩
   .injection B with B;lia
   .cases E
  refine Ym (ds:=Vy 0 y.T) (λi p=>∃(X:QB) (r:Option OT),NetR X ((List.range k).flatMap (Vl y<|QP g)++((.start,.guest k,(QP g).wa k)::(List.range i).flatMap λt=>if (QP g).th k t=true then [(.guest k,.line ((QP g).ln k) t,(QP g).mo k)] else [])) WH/\
   p=[zo v<|Zr P w C X,zf<|Zd y,zf<|.int<|k,zf<|QX g[k],r]) ?ei #[N1,none,by rw[ew];exact D,rfl] ?st ?fin
  case ei=>exact EvI.cast (YK (Qv (QQ (Qv Qp Q1) R_turns.mk) Q1) (by rw[z62];lia)<|by rw[z62];lia) (WX rfl #[])
  case fin=>
   rintro _ ⟨X,r,Z,rfl⟩;rw[JS]at Z;refine#[X,?_,rfl];rw[BO];exact Z
  case st=>
   rintro t d _ hd ⟨X,r,Z,rfl⟩;obtain⟨ht,rfl⟩:=W2 hd;rw[Ui];refine#[_,Zv,?_];walk_at"d";have et:JP g[k] (t)=(QP g).th k t:=by show _=JP (g.getD k default) (t);rw[l]
   refine QS (QN.cast (ZB<|QQ (Qv Qp<|Qv Qp Q1) R_there.mk) et) (λc=>?_) (λc=>QU ?_)
   .refine JT Dc rfl (Jq (Qv (QQ (Qv Qp Q1) R_gnode.mk)<|Qv (QQ (Qv (QQ (Qv Qp Q1) R_lineof.mk)<|Qv Qp Q1) R_lnode.mk)<|Qv (QQ (Qv Qp Q1) R_most.mk) Q1) rfl) (λts W=>?_);subst W;refine#[_,R_lay.mk Z ?n1 ?l1,λN2 Y=>?_]
    case n1=>
     intro z;obtain⟨x,m,F⟩:=Xo.mp z;injection F with E B;rcases Xq.mp m with m|m
     .obtain⟨j,hj,m⟩:=a x m;rcases W5.mp m with rfl|⟨R,_,_,rfl⟩
      .cases E
      .injection E with E;lia
     .rcases Xc.mp m with rfl|m
      .cases E
      .obtain⟨R,u,m⟩:=Hc.mp m;split at m
       .rw[Xj.mp m]at B;injection B with _ B;have:=X6.mp u;lia
       .cases m
    case l1=>
     rw[Xp];have:(((.start,.guest k,(QP g).wa k):Nd×Nd×Int)::(List.range t).flatMap λt=>if (QP g).th k t=true then [((.guest k,.line ((QP g).ln k) t,(QP g).mo k))] else []).length<=1+t*1:=by
      rw[XT];have:=BH (f:=λt=>if (QP g).th k t=true then [((.guest k,.line ((QP g).ln k) t,(QP g).mo k))] else []) (c:=1) (λt=>by split<;>simp) t;lia
     lia
    refine#[N2,_,?_,rfl];rw[BO,Xi c];have E:(QP g).ln k=g[k].line:=by show(g.getD k default).line=_;rw[l]
    have B:(QP g).mo k=g[k].most:=by show(g.getD k default).most=_;rw[l]
    rw[<- E,<- B,GT]at Y;exact Y
   .refine#[X,_,?_,rfl];rw[BO,Xg<|by rw[c];decide,Xw];exact Z
inductive R_lturn:QB->List OT->(QB->Prop)->Prop
 |mk {N:QB}{y:Yd}{G:Gv}{t:Nat}(ok:y.Ok)(g8:G.m<=8)(ht:t<y.T)(h:NetR N ((List.range G.m).flatMap (Vl y G)++(List.range t).flatMap (VW y)) WH):
  R_lturn N [.fz<|Zd y,.fz<|.int (t:Int)] (λN'=>NetR N' ((List.range G.m).flatMap (Vl y G)++(List.range<|t+1).flatMap (VW y)) WH)
def Ce:Qo ["net","yard","turn","line"] ZaM (Q3 Re):=by walk_at"p"
def ZrE(T:Bl mg)(b:Tx K mg C gS gE)(dx:Df K mg "lay_turn" Re ZaM)(Y:Z5 P w K mg base C "lay" Zae 2 (spN K P w C R_lay))(Z:Q2 P w K mg base "bound_at" Zar 1 (Q9 (K:=K) R_bound))(E:Q2 P w K mg base "line_node" ZaF 1 (Q9 (K:=K) R_lnode))
(N:Q2 P w K mg base "line_count" ZaC 1 (Q9 (K:=K) R_count))(L:Q2 P w K mg base "above_of" ZaL 1 (Q9 (K:=K) R_above)):Q2 P w K mg base "lay_turn" ZaM 3 (spN K P w C R_lturn):=by
 refine dx.evN Ce (λf v M ts Ψ h H O cdv A outer s m=>?_);cases h with
 |@mk y G t q U ht h=>
  refine#[_,(Qz (Zz<|Wa Y b.net m (pv 0)<|Qs (Q7 E m<|Qs Qw<|av 2 Qr)<|Qs (Wn (v:=.ref _) rfl b.mEND rfl)<|Qs (Q7 Z m<|av 1<|Qs Qw<|av 2 Qr) Qr)
 (Qy<|Vu zN rfl (by exact(ZoK rfl T.range<|Qs Qw<|Qs (Q7 N m<|av 1 Qr) Qr)) (Zm 3 Ce.nd)<|by exact(Qy<|Zz<|Wa Y b.net m (pv 0)<|Qs (Q7 E m<|av 3<|av 2 Qr)<|Qs (Q7 E m<|Qs (Q7 L m<|av 1<|av 3 Qr)<|av 2 Qr)<|Qs (Q7 Z m<|av 1<|av 3<|av 2 Qr) Qr))),?_]
  show QE K _ [_,_,_,_] _
  walk_at"x";have t8:=q.t8;have l1:=q.l1;have l5:=q.l5;have gl:=Dz q G U;have tl:=N4 q (n:=t) #[];have X:∀x∈(List.range G.m).flatMap (Vl y G)++(List.range t).flatMap (VW y),(∃j,x∈Vl y G j)\/∃e,e<t/\x∈VW y e:=λx g=>by
   rcases Xq.mp g with g|g
   .obtain⟨j,_,g⟩:=Nn.mp g;exact .inl #[j,g]
   .obtain⟨j,R,g⟩:=Nn.mp g;exact .inr #[j,R,g]
  refine Q4 (JT (ΦA:=λts=>ts=[.fz<|Zj<|nk<|.line 0 t,.fz<|Zj<|nk .fin,.fz<|.int<|ZO y 0 t]) Dc rfl (Jq (Qv (QQ (Qv Qx<|Qv Qp Q1)<|R_lnode.mk (l:=0))<|Qv (PJ b.aS b.aE)<|Qv (QQ (Qv Qp<|Qv Qx<|Qv Qp Q1)<|R_bound.mk q (by decide) #[] #[]<|#[]) Q1) ?e0) λts B=>?_)
  case e0=>rw[X5];rfl
  subst B;refine#[_,R_lay.mk h ?n0<|by rw[Xp];lia,λN1 I=>?_]
  case n0=>
   intro D;obtain⟨x,g,J⟩:=Xo.mp D;injection J with e1 o;rcases X x g with ⟨j,g⟩|⟨e,z,g⟩
   .rcases W5.mp g with rfl|⟨u,_,_,rfl⟩<;>cases e1
   .rcases Jy.mp g with rfl|⟨i,_,rfl⟩
    .injection e1 with _ e1;lia
    .cases o
  refine Ym (ds:=Vy 1 (y.ls.length-1)) (λi p=>∃(a:QB) (r:Option OT),NetR a (((List.range G.m).flatMap (Vl y G)++(List.range t).flatMap (VW y))++((.line 0 t,.fin,ZO y 0 t)::(List.range i).flatMap λi=>[(.line (i+1) t,.line (Mir.upN y<|i+1) t,ZO y (i+1) t)])) WH/\
   p=[zo v<|Zr P w C a,zf<|Zd y,zf<|.int<|t,r]) ?ei #[N1,none,by simpa using I,rfl] ?st ?fin
  case ei=>exact EvI.cast (T4 (Qv Qx<|Qv (QQ (Qv Qp Q1) R_count.mk) Q1)<|by rw[z62];lia) (WX rfl #[])
  case fin=>
   rintro _ ⟨a,r,k,rfl⟩;rw[JS]at k;refine#[a,?_,rfl];rw[BO,<- GT];exact k
  case st=>
   rintro i d _ S ⟨a,r,k,rfl⟩;obtain⟨hi,rfl⟩:=W2 S;have ei:(1:Int)+(i)=((i+1)):=#[]
   rw[ei];refine#[_,Zv,?_];walk_at"d";refine JT (ΦA:=λts=>ts=[.fz<|Zj<|nk<|.line (i+1) t,.fz<|Zj<|nk<|.line (Mir.upN y<|i+1) t,.fz<|.int<|ZO y (i+1) t]) Dc rfl (Jq (Qv (QQ (Qv Qp<|Qv Qp Q1)<|R_lnode.mk)<|Qv (QQ (Qv (QQ (Qv Qp<|Qv Qp Q1)<|R_above.mk q #[]<|#[])<|Qv Qp Q1)<|R_lnode.mk)<|Qv (QQ (Qv Qp<|Qv Qp<|Qv Qp Q1)<|R_bound.mk q #[] #[] #[]<|#[]) Q1) ?e1) (λts B=>?_)
   case e1=>rw[X5];rfl
   subst B;refine#[_,R_lay.mk k ?n1 ?l1,λN2 W=>?_]
   case n1=>
    intro D;obtain⟨x,g,J⟩:=Xo.mp D;injection J with e1 o;rcases Xq.mp g with g|g
    .rcases X x g with ⟨j,g⟩|⟨e,z,g⟩
     .rcases W5.mp g with rfl|⟨u,_,_,rfl⟩<;>cases e1
     .rcases Jy.mp g with rfl|⟨Q,_,rfl⟩
      .cases o
      .lia
    .rcases Xc.mp g with rfl|g
     .cases o
     .obtain⟨Q,F,g⟩:=Hc.mp g;rw[Xj.mp g]at e1;have:=X6.mp F;lia
   case l1=>
    rw[Xp,Xp,XT];have:=BH (f:=λi=>[((.line (i+1) t,.line (Mir.upN y<|i+1) t,ZO y (i+1) t))]) (c:=1) (λi=>by simp) i;lia
   refine#[N2,_,?_,rfl];rw[BO];rw[GT]at W;exact W
def Jf(y:Yd)(G:Gv)(φ:Zn Nd):Prop:=Flow y G φ/\∃es:Got Nd,Nd.start∈Ze es/\Yx (Zt y G) φ es/\Nd.fin∉Ze es
inductive R_filled(P:Program)(w:World)(C:Addr):List OT->(OT->Prop)->Prop
 |mk {y:Yd}{gs:List Gs}(ok:y.Ok)(hg:∀g∈gs,GOk y g)(g8:gs.length<=8):R_filled P w C [.fz<|Zd y,.fz<|.list<|gs.map QX] (λr=>∃v N φ,r=.own v (Zr P w C N)/\NetR N (Zt y<|QP gs) φ/\Jf y (QP gs) φ)
def SJ{y:Yd}(f:y.Ok)(c:l<y.ls.length)(h:t<y.T):0<=ZO y l t:=by
 rw[FR c];have i:=L5 f c;have g:Yq y l∈y.ls:=by simp[Yq,c]
 have:(Yq y l).bs.getD t 0=(Yq y l).bs[t]'#[]:=by simp[List.getD,show t<(Yq y l).bs.length by lia]
 rw[this];exact(f.bb _ g _<|X7 _).1
def Ob{y:Yd}(f:y.Ok)(q:∀g∈gs,GOk y g):∀x∈Zt y (QP gs),0<=x.2.2:=λx c=>by
 have s:=f.l1;rcases GC.mp c with ⟨k,m,c⟩|⟨t,h,c⟩
 .have j:GOk y (gs.getD k default):=by rw[UF m];exact q _ (X7 _)
  rcases W5.mp c with rfl|⟨t,_,_,rfl⟩
  .exact j.w0
  .exact j.m0
 .rcases Jy.mp c with rfl|⟨i,w,rfl⟩
  .exact SJ f #[] h
  .exact SJ f #[] h
def BY:Qo ["yard","guests","net","number","guest","turn"] Zab (Q3 R8):=by walk_at"p"
def Zqe(T:Bl mg)(M:Tx K mg C gS gE)(dx:Df K mg "filled_net" R8 Zab)(z:Ht P w K mg base "Net" C 1)(x:Q2 P w K mg base "lay_guest" Zaf 3 (spN K P w C R_lguest))(D:Q2 P w K mg base "turns_of" ZaC 1 (Q9 (K:=K) R_turns))
(u:Q2 P w K mg base "lay_turn" ZaM 3 (spN K P w C R_lturn))(r:Z5 P w K mg base C "fill" Zan 2 (spN K P w C R_fill)):Q2 P w K mg base "filled_net" Zab 4 (Zk K<|R_filled P w C):=by
 refine dx.evD BY (λf ts Φ h H J cdv A outer s W=>?_);cases h with
 |@mk y j B O p=>
  refine#[_,(Qz (QZ 2 BY.nd<|AS z W)
 (Qz (Vu zN rfl (by exact(BW rfl T.enumerate<|av 1 Qr)) (Jn (n:=2) rfl (VQ (Zm 3 BY.nd)<|VQ (Zm 4 BY.nd) Jw))<|by exact(Qy<|Zz<|Q7 x W<|av 2<|av 0<|av 3<|av 4 Qr))
 (Qz (Vu zN rfl (by exact(Y5 rfl T.range<|Qs (Q7 D W<|av 0 Qr) Qr)) (Zm 5 BY.nd)<|by exact(Qy<|Zz<|Q7 u W<|av 2<|av 0<|av 5 Qr))
 (Qz (Zz<|Wa r M.net W (pv 2)<|Qs (Wn (v:=.ref _) rfl M.mSTART rfl)<|Qs (Wn (v:=.ref _) rfl M.mEND rfl) Qr)
 (Qy<|QA<|pv 2))))),?_]
  walk_at"x";have I:=B.t8;refine Q4 (K1 EI λv=>?_);refine Q4 (Ym (λi q=>∃(m:QB) (e Z:Option OT),NetR m ((List.range i).flatMap (Vl y<|QP j)) WH/\q=[zf<|Zd y,zf<|.list<|j.map QX,zo v<|Zr P w C m,e,Z,none]) (B6<|Qv Qp Q1) #[_,none,none,CZ _,rfl] ?st ?fin)
  case st=>
   rintro i d _ o ⟨m,e,Z,E,rfl⟩;obtain⟨a,G,rfl⟩:=BQ o;have F:=by
    have:=(Xh.mp G).1;simpa using this
   obtain rfl:a=QX j[i]:=by simpa [F] using G.symm
   refine#[_,Jh (Y3 Zv<|Y3 Zv JM) rfl,?_];walk_at"d";refine Lg rfl (Jq (Qv Qp<|Qv Qp<|Qv Qp Q1) rfl) (λts c=>?_);subst c;refine#[_,R_lguest.mk B p F E,λY g=>?_];exact#[Y,_,_,g,rfl]
  case fin=>
   rintro _ ⟨N1,e,Z,X,rfl⟩;rw[BS,Xf]at X;refine Q4 (Ym (ds:=Vy 0 y.T) (λi q=>∃(m:QB) (l:Option OT),NetR m ((List.range (QP j).m).flatMap (Vl y<|QP j)++(List.range i).flatMap (VW y)) WH/\q=[zf<|Zd y,zf<|.list<|j.map QX,zo v<|Zr P w C m,e,Z,l]) ?ei2 #[N1,none,by rw[show(List.range 0).flatMap (VW y)=[] from rfl,Xw];exact X,rfl] ?st2 ?fin2)
   case ei2=>exact EvI.cast (YK (Qv (QQ (Qv Qp Q1) R_turns.mk) Q1) (by rw[z62];lia)<|by rw[z62];lia) (WX rfl #[])
   case st2=>
    rintro t d _ o ⟨m,l,E,rfl⟩;obtain⟨N,rfl⟩:=W2 o;rw[Ui];refine#[_,Zv,?_];refine Lg rfl (Jq (Qv Qp<|Qv Qp Q1) rfl) (λts c=>?_);subst c;refine#[_,R_lturn.mk B p N E,λY g=>?_];exact#[Y,_,g,rfl]
   case fin2=>
    rintro _ ⟨m,l,E,rfl⟩;rw[JS]at E;have L:(Zt y<|QP j).length<400:=by
     unfold Zt;rw[Xp];have a:=Dz B (QP j) (n:=(QP j).m) p;have b:=N4 B I;lia
    refine Q4 (JT ZrT rfl (Jq (Qv (KQ M.aS)<|Qv (PJ M.aS M.aE) Q1) rfl) λts c=>?_);subst c;refine#[_,R_fill.mk E (Aj<|Ob B O) L,λY g=>?_];obtain⟨k,es,h1,U,S,R,Q⟩:=g;exact TC rfl #[v,Y,k,rfl,h1,U,es,S,R,Q]
def WP(y:Yd)(G:Gv)(φ:Zn Nd):List (Ql):=(List.range G.m).map λk=>(List.range y.T).map λt=>Zs G φ t k
def Zpi{y:Yd}(s:k<G.m)(m:t<y.T):Bs (Zt y G) φ (.guest k) (.line (G.ln k) t)=Zs G φ t k:=by
 unfold Bs Zs;by_cases c:G.th k t=true
 .rw[Xi c,Xi<|Xo.mpr #[_,MX s m c,rfl]]
 .rw[Xg c,Xg λq=>?_];obtain⟨x,f,w⟩:=Xo.mp q;injection w with g A;rcases GC.mp f with ⟨j,_,f⟩|⟨h,_,f⟩
  .rcases W5.mp f with rfl|⟨h,_,B,rfl⟩
   .cases g
   .lia
  .rcases Jy.mp f with rfl|⟨i,_,rfl⟩<;>cases g
inductive R_takes(P:Program)(w:World)(C:Addr):List OT->OT->Prop
 |mk {N:QB}{y:Yd}{gs:List Gs}{φ:Zn Nd}{k:Nat}(ok:y.Ok)(h:NetR N (Zt y<|QP gs) φ)(hk:k<gs.length):R_takes P w C [.zow<|Vg P w C N,.fz<|Zd y,.fz<|.int (k:Int),.fz<|QX gs[k]] (.ol<|(List.range y.T).map λt=>PyData.int<|Zs (QP gs) φ t k)
def Zl9:Qo Zaf Zaf (Q3 DB):=by walk_at"p"
def Zs3(T:Bl mg)(d:Tx K mg C gS gE)(dx:Df K mg "takes_by" DB Zaf)(E:Q2 P w K mg base "turns_of" ZaC 1 (Q9 (K:=K) R_turns))(B:Z5 P w K mg base C "flow" Zan 1 (Zk K<|R_flow P w C))(q:Q2 P w K mg base "line_node" ZaF 1 (Q9 (K:=K) R_lnode))(j:Q2 P w K mg base "line_of" Zau 1 (Q9 (K:=K) R_lineof))(m:Q2 P w K mg base "guest_node" ZaD 1 (Q9 (K:=K) R_gnode)):
 Q2 P w K mg base "takes_by" Zaf 2 (Q9 (K:=K)<|R_takes P w C):=by
 refine dx.ev Zl9 (λf ts r h H X b A outer s g=>?_);cases h with
 |@mk N y i φ k Y h M=>
  refine#[_,(Qy<|QA<|V3 (NX:=Zaf) (sc:=Q3 DB) (N:=["turn","net","number","guest"]) (f:=[none,some 0,some 2,some 3]) rfl (by decide +kernel) rfl rfl (Y5 rfl T.range<|Qs (Q7 E g<|av 1 Qr) Qr) (λ_=>(Zm 0 (show(["turn","net","number","guest"]:Qh).Nodup by decide +kernel))) (λ_=>ZN) (λ_=>V1) λ_=>(Wa B d.net g (pv 1)<|Qs (Q7 m g<|av 2 Qr)<|Qs (Q7 q g<|Qs (Q7 j g<|av 3 Qr)<|av 0 Qr) Qr)),?_];have e:=Y.t8;refine Jm (M9 (lo:=0) ?ei #[] ?el) rfl
  case ei=>exact EvI.cast (YK (Qv (QQ (Qv Qp Q1) R_turns.mk) Q1) #[]<|#[]) (WX rfl #[])
  case el=>
   intro t Z c;refine#[_,Zv,?_];rw[Ui];have a:(QP i).ln k=i[k].line:=by show(i.getD k default).line=_;rw[UF M]
   have W:=Zpi (G:=QP i) (φ:=φ) M Z;rw[a]at W;exact Qq.cast (EvO.e<|Zu.o<|Nq Ou rfl (Qv (QQ (Qv Qp Q1) R_gnode.mk)<|Qv (QQ (Qv (QQ (Qv Qp Q1) R_lineof.mk)<|Qv Qp Q1) R_lnode.mk) Q1)<|R_flow.mk h) (by rw[W])
inductive R_great:List OT->(OT->Prop)->Prop
 |mk {y:Yd}{gs:List Gs}(ok:y.Ok)(hg:∀g∈gs,GOk y g)(g8:gs.length<=8):R_great [.fz<|Zd y,.fz<|.list<|gs.map QX] (λr=>∃φ,Jf y (QP gs) φ/\r=.oll ((WP y (QP gs) φ).map λrow=>row.map PyData.int))
def Cq:Qo ["yard","guests","net"] Zab (Q3 DS):=by walk_at"p"
def Zru(T:Bl mg)(D:Tx K mg C gS gE)(dx:Df K mg "greatest_filling" DS Zab)(M:Q2 P w K mg base "filled_net" Zab 4 (Zk K<|R_filled P w C))(W:Q2 P w K mg base "takes_by" Zaf 2 (Q9 (K:=K)<|R_takes P w C)):Q2 P w K mg base "greatest_filling" Zab 5 (Zk K R_great):=by
 refine dx.evD Cq (λf ts z h H d x A outer s Y=>?_);cases h with
 |@mk y j X l u=>
  refine#[_,(Qz (QZ 2 Cq.nd<|Q7 M Y<|av 0<|av 1 Qr)
 (Qy<|QA<|V3 (NX:=["yard","guests","net"]) (sc:=Q3 DS) (N:=ZaG) (f:=[none,none,some 2,some 0]) rfl (by decide +kernel) rfl rfl (BW rfl T.enumerate<|av 1 Qr) (λ_=>(Jn (n:=2) rfl (VQ (Zm 0 (show(ZaG:Qh).Nodup by decide +kernel))<|VQ (Zm 1 (show(ZaG:Qh).Nodup by decide +kernel)) Jw))) (λ_=>(MC (n:=2)<|JV ZN<|JV ZN MT)) (λ_=>V1) λ_=>(Q7 W Y<|av 2<|av 3<|av 0<|av 1 Qr))),?_]
  show QE K _ [_,_,_] _
  walk_at"x";refine Q4 (Ju (Wk (Qv Qp<|Qv Qp Q1)<|R_filled.mk X l u) λr E=>?_);obtain⟨v,N,q,rfl,o,m⟩:=E;walk_at"d";refine Zrt 2 rfl ?_;walk_at"d";refine Jm (r:=.oll ((WP y (QP j) q).map λB=>B.map PyData.int)) (EvO.cast (PP (xs:=j.zipIdx) (enc:=λp=>PyData.tuple [.int (p.2:Int),QX p.1]) (h:=λp=>(List.range y.T).map λt=>PyData.int<|Zs (QP j) q t p.2) ?ei (by simp;lia) ?el) ?eq) #[q,m,rfl]
  case ei=>
   refine EvI.cast (B6<|Qv Qp Q1) ?_;unfold Uz;rw[List.zipIdx_map,XB];rfl
  case eq=>
   congr 1
   unfold WP;rw[XB];have:(QP j).m=j.length:=rfl;rw[this];apply List.ext_getElem?;intro i;by_cases a:i<j.length
   .simp[a,XB,Function.comp_def]
   .simp[a]
  case el=>
   intro p e c;obtain⟨Z,b⟩:∃h:p.2<j.length,p.1=j[p.2]:=by
    have:=List.mem_zipIdx e;simp at this;exact#[this.1,this.2]
   obtain⟨g,k⟩:=p;simp only at Z b;subst b;refine#[_,Jh (ds:=[.int (k:Int),QX j[k]]) (Y3 Zv<|Y3 Zv JM) rfl,?_];walk_at"e";exact B7 (MQ rfl (Qv Qp<|Qv Qp<|Qv Qp Q1)) (R_takes.mk X o Z)
def Zhu:Qo Zab Zab (Q3 RI):=by walk_at"p"
def Oa(T:Bl mg)(dx:Df K mg "best_filling" RI Zab)(g:Q2 P w K mg base "greatest_filling" Zab 5 (Zk K R_great)):Q2 P w K mg base "best_filling" Zab 6 (Zk K R_great):=by
 refine dx.evD Zhu (λf ts B h H i q A outer s j=>?_);have m:=h;cases h with
 |@mk y M C E W=>
  refine#[_,(Qy<|QA<|Q7 g j<|av 0<|av 1 Qr),?_];exact Kz (Wk (Qv Qp<|Qv Qp Q1) m) (λr c=>c)
noncomputable def Yk(y:Yd)(G:Gv)(S:Qm):Int:=QC (Z1 S G.wa) G.m-QC (λt=>passes y (λl=>ZO y l t) (Us G S t) 0) y.T
noncomputable def HN(y:Yd)(G:Gv)(φ:Zn Nd):Int:=QC (λk=>G.wa k-QC (λt=>Zs G φ t k) y.T) G.m
def Zp6{y:Yd}(F:Flow y G φ)(g:y.Ok)(f:∀k,k<G.m->G.ln k<y.ls.length)(S:Qm):Yk y G S<=HN y G φ:=by
 have h:∀k,k<G.m->0<=G.wa k-QC _ y.T:=λk c=>by
  rw[F.total c];have:=F.want c;lia
 have s:QC (Z1 S λk=>G.wa k-QC _ y.T) G.m<=HN y G φ:=WS λk c=>Nc (h k c)
 have q:QC (Z1 S λk=>G.wa k-QC (λt=>Zs G φ t k) y.T) G.m=QC (Z1 S G.wa) G.m-QC (Z1 S λk=>QC (λt=>Zs G φ t k) y.T) G.m:=by
  rw[<- Nv];refine Z6 λk _=>?_;unfold Z1;split<;>lia
 have m:QC (λt=>QC (Z1 S<|Zs G φ t) G.m) y.T=QC (Z1 S λk=>QC (λt=>Zs G φ t k) y.T) G.m:=by
  rw[D2 _ y.T G.m];refine Z6 λk _=>?_;unfold Z1;cases S k with
  |true=>rfl
  |false=>simp only[ if_false];exact Yp _
 have j:=WS λt i=>F.no_more g f S i;unfold Yk;lia
def PR{y:Yd}(f:∀g∈gs,GOk y g):∀k,k<(QP gs).m->(QP gs).ln k<y.ls.length:=λk c=>by
 show(gs.getD k default).line<_
 rw[UF c];exact(f _<|X7 _).ln
def Jk(c:List Gs)(S:Qm):Qk:=(List.range c.length).filter S
def L8(f:gs.length<=8)(S:Qm):SetOk gs (Jk gs S):=
 #[λk c=>X6.mp (GS.mp c).1,Xl (Ml _ _)<|by simpa using f]
theorem F8(f:Qn):∀n,((List.range n).map f).sum=QC f n
 |0=>rfl
 |n+1=>by rw[WA,Xx,List.sum_append,F8 f n];simp[QC]
theorem FO(f:Qn)(p:Qm):∀n,(((List.range n).filter p).map f).sum=QC (Z1 p f) n
 |0=>rfl
 |n+1=>by
  rw[WA,GU,Xx,List.sum_append,FO f p n];show _=QC _ n+Z1 p f n;unfold Z1;cases e:p n with
  |true=>simp[ e]
  |false=>simp[ e]
def IA(f:List Gs)(S:Qm)(t l:Nat):Us (QP f) S t l=Gq f t (Jk f S) l:=by
 show _=VA f (t) l ((List.range f.length).filter S);rw[ZnR];refine Z6 λk g=>?_;unfold Z1 moT wgt ind;rw[XS g];have j:(QP f).th k t=JP f[k] (t):=by show JP _ _=_;rw[UF g]
 have i:(QP f).mo k=f[k].most:=by show(f.getD k default).most=_;rw[UF g]
 have h:(QP f).ln k=f[k].line:=by show(f.getD k default).line=_;rw[UF g]
 rw[ h];cases S k with
 |false=>simp
 |true=>
  by_cases c:f[k].line=l
  .simp_all
  .simp[c]
def TF(f:List Gs)(c:Qk):Int:=(c.map λk=>(f.getD k default).want).sum
def FC(y:Yd)(c:List Gs)(S:Qm):Yk y (QP c) S=TF c (Jk c S)-D5 y c (Jk c S):=by
 unfold Yk;congr 1
 .exact(FO _ S c.length).symm
 .unfold D5;rw[F8];refine Z6 λt _=>?_;unfold KI;rw[show Us _ S t=Gq c t _ from funext λl=>IA c S t l]
def HY(y:Yd)(G:Gv)(φ:Zn Nd)(es:Got Nd):Prop:=Flow y G φ/\Nd.start∈Ze es/\Yx (Zt y G) φ es/\Nd.fin∉Ze es
inductive R_lset:List OT->(OT->Prop)->Prop
 |mk {y:Yd}{gs:List Gs}(ok:y.Ok)(hg:∀g∈gs,GOk y g)(g8:gs.length<=8):R_lset [.fz<|Zd y,.fz<|.list<|gs.map QX] (λr=>∃φ es,HY y (QP gs) φ es/\r=.ol (Yj<|Jk gs<|VV es))
def Cs:Qo ["yard","guests","edges"] Zab (Q3 DP):=by walk_at"p"
def Zma(T:Bl mg)(Y:Tx K mg C gS gE)(dx:Df K mg "guests_reached" DP Zab)(M:Q2 P w K mg base "filled_net" Zab 4 (Zk K<|R_filled P w C))(W:Z5 P w K mg base C "reached" ZaQ 1 (Zk K<|R_reached P w C))(X:Q2 P w K mg base "guest_node" ZaD 1 (Q9 (K:=K) R_gnode)):
 Q2 P w K mg base "guests_reached" Zab 5 (Zk K R_lset):=by
 refine dx.evD Cs (λf ts Φ h H o Q A outer s E=>?_);cases h with
 |@mk y g B u d=>
  refine#[_,(Qz (QZ 2 Cs.nd<|Wa W Y.net E (Q7 M E<|av 0<|av 1 Qr)<|Qs (Wn (v:=.ref _) rfl Y.mSTART rfl) Qr)
 (Qy<|QA<|V3 (NX:=["yard","guests","edges"]) (sc:=Q3 DP) (N:=["number","edges"]) (f:=[none,some 2]) rfl (by decide +kernel) rfl rfl (Y5 rfl T.range<|Qs (Zo ZW (by rfl) T.len ZQ<|av 1 Qr) Qr) (λ_=>(Zm 0 (show(["number","edges"]:Qh).Nodup by decide +kernel))) (λ_=>ZN) (λ_=>(MU<|JO<|MM (YX E) (Q7 X E<|av 0 Qr)<|pv 1)) λ_=>(pv 0))),?_]
  show QE K _ [_,_,_] _
  walk_at"x";have t:(Zt y<|QP g).length<400:=by
   unfold Zt;rw[Xp];have a:=Dz B (QP g) (n:=(QP g).m) d;have b:=N4 B B.t8;lia
  refine Q4 (Ju (Φ:=λr=>∃v q es,r=.own v (VH<|kvG es)/\HY y (QP g) q es) (ZsC (P:=P) (w:=w) Ca (Wk (Qv Qp<|Qv Qp Q1)<|R_filled.mk B u d) (λr m=>?_)<|Qv (KQ Y.aS) Q1) λr m=>?_)
  .obtain⟨v,N,q,rfl,x,F,L,I,G,D⟩:=m;refine#[v,N,rfl,_,R_reached.mk (s:=.start) x t,by rintro r ⟨l,es,e,Z,O⟩;exact#[l,q,es,e,F,Z.start,O,λz=>D<|Z.inClosed G I _ z]]
  .obtain⟨v,q,es,rfl,J⟩:=m;walk_at"d";refine Li 2 rfl ?_;walk_at"d";refine Jm (r:=.ol (Yj<|Jk g<|VV es)) (Bv (xs:=List.range g.length) (enc:=λ(j:Nat)=>PyData.int (j:Int)) (h:=λ(j:Nat)=>PyData.int (j:Int)) (p:=VV es) ?ei (by simp;lia) ?el) #[q,es,J,rfl]
   case ei=>
    have e:(g.map QX).length=g.length:=by simp
    refine EvI.cast (YK (Qv (VR Qp) Q1) (by rw[z62,e];lia)<|by rw[z62,e];lia) ?_;rw[e,X5];unfold Vy;refine Ug λi _=>?_;rw[Ui]
   case el=>
    intro k R c;refine#[_,Zv,?_,λ_=>?_]
    .walk_at"e";exact QN.cast (ZB<|En (k:=nk (.guest k)) (QQ (Qv Qp Q1) R_gnode.mk) rfl) (Bo _ _)
    .walk_at"e";exact Qp rfl
def Zik:Qo Zab Zab (Q3 R4):=by walk_at"p"
def IL(T:Bl mg)(dx:Df K mg "lacking_set" R4 Zab)(g:Q2 P w K mg base "guests_reached" Zab 5 (Zk K R_lset)):Q2 P w K mg base "lacking_set" Zab 6 (Zk K R_lset):=by
 refine dx.evD Zik (λf ts B h H i q A outer s j=>?_);have m:=h;cases h with
 |@mk y M C E W=>
  refine#[_,(Qy<|QA<|Q7 g j<|av 0<|av 1 Qr),?_];exact Kz (Wk (Qv Qp<|Qv Qp Q1) m) (λr c=>c)
def K4(y:Yd)(f:List Gs)(c:Qk):Int:=TF f c-D5 y f c
inductive R_short:List OT->OT->Prop
 |mk {y:Yd}{gs:List Gs}{sm:Qk}(ok:y.Ok)(hg:∀g∈gs,g.line<y.ls.length)(hs:SetOk gs sm):
  R_short [.fz<|Zd y,.fz<|.list<|gs.map QX,.fz<|.list<|Yj sm] (.fz<|.int<|K4 y gs sm)
def ZlS:Qo Zag Zag (Q3 DC):=by walk_at"p"
def Zrr(T:Bl mg)(dx:Df K mg "short_of" DC Zag)(i:Q2 P w K mg base "want_of" Zau 1 (Q9 (K:=K) R_want))(m:Q2 P w K mg base "given_most" Zag 4 (Q9 (K:=K) R_givenm)):
 Q2 P w K mg base "short_of" Zag 5 (Q9 (K:=K) R_short):=by
 refine dx.ev ZlS (λf ts r h H C X A outer s q=>?_);cases h with
 |@mk y a B E W g=>
  refine#[_,(Qy<|QA<|QJ Yl (Zo Py (by rfl) T.sum PZ<|Qs (V3 (NX:=Zag) (sc:=Q3 DC) (N:=["number","guests"]) (f:=[none,some 1]) rfl (by decide +kernel) rfl rfl (VT<|pv 2) (λ_=>(Zm 0 (show(["number","guests"]:Qh).Nodup by decide +kernel))) (λ_=>ZN) (λ_=>V1) λ_=>(Q7 i q<|Qs (QH QI (pv 1)<|pv 0) Qr)) Qr)<|Q7 m q<|av 0<|av 1<|av 2 Qr),?_];show QE K _ [_,_,_] _
  walk_at"x";have Y:=g.len;refine Zh (Z8 (HR ?_ rfl)<|QQ (by walk_at"ea")<|R_givenm.mk E W g) rfl;refine EvO.fz ?_;rw[XB];refine YC (xs:=B) (enc:=λ(j:Nat)=>PyData.int (j:Int)) ?_ #[] ?_
  .walk_at"ei"
  .intro x M c;have Z:=g.mem x M;refine#[_,by walk_at"g",?_];refine QQ (Qv (Qq.cast (by walk_at"ev")<|by rw[X5]) Q1) R_want.mk
def ZfI:Qo ZaN ZaN (Q3 GJ):=by walk_at"p"
def Zo6{f:Addr}(T:Bl mg)(F:Fun K "__init__" "NoRoom.__init__" GJ f fd)(m:Uj K YR CR f)(xs:RP K CR)(i:W.takerIn K CR "some"=some none)(j:mg "YardError"=some (.ref YR)):FnOk P w K mg base CX0 1 f fd ZaN (BE K CR "some"):=by
 refine F.ok ZfI ?_ (λg H Q c h q A outer s y=>#[_,Qz (Zz<|LN m rfl j rfl Qa)<|Qy<|TK xs i (pv 0) (ZJ Ig (by rfl) T.list IR<|Qs (pv 1) Qr) rfl,OL h]);rintro g H Q c ⟨e,p,xs,h,_⟩;rw[h];rfl
inductive R_refuse:List OT->(OT->Prop)->Prop
 |mk {y:Yd}{gs:List Gs}(ok:y.Ok)(hg:∀g∈gs,GOk y g)(g8:gs.length<=8)(h:∀S,Yk y (QP gs) S<=0):R_refuse [.fz<|Zd y,.fz<|.list<|gs.map QX] (λr=>r=.fz .none)
inductive X_refuse:List OT->(Qd->Prop)->Prop
 |mk {y:Yd}{gs:List Gs}(ok:y.Ok)(hg:∀g∈gs,GOk y g)(g8:gs.length<=8){S:Qm}(h:0<Yk y (QP gs) S):X_refuse [.fz<|Zd y,.fz<|.list<|gs.map QX] (λd=>∃S,0<Yk y (QP gs) S/\d=Yj (Jk gs S))
def RD:Qo Zag Zab (Q3 R5):=by walk_at"p"
def ZoS(T:Bl mg)(n:XC K mg "NoRoom" YR CR fR)(dx:Df K mg "refuse_lack" R5 Zab)(Z:Q2 P w K mg base "lacking_set" Zab 6 (Zk K R_lset))(Y:Q2 P w K mg base "short_of" Zag 5 (Q9 (K:=K) R_short))(X:Be P w K mg base fR ZaN 1 (BE K CR "some")):
 Wh P w K mg base "refuse_lack" Zab 7 (spX K CR "some" R_refuse X_refuse):=by
 refine dx.evZ RD (λf H RR ts o j h l A outer s q=>?_) (λf F H RR ts o j p h l A outer s q=>?_)
 .cases h with
  |@mk y B i M W h=>
   refine#[_,(Qz (QZ 2 RD.nd<|Q7 Z q<|av 0<|av 1 Qr)
 (Qy<|QW (Zl WI (Q7 Y q<|av 0<|av 1<|av 2 Qr) Qw<|Zc _) (Qy<|D0 n X j q<|av 2 Qr) QV)),?_]
   show QE K _ [_,_,_] _
   walk_at"x";have E:=M;refine Q4 (Ju (Wk (Qv Qp<|Qv Qp Q1)<|R_lset.mk i E W) λr m=>?_);obtain⟨C,es,c,rfl⟩:=m;walk_at"d";refine Ww 2 rfl ?_;walk_at"d";have d:=h (VV es);rw[FC]at d;exact QS (b:=false) (QN.cast (QY<|VN (QQ (Qv Qp<|Qv Qp<|Qv Qp Q1)<|R_short.mk i (λg h=>(M g h).ln)<|L8 W _) Qx)<|XD<|by unfold K4;lia) nf (λ_=>QU rfl)
 .cases h with
  |@mk y B i M W S h=>
   refine#[_,(Qz (QZ 2 RD.nd<|Q7 Z q<|av 0<|av 1 Qr)
 (Qy<|QW (Zl WI (Q7 Y q<|av 0<|av 1<|av 2 Qr) Qw<|Zc _) (Qy<|D0 n X j q<|av 2 Qr) QV)),?_]
   show EvZ K F H _ [some _,some _,none]
   walk_at"x";have E:=M;refine CS (λk=>∃C es,HY y (QP B) C es/\k=[zf<|Zd y,zf<|.list<|B.map QX,some<|.ol<|Yj<|Jk B<|VV es]) (Ju (Wk (Qv Qp<|Qv Qp Q1)<|R_lset.mk i E W) λr m=>?_) ?_
   .obtain⟨C,es,c,rfl⟩:=m;exact#[C,es,c,rfl]
   .rintro _ ⟨C,es,c,rfl⟩;refine SM 2 rfl ?_;walk_at"d";have d:0<Yk y (QP B) (VV es):=by
     have a:=Zp6 c.1 i (PR E) S;have e:=c.1.lack i (PR E) c.2.2.1 c.2.1 c.2.2.2;have e:HN y (QP B) C=Yk y (QP B) (VV es):=e;lia
    have t:=d;rw[FC]at t;exact Uu (b:=true) (QN.cast (QY<|VN (QQ (Qv Qp<|Qv Qp<|Qv Qp Q1)<|R_short.mk i (λg h=>(M g h).ln)<|L8 W _) Qx)<|XH<|by unfold K4;lia) (λ_=>ZrO Qp #[VV es,d,rfl] p) nt
inductive R_feed:List OT->(OT->Prop)->Prop
 |mk {n:Int}:R_feed [.fz<|.int n] (λr=>∃a b:Int,r=.ol [.int a,.int b])
def Uc:Qo ["_law_cell","_law_big","_law_one","_law_other","_law_k"] ["_law_cell"] (Q3 Ro):=by walk_at"p"
def EO(T:Bl mg)(dx:Df K mg "_law_feed" Ro ["_law_cell"]):Q2 P w K mg base "_law_feed" ["_law_cell"] 1 (Zk K R_feed):=by
 refine dx.evD Uc (λf ts r h H M t A outer s D=>?_);cases h with
 |@mk n=>
  refine#[_,(Qz (QZ 1 Uc.nd Qw)
 (Qz (QZ 2 Uc.nd<|QJ V0 (QJ VD (QJ YM (pv 0) Qw) Qw) Qw)
 (Qz (QZ 3 Uc.nd<|QJ V0 (QJ VD (QJ YM (pv 0) Qw) Qw) Qw)
 (Qz (Vu zN rfl (by exact(Y5 rfl T.range<|Qs Qw Qr)) (Zm 4 Uc.nd) (by exact(Qz (QZ 2 Uc.nd<|QJ VD (QJ V0 (QJ V0 (QJ UA (pv 2)<|pv 2)<|QJ UA Qw<|pv 3)<|pv 4) Qw)
 (Qz (QZ 3 Uc.nd<|QJ VD (QJ V0 (QJ V0 (QJ UA (pv 3)<|pv 3)<|QJ UA Qw<|pv 2) Qw) Qw)
 (Qy<|QZ 1 Uc.nd<|QJ V0 (QJ UA (pv 1) Qw)<|pv 3)))))
 (Qz (QW (Zl Z0 (QJ VD (pv 0) Qw) Qw<|Zc _) (Qy<|QA<|ZM<|Qs (QJ YM (pv 0) Qw)<|av 1 Qr) QV)
 (Qy<|QA<|ZM<|av 1<|Qs Qw Qr)))))),?_]
  show QE K _ [_,_,_,_,_] _;refine Q4 (Z3 Qx ?_);have B:∀{i:Int},WJ i 2:=Uo (by decide) (by decide);have p:∀{i:Int},WJ i 3:=Uo (by decide) (by decide);refine Q4 (Z3 (Z8 (Zy (Zy Qp Qx B) Qx<|by decide) Qx) ?_);refine Q4 (Z3 (Z8 (Zy (Zy Qp Qx p) Qx<|by decide) Qx) ?_);have E:0<=n/2%2147483647+11/\n/2%2147483647+11<4294967296:=#[]
  have C:0<=n/3%2147483629+7/\n/3%2147483629+7<4294967296:=#[]
  generalize n/2%2147483647+11=x at E;generalize n/3%2147483629+7=y at C;refine Q4 (Ym (ds:=Vy 0 40) (λ_ j=>∃(a b c:Int) (u:Option OT),(0<=a/\a<4294967296)/\(0<=b/\b<4294967296)/\j=[zi n,zi c,zi a,zi b,u]) ?ei #[x,y,0,none,E,C,rfl] ?st ?fin)
  case ei=>exact EvI.cast (YK (Qv Qx Q1) (by decide)<|by decide) (WX rfl (by decide))
  case st=>
   rintro i d _ k ⟨a,b,c,u,o,l,rfl⟩;obtain⟨F,rfl⟩:=W2 k;refine#[_,Zv,?_];walk_at"d";have e:JE a a:=.inl #[#[],#[]];have Z:∀{z:Int},JE 48271 z:=.inl #[by decide,by decide];have Y:∀{z:Int},JE 69621 z:=.inl #[by decide,by decide];have X:∀{z:Int},JE z 2147483629:=.inr #[by decide,by decide];have W:JE b b:=.inl #[#[],#[]];refine Q4 (Z3 (Zy (Z8 (Z8 (Zy Qp Qp e)<|Zy Qx Qp Z) Qp) Qx<|by decide) ?_);have q:0<=(a*a+48271*b+(0+(i)))%2147483647/\(a*a+48271*b+(0+(i)))%2147483647<4294967296:=#[WZ _<|by decide,UR (UO _<|by decide)<|by decide];generalize (a*a+48271*b+(0+(i)))%2147483647=g at q;refine Q4 (Z3 (Zy (Z8 (Z8 (Zy Qp Qp W)<|Zy Qx Qp Y) Qx) Qx<|by decide) ?_);have m:0<=(b*b+69621*g+1)%2147483629/\(b*b+69621*g+1)%2147483629<4294967296:=#[WZ _<|by decide,UR (UO _<|by decide)<|by decide];generalize (b*b+69621*g+1)%2147483629=v at m;refine Z3 (Z8 (Zy Qp Qx X) Qp) ?_;exact#[g,v,_,_,q,m,rfl]
  case fin=>
   rintro _ ⟨a,b,c,u,o,l,rfl⟩;refine Q4 (QS (QN.cast (QY<|Yc (Zy Qp Qx<|by decide) Qx) rfl) (λ_=>?_) λ_=>QU ?_)
   .exact Jm (ZY (QO (Zy Qp Qx B)<|QO Qp Z4)<|by show(2)<=1000;decide) #[_,_,rfl]
   .exact Jm (ZY (QO Qp<|QO Qx Z4)<|by show(2)<=1000;decide) #[_,_,rfl]
inductive R_digit:Qd->List OT->(OT->Qd->Prop)->Prop
 |mk {a b m:Int}(h0:0<m)(h1:m<=10^60):R_digit [.int a,.int b] [.fz<|.int m] (λr ds'=>∃n a' b':Int,0<=n/\n<m/\r=.fz (.int n)/\ds'=[.int a',.int b'])
def Cn:Qo ["_law_feed_here","_law_many","_law_digit_here"] Zaq (Q3 R6):=by walk_at"p"
def Zrn(T:Bl mg)(dx:Df K mg "_law_digit" R6 Zaq):Q2 P w K mg base "_law_digit" Zaq 1 (spP K olP R_digit):=by
 refine dx.evP Cn (λf v M ts E h H q C A outer s W=>?_);cases h with
 |@mk a b m g B=>
  refine#[_,(Qz (QW (Zl Z0 (QH QI (pv 0) Qw) Qw<|Zc _) (Qz (Ki (QH QI (pv 0) Qw)<|Kf (pv 0) Qw Jx)
 (Qy<|Ki Qw<|Kf (pv 0) Qw Jx)) QV)
 (Qz (QZ 2 Cn.nd<|QJ VD (QH QI (pv 0) Qw)<|pv 1)
 (Qz (Ki (QJ YM (QH QI (pv 0) Qw)<|pv 1)<|Kf (pv 0) Qw Jx)
 (Qy<|QA<|pv 2)))),?_]
  try dsimp only[VP]
  have c:∀{Z:Zcs} {x y:Int},Z[0]?=some (zo v<|olP [.int x,.int y])->Qq K (tOp (rIx K) (QF 0)<|tC<|.int 0) Z _/\Qq K (tOp (rIx K) _<|tC<|.int 1) Z _:=λ{Z x y} e=>by
   have j:=(Xh.mp e).1;exact#[Lv 0 e rfl (ZF (Qp<|XW j) Qx rfl),Lv 0 e rfl (ZF (Qp<|XW j) Qx rfl)]
  refine VO (λi=>∃x y:Int,i=[zo v<|olP [.int x,.int y],some _,none]) (QS (QN.cast (QY<|Yc (c rfl).1 Qx) rfl) (λ_=>?_) λ_=>QU #[a,b,rfl]) ?_
  .refine Q4 (NF rfl (c rfl).2 Qx rfl ?_);refine NF rfl Qx Qx rfl ?_;exact#[b,0,rfl]
  .rintro _ ⟨x,y,rfl⟩;refine W1 (Z3 (Zy (c rfl).1 Qp g) rfl) ?_;refine W1 (NF rfl (Zy (c rfl).1 Qp (cdl g B)) Qx rfl rfl) ?_;exact U7 Qp #[_,#[x%m,x/m,y,WZ _<|Int.ne_of_gt g,UO _ g,rfl,rfl],rfl]
def Dg(K:W.Frag)(t:TE)(Z:Zcs)(v:V)(m:Int):Prop:=EvW K t Z 0 λn o=>0<=n/\n<m/\∃a b:Int,o=.own v (olP [.int a,.int b])
def YJ{b m:Int}(e:zg Z 0<|zo v<|olP [.int a,.int b])(h:Qq K t Z (.int m))(h0:0<m)(g:m<=10^60):Dg K (Ve (spP K olP R_digit) [] pos<|QM (QF 0)<|QM t QT) Z v m:=
 Eb e (Qv h Q1) (R_digit.mk h0 g) (by
  rintro r q ⟨n,j,i,f,c,rfl,rfl⟩;exact#[n,rfl,f,c,j,i,rfl])
def Hg(k T:Nat)(l:Ln):Prop:=(l.up=none↔k=0)/\(∀a,l.up=some a->a<k)/\l.bs.length=T/\∀b∈l.bs,0<=b/\b<10^30
theorem Ac{ls:List Ln}(t1:1<=T)(t8:T<=8)(l1:1<=ls.length)(l5:ls.length<=5)(h:∀k (c:k<ls.length),Hg k T ls[k]):(#[T,ls]:Yd).Ok where
 t1:=t1
 t8:=t8
 l1:=l1
 l5:=l5
 up0:=by
  have h0:=(h 0<|#[]).1.mpr rfl;simp[Zq,show 0<ls.length by lia,h0]
 ups:=λk k0 c=>by
  obtain⟨j,i,_⟩:=h k c;cases e:ls[k].up with
  |none=>have:=j.mp e;lia
  |some a=>exact#[a,by simp[Zq,c,e],i a e]
 bl:=λl f=>by
  obtain⟨k,c,rfl⟩:=UP.mp f;exact(h k c).2.2.1
 bb:=λl f b g=>by
  obtain⟨k,c,rfl⟩:=UP.mp f;have:=(h k c).2.2.2 b g;exact#[this.1,KH this.2]
def Sq(y:Yd):Prop := ∀l∈y.ls,∀b∈l.bs,0<=b/\b<10^30
inductive R_dyard:Qd->List OT->(OT->Qd->Prop)->Prop
 |mk {a b:Int}:R_dyard [.int a,.int b] [] (λr ds'=>∃y:Yd,y.Ok/\Sq y/\r=.fz (Zd y))
def Ae{b:Int}{c:Bool}(h0:0<=b)(f:b<10^30):0<=b*(if c then 1 else 0)/\b*(if c then 1 else 0)<10^30:=by
 cases c
 .simp
 .simp_all
def p60{m:Int}(h:m<=10^30):m<=10^60:=Int.le_trans h (by decide +kernel)
def WY:Qo ["_law_feed_here","_law_turns","_law_scale","_law_lines","_law_k","_law_above","_law_bounds","_law_turn","_law_bound"] ZaX (Q3 Ri):=by walk_at"p"
def Ox(T:Bl mg)(dx:Df K mg "_law_yard" Ri ZaX)(C:Q2 P w K mg base "_law_digit" Zaq 1 (spP K olP R_digit)):Q2 P w K mg base "_law_yard" ZaX 2 (spP K olP R_dyard):=by
 refine dx.evP WY (λf v M ts Ψ h H U cdv A outer s p=>?_);cases h with
 |@mk a b=>
  refine#[_,(Qz (QZ 1 WY.nd<|QJ V0 Qw<|Q7 C p<|av 0<|Qs Qw Qr)
 (Qz (QZ 2 WY.nd<|QH QI (ZM<|Qs Qw<|Qs Qw<|Qs Qw<|Qs (QJ Go Qw Qw) Qr)<|Q7 C p<|av 0<|Qs Qw Qr)
 (Qz (QZ 3 WY.nd<|ZM Qr)
 (Qz (Vu zN rfl (by exact(Y5 rfl T.range<|Qs (QJ V0 Qw<|Q7 C p<|av 0<|Qs Qw Qr) Qr)) (Zm 4 WY.nd) (by exact(Qz (QZ 5 WY.nd MP)
 (Qz (QW (Zl WI (pv 4) Qw<|Zc _) (Qy<|QZ 5 WY.nd<|Q7 C p<|av 0<|av 4 Qr) QV)
 (Qz (QZ 6 WY.nd<|ZM Qr)
 (Qz (Vu zN rfl (by exact(Y5 rfl T.range<|av 1 Qr)) (Zm 7 WY.nd) (by exact(Qz (QZ 8 WY.nd<|Q7 C p<|av 0<|av 2 Qr)
 (Qy<|Zz<|ZL zP zS zT Yg (pv 6)<|Qs (QJ UA (pv 8)<|ZJ AR (by rfl) T.int Bt<|Qs (Wo WI (Q7 C p<|av 0<|Qs Qw Qr) Qw<|Zc _) Qr) Qr))))
 (Qy<|Zz<|ZL zP zS zT Yg (pv 3)<|Qs (Yv<|av 5<|Qs (ZJ Dj (by rfl) T.tuple G5<|av 6 Qr) Qr) Qr)))))))
 (Qy<|QA<|Yv<|av 1<|Qs (ZJ Dj (by rfl) T.tuple G5<|av 3 Qr) Qr))))),?_]
  walk_at"x";have r:(0:Int)<10^(30:Int).toNat/\(10:Int)^(30:Int).toNat<=10^30:=by decide +kernel
  refine VO (λg=>∃(T:Nat) (a b:Int),1<=T/\T<=8/\g=[zo v<|olP [.int a,.int b],zf<|.int<|T,none,none,none,none,none,none,none]) (LM (YJ rfl Qx (by decide)<|by decide +kernel) ?_) ?_
  .rintro n _ ⟨O,N,a,b,rfl⟩;refine Z3 (Z8 Qx Qx) #[(1+n).toNat,a,b,#[],#[],?_];rw[WD<|#[]];rfl
  rintro _ ⟨T,a,b,S,R,rfl⟩;refine VO (λg=>∃X a b:Int,0<X/\X<=10^30/\g=[zo v<|olP [.int a,.int b],zf<|.int<|T,zi X,none,none,none,none,none,none]) (Fd (EvO.fz<|ZY (QO Qx<|QO Qx<|QO Qx<|QO (Zy Qx Qx<|Mw (by decide)<|by decide) Z4)<|by decide) (YJ rfl Qx (by decide)<|by decide +kernel) ?_) ?_
  .rintro n _ ⟨O,N,a,b,rfl⟩;obtain rfl|rfl|rfl|rfl:n=0\/n=1\/n=2\/n=3:=#[]
   .exact#[_,rfl,5,a,b,by decide,#[],rfl]
   .exact#[_,rfl,9,a,b,by decide,#[],rfl]
   .exact#[_,rfl,16,a,b,by decide,#[],rfl]
   .exact#[_,rfl,_,a,b,r.1,r.2,rfl]
  rintro _ ⟨X,a,b,s0,L,rfl⟩;refine W1 (Vs (ZY Z4<|by decide) rfl) ?_;refine VO (λg=>∃(q:List Ln) (a b:Int) (Z Y W B y:Option OT),(1<=q.length/\q.length<=5)/\(∀k (o),Hg k T q[k])/\g=[zo v<|olP [.int a,.int b],zf<|.int<|T,zi X,some<|.ol<|q.map Vj,Z,Y,W,B,y]) (Ij (YJ rfl Qx (by decide)<|by decide +kernel) ?_) ?_
  .rintro n _ ⟨O,N,a,b,rfl⟩;walk_at"d";refine Ym (ds:=Vy 0 (1+n).toNat) (λi g=>∃(q:List Ln) (a b:Int) (Z Y W B y:Option OT),q.length=i/\(∀k (o),Hg k T q[k])/\g=[zo v<|olP [.int a,.int b],zf<|.int<|T,zi X,some<|.ol<|q.map Vj,Z,Y,W,B,y]) ?ei #[[],a,b,_,_,_,_,_,rfl,(λk o=>Xu o<|Nat.not_lt_zero k),rfl] ?st ?fin
   case ei=>exact YK (Qv (Z8 Qx Qx) Q1) (by rw[z62];lia) (by rw[z62];lia)
   case fin=>
    rintro _ ⟨q,a,b,Z,Y,W,B,y,e,h,rfl⟩;rw[JS]at e;exact#[q,a,b,Z,Y,W,B,y,#[],h,rfl]
   case st=>
    rintro i d _ F ⟨q,a,b,Z,Y,W,B,y,e,h,rfl⟩;obtain⟨hi,rfl⟩:=W2 F;refine#[_,Zv,?_];rw[Ui];refine Q4 (Z3 JN ?_);walk_at"d";refine Q4 (Pf (λg=>∃(ab:Option Nat) (a b:Int),(ab=none↔i=0)/\(∀x,ab=some x->x<i)/\g=[zo v<|olP [.int a,.int b],zf<|.int<|T,zi X,some<|.ol<|q.map Vj,zf<|.int<|i,zf<|upD ab,W,B,y]) (QS (QN.cast (QY<|VN Qp Qx) rfl) (λc=>?_) λc=>QU #[none,a,b,#[λ_=>by have:=Mg c;lia,λ_=>rfl],(by rintro x ⟨⟩),rfl]) ?_)
    .refine Dn (YJ rfl Qp #[]<|Int.le_trans (show(i:Int)<=5 by lia)<|by decide +kernel) ?_;rintro m _ ⟨D,Q,a,b,rfl⟩;refine#[some m.toNat,a,b,#[λz=>(nomatch z),λz=>Xu z<|#[]],(λx z=>#[]),?_];show _=([_,_,_,_,_,some<|OT.fz<|.int<|(m.toNat),_,_,_]);rw[WD D];rfl
    rintro _ ⟨ab,a,b,J,I,rfl⟩;refine Q4 (Vs (ZY Z4<|by decide) ?_);refine Q4 (Ym (ds:=Vy 0 T) (λj g=>∃(E:Ql) (a b:Int) (B y:Option OT),E.length=j/\(∀x∈E,0<=x/\x<10^30)/\g=[zo v<|olP [.int a,.int b],zf<|.int<|T,zi X,some<|.ol<|q.map Vj,zf<|.int<|i,zf<|upD ab,some<|.ol<|E.map PyData.int,B,y]) ?ei2 #[[],a,b,_,_,rfl,(by rintro x ⟨⟩),rfl] ?st2 ?fin2)
    case ei2=>exact EvI.cast (YK (Qv Qp Q1) (by rw[z62];lia)<|by rw[z62];lia) (WX rfl #[])
    case st2=>
     rintro j d _ F ⟨E,a,b,B,y,u,G,rfl⟩;obtain⟨hj,rfl⟩:=W2 F;refine#[_,Zv,?_];walk_at"d";refine Q4 (Dn (YJ rfl Qp s0<|p60 L) ?_);rintro m _ ⟨D,Q,a,b,rfl⟩;walk_at"d";refine IG rfl rfl (YJ rfl Qx (by decide)<|by decide +kernel) ?_;rintro z _ ⟨z0,z1,a,b,rfl⟩;have mm:=Ae (c:=decide (z > 0)) D (Int.lt_of_lt_of_le Q L);refine JR rfl (Zy Qp (Pm<|VN Qx Qx)<|.inr #[by split<;>decide,by split<;>decide]) (by rw[Xf];lia) #[E++[m*(if decide (z > 0) then 1 else 0)],a,b,zf<|.int<|0+(j),zi m,by rw[Xp,u];rfl,λx t=>?_,?_]
     .rcases Xq.mp t with t|t
      .exact G x t
      .rw[Xj.mp t];exact mm
     .rw[Xx];rfl
    case fin2=>
     rintro _ ⟨E,a,b,B,y,u,G,rfl⟩;rw[JS]at u;refine JR rfl (YE (QO Qp<|QO (MF rfl) Z4)<|by show(2)<=1000;decide) (by rw[Xf];lia) #[q++[#[ab,E]],a,b,zf<|.int<|i,zf<|upD ab,some<|.ol<|E.map PyData.int,B,y,by rw[Xp,e];rfl,λk o=>?_,?_]
     .by_cases z:k<q.length
      .rw[List.getElem_append_left z];exact h k z
      .have:k=q.length:=by rw[Xp]at o;have:[(#[ab,E]:Ln)].length=1:=rfl;lia
       subst this;rw[List.getElem_append_right<|Xn _];simp only[Nat.sub_self,List.getElem_cons_zero];rw[e];exact#[J,I,u,G]
     .rw[Xx];rfl
  rintro _ ⟨q,a,b,Z,Y,W,B,y,⟨l1,l5⟩,h,rfl⟩;refine U7 (YE (QO Qp<|QO (MF rfl) Z4)<|by show(2)<=1000;decide) #[_,#[#[T,q],Ac S R l1 l5 h,λl hl=>?_,rfl],rfl];obtain⟨k,o,rfl⟩:=UP.mp hl;exact(h k o).2.2.2
theorem Kb:∀{bs:Ql},bs≠[]->∃M∈bs,∀a∈bs,a<=M
 |[],h=>Xu rfl h
 |[x],_=>⟨x,Xb,λa c=>by rw[Xj.mp c];exact UQ _⟩
 |x::y::bs,_=>by
  obtain⟨M,g,f⟩:=Kb (List.cons_ne_nil _ _)
  by_cases h:x<=M
  .refine#[M,Xe _ g,λa c=>?_];rcases Xc.mp c with rfl|c
   .exact h
   .exact f a c
  .refine#[x,Xb,λa c=>?_];rcases Xc.mp c with rfl|c
   .exact UQ _
   .have:=f a c;lia
noncomputable def mxB(bs:Ql):Int:=open Classical in if h:bs≠[] then Classical.choose (Kb h) else 0
def PY(h:bs≠[]):mxB bs∈bs/\∀a∈bs,a<=mxB bs:=by
 unfold mxB;rw[dif_pos h];exact Classical.choose_spec (Kb h)
structure G30(y:Yd)(g:Gs):Prop where
 ok:g.Ok y
 w:g.want<10^30
 m:g.most<10^30
inductive R_dguest:Qd->List OT->(OT->Qd->Prop)->Prop
 |mk {a b:Int}{y:Yd}{nw:Nat}(ok:y.Ok):R_dguest [.int a,.int b] [.fz<|Zd y,.fz<|.int (nw:Int)] (λr ds'=>∃g:Gs,G30 y g/\r=.fz (QX g))
def Mo{n:Nat}(h:n<=8):(n:Int)<=10^60:=Int.le_trans (show(n:Int)<=8 by lia) (by decide +kernel)
def Ua:Qo Zaj Zam (Q3 DO):=by walk_at"p"
def Zq6(T:Bl mg)(dx:Df K mg "_law_guest" DO Zam)(j:Q2 P w K mg base "_law_digit" Zaq 1 (spP K olP R_digit)):Q2 P w K mg base "_law_guest" Zam 2 (spP K olP R_dguest):=by
 refine dx.evP Ua (λf v M ts U h H Q S A outer s E=>?_);cases h with
 |@mk a b y m d=>
  refine#[_,(Qz (QZ 3 Ua.nd<|Q7 j E<|av 0<|Qs (QH QI (pv 1) Qw) Qr)
 (Qz (QW (PW.pt<|P7 (KO Ji Ji (pv 3) (pv 2)<|QH QI (pv 1) Qw)<|TY<|Zl WI (Q7 j E<|av 0<|Qs Qw Qr) Qw<|Zc _) (Qy<|QZ 3 Ua.nd<|QJ V0 (pv 2)<|Q7 j E<|av 0<|Qs (QJ Yl (QH QI (pv 1) Qw)<|pv 2) Qr) QV)
 (Qz (QZ 4 Ua.nd<|QJ V0 (pv 3)<|Q7 j E<|av 0<|Qs (QJ Yl (QH QI (pv 1) Qw)<|pv 3) Qr)
 (Qz (QZ 5 Ua.nd<|Q7 j E<|av 0<|Qs (Zo ZW (by rfl) T.len ZQ<|Qs (QH QI (pv 1) Qw) Qr) Qr)
 (Qz (QZ 6 Ua.nd<|QH QI (ZM<|Qs Qw<|Qs Qw<|Qs Qw<|Qs (QJ Yl (QJ Go Qw Qw) Qw) Qr)<|Q7 j E<|av 0<|Qs Qw Qr)
 (Qz (QW (Zl Ji (Zo IB (by rfl) T.max Kg<|Qs (V3 (NX:=Zaj) (sc:=Q3 DO) (N:=ZaK) (f:=[none,none]) rfl (by decide +kernel) rfl rfl (Bp<|QH QI (pv 1) Qw) (λ_=>(Jn (n:=2) rfl (VQ (Zm 0 (show(ZaK:Qh).Nodup by decide +kernel))<|VQ (Zm 1 (show(ZaK:Qh).Nodup by decide +kernel)) Jw))) (λ_=>(MC (n:=2)<|JV ZN<|JV ZN MT)) (λ_=>V1) λ_=>(Zo Oe (by rfl) T.max Kg<|av 1 Qr)) Qr) Qw<|Zc _) (Qy<|QZ 6 Ua.nd<|Zo (HX rfl) (by rfl) T.min MB<|av 6<|Qs Qw Qr) QV)
 (Qz (QZ 7 Ua.nd<|QJ V0 Qw<|Q7 j E<|av 0<|av 6 Qr)
 (Qy<|QA<|Yv<|av 5<|av 3<|av 4<|av 7<|Qs (QJ V0 Qw<|Q7 j E<|av 0<|av 6 Qr) Qr)))))))),?_]
  show EvR K _ [zo v<|olP [.int a,.int b],zf<|Zd y,zi (m:Int),none,none,none,none,none] _
  walk_at"x";have t1:=d.t1;have t:=d.t8;have l1:=d.l1;have l5:=d.l5;have Y:(0:Int)<10^(30:Int).toNat-1/\(10:Int)^(30:Int).toNat-1<10^30:=by decide +kernel
  have O:(20:Int)<10^30:=by decide +kernel
  have p:∀{Z:Zcs},Z[1]?=some (zf<|Zd y)->Qq K (tOp (rIx K) (QF 1)<|tC<|.int 0) Z (.int (y.T:Int)):=λe=>Vz (ds:=[PyData.int (y.T:Int),.tuple<|y.ls.map Vj]) (Qp e) Qx rfl;have J:∀{Z:Zcs},Z[1]?=some (zf<|Zd y)->Qq K (tOp (rIx K) (QF 1)<|tC<|.int 1) Z (.tuple<|y.ls.map Vj):=λe=>Vz (ds:=[PyData.int (y.T:Int),.tuple<|y.ls.map Vj]) (Qp e) Qx rfl;refine VO (λg=>∃(i:Nat) (a b:Int),i<y.T/\g=[zo v<|olP [.int a,.int b],zf<|Zd y,zi (m:Int),zi (i:Int),none,none,none,none]) (Dn (YJ rfl (p rfl) #[]<|Mo t) ?_) ?_
  .rintro n _ ⟨B,W,a,b,rfl⟩;refine#[n.toNat,a,b,#[],?_];rw[WD B];rfl
  rintro _ ⟨i,a,b,hfs,rfl⟩;refine VO (λg=>∃(i:Nat) (a b:Int),i<y.T/\g=[zo v<|olP [.int a,.int b],zf<|Zd y,zi (m:Int),zi (i:Int),none,none,none,none]) ?_ ?_
  .by_cases c:i<m/\m<y.T
   .refine A4 (QN.cast (QY<|UK Qp Qp<|p rfl) ?_) (YJ rfl Qx (by decide)<|by decide +kernel) ?_
    .rw[XH (show(i:Int)<m by lia),XH (show(m:Int)<y.T by lia)];rfl
    rintro n _ ⟨B,W,a,b,rfl⟩;refine QS (QY<|VN Qx Qx) (λ_=>LO rfl (YJ rfl (Z8 (p rfl) Qp) #[]<|Int.le_trans (show(y.T:Int)-(m:Int)<=(y.T:Int) by lia)<|Mo t) ?_) (λ_=>QU #[i,a,b,hfs,rfl]);rintro n _ ⟨B,W,a,b,rfl⟩;refine Z3 (Z8 Qp Qx) #[((m:Int)+n).toNat,a,b,#[],?_];rw[WD<|#[]];rfl
   .refine QS (b:=false) (HU (b:=false) (c:=false) (QN.cast (QY<|UK Qp Qp<|p rfl) ?_) nf) nf (λ_=>QU #[i,a,b,hfs,rfl]);rw[<- Bool.decide_and];exact XD #[]
  rintro _ ⟨i,a,b,hfs,rfl⟩;refine VO (λg=>∃(q:Nat) (a b:Int),i<=q/\q<y.T/\g=[zo v<|olP [.int a,.int b],zf<|Zd y,zi (m:Int),zi (i:Int),zi (q:Int),none,none,none]) (LO rfl (YJ rfl (Z8 (p rfl) Qp) #[]<|Int.le_trans (show(y.T:Int)-(i:Int)<=(y.T:Int) by lia)<|Mo t) ?_) ?_
  .rintro n _ ⟨B,W,a,b,rfl⟩;refine Z3 (Z8 Qp Qx) #[((i:Int)+n).toNat,a,b,#[],#[],?_];rw[WD<|#[]];rfl
  rintro _ ⟨q,a,b,o,k,rfl⟩;refine VO (λg=>∃(C:Nat) (a b:Int),C<y.ls.length/\g=[zo v<|olP [.int a,.int b],zf<|Zd y,zi (m:Int),zi (i:Int),zi (q:Int),zi (C:Int),none,none]) (Dn (YJ rfl (Qq.cast (B5<|J rfl) (show _=PyData.int (y.ls.length:Int) by rw[Xf])) #[]<|Mo<|#[]) ?_) ?_
  .rintro n _ ⟨B,W,a,b,rfl⟩;refine#[n.toNat,a,b,#[],?_];rw[WD B];rfl
  rintro _ ⟨C,a,b,F,rfl⟩;refine VO (λg=>∃sc a b:Int,0<sc/\sc<10^30/\g=[zo v<|olP [.int a,.int b],zf<|Zd y,zi (m:Int),zi (i:Int),zi (q:Int),zi (C:Int),zi sc,none]) (Fd (ds:=[.int 4,.int 9,.int 20,.int<|10^(30:Int).toNat-1]) (EvO.fz<|ZY (QO Qx<|QO Qx<|QO Qx<|QO (Z8 (Zy Qx Qx<|Mw (by decide)<|by decide) Qx) Z4)<|by show(4:Nat)<=1000;decide) (YJ rfl Qx (by decide)<|by decide +kernel) ?_) ?_
  .rintro n _ ⟨B,W,a,b,rfl⟩;obtain rfl|rfl|rfl|rfl:n=0\/n=1\/n=2\/n=3:=#[]
   .exact#[_,rfl,4,a,b,by decide,#[],rfl]
   .exact#[_,rfl,9,a,b,by decide,#[],rfl]
   .exact#[_,rfl,20,a,b,by decide,#[],rfl]
   .exact#[_,rfl,_,a,b,Y.1,Y.2,rfl]
  rintro _ ⟨sc,a,b,s0,r,rfl⟩;have R:∀l∈y.ls,l.bs≠[]:=λl G z=>by
   have:=d.bl l G;rw[z]at this;have:(0:Nat)=y.T:=this;lia
  have u:(y.ls.map λl=>mxB l.bs)≠[]:=λz=>by
   have:=Xz List.length z;rw[Xf]at this;have:y.ls.length=0:=this;lia
  obtain⟨D,x⟩:=PY u;refine VO (λg=>∃sc:Int,0<sc/\sc<10^30/\g=[zo v<|olP [.int a,.int b],zf<|Zd y,zi (m:Int),zi (i:Int),zi (q:Int),zi (C:Int),zi sc,none]) (QS (b:=decide (mxB (y.ls.map λl=>mxB l.bs)<20)) (QN.cast (QY<|VN (Iv (ns:=y.ls.map λl=>mxB l.bs) (Qq.cast (EvO.fz<|YC (xs:=y.ls) (enc:=Vj) (h:=λl=>.int<|mxB l.bs) ?ei #[] ?el)<|by rw[XB];rfl) rfl D x) Qx) rfl) (λ_=>?_) λ_=>QU #[sc,s0,r,rfl]) ?_
  case ei=>exact Gn (J rfl)
  case el=>
   intro l G c;obtain⟨k1,k2⟩:=PY (R l G);refine#[_,Jh (ds:=[upD l.up,.tuple<|l.bs.map PyData.int]) (Y3 Zv<|Y3 Zv JM) rfl,?_];walk_at"e";exact EV (ns:=l.bs) Qp rfl k1 k2
  .refine Z3 (Pa Qp Qx) #[min sc 20,#[],#[],rfl]
  rintro _ ⟨sc,s0,r,rfl⟩;refine VO (λg=>∃X a b:Int,1<=X/\X<10^30/\g=[zo v<|olP [.int a,.int b],zf<|Zd y,zi (m:Int),zi (i:Int),zi (q:Int),zi (C:Int),zi sc,zi X]) (LM (YJ rfl Qp s0<|p60<|Int.le_of_lt r) ?_) ?_
  .rintro n _ ⟨B,W,a,b,rfl⟩;refine Z3 (Z8 Qx Qx) #[1+n,a,b,#[],#[],rfl]
  rintro _ ⟨X,a,b,L,I,rfl⟩;refine Io rfl rfl rfl rfl (YJ rfl Qp s0<|p60<|Int.le_of_lt r) ?_;rintro n _ ⟨B,W,a,b,rfl⟩;refine U7 (YE (ds:=[.int (C:Int),.int (i:Int),.int (q:Int),.int X,.int<|1+n]) (QO Qp<|QO Qp<|QO Qp<|QO Qp<|QO (Z8 Qx Qx) Z4)<|by show(5:Nat)<=1000;decide) #[_,#[#[C,i,q,X,1+n],#[#[F,o,k,L,KH I,by show 1<=1+n;lia,KH<|by show 1+n<_;lia],I,by show 1+n<_;lia],rfl],rfl]
inductive R_iswhole:List OT->OT->Prop
 |mk {i:Int}:R_iswhole [.fz<|.int i] (.fz<|.bool true)
def Zmf:Qo ZaY ZaY (Q3 NK):=by walk_at"p"
def Zop(T:Bl mg)(dx:Df K mg "is_whole" NK ZaY):Q2 P w K mg base "is_whole" ZaY 1 (Q9 (K:=K) R_iswhole):=by
 refine dx.ev Zmf (λf ts r h H c g A outer s j=>?_);cases h with
 |@mk i=>
  refine#[_,(Qy<|QA<|Yy (Zo ML (by rfl) T.isi WN<|av 0<|Qs (Jv (v:=.ty "int") rfl T.int Bt rfl) Qr)<|YZ<|Ps<|Zo ML (by rfl) T.isi WN<|av 0<|Qs (Jv (v:=.ty "bool") rfl T.bool IQ rfl) Qr),?_];exact Zh (VM (Bj Qp rfl) λ_=>HV<|Bj Qp rfl) rfl
inductive R_within:List OT->OT->Prop
 |mk {i lo hi:Int}:R_within [.fz<|.int i,.fz<|.int lo,.fz<|.int hi] (.fz<|.bool<|decide (lo<=i)&&decide (i<hi))
def R_within.yes{i lo c:Int}(h0:lo<=i)(f:i<c):R_within [.fz<|.int i,.fz<|.int lo,.fz<|.int c] (.fz<|.bool true):=by
 have:=@R_within.mk i lo c;rw[XH h0,XH f]at this;exact this
def ZfS:Qo Zak Zak (Q3 RM):=by walk_at"p"
def Zq5(T:Bl mg)(dx:Df K mg "is_whole_within" RM Zak)(c:Q2 P w K mg base "is_whole" ZaY 1 (Q9 (K:=K) R_iswhole)):Q2 P w K mg base "is_whole_within" Zak 2 (Q9 (K:=K) R_within):=by
 refine dx.ev ZfS (λf ts r h H g m A outer s j=>?_);cases h with
 |@mk i q y=>
  refine#[_,(Qy<|QA<|Yy (Q7 c j<|av 0 Qr)<|YZ<|L7 U1 Ji (pv 1) (pv 0)<|pv 2),?_];exact Zh (VM (QQ (Qv Qp Q1) R_iswhole.mk) λ_=>UK Qp Qp Qp) rfl
inductive R_isamount:List OT->OT->Prop
 |mk {i lo:Int}(h0:lo<=i)(h1:i<10^30):R_isamount [.fz<|.int i,.fz<|.int lo] (.fz<|.bool true)
def Zkn:Qo ZaH ZaH (Q3 Rh):=by walk_at"p"
def Zl7(T:Bl mg)(dx:Df K mg "is_amount" Rh ZaH)(c:Q2 P w K mg base "is_whole_within" Zak 2 (Q9 (K:=K) R_within)):Q2 P w K mg base "is_amount" ZaH 3 (Q9 (K:=K) R_isamount):=by
 refine dx.ev Zkn (λf ts r h H g y A outer s j=>?_);cases h with
 |@mk i B q m=>
  refine#[_,(Qy<|QA<|Q7 c j<|av 0<|av 1<|Qs (QJ Go Qw Qw) Qr),?_];exact Zh (QQ (Qv Qp<|Qv Qp<|Qv (Zy Qx Qx<|Mw (by decide)<|by decide) Q1)<|R_within.yes q m) rfl
inductive R_tupof:List OT->OT->Prop
 |mk {ds:Qd}{n:Int}(h:(ds.length:Int)=n):R_tupof [.fz<|.tuple ds,.fz<|.int n] (.fz<|.bool true)
def Zic:Qo Zav Zav (Q3 Rz):=by walk_at"p"
def Om(T:Bl mg)(dx:Df K mg "is_tuple_of" Rz Zav):Q2 P w K mg base "is_tuple_of" Zav 1 (Q9 (K:=K) R_tupof):=by
 refine dx.ev Zic (λf ts r h H c g A outer s i=>?_);cases h with
 |@mk ds n h=>
  refine#[_,(Qy<|QA<|Yy (Zo ML (by rfl) T.isi WN<|av 0<|Qs (Jv (v:=.ty "tuple") rfl T.tuple G5 rfl) Qr)<|YZ<|Wo Z0 (Zo ZW (by rfl) T.len ZQ<|av 0 Qr) (pv 1)<|Zc _),?_];refine Zh (Qq.cast (VM (Bj Qp rfl) λ_=>Yc (B5 Qp) Qp) ?_) rfl;rw[XH h];rfl
inductive R_isabove:List OT->OT->Prop
 |mk {u:Option Nat}{k:Nat}(h:if k=0 then u=none else ∃a,u=some a/\a<k):R_isabove [.fz<|upD u,.fz<|.int (k:Int)] (.fz<|.bool true)
def Zlo:Qo ZaR ZaR (Q3 NZ):=by walk_at"p"
def Zog(T:Bl mg)(dx:Df K mg "is_above" NZ ZaR)(g:Q2 P w K mg base "is_whole_within" Zak 2 (Q9 (K:=K) R_within)):Q2 P w K mg base "is_above" ZaR 3 (Q9 (K:=K) R_isabove):=by
 refine dx.ev Zlo (λf ts r h H i m A outer s j=>?_);cases h with
 |@mk u k h=>
  refine#[_,(Qz (QW (Zl Z0 (pv 1) Qw<|Zc _) (Qy<|QA<|A8<|CV<|pv 0) QV)
 (Qy<|QA<|Q7 g j<|av 0<|Qs Qw<|av 1 Qr)),?_]
  refine Q4 (QS (b:=decide ((k:Int)=0)) (ZB<|Yc Qp Qx) (λc=>?_) λc=>QU ?_)
  .have c:(k:Int)=0:=WC c;rw[Xi<|#[]]at h;subst h;exact Zh (SU Qp) rfl
  .have c:¬(k:Int)=0:=Mg c;rw[Xg<|#[]]at h;obtain⟨a,rfl,q⟩:=h;exact Zh (QQ (Qv Qp<|Qv Qx<|Qv Qp Q1)<|R_within.yes #[]<|#[]) rfl
inductive R_arebounds:List OT->OT->Prop
 |mk {bs:Ql}{t:Int}(hl:(bs.length:Int)=t)(h8:bs.length<=8)(hb:∀b∈bs,0<=b/\b<10^30):R_arebounds [.fz<|.tuple<|bs.map PyData.int,.fz<|.int t] (.fz<|.bool true)
def ZiG:Qo Zao Zao (Q3 DM):=by walk_at"p"
def ZjG(T:Bl mg)(dx:Df K mg "are_bounds" DM Zao)(i:Q2 P w K mg base "is_tuple_of" Zav 1 (Q9 (K:=K) R_tupof))(g:Q2 P w K mg base "is_amount" ZaH 3 (Q9 (K:=K) R_isamount)):Q2 P w K mg base "are_bounds" Zao 4 (Q9 (K:=K) R_arebounds):=by
 refine dx.ev ZiG (λf ts r h H y C A outer s m=>?_);cases h with
 |@mk bs t B E q=>
  refine#[_,(Qy<|QA<|Yy (Q7 i m<|av 0<|av 1 Qr)<|YZ<|Zo B3 (by rfl) T.all B4<|Qs (V3 (NX:=Zao) (sc:=Q3 DM) (N:=["bound"]) (f:=[none]) rfl (by decide +kernel) rfl rfl (Bp<|pv 0) (λ_=>(Zm 0 (show(["bound"]:Qh).Nodup by decide +kernel))) (λ_=>ZN) (λ_=>V1) λ_=>(Q7 g m<|av 0<|Qs Qw Qr)) Qr),?_];refine Zh (VM (b:=true) (c:=true) (QQ (Qv Qp<|Qv Qp Q1)<|R_tupof.mk<|by rw[Xf];exact B) λ_=>Qq.cast (Bx (bs:=bs.map λ_=>true) (Qq.cast (EvO.fz<|YC (xs:=bs) (enc:=PyData.int) (h:=λ_=>.bool true) ?ei #[] ?el)<|by rw[XB];rfl) rfl)<|by simp) rfl
  case ei=>exact Gn Qp
  case el=>
   intro x j c;exact#[_,Zv,QQ (Qv Qp<|Qv Qx Q1)<|R_isamount.mk (q x j).1 (q x j).2]
structure LOk(l:Ln)(k T:Nat):Prop where
 u:if k=0 then l.up=none else ∃a,l.up=some a/\a<k
 b:l.bs.length=T
 h:∀b∈l.bs,0<=b/\b<10^30
inductive R_isline:List OT->OT->Prop
 |mk {l:Ln}{k T:Nat}(h:LOk l k T)(h8:T<=8):R_isline [.fz<|Vj l,.fz<|.int (k:Int),.fz<|.int (T:Int)] (.fz<|.bool true)
def Zof:Qo ZaA ZaA (Q3 Nx):=by walk_at"p"
def Zq0(T:Bl mg)(dx:Df K mg "is_line" Nx ZaA)(m:Q2 P w K mg base "is_tuple_of" Zav 1 (Q9 (K:=K) R_tupof))(j:Q2 P w K mg base "is_above" ZaR 3 (Q9 (K:=K) R_isabove))(i:Q2 P w K mg base "are_bounds" Zao 4 (Q9 (K:=K) R_arebounds)):Q2 P w K mg base "is_line" ZaA 5 (Q9 (K:=K) R_isline):=by
 refine dx.ev Zof (λf ts r h H q y A outer s g=>?_);cases h with
 |@mk l k t h B=>
  refine#[_,(Qy<|QA<|Yy (Q7 m g<|av 0<|Qs Qw Qr)<|Yy (Q7 j g<|Qs (QH QI (pv 0) Qw)<|av 1 Qr)<|YZ<|Q7 i g<|Qs (QH QI (pv 0) Qw)<|av 2 Qr),?_];have e:=h.b;exact Zh (VM (b:=true) (c:=true) (QQ (Qv Qp<|Qv Qx Q1)<|R_tupof.mk rfl) λ_=>VM (b:=true) (c:=true) (QQ (Qv (Vz (ds:=[upD l.up,.tuple<|l.bs.map PyData.int]) Qp Qx rfl)<|Qv Qp Q1)<|R_isabove.mk h.u) λ_=>QQ (Qv (Vz (ds:=[upD l.up,.tuple<|l.bs.map PyData.int]) Qp Qx rfl)<|Qv Qp Q1)<|R_arebounds.mk #[] #[] h.h) rfl
structure YOk(y:Yd):Prop where
 ok:y.Ok
 b:∀l∈y.ls,∀b∈l.bs,b<10^30
def YOk.ln{y:Yd}(h:YOk y)(e:y.ls[k]?=some l):LOk l k y.T:=by
 have m:=List.mem_of_getElem? e;have u:Zq y k=l.up:=by
  unfold Zq;rw[e];rfl
 refine#[?_,h.ok.bl l m,λb c=>#[(h.ok.bb l m b c).1,h.b l m b c]];split
 .rename_i z;rw[<- u,z];exact h.ok.up0
 .rename_i z;rw[<- u];exact h.ok.ups k #[] (Xh.mp e).1
inductive R_arelines:List OT->OT->Prop
 |mk {y:Yd}(h:YOk y):R_arelines [.fz<|.tuple<|y.ls.map Vj,.fz<|.int (y.T:Int)] (.fz<|.bool true)
def Zk8:Qo Zao Zao (Q3 D9):=by walk_at"p"
def ZlM(T:Bl mg)(dx:Df K mg "are_lines" D9 Zao)(i:Q2 P w K mg base "is_line" ZaA 5 (Q9 (K:=K) R_isline)):Q2 P w K mg base "are_lines" Zao 6 (Q9 (K:=K) R_arelines):=by
 refine dx.ev Zk8 (λf ts r h H j q A outer s m=>?_);cases h with
 |@mk y h=>
  refine#[_,(Qz (QW (PW.pt<|Uy (Vp<|Vc<|Zo ML (by rfl) T.isi WN<|av 0<|Qs (Jv (v:=.ty "tuple") rfl T.tuple G5 rfl) Qr)<|UE<|Vp<|KO U1 U1 Qw (Zo ZW (by rfl) T.len ZQ<|av 0 Qr) Qw) (Qy<|QA YA) QV)
 (Qy<|QA<|Zo B3 (by rfl) T.all B4<|Qs (V3 (NX:=Zao) (sc:=Q3 D9) (N:=ZaZ) (f:=[none,none,some 1]) rfl (by decide +kernel) rfl rfl (ZiT rfl T.enumerate<|av 0 Qr) (λ_=>(Jn (n:=2) rfl (VQ (Zm 0 (show(ZaZ:Qh).Nodup by decide +kernel))<|VQ (Zm 1 (show(ZaZ:Qh).Nodup by decide +kernel)) Jw))) (λ_=>(MC (n:=2)<|JV ZN<|JV ZN MT)) (λ_=>V1) λ_=>(Q7 i m<|av 1<|av 0<|av 2 Qr)) Qr)),?_]
  have C:=h.ok.l1;have B:=h.ok.l5;refine Q4 (QS (b:=false) ?t0 nf λ_=>QU ?_)
  case t0=>exact Wi (b:=false) (c:=false) (Vh (b:=true)<|ZB<|Bj Qp rfl) (λ_=>Vh (b:=true)<|QY<|Qq.cast (UK Qx (B5 Qp) Qx)<|by rw[Xf,XH (show(1:Int)<=y.ls.length by lia),XH (show(y.ls.length:Int)<=5 by lia)];rfl)
  refine Zh (Qq.cast (Bx (bs:=(y.ls.map Vj).zipIdx.map λ_=>true) (Qq.cast (EvO.fz<|YC (xs:=(y.ls.map Vj).zipIdx) (enc:=λp=>.tuple [.int (p.2:Int),p.1]) (h:=λ_=>.bool true) ?ei (by simp;lia) ?el)<|by rw[XB];rfl) rfl)<|by simp) rfl
  case ei=>exact ON (as:=y.ls.map Vj) (Qv Qp Q1)
  case el=>
   rintro⟨d,k⟩ g c;have g:=List.mk_mem_zipIdx_iff_getElem?.mp g;rw[Xy]at g;obtain⟨l,e,rfl⟩:=Ma.mp g;refine#[_,by walk_at"g",?_];walk_at"e";exact QQ (Qv Qp<|Qv Qp<|Qv Qp Q1) (R_isline.mk (h.ln e) h.ok.t8)
inductive R_isyard:List OT->OT->Prop
 |mk {y:Yd}(h:YOk y):R_isyard [.fz<|Zd y] (.fz<|.bool true)
def ZnN:Qo ZaY ZaY (Q3 N9):=by walk_at"p"
def Zp5(T:Bl mg)(dx:Df K mg "is_yard" N9 ZaY)(j:Q2 P w K mg base "is_tuple_of" Zav 1 (Q9 (K:=K) R_tupof))(m:Q2 P w K mg base "is_whole_within" Zak 2 (Q9 (K:=K) R_within))(i:Q2 P w K mg base "are_lines" Zao 6 (Q9 (K:=K) R_arelines)):Q2 P w K mg base "is_yard" ZaY 7 (Q9 (K:=K) R_isyard):=by
 refine dx.ev ZnN (λf ts r h H B C A outer s g=>?_);cases h with
 |@mk y h=>
  refine#[_,(Qy<|QA<|Yy (Q7 j g<|av 0<|Qs Qw Qr)<|Yy (Q7 m g<|Qs (QH QI (pv 0) Qw)<|Qs Qw<|Qs Qw Qr)<|YZ<|Q7 i g<|Qs (QH QI (pv 0) Qw)<|Qs (QH QI (pv 0) Qw) Qr),?_];have M:=h.ok.t1;have E:=h.ok.t8;have q:Qq K (tOp (rIx K) (QF 0)<|tC<|.int 0) [zf<|Zd y] (.int (y.T:Int)):=Vz Qp Qx rfl;exact Zh (VM (b:=true) (c:=true) (QQ (Qv Qp<|Qv Qx Q1)<|R_tupof.mk rfl) λ_=>VM (b:=true) (c:=true) (QQ (Qv q<|Qv Qx<|Qv Qx Q1)<|R_within.yes #[]<|#[]) λ_=>QQ (Qv (Vz (ds:=[.int (y.T:Int),.tuple<|y.ls.map Vj]) Qp Qx rfl)<|Qv q Q1)<|R_arelines.mk h) rfl
inductive R_isguest:List OT->OT->Prop
 |mk {y:Yd}{g:Gs}(h:G30 y g):R_isguest [.fz<|Zd y,.fz<|QX g] (.fz<|.bool true)
def ZlP:Qo ZaI ZaI (Q3 NH):=by walk_at"p"
def Zod(T:Bl mg)(dx:Df K mg "is_guest" NH ZaI)(B:Q2 P w K mg base "is_tuple_of" Zav 1 (Q9 (K:=K) R_tupof))(i:Q2 P w K mg base "is_whole_within" Zak 2 (Q9 (K:=K) R_within))(m:Q2 P w K mg base "is_amount" ZaH 3 (Q9 (K:=K) R_isamount))(C:Q2 P w K mg base "line_count" ZaC 1 (Q9 (K:=K) R_count))(q:Q2 P w K mg base "turns_of" ZaC 1 (Q9 (K:=K) R_turns)):Q2 P w K mg base "is_guest" ZaI 4 (Q9 (K:=K) R_isguest):=by
 refine dx.ev ZlP (λf ts r h H E Y A outer s c=>?_);cases h with
 |@mk y g h=>
  refine#[_,(Qz (QW (Vp<|Vc<|Q7 B c<|av 1<|Qs Qw Qr) (Qy<|QA YA) QV)
 (Qz (QW (Vp<|Vc<|Q7 i c<|Qs (QH QI (pv 1) Qw)<|Qs Qw<|Qs (Q7 C c<|av 0 Qr) Qr) (Qy<|QA YA) QV)
 (Qz (QW (Vp<|Vc<|Q7 i c<|Qs (QH QI (pv 1) Qw)<|Qs Qw<|Qs (Q7 q c<|av 0 Qr) Qr) (Qy<|QA YA) QV)
 (Qz (QW (Vp<|Vc<|Q7 i c<|Qs (QH QI (pv 1) Qw)<|Qs (QH QI (pv 1) Qw)<|Qs (Q7 q c<|av 0 Qr) Qr) (Qy<|QA YA) QV)
 (Qy<|QA<|Yy (Q7 m c<|Qs (QH QI (pv 1) Qw)<|Qs Qw Qr)<|YZ<|Q7 m c<|Qs (QH QI (pv 1) Qw)<|Qs Qw Qr))))),?_]
  try dsimp only[VP]
  obtain⟨⟨k1,k2,k3,X,_,W,_⟩,k5,M⟩:=h;have j:∀{Z:Zcs} {n:Int} {d:PyData},Z[1]?=some _->atI [.int<|g.line,.int<|g.first,.int<|g.last,.int g.want,.int g.most] n=some d->Qq K _ Z d:=λe h=>Vz (Qp e) Qx h;refine Q4 (QS (b:=false) (Vh (b:=true)<|ZB<|QQ (ts:=[.fz<|QX g,.fz<|.int 5]) (Qv Qp<|Qv Qx Q1)<|R_tupof.mk rfl) nf λ_=>QU ?_);refine Q4 (QS (b:=false) (Vh (b:=true)<|ZB<|QQ (Qv (j rfl rfl)<|Qv Qx<|Qv (QQ (Qv Qp Q1) R_count.mk) Q1)<|R_within.yes #[]<|#[]) nf λ_=>QU ?_);refine Q4 (QS (b:=false) (Vh (b:=true)<|ZB<|QQ (Qv (j rfl rfl)<|Qv Qx<|Qv (QQ (Qv Qp Q1) R_turns.mk) Q1)<|R_within.yes #[]<|#[]) nf λ_=>QU ?_);refine Q4 (QS (b:=false) (Vh (b:=true)<|ZB<|QQ (Qv (j rfl rfl)<|Qv (j rfl rfl)<|Qv (QQ (Qv Qp Q1) R_turns.mk) Q1)<|R_within.yes #[]<|#[]) nf λ_=>QU ?_);exact Zh (VM (QQ (Qv (j rfl rfl)<|Qv Qx Q1)<|R_isamount.mk X k5) λ_=>QQ (Qv (j rfl rfl)<|Qv Qx Q1)<|R_isamount.mk W M) rfl
def Ed:NoH "now" := λ_ _ _ _ _ _=>rfl
def TW:NoH "come" := λ_ _ _ _ _ _=>rfl
def Ep:NoH "got" := λ_ _ _ _ _ _=>rfl
def K6:NoH "rest" := λ_ _ _ _ _ _=>rfl
def IZ:NoH "open_ones" := λ_ _ _ _ _ _=>rfl
def EA:NoH "yard_now" := λ_ _ _ _ _ _=>rfl
def Lz:NoH "still_there" := λ_ _ _ _ _ _=>rfl
def MY:NoH "refuse_past" := λ_ _ _ _ _ _=>rfl
def Ik:NoH "turn" := λ_ _ _ _ _ _=>rfl
def MD:NoH "refuse_number" := λ_ _ _ _ _ _=>rfl
def ZgM:Qo ZaO ZaO (Q3 GI):=by walk_at"p"
def IF{f:Addr}(T:Bl mg)(c:HandC K CH)(F:Fun K "__init__" "Hand.__init__" GI f fd):FnOk P w K mg base CX0 1 f fd ZaO (Mn CH):=by
 refine F.ok ZgM (by rintro t H Q Y ⟨x,D,y,e,_⟩;rw[e];rfl) ?_;rintro t H Q Y ⟨x,D,y,e,u,q⟩ v A outer s L;subst e;refine#[_,(Qz (Wx (pv 0) (pv 1) rfl)
 (Qz (Wx (pv 0) Qw rfl)
 (Qz (Wx (pv 0) (ZM Qr) rfl)
 (Qz (Wx (pv 0) (ZM Qr) rfl)
 (Qz (Wx (pv 0) Nr rfl)
 (Qy<|Wx (pv 0) (ZM Qr) rfl)))))),?_]
 refine#[y,rfl,_,rfl,x,CH,D,[],rfl,u,c.cl,c.yd,by decide,?_];refine#[_,rfl,x,CH,D,[("yard",y)],rfl,by rw[QG];rfl,c.cl,c.pr,(by show(1)<1000;decide),?_];refine#[XN _,λk X=>#[_,rfl,x,CH,D,[("yard",y),("present",.int 0)],rfl,?_,c.cl,c.kn,(by show(2)<1000;decide),?_]]
 .have j:=Z7 QG X;rw[Qu j,QG];rfl
 have j:=Z7 QG X;rw[Qu<|Ne.symm j,Qu<|Ne.symm j]at X;refine#[XN _,λg M=>#[_,rfl,x,CH,D,[("yard",y),("present",.int 0),("known",.ref k)],rfl,?_,c.cl,c.gv,(by show(3)<1000;decide),?_]]
 .have B:=Z7 QG M;rw[Qu B,QG];rfl
 have B:=Z7 QG M;rw[Qu<|Ne.symm B]at M;have a:=Z7 QG M;rw[Qu<|Ne.symm a,Qu<|Ne.symm B,Qu<|Ne.symm B]at M;refine λd E=>#[_,rfl,x,CH,D,[("yard",y),("present",.int 0),("known",.ref k),("given",.ref g)],rfl,?_,c.cl,c.go,(by show(4)<1000;decide),?_]
 .have C:=Z7 QG E;rw[Qu C,QG];rfl
 have C:=Z7 QG E;rw[Qu<|Ne.symm C]at E;have o:=Z7 QG E;rw[Qu<|Ne.symm o,Qu<|Ne.symm C]at E;have l:=Z7 QG E;rw[Qu<|Ne.symm l,Qu<|Ne.symm C,Qu<|Ne.symm C]at E;refine#[XN _,λm h=>#[_,rfl,x,CH,D,[("yard",y),("present",.int 0),("known",.ref k),("given",.ref g),("gone",.ref d)],rfl,?_,c.cl,c.md,(by show(5)<1000;decide),?_]]
 .have i:=Z7 QG h;rw[Qu i,QG];rfl
 have i:=Z7 QG h;rw[Qu<|Ne.symm i]at h;have p:=Z7 QG h;rw[Qu<|Ne.symm p,Qu<|Ne.symm i]at h;have n:=Z7 QG h;rw[Qu<|Ne.symm n,Qu<|Ne.symm i]at h;have Z:=Z7 QG h;rw[Qu<|Ne.symm Z,Qu<|Ne.symm i,Qu<|Ne.symm i]at h;refine q k g d m _ X M E h ?_ ?_ ?_ ?_ ?_ ?_ (λb r=>?_)
 .simp only[XM,Xc,XJ,or_false,not_or,not_false_eq_true,Mb,and_true];exact#[#[j,B,C,i],#[a,l,Z],#[o,n],p]
 .rw[QG];rfl
 .rw[Qu<|Ne.symm j,Qu Z,Qu<|Ne.symm j,Qu l,Qu<|Ne.symm j,Qu a,Qu<|Ne.symm j,QG]
 .rw[Qu<|Ne.symm B,Qu n,Qu<|Ne.symm B,Qu o,Qu<|Ne.symm B,QG]
 .rw[Qu<|Ne.symm C,Qu p,Qu<|Ne.symm C,QG]
 .rw[Qu<|Ne.symm i,QG]
 .simp only[Xc,XJ,or_false,not_or]at r;obtain⟨W,J,I,G,z⟩:=r;rw[Qu W,Qu z,Qu W,Qu G,Qu W,Qu I,Qu W,Qu J,Qu W,Qu W]
inductive R_hpast(CH:Addr):List OT->(OT->Prop)->Prop
 |mk {N:HandS}{t:Int}(h:N.now<=t):R_hpast CH [.zow<|Zf CH N,.fz<|.int t] (λr=>r=.fz .none)
inductive X_hpast(CH:Addr):List OT->(Unit->Prop)->Prop
 |mk {N:HandS}{t:Int}(h:t<N.now):X_hpast CH [.zow<|Zf CH N,.fz<|.int t] (λ_=>True)
def Zf7:Qo ZaP ZaP (Q3 RK):=by walk_at"p"
def O3(T:Bl mg)(j:HandC K CH)(i:GV K mg "NoTime" ct)(dx:Mf K CH "refuse_past" "Hand.refuse_past" RK ZaP):ZS P w K mg base CH "refuse_past" ZaP 1 (ZK K ct VI (R_hpast CH)<|X_hpast CH):=by
 refine dx.evZ Zf7 (λf H RR ts m c h g A outer s q=>?_) (λf F H RR ts m c y h g A outer s q=>?_)
 .cases h with
  |@mk N t h=>
   refine#[_,(Qy<|QW (Zl Ji (pv 1) (Zg<|pv 0)<|Zc _) (Qy<|J1 i c<|Qs QK Qr) QV),?_];exact QS (QN.cast (QY<|VN Qp<|BJ j rfl)<|XD<|#[]) nf (λ_=>QU rfl)
 .cases h with
  |@mk N t h=>
   refine#[_,(Qy<|QW (Zl Ji (pv 1) (Zg<|pv 0)<|Zc _) (Qy<|J1 i c<|Qs QK Qr) QV),?_];exact Uu (QN.cast (QY<|VN Qp<|BJ j rfl)<|XH h) (λ_=>D3 QD trivial y) nt
def Zfi:Qo Zaa Zaa (Q3 GL):=by walk_at"p"
def Zpt{f:Addr}(T:Bl mg)(F:Fun K "__init__" "NoNumber.__init__" GL f fd)(m:Uj K YR CQ f)(xs:RP K CQ)(i:W.takerIn K CQ "number"=some none)(j:mg "YardError"=some (.ref YR)):FnOk P w K mg base CX0 1 f fd Zaa (BB CQ "number"):=by
 refine F.ok Zfi ?_ (λg H Q c h q A outer s y=>#[_,Qz (Zz<|LN m rfl j rfl Qa)<|Qy<|TK xs i (pv 0) (pv 1) rfl,Oq h]);rintro g H Q c ⟨e,x,h,_⟩;rw[h];rfl
inductive R_withw:List OT->OT->Prop
 |mk {g:Gs}{z:Int}:R_withw [.fz<|QX g,.fz<|.int z] (.fz<|QX { g with want:=z })
def Zk9:Qo ZaS ZaS (Q3 Rr):=by walk_at"p"
def OX(T:Bl mg)(dx:Df K mg "with_want" Rr ZaS):Q2 P w K mg base "with_want" ZaS 1 (Q9 (K:=K) R_withw):=by
 refine dx.ev Zk9 (λf ts r h H i j A outer s m=>?_);cases h with
 |@mk g z=>
  refine#[_,(Qy<|QA<|Yv<|Qs (QH QI (pv 0) Qw)<|Qs (QH QI (pv 0) Qw)<|Qs (QH QI (pv 0) Qw)<|av 1<|Qs (QH QI (pv 0) Qw) Qr),?_];have c:∀{Z:Zcs} {n:Int} {d:PyData},Z[0]?=some (zf<|QX g)->atI [.int _,.int _,.int _,.int g.want,.int g.most] n=some d->Qq K _ Z d:=λe h=>Vz (Qp e) Qx h;exact Zh (YE (QO (c rfl rfl)<|QO (c rfl rfl)<|QO (c rfl rfl)<|QO Qp<|QO (c rfl rfl) Z4)<|by show(5)<=1000;decide) rfl
inductive R_stay:List OT->OT->Prop
 |mk {g:Gs}{n:Nat}:R_stay [.fz<|QX g,.fz<|.int (n:Int)] (.fz<|QX { g with first:=max g.first n })
def Zhk:Qo Zap Zap (Q3 RC):=by walk_at"p"
def IN(T:Bl mg)(dx:Df K mg "staying_from" RC Zap):Q2 P w K mg base "staying_from" Zap 1 (Q9 (K:=K) R_stay):=by
 refine dx.ev Zhk (λf ts r h H i j A outer s m=>?_);cases h with
 |@mk g n=>
  refine#[_,(Qy<|QA<|Yv<|Qs (QH QI (pv 0) Qw)<|Qs (Zo (AA rfl) (by rfl) T.max Kg<|Qs (QH QI (pv 0) Qw)<|av 1 Qr)<|Qs (QH QI (pv 0) Qw)<|Qs (QH QI (pv 0) Qw)<|Qs (QH QI (pv 0) Qw) Qr),?_];have c:∀{Z:Zcs} {n:Int} {d:PyData},Z[0]?=some _->atI [.int<|g.line,.int<|g.first,.int<|g.last,.int g.want,.int g.most] n=some d->Qq K _ Z d:=λe h=>Vz (Qp e) Qx h;refine Zh (Qq.cast (YE (QO (c rfl rfl)<|QO (Pn (c rfl rfl) Qp)<|QO (c rfl rfl)<|QO (c rfl rfl)<|QO (c rfl rfl) Z4)<|by show(5)<=1000;decide) ?_) rfl;have e:max (g.first:Int) (n)=((max g.first n)):=#[]
  rw[e];rfl
def U0(N:HandS)(k:Nat)(z:Int):Prop := ∃(g:Gs) (x:Int),N.known[k]?=some (QX g)/\N.given[k]?=some x/\z=if (YO N.gone<|.inl (k:Int)).isSome then 0 else g.want-x
inductive R_hnum(CH:Addr):List OT->(OT->Prop)->Prop
 |mk {N:HandS}{k:Nat}(h:k<N.known.length):R_hnum CH [.zow<|Zf CH N,.fz<|.int (k:Int)] (λr=>r=.fz .none)
inductive X_hnum(CH:Addr):List OT->(V->Prop)->Prop
 |mk {N:HandS}{z:Int}(h:z<0\/(N.known.length:Int)<=z):X_hnum CH [.zow<|Zf CH N,.fz<|.int z] (λw=>w=.int z)
def ZeN:Qo Zaa Zaa (Q3 RO):=by walk_at"p"
def Iw(T:Bl mg)(y:HandC K CH)(q:XC K mg "NoNumber" YR CQ fQ)(dx:Mf K CH "refuse_number" "Hand.refuse_number" RO Zaa)(j:Q2 P w K mg base "is_whole_within" Zak 2 (Q9 (K:=K) R_within))(i:Be P w K mg base fQ Zaa 1 (BB CQ "number")):ZS P w K mg base CH "refuse_number" Zaa 3 (YU K CQ "number" (R_hnum CH)<|X_hnum CH):=by
 refine dx.evZ ZeN (λf H RR ts B c h m A outer s g=>?_) (λf F H RR ts B c C h m A outer s g=>?_)
 .cases h with
  |@mk N k h=>
   refine#[_,(Qy<|QW (Vp<|Vc<|Q7 j g<|av 1<|Qs Qw<|Qs (Zo ZW (by rfl) T.len ZQ<|Qs (Zg<|pv 0) Qr) Qr) (Qy<|D0 q i c g<|av 1 Qr) QV),?_];show QE K _ [_,_] _
   walk_at"x";refine QS (b:=false) (Vh (b:=true)<|ZB<|Qq.cast (QQ (Qv Qp<|Qv Qx<|Qv (VR<|GE y rfl) Q1) R_within.mk) ?_) nf (λ_=>QU rfl);rw[XH (show(0:Int)<=(k:Int) by lia),XH (show(k:Int)<(N.known.length:Int) by lia)];rfl
 .cases h with
  |@mk N z h=>
   refine#[_,(Qy<|QW (Vp<|Vc<|Q7 j g<|av 1<|Qs Qw<|Qs (Zo ZW (by rfl) T.len ZQ<|Qs (Zg<|pv 0) Qr) Qr) (Qy<|D0 q i c g<|av 1 Qr) QV),?_];show EvZ K F H _ [zz<|Zf CH N,zi z]
   walk_at"x";refine Uu (b:=true) (Vh (b:=false)<|ZB<|Qq.cast (QQ (Qv Qp<|Qv Qx<|Qv (VR<|GE y rfl) Q1) R_within.mk) ?_) (λ_=>ZoO (Φx:=λw=>w=.int z) Qp rfl rfl C) nt;rcases h with h|h
   .rw[XD (show ¬(0:Int)<=z by lia)];rfl
   .rw[XD (show ¬z<(N.known.length:Int) by lia),Bool.and_false]
inductive R_hgot(CH:Addr):List OT->(OT->Prop)->Prop
 |mk {N:HandS}{k:Nat}{x:Int}(h:k<N.known.length)(hx:N.given[k]?=some x):R_hgot CH [.zow<|Zf CH N,.fz<|.int (k:Int)] (λr=>r=.fz (.int x))
def Lk{N:HandS}{k:Nat}{x:Int}(c:N.given[k]?=some x):atI (N.given.map PyData.int) (k:Int)=some (.int x):=ZI (by rw[Xy,c];rfl)
def Zli:Qo Zaa Zaa (Q3 NQ):=by walk_at"p"
def Ez(T:Bl mg)(m:HandC K CH)(dx:Mf K CH "got" "Hand.got" NQ Zaa)(g:ZS P w K mg base CH "refuse_number" Zaa 3 (YU K CQ "number" (R_hnum CH)<|X_hnum CH)):ZS P w K mg base CH "got" Zaa 4 (YU K CQ "number" (R_hgot CH)<|X_hnum CH):=by
 refine dx.evZ Zli (λf H RR ts q c h j A outer s i=>?_) (λf F H RR ts q c B h j A outer s i=>?_)
 .cases h with
  |@mk N k x h y=>
   refine#[_,(Qz (Zz<|Yo g m i (Wv c) (pv 0)<|av 1 Qr)
 (PSs.nox<|Qy<|QA<|QH QI (Zg<|pv 0)<|pv 1)),?_]
   refine Q4 (G6 (G7 MD rfl (Qv Qp Q1) (R_hnum.mk h) c) ?_);exact Zh (ZF (FK m rfl) Qp<|Lk y) rfl
 .cases h with
  |@mk N z h=>
   refine#[_,(Qz (Zz<|Yo g m i (Wv c) (pv 0)<|av 1 Qr)
 (PSs.nox<|Qy<|QA<|QH QI (Zg<|pv 0)<|pv 1)),?_]
   exact Jo (NA bkV MD rfl (Qv Qp Q1) (X_hnum.mk h) c B)
inductive R_hrest(CH:Addr):List OT->(OT->Prop)->Prop
 |mk {N:HandS}{k:Nat}{z:Int}(h:U0 N k z):R_hrest CH [.zow<|Zf CH N,.fz<|.int (k:Int)] (λr=>r=.fz (.int z))
def ZkV:Qo Zaa Zaa (Q3 Rt):=by walk_at"p"
def ZrD(T:Bl mg)(y:HandC K CH)(dx:Mf K CH "rest" "Hand.rest" Rt Zaa)(m:ZS P w K mg base CH "refuse_number" Zaa 3 (YU K CQ "number" (R_hnum CH)<|X_hnum CH))(q:Q2 P w K mg base "want_of" Zau 1 (Q9 (K:=K) R_want)):ZS P w K mg base CH "rest" Zaa 4 (YU K CQ "number" (R_hrest CH)<|X_hnum CH):=by
 refine dx.evZ ZkV (λf H RR ts E i h B A outer s j=>?_) (λf F H RR ts E i W h B A outer s j=>?_)
 .cases h with
  |@mk N k z h=>
   refine#[_,(Qz (Zz<|Yo m y j (Wv i) (pv 0)<|av 1 Qr)
 (PSs.nox (Qz (QW (JO<|MM (YX j) (pv 1)<|Zg<|pv 0) (Qy<|QA Qw) QV)
 (Qy<|QA<|QJ Yl (Q7 q j<|Qs (QH QI (Zg<|pv 0)<|pv 1) Qr)<|QH QI (Zg<|pv 0)<|pv 1)))),?_]
   show QE K _ [_,_] _
   walk_at"x";obtain⟨g,x,C,M,rfl⟩:=h;have X:=(Xh.mp C).1;refine Q4 (G6 (G7 MD rfl (Qv Qp Q1) (R_hnum.mk X) i) ?_);refine Q4 (QS (b:=(YO N.gone<|.inl (k:Int)).isSome) (QY<|ZpI (k:=.inl (k:Int)) y Qp rfl) (λc=>?_) λc=>QU ?_)
   .rw[c];exact Zh Qx rfl
   .rw[c];exact Zh (Z8 (QQ (Qv (ZF (GE y rfl) Qp<|ZI C) Q1) R_want.mk)<|ZF (FK y rfl) Qp<|Lk M) rfl
 .cases h with
  |@mk N z h=>
   refine#[_,(Qz (Zz<|Yo m y j (Wv i) (pv 0)<|av 1 Qr)
 (PSs.nox (Qz (QW (JO<|MM (YX j) (pv 1)<|Zg<|pv 0) (Qy<|QA Qw) QV)
 (Qy<|QA<|QJ Yl (Q7 q j<|Qs (QH QI (Zg<|pv 0)<|pv 1) Qr)<|QH QI (Zg<|pv 0)<|pv 1)))),?_]
   show EvZ K F H _ [zz<|Zf CH N,zi z]
   walk_at"x";exact Jo (NA bkV MD rfl (Qv Qp Q1) (X_hnum.mk h) i W)
inductive R_hopen(CH:Addr):List OT->(OT->Prop)->Prop
 |mk {N:HandS}(rs:Qn)(h:∀k,k<N.known.length->U0 N k (rs k))(l:N.known.length<=1000):R_hopen CH [.zow<|Zf CH N] (λr=>r=.ol (Yj<|(List.range N.known.length).filter λk => !decide (rs k=0)))
def Zgh:Qo Zal Zal (Q3 DQ):=by walk_at"p"
def O8(T:Bl mg)(m:HandC K CH)(dx:Mf K CH "open_ones" "Hand.open_ones" DQ Zal)(j:ZS P w K mg base CH "rest" Zaa 4 (YU K CQ "number" (R_hrest CH)<|X_hnum CH)):Z5 P w K mg base CH "open_ones" Zal 5 (Zk K<|R_hopen CH):=by
 refine dx.evD Zgh (λf ts E h H q B A outer s y=>?_);cases h with
 |@mk N M h l=>
  refine#[_,(Qy<|QA<|V3 (NX:=Zal) (sc:=Q3 DQ) (N:=["number","self"]) (f:=[none,some 0]) rfl (by decide +kernel) rfl rfl (Y5 rfl T.range<|Qs (Zo ZW (by rfl) T.len ZQ<|Qs (Zg<|pv 0) Qr) Qr) (λ_=>(Zm 0 (show(["number","self"]:Qh).Nodup by decide +kernel))) (λ_=>ZN) (λ_=>(MU<|Zl M5 (Yo j m y (YW (C:=CQ)) (pv 1)<|av 0 Qr) Qw<|Zc _)) λ_=>(pv 0)),?_];refine Jm (Bv (enc:=λ(k:Nat)=>PyData.int<|k) ?ei (by rw[List.length_range];exact l) ?el) rfl
  case ei=>
   refine EvI.cast (YK (Qv (VR<|GE m rfl) Q1) #[]<|#[]) ?_;exact Ug λi _=>by rw[Ui]
  case el=>
   intro k g c;have g:=X6.mp g;refine#[_,Zv,?_];exact#[QY<|SR (D4 K6 rfl (Qv Qp Q1) (R_hrest.mk<|h k g) Jt) Qx,λ_=>Qp rfl]
noncomputable def stl(c:List Gs)(n:Nat)(f:Qn)(k:Nat):Gs:={ c.getD k default with first:=max (c.getD k default).first n,want:=f k }
inductive R_hstill(CH:Addr):List OT->(OT->Prop)->Prop
 |mk {N:HandS}{gs:List Gs}{n:Nat}(rs:Qn)(hk:N.known=gs.map QX)(hn:N.now=(n:Int))(h:∀k,k<gs.length->U0 N k (rs k))(l:gs.length<=900):R_hstill CH [.zow<|Zf CH N] (λr=>r=.ol ((List.range gs.length).map λk=>QX<|stl gs n rs k))
def DT:Qo ["self","guests","number","guest"] Zal (Q3 RN):=by walk_at"p"
def ZqY(T:Bl mg)(y:HandC K CH)(dx:Mf K CH "still_there" "Hand.still_there" RN Zal)(m:Q2 P w K mg base "with_want" ZaS 1 (Q9 (K:=K) R_withw))(j:Q2 P w K mg base "staying_from" Zap 1 (Q9 (K:=K) R_stay))(q:ZS P w K mg base CH "rest" Zaa 4 (YU K CQ "number" (R_hrest CH)<|X_hnum CH)):Z5 P w K mg base CH "still_there" Zal 5 (Zk K<|R_hstill CH):=by
 refine dx.evD DT (λf ts p h H X o A outer s g=>?_);cases h with
 |@mk N c n W Z Y h l=>
  refine#[_,(Qz (QZ 1 DT.nd<|ZM Qr)
 (Qz (Vu zN rfl (by exact(BW rfl T.enumerate<|Qs (Zg<|pv 0) Qr)) (Jn (n:=2) rfl (VQ (Zm 2 DT.nd)<|VQ (Zm 3 DT.nd) Jw))<|by exact(Qy<|Zz<|ZL zP zS zT Yg (pv 1)<|Qs (Q7 m g<|Qs (Q7 j g<|av 3<|Qs (Zg<|pv 0) Qr)<|Qs (Yo q y g (YW (C:=CQ)) (pv 0)<|av 2 Qr) Qr) Qr))
 (Qy<|QA<|pv 1))),?_]
  show QE K _ [_,_,_,_] _
  walk_at"x";refine Q4 (Vs (ZY (ds:=[]) Z4<|by decide) ?_);walk_at"d";refine Q4 (G2 (λi=>[zz<|Zf CH N,some<|.ol<|(List.range i).map λk=>QX<|stl c n W k,none,none]) (B6<|Qv (Qq.cast (GE y rfl) (show _=PyData.list (c.map QX) by rw[Z])) Q1) #[rfl,rfl,trivial] ?st ?fin)
  case st=>
   intro i d b;obtain⟨e,E,rfl⟩:=BQ b;have B:i<c.length:=by
    have:=(Xh.mp E).1;simpa using this
   obtain rfl:e=QX (c.getD i default):=by simpa [B] using E.symm
   refine#[_,Jh (ds:=[.int (i:Int),QX<|c.getD i default]) (Y3 Zv<|Y3 Zv JM) rfl,?_];walk_at"d";refine JR rfl (QQ (Qv (QQ (Qv Qp<|Qv (Qq.cast (BJ y rfl)<|by rw[Y]) Q1) R_stay.mk)<|Qv (D4 K6 rfl (Qv Qp Q1) (R_hrest.mk<|h i B) Jt) Q1) R_withw.mk) (by rw[Xf,List.length_range];lia) #[rfl,?_,trivial];rw[WA,Xx];rfl
  case fin=>
   intro M a;refine Gu a ?_;rw[BS,Xf];exact MR rfl rfl
noncomputable def hT(y:Yd)(n:Nat)(f:List Gs)(c:Ql)(go:Qk)(ms:List Zw):HandS:=#[Zd y,(n:Int),f.map QX,c,go.map λ(k:Nat)=>(.inl (k:Int),.bool true),ms]
noncomputable def rsT(f:List Gs)(c:Ql)(go:Qk)(k:Nat):Int:=if k∈go then 0 else (f.getD k default).want-c.getD k 0
theorem TV(k:Nat):∀go:Qk,(YO (go.map λ(k:Nat)=>((.inl (k:Int):Key),PyData.bool true))<|.inl (k:Int)).isSome=decide (k∈go)
 |[]=>rfl
 |x::go=>by
  have c:=TV k go;unfold YO at c ⊢;rw[Xv,List.find?_cons];by_cases z:x=k
  .subst z;simp
  .have f:¬((.inl (x):Key)=.inl (k)):=λq=>z #[]
   simp only[f,decide_false];rw[c];simp[Ne.symm z]
def Db{y:Yd}(gl:gv.length=gs.length)(h:k<gs.length):U0 (hT y n gs gv go ms) k (rsT gs gv go k):=by
 refine#[gs.getD k default,gv.getD k 0,by simp[hT,h],by simp[hT,h,gl],?_];show _=if (YO (go.map λk=>_) _).isSome=true then _ else _;rw[TV];unfold rsT;simp only[decide_eq_true_eq]
def mT(n:Nat)(c:List Gs)(f:Ql)(go:Qk):List Gs:=(List.range c.length).map (stl c n<|rsT c f go)
def UB(n:Nat)(c:List Gs)(f:Ql)(go:Qk):(mT n c f go).length=c.length:=by simp[mT]
def Pr(n:Nat)(c:List Gs)(f:Ql)(go:Qk):((List.range c.length).map λk=>QX<|stl c n (rsT c f go) k)=(mT n c f go).map QX:=by
 unfold mT;rw[XB];rfl
def SZ(h:k<gs.length):(mT n gs gv go).getD k default=stl gs n (rsT gs gv go) k:=by simp[mT,h]
def SI{y:Yd}(h:∀x∈gs,G30 y x)(h0:∀k,k<gs.length->0<=rsT gs gv go k):∀x∈mT n gs gv go,GOk y x:=λx f=>by
 obtain⟨k,c,rfl⟩:=Xo.mp f;have c:=X6.mp c;have g:=(h (gs.getD k default)<|by simp[c]).ok;have i:=g.m1;exact#[g.ln,h0 k c,by show 0<=(gs.getD k default).most;lia]
inductive R_hcome:HandS->List OT->(OT->HandS->Prop)->Prop
 |mk {y:Yd}{n:Nat}{gs:List Gs}{gv:Ql}{go:Qk}{ms:List Zw}{g:Gs}(ok:y.Ok)(hg:∀x∈gs,G30 y x)(gk:G30 y g)(gl:gv.length=gs.length)(gn:n<=g.first)(h0:∀k,k<gs.length->0<=rsT gs gv go k)(l:gs.length<=7)(h:∀S,Yk y (QP<|mT n gs gv go++[g]) S<=0):R_hcome (hT y n gs gv go ms) [.fz<|QX g] (λr N'=>r=.fz (.int (gs.length:Int))/\N'=hT y n (gs++[g]) (gv++[0]) go ms)
inductive X_hcome(CH:Addr):List OT->(Qd->Prop)->Prop
 |mk {y:Yd}{n:Nat}{gs:List Gs}{gv:Ql}{go:Qk}{ms:List Zw}{g:Gs}(ok:y.Ok)(hg:∀x∈gs,G30 y x)(gk:G30 y g)(gl:gv.length=gs.length)(gn:n<=g.first)(h0:∀k,k<gs.length->0<=rsT gs gv go k)(l:gs.length<=7){S:Qm}(h:0<Yk y (QP<|mT n gs gv go++[g]) S):X_hcome CH [.zow<|Zf CH<|hT y n gs gv go ms,.fz<|QX g] (λd=>∃S,0<Yk y (QP<|mT n gs gv go++[g]) S/\d=Yj (Jk (mT n gs gv go++[g]) S))
def ZkT:Qo ZaT ZaT (Q3 Rl):=by walk_at"p"
def Oy(T:Bl mg)(B:HandC K CH)(XR:XC K mg "NoRoom" YR CR fR)(dx:Mf K CH "come" "Hand.come" Rl ZaT)(z:Q2 P w K mg base "is_guest" ZaI 4 (Q9 (K:=K) R_isguest))(G:ZS P w K mg base CH "refuse_past" ZaP 1 (ZK K ct VI (R_hpast CH)<|X_hpast CH))(I:Wh P w K mg base "refuse_lack" Zab 7 (spX K CR "some" R_refuse X_refuse))(D:Z5 P w K mg base CH "still_there" Zal 5 (Zk K<|R_hstill CH)):
 ZS P w K mg base CH "come" ZaT 8 (Sa K CH CR "some" R_hcome<|X_hcome CH):=by
 have t:∀{Z:Zcs} {y:Yd} {n:Nat} {c:List Gs} {j:Ql} {q:Qk} {W:List Zw} {g:Gs} {X:XK},j.length=c.length->Z[0]?=some (zz<|Zf CH<|hT y n c j q W)->Z[1]?=some (zf<|QX g)->c.length<=7->Qq K (tOp Hj (ZV CH "still_there" (Zk K<|R_hstill CH) [] X (QF 0) QT)<|UZ<|QM (QF 1) QT) Z (.list<|(mT n c j q++[g]).map QX):=λ{Z y n c j q W g X} gl e0 U l=>
  Qq.cast (EvO.fz<|U3 (Qq.cast (EvO.fz<|Zu.o<|Dl Lz e0 Q1<|R_hstill.mk (rsT c j q) rfl rfl (λk Q=>Db gl Q)<|#[])<|by rw[Pr]) (EvO.fz<|ZY (QO (Qp U) Z4)<|by show(1)<=1000;decide)<|by rw[Xf,UB];show c.length+1<=1000;lia) (by rw[Xx];rfl)
 have Y:∀{Z:Zcs} {g:Gs},Z[1]?=some (zf<|QX g)->Qq K (tOp (rIx K) (QF 1)<|tC<|.int 1) Z (.int<|g.first):=λ{Z g} e=>Vz (Qp e) Qx rfl
 have u:∀{y:Yd} {n:Nat} {c:List Gs} {j:Ql} {q:Qk} {g:Gs},(∀x∈c,G30 y x)->G30 y g->(∀k,k<c.length->0<=rsT c j q k)->∀x∈mT n c j q++[g],GOk y x:=λo E p x a=>by
  rcases Xq.mp a with a|a
  .exact SI o p x a
  .rw[Xj.mp a];exact Ee E.ok
 refine dx.evHXn ZkT (λf H RR v M ts Ψ m h N A outer s i=>?_) (λf F H RR ts Φ m O h N A outer s i=>?_)
 .cases h with
  |@mk y n c j q W g L o E gl R p l h=>
   refine#[_,(Qz (QW (Vp<|Vc<|Q7 z i<|Qs (Zg<|pv 0)<|av 1 Qr) (PSs.nox<|Qy JW) QV)
 (Qz (Zz<|Yo G B i (YW (C:=ct)) (pv 0)<|Qs (QH QI (pv 1) Qw) Qr)
 (Qz (Zz<|UG I i (Wv m)<|Qs (Zg<|pv 0)<|Qs (QJ U9 (W4 D B i<|pv 0)<|ZM<|av 1 Qr) Qr)
 (PSs.nox (Qz (Zz<|ZL zP zS zT Yg (Zg<|pv 0)<|av 1 Qr)
 (Qz (Zz<|ZL zP zS zT Yg (Zg<|pv 0)<|Qs Qw Qr)
 (Qy<|QA<|QJ Yl (Zo ZW (by rfl) T.len ZQ<|Qs (Zg<|pv 0) Qr) Qw))))))),Kw ?_]
   show EvR K _ [zo v<|Zi CH<|hT y n c j q W,zf<|QX g] _;refine W1 (QS (b:=false) (LG 0 rfl (Vh (b:=true)<|ZB<|QQ (Qv (Qq.cast (UL B rfl) rfl)<|Qv Qp Q1)<|R_isguest.mk E)) nf λ_=>QU rfl) ?_;refine W1 (G6 (BF 0 rfl (λr i=>by rw[i];exact GF rfl)<|G7 MY rfl (Qv (Y rfl) Q1) (R_hpast.mk<|by show(n:Int)<=(g.first);lia) Jt) rfl) ?_
   try walk_at"d"
   refine W1 (G6 (BF 0 rfl (λr i=>by rw[i];exact GF rfl)<|O0 (Qv (Qq.cast (UL B rfl) rfl)<|Qv (t gl rfl rfl l) Q1) (R_refuse.mk L (u o E p) (by rw[Xp,UB];show c.length+1<=8;lia) h) m) rfl) ?_;refine W1 (Zpy B rfl Qp (by show(c.map QX).length<1000;rw[Xf];lia) rfl) ?_;refine VO (λJ=>J=[zo v<|Zi CH<|hT y n (c++[g]) (j++[0]) q W,zf<|QX g]) (ZqM B rfl Qx (by show j.length<1000;lia) ?_) ?_
   .simp[hT]
   rintro _ rfl;refine U7 (Qq.cast (Np (d:=.int ((c.length)+1-1)) 0 rfl rfl (Z8 (Qq.cast (VR<|GE B rfl) ?_) Qx)) ?_) #[_,#[rfl,rfl],rfl]
   .show PyData.int (((c++[g]).map QX).length)=_
    rw[Xf,Xp];rfl
   .rw[Int.add_sub_cancel]
 .cases h with
  |@mk y n c j q W g L o E gl R p l S h=>
   refine#[_,(Qz (QW (Vp<|Vc<|Q7 z i<|Qs (Zg<|pv 0)<|av 1 Qr) (PSs.nox<|Qy JW) QV)
 (Qz (Zz<|Yo G B i (YW (C:=ct)) (pv 0)<|Qs (QH QI (pv 1) Qw) Qr)
 (Qz (Zz<|UG I i (Wv m)<|Qs (Zg<|pv 0)<|Qs (QJ U9 (W4 D B i<|pv 0)<|ZM<|av 1 Qr) Qr)
 (PSs.nox (Qz (Zz<|ZL zP zS zT Yg (Zg<|pv 0)<|av 1 Qr)
 (Qz (Zz<|ZL zP zS zT Yg (Zg<|pv 0)<|Qs Qw Qr)
 (Qy<|QA<|QJ Yl (Zo ZW (by rfl) T.len ZQ<|Qs (Zg<|pv 0) Qr) Qw))))))),?_]
   refine W0 (QS (b:=false) (Vh (b:=true)<|ZB<|QQ (Qv (Qq.cast (UL B rfl) rfl)<|Qv Qp Q1)<|R_isguest.mk E) nf λ_=>QU rfl) ?_;refine W0 (G6 (G7 MY rfl (Qv (Y rfl) Q1) (R_hpast.mk<|by show(n:Int)<=(g.first);lia) Jt) rfl) ?_;exact Jo (EL (Qv (Qq.cast (UL B rfl) rfl)<|Qv (t gl rfl rfl l) Q1) (X_refuse.mk L (u o E p) (by rw[Xp,UB];show c.length+1<=8;lia) h) m O)
def gfD(f:Qn)(m:Nat):Zw:=((List.range m).filter λk=>decide (f k > 0)).map λ(k:Nat)=>(.inl (k:Int),.int<|f k)
def gvT(c:Ql)(f:Qn)(m i:Nat):Ql:=(List.range m).map λk=>c.getD k 0+if k<i then f k else 0
def Am{m:Nat}(h:gv.length=m)(f:Qn):gvT gv f m 0=gv:=by
 subst h;apply List.ext_getElem?;intro i;by_cases c:i<gv.length
 .simp[gvT,c]
 .simp[gvT,c]
def ZrG{f:Qn}{m:Nat}(h:m<=i):((gfD f m).any λg=>decide (g.1=(.inl (i:Int):Key)))=false:=by
 rw[List.any_eq_false];intro x j;obtain⟨k,c,rfl⟩:=Xo.mp j;have c:=X6.mp (GS.mp c).1;lia
def AX{f:Qn}(h:f i > 0):Bd (gfD f i) (.inl (i:Int)) (.int<|f i)=gfD f (i+1):=by
 unfold Bd;rw[ZrG<|Xn _];unfold gfD;rw[WA];simp[h]
def Oc{f:Qn}(h:¬f i > 0):gfD f (i+1)=gfD f i:=by
 unfold gfD;rw[WA];simp[h]
def E2(f:Qn)(m:Nat):(gfD f m).length<=m:=by
 unfold gfD;rw[Xf];exact Xl (Ml _ _) (by simp)
def ID{f:Qn}{m:Nat}(g:i<m):(gvT gv f m i).set i (gv.getD i 0+f i)=gvT gv f m (i+1):=by
 apply List.ext_getElem?;intro j;by_cases c:j<m
 .by_cases e:j=i
  .subst e;simp[gvT,c]
  .rw[XY<|Ne.symm e];simp only[gvT,Xy,List.getElem?_range c,W9];congr 2;lia
 .rw[List.getElem?_eq_none<|by simp[gvT];lia,List.getElem?_eq_none<|by simp[gvT];lia]
def ED{f:Qn}{m:Nat}(h:f i=0):gvT gv f m (i+1)=gvT gv f m i:=by
 refine Ug λk _=>?_
 congr 1
 grind
def Pu{f:Qn}{m:Nat}(c:k<m):(gvT gv f m i)[k]?=some (gv.getD k 0+if k<i then f k else 0):=by simp[gvT,c]
def ZrH{y:Yd}(f:i<G.m):((WP y G φ).map λc=>PyData.list<|c.map PyData.int)[i]?=some (.list<|(List.range y.T).map λt=>PyData.int<|Zs G φ t i):=by
 unfold WP;simp[f]
inductive R_hturn:HandS->List OT->(OT->HandS->Prop)->Prop
 |mk {y:Yd}{n:Nat}{gs:List Gs}{gv:Ql}{go:Qk}{ms:List Zw}(ok:y.Ok)(hg:∀x∈gs,G30 y x)(gl:gv.length=gs.length)(hn:n<y.T)(h0:∀k,k<gs.length->0<=rsT gs gv go k)(l:gs.length<=8)(ml:ms.length<=8):
  R_hturn (hT y n gs gv go ms) [] (λr N'=>∃φ v,Jf y (QP<|mT n gs gv go) φ/\r=.own v (dkP<|gfD (Zs (QP<|mT n gs gv go) φ n) gs.length)/\N'=hT y (n+1) gs (gvT gv (Zs (QP<|mT n gs gv go) φ n) gs.length gs.length) go (ms++[gfD (Zs (QP<|mT n gs gv go) φ n) gs.length]))
inductive X_hturn(CH:Addr):List OT->(Unit->Prop)->Prop
 |mk {y:Yd}{gs:List Gs}{gv:Ql}{go:Qk}{ms:List Zw}:X_hturn CH [.zow<|Zf CH<|hT y y.T gs gv go ms] (λ_=>True)
def J0:Qo ["self","filling","gifts","number","takes"] Zal (Q3 Rp):=by walk_at"p"
def Zr6(T:Bl mg)(a:HandC K CH)(dx:Mf K CH "turn" "Hand.turn" Rp Zal)(I:ZS P w K mg base CH "refuse_past" ZaP 1 (ZK K ct VI (R_hpast CH)<|X_hpast CH))(L:Q2 P w K mg base "turns_of" ZaC 1 (Q9 (K:=K) R_turns))(J:Q2 P w K mg base "best_filling" Zab 6 (Zk K R_great))(G:Z5 P w K mg base CH "still_there" Zal 5 (Zk K<|R_hstill CH)):
 ZS P w K mg base CH "turn" Zal 7 (UV K CH ct VI R_hturn<|X_hturn CH):=by
 refine dx.evHXn J0 (λf H RR v M ts Ψ Y h cdv A outer s X=>?_) (λf F H RR ts Φ Y hq h cdv A outer s X=>?_)
 .cases h with
  |@mk y n g q B u ok hg gl Q h0 l ml=>
   refine#[_,(Qz (Zz<|Yo I a X (Wv Y) (pv 0)<|Qs (QJ Yl (Q7 L X<|Qs (Zg<|pv 0) Qr) Qw) Qr)
 (PSs.nox (Qz (QZ 1 J0.nd<|Q7 J X<|Qs (Zg<|pv 0)<|Qs (W4 G a X<|pv 0) Qr)
 (Qz (QZ 2 J0.nd Nr)
 (Qz (Vu zN rfl (by exact(BW rfl T.enumerate<|av 1 Qr)) (Jn (n:=2) rfl (VQ (Zm 3 J0.nd)<|VQ (Zm 4 J0.nd) Jw)) (by exact(Qy (QW (Zl WI (QH QI (pv 4)<|Zg<|pv 0) Qw<|Zc _) (Qz (K9 (YX X) (pv 2) (pv 3) (QH QI (pv 4)<|Zg<|pv 0) rfl)
 (Qy<|Gw (Zg<|pv 0) (pv 3) GB (QH QI (pv 4)<|Zg<|pv 0) Br Jx)) QV))))
 (Qz (Zz<|ZL zP zS zT Yg (Zg<|pv 0)<|av 2 Qr)
 (Qz (Fn (pv 0) Qw Te)
 (Qy<|QA<|ZJ Ll (by rfl) T.dict Tn<|av 2 Qr)))))))),Kw ?_]
   walk_at"x";refine W1 (G6 (BF 0 rfl (λr X=>by rw[X];exact GF rfl)<|G7 MY rfl (Qv (Z8 (QQ (Qv (Qq.cast (UL a rfl) rfl) Q1) R_turns.mk) Qx) Q1) (R_hpast.mk<|by show(n:Int)<=(y.T)-1;lia) Y) rfl) ?_;refine VO (λj=>∃W,Jf y (QP<|mT n g q B) W/\j=[zo v<|Zi CH<|hT y n g q B u,some<|.oll<|(WP y (QP<|mT n g q B) W).map λm=>m.map PyData.int,none,none,none]) (Ju (BF 0 rfl ?th<|Wk (Qv (Qq.cast (UL a rfl) rfl)<|Qv (Qq.cast (EvO.fz<|Zu.o<|Dl Lz rfl Q1<|R_hstill.mk (rsT g q B) rfl rfl (λk R=>Db gl R)<|#[])<|by rw[Pr]) Q1)<|R_great.mk ok (SI hg h0)<|by rw[UB];exact l) ?_) ?_
   case th=>
    rintro r ⟨W,_,rfl⟩;refine Zrq λds hd=>?_;obtain⟨m,_,rfl⟩:=Xo.mp hd;intro d U;obtain⟨x,_,rfl⟩:=Xo.mp U
    exact#[_,rfl]
   .rintro r ⟨W,E,rfl⟩;exact#[W,E,rfl]
   rintro _ ⟨W,E,rfl⟩;refine A5 1 rfl rfl ?_;rw[XB];have Gm:(QP<|mT n g q B).m=g.length:=UB n g q B;have fn:∀k,k<g.length->0<=Zs (QP<|mT n g q B) W n k:=λk R=>(E.1.tak (by rw[Gm];exact R) Q).1;have e:∀i,i<g.length->((WP y (QP<|mT n g q B) W).map (PyData.list ∘ λm=>m.map PyData.int))[i]?=some (.list<|(List.range y.T).map λt=>PyData.int<|Zs (QP<|mT n g q B) W t i):=λi b=>ZrH (by rw[Gm];exact b)
   have o:((WP y (QP<|mT n g q B) W).map (PyData.list ∘ λm=>m.map PyData.int)).length=g.length:=by
    rw[Xf];unfold WP;rw[Xf,List.length_range,Gm]
   generalize ((WP y (QP<|mT n g q B) W).map (PyData.list ∘ λm=>m.map PyData.int))=C at e o;refine VO (λj=>∃w,j=[zo v<|Zi CH<|hT y n g q B u,zf<|.list C,zo w<|dkP [],none,none]) (K1 Zr4 λw=>#[w,rfl]) ?_;rintro _ ⟨w,rfl⟩;generalize S:Zs (QP<|mT n g q B) W n=f at fn;have p:∀i,i<g.length->∃ts,C[i]?=some (.list ts)/\atI ts (n)=some (.int<|f i):=λi b=>#[_,e i b,by rw[Pw #[]<|#[],X5,<- S]];refine VO (λj=>∃D z:Option OT,j=[zo v<|Zi CH<|hT y n g (gvT q f g.length g.length) B u,zf<|.list C,zo w<|dkP<|gfD f g.length,D,z]) (Ym (λi j=>∃D z:Option OT,j=[zo v<|Zi CH<|hT y n g (gvT q f g.length i) B u,zf<|.list C,zo w<|dkP<|gfD f i,D,z]) (B6<|Qv Qp Q1) #[_,_,by rw[Am gl];rfl] ?st ?fin) ?_
   case fin=>
    intro j h;rw[BS,o]at h;exact h
   case st=>
    rintro i d _ hd ⟨D,z,rfl⟩;obtain⟨d1,e1,rfl⟩:=BQ hd;have b:i<g.length:=by
     have:=(Xh.mp e1).1;lia
    obtain⟨ts,t1,t2⟩:=p i b;obtain rfl:=by rw[e1]at t1;exact Option.some.inj t1
    refine#[_,Jh (Y3 Zv<|Y3 Zv JM) rfl,?_];walk_at"d";have O:∀{Z:Zcs} {N:HandS},N.now=(n)->Z[0]?=some (zz<|Zf CH N)->Z[4]?=some (zf<|.list ts)->Qq K (tOp (rIx K) (QF 4)<|ZZ K (QF 0) "present") Z (.int<|f i):=λ{Z N} Q e0 e4=>ZF (Qp e4) (Qq.cast (BJ a e0)<|by rw[Q]) t2;refine QS (QN.cast (LG 0 rfl (QY<|VN (O rfl rfl rfl) Qx)) rfl) (λc=>?_) (λc=>QU ?_)
    .have c:=WC c;refine Q4 (OZ (k:=.inl (i)) rfl (Np 0 rfl rfl (O rfl rfl rfl)) Qp (Mh (E2 f i)<|V7<|#[]) ?_);walk_at"d";rw[AX c];refine IV a rfl Qp #[] (by show(gvT q f g.length i)[(i:Int).toNat]?=_;rw[X5,Pu b,Xg<|Y7 i]) (Np 0 rfl rfl (O rfl rfl rfl)) ?_;dsimp only[List.set,hT];rw[X5,Int.add_zero,ID b];exact#[_,_,rfl]
    .have c:=Mg c;have fi:=fn i b;rw[Oc c,ED (show f i=0 by lia)];exact#[_,_,rfl]
   rintro _ ⟨D,z,rfl⟩;refine ZsF (by decide) a rfl rfl (by show u.length<1000;lia) λw'=>#[_,#[W,w',E,?_,?_],rfl]
   .rw[S]
   .rw[S];rfl
 .cases h with
  |@mk y g q B u=>
   refine#[_,(Qz (Zz<|Yo I a X (Wv Y) (pv 0)<|Qs (QJ Yl (Q7 L X<|Qs (Zg<|pv 0) Qr) Qw) Qr)
 (PSs.nox (Qz (QZ 1 J0.nd<|Q7 J X<|Qs (Zg<|pv 0)<|Qs (W4 G a X<|pv 0) Qr)
 (Qz (QZ 2 J0.nd Nr)
 (Qz (Vu zN rfl (by exact(BW rfl T.enumerate<|av 1 Qr)) (Jn (n:=2) rfl (VQ (Zm 3 J0.nd)<|VQ (Zm 4 J0.nd) Jw)) (by exact(Qy (QW (Zl WI (QH QI (pv 4)<|Zg<|pv 0) Qw<|Zc _) (Qz (K9 (YX X) (pv 2) (pv 3) (QH QI (pv 4)<|Zg<|pv 0) rfl)
 (Qy<|Gw (Zg<|pv 0) (pv 3) GB (QH QI (pv 4)<|Zg<|pv 0) Br Jx)) QV))))
 (Qz (Zz<|ZL zP zS zT Yg (Zg<|pv 0)<|av 2 Qr)
 (Qz (Fn (pv 0) Qw Te)
 (Qy<|QA<|ZJ Ll (by rfl) T.dict Tn<|av 2 Qr)))))))),?_]
   exact Jo (NA bkN MY rfl (Qv (Z8 (QQ (Qv (Qq.cast (UL a rfl) rfl) Q1) R_turns.mk) Qx) Q1) (X_hpast.mk<|by show(y.T:Int)-1<(y.T);lia) Y hq)
inductive R_hnow(CH:Addr):List OT->(OT->Prop)->Prop
 |mk {N:HandS}:R_hnow CH [.zow<|Zf CH N] (λr=>r=.fz (.int N.now))
def Zlz:Qo Zal Zal (Q3 Rg):=by walk_at"p"
def AZ(T:Bl mg)(i:HandC K CH)(dx:Mf K CH "now" "Hand.now" Rg Zal):Z5 P w K mg base CH "now" Zal 1 (Zk K<|R_hnow CH):=by
 refine dx.evD Zlz (λf ts j h H c g A outer s m=>?_);cases h with
 |@mk N=>
  refine#[_,(Qy<|QA<|Zg<|pv 0),?_];show QE K _ [_] _
  walk_at"x";exact Zh (BJ i rfl) rfl
def ZgN:Qo Zal Zal (Q3 RJ):=by walk_at"p"
def OK(T:Bl mg)(i:HandC K CH)(dx:Mf K CH "yard_now" "Hand.yard_now" RJ Zal):Z5 P w K mg base CH "yard_now" Zal 1 (spY CH):=by
 obtain⟨f,fd,F,q,B⟩:=dx.ex;refine#[f,fd,q,B,F.ok ZgN (λj H Q c h=>by obtain⟨a,D,y,n,k,g,d,e,rfl,_⟩:=h;rfl) λj H Q c h E A outer s M=>?_];refine#[_,(Qy<|QA<|Zg<|pv 0),?_];obtain⟨a,D,y,n,k,g,d,e,rfl,C,m⟩:=h;exact#[_,rfl,a,CH,D,_,y,rfl,C,i.cl,i.yd,rfl,m]
def Vx(sep a:Str)(xs:Qh):Str:=xs.foldl (λt x=>t++sep++x) a
def W8(sep a x:Str)(xs:Qh):Vx sep a (x::xs)=Vx sep (a++sep++x) xs:=rfl
def Zpk(sep a x:Str)(xs:Qh):Vx sep a (xs++[x])=Vx sep a xs++sep++x:=by
 unfold Vx;rw[List.foldl_append];rfl
theorem DD(sep p:Str):∀(xs:Qh) (a:Str),Vx sep (p++a) xs=p++Vx sep a xs
 |[],_=>rfl
 |x::xs,a=>by
  rw[W8,W8,<- DD sep p xs];simp only[Str.append_assoc]
theorem Wc(sep:Str):∀(xs:Qh) (a:Str),Str.join sep (a::xs)=Vx sep a xs
 |[],_=>rfl
 |x::xs,a=>by
  show a++sep++Str.join sep (x::xs)=_;rw[W8,Wc sep xs,DD]
theorem GA{sep:Str}{B:Nat}:∀(xs:Qh) (a:Str),(∀x∈xs,x.length<=B)->(Vx sep a xs).length<=a.length+xs.length*(sep.length+B)
 |[],a,_=>by simp[Vx]
 |x::xs,a,h=>by
  have f:=GA (sep:=sep) xs (a++sep++x) λz c=>h z (Xe _ c);have g:=h x Xb;rw[W8];rw[Str.length_append,Str.length_append]at f;rw[XT,Nat.succ_mul];lia
theorem T2{B:Nat}:∀(xs:Qh),(∀x∈xs,x.length<=B)->(xs.map (·.length)).sum<=xs.length*B
 |[],_=>by simp
 |x::xs,h=>by
  have g:=T2 xs λz c=>h z (Xe _ c);have f:=h x Xb;rw[Xv,US,XT,Nat.succ_mul];lia
def KF{B:Nat}{xs:Qh}{sep:Str}(h:∀x∈xs,x.length<=B)(c:sep.length<=1)(hn:xs.length<=n)(g:n*(B+1)<=16777216):(xs.map (·.length)).sum+xs.length*sep.length<=16777216:=by
 have j:=T2 xs h;have i:xs.length*sep.length<=xs.length*1:=Nat.mul_le_mul_left _ c;have f:xs.length*(B+1)<=n*(B+1):=Nat.mul_le_mul_right _ hn;rw[Nat.mul_add]at f;lia
def nS(i:Int):Str:=Str.ofString (toString i)
def sD:PyData->Str
 |.int i=>nS i
 |.str x=>x
 |_=>Str.empty
inductive SOk:PyData->Prop
 |int {i:Int}(h0:0<=i)(h1:i<10^300):SOk (.int i)
 |str {x:Str}(h:x.length<=10):SOk (.str x)
def Wy{i:Int}(h0:0<=i)(f:i<10^300):i.natAbs.log2<1920:=by
 by_cases e:i.natAbs=0
 .rw[e];decide
 .rw[Nat.log2_lt e];have c:(i.natAbs:Int)<((2^1920:Nat):Int):=by
   have:(i.natAbs:Int)=i:=Int.natAbs_of_nonneg h0;rw[this];exact UR f (by decide +kernel)
  exact Int.ofNat_lt.mp c
def MK{i:Int}(h0:0<=i)(c:i<10^300):(nS i).length<=300:=PyProof.Rows.toString_length_le h0 (by decide) c
def Kk(h:SOk d):(sD d).length<=300:=by
 cases h with
 |int f c=>exact MK f c
 |str h=>exact Xl h (by decide)
def Je(w:Str)(ds:Qd):Str:=Vx " " w (ds.map sD)
def Nu{w:Str}(hw:w.length<=10)(hn:ds.length<=10)(h:∀d∈ds,SOk d):(Je w ds).length<=3100:=by
 have i:=GA (sep := " ") (B:=300) (ds.map sD) w λx c=>by
  obtain⟨d,f,rfl⟩:=Xo.mp c;exact Kk (h d f)
 have g:(ds.map sD).length*(Str.length " " + 300)<=10*301:=by
  rw[Xf];exact Nat.mul_le_mul hn (by decide)
 unfold Je;lia
def upT:Option Nat->PyData
 |none=>.str "-"
 |some a=>.int (a:Int)
def lnD(l:Ln):Qd:=upT l.up::l.bs.map PyData.int
def Vn(l:Ln):Str:=Je "line" (lnD l)
noncomputable def gsD(g:Gs):Qd:=[.int (g.line:Int),.int (g.first:Int),.int (g.last:Int),.int g.want,.int g.most]
def VC(g:Gs):Str:=Je "guest" (gsD g)
structure LnT(l:Ln):Prop where
 up:∀a,l.up=some a->a<=8
 ln:l.bs.length<=8
 bs:∀b∈l.bs,0<=b/\b<10^300
structure GsT(g:Gs):Prop where
 line:g.line<=8
 first:g.first<=8
 last:g.last<=8
 w0:0<=g.want
 w:g.want<10^300
 m0:0<=g.most
 m:g.most<10^300
def JU{a:Nat}(h:a<=8):(a:Int)<10^300:=DX (show(a:Int)<=8 by lia) (by decide +kernel)
def LnT.ok(h:LnT l):∀d∈lnD l,SOk d:=λd c=>by
 rcases Xc.mp c with rfl|c
 .cases e:l.up with
  |none=>exact .str (by decide)
  |some a=>exact .int #[] (JU<|h.up a e)
 .obtain⟨b,f,rfl⟩:=Xo.mp c;exact .int (h.bs b f).1 (h.bs b f).2
def GsT.ok{g:Gs}(h:GsT g):∀d∈gsD g,SOk d:=λd c=>by
 simp only[gsD,Xc,XJ,or_false]at c;rcases c with rfl|rfl|rfl|rfl|rfl
 .exact .int #[] (JU h.line)
 .exact .int #[] (JU h.first)
 .exact .int #[] (JU h.last)
 .exact .int h.w0 h.w
 .exact .int h.m0 h.m
def Of(h:LnT l):(lnD l).length<=9:=by
 have:=h.ln;simp[lnD];lia
def N0(h:LnT l):(Vn l).length<=3100:=Nu (by decide) (Xl (Of h)<|by decide) h.ok
def NO{g:Gs}(h:GsT g):(VC g).length<=3100:=Nu (by decide) (by simp[gsD]) h.ok
structure YdT(y:Yd):Prop where
 t:y.T<=8
 n:y.ls.length<=5
 ls:∀l∈y.ls,LnT l
noncomputable def ZdY(y:Yd):Str:=Je "yard" [.int (y.T:Int)]
def Nw{y:Yd}(h:YdT y):(ZdY y).length<=3100:=Nu (by decide) (by simp) λd c=>by
 rcases Xc.mp c with rfl|c
 .exact .int #[] (JU h.t)
 .cases c
noncomputable def W3(y:Yd)(c:List Gs):Str:=Vx "\n" (ZdY y) (y.ls.map Vn++c.map VC)
def LA{y:Str}:decide (V.str x=V.str y)=decide (x=y):=by
 by_cases h:x=y
 .simp[h]
 .simp[h]
def Z2{y:Str}(f:Qq K ta Z (.str x))(c:Qq K tb Z (.str y)):Qq K (tOp rEq ta tb) Z (.bool<|decide (x=y)):=by
 rw[<- LA];exact P0 f c rfl rfl λH Q q=>#[rfl,q]
def B2{y:Str}(f:Qq K ta Z (.str x))(c:Qq K tb Z (.str y)):Qq K (tOp rNe ta tb) Z (.bool<|!decide (x=y)):=by
 rw[<- LA];exact PH f c rfl rfl λH Q q=>#[rfl,q]
def AW:∀d:Nat,d<10->0<d->Nat.digitChar d≠'0':=by decide
def Lh(m:Nat):0<m->∃c r,Nat.toDigits 10 m=c::r/\c≠'0':=by
 induction m using Nat.strongRecOn with
 |_ m f=>
  intro j;by_cases h:m<10
  .rw[Nat.toDigits_of_lt_base h];exact#[_,_,rfl,AW m h j]
  .have g:m%10<10:=Nat.mod_lt m (by decide);have t:Nat.toDigits 10 (m/10)++Nat.toDigits 10 (m%10)=Nat.toDigits 10 (10*(m/10)+m%10):=Nat.toDigits_append_toDigits (by decide) #[] g;rw[Nat.div_add_mod]at t;obtain⟨c,r,e,i⟩:=f (m/10) #[] #[];rw[<- t,e];exact#[c,_,rfl,i]
def MN(m:Nat):(nS ((m:Nat):Int)).cps.toList=(Nat.toDigits 10 m).map Char.toNat:=W.KIN.signs_num m
def Bn{i:Int}(h0:0<=i):∀c∈(nS i).cps.toList,48<=c/\c<=57:=by
 obtain⟨m,rfl⟩:=Hb h0;intro c g;rw[MN]at g;obtain⟨h,f,e⟩:=Xo.mp g;rw[<- e];exact PyProof.Rows.digit_range (Nat.isDigit_of_mem_toDigits (by decide) (by decide) f)
def ST{i:Int}(h0:0<=i):(nS i).cps.toList≠[]:=by
 obtain⟨m,rfl⟩:=Hb h0;rw[MN];intro e;by_cases h:m=0
 .subst h;rw[Nat.toDigits_of_lt_base<|by decide]at e;cases e
 .obtain⟨c,r,f,_⟩:=Lh m #[];rw[f]at e;cases e
def O5{i:Int}(h0:0<i):∃c r,(nS i).cps.toList=c::r/\c≠48:=by
 obtain⟨m,rfl⟩:=Hb (Int.le_of_lt h0);obtain⟨c,r,e,f⟩:=Lh m #[];rw[MN,e];refine#[c.toNat,r.map Char.toNat,rfl,λz=>f ?_];exact Char.toNat_inj.mp z
def Kv{i:Int}(h0:0<=i)(g:i<10^300):PySem.intText? (nS i)=some i:=by
 have c:=MK h0 g;have f:PySem.NumText.AllDigits (nS i).cps.toList:=Bn h0;have e:=PySem.intText_digits f (ST h0) (Xl c<|by decide);obtain⟨m,rfl⟩:=Hb h0;rw[MN,W.KIN.val_back]at e;exact e
def Gz{i:Int}(h0:0<=i){c:Nat}(f:c<48):c∉(nS i).cps.toList:=λh=>by
 have:=Bn h0 c h;lia
structure N30(i:Int):Prop where
 lo:0<=i
 hi:i<10^30
def N30.b{i:Int}(h:N30 i):i<10^300:=UR h.hi (by decide +kernel)
def Wq{a:Nat}(h:a<=8):N30 (a:Int):=#[#[],DX (show(a:Int)<=8 by lia)<|by decide +kernel]
def Yn{i:Int}(h:N30 i):(nS i).length<=30:=PyProof.Rows.toString_length_le h.lo (by decide) h.hi
def Ef{i:Int}(h:N30 i):1<=(nS i).length:=by
 have:=ST h.lo;show 1<=(nS i).cps.size;rw[<- Array.length_toList];exact Mj.mpr this
noncomputable def Wf(c:Nat):Bool:=decide (48<=c)&&decide (c<=57)
def IS:∀c:Nat,c<128->(!(Builtin.Str.occurrences "0123456789" #[(List.toArray [c])] 0 (Str.length "0123456789") 1).isEmpty)=Wf c:=by decide +kernel
def Asc(x:Str):Prop:=x.cps.all (· < 128)=true
def Asc.lt(h:Asc x):∀c∈x.cps.toList,c<128:=by
 unfold Asc at h;rw[<- Array.all_toList,J6]at h;intro c f;exact WC (h c f)
def M7(h:∀c∈x.cps.toList,c<128):Asc x:=by
 unfold Asc;rw[<- Array.all_toList,J6];intro c f;exact XH (h c f)
noncomputable def M6(x:Str):Bool:=decide (x = "0") || !decide (x.cps.toList.head?=some 48)
noncomputable def JA(x:Str):Bool:=decide ((1:Int)<=(x.length:Int))&&decide ((x.length:Int)<=30)
noncomputable def Jb(x:Str):Bool:=(JA x&&x.cps.toList.all Wf)&&M6 x
def LV:(Str.ofString "0")=#[(List.toArray [48])]:=by decide +kernel
inductive R_isnum:List OT->OT->Prop
 |gen {x:Str}(h:Asc x)(hl:x.length<=10000000):R_isnum [.fz<|.str x] (.fz<|.bool<|Jb x)
def ZjJ:Qo Zba Zba (Q3 D7):=by walk_at"p"
def Os(T:Bl mg)(dx:Df K mg "is_number" D7 Zba):Q2 P w K mg base "is_number" Zba 1 (Q9 (K:=K) R_isnum):=by
 refine dx.ev ZjJ (λf ts r h H B W A outer s Z=>?_);cases h with
 |@gen x h X=>
  refine#[_,(Qz (QW (PW.pt<|Uy (Vp<|KO U1 U1 Qw (Zo EG (by rfl) T.len ZQ<|av 0 Qr) Qw)<|UE<|Vp<|Vc<|Zo B3 (by rfl) T.all B4<|Qs (V3 (NX:=Zba) (sc:=Q3 D7) (N:=["sign"]) (f:=[none]) rfl (by decide +kernel) rfl rfl (CT<|pv 0) (λ_=>(Zm 0 (show(["sign"]:Qh).Nodup by decide +kernel))) (λ_=>ZN) (λ_=>V1) λ_=>(Wo AC (pv 0) QK rfl)) Qr) (Qy<|QA YA) QV)
 (Qy<|QA<|SA (Wo Z0 (pv 0) QK<|Zc _)<|YZ<|Wo M5 (QH HW (pv 0) Qw) QK<|Zc _)),?_]
  show QE K _ [_] _
  walk_at"x";have i:x.length<=sizeLine:=by rw[sizeLine_eq];lia
  have y:Jb x=((JA x&&x.cps.toList.all Wf)&&M6 x):=rfl;cases g:JA x with
  |false=>
   rw[y,g];exact Q4 (QS (b:=true) (Wi (b:=true) (c:=true) (Vh (b:=false)<|QN.cast (QY<|UK Qx (LW (Qp rfl) i) Qx) g)<|by rintro⟨⟩) (λ_=>Zh WK rfl)<|by rintro⟨⟩)
  |true=>
  have m:x.length<=30:=by
   unfold JA at g;simp only[WB,decide_eq_true_eq]at g;lia
  have Y:1<=x.length:=by
   unfold JA at g;simp only[WB,decide_eq_true_eq]at g;lia
  rw[y,g];refine Q4 (QS (b := !x.cps.toList.all Wf) (Wi (b:=false) (c := !x.cps.toList.all Wf) (Vh (b:=true)<|QN.cast (QY<|UK Qx (LW (Qp rfl) i) Qx) g) λ_=>Vh (b:=x.cps.toList.all Wf)<|QN.cast (ZB<|Bx (bs:=x.cps.toList.map Wf) (Qq.cast (EvO.fz<|YC (xs:=x.cps.toList) (enc:=λc=>PyData.str #[(List.toArray [c])]) (h:=λc=>.bool<|Wf c) ?ei ?ln ?el)<|by rw[XB];rfl) rfl)<|by rw[List.all_map];rfl) (λc=>Zh WK ?_) λc=>QU ?_)
  case ei=>exact AI (Qp rfl) h
  case ln=>
   rw[Array.length_toList];exact Xl m (by decide)
  case el=>
   intro c C a;exact#[_,Zv,Qq.cast (Ar (Qp rfl) QD)<|by rw[IS c<|h.lt c C]]
  .have c:x.cps.toList.all Wf=false:=by simpa using c
   rw[c];rfl
  have M:x.cps.toList.all Wf=true:=by simpa using c
  rw[M];obtain⟨c,r,q⟩:∃c r,x.cps.toList=c::r:=by
   have:x.cps.toList.length=x.length:=Array.length_toList;cases z:x.cps.toList with
   |nil=>rw[z]at this;simp at this;lia
   |cons c r=>exact#[c,r,rfl]
  have E:(decide ((#[(List.toArray [c])]:Str) = "0"))=decide (x.cps.toList.head?=some 48):=by
   rw[q];refine decide_eq_decide.mpr #[λe=>?_,λe=>?_]
   .have e:(#[(List.toArray [c])]:Str)=Str.ofString "0" := e;rw[LV]at e;cases e;rfl
   .cases e;exact LV.symm
  refine Zh (Qq.cast (Mx (b:=decide (x = "0")) (c := !decide (x.cps.toList.head?=some 48)) (Z2 (Qp rfl) QD) λ_=>Qq.cast (B2 (L4 (c:=c) (Qp rfl) Qx i<|ZI (j:=0)<|by rw[q];rfl) QD)<|by rw[E]) rfl) ?_;rfl
def Ux(ws:Qh):Bool:=ws.all Jb
def U5{i:Int}(h:0<=i):Asc (nS i):=M7 λc f=>by
 have:=Bn h c f;lia
def TH{i:Int}(h:N30 i):Jb (nS i)=true:=by
 have w:=Ef h;have s:=Yn h;have q:JA (nS i)=true:=by
  unfold JA;rw[XH (show(1:Int)<=((nS i).length:Int) by lia),XH (show((nS i).length:Int)<=30 by lia)];rfl
 have m:(nS i).cps.toList.all Wf=true:=J6.mpr λc f=>by
  have:=Bn h.lo c f;unfold Wf;rw[XH this.1,XH this.2];rfl
 have j:M6 (nS i)=true:=by
  unfold M6;by_cases z:i=0
  .subst z;rw[XH (show nS 0 = "0" by decide +kernel)];rfl
  .obtain⟨c,r,g,f⟩:=O5 (i:=i) (by have:=h.lo;lia);rw[g,XD (show ¬(c::r).head?=some 48 from λe=>f<|Option.some.inj e)];simp
 unfold Jb;rw[q,m,j];rfl
def R_isnum.mk{i:Int}(h:N30 i):R_isnum [.fz<|.str<|nS i] (.fz<|.bool true):=by
 have:=R_isnum.gen (U5 h.lo) (Xl (Yn h)<|by decide);rw[TH h]at this;exact this
structure Wds(ws:Qh):Prop where
 n:ws.length<=100
 asc:∀w∈ws,Asc w
 len:∀w∈ws,w.length<=10000000
inductive R_arenums:List OT->OT->Prop
 |gen {ws:Qh}(h:Wds ws):R_arenums [.fz<|.list<|ws.map PyData.str] (.fz<|.bool<|Ux ws)
def Zil:Qo Zah Zah (Q3 DI):=by walk_at"p"
def Zoq(T:Bl mg)(dx:Df K mg "are_numbers" DI Zah)(c:Q2 P w K mg base "is_number" Zba 1 (Q9 (K:=K) R_isnum)):Q2 P w K mg base "are_numbers" Zah 2 (Q9 (K:=K) R_arenums):=by
 refine dx.ev Zil (λf ts r h H j q A outer s m=>?_);cases h with
 |@gen g h=>
  refine#[_,(Qy<|QA<|Zo B3 (by rfl) T.all B4<|Qs (V3 (NX:=Zah) (sc:=Q3 DI) (N:=Zba) (f:=[none]) rfl (by decide +kernel) rfl rfl (VT<|pv 0) (λ_=>(Zm 0 (show(Zba:Qh).Nodup by decide +kernel))) (λ_=>ZN) (λ_=>V1) λ_=>(Q7 c m<|av 0 Qr)) Qr),?_];show QE K _ [_] _
  walk_at"x";have y:=h.n;refine Zh (Qq.cast (Bx (bs:=g.map Jb) (Qq.cast (EvO.fz<|YC (xs:=g) (enc:=PyData.str) (h:=λx=>.bool<|Jb x) ?ei #[] ?el)<|by rw[XB];rfl) rfl)<|by rw[List.all_map];rfl) rfl
  case ei=>exact Yz (Qp rfl)
  case el=>
   intro x i B;refine#[_,Zv,?_];exact QQ (Qv (Qp rfl) Q1) (R_isnum.gen (h.asc x i)<|h.len x i)
def Vr(is:Ql):Qd:=is.map λi=>.str (nS i)
def R_arenums.mk(h:∀i∈is,N30 i)(g:is.length<=10):R_arenums [.fz<|.list<|Vr is] (.fz<|.bool true):=by
 have:=R_arenums.gen (ws:=is.map nS) #[by rw[Xf];lia,λx c=>?_,λx c=>?_]
 .have e:Ux (is.map nS)=true:=J6.mpr λx c=>by
   obtain⟨i,f,rfl⟩:=Xo.mp c;exact TH (h i f)
  rw[e,XB]at this;exact this
 .obtain⟨i,f,rfl⟩:=Xo.mp c;exact U5 (h i f).lo
 .obtain⟨i,f,rfl⟩:=Xo.mp c;exact Xl (Yn<|h i f) (by decide)
inductive R_numsof:List OT->OT->Prop
 |mk {is:Ql}(h:∀i∈is,N30 i)(hl:is.length<=10):R_numsof [.fz<|.list<|Vr is] (.fz<|.tuple<|is.map PyData.int)
def Zjf:Qo Zah Zah (Q3 DJ):=by walk_at"p"
def Zpu(T:Bl mg)(dx:Df K mg "numbers_of" DJ Zah):Q2 P w K mg base "numbers_of" Zah 1 (Q9 (K:=K) R_numsof):=by
 refine dx.ev Zjf (λf ts r h H g m A outer s q=>?_);cases h with
 |@mk j h y=>
  refine#[_,(Qy<|QA<|ZJ Dj (by rfl) T.tuple G5<|Qs (V3 (NX:=Zah) (sc:=Q3 DJ) (N:=Zba) (f:=[none]) rfl (by decide +kernel) rfl rfl (VT<|pv 0) (λ_=>(Zm 0 (show(Zba:Qh).Nodup by decide +kernel))) (λ_=>ZN) (λ_=>V1) λ_=>(ZJ KG (by rfl) T.int Bt<|av 0 Qr)) Qr),?_];show QE K _ [_] _
  walk_at"x";refine Zh (Po<|EvO.fz<|YC (xs:=j) (enc:=λi=>PyData.str<|nS i) (h:=PyData.int) ?ei #[] ?el) rfl
  case ei=>exact Yz (Qp rfl)
  case el=>
   intro i c B;refine#[_,Zv,?_];exact K2 (Qp rfl) (Kv (h i c).lo (h i c).b) (Xl (Yn<|h i c)<|by decide)
inductive Row where
 |y (n:Nat)
 |l (l:Ln)
 |g (g:Gs)
noncomputable def gsI(g:Gs):Ql:=[(g.line:Int),(g.first:Int),(g.last:Int),g.want,g.most]
noncomputable def Row.ws:Row->Qd
 |.y n=>[.str "yard",.str<|nS (n:Int)]
 |.l a=>.str "line" :: .str (sD<|upT a.up)::Vr a.bs
 |.g a=>.str "guest" :: Vr (gsI a)
def Row.d(r:Row):PyData:=.list r.ws
def Row.isL:Row->Bool
 |.l _=>true
 |_=>false
def Row.isG:Row->Bool
 |.g _=>true
 |_=>false
noncomputable def Row.S:Row->Str
 |.y n=>Je "yard" [.int (n:Int)]
 |.l a=>Vn a
 |.g a=>VC a
noncomputable def Row.strs:Row->Qh
 |.y n=>["yard",nS (n:Int)]
 |.l a => "line" :: sD (upT a.up)::a.bs.map nS
 |.g a => "guest" :: (gsI a).map nS
def Row.strs_ws(r:Row):r.strs.map PyData.str=r.ws:=by
 cases r<;>simp[Row.strs,Row.ws,Vr]
structure Ln30(l:Ln):Prop where
 up:∀a,l.up=some a->a<=8
 l1:1<=l.bs.length
 ln:l.bs.length<=8
 bs:∀b∈l.bs,N30 b
structure Gs30(g:Gs):Prop where
 n:∀i∈gsI g,N30 i
def Row.Ok:Row->Prop
 |.y n=>n<=8
 |.l a=>Ln30 a
 |.g a=>Gs30 a
noncomputable def ZD(y:Yd)(c:List Gs):List Row:=.y y.T::(y.ls.map Row.l++c.map Row.g)
def JG(y:Yd)(c:List Gs):PyData:=.list ((ZD y c).map Row.d)
def La{i:Int}(h:0<=i):nS i ≠ "-" := λe=>by
 have c:=Bn h 45;rw[e]at c;have:=c (by decide +kernel);lia
def Dk{c:Type}(xs:List c)(k:Nat)(f:k<=xs.length):cut xs (some ((k:Nat):Int)) none=xs.drop k:=by
 unfold cut;rw[HT.sIx_nat,Nat.min_eq_left f];show(xs.drop k).take (xs.length-k)=_;rw[<- List.length_drop,J5]
def Sf{c:Type}(a b:c)(xs:List c):cut (a::b::xs) (some (2:Int)) none=xs:=Dk (a::b::xs) 2 (by simp)
def Up{c:Type}(a:c)(xs:List c):cut (a::xs) (some (1:Int)) none=xs:=Dk (a::xs) 1 (by simp)
inductive R_isyardrow:List OT->OT->Prop
 |mk {n:Nat}(h:n<=8):R_isyardrow [.fz (Row.y n).d] (.fz<|.bool true)
def Zif:Qo Zah Zah (Q3 R0):=by walk_at"p"
def Zk7(T:Bl mg)(dx:Df K mg "is_yard_row" R0 Zah)(g:Q2 P w K mg base "is_number" Zba 1 (Q9 (K:=K) R_isnum)):Q2 P w K mg base "is_yard_row" Zah 2 (Q9 (K:=K) R_isyardrow):=by
 refine dx.ev Zif (λf ts r h H i m A outer s j=>?_);cases h with
 |@mk n h=>
  refine#[_,(Qy<|QA<|Yy (Wo Z0 (QH QI (pv 0) Qw) QK<|Zc _)<|Yy (Wo Z0 (Zo ZW (by rfl) T.len ZQ<|av 0 Qr) Qw<|Zc _)<|YZ<|Q7 g j<|Qs (QH QI (pv 0) Qw) Qr),?_];show QE K _ [_] _
  walk_at"x";refine Zh (Qq.cast (VM (b:=true) (c:=true) (Qq.cast (Z2 (ZF (ds:=(Row.y n).ws) (d:=.str "yard") (Qp rfl) Qx rfl) QD)<|by rw[XH rfl]) λ_=>VM (b:=true) (c:=true) (Yc (VR (ds:=(Row.y n).ws)<|Qp rfl) Qx) λ_=>QQ (Qv (ZF (ds:=(Row.y n).ws) (d:=.str (nS (n:Int))) (Qp rfl) Qx rfl) Q1)<|R_isnum.mk<|Wq h) rfl) rfl
inductive R_islinerow:List OT->OT->Prop
 |mk {r:Row}(h:r.Ok):R_islinerow [.fz r.d] (.fz<|.bool r.isL)
def Zim:Qo Zah Zah (Q3 Ry):=by walk_at"p"
def ZkJ(T:Bl mg)(dx:Df K mg "is_line_row" Ry Zah)(B:Q2 P w K mg base "is_number" Zba 1 (Q9 (K:=K) R_isnum))(C:Q2 P w K mg base "are_numbers" Zah 2 (Q9 (K:=K) R_arenums)):Q2 P w K mg base "is_line_row" Zah 3 (Q9 (K:=K) R_islinerow):=by
 refine dx.ev Zim (λf ts r h H M X A outer s E=>?_);cases h with
 |@mk r h=>
  refine#[_,(Qz (QW (PW.pt<|Uy (Zl M5 (QH QI (pv 0) Qw) QK<|Zc _)<|UE<|Zl Ji (Zo ZW (by rfl) T.len ZQ<|av 0 Qr) Qw<|Zc _) (Qy<|QA YA) QV)
 (Qy<|QA<|Yy (SA (Wo Z0 (QH QI (pv 0) Qw) QK<|Zc _)<|YZ<|Q7 B E<|Qs (QH QI (pv 0) Qw) Qr)<|YZ<|Q7 C E<|Qs (Y6 YG (pv 0) (Y2 Qw) Y1) Qr)),?_]
  show QE K _ [_] _
  walk_at"x";cases r with
  |y n=>
   refine Q4 (QS (b:=true) (Wi (b:=true) (c:=true) (QN.cast (QY<|B2 (ZF (ds:=(Row.y n).ws) (d:=.str "yard") (Qp rfl) Qx rfl) QD)<|by decide +kernel)<|by rintro⟨⟩) (λ_=>Zh WK rfl)<|by rintro⟨⟩)
  |g g=>
   refine Q4 (QS (b:=true) (Wi (b:=true) (c:=true) (QN.cast (QY<|B2 (ZF (ds:=(Row.g g).ws) (d:=.str "guest") (Qp rfl) Qx<|ZI (j:=0) rfl) QD)<|by decide +kernel)<|by rintro⟨⟩) (λ_=>Zh WK rfl)<|by rintro⟨⟩)
  |l l=>
   have h:Ln30 l:=h;have k:=h.l1;have Y:=h.ln;have W:((Row.l l).ws).length=l.bs.length+2:=by simp[Row.ws,Vr]
   refine Q4 (QS (b:=false) (Wi (b:=false) (c:=false) (QN.cast (QY<|B2 (ZF (ds:=(Row.l l).ws) (d:=.str "line") (Qp rfl) Qx<|ZI (j:=0) rfl) QD)<|by decide +kernel) λ_=>QN.cast (QY<|VN (VR (ds:=(Row.l l).ws)<|Qp rfl) Qx)<|by rw[W];exact XD<|#[]) (by rintro⟨⟩) λ_=>QU ?_);refine Zh (Qq.cast (VM (b:=true) (c:=true) ?fst λ_=>QQ (ts:=[.fz<|.list<|Vr l.bs]) (Qv (Qq.cast (EvO.fz<|YD (ds:=(Row.l l).ws) (Qp rfl) (YH Qx) YI)<|by rw[show(Row.l l).ws=.str "line" :: .str (sD<|upT l.up)::Vr l.bs from rfl,Sf]) Q1)<|R_arenums.mk h.bs<|#[]) rfl) rfl;have q:∀{Z:Zcs},Z[0]?=some (zf (Row.l l).d)->Qq K (tOp (rIx K) (QF 0)<|tC<|.int 1) Z (.str<|sD<|upT l.up):=λe=>ZF (ds:=(Row.l l).ws) (Qp e) Qx (ZI (j:=1) rfl)
   cases m:l.up with
   |none=>
    have i:sD (upT l.up) = "-" := by rw[m];rfl
    exact Qq.cast (Mx (b:=true) (c:=true) (Qq.cast (Z2 (q rfl) QD)<|by rw[XH i])<|by rintro⟨⟩) rfl
   |some a=>
    have i:sD (upT l.up)=nS (a:Int):=by rw[m];rfl
    exact Qq.cast (Mx (b:=false) (c:=true) (Qq.cast (Z2 (q rfl) QD)<|by rw[i,XD<|La<|#[]]) λ_=>QQ (ts:=[.fz<|.str<|nS (a:Int)]) (Qv (Qq.cast (q rfl)<|by rw[i]) Q1)<|R_isnum.mk<|Wq<|h.up a m) rfl
inductive R_isguestrow:List OT->OT->Prop
 |mk {r:Row}(h:r.Ok):R_isguestrow [.fz r.d] (.fz<|.bool r.isG)
def Zhj:Qo Zah Zah (Q3 RG):=by walk_at"p"
def ZiY(T:Bl mg)(dx:Df K mg "is_guest_row" RG Zah)(i:Q2 P w K mg base "are_numbers" Zah 2 (Q9 (K:=K) R_arenums)):Q2 P w K mg base "is_guest_row" Zah 3 (Q9 (K:=K) R_isguestrow):=by
 refine dx.ev Zhj (λf ts r h H m B A outer s q=>?_);cases h with
 |@mk r h=>
  refine#[_,(Qy<|QA<|Yy (Wo Z0 (QH QI (pv 0) Qw) QK<|Zc _)<|Yy (Wo Z0 (Zo ZW (by rfl) T.len ZQ<|av 0 Qr) Qw<|Zc _)<|YZ<|Q7 i q<|Qs (Y6 YG (pv 0) (Y2 Qw) Y1) Qr),?_];show QE K _ [_] _
  walk_at"x";cases r with
  |y n=>
   exact Zh (Qq.cast (VM (b:=false) (c:=true) (Qq.cast (Z2 (ZF (ds:=(Row.y n).ws) (d:=.str "yard") (Qp rfl) Qx rfl) QD)<|Xz PyData.bool<|by decide +kernel)<|by rintro⟨⟩) rfl) rfl
  |l l=>
   exact Zh (Qq.cast (VM (b:=false) (c:=true) (Qq.cast (Z2 (ZF (ds:=(Row.l l).ws) (d:=.str "line") (Qp rfl) Qx<|ZI (j:=0) rfl) QD)<|Xz PyData.bool<|by decide +kernel)<|by rintro⟨⟩) rfl) rfl
  |g g=>
   have h:Gs30 g:=h;exact Zh (Qq.cast (VM (b:=true) (c:=true) (Qq.cast (Z2 (ZF (ds:=(Row.g g).ws) (d:=.str "guest") (Qp rfl) Qx rfl) QD)<|Xz PyData.bool<|by decide +kernel) λ_=>VM (b:=true) (c:=true) (Yc (VR (ds:=(Row.g g).ws)<|Qp rfl) Qx) λ_=>QQ (ts:=[.fz<|.list<|Vr<|gsI g]) (Qv (Qq.cast (EvO.fz<|YD (ds:=(Row.g g).ws) (Qp rfl) (YH Qx) YI)<|by rw[show(Row.g g).ws=.str "guest" :: Vr (gsI g) from rfl,Up]) Q1)<|R_arenums.mk h.n<|by simp[gsI]) rfl) rfl
def PD:(Str.ofString "\n")=#[(List.toArray [10])]:=by decide +kernel
def Ka:(Str.ofString " ")=#[(List.toArray [32])]:=by decide +kernel
theorem Fv{c:Nat}{sep:Str}(h:c∉sep.cps.toList):∀(xs:Qh) (a:Str),c∉a.cps.toList->(∀x∈xs,c∉x.cps.toList)->c∉(Vx sep a xs).cps.toList
 |[],a,f,_=>f
 |x::xs,a,f,g=>by
  rw[W8];refine Fv h xs _ ?_ λz i=>g z (Xe _ i);rw[B8,B8];simp only[Xq,not_or];exact#[#[f,h],g x Xb]
def Row.S_glue(r:Row):∃a xs,r.strs=a::xs/\r.S=Vx " " a xs:=by
 cases r with
 |y n=>exact#[_,_,rfl,rfl]
 |l a=>
  refine#[_,_,rfl,?_];show Vx " " "line" ((lnD a).map sD)=_;unfold lnD;rw[Xv,XB];rfl
 |g a=>exact#[_,_,rfl,rfl]
def Row.free{r:Row}(h:r.Ok){c:Nat}(s:c=10\/c=32):∀x∈r.strs,c∉x.cps.toList:=by
 have j:c<48:=#[]
 have f:∀z:Str,(10∉z.cps.toList/\32∉z.cps.toList)->c∉z.cps.toList:=λz q=>by
  rcases s with rfl|rfl
  .exact q.1
  .exact q.2
 cases r with
 |y n=>
  intro x i;simp only[Row.strs,Xc,XJ,or_false]at i;rcases i with rfl|rfl
  .exact f _ (by decide +kernel)
  .exact Gz #[] j
 |l a=>
  have h:Ln30 a:=h;intro x i;simp only[Row.strs,Xc]at i;rcases i with rfl|rfl|i
  .exact f _ (by decide +kernel)
  .cases e:a.up with
   |none=>exact f _ (by decide +kernel)
   |some b=>exact Gz #[] j
  .obtain⟨b,m,rfl⟩:=Xo.mp i;exact Gz (h.bs b m).lo j
 |g a=>
  have h:Gs30 a:=h;intro x i;simp only[Row.strs,Xc]at i;rcases i with rfl|i
  .exact f _ (by decide +kernel)
  .obtain⟨b,m,rfl⟩:=Xo.mp i;exact Gz (h.n b m).lo j
def Row.split{r:Row}(h:r.Ok):Txt.split r.S " "=r.strs:=by
 obtain⟨a,xs,g,i⟩:=r.S_glue;have f:=Row.free h (c:=32) (.inr rfl);rw[g]at f;rw[i,g,<- Wc,Ka];exact Dw (by simp) f
def Row.line{r:Row}(h:r.Ok):10∉r.S.cps.toList:=by
 obtain⟨a,xs,j,i⟩:=r.S_glue;have f:=Row.free h (c:=10) (.inl rfl);rw[j]at f;rw[i];exact Fv (by decide +kernel) xs a (f a Xb) λx g=>f x (Xe _ g)
structure TxtOk(y:Yd)(gs:List Gs):Prop where
 ok:y.Ok
 y30:∀l∈y.ls,∀b∈l.bs,b<10^30
 hg:∀g∈gs,g.Ok y
 g30:∀g∈gs,g.want<10^30/\g.most<10^30
 n8:gs.length<=8
def Gg{y:Yd}(c:y.Ok):YdT y:=by
 refine#[c.t8,c.l5,λl g=>?_];obtain⟨i,h,rfl⟩:=List.getElem_of_mem g;have s:=c.l5;refine#[λa e=>?_,by rw[c.bl _ g];exact c.t8,λb j=>c.bb _ g b j];have f:Zq y i=some a:=by
  unfold Zq;rw[XS h];exact e
 by_cases q:i=0
 .subst q;rw[c.up0]at f;cases f
 .obtain⟨b,m,w⟩:=c.ups i #[] h;rw[m]at f;cases f;lia
def Mz{y:Yd}{g:Gs}(c:y.Ok)(h:g.Ok y):GsT g:=by
 have:=c.t8;have:=c.l5;have:=h.ln;have:=h.fl;have:=h.lt;have:=h.w1;have:=h.m1;exact#[#[],#[],#[],#[],h.w2,#[],h.m2]
def TxtOk.ln{y:Yd}(T:TxtOk y gs)(c:l∈y.ls):Ln30 l:=
 #[((Gg T.ok).ls l c).up,by rw[T.ok.bl l c];exact T.ok.t1,by rw[T.ok.bl l c];exact T.ok.t8,λb f=>#[(T.ok.bb l c b f).1,T.y30 l c b f]]
def TxtOk.gs30{y:Yd}(T:TxtOk y gs){g:Gs}(c:g∈gs):Gs30 g:=#[λi f=>by
 have t:=Mz T.ok (T.hg g c);simp only[gsI,Xc,XJ,or_false]at f;rcases f with rfl|rfl|rfl|rfl|rfl
 .exact Wq t.line
 .exact Wq t.first
 .exact Wq t.last
 .exact#[t.w0,(T.g30 g c).1]
 .exact#[t.m0,(T.g30 g c).2]]
def TxtOk.rows{y:Yd}(T:TxtOk y gs):∀r∈ZD y gs,r.Ok:=λr c=>by
 rcases Xc.mp c with rfl|c
 .exact T.ok.t8
 .rcases Xq.mp c with c|c
  .obtain⟨l,f,rfl⟩:=Xo.mp c;exact T.ln f
  .obtain⟨g,h,rfl⟩:=Xo.mp c;exact T.gs30 h
def N5(y:Yd)(c:List Gs):(ZD y c).length=1+y.ls.length+c.length:=by simp[ZD];lia
def Sl{y:Yd}(e:(ZD y gs)[k]?=some r):(k=0/\r=.y y.T)\/(1<=k/\k<=y.ls.length/\r.isL=true/\r.isG=false)\/(y.ls.length<k/\r.isG=true/\r.isL=false):=by
 cases k with
 |zero=>
  left;refine#[rfl,?_];have:some (Row.y y.T)=some r:=e;injection this with this;exact this.symm
 |succ k=>
  right;have e:(y.ls.map Row.l++gs.map Row.g)[k]?=some r:=e
  by_cases h:k<y.ls.length
  .left;rw[Uh<|by simpa using h,Xy]at e;cases z:y.ls[k]? with
   |none=>rw[z]at e;cases e
   |some l=>
    rw[z]at e;cases e;exact#[#[],#[],rfl,rfl]
  .right;rw[GP<|by simpa using h,Xy]at e;cases z:gs[k-(y.ls.map Row.l).length]? with
   |none=>rw[z]at e;cases e
   |some l=>
    rw[z]at e;cases e;exact#[#[],rfl,rfl]
inductive R_isrowat:List OT->OT->Prop
 |mk {y:Yd}{gs:List Gs}{k:Nat}(T:TxtOk y gs)(hk:k<(ZD y gs).length):R_isrowat [.fz<|JG y gs,.fz<|.int (k:Int)] (.fz<|.bool true)
def ZjM:Qo ZaU ZaU (Q3 Rw):=by walk_at"p"
def Zoi(T:Bl mg)(dx:Df K mg "is_row_at" Rw ZaU)(e:Q2 P w K mg base "is_yard_row" Zah 2 (Q9 (K:=K) R_isyardrow))(d:Q2 P w K mg base "is_line_row" Zah 3 (Q9 (K:=K) R_islinerow))(E:Q2 P w K mg base "is_guest_row" Zah 3 (Q9 (K:=K) R_isguestrow)):Q2 P w K mg base "is_row_at" ZaU 4 (Q9 (K:=K) R_isrowat):=by
 refine dx.ev ZjM (λf ts r h H p D A outer s M=>?_);cases h with
 |@mk y j k X n=>
  refine#[_,(Qz (QW (Zl Z0 (pv 1) Qw<|Zc _) (Qy<|QA<|Q7 e M<|Qs (QH QI (pv 0)<|pv 1) Qr) QV)
 (Qz (QW (Vc<|Q7 d M<|Qs (QH QI (pv 0)<|pv 1) Qr) (Qy<|QA<|Ps<|Q7 E M<|Qs (QH QI (pv 0)<|QJ Yl (pv 1) Qw) Qr) QV)
 (Qy<|QA<|Yy (Wo WI (pv 1) Qw<|Zc _)<|YZ<|Q7 E M<|Qs (QH QI (pv 0)<|pv 1) Qr))),?_]
  show QE K _ [_,_] _
  walk_at"x";have Y:=XS n;have g:=X.rows _ (X7 n);generalize (ZD y j)[k]=r at Y g;have q:=Sl Y;have G:=X.ok.l1;have F:atI ((ZD y j).map Row.d) (k:Int)=some r.d:=ZI (by rw[Xy,Y];rfl);have W:∀{Z:Zcs},Z[0]?=some (zf<|JG y j)->Z[1]?=some (zi (k:Int))->Qq K (tOp (rIx K) (QF 0)<|QF 1) Z r.d:=λx v=>ZF (ds:=(ZD y j).map Row.d) (Qp x) (Qp v) F
  by_cases z:k=0
  .have o:r=.y y.T:=by
    rcases q with q|q|q
    .exact q.2
    .lia
    .lia
   subst o;exact Q4 (QS (b:=true) (QN.cast (QY<|Yc (Qp rfl) Qx)<|XH<|#[]) (λ_=>Zh (QQ (Qv (W rfl rfl) Q1)<|R_isyardrow.mk X.ok.t8) rfl)<|by rintro⟨⟩)
  .refine Q4 (QS (b:=false) (QN.cast (QY<|Yc (Qp rfl) Qx)<|XD<|#[]) (by rintro⟨⟩) λ_=>QU ?_);have C:k-1<(ZD y j).length:=#[]
   have m:=XS C;have B:=X.rows _ (X7 C);generalize (ZD y j)[k-1]=l at m B;have q1:=Sl m;have a:atI ((ZD y j).map Row.d) ((k:Int)-1)=some l.d:=by
    have:(k:Int)-1=((k-1:Nat):Int):=#[]
    rw[this];exact ZI (by rw[Xy,m];rfl)
   by_cases i:r.isL=true
   .have u:l.isG=false:=by
     rcases q with q|q|q
     .lia
     .rcases q1 with q1|q1|q1
      .rw[q1.2];rfl
      .exact q1.2.2.2
      .lia
     .rw[q.2.2]at i;cases i
    exact Q4 (QS (b:=true) (QN.cast (ZB<|QQ (Qv (W rfl rfl) Q1)<|R_islinerow.mk g) i) (λ_=>Zh (Qq.cast (HV (b:=false)<|Qq.cast (QQ (Qv (ZF (ds:=(ZD y j).map Row.d) (Qp rfl) (Z8 (Qp rfl) Qx) a) Q1)<|R_isguestrow.mk B)<|by rw[u]) rfl) rfl)<|by rintro⟨⟩)
   .have i:r.isL=false:=by simpa using i
    have t:r.isG=true/\1<k:=by
     rcases q with q|q|q
     .lia
     .rw[q.2.2.1]at i;cases i
     .exact#[q.2.1,#[]]
    exact Q4 (QS (b:=false) (QN.cast (ZB<|QQ (Qv (W rfl rfl) Q1)<|R_islinerow.mk g) i) (by rintro⟨⟩) λ_=>QU<|Zh (Qq.cast (VM (b:=true) (c:=true) (Qq.cast (VN (Qp rfl) Qx)<|Xz PyData.bool<|XH<|#[]) λ_=>Qq.cast (QQ (Qv (W rfl rfl) Q1)<|R_isguestrow.mk g)<|by rw[t.1]) rfl) rfl)
def Row.S_y(n:Nat):(Row.y n).S=Je "yard" [.int (n:Int)]:=rfl
def Row.S_l(a:Ln):(Row.l a).S=Vn a:=rfl
def Row.S_g(a:Gs):(Row.g a).S=VC a:=rfl
def ZkG(y:Yd)(c:List Gs):W3 y c=Str.join #[(List.toArray [10])] ((ZD y c).map Row.S):=by
 have e:(ZD y c).map Row.S=ZdY y::(y.ls.map Vn++c.map VC):=by
  unfold ZD ZdY;simp only[Xv,Xx,XB,Function.comp_def,Row.S_y,Row.S_l,Row.S_g]
 rw[e,Wc];show Vx (Str.ofString "\n") (ZdY y) (y.ls.map Vn++c.map VC)=_;exact Xz (λz=>Vx z (ZdY y)<|y.ls.map Vn++c.map VC) PD
def Zji{y:Yd}(T:TxtOk y gs):Txt.split (W3 y gs) "\n"=(ZD y gs).map Row.S:=by
 rw[ZkG,PD];refine Dw (by simp[ZD]) λp f=>?_;obtain⟨r,c,rfl⟩:=Xo.mp f;exact Row.line (T.rows r c)
def ZlH{y:Yd}(T:TxtOk y gs):(W3 y gs).length<=50000:=by
 have j:=GA (sep := "\n") (B:=3100) (y.ls.map Vn++gs.map VC) (ZdY y) λx c=>by
  rcases Xq.mp c with c|c
  .obtain⟨l,f,rfl⟩:=Xo.mp c;exact N0 ((Gg T.ok).ls l f)
  .obtain⟨g,f,rfl⟩:=Xo.mp c;exact NO (Mz T.ok<|T.hg g f)
 have i:=Nw (Gg T.ok);have h:(y.ls.map Vn++gs.map VC).length*(Str.length "\n" + 3100)<=13*3101:=Nat.mul_le_mul (by
  have:=T.ok.l5;have:=T.n8;simp;lia) (by decide)
 unfold W3;lia
def Row.S_len{y:Yd}(T:TxtOk y gs):∀r∈ZD y gs,r.S.length<=3100:=λr c=>by
 rcases Xc.mp c with rfl|c
 .exact Nw (Gg T.ok)
 .rcases Xq.mp c with c|c
  .obtain⟨l,f,rfl⟩:=Xo.mp c;exact N0 ((Gg T.ok).ls l f)
  .obtain⟨g,h,rfl⟩:=Xo.mp c;exact NO (Mz T.ok<|T.hg g h)
inductive R_rowsof:List OT->OT->Prop
 |mk {y:Yd}{gs:List Gs}(T:TxtOk y gs):R_rowsof [.fz<|.str<|W3 y gs] (.fz<|JG y gs)
def NN:Qo ["text","rows","place"] ["text"] (Q3 D1):=by walk_at"p"
def Zp7(T:Bl mg)(dx:Df K mg "rows_of" D1 ["text"])(B:Q2 P w K mg base "is_row_at" ZaU 4 (Q9 (K:=K) R_isrowat)):Q2 P w K mg base "rows_of" ["text"] 5 (Q9 (K:=K) R_rowsof):=by
 refine dx.ev NN (λf ts r h H M l A outer s X=>?_);cases h with
 |@mk y g m=>
  refine#[_,(Qz (QW (Vp<|Vc<|Zo Aw (by rfl) T.isi WN<|av 0<|Qs (Jv (v:=.ty "str") rfl T.str Vi rfl) Qr) (Qy JW) QV)
 (Qz (BK (i:=1) NN.nd rfl rfl (NX:=["text","rows","place"]) (sc:=Q3 D1) (N:=["row"]) (f:=[none]) rfl (by decide +kernel) rfl rfl (VT<|ZL PySem.F.plainAttrs_str PySem.F.slot_str_split PySem.F.type_str_split UJ (pv 0)<|Qs QK Qr) (λ_=>(Zm 0 (show(["row"]:Qh).Nodup by decide +kernel))) (λ_=>ZN) (λ_=>V1) (λ_=>(ZL PySem.F.plainAttrs_str PySem.F.slot_str_split PySem.F.type_str_split UJ (pv 0)<|Qs QK Qr)) rfl)
 (Qz (Vu zN rfl (by exact(Y5 rfl T.range<|Qs (Zo ZW (by rfl) T.len ZQ<|av 1 Qr) Qr)) (Zm 2 NN.nd)<|by exact(Qy<|QW (Vp<|Vc<|Q7 B X<|av 1<|av 2 Qr) (Qy JW) QV))
 (Qz (QW (Zl Ji (Zo ZW (by rfl) T.len ZQ<|av 1 Qr) Qw<|Zc _) (Qy JW) QV)
 (Qy<|QA<|pv 1))))),?_]
  show QE K _ [_,_,_] _
  walk_at"x";have u:=m.ok.l1;have t:=m.ok.l5;have p:=m.n8;have C:=N5 y g;have n:=ZlH m;have o:sizeLine=16777216:=sizeLine_eq;refine Q4 (QS (b:=false) (Vh (b:=true)<|ZB<|CN<|Qp rfl) (by rintro⟨⟩) λ_=>QU ?_);refine Q4 (Vs (EvO.cast (PP (xs:=(ZD y g).map Row.S) (enc:=PyData.str) (h:=λs=>(Txt.split s " ").map PyData.str) ?ei (by simp;lia) ?el) (show _=OT.oll ((ZD y g).map Row.ws) from ?eq)) ?_)
  case ei=>exact EvI.cast (Yz<|EvO.fz<|G9 (Qp rfl) QD (by decide +kernel)<|#[]) (by rw[Zji m])
  case el=>
   intro x W c;obtain⟨r,q,rfl⟩:=Xo.mp W;have:=Row.S_len m r q;refine#[_,Zv,?_];exact G9 (Qp rfl) QD (by decide +kernel) #[]
  case eq=>
   congr 1
   rw[XB];refine Ug λr q=>?_
   show(Txt.split r.S " ").map PyData.str=r.ws
   rw[Row.split<|m.rows r q,Row.strs_ws]
  walk_at"d";refine Ax 1 rfl rfl ?_;walk_at"d";have e:(PyData.list<|((ZD y g).map Row.ws).map PyData.list)=JG y g:=by
   unfold JG;rw[XB];rfl
  rw[e];have j:((ZD y g).map Row.d).length=1+y.ls.length+g.length:=by rw[Xf,C]
  refine Q4 (G2 (ds:=Vy 0 (ZD y g).length) (λi=>[zf<|.str<|W3 y g,zf<|JG y g,none]) ?ei2 #[rfl,rfl,trivial] ?st2 ?fin2)
  case ei2=>exact EvI.cast (YK (Qv (VR (ds:=(ZD y g).map Row.d)<|Qp rfl) Q1) (by rw[z62,j];lia)<|by rw[z62,j];lia) (WX rfl (by rw[j,C];lia))
  case st2=>
   intro k d a;obtain⟨Y,rfl⟩:=W2 a;rw[Ui];refine#[_,Zv,?_];exact QS (b:=false) (Vh (b:=true)<|ZB<|QQ (Qv (Qp rfl)<|Qv (Qp rfl) Q1)<|R_isrowat.mk m Y) (by rintro⟨⟩) (λ_=>QU #[rfl,rfl,trivial])
  case fin2=>
   intro E Z;refine Gu Z ?_;refine Q4 (QS (b:=false) (QN.cast (QY<|VN (VR (ds:=(ZD y g).map Row.d)<|Qp rfl) Qx)<|by rw[j];exact XD<|#[]) (by rintro⟨⟩) λ_=>QU ?_);exact Zh (Qp rfl) rfl
inductive R_linetold:List OT->OT->Prop
 |mk {l:Ln}(h:Ln30 l):R_linetold [.fz (Row.l l).d] (.fz<|Vj l)
def Ci:Qo ["words","above"] Zah (Q3 Rv):=by walk_at"p"
def Zl1(T:Bl mg)(dx:Df K mg "line_told" Rv Zah)(y:Q2 P w K mg base "numbers_of" Zah 1 (Q9 (K:=K) R_numsof)):Q2 P w K mg base "line_told" Zah 2 (Q9 (K:=K) R_linetold):=by
 refine dx.ev Ci (λf ts r h H B E A outer s C=>?_);cases h with
 |@mk l h=>
  refine#[_,(Qz (QZ 1 Ci.nd<|LF (Zl Z0 (QH QI (pv 0) Qw) QK<|Zc _) MP<|ZJ KG (by rfl) T.int Bt<|Qs (QH QI (pv 0) Qw) Qr)
 (Qy<|QA<|Yv<|av 1<|Qs (Q7 y C<|Qs (Y6 YG (pv 0) (Y2 Qw) Y1) Qr) Qr)),?_]
  show QE K _ [_,_] _
  walk_at"x";have M:=h.ln;have q:∀{Z:Zcs},Z[0]?=some (zf (Row.l l).d)->Qq K (tOp (rIx K) (QF 0)<|tC<|.int 1) Z (.str<|sD<|upT l.up):=λe=>ZF (ds:=(Row.l l).ws) (Qp e) Qx (ZI (j:=1) rfl);refine Q4 (Z3 (d:=upD l.up) ?ab ?_)
  case ab=>
   cases m:l.up with
   |none=>
    have i:sD (upT l.up) = "-" := by rw[m];rfl
    exact P8 (b:=true) (QN.cast (QY<|Z2 (q rfl) QD)<|XH i) (λ_=>JN) (by rintro⟨⟩)
   |some a=>
    have i:sD (upT l.up)=nS (a:Int):=by rw[m];rfl
    have g:=Wq (h.up a m);exact P8 (b:=false) (QN.cast (QY<|Z2 (q rfl) QD)<|by rw[i];exact XD<|La<|#[]) (by rintro⟨⟩) (λ_=>K2 (Qq.cast (q rfl)<|by rw[i]) (Kv g.lo g.b)<|Xl (Yn g)<|by decide)
  walk_at"d";refine Zh (YE (ds:=[upD l.up,.tuple<|l.bs.map PyData.int]) (QO (Qp rfl)<|QO (QQ (ts:=[.fz<|.list<|Vr l.bs]) (Qv (Qq.cast (EvO.fz<|YD (ds:=(Row.l l).ws) (Qp rfl) (YH Qx) YI)<|by rw[show(Row.l l).ws=.str "line" :: .str (sD<|upT l.up)::Vr l.bs from rfl,Sf]) Q1)<|R_numsof.mk h.bs<|#[]) Z4)<|Nat.le_of_ble_eq_true rfl) rfl
def Row.ln:Row->PyData
 |.l a=>Vj a
 |_=>.none
def Row.gu:Row->PyData
 |.g a=>QX a
 |_=>.none
def Zor(y:Yd)(f:List Gs):((ZD y f).filter Row.isL).map Row.ln=y.ls.map Vj:=by
 unfold ZD;rw[List.filter_cons_of_neg<|by simp[Row.isL],GU,DZ.mpr (λr c=>by
  obtain⟨l,_,rfl⟩:=Xo.mp c;rfl),List.filter_eq_nil_iff.mpr (λr c=>by
  obtain⟨l,_,rfl⟩:=Xo.mp c;simp[Row.isL]),Xw,XB]
 exact Ug λa _=>rfl
def Zmc(y:Yd)(f:List Gs):((ZD y f).filter Row.isG).map Row.gu=f.map QX:=by
 unfold ZD;rw[List.filter_cons_of_neg<|by simp[Row.isG],GU,List.filter_eq_nil_iff.mpr (λr c=>by
  obtain⟨l,_,rfl⟩:=Xo.mp c;simp[Row.isG]),DZ.mpr (λr c=>by
  obtain⟨l,_,rfl⟩:=Xo.mp c;rfl),List.nil_append,XB]
 exact Ug λa _=>rfl
inductive R_yardtold:List OT->OT->Prop
 |mk {y:Yd}{gs:List Gs}(T:TxtOk y gs):R_yardtold [.fz<|JG y gs] (.fz<|Zd y)
def R7:Qo ["rows","lines","yard"] ["rows"] (Q3 DA):=by walk_at"p"
def Zlf(T:Bl mg)(dx:Df K mg "yard_told" DA ["rows"])(M:Q2 P w K mg base "is_line_row" Zah 3 (Q9 (K:=K) R_islinerow))(X:Q2 P w K mg base "line_told" Zah 2 (Q9 (K:=K) R_linetold))(W:Q2 P w K mg base "is_yard" ZaY 7 (Q9 (K:=K) R_isyard)):Q2 P w K mg base "yard_told" ["rows"] 8 (Q9 (K:=K) R_yardtold):=by
 refine dx.ev R7 (λf ts r h H e k A outer s E=>?_);cases h with
 |@mk y B q=>
  refine#[_,(Qz (BK (i:=1) R7.nd rfl rfl (NX:=["rows","lines","yard"]) (sc:=Q3 DA) (N:=Zah) (f:=[none]) rfl (by decide +kernel) rfl rfl (VT<|pv 0) (λ_=>(Zm 0 (show(Zah:Qh).Nodup by decide +kernel))) (λ_=>ZN) (λ_=>(MU<|Vc<|Q7 M E<|av 0 Qr)) (λ_=>(Q7 X E<|av 0 Qr)) rfl)
 (Qz (QZ 2 R7.nd<|Yv<|Qs (ZJ KG (by rfl) T.int Bt<|Qs (QH QI (QH QI (pv 0) Qw) Qw) Qr)<|Qs (ZJ Dj (by rfl) T.tuple G5<|av 1 Qr) Qr)
 (Qz (QW (Vp<|Vc<|Q7 W E<|av 2 Qr) (Qy JW) QV)
 (Qy<|QA<|pv 2)))),?_]
  show QE K _ [_,_,_] _
  walk_at"x";have o:=N5 y B;have u:=q.ok.l5;have t:=q.n8;refine Q4 (Vs (EvO.cast (Bv (xs:=ZD y B) (enc:=Row.d) (h:=Row.ln) (p:=Row.isL) ?ei #[] ?el)<|Xz OT.ol<|Zor y B) ?_)
  case ei=>exact Yz (Qp rfl)
  case el=>
   intro r C c;have Y:=q.rows r C;refine#[_,Zv,ZB<|QQ (Qv (Qp rfl) Q1)<|R_islinerow.mk Y,λZ=>?_];cases r with
   |y n=>cases Z
   |g a=>cases Z
   |l a=>exact QQ (Qv (Qp rfl) Q1) (R_linetold.mk Y)
  walk_at"d";have m:=Wq q.ok.t8;refine Q4 (Z3 (d:=Zd y) (YE (ds:=[.int (y.T:Int),.tuple<|y.ls.map Vj]) (QO (K2 (x:=nS (y.T:Int)) (ZF (ds:=(Row.y y.T).ws) (ZF (ds:=(ZD y B).map Row.d) (d:=(Row.y y.T).d) (Qp rfl) Qx<|ZI (j:=0) rfl) Qx rfl) (Kv m.lo m.b)<|Xl (Yn m)<|by decide)<|QO (MF rfl) Z4)<|Nat.le_of_ble_eq_true rfl) ?_);walk_at"d";refine Q4 (QS (b:=false) (Vh (b:=true)<|ZB<|QQ (Qv (Qp rfl) Q1)<|R_isyard.mk #[q.ok,q.y30]) (by rintro⟨⟩) λ_=>QU ?_);exact Zh (Qp rfl) rfl
inductive R_gueststold:List OT->OT->Prop
 |mk {y:Yd}{gs:List Gs}(T:TxtOk y gs):R_gueststold [.fz<|JG y gs,.fz<|Zd y] (.ol<|gs.map QX)
def Cm:Qo ZaW ["rows","yard"] (Q3 BX):=by walk_at"p"
def ZiM(T:Bl mg)(dx:Df K mg "guests_told" BX ["rows","yard"])(M:Q2 P w K mg base "is_guest_row" Zah 3 (Q9 (K:=K) R_isguestrow))(X:Q2 P w K mg base "numbers_of" Zah 1 (Q9 (K:=K) R_numsof))(W:Q2 P w K mg base "is_guest" ZaI 4 (Q9 (K:=K) R_isguest)):Q2 P w K mg base "guests_told" ["rows","yard"] 5 (Q9 (K:=K) R_gueststold):=by
 refine dx.ev Cm (λf ts r h H Z d A outer s C=>?_);cases h with
 |@mk y m j=>
  refine#[_,(Qz (BK (i:=2) Cm.nd rfl rfl (NX:=ZaW) (sc:=Q3 BX) (N:=Zah) (f:=[none]) rfl (by decide +kernel) rfl rfl (VT<|pv 0) (λ_=>(Zm 0 (show(Zah:Qh).Nodup by decide +kernel))) (λ_=>ZN) (λ_=>(MU<|Vc<|Q7 M C<|av 0 Qr)) (λ_=>(Q7 X C<|Qs (Y6 YG (pv 0) (Y2 Qw) Y1) Qr)) rfl)
 (Qz (QW (Zl WI (Zo ZW (by rfl) T.len ZQ<|av 2 Qr) Qw<|Zc _) (Qy JW) QV)
 (Qz (QW (Vp<|Vc<|Zo B3 (by rfl) T.all B4<|Qs (V3 (NX:=ZaW) (sc:=Q3 BX) (N:=["guest","yard"]) (f:=[none,some 1]) rfl (by decide +kernel) rfl rfl (VT<|pv 2) (λ_=>(Zm 0 (show(["guest","yard"]:Qh).Nodup by decide +kernel))) (λ_=>ZN) (λ_=>V1) λ_=>(Q7 W C<|av 1<|av 0 Qr)) Qr) (Qy JW) QV)
 (Qy<|QA<|pv 2)))),?_]
  show QE K _ [_,_,_] _
  walk_at"x";have e:=N5 y m;have o:=j.ok.l5;have k:=j.n8;refine Q4 (Vs (EvO.cast (Bv (xs:=ZD y m) (enc:=Row.d) (h:=Row.gu) (p:=Row.isG) ?ei #[] ?el)<|Xz OT.ol<|Zmc y m) ?_)
  case ei=>exact Yz (Qp rfl)
  case el=>
   intro r B c;have q:=j.rows r B;refine#[_,Zv,ZB<|QQ (Qv (Qp rfl) Q1)<|R_isguestrow.mk q,λY=>?_];cases r with
   |y n=>cases Y
   |l a=>cases Y
   |g a=>
    have q:Gs30 a:=q;exact QQ (ts:=[.fz<|.list<|Vr<|gsI a]) (Qv (Qq.cast (EvO.fz<|YD (ds:=(Row.g a).ws) (Qp rfl) (YH Qx) YI)<|by rw[show(Row.g a).ws=.str "guest" :: Vr (gsI a) from rfl,Up]) Q1) (R_numsof.mk q.n<|by simp[gsI])
  walk_at"d";refine Q4 (QS (b:=false) (QN.cast (QY<|VN (Px rfl) Qx)<|by rw[Xf];exact XD<|#[]) (by rintro⟨⟩) λ_=>QU ?_);refine Q4 (QS (b:=false) (Vh (b:=true)<|Zs6 2 rfl rfl (QN.cast (ZB<|Bx (bs:=m.map λ_=>true) (Qq.cast (EvO.fz<|YC (xs:=m) (enc:=QX) (h:=λ_=>.bool true) ?ei2 #[] ?el2)<|by rw[XB];rfl) rfl)<|by simp)) (by rintro⟨⟩) λ_=>QU ?_)
  case ei2=>exact Yz (Qp rfl)
  case el2=>
   intro g E c;refine#[_,Zv,?_];exact QQ (Qv (Qp rfl)<|Qv (Qp rfl) Q1) (R_isguest.mk #[j.hg g E,(j.g30 g E).1,(j.g30 g E).2])
  exact MR rfl rfl
inductive R_read:List OT->OT->Prop
 |mk {y:Yd}{gs:List Gs}(T:TxtOk y gs):R_read [.fz<|.str<|W3 y gs] (.fz<|.tuple [Zd y,.list<|gs.map QX])
def KN:Qo ["text","rows","yard"] ["text"] (Q3 Kt):=by walk_at"p"
def E3(T:Bl mg)(dx:Df K mg "read" Kt ["text"])(j:Q2 P w K mg base "rows_of" ["text"] 5 (Q9 (K:=K) R_rowsof))(i:Q2 P w K mg base "yard_told" ["rows"] 8 (Q9 (K:=K) R_yardtold))(g:Q2 P w K mg base "guests_told" ["rows","yard"] 5 (Q9 (K:=K) R_gueststold)):Q2 P w K mg base "read" ["text"] 9 (Q9 (K:=K) R_read):=by
 refine dx.ev KN (λf ts r h H q C A outer s c=>?_);cases h with
 |@mk y B m=>
  refine#[_,(Qz (QZ 1 KN.nd<|Q7 j c<|av 0 Qr)
 (Qz (QZ 2 KN.nd<|Q7 i c<|av 1 Qr)
 (Qy<|QA<|Yv<|av 2<|Qs (Q7 g c<|av 1<|av 2 Qr) Qr))),?_]
  show QE K _ [_,_,_] _
  walk_at"x";refine Q4 (Z3 (QQ (Qv (Qp rfl) Q1)<|R_rowsof.mk m) ?_);walk_at"d";refine Q4 (Z3 (QQ (Qv (Qp rfl) Q1)<|R_yardtold.mk m) ?_);walk_at"d";exact Zh (YE (ds:=[Zd y,.list<|B.map QX]) (QO (Qp rfl)<|QO (EvO.fz<|B7 (Qv (Qp rfl)<|Qv (Qp rfl) Q1)<|R_gueststold.mk m) Z4) Su) rfl
inductive R_letin:HandS->List OT->(OT->HandS->Prop)->Prop
 |mk {y:Yd}{n:Nat}{gs:List Gs}{gv:Ql}{go:Qk}{ms:List Zw}{g:Gs}(ok:y.Ok)(hg:∀x∈gs,G30 y x)(gk:G30 y g)(gl:gv.length=gs.length)(gn:n<=g.first)(h0:∀k,k<gs.length->0<=rsT gs gv go k)(l:gs.length<=7):
  R_letin (hT y n gs gv go ms) [.fz<|QX g] (λr N'=>r=.fz .none/\(((∀S,Yk y (QP<|mT n gs gv go++[g]) S<=0)/\N'=hT y n (gs++[g]) (gv++[0]) go ms)\/((∃S,0<Yk y (QP<|mT n gs gv go++[g]) S)/\N'=hT y n gs gv go ms)))
def ZqL:Qo ZaV ZaV (Q3 Nm):=by walk_at"p"
def O1(T:Bl mg)(L:HandC K CH)(I:XC K mg "NoRoom" YR CR fR)(J:W.exmOne K (.ref CR) (.ref CR)=some true)(dx:Df K mg "let_in" Nm ZaV)(C:ZS P w K mg base CH "come" ZaT 8 (Sa K CH CR "some" R_hcome<|X_hcome CH)):Q2 P w K mg base "let_in" ZaV 9 (spP K (Zi CH) R_letin):=by
 refine dx.evPN ZqL (λf v M ts N h H u G A outer s F=>?_);cases h with
 |@mk y n m i q X g E Z t gl p b l=>
  refine#[_,(Qy<|Zs8 J rfl rfl rfl I.m rfl (λdx D=>(Qy<|Zz<|Zr8 C L F Zqt (pv 0)<|av 1 Qr)) λe D=>(Qy EC)),?_];walk_at"x"
  by_cases h:∀S,Yk y (QP<|mT n m i q++[g]) S<=0
  .refine VO (λB=>B=[zo v<|Zi CH<|hT y n (m++[g]) (i++[0]) q X,zf<|QX g]) (Q4<|Zpj TW rfl (Qv Qp Q1) (R_hcome.mk E Z t gl p b l h) ?_) ?_
   .rintro r O ⟨_,rfl⟩;exact QU rfl
   .rintro _ rfl;refine U7 JN ?_;exact#[_,#[rfl,.inl #[h,rfl]],rfl]
  .obtain⟨S,a⟩:∃S,0<Yk y (QP<|mT n m i q++[g]) S:=Classical.byContradiction λc=>h λS=>Int.not_lt.mp λz=>c #[S,z]
   refine W1 (e:=[zo v<|Zi CH<|hT y n m i q X,zf<|QX g]) (Q4<|ZrI (j:=2) (λ_ _ _ _ h=>.inr h) xfP TW rfl (Qv Qp Q1) (X_hcome.mk E Z t gl p b l a) (λd e o _ Y=>?_) λd h=>?_) ?_
   .exact QU (QU rfl)
   .obtain⟨S,_,rfl⟩:=h;exact λx Y=>by obtain⟨k,_,rfl⟩:=Xo.mp Y;exact#[_,rfl]
   .refine U7 JN ?_;exact#[_,#[rfl,.inr #[#[S,a],rfl]],rfl]
structure DeskC(K:W.Frag)(CD:Addr):Prop where
 cl:Cls K CD
 hd:Vt K CD "hand"
def Kl{c:Type}{l:List c}{x d:c}{k:Nat}(h:k<l.length):(l++[x]).getD k d=l.getD k d:=by rw[GO,Uh h,<- GO]
def Km{c:Type}{l:List c}{x d:c}:(l++[x]).getD l.length d=x:=by simp
def EF{g:Gs}(gl:gv.length=gs.length)(f:∀k∈go,k<gs.length)(h:k<=gs.length):rsT (gs++[g]) (gv++[0]) go k=if k<gs.length then rsT gs gv go k else g.want:=by
 unfold rsT;by_cases c:k<gs.length
 .rw[Xi c,Kl c,Kl<|by rw[gl];exact c]
 .obtain rfl:k=gs.length:=#[]
  rw[Xg c,Xg λz=>c<|f _ z,Km,<- gl,Km,Int.sub_zero]
structure In0(y:Yd)(gs:List Gs)(gv:Ql):Prop where
 hg:∀x∈gs,G30 y x
 gl:gv.length=gs.length
 h0:∀k,k<gs.length->0<=rsT gs gv [] k
 z0:∀k,k<gs.length->gv.getD k 0=0
inductive R_dinit:Option HandS->List OT->(OT->Option HandS->Prop)->Prop
 |mk {y:Yd}{gs:List Gs}(T:TxtOk y gs):R_dinit none [.fz<|.str<|W3 y gs] (λr N'=>r=.fz .none/\∃gs' gv,gs'.length<=gs.length/\In0 y gs' gv/\N'=some (hT y 0 gs' gv [] []))
def RL:Qo ["self","text","told","guest"] Zbb (Q3 GH):=by walk_at"p"
def E6{f:Addr}(T:Bl mg)(E:DeskC K CD)(F:Fun K "__init__" "Desk.__init__" GH f fd)(p:Q2 P w K mg base "read" ["text"] 9 (Q9 (K:=K) R_read))(o:HG P w K mg base "Hand" CH ZaO 1)(n:Q2 P w K mg base "let_in" ZaV 9 (spP K (Zi CH) R_letin)):FnOk P w K mg base CX0 10 f fd Zbb (spP K (Ba CD "hand"<|Zi CH) R_dinit):=by
 refine F.evPN RL (λv M ts N h H D L A outer s W=>?_);cases h with
 |@mk y q X=>
  refine#[_,(Qz (QZ 2 RL.nd<|Q7 p W<|av 1 Qr)
 (Qz (Wx (pv 0) (OP o W<|Qs (QH QI (pv 2) Qw) Qr) rfl)
 (Qy<|Vu zN rfl (by exact(VT<|QH QI (pv 2) Qw)) (Zm 3 RL.nd)<|by exact(Qy<|Zz<|Q7 n W<|Qs (Zg<|pv 0)<|av 3 Qr)))),?_]
  walk_at"x";have O:=X.n8;have J:∀{Z:Zcs},Z[2]?=some (zf<|.tuple [Zd y,.list<|q.map QX])->Qq K (tOp (rIx K) (QF 2)<|tC<|.int 0) Z (Zd y):=λe=>Vz (Qp e) Qx rfl;have G:∀{Z:Zcs},Z[2]?=some (zf<|.tuple [Zd y,.list<|q.map QX])->Qq K (tOp (rIx K) (QF 2)<|tC<|.int 1) Z (.list<|q.map QX):=λe=>Vz (Qp e) Qx rfl;refine VO (λB=>∃j m u,j.length<=q.length/\In0 y j m/\B=[zo v<|InP CD "hand"<|Zi CH<|hT y 0 j m [] [],zf<|.str<|W3 y q,zf<|.tuple [Zd y,.list<|q.map QX],u]) ?bd ?_
  case bd=>
   refine Q4 (Z3 (QQ (Qv Qp Q1)<|R_read.mk X) ?_);walk_at"d";refine Q4 (OS E.cl E.hd rfl (Zs1<|J rfl) ?_);walk_at"d";refine Q4 (Ym (λi B=>∃j m u,j.length<=i/\In0 y j m/\B=[zo v<|InP CD "hand"<|Zi CH<|hT y 0 j m [] [],zf<|.str<|W3 y q,zf<|.tuple [Zd y,.list<|q.map QX],u]) (Yz<|G rfl) #[[],[],none,Xn _,#[λ_ h=>(nomatch h),rfl,λ_ h=>(nomatch h),λ_ h=>(nomatch h)],rfl] ?st ?fin)
   case fin=>
    rintro _ ⟨j,m,u,l,I,rfl⟩;rw[Xf]at l;exact QU #[j,m,u,l,I,rfl]
   case st=>
    rintro i d _ t ⟨j,m,u,l,I,rfl⟩;rw[Xy]at t;obtain⟨g,e,rfl⟩:=Ma.mp t;have Q:=(Xh.mp e).1;have Y:=List.mem_of_getElem? e;have b:G30 y g:=#[X.hg g Y,(X.g30 g Y).1,(X.g30 g Y).2];refine#[_,Zv,?_];walk_at"d";refine Q4 (Zql E.cl E.hd rfl (Qv Qp Q1) (R_letin.mk (ms:=[]) X.ok I.hg b I.gl (XN _) I.h0<|#[]) ?_);rintro r R ⟨_,h|h⟩
    .obtain⟨_,rfl⟩:=h;refine QU #[j++[g],m++[0],_,by rw[Xp];simp;lia,#[λx C=>?_,by simp[I.gl],λk a=>?_,λk a=>?_],rfl]
     .rcases Xq.mp C with C|C
      .exact I.hg x C
      .rw[Xj.mp C];exact b
     .rw[Xp,GN]at a;rw[EF (go:=[]) I.gl (λ_ h=>(nomatch h))<|#[]];split
      .rename_i z;exact I.h0 k z
      .have:=b.ok.w1;lia
     .rw[Xp,GN]at a
      by_cases c:k<j.length
      .rw[Kl<|by rw[I.gl];exact c];exact I.z0 k c
      .obtain rfl:k=m.length:=by rw[I.gl];lia
       exact Km
    .obtain⟨_,rfl⟩:=h;exact QU #[j,m,_,#[],I,rfl]
  .rintro _ ⟨j,m,u,l,I,rfl⟩;refine U7 JN ?_;exact#[_,#[rfl,j,m,l,I,rfl],rfl]
noncomputable def WE:List (Str×Int):=[("come",5),("turn",0),("leave",1),("got",1),("rest",1),("bound",3),("open",0),("now",0)]
structure CnT(K:W.Frag)(mg:Str->Qf)(w:World)(gC:Addr):Prop where
 k:KCnt K w gC WE
 m:mg "COUNTS"=some (.ref gC)
structure RowW(x w:Str)(is:Ql):Prop where
 sp:Txt.split x " "=w::is.map nS
 l:x.length<=1000
 c:Wt WE w=.int (is.length:Int)
 n:∀i∈is,N30 i
 h5:is.length<=5
inductive R_words:List OT->(OT->Prop)->Prop
 |mk {x w:Str}{is:Ql}(h:RowW x w is):R_words [.fz<|.str x] (λr=>r=.fz (.list (.str w::Vr is)))
structure RowN(x w:Str)(ws:Qh):Prop where
 sp:Txt.split x " "=w::ws
 l:x.length<=100000
 wd:Wds ws
 b:(PyData.eqv (Wt WE w) (.int (ws.length:Int))&&Ux ws)=false
inductive X_words:List OT->(Unit->Prop)->Prop
 | no {d:PyData}(h:(tyD d == "str")=false):X_words [.fz d] (λ_=>True)
 |bad {x w:Str}{ws:Qh}(h:RowN x w ws):X_words [.fz<|.str x] (λ_=>True)
def Bw{i:Int}:Y8 (.int i):=#[rfl,show(_:Nat)<=60 by simp[PyData.depth]]
def LR(w:Str):Y8 (Wt WE w):=by
 unfold Wt;split
 .exact Bw
 .exact#[rfl,show(_:Nat)<=60 by simp[PyData.depth]]
def D8:Qo ["row","words"] ["row"] (Q3 NG):=by walk_at"p"
def Zry(T:Bl mg)(C:CnT K mg w gC)(B:GV K mg "NoRow" cu)(dx:Df K mg "words_of" NG ["row"])(q:Q2 P w K mg base "are_numbers" Zah 2 (Q9 (K:=K) R_arenums)):Wh P w K mg base "words_of" ["row"] 3 (ZK K cu VI R_words X_words):=by
 refine dx.evZ D8 (λf H RR ts Y g h W A outer s y=>?_) (λf F H RR ts Y g X h W A outer s y=>?_)
 .have M:=y.units;cases h with
  |@mk x i E h=>
   refine#[_,(Qz (QW (Vp<|Vc<|Zo Kn (by rfl) T.isi WN<|av 0<|Qs (Jv (v:=.ty "str") rfl T.str Vi rfl) Qr) (Qy<|J1 B g<|Qs QK Qr) QV)
 (Qz (QZ 1 D8.nd<|ZL PySem.F.plainAttrs_str PySem.F.slot_str_split PySem.F.type_str_split UJ (pv 0)<|Qs QK Qr)
 (Qz (QW (PW.pt<|Uy (Zl (MJ M) (Ky C.k C.m (QH QI (pv 1) Qw) #[rfl,rfl,rfl,rfl]) (QJ Yl (Zo ZW (by rfl) T.len ZQ<|av 1 Qr) Qw)<|Zc _)<|UE<|Vp<|Vc<|Q7 q y<|Qs (Y6 YG (pv 1) (Y2 Qw) Y1) Qr) (Qy<|J1 B g<|Qs QK Qr) QV)
 (PSs.nox<|Qy<|QA<|pv 1)))),?_]
   walk_at"x";have n:=h.h5;have k:=h.l;refine Q4 (QS (b:=false) (Vh (b:=true)<|ZB<|Ku (a:=.str x) Qp) nf λ_=>QU ?_);refine Q4 (Vs (EvO.cast (G9 Qp QD (by decide +kernel)<|Xl (show x.length+2<=1002 by lia)<|by decide) (d':=.ol (.str i::Vr E))<|by rw[h.sp,Xv,XB];rfl) ?_);walk_at"d";refine Ww 1 rfl ?_;have e:(Vr E).length=E.length:=by simp[Vr]
   refine Q4 (QS (b:=false) (Wi (b:=false) (c:=false) (QN.cast (ZB<|Bk (Qq.cast (KM (x:=i)<|ZF Qp Qx<|ZI (j:=0) rfl) h.c) (Qq.cast (Z8 (VR Qp) Qx) (d':=.int (E.length:Int))<|by rw[XT,e];exact Xz PyData.int<|#[]) Bw Bw)<|by simp[PyData.eqv]) λ_=>Vh (b:=true)<|ZB<|QQ (Qv (Qq.cast (EvO.fz<|YD (ds:=.str i::Vr E) Qp (YH Qx) YI)<|by rw[Up]) Q1)<|R_arenums.mk h.n<|#[]) nf λ_=>QU ?_);exact Zh Qp rfl
 .have M:=y.units;cases h with
  |@no d h=>
   refine#[_,(Qz (QW (Vp<|Vc<|Zo Kn (by rfl) T.isi WN<|av 0<|Qs (Jv (v:=.ty "str") rfl T.str Vi rfl) Qr) (Qy<|J1 B g<|Qs QK Qr) QV)
 (Qz (QZ 1 D8.nd<|ZL PySem.F.plainAttrs_str PySem.F.slot_str_split PySem.F.type_str_split UJ (pv 0)<|Qs QK Qr)
 (Qz (QW (PW.pt<|Uy (Zl (MJ M) (Ky C.k C.m (QH QI (pv 1) Qw) #[rfl,rfl,rfl,rfl]) (QJ Yl (Zo ZW (by rfl) T.len ZQ<|av 1 Qr) Qw)<|Zc _)<|UE<|Vp<|Vc<|Q7 q y<|Qs (Y6 YG (pv 1) (Y2 Qw) Y1) Qr) (Qy<|J1 B g<|Qs QK Qr) QV)
 (PSs.nox<|Qy<|QA<|pv 1)))),?_]
   walk_at"x";exact Jo (Uu (b:=true) (Vh (b:=false)<|ZB<|Qq.cast (Ku Qp)<|by rw[h]) (λ_=>D3 QD trivial X) nt)
  |@bad x i m h=>
   refine#[_,(Qz (QW (Vp<|Vc<|Zo Kn (by rfl) T.isi WN<|av 0<|Qs (Jv (v:=.ty "str") rfl T.str Vi rfl) Qr) (Qy<|J1 B g<|Qs QK Qr) QV)
 (Qz (QZ 1 D8.nd<|ZL PySem.F.plainAttrs_str PySem.F.slot_str_split PySem.F.type_str_split UJ (pv 0)<|Qs QK Qr)
 (Qz (QW (PW.pt<|Uy (Zl (MJ M) (Ky C.k C.m (QH QI (pv 1) Qw) #[rfl,rfl,rfl,rfl]) (QJ Yl (Zo ZW (by rfl) T.len ZQ<|av 1 Qr) Qw)<|Zc _)<|UE<|Vp<|Vc<|Q7 q y<|Qs (Y6 YG (pv 1) (Y2 Qw) Y1) Qr) (Qy<|J1 B g<|Qs QK Qr) QV)
 (PSs.nox<|Qy<|QA<|pv 1)))),?_]
   walk_at"x";have k:=h.l;have l:=h.wd.n;refine W0 (QS (b:=false) (Vh (b:=true)<|ZB<|Ku (a:=.str x) Qp) nf λ_=>QU rfl) ?_;refine W0 (Vs (EvO.cast (G9 Qp QD (by decide +kernel)<|Xl (show x.length+2<=100002 by lia)<|by decide) (d':=.ol (.str i::m.map PyData.str))<|by rw[h.sp,Xv]) rfl) ?_;refine SM 1 rfl ?_;refine Jo (Uu (b:=true) ?_ (λ_=>D3 QD trivial X) nt);cases z:PyData.eqv (Wt WE i) (.int (m.length:Int)) with
   |false=>exact Wi (b:=true) (c:=true) (QN.cast (ZB<|Bk (KM (x:=i)<|ZF Qp Qx<|ZI (j:=0) rfl) (Qq.cast (Z8 (VR Qp) Qx) (d':=.int (m.length:Int))<|by rw[XT,Xf];exact Xz PyData.int<|#[]) (LR i) Bw)<|by rw[z];rfl) nt
   |true=>
    have Z:Ux m=false:=by have:=h.b;rw[z]at this;exact this
    exact Wi (b:=false) (c:=true) (QN.cast (ZB<|Bk (KM (x:=i)<|ZF Qp Qx<|ZI (j:=0) rfl) (Qq.cast (Z8 (VR Qp) Qx) (d':=.int (m.length:Int))<|by rw[XT,Xf];exact Xz PyData.int<|#[]) (LR i) Bw)<|by rw[z];rfl) (λ_=>Vh (b:=false)<|ZB<|Qq.cast (QQ (Qv (Qq.cast (EvO.fz<|YD (ds:=.str i::m.map PyData.str) Qp (YH Qx) YI) (d':=.list (m.map PyData.str))<|by rw[Up]) Q1)<|R_arenums.gen h.wd)<|by rw[Z])
inductive R_joined:List OT->OT->Prop
 | mk {ss:Qh}(h:ss.length<=8)(hl:∀x∈ss,x.length<=100):R_joined [.fz<|.list<|ss.map PyData.str] (.fz<|.str (if ss=[] then "-" else Str.join " " ss))
def ZpR:Qo Zbc Zbc (Q3 KR):=by walk_at"p"
def ZoH(T:Bl mg)(dx:Df K mg "joined" KR Zbc):Q2 P w K mg base "joined" Zbc 1 (Q9 (K:=K) R_joined):=by
 refine dx.ev ZpR (λf ts r h H j B A outer s C=>?_);cases h with
 |@mk g h i=>
  refine#[_,(Qy<|QA<|LF (Lr (pv 0) λ_=>rfl) (ZL PySem.F.plainAttrs_str PySem.F.slot_str_join PySem.F.type_str_join G0 QK<|av 0 Qr) QK),?_];walk_at"x";have e:(!(g.map PyData.str).isEmpty) = !decide (g=[]):=by cases g<;>simp
  refine Zh (Ab (b := !decide (g=[])) (QN.cast (TR Qp) e) (λc=>?_) λc=>?_) rfl
  .rw[Xg<|by simpa using c];refine G1 QD Qp ?_;have a:(g.map (·.length)).sum<=g.length*100:=by
    clear h e c;induction g with
    |nil=>simp
    |cons x r m=>
     have:=i x Xb;have:=m λy q=>i y (Xe _ q)
     simp only[Xv,US,XT];lia
   have b:Str.length " "=1:=rfl;lia
  .rw[Xi<|by simpa using c];exact QD
def gfS(f:Qn)(m:Nat):Qh:=((List.range m).filter λk=>decide (f k > 0)).map λ(k:Nat)=>nS (k:Int) ++ ":" ++ nS (f k)
inductive R_gans:List OT->(OT->Prop)->Prop
 | mk {f:Qn}{m:Nat}(l:m<=8)(h:∀k,k<m->N30 (f k)):R_gans [.zow<|DkZ<|gfD f m] (λr=>r=.fz (.str (if gfS f m=[] then "-" else Str.join " "<|gfS f m)))
def ZhV:Qo ["gifts"] ["gifts"] (Q3 DR):=by walk_at"p"
def ET(T:Bl mg)(dx:Df K mg "gifts_answer" DR ["gifts"])(E:Q2 P w K mg base "joined" Zbc 1 (Q9 (K:=K) R_joined)):Q2 P w K mg base "gifts_answer" ["gifts"] 2 (Zk K R_gans):=by
 refine dx.evD ZhV (λf ts r h H Z p A outer s e=>?_);cases h with
 |@mk f m l h=>
  refine#[_,(Qy<|QA<|Q7 E e<|Qs (V3 (NX:=["gifts"]) (sc:=Q3 DR) (N:=["number","gift"]) (f:=[none,none]) rfl (by decide +kernel) rfl rfl (VT<|Zs4 rfl (pv 0) rfl T.sorted Zpz) (λ_=>(Jn (n:=2) rfl (VQ (Zm 0 (show(["number","gift"]:Qh).Nodup by decide +kernel))<|VQ (Zm 1 (show(["number","gift"]:Qh).Nodup by decide +kernel)) Jw))) (λ_=>(MC (n:=2)<|JV ZN<|JV ZN MT)) (λ_=>V1) λ_=>(Ak (pv 0) QK<|pv 1)) Qr),?_];walk_at"x";generalize y:((List.range m).filter λk=>decide (f k > 0))=j;have B:∀k∈j,k<m:=λk g=>by
   rw[<- y]at g;exact X6.mp (GS.mp g).1
  have b:j.length<=8:=by
   rw[<- y];exact Xl (Ml _ _) (by simpa using l)
  have Y:(j.map λ(k:Nat)=>(k:Int)).Pairwise (· < ·):=by
   rw[List.pairwise_map,<- y];exact(List.pairwise_lt_range.imp λh=>#[]).filter _
  have C:gfD f m=j.map λ(k:Nat)=>((.inl (k:Int):Key),PyData.int<|f k):=by unfold gfD;rw[y]
  have o:gfS f m=j.map λ(k:Nat)=>nS (k:Int) ++ ":" ++ nS (f k):=by unfold gfS;rw[y]
  rw[o];have a:∀k∈j,(nS (k:Int)).length<=30/\(nS<|f k).length<=30:=λk g=>#[Yn<|Wq (by have:=B k g;lia),Yn<|h k<|B k g]
  have M:∀k∈j,(nS (k:Int) ++ ":" ++ nS (f k)).length<=61:=λk g=>by
   have:=a k g;rw[Str.length_append,Str.length_append];have:Str.length ":"=1:=rfl;lia
  have W:∀i:Int,N30 i->i.natAbs.log2<1920:=λi X=>Wy X.lo X.b;refine Zh (Qq.cast (QQ (Qv (Qq.cast (EvO.fz<|YC (xs:=j) (enc:=λ(k:Nat)=>PyData.tuple [.int (k:Int),.int<|f k]) (h:=λ(k:Nat)=>.str<|nS (k:Int) ++ ":" ++ nS (f k)) ?ei #[] ?el) (d':=.list ((j.map λ(k:Nat)=>nS (k:Int) ++ ":" ++ nS (f k)).map PyData.str))<|by rw[XB];rfl) Q1)<|R_joined.mk (by rw[Xf];exact b) λx d=>?ln) rfl) rfl
  case ei=>
   refine Yz (Qq.cast (Ow (is:=j.map λ(k:Nat)=>(k:Int)) rfl (by rw[C,XB,XB];rfl) Y<|by rw[C,Xf];lia)<|by rw[C,XB];rfl)
  case el=>
   intro k g c;refine#[_,Jh (Y3 Zv<|Y3 Zv JM) rfl,?_];have q:=M k g;exact Ap Qp Qp (W _<|Wq (by have:=B k g;lia)) (W _<|h k<|B k g) (Xl (show _<=61 by have q:(nS (k:Int) ++ ":" ++ nS (f k)).length<=61:=q;rw[Str.length_append]at q;exact Xl (Nat.le_add_right _ _) q)<|by decide) (Xl q<|by decide)
  case ln=>
   obtain⟨k,g,rfl⟩:=Xo.mp d;have:=M k g;lia
noncomputable def YQ(c:Qk):Str:=if c=[] then "-" else Str.join " " (c.map λ(k:Nat)=>nS (k:Int))
inductive R_ansZ(CH:Addr):List OT->(OT->Prop)->Prop
 | now {N:HandS}(h:N.now.natAbs.log2<1920):R_ansZ CH [.zow<|Zf CH N,.fz<|.str "now",.fz<|.tuple []] (λr=>r=.fz (.str<|nS N.now))
 | got {N:HandS}{k:Nat}{x:Int}(h:k<N.known.length)(hx:N.given[k]?=some x)(l:x.natAbs.log2<1920):R_ansZ CH [.zow<|Zf CH N,.fz<|.str "got",.fz<|.tuple [.int (k:Int)]] (λr=>r=.fz (.str<|nS x))
 | rest {N:HandS}{k:Nat}{z:Int}(h:U0 N k z)(l:z.natAbs.log2<1920):R_ansZ CH [.zow<|Zf CH N,.fz<|.str "rest",.fz<|.tuple [.int (k:Int)]] (λr=>r=.fz (.str<|nS z))
 | opn {N:HandS}(rs:Qn)(h:∀k,k<N.known.length->U0 N k (rs k))(l:N.known.length<=8):R_ansZ CH [.zow<|Zf CH N,.fz<|.str "open",.fz<|.tuple []] (λr=>r=.fz (.str<|YQ<|(List.range N.known.length).filter λk => !decide (rs k=0)))
def Ny:Qo Zac Zac (Q3 JX):=by walk_at"p"
def Ih(T:Bl mg)(q:HandC K CH)(dx:Df K mg "answer" JX Zac)(X:Z5 P w K mg base CH "now" Zal 1 (Zk K<|R_hnow CH))(W:ZS P w K mg base CH "got" Zaa 4 (YU K CQ "number" (R_hgot CH)<|X_hnum CH))(Z:ZS P w K mg base CH "rest" Zaa 4 (YU K CQ "number" (R_hrest CH)<|X_hnum CH))(M:Z5 P w K mg base CH "open_ones" Zal 5 (Zk K<|R_hopen CH))(Y:Q2 P w K mg base "joined" Zbc 1 (Q9 (K:=K) R_joined)):Q2 P w K mg base "answer" Zac 9 (Zk K<|R_ansZ CH):=by
 refine dx.evD Ny (λf ts t h H n p A outer s i=>?_);refine#[_,(Qz (QW (Zl Z0 (pv 1) QK<|Zc _) (Qy<|QA Wz) QV)
 (Qz (QW (Zl Z0 (pv 1) QK<|Zc _) (Qy<|QA Wz) QV)
 (Qz (QW (Zl Z0 (pv 1) QK<|Zc _) (Qy<|QA Wz) QV)
 (Qz (QW (Zl Z0 (pv 1) QK<|Zc _) (Qy<|QA<|ZJ V5 (by rfl) T.str Vi<|Qs (Yo W q i (YW (C:=CQ)) (pv 0)<|Qs (QH QI (pv 2) Qw) Qr) Qr) QV)
 (Qz (QW (Zl Z0 (pv 1) QK<|Zc _) (Qy<|QA<|ZJ V5 (by rfl) T.str Vi<|Qs (Yo Z q i (YW (C:=CQ)) (pv 0)<|Qs (QH QI (pv 2) Qw) Qr) Qr) QV)
 (Qz (QW (Zl Z0 (pv 1) QK<|Zc _) (Qy<|QA Wz) QV)
 (Qz (QW (Zl Z0 (pv 1) QK<|Zc _) (Qy<|QA<|Q7 Y i<|Qs (V3 (NX:=Zac) (sc:=Q3 JX) (N:=ZaD) (f:=[none]) rfl (by decide +kernel) rfl rfl (VT<|W4 M q i<|pv 0) (λ_=>(Zm 0 (show(ZaD:Qh).Nodup by decide +kernel))) (λ_=>ZN) (λ_=>V1) λ_=>(ZJ V5 (by rfl) T.str Vi<|av 0 Qr)) Qr) QV)
 (Qy<|QA<|ZJ V5 (by rfl) T.str Vi<|Qs (W4 X q i<|pv 0) Qr)))))))),?_]
 walk_at"x";cases h with
 |@now N h=>
  refine Q4 (QS (b:=false) (QN.cast (QY<|Z2 Qp QD)<|by decide +kernel) nf λ_=>QU ?_);refine Q4 (QS (b:=false) (QN.cast (QY<|Z2 Qp QD)<|by decide +kernel) nf λ_=>QU ?_);refine Q4 (QS (b:=false) (QN.cast (QY<|Z2 Qp QD)<|by decide +kernel) nf λ_=>QU ?_);refine Q4 (QS (b:=false) (QN.cast (QY<|Z2 Qp QD)<|by decide +kernel) nf λ_=>QU ?_);refine Q4 (QS (b:=false) (QN.cast (QY<|Z2 Qp QD)<|by decide +kernel) nf λ_=>QU ?_);refine Q4 (QS (b:=false) (QN.cast (QY<|Z2 Qp QD)<|by decide +kernel) nf λ_=>QU ?_);refine Q4 (QS (b:=false) (QN.cast (QY<|Z2 Qp QD)<|by decide +kernel) nf λ_=>QU ?_);exact Zh (Wp (Zr7 Ed rfl Q1 R_hnow.mk) h) rfl
 |@got N k x h B l=>
  refine Q4 (QS (b:=false) (QN.cast (QY<|Z2 Qp QD)<|by decide +kernel) nf λ_=>QU ?_);refine Q4 (QS (b:=false) (QN.cast (QY<|Z2 Qp QD)<|by decide +kernel) nf λ_=>QU ?_);refine Q4 (QS (b:=false) (QN.cast (QY<|Z2 Qp QD)<|by decide +kernel) nf λ_=>QU ?_);refine Q4 (QS (b:=true) (QN.cast (QY<|Z2 Qp QD)<|by decide +kernel) (λ_=>?_)<|by rintro⟨⟩);exact Zh (Wp (D4 Ep rfl (Qv (Vz (ds:=[.int (k:Int)]) Qp Qx rfl) Q1) (R_hgot.mk h B) Jt) l) rfl
 |@rest N k z h l=>
  refine Q4 (QS (b:=false) (QN.cast (QY<|Z2 Qp QD)<|by decide +kernel) nf λ_=>QU ?_);refine Q4 (QS (b:=false) (QN.cast (QY<|Z2 Qp QD)<|by decide +kernel) nf λ_=>QU ?_);refine Q4 (QS (b:=false) (QN.cast (QY<|Z2 Qp QD)<|by decide +kernel) nf λ_=>QU ?_);refine Q4 (QS (b:=false) (QN.cast (QY<|Z2 Qp QD)<|by decide +kernel) nf λ_=>QU ?_);refine Q4 (QS (b:=true) (QN.cast (QY<|Z2 Qp QD)<|by decide +kernel) (λ_=>?_)<|by rintro⟨⟩);exact Zh (Wp (D4 K6 rfl (Qv (Vz (ds:=[.int (k:Int)]) Qp Qx rfl) Q1) (R_hrest.mk h) Jt) l) rfl
 |@opn N a h l=>
  refine Q4 (QS (b:=false) (QN.cast (QY<|Z2 Qp QD)<|by decide +kernel) nf λ_=>QU ?_);refine Q4 (QS (b:=false) (QN.cast (QY<|Z2 Qp QD)<|by decide +kernel) nf λ_=>QU ?_);refine Q4 (QS (b:=false) (QN.cast (QY<|Z2 Qp QD)<|by decide +kernel) nf λ_=>QU ?_);refine Q4 (QS (b:=false) (QN.cast (QY<|Z2 Qp QD)<|by decide +kernel) nf λ_=>QU ?_);refine Q4 (QS (b:=false) (QN.cast (QY<|Z2 Qp QD)<|by decide +kernel) nf λ_=>QU ?_);refine Q4 (QS (b:=false) (QN.cast (QY<|Z2 Qp QD)<|by decide +kernel) nf λ_=>QU ?_);refine Q4 (QS (b:=true) (QN.cast (QY<|Z2 Qp QD)<|by decide +kernel) (λ_=>?_)<|by rintro⟨⟩);generalize E:((List.range N.known.length).filter λk => !decide (a k=0))=m;have o:m.length<=8:=by
   rw[<- E];exact Xl (Ml _ _) (by simpa using l)
  have y:∀k∈m,k<8:=λk g=>by
   rw[<- E]at g;have:=X6.mp (GS.mp g).1;lia
  refine Zh (d:=.str (YQ m)) (Qq.cast ((QQ (Qv (Qq.cast (EvO.fz<|YC (xs:=m) (enc:=λ(k:Nat)=>PyData.int (k:Int)) (h:=λ(k:Nat)=>.str<|nS (k:Int)) ?ei #[] ?el) (d':=.list ((m.map λ(k:Nat)=>nS (k:Int)).map PyData.str))<|by rw[XB];rfl) Q1)<|R_joined.mk (by rw[Xf];exact o) λx B=>?ln)) ?eq) ?_
  case ei=>exact Yz (EvO.fz<|Zu.o<|Zu.imp (Dl IZ rfl Q1<|R_hopen.mk a h<|#[]) λr e=>by rw[e,E];rfl)
  case el=>
   intro k g c;have:=y k g;refine#[_,Zv,?_];exact Wp Qp (by
    have:(k:Int).natAbs=k:=#[]
    rw[this];exact Mh (Nat.log2_le_self k)<|#[])
  case ln=>
   obtain⟨k,g,rfl⟩:=Xo.mp B;have:=y k g;have:∀j:Nat,j<8->(nS (j:Int)).length<=100:=by decide +kernel
   exact this k (y k g)
  case eq=>unfold YQ;simp
  rfl
inductive R_sayZ(CD CH:Addr):List OT->(OT->Prop)->Prop
 | mk {N:HandS}{x w:Str}{is:Ql}{Φ:OT->Prop}(h:RowW x w is)(a:R_ansZ CH [.zow<|Zf CH N,.fz<|.str w,.fz<|.tuple<|is.map PyData.int] Φ):R_sayZ CD CH [.zow<|InZ CD "hand"<|Zf CH N,.fz<|.str x] Φ
def GG:Qo ["self","row","words"] Zat (Q3 BU):=by walk_at"p"
def EK(T:Bl mg)(q:DeskC K CD)(dx:Mf K CD "say" "Desk.say" BU Zat)(i:Wh P w K mg base "words_of" ["row"] 3 (ZK K cu VI R_words X_words))(m:Q2 P w K mg base "numbers_of" Zah 1 (Q9 (K:=K) R_numsof))(g:Q2 P w K mg base "answer" Zac 9 (Zk K<|R_ansZ CH)):Z5 P w K mg base CD "say" Zat 10 (Zk K<|R_sayZ CD CH):=by
 refine dx.evD GG (λf ts y h H E W A outer s c=>?_);cases h with
 |@mk N x B M y h a=>
  refine#[_,(Qz (QZ 2 GG.nd<|UG i c (YW (C:=cu))<|av 1 Qr)
 (Qy<|QA<|Q7 g c<|Qs (Zg<|pv 0)<|Qs (QH QI (pv 2) Qw)<|Qs (Q7 m c<|Qs (Y6 YG (pv 2) (Y2 Qw) Y1) Qr) Qr)),?_]
  walk_at"x";have X:=h.h5;refine Q4 (Z3 (Na (Qv Qp Q1) (R_words.mk h) Jt) ?_);walk_at"d";exact Kz (Wk (TN q.cl q.hd rfl (Qv (ZF Qp Qx<|ZI (j:=0) rfl)<|Qv (QQ (Qv (Qq.cast (EvO.fz<|YD (ds:=.str B::Vr M) Qp (YH Qx) YI)<|by rw[Up]) Q1)<|R_numsof.mk h.n<|#[]) Q1)) a) (λr h=>h)
def PB{y:Yd}(g:∀x∈gs,G30 y x)(c:Jf y (QP<|mT n gs gv go) φ)(hn:n<y.T)(f:k<gs.length):N30 (Zs (QP<|mT n gs gv go) φ n k):=by
 obtain⟨a,b⟩:=c.1.tak (show k<(mT n gs gv go).length by rw[UB];exact f) hn;refine#[a,DX b ?_];unfold moT;split
 .show((mT n gs gv go).getD k default).most<10^30
  rw[SZ f];exact(g (gs.getD k default)<|by simp[f]).m
 .decide +kernel
noncomputable def gfT(f:Qn)(m:Nat):Str:=if gfS f m=[] then "-" else Str.join " " (gfS f m)
inductive R_ansT:HandS->List OT->(OT->HandS->Prop)->Prop
 |mk {y:Yd}{n:Nat}{gs:List Gs}{gv:Ql}{go:Qk}{ms:List Zw}(ok:y.Ok)(hg:∀x∈gs,G30 y x)(gl:gv.length=gs.length)(hn:n<y.T)(h0:∀k,k<gs.length->0<=rsT gs gv go k)(l:gs.length<=8)(ml:ms.length<=8):
  R_ansT (hT y n gs gv go ms) [.fz<|.str "turn",.fz<|.tuple []] (λr N'=>∃φ,Jf y (QP<|mT n gs gv go) φ/\r=.fz (.str<|gfT (Zs (QP<|mT n gs gv go) φ n) gs.length)/\N'=hT y (n+1) gs (gvT gv (Zs (QP<|mT n gs gv go) φ n) gs.length gs.length) go (ms++[gfD (Zs (QP<|mT n gs gv go) φ n) gs.length]))
def ZrN(T:Bl mg)(i:HandC K CH)(dx:Df K mg "answer" JX Zac)(E:Z5 P w K mg base CH "now" Zal 1 (Zk K<|R_hnow CH))(B:ZS P w K mg base CH "got" Zaa 4 (YU K CQ "number" (R_hgot CH)<|X_hnum CH))(X:ZS P w K mg base CH "rest" Zaa 4 (YU K CQ "number" (R_hrest CH)<|X_hnum CH))(q:Z5 P w K mg base CH "open_ones" Zal 5 (Zk K<|R_hopen CH))(W:Q2 P w K mg base "joined" Zbc 1 (Q9 (K:=K) R_joined))(m:Q2 P w K mg base "gifts_answer" ["gifts"] 2 (Zk K R_gans))(j:ZS P w K mg base CH "turn" Zal 7 (UV K CH ct VI R_hturn<|X_hturn CH)):Q2 P w K mg base "answer" Zac 9 (spP K (Zi CH) R_ansT):=by
 refine dx.evP Ny (λf v M ts D h H d z A outer s g=>?_);cases h with
 |@mk y n J I L G o Z gl Y x l p=>
  refine#[_,(Qz (QW (Zl Z0 (pv 1) QK<|Zc _) (Qy<|QA Wz) QV)
 (Qz (QW (Zl Z0 (pv 1) QK<|Zc _) (Qy<|QA<|Q7 m g<|Qs (Zq9 j i g (YW (C:=ct))<|pv 0) Qr) QV)
 (Qz (QW (Zl Z0 (pv 1) QK<|Zc _) (Qy<|QA Wz) QV)
 (Qz (QW (Zl Z0 (pv 1) QK<|Zc _) (Qy<|QA<|ZJ V5 (by rfl) T.str Vi<|Qs (Yo B i g (YW (C:=CQ)) (pv 0)<|Qs (QH QI (pv 2) Qw) Qr) Qr) QV)
 (Qz (QW (Zl Z0 (pv 1) QK<|Zc _) (Qy<|QA<|ZJ V5 (by rfl) T.str Vi<|Qs (Yo X i g (YW (C:=CQ)) (pv 0)<|Qs (QH QI (pv 2) Qw) Qr) Qr) QV)
 (Qz (QW (Zl Z0 (pv 1) QK<|Zc _) (Qy<|QA Wz) QV)
 (Qz (QW (Zl Z0 (pv 1) QK<|Zc _) (Qy<|QA<|Q7 W g<|Qs (V3 (NX:=Zac) (sc:=Q3 JX) (N:=ZaD) (f:=[none]) rfl (by decide +kernel) rfl rfl (VT<|W4 q i g<|pv 0) (λ_=>(Zm 0 (show(ZaD:Qh).Nodup by decide +kernel))) (λ_=>ZN) (λ_=>V1) λ_=>(ZJ V5 (by rfl) T.str Vi<|av 0 Qr)) Qr) QV)
 (Qy<|QA<|ZJ V5 (by rfl) T.str Vi<|Qs (W4 E i g<|pv 0) Qr)))))))),?_]
  walk_at"x";refine W1 (QS (b:=false) (QN.cast (QY<|Z2 Qp QD)<|by decide +kernel) nf λ_=>QU rfl) ?_;refine Kw (CY (b:=true) (QN.cast (QY<|Z2 Qp QD)<|by decide +kernel) (λ_=>?_) nt);refine Au Ik rfl Q1 (R_hturn.mk o Z gl Y x l p) Jt ?_;rintro r O ⟨a,u,c,rfl,rfl⟩;refine#[u,_,_,rfl,R_gans.mk l λk t=>PB Z c Y t,λF e=>#[_,_,e,rfl,_,#[a,c,rfl,rfl],rfl]]
inductive R_sayT:HandS->List OT->(OT->HandS->Prop)->Prop
 |mk {N:HandS}{x w:Str}{is:Ql}{Ψ:OT->HandS->Prop}(h:RowW x w is)(a:R_ansT N [.fz<|.str w,.fz<|.tuple<|is.map PyData.int] Ψ):R_sayT N [.fz<|.str x] Ψ
def OV(T:Bl mg)(y:DeskC K CD)(dx:Mf K CD "say" "Desk.say" BU Zat)(m:Wh P w K mg base "words_of" ["row"] 3 (ZK K cu VI R_words X_words))(q:Q2 P w K mg base "numbers_of" Zah 1 (Q9 (K:=K) R_numsof))(i:Q2 P w K mg base "answer" Zac 9 (spP K (Zi CH) R_ansT)):Z5 P w K mg base CD "say" Zat 10 (spP K (λN=>InP CD "hand"<|Zi CH N) R_sayT):=by
 refine dx.evP (Φ:=λN=>InP CD "hand"<|Zi CH N) GG (by intro _ _ _ h;cases h;rfl) (λf Y A outer s H W v M ts B g h=>?_);cases h with
 |@mk x E X B h a=>
  refine#[_,(Qz (QZ 2 GG.nd<|UG m g (YW (C:=cu))<|av 1 Qr)
 (Qy<|QA<|Q7 i g<|Qs (Zg<|pv 0)<|Qs (QH QI (pv 2) Qw)<|Qs (Q7 q g<|Qs (Y6 YG (pv 2) (Y2 Qw) Y1) Qr) Qr)),?_]
  walk_at"x";have b:=h.h5;refine W1 (Z3 (Na (Qv (Qp rfl) Q1) (R_words.mk h) Jt) rfl) ?_;exact ZqT y.cl y.hd rfl (Qv (ZF (Qp rfl) Qx<|ZI (j:=0) rfl)<|Qv (QQ (Qv (Qq.cast (EvO.fz<|YD (ds:=.str E::Vr X) (Qp rfl) (YH Qx) YI)<|by rw[Up]) Q1)<|R_numsof.mk h.n<|#[]) Q1) a (λr Z c=>#[Z,c,rfl])
inductive X_bans(CH:Addr):List OT->(Unit->Prop)->Prop
 |mk {y:Yd}{N:HandS}{l t b:Int}(hy:N.yard=Zd y)(h:(decide (l>=(y.ls.length:Int))||decide (t>=(y.T:Int)))=true):X_bans CH [.zow<|Zf CH N,.fz<|.int l,.fz<|.int t,.fz<|.int b] (λ_=>True)
def Cp:Qo ["hand","line","turn","bound","yard"] Zax (Q3 RE):=by walk_at"p"
def Im(T:Bl mg)(X:HandC K CH)(W:GV K mg "NoRow" cu)(dx:Df K mg "bound_answer" RE Zax)(m:Z5 P w K mg base CH "yard_now" Zal 1 (spY CH))(q:Q2 P w K mg base "line_count" ZaC 1 (Q9 (K:=K) R_count))(B:Q2 P w K mg base "turns_of" ZaC 1 (Q9 (K:=K) R_turns)):Wh P w K mg base "bound_answer" Zax 3 (ZK K cu VI (λ_ _=>False)<|X_bans CH):=by
 refine dx.evZ Cp (λf H RR ts C g h j A outer s i=>h.elim) (λf F H RR ts C g M h j A outer s i=>?_) (λ_ _ h=>h.elim);cases h with
 |@mk y N l t b E h=>
  refine#[_,(Qz (QZ 4 Cp.nd<|W4 m X i<|pv 0)
 (Qz (QW (PW.pt<|Uy (Zl SC (pv 1) (Q7 q i<|av 4 Qr)<|Zc _)<|UE<|Zl SC (pv 2) (Q7 B i<|av 4 Qr)<|Zc _) (Qy<|J1 W g<|Qs QK Qr) QV)
 (Qz (Zz Wz)
 (PSs.nox<|Qy<|QA QK)))),?_]
  walk_at"x";refine W0 (Z3 (Zrw EA rfl E) rfl) ?_;refine Jo (Uu (b:=true) ?_ (λ_=>D3 QD trivial M) nt);cases z:decide (l>=(y.ls.length:Int)) with
  |true=>exact Wi (b:=true) (c:=true) (QN.cast (QY<|VN (Qp rfl)<|QQ (Qv (Qp rfl) Q1) R_count.mk) z) nt
  |false=>
   rw[z]at h;exact Wi (b:=false) (c:=true) (QN.cast (QY<|VN (Qp rfl)<|QQ (Qv (Qp rfl) Q1) R_count.mk) z) (λ_=>QN.cast (QY<|VN (Qp rfl)<|QQ (Qv (Qp rfl) Q1) R_turns.mk) h)
inductive X_ans(CH:Addr):List OT->(Unit->Prop)->Prop
 | mk {N:HandS}{l t b:Int}{Φ:Unit->Prop}(h:X_bans CH [.zow<|Zf CH N,.fz<|.int l,.fz<|.int t,.fz<|.int b] Φ):X_ans CH [.zow<|Zf CH N,.fz<|.str "bound",.fz<|.tuple [.int l,.int t,.int b]] Φ
def ZrQ(T:Bl mg)(i:HandC K CH)(dx:Df K mg "answer" JX Zac)(B:Z5 P w K mg base CH "now" Zal 1 (Zk K<|R_hnow CH))(y:ZS P w K mg base CH "got" Zaa 4 (YU K CQ "number" (R_hgot CH)<|X_hnum CH))(M:ZS P w K mg base CH "rest" Zaa 4 (YU K CQ "number" (R_hrest CH)<|X_hnum CH))(q:Z5 P w K mg base CH "open_ones" Zal 5 (Zk K<|R_hopen CH))(E:Q2 P w K mg base "joined" Zbc 1 (Q9 (K:=K) R_joined))(m:Wh P w K mg base "bound_answer" Zax 3 (ZK K cu VI (λ_ _=>False)<|X_bans CH)):Wh P w K mg base "answer" Zac 9 (ZK K cu VI (λ_ _=>False)<|X_ans CH):=by
 refine dx.evZ Ny (λf H RR ts W c h j A outer s g=>h.elim) (λf F H RR ts W c X h j A outer s g=>?_) (λ_ _ h=>h.elim);cases h with
 |@mk N l t b W h=>
  refine#[_,(Qz (QW (Zl Z0 (pv 1) QK<|Zc _) (Qy<|QA Wz) QV)
 (Qz (QW (Zl Z0 (pv 1) QK<|Zc _) (Qy<|QA Wz) QV)
 (Qz (QW (Zl Z0 (pv 1) QK<|Zc _) (Qy<|QA Wz) QV)
 (Qz (QW (Zl Z0 (pv 1) QK<|Zc _) (Qy<|QA<|ZJ V5 (by rfl) T.str Vi<|Qs (Yo y i g (YW (C:=CQ)) (pv 0)<|Qs (QH QI (pv 2) Qw) Qr) Qr) QV)
 (Qz (QW (Zl Z0 (pv 1) QK<|Zc _) (Qy<|QA<|ZJ V5 (by rfl) T.str Vi<|Qs (Yo M i g (YW (C:=CQ)) (pv 0)<|Qs (QH QI (pv 2) Qw) Qr) Qr) QV)
 (Qz (QW (Zl Z0 (pv 1) QK<|Zc _) (Qy<|QA<|UG m g (Wv c)<|av 0<|Qs (QH QI (pv 2) Qw)<|Qs (QH QI (pv 2) Qw)<|Qs (QH QI (pv 2) Qw) Qr) QV)
 (PSs.nox (Qz (QW (Zl Z0 (pv 1) QK<|Zc _) (Qy<|QA<|Q7 E g<|Qs (V3 (NX:=Zac) (sc:=Q3 JX) (N:=ZaD) (f:=[none]) rfl (by decide +kernel) rfl rfl (VT<|W4 q i g<|pv 0) (λ_=>(Zm 0 (show(ZaD:Qh).Nodup by decide +kernel))) (λ_=>ZN) (λ_=>V1) λ_=>(ZJ V5 (by rfl) T.str Vi<|av 0 Qr)) Qr) QV)
 (Qy<|QA<|ZJ V5 (by rfl) T.str Vi<|Qs (W4 B i g<|pv 0) Qr))))))))),?_]
  walk_at"x";refine W0 (QS (b:=false) (QN.cast (QY<|Z2 (Qp rfl) QD)<|by decide +kernel) nf λ_=>QU rfl) ?_;refine W0 (QS (b:=false) (QN.cast (QY<|Z2 (Qp rfl) QD)<|by decide +kernel) nf λ_=>QU rfl) ?_;refine W0 (QS (b:=false) (QN.cast (QY<|Z2 (Qp rfl) QD)<|by decide +kernel) nf λ_=>QU rfl) ?_;refine W0 (QS (b:=false) (QN.cast (QY<|Z2 (Qp rfl) QD)<|by decide +kernel) nf λ_=>QU rfl) ?_;refine W0 (QS (b:=false) (QN.cast (QY<|Z2 (Qp rfl) QD)<|by decide +kernel) nf λ_=>QU rfl) ?_;refine Jo (Uu (b:=true) (QN.cast (QY<|Z2 (Qp rfl) QD)<|by decide +kernel) (λ_=>?_) nt);have e:∀{Z:Zcs} {k:Int} {d:PyData},Z[2]?=some (zf<|.tuple [.int l,.int t,.int b])->atI [PyData.int l,.int t,.int b] k=some d->Qq K (tOp (rIx K) (QF 2)<|tC<|.int k) Z d:=λa Y=>Vz (Qp a) Qx Y;exact Tm bkN (MQ rfl (Qv (e rfl rfl)<|Qv (e rfl rfl)<|Qv (e rfl rfl) Q1)) h c X
inductive X_say(CD CH:Addr):List OT->(Unit->Prop)->Prop
 | w {N:HandS}{d:PyData}{Φ:Unit->Prop}(h:X_words [.fz d] Φ):X_say CD CH [.zow<|InZ CD "hand"<|Zf CH N,.fz d] Φ
 | a {N:HandS}{x w:Str}{is:Ql}{Φ:Unit->Prop}(h:RowW x w is)(a:X_ans CH [.zow<|Zf CH N,.fz<|.str w,.fz<|.tuple<|is.map PyData.int] Φ):X_say CD CH [.zow<|InZ CD "hand"<|Zf CH N,.fz<|.str x] Φ
def ZrS(T:Bl mg)(E:DeskC K CD)(dx:Mf K CD "say" "Desk.say" BU Zat)(y:Wh P w K mg base "words_of" ["row"] 3 (ZK K cu VI R_words X_words))(B:Q2 P w K mg base "numbers_of" Zah 1 (Q9 (K:=K) R_numsof))(q:Wh P w K mg base "answer" Zac 9 (ZK K cu VI (λ_ _=>False)<|X_ans CH)):ZS P w K mg base CD "say" Zat 10 (ZK K cu VI (λ_ _=>False)<|X_say CD CH):=by
 refine dx.evZ GG (λf H RR ts i c h m A outer s g=>h.elim) (λf F H RR ts i c C h m A outer s g=>?_) (λ_ _ h=>h.elim);refine#[_,(Qz (QZ 2 GG.nd<|UG y g (Wv c)<|av 1 Qr)
 (Qy<|QA<|UG q g (Wv c)<|Qs (Zg<|pv 0)<|Qs (QH QI (pv 2) Qw)<|Qs (Q7 B g<|Qs (Y6 YG (pv 2) (Y2 Qw) Y1) Qr) Qr)),?_]
 walk_at"x";cases h with
 |@w N d i h=>exact Jo (Ix bkN (Qv (Qp rfl) Q1) h c C)
 |@a N x M W i h a=>
  have X:=h.h5;refine W0 (Z3 (Na (Qv (Qp rfl) Q1) (R_words.mk h) c) rfl) ?_;exact Tm bkN (TN E.cl E.hd rfl (Qv (ZF (Qp rfl) Qx<|ZI (j:=0) rfl)<|Qv (QQ (Qv (Qq.cast (EvO.fz<|YD (ds:=.str M::Vr W) (Qp rfl) (YH Qx) YI)<|by rw[Up]) Q1)<|R_numsof.mk h.n<|#[]) Q1)) a c C
noncomputable def rT:Qh:=["come 0 0 0 1 1","turn","leave 0","got 0","rest 0","bound 0 0 1","open","now"]
def rW(i:Nat):Qh:=Txt.split (rT.getD i Str.empty) " "
noncomputable def tT:Qh:=[" ", " 1","\n"," -", "."]
noncomputable def xT:Qh:=["00","01","-1","1.", "a",V9 49 31, "+1","1a","#"]
noncomputable def sT0:Qh:=["", "-", "turns","come","leave","bound 0 0","got","rest 0 0","close 0","0"]
noncomputable def sT1:Qh:=[Str.ofString "leave " ++ V9 57 5000,Str.ofString "come 0 0 0 1 " ++ V9 57 5000]
noncomputable def nT:Qd:=[.none,.int 7,.list [.str "turn"],.tuple [.str "now"],.bool true,.dict []]
noncomputable def Jd(x:Str):Bool:=decide (x.length<=10000)&&match Txt.split x " " with
 |[]=>false
 |w::c=>decide (c.length<=100)&&(c.all λz=>z.cps.all (· < 128)&&decide (z.length<=10000)) && !(PyData.eqv (Wt WE w) (.int (c.length:Int))&&Ux c)
noncomputable def U8(l t:Int):Str:=Str.join #[(List.toArray [32])] ["bound",nS l,nS t, "1"]
inductive BadR(y:Yd):PyData->Prop
 | no {d:PyData}(h:(tyD d == "str")=false):BadR y d
 |tx {x w:Str}{ws:Qh}(h:RowN x w ws):BadR y (.str x)
 |bd {l t:Int}(hl:N30 l)(ht:N30 t)(h:(decide (l>=(y.ls.length:Int))||decide (t>=(y.T:Int)))=true):BadR y (.str<|U8 l t)
def Gp{y:Yd}(h:Jd x=true):BadR y (.str x):=by
 unfold Jd at h;simp only[WB,decide_eq_true_eq]at h;obtain⟨i,h⟩:=h;cases e:Txt.split x " " with
 |nil=>rw[e]at h;cases h
 |cons w f=>
  rw[e]at h;simp only[WB,decide_eq_true_eq,J6]at h;exact .tx #[e,Xl i<|by decide,#[h.1.1,λz c=>(h.1.2 z c).1,λz c=>Xl (h.1.2 z c).2 (by decide)],by have g:=h.2;cases z:(PyData.eqv (Wt WE w) (.int (f.length:Int))&&Ux f) with|false=>rfl|true=>rw[z]at g;cases g]
def CB:∀i:Nat,i<8->∀j:Nat,j<5->Jd (rT.getD i Str.empty++tT.getD j Str.empty)=true:=by decide +kernel
def C6:∀i:Nat,i<8->∀k:Nat,k<6->Jd (Str.join " "<|(rW i).take k++[Str.empty]++(rW i).drop k)=true:=by decide +kernel
def C4:∀i:Nat,i<8->Jd (Txt.upper #[(List.toArray [(rT.getD i Str.empty).cps.toList.getD 0 0])]++Gj (rT.getD i Str.empty) 1)=true:=by decide +kernel
def CF:∀j:Nat,j<10->Jd (sT0.getD j Str.empty)=true:=by decide +kernel
def C9:∀i:Nat,i<8->∀j:Nat,j<9->Jd (rT.getD i Str.empty ++ " " ++ xT.getD j Str.empty)=true:=by decide +kernel
def C2:∀i:Nat,i<8->∀j:Nat,j<9->∀k:Nat,k+1<(rW i).length->Jd (Str.join " "<|(rW i).take (k+1)++[xT.getD j Str.empty]++(rW i).drop (k+2))=true:=by
 have:∀i:Nat,i<8->∀j:Nat,j<9->∀k:Nat,k<6->k+1<(rW i).length->Jd (Str.join " "<|(rW i).take (k+1)++[xT.getD j Str.empty]++(rW i).drop (k+2))=true:=by decide +kernel
 intro i c j g k f;have h:∀i:Nat,i<8->(rW i).length<=6:=by decide +kernel
 exact this i c j g k (by have:=h i c;lia) f
def Ag:∀i:Nat,i<8->1<=(rW i).length/\(rW i).length<=6/\(rT.getD i Str.empty).length<=14/\1<=(rT.getD i Str.empty).length/\(∀w∈rW i,w.length<=10):=by decide +kernel
def C1:Jb (V9 57 5000)=false:=by
 unfold Jb JA;rw[XD (show ¬((V9 57 5000).length:Int)<=30 by show ¬(((List.replicate 5000 57).toArray.size:Nat):Int)<=30;rw[Xr,List.length_replicate];decide)];simp
def Du(c n:Nat):(V9 c n).length=n:=by show(List.replicate n c).toArray.size=n;simp
def Sj{y:Yd}{w:Str}{ws:Qh}(h0:∀p∈w::ws,p.length<=10/\∀c∈p.cps.toList,c≠32/\c<128)(i:ws.length<=4):BadR y (.str<|Str.join #[(List.toArray [32])] (w::(ws++[V9 57 5000]))):=by
 have h:∀c∈(V9 57 5000).cps.toList,c=57:=λc g=>by
  have g:c∈List.replicate 5000 57:=g;exact List.eq_of_mem_replicate g
 refine .tx (w:=w) (ws:=ws++[V9 57 5000]) #[?_,?_,#[?_,λp f=>?_,λp f=>?_],?_]
 .rw[Ka];refine Dw (by simp) λp f g=>?_;rw[<- J4]at f;rcases Xq.mp f with f|f
  .exact((h0 p f).2 32 g).1 rfl
  .rw[Xj.mp f]at g;have:=h 32 g;lia
 .rw[Wc];have q:=GA (sep:=(#[(List.toArray [32])]:Str)) (B:=5000) (ws++[V9 57 5000]) w λp f=>by
   rcases Xq.mp f with f|f
   .have:=(h0 p<|Xe _ f).1;lia
   .rw[Xj.mp f,Du];lia
  have m:(ws++[V9 57 5000]).length*(Str.length #[(List.toArray [32])]+5000)<=5*5001:=Nat.mul_le_mul (by rw[Xp,GN];lia) (by decide);have j:=(h0 w Xb).1;lia
 .rw[Xp,GN];lia
 .rcases Xq.mp f with f|f
  .exact M7 λc g=>((h0 p<|Xe _ f).2 c g).2
  .rw[Xj.mp f];exact M7 λc g=>by rw[h c g];decide
 .rcases Xq.mp f with f|f
  .have:=(h0 p<|Xe _ f).1;lia
  .rw[Xj.mp f,Du];decide
 .unfold Ux;rw[List.all_append];simp[C1]
def Pp{c:Type}(xs:List c)(k:Nat)(f:k<=xs.length):cut xs none (some ((k:Nat):Int))=xs.take k:=by
 unfold cut;rw[HT.sIx_nat,Nat.min_eq_left f];rfl
def Dq{l:Qh}(h:j<l.length):(l.map PyData.str)[j]?=some (.str<|l.getD j Str.empty):=by
 rw[Xy,XS h];simp[h]
def Em{y:Yd}(c:j<2):BadR y (.str<|sT1.getD j Str.empty):=by
 have g:Str.ofString "leave " ++ V9 57 5000=Str.join #[(List.toArray [32])] ("leave" :: ([]++[V9 57 5000])):=by
  rw[show Str.ofString "leave "=Str.ofString "leave" ++ (#[(List.toArray [32])]:Str) by decide +kernel];rfl
 have f:Str.ofString "come 0 0 0 1 " ++ V9 57 5000=Str.join #[(List.toArray [32])] ("come" :: ((["0","0","0","1"]:Qh)++[V9 57 5000])):=by
  rw[show Str.ofString "come 0 0 0 1 "=Vx #[(List.toArray [32])] "come" ["0","0","0","1"]++(#[(List.toArray [32])]:Str) by decide +kernel,Wc,Zpk]
 match j,c with
 |0,_=>
  show BadR y (.str<|Str.ofString "leave " ++ V9 57 5000);rw[g];exact Sj (w := "leave") (ws:=[]) (by decide +kernel) (by decide)
 |1,_=>
  show BadR y (.str<|Str.ofString "come 0 0 0 1 " ++ V9 57 5000);rw[f];exact Sj (w := "come") (ws:=["0","0","0","1"]) (by decide +kernel) (by decide)
def M8{w:Str}(h:(WE.find? λp=>p.1==w)=some (w,n)):Wt WE w=.int n:=by
 unfold Wt;rw[h]
def Ey(j:N30 l)(h:N30 t):RowW (U8 l t) "bound" [l,t,1]:=by
 have f:∀p∈([Str.ofString "bound",nS l,nS t,Str.ofString "1"]:Qh),32∉p.cps.toList:=λp g=>by
  simp only[Xc,XJ,or_false]at g;rcases g with rfl|rfl|rfl|rfl
  .decide +kernel
  .exact Gz (c:=32) j.lo (by decide)
  .exact Gz (c:=32) h.lo (by decide)
  .decide +kernel
 refine#[?_,?_,M8 (n:=3)<|by decide +kernel,λi m=>?_,by show(3:Nat)<=5;decide]
 .rw[Ka];exact(Dw (by simp) f).trans (by rw[show Str.ofString "1"=nS 1 by decide +kernel];rfl)
 .unfold U8;rw[Wc];have q:=GA (sep:=(#[(List.toArray [32])]:Str)) (B:=30) [nS l,nS t, "1"] "bound" λp g=>by
   simp only[Xc,XJ,or_false]at g;rcases g with rfl|rfl|rfl
   .exact Yn j
   .exact Yn h
   .decide
  exact Xl q (by show(5:Nat)+3*(1+30)<=1000;decide)
 .simp only[Xc,XJ,or_false]at m;rcases m with rfl|rfl|rfl
  .exact j
  .exact h
  .exact#[by decide,by decide +kernel]
inductive R_lrow:List OT->(OT->Prop)->Prop
 |mk {c:Int}{y:Yd}(ok:y.Ok)(h0:0<=c):R_lrow [.fz<|.int c,.fz<|Zd y] (λr=>∃d,r=.fz d/\BadR y d)
def Ub:Qo ["_law_cell","_law_yard_here","_law_row_here","_law_words","_law_way","_law_at","_law_some","_law_bad"] Zay (Q3 NP):=by walk_at"p"
def ER(T:Bl mg)(dx:Df K mg "_law_row" NP Zay):Q2 P w K mg base "_law_row" Zay 1 (Zk K R_lrow):=by
 refine dx.evD Ub (λf ts Φ h H O cdv A outer s hr=>?_);cases h with
 |@mk c y F h0=>
  refine#[_,(Qz (QZ 2 Ub.nd<|QH QI (B9<|Z9 QK (Z9 QK (Z9 QK (Z9 QK (Z9 QK (Z9 QK (Z9 QK (Z9 QK Bz ZC) ZC) ZC) ZC) ZC) ZC) ZC) ZC)<|QJ VD (pv 0) Qw)
 (Qz (QZ 3 Ub.nd<|ZL PySem.F.plainAttrs_str PySem.F.slot_str_split PySem.F.type_str_split UJ (pv 2)<|Qs QK Qr)
 (Qz (QZ 4 Ub.nd<|QJ VD (QJ YM (pv 0) Qw) Qw)
 (Qz (QZ 5 Ub.nd<|QJ VD (QJ YM (pv 0) Qw)<|Zo ZW (by rfl) T.len ZQ<|av 3 Qr)
 (Qz (QW (Zl Z0 (pv 4) Qw<|Zc _) (Qy<|QA<|QJ VE (pv 2)<|QH QI (B9<|Z9 QK (Z9 QK (Z9 QK (Z9 QK (Z9 QK Bz ZC) ZC) ZC) ZC) ZC)<|QJ VD (QJ YM (pv 0) Qw) Qw) QV)
 (Qz (QW (Zl Z0 (pv 4) Qw<|Zc _) (Qy<|QA<|ZL PySem.F.plainAttrs_str PySem.F.slot_str_join PySem.F.type_str_join G0 QK<|Qs (QJ U9 (QJ U9 (Y6 YG (pv 3) Y1<|Y2<|pv 5)<|ZM<|Qs QK Qr)<|Y6 YG (pv 3) (Y2<|pv 5) Y1) Qr) QV)
 (Qz (QW (Zl Z0 (pv 4) Qw<|Zc _) (Qy<|QA<|QJ VE (AQ PySem.F.plainAttrs_str PySem.F.slot_str_upper PySem.F.type_str_upper ZrW<|QH HW (pv 2) Qw)<|Y6 IH (pv 2) (Y2 Qw) Y1) QV)
 (Qz (QW (Zl Z0 (pv 4) Qw<|Zc _) (Qz (QZ 6 Ub.nd<|B9<|Z9 QK (Z9 QK (Z9 QK (Z9 QK (Z9 QK (Z9 QK (Z9 QK (Z9 QK (Z9 QK (Z9 QK Bz ZC) ZC) ZC) ZC) ZC) ZC) ZC) ZC) ZC) ZC)
 (Qy<|QA<|QH QI (QJ U9 (pv 6)<|ZM<|Qs (QJ VE QK<|QJ KA QK Qw)<|Qs (QJ VE QK<|QJ KA QK Qw) Qr)<|QJ VD (QJ YM (pv 0) Qw) Qw)) QV)
 (Qz (QW (Zl Z0 (pv 4) Qw<|Zc _) (Qy<|QA<|QJ VE (QJ VE QK<|ZJ V5 (by rfl) T.str Vi<|Qs (QJ V0 (Zo ZW (by rfl) T.len ZQ<|Qs (QH QI (pv 1) Qw) Qr)<|QJ VD (QJ YM (pv 0) Qw)<|QJ Go Qw Qw) Qr) QK) QV)
 (Qz (QW (Zl Z0 (pv 4) Qw<|Zc _) (Qy<|QA<|QJ VE (QJ VE QK<|ZJ V5 (by rfl) T.str Vi<|Qs (QJ V0 (QH QI (pv 1) Qw)<|QJ VD (QJ YM (pv 0) Qw)<|QJ Go Qw Qw) Qr) QK) QV)
 (Qz (QW (Zl Z0 (pv 4) Qw<|Zc _) (Qy<|QA<|QH QI (B9<|Z9 MP (Z9 Qw (Z9 (ZM<|Qs QK Qr) (Z9 (Yv<|Qs QK Qr) (Z9 YA (Z9 ZrJ Bz Iu) ZC) Zrx) IM) ZC) ZC)<|QJ VD (QJ YM (pv 0) Qw) Qw) QV)
 (Qz (QZ 7 Ub.nd<|QH QI (B9<|Z9 QK (Z9 QK (Z9 QK (Z9 QK (Z9 QK (Z9 (QJ KA QK Qw) (Z9 QK (Z9 QK (Z9 QK Bz ZC) ZC) ZC) OR) ZC) ZC) ZC) ZC) ZC)<|QJ VD (QJ YM (pv 0) Qw) Qw)
 (Qz (QW (Zl Z0 (Zo ZW (by rfl) T.len ZQ<|av 3 Qr) Qw<|Zc _) (Qy<|QA<|QJ VE (QJ VE (pv 2) QK)<|pv 7) QV)
 (Qz (QZ 5 Ub.nd<|QJ V0 Qw<|QJ VD (QJ YM (pv 0) Qw)<|QJ Yl (Zo ZW (by rfl) T.len ZQ<|av 3 Qr) Qw)
 (Qy<|QA<|ZL PySem.F.plainAttrs_str PySem.F.slot_str_join PySem.F.type_str_join G0 QK<|Qs (QJ U9 (QJ U9 (Y6 YG (pv 3) Y1<|Y2<|pv 5)<|ZM<|av 7 Qr)<|Y6 YG (pv 3) (Y2<|QJ V0 (pv 5) Qw) Y1) Qr))))))))))))))),?_]
  show QE K _ [_,_,_,_,_,_,_,_] _
  walk_at"x";have d8:∀{i:Int},WJ i 8:=Uo (by decide) (by decide);have C:∀{i:Int},WJ i 72:=Uo (by decide) (by decide);have a:∀{i:Int},WJ i 648:=Uo (by decide) (by decide);obtain⟨i,E,ei⟩:∃i:Nat,i<8/\c%8=(i:Int):=⟨(c%8).toNat,#[],#[]⟩;obtain⟨r1,r2,t,N,o⟩:=Ag i E;refine Q4 (Z3 (d:=.str (rT.getD i Str.empty)) (ZF (EvO.fz<|ZY (ds:=rT.map PyData.str) (QO QD<|QO QD<|QO QD<|QO QD<|QO QD<|QO QD<|QO QD<|QO QD Z4)<|by show(8:Nat)<=1000;decide) (Qq.cast (Zy Qp Qx<|by decide)<|Xz PyData.int ei)<|ZI<|Dq E) ?_);walk_at"d";have J:(rT.getD i Str.empty).length<=sizeLine:=Xl t (by decide);refine Q4 (Vs (r:=.ol ((rW i).map PyData.str)) (G9 (x:=rT.getD i Str.empty) (y := " ") Qp QD (by decide +kernel)<|Xl (show(rT.getD i Str.empty).length+2<=16 by lia)<|by decide) ?_);walk_at"d";refine Ww 3 rfl ?_;walk_at"d";refine Q4 (Z3 (Zy (Zy Qp Qx d8) Qx<|by decide) ?_);walk_at"d";have M:((rW i).map PyData.str).length=(rW i).length:=Xf _;obtain⟨k,R,ek⟩:∃k:Nat,k<(rW i).length/\c/72%((rW i).length:Int)=(k:Int):=⟨(c/72%((rW i).length:Int)).toNat,by
   have:=UO (c/72) (show(0:Int)<((rW i).length:Int) by lia);have:=WZ (c/72) (show((rW i).length:Int)≠0 by lia);lia,by
   have:=WZ (c/72) (show((rW i).length:Int)≠0 by lia);lia⟩
  refine Q4 (Z3 (d:=.int (k:Int)) (Qq.cast (Zy (Zy Qp Qx C) (Qq.cast (VR Qp) (d':=.int ((rW i).length:Int))<|by rw[M])<|by show(0:Int)<_;lia)<|Xz PyData.int ek) ?_);walk_at"d";have u:0<=c/8%9/\c/8%9<9:=#[]
  generalize c/8%9=X at u;refine Q4 (QS (QN.cast (QY<|Yc Qp Qx) rfl) (λz=>?_) λz=>QU ?_)
  .obtain⟨j,B,W⟩:∃j:Nat,j<5/\c/72%5=(j:Int):=⟨(c/72%5).toNat,#[],#[]⟩
   refine Zh (d:=.str (rT.getD i Str.empty++tT.getD j Str.empty)) (VF Qp (ZF (EvO.fz<|ZY (ds:=tT.map PyData.str) (QO QD<|QO QD<|QO QD<|QO QD<|QO QD Z4)<|by show(5:Nat)<=1000;decide) (Qq.cast (Zy (Zy Qp Qx C) Qx<|by decide)<|Xz PyData.int W)<|ZI<|Dq B) ?_) #[_,rfl,Gp<|CB i E j B];have:∀j:Nat,j<5->(tT.getD j Str.empty).length<=10:=by decide +kernel
   exact Xl (XI t<|this j B) (by decide)
  have I:∀{ps:Qh},ps.length<=8->(∀p∈ps,p.length<=31)->(ps.map (·.length)).sum+ps.length*Str.length " " <= 16777216:=λh1 U=>KF (n:=8) U (by decide) h1 (by decide);have z1:¬X=0:=by simpa using z
  clear z;refine Q4 (QS (QN.cast (QY<|Yc Qp Qx) rfl) (λz=>?_) λz=>QU ?_)
  .refine Zh (d:=.str (Str.join " "<|(rW i).take k++[Str.empty]++(rW i).drop k)) (G1 QD (Qq.cast (EvO.fz<|U3 (as:=((rW i).take k++[Str.empty]).map PyData.str) (bs:=((rW i).drop k).map PyData.str) (Qq.cast (EvO.fz<|U3 (as:=((rW i).take k).map PyData.str) (bs:=[.str Str.empty]) (Qq.cast (EvO.fz<|YD Qp YI<|YH Qp)<|by rw[Pp _ _<|by rw[M];lia,List.map_take]) (EvO.fz<|ZY (ds:=[.str Str.empty]) (QO QD Z4) Ul)<|by simp;lia)<|by rw[Xx];rfl) (Qq.cast (EvO.fz<|YD Qp (YH Qp) YI)<|by rw[Dk _ _<|by rw[M];lia,List.map_drop])<|by simp;lia)<|by rw[<- Xx])<|I (by simp;lia) λp g=>?_) #[_,rfl,Gp<|C6 i E k<|#[]];rcases Xq.mp g with g|g
   .rcases Xq.mp g with g|g
    .have:=o p (List.mem_of_mem_take g);lia
    .rw[Xj.mp g];decide
   .have:=o p (List.mem_of_mem_drop g);lia
  have z2:¬X=1:=by simpa using z
  clear z;refine Q4 (QS (QN.cast (QY<|Yc Qp Qx) rfl) (λz=>?_) λz=>QU ?_)
  .have S:atI (rT.getD i Str.empty).cps.toList 0=some ((rT.getD i Str.empty).cps.toList.getD 0 0):=by
    have:∀i:Nat,i<8->atI (rT.getD i Str.empty).cps.toList 0=some ((rT.getD i Str.empty).cps.toList.getD 0 0):=by decide +kernel
    exact this i E
   have v:(Txt.upper #[(List.toArray [(rT.getD i Str.empty).cps.toList.getD 0 0])]).length<=10/\(Gj (rT.getD i Str.empty) 1).length<=20:=by
    have:∀i:Nat,i<8->(Txt.upper #[(List.toArray [(rT.getD i Str.empty).cps.toList.getD 0 0])]).length<=10/\(Gj (rT.getD i Str.empty) 1).length<=20:=by decide +kernel
    exact this i E
   exact Zh (VF (Oo (L4 Qp Qx J S)<|Xl v.1<|by decide) (Zs0 (n:=1) Qp Qx N J)<|Xl (XI v.1 v.2)<|by decide) #[_,rfl,Gp<|C4 i E]
  have z3:¬X=2:=by simpa using z
  clear z;refine Q4 (QS (QN.cast (QY<|Yc Qp Qx) rfl) (λz=>?_) λz=>QU ?_)
  .refine Q4 (Vs (ZY (ds:=sT0.map PyData.str) (QO QD<|QO QD<|QO QD<|QO QD<|QO QD<|QO QD<|QO QD<|QO QD<|QO QD<|QO QD Z4)<|by show(10:Nat)<=1000;decide) ?_);walk_at"d";refine Ww 6 rfl ?_;walk_at"d";obtain⟨j,B,W⟩:∃j:Nat,j<12/\c/72%12=(j:Int):=⟨(c/72%12).toNat,#[],#[]⟩;refine Zh (d:=.str ((sT0++sT1).getD j Str.empty)) (ZF (Qq.cast (EvO.fz<|U3 (as:=sT0.map PyData.str) (bs:=sT1.map PyData.str) Qp (EvO.fz<|ZY (ds:=sT1.map PyData.str) (QO (VF QD (K3 (c:=57) (n:=5000) (Qq.cast QD<|Xz PyData.str (show Str.ofString "9"=#[(List.toArray [57])] by decide +kernel)) Qx (by decide)<|by decide)<|by rw[Du];decide)<|QO (VF QD (K3 (c:=57) (n:=5000) (Qq.cast QD<|Xz PyData.str (show Str.ofString "9"=#[(List.toArray [57])] by decide +kernel)) Qx (by decide)<|by decide)<|by rw[Du];decide) Z4) Su)<|by show(12:Nat)<=1000;decide)<|by rw[<- Xx]) (Qq.cast (Zy (Zy Qp Qx C) Qx<|by decide)<|Xz PyData.int W)<|ZI<|Dq B) #[_,rfl,?_]
   by_cases q:j<10
   .have e:(sT0++sT1).getD j Str.empty=sT0.getD j Str.empty:=by
     rw[GO,Uh (show j<sT0.length from q),<- GO]
    rw[e];exact Gp (CF j q)
   .have e:(sT0++sT1).getD j Str.empty=sT1.getD (j-10) Str.empty:=by
     rw[GO,GP (show sT0.length<=j by show 10<=j;lia),<- GO];rfl
    rw[e];exact Em #[]
  have z4:¬X=3:=by simpa using z
  clear z;have g:GZ 10 20:=#[by decide,by decide,by decide];obtain⟨m,m0,m1,em⟩:∃m:Int,0<=m/\m<10^20/\c/72%(10^(20:Int).toNat)=m:=⟨_,WZ _<|by decide,UO _<|by decide,rfl⟩;have l5:=F.l5;have t8:=F.t8;have l:∀k:Nat,k<=8->N30 ((k:Int)+m):=λk R=>#[#[],UR (show(k:Int)+m<10^20+9 by lia)<|by decide +kernel];have G:N30 0:=#[by decide,by decide +kernel];have L:∀{Z:Zcs},Z[0]?=some (zi c)->Qq K (tOp (rI (λ_ j=>0<j) λi j=>.int<|i%j) (tOp (rI WJ λi j=>.int<|i/j) (QF 0)<|tC<|.int 72)<|tOp (rI GZ λi j=>.int<|i^j.toNat) (tC<|.int 10)<|tC<|.int 20) Z (.int m):=λe=>Qq.cast (Zy (Zy (Qp e) Qx C) (Zy Qx Qx g)<|by decide) (Xz PyData.int em);refine Q4 (QS (QN.cast (QY<|Yc Qp Qx) rfl) (λz=>?_) λz=>QU ?_)
  .have b:=l y.ls.length #[];refine Zh (d:=.str (U8 ((y.ls.length:Int)+m) 0)) (Qq.cast (VF (VF QD (Wp (Z8 (Qq.cast (B5<|Vz (Qp rfl) Qx (d:=.tuple (y.ls.map Vj)) rfl)<|by rw[Xf])<|L rfl)<|Wy b.lo b.b) ?_) QD ?_)<|Xz PyData.str ?_) #[_,rfl,.bd b G<|by simp;lia]
   .exact Xl (XI (show _<=6 by decide)<|Yn b) (by decide)
   .rw[Str.length_append];exact Xl (XI (XI (show _<=6 by decide)<|Yn b) (show _<=4 by decide)) (by decide)
   .unfold U8;rw[Wc];show(Str.ofString "bound " ++ nS _)++Str.ofString " 0 1"=_;rw[show Str.ofString "bound "=Str.ofString "bound" ++ (#[(List.toArray [32])]:Str) by decide +kernel,show Str.ofString " 0 1"=(#[(List.toArray [32])]:Str)++nS 0++(#[(List.toArray [32])]:Str)++Str.ofString "1" by decide +kernel];simp only[W8,Vx,List.foldl,Str.append_assoc]
  have z5:¬X=4:=by simpa using z
  clear z;refine Q4 (QS (QN.cast (QY<|Yc Qp Qx) rfl) (λz=>?_) λz=>QU ?_)
  .have b:=l y.T #[];refine Zh (d:=.str (U8 0<|(y.T:Int)+m)) (Qq.cast (VF (VF QD (Wp (Z8 (Vz (Qp rfl) Qx (d:=.int (y.T:Int)) rfl)<|L rfl)<|Wy b.lo b.b) ?_) QD ?_)<|Xz PyData.str ?_) #[_,rfl,.bd G b<|by simp;lia]
   .exact Xl (XI (show _<=8 by decide)<|Yn b) (by decide)
   .rw[Str.length_append];exact Xl (XI (XI (show _<=8 by decide)<|Yn b) (show _<=2 by decide)) (by decide)
   .unfold U8;rw[Wc];show(Str.ofString "bound 0 " ++ nS _)++Str.ofString " 1"=_;rw[show Str.ofString "bound 0 "=Str.ofString "bound" ++ (#[(List.toArray [32])]:Str)++nS 0++(#[(List.toArray [32])]:Str) by decide +kernel,show Str.ofString " 1"=(#[(List.toArray [32])]:Str)++Str.ofString "1" by decide +kernel];simp only[W8,Vx,List.foldl,Str.append_assoc]
  have z6:¬X=5:=by simpa using z
  clear z;refine Q4 (QS (QN.cast (QY<|Yc Qp Qx) rfl) (λz=>?_) λz=>QU ?_)
  .obtain⟨j,B,W⟩:∃j:Nat,j<6/\c/72%6=(j:Int):=⟨(c/72%6).toNat,#[],#[]⟩
   refine Zh (d:=nT.getD j .none) (ZF (EvO.fz<|ZY (ds:=nT) (QO JN<|QO Qx<|QO (EvO.fz<|ZY (ds:=[.str "turn"]) (QO QD Z4) Ul)<|QO (YE (ds:=[.str "now"]) (QO QD Z4) Ul)<|QO WK<|QO El Z4)<|by show(6:Nat)<=1000;decide) (Qq.cast (Zy (Zy Qp Qx C) Qx<|by decide)<|Xz PyData.int W)<|ZI ?_) #[_,rfl,.no ?_]
   .have B:j<nT.length:=B;rw[XS B];simp[B]
   .have:∀j:Nat,j<6->(tyD (nT.getD j .none) == "str")=false:=by decide +kernel
    exact this j B
  clear z;obtain⟨j,B,W⟩:∃j:Nat,j<9/\c/72%9=(j:Int):=⟨(c/72%9).toNat,#[],#[]⟩
  have Y:(xT.getD j Str.empty).length<=31:=by
   have:∀j:Nat,j<9->(xT.getD j Str.empty).length<=31:=by decide +kernel
   exact this j B
  refine Q4 (Z3 (d:=.str (xT.getD j Str.empty)) (ZF (EvO.fz<|ZY (ds:=xT.map PyData.str) (QO QD<|QO QD<|QO QD<|QO QD<|QO QD<|QO (K3 (c:=49) (n:=31) (Qq.cast QD<|Xz PyData.str (show Str.ofString "1"=#[(List.toArray [49])] by decide +kernel)) Qx (by decide)<|by decide)<|QO QD<|QO QD<|QO QD Z4)<|by show(9:Nat)<=1000;decide) (Qq.cast (Zy (Zy Qp Qx C) Qx<|by decide)<|Xz PyData.int W)<|ZI<|Dq B) ?_);walk_at"d";refine Q4 (QS (QN.cast (QY<|Yc (Qq.cast (VR Qp) (d':=.int ((rW i).length:Int))<|by rw[M]) Qx) rfl) (λz=>?_) λz=>QU ?_)
  .refine Zh (d:=.str (rT.getD i Str.empty ++ " " ++ xT.getD j Str.empty)) (VF (VF Qp QD<|Xl (XI t (show _<=1 by decide))<|by decide) Qp ?_) #[_,rfl,Gp<|C9 i E j B];rw[Str.length_append];exact Xl (XI (XI t (show _<=1 by decide)) Y) (by decide)
  have z7:¬((rW i).length:Int)=1:=by simpa using z
  clear z;have D:(0:Int)<((rW i).length:Int)-1:=#[]
  obtain⟨q,Q,eq⟩:∃q:Nat,q+1<(rW i).length/\c/648%(((rW i).length:Int)-1)=(q:Int):=⟨(c/648%(((rW i).length:Int)-1)).toNat,by
   have:=UO (c/648) D;have:=WZ (c/648) (show((rW i).length:Int)-1≠0 by lia);lia,by
   have:=WZ (c/648) (show((rW i).length:Int)-1≠0 by lia);lia⟩
  refine Q4 (Z3 (d:=.int ((q+1:Nat):Int)) (Qq.cast (Z8 Qx<|Qq.cast (Zy (Zy Qp Qx a) (Z8 (Qq.cast (VR Qp) (d':=.int ((rW i).length:Int))<|by rw[M]) Qx) D)<|Xz PyData.int eq)<|Xz PyData.int<|#[]) ?_);walk_at"d";refine Zh (d:=.str (Str.join " "<|(rW i).take (q+1)++[xT.getD j Str.empty]++(rW i).drop (q+2))) (G1 QD (Qq.cast (EvO.fz<|U3 (as:=((rW i).take (q+1)++[xT.getD j Str.empty]).map PyData.str) (bs:=((rW i).drop (q+2)).map PyData.str) (Qq.cast (EvO.fz<|U3 (as:=((rW i).take (q+1)).map PyData.str) (bs:=[.str<|xT.getD j Str.empty]) (Qq.cast (EvO.fz<|YD Qp YI<|YH Qp)<|by rw[Pp _ _<|by rw[M];lia,List.map_take]) (EvO.fz<|ZY (ds:=[.str<|xT.getD j Str.empty]) (QO Qp Z4) Ul)<|by simp;lia)<|by rw[Xx];rfl) (Qq.cast (EvO.fz<|YD Qp (YH<|Qq.cast (Z8 Qp Qx) (d':=.int ((q+2:Nat):Int))<|Xz PyData.int<|#[]) YI)<|by rw[Dk _ _<|by rw[M];lia,List.map_drop])<|by simp;lia)<|by rw[<- Xx])<|I (by simp;lia) λp g=>?_) #[_,rfl,Gp<|C2 i E j B q Q];rcases Xq.mp g with g|g
  .rcases Xq.mp g with g|g
   .have:=o p (List.mem_of_mem_take g);lia
   .rw[Xj.mp g];exact Y
  .have:=o p (List.mem_of_mem_drop g);lia
def IJ:Str.ofString "line "=Str.ofString "line" ++ Str.ofString " " := by decide +kernel
def Zr2:Str.ofString "guest "=Str.ofString "guest" ++ Str.ofString " " := by decide +kernel
def Ex:Str.ofString "yard "=Str.ofString "yard" ++ Str.ofString " " := by decide +kernel
def Zpx(h:l.bs≠[]):Str.ofString "line " ++ sD (upT l.up)++Str.ofString " " ++ Str.join " " (l.bs.map nS)=Vn l:=by
 unfold Vn Je lnD;cases e:l.bs with
 |nil=>exact Xu e h
 |cons b r=>
  rw[Xv,Wc,<- DD,IJ,Xv,XB,Xv,W8,W8];rfl
def Zom(g:Gs):Str.ofString "guest " ++ Str.join " " ((gsD g).map sD)=VC g:=by
 unfold VC Je gsD;rw[Xv,Wc,<- DD,Zr2,W8]
def Zoz(y:Yd):Str.ofString "yard " ++ nS (y.T:Int)=ZdY y:=by
 rw[Ex];rfl
def Od(h:Qq K ta Z d)(c:SOk d):Qq K (tCB Bm<|QM ta QT) Z (.str<|sD d):=by
 cases c with
 |int g f=>exact Wp h (Wy g f)
 |str _=>exact Iq h
def RS{B:Nat}(h:ps.length<=9)(c:∀p∈ps,p.length<=300):(ps.map (·.length)).sum+ps.length*Str.length " " <= 16777216:=KF (B:=300) (n:=9) c (by decide) h (by decide)
def SL(h:ps.length<=9)(c:∀p∈ps,p.length<=300):(Str.join " " ps).length<=3100:=by
 cases ps with
 |nil=>exact XN _
 |cons a r=>
  rw[Wc];have j:=GA (sep := " ") (B:=300) r a λx f=>c x (Xe _ f);have i:=c a Xb;have g:r.length*(Str.length " " + 300)<=8*301:=Nat.mul_le_mul (by simp at h;lia) (by decide)
  lia
inductive R_ltext:List OT->OT->Prop
 |mk {y:Yd}{gs:List Gs}(hy:YdT y)(hb:∀l∈y.ls,l.bs≠[])(hg:∀g∈gs,GsT g)(hn:gs.length<=8):R_ltext [.fz<|Zd y,.fz<|.list<|gs.map QX] (.fz<|.str<|W3 y gs)
def UN:Qo Zad Zaw (Q3 BT):=by walk_at"p"
def OI(T:Bl mg)(dx:Df K mg "_law_text" BT Zaw):Q2 P w K mg base "_law_text" Zaw 1 (Q9 (K:=K) R_ltext):=by
 refine dx.ev UN (λf ts r h H G I A outer s L=>?_);cases h with
 |@mk y j M C F O=>
  refine#[_,(Qz (QZ 2 UN.nd<|ZM<|Qs (QJ VE QK<|ZJ V5 (by rfl) T.str Vi<|Qs (QH QI (pv 0) Qw) Qr) Qr)
 (Qz (Vu zN rfl (by exact(Bp<|QH QI (pv 0) Qw)) (Jn (n:=2) rfl (VQ (Zm 3 UN.nd)<|VQ (Zm 4 UN.nd) Jw)) (by exact(Qz (QZ 5 UN.nd QK)
 (Qz (QW (JO<|TB<|pv 3) (Qy<|QZ 5 UN.nd<|ZJ V5 (by rfl) T.str Vi<|av 3 Qr) QV)
 (Qy<|Zz<|ZL zP zS zT Yg (pv 2)<|Qs (QJ VE (QJ VE (QJ VE QK<|pv 5) QK)<|ZL PySem.F.plainAttrs_str PySem.F.slot_str_join PySem.F.type_str_join G0 QK<|Qs (V3 (NX:=Zad) (sc:=Q3 BT) (N:=["_law_bound"]) (f:=[none]) rfl (by decide +kernel) rfl rfl (Bp<|pv 4) (λ_=>(Zm 0 (show(["_law_bound"]:Qh).Nodup by decide +kernel))) (λ_=>ZN) (λ_=>V1) λ_=>(ZJ V5 (by rfl) T.str Vi<|av 0 Qr)) Qr) Qr)))))
 (Qz (Vu zN rfl (by exact(VT<|pv 1)) (Zm 6 UN.nd)<|by exact(Qy<|Zz<|ZL zP zS zT Yg (pv 2)<|Qs (QJ VE QK<|ZL PySem.F.plainAttrs_str PySem.F.slot_str_join PySem.F.type_str_join G0 QK<|Qs (V3 (NX:=Zad) (sc:=Q3 BT) (N:=["_law_number"]) (f:=[none]) rfl (by decide +kernel) rfl rfl (Bp<|pv 6) (λ_=>(Zm 0 (show(["_law_number"]:Qh).Nodup by decide +kernel))) (λ_=>ZN) (λ_=>V1) λ_=>(ZJ V5 (by rfl) T.str Vi<|av 0 Qr)) Qr) Qr))
 (Qy<|QA<|ZL PySem.F.plainAttrs_str PySem.F.slot_str_join PySem.F.type_str_join G0 QK<|av 2 Qr)))),?_]
  show QE K _ [_,_,_,_,_,_,_] _
  walk_at"x";have J:=M.n;refine Q4 (Vs (ZY (ds:=[.str<|ZdY y]) (QO (Qq.cast (VF QD (Wp (i:=(y.T:Int)) (Vz (Qp rfl) Qx rfl)<|Wy #[]<|JU M.t)<|Xl (XI (show _<=5 by decide)<|MK #[]<|JU M.t)<|by decide)<|Xz PyData.str<|Zoz y) Z4) Ul) ?_);walk_at"d";refine Q4 (G2 (ds:=y.ls.map Vj) (λi=>[zf<|Zd y,zf<|.list<|j.map QX,some<|.ol<|(ZdY y::(y.ls.take i).map Vn).map PyData.str,none,none,none,none]) ?ei #[rfl,rfl,rfl,trivial] ?st ?fin)
  case ei=>exact Gn (Vz (Qp rfl) Qx rfl)
  case st=>
   intro i d X;have E:i<y.ls.length:=by
    have:=(Xh.mp X).1;simpa using this
   obtain rfl:d=Vj y.ls[i]:=by simpa [E] using X.symm
   have D:=X7 E;have k:y.ls.take (i+1)=y.ls.take i++[y.ls[i]]:=by rw[Ud];simp[E]
   have m:=M.ls _ D;have W:=C _ D;have x:(ZdY y::(y.ls.take<|i+1).map Vn).map PyData.str=(ZdY y::(y.ls.take i).map Vn).map PyData.str++[.str<|Vn y.ls[i]]:=by rw[k,Xx,<- J4,Xx];rfl
   rw[x];have v:((ZdY y::(y.ls.take i).map Vn).map PyData.str).length<=100:=by simp;lia
   generalize (ZdY y::(y.ls.take i).map Vn).map PyData.str=z at v;generalize y.ls[i]=l at m W;have Q:=m.ln;have o:(sD<|upT l.up).length<=300:=Kk (m.ok _ Xb);refine#[_,Jh (Y3 Zv<|Y3 Zv JM) rfl,?_];walk_at"d";refine Q4 (Z3 QD ?_);walk_at"d";have rest:∀{dx:PEnds} {t:TS},(dx.nx [zf<|Zd y,zf<|.list<|j.map QX,some<|.ol z,zf<|upD l.up,zf<|.tuple<|l.bs.map PyData.int,zf<|.str<|sD<|upT l.up,none])->QE K (Uq (Gi<|HH<|QF 3) (V2 (tCB Bm<|QM (QF 3) QT)<|Yb 5) Bc) [zf<|Zd y,zf<|.list<|j.map QX,some<|.ol z,zf<|upD l.up,zf<|.tuple<|l.bs.map PyData.int,zf<|.str "-",none] dx:=λ{dx t} h=>by
    cases e:l.up with
    |none=>
     rw[e]at h;exact QS (b:=false) (QN.cast (QY<|MS<|Qp rfl) rfl) nf (λ_=>QU h)
    |some a=>
     rw[e]at h;exact QS (b:=true) (QN.cast (QY<|MS<|Qp rfl) rfl) (λ_=>Z3 (Wp (i:=(a:Int)) (Qp rfl)<|Wy #[]<|JU<|m.up a e) h) nt
   refine Q4 (rest (t:=Bc) ?_);have Y:∀p∈l.bs.map nS,p.length<=300:=λp q=>by
    obtain⟨b,C,rfl⟩:=Xo.mp q;exact MK (m.bs b C).1 (m.bs b C).2
   refine JR rfl (Qq.cast (VF (VF (VF QD (Qp rfl) ?l1) QD ?l2) (G1 (ys:=l.bs.map nS) QD (Qq.cast (EvO.fz<|YC (xs:=l.bs) (enc:=PyData.int) (h:=λb=>.str<|nS b) ?ei2 #[] ?el)<|by rw[XB];rfl)<|RS (B:=0) (by rw[Xf];lia) Y) ?l3)<|Xz PyData.str<|Zpx W) #[] ?_
   case l1=>exact Xl (XI (show _<=5 by decide) o) (by decide)
   case l2=>
    rw[Str.length_append];exact Xl (XI (XI (show _<=5 by decide) o) (show _<=1 by decide)) (by decide)
   case l3=>
    rw[Str.length_append,Str.length_append];exact Xl (XI (XI (XI (show _<=5 by decide) o) (show _<=1 by decide))<|SL (by rw[Xf];lia) Y) (by decide)
   case ei2=>exact Gn (Qp rfl)
   case el=>
    intro b C c;exact#[_,Zv,Wp (Qp rfl)<|Wy (m.bs b C).1 (m.bs b C).2]
   exact#[rfl,rfl,rfl,trivial]
  case fin=>
   intro Z u;refine Gu u ?_;rw[Xf,J5];refine Q4 (G2 (ds:=j.map QX) (λi=>[zf<|Zd y,zf<|.list<|j.map QX,some<|.ol<|(ZdY y::(y.ls.map Vn++(j.take i).map VC)).map PyData.str,none,none,none,none]) ?ei3 #[rfl,rfl,by simp,trivial] ?st3 ?fin3)
   case ei3=>exact Yz (Qp rfl)
   case st3=>
    intro i d X;have E:i<j.length:=by
     have:=(Xh.mp X).1;simpa using this
    obtain rfl:d=QX j[i]:=by simpa [E] using X.symm
    have k:j.take (i+1)=j.take i++[j[i]]:=by rw[Ud];simp[E]
    have m:=F _ (X7 E);have x:(ZdY y::(y.ls.map Vn++(j.take<|i+1).map VC)).map PyData.str=(ZdY y::(y.ls.map Vn++(j.take i).map VC)).map PyData.str++[.str<|VC j[i]]:=by rw[k,Xx (f:=VC),<- GT,<- J4,Xx (f:=PyData.str)];rfl
    rw[x];have v:((ZdY y::(y.ls.map Vn++(j.take i).map VC)).map PyData.str).length<=100:=by simp;lia
    generalize (ZdY y::(y.ls.map Vn++(j.take i).map VC)).map PyData.str=z at v;generalize j[i]=g at m;have Y:∀p∈(gsD g).map sD,p.length<=300:=λp q=>by
     obtain⟨b,C,rfl⟩:=Xo.mp q;exact Kk (m.ok b C)
    refine#[_,Zv,?_];walk_at"d";refine JR rfl (Qq.cast (VF QD (G1 (ys:=(gsD g).map sD) QD (Qq.cast (EvO.fz<|YC (xs:=gsD g) (enc:=id) (h:=λd=>.str<|sD d) ?ei4 (by show(5:Nat)<=1000;decide) ?el4)<|by rw[XB];rfl)<|RS (B:=0) (by rw[Xf];show(5:Nat)<=9;decide) Y) ?l4)<|Xz PyData.str<|Zom g) #[] ?_
    case l4=>exact Xl (XI (show _<=6 by decide)<|SL (by rw[Xf];show(5:Nat)<=9;decide) Y) (by decide)
    case ei4=>exact EvI.cast (Gn<|Qp rfl) (List.map_id<|gsD g).symm
    case el4=>
     intro b C c;exact#[_,Zv,Od (Qp rfl)<|m.ok b C]
    exact#[rfl,rfl,rfl,trivial]
   case fin3=>
    intro Z u;refine Gu u ?_;rw[Xf,J5];refine Ww 2 rfl ?_;walk_at"d";refine Zh (Qq.cast (G1 (ys:=ZdY y::(y.ls.map Vn++j.map VC)) QD (Qp rfl)<|KF (B:=3100) (n:=14) (λp q=>?_) (by decide) (by simp;lia)<|by decide)<|Xz PyData.str<|Wc _ _ _) rfl;rcases Xc.mp q with rfl|q
    .exact Nw M
    .rcases Xq.mp q with q|q
     .obtain⟨l,m,rfl⟩:=Xo.mp q;exact N0 (M.ls l m)
     .obtain⟨g,m,rfl⟩:=Xo.mp q;exact NO (F g m)
def An{y:Yd}  (c:N.yard=Zd y)(h:BadR y d):X_say CD CH [.zow<|InZ CD "hand"<|Zf CH N,.fz d] (λ_=>True):=by
 cases h with
 |no h=>exact .w (.no h)
 |tx h=>exact .w (.bad h)
 |bd g f h=>exact .a (Ey g f) (.mk<|.mk c h)
inductive R_lref(CD CH:Addr):List OT->(OT->Prop)->Prop
 | mk {y:Yd}{N:HandS}{d:PyData}(hy:N.yard=Zd y)(h:BadR y d):R_lref CD CH [.zow<|InZ CD "hand"<|Zf CH N,.fz d] (λr=>r=.fz (.bool true))
def FN:Y8 (.list [.bool true,.bool true,.bool false]):=#[rfl,by decide]
def BZ:Qo ["_law_desk","_law_row_here","_law_marks","e","_law_others"] ZaB (Q3 RF):=by walk_at"p"
def Ir(T:Bl mg)(o:DeskC K CD)(c:Cv K mg YR cu q1 q2 q3 q4 q5 q6)(dx:Df K mg "_law_refused" RF ZaB)(m:ZS P w K mg base CD "say" Zat 10 (ZK K cu VI (λ_ _=>False)<|X_say CD CH)):Q2 P w K mg base "_law_refused" ZaB 11 (Zk K<|R_lref CD CH):=by
 refine dx.evD BZ (λf ts r h H M l A outer s B=>?_);have Z:=B.units;cases h with
 |@mk y N d Y h=>
  refine#[_,(Qz (QZ 2 BZ.nd<|ZM Qr)
 (Qz (Zpw (j:=3) c.em rfl rfl rfl c.my BZ.nd rfl (.inl rfl) (λdx W=>(Qy<|Zz<|UI m o.cl B ZoR (pv 0)<|av 1 Qr)) (λe W=>(Qz (QZ 4 BZ.nd<|Zo (show ZE _ (.builtin "isinstance") (HP K cu) from IW c.is) (by rfl) T.isi WN<|av 3<|Qs (Yv<|Qs (Wn (v:=.ref _) rfl c.m1 rfl) (Qs (Wn (v:=.ref _) rfl c.m2 rfl) (Qs (Wn (v:=.ref _) rfl c.m3 rfl) (Qs (Wn (v:=.ref _) rfl c.m4 rfl) (Qs (Wn (v:=.ref _) rfl c.m5 rfl) (Qs (Wn (v:=.ref _) rfl c.m6 rfl) Qr Gx) Gx) Gx) Gx) Gx) Gx) Qr)
 (Qy<|QZ 2 BZ.nd<|ZM<|Qs (P3 c.is T.isi<|av 3<|Qs (Wn (v:=.ref _) rfl c.m0 rfl) Qr)<|Qs (P3 c.is T.isi<|av 3<|Qs (Jv (v:=.ty "ValueError") rfl T.ValueError Zja rfl) Qr)<|av 4 Qr))))
 (Qy<|QA<|Wo (As Z) (pv 2) (ZM<|Qs YA<|Qs YA<|Qs YA Qr)<|Zc _))),?_]
  show QE K _ [zz<|InZ CD "hand"<|Zf CH N,zf d,none,none,none] _
  walk_at"x";refine Q4 (Vs (ZY (ds:=[]) Z4<|by decide) ?_);walk_at"d";apply Q4;apply ZqP (C:=cu) (n:=5) (j:=3) (λ_=>True) (by decide)
  case hz=>
   intro E' F0 H0 F O U x St X;exact OO bkN (i:=0) (F0:=F) (H0:=U) (by decide +kernel) rfl (Qv (Qp rfl) Q1) (An Y h) Zo9 (λp q e g d b E a k=>X p q e g d b E a k) (Q5.refl St.sub) St
  case hth=>
   intro e;dsimp only[List.set,List.replicate];refine Q4 (Z3 (d:=.bool false) (E9 (cs:=[q1,q2,q3,q4,q5,q6]) rfl (by show(6:Nat)<=1000;decide) c.ka) ?_);walk_at"d";refine Vs (ZY (ds:=[.bool true,.bool true,.bool false]) (QO (Pv rfl rfl c.k1)<|QO (Pv rfl rfl c.k2)<|QO (Qp rfl) Z4)<|by show(3:Nat)<=1000;decide) ?_;walk_at"d";refine Ww 2 rfl ?_;walk_at"d";exact Zh (SS (Qp rfl) (EvO.fz<|ZY (ds:=[.bool true,.bool true,.bool false]) (QO WK<|QO WK<|QO WK Z4)<|by show(3:Nat)<=1000;decide) FN FN) rfl
def Bg:∀k:Nat,k<8->Txt.split (Str.ofString "got " ++ nS (k:Int)) " "=Str.ofString "got" :: [nS (k:Int)]/\Txt.split (Str.ofString "rest " ++ nS (k:Int)) " "=Str.ofString "rest" :: [nS (k:Int)]/\(nS (k:Int)).length<=1:=by decide +kernel
def EX{k:Nat}(h:k<8):RowW (Str.ofString "got " ++ nS (k:Int)) "got" [(k:Int)]:=by
 refine#[(Bg k h).1,?_,M8 (n:=1)<|by decide +kernel,λi c=>?_,by show(1:Nat)<=5;decide]
 .rw[Str.length_append];exact Xl (XI (show _<=4 by decide) (Bg k h).2.2) (by decide)
 .rw[Xj.mp c];exact Wq #[]
def ZrB{k:Nat}(h:k<8):RowW (Str.ofString "rest " ++ nS (k:Int)) "rest" [(k:Int)]:=by
 refine#[(Bg k h).2.1,?_,M8 (n:=1)<|by decide +kernel,λi c=>?_,by show(1:Nat)<=5;decide]
 .rw[Str.length_append];exact Xl (XI (show _<=5 by decide) (Bg k h).2.2) (by decide)
 .rw[Xj.mp c];exact Wq #[]
def HM(h:Txt.split x " "=[x])(l:x.length<=1000)(c:(WE.find? λp=>p.1==x)=some (x,0)):RowW x x []:=#[h,l,M8 (n:=0) c,λ_ z=>(nomatch z),XN _]
def Iy:RowW "now" "now" []:=HM (by decide +kernel) (by decide) (by decide +kernel)
def LI:RowW "open" "open" []:=HM (by decide +kernel) (by decide) (by decide +kernel)
def Oi:RowW "turn" "turn" []:=HM (by decide +kernel) (by decide) (by decide +kernel)
structure Shw(N:HandS)(gv rs:Qn):Prop where
 l:N.known.length<=8
 nw:N30 N.now
 gv:∀k,k<N.known.length->N.given[k]?=some (gv k)/\N30 (gv k)
 rs:∀k,k<N.known.length->U0 N k (rs k)/\N30 (rs k)
noncomputable def stD(N:HandS)(f c:Qn):Qd:=[.str<|nS N.now,.str<|YQ<|(List.range N.known.length).filter λk => !decide (c k=0),.list<|(List.range N.known.length).map λk=>.str<|nS (f k) ++ " " ++ nS (c k)]
inductive R_lst(CD CH:Addr):List OT->(OT->Prop)->Prop
 | mk {N:HandS}{gv rs:Qn}{m:Nat}(h:Shw N gv rs)(hm:m=N.known.length):R_lst CD CH [.zow<|InZ CD "hand"<|Zf CH N,.fz<|.int (m:Int)] (λr=>r=.ol (stD N gv rs))
def Co:Qo ["_law_desk","_law_many","_law_some"] ZaE (Q3 DL):=by walk_at"p"
def CU(T:Bl mg)(C:DeskC K CD)(dx:Df K mg "_law_state" DL ZaE)(g:Z5 P w K mg base CD "say" Zat 10 (Zk K<|R_sayZ CD CH)):Q2 P w K mg base "_law_state" ZaE 11 (Zk K<|R_lst CD CH):=by
 refine dx.evD Co (λf ts t h H d o A outer s y=>?_);cases h with
 |@mk N W q m h l=>
  refine#[_,(Qz (BK (i:=2) Co.nd rfl rfl (NX:=["_law_desk","_law_many","_law_some"]) (sc:=Q3 DL) (N:=["_law_k","_law_desk"]) (f:=[none,some 0]) rfl (by decide +kernel) rfl rfl (Y5 rfl T.range<|av 1 Qr) (λ_=>(Zm 0 (show(["_law_k","_law_desk"]:Qh).Nodup by decide +kernel))) (λ_=>ZN) (λ_=>V1) (λ_=>(QJ VE (QJ VE (UI g C.cl y YV (pv 1)<|Qs (QJ VE QK<|ZJ V5 (by rfl) T.str Vi<|av 0 Qr) Qr) QK)<|UI g C.cl y YV (pv 1)<|Qs (QJ VE QK<|ZJ V5 (by rfl) T.str Vi<|av 0 Qr) Qr)) rfl)
 (Qy<|QA<|ZM<|Qs (UI g C.cl y YV (pv 0)<|Qs QK Qr)<|Qs (UI g C.cl y YV (pv 0)<|Qs QK Qr)<|av 2 Qr)),?_]
  walk_at"x";subst l;have e:=h.l;refine Q4 (Vs (r:=.ol ((List.range N.known.length).map λk=>.str<|nS (W k) ++ " " ++ nS (q k))) (M9 (lo:=0) (h:=λk=>.str<|nS (W k) ++ " " ++ nS (q k)) ?ei #[] ?el) ?_)
  case ei=>exact EvI.cast (YK (Qv (Qp rfl) Q1) (by rw[z62];lia)<|by rw[z62];lia) (WX rfl #[])
  case el=>
   intro k j c;refine#[_,Zv,?_];have M:k<8:=#[]
   have Y:(0+(k:Int)).natAbs.log2<1920:=Wy #[] (UR (show(0+(k:Int))<9 by lia)<|by decide +kernel);obtain⟨n,X⟩:=h.gv k j;obtain⟨b,E⟩:=h.rs k j;have B:(0+(k:Int))=(k:Int):=#[]
   have a:=Yn X;have p:=Yn E;have Z:=(Bg k M).2.2;refine VF (VF (BA (by decide +kernel) rfl (Qv (Qq.cast (VF QD (Wp (Qp rfl) Y) ?l1) (d':=.str (Str.ofString "got " ++ nS (k:Int)))<|by rw[B];rfl) Q1)<|.mk (EX M)<|.got j n<|Wy X.lo X.b) QD ?l2) (BA (by decide +kernel) rfl (Qv (Qq.cast (VF QD (Wp (Qp rfl) Y) ?l3) (d':=.str (Str.ofString "rest " ++ nS (k:Int)))<|by rw[B];rfl) Q1)<|.mk (ZrB M)<|.rest b<|Wy E.lo E.b) ?l4
   case l1=>rw[B];exact Xl (XI (show _<=4 by decide) Z) (by decide)
   case l3=>rw[B];exact Xl (XI (show _<=5 by decide) Z) (by decide)
   case l2=>exact Xl (XI a (show _<=1 by decide)) (by decide)
   case l4=>
    rw[Str.length_append];exact Xl (XI (XI a (show _<=1 by decide)) p) (by decide)
  refine Ww 2 rfl ?_;exact Jm (ZY (ds:=stD N W q) (QO (BA (by decide +kernel) rfl (Qv QD Q1)<|.mk Iy<|.now<|Wy h.nw.lo h.nw.b)<|QO (BA (by decide +kernel) rfl (Qv QD Q1)<|.mk LI<|.opn q (λk j=>(h.rs k j).1) e)<|QO (Qp rfl) Z4)<|by show(3:Nat)<=1000;decide) rfl
theorem FA{f:Qn}{t:Nat}:∀{n:Nat},(∀k,k<n->0<=f k)->t<n->f t<=QC f n
 |0,_,h=>#[]
 |n+1,c,h=>by
  rw[QC];have i:=Ld (n:=n) λk g=>c k #[];have j:=c n #[]
  by_cases e:t=n
  . lia
  .have:=FA (λk g=>c k<|#[]) (show t<n by lia);lia
def IT(c:Ql)(f:Qn)(m i:Nat):(gvT c f m i).length=m:=by simp[gvT]
def Tp{f:Qn}{m:Nat}(c:k<m):(gvT gv f m m).getD k 0=gv.getD k 0+f k:=by
 rw[List.getD,Pu c,Xi c];rfl
def AV{y:Yd}(g:Jf y (QP<|mT n gs gv go) φ)(hn:n<y.T)(h:k<gs.length):Zs (QP<|mT n gs gv go) φ n k<=rsT gs gv go k:=by
 have F:=g.1;have f:=by show k<(mT n gs gv go).length;rw[UB];exact h
 have a:=FA (λt i=>(F.tak f i).1) hn;have b:=F.total f;have c:=(F.want f).2;have e:(QP<|mT n gs gv go).wa k=rsT gs gv go k:=by
  show((mT n gs gv go).getD k default).want=_
  rw[SZ h];rfl
 lia
def ZpU{y:Yd}(f:Jf y (QP<|mT n gs gv go) φ)(hn:n<y.T):∀k,k<gs.length->0<=rsT gs (gvT gv (Zs (QP<|mT n gs gv go) φ n) gs.length gs.length) go k:=λk g=>by
 have a:=AV f hn g;unfold rsT at a ⊢;by_cases c:k∈go
 .rw[Xi c];exact UQ _
 .rw[Xg c]at a ⊢;rw[Tp g];lia
def Al:∀m:Nat,m<9->(!decide (YQ (List.range m) = "-")) = !decide (m=0)/\(m=0\/(Txt.split (YQ<|List.range m) " ").length=m)/\(YQ<|List.range m).length<=20:=by decide +kernel
structure DkI(y:Yd)(n:Nat)(gs:List Gs)(gv:Ql)(ms:List Zw):Prop where
 hg:∀x∈gs,G30 y x
 gl:gv.length=gs.length
 h0:∀k,k<gs.length->0<=rsT gs gv [] k
 g0:∀k,k<gs.length->0<=gv.getD k 0
 ml:ms.length=n
def T5(f:List Gs)(c:Ql)(k:Nat):rsT f c [] k=(f.getD k default).want-c.getD k 0:=Xg (by rintro⟨⟩)
def DkI.shw{y:Yd}(I:DkI y n gs gv ms)(hn:n<=8)(l:gs.length<=8):Shw (hT y n gs gv [] ms) (λk=>gv.getD k 0) (rsT gs gv []):=by
 have e:(hT y n gs gv [] ms).known.length=gs.length:=Xf _;have b:∀k,k<gs.length->N30 (gv.getD k 0)/\N30 (rsT gs gv [] k):=λk c=>by
  have f:=I.h0 k c;have g:=I.g0 k c;have h:=(I.hg (gs.getD k default)<|by simp[c]).w;rw[T5]at f ⊢;exact#[#[g,#[]],f,#[]]
 refine#[by rw[e];exact l,Wq hn,λk c=>?_,λk c=>?_]
 .rw[e]at c;exact#[by simp[hT,I.gl,c],(b k c).1]
 .rw[e]at c;exact#[Db I.gl c,(b k c).2]
def DkI.next{y:Yd}(I:DkI y n gs gv ms)(hn:n<y.T)(c:Jf y (QP<|mT n gs gv []) φ):DkI y (n+1) gs (gvT gv (Zs (QP<|mT n gs gv []) φ n) gs.length gs.length) (ms++[gfD (Zs (QP<|mT n gs gv []) φ n) gs.length]):=by
 refine#[I.hg,IT _ _ _ _,ZpU c hn,λk f=>?_,by rw[Xp,I.ml];rfl];rw[Tp f];have a:=I.g0 k f;have b:=(PB I.hg c hn f).lo;lia
def DkI.of0{y:Yd}(I:In0 y gs gv):DkI y 0 gs gv []:=#[I.hg,I.gl,I.h0,λk c=>by rw[I.z0 k c];exact UQ _,rfl]
def O6{y:Yd}(I:In0 y gs gv):((List.range (hT y 0 gs gv [] []).known.length).filter λk => !decide (rsT gs gv [] k=0))=List.range gs.length:=by
 rw[show(hT y 0 gs gv [] []).known.length=gs.length from Xf _,DZ];intro k c;have c:=X6.mp c;have f:=(I.hg (gs.getD k default)<|by simp[c]).ok.w1;have:¬rsT gs gv [] k=0:=by
  rw[T5,I.z0 k c];lia
 simp[this]
def MV(h:Asc a)(k:Asc b):Asc (a++b):=M7 λc f=>by
 rw[B8]at f;exact(Xq.mp f).elim (h.lt c) (k.lt c)
theorem LK{s:Str}(c:Asc s):∀(ps:Qh) (a:Str),Asc a->(∀p∈ps,Asc p)->Asc (Vx s a ps)
 |[],_,h,_=>h
 |p::ps,a,h,k=>by
  rw[W8];exact LK c ps _ (MV (MV h c)<|k p Xb) λx f=>k x (Xe _ f)
def PK:Asc " " := by unfold Asc;decide +kernel
def AT(c:Qk):Asc (YQ c):=by
 unfold YQ;split
 .unfold Asc;decide +kernel
 .cases c with
  |nil=>contradiction
  |cons k c=>
   rw[Xv,Wc];refine LK PK _ _ (U5<|#[]) λp f=>?_;obtain⟨j,_,rfl⟩:=Xo.mp f;exact U5 #[]
def HZ(m:Nat)(h:Asc x):Jj m (.str x):=by
 refine#[?_,XN _];show x.cps.all (· < 0x110000)=true;rw[<- Array.all_toList,J6];intro c f;have:=h.lt c f;exact XH #[]
def IP(h:Shw N gv rs):Y8 (.list<|stD N gv rs):=by
 refine(TJ (m:=1)<|K8 (HZ _<|U5 h.nw.lo)<|K8 (HZ _<|AT _)<|K8 (TJ (m:=0) λd f=>?_) AL).fine (by decide);obtain⟨k,c,rfl⟩:=Xo.mp f;have c:=X6.mp c;exact HZ _ (MV (MV (U5 (h.gv k c).2.lo) PK)<|U5 (h.rs k c).2.lo)
def Wj:Qo ["_law_script","_law_yard_here","_law_guests","_law_k","_law_desk","_law_many","_law_opened","_law_state_here","_law_cell"] ["_law_script"] (Q3 Jl):=by walk_at"p"
def Er{f:Addr}(T:Bl mg)(UD:DeskC K CD)(F:Fun K "law" "law" Jl f fd)(Y:Q2 P w K mg base "_law_cell_at" Zaz 1 (Q9 (K:=K) R_cell))(XbI:Q2 P w K mg base "_law_feed" ["_law_cell"] 1 (Zk K R_feed))(Xcn:Q2 P w K mg base "_law_yard" ZaX 2 (spP K olP R_dyard))(Xco:Q2 P w K mg base "_law_guest" Zam 2 (spP K olP R_dguest))
(Xcp:Q2 P w K mg base "_law_text" Zaw 1 (Q9 (K:=K) R_ltext))(Xcq:HJ P w K mg base "Desk" CD Zbb 10 (spP K (Ba CD "hand"<|Zi CH) R_dinit))(Xbm:Z5 P w K mg base CD "say" Zat 10 (Zk K<|R_sayZ CD CH))(Xcr:Z5 P w K mg base CD "say" Zat 10 (spP K (λN=>InP CD "hand"<|Zi CH N) R_sayT))
(Xcs:Q2 P w K mg base "_law_row" Zay 1 (Zk K R_lrow))(Xct:Q2 P w K mg base "_law_refused" ZaB 11 (Zk K<|R_lref CD CH))(U:Q2 P w K mg base "_law_state" ZaE 11 (Zk K<|R_lst CD CH)):
 FnOk P w K mg base CX0 12 f fd ["_law_script"] (MA K):=by
 refine F.evLaw Wj (λM hl hb H pos cdv A outer s q=>?_);have hu:=q.units;refine#[_,(Qz (QZ 1 Wj.nd<|Q7 Xcn q<|Qs (Q7 XbI q<|Qs (Q7 Y q<|av 0<|Qs Qw Qr) Qr) Qr)
 (Qz (QZ 2 Wj.nd<|ZM Qr)
 (Qz (Vu zN rfl (by exact(Y5 rfl T.range<|Qs (QJ VD (Q7 Y q<|av 0<|Qs Qw Qr) Qw) Qr)) (Zm 3 Wj.nd)<|by exact(Qy<|Zz<|ZL zP zS zT Yg (pv 2)<|Qs (Q7 Xco q<|Qs (Q7 XbI q<|Qs (Q7 Y q<|av 0<|Qs (QJ V0 Qw<|pv 3) Qr) Qr)<|av 1<|Qs Qw Qr) Qr))
 (Qz (QZ 4 Wj.nd<|ZrF Xcq q<|Qs (Q7 Xcp q<|av 1<|av 2 Qr) Qr)
 (Qz (QZ 5 Wj.nd Qw)
 (Qz (QZ 6 Wj.nd<|UI Xbm UD.cl q YV (pv 4)<|Qs QK Qr)
 (Qz (QW (Zl M5 (pv 6) QK<|Zc _) (Qy<|QZ 5 Wj.nd<|Zo ZW (by rfl) T.len ZQ<|Qs (ZL PySem.F.plainAttrs_str PySem.F.slot_str_split PySem.F.type_str_split UJ (pv 6)<|Qs QK Qr) Qr) QV)
 (Qz (Vu zN rfl (by exact(Y5 rfl T.range<|Qs (QJ VD (QJ YM (Q7 Y q<|av 0<|Qs Qw Qr) Qw)<|QJ V0 (QH QI (pv 1) Qw) Qw) Qr)) (Zm 3 Wj.nd)<|by exact(Qy<|Zz<|UI Xcr UD.cl q YV (pv 4)<|Qs QK Qr))
 (Qz (QZ 7 Wj.nd<|Q7 U q<|av 4<|av 5 Qr)
 (Qz (Vu zN rfl (by exact(Y5 rfl T.range<|Qs Qw Qr)) (Zm 3 Wj.nd) (by exact(Qz (QZ 8 Wj.nd<|QJ V0 (Q7 Y q<|av 0<|Qs (QJ V0 Qw<|pv 3) Qr)<|QJ UA Qw<|pv 3)
 (Qz (QW (Vp<|Vc<|Q7 Xct q<|av 4<|Qs (Q7 Xcs q<|Qs (QJ VD (pv 8)<|QJ Go Qw Qw)<|av 1 Qr) Qr) (Qy<|QA YA) QV)
 (Qy<|QW (Zl (MJ hu) (Q7 U q<|av 4<|av 5 Qr) (pv 7)<|Zc _) (Qy<|QA YA) QV)))))
 (Qy<|QA YA))))))))))),?_]
 walk_at"x";have C:∀{Z:Zcs} {te:TE} {k:Int} {E':XK},Z[0]?=some (some<|.scr M)->Qq K te Z (.int k)->0<=k->Qq K (Ve (Q9 (K:=K) R_cell) [] E'<|QM (QF 0)<|QM te QT) Z (.int<|Yu M k):=λe h hk=>QQ (Pb e<|Qv h Q1) (R_cell.mk hk)
 have ok5:∀y:Yd,y.Ok->∀l∈y.ls,l.bs≠[]:=λy W l hl z=>by
  have h1:=W.bl l hl;have h2:=W.t1;rw[z]at h1;have:(0:Nat)=y.T:=h1;lia
 refine Q4 (Ju (Cc (Φ:=λr=>∃y:Yd,y.Ok/\Sq y/\r=.fz (Zd y)) (Wk (Qv (C rfl Qx<|by decide) Q1) R_feed.mk) Q1 λr m=>?_) λr m=>?_)
 .obtain⟨a,b,rfl⟩:=m;exact#[_,_,rfl,R_dyard.mk,λr ds' h=>h]
 obtain⟨y,W,y30,rfl⟩:=m;have t8:=W.t8;walk_at"d";refine Q4 (Vs (ZY (ds:=[]) Z4<|by decide) ?_);walk_at"d";refine Q4 (Ym (ds:=Vy 0 (Yu M 1%5).toNat) (λi E=>∃(o:List Gs) (u:Option OT),o.length=i/\(∀g∈o,G30 y g)/\E=[some<|.scr M,zf<|Zd y,some<|.ol<|o.map QX,u,none,none,none,none,none]) ?ei #[[],none,rfl,(by rintro _ ⟨⟩),rfl] ?st ?fin)
 case ei=>exact YK (Qv (Zy (C rfl Qx<|by decide) Qx<|by decide) Q1) (by rw[z62];lia) (by rw[z62];lia)
 case st=>
  rintro i d _ Q ⟨o,u,e,t,rfl⟩;obtain⟨hi,rfl⟩:=W2 Q;refine#[_,Zv,?_];walk_at"d";refine EE rfl (Cc (Φ:=λr=>∃g:Gs,G30 y g/\r=.fz (QX g)) (Wk (Qv (C rfl (Z8 Qx<|Qp rfl)<|#[]) Q1) R_feed.mk) (Qv (Qp rfl)<|Qv Qx Q1) λr m=>?_) (by simp;lia) (λr m=>?_)
  .obtain⟨a,b,rfl⟩:=m;exact#[_,_,rfl,R_dguest.mk (nw:=0) W,λr ds' h=>h]
  .obtain⟨g,h,rfl⟩:=m;refine#[_,rfl,o++[g],_,by simp[e],λx L=>?_,by rw[Xx];rfl];rcases Xq.mp L with L|L
   .exact t x L
   .rw[Xj.mp L];exact h
 case fin=>
  rintro _ ⟨o,u,e,t,rfl⟩;rw[JS]at e;have n4:o.length<=4:=#[]
  refine Ww 2 rfl ?_;walk_at"d";have X:TxtOk y o:=#[W,λl hl b hb=>(y30 l hl b hb).2,λg h=>(t g h).ok,λg h=>#[(t g h).w,(t g h).m],#[]];refine Q4 (Ju (Zqq (Θ:=λN=>∃j B,j.length<=o.length/\In0 y j B/\N=hT y 0 j B [] []) (Qv (QQ (Qv (Qp rfl)<|Qv (Qp rfl) Q1)<|R_ltext.mk (Gg W) (ok5 y W) (λg h=>Mz W (t g h).ok)<|#[]) Q1) (R_dinit.mk X) ?dm) λr m=>?_)
  case dm=>
   rintro r N' ⟨rfl,j,B,l,I,rfl⟩;exact#[rfl,_,rfl,j,B,l,I,rfl]
  obtain⟨v,_,⟨j,B,l',I,rfl⟩,rfl⟩:=m;walk_at"d";generalize PyData.list (o.map QX)=dg;refine Q4 (Z3 Qx ?_);walk_at"d";have l8:j.length<=8:=#[]
  obtain⟨o1,J,o3⟩:=Al j.length #[];refine Q4 (Z3 (d:=.str (YQ<|List.range j.length)) (Qq.cast (ZoG 4 rfl rfl (BA (by decide +kernel) rfl (Qv QD Q1)<|.mk LI<|.opn (rsT j B []) (λk hk=>Db I.gl<|by simpa [hT] using hk)<|by simpa [hT] using l8))<|by rw[O6 I]) ?_);walk_at"d";refine Q4 (Pf (λE=>E=[some<|.scr M,zf<|Zd y,zf dg,u,zo v<|InP CD "hand"<|Zi CH<|hT y 0 j B [] [],zi (j.length:Int),zf<|.str<|YQ<|List.range j.length,none,none]) (QS (QN.cast (QY<|B2 (Qp rfl) QD) o1) (λc=>?_) λc=>QU ?_) ?_)
  .refine Z3 (d:=.int (j.length:Int)) (Qq.cast (VR<|EvO.fz<|G9 (Qp rfl) QD (by decide +kernel)<|Xl (Nat.add_le_add_right o3 2)<|by decide) ?_) rfl;rw[Xf];rcases J with J|J
   .rw[J]at c;exact Xu c (by decide)
   .rw[J]
  .have z:j.length=0:=by simpa using c
   rw[z];rfl
  rintro _ rfl;have md:=UO (Yu M 1/5) (show(0:Int)<(y.T:Int)+1 by lia);have md0:=WZ (Yu M 1/5) (show(y.T:Int)+1≠0 by lia);refine Q4 (Ym (ds:=Vy 0 (Yu M 1/5%((y.T:Int)+1)).toNat) (λi E=>∃B p u,DkI y i j B p/\E=[some<|.scr M,zf<|Zd y,zf dg,u,zo v<|InP CD "hand"<|Zi CH<|hT y i j B [] p,zi (j.length:Int),zf<|.str<|YQ<|List.range j.length,none,none]) ?ei2 #[B,[],u,DkI.of0 I,rfl] ?st2 ?fin2)
  case ei2=>exact YK (Qv (Zy (Zy (C rfl Qx<|by decide) Qx<|Uo (by decide)<|by decide) (Z8 (Vz (ds:=[PyData.int (y.T:Int),.tuple<|y.ls.map Vj]) (Qp rfl) Qx rfl) Qx)<|#[]) Q1) (by rw[z62];lia) (by rw[z62];lia)
  case st2=>
   rintro i d _ Q ⟨B,p,u,I,rfl⟩;obtain⟨hi,rfl⟩:=W2 Q;refine#[_,Zv,?_];walk_at"d";have O:i<y.T:=#[]
   refine Zn2 (by decide +kernel) rfl (Qv QD Q1) (R_sayT.mk Oi<|R_ansT.mk W I.hg I.gl O I.h0 l8 (by have:=I.ml;lia)) ?_;rintro r N' ⟨φ,R,rfl,rfl⟩;exact#[_,_,_,I.next O R,rfl]
  case fin2=>
   rintro _ ⟨B,p,u,I,rfl⟩;rw[JS]at I ⊢;have O:(Yu M 1/5%((y.T:Int)+1)).toNat<=8:=#[]
   generalize (Yu M 1/5%((y.T:Int)+1)).toNat=n at O I;refine E7 4 rfl ?_;walk_at"d";have G:=I.shw O l8;have ek:j.length=(hT y n j B [] p).known.length:=(Xf _).symm;have ey:(hT y n j B [] p).yard=Zd y:=rfl;generalize hT y n j B [] p=N at G ek ey;have S:=IP G;generalize (λk=>B.getD k 0)=gf at G S;generalize rsT j B []=rf at G S;have D:∀{Z:Zcs} {E':XK},Z[4]?=some (zz<|InZ CD "hand"<|Zf CH N)->Z[5]?=some (zi (j.length:Int))->EvO K (Ve (Zk K<|R_lst CD CH) [] E'<|QM (QF 4)<|QM (QF 5) QT) Z (.ol<|stD N gf rf):=λa b=>Zu.o (Wk (MQ a<|Qv (Qp b) Q1)<|R_lst.mk G ek);refine Q4 (Vs (D rfl rfl) ?_)
   walk_at"d";refine Ww 7 rfl ?_;walk_at"d";refine Q4 (Ym (ds:=Vy 0 10) (λi E=>∃u u',E=[some<|.scr M,zf<|Zd y,zf dg,u,zz<|InZ CD "hand"<|Zf CH N,zi (j.length:Int),zf<|.str<|YQ<|List.range j.length,zf<|.list<|stD N gf rf,u']) ?ei3 #[u,none,rfl] ?st3 ?fin3)
   case ei3=>exact EvI.cast (YK (Qv Qx Q1) (by decide)<|by decide) (WX rfl (by decide))
   case fin3=>
    rintro _ ⟨u,u',rfl⟩;exact Zh WK rfl
   case st3=>
    rintro i d _ Q ⟨u,u',rfl⟩;obtain⟨hi,rfl⟩:=W2 Q;refine#[_,Zv,?_];walk_at"d";refine Q4 (Z3 (Z8 (C rfl (Z8 Qx<|Qp rfl)<|#[])<|Zy Qx (Qp rfl)<|.inl #[by decide,by decide]) ?_);walk_at"d";have hp:GZ 10 30:=#[by decide,by decide,by decide];have hq:(0:Int)<10^(30:Int).toNat:=by decide +kernel
    refine Q4 (QS (b:=false) (Vh (b:=true)<|ZB<|EvO.e<|Zu.o<|ZqQ rfl (Wk (Qv (Zy (Qp rfl) (Zy Qx Qx hp) hq)<|Qv (Qp rfl) Q1)<|R_lrow.mk W<|WZ _<|Int.ne_of_gt hq) λr h=>?_) nf λ_=>QU ?_)
    .obtain⟨d,rfl,h⟩:=h;exact#[d,_,rfl,R_lref.mk ey h,λr h=>h]
    exact QS (b:=false) (QN.cast (QY<|Bk (EvO.fz<|D rfl rfl) (Qp rfl) S S)<|by rw[OF S];rfl) nf (λ_=>QU #[_,_,rfl])
end
inductive DH(K:W.Frag)(x:Str)(st:Stmt):Prop
 |mk {f:Addr}{oc kV dc pm cd ct:Value}{od an:Qj}{sl:Array (Qf)}(a:W.nsIn K mainGlobals x=some (some<|.ref f))(l:K.lookup f=some #[oc,od,.func<|W.fnOf x x (Y0 st) (VS st) (Q3 st) .none kV dc pm an cd ct,sl])(c:W.codeIn K cd x=true)(k:W.keepIn K (.ref f)=true):DH K x st
def DH.df{x:Str}{st:Stmt}(X:K.In h)(G:h.Ns mainGlobals mg)(H:DH K x st)(i:∀(z:Value×Value×Value×Qj×Value×Value) (us:Qe),us.length=ps.length->bindArgs (W.fnOf x x (Y0 st) (VS st) (Q3 st) .none z.1 z.2.1 z.2.2.1 z.2.2.2.1 z.2.2.2.2.1 z.2.2.2.2.2) #[us,[]]=pure (ps.zip us)):Df K mg x st ps:=by
 cases H with
 |mk a l c k=>exact#[_,_,WO l c k,W.mg_of X G a,(WO l c k).binds λkV j f q cd m us g=>i (kV,j,f,q,cd,m) us g]
inductive MH(K:W.Frag)(C:Addr)(m q:Str)(st:Stmt):Prop
 |mk {f:Addr}{oc kV dc pm cd ct:Value}{od an:Qj}{sl:Array (Qf)}(a:W.findIn K (.ref C) m=some (some<|.ref f))(i:W.isFn K (.ref f)=true)(l:K.lookup f=some #[oc,od,.func<|W.fnOf m q (Y0 st) (VS st) (Q3 st) .none kV dc pm an cd ct,sl])(c:W.codeIn K cd q=true)(k:W.keepIn K (.ref f)=true):MH K C m q st
def MH.mf{st:Stmt}(H:MH K C m q st)(h:∀(z:Value×Value×Value×Qj×Value×Value) (us:Qe),us.length=ps.length->bindArgs (W.fnOf m q (Y0 st) (VS st) (Q3 st) .none z.1 z.2.1 z.2.2.1 z.2.2.2.1 z.2.2.2.2.1 z.2.2.2.2.2) #[us,[]]=pure (ps.zip us)):Mf K C m q st ps:=by
 cases H with
 |mk a i l c k=>exact#[_,_,WO l c k,#[a,i,k],(WO l c k).binds λkV j f y cd s us g=>h (kV,j,f,y,cd,s) us g]
@[elab_as_elim] theorem ln1{α:Type}{p:List α->Prop}{us:List α}(h:us.length=1)(k:∀a0,p [a0]):p us:=by
 match us,h with
 |[a0],_=>exact k a0
@[elab_as_elim] theorem ln2{α:Type}{p:List α->Prop}{us:List α}(h:us.length=2)(k:∀a0 a1,p [a0,a1]):p us:=by
 match us,h with
 |[a0,a1],_=>exact k a0 a1
@[elab_as_elim] theorem ln3{α:Type}{p:List α->Prop}{us:List α}(h:us.length=3)(k:∀a0 a1 a2,p [a0,a1,a2]):p us:=by
 match us,h with
 |[a0,a1,a2],_=>exact k a0 a1 a2
@[elab_as_elim] theorem ln4{α:Type}{p:List α->Prop}{us:List α}(h:us.length=4)(k:∀a0 a1 a2 a3,p [a0,a1,a2,a3]):p us:=by
 match us,h with
 |[a0,a1,a2,a3],_=>exact k a0 a1 a2 a3
def ZwF{w:World}  {fa L N:Addr}(X:K.In h)(G:h.Ns mainGlobals mg)(hfa:mg "law"=some (.ref fa))
{q gC g:Addr}{epC:_}{ta0 tb0 ta1 tb1 ta2 tb2 ta3 tb3 ta4 tb4 ta5 tb5 ta6 tb6 ta7 tb7:Tok}
{q1 q2 q3 q4 q5 q6:Addr}
{ct:Addr}
{H CR fR:Addr}{odR anR:Qj}{slR:Array (Qf)}{kVR dcR pmR cdR ctR:Value}
{Y fQ:Addr}{odQ anQ:Qj}{slQ:Array (Qf)}{kVQ dcQ pmQ cdQ ctQ:Value}
{O b a Z:Addr}{od62 F od81 an81 od82 an82 od83 an83 dS dE:Qj}{sl62 sl81 sl82 sl83 slS slE:Array (Qf)}{oc62 r t p A u oc81 kV81 dc81 pm81 D ct81 oc82 kV82 dc82 pm82 z ct82 oc83 kV83 dc83 pm83 x ct83:Value}{tS tE nS nE:Nat}
(aC:W.nsIn K mainGlobals "Net"=some (some<|.ref C))
(aH:W.nsIn K mainGlobals "Hand"=some (some<|.ref CH))
(aD:W.nsIn K mainGlobals "Desk"=some (some<|.ref q))
(h0:DH K "is_whole" NK)
(h1:DH K "is_whole_within" RM)
(h2:DH K "is_amount" Rh)
(h3:DH K "is_tuple_of" Rz)
(h4:DH K "is_above" NZ)
(h5:DH K "are_bounds" DM)
(h6:DH K "is_line" Nx)
(h7:DH K "are_lines" D9)
(h8:DH K "is_yard" N9)
(h9:DH K "is_guest" NH)
(h10:DH K "turns_of" NL)
(h11:DH K "line_count" RA)
(h12:DH K "above_of" NU)
(h13:DH K "bound_at" NY)
(h14:DH K "line_of" Nz)
(h15:DH K "is_there" NJ)
(h16:DH K "want_of" N8)
(h17:DH K "most_of" ND)
(h18:DH K "with_want" Rr)
(h19:DH K "staying_from" RC)
(h20:DH K "guest_node" RB)
(h21:DH K "line_node" Ru)
(h22:DH K "lay_guest" Rq)
(h23:DH K "lay_turn" Re)
(h24:DH K "filled_net" R8)
(h25:DH K "takes_by" DB)
(h26:DH K "greatest_filling" DS)
(h27:DH K "guests_reached" DP)
(h28:DH K "reaching_at" DF)
(h29:DH K "given_at" Ra)
(h30:DH K "given_most" DK)
(h31:DH K "short_of" DC)
(h32:DH K "best_filling" RI)
(h33:DH K "lacking_set" R4)
(h34:DH K "refuse_lack" R5)
(h35:DH K "is_number" D7)
(h36:DH K "are_numbers" DI)
(h37:DH K "is_yard_row" R0)
(h38:DH K "is_line_row" Ry)
(h39:DH K "is_guest_row" RG)
(h40:DH K "is_row_at" Rw)
(h41:DH K "rows_of" D1)
(h42:DH K "numbers_of" DJ)
(h43:DH K "line_told" Rv)
(h44:DH K "yard_told" DA)
(h45:DH K "guests_told" BX)
(h46:DH K "read" Kt)
(h47:DH K "words_of" NG)
(h48:DH K "joined" KR)
(h49:DH K "gifts_answer" DR)
(h50:DH K "bound_answer" RE)
(J:DH K "answer" JX)
(h52:DH K "let_in" Nm)
(h53:DH K "_law_cell_at" RH)
(h54:DH K "_law_feed" Ro)
(h55:DH K "_law_digit" R6)
(h56:DH K "_law_yard" Ri)
(h57:DH K "_law_guest" DO)
(h58:DH K "_law_text" BT)
(h59:DH K "_law_refused" RF)
(h60:DH K "_law_row" NP)
(h61:DH K "_law_state" DL)
(a62:W.nsIn K mainGlobals "law"=some (some<|.ref O))
(l62:K.lookup O=some #[oc62,od62,.func<|W.fnOf "law" "law" (Y0 Jl) (VS Jl) (Q3 Jl) .none r t p F A u,sl62])
(c62:W.codeIn K A "law"=true)
(k62:W.keepIn K (.ref O)=true)
(m63:MH K C "lay" "Net.lay" NB)
(m64:MH K C "lay_one" "Net.lay_one" R1)
(m65:MH K C "flow" "Net.flow" NM)
(m66:MH K C "reached" "Net.reached" R3)
(m67:MH K C "push" "Net.push" DE)
(m68:MH K C "fill" "Net.fill" Rb)
(m69:MH K C "way_to" "Net.way_to" R9)
(m70:MH K CH "now" "Hand.now" Rg)
(m71:MH K CH "come" "Hand.come" Rl)
(m72:MH K CH "turn" "Hand.turn" Rp)
(m73:MH K CH "got" "Hand.got" NQ)
(m74:MH K CH "rest" "Hand.rest" Rt)
(m75:MH K CH "open_ones" "Hand.open_ones" DQ)
(m76:MH K CH "yard_now" "Hand.yard_now" RJ)
(m77:MH K CH "still_there" "Hand.still_there" RN)
(m78:MH K CH "refuse_past" "Hand.refuse_past" RK)
(m79:MH K CH "refuse_number" "Hand.refuse_number" RO)
(I:MH K q "say" "Desk.say" BU)
(a81:W.findIn K (.ref C) "__init__"=some (some<|.ref b))
(i81:W.isFn K (.ref b)=true)
(l81:K.lookup b=some #[oc81,od81,.func<|W.fnOf "__init__" "Net.__init__" (Y0 GK) (VS GK) (Q3 GK) .none kV81 dc81 pm81 an81 D ct81,sl81])
(c81:W.codeIn K D "Net.__init__"=true)
(k81:W.keepIn K (.ref b)=true)
(a82:W.findIn K (.ref CH) "__init__"=some (some<|.ref a))
(i82:W.isFn K (.ref a)=true)
(l82:K.lookup a=some #[oc82,od82,.func<|W.fnOf "__init__" "Hand.__init__" (Y0 GI) (VS GI) (Q3 GI) .none kV82 dc82 pm82 an82 z ct82,sl82])
(c82:W.codeIn K z "Hand.__init__"=true)
(k82:W.keepIn K (.ref a)=true)
(a83:W.findIn K (.ref q) "__init__"=some (some<|.ref Z))
(i83:W.isFn K (.ref Z)=true)
(l83:K.lookup Z=some #[oc83,od83,.func<|W.fnOf "__init__" "Desk.__init__" (Y0 GH) (VS GH) (Q3 GH) .none kV83 dc83 pm83 an83 x ct83,sl83])
(c83:W.codeIn K x "Desk.__init__"=true)
(k83:W.keepIn K (.ref Z)=true)
(pg:W.plainGet K C Str.empty=true)
(hd:W.hasDictIn K C=true)
(po:W.plainOver K C=true)
(sa:W.findIn K (.ref C) "__setattr__"=some (some<|.builtin "object.__setattr__"))
(mk:W.makesIn K C=true)
(kc:W.keepIn K (.ref C)=true)
(Hpg:W.plainGet K CH Str.empty=true)
(Hhd:W.hasDictIn K CH=true)
(Hpo:W.plainOver K CH=true)
(Hsa:W.findIn K (.ref CH) "__setattr__"=some (some<|.builtin "object.__setattr__"))
(Hmk:W.makesIn K CH=true)
(Hkc:W.keepIn K (.ref CH)=true)
(Hn0:W.findIn K (.ref CH) "yard"=some none)
(Hn1:W.findIn K (.ref CH) "present"=some none)
(Hn2:W.findIn K (.ref CH) "known"=some none)
(Hn3:W.findIn K (.ref CH) "given"=some none)
(Hn4:W.findIn K (.ref CH) "gone"=some none)
(Hn5:W.findIn K (.ref CH) "made"=some none)
(Dpg:W.plainGet K q Str.empty=true)
(Dhd:W.hasDictIn K q=true)
(Dpo:W.plainOver K q=true)
(Dsa:W.findIn K (.ref q) "__setattr__"=some (some<|.builtin "object.__setattr__"))
(Dmk:W.makesIn K q=true)
(Dkc:W.keepIn K (.ref q)=true)
(Dn0:W.findIn K (.ref q) "hand"=some none)
(cM:W.nsIn K mainGlobals "COUNTS"=some (some<|.ref gC))
(cL:K.lookup gC=some #[.type "dict",none,.dict (List.toArray [#[hashStr w "come",.str "come" ta0,.int 5 tb0],#[hashStr w "turn",.str "turn" ta1,.int 0 tb1],#[hashStr w "leave",.str "leave" ta2,.int 1 tb2],#[hashStr w "got",.str "got" ta3,.int 1 tb3],#[hashStr w "rest",.str "rest" ta4,.int 1 tb4],#[hashStr w "bound",.str "bound" ta5,.int 3 tb5],#[hashStr w "open",.str "open" ta6,.int 0 tb6],#[hashStr w "now",.str "now" ta7,.int 0 tb7]]) epC,(List.toArray [])])
(cN:(gC==sysModules)=false)
(ux:MO K g=true)
(uK:W.keepIn K (.ref g)=true)
(uN:W.nsIn K mainGlobals "NoRow"=some (some<|.ref g))
(n0:W.findIn K (.ref C) "ends"=some none)
(n1:W.findIn K (.ref C) "rooms"=some none)
(n2:W.findIn K (.ref C) "leaving"=some none)
(n3:W.findIn K (.ref C) "laid"=some none)
(aS:W.nsIn K mainGlobals "START"=some (some<|.ref L))
(lS:K.lookup L=some #[.type "tuple",dS,.seq (List.toArray [.str "start" tS]) nS,slS])
(aE:W.nsIn K mainGlobals "END"=some (some<|.ref N))
(lE:K.lookup N=some #[.type "tuple",dE,.seq (List.toArray [.str "end" tE]) nE,slE])
(rC:W.nsIn K mainGlobals "NoRoom"=some (some<|.ref CR))
(rY:W.nsIn K mainGlobals "YardError"=some (some<|.ref H))
(rf:W.findIn K (.ref CR) "__init__"=some (some<|.ref fR))
(rl:K.lookup fR=some #[.type "function",odR,.func<|W.fnOf "__init__" "NoRoom.__init__" (Y0 GJ) (VS GJ) (Q3 GJ) .none kVR dcR pmR anR cdR ctR,slR])
(rc:W.codeIn K cdR "NoRoom.__init__"=true)
(rk:W.keepIn K (.ref fR)=true)
(rx:MG K CR fR=true)
(rg:W.specialIn K (.ref H) "__getattribute__"=some (some<|.builtin "type.__getattribute__"))
(rr:W.readsIn K H (.type "type")=true)
(ri:W.findCls K (.ref H) (.type "type") "__init__"=some (.val<|.builtin "ValueError.__init__"))
(rs:W.findIn K (.ref CR) "__setattr__"=some (some<|.builtin "object.__setattr__"))
(ro:((W.clsIn K CR).any λcd=>WL cd.mro)=true)
(rd:W.hasDictIn K CR=true)
(rt:W.takerIn K CR "some"=some none)
(rK:W.keepIn K (.ref CR)=true)
(qC:W.nsIn K mainGlobals "NoNumber"=some (some<|.ref Y))
(qf:W.findIn K (.ref Y) "__init__"=some (some<|.ref fQ))
(ql:K.lookup fQ=some #[.type "function",odQ,.func<|W.fnOf "__init__" "NoNumber.__init__" (Y0 GL) (VS GL) (Q3 GL) .none kVQ dcQ pmQ anQ cdQ ctQ,slQ])
(qc:W.codeIn K cdQ "NoNumber.__init__"=true)
(qk:W.keepIn K (.ref fQ)=true)
(qx:MG K Y fQ=true)
(qs:W.findIn K (.ref Y) "__setattr__"=some (some<|.builtin "object.__setattr__"))
(qo:((W.clsIn K Y).any λcd=>WL cd.mro)=true)
(qd:W.hasDictIn K Y=true)
(qt:W.takerIn K Y "number"=some none)
(qK:W.keepIn K (.ref Y)=true)
(ul:W.exmOne K (.ref CR) (.ref CR)=some true)
(ua0:W.nsIn K mainGlobals "NoGuest"=some (some<|.ref q1))
(ua1:W.nsIn K mainGlobals "NoNumber"=some (some<|.ref q2))
(ua2:W.nsIn K mainGlobals "NoRoom"=some (some<|.ref q3))
(ua3:W.nsIn K mainGlobals "NoText"=some (some<|.ref q4))
(ua4:W.nsIn K mainGlobals "NoTime"=some (some<|.ref q5))
(ua5:W.nsIn K mainGlobals "NoYard"=some (some<|.ref q6))
(ue:W.exmOne K (.ref g) (.ref H)=some true)
(up:W.findIn K (.ref g) "__getattribute__"=some (some<|.builtin "BaseException.__getattribute__"))
(uq:W.findIn K (.ref g) "__getattr__"=some none)
(ub:W.mroIn K g (.type "BaseException")=some true)
(ud:W.hasDictIn K g=true)
(ucl:W.findIn K (.ref g) "__class__"=some (some<|.builtin "object.__class__"))
(um:W.mroIn K g (.type "object")=some true)
(us:W.specialIn K (.builtin "object.__class__") "__get__"=some (some<|.builtin "getset_descriptor.__get__"))
(ut:W.takesIn K (.builtin "object.__class__")=some true)
(uk1:W.kitOne K (.ref g) (.ref g)=some true)
(uk2:W.kitOne K (.ref g) (.type "ValueError")=some true)
(uka:W.kitAny K (.ref g) [.ref q1,.ref q2,.ref q3,.ref q4,.ref q5,.ref q6]=some false)
(xa1:W.nsIn K mainGlobals "NoTime"=some (some<|.ref ct))
(tx:MO K ct=true)
(tK:W.keepIn K (.ref ct)=true)
(z0:W.nsIn K mainGlobals "abs"=some none)
(z1:W.nsIn K mainGlobals "len"=some none)
(z2:W.nsIn K mainGlobals "max"=some none)
(z3:W.nsIn K mainGlobals "min"=some none)
(z4:W.nsIn K mainGlobals "sum"=some none)
(z5:W.nsIn K mainGlobals "any"=some none)
(z6:W.nsIn K mainGlobals "all"=some none)
(z7:W.nsIn K mainGlobals "isinstance"=some none)
(z8:W.nsIn K mainGlobals "int"=some none)
(z9:W.nsIn K mainGlobals "bool"=some none)
(z10:W.nsIn K mainGlobals "list"=some none)
(z11:W.nsIn K mainGlobals "tuple"=some none)
(z12:W.nsIn K mainGlobals "range"=some none)
(z13:W.nsIn K mainGlobals "zip"=some none)
(z14:W.nsIn K mainGlobals "enumerate"=some none)
(z15:W.nsIn K mainGlobals "str"=some none)
(z16:W.nsIn K mainGlobals "sorted"=some none)
(z17:W.nsIn K mainGlobals "set"=some none)
(z18:W.nsIn K mainGlobals "dict"=some none)
(z19:W.nsIn K mainGlobals "ValueError"=some none)
 : (∃L N,W.nsIn K mainGlobals "START"=some (some<|.ref L)/\W.nsIn K mainGlobals "END"=some (some<|.ref N)/\KTup K L "start" /\ KTup K N "end")/\∃fd:FuncData,(∀(s:Shared) (v:Value),BindsTo s fd #[[v],[]] [("_law_script",v)])/\∀base:Heap,K.In base->base.Ns mainGlobals mg->FnOk P w K mg base CX0 12 fa fd ["_law_script"] (MA K):=by
 have e:=hfa.symm.trans (W.mg_of X G a62);cases e;have T:Bl mg:=#[W.mg_none_of X G z0,W.mg_none_of X G z1,W.mg_none_of X G z2,W.mg_none_of X G z3,W.mg_none_of X G z4,W.mg_none_of X G z5,W.mg_none_of X G z6,W.mg_none_of X G z7,W.mg_none_of X G z8,W.mg_none_of X G z9,W.mg_none_of X G z10,W.mg_none_of X G z11,W.mg_none_of X G z12,W.mg_none_of X G z13,W.mg_none_of X G z14,W.mg_none_of X G z15,W.mg_none_of X G z16,W.mg_none_of X G z17,W.mg_none_of X G z18,W.mg_none_of X G z19];have m:Tx K mg C L N:=#[#[#[pg,hd,po,sa],n0,n1,n2,n3],W.mg_of X G aS,W.mg_of X G aE,aS,aE];have UD:DeskC K q:=#[#[Dpg,Dhd,Dpo,Dsa],Dn0];have UC:CnT K mg w gC:=#[#[#[_,_,cL,.cons<|.cons<|.cons<|.cons<|.cons<|.cons<|.cons<|.cons .nil],cN],W.mg_of X G cM];have XU:GV K mg "NoRow" g:=#[PV ux,uK,W.mg_of X G uN];have XG:Cv K mg H g q1 q2 q3 q4 q5 q6:=#[ue,W.mg_of X G rY,#[#[up,uq,ub],ud,ucl,us,ut,um],uk1,uk2,uka,W.mg_of X G uN,W.mg_of X G ua0,W.mg_of X G ua1,W.mg_of X G ua2,W.mg_of X G ua3,W.mg_of X G ua4,W.mg_of X G ua5];have i:HandC K CH:=#[#[Hpg,Hhd,Hpo,Hsa],Hn0,Hn1,Hn2,Hn3,Hn4,Hn5];have XR:XC K mg "NoRoom" H CR fR:=#[Ta rx rl rfl rg rr ri,rK,W.mg_of X G rC];have Xcu:=WO (st:=GJ) rl rc rk;have y:=Xcu.binds (ps:=ZaN) λ_ _ _ _ _ _ us c=>ln2 c λ_ _=>rfl;have XQ:XC K mg "NoNumber" H Y fQ:=#[Ta qx ql rfl rg rr ri,qK,W.mg_of X G qC];have Xcv:=WO (st:=GL) ql qc qk;have f:=Xcv.binds (ps:=Zaa) λ_ _ _ _ _ _ us c=>ln2 c λ_ _=>rfl;have XZ:GV K mg "NoTime" ct:=#[PV tx,tK,W.mg_of X G xa1];have Xcz:=WO (st:=Jl) l62 c62 k62;have Xcw:=WO (st:=GK) l81 c81 k81;have B_Net:=Xcw.binds (ps:=Zal) λ_ _ _ _ _ _ us c=>ln1 c λ_=>rfl;have Xcx:=WO (st:=GI) l82 c82 k82;have n:=Xcx.binds (ps:=ZaO) λ_ _ _ _ _ _ us c=>ln2 c λ_ _=>rfl;have Xcy:=WO (st:=GH) l83 c83 k83;have o:=Xcy.binds (ps:=Zbb) λ_ _ _ _ _ _ us c=>ln2 c λ_ _=>rfl;refine#[#[L,N,aS,aE,#[_,_,_,_,lS],#[_,_,_,_,lE]],W.fnOf "law" "law" (Y0 Jl) (VS Jl) (Q3 Jl) .none r t p F A u,λs v=>.of_eq rfl,λbase _ _=>?_];have Xbv:=IX (P:=P) (w:=w) (base:=base) T (h53.df X G λ_ us c=>ln2 c λ_ _=>rfl);have XbI:=EO (P:=P) (w:=w) (base:=base) T (h54.df X G λ_ us c=>ln1 c λ_=>rfl);have Xa4:=Zrn (P:=P) (w:=w) (base:=base) T (h55.df X G λ_ us c=>ln2 c λ_ _=>rfl);have Xcn:=Ox T (h56.df X G λ_ us c=>ln1 c λ_=>rfl) Xa4;have Xco:=Zq6 T (h57.df X G λ_ us c=>ln3 c λ_ _ _=>rfl) Xa4;have Xcp:=OI (P:=P) (w:=w) (base:=base) T (h58.df X G λ_ us c=>ln2 c λ_ _=>rfl);have Xbh:=Os (P:=P) (w:=w) (base:=base) T (h35.df X G λ_ us c=>ln1 c λ_=>rfl);have Xb4:=Zk7 T (h37.df X G λ_ us c=>ln1 c λ_=>rfl) Xbh;have Xbc:=Zoq T (h36.df X G λ_ us c=>ln1 c λ_=>rfl) Xbh;have XbA:=ZkJ T (h38.df X G λ_ us c=>ln1 c λ_=>rfl) Xbh Xbc;have Xbu:=ZiY T (h39.df X G λ_ us c=>ln1 c λ_=>rfl) Xbc;have Xb5:=Zoi T (h40.df X G λ_ us c=>ln2 c λ_ _=>rfl) Xb4 XbA Xbu;have Xb8:=Zp7 T (h41.df X G λ_ us c=>ln1 c λ_=>rfl) Xb5;have B:=Zpu (P:=P) (w:=w) (base:=base) T (h42.df X G λ_ us c=>ln1 c λ_=>rfl);have Xb6:=Zl1 T (h43.df X G λ_ us c=>ln1 c λ_=>rfl) B;have k:=Om (P:=P) (w:=w) (base:=base) T (h3.df X G λ_ us c=>ln2 c λ_ _=>rfl);have XbX:=Zop (P:=P) (w:=w) (base:=base) T (h0.df X G λ_ us c=>ln1 c λ_=>rfl);have M:=Zq5 T (h1.df X G λ_ us c=>ln3 c λ_ _ _=>rfl) XbX;have XbY:=Zog T (h4.df X G λ_ us c=>ln2 c λ_ _=>rfl) M;have Xbs:=Zl7 T (h2.df X G λ_ us c=>ln2 c λ_ _=>rfl) M;have XbZ:=ZjG T (h5.df X G λ_ us c=>ln2 c λ_ _=>rfl) k Xbs;have Xb0:=Zq0 T (h6.df X G λ_ us c=>ln3 c λ_ _ _=>rfl) k XbY XbZ;have Xb1:=ZlM T (h7.df X G λ_ us c=>ln2 c λ_ _=>rfl) Xb0;have Xb7:=Zp5 T (h8.df X G λ_ us c=>ln1 c λ_=>rfl) k M Xb1;have Xb9:=Zlf T (h44.df X G λ_ us c=>ln1 c λ_=>rfl) XbA Xb6 Xb7;have l:=Ov (P:=P) (w:=w) (base:=base) T (h11.df X G λ_ us c=>ln1 c λ_=>rfl);have j:=OQ (P:=P) (w:=w) (base:=base) T (h10.df X G λ_ us c=>ln1 c λ_=>rfl);have Xbt:=Zod T (h9.df X G λ_ us c=>ln2 c λ_ _=>rfl) k M Xbs l j;have Xca:=ZiM T (h45.df X G λ_ us c=>ln2 c λ_ _=>rfl) Xbu B Xbt;have Xcc:=E3 T (h46.df X G λ_ us c=>ln1 c λ_=>rfl) Xb8 Xb9 Xca;have Xcd:HG P w K mg base "Hand" CH ZaO 1:=#[_,_,#[Hmk,a82,i82,Hkc],W.mg_of X G aH,n,IF (P:=P) (w:=w) (base:=base) T i Xcx];have Xbp:=O3 (P:=P) (w:=w) (base:=base) T i XZ (m78.mf λ_ us c=>ln2 c λ_ _=>rfl);have XbO:Ht P w K mg base "Net" C 1:=#[_,_,#[mk,a81,i81,kc],W.mg_of X G aC,B_Net,AF (P:=P) (w:=w) (base:=base) T m Xcw];have XbB:=EQ (P:=P) (w:=w) (base:=base) T m (m64.mf λ_ us c=>ln4 c λ_ _ _ _=>rfl);have Xbn:=Eu T m (m63.mf λ_ us c=>ln4 c λ_ _ _ _=>rfl) XbB;have Xbe:=AU (P:=P) (w:=w) (base:=base) T (h16.df X G λ_ us c=>ln1 c λ_=>rfl);have Xbf:=ZrX (P:=P) (w:=w) (base:=base) T (h20.df X G λ_ us c=>ln1 c λ_=>rfl);have Xbw:=ZrR (P:=P) (w:=w) (base:=base) T (h15.df X G λ_ us c=>ln2 c λ_ _=>rfl);have Xbx:=EW (P:=P) (w:=w) (base:=base) T (h17.df X G λ_ us c=>ln1 c λ_=>rfl);have Xbb:=Ol (P:=P) (w:=w) (base:=base) T (h21.df X G λ_ us c=>ln2 c λ_ _=>rfl);have Xbg:=Zqd (P:=P) (w:=w) (base:=base) T (h14.df X G λ_ us c=>ln1 c λ_=>rfl);have XbP:=ZpS T m (h22.df X G λ_ us c=>ln4 c λ_ _ _ _=>rfl) Xbn Xbe Xbf j Xbw Xbx Xbb Xbg;have Xbd:=Zrm (P:=P) (w:=w) (base:=base) T (h13.df X G λ_ us c=>ln3 c λ_ _ _=>rfl);have Xby:=Zrv (P:=P) (w:=w) (base:=base) T (h12.df X G λ_ us c=>ln2 c λ_ _=>rfl);have XbQ:=ZrE T m (h23.df X G λ_ us c=>ln3 c λ_ _ _=>rfl) Xbn Xbd Xbb l Xby;have Xbr:=Zos (P:=P) (w:=w) (base:=base) T m (m66.mf λ_ us c=>ln2 c λ_ _=>rfl);have XbM:=EY (P:=P) (w:=w) (base:=base) T m (m67.mf λ_ us c=>ln2 c λ_ _=>rfl);have XbN:=Ew (P:=P) (w:=w) (base:=base) T m (m69.mf λ_ us c=>ln3 c λ_ _ _=>rfl);have XbR:=IY T m (m68.mf λ_ us c=>ln3 c λ_ _ _=>rfl) Xbr XbM XbN;have Xbz:=Zqe T m (h24.df X G λ_ us c=>ln2 c λ_ _=>rfl) XbO XbP j XbQ XbR;have XbV:=Zma T m (h27.df X G λ_ us c=>ln2 c λ_ _=>rfl) Xbz Xbr Xbf;have XbC:=IL T (h33.df X G λ_ us c=>ln2 c λ_ _=>rfl) XbV;have XbK:=Zmm T (h28.df X G λ_ us c=>ln4 c λ_ _ _ _=>rfl) l Xbw Xbg Xbx Xby Xbd;have XbL:=Zs2 T (h29.df X G λ_ us c=>ln4 c λ_ _ _ _=>rfl) XbK Xbd;have XbW:=Zqv T (h30.df X G λ_ us c=>ln3 c λ_ _ _=>rfl) j XbL;have XbD:=Zrr T (h31.df X G λ_ us c=>ln3 c λ_ _ _=>rfl) Xbe XbW;have XbE:Be P w K mg base fR ZaN 1 (BE K CR "some"):=#[_,y,Zo6 (P:=P) (w:=w) (base:=base) T Xcu XR.cl #[rs,ro,rd] rt<|W.mg_of X G rY];have XbG:=ZoS T XR (h34.df X G λ_ us c=>ln2 c λ_ _=>rfl) XbC XbD XbE;have Xb2:=OX (P:=P) (w:=w) (base:=base) T (h18.df X G λ_ us c=>ln2 c λ_ _=>rfl);have Xb3:=IN (P:=P) (w:=w) (base:=base) T (h19.df X G λ_ us c=>ln2 c λ_ _=>rfl);have XbF:Be P w K mg base fQ Zaa 1 (BB Y "number"):=#[_,f,Zpt (P:=P) (w:=w) (base:=base) T Xcv XQ.cl #[qs,qo,qd] qt<|W.mg_of X G rY];have Xbo:=Iw T i XQ (m79.mf λ_ us c=>ln2 c λ_ _=>rfl) M XbF;have E:=ZrD T i (m74.mf λ_ us c=>ln2 c λ_ _=>rfl) Xbo Xbe;have Xbq:=ZqY T i (m77.mf λ_ us c=>ln1 c λ_=>rfl) Xb2 Xb3 E;have Xcb:=Oy T i XR (m71.mf λ_ us c=>ln2 c λ_ _=>rfl) Xbt Xbp XbG Xbq;have Xce:=O1 T i XR ul (h52.df X G λ_ us c=>ln2 c λ_ _=>rfl) Xcb;have Xcq:HJ P w K mg base "Desk" q Zbb 10 (spP K (Ba q "hand"<|Zi CH) R_dinit):=#[_,_,#[Dmk,a83,i83,Dkc],W.mg_of X G aD,o,E6 (P:=P) (w:=w) (base:=base) T UD Xcy Xcc Xcd Xce];have Q:=Zry T UC XU (h47.df X G λ_ us c=>ln1 c λ_=>rfl) Xbc;have U:=AZ (P:=P) (w:=w) (base:=base) T i (m70.mf λ_ us c=>ln1 c λ_=>rfl);have S:=Ez T i (m73.mf λ_ us c=>ln2 c λ_ _=>rfl) Xbo;have R:=O8 T i (m75.mf λ_ us c=>ln1 c λ_=>rfl) E;have d:=ZoH (P:=P) (w:=w) (base:=base) T (h48.df X G λ_ us c=>ln1 c λ_=>rfl);have Xcf:=Ih T i (J.df X G λ_ us c=>ln3 c λ_ _ _=>rfl) U S E R d;have Xbm:=EK T UD (I.mf λ_ us c=>ln2 c λ_ _=>rfl) Q B Xcf;have Xcg:=ET T (h49.df X G λ_ us c=>ln1 c λ_=>rfl) d;have XbS:=EU (P:=P) (w:=w) (base:=base) T m (m65.mf λ_ us c=>ln3 c λ_ _ _=>rfl);have XbT:=Zs3 T m (h25.df X G λ_ us c=>ln4 c λ_ _ _ _=>rfl) j XbS Xbb Xbg Xbf;have XbU:=Zru T m (h26.df X G λ_ us c=>ln2 c λ_ _=>rfl) Xbz XbT;have XbH:=Oa T (h32.df X G λ_ us c=>ln2 c λ_ _=>rfl) XbU;have Xch:=Zr6 T i (m72.mf λ_ us c=>ln1 c λ_=>rfl) Xbp j XbH Xbq;have Xci:=ZrN T i (J.df X G λ_ us c=>ln3 c λ_ _ _=>rfl) U S E R d Xcg Xch;have Xcr:=OV T UD (I.mf λ_ us c=>ln2 c λ_ _=>rfl) Q B Xci;have Xcs:=ER (P:=P) (w:=w) (base:=base) T (h60.df X G λ_ us c=>ln2 c λ_ _=>rfl);have Xcj:=OK (P:=P) (w:=w) (base:=base) T i (m76.mf λ_ us c=>ln1 c λ_=>rfl);have Xck:=Im T i XU (h50.df X G λ_ us c=>ln4 c λ_ _ _ _=>rfl) Xcj l j;have Xcl:=ZrQ T i (J.df X G λ_ us c=>ln3 c λ_ _ _=>rfl) U S E R d Xck;have Xcm:=ZrS T UD (I.mf λ_ us c=>ln2 c λ_ _=>rfl) Q B Xcl;have Xct:=Ir T UD XG (h59.df X G λ_ us c=>ln2 c λ_ _=>rfl) Xcm;have XbJ:=CU T UD (h61.df X G λ_ us c=>ln2 c λ_ _=>rfl) Xbm;exact Er T UD Xcz Xbv XbI Xcn Xco Xcp Xcq Xbm Xcr Xcs Xct XbJ
end My
namespace PySem.W.Fast
local macro_rules|`(unseal $x*)=>do return Lean.mkNullNode (<-x.mapM λx=>do return(<-`(def $x:ident:=Nat)).raw)
unseal tw13086630422047528723 tw18228766867194749437 tw14514690041190359545 tw4864819268664050822 tw9174905294121683070 tw3460786505143132841 tw14549171453980461744 tw100290458731951037 tw653039769808711731 tw4311176149176472266 tw7135502960861700043 tw7970817802839559675 tw14473853758481701991 tw5033643809177763007 tw13498279559753132690 tw328767529511469071 tw2408373594621885770 tw2217334450323381217 tw6849103768216015302 tw12656863006796669400 tw4683829568641218850 tw6965249712761268751 tw6957000989999857003 tw14897228513130161659 tw4230197888536677459 tw16064652374130520371 tw7976950973804478853 tw5560680214549685894 tw12072237540187509621 tw4335836686328454089 tw133810541992650267 tw17107953179038158660 tw1347988861874483035 tw2591586577619621782 tw13390108661184895347 tw12738258687559917231 tw16295768477134677510 tw4266780907045338034 tw15244461130563502385 tw11733629546876483158 tw14688221879909512243 tw1097825259016300726 tw3306553346320390717 tw158190803353042898 tw7254111085471884457 tw8118265316679116613 tw6890433383314175181 tw8530408319621260135 tw18274210391063883884 tw13280108237061303995 tw13568111369067366996 tw250537691882380813 tw10491379605070054315 tw10913638414486991085 tw10529407773482706418 tw18125906384588763990 tw13790318750995396561 tw3028665025083643119 tw17453973012440916621 tw2707316163965768088 tw5260104095652531566 tw11704729848815308868 tw9483047805460155145 tw14906534696073709573 tw12452182995427328977 tw12382993010889887172 tw15655318841939876480 tw5519212640371387471 tw10297219536340349712 tw6286664356337847281 tw13801459476005868871 tw12306271343130135425 tw10428745741995860103 tw5812094167436374159 tw15802757266144278187 tw13248758331913261836 tw16561837166206129375 tw3964201674200321683 tw5885704719830265249 tw13795777509731701204 tw3518934886872677305 tw2553757970207226057 tw13512115396878701748 tw10137673840950101019 tw12732989151036514188 tw12932537308826868840 tw4940086420211696812 tw17707458195926158847 tw8406836467874305485 tw3642995853679070064 tw4195325931379900592 tw17738733826152670650 tw16480220305929584592 tw7376894657923041266 tw7640042657958330542 tw14857563444873856179 tw4870646813270880841 tw1773262696442922155 tw18208995777455381147 tw10379045780241692072 tw4126777356054924404 tw9579137877149730695 tw69921579835669865 tw7164168195704476752 tw1762653563570925725 tw4356380698552700567 tw12376676693145116137 tw1016271358861452824 tw16545624075425307450 tw6476129841478625337 tw15732270786888139723 tw13428168225323402831 tw866170117224875047 tw1281739764614543112 tw10223233046188346007 tw6313530806483930438 tw24284685225882315 tw8391420185684914163 tw11333255083380206550 tw15534472394370903999 tw10654073663799943135 tw4174021861486197714 tw2795349525995277717 tw534966415186888059 tw9227469587436568944 tw16740613322075409739 tw3587391146113188676 tw13874829484385347833 tw11832136663718455796 tw8507887915627955862 tw3540697251757763245 tw517265917211566234 tw2349961790594774763 tw182653009257390958 tw10370381296207867525 tw7732924347786087423 tw6316236461900735256 tw6353328361750971525 tw10855163536328836600 tw10774281968944020662 tw6348371945028149237 tw226964002883884834 tw2459745596706495277 tw13931143833782463827 tw5617006000590591512 tw5971915066627424117 tw9211939300252932511 tw3245110944462105393 tw10352020041571755308 tw14556979069513603569 tw9367364090702091811 tw8772073586133649130 tw3970821337226526210 tw69912961148509868 tw16624302099073013659 tw4350812238961389998 tw2547067629346456721 tw15982574139083597079 tw14307755428455940024 tw7752893082576217177 tw10082248533793825427 tw14985579766117310633 tw523656470119756561 tw11023667307045481736 tw13597245361485478044 tw11148301597330494500 tw3456463922015175689 tw74218131100548722 tw2687165471620903109 tw16917496644455832053 tw9364945918978162649 tw6426288334282985391 tw13504446251846715209 tw3661501847235750660 tw530646515583590254 tw5445915970050554619 tw18420690785770368374 tw15362761224600427033 tw6548132727383444100 tw2604250753405267470 tw7390058616973890620 tw7972141669727654681 tw349562256964480017 tw16196945467505328209 tw8232331488452665994 tw18389215522913636672 tw6646052229126856701 tw5135471527163961786 tw16384503655496701083 tw13433556770754146832 tw10727788519130496357 tw6020501601756204675 tw18256877375868453099 tw8994853162651840726 tw2472598268917040892 tw1268735050344734164 tw2051485539623532369 tw13036743597402325429 tw8374658245261348547 tw6397275711562136157 tw1734400292070398909 tw7946111266246540819 tw8630638551609734939 tw14358496132090533723 tw17224730427554120884 tw14028454493185022512 tw5431254878720076006 tw12138138636351257477 tw5527050279432794125 tw15892034601861147389 tw11872683706012608144 tw7365889388163124073 tw6864746962770480594 tw1208626151459987310 tw3440871516758047977 tw8823610941283327731 tw12063722345926487443 tw7505489737958503012 tw15766463457072377205 tw4618269086550951788 tw12224033521215040335 tw7884556225026052742 tw15836773820250212708 tw8759764488188500184 tw10119933929091071993 tw10631968918653205741 tw364371929668408054 tw10800276753525631116 tw18179414913947122505 tw9915976407585062203 tw9977357659935843184 tw1765676361047600596 tw7076711291543353735 tw5693976541612219451 tw2434509187918346080 tw17589481229431389207 tw16173626228933862346 tw11301674228457655346 tw12058091869082796603 tw6241903404870487824 tw15467072139252060011 tw9974475283568651282 tw10533188427235718059 tw14421305862403982485 tw10498580943881995362 tw6072533511308425233 tw4074883811412539241 tw13209608173197360408 tw2577607044302824827 tw13463186835955569950 tw7029413548832206365 tw3367585886991418990 tw3153141517178361011 tw13395259610276572981 tw7891760768523758025 tw4530724633750477220 tw12247641783497000626 tw5284826400711966566 tw13811424628451220872 tw3794727126778249630 tw14035088837282557487 tw1463436486503372611 tw8795656433020929896 tw18393037670125705067 tw16202689554178905247 tw8142728467218063559 tw6220019952887189856 tw1427774721507017617 tw4072034896765636040 tw11790252181339693750 tw6491626521216927469 tw14874369347950349643 tw11525130076576119213 tw13404668905124601027 tw4849425300778399388 tw16418148639477548339 tw13916023027410779402 tw17596865350766931485 tw61921560887596943 tw3175516870883296091 tw15209858867529712824 tw11458933391851184143 tw11124154123982983920 tw14417744015651012004 tw18043262239393774596 tw3278192297341014042 tw8487434355164473189 tw4361902998547857379 tw7882304087283672967 tw7310013409882328039 tw660553713342080709 tw13374234494870440308 tw3824987524938520773 tw1941540858050272108 tw15989049566485296814 tw2805017845054746524 tw9684701255800430270 tw8708950207274575758 tw4536405527515884077 tw4217448996042776113 tw4189823612149804436 tw1887908911574201674 tw17700775279999393073 tw13275256531827661764 tw11632559356022768254 tw8516331235071465828 tw1935674293934255737 tw5403289415976352578 tw6170878930836545603 tw4887150950639103777 tw15536135548951173614 tw14997216800252499931 tw8228770836380943500 tw5686788515612533000 tw14128512974753999612 tw649862274431644379 tw5598022640413808133 tw9617439405144922918 tw9088087446664917657 tw8227692739651613189 tw7216974564727332500 tw7007934146209921351 tw6387738549584540290 tw4174708985624471483 tw3895586402212788657 tw3073000435598490291 tw2819600832295294255 tw24388178545748286 tw2347663723438393324 tw17223619916564316311 tw17042603787432017622 tw15238340822914583855 tw14679416276234173111 tw14487550696425820236 tw13606330322126166342 tw13520456001244458930 tw12619982206570795435 tw11754446995846117424 tw1169522626787362927 tw12151889157419537686 tw4792142465849646706 tw976486954167950026 tw11190426010230978499 tw9153814354830653291 tw9751444727329960425 tw8264364304245296340 tw17835898541948451959 tw10322343359108999801 tw9070231315689689766 tw6237511910619979606 tw5874472674643390848 tw15602465376930336634 tw10213657869554631422 tw16058856270428002482 tw15656830045123716416 tw3889341098459256925 tw3104228294018533287 tw7063748187372652497 tw4071478506563817113 tw3887605466220726388 tw1849525994998549424 tw16202027314336680063 tw13085862675538592348 tw18166186260844825144 tw16285027573103501825 tw11050866591137387216 tw9150772417662437944 tw4810469119002758312 tw3393671062036377220 tw3217093956151768642 tw17156950756643279978 tw2111291652102303874 tw9923754494904290192 tw9409006962205119846 tw9180269992654123186 tw8890429048996405423 tw8455570234365575658 tw8376773214956130586 tw7988869906786842578 tw7933082861584656151 tw7675411549695928582 tw703780836681404588 tw6857677618927442317 tw6737835635121062611 tw6408521857874355035 tw5941319162729832966 tw4628482242659971351 tw4611040488786408611 tw3626609084878043919 tw3502862092193886796 tw2977392481790143926 tw2964950884429800157 tw2876096767727232770 tw2841046136867517401 tw262534902447288826 tw2241703679588163992 tw1966616706457830162 tw1887734979993559356 tw18235992705668427916 tw17910775950287942939 tw17673620457352105411 tw17578498656720727587 tw1751802355162374458 tw16761609125848889420 tw16638714421018356769 tw16453532817142416907 tw15961324537409809255 tw15393385102860528683 tw15360719358192219121 tw15002996222530335621 tw14668367373662536082 tw14648600005351143323 tw14561012218377048699 tw13601868064777843545 tw1319480400953715228 tw1289057364822512808 tw12836229493518583273 tw11836447287671183691 tw11778553466510847957 tw11759908198668352675 tw11219385955804951626 tw10199015077767323748 tw6418397636170205665 tw6343446184182643276 tw2820303118511688322 tw17599689297873099685 tw2603051992656004665 tw2567918131644162376 tw9930455085525551605 tw870170257949133143 tw7753298055985809685 tw7131226542306296017 tw6557125368832853078 tw4181692080588962332 tw4025839246775823647 tw2935034839007701627 tw2796505963635540825 tw18423188203915809310 tw17373184460148555052 tw16598061131394160140 tw16324413489438781097 tw15965451297463282393 tw15397622258158955628 tw15248884807345301073 tw14905814855725878880 tw14413610696273655507 tw12941333066103075926 tw11985869570359237024 tw10998102144669195326 tw10323950179648335217 tw14055405543326735953 tw12277153950539417653 tw10814841836372587638 tw18307662583494191808 tw5361186368286993425 tw16307926680298481094 tw12926857638473692461 tw1318375135759323782 tw9232975663805849521 tw1230967777315770940 tw10865750590645232029 tw15283449167457299475 tw49340100209299271 tw12118963128203847950 tw9943350384867406594 tw8825566831542753563 tw7940995047804744816 tw7831404151676810822 tw6812885330736470058 tw5781242545983238073 tw5751301142642022962 tw4415777509996616008 tw4132084507057861850 tw2889406412386141903 tw2690329510405341160 tw2461265929470328776 tw17855915319016772308 tw17479667003071024246 tw16604939129789874451 tw13426377526164757717 tw12900515347771051237 tw11117640026819077154 tw7433675198905190151 tw3264888467388907326 tw12432703138972676153 tw9249296039685124027 tw18150981977288869763 tw7021353448465948033 tw3509414074589988946 tw2605201109538423020 tw17685939652239034543 tw17612768515255905149 tw11514516129525134342 tw11069068729238948974 tw104921374894042294
end PySem.W.Fast
open PySem PySem.W PyProof.Rows
set_option maxRecDepth 100000 in
set_option maxHeartbeats 0 in
theorem PySem.Challenge.cw_chargeyard_k81_rows_of_no_desk_holds : PySem.Challenge.rw_chargeyard_k81_rows_of_no_desk.Holds := by
 w_on; o_law; k_head; (case hw=>w_witness2)
 k_fill
 refine L2.Zo4 (l:=PySem.Challenge.rw_chargeyard_k81_rows_of_no_desk) (k:=12) (x := "_law_script") rfl rfl #[rfl,by decide,by decide] (λw h Y=>W.kIn_of Y) ?F
 case F=>
  intro w mg fa h KX G hmg
  refine' My.ZwF KX G hmg ?aC ?aH ?aD ?h0 ?h1 ?h2 ?h3 ?h4 ?h5 ?h6 ?h7 ?h8 ?h9 ?h10 ?h11 ?h12 ?h13 ?h14 ?h15 ?h16 ?h17 ?h18 ?h19 ?h20 ?h21 ?h22 ?h23 ?h24 ?h25 ?h26 ?h27 ?h28 ?h29 ?h30 ?h31 ?h32 ?h33 ?h34 ?h35 ?h36 ?h37 ?h38 ?h39 ?h40 ?h41 ?h42 ?h43 ?h44 ?h45 ?h46 ?h47 ?h48 ?h49 ?h50 ?h51 ?h52 ?h53 ?h54 ?h55 ?h56 ?h57 ?h58 ?h59 ?h60 ?h61 ?a62 ?l62 ?c62 ?k62 ?m63 ?m64 ?m65 ?m66 ?m67 ?m68 ?m69 ?m70 ?m71 ?m72 ?m73 ?m74 ?m75 ?m76 ?m77 ?m78 ?m79 ?m80 ?a81 ?i81 ?l81 ?c81 ?k81 ?a82 ?i82 ?l82 ?c82 ?k82 ?a83 ?i83 ?l83 ?c83 ?k83 ?pg ?hd ?po ?sa ?mk ?kc ?Hpg ?Hhd ?Hpo ?Hsa ?Hmk ?Hkc ?Hn0 ?Hn1 ?Hn2 ?Hn3 ?Hn4 ?Hn5 ?Dpg ?Dhd ?Dpo ?Dsa ?Dmk ?Dkc ?Dn0 ?cM ?cL ?cN ?ux ?uK ?uN ?n0 ?n1 ?n2 ?n3 ?aS ?lS ?aE ?lE ?rC ?rY ?rf ?rl ?rc ?rk ?rx ?rg ?rr ?ri ?rs ?ro ?rd ?rt ?rK ?qC ?qf ?ql ?qc ?qk ?qx ?qs ?qo ?qd ?qt ?qK ?ul ?ua0 ?ua1 ?ua2 ?ua3 ?ua4 ?ua5 ?ue ?up ?uq ?ub ?ud ?ucl ?um ?us ?ut ?uk1 ?uk2 ?uka ?xa1 ?tx ?tK ?z0 ?z1 ?z2 ?z3 ?z4 ?z5 ?z6 ?z7 ?z8 ?z9 ?z10 ?z11 ?z12 ?z13 ?z14 ?z15 ?z16 ?z17 ?z18 ?z19
  case aC | aH | aD | a62 | l62 | c62 | k62 | a81 | i81 | l81 | c81 | k81 | a82 | i82 | l82 | c82 | k82 | a83 | i83 | l83 | c83 | k83 | pg | hd | po | sa | mk | kc | Hpg | Hhd | Hpo | Hsa | Hmk | Hkc | Hn0 | Hn1 | Hn2 | Hn3 | Hn4 | Hn5 | Dpg | Dhd | Dpo | Dsa | Dmk | Dkc | Dn0 | cM | cL | uN | uK | n0 | n1 | n2 | n3 | aS | lS | aE | lE | rC | rY | rf | rl | rc | rk | rg | rr | ri | rs | rd | rt | rK | qC | qf | ql | qc | qk | qs | qd | qt | qK | ua0 | ua1 | ua2 | ua3 | ua4 | ua5 | up | uq | ub | ud | ucl | um | us | ut | xa1 | tK | z0 | z1 | z2 | z3 | z4 | z5 | z6 | z7 | z8 | z9 | z10 | z11 | z12 | z13 | z14 | z15 | z16 | z17 | z18 | z19=>k_is
  case cN=>decide
  case uk1 | uk2 | uka=>kit_is
  case ul | ue=>kts_exm
  case h0 | h1 | h2 | h3 | h4 | h5 | h6 | h7 | h8 | h9 | h10 | h11 | h12 | h13 | h14 | h15 | h16 | h17 | h18 | h19 | h20 | h21 | h22 | h23 | h24 | h25 | h26 | h27 | h28 | h29 | h30 | h31 | h32 | h33 | h34 | h35 | h36 | h37 | h38 | h39 | h40 | h41 | h42 | h43 | h44 | h45 | h46 | h47 | h48 | h49 | h50 | h51 | h52 | h53 | h54 | h55 | h56 | h57 | h58 | h59 | h60 | h61=>
   refine' My.DH.mk ?a ?l ?c ?k
   case a | l | c | k=>k_is
  case m63 | m64 | m65 | m66 | m67 | m68 | m69 | m70 | m71 | m72 | m73 | m74 | m75 | m76 | m77 | m78 | m79 | m80=>
   refine' My.MH.mk ?a ?i ?l ?c ?k
   case a | i | l | c | k=>k_is
  case ux | rx | ro | qx | qo | tx=>with_unfolding_all exact Eq.refl true
end
end
